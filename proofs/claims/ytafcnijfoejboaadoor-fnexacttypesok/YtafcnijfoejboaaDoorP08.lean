import Derived.Test.YtafcnijfoejboaaDoorP07
import Derived.Laws.CopyOwn
set_option linter.unusedVariables false
set_option linter.unusedSimpArgs false
namespace Go.Proofs.YtafcnijfoejboaaDoor.W
open Go.RowKit
theorem results_ct {P : Program} {fn : Func} {p q : Tmp} {ty : TypeId} (h : fn.results = #[.cell p ty, .tmp q]) (tmps : Array Value) (w : World) (g : Nat) (t : TypeId) (cs : Array Value) (fr : Nat × Nat) (d : TypeDesc) (v : Value)
    (hp : tmps.getD p undef = .pointer (some ⟨g, 0, none⟩)) (hq : tmps.getD q undef = v) (hg : w.heap[g]? = some (.cells cs t fr))
    (hu : P.underlying ty = some d) (hd : (match d with | .struct _ | .array _ _ => true | _ => false) = true) (hi : (P.info? ty).map (·.size) = some cs.size) :
    (results fn tmps).run P w = .ok (.tuple #[.agg cs, v]) w := by
  have hp' : tmps[p]?.getD undef = .pointer (some ⟨g, 0, none⟩) := by simpa using hp
  have hq' : tmps[q]?.getD undef = v := by simpa using hq
  simp [results, h, hp', hq', asAddr, run_loadVar_row w g t ty cs fr d hg hu hd hi]
theorem pref2 {D : ByteArray} {a b : UInt8} (h : Lib.hasPrefix D.data.toList (⟨#[a, b]⟩ : ByteArray).data.toList = true) : 2 ≤ D.size := by
  have := (List.isPrefixOf_iff_prefix.1 h).length_le
  simpa using this
def NoName (w : World) (e : Ending) (w' : World) : Prop := (∃ (kd code n : Int) (t : ByteArray), e = .returned (.tuple #[.agg #[.int .i64 kd, .string t, .int .i64 n, .int .i64 0, .int .i64 0], .int .i64 code]) ∧ ¬ (code = 0 ∧ kd = 1)) ∧ Below w.heap.size w w'
set_option maxHeartbeats 16000000 in
set_option maxRecDepth 100000 in
theorem readInteger_any (s : ByteArray) (hpos : 0 < s.size) (hd : Pl.dg (Pl.byt s 0) = true) (hs : s.size ≤ 1048576) (w : World) (hE : Errs w) : Calls Tryd.prog 49 #[.string s] w (NoName w) := by
  obtain ⟨D, hD1, hD2, HT'⟩ := trim_any s hpos hd hs
  have HT : Hid (∀ u : World, Calls Tryd.prog 52 #[.string s, .string ⟨#[117, 85]⟩] u fun e w' => e = .returned (.string D) ∧ Below u.heap.size u w') := HT'
  have HE : Hid (Errs w) := hE
  clear HT' hE hd
  go_enter Tryd.func49, Tryd.ntmps49
  go_wp2_with fail
  refine (HT.out _).mono ?_
  rintro e u1 ⟨rfl, g1⟩
  have hz1 : w.heap.size < u1.heap.size := by have := g1.size; simp at this; omega
  have Q1 : Hid (u1.heap[w.heap.size]? = some (.cells #[.int .i64 0, .string ⟨#[]⟩, .int .i64 0, .int .i64 0, .int .i64 0] 74 (0, 0))) := (g1.block w.heap.size (by simp)).trans (heap_alloc_new w _)
  have B1 : Hid (Below w.heap.size w u1) := (below_alloc w _).trans (g1.mono (by simp))
  clear g1 HT
  cases h1 : Lib.hasPrefix D.data.toList (⟨#[48, 120]⟩ : ByteArray).data.toList
  · cases h2 : Lib.hasPrefix D.data.toList (⟨#[48, 88]⟩ : ByteArray).data.toList
    · by_cases hz : ((D[0]'hD1).toNat : Int) = 48
      · cases he : D.toList.isEmpty
        · by_cases hm : (1 : Int) < (s.size : Int) - (D.size : Int)
          · go_wp2_with (first | (go_at_call 53; refine (Tryd.strings_HasPrefix _ _ _).mono ?_; rintro e uu ⟨rfl, ek⟩; rw [ek]; clear ek; first | rw [h1] | rw [h2]) | (refine wpList_store_row rfl 74 _ _ rfl w.heap.size #[.int .i64 0, .string ⟨#[]⟩, .int .i64 0, .int .i64 0, .int .i64 0] ?hx ?hy 74 #[.int .i64 0, .string ⟨#[]⟩, .int .i64 0, .int .i64 0, .int .i64 0] ?hg ?hi ?ho ?h1 ?_; (case hx => rfl); (case hy => rfl); (case hg => exact Q1.out); (case hi => kernel_rfl); (case ho => kernel_rfl); (case h1 => kernel_rfl)))
            refine bodyPost_ret (v := .tuple #[.agg #[.int .i64 0, .string ⟨#[]⟩, .int .i64 0, .int .i64 0, .int .i64 0], .int .i64 2]) ?hr ?hdf ?hQQ
            case hr =>
              refine results_ct Tryd.results49 _ _ (w.heap.size) 74 #[.int .i64 0, .string ⟨#[]⟩, .int .i64 0, .int .i64 0, .int .i64 0] (0, 0) _ (.int .i64 2) ?hp ?hq ?hg Tryd.underlying74 ?hd ?hi
              case hp => rfl
              case hq => rfl
              case hg => exact setRow_heap _ _ _ _ _ _ Q1.out
              case hd => rfl
              case hi => kernel_rfl
            case hdf => rfl
            case hQQ => exact ⟨⟨_, _, _, _, rfl, by omega⟩, below_setRow B1.out (Nat.le_refl _) _⟩
          · go_wp2_with (go_at_call 53; refine (Tryd.strings_HasPrefix _ _ _).mono ?_; rintro e uu ⟨rfl, ek⟩; rw [ek]; clear ek; first | rw [h1] | rw [h2])
            refine (inBase_any _ _ _).mono ?_
            rintro e u2 ⟨⟨d, rfl⟩, g2⟩
            have Q2 : Hid (u2.heap[w.heap.size]? = some (.cells #[.int .i64 0, .string ⟨#[]⟩, .int .i64 0, .int .i64 0, .int .i64 0] 74 (0, 0))) := (g2.block w.heap.size hz1).trans Q1.out
            have B2 : Hid (Below w.heap.size w u2) := B1.out.trans (g2.mono B1.out.size)
            have hz2 : w.heap.size < u2.heap.size := Nat.lt_of_lt_of_le hz1 g2.size
            clear g2
            cases d
            · go_wp2_with (refine wpList_store_row rfl 74 _ _ rfl w.heap.size #[.int .i64 0, .string ⟨#[]⟩, .int .i64 0, .int .i64 0, .int .i64 0] ?hx ?hy 74 #[.int .i64 0, .string ⟨#[]⟩, .int .i64 0, .int .i64 0, .int .i64 0] ?hg ?hi ?ho ?h1 ?_; (case hx => rfl); (case hy => rfl); (case hg => exact Q2.out); (case hi => kernel_rfl); (case ho => kernel_rfl); (case h1 => kernel_rfl))
              refine bodyPost_ret (v := .tuple #[.agg #[.int .i64 0, .string ⟨#[]⟩, .int .i64 0, .int .i64 0, .int .i64 0], .int .i64 2]) ?hr ?hdf ?hQQ
              case hr =>
                refine results_ct Tryd.results49 _ _ (w.heap.size) 74 #[.int .i64 0, .string ⟨#[]⟩, .int .i64 0, .int .i64 0, .int .i64 0] (0, 0) _ (.int .i64 2) ?hp ?hq ?hg Tryd.underlying74 ?hd ?hi
                case hp => rfl
                case hq => rfl
                case hg => exact setRow_heap _ _ _ _ _ _ Q2.out
                case hd => rfl
                case hi => kernel_rfl
              case hdf => rfl
              case hQQ => exact ⟨⟨_, _, _, _, rfl, by omega⟩, below_setRow B2.out (Nat.le_refl _) _⟩
            · go_wp2_with fail
              refine (sParse_any 8 (by decide) _ (by omega) _ (HE.out.keep B2.out)).mono ?_
              rintro e u3 ⟨⟨n, v, rfl, hv⟩, g3⟩
              have Q3 : Hid (u3.heap[w.heap.size]? = some (.cells #[.int .i64 0, .string ⟨#[]⟩, .int .i64 0, .int .i64 0, .int .i64 0] 74 (0, 0))) := (g3.block w.heap.size hz2).trans Q2.out
              have B3 : Hid (Below w.heap.size w u3) := B2.out.trans (g3.mono B2.out.size)
              have hz3 : w.heap.size < u3.heap.size := Nat.lt_of_lt_of_le hz2 g3.size
              clear g3
              rcases hv with rfl | ⟨N, rfl⟩
              · have Q4 : Hid (∀ x, (u3.alloc x).heap[w.heap.size]? = some (.cells #[.int .i64 0, .string ⟨#[]⟩, .int .i64 0, .int .i64 0, .int .i64 0] 74 (0, 0))) := fun x => ((below_alloc u3 x).block w.heap.size hz3).trans Q3.out
                have B4 : Hid (∀ x, Below w.heap.size w (u3.alloc x)) := fun x => B3.out.trans ((below_alloc u3 x).mono B3.out.size)
                by_cases hm1 : (s.size : Int) - (D.size : Int) = 1
                · go_wp2_with (refine wpList_store_row rfl 74 _ _ rfl w.heap.size #[.int .i64 3, .string ⟨#[117]⟩, .int .i64 (wrap64 n), .int .i64 0, .int .i64 0] ?hx ?hy 74 #[.int .i64 0, .string ⟨#[]⟩, .int .i64 0, .int .i64 0, .int .i64 0] ?hg ?hi ?ho ?h1 ?_; (case hx => rfl); (case hy => rfl); (case hg => exact Q4.out _); (case hi => kernel_rfl); (case ho => kernel_rfl); (case h1 => kernel_rfl))
                  refine bodyPost_ret (v := .tuple #[.agg #[.int .i64 3, .string ⟨#[117]⟩, .int .i64 (wrap64 n), .int .i64 0, .int .i64 0], .int .i64 0]) ?hr ?hdf ?hQQ
                  case hr =>
                    refine results_ct Tryd.results49 _ _ (w.heap.size) 74 #[.int .i64 3, .string ⟨#[117]⟩, .int .i64 (wrap64 n), .int .i64 0, .int .i64 0] (0, 0) _ (.int .i64 0) ?hp ?hq ?hg Tryd.underlying74 ?hd ?hi
                    case hp => rfl
                    case hq => rfl
                    case hg => exact setRow_heap _ _ _ _ _ _ (Q4.out _)
                    case hd => rfl
                    case hi => kernel_rfl
                  case hdf => rfl
                  case hQQ => exact ⟨⟨_, _, _, _, rfl, by omega⟩, below_setRow (B4.out _) (Nat.le_refl _) _⟩
                · go_wp2_with (first | (refine wpList_store_row rfl 74 _ _ rfl w.heap.size #[.int .i64 3, .string ⟨#[117]⟩, .int .i64 (wrap64 n), .int .i64 0, .int .i64 0] ?hx ?hy 74 #[.int .i64 0, .string ⟨#[]⟩, .int .i64 0, .int .i64 0, .int .i64 0] ?hg ?hi ?ho ?h1 ?_; (case hx => rfl); (case hy => rfl); (case hg => exact Q4.out _); (case hi => kernel_rfl); (case ho => kernel_rfl); (case h1 => kernel_rfl)) | (refine wpList_store_row rfl 74 _ _ rfl w.heap.size #[.int .i64 3, .string ⟨#[]⟩, .int .i64 (wrap64 n), .int .i64 0, .int .i64 0] ?hx ?hy 74 #[.int .i64 0, .string ⟨#[]⟩, .int .i64 0, .int .i64 0, .int .i64 0] ?hg ?hi ?ho ?h1 ?_; (case hx => rfl); (case hy => rfl); (case hg => exact Q4.out _); (case hi => kernel_rfl); (case ho => kernel_rfl); (case h1 => kernel_rfl)))
                  all_goals first
                    | (refine bodyPost_ret (v := .tuple #[.agg #[.int .i64 3, .string ⟨#[117]⟩, .int .i64 (wrap64 n), .int .i64 0, .int .i64 0], .int .i64 0]) ?hr ?hdf ?hQQ
                       case hr =>
                         refine results_ct Tryd.results49 _ _ (w.heap.size) 74 #[.int .i64 3, .string ⟨#[117]⟩, .int .i64 (wrap64 n), .int .i64 0, .int .i64 0] (0, 0) _ (.int .i64 0) ?hp ?hq ?hg Tryd.underlying74 ?hd ?hi
                         case hp => rfl
                         case hq => rfl
                         case hg => exact setRow_heap _ _ _ _ _ _ (Q4.out _)
                         case hd => rfl
                         case hi => kernel_rfl
                       case hdf => rfl
                       case hQQ => exact ⟨⟨_, _, _, _, rfl, by omega⟩, below_setRow (B4.out _) (Nat.le_refl _) _⟩)
                    | (refine bodyPost_ret (v := .tuple #[.agg #[.int .i64 3, .string ⟨#[]⟩, .int .i64 (wrap64 n), .int .i64 0, .int .i64 0], .int .i64 0]) ?hr ?hdf ?hQQ
                       case hr =>
                         refine results_ct Tryd.results49 _ _ (w.heap.size) 74 #[.int .i64 3, .string ⟨#[]⟩, .int .i64 (wrap64 n), .int .i64 0, .int .i64 0] (0, 0) _ (.int .i64 0) ?hp ?hq ?hg Tryd.underlying74 ?hd ?hi
                         case hp => rfl
                         case hq => rfl
                         case hg => exact setRow_heap _ _ _ _ _ _ (Q4.out _)
                         case hd => rfl
                         case hi => kernel_rfl
                       case hdf => rfl
                       case hQQ => exact ⟨⟨_, _, _, _, rfl, by omega⟩, below_setRow (B4.out _) (Nat.le_refl _) _⟩)
              · go_wp2_with (refine wpList_store_row rfl 74 _ _ rfl w.heap.size #[.int .i64 0, .string ⟨#[]⟩, .int .i64 0, .int .i64 0, .int .i64 0] ?hx ?hy 74 #[.int .i64 0, .string ⟨#[]⟩, .int .i64 0, .int .i64 0, .int .i64 0] ?hg ?hi ?ho ?h1 ?_; (case hx => rfl); (case hy => rfl); (case hg => exact Q3.out); (case hi => kernel_rfl); (case ho => kernel_rfl); (case h1 => kernel_rfl))
                refine bodyPost_ret (v := .tuple #[.agg #[.int .i64 0, .string ⟨#[]⟩, .int .i64 0, .int .i64 0, .int .i64 0], .int .i64 6]) ?hr ?hdf ?hQQ
                case hr =>
                  refine results_ct Tryd.results49 _ _ (w.heap.size) 74 #[.int .i64 0, .string ⟨#[]⟩, .int .i64 0, .int .i64 0, .int .i64 0] (0, 0) _ (.int .i64 6) ?hp ?hq ?hg Tryd.underlying74 ?hd ?hi
                  case hp => rfl
                  case hq => rfl
                  case hg => exact setRow_heap _ _ _ _ _ _ Q3.out
                  case hd => rfl
                  case hi => kernel_rfl
                case hdf => rfl
                case hQQ => exact ⟨⟨_, _, _, _, rfl, by omega⟩, below_setRow B3.out (Nat.le_refl _) _⟩
        · by_cases hm : (1 : Int) < (s.size : Int) - (D.size : Int)
          · go_wp2_with (first | (go_at_call 53; refine (Tryd.strings_HasPrefix _ _ _).mono ?_; rintro e uu ⟨rfl, ek⟩; rw [ek]; clear ek; first | rw [h1] | rw [h2]) | (refine wpList_store_row rfl 74 _ _ rfl w.heap.size #[.int .i64 0, .string ⟨#[]⟩, .int .i64 0, .int .i64 0, .int .i64 0] ?hx ?hy 74 #[.int .i64 0, .string ⟨#[]⟩, .int .i64 0, .int .i64 0, .int .i64 0] ?hg ?hi ?ho ?h1 ?_; (case hx => rfl); (case hy => rfl); (case hg => exact Q1.out); (case hi => kernel_rfl); (case ho => kernel_rfl); (case h1 => kernel_rfl)))
            refine bodyPost_ret (v := .tuple #[.agg #[.int .i64 0, .string ⟨#[]⟩, .int .i64 0, .int .i64 0, .int .i64 0], .int .i64 2]) ?hr ?hdf ?hQQ
            case hr =>
              refine results_ct Tryd.results49 _ _ (w.heap.size) 74 #[.int .i64 0, .string ⟨#[]⟩, .int .i64 0, .int .i64 0, .int .i64 0] (0, 0) _ (.int .i64 2) ?hp ?hq ?hg Tryd.underlying74 ?hd ?hi
              case hp => rfl
              case hq => rfl
              case hg => exact setRow_heap _ _ _ _ _ _ Q1.out
              case hd => rfl
              case hi => kernel_rfl
            case hdf => rfl
            case hQQ => exact ⟨⟨_, _, _, _, rfl, by omega⟩, below_setRow B1.out (Nat.le_refl _) _⟩
          · go_wp2_with (first | (go_at_call 53; refine (Tryd.strings_HasPrefix _ _ _).mono ?_; rintro e uu ⟨rfl, ek⟩; rw [ek]; clear ek; first | rw [h1] | rw [h2]) | (refine wpList_store_row rfl 74 _ _ rfl w.heap.size #[.int .i64 0, .string ⟨#[]⟩, .int .i64 0, .int .i64 0, .int .i64 0] ?hx ?hy 74 #[.int .i64 0, .string ⟨#[]⟩, .int .i64 0, .int .i64 0, .int .i64 0] ?hg ?hi ?ho ?h1 ?_; (case hx => rfl); (case hy => rfl); (case hg => exact Q1.out); (case hi => kernel_rfl); (case ho => kernel_rfl); (case h1 => kernel_rfl)))
            refine bodyPost_ret (v := .tuple #[.agg #[.int .i64 0, .string ⟨#[]⟩, .int .i64 0, .int .i64 0, .int .i64 0], .int .i64 2]) ?hr ?hdf ?hQQ
            case hr =>
              refine results_ct Tryd.results49 _ _ (w.heap.size) 74 #[.int .i64 0, .string ⟨#[]⟩, .int .i64 0, .int .i64 0, .int .i64 0] (0, 0) _ (.int .i64 2) ?hp ?hq ?hg Tryd.underlying74 ?hd ?hi
              case hp => rfl
              case hq => rfl
              case hg => exact setRow_heap _ _ _ _ _ _ Q1.out
              case hd => rfl
              case hi => kernel_rfl
            case hdf => rfl
            case hQQ => exact ⟨⟨_, _, _, _, rfl, by omega⟩, below_setRow B1.out (Nat.le_refl _) _⟩
      · cases he : D.toList.isEmpty
        · by_cases hm : (1 : Int) < (s.size : Int) - (D.size : Int)
          · go_wp2_with (first | (go_at_call 53; refine (Tryd.strings_HasPrefix _ _ _).mono ?_; rintro e uu ⟨rfl, ek⟩; rw [ek]; clear ek; first | rw [h1] | rw [h2]) | (refine wpList_store_row rfl 74 _ _ rfl w.heap.size #[.int .i64 0, .string ⟨#[]⟩, .int .i64 0, .int .i64 0, .int .i64 0] ?hx ?hy 74 #[.int .i64 0, .string ⟨#[]⟩, .int .i64 0, .int .i64 0, .int .i64 0] ?hg ?hi ?ho ?h1 ?_; (case hx => rfl); (case hy => rfl); (case hg => exact Q1.out); (case hi => kernel_rfl); (case ho => kernel_rfl); (case h1 => kernel_rfl)))
            refine bodyPost_ret (v := .tuple #[.agg #[.int .i64 0, .string ⟨#[]⟩, .int .i64 0, .int .i64 0, .int .i64 0], .int .i64 2]) ?hr ?hdf ?hQQ
            case hr =>
              refine results_ct Tryd.results49 _ _ (w.heap.size) 74 #[.int .i64 0, .string ⟨#[]⟩, .int .i64 0, .int .i64 0, .int .i64 0] (0, 0) _ (.int .i64 2) ?hp ?hq ?hg Tryd.underlying74 ?hd ?hi
              case hp => rfl
              case hq => rfl
              case hg => exact setRow_heap _ _ _ _ _ _ Q1.out
              case hd => rfl
              case hi => kernel_rfl
            case hdf => rfl
            case hQQ => exact ⟨⟨_, _, _, _, rfl, by omega⟩, below_setRow B1.out (Nat.le_refl _) _⟩
          · go_wp2_with (go_at_call 53; refine (Tryd.strings_HasPrefix _ _ _).mono ?_; rintro e uu ⟨rfl, ek⟩; rw [ek]; clear ek; first | rw [h1] | rw [h2])
            refine (inBase_any _ _ _).mono ?_
            rintro e u2 ⟨⟨d, rfl⟩, g2⟩
            have Q2 : Hid (u2.heap[w.heap.size]? = some (.cells #[.int .i64 0, .string ⟨#[]⟩, .int .i64 0, .int .i64 0, .int .i64 0] 74 (0, 0))) := (g2.block w.heap.size hz1).trans Q1.out
            have B2 : Hid (Below w.heap.size w u2) := B1.out.trans (g2.mono B1.out.size)
            have hz2 : w.heap.size < u2.heap.size := Nat.lt_of_lt_of_le hz1 g2.size
            clear g2
            cases d
            · go_wp2_with (refine wpList_store_row rfl 74 _ _ rfl w.heap.size #[.int .i64 0, .string ⟨#[]⟩, .int .i64 0, .int .i64 0, .int .i64 0] ?hx ?hy 74 #[.int .i64 0, .string ⟨#[]⟩, .int .i64 0, .int .i64 0, .int .i64 0] ?hg ?hi ?ho ?h1 ?_; (case hx => rfl); (case hy => rfl); (case hg => exact Q2.out); (case hi => kernel_rfl); (case ho => kernel_rfl); (case h1 => kernel_rfl))
              refine bodyPost_ret (v := .tuple #[.agg #[.int .i64 0, .string ⟨#[]⟩, .int .i64 0, .int .i64 0, .int .i64 0], .int .i64 2]) ?hr ?hdf ?hQQ
              case hr =>
                refine results_ct Tryd.results49 _ _ (w.heap.size) 74 #[.int .i64 0, .string ⟨#[]⟩, .int .i64 0, .int .i64 0, .int .i64 0] (0, 0) _ (.int .i64 2) ?hp ?hq ?hg Tryd.underlying74 ?hd ?hi
                case hp => rfl
                case hq => rfl
                case hg => exact setRow_heap _ _ _ _ _ _ Q2.out
                case hd => rfl
                case hi => kernel_rfl
              case hdf => rfl
              case hQQ => exact ⟨⟨_, _, _, _, rfl, by omega⟩, below_setRow B2.out (Nat.le_refl _) _⟩
            · go_wp2_with fail
              refine (sParse_any 10 (by decide) _ (by omega) _ (HE.out.keep B2.out)).mono ?_
              rintro e u3 ⟨⟨n, v, rfl, hv⟩, g3⟩
              have Q3 : Hid (u3.heap[w.heap.size]? = some (.cells #[.int .i64 0, .string ⟨#[]⟩, .int .i64 0, .int .i64 0, .int .i64 0] 74 (0, 0))) := (g3.block w.heap.size hz2).trans Q2.out
              have B3 : Hid (Below w.heap.size w u3) := B2.out.trans (g3.mono B2.out.size)
              have hz3 : w.heap.size < u3.heap.size := Nat.lt_of_lt_of_le hz2 g3.size
              clear g3
              rcases hv with rfl | ⟨N, rfl⟩
              · have Q4 : Hid (∀ x, (u3.alloc x).heap[w.heap.size]? = some (.cells #[.int .i64 0, .string ⟨#[]⟩, .int .i64 0, .int .i64 0, .int .i64 0] 74 (0, 0))) := fun x => ((below_alloc u3 x).block w.heap.size hz3).trans Q3.out
                have B4 : Hid (∀ x, Below w.heap.size w (u3.alloc x)) := fun x => B3.out.trans ((below_alloc u3 x).mono B3.out.size)
                by_cases hm1 : (s.size : Int) - (D.size : Int) = 1
                · go_wp2_with (refine wpList_store_row rfl 74 _ _ rfl w.heap.size #[.int .i64 3, .string ⟨#[117]⟩, .int .i64 (wrap64 n), .int .i64 0, .int .i64 0] ?hx ?hy 74 #[.int .i64 0, .string ⟨#[]⟩, .int .i64 0, .int .i64 0, .int .i64 0] ?hg ?hi ?ho ?h1 ?_; (case hx => rfl); (case hy => rfl); (case hg => exact Q4.out _); (case hi => kernel_rfl); (case ho => kernel_rfl); (case h1 => kernel_rfl))
                  refine bodyPost_ret (v := .tuple #[.agg #[.int .i64 3, .string ⟨#[117]⟩, .int .i64 (wrap64 n), .int .i64 0, .int .i64 0], .int .i64 0]) ?hr ?hdf ?hQQ
                  case hr =>
                    refine results_ct Tryd.results49 _ _ (w.heap.size) 74 #[.int .i64 3, .string ⟨#[117]⟩, .int .i64 (wrap64 n), .int .i64 0, .int .i64 0] (0, 0) _ (.int .i64 0) ?hp ?hq ?hg Tryd.underlying74 ?hd ?hi
                    case hp => rfl
                    case hq => rfl
                    case hg => exact setRow_heap _ _ _ _ _ _ (Q4.out _)
                    case hd => rfl
                    case hi => kernel_rfl
                  case hdf => rfl
                  case hQQ => exact ⟨⟨_, _, _, _, rfl, by omega⟩, below_setRow (B4.out _) (Nat.le_refl _) _⟩
                · go_wp2_with (first | (refine wpList_store_row rfl 74 _ _ rfl w.heap.size #[.int .i64 3, .string ⟨#[117]⟩, .int .i64 (wrap64 n), .int .i64 0, .int .i64 0] ?hx ?hy 74 #[.int .i64 0, .string ⟨#[]⟩, .int .i64 0, .int .i64 0, .int .i64 0] ?hg ?hi ?ho ?h1 ?_; (case hx => rfl); (case hy => rfl); (case hg => exact Q4.out _); (case hi => kernel_rfl); (case ho => kernel_rfl); (case h1 => kernel_rfl)) | (refine wpList_store_row rfl 74 _ _ rfl w.heap.size #[.int .i64 3, .string ⟨#[]⟩, .int .i64 (wrap64 n), .int .i64 0, .int .i64 0] ?hx ?hy 74 #[.int .i64 0, .string ⟨#[]⟩, .int .i64 0, .int .i64 0, .int .i64 0] ?hg ?hi ?ho ?h1 ?_; (case hx => rfl); (case hy => rfl); (case hg => exact Q4.out _); (case hi => kernel_rfl); (case ho => kernel_rfl); (case h1 => kernel_rfl)))
                  all_goals first
                    | (refine bodyPost_ret (v := .tuple #[.agg #[.int .i64 3, .string ⟨#[117]⟩, .int .i64 (wrap64 n), .int .i64 0, .int .i64 0], .int .i64 0]) ?hr ?hdf ?hQQ
                       case hr =>
                         refine results_ct Tryd.results49 _ _ (w.heap.size) 74 #[.int .i64 3, .string ⟨#[117]⟩, .int .i64 (wrap64 n), .int .i64 0, .int .i64 0] (0, 0) _ (.int .i64 0) ?hp ?hq ?hg Tryd.underlying74 ?hd ?hi
                         case hp => rfl
                         case hq => rfl
                         case hg => exact setRow_heap _ _ _ _ _ _ (Q4.out _)
                         case hd => rfl
                         case hi => kernel_rfl
                       case hdf => rfl
                       case hQQ => exact ⟨⟨_, _, _, _, rfl, by omega⟩, below_setRow (B4.out _) (Nat.le_refl _) _⟩)
                    | (refine bodyPost_ret (v := .tuple #[.agg #[.int .i64 3, .string ⟨#[]⟩, .int .i64 (wrap64 n), .int .i64 0, .int .i64 0], .int .i64 0]) ?hr ?hdf ?hQQ
                       case hr =>
                         refine results_ct Tryd.results49 _ _ (w.heap.size) 74 #[.int .i64 3, .string ⟨#[]⟩, .int .i64 (wrap64 n), .int .i64 0, .int .i64 0] (0, 0) _ (.int .i64 0) ?hp ?hq ?hg Tryd.underlying74 ?hd ?hi
                         case hp => rfl
                         case hq => rfl
                         case hg => exact setRow_heap _ _ _ _ _ _ (Q4.out _)
                         case hd => rfl
                         case hi => kernel_rfl
                       case hdf => rfl
                       case hQQ => exact ⟨⟨_, _, _, _, rfl, by omega⟩, below_setRow (B4.out _) (Nat.le_refl _) _⟩)
              · go_wp2_with (refine wpList_store_row rfl 74 _ _ rfl w.heap.size #[.int .i64 0, .string ⟨#[]⟩, .int .i64 0, .int .i64 0, .int .i64 0] ?hx ?hy 74 #[.int .i64 0, .string ⟨#[]⟩, .int .i64 0, .int .i64 0, .int .i64 0] ?hg ?hi ?ho ?h1 ?_; (case hx => rfl); (case hy => rfl); (case hg => exact Q3.out); (case hi => kernel_rfl); (case ho => kernel_rfl); (case h1 => kernel_rfl))
                refine bodyPost_ret (v := .tuple #[.agg #[.int .i64 0, .string ⟨#[]⟩, .int .i64 0, .int .i64 0, .int .i64 0], .int .i64 6]) ?hr ?hdf ?hQQ
                case hr =>
                  refine results_ct Tryd.results49 _ _ (w.heap.size) 74 #[.int .i64 0, .string ⟨#[]⟩, .int .i64 0, .int .i64 0, .int .i64 0] (0, 0) _ (.int .i64 6) ?hp ?hq ?hg Tryd.underlying74 ?hd ?hi
                  case hp => rfl
                  case hq => rfl
                  case hg => exact setRow_heap _ _ _ _ _ _ Q3.out
                  case hd => rfl
                  case hi => kernel_rfl
                case hdf => rfl
                case hQQ => exact ⟨⟨_, _, _, _, rfl, by omega⟩, below_setRow B3.out (Nat.le_refl _) _⟩
        · by_cases hm : (1 : Int) < (s.size : Int) - (D.size : Int)
          · go_wp2_with (first | (go_at_call 53; refine (Tryd.strings_HasPrefix _ _ _).mono ?_; rintro e uu ⟨rfl, ek⟩; rw [ek]; clear ek; first | rw [h1] | rw [h2]) | (refine wpList_store_row rfl 74 _ _ rfl w.heap.size #[.int .i64 0, .string ⟨#[]⟩, .int .i64 0, .int .i64 0, .int .i64 0] ?hx ?hy 74 #[.int .i64 0, .string ⟨#[]⟩, .int .i64 0, .int .i64 0, .int .i64 0] ?hg ?hi ?ho ?h1 ?_; (case hx => rfl); (case hy => rfl); (case hg => exact Q1.out); (case hi => kernel_rfl); (case ho => kernel_rfl); (case h1 => kernel_rfl)))
            refine bodyPost_ret (v := .tuple #[.agg #[.int .i64 0, .string ⟨#[]⟩, .int .i64 0, .int .i64 0, .int .i64 0], .int .i64 2]) ?hr ?hdf ?hQQ
            case hr =>
              refine results_ct Tryd.results49 _ _ (w.heap.size) 74 #[.int .i64 0, .string ⟨#[]⟩, .int .i64 0, .int .i64 0, .int .i64 0] (0, 0) _ (.int .i64 2) ?hp ?hq ?hg Tryd.underlying74 ?hd ?hi
              case hp => rfl
              case hq => rfl
              case hg => exact setRow_heap _ _ _ _ _ _ Q1.out
              case hd => rfl
              case hi => kernel_rfl
            case hdf => rfl
            case hQQ => exact ⟨⟨_, _, _, _, rfl, by omega⟩, below_setRow B1.out (Nat.le_refl _) _⟩
          · go_wp2_with (first | (go_at_call 53; refine (Tryd.strings_HasPrefix _ _ _).mono ?_; rintro e uu ⟨rfl, ek⟩; rw [ek]; clear ek; first | rw [h1] | rw [h2]) | (refine wpList_store_row rfl 74 _ _ rfl w.heap.size #[.int .i64 0, .string ⟨#[]⟩, .int .i64 0, .int .i64 0, .int .i64 0] ?hx ?hy 74 #[.int .i64 0, .string ⟨#[]⟩, .int .i64 0, .int .i64 0, .int .i64 0] ?hg ?hi ?ho ?h1 ?_; (case hx => rfl); (case hy => rfl); (case hg => exact Q1.out); (case hi => kernel_rfl); (case ho => kernel_rfl); (case h1 => kernel_rfl)))
            refine bodyPost_ret (v := .tuple #[.agg #[.int .i64 0, .string ⟨#[]⟩, .int .i64 0, .int .i64 0, .int .i64 0], .int .i64 2]) ?hr ?hdf ?hQQ
            case hr =>
              refine results_ct Tryd.results49 _ _ (w.heap.size) 74 #[.int .i64 0, .string ⟨#[]⟩, .int .i64 0, .int .i64 0, .int .i64 0] (0, 0) _ (.int .i64 2) ?hp ?hq ?hg Tryd.underlying74 ?hd ?hi
              case hp => rfl
              case hq => rfl
              case hg => exact setRow_heap _ _ _ _ _ _ Q1.out
              case hd => rfl
              case hi => kernel_rfl
            case hdf => rfl
            case hQQ => exact ⟨⟨_, _, _, _, rfl, by omega⟩, below_setRow B1.out (Nat.le_refl _) _⟩
    · have hp2 := pref2 h2
      cases he : (D.extract 2 D.size).toList.isEmpty
      · by_cases hm : (1 : Int) < (s.size : Int) - (D.size : Int)
        · go_wp2_with (first | (go_at_call 53; refine (Tryd.strings_HasPrefix _ _ _).mono ?_; rintro e uu ⟨rfl, ek⟩; rw [ek]; clear ek; first | rw [h1] | rw [h2]) | (refine wpList_store_row rfl 74 _ _ rfl w.heap.size #[.int .i64 0, .string ⟨#[]⟩, .int .i64 0, .int .i64 0, .int .i64 0] ?hx ?hy 74 #[.int .i64 0, .string ⟨#[]⟩, .int .i64 0, .int .i64 0, .int .i64 0] ?hg ?hi ?ho ?h1 ?_; (case hx => rfl); (case hy => rfl); (case hg => exact Q1.out); (case hi => kernel_rfl); (case ho => kernel_rfl); (case h1 => kernel_rfl)))
          refine bodyPost_ret (v := .tuple #[.agg #[.int .i64 0, .string ⟨#[]⟩, .int .i64 0, .int .i64 0, .int .i64 0], .int .i64 2]) ?hr ?hdf ?hQQ
          case hr =>
            refine results_ct Tryd.results49 _ _ (w.heap.size) 74 #[.int .i64 0, .string ⟨#[]⟩, .int .i64 0, .int .i64 0, .int .i64 0] (0, 0) _ (.int .i64 2) ?hp ?hq ?hg Tryd.underlying74 ?hd ?hi
            case hp => rfl
            case hq => rfl
            case hg => exact setRow_heap _ _ _ _ _ _ Q1.out
            case hd => rfl
            case hi => kernel_rfl
          case hdf => rfl
          case hQQ => exact ⟨⟨_, _, _, _, rfl, by omega⟩, below_setRow B1.out (Nat.le_refl _) _⟩
        · go_wp2_with (go_at_call 53; refine (Tryd.strings_HasPrefix _ _ _).mono ?_; rintro e uu ⟨rfl, ek⟩; rw [ek]; clear ek; first | rw [h1] | rw [h2])
          refine (inBase_any _ _ _).mono ?_
          rintro e u2 ⟨⟨d, rfl⟩, g2⟩
          have Q2 : Hid (u2.heap[w.heap.size]? = some (.cells #[.int .i64 0, .string ⟨#[]⟩, .int .i64 0, .int .i64 0, .int .i64 0] 74 (0, 0))) := (g2.block w.heap.size hz1).trans Q1.out
          have B2 : Hid (Below w.heap.size w u2) := B1.out.trans (g2.mono B1.out.size)
          have hz2 : w.heap.size < u2.heap.size := Nat.lt_of_lt_of_le hz1 g2.size
          clear g2
          cases d
          · go_wp2_with (refine wpList_store_row rfl 74 _ _ rfl w.heap.size #[.int .i64 0, .string ⟨#[]⟩, .int .i64 0, .int .i64 0, .int .i64 0] ?hx ?hy 74 #[.int .i64 0, .string ⟨#[]⟩, .int .i64 0, .int .i64 0, .int .i64 0] ?hg ?hi ?ho ?h1 ?_; (case hx => rfl); (case hy => rfl); (case hg => exact Q2.out); (case hi => kernel_rfl); (case ho => kernel_rfl); (case h1 => kernel_rfl))
            refine bodyPost_ret (v := .tuple #[.agg #[.int .i64 0, .string ⟨#[]⟩, .int .i64 0, .int .i64 0, .int .i64 0], .int .i64 2]) ?hr ?hdf ?hQQ
            case hr =>
              refine results_ct Tryd.results49 _ _ (w.heap.size) 74 #[.int .i64 0, .string ⟨#[]⟩, .int .i64 0, .int .i64 0, .int .i64 0] (0, 0) _ (.int .i64 2) ?hp ?hq ?hg Tryd.underlying74 ?hd ?hi
              case hp => rfl
              case hq => rfl
              case hg => exact setRow_heap _ _ _ _ _ _ Q2.out
              case hd => rfl
              case hi => kernel_rfl
            case hdf => rfl
            case hQQ => exact ⟨⟨_, _, _, _, rfl, by omega⟩, below_setRow B2.out (Nat.le_refl _) _⟩
          · go_wp2_with fail
            refine (sParse_any 16 (by decide) _ (by rw [ByteArray.size_extract]; omega) _ (HE.out.keep B2.out)).mono ?_
            rintro e u3 ⟨⟨n, v, rfl, hv⟩, g3⟩
            have Q3 : Hid (u3.heap[w.heap.size]? = some (.cells #[.int .i64 0, .string ⟨#[]⟩, .int .i64 0, .int .i64 0, .int .i64 0] 74 (0, 0))) := (g3.block w.heap.size hz2).trans Q2.out
            have B3 : Hid (Below w.heap.size w u3) := B2.out.trans (g3.mono B2.out.size)
            have hz3 : w.heap.size < u3.heap.size := Nat.lt_of_lt_of_le hz2 g3.size
            clear g3
            rcases hv with rfl | ⟨N, rfl⟩
            · have Q4 : Hid (∀ x, (u3.alloc x).heap[w.heap.size]? = some (.cells #[.int .i64 0, .string ⟨#[]⟩, .int .i64 0, .int .i64 0, .int .i64 0] 74 (0, 0))) := fun x => ((below_alloc u3 x).block w.heap.size hz3).trans Q3.out
              have B4 : Hid (∀ x, Below w.heap.size w (u3.alloc x)) := fun x => B3.out.trans ((below_alloc u3 x).mono B3.out.size)
              by_cases hm1 : (s.size : Int) - (D.size : Int) = 1
              · go_wp2_with (refine wpList_store_row rfl 74 _ _ rfl w.heap.size #[.int .i64 3, .string ⟨#[117]⟩, .int .i64 (wrap64 n), .int .i64 0, .int .i64 0] ?hx ?hy 74 #[.int .i64 0, .string ⟨#[]⟩, .int .i64 0, .int .i64 0, .int .i64 0] ?hg ?hi ?ho ?h1 ?_; (case hx => rfl); (case hy => rfl); (case hg => exact Q4.out _); (case hi => kernel_rfl); (case ho => kernel_rfl); (case h1 => kernel_rfl))
                refine bodyPost_ret (v := .tuple #[.agg #[.int .i64 3, .string ⟨#[117]⟩, .int .i64 (wrap64 n), .int .i64 0, .int .i64 0], .int .i64 0]) ?hr ?hdf ?hQQ
                case hr =>
                  refine results_ct Tryd.results49 _ _ (w.heap.size) 74 #[.int .i64 3, .string ⟨#[117]⟩, .int .i64 (wrap64 n), .int .i64 0, .int .i64 0] (0, 0) _ (.int .i64 0) ?hp ?hq ?hg Tryd.underlying74 ?hd ?hi
                  case hp => rfl
                  case hq => rfl
                  case hg => exact setRow_heap _ _ _ _ _ _ (Q4.out _)
                  case hd => rfl
                  case hi => kernel_rfl
                case hdf => rfl
                case hQQ => exact ⟨⟨_, _, _, _, rfl, by omega⟩, below_setRow (B4.out _) (Nat.le_refl _) _⟩
              · go_wp2_with (first | (refine wpList_store_row rfl 74 _ _ rfl w.heap.size #[.int .i64 3, .string ⟨#[117]⟩, .int .i64 (wrap64 n), .int .i64 0, .int .i64 0] ?hx ?hy 74 #[.int .i64 0, .string ⟨#[]⟩, .int .i64 0, .int .i64 0, .int .i64 0] ?hg ?hi ?ho ?h1 ?_; (case hx => rfl); (case hy => rfl); (case hg => exact Q4.out _); (case hi => kernel_rfl); (case ho => kernel_rfl); (case h1 => kernel_rfl)) | (refine wpList_store_row rfl 74 _ _ rfl w.heap.size #[.int .i64 3, .string ⟨#[]⟩, .int .i64 (wrap64 n), .int .i64 0, .int .i64 0] ?hx ?hy 74 #[.int .i64 0, .string ⟨#[]⟩, .int .i64 0, .int .i64 0, .int .i64 0] ?hg ?hi ?ho ?h1 ?_; (case hx => rfl); (case hy => rfl); (case hg => exact Q4.out _); (case hi => kernel_rfl); (case ho => kernel_rfl); (case h1 => kernel_rfl)))
                all_goals first
                  | (refine bodyPost_ret (v := .tuple #[.agg #[.int .i64 3, .string ⟨#[117]⟩, .int .i64 (wrap64 n), .int .i64 0, .int .i64 0], .int .i64 0]) ?hr ?hdf ?hQQ
                     case hr =>
                       refine results_ct Tryd.results49 _ _ (w.heap.size) 74 #[.int .i64 3, .string ⟨#[117]⟩, .int .i64 (wrap64 n), .int .i64 0, .int .i64 0] (0, 0) _ (.int .i64 0) ?hp ?hq ?hg Tryd.underlying74 ?hd ?hi
                       case hp => rfl
                       case hq => rfl
                       case hg => exact setRow_heap _ _ _ _ _ _ (Q4.out _)
                       case hd => rfl
                       case hi => kernel_rfl
                     case hdf => rfl
                     case hQQ => exact ⟨⟨_, _, _, _, rfl, by omega⟩, below_setRow (B4.out _) (Nat.le_refl _) _⟩)
                  | (refine bodyPost_ret (v := .tuple #[.agg #[.int .i64 3, .string ⟨#[]⟩, .int .i64 (wrap64 n), .int .i64 0, .int .i64 0], .int .i64 0]) ?hr ?hdf ?hQQ
                     case hr =>
                       refine results_ct Tryd.results49 _ _ (w.heap.size) 74 #[.int .i64 3, .string ⟨#[]⟩, .int .i64 (wrap64 n), .int .i64 0, .int .i64 0] (0, 0) _ (.int .i64 0) ?hp ?hq ?hg Tryd.underlying74 ?hd ?hi
                       case hp => rfl
                       case hq => rfl
                       case hg => exact setRow_heap _ _ _ _ _ _ (Q4.out _)
                       case hd => rfl
                       case hi => kernel_rfl
                     case hdf => rfl
                     case hQQ => exact ⟨⟨_, _, _, _, rfl, by omega⟩, below_setRow (B4.out _) (Nat.le_refl _) _⟩)
            · go_wp2_with (refine wpList_store_row rfl 74 _ _ rfl w.heap.size #[.int .i64 0, .string ⟨#[]⟩, .int .i64 0, .int .i64 0, .int .i64 0] ?hx ?hy 74 #[.int .i64 0, .string ⟨#[]⟩, .int .i64 0, .int .i64 0, .int .i64 0] ?hg ?hi ?ho ?h1 ?_; (case hx => rfl); (case hy => rfl); (case hg => exact Q3.out); (case hi => kernel_rfl); (case ho => kernel_rfl); (case h1 => kernel_rfl))
              refine bodyPost_ret (v := .tuple #[.agg #[.int .i64 0, .string ⟨#[]⟩, .int .i64 0, .int .i64 0, .int .i64 0], .int .i64 6]) ?hr ?hdf ?hQQ
              case hr =>
                refine results_ct Tryd.results49 _ _ (w.heap.size) 74 #[.int .i64 0, .string ⟨#[]⟩, .int .i64 0, .int .i64 0, .int .i64 0] (0, 0) _ (.int .i64 6) ?hp ?hq ?hg Tryd.underlying74 ?hd ?hi
                case hp => rfl
                case hq => rfl
                case hg => exact setRow_heap _ _ _ _ _ _ Q3.out
                case hd => rfl
                case hi => kernel_rfl
              case hdf => rfl
              case hQQ => exact ⟨⟨_, _, _, _, rfl, by omega⟩, below_setRow B3.out (Nat.le_refl _) _⟩
      · by_cases hm : (1 : Int) < (s.size : Int) - (D.size : Int)
        · go_wp2_with (first | (go_at_call 53; refine (Tryd.strings_HasPrefix _ _ _).mono ?_; rintro e uu ⟨rfl, ek⟩; rw [ek]; clear ek; first | rw [h1] | rw [h2]) | (refine wpList_store_row rfl 74 _ _ rfl w.heap.size #[.int .i64 0, .string ⟨#[]⟩, .int .i64 0, .int .i64 0, .int .i64 0] ?hx ?hy 74 #[.int .i64 0, .string ⟨#[]⟩, .int .i64 0, .int .i64 0, .int .i64 0] ?hg ?hi ?ho ?h1 ?_; (case hx => rfl); (case hy => rfl); (case hg => exact Q1.out); (case hi => kernel_rfl); (case ho => kernel_rfl); (case h1 => kernel_rfl)))
          refine bodyPost_ret (v := .tuple #[.agg #[.int .i64 0, .string ⟨#[]⟩, .int .i64 0, .int .i64 0, .int .i64 0], .int .i64 2]) ?hr ?hdf ?hQQ
          case hr =>
            refine results_ct Tryd.results49 _ _ (w.heap.size) 74 #[.int .i64 0, .string ⟨#[]⟩, .int .i64 0, .int .i64 0, .int .i64 0] (0, 0) _ (.int .i64 2) ?hp ?hq ?hg Tryd.underlying74 ?hd ?hi
            case hp => rfl
            case hq => rfl
            case hg => exact setRow_heap _ _ _ _ _ _ Q1.out
            case hd => rfl
            case hi => kernel_rfl
          case hdf => rfl
          case hQQ => exact ⟨⟨_, _, _, _, rfl, by omega⟩, below_setRow B1.out (Nat.le_refl _) _⟩
        · go_wp2_with (first | (go_at_call 53; refine (Tryd.strings_HasPrefix _ _ _).mono ?_; rintro e uu ⟨rfl, ek⟩; rw [ek]; clear ek; first | rw [h1] | rw [h2]) | (refine wpList_store_row rfl 74 _ _ rfl w.heap.size #[.int .i64 0, .string ⟨#[]⟩, .int .i64 0, .int .i64 0, .int .i64 0] ?hx ?hy 74 #[.int .i64 0, .string ⟨#[]⟩, .int .i64 0, .int .i64 0, .int .i64 0] ?hg ?hi ?ho ?h1 ?_; (case hx => rfl); (case hy => rfl); (case hg => exact Q1.out); (case hi => kernel_rfl); (case ho => kernel_rfl); (case h1 => kernel_rfl)))
          refine bodyPost_ret (v := .tuple #[.agg #[.int .i64 0, .string ⟨#[]⟩, .int .i64 0, .int .i64 0, .int .i64 0], .int .i64 2]) ?hr ?hdf ?hQQ
          case hr =>
            refine results_ct Tryd.results49 _ _ (w.heap.size) 74 #[.int .i64 0, .string ⟨#[]⟩, .int .i64 0, .int .i64 0, .int .i64 0] (0, 0) _ (.int .i64 2) ?hp ?hq ?hg Tryd.underlying74 ?hd ?hi
            case hp => rfl
            case hq => rfl
            case hg => exact setRow_heap _ _ _ _ _ _ Q1.out
            case hd => rfl
            case hi => kernel_rfl
          case hdf => rfl
          case hQQ => exact ⟨⟨_, _, _, _, rfl, by omega⟩, below_setRow B1.out (Nat.le_refl _) _⟩
  · have hp2 := pref2 h1
    cases he : (D.extract 2 D.size).toList.isEmpty
    · by_cases hm : (1 : Int) < (s.size : Int) - (D.size : Int)
      · go_wp2_with (first | (go_at_call 53; refine (Tryd.strings_HasPrefix _ _ _).mono ?_; rintro e uu ⟨rfl, ek⟩; rw [ek]; clear ek; first | rw [h1] | rw [h2]) | (refine wpList_store_row rfl 74 _ _ rfl w.heap.size #[.int .i64 0, .string ⟨#[]⟩, .int .i64 0, .int .i64 0, .int .i64 0] ?hx ?hy 74 #[.int .i64 0, .string ⟨#[]⟩, .int .i64 0, .int .i64 0, .int .i64 0] ?hg ?hi ?ho ?h1 ?_; (case hx => rfl); (case hy => rfl); (case hg => exact Q1.out); (case hi => kernel_rfl); (case ho => kernel_rfl); (case h1 => kernel_rfl)))
        refine bodyPost_ret (v := .tuple #[.agg #[.int .i64 0, .string ⟨#[]⟩, .int .i64 0, .int .i64 0, .int .i64 0], .int .i64 2]) ?hr ?hdf ?hQQ
        case hr =>
          refine results_ct Tryd.results49 _ _ (w.heap.size) 74 #[.int .i64 0, .string ⟨#[]⟩, .int .i64 0, .int .i64 0, .int .i64 0] (0, 0) _ (.int .i64 2) ?hp ?hq ?hg Tryd.underlying74 ?hd ?hi
          case hp => rfl
          case hq => rfl
          case hg => exact setRow_heap _ _ _ _ _ _ Q1.out
          case hd => rfl
          case hi => kernel_rfl
        case hdf => rfl
        case hQQ => exact ⟨⟨_, _, _, _, rfl, by omega⟩, below_setRow B1.out (Nat.le_refl _) _⟩
      · go_wp2_with (go_at_call 53; refine (Tryd.strings_HasPrefix _ _ _).mono ?_; rintro e uu ⟨rfl, ek⟩; rw [ek]; clear ek; first | rw [h1] | rw [h2])
        refine (inBase_any _ _ _).mono ?_
        rintro e u2 ⟨⟨d, rfl⟩, g2⟩
        have Q2 : Hid (u2.heap[w.heap.size]? = some (.cells #[.int .i64 0, .string ⟨#[]⟩, .int .i64 0, .int .i64 0, .int .i64 0] 74 (0, 0))) := (g2.block w.heap.size hz1).trans Q1.out
        have B2 : Hid (Below w.heap.size w u2) := B1.out.trans (g2.mono B1.out.size)
        have hz2 : w.heap.size < u2.heap.size := Nat.lt_of_lt_of_le hz1 g2.size
        clear g2
        cases d
        · go_wp2_with (refine wpList_store_row rfl 74 _ _ rfl w.heap.size #[.int .i64 0, .string ⟨#[]⟩, .int .i64 0, .int .i64 0, .int .i64 0] ?hx ?hy 74 #[.int .i64 0, .string ⟨#[]⟩, .int .i64 0, .int .i64 0, .int .i64 0] ?hg ?hi ?ho ?h1 ?_; (case hx => rfl); (case hy => rfl); (case hg => exact Q2.out); (case hi => kernel_rfl); (case ho => kernel_rfl); (case h1 => kernel_rfl))
          refine bodyPost_ret (v := .tuple #[.agg #[.int .i64 0, .string ⟨#[]⟩, .int .i64 0, .int .i64 0, .int .i64 0], .int .i64 2]) ?hr ?hdf ?hQQ
          case hr =>
            refine results_ct Tryd.results49 _ _ (w.heap.size) 74 #[.int .i64 0, .string ⟨#[]⟩, .int .i64 0, .int .i64 0, .int .i64 0] (0, 0) _ (.int .i64 2) ?hp ?hq ?hg Tryd.underlying74 ?hd ?hi
            case hp => rfl
            case hq => rfl
            case hg => exact setRow_heap _ _ _ _ _ _ Q2.out
            case hd => rfl
            case hi => kernel_rfl
          case hdf => rfl
          case hQQ => exact ⟨⟨_, _, _, _, rfl, by omega⟩, below_setRow B2.out (Nat.le_refl _) _⟩
        · go_wp2_with fail
          refine (sParse_any 16 (by decide) _ (by rw [ByteArray.size_extract]; omega) _ (HE.out.keep B2.out)).mono ?_
          rintro e u3 ⟨⟨n, v, rfl, hv⟩, g3⟩
          have Q3 : Hid (u3.heap[w.heap.size]? = some (.cells #[.int .i64 0, .string ⟨#[]⟩, .int .i64 0, .int .i64 0, .int .i64 0] 74 (0, 0))) := (g3.block w.heap.size hz2).trans Q2.out
          have B3 : Hid (Below w.heap.size w u3) := B2.out.trans (g3.mono B2.out.size)
          have hz3 : w.heap.size < u3.heap.size := Nat.lt_of_lt_of_le hz2 g3.size
          clear g3
          rcases hv with rfl | ⟨N, rfl⟩
          · have Q4 : Hid (∀ x, (u3.alloc x).heap[w.heap.size]? = some (.cells #[.int .i64 0, .string ⟨#[]⟩, .int .i64 0, .int .i64 0, .int .i64 0] 74 (0, 0))) := fun x => ((below_alloc u3 x).block w.heap.size hz3).trans Q3.out
            have B4 : Hid (∀ x, Below w.heap.size w (u3.alloc x)) := fun x => B3.out.trans ((below_alloc u3 x).mono B3.out.size)
            by_cases hm1 : (s.size : Int) - (D.size : Int) = 1
            · go_wp2_with (refine wpList_store_row rfl 74 _ _ rfl w.heap.size #[.int .i64 3, .string ⟨#[117]⟩, .int .i64 (wrap64 n), .int .i64 0, .int .i64 0] ?hx ?hy 74 #[.int .i64 0, .string ⟨#[]⟩, .int .i64 0, .int .i64 0, .int .i64 0] ?hg ?hi ?ho ?h1 ?_; (case hx => rfl); (case hy => rfl); (case hg => exact Q4.out _); (case hi => kernel_rfl); (case ho => kernel_rfl); (case h1 => kernel_rfl))
              refine bodyPost_ret (v := .tuple #[.agg #[.int .i64 3, .string ⟨#[117]⟩, .int .i64 (wrap64 n), .int .i64 0, .int .i64 0], .int .i64 0]) ?hr ?hdf ?hQQ
              case hr =>
                refine results_ct Tryd.results49 _ _ (w.heap.size) 74 #[.int .i64 3, .string ⟨#[117]⟩, .int .i64 (wrap64 n), .int .i64 0, .int .i64 0] (0, 0) _ (.int .i64 0) ?hp ?hq ?hg Tryd.underlying74 ?hd ?hi
                case hp => rfl
                case hq => rfl
                case hg => exact setRow_heap _ _ _ _ _ _ (Q4.out _)
                case hd => rfl
                case hi => kernel_rfl
              case hdf => rfl
              case hQQ => exact ⟨⟨_, _, _, _, rfl, by omega⟩, below_setRow (B4.out _) (Nat.le_refl _) _⟩
            · go_wp2_with (first | (refine wpList_store_row rfl 74 _ _ rfl w.heap.size #[.int .i64 3, .string ⟨#[117]⟩, .int .i64 (wrap64 n), .int .i64 0, .int .i64 0] ?hx ?hy 74 #[.int .i64 0, .string ⟨#[]⟩, .int .i64 0, .int .i64 0, .int .i64 0] ?hg ?hi ?ho ?h1 ?_; (case hx => rfl); (case hy => rfl); (case hg => exact Q4.out _); (case hi => kernel_rfl); (case ho => kernel_rfl); (case h1 => kernel_rfl)) | (refine wpList_store_row rfl 74 _ _ rfl w.heap.size #[.int .i64 3, .string ⟨#[]⟩, .int .i64 (wrap64 n), .int .i64 0, .int .i64 0] ?hx ?hy 74 #[.int .i64 0, .string ⟨#[]⟩, .int .i64 0, .int .i64 0, .int .i64 0] ?hg ?hi ?ho ?h1 ?_; (case hx => rfl); (case hy => rfl); (case hg => exact Q4.out _); (case hi => kernel_rfl); (case ho => kernel_rfl); (case h1 => kernel_rfl)))
              all_goals first
                | (refine bodyPost_ret (v := .tuple #[.agg #[.int .i64 3, .string ⟨#[117]⟩, .int .i64 (wrap64 n), .int .i64 0, .int .i64 0], .int .i64 0]) ?hr ?hdf ?hQQ
                   case hr =>
                     refine results_ct Tryd.results49 _ _ (w.heap.size) 74 #[.int .i64 3, .string ⟨#[117]⟩, .int .i64 (wrap64 n), .int .i64 0, .int .i64 0] (0, 0) _ (.int .i64 0) ?hp ?hq ?hg Tryd.underlying74 ?hd ?hi
                     case hp => rfl
                     case hq => rfl
                     case hg => exact setRow_heap _ _ _ _ _ _ (Q4.out _)
                     case hd => rfl
                     case hi => kernel_rfl
                   case hdf => rfl
                   case hQQ => exact ⟨⟨_, _, _, _, rfl, by omega⟩, below_setRow (B4.out _) (Nat.le_refl _) _⟩)
                | (refine bodyPost_ret (v := .tuple #[.agg #[.int .i64 3, .string ⟨#[]⟩, .int .i64 (wrap64 n), .int .i64 0, .int .i64 0], .int .i64 0]) ?hr ?hdf ?hQQ
                   case hr =>
                     refine results_ct Tryd.results49 _ _ (w.heap.size) 74 #[.int .i64 3, .string ⟨#[]⟩, .int .i64 (wrap64 n), .int .i64 0, .int .i64 0] (0, 0) _ (.int .i64 0) ?hp ?hq ?hg Tryd.underlying74 ?hd ?hi
                     case hp => rfl
                     case hq => rfl
                     case hg => exact setRow_heap _ _ _ _ _ _ (Q4.out _)
                     case hd => rfl
                     case hi => kernel_rfl
                   case hdf => rfl
                   case hQQ => exact ⟨⟨_, _, _, _, rfl, by omega⟩, below_setRow (B4.out _) (Nat.le_refl _) _⟩)
          · go_wp2_with (refine wpList_store_row rfl 74 _ _ rfl w.heap.size #[.int .i64 0, .string ⟨#[]⟩, .int .i64 0, .int .i64 0, .int .i64 0] ?hx ?hy 74 #[.int .i64 0, .string ⟨#[]⟩, .int .i64 0, .int .i64 0, .int .i64 0] ?hg ?hi ?ho ?h1 ?_; (case hx => rfl); (case hy => rfl); (case hg => exact Q3.out); (case hi => kernel_rfl); (case ho => kernel_rfl); (case h1 => kernel_rfl))
            refine bodyPost_ret (v := .tuple #[.agg #[.int .i64 0, .string ⟨#[]⟩, .int .i64 0, .int .i64 0, .int .i64 0], .int .i64 6]) ?hr ?hdf ?hQQ
            case hr =>
              refine results_ct Tryd.results49 _ _ (w.heap.size) 74 #[.int .i64 0, .string ⟨#[]⟩, .int .i64 0, .int .i64 0, .int .i64 0] (0, 0) _ (.int .i64 6) ?hp ?hq ?hg Tryd.underlying74 ?hd ?hi
              case hp => rfl
              case hq => rfl
              case hg => exact setRow_heap _ _ _ _ _ _ Q3.out
              case hd => rfl
              case hi => kernel_rfl
            case hdf => rfl
            case hQQ => exact ⟨⟨_, _, _, _, rfl, by omega⟩, below_setRow B3.out (Nat.le_refl _) _⟩
    · by_cases hm : (1 : Int) < (s.size : Int) - (D.size : Int)
      · go_wp2_with (first | (go_at_call 53; refine (Tryd.strings_HasPrefix _ _ _).mono ?_; rintro e uu ⟨rfl, ek⟩; rw [ek]; clear ek; first | rw [h1] | rw [h2]) | (refine wpList_store_row rfl 74 _ _ rfl w.heap.size #[.int .i64 0, .string ⟨#[]⟩, .int .i64 0, .int .i64 0, .int .i64 0] ?hx ?hy 74 #[.int .i64 0, .string ⟨#[]⟩, .int .i64 0, .int .i64 0, .int .i64 0] ?hg ?hi ?ho ?h1 ?_; (case hx => rfl); (case hy => rfl); (case hg => exact Q1.out); (case hi => kernel_rfl); (case ho => kernel_rfl); (case h1 => kernel_rfl)))
        refine bodyPost_ret (v := .tuple #[.agg #[.int .i64 0, .string ⟨#[]⟩, .int .i64 0, .int .i64 0, .int .i64 0], .int .i64 2]) ?hr ?hdf ?hQQ
        case hr =>
          refine results_ct Tryd.results49 _ _ (w.heap.size) 74 #[.int .i64 0, .string ⟨#[]⟩, .int .i64 0, .int .i64 0, .int .i64 0] (0, 0) _ (.int .i64 2) ?hp ?hq ?hg Tryd.underlying74 ?hd ?hi
          case hp => rfl
          case hq => rfl
          case hg => exact setRow_heap _ _ _ _ _ _ Q1.out
          case hd => rfl
          case hi => kernel_rfl
        case hdf => rfl
        case hQQ => exact ⟨⟨_, _, _, _, rfl, by omega⟩, below_setRow B1.out (Nat.le_refl _) _⟩
      · go_wp2_with (first | (go_at_call 53; refine (Tryd.strings_HasPrefix _ _ _).mono ?_; rintro e uu ⟨rfl, ek⟩; rw [ek]; clear ek; first | rw [h1] | rw [h2]) | (refine wpList_store_row rfl 74 _ _ rfl w.heap.size #[.int .i64 0, .string ⟨#[]⟩, .int .i64 0, .int .i64 0, .int .i64 0] ?hx ?hy 74 #[.int .i64 0, .string ⟨#[]⟩, .int .i64 0, .int .i64 0, .int .i64 0] ?hg ?hi ?ho ?h1 ?_; (case hx => rfl); (case hy => rfl); (case hg => exact Q1.out); (case hi => kernel_rfl); (case ho => kernel_rfl); (case h1 => kernel_rfl)))
        refine bodyPost_ret (v := .tuple #[.agg #[.int .i64 0, .string ⟨#[]⟩, .int .i64 0, .int .i64 0, .int .i64 0], .int .i64 2]) ?hr ?hdf ?hQQ
        case hr =>
          refine results_ct Tryd.results49 _ _ (w.heap.size) 74 #[.int .i64 0, .string ⟨#[]⟩, .int .i64 0, .int .i64 0, .int .i64 0] (0, 0) _ (.int .i64 2) ?hp ?hq ?hg Tryd.underlying74 ?hd ?hi
          case hp => rfl
          case hq => rfl
          case hg => exact setRow_heap _ _ _ _ _ _ Q1.out
          case hd => rfl
          case hi => kernel_rfl
        case hdf => rfl
        case hQQ => exact ⟨⟨_, _, _, _, rfl, by omega⟩, below_setRow B1.out (Nat.le_refl _) _⟩
end Go.Proofs.YtafcnijfoejboaaDoor.W
namespace Go.Proofs.YtafcnijfoejboaaDoor.W
open Go.RowKit
set_option maxHeartbeats 4000000 in
theorem readWord_dg (s : ByteArray) (hpos : 0 < s.size) (hd : Pl.dg (Pl.byt s 0) = true) (hs : s.size ≤ 1048576) (w : World) (hE : Errs w) : Calls Tryd.prog 45 #[.string s] w (NoName w) := by
  have HE : Hid (Errs w) := hE
  clear hE
  go_enter Tryd.func45, Tryd.ntmps45
  go_wp2_with (go_at_call 48; refine (isDigit_any _ _).mono ?_; rintro e u1 ⟨rfl, ek⟩; rw [ek]; clear ek; rw [Pl.byt_get s 0 hpos, hd])
  refine (readInteger_any s hpos hd hs _ (HE.out.keep (below_alloc w _))).mono ?_
  rintro e u2 ⟨⟨kd, code, n, t, rfl, hn⟩, g2⟩
  have Q2 : Hid (u2.heap[w.heap.size]? = some (.cells #[.int .i64 0, .string ⟨#[]⟩, .int .i64 0, .int .i64 0, .int .i64 0] 74 (0, 0))) := (g2.block w.heap.size (by simp)).trans (heap_alloc_new w _)
  have B2 : Hid (Below w.heap.size w u2) := (below_alloc w _).trans (g2.mono (by simp))
  have HN : Hid (¬ (code = 0 ∧ kd = 1)) := hn
  clear g2 hn
  go_wp2_with (refine wpList_store_row rfl 74 _ _ rfl w.heap.size #[.int .i64 kd, .string t, .int .i64 n, .int .i64 0, .int .i64 0] ?hx ?hy 74 #[.int .i64 0, .string ⟨#[]⟩, .int .i64 0, .int .i64 0, .int .i64 0] ?hg ?hi ?ho ?h1 ?_; (case hx => rfl); (case hy => rfl); (case hg => exact Q2.out); (case hi => kernel_rfl); (case ho => kernel_rfl); (case h1 => kernel_rfl))
  refine bodyPost_ret (v := .tuple #[.agg #[.int .i64 kd, .string t, .int .i64 n, .int .i64 0, .int .i64 0], .int .i64 code]) ?hr ?hdf ?hQQ
  case hr =>
    refine results_ct Tryd.results45 _ _ (w.heap.size) 74 #[.int .i64 kd, .string t, .int .i64 n, .int .i64 0, .int .i64 0] (0, 0) _ (.int .i64 code) ?hp ?hq ?hg Tryd.underlying74 ?hd ?hi
    case hp => rfl
    case hq => rfl
    case hg => exact setRow_heap _ _ _ _ _ _ Q2.out
    case hd => rfl
    case hi => kernel_rfl
  case hdf => rfl
  case hQQ => exact ⟨⟨_, _, _, _, rfl, HN.out⟩, below_setRow B2.out (Nat.le_refl _) _⟩
theorem readWord_all (s : ByteArray) (hpos : 0 < s.size) (hs : s.size ≤ 1048576) (w : World) (hE : Errs w) : Calls Tryd.prog 45 #[.string s] w fun e w' => ∃ (kd code n : Int) (t : ByteArray), e = .returned (.tuple #[.agg #[.int .i64 kd, .string t, .int .i64 n, .int .i64 0, .int .i64 0], .int .i64 code]) ∧ ((code = 0 ∧ kd = 1) ↔ (Pl.dg (Pl.byt s 0) = false ∧ s.size ≤ 40 ∧ Pl.inS Pl.kws s = false)) ∧ Below w.heap.size w w' := by
  cases hd : Pl.dg (Pl.byt s 0)
  · refine (readWord_nd s hpos hd w).mono ?_
    rintro e w' ⟨kd, code, t, he, hiff, hb⟩
    exact ⟨kd, code, 0, t, he, hiff.trans ⟨fun h => ⟨rfl, h⟩, fun h => h.2⟩, hb⟩
  · refine (readWord_dg s hpos hd hs w hE).mono ?_
    rintro e w' ⟨⟨kd, code, n, t, he, hn⟩, hb⟩
    exact ⟨kd, code, n, t, he, ⟨fun h => absurd h hn, fun h => by cases h.1⟩, hb⟩
set_option maxHeartbeats 4000000 in
theorem isNameWord_any (s : ByteArray) (hs : s.size ≤ 1048576) (w : World) (hE : Errs w) : Calls Tryd.prog 39 #[.string s] w fun e w' => e = .returned (.bool (Pl.nam s)) ∧ Below w.heap.size w w' := by
  by_cases h0 : s.size = 0
  · have ht : s = ⟨#[]⟩ := by
      cases s with | mk d => congr; exact Array.eq_empty_of_size_eq_zero h0
    subst ht
    go_enter Tryd.func39, Tryd.ntmps39
    go_wp2_with fail
    go_ret
    exact ⟨ret_bool (by decide), Below.refl _ _⟩
  have hpos : 0 < s.size := by omega
  have hemp : s.toList.isEmpty = false := by
    rw [← decide_eq_emptyBytes]
    exact decide_eq_false (fun h => h0 (by rw [h]; rfl))
  have HE : Hid (Errs w) := hE
  clear hE
  go_enter Tryd.func39, Tryd.ntmps39
  go_wp2_with fail
  refine (wordOf_any s (by omega) _).mono ?_
  rintro e u1 ⟨n, hn1, hn2, hn3, rfl, g1⟩
  have G1 : Hid (Below w.heap.size w u1) := g1
  have H2 : Hid (∀ j, j < n → Pl.wch (Pl.byt s j) = true) := hn2
  clear g1 hn2
  by_cases hns : n = s.size
  · have ex : s.extract 0 n = s := by rw [hns]; simp
    rw [ex]
    clear ex hn3
    subst hns
    go_wp2_with fail
    refine (readWord_all s hpos hs _ (HE.out.keep G1.out)).mono ?_
    rintro e u2 ⟨kd, code, n, t, rfl, hiff, g2⟩
    have G2 : Hid (Below w.heap.size w u2) := G1.out.trans (g2.mono G1.out.size)
    have HI : Hid ((code = 0 ∧ kd = 1) ↔ (Pl.dg (Pl.byt s 0) = false ∧ s.size ≤ 40 ∧ Pl.inS Pl.kws s = false)) := hiff
    clear g2 hiff
    have HF : Hid (¬ (code = 0 ∧ kd = 1) → Pl.nam s = false) := fun hc => by
      rw [HI.out] at hc
      rw [Bool.eq_false_iff]
      intro hm
      unfold Pl.nam at hm
      simp only [Bool.and_eq_true, decide_eq_true_eq, Bool.not_eq_true'] at hm
      exact hc ⟨hm.1.1.2, hm.1.1.1.2, hm.1.2⟩
    by_cases hc : code = 0
    · by_cases hk : kd = 1
      · have HT : Hid (Pl.nam s = true) := by
          obtain ⟨q1, q2, q3⟩ := HI.out.1 ⟨hc, hk⟩
          exact Pl.nam_yes s hpos q2 q1 q3 H2.out
        subst hc
        subst hk
        go_wp2_with fail
        go_ret
        exact ⟨ret_bool HT.out.symm, G2.out.trans ((below_alloc _ _).mono G2.out.size)⟩
      · have HT : Hid (Pl.nam s = false) := HF.out (fun h => hk h.2)
        subst hc
        go_wp2_with fail
        go_ret
        exact ⟨ret_bool (by rw [HT.out]; exact beq_false_of_ne hk), G2.out.trans ((below_alloc _ _).mono G2.out.size)⟩
    · have HT : Hid (Pl.nam s = false) := HF.out (fun h => hc h.1)
      go_wp2_with fail
      go_ret
      exact ⟨ret_bool HT.out.symm, G2.out.trans ((below_alloc _ _).mono G2.out.size)⟩
  · have hlt : n < s.size := by omega
    have HT : Hid (Pl.nam s = false) := Pl.nam_no s n hlt (hn3.resolve_left hns)
    have hne : ((s.extract 0 n).toList == s.toList) = false := by
      rw [beq_eq_false_iff_ne]
      intro hc
      have := congrArg List.length hc
      simp [ByteArray.toList_eq] at this
      omega
    clear hn3
    generalize s.extract 0 n = s2 at hne
    go_wp2_with fail
    go_ret
    exact ⟨ret_bool HT.out.symm, G1.out⟩
end Go.Proofs.YtafcnijfoejboaaDoor.W
