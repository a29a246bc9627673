import Derived.Test.YtdplfflkmphpbaaGreatDoorP11
import Derived.Test.YtdplfflkmphpbaaGreatDoorP09
import Derived.RangeFuncNested
import Derived.RangeFuncBound
import Derived.RangeFuncCalls
import Derived.RangeFuncLeaves
import Derived.Shelf.Abstract
import Derived.Shelf.RegionOpen
import Derived.WalkKit
import Derived.OwnWalkIn
import Derived.TacticsInMore
import Derived.LoopNIn
import Derived.LoopIn
set_option linter.unusedVariables false
set_option linter.unusedSimpArgs false
namespace Go.Proofs.YtdplfflkmphpbaaGreatDoor.W
open Go.RowKit
set_option maxHeartbeats 4000000 in
set_option maxRecDepth 100000 in
theorem readToken_is (t : ByteArray) (ht : t.size ≤ 1048576) (hpos : 0 < t.size) (w : World) (hE : Glo w) : Calls Tryz.prog 61 #[.string t] w fun e w' => TokI t e ∧ Below w.heap.size w w' := by
  have HE : Hid (Glo w) := hE
  have hg0 := Pl.byt_get t 0 hpos
  obtain ⟨c, hc⟩ : ∃ c, c = Pl.byt t 0 := ⟨_, rfl⟩
  rw [← hc] at hg0
  have HC : Hid (c = Pl.byt t 0) := hc
  clear hE hc
  by_cases h39 : c = 39
  · have e39 : (c == 39) = true := by simp [h39]
    have HM : Hid (Pl.byt t 0 = 39) := HC.out.symm.trans h39
    clear h39
    go_enter Tryz.func61, Tryz.ntmps61
    go_wp2_with fail
    refine (readCharacter_is t ht hpos HM.out _ (HE.out.on (below_allocL w _))).mono ?_
    rintro e u2 ⟨hs, g2⟩
    have Q2 : Hid (u2.heap[w.heap.size]? = some (.cells #[.int .i64 0, .string ⟨#[]⟩, .int .i64 0, .int .i64 0, .int .i64 0] 34 (0, 0))) := (g2.block w.heap.size (by simp)).trans (heap_alloc_new w _)
    have B2 : Hid (Below w.heap.size w u2) := (below_allocL w _).trans (g2.mono (by simp))
    clear g2
    unfold TokI at hs
    cases hq : Pl.tokF t 0 with
    | error f =>
      rw [hq] at hs
      obtain ⟨q, rfl⟩ := hs
      have HT : Hid (Pl.tokF t 0 = .error f) := hq
      clear hq
      go_wp2_with (refine wpList_store_row rfl 34 _ _ rfl w.heap.size #[.int .i64 0, .string ⟨#[]⟩, .int .i64 0, .int .i64 0, .int .i64 0] ?hx ?hy 34 #[.int .i64 0, .string ⟨#[]⟩, .int .i64 0, .int .i64 0, .int .i64 0] ?hg ?hi ?ho ?h1 ?_; (case hx => rfl); (case hy => rfl); (case hg => exact Q2.out); (case hi => kernel_rfl); (case ho => kernel_rfl); (case h1 => kernel_rfl))
      refine bodyPost_ret (v := .tuple #[.agg #[.int .i64 0, .string ⟨#[]⟩, .int .i64 0, .int .i64 0, .int .i64 0], .int .i64 q, .int .i64 f]) ?hr ?hdf ?hQQ
      case hr =>
        refine results_cttL Tryz.results61 _ _ (w.heap.size) 34 #[.int .i64 0, .string ⟨#[]⟩, .int .i64 0, .int .i64 0, .int .i64 0] (0, 0) _ (.int .i64 q) (.int .i64 f) ?hp ?hq ?hq2 ?hg Tryz.underlying34 ?hd ?hi
        case hp => rfl
        case hq => rfl
        case hq2 => rfl
        case hg => exact setRow_heap _ _ _ _ _ _ Q2.out
        case hd => rfl
        case hi => kernel_rfl
      case hdf => rfl
      case hQQ => exact ⟨toki_no HT.out, below_setRow B2.out (Nat.le_refl _) _⟩
    | ok r =>
      obtain ⟨k, S, N, n⟩ := r
      rw [hq] at hs
      obtain rfl := hs
      have HT : Hid (Pl.tokF t 0 = .ok (k, S, N, n)) := hq
      clear hq
      go_wp2_with (refine wpList_store_row rfl 34 _ _ rfl w.heap.size #[.int .i64 k, .string S, .int .i64 N, .int .i64 0, .int .i64 0] ?hx ?hy 34 #[.int .i64 0, .string ⟨#[]⟩, .int .i64 0, .int .i64 0, .int .i64 0] ?hg ?hi ?ho ?h1 ?_; (case hx => rfl); (case hy => rfl); (case hg => exact Q2.out); (case hi => kernel_rfl); (case ho => kernel_rfl); (case h1 => kernel_rfl))
      refine bodyPost_ret (v := .tuple #[.agg #[.int .i64 k, .string S, .int .i64 N, .int .i64 0, .int .i64 0], .int .i64 n, .int .i64 0]) ?hr ?hdf ?hQQ
      case hr =>
        refine results_cttL Tryz.results61 _ _ (w.heap.size) 34 #[.int .i64 k, .string S, .int .i64 N, .int .i64 0, .int .i64 0] (0, 0) _ (.int .i64 n) (.int .i64 0) ?hp ?hq ?hq2 ?hg Tryz.underlying34 ?hd ?hi
        case hp => rfl
        case hq => rfl
        case hq2 => rfl
        case hg => exact setRow_heap _ _ _ _ _ _ Q2.out
        case hd => rfl
        case hi => kernel_rfl
      case hdf => rfl
      case hQQ => exact ⟨toki_ok HT.out rfl, below_setRow B2.out (Nat.le_refl _) _⟩
  have e39 : (c == 39) = false := by simp [h39]
  by_cases h34 : c = 34
  · have e34 : (c == 34) = true := by simp [h34]
    have HM : Hid (Pl.byt t 0 = 34) := HC.out.symm.trans h34
    clear h34 h39
    go_enter Tryz.func61, Tryz.ntmps61
    go_wp2_with fail
    refine (readString_is t ht hpos HM.out _ (HE.out.on (below_allocL w _))).mono ?_
    rintro e u2 ⟨hs, g2⟩
    have Q2 : Hid (u2.heap[w.heap.size]? = some (.cells #[.int .i64 0, .string ⟨#[]⟩, .int .i64 0, .int .i64 0, .int .i64 0] 34 (0, 0))) := (g2.block w.heap.size (by simp)).trans (heap_alloc_new w _)
    have B2 : Hid (Below w.heap.size w u2) := (below_allocL w _).trans (g2.mono (by simp))
    clear g2
    unfold TokI at hs
    cases hq : Pl.tokF t 0 with
    | error f =>
      rw [hq] at hs
      obtain ⟨q, rfl⟩ := hs
      have HT : Hid (Pl.tokF t 0 = .error f) := hq
      clear hq
      go_wp2_with (refine wpList_store_row rfl 34 _ _ rfl w.heap.size #[.int .i64 0, .string ⟨#[]⟩, .int .i64 0, .int .i64 0, .int .i64 0] ?hx ?hy 34 #[.int .i64 0, .string ⟨#[]⟩, .int .i64 0, .int .i64 0, .int .i64 0] ?hg ?hi ?ho ?h1 ?_; (case hx => rfl); (case hy => rfl); (case hg => exact Q2.out); (case hi => kernel_rfl); (case ho => kernel_rfl); (case h1 => kernel_rfl))
      refine bodyPost_ret (v := .tuple #[.agg #[.int .i64 0, .string ⟨#[]⟩, .int .i64 0, .int .i64 0, .int .i64 0], .int .i64 q, .int .i64 f]) ?hr ?hdf ?hQQ
      case hr =>
        refine results_cttL Tryz.results61 _ _ (w.heap.size) 34 #[.int .i64 0, .string ⟨#[]⟩, .int .i64 0, .int .i64 0, .int .i64 0] (0, 0) _ (.int .i64 q) (.int .i64 f) ?hp ?hq ?hq2 ?hg Tryz.underlying34 ?hd ?hi
        case hp => rfl
        case hq => rfl
        case hq2 => rfl
        case hg => exact setRow_heap _ _ _ _ _ _ Q2.out
        case hd => rfl
        case hi => kernel_rfl
      case hdf => rfl
      case hQQ => exact ⟨toki_no HT.out, below_setRow B2.out (Nat.le_refl _) _⟩
    | ok r =>
      obtain ⟨k, S, N, n⟩ := r
      rw [hq] at hs
      obtain rfl := hs
      have HT : Hid (Pl.tokF t 0 = .ok (k, S, N, n)) := hq
      clear hq
      go_wp2_with (refine wpList_store_row rfl 34 _ _ rfl w.heap.size #[.int .i64 k, .string S, .int .i64 N, .int .i64 0, .int .i64 0] ?hx ?hy 34 #[.int .i64 0, .string ⟨#[]⟩, .int .i64 0, .int .i64 0, .int .i64 0] ?hg ?hi ?ho ?h1 ?_; (case hx => rfl); (case hy => rfl); (case hg => exact Q2.out); (case hi => kernel_rfl); (case ho => kernel_rfl); (case h1 => kernel_rfl))
      refine bodyPost_ret (v := .tuple #[.agg #[.int .i64 k, .string S, .int .i64 N, .int .i64 0, .int .i64 0], .int .i64 n, .int .i64 0]) ?hr ?hdf ?hQQ
      case hr =>
        refine results_cttL Tryz.results61 _ _ (w.heap.size) 34 #[.int .i64 k, .string S, .int .i64 N, .int .i64 0, .int .i64 0] (0, 0) _ (.int .i64 n) (.int .i64 0) ?hp ?hq ?hq2 ?hg Tryz.underlying34 ?hd ?hi
        case hp => rfl
        case hq => rfl
        case hq2 => rfl
        case hg => exact setRow_heap _ _ _ _ _ _ Q2.out
        case hd => rfl
        case hi => kernel_rfl
      case hdf => rfl
      case hQQ => exact ⟨toki_ok HT.out rfl, below_setRow B2.out (Nat.le_refl _) _⟩
  have e34 : (c == 34) = false := by simp [h34]
  cases hw : Pl.wch c
  · have HT : Hid (Pl.tokF t 0 = if Pl.sgn t = 0 then .error 2 else .ok (5, t.extract 0 (Pl.sgn t), 0, Pl.sgn t)) := by
      show Pl.tokF t 0 = _
      unfold Pl.tokF
      rw [← HC.out, hw, if_neg (by decide), if_neg h39, if_neg h34, Pl.ext_all, Nat.zero_add]
    have hl := Pl.sgn_le t
    obtain ⟨n, hn⟩ : ∃ n, n = Pl.sgn t := ⟨_, rfl⟩
    have HSG : Hid (∀ u, Calls Tryz.prog 73 #[.string t] u fun e w' => e = .returned (.string (t.extract 0 n)) ∧ w' = u) := fun u => by rw [hn]; exact signOf_is t ht u
    rw [← hn] at HT hl
    have hD : (t.extract 0 n).size = n := by rw [Pl.ext_size]; omega
    obtain ⟨D, hDD⟩ : ∃ D, D = t.extract 0 n := ⟨_, rfl⟩
    rw [← hDD] at HT HSG hD
    have hE2 := Pl.isE D
    rw [hD] at hE2
    clear hn hDD h39 h34 hl
    by_cases h0 : n = 0
    · have HT2 : Hid (Pl.tokF t 0 = .error 2) := by show Pl.tokF t 0 = _; rw [HT.out, if_pos h0]
      rw [decide_eq_true h0] at hE2
      clear HT h0 hD
      go_enter Tryz.func61, Tryz.ntmps61
      go_wp2_with (first | (go_at_call 70; refine (inWord_any _ _).mono ?_; rintro e u1 ⟨rfl, hu1⟩; rw [hu1]; clear hu1; rw [hw]) | (go_at_call 73; refine (HSG.out _).mono ?_; rintro e u1 ⟨rfl, hu1⟩; rw [hu1]; clear hu1))
      exact bodyPost_ret (v := .tuple #[.agg #[.int .i64 0, .string ⟨#[]⟩, .int .i64 0, .int .i64 0, .int .i64 0], .int .i64 0, .int .i64 2]) (by simp [results, Tryz.results61, go_sem]) rfl ⟨toki_no HT2.out, below_allocL _ _⟩
    · have HT2 : Hid (Pl.tokF t 0 = .ok (5, D, 0, n)) := by show Pl.tokF t 0 = _; rw [HT.out, if_neg h0]
      rw [decide_eq_false h0] at hE2
      clear HT h0
      go_enter Tryz.func61, Tryz.ntmps61
      go_wp2_with (first | (go_at_call 70; refine (inWord_any _ _).mono ?_; rintro e u1 ⟨rfl, hu1⟩; rw [hu1]; clear hu1; rw [hw]) | (go_at_call 73; refine (HSG.out _).mono ?_; rintro e u1 ⟨rfl, hu1⟩; rw [hu1]; clear hu1))
      exact bodyPost_ret (v := .tuple #[.agg #[.int .i64 5, .string D, .int .i64 0, .int .i64 0, .int .i64 0], .int .i64 n, .int .i64 0]) (by simp [results, Tryz.results61, go_sem]) rfl ⟨toki_ok HT2.out rfl, below_allocL _ _⟩
  · have HT : Hid (Pl.tokF t 0 = (match Pl.wrdR (t.extract 0 (Pl.run Pl.wch t)) with | .error f => .error f | .ok (k, S, N) => .ok (k, S, N, Pl.run Pl.wch t))) := by
      show Pl.tokF t 0 = _
      unfold Pl.tokF
      rw [← HC.out, if_pos hw, Pl.ext_all, Nat.zero_add]
      rfl
    have hr := Pl.run_le Pl.wch t
    have hp : 0 < Pl.run Pl.wch t := Pl.run_pos hpos (by rw [← HC.out]; exact hw)
    obtain ⟨n, hn⟩ : ∃ n, n = Pl.run Pl.wch t := ⟨_, rfl⟩
    have HW : Hid (∀ u, Calls Tryz.prog 71 #[.string t] u fun e w' => e = .returned (.string (t.extract 0 n)) ∧ Below u.heap.size u w') := fun u => by rw [hn]; exact wordOf_is t (by omega) u
    rw [← hn] at HT hr hp
    have hD : (t.extract 0 n).size = n := by rw [Pl.ext_size]; omega
    obtain ⟨D, hDD⟩ : ∃ D, D = t.extract 0 n := ⟨_, rfl⟩
    rw [← hDD] at HT HW hD
    clear hn hDD h39 h34
    have HRW : Hid (∀ u, Glo u → Calls Tryz.prog 72 #[.string D] u fun e w' => WrdI D e ∧ Below u.heap.size u w') := fun u hu => readWord_is D (by omega) (by omega) u hu
    go_enter Tryz.func61, Tryz.ntmps61
    go_wp2_with (go_at_call 70; refine (inWord_any _ _).mono ?_; rintro e u1 ⟨rfl, hu1⟩; rw [hu1]; clear hu1; rw [hw])
    refine (HW.out _).mono ?_
    rintro e u2 ⟨rfl, g2⟩
    have Q2 : Hid (u2.heap[w.heap.size]? = some (.cells #[.int .i64 0, .string ⟨#[]⟩, .int .i64 0, .int .i64 0, .int .i64 0] 34 (0, 0))) := (g2.block w.heap.size (by simp)).trans (heap_alloc_new w _)
    have B2 : Hid (Below w.heap.size w u2) := (below_allocL w _).trans (g2.mono (by simp))
    have hz2 : w.heap.size < u2.heap.size := by have := g2.size; simp at this; omega
    clear g2 HW
    go_wp2_with fail
    refine (HRW.out _ (HE.out.on B2.out)).mono ?_
    rintro e u3 ⟨hs, g3⟩
    have Q3 : Hid (u3.heap[w.heap.size]? = some (.cells #[.int .i64 0, .string ⟨#[]⟩, .int .i64 0, .int .i64 0, .int .i64 0] 34 (0, 0))) := (g3.block w.heap.size hz2).trans Q2.out
    have B3 : Hid (Below w.heap.size w u3) := B2.out.trans (g3.mono B2.out.size)
    have hz3 : w.heap.size < u3.heap.size := Nat.lt_of_lt_of_le hz2 g3.size
    clear g3 Q2 B2 hz2 HRW
    have Q4 : Hid (∀ x, (u3.alloc x).heap[w.heap.size]? = some (.cells #[.int .i64 0, .string ⟨#[]⟩, .int .i64 0, .int .i64 0, .int .i64 0] 34 (0, 0))) := fun x => ((below_allocL u3 x).block w.heap.size hz3).trans Q3.out
    have B4 : Hid (∀ x, Below w.heap.size w (u3.alloc x)) := fun x => B3.out.trans ((below_allocL u3 x).mono B3.out.size)
    unfold WrdI at hs
    have hT := HT.out
    clear HT
    cases hq : Pl.wrdR D with
    | error f =>
      rw [hq] at hs hT
      subst hs
      have HT : Hid (Pl.tokF t 0 = .error f) := hT
      clear hq hT
      go_wp2_with (refine wpList_store_row rfl 34 _ _ rfl w.heap.size #[.int .i64 0, .string ⟨#[]⟩, .int .i64 0, .int .i64 0, .int .i64 0] ?hx ?hy 34 #[.int .i64 0, .string ⟨#[]⟩, .int .i64 0, .int .i64 0, .int .i64 0] ?hg ?hi ?ho ?h1 ?_; (case hx => rfl); (case hy => rfl); (case hg => exact Q4.out _); (case hi => kernel_rfl); (case ho => kernel_rfl); (case h1 => kernel_rfl))
      refine bodyPost_ret (v := .tuple #[.agg #[.int .i64 0, .string ⟨#[]⟩, .int .i64 0, .int .i64 0, .int .i64 0], .int .i64 n, .int .i64 f]) ?hr ?hdf ?hQQ
      case hr =>
        refine results_cttL Tryz.results61 _ _ (w.heap.size) 34 #[.int .i64 0, .string ⟨#[]⟩, .int .i64 0, .int .i64 0, .int .i64 0] (0, 0) _ (.int .i64 n) (.int .i64 f) ?hp ?hq ?hq2 ?hg Tryz.underlying34 ?hd ?hi
        case hp => rfl
        case hq => rfl
        case hq2 => rfl
        case hg => exact setRow_heap _ _ _ _ _ _ (Q4.out _)
        case hd => rfl
        case hi => kernel_rfl
      case hdf => rfl
      case hQQ => exact ⟨toki_no HT.out, below_setRow (B4.out _) (Nat.le_refl _) _⟩
    | ok r =>
      obtain ⟨k, S, N⟩ := r
      rw [hq] at hs hT
      subst hs
      have HT : Hid (Pl.tokF t 0 = .ok (k, S, N, n)) := hT
      clear hq hT
      go_wp2_with (refine wpList_store_row rfl 34 _ _ rfl w.heap.size #[.int .i64 k, .string S, .int .i64 N, .int .i64 0, .int .i64 0] ?hx ?hy 34 #[.int .i64 0, .string ⟨#[]⟩, .int .i64 0, .int .i64 0, .int .i64 0] ?hg ?hi ?ho ?h1 ?_; (case hx => rfl); (case hy => rfl); (case hg => exact Q4.out _); (case hi => kernel_rfl); (case ho => kernel_rfl); (case h1 => kernel_rfl))
      refine bodyPost_ret (v := .tuple #[.agg #[.int .i64 k, .string S, .int .i64 N, .int .i64 0, .int .i64 0], .int .i64 n, .int .i64 0]) ?hr ?hdf ?hQQ
      case hr =>
        refine results_cttL Tryz.results61 _ _ (w.heap.size) 34 #[.int .i64 k, .string S, .int .i64 N, .int .i64 0, .int .i64 0] (0, 0) _ (.int .i64 n) (.int .i64 0) ?hp ?hq ?hq2 ?hg Tryz.underlying34 ?hd ?hi
        case hp => rfl
        case hq => rfl
        case hq2 => rfl
        case hg => exact setRow_heap _ _ _ _ _ _ (Q4.out _)
        case hd => rfl
        case hi => kernel_rfl
      case hdf => rfl
      case hQQ => exact ⟨toki_ok HT.out rfl, below_setRow (B4.out _) (Nat.le_refl _) _⟩
end Go.Proofs.YtdplfflkmphpbaaGreatDoor.W
namespace Go.Proofs.YtdplfflkmphpbaaGreatDoor.W
open Go.RowKit
theorem OnlyX.setRow {c n : Nat} {w u : World} {cs : Array Value} (h : OnlyX c w u) (hn : w.heap.size ≤ n) : OnlyX c w (u.setRow n cs) := by
  have hb := below_setRow (Below.refl w.heap.size u) hn cs
  exact ⟨hb.os.trans h.os, hb.tape.trans h.tape, hb.output.trans h.output, Nat.le_trans h.size hb.size, fun b h1 h2 => (hb.block b h1).trans (h.block b h1 h2)⟩
theorem OnlyX.dodge {c t : Nat} {w u u' : World} (h : OnlyX c w u) (k : OnlyX t u u') (ht : w.heap.size ≤ t) : OnlyX c w u' := ⟨k.os.trans h.os, k.tape.trans h.tape, k.output.trans h.output, Nat.le_trans h.size k.size, fun x hx hc => (k.block x (Nat.lt_of_lt_of_le hx h.size) (by omega)).trans (h.block x hx hc)⟩
theorem lx_row {g k n : Nat} {s : ByteArray} {u : World} {cs : Array Value} (h : LxSt g s k u) (hn : g ≠ n) : LxSt g s k (u.setRow n cs) := (setRow_other u n g cs hn).trans h
def TokR (s : ByteArray) (j : Nat) (z0 : Int) (z1 : ByteArray) (z2 zq zf : Int) : Prop := (zf ≠ 0 ∧ Pl.tokF s j = .error zf) ∨ (zf = 0 ∧ ∃ n : Nat, Pl.tokF s j = .ok (z0, z1, z2, n) ∧ zq = (n : Int) - j)
def NxrW (V : World) (s : ByteArray) (j : Nat) (pb : Nat) (z0 : Int) (z1 : ByteArray) (z2 zq zf : Int) (L : Array Bool) (w : World) : Prop := Below V.heap.size V w ∧ (up L 9 = true → TokR s j z0 z1 z2 zq zf) ∧ (up L 14 = true → V.heap.size ≤ pb ∧ w.heap[pb]? = some (.cells (bif up L 15 then #[.int .i64 z0, .string z1, .int .i64 z2, .int .i64 0, .int .i64 0] else #[.int .i64 0, .string ⟨#[]⟩, .int .i64 0, .int .i64 0, .int .i64 0]) 34))
theorem NxrW.keep {V : World} {s : ByteArray} {j pb : Nat} {z0 : Int} {z1 : ByteArray} {z2 zq zf : Int} {L : Array Bool} {w : World} (h : NxrW V s j pb z0 z1 z2 zq zf L w) {i : Nat} (hi : i < L.size) (n9 : i ≠ 9) (n14 : i ≠ 14) (n15 : i ≠ 15) : NxrW V s j pb z0 z1 z2 zq zf (L.setIfInBounds i true) w := by
  unfold NxrW at h ⊢
  rw [up_set hi, up_set hi, up_set hi, if_neg n9, if_neg n14, if_neg n15]
  exact h
theorem tokI_out {s : ByteArray} {j : Nat} (hto : Pl.tokF s j = Pl.shT j (Pl.tokF (s.extract j s.size) 0)) {e : Ending} (h : TokI (s.extract j s.size) e) : ∃ b0 b1 b2 bq bf, e = .returned (.tuple #[.agg #[.int .i64 b0, .string b1, .int .i64 b2, .int .i64 0, .int .i64 0], .int .i64 bq, .int .i64 bf]) ∧ TokR s j b0 b1 b2 bq bf := by
  unfold TokI at h
  cases htf : Pl.tokF (s.extract j s.size) 0 with
  | error f =>
    rw [htf] at h hto
    obtain ⟨q, rfl⟩ := h
    exact ⟨_, _, _, _, _, rfl, .inl ⟨Pl.tokF_f htf, hto⟩⟩
  | ok r =>
    obtain ⟨kd, S, N, n⟩ := r
    rw [htf] at h hto
    subst h
    exact ⟨_, _, _, _, _, rfl, .inr ⟨rfl, _, hto, by omega⟩⟩
def NxtI (g : Nat) (s : ByteArray) (k : Nat) (w : World) (e : Ending) (w' : World) : Prop := ∃ j b, Pl.Sk s k j b ∧ OnlyX g w w' ∧
  ((b = false ∧ e = .returned (.tuple #[.agg #[.int .i64 0, .string ⟨#[]⟩, .int .i64 0, .int .i64 (Pl.ln s j), .int .i64 (Pl.cn s j)], .int .i64 3]) ∧ LxSt g s j w') ∨
   (b = true ∧ j = s.size ∧ e = .returned (.tuple #[.agg #[.int .i64 0, .string ⟨#[]⟩, .int .i64 0, .int .i64 (Pl.ln s j), .int .i64 (Pl.cn s j)], .int .i64 0]) ∧ LxSt g s j w') ∨
   (b = true ∧ j < s.size ∧ ∃ f, Pl.tokF s j = .error f ∧ e = .returned (.tuple #[.agg #[.int .i64 0, .string ⟨#[]⟩, .int .i64 0, .int .i64 (Pl.ln s j), .int .i64 (Pl.cn s j)], .int .i64 f]) ∧ LxSt g s j w') ∨
   (b = true ∧ j < s.size ∧ ∃ kd S N n, Pl.tokF s j = .ok (kd, S, N, n) ∧ e = .returned (.tuple #[.agg #[.int .i64 kd, .string S, .int .i64 N, .int .i64 (Pl.ln s j), .int .i64 (Pl.cn s j)], .int .i64 0]) ∧ LxSt g s n w'))
def NxrMk (G Wz Pb j : Nat) (s : ByteArray) (u9 u10 u11 u12 u13 u14 u15 u16 u17 u18 u19 u20 u21 u22 u23 u24 u25 u28 u39 u40 u41 u42 u43 u44 u45 u46 u47 u48 u49 u50 u51 u52 u53 u54 u55 u56 u57 u58 u59 u60 u61 u62 u63 u64 u65 u66 u67 : Value) (pb : Nat) (z0 : Int) (z1 : ByteArray) (z2 zq zf : Int) (L : Array Bool) : Act := { tmps := #[.pointer (some ⟨G, 0, none⟩), undef, .pointer (some ⟨Wz, 0, none⟩), .int .i64 0, .bool true, .pointer (some ⟨Pb, 0, none⟩), sld undef L 14 (.pointer (some ⟨pb, 0, none⟩)), sld undef L 16 (.int .i64 zq), sld undef L 17 (.int .i64 zf), u9, u10, u11, u12, u13, u14, u15, u16, u17, u18, u19, u20, u21, u22, u23, u24, u25, .bool true, .bool false, u28, .pointer (some ⟨G, 0, none⟩), .pointer (some ⟨G, 0, none⟩), .pointer (some ⟨G, 1, none⟩), .int .i64 (j : Int), .pointer (some ⟨G, 0, none⟩), .pointer (some ⟨G, 0, none⟩), .pointer (some ⟨G, 0, none⟩), .string s, .int .i64 (s.size : Int), .bool false, u39, sld u40 L 10 (.tuple #[.agg #[.int .i64 z0, .string z1, .int .i64 z2, .int .i64 0, .int .i64 0], .int .i64 zq, .int .i64 zf]), sld u41 L 0 (.pointer (some ⟨G, 0, none⟩)), sld u42 L 1 (.pointer (some ⟨G, 0, none⟩)), sld u43 L 2 (.pointer (some ⟨G, 0, none⟩)), sld u44 L 3 (.string s), sld u45 L 4 (.pointer (some ⟨G, 0, none⟩)), sld u46 L 5 (.pointer (some ⟨G, 0, none⟩)), sld u47 L 6 (.pointer (some ⟨G, 1, none⟩)), sld u48 L 7 (.int .i64 (j : Int)), sld u49 L 8 (.string (s.extract j s.size)), sld u50 L 9 (.tuple #[.agg #[.int .i64 z0, .string z1, .int .i64 z2, .int .i64 0, .int .i64 0], .int .i64 zq, .int .i64 zf]), sld u51 L 11 (.agg #[.int .i64 z0, .string z1, .int .i64 z2, .int .i64 0, .int .i64 0]), sld u52 L 12 (.int .i64 zq), sld u53 L 13 (.int .i64 zf), u54, u55, u56, u57, u58, u59, u60, u61, u62, u63, u64, u65, u66, u67], defers := [] }
set_option maxHeartbeats 8000000 in
set_option maxRecDepth 100000 in
theorem next_is (g : Nat) (hg8 : 8 ≤ g) (s : ByteArray) (hs : s.size ≤ 1048576) (k : Nat) (hk : k ≤ s.size) (w : World) (hL : LxSt g s k w) (hE : Glo w) : Calls Tryz.prog 49 #[.pointer (some ⟨g, 0, none⟩)] w fun e w' => NxtI g s k w e w' := by
  have HL : Hid (LxSt g s k w) := hL
  have HE : Hid (Glo w) := hE
  have hgw : g < w.heap.size := (Array.getElem?_eq_some_iff.1 hL).1
  have HSB : Hid (∀ u : World, LxSt g s k u → Glo u → Calls Tryz.prog 60 #[.pointer (some ⟨g, 0, none⟩)] u fun e w' => ∃ j b, Pl.Sk s k j b ∧ e = .returned (.bool b) ∧ LxSt g s j w' ∧ OnlyX g u w') := fun u h1 h2 => skipBlanks_is g hg8 s hs k hk u h1 h2
  clear hL hE
  go_enter Tryz.func49, Tryz.ntmps49
  go_wp2_with fail
  refine (HSB.out _ (HL.out.keep (below_allocL _ _)) (HE.out.on (below_allocL _ _))).mono ?_
  rintro e u1 ⟨j, b, hsk, rfl, hst, hox⟩
  have hR : u1.heap[w.heap.size]? = some (.cells #[.int .i64 0, .string ⟨#[]⟩, .int .i64 0, .int .i64 0, .int .i64 0] 34 (0, 0)) := (hox.block w.heap.size (by simp) (by omega)).trans (heap_alloc_new w _)
  have hz1 : w.heap.size < u1.heap.size := by have := hox.size; simp at this; omega
  have hj : j ≤ s.size := hsk.le.2.1 hk
  have HR : Hid (u1.heap[w.heap.size]? = some (.cells #[.int .i64 0, .string ⟨#[]⟩, .int .i64 0, .int .i64 0, .int .i64 0] 34 (0, 0))) := hR
  have HST : Hid (LxSt g s j u1) := hst
  have HOX : Hid (OnlyX g w u1) := (OnlyX.of_below (below_allocL w _)).trans hox
  obtain ⟨l0, l1⟩ := Pl.ln_b s j
  obtain ⟨c0, c1⟩ := Pl.cn_b s j
  have HS : Hid (Pl.Sk s k j b) := hsk
  have hst' : u1.heap[g]? = some (.cells #[.string s, .int .i64 j, .int .i64 (Pl.ln s j), .int .i64 ((j : Int) + 1 - Pl.cn s j)] 72 (0, 0)) := hst
  obtain ⟨A, hA⟩ : ∃ A, A = Pl.ln s j := ⟨_, rfl⟩
  obtain ⟨B, hB⟩ : ∃ B, B = Pl.cn s j := ⟨_, rfl⟩
  have HAA : Hid (A = Pl.ln s j) := hA
  have HBB : Hid (B = Pl.cn s j) := hB
  rw [← hA] at hst' l0 l1
  rw [← hB] at hst' c0 c1
  have d0 : u1.cell? ⟨g, 0, none⟩ = some (.string s) := cell_of_row u1 g 0 _ 72 (0, 0) hst'
  have d1 : u1.cell? ⟨g, 1, none⟩ = some (.int .i64 j) := cell_of_row u1 g 1 _ 72 (0, 0) hst'
  have d2 : u1.cell? ⟨g, 2, none⟩ = some (.int .i64 A) := cell_of_row u1 g 2 _ 72 (0, 0) hst'
  have d3 : u1.cell? ⟨g, 3, none⟩ = some (.int .i64 ((j : Int) + 1 - B)) := cell_of_row u1 g 3 _ 72 (0, 0) hst'
  have hgu : g < u1.heap.size := (Array.getElem?_eq_some_iff.1 hst').1
  have w1 : IntKind.i64.wrap ((j : Int) - ((j : Int) + 1 - B)) = B - 1 := by rw [IntKind.wrap_i64]; omega
  have w2 : IntKind.i64.wrap (B - 1 + 1) = B := by rw [IntKind.wrap_i64]; omega
  clear hsk hst hox hR hA hB hst'
  go_upto_region 2 with fail
  go_cut [5] (fun s5 wx => ∃ P, s5 = .pointer (some ⟨P, 0, none⟩) ∧ u1.heap.size ≤ P ∧ wx.heap[P]? = some (.cells #[.int .i64 0, .string ⟨#[]⟩, .int .i64 0, .int .i64 A, .int .i64 B] 34 (0, 0)) ∧ Below u1.heap.size u1 wx)
  case first =>
    go_region
    all_goals
      go_wp2_with fail
      go_meet
      exact ⟨u1.heap.size, rfl, Nat.le_refl _, heap_alloc_new u1 _, by repeat (first | exact below_allocL _ _ | refine below_drewV ?_ _ | refine Below.drew ?_)⟩
  case rest =>
  obtain ⟨P, rfl, hP1, hP2, hP3⟩ := hcut
  obtain ⟨U, hU⟩ : ∃ U, U = wc := ⟨_, rfl⟩
  rw [← hU] at hP2 hP3 ⊢
  have HP : Hid (U.heap[P]? = some (.cells #[.int .i64 0, .string ⟨#[]⟩, .int .i64 0, .int .i64 A, .int .i64 B] 34 (0, 0))) := hP2
  have HR2 : Hid (U.heap[w.heap.size]? = some (.cells #[.int .i64 0, .string ⟨#[]⟩, .int .i64 0, .int .i64 0, .int .i64 0] 34 (0, 0))) := (hP3.block _ hz1).trans HR.out
  have HST2 : Hid (LxSt g s j U) := (hP3.block g hgu).trans HST.out
  have HOX2 : Hid (OnlyX g w U) := HOX.out.trans (OnlyX.of_below hP3)
  have HE2 : Hid (Glo U) := HE.out.onX hg8 HOX2.out
  have hPw : w.heap.size < P := by omega
  have hgP : g < P := by omega
  have HPU : Hid (P < U.heap.size) := (Array.getElem?_eq_some_iff.1 hP2).1
  have d0 : U.cell? ⟨g, 0, none⟩ = some (.string s) := cell_of_row U g 0 _ 72 (0, 0) HST2.out
  have d1 : U.cell? ⟨g, 1, none⟩ = some (.int .i64 j) := cell_of_row U g 1 _ 72 (0, 0) HST2.out
  clear hU hP2 hP3 HR HST HOX HSB w1 w2
  cases b
  · have HS0 : Hid (Pl.Sk s k j false) := HS.out
    go_wp2_with (first | (refine wpList_load_row rfl 34 _ rfl P ?hx 34 #[.int .i64 0, .string ⟨#[]⟩, .int .i64 0, .int .i64 A, .int .i64 B] (0, 0) _ ?hg Tryz.underlying34 ?hd ?hi ?_; (case hx => rfl); (case hg => exact HP.out); (case hd => rfl); (case hi => kernel_rfl)) | (refine wpList_store_row rfl 34 _ _ rfl w.heap.size #[.int .i64 0, .string ⟨#[]⟩, .int .i64 0, .int .i64 A, .int .i64 B] ?hx ?hy 34 #[.int .i64 0, .string ⟨#[]⟩, .int .i64 0, .int .i64 0, .int .i64 0] ?hg ?hi ?ho ?h1 ?_; (case hx => rfl); (case hy => rfl); (case hg => exact HR2.out); (case hi => kernel_rfl); (case ho => kernel_rfl); (case h1 => kernel_rfl)))
    refine bodyPost_ret (v := .tuple #[.agg #[.int .i64 0, .string ⟨#[]⟩, .int .i64 0, .int .i64 A, .int .i64 B], .int .i64 3]) ?hr ?hdf ?hQQ
    case hr =>
      refine results_ctL Tryz.results49 _ _ (w.heap.size) 34 #[.int .i64 0, .string ⟨#[]⟩, .int .i64 0, .int .i64 A, .int .i64 B] (0, 0) _ (.int .i64 3) ?hp ?hq ?hg Tryz.underlying34 ?hd ?hi
      case hp => rfl
      case hq => rfl
      case hg => exact setRow_heap _ _ _ _ _ _ HR2.out
      case hd => rfl
      case hi => kernel_rfl
    case hdf => rfl
    case hQQ => exact ⟨j, false, HS0.out, HOX2.out.setRow (Nat.le_refl _), .inl ⟨rfl, by rw [HAA.out, HBB.out], lx_row HST2.out (by omega)⟩⟩
  have hjc : (j : Int) ≤ s.size := by omega
  by_cases hend : j = s.size
  · have eend : ((j : Int) == (s.size : Int)) = true := by simp [hend]
    have HEND : Hid (j = s.size) := hend
    clear hend
    go_wp2_with fail
    go_quiet (fail)
    go_wp2_with (first | (refine wpList_load_row rfl 34 _ rfl P ?hx 34 #[.int .i64 0, .string ⟨#[]⟩, .int .i64 0, .int .i64 A, .int .i64 B] (0, 0) _ ?hg Tryz.underlying34 ?hd ?hi ?_; (case hx => rfl); (case hg => exact HP.out); (case hd => rfl); (case hi => kernel_rfl)) | (refine wpList_store_row rfl 34 _ _ rfl w.heap.size #[.int .i64 0, .string ⟨#[]⟩, .int .i64 0, .int .i64 A, .int .i64 B] ?hx ?hy 34 #[.int .i64 0, .string ⟨#[]⟩, .int .i64 0, .int .i64 0, .int .i64 0] ?hg ?hi ?ho ?h1 ?_; (case hx => rfl); (case hy => rfl); (case hg => exact HR2.out); (case hi => kernel_rfl); (case ho => kernel_rfl); (case h1 => kernel_rfl)))
    refine bodyPost_ret (v := .tuple #[.agg #[.int .i64 0, .string ⟨#[]⟩, .int .i64 0, .int .i64 A, .int .i64 B], .int .i64 0]) ?hr ?hdf ?hQQ
    case hr =>
      refine results_ctL Tryz.results49 _ _ (w.heap.size) 34 #[.int .i64 0, .string ⟨#[]⟩, .int .i64 0, .int .i64 A, .int .i64 B] (0, 0) _ (.int .i64 0) ?hp ?hq ?hg Tryz.underlying34 ?hd ?hi
      case hp => rfl
      case hq => rfl
      case hg => exact setRow_heap _ _ _ _ _ _ HR2.out
      case hd => rfl
      case hi => kernel_rfl
    case hdf => rfl
    case hQQ => exact ⟨j, true, HS.out, OnlyX.setRow (by repeat (first | exact HOX2.out | refine OnlyX.drewN ?_ _)) (Nat.le_refl _), .inr (.inl ⟨rfl, HEND.out, by rw [HAA.out, HBB.out], lx_row (u := _) HST2.out (by omega)⟩)⟩
  have eend : ((j : Int) == (s.size : Int)) = false := by simp; omega
  have hjs : j < s.size := by omega
  have HTO : Hid (Pl.tokF s j = Pl.shT j (Pl.tokF (s.extract j s.size) 0)) := Pl.tokF_to s j hjs
  have HRT : Hid (∀ u : World, Glo u → Calls Tryz.prog 61 #[.string (s.extract j s.size)] u fun e w' => TokI (s.extract j s.size) e ∧ Below u.heap.size u w') := fun u hu => readToken_is (s.extract j s.size) (by rw [Pl.ext_sz]; omega) (by rw [Pl.ext_sz]; omega) u hu
  have HGD : Hid (∀ i i', Glo ((U.drewN i).drewN i')) := fun i i' => HE2.out.on (below_drewV (below_drewV (Below.refl _ _) i) i')
  clear hend
  go_upto_region 7 with fail
  go_quiet (fail)
  go_upto_region 7 with fail
  obtain ⟨V, hV⟩ : ∃ V, V = U.drewN nq := ⟨_, rfl⟩
  rw [← hV]
  have BV : Hid (Below U.heap.size U V) := by rw [hV]; exact below_drewV (Below.refl _ _) _
  clear hV d0 d1
  have d0 : V.cell? ⟨g, 0, none⟩ = some (.string s) := cell_of_row V g 0 _ 72 (0, 0) (HST2.out.keep BV.out)
  have d1 : V.cell? ⟨g, 1, none⟩ = some (.int .i64 j) := cell_of_row V g 1 _ 72 (0, 0) (HST2.out.keep BV.out)
  have HGV : Hid (Glo V) := HE2.out.on BV.out
  go_cut [6, 7, 8] (fun s6 s7 s8 wx => ∃ (T : Nat) (z0 : Int) (z1 : ByteArray) (z2 zq zf : Int), s6 = .pointer (some ⟨T, 0, none⟩) ∧ s7 = .int .i64 zq ∧ s8 = .int .i64 zf ∧ V.heap.size ≤ T ∧ wx.heap[T]? = some (.cells #[.int .i64 z0, .string z1, .int .i64 z2, .int .i64 0, .int .i64 0] 34 (0, 0)) ∧ Below V.heap.size V wx ∧ TokR s j z0 z1 z2 zq zf)
  case first =>
    have k0 : Hid (∀ w', Below V.heap.size V w' → w'.cell? ⟨g, 0, none⟩ = some (.string s)) := fun w' hw => below_cell hw d0
    have k1 : Hid (∀ w', Below V.heap.size V w' → w'.cell? ⟨g, 1, none⟩ = some (.int .i64 j)) := fun w' hw => below_cell hw d1
    have HGB : Hid (∀ w', Below V.heap.size V w' → Glo w') := fun w' hw => HGV.out.on hw
    have HTK : Hid (∀ e, TokI (s.extract j s.size) e → ∃ b0 b1 b2 bq bf, e = .returned (.tuple #[.agg #[.int .i64 b0, .string b1, .int .i64 b2, .int .i64 0, .int .i64 0], .int .i64 bq, .int .i64 bf]) ∧ TokR s j b0 b1 b2 bq bf) := fun e he => tokI_out HTO.out he
    refine wp_region_any (by kernel_rfl) ?_
    change wpAny _ _ _ _ _ _ _ (World.drew _)
    refine wpAny_inm (fun L act w' => ∃ pb z0 z1 z2 zq zf, act = NxrMk g w.heap.size P j s u9 u10 u11 u12 u13 u14 u15 u16 u17 u18 u19 u20 u21 u22 u23 u24 u25 u28 u39 u40 u41 u42 u43 u44 u45 u46 u47 u48 u49 u50 u51 u52 u53 u54 u55 u56 u57 u58 u59 u60 u61 u62 u63 u64 u65 u66 u67 pb z0 z1 z2 zq zf L ∧ NxrW V s j pb z0 z1 z2 zq zf L w') ?done (by kernel_rfl) ?step _ 18 _ _ (by kernel_rfl) ?init (by decide)
    case init => exact ⟨0, 0, ⟨#[]⟩, 0, 0, 0, by simp only [NxrMk, sld_no (up_init _ _)], Below.drew (Below.refl _ _), fun q => absurd (q.symm.trans (up_init _ _)) (by decide), fun q => absurd (q.symm.trans (up_init _ _)) (by decide)⟩
    case step =>
      intro L act w i o hI hlt hs nl hC hd ho K hK
      obtain ⟨pb, z0, z1, z2, zq, zf, rfl, hW⟩ := hI
      have hi_lt : i < 18 := (Array.getElem?_eq_some_iff.1 ho).1
      rcases (show i = 0 ∨ i = 1 ∨ i = 2 ∨ i = 3 ∨ i = 4 ∨ i = 5 ∨ i = 6 ∨ i = 7 ∨ i = 8 ∨ i = 9 ∨ i = 10 ∨ i = 11 ∨ i = 12 ∨ i = 13 ∨ i = 14 ∨ i = 15 ∨ i = 16 ∨ i = 17 by omega) with rfl | rfl | rfl | rfl | rfl | rfl | rfl | rfl | rfl | rfl | rfl | rfl | rfl | rfl | rfl | rfl | rfl | rfl
      · change some _ = some o at ho
        cases ho
        simp only [NxrMk]
        go_simp
        exact hK _ _ ⟨pb, z0, z1, z2, zq, zf, by simp only [NxrMk, sld_set hlt, reduceIte, Nat.reduceEqDiff]; try rfl, (hW.keep hlt (by decide) (by decide) (by decide))⟩
      · change some _ = some o at ho
        cases ho
        have q0 : up L 0 = true := (by first | exact hd { on := 0, ground := .data } (by simp) rfl | exact hd { on := 0, ground := .chain } (by simp) rfl | exact hd { on := 0, ground := .phase } (by simp) rfl)
        simp only [NxrMk, sld_yes q0]
        go_simp
        exact hK _ _ ⟨pb, z0, z1, z2, zq, zf, by simp only [NxrMk, sld_set hlt, sld_yes q0, reduceIte, Nat.reduceEqDiff]; try rfl, (hW.keep hlt (by decide) (by decide) (by decide))⟩
      · change some _ = some o at ho
        cases ho
        have q1 : up L 1 = true := (by first | exact hd { on := 1, ground := .data } (by simp) rfl | exact hd { on := 1, ground := .chain } (by simp) rfl | exact hd { on := 1, ground := .phase } (by simp) rfl)
        simp only [NxrMk, sld_yes q1]
        go_simp
        exact hK _ _ ⟨pb, z0, z1, z2, zq, zf, by simp only [NxrMk, sld_set hlt, sld_yes q1, reduceIte, Nat.reduceEqDiff]; try rfl, (hW.keep hlt (by decide) (by decide) (by decide))⟩
      · change some _ = some o at ho
        cases ho
        have q2 : up L 2 = true := (by first | exact hd { on := 2, ground := .data } (by simp) rfl | exact hd { on := 2, ground := .chain } (by simp) rfl | exact hd { on := 2, ground := .phase } (by simp) rfl)
        have kj := k0.out _ hW.1
        simp only [NxrMk, sld_yes q2]
        go_simp
        exact hK _ _ ⟨pb, z0, z1, z2, zq, zf, by simp only [NxrMk, sld_set hlt, sld_yes q2, reduceIte, Nat.reduceEqDiff]; try rfl, (hW.keep hlt (by decide) (by decide) (by decide))⟩
      · change some _ = some o at ho
        cases ho
        simp only [NxrMk]
        go_simp
        exact hK _ _ ⟨pb, z0, z1, z2, zq, zf, by simp only [NxrMk, sld_set hlt, reduceIte, Nat.reduceEqDiff]; try rfl, (hW.keep hlt (by decide) (by decide) (by decide))⟩
      · change some _ = some o at ho
        cases ho
        have q4 : up L 4 = true := (by first | exact hd { on := 4, ground := .data } (by simp) rfl | exact hd { on := 4, ground := .chain } (by simp) rfl | exact hd { on := 4, ground := .phase } (by simp) rfl)
        simp only [NxrMk, sld_yes q4]
        go_simp
        exact hK _ _ ⟨pb, z0, z1, z2, zq, zf, by simp only [NxrMk, sld_set hlt, sld_yes q4, reduceIte, Nat.reduceEqDiff]; try rfl, (hW.keep hlt (by decide) (by decide) (by decide))⟩
      · change some _ = some o at ho
        cases ho
        have q5 : up L 5 = true := (by first | exact hd { on := 5, ground := .data } (by simp) rfl | exact hd { on := 5, ground := .chain } (by simp) rfl | exact hd { on := 5, ground := .phase } (by simp) rfl)
        simp only [NxrMk, sld_yes q5]
        go_simp
        exact hK _ _ ⟨pb, z0, z1, z2, zq, zf, by simp only [NxrMk, sld_set hlt, sld_yes q5, reduceIte, Nat.reduceEqDiff]; try rfl, (hW.keep hlt (by decide) (by decide) (by decide))⟩
      · change some _ = some o at ho
        cases ho
        have q6 : up L 6 = true := (by first | exact hd { on := 6, ground := .data } (by simp) rfl | exact hd { on := 6, ground := .chain } (by simp) rfl | exact hd { on := 6, ground := .phase } (by simp) rfl)
        have kj := k1.out _ hW.1
        simp only [NxrMk, sld_yes q6]
        go_simp
        exact hK _ _ ⟨pb, z0, z1, z2, zq, zf, by simp only [NxrMk, sld_set hlt, sld_yes q6, reduceIte, Nat.reduceEqDiff]; try rfl, (hW.keep hlt (by decide) (by decide) (by decide))⟩
      · change some _ = some o at ho
        cases ho
        have q3 : up L 3 = true := (by first | exact hd { on := 3, ground := .data } (by simp) rfl | exact hd { on := 3, ground := .chain } (by simp) rfl | exact hd { on := 3, ground := .phase } (by simp) rfl)
        have q7 : up L 7 = true := (by first | exact hd { on := 7, ground := .data } (by simp) rfl | exact hd { on := 7, ground := .chain } (by simp) rfl | exact hd { on := 7, ground := .phase } (by simp) rfl)
        simp only [NxrMk, sld_yes q3, sld_yes q7]
        go_simp
        exact hK _ _ ⟨pb, z0, z1, z2, zq, zf, by simp only [NxrMk, sld_set hlt, sld_yes q3, sld_yes q7, reduceIte, Nat.reduceEqDiff]; try rfl, (hW.keep hlt (by decide) (by decide) (by decide))⟩
      · change some _ = some o at ho
        cases ho
        have q8 : up L 8 = true := (by first | exact hd { on := 8, ground := .data } (by simp) rfl | exact hd { on := 8, ground := .chain } (by simp) rfl | exact hd { on := 8, ground := .phase } (by simp) rfl)
        have n10 : up L 10 = false := hC.no nl 10 rfl (by kernel_rfl)
        have n11 : up L 11 = false := hC.no n10 11 rfl (by kernel_rfl)
        have n12 : up L 12 = false := hC.no n10 12 rfl (by kernel_rfl)
        have n13 : up L 13 = false := hC.no n10 13 rfl (by kernel_rfl)
        have n15 : up L 15 = false := hC.no n11 15 rfl (by kernel_rfl)
        have n16 : up L 16 = false := hC.no n12 16 rfl (by kernel_rfl)
        have n17 : up L 17 = false := hC.no n13 17 rfl (by kernel_rfl)
        simp only [NxrMk, sld_yes q8]
        simp only [sld_no n10, sld_no n11, sld_no n12, sld_no n13, sld_no n16, sld_no n17]
        go_simp
        refine (HRT.out _ (HGB.out _ hW.1)).mono ?_
        rintro e z ⟨he, dz⟩
        obtain ⟨b0, b1, b2, bq, bf, rfl, hrel⟩ := HTK.out e he
        go_simp
        exact hK _ _ ⟨pb, b0, b1, b2, bq, bf, by simp only [NxrMk, sld_set hlt, sld_yes q8, sld_no n10, sld_no n11, sld_no n12, sld_no n13, sld_no n16, sld_no n17, reduceIte, Nat.reduceEqDiff]; try rfl, ⟨hW.1.trans (dz.mono hW.1.size), fun _ => hrel, fun qq => by rw [up_set hlt, if_neg (by decide)] at qq; have hp := hW.2.2 qq; rw [n15] at hp; rw [up_set hlt, if_neg (by decide), n15]; exact ⟨hp.1, (dz.block _ (Array.getElem?_eq_some_iff.1 hp.2).1).trans hp.2⟩⟩⟩
      · change some _ = some o at ho
        cases ho
        have q9 : up L 9 = true := (by first | exact hd { on := 9, ground := .data } (by simp) rfl | exact hd { on := 9, ground := .chain } (by simp) rfl | exact hd { on := 9, ground := .phase } (by simp) rfl)
        simp only [NxrMk, sld_yes q9]
        go_simp
        exact hK _ _ ⟨pb, z0, z1, z2, zq, zf, by simp only [NxrMk, sld_set hlt, sld_yes q9, reduceIte, Nat.reduceEqDiff]; try rfl, (hW.keep hlt (by decide) (by decide) (by decide))⟩
      · change some _ = some o at ho
        cases ho
        have q10 : up L 10 = true := (by first | exact hd { on := 10, ground := .data } (by simp) rfl | exact hd { on := 10, ground := .chain } (by simp) rfl | exact hd { on := 10, ground := .phase } (by simp) rfl)
        simp only [NxrMk, sld_yes q10]
        go_simp
        exact hK _ _ ⟨pb, z0, z1, z2, zq, zf, by simp only [NxrMk, sld_set hlt, sld_yes q10, reduceIte, Nat.reduceEqDiff]; try rfl, (hW.keep hlt (by decide) (by decide) (by decide))⟩
      · change some _ = some o at ho
        cases ho
        have q10 : up L 10 = true := (by first | exact hd { on := 10, ground := .data } (by simp) rfl | exact hd { on := 10, ground := .chain } (by simp) rfl | exact hd { on := 10, ground := .phase } (by simp) rfl)
        simp only [NxrMk, sld_yes q10]
        go_simp
        exact hK _ _ ⟨pb, z0, z1, z2, zq, zf, by simp only [NxrMk, sld_set hlt, sld_yes q10, reduceIte, Nat.reduceEqDiff]; try rfl, (hW.keep hlt (by decide) (by decide) (by decide))⟩
      · change some _ = some o at ho
        cases ho
        have q10 : up L 10 = true := (by first | exact hd { on := 10, ground := .data } (by simp) rfl | exact hd { on := 10, ground := .chain } (by simp) rfl | exact hd { on := 10, ground := .phase } (by simp) rfl)
        simp only [NxrMk, sld_yes q10]
        go_simp
        exact hK _ _ ⟨pb, z0, z1, z2, zq, zf, by simp only [NxrMk, sld_set hlt, sld_yes q10, reduceIte, Nat.reduceEqDiff]; try rfl, (hW.keep hlt (by decide) (by decide) (by decide))⟩
      · change some _ = some o at ho
        cases ho
        have n15 : up L 15 = false := hC.no nl 15 rfl (by kernel_rfl)
        simp only [NxrMk]
        go_simp
        exact hK _ _ ⟨w.heap.size, z0, z1, z2, zq, zf, by simp only [NxrMk, sld_set hlt, reduceIte, Nat.reduceEqDiff]; try rfl, ⟨hW.1.trans ((below_allocL w _).mono hW.1.size), fun qq => by rw [up_set hlt, if_neg (by decide)] at qq; exact hW.2.1 qq, fun _ => ⟨hW.1.size, by rw [up_set hlt, if_neg (by decide), n15]; exact heap_alloc_new w _⟩⟩⟩
      · change some _ = some o at ho
        cases ho
        have q11 : up L 11 = true := (by first | exact hd { on := 11, ground := .data } (by simp) rfl | exact hd { on := 11, ground := .chain } (by simp) rfl | exact hd { on := 11, ground := .phase } (by simp) rfl)
        have q14 : up L 14 = true := (by first | exact hd { on := 14, ground := .data } (by simp) rfl | exact hd { on := 14, ground := .chain } (by simp) rfl | exact hd { on := 14, ground := .phase } (by simp) rfl)
        have hp := hW.2.2 q14
        rw [nl] at hp
        simp only [NxrMk, sld_yes q11, sld_yes q14]
        rw [if_pos (by rfl)]
        refine wp_store_row 34 _ _ rfl pb _ rfl rfl 34 #[.int .i64 0, .string ⟨#[]⟩, .int .i64 0, .int .i64 0, .int .i64 0] hp.2 (by kernel_rfl) rfl (by kernel_rfl) ?_
        exact hK _ _ ⟨pb, z0, z1, z2, zq, zf, by simp only [NxrMk, sld_set hlt, sld_yes q11, sld_yes q14, reduceIte, Nat.reduceEqDiff]; try rfl, ⟨below_setRow hW.1 hp.1 _, fun qq => by rw [up_set hlt, if_neg (by decide)] at qq; exact hW.2.1 qq, fun _ => ⟨hp.1, by rw [up_set hlt, if_pos rfl]; exact setRow_heap _ _ _ _ _ _ hp.2⟩⟩⟩
      · change some _ = some o at ho
        cases ho
        have q12 : up L 12 = true := (by first | exact hd { on := 12, ground := .data } (by simp) rfl | exact hd { on := 12, ground := .chain } (by simp) rfl | exact hd { on := 12, ground := .phase } (by simp) rfl)
        simp only [NxrMk, sld_yes q12]
        go_simp
        exact hK _ _ ⟨pb, z0, z1, z2, zq, zf, by simp only [NxrMk, sld_set hlt, sld_yes q12, reduceIte, Nat.reduceEqDiff]; try rfl, (hW.keep hlt (by decide) (by decide) (by decide))⟩
      · change some _ = some o at ho
        cases ho
        have q13 : up L 13 = true := (by first | exact hd { on := 13, ground := .data } (by simp) rfl | exact hd { on := 13, ground := .chain } (by simp) rfl | exact hd { on := 13, ground := .phase } (by simp) rfl)
        simp only [NxrMk, sld_yes q13]
        go_simp
        exact hK _ _ ⟨pb, z0, z1, z2, zq, zf, by simp only [NxrMk, sld_set hlt, sld_yes q13, reduceIte, Nat.reduceEqDiff]; try rfl, (hW.keep hlt (by decide) (by decide) (by decide))⟩
    case done =>
      rintro L act u4 ⟨pb, z0, z1, z2, zq, zf, rfl, hW⟩ hall
      obtain ⟨dd, hr, h14⟩ := hW
      replace hr := hr (hall 9 (by decide))
      replace h14 := h14 (hall 14 (by decide))
      rw [hall 15 (by decide)] at h14
      simp only [NxrMk, sld_yes (hall 0 (by decide)), sld_yes (hall 1 (by decide)), sld_yes (hall 2 (by decide)), sld_yes (hall 3 (by decide)), sld_yes (hall 4 (by decide)), sld_yes (hall 5 (by decide)), sld_yes (hall 6 (by decide)), sld_yes (hall 7 (by decide)), sld_yes (hall 8 (by decide)), sld_yes (hall 9 (by decide)), sld_yes (hall 10 (by decide)), sld_yes (hall 11 (by decide)), sld_yes (hall 12 (by decide)), sld_yes (hall 13 (by decide)), sld_yes (hall 14 (by decide)), sld_yes (hall 16 (by decide)), sld_yes (hall 17 (by decide))]
      go_wp2_with fail
      go_meet
      exact ⟨pb, z0, z1, z2, zq, zf, rfl, rfl, rfl, h14.1, h14.2, dd, hr⟩
  case rest =>
  obtain ⟨T, z0, z1, z2, zq, zf, rfl, rfl, rfl, hT1, hT2, hT3, htr⟩ := hcut
  obtain ⟨Y, hY⟩ : ∃ Y, Y = wc := ⟨_, rfl⟩
  rw [← hY] at hT2 hT3 ⊢
  have HT : Hid (Y.heap[T]? = some (.cells #[.int .i64 z0, .string z1, .int .i64 z2, .int .i64 0, .int .i64 0] 34 (0, 0))) := hT2
  have BY : Hid (Below U.heap.size U Y) := BV.out.trans (hT3.mono BV.out.size)
  have HPY : Hid (Y.heap[P]? = some (.cells #[.int .i64 0, .string ⟨#[]⟩, .int .i64 0, .int .i64 A, .int .i64 B] 34 (0, 0))) := (BY.out.block P HPU.out).trans HP.out
  have HRY : Hid (Y.heap[w.heap.size]? = some (.cells #[.int .i64 0, .string ⟨#[]⟩, .int .i64 0, .int .i64 0, .int .i64 0] 34 (0, 0))) := (BY.out.block _ (by have := HPU.out; omega)).trans HR2.out
  have HSTY : Hid (LxSt g s j Y) := HST2.out.keep BY.out
  have HOXY : Hid (OnlyX g w Y) := HOX2.out.trans (OnlyX.of_below BY.out)
  have hTP : P < T := by have := HPU.out; have := BV.out.size; omega
  have HTY : Hid (T < Y.heap.size) := (Array.getElem?_eq_some_iff.1 hT2).1
  clear hY hT1 hT2 hT3 d0 d1 HGV BV HRT HTO HGD HP HR2 HST2 HOX2 HE2 HPU HE HL BY
  rcases htr with ⟨hf, htf⟩ | ⟨rfl, n, htf, hq⟩
  · have ef : (zf != 0) = true := by simpa using hf
    have HTF : Hid (Pl.tokF s j = .error zf) := htf
    clear hf htf
    go_wp2_with (first | (refine wpList_load_row rfl 34 _ rfl P ?hx 34 #[.int .i64 0, .string ⟨#[]⟩, .int .i64 0, .int .i64 A, .int .i64 B] (0, 0) _ ?hg Tryz.underlying34 ?hd ?hi ?_; (case hx => rfl); (case hg => exact HPY.out); (case hd => rfl); (case hi => kernel_rfl)) | (refine wpList_store_row rfl 34 _ _ rfl w.heap.size #[.int .i64 0, .string ⟨#[]⟩, .int .i64 0, .int .i64 A, .int .i64 B] ?hx ?hy 34 #[.int .i64 0, .string ⟨#[]⟩, .int .i64 0, .int .i64 0, .int .i64 0] ?hg ?hi ?ho ?h1 ?_; (case hx => rfl); (case hy => rfl); (case hg => exact HRY.out); (case hi => kernel_rfl); (case ho => kernel_rfl); (case h1 => kernel_rfl)))
    refine bodyPost_ret (v := .tuple #[.agg #[.int .i64 0, .string ⟨#[]⟩, .int .i64 0, .int .i64 A, .int .i64 B], .int .i64 zf]) ?hr ?hdf ?hQQ
    case hr =>
      refine results_ctL Tryz.results49 _ _ (w.heap.size) 34 #[.int .i64 0, .string ⟨#[]⟩, .int .i64 0, .int .i64 A, .int .i64 B] (0, 0) _ (.int .i64 zf) ?hp ?hq ?hg Tryz.underlying34 ?hd ?hi
      case hp => rfl
      case hq => rfl
      case hg => exact setRow_heap _ _ _ _ _ _ HRY.out
      case hd => rfl
      case hi => kernel_rfl
    case hdf => rfl
    case hQQ => exact ⟨j, true, HS.out, HOXY.out.setRow (Nat.le_refl _), .inr (.inr (.inl ⟨rfl, hjs, zf, HTF.out, by rw [HAA.out, HBB.out], lx_row HSTY.out (by omega)⟩))⟩
  obtain ⟨⟨hn1, hn2⟩, _⟩ := Pl.tokF_n hjs htf
  obtain ⟨m, rfl⟩ : ∃ m, n = j + m := ⟨n - j, by omega⟩
  obtain rfl : zq = (m : Int) := by omega
  have HTF : Hid (Pl.tokF s j = .ok (z0, z1, z2, j + m)) := htf
  have HPA : Hid (∀ u : World, LxSt g s j u → Calls Tryz.prog 62 #[.pointer (some ⟨g, 0, none⟩), .int .i64 m] u fun e w' => (∃ v, e = .returned v) ∧ LxSt g s (j + m) w' ∧ OnlyX g u w') := fun u hu => pass_is g s hs j m hn2 u hu
  clear htf hq hn1 hn2
  go_wp2_with fail
  refine (HPA.out _ HSTY.out).mono ?_
  rintro e u5 ⟨⟨v5, rfl⟩, hst5, hox5⟩
  have hT5 : u5.heap[T]? = some (.cells #[.int .i64 z0, .string z1, .int .i64 z2, .int .i64 0, .int .i64 0] 34 (0, 0)) := (hox5.block T HTY.out (by omega)).trans HT.out
  have hP5 : u5.heap[P]? = some (.cells #[.int .i64 0, .string ⟨#[]⟩, .int .i64 0, .int .i64 A, .int .i64 B] 34 (0, 0)) := (hox5.block P (by have := HTY.out; omega) (by omega)).trans HPY.out
  have HT5 : Hid (u5.heap[T]? = some (.cells #[.int .i64 z0, .string z1, .int .i64 z2, .int .i64 0, .int .i64 0] 34 (0, 0))) := hT5
  have HR5 : Hid (u5.heap[w.heap.size]? = some (.cells #[.int .i64 0, .string ⟨#[]⟩, .int .i64 0, .int .i64 0, .int .i64 0] 34 (0, 0))) := (hox5.block _ (by have := HTY.out; omega) (by omega)).trans HRY.out
  have HOX5 : Hid (OnlyX g w u5) := HOXY.out.trans hox5
  have HST5 : Hid (LxSt g s (j + m) u5) := hst5
  have e3 : u5.cell? ⟨P, 3, none⟩ = some (.int .i64 A) := cell_of_row u5 P 3 _ 34 (0, 0) hP5
  have e4 : u5.cell? ⟨P, 4, none⟩ = some (.int .i64 B) := cell_of_row u5 P 4 _ 34 (0, 0) hP5
  have t3 : u5.cell? ⟨T, 3, none⟩ = some (.int .i64 0) := cell_of_row u5 T 3 _ 34 (0, 0) hT5
  have t4 : u5.cell? ⟨T, 4, none⟩ = some (.int .i64 0) := cell_of_row u5 T 4 _ 34 (0, 0) hT5
  have f3 : u5.frozen? ⟨T, 3, none⟩ = false := frozen_of_row u5 T 3 _ 34 hT5
  have f4 : u5.frozen? ⟨T, 4, none⟩ = false := frozen_of_row u5 T 4 _ 34 hT5
  have hPT : P ≠ T := by omega
  have HTP : Hid (w.heap.size < T) := by show w.heap.size < T; omega
  clear hst5 hox5 hT5 hP5 HT HPY HRY HSTY HOXY HTY HPA
  go_upto_region 11 with fail
  go_cut [] (fun wx => wx.heap[T]? = some (.cells #[.int .i64 z0, .string z1, .int .i64 z2, .int .i64 A, .int .i64 B] 34 (0, 0)) ∧ OnlyX T u5 wx)
  case first =>
    go_region
    all_goals
      go_wp2_with fail
      go_meet
      refine ⟨?_, ?_⟩
      · first | exact heap_setCell_same _ T 4 _ 34 _ (heap_setCell_same _ T 3 _ 34 _ HT5.out) | exact heap_setCell_same _ T 3 _ 34 _ (heap_setCell_same _ T 4 _ 34 _ HT5.out)
      · repeat (first | exact OnlyX.refl _ _ | refine OnlyX.setCell ?_ _ _ | refine OnlyX.drewN ?_ _ | refine OnlyX.drew ?_)
  case rest =>
  obtain ⟨hT6, hox6⟩ := hcut
  obtain ⟨Z, hZ⟩ : ∃ Z, Z = wc := ⟨_, rfl⟩
  rw [← hZ] at hT6 hox6 ⊢
  have HT6 : Hid (Z.heap[T]? = some (.cells #[.int .i64 z0, .string z1, .int .i64 z2, .int .i64 A, .int .i64 B] 34 (0, 0))) := hT6
  have hw5 : w.heap.size < u5.heap.size := (Array.getElem?_eq_some_iff.1 HR5.out).1
  have HR6 : Hid (Z.heap[w.heap.size]? = some (.cells #[.int .i64 0, .string ⟨#[]⟩, .int .i64 0, .int .i64 0, .int .i64 0] 34 (0, 0))) := (hox6.block _ hw5 (by have := HTP.out; omega)).trans HR5.out
  have HST6 : Hid (LxSt g s (j + m) Z) := (hox6.block g (by omega) (by omega)).trans HST5.out
  have HOX6 : Hid (OnlyX g w Z) := HOX5.out.dodge hox6 (by have := HTP.out; omega)
  clear hT6 hox6 hZ HT5 HR5 HOX5 HST5 e3 e4 t3 t4 f3 f4 hw5
  go_wp2_with (first | (refine wpList_load_row rfl 34 _ rfl T ?hx 34 #[.int .i64 z0, .string z1, .int .i64 z2, .int .i64 A, .int .i64 B] (0, 0) _ ?hg Tryz.underlying34 ?hd ?hi ?_; (case hx => rfl); (case hg => exact HT6.out); (case hd => rfl); (case hi => kernel_rfl)) | (refine wpList_store_row rfl 34 _ _ rfl w.heap.size #[.int .i64 z0, .string z1, .int .i64 z2, .int .i64 A, .int .i64 B] ?hx ?hy 34 #[.int .i64 0, .string ⟨#[]⟩, .int .i64 0, .int .i64 0, .int .i64 0] ?hg ?hi ?ho ?h1 ?_; (case hx => rfl); (case hy => rfl); (case hg => exact HR6.out); (case hi => kernel_rfl); (case ho => kernel_rfl); (case h1 => kernel_rfl)))
  refine bodyPost_ret (v := .tuple #[.agg #[.int .i64 z0, .string z1, .int .i64 z2, .int .i64 A, .int .i64 B], .int .i64 0]) ?hr ?hdf ?hQQ
  case hr =>
    refine results_ctL Tryz.results49 _ _ (w.heap.size) 34 #[.int .i64 z0, .string z1, .int .i64 z2, .int .i64 A, .int .i64 B] (0, 0) _ (.int .i64 0) ?hp ?hq ?hg Tryz.underlying34 ?hd ?hi
    case hp => rfl
    case hq => rfl
    case hg => exact setRow_heap _ _ _ _ _ _ HR6.out
    case hd => rfl
    case hi => kernel_rfl
  case hdf => rfl
  case hQQ => exact ⟨j, true, HS.out, HOX6.out.setRow (Nat.le_refl _), .inr (.inr (.inr ⟨rfl, hjs, z0, z1, z2, j + m, HTF.out, by rw [HAA.out, HBB.out], lx_row HST6.out (by omega)⟩))⟩
end Go.Proofs.YtdplfflkmphpbaaGreatDoor.W
namespace Go.Proofs.YtdplfflkmphpbaaGreatDoor.Pl
abbrev Yd := Int × ByteArray × Int × Int × Int × Int
inductive Pth (s : ByteArray) : List Yd → Nat → Prop
  | nil : Pth s [] 0
  | snoc {pre : List Yd} {k j : Nat} {kd : Int} {S : ByteArray} {N : Int} {n : Nat} : Pth s pre k → Sk s k j true → j < s.size → tokF s j = .ok (kd, S, N, n) → Pth s (pre ++ [(kd, S, N, ln s j, cn s j, 0)]) n
def Lst (s : ByteArray) (k : Nat) (x : Yd) : Prop := ∃ j b f, Sk s k j b ∧ x = (0, ⟨#[]⟩, 0, ln s j, cn s j, f) ∧ ((b = false ∧ f = 3) ∨ (b = true ∧ j = s.size ∧ f = 0) ∨ (b = true ∧ j < s.size ∧ tokF s j = .error f))
end Go.Proofs.YtdplfflkmphpbaaGreatDoor.Pl
namespace Go.Proofs.YtdplfflkmphpbaaGreatDoor.W
open Go.RowKit Go.Shelf
attribute [local go_sem] Oper.semAt_some
def KpX (n0 g bx : Nat) (W0 W1 W' : World) : Prop := Below n0 W1 W' ∧ W'.heap[g]? = W1.heap[g]? ∧ W'.heap[bx]? = W1.heap[bx]? ∧ ∀ b, W0.heap.size ≤ b → b < W1.heap.size → W'.heap[b]? = W1.heap[b]?
theorem nxt_cases {g : Nat} {s : ByteArray} {k : Nat} (hk : k ≤ s.size) {w : World} {e : Ending} {w' : World} (h : NxtI g s k w e w') :
    OnlyX g w w' ∧ ∃ (kd : Int) (S : ByteArray) (N A B f : Int) (n : Nat), e = .returned (.tuple #[.agg #[.int .i64 kd, .string S, .int .i64 N, .int .i64 A, .int .i64 B], .int .i64 f]) ∧ n ≤ s.size ∧ LxSt g s n w' ∧
      ((Pl.Lst s k (kd, S, N, A, B, f) ∧ (f ≠ 0 ∨ (f = 0 ∧ kd = 0))) ∨ (f = 0 ∧ kd ≠ 0 ∧ k < n ∧ ∀ pre, Pl.Pth s pre k → Pl.Pth s (pre ++ [(kd, S, N, A, B, f)]) n)) := by
  obtain ⟨j, b, hsk, hox, h⟩ := h
  have hj : k ≤ j := hsk.le.1
  have hj2 : j ≤ s.size := hsk.le.2.1 hk
  refine ⟨hox, ?_⟩
  rcases h with ⟨rfl, rfl, hst⟩ | ⟨rfl, hjs, rfl, hst⟩ | ⟨rfl, hjs, f, htf, rfl, hst⟩ | ⟨rfl, hjs, kd, S, N, n, htf, rfl, hst⟩
  · exact ⟨_, _, _, _, _, _, j, rfl, hj2, hst, .inl ⟨⟨j, false, 3, hsk, rfl, .inl ⟨rfl, rfl⟩⟩, .inl (by decide)⟩⟩
  · exact ⟨_, _, _, _, _, _, j, rfl, hj2, hst, .inl ⟨⟨j, true, 0, hsk, rfl, .inr (.inl ⟨rfl, hjs, rfl⟩)⟩, .inr ⟨rfl, rfl⟩⟩⟩
  · exact ⟨_, _, _, _, _, _, j, rfl, hj2, hst, .inl ⟨⟨j, true, f, hsk, rfl, .inr (.inr ⟨rfl, hjs, htf⟩)⟩, .inl (Pl.tokF_f htf)⟩⟩
  · obtain ⟨⟨h1, h2⟩, ⟨h3, _⟩, _⟩ := Pl.tokF_n hjs htf
    exact ⟨_, _, _, _, _, _, n, rfl, h2, hst, .inr ⟨rfl, by omega, by omega, fun pre hp => .snoc hp hsk hjs htf⟩⟩
theorem lxAt_of {g k : Nat} {s : ByteArray} {w : World} (h : LxSt g s k w) : lxAt g w = k := by
  unfold lxAt
  rw [cell_of_row w g 1 _ 72 (0, 0) h]
  rfl
set_option maxHeartbeats 8000000 in
set_option maxRecDepth 100000 in
theorem tokens1_is (m g bx n0 l : Nat) (hm : 1 ≤ m) (hg8 : 8 ≤ g) (h8 : 8 ≤ n0) (hne : bx ≠ g) (s : ByteArray) (hs : s.size ≤ 1048576) (J Jx : List Pl.Yd → World → Prop)
    (hY : ∀ pre kd S N A B f W0 W1, J pre W0 → (∃ k, Pl.Pth s pre k ∧ LxSt g s k W0) → OnlyX g W0 W1 → n0 ≤ W0.heap.size → YieldAt Fence.wide (m - 1) Tryz.prog l #[.agg #[.int .i64 kd, .string S, .int .i64 N, .int .i64 A, .int .i64 B], .int .i64 f] W1 fun e W' =>
      (e = .returned (.bool true) ∧ J (pre ++ [(kd, S, N, A, B, f)]) W' ∧ KpX n0 g bx W0 W1 W') ∨ (e = .returned (.bool false) ∧ Jx (pre ++ [(kd, S, N, A, B, f)]) W'))
    (W : World) (hbx : W.cell? ⟨bx, 0, none⟩ = some (.pointer (some ⟨g, 0, none⟩))) (hn0 : n0 ≤ W.heap.size) (hL : LxSt g s 0 W) (hE : Glo W) (h0 : J [] W) :
    CallsIn Fence.wide m Tryz.prog 48 #[.func (.yield l) #[] #[], .pointer (some ⟨bx, 0, none⟩)] W fun e W' => (∃ v, e = .returned v) ∧
      ((∃ pre k x, Pl.Pth s pre k ∧ Pl.Lst s k x ∧ J (pre ++ [x]) W') ∨ (∃ pre x, ((∃ k, Pl.Pth s (pre ++ [x]) k) ∨ ∃ k, Pl.Pth s pre k ∧ Pl.Lst s k x) ∧ Jx (pre ++ [x]) W')) := by
  have HY : Hid _ := hY
  have HL : Hid (LxSt g s 0 W) := hL
  have HE : Hid (Glo W) := hE
  have H0 : Hid (J [] W) := h0
  have HBX : Hid (W.cell? ⟨bx, 0, none⟩ = some (.pointer (some ⟨g, 0, none⟩))) := hbx
  clear hY hL hE h0 hbx
  refine callsIn_of_wp Tryz.func48 rfl trivial ?_ rfl
  simp only [Tryz.ntmps48, List.size_toArray, List.length_cons, List.length_nil, Nat.reduceAdd, Nat.reduceSub, Array.replicate_succ, Array.replicate_zero, List.push_toArray, List.append_toArray, List.nil_append, List.cons_append]
  gi_wp2
  gi_loopw [] (fun wr => ∃ pre k, Pl.Pth s pre k ∧ k ≤ s.size ∧ J pre wr ∧ LxSt g s k wr ∧ Glo wr ∧ wr.cell? ⟨bx, 0, none⟩ = some (.pointer (some ⟨g, 0, none⟩)) ∧ n0 ≤ wr.heap.size) (fun wr => s.size - lxAt g wr)
  case atStart => exact ⟨[], 0, .nil, Nat.zero_le _, H0.out, HL.out, HE.out, HBX.out, hn0⟩
  case round =>
    obtain ⟨pre, k, hp, hk, hj, hst, hgl, hb, hn⟩ := hrel
    have HN : Hid (CallsIn Fence.wide (m - 1) Tryz.prog 49 #[.pointer (some ⟨g, 0, none⟩)] wr fun e w' => NxtI g s k wr e w') := callsIn_wide.2 (next_is g hg8 s hs k hk wr hst hgl)
    have HP : Hid (Pl.Pth s pre k) := hp
    have HJ0 : Hid (J pre wr) := hj
    have HM : Hid (lxAt g wr = k) := lxAt_of hst
    have HXX : Hid (∃ k, Pl.Pth s pre k ∧ LxSt g s k wr) := ⟨k, hp, hst⟩
    have HG : Hid (Glo wr) := hgl
    have HB : Hid (wr.cell? ⟨bx, 0, none⟩ = some (.pointer (some ⟨g, 0, none⟩))) := hb
    clear hp hj hst hgl
    gi_wp2_with (refine ⟨trivial, ?_⟩; gi_at_call 49; refine HN.out.mono ?_; rintro e u1 hu1; obtain ⟨hox, kd, S, N, A, B, f, n, rfl, hn2, hst, hcs⟩ := nxt_cases hk hu1; clear hu1; have HOX : Hid (OnlyX g wr u1) := hox; have HST : Hid (LxSt g s n u1) := hst; have HCS : Hid _ := hcs; clear hst hcs hox; obtain ⟨fn, tmps, assign, body, hy, hR⟩ := HY.out pre kd S N A B f wr (u1.alloc (.cells #[.int .i64 kd, .string S, .int .i64 N, .int .i64 A, .int .i64 B] 34)) HJ0.out HXX.out (HOX.out.trans (OnlyX.of_below (below_allocL _ _))) hn; have HR : Hid _ := hR; clear hR)
    refine RoundIn.mono HR.out ?_
    rintro e W3 (⟨rfl, hJ3, hk3⟩ | ⟨rfl, hJx3⟩)
    · have hs1 := HOX.out.size
      have c0 : W3.cell? ⟨u1.heap.size, 0, none⟩ = some (.int .i64 kd) := cell_of_row W3 u1.heap.size 0 _ 34 (0, 0) ((hk3.2.2.2 _ hs1 (by simp)).trans (heap_alloc_new u1 _))
      have HJ3 : Hid (J (pre ++ [(kd, S, N, A, B, f)]) W3) := hJ3
      have B3 : Hid (Below n0 (u1.alloc (.cells #[.int .i64 kd, .string S, .int .i64 N, .int .i64 A, .int .i64 B] 34)) W3) := hk3.1
      have KG : Hid (W3.heap[g]? = (u1.alloc (.cells #[.int .i64 kd, .string S, .int .i64 N, .int .i64 A, .int .i64 B] 34)).heap[g]?) := hk3.2.1
      have KB : Hid (W3.heap[bx]? = (u1.alloc (.cells #[.int .i64 kd, .string S, .int .i64 N, .int .i64 A, .int .i64 B] 34)).heap[bx]?) := hk3.2.2.1
      clear hJ3 hk3 hy HR HY
      rcases HCS.out with ⟨hl, hf | ⟨rfl, rfl⟩⟩ | ⟨rfl, hkd, hkn, hpt⟩
      · have ef : (f != 0) = true := by simpa using hf
        have HLS : Hid (Pl.Lst s k (kd, S, N, A, B, f)) := hl
        clear HCS hf hl
        gi_wp2
        refine bodyPost_ret (results_none rfl _ _ _) rfl ?_
        exact ⟨⟨_, rfl⟩, .inl ⟨pre, k, _, HP.out, HLS.out, HJ3.out⟩⟩
      · have HLS : Hid (Pl.Lst s k (0, S, N, A, B, 0)) := hl
        clear HCS hl
        gi_wp2
        refine bodyPost_ret (results_none rfl _ _ _) rfl ?_
        exact ⟨⟨_, rfl⟩, .inl ⟨pre, k, _, HP.out, HLS.out, HJ3.out⟩⟩
      · have ek : (kd == 0) = false := by simpa using hkd
        have HPT : Hid (Pl.Pth s (pre ++ [(kd, S, N, A, B, 0)]) n) := hpt pre HP.out
        have HKN : Hid (k < n) := hkn
        clear HCS hkd hpt hkn
        gi_wp2
        have hgu : g < u1.heap.size := (Array.getElem?_eq_some_iff.1 HST.out).1
        have hST3 : LxSt g s n W3 := (KG.out.trans (Below.heap_alloc u1 _ g hgu)).trans HST.out
        have hbw : bx < wr.heap.size := block_lt_of_cell HB.out
        have hbu : bx < u1.heap.size := by omega
        go_roundw
        case rel =>
          refine ⟨_, n, HPT.out, hn2, HJ3.out, hST3, ?_, ?_, ?_⟩
          · exact ((HG.out.onX hg8 HOX.out).on (below_allocL _ _)).keep (n := n0) (by omega) B3.out
          · refine (World.cell?_of_block (w := wr) ?_).trans HB.out
            exact (KB.out.trans (Below.heap_alloc u1 _ bx hbu)).trans (HOX.out.block bx hbw hne)
          · have := B3.out.size; simp at this; omega
        case measure => rw [lxAt_of hST3, HM.out]; have := HKN.out; omega
    · have HJX : Hid (Jx (pre ++ [(kd, S, N, A, B, f)]) W3) := hJx3
      clear hJx3 hy HR HY
      gi_wp2
      refine bodyPost_ret (results_none rfl _ _ _) rfl ?_
      refine ⟨⟨_, rfl⟩, .inr ⟨pre, _, ?_, HJX.out⟩⟩
      rcases HCS.out with ⟨hl, _⟩ | ⟨rfl, hkd, hkn, hpt⟩
      · exact .inr ⟨k, HP.out, hl⟩
      · exact .inl ⟨n, hpt pre HP.out⟩
end Go.Proofs.YtdplfflkmphpbaaGreatDoor.W
namespace Go.Proofs.YtdplfflkmphpbaaGreatDoor.W
open Go.RowKit Go.Shelf
theorem alloc_at (w : World) (o : Obj) (k : Nat) (h : k = w.heap.size) : (w.alloc o).heap[k]? = some o := by subst h; exact World.alloc_heap_new w o
def KbX (D z g bx : Nat) (W0 Wb W' : World) : Prop := (∀ b, D ≤ b → b < D + 2 → W'.heap[b]? = Wb.heap[b]?) ∧ Below z Wb W' ∧ W'.heap[g]? = Wb.heap[g]? ∧ W'.heap[bx]? = Wb.heap[bx]? ∧ ∀ b, W0.heap.size ≤ b → b < Wb.heap.size → W'.heap[b]? = Wb.heap[b]?
def xPost (D z g bx : Nat) (W0 Wb : World) (I Ix : List Pl.Yd → World → Prop) (xs : List Pl.Yd) : Exit → Act → World → Prop
  | .normal, _, W' => KbX D z g bx W0 Wb W' ∧ I xs W'
  | .ret, _, W' => (∀ b, D ≤ b → b < D + 2 → W'.heap[b]? = Wb.heap[b]?) ∧ Ix xs W'
  | _, _, _ => False
theorem putObj_below {D l : Nat} {A B : World} (h : Below D A B) (hl : D ≤ l) (o : Obj) : Below D A (B.putObj l o) :=
  ⟨h.os, h.tape, h.output, by simpa using h.size, fun b hb => (World.putObj_heap_other (by omega)).trans (h.block b hb)⟩
set_option maxHeartbeats 4000000 in
theorem range_x {op : Operand} {ps : Array Tmp} {assign body : Code} {Q : Exit → Act → World → Prop} {a : Act} {w : World} (n z g bx : Nat) (h1 : 2 ≤ n) (hz8 : 8 ≤ z) (hzw : z ≤ w.heap.size)
    (hop : a.eval op = .func (.func 48) #[] #[.pointer (some ⟨bx, 0, none⟩)])
    (hg8 : 8 ≤ g) (hgn : g < w.heap.size) (hbn : bx < w.heap.size) (hne : bx ≠ g) (s : ByteArray) (hs : s.size ≤ 1048576)
    (hbx : w.cell? ⟨bx, 0, none⟩ = some (.pointer (some ⟨g, 0, none⟩))) (hL : LxSt g s 0 w) (hE : Glo w) (hps : ps.size = 2)
    (I Ix : List Pl.Yd → World → Prop) (hI : ∀ A, Below w.heap.size w A → I [] A)
    (hIp : ∀ pre A l o o', I pre A → w.heap.size ≤ l → l < w.heap.size + 2 → A.heap[l]? = some o' → o'.isCells = false → I pre (A.putObj l o))
    (hIxp : ∀ pre A l o o', Ix pre A → w.heap.size ≤ l → l < w.heap.size + 2 → A.heap[l]? = some o' → o'.isCells = false → Ix pre (A.putObj l o))
    (Ax : Pl.Yd → World → Act → World → Prop)
    (hassign : ∀ (l : Nat) (kd : Int) (S : ByteArray) (N A B f : Int) (W : World) (K : Act → World → Prop), (∀ a' W', Below W.heap.size W W' → Ax (kd, S, N, A, B, f) W a' W' → K a' W') →
      assign.wpIn (Fence.wide.inRound l) (n - 1 - 1) Tryz.prog (Exit.then K (fun _ _ _ => False)) { tmps := (ps.zip #[.agg #[.int .i64 kd, .string S, .int .i64 N, .int .i64 A, .int .i64 B], .int .i64 f]).foldl (fun t (p, v) => t.setIfInBounds p v) a.tmps, defers := [] } W)
    (hbody : ∀ (l : Nat) (pre : List Pl.Yd) (kd : Int) (S : ByteArray) (N A B f : Int) (W0 W : World) (a' : Act) (W1 : World) (o : Obj), w.heap.size ≤ l → l < w.heap.size + 2 → I pre W0 → (∃ k, Pl.Pth s pre k ∧ LxSt g s k W0) → (∀ b, w.heap.size ≤ b → b < w.heap.size + 2 → ∃ o', W0.heap[b]? = some o' ∧ o'.isCells = false) → w.heap.size + 2 ≤ W0.heap.size → OnlyX g W0 W → Below W.heap.size W W1 → Ax (kd, S, N, A, B, f) W a' W1 →
      body.wpIn (Fence.wide.inRound l) (n - 1 - 1) Tryz.prog (xPost w.heap.size z g bx W0 (W1.putObj l o) I Ix (pre ++ [(kd, S, N, A, B, f)])) a' (W1.putObj l o))
    (hdone : ∀ pre k x W, Pl.Pth s pre k → Pl.Lst s k x → I (pre ++ [x]) W → W.heap[w.heap.size]? = some (.deferred (some [])) → Q .normal { a with defers := { target := .collected w.heap.size, args := #[] } :: a.defers } W)
    (hstop : ∀ pre x W, ((∃ k, Pl.Pth s (pre ++ [x]) k) ∨ ∃ k, Pl.Pth s pre k ∧ Pl.Lst s k x) → Ix (pre ++ [x]) W → W.heap[w.heap.size]? = some (.deferred (some [])) → Code.ret.wpIn Fence.wide n Tryz.prog Q { a with defers := { target := .collected w.heap.size, args := #[] } :: a.defers } W) :
    (Code.rangeFunc op ps assign body).wpIn Fence.wide n Tryz.prog Q a w := by
  refine wpIn_rangeFunc fun fn hfn => ?_
  let r0 : Loop := { state := .ready, pending := none, fn := fn, tmps := a.tmps, params := ps, assign := assign, body := body, defers := w.heap.size }
  obtain ⟨W1, hW1⟩ : ∃ W1, (w.alloc (.deferred (some []))).alloc (.loop r0) = W1 := ⟨_, rfl⟩
  have hL1 : W1.heap[w.heap.size + 1]? = some (.loop r0) := hW1 ▸ alloc_at _ _ _ (by simp)
  have hD1 : W1.heap[w.heap.size]? = some (.deferred (some [])) := hW1 ▸ (Below.heap_alloc _ _ _ (by simp)).trans (alloc_at w _ _ rfl)
  have hB1 : Below w.heap.size w W1 := by rw [← hW1]; exact (below_allocL w _).trans ((below_allocL _ _).mono (by simp))
  have hz1 : w.heap.size + 2 ≤ W1.heap.size := by have := (Array.getElem?_eq_some_iff.1 hL1).1; omega
  refine ⟨w.heap.size + 1, [{ target := .collected w.heap.size, args := #[] }], W1, { target := .fn (.func 48) #[.pointer (some ⟨bx, 0, none⟩)], args := #[.func (.yield (w.heap.size + 1)) #[] #[]] }, W1, 48,
    #[.func (.yield (w.heap.size + 1)) #[] #[]] ++ #[.pointer (some ⟨bx, 0, none⟩)], W1, ?_, ?_, ?_, ?_, fun _ => by omega, ?_⟩
  · rw [← hW1]; exact run_enterLoop_outer _ _ _ _ _
  · simp only [resolve, hop]
    simp [go_sem]
  · intro f' _; trivial
  · simp [invoke, go_sem, enters_of Tryz.func48 (by kernel_rfl) rfl]
  refine (tokens1_is (n - 1) g bx z (w.heap.size + 1) (by omega) hg8 hz8 hne s hs
    (fun pre W => I pre W ∧ W.heap[w.heap.size + 1]? = some (.loop r0) ∧ W.heap[w.heap.size]? = some (.deferred (some [])))
    (fun pre W => Ix pre W ∧ W.heap[w.heap.size + 1]? = some (.loop { r0 with state := .done, pending := some .ret }) ∧ W.heap[w.heap.size]? = some (.deferred (some [])))
    ?hY W1 ((hB1.cell (p := ⟨bx, 0, none⟩) hbn).trans hbx) (by omega) (hL.keep hB1) (hE.on hB1) ⟨hI _ hB1, hL1, hD1⟩).mono ?post
  case hY =>
    rintro pre kd S N A B f W0 W ⟨hi, hl, hd⟩ hxx hx hn
    have z0 : w.heap.size + 2 ≤ W0.heap.size := by have := (Array.getElem?_eq_some_iff.1 hl).1; omega
    have hlW : W.heap[w.heap.size + 1]? = some (.loop r0) := (hx.block _ (by omega) (by omega)).trans hl
    have hdW : W.heap[w.heap.size]? = some (.deferred (some [])) := (hx.block _ (by omega) (by omega)).trans hd
    have zW : w.heap.size + 2 ≤ W.heap.size := Nat.le_trans z0 hx.size
    refine ⟨_, _, _, _, run_yield hlW (by show 2 = ps.size; omega), roundIn_of_wpIn hfn (hassign _ kd S N A B f W _ fun a' W' hb ha => ?_)⟩
    have hl' : W'.heap[w.heap.size + 1]? = some (.loop r0) := (hb.block _ (by omega)).trans hlW
    have hd' : W'.heap[w.heap.size]? = some (.deferred (some [])) := (hb.block _ (by omega)).trans hdW
    refine ⟨_, run_beginRound hl' rfl, wpIn_mono (hbody _ pre kd S N A B f W0 W a' W' _ (by omega) (by omega) hi hxx (fun b hb1 hb2 => by rcases (show b = w.heap.size ∨ b = w.heap.size + 1 by omega) with rfl | rfl; exact ⟨_, hd, rfl⟩; exact ⟨_, hl, rfl⟩) z0 hx hb ha) ?_⟩
    have zW' : w.heap.size + 2 ≤ W'.heap.size := Nat.le_trans zW hb.size
    have hl2 : (W'.putObj (w.heap.size + 1) (.loop { r0 with state := .busy })).heap[w.heap.size + 1]? = some (.loop { r0 with state := .busy }) := World.putObj_heap_same (by omega)
    have hd2 : (W'.putObj (w.heap.size + 1) (.loop { r0 with state := .busy })).heap[w.heap.size]? = some (.deferred (some [])) := (World.putObj_heap_other (by omega)).trans hd'
    rintro e a3 W3 hp
    cases e with
    | normal =>
      obtain ⟨⟨k1, k2, kg, kb, k3⟩, hi3⟩ := hp
      have hl3 := (k1 (w.heap.size + 1) (by omega) (by omega)).trans hl2
      have hd3 := (k1 w.heap.size (by omega) (by omega)).trans hd2
      refine ⟨_, _, run_endRound none hl3, .inl ⟨rfl, ⟨hIp _ _ _ _ _ hi3 (by omega) (by omega) hl3 rfl, World.putObj_heap_same (Array.getElem?_eq_some_iff.1 hl3).1, (World.putObj_heap_other (by omega)).trans hd3⟩, ?_, ?_, ?_, fun b hb1 hb2 => ?_⟩⟩
      · exact putObj_below ((putObj_below (hb.mono (by omega)) (by omega) _).trans k2) (by omega) _
      · rw [World.putObj_heap_other (by omega), kg, World.putObj_heap_other (by omega)]
        exact hb.block g (by omega)
      · rw [World.putObj_heap_other (by omega), kb, World.putObj_heap_other (by omega)]
        exact hb.block bx (by omega)
      · rw [World.putObj_heap_other (by omega), k3 b hb1 (by have := hb.size; simp; omega), World.putObj_heap_other (by omega)]
        exact hb.block b hb2
    | ret =>
      obtain ⟨k1, hi3⟩ := hp
      have hl3 := (k1 (w.heap.size + 1) (by omega) (by omega)).trans hl2
      have hd3 := (k1 w.heap.size (by omega) (by omega)).trans hd2
      exact ⟨_, _, run_endRound (some .ret) hl3, .inr ⟨rfl, hIxp _ _ _ _ _ hi3 (by omega) (by omega) hl3 rfl, World.putObj_heap_same (Array.getElem?_eq_some_iff.1 hl3).1, (World.putObj_heap_other (by omega)).trans hd3⟩⟩
    | exit id => exact hp.elim
    | goto t => exact hp.elim
    | panic ch => exact hp.elim
    | outgrown => exact hp.elim
  case post =>
    rintro e W2 ⟨⟨v, rfl⟩, (⟨pre, k, x, hp, hx, hi, hl, hd⟩ | ⟨pre, x, hx, hi, hl, hd⟩)⟩
    · exact ⟨_, _, run_endLoop hl (show LoopState.ready ≠ LoopState.busy by decide), hdone pre k x _ hp hx (hIp _ _ _ _ _ hi (by omega) (by omega) hl rfl) ((World.putObj_heap_other (by omega)).trans hd)⟩
    · exact ⟨_, _, run_endLoop hl (show LoopState.done ≠ LoopState.busy by decide), hstop pre x _ hx (hIxp _ _ _ _ _ hi (by omega) (by omega) hl rfl) ((World.putObj_heap_other (by omega)).trans hd)⟩
end Go.Proofs.YtdplfflkmphpbaaGreatDoor.W
