import Derived.Test.YtdplfflkmphpbaaGreatDoorT09
import Derived.Test.YtdplfflkmphpbaaGreatDoorT11
import Derived.Deep.QuietTactic
import Derived.BigQuiet
import Derived.Deep.WholeRow
import Derived.Test.YtdplfflkmphpbaaGreatDoorT08
set_option linter.unusedVariables false
set_option linter.unusedSimpArgs false
namespace Go.Proofs.YtdplfflkmphpbaaGreatDoor.Pl
theorem isS_ix {x : ByteArray} (h : isS x = true) : ∃ k, k < 45 ∧ sgB.getD k [] = x.toList := by
  unfold isS at h
  rw [List.any_eq_true] at h
  obtain ⟨r, hr, he⟩ := h
  obtain ⟨k, hk, rfl⟩ := List.mem_iff_getElem.1 hr
  exact ⟨k, hk, by rw [List.getD_eq_getElem?_getD, List.getElem?_eq_getElem hk]; exact (eq_of_beq he).symm⟩
theorem sg_len : ∀ k, k < 45 → 1 ≤ (sgB.getD k []).length ∧ (sgB.getD k []).length ≤ 3 := by decide
theorem sg_ord : ∀ k, k < 45 → ∀ j, j < 45 → (sgB.getD k []).length < (sgB.getD j []).length → j < k := by decide
def Mt (s : ByteArray) (i k : Nat) : Prop := i + (sgB.getD k []).length ≤ s.size ∧ (s.extract i (i + (sgB.getD k []).length)).toList = sgB.getD k []
theorem len_toList (x : ByteArray) : x.toList.length = x.size := by rw [ByteArray.toList_eq]; simp
theorem ext_pre (s : ByteArray) (i n : Nat) (hi : i ≤ s.size) (h : i + n ≤ s.size) : (s.extract i s.size).extract 0 n = s.extract i (i + n) := by
  rw [ext_ext s i s.size 0 n h (Nat.le_refl _) (Nat.zero_le _), Nat.add_zero]
theorem mt_of {s : ByteArray} {i n : Nat} (hi : i ≤ s.size) (hn : n ≤ s.size - i) (h : isS ((s.extract i s.size).extract 0 n) = true) : ∃ k, k < 45 ∧ (sgB.getD k []).length = n ∧ Mt s i k := by
  obtain ⟨k, hk, e⟩ := isS_ix h
  rw [ext_pre s i n hi (by omega)] at e
  have hl : (sgB.getD k []).length = n := by rw [e, len_toList, ext_size]; omega
  exact ⟨k, hk, hl, by rw [hl]; omega, by rw [hl, ← e]⟩
theorem sgn_no2 {s : ByteArray} {i : Nat} (hi : i ≤ s.size) (h : ∀ k, k < 45 → ¬ Mt s i k) : sgn (s.extract i s.size) = 0 := by
  refine Classical.byContradiction fun hc => ?_
  obtain ⟨k, hk, _, hm⟩ := mt_of hi (by have := (sgn_le (s.extract i s.size)).1; rw [ext_sz] at this; exact this) (sgn_is _ hc)
  exact h k hk hm
theorem mt_isS {s : ByteArray} {i k : Nat} (hi : i ≤ s.size) (hk : k < 45) (h : Mt s i k) : isS ((s.extract i s.size).extract 0 (sgB.getD k []).length) = true := by
  rw [ext_pre s i _ hi h.1]
  unfold isS
  exact any_yes (k := k) hk h.2.symm
end Go.Proofs.YtdplfflkmphpbaaGreatDoor.Pl
namespace Go.Proofs.YtdplfflkmphpbaaGreatDoor.W
open Go.RowKit
theorem sgn_mt {s : ByteArray} {i k : Nat} (hi : i ≤ s.size) (hk : k < 45) (h : Pl.Mt s i k) (hn : ∀ j, j < k → ¬ Pl.Mt s i j) : Pl.sgn (s.extract i s.size) = (Pl.sgB.getD k []).length := by
  have hl := Pl.sg_len k hk
  refine sgn_at (by omega) (by omega) (by rw [Pl.ext_sz]; have := h.1; omega) (Pl.mt_isS hi hk h) fun j h1 h2 h3 => ?_
  rw [Pl.ext_sz] at h3
  cases hq : Pl.isS ((s.extract i s.size).extract 0 j)
  · rfl
  · obtain ⟨k', hk', e, hm⟩ := Pl.mt_of hi h3 hq
    exact absurd hm (hn k' (Pl.sg_ord k hk k' hk' (by omega)))
theorem below_drewQ {B : Nat} {a w : World} (h : Below B a w) (m : Nat) : Below B a (w.drewN m) := ⟨h.os, h.tape, h.output, h.size, h.block⟩
def GotQ (s : ByteArray) (i : Nat) (e : Ending) : Prop := match Pl.tokF s i with
  | .ok (k, S, N, n) => e = .returned (.agg #[.int .i64 k, .string S, .int .i64 N, .int .i64 0, .int .i64 0, .int .i64 n, .int .i64 0, .int .i64 0])
  | .error f => e = .returned (.agg #[.int .i64 0, .string ⟨#[]⟩, .int .i64 0, .int .i64 0, .int .i64 0, .int .i64 0, .int .i64 f, .int .i64 i])
theorem gotq_no {s : ByteArray} {i : Nat} {f : Int} (h : Pl.tokF s i = .error f) : GotQ s i (.returned (.agg #[.int .i64 0, .string ⟨#[]⟩, .int .i64 0, .int .i64 0, .int .i64 0, .int .i64 0, .int .i64 f, .int .i64 i])) := by unfold GotQ; rw [h]
theorem gotq_ok {s S : ByteArray} {i n : Nat} {k N n' : Int} (h : Pl.tokF s i = .ok (k, S, N, n)) (hn : n' = n) : GotQ s i (.returned (.agg #[.int .i64 k, .string S, .int .i64 N, .int .i64 0, .int .i64 0, .int .i64 n', .int .i64 0, .int .i64 0])) := by unfold GotQ; rw [h, hn]
set_option maxHeartbeats 8000000 in
set_option maxRecDepth 100000 in
theorem l5Token_sign (s : ByteArray) (hs : s.size ≤ 1048576) (i : Nat) (hi : i < s.size) (hw : Pl.wch (Pl.byt s i) = false) (h39 : Pl.byt s i ≠ 39) (h34 : Pl.byt s i ≠ 34) (w : World) : Calls Tryz.prog 25 #[.string s, .int .i64 i] w fun e w' => GotQ s i e ∧ Below w.heap.size w w' := by
  have hii : (i : Int) < s.size := by omega
  have hg := Pl.byt_get s i hi
  obtain ⟨c, hc⟩ : ∃ c, c = Pl.byt s i := ⟨_, rfl⟩
  rw [← hc] at hg hw h39 h34
  have HC : Hid (c = Pl.byt s i) := hc
  have e39 : (c == 39) = false := by simp [h39]
  have e34 : (c == 34) = false := by simp [h34]
  have HT : Hid (Pl.tokF s i = if Pl.sgn (s.extract i s.size) = 0 then .error 2 else .ok (5, s.extract i (i + Pl.sgn (s.extract i s.size)), 0, i + Pl.sgn (s.extract i s.size))) := by
    show Pl.tokF s i = _
    unfold Pl.tokF
    rw [← hc, hw, if_neg (by decide), if_neg h39, if_neg h34]
  clear hc h39 h34
  go_enter Tryz.func25, Tryz.ntmps25
  go_wp2_with (first | (go_at_call 40; refine (l5Word_any _ _).mono ?_; rintro e u1 ⟨rfl, hu1⟩; rw [hu1]; clear hu1; rw [hw]) | (go_at_call 47; refine (l5Signs_is _).mono ?_; rintro e u1 ⟨rfl, hu1⟩; rw [hu1]; clear hu1))
  obtain ⟨U, hU⟩ : ∃ U, U = (((w.alloc (.cells #[.int .i64 0, .string ⟨#[]⟩, .int .i64 0, .int .i64 0, .int .i64 0, .int .i64 0, .int .i64 0, .int .i64 0] 45)).alloc (.cells #[.int .i64 0, .string ⟨#[]⟩, .int .i64 0, .int .i64 0, .int .i64 0, .int .i64 0, .int .i64 2, .int .i64 i] 45)).alloc (.cells Pl.sgTab 9)) := ⟨_, rfl⟩
  rw [← hU]
  have HCE : Hid (∀ j, j < 45 → U.cell? ⟨w.heap.size + 1 + 1, j, none⟩ = some (.string ⟨(Pl.sgB.getD j []).toArray⟩)) := fun j hj => by
    have := cell_of_row U (w.heap.size + 1 + 1) j Pl.sgTab 9 (0, 0) (by rw [hU]; have := heap_alloc_new ((w.alloc (.cells #[.int .i64 0, .string ⟨#[]⟩, .int .i64 0, .int .i64 0, .int .i64 0, .int .i64 0, .int .i64 0, .int .i64 0] 45)).alloc (.cells #[.int .i64 0, .string ⟨#[]⟩, .int .i64 0, .int .i64 0, .int .i64 0, .int .i64 0, .int .i64 2, .int .i64 i] 45)) (.cells Pl.sgTab 9); simpa using this)
    rw [this]
    exact Pl.tab_at Pl.sgB j hj
  have Q5 : Hid (U.heap[w.heap.size + 1]? = some (.cells #[.int .i64 0, .string ⟨#[]⟩, .int .i64 0, .int .i64 0, .int .i64 0, .int .i64 0, .int .i64 2, .int .i64 i] 45 (0, 0))) := by
    rw [hU]; exact (Below.heap_alloc _ _ _ (by simp)).trans (by have := heap_alloc_new (w.alloc (.cells #[.int .i64 0, .string ⟨#[]⟩, .int .i64 0, .int .i64 0, .int .i64 0, .int .i64 0, .int .i64 0, .int .i64 0] 45)) (.cells #[.int .i64 0, .string ⟨#[]⟩, .int .i64 0, .int .i64 0, .int .i64 0, .int .i64 0, .int .i64 2, .int .i64 i] 45); simpa using this)
  have Q4 : Hid (U.heap[w.heap.size]? = some (.cells #[.int .i64 0, .string ⟨#[]⟩, .int .i64 0, .int .i64 0, .int .i64 0, .int .i64 0, .int .i64 0, .int .i64 0] 45 (0, 0))) := by
    rw [hU]; exact (Below.heap_alloc _ _ _ (by simp; omega)).trans ((Below.heap_alloc _ _ _ (by simp)).trans (heap_alloc_new w _))
  have BW : Hid (Below w.heap.size w U) := by rw [hU]; exact ((below_allocL _ _).trans ((below_allocL _ _).mono (by simp))).trans ((below_allocL _ _).mono (by simp; omega))
  have hUz : U.heap.size = w.heap.size + 3 := by rw [hU]; simp
  have HUZ : Hid (U.heap.size = w.heap.size + 3) := hUz
  clear hU hUz
  go_loopw [18] (fun x wr => ∃ k : Nat, k ≤ 45 ∧ x = .int .i64 k ∧ (∀ j, j < k → ¬ Pl.Mt s i j) ∧ Below U.heap.size U wr) (fun x _ => 45 - (intOf x).toNat)
  case atStart => exact ⟨0, by omega, rfl, fun j hj => absurd hj (Nat.not_lt_zero _), Below.refl _ _⟩
  case round =>
    obtain ⟨k, hk, rfl, hall, hb⟩ := hrel
    have HA : Hid (∀ j, j < k → ¬ Pl.Mt s i j) := hall
    have HB : Hid (Below U.heap.size U wr) := hb
    have Q4r : Hid (wr.heap[w.heap.size]? = some (.cells #[.int .i64 0, .string ⟨#[]⟩, .int .i64 0, .int .i64 0, .int .i64 0, .int .i64 0, .int .i64 0, .int .i64 0] 45 (0, 0))) := (hb.block _ (by have := HUZ.out; omega)).trans Q4.out
    have Q5r : Hid (wr.heap[w.heap.size + 1]? = some (.cells #[.int .i64 0, .string ⟨#[]⟩, .int .i64 0, .int .i64 0, .int .i64 0, .int .i64 0, .int .i64 2, .int .i64 i] 45 (0, 0))) := (hb.block _ (by have := HUZ.out; omega)).trans Q5.out
    have BWr : Hid (Below w.heap.size w wr) := BW.out.trans (hb.mono BW.out.size)
    have hcr : ∀ j, j < 45 → wr.cell? ⟨w.heap.size + 1 + 1, j, none⟩ = some (.string ⟨(Pl.sgB.getD j []).toArray⟩) := fun j hj => (hb.cell (p := ⟨w.heap.size + 1 + 1, j, none⟩) (by show w.heap.size + 1 + 1 < _; have := HUZ.out; omega)).trans (HCE.out j hj)
    clear hall hb
    by_cases hlt : k < 45
    · have hlt' : (k : Int) < 45 := by omega
      have hc := hcr k hlt
      have hlen := Pl.sg_len k hlt
      have HMt : Hid (Pl.Mt s i k ↔ (i + (Pl.sgB.getD k []).length ≤ s.size ∧ (s.extract i (i + (Pl.sgB.getD k []).length)).toList = Pl.sgB.getD k [])) := Iff.rfl
      have HSG : Hid (Pl.Mt s i k → Pl.sgn (s.extract i s.size) = (Pl.sgB.getD k []).length) := fun h => sgn_mt (by omega) hlt h HA.out
      obtain ⟨r, hr⟩ : ∃ r, r = Pl.sgB.getD k [] := ⟨_, rfl⟩
      rw [← hr] at hc hlen HMt HSG
      obtain ⟨R, hR⟩ : ∃ R : ByteArray, R = ⟨r.toArray⟩ := ⟨_, rfl⟩
      have hRs : R.size = r.length := by rw [hR]; simp [ByteArray.size]
      have HRT : Hid (R.toList = r) := by rw [hR]; exact Pl.mk_toList r
      rw [← hR] at hc
      rw [← hRs] at hlen HMt HSG
      clear hcr hr hR hRs
      by_cases hfit : i + R.size ≤ s.size
      · have hd : decide ((i : Int) + (R.size : Int) ≤ (s.size : Int)) = true := by simp; omega
        have hfit' : (i : Int) + (R.size : Int) ≤ (s.size : Int) := by omega
        have hwr : IntKind.i64.wrap ((i : Int) + (R.size : Int)) = (i : Int) + (R.size : Int) := by rw [IntKind.wrap_i64]; omega
        have htn : ((i : Int) + (R.size : Int)).toNat = i + R.size := by omega
        have hle : (i : Int) ≤ (i : Int) + (R.size : Int) := by omega
        cases he : ((s.extract i (i + R.size)).toList == R.toList)
        · have HNM : Hid (¬ Pl.Mt s i k) := fun h => by
            have := (HMt.out.1 h).2
            rw [this, HRT.out] at he
            simp at he
          clear HMt HSG
          go_wp2_with fail
          go_quiet (fail)
          go_wp2_with fail
          go_roundw
          case rel =>
            refine ⟨k + 1, by omega, by go_num, fun j hj => ?_, ?_⟩
            · by_cases e : j = k
              · rw [e]; exact HNM.out
              · exact HA.out j (by omega)
            · repeat (first | exact HB.out | refine below_drewQ ?_ _)
          case measure => simp [intOf]; omega
        · have HYM : Hid (Pl.Mt s i k) := HMt.out.2 ⟨hfit, by rw [eq_of_beq he, HRT.out]⟩
          have HER : Hid (s.extract i (i + R.size) = R) := by
            have := eq_of_beq he
            rw [ByteArray.toList_eq, ByteArray.toList_eq] at this
            show s.extract i (i + R.size) = R
            cases hz : s.extract i (i + R.size) with | mk a => cases R with | mk b => rw [hz] at this; congr 1; exact Array.toList_inj.1 this
          have HT2 : Hid (Pl.tokF s i = .ok (5, R, 0, i + R.size)) := by
            show Pl.tokF s i = _
            rw [HT.out, HSG.out HYM.out, if_neg (by omega), HER.out]
          clear HMt HSG HA
          go_wp2_with fail
          go_quiet (fail)
          go_wp2_with (refine wpList_store_row rfl 45 _ _ rfl w.heap.size #[.int .i64 5, .string R, .int .i64 0, .int .i64 0, .int .i64 0, .int .i64 ((i : Int) + (R.size : Int)), .int .i64 0, .int .i64 0] ?hx ?hy 45 #[.int .i64 0, .string ⟨#[]⟩, .int .i64 0, .int .i64 0, .int .i64 0, .int .i64 0, .int .i64 0, .int .i64 0] ?hg ?hi ?ho ?h1 ?_; (case hx => rfl); (case hy => rfl); (case hg => exact Q4r.out); (case hi => kernel_rfl); (case ho => kernel_rfl); (case h1 => kernel_rfl))
          refine bodyPost_ret (v := .agg #[.int .i64 5, .string R, .int .i64 0, .int .i64 0, .int .i64 0, .int .i64 ((i : Int) + (R.size : Int)), .int .i64 0, .int .i64 0]) ?hr ?hdf ?hQQ
          case hr =>
            refine results_cell_row Tryz.results25 _ _ (w.heap.size) 45 #[.int .i64 5, .string R, .int .i64 0, .int .i64 0, .int .i64 0, .int .i64 ((i : Int) + (R.size : Int)), .int .i64 0, .int .i64 0] (0, 0) _ ?hp ?hg Tryz.underlying45 ?hd ?hi
            case hp => rfl
            case hg => exact setRow_heap _ _ _ _ _ _ Q4r.out
            case hd => rfl
            case hi => kernel_rfl
          case hdf => rfl
          case hQQ => exact ⟨gotq_ok HT2.out (by omega), below_setRow (by repeat (first | exact BWr.out | refine below_drewQ ?_ _)) (Nat.le_refl _) _⟩
      · have hd : decide ((i : Int) + (R.size : Int) ≤ (s.size : Int)) = false := by simp; omega
        have hwr : IntKind.i64.wrap ((i : Int) + (R.size : Int)) = (i : Int) + (R.size : Int) := by rw [IntKind.wrap_i64]; omega
        have HNM : Hid (¬ Pl.Mt s i k) := fun h => hfit (HMt.out.1 h).1
        clear HMt HSG
        go_wp2_with fail
        go_quiet (fail)
        go_wp2_with fail
        go_roundw
        case rel =>
          refine ⟨k + 1, by omega, by go_num, fun j hj => ?_, ?_⟩
          · by_cases e : j = k
            · rw [e]; exact HNM.out
            · exact HA.out j (by omega)
          · repeat (first | exact HB.out | refine below_drewQ ?_ _)
        case measure => simp [intOf]; omega
    · have hk45 : k = 45 := by omega
      subst hk45
      have HT2 : Hid (Pl.tokF s i = .error 2) := by
        show Pl.tokF s i = _
        rw [HT.out, if_pos (Pl.sgn_no2 (by omega) HA.out)]
      clear hcr HA
      go_wp2_with (first | (refine wpList_load_row rfl 45 _ rfl (w.heap.size + 1) ?hx 45 #[.int .i64 0, .string ⟨#[]⟩, .int .i64 0, .int .i64 0, .int .i64 0, .int .i64 0, .int .i64 2, .int .i64 i] (0, 0) _ ?hg Tryz.underlying45 ?hd ?hi ?_; (case hx => rfl); (case hg => exact Q5r.out); (case hd => rfl); (case hi => kernel_rfl)) | (refine wpList_store_row rfl 45 _ _ rfl w.heap.size #[.int .i64 0, .string ⟨#[]⟩, .int .i64 0, .int .i64 0, .int .i64 0, .int .i64 0, .int .i64 2, .int .i64 i] ?hx ?hy 45 #[.int .i64 0, .string ⟨#[]⟩, .int .i64 0, .int .i64 0, .int .i64 0, .int .i64 0, .int .i64 0, .int .i64 0] ?hg ?hi ?ho ?h1 ?_; (case hx => rfl); (case hy => rfl); (case hg => exact Q4r.out); (case hi => kernel_rfl); (case ho => kernel_rfl); (case h1 => kernel_rfl)))
      refine bodyPost_ret (v := .agg #[.int .i64 0, .string ⟨#[]⟩, .int .i64 0, .int .i64 0, .int .i64 0, .int .i64 0, .int .i64 2, .int .i64 i]) ?hr ?hdf ?hQQ
      case hr =>
        refine results_cell_row Tryz.results25 _ _ (w.heap.size) 45 #[.int .i64 0, .string ⟨#[]⟩, .int .i64 0, .int .i64 0, .int .i64 0, .int .i64 0, .int .i64 2, .int .i64 i] (0, 0) _ ?hp ?hg Tryz.underlying45 ?hd ?hi
        case hp => rfl
        case hg => exact setRow_heap _ _ _ _ _ _ Q4r.out
        case hd => rfl
        case hi => kernel_rfl
      case hdf => rfl
      case hQQ => exact ⟨gotq_no HT2.out, below_setRow BWr.out (Nat.le_refl _) _⟩
end Go.Proofs.YtdplfflkmphpbaaGreatDoor.W
namespace Go.Proofs.YtdplfflkmphpbaaGreatDoor.W
open Go.RowKit
theorem results_cttL {P : Program} {fn : Func} {p q r : Tmp} {ty : TypeId} (h : fn.results = #[.cell p ty, .tmp q, .tmp r]) (tmps : Array Value) (w : World) (g : Nat) (t : TypeId) (cs : Array Value) (fr : Nat × Nat) (d : TypeDesc) (v u : Value)
    (hp : tmps.getD p undef = .pointer (some ⟨g, 0, none⟩)) (hq : tmps.getD q undef = v) (hq2 : tmps.getD r undef = u) (hg : w.heap[g]? = some (.cells cs t fr))
    (hu : P.underlying ty = some d) (hd : (match d with | .struct _ | .array _ _ => true | _ => false) = true) (hi : (P.info? ty).map (·.size) = some cs.size) :
    (results fn tmps).run P w = .ok (.tuple #[.agg cs, v, u]) w := by
  have hp' : tmps[p]?.getD undef = .pointer (some ⟨g, 0, none⟩) := by simpa using hp
  have hq' : tmps[q]?.getD undef = v := by simpa using hq
  have hr' : tmps[r]?.getD undef = u := by simpa using hq2
  simp [results, h, hp', hq', hr', asAddr, run_loadVar_row w g t ty cs fr d hg hu hd hi]
def TokI (t : ByteArray) (e : Ending) : Prop := match Pl.tokF t 0 with
  | .ok (k, S, N, n) => e = .returned (.tuple #[.agg #[.int .i64 k, .string S, .int .i64 N, .int .i64 0, .int .i64 0], .int .i64 n, .int .i64 0])
  | .error f => ∃ q : Int, e = .returned (.tuple #[.agg #[.int .i64 0, .string ⟨#[]⟩, .int .i64 0, .int .i64 0, .int .i64 0], .int .i64 q, .int .i64 f])
theorem toki_no {t : ByteArray} {f q : Int} (h : Pl.tokF t 0 = .error f) : TokI t (.returned (.tuple #[.agg #[.int .i64 0, .string ⟨#[]⟩, .int .i64 0, .int .i64 0, .int .i64 0], .int .i64 q, .int .i64 f])) := by unfold TokI; rw [h]; exact ⟨q, rfl⟩
theorem toki_ok {t S : ByteArray} {k N n' : Int} {n : Nat} (h : Pl.tokF t 0 = .ok (k, S, N, n)) (hn : n' = n) : TokI t (.returned (.tuple #[.agg #[.int .i64 k, .string S, .int .i64 N, .int .i64 0, .int .i64 0], .int .i64 n', .int .i64 0])) := by unfold TokI; rw [h, hn]
theorem own_form {w : World} {B : Nat} {v : Value} {bs : List UInt8} (h : w.ownsRow B 5 1 v bs.length (Pl.cl bs)) : ∃ a cap, v = .slice a bs.length cap := by
  rcases h.2 with ⟨rfl, e⟩ | ⟨g, cap, _, rfl, _⟩
  · exact ⟨none, 0, by rw [e]⟩
  · exact ⟨_, _, rfl⟩
theorem own_str {B : Nat} {w : World} {v : Value} {l : List UInt8} (h : w.ownsRow B 5 1 v l.length (Pl.cl l)) : (convert 22 9 v).run Tryz.prog w = .ok (.string ⟨l.toArray⟩) w := by
  rcases h.2 with ⟨rfl, e⟩ | ⟨g, cap, cur, rfl, _⟩
  · have : l = [] := List.length_eq_zero_iff.1 e
    subst this
    exact run_convert_bytes_nil _ 22 5 Tryz.underlying22 Tryz.underlying5 0 0 9 Tryz.underlying9
  · refine run_convert_bytes_back w 22 9 5 ⟨g, 0, none⟩ cap l Tryz.underlying22 Tryz.underlying5 Tryz.underlying9 fun j hj => ?_
    exact h.cells (g := g) rfl j _ (by simp [Pl.cl, List.getElem?_eq_getElem hj])
theorem own_first {B : Nat} {w : World} {a : Option Addr} {cap : Nat} {b : UInt8} (h : w.ownsRow B 5 1 (.slice a 1 cap) 1 (Pl.cl [b])) : ∃ g, a = some ⟨g, 0, none⟩ ∧ w.cell? ⟨g, 0, none⟩ = some (.int .u8 ((b.toNat : Nat) : Int)) := by
  rcases h.2 with ⟨e, e2⟩ | ⟨g, cap', cur, e, _⟩
  · cases e2
  · injection e with e1 e2 e3
    subst e1 e3
    exact ⟨g, rfl, by have := h.cells (g := g) rfl 0 _ (by simp [Pl.cl]; rfl); simpa [Addr.add] using this⟩
set_option maxHeartbeats 4000000 in
set_option maxRecDepth 100000 in
theorem readCharacter_is (t : ByteArray) (ht : t.size ≤ 1048576) (hpos : 0 < t.size) (hm : Pl.byt t 0 = 39) (w : World) (hE : Glo w) : Calls Tryz.prog 68 #[.string t] w fun e w' => TokI t e ∧ Below w.heap.size w w' := by
  have HE : Hid (Glo w) := hE
  have hw : ¬ Pl.wch (Pl.byt t 0) = true := by rw [hm]; decide
  have HT : Hid (Pl.tokF t 0 = (match Pl.quoV t 39 1 with | .error f => .error f | .ok (bs, n) => if bs.length = 1 then .ok (3, ⟨#[99]⟩, Pl.nr 1 ((bs.headD 0).toNat : Int), n) else .error 7)) := by
    show Pl.tokF t 0 = _; unfold Pl.tokF; rw [if_neg hw, if_pos hm]; rfl
  have HQ : Hid (∀ u, Glo u → Calls Tryz.prog 81 #[.string t] u fun e w' => (∃ r, Pl.Quo t 39 1 [] r ∧ QuoSaid u.heap.size r e w') ∧ Below u.heap.size u w') := fun u hu => by
    have := readQuoted_is t ht hpos (.inr hm) u hu
    rw [hm] at this
    exact this
  clear hE hw hm
  go_enter Tryz.func68, Tryz.ntmps68
  go_wp2_with fail
  refine (HQ.out _ (HE.out.on (below_allocL w _))).mono ?_
  rintro e u2 ⟨⟨r, hr, hs⟩, g2⟩
  have Q2 : Hid (u2.heap[w.heap.size]? = some (.cells #[.int .i64 0, .string ⟨#[]⟩, .int .i64 0, .int .i64 0, .int .i64 0] 34 (0, 0))) := (g2.block w.heap.size (by simp)).trans (heap_alloc_new w _)
  have B2 : Hid (Below w.heap.size w u2) := (below_allocL w _).trans (g2.mono (by simp))
  have hz2 : w.heap.size < u2.heap.size := by have := g2.size; simp at this; omega
  have hqv := Pl.quoV_eq hr
  have hf0 := hr.f0
  have hT := HT.out
  rw [hqv] at hT
  clear g2 HQ HT hqv hr
  cases r with
  | error f =>
    have HT : Hid (Pl.tokF t 0 = .error f) := hT
    have hf : f ≠ 0 := hf0 f rfl
    have e1 : (f == 0) = false := by simp [hf]
    have e2 : (f != 0) = true := by simp [hf]
    obtain rfl := hs
    clear hT hf0 hf
    go_wp2_with (refine wpList_store_row rfl 34 _ _ rfl w.heap.size #[.int .i64 0, .string ⟨#[]⟩, .int .i64 0, .int .i64 0, .int .i64 0] ?hx ?hy 34 #[.int .i64 0, .string ⟨#[]⟩, .int .i64 0, .int .i64 0, .int .i64 0] ?hg ?hi ?ho ?h1 ?_; (case hx => rfl); (case hy => rfl); (case hg => exact Q2.out); (case hi => kernel_rfl); (case ho => kernel_rfl); (case h1 => kernel_rfl))
    refine bodyPost_ret (v := .tuple #[.agg #[.int .i64 0, .string ⟨#[]⟩, .int .i64 0, .int .i64 0, .int .i64 0], .int .i64 0, .int .i64 f]) ?hr ?hdf ?hQQ
    case hr =>
      refine results_cttL Tryz.results68 _ _ (w.heap.size) 34 #[.int .i64 0, .string ⟨#[]⟩, .int .i64 0, .int .i64 0, .int .i64 0] (0, 0) _ (.int .i64 0) (.int .i64 f) ?hp ?hq ?hq2 ?hg Tryz.underlying34 ?hd ?hi
      case hp => rfl
      case hq => rfl
      case hq2 => rfl
      case hg => exact setRow_heap _ _ _ _ _ _ Q2.out
      case hd => rfl
      case hi => kernel_rfl
    case hdf => rfl
    case hQQ => exact ⟨toki_no HT.out, below_setRow B2.out (Nat.le_refl _) _⟩
  | ok q =>
    obtain ⟨bs, n⟩ := q
    obtain ⟨v, rfl, ho⟩ := hs
    obtain ⟨a, cap, rfl⟩ := own_form ho
    have hT' : Pl.tokF t 0 = if bs.length = 1 then .ok (3, ⟨#[99]⟩, Pl.nr 1 ((bs.headD 0).toNat : Int), n) else .error 7 := hT
    clear hT hf0
    by_cases hl : bs.length = 1
    · rw [if_pos hl] at hT'
      obtain ⟨b, rfl⟩ : ∃ b, bs = [b] := by
        rcases bs with _ | ⟨b, _ | ⟨c, l⟩⟩
        · cases hl
        · exact ⟨b, rfl⟩
        · simp at hl
      obtain ⟨g, rfl, hc⟩ := own_first ho
      have HT : Hid (Pl.tokF t 0 = .ok (3, ⟨#[99]⟩, Pl.nr 1 ((b.toNat : Nat) : Int), n)) := hT'
      obtain ⟨c, hcc⟩ : ∃ c : Int, c = ((b.toNat : Nat) : Int) := ⟨_, rfl⟩
      rw [← hcc] at hc HT
      have HN : Hid (∀ u, Calls Tryz.prog 82 #[.int .i64 1, .int .i64 c] u fun e w' => e = .returned (.tuple #[.int .i64 (Pl.nr 1 c), .bool true]) ∧ w' = u) := fun u => implNarrow_any 1 c u
      have c0 : 0 ≤ c := by omega
      have c1 : c < 256 := by rw [hcc]; have := b.toNat_lt; omega
      obtain ⟨N, hN⟩ : ∃ N, N = Pl.nr 1 c := ⟨_, rfl⟩
      rw [← hN] at HT HN
      clear hcc hT' hl ho hN
      go_wp2_with (first | (go_at_call 82; refine (HN.out _).mono ?_; rintro e u3 ⟨rfl, hu3⟩; rw [hu3]; clear hu3) | (refine wpList_store_row rfl 34 _ _ rfl w.heap.size #[.int .i64 3, .string ⟨#[99]⟩, .int .i64 N, .int .i64 0, .int .i64 0] ?hx ?hy 34 #[.int .i64 0, .string ⟨#[]⟩, .int .i64 0, .int .i64 0, .int .i64 0] ?hg ?hi ?ho ?h1 ?_; (case hx => rfl); (case hy => rfl); (case hg => exact Q2.out); (case hi => kernel_rfl); (case ho => kernel_rfl); (case h1 => kernel_rfl)))
      refine bodyPost_ret (v := .tuple #[.agg #[.int .i64 3, .string ⟨#[99]⟩, .int .i64 N, .int .i64 0, .int .i64 0], .int .i64 n, .int .i64 0]) ?hr ?hdf ?hQQ
      case hr =>
        refine results_cttL Tryz.results68 _ _ (w.heap.size) 34 #[.int .i64 3, .string ⟨#[99]⟩, .int .i64 N, .int .i64 0, .int .i64 0] (0, 0) _ (.int .i64 n) (.int .i64 0) ?hp ?hq ?hq2 ?hg Tryz.underlying34 ?hd ?hi
        case hp => rfl
        case hq => rfl
        case hq2 => rfl
        case hg => exact setRow_heap _ _ _ _ _ _ Q2.out
        case hd => rfl
        case hi => kernel_rfl
      case hdf => rfl
      case hQQ => exact ⟨toki_ok HT.out rfl, below_setRow B2.out (Nat.le_refl _) _⟩
    · rw [if_neg hl] at hT'
      have HT : Hid (Pl.tokF t 0 = .error 7) := hT'
      have hl2 : ¬ ((bs.length : Int) = 1) := by omega
      have e1 : ((bs.length : Int) == 1) = false := by simp; omega
      have e2 : ((bs.length : Int) != 1) = true := by simp; omega
      clear hT' hl
      go_wp2_with (refine wpList_store_row rfl 34 _ _ rfl w.heap.size #[.int .i64 0, .string ⟨#[]⟩, .int .i64 0, .int .i64 0, .int .i64 0] ?hx ?hy 34 #[.int .i64 0, .string ⟨#[]⟩, .int .i64 0, .int .i64 0, .int .i64 0] ?hg ?hi ?ho ?h1 ?_; (case hx => rfl); (case hy => rfl); (case hg => exact Q2.out); (case hi => kernel_rfl); (case ho => kernel_rfl); (case h1 => kernel_rfl))
      refine bodyPost_ret (v := .tuple #[.agg #[.int .i64 0, .string ⟨#[]⟩, .int .i64 0, .int .i64 0, .int .i64 0], .int .i64 0, .int .i64 7]) ?hr ?hdf ?hQQ
      case hr =>
        refine results_cttL Tryz.results68 _ _ (w.heap.size) 34 #[.int .i64 0, .string ⟨#[]⟩, .int .i64 0, .int .i64 0, .int .i64 0] (0, 0) _ (.int .i64 0) (.int .i64 7) ?hp ?hq ?hq2 ?hg Tryz.underlying34 ?hd ?hi
        case hp => rfl
        case hq => rfl
        case hq2 => rfl
        case hg => exact setRow_heap _ _ _ _ _ _ Q2.out
        case hd => rfl
        case hi => kernel_rfl
      case hdf => rfl
      case hQQ => exact ⟨toki_no HT.out, below_setRow B2.out (Nat.le_refl _) _⟩
set_option maxHeartbeats 4000000 in
set_option maxRecDepth 100000 in
theorem readString_is (t : ByteArray) (ht : t.size ≤ 1048576) (hpos : 0 < t.size) (hm : Pl.byt t 0 = 34) (w : World) (hE : Glo w) : Calls Tryz.prog 69 #[.string t] w fun e w' => TokI t e ∧ Below w.heap.size w w' := by
  have HE : Hid (Glo w) := hE
  have hw : ¬ Pl.wch (Pl.byt t 0) = true := by rw [hm]; decide
  have HT : Hid (Pl.tokF t 0 = (match Pl.quoV t 34 1 with | .error f => .error f | .ok (bs, n) => if 200 < bs.length then .error 8 else .ok (4, ⟨bs.toArray⟩, 0, n))) := by
    show Pl.tokF t 0 = _; unfold Pl.tokF; rw [if_neg hw, if_neg (by rw [hm]; decide), if_pos hm]; rfl
  have HQ : Hid (∀ u, Glo u → Calls Tryz.prog 81 #[.string t] u fun e w' => (∃ r, Pl.Quo t 34 1 [] r ∧ QuoSaid u.heap.size r e w') ∧ Below u.heap.size u w') := fun u hu => by
    have := readQuoted_is t ht hpos (.inl hm) u hu
    rw [hm] at this
    exact this
  clear hE hw hm
  go_enter Tryz.func69, Tryz.ntmps69
  go_wp2_with fail
  refine (HQ.out _ (HE.out.on (below_allocL w _))).mono ?_
  rintro e u2 ⟨⟨r, hr, hs⟩, g2⟩
  have Q2 : Hid (u2.heap[w.heap.size]? = some (.cells #[.int .i64 0, .string ⟨#[]⟩, .int .i64 0, .int .i64 0, .int .i64 0] 34 (0, 0))) := (g2.block w.heap.size (by simp)).trans (heap_alloc_new w _)
  have B2 : Hid (Below w.heap.size w u2) := (below_allocL w _).trans (g2.mono (by simp))
  have hqv := Pl.quoV_eq hr
  have hf0 := hr.f0
  have hT := HT.out
  rw [hqv] at hT
  clear g2 HQ HT hqv hr
  cases r with
  | error f =>
    have HT : Hid (Pl.tokF t 0 = .error f) := hT
    have hf : f ≠ 0 := hf0 f rfl
    have e1 : (f == 0) = false := by simp [hf]
    have e2 : (f != 0) = true := by simp [hf]
    obtain rfl := hs
    clear hT hf0 hf
    go_wp2_with (refine wpList_store_row rfl 34 _ _ rfl w.heap.size #[.int .i64 0, .string ⟨#[]⟩, .int .i64 0, .int .i64 0, .int .i64 0] ?hx ?hy 34 #[.int .i64 0, .string ⟨#[]⟩, .int .i64 0, .int .i64 0, .int .i64 0] ?hg ?hi ?ho ?h1 ?_; (case hx => rfl); (case hy => rfl); (case hg => exact Q2.out); (case hi => kernel_rfl); (case ho => kernel_rfl); (case h1 => kernel_rfl))
    refine bodyPost_ret (v := .tuple #[.agg #[.int .i64 0, .string ⟨#[]⟩, .int .i64 0, .int .i64 0, .int .i64 0], .int .i64 0, .int .i64 f]) ?hr ?hdf ?hQQ
    case hr =>
      refine results_cttL Tryz.results69 _ _ (w.heap.size) 34 #[.int .i64 0, .string ⟨#[]⟩, .int .i64 0, .int .i64 0, .int .i64 0] (0, 0) _ (.int .i64 0) (.int .i64 f) ?hp ?hq ?hq2 ?hg Tryz.underlying34 ?hd ?hi
      case hp => rfl
      case hq => rfl
      case hq2 => rfl
      case hg => exact setRow_heap _ _ _ _ _ _ Q2.out
      case hd => rfl
      case hi => kernel_rfl
    case hdf => rfl
    case hQQ => exact ⟨toki_no HT.out, below_setRow B2.out (Nat.le_refl _) _⟩
  | ok q =>
    obtain ⟨bs, n⟩ := q
    obtain ⟨v, rfl, ho⟩ := hs
    have hcv := own_str ho
    obtain ⟨a, cap, rfl⟩ := own_form ho
    have hT' : Pl.tokF t 0 = if 200 < bs.length then .error 8 else .ok (4, ⟨bs.toArray⟩, 0, n) := hT
    clear hT hf0 ho
    by_cases hl : 200 < bs.length
    · rw [if_pos hl] at hT'
      have HT : Hid (Pl.tokF t 0 = .error 8) := hT'
      have hl2 : (200 : Int) < bs.length := by omega
      clear hT' hl
      go_wp2_with (refine wpList_store_row rfl 34 _ _ rfl w.heap.size #[.int .i64 0, .string ⟨#[]⟩, .int .i64 0, .int .i64 0, .int .i64 0] ?hx ?hy 34 #[.int .i64 0, .string ⟨#[]⟩, .int .i64 0, .int .i64 0, .int .i64 0] ?hg ?hi ?ho ?h1 ?_; (case hx => rfl); (case hy => rfl); (case hg => exact Q2.out); (case hi => kernel_rfl); (case ho => kernel_rfl); (case h1 => kernel_rfl))
      refine bodyPost_ret (v := .tuple #[.agg #[.int .i64 0, .string ⟨#[]⟩, .int .i64 0, .int .i64 0, .int .i64 0], .int .i64 0, .int .i64 8]) ?hr ?hdf ?hQQ
      case hr =>
        refine results_cttL Tryz.results69 _ _ (w.heap.size) 34 #[.int .i64 0, .string ⟨#[]⟩, .int .i64 0, .int .i64 0, .int .i64 0] (0, 0) _ (.int .i64 0) (.int .i64 8) ?hp ?hq ?hq2 ?hg Tryz.underlying34 ?hd ?hi
        case hp => rfl
        case hq => rfl
        case hq2 => rfl
        case hg => exact setRow_heap _ _ _ _ _ _ Q2.out
        case hd => rfl
        case hi => kernel_rfl
      case hdf => rfl
      case hQQ => exact ⟨toki_no HT.out, below_setRow B2.out (Nat.le_refl _) _⟩
    · rw [if_neg hl] at hT'
      have HT : Hid (Pl.tokF t 0 = .ok (4, ⟨bs.toArray⟩, 0, n)) := hT'
      have hl2 : ¬ (200 : Int) < bs.length := by omega
      obtain ⟨S, hS⟩ : ∃ S : ByteArray, S = ⟨bs.toArray⟩ := ⟨_, rfl⟩
      rw [← hS] at hcv HT
      clear hT' hl hS
      go_wp2_with (refine wpList_store_row rfl 34 _ _ rfl w.heap.size #[.int .i64 4, .string S, .int .i64 0, .int .i64 0, .int .i64 0] ?hx ?hy 34 #[.int .i64 0, .string ⟨#[]⟩, .int .i64 0, .int .i64 0, .int .i64 0] ?hg ?hi ?ho ?h1 ?_; (case hx => rfl); (case hy => rfl); (case hg => exact Q2.out); (case hi => kernel_rfl); (case ho => kernel_rfl); (case h1 => kernel_rfl))
      refine bodyPost_ret (v := .tuple #[.agg #[.int .i64 4, .string S, .int .i64 0, .int .i64 0, .int .i64 0], .int .i64 n, .int .i64 0]) ?hr ?hdf ?hQQ
      case hr =>
        refine results_cttL Tryz.results69 _ _ (w.heap.size) 34 #[.int .i64 4, .string S, .int .i64 0, .int .i64 0, .int .i64 0] (0, 0) _ (.int .i64 n) (.int .i64 0) ?hp ?hq ?hq2 ?hg Tryz.underlying34 ?hd ?hi
        case hp => rfl
        case hq => rfl
        case hq2 => rfl
        case hg => exact setRow_heap _ _ _ _ _ _ Q2.out
        case hd => rfl
        case hi => kernel_rfl
      case hdf => rfl
      case hQQ => exact ⟨toki_ok HT.out rfl, below_setRow B2.out (Nat.le_refl _) _⟩
end Go.Proofs.YtdplfflkmphpbaaGreatDoor.W
namespace Go.Proofs.YtdplfflkmphpbaaGreatDoor.W
open Go.RowKit
theorem own_set {w : World} {B b j k n : Nat} {e : TypeId} {v x : Value} {xs : List Value} (h : w.ownsRow B e k v n xs) (hb : b < B) : (w.setCell ⟨b, j, none⟩ x).ownsRow B e k v n xs := by
  refine ⟨h.1, ?_⟩
  rcases h.2 with ⟨a, c⟩ | ⟨g, cap, cur, h0, hlo, hg, r⟩
  · exact .inl ⟨a, c⟩
  · exact .inr ⟨g, cap, cur, h0, hlo, (heap_setCell_other w _ g _ (by show g ≠ b; omega)).trans hg, r⟩
set_option maxHeartbeats 8000000 in
set_option maxRecDepth 100000 in
theorem l5Token_chr (s : ByteArray) (hs : s.size ≤ 1048576) (i : Nat) (hi : i < s.size) (hm : Pl.byt s i = 39) (w : World) : Calls Tryz.prog 25 #[.string s, .int .i64 i] w fun e w' => GotQ s i e ∧ Below w.heap.size w w' := by
  have hii : (i : Int) < s.size := by omega
  have hg := Pl.byt_get s i hi
  have hwq : ¬ Pl.wch (Pl.byt s i) = true := by rw [hm]; decide
  have HT : Hid (Pl.tokF s i = (match Pl.quoV s 39 (i + 1) with | .error f => .error f | .ok (bs, n) => if bs.length = 1 then .ok (3, ⟨#[99]⟩, Pl.nr 1 ((bs.headD 0).toNat : Int), n) else .error 7)) := by
    show Pl.tokF s i = _
    unfold Pl.tokF
    rw [if_neg hwq, if_pos hm]
    rfl
  have HQ : Hid (∀ u : World, Calls Tryz.prog 45 #[.string s, .int .i64 i] u fun e w' => (∃ r, Pl.Quo s 39 (i + 1) [] r ∧ QuoS u.heap.size r e w') ∧ Below u.heap.size u w') := fun u => by
    have := l5Quoted_is s hs i hi (.inr hm) u
    rw [hm] at this
    exact this
  have hw : Pl.wch 39 = false := by decide
  rw [hm] at hg
  clear hwq hm
  go_enter Tryz.func25, Tryz.ntmps25
  go_wp2_with (go_at_call 40; refine (l5Word_any _ _).mono ?_; rintro e u1 ⟨rfl, hu1⟩; rw [hu1]; clear hu1; rw [hw])
  refine (HQ.out _).mono ?_
  rintro e u2 ⟨⟨r, hr, hsd⟩, g2⟩
  have hz : ((w.alloc (.cells #[.int .i64 0, .string ⟨#[]⟩, .int .i64 0, .int .i64 0, .int .i64 0, .int .i64 0, .int .i64 0, .int .i64 0] 45)).alloc (.cells #[.int .i64 0, .string ⟨#[]⟩, .int .i64 0, .int .i64 0, .int .i64 0, .int .i64 0, .int .i64 2, .int .i64 i] 45)).heap.size = w.heap.size + 2 := by simp
  rw [hz] at hsd g2
  have Q5 : Hid (u2.heap[w.heap.size + 1]? = some (.cells #[.int .i64 0, .string ⟨#[]⟩, .int .i64 0, .int .i64 0, .int .i64 0, .int .i64 0, .int .i64 2, .int .i64 i] 45 (0, 0))) := (g2.block _ (by omega)).trans (by have := heap_alloc_new (w.alloc (.cells #[.int .i64 0, .string ⟨#[]⟩, .int .i64 0, .int .i64 0, .int .i64 0, .int .i64 0, .int .i64 0, .int .i64 0] 45)) (.cells #[.int .i64 0, .string ⟨#[]⟩, .int .i64 0, .int .i64 0, .int .i64 0, .int .i64 0, .int .i64 2, .int .i64 i] 45); simpa using this)
  have Q4 : Hid (u2.heap[w.heap.size]? = some (.cells #[.int .i64 0, .string ⟨#[]⟩, .int .i64 0, .int .i64 0, .int .i64 0, .int .i64 0, .int .i64 0, .int .i64 0] 45 (0, 0))) := (g2.block _ (by omega)).trans ((Below.heap_alloc _ _ _ (by simp)).trans (heap_alloc_new w _))
  have BW : Hid (Below w.heap.size w u2) := ((below_allocL _ _).trans ((below_allocL _ _).mono (by simp))).trans (g2.mono (by omega))
  have hc6 : u2.cell? ⟨w.heap.size + 1, 6, none⟩ = some (.int .i64 2) := cell_of_row u2 (w.heap.size + 1) 6 _ 45 (0, 0) Q5.out
  have hf6 : u2.frozen? ⟨w.heap.size + 1, 6, none⟩ = false := frozen_of_row u2 (w.heap.size + 1) 6 _ 45 Q5.out
  have hqv := Pl.quoV_eq hr
  have hf0 := hr.f0
  have hT := HT.out
  rw [hqv] at hT
  clear g2 HQ HT hqv hr hz
  cases r with
  | error f =>
    have HT : Hid (Pl.tokF s i = .error f) := hT
    have hf : f ≠ 0 := hf0 f rfl
    have e1 : (f == 0) = false := by simp [hf]
    have e2 : (f != 0) = true := by simp [hf]
    obtain ⟨v, q, bs, rfl, ho, hl, _⟩ := hsd
    clear hT hf0 hf ho
    obtain ⟨U3, hU3⟩ : ∃ U3, u2.setCell ⟨w.heap.size + 1, 6, none⟩ (.int .i64 f) = U3 := ⟨_, rfl⟩
    have R5 : Hid (U3.heap[w.heap.size + 1]? = some (.cells #[.int .i64 0, .string ⟨#[]⟩, .int .i64 0, .int .i64 0, .int .i64 0, .int .i64 0, .int .i64 f, .int .i64 i] 45 (0, 0))) := by rw [← hU3]; exact heap_setCell_same u2 (w.heap.size + 1) 6 _ 45 _ Q5.out
    have R4 : Hid (U3.heap[w.heap.size]? = some (.cells #[.int .i64 0, .string ⟨#[]⟩, .int .i64 0, .int .i64 0, .int .i64 0, .int .i64 0, .int .i64 0, .int .i64 0] 45 (0, 0))) := by rw [← hU3]; exact (heap_setCell_other u2 _ w.heap.size _ (by show w.heap.size ≠ w.heap.size + 1; omega)).trans Q4.out
    have BW3 : Hid (Below w.heap.size w U3) := by rw [← hU3]; exact BW.out.setCell (p := ⟨w.heap.size + 1, 6, none⟩) (by show w.heap.size ≤ w.heap.size + 1; omega) _
    go_wp2_with (first | (refine wpList_load_row rfl 45 _ rfl (w.heap.size + 1) ?hx 45 #[.int .i64 0, .string ⟨#[]⟩, .int .i64 0, .int .i64 0, .int .i64 0, .int .i64 0, .int .i64 f, .int .i64 i] (0, 0) _ ?hg Tryz.underlying45 ?hd ?hi ?_; (case hx => rfl); (case hg => exact R5.out); (case hd => rfl); (case hi => kernel_rfl)) | (refine wpList_store_row rfl 45 _ _ rfl w.heap.size #[.int .i64 0, .string ⟨#[]⟩, .int .i64 0, .int .i64 0, .int .i64 0, .int .i64 0, .int .i64 f, .int .i64 i] ?hx ?hy 45 #[.int .i64 0, .string ⟨#[]⟩, .int .i64 0, .int .i64 0, .int .i64 0, .int .i64 0, .int .i64 0, .int .i64 0] ?hg ?hi ?ho ?h1 ?_; (case hx => rfl); (case hy => rfl); (case hg => exact R4.out); (case hi => kernel_rfl); (case ho => kernel_rfl); (case h1 => kernel_rfl)))
    refine bodyPost_ret (v := .agg #[.int .i64 0, .string ⟨#[]⟩, .int .i64 0, .int .i64 0, .int .i64 0, .int .i64 0, .int .i64 f, .int .i64 i]) ?hr ?hdf ?hQQ
    case hr =>
      refine results_cell_row Tryz.results25 _ _ (w.heap.size) 45 #[.int .i64 0, .string ⟨#[]⟩, .int .i64 0, .int .i64 0, .int .i64 0, .int .i64 0, .int .i64 f, .int .i64 i] (0, 0) _ ?hp ?hg Tryz.underlying45 ?hd ?hi
      case hp => rfl
      case hg => exact setRow_heap _ _ _ _ _ _ R4.out
      case hd => rfl
      case hi => kernel_rfl
    case hdf => rfl
    case hQQ => exact ⟨gotq_no HT.out, below_setRow BW3.out (Nat.le_refl _) _⟩
  | ok q =>
    obtain ⟨bs, n⟩ := q
    obtain ⟨v, rfl, ho, hl⟩ := hsd
    obtain ⟨a, cap, rfl⟩ := own_form ho
    have hT' : Pl.tokF s i = if bs.length = 1 then .ok (3, ⟨#[99]⟩, Pl.nr 1 ((bs.headD 0).toNat : Int), n) else .error 7 := hT
    clear hT hf0
    by_cases hl1 : bs.length = 1
    · rw [if_pos hl1] at hT'
      obtain ⟨b, rfl⟩ : ∃ b, bs = [b] := by
        rcases bs with _ | ⟨b, _ | ⟨c, l⟩⟩
        · cases hl1
        · exact ⟨b, rfl⟩
        · simp at hl1
      have HT : Hid (Pl.tokF s i = .ok (3, ⟨#[99]⟩, Pl.nr 1 ((b.toNat : Nat) : Int), n)) := hT'
      obtain ⟨U3, hU3⟩ : ∃ U3, u2.setCell ⟨w.heap.size + 1, 6, none⟩ (.int .i64 0) = U3 := ⟨_, rfl⟩
      have R5 : Hid (U3.heap[w.heap.size + 1]? = some (.cells #[.int .i64 0, .string ⟨#[]⟩, .int .i64 0, .int .i64 0, .int .i64 0, .int .i64 0, .int .i64 0, .int .i64 i] 45 (0, 0))) := by rw [← hU3]; exact heap_setCell_same u2 (w.heap.size + 1) 6 _ 45 _ Q5.out
      have R4 : Hid (U3.heap[w.heap.size]? = some (.cells #[.int .i64 0, .string ⟨#[]⟩, .int .i64 0, .int .i64 0, .int .i64 0, .int .i64 0, .int .i64 0, .int .i64 0] 45 (0, 0))) := by rw [← hU3]; exact (heap_setCell_other u2 _ w.heap.size _ (by show w.heap.size ≠ w.heap.size + 1; omega)).trans Q4.out
      have BW3 : Hid (Below w.heap.size w U3) := by rw [← hU3]; exact BW.out.setCell (p := ⟨w.heap.size + 1, 6, none⟩) (by show w.heap.size ≤ w.heap.size + 1; omega) _
      obtain ⟨g, rfl, hc⟩ := own_first (own_set (j := 6) (x := .int .i64 0) ho (show w.heap.size + 1 < w.heap.size + 2 by omega))
      rw [hU3] at hc
      obtain ⟨c, hcc⟩ : ∃ c : Int, c = ((b.toNat : Nat) : Int) := ⟨_, rfl⟩
      rw [← hcc] at hc HT
      have HN : Hid (∀ u : World, Calls Tryz.prog 46 #[.int .i64 1, .int .i64 c] u fun e w' => e = .returned (.tuple #[.int .i64 (Pl.nr 1 c), .bool true]) ∧ w' = u) := fun u => specNarrow_any 1 c u
      have c0 : 0 ≤ c := by omega
      have c1 : c < 256 := by rw [hcc]; have := b.toNat_lt; omega
      obtain ⟨N, hN⟩ : ∃ N, N = Pl.nr 1 c := ⟨_, rfl⟩
      rw [← hN] at HT HN
      clear hcc hT' hl1 ho hN hl
      go_wp2_with (first | (go_at_call 46; refine (HN.out _).mono ?_; rintro e u3 ⟨rfl, hu3⟩; rw [hu3]; clear hu3) | (refine wpList_store_row rfl 45 _ _ rfl w.heap.size #[.int .i64 3, .string ⟨#[99]⟩, .int .i64 N, .int .i64 0, .int .i64 0, .int .i64 n, .int .i64 0, .int .i64 0] ?hx ?hy 45 #[.int .i64 0, .string ⟨#[]⟩, .int .i64 0, .int .i64 0, .int .i64 0, .int .i64 0, .int .i64 0, .int .i64 0] ?hg ?hi ?ho ?h1 ?_; (case hx => rfl); (case hy => rfl); (case hg => exact R4.out); (case hi => kernel_rfl); (case ho => kernel_rfl); (case h1 => kernel_rfl)))
      refine bodyPost_ret (v := .agg #[.int .i64 3, .string ⟨#[99]⟩, .int .i64 N, .int .i64 0, .int .i64 0, .int .i64 n, .int .i64 0, .int .i64 0]) ?hr ?hdf ?hQQ
      case hr =>
        refine results_cell_row Tryz.results25 _ _ (w.heap.size) 45 #[.int .i64 3, .string ⟨#[99]⟩, .int .i64 N, .int .i64 0, .int .i64 0, .int .i64 n, .int .i64 0, .int .i64 0] (0, 0) _ ?hp ?hg Tryz.underlying45 ?hd ?hi
        case hp => rfl
        case hg => exact setRow_heap _ _ _ _ _ _ R4.out
        case hd => rfl
        case hi => kernel_rfl
      case hdf => rfl
      case hQQ => exact ⟨gotq_ok HT.out rfl, below_setRow BW3.out (Nat.le_refl _) _⟩
    · rw [if_neg hl1] at hT'
      have HT : Hid (Pl.tokF s i = .error 7) := hT'
      have hl2 : ¬ ((bs.length : Int) = 1) := by omega
      have e1 : ((bs.length : Int) == 1) = false := by simp; omega
      have e2 : ((bs.length : Int) != 1) = true := by simp; omega
      clear hT' hl1 ho
      obtain ⟨U3, hU3⟩ : ∃ U3, u2.setCell ⟨w.heap.size + 1, 6, none⟩ (.int .i64 7) = U3 := ⟨_, rfl⟩
      have R5 : Hid (U3.heap[w.heap.size + 1]? = some (.cells #[.int .i64 0, .string ⟨#[]⟩, .int .i64 0, .int .i64 0, .int .i64 0, .int .i64 0, .int .i64 7, .int .i64 i] 45 (0, 0))) := by rw [← hU3]; exact heap_setCell_same u2 (w.heap.size + 1) 6 _ 45 _ Q5.out
      have R4 : Hid (U3.heap[w.heap.size]? = some (.cells #[.int .i64 0, .string ⟨#[]⟩, .int .i64 0, .int .i64 0, .int .i64 0, .int .i64 0, .int .i64 0, .int .i64 0] 45 (0, 0))) := by rw [← hU3]; exact (heap_setCell_other u2 _ w.heap.size _ (by show w.heap.size ≠ w.heap.size + 1; omega)).trans Q4.out
      have BW3 : Hid (Below w.heap.size w U3) := by rw [← hU3]; exact BW.out.setCell (p := ⟨w.heap.size + 1, 6, none⟩) (by show w.heap.size ≤ w.heap.size + 1; omega) _
      go_wp2_with (first | (refine wpList_load_row rfl 45 _ rfl (w.heap.size + 1) ?hx 45 #[.int .i64 0, .string ⟨#[]⟩, .int .i64 0, .int .i64 0, .int .i64 0, .int .i64 0, .int .i64 7, .int .i64 i] (0, 0) _ ?hg Tryz.underlying45 ?hd ?hi ?_; (case hx => rfl); (case hg => exact R5.out); (case hd => rfl); (case hi => kernel_rfl)) | (refine wpList_store_row rfl 45 _ _ rfl w.heap.size #[.int .i64 0, .string ⟨#[]⟩, .int .i64 0, .int .i64 0, .int .i64 0, .int .i64 0, .int .i64 7, .int .i64 i] ?hx ?hy 45 #[.int .i64 0, .string ⟨#[]⟩, .int .i64 0, .int .i64 0, .int .i64 0, .int .i64 0, .int .i64 0, .int .i64 0] ?hg ?hi ?ho ?h1 ?_; (case hx => rfl); (case hy => rfl); (case hg => exact R4.out); (case hi => kernel_rfl); (case ho => kernel_rfl); (case h1 => kernel_rfl)))
      refine bodyPost_ret (v := .agg #[.int .i64 0, .string ⟨#[]⟩, .int .i64 0, .int .i64 0, .int .i64 0, .int .i64 0, .int .i64 7, .int .i64 i]) ?hr ?hdf ?hQQ
      case hr =>
        refine results_cell_row Tryz.results25 _ _ (w.heap.size) 45 #[.int .i64 0, .string ⟨#[]⟩, .int .i64 0, .int .i64 0, .int .i64 0, .int .i64 0, .int .i64 7, .int .i64 i] (0, 0) _ ?hp ?hg Tryz.underlying45 ?hd ?hi
        case hp => rfl
        case hg => exact setRow_heap _ _ _ _ _ _ R4.out
        case hd => rfl
        case hi => kernel_rfl
      case hdf => rfl
      case hQQ => exact ⟨gotq_no HT.out, below_setRow BW3.out (Nat.le_refl _) _⟩
set_option maxHeartbeats 8000000 in
set_option maxRecDepth 100000 in
theorem l5Token_str (s : ByteArray) (hs : s.size ≤ 1048576) (i : Nat) (hi : i < s.size) (hm : Pl.byt s i = 34) (w : World) : Calls Tryz.prog 25 #[.string s, .int .i64 i] w fun e w' => GotQ s i e ∧ Below w.heap.size w w' := by
  have hii : (i : Int) < s.size := by omega
  have hg := Pl.byt_get s i hi
  have hwq : ¬ Pl.wch (Pl.byt s i) = true := by rw [hm]; decide
  have HT : Hid (Pl.tokF s i = (match Pl.quoV s 34 (i + 1) with | .error f => .error f | .ok (bs, n) => if 200 < bs.length then .error 8 else .ok (4, ⟨bs.toArray⟩, 0, n))) := by
    show Pl.tokF s i = _
    unfold Pl.tokF
    rw [if_neg hwq, if_neg (by rw [hm]; decide), if_pos hm]
    rfl
  have HQ : Hid (∀ u : World, Calls Tryz.prog 45 #[.string s, .int .i64 i] u fun e w' => (∃ r, Pl.Quo s 34 (i + 1) [] r ∧ QuoS u.heap.size r e w') ∧ Below u.heap.size u w') := fun u => by
    have := l5Quoted_is s hs i hi (.inl hm) u
    rw [hm] at this
    exact this
  have hw : Pl.wch 34 = false := by decide
  rw [hm] at hg
  clear hwq hm
  go_enter Tryz.func25, Tryz.ntmps25
  go_wp2_with (go_at_call 40; refine (l5Word_any _ _).mono ?_; rintro e u1 ⟨rfl, hu1⟩; rw [hu1]; clear hu1; rw [hw])
  refine (HQ.out _).mono ?_
  rintro e u2 ⟨⟨r, hr, hsd⟩, g2⟩
  have hz : ((w.alloc (.cells #[.int .i64 0, .string ⟨#[]⟩, .int .i64 0, .int .i64 0, .int .i64 0, .int .i64 0, .int .i64 0, .int .i64 0] 45)).alloc (.cells #[.int .i64 0, .string ⟨#[]⟩, .int .i64 0, .int .i64 0, .int .i64 0, .int .i64 0, .int .i64 2, .int .i64 i] 45)).heap.size = w.heap.size + 2 := by simp
  rw [hz] at hsd g2
  have Q5 : Hid (u2.heap[w.heap.size + 1]? = some (.cells #[.int .i64 0, .string ⟨#[]⟩, .int .i64 0, .int .i64 0, .int .i64 0, .int .i64 0, .int .i64 2, .int .i64 i] 45 (0, 0))) := (g2.block _ (by omega)).trans (by have := heap_alloc_new (w.alloc (.cells #[.int .i64 0, .string ⟨#[]⟩, .int .i64 0, .int .i64 0, .int .i64 0, .int .i64 0, .int .i64 0, .int .i64 0] 45)) (.cells #[.int .i64 0, .string ⟨#[]⟩, .int .i64 0, .int .i64 0, .int .i64 0, .int .i64 0, .int .i64 2, .int .i64 i] 45); simpa using this)
  have Q4 : Hid (u2.heap[w.heap.size]? = some (.cells #[.int .i64 0, .string ⟨#[]⟩, .int .i64 0, .int .i64 0, .int .i64 0, .int .i64 0, .int .i64 0, .int .i64 0] 45 (0, 0))) := (g2.block _ (by omega)).trans ((Below.heap_alloc _ _ _ (by simp)).trans (heap_alloc_new w _))
  have BW : Hid (Below w.heap.size w u2) := ((below_allocL _ _).trans ((below_allocL _ _).mono (by simp))).trans (g2.mono (by omega))
  have hc6 : u2.cell? ⟨w.heap.size + 1, 6, none⟩ = some (.int .i64 2) := cell_of_row u2 (w.heap.size + 1) 6 _ 45 (0, 0) Q5.out
  have hf6 : u2.frozen? ⟨w.heap.size + 1, 6, none⟩ = false := frozen_of_row u2 (w.heap.size + 1) 6 _ 45 Q5.out
  have hqv := Pl.quoV_eq hr
  have hf0 := hr.f0
  have hT := HT.out
  rw [hqv] at hT
  clear g2 HQ HT hqv hr hz
  cases r with
  | error f =>
    have HT : Hid (Pl.tokF s i = .error f) := hT
    have hf : f ≠ 0 := hf0 f rfl
    have e1 : (f == 0) = false := by simp [hf]
    have e2 : (f != 0) = true := by simp [hf]
    obtain ⟨v, q, bs, rfl, ho, hl, _⟩ := hsd
    clear hT hf0 hf ho
    obtain ⟨U3, hU3⟩ : ∃ U3, u2.setCell ⟨w.heap.size + 1, 6, none⟩ (.int .i64 f) = U3 := ⟨_, rfl⟩
    have R5 : Hid (U3.heap[w.heap.size + 1]? = some (.cells #[.int .i64 0, .string ⟨#[]⟩, .int .i64 0, .int .i64 0, .int .i64 0, .int .i64 0, .int .i64 f, .int .i64 i] 45 (0, 0))) := by rw [← hU3]; exact heap_setCell_same u2 (w.heap.size + 1) 6 _ 45 _ Q5.out
    have R4 : Hid (U3.heap[w.heap.size]? = some (.cells #[.int .i64 0, .string ⟨#[]⟩, .int .i64 0, .int .i64 0, .int .i64 0, .int .i64 0, .int .i64 0, .int .i64 0] 45 (0, 0))) := by rw [← hU3]; exact (heap_setCell_other u2 _ w.heap.size _ (by show w.heap.size ≠ w.heap.size + 1; omega)).trans Q4.out
    have BW3 : Hid (Below w.heap.size w U3) := by rw [← hU3]; exact BW.out.setCell (p := ⟨w.heap.size + 1, 6, none⟩) (by show w.heap.size ≤ w.heap.size + 1; omega) _
    go_wp2_with (first | (refine wpList_load_row rfl 45 _ rfl (w.heap.size + 1) ?hx 45 #[.int .i64 0, .string ⟨#[]⟩, .int .i64 0, .int .i64 0, .int .i64 0, .int .i64 0, .int .i64 f, .int .i64 i] (0, 0) _ ?hg Tryz.underlying45 ?hd ?hi ?_; (case hx => rfl); (case hg => exact R5.out); (case hd => rfl); (case hi => kernel_rfl)) | (refine wpList_store_row rfl 45 _ _ rfl w.heap.size #[.int .i64 0, .string ⟨#[]⟩, .int .i64 0, .int .i64 0, .int .i64 0, .int .i64 0, .int .i64 f, .int .i64 i] ?hx ?hy 45 #[.int .i64 0, .string ⟨#[]⟩, .int .i64 0, .int .i64 0, .int .i64 0, .int .i64 0, .int .i64 0, .int .i64 0] ?hg ?hi ?ho ?h1 ?_; (case hx => rfl); (case hy => rfl); (case hg => exact R4.out); (case hi => kernel_rfl); (case ho => kernel_rfl); (case h1 => kernel_rfl)))
    refine bodyPost_ret (v := .agg #[.int .i64 0, .string ⟨#[]⟩, .int .i64 0, .int .i64 0, .int .i64 0, .int .i64 0, .int .i64 f, .int .i64 i]) ?hr ?hdf ?hQQ
    case hr =>
      refine results_cell_row Tryz.results25 _ _ (w.heap.size) 45 #[.int .i64 0, .string ⟨#[]⟩, .int .i64 0, .int .i64 0, .int .i64 0, .int .i64 0, .int .i64 f, .int .i64 i] (0, 0) _ ?hp ?hg Tryz.underlying45 ?hd ?hi
      case hp => rfl
      case hg => exact setRow_heap _ _ _ _ _ _ R4.out
      case hd => rfl
      case hi => kernel_rfl
    case hdf => rfl
    case hQQ => exact ⟨gotq_no HT.out, below_setRow BW3.out (Nat.le_refl _) _⟩
  | ok q =>
    obtain ⟨bs, n⟩ := q
    obtain ⟨v, rfl, ho, hl⟩ := hsd
    obtain ⟨a, cap, rfl⟩ := own_form ho
    have hT' : Pl.tokF s i = if 200 < bs.length then .error 8 else .ok (4, ⟨bs.toArray⟩, 0, n) := hT
    clear hT hf0
    by_cases hl1 : 200 < bs.length
    · rw [if_pos hl1] at hT'
      have HT : Hid (Pl.tokF s i = .error 8) := hT'
      have hl2 : (200 : Int) < bs.length := by omega
      clear hT' hl1 ho
      obtain ⟨U3, hU3⟩ : ∃ U3, u2.setCell ⟨w.heap.size + 1, 6, none⟩ (.int .i64 8) = U3 := ⟨_, rfl⟩
      have R5 : Hid (U3.heap[w.heap.size + 1]? = some (.cells #[.int .i64 0, .string ⟨#[]⟩, .int .i64 0, .int .i64 0, .int .i64 0, .int .i64 0, .int .i64 8, .int .i64 i] 45 (0, 0))) := by rw [← hU3]; exact heap_setCell_same u2 (w.heap.size + 1) 6 _ 45 _ Q5.out
      have R4 : Hid (U3.heap[w.heap.size]? = some (.cells #[.int .i64 0, .string ⟨#[]⟩, .int .i64 0, .int .i64 0, .int .i64 0, .int .i64 0, .int .i64 0, .int .i64 0] 45 (0, 0))) := by rw [← hU3]; exact (heap_setCell_other u2 _ w.heap.size _ (by show w.heap.size ≠ w.heap.size + 1; omega)).trans Q4.out
      have BW3 : Hid (Below w.heap.size w U3) := by rw [← hU3]; exact BW.out.setCell (p := ⟨w.heap.size + 1, 6, none⟩) (by show w.heap.size ≤ w.heap.size + 1; omega) _
      go_wp2_with (first | (refine wpList_load_row rfl 45 _ rfl (w.heap.size + 1) ?hx 45 #[.int .i64 0, .string ⟨#[]⟩, .int .i64 0, .int .i64 0, .int .i64 0, .int .i64 0, .int .i64 8, .int .i64 i] (0, 0) _ ?hg Tryz.underlying45 ?hd ?hi ?_; (case hx => rfl); (case hg => exact R5.out); (case hd => rfl); (case hi => kernel_rfl)) | (refine wpList_store_row rfl 45 _ _ rfl w.heap.size #[.int .i64 0, .string ⟨#[]⟩, .int .i64 0, .int .i64 0, .int .i64 0, .int .i64 0, .int .i64 8, .int .i64 i] ?hx ?hy 45 #[.int .i64 0, .string ⟨#[]⟩, .int .i64 0, .int .i64 0, .int .i64 0, .int .i64 0, .int .i64 0, .int .i64 0] ?hg ?hi ?ho ?h1 ?_; (case hx => rfl); (case hy => rfl); (case hg => exact R4.out); (case hi => kernel_rfl); (case ho => kernel_rfl); (case h1 => kernel_rfl)))
      refine bodyPost_ret (v := .agg #[.int .i64 0, .string ⟨#[]⟩, .int .i64 0, .int .i64 0, .int .i64 0, .int .i64 0, .int .i64 8, .int .i64 i]) ?hr ?hdf ?hQQ
      case hr =>
        refine results_cell_row Tryz.results25 _ _ (w.heap.size) 45 #[.int .i64 0, .string ⟨#[]⟩, .int .i64 0, .int .i64 0, .int .i64 0, .int .i64 0, .int .i64 8, .int .i64 i] (0, 0) _ ?hp ?hg Tryz.underlying45 ?hd ?hi
        case hp => rfl
        case hg => exact setRow_heap _ _ _ _ _ _ R4.out
        case hd => rfl
        case hi => kernel_rfl
      case hdf => rfl
      case hQQ => exact ⟨gotq_no HT.out, below_setRow BW3.out (Nat.le_refl _) _⟩
    · rw [if_neg hl1] at hT'
      have HT : Hid (Pl.tokF s i = .ok (4, ⟨bs.toArray⟩, 0, n)) := hT'
      have hl2 : ¬ (200 : Int) < bs.length := by omega
      obtain ⟨U3, hU3⟩ : ∃ U3, u2.setCell ⟨w.heap.size + 1, 6, none⟩ (.int .i64 0) = U3 := ⟨_, rfl⟩
      have R5 : Hid (U3.heap[w.heap.size + 1]? = some (.cells #[.int .i64 0, .string ⟨#[]⟩, .int .i64 0, .int .i64 0, .int .i64 0, .int .i64 0, .int .i64 0, .int .i64 i] 45 (0, 0))) := by rw [← hU3]; exact heap_setCell_same u2 (w.heap.size + 1) 6 _ 45 _ Q5.out
      have R4 : Hid (U3.heap[w.heap.size]? = some (.cells #[.int .i64 0, .string ⟨#[]⟩, .int .i64 0, .int .i64 0, .int .i64 0, .int .i64 0, .int .i64 0, .int .i64 0] 45 (0, 0))) := by rw [← hU3]; exact (heap_setCell_other u2 _ w.heap.size _ (by show w.heap.size ≠ w.heap.size + 1; omega)).trans Q4.out
      have BW3 : Hid (Below w.heap.size w U3) := by rw [← hU3]; exact BW.out.setCell (p := ⟨w.heap.size + 1, 6, none⟩) (by show w.heap.size ≤ w.heap.size + 1; omega) _
      have hcv := own_str (own_set (j := 6) (x := .int .i64 0) ho (show w.heap.size + 1 < w.heap.size + 2 by omega))
      rw [hU3] at hcv
      obtain ⟨S, hS⟩ : ∃ S : ByteArray, S = ⟨bs.toArray⟩ := ⟨_, rfl⟩
      rw [← hS] at hcv HT
      clear hT' hl1 hS ho
      go_wp2_with (refine wpList_store_row rfl 45 _ _ rfl w.heap.size #[.int .i64 4, .string S, .int .i64 0, .int .i64 0, .int .i64 0, .int .i64 n, .int .i64 0, .int .i64 0] ?hx ?hy 45 #[.int .i64 0, .string ⟨#[]⟩, .int .i64 0, .int .i64 0, .int .i64 0, .int .i64 0, .int .i64 0, .int .i64 0] ?hg ?hi ?ho ?h1 ?_; (case hx => rfl); (case hy => rfl); (case hg => exact R4.out); (case hi => kernel_rfl); (case ho => kernel_rfl); (case h1 => kernel_rfl))
      refine bodyPost_ret (v := .agg #[.int .i64 4, .string S, .int .i64 0, .int .i64 0, .int .i64 0, .int .i64 n, .int .i64 0, .int .i64 0]) ?hr ?hdf ?hQQ
      case hr =>
        refine results_cell_row Tryz.results25 _ _ (w.heap.size) 45 #[.int .i64 4, .string S, .int .i64 0, .int .i64 0, .int .i64 0, .int .i64 n, .int .i64 0, .int .i64 0] (0, 0) _ ?hp ?hg Tryz.underlying45 ?hd ?hi
        case hp => rfl
        case hg => exact setRow_heap _ _ _ _ _ _ R4.out
        case hd => rfl
        case hi => kernel_rfl
      case hdf => rfl
      case hQQ => exact ⟨gotq_ok HT.out rfl, below_setRow BW3.out (Nat.le_refl _) _⟩
end Go.Proofs.YtdplfflkmphpbaaGreatDoor.W
