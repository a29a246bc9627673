import Derived.Test.YtdplfflkmphpbaaGreatDoorT16
import Derived.Test.YtdplfflkmphpbaaGreatDoorT08
import Derived.Test.YtdplfflkmphpbaaGreatDoorT11
import Derived.Test.YtdplfflkmphpbaaGreatDoorT12
import Derived.Test.YtdplfflkmphpbaaGreatDoorT15
set_option linter.unusedVariables false
set_option linter.unusedSimpArgs false
namespace Go.Proofs.YtdplfflkmphpbaaGreatDoor.W
open Go.RowKit
section
variable {P : Program} {ops : Array Oper} {Q : Exit → Act → World → Prop} {md : Region.Mode}
def acycM (md : Region.Mode) (ops : Array Oper) : Bool := (List.range ops.size).all fun i => ((ops[i]?).map fun o => o.after.all fun e => !Region.binds md e || decide (e.on < i)).getD true
theorem acycM_of (h : acycM md ops = true) {i : Nat} {o : Oper} (ho : ops[i]? = some o) : ∀ e ∈ o.after, Region.binds md e = true → e.on < i := by
  unfold acycM at h
  rw [List.all_eq_true] at h
  have h1 := h i (List.mem_range.2 (Array.getElem?_eq_some_iff.1 ho).1)
  rw [ho] at h1
  simp only [Option.map_some, Option.getD_some] at h1
  intro e he hb
  have h2 := Array.all_eq_true_iff_forall_mem.1 h1 e he
  rw [hb] at h2
  simpa using h2
theorem ready_nil_allM (hac : acycM md ops = true) {L : Array Bool} (hs : L.size = ops.size) (hr : Region.ready md ops L = []) : ∀ i, i < ops.size → L.getD i true = true := by
  intro i
  induction i using Nat.strongRecOn with
  | ind i ih =>
    intro hi
    cases hb : L.getD i true with
    | true => rfl
    | false =>
      exfalso
      have hm : i ∈ Region.ready md ops L := mem_ready.2 ⟨hb, ops[i], Array.getElem?_eq_getElem hi, fun e he hbe => by
        have hlt := acycM_of hac (Array.getElem?_eq_getElem hi) e he hbe
        have h1 := ih e.on hlt (by omega)
        have h2 : e.on < L.size := by omega
        simp [h2] at h1 ⊢
        exact h1⟩
      rw [hr] at hm
      cases hm
theorem wpAny_inm (I : Array Bool → Act → World → Prop)
    (hdone : ∀ L a w, I L a w → (∀ i, i < ops.size → up L i = true) → Q .normal a w)
    (hac : acycM md ops = true)
    (hstep : ∀ (L : Array Bool) (a : Act) (w : World) (i : Nat) (o : Oper), I L a w → i < L.size → L.size = ops.size → up L i = false → Clo md ops L → (∀ e ∈ o.after, Region.binds md e = true → up L e.on = true) → ops[i]? = some o → ∀ K : Act → World → Prop, (∀ a w, I (L.setIfInBounds i true) a w → K a w) → if Region.wanted o (yielded ops a.tmps) = true then Oper.wp P o a w K Q else K (a.put o.dst undef) w)
    (fuel n : Nat) (a : Act) (w : World) (hn : n = ops.size) (hI : I (Array.replicate n false) a w) (hf : n ≤ fuel) : wpAny P md ops Q fuel (Array.replicate n false) a w := by
  refine wpAny_inv (fun L a w => I L a w ∧ Clo md ops L ∧ L.size = ops.size) (fun L a w h hs ha => hdone L a w h.1 fun i hi => up_of (ha i hi) (by omega)) (fun L hs hr => ready_nil_allM hac hs hr) (fun L a w i o h hs hi ho K hK => ?_) fuel _ a w ⟨hI, ?_, by simp [hn]⟩ (by simp [hn]) ?_
  · obtain ⟨h0, o', ho', hd⟩ := mem_ready.1 hi
    rw [ho] at ho'
    cases ho'
    have hlt : i < L.size := by rw [hs]; exact (Array.getElem?_eq_some_iff.1 ho).1
    have hd' : ∀ e ∈ o.after, Region.binds md e = true → up L e.on = true := hd
    refine hstep L a w i o h.1 hlt hs (up_false h0) h.2.1 hd' ho K fun a' w' h' => hK a' w' ⟨h', fun j oj hoj hj e he hb => ?_, by simpa using hs⟩
    rw [up_set hlt] at hj
    by_cases q : i = j
    · subst q
      rw [ho] at hoj
      cases hoj
      exact up_mono hlt (hd' e he hb)
    · rw [if_neg q] at hj
      exact up_mono hlt (h.2.1 j oj hoj hj e he hb)
  · intro j o ho hj
    rw [up_init] at hj
    cases hj
  · have : ∀ k : Nat, unl (List.replicate k false) = k := fun k => by
      induction k with
      | zero => rfl
      | succ k ih => show unl (false :: List.replicate k false) = k + 1; unfold unl at ih ⊢; rw [List.map_cons, List.sum_cons, ih]; simp; omega
    rw [Array.toList_replicate, this]
    exact hf
end
end Go.Proofs.YtdplfflkmphpbaaGreatDoor.W
namespace Go.Proofs.YtdplfflkmphpbaaGreatDoor.W
open Go.RowKit
set_option maxRecDepth 8000 in
set_option maxHeartbeats 4000000 in
theorem isKey_is (s : ByteArray) (w : World) : Calls Tryz.prog 86 #[.string s] w fun e w' => e = .returned (.bool (Pl.isK s)) ∧ w' = w := by
  have HE : Hid (Pl.isK s = (Pl.kyB.any fun r => s.toList == r)) := rfl
  go_enter Tryz.func86, Tryz.ntmps86
  go_wp2
  all_goals (go_ret; refine ⟨ret_bool ?_, rfl⟩; rw [HE.out]; simp only [Pl.kyB, List.any_cons, List.any_nil]; simp_all)
theorem inWordR_is (c : Int) (w : World) : Calls Tryz.prog 84 #[.int .i32 c] w fun e w' => e = .returned (.bool (Pl.wch c)) ∧ w' = w := by
  cases hd : Pl.dg c
  · have hn : ¬ (48 ≤ c ∧ c ≤ 57) := by simpa [Pl.dg] using hd
    go_enter Tryz.func84, Tryz.ntmps84
    go_wp2_with (go_at_call 109; refine (isDigitR_is _ _).mono ?_; rintro e u1 ⟨rfl, rfl⟩; rw [hd])
    all_goals (go_ret; refine ⟨ret_bool ?_, rfl⟩; rw [Bool.eq_iff_iff]; simp [Pl.dg, Pl.lt, Pl.wch] <;> omega)
  · have hn : 48 ≤ c ∧ c ≤ 57 := by simpa [Pl.dg] using hd
    go_enter Tryz.func84, Tryz.ntmps84
    go_wp2_with (go_at_call 109; refine (isDigitR_is _ _).mono ?_; rintro e u1 ⟨rfl, rfl⟩; rw [hd])
    all_goals (go_ret; refine ⟨ret_bool ?_, rfl⟩; rw [Bool.eq_iff_iff]; simp [Pl.dg, Pl.lt, Pl.wch] <;> omega)
theorem wch_highL (c : Int) (h : 128 ≤ c) : Pl.wch c = false := by
  rw [Bool.eq_false_iff]
  simp [Pl.wch, Pl.lt, Pl.dg]
  omega
theorem wch_decodeL (s : ByteArray) (pos : Nat) (h : pos < s.size) : Pl.wch ((Utf8.decode s pos).1 : Nat) = Pl.wch (Pl.byt s pos) := by
  by_cases ha : (s[pos]'h).toNat < 128
  · rw [decode_ascii s pos h ha, ← Pl.byt_get s pos h]
  · rw [wch_highL _ (by have := (decode_high s pos h (by omega)).1; omega), wch_highL _ (by rw [← Pl.byt_get s pos h]; omega)]
theorem step_decodeL (s : ByteArray) (pos : Nat) (h : pos < s.size) (hw : Pl.wch (Pl.byt s pos) = true) : (Utf8.decode s pos).2 = 1 := by
  by_cases ha : (s[pos]'h).toNat < 128
  · rw [decode_ascii s pos h ha]
  · rw [wch_highL _ (by rw [← Pl.byt_get s pos h]; omega)] at hw
    cases hw
set_option maxRecDepth 100000 in
set_option maxHeartbeats 2000000 in
theorem wordOf_is (s : ByteArray) (hs : s.size ≤ 9223372036854775807) (w : World) : Calls Tryz.prog 71 #[.string s] w fun e w' => e = .returned (.string (s.extract 0 (Pl.run Pl.wch s))) ∧ Below w.heap.size w w' := by
  go_enter Tryz.func71, Tryz.ntmps71
  go_wp2
  go_loopw [3] (fun _ w' => ∃ pos : Nat, pos ≤ s.size ∧ w' = w.iter s pos ∧ (∀ j, j < pos → Pl.wch (Pl.byt s j) = true)) (fun _ w' => s.size - w'.iterPos w.heap.size)
  case atStart => exact ⟨0, Nat.zero_le _, rfl, fun j hj => absurd hj (Nat.not_lt_zero _)⟩
  case round =>
    obtain ⟨pos, hps, rfl, hall⟩ := hrel
    have HA : Hid (∀ j, j < pos → Pl.wch (Pl.byt s j) = true) := hall
    clear hall
    by_cases hp : pos < s.size
    · have hnx : ∀ ty, (Instr.next (.pointer (some ⟨w.heap.size, 0, none⟩)) true ty).run Tryz.prog (w.iter s pos) = _ := fun ty => run_next_any w s pos ty hp
      have hpi : (pos : Int) ≤ (s.size : Int) := by omega
      cases hc : Pl.wch (Pl.byt s pos)
      · have HR : Hid (Pl.run Pl.wch s = pos) := Pl.run_eq ⟨hps, HA.out, .inr hc⟩
        go_wp2_with (go_at_call 84; refine (inWordR_is _ _).mono ?_; rintro e u1 ⟨rfl, rfl⟩; rw [wch_decodeL s pos hp, hc])
        go_ret
        exact ⟨by rw [HR.out]; rfl, below_iterL _ _ _⟩
      · have hd2 := step_decodeL s pos hp hc
        have HD : Hid ((Utf8.decode s pos).2 = 1) := hd2
        clear hd2
        go_wp2_with (go_at_call 84; refine (inWordR_is _ _).mono ?_; rintro e u1 ⟨rfl, rfl⟩; rw [wch_decodeL s pos hp, hc])
        go_roundw
        case rel => exact ⟨pos + 1, by omega, by rw [HD.out], fun j hj => by
          by_cases e : j = pos
          · rw [e]; exact hc
          · exact HA.out j (by omega)⟩
        case measure => rw [HD.out]; simp; omega
    · have hnx : ∀ ty, (Instr.next (.pointer (some ⟨w.heap.size, 0, none⟩)) true ty).run Tryz.prog (w.iter s pos) = _ := fun ty => run_next_end w s pos ty hp
      have HR : Hid (Pl.run Pl.wch s = s.size) := Pl.run_eq ⟨Nat.le_refl _, by rw [show s.size = pos by omega]; exact HA.out, .inl rfl⟩
      go_wp2
      go_ret
      exact ⟨by rw [HR.out]; simp, below_iterL _ _ _⟩
def WrdI (s : ByteArray) (e : Ending) : Prop := match Pl.wrdR s with
  | .ok (k, S, N) => e = .returned (.tuple #[.agg #[.int .i64 k, .string S, .int .i64 N, .int .i64 0, .int .i64 0], .int .i64 0])
  | .error f => e = .returned (.tuple #[.agg #[.int .i64 0, .string ⟨#[]⟩, .int .i64 0, .int .i64 0, .int .i64 0], .int .i64 f])
theorem wrdi_no {s : ByteArray} {f : Int} (h : Pl.wrdR s = .error f) : WrdI s (.returned (.tuple #[.agg #[.int .i64 0, .string ⟨#[]⟩, .int .i64 0, .int .i64 0, .int .i64 0], .int .i64 f])) := by unfold WrdI; rw [h]
theorem wrdi_ok {s S : ByteArray} {k N : Int} (h : Pl.wrdR s = .ok (k, S, N)) : WrdI s (.returned (.tuple #[.agg #[.int .i64 k, .string S, .int .i64 N, .int .i64 0, .int .i64 0], .int .i64 0])) := by unfold WrdI; rw [h]
set_option maxHeartbeats 4000000 in
set_option maxRecDepth 100000 in
theorem readWord_is (s : ByteArray) (hpos : 0 < s.size) (hs : s.size ≤ 1048576) (w : World) (hE : Glo w) : Calls Tryz.prog 72 #[.string s] w fun e w' => WrdI s e ∧ Below w.heap.size w w' := by
  have HE : Hid (Glo w) := hE
  clear hE
  cases hd : Pl.dg (Pl.byt s 0)
  · by_cases hb : (40 : Int) < (s.size : Int)
    · have HR : Hid (Pl.wrdR s = .error 8) := by show Pl.wrdR s = _; unfold Pl.wrdR; rw [hd, if_neg (by decide), if_pos (by omega)]
      go_enter Tryz.func72, Tryz.ntmps72
      go_wp2_with (go_at_call 83; refine (isDigit_any _ _).mono ?_; rintro e u1 ⟨rfl, rfl⟩; rw [Pl.byt_get s 0 hpos, hd])
      exact bodyPost_ret (v := .tuple #[.agg #[.int .i64 0, .string ⟨#[]⟩, .int .i64 0, .int .i64 0, .int .i64 0], .int .i64 8]) (by simp [results, Tryz.results72, go_sem]) rfl ⟨wrdi_no HR.out, below_allocL _ _⟩
    · cases hk : Pl.isK s
      · have HR : Hid (Pl.wrdR s = .ok (1, s, 0)) := by show Pl.wrdR s = _; unfold Pl.wrdR; rw [hd, if_neg (by decide), if_neg (by omega), hk]; rfl
        go_enter Tryz.func72, Tryz.ntmps72
        go_wp2_with (first | (go_at_call 83; refine (isDigit_any _ _).mono ?_; rintro e u1 ⟨rfl, rfl⟩; rw [Pl.byt_get s 0 hpos, hd]) | (go_at_call 86; refine (isKey_is s _).mono ?_; rintro e u1 ⟨rfl, rfl⟩; rw [hk]))
        exact bodyPost_ret (v := .tuple #[.agg #[.int .i64 1, .string s, .int .i64 0, .int .i64 0, .int .i64 0], .int .i64 0]) (by simp [results, Tryz.results72, go_sem]) rfl ⟨wrdi_ok HR.out, below_allocL _ _⟩
      · have HR : Hid (Pl.wrdR s = .ok (2, s, 0)) := by show Pl.wrdR s = _; unfold Pl.wrdR; rw [hd, if_neg (by decide), if_neg (by omega), hk]; rfl
        go_enter Tryz.func72, Tryz.ntmps72
        go_wp2_with (first | (go_at_call 83; refine (isDigit_any _ _).mono ?_; rintro e u1 ⟨rfl, rfl⟩; rw [Pl.byt_get s 0 hpos, hd]) | (go_at_call 86; refine (isKey_is s _).mono ?_; rintro e u1 ⟨rfl, rfl⟩; rw [hk]))
        exact bodyPost_ret (v := .tuple #[.agg #[.int .i64 2, .string s, .int .i64 0, .int .i64 0, .int .i64 0], .int .i64 0]) (by simp [results, Tryz.results72, go_sem]) rfl ⟨wrdi_ok HR.out, below_allocL _ _⟩
  · have HR : Hid (Pl.wrdR s = (match Pl.intR s with | .error f => .error f | .ok (S, N) => .ok (3, S, N))) := by show Pl.wrdR s = _; unfold Pl.wrdR; rw [if_pos hd]; rfl
    go_enter Tryz.func72, Tryz.ntmps72
    go_wp2_with (go_at_call 83; refine (isDigit_any _ _).mono ?_; rintro e u1 ⟨rfl, ek⟩; rw [ek]; clear ek; rw [Pl.byt_get s 0 hpos, hd])
    refine (readInteger_is s hpos hd hs _ (HE.out.on (below_allocL w _))).mono ?_
    rintro e u2 ⟨hi, g2⟩
    have Q2 : Hid (u2.heap[w.heap.size]? = some (.cells #[.int .i64 0, .string ⟨#[]⟩, .int .i64 0, .int .i64 0, .int .i64 0] 34 (0, 0))) := (g2.block w.heap.size (by simp)).trans (heap_alloc_new w _)
    have B2 : Hid (Below w.heap.size w u2) := (below_allocL w _).trans (g2.mono (by simp))
    clear g2
    unfold IntI at hi
    cases hq : Pl.intR s with
    | error f =>
      rw [hq] at hi
      subst hi
      have HR2 : Hid (Pl.wrdR s = .error f) := by show Pl.wrdR s = _; rw [HR.out, hq]
      clear HR hq
      go_wp2_with (refine wpList_store_row rfl 34 _ _ rfl w.heap.size #[.int .i64 0, .string ⟨#[]⟩, .int .i64 0, .int .i64 0, .int .i64 0] ?hx ?hy 34 #[.int .i64 0, .string ⟨#[]⟩, .int .i64 0, .int .i64 0, .int .i64 0] ?hg ?hi ?ho ?h1 ?_; (case hx => rfl); (case hy => rfl); (case hg => exact Q2.out); (case hi => kernel_rfl); (case ho => kernel_rfl); (case h1 => kernel_rfl))
      refine bodyPost_ret (v := .tuple #[.agg #[.int .i64 0, .string ⟨#[]⟩, .int .i64 0, .int .i64 0, .int .i64 0], .int .i64 f]) ?hr ?hdf ?hQQ
      case hr =>
        refine results_ctL Tryz.results72 _ _ (w.heap.size) 34 #[.int .i64 0, .string ⟨#[]⟩, .int .i64 0, .int .i64 0, .int .i64 0] (0, 0) _ (.int .i64 f) ?hp ?hq ?hg Tryz.underlying34 ?hd ?hi
        case hp => rfl
        case hq => rfl
        case hg => exact setRow_heap _ _ _ _ _ _ Q2.out
        case hd => rfl
        case hi => kernel_rfl
      case hdf => rfl
      case hQQ => exact ⟨wrdi_no HR2.out, below_setRow B2.out (Nat.le_refl _) _⟩
    | ok q =>
      obtain ⟨S, n⟩ := q
      rw [hq] at hi
      subst hi
      have HR2 : Hid (Pl.wrdR s = .ok (3, S, n)) := by show Pl.wrdR s = _; rw [HR.out, hq]
      clear HR hq
      go_wp2_with (refine wpList_store_row rfl 34 _ _ rfl w.heap.size #[.int .i64 3, .string S, .int .i64 n, .int .i64 0, .int .i64 0] ?hx ?hy 34 #[.int .i64 0, .string ⟨#[]⟩, .int .i64 0, .int .i64 0, .int .i64 0] ?hg ?hi ?ho ?h1 ?_; (case hx => rfl); (case hy => rfl); (case hg => exact Q2.out); (case hi => kernel_rfl); (case ho => kernel_rfl); (case h1 => kernel_rfl))
      refine bodyPost_ret (v := .tuple #[.agg #[.int .i64 3, .string S, .int .i64 n, .int .i64 0, .int .i64 0], .int .i64 0]) ?hr ?hdf ?hQQ
      case hr =>
        refine results_ctL Tryz.results72 _ _ (w.heap.size) 34 #[.int .i64 3, .string S, .int .i64 n, .int .i64 0, .int .i64 0] (0, 0) _ (.int .i64 0) ?hp ?hq ?hg Tryz.underlying34 ?hd ?hi
        case hp => rfl
        case hq => rfl
        case hg => exact setRow_heap _ _ _ _ _ _ Q2.out
        case hd => rfl
        case hi => kernel_rfl
      case hdf => rfl
      case hQQ => exact ⟨wrdi_ok HR2.out, below_setRow B2.out (Nat.le_refl _) _⟩
end Go.Proofs.YtdplfflkmphpbaaGreatDoor.W
namespace Go.Proofs.YtdplfflkmphpbaaGreatDoor.W
open Go.RowKit
set_option maxHeartbeats 4000000 in
set_option maxRecDepth 100000 in
theorem readToken_is (t : ByteArray) (ht : t.size ≤ 1048576) (hpos : 0 < t.size) (w : World) (hE : Glo w) : Calls Tryz.prog 61 #[.string t] w fun e w' => TokI t e ∧ Below w.heap.size w w' := by
  have HE : Hid (Glo w) := hE
  have hg0 := Pl.byt_get t 0 hpos
  obtain ⟨c, hc⟩ : ∃ c, c = Pl.byt t 0 := ⟨_, rfl⟩
  rw [← hc] at hg0
  have HC : Hid (c = Pl.byt t 0) := hc
  clear hE hc
  by_cases h39 : c = 39
  · have e39 : (c == 39) = true := by simp [h39]
    have HM : Hid (Pl.byt t 0 = 39) := HC.out.symm.trans h39
    clear h39
    go_enter Tryz.func61, Tryz.ntmps61
    go_wp2_with fail
    refine (readCharacter_is t ht hpos HM.out _ (HE.out.on (below_allocL w _))).mono ?_
    rintro e u2 ⟨hs, g2⟩
    have Q2 : Hid (u2.heap[w.heap.size]? = some (.cells #[.int .i64 0, .string ⟨#[]⟩, .int .i64 0, .int .i64 0, .int .i64 0] 34 (0, 0))) := (g2.block w.heap.size (by simp)).trans (heap_alloc_new w _)
    have B2 : Hid (Below w.heap.size w u2) := (below_allocL w _).trans (g2.mono (by simp))
    clear g2
    unfold TokI at hs
    cases hq : Pl.tokF t 0 with
    | error f =>
      rw [hq] at hs
      obtain ⟨q, rfl⟩ := hs
      have HT : Hid (Pl.tokF t 0 = .error f) := hq
      clear hq
      go_wp2_with (refine wpList_store_row rfl 34 _ _ rfl w.heap.size #[.int .i64 0, .string ⟨#[]⟩, .int .i64 0, .int .i64 0, .int .i64 0] ?hx ?hy 34 #[.int .i64 0, .string ⟨#[]⟩, .int .i64 0, .int .i64 0, .int .i64 0] ?hg ?hi ?ho ?h1 ?_; (case hx => rfl); (case hy => rfl); (case hg => exact Q2.out); (case hi => kernel_rfl); (case ho => kernel_rfl); (case h1 => kernel_rfl))
      refine bodyPost_ret (v := .tuple #[.agg #[.int .i64 0, .string ⟨#[]⟩, .int .i64 0, .int .i64 0, .int .i64 0], .int .i64 q, .int .i64 f]) ?hr ?hdf ?hQQ
      case hr =>
        refine results_cttL Tryz.results61 _ _ (w.heap.size) 34 #[.int .i64 0, .string ⟨#[]⟩, .int .i64 0, .int .i64 0, .int .i64 0] (0, 0) _ (.int .i64 q) (.int .i64 f) ?hp ?hq ?hq2 ?hg Tryz.underlying34 ?hd ?hi
        case hp => rfl
        case hq => rfl
        case hq2 => rfl
        case hg => exact setRow_heap _ _ _ _ _ _ Q2.out
        case hd => rfl
        case hi => kernel_rfl
      case hdf => rfl
      case hQQ => exact ⟨toki_no HT.out, below_setRow B2.out (Nat.le_refl _) _⟩
    | ok r =>
      obtain ⟨k, S, N, n⟩ := r
      rw [hq] at hs
      obtain rfl := hs
      have HT : Hid (Pl.tokF t 0 = .ok (k, S, N, n)) := hq
      clear hq
      go_wp2_with (refine wpList_store_row rfl 34 _ _ rfl w.heap.size #[.int .i64 k, .string S, .int .i64 N, .int .i64 0, .int .i64 0] ?hx ?hy 34 #[.int .i64 0, .string ⟨#[]⟩, .int .i64 0, .int .i64 0, .int .i64 0] ?hg ?hi ?ho ?h1 ?_; (case hx => rfl); (case hy => rfl); (case hg => exact Q2.out); (case hi => kernel_rfl); (case ho => kernel_rfl); (case h1 => kernel_rfl))
      refine bodyPost_ret (v := .tuple #[.agg #[.int .i64 k, .string S, .int .i64 N, .int .i64 0, .int .i64 0], .int .i64 n, .int .i64 0]) ?hr ?hdf ?hQQ
      case hr =>
        refine results_cttL Tryz.results61 _ _ (w.heap.size) 34 #[.int .i64 k, .string S, .int .i64 N, .int .i64 0, .int .i64 0] (0, 0) _ (.int .i64 n) (.int .i64 0) ?hp ?hq ?hq2 ?hg Tryz.underlying34 ?hd ?hi
        case hp => rfl
        case hq => rfl
        case hq2 => rfl
        case hg => exact setRow_heap _ _ _ _ _ _ Q2.out
        case hd => rfl
        case hi => kernel_rfl
      case hdf => rfl
      case hQQ => exact ⟨toki_ok HT.out rfl, below_setRow B2.out (Nat.le_refl _) _⟩
  have e39 : (c == 39) = false := by simp [h39]
  by_cases h34 : c = 34
  · have e34 : (c == 34) = true := by simp [h34]
    have HM : Hid (Pl.byt t 0 = 34) := HC.out.symm.trans h34
    clear h34 h39
    go_enter Tryz.func61, Tryz.ntmps61
    go_wp2_with fail
    refine (readString_is t ht hpos HM.out _ (HE.out.on (below_allocL w _))).mono ?_
    rintro e u2 ⟨hs, g2⟩
    have Q2 : Hid (u2.heap[w.heap.size]? = some (.cells #[.int .i64 0, .string ⟨#[]⟩, .int .i64 0, .int .i64 0, .int .i64 0] 34 (0, 0))) := (g2.block w.heap.size (by simp)).trans (heap_alloc_new w _)
    have B2 : Hid (Below w.heap.size w u2) := (below_allocL w _).trans (g2.mono (by simp))
    clear g2
    unfold TokI at hs
    cases hq : Pl.tokF t 0 with
    | error f =>
      rw [hq] at hs
      obtain ⟨q, rfl⟩ := hs
      have HT : Hid (Pl.tokF t 0 = .error f) := hq
      clear hq
      go_wp2_with (refine wpList_store_row rfl 34 _ _ rfl w.heap.size #[.int .i64 0, .string ⟨#[]⟩, .int .i64 0, .int .i64 0, .int .i64 0] ?hx ?hy 34 #[.int .i64 0, .string ⟨#[]⟩, .int .i64 0, .int .i64 0, .int .i64 0] ?hg ?hi ?ho ?h1 ?_; (case hx => rfl); (case hy => rfl); (case hg => exact Q2.out); (case hi => kernel_rfl); (case ho => kernel_rfl); (case h1 => kernel_rfl))
      refine bodyPost_ret (v := .tuple #[.agg #[.int .i64 0, .string ⟨#[]⟩, .int .i64 0, .int .i64 0, .int .i64 0], .int .i64 q, .int .i64 f]) ?hr ?hdf ?hQQ
      case hr =>
        refine results_cttL Tryz.results61 _ _ (w.heap.size) 34 #[.int .i64 0, .string ⟨#[]⟩, .int .i64 0, .int .i64 0, .int .i64 0] (0, 0) _ (.int .i64 q) (.int .i64 f) ?hp ?hq ?hq2 ?hg Tryz.underlying34 ?hd ?hi
        case hp => rfl
        case hq => rfl
        case hq2 => rfl
        case hg => exact setRow_heap _ _ _ _ _ _ Q2.out
        case hd => rfl
        case hi => kernel_rfl
      case hdf => rfl
      case hQQ => exact ⟨toki_no HT.out, below_setRow B2.out (Nat.le_refl _) _⟩
    | ok r =>
      obtain ⟨k, S, N, n⟩ := r
      rw [hq] at hs
      obtain rfl := hs
      have HT : Hid (Pl.tokF t 0 = .ok (k, S, N, n)) := hq
      clear hq
      go_wp2_with (refine wpList_store_row rfl 34 _ _ rfl w.heap.size #[.int .i64 k, .string S, .int .i64 N, .int .i64 0, .int .i64 0] ?hx ?hy 34 #[.int .i64 0, .string ⟨#[]⟩, .int .i64 0, .int .i64 0, .int .i64 0] ?hg ?hi ?ho ?h1 ?_; (case hx => rfl); (case hy => rfl); (case hg => exact Q2.out); (case hi => kernel_rfl); (case ho => kernel_rfl); (case h1 => kernel_rfl))
      refine bodyPost_ret (v := .tuple #[.agg #[.int .i64 k, .string S, .int .i64 N, .int .i64 0, .int .i64 0], .int .i64 n, .int .i64 0]) ?hr ?hdf ?hQQ
      case hr =>
        refine results_cttL Tryz.results61 _ _ (w.heap.size) 34 #[.int .i64 k, .string S, .int .i64 N, .int .i64 0, .int .i64 0] (0, 0) _ (.int .i64 n) (.int .i64 0) ?hp ?hq ?hq2 ?hg Tryz.underlying34 ?hd ?hi
        case hp => rfl
        case hq => rfl
        case hq2 => rfl
        case hg => exact setRow_heap _ _ _ _ _ _ Q2.out
        case hd => rfl
        case hi => kernel_rfl
      case hdf => rfl
      case hQQ => exact ⟨toki_ok HT.out rfl, below_setRow B2.out (Nat.le_refl _) _⟩
  have e34 : (c == 34) = false := by simp [h34]
  cases hw : Pl.wch c
  · have HT : Hid (Pl.tokF t 0 = if Pl.sgn t = 0 then .error 2 else .ok (5, t.extract 0 (Pl.sgn t), 0, Pl.sgn t)) := by
      show Pl.tokF t 0 = _
      unfold Pl.tokF
      rw [← HC.out, hw, if_neg (by decide), if_neg h39, if_neg h34, Pl.ext_all, Nat.zero_add]
    have hl := Pl.sgn_le t
    obtain ⟨n, hn⟩ : ∃ n, n = Pl.sgn t := ⟨_, rfl⟩
    have HSG : Hid (∀ u, Calls Tryz.prog 73 #[.string t] u fun e w' => e = .returned (.string (t.extract 0 n)) ∧ w' = u) := fun u => by rw [hn]; exact signOf_is t ht u
    rw [← hn] at HT hl
    have hD : (t.extract 0 n).size = n := by rw [Pl.ext_size]; omega
    obtain ⟨D, hDD⟩ : ∃ D, D = t.extract 0 n := ⟨_, rfl⟩
    rw [← hDD] at HT HSG hD
    have hE2 := Pl.isE D
    rw [hD] at hE2
    clear hn hDD h39 h34 hl
    by_cases h0 : n = 0
    · have HT2 : Hid (Pl.tokF t 0 = .error 2) := by show Pl.tokF t 0 = _; rw [HT.out, if_pos h0]
      rw [decide_eq_true h0] at hE2
      clear HT h0 hD
      go_enter Tryz.func61, Tryz.ntmps61
      go_wp2_with (first | (go_at_call 70; refine (inWord_any _ _).mono ?_; rintro e u1 ⟨rfl, hu1⟩; rw [hu1]; clear hu1; rw [hw]) | (go_at_call 73; refine (HSG.out _).mono ?_; rintro e u1 ⟨rfl, hu1⟩; rw [hu1]; clear hu1))
      exact bodyPost_ret (v := .tuple #[.agg #[.int .i64 0, .string ⟨#[]⟩, .int .i64 0, .int .i64 0, .int .i64 0], .int .i64 0, .int .i64 2]) (by simp [results, Tryz.results61, go_sem]) rfl ⟨toki_no HT2.out, below_allocL _ _⟩
    · have HT2 : Hid (Pl.tokF t 0 = .ok (5, D, 0, n)) := by show Pl.tokF t 0 = _; rw [HT.out, if_neg h0]
      rw [decide_eq_false h0] at hE2
      clear HT h0
      go_enter Tryz.func61, Tryz.ntmps61
      go_wp2_with (first | (go_at_call 70; refine (inWord_any _ _).mono ?_; rintro e u1 ⟨rfl, hu1⟩; rw [hu1]; clear hu1; rw [hw]) | (go_at_call 73; refine (HSG.out _).mono ?_; rintro e u1 ⟨rfl, hu1⟩; rw [hu1]; clear hu1))
      exact bodyPost_ret (v := .tuple #[.agg #[.int .i64 5, .string D, .int .i64 0, .int .i64 0, .int .i64 0], .int .i64 n, .int .i64 0]) (by simp [results, Tryz.results61, go_sem]) rfl ⟨toki_ok HT2.out rfl, below_allocL _ _⟩
  · have HT : Hid (Pl.tokF t 0 = (match Pl.wrdR (t.extract 0 (Pl.run Pl.wch t)) with | .error f => .error f | .ok (k, S, N) => .ok (k, S, N, Pl.run Pl.wch t))) := by
      show Pl.tokF t 0 = _
      unfold Pl.tokF
      rw [← HC.out, if_pos hw, Pl.ext_all, Nat.zero_add]
      rfl
    have hr := Pl.run_le Pl.wch t
    have hp : 0 < Pl.run Pl.wch t := Pl.run_pos hpos (by rw [← HC.out]; exact hw)
    obtain ⟨n, hn⟩ : ∃ n, n = Pl.run Pl.wch t := ⟨_, rfl⟩
    have HW : Hid (∀ u, Calls Tryz.prog 71 #[.string t] u fun e w' => e = .returned (.string (t.extract 0 n)) ∧ Below u.heap.size u w') := fun u => by rw [hn]; exact wordOf_is t (by omega) u
    rw [← hn] at HT hr hp
    have hD : (t.extract 0 n).size = n := by rw [Pl.ext_size]; omega
    obtain ⟨D, hDD⟩ : ∃ D, D = t.extract 0 n := ⟨_, rfl⟩
    rw [← hDD] at HT HW hD
    clear hn hDD h39 h34
    have HRW : Hid (∀ u, Glo u → Calls Tryz.prog 72 #[.string D] u fun e w' => WrdI D e ∧ Below u.heap.size u w') := fun u hu => readWord_is D (by omega) (by omega) u hu
    go_enter Tryz.func61, Tryz.ntmps61
    go_wp2_with (go_at_call 70; refine (inWord_any _ _).mono ?_; rintro e u1 ⟨rfl, hu1⟩; rw [hu1]; clear hu1; rw [hw])
    refine (HW.out _).mono ?_
    rintro e u2 ⟨rfl, g2⟩
    have Q2 : Hid (u2.heap[w.heap.size]? = some (.cells #[.int .i64 0, .string ⟨#[]⟩, .int .i64 0, .int .i64 0, .int .i64 0] 34 (0, 0))) := (g2.block w.heap.size (by simp)).trans (heap_alloc_new w _)
    have B2 : Hid (Below w.heap.size w u2) := (below_allocL w _).trans (g2.mono (by simp))
    have hz2 : w.heap.size < u2.heap.size := by have := g2.size; simp at this; omega
    clear g2 HW
    go_wp2_with fail
    refine (HRW.out _ (HE.out.on B2.out)).mono ?_
    rintro e u3 ⟨hs, g3⟩
    have Q3 : Hid (u3.heap[w.heap.size]? = some (.cells #[.int .i64 0, .string ⟨#[]⟩, .int .i64 0, .int .i64 0, .int .i64 0] 34 (0, 0))) := (g3.block w.heap.size hz2).trans Q2.out
    have B3 : Hid (Below w.heap.size w u3) := B2.out.trans (g3.mono B2.out.size)
    have hz3 : w.heap.size < u3.heap.size := Nat.lt_of_lt_of_le hz2 g3.size
    clear g3 Q2 B2 hz2 HRW
    have Q4 : Hid (∀ x, (u3.alloc x).heap[w.heap.size]? = some (.cells #[.int .i64 0, .string ⟨#[]⟩, .int .i64 0, .int .i64 0, .int .i64 0] 34 (0, 0))) := fun x => ((below_allocL u3 x).block w.heap.size hz3).trans Q3.out
    have B4 : Hid (∀ x, Below w.heap.size w (u3.alloc x)) := fun x => B3.out.trans ((below_allocL u3 x).mono B3.out.size)
    unfold WrdI at hs
    have hT := HT.out
    clear HT
    cases hq : Pl.wrdR D with
    | error f =>
      rw [hq] at hs hT
      subst hs
      have HT : Hid (Pl.tokF t 0 = .error f) := hT
      clear hq hT
      go_wp2_with (refine wpList_store_row rfl 34 _ _ rfl w.heap.size #[.int .i64 0, .string ⟨#[]⟩, .int .i64 0, .int .i64 0, .int .i64 0] ?hx ?hy 34 #[.int .i64 0, .string ⟨#[]⟩, .int .i64 0, .int .i64 0, .int .i64 0] ?hg ?hi ?ho ?h1 ?_; (case hx => rfl); (case hy => rfl); (case hg => exact Q4.out _); (case hi => kernel_rfl); (case ho => kernel_rfl); (case h1 => kernel_rfl))
      refine bodyPost_ret (v := .tuple #[.agg #[.int .i64 0, .string ⟨#[]⟩, .int .i64 0, .int .i64 0, .int .i64 0], .int .i64 n, .int .i64 f]) ?hr ?hdf ?hQQ
      case hr =>
        refine results_cttL Tryz.results61 _ _ (w.heap.size) 34 #[.int .i64 0, .string ⟨#[]⟩, .int .i64 0, .int .i64 0, .int .i64 0] (0, 0) _ (.int .i64 n) (.int .i64 f) ?hp ?hq ?hq2 ?hg Tryz.underlying34 ?hd ?hi
        case hp => rfl
        case hq => rfl
        case hq2 => rfl
        case hg => exact setRow_heap _ _ _ _ _ _ (Q4.out _)
        case hd => rfl
        case hi => kernel_rfl
      case hdf => rfl
      case hQQ => exact ⟨toki_no HT.out, below_setRow (B4.out _) (Nat.le_refl _) _⟩
    | ok r =>
      obtain ⟨k, S, N⟩ := r
      rw [hq] at hs hT
      subst hs
      have HT : Hid (Pl.tokF t 0 = .ok (k, S, N, n)) := hT
      clear hq hT
      go_wp2_with (refine wpList_store_row rfl 34 _ _ rfl w.heap.size #[.int .i64 k, .string S, .int .i64 N, .int .i64 0, .int .i64 0] ?hx ?hy 34 #[.int .i64 0, .string ⟨#[]⟩, .int .i64 0, .int .i64 0, .int .i64 0] ?hg ?hi ?ho ?h1 ?_; (case hx => rfl); (case hy => rfl); (case hg => exact Q4.out _); (case hi => kernel_rfl); (case ho => kernel_rfl); (case h1 => kernel_rfl))
      refine bodyPost_ret (v := .tuple #[.agg #[.int .i64 k, .string S, .int .i64 N, .int .i64 0, .int .i64 0], .int .i64 n, .int .i64 0]) ?hr ?hdf ?hQQ
      case hr =>
        refine results_cttL Tryz.results61 _ _ (w.heap.size) 34 #[.int .i64 k, .string S, .int .i64 N, .int .i64 0, .int .i64 0] (0, 0) _ (.int .i64 n) (.int .i64 0) ?hp ?hq ?hq2 ?hg Tryz.underlying34 ?hd ?hi
        case hp => rfl
        case hq => rfl
        case hq2 => rfl
        case hg => exact setRow_heap _ _ _ _ _ _ (Q4.out _)
        case hd => rfl
        case hi => kernel_rfl
      case hdf => rfl
      case hQQ => exact ⟨toki_ok HT.out rfl, below_setRow (B4.out _) (Nat.le_refl _) _⟩
end Go.Proofs.YtdplfflkmphpbaaGreatDoor.W
namespace Go.Proofs.YtdplfflkmphpbaaGreatDoor.W
open Go.RowKit
theorem OnlyX.setRow {c n : Nat} {w u : World} {cs : Array Value} (h : OnlyX c w u) (hn : w.heap.size ≤ n) : OnlyX c w (u.setRow n cs) := by
  have hb := below_setRow (Below.refl w.heap.size u) hn cs
  exact ⟨hb.os.trans h.os, hb.tape.trans h.tape, hb.output.trans h.output, Nat.le_trans h.size hb.size, fun b h1 h2 => (hb.block b h1).trans (h.block b h1 h2)⟩
theorem OnlyX.dodge {c t : Nat} {w u u' : World} (h : OnlyX c w u) (k : OnlyX t u u') (ht : w.heap.size ≤ t) : OnlyX c w u' := ⟨k.os.trans h.os, k.tape.trans h.tape, k.output.trans h.output, Nat.le_trans h.size k.size, fun x hx hc => (k.block x (Nat.lt_of_lt_of_le hx h.size) (by omega)).trans (h.block x hx hc)⟩
theorem lx_row {g k n : Nat} {s : ByteArray} {u : World} {cs : Array Value} (h : LxSt g s k u) (hn : g ≠ n) : LxSt g s k (u.setRow n cs) := (setRow_other u n g cs hn).trans h
def TokR (s : ByteArray) (j : Nat) (z0 : Int) (z1 : ByteArray) (z2 zq zf : Int) : Prop := (zf ≠ 0 ∧ Pl.tokF s j = .error zf) ∨ (zf = 0 ∧ ∃ n : Nat, Pl.tokF s j = .ok (z0, z1, z2, n) ∧ zq = (n : Int) - j)
def NxrW (V : World) (s : ByteArray) (j : Nat) (pb : Nat) (z0 : Int) (z1 : ByteArray) (z2 zq zf : Int) (L : Array Bool) (w : World) : Prop := Below V.heap.size V w ∧ (up L 9 = true → TokR s j z0 z1 z2 zq zf) ∧ (up L 14 = true → V.heap.size ≤ pb ∧ w.heap[pb]? = some (.cells (bif up L 15 then #[.int .i64 z0, .string z1, .int .i64 z2, .int .i64 0, .int .i64 0] else #[.int .i64 0, .string ⟨#[]⟩, .int .i64 0, .int .i64 0, .int .i64 0]) 34))
theorem NxrW.keep {V : World} {s : ByteArray} {j pb : Nat} {z0 : Int} {z1 : ByteArray} {z2 zq zf : Int} {L : Array Bool} {w : World} (h : NxrW V s j pb z0 z1 z2 zq zf L w) {i : Nat} (hi : i < L.size) (n9 : i ≠ 9) (n14 : i ≠ 14) (n15 : i ≠ 15) : NxrW V s j pb z0 z1 z2 zq zf (L.setIfInBounds i true) w := by
  unfold NxrW at h ⊢
  rw [up_set hi, up_set hi, up_set hi, if_neg n9, if_neg n14, if_neg n15]
  exact h
theorem tokI_out {s : ByteArray} {j : Nat} (hto : Pl.tokF s j = Pl.shT j (Pl.tokF (s.extract j s.size) 0)) {e : Ending} (h : TokI (s.extract j s.size) e) : ∃ b0 b1 b2 bq bf, e = .returned (.tuple #[.agg #[.int .i64 b0, .string b1, .int .i64 b2, .int .i64 0, .int .i64 0], .int .i64 bq, .int .i64 bf]) ∧ TokR s j b0 b1 b2 bq bf := by
  unfold TokI at h
  cases htf : Pl.tokF (s.extract j s.size) 0 with
  | error f =>
    rw [htf] at h hto
    obtain ⟨q, rfl⟩ := h
    exact ⟨_, _, _, _, _, rfl, .inl ⟨Pl.tokF_f htf, hto⟩⟩
  | ok r =>
    obtain ⟨kd, S, N, n⟩ := r
    rw [htf] at h hto
    subst h
    exact ⟨_, _, _, _, _, rfl, .inr ⟨rfl, _, hto, by omega⟩⟩
def NxtI (g : Nat) (s : ByteArray) (k : Nat) (w : World) (e : Ending) (w' : World) : Prop := ∃ j b, Pl.Sk s k j b ∧ OnlyX g w w' ∧
  ((b = false ∧ e = .returned (.tuple #[.agg #[.int .i64 0, .string ⟨#[]⟩, .int .i64 0, .int .i64 (Pl.ln s j), .int .i64 (Pl.cn s j)], .int .i64 3]) ∧ LxSt g s j w') ∨
   (b = true ∧ j = s.size ∧ e = .returned (.tuple #[.agg #[.int .i64 0, .string ⟨#[]⟩, .int .i64 0, .int .i64 (Pl.ln s j), .int .i64 (Pl.cn s j)], .int .i64 0]) ∧ LxSt g s j w') ∨
   (b = true ∧ j < s.size ∧ ∃ f, Pl.tokF s j = .error f ∧ e = .returned (.tuple #[.agg #[.int .i64 0, .string ⟨#[]⟩, .int .i64 0, .int .i64 (Pl.ln s j), .int .i64 (Pl.cn s j)], .int .i64 f]) ∧ LxSt g s j w') ∨
   (b = true ∧ j < s.size ∧ ∃ kd S N n, Pl.tokF s j = .ok (kd, S, N, n) ∧ e = .returned (.tuple #[.agg #[.int .i64 kd, .string S, .int .i64 N, .int .i64 (Pl.ln s j), .int .i64 (Pl.cn s j)], .int .i64 0]) ∧ LxSt g s n w'))
def NxrMk (G Wz Pb j : Nat) (s : ByteArray) (u9 u10 u11 u12 u13 u14 u15 u16 u17 u18 u19 u20 u21 u22 u23 u24 u25 u28 u39 u40 u41 u42 u43 u44 u45 u46 u47 u48 u49 u50 u51 u52 u53 u54 u55 u56 u57 u58 u59 u60 u61 u62 u63 u64 u65 u66 u67 : Value) (pb : Nat) (z0 : Int) (z1 : ByteArray) (z2 zq zf : Int) (L : Array Bool) : Act := { tmps := #[.pointer (some ⟨G, 0, none⟩), undef, .pointer (some ⟨Wz, 0, none⟩), .int .i64 0, .bool true, .pointer (some ⟨Pb, 0, none⟩), sld undef L 14 (.pointer (some ⟨pb, 0, none⟩)), sld undef L 16 (.int .i64 zq), sld undef L 17 (.int .i64 zf), u9, u10, u11, u12, u13, u14, u15, u16, u17, u18, u19, u20, u21, u22, u23, u24, u25, .bool true, .bool false, u28, .pointer (some ⟨G, 0, none⟩), .pointer (some ⟨G, 0, none⟩), .pointer (some ⟨G, 1, none⟩), .int .i64 (j : Int), .pointer (some ⟨G, 0, none⟩), .pointer (some ⟨G, 0, none⟩), .pointer (some ⟨G, 0, none⟩), .string s, .int .i64 (s.size : Int), .bool false, u39, sld u40 L 10 (.tuple #[.agg #[.int .i64 z0, .string z1, .int .i64 z2, .int .i64 0, .int .i64 0], .int .i64 zq, .int .i64 zf]), sld u41 L 0 (.pointer (some ⟨G, 0, none⟩)), sld u42 L 1 (.pointer (some ⟨G, 0, none⟩)), sld u43 L 2 (.pointer (some ⟨G, 0, none⟩)), sld u44 L 3 (.string s), sld u45 L 4 (.pointer (some ⟨G, 0, none⟩)), sld u46 L 5 (.pointer (some ⟨G, 0, none⟩)), sld u47 L 6 (.pointer (some ⟨G, 1, none⟩)), sld u48 L 7 (.int .i64 (j : Int)), sld u49 L 8 (.string (s.extract j s.size)), sld u50 L 9 (.tuple #[.agg #[.int .i64 z0, .string z1, .int .i64 z2, .int .i64 0, .int .i64 0], .int .i64 zq, .int .i64 zf]), sld u51 L 11 (.agg #[.int .i64 z0, .string z1, .int .i64 z2, .int .i64 0, .int .i64 0]), sld u52 L 12 (.int .i64 zq), sld u53 L 13 (.int .i64 zf), u54, u55, u56, u57, u58, u59, u60, u61, u62, u63, u64, u65, u66, u67], defers := [] }
set_option maxHeartbeats 8000000 in
set_option maxRecDepth 100000 in
theorem next_is (g : Nat) (hg8 : 8 ≤ g) (s : ByteArray) (hs : s.size ≤ 1048576) (k : Nat) (hk : k ≤ s.size) (w : World) (hL : LxSt g s k w) (hE : Glo w) : Calls Tryz.prog 49 #[.pointer (some ⟨g, 0, none⟩)] w fun e w' => NxtI g s k w e w' := by
  have HL : Hid (LxSt g s k w) := hL
  have HE : Hid (Glo w) := hE
  have hgw : g < w.heap.size := (Array.getElem?_eq_some_iff.1 hL).1
  have HSB : Hid (∀ u : World, LxSt g s k u → Glo u → Calls Tryz.prog 60 #[.pointer (some ⟨g, 0, none⟩)] u fun e w' => ∃ j b, Pl.Sk s k j b ∧ e = .returned (.bool b) ∧ LxSt g s j w' ∧ OnlyX g u w') := fun u h1 h2 => skipBlanks_is g hg8 s hs k hk u h1 h2
  clear hL hE
  go_enter Tryz.func49, Tryz.ntmps49
  go_wp2_with fail
  refine (HSB.out _ (HL.out.keep (below_allocL _ _)) (HE.out.on (below_allocL _ _))).mono ?_
  rintro e u1 ⟨j, b, hsk, rfl, hst, hox⟩
  have hR : u1.heap[w.heap.size]? = some (.cells #[.int .i64 0, .string ⟨#[]⟩, .int .i64 0, .int .i64 0, .int .i64 0] 34 (0, 0)) := (hox.block w.heap.size (by simp) (by omega)).trans (heap_alloc_new w _)
  have hz1 : w.heap.size < u1.heap.size := by have := hox.size; simp at this; omega
  have hj : j ≤ s.size := hsk.le.2.1 hk
  have HR : Hid (u1.heap[w.heap.size]? = some (.cells #[.int .i64 0, .string ⟨#[]⟩, .int .i64 0, .int .i64 0, .int .i64 0] 34 (0, 0))) := hR
  have HST : Hid (LxSt g s j u1) := hst
  have HOX : Hid (OnlyX g w u1) := (OnlyX.of_below (below_allocL w _)).trans hox
  obtain ⟨l0, l1⟩ := Pl.ln_b s j
  obtain ⟨c0, c1⟩ := Pl.cn_b s j
  have HS : Hid (Pl.Sk s k j b) := hsk
  have hst' : u1.heap[g]? = some (.cells #[.string s, .int .i64 j, .int .i64 (Pl.ln s j), .int .i64 ((j : Int) + 1 - Pl.cn s j)] 72 (0, 0)) := hst
  obtain ⟨A, hA⟩ : ∃ A, A = Pl.ln s j := ⟨_, rfl⟩
  obtain ⟨B, hB⟩ : ∃ B, B = Pl.cn s j := ⟨_, rfl⟩
  have HAA : Hid (A = Pl.ln s j) := hA
  have HBB : Hid (B = Pl.cn s j) := hB
  rw [← hA] at hst' l0 l1
  rw [← hB] at hst' c0 c1
  have d0 : u1.cell? ⟨g, 0, none⟩ = some (.string s) := cell_of_row u1 g 0 _ 72 (0, 0) hst'
  have d1 : u1.cell? ⟨g, 1, none⟩ = some (.int .i64 j) := cell_of_row u1 g 1 _ 72 (0, 0) hst'
  have d2 : u1.cell? ⟨g, 2, none⟩ = some (.int .i64 A) := cell_of_row u1 g 2 _ 72 (0, 0) hst'
  have d3 : u1.cell? ⟨g, 3, none⟩ = some (.int .i64 ((j : Int) + 1 - B)) := cell_of_row u1 g 3 _ 72 (0, 0) hst'
  have hgu : g < u1.heap.size := (Array.getElem?_eq_some_iff.1 hst').1
  have w1 : IntKind.i64.wrap ((j : Int) - ((j : Int) + 1 - B)) = B - 1 := by rw [IntKind.wrap_i64]; omega
  have w2 : IntKind.i64.wrap (B - 1 + 1) = B := by rw [IntKind.wrap_i64]; omega
  clear hsk hst hox hR hA hB hst'
  go_upto_region 2 with fail
  go_cut [5] (fun s5 wx => ∃ P, s5 = .pointer (some ⟨P, 0, none⟩) ∧ u1.heap.size ≤ P ∧ wx.heap[P]? = some (.cells #[.int .i64 0, .string ⟨#[]⟩, .int .i64 0, .int .i64 A, .int .i64 B] 34 (0, 0)) ∧ Below u1.heap.size u1 wx)
  case first =>
    go_region
    all_goals
      go_wp2_with fail
      go_meet
      exact ⟨u1.heap.size, rfl, Nat.le_refl _, heap_alloc_new u1 _, by repeat (first | exact below_allocL _ _ | refine below_drewV ?_ _ | refine Below.drew ?_)⟩
  case rest =>
  obtain ⟨P, rfl, hP1, hP2, hP3⟩ := hcut
  obtain ⟨U, hU⟩ : ∃ U, U = wc := ⟨_, rfl⟩
  rw [← hU] at hP2 hP3 ⊢
  have HP : Hid (U.heap[P]? = some (.cells #[.int .i64 0, .string ⟨#[]⟩, .int .i64 0, .int .i64 A, .int .i64 B] 34 (0, 0))) := hP2
  have HR2 : Hid (U.heap[w.heap.size]? = some (.cells #[.int .i64 0, .string ⟨#[]⟩, .int .i64 0, .int .i64 0, .int .i64 0] 34 (0, 0))) := (hP3.block _ hz1).trans HR.out
  have HST2 : Hid (LxSt g s j U) := (hP3.block g hgu).trans HST.out
  have HOX2 : Hid (OnlyX g w U) := HOX.out.trans (OnlyX.of_below hP3)
  have HE2 : Hid (Glo U) := HE.out.onX hg8 HOX2.out
  have hPw : w.heap.size < P := by omega
  have hgP : g < P := by omega
  have HPU : Hid (P < U.heap.size) := (Array.getElem?_eq_some_iff.1 hP2).1
  have d0 : U.cell? ⟨g, 0, none⟩ = some (.string s) := cell_of_row U g 0 _ 72 (0, 0) HST2.out
  have d1 : U.cell? ⟨g, 1, none⟩ = some (.int .i64 j) := cell_of_row U g 1 _ 72 (0, 0) HST2.out
  clear hU hP2 hP3 HR HST HOX HSB w1 w2
  cases b
  · have HS0 : Hid (Pl.Sk s k j false) := HS.out
    go_wp2_with (first | (refine wpList_load_row rfl 34 _ rfl P ?hx 34 #[.int .i64 0, .string ⟨#[]⟩, .int .i64 0, .int .i64 A, .int .i64 B] (0, 0) _ ?hg Tryz.underlying34 ?hd ?hi ?_; (case hx => rfl); (case hg => exact HP.out); (case hd => rfl); (case hi => kernel_rfl)) | (refine wpList_store_row rfl 34 _ _ rfl w.heap.size #[.int .i64 0, .string ⟨#[]⟩, .int .i64 0, .int .i64 A, .int .i64 B] ?hx ?hy 34 #[.int .i64 0, .string ⟨#[]⟩, .int .i64 0, .int .i64 0, .int .i64 0] ?hg ?hi ?ho ?h1 ?_; (case hx => rfl); (case hy => rfl); (case hg => exact HR2.out); (case hi => kernel_rfl); (case ho => kernel_rfl); (case h1 => kernel_rfl)))
    refine bodyPost_ret (v := .tuple #[.agg #[.int .i64 0, .string ⟨#[]⟩, .int .i64 0, .int .i64 A, .int .i64 B], .int .i64 3]) ?hr ?hdf ?hQQ
    case hr =>
      refine results_ctL Tryz.results49 _ _ (w.heap.size) 34 #[.int .i64 0, .string ⟨#[]⟩, .int .i64 0, .int .i64 A, .int .i64 B] (0, 0) _ (.int .i64 3) ?hp ?hq ?hg Tryz.underlying34 ?hd ?hi
      case hp => rfl
      case hq => rfl
      case hg => exact setRow_heap _ _ _ _ _ _ HR2.out
      case hd => rfl
      case hi => kernel_rfl
    case hdf => rfl
    case hQQ => exact ⟨j, false, HS0.out, HOX2.out.setRow (Nat.le_refl _), .inl ⟨rfl, by rw [HAA.out, HBB.out], lx_row HST2.out (by omega)⟩⟩
  have hjc : (j : Int) ≤ s.size := by omega
  by_cases hend : j = s.size
  · have eend : ((j : Int) == (s.size : Int)) = true := by simp [hend]
    have HEND : Hid (j = s.size) := hend
    clear hend
    go_wp2_with fail
    go_quiet (fail)
    go_wp2_with (first | (refine wpList_load_row rfl 34 _ rfl P ?hx 34 #[.int .i64 0, .string ⟨#[]⟩, .int .i64 0, .int .i64 A, .int .i64 B] (0, 0) _ ?hg Tryz.underlying34 ?hd ?hi ?_; (case hx => rfl); (case hg => exact HP.out); (case hd => rfl); (case hi => kernel_rfl)) | (refine wpList_store_row rfl 34 _ _ rfl w.heap.size #[.int .i64 0, .string ⟨#[]⟩, .int .i64 0, .int .i64 A, .int .i64 B] ?hx ?hy 34 #[.int .i64 0, .string ⟨#[]⟩, .int .i64 0, .int .i64 0, .int .i64 0] ?hg ?hi ?ho ?h1 ?_; (case hx => rfl); (case hy => rfl); (case hg => exact HR2.out); (case hi => kernel_rfl); (case ho => kernel_rfl); (case h1 => kernel_rfl)))
    refine bodyPost_ret (v := .tuple #[.agg #[.int .i64 0, .string ⟨#[]⟩, .int .i64 0, .int .i64 A, .int .i64 B], .int .i64 0]) ?hr ?hdf ?hQQ
    case hr =>
      refine results_ctL Tryz.results49 _ _ (w.heap.size) 34 #[.int .i64 0, .string ⟨#[]⟩, .int .i64 0, .int .i64 A, .int .i64 B] (0, 0) _ (.int .i64 0) ?hp ?hq ?hg Tryz.underlying34 ?hd ?hi
      case hp => rfl
      case hq => rfl
      case hg => exact setRow_heap _ _ _ _ _ _ HR2.out
      case hd => rfl
      case hi => kernel_rfl
    case hdf => rfl
    case hQQ => exact ⟨j, true, HS.out, OnlyX.setRow (by repeat (first | exact HOX2.out | refine OnlyX.drewN ?_ _)) (Nat.le_refl _), .inr (.inl ⟨rfl, HEND.out, by rw [HAA.out, HBB.out], lx_row (u := _) HST2.out (by omega)⟩)⟩
  have eend : ((j : Int) == (s.size : Int)) = false := by simp; omega
  have hjs : j < s.size := by omega
  have HTO : Hid (Pl.tokF s j = Pl.shT j (Pl.tokF (s.extract j s.size) 0)) := Pl.tokF_to s j hjs
  have HRT : Hid (∀ u : World, Glo u → Calls Tryz.prog 61 #[.string (s.extract j s.size)] u fun e w' => TokI (s.extract j s.size) e ∧ Below u.heap.size u w') := fun u hu => readToken_is (s.extract j s.size) (by rw [Pl.ext_sz]; omega) (by rw [Pl.ext_sz]; omega) u hu
  have HGD : Hid (∀ i i', Glo ((U.drewN i).drewN i')) := fun i i' => HE2.out.on (below_drewV (below_drewV (Below.refl _ _) i) i')
  clear hend
  go_upto_region 7 with fail
  go_quiet (fail)
  go_upto_region 7 with fail
  obtain ⟨V, hV⟩ : ∃ V, V = U.drewN nq := ⟨_, rfl⟩
  rw [← hV]
  have BV : Hid (Below U.heap.size U V) := by rw [hV]; exact below_drewV (Below.refl _ _) _
  clear hV d0 d1
  have d0 : V.cell? ⟨g, 0, none⟩ = some (.string s) := cell_of_row V g 0 _ 72 (0, 0) (HST2.out.keep BV.out)
  have d1 : V.cell? ⟨g, 1, none⟩ = some (.int .i64 j) := cell_of_row V g 1 _ 72 (0, 0) (HST2.out.keep BV.out)
  have HGV : Hid (Glo V) := HE2.out.on BV.out
  go_cut [6, 7, 8] (fun s6 s7 s8 wx => ∃ (T : Nat) (z0 : Int) (z1 : ByteArray) (z2 zq zf : Int), s6 = .pointer (some ⟨T, 0, none⟩) ∧ s7 = .int .i64 zq ∧ s8 = .int .i64 zf ∧ V.heap.size ≤ T ∧ wx.heap[T]? = some (.cells #[.int .i64 z0, .string z1, .int .i64 z2, .int .i64 0, .int .i64 0] 34 (0, 0)) ∧ Below V.heap.size V wx ∧ TokR s j z0 z1 z2 zq zf)
  case first =>
    have k0 : Hid (∀ w', Below V.heap.size V w' → w'.cell? ⟨g, 0, none⟩ = some (.string s)) := fun w' hw => below_cell hw d0
    have k1 : Hid (∀ w', Below V.heap.size V w' → w'.cell? ⟨g, 1, none⟩ = some (.int .i64 j)) := fun w' hw => below_cell hw d1
    have HGB : Hid (∀ w', Below V.heap.size V w' → Glo w') := fun w' hw => HGV.out.on hw
    have HTK : Hid (∀ e, TokI (s.extract j s.size) e → ∃ b0 b1 b2 bq bf, e = .returned (.tuple #[.agg #[.int .i64 b0, .string b1, .int .i64 b2, .int .i64 0, .int .i64 0], .int .i64 bq, .int .i64 bf]) ∧ TokR s j b0 b1 b2 bq bf) := fun e he => tokI_out HTO.out he
    refine wp_region_any (by kernel_rfl) ?_
    change wpAny _ _ _ _ _ _ _ (World.drew _)
    refine wpAny_inm (fun L act w' => ∃ pb z0 z1 z2 zq zf, act = NxrMk g w.heap.size P j s u9 u10 u11 u12 u13 u14 u15 u16 u17 u18 u19 u20 u21 u22 u23 u24 u25 u28 u39 u40 u41 u42 u43 u44 u45 u46 u47 u48 u49 u50 u51 u52 u53 u54 u55 u56 u57 u58 u59 u60 u61 u62 u63 u64 u65 u66 u67 pb z0 z1 z2 zq zf L ∧ NxrW V s j pb z0 z1 z2 zq zf L w') ?done (by kernel_rfl) ?step _ 18 _ _ (by kernel_rfl) ?init (by decide)
    case init => exact ⟨0, 0, ⟨#[]⟩, 0, 0, 0, by simp only [NxrMk, sld_no (up_init _ _)], Below.drew (Below.refl _ _), fun q => absurd (q.symm.trans (up_init _ _)) (by decide), fun q => absurd (q.symm.trans (up_init _ _)) (by decide)⟩
    case step =>
      intro L act w i o hI hlt hs nl hC hd ho K hK
      obtain ⟨pb, z0, z1, z2, zq, zf, rfl, hW⟩ := hI
      have hi_lt : i < 18 := (Array.getElem?_eq_some_iff.1 ho).1
      rcases (show i = 0 ∨ i = 1 ∨ i = 2 ∨ i = 3 ∨ i = 4 ∨ i = 5 ∨ i = 6 ∨ i = 7 ∨ i = 8 ∨ i = 9 ∨ i = 10 ∨ i = 11 ∨ i = 12 ∨ i = 13 ∨ i = 14 ∨ i = 15 ∨ i = 16 ∨ i = 17 by omega) with rfl | rfl | rfl | rfl | rfl | rfl | rfl | rfl | rfl | rfl | rfl | rfl | rfl | rfl | rfl | rfl | rfl | rfl
      · change some _ = some o at ho
        cases ho
        simp only [NxrMk]
        go_simp
        exact hK _ _ ⟨pb, z0, z1, z2, zq, zf, by simp only [NxrMk, sld_set hlt, reduceIte, Nat.reduceEqDiff]; try rfl, (hW.keep hlt (by decide) (by decide) (by decide))⟩
      · change some _ = some o at ho
        cases ho
        have q0 : up L 0 = true := (by first | exact hd { on := 0, ground := .data } (by simp) rfl | exact hd { on := 0, ground := .chain } (by simp) rfl | exact hd { on := 0, ground := .phase } (by simp) rfl)
        simp only [NxrMk, sld_yes q0]
        go_simp
        exact hK _ _ ⟨pb, z0, z1, z2, zq, zf, by simp only [NxrMk, sld_set hlt, sld_yes q0, reduceIte, Nat.reduceEqDiff]; try rfl, (hW.keep hlt (by decide) (by decide) (by decide))⟩
      · change some _ = some o at ho
        cases ho
        have q1 : up L 1 = true := (by first | exact hd { on := 1, ground := .data } (by simp) rfl | exact hd { on := 1, ground := .chain } (by simp) rfl | exact hd { on := 1, ground := .phase } (by simp) rfl)
        simp only [NxrMk, sld_yes q1]
        go_simp
        exact hK _ _ ⟨pb, z0, z1, z2, zq, zf, by simp only [NxrMk, sld_set hlt, sld_yes q1, reduceIte, Nat.reduceEqDiff]; try rfl, (hW.keep hlt (by decide) (by decide) (by decide))⟩
      · change some _ = some o at ho
        cases ho
        have q2 : up L 2 = true := (by first | exact hd { on := 2, ground := .data } (by simp) rfl | exact hd { on := 2, ground := .chain } (by simp) rfl | exact hd { on := 2, ground := .phase } (by simp) rfl)
        have kj := k0.out _ hW.1
        simp only [NxrMk, sld_yes q2]
        go_simp
        exact hK _ _ ⟨pb, z0, z1, z2, zq, zf, by simp only [NxrMk, sld_set hlt, sld_yes q2, reduceIte, Nat.reduceEqDiff]; try rfl, (hW.keep hlt (by decide) (by decide) (by decide))⟩
      · change some _ = some o at ho
        cases ho
        simp only [NxrMk]
        go_simp
        exact hK _ _ ⟨pb, z0, z1, z2, zq, zf, by simp only [NxrMk, sld_set hlt, reduceIte, Nat.reduceEqDiff]; try rfl, (hW.keep hlt (by decide) (by decide) (by decide))⟩
      · change some _ = some o at ho
        cases ho
        have q4 : up L 4 = true := (by first | exact hd { on := 4, ground := .data } (by simp) rfl | exact hd { on := 4, ground := .chain } (by simp) rfl | exact hd { on := 4, ground := .phase } (by simp) rfl)
        simp only [NxrMk, sld_yes q4]
        go_simp
        exact hK _ _ ⟨pb, z0, z1, z2, zq, zf, by simp only [NxrMk, sld_set hlt, sld_yes q4, reduceIte, Nat.reduceEqDiff]; try rfl, (hW.keep hlt (by decide) (by decide) (by decide))⟩
      · change some _ = some o at ho
        cases ho
        have q5 : up L 5 = true := (by first | exact hd { on := 5, ground := .data } (by simp) rfl | exact hd { on := 5, ground := .chain } (by simp) rfl | exact hd { on := 5, ground := .phase } (by simp) rfl)
        simp only [NxrMk, sld_yes q5]
        go_simp
        exact hK _ _ ⟨pb, z0, z1, z2, zq, zf, by simp only [NxrMk, sld_set hlt, sld_yes q5, reduceIte, Nat.reduceEqDiff]; try rfl, (hW.keep hlt (by decide) (by decide) (by decide))⟩
      · change some _ = some o at ho
        cases ho
        have q6 : up L 6 = true := (by first | exact hd { on := 6, ground := .data } (by simp) rfl | exact hd { on := 6, ground := .chain } (by simp) rfl | exact hd { on := 6, ground := .phase } (by simp) rfl)
        have kj := k1.out _ hW.1
        simp only [NxrMk, sld_yes q6]
        go_simp
        exact hK _ _ ⟨pb, z0, z1, z2, zq, zf, by simp only [NxrMk, sld_set hlt, sld_yes q6, reduceIte, Nat.reduceEqDiff]; try rfl, (hW.keep hlt (by decide) (by decide) (by decide))⟩
      · change some _ = some o at ho
        cases ho
        have q3 : up L 3 = true := (by first | exact hd { on := 3, ground := .data } (by simp) rfl | exact hd { on := 3, ground := .chain } (by simp) rfl | exact hd { on := 3, ground := .phase } (by simp) rfl)
        have q7 : up L 7 = true := (by first | exact hd { on := 7, ground := .data } (by simp) rfl | exact hd { on := 7, ground := .chain } (by simp) rfl | exact hd { on := 7, ground := .phase } (by simp) rfl)
        simp only [NxrMk, sld_yes q3, sld_yes q7]
        go_simp
        exact hK _ _ ⟨pb, z0, z1, z2, zq, zf, by simp only [NxrMk, sld_set hlt, sld_yes q3, sld_yes q7, reduceIte, Nat.reduceEqDiff]; try rfl, (hW.keep hlt (by decide) (by decide) (by decide))⟩
      · change some _ = some o at ho
        cases ho
        have q8 : up L 8 = true := (by first | exact hd { on := 8, ground := .data } (by simp) rfl | exact hd { on := 8, ground := .chain } (by simp) rfl | exact hd { on := 8, ground := .phase } (by simp) rfl)
        have n10 : up L 10 = false := hC.no nl 10 rfl (by kernel_rfl)
        have n11 : up L 11 = false := hC.no n10 11 rfl (by kernel_rfl)
        have n12 : up L 12 = false := hC.no n10 12 rfl (by kernel_rfl)
        have n13 : up L 13 = false := hC.no n10 13 rfl (by kernel_rfl)
        have n15 : up L 15 = false := hC.no n11 15 rfl (by kernel_rfl)
        have n16 : up L 16 = false := hC.no n12 16 rfl (by kernel_rfl)
        have n17 : up L 17 = false := hC.no n13 17 rfl (by kernel_rfl)
        simp only [NxrMk, sld_yes q8]
        simp only [sld_no n10, sld_no n11, sld_no n12, sld_no n13, sld_no n16, sld_no n17]
        go_simp
        refine (HRT.out _ (HGB.out _ hW.1)).mono ?_
        rintro e z ⟨he, dz⟩
        obtain ⟨b0, b1, b2, bq, bf, rfl, hrel⟩ := HTK.out e he
        go_simp
        exact hK _ _ ⟨pb, b0, b1, b2, bq, bf, by simp only [NxrMk, sld_set hlt, sld_yes q8, sld_no n10, sld_no n11, sld_no n12, sld_no n13, sld_no n16, sld_no n17, reduceIte, Nat.reduceEqDiff]; try rfl, ⟨hW.1.trans (dz.mono hW.1.size), fun _ => hrel, fun qq => by rw [up_set hlt, if_neg (by decide)] at qq; have hp := hW.2.2 qq; rw [n15] at hp; rw [up_set hlt, if_neg (by decide), n15]; exact ⟨hp.1, (dz.block _ (Array.getElem?_eq_some_iff.1 hp.2).1).trans hp.2⟩⟩⟩
      · change some _ = some o at ho
        cases ho
        have q9 : up L 9 = true := (by first | exact hd { on := 9, ground := .data } (by simp) rfl | exact hd { on := 9, ground := .chain } (by simp) rfl | exact hd { on := 9, ground := .phase } (by simp) rfl)
        simp only [NxrMk, sld_yes q9]
        go_simp
        exact hK _ _ ⟨pb, z0, z1, z2, zq, zf, by simp only [NxrMk, sld_set hlt, sld_yes q9, reduceIte, Nat.reduceEqDiff]; try rfl, (hW.keep hlt (by decide) (by decide) (by decide))⟩
      · change some _ = some o at ho
        cases ho
        have q10 : up L 10 = true := (by first | exact hd { on := 10, ground := .data } (by simp) rfl | exact hd { on := 10, ground := .chain } (by simp) rfl | exact hd { on := 10, ground := .phase } (by simp) rfl)
        simp only [NxrMk, sld_yes q10]
        go_simp
        exact hK _ _ ⟨pb, z0, z1, z2, zq, zf, by simp only [NxrMk, sld_set hlt, sld_yes q10, reduceIte, Nat.reduceEqDiff]; try rfl, (hW.keep hlt (by decide) (by decide) (by decide))⟩
      · change some _ = some o at ho
        cases ho
        have q10 : up L 10 = true := (by first | exact hd { on := 10, ground := .data } (by simp) rfl | exact hd { on := 10, ground := .chain } (by simp) rfl | exact hd { on := 10, ground := .phase } (by simp) rfl)
        simp only [NxrMk, sld_yes q10]
        go_simp
        exact hK _ _ ⟨pb, z0, z1, z2, zq, zf, by simp only [NxrMk, sld_set hlt, sld_yes q10, reduceIte, Nat.reduceEqDiff]; try rfl, (hW.keep hlt (by decide) (by decide) (by decide))⟩
      · change some _ = some o at ho
        cases ho
        have q10 : up L 10 = true := (by first | exact hd { on := 10, ground := .data } (by simp) rfl | exact hd { on := 10, ground := .chain } (by simp) rfl | exact hd { on := 10, ground := .phase } (by simp) rfl)
        simp only [NxrMk, sld_yes q10]
        go_simp
        exact hK _ _ ⟨pb, z0, z1, z2, zq, zf, by simp only [NxrMk, sld_set hlt, sld_yes q10, reduceIte, Nat.reduceEqDiff]; try rfl, (hW.keep hlt (by decide) (by decide) (by decide))⟩
      · change some _ = some o at ho
        cases ho
        have n15 : up L 15 = false := hC.no nl 15 rfl (by kernel_rfl)
        simp only [NxrMk]
        go_simp
        exact hK _ _ ⟨w.heap.size, z0, z1, z2, zq, zf, by simp only [NxrMk, sld_set hlt, reduceIte, Nat.reduceEqDiff]; try rfl, ⟨hW.1.trans ((below_allocL w _).mono hW.1.size), fun qq => by rw [up_set hlt, if_neg (by decide)] at qq; exact hW.2.1 qq, fun _ => ⟨hW.1.size, by rw [up_set hlt, if_neg (by decide), n15]; exact heap_alloc_new w _⟩⟩⟩
      · change some _ = some o at ho
        cases ho
        have q11 : up L 11 = true := (by first | exact hd { on := 11, ground := .data } (by simp) rfl | exact hd { on := 11, ground := .chain } (by simp) rfl | exact hd { on := 11, ground := .phase } (by simp) rfl)
        have q14 : up L 14 = true := (by first | exact hd { on := 14, ground := .data } (by simp) rfl | exact hd { on := 14, ground := .chain } (by simp) rfl | exact hd { on := 14, ground := .phase } (by simp) rfl)
        have hp := hW.2.2 q14
        rw [nl] at hp
        simp only [NxrMk, sld_yes q11, sld_yes q14]
        rw [if_pos (by rfl)]
        refine wp_store_row 34 _ _ rfl pb _ rfl rfl 34 #[.int .i64 0, .string ⟨#[]⟩, .int .i64 0, .int .i64 0, .int .i64 0] hp.2 (by kernel_rfl) rfl (by kernel_rfl) ?_
        exact hK _ _ ⟨pb, z0, z1, z2, zq, zf, by simp only [NxrMk, sld_set hlt, sld_yes q11, sld_yes q14, reduceIte, Nat.reduceEqDiff]; try rfl, ⟨below_setRow hW.1 hp.1 _, fun qq => by rw [up_set hlt, if_neg (by decide)] at qq; exact hW.2.1 qq, fun _ => ⟨hp.1, by rw [up_set hlt, if_pos rfl]; exact setRow_heap _ _ _ _ _ _ hp.2⟩⟩⟩
      · change some _ = some o at ho
        cases ho
        have q12 : up L 12 = true := (by first | exact hd { on := 12, ground := .data } (by simp) rfl | exact hd { on := 12, ground := .chain } (by simp) rfl | exact hd { on := 12, ground := .phase } (by simp) rfl)
        simp only [NxrMk, sld_yes q12]
        go_simp
        exact hK _ _ ⟨pb, z0, z1, z2, zq, zf, by simp only [NxrMk, sld_set hlt, sld_yes q12, reduceIte, Nat.reduceEqDiff]; try rfl, (hW.keep hlt (by decide) (by decide) (by decide))⟩
      · change some _ = some o at ho
        cases ho
        have q13 : up L 13 = true := (by first | exact hd { on := 13, ground := .data } (by simp) rfl | exact hd { on := 13, ground := .chain } (by simp) rfl | exact hd { on := 13, ground := .phase } (by simp) rfl)
        simp only [NxrMk, sld_yes q13]
        go_simp
        exact hK _ _ ⟨pb, z0, z1, z2, zq, zf, by simp only [NxrMk, sld_set hlt, sld_yes q13, reduceIte, Nat.reduceEqDiff]; try rfl, (hW.keep hlt (by decide) (by decide) (by decide))⟩
    case done =>
      rintro L act u4 ⟨pb, z0, z1, z2, zq, zf, rfl, hW⟩ hall
      obtain ⟨dd, hr, h14⟩ := hW
      replace hr := hr (hall 9 (by decide))
      replace h14 := h14 (hall 14 (by decide))
      rw [hall 15 (by decide)] at h14
      simp only [NxrMk, sld_yes (hall 0 (by decide)), sld_yes (hall 1 (by decide)), sld_yes (hall 2 (by decide)), sld_yes (hall 3 (by decide)), sld_yes (hall 4 (by decide)), sld_yes (hall 5 (by decide)), sld_yes (hall 6 (by decide)), sld_yes (hall 7 (by decide)), sld_yes (hall 8 (by decide)), sld_yes (hall 9 (by decide)), sld_yes (hall 10 (by decide)), sld_yes (hall 11 (by decide)), sld_yes (hall 12 (by decide)), sld_yes (hall 13 (by decide)), sld_yes (hall 14 (by decide)), sld_yes (hall 16 (by decide)), sld_yes (hall 17 (by decide))]
      go_wp2_with fail
      go_meet
      exact ⟨pb, z0, z1, z2, zq, zf, rfl, rfl, rfl, h14.1, h14.2, dd, hr⟩
  case rest =>
  obtain ⟨T, z0, z1, z2, zq, zf, rfl, rfl, rfl, hT1, hT2, hT3, htr⟩ := hcut
  obtain ⟨Y, hY⟩ : ∃ Y, Y = wc := ⟨_, rfl⟩
  rw [← hY] at hT2 hT3 ⊢
  have HT : Hid (Y.heap[T]? = some (.cells #[.int .i64 z0, .string z1, .int .i64 z2, .int .i64 0, .int .i64 0] 34 (0, 0))) := hT2
  have BY : Hid (Below U.heap.size U Y) := BV.out.trans (hT3.mono BV.out.size)
  have HPY : Hid (Y.heap[P]? = some (.cells #[.int .i64 0, .string ⟨#[]⟩, .int .i64 0, .int .i64 A, .int .i64 B] 34 (0, 0))) := (BY.out.block P HPU.out).trans HP.out
  have HRY : Hid (Y.heap[w.heap.size]? = some (.cells #[.int .i64 0, .string ⟨#[]⟩, .int .i64 0, .int .i64 0, .int .i64 0] 34 (0, 0))) := (BY.out.block _ (by have := HPU.out; omega)).trans HR2.out
  have HSTY : Hid (LxSt g s j Y) := HST2.out.keep BY.out
  have HOXY : Hid (OnlyX g w Y) := HOX2.out.trans (OnlyX.of_below BY.out)
  have hTP : P < T := by have := HPU.out; have := BV.out.size; omega
  have HTY : Hid (T < Y.heap.size) := (Array.getElem?_eq_some_iff.1 hT2).1
  clear hY hT1 hT2 hT3 d0 d1 HGV BV HRT HTO HGD HP HR2 HST2 HOX2 HE2 HPU HE HL BY
  rcases htr with ⟨hf, htf⟩ | ⟨rfl, n, htf, hq⟩
  · have ef : (zf != 0) = true := by simpa using hf
    have HTF : Hid (Pl.tokF s j = .error zf) := htf
    clear hf htf
    go_wp2_with (first | (refine wpList_load_row rfl 34 _ rfl P ?hx 34 #[.int .i64 0, .string ⟨#[]⟩, .int .i64 0, .int .i64 A, .int .i64 B] (0, 0) _ ?hg Tryz.underlying34 ?hd ?hi ?_; (case hx => rfl); (case hg => exact HPY.out); (case hd => rfl); (case hi => kernel_rfl)) | (refine wpList_store_row rfl 34 _ _ rfl w.heap.size #[.int .i64 0, .string ⟨#[]⟩, .int .i64 0, .int .i64 A, .int .i64 B] ?hx ?hy 34 #[.int .i64 0, .string ⟨#[]⟩, .int .i64 0, .int .i64 0, .int .i64 0] ?hg ?hi ?ho ?h1 ?_; (case hx => rfl); (case hy => rfl); (case hg => exact HRY.out); (case hi => kernel_rfl); (case ho => kernel_rfl); (case h1 => kernel_rfl)))
    refine bodyPost_ret (v := .tuple #[.agg #[.int .i64 0, .string ⟨#[]⟩, .int .i64 0, .int .i64 A, .int .i64 B], .int .i64 zf]) ?hr ?hdf ?hQQ
    case hr =>
      refine results_ctL Tryz.results49 _ _ (w.heap.size) 34 #[.int .i64 0, .string ⟨#[]⟩, .int .i64 0, .int .i64 A, .int .i64 B] (0, 0) _ (.int .i64 zf) ?hp ?hq ?hg Tryz.underlying34 ?hd ?hi
      case hp => rfl
      case hq => rfl
      case hg => exact setRow_heap _ _ _ _ _ _ HRY.out
      case hd => rfl
      case hi => kernel_rfl
    case hdf => rfl
    case hQQ => exact ⟨j, true, HS.out, HOXY.out.setRow (Nat.le_refl _), .inr (.inr (.inl ⟨rfl, hjs, zf, HTF.out, by rw [HAA.out, HBB.out], lx_row HSTY.out (by omega)⟩))⟩
  obtain ⟨⟨hn1, hn2⟩, _⟩ := Pl.tokF_n hjs htf
  obtain ⟨m, rfl⟩ : ∃ m, n = j + m := ⟨n - j, by omega⟩
  obtain rfl : zq = (m : Int) := by omega
  have HTF : Hid (Pl.tokF s j = .ok (z0, z1, z2, j + m)) := htf
  have HPA : Hid (∀ u : World, LxSt g s j u → Calls Tryz.prog 62 #[.pointer (some ⟨g, 0, none⟩), .int .i64 m] u fun e w' => (∃ v, e = .returned v) ∧ LxSt g s (j + m) w' ∧ OnlyX g u w') := fun u hu => pass_is g s hs j m hn2 u hu
  clear htf hq hn1 hn2
  go_wp2_with fail
  refine (HPA.out _ HSTY.out).mono ?_
  rintro e u5 ⟨⟨v5, rfl⟩, hst5, hox5⟩
  have hT5 : u5.heap[T]? = some (.cells #[.int .i64 z0, .string z1, .int .i64 z2, .int .i64 0, .int .i64 0] 34 (0, 0)) := (hox5.block T HTY.out (by omega)).trans HT.out
  have hP5 : u5.heap[P]? = some (.cells #[.int .i64 0, .string ⟨#[]⟩, .int .i64 0, .int .i64 A, .int .i64 B] 34 (0, 0)) := (hox5.block P (by have := HTY.out; omega) (by omega)).trans HPY.out
  have HT5 : Hid (u5.heap[T]? = some (.cells #[.int .i64 z0, .string z1, .int .i64 z2, .int .i64 0, .int .i64 0] 34 (0, 0))) := hT5
  have HR5 : Hid (u5.heap[w.heap.size]? = some (.cells #[.int .i64 0, .string ⟨#[]⟩, .int .i64 0, .int .i64 0, .int .i64 0] 34 (0, 0))) := (hox5.block _ (by have := HTY.out; omega) (by omega)).trans HRY.out
  have HOX5 : Hid (OnlyX g w u5) := HOXY.out.trans hox5
  have HST5 : Hid (LxSt g s (j + m) u5) := hst5
  have e3 : u5.cell? ⟨P, 3, none⟩ = some (.int .i64 A) := cell_of_row u5 P 3 _ 34 (0, 0) hP5
  have e4 : u5.cell? ⟨P, 4, none⟩ = some (.int .i64 B) := cell_of_row u5 P 4 _ 34 (0, 0) hP5
  have t3 : u5.cell? ⟨T, 3, none⟩ = some (.int .i64 0) := cell_of_row u5 T 3 _ 34 (0, 0) hT5
  have t4 : u5.cell? ⟨T, 4, none⟩ = some (.int .i64 0) := cell_of_row u5 T 4 _ 34 (0, 0) hT5
  have f3 : u5.frozen? ⟨T, 3, none⟩ = false := frozen_of_row u5 T 3 _ 34 hT5
  have f4 : u5.frozen? ⟨T, 4, none⟩ = false := frozen_of_row u5 T 4 _ 34 hT5
  have hPT : P ≠ T := by omega
  have HTP : Hid (w.heap.size < T) := by show w.heap.size < T; omega
  clear hst5 hox5 hT5 hP5 HT HPY HRY HSTY HOXY HTY HPA
  go_upto_region 11 with fail
  go_cut [] (fun wx => wx.heap[T]? = some (.cells #[.int .i64 z0, .string z1, .int .i64 z2, .int .i64 A, .int .i64 B] 34 (0, 0)) ∧ OnlyX T u5 wx)
  case first =>
    go_region
    all_goals
      go_wp2_with fail
      go_meet
      refine ⟨?_, ?_⟩
      · first | exact heap_setCell_same _ T 4 _ 34 _ (heap_setCell_same _ T 3 _ 34 _ HT5.out) | exact heap_setCell_same _ T 3 _ 34 _ (heap_setCell_same _ T 4 _ 34 _ HT5.out)
      · repeat (first | exact OnlyX.refl _ _ | refine OnlyX.setCell ?_ _ _ | refine OnlyX.drewN ?_ _ | refine OnlyX.drew ?_)
  case rest =>
  obtain ⟨hT6, hox6⟩ := hcut
  obtain ⟨Z, hZ⟩ : ∃ Z, Z = wc := ⟨_, rfl⟩
  rw [← hZ] at hT6 hox6 ⊢
  have HT6 : Hid (Z.heap[T]? = some (.cells #[.int .i64 z0, .string z1, .int .i64 z2, .int .i64 A, .int .i64 B] 34 (0, 0))) := hT6
  have hw5 : w.heap.size < u5.heap.size := (Array.getElem?_eq_some_iff.1 HR5.out).1
  have HR6 : Hid (Z.heap[w.heap.size]? = some (.cells #[.int .i64 0, .string ⟨#[]⟩, .int .i64 0, .int .i64 0, .int .i64 0] 34 (0, 0))) := (hox6.block _ hw5 (by have := HTP.out; omega)).trans HR5.out
  have HST6 : Hid (LxSt g s (j + m) Z) := (hox6.block g (by omega) (by omega)).trans HST5.out
  have HOX6 : Hid (OnlyX g w Z) := HOX5.out.dodge hox6 (by have := HTP.out; omega)
  clear hT6 hox6 hZ HT5 HR5 HOX5 HST5 e3 e4 t3 t4 f3 f4 hw5
  go_wp2_with (first | (refine wpList_load_row rfl 34 _ rfl T ?hx 34 #[.int .i64 z0, .string z1, .int .i64 z2, .int .i64 A, .int .i64 B] (0, 0) _ ?hg Tryz.underlying34 ?hd ?hi ?_; (case hx => rfl); (case hg => exact HT6.out); (case hd => rfl); (case hi => kernel_rfl)) | (refine wpList_store_row rfl 34 _ _ rfl w.heap.size #[.int .i64 z0, .string z1, .int .i64 z2, .int .i64 A, .int .i64 B] ?hx ?hy 34 #[.int .i64 0, .string ⟨#[]⟩, .int .i64 0, .int .i64 0, .int .i64 0] ?hg ?hi ?ho ?h1 ?_; (case hx => rfl); (case hy => rfl); (case hg => exact HR6.out); (case hi => kernel_rfl); (case ho => kernel_rfl); (case h1 => kernel_rfl)))
  refine bodyPost_ret (v := .tuple #[.agg #[.int .i64 z0, .string z1, .int .i64 z2, .int .i64 A, .int .i64 B], .int .i64 0]) ?hr ?hdf ?hQQ
  case hr =>
    refine results_ctL Tryz.results49 _ _ (w.heap.size) 34 #[.int .i64 z0, .string z1, .int .i64 z2, .int .i64 A, .int .i64 B] (0, 0) _ (.int .i64 0) ?hp ?hq ?hg Tryz.underlying34 ?hd ?hi
    case hp => rfl
    case hq => rfl
    case hg => exact setRow_heap _ _ _ _ _ _ HR6.out
    case hd => rfl
    case hi => kernel_rfl
  case hdf => rfl
  case hQQ => exact ⟨j, true, HS.out, HOX6.out.setRow (Nat.le_refl _), .inr (.inr (.inr ⟨rfl, hjs, z0, z1, z2, j + m, HTF.out, by rw [HAA.out, HBB.out], lx_row HST6.out (by omega)⟩))⟩
end Go.Proofs.YtdplfflkmphpbaaGreatDoor.W
