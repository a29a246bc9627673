import Derived.Test.YtdplfflkmphpbaaGreatDoorP10
import Derived.Test.YtdplfflkmphpbaaGreatDoorP08
set_option linter.unusedVariables false
set_option linter.unusedSimpArgs false
namespace Go.Proofs.YtdplfflkmphpbaaGreatDoor.W
open Go.RowKit
section
variable {P : Program} {ops : Array Oper} {Q : Exit → Act → World → Prop} {md : Region.Mode}
def acycM (md : Region.Mode) (ops : Array Oper) : Bool := (List.range ops.size).all fun i => ((ops[i]?).map fun o => o.after.all fun e => !Region.binds md e || decide (e.on < i)).getD true
theorem acycM_of (h : acycM md ops = true) {i : Nat} {o : Oper} (ho : ops[i]? = some o) : ∀ e ∈ o.after, Region.binds md e = true → e.on < i := by
  unfold acycM at h
  rw [List.all_eq_true] at h
  have h1 := h i (List.mem_range.2 (Array.getElem?_eq_some_iff.1 ho).1)
  rw [ho] at h1
  simp only [Option.map_some, Option.getD_some] at h1
  intro e he hb
  have h2 := Array.all_eq_true_iff_forall_mem.1 h1 e he
  rw [hb] at h2
  simpa using h2
theorem ready_nil_allM (hac : acycM md ops = true) {L : Array Bool} (hs : L.size = ops.size) (hr : Region.ready md ops L = []) : ∀ i, i < ops.size → L.getD i true = true := by
  intro i
  induction i using Nat.strongRecOn with
  | ind i ih =>
    intro hi
    cases hb : L.getD i true with
    | true => rfl
    | false =>
      exfalso
      have hm : i ∈ Region.ready md ops L := mem_ready.2 ⟨hb, ops[i], Array.getElem?_eq_getElem hi, fun e he hbe => by
        have hlt := acycM_of hac (Array.getElem?_eq_getElem hi) e he hbe
        have h1 := ih e.on hlt (by omega)
        have h2 : e.on < L.size := by omega
        simp [h2] at h1 ⊢
        exact h1⟩
      rw [hr] at hm
      cases hm
theorem wpAny_inm (I : Array Bool → Act → World → Prop)
    (hdone : ∀ L a w, I L a w → (∀ i, i < ops.size → up L i = true) → Q .normal a w)
    (hac : acycM md ops = true)
    (hstep : ∀ (L : Array Bool) (a : Act) (w : World) (i : Nat) (o : Oper), I L a w → i < L.size → L.size = ops.size → up L i = false → Clo md ops L → (∀ e ∈ o.after, Region.binds md e = true → up L e.on = true) → ops[i]? = some o → ∀ K : Act → World → Prop, (∀ a w, I (L.setIfInBounds i true) a w → K a w) → if Region.wanted o (yielded ops a.tmps) = true then Oper.wp P o a w K Q else K (a.put o.dst undef) w)
    (fuel n : Nat) (a : Act) (w : World) (hn : n = ops.size) (hI : I (Array.replicate n false) a w) (hf : n ≤ fuel) : wpAny P md ops Q fuel (Array.replicate n false) a w := by
  refine wpAny_inv (fun L a w => I L a w ∧ Clo md ops L ∧ L.size = ops.size) (fun L a w h hs ha => hdone L a w h.1 fun i hi => up_of (ha i hi) (by omega)) (fun L hs hr => ready_nil_allM hac hs hr) (fun L a w i o h hs hi ho K hK => ?_) fuel _ a w ⟨hI, ?_, by simp [hn]⟩ (by simp [hn]) ?_
  · obtain ⟨h0, o', ho', hd⟩ := mem_ready.1 hi
    rw [ho] at ho'
    cases ho'
    have hlt : i < L.size := by rw [hs]; exact (Array.getElem?_eq_some_iff.1 ho).1
    have hd' : ∀ e ∈ o.after, Region.binds md e = true → up L e.on = true := hd
    refine hstep L a w i o h.1 hlt hs (up_false h0) h.2.1 hd' ho K fun a' w' h' => hK a' w' ⟨h', fun j oj hoj hj e he hb => ?_, by simpa using hs⟩
    rw [up_set hlt] at hj
    by_cases q : i = j
    · subst q
      rw [ho] at hoj
      cases hoj
      exact up_mono hlt (hd' e he hb)
    · rw [if_neg q] at hj
      exact up_mono hlt (h.2.1 j oj hoj hj e he hb)
  · intro j o ho hj
    rw [up_init] at hj
    cases hj
  · have : ∀ k : Nat, unl (List.replicate k false) = k := fun k => by
      induction k with
      | zero => rfl
      | succ k ih => show unl (false :: List.replicate k false) = k + 1; unfold unl at ih ⊢; rw [List.map_cons, List.sum_cons, ih]; simp; omega
    rw [Array.toList_replicate, this]
    exact hf
end
end Go.Proofs.YtdplfflkmphpbaaGreatDoor.W
namespace Go.Proofs.YtdplfflkmphpbaaGreatDoor.W
open Go.RowKit
set_option maxRecDepth 8000 in
set_option maxHeartbeats 4000000 in
theorem isKey_is (s : ByteArray) (w : World) : Calls Tryz.prog 86 #[.string s] w fun e w' => e = .returned (.bool (Pl.isK s)) ∧ w' = w := by
  have HE : Hid (Pl.isK s = (Pl.kyB.any fun r => s.toList == r)) := rfl
  go_enter Tryz.func86, Tryz.ntmps86
  go_wp2
  all_goals (go_ret; refine ⟨ret_bool ?_, rfl⟩; rw [HE.out]; simp only [Pl.kyB, List.any_cons, List.any_nil]; simp_all)
theorem inWordR_is (c : Int) (w : World) : Calls Tryz.prog 84 #[.int .i32 c] w fun e w' => e = .returned (.bool (Pl.wch c)) ∧ w' = w := by
  cases hd : Pl.dg c
  · have hn : ¬ (48 ≤ c ∧ c ≤ 57) := by simpa [Pl.dg] using hd
    go_enter Tryz.func84, Tryz.ntmps84
    go_wp2_with (go_at_call 109; refine (isDigitR_is _ _).mono ?_; rintro e u1 ⟨rfl, rfl⟩; rw [hd])
    all_goals (go_ret; refine ⟨ret_bool ?_, rfl⟩; rw [Bool.eq_iff_iff]; simp [Pl.dg, Pl.lt, Pl.wch] <;> omega)
  · have hn : 48 ≤ c ∧ c ≤ 57 := by simpa [Pl.dg] using hd
    go_enter Tryz.func84, Tryz.ntmps84
    go_wp2_with (go_at_call 109; refine (isDigitR_is _ _).mono ?_; rintro e u1 ⟨rfl, rfl⟩; rw [hd])
    all_goals (go_ret; refine ⟨ret_bool ?_, rfl⟩; rw [Bool.eq_iff_iff]; simp [Pl.dg, Pl.lt, Pl.wch] <;> omega)
theorem wch_highL (c : Int) (h : 128 ≤ c) : Pl.wch c = false := by
  rw [Bool.eq_false_iff]
  simp [Pl.wch, Pl.lt, Pl.dg]
  omega
theorem wch_decodeL (s : ByteArray) (pos : Nat) (h : pos < s.size) : Pl.wch ((Utf8.decode s pos).1 : Nat) = Pl.wch (Pl.byt s pos) := by
  by_cases ha : (s[pos]'h).toNat < 128
  · rw [decode_ascii s pos h ha, ← Pl.byt_get s pos h]
  · rw [wch_highL _ (by have := (decode_high s pos h (by omega)).1; omega), wch_highL _ (by rw [← Pl.byt_get s pos h]; omega)]
theorem step_decodeL (s : ByteArray) (pos : Nat) (h : pos < s.size) (hw : Pl.wch (Pl.byt s pos) = true) : (Utf8.decode s pos).2 = 1 := by
  by_cases ha : (s[pos]'h).toNat < 128
  · rw [decode_ascii s pos h ha]
  · rw [wch_highL _ (by rw [← Pl.byt_get s pos h]; omega)] at hw
    cases hw
set_option maxRecDepth 100000 in
set_option maxHeartbeats 2000000 in
theorem wordOf_is (s : ByteArray) (hs : s.size ≤ 9223372036854775807) (w : World) : Calls Tryz.prog 71 #[.string s] w fun e w' => e = .returned (.string (s.extract 0 (Pl.run Pl.wch s))) ∧ Below w.heap.size w w' := by
  go_enter Tryz.func71, Tryz.ntmps71
  go_wp2
  go_loopw [3] (fun _ w' => ∃ pos : Nat, pos ≤ s.size ∧ w' = w.iter s pos ∧ (∀ j, j < pos → Pl.wch (Pl.byt s j) = true)) (fun _ w' => s.size - w'.iterPos w.heap.size)
  case atStart => exact ⟨0, Nat.zero_le _, rfl, fun j hj => absurd hj (Nat.not_lt_zero _)⟩
  case round =>
    obtain ⟨pos, hps, rfl, hall⟩ := hrel
    have HA : Hid (∀ j, j < pos → Pl.wch (Pl.byt s j) = true) := hall
    clear hall
    by_cases hp : pos < s.size
    · have hnx : ∀ ty, (Instr.next (.pointer (some ⟨w.heap.size, 0, none⟩)) true ty).run Tryz.prog (w.iter s pos) = _ := fun ty => run_next_any w s pos ty hp
      have hpi : (pos : Int) ≤ (s.size : Int) := by omega
      cases hc : Pl.wch (Pl.byt s pos)
      · have HR : Hid (Pl.run Pl.wch s = pos) := Pl.run_eq ⟨hps, HA.out, .inr hc⟩
        go_wp2_with (go_at_call 84; refine (inWordR_is _ _).mono ?_; rintro e u1 ⟨rfl, rfl⟩; rw [wch_decodeL s pos hp, hc])
        go_ret
        exact ⟨by rw [HR.out]; rfl, below_iterL _ _ _⟩
      · have hd2 := step_decodeL s pos hp hc
        have HD : Hid ((Utf8.decode s pos).2 = 1) := hd2
        clear hd2
        go_wp2_with (go_at_call 84; refine (inWordR_is _ _).mono ?_; rintro e u1 ⟨rfl, rfl⟩; rw [wch_decodeL s pos hp, hc])
        go_roundw
        case rel => exact ⟨pos + 1, by omega, by rw [HD.out], fun j hj => by
          by_cases e : j = pos
          · rw [e]; exact hc
          · exact HA.out j (by omega)⟩
        case measure => rw [HD.out]; simp; omega
    · have hnx : ∀ ty, (Instr.next (.pointer (some ⟨w.heap.size, 0, none⟩)) true ty).run Tryz.prog (w.iter s pos) = _ := fun ty => run_next_end w s pos ty hp
      have HR : Hid (Pl.run Pl.wch s = s.size) := Pl.run_eq ⟨Nat.le_refl _, by rw [show s.size = pos by omega]; exact HA.out, .inl rfl⟩
      go_wp2
      go_ret
      exact ⟨by rw [HR.out]; simp, below_iterL _ _ _⟩
def WrdI (s : ByteArray) (e : Ending) : Prop := match Pl.wrdR s with
  | .ok (k, S, N) => e = .returned (.tuple #[.agg #[.int .i64 k, .string S, .int .i64 N, .int .i64 0, .int .i64 0], .int .i64 0])
  | .error f => e = .returned (.tuple #[.agg #[.int .i64 0, .string ⟨#[]⟩, .int .i64 0, .int .i64 0, .int .i64 0], .int .i64 f])
theorem wrdi_no {s : ByteArray} {f : Int} (h : Pl.wrdR s = .error f) : WrdI s (.returned (.tuple #[.agg #[.int .i64 0, .string ⟨#[]⟩, .int .i64 0, .int .i64 0, .int .i64 0], .int .i64 f])) := by unfold WrdI; rw [h]
theorem wrdi_ok {s S : ByteArray} {k N : Int} (h : Pl.wrdR s = .ok (k, S, N)) : WrdI s (.returned (.tuple #[.agg #[.int .i64 k, .string S, .int .i64 N, .int .i64 0, .int .i64 0], .int .i64 0])) := by unfold WrdI; rw [h]
set_option maxHeartbeats 4000000 in
set_option maxRecDepth 100000 in
theorem readWord_is (s : ByteArray) (hpos : 0 < s.size) (hs : s.size ≤ 1048576) (w : World) (hE : Glo w) : Calls Tryz.prog 72 #[.string s] w fun e w' => WrdI s e ∧ Below w.heap.size w w' := by
  have HE : Hid (Glo w) := hE
  clear hE
  cases hd : Pl.dg (Pl.byt s 0)
  · by_cases hb : (40 : Int) < (s.size : Int)
    · have HR : Hid (Pl.wrdR s = .error 8) := by show Pl.wrdR s = _; unfold Pl.wrdR; rw [hd, if_neg (by decide), if_pos (by omega)]
      go_enter Tryz.func72, Tryz.ntmps72
      go_wp2_with (go_at_call 83; refine (isDigit_any _ _).mono ?_; rintro e u1 ⟨rfl, rfl⟩; rw [Pl.byt_get s 0 hpos, hd])
      exact bodyPost_ret (v := .tuple #[.agg #[.int .i64 0, .string ⟨#[]⟩, .int .i64 0, .int .i64 0, .int .i64 0], .int .i64 8]) (by simp [results, Tryz.results72, go_sem]) rfl ⟨wrdi_no HR.out, below_allocL _ _⟩
    · cases hk : Pl.isK s
      · have HR : Hid (Pl.wrdR s = .ok (1, s, 0)) := by show Pl.wrdR s = _; unfold Pl.wrdR; rw [hd, if_neg (by decide), if_neg (by omega), hk]; rfl
        go_enter Tryz.func72, Tryz.ntmps72
        go_wp2_with (first | (go_at_call 83; refine (isDigit_any _ _).mono ?_; rintro e u1 ⟨rfl, rfl⟩; rw [Pl.byt_get s 0 hpos, hd]) | (go_at_call 86; refine (isKey_is s _).mono ?_; rintro e u1 ⟨rfl, rfl⟩; rw [hk]))
        exact bodyPost_ret (v := .tuple #[.agg #[.int .i64 1, .string s, .int .i64 0, .int .i64 0, .int .i64 0], .int .i64 0]) (by simp [results, Tryz.results72, go_sem]) rfl ⟨wrdi_ok HR.out, below_allocL _ _⟩
      · have HR : Hid (Pl.wrdR s = .ok (2, s, 0)) := by show Pl.wrdR s = _; unfold Pl.wrdR; rw [hd, if_neg (by decide), if_neg (by omega), hk]; rfl
        go_enter Tryz.func72, Tryz.ntmps72
        go_wp2_with (first | (go_at_call 83; refine (isDigit_any _ _).mono ?_; rintro e u1 ⟨rfl, rfl⟩; rw [Pl.byt_get s 0 hpos, hd]) | (go_at_call 86; refine (isKey_is s _).mono ?_; rintro e u1 ⟨rfl, rfl⟩; rw [hk]))
        exact bodyPost_ret (v := .tuple #[.agg #[.int .i64 2, .string s, .int .i64 0, .int .i64 0, .int .i64 0], .int .i64 0]) (by simp [results, Tryz.results72, go_sem]) rfl ⟨wrdi_ok HR.out, below_allocL _ _⟩
  · have HR : Hid (Pl.wrdR s = (match Pl.intR s with | .error f => .error f | .ok (S, N) => .ok (3, S, N))) := by show Pl.wrdR s = _; unfold Pl.wrdR; rw [if_pos hd]; rfl
    go_enter Tryz.func72, Tryz.ntmps72
    go_wp2_with (go_at_call 83; refine (isDigit_any _ _).mono ?_; rintro e u1 ⟨rfl, ek⟩; rw [ek]; clear ek; rw [Pl.byt_get s 0 hpos, hd])
    refine (readInteger_is s hpos hd hs _ (HE.out.on (below_allocL w _))).mono ?_
    rintro e u2 ⟨hi, g2⟩
    have Q2 : Hid (u2.heap[w.heap.size]? = some (.cells #[.int .i64 0, .string ⟨#[]⟩, .int .i64 0, .int .i64 0, .int .i64 0] 34 (0, 0))) := (g2.block w.heap.size (by simp)).trans (heap_alloc_new w _)
    have B2 : Hid (Below w.heap.size w u2) := (below_allocL w _).trans (g2.mono (by simp))
    clear g2
    unfold IntI at hi
    cases hq : Pl.intR s with
    | error f =>
      rw [hq] at hi
      subst hi
      have HR2 : Hid (Pl.wrdR s = .error f) := by show Pl.wrdR s = _; rw [HR.out, hq]
      clear HR hq
      go_wp2_with (refine wpList_store_row rfl 34 _ _ rfl w.heap.size #[.int .i64 0, .string ⟨#[]⟩, .int .i64 0, .int .i64 0, .int .i64 0] ?hx ?hy 34 #[.int .i64 0, .string ⟨#[]⟩, .int .i64 0, .int .i64 0, .int .i64 0] ?hg ?hi ?ho ?h1 ?_; (case hx => rfl); (case hy => rfl); (case hg => exact Q2.out); (case hi => kernel_rfl); (case ho => kernel_rfl); (case h1 => kernel_rfl))
      refine bodyPost_ret (v := .tuple #[.agg #[.int .i64 0, .string ⟨#[]⟩, .int .i64 0, .int .i64 0, .int .i64 0], .int .i64 f]) ?hr ?hdf ?hQQ
      case hr =>
        refine results_ctL Tryz.results72 _ _ (w.heap.size) 34 #[.int .i64 0, .string ⟨#[]⟩, .int .i64 0, .int .i64 0, .int .i64 0] (0, 0) _ (.int .i64 f) ?hp ?hq ?hg Tryz.underlying34 ?hd ?hi
        case hp => rfl
        case hq => rfl
        case hg => exact setRow_heap _ _ _ _ _ _ Q2.out
        case hd => rfl
        case hi => kernel_rfl
      case hdf => rfl
      case hQQ => exact ⟨wrdi_no HR2.out, below_setRow B2.out (Nat.le_refl _) _⟩
    | ok q =>
      obtain ⟨S, n⟩ := q
      rw [hq] at hi
      subst hi
      have HR2 : Hid (Pl.wrdR s = .ok (3, S, n)) := by show Pl.wrdR s = _; rw [HR.out, hq]
      clear HR hq
      go_wp2_with (refine wpList_store_row rfl 34 _ _ rfl w.heap.size #[.int .i64 3, .string S, .int .i64 n, .int .i64 0, .int .i64 0] ?hx ?hy 34 #[.int .i64 0, .string ⟨#[]⟩, .int .i64 0, .int .i64 0, .int .i64 0] ?hg ?hi ?ho ?h1 ?_; (case hx => rfl); (case hy => rfl); (case hg => exact Q2.out); (case hi => kernel_rfl); (case ho => kernel_rfl); (case h1 => kernel_rfl))
      refine bodyPost_ret (v := .tuple #[.agg #[.int .i64 3, .string S, .int .i64 n, .int .i64 0, .int .i64 0], .int .i64 0]) ?hr ?hdf ?hQQ
      case hr =>
        refine results_ctL Tryz.results72 _ _ (w.heap.size) 34 #[.int .i64 3, .string S, .int .i64 n, .int .i64 0, .int .i64 0] (0, 0) _ (.int .i64 0) ?hp ?hq ?hg Tryz.underlying34 ?hd ?hi
        case hp => rfl
        case hq => rfl
        case hg => exact setRow_heap _ _ _ _ _ _ Q2.out
        case hd => rfl
        case hi => kernel_rfl
      case hdf => rfl
      case hQQ => exact ⟨wrdi_ok HR2.out, below_setRow B2.out (Nat.le_refl _) _⟩
end Go.Proofs.YtdplfflkmphpbaaGreatDoor.W
namespace Go.Proofs.YtdplfflkmphpbaaGreatDoor.W
open Go.RowKit
set_option maxRecDepth 8000 in
set_option maxHeartbeats 8000000 in
theorem isSign_is (s : ByteArray) (w : World) : Calls Tryz.prog 87 #[.string s] w fun e w' => e = .returned (.bool (Pl.isS s)) ∧ w' = w := by
  have HE : Hid (Pl.isS s = (Pl.sgB.any fun r => s.toList == r)) := rfl
  go_enter Tryz.func87, Tryz.ntmps87
  go_wp2
  all_goals (go_ret; refine ⟨ret_bool ?_, rfl⟩; rw [HE.out]; simp only [Pl.sgB, List.any_cons, List.any_nil]; simp_all)
theorem sgn_at {t : ByteArray} {k : Nat} (hk : 0 < k) (hk3 : k ≤ 3) (hks : k ≤ t.size) (h : Pl.isS (t.extract 0 k) = true) (hn : ∀ j, k < j → j ≤ 3 → j ≤ t.size → Pl.isS (t.extract 0 j) = false) : Pl.sgn t = k := by
  have h2 := hn 2
  have h3 := hn 3
  unfold Pl.sgn
  have : k = 1 ∨ k = 2 ∨ k = 3 := by omega
  rcases this with rfl | rfl | rfl
  · rw [if_neg (fun q => by rw [h3 (by omega) (by omega) q.1] at q; simp at q), if_neg (fun q => by rw [h2 (by omega) (by omega) q.1] at q; simp at q), if_pos ⟨hks, h⟩]
  · rw [if_neg (fun q => by rw [h3 (by omega) (by omega) q.1] at q; simp at q), if_pos ⟨hks, h⟩]
  · rw [if_pos ⟨hks, h⟩]
theorem sgn_no {t : ByteArray} (hn : ∀ j, 0 < j → j ≤ 3 → j ≤ t.size → Pl.isS (t.extract 0 j) = false) : Pl.sgn t = 0 := by
  unfold Pl.sgn
  rw [if_neg (fun q => by rw [hn 3 (by omega) (by omega) q.1] at q; simp at q), if_neg (fun q => by rw [hn 2 (by omega) (by omega) q.1] at q; simp at q), if_neg (fun q => by rw [hn 1 (by omega) (by omega) q.1] at q; simp at q)]
theorem ext00 (t : ByteArray) : (⟨#[]⟩ : ByteArray) = t.extract 0 0 := by
  refine Pl.ba_ext (by rw [Pl.ext_size]; simp; rfl) fun j hj => absurd hj (Nat.not_lt_zero _)
set_option maxHeartbeats 4000000 in
theorem signOf_is (t : ByteArray) (ht : t.size ≤ 1048576) (w : World) : Calls Tryz.prog 73 #[.string t] w fun e w' => e = .returned (.string (t.extract 0 (Pl.sgn t))) ∧ w' = w := by
  go_enter Tryz.func73, Tryz.ntmps73
  go_wp2
  go_loop [3] (fun x => ∃ k : Nat, k ≤ min t.size 3 ∧ x = .int .i64 k ∧ ∀ j, k < j → j ≤ 3 → j ≤ t.size → Pl.isS (t.extract 0 j) = false) (fun x => (intOf x).toNat)
  case atStart => exact ⟨min t.size 3, Nat.le_refl _, by congr 1; omega, fun j h1 h2 h3 => by omega⟩
  case round =>
    obtain ⟨k, hk, rfl, hall⟩ := hrel
    have HA : Hid (∀ j, k < j → j ≤ 3 → j ≤ t.size → Pl.isS (t.extract 0 j) = false) := hall
    clear hall
    by_cases h0 : 0 < k
    · have h0' : (0 : Int) < k := by omega
      have hkt : (k : Int) ≤ t.size := by omega
      cases hc : Pl.isS (t.extract 0 k)
      · go_wp2_with (go_at_call 87; refine (isSign_is _ _).mono ?_; rintro e u1 ⟨rfl, rfl⟩; rw [hc])
        go_round
        case rel => exact ⟨k - 1, by omega, by congr 1; omega, fun j h1 h2 h3 => by
          by_cases e : j = k
          · rw [e]; exact hc
          · exact HA.out j (by omega) h2 h3⟩
        case measure => simp [intOf]; omega
      · have HR : Hid (Pl.sgn t = k) := sgn_at h0 (by omega) (by omega) hc HA.out
        go_wp2_with (go_at_call 87; refine (isSign_is _ _).mono ?_; rintro e u1 ⟨rfl, rfl⟩; rw [hc])
        go_ret
        exact ⟨by rw [HR.out]; rfl, rfl⟩
    · have hz : k = 0 := by omega
      subst hz
      have HR : Hid (Pl.sgn t = 0) := sgn_no HA.out
      go_wp2
      go_ret
      exact ⟨by rw [HR.out, ← ext00]; rfl, rfl⟩
end Go.Proofs.YtdplfflkmphpbaaGreatDoor.W
namespace Go.Proofs.YtdplfflkmphpbaaGreatDoor.W
open Go.RowKit
theorem results_cttL {P : Program} {fn : Func} {p q r : Tmp} {ty : TypeId} (h : fn.results = #[.cell p ty, .tmp q, .tmp r]) (tmps : Array Value) (w : World) (g : Nat) (t : TypeId) (cs : Array Value) (fr : Nat × Nat) (d : TypeDesc) (v u : Value)
    (hp : tmps.getD p undef = .pointer (some ⟨g, 0, none⟩)) (hq : tmps.getD q undef = v) (hq2 : tmps.getD r undef = u) (hg : w.heap[g]? = some (.cells cs t fr))
    (hu : P.underlying ty = some d) (hd : (match d with | .struct _ | .array _ _ => true | _ => false) = true) (hi : (P.info? ty).map (·.size) = some cs.size) :
    (results fn tmps).run P w = .ok (.tuple #[.agg cs, v, u]) w := by
  have hp' : tmps[p]?.getD undef = .pointer (some ⟨g, 0, none⟩) := by simpa using hp
  have hq' : tmps[q]?.getD undef = v := by simpa using hq
  have hr' : tmps[r]?.getD undef = u := by simpa using hq2
  simp [results, h, hp', hq', hr', asAddr, run_loadVar_row w g t ty cs fr d hg hu hd hi]
def TokI (t : ByteArray) (e : Ending) : Prop := match Pl.tokF t 0 with
  | .ok (k, S, N, n) => e = .returned (.tuple #[.agg #[.int .i64 k, .string S, .int .i64 N, .int .i64 0, .int .i64 0], .int .i64 n, .int .i64 0])
  | .error f => ∃ q : Int, e = .returned (.tuple #[.agg #[.int .i64 0, .string ⟨#[]⟩, .int .i64 0, .int .i64 0, .int .i64 0], .int .i64 q, .int .i64 f])
theorem toki_no {t : ByteArray} {f q : Int} (h : Pl.tokF t 0 = .error f) : TokI t (.returned (.tuple #[.agg #[.int .i64 0, .string ⟨#[]⟩, .int .i64 0, .int .i64 0, .int .i64 0], .int .i64 q, .int .i64 f])) := by unfold TokI; rw [h]; exact ⟨q, rfl⟩
theorem toki_ok {t S : ByteArray} {k N n' : Int} {n : Nat} (h : Pl.tokF t 0 = .ok (k, S, N, n)) (hn : n' = n) : TokI t (.returned (.tuple #[.agg #[.int .i64 k, .string S, .int .i64 N, .int .i64 0, .int .i64 0], .int .i64 n', .int .i64 0])) := by unfold TokI; rw [h, hn]
theorem own_form {w : World} {B : Nat} {v : Value} {bs : List UInt8} (h : w.ownsRow B 5 1 v bs.length (Pl.cl bs)) : ∃ a cap, v = .slice a bs.length cap := by
  rcases h.2 with ⟨rfl, e⟩ | ⟨g, cap, _, rfl, _⟩
  · exact ⟨none, 0, by rw [e]⟩
  · exact ⟨_, _, rfl⟩
theorem own_str {B : Nat} {w : World} {v : Value} {l : List UInt8} (h : w.ownsRow B 5 1 v l.length (Pl.cl l)) : (convert 22 9 v).run Tryz.prog w = .ok (.string ⟨l.toArray⟩) w := by
  rcases h.2 with ⟨rfl, e⟩ | ⟨g, cap, cur, rfl, _⟩
  · have : l = [] := List.length_eq_zero_iff.1 e
    subst this
    exact run_convert_bytes_nil _ 22 5 Tryz.underlying22 Tryz.underlying5 0 0 9 Tryz.underlying9
  · refine run_convert_bytes_back w 22 9 5 ⟨g, 0, none⟩ cap l Tryz.underlying22 Tryz.underlying5 Tryz.underlying9 fun j hj => ?_
    exact h.cells (g := g) rfl j _ (by simp [Pl.cl, List.getElem?_eq_getElem hj])
theorem own_first {B : Nat} {w : World} {a : Option Addr} {cap : Nat} {b : UInt8} (h : w.ownsRow B 5 1 (.slice a 1 cap) 1 (Pl.cl [b])) : ∃ g, a = some ⟨g, 0, none⟩ ∧ w.cell? ⟨g, 0, none⟩ = some (.int .u8 ((b.toNat : Nat) : Int)) := by
  rcases h.2 with ⟨e, e2⟩ | ⟨g, cap', cur, e, _⟩
  · cases e2
  · injection e with e1 e2 e3
    subst e1 e3
    exact ⟨g, rfl, by have := h.cells (g := g) rfl 0 _ (by simp [Pl.cl]; rfl); simpa [Addr.add] using this⟩
set_option maxHeartbeats 4000000 in
set_option maxRecDepth 100000 in
theorem readCharacter_is (t : ByteArray) (ht : t.size ≤ 1048576) (hpos : 0 < t.size) (hm : Pl.byt t 0 = 39) (w : World) (hE : Glo w) : Calls Tryz.prog 68 #[.string t] w fun e w' => TokI t e ∧ Below w.heap.size w w' := by
  have HE : Hid (Glo w) := hE
  have hw : ¬ Pl.wch (Pl.byt t 0) = true := by rw [hm]; decide
  have HT : Hid (Pl.tokF t 0 = (match Pl.quoV t 39 1 with | .error f => .error f | .ok (bs, n) => if bs.length = 1 then .ok (3, ⟨#[99]⟩, Pl.nr 1 ((bs.headD 0).toNat : Int), n) else .error 7)) := by
    show Pl.tokF t 0 = _; unfold Pl.tokF; rw [if_neg hw, if_pos hm]; rfl
  have HQ : Hid (∀ u, Glo u → Calls Tryz.prog 81 #[.string t] u fun e w' => (∃ r, Pl.Quo t 39 1 [] r ∧ QuoSaid u.heap.size r e w') ∧ Below u.heap.size u w') := fun u hu => by
    have := readQuoted_is t ht hpos (.inr hm) u hu
    rw [hm] at this
    exact this
  clear hE hw hm
  go_enter Tryz.func68, Tryz.ntmps68
  go_wp2_with fail
  refine (HQ.out _ (HE.out.on (below_allocL w _))).mono ?_
  rintro e u2 ⟨⟨r, hr, hs⟩, g2⟩
  have Q2 : Hid (u2.heap[w.heap.size]? = some (.cells #[.int .i64 0, .string ⟨#[]⟩, .int .i64 0, .int .i64 0, .int .i64 0] 34 (0, 0))) := (g2.block w.heap.size (by simp)).trans (heap_alloc_new w _)
  have B2 : Hid (Below w.heap.size w u2) := (below_allocL w _).trans (g2.mono (by simp))
  have hz2 : w.heap.size < u2.heap.size := by have := g2.size; simp at this; omega
  have hqv := Pl.quoV_eq hr
  have hf0 := hr.f0
  have hT := HT.out
  rw [hqv] at hT
  clear g2 HQ HT hqv hr
  cases r with
  | error f =>
    have HT : Hid (Pl.tokF t 0 = .error f) := hT
    have hf : f ≠ 0 := hf0 f rfl
    have e1 : (f == 0) = false := by simp [hf]
    have e2 : (f != 0) = true := by simp [hf]
    obtain rfl := hs
    clear hT hf0 hf
    go_wp2_with (refine wpList_store_row rfl 34 _ _ rfl w.heap.size #[.int .i64 0, .string ⟨#[]⟩, .int .i64 0, .int .i64 0, .int .i64 0] ?hx ?hy 34 #[.int .i64 0, .string ⟨#[]⟩, .int .i64 0, .int .i64 0, .int .i64 0] ?hg ?hi ?ho ?h1 ?_; (case hx => rfl); (case hy => rfl); (case hg => exact Q2.out); (case hi => kernel_rfl); (case ho => kernel_rfl); (case h1 => kernel_rfl))
    refine bodyPost_ret (v := .tuple #[.agg #[.int .i64 0, .string ⟨#[]⟩, .int .i64 0, .int .i64 0, .int .i64 0], .int .i64 0, .int .i64 f]) ?hr ?hdf ?hQQ
    case hr =>
      refine results_cttL Tryz.results68 _ _ (w.heap.size) 34 #[.int .i64 0, .string ⟨#[]⟩, .int .i64 0, .int .i64 0, .int .i64 0] (0, 0) _ (.int .i64 0) (.int .i64 f) ?hp ?hq ?hq2 ?hg Tryz.underlying34 ?hd ?hi
      case hp => rfl
      case hq => rfl
      case hq2 => rfl
      case hg => exact setRow_heap _ _ _ _ _ _ Q2.out
      case hd => rfl
      case hi => kernel_rfl
    case hdf => rfl
    case hQQ => exact ⟨toki_no HT.out, below_setRow B2.out (Nat.le_refl _) _⟩
  | ok q =>
    obtain ⟨bs, n⟩ := q
    obtain ⟨v, rfl, ho⟩ := hs
    obtain ⟨a, cap, rfl⟩ := own_form ho
    have hT' : Pl.tokF t 0 = if bs.length = 1 then .ok (3, ⟨#[99]⟩, Pl.nr 1 ((bs.headD 0).toNat : Int), n) else .error 7 := hT
    clear hT hf0
    by_cases hl : bs.length = 1
    · rw [if_pos hl] at hT'
      obtain ⟨b, rfl⟩ : ∃ b, bs = [b] := by
        rcases bs with _ | ⟨b, _ | ⟨c, l⟩⟩
        · cases hl
        · exact ⟨b, rfl⟩
        · simp at hl
      obtain ⟨g, rfl, hc⟩ := own_first ho
      have HT : Hid (Pl.tokF t 0 = .ok (3, ⟨#[99]⟩, Pl.nr 1 ((b.toNat : Nat) : Int), n)) := hT'
      obtain ⟨c, hcc⟩ : ∃ c : Int, c = ((b.toNat : Nat) : Int) := ⟨_, rfl⟩
      rw [← hcc] at hc HT
      have HN : Hid (∀ u, Calls Tryz.prog 82 #[.int .i64 1, .int .i64 c] u fun e w' => e = .returned (.tuple #[.int .i64 (Pl.nr 1 c), .bool true]) ∧ w' = u) := fun u => implNarrow_any 1 c u
      have c0 : 0 ≤ c := by omega
      have c1 : c < 256 := by rw [hcc]; have := b.toNat_lt; omega
      obtain ⟨N, hN⟩ : ∃ N, N = Pl.nr 1 c := ⟨_, rfl⟩
      rw [← hN] at HT HN
      clear hcc hT' hl ho hN
      go_wp2_with (first | (go_at_call 82; refine (HN.out _).mono ?_; rintro e u3 ⟨rfl, hu3⟩; rw [hu3]; clear hu3) | (refine wpList_store_row rfl 34 _ _ rfl w.heap.size #[.int .i64 3, .string ⟨#[99]⟩, .int .i64 N, .int .i64 0, .int .i64 0] ?hx ?hy 34 #[.int .i64 0, .string ⟨#[]⟩, .int .i64 0, .int .i64 0, .int .i64 0] ?hg ?hi ?ho ?h1 ?_; (case hx => rfl); (case hy => rfl); (case hg => exact Q2.out); (case hi => kernel_rfl); (case ho => kernel_rfl); (case h1 => kernel_rfl)))
      refine bodyPost_ret (v := .tuple #[.agg #[.int .i64 3, .string ⟨#[99]⟩, .int .i64 N, .int .i64 0, .int .i64 0], .int .i64 n, .int .i64 0]) ?hr ?hdf ?hQQ
      case hr =>
        refine results_cttL Tryz.results68 _ _ (w.heap.size) 34 #[.int .i64 3, .string ⟨#[99]⟩, .int .i64 N, .int .i64 0, .int .i64 0] (0, 0) _ (.int .i64 n) (.int .i64 0) ?hp ?hq ?hq2 ?hg Tryz.underlying34 ?hd ?hi
        case hp => rfl
        case hq => rfl
        case hq2 => rfl
        case hg => exact setRow_heap _ _ _ _ _ _ Q2.out
        case hd => rfl
        case hi => kernel_rfl
      case hdf => rfl
      case hQQ => exact ⟨toki_ok HT.out rfl, below_setRow B2.out (Nat.le_refl _) _⟩
    · rw [if_neg hl] at hT'
      have HT : Hid (Pl.tokF t 0 = .error 7) := hT'
      have hl2 : ¬ ((bs.length : Int) = 1) := by omega
      have e1 : ((bs.length : Int) == 1) = false := by simp; omega
      have e2 : ((bs.length : Int) != 1) = true := by simp; omega
      clear hT' hl
      go_wp2_with (refine wpList_store_row rfl 34 _ _ rfl w.heap.size #[.int .i64 0, .string ⟨#[]⟩, .int .i64 0, .int .i64 0, .int .i64 0] ?hx ?hy 34 #[.int .i64 0, .string ⟨#[]⟩, .int .i64 0, .int .i64 0, .int .i64 0] ?hg ?hi ?ho ?h1 ?_; (case hx => rfl); (case hy => rfl); (case hg => exact Q2.out); (case hi => kernel_rfl); (case ho => kernel_rfl); (case h1 => kernel_rfl))
      refine bodyPost_ret (v := .tuple #[.agg #[.int .i64 0, .string ⟨#[]⟩, .int .i64 0, .int .i64 0, .int .i64 0], .int .i64 0, .int .i64 7]) ?hr ?hdf ?hQQ
      case hr =>
        refine results_cttL Tryz.results68 _ _ (w.heap.size) 34 #[.int .i64 0, .string ⟨#[]⟩, .int .i64 0, .int .i64 0, .int .i64 0] (0, 0) _ (.int .i64 0) (.int .i64 7) ?hp ?hq ?hq2 ?hg Tryz.underlying34 ?hd ?hi
        case hp => rfl
        case hq => rfl
        case hq2 => rfl
        case hg => exact setRow_heap _ _ _ _ _ _ Q2.out
        case hd => rfl
        case hi => kernel_rfl
      case hdf => rfl
      case hQQ => exact ⟨toki_no HT.out, below_setRow B2.out (Nat.le_refl _) _⟩
set_option maxHeartbeats 4000000 in
set_option maxRecDepth 100000 in
theorem readString_is (t : ByteArray) (ht : t.size ≤ 1048576) (hpos : 0 < t.size) (hm : Pl.byt t 0 = 34) (w : World) (hE : Glo w) : Calls Tryz.prog 69 #[.string t] w fun e w' => TokI t e ∧ Below w.heap.size w w' := by
  have HE : Hid (Glo w) := hE
  have hw : ¬ Pl.wch (Pl.byt t 0) = true := by rw [hm]; decide
  have HT : Hid (Pl.tokF t 0 = (match Pl.quoV t 34 1 with | .error f => .error f | .ok (bs, n) => if 200 < bs.length then .error 8 else .ok (4, ⟨bs.toArray⟩, 0, n))) := by
    show Pl.tokF t 0 = _; unfold Pl.tokF; rw [if_neg hw, if_neg (by rw [hm]; decide), if_pos hm]; rfl
  have HQ : Hid (∀ u, Glo u → Calls Tryz.prog 81 #[.string t] u fun e w' => (∃ r, Pl.Quo t 34 1 [] r ∧ QuoSaid u.heap.size r e w') ∧ Below u.heap.size u w') := fun u hu => by
    have := readQuoted_is t ht hpos (.inl hm) u hu
    rw [hm] at this
    exact this
  clear hE hw hm
  go_enter Tryz.func69, Tryz.ntmps69
  go_wp2_with fail
  refine (HQ.out _ (HE.out.on (below_allocL w _))).mono ?_
  rintro e u2 ⟨⟨r, hr, hs⟩, g2⟩
  have Q2 : Hid (u2.heap[w.heap.size]? = some (.cells #[.int .i64 0, .string ⟨#[]⟩, .int .i64 0, .int .i64 0, .int .i64 0] 34 (0, 0))) := (g2.block w.heap.size (by simp)).trans (heap_alloc_new w _)
  have B2 : Hid (Below w.heap.size w u2) := (below_allocL w _).trans (g2.mono (by simp))
  have hqv := Pl.quoV_eq hr
  have hf0 := hr.f0
  have hT := HT.out
  rw [hqv] at hT
  clear g2 HQ HT hqv hr
  cases r with
  | error f =>
    have HT : Hid (Pl.tokF t 0 = .error f) := hT
    have hf : f ≠ 0 := hf0 f rfl
    have e1 : (f == 0) = false := by simp [hf]
    have e2 : (f != 0) = true := by simp [hf]
    obtain rfl := hs
    clear hT hf0 hf
    go_wp2_with (refine wpList_store_row rfl 34 _ _ rfl w.heap.size #[.int .i64 0, .string ⟨#[]⟩, .int .i64 0, .int .i64 0, .int .i64 0] ?hx ?hy 34 #[.int .i64 0, .string ⟨#[]⟩, .int .i64 0, .int .i64 0, .int .i64 0] ?hg ?hi ?ho ?h1 ?_; (case hx => rfl); (case hy => rfl); (case hg => exact Q2.out); (case hi => kernel_rfl); (case ho => kernel_rfl); (case h1 => kernel_rfl))
    refine bodyPost_ret (v := .tuple #[.agg #[.int .i64 0, .string ⟨#[]⟩, .int .i64 0, .int .i64 0, .int .i64 0], .int .i64 0, .int .i64 f]) ?hr ?hdf ?hQQ
    case hr =>
      refine results_cttL Tryz.results69 _ _ (w.heap.size) 34 #[.int .i64 0, .string ⟨#[]⟩, .int .i64 0, .int .i64 0, .int .i64 0] (0, 0) _ (.int .i64 0) (.int .i64 f) ?hp ?hq ?hq2 ?hg Tryz.underlying34 ?hd ?hi
      case hp => rfl
      case hq => rfl
      case hq2 => rfl
      case hg => exact setRow_heap _ _ _ _ _ _ Q2.out
      case hd => rfl
      case hi => kernel_rfl
    case hdf => rfl
    case hQQ => exact ⟨toki_no HT.out, below_setRow B2.out (Nat.le_refl _) _⟩
  | ok q =>
    obtain ⟨bs, n⟩ := q
    obtain ⟨v, rfl, ho⟩ := hs
    have hcv := own_str ho
    obtain ⟨a, cap, rfl⟩ := own_form ho
    have hT' : Pl.tokF t 0 = if 200 < bs.length then .error 8 else .ok (4, ⟨bs.toArray⟩, 0, n) := hT
    clear hT hf0 ho
    by_cases hl : 200 < bs.length
    · rw [if_pos hl] at hT'
      have HT : Hid (Pl.tokF t 0 = .error 8) := hT'
      have hl2 : (200 : Int) < bs.length := by omega
      clear hT' hl
      go_wp2_with (refine wpList_store_row rfl 34 _ _ rfl w.heap.size #[.int .i64 0, .string ⟨#[]⟩, .int .i64 0, .int .i64 0, .int .i64 0] ?hx ?hy 34 #[.int .i64 0, .string ⟨#[]⟩, .int .i64 0, .int .i64 0, .int .i64 0] ?hg ?hi ?ho ?h1 ?_; (case hx => rfl); (case hy => rfl); (case hg => exact Q2.out); (case hi => kernel_rfl); (case ho => kernel_rfl); (case h1 => kernel_rfl))
      refine bodyPost_ret (v := .tuple #[.agg #[.int .i64 0, .string ⟨#[]⟩, .int .i64 0, .int .i64 0, .int .i64 0], .int .i64 0, .int .i64 8]) ?hr ?hdf ?hQQ
      case hr =>
        refine results_cttL Tryz.results69 _ _ (w.heap.size) 34 #[.int .i64 0, .string ⟨#[]⟩, .int .i64 0, .int .i64 0, .int .i64 0] (0, 0) _ (.int .i64 0) (.int .i64 8) ?hp ?hq ?hq2 ?hg Tryz.underlying34 ?hd ?hi
        case hp => rfl
        case hq => rfl
        case hq2 => rfl
        case hg => exact setRow_heap _ _ _ _ _ _ Q2.out
        case hd => rfl
        case hi => kernel_rfl
      case hdf => rfl
      case hQQ => exact ⟨toki_no HT.out, below_setRow B2.out (Nat.le_refl _) _⟩
    · rw [if_neg hl] at hT'
      have HT : Hid (Pl.tokF t 0 = .ok (4, ⟨bs.toArray⟩, 0, n)) := hT'
      have hl2 : ¬ (200 : Int) < bs.length := by omega
      obtain ⟨S, hS⟩ : ∃ S : ByteArray, S = ⟨bs.toArray⟩ := ⟨_, rfl⟩
      rw [← hS] at hcv HT
      clear hT' hl hS
      go_wp2_with (refine wpList_store_row rfl 34 _ _ rfl w.heap.size #[.int .i64 4, .string S, .int .i64 0, .int .i64 0, .int .i64 0] ?hx ?hy 34 #[.int .i64 0, .string ⟨#[]⟩, .int .i64 0, .int .i64 0, .int .i64 0] ?hg ?hi ?ho ?h1 ?_; (case hx => rfl); (case hy => rfl); (case hg => exact Q2.out); (case hi => kernel_rfl); (case ho => kernel_rfl); (case h1 => kernel_rfl))
      refine bodyPost_ret (v := .tuple #[.agg #[.int .i64 4, .string S, .int .i64 0, .int .i64 0, .int .i64 0], .int .i64 n, .int .i64 0]) ?hr ?hdf ?hQQ
      case hr =>
        refine results_cttL Tryz.results69 _ _ (w.heap.size) 34 #[.int .i64 4, .string S, .int .i64 0, .int .i64 0, .int .i64 0] (0, 0) _ (.int .i64 n) (.int .i64 0) ?hp ?hq ?hq2 ?hg Tryz.underlying34 ?hd ?hi
        case hp => rfl
        case hq => rfl
        case hq2 => rfl
        case hg => exact setRow_heap _ _ _ _ _ _ Q2.out
        case hd => rfl
        case hi => kernel_rfl
      case hdf => rfl
      case hQQ => exact ⟨toki_ok HT.out rfl, below_setRow B2.out (Nat.le_refl _) _⟩
end Go.Proofs.YtdplfflkmphpbaaGreatDoor.W
