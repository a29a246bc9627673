import Derived.Test.YtgopdicmmglakaaLwE
import Derived.Test.YtgopdicmmglakaaLwF
import Derived.OpenShut
set_option linter.unusedVariables false
namespace Go.Proofs.Ytgopdicmmglakaa.W
open Go.RowKit
set_option maxHeartbeats 1000000 in
theorem specLoad_no {lo : Nat} (v : MV) (m : Pl.Mac) (kind at_ : Int) (w : World) (h : MIs lo w v m) (hok : Pl.mOk m = false) :
    Calls Try.prog 20 #[.agg #[.slice v.code.a v.code.len v.code.cap, .int .i64 m.pc, .slice v.regs.a v.regs.len v.regs.cap, .slice v.data.a v.data.len v.data.cap, .slice v.stk.a v.stk.len v.stk.cap, .slice v.inp.a v.inp.len v.inp.cap, .slice v.out.a v.out.len v.out.cap, .int .i64 m.steps, .int .i64 m.fin, .int .i64 m.val], .int .i64 kind, .int .i64 at_] w fun e w' => e = .returned (.tuple #[.int .i64 0, .int .i64 4]) ∧ Below w.heap.size w w' := by
  have HH : Hid (MIs lo w v m) := h
  clear h
  have P0 : Hid ((w.alloc (.cells #[.slice v.code.a v.code.len v.code.cap, .int .i64 m.pc, .slice v.regs.a v.regs.len v.regs.cap, .slice v.data.a v.data.len v.data.cap, .slice v.stk.a v.stk.len v.stk.cap, .slice v.inp.a v.inp.len v.inp.cap, .slice v.out.a v.out.len v.out.cap, .int .i64 m.steps, .int .i64 m.fin, .int .i64 m.val] 28)).heap[w.heap.size]? = some (.cells #[.slice v.code.a v.code.len v.code.cap, .int .i64 m.pc, .slice v.regs.a v.regs.len v.regs.cap, .slice v.data.a v.data.len v.data.cap, .slice v.stk.a v.stk.len v.stk.cap, .slice v.inp.a v.inp.len v.inp.cap, .slice v.out.a v.out.len v.out.cap, .int .i64 m.steps, .int .i64 m.fin, .int .i64 m.val] 28)) := heap_alloc_new w _
  go_enter Try.func20, Try.ntmps20
  go_wp2_with (first | (refine wpList_load_row rfl 28 _ rfl (w.heap.size) ?hx 28 #[.slice v.code.a v.code.len v.code.cap, .int .i64 m.pc, .slice v.regs.a v.regs.len v.regs.cap, .slice v.data.a v.data.len v.data.cap, .slice v.stk.a v.stk.len v.stk.cap, .slice v.inp.a v.inp.len v.inp.cap, .slice v.out.a v.out.len v.out.cap, .int .i64 m.steps, .int .i64 m.fin, .int .i64 m.val] (0, 0) _ ?hg Try.underlying28 ?hd ?hi ?_; (case hx => rfl); (case hg => exact P0.out); (case hd => rfl); (case hi => kernel_rfl)) | (go_at_call 8; refine (specMachineOk_any v m _ (HH.out.keep (below_alloc w _))).mono ?_; rintro e u1 ⟨rfl, d1⟩; rw [hok]))
  go_ret2
  exact ⟨rfl, (below_alloc w _).trans (d1.mono (by simp))⟩
set_option maxHeartbeats 1000000 in
theorem specLoad_kind {lo : Nat} (v : MV) (m : Pl.Mac) (kind at_ : Int) (w : World) (h : MIs lo w v m) (hok : Pl.mOk m = true) (hk : Pl.ks kind = 0) :
    Calls Try.prog 20 #[.agg #[.slice v.code.a v.code.len v.code.cap, .int .i64 m.pc, .slice v.regs.a v.regs.len v.regs.cap, .slice v.data.a v.data.len v.data.cap, .slice v.stk.a v.stk.len v.stk.cap, .slice v.inp.a v.inp.len v.inp.cap, .slice v.out.a v.out.len v.out.cap, .int .i64 m.steps, .int .i64 m.fin, .int .i64 m.val], .int .i64 kind, .int .i64 at_] w fun e w' => e = .returned (.tuple #[.int .i64 0, .int .i64 4]) ∧ Below w.heap.size w w' := by
  have HH : Hid (MIs lo w v m) := h
  clear h
  have P0 : Hid ((w.alloc (.cells #[.slice v.code.a v.code.len v.code.cap, .int .i64 m.pc, .slice v.regs.a v.regs.len v.regs.cap, .slice v.data.a v.data.len v.data.cap, .slice v.stk.a v.stk.len v.stk.cap, .slice v.inp.a v.inp.len v.inp.cap, .slice v.out.a v.out.len v.out.cap, .int .i64 m.steps, .int .i64 m.fin, .int .i64 m.val] 28)).heap[w.heap.size]? = some (.cells #[.slice v.code.a v.code.len v.code.cap, .int .i64 m.pc, .slice v.regs.a v.regs.len v.regs.cap, .slice v.data.a v.data.len v.data.cap, .slice v.stk.a v.stk.len v.stk.cap, .slice v.inp.a v.inp.len v.inp.cap, .slice v.out.a v.out.len v.out.cap, .int .i64 m.steps, .int .i64 m.fin, .int .i64 m.val] 28)) := heap_alloc_new w _
  go_enter Try.func20, Try.ntmps20
  go_wp2_with (first | (refine wpList_load_row rfl 28 _ rfl (w.heap.size) ?hx 28 #[.slice v.code.a v.code.len v.code.cap, .int .i64 m.pc, .slice v.regs.a v.regs.len v.regs.cap, .slice v.data.a v.data.len v.data.cap, .slice v.stk.a v.stk.len v.stk.cap, .slice v.inp.a v.inp.len v.inp.cap, .slice v.out.a v.out.len v.out.cap, .int .i64 m.steps, .int .i64 m.fin, .int .i64 m.val] (0, 0) _ ?hg Try.underlying28 ?hd ?hi ?_; (case hx => rfl); (case hg => exact P0.out); (case hd => rfl); (case hi => kernel_rfl)) | (go_at_call 8; refine (specMachineOk_any v m _ (HH.out.keep (below_alloc w _))).mono ?_; rintro e u1 ⟨rfl, d1⟩; rw [hok]) | (go_at_call 45; refine (specKindSize_any _ _).mono ?_; rintro e u2 ⟨rfl, rfl⟩; rw [hk]))
  go_ret2
  exact ⟨rfl, (below_alloc w _).trans (d1.mono (by simp))⟩
set_option maxHeartbeats 1000000 in
theorem specLoad_of {lo : Nat} (v : MV) (m : Pl.Mac) (kind at_ a b : Int) (size : Nat) (w : World) (h : MIs lo w v m) (hok : Pl.mOk m = true) (hs : 1 ≤ size ∧ size ≤ 4) (hk : Pl.ks kind = size)
    (HL : Hid (∀ W : World, W.heap[w.heap.size]? = some (.cells #[.slice v.code.a v.code.len v.code.cap, .int .i64 m.pc, .slice v.regs.a v.regs.len v.regs.cap, .slice v.data.a v.data.len v.data.cap, .slice v.stk.a v.stk.len v.stk.cap, .slice v.inp.a v.inp.len v.inp.cap, .slice v.out.a v.out.len v.out.cap, .int .i64 m.steps, .int .i64 m.fin, .int .i64 m.val] 28) → Below w.heap.size w W → Calls Try.prog 46 #[.pointer (some ⟨w.heap.size, 0, none⟩), .int .i64 kind, .int .i64 at_] W fun e w' => e = .returned (.tuple #[.int .i64 a, .int .i64 b]) ∧ w' = W)) :
    Calls Try.prog 20 #[.agg #[.slice v.code.a v.code.len v.code.cap, .int .i64 m.pc, .slice v.regs.a v.regs.len v.regs.cap, .slice v.data.a v.data.len v.data.cap, .slice v.stk.a v.stk.len v.stk.cap, .slice v.inp.a v.inp.len v.inp.cap, .slice v.out.a v.out.len v.out.cap, .int .i64 m.steps, .int .i64 m.fin, .int .i64 m.val], .int .i64 kind, .int .i64 at_] w fun e w' => e = .returned (.tuple #[.int .i64 a, .int .i64 b]) ∧ Below w.heap.size w w' := by
  have HH : Hid (MIs lo w v m) := h
  clear h
  have hs0 : ((size : Int) == 0) = false := by simp; omega
  have P0 : Hid ((w.alloc (.cells #[.slice v.code.a v.code.len v.code.cap, .int .i64 m.pc, .slice v.regs.a v.regs.len v.regs.cap, .slice v.data.a v.data.len v.data.cap, .slice v.stk.a v.stk.len v.stk.cap, .slice v.inp.a v.inp.len v.inp.cap, .slice v.out.a v.out.len v.out.cap, .int .i64 m.steps, .int .i64 m.fin, .int .i64 m.val] 28)).heap[w.heap.size]? = some (.cells #[.slice v.code.a v.code.len v.code.cap, .int .i64 m.pc, .slice v.regs.a v.regs.len v.regs.cap, .slice v.data.a v.data.len v.data.cap, .slice v.stk.a v.stk.len v.stk.cap, .slice v.inp.a v.inp.len v.inp.cap, .slice v.out.a v.out.len v.out.cap, .int .i64 m.steps, .int .i64 m.fin, .int .i64 m.val] 28)) := heap_alloc_new w _
  go_enter Try.func20, Try.ntmps20
  go_wp2_with (first | (refine wpList_load_row rfl 28 _ rfl (w.heap.size) ?hx 28 #[.slice v.code.a v.code.len v.code.cap, .int .i64 m.pc, .slice v.regs.a v.regs.len v.regs.cap, .slice v.data.a v.data.len v.data.cap, .slice v.stk.a v.stk.len v.stk.cap, .slice v.inp.a v.inp.len v.inp.cap, .slice v.out.a v.out.len v.out.cap, .int .i64 m.steps, .int .i64 m.fin, .int .i64 m.val] (0, 0) _ ?hg Try.underlying28 ?hd ?hi ?_; (case hx => rfl); (case hg => exact P0.out); (case hd => rfl); (case hi => kernel_rfl)) | (go_at_call 8; refine (specMachineOk_any v m _ (HH.out.keep (below_alloc w _))).mono ?_; rintro e u1 ⟨rfl, d1⟩; rw [hok]) | (go_at_call 45; refine (specKindSize_any _ _).mono ?_; rintro e u2 ⟨rfl, hu2⟩; rw [hu2, hk]; clear hu2) | (go_at_call 46; refine (HL.out u1 ((d1.block _ (by simp)).trans P0.out) ((below_alloc w _).trans (d1.mono (by simp)))).mono ?_; rintro e u3 ⟨rfl, hu3⟩; rw [hu3]; clear hu3))
  go_ret2
  exact ⟨rfl, (below_alloc w _).trans (d1.mono (by simp))⟩
set_option maxHeartbeats 1000000 in
theorem implLoad_no {lo : Nat} (v : MV) (m : Pl.Mac) (kind at_ : Int) (w : World) (h : MIs lo w v m) (hok : Pl.mOk m = false) :
    Calls Try.prog 21 #[.agg #[.slice v.code.a v.code.len v.code.cap, .int .i64 m.pc, .slice v.regs.a v.regs.len v.regs.cap, .slice v.data.a v.data.len v.data.cap, .slice v.stk.a v.stk.len v.stk.cap, .slice v.inp.a v.inp.len v.inp.cap, .slice v.out.a v.out.len v.out.cap, .int .i64 m.steps, .int .i64 m.fin, .int .i64 m.val], .int .i64 kind, .int .i64 at_] w fun e w' => e = .returned (.tuple #[.int .i64 0, .int .i64 4]) ∧ Below w.heap.size w w' := by
  have HH : Hid (MIs lo w v m) := h
  clear h
  have hB : Hid (Below w.heap.size w (((w.alloc (.cells #[.slice v.code.a v.code.len v.code.cap, .int .i64 m.pc, .slice v.regs.a v.regs.len v.regs.cap, .slice v.data.a v.data.len v.data.cap, .slice v.stk.a v.stk.len v.stk.cap, .slice v.inp.a v.inp.len v.inp.cap, .slice v.out.a v.out.len v.out.cap, .int .i64 m.steps, .int .i64 m.fin, .int .i64 m.val] 28)).alloc (.cells #[.int .i64 kind] 3)).alloc (.cells #[.int .i64 at_] 3))) := (((Below.refl _ _).alloc (Nat.le_refl _) _).alloc (by simp) _).alloc (by simp; omega) _
  have P0 : Hid ((((w.alloc (.cells #[.slice v.code.a v.code.len v.code.cap, .int .i64 m.pc, .slice v.regs.a v.regs.len v.regs.cap, .slice v.data.a v.data.len v.data.cap, .slice v.stk.a v.stk.len v.stk.cap, .slice v.inp.a v.inp.len v.inp.cap, .slice v.out.a v.out.len v.out.cap, .int .i64 m.steps, .int .i64 m.fin, .int .i64 m.val] 28)).alloc (.cells #[.int .i64 kind] 3)).alloc (.cells #[.int .i64 at_] 3)).heap[w.heap.size]? = some (.cells #[.slice v.code.a v.code.len v.code.cap, .int .i64 m.pc, .slice v.regs.a v.regs.len v.regs.cap, .slice v.data.a v.data.len v.data.cap, .slice v.stk.a v.stk.len v.stk.cap, .slice v.inp.a v.inp.len v.inp.cap, .slice v.out.a v.out.len v.out.cap, .int .i64 m.steps, .int .i64 m.fin, .int .i64 m.val] 28)) := (Below.heap_alloc _ _ _ (by simp; omega)).trans ((Below.heap_alloc _ _ _ (by simp)).trans (heap_alloc_new w _))
  go_enter Try.func21, Try.ntmps21
  go_wp2_with (first | (refine wpList_load_row rfl 28 _ rfl (w.heap.size) ?hx 28 #[.slice v.code.a v.code.len v.code.cap, .int .i64 m.pc, .slice v.regs.a v.regs.len v.regs.cap, .slice v.data.a v.data.len v.data.cap, .slice v.stk.a v.stk.len v.stk.cap, .slice v.inp.a v.inp.len v.inp.cap, .slice v.out.a v.out.len v.out.cap, .int .i64 m.steps, .int .i64 m.fin, .int .i64 m.val] (0, 0) _ ?hg Try.underlying28 ?hd ?hi ?_; (case hx => rfl); (case hg => exact P0.out); (case hd => rfl); (case hi => kernel_rfl)) | (go_at_call 10; refine (implMachineOk_any v m _ (HH.out.keep hB.out)).mono ?_; rintro e u1 ⟨rfl, d1⟩; rw [hok]))
  go_ret2
  exact ⟨rfl, hB.out.trans (d1.mono hB.out.size)⟩
/-- both loads answer the same -/
theorem loads_agree (m : Pl.Mac) (kind at_ : Int) (hb : -9223372036854775808 ≤ at_ ∧ at_ ≤ 9223372036854775807) : ∃ a b : Int,
    (∀ (lo : Nat) (v : MV) (w : World), MIs lo w v m → Calls Try.prog 20 #[.agg #[.slice v.code.a v.code.len v.code.cap, .int .i64 m.pc, .slice v.regs.a v.regs.len v.regs.cap, .slice v.data.a v.data.len v.data.cap, .slice v.stk.a v.stk.len v.stk.cap, .slice v.inp.a v.inp.len v.inp.cap, .slice v.out.a v.out.len v.out.cap, .int .i64 m.steps, .int .i64 m.fin, .int .i64 m.val], .int .i64 kind, .int .i64 at_] w fun e w' => e = .returned (.tuple #[.int .i64 a, .int .i64 b]) ∧ Below w.heap.size w w') ∧
    (∀ (lo : Nat) (v : MV) (w : World), MIs lo w v m → Calls Try.prog 21 #[.agg #[.slice v.code.a v.code.len v.code.cap, .int .i64 m.pc, .slice v.regs.a v.regs.len v.regs.cap, .slice v.data.a v.data.len v.data.cap, .slice v.stk.a v.stk.len v.stk.cap, .slice v.inp.a v.inp.len v.inp.cap, .slice v.out.a v.out.len v.out.cap, .int .i64 m.steps, .int .i64 m.fin, .int .i64 m.val], .int .i64 kind, .int .i64 at_] w fun e w' => e = .returned (.tuple #[.int .i64 a, .int .i64 b]) ∧ Below w.heap.size w w') := by
  cases hok : Pl.mOk m
  · exact ⟨0, 4, fun lo v w h => specLoad_no v m kind at_ w h hok, fun lo v w h => implLoad_no v m kind at_ w h hok⟩
  by_cases hk0 : Pl.ks kind = 0
  · exact ⟨0, 4, fun lo v w h => specLoad_kind v m kind at_ w h hok hk0, fun lo v w h => implLoad_bad v m kind at_ w h hok 4 (fun W => find_kind _ _ _ _ _ _ kind at_ hk0 W)⟩
  have hmd : m.data.length ≤ 65536 ∧ m.stk.length ≤ 65536 := by
    have := hok
    unfold Pl.mOk Pl.skOk at this
    simp only [Bool.and_eq_true, decide_eq_true_eq] at this
    obtain ⟨_, h1, h2, _⟩ := this
    omega
  obtain ⟨size, hk, hs4⟩ : ∃ size : Nat, Pl.ks kind = size ∧ (size = 1 ∨ size = 2 ∨ size = 4) := by
    unfold Pl.ks at hk0 ⊢
    split
    · exact ⟨1, rfl, .inl rfl⟩
    · split
      · exact ⟨2, rfl, .inr (.inl rfl)⟩
      · split
        · exact ⟨4, rfl, .inr (.inr rfl)⟩
        · simp_all
  have hs : 1 ≤ size ∧ size ≤ 4 := by omega
  by_cases ha : at_.tmod (size : Int) = 0
  rotate_left
  · have ha' : (at_.tmod (size : Int) != 0) = true := by simpa using ha
    exact ⟨0, 3, fun lo v w h => specLoad_of v m kind at_ 0 3 size w h hok hs hk (fun W _ _ => l3Load_align _ kind at_ size hs hk ha' W),
      fun lo v w h => implLoad_bad v m kind at_ w h hok 3 (fun W => find_align _ _ _ _ _ _ kind at_ size hs hk ha' hb W)⟩
  have ha' : (at_.tmod (size : Int) != 0) = false := by rw [ha]; rfl
  by_cases hd : 1048576 ≤ at_ ∧ at_ - 1048576 ≤ (m.data.length : Int) - size
  · obtain ⟨p, hp⟩ : ∃ p : Nat, at_ = 1048576 + p := ⟨(at_ - 1048576).toNat, by omega⟩
    refine ⟨Pl.nr kind (Pl.ldk m.data p size), 0, fun lo v w h => ?_, fun lo v w h => ?_⟩
    · have hr := h.2.2.1
      have hr' := h.2.2.2.1
      have hz : ∀ n ∈ m.data, 0 ≤ n ∧ n ≤ 255 := fun n hn => bounds_u8 (hr.2.2.2.1 n hn)
      have hlen := hr.1
      have hlen' := hr'.1
      obtain ⟨b, off, hadr, _, hbl, hcell⟩ := hr.2.2.2.2.resolve_left (by omega)
      refine specLoad_of v m kind at_ _ 0 size w h hok hs hk (fun W hW hB => ?_)
      exact l3Load_data v m w.heap.size kind at_ b off p size m.data W hW hb (by omega) (by omega) hs hs4 hk ha' hp (by omega) hadr hz (fun i hi => (hB.cell (by exact hbl)).trans (hcell (p + i) (by omega)))
    · have hr := h.2.2.1
      have hz : ∀ n ∈ m.data, 0 ≤ n ∧ n ≤ 255 := fun n hn => bounds_u8 (hr.2.2.2.1 n hn)
      have hlen := hr.1
      have hc := hr.2.1
      have hm := hr.2.2.1
      unfold maxLen at hm
      obtain ⟨b, off, hadr, _, hbl, hcell⟩ := hr.2.2.2.2.resolve_left (by omega)
      refine implLoad_good v m kind at_ w h hok b off p size (v.data.cap - p) m.data hs hbl hz (fun i hi => by rw [Nat.add_assoc]; exact hcell (p + i) (by omega)) (fun W => ?_)
      rw [hadr]
      exact find_data b off _ _ _ _ _ kind at_ p size hs hk ha (by omega) hc (by omega) hp (by omega) W
  have hd0 : at_ < 1048576 ∨ (m.data.length : Int) - size < at_ - 1048576 := by omega
  by_cases ht : 2097152 - (m.stk.length : Int) ≤ at_ ∧ at_ - (2097152 - (m.stk.length : Int)) ≤ (m.stk.length : Int) - size
  · obtain ⟨p, hp⟩ : ∃ p : Nat, at_ = 2097152 - (m.stk.length : Int) + p := ⟨(at_ - (2097152 - (m.stk.length : Int))).toNat, by omega⟩
    refine ⟨Pl.nr kind (Pl.ldk m.stk p size), 0, fun lo v w h => ?_, fun lo v w h => ?_⟩
    · have hr' := h.2.2.1
      have hr := h.2.2.2.1
      have hz : ∀ n ∈ m.stk, 0 ≤ n ∧ n ≤ 255 := fun n hn => bounds_u8 (hr.2.2.2.1 n hn)
      have hlen := hr.1
      have hlen' := hr'.1
      obtain ⟨b, off, hadr, _, hbl, hcell⟩ := hr.2.2.2.2.resolve_left (by omega)
      refine specLoad_of v m kind at_ _ 0 size w h hok hs hk (fun W hW hB => ?_)
      exact l3Load_stack v m w.heap.size kind at_ b off p size m.stk W hW hb (by omega) (by omega) hs hs4 hk ha' (by show at_ < 1048576 ∨ (v.data.len : Int) - size < at_ - 1048576; omega) (by show at_ = _; omega) (by omega) hadr hz (fun i hi => (hB.cell (by exact hbl)).trans (hcell (p + i) (by omega)))
    · have hr' := h.2.2.1
      have hr := h.2.2.2.1
      have hz : ∀ n ∈ m.stk, 0 ≤ n ∧ n ≤ 255 := fun n hn => bounds_u8 (hr.2.2.2.1 n hn)
      have hlen := hr.1
      have hlen' := hr'.1
      have hc := hr.2.1
      have hm := hr.2.2.1
      unfold maxLen at hm
      obtain ⟨b, off, hadr, _, hbl, hcell⟩ := hr.2.2.2.2.resolve_left (by omega)
      refine implLoad_good v m kind at_ w h hok b off p size (v.stk.cap - p) m.stk hs hbl hz (fun i hi => by rw [Nat.add_assoc]; exact hcell (p + i) (by omega)) (fun W => ?_)
      rw [hadr]
      exact find_stack _ b off _ _ _ _ kind at_ p size hs hk ha hb (by omega) (by omega) hc (by omega) (by show at_ < 1048576 ∨ (v.data.len : Int) - size < at_ - 1048576; omega) (by show at_ = _; omega) (by omega) W
  have hd1 : at_ < 2097152 - (m.stk.length : Int) ∨ (m.stk.length : Int) - size < at_ - (2097152 - (m.stk.length : Int)) := by omega
  refine ⟨0, 4, fun lo v w h => ?_, fun lo v w h => ?_⟩
  · have hlen := h.2.2.1.1
    have hlen' := h.2.2.2.1.1
    refine specLoad_of v m kind at_ 0 4 size w h hok hs hk (fun W hW hB => ?_)
    exact l3Load_none v m w.heap.size kind at_ size W hW hb (by omega) (by omega) hs hk ha' (by show at_ < 1048576 ∨ (v.data.len : Int) - size < at_ - 1048576; omega) (by show at_ < 2097152 - (v.stk.len : Int) ∨ (v.stk.len : Int) - size < at_ - (2097152 - (v.stk.len : Int)); omega)
  · have hlen := h.2.2.1.1
    have hlen' := h.2.2.2.1.1
    refine implLoad_bad v m kind at_ w h hok 4 (fun W => ?_)
    exact find_none _ _ _ _ _ _ kind at_ size hs hk ha hb (by omega) (by omega) (by show at_ < 1048576 ∨ (v.data.len : Int) - size < at_ - 1048576; omega) (by show at_ < 2097152 - (v.stk.len : Int) ∨ (v.stk.len : Int) - size < at_ - (2097152 - (v.stk.len : Int)); omega) W
end Go.Proofs.Ytgopdicmmglakaa.W
