import Derived.Test.YtgopdicmmglakaaLwD
import Derived.Test.YtgopdicmmglakaaMacC
set_option linter.unusedVariables false
namespace Go.Proofs.Ytgopdicmmglakaa.W
open Go.RowKit
theorem calls_at5' {P : Program} {f : Nat} {args : Array Value} {W : World} {Q : Ending → World → Prop} (h : ∀ U, U = W → Calls P f args U Q) : Calls P f args W Q := h W rfl
theorem keep_other' {U : World} {g b i : Nat} {o : Obj} {v : Value} (h : U.heap[g]? = some o) (hg : g ≠ b) : (U.setCell ⟨b, i, none⟩ v).heap[g]? = some o := (Below.heap_setCell U ⟨b, i, none⟩ v g hg).trans h
theorem row_put' {u : World} {g : Nat} {cs cs' : Array Value} {t : TypeId} (q : u.heap[g]? = some (.cells cs t)) (j : Nat) (x : Value) (e : cs.setIfInBounds j x = cs') : (u.setCell ⟨g, j, none⟩ x).heap[g]? = some (.cells cs' t) := by
  rw [← e]; exact heap_setCell_same u g j cs t x q
set_option maxHeartbeats 4000000 in
theorem implLoad_bad {lo : Nat} (v : MV) (m : Pl.Mac) (kind at_ : Int) (w : World) (h : MIs lo w v m) (hok : Pl.mOk m = true) (code : Int)
    (HF : Hid (∀ W, Calls Try.prog 70 #[.agg #[.iface 92 (.slice v.data.a v.data.len v.data.cap), .iface 93 (.slice v.stk.a v.stk.len v.stk.cap)], .int .i64 kind, .int .i64 at_] W fun e w' => e = .panicked [{ v := .iface 91 (.int .i64 code), recovered := false }] ∧ Below W.heap.size W w')) :
    Calls Try.prog 21 #[.agg #[.slice v.code.a v.code.len v.code.cap, .int .i64 m.pc, .slice v.regs.a v.regs.len v.regs.cap, .slice v.data.a v.data.len v.data.cap, .slice v.stk.a v.stk.len v.stk.cap, .slice v.inp.a v.inp.len v.inp.cap, .slice v.out.a v.out.len v.out.cap, .int .i64 m.steps, .int .i64 m.fin, .int .i64 m.val], .int .i64 kind, .int .i64 at_] w fun e w' => e = .returned (.tuple #[.int .i64 0, .int .i64 code]) ∧ Below w.heap.size w w' := by
  have HH : Hid (MIs lo w v m) := h
  clear h
  have P0 : Hid ((((w.alloc (.cells #[.slice v.code.a v.code.len v.code.cap, .int .i64 m.pc, .slice v.regs.a v.regs.len v.regs.cap, .slice v.data.a v.data.len v.data.cap, .slice v.stk.a v.stk.len v.stk.cap, .slice v.inp.a v.inp.len v.inp.cap, .slice v.out.a v.out.len v.out.cap, .int .i64 m.steps, .int .i64 m.fin, .int .i64 m.val] 28)).alloc (.cells #[.int .i64 kind] 3)).alloc (.cells #[.int .i64 at_] 3)).heap[w.heap.size]? = some (.cells #[.slice v.code.a v.code.len v.code.cap, .int .i64 m.pc, .slice v.regs.a v.regs.len v.regs.cap, .slice v.data.a v.data.len v.data.cap, .slice v.stk.a v.stk.len v.stk.cap, .slice v.inp.a v.inp.len v.inp.cap, .slice v.out.a v.out.len v.out.cap, .int .i64 m.steps, .int .i64 m.fin, .int .i64 m.val] 28)) := (Below.heap_alloc _ _ _ (by simp; omega)).trans ((Below.heap_alloc _ _ _ (by simp)).trans (heap_alloc_new w _))
  go_enter Try.func21, Try.ntmps21
  go_wp2_with (refine wpList_load_row rfl 28 _ rfl (w.heap.size) ?hx 28 #[.slice v.code.a v.code.len v.code.cap, .int .i64 m.pc, .slice v.regs.a v.regs.len v.regs.cap, .slice v.data.a v.data.len v.data.cap, .slice v.stk.a v.stk.len v.stk.cap, .slice v.inp.a v.inp.len v.inp.cap, .slice v.out.a v.out.len v.out.cap, .int .i64 m.steps, .int .i64 m.fin, .int .i64 m.val] (0, 0) _ ?hg Try.underlying28 ?hd ?hi ?_; (case hx => rfl); (case hg => exact P0.out); (case hd => rfl); (case hi => kernel_rfl))
  refine calls_at5' fun u0 hu0 => ?_
  have K0 : Hid (u0.heap[w.heap.size + 1]? = some (.cells #[.int .i64 kind] 3)) := by
    show u0.heap[w.heap.size + 1]? = _
    rw [hu0, Below.heap_alloc _ _ _ (by simp)]
    have := heap_alloc_new (w.alloc (.cells #[.slice v.code.a v.code.len v.code.cap, .int .i64 m.pc, .slice v.regs.a v.regs.len v.regs.cap, .slice v.data.a v.data.len v.data.cap, .slice v.stk.a v.stk.len v.stk.cap, .slice v.inp.a v.inp.len v.inp.cap, .slice v.out.a v.out.len v.out.cap, .int .i64 m.steps, .int .i64 m.fin, .int .i64 m.val] 28)) (.cells #[.int .i64 kind] 3)
    simpa using this
  have A0 : Hid (u0.heap[w.heap.size + 1 + 1]? = some (.cells #[.int .i64 at_] 3)) := by
    show u0.heap[w.heap.size + 1 + 1]? = _
    rw [hu0]
    have := heap_alloc_new ((w.alloc (.cells #[.slice v.code.a v.code.len v.code.cap, .int .i64 m.pc, .slice v.regs.a v.regs.len v.regs.cap, .slice v.data.a v.data.len v.data.cap, .slice v.stk.a v.stk.len v.stk.cap, .slice v.inp.a v.inp.len v.inp.cap, .slice v.out.a v.out.len v.out.cap, .int .i64 m.steps, .int .i64 m.fin, .int .i64 m.val] 28)).alloc (.cells #[.int .i64 kind] 3)) (.cells #[.int .i64 at_] 3)
    simpa using this
  have B0 : Hid (Below w.heap.size w u0) := by show Below w.heap.size w u0; rw [hu0]; exact (((Below.refl _ _).alloc (Nat.le_refl _) _).alloc (by simp) _).alloc (by simp; omega) _
  have Z0 : Hid (w.heap.size + 1 + 1 < u0.heap.size) := by show w.heap.size + 1 + 1 < u0.heap.size; rw [hu0]; simp
  rw [← hu0] at P0
  clear hu0
  refine (implMachineOk_any v m u0 (HH.out.keep B0.out)).mono ?_
  rintro e u1 ⟨rfl, d1⟩
  rw [hok]
  have P1 : Hid (u1.heap[w.heap.size]? = some (.cells #[.slice v.code.a v.code.len v.code.cap, .int .i64 m.pc, .slice v.regs.a v.regs.len v.regs.cap, .slice v.data.a v.data.len v.data.cap, .slice v.stk.a v.stk.len v.stk.cap, .slice v.inp.a v.inp.len v.inp.cap, .slice v.out.a v.out.len v.out.cap, .int .i64 m.steps, .int .i64 m.fin, .int .i64 m.val] 28)) := (d1.block _ (by have := Z0.out; omega)).trans P0.out
  have K1 : Hid (u1.heap[w.heap.size + 1]? = some (.cells #[.int .i64 kind] 3)) := (d1.block _ (by have := Z0.out; omega)).trans K0.out
  have A1 : Hid (u1.heap[w.heap.size + 1 + 1]? = some (.cells #[.int .i64 at_] 3)) := (d1.block _ Z0.out).trans A0.out
  have B1 : Hid (Below w.heap.size w u1) := B0.out.trans (d1.mono (by have := Z0.out; omega))
  have Z1 : Hid (w.heap.size + 1 + 1 < u1.heap.size) := Nat.lt_of_lt_of_le Z0.out d1.size
  clear d1 P0 K0 A0 B0 Z0
  have hmf : ∀ (fn : Fn) (first cap : Array Value) (w : World), (Instr.makeFunc fn first cap).run Try.prog w = .ok (.func fn first cap) w := fun _ _ _ _ => rfl
  go_wp2_with fail
  refine calls_at5' fun u2 hu2 => ?_
  have W2 : Hid (u2.heap[u1.heap.size]? = some (.cells #[.int .i64 0] 3)) := by show u2.heap[u1.heap.size]? = _; rw [hu2]; exact heap_alloc_new u1 _
  have d2 : Below u1.heap.size u1 u2 := by rw [hu2]; exact below_alloc u1 _
  have G2 : Hid (u1.heap.size < u2.heap.size) := by show u1.heap.size < u2.heap.size; rw [hu2]; simp
  have P2 : Hid (u2.heap[w.heap.size]? = some (.cells #[.slice v.code.a v.code.len v.code.cap, .int .i64 m.pc, .slice v.regs.a v.regs.len v.regs.cap, .slice v.data.a v.data.len v.data.cap, .slice v.stk.a v.stk.len v.stk.cap, .slice v.inp.a v.inp.len v.inp.cap, .slice v.out.a v.out.len v.out.cap, .int .i64 m.steps, .int .i64 m.fin, .int .i64 m.val] 28)) := (d2.block _ (by have := Z1.out; omega)).trans P1.out
  have K2 : Hid (u2.heap[w.heap.size + 1]? = some (.cells #[.int .i64 kind] 3)) := (d2.block _ (by have := Z1.out; omega)).trans K1.out
  have A2 : Hid (u2.heap[w.heap.size + 1 + 1]? = some (.cells #[.int .i64 at_] 3)) := (d2.block _ Z1.out).trans A1.out
  have B2 : Hid (Below w.heap.size w u2) := B1.out.trans (d2.mono (by have := Z1.out; omega))
  have Z2 : Hid (w.heap.size + 1 + 1 < u2.heap.size) := Nat.lt_of_lt_of_le Z1.out d2.size
  clear d2 hu2 P1 K1 A1 B1
  obtain ⟨g, hg⟩ : ∃ g, g = u1.heap.size := ⟨_, rfl⟩
  rw [← hg] at W2 G2 Z1 ⊢
  clear hg
  obtain ⟨U, hU⟩ : ∃ U, U = u2.alloc (.cells #[.int .i64 0] 3) := ⟨_, rfl⟩
  have dU : Below u2.heap.size u2 U := by rw [hU]; exact below_alloc u2 _
  have CU : Hid (U.heap[u2.heap.size]? = some (.cells #[.int .i64 0] 3) ∧ u2.heap.size < U.heap.size) := by rw [hU]; exact ⟨heap_alloc_new u2 _, by simp⟩
  have BU : Hid (Below w.heap.size w U) := B2.out.trans (dU.mono (by have := Z2.out; omega))
  have PU : U.heap[w.heap.size]? = some (.cells #[.slice v.code.a v.code.len v.code.cap, .int .i64 m.pc, .slice v.regs.a v.regs.len v.regs.cap, .slice v.data.a v.data.len v.data.cap, .slice v.stk.a v.stk.len v.stk.cap, .slice v.inp.a v.inp.len v.inp.cap, .slice v.out.a v.out.len v.out.cap, .int .i64 m.steps, .int .i64 m.fin, .int .i64 m.val] 28) := (dU.block _ (by have := Z2.out; omega)).trans P2.out
  have KU : U.heap[w.heap.size + 1]? = some (.cells #[.int .i64 kind] 3) := (dU.block _ (by have := Z2.out; omega)).trans K2.out
  have AU : U.heap[w.heap.size + 1 + 1]? = some (.cells #[.int .i64 at_] 3) := (dU.block _ Z2.out).trans A2.out
  have WU : U.heap[g]? = some (.cells #[.int .i64 0] 3) := (dU.block _ G2.out).trans W2.out
  have HL : Hid (∀ W, Below U.heap.size U W → Calls Try.prog 50 #[.agg #[.iface 92 (.slice v.data.a v.data.len v.data.cap), .iface 93 (.slice v.stk.a v.stk.len v.stk.cap)], .int .i64 kind, .int .i64 at_] W fun e w' => e = .panicked [{ v := .iface 91 (.int .i64 code), recovered := false }] ∧ Below W.heap.size W w') := fun W _ => load_bad _ _ _ _ _ _ kind at_ code W HF
  have HX := load1_bad v m kind at_ w.heap.size (w.heap.size + 1) (w.heap.size + 1 + 1) g U PU KU AU WU code HL
  refine (faultOf_badL _ u2 code (fun w' => Below U.heap.size U w') (by rw [← hU]; exact HX) (fun u hu => (hu.block _ CU.out.2).trans CU.out.1)).mono ?_
  rintro e u3 ⟨rfl, u, hb', rfl⟩
  have hcg : u.heap[g]? = some (.cells #[.int .i64 0] 3) := (hb'.block _ (Nat.lt_trans G2.out CU.out.2)).trans WU
  have hc0 : (u.setCell ⟨u2.heap.size, 0, none⟩ (.int .i64 code)).cell? ⟨g, 0, none⟩ = some (.int .i64 0) := cell_of_row _ g 0 _ 3 (0, 0) (keep_other' hcg (by have := G2.out; omega))
  have HB : Hid (Below w.heap.size w (u.setCell ⟨u2.heap.size, 0, none⟩ (.int .i64 code))) := (BU.out.trans (hb'.mono BU.out.size)).setCell (by have := Z2.out; show w.heap.size ≤ u2.heap.size; omega) _
  clear hcg hb' HX HL HF WU AU KU PU dU hU
  go_wp2
  go_ret2
  exact ⟨rfl, HB.out⟩
set_option maxHeartbeats 4000000 in
theorem implLoad_good {lo : Nat} (v : MV) (m : Pl.Mac) (kind at_ : Int) (w : World) (h : MIs lo w v m) (hok : Pl.mOk m = true) (b off p size cap : Nat) (zs : List Int) (hs : 1 ≤ size ∧ size ≤ 4) (hbl : b < w.heap.size) (hz : ∀ n ∈ zs, 0 ≤ n ∧ n ≤ 255) (hc : ∀ i, i < size → w.cell? ⟨b, off + p + i, none⟩ = some (.int .u8 (zs.getD (p + i) 0)))
    (HF : Hid (∀ W, Calls Try.prog 70 #[.agg #[.iface 92 (.slice v.data.a v.data.len v.data.cap), .iface 93 (.slice v.stk.a v.stk.len v.stk.cap)], .int .i64 kind, .int .i64 at_] W fun e w' => e = .returned (.slice (some ⟨b, off + p, none⟩) size cap) ∧ Below W.heap.size W w')) :
    Calls Try.prog 21 #[.agg #[.slice v.code.a v.code.len v.code.cap, .int .i64 m.pc, .slice v.regs.a v.regs.len v.regs.cap, .slice v.data.a v.data.len v.data.cap, .slice v.stk.a v.stk.len v.stk.cap, .slice v.inp.a v.inp.len v.inp.cap, .slice v.out.a v.out.len v.out.cap, .int .i64 m.steps, .int .i64 m.fin, .int .i64 m.val], .int .i64 kind, .int .i64 at_] w fun e w' => e = .returned (.tuple #[.int .i64 (Pl.nr kind (Pl.ldk zs p size)), .int .i64 0]) ∧ Below w.heap.size w w' := by
  have HH : Hid (MIs lo w v m) := h
  clear h
  have HC : Hid (∀ i, i < size → w.cell? ⟨b, off + p + i, none⟩ = some (.int .u8 (zs.getD (p + i) 0))) := hc
  have HZ : Hid (∀ n ∈ zs, 0 ≤ n ∧ n ≤ 255) := hz
  clear hc hz
  have P0 : Hid ((((w.alloc (.cells #[.slice v.code.a v.code.len v.code.cap, .int .i64 m.pc, .slice v.regs.a v.regs.len v.regs.cap, .slice v.data.a v.data.len v.data.cap, .slice v.stk.a v.stk.len v.stk.cap, .slice v.inp.a v.inp.len v.inp.cap, .slice v.out.a v.out.len v.out.cap, .int .i64 m.steps, .int .i64 m.fin, .int .i64 m.val] 28)).alloc (.cells #[.int .i64 kind] 3)).alloc (.cells #[.int .i64 at_] 3)).heap[w.heap.size]? = some (.cells #[.slice v.code.a v.code.len v.code.cap, .int .i64 m.pc, .slice v.regs.a v.regs.len v.regs.cap, .slice v.data.a v.data.len v.data.cap, .slice v.stk.a v.stk.len v.stk.cap, .slice v.inp.a v.inp.len v.inp.cap, .slice v.out.a v.out.len v.out.cap, .int .i64 m.steps, .int .i64 m.fin, .int .i64 m.val] 28)) := (Below.heap_alloc _ _ _ (by simp; omega)).trans ((Below.heap_alloc _ _ _ (by simp)).trans (heap_alloc_new w _))
  go_enter Try.func21, Try.ntmps21
  go_wp2_with (refine wpList_load_row rfl 28 _ rfl (w.heap.size) ?hx 28 #[.slice v.code.a v.code.len v.code.cap, .int .i64 m.pc, .slice v.regs.a v.regs.len v.regs.cap, .slice v.data.a v.data.len v.data.cap, .slice v.stk.a v.stk.len v.stk.cap, .slice v.inp.a v.inp.len v.inp.cap, .slice v.out.a v.out.len v.out.cap, .int .i64 m.steps, .int .i64 m.fin, .int .i64 m.val] (0, 0) _ ?hg Try.underlying28 ?hd ?hi ?_; (case hx => rfl); (case hg => exact P0.out); (case hd => rfl); (case hi => kernel_rfl))
  refine calls_at5' fun u0 hu0 => ?_
  have K0 : Hid (u0.heap[w.heap.size + 1]? = some (.cells #[.int .i64 kind] 3)) := by
    show u0.heap[w.heap.size + 1]? = _
    rw [hu0, Below.heap_alloc _ _ _ (by simp)]
    have := heap_alloc_new (w.alloc (.cells #[.slice v.code.a v.code.len v.code.cap, .int .i64 m.pc, .slice v.regs.a v.regs.len v.regs.cap, .slice v.data.a v.data.len v.data.cap, .slice v.stk.a v.stk.len v.stk.cap, .slice v.inp.a v.inp.len v.inp.cap, .slice v.out.a v.out.len v.out.cap, .int .i64 m.steps, .int .i64 m.fin, .int .i64 m.val] 28)) (.cells #[.int .i64 kind] 3)
    simpa using this
  have A0 : Hid (u0.heap[w.heap.size + 1 + 1]? = some (.cells #[.int .i64 at_] 3)) := by
    show u0.heap[w.heap.size + 1 + 1]? = _
    rw [hu0]
    have := heap_alloc_new ((w.alloc (.cells #[.slice v.code.a v.code.len v.code.cap, .int .i64 m.pc, .slice v.regs.a v.regs.len v.regs.cap, .slice v.data.a v.data.len v.data.cap, .slice v.stk.a v.stk.len v.stk.cap, .slice v.inp.a v.inp.len v.inp.cap, .slice v.out.a v.out.len v.out.cap, .int .i64 m.steps, .int .i64 m.fin, .int .i64 m.val] 28)).alloc (.cells #[.int .i64 kind] 3)) (.cells #[.int .i64 at_] 3)
    simpa using this
  have B0 : Hid (Below w.heap.size w u0) := by show Below w.heap.size w u0; rw [hu0]; exact (((Below.refl _ _).alloc (Nat.le_refl _) _).alloc (by simp) _).alloc (by simp; omega) _
  have Z0 : Hid (w.heap.size + 1 + 1 < u0.heap.size) := by show w.heap.size + 1 + 1 < u0.heap.size; rw [hu0]; simp
  rw [← hu0] at P0
  clear hu0
  refine (implMachineOk_any v m u0 (HH.out.keep B0.out)).mono ?_
  rintro e u1 ⟨rfl, d1⟩
  rw [hok]
  have P1 : Hid (u1.heap[w.heap.size]? = some (.cells #[.slice v.code.a v.code.len v.code.cap, .int .i64 m.pc, .slice v.regs.a v.regs.len v.regs.cap, .slice v.data.a v.data.len v.data.cap, .slice v.stk.a v.stk.len v.stk.cap, .slice v.inp.a v.inp.len v.inp.cap, .slice v.out.a v.out.len v.out.cap, .int .i64 m.steps, .int .i64 m.fin, .int .i64 m.val] 28)) := (d1.block _ (by have := Z0.out; omega)).trans P0.out
  have K1 : Hid (u1.heap[w.heap.size + 1]? = some (.cells #[.int .i64 kind] 3)) := (d1.block _ (by have := Z0.out; omega)).trans K0.out
  have A1 : Hid (u1.heap[w.heap.size + 1 + 1]? = some (.cells #[.int .i64 at_] 3)) := (d1.block _ Z0.out).trans A0.out
  have B1 : Hid (Below w.heap.size w u1) := B0.out.trans (d1.mono (by have := Z0.out; omega))
  have Z1 : Hid (w.heap.size + 1 + 1 < u1.heap.size) := Nat.lt_of_lt_of_le Z0.out d1.size
  clear d1 P0 K0 A0 B0 Z0
  have hmf : ∀ (fn : Fn) (first cap : Array Value) (w : World), (Instr.makeFunc fn first cap).run Try.prog w = .ok (.func fn first cap) w := fun _ _ _ _ => rfl
  go_wp2_with fail
  refine calls_at5' fun u2 hu2 => ?_
  have W2 : Hid (u2.heap[u1.heap.size]? = some (.cells #[.int .i64 0] 3)) := by show u2.heap[u1.heap.size]? = _; rw [hu2]; exact heap_alloc_new u1 _
  have d2 : Below u1.heap.size u1 u2 := by rw [hu2]; exact below_alloc u1 _
  have G2 : Hid (u1.heap.size < u2.heap.size) := by show u1.heap.size < u2.heap.size; rw [hu2]; simp
  have P2 : Hid (u2.heap[w.heap.size]? = some (.cells #[.slice v.code.a v.code.len v.code.cap, .int .i64 m.pc, .slice v.regs.a v.regs.len v.regs.cap, .slice v.data.a v.data.len v.data.cap, .slice v.stk.a v.stk.len v.stk.cap, .slice v.inp.a v.inp.len v.inp.cap, .slice v.out.a v.out.len v.out.cap, .int .i64 m.steps, .int .i64 m.fin, .int .i64 m.val] 28)) := (d2.block _ (by have := Z1.out; omega)).trans P1.out
  have K2 : Hid (u2.heap[w.heap.size + 1]? = some (.cells #[.int .i64 kind] 3)) := (d2.block _ (by have := Z1.out; omega)).trans K1.out
  have A2 : Hid (u2.heap[w.heap.size + 1 + 1]? = some (.cells #[.int .i64 at_] 3)) := (d2.block _ Z1.out).trans A1.out
  have B2 : Hid (Below w.heap.size w u2) := B1.out.trans (d2.mono (by have := Z1.out; omega))
  have Z2 : Hid (w.heap.size + 1 + 1 < u2.heap.size) := Nat.lt_of_lt_of_le Z1.out d2.size
  clear d2 hu2 P1 K1 A1 B1
  obtain ⟨g, hg⟩ : ∃ g, g = u1.heap.size := ⟨_, rfl⟩
  rw [← hg] at W2 G2 Z1 ⊢
  clear hg
  obtain ⟨U, hU⟩ : ∃ U, U = u2.alloc (.cells #[.int .i64 0] 3) := ⟨_, rfl⟩
  have dU : Below u2.heap.size u2 U := by rw [hU]; exact below_alloc u2 _
  have CU : Hid (U.heap[u2.heap.size]? = some (.cells #[.int .i64 0] 3) ∧ u2.heap.size < U.heap.size) := by rw [hU]; exact ⟨heap_alloc_new u2 _, by simp⟩
  have BU : Hid (Below w.heap.size w U) := B2.out.trans (dU.mono (by have := Z2.out; omega))
  have PU : U.heap[w.heap.size]? = some (.cells #[.slice v.code.a v.code.len v.code.cap, .int .i64 m.pc, .slice v.regs.a v.regs.len v.regs.cap, .slice v.data.a v.data.len v.data.cap, .slice v.stk.a v.stk.len v.stk.cap, .slice v.inp.a v.inp.len v.inp.cap, .slice v.out.a v.out.len v.out.cap, .int .i64 m.steps, .int .i64 m.fin, .int .i64 m.val] 28) := (dU.block _ (by have := Z2.out; omega)).trans P2.out
  have KU : U.heap[w.heap.size + 1]? = some (.cells #[.int .i64 kind] 3) := (dU.block _ (by have := Z2.out; omega)).trans K2.out
  have AU : U.heap[w.heap.size + 1 + 1]? = some (.cells #[.int .i64 at_] 3) := (dU.block _ Z2.out).trans A2.out
  have WU : U.heap[g]? = some (.cells #[.int .i64 0] 3) := (dU.block _ G2.out).trans W2.out
  have HL : Hid (∀ W, Below U.heap.size U W → Calls Try.prog 50 #[.agg #[.iface 92 (.slice v.data.a v.data.len v.data.cap), .iface 93 (.slice v.stk.a v.stk.len v.stk.cap)], .int .i64 kind, .int .i64 at_] W fun e w' => e = .returned (.int .i64 (Pl.nr kind (Pl.ldk zs p size))) ∧ Below W.heap.size W w') := fun W hW => by
    have hB : Below w.heap.size w W := BU.out.trans (hW.mono BU.out.size)
    exact load_good _ _ _ _ _ _ kind at_ b off p size cap 0 0 zs hs W (Nat.lt_of_lt_of_le hbl hB.size) HZ.out (fun i hi => (hB.cell (by exact hbl)).trans (HC.out i hi)) HF
  have HX := load1_good v m kind at_ w.heap.size (w.heap.size + 1) (w.heap.size + 1 + 1) g U PU KU AU WU (Pl.nr kind (Pl.ldk zs p size)) HL
  rw [hU] at HX
  refine (faultOf_goodL _ u2 (fun w' => ∃ u', w' = u'.setCell ⟨g, 0, none⟩ (.int .i64 (Pl.nr kind (Pl.ldk zs p size))) ∧ Below U.heap.size U u') (by rw [← hU] at HX ⊢; exact HX) (fun u hu => by
    obtain ⟨u', rfl, hb'⟩ := hu
    exact keep_other' ((hb'.block _ CU.out.2).trans CU.out.1) (by have := G2.out; omega))).mono ?_
  rintro e u3 ⟨rfl, u, ⟨u', rfl, hb'⟩, rfl⟩
  have hcg : u'.heap[g]? = some (.cells #[.int .i64 0] 3) := (hb'.block _ (Nat.lt_trans G2.out CU.out.2)).trans WU
  have hc0 : ((u'.setCell ⟨g, 0, none⟩ (.int .i64 (Pl.nr kind (Pl.ldk zs p size)))).setCell ⟨u2.heap.size, 0, none⟩ (.int .i64 0)).cell? ⟨g, 0, none⟩ = some (.int .i64 (Pl.nr kind (Pl.ldk zs p size))) := cell_of_row _ g 0 _ 3 (0, 0) (keep_other' (row_put' hcg 0 (.int .i64 (Pl.nr kind (Pl.ldk zs p size))) rfl) (by have := G2.out; omega))
  have HB : Hid (Below w.heap.size w ((u'.setCell ⟨g, 0, none⟩ (.int .i64 (Pl.nr kind (Pl.ldk zs p size)))).setCell ⟨u2.heap.size, 0, none⟩ (.int .i64 0))) := ((BU.out.trans (hb'.mono BU.out.size)).setCell (by have := Z1.out; show w.heap.size ≤ g; omega) _).setCell (by have := Z2.out; show w.heap.size ≤ u2.heap.size; omega) _
  clear hcg hb' HX HL HF WU AU KU PU dU hU
  go_wp2
  go_ret2
  exact ⟨rfl, HB.out⟩
end Go.Proofs.Ytgopdicmmglakaa.W
