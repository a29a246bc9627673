import Derived.Test.YtfcfnbncgadomaaQ31
import Derived.Test.YtfcfnbncgadomaaQ26
import Derived.Test.YtfcfnbncgadomaaQ29
import Derived.Test.YtfcfnbncgadomaaQ16
import Derived.OpenShut
import Derived.Test.YtfcfnbncgadomaaQ24
set_option linter.unusedVariables false
set_option linter.unusedSimpArgs false
namespace Go.Proofs.Ytfcfnbncgadomaa.W
open Go.RowKit
/-- what a StoreWord answers for every owned machine: another one, owned, its slices in spans of their own, and a code -/
def Stores (f : Nat) (m : Pl.Mac) (kind at_ x : Int) (m' : Pl.Mac) (c : Int) : Prop :=
  ∀ (lo : Nat) (v : MV) (w : World), MOwn lo w v m → Calls Try.prog f #[.agg #[.slice v.code.a v.code.len v.code.cap, .int .i64 m.pc, .slice v.regs.a v.regs.len v.regs.cap, .slice v.data.a v.data.len v.data.cap, .slice v.stk.a v.stk.len v.stk.cap, .slice v.inp.a v.inp.len v.inp.cap, .slice v.out.a v.out.len v.out.cap, .int .i64 m.steps, .int .i64 m.fin, .int .i64 m.val], .int .i64 kind, .int .i64 at_, .int .i64 x] w fun e w' =>
    ∃ v1 : MV, e = .returned (.tuple #[.agg #[.slice v1.code.a v1.code.len v1.code.cap, .int .i64 m.pc, .slice v1.regs.a v1.regs.len v1.regs.cap, .slice v1.data.a v1.data.len v1.data.cap, .slice v1.stk.a v1.stk.len v1.stk.cap, .slice v1.inp.a v1.inp.len v1.inp.cap, .slice v1.out.a v1.out.len v1.out.cap, .int .i64 m.steps, .int .i64 m.fin, .int .i64 m.val], .int .i64 c]) ∧ MOwn w.heap.size w' v1 m' ∧ (∃ t0 t6, MSepAt t0 t6 v1 ∧ w.heap.size ≤ t0 ∧ t6 ≤ w'.heap.size) ∧ Below w.heap.size w w'
/-- both stores answer the same -/
theorem stores_agree (m : Pl.Mac) (kind at_ x : Int) (hsz : Pl.mSize m ≤ 1048576) (hb : -9223372036854775808 ≤ at_ ∧ at_ ≤ 9223372036854775807) (hx : -9223372036854775808 ≤ x ∧ x ≤ 9223372036854775807) : ∃ (m' : Pl.Mac) (c : Int),
    m'.pc = m.pc ∧ m'.steps = m.steps ∧ m'.fin = m.fin ∧ m'.val = m.val ∧ Pl.mSize m' = Pl.mSize m ∧ Stores 6 m kind at_ x m' c ∧ Stores 7 m kind at_ x m' c := by
  cases hok : Pl.mOk m
  · exact ⟨m, 4, rfl, rfl, rfl, rfl, rfl, fun lo v w h => specStore_no v m kind at_ x w h hsz hok rfl, fun lo v w h => implStore_no v m kind at_ x w h hsz hok⟩
  by_cases hk0 : Pl.ks kind = 0
  · exact ⟨m, 4, rfl, rfl, rfl, rfl, rfl, fun lo v w h => specStore_kind v m kind at_ x w h hsz hok hk0, fun lo v w h => implStore_bad v m kind at_ x w h hsz hok 4 (fun v1 _ _ W => find_kind _ _ _ _ _ _ kind at_ hk0 W)⟩
  have hmd : m.data.length ≤ 65536 ∧ m.stk.length ≤ 65536 := by
    have := hok
    unfold Pl.mOk Pl.skOk at this
    simp only [Bool.and_eq_true, decide_eq_true_eq] at this
    obtain ⟨_, h1, h2, _⟩ := this
    omega
  obtain ⟨size, hk, hs4⟩ : ∃ size : Nat, Pl.ks kind = size ∧ (size = 1 ∨ size = 2 ∨ size = 4) := by
    unfold Pl.ks at hk0 ⊢
    split
    · exact ⟨1, rfl, .inl rfl⟩
    · split
      · exact ⟨2, rfl, .inr (.inl rfl)⟩
      · split
        · exact ⟨4, rfl, .inr (.inr rfl)⟩
        · simp_all
  have hs : 1 ≤ size ∧ size ≤ 4 := by omega
  by_cases ha : at_.tmod (size : Int) = 0
  rotate_left
  · have ha' : (at_.tmod (size : Int) != 0) = true := by simpa using ha
    exact ⟨m, 3, rfl, rfl, rfl, rfl, rfl, fun lo v w h => specStore_same v m kind at_ x w h hsz hok size hs hk 3 (fun v1 g W _ _ _ => l3Store_align g kind at_ x size hs hk ha' W),
      fun lo v w h => implStore_bad v m kind at_ x w h hsz hok 3 (fun v1 _ _ W => find_align _ _ _ _ _ _ kind at_ size hs hk ha' hb W)⟩
  have ha' : (at_.tmod (size : Int) != 0) = false := by rw [ha]; rfl
  by_cases hd : 1048576 ≤ at_ ∧ at_ - 1048576 ≤ (m.data.length : Int) - size
  · obtain ⟨p, hp⟩ : ∃ p : Nat, at_ = 1048576 + p := ⟨(at_ - 1048576).toNat, by omega⟩
    refine ⟨{ m with data := Pl.stk_ m.data p x size }, 0, rfl, rfl, rfl, rfl, by unfold Pl.mSize; rw [Pl.stk_length], fun lo v w h => ?_, fun lo v w h => ?_⟩
    · exact specStore_data v m kind at_ x w h hsz hok p size hs hk ha' hb hmd hp (by omega)
    · refine implStore_data v m kind at_ x w h hsz hok p size hs hx (by omega) (fun v1 g hadr e1 e2 hc hm W => ?_)
      rw [hadr]
      exact find_data g 0 _ _ _ _ _ kind at_ p size hs hk ha (by omega) hc hm hp (by omega) W
  have hd0 : at_ < 1048576 ∨ (m.data.length : Int) - size < at_ - 1048576 := by omega
  by_cases ht : 2097152 - (m.stk.length : Int) ≤ at_ ∧ at_ - (2097152 - (m.stk.length : Int)) ≤ (m.stk.length : Int) - size
  · obtain ⟨p, hp⟩ : ∃ p : Nat, at_ = 2097152 - (m.stk.length : Int) + p := ⟨(at_ - (2097152 - (m.stk.length : Int))).toNat, by omega⟩
    refine ⟨{ m with stk := Pl.stk_ m.stk p x size }, 0, rfl, rfl, rfl, rfl, by unfold Pl.mSize; rw [Pl.stk_length], fun lo v w h => ?_, fun lo v w h => ?_⟩
    · exact specStore_stack v m kind at_ x w h hsz hok p size hs hk ha' hb hmd hd0 hp (by omega)
    · refine implStore_stack v m kind at_ x w h hsz hok p size hs hx (by omega) (fun v1 g hadr e1 e2 hc hm W => ?_)
      rw [hadr]
      exact find_stack _ g 0 _ _ _ _ kind at_ p size hs hk ha hb (by omega) (by omega) hc hm (by show at_ < 1048576 ∨ (v1.data.len : Int) - size < at_ - 1048576; omega) (by show at_ = _; omega) (by omega) W
  have hd1 : at_ < 2097152 - (m.stk.length : Int) ∨ (m.stk.length : Int) - size < at_ - (2097152 - (m.stk.length : Int)) := by omega
  refine ⟨m, 4, rfl, rfl, rfl, rfl, rfl, fun lo v w h => ?_, fun lo v w h => ?_⟩
  · refine specStore_same v m kind at_ x w h hsz hok size hs hk 4 (fun v1 g W hW e1 e2 => ?_)
    exact l3Store_none v1 m g kind at_ x size W hW hb (by omega) (by omega) hs hk ha' (by show at_ < 1048576 ∨ (v1.data.len : Int) - size < at_ - 1048576; omega) (by show at_ < 2097152 - (v1.stk.len : Int) ∨ (v1.stk.len : Int) - size < at_ - (2097152 - (v1.stk.len : Int)); omega)
  · have e1 := h.2.2.1.row.1
    have e2 := h.2.2.2.1.row.1
    refine implStore_bad v m kind at_ x w h hsz hok 4 (fun v1 q1 q2 W => ?_)
    exact find_none _ _ _ _ _ _ kind at_ size hs hk ha hb (by omega) (by omega) (by show at_ < 1048576 ∨ (v1.data.len : Int) - size < at_ - 1048576; omega) (by show at_ < 2097152 - (v1.stk.len : Int) ∨ (v1.stk.len : Int) - size < at_ - (2097152 - (v1.stk.len : Int)); omega) W
end Go.Proofs.Ytfcfnbncgadomaa.W
namespace Go.Proofs.Ytfcfnbncgadomaa.W
open Go.RowKit
theorem calls_at5' {P : Program} {f : Nat} {args : Array Value} {W : World} {Q : Ending → World → Prop} (h : ∀ U, U = W → Calls P f args U Q) : Calls P f args W Q := h W rfl
theorem keep_other' {U : World} {g b i : Nat} {o : Obj} {v : Value} (h : U.heap[g]? = some o) (hg : g ≠ b) : (U.setCell ⟨b, i, none⟩ v).heap[g]? = some o := (Below.heap_setCell U ⟨b, i, none⟩ v g hg).trans h
theorem row_put' {u : World} {g : Nat} {cs cs' : Array Value} {t : TypeId} (q : u.heap[g]? = some (.cells cs t)) (j : Nat) (x : Value) (e : cs.setIfInBounds j x = cs') : (u.setCell ⟨g, j, none⟩ x).heap[g]? = some (.cells cs' t) := by
  rw [← e]; exact heap_setCell_same u g j cs t x q
set_option maxHeartbeats 4000000 in
theorem implLoad_bad {lo : Nat} (v : MV) (m : Pl.Mac) (kind at_ : Int) (w : World) (h : MIs lo w v m) (hok : Pl.mOk m = true) (code : Int)
    (HF : Hid (∀ W, Calls Try.prog 61 #[.agg #[.iface 88 (.slice v.data.a v.data.len v.data.cap), .iface 89 (.slice v.stk.a v.stk.len v.stk.cap)], .int .i64 kind, .int .i64 at_] W fun e w' => e = .panicked [{ v := .iface 87 (.int .i64 code), recovered := false }] ∧ Below W.heap.size W w')) :
    Calls Try.prog 10 #[.agg #[.slice v.code.a v.code.len v.code.cap, .int .i64 m.pc, .slice v.regs.a v.regs.len v.regs.cap, .slice v.data.a v.data.len v.data.cap, .slice v.stk.a v.stk.len v.stk.cap, .slice v.inp.a v.inp.len v.inp.cap, .slice v.out.a v.out.len v.out.cap, .int .i64 m.steps, .int .i64 m.fin, .int .i64 m.val], .int .i64 kind, .int .i64 at_] w fun e w' => e = .returned (.tuple #[.int .i64 0, .int .i64 code]) ∧ Below w.heap.size w w' := by
  have HH : Hid (MIs lo w v m) := h
  clear h
  have P0 : Hid ((((w.alloc (.cells #[.slice v.code.a v.code.len v.code.cap, .int .i64 m.pc, .slice v.regs.a v.regs.len v.regs.cap, .slice v.data.a v.data.len v.data.cap, .slice v.stk.a v.stk.len v.stk.cap, .slice v.inp.a v.inp.len v.inp.cap, .slice v.out.a v.out.len v.out.cap, .int .i64 m.steps, .int .i64 m.fin, .int .i64 m.val] 25)).alloc (.cells #[.int .i64 kind] 3)).alloc (.cells #[.int .i64 at_] 3)).heap[w.heap.size]? = some (.cells #[.slice v.code.a v.code.len v.code.cap, .int .i64 m.pc, .slice v.regs.a v.regs.len v.regs.cap, .slice v.data.a v.data.len v.data.cap, .slice v.stk.a v.stk.len v.stk.cap, .slice v.inp.a v.inp.len v.inp.cap, .slice v.out.a v.out.len v.out.cap, .int .i64 m.steps, .int .i64 m.fin, .int .i64 m.val] 25)) := (Below.heap_alloc _ _ _ (by simp; omega)).trans ((Below.heap_alloc _ _ _ (by simp)).trans (heap_alloc_new w _))
  go_enter Try.func10, Try.ntmps10
  go_wp2_with (refine wpList_load_row rfl 25 _ rfl (w.heap.size) ?hx 25 #[.slice v.code.a v.code.len v.code.cap, .int .i64 m.pc, .slice v.regs.a v.regs.len v.regs.cap, .slice v.data.a v.data.len v.data.cap, .slice v.stk.a v.stk.len v.stk.cap, .slice v.inp.a v.inp.len v.inp.cap, .slice v.out.a v.out.len v.out.cap, .int .i64 m.steps, .int .i64 m.fin, .int .i64 m.val] (0, 0) _ ?hg Try.underlying25 ?hd ?hi ?_; (case hx => rfl); (case hg => exact P0.out); (case hd => rfl); (case hi => kernel_rfl))
  refine calls_at5' fun u0 hu0 => ?_
  have K0 : Hid (u0.heap[w.heap.size + 1]? = some (.cells #[.int .i64 kind] 3)) := by
    show u0.heap[w.heap.size + 1]? = _
    rw [hu0, Below.heap_alloc _ _ _ (by simp)]
    have := heap_alloc_new (w.alloc (.cells #[.slice v.code.a v.code.len v.code.cap, .int .i64 m.pc, .slice v.regs.a v.regs.len v.regs.cap, .slice v.data.a v.data.len v.data.cap, .slice v.stk.a v.stk.len v.stk.cap, .slice v.inp.a v.inp.len v.inp.cap, .slice v.out.a v.out.len v.out.cap, .int .i64 m.steps, .int .i64 m.fin, .int .i64 m.val] 25)) (.cells #[.int .i64 kind] 3)
    simpa using this
  have A0 : Hid (u0.heap[w.heap.size + 1 + 1]? = some (.cells #[.int .i64 at_] 3)) := by
    show u0.heap[w.heap.size + 1 + 1]? = _
    rw [hu0]
    have := heap_alloc_new ((w.alloc (.cells #[.slice v.code.a v.code.len v.code.cap, .int .i64 m.pc, .slice v.regs.a v.regs.len v.regs.cap, .slice v.data.a v.data.len v.data.cap, .slice v.stk.a v.stk.len v.stk.cap, .slice v.inp.a v.inp.len v.inp.cap, .slice v.out.a v.out.len v.out.cap, .int .i64 m.steps, .int .i64 m.fin, .int .i64 m.val] 25)).alloc (.cells #[.int .i64 kind] 3)) (.cells #[.int .i64 at_] 3)
    simpa using this
  have B0 : Hid (Below w.heap.size w u0) := by show Below w.heap.size w u0; rw [hu0]; exact (((Below.refl _ _).alloc (Nat.le_refl _) _).alloc (by simp) _).alloc (by simp; omega) _
  have Z0 : Hid (w.heap.size + 1 + 1 < u0.heap.size) := by show w.heap.size + 1 + 1 < u0.heap.size; rw [hu0]; simp
  rw [← hu0] at P0
  clear hu0
  refine (implMachineOk_any v m u0 (HH.out.keep B0.out)).mono ?_
  rintro e u1 ⟨rfl, d1⟩
  rw [hok]
  have P1 : Hid (u1.heap[w.heap.size]? = some (.cells #[.slice v.code.a v.code.len v.code.cap, .int .i64 m.pc, .slice v.regs.a v.regs.len v.regs.cap, .slice v.data.a v.data.len v.data.cap, .slice v.stk.a v.stk.len v.stk.cap, .slice v.inp.a v.inp.len v.inp.cap, .slice v.out.a v.out.len v.out.cap, .int .i64 m.steps, .int .i64 m.fin, .int .i64 m.val] 25)) := (d1.block _ (by have := Z0.out; omega)).trans P0.out
  have K1 : Hid (u1.heap[w.heap.size + 1]? = some (.cells #[.int .i64 kind] 3)) := (d1.block _ (by have := Z0.out; omega)).trans K0.out
  have A1 : Hid (u1.heap[w.heap.size + 1 + 1]? = some (.cells #[.int .i64 at_] 3)) := (d1.block _ Z0.out).trans A0.out
  have B1 : Hid (Below w.heap.size w u1) := B0.out.trans (d1.mono (by have := Z0.out; omega))
  have Z1 : Hid (w.heap.size + 1 + 1 < u1.heap.size) := Nat.lt_of_lt_of_le Z0.out d1.size
  clear d1 P0 K0 A0 B0 Z0
  have hmf : ∀ (fn : Fn) (first cap : Array Value) (w : World), (Instr.makeFunc fn first cap).run Try.prog w = .ok (.func fn first cap) w := fun _ _ _ _ => rfl
  go_wp2_with fail
  refine calls_at5' fun u2 hu2 => ?_
  have W2 : Hid (u2.heap[u1.heap.size]? = some (.cells #[.int .i64 0] 3)) := by show u2.heap[u1.heap.size]? = _; rw [hu2]; exact heap_alloc_new u1 _
  have d2 : Below u1.heap.size u1 u2 := by rw [hu2]; exact below_alloc u1 _
  have G2 : Hid (u1.heap.size < u2.heap.size) := by show u1.heap.size < u2.heap.size; rw [hu2]; simp
  have P2 : Hid (u2.heap[w.heap.size]? = some (.cells #[.slice v.code.a v.code.len v.code.cap, .int .i64 m.pc, .slice v.regs.a v.regs.len v.regs.cap, .slice v.data.a v.data.len v.data.cap, .slice v.stk.a v.stk.len v.stk.cap, .slice v.inp.a v.inp.len v.inp.cap, .slice v.out.a v.out.len v.out.cap, .int .i64 m.steps, .int .i64 m.fin, .int .i64 m.val] 25)) := (d2.block _ (by have := Z1.out; omega)).trans P1.out
  have K2 : Hid (u2.heap[w.heap.size + 1]? = some (.cells #[.int .i64 kind] 3)) := (d2.block _ (by have := Z1.out; omega)).trans K1.out
  have A2 : Hid (u2.heap[w.heap.size + 1 + 1]? = some (.cells #[.int .i64 at_] 3)) := (d2.block _ Z1.out).trans A1.out
  have B2 : Hid (Below w.heap.size w u2) := B1.out.trans (d2.mono (by have := Z1.out; omega))
  have Z2 : Hid (w.heap.size + 1 + 1 < u2.heap.size) := Nat.lt_of_lt_of_le Z1.out d2.size
  clear d2 hu2 P1 K1 A1 B1
  obtain ⟨g, hg⟩ : ∃ g, g = u1.heap.size := ⟨_, rfl⟩
  rw [← hg] at W2 G2 Z1 ⊢
  clear hg
  obtain ⟨U, hU⟩ : ∃ U, U = u2.alloc (.cells #[.int .i64 0] 3) := ⟨_, rfl⟩
  have dU : Below u2.heap.size u2 U := by rw [hU]; exact below_alloc u2 _
  have CU : Hid (U.heap[u2.heap.size]? = some (.cells #[.int .i64 0] 3) ∧ u2.heap.size < U.heap.size) := by rw [hU]; exact ⟨heap_alloc_new u2 _, by simp⟩
  have BU : Hid (Below w.heap.size w U) := B2.out.trans (dU.mono (by have := Z2.out; omega))
  have PU : U.heap[w.heap.size]? = some (.cells #[.slice v.code.a v.code.len v.code.cap, .int .i64 m.pc, .slice v.regs.a v.regs.len v.regs.cap, .slice v.data.a v.data.len v.data.cap, .slice v.stk.a v.stk.len v.stk.cap, .slice v.inp.a v.inp.len v.inp.cap, .slice v.out.a v.out.len v.out.cap, .int .i64 m.steps, .int .i64 m.fin, .int .i64 m.val] 25) := (dU.block _ (by have := Z2.out; omega)).trans P2.out
  have KU : U.heap[w.heap.size + 1]? = some (.cells #[.int .i64 kind] 3) := (dU.block _ (by have := Z2.out; omega)).trans K2.out
  have AU : U.heap[w.heap.size + 1 + 1]? = some (.cells #[.int .i64 at_] 3) := (dU.block _ Z2.out).trans A2.out
  have WU : U.heap[g]? = some (.cells #[.int .i64 0] 3) := (dU.block _ G2.out).trans W2.out
  have HL : Hid (∀ W, Below U.heap.size U W → Calls Try.prog 36 #[.agg #[.iface 88 (.slice v.data.a v.data.len v.data.cap), .iface 89 (.slice v.stk.a v.stk.len v.stk.cap)], .int .i64 kind, .int .i64 at_] W fun e w' => e = .panicked [{ v := .iface 87 (.int .i64 code), recovered := false }] ∧ Below W.heap.size W w') := fun W _ => load_bad _ _ _ _ _ _ kind at_ code W HF
  have HX := load1_bad v m kind at_ w.heap.size (w.heap.size + 1) (w.heap.size + 1 + 1) g U PU KU AU WU code HL
  refine (faultOf_badL _ u2 code (fun w' => Below U.heap.size U w') (by rw [← hU]; exact HX) (fun u hu => (hu.block _ CU.out.2).trans CU.out.1)).mono ?_
  rintro e u3 ⟨rfl, u, hb', rfl⟩
  have hcg : u.heap[g]? = some (.cells #[.int .i64 0] 3) := (hb'.block _ (Nat.lt_trans G2.out CU.out.2)).trans WU
  have hc0 : (u.setCell ⟨u2.heap.size, 0, none⟩ (.int .i64 code)).cell? ⟨g, 0, none⟩ = some (.int .i64 0) := cell_of_row _ g 0 _ 3 (0, 0) (keep_other' hcg (by have := G2.out; omega))
  have HB : Hid (Below w.heap.size w (u.setCell ⟨u2.heap.size, 0, none⟩ (.int .i64 code))) := (BU.out.trans (hb'.mono BU.out.size)).setCell (by have := Z2.out; show w.heap.size ≤ u2.heap.size; omega) _
  clear hcg hb' HX HL HF WU AU KU PU dU hU
  go_wp2
  go_ret2
  exact ⟨rfl, HB.out⟩
set_option maxHeartbeats 4000000 in
theorem implLoad_good {lo : Nat} (v : MV) (m : Pl.Mac) (kind at_ : Int) (w : World) (h : MIs lo w v m) (hok : Pl.mOk m = true) (b off p size cap : Nat) (zs : List Int) (hs : 1 ≤ size ∧ size ≤ 4) (hbl : b < w.heap.size) (hz : ∀ n ∈ zs, 0 ≤ n ∧ n ≤ 255) (hc : ∀ i, i < size → w.cell? ⟨b, off + p + i, none⟩ = some (.int .u8 (zs.getD (p + i) 0)))
    (HF : Hid (∀ W, Calls Try.prog 61 #[.agg #[.iface 88 (.slice v.data.a v.data.len v.data.cap), .iface 89 (.slice v.stk.a v.stk.len v.stk.cap)], .int .i64 kind, .int .i64 at_] W fun e w' => e = .returned (.slice (some ⟨b, off + p, none⟩) size cap) ∧ Below W.heap.size W w')) :
    Calls Try.prog 10 #[.agg #[.slice v.code.a v.code.len v.code.cap, .int .i64 m.pc, .slice v.regs.a v.regs.len v.regs.cap, .slice v.data.a v.data.len v.data.cap, .slice v.stk.a v.stk.len v.stk.cap, .slice v.inp.a v.inp.len v.inp.cap, .slice v.out.a v.out.len v.out.cap, .int .i64 m.steps, .int .i64 m.fin, .int .i64 m.val], .int .i64 kind, .int .i64 at_] w fun e w' => e = .returned (.tuple #[.int .i64 (Pl.nr kind (Pl.ldk zs p size)), .int .i64 0]) ∧ Below w.heap.size w w' := by
  have HH : Hid (MIs lo w v m) := h
  clear h
  have HC : Hid (∀ i, i < size → w.cell? ⟨b, off + p + i, none⟩ = some (.int .u8 (zs.getD (p + i) 0))) := hc
  have HZ : Hid (∀ n ∈ zs, 0 ≤ n ∧ n ≤ 255) := hz
  clear hc hz
  have P0 : Hid ((((w.alloc (.cells #[.slice v.code.a v.code.len v.code.cap, .int .i64 m.pc, .slice v.regs.a v.regs.len v.regs.cap, .slice v.data.a v.data.len v.data.cap, .slice v.stk.a v.stk.len v.stk.cap, .slice v.inp.a v.inp.len v.inp.cap, .slice v.out.a v.out.len v.out.cap, .int .i64 m.steps, .int .i64 m.fin, .int .i64 m.val] 25)).alloc (.cells #[.int .i64 kind] 3)).alloc (.cells #[.int .i64 at_] 3)).heap[w.heap.size]? = some (.cells #[.slice v.code.a v.code.len v.code.cap, .int .i64 m.pc, .slice v.regs.a v.regs.len v.regs.cap, .slice v.data.a v.data.len v.data.cap, .slice v.stk.a v.stk.len v.stk.cap, .slice v.inp.a v.inp.len v.inp.cap, .slice v.out.a v.out.len v.out.cap, .int .i64 m.steps, .int .i64 m.fin, .int .i64 m.val] 25)) := (Below.heap_alloc _ _ _ (by simp; omega)).trans ((Below.heap_alloc _ _ _ (by simp)).trans (heap_alloc_new w _))
  go_enter Try.func10, Try.ntmps10
  go_wp2_with (refine wpList_load_row rfl 25 _ rfl (w.heap.size) ?hx 25 #[.slice v.code.a v.code.len v.code.cap, .int .i64 m.pc, .slice v.regs.a v.regs.len v.regs.cap, .slice v.data.a v.data.len v.data.cap, .slice v.stk.a v.stk.len v.stk.cap, .slice v.inp.a v.inp.len v.inp.cap, .slice v.out.a v.out.len v.out.cap, .int .i64 m.steps, .int .i64 m.fin, .int .i64 m.val] (0, 0) _ ?hg Try.underlying25 ?hd ?hi ?_; (case hx => rfl); (case hg => exact P0.out); (case hd => rfl); (case hi => kernel_rfl))
  refine calls_at5' fun u0 hu0 => ?_
  have K0 : Hid (u0.heap[w.heap.size + 1]? = some (.cells #[.int .i64 kind] 3)) := by
    show u0.heap[w.heap.size + 1]? = _
    rw [hu0, Below.heap_alloc _ _ _ (by simp)]
    have := heap_alloc_new (w.alloc (.cells #[.slice v.code.a v.code.len v.code.cap, .int .i64 m.pc, .slice v.regs.a v.regs.len v.regs.cap, .slice v.data.a v.data.len v.data.cap, .slice v.stk.a v.stk.len v.stk.cap, .slice v.inp.a v.inp.len v.inp.cap, .slice v.out.a v.out.len v.out.cap, .int .i64 m.steps, .int .i64 m.fin, .int .i64 m.val] 25)) (.cells #[.int .i64 kind] 3)
    simpa using this
  have A0 : Hid (u0.heap[w.heap.size + 1 + 1]? = some (.cells #[.int .i64 at_] 3)) := by
    show u0.heap[w.heap.size + 1 + 1]? = _
    rw [hu0]
    have := heap_alloc_new ((w.alloc (.cells #[.slice v.code.a v.code.len v.code.cap, .int .i64 m.pc, .slice v.regs.a v.regs.len v.regs.cap, .slice v.data.a v.data.len v.data.cap, .slice v.stk.a v.stk.len v.stk.cap, .slice v.inp.a v.inp.len v.inp.cap, .slice v.out.a v.out.len v.out.cap, .int .i64 m.steps, .int .i64 m.fin, .int .i64 m.val] 25)).alloc (.cells #[.int .i64 kind] 3)) (.cells #[.int .i64 at_] 3)
    simpa using this
  have B0 : Hid (Below w.heap.size w u0) := by show Below w.heap.size w u0; rw [hu0]; exact (((Below.refl _ _).alloc (Nat.le_refl _) _).alloc (by simp) _).alloc (by simp; omega) _
  have Z0 : Hid (w.heap.size + 1 + 1 < u0.heap.size) := by show w.heap.size + 1 + 1 < u0.heap.size; rw [hu0]; simp
  rw [← hu0] at P0
  clear hu0
  refine (implMachineOk_any v m u0 (HH.out.keep B0.out)).mono ?_
  rintro e u1 ⟨rfl, d1⟩
  rw [hok]
  have P1 : Hid (u1.heap[w.heap.size]? = some (.cells #[.slice v.code.a v.code.len v.code.cap, .int .i64 m.pc, .slice v.regs.a v.regs.len v.regs.cap, .slice v.data.a v.data.len v.data.cap, .slice v.stk.a v.stk.len v.stk.cap, .slice v.inp.a v.inp.len v.inp.cap, .slice v.out.a v.out.len v.out.cap, .int .i64 m.steps, .int .i64 m.fin, .int .i64 m.val] 25)) := (d1.block _ (by have := Z0.out; omega)).trans P0.out
  have K1 : Hid (u1.heap[w.heap.size + 1]? = some (.cells #[.int .i64 kind] 3)) := (d1.block _ (by have := Z0.out; omega)).trans K0.out
  have A1 : Hid (u1.heap[w.heap.size + 1 + 1]? = some (.cells #[.int .i64 at_] 3)) := (d1.block _ Z0.out).trans A0.out
  have B1 : Hid (Below w.heap.size w u1) := B0.out.trans (d1.mono (by have := Z0.out; omega))
  have Z1 : Hid (w.heap.size + 1 + 1 < u1.heap.size) := Nat.lt_of_lt_of_le Z0.out d1.size
  clear d1 P0 K0 A0 B0 Z0
  have hmf : ∀ (fn : Fn) (first cap : Array Value) (w : World), (Instr.makeFunc fn first cap).run Try.prog w = .ok (.func fn first cap) w := fun _ _ _ _ => rfl
  go_wp2_with fail
  refine calls_at5' fun u2 hu2 => ?_
  have W2 : Hid (u2.heap[u1.heap.size]? = some (.cells #[.int .i64 0] 3)) := by show u2.heap[u1.heap.size]? = _; rw [hu2]; exact heap_alloc_new u1 _
  have d2 : Below u1.heap.size u1 u2 := by rw [hu2]; exact below_alloc u1 _
  have G2 : Hid (u1.heap.size < u2.heap.size) := by show u1.heap.size < u2.heap.size; rw [hu2]; simp
  have P2 : Hid (u2.heap[w.heap.size]? = some (.cells #[.slice v.code.a v.code.len v.code.cap, .int .i64 m.pc, .slice v.regs.a v.regs.len v.regs.cap, .slice v.data.a v.data.len v.data.cap, .slice v.stk.a v.stk.len v.stk.cap, .slice v.inp.a v.inp.len v.inp.cap, .slice v.out.a v.out.len v.out.cap, .int .i64 m.steps, .int .i64 m.fin, .int .i64 m.val] 25)) := (d2.block _ (by have := Z1.out; omega)).trans P1.out
  have K2 : Hid (u2.heap[w.heap.size + 1]? = some (.cells #[.int .i64 kind] 3)) := (d2.block _ (by have := Z1.out; omega)).trans K1.out
  have A2 : Hid (u2.heap[w.heap.size + 1 + 1]? = some (.cells #[.int .i64 at_] 3)) := (d2.block _ Z1.out).trans A1.out
  have B2 : Hid (Below w.heap.size w u2) := B1.out.trans (d2.mono (by have := Z1.out; omega))
  have Z2 : Hid (w.heap.size + 1 + 1 < u2.heap.size) := Nat.lt_of_lt_of_le Z1.out d2.size
  clear d2 hu2 P1 K1 A1 B1
  obtain ⟨g, hg⟩ : ∃ g, g = u1.heap.size := ⟨_, rfl⟩
  rw [← hg] at W2 G2 Z1 ⊢
  clear hg
  obtain ⟨U, hU⟩ : ∃ U, U = u2.alloc (.cells #[.int .i64 0] 3) := ⟨_, rfl⟩
  have dU : Below u2.heap.size u2 U := by rw [hU]; exact below_alloc u2 _
  have CU : Hid (U.heap[u2.heap.size]? = some (.cells #[.int .i64 0] 3) ∧ u2.heap.size < U.heap.size) := by rw [hU]; exact ⟨heap_alloc_new u2 _, by simp⟩
  have BU : Hid (Below w.heap.size w U) := B2.out.trans (dU.mono (by have := Z2.out; omega))
  have PU : U.heap[w.heap.size]? = some (.cells #[.slice v.code.a v.code.len v.code.cap, .int .i64 m.pc, .slice v.regs.a v.regs.len v.regs.cap, .slice v.data.a v.data.len v.data.cap, .slice v.stk.a v.stk.len v.stk.cap, .slice v.inp.a v.inp.len v.inp.cap, .slice v.out.a v.out.len v.out.cap, .int .i64 m.steps, .int .i64 m.fin, .int .i64 m.val] 25) := (dU.block _ (by have := Z2.out; omega)).trans P2.out
  have KU : U.heap[w.heap.size + 1]? = some (.cells #[.int .i64 kind] 3) := (dU.block _ (by have := Z2.out; omega)).trans K2.out
  have AU : U.heap[w.heap.size + 1 + 1]? = some (.cells #[.int .i64 at_] 3) := (dU.block _ Z2.out).trans A2.out
  have WU : U.heap[g]? = some (.cells #[.int .i64 0] 3) := (dU.block _ G2.out).trans W2.out
  have HL : Hid (∀ W, Below U.heap.size U W → Calls Try.prog 36 #[.agg #[.iface 88 (.slice v.data.a v.data.len v.data.cap), .iface 89 (.slice v.stk.a v.stk.len v.stk.cap)], .int .i64 kind, .int .i64 at_] W fun e w' => e = .returned (.int .i64 (Pl.nr kind (Pl.ldk zs p size))) ∧ Below W.heap.size W w') := fun W hW => by
    have hB : Below w.heap.size w W := BU.out.trans (hW.mono BU.out.size)
    exact load_good _ _ _ _ _ _ kind at_ b off p size cap 0 0 zs hs W (Nat.lt_of_lt_of_le hbl hB.size) HZ.out (fun i hi => (hB.cell (by exact hbl)).trans (HC.out i hi)) HF
  have HX := load1_good v m kind at_ w.heap.size (w.heap.size + 1) (w.heap.size + 1 + 1) g U PU KU AU WU (Pl.nr kind (Pl.ldk zs p size)) HL
  rw [hU] at HX
  refine (faultOf_goodL _ u2 (fun w' => ∃ u', w' = u'.setCell ⟨g, 0, none⟩ (.int .i64 (Pl.nr kind (Pl.ldk zs p size))) ∧ Below U.heap.size U u') (by rw [← hU] at HX ⊢; exact HX) (fun u hu => by
    obtain ⟨u', rfl, hb'⟩ := hu
    exact keep_other' ((hb'.block _ CU.out.2).trans CU.out.1) (by have := G2.out; omega))).mono ?_
  rintro e u3 ⟨rfl, u, ⟨u', rfl, hb'⟩, rfl⟩
  have hcg : u'.heap[g]? = some (.cells #[.int .i64 0] 3) := (hb'.block _ (Nat.lt_trans G2.out CU.out.2)).trans WU
  have hc0 : ((u'.setCell ⟨g, 0, none⟩ (.int .i64 (Pl.nr kind (Pl.ldk zs p size)))).setCell ⟨u2.heap.size, 0, none⟩ (.int .i64 0)).cell? ⟨g, 0, none⟩ = some (.int .i64 (Pl.nr kind (Pl.ldk zs p size))) := cell_of_row _ g 0 _ 3 (0, 0) (keep_other' (row_put' hcg 0 (.int .i64 (Pl.nr kind (Pl.ldk zs p size))) rfl) (by have := G2.out; omega))
  have HB : Hid (Below w.heap.size w ((u'.setCell ⟨g, 0, none⟩ (.int .i64 (Pl.nr kind (Pl.ldk zs p size)))).setCell ⟨u2.heap.size, 0, none⟩ (.int .i64 0))) := ((BU.out.trans (hb'.mono BU.out.size)).setCell (by have := Z1.out; show w.heap.size ≤ g; omega) _).setCell (by have := Z2.out; show w.heap.size ≤ u2.heap.size; omega) _
  clear hcg hb' HX HL HF WU AU KU PU dU hU
  go_wp2
  go_ret2
  exact ⟨rfl, HB.out⟩
end Go.Proofs.Ytfcfnbncgadomaa.W
namespace Go.Proofs.Ytfcfnbncgadomaa.W
open Go.RowKit
set_option maxHeartbeats 1000000 in
theorem specLoad_no {lo : Nat} (v : MV) (m : Pl.Mac) (kind at_ : Int) (w : World) (h : MIs lo w v m) (hok : Pl.mOk m = false) :
    Calls Try.prog 9 #[.agg #[.slice v.code.a v.code.len v.code.cap, .int .i64 m.pc, .slice v.regs.a v.regs.len v.regs.cap, .slice v.data.a v.data.len v.data.cap, .slice v.stk.a v.stk.len v.stk.cap, .slice v.inp.a v.inp.len v.inp.cap, .slice v.out.a v.out.len v.out.cap, .int .i64 m.steps, .int .i64 m.fin, .int .i64 m.val], .int .i64 kind, .int .i64 at_] w fun e w' => e = .returned (.tuple #[.int .i64 0, .int .i64 4]) ∧ Below w.heap.size w w' := by
  have HH : Hid (MIs lo w v m) := h
  clear h
  have P0 : Hid ((w.alloc (.cells #[.slice v.code.a v.code.len v.code.cap, .int .i64 m.pc, .slice v.regs.a v.regs.len v.regs.cap, .slice v.data.a v.data.len v.data.cap, .slice v.stk.a v.stk.len v.stk.cap, .slice v.inp.a v.inp.len v.inp.cap, .slice v.out.a v.out.len v.out.cap, .int .i64 m.steps, .int .i64 m.fin, .int .i64 m.val] 25)).heap[w.heap.size]? = some (.cells #[.slice v.code.a v.code.len v.code.cap, .int .i64 m.pc, .slice v.regs.a v.regs.len v.regs.cap, .slice v.data.a v.data.len v.data.cap, .slice v.stk.a v.stk.len v.stk.cap, .slice v.inp.a v.inp.len v.inp.cap, .slice v.out.a v.out.len v.out.cap, .int .i64 m.steps, .int .i64 m.fin, .int .i64 m.val] 25)) := heap_alloc_new w _
  go_enter Try.func9, Try.ntmps9
  go_wp2_with (first | (refine wpList_load_row rfl 25 _ rfl (w.heap.size) ?hx 25 #[.slice v.code.a v.code.len v.code.cap, .int .i64 m.pc, .slice v.regs.a v.regs.len v.regs.cap, .slice v.data.a v.data.len v.data.cap, .slice v.stk.a v.stk.len v.stk.cap, .slice v.inp.a v.inp.len v.inp.cap, .slice v.out.a v.out.len v.out.cap, .int .i64 m.steps, .int .i64 m.fin, .int .i64 m.val] (0, 0) _ ?hg Try.underlying25 ?hd ?hi ?_; (case hx => rfl); (case hg => exact P0.out); (case hd => rfl); (case hi => kernel_rfl)) | (go_at_call 23; refine (specMachineOk_any v m _ (HH.out.keep (below_alloc w _))).mono ?_; rintro e u1 ⟨rfl, d1⟩; rw [hok]))
  go_ret2
  exact ⟨rfl, (below_alloc w _).trans (d1.mono (by simp))⟩
set_option maxHeartbeats 1000000 in
theorem specLoad_kind {lo : Nat} (v : MV) (m : Pl.Mac) (kind at_ : Int) (w : World) (h : MIs lo w v m) (hok : Pl.mOk m = true) (hk : Pl.ks kind = 0) :
    Calls Try.prog 9 #[.agg #[.slice v.code.a v.code.len v.code.cap, .int .i64 m.pc, .slice v.regs.a v.regs.len v.regs.cap, .slice v.data.a v.data.len v.data.cap, .slice v.stk.a v.stk.len v.stk.cap, .slice v.inp.a v.inp.len v.inp.cap, .slice v.out.a v.out.len v.out.cap, .int .i64 m.steps, .int .i64 m.fin, .int .i64 m.val], .int .i64 kind, .int .i64 at_] w fun e w' => e = .returned (.tuple #[.int .i64 0, .int .i64 4]) ∧ Below w.heap.size w w' := by
  have HH : Hid (MIs lo w v m) := h
  clear h
  have P0 : Hid ((w.alloc (.cells #[.slice v.code.a v.code.len v.code.cap, .int .i64 m.pc, .slice v.regs.a v.regs.len v.regs.cap, .slice v.data.a v.data.len v.data.cap, .slice v.stk.a v.stk.len v.stk.cap, .slice v.inp.a v.inp.len v.inp.cap, .slice v.out.a v.out.len v.out.cap, .int .i64 m.steps, .int .i64 m.fin, .int .i64 m.val] 25)).heap[w.heap.size]? = some (.cells #[.slice v.code.a v.code.len v.code.cap, .int .i64 m.pc, .slice v.regs.a v.regs.len v.regs.cap, .slice v.data.a v.data.len v.data.cap, .slice v.stk.a v.stk.len v.stk.cap, .slice v.inp.a v.inp.len v.inp.cap, .slice v.out.a v.out.len v.out.cap, .int .i64 m.steps, .int .i64 m.fin, .int .i64 m.val] 25)) := heap_alloc_new w _
  go_enter Try.func9, Try.ntmps9
  go_wp2_with (first | (refine wpList_load_row rfl 25 _ rfl (w.heap.size) ?hx 25 #[.slice v.code.a v.code.len v.code.cap, .int .i64 m.pc, .slice v.regs.a v.regs.len v.regs.cap, .slice v.data.a v.data.len v.data.cap, .slice v.stk.a v.stk.len v.stk.cap, .slice v.inp.a v.inp.len v.inp.cap, .slice v.out.a v.out.len v.out.cap, .int .i64 m.steps, .int .i64 m.fin, .int .i64 m.val] (0, 0) _ ?hg Try.underlying25 ?hd ?hi ?_; (case hx => rfl); (case hg => exact P0.out); (case hd => rfl); (case hi => kernel_rfl)) | (go_at_call 23; refine (specMachineOk_any v m _ (HH.out.keep (below_alloc w _))).mono ?_; rintro e u1 ⟨rfl, d1⟩; rw [hok]) | (go_at_call 24; refine (specKindSize_any _ _).mono ?_; rintro e u2 ⟨rfl, rfl⟩; rw [hk]))
  go_ret2
  exact ⟨rfl, (below_alloc w _).trans (d1.mono (by simp))⟩
set_option maxHeartbeats 1000000 in
theorem specLoad_of {lo : Nat} (v : MV) (m : Pl.Mac) (kind at_ a b : Int) (size : Nat) (w : World) (h : MIs lo w v m) (hok : Pl.mOk m = true) (hs : 1 ≤ size ∧ size ≤ 4) (hk : Pl.ks kind = size)
    (HL : Hid (∀ W : World, W.heap[w.heap.size]? = some (.cells #[.slice v.code.a v.code.len v.code.cap, .int .i64 m.pc, .slice v.regs.a v.regs.len v.regs.cap, .slice v.data.a v.data.len v.data.cap, .slice v.stk.a v.stk.len v.stk.cap, .slice v.inp.a v.inp.len v.inp.cap, .slice v.out.a v.out.len v.out.cap, .int .i64 m.steps, .int .i64 m.fin, .int .i64 m.val] 25) → Below w.heap.size w W → Calls Try.prog 34 #[.pointer (some ⟨w.heap.size, 0, none⟩), .int .i64 kind, .int .i64 at_] W fun e w' => e = .returned (.tuple #[.int .i64 a, .int .i64 b]) ∧ w' = W)) :
    Calls Try.prog 9 #[.agg #[.slice v.code.a v.code.len v.code.cap, .int .i64 m.pc, .slice v.regs.a v.regs.len v.regs.cap, .slice v.data.a v.data.len v.data.cap, .slice v.stk.a v.stk.len v.stk.cap, .slice v.inp.a v.inp.len v.inp.cap, .slice v.out.a v.out.len v.out.cap, .int .i64 m.steps, .int .i64 m.fin, .int .i64 m.val], .int .i64 kind, .int .i64 at_] w fun e w' => e = .returned (.tuple #[.int .i64 a, .int .i64 b]) ∧ Below w.heap.size w w' := by
  have HH : Hid (MIs lo w v m) := h
  clear h
  have hs0 : ((size : Int) == 0) = false := by simp; omega
  have P0 : Hid ((w.alloc (.cells #[.slice v.code.a v.code.len v.code.cap, .int .i64 m.pc, .slice v.regs.a v.regs.len v.regs.cap, .slice v.data.a v.data.len v.data.cap, .slice v.stk.a v.stk.len v.stk.cap, .slice v.inp.a v.inp.len v.inp.cap, .slice v.out.a v.out.len v.out.cap, .int .i64 m.steps, .int .i64 m.fin, .int .i64 m.val] 25)).heap[w.heap.size]? = some (.cells #[.slice v.code.a v.code.len v.code.cap, .int .i64 m.pc, .slice v.regs.a v.regs.len v.regs.cap, .slice v.data.a v.data.len v.data.cap, .slice v.stk.a v.stk.len v.stk.cap, .slice v.inp.a v.inp.len v.inp.cap, .slice v.out.a v.out.len v.out.cap, .int .i64 m.steps, .int .i64 m.fin, .int .i64 m.val] 25)) := heap_alloc_new w _
  go_enter Try.func9, Try.ntmps9
  go_wp2_with (first | (refine wpList_load_row rfl 25 _ rfl (w.heap.size) ?hx 25 #[.slice v.code.a v.code.len v.code.cap, .int .i64 m.pc, .slice v.regs.a v.regs.len v.regs.cap, .slice v.data.a v.data.len v.data.cap, .slice v.stk.a v.stk.len v.stk.cap, .slice v.inp.a v.inp.len v.inp.cap, .slice v.out.a v.out.len v.out.cap, .int .i64 m.steps, .int .i64 m.fin, .int .i64 m.val] (0, 0) _ ?hg Try.underlying25 ?hd ?hi ?_; (case hx => rfl); (case hg => exact P0.out); (case hd => rfl); (case hi => kernel_rfl)) | (go_at_call 23; refine (specMachineOk_any v m _ (HH.out.keep (below_alloc w _))).mono ?_; rintro e u1 ⟨rfl, d1⟩; rw [hok]) | (go_at_call 24; refine (specKindSize_any _ _).mono ?_; rintro e u2 ⟨rfl, hu2⟩; rw [hu2, hk]; clear hu2) | (go_at_call 34; refine (HL.out u1 ((d1.block _ (by simp)).trans P0.out) ((below_alloc w _).trans (d1.mono (by simp)))).mono ?_; rintro e u3 ⟨rfl, hu3⟩; rw [hu3]; clear hu3))
  go_ret2
  exact ⟨rfl, (below_alloc w _).trans (d1.mono (by simp))⟩
set_option maxHeartbeats 1000000 in
theorem implLoad_no {lo : Nat} (v : MV) (m : Pl.Mac) (kind at_ : Int) (w : World) (h : MIs lo w v m) (hok : Pl.mOk m = false) :
    Calls Try.prog 10 #[.agg #[.slice v.code.a v.code.len v.code.cap, .int .i64 m.pc, .slice v.regs.a v.regs.len v.regs.cap, .slice v.data.a v.data.len v.data.cap, .slice v.stk.a v.stk.len v.stk.cap, .slice v.inp.a v.inp.len v.inp.cap, .slice v.out.a v.out.len v.out.cap, .int .i64 m.steps, .int .i64 m.fin, .int .i64 m.val], .int .i64 kind, .int .i64 at_] w fun e w' => e = .returned (.tuple #[.int .i64 0, .int .i64 4]) ∧ Below w.heap.size w w' := by
  have HH : Hid (MIs lo w v m) := h
  clear h
  have hB : Hid (Below w.heap.size w (((w.alloc (.cells #[.slice v.code.a v.code.len v.code.cap, .int .i64 m.pc, .slice v.regs.a v.regs.len v.regs.cap, .slice v.data.a v.data.len v.data.cap, .slice v.stk.a v.stk.len v.stk.cap, .slice v.inp.a v.inp.len v.inp.cap, .slice v.out.a v.out.len v.out.cap, .int .i64 m.steps, .int .i64 m.fin, .int .i64 m.val] 25)).alloc (.cells #[.int .i64 kind] 3)).alloc (.cells #[.int .i64 at_] 3))) := (((Below.refl _ _).alloc (Nat.le_refl _) _).alloc (by simp) _).alloc (by simp; omega) _
  have P0 : Hid ((((w.alloc (.cells #[.slice v.code.a v.code.len v.code.cap, .int .i64 m.pc, .slice v.regs.a v.regs.len v.regs.cap, .slice v.data.a v.data.len v.data.cap, .slice v.stk.a v.stk.len v.stk.cap, .slice v.inp.a v.inp.len v.inp.cap, .slice v.out.a v.out.len v.out.cap, .int .i64 m.steps, .int .i64 m.fin, .int .i64 m.val] 25)).alloc (.cells #[.int .i64 kind] 3)).alloc (.cells #[.int .i64 at_] 3)).heap[w.heap.size]? = some (.cells #[.slice v.code.a v.code.len v.code.cap, .int .i64 m.pc, .slice v.regs.a v.regs.len v.regs.cap, .slice v.data.a v.data.len v.data.cap, .slice v.stk.a v.stk.len v.stk.cap, .slice v.inp.a v.inp.len v.inp.cap, .slice v.out.a v.out.len v.out.cap, .int .i64 m.steps, .int .i64 m.fin, .int .i64 m.val] 25)) := (Below.heap_alloc _ _ _ (by simp; omega)).trans ((Below.heap_alloc _ _ _ (by simp)).trans (heap_alloc_new w _))
  go_enter Try.func10, Try.ntmps10
  go_wp2_with (first | (refine wpList_load_row rfl 25 _ rfl (w.heap.size) ?hx 25 #[.slice v.code.a v.code.len v.code.cap, .int .i64 m.pc, .slice v.regs.a v.regs.len v.regs.cap, .slice v.data.a v.data.len v.data.cap, .slice v.stk.a v.stk.len v.stk.cap, .slice v.inp.a v.inp.len v.inp.cap, .slice v.out.a v.out.len v.out.cap, .int .i64 m.steps, .int .i64 m.fin, .int .i64 m.val] (0, 0) _ ?hg Try.underlying25 ?hd ?hi ?_; (case hx => rfl); (case hg => exact P0.out); (case hd => rfl); (case hi => kernel_rfl)) | (go_at_call 27; refine (implMachineOk_any v m _ (HH.out.keep hB.out)).mono ?_; rintro e u1 ⟨rfl, d1⟩; rw [hok]))
  go_ret2
  exact ⟨rfl, hB.out.trans (d1.mono hB.out.size)⟩
/-- both loads answer the same -/
theorem loads_agree (m : Pl.Mac) (kind at_ : Int) (hb : -9223372036854775808 ≤ at_ ∧ at_ ≤ 9223372036854775807) : ∃ a b : Int,
    (∀ (lo : Nat) (v : MV) (w : World), MIs lo w v m → Calls Try.prog 9 #[.agg #[.slice v.code.a v.code.len v.code.cap, .int .i64 m.pc, .slice v.regs.a v.regs.len v.regs.cap, .slice v.data.a v.data.len v.data.cap, .slice v.stk.a v.stk.len v.stk.cap, .slice v.inp.a v.inp.len v.inp.cap, .slice v.out.a v.out.len v.out.cap, .int .i64 m.steps, .int .i64 m.fin, .int .i64 m.val], .int .i64 kind, .int .i64 at_] w fun e w' => e = .returned (.tuple #[.int .i64 a, .int .i64 b]) ∧ Below w.heap.size w w') ∧
    (∀ (lo : Nat) (v : MV) (w : World), MIs lo w v m → Calls Try.prog 10 #[.agg #[.slice v.code.a v.code.len v.code.cap, .int .i64 m.pc, .slice v.regs.a v.regs.len v.regs.cap, .slice v.data.a v.data.len v.data.cap, .slice v.stk.a v.stk.len v.stk.cap, .slice v.inp.a v.inp.len v.inp.cap, .slice v.out.a v.out.len v.out.cap, .int .i64 m.steps, .int .i64 m.fin, .int .i64 m.val], .int .i64 kind, .int .i64 at_] w fun e w' => e = .returned (.tuple #[.int .i64 a, .int .i64 b]) ∧ Below w.heap.size w w') := by
  cases hok : Pl.mOk m
  · exact ⟨0, 4, fun lo v w h => specLoad_no v m kind at_ w h hok, fun lo v w h => implLoad_no v m kind at_ w h hok⟩
  by_cases hk0 : Pl.ks kind = 0
  · exact ⟨0, 4, fun lo v w h => specLoad_kind v m kind at_ w h hok hk0, fun lo v w h => implLoad_bad v m kind at_ w h hok 4 (fun W => find_kind _ _ _ _ _ _ kind at_ hk0 W)⟩
  have hmd : m.data.length ≤ 65536 ∧ m.stk.length ≤ 65536 := by
    have := hok
    unfold Pl.mOk Pl.skOk at this
    simp only [Bool.and_eq_true, decide_eq_true_eq] at this
    obtain ⟨_, h1, h2, _⟩ := this
    omega
  obtain ⟨size, hk, hs4⟩ : ∃ size : Nat, Pl.ks kind = size ∧ (size = 1 ∨ size = 2 ∨ size = 4) := by
    unfold Pl.ks at hk0 ⊢
    split
    · exact ⟨1, rfl, .inl rfl⟩
    · split
      · exact ⟨2, rfl, .inr (.inl rfl)⟩
      · split
        · exact ⟨4, rfl, .inr (.inr rfl)⟩
        · simp_all
  have hs : 1 ≤ size ∧ size ≤ 4 := by omega
  by_cases ha : at_.tmod (size : Int) = 0
  rotate_left
  · have ha' : (at_.tmod (size : Int) != 0) = true := by simpa using ha
    exact ⟨0, 3, fun lo v w h => specLoad_of v m kind at_ 0 3 size w h hok hs hk (fun W _ _ => l3Load_align _ kind at_ size hs hk ha' W),
      fun lo v w h => implLoad_bad v m kind at_ w h hok 3 (fun W => find_align _ _ _ _ _ _ kind at_ size hs hk ha' hb W)⟩
  have ha' : (at_.tmod (size : Int) != 0) = false := by rw [ha]; rfl
  by_cases hd : 1048576 ≤ at_ ∧ at_ - 1048576 ≤ (m.data.length : Int) - size
  · obtain ⟨p, hp⟩ : ∃ p : Nat, at_ = 1048576 + p := ⟨(at_ - 1048576).toNat, by omega⟩
    refine ⟨Pl.nr kind (Pl.ldk m.data p size), 0, fun lo v w h => ?_, fun lo v w h => ?_⟩
    · have hr := h.2.2.1
      have hr' := h.2.2.2.1
      have hz : ∀ n ∈ m.data, 0 ≤ n ∧ n ≤ 255 := fun n hn => bounds_u8 (hr.2.2.2.1 n hn)
      have hlen := hr.1
      have hlen' := hr'.1
      obtain ⟨b, off, hadr, _, hbl, hcell⟩ := hr.2.2.2.2.resolve_left (by omega)
      refine specLoad_of v m kind at_ _ 0 size w h hok hs hk (fun W hW hB => ?_)
      exact l3Load_data v m w.heap.size kind at_ b off p size m.data W hW hb (by omega) (by omega) hs hs4 hk ha' hp (by omega) hadr hz (fun i hi => (hB.cell (by exact hbl)).trans (hcell (p + i) (by omega)))
    · have hr := h.2.2.1
      have hz : ∀ n ∈ m.data, 0 ≤ n ∧ n ≤ 255 := fun n hn => bounds_u8 (hr.2.2.2.1 n hn)
      have hlen := hr.1
      have hc := hr.2.1
      have hm := hr.2.2.1
      unfold maxLen at hm
      obtain ⟨b, off, hadr, _, hbl, hcell⟩ := hr.2.2.2.2.resolve_left (by omega)
      refine implLoad_good v m kind at_ w h hok b off p size (v.data.cap - p) m.data hs hbl hz (fun i hi => by rw [Nat.add_assoc]; exact hcell (p + i) (by omega)) (fun W => ?_)
      rw [hadr]
      exact find_data b off _ _ _ _ _ kind at_ p size hs hk ha (by omega) hc (by omega) hp (by omega) W
  have hd0 : at_ < 1048576 ∨ (m.data.length : Int) - size < at_ - 1048576 := by omega
  by_cases ht : 2097152 - (m.stk.length : Int) ≤ at_ ∧ at_ - (2097152 - (m.stk.length : Int)) ≤ (m.stk.length : Int) - size
  · obtain ⟨p, hp⟩ : ∃ p : Nat, at_ = 2097152 - (m.stk.length : Int) + p := ⟨(at_ - (2097152 - (m.stk.length : Int))).toNat, by omega⟩
    refine ⟨Pl.nr kind (Pl.ldk m.stk p size), 0, fun lo v w h => ?_, fun lo v w h => ?_⟩
    · have hr' := h.2.2.1
      have hr := h.2.2.2.1
      have hz : ∀ n ∈ m.stk, 0 ≤ n ∧ n ≤ 255 := fun n hn => bounds_u8 (hr.2.2.2.1 n hn)
      have hlen := hr.1
      have hlen' := hr'.1
      obtain ⟨b, off, hadr, _, hbl, hcell⟩ := hr.2.2.2.2.resolve_left (by omega)
      refine specLoad_of v m kind at_ _ 0 size w h hok hs hk (fun W hW hB => ?_)
      exact l3Load_stack v m w.heap.size kind at_ b off p size m.stk W hW hb (by omega) (by omega) hs hs4 hk ha' (by show at_ < 1048576 ∨ (v.data.len : Int) - size < at_ - 1048576; omega) (by show at_ = _; omega) (by omega) hadr hz (fun i hi => (hB.cell (by exact hbl)).trans (hcell (p + i) (by omega)))
    · have hr' := h.2.2.1
      have hr := h.2.2.2.1
      have hz : ∀ n ∈ m.stk, 0 ≤ n ∧ n ≤ 255 := fun n hn => bounds_u8 (hr.2.2.2.1 n hn)
      have hlen := hr.1
      have hlen' := hr'.1
      have hc := hr.2.1
      have hm := hr.2.2.1
      unfold maxLen at hm
      obtain ⟨b, off, hadr, _, hbl, hcell⟩ := hr.2.2.2.2.resolve_left (by omega)
      refine implLoad_good v m kind at_ w h hok b off p size (v.stk.cap - p) m.stk hs hbl hz (fun i hi => by rw [Nat.add_assoc]; exact hcell (p + i) (by omega)) (fun W => ?_)
      rw [hadr]
      exact find_stack _ b off _ _ _ _ kind at_ p size hs hk ha hb (by omega) (by omega) hc (by omega) (by show at_ < 1048576 ∨ (v.data.len : Int) - size < at_ - 1048576; omega) (by show at_ = _; omega) (by omega) W
  have hd1 : at_ < 2097152 - (m.stk.length : Int) ∨ (m.stk.length : Int) - size < at_ - (2097152 - (m.stk.length : Int)) := by omega
  refine ⟨0, 4, fun lo v w h => ?_, fun lo v w h => ?_⟩
  · have hlen := h.2.2.1.1
    have hlen' := h.2.2.2.1.1
    refine specLoad_of v m kind at_ 0 4 size w h hok hs hk (fun W hW hB => ?_)
    exact l3Load_none v m w.heap.size kind at_ size W hW hb (by omega) (by omega) hs hk ha' (by show at_ < 1048576 ∨ (v.data.len : Int) - size < at_ - 1048576; omega) (by show at_ < 2097152 - (v.stk.len : Int) ∨ (v.stk.len : Int) - size < at_ - (2097152 - (v.stk.len : Int)); omega)
  · have hlen := h.2.2.1.1
    have hlen' := h.2.2.2.1.1
    refine implLoad_bad v m kind at_ w h hok 4 (fun W => ?_)
    exact find_none _ _ _ _ _ _ kind at_ size hs hk ha hb (by omega) (by omega) (by show at_ < 1048576 ∨ (v.data.len : Int) - size < at_ - 1048576; omega) (by show at_ < 2097152 - (v.stk.len : Int) ∨ (v.stk.len : Int) - size < at_ - (2097152 - (v.stk.len : Int)); omega) W
end Go.Proofs.Ytfcfnbncgadomaa.W
namespace Go.Proofs.Ytfcfnbncgadomaa.Pl
def ldW (m : Mac) (k a : Int) : Int × Int := if mOk m = true ∧ ks k ≠ 0 then ldv m k a else (0, 4)
def stW (m : Mac) (k a x : Int) : Mac × Int := if mOk m = true ∧ ks k ≠ 0 then stv m k a x else (m, 4)
theorem ldW_no {m : Mac} (h : mOk m = false) (k a : Int) : ldW m k a = (0, 4) := by unfold ldW; rw [if_neg (fun q => by rw [h] at q; exact absurd q.1 (by decide))]
theorem ldW_kind {k : Int} (h : ks k = 0) (m : Mac) (a : Int) : ldW m k a = (0, 4) := by unfold ldW; rw [if_neg (fun q => q.2 h)]
theorem ldW_yes {m : Mac} {k : Int} (h1 : mOk m = true) (h2 : ¬ ks k = 0) (a : Int) : ldW m k a = ldv m k a := by unfold ldW; rw [if_pos ⟨h1, h2⟩]
theorem stW_no {m : Mac} (h : mOk m = false) (k a x : Int) : stW m k a x = (m, 4) := by unfold stW; rw [if_neg (fun q => by rw [h] at q; exact absurd q.1 (by decide))]
theorem stW_kind {k : Int} (h : ks k = 0) (m : Mac) (a x : Int) : stW m k a x = (m, 4) := by unfold stW; rw [if_neg (fun q => q.2 h)]
theorem stW_yes {m : Mac} {k : Int} (h1 : mOk m = true) (h2 : ¬ ks k = 0) (a x : Int) : stW m k a x = stv m k a x := by unfold stW; rw [if_pos ⟨h1, h2⟩]
theorem ldv_align {m : Mac} {k a : Int} {size : Nat} (hk : ks k = size) (ha : (a.tmod (size : Int) != 0) = true) : ldv m k a = (0, 3) := by unfold ldv; rw [hk, if_pos ha]
theorem stv_align {m : Mac} {k a x : Int} {size : Nat} (hk : ks k = size) (ha : (a.tmod (size : Int) != 0) = true) : stv m k a x = (m, 3) := by unfold stv; rw [hk, if_pos ha]
theorem ldv_data {m : Mac} {k a : Int} {size p : Nat} (hk : ks k = size) (ha : (a.tmod (size : Int) != 0) = false) (hd : 1048576 ≤ a ∧ a - 1048576 ≤ (m.data.length : Int) - size) (hp : a = 1048576 + p) : ldv m k a = (nr k (ldk m.data p size), 0) := by
  unfold ldv
  rw [hk, if_neg (by rw [ha]; decide), Int.toNat_natCast, if_pos (by unfold inD; omega), show (a - 1048576).toNat = p by omega]
theorem stv_data {m : Mac} {k a x : Int} {size p : Nat} (hk : ks k = size) (ha : (a.tmod (size : Int) != 0) = false) (hd : 1048576 ≤ a ∧ a - 1048576 ≤ (m.data.length : Int) - size) (hp : a = 1048576 + p) : stv m k a x = ({ m with data := stk_ m.data p x size }, 0) := by
  unfold stv
  rw [hk, if_neg (by rw [ha]; decide), Int.toNat_natCast, if_pos (by unfold inD; omega), show (a - 1048576).toNat = p by omega]
theorem ldv_stack {m : Mac} {k a : Int} {size p : Nat} (hk : ks k = size) (ha : (a.tmod (size : Int) != 0) = false) (hd : ¬ (1048576 ≤ a ∧ a - 1048576 ≤ (m.data.length : Int) - size)) (ht : 2097152 - (m.stk.length : Int) ≤ a ∧ a - (2097152 - (m.stk.length : Int)) ≤ (m.stk.length : Int) - size) (hp : a = 2097152 - (m.stk.length : Int) + p) : ldv m k a = (nr k (ldk m.stk p size), 0) := by
  unfold ldv
  rw [hk, if_neg (by rw [ha]; decide), Int.toNat_natCast, if_neg (by unfold inD; omega), if_pos (by unfold inS; omega), show (a - (2097152 - (m.stk.length : Int))).toNat = p by omega]
theorem stv_stack {m : Mac} {k a x : Int} {size p : Nat} (hk : ks k = size) (ha : (a.tmod (size : Int) != 0) = false) (hd : ¬ (1048576 ≤ a ∧ a - 1048576 ≤ (m.data.length : Int) - size)) (ht : 2097152 - (m.stk.length : Int) ≤ a ∧ a - (2097152 - (m.stk.length : Int)) ≤ (m.stk.length : Int) - size) (hp : a = 2097152 - (m.stk.length : Int) + p) : stv m k a x = ({ m with stk := stk_ m.stk p x size }, 0) := by
  unfold stv
  rw [hk, if_neg (by rw [ha]; decide), Int.toNat_natCast, if_neg (by unfold inD; omega), if_pos (by unfold inS; omega), show (a - (2097152 - (m.stk.length : Int))).toNat = p by omega]
theorem ldv_none {m : Mac} {k a : Int} {size : Nat} (hk : ks k = size) (ha : (a.tmod (size : Int) != 0) = false) (hd : ¬ (1048576 ≤ a ∧ a - 1048576 ≤ (m.data.length : Int) - size)) (ht : ¬ (2097152 - (m.stk.length : Int) ≤ a ∧ a - (2097152 - (m.stk.length : Int)) ≤ (m.stk.length : Int) - size)) : ldv m k a = (0, 4) := by
  unfold ldv
  rw [hk, if_neg (by rw [ha]; decide), Int.toNat_natCast, if_neg (by unfold inD; omega), if_neg (by unfold inS; omega)]
theorem stv_none {m : Mac} {k a x : Int} {size : Nat} (hk : ks k = size) (ha : (a.tmod (size : Int) != 0) = false) (hd : ¬ (1048576 ≤ a ∧ a - 1048576 ≤ (m.data.length : Int) - size)) (ht : ¬ (2097152 - (m.stk.length : Int) ≤ a ∧ a - (2097152 - (m.stk.length : Int)) ≤ (m.stk.length : Int) - size)) : stv m k a x = (m, 4) := by
  unfold stv
  rw [hk, if_neg (by rw [ha]; decide), Int.toNat_natCast, if_neg (by unfold inD; omega), if_neg (by unfold inS; omega)]
theorem mOk_stv {m : Mac} (h : mOk m = true) (k a x : Int) : mOk (stv m k a x).1 = true := by
  have key : ∀ (d s : List Int), d.length = m.data.length → s.length = m.stk.length → mOk { m with data := d, stk := s } = true := fun d s h1 h2 => by
    unfold mOk at h ⊢
    dsimp only
    rw [h1, h2]
    exact h
  unfold stv
  split
  · exact h
  · split
    · exact key _ m.stk (stk_length _ _ _ _) rfl
    · split
      · exact key m.data _ rfl (stk_length _ _ _ _)
      · exact h
theorem stv_keeps (m : Mac) (k a x : Int) (h : (stv m k a x).2 ≠ 0) : (stv m k a x).1 = m := by
  unfold stv at h ⊢
  split at h
  · rename_i q; rw [if_pos q]
  · rename_i q
    rw [if_neg q]
    split at h
    · exact absurd rfl h
    · rename_i q2
      rw [if_neg q2]
      split at h
      · exact absurd rfl h
      · rename_i q3; rw [if_neg q3]
theorem stW_keeps (m : Mac) (k a x : Int) (h : (stW m k a x).2 ≠ 0) : (stW m k a x).1 = m := by
  unfold stW at h ⊢
  split at h
  · rename_i q; rw [if_pos q]; exact stv_keeps m k a x h
  · rename_i q; rw [if_neg q]
/-- behind a store without a fault a load gives what was stored -/
theorem ldW_stW (m : Mac) (k a x : Int) (h : (stW m k a x).2 = 0) : ldW (stW m k a x).1 k a = (nr k x, 0) := by
  unfold stW at h ⊢
  split at h
  · rename_i q
    rw [if_pos q]
    have hk : 1 ≤ k ∧ k ≤ 5 := by
      have := q.2
      unfold ks at this
      split at this
      · omega
      · split at this
        · omega
        · split at this
          · omega
          · exact absurd rfl this
    rw [ldW_yes (mOk_stv q.1 k a x) q.2]
    exact ldv_stv m k a x hk.1 hk.2 h
  · exact absurd h (show ¬ (4 : Int) = 0 by decide)
end Go.Proofs.Ytfcfnbncgadomaa.Pl
namespace Go.Proofs.Ytfcfnbncgadomaa.W
open Go.RowKit
theorem loads_at (m : Pl.Mac) (kind at_ : Int) (hb : -9223372036854775808 ≤ at_ ∧ at_ ≤ 9223372036854775807) : ∃ a b : Int, Pl.ldW m kind at_ = (a, b) ∧
    (∀ (lo : Nat) (v : MV) (w : World), MIs lo w v m → Calls Try.prog 9 #[.agg #[.slice v.code.a v.code.len v.code.cap, .int .i64 m.pc, .slice v.regs.a v.regs.len v.regs.cap, .slice v.data.a v.data.len v.data.cap, .slice v.stk.a v.stk.len v.stk.cap, .slice v.inp.a v.inp.len v.inp.cap, .slice v.out.a v.out.len v.out.cap, .int .i64 m.steps, .int .i64 m.fin, .int .i64 m.val], .int .i64 kind, .int .i64 at_] w fun e w' => e = .returned (.tuple #[.int .i64 a, .int .i64 b]) ∧ Below w.heap.size w w') ∧
    (∀ (lo : Nat) (v : MV) (w : World), MIs lo w v m → Calls Try.prog 10 #[.agg #[.slice v.code.a v.code.len v.code.cap, .int .i64 m.pc, .slice v.regs.a v.regs.len v.regs.cap, .slice v.data.a v.data.len v.data.cap, .slice v.stk.a v.stk.len v.stk.cap, .slice v.inp.a v.inp.len v.inp.cap, .slice v.out.a v.out.len v.out.cap, .int .i64 m.steps, .int .i64 m.fin, .int .i64 m.val], .int .i64 kind, .int .i64 at_] w fun e w' => e = .returned (.tuple #[.int .i64 a, .int .i64 b]) ∧ Below w.heap.size w w') := by
  cases hok : Pl.mOk m
  · exact ⟨0, 4, Pl.ldW_no hok _ _, fun lo v w h => specLoad_no v m kind at_ w h hok, fun lo v w h => implLoad_no v m kind at_ w h hok⟩
  by_cases hk0 : Pl.ks kind = 0
  · exact ⟨0, 4, Pl.ldW_kind hk0 _ _, fun lo v w h => specLoad_kind v m kind at_ w h hok hk0, fun lo v w h => implLoad_bad v m kind at_ w h hok 4 (fun W => find_kind _ _ _ _ _ _ kind at_ hk0 W)⟩
  have hmd : m.data.length ≤ 65536 ∧ m.stk.length ≤ 65536 := by
    have := hok
    unfold Pl.mOk Pl.skOk at this
    simp only [Bool.and_eq_true, decide_eq_true_eq] at this
    obtain ⟨_, h1, h2, _⟩ := this
    omega
  obtain ⟨size, hk, hs4⟩ : ∃ size : Nat, Pl.ks kind = size ∧ (size = 1 ∨ size = 2 ∨ size = 4) := by
    unfold Pl.ks at hk0 ⊢
    split
    · exact ⟨1, rfl, .inl rfl⟩
    · split
      · exact ⟨2, rfl, .inr (.inl rfl)⟩
      · split
        · exact ⟨4, rfl, .inr (.inr rfl)⟩
        · simp_all
  have hs : 1 ≤ size ∧ size ≤ 4 := by omega
  by_cases ha : at_.tmod (size : Int) = 0
  rotate_left
  · have ha' : (at_.tmod (size : Int) != 0) = true := by simpa using ha
    exact ⟨0, 3, (Pl.ldW_yes hok hk0 _).trans (Pl.ldv_align hk ha'), fun lo v w h => specLoad_of v m kind at_ 0 3 size w h hok hs hk (fun W _ _ => l3Load_align _ kind at_ size hs hk ha' W),
      fun lo v w h => implLoad_bad v m kind at_ w h hok 3 (fun W => find_align _ _ _ _ _ _ kind at_ size hs hk ha' hb W)⟩
  have ha' : (at_.tmod (size : Int) != 0) = false := by rw [ha]; rfl
  by_cases hd : 1048576 ≤ at_ ∧ at_ - 1048576 ≤ (m.data.length : Int) - size
  · obtain ⟨p, hp⟩ : ∃ p : Nat, at_ = 1048576 + p := ⟨(at_ - 1048576).toNat, by omega⟩
    refine ⟨Pl.nr kind (Pl.ldk m.data p size), 0, (Pl.ldW_yes hok hk0 _).trans (Pl.ldv_data hk ha' hd hp), fun lo v w h => ?_, fun lo v w h => ?_⟩
    · have hr := h.2.2.1
      have hr' := h.2.2.2.1
      have hz : ∀ n ∈ m.data, 0 ≤ n ∧ n ≤ 255 := fun n hn => Pl.u8_bd (hr.2.2.2.1 n hn)
      have hlen := hr.1
      have hlen' := hr'.1
      obtain ⟨b, off, hadr, _, hbl, hcell⟩ := hr.2.2.2.2.resolve_left (by omega)
      refine specLoad_of v m kind at_ _ 0 size w h hok hs hk (fun W hW hB => ?_)
      exact l3Load_data v m w.heap.size kind at_ b off p size m.data W hW hb (by omega) (by omega) hs hs4 hk ha' hp (by omega) hadr hz (fun i hi => (hB.cell (by exact hbl)).trans (hcell (p + i) (by omega)))
    · have hr := h.2.2.1
      have hz : ∀ n ∈ m.data, 0 ≤ n ∧ n ≤ 255 := fun n hn => Pl.u8_bd (hr.2.2.2.1 n hn)
      have hlen := hr.1
      have hc := hr.2.1
      have hm := hr.2.2.1
      unfold maxLen at hm
      obtain ⟨b, off, hadr, _, hbl, hcell⟩ := hr.2.2.2.2.resolve_left (by omega)
      refine implLoad_good v m kind at_ w h hok b off p size (v.data.cap - p) m.data hs hbl hz (fun i hi => by rw [Nat.add_assoc]; exact hcell (p + i) (by omega)) (fun W => ?_)
      rw [hadr]
      exact find_data b off _ _ _ _ _ kind at_ p size hs hk ha (by omega) hc (by omega) hp (by omega) W
  have hd0 : at_ < 1048576 ∨ (m.data.length : Int) - size < at_ - 1048576 := by omega
  by_cases ht : 2097152 - (m.stk.length : Int) ≤ at_ ∧ at_ - (2097152 - (m.stk.length : Int)) ≤ (m.stk.length : Int) - size
  · obtain ⟨p, hp⟩ : ∃ p : Nat, at_ = 2097152 - (m.stk.length : Int) + p := ⟨(at_ - (2097152 - (m.stk.length : Int))).toNat, by omega⟩
    refine ⟨Pl.nr kind (Pl.ldk m.stk p size), 0, (Pl.ldW_yes hok hk0 _).trans (Pl.ldv_stack hk ha' hd ht hp), fun lo v w h => ?_, fun lo v w h => ?_⟩
    · have hr' := h.2.2.1
      have hr := h.2.2.2.1
      have hz : ∀ n ∈ m.stk, 0 ≤ n ∧ n ≤ 255 := fun n hn => Pl.u8_bd (hr.2.2.2.1 n hn)
      have hlen := hr.1
      have hlen' := hr'.1
      obtain ⟨b, off, hadr, _, hbl, hcell⟩ := hr.2.2.2.2.resolve_left (by omega)
      refine specLoad_of v m kind at_ _ 0 size w h hok hs hk (fun W hW hB => ?_)
      exact l3Load_stack v m w.heap.size kind at_ b off p size m.stk W hW hb (by omega) (by omega) hs hs4 hk ha' (by show at_ < 1048576 ∨ (v.data.len : Int) - size < at_ - 1048576; omega) (by show at_ = _; omega) (by omega) hadr hz (fun i hi => (hB.cell (by exact hbl)).trans (hcell (p + i) (by omega)))
    · have hr' := h.2.2.1
      have hr := h.2.2.2.1
      have hz : ∀ n ∈ m.stk, 0 ≤ n ∧ n ≤ 255 := fun n hn => Pl.u8_bd (hr.2.2.2.1 n hn)
      have hlen := hr.1
      have hlen' := hr'.1
      have hc := hr.2.1
      have hm := hr.2.2.1
      unfold maxLen at hm
      obtain ⟨b, off, hadr, _, hbl, hcell⟩ := hr.2.2.2.2.resolve_left (by omega)
      refine implLoad_good v m kind at_ w h hok b off p size (v.stk.cap - p) m.stk hs hbl hz (fun i hi => by rw [Nat.add_assoc]; exact hcell (p + i) (by omega)) (fun W => ?_)
      rw [hadr]
      exact find_stack _ b off _ _ _ _ kind at_ p size hs hk ha hb (by omega) (by omega) hc (by omega) (by show at_ < 1048576 ∨ (v.data.len : Int) - size < at_ - 1048576; omega) (by show at_ = _; omega) (by omega) W
  have hd1 : at_ < 2097152 - (m.stk.length : Int) ∨ (m.stk.length : Int) - size < at_ - (2097152 - (m.stk.length : Int)) := by omega
  refine ⟨0, 4, (Pl.ldW_yes hok hk0 _).trans (Pl.ldv_none hk ha' hd ht), fun lo v w h => ?_, fun lo v w h => ?_⟩
  · have hlen := h.2.2.1.1
    have hlen' := h.2.2.2.1.1
    refine specLoad_of v m kind at_ 0 4 size w h hok hs hk (fun W hW hB => ?_)
    exact l3Load_none v m w.heap.size kind at_ size W hW hb (by omega) (by omega) hs hk ha' (by show at_ < 1048576 ∨ (v.data.len : Int) - size < at_ - 1048576; omega) (by show at_ < 2097152 - (v.stk.len : Int) ∨ (v.stk.len : Int) - size < at_ - (2097152 - (v.stk.len : Int)); omega)
  · have hlen := h.2.2.1.1
    have hlen' := h.2.2.2.1.1
    refine implLoad_bad v m kind at_ w h hok 4 (fun W => ?_)
    exact find_none _ _ _ _ _ _ kind at_ size hs hk ha hb (by omega) (by omega) (by show at_ < 1048576 ∨ (v.data.len : Int) - size < at_ - 1048576; omega) (by show at_ < 2097152 - (v.stk.len : Int) ∨ (v.stk.len : Int) - size < at_ - (2097152 - (v.stk.len : Int)); omega) W
theorem stores_at (m : Pl.Mac) (kind at_ x : Int) (hsz : Pl.mSize m ≤ 1048576) (hb : -9223372036854775808 ≤ at_ ∧ at_ ≤ 9223372036854775807) (hx : -9223372036854775808 ≤ x ∧ x ≤ 9223372036854775807) : ∃ (m' : Pl.Mac) (c : Int), Pl.stW m kind at_ x = (m', c) ∧
    m'.pc = m.pc ∧ m'.steps = m.steps ∧ m'.fin = m.fin ∧ m'.val = m.val ∧ Pl.mSize m' = Pl.mSize m ∧ Stores 6 m kind at_ x m' c ∧ Stores 7 m kind at_ x m' c := by
  cases hok : Pl.mOk m
  · exact ⟨m, 4, Pl.stW_no hok _ _ _, rfl, rfl, rfl, rfl, rfl, fun lo v w h => specStore_no v m kind at_ x w h hsz hok rfl, fun lo v w h => implStore_no v m kind at_ x w h hsz hok⟩
  by_cases hk0 : Pl.ks kind = 0
  · exact ⟨m, 4, Pl.stW_kind hk0 _ _ _, rfl, rfl, rfl, rfl, rfl, fun lo v w h => specStore_kind v m kind at_ x w h hsz hok hk0, fun lo v w h => implStore_bad v m kind at_ x w h hsz hok 4 (fun v1 _ _ W => find_kind _ _ _ _ _ _ kind at_ hk0 W)⟩
  have hmd : m.data.length ≤ 65536 ∧ m.stk.length ≤ 65536 := by
    have := hok
    unfold Pl.mOk Pl.skOk at this
    simp only [Bool.and_eq_true, decide_eq_true_eq] at this
    obtain ⟨_, h1, h2, _⟩ := this
    omega
  obtain ⟨size, hk, hs4⟩ : ∃ size : Nat, Pl.ks kind = size ∧ (size = 1 ∨ size = 2 ∨ size = 4) := by
    unfold Pl.ks at hk0 ⊢
    split
    · exact ⟨1, rfl, .inl rfl⟩
    · split
      · exact ⟨2, rfl, .inr (.inl rfl)⟩
      · split
        · exact ⟨4, rfl, .inr (.inr rfl)⟩
        · simp_all
  have hs : 1 ≤ size ∧ size ≤ 4 := by omega
  by_cases ha : at_.tmod (size : Int) = 0
  rotate_left
  · have ha' : (at_.tmod (size : Int) != 0) = true := by simpa using ha
    exact ⟨m, 3, (Pl.stW_yes hok hk0 _ _).trans (Pl.stv_align hk ha'), rfl, rfl, rfl, rfl, rfl, fun lo v w h => specStore_same v m kind at_ x w h hsz hok size hs hk 3 (fun v1 g W _ _ _ => l3Store_align g kind at_ x size hs hk ha' W),
      fun lo v w h => implStore_bad v m kind at_ x w h hsz hok 3 (fun v1 _ _ W => find_align _ _ _ _ _ _ kind at_ size hs hk ha' hb W)⟩
  have ha' : (at_.tmod (size : Int) != 0) = false := by rw [ha]; rfl
  by_cases hd : 1048576 ≤ at_ ∧ at_ - 1048576 ≤ (m.data.length : Int) - size
  · obtain ⟨p, hp⟩ : ∃ p : Nat, at_ = 1048576 + p := ⟨(at_ - 1048576).toNat, by omega⟩
    refine ⟨{ m with data := Pl.stk_ m.data p x size }, 0, (Pl.stW_yes hok hk0 _ _).trans (Pl.stv_data hk ha' hd hp), rfl, rfl, rfl, rfl, by unfold Pl.mSize; rw [Pl.stk_length], fun lo v w h => ?_, fun lo v w h => ?_⟩
    · exact specStore_data v m kind at_ x w h hsz hok p size hs hk ha' hb hmd hp (by omega)
    · refine implStore_data v m kind at_ x w h hsz hok p size hs hx (by omega) (fun v1 g hadr e1 e2 hc hm W => ?_)
      rw [hadr]
      exact find_data g 0 _ _ _ _ _ kind at_ p size hs hk ha (by omega) hc hm hp (by omega) W
  have hd0 : at_ < 1048576 ∨ (m.data.length : Int) - size < at_ - 1048576 := by omega
  by_cases ht : 2097152 - (m.stk.length : Int) ≤ at_ ∧ at_ - (2097152 - (m.stk.length : Int)) ≤ (m.stk.length : Int) - size
  · obtain ⟨p, hp⟩ : ∃ p : Nat, at_ = 2097152 - (m.stk.length : Int) + p := ⟨(at_ - (2097152 - (m.stk.length : Int))).toNat, by omega⟩
    refine ⟨{ m with stk := Pl.stk_ m.stk p x size }, 0, (Pl.stW_yes hok hk0 _ _).trans (Pl.stv_stack hk ha' hd ht hp), rfl, rfl, rfl, rfl, by unfold Pl.mSize; rw [Pl.stk_length], fun lo v w h => ?_, fun lo v w h => ?_⟩
    · exact specStore_stack v m kind at_ x w h hsz hok p size hs hk ha' hb hmd hd0 hp (by omega)
    · refine implStore_stack v m kind at_ x w h hsz hok p size hs hx (by omega) (fun v1 g hadr e1 e2 hc hm W => ?_)
      rw [hadr]
      exact find_stack _ g 0 _ _ _ _ kind at_ p size hs hk ha hb (by omega) (by omega) hc hm (by show at_ < 1048576 ∨ (v1.data.len : Int) - size < at_ - 1048576; omega) (by show at_ = _; omega) (by omega) W
  have hd1 : at_ < 2097152 - (m.stk.length : Int) ∨ (m.stk.length : Int) - size < at_ - (2097152 - (m.stk.length : Int)) := by omega
  refine ⟨m, 4, (Pl.stW_yes hok hk0 _ _).trans (Pl.stv_none hk ha' hd ht), rfl, rfl, rfl, rfl, rfl, fun lo v w h => ?_, fun lo v w h => ?_⟩
  · refine specStore_same v m kind at_ x w h hsz hok size hs hk 4 (fun v1 g W hW e1 e2 => ?_)
    exact l3Store_none v1 m g kind at_ x size W hW hb (by omega) (by omega) hs hk ha' (by show at_ < 1048576 ∨ (v1.data.len : Int) - size < at_ - 1048576; omega) (by show at_ < 2097152 - (v1.stk.len : Int) ∨ (v1.stk.len : Int) - size < at_ - (2097152 - (v1.stk.len : Int)); omega)
  · have e1 := h.2.2.1.row.1
    have e2 := h.2.2.2.1.row.1
    refine implStore_bad v m kind at_ x w h hsz hok 4 (fun v1 q1 q2 W => ?_)
    exact find_none _ _ _ _ _ _ kind at_ size hs hk ha hb (by omega) (by omega) (by show at_ < 1048576 ∨ (v1.data.len : Int) - size < at_ - 1048576; omega) (by show at_ < 2097152 - (v1.stk.len : Int) ∨ (v1.stk.len : Int) - size < at_ - (2097152 - (v1.stk.len : Int)); omega) W
end Go.Proofs.Ytfcfnbncgadomaa.W
