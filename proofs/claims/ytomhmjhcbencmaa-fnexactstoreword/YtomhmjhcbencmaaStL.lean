import Derived.Test.YtomhmjhcbencmaaStK
set_option linter.unusedVariables false
namespace Go.Proofs.Ytomhmjhcbencmaa.W
open Go.RowKit
/-- what a StoreWord answers for every owned machine: another one, owned, its slices in spans of their own, and a code -/
def Stores (f : Nat) (m : Pl.Mac) (kind at_ x : Int) (m' : Pl.Mac) (c : Int) : Prop :=
  ∀ (lo : Nat) (v : MV) (w : World), MOwn lo w v m → Calls Try.prog f #[.agg #[.slice v.code.a v.code.len v.code.cap, .int .i64 m.pc, .slice v.regs.a v.regs.len v.regs.cap, .slice v.data.a v.data.len v.data.cap, .slice v.stk.a v.stk.len v.stk.cap, .slice v.inp.a v.inp.len v.inp.cap, .slice v.out.a v.out.len v.out.cap, .int .i64 m.steps, .int .i64 m.fin, .int .i64 m.val], .int .i64 kind, .int .i64 at_, .int .i64 x] w fun e w' =>
    ∃ v1 : MV, e = .returned (.tuple #[.agg #[.slice v1.code.a v1.code.len v1.code.cap, .int .i64 m.pc, .slice v1.regs.a v1.regs.len v1.regs.cap, .slice v1.data.a v1.data.len v1.data.cap, .slice v1.stk.a v1.stk.len v1.stk.cap, .slice v1.inp.a v1.inp.len v1.inp.cap, .slice v1.out.a v1.out.len v1.out.cap, .int .i64 m.steps, .int .i64 m.fin, .int .i64 m.val], .int .i64 c]) ∧ MOwn w.heap.size w' v1 m' ∧ (∃ t0 t6, MSepAt t0 t6 v1 ∧ w.heap.size ≤ t0 ∧ t6 ≤ w'.heap.size) ∧ Below w.heap.size w w'
/-- both stores answer the same -/
theorem stores_agree (m : Pl.Mac) (kind at_ x : Int) (hsz : Pl.mSize m ≤ 1048576) (hb : -9223372036854775808 ≤ at_ ∧ at_ ≤ 9223372036854775807) (hx : -9223372036854775808 ≤ x ∧ x ≤ 9223372036854775807) : ∃ (m' : Pl.Mac) (c : Int),
    m'.pc = m.pc ∧ m'.steps = m.steps ∧ m'.fin = m.fin ∧ m'.val = m.val ∧ Pl.mSize m' = Pl.mSize m ∧ Stores 8 m kind at_ x m' c ∧ Stores 10 m kind at_ x m' c := by
  cases hok : Pl.mOk m
  · exact ⟨m, 4, rfl, rfl, rfl, rfl, rfl, fun lo v w h => specStore_no v m kind at_ x w h hsz hok rfl, fun lo v w h => implStore_no v m kind at_ x w h hsz hok⟩
  by_cases hk0 : Pl.ks kind = 0
  · exact ⟨m, 4, rfl, rfl, rfl, rfl, rfl, fun lo v w h => specStore_kind v m kind at_ x w h hsz hok hk0, fun lo v w h => implStore_bad v m kind at_ x w h hsz hok 4 (fun v1 _ _ W => find_kind _ _ _ _ _ _ kind at_ hk0 W)⟩
  have hmd : m.data.length ≤ 65536 ∧ m.stk.length ≤ 65536 := by
    have := hok
    unfold Pl.mOk Pl.skOk at this
    simp only [Bool.and_eq_true, decide_eq_true_eq] at this
    obtain ⟨_, h1, h2, _⟩ := this
    omega
  obtain ⟨size, hk, hs4⟩ : ∃ size : Nat, Pl.ks kind = size ∧ (size = 1 ∨ size = 2 ∨ size = 4) := by
    unfold Pl.ks at hk0 ⊢
    split
    · exact ⟨1, rfl, .inl rfl⟩
    · split
      · exact ⟨2, rfl, .inr (.inl rfl)⟩
      · split
        · exact ⟨4, rfl, .inr (.inr rfl)⟩
        · simp_all
  have hs : 1 ≤ size ∧ size ≤ 4 := by omega
  by_cases ha : at_.tmod (size : Int) = 0
  rotate_left
  · have ha' : (at_.tmod (size : Int) != 0) = true := by simpa using ha
    exact ⟨m, 3, rfl, rfl, rfl, rfl, rfl, fun lo v w h => specStore_same v m kind at_ x w h hsz hok size hs hk 3 (fun v1 g W _ _ _ => l3Store_align g kind at_ x size hs hk ha' W),
      fun lo v w h => implStore_bad v m kind at_ x w h hsz hok 3 (fun v1 _ _ W => find_align _ _ _ _ _ _ kind at_ size hs hk ha' hb W)⟩
  have ha' : (at_.tmod (size : Int) != 0) = false := by rw [ha]; rfl
  by_cases hd : 1048576 ≤ at_ ∧ at_ - 1048576 ≤ (m.data.length : Int) - size
  · obtain ⟨p, hp⟩ : ∃ p : Nat, at_ = 1048576 + p := ⟨(at_ - 1048576).toNat, by omega⟩
    refine ⟨{ m with data := Pl.stk_ m.data p x size }, 0, rfl, rfl, rfl, rfl, by unfold Pl.mSize; rw [Pl.stk_length], fun lo v w h => ?_, fun lo v w h => ?_⟩
    · exact specStore_data v m kind at_ x w h hsz hok p size hs hk ha' hb hmd hp (by omega)
    · refine implStore_data v m kind at_ x w h hsz hok p size hs hx (by omega) (fun v1 g hadr e1 e2 hc hm W => ?_)
      rw [hadr]
      exact find_data g 0 _ _ _ _ _ kind at_ p size hs hk ha (by omega) hc hm hp (by omega) W
  have hd0 : at_ < 1048576 ∨ (m.data.length : Int) - size < at_ - 1048576 := by omega
  by_cases ht : 2097152 - (m.stk.length : Int) ≤ at_ ∧ at_ - (2097152 - (m.stk.length : Int)) ≤ (m.stk.length : Int) - size
  · obtain ⟨p, hp⟩ : ∃ p : Nat, at_ = 2097152 - (m.stk.length : Int) + p := ⟨(at_ - (2097152 - (m.stk.length : Int))).toNat, by omega⟩
    refine ⟨{ m with stk := Pl.stk_ m.stk p x size }, 0, rfl, rfl, rfl, rfl, by unfold Pl.mSize; rw [Pl.stk_length], fun lo v w h => ?_, fun lo v w h => ?_⟩
    · exact specStore_stack v m kind at_ x w h hsz hok p size hs hk ha' hb hmd hd0 hp (by omega)
    · refine implStore_stack v m kind at_ x w h hsz hok p size hs hx (by omega) (fun v1 g hadr e1 e2 hc hm W => ?_)
      rw [hadr]
      exact find_stack _ g 0 _ _ _ _ kind at_ p size hs hk ha hb (by omega) (by omega) hc hm (by show at_ < 1048576 ∨ (v1.data.len : Int) - size < at_ - 1048576; omega) (by show at_ = _; omega) (by omega) W
  have hd1 : at_ < 2097152 - (m.stk.length : Int) ∨ (m.stk.length : Int) - size < at_ - (2097152 - (m.stk.length : Int)) := by omega
  refine ⟨m, 4, rfl, rfl, rfl, rfl, rfl, fun lo v w h => ?_, fun lo v w h => ?_⟩
  · refine specStore_same v m kind at_ x w h hsz hok size hs hk 4 (fun v1 g W hW e1 e2 => ?_)
    exact l3Store_none v1 m g kind at_ x size W hW hb (by omega) (by omega) hs hk ha' (by show at_ < 1048576 ∨ (v1.data.len : Int) - size < at_ - 1048576; omega) (by show at_ < 2097152 - (v1.stk.len : Int) ∨ (v1.stk.len : Int) - size < at_ - (2097152 - (v1.stk.len : Int)); omega)
  · have e1 := h.2.2.1.row.1
    have e2 := h.2.2.2.1.row.1
    refine implStore_bad v m kind at_ x w h hsz hok 4 (fun v1 q1 q2 W => ?_)
    exact find_none _ _ _ _ _ _ kind at_ size hs hk ha hb (by omega) (by omega) (by show at_ < 1048576 ∨ (v1.data.len : Int) - size < at_ - 1048576; omega) (by show at_ < 2097152 - (v1.stk.len : Int) ∨ (v1.stk.len : Int) - size < at_ - (2097152 - (v1.stk.len : Int)); omega) W
end Go.Proofs.Ytomhmjhcbencmaa.W
