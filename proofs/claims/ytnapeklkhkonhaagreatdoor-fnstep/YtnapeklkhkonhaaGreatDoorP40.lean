import Derived.Test.YtnapeklkhkonhaaGreatDoorP14
import Derived.Test.YtnapeklkhkonhaaGreatDoorP37
set_option linter.unusedVariables false
set_option linter.unusedSimpArgs false
namespace Go.Proofs.YtnapeklkhkonhaaGreatDoor.Pl
def cnt (a b : List Int) : Nat → Nat
  | 0 => 0
  | k + 1 => cnt a b k + (if a.getD k 0 = b.getD k 0 then 0 else 1)
theorem cnt_same (a : List Int) : ∀ k, cnt a a k = 0
  | 0 => rfl
  | k + 1 => by show cnt a a k + _ = 0; rw [cnt_same a k, if_pos rfl]
theorem cnt_set (a : List Int) (n : Nat) (y : Int) : ∀ k, cnt (a.set n y) a k ≤ (if n < k then 1 else 0)
  | 0 => by show 0 ≤ _; exact Nat.zero_le _
  | k + 1 => by
    have ih := cnt_set a n y k
    show cnt (a.set n y) a k + _ ≤ _
    by_cases e : n = k
    · subst e
      rw [if_neg (Nat.lt_irrefl _)] at ih
      rw [if_pos (by omega : n < n + 1)]
      split <;> omega
    · have hg : (a.set n y).getD k 0 = a.getD k 0 := by
        rw [List.getD_eq_getElem?_getD, List.getD_eq_getElem?_getD, List.getElem?_set_ne e]
      rw [if_pos hg]
      by_cases q : n < k
      · rw [if_pos q] at ih
        rw [if_pos (by omega : n < k + 1)]
        omega
      · rw [if_neg q] at ih
        omega
theorem cnt_le (a b : List Int) : ∀ k, cnt a b k ≤ k
  | 0 => Nat.le_refl _
  | k + 1 => by
    have := cnt_le a b k
    show cnt a b k + _ ≤ k + 1
    split <;> omega
theorem step_law {m : Mac} (h : mOk m = true) (hb : ∀ n ∈ m.inp, 0 ≤ n ∧ n ≤ 255) : mOk (runM m 1) = true ∧ (runM m 1).code = m.code ∧ One m (runM m 1) ∧ (runM m 1).regs.length = 32 ∧ m.regs.length = 32 := by
  obtain ⟨h1, h2, h3⟩ := of_ok h hb
  have hv := vd_of_ok h
  obtain ⟨k1, k2, k3⟩ := run_keeps 1 m hv h1
  have e : runM m 1 = run 1 m := runM_ok h 1
  rw [e]
  refine ⟨ok_of k1 k2 (by rw [k3]; exact h2) h3, k3, ?_, k1.regs, hv.regs⟩
  by_cases q : m.fin = 0 ∧ m.steps < 1000000
  · have : run 1 m = step m := by
      unfold run
      rw [if_pos q]
      rfl
    rw [this]
    exact One.step m
  · rw [run_stop q]
    exact .inl rfl
end Go.Proofs.YtnapeklkhkonhaaGreatDoor.Pl
