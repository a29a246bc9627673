import Derived.WalkKit
namespace Go.Proofs.YtgpmplcamdophaaDoor.Pl
theorem tmod_cases (n k : Int) : (0 ≤ n ∧ n.tmod k = n % k) ∨ (n < 0 ∧ n.tmod k = -((-n) % k)) := by
  by_cases h : 0 ≤ n
  · left; exact ⟨h, Int.tmod_eq_emod_of_nonneg h⟩
  · right; refine ⟨by omega, ?_⟩
    have : n = -(-n) := by omega
    rw [this, Int.neg_tmod, Int.tmod_eq_emod_of_nonneg (by omega)]; simp
theorem tdiv_cases (n k : Int) : (0 ≤ n ∧ n.tdiv k = n / k) ∨ (n < 0 ∧ n.tdiv k = -((-n) / k)) := by
  by_cases h : 0 ≤ n
  · left; exact ⟨h, Int.tdiv_eq_ediv_of_nonneg h⟩
  · right; refine ⟨by omega, ?_⟩
    have : n = -(-n) := by omega
    rw [this, Int.neg_tdiv, Int.tdiv_eq_ediv_of_nonneg (by omega)]; simp
theorem word_tmod_bd (n : Int) : -4294967295 ≤ n.tmod 4294967296 ∧ n.tmod 4294967296 ≤ 4294967295 := by
  rcases tmod_cases n 4294967296 with ⟨_, h⟩ | ⟨_, h⟩ <;> omega
theorem word_tmod (n : Int) : (n.tmod 4294967296 + 4294967296) % 4294967296 = n % 4294967296 := by
  rcases tmod_cases n 4294967296 with ⟨_, h⟩ | ⟨_, h⟩ <;> rw [h] <;> omega
/-- a number as a word; as a signed number -/
def wd (n : Int) : Int := n % 4294967296
def sg (n : Int) : Int := (n + 2147483648) % 4294967296 - 2147483648
theorem sg_wrap (n : Int) : RowKit.wrap64 (RowKit.wrap32 n) = sg n := by unfold RowKit.wrap64 RowKit.wrap32 sg; omega
theorem sg_high (n : Int) (h : 2147483648 ≤ wd n) : wd n - 4294967296 = sg n := by unfold wd at *; unfold sg; omega
theorem sg_low (n : Int) (h : wd n < 2147483648) : wd n = sg n := by unfold wd at *; unfold sg; omega
def ks (n : Int) : Int := if n = 1 ∨ n = 2 then 1 else if n = 3 ∨ n = 4 then 2 else if n = 5 then 4 else 0
theorem kind_cases (n : Int) : n = 1 ∨ n = 2 ∨ n = 3 ∨ n = 4 ∨ n = 5 ∨ ((n == 1) = false ∧ (n == 2) = false ∧ (n == 3) = false ∧ (n == 4) = false ∧ (n == 5) = false) := by
  simp; omega
theorem ks_none (n : Int) (h1 : (n == 1) = false) (h2 : (n == 2) = false) (h3 : (n == 3) = false) (h4 : (n == 4) = false) (h5 : (n == 5) = false) : 0 = ks n := by
  simp at h1 h2 h3 h4 h5; simp [ks, h1, h2, h3, h4, h5]
theorem wd_bd (n : Int) : 0 ≤ wd n ∧ wd n ≤ 4294967295 := by unfold wd; omega
theorem sg_bd (n : Int) : -2147483648 ≤ sg n ∧ sg n ≤ 2147483647 := by unfold sg; omega
end Go.Proofs.YtgpmplcamdophaaDoor.Pl
