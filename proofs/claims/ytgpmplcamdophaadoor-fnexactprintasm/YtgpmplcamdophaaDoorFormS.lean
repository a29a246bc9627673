import Derived.Test.YtgpmplcamdophaaDoorFormMath
import Derived.Great.Walk
namespace Go.Proofs.YtgpmplcamdophaaDoor.Pl
theorem fm_ranges : ∀ k : Nat, k < 48 → (1 ≤ k ∧ k ≤ 18 → fmN k = 1) ∧ (25 ≤ k ∧ k ≤ 27 → fmN k = 3) ∧ (19 ≤ k ∧ k ≤ 24 → fmN k = 2) ∧ (28 ≤ k ∧ k ≤ 33 → fmN k = 2) ∧ (34 ≤ k ∧ k ≤ 36 → fmN k = 4) ∧ (37 ≤ k ∧ k ≤ 42 → fmN k = 5) ∧ (k = 43 ∨ k = 44 → fmN k = 6) ∧ (k = 45 → fmN k = 7) ∧ (k = 46 ∨ k = 47 → fmN k = 8) := by decide +kernel
end Go.Proofs.YtgpmplcamdophaaDoor.Pl
namespace Go.Proofs.YtgpmplcamdophaaDoor.W
open Go.RowKit
theorem form_a (n : Int) (h1 : 1 ≤ n) (h2 : n ≤ 18) (w : World) : Calls Tryd.prog 29 #[.int .i64 n] w fun e w' => e = .returned (.int .i64 1) ∧ w' = w := by
  go_enter Tryd.func29, Tryd.ntmps29
  go_wp2
  go_ret
  exact ⟨rfl, rfl⟩
theorem form_b (n : Int) (h1 : 19 ≤ n) (h2 : n ≤ 24) (w : World) : Calls Tryd.prog 29 #[.int .i64 n] w fun e w' => e = .returned (.int .i64 2) ∧ w' = w := by
  go_enter Tryd.func29, Tryd.ntmps29
  go_wp2
  go_ret
  exact ⟨rfl, rfl⟩
theorem form_c (n : Int) (h1 : 25 ≤ n) (h2 : n ≤ 27) (w : World) : Calls Tryd.prog 29 #[.int .i64 n] w fun e w' => e = .returned (.int .i64 3) ∧ w' = w := by
  go_enter Tryd.func29, Tryd.ntmps29
  go_wp2
  go_ret
  exact ⟨rfl, rfl⟩
theorem form_d (n : Int) (h1 : 28 ≤ n) (h2 : n ≤ 33) (w : World) : Calls Tryd.prog 29 #[.int .i64 n] w fun e w' => e = .returned (.int .i64 2) ∧ w' = w := by
  go_enter Tryd.func29, Tryd.ntmps29
  go_wp2
  go_ret
  exact ⟨rfl, rfl⟩
theorem form_e (n : Int) (h1 : 34 ≤ n) (h2 : n ≤ 36) (w : World) : Calls Tryd.prog 29 #[.int .i64 n] w fun e w' => e = .returned (.int .i64 4) ∧ w' = w := by
  go_enter Tryd.func29, Tryd.ntmps29
  go_wp2
  go_ret
  exact ⟨rfl, rfl⟩
theorem form_f (n : Int) (h1 : 37 ≤ n) (h2 : n ≤ 42) (w : World) : Calls Tryd.prog 29 #[.int .i64 n] w fun e w' => e = .returned (.int .i64 5) ∧ w' = w := by
  go_enter Tryd.func29, Tryd.ntmps29
  go_wp2
  go_ret
  exact ⟨rfl, rfl⟩
theorem form_lo (n : Int) (h1 : n < 1) (w : World) : Calls Tryd.prog 29 #[.int .i64 n] w fun e w' => e = .returned (.int .i64 0) ∧ w' = w := by
  have e43 : (n == 43) = false := by simp; omega
  have e44 : (n == 44) = false := by simp; omega
  have e45 : (n == 45) = false := by simp; omega
  have e46 : (n == 46) = false := by simp; omega
  have e47 : (n == 47) = false := by simp; omega
  go_enter Tryd.func29, Tryd.ntmps29
  go_wp2
  go_ret
  exact ⟨rfl, rfl⟩
theorem form_hi (n : Int) (h1 : 47 < n) (w : World) : Calls Tryd.prog 29 #[.int .i64 n] w fun e w' => e = .returned (.int .i64 0) ∧ w' = w := by
  have e43 : (n == 43) = false := by simp; omega
  have e44 : (n == 44) = false := by simp; omega
  have e45 : (n == 45) = false := by simp; omega
  have e46 : (n == 46) = false := by simp; omega
  have e47 : (n == 47) = false := by simp; omega
  go_enter Tryd.func29, Tryd.ntmps29
  go_wp2
  go_ret
  exact ⟨rfl, rfl⟩
theorem form_43 (w : World) : Calls Tryd.prog 29 #[.int .i64 43] w fun e w' => e = .returned (.int .i64 6) ∧ w' = w := by
  go_enter Tryd.func29, Tryd.ntmps29
  go_wp2
  go_ret
  exact ⟨rfl, rfl⟩
theorem form_44 (w : World) : Calls Tryd.prog 29 #[.int .i64 44] w fun e w' => e = .returned (.int .i64 6) ∧ w' = w := by
  go_enter Tryd.func29, Tryd.ntmps29
  go_wp2
  go_ret
  exact ⟨rfl, rfl⟩
theorem form_45 (w : World) : Calls Tryd.prog 29 #[.int .i64 45] w fun e w' => e = .returned (.int .i64 7) ∧ w' = w := by
  go_enter Tryd.func29, Tryd.ntmps29
  go_wp2
  go_ret
  exact ⟨rfl, rfl⟩
theorem form_46 (w : World) : Calls Tryd.prog 29 #[.int .i64 46] w fun e w' => e = .returned (.int .i64 8) ∧ w' = w := by
  go_enter Tryd.func29, Tryd.ntmps29
  go_wp2
  go_ret
  exact ⟨rfl, rfl⟩
theorem form_47 (w : World) : Calls Tryd.prog 29 #[.int .i64 47] w fun e w' => e = .returned (.int .i64 8) ∧ w' = w := by
  go_enter Tryd.func29, Tryd.ntmps29
  go_wp2
  go_ret
  exact ⟨rfl, rfl⟩
theorem form_any (k : Nat) (h1 : 1 ≤ k) (h2 : k ≤ 47) (w : World) : Calls Tryd.prog 29 #[.int .i64 k] w fun e w' => e = .returned (.int .i64 (Pl.fmN k : Int)) ∧ w' = w := by
  obtain ⟨a, c, b, d, e, f, g, i, j⟩ := Pl.fm_ranges k (by omega)
  by_cases q : k ≤ 18
  · rw [a ⟨h1, q⟩]; exact form_a k (by omega) (by omega) w
  by_cases q : k ≤ 24
  · rw [b ⟨by omega, q⟩]; exact form_b k (by omega) (by omega) w
  by_cases q : k ≤ 27
  · rw [c ⟨by omega, q⟩]; exact form_c k (by omega) (by omega) w
  by_cases q : k ≤ 33
  · rw [d ⟨by omega, q⟩]; exact form_d k (by omega) (by omega) w
  by_cases q : k ≤ 36
  · rw [e ⟨by omega, q⟩]; exact form_e k (by omega) (by omega) w
  by_cases q : k ≤ 42
  · rw [f ⟨by omega, q⟩]; exact form_f k (by omega) (by omega) w
  have q' : k = 43 ∨ k = 44 ∨ k = 45 ∨ k = 46 ∨ k = 47 := by omega
  rcases q' with rfl | rfl | rfl | rfl | rfl
  · exact form_43 w
  · exact form_44 w
  · exact form_45 w
  · exact form_46 w
  · exact form_47 w
theorem form_no (n : Int) (h : n < 1 ∨ 47 < n) (w : World) : Calls Tryd.prog 29 #[.int .i64 n] w fun e w' => e = .returned (.int .i64 0) ∧ w' = w := by
  rcases h with h | h
  · exact form_lo n h w
  · exact form_hi n h w
def ptsTab : Array Value := #[.int .i64 0, .int .i64 7, .int .i64 11, .int .i64 11, .int .i64 14, .int .i64 14, .int .i64 9, .int .i64 9, .int .i64 0]
theorem parts_any (f : Nat) (h1 : 1 ≤ f) (h2 : f ≤ 8) (w : World) : Calls Tryd.prog 50 #[.int .i64 f] w fun e w' => e = .returned (.int .i64 (Pl.pts f)) ∧ w' = w.alloc (.cells ptsTab 3) := by
  rcases Pl.form_cases f h1 h2 with rfl | rfl | rfl | rfl | rfl | rfl | rfl | rfl
  all_goals
    go_enter Tryd.func50, Tryd.ntmps50
    go_wp2
    go_ret
    exact ⟨rfl, rfl⟩
theorem range_any (f : Nat) (h1 : 1 ≤ f) (h2 : f ≤ 8) (w : World) : Calls Tryd.prog 52 #[.int .i64 f] w fun e w' => e = .returned (.tuple #[.int .i64 (Pl.lo f), .int .i64 (Pl.hi f), .int .i64 (Pl.st f)]) ∧ w' = w := by
  rcases Pl.form_cases f h1 h2 with rfl | rfl | rfl | rfl | rfl | rfl | rfl | rfl
  all_goals
    go_enter Tryd.func52, Tryd.ntmps52
    go_wp2
    go_ret3
    exact ⟨rfl, rfl⟩
end Go.Proofs.YtgpmplcamdophaaDoor.W
