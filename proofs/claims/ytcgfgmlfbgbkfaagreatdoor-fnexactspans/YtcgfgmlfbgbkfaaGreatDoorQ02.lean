import Derived.Test.YtcgfgmlfbgbkfaaGreatDoorL22
set_option linter.unusedVariables false
set_option linter.unusedSimpArgs false
namespace Go.Proofs.YtcgfgmlfbgbkfaaGreatDoor.W
open Go.RowKit
theorem nanC_is (x : Int) (w : World) : Calls Tryz.prog 122 #[.int .i64 x] w fun e w' => e = .returned (.bool false) ∧ w' = w := by
  go_enter Tryz.func122, Tryz.ntmps122
  go_wp2
  go_ret
  exact ⟨by simp, rfl⟩
theorem nanS_is (x : Int) (w : World) : Calls Tryz.prog 117 #[.int .i64 x] w fun e w' => e = .returned (.bool false) ∧ w' = w := by
  go_enter Tryz.func117, Tryz.ntmps117
  go_wp2
  go_ret
  exact ⟨by simp, rfl⟩
theorem less_is (x y : Int) (w : World) : Calls Tryz.prog 116 #[.int .i64 x, .int .i64 y] w fun e w' => e = .returned (.bool (decide (x < y))) ∧ w' = w := by
  go_enter Tryz.func116, Tryz.ntmps116
  go_wp2_with (go_at_call 122; refine (nanC_is _ _).mono ?_; rintro e u ⟨rfl, rfl⟩)
  go_ret
  exact ⟨by first | rfl | simp, rfl⟩
def Found (xs : List Int) (n : Nat) (t : Int) (e : Ending) : Prop := ∃ (k : Nat) (b : Bool), e = .returned (.tuple #[.int .i64 (k : Int), .bool b]) ∧ k ≤ n ∧ (∀ i, i < k → xs.getD i 0 < t) ∧ ∀ i, k ≤ i → i < n → t ≤ xs.getD i 0
set_option maxHeartbeats 4000000 in
set_option maxRecDepth 100000 in
theorem search_is (g n c : Nat) (xs : List Int) (t : Int) (w : World) (hn : n = xs.length) (hb : n ≤ 10000) (hc : ∀ i, i < n → w.cell? ⟨g, i, none⟩ = some (.int .i64 (xs.getD i 0))) (hs : ∀ i j, i ≤ j → j < n → xs.getD i 0 ≤ xs.getD j 0) :
    Calls Tryz.prog 102 #[.slice (some ⟨g, 0, none⟩) n c, .int .i64 t] w fun e w' => Found xs n t e ∧ w' = w := by
  have HS : Hid (∀ i j, i ≤ j → j < n → xs.getD i 0 ≤ xs.getD j 0) := hs
  have HC : Hid (∀ i, i < n → w.cell? ⟨g, i, none⟩ = some (.int .i64 (xs.getD i 0))) := hc
  clear hs hc hn
  go_enter Tryz.func102, Tryz.ntmps102
  go_wp2_with fail
  go_loopw [7, 8] (fun p q W => W = w ∧ ∃ i j : Nat, p = .int .i64 (i : Int) ∧ q = .int .i64 (j : Int) ∧ i ≤ j ∧ j ≤ n ∧ Hid ((∀ r, r < i → xs.getD r 0 < t) ∧ ∀ r, j ≤ r → r < n → t ≤ xs.getD r 0)) (fun p q _ => (intOf q).toNat - (intOf p).toNat)
  case atStart => exact ⟨rfl, 0, n, rfl, by go_num, Nat.zero_le _, Nat.le_refl _, fun r hr => absurd hr (Nat.not_lt_zero _), fun r h1 h2 => by omega⟩
  case round =>
    obtain ⟨rfl, i, j, rfl, rfl, hij, hjn, HX⟩ := hrel
    by_cases hlt : i < j
    · have hli : (i : Int) < (j : Int) := by omega
      obtain ⟨m, hm⟩ : ∃ m : Nat, m = (i + j) / 2 := ⟨_, rfl⟩
      have e1 : ((i : Int) + (j : Int)) / 2 = (m : Int) := by omega
      have hm1 : m < n := by omega
      have hm2 : (m : Int) < (n : Int) := by omega
      have c1 := HC.out m hm1
      obtain ⟨x, hxx⟩ : ∃ x, x = xs.getD m 0 := ⟨_, rfl⟩
      rw [← hxx] at c1
      have HXX : Hid (x = xs.getD m 0) := hxx
      clear hxx
      have HM : Hid (i ≤ m ∧ m < j) := ⟨by omega, by omega⟩
      clear hm
      by_cases hx : x < t
      · have hd : decide (x < t) = true := by simp [hx]
        go_wp2_with (go_at_call 116; refine (less_is _ _ _).mono ?_; rintro e u ⟨rfl, rfl⟩)
        refine ⟨⟨trivial, m + 1, j, by go_num, rfl, by have := HM.out; omega, hjn, fun r hr => ?_, HX.out.2⟩, ?_⟩
        · have := HS.out r m (by omega) hm1; have := HXX.out; omega
        · have := HM.out; simp [intOf]; omega
      · have hd : decide (x < t) = false := by simp; omega
        go_wp2_with (go_at_call 116; refine (less_is _ _ _).mono ?_; rintro e u ⟨rfl, rfl⟩)
        refine ⟨⟨trivial, i, m, rfl, by go_num, HM.out.1, by omega, HX.out.1, fun r h1 h2 => ?_⟩, ?_⟩
        · have := HS.out m r h1 h2; have := HXX.out; omega
        · have := HM.out; simp [intOf]; omega
    · have hli : ¬ (i : Int) < (j : Int) := by omega
      have hE : ∃ (k : Nat), k = i ∧ k ≤ n ∧ (∀ r, r < k → xs.getD r 0 < t) ∧ ∀ r, k ≤ r → r < n → t ≤ xs.getD r 0 := ⟨i, rfl, by omega, HX.out.1, fun r h1 h2 => HX.out.2 r (by omega) h2⟩
      have HE : Hid (i ≤ n ∧ (∀ r, r < i → xs.getD r 0 < t) ∧ ∀ r, i ≤ r → r < n → t ≤ xs.getD r 0) := ⟨by omega, HX.out.1, fun r h1 h2 => HX.out.2 r (by omega) h2⟩
      clear hE
      by_cases hin : i < n
      · have hii : (i : Int) < (n : Int) := by omega
        have c1 := HC.out i hin
        obtain ⟨x, hxx⟩ : ∃ x, x = xs.getD i 0 := ⟨_, rfl⟩
        rw [← hxx] at c1
        clear hxx
        by_cases hx : x = t
        · have hx1 : (x == t) = true := by simp [hx]
          go_wp2_with fail
          refine bodyPost_ret (results_tmp2 rfl _ _ _) rfl ?_
          exact ⟨⟨i, _, rfl, HE.out⟩, rfl⟩
        · have hx1 : (x == t) = false := by simp [hx]
          go_wp2_with (go_at_call 117; refine (nanS_is _ _).mono ?_; rintro e u ⟨rfl, rfl⟩)
          refine bodyPost_ret (results_tmp2 rfl _ _ _) rfl ?_
          exact ⟨⟨i, _, rfl, HE.out⟩, rfl⟩
      · have hii : ¬ (i : Int) < (n : Int) := by omega
        go_wp2_with fail
        refine bodyPost_ret (results_tmp2 rfl _ _ _) rfl ?_
        exact ⟨⟨i, _, rfl, HE.out⟩, rfl⟩
end Go.Proofs.YtcgfgmlfbgbkfaaGreatDoor.W
