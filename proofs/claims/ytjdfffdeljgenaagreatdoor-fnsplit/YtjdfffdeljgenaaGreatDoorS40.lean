import Derived.Test.YtjdfffdeljgenaaGreatDoorS01
set_option linter.unusedVariables false
namespace Go.Proofs.YtjdfffdeljgenaaGreatDoor.W
open Go.RowKit
set_option maxHeartbeats 2000000 in
theorem specImageOk_any {lo : Nat} (v : IV) (m : Pl.Img) (w : World) (h : IIs lo w v m) (he : -9223372036854775808 ≤ m.entry ∧ m.entry ≤ 9223372036854775807) :
    Calls Tryz.prog 65 #[.agg #[.slice v.code.a v.code.len v.code.cap, .slice v.data.a v.data.len v.data.cap, .int .i64 m.entry, .int .i64 m.size]] w fun e w' => e = .returned (.bool (Pl.iOk m)) ∧ Below w.heap.size w w' := by
  obtain ⟨⟨ca, cl, cc⟩, ⟨da, dl, dc⟩⟩ := v
  obtain ⟨code, data, entry, size⟩ := m
  have h' := h.keep (below_alloc w (.cells #[.slice ca cl cc, .slice da dl dc, .int .i64 entry, .int .i64 size] 70))
  obtain ⟨r1, r3⟩ := h'
  dsimp only at r1 r3 he ⊢
  have l1 := r1.small
  have l3 := r3.small
  have E1 : Hid (code.length = cl) := r1.1
  have E3 : Hid (data.length = dl) := r3.1
  have R1 : Hid (Row .i64 lo _ ca cl cc code) := r1
  clear r1 r3 h
  unfold Pl.iOk
  dsimp only
  rw [E1.out, E3.out]
  obtain ⟨pl, hp⟩ : ∃ pl, pl = Pl.place cl entry := ⟨_, rfl⟩
  rw [← hp]
  cases cs : Pl.skOk size
  all_goals
    cases c1 : Pl.cdOk code
    · go_enter Tryz.func65, Tryz.ntmps65
      go_wp2_with (first | (go_at_call 37; refine (specCodeOk_any _ _ _ code _ R1.out).mono ?_; rintro e w' ⟨rfl, rfl⟩; simp only [c1]) | (go_at_call 38; refine (specStackOk_any _ _).mono ?_; rintro e w' ⟨rfl, rfl⟩; simp only [cs]) | (go_at_call 56; refine (specPlace_any _ _ _ _ (by omega) he _).mono ?_; rintro e w' ⟨rfl, rfl⟩; rw [← hp]))
      go_ret
      exact ⟨rfl, below_alloc _ _⟩
    have hc : cl ≤ 16384 := by
      have := c1
      unfold Pl.cdOk at this
      rw [E1.out] at this
      simp at this
      omega
    by_cases c2 : dl ≤ 65536
    rotate_left
    · rw [decide_eq_false c2]
      go_enter Tryz.func65, Tryz.ntmps65
      go_wp2_with (first | (go_at_call 37; refine (specCodeOk_any _ _ _ code _ R1.out).mono ?_; rintro e w' ⟨rfl, rfl⟩; simp only [c1]) | (go_at_call 38; refine (specStackOk_any _ _).mono ?_; rintro e w' ⟨rfl, rfl⟩; simp only [cs]) | (go_at_call 56; refine (specPlace_any _ _ _ _ (by omega) he _).mono ?_; rintro e w' ⟨rfl, rfl⟩; rw [← hp]))
      go_ret
      exact ⟨rfl, below_alloc _ _⟩
    rw [decide_eq_true c2]
    by_cases c3 : 0 ≤ pl
    · rw [decide_eq_true c3]
      go_enter Tryz.func65, Tryz.ntmps65
      go_wp2_with (first | (go_at_call 37; refine (specCodeOk_any _ _ _ code _ R1.out).mono ?_; rintro e w' ⟨rfl, rfl⟩; simp only [c1]) | (go_at_call 38; refine (specStackOk_any _ _).mono ?_; rintro e w' ⟨rfl, rfl⟩; simp only [cs]) | (go_at_call 56; refine (specPlace_any _ _ _ _ (by omega) he _).mono ?_; rintro e w' ⟨rfl, rfl⟩; rw [← hp]))
      go_ret
      first | exact ⟨rfl, below_alloc _ _⟩ | exact ⟨ret_bool (a := decide (0 ≤ Pl.place cl entry)) (by rw [← hp, decide_eq_true c3]; rfl), below_alloc _ _⟩
    · rw [decide_eq_false c3]
      go_enter Tryz.func65, Tryz.ntmps65
      go_wp2_with (first | (go_at_call 37; refine (specCodeOk_any _ _ _ code _ R1.out).mono ?_; rintro e w' ⟨rfl, rfl⟩; simp only [c1]) | (go_at_call 38; refine (specStackOk_any _ _).mono ?_; rintro e w' ⟨rfl, rfl⟩; simp only [cs]) | (go_at_call 56; refine (specPlace_any _ _ _ _ (by omega) he _).mono ?_; rintro e w' ⟨rfl, rfl⟩; rw [← hp]))
      go_ret
      first | exact ⟨rfl, below_alloc _ _⟩ | exact ⟨ret_bool (a := decide (0 ≤ Pl.place cl entry)) (by rw [← hp, decide_eq_false (by omega)]; rfl), below_alloc _ _⟩
end Go.Proofs.YtjdfffdeljgenaaGreatDoor.W
