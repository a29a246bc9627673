import Derived.Test.YtmnlhienhfmhdaaDoorRegNum
namespace Go.Proofs.YtmnlhienhfmhdaaDoor.W
open Go.RowKit
set_option linter.unusedVariables false
theorem ne_text {a b : ByteArray} (h : ¬ a = b) : (a.toList == b.toList) = false := by
  rw [beq_eq_false_iff_ne]
  intro e
  rw [Lib.toList_data, Lib.toList_data] at e
  exact h (by rw [← Lib.mk_data a, ← Lib.mk_data b, e])
theorem eq_text {a b : ByteArray} (h : a = b) : (a.toList == b.toList) = true := by rw [h]; simp
theorem kept_row' {w u : World} {cs : Array Value} {t : TypeId} (hb : Below (w.alloc (.cells cs t)).heap.size (w.alloc (.cells cs t)) u) : u.heap[w.heap.size]? = some (.cells cs t) := by
  rw [hb.block _ (by simp)]; exact heap_alloc_new w _
set_option maxHeartbeats 1000000 in
theorem specRegNumber_any (s : ByteArray) (w : World) : Calls Tryd.prog 8 #[.string s] w fun e w' => ∃ m : Int, e = .returned (.int .i64 m) ∧ IsReg s m ∧ Below w.heap.size w w' := by
  go_enter Tryd.func8, Tryd.ntmps8
  go_wp2_with (go_at_call 19; refine (regNames_any _).mono ?_; rintro e w' ⟨rfl, rfl⟩)
  go_loopw [4] (fun i wr => ∃ k : Nat, k ≤ 32 ∧ i = .int .i64 k ∧ (∀ r, r < k → Pl.nn r ≠ s ∧ Pl.nn (32 + r) ≠ s) ∧ Below (w.alloc (.cells Pl.rnTab 9)).heap.size (w.alloc (.cells Pl.rnTab 9)) wr) (fun i _ => 32 - (intOf i).toNat)
  case atStart => exact ⟨0, Nat.zero_le _, rfl, fun r hr => by omega, Below.refl _ _⟩
  case round =>
    obtain ⟨k, hk, rfl, hno, hnx⟩ := hrel
    have HN : Hid (∀ r, r < k → Pl.nn r ≠ s ∧ Pl.nn (32 + r) ≠ s) := hno
    have HB : Hid (Below (w.alloc (.cells Pl.rnTab 9)).heap.size (w.alloc (.cells Pl.rnTab 9)) wr) := hnx
    have HW : Hid (Below w.heap.size w wr) := ((Below.refl _ _).alloc (Nat.le_refl _) _).trans (hnx.mono (by simp))
    by_cases hlt : k < 32
    · have hc : wr.cell? ⟨w.heap.size, k, none⟩ = some (.string (Pl.rn k)) := by
        rw [cell_of_row wr _ k Pl.rnTab 9 (0, 0) (kept_row' hnx)]; exact Pl.rnTab_at k hlt
      clear hno hnx
      have hcat := x_cat k
      have hdn := dn_size k
      have e1 := Pl.nn_rn k hlt
      have e2 := Pl.nn_xn k
      have E1 : Hid (Pl.nn k = Pl.rn k) := e1
      have E2 : Hid (Pl.nn (32 + k) = Pl.xn k) := e2
      clear e1 e2
      by_cases hq : Pl.rn k = s
      · have hq' := eq_text hq
        have HQ : Hid (Pl.rn k = s) := hq
        clear hq
        go_wp2
        go_ret
        exact ⟨k, rfl, .inl ⟨k, hlt, rfl, .inl (E1.out.trans HQ.out)⟩, HW.out⟩
      · have hq' := ne_text hq
        have HQ : Hid (¬ Pl.rn k = s) := hq
        clear hq
        by_cases hx : Pl.xn k = s
        · have hx' := eq_text hx
          have HX : Hid (Pl.xn k = s) := hx
          clear hx
          go_wp2_with (go_at_call 20; refine (dec_any k hlt _).mono ?_; rintro e u1 ⟨rfl, hb1⟩)
          go_ret
          exact ⟨k, rfl, .inl ⟨k, hlt, rfl, .inr (E2.out.trans HX.out)⟩, HW.out.trans (hb1.mono HW.out.size)⟩
        · have hx' := ne_text hx
          have HX : Hid (¬ Pl.xn k = s) := hx
          clear hx
          go_wp2_with (go_at_call 20; refine (dec_any k hlt _).mono ?_; rintro e u1 ⟨rfl, hb1⟩)
          go_roundw
          case rel => exact ⟨k + 1, by omega, by go_num, fun r hr => by
            by_cases e : r = k
            · subst e; exact ⟨by rw [E1.out]; exact HQ.out, by rw [E2.out]; exact HX.out⟩
            · exact HN.out r (by omega), HB.out.trans (hb1.mono HB.out.size)⟩
          case measure => simp [intOf]; omega
    · have e : k = 32 := by omega
      subst e
      clear hno hnx
      go_wp2
      go_ret
      exact ⟨-1, rfl, .inr ⟨rfl, HN.out⟩, HW.out⟩
set_option maxHeartbeats 400000 in
theorem fnExactRegNumber_walk (a0 : ByteArray) (w0 : a0.size ≤ maxLen) (w : World) (hr : RegsLie w) :
    Calls Tryd.prog 4 #[.string a0] w fun e w' => e = .returned (.bool true) ∧ Below w.heap.size w w' := by
  have HS : Hid (a0.size ≤ maxLen) := w0
  have HR : Hid (RegsLie w) := hr
  clear hr
  unfold maxLen at w0
  by_cases hl : 1048576 < a0.size
  · go_enter Tryd.func4, Tryd.ntmps4
    go_wp2
    go_ret
    exact ⟨rfl, Below.refl _ _⟩
  · go_enter Tryd.func4, Tryd.ntmps4
    go_wp2_with fail
    refine (specRegNumber_any _ _).mono ?_
    rintro e u1 ⟨m, rfl, hm, hb1⟩
    go_wp2_with fail
    refine (implRegNumber_any _ HS.out _ (HR.out.below hb1)).mono ?_
    rintro e u2 ⟨m', rfl, hm', hb2⟩
    obtain rfl := hm.uniq hm'
    go_wp2
    go_ret
    exact ⟨rfl, hb1.trans (hb2.mono hb1.size)⟩
end Go.Proofs.YtmnlhienhfmhdaaDoor.W
