import Derived.Test.YtgpmplcamdophaaDoorLsD
set_option linter.unusedVariables false
set_option linter.unusedSimpArgs false
namespace Go.Proofs.YtgpmplcamdophaaDoor.W
open Go.RowKit
/-- of what was there nothing but block g has turned -/
structure Besides (g : Nat) (w w' : World) : Prop where
  os : w'.os = w.os
  tape : w'.tape = w.tape
  output : w'.output = w.output
  size : w.heap.size ≤ w'.heap.size
  block : ∀ k, k < w.heap.size → k ≠ g → w'.heap[k]? = w.heap[k]?
theorem Besides.refl (g : Nat) (w : World) : Besides g w w := ⟨rfl, rfl, rfl, Nat.le_refl _, fun _ _ _ => rfl⟩
theorem Besides.setCell {g : Nat} {w u : World} (h : Besides g w u) (i : Nat) (x : Value) : Besides g w (u.setCell ⟨g, i, none⟩ x) :=
  ⟨h.os, h.tape, h.output, by simpa using h.size, fun k hk hg => (Below.heap_setCell u ⟨g, i, none⟩ x k hg).trans (h.block k hk hg)⟩
theorem Besides.below {g : Nat} {w u v : World} (h : Besides g w u) (d : Below u.heap.size u v) : Besides g w v :=
  ⟨d.os.trans h.os, d.tape.trans h.tape, d.output.trans h.output, Nat.le_trans h.size d.size, fun k hk hg => (d.block k (Nat.lt_of_lt_of_le hk h.size)).trans (h.block k hk hg)⟩
/-- a block of lines that may be written -/
structure Free (g n : Nat) (u : World) : Prop where
  lt : g < u.heap.size
  frozen : ∀ q, u.frozen? ⟨g, q, none⟩ = false
  some : ∀ q, q < n → (u.cell? ⟨g, q, none⟩).isSome = true
theorem Free.setCell {g n : Nat} {u : World} (h : Free g n u) (i : Nat) (x : Value) : Free g n (u.setCell ⟨g, i, none⟩ x) :=
  ⟨by simpa using h.lt, fun q => by rw [World.frozen?_setCell]; exact h.frozen q, fun q hq => isSome_set (h.some q hq)⟩
theorem Free.below {g n : Nat} {u v : World} (h : Free g n u) (d : Below u.heap.size u v) : Free g n v :=
  ⟨Nat.lt_of_lt_of_le h.lt d.size, fun q => (d.frozen (p := ⟨g, q, none⟩) h.lt).trans (h.frozen q), fun q hq => by rw [d.cell (p := ⟨g, q, none⟩) h.lt]; exact h.some q hq⟩
theorem Free.cell {g n : Nat} {u : World} (h : Free g n u) {q : Nat} (hq : q < n) : ∃ y, u.cell? ⟨g, q, none⟩ = .some y := Option.isSome_iff_exists.1 (h.some q hq)
theorem LOwn.free {lo : Nat} {w : World} {a : Option Addr} {len : Nat} {xs : List Pl.Ln} (h : LOwn lo w a len xs) : ∃ g, a = some ⟨g, 0, none⟩ ∧ lo ≤ g ∧ Free g (len * 8) w := by
  obtain ⟨_, _, b, ha, hlo, hlt, hf, hc⟩ := h
  refine ⟨b, ha, hlo, hlt, hf, fun q hq => ?_⟩
  have e : q = q / 8 * 8 + q % 8 := by omega
  have := hc (q / 8) (by omega) (q % 8) (by omega)
  rw [← e] at this
  rw [this]
  rcases (show q % 8 = 0 ∨ q % 8 = 1 ∨ q % 8 = 2 ∨ q % 8 = 3 ∨ q % 8 = 4 ∨ q % 8 = 5 ∨ q % 8 = 6 ∨ q % 8 = 7 by omega) with h | h | h | h | h | h | h | h <;> rw [h] <;> rfl
set_option maxRecDepth 8000 in
set_option maxHeartbeats 4000000 in
theorem markLineS_any (g len : Nat) (k : Int) (w : World) (h : Free g (len * 8) w) (hl : len ≤ 1048576) (hk : 0 ≤ k ∧ k ≤ 1048576) : Calls Tryd.prog 13 #[.slice (some ⟨g, 0, none⟩) len len, .int .i64 k] w fun e w' => ∃ r : Int, e = .returned (.int .i64 r) ∧ 0 ≤ r ∧ r ≤ 16777216 ∧ Free g (len * 8) w' ∧ Besides g w w' := by
  have H0 : Hid (Free g (len * 8) w) := h
  clear h
  go_enter Tryd.func13, Tryd.ntmps13
  go_wp2_with fail
  go_loopw [1, 5] (fun x i wr => ∃ j : Nat, j ≤ len ∧ i = .int .i64 j ∧ x = .int .i64 (k + (j : Int) * 8) ∧ Free g (len * 8) wr ∧ Besides g w wr) (fun _ i _ => len - (intOf i).toNat)
  case atStart => exact ⟨0, Nat.zero_le _, rfl, by simp, H0.out, Besides.refl _ _⟩
  case round =>
    obtain ⟨j, hj, rfl, rfl, ho, ht⟩ := hrel
    have HO : Hid (Free g (len * 8) wr) := ho
    have HT : Hid (Besides g w wr) := ht
    clear ht H0
    by_cases hlt : j < len
    · have hi : (j : Int) < (len : Int) := by omega
      have fz := ho.frozen
      obtain ⟨y0, c0⟩ := ho.cell (q := j * 8) (by omega)
      obtain ⟨y1, c1⟩ := ho.cell (q := j * 8 + 1) (by omega)
      obtain ⟨y2, c2⟩ := ho.cell (q := j * 8 + 2) (by omega)
      obtain ⟨y3, c3⟩ := ho.cell (q := j * 8 + 3) (by omega)
      obtain ⟨y4, c4⟩ := ho.cell (q := j * 8 + 4) (by omega)
      obtain ⟨y5, c5⟩ := ho.cell (q := j * 8 + 5) (by omega)
      clear ho
      go_wp2_with fail
      refine calls_at7 fun u0 hu0 => ?_
      have F0 : Free g (len * 8) u0 := by rw [hu0]; exact ((((((HO.out.setCell _ _).setCell _ _).setCell _ _).setCell _ _).setCell _ _).setCell _ _)
      have T0 : Besides g w u0 := by rw [hu0]; exact ((((((HT.out.setCell _ _).setCell _ _).setCell _ _).setCell _ _).setCell _ _).setCell _ _)
      clear hu0 fz c0 c1 c2 c3 c4 c5
      refine (markText_any _ (by omega) u0).mono ?_
      rintro e u1 ⟨s, rfl, hs, d1⟩
      have F1 := F0.below d1
      have fz := F1.frozen
      obtain ⟨y6, c6⟩ := F1.cell (q := j * 8 + 6) (by omega)
      obtain ⟨y7, c7⟩ := F1.cell (q := j * 8 + 7) (by omega)
      have G1 : Hid (Free g (len * 8) u1 ∧ Besides g w u1) := ⟨F1, T0.below d1⟩
      clear F0 F1 T0 d1 HO HT
      go_wp2_with fail
      go_roundw
      case rel => exact ⟨j + 1, by omega, by go_num, by go_num, (G1.out.1.setCell _ _).setCell _ _, (G1.out.2.setCell _ _).setCell _ _⟩
      case measure => simp [intOf]; omega
    · have hkk : j = len := by omega
      have hi : ¬ ((j : Int) < (len : Int)) := by omega
      clear ho
      go_wp2
      go_ret
      exact ⟨_, rfl, by omega, by omega, HO.out, HT.out⟩
end Go.Proofs.YtgpmplcamdophaaDoor.W
