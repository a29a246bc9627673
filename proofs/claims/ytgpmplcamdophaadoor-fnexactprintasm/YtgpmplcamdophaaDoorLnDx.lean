import Derived.Test.YtgpmplcamdophaaDoorLnC
import Derived.Deep.Cut
import Derived.Deep.Light
set_option linter.unusedVariables false
set_option linter.unusedSimpArgs false
namespace Go.Proofs.YtgpmplcamdophaaDoor.W
open Go.RowKit
set_option maxHeartbeats 2000000 in
theorem implLine_1 (op rd r1 r2 im n : Int) (s : ByteArray) (w : World) : Calls Tryd.prog 22 #[.agg #[.int .i64 1, .int .i64 op, .int .i64 rd, .int .i64 r1, .int .i64 r2, .int .i64 im, .string s, .int .i64 n]] w fun e w' => e = .returned (.bool (Pl.sy s true && decide (0 ≤ n ∧ n ≤ 0) && (Pl.onlyRegs op rd r1 r2 im false false))) ∧ Below w.heap.size w w' := by
  obtain ⟨R, hR⟩ : ∃ R, R = (Pl.sy s true && decide (0 ≤ n ∧ n ≤ 0) && (Pl.onlyRegs op rd r1 r2 im false false)) := ⟨_, rfl⟩
  rw [← hR]
  have HR : Hid (R = (Pl.sy s true && decide (0 ≤ n ∧ n ≤ 0) && (Pl.onlyRegs op rd r1 r2 im false false))) := hR
  clear hR
  go_enter Tryd.func22, Tryd.ntmps22
  go_wp2_with fail
  refine (rule_1 op rd r1 r2 im n s _).mono ?_
  rintro e u1 ⟨rfl, d1⟩
  have hr := kept_row d1
  have B1 : Below w.heap.size w u1 := ((Below.refl _ _).alloc (Nat.le_refl _) _).trans (d1.mono (by simp))
  have Z1 : w.heap.size < u1.heap.size := by have := d1.size; simp at this; omega
  clear d1
  go_upto_region 2 with fail
  obtain ⟨u2, hu2⟩ : ∃ u, u1.alloc (.cells #[.bool false, .bool false, .bool true, .int .i64 0, .int .i64 0] 61) = u := ⟨_, rfl⟩
  rw [hu2]
  have BB : Below u1.heap.size u1 u2 := by rw [← hu2]; exact (Below.refl _ _).alloc (Nat.le_refl _) _
  have kl : ∀ j, u2.cell? ⟨w.heap.size, j, none⟩ = (#[.int .i64 1, .int .i64 op, .int .i64 rd, .int .i64 r1, .int .i64 r2, .int .i64 im, .string s, .int .i64 n] : Array Value)[j]? := fun j => cell_of_row u2 w.heap.size j _ 46 (0, 0) ((BB.block _ Z1).trans hr)
  have kr : ∀ j, u2.cell? ⟨u1.heap.size, j, none⟩ = (#[.bool false, .bool false, .bool true, .int .i64 0, .int .i64 0] : Array Value)[j]? := fun j => cell_of_row u2 u1.heap.size j _ 61 (0, 0) (by rw [← hu2]; exact heap_alloc_new u1 _)
  have B2 : Hid (Below w.heap.size w u2) := B1.trans (BB.mono B1.size)
  have Z2 : Hid (w.heap.size < u2.heap.size) := Nat.lt_of_lt_of_le Z1 BB.size
  clear hu2 BB hr B1 Z1
  cases hsy : Pl.sy s true
  all_goals
    go_wp2_with (first | (go_at_call 40; refine (symOk_any _ _ _).mono ?_; rintro e u3 ⟨rfl, h3⟩; rw [h3, hsy]; clear h3) | (go_at_call 43; refine (regOk_any _ _ _).mono ?_; rintro e u3 ⟨rfl, h3⟩; rw [h3]; clear h3))
    all_goals
      go_ret
      refine ⟨ret_bool (Eq.trans ?_ HR.out.symm), B2.out⟩
      go_light
      clear kl kr HR
      first
        | (rw [hsy]; rfl)
        | (rw [decide_eq_false (p := 0 ≤ n ∧ n ≤ 0) (by omega)]; simp)
        | (rw [hsy, decide_eq_true (p := 0 ≤ n ∧ n ≤ 0) (by omega)]; simp_all [Pl.onlyRegs]; done)
        | (rw [hsy, decide_eq_true (p := 0 ≤ n ∧ n ≤ 0) (by omega)]; simp_all [Pl.onlyRegs, Pl.rg] <;> omega)
set_option maxHeartbeats 2000000 in
theorem implLine_2 (op rd r1 r2 im n : Int) (s : ByteArray) (w : World) : Calls Tryd.prog 22 #[.agg #[.int .i64 2, .int .i64 op, .int .i64 rd, .int .i64 r1, .int .i64 r2, .int .i64 im, .string s, .int .i64 n]] w fun e w' => e = .returned (.bool (Pl.sy s false && decide (0 ≤ n ∧ n ≤ 0) && (iok op rd r1 r2 im && !Pl.br op))) ∧ Below w.heap.size w w' := by
  obtain ⟨R, hR⟩ : ∃ R, R = (Pl.sy s false && decide (0 ≤ n ∧ n ≤ 0) && (iok op rd r1 r2 im && !Pl.br op)) := ⟨_, rfl⟩
  rw [← hR]
  have HR : Hid (R = (Pl.sy s false && decide (0 ≤ n ∧ n ≤ 0) && (iok op rd r1 r2 im && !Pl.br op))) := hR
  clear hR
  go_enter Tryd.func22, Tryd.ntmps22
  go_wp2_with fail
  refine (rule_2 op rd r1 r2 im n s _).mono ?_
  rintro e u1 ⟨rfl, d1⟩
  have hr := kept_row d1
  have B1 : Below w.heap.size w u1 := ((Below.refl _ _).alloc (Nat.le_refl _) _).trans (d1.mono (by simp))
  have Z1 : w.heap.size < u1.heap.size := by have := d1.size; simp at this; omega
  clear d1
  go_upto_region 2 with fail
  obtain ⟨u2, hu2⟩ : ∃ u, u1.alloc (.cells #[.bool false, .bool false, .bool false, .int .i64 0, .int .i64 0] 61) = u := ⟨_, rfl⟩
  rw [hu2]
  have BB : Below u1.heap.size u1 u2 := by rw [← hu2]; exact (Below.refl _ _).alloc (Nat.le_refl _) _
  have kl : ∀ j, u2.cell? ⟨w.heap.size, j, none⟩ = (#[.int .i64 2, .int .i64 op, .int .i64 rd, .int .i64 r1, .int .i64 r2, .int .i64 im, .string s, .int .i64 n] : Array Value)[j]? := fun j => cell_of_row u2 w.heap.size j _ 46 (0, 0) ((BB.block _ Z1).trans hr)
  have kr : ∀ j, u2.cell? ⟨u1.heap.size, j, none⟩ = (#[.bool false, .bool false, .bool false, .int .i64 0, .int .i64 0] : Array Value)[j]? := fun j => cell_of_row u2 u1.heap.size j _ 61 (0, 0) (by rw [← hu2]; exact heap_alloc_new u1 _)
  have B2 : Hid (Below w.heap.size w u2) := B1.trans (BB.mono B1.size)
  have Z2 : Hid (w.heap.size < u2.heap.size) := Nat.lt_of_lt_of_le Z1 BB.size
  clear hu2 BB hr B1 Z1
  cases hsy : Pl.sy s false <;> cases hio : iok op rd r1 r2 im <;> cases hbr : Pl.br op
  all_goals
    go_wp2_with (first | (go_at_call 40; refine (symOk_any _ _ _).mono ?_; rintro e u3 ⟨rfl, h3⟩; rw [h3, hsy]; clear h3) | (go_at_call 41; refine (implInstOk_any _ _ _ _ _ _).mono ?_; rintro e u4 ⟨rfl, d4⟩; rw [hio]; have kl4 : ∀ j, u4.cell? ⟨w.heap.size, j, none⟩ = (#[.int .i64 2, .int .i64 op, .int .i64 rd, .int .i64 r1, .int .i64 r2, .int .i64 im, .string s, .int .i64 n] : Array Value)[j]? := (fun j => (d4.cell (p := ⟨w.heap.size, j, none⟩) Z2.out).trans (kl j)); have B4 : Hid (Below w.heap.size w u4) := B2.out.trans (d4.mono B2.out.size); have Z4 : Hid (w.heap.size < u4.heap.size) := Nat.lt_of_lt_of_le Z2.out d4.size; clear d4) | (go_at_call 42; refine (branching_any _ _).mono ?_; rintro e u5 ⟨rfl, d5⟩; rw [hbr]; have kl5 : ∀ j, u5.cell? ⟨w.heap.size, j, none⟩ = (#[.int .i64 2, .int .i64 op, .int .i64 rd, .int .i64 r1, .int .i64 r2, .int .i64 im, .string s, .int .i64 n] : Array Value)[j]? := (fun j => (d5.cell (p := ⟨w.heap.size, j, none⟩) Z4.out).trans (kl4 j)); have B5 : Hid (Below w.heap.size w u5) := B4.out.trans (d5.mono B4.out.size); have Z5 : Hid (w.heap.size < u5.heap.size) := Nat.lt_of_lt_of_le Z4.out d5.size; clear d5))
    all_goals
      go_ret
      refine ⟨ret_bool (Eq.trans ?_ HR.out.symm), (by first | exact B5.out | exact B4.out | exact B2.out)⟩
      go_light
      clear kl kr HR
      first
        | (rw [hsy]; rfl)
        | (rw [decide_eq_false (p := 0 ≤ n ∧ n ≤ 0) (by omega)]; simp)
        | (rw [hsy, decide_eq_true (p := 0 ≤ n ∧ n ≤ 0) (by omega)]; simp_all [Pl.onlyRegs]; done)
        | (rw [hsy, decide_eq_true (p := 0 ≤ n ∧ n ≤ 0) (by omega)]; simp_all [Pl.onlyRegs, Pl.rg] <;> omega)
set_option maxHeartbeats 2000000 in
theorem implLine_3 (op rd r1 r2 im n : Int) (s : ByteArray) (w : World) : Calls Tryd.prog 22 #[.agg #[.int .i64 3, .int .i64 op, .int .i64 rd, .int .i64 r1, .int .i64 r2, .int .i64 im, .string s, .int .i64 n]] w fun e w' => e = .returned (.bool (Pl.sy s true && decide (0 ≤ n ∧ n ≤ 0) && (iok op rd r1 r2 im && Pl.br op && im == 0))) ∧ Below w.heap.size w w' := by
  obtain ⟨R, hR⟩ : ∃ R, R = (Pl.sy s true && decide (0 ≤ n ∧ n ≤ 0) && (iok op rd r1 r2 im && Pl.br op && im == 0)) := ⟨_, rfl⟩
  rw [← hR]
  have HR : Hid (R = (Pl.sy s true && decide (0 ≤ n ∧ n ≤ 0) && (iok op rd r1 r2 im && Pl.br op && im == 0))) := hR
  clear hR
  go_enter Tryd.func22, Tryd.ntmps22
  go_wp2_with fail
  refine (rule_3 op rd r1 r2 im n s _).mono ?_
  rintro e u1 ⟨rfl, d1⟩
  have hr := kept_row d1
  have B1 : Below w.heap.size w u1 := ((Below.refl _ _).alloc (Nat.le_refl _) _).trans (d1.mono (by simp))
  have Z1 : w.heap.size < u1.heap.size := by have := d1.size; simp at this; omega
  clear d1
  go_upto_region 2 with fail
  obtain ⟨u2, hu2⟩ : ∃ u, u1.alloc (.cells #[.bool false, .bool false, .bool true, .int .i64 0, .int .i64 0] 61) = u := ⟨_, rfl⟩
  rw [hu2]
  have BB : Below u1.heap.size u1 u2 := by rw [← hu2]; exact (Below.refl _ _).alloc (Nat.le_refl _) _
  have kl : ∀ j, u2.cell? ⟨w.heap.size, j, none⟩ = (#[.int .i64 3, .int .i64 op, .int .i64 rd, .int .i64 r1, .int .i64 r2, .int .i64 im, .string s, .int .i64 n] : Array Value)[j]? := fun j => cell_of_row u2 w.heap.size j _ 46 (0, 0) ((BB.block _ Z1).trans hr)
  have kr : ∀ j, u2.cell? ⟨u1.heap.size, j, none⟩ = (#[.bool false, .bool false, .bool true, .int .i64 0, .int .i64 0] : Array Value)[j]? := fun j => cell_of_row u2 u1.heap.size j _ 61 (0, 0) (by rw [← hu2]; exact heap_alloc_new u1 _)
  have B2 : Hid (Below w.heap.size w u2) := B1.trans (BB.mono B1.size)
  have Z2 : Hid (w.heap.size < u2.heap.size) := Nat.lt_of_lt_of_le Z1 BB.size
  clear hu2 BB hr B1 Z1
  cases hsy : Pl.sy s true <;> cases hio : iok op rd r1 r2 im <;> cases hbr : Pl.br op
  all_goals
    go_wp2_with (first | (go_at_call 40; refine (symOk_any _ _ _).mono ?_; rintro e u3 ⟨rfl, h3⟩; rw [h3, hsy]; clear h3) | (go_at_call 41; refine (implInstOk_any _ _ _ _ _ _).mono ?_; rintro e u4 ⟨rfl, d4⟩; rw [hio]; have kl4 : ∀ j, u4.cell? ⟨w.heap.size, j, none⟩ = (#[.int .i64 3, .int .i64 op, .int .i64 rd, .int .i64 r1, .int .i64 r2, .int .i64 im, .string s, .int .i64 n] : Array Value)[j]? := (fun j => (d4.cell (p := ⟨w.heap.size, j, none⟩) Z2.out).trans (kl j)); have B4 : Hid (Below w.heap.size w u4) := B2.out.trans (d4.mono B2.out.size); have Z4 : Hid (w.heap.size < u4.heap.size) := Nat.lt_of_lt_of_le Z2.out d4.size; clear d4) | (go_at_call 42; refine (branching_any _ _).mono ?_; rintro e u5 ⟨rfl, d5⟩; rw [hbr]; have kl5 : ∀ j, u5.cell? ⟨w.heap.size, j, none⟩ = (#[.int .i64 3, .int .i64 op, .int .i64 rd, .int .i64 r1, .int .i64 r2, .int .i64 im, .string s, .int .i64 n] : Array Value)[j]? := (fun j => (d5.cell (p := ⟨w.heap.size, j, none⟩) Z4.out).trans (kl4 j)); have B5 : Hid (Below w.heap.size w u5) := B4.out.trans (d5.mono B4.out.size); have Z5 : Hid (w.heap.size < u5.heap.size) := Nat.lt_of_lt_of_le Z4.out d5.size; clear d5))
    all_goals
      go_ret
      refine ⟨ret_bool (Eq.trans ?_ HR.out.symm), (by first | exact B5.out | exact B4.out | exact B2.out)⟩
      go_light
      clear kl kr HR
      first
        | (rw [hsy]; rfl)
        | (rw [decide_eq_false (p := 0 ≤ n ∧ n ≤ 0) (by omega)]; simp)
        | (rw [hsy, decide_eq_true (p := 0 ≤ n ∧ n ≤ 0) (by omega)]; simp_all [Pl.onlyRegs]; done)
        | (rw [hsy, decide_eq_true (p := 0 ≤ n ∧ n ≤ 0) (by omega)]; simp_all [Pl.onlyRegs, Pl.rg] <;> omega)
end Go.Proofs.YtgpmplcamdophaaDoor.W
namespace Go.Proofs.YtgpmplcamdophaaDoor.W
open Go.RowKit
set_option maxHeartbeats 2000000 in
theorem implLine_4 (op rd r1 r2 im n : Int) (s : ByteArray) (w : World) : Calls Tryd.prog 22 #[.agg #[.int .i64 4, .int .i64 op, .int .i64 rd, .int .i64 r1, .int .i64 r2, .int .i64 im, .string s, .int .i64 n]] w fun e w' => e = .returned (.bool (Pl.sy s false && decide (0 ≤ n ∧ n ≤ 4294967295) && (Pl.onlyRegs op rd r1 r2 im true false))) ∧ Below w.heap.size w w' := by
  obtain ⟨R, hR⟩ : ∃ R, R = (Pl.sy s false && decide (0 ≤ n ∧ n ≤ 4294967295) && (Pl.onlyRegs op rd r1 r2 im true false)) := ⟨_, rfl⟩
  rw [← hR]
  have HR : Hid (R = (Pl.sy s false && decide (0 ≤ n ∧ n ≤ 4294967295) && (Pl.onlyRegs op rd r1 r2 im true false))) := hR
  clear hR
  go_enter Tryd.func22, Tryd.ntmps22
  go_wp2_with fail
  refine (rule_4 op rd r1 r2 im n s _).mono ?_
  rintro e u1 ⟨rfl, d1⟩
  have hr := kept_row d1
  have B1 : Below w.heap.size w u1 := ((Below.refl _ _).alloc (Nat.le_refl _) _).trans (d1.mono (by simp))
  have Z1 : w.heap.size < u1.heap.size := by have := d1.size; simp at this; omega
  clear d1
  go_upto_region 2 with fail
  obtain ⟨u2, hu2⟩ : ∃ u, u1.alloc (.cells #[.bool true, .bool false, .bool false, .int .i64 0, .int .i64 4294967295] 61) = u := ⟨_, rfl⟩
  rw [hu2]
  have BB : Below u1.heap.size u1 u2 := by rw [← hu2]; exact (Below.refl _ _).alloc (Nat.le_refl _) _
  have kl : ∀ j, u2.cell? ⟨w.heap.size, j, none⟩ = (#[.int .i64 4, .int .i64 op, .int .i64 rd, .int .i64 r1, .int .i64 r2, .int .i64 im, .string s, .int .i64 n] : Array Value)[j]? := fun j => cell_of_row u2 w.heap.size j _ 46 (0, 0) ((BB.block _ Z1).trans hr)
  have kr : ∀ j, u2.cell? ⟨u1.heap.size, j, none⟩ = (#[.bool true, .bool false, .bool false, .int .i64 0, .int .i64 4294967295] : Array Value)[j]? := fun j => cell_of_row u2 u1.heap.size j _ 61 (0, 0) (by rw [← hu2]; exact heap_alloc_new u1 _)
  have B2 : Hid (Below w.heap.size w u2) := B1.trans (BB.mono B1.size)
  have Z2 : Hid (w.heap.size < u2.heap.size) := Nat.lt_of_lt_of_le Z1 BB.size
  clear hu2 BB hr B1 Z1
  cases hsy : Pl.sy s false
  all_goals
    go_wp2_with (first | (go_at_call 40; refine (symOk_any _ _ _).mono ?_; rintro e u3 ⟨rfl, h3⟩; rw [h3, hsy]; clear h3) | (go_at_call 43; refine (regOk_any _ _ _).mono ?_; rintro e u3 ⟨rfl, h3⟩; rw [h3]; clear h3))
    all_goals
      go_ret
      refine ⟨ret_bool (Eq.trans ?_ HR.out.symm), B2.out⟩
      go_light
      clear kl kr HR
      first
        | (rw [hsy]; rfl)
        | (rw [decide_eq_false (p := 0 ≤ n ∧ n ≤ 4294967295) (by omega)]; simp)
        | (rw [hsy, decide_eq_true (p := 0 ≤ n ∧ n ≤ 4294967295) (by omega)]; simp_all [Pl.onlyRegs]; done)
        | (rw [hsy, decide_eq_true (p := 0 ≤ n ∧ n ≤ 4294967295) (by omega)]; simp_all [Pl.onlyRegs, Pl.rg] <;> omega)
set_option maxHeartbeats 2000000 in
theorem implLine_5 (op rd r1 r2 im n : Int) (s : ByteArray) (w : World) : Calls Tryd.prog 22 #[.agg #[.int .i64 5, .int .i64 op, .int .i64 rd, .int .i64 r1, .int .i64 r2, .int .i64 im, .string s, .int .i64 n]] w fun e w' => e = .returned (.bool (Pl.sy s true && decide ((-2147483648) ≤ n ∧ n ≤ 2147483647) && (Pl.onlyRegs op rd r1 r2 im true false))) ∧ Below w.heap.size w w' := by
  obtain ⟨R, hR⟩ : ∃ R, R = (Pl.sy s true && decide ((-2147483648) ≤ n ∧ n ≤ 2147483647) && (Pl.onlyRegs op rd r1 r2 im true false)) := ⟨_, rfl⟩
  rw [← hR]
  have HR : Hid (R = (Pl.sy s true && decide ((-2147483648) ≤ n ∧ n ≤ 2147483647) && (Pl.onlyRegs op rd r1 r2 im true false))) := hR
  clear hR
  go_enter Tryd.func22, Tryd.ntmps22
  go_wp2_with fail
  refine (rule_5 op rd r1 r2 im n s _).mono ?_
  rintro e u1 ⟨rfl, d1⟩
  have hr := kept_row d1
  have B1 : Below w.heap.size w u1 := ((Below.refl _ _).alloc (Nat.le_refl _) _).trans (d1.mono (by simp))
  have Z1 : w.heap.size < u1.heap.size := by have := d1.size; simp at this; omega
  clear d1
  go_upto_region 2 with fail
  obtain ⟨u2, hu2⟩ : ∃ u, u1.alloc (.cells #[.bool true, .bool false, .bool true, .int .i64 (-2147483648), .int .i64 2147483647] 61) = u := ⟨_, rfl⟩
  rw [hu2]
  have BB : Below u1.heap.size u1 u2 := by rw [← hu2]; exact (Below.refl _ _).alloc (Nat.le_refl _) _
  have kl : ∀ j, u2.cell? ⟨w.heap.size, j, none⟩ = (#[.int .i64 5, .int .i64 op, .int .i64 rd, .int .i64 r1, .int .i64 r2, .int .i64 im, .string s, .int .i64 n] : Array Value)[j]? := fun j => cell_of_row u2 w.heap.size j _ 46 (0, 0) ((BB.block _ Z1).trans hr)
  have kr : ∀ j, u2.cell? ⟨u1.heap.size, j, none⟩ = (#[.bool true, .bool false, .bool true, .int .i64 (-2147483648), .int .i64 2147483647] : Array Value)[j]? := fun j => cell_of_row u2 u1.heap.size j _ 61 (0, 0) (by rw [← hu2]; exact heap_alloc_new u1 _)
  have B2 : Hid (Below w.heap.size w u2) := B1.trans (BB.mono B1.size)
  have Z2 : Hid (w.heap.size < u2.heap.size) := Nat.lt_of_lt_of_le Z1 BB.size
  clear hu2 BB hr B1 Z1
  cases hsy : Pl.sy s true
  all_goals
    go_wp2_with (first | (go_at_call 40; refine (symOk_any _ _ _).mono ?_; rintro e u3 ⟨rfl, h3⟩; rw [h3, hsy]; clear h3) | (go_at_call 43; refine (regOk_any _ _ _).mono ?_; rintro e u3 ⟨rfl, h3⟩; rw [h3]; clear h3))
    all_goals
      go_ret
      refine ⟨ret_bool (Eq.trans ?_ HR.out.symm), B2.out⟩
      go_light
      clear kl kr HR
      first
        | (rw [hsy]; rfl)
        | (rw [decide_eq_false (p := (-2147483648) ≤ n ∧ n ≤ 2147483647) (by omega)]; simp)
        | (rw [hsy, decide_eq_true (p := (-2147483648) ≤ n ∧ n ≤ 2147483647) (by omega)]; simp_all [Pl.onlyRegs]; done)
        | (rw [hsy, decide_eq_true (p := (-2147483648) ≤ n ∧ n ≤ 2147483647) (by omega)]; simp_all [Pl.onlyRegs, Pl.rg] <;> omega)
set_option maxHeartbeats 2000000 in
theorem implLine_6 (op rd r1 r2 im n : Int) (s : ByteArray) (w : World) : Calls Tryd.prog 22 #[.agg #[.int .i64 6, .int .i64 op, .int .i64 rd, .int .i64 r1, .int .i64 r2, .int .i64 im, .string s, .int .i64 n]] w fun e w' => e = .returned (.bool (Pl.sy s false && decide (0 ≤ n ∧ n ≤ 0) && (Pl.onlyRegs op rd r1 r2 im true true))) ∧ Below w.heap.size w w' := by
  obtain ⟨R, hR⟩ : ∃ R, R = (Pl.sy s false && decide (0 ≤ n ∧ n ≤ 0) && (Pl.onlyRegs op rd r1 r2 im true true)) := ⟨_, rfl⟩
  rw [← hR]
  have HR : Hid (R = (Pl.sy s false && decide (0 ≤ n ∧ n ≤ 0) && (Pl.onlyRegs op rd r1 r2 im true true))) := hR
  clear hR
  go_enter Tryd.func22, Tryd.ntmps22
  go_wp2_with fail
  refine (rule_6 op rd r1 r2 im n s _).mono ?_
  rintro e u1 ⟨rfl, d1⟩
  have hr := kept_row d1
  have B1 : Below w.heap.size w u1 := ((Below.refl _ _).alloc (Nat.le_refl _) _).trans (d1.mono (by simp))
  have Z1 : w.heap.size < u1.heap.size := by have := d1.size; simp at this; omega
  clear d1
  go_upto_region 2 with fail
  obtain ⟨u2, hu2⟩ : ∃ u, u1.alloc (.cells #[.bool true, .bool true, .bool false, .int .i64 0, .int .i64 0] 61) = u := ⟨_, rfl⟩
  rw [hu2]
  have BB : Below u1.heap.size u1 u2 := by rw [← hu2]; exact (Below.refl _ _).alloc (Nat.le_refl _) _
  have kl : ∀ j, u2.cell? ⟨w.heap.size, j, none⟩ = (#[.int .i64 6, .int .i64 op, .int .i64 rd, .int .i64 r1, .int .i64 r2, .int .i64 im, .string s, .int .i64 n] : Array Value)[j]? := fun j => cell_of_row u2 w.heap.size j _ 46 (0, 0) ((BB.block _ Z1).trans hr)
  have kr : ∀ j, u2.cell? ⟨u1.heap.size, j, none⟩ = (#[.bool true, .bool true, .bool false, .int .i64 0, .int .i64 0] : Array Value)[j]? := fun j => cell_of_row u2 u1.heap.size j _ 61 (0, 0) (by rw [← hu2]; exact heap_alloc_new u1 _)
  have B2 : Hid (Below w.heap.size w u2) := B1.trans (BB.mono B1.size)
  have Z2 : Hid (w.heap.size < u2.heap.size) := Nat.lt_of_lt_of_le Z1 BB.size
  clear hu2 BB hr B1 Z1
  cases hsy : Pl.sy s false
  all_goals
    go_wp2_with (first | (go_at_call 40; refine (symOk_any _ _ _).mono ?_; rintro e u3 ⟨rfl, h3⟩; rw [h3, hsy]; clear h3) | (go_at_call 43; refine (regOk_any _ _ _).mono ?_; rintro e u3 ⟨rfl, h3⟩; rw [h3]; clear h3))
    all_goals
      go_ret
      refine ⟨ret_bool (Eq.trans ?_ HR.out.symm), B2.out⟩
      go_light
      clear kl kr HR
      first
        | (rw [hsy]; rfl)
        | (rw [decide_eq_false (p := 0 ≤ n ∧ n ≤ 0) (by omega)]; simp)
        | (rw [hsy, decide_eq_true (p := 0 ≤ n ∧ n ≤ 0) (by omega)]; simp_all [Pl.onlyRegs]; done)
        | (rw [hsy, decide_eq_true (p := 0 ≤ n ∧ n ≤ 0) (by omega)]; simp_all [Pl.onlyRegs, Pl.rg] <;> omega)
set_option maxHeartbeats 2000000 in
theorem implLine_7 (op rd r1 r2 im n : Int) (s : ByteArray) (w : World) : Calls Tryd.prog 22 #[.agg #[.int .i64 7, .int .i64 op, .int .i64 rd, .int .i64 r1, .int .i64 r2, .int .i64 im, .string s, .int .i64 n]] w fun e w' => e = .returned (.bool (Pl.sy s true && decide (0 ≤ n ∧ n ≤ 0) && (Pl.onlyRegs op rd r1 r2 im false false))) ∧ Below w.heap.size w w' := by
  obtain ⟨R, hR⟩ : ∃ R, R = (Pl.sy s true && decide (0 ≤ n ∧ n ≤ 0) && (Pl.onlyRegs op rd r1 r2 im false false)) := ⟨_, rfl⟩
  rw [← hR]
  have HR : Hid (R = (Pl.sy s true && decide (0 ≤ n ∧ n ≤ 0) && (Pl.onlyRegs op rd r1 r2 im false false))) := hR
  clear hR
  go_enter Tryd.func22, Tryd.ntmps22
  go_wp2_with fail
  refine (rule_7 op rd r1 r2 im n s _).mono ?_
  rintro e u1 ⟨rfl, d1⟩
  have hr := kept_row d1
  have B1 : Below w.heap.size w u1 := ((Below.refl _ _).alloc (Nat.le_refl _) _).trans (d1.mono (by simp))
  have Z1 : w.heap.size < u1.heap.size := by have := d1.size; simp at this; omega
  clear d1
  go_upto_region 2 with fail
  obtain ⟨u2, hu2⟩ : ∃ u, u1.alloc (.cells #[.bool false, .bool false, .bool true, .int .i64 0, .int .i64 0] 61) = u := ⟨_, rfl⟩
  rw [hu2]
  have BB : Below u1.heap.size u1 u2 := by rw [← hu2]; exact (Below.refl _ _).alloc (Nat.le_refl _) _
  have kl : ∀ j, u2.cell? ⟨w.heap.size, j, none⟩ = (#[.int .i64 7, .int .i64 op, .int .i64 rd, .int .i64 r1, .int .i64 r2, .int .i64 im, .string s, .int .i64 n] : Array Value)[j]? := fun j => cell_of_row u2 w.heap.size j _ 46 (0, 0) ((BB.block _ Z1).trans hr)
  have kr : ∀ j, u2.cell? ⟨u1.heap.size, j, none⟩ = (#[.bool false, .bool false, .bool true, .int .i64 0, .int .i64 0] : Array Value)[j]? := fun j => cell_of_row u2 u1.heap.size j _ 61 (0, 0) (by rw [← hu2]; exact heap_alloc_new u1 _)
  have B2 : Hid (Below w.heap.size w u2) := B1.trans (BB.mono B1.size)
  have Z2 : Hid (w.heap.size < u2.heap.size) := Nat.lt_of_lt_of_le Z1 BB.size
  clear hu2 BB hr B1 Z1
  cases hsy : Pl.sy s true
  all_goals
    go_wp2_with (first | (go_at_call 40; refine (symOk_any _ _ _).mono ?_; rintro e u3 ⟨rfl, h3⟩; rw [h3, hsy]; clear h3) | (go_at_call 43; refine (regOk_any _ _ _).mono ?_; rintro e u3 ⟨rfl, h3⟩; rw [h3]; clear h3))
    all_goals
      go_ret
      refine ⟨ret_bool (Eq.trans ?_ HR.out.symm), B2.out⟩
      go_light
      clear kl kr HR
      first
        | (rw [hsy]; rfl)
        | (rw [decide_eq_false (p := 0 ≤ n ∧ n ≤ 0) (by omega)]; simp)
        | (rw [hsy, decide_eq_true (p := 0 ≤ n ∧ n ≤ 0) (by omega)]; simp_all [Pl.onlyRegs]; done)
        | (rw [hsy, decide_eq_true (p := 0 ≤ n ∧ n ≤ 0) (by omega)]; simp_all [Pl.onlyRegs, Pl.rg] <;> omega)
set_option maxHeartbeats 2000000 in
theorem implLine_8 (op rd r1 r2 im n : Int) (s : ByteArray) (w : World) : Calls Tryd.prog 22 #[.agg #[.int .i64 8, .int .i64 op, .int .i64 rd, .int .i64 r1, .int .i64 r2, .int .i64 im, .string s, .int .i64 n]] w fun e w' => e = .returned (.bool (Pl.sy s true && decide (0 ≤ n ∧ n ≤ 0) && (Pl.onlyRegs op rd r1 r2 im false false))) ∧ Below w.heap.size w w' := by
  obtain ⟨R, hR⟩ : ∃ R, R = (Pl.sy s true && decide (0 ≤ n ∧ n ≤ 0) && (Pl.onlyRegs op rd r1 r2 im false false)) := ⟨_, rfl⟩
  rw [← hR]
  have HR : Hid (R = (Pl.sy s true && decide (0 ≤ n ∧ n ≤ 0) && (Pl.onlyRegs op rd r1 r2 im false false))) := hR
  clear hR
  go_enter Tryd.func22, Tryd.ntmps22
  go_wp2_with fail
  refine (rule_8 op rd r1 r2 im n s _).mono ?_
  rintro e u1 ⟨rfl, d1⟩
  have hr := kept_row d1
  have B1 : Below w.heap.size w u1 := ((Below.refl _ _).alloc (Nat.le_refl _) _).trans (d1.mono (by simp))
  have Z1 : w.heap.size < u1.heap.size := by have := d1.size; simp at this; omega
  clear d1
  go_upto_region 2 with fail
  obtain ⟨u2, hu2⟩ : ∃ u, u1.alloc (.cells #[.bool false, .bool false, .bool true, .int .i64 0, .int .i64 0] 61) = u := ⟨_, rfl⟩
  rw [hu2]
  have BB : Below u1.heap.size u1 u2 := by rw [← hu2]; exact (Below.refl _ _).alloc (Nat.le_refl _) _
  have kl : ∀ j, u2.cell? ⟨w.heap.size, j, none⟩ = (#[.int .i64 8, .int .i64 op, .int .i64 rd, .int .i64 r1, .int .i64 r2, .int .i64 im, .string s, .int .i64 n] : Array Value)[j]? := fun j => cell_of_row u2 w.heap.size j _ 46 (0, 0) ((BB.block _ Z1).trans hr)
  have kr : ∀ j, u2.cell? ⟨u1.heap.size, j, none⟩ = (#[.bool false, .bool false, .bool true, .int .i64 0, .int .i64 0] : Array Value)[j]? := fun j => cell_of_row u2 u1.heap.size j _ 61 (0, 0) (by rw [← hu2]; exact heap_alloc_new u1 _)
  have B2 : Hid (Below w.heap.size w u2) := B1.trans (BB.mono B1.size)
  have Z2 : Hid (w.heap.size < u2.heap.size) := Nat.lt_of_lt_of_le Z1 BB.size
  clear hu2 BB hr B1 Z1
  cases hsy : Pl.sy s true
  all_goals
    go_wp2_with (first | (go_at_call 40; refine (symOk_any _ _ _).mono ?_; rintro e u3 ⟨rfl, h3⟩; rw [h3, hsy]; clear h3) | (go_at_call 43; refine (regOk_any _ _ _).mono ?_; rintro e u3 ⟨rfl, h3⟩; rw [h3]; clear h3))
    all_goals
      go_ret
      refine ⟨ret_bool (Eq.trans ?_ HR.out.symm), B2.out⟩
      go_light
      clear kl kr HR
      first
        | (rw [hsy]; rfl)
        | (rw [decide_eq_false (p := 0 ≤ n ∧ n ≤ 0) (by omega)]; simp)
        | (rw [hsy, decide_eq_true (p := 0 ≤ n ∧ n ≤ 0) (by omega)]; simp_all [Pl.onlyRegs]; done)
        | (rw [hsy, decide_eq_true (p := 0 ≤ n ∧ n ≤ 0) (by omega)]; simp_all [Pl.onlyRegs, Pl.rg] <;> omega)
end Go.Proofs.YtgpmplcamdophaaDoor.W
namespace Go.Proofs.YtgpmplcamdophaaDoor.W
open Go.RowKit
set_option maxHeartbeats 2000000 in
theorem implLine_9 (op rd r1 r2 im n : Int) (s : ByteArray) (w : World) : Calls Tryd.prog 22 #[.agg #[.int .i64 9, .int .i64 op, .int .i64 rd, .int .i64 r1, .int .i64 r2, .int .i64 im, .string s, .int .i64 n]] w fun e w' => e = .returned (.bool (Pl.sy s false && decide (0 ≤ n ∧ n ≤ 0) && (Pl.onlyRegs op rd r1 r2 im false false))) ∧ Below w.heap.size w w' := by
  obtain ⟨R, hR⟩ : ∃ R, R = (Pl.sy s false && decide (0 ≤ n ∧ n ≤ 0) && (Pl.onlyRegs op rd r1 r2 im false false)) := ⟨_, rfl⟩
  rw [← hR]
  have HR : Hid (R = (Pl.sy s false && decide (0 ≤ n ∧ n ≤ 0) && (Pl.onlyRegs op rd r1 r2 im false false))) := hR
  clear hR
  go_enter Tryd.func22, Tryd.ntmps22
  go_wp2_with fail
  refine (rule_9 op rd r1 r2 im n s _).mono ?_
  rintro e u1 ⟨rfl, d1⟩
  have hr := kept_row d1
  have B1 : Below w.heap.size w u1 := ((Below.refl _ _).alloc (Nat.le_refl _) _).trans (d1.mono (by simp))
  have Z1 : w.heap.size < u1.heap.size := by have := d1.size; simp at this; omega
  clear d1
  go_upto_region 2 with fail
  obtain ⟨u2, hu2⟩ : ∃ u, u1.alloc (.cells #[.bool false, .bool false, .bool false, .int .i64 0, .int .i64 0] 61) = u := ⟨_, rfl⟩
  rw [hu2]
  have BB : Below u1.heap.size u1 u2 := by rw [← hu2]; exact (Below.refl _ _).alloc (Nat.le_refl _) _
  have kl : ∀ j, u2.cell? ⟨w.heap.size, j, none⟩ = (#[.int .i64 9, .int .i64 op, .int .i64 rd, .int .i64 r1, .int .i64 r2, .int .i64 im, .string s, .int .i64 n] : Array Value)[j]? := fun j => cell_of_row u2 w.heap.size j _ 46 (0, 0) ((BB.block _ Z1).trans hr)
  have kr : ∀ j, u2.cell? ⟨u1.heap.size, j, none⟩ = (#[.bool false, .bool false, .bool false, .int .i64 0, .int .i64 0] : Array Value)[j]? := fun j => cell_of_row u2 u1.heap.size j _ 61 (0, 0) (by rw [← hu2]; exact heap_alloc_new u1 _)
  have B2 : Hid (Below w.heap.size w u2) := B1.trans (BB.mono B1.size)
  have Z2 : Hid (w.heap.size < u2.heap.size) := Nat.lt_of_lt_of_le Z1 BB.size
  clear hu2 BB hr B1 Z1
  cases hsy : Pl.sy s false
  all_goals
    go_wp2_with (first | (go_at_call 40; refine (symOk_any _ _ _).mono ?_; rintro e u3 ⟨rfl, h3⟩; rw [h3, hsy]; clear h3) | (go_at_call 43; refine (regOk_any _ _ _).mono ?_; rintro e u3 ⟨rfl, h3⟩; rw [h3]; clear h3))
    all_goals
      go_ret
      refine ⟨ret_bool (Eq.trans ?_ HR.out.symm), B2.out⟩
      go_light
      clear kl kr HR
      first
        | (rw [hsy]; rfl)
        | (rw [decide_eq_false (p := 0 ≤ n ∧ n ≤ 0) (by omega)]; simp)
        | (rw [hsy, decide_eq_true (p := 0 ≤ n ∧ n ≤ 0) (by omega)]; simp_all [Pl.onlyRegs]; done)
        | (rw [hsy, decide_eq_true (p := 0 ≤ n ∧ n ≤ 0) (by omega)]; simp_all [Pl.onlyRegs, Pl.rg] <;> omega)
set_option maxHeartbeats 2000000 in
theorem implLine_10 (op rd r1 r2 im n : Int) (s : ByteArray) (w : World) : Calls Tryd.prog 22 #[.agg #[.int .i64 10, .int .i64 op, .int .i64 rd, .int .i64 r1, .int .i64 r2, .int .i64 im, .string s, .int .i64 n]] w fun e w' => e = .returned (.bool (Pl.sy s false && decide (0 ≤ n ∧ n ≤ 0) && (Pl.onlyRegs op rd r1 r2 im false false))) ∧ Below w.heap.size w w' := by
  obtain ⟨R, hR⟩ : ∃ R, R = (Pl.sy s false && decide (0 ≤ n ∧ n ≤ 0) && (Pl.onlyRegs op rd r1 r2 im false false)) := ⟨_, rfl⟩
  rw [← hR]
  have HR : Hid (R = (Pl.sy s false && decide (0 ≤ n ∧ n ≤ 0) && (Pl.onlyRegs op rd r1 r2 im false false))) := hR
  clear hR
  go_enter Tryd.func22, Tryd.ntmps22
  go_wp2_with fail
  refine (rule_10 op rd r1 r2 im n s _).mono ?_
  rintro e u1 ⟨rfl, d1⟩
  have hr := kept_row d1
  have B1 : Below w.heap.size w u1 := ((Below.refl _ _).alloc (Nat.le_refl _) _).trans (d1.mono (by simp))
  have Z1 : w.heap.size < u1.heap.size := by have := d1.size; simp at this; omega
  clear d1
  go_upto_region 2 with fail
  obtain ⟨u2, hu2⟩ : ∃ u, u1.alloc (.cells #[.bool false, .bool false, .bool false, .int .i64 0, .int .i64 0] 61) = u := ⟨_, rfl⟩
  rw [hu2]
  have BB : Below u1.heap.size u1 u2 := by rw [← hu2]; exact (Below.refl _ _).alloc (Nat.le_refl _) _
  have kl : ∀ j, u2.cell? ⟨w.heap.size, j, none⟩ = (#[.int .i64 10, .int .i64 op, .int .i64 rd, .int .i64 r1, .int .i64 r2, .int .i64 im, .string s, .int .i64 n] : Array Value)[j]? := fun j => cell_of_row u2 w.heap.size j _ 46 (0, 0) ((BB.block _ Z1).trans hr)
  have kr : ∀ j, u2.cell? ⟨u1.heap.size, j, none⟩ = (#[.bool false, .bool false, .bool false, .int .i64 0, .int .i64 0] : Array Value)[j]? := fun j => cell_of_row u2 u1.heap.size j _ 61 (0, 0) (by rw [← hu2]; exact heap_alloc_new u1 _)
  have B2 : Hid (Below w.heap.size w u2) := B1.trans (BB.mono B1.size)
  have Z2 : Hid (w.heap.size < u2.heap.size) := Nat.lt_of_lt_of_le Z1 BB.size
  clear hu2 BB hr B1 Z1
  cases hsy : Pl.sy s false
  all_goals
    go_wp2_with (first | (go_at_call 40; refine (symOk_any _ _ _).mono ?_; rintro e u3 ⟨rfl, h3⟩; rw [h3, hsy]; clear h3) | (go_at_call 43; refine (regOk_any _ _ _).mono ?_; rintro e u3 ⟨rfl, h3⟩; rw [h3]; clear h3))
    all_goals
      go_ret
      refine ⟨ret_bool (Eq.trans ?_ HR.out.symm), B2.out⟩
      go_light
      clear kl kr HR
      first
        | (rw [hsy]; rfl)
        | (rw [decide_eq_false (p := 0 ≤ n ∧ n ≤ 0) (by omega)]; simp)
        | (rw [hsy, decide_eq_true (p := 0 ≤ n ∧ n ≤ 0) (by omega)]; simp_all [Pl.onlyRegs]; done)
        | (rw [hsy, decide_eq_true (p := 0 ≤ n ∧ n ≤ 0) (by omega)]; simp_all [Pl.onlyRegs, Pl.rg] <;> omega)
set_option maxHeartbeats 2000000 in
theorem implLine_11 (op rd r1 r2 im n : Int) (s : ByteArray) (w : World) : Calls Tryd.prog 22 #[.agg #[.int .i64 11, .int .i64 op, .int .i64 rd, .int .i64 r1, .int .i64 r2, .int .i64 im, .string s, .int .i64 n]] w fun e w' => e = .returned (.bool (Pl.sy s false && decide (0 ≤ n ∧ n ≤ 0) && (Pl.onlyRegs op rd r1 r2 im false false))) ∧ Below w.heap.size w w' := by
  obtain ⟨R, hR⟩ : ∃ R, R = (Pl.sy s false && decide (0 ≤ n ∧ n ≤ 0) && (Pl.onlyRegs op rd r1 r2 im false false)) := ⟨_, rfl⟩
  rw [← hR]
  have HR : Hid (R = (Pl.sy s false && decide (0 ≤ n ∧ n ≤ 0) && (Pl.onlyRegs op rd r1 r2 im false false))) := hR
  clear hR
  go_enter Tryd.func22, Tryd.ntmps22
  go_wp2_with fail
  refine (rule_11 op rd r1 r2 im n s _).mono ?_
  rintro e u1 ⟨rfl, d1⟩
  have hr := kept_row d1
  have B1 : Below w.heap.size w u1 := ((Below.refl _ _).alloc (Nat.le_refl _) _).trans (d1.mono (by simp))
  have Z1 : w.heap.size < u1.heap.size := by have := d1.size; simp at this; omega
  clear d1
  go_upto_region 2 with fail
  obtain ⟨u2, hu2⟩ : ∃ u, u1.alloc (.cells #[.bool false, .bool false, .bool false, .int .i64 0, .int .i64 0] 61) = u := ⟨_, rfl⟩
  rw [hu2]
  have BB : Below u1.heap.size u1 u2 := by rw [← hu2]; exact (Below.refl _ _).alloc (Nat.le_refl _) _
  have kl : ∀ j, u2.cell? ⟨w.heap.size, j, none⟩ = (#[.int .i64 11, .int .i64 op, .int .i64 rd, .int .i64 r1, .int .i64 r2, .int .i64 im, .string s, .int .i64 n] : Array Value)[j]? := fun j => cell_of_row u2 w.heap.size j _ 46 (0, 0) ((BB.block _ Z1).trans hr)
  have kr : ∀ j, u2.cell? ⟨u1.heap.size, j, none⟩ = (#[.bool false, .bool false, .bool false, .int .i64 0, .int .i64 0] : Array Value)[j]? := fun j => cell_of_row u2 u1.heap.size j _ 61 (0, 0) (by rw [← hu2]; exact heap_alloc_new u1 _)
  have B2 : Hid (Below w.heap.size w u2) := B1.trans (BB.mono B1.size)
  have Z2 : Hid (w.heap.size < u2.heap.size) := Nat.lt_of_lt_of_le Z1 BB.size
  clear hu2 BB hr B1 Z1
  cases hsy : Pl.sy s false
  all_goals
    go_wp2_with (first | (go_at_call 40; refine (symOk_any _ _ _).mono ?_; rintro e u3 ⟨rfl, h3⟩; rw [h3, hsy]; clear h3) | (go_at_call 43; refine (regOk_any _ _ _).mono ?_; rintro e u3 ⟨rfl, h3⟩; rw [h3]; clear h3))
    all_goals
      go_ret
      refine ⟨ret_bool (Eq.trans ?_ HR.out.symm), B2.out⟩
      go_light
      clear kl kr HR
      first
        | (rw [hsy]; rfl)
        | (rw [decide_eq_false (p := 0 ≤ n ∧ n ≤ 0) (by omega)]; simp)
        | (rw [hsy, decide_eq_true (p := 0 ≤ n ∧ n ≤ 0) (by omega)]; simp_all [Pl.onlyRegs]; done)
        | (rw [hsy, decide_eq_true (p := 0 ≤ n ∧ n ≤ 0) (by omega)]; simp_all [Pl.onlyRegs, Pl.rg] <;> omega)
set_option maxHeartbeats 2000000 in
theorem implLine_12 (op rd r1 r2 im n : Int) (s : ByteArray) (w : World) : Calls Tryd.prog 22 #[.agg #[.int .i64 12, .int .i64 op, .int .i64 rd, .int .i64 r1, .int .i64 r2, .int .i64 im, .string s, .int .i64 n]] w fun e w' => e = .returned (.bool (Pl.sy s false && decide (0 ≤ n ∧ n ≤ 255) && (Pl.onlyRegs op rd r1 r2 im false false))) ∧ Below w.heap.size w w' := by
  obtain ⟨R, hR⟩ : ∃ R, R = (Pl.sy s false && decide (0 ≤ n ∧ n ≤ 255) && (Pl.onlyRegs op rd r1 r2 im false false)) := ⟨_, rfl⟩
  rw [← hR]
  have HR : Hid (R = (Pl.sy s false && decide (0 ≤ n ∧ n ≤ 255) && (Pl.onlyRegs op rd r1 r2 im false false))) := hR
  clear hR
  go_enter Tryd.func22, Tryd.ntmps22
  go_wp2_with fail
  refine (rule_12 op rd r1 r2 im n s _).mono ?_
  rintro e u1 ⟨rfl, d1⟩
  have hr := kept_row d1
  have B1 : Below w.heap.size w u1 := ((Below.refl _ _).alloc (Nat.le_refl _) _).trans (d1.mono (by simp))
  have Z1 : w.heap.size < u1.heap.size := by have := d1.size; simp at this; omega
  clear d1
  go_upto_region 2 with fail
  obtain ⟨u2, hu2⟩ : ∃ u, u1.alloc (.cells #[.bool false, .bool false, .bool false, .int .i64 0, .int .i64 255] 61) = u := ⟨_, rfl⟩
  rw [hu2]
  have BB : Below u1.heap.size u1 u2 := by rw [← hu2]; exact (Below.refl _ _).alloc (Nat.le_refl _) _
  have kl : ∀ j, u2.cell? ⟨w.heap.size, j, none⟩ = (#[.int .i64 12, .int .i64 op, .int .i64 rd, .int .i64 r1, .int .i64 r2, .int .i64 im, .string s, .int .i64 n] : Array Value)[j]? := fun j => cell_of_row u2 w.heap.size j _ 46 (0, 0) ((BB.block _ Z1).trans hr)
  have kr : ∀ j, u2.cell? ⟨u1.heap.size, j, none⟩ = (#[.bool false, .bool false, .bool false, .int .i64 0, .int .i64 255] : Array Value)[j]? := fun j => cell_of_row u2 u1.heap.size j _ 61 (0, 0) (by rw [← hu2]; exact heap_alloc_new u1 _)
  have B2 : Hid (Below w.heap.size w u2) := B1.trans (BB.mono B1.size)
  have Z2 : Hid (w.heap.size < u2.heap.size) := Nat.lt_of_lt_of_le Z1 BB.size
  clear hu2 BB hr B1 Z1
  cases hsy : Pl.sy s false
  all_goals
    go_wp2_with (first | (go_at_call 40; refine (symOk_any _ _ _).mono ?_; rintro e u3 ⟨rfl, h3⟩; rw [h3, hsy]; clear h3) | (go_at_call 43; refine (regOk_any _ _ _).mono ?_; rintro e u3 ⟨rfl, h3⟩; rw [h3]; clear h3))
    all_goals
      go_ret
      refine ⟨ret_bool (Eq.trans ?_ HR.out.symm), B2.out⟩
      go_light
      clear kl kr HR
      first
        | (rw [hsy]; rfl)
        | (rw [decide_eq_false (p := 0 ≤ n ∧ n ≤ 255) (by omega)]; simp)
        | (rw [hsy, decide_eq_true (p := 0 ≤ n ∧ n ≤ 255) (by omega)]; simp_all [Pl.onlyRegs]; done)
        | (rw [hsy, decide_eq_true (p := 0 ≤ n ∧ n ≤ 255) (by omega)]; simp_all [Pl.onlyRegs, Pl.rg] <;> omega)
set_option maxHeartbeats 2000000 in
theorem implLine_13 (op rd r1 r2 im n : Int) (s : ByteArray) (w : World) : Calls Tryd.prog 22 #[.agg #[.int .i64 13, .int .i64 op, .int .i64 rd, .int .i64 r1, .int .i64 r2, .int .i64 im, .string s, .int .i64 n]] w fun e w' => e = .returned (.bool (Pl.sy s false && decide (0 ≤ n ∧ n ≤ 65535) && (Pl.onlyRegs op rd r1 r2 im false false))) ∧ Below w.heap.size w w' := by
  obtain ⟨R, hR⟩ : ∃ R, R = (Pl.sy s false && decide (0 ≤ n ∧ n ≤ 65535) && (Pl.onlyRegs op rd r1 r2 im false false)) := ⟨_, rfl⟩
  rw [← hR]
  have HR : Hid (R = (Pl.sy s false && decide (0 ≤ n ∧ n ≤ 65535) && (Pl.onlyRegs op rd r1 r2 im false false))) := hR
  clear hR
  go_enter Tryd.func22, Tryd.ntmps22
  go_wp2_with fail
  refine (rule_13 op rd r1 r2 im n s _).mono ?_
  rintro e u1 ⟨rfl, d1⟩
  have hr := kept_row d1
  have B1 : Below w.heap.size w u1 := ((Below.refl _ _).alloc (Nat.le_refl _) _).trans (d1.mono (by simp))
  have Z1 : w.heap.size < u1.heap.size := by have := d1.size; simp at this; omega
  clear d1
  go_upto_region 2 with fail
  obtain ⟨u2, hu2⟩ : ∃ u, u1.alloc (.cells #[.bool false, .bool false, .bool false, .int .i64 0, .int .i64 65535] 61) = u := ⟨_, rfl⟩
  rw [hu2]
  have BB : Below u1.heap.size u1 u2 := by rw [← hu2]; exact (Below.refl _ _).alloc (Nat.le_refl _) _
  have kl : ∀ j, u2.cell? ⟨w.heap.size, j, none⟩ = (#[.int .i64 13, .int .i64 op, .int .i64 rd, .int .i64 r1, .int .i64 r2, .int .i64 im, .string s, .int .i64 n] : Array Value)[j]? := fun j => cell_of_row u2 w.heap.size j _ 46 (0, 0) ((BB.block _ Z1).trans hr)
  have kr : ∀ j, u2.cell? ⟨u1.heap.size, j, none⟩ = (#[.bool false, .bool false, .bool false, .int .i64 0, .int .i64 65535] : Array Value)[j]? := fun j => cell_of_row u2 u1.heap.size j _ 61 (0, 0) (by rw [← hu2]; exact heap_alloc_new u1 _)
  have B2 : Hid (Below w.heap.size w u2) := B1.trans (BB.mono B1.size)
  have Z2 : Hid (w.heap.size < u2.heap.size) := Nat.lt_of_lt_of_le Z1 BB.size
  clear hu2 BB hr B1 Z1
  cases hsy : Pl.sy s false
  all_goals
    go_wp2_with (first | (go_at_call 40; refine (symOk_any _ _ _).mono ?_; rintro e u3 ⟨rfl, h3⟩; rw [h3, hsy]; clear h3) | (go_at_call 43; refine (regOk_any _ _ _).mono ?_; rintro e u3 ⟨rfl, h3⟩; rw [h3]; clear h3))
    all_goals
      go_ret
      refine ⟨ret_bool (Eq.trans ?_ HR.out.symm), B2.out⟩
      go_light
      clear kl kr HR
      first
        | (rw [hsy]; rfl)
        | (rw [decide_eq_false (p := 0 ≤ n ∧ n ≤ 65535) (by omega)]; simp)
        | (rw [hsy, decide_eq_true (p := 0 ≤ n ∧ n ≤ 65535) (by omega)]; simp_all [Pl.onlyRegs]; done)
        | (rw [hsy, decide_eq_true (p := 0 ≤ n ∧ n ≤ 65535) (by omega)]; simp_all [Pl.onlyRegs, Pl.rg] <;> omega)
end Go.Proofs.YtgpmplcamdophaaDoor.W
namespace Go.Proofs.YtgpmplcamdophaaDoor.W
open Go.RowKit
set_option maxHeartbeats 2000000 in
theorem implLine_14e (op rd r1 r2 im n : Int) (s : ByteArray) (he : s.size = 0) (w : World) : Calls Tryd.prog 22 #[.agg #[.int .i64 14, .int .i64 op, .int .i64 rd, .int .i64 r1, .int .i64 r2, .int .i64 im, .string s, .int .i64 n]] w fun e w' => e = .returned (.bool (Pl.sy s false && decide (0 ≤ n ∧ n ≤ 4294967295) && (Pl.onlyRegs op rd r1 r2 im false false))) ∧ Below w.heap.size w w' := by
  obtain ⟨R, hR⟩ : ∃ R, R = (Pl.sy s false && decide (0 ≤ n ∧ n ≤ 4294967295) && (Pl.onlyRegs op rd r1 r2 im false false)) := ⟨_, rfl⟩
  rw [← hR]
  have HR : Hid (R = (Pl.sy s false && decide (0 ≤ n ∧ n ≤ 4294967295) && (Pl.onlyRegs op rd r1 r2 im false false))) := hR
  clear hR
  go_enter Tryd.func22, Tryd.ntmps22
  go_wp2_with fail
  refine (rule_14e op rd r1 r2 im n s he _).mono ?_
  rintro e u1 ⟨rfl, d1⟩
  have hr := kept_row d1
  have B1 : Below w.heap.size w u1 := ((Below.refl _ _).alloc (Nat.le_refl _) _).trans (d1.mono (by simp))
  have Z1 : w.heap.size < u1.heap.size := by have := d1.size; simp at this; omega
  clear d1 he
  go_upto_region 2 with fail
  obtain ⟨u2, hu2⟩ : ∃ u, u1.alloc (.cells #[.bool false, .bool false, .bool false, .int .i64 0, .int .i64 4294967295] 61) = u := ⟨_, rfl⟩
  rw [hu2]
  have BB : Below u1.heap.size u1 u2 := by rw [← hu2]; exact (Below.refl _ _).alloc (Nat.le_refl _) _
  have kl : ∀ j, u2.cell? ⟨w.heap.size, j, none⟩ = (#[.int .i64 14, .int .i64 op, .int .i64 rd, .int .i64 r1, .int .i64 r2, .int .i64 im, .string s, .int .i64 n] : Array Value)[j]? := fun j => cell_of_row u2 w.heap.size j _ 46 (0, 0) ((BB.block _ Z1).trans hr)
  have kr : ∀ j, u2.cell? ⟨u1.heap.size, j, none⟩ = (#[.bool false, .bool false, .bool false, .int .i64 0, .int .i64 4294967295] : Array Value)[j]? := fun j => cell_of_row u2 u1.heap.size j _ 61 (0, 0) (by rw [← hu2]; exact heap_alloc_new u1 _)
  have B2 : Hid (Below w.heap.size w u2) := B1.trans (BB.mono B1.size)
  have Z2 : Hid (w.heap.size < u2.heap.size) := Nat.lt_of_lt_of_le Z1 BB.size
  clear hu2 BB hr B1 Z1
  cases hsy : Pl.sy s false
  all_goals
    go_wp2_with (first | (go_at_call 40; refine (symOk_any _ _ _).mono ?_; rintro e u3 ⟨rfl, h3⟩; rw [h3, hsy]; clear h3) | (go_at_call 43; refine (regOk_any _ _ _).mono ?_; rintro e u3 ⟨rfl, h3⟩; rw [h3]; clear h3))
    all_goals
      go_ret
      refine ⟨ret_bool (Eq.trans ?_ HR.out.symm), B2.out⟩
      go_light
      clear kl kr HR
      first
        | (rw [hsy]; rfl)
        | (rw [decide_eq_false (p := 0 ≤ n ∧ n ≤ 4294967295) (by omega)]; simp)
        | (rw [hsy, decide_eq_true (p := 0 ≤ n ∧ n ≤ 4294967295) (by omega)]; simp_all [Pl.onlyRegs]; done)
        | (rw [hsy, decide_eq_true (p := 0 ≤ n ∧ n ≤ 4294967295) (by omega)]; simp_all [Pl.onlyRegs, Pl.rg] <;> omega)
set_option maxHeartbeats 2000000 in
theorem implLine_14n (op rd r1 r2 im n : Int) (s : ByteArray) (he : ¬ s.size = 0) (w : World) : Calls Tryd.prog 22 #[.agg #[.int .i64 14, .int .i64 op, .int .i64 rd, .int .i64 r1, .int .i64 r2, .int .i64 im, .string s, .int .i64 n]] w fun e w' => e = .returned (.bool (Pl.sy s true && decide ((-2147483648) ≤ n ∧ n ≤ 2147483647) && (Pl.onlyRegs op rd r1 r2 im false false))) ∧ Below w.heap.size w w' := by
  obtain ⟨R, hR⟩ : ∃ R, R = (Pl.sy s true && decide ((-2147483648) ≤ n ∧ n ≤ 2147483647) && (Pl.onlyRegs op rd r1 r2 im false false)) := ⟨_, rfl⟩
  rw [← hR]
  have HR : Hid (R = (Pl.sy s true && decide ((-2147483648) ≤ n ∧ n ≤ 2147483647) && (Pl.onlyRegs op rd r1 r2 im false false))) := hR
  clear hR
  go_enter Tryd.func22, Tryd.ntmps22
  go_wp2_with fail
  refine (rule_14n op rd r1 r2 im n s he _).mono ?_
  rintro e u1 ⟨rfl, d1⟩
  have hr := kept_row d1
  have B1 : Below w.heap.size w u1 := ((Below.refl _ _).alloc (Nat.le_refl _) _).trans (d1.mono (by simp))
  have Z1 : w.heap.size < u1.heap.size := by have := d1.size; simp at this; omega
  clear d1 he
  go_upto_region 2 with fail
  obtain ⟨u2, hu2⟩ : ∃ u, u1.alloc (.cells #[.bool false, .bool false, .bool true, .int .i64 (-2147483648), .int .i64 2147483647] 61) = u := ⟨_, rfl⟩
  rw [hu2]
  have BB : Below u1.heap.size u1 u2 := by rw [← hu2]; exact (Below.refl _ _).alloc (Nat.le_refl _) _
  have kl : ∀ j, u2.cell? ⟨w.heap.size, j, none⟩ = (#[.int .i64 14, .int .i64 op, .int .i64 rd, .int .i64 r1, .int .i64 r2, .int .i64 im, .string s, .int .i64 n] : Array Value)[j]? := fun j => cell_of_row u2 w.heap.size j _ 46 (0, 0) ((BB.block _ Z1).trans hr)
  have kr : ∀ j, u2.cell? ⟨u1.heap.size, j, none⟩ = (#[.bool false, .bool false, .bool true, .int .i64 (-2147483648), .int .i64 2147483647] : Array Value)[j]? := fun j => cell_of_row u2 u1.heap.size j _ 61 (0, 0) (by rw [← hu2]; exact heap_alloc_new u1 _)
  have B2 : Hid (Below w.heap.size w u2) := B1.trans (BB.mono B1.size)
  have Z2 : Hid (w.heap.size < u2.heap.size) := Nat.lt_of_lt_of_le Z1 BB.size
  clear hu2 BB hr B1 Z1
  cases hsy : Pl.sy s true
  all_goals
    go_wp2_with (first | (go_at_call 40; refine (symOk_any _ _ _).mono ?_; rintro e u3 ⟨rfl, h3⟩; rw [h3, hsy]; clear h3) | (go_at_call 43; refine (regOk_any _ _ _).mono ?_; rintro e u3 ⟨rfl, h3⟩; rw [h3]; clear h3))
    all_goals
      go_ret
      refine ⟨ret_bool (Eq.trans ?_ HR.out.symm), B2.out⟩
      go_light
      clear kl kr HR
      first
        | (rw [hsy]; rfl)
        | (rw [decide_eq_false (p := (-2147483648) ≤ n ∧ n ≤ 2147483647) (by omega)]; simp)
        | (rw [hsy, decide_eq_true (p := (-2147483648) ≤ n ∧ n ≤ 2147483647) (by omega)]; simp_all [Pl.onlyRegs]; done)
        | (rw [hsy, decide_eq_true (p := (-2147483648) ≤ n ∧ n ≤ 2147483647) (by omega)]; simp_all [Pl.onlyRegs, Pl.rg] <;> omega)
set_option maxHeartbeats 2000000 in
theorem implLine_15 (op rd r1 r2 im n : Int) (s : ByteArray) (w : World) : Calls Tryd.prog 22 #[.agg #[.int .i64 15, .int .i64 op, .int .i64 rd, .int .i64 r1, .int .i64 r2, .int .i64 im, .string s, .int .i64 n]] w fun e w' => e = .returned (.bool (Pl.sy s false && decide (0 ≤ n ∧ n ≤ 65536) && (Pl.onlyRegs op rd r1 r2 im false false))) ∧ Below w.heap.size w w' := by
  obtain ⟨R, hR⟩ : ∃ R, R = (Pl.sy s false && decide (0 ≤ n ∧ n ≤ 65536) && (Pl.onlyRegs op rd r1 r2 im false false)) := ⟨_, rfl⟩
  rw [← hR]
  have HR : Hid (R = (Pl.sy s false && decide (0 ≤ n ∧ n ≤ 65536) && (Pl.onlyRegs op rd r1 r2 im false false))) := hR
  clear hR
  go_enter Tryd.func22, Tryd.ntmps22
  go_wp2_with fail
  refine (rule_15 op rd r1 r2 im n s _).mono ?_
  rintro e u1 ⟨rfl, d1⟩
  have hr := kept_row d1
  have B1 : Below w.heap.size w u1 := ((Below.refl _ _).alloc (Nat.le_refl _) _).trans (d1.mono (by simp))
  have Z1 : w.heap.size < u1.heap.size := by have := d1.size; simp at this; omega
  clear d1
  go_upto_region 2 with fail
  obtain ⟨u2, hu2⟩ : ∃ u, u1.alloc (.cells #[.bool false, .bool false, .bool false, .int .i64 0, .int .i64 65536] 61) = u := ⟨_, rfl⟩
  rw [hu2]
  have BB : Below u1.heap.size u1 u2 := by rw [← hu2]; exact (Below.refl _ _).alloc (Nat.le_refl _) _
  have kl : ∀ j, u2.cell? ⟨w.heap.size, j, none⟩ = (#[.int .i64 15, .int .i64 op, .int .i64 rd, .int .i64 r1, .int .i64 r2, .int .i64 im, .string s, .int .i64 n] : Array Value)[j]? := fun j => cell_of_row u2 w.heap.size j _ 46 (0, 0) ((BB.block _ Z1).trans hr)
  have kr : ∀ j, u2.cell? ⟨u1.heap.size, j, none⟩ = (#[.bool false, .bool false, .bool false, .int .i64 0, .int .i64 65536] : Array Value)[j]? := fun j => cell_of_row u2 u1.heap.size j _ 61 (0, 0) (by rw [← hu2]; exact heap_alloc_new u1 _)
  have B2 : Hid (Below w.heap.size w u2) := B1.trans (BB.mono B1.size)
  have Z2 : Hid (w.heap.size < u2.heap.size) := Nat.lt_of_lt_of_le Z1 BB.size
  clear hu2 BB hr B1 Z1
  cases hsy : Pl.sy s false
  all_goals
    go_wp2_with (first | (go_at_call 40; refine (symOk_any _ _ _).mono ?_; rintro e u3 ⟨rfl, h3⟩; rw [h3, hsy]; clear h3) | (go_at_call 43; refine (regOk_any _ _ _).mono ?_; rintro e u3 ⟨rfl, h3⟩; rw [h3]; clear h3))
    all_goals
      go_ret
      refine ⟨ret_bool (Eq.trans ?_ HR.out.symm), B2.out⟩
      go_light
      clear kl kr HR
      first
        | (rw [hsy]; rfl)
        | (rw [decide_eq_false (p := 0 ≤ n ∧ n ≤ 65536) (by omega)]; simp)
        | (rw [hsy, decide_eq_true (p := 0 ≤ n ∧ n ≤ 65536) (by omega)]; simp_all [Pl.onlyRegs]; done)
        | (rw [hsy, decide_eq_true (p := 0 ≤ n ∧ n ≤ 65536) (by omega)]; simp_all [Pl.onlyRegs, Pl.rg] <;> omega)
set_option maxHeartbeats 2000000 in
theorem implLine_16 (op rd r1 r2 im n : Int) (s : ByteArray) (w : World) : Calls Tryd.prog 22 #[.agg #[.int .i64 16, .int .i64 op, .int .i64 rd, .int .i64 r1, .int .i64 r2, .int .i64 im, .string s, .int .i64 n]] w fun e w' => e = .returned (.bool (Pl.sy s false && decide (1 ≤ n ∧ n ≤ 4) && (Pl.onlyRegs op rd r1 r2 im false false && n != 3))) ∧ Below w.heap.size w w' := by
  obtain ⟨R, hR⟩ : ∃ R, R = (Pl.sy s false && decide (1 ≤ n ∧ n ≤ 4) && (Pl.onlyRegs op rd r1 r2 im false false && n != 3)) := ⟨_, rfl⟩
  rw [← hR]
  have HR : Hid (R = (Pl.sy s false && decide (1 ≤ n ∧ n ≤ 4) && (Pl.onlyRegs op rd r1 r2 im false false && n != 3))) := hR
  clear hR
  go_enter Tryd.func22, Tryd.ntmps22
  go_wp2_with fail
  refine (rule_16 op rd r1 r2 im n s _).mono ?_
  rintro e u1 ⟨rfl, d1⟩
  have hr := kept_row d1
  have B1 : Below w.heap.size w u1 := ((Below.refl _ _).alloc (Nat.le_refl _) _).trans (d1.mono (by simp))
  have Z1 : w.heap.size < u1.heap.size := by have := d1.size; simp at this; omega
  clear d1
  go_upto_region 2 with fail
  obtain ⟨u2, hu2⟩ : ∃ u, u1.alloc (.cells #[.bool false, .bool false, .bool false, .int .i64 1, .int .i64 4] 61) = u := ⟨_, rfl⟩
  rw [hu2]
  have BB : Below u1.heap.size u1 u2 := by rw [← hu2]; exact (Below.refl _ _).alloc (Nat.le_refl _) _
  have kl : ∀ j, u2.cell? ⟨w.heap.size, j, none⟩ = (#[.int .i64 16, .int .i64 op, .int .i64 rd, .int .i64 r1, .int .i64 r2, .int .i64 im, .string s, .int .i64 n] : Array Value)[j]? := fun j => cell_of_row u2 w.heap.size j _ 46 (0, 0) ((BB.block _ Z1).trans hr)
  have kr : ∀ j, u2.cell? ⟨u1.heap.size, j, none⟩ = (#[.bool false, .bool false, .bool false, .int .i64 1, .int .i64 4] : Array Value)[j]? := fun j => cell_of_row u2 u1.heap.size j _ 61 (0, 0) (by rw [← hu2]; exact heap_alloc_new u1 _)
  have B2 : Hid (Below w.heap.size w u2) := B1.trans (BB.mono B1.size)
  have Z2 : Hid (w.heap.size < u2.heap.size) := Nat.lt_of_lt_of_le Z1 BB.size
  clear hu2 BB hr B1 Z1
  cases hsy : Pl.sy s false
  all_goals
    go_wp2_with (first | (go_at_call 40; refine (symOk_any _ _ _).mono ?_; rintro e u3 ⟨rfl, h3⟩; rw [h3, hsy]; clear h3) | (go_at_call 43; refine (regOk_any _ _ _).mono ?_; rintro e u3 ⟨rfl, h3⟩; rw [h3]; clear h3))
    all_goals
      go_ret
      refine ⟨ret_bool (Eq.trans ?_ HR.out.symm), B2.out⟩
      go_light
      clear kl kr HR
      first
        | (rw [hsy]; rfl)
        | (rw [decide_eq_false (p := 1 ≤ n ∧ n ≤ 4) (by omega)]; simp)
        | (rw [hsy, decide_eq_true (p := 1 ≤ n ∧ n ≤ 4) (by omega)]; simp_all [Pl.onlyRegs]; done)
        | (rw [hsy, decide_eq_true (p := 1 ≤ n ∧ n ≤ 4) (by omega)]; simp_all [Pl.onlyRegs, Pl.rg] <;> omega)
theorem implLine_no (k : Int) (h : k < 1 ∨ 16 < k) (op rd r1 r2 im n : Int) (s : ByteArray) (w : World) : Calls Tryd.prog 22 #[.agg #[.int .i64 k, .int .i64 op, .int .i64 rd, .int .i64 r1, .int .i64 r2, .int .i64 im, .string s, .int .i64 n]] w fun e w' => e = .returned (.bool false) ∧ Below w.heap.size w w' := by
  go_enter Tryd.func22, Tryd.ntmps22
  go_wp2_with (go_at_call 39; refine (rule_no k h op rd r1 r2 im n s _).mono ?_; rintro e u1 ⟨rfl, d1⟩)
  go_ret
  exact ⟨rfl, ((((Below.refl _ _).alloc (Nat.le_refl _) _)).trans (d1.mono (by simp))).alloc (by have := d1.size; simp at this; omega) _⟩
end Go.Proofs.YtgpmplcamdophaaDoor.W
