import Derived.Test.YtmnlhienhfmhdaaDraw
import Derived.Test.YtmnlhienhfmhdaaAluE
namespace Go.Proofs.Ytmnlhienhfmhdaa.Pl
theorem split_mul (X Y : Int) : X * Y = X / 65536 * (Y / 65536) * 4294967296 + (X % 65536 * (Y / 65536) + X / 65536 * (Y % 65536)) * 65536 + X % 65536 * (Y % 65536) := by
  have hx : X = X % 65536 + 65536 * (X / 65536) := by omega
  have hy : Y = Y % 65536 + 65536 * (Y / 65536) := by omega
  generalize X % 65536 = xl at *
  generalize X / 65536 = xh at *
  generalize Y % 65536 = yl at *
  generalize Y / 65536 = yh at *
  subst hx hy
  rw [Int.add_mul, Int.mul_add, Int.mul_add]
  have e1 : xl * (65536 * yh) = xl * yh * 65536 := by rw [← Int.mul_assoc, Int.mul_comm xl 65536, Int.mul_assoc, Int.mul_comm]
  have e2 : 65536 * xh * yl = xh * yl * 65536 := by rw [Int.mul_assoc, Int.mul_comm]
  have e3 : 65536 * xh * (65536 * yh) = xh * yh * 4294967296 := by
    rw [Int.mul_assoc, Int.mul_comm xh, Int.mul_assoc 65536 yh xh, ← Int.mul_assoc, Int.mul_comm yh xh, Int.mul_comm]; rfl
  rw [e1, e2, e3, Int.add_mul]; omega
theorem e11 (X Y : Int) : (X % 65536 * (Y % 65536) + (X % 65536 * (Y / 65536) + X / 65536 * (Y % 65536)) % 65536 * 65536) % 4294967296 = al 11 X Y := by
  show _ = wd (X * Y)
  rw [split_mul X Y]
  generalize X % 65536 * (Y % 65536) = p
  generalize X % 65536 * (Y / 65536) + X / 65536 * (Y % 65536) = m
  generalize X / 65536 * (Y / 65536) = h
  unfold wd; omega
theorem e14 (X Y : Int) (x0 : 0 ≤ X) (x1 : X ≤ 4294967295) (y0 : 0 ≤ Y) (y1 : Y ≤ 4294967295) : X / 65536 * (Y / 65536) + (X % 65536 * (Y / 65536) + X / 65536 * (Y % 65536)) / 65536 + (X % 65536 * (Y % 65536) + (X % 65536 * (Y / 65536) + X / 65536 * (Y % 65536)) % 65536 * 65536) / 4294967296 = al 14 X Y := by
  have hp : X * Y / 4294967296 = X / 65536 * (Y / 65536) + (X % 65536 * (Y / 65536) + X / 65536 * (Y % 65536)) / 65536 + (X % 65536 * (Y % 65536) + (X % 65536 * (Y / 65536) + X / 65536 * (Y % 65536)) % 65536 * 65536) / 4294967296 := by
    rw [split_mul X Y]
    generalize X % 65536 * (Y % 65536) = p
    generalize X % 65536 * (Y / 65536) + X / 65536 * (Y % 65536) = m
    generalize X / 65536 * (Y / 65536) = h
    omega
  show _ = wd (X * Y / 4294967296)
  rw [← hp]
  have h1 := Int.mul_nonneg x0 y0
  have h2 := (mul_bd X Y 4294967295 4294967295 (by decide) (by omega) (by omega) (by omega) (by omega)).2
  unfold wd; omega
theorem al14_bd (X Y : Int) : 0 ≤ al 14 X Y ∧ al 14 X Y ≤ 4294967295 := wd_bd _
theorem sg_case (X : Int) (x0 : 0 ≤ X) (x1 : X ≤ 4294967295) : (2147483648 ≤ X ∧ sg X = X - 4294967296) ∨ (X < 2147483648 ∧ sg X = X) := by unfold sg; omega
theorem e13h (X Y : Int) (x0 : 2147483648 ≤ X) (x1 : X ≤ 4294967295) : wd (al 14 X Y - Y) = al 13 X Y := by
  have hs : sg X = X - 4294967296 := by unfold sg; omega
  show wd (wd (X * Y / 4294967296) - Y) = wd (sg X * Y / 4294967296)
  have e : sg X * Y = X * Y - 4294967296 * Y := by rw [hs, Int.sub_mul]
  rw [e]; generalize X * Y = z; unfold wd; omega
theorem e13l (X Y : Int) (x0 : 0 ≤ X) (x1 : X < 2147483648) : wd (al 14 X Y) = al 13 X Y := by
  have hs : sg X = X := by unfold sg; omega
  show wd (wd (X * Y / 4294967296)) = wd (sg X * Y / 4294967296)
  rw [hs]; generalize X * Y = z; unfold wd; omega
theorem e12hh (X Y : Int) (x0 : 2147483648 ≤ X) (x1 : X ≤ 4294967295) (y0 : 2147483648 ≤ Y) (y1 : Y ≤ 4294967295) : wd (al 14 X Y - Y - X) = al 12 X Y := by
  have hs : sg X = X - 4294967296 := by unfold sg; omega
  have ht : sg Y = Y - 4294967296 := by unfold sg; omega
  show wd (wd (X * Y / 4294967296) - Y - X) = wd (sg X * sg Y / 4294967296)
  have e : sg X * sg Y = X * Y - 4294967296 * Y - 4294967296 * X + 18446744073709551616 := by
    rw [hs, ht, Int.sub_mul, Int.mul_sub]; omega
  rw [e]; generalize X * Y = z; unfold wd; omega
theorem e12hl (X Y : Int) (x0 : 2147483648 ≤ X) (x1 : X ≤ 4294967295) (y0 : 0 ≤ Y) (y1 : Y < 2147483648) : wd (al 14 X Y - Y) = al 12 X Y := by
  have hs : sg X = X - 4294967296 := by unfold sg; omega
  have ht : sg Y = Y := by unfold sg; omega
  show wd (wd (X * Y / 4294967296) - Y) = wd (sg X * sg Y / 4294967296)
  have e : sg X * sg Y = X * Y - 4294967296 * Y := by rw [hs, ht, Int.sub_mul]
  rw [e]; generalize X * Y = z; unfold wd; omega
theorem e12lh (X Y : Int) (x0 : 0 ≤ X) (x1 : X < 2147483648) (y0 : 2147483648 ≤ Y) (y1 : Y ≤ 4294967295) : wd (al 14 X Y - X) = al 12 X Y := by
  have hs : sg X = X := by unfold sg; omega
  have ht : sg Y = Y - 4294967296 := by unfold sg; omega
  show wd (wd (X * Y / 4294967296) - X) = wd (sg X * sg Y / 4294967296)
  have e : sg X * sg Y = X * Y - 4294967296 * X := by rw [hs, ht, Int.mul_sub]; omega
  rw [e]; generalize X * Y = z; unfold wd; omega
theorem e12ll (X Y : Int) (x0 : 0 ≤ X) (x1 : X < 2147483648) (y0 : 0 ≤ Y) (y1 : Y < 2147483648) : wd (al 14 X Y) = al 12 X Y := by
  have hs : sg X = X := by unfold sg; omega
  have ht : sg Y = Y := by unfold sg; omega
  show wd (wd (X * Y / 4294967296)) = wd (sg X * sg Y / 4294967296)
  rw [hs, ht]; generalize X * Y = z; unfold wd; omega
theorem z16 (X Y : Int) (h : Y = 0) : al 16 X Y = 4294967295 := by subst h; rfl
theorem z15 (X Y : Int) (h : Y = 0) : al 15 X Y = 4294967295 := by subst h; rfl
theorem z18 (X Y : Int) (h : Y = 0) : al 18 X Y = X := by subst h; rfl
theorem z17 (X Y : Int) (h : Y = 0) : al 17 X Y = X := by subst h; rfl
theorem udiv (X Y : Int) (x0 : 0 ≤ X) (x1 : X ≤ 4294967295) (h : 1 ≤ Y) : al 16 X Y * Y + al 18 X Y = X ∧ al 18 X Y < Y ∧ 0 ≤ al 18 X Y ∧ 0 ≤ al 16 X Y * Y ∧ al 16 X Y * Y ≤ 4294967295 := by
  have hn : ¬ Y = 0 := by omega
  have e16 : al 16 X Y = X / Y := by
    show (if Y = 0 then _ else _) = _
    rw [if_neg hn]; exact wd_word _ (Int.ediv_nonneg x0 (by omega)) (Int.le_trans (Int.ediv_le_self _ x0) x1)
  have h3 := Int.emod_nonneg X hn
  have h4 := Int.emod_lt_of_pos X (by omega : 0 < Y)
  have h5 : X / Y * Y = X - X % Y := by have := Int.mul_ediv_add_emod X Y; rw [Int.mul_comm] at this; omega
  have h6 : 0 ≤ X / Y * Y := Int.mul_nonneg (Int.ediv_nonneg x0 (by omega)) (by omega)
  have e18 : al 18 X Y = X % Y := by
    show (if Y = 0 then _ else _) = _
    rw [if_neg hn]; exact wd_word _ h3 (by omega)
  rw [e16, e18]; omega
theorem sdiv (X Y : Int) (x0 : 0 ≤ X) (x1 : X ≤ 4294967295) (h : 1 ≤ Y) : wd (sg (al 15 X Y) * sg Y + sg (al 17 X Y)) = X := by
  have hn : ¬ Y = 0 := by omega
  have e15 : al 15 X Y = wd ((sg X).tdiv (sg Y)) := by show (if Y = 0 then _ else _) = _; rw [if_neg hn]
  have e17 : al 17 X Y = wd ((sg X).tmod (sg Y)) := by show (if Y = 0 then _ else _) = _; rw [if_neg hn]
  have hd := tdiv_mul (sg X) (sg Y)
  rw [e15, e17]
  generalize (sg X).tdiv (sg Y) = q at *
  generalize (sg X).tmod (sg Y) = r at *
  obtain ⟨m, hm⟩ : ∃ m, sg (wd q) = q + 4294967296 * m := ⟨(sg (wd q) - q) / 4294967296, by unfold sg wd; omega⟩
  rw [hm, Int.add_mul, Int.mul_assoc, hd]
  generalize m * sg Y = z
  unfold sg wd; omega
theorem sg_wd (n : Int) : sg (wd n) = sg n := by unfold sg wd; omega
end Go.Proofs.Ytmnlhienhfmhdaa.Pl
