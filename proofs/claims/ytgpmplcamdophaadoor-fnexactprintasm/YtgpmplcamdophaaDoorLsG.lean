import Derived.Test.YtgpmplcamdophaaDoorLsF
import Derived.Test.YtgpmplcamdophaaDoorRegN
import Derived.Test.YtgpmplcamdophaaDoorFormS
set_option linter.unusedVariables false
set_option linter.unusedSimpArgs false
namespace Go.Proofs.YtgpmplcamdophaaDoor.Pl
/-- a distance's text -/
def dist (n : Int) : ByteArray := if 0 < n then (⟨#[43]⟩ : ByteArray) ++ num n else if n < 0 then num n else ⟨#[]⟩
def insW (f k : Nat) (a d r1 r2 n s : ByteArray) : ByteArray :=
  if f = 1 then a ++ ⟨#[32]⟩ ++ d ++ ⟨#[44, 32]⟩ ++ r1 ++ ⟨#[44, 32]⟩ ++ r2
  else if 28 ≤ k ∧ k ≤ 33 then a ++ ⟨#[32]⟩ ++ d ++ ⟨#[44, 32]⟩ ++ n ++ ⟨#[40]⟩ ++ r1 ++ ⟨#[41]⟩
  else if f = 2 ∨ f = 3 then a ++ ⟨#[32]⟩ ++ d ++ ⟨#[44, 32]⟩ ++ r1 ++ ⟨#[44, 32]⟩ ++ n
  else if f = 4 then a ++ ⟨#[32]⟩ ++ r2 ++ ⟨#[44, 32]⟩ ++ n ++ ⟨#[40]⟩ ++ r1 ++ ⟨#[41]⟩
  else if f = 5 then a ++ ⟨#[32]⟩ ++ r1 ++ ⟨#[44, 32]⟩ ++ r2 ++ ⟨#[44, 32]⟩ ++ s
  else if f = 6 then a ++ ⟨#[32]⟩ ++ d ++ ⟨#[44, 32]⟩ ++ n
  else if f = 7 then a ++ ⟨#[32]⟩ ++ d ++ ⟨#[44, 32]⟩ ++ s
  else a
/-- an instruction's text with its operands -/
def insText (k rd r1 r2 : Nat) (im : Int) (s : ByteArray) : ByteArray := insW (fmN k) k (nm k) (rn rd) (rn r1) (rn r2) (num im) s
theorem nm_size : ∀ k : Nat, k < 48 → (nm k).size ≤ 16 := by decide +kernel
theorem rn_size : ∀ k : Nat, k < 32 → (rn k).size ≤ 16 := by decide +kernel
end Go.Proofs.YtgpmplcamdophaaDoor.Pl
namespace Go.Proofs.YtgpmplcamdophaaDoor.W
open Go.RowKit
set_option maxRecDepth 8000 in
set_option maxHeartbeats 1000000 in
theorem l4Distance_any (n : Int) (hk : -4611686018427387904 ≤ n ∧ n ≤ 4611686018427387904) (w : World) : Calls Tryd.prog 37 #[.int .i64 n] w fun e w' => e = .returned (.string (Pl.dist n)) ∧ Below w.heap.size w w' := by
  have hs := Pl.num_size hk
  by_cases h0 : 0 < n
  · unfold Pl.dist
    rw [if_pos h0]
    go_enter Tryd.func37, Tryd.ntmps37
    go_wp2_with (go_at_call 36; refine (specDec_num n hk _).mono ?_; rintro e u1 ⟨rfl, d1⟩)
    go_ret
    exact ⟨rfl, d1⟩
  by_cases h1 : n < 0
  · unfold Pl.dist
    rw [if_neg h0, if_pos h1]
    go_enter Tryd.func37, Tryd.ntmps37
    go_wp2_with (go_at_call 36; refine (specDec_num n hk _).mono ?_; rintro e u1 ⟨rfl, d1⟩)
    go_ret
    exact ⟨rfl, d1⟩
  · unfold Pl.dist
    rw [if_neg h0, if_neg h1]
    go_enter Tryd.func37, Tryd.ntmps37
    go_wp2
    go_ret
    exact ⟨rfl, Below.refl _ _⟩
set_option maxRecDepth 8000 in
set_option maxHeartbeats 8000000 in
theorem l4InstText_any (k rd r1 r2 : Nat) (im : Int) (s : ByteArray) (h1 : 1 ≤ k) (h2 : k ≤ 47) (hd : rd ≤ 31) (ha : r1 ≤ 31) (hb : r2 ≤ 31) (him : -4611686018427387904 ≤ im ∧ im ≤ 4611686018427387904) (hs : s.size ≤ 1048576) (w : World) : Calls Tryd.prog 34 #[.agg #[.int .i64 k, .int .i64 rd, .int .i64 r1, .int .i64 r2, .int .i64 im], .string s] w fun e w' => e = .returned (.string (Pl.insText k rd r1 r2 im s)) ∧ Below w.heap.size w w' := by
  unfold Pl.insText
  have sA := Pl.nm_size k (by omega)
  have sD := Pl.rn_size rd (by omega)
  have s1 := Pl.rn_size r1 (by omega)
  have s2 := Pl.rn_size r2 (by omega)
  have sN := Pl.num_size him
  have HF : Hid (∀ w, Calls Tryd.prog 29 #[.int .i64 k] w fun e w' => e = .returned (.int .i64 (Pl.fmN k : Int)) ∧ w' = w) := fun w => form_any k h1 h2 w
  have HO : Hid (∀ w, Calls Tryd.prog 55 #[.int .i64 k] w fun e w' => e = .returned (.string (Pl.nm k)) ∧ Below w.heap.size w w') := fun w => specOpName_yes k h1 h2 w
  have HD : Hid (∀ w, Calls Tryd.prog 35 #[.int .i64 rd] w fun e w' => e = .returned (.string (Pl.rn rd)) ∧ Below w.heap.size w w') := fun w => specRegName_yes rd hd w
  have H1 : Hid (∀ w, Calls Tryd.prog 35 #[.int .i64 r1] w fun e w' => e = .returned (.string (Pl.rn r1)) ∧ Below w.heap.size w w') := fun w => specRegName_yes r1 ha w
  have H2 : Hid (∀ w, Calls Tryd.prog 35 #[.int .i64 r2] w fun e w' => e = .returned (.string (Pl.rn r2)) ∧ Below w.heap.size w w') := fun w => specRegName_yes r2 hb w
  have HN : Hid (∀ w, Calls Tryd.prog 36 #[.int .i64 im] w fun e w' => e = .returned (.string (Pl.num im)) ∧ Below w.heap.size w w') := fun w => specDec_num im him w
  have hf8 : 1 ≤ Pl.fmN k ∧ Pl.fmN k ≤ 8 := ⟨(Pl.fm_cases k (by omega) h1).1, (Pl.fm_cases k (by omega) h1).2.1⟩
  generalize Pl.nm k = A at *
  generalize Pl.rn rd = D at *
  generalize Pl.rn r1 = R1 at *
  generalize Pl.rn r2 = R2 at *
  generalize Pl.num im = N at *
  generalize Pl.fmN k = f at *
  go_enter Tryd.func34, Tryd.ntmps34
  go_wp2_with fail
  refine calls_at7 fun u0 hu0 => ?_
  have p0 : u0.heap[w.heap.size]? = some (.cells #[.int .i64 k, .int .i64 rd, .int .i64 r1, .int .i64 r2, .int .i64 im] 44) := by
    rw [hu0]
    exact heap_alloc_new w _
  have b0 : Below w.heap.size w u0 := by rw [hu0]; exact below_alloc2 w _
  have z0 : w.heap.size < u0.heap.size := by rw [hu0]; simp
  clear hu0
  refine (HF.out u0).mono ?_
  rintro e u ⟨rfl, rfl⟩
  have kb : ∀ j, u.cell? ⟨w.heap.size, j, none⟩ = (#[.int .i64 k, .int .i64 rd, .int .i64 r1, .int .i64 r2, .int .i64 im] : Array Value)[j]? := fun j => cell_of_row u w.heap.size j _ 44 (0, 0) p0
  go_wp2_with fail
  clear kb
  refine (HO.out u).mono ?_
  rintro e u1 ⟨rfl, d1⟩
  have p1 := (d1.block _ z0).trans p0
  have b1 : Below w.heap.size w u1 := b0.trans (d1.mono (Nat.le_of_lt z0))
  have z1 : w.heap.size < u1.heap.size := Nat.lt_of_lt_of_le z0 d1.size
  clear d1 z0 p0 b0
  have kb : ∀ j, u1.cell? ⟨w.heap.size, j, none⟩ = (#[.int .i64 k, .int .i64 rd, .int .i64 r1, .int .i64 r2, .int .i64 im] : Array Value)[j]? := fun j => cell_of_row u1 w.heap.size j _ 44 (0, 0) p1
  go_wp2_with fail
  clear kb
  refine (HD.out u1).mono ?_
  rintro e u2 ⟨rfl, d2⟩
  have p2 := (d2.block _ z1).trans p1
  have b2 : Below w.heap.size w u2 := b1.trans (d2.mono (Nat.le_of_lt z1))
  have z2 : w.heap.size < u2.heap.size := Nat.lt_of_lt_of_le z1 d2.size
  clear d2 z1 p1 b1
  have kb : ∀ j, u2.cell? ⟨w.heap.size, j, none⟩ = (#[.int .i64 k, .int .i64 rd, .int .i64 r1, .int .i64 r2, .int .i64 im] : Array Value)[j]? := fun j => cell_of_row u2 w.heap.size j _ 44 (0, 0) p2
  go_wp2_with fail
  clear kb
  refine (H1.out u2).mono ?_
  rintro e u3 ⟨rfl, d3⟩
  have p3 := (d3.block _ z2).trans p2
  have b3 : Below w.heap.size w u3 := b2.trans (d3.mono (Nat.le_of_lt z2))
  have z3 : w.heap.size < u3.heap.size := Nat.lt_of_lt_of_le z2 d3.size
  clear d3 z2 p2 b2
  have kb : ∀ j, u3.cell? ⟨w.heap.size, j, none⟩ = (#[.int .i64 k, .int .i64 rd, .int .i64 r1, .int .i64 r2, .int .i64 im] : Array Value)[j]? := fun j => cell_of_row u3 w.heap.size j _ 44 (0, 0) p3
  go_wp2_with fail
  clear kb
  refine (H2.out u3).mono ?_
  rintro e u4 ⟨rfl, d4⟩
  have p4 := (d4.block _ z3).trans p3
  have b4 : Below w.heap.size w u4 := b3.trans (d4.mono (Nat.le_of_lt z3))
  have z4 : w.heap.size < u4.heap.size := Nat.lt_of_lt_of_le z3 d4.size
  clear d4 z3 p3 b3
  have kb : ∀ j, u4.cell? ⟨w.heap.size, j, none⟩ = (#[.int .i64 k, .int .i64 rd, .int .i64 r1, .int .i64 r2, .int .i64 im] : Array Value)[j]? := fun j => cell_of_row u4 w.heap.size j _ 44 (0, 0) p4
  go_wp2_with fail
  clear kb
  refine (HN.out u4).mono ?_
  rintro e u5 ⟨rfl, d5⟩
  have p5 := (d5.block _ z4).trans p4
  have b5 : Below w.heap.size w u5 := b4.trans (d5.mono (Nat.le_of_lt z4))
  have z5 : w.heap.size < u5.heap.size := Nat.lt_of_lt_of_le z4 d5.size
  clear d5 z4 p4 b4
  have kb : ∀ j, u5.cell? ⟨w.heap.size, j, none⟩ = (#[.int .i64 k, .int .i64 rd, .int .i64 r1, .int .i64 r2, .int .i64 im] : Array Value)[j]? := fun j => cell_of_row u5 w.heap.size j _ 44 (0, 0) p5
  have B : Hid (Below w.heap.size w u5) := b5
  clear b5 z5 p5 HF HO HD H1 H2 HN
  by_cases hk : 28 ≤ k ∧ k ≤ 33
  · obtain ⟨hk1, hk2⟩ := hk
    by_cases c1 : f = 1
    · subst c1
      go_wp2
      go_ret
      exact ⟨by rw [Pl.insW, if_pos rfl]; rfl, B.out⟩
    have c1' : ¬ ((f : Int) = 1) := by omega
    have hk1' : (28 : Int) ≤ (k : Int) := by omega
    have hk2' : (k : Int) ≤ (33 : Int) := by omega
    go_wp2
    go_ret
    exact ⟨by rw [Pl.insW, if_neg c1, if_pos ⟨hk1, hk2⟩]; rfl, B.out⟩
  rcases (show f = 1 ∨ f = 2 ∨ f = 3 ∨ f = 4 ∨ f = 5 ∨ f = 6 ∨ f = 7 ∨ f = 8 by omega) with rfl | rfl | rfl | rfl | rfl | rfl | rfl | rfl
  all_goals
    by_cases hk1 : 28 ≤ k
    · have hk1' : (28 : Int) ≤ (k : Int) := by omega
      have hk2' : ¬ ((k : Int) ≤ (33 : Int)) := by omega
      go_wp2
      go_ret
      exact ⟨by simp [Pl.insW, hk], B.out⟩
    · have hk1' : ¬ ((28 : Int) ≤ (k : Int)) := by omega
      go_wp2
      go_ret
      exact ⟨by simp [Pl.insW, hk], B.out⟩
end Go.Proofs.YtgpmplcamdophaaDoor.W
