import Derived.Test.YtjdfffdeljgenaaGreatDoorS25
set_option linter.unusedVariables false
namespace Go.Proofs.YtjdfffdeljgenaaGreatDoor.Pl
def rf (f : Nat) (w : Int) : Nat → Int
  | 0 => w % 128
  | 1 => if f = 6 ∨ f = 7 then 0 else w / 4096 % 8
  | 2 => if f = 1 ∨ f = 3 ∨ f = 8 then w / 33554432 % 128 else 0
  | 3 => if f = 8 then w / 1048576 % 32 else 0
  | _ => 0
def fits (k : Nat) (w : Int) : Bool := decide (cc k 0 = rf (fmN k) w 0) && decide (cc k 1 = rf (fmN k) w 1) && decide (cc k 2 = rf (fmN k) w 2) && decide (cc k 3 = rf (fmN k) w 3)
theorem fits_iff (k : Nat) (w : Int) : fits k w = true ↔ cc k 0 = rf (fmN k) w 0 ∧ cc k 1 = rf (fmN k) w 1 ∧ cc k 2 = rf (fmN k) w 2 ∧ cc k 3 = rf (fmN k) w 3 := by
  simp only [fits, Bool.and_eq_true, decide_eq_true_eq, and_assoc]
def b1 (f : Nat) : Bool := !(f == 6 || f == 7)
def b2 (f : Nat) : Bool := f == 1 || f == 3 || f == 8
def b3 (f : Nat) : Bool := f == 8
def clash (j k : Nat) : Bool := cc j 0 != cc k 0 || (b1 (fmN j) && b1 (fmN k) && cc j 1 != cc k 1) || (b2 (fmN j) && b2 (fmN k) && cc j 2 != cc k 2) || (b3 (fmN j) && b3 (fmN k) && cc j 3 != cc k 3)
theorem clash_all : ((List.range 48).all fun j => (List.range 48).all fun k => j == 0 || k == 0 || j == k || clash j k) = true := by decide +kernel
theorem fits_one {j k : Nat} (hj : 1 ≤ j) (hj' : j ≤ 47) (hk : 1 ≤ k) (hk' : k ≤ 47) {w : Int} (h1 : fits j w = true) (h2 : fits k w = true) : j = k := by
  have := clash_all
  rw [List.all_eq_true] at this
  have := this j (List.mem_range.mpr (by omega))
  rw [List.all_eq_true] at this
  have := this k (List.mem_range.mpr (by omega))
  rw [fits_iff] at h1 h2
  obtain ⟨x0, x1, x2, x3⟩ := h1
  obtain ⟨y0, y1, y2, y3⟩ := h2
  simp only [clash, b1, b2, b3, x0, x1, x2, x3, y0, y1, y2, y3, rf, Bool.or_eq_true, Bool.and_eq_true, bne_iff_ne, beq_iff_eq, Bool.not_eq_true', Bool.or_eq_false_iff, beq_eq_false_iff_ne] at this
  rcases this with ((h | h) | h) | h
  · omega
  · omega
  · exact h
  · exfalso
    rcases h with ((h | ⟨⟨p, q⟩, h⟩) | ⟨⟨p, q⟩, h⟩) | ⟨⟨p, q⟩, h⟩
    · exact h rfl
    · rw [if_neg (by omega), if_neg (by omega)] at h; exact h rfl
    · rw [if_pos (by omega), if_pos (by omega)] at h; exact h rfl
    · rw [if_pos (by omega), if_pos (by omega)] at h; exact h rfl
theorem cc_more : ∀ k : Nat, k < 48 → cc k 1 ≤ 7 ∧ cc k 3 ≤ 31 := by decide +kernel
theorem cc_forms : ((List.range 48).all fun k => k == 0 || ((b1 (fmN k) || cc k 1 == 0) && (b2 (fmN k) || cc k 2 == 0) && (b3 (fmN k) || cc k 3 == 0))) = true := by decide +kernel
theorem us_none : ∀ f : Nat, f < 9 → (f = 4 ∨ f = 5 ∨ f = 8 → us f 0 = false) ∧ (f = 6 ∨ f = 7 ∨ f = 8 → us f 1 = false) ∧ (f = 2 ∨ f = 3 ∨ f = 6 ∨ f = 7 ∨ f = 8 → us f 2 = false) := by decide +kernel
theorem enc_fits (k : Nat) (h1 : 1 ≤ k) (h2 : k ≤ 47) (rd r1 r2 im : Int) (hok : okF (fmN k) rd r1 r2 im = true) :
    fits k (enc k rd r1 r2 im) = true ∧ 0 ≤ enc k rd r1 r2 im ∧ enc k rd r1 r2 im ≤ 4294967295 := by
  obtain ⟨g0, g1, g2, g3⟩ := okF_parts hok
  obtain ⟨a1, a2, a3⟩ := rg_bd g0
  obtain ⟨b1, b2, b3⟩ := rg_bd g1
  obtain ⟨c1, c2, c3⟩ := rg_bd g2
  obtain ⟨i1, i2⟩ := imo_bd g3
  obtain ⟨f1, f2, _⟩ := fm_cases k (by omega) h1
  obtain ⟨u1, u2, u3⟩ := us_none (fmN k) (by omega)
  have z := cc_forms
  rw [List.all_eq_true] at z
  have z := z k (List.mem_range.mpr (by omega))
  simp only [Pl.b1, Pl.b2, Pl.b3, Bool.or_eq_true, Bool.and_eq_true, beq_iff_eq, Bool.not_eq_true', Bool.or_eq_false_iff, beq_eq_false_iff_ne] at z
  obtain ⟨m1, m3⟩ := cc_more k (by omega)
  obtain ⟨p0, q0⟩ := cc_bd' k (by omega) 0 (by omega)
  obtain ⟨p1, q1⟩ := cc_bd' k (by omega) 1 (by omega)
  obtain ⟨p2, q2⟩ := cc_bd' k (by omega) 2 (by omega)
  obtain ⟨p3, q3⟩ := cc_bd' k (by omega) 3 (by omega)
  rw [fits_iff]
  unfold enc cw
  generalize cc k 0 = C0 at *
  generalize cc k 1 = C1 at *
  generalize cc k 2 = C2 at *
  generalize cc k 3 = C3 at *
  generalize fmN k = f at *
  have hcase := form_cases f f1 f2
  have sa : us f 0 = false → rd = 0 := fun e => by rcases a3 with t | t; · rw [e] at t; cases t
                                                   · exact t
  have sb : us f 1 = false → r1 = 0 := fun e => by rcases b3 with t | t; · rw [e] at t; cases t
                                                   · exact t
  have sc : us f 2 = false → r2 = 0 := fun e => by rcases c3 with t | t; · rw [e] at t; cases t
                                                   · exact t
  have ta := fun h => sa (u1 h)
  have tb := fun h => sb (u2 h)
  have tc := fun h => sc (u3 h)
  clear sa sb sc u1 u2 u3 a3 b3 c3 g0 g1 g2 g3 hok
  rcases hcase with e | e | e | e | e | e | e | e <;> subst e <;> simp [rf, imw, lo, hi, pw0, pw1, pw4, pw5, pw6, pw7, pw8, pw10, pw11, pw12, pw20] at * <;> first | omega | skip
  have t1 : 0 ≤ im / 4096 % 2 ∧ im / 4096 % 2 ≤ 1 := by omega
  have t2 : 0 ≤ im / 32 % 64 ∧ im / 32 % 64 ≤ 63 := by omega
  have t3 : 0 ≤ im / 2 % 16 ∧ im / 2 % 16 ≤ 15 := by omega
  have t4 : 0 ≤ im / 2048 % 2 ∧ im / 2048 % 2 ≤ 1 := by omega
  clear i1 i2
  generalize im / 4096 % 2 = A at *
  generalize im / 32 % 64 = B at *
  generalize im / 2 % 16 = C at *
  generalize im / 2048 % 2 = D at *
  obtain ⟨rfl, rfl⟩ : rd = 0 ∧ C2 = 0 := by omega
  obtain rfl : C3 = 0 := by omega
  refine ⟨⟨?_, ?_⟩, ?_, ?_⟩ <;> omega
end Go.Proofs.YtjdfffdeljgenaaGreatDoor.Pl
namespace Go.Proofs.YtjdfffdeljgenaaGreatDoor.W
open Go.RowKit
theorem bitsOf_at (n x y : Int) (a b : Nat) (hx : x = a) (hy : y = b) (ha : a ≤ 31) (hb : b ≤ 31) (w : World) :
    Calls Tryz.prog 131 #[.int .i64 n, .int .i64 x, .int .i64 y] w fun e w' => e = .returned (.int .i64 (n / Pl.pw a % Pl.pw b)) ∧ ∃ m, w' = w.drewN m := by
  subst hx hy
  have p1 := Pl.pw_pos b
  have p2 : Pl.pw b ≤ 2147483648 := Pl.pw_mono hb
  go_enter Tryz.func131, Tryz.ntmps131
  go_wp2_with fail
  go_quiet (fail)
  go_wp2
  go_ret
  exact ⟨ret_int (Pl.bits_eq n a b hb), _, rfl⟩
theorem bitsOf_is (n x y : Int) (ha : 0 ≤ x ∧ x ≤ 31) (hb : 0 ≤ y ∧ y ≤ 31) (w : World) :
    Calls Tryz.prog 131 #[.int .i64 n, .int .i64 x, .int .i64 y] w fun e w' => e = .returned (.int .i64 (n / Pl.pw x.toNat % Pl.pw y.toNat)) ∧ ∃ m, w' = w.drewN m :=
  bitsOf_at n x y x.toNat y.toNat (by omega) (by omega) (by omega) (by omega) w
theorem keep_drew {U : World} {g m : Nat} {o : Obj} (h : U.heap[g]? = some o) : (U.drewN m).heap[g]? = some o := h
theorem keep_alloc {U : World} {g : Nat} {o p : Obj} (h : U.heap[g]? = some o) (hg : g < U.heap.size) : (U.alloc p).heap[g]? = some o := (Below.heap_alloc U p g hg).trans h
theorem keep_other {U : World} {g b i : Nat} {o : Obj} {v : Value} (h : U.heap[g]? = some o) (hg : g ≠ b) : (U.setCell ⟨b, i, none⟩ v).heap[g]? = some o := (Below.heap_setCell U ⟨b, i, none⟩ v g hg).trans h
theorem row4 {U : World} {g : Nat} {t : TypeId} {a b c d x0 x1 x2 x3 : Value} (h : U.heap[g]? = some (.cells #[a, b, c, d] t (0, 0))) : ((((U.setCell ⟨g, 0, none⟩ x0).setCell ⟨g, 1, none⟩ x1).setCell ⟨g, 2, none⟩ x2).setCell ⟨g, 3, none⟩ x3).heap[g]? = some (.cells #[x0, x1, x2, x3] t (0, 0)) :=
  heap_setCell_same _ _ _ _ _ _ (heap_setCell_same _ _ _ _ _ _ (heap_setCell_same _ _ _ _ _ _ (heap_setCell_same _ _ _ _ _ _ h)))
theorem byte4 {a0 a1 a2 a3 b0 b1 b2 b3 : Int} (h0 : a0 = b0) (h1 : a1 = b1) (h2 : a2 = b2) (h3 : a3 = b3) : Value.agg #[.int .u8 a0, .int .u8 a1, .int .u8 a2, .int .u8 a3] = Value.agg #[.int .u8 b0, .int .u8 b1, .int .u8 b2, .int .u8 b3] := by rw [h0, h1, h2, h3]
theorem ret_of {v u : Value} (h : v = u) : Ending.returned v = Ending.returned u := by rw [h]
theorem pw3 : Pl.pw 3 = 8 := by decide
theorem pw25 : Pl.pw 25 = 33554432 := by decide
set_option maxHeartbeats 1000000 in
theorem readFixed_1 (n : Int) (w : World) :
    Calls Tryz.prog 129 #[.int .i64 n, .int .i64 1] w fun e w' => e = .returned (.agg #[.int .u8 (Pl.rf 1 n 0), .int .u8 (Pl.rf 1 n 1), .int .u8 (Pl.rf 1 n 2), .int .u8 (Pl.rf 1 n 3)]) ∧ Below w.heap.size w w' := by
  go_enter Tryz.func129, Tryz.ntmps129
  go_wp2_with (go_at_call 131; refine (bitsOf_is _ _ _ ⟨by decide, by decide⟩ ⟨by decide, by decide⟩ _).mono ?_; rintro e u ⟨rfl, m, rfl⟩)
  refine bodyPost_ret (results_cell_row Tryz.results129 _ _ w.heap.size 114 (#[.int .u8 (n / Pl.pw 0 % Pl.pw 7 % 256), .int .u8 (n / Pl.pw 12 % Pl.pw 3 % 256), .int .u8 (n / Pl.pw 25 % Pl.pw 7 % 256), .int .u8 (0)]) (0, 0) _ rfl ?hg Tryz.underlying114 rfl ?sz) rfl ?fin
  case hg => repeat (first | with_reducible exact heap_alloc_new _ _ | with_reducible refine keep_drew ?_ | with_reducible refine row4 (a := .int .u8 0) (b := .int .u8 0) (c := .int .u8 0) (d := .int .u8 0) ?_ | with_reducible refine keep_other ?_ (by omega) | with_reducible refine keep_alloc ?_ (by simp <;> omega))
  case sz => kernel_rfl
  refine ⟨ret_of ?_, ?_⟩
  refine byte4 ?_ ?_ ?_ ?_
  · simp only [Pl.rf, Pl.pw0, Pl.pw7]; omega
  · simp [Pl.rf, Pl.pw12, pw3] <;> omega
  · simp [Pl.rf, pw25, Pl.pw7] <;> omega
  · simp [Pl.rf]
  · repeat (first | with_reducible exact Below.refl _ _ | with_reducible refine below_drewN' ?_ _ | with_reducible refine Below.setCell ?_ (by simp <;> omega) _ | with_reducible refine Below.alloc ?_ (by simp <;> omega) _)
set_option maxHeartbeats 1000000 in
theorem readFixed_2 (n : Int) (w : World) :
    Calls Tryz.prog 129 #[.int .i64 n, .int .i64 2] w fun e w' => e = .returned (.agg #[.int .u8 (Pl.rf 2 n 0), .int .u8 (Pl.rf 2 n 1), .int .u8 (Pl.rf 2 n 2), .int .u8 (Pl.rf 2 n 3)]) ∧ Below w.heap.size w w' := by
  go_enter Tryz.func129, Tryz.ntmps129
  go_wp2_with (go_at_call 131; refine (bitsOf_is _ _ _ ⟨by decide, by decide⟩ ⟨by decide, by decide⟩ _).mono ?_; rintro e u ⟨rfl, m, rfl⟩)
  refine bodyPost_ret (results_cell_row Tryz.results129 _ _ w.heap.size 114 (#[.int .u8 (n / Pl.pw 0 % Pl.pw 7 % 256), .int .u8 (n / Pl.pw 12 % Pl.pw 3 % 256), .int .u8 (0), .int .u8 (0)]) (0, 0) _ rfl ?hg Tryz.underlying114 rfl ?sz) rfl ?fin
  case hg => repeat (first | with_reducible exact heap_alloc_new _ _ | with_reducible refine keep_drew ?_ | with_reducible refine row4 (a := .int .u8 0) (b := .int .u8 0) (c := .int .u8 0) (d := .int .u8 0) ?_ | with_reducible refine keep_other ?_ (by omega) | with_reducible refine keep_alloc ?_ (by simp <;> omega))
  case sz => kernel_rfl
  refine ⟨ret_of ?_, ?_⟩
  refine byte4 ?_ ?_ ?_ ?_
  · simp only [Pl.rf, Pl.pw0, Pl.pw7]; omega
  · simp [Pl.rf, Pl.pw12, pw3] <;> omega
  · simp [Pl.rf]
  · simp [Pl.rf]
  · repeat (first | with_reducible exact Below.refl _ _ | with_reducible refine below_drewN' ?_ _ | with_reducible refine Below.setCell ?_ (by simp <;> omega) _ | with_reducible refine Below.alloc ?_ (by simp <;> omega) _)
set_option maxHeartbeats 1000000 in
theorem readFixed_3 (n : Int) (w : World) :
    Calls Tryz.prog 129 #[.int .i64 n, .int .i64 3] w fun e w' => e = .returned (.agg #[.int .u8 (Pl.rf 3 n 0), .int .u8 (Pl.rf 3 n 1), .int .u8 (Pl.rf 3 n 2), .int .u8 (Pl.rf 3 n 3)]) ∧ Below w.heap.size w w' := by
  go_enter Tryz.func129, Tryz.ntmps129
  go_wp2_with (go_at_call 131; refine (bitsOf_is _ _ _ ⟨by decide, by decide⟩ ⟨by decide, by decide⟩ _).mono ?_; rintro e u ⟨rfl, m, rfl⟩)
  refine bodyPost_ret (results_cell_row Tryz.results129 _ _ w.heap.size 114 (#[.int .u8 (n / Pl.pw 0 % Pl.pw 7 % 256), .int .u8 (n / Pl.pw 12 % Pl.pw 3 % 256), .int .u8 (n / Pl.pw 25 % Pl.pw 7 % 256), .int .u8 (0)]) (0, 0) _ rfl ?hg Tryz.underlying114 rfl ?sz) rfl ?fin
  case hg => repeat (first | with_reducible exact heap_alloc_new _ _ | with_reducible refine keep_drew ?_ | with_reducible refine row4 (a := .int .u8 0) (b := .int .u8 0) (c := .int .u8 0) (d := .int .u8 0) ?_ | with_reducible refine keep_other ?_ (by omega) | with_reducible refine keep_alloc ?_ (by simp <;> omega))
  case sz => kernel_rfl
  refine ⟨ret_of ?_, ?_⟩
  refine byte4 ?_ ?_ ?_ ?_
  · simp only [Pl.rf, Pl.pw0, Pl.pw7]; omega
  · simp [Pl.rf, Pl.pw12, pw3] <;> omega
  · simp [Pl.rf, pw25, Pl.pw7] <;> omega
  · simp [Pl.rf]
  · repeat (first | with_reducible exact Below.refl _ _ | with_reducible refine below_drewN' ?_ _ | with_reducible refine Below.setCell ?_ (by simp <;> omega) _ | with_reducible refine Below.alloc ?_ (by simp <;> omega) _)
set_option maxHeartbeats 1000000 in
theorem readFixed_4 (n : Int) (w : World) :
    Calls Tryz.prog 129 #[.int .i64 n, .int .i64 4] w fun e w' => e = .returned (.agg #[.int .u8 (Pl.rf 4 n 0), .int .u8 (Pl.rf 4 n 1), .int .u8 (Pl.rf 4 n 2), .int .u8 (Pl.rf 4 n 3)]) ∧ Below w.heap.size w w' := by
  go_enter Tryz.func129, Tryz.ntmps129
  go_wp2_with (go_at_call 131; refine (bitsOf_is _ _ _ ⟨by decide, by decide⟩ ⟨by decide, by decide⟩ _).mono ?_; rintro e u ⟨rfl, m, rfl⟩)
  refine bodyPost_ret (results_cell_row Tryz.results129 _ _ w.heap.size 114 (#[.int .u8 (n / Pl.pw 0 % Pl.pw 7 % 256), .int .u8 (n / Pl.pw 12 % Pl.pw 3 % 256), .int .u8 (0), .int .u8 (0)]) (0, 0) _ rfl ?hg Tryz.underlying114 rfl ?sz) rfl ?fin
  case hg => repeat (first | with_reducible exact heap_alloc_new _ _ | with_reducible refine keep_drew ?_ | with_reducible refine row4 (a := .int .u8 0) (b := .int .u8 0) (c := .int .u8 0) (d := .int .u8 0) ?_ | with_reducible refine keep_other ?_ (by omega) | with_reducible refine keep_alloc ?_ (by simp <;> omega))
  case sz => kernel_rfl
  refine ⟨ret_of ?_, ?_⟩
  refine byte4 ?_ ?_ ?_ ?_
  · simp only [Pl.rf, Pl.pw0, Pl.pw7]; omega
  · simp [Pl.rf, Pl.pw12, pw3] <;> omega
  · simp [Pl.rf]
  · simp [Pl.rf]
  · repeat (first | with_reducible exact Below.refl _ _ | with_reducible refine below_drewN' ?_ _ | with_reducible refine Below.setCell ?_ (by simp <;> omega) _ | with_reducible refine Below.alloc ?_ (by simp <;> omega) _)
set_option maxHeartbeats 1000000 in
theorem readFixed_5 (n : Int) (w : World) :
    Calls Tryz.prog 129 #[.int .i64 n, .int .i64 5] w fun e w' => e = .returned (.agg #[.int .u8 (Pl.rf 5 n 0), .int .u8 (Pl.rf 5 n 1), .int .u8 (Pl.rf 5 n 2), .int .u8 (Pl.rf 5 n 3)]) ∧ Below w.heap.size w w' := by
  go_enter Tryz.func129, Tryz.ntmps129
  go_wp2_with (go_at_call 131; refine (bitsOf_is _ _ _ ⟨by decide, by decide⟩ ⟨by decide, by decide⟩ _).mono ?_; rintro e u ⟨rfl, m, rfl⟩)
  refine bodyPost_ret (results_cell_row Tryz.results129 _ _ w.heap.size 114 (#[.int .u8 (n / Pl.pw 0 % Pl.pw 7 % 256), .int .u8 (n / Pl.pw 12 % Pl.pw 3 % 256), .int .u8 (0), .int .u8 (0)]) (0, 0) _ rfl ?hg Tryz.underlying114 rfl ?sz) rfl ?fin
  case hg => repeat (first | with_reducible exact heap_alloc_new _ _ | with_reducible refine keep_drew ?_ | with_reducible refine row4 (a := .int .u8 0) (b := .int .u8 0) (c := .int .u8 0) (d := .int .u8 0) ?_ | with_reducible refine keep_other ?_ (by omega) | with_reducible refine keep_alloc ?_ (by simp <;> omega))
  case sz => kernel_rfl
  refine ⟨ret_of ?_, ?_⟩
  refine byte4 ?_ ?_ ?_ ?_
  · simp only [Pl.rf, Pl.pw0, Pl.pw7]; omega
  · simp [Pl.rf, Pl.pw12, pw3] <;> omega
  · simp [Pl.rf]
  · simp [Pl.rf]
  · repeat (first | with_reducible exact Below.refl _ _ | with_reducible refine below_drewN' ?_ _ | with_reducible refine Below.setCell ?_ (by simp <;> omega) _ | with_reducible refine Below.alloc ?_ (by simp <;> omega) _)
set_option maxHeartbeats 1000000 in
theorem readFixed_6 (n : Int) (w : World) :
    Calls Tryz.prog 129 #[.int .i64 n, .int .i64 6] w fun e w' => e = .returned (.agg #[.int .u8 (Pl.rf 6 n 0), .int .u8 (Pl.rf 6 n 1), .int .u8 (Pl.rf 6 n 2), .int .u8 (Pl.rf 6 n 3)]) ∧ Below w.heap.size w w' := by
  go_enter Tryz.func129, Tryz.ntmps129
  go_wp2_with (go_at_call 131; refine (bitsOf_is _ _ _ ⟨by decide, by decide⟩ ⟨by decide, by decide⟩ _).mono ?_; rintro e u ⟨rfl, m, rfl⟩)
  refine bodyPost_ret (results_cell_row Tryz.results129 _ _ w.heap.size 114 (#[.int .u8 (n / Pl.pw 0 % Pl.pw 7 % 256), .int .u8 (0), .int .u8 (0), .int .u8 (0)]) (0, 0) _ rfl ?hg Tryz.underlying114 rfl ?sz) rfl ?fin
  case hg => repeat (first | with_reducible exact heap_alloc_new _ _ | with_reducible refine keep_drew ?_ | with_reducible refine row4 (a := .int .u8 0) (b := .int .u8 0) (c := .int .u8 0) (d := .int .u8 0) ?_ | with_reducible refine keep_other ?_ (by omega) | with_reducible refine keep_alloc ?_ (by simp <;> omega))
  case sz => kernel_rfl
  refine ⟨ret_of ?_, ?_⟩
  refine byte4 ?_ ?_ ?_ ?_
  · simp only [Pl.rf, Pl.pw0, Pl.pw7]; omega
  · simp [Pl.rf]
  · simp [Pl.rf]
  · simp [Pl.rf]
  · repeat (first | with_reducible exact Below.refl _ _ | with_reducible refine below_drewN' ?_ _ | with_reducible refine Below.setCell ?_ (by simp <;> omega) _ | with_reducible refine Below.alloc ?_ (by simp <;> omega) _)
set_option maxHeartbeats 1000000 in
theorem readFixed_7 (n : Int) (w : World) :
    Calls Tryz.prog 129 #[.int .i64 n, .int .i64 7] w fun e w' => e = .returned (.agg #[.int .u8 (Pl.rf 7 n 0), .int .u8 (Pl.rf 7 n 1), .int .u8 (Pl.rf 7 n 2), .int .u8 (Pl.rf 7 n 3)]) ∧ Below w.heap.size w w' := by
  go_enter Tryz.func129, Tryz.ntmps129
  go_wp2_with (go_at_call 131; refine (bitsOf_is _ _ _ ⟨by decide, by decide⟩ ⟨by decide, by decide⟩ _).mono ?_; rintro e u ⟨rfl, m, rfl⟩)
  refine bodyPost_ret (results_cell_row Tryz.results129 _ _ w.heap.size 114 (#[.int .u8 (n / Pl.pw 0 % Pl.pw 7 % 256), .int .u8 (0), .int .u8 (0), .int .u8 (0)]) (0, 0) _ rfl ?hg Tryz.underlying114 rfl ?sz) rfl ?fin
  case hg => repeat (first | with_reducible exact heap_alloc_new _ _ | with_reducible refine keep_drew ?_ | with_reducible refine row4 (a := .int .u8 0) (b := .int .u8 0) (c := .int .u8 0) (d := .int .u8 0) ?_ | with_reducible refine keep_other ?_ (by omega) | with_reducible refine keep_alloc ?_ (by simp <;> omega))
  case sz => kernel_rfl
  refine ⟨ret_of ?_, ?_⟩
  refine byte4 ?_ ?_ ?_ ?_
  · simp only [Pl.rf, Pl.pw0, Pl.pw7]; omega
  · simp [Pl.rf]
  · simp [Pl.rf]
  · simp [Pl.rf]
  · repeat (first | with_reducible exact Below.refl _ _ | with_reducible refine below_drewN' ?_ _ | with_reducible refine Below.setCell ?_ (by simp <;> omega) _ | with_reducible refine Below.alloc ?_ (by simp <;> omega) _)
set_option maxHeartbeats 1000000 in
theorem readFixed_8 (n : Int) (w : World) :
    Calls Tryz.prog 129 #[.int .i64 n, .int .i64 8] w fun e w' => e = .returned (.agg #[.int .u8 (Pl.rf 8 n 0), .int .u8 (Pl.rf 8 n 1), .int .u8 (Pl.rf 8 n 2), .int .u8 (Pl.rf 8 n 3)]) ∧ Below w.heap.size w w' := by
  go_enter Tryz.func129, Tryz.ntmps129
  go_wp2_with (go_at_call 131; refine (bitsOf_is _ _ _ ⟨by decide, by decide⟩ ⟨by decide, by decide⟩ _).mono ?_; rintro e u ⟨rfl, m, rfl⟩)
  refine bodyPost_ret (results_cell_row Tryz.results129 _ _ w.heap.size 114 (#[.int .u8 (n / Pl.pw 0 % Pl.pw 7 % 256), .int .u8 (n / Pl.pw 12 % Pl.pw 3 % 256), .int .u8 (n / Pl.pw 25 % Pl.pw 7 % 256), .int .u8 (n / Pl.pw 20 % Pl.pw 5 % 256)]) (0, 0) _ rfl ?hg Tryz.underlying114 rfl ?sz) rfl ?fin
  case hg => repeat (first | with_reducible exact heap_alloc_new _ _ | with_reducible refine keep_drew ?_ | with_reducible refine row4 (a := .int .u8 0) (b := .int .u8 0) (c := .int .u8 0) (d := .int .u8 0) ?_ | with_reducible refine keep_other ?_ (by omega) | with_reducible refine keep_alloc ?_ (by simp <;> omega))
  case sz => kernel_rfl
  refine ⟨ret_of ?_, ?_⟩
  refine byte4 ?_ ?_ ?_ ?_
  · simp only [Pl.rf, Pl.pw0, Pl.pw7]; omega
  · simp [Pl.rf, Pl.pw12, pw3] <;> omega
  · simp [Pl.rf, pw25, Pl.pw7] <;> omega
  · simp [Pl.rf, Pl.pw20, Pl.pw5] <;> omega
  · repeat (first | with_reducible exact Below.refl _ _ | with_reducible refine below_drewN' ?_ _ | with_reducible refine Below.setCell ?_ (by simp <;> omega) _ | with_reducible refine Below.alloc ?_ (by simp <;> omega) _)
theorem readFixed_any (f : Nat) (x n : Int) (hx : x = f) (h1 : 1 ≤ f) (h2 : f ≤ 8) (w : World) :
    Calls Tryz.prog 129 #[.int .i64 n, .int .i64 x] w fun e w' => e = .returned (.agg #[.int .u8 (Pl.rf f n 0), .int .u8 (Pl.rf f n 1), .int .u8 (Pl.rf f n 2), .int .u8 (Pl.rf f n 3)]) ∧ Below w.heap.size w w' := by
  subst hx
  rcases Pl.form_cases f h1 h2 with rfl | rfl | rfl | rfl | rfl | rfl | rfl | rfl
  · exact readFixed_1 n w
  · exact readFixed_2 n w
  · exact readFixed_3 n w
  · exact readFixed_4 n w
  · exact readFixed_5 n w
  · exact readFixed_6 n w
  · exact readFixed_7 n w
  · exact readFixed_8 n w
end Go.Proofs.YtjdfffdeljgenaaGreatDoor.W
