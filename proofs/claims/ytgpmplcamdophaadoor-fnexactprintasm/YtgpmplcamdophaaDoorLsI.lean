import Derived.Test.YtgpmplcamdophaaDoorLsH
import Derived.Deep.RegionHeld3
set_option linter.unusedVariables false
set_option linter.unusedSimpArgs false
namespace Go.Proofs.YtgpmplcamdophaaDoor.Pl
theorem dist_size {n : Int} (h : -4611686018427387904 ≤ n ∧ n ≤ 4611686018427387904) : (dist n).size ≤ 21 := by
  have := num_size h
  have e1 : (⟨#[43]⟩ : ByteArray).size = 1 := rfl
  unfold dist
  split
  · simp [e1]; omega
  · split
    · omega
    · decide
end Go.Proofs.YtgpmplcamdophaaDoor.Pl
namespace Go.Proofs.YtgpmplcamdophaaDoor.W
open Go.RowKit
theorem below_then {w W v : World} (d : Below W.heap.size W v) (h : Below w.heap.size w W) : Below w.heap.size w v := h.trans (d.mono h.size)
theorem keep_row {W v : World} {g : Nat} {o : Obj} (d : Below W.heap.size W v) (h : W.heap[g]? = some o) : v.heap[g]? = some o := (d.block g (Array.getElem?_eq_some_iff.1 h).1).trans h
set_option maxRecDepth 8000 in
set_option maxHeartbeats 8000000 in
theorem lt_4 (op : Int) (rd : Nat) (r1 r2 im n : Int) (s : ByteArray) (hd : rd ≤ 31) (hn : -4611686018427387904 ≤ n ∧ n ≤ 4611686018427387904) (w : World) : Calls Tryd.prog 20 #[.agg #[.int .i64 4, .int .i64 op, .int .i64 rd, .int .i64 r1, .int .i64 r2, .int .i64 im, .string s, .int .i64 n]] w fun e w' => e = .returned (.string ((⟨#[108, 105, 32]⟩ : ByteArray) ++ Pl.rn rd ++ ⟨#[44, 32]⟩ ++ Pl.num n)) ∧ Below w.heap.size w w' := by
  have sD := Pl.rn_size rd (by omega)
  have sN := Pl.num_size hn
  have HD : Hid (∀ w, Calls Tryd.prog 35 #[.int .i64 rd] w fun e w' => e = .returned (.string (Pl.rn rd)) ∧ Below w.heap.size w w') := fun w => specRegName_yes rd hd w
  have HN : Hid (∀ w, Calls Tryd.prog 36 #[.int .i64 n] w fun e w' => e = .returned (.string (Pl.num n)) ∧ Below w.heap.size w w') := fun w => specDec_num n hn w
  generalize Pl.rn rd = D at *
  generalize Pl.num n = N at *
  have g0 : ¬ 9223372036854775807 < 3 + D.size := by omega
  have g1 : ¬ 9223372036854775807 < 3 + D.size + 2 := by omega
  have g2 : ¬ 9223372036854775807 < 3 + D.size + 2 + N.size := by omega
  go_enter Tryd.func20, Tryd.ntmps20
  go_wp2_with fail
  go_region_held3 (fun w2 => w2.cell? ⟨w.heap.size, 2, none⟩ = some (.int .i64 rd) ∧ w2.cell? ⟨w.heap.size, 7, none⟩ = some (.int .i64 n)) (go_keep) (first | (go_at_call 35; refine (HD.out _).mono ?_; rintro e v1 ⟨rfl, d1⟩; have X1 : Hid (v1.heap[w.heap.size]? = some (.cells #[.int .i64 4, .int .i64 op, .int .i64 rd, .int .i64 r1, .int .i64 r2, .int .i64 im, .string s, .int .i64 n] 46) ∧ Below w.heap.size w v1) := ⟨keep_row d1 (by first | exact X2.out.1 | exact heap_alloc_new w _), below_then d1 (by repeat (first | exact X2.out.2 | exact below_alloc2 w _ | refine Below.drew ?_ | refine below_drewN ?_ _))⟩; clear d1; have k12 : v1.cell? ⟨w.heap.size, 2, none⟩ = some (.int .i64 rd) := cell_of_row v1 w.heap.size 2 _ 46 (0, 0) X1.out.1; have k13 : v1.cell? ⟨w.heap.size, 3, none⟩ = some (.int .i64 r1) := cell_of_row v1 w.heap.size 3 _ 46 (0, 0) X1.out.1; have k16 : v1.cell? ⟨w.heap.size, 6, none⟩ = some (.string s) := cell_of_row v1 w.heap.size 6 _ 46 (0, 0) X1.out.1; have k17 : v1.cell? ⟨w.heap.size, 7, none⟩ = some (.int .i64 n) := cell_of_row v1 w.heap.size 7 _ 46 (0, 0) X1.out.1) | (go_at_call 36; refine (HN.out _).mono ?_; rintro e v2 ⟨rfl, d2⟩; have X2 : Hid (v2.heap[w.heap.size]? = some (.cells #[.int .i64 4, .int .i64 op, .int .i64 rd, .int .i64 r1, .int .i64 r2, .int .i64 im, .string s, .int .i64 n] 46) ∧ Below w.heap.size w v2) := ⟨keep_row d2 (by first | exact X1.out.1 | exact heap_alloc_new w _), below_then d2 (by repeat (first | exact X1.out.2 | exact below_alloc2 w _ | refine Below.drew ?_ | refine below_drewN ?_ _))⟩; clear d2; have k22 : v2.cell? ⟨w.heap.size, 2, none⟩ = some (.int .i64 rd) := cell_of_row v2 w.heap.size 2 _ 46 (0, 0) X2.out.1; have k23 : v2.cell? ⟨w.heap.size, 3, none⟩ = some (.int .i64 r1) := cell_of_row v2 w.heap.size 3 _ 46 (0, 0) X2.out.1; have k26 : v2.cell? ⟨w.heap.size, 6, none⟩ = some (.string s) := cell_of_row v2 w.heap.size 6 _ 46 (0, 0) X2.out.1; have k27 : v2.cell? ⟨w.heap.size, 7, none⟩ = some (.int .i64 n) := cell_of_row v2 w.heap.size 7 _ 46 (0, 0) X2.out.1))
  all_goals
    go_wp2_with fail
    go_ret
    first | exact ⟨rfl, X2.out.2⟩ | exact ⟨rfl, X1.out.2⟩
set_option maxRecDepth 8000 in
set_option maxHeartbeats 8000000 in
theorem lt_5 (op : Int) (rd : Nat) (r1 r2 im n : Int) (s : ByteArray) (hd : rd ≤ 31) (hs : s.size ≤ 1048576) (hn : -4611686018427387904 ≤ n ∧ n ≤ 4611686018427387904) (w : World) : Calls Tryd.prog 20 #[.agg #[.int .i64 5, .int .i64 op, .int .i64 rd, .int .i64 r1, .int .i64 r2, .int .i64 im, .string s, .int .i64 n]] w fun e w' => e = .returned (.string ((⟨#[108, 97, 32]⟩ : ByteArray) ++ Pl.rn rd ++ ⟨#[44, 32]⟩ ++ s ++ Pl.dist n)) ∧ Below w.heap.size w w' := by
  have sD := Pl.rn_size rd (by omega)
  have sT := Pl.dist_size hn
  have HD : Hid (∀ w, Calls Tryd.prog 35 #[.int .i64 rd] w fun e w' => e = .returned (.string (Pl.rn rd)) ∧ Below w.heap.size w w') := fun w => specRegName_yes rd hd w
  have HT : Hid (∀ w, Calls Tryd.prog 37 #[.int .i64 n] w fun e w' => e = .returned (.string (Pl.dist n)) ∧ Below w.heap.size w w') := fun w => l4Distance_any n hn w
  generalize Pl.rn rd = D at *
  generalize Pl.dist n = T at *
  have g0 : ¬ 9223372036854775807 < 3 + D.size := by omega
  have g1 : ¬ 9223372036854775807 < 3 + D.size + 2 := by omega
  have g2 : ¬ 9223372036854775807 < 3 + D.size + 2 + s.size := by omega
  have g3 : ¬ 9223372036854775807 < 3 + D.size + 2 + s.size + T.size := by omega
  go_enter Tryd.func20, Tryd.ntmps20
  go_wp2_with fail
  go_region_held3 (fun w2 => w2.cell? ⟨w.heap.size, 2, none⟩ = some (.int .i64 rd) ∧ w2.cell? ⟨w.heap.size, 6, none⟩ = some (.string s) ∧ w2.cell? ⟨w.heap.size, 7, none⟩ = some (.int .i64 n)) (go_keep) (first | (go_at_call 35; refine (HD.out _).mono ?_; rintro e v1 ⟨rfl, d1⟩; have X1 : Hid (v1.heap[w.heap.size]? = some (.cells #[.int .i64 5, .int .i64 op, .int .i64 rd, .int .i64 r1, .int .i64 r2, .int .i64 im, .string s, .int .i64 n] 46) ∧ Below w.heap.size w v1) := ⟨keep_row d1 (by first | exact X2.out.1 | exact heap_alloc_new w _), below_then d1 (by repeat (first | exact X2.out.2 | exact below_alloc2 w _ | refine Below.drew ?_ | refine below_drewN ?_ _))⟩; clear d1; have k12 : v1.cell? ⟨w.heap.size, 2, none⟩ = some (.int .i64 rd) := cell_of_row v1 w.heap.size 2 _ 46 (0, 0) X1.out.1; have k13 : v1.cell? ⟨w.heap.size, 3, none⟩ = some (.int .i64 r1) := cell_of_row v1 w.heap.size 3 _ 46 (0, 0) X1.out.1; have k16 : v1.cell? ⟨w.heap.size, 6, none⟩ = some (.string s) := cell_of_row v1 w.heap.size 6 _ 46 (0, 0) X1.out.1; have k17 : v1.cell? ⟨w.heap.size, 7, none⟩ = some (.int .i64 n) := cell_of_row v1 w.heap.size 7 _ 46 (0, 0) X1.out.1) | (go_at_call 37; refine (HT.out _).mono ?_; rintro e v2 ⟨rfl, d2⟩; have X2 : Hid (v2.heap[w.heap.size]? = some (.cells #[.int .i64 5, .int .i64 op, .int .i64 rd, .int .i64 r1, .int .i64 r2, .int .i64 im, .string s, .int .i64 n] 46) ∧ Below w.heap.size w v2) := ⟨keep_row d2 (by first | exact X1.out.1 | exact heap_alloc_new w _), below_then d2 (by repeat (first | exact X1.out.2 | exact below_alloc2 w _ | refine Below.drew ?_ | refine below_drewN ?_ _))⟩; clear d2; have k22 : v2.cell? ⟨w.heap.size, 2, none⟩ = some (.int .i64 rd) := cell_of_row v2 w.heap.size 2 _ 46 (0, 0) X2.out.1; have k23 : v2.cell? ⟨w.heap.size, 3, none⟩ = some (.int .i64 r1) := cell_of_row v2 w.heap.size 3 _ 46 (0, 0) X2.out.1; have k26 : v2.cell? ⟨w.heap.size, 6, none⟩ = some (.string s) := cell_of_row v2 w.heap.size 6 _ 46 (0, 0) X2.out.1; have k27 : v2.cell? ⟨w.heap.size, 7, none⟩ = some (.int .i64 n) := cell_of_row v2 w.heap.size 7 _ 46 (0, 0) X2.out.1))
  all_goals
    go_wp2_with fail
    go_ret
    first | exact ⟨rfl, X2.out.2⟩ | exact ⟨rfl, X1.out.2⟩
end Go.Proofs.YtgpmplcamdophaaDoor.W
