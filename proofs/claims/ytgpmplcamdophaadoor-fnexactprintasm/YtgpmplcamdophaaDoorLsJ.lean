import Derived.Test.YtgpmplcamdophaaDoorLsI
set_option linter.unusedVariables false
set_option linter.unusedSimpArgs false
namespace Go.Proofs.YtgpmplcamdophaaDoor.W
open Go.RowKit
set_option maxRecDepth 8000 in
set_option maxHeartbeats 8000000 in
theorem lt_6 (op : Int) (rd r1 : Nat) (r2 im n : Int) (s : ByteArray) (hd : rd ≤ 31) (ha : r1 ≤ 31) (w : World) : Calls Tryd.prog 20 #[.agg #[.int .i64 6, .int .i64 op, .int .i64 rd, .int .i64 r1, .int .i64 r2, .int .i64 im, .string s, .int .i64 n]] w fun e w' => e = .returned (.string ((⟨#[109, 118, 32]⟩ : ByteArray) ++ Pl.rn rd ++ ⟨#[44, 32]⟩ ++ Pl.rn r1)) ∧ Below w.heap.size w w' := by
  have sD := Pl.rn_size rd (by omega)
  have s1 := Pl.rn_size r1 (by omega)
  obtain ⟨F, hf1, hf2⟩ : ∃ F : Int → ByteArray, F rd = Pl.rn rd ∧ F r1 = Pl.rn r1 := ⟨fun q => Pl.rn q.toNat, by simp, by simp⟩
  have HR : Hid (∀ (w : World) (q : Int), q = (rd : Int) ∨ q = (r1 : Int) → Calls Tryd.prog 35 #[.int .i64 q] w fun e w' => e = .returned (.string (F q)) ∧ Below w.heap.size w w') := fun w q hq => by
    rcases hq with rfl | rfl
    · rw [hf1]; exact specRegName_yes rd hd w
    · rw [hf2]; exact specRegName_yes r1 ha w
  rw [← hf1, ← hf2]
  rw [← hf1] at sD
  rw [← hf2] at s1
  clear hf1 hf2
  have g1 : ¬ 9223372036854775807 < 3 + (F rd).size := by omega
  have g2 : ¬ 9223372036854775807 < 3 + (F rd).size + 2 := by omega
  have g3 : ¬ 9223372036854775807 < 3 + (F rd).size + 2 + (F r1).size := by omega
  go_enter Tryd.func20, Tryd.ntmps20
  go_wp2_with fail
  go_region_held3 (fun w2 => w2.cell? ⟨w.heap.size, 2, none⟩ = some (.int .i64 rd) ∧ w2.cell? ⟨w.heap.size, 3, none⟩ = some (.int .i64 r1)) (go_keep) ((go_at_call 35; refine (HR.out _ _ (by first | exact .inl rfl | exact .inr rfl)).mono ?_; rintro e v1 ⟨rfl, d1⟩; have X1 : Hid (v1.heap[w.heap.size]? = some (.cells #[.int .i64 6, .int .i64 op, .int .i64 rd, .int .i64 r1, .int .i64 r2, .int .i64 im, .string s, .int .i64 n] 46) ∧ Below w.heap.size w v1) := ⟨keep_row d1 (by first | exact X1.out.1 | exact heap_alloc_new w _), below_then d1 (by repeat (first | exact X1.out.2 | exact below_alloc2 w _ | refine Below.drew ?_ | refine below_drewN ?_ _))⟩; clear d1; have k12 : v1.cell? ⟨w.heap.size, 2, none⟩ = some (.int .i64 rd) := cell_of_row v1 w.heap.size 2 _ 46 (0, 0) X1.out.1; have k13 : v1.cell? ⟨w.heap.size, 3, none⟩ = some (.int .i64 r1) := cell_of_row v1 w.heap.size 3 _ 46 (0, 0) X1.out.1))
  all_goals
    go_wp2_with fail
    go_ret
    exact ⟨rfl, X1.out.2⟩

set_option maxRecDepth 8000 in
set_option maxHeartbeats 8000000 in
theorem lt_14n (op rd r1 r2 im n : Int) (s : ByteArray) (he : ¬ s.size = 0) (hs : s.size ≤ 1048576) (hn : -4611686018427387904 ≤ n ∧ n ≤ 4611686018427387904) (w : World) : Calls Tryd.prog 20 #[.agg #[.int .i64 14, .int .i64 op, .int .i64 rd, .int .i64 r1, .int .i64 r2, .int .i64 im, .string s, .int .i64 n]] w fun e w' => e = .returned (.string ((⟨#[46, 119, 111, 114, 100, 32]⟩ : ByteArray) ++ s ++ Pl.dist n)) ∧ Below w.heap.size w w' := by
  have sT := Pl.dist_size hn
  have hie : s.toList.isEmpty = false := by simpa using fun h => he ((Pl.nil_iff s).1 h)
  have hnl : ¬ s.toList = [] := fun h => he ((Pl.nil_iff s).1 h)
  have HT : Hid (∀ w, Calls Tryd.prog 37 #[.int .i64 n] w fun e w' => e = .returned (.string (Pl.dist n)) ∧ Below w.heap.size w w') := fun w => l4Distance_any n hn w
  generalize Pl.dist n = T at *
  have g2 : ¬ 9223372036854775807 < 6 + s.size := by omega
  have g3 : ¬ 9223372036854775807 < 6 + s.size + T.size := by omega
  go_enter Tryd.func20, Tryd.ntmps20
  go_wp2_with fail
  go_region_held3 (fun w2 => w2.cell? ⟨w.heap.size, 6, none⟩ = some (.string s) ∧ w2.cell? ⟨w.heap.size, 7, none⟩ = some (.int .i64 n)) (go_keep) ((go_at_call 37; refine (HT.out _).mono ?_; rintro e v1 ⟨rfl, d1⟩; have X1 : Hid (v1.heap[w.heap.size]? = some (.cells #[.int .i64 14, .int .i64 op, .int .i64 rd, .int .i64 r1, .int .i64 r2, .int .i64 im, .string s, .int .i64 n] 46) ∧ Below w.heap.size w v1) := ⟨keep_row d1 (by first | exact heap_alloc_new w _ | (refine keep_row ?_ (heap_alloc_new w _); repeat (first | exact below_alloc2 _ _ | refine Below.drew ?_ | refine below_drewN ?_ _))), below_then d1 (by repeat (first | exact below_alloc2 w _ | exact below_then (below_alloc2 _ _) (below_alloc2 w _) | refine Below.drew ?_ | refine below_drewN ?_ _))⟩; clear d1; have k16 : v1.cell? ⟨w.heap.size, 6, none⟩ = some (.string s) := cell_of_row v1 w.heap.size 6 _ 46 (0, 0) X1.out.1; have k17 : v1.cell? ⟨w.heap.size, 7, none⟩ = some (.int .i64 n) := cell_of_row v1 w.heap.size 7 _ 46 (0, 0) X1.out.1))
  all_goals
    go_wp2_with fail
    go_ret
    exact ⟨rfl, X1.out.2⟩

end Go.Proofs.YtgpmplcamdophaaDoor.W
