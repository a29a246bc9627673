import Derived.Test.YtgpmplcamdophaaDoorLsG
set_option linter.unusedVariables false
set_option linter.unusedSimpArgs false
namespace Go.Proofs.YtgpmplcamdophaaDoor.W
open Go.RowKit
set_option maxRecDepth 8000 in
set_option maxHeartbeats 2000000 in
theorem lt_1 (op rd r1 r2 im n : Int) (s : ByteArray) (hs : s.size ≤ 1048576) (w : World) : Calls Tryd.prog 20 #[.agg #[.int .i64 1, .int .i64 op, .int .i64 rd, .int .i64 r1, .int .i64 r2, .int .i64 im, .string s, .int .i64 n]] w fun e w' => e = .returned (.string (s ++ ⟨#[58]⟩)) ∧ Below w.heap.size w w' := by
  go_enter Tryd.func20, Tryd.ntmps20
  go_wp2
  go_ret
  exact ⟨rfl, (by repeat (first | exact Below.refl _ _ | refine Below.alloc ?_ (by simp <;> omega) _))⟩
set_option maxRecDepth 8000 in
set_option maxHeartbeats 2000000 in
theorem lt_7 (op rd r1 r2 im n : Int) (s : ByteArray) (hs : s.size ≤ 1048576) (w : World) : Calls Tryd.prog 20 #[.agg #[.int .i64 7, .int .i64 op, .int .i64 rd, .int .i64 r1, .int .i64 r2, .int .i64 im, .string s, .int .i64 n]] w fun e w' => e = .returned (.string ((⟨#[106, 32]⟩ : ByteArray) ++ s)) ∧ Below w.heap.size w w' := by
  go_enter Tryd.func20, Tryd.ntmps20
  go_wp2
  go_ret
  exact ⟨rfl, (by repeat (first | exact Below.refl _ _ | refine Below.alloc ?_ (by simp <;> omega) _))⟩
set_option maxRecDepth 8000 in
set_option maxHeartbeats 2000000 in
theorem lt_8 (op rd r1 r2 im n : Int) (s : ByteArray) (hs : s.size ≤ 1048576) (w : World) : Calls Tryd.prog 20 #[.agg #[.int .i64 8, .int .i64 op, .int .i64 rd, .int .i64 r1, .int .i64 r2, .int .i64 im, .string s, .int .i64 n]] w fun e w' => e = .returned (.string ((⟨#[99, 97, 108, 108, 32]⟩ : ByteArray) ++ s)) ∧ Below w.heap.size w w' := by
  go_enter Tryd.func20, Tryd.ntmps20
  go_wp2
  go_ret
  exact ⟨rfl, (by repeat (first | exact Below.refl _ _ | refine Below.alloc ?_ (by simp <;> omega) _))⟩
set_option maxRecDepth 8000 in
set_option maxHeartbeats 2000000 in
theorem lt_9 (op rd r1 r2 im n : Int) (s : ByteArray) (w : World) : Calls Tryd.prog 20 #[.agg #[.int .i64 9, .int .i64 op, .int .i64 rd, .int .i64 r1, .int .i64 r2, .int .i64 im, .string s, .int .i64 n]] w fun e w' => e = .returned (.string (⟨#[114, 101, 116]⟩)) ∧ Below w.heap.size w w' := by
  go_enter Tryd.func20, Tryd.ntmps20
  go_wp2
  go_ret
  exact ⟨rfl, (by repeat (first | exact Below.refl _ _ | refine Below.alloc ?_ (by simp <;> omega) _))⟩
set_option maxRecDepth 8000 in
set_option maxHeartbeats 2000000 in
theorem lt_10 (op rd r1 r2 im n : Int) (s : ByteArray) (w : World) : Calls Tryd.prog 20 #[.agg #[.int .i64 10, .int .i64 op, .int .i64 rd, .int .i64 r1, .int .i64 r2, .int .i64 im, .string s, .int .i64 n]] w fun e w' => e = .returned (.string (⟨#[46, 116, 101, 120, 116]⟩)) ∧ Below w.heap.size w w' := by
  go_enter Tryd.func20, Tryd.ntmps20
  go_wp2
  go_ret
  exact ⟨rfl, (by repeat (first | exact Below.refl _ _ | refine Below.alloc ?_ (by simp <;> omega) _))⟩
set_option maxRecDepth 8000 in
set_option maxHeartbeats 2000000 in
theorem lt_11 (op rd r1 r2 im n : Int) (s : ByteArray) (w : World) : Calls Tryd.prog 20 #[.agg #[.int .i64 11, .int .i64 op, .int .i64 rd, .int .i64 r1, .int .i64 r2, .int .i64 im, .string s, .int .i64 n]] w fun e w' => e = .returned (.string (⟨#[46, 100, 97, 116, 97]⟩)) ∧ Below w.heap.size w w' := by
  go_enter Tryd.func20, Tryd.ntmps20
  go_wp2
  go_ret
  exact ⟨rfl, (by repeat (first | exact Below.refl _ _ | refine Below.alloc ?_ (by simp <;> omega) _))⟩
set_option maxRecDepth 8000 in
set_option maxHeartbeats 2000000 in
theorem lt_2 (op rd r1 r2 : Nat) (im n : Int) (s : ByteArray) (h1 : 1 ≤ op) (h2 : op ≤ 47) (hd : rd ≤ 31) (ha : r1 ≤ 31) (hb : r2 ≤ 31) (him : -4611686018427387904 ≤ im ∧ im ≤ 4611686018427387904) (hs : s.size ≤ 1048576) (w : World) : Calls Tryd.prog 20 #[.agg #[.int .i64 2, .int .i64 op, .int .i64 rd, .int .i64 r1, .int .i64 r2, .int .i64 im, .string s, .int .i64 n]] w fun e w' => e = .returned (.string (Pl.insText op rd r1 r2 im s)) ∧ Below w.heap.size w w' := by
  go_enter Tryd.func20, Tryd.ntmps20
  go_wp2_with (go_at_call 34; refine (l4InstText_any op rd r1 r2 im s h1 h2 hd ha hb him hs _).mono ?_; rintro e u1 ⟨rfl, d1⟩)
  go_ret
  exact ⟨rfl, (below_alloc2 w _).trans (d1.mono (by simp))⟩
set_option maxRecDepth 8000 in
set_option maxHeartbeats 2000000 in
theorem lt_3 (op rd r1 r2 : Nat) (im n : Int) (s : ByteArray) (h1 : 1 ≤ op) (h2 : op ≤ 47) (hd : rd ≤ 31) (ha : r1 ≤ 31) (hb : r2 ≤ 31) (him : -4611686018427387904 ≤ im ∧ im ≤ 4611686018427387904) (hs : s.size ≤ 1048576) (w : World) : Calls Tryd.prog 20 #[.agg #[.int .i64 3, .int .i64 op, .int .i64 rd, .int .i64 r1, .int .i64 r2, .int .i64 im, .string s, .int .i64 n]] w fun e w' => e = .returned (.string (Pl.insText op rd r1 r2 im s)) ∧ Below w.heap.size w w' := by
  go_enter Tryd.func20, Tryd.ntmps20
  go_wp2_with (go_at_call 34; refine (l4InstText_any op rd r1 r2 im s h1 h2 hd ha hb him hs _).mono ?_; rintro e u1 ⟨rfl, d1⟩)
  go_ret
  exact ⟨rfl, (below_alloc2 w _).trans (d1.mono (by simp))⟩
set_option maxRecDepth 8000 in
set_option maxHeartbeats 2000000 in
theorem lt_12 (op rd r1 r2 im n : Int) (hn : -4611686018427387904 ≤ n ∧ n ≤ 4611686018427387904) (w : World) : Calls Tryd.prog 20 #[.agg #[.int .i64 12, .int .i64 op, .int .i64 rd, .int .i64 r1, .int .i64 r2, .int .i64 im, .string ⟨#[]⟩, .int .i64 n]] w fun e w' => e = .returned (.string ((⟨#[46, 98, 121, 116, 101]⟩ : ByteArray) ++ ⟨#[32]⟩ ++ Pl.num n)) ∧ Below w.heap.size w w' := by
  have hz := Pl.num_size hn
  go_enter Tryd.func20, Tryd.ntmps20
  go_wp2_with fail
  refine calls_at7 fun u0 hu0 => ?_
  have b0 : Below w.heap.size w u0 := by rw [hu0]; exact (by repeat (first | exact Below.refl _ _ | refine Below.alloc ?_ (by simp <;> omega) _))
  clear hu0
  refine (specDec_num n hn u0).mono ?_
  rintro e u1 ⟨rfl, d1⟩
  have B : Hid (Below w.heap.size w u1) := b0.trans (d1.mono b0.size)
  clear d1 b0
  go_wp2
  go_ret
  exact ⟨rfl, B.out⟩
set_option maxRecDepth 8000 in
set_option maxHeartbeats 2000000 in
theorem lt_13 (op rd r1 r2 im n : Int) (hn : -4611686018427387904 ≤ n ∧ n ≤ 4611686018427387904) (w : World) : Calls Tryd.prog 20 #[.agg #[.int .i64 13, .int .i64 op, .int .i64 rd, .int .i64 r1, .int .i64 r2, .int .i64 im, .string ⟨#[]⟩, .int .i64 n]] w fun e w' => e = .returned (.string ((⟨#[46, 104, 97, 108, 102]⟩ : ByteArray) ++ ⟨#[32]⟩ ++ Pl.num n)) ∧ Below w.heap.size w w' := by
  have hz := Pl.num_size hn
  go_enter Tryd.func20, Tryd.ntmps20
  go_wp2_with fail
  refine calls_at7 fun u0 hu0 => ?_
  have b0 : Below w.heap.size w u0 := by rw [hu0]; exact (by repeat (first | exact Below.refl _ _ | refine Below.alloc ?_ (by simp <;> omega) _))
  clear hu0
  refine (specDec_num n hn u0).mono ?_
  rintro e u1 ⟨rfl, d1⟩
  have B : Hid (Below w.heap.size w u1) := b0.trans (d1.mono b0.size)
  clear d1 b0
  go_wp2
  go_ret
  exact ⟨rfl, B.out⟩
set_option maxRecDepth 8000 in
set_option maxHeartbeats 2000000 in
theorem lt_14 (op rd r1 r2 im n : Int) (hn : -4611686018427387904 ≤ n ∧ n ≤ 4611686018427387904) (w : World) : Calls Tryd.prog 20 #[.agg #[.int .i64 14, .int .i64 op, .int .i64 rd, .int .i64 r1, .int .i64 r2, .int .i64 im, .string ⟨#[]⟩, .int .i64 n]] w fun e w' => e = .returned (.string ((⟨#[46, 119, 111, 114, 100]⟩ : ByteArray) ++ ⟨#[32]⟩ ++ Pl.num n)) ∧ Below w.heap.size w w' := by
  have hz := Pl.num_size hn
  go_enter Tryd.func20, Tryd.ntmps20
  go_wp2_with fail
  refine calls_at7 fun u0 hu0 => ?_
  have b0 : Below w.heap.size w u0 := by rw [hu0]; exact (by repeat (first | exact Below.refl _ _ | refine Below.alloc ?_ (by simp <;> omega) _))
  clear hu0
  refine (specDec_num n hn u0).mono ?_
  rintro e u1 ⟨rfl, d1⟩
  have B : Hid (Below w.heap.size w u1) := b0.trans (d1.mono b0.size)
  clear d1 b0
  go_wp2
  go_ret
  exact ⟨rfl, B.out⟩
set_option maxRecDepth 8000 in
set_option maxHeartbeats 2000000 in
theorem lt_15 (op rd r1 r2 im n : Int) (hn : -4611686018427387904 ≤ n ∧ n ≤ 4611686018427387904) (w : World) : Calls Tryd.prog 20 #[.agg #[.int .i64 15, .int .i64 op, .int .i64 rd, .int .i64 r1, .int .i64 r2, .int .i64 im, .string ⟨#[]⟩, .int .i64 n]] w fun e w' => e = .returned (.string ((⟨#[46, 122, 101, 114, 111]⟩ : ByteArray) ++ ⟨#[32]⟩ ++ Pl.num n)) ∧ Below w.heap.size w w' := by
  have hz := Pl.num_size hn
  go_enter Tryd.func20, Tryd.ntmps20
  go_wp2_with fail
  refine calls_at7 fun u0 hu0 => ?_
  have b0 : Below w.heap.size w u0 := by rw [hu0]; exact (by repeat (first | exact Below.refl _ _ | refine Below.alloc ?_ (by simp <;> omega) _))
  clear hu0
  refine (specDec_num n hn u0).mono ?_
  rintro e u1 ⟨rfl, d1⟩
  have B : Hid (Below w.heap.size w u1) := b0.trans (d1.mono b0.size)
  clear d1 b0
  go_wp2
  go_ret
  exact ⟨rfl, B.out⟩
set_option maxRecDepth 8000 in
set_option maxHeartbeats 2000000 in
theorem lt_16 (op rd r1 r2 im n : Int) (hn : -4611686018427387904 ≤ n ∧ n ≤ 4611686018427387904) (w : World) : Calls Tryd.prog 20 #[.agg #[.int .i64 16, .int .i64 op, .int .i64 rd, .int .i64 r1, .int .i64 r2, .int .i64 im, .string ⟨#[]⟩, .int .i64 n]] w fun e w' => e = .returned (.string ((⟨#[46, 97, 108, 105, 103, 110]⟩ : ByteArray) ++ ⟨#[32]⟩ ++ Pl.num n)) ∧ Below w.heap.size w w' := by
  have hz := Pl.num_size hn
  go_enter Tryd.func20, Tryd.ntmps20
  go_wp2_with fail
  refine calls_at7 fun u0 hu0 => ?_
  have b0 : Below w.heap.size w u0 := by rw [hu0]; exact (by repeat (first | exact Below.refl _ _ | refine Below.alloc ?_ (by simp <;> omega) _))
  clear hu0
  refine (specDec_num n hn u0).mono ?_
  rintro e u1 ⟨rfl, d1⟩
  have B : Hid (Below w.heap.size w u1) := b0.trans (d1.mono b0.size)
  clear d1 b0
  go_wp2
  go_ret
  exact ⟨rfl, B.out⟩
end Go.Proofs.YtgpmplcamdophaaDoor.W
