import Derived.Test.YtcgfgmlfbgbkfaaGreatDoorL09
import Derived.Deep.WholeRow
set_option linter.unusedVariables false
set_option linter.unusedSimpArgs false
namespace Go.Proofs.YtcgfgmlfbgbkfaaGreatDoor.Pl
def wrI (k : Nat) (x : IrI) : IrI := match k with
  | 1 => ⟨1, x.d, 0, 0, x.n, ⟨#[]⟩, []⟩
  | 2 => ⟨2, x.d, x.a, 0, 0, ⟨#[]⟩, []⟩
  | 3 => ⟨3, x.d, x.a, x.b, x.n, ⟨#[]⟩, []⟩
  | 4 => ⟨4, x.d, x.a, 0, x.n, ⟨#[]⟩, []⟩
  | 5 => ⟨5, x.d, x.a, 0, x.n, ⟨#[]⟩, []⟩
  | 6 => ⟨6, 0, x.a, x.b, x.n, ⟨#[]⟩, []⟩
  | 7 => ⟨7, x.d, 0, 0, x.n, x.sym, []⟩
  | 8 => ⟨8, x.d, 0, 0, x.n, ⟨#[]⟩, []⟩
  | 9 => ⟨9, x.d, 0, 0, 0, x.sym, x.args⟩
  | 10 => ⟨10, x.d, x.a, 0, 0, ⟨#[]⟩, x.args⟩
  | 11 => ⟨11, 0, 0, 0, x.n, ⟨#[]⟩, []⟩
  | 12 => ⟨12, 0, 0, 0, x.n, ⟨#[]⟩, []⟩
  | 13 => ⟨13, 0, x.a, x.b, x.n, x.sym, []⟩
  | 14 => ⟨14, 0, x.a, 0, 0, ⟨#[]⟩, []⟩
  | 15 => ⟨15, 0, x.a, x.b, x.n, ⟨#[]⟩, []⟩
  | 16 => ⟨16, 0, x.a, 0, x.n, ⟨#[]⟩, []⟩
  | _ => IrI.zero
end Go.Proofs.YtcgfgmlfbgbkfaaGreatDoor.Pl
namespace Go.Proofs.YtcgfgmlfbgbkfaaGreatDoor.W
open Go.RowKit
def Writes (lo : Nat) (x : Pl.IrI) (e : Ending) (w' : World) : Prop := ∃ v : SV, e = .returned (.agg (x.cells v)) ∧ Row .i64 lo w' v.a v.len v.cap x.args
theorem row_nilN (lo : Nat) (w : World) : Row .i64 lo w none 0 0 [] := ⟨rfl, Nat.le_refl _, Nat.zero_le _, fun n hn => (by cases hn), .inl rfl⟩
set_option maxHeartbeats 1000000 in
theorem written_1 (x : Pl.IrI) (w : World) : Calls Tryz.prog 158 #[.agg #[.int .i64 x.d, .int .i64 x.n]] w fun e w' => Writes w.heap.size (Pl.wrI 1 x) e w' ∧ Below w.heap.size w w' := by
  go_enter Tryz.func158, Tryz.ntmps158
  go_wp2
  exact bodyPost_ret (v := .agg #[.int .i64 1, .int .i64 x.d, .int .i64 0, .int .i64 0, .int .i64 x.n, .string ⟨#[]⟩, .slice none 0 0]) (by simp [results, Tryz.results158, go_sem]) rfl ⟨⟨⟨none, 0, 0⟩, rfl, row_nilN _ _⟩, (by repeat (first | exact Below.refl _ _ | refine Below.alloc ?_ (by simp <;> omega) _))⟩
set_option maxHeartbeats 1000000 in
theorem written_2 (x : Pl.IrI) (w : World) : Calls Tryz.prog 164 #[.agg #[.int .i64 x.a, .int .i64 x.d]] w fun e w' => Writes w.heap.size (Pl.wrI 2 x) e w' ∧ Below w.heap.size w w' := by
  go_enter Tryz.func164, Tryz.ntmps164
  go_wp2
  exact bodyPost_ret (v := .agg #[.int .i64 2, .int .i64 x.d, .int .i64 x.a, .int .i64 0, .int .i64 0, .string ⟨#[]⟩, .slice none 0 0]) (by simp [results, Tryz.results164, go_sem]) rfl ⟨⟨⟨none, 0, 0⟩, rfl, row_nilN _ _⟩, (by repeat (first | exact Below.refl _ _ | refine Below.alloc ?_ (by simp <;> omega) _))⟩
set_option maxHeartbeats 1000000 in
theorem written_3 (x : Pl.IrI) (w : World) : Calls Tryz.prog 167 #[.agg #[.int .i64 x.a, .int .i64 x.b, .int .i64 x.d, .int .i64 x.n]] w fun e w' => Writes w.heap.size (Pl.wrI 3 x) e w' ∧ Below w.heap.size w w' := by
  go_enter Tryz.func167, Tryz.ntmps167
  go_wp2
  exact bodyPost_ret (v := .agg #[.int .i64 3, .int .i64 x.d, .int .i64 x.a, .int .i64 x.b, .int .i64 x.n, .string ⟨#[]⟩, .slice none 0 0]) (by simp [results, Tryz.results167, go_sem]) rfl ⟨⟨⟨none, 0, 0⟩, rfl, row_nilN _ _⟩, (by repeat (first | exact Below.refl _ _ | refine Below.alloc ?_ (by simp <;> omega) _))⟩
set_option maxHeartbeats 1000000 in
theorem written_4 (x : Pl.IrI) (w : World) : Calls Tryz.prog 170 #[.agg #[.int .i64 x.a, .int .i64 x.d, .int .i64 x.n]] w fun e w' => Writes w.heap.size (Pl.wrI 4 x) e w' ∧ Below w.heap.size w w' := by
  go_enter Tryz.func170, Tryz.ntmps170
  go_wp2
  exact bodyPost_ret (v := .agg #[.int .i64 4, .int .i64 x.d, .int .i64 x.a, .int .i64 0, .int .i64 x.n, .string ⟨#[]⟩, .slice none 0 0]) (by simp [results, Tryz.results170, go_sem]) rfl ⟨⟨⟨none, 0, 0⟩, rfl, row_nilN _ _⟩, (by repeat (first | exact Below.refl _ _ | refine Below.alloc ?_ (by simp <;> omega) _))⟩
set_option maxHeartbeats 1000000 in
theorem written_5 (x : Pl.IrI) (w : World) : Calls Tryz.prog 173 #[.agg #[.int .i64 x.a, .int .i64 x.d, .int .i64 x.n]] w fun e w' => Writes w.heap.size (Pl.wrI 5 x) e w' ∧ Below w.heap.size w w' := by
  go_enter Tryz.func173, Tryz.ntmps173
  go_wp2
  exact bodyPost_ret (v := .agg #[.int .i64 5, .int .i64 x.d, .int .i64 x.a, .int .i64 0, .int .i64 x.n, .string ⟨#[]⟩, .slice none 0 0]) (by simp [results, Tryz.results173, go_sem]) rfl ⟨⟨⟨none, 0, 0⟩, rfl, row_nilN _ _⟩, (by repeat (first | exact Below.refl _ _ | refine Below.alloc ?_ (by simp <;> omega) _))⟩
set_option maxHeartbeats 1000000 in
theorem written_6 (x : Pl.IrI) (w : World) : Calls Tryz.prog 177 #[.agg #[.int .i64 x.a, .int .i64 x.b, .int .i64 x.n]] w fun e w' => Writes w.heap.size (Pl.wrI 6 x) e w' ∧ Below w.heap.size w w' := by
  go_enter Tryz.func177, Tryz.ntmps177
  go_wp2
  exact bodyPost_ret (v := .agg #[.int .i64 6, .int .i64 0, .int .i64 x.a, .int .i64 x.b, .int .i64 x.n, .string ⟨#[]⟩, .slice none 0 0]) (by simp [results, Tryz.results177, go_sem]) rfl ⟨⟨⟨none, 0, 0⟩, rfl, row_nilN _ _⟩, (by repeat (first | exact Below.refl _ _ | refine Below.alloc ?_ (by simp <;> omega) _))⟩
set_option maxHeartbeats 1000000 in
theorem written_7 (x : Pl.IrI) (w : World) : Calls Tryz.prog 180 #[.agg #[.int .i64 x.d, .string x.sym, .int .i64 x.n]] w fun e w' => Writes w.heap.size (Pl.wrI 7 x) e w' ∧ Below w.heap.size w w' := by
  go_enter Tryz.func180, Tryz.ntmps180
  go_wp2
  exact bodyPost_ret (v := .agg #[.int .i64 7, .int .i64 x.d, .int .i64 0, .int .i64 0, .int .i64 x.n, .string x.sym, .slice none 0 0]) (by simp [results, Tryz.results180, go_sem]) rfl ⟨⟨⟨none, 0, 0⟩, rfl, row_nilN _ _⟩, (by repeat (first | exact Below.refl _ _ | refine Below.alloc ?_ (by simp <;> omega) _))⟩
set_option maxHeartbeats 1000000 in
theorem written_8 (x : Pl.IrI) (w : World) : Calls Tryz.prog 183 #[.agg #[.int .i64 x.d, .int .i64 x.n]] w fun e w' => Writes w.heap.size (Pl.wrI 8 x) e w' ∧ Below w.heap.size w w' := by
  go_enter Tryz.func183, Tryz.ntmps183
  go_wp2
  exact bodyPost_ret (v := .agg #[.int .i64 8, .int .i64 x.d, .int .i64 0, .int .i64 0, .int .i64 x.n, .string ⟨#[]⟩, .slice none 0 0]) (by simp [results, Tryz.results183, go_sem]) rfl ⟨⟨⟨none, 0, 0⟩, rfl, row_nilN _ _⟩, (by repeat (first | exact Below.refl _ _ | refine Below.alloc ?_ (by simp <;> omega) _))⟩
set_option maxHeartbeats 1000000 in
theorem written_11 (x : Pl.IrI) (w : World) : Calls Tryz.prog 197 #[.agg #[.int .i64 x.n]] w fun e w' => Writes w.heap.size (Pl.wrI 11 x) e w' ∧ Below w.heap.size w w' := by
  go_enter Tryz.func197, Tryz.ntmps197
  go_wp2
  exact bodyPost_ret (v := .agg #[.int .i64 11, .int .i64 0, .int .i64 0, .int .i64 0, .int .i64 x.n, .string ⟨#[]⟩, .slice none 0 0]) (by simp [results, Tryz.results197, go_sem]) rfl ⟨⟨⟨none, 0, 0⟩, rfl, row_nilN _ _⟩, (by repeat (first | exact Below.refl _ _ | refine Below.alloc ?_ (by simp <;> omega) _))⟩
set_option maxHeartbeats 1000000 in
theorem written_12 (x : Pl.IrI) (w : World) : Calls Tryz.prog 200 #[.agg #[.int .i64 x.n]] w fun e w' => Writes w.heap.size (Pl.wrI 12 x) e w' ∧ Below w.heap.size w w' := by
  go_enter Tryz.func200, Tryz.ntmps200
  go_wp2
  exact bodyPost_ret (v := .agg #[.int .i64 12, .int .i64 0, .int .i64 0, .int .i64 0, .int .i64 x.n, .string ⟨#[]⟩, .slice none 0 0]) (by simp [results, Tryz.results200, go_sem]) rfl ⟨⟨⟨none, 0, 0⟩, rfl, row_nilN _ _⟩, (by repeat (first | exact Below.refl _ _ | refine Below.alloc ?_ (by simp <;> omega) _))⟩
set_option maxHeartbeats 1000000 in
theorem written_13 (x : Pl.IrI) (w : World) : Calls Tryz.prog 203 #[.agg #[.int .i64 x.a, .int .i64 x.b, .string x.sym, .int .i64 x.n]] w fun e w' => Writes w.heap.size (Pl.wrI 13 x) e w' ∧ Below w.heap.size w w' := by
  go_enter Tryz.func203, Tryz.ntmps203
  go_wp2
  exact bodyPost_ret (v := .agg #[.int .i64 13, .int .i64 0, .int .i64 x.a, .int .i64 x.b, .int .i64 x.n, .string x.sym, .slice none 0 0]) (by simp [results, Tryz.results203, go_sem]) rfl ⟨⟨⟨none, 0, 0⟩, rfl, row_nilN _ _⟩, (by repeat (first | exact Below.refl _ _ | refine Below.alloc ?_ (by simp <;> omega) _))⟩
set_option maxHeartbeats 1000000 in
theorem written_14 (x : Pl.IrI) (w : World) : Calls Tryz.prog 208 #[.agg #[.int .i64 x.a]] w fun e w' => Writes w.heap.size (Pl.wrI 14 x) e w' ∧ Below w.heap.size w w' := by
  go_enter Tryz.func208, Tryz.ntmps208
  go_wp2
  exact bodyPost_ret (v := .agg #[.int .i64 14, .int .i64 0, .int .i64 x.a, .int .i64 0, .int .i64 0, .string ⟨#[]⟩, .slice none 0 0]) (by simp [results, Tryz.results208, go_sem]) rfl ⟨⟨⟨none, 0, 0⟩, rfl, row_nilN _ _⟩, (by repeat (first | exact Below.refl _ _ | refine Below.alloc ?_ (by simp <;> omega) _))⟩
set_option maxHeartbeats 1000000 in
theorem written_15 (x : Pl.IrI) (w : World) : Calls Tryz.prog 211 #[.agg #[.int .i64 x.a, .int .i64 x.b, .int .i64 x.n]] w fun e w' => Writes w.heap.size (Pl.wrI 15 x) e w' ∧ Below w.heap.size w w' := by
  go_enter Tryz.func211, Tryz.ntmps211
  go_wp2
  exact bodyPost_ret (v := .agg #[.int .i64 15, .int .i64 0, .int .i64 x.a, .int .i64 x.b, .int .i64 x.n, .string ⟨#[]⟩, .slice none 0 0]) (by simp [results, Tryz.results211, go_sem]) rfl ⟨⟨⟨none, 0, 0⟩, rfl, row_nilN _ _⟩, (by repeat (first | exact Below.refl _ _ | refine Below.alloc ?_ (by simp <;> omega) _))⟩
set_option maxHeartbeats 1000000 in
theorem written_16 (x : Pl.IrI) (w : World) : Calls Tryz.prog 214 #[.agg #[.int .i64 x.a, .int .i64 x.n]] w fun e w' => Writes w.heap.size (Pl.wrI 16 x) e w' ∧ Below w.heap.size w w' := by
  go_enter Tryz.func214, Tryz.ntmps214
  go_wp2
  exact bodyPost_ret (v := .agg #[.int .i64 16, .int .i64 0, .int .i64 x.a, .int .i64 0, .int .i64 x.n, .string ⟨#[]⟩, .slice none 0 0]) (by simp [results, Tryz.results214, go_sem]) rfl ⟨⟨⟨none, 0, 0⟩, rfl, row_nilN _ _⟩, (by repeat (first | exact Below.refl _ _ | refine Below.alloc ?_ (by simp <;> omega) _))⟩
end Go.Proofs.YtcgfgmlfbgbkfaaGreatDoor.W
