import Derived.Test.YtjdfffdeljgenaaGreatDoorS23
import Derived.Test.YtjdfffdeljgenaaGreatDoorS12
import Derived.Deep.RegionWith
import Derived.Deep.Cut
import Derived.Deep.DeepCutAuto
set_option linter.unusedVariables false
namespace Go.Proofs.YtjdfffdeljgenaaGreatDoor.Pl
theorem cc_bd : ∀ k : Nat, k < 48 → ∀ i : Nat, i < 4 → 0 ≤ cc k i ∧ cc k i ≤ 127 := by decide +kernel
def cw (k : Nat) : Int := cc k 0 + cc k 1 * 4096 + cc k 2 * 33554432 + cc k 3 * 1048576
def enc (k : Nat) (rd r1 r2 im : Int) : Int := cw k + imw (fmN k) im + rd * 128 + r1 * 32768 + r2 * 1048576
end Go.Proofs.YtjdfffdeljgenaaGreatDoor.Pl
namespace Go.Proofs.YtjdfffdeljgenaaGreatDoor.W
open Go.RowKit
theorem kept_cells {w u : World} {cs : Array Value} {t : TypeId} (hb : Below (w.alloc (.cells cs t)).heap.size (w.alloc (.cells cs t)) u) (i : Nat) : u.cell? ⟨w.heap.size, i, none⟩ = cs[i]? :=
  cell_of_row u _ i cs t (0, 0) (kept_row hb)
set_option maxHeartbeats 1000000 in
theorem implEnc_no (n rd r1 r2 im : Int) (h : iok n rd r1 r2 im = false) (w : World) : Calls Tryz.prog 116 #[.agg #[.int .i64 n, .int .i64 rd, .int .i64 r1, .int .i64 r2, .int .i64 im]] w fun e w' => e = .returned (.tuple #[.int .i64 0, .bool false]) ∧ Below w.heap.size w w' := by
  go_enter Tryz.func116, Tryz.ntmps116
  go_wp2_with (go_at_call 132; refine (implInstOk_any _ _ _ _ _ _).mono ?_; rintro e u1 ⟨rfl, hb1⟩)
  go_ret2
  exact ⟨rfl, ((Below.refl _ _).alloc (Nat.le_refl _) _).trans (hb1.mono (by simp))⟩
set_option maxHeartbeats 2000000 in
theorem implEnc_yes (k f : Nat) (h1 : 1 ≤ k) (h2 : k ≤ 47) (f1 : 1 ≤ f) (f2 : f ≤ 8) (HF : Hid (Pl.fm k = (f : Int))) (rd r1 r2 im : Int) (h : iok k rd r1 r2 im = true) (w : World)
    (d1 : 0 ≤ rd ∧ rd ≤ 31) (d2 : 0 ≤ r1 ∧ r1 ≤ 31) (d3 : 0 ≤ r2 ∧ r2 ≤ 31) (d4 : -1048576 ≤ im ∧ im ≤ 1048575) (d5 : 0 ≤ Pl.imw f im ∧ Pl.imw f im ≤ 8589934592) :
    Calls Tryz.prog 116 #[.agg #[.int .i64 k, .int .i64 rd, .int .i64 r1, .int .i64 r2, .int .i64 im]] w fun e w' => e = .returned (.tuple #[.int .i64 (Pl.cw k + Pl.imw f im + rd * 128 + r1 * 32768 + r2 * 1048576), .bool true]) ∧ Below w.heap.size w w' := by
  have b0 := Pl.cc_bd k (by omega) 0 (by decide)
  have b1 := Pl.cc_bd k (by omega) 1 (by decide)
  have b2 := Pl.cc_bd k (by omega) 2 (by decide)
  have b3 := Pl.cc_bd k (by omega) 3 (by decide)
  go_enter Tryz.func116, Tryz.ntmps116
  go_wp2_with fail
  refine (implInstOk_any _ _ _ _ _ _).mono ?_
  rintro e u1 ⟨rfl, hb1⟩
  have c0 : u1.cell? ⟨w.heap.size, 0, none⟩ = some (.int .i64 k) := kept_cells hb1 0
  have c1 : u1.cell? ⟨w.heap.size, 1, none⟩ = some (.int .i64 rd) := kept_cells hb1 1
  have c2 : u1.cell? ⟨w.heap.size, 2, none⟩ = some (.int .i64 r1) := kept_cells hb1 2
  have c3 : u1.cell? ⟨w.heap.size, 3, none⟩ = some (.int .i64 r2) := kept_cells hb1 3
  have c4 : u1.cell? ⟨w.heap.size, 4, none⟩ = some (.int .i64 im) := kept_cells hb1 4
  have hz : w.heap.size + 1 ≤ u1.heap.size := by have := hb1.size; simpa using this
  have HB : Hid (Below w.heap.size w u1) := ((Below.refl _ _).alloc (Nat.le_refl _) _).trans (hb1.mono (by simp))
  clear hb1
  go_upto_region 4 with (go_at_call 113; refine (rowOf_at k h1 h2 _).mono ?_; rintro e u2 ⟨rfl, rfl⟩; unfold Pl.rowV)
  obtain ⟨U, hU⟩ : ∃ U : World, (((u1.alloc (.cells #[.string (Pl.nm k), .int .i64 (Pl.fm k), .int .u8 (Pl.cc k 0), .int .u8 (Pl.cc k 1), .int .u8 (Pl.cc k 2), .int .u8 (Pl.cc k 3)] 116)).alloc (.cells Pl.instTab 135)).alloc (.cells #[.string (Pl.nm k), .int .i64 (Pl.fm k), .int .u8 (Pl.cc k 0), .int .u8 (Pl.cc k 1), .int .u8 (Pl.cc k 2), .int .u8 (Pl.cc k 3)] 116)) = U := ⟨_, rfl⟩
  obtain ⟨g, hg⟩ : ∃ g : Nat, u1.heap.size + 1 + 1 = g := ⟨_, rfl⟩
  have hbU : Below u1.heap.size u1 U := by rw [← hU]; repeat (first | exact Below.refl _ _ | refine Below.alloc ?_ (by simp <;> omega) _)
  have hsU : U.heap.size = g + 1 := by rw [← hU, ← hg]; simp
  have m1 : U.cell? ⟨w.heap.size, 1, none⟩ = some (.int .i64 rd) := (hbU.cell (p := ⟨w.heap.size, 1, none⟩) hz).trans c1
  have m2 : U.cell? ⟨w.heap.size, 2, none⟩ = some (.int .i64 r1) := (hbU.cell (p := ⟨w.heap.size, 2, none⟩) hz).trans c2
  have m3 : U.cell? ⟨w.heap.size, 3, none⟩ = some (.int .i64 r2) := (hbU.cell (p := ⟨w.heap.size, 3, none⟩) hz).trans c3
  have m4 : U.cell? ⟨w.heap.size, 4, none⟩ = some (.int .i64 im) := (hbU.cell (p := ⟨w.heap.size, 4, none⟩) hz).trans c4
  have hrow : U.heap[g]? = some (.cells #[.string (Pl.nm k), .int .i64 (Pl.fm k), .int .u8 (Pl.cc k 0), .int .u8 (Pl.cc k 1), .int .u8 (Pl.cc k 2), .int .u8 (Pl.cc k 3)] 116) := by rw [← hU]; exact heap_alloc_at _ _ _ (by rw [← hg]; simp)
  have r1' : U.cell? ⟨g, 1, none⟩ = some (.int .i64 (Pl.fm k)) := cell_of_row U g 1 _ 116 (0, 0) hrow
  have r2' : U.cell? ⟨g, 2, none⟩ = some (.int .u8 (Pl.cc k 0)) := cell_of_row U g 2 _ 116 (0, 0) hrow
  have r3' : U.cell? ⟨g, 3, none⟩ = some (.int .u8 (Pl.cc k 1)) := cell_of_row U g 3 _ 116 (0, 0) hrow
  have r4' : U.cell? ⟨g, 4, none⟩ = some (.int .u8 (Pl.cc k 2)) := cell_of_row U g 4 _ 116 (0, 0) hrow
  have r5' : U.cell? ⟨g, 5, none⟩ = some (.int .u8 (Pl.cc k 3)) := cell_of_row U g 5 _ 116 (0, 0) hrow
  have HW : Hid (Below w.heap.size w U) := HB.out.trans (hbU.mono HB.out.size)
  have n0 : ¬ w.heap.size = U.heap.size := by omega
  have n1 : ¬ w.heap.size = U.heap.size + 1 := by omega
  have n2 : ¬ g = U.heap.size := by omega
  have n3 : ¬ g = U.heap.size + 1 := by omega
  have k1 : ∀ o, (U.alloc o).cell? ⟨w.heap.size, 4, none⟩ = some (.int .i64 im) := fun o => (((Below.refl U.heap.size U).alloc (Nat.le_refl _) o).cell (p := ⟨w.heap.size, 4, none⟩) (by show w.heap.size < U.heap.size; omega)).trans m4
  have k2 : ∀ o o', ((U.alloc o).alloc o').cell? ⟨w.heap.size, 4, none⟩ = some (.int .i64 im) := fun o o' => ((((Below.refl U.heap.size U).alloc (Nat.le_refl _) o).alloc (by simp) o').cell (p := ⟨w.heap.size, 4, none⟩) (by show w.heap.size < U.heap.size; omega)).trans m4
  have k3 : ∀ o, (U.alloc o).cell? ⟨g, 1, none⟩ = some (.int .i64 (Pl.fm k)) := fun o => (((Below.refl U.heap.size U).alloc (Nat.le_refl _) o).cell (p := ⟨g, 1, none⟩) (by show g < U.heap.size; omega)).trans r1'
  have HN : Hid (w.heap.size < U.heap.size) := by show w.heap.size < U.heap.size; omega
  rw [hU, hg]
  clear hU hg hbU hrow hz c0 c1 c2 c3 c4 hsU HB
  go_cut [6] from 16 to 25 (fun v6 wx => v6 = .int .i64 (Pl.cw k + Pl.imw f im) ∧ Below U.heap.size U wx)
  case first =>
    go_region_with (first
      | (go_at_call 133; refine (fixedWord_any _ _ _ _ (by omega) (by omega) (by omega) (by omega) _).mono ?_; rintro e v1 ⟨rfl, rfl⟩)
      | (go_at_call 115; refine (ruleOf_any _ f HF.out f1 f2 _).mono ?_; rintro e v2 ⟨rfl, rfl⟩)
      | (go_at_call 134; refine (writeImm_any _ f f1 f2 (by omega) (by omega) _).mono ?_; rintro e v3 ⟨rfl, hb3⟩))
    all_goals
      go_wp2_with fail
      go_meet
      exact ⟨vint (by first | rfl | (unfold Pl.cw; simp only [IntKind.wrap_i64]; omega) | (unfold Pl.cw; omega)), Below.trans (by repeat (first | exact Below.refl _ _ | refine Below.drew ?_ | refine Below.alloc ?_ (by simp <;> omega) _)) (hb3.mono (by simp <;> omega))⟩
  case rest =>
    obtain ⟨rfl, hbx⟩ := hcut
    have e1 : wc.cell? ⟨w.heap.size, 1, none⟩ = some (.int .i64 rd) := (hbx.cell (p := ⟨w.heap.size, 1, none⟩) HN.out).trans m1
    have e2 : wc.cell? ⟨w.heap.size, 2, none⟩ = some (.int .i64 r1) := (hbx.cell (p := ⟨w.heap.size, 2, none⟩) HN.out).trans m2
    have e3 : wc.cell? ⟨w.heap.size, 3, none⟩ = some (.int .i64 r2) := (hbx.cell (p := ⟨w.heap.size, 3, none⟩) HN.out).trans m3
    have HE : Hid (Below w.heap.size w wc) := HW.out.trans (hbx.mono (Nat.le_of_lt HN.out))
    have hcw : 0 ≤ Pl.cw k ∧ Pl.cw k ≤ 8589934592 := by unfold Pl.cw; omega
    clear m1 m2 m3 m4 r1' r2' r3' r4' r5' n0 n1 n2 n3 k1 k2 k3 hbx b0 b1 b2 b3 HN HW
    go_wp2
    go_ret2
    exact ⟨ret2 rfl rfl, HE.out⟩
end Go.Proofs.YtjdfffdeljgenaaGreatDoor.W
