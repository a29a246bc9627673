import Derived.Test.YteadglnenaiaaaaGreatDoorK16
import Derived.Great.Walk
set_option linter.unusedVariables false
set_option linter.unusedSimpArgs false
namespace Go.Proofs.YteadglnenaiaaaaGreatDoor.W
open Go.RowKit
theorem row_nil (lo : Nat) (w : World) : Row .i64 lo w none 0 0 [] := ⟨rfl, Nat.le_refl _, Nat.zero_le _, fun n hn => (by cases hn), .inl rfl⟩
theorem row_lit {lo : Nat} {w : World} {g : Nat} {zs : List Int} {t : TypeId} (hg : w.heap[g]? = some (.cells (zs.map (Value.int .i64)).toArray t)) (hlo : lo ≤ g) (hz : ∀ n ∈ zs, (Lit.int .i64 n).wf = true) (hl : zs.length ≤ maxLen) : Row .i64 lo w (some ⟨g, 0, none⟩) zs.length zs.length zs := by
  refine ⟨rfl, Nat.le_refl _, hl, hz, .inr ⟨g, 0, rfl, hlo, (Array.getElem?_eq_some_iff.1 hg).1, fun i hi => ?_⟩⟩
  rw [Nat.zero_add, cell_of_row w g i _ t (0, 0) hg, List.getElem?_toArray, List.getElem?_map, List.getD_eq_getElem?_getD, List.getElem?_eq_getElem hi]
  rfl
theorem row_above {k : IntKind} {lo lo' : Nat} {w w' : World} {a : Option Addr} {len cap : Nat} {zs : List Int} (h : Row k lo w a len cap zs) (hb : ∀ b, lo ≤ b → b < w.heap.size → w'.heap[b]? = w.heap[b]?) (hs : w.heap.size ≤ w'.heap.size) (hl : lo' ≤ lo) : Row k lo' w' a len cap zs := by
  obtain ⟨h1, h2, h3, h4, h5⟩ := h
  refine ⟨h1, h2, h3, h4, ?_⟩
  rcases h5 with h5 | ⟨b, off, rfl, hlo, hlt, hc⟩
  · exact .inl h5
  · exact .inr ⟨b, off, rfl, Nat.le_trans hl hlo, Nat.lt_of_lt_of_le hlt hs, fun i hi => (World.cell?_of_block (w := w) (a := ⟨b, off + i, none⟩) (hb b hlo hlt)).trans (hc i hi)⟩
theorem below_setRowX {B : Nat} {a b : World} (h : Below B a b) {g : Nat} (hp : B ≤ g) (cs : Array Value) : Below B a (b.setRow g cs) :=
  ⟨h.os, h.tape, h.output, by simpa using h.size, fun k hk => (setRow_other b g k cs (by omega)).trans (h.block k hk)⟩
def RlIs (r : Pl.Rl) (w : World) (e : Ending) (w' : World) : Prop := ∃ v : SV, e = .returned (.agg #[.int .i64 r.srt, .int .i64 r.word, .int .i64 r.lowM, .int .i64 r.highM, .int .i64 r.lowN, .int .i64 r.highN, .slice v.a v.len v.cap, .int .i64 r.more, .int .i64 r.most]) ∧ Row .i64 w.heap.size w' v.a v.len v.cap r.kids ∧ Below w.heap.size w w'
set_option maxHeartbeats 1000000 in
theorem ruleOfType_1 (w : World) : Calls Tryz.prog 48 #[.int .i64 1] w fun e w' => RlIs (Pl.Rl.mk 1 0 0 0 1 7 [] 0 0) w e w' := by
  go_enter Tryz.func48, Tryz.ntmps48
  go_wp2
  refine bodyPost_ret (v := .agg #[.int .i64 1, .int .i64 0, .int .i64 0, .int .i64 0, .int .i64 1, .int .i64 7, .slice none 0 0, .int .i64 0, .int .i64 0]) (by simp [results, Tryz.results48, go_sem]) rfl ?_
  exact ⟨⟨none, 0, 0⟩, rfl, row_nil _ _, (by repeat (first | exact Below.refl _ _ | refine Below.alloc ?_ (by simp <;> omega) _))⟩
set_option maxHeartbeats 1000000 in
theorem ruleOfType_2 (w : World) : Calls Tryz.prog 48 #[.int .i64 2] w fun e w' => RlIs (Pl.Rl.mk 1 0 0 0 0 0 [1] 0 0) w e w' := by
  go_enter Tryz.func48, Tryz.ntmps48
  go_wp2
  refine bodyPost_ret (v := .agg #[.int .i64 1, .int .i64 0, .int .i64 0, .int .i64 0, .int .i64 0, .int .i64 0, .slice (some ⟨w.heap.size + 1, 0, none⟩) 1 1, .int .i64 0, .int .i64 0]) (by simp [results, Tryz.results48, go_sem]) rfl ?_
  refine ⟨⟨some ⟨w.heap.size + 1, 0, none⟩, 1, 1⟩, rfl, row_lit (zs := [1]) (t := 67) ?_ (by omega) (by decide) (by unfold maxLen; decide), (by repeat (first | exact Below.refl _ _ | refine Below.alloc ?_ (by simp <;> omega) _))⟩
  have := heap_alloc_new (w.alloc (.cells #[.int .i64 1, .int .i64 0, .int .i64 0, .int .i64 0, .int .i64 0, .int .i64 0, .slice (some ⟨w.heap.size + 1, 0, none⟩) 1 1, .int .i64 0, .int .i64 0] 71)) (.cells #[.int .i64 1] 67)
  simpa using this
set_option maxHeartbeats 1000000 in
theorem ruleOfType_3 (w : World) : Calls Tryz.prog 48 #[.int .i64 3] w fun e w' => RlIs (Pl.Rl.mk 1 0 0 0 0 0 [1] 128 1) w e w' := by
  go_enter Tryz.func48, Tryz.ntmps48
  go_wp2
  refine bodyPost_ret (v := .agg #[.int .i64 1, .int .i64 0, .int .i64 0, .int .i64 0, .int .i64 0, .int .i64 0, .slice (some ⟨w.heap.size + 1, 0, none⟩) 1 1, .int .i64 128, .int .i64 1]) (by simp [results, Tryz.results48, go_sem]) rfl ?_
  refine ⟨⟨some ⟨w.heap.size + 1, 0, none⟩, 1, 1⟩, rfl, row_lit (zs := [1]) (t := 67) ?_ (by omega) (by decide) (by unfold maxLen; decide), (by repeat (first | exact Below.refl _ _ | refine Below.alloc ?_ (by simp <;> omega) _))⟩
  have := heap_alloc_new (w.alloc (.cells #[.int .i64 1, .int .i64 0, .int .i64 0, .int .i64 0, .int .i64 0, .int .i64 0, .slice (some ⟨w.heap.size + 1, 0, none⟩) 1 1, .int .i64 128, .int .i64 1] 71)) (.cells #[.int .i64 1] 67)
  simpa using this
set_option maxHeartbeats 1000000 in
theorem ruleOfType_4 (w : World) : Calls Tryz.prog 48 #[.int .i64 4] w fun e w' => RlIs (Pl.Rl.mk 3 0 0 0 0 0 [1] 4 4000) w e w' := by
  go_enter Tryz.func48, Tryz.ntmps48
  go_wp2
  refine bodyPost_ret (v := .agg #[.int .i64 3, .int .i64 0, .int .i64 0, .int .i64 0, .int .i64 0, .int .i64 0, .slice (some ⟨w.heap.size + 1, 0, none⟩) 1 1, .int .i64 4, .int .i64 4000]) (by simp [results, Tryz.results48, go_sem]) rfl ?_
  refine ⟨⟨some ⟨w.heap.size + 1, 0, none⟩, 1, 1⟩, rfl, row_lit (zs := [1]) (t := 67) ?_ (by omega) (by decide) (by unfold maxLen; decide), (by repeat (first | exact Below.refl _ _ | refine Below.alloc ?_ (by simp <;> omega) _))⟩
  have := heap_alloc_new (w.alloc (.cells #[.int .i64 3, .int .i64 0, .int .i64 0, .int .i64 0, .int .i64 0, .int .i64 0, .slice (some ⟨w.heap.size + 1, 0, none⟩) 1 1, .int .i64 4, .int .i64 4000] 71)) (.cells #[.int .i64 1] 67)
  simpa using this
set_option maxHeartbeats 1000000 in
theorem ruleOfType_5 (w : World) : Calls Tryz.prog 48 #[.int .i64 5] w fun e w' => RlIs (Pl.Rl.mk 1 1 1 3 0 0 [] 0 0) w e w' := by
  go_enter Tryz.func48, Tryz.ntmps48
  go_wp2
  refine bodyPost_ret (v := .agg #[.int .i64 1, .int .i64 1, .int .i64 1, .int .i64 3, .int .i64 0, .int .i64 0, .slice none 0 0, .int .i64 0, .int .i64 0]) (by simp [results, Tryz.results48, go_sem]) rfl ?_
  exact ⟨⟨none, 0, 0⟩, rfl, row_nil _ _, (by repeat (first | exact Below.refl _ _ | refine Below.alloc ?_ (by simp <;> omega) _))⟩
set_option maxHeartbeats 1000000 in
theorem ruleOfType_6 (w : World) : Calls Tryz.prog 48 #[.int .i64 6] w fun e w' => RlIs (Pl.Rl.mk 1 4 0 0 0 0 [] 0 0) w e w' := by
  go_enter Tryz.func48, Tryz.ntmps48
  go_wp2
  refine bodyPost_ret (v := .agg #[.int .i64 1, .int .i64 4, .int .i64 0, .int .i64 0, .int .i64 0, .int .i64 0, .slice none 0 0, .int .i64 0, .int .i64 0]) (by simp [results, Tryz.results48, go_sem]) rfl ?_
  exact ⟨⟨none, 0, 0⟩, rfl, row_nil _ _, (by repeat (first | exact Below.refl _ _ | refine Below.alloc ?_ (by simp <;> omega) _))⟩
set_option maxHeartbeats 4000000 in
theorem ruleOfType_no (k : Int) (h1 : ¬ k = 1) (h2 : ¬ k = 2) (h3 : ¬ k = 3) (h4 : ¬ k = 4) (h5 : ¬ k = 5) (h6 : ¬ k = 6) (w : World) : Calls Tryz.prog 48 #[.int .i64 k] w fun e w' => RlIs Pl.Rl.zero w e w' := by
  go_enter Tryz.func48, Tryz.ntmps48
  go_wp2
  refine bodyPost_ret (v := .agg #[.int .i64 0, .int .i64 0, .int .i64 0, .int .i64 0, .int .i64 0, .int .i64 0, .slice none 0 0, .int .i64 0, .int .i64 0]) (by simp [results, Tryz.results48, go_sem]) rfl ?_
  exact ⟨⟨none, 0, 0⟩, rfl, row_nil _ _, (by repeat (first | exact Below.refl _ _ | refine Below.alloc ?_ (by simp <;> omega) _))⟩
set_option maxHeartbeats 1000000 in
theorem ruleOfDeclaration_7 (w : World) : Calls Tryz.prog 49 #[.int .i64 7] w fun e w' => RlIs (Pl.Rl.mk 4 3 0 0 0 0 [1] 0 0) w e w' := by
  go_enter Tryz.func49, Tryz.ntmps49
  go_wp2
  refine bodyPost_ret (v := .agg #[.int .i64 4, .int .i64 3, .int .i64 0, .int .i64 0, .int .i64 0, .int .i64 0, .slice (some ⟨w.heap.size + 1, 0, none⟩) 1 1, .int .i64 0, .int .i64 0]) (by simp [results, Tryz.results49, go_sem]) rfl ?_
  refine ⟨⟨some ⟨w.heap.size + 1, 0, none⟩, 1, 1⟩, rfl, row_lit (zs := [1]) (t := 67) ?_ (by omega) (by decide) (by unfold maxLen; decide), (by repeat (first | exact Below.refl _ _ | refine Below.alloc ?_ (by simp <;> omega) _))⟩
  have := heap_alloc_new (w.alloc (.cells #[.int .i64 4, .int .i64 3, .int .i64 0, .int .i64 0, .int .i64 0, .int .i64 0, .slice (some ⟨w.heap.size + 1, 0, none⟩) 1 1, .int .i64 0, .int .i64 0] 71)) (.cells #[.int .i64 1] 67)
  simpa using this
set_option maxHeartbeats 1000000 in
theorem ruleOfDeclaration_8 (w : World) : Calls Tryz.prog 49 #[.int .i64 8] w fun e w' => RlIs (Pl.Rl.mk 8 2 0 0 0 0 [1] 0 0) w e w' := by
  go_enter Tryz.func49, Tryz.ntmps49
  go_wp2
  refine bodyPost_ret (v := .agg #[.int .i64 8, .int .i64 2, .int .i64 0, .int .i64 0, .int .i64 0, .int .i64 0, .slice (some ⟨w.heap.size + 1, 0, none⟩) 1 1, .int .i64 0, .int .i64 0]) (by simp [results, Tryz.results49, go_sem]) rfl ?_
  refine ⟨⟨some ⟨w.heap.size + 1, 0, none⟩, 1, 1⟩, rfl, row_lit (zs := [1]) (t := 67) ?_ (by omega) (by decide) (by unfold maxLen; decide), (by repeat (first | exact Below.refl _ _ | refine Below.alloc ?_ (by simp <;> omega) _))⟩
  have := heap_alloc_new (w.alloc (.cells #[.int .i64 8, .int .i64 2, .int .i64 0, .int .i64 0, .int .i64 0, .int .i64 0, .slice (some ⟨w.heap.size + 1, 0, none⟩) 1 1, .int .i64 0, .int .i64 0] 71)) (.cells #[.int .i64 1] 67)
  simpa using this
set_option maxHeartbeats 1000000 in
theorem ruleOfDeclaration_9 (w : World) : Calls Tryz.prog 49 #[.int .i64 9] w fun e w' => RlIs (Pl.Rl.mk 16 2 0 0 0 0 [] 128 1) w e w' := by
  go_enter Tryz.func49, Tryz.ntmps49
  go_wp2
  refine bodyPost_ret (v := .agg #[.int .i64 16, .int .i64 2, .int .i64 0, .int .i64 0, .int .i64 0, .int .i64 0, .slice none 0 0, .int .i64 128, .int .i64 1]) (by simp [results, Tryz.results49, go_sem]) rfl ?_
  exact ⟨⟨none, 0, 0⟩, rfl, row_nil _ _, (by repeat (first | exact Below.refl _ _ | refine Below.alloc ?_ (by simp <;> omega) _))⟩
set_option maxHeartbeats 1000000 in
theorem ruleOfDeclaration_10 (w : World) : Calls Tryz.prog 49 #[.int .i64 10] w fun e w' => RlIs (Pl.Rl.mk 32 1 1 2 0 0 [8] 8 4000) w e w' := by
  go_enter Tryz.func49, Tryz.ntmps49
  go_wp2
  refine bodyPost_ret (v := .agg #[.int .i64 32, .int .i64 1, .int .i64 1, .int .i64 2, .int .i64 0, .int .i64 0, .slice (some ⟨w.heap.size + 1, 0, none⟩) 1 1, .int .i64 8, .int .i64 4000]) (by simp [results, Tryz.results49, go_sem]) rfl ?_
  refine ⟨⟨some ⟨w.heap.size + 1, 0, none⟩, 1, 1⟩, rfl, row_lit (zs := [8]) (t := 67) ?_ (by omega) (by decide) (by unfold maxLen; decide), (by repeat (first | exact Below.refl _ _ | refine Below.alloc ?_ (by simp <;> omega) _))⟩
  have := heap_alloc_new (w.alloc (.cells #[.int .i64 32, .int .i64 1, .int .i64 1, .int .i64 2, .int .i64 0, .int .i64 0, .slice (some ⟨w.heap.size + 1, 0, none⟩) 1 1, .int .i64 8, .int .i64 4000] 71)) (.cells #[.int .i64 8] 67)
  simpa using this
set_option maxHeartbeats 1000000 in
theorem ruleOfDeclaration_11 (w : World) : Calls Tryz.prog 49 #[.int .i64 11] w fun e w' => RlIs (Pl.Rl.mk 32 1 0 0 0 0 [16] 16 4000) w e w' := by
  go_enter Tryz.func49, Tryz.ntmps49
  go_wp2
  refine bodyPost_ret (v := .agg #[.int .i64 32, .int .i64 1, .int .i64 0, .int .i64 0, .int .i64 0, .int .i64 0, .slice (some ⟨w.heap.size + 1, 0, none⟩) 1 1, .int .i64 16, .int .i64 4000]) (by simp [results, Tryz.results49, go_sem]) rfl ?_
  refine ⟨⟨some ⟨w.heap.size + 1, 0, none⟩, 1, 1⟩, rfl, row_lit (zs := [16]) (t := 67) ?_ (by omega) (by decide) (by unfold maxLen; decide), (by repeat (first | exact Below.refl _ _ | refine Below.alloc ?_ (by simp <;> omega) _))⟩
  have := heap_alloc_new (w.alloc (.cells #[.int .i64 32, .int .i64 1, .int .i64 0, .int .i64 0, .int .i64 0, .int .i64 0, .slice (some ⟨w.heap.size + 1, 0, none⟩) 1 1, .int .i64 16, .int .i64 4000] 71)) (.cells #[.int .i64 16] 67)
  simpa using this
set_option maxHeartbeats 1000000 in
theorem ruleOfDeclaration_12 (w : World) : Calls Tryz.prog 49 #[.int .i64 12] w fun e w' => RlIs (Pl.Rl.mk 32 2 0 0 0 0 [1] 0 0) w e w' := by
  go_enter Tryz.func49, Tryz.ntmps49
  go_wp2
  refine bodyPost_ret (v := .agg #[.int .i64 32, .int .i64 2, .int .i64 0, .int .i64 0, .int .i64 0, .int .i64 0, .slice (some ⟨w.heap.size + 1, 0, none⟩) 1 1, .int .i64 0, .int .i64 0]) (by simp [results, Tryz.results49, go_sem]) rfl ?_
  refine ⟨⟨some ⟨w.heap.size + 1, 0, none⟩, 1, 1⟩, rfl, row_lit (zs := [1]) (t := 67) ?_ (by omega) (by decide) (by unfold maxLen; decide), (by repeat (first | exact Below.refl _ _ | refine Below.alloc ?_ (by simp <;> omega) _))⟩
  have := heap_alloc_new (w.alloc (.cells #[.int .i64 32, .int .i64 2, .int .i64 0, .int .i64 0, .int .i64 0, .int .i64 0, .slice (some ⟨w.heap.size + 1, 0, none⟩) 1 1, .int .i64 0, .int .i64 0] 71)) (.cells #[.int .i64 1] 67)
  simpa using this
set_option maxHeartbeats 1000000 in
theorem ruleOfDeclaration_13 (w : World) : Calls Tryz.prog 49 #[.int .i64 13] w fun e w' => RlIs (Pl.Rl.mk 2592 2 0 0 0 0 [1] 64 1) w e w' := by
  go_enter Tryz.func49, Tryz.ntmps49
  go_wp2
  refine bodyPost_ret (v := .agg #[.int .i64 2592, .int .i64 2, .int .i64 0, .int .i64 0, .int .i64 0, .int .i64 0, .slice (some ⟨w.heap.size + 1, 0, none⟩) 1 1, .int .i64 64, .int .i64 1]) (by simp [results, Tryz.results49, go_sem]) rfl ?_
  refine ⟨⟨some ⟨w.heap.size + 1, 0, none⟩, 1, 1⟩, rfl, row_lit (zs := [1]) (t := 67) ?_ (by omega) (by decide) (by unfold maxLen; decide), (by repeat (first | exact Below.refl _ _ | refine Below.alloc ?_ (by simp <;> omega) _))⟩
  have := heap_alloc_new (w.alloc (.cells #[.int .i64 2592, .int .i64 2, .int .i64 0, .int .i64 0, .int .i64 0, .int .i64 0, .slice (some ⟨w.heap.size + 1, 0, none⟩) 1 1, .int .i64 64, .int .i64 1] 71)) (.cells #[.int .i64 1] 67)
  simpa using this
set_option maxHeartbeats 1000000 in
theorem ruleOfDeclaration_14 (w : World) : Calls Tryz.prog 49 #[.int .i64 14] w fun e w' => RlIs (Pl.Rl.mk 32 2 0 0 0 0 [2, 1024] 0 0) w e w' := by
  go_enter Tryz.func49, Tryz.ntmps49
  go_wp2
  refine bodyPost_ret (v := .agg #[.int .i64 32, .int .i64 2, .int .i64 0, .int .i64 0, .int .i64 0, .int .i64 0, .slice (some ⟨w.heap.size + 1, 0, none⟩) 2 2, .int .i64 0, .int .i64 0]) (by simp [results, Tryz.results49, go_sem]) rfl ?_
  refine ⟨⟨some ⟨w.heap.size + 1, 0, none⟩, 2, 2⟩, rfl, row_lit (zs := [2, 1024]) (t := 67) ?_ (by omega) (by decide) (by unfold maxLen; decide), (by repeat (first | exact Below.refl _ _ | refine Below.alloc ?_ (by simp <;> omega) _))⟩
  have := heap_alloc_new (w.alloc (.cells #[.int .i64 32, .int .i64 2, .int .i64 0, .int .i64 0, .int .i64 0, .int .i64 0, .slice (some ⟨w.heap.size + 1, 0, none⟩) 2 2, .int .i64 0, .int .i64 0] 71)) (.cells #[.int .i64 2, .int .i64 1024] 67)
  simpa using this
set_option maxHeartbeats 1000000 in
theorem ruleOfDeclaration_15 (w : World) : Calls Tryz.prog 49 #[.int .i64 15] w fun e w' => RlIs (Pl.Rl.mk 0 0 0 0 0 0 [] 32 4000) w e w' := by
  go_enter Tryz.func49, Tryz.ntmps49
  go_wp2
  refine bodyPost_ret (v := .agg #[.int .i64 0, .int .i64 0, .int .i64 0, .int .i64 0, .int .i64 0, .int .i64 0, .slice none 0 0, .int .i64 32, .int .i64 4000]) (by simp [results, Tryz.results49, go_sem]) rfl ?_
  exact ⟨⟨none, 0, 0⟩, rfl, row_nil _ _, (by repeat (first | exact Below.refl _ _ | refine Below.alloc ?_ (by simp <;> omega) _))⟩
set_option maxHeartbeats 1000000 in
theorem ruleOfDeclaration_16 (w : World) : Calls Tryz.prog 49 #[.int .i64 16] w fun e w' => RlIs (Pl.Rl.mk 64 0 0 0 0 0 [64] 64 4000) w e w' := by
  go_enter Tryz.func49, Tryz.ntmps49
  go_wp2
  refine bodyPost_ret (v := .agg #[.int .i64 64, .int .i64 0, .int .i64 0, .int .i64 0, .int .i64 0, .int .i64 0, .slice (some ⟨w.heap.size + 1, 0, none⟩) 1 1, .int .i64 64, .int .i64 4000]) (by simp [results, Tryz.results49, go_sem]) rfl ?_
  refine ⟨⟨some ⟨w.heap.size + 1, 0, none⟩, 1, 1⟩, rfl, row_lit (zs := [64]) (t := 67) ?_ (by omega) (by decide) (by unfold maxLen; decide), (by repeat (first | exact Below.refl _ _ | refine Below.alloc ?_ (by simp <;> omega) _))⟩
  have := heap_alloc_new (w.alloc (.cells #[.int .i64 64, .int .i64 0, .int .i64 0, .int .i64 0, .int .i64 0, .int .i64 0, .slice (some ⟨w.heap.size + 1, 0, none⟩) 1 1, .int .i64 64, .int .i64 4000] 71)) (.cells #[.int .i64 64] 67)
  simpa using this
set_option maxHeartbeats 4000000 in
theorem ruleOfDeclaration_no (k : Int) (h7 : ¬ k = 7) (h8 : ¬ k = 8) (h9 : ¬ k = 9) (h10 : ¬ k = 10) (h11 : ¬ k = 11) (h12 : ¬ k = 12) (h13 : ¬ k = 13) (h14 : ¬ k = 14) (h15 : ¬ k = 15) (h16 : ¬ k = 16) (w : World) : Calls Tryz.prog 49 #[.int .i64 k] w fun e w' => RlIs Pl.Rl.zero w e w' := by
  go_enter Tryz.func49, Tryz.ntmps49
  go_wp2
  refine bodyPost_ret (v := .agg #[.int .i64 0, .int .i64 0, .int .i64 0, .int .i64 0, .int .i64 0, .int .i64 0, .slice none 0 0, .int .i64 0, .int .i64 0]) (by simp [results, Tryz.results49, go_sem]) rfl ?_
  exact ⟨⟨none, 0, 0⟩, rfl, row_nil _ _, (by repeat (first | exact Below.refl _ _ | refine Below.alloc ?_ (by simp <;> omega) _))⟩
set_option maxHeartbeats 1000000 in
theorem ruleOfStmt_17 (w : World) : Calls Tryz.prog 50 #[.int .i64 17] w fun e w' => RlIs (Pl.Rl.mk 1792 0 0 0 0 0 [] 512 4000) w e w' := by
  go_enter Tryz.func50, Tryz.ntmps50
  go_wp2
  refine bodyPost_ret (v := .agg #[.int .i64 1792, .int .i64 0, .int .i64 0, .int .i64 0, .int .i64 0, .int .i64 0, .slice none 0 0, .int .i64 512, .int .i64 4000]) (by simp [results, Tryz.results50, go_sem]) rfl ?_
  exact ⟨⟨none, 0, 0⟩, rfl, row_nil _ _, (by repeat (first | exact Below.refl _ _ | refine Below.alloc ?_ (by simp <;> omega) _))⟩
set_option maxHeartbeats 1000000 in
theorem ruleOfStmt_19 (w : World) : Calls Tryz.prog 50 #[.int .i64 19] w fun e w' => RlIs (Pl.Rl.mk 6912 0 0 0 0 0 [128] 0 0) w e w' := by
  go_enter Tryz.func50, Tryz.ntmps50
  go_wp2
  refine bodyPost_ret (v := .agg #[.int .i64 6912, .int .i64 0, .int .i64 0, .int .i64 0, .int .i64 0, .int .i64 0, .slice (some ⟨w.heap.size + 1, 0, none⟩) 1 1, .int .i64 0, .int .i64 0]) (by simp [results, Tryz.results50, go_sem]) rfl ?_
  refine ⟨⟨some ⟨w.heap.size + 1, 0, none⟩, 1, 1⟩, rfl, row_lit (zs := [128]) (t := 67) ?_ (by omega) (by decide) (by unfold maxLen; decide), (by repeat (first | exact Below.refl _ _ | refine Below.alloc ?_ (by simp <;> omega) _))⟩
  have := heap_alloc_new (w.alloc (.cells #[.int .i64 6912, .int .i64 0, .int .i64 0, .int .i64 0, .int .i64 0, .int .i64 0, .slice (some ⟨w.heap.size + 1, 0, none⟩) 1 1, .int .i64 0, .int .i64 0] 71)) (.cells #[.int .i64 128] 67)
  simpa using this
set_option maxHeartbeats 1000000 in
theorem ruleOfStmt_20 (w : World) : Calls Tryz.prog 50 #[.int .i64 20] w fun e w' => RlIs (Pl.Rl.mk 6912 0 0 0 0 0 [] 0 0) w e w' := by
  go_enter Tryz.func50, Tryz.ntmps50
  go_wp2
  refine bodyPost_ret (v := .agg #[.int .i64 6912, .int .i64 0, .int .i64 0, .int .i64 0, .int .i64 0, .int .i64 0, .slice none 0 0, .int .i64 0, .int .i64 0]) (by simp [results, Tryz.results50, go_sem]) rfl ?_
  exact ⟨⟨none, 0, 0⟩, rfl, row_nil _ _, (by repeat (first | exact Below.refl _ _ | refine Below.alloc ?_ (by simp <;> omega) _))⟩
set_option maxHeartbeats 1000000 in
theorem ruleOfStmt_21 (w : World) : Calls Tryz.prog 50 #[.int .i64 21] w fun e w' => RlIs (Pl.Rl.mk 768 0 0 0 0 0 [128, 256] 256 1) w e w' := by
  go_enter Tryz.func50, Tryz.ntmps50
  go_wp2
  refine bodyPost_ret (v := .agg #[.int .i64 768, .int .i64 0, .int .i64 0, .int .i64 0, .int .i64 0, .int .i64 0, .slice (some ⟨w.heap.size + 1, 0, none⟩) 2 2, .int .i64 256, .int .i64 1]) (by simp [results, Tryz.results50, go_sem]) rfl ?_
  refine ⟨⟨some ⟨w.heap.size + 1, 0, none⟩, 2, 2⟩, rfl, row_lit (zs := [128, 256]) (t := 67) ?_ (by omega) (by decide) (by unfold maxLen; decide), (by repeat (first | exact Below.refl _ _ | refine Below.alloc ?_ (by simp <;> omega) _))⟩
  have := heap_alloc_new (w.alloc (.cells #[.int .i64 768, .int .i64 0, .int .i64 0, .int .i64 0, .int .i64 0, .int .i64 0, .slice (some ⟨w.heap.size + 1, 0, none⟩) 2 2, .int .i64 256, .int .i64 1] 71)) (.cells #[.int .i64 128, .int .i64 256] 67)
  simpa using this
set_option maxHeartbeats 1000000 in
theorem ruleOfStmt_22 (w : World) : Calls Tryz.prog 50 #[.int .i64 22] w fun e w' => RlIs (Pl.Rl.mk 768 0 0 0 0 0 [128, 256] 0 0) w e w' := by
  go_enter Tryz.func50, Tryz.ntmps50
  go_wp2
  refine bodyPost_ret (v := .agg #[.int .i64 768, .int .i64 0, .int .i64 0, .int .i64 0, .int .i64 0, .int .i64 0, .slice (some ⟨w.heap.size + 1, 0, none⟩) 2 2, .int .i64 0, .int .i64 0]) (by simp [results, Tryz.results50, go_sem]) rfl ?_
  refine ⟨⟨some ⟨w.heap.size + 1, 0, none⟩, 2, 2⟩, rfl, row_lit (zs := [128, 256]) (t := 67) ?_ (by omega) (by decide) (by unfold maxLen; decide), (by repeat (first | exact Below.refl _ _ | refine Below.alloc ?_ (by simp <;> omega) _))⟩
  have := heap_alloc_new (w.alloc (.cells #[.int .i64 768, .int .i64 0, .int .i64 0, .int .i64 0, .int .i64 0, .int .i64 0, .slice (some ⟨w.heap.size + 1, 0, none⟩) 2 2, .int .i64 0, .int .i64 0] 71)) (.cells #[.int .i64 128, .int .i64 256] 67)
  simpa using this
set_option maxHeartbeats 1000000 in
theorem ruleOfStmt_23 (w : World) : Calls Tryz.prog 50 #[.int .i64 23] w fun e w' => RlIs (Pl.Rl.mk 768 0 0 0 0 0 [256, 128] 0 0) w e w' := by
  go_enter Tryz.func50, Tryz.ntmps50
  go_wp2
  refine bodyPost_ret (v := .agg #[.int .i64 768, .int .i64 0, .int .i64 0, .int .i64 0, .int .i64 0, .int .i64 0, .slice (some ⟨w.heap.size + 1, 0, none⟩) 2 2, .int .i64 0, .int .i64 0]) (by simp [results, Tryz.results50, go_sem]) rfl ?_
  refine ⟨⟨some ⟨w.heap.size + 1, 0, none⟩, 2, 2⟩, rfl, row_lit (zs := [256, 128]) (t := 67) ?_ (by omega) (by decide) (by unfold maxLen; decide), (by repeat (first | exact Below.refl _ _ | refine Below.alloc ?_ (by simp <;> omega) _))⟩
  have := heap_alloc_new (w.alloc (.cells #[.int .i64 768, .int .i64 0, .int .i64 0, .int .i64 0, .int .i64 0, .int .i64 0, .slice (some ⟨w.heap.size + 1, 0, none⟩) 2 2, .int .i64 0, .int .i64 0] 71)) (.cells #[.int .i64 256, .int .i64 128] 67)
  simpa using this
set_option maxHeartbeats 1000000 in
theorem ruleOfStmt_24 (w : World) : Calls Tryz.prog 50 #[.int .i64 24] w fun e w' => RlIs (Pl.Rl.mk 768 0 0 0 0 0 [2048, 4096, 4096, 256] 0 0) w e w' := by
  go_enter Tryz.func50, Tryz.ntmps50
  go_wp2
  refine bodyPost_ret (v := .agg #[.int .i64 768, .int .i64 0, .int .i64 0, .int .i64 0, .int .i64 0, .int .i64 0, .slice (some ⟨w.heap.size + 1, 0, none⟩) 4 4, .int .i64 0, .int .i64 0]) (by simp [results, Tryz.results50, go_sem]) rfl ?_
  refine ⟨⟨some ⟨w.heap.size + 1, 0, none⟩, 4, 4⟩, rfl, row_lit (zs := [2048, 4096, 4096, 256]) (t := 67) ?_ (by omega) (by decide) (by unfold maxLen; decide), (by repeat (first | exact Below.refl _ _ | refine Below.alloc ?_ (by simp <;> omega) _))⟩
  have := heap_alloc_new (w.alloc (.cells #[.int .i64 768, .int .i64 0, .int .i64 0, .int .i64 0, .int .i64 0, .int .i64 0, .slice (some ⟨w.heap.size + 1, 0, none⟩) 4 4, .int .i64 0, .int .i64 0] 71)) (.cells #[.int .i64 2048, .int .i64 4096, .int .i64 4096, .int .i64 256] 67)
  simpa using this
set_option maxHeartbeats 1000000 in
theorem ruleOfStmt_25 (w : World) : Calls Tryz.prog 50 #[.int .i64 25] w fun e w' => RlIs (Pl.Rl.mk 768 0 0 0 0 0 [128, 256] 0 0) w e w' := by
  go_enter Tryz.func50, Tryz.ntmps50
  go_wp2
  refine bodyPost_ret (v := .agg #[.int .i64 768, .int .i64 0, .int .i64 0, .int .i64 0, .int .i64 0, .int .i64 0, .slice (some ⟨w.heap.size + 1, 0, none⟩) 2 2, .int .i64 0, .int .i64 0]) (by simp [results, Tryz.results50, go_sem]) rfl ?_
  refine ⟨⟨some ⟨w.heap.size + 1, 0, none⟩, 2, 2⟩, rfl, row_lit (zs := [128, 256]) (t := 67) ?_ (by omega) (by decide) (by unfold maxLen; decide), (by repeat (first | exact Below.refl _ _ | refine Below.alloc ?_ (by simp <;> omega) _))⟩
  have := heap_alloc_new (w.alloc (.cells #[.int .i64 768, .int .i64 0, .int .i64 0, .int .i64 0, .int .i64 0, .int .i64 0, .slice (some ⟨w.heap.size + 1, 0, none⟩) 2 2, .int .i64 0, .int .i64 0] 71)) (.cells #[.int .i64 128, .int .i64 256] 67)
  simpa using this
set_option maxHeartbeats 1000000 in
theorem ruleOfStmt_26 (w : World) : Calls Tryz.prog 50 #[.int .i64 26] w fun e w' => RlIs (Pl.Rl.mk 768 0 0 0 0 0 [128, 256] 0 0) w e w' := by
  go_enter Tryz.func50, Tryz.ntmps50
  go_wp2
  refine bodyPost_ret (v := .agg #[.int .i64 768, .int .i64 0, .int .i64 0, .int .i64 0, .int .i64 0, .int .i64 0, .slice (some ⟨w.heap.size + 1, 0, none⟩) 2 2, .int .i64 0, .int .i64 0]) (by simp [results, Tryz.results50, go_sem]) rfl ?_
  refine ⟨⟨some ⟨w.heap.size + 1, 0, none⟩, 2, 2⟩, rfl, row_lit (zs := [128, 256]) (t := 67) ?_ (by omega) (by decide) (by unfold maxLen; decide), (by repeat (first | exact Below.refl _ _ | refine Below.alloc ?_ (by simp <;> omega) _))⟩
  have := heap_alloc_new (w.alloc (.cells #[.int .i64 768, .int .i64 0, .int .i64 0, .int .i64 0, .int .i64 0, .int .i64 0, .slice (some ⟨w.heap.size + 1, 0, none⟩) 2 2, .int .i64 0, .int .i64 0] 71)) (.cells #[.int .i64 128, .int .i64 256] 67)
  simpa using this
set_option maxHeartbeats 1000000 in
theorem ruleOfStmt_27 (w : World) : Calls Tryz.prog 50 #[.int .i64 27] w fun e w' => RlIs (Pl.Rl.mk 768 0 0 0 0 0 [256] 0 0) w e w' := by
  go_enter Tryz.func50, Tryz.ntmps50
  go_wp2
  refine bodyPost_ret (v := .agg #[.int .i64 768, .int .i64 0, .int .i64 0, .int .i64 0, .int .i64 0, .int .i64 0, .slice (some ⟨w.heap.size + 1, 0, none⟩) 1 1, .int .i64 0, .int .i64 0]) (by simp [results, Tryz.results50, go_sem]) rfl ?_
  refine ⟨⟨some ⟨w.heap.size + 1, 0, none⟩, 1, 1⟩, rfl, row_lit (zs := [256]) (t := 67) ?_ (by omega) (by decide) (by unfold maxLen; decide), (by repeat (first | exact Below.refl _ _ | refine Below.alloc ?_ (by simp <;> omega) _))⟩
  have := heap_alloc_new (w.alloc (.cells #[.int .i64 768, .int .i64 0, .int .i64 0, .int .i64 0, .int .i64 0, .int .i64 0, .slice (some ⟨w.heap.size + 1, 0, none⟩) 1 1, .int .i64 0, .int .i64 0] 71)) (.cells #[.int .i64 256] 67)
  simpa using this
set_option maxHeartbeats 1000000 in
theorem ruleOfStmt_28 (w : World) : Calls Tryz.prog 50 #[.int .i64 28] w fun e w' => RlIs (Pl.Rl.mk 768 2 0 0 0 0 [256] 0 0) w e w' := by
  go_enter Tryz.func50, Tryz.ntmps50
  go_wp2
  refine bodyPost_ret (v := .agg #[.int .i64 768, .int .i64 2, .int .i64 0, .int .i64 0, .int .i64 0, .int .i64 0, .slice (some ⟨w.heap.size + 1, 0, none⟩) 1 1, .int .i64 0, .int .i64 0]) (by simp [results, Tryz.results50, go_sem]) rfl ?_
  refine ⟨⟨some ⟨w.heap.size + 1, 0, none⟩, 1, 1⟩, rfl, row_lit (zs := [256]) (t := 67) ?_ (by omega) (by decide) (by unfold maxLen; decide), (by repeat (first | exact Below.refl _ _ | refine Below.alloc ?_ (by simp <;> omega) _))⟩
  have := heap_alloc_new (w.alloc (.cells #[.int .i64 768, .int .i64 2, .int .i64 0, .int .i64 0, .int .i64 0, .int .i64 0, .slice (some ⟨w.heap.size + 1, 0, none⟩) 1 1, .int .i64 0, .int .i64 0] 71)) (.cells #[.int .i64 256] 67)
  simpa using this
set_option maxHeartbeats 1000000 in
theorem ruleOfStmt_29 (w : World) : Calls Tryz.prog 50 #[.int .i64 29] w fun e w' => RlIs (Pl.Rl.mk 768 2 0 0 0 0 [] 0 0) w e w' := by
  go_enter Tryz.func50, Tryz.ntmps50
  go_wp2
  refine bodyPost_ret (v := .agg #[.int .i64 768, .int .i64 2, .int .i64 0, .int .i64 0, .int .i64 0, .int .i64 0, .slice none 0 0, .int .i64 0, .int .i64 0]) (by simp [results, Tryz.results50, go_sem]) rfl ?_
  exact ⟨⟨none, 0, 0⟩, rfl, row_nil _ _, (by repeat (first | exact Below.refl _ _ | refine Below.alloc ?_ (by simp <;> omega) _))⟩
set_option maxHeartbeats 1000000 in
theorem ruleOfStmt_30 (w : World) : Calls Tryz.prog 50 #[.int .i64 30] w fun e w' => RlIs (Pl.Rl.mk 768 0 0 0 0 0 [] 0 0) w e w' := by
  go_enter Tryz.func50, Tryz.ntmps50
  go_wp2
  refine bodyPost_ret (v := .agg #[.int .i64 768, .int .i64 0, .int .i64 0, .int .i64 0, .int .i64 0, .int .i64 0, .slice none 0 0, .int .i64 0, .int .i64 0]) (by simp [results, Tryz.results50, go_sem]) rfl ?_
  exact ⟨⟨none, 0, 0⟩, rfl, row_nil _ _, (by repeat (first | exact Below.refl _ _ | refine Below.alloc ?_ (by simp <;> omega) _))⟩
set_option maxHeartbeats 1000000 in
theorem ruleOfStmt_31 (w : World) : Calls Tryz.prog 50 #[.int .i64 31] w fun e w' => RlIs (Pl.Rl.mk 768 0 0 0 0 0 [] 0 0) w e w' := by
  go_enter Tryz.func50, Tryz.ntmps50
  go_wp2
  refine bodyPost_ret (v := .agg #[.int .i64 768, .int .i64 0, .int .i64 0, .int .i64 0, .int .i64 0, .int .i64 0, .slice none 0 0, .int .i64 0, .int .i64 0]) (by simp [results, Tryz.results50, go_sem]) rfl ?_
  exact ⟨⟨none, 0, 0⟩, rfl, row_nil _ _, (by repeat (first | exact Below.refl _ _ | refine Below.alloc ?_ (by simp <;> omega) _))⟩
set_option maxHeartbeats 1000000 in
theorem ruleOfStmt_32 (w : World) : Calls Tryz.prog 50 #[.int .i64 32] w fun e w' => RlIs (Pl.Rl.mk 768 0 0 0 0 0 [] 128 1) w e w' := by
  go_enter Tryz.func50, Tryz.ntmps50
  go_wp2
  refine bodyPost_ret (v := .agg #[.int .i64 768, .int .i64 0, .int .i64 0, .int .i64 0, .int .i64 0, .int .i64 0, .slice none 0 0, .int .i64 128, .int .i64 1]) (by simp [results, Tryz.results50, go_sem]) rfl ?_
  exact ⟨⟨none, 0, 0⟩, rfl, row_nil _ _, (by repeat (first | exact Below.refl _ _ | refine Below.alloc ?_ (by simp <;> omega) _))⟩
set_option maxHeartbeats 4000000 in
theorem ruleOfStmt_no (k : Int) (h17 : ¬ k = 17) (h19 : ¬ k = 19) (h20 : ¬ k = 20) (h21 : ¬ k = 21) (h22 : ¬ k = 22) (h23 : ¬ k = 23) (h24 : ¬ k = 24) (h25 : ¬ k = 25) (h26 : ¬ k = 26) (h27 : ¬ k = 27) (h28 : ¬ k = 28) (h29 : ¬ k = 29) (h30 : ¬ k = 30) (h31 : ¬ k = 31) (h32 : ¬ k = 32) (w : World) : Calls Tryz.prog 50 #[.int .i64 k] w fun e w' => RlIs Pl.Rl.zero w e w' := by
  go_enter Tryz.func50, Tryz.ntmps50
  go_wp2
  refine bodyPost_ret (v := .agg #[.int .i64 0, .int .i64 0, .int .i64 0, .int .i64 0, .int .i64 0, .int .i64 0, .slice none 0 0, .int .i64 0, .int .i64 0]) (by simp [results, Tryz.results50, go_sem]) rfl ?_
  exact ⟨⟨none, 0, 0⟩, rfl, row_nil _ _, (by repeat (first | exact Below.refl _ _ | refine Below.alloc ?_ (by simp <;> omega) _))⟩
set_option maxHeartbeats 1000000 in
theorem ruleOfExpr_33 (w : World) : Calls Tryz.prog 51 #[.int .i64 33] w fun e w' => RlIs (Pl.Rl.mk 192 5 0 0 0 4294967295 [] 0 0) w e w' := by
  go_enter Tryz.func51, Tryz.ntmps51
  go_wp2
  refine bodyPost_ret (v := .agg #[.int .i64 192, .int .i64 5, .int .i64 0, .int .i64 0, .int .i64 0, .int .i64 4294967295, .slice none 0 0, .int .i64 0, .int .i64 0]) (by simp [results, Tryz.results51, go_sem]) rfl ?_
  exact ⟨⟨none, 0, 0⟩, rfl, row_nil _ _, (by repeat (first | exact Below.refl _ _ | refine Below.alloc ?_ (by simp <;> omega) _))⟩
set_option maxHeartbeats 1000000 in
theorem ruleOfExpr_34 (w : World) : Calls Tryz.prog 51 #[.int .i64 34] w fun e w' => RlIs (Pl.Rl.mk 192 5 0 0 0 0 [] 0 0) w e w' := by
  go_enter Tryz.func51, Tryz.ntmps51
  go_wp2
  refine bodyPost_ret (v := .agg #[.int .i64 192, .int .i64 5, .int .i64 0, .int .i64 0, .int .i64 0, .int .i64 0, .slice none 0 0, .int .i64 0, .int .i64 0]) (by simp [results, Tryz.results51, go_sem]) rfl ?_
  exact ⟨⟨none, 0, 0⟩, rfl, row_nil _ _, (by repeat (first | exact Below.refl _ _ | refine Below.alloc ?_ (by simp <;> omega) _))⟩
set_option maxHeartbeats 1000000 in
theorem ruleOfExpr_35 (w : World) : Calls Tryz.prog 51 #[.int .i64 35] w fun e w' => RlIs (Pl.Rl.mk 192 2 0 0 0 0 [] 0 0) w e w' := by
  go_enter Tryz.func51, Tryz.ntmps51
  go_wp2
  refine bodyPost_ret (v := .agg #[.int .i64 192, .int .i64 2, .int .i64 0, .int .i64 0, .int .i64 0, .int .i64 0, .slice none 0 0, .int .i64 0, .int .i64 0]) (by simp [results, Tryz.results51, go_sem]) rfl ?_
  exact ⟨⟨none, 0, 0⟩, rfl, row_nil _ _, (by repeat (first | exact Below.refl _ _ | refine Below.alloc ?_ (by simp <;> omega) _))⟩
set_option maxHeartbeats 1000000 in
theorem ruleOfExpr_36 (w : World) : Calls Tryz.prog 51 #[.int .i64 36] w fun e w' => RlIs (Pl.Rl.mk 192 0 0 0 0 0 [128, 128] 0 0) w e w' := by
  go_enter Tryz.func51, Tryz.ntmps51
  go_wp2
  refine bodyPost_ret (v := .agg #[.int .i64 192, .int .i64 0, .int .i64 0, .int .i64 0, .int .i64 0, .int .i64 0, .slice (some ⟨w.heap.size + 1, 0, none⟩) 2 2, .int .i64 0, .int .i64 0]) (by simp [results, Tryz.results51, go_sem]) rfl ?_
  refine ⟨⟨some ⟨w.heap.size + 1, 0, none⟩, 2, 2⟩, rfl, row_lit (zs := [128, 128]) (t := 67) ?_ (by omega) (by decide) (by unfold maxLen; decide), (by repeat (first | exact Below.refl _ _ | refine Below.alloc ?_ (by simp <;> omega) _))⟩
  have := heap_alloc_new (w.alloc (.cells #[.int .i64 192, .int .i64 0, .int .i64 0, .int .i64 0, .int .i64 0, .int .i64 0, .slice (some ⟨w.heap.size + 1, 0, none⟩) 2 2, .int .i64 0, .int .i64 0] 71)) (.cells #[.int .i64 128, .int .i64 128] 67)
  simpa using this
set_option maxHeartbeats 1000000 in
theorem ruleOfExpr_37 (w : World) : Calls Tryz.prog 51 #[.int .i64 37] w fun e w' => RlIs (Pl.Rl.mk 192 0 0 0 0 0 [128] 128 4000) w e w' := by
  go_enter Tryz.func51, Tryz.ntmps51
  go_wp2
  refine bodyPost_ret (v := .agg #[.int .i64 192, .int .i64 0, .int .i64 0, .int .i64 0, .int .i64 0, .int .i64 0, .slice (some ⟨w.heap.size + 1, 0, none⟩) 1 1, .int .i64 128, .int .i64 4000]) (by simp [results, Tryz.results51, go_sem]) rfl ?_
  refine ⟨⟨some ⟨w.heap.size + 1, 0, none⟩, 1, 1⟩, rfl, row_lit (zs := [128]) (t := 67) ?_ (by omega) (by decide) (by unfold maxLen; decide), (by repeat (first | exact Below.refl _ _ | refine Below.alloc ?_ (by simp <;> omega) _))⟩
  have := heap_alloc_new (w.alloc (.cells #[.int .i64 192, .int .i64 0, .int .i64 0, .int .i64 0, .int .i64 0, .int .i64 0, .slice (some ⟨w.heap.size + 1, 0, none⟩) 1 1, .int .i64 128, .int .i64 4000] 71)) (.cells #[.int .i64 128] 67)
  simpa using this
set_option maxHeartbeats 1000000 in
theorem ruleOfExpr_38 (w : World) : Calls Tryz.prog 51 #[.int .i64 38] w fun e w' => RlIs (Pl.Rl.mk 192 1 0 0 0 0 [128] 0 0) w e w' := by
  go_enter Tryz.func51, Tryz.ntmps51
  go_wp2
  refine bodyPost_ret (v := .agg #[.int .i64 192, .int .i64 1, .int .i64 0, .int .i64 0, .int .i64 0, .int .i64 0, .slice (some ⟨w.heap.size + 1, 0, none⟩) 1 1, .int .i64 0, .int .i64 0]) (by simp [results, Tryz.results51, go_sem]) rfl ?_
  refine ⟨⟨some ⟨w.heap.size + 1, 0, none⟩, 1, 1⟩, rfl, row_lit (zs := [128]) (t := 67) ?_ (by omega) (by decide) (by unfold maxLen; decide), (by repeat (first | exact Below.refl _ _ | refine Below.alloc ?_ (by simp <;> omega) _))⟩
  have := heap_alloc_new (w.alloc (.cells #[.int .i64 192, .int .i64 1, .int .i64 0, .int .i64 0, .int .i64 0, .int .i64 0, .slice (some ⟨w.heap.size + 1, 0, none⟩) 1 1, .int .i64 0, .int .i64 0] 71)) (.cells #[.int .i64 128] 67)
  simpa using this
set_option maxHeartbeats 1000000 in
theorem ruleOfExpr_39 (w : World) : Calls Tryz.prog 51 #[.int .i64 39] w fun e w' => RlIs (Pl.Rl.mk 192 1 0 0 0 0 [128] 0 0) w e w' := by
  go_enter Tryz.func51, Tryz.ntmps51
  go_wp2
  refine bodyPost_ret (v := .agg #[.int .i64 192, .int .i64 1, .int .i64 0, .int .i64 0, .int .i64 0, .int .i64 0, .slice (some ⟨w.heap.size + 1, 0, none⟩) 1 1, .int .i64 0, .int .i64 0]) (by simp [results, Tryz.results51, go_sem]) rfl ?_
  refine ⟨⟨some ⟨w.heap.size + 1, 0, none⟩, 1, 1⟩, rfl, row_lit (zs := [128]) (t := 67) ?_ (by omega) (by decide) (by unfold maxLen; decide), (by repeat (first | exact Below.refl _ _ | refine Below.alloc ?_ (by simp <;> omega) _))⟩
  have := heap_alloc_new (w.alloc (.cells #[.int .i64 192, .int .i64 1, .int .i64 0, .int .i64 0, .int .i64 0, .int .i64 0, .slice (some ⟨w.heap.size + 1, 0, none⟩) 1 1, .int .i64 0, .int .i64 0] 71)) (.cells #[.int .i64 128] 67)
  simpa using this
set_option maxHeartbeats 1000000 in
theorem ruleOfExpr_40 (w : World) : Calls Tryz.prog 51 #[.int .i64 40] w fun e w' => RlIs (Pl.Rl.mk 192 0 1 2 0 0 [128] 0 0) w e w' := by
  go_enter Tryz.func51, Tryz.ntmps51
  go_wp2
  refine bodyPost_ret (v := .agg #[.int .i64 192, .int .i64 0, .int .i64 1, .int .i64 2, .int .i64 0, .int .i64 0, .slice (some ⟨w.heap.size + 1, 0, none⟩) 1 1, .int .i64 0, .int .i64 0]) (by simp [results, Tryz.results51, go_sem]) rfl ?_
  refine ⟨⟨some ⟨w.heap.size + 1, 0, none⟩, 1, 1⟩, rfl, row_lit (zs := [128]) (t := 67) ?_ (by omega) (by decide) (by unfold maxLen; decide), (by repeat (first | exact Below.refl _ _ | refine Below.alloc ?_ (by simp <;> omega) _))⟩
  have := heap_alloc_new (w.alloc (.cells #[.int .i64 192, .int .i64 0, .int .i64 1, .int .i64 2, .int .i64 0, .int .i64 0, .slice (some ⟨w.heap.size + 1, 0, none⟩) 1 1, .int .i64 0, .int .i64 0] 71)) (.cells #[.int .i64 128] 67)
  simpa using this
set_option maxHeartbeats 1000000 in
theorem ruleOfExpr_41 (w : World) : Calls Tryz.prog 51 #[.int .i64 41] w fun e w' => RlIs (Pl.Rl.mk 192 0 1 2 0 0 [128] 0 0) w e w' := by
  go_enter Tryz.func51, Tryz.ntmps51
  go_wp2
  refine bodyPost_ret (v := .agg #[.int .i64 192, .int .i64 0, .int .i64 1, .int .i64 2, .int .i64 0, .int .i64 0, .slice (some ⟨w.heap.size + 1, 0, none⟩) 1 1, .int .i64 0, .int .i64 0]) (by simp [results, Tryz.results51, go_sem]) rfl ?_
  refine ⟨⟨some ⟨w.heap.size + 1, 0, none⟩, 1, 1⟩, rfl, row_lit (zs := [128]) (t := 67) ?_ (by omega) (by decide) (by unfold maxLen; decide), (by repeat (first | exact Below.refl _ _ | refine Below.alloc ?_ (by simp <;> omega) _))⟩
  have := heap_alloc_new (w.alloc (.cells #[.int .i64 192, .int .i64 0, .int .i64 1, .int .i64 2, .int .i64 0, .int .i64 0, .slice (some ⟨w.heap.size + 1, 0, none⟩) 1 1, .int .i64 0, .int .i64 0] 71)) (.cells #[.int .i64 128] 67)
  simpa using this
set_option maxHeartbeats 1000000 in
theorem ruleOfExpr_42 (w : World) : Calls Tryz.prog 51 #[.int .i64 42] w fun e w' => RlIs (Pl.Rl.mk 192 0 1 6 0 0 [128] 0 0) w e w' := by
  go_enter Tryz.func51, Tryz.ntmps51
  go_wp2
  refine bodyPost_ret (v := .agg #[.int .i64 192, .int .i64 0, .int .i64 1, .int .i64 6, .int .i64 0, .int .i64 0, .slice (some ⟨w.heap.size + 1, 0, none⟩) 1 1, .int .i64 0, .int .i64 0]) (by simp [results, Tryz.results51, go_sem]) rfl ?_
  refine ⟨⟨some ⟨w.heap.size + 1, 0, none⟩, 1, 1⟩, rfl, row_lit (zs := [128]) (t := 67) ?_ (by omega) (by decide) (by unfold maxLen; decide), (by repeat (first | exact Below.refl _ _ | refine Below.alloc ?_ (by simp <;> omega) _))⟩
  have := heap_alloc_new (w.alloc (.cells #[.int .i64 192, .int .i64 0, .int .i64 1, .int .i64 6, .int .i64 0, .int .i64 0, .slice (some ⟨w.heap.size + 1, 0, none⟩) 1 1, .int .i64 0, .int .i64 0] 71)) (.cells #[.int .i64 128] 67)
  simpa using this
set_option maxHeartbeats 1000000 in
theorem ruleOfExpr_43 (w : World) : Calls Tryz.prog 51 #[.int .i64 43] w fun e w' => RlIs (Pl.Rl.mk 192 0 0 0 0 0 [128] 0 0) w e w' := by
  go_enter Tryz.func51, Tryz.ntmps51
  go_wp2
  refine bodyPost_ret (v := .agg #[.int .i64 192, .int .i64 0, .int .i64 0, .int .i64 0, .int .i64 0, .int .i64 0, .slice (some ⟨w.heap.size + 1, 0, none⟩) 1 1, .int .i64 0, .int .i64 0]) (by simp [results, Tryz.results51, go_sem]) rfl ?_
  refine ⟨⟨some ⟨w.heap.size + 1, 0, none⟩, 1, 1⟩, rfl, row_lit (zs := [128]) (t := 67) ?_ (by omega) (by decide) (by unfold maxLen; decide), (by repeat (first | exact Below.refl _ _ | refine Below.alloc ?_ (by simp <;> omega) _))⟩
  have := heap_alloc_new (w.alloc (.cells #[.int .i64 192, .int .i64 0, .int .i64 0, .int .i64 0, .int .i64 0, .int .i64 0, .slice (some ⟨w.heap.size + 1, 0, none⟩) 1 1, .int .i64 0, .int .i64 0] 71)) (.cells #[.int .i64 128] 67)
  simpa using this
set_option maxHeartbeats 1000000 in
theorem ruleOfExpr_44 (w : World) : Calls Tryz.prog 51 #[.int .i64 44] w fun e w' => RlIs (Pl.Rl.mk 192 0 0 0 0 0 [1] 0 0) w e w' := by
  go_enter Tryz.func51, Tryz.ntmps51
  go_wp2
  refine bodyPost_ret (v := .agg #[.int .i64 192, .int .i64 0, .int .i64 0, .int .i64 0, .int .i64 0, .int .i64 0, .slice (some ⟨w.heap.size + 1, 0, none⟩) 1 1, .int .i64 0, .int .i64 0]) (by simp [results, Tryz.results51, go_sem]) rfl ?_
  refine ⟨⟨some ⟨w.heap.size + 1, 0, none⟩, 1, 1⟩, rfl, row_lit (zs := [1]) (t := 67) ?_ (by omega) (by decide) (by unfold maxLen; decide), (by repeat (first | exact Below.refl _ _ | refine Below.alloc ?_ (by simp <;> omega) _))⟩
  have := heap_alloc_new (w.alloc (.cells #[.int .i64 192, .int .i64 0, .int .i64 0, .int .i64 0, .int .i64 0, .int .i64 0, .slice (some ⟨w.heap.size + 1, 0, none⟩) 1 1, .int .i64 0, .int .i64 0] 71)) (.cells #[.int .i64 1] 67)
  simpa using this
set_option maxHeartbeats 1000000 in
theorem ruleOfExpr_45 (w : World) : Calls Tryz.prog 51 #[.int .i64 45] w fun e w' => RlIs (Pl.Rl.mk 192 0 0 0 0 0 [1, 128] 0 0) w e w' := by
  go_enter Tryz.func51, Tryz.ntmps51
  go_wp2
  refine bodyPost_ret (v := .agg #[.int .i64 192, .int .i64 0, .int .i64 0, .int .i64 0, .int .i64 0, .int .i64 0, .slice (some ⟨w.heap.size + 1, 0, none⟩) 2 2, .int .i64 0, .int .i64 0]) (by simp [results, Tryz.results51, go_sem]) rfl ?_
  refine ⟨⟨some ⟨w.heap.size + 1, 0, none⟩, 2, 2⟩, rfl, row_lit (zs := [1, 128]) (t := 67) ?_ (by omega) (by decide) (by unfold maxLen; decide), (by repeat (first | exact Below.refl _ _ | refine Below.alloc ?_ (by simp <;> omega) _))⟩
  have := heap_alloc_new (w.alloc (.cells #[.int .i64 192, .int .i64 0, .int .i64 0, .int .i64 0, .int .i64 0, .int .i64 0, .slice (some ⟨w.heap.size + 1, 0, none⟩) 2 2, .int .i64 0, .int .i64 0] 71)) (.cells #[.int .i64 1, .int .i64 128] 67)
  simpa using this
set_option maxHeartbeats 1000000 in
theorem ruleOfExpr_46 (w : World) : Calls Tryz.prog 51 #[.int .i64 46] w fun e w' => RlIs (Pl.Rl.mk 192 0 1 18 0 0 [128, 128] 0 0) w e w' := by
  go_enter Tryz.func51, Tryz.ntmps51
  go_wp2
  refine bodyPost_ret (v := .agg #[.int .i64 192, .int .i64 0, .int .i64 1, .int .i64 18, .int .i64 0, .int .i64 0, .slice (some ⟨w.heap.size + 1, 0, none⟩) 2 2, .int .i64 0, .int .i64 0]) (by simp [results, Tryz.results51, go_sem]) rfl ?_
  refine ⟨⟨some ⟨w.heap.size + 1, 0, none⟩, 2, 2⟩, rfl, row_lit (zs := [128, 128]) (t := 67) ?_ (by omega) (by decide) (by unfold maxLen; decide), (by repeat (first | exact Below.refl _ _ | refine Below.alloc ?_ (by simp <;> omega) _))⟩
  have := heap_alloc_new (w.alloc (.cells #[.int .i64 192, .int .i64 0, .int .i64 1, .int .i64 18, .int .i64 0, .int .i64 0, .slice (some ⟨w.heap.size + 1, 0, none⟩) 2 2, .int .i64 0, .int .i64 0] 71)) (.cells #[.int .i64 128, .int .i64 128] 67)
  simpa using this
set_option maxHeartbeats 1000000 in
theorem ruleOfExpr_47 (w : World) : Calls Tryz.prog 51 #[.int .i64 47] w fun e w' => RlIs (Pl.Rl.mk 192 0 0 0 0 0 [128, 128, 128] 0 0) w e w' := by
  go_enter Tryz.func51, Tryz.ntmps51
  go_wp2
  refine bodyPost_ret (v := .agg #[.int .i64 192, .int .i64 0, .int .i64 0, .int .i64 0, .int .i64 0, .int .i64 0, .slice (some ⟨w.heap.size + 1, 0, none⟩) 3 3, .int .i64 0, .int .i64 0]) (by simp [results, Tryz.results51, go_sem]) rfl ?_
  refine ⟨⟨some ⟨w.heap.size + 1, 0, none⟩, 3, 3⟩, rfl, row_lit (zs := [128, 128, 128]) (t := 67) ?_ (by omega) (by decide) (by unfold maxLen; decide), (by repeat (first | exact Below.refl _ _ | refine Below.alloc ?_ (by simp <;> omega) _))⟩
  have := heap_alloc_new (w.alloc (.cells #[.int .i64 192, .int .i64 0, .int .i64 0, .int .i64 0, .int .i64 0, .int .i64 0, .slice (some ⟨w.heap.size + 1, 0, none⟩) 3 3, .int .i64 0, .int .i64 0] 71)) (.cells #[.int .i64 128, .int .i64 128, .int .i64 128] 67)
  simpa using this
set_option maxHeartbeats 1000000 in
theorem ruleOfExpr_48 (w : World) : Calls Tryz.prog 51 #[.int .i64 48] w fun e w' => RlIs (Pl.Rl.mk 192 0 0 16 0 0 [128, 128] 0 0) w e w' := by
  go_enter Tryz.func51, Tryz.ntmps51
  go_wp2
  refine bodyPost_ret (v := .agg #[.int .i64 192, .int .i64 0, .int .i64 0, .int .i64 16, .int .i64 0, .int .i64 0, .slice (some ⟨w.heap.size + 1, 0, none⟩) 2 2, .int .i64 0, .int .i64 0]) (by simp [results, Tryz.results51, go_sem]) rfl ?_
  refine ⟨⟨some ⟨w.heap.size + 1, 0, none⟩, 2, 2⟩, rfl, row_lit (zs := [128, 128]) (t := 67) ?_ (by omega) (by decide) (by unfold maxLen; decide), (by repeat (first | exact Below.refl _ _ | refine Below.alloc ?_ (by simp <;> omega) _))⟩
  have := heap_alloc_new (w.alloc (.cells #[.int .i64 192, .int .i64 0, .int .i64 0, .int .i64 16, .int .i64 0, .int .i64 0, .slice (some ⟨w.heap.size + 1, 0, none⟩) 2 2, .int .i64 0, .int .i64 0] 71)) (.cells #[.int .i64 128, .int .i64 128] 67)
  simpa using this
set_option maxHeartbeats 1000000 in
theorem ruleOfExpr_49 (w : World) : Calls Tryz.prog 51 #[.int .i64 49] w fun e w' => RlIs (Pl.Rl.mk 192 0 0 0 0 0 [128, 128] 0 0) w e w' := by
  go_enter Tryz.func51, Tryz.ntmps51
  go_wp2
  refine bodyPost_ret (v := .agg #[.int .i64 192, .int .i64 0, .int .i64 0, .int .i64 0, .int .i64 0, .int .i64 0, .slice (some ⟨w.heap.size + 1, 0, none⟩) 2 2, .int .i64 0, .int .i64 0]) (by simp [results, Tryz.results51, go_sem]) rfl ?_
  refine ⟨⟨some ⟨w.heap.size + 1, 0, none⟩, 2, 2⟩, rfl, row_lit (zs := [128, 128]) (t := 67) ?_ (by omega) (by decide) (by unfold maxLen; decide), (by repeat (first | exact Below.refl _ _ | refine Below.alloc ?_ (by simp <;> omega) _))⟩
  have := heap_alloc_new (w.alloc (.cells #[.int .i64 192, .int .i64 0, .int .i64 0, .int .i64 0, .int .i64 0, .int .i64 0, .slice (some ⟨w.heap.size + 1, 0, none⟩) 2 2, .int .i64 0, .int .i64 0] 71)) (.cells #[.int .i64 128, .int .i64 128] 67)
  simpa using this
set_option maxHeartbeats 4000000 in
theorem ruleOfExpr_no (k : Int) (h33 : ¬ k = 33) (h34 : ¬ k = 34) (h35 : ¬ k = 35) (h36 : ¬ k = 36) (h37 : ¬ k = 37) (h38 : ¬ k = 38) (h39 : ¬ k = 39) (h40 : ¬ k = 40) (h41 : ¬ k = 41) (h42 : ¬ k = 42) (h43 : ¬ k = 43) (h44 : ¬ k = 44) (h45 : ¬ k = 45) (h46 : ¬ k = 46) (h47 : ¬ k = 47) (h48 : ¬ k = 48) (h49 : ¬ k = 49) (w : World) : Calls Tryz.prog 51 #[.int .i64 k] w fun e w' => RlIs Pl.Rl.zero w e w' := by
  go_enter Tryz.func51, Tryz.ntmps51
  go_wp2
  refine bodyPost_ret (v := .agg #[.int .i64 0, .int .i64 0, .int .i64 0, .int .i64 0, .int .i64 0, .int .i64 0, .slice none 0 0, .int .i64 0, .int .i64 0]) (by simp [results, Tryz.results51, go_sem]) rfl ?_
  exact ⟨⟨none, 0, 0⟩, rfl, row_nil _ _, (by repeat (first | exact Below.refl _ _ | refine Below.alloc ?_ (by simp <;> omega) _))⟩
theorem ruleOfType_is (k : Int) (h : k ≤ 6) (w : World) : Calls Tryz.prog 48 #[.int .i64 k] w fun e w' => RlIs (Pl.rl k) w e w' := by
  by_cases h1 : k = 1
  · subst h1; exact ruleOfType_1 w
  by_cases h2 : k = 2
  · subst h2; exact ruleOfType_2 w
  by_cases h3 : k = 3
  · subst h3; exact ruleOfType_3 w
  by_cases h4 : k = 4
  · subst h4; exact ruleOfType_4 w
  by_cases h5 : k = 5
  · subst h5; exact ruleOfType_5 w
  by_cases h6 : k = 6
  · subst h6; exact ruleOfType_6 w
  have e : Pl.rl k = Pl.Rl.zero := by
    by_cases q : k < 0 ∨ 49 < k
    · exact Pl.rl_out q
    · obtain rfl : k = 0 := by omega
      rfl
  rw [e]
  exact ruleOfType_no k h1 h2 h3 h4 h5 h6 w
theorem ruleOfDeclaration_is (k : Int) (h : 7 ≤ k ∧ k ≤ 16) (w : World) : Calls Tryz.prog 49 #[.int .i64 k] w fun e w' => RlIs (Pl.rl k) w e w' := by
  by_cases h7 : k = 7
  · subst h7; exact ruleOfDeclaration_7 w
  by_cases h8 : k = 8
  · subst h8; exact ruleOfDeclaration_8 w
  by_cases h9 : k = 9
  · subst h9; exact ruleOfDeclaration_9 w
  by_cases h10 : k = 10
  · subst h10; exact ruleOfDeclaration_10 w
  by_cases h11 : k = 11
  · subst h11; exact ruleOfDeclaration_11 w
  by_cases h12 : k = 12
  · subst h12; exact ruleOfDeclaration_12 w
  by_cases h13 : k = 13
  · subst h13; exact ruleOfDeclaration_13 w
  by_cases h14 : k = 14
  · subst h14; exact ruleOfDeclaration_14 w
  by_cases h15 : k = 15
  · subst h15; exact ruleOfDeclaration_15 w
  by_cases h16 : k = 16
  · subst h16; exact ruleOfDeclaration_16 w
  have e : Pl.rl k = Pl.Rl.zero := by
    by_cases q : k < 0 ∨ 49 < k
    · exact Pl.rl_out q
    · exfalso; omega
  rw [e]
  exact ruleOfDeclaration_no k h7 h8 h9 h10 h11 h12 h13 h14 h15 h16 w
theorem ruleOfStmt_is (k : Int) (h : 17 ≤ k ∧ k ≤ 32) (w : World) : Calls Tryz.prog 50 #[.int .i64 k] w fun e w' => RlIs (Pl.rl k) w e w' := by
  by_cases h17 : k = 17
  · subst h17; exact ruleOfStmt_17 w
  by_cases h19 : k = 19
  · subst h19; exact ruleOfStmt_19 w
  by_cases h20 : k = 20
  · subst h20; exact ruleOfStmt_20 w
  by_cases h21 : k = 21
  · subst h21; exact ruleOfStmt_21 w
  by_cases h22 : k = 22
  · subst h22; exact ruleOfStmt_22 w
  by_cases h23 : k = 23
  · subst h23; exact ruleOfStmt_23 w
  by_cases h24 : k = 24
  · subst h24; exact ruleOfStmt_24 w
  by_cases h25 : k = 25
  · subst h25; exact ruleOfStmt_25 w
  by_cases h26 : k = 26
  · subst h26; exact ruleOfStmt_26 w
  by_cases h27 : k = 27
  · subst h27; exact ruleOfStmt_27 w
  by_cases h28 : k = 28
  · subst h28; exact ruleOfStmt_28 w
  by_cases h29 : k = 29
  · subst h29; exact ruleOfStmt_29 w
  by_cases h30 : k = 30
  · subst h30; exact ruleOfStmt_30 w
  by_cases h31 : k = 31
  · subst h31; exact ruleOfStmt_31 w
  by_cases h32 : k = 32
  · subst h32; exact ruleOfStmt_32 w
  have e : Pl.rl k = Pl.Rl.zero := by
    by_cases q : k < 0 ∨ 49 < k
    · exact Pl.rl_out q
    · obtain rfl : k = 18 := by omega
      rfl
  rw [e]
  exact ruleOfStmt_no k h17 h19 h20 h21 h22 h23 h24 h25 h26 h27 h28 h29 h30 h31 h32 w
theorem ruleOfExpr_is (k : Int) (h : 33 ≤ k) (w : World) : Calls Tryz.prog 51 #[.int .i64 k] w fun e w' => RlIs (Pl.rl k) w e w' := by
  by_cases h33 : k = 33
  · subst h33; exact ruleOfExpr_33 w
  by_cases h34 : k = 34
  · subst h34; exact ruleOfExpr_34 w
  by_cases h35 : k = 35
  · subst h35; exact ruleOfExpr_35 w
  by_cases h36 : k = 36
  · subst h36; exact ruleOfExpr_36 w
  by_cases h37 : k = 37
  · subst h37; exact ruleOfExpr_37 w
  by_cases h38 : k = 38
  · subst h38; exact ruleOfExpr_38 w
  by_cases h39 : k = 39
  · subst h39; exact ruleOfExpr_39 w
  by_cases h40 : k = 40
  · subst h40; exact ruleOfExpr_40 w
  by_cases h41 : k = 41
  · subst h41; exact ruleOfExpr_41 w
  by_cases h42 : k = 42
  · subst h42; exact ruleOfExpr_42 w
  by_cases h43 : k = 43
  · subst h43; exact ruleOfExpr_43 w
  by_cases h44 : k = 44
  · subst h44; exact ruleOfExpr_44 w
  by_cases h45 : k = 45
  · subst h45; exact ruleOfExpr_45 w
  by_cases h46 : k = 46
  · subst h46; exact ruleOfExpr_46 w
  by_cases h47 : k = 47
  · subst h47; exact ruleOfExpr_47 w
  by_cases h48 : k = 48
  · subst h48; exact ruleOfExpr_48 w
  by_cases h49 : k = 49
  · subst h49; exact ruleOfExpr_49 w
  have e : Pl.rl k = Pl.Rl.zero := by
    by_cases q : k < 0 ∨ 49 < k
    · exact Pl.rl_out q
    · exfalso; omega
  rw [e]
  exact ruleOfExpr_no k h33 h34 h35 h36 h37 h38 h39 h40 h41 h42 h43 h44 h45 h46 h47 h48 h49 w
end Go.Proofs.YteadglnenaiaaaaGreatDoor.W
