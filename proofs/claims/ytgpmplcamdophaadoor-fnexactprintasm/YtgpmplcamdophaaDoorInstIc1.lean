import Derived.Test.YtgpmplcamdophaaDoorInstI
namespace Go.Proofs.YtgpmplcamdophaaDoor.W
open Go.RowKit
set_option maxHeartbeats 2000000 in
theorem implInstOk_c1 (k f : Nat) (h1 : 1 ≤ k) (h2 : k ≤ 47) (f1 : 1 ≤ f) (f2 : f ≤ 8) (HF : Hid (Pl.fm k = (f : Int))) (rd r1 r2 im : Int) (g0 : Pl.rg rd (Pl.us f 0) = true) (g1 : Pl.rg r1 (Pl.us f 1) = false) (w : World) : Calls Tryd.prog 41 #[.agg #[.int .i64 k, .int .i64 rd, .int .i64 r1, .int .i64 r2, .int .i64 im]] w fun e w' => e = .returned (.bool false) ∧ Below w.heap.size w w' := by
  have q0 : (Pl.ruleV f)[0]? = some (.bool (Pl.us f 0)) := rfl
  have q1 : (Pl.ruleV f)[1]? = some (.bool (Pl.us f 1)) := rfl
  have q2 : (Pl.ruleV f)[2]? = some (.bool (Pl.us f 2)) := rfl
  go_enter Tryd.func41, Tryd.ntmps41
  go_wp2_with (first | (go_at_call 58; refine (rowOf_at k h1 h2 _).mono ?_; rintro e u1 ⟨rfl, rfl⟩; unfold Pl.rowV) | (go_at_call 59; refine (ruleOf_any _ f HF.out f1 f2 _).mono ?_; rintro e u2 ⟨rfl, rfl⟩) | (refine wpList_store_row rfl 87 _ _ rfl _ (Pl.ruleV f) rfl rfl 87 _ (heap_alloc_at _ _ _ (by simp)) (by kernel_rfl) (by kernel_rfl) (by kernel_rfl) ?_; rw [setRow_alloc_at _ _ _ _ _ (by simp)]) | (refine wpList_load_row rfl 87 _ rfl _ rfl 87 (Pl.ruleV f) (0, 0) _ (heap_alloc_at _ _ _ (by simp)) Tryd.underlying87 rfl (by kernel_rfl) ?_) | (go_at_call 43; refine (regOk_any _ _ _).mono ?_; rintro e u3 ⟨rfl, rfl⟩) | (go_at_call 60; refine (immOk_any _ f _).mono ?_; rintro e u4 ⟨rfl, hb4⟩))
  go_ret
  exact ⟨rfl, (by repeat (first | exact Below.refl _ _ | refine Below.alloc ?_ (by simp <;> omega) _))⟩
end Go.Proofs.YtgpmplcamdophaaDoor.W
