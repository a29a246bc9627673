import Derived.Test.YtmnlhienhfmhdaaInstJ
import Derived.Test.YtmnlhienhfmhdaaInstS
namespace Go.Proofs.Ytmnlhienhfmhdaa.W
open Go.RowKit
set_option linter.unusedVariables false
def inst (o d a b m : Int) : Value := .agg #[.int .i64 o, .int .i64 d, .int .i64 a, .int .i64 b, .int .i64 m]
set_option maxHeartbeats 400000 in
theorem toInst_any (o d a b m : Int) (w : World) : Calls Try.prog 28 #[.agg #[.int .i64 o, .int .i64 d, .int .i64 a, .int .i64 b, .int .i64 m]] w fun e w' => e = .returned (.agg #[.int .i64 o, .int .i64 d, .int .i64 a, .int .i64 b, .int .i64 m]) ∧ Below w.heap.size w w' := by
  go_enter Try.func28, Try.ntmps28
  go_wp2
  exact bodyPost_ret (v := .agg #[.int .i64 o, .int .i64 d, .int .i64 a, .int .i64 b, .int .i64 m]) (by simp [results, Try.results28, go_sem]) rfl ⟨rfl, (by repeat (first | exact Below.refl _ _ | refine Below.alloc ?_ (by simp <;> omega) _))⟩
theorem kept_row {w u : World} {cs : Array Value} {t : TypeId} (hb : Below (w.alloc (.cells cs t)).heap.size (w.alloc (.cells cs t)) u) : u.heap[w.heap.size]? = some (.cells cs t) := by
  rw [hb.block _ (by simp)]; exact heap_alloc_new w _
theorem specInstOk_at (k : Nat) (h1 : 1 ≤ k) (h2 : k ≤ 47) (rd r1 r2 im : Int) (w : World) : Calls Try.prog 27 #[.agg #[.int .i64 k, .int .i64 rd, .int .i64 r1, .int .i64 r2, .int .i64 im]] w fun e w' => e = .returned (.bool (Pl.okF (Pl.fmN k) rd r1 r2 im)) ∧ Below w.heap.size w w' := by
  obtain ⟨f1, f2, _⟩ := fm_at k h1 h2
  exact specInstOk_yes k _ h1 h2 f1 f2 (show Pl.fmN k = Pl.fmN k from rfl) rd r1 r2 im w
def iok (n rd r1 r2 im : Int) : Bool := decide (1 ≤ n ∧ n ≤ 47) && Pl.okF (Pl.fmN n.toNat) rd r1 r2 im
theorem specInstOk_any (n rd r1 r2 im : Int) (w : World) : Calls Try.prog 27 #[.agg #[.int .i64 n, .int .i64 rd, .int .i64 r1, .int .i64 r2, .int .i64 im]] w fun e w' => e = .returned (.bool (iok n rd r1 r2 im)) ∧ Below w.heap.size w w' := by
  by_cases h : 1 ≤ n ∧ n ≤ 47
  · obtain ⟨k, rfl⟩ : ∃ k : Nat, n = k := ⟨n.toNat, by omega⟩
    have e : iok (k : Int) rd r1 r2 im = Pl.okF (Pl.fmN k) rd r1 r2 im := by simp [iok]; intro; omega
    rw [e]; exact specInstOk_at k (by omega) (by omega) rd r1 r2 im w
  · have e : iok n rd r1 r2 im = false := by simp [iok]; intro h1 h2; omega
    rw [e]; exact specInstOk_no n (by omega) rd r1 r2 im w
theorem implInstOk_any (n rd r1 r2 im : Int) (w : World) : Calls Try.prog 29 #[.agg #[.int .i64 n, .int .i64 rd, .int .i64 r1, .int .i64 r2, .int .i64 im]] w fun e w' => e = .returned (.bool (iok n rd r1 r2 im)) ∧ Below w.heap.size w w' := by
  by_cases h : 1 ≤ n ∧ n ≤ 47
  · obtain ⟨k, rfl⟩ : ∃ k : Nat, n = k := ⟨n.toNat, by omega⟩
    have e : iok (k : Int) rd r1 r2 im = Pl.okF (Pl.fmN k) rd r1 r2 im := by simp [iok]; intro; omega
    rw [e]; exact implInstOk_yes k (by omega) (by omega) rd r1 r2 im w
  · have e : iok n rd r1 r2 im = false := by simp [iok]; intro h1 h2; omega
    rw [e]; exact implInstOk_no n (by omega) rd r1 r2 im w
set_option maxHeartbeats 400000 in
theorem fnExactInstOk_walk (x0 x1 x2 x3 x4 : Int) (w0 : (Lit.int .i64 x0).wf = true) (w1 : (Lit.int .i64 x1).wf = true) (w2 : (Lit.int .i64 x2).wf = true) (w3 : (Lit.int .i64 x3).wf = true) (w4 : (Lit.int .i64 x4).wf = true) (w : World) :
    Calls Try.prog 9 #[.agg #[.int .i64 x0, .int .i64 x1, .int .i64 x2, .int .i64 x3, .int .i64 x4]] w fun e w' => e = .returned (.bool true) ∧ Below w.heap.size w w' := by
  clear w0 w1 w2 w3 w4
  go_enter Try.func9, Try.ntmps9
  go_wp2_with fail
  refine (toInst_any _ _ _ _ _ _).mono ?_
  rintro e u1 ⟨rfl, hb1⟩
  go_wp2_with fail
  refine (specInstOk_any _ _ _ _ _ _).mono ?_
  rintro e u2 ⟨rfl, hb2⟩
  have hB2 := hb1.trans (hb2.mono hb1.size)
  have hrow := kept_row hB2
  go_wp2_with (first | (refine wpList_load_row rfl 31 _ rfl _ rfl 31 _ (0, 0) _ hrow Try.underlying31 rfl (by kernel_rfl) ?_) | (go_at_call 28; refine (toInst_any _ _ _ _ _ _).mono ?_; rintro e u3 ⟨rfl, hb3⟩) | (go_at_call 29; refine (implInstOk_any _ _ _ _ _ _).mono ?_; rintro e u4 ⟨rfl, hb4⟩))
  go_ret
  have hB3 := hB2.trans (hb3.mono hB2.size)
  have hB4 := hB3.trans (hb4.mono hB3.size)
  exact ⟨rfl, ((Below.refl _ _).alloc (Nat.le_refl _) _).trans (hB4.mono (by simp))⟩
end Go.Proofs.Ytmnlhienhfmhdaa.W
