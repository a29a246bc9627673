import Derived.Test.YtgpmplcamdophaaDoorInstJ
import Derived.Test.YtgpmplcamdophaaDoorInstS
namespace Go.Proofs.YtgpmplcamdophaaDoor.W
open Go.RowKit
set_option linter.unusedVariables false
def inst (o d a b m : Int) : Value := .agg #[.int .i64 o, .int .i64 d, .int .i64 a, .int .i64 b, .int .i64 m]
set_option maxHeartbeats 400000 in
theorem toInst_any (o d a b m : Int) (w : World) : Calls Tryd.prog 38 #[.agg #[.int .i64 o, .int .i64 d, .int .i64 a, .int .i64 b, .int .i64 m]] w fun e w' => e = .returned (.agg #[.int .i64 o, .int .i64 d, .int .i64 a, .int .i64 b, .int .i64 m]) ∧ Below w.heap.size w w' := by
  go_enter Tryd.func38, Tryd.ntmps38
  go_wp2
  exact bodyPost_ret (v := .agg #[.int .i64 o, .int .i64 d, .int .i64 a, .int .i64 b, .int .i64 m]) (by simp [results, Tryd.results38, go_sem]) rfl ⟨rfl, (by repeat (first | exact Below.refl _ _ | refine Below.alloc ?_ (by simp <;> omega) _))⟩
theorem kept_row {w u : World} {cs : Array Value} {t : TypeId} (hb : Below (w.alloc (.cells cs t)).heap.size (w.alloc (.cells cs t)) u) : u.heap[w.heap.size]? = some (.cells cs t) := by
  rw [hb.block _ (by simp)]; exact heap_alloc_new w _
theorem specInstOk_at (k : Nat) (h1 : 1 ≤ k) (h2 : k ≤ 47) (rd r1 r2 im : Int) (w : World) : Calls Tryd.prog 30 #[.agg #[.int .i64 k, .int .i64 rd, .int .i64 r1, .int .i64 r2, .int .i64 im]] w fun e w' => e = .returned (.bool (Pl.okF (Pl.fmN k) rd r1 r2 im)) ∧ Below w.heap.size w w' := by
  obtain ⟨f1, f2, _⟩ := fm_at k h1 h2
  exact specInstOk_yes k _ h1 h2 f1 f2 (show Pl.fmN k = Pl.fmN k from rfl) rd r1 r2 im w
def iok (n rd r1 r2 im : Int) : Bool := decide (1 ≤ n ∧ n ≤ 47) && Pl.okF (Pl.fmN n.toNat) rd r1 r2 im
theorem specInstOk_any (n rd r1 r2 im : Int) (w : World) : Calls Tryd.prog 30 #[.agg #[.int .i64 n, .int .i64 rd, .int .i64 r1, .int .i64 r2, .int .i64 im]] w fun e w' => e = .returned (.bool (iok n rd r1 r2 im)) ∧ Below w.heap.size w w' := by
  by_cases h : 1 ≤ n ∧ n ≤ 47
  · obtain ⟨k, rfl⟩ : ∃ k : Nat, n = k := ⟨n.toNat, by omega⟩
    have e : iok (k : Int) rd r1 r2 im = Pl.okF (Pl.fmN k) rd r1 r2 im := by simp [iok]; intro; omega
    rw [e]; exact specInstOk_at k (by omega) (by omega) rd r1 r2 im w
  · have e : iok n rd r1 r2 im = false := by simp [iok]; intro h1 h2; omega
    rw [e]; exact specInstOk_no n (by omega) rd r1 r2 im w
theorem implInstOk_any (n rd r1 r2 im : Int) (w : World) : Calls Tryd.prog 41 #[.agg #[.int .i64 n, .int .i64 rd, .int .i64 r1, .int .i64 r2, .int .i64 im]] w fun e w' => e = .returned (.bool (iok n rd r1 r2 im)) ∧ Below w.heap.size w w' := by
  by_cases h : 1 ≤ n ∧ n ≤ 47
  · obtain ⟨k, rfl⟩ : ∃ k : Nat, n = k := ⟨n.toNat, by omega⟩
    have e : iok (k : Int) rd r1 r2 im = Pl.okF (Pl.fmN k) rd r1 r2 im := by simp [iok]; intro; omega
    rw [e]; exact implInstOk_yes k (by omega) (by omega) rd r1 r2 im w
  · have e : iok n rd r1 r2 im = false := by simp [iok]; intro h1 h2; omega
    rw [e]; exact implInstOk_no n (by omega) rd r1 r2 im w
end Go.Proofs.YtgpmplcamdophaaDoor.W
