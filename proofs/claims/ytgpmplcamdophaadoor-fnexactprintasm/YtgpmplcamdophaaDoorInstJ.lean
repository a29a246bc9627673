import Derived.Test.YtgpmplcamdophaaDoorInstIc0
import Derived.Test.YtgpmplcamdophaaDoorInstIc1
import Derived.Test.YtgpmplcamdophaaDoorInstIc2
import Derived.Test.YtgpmplcamdophaaDoorInstIc3
namespace Go.Proofs.YtgpmplcamdophaaDoor.W
open Go.RowKit
theorem implInstOk_yes (k : Nat) (h1 : 1 ≤ k) (h2 : k ≤ 47) (rd r1 r2 im : Int) (w : World) : Calls Tryd.prog 41 #[.agg #[.int .i64 k, .int .i64 rd, .int .i64 r1, .int .i64 r2, .int .i64 im]] w fun e w' => e = .returned (.bool (Pl.okF (Pl.fmN k) rd r1 r2 im)) ∧ Below w.heap.size w w' := by
  obtain ⟨f1, f2, hf⟩ := fm_at k h1 h2
  generalize Pl.fmN k = f at f1 f2 hf ⊢
  cases g0 : Pl.rg rd (Pl.us f 0)
  · have e : Pl.okF f rd r1 r2 im = false := by simp [Pl.okF, g0]
    rw [e]; exact implInstOk_c0 k f h1 h2 f1 f2 hf rd r1 r2 im g0 w
  · cases g1 : Pl.rg r1 (Pl.us f 1)
    · have e : Pl.okF f rd r1 r2 im = false := by simp [Pl.okF, g1]
      rw [e]; exact implInstOk_c1 k f h1 h2 f1 f2 hf rd r1 r2 im g0 g1 w
    · cases g2 : Pl.rg r2 (Pl.us f 2)
      · have e : Pl.okF f rd r1 r2 im = false := by simp [Pl.okF, g2]
        rw [e]; exact implInstOk_c2 k f h1 h2 f1 f2 hf rd r1 r2 im g0 g1 g2 w
      · have e : Pl.okF f rd r1 r2 im = Pl.imo f im := by simp [Pl.okF, g0, g1, g2]
        rw [e]; exact implInstOk_c3 k f h1 h2 f1 f2 hf rd r1 r2 im g0 g1 g2 w
end Go.Proofs.YtgpmplcamdophaaDoor.W
