import Derived.Test.YtjdfffdeljgenaaGreatDoorS11
import Derived.Test.YtjdfffdeljgenaaGreatDoorS09
import Derived.Test.YtjdfffdeljgenaaGreatDoorS30
set_option linter.unusedVariables false
set_option linter.unusedSimpArgs false
namespace Go.Proofs.YtjdfffdeljgenaaGreatDoor.W
open Go.RowKit
def ew (n rd r1 r2 im : Int) : Int := if iok n rd r1 r2 im then Pl.enc n.toNat rd r1 r2 im else 0
theorem iok_nat {n rd r1 r2 im : Int} (h : iok n rd r1 r2 im = true) : ∃ k : Nat, n = k ∧ 1 ≤ k ∧ k ≤ 47 ∧ Pl.okF (Pl.fmN k) rd r1 r2 im = true := by
  unfold iok at h
  rw [Bool.and_eq_true, decide_eq_true_eq] at h
  exact ⟨n.toNat, by omega, by omega, by omega, h.2⟩
theorem specEnc_all (n rd r1 r2 im : Int) (w : World) : Calls Tryz.prog 69 #[.agg #[.int .i64 n, .int .i64 rd, .int .i64 r1, .int .i64 r2, .int .i64 im]] w fun e w' => e = .returned (.tuple #[.int .i64 (ew n rd r1 r2 im), .bool (iok n rd r1 r2 im)]) ∧ Below w.heap.size w w' := by
  cases h : iok n rd r1 r2 im
  · have e : ew n rd r1 r2 im = 0 := by unfold ew; rw [h]; rfl
    rw [e]
    exact specEnc_no n rd r1 r2 im h w
  · have e : ew n rd r1 r2 im = Pl.enc n.toNat rd r1 r2 im := by unfold ew; rw [h]; rfl
    rw [e]
    obtain ⟨k, rfl, k1, k2, _⟩ := iok_nat h
    exact specEnc_yes k k1 k2 rd r1 r2 im h w
theorem IsBytes.below {w w' : World} {a : Option Addr} {len cap : Nat} (h : IsBytes w a len cap) (hb : Below w.heap.size w w') : IsBytes w' a len cap := by
  obtain ⟨h1, h2, h3⟩ := h
  refine ⟨h1, h2, ?_⟩
  rcases h3 with h3 | ⟨b, off, ha, hlt, hby⟩
  · exact .inl h3
  · refine .inr ⟨b, off, ha, Nat.lt_of_lt_of_le hlt hb.size, fun i hi => ?_⟩
    obtain ⟨v, hv, hc⟩ := hby i hi
    exact ⟨v, hv, (hb.cell (p := ⟨b, off + i, none⟩) hlt).trans hc⟩
theorem RdOk.below {w w' : World} {c : Nat} (h : RdOk w c) (hb : Below w.heap.size w w') : RdOk w' c := by
  have hlt := h.lt
  obtain ⟨a, len, cap, p, hrow, hl, hp, hby⟩ := h
  refine ⟨a, len, cap, p, (hb.block c hlt).trans hrow, hl, hp, ?_⟩
  rcases hby with h0 | ⟨b, off, ha, hbc, hby⟩
  · exact .inl h0
  · refine .inr ⟨b, off, ha, hbc, fun i hi => ?_⟩
    obtain ⟨v, hv, hc⟩ := hby i hi
    exact ⟨v, hv, (hb.cell (p := ⟨b, off + i, none⟩) (by show b < w.heap.size; omega)).trans hc⟩
end Go.Proofs.YtjdfffdeljgenaaGreatDoor.W
