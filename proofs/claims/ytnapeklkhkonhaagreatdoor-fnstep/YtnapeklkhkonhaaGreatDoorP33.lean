import Derived.Test.YtnapeklkhkonhaaGreatDoorP30
import Derived.Test.YtnapeklkhkonhaaGreatDoorP32
set_option linter.unusedVariables false
set_option linter.unusedSimpArgs false
namespace Go.Proofs.YtnapeklkhkonhaaGreatDoor.W
open Go.RowKit
theorem enc_wf (k : Nat) (h1 : 1 ≤ k) (h2 : k ≤ 47) (rd r1 r2 im : Int) (hok : Pl.okF (Pl.fmN k) rd r1 r2 im = true) : 0 ≤ Pl.enc k rd r1 r2 im ∧ Pl.enc k rd r1 r2 im ≤ 1099511627776 := by
  obtain ⟨g0, g1, g2, g3⟩ := Pl.okF_parts hok
  obtain ⟨a1, a2, _⟩ := Pl.rg_bd g0
  obtain ⟨b1, b2, _⟩ := Pl.rg_bd g1
  obtain ⟨c1, c2, _⟩ := Pl.rg_bd g2
  obtain ⟨f1, f2, _⟩ := Pl.fm_cases k (by omega) h1
  obtain ⟨i1, i2⟩ := Pl.imw_bd _ f1 f2 im
  obtain ⟨p0, q0⟩ := Pl.cc_bd' k (by omega) 0 (by omega)
  obtain ⟨p1, q1⟩ := Pl.cc_bd' k (by omega) 1 (by omega)
  obtain ⟨p2, q2⟩ := Pl.cc_bd' k (by omega) 2 (by omega)
  obtain ⟨p3, q3⟩ := Pl.cc_bd' k (by omega) 3 (by omega)
  unfold Pl.enc Pl.cw
  generalize Pl.imw (Pl.fmN k) im = M at *
  generalize Pl.cc k 0 = x0 at *
  generalize Pl.cc k 1 = x1 at *
  generalize Pl.cc k 2 = x2 at *
  generalize Pl.cc k 3 = x3 at *
  omega
theorem ew_wf (n rd r1 r2 im : Int) : 0 ≤ ew n rd r1 r2 im ∧ ew n rd r1 r2 im ≤ 1099511627776 := by
  unfold ew
  split
  · rename_i h
    obtain ⟨k, rfl, k1, k2, hk⟩ := iok_nat h
    exact enc_wf k k1 k2 rd r1 r2 im hk
  · omega
end Go.Proofs.YtnapeklkhkonhaaGreatDoor.W
