import Derived.Test.YtafcnijfoejboaaDoorP14
set_option linter.unusedVariables false
set_option linter.unusedSimpArgs false
namespace Go.Proofs.YtafcnijfoejboaaDoor.W
open Go.RowKit
set_option maxRecDepth 8000 in
set_option maxHeartbeats 4000000 in
theorem fnExactTypesOk_walk {lo : Nat} (a : Option Addr) (len cap : Nat) (xs : List Pl.Ty) (w : World) (h : TRow lo w a len cap xs) (hE : Errs w) :
    Calls Tryd.prog 3 #[.slice a len cap] w fun e w' => e = .returned (.bool true) ∧ Below w.heap.size w w' := by
  have HR : Hid (TRow lo w a len cap xs) := h
  have HE : Hid (Errs w) := hE
  clear h hE
  go_enter Tryd.func3, Tryd.ntmps3
  go_wp2_with fail
  refine (szTypeS_any a len cap xs 1048576 (by decide) w HR.out).mono ?_
  rintro e u1 ⟨r, rfl, hr, d1⟩
  have D1 : Hid (Below w.heap.size w u1) := d1
  have HQ : Hid (0 ≤ r → r ≤ 1048576 ∧ len ≤ 1048576 ∧ ∀ i, i < len → (xs.getD i Pl.Ty.zero).of.length ≤ 1048576 ∧ (xs.getD i Pl.Ty.zero).names.length ≤ 1048576 ∧ ∀ j, j < (xs.getD i Pl.Ty.zero).names.length → ((xs.getD i Pl.Ty.zero).names.getD j ⟨#[]⟩).size ≤ 1048576) := hr
  clear hr d1
  by_cases hneg : r < 0
  · go_wp2_with fail
    go_ret
    exact ⟨rfl, D1.out⟩
  · obtain ⟨_, hl, hks⟩ := HQ.out (by omega)
    have HK : Hid (∀ i, i < len → (xs.getD i Pl.Ty.zero).of.length ≤ 1048576 ∧ (xs.getD i Pl.Ty.zero).names.length ≤ 1048576) := fun i hi => ⟨(hks i hi).1, (hks i hi).2.1⟩
    have HN : Hid (∀ i, i < len → ∀ j, j < (xs.getD i Pl.Ty.zero).names.length → ((xs.getD i Pl.Ty.zero).names.getD j ⟨#[]⟩).size ≤ 1048576) := fun i hi => (hks i hi).2.2
    clear hks HQ
    go_wp2_with fail
    refine (toTypeS_any a len cap xs u1 (HR.out.keep D1.out) hl HK.out).mono ?_
    rintro e u2 ⟨rfl, t2, d2⟩
    have D2 : Hid (Below w.heap.size w u2) := D1.out.trans (d2.mono D1.out.size)
    have T2 : Hid (TRow u1.heap.size u2 (some ⟨u1.heap.size, 0, none⟩) len len xs) := t2
    clear t2 d2
    go_wp2_with fail
    refine (specTypesOk _ len len xs u2 T2.out).mono ?_
    rintro e u3 ⟨rfl, d3⟩
    have D3 : Hid (Below w.heap.size w u3) := D2.out.trans (d3.mono D2.out.size)
    clear d3 T2
    obtain ⟨bb, hbb⟩ : ∃ bb, bb = Pl.dec (TOk len xs) := ⟨_, rfl⟩
    have HBB : Hid (bb = Pl.dec (TOk len xs)) := hbb
    rw [← hbb]
    clear hbb
    go_wp2_with fail
    refine (toTypeS_any a len cap xs u3 (HR.out.keep D3.out) hl HK.out).mono ?_
    rintro e u4 ⟨rfl, t4, d4⟩
    have D4 : Hid (Below w.heap.size w u4) := D3.out.trans (d4.mono D3.out.size)
    have T4 : Hid (TRow u3.heap.size u4 (some ⟨u3.heap.size, 0, none⟩) len len xs) := t4
    clear t4 d4
    go_wp2_with fail
    refine (implTypesOk _ len len xs u4 T4.out (HE.out.keep D4.out) HN.out).mono ?_
    rintro e u5 ⟨rfl, d5⟩
    have D5 : Hid (Below w.heap.size w u5) := D4.out.trans (d5.mono D4.out.size)
    have T5 : Hid (TRow u3.heap.size u5 (some ⟨u3.heap.size, 0, none⟩) len len xs) := T4.out.keep d5
    clear d5 T4
    rw [← HBB.out]
    have hne : (bb != bb) = false := by cases bb <;> rfl
    clear HBB
    go_wp2_with fail
    refine (toTypeS_any a len cap xs u5 (HR.out.keep D5.out) hl HK.out).mono ?_
    rintro e u6 ⟨rfl, t6, d6⟩
    have D6 : Hid (Below w.heap.size w u6) := D5.out.trans (d6.mono D5.out.size)
    have T6 : Hid (TRow u5.heap.size u6 (some ⟨u5.heap.size, 0, none⟩) len len xs) := t6
    have T5' : Hid (TRow u3.heap.size u6 (some ⟨u3.heap.size, 0, none⟩) len len xs) := T5.out.keep d6
    clear t6 d6 T5
    go_wp2_with fail
    refine (eqTypeS_same _ _ len len len xs u6 T5'.out T6.out).mono ?_
    rintro e u7 ⟨rfl, d7⟩
    have D7 : Hid (Below w.heap.size w u7) := D6.out.trans (d7.mono D6.out.size)
    clear d7
    go_wp2_with fail
    go_ret
    exact ⟨rfl, D7.out⟩
end Go.Proofs.YtafcnijfoejboaaDoor.W
