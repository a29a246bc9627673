import Derived.Test.YtafcnijfoejboaaGreatDoorV07
import Derived.Test.YtafcnijfoejboaaGreatDoorV19
set_option linter.unusedVariables false
set_option linter.unusedSimpArgs false
namespace Go.Proofs.YtafcnijfoejboaaGreatDoor.W
open Go.RowKit
set_option maxRecDepth 8000 in
set_option maxHeartbeats 8000000 in
theorem fnSame_walk (a0 : Option Addr) (len0 cap0 : Nat) (w : World) (h0 : IsBytes w a0 len0 cap0) (hE : Errs w) :
    Calls Tryz.prog 4 #[.slice a0 len0 cap0] w fun e w' => e = .returned (.bool true) ∧ Below w.heap.size w w' := by
  have HI : Hid (IsBytes w a0 len0 cap0) := h0
  have HE : Hid (Errs w) := hE
  clear h0 hE
  by_cases hb0 : 1048576 < len0
  · have e0 : decide (1048576 < (len0 : Int)) = true := by simp; omega
    go_enter Tryz.func4, Tryz.ntmps4
    go_wp2
    go_ret
    exact ⟨rfl, Below.refl _ _⟩
  have e0 : decide (1048576 < (len0 : Int)) = false := by simp; omega
  clear hb0
  go_enter Tryz.func4, Tryz.ntmps4
  go_wp2_with fail
  refine (drawSame_any _ a0 len0 cap0 HI.out).mono ?_
  rintro e u1 ⟨v, n, i, j, rfl, hn0, hn, hi, hj, hD, d1⟩
  obtain ⟨b, cp, xs, rfl, hT, hsm⟩ := hD
  have SM : Hid (∀ i, i < n → ∀ j, j < (xs.getD i Pl.Ty.zero).names.length → ((xs.getD i Pl.Ty.zero).names.getD j ⟨#[]⟩).size ≤ 1048576) := hsm
  have HXL : Hid (xs.length = n) := hT.1
  have D1 : Hid (Below w.heap.size w u1) := d1
  have T1 : Hid (TRow w.heap.size u1 b n cp xs) := hT
  have E1 : Hid (Errs u1) := HE.out.keep d1
  clear hsm hT d1 HI HE
  by_cases hs : Pl.SameIs n xs i j
  · have q1 : Pl.dec (Pl.SameIs n xs i j) = true := Pl.dec_yes hs
    have q2 : Pl.dec (Pl.SameIs n xs j i) = true := Pl.dec_yes (same_sym.1 hs)
    have q3 : Pl.dec (Pl.SameIs n xs i i) = true := Pl.dec_yes (same_self.2 ⟨hs.1, hs.2.1⟩)
    have q4 : Pl.dec (TOk n xs) = true := Pl.dec_yes hs.1
    have hl : Pl.layP n xs i = Pl.layP n xs j := same_lay HXL.out hs
    have hi0 : 0 ≤ i := hs.2.1.1
    have hin : i < (n : Int) := hs.2.1.2
    have Q : Hid (Pl.dec (Pl.SameIs n xs i j) = true ∧ Pl.dec (Pl.SameIs n xs j i) = true ∧ Pl.dec (Pl.SameIs n xs i i) = true ∧ Pl.dec (TOk n xs) = true ∧ Pl.layP n xs j = Pl.layP n xs i) := ⟨q1, q2, q3, q4, hl.symm⟩
    clear q1 q2 q3 q4 hl hs
    go_wp2_with fail
    refine (specSameType _ n cp xs i j u1 T1.out).mono ?_
    rintro e u2 ⟨rfl, d2⟩
    have D2 : Hid (Below w.heap.size w u2) := D1.out.trans (d2.mono D1.out.size)
    have T2 : Hid (TRow w.heap.size u2 b n cp xs) := T1.out.keep d2
    have E2 : Hid (Errs u2) := E1.out.keep d2
    clear d2 D1 T1 E1
    rw [Q.out.1]
    go_wp2_with fail
    refine (implSameType _ n cp xs i j u2 T2.out E2.out SM.out).mono ?_
    rintro e u3 ⟨rfl, d3⟩
    have D3 : Hid (Below w.heap.size w u3) := D2.out.trans (d3.mono D2.out.size)
    have T3 : Hid (TRow w.heap.size u3 b n cp xs) := T2.out.keep d3
    have E3 : Hid (Errs u3) := E2.out.keep d3
    clear d3 D2 T2 E2
    rw [Q.out.1]
    go_wp2_with fail
    refine (implSameType _ n cp xs j i u3 T3.out E3.out SM.out).mono ?_
    rintro e u4 ⟨rfl, d4⟩
    have D4 : Hid (Below w.heap.size w u4) := D3.out.trans (d4.mono D3.out.size)
    have T4 : Hid (TRow w.heap.size u4 b n cp xs) := T3.out.keep d4
    have E4 : Hid (Errs u4) := E3.out.keep d4
    clear d4 D3 T3 E3
    rw [Q.out.2.1]
    go_wp2_with fail
    refine (implSameType _ n cp xs i i u4 T4.out E4.out SM.out).mono ?_
    rintro e u5 ⟨rfl, d5⟩
    have D5 : Hid (Below w.heap.size w u5) := D4.out.trans (d5.mono D4.out.size)
    have T5 : Hid (TRow w.heap.size u5 b n cp xs) := T4.out.keep d5
    have E5 : Hid (Errs u5) := E4.out.keep d5
    clear d5 D4 T4 E4
    rw [Q.out.2.2.1]
    go_wp2_with fail
    refine (specTypesOk _ n cp xs u5 T5.out).mono ?_
    rintro e u6 ⟨rfl, d6⟩
    have D6 : Hid (Below w.heap.size w u6) := D5.out.trans (d6.mono D5.out.size)
    have T6 : Hid (TRow w.heap.size u6 b n cp xs) := T5.out.keep d6
    have E6 : Hid (Errs u6) := E5.out.keep d6
    clear d6 D5 T5 E5
    rw [Q.out.2.2.2.1]
    go_wp2_with fail
    refine (implSizeOf _ n cp xs i u6 T6.out E6.out SM.out).mono ?_
    rintro e u7 ⟨rfl, d7⟩
    have D7 : Hid (Below w.heap.size w u7) := D6.out.trans (d7.mono D6.out.size)
    have T7 : Hid (TRow w.heap.size u7 b n cp xs) := T6.out.keep d7
    have E7 : Hid (Errs u7) := E6.out.keep d7
    clear d7 D6 T6 E6
    go_wp2_with fail
    refine (implSizeOf _ n cp xs j u7 T7.out E7.out SM.out).mono ?_
    rintro e u8 ⟨rfl, d8⟩
    have D8 : Hid (Below w.heap.size w u8) := D7.out.trans (d8.mono D7.out.size)
    have T8 : Hid (TRow w.heap.size u8 b n cp xs) := T7.out.keep d8
    have E8 : Hid (Errs u8) := E7.out.keep d8
    clear d8 D7 T7 E7
    rw [Q.out.2.2.2.2]
    go_wp2_with fail
    refine (implAlignOf _ n cp xs i u8 T8.out E8.out SM.out).mono ?_
    rintro e u9 ⟨rfl, d9⟩
    have D9 : Hid (Below w.heap.size w u9) := D8.out.trans (d9.mono D8.out.size)
    have T9 : Hid (TRow w.heap.size u9 b n cp xs) := T8.out.keep d9
    have E9 : Hid (Errs u9) := E8.out.keep d9
    clear d9 D8 T8 E8
    go_wp2_with fail
    refine (implAlignOf _ n cp xs j u9 T9.out E9.out SM.out).mono ?_
    rintro e u10 ⟨rfl, d10⟩
    have D10 : Hid (Below w.heap.size w u10) := D9.out.trans (d10.mono D9.out.size)
    have T10 : Hid (TRow w.heap.size u10 b n cp xs) := T9.out.keep d10
    have E10 : Hid (Errs u10) := E9.out.keep d10
    clear d10 D9 T9 E9
    rw [Q.out.2.2.2.2]
    go_wp2_with fail
    go_ret
    exact ⟨rfl, D10.out⟩
  · have q1 : Pl.dec (Pl.SameIs n xs i j) = false := Pl.dec_no hs
    have q2 : Pl.dec (Pl.SameIs n xs j i) = false := Pl.dec_no (fun q => hs (same_sym.2 q))
    have Q : Hid (Pl.dec (Pl.SameIs n xs i j) = false ∧ Pl.dec (Pl.SameIs n xs j i) = false) := ⟨q1, q2⟩
    clear q1 q2 hs
    go_wp2_with fail
    refine (specSameType _ n cp xs i j u1 T1.out).mono ?_
    rintro e u2 ⟨rfl, d2⟩
    have D2 : Hid (Below w.heap.size w u2) := D1.out.trans (d2.mono D1.out.size)
    have T2 : Hid (TRow w.heap.size u2 b n cp xs) := T1.out.keep d2
    have E2 : Hid (Errs u2) := E1.out.keep d2
    clear d2 D1 T1 E1
    rw [Q.out.1]
    go_wp2_with fail
    refine (implSameType _ n cp xs i j u2 T2.out E2.out SM.out).mono ?_
    rintro e u3 ⟨rfl, d3⟩
    have D3 : Hid (Below w.heap.size w u3) := D2.out.trans (d3.mono D2.out.size)
    have T3 : Hid (TRow w.heap.size u3 b n cp xs) := T2.out.keep d3
    have E3 : Hid (Errs u3) := E2.out.keep d3
    clear d3 D2 T2 E2
    rw [Q.out.1]
    go_wp2_with fail
    refine (implSameType _ n cp xs j i u3 T3.out E3.out SM.out).mono ?_
    rintro e u4 ⟨rfl, d4⟩
    have D4 : Hid (Below w.heap.size w u4) := D3.out.trans (d4.mono D3.out.size)
    have T4 : Hid (TRow w.heap.size u4 b n cp xs) := T3.out.keep d4
    have E4 : Hid (Errs u4) := E3.out.keep d4
    clear d4 D3 T3 E3
    rw [Q.out.2]
    by_cases hok : TOk n xs
    · by_cases hi0 : 0 ≤ i
      · by_cases hin : i < (n : Int)
        · skip
          have Q2 : Hid (Pl.dec (Pl.SameIs n xs i i) = true ∧ Pl.dec (TOk n xs) = true) := ⟨Pl.dec_yes (same_self.2 ⟨hok, hi0, hin⟩), Pl.dec_yes hok⟩
          go_wp2_with fail
          refine (implSameType _ n cp xs i i u4 T4.out E4.out SM.out).mono ?_
          rintro e u5 ⟨rfl, d5⟩
          have D5 : Hid (Below w.heap.size w u5) := D4.out.trans (d5.mono D4.out.size)
          have T5 : Hid (TRow w.heap.size u5 b n cp xs) := T4.out.keep d5
          have E5 : Hid (Errs u5) := E4.out.keep d5
          clear d5 D4 T4 E4
          rw [Q2.out.1]
          go_wp2_with fail
          refine (specTypesOk _ n cp xs u5 T5.out).mono ?_
          rintro e u6 ⟨rfl, d6⟩
          have D6 : Hid (Below w.heap.size w u6) := D5.out.trans (d6.mono D5.out.size)
          have T6 : Hid (TRow w.heap.size u6 b n cp xs) := T5.out.keep d6
          have E6 : Hid (Errs u6) := E5.out.keep d6
          clear d6 D5 T5 E5
          rw [Q2.out.2]
          go_wp2_with fail
          go_ret
          exact ⟨rfl, D6.out⟩
        · skip
          have Q2 : Hid (Pl.dec (Pl.SameIs n xs i i) = false ∧ Pl.dec (TOk n xs) = true) := ⟨Pl.dec_no (fun q => hin (same_self.1 q).2.2), Pl.dec_yes hok⟩
          go_wp2_with fail
          refine (implSameType _ n cp xs i i u4 T4.out E4.out SM.out).mono ?_
          rintro e u5 ⟨rfl, d5⟩
          have D5 : Hid (Below w.heap.size w u5) := D4.out.trans (d5.mono D4.out.size)
          have T5 : Hid (TRow w.heap.size u5 b n cp xs) := T4.out.keep d5
          have E5 : Hid (Errs u5) := E4.out.keep d5
          clear d5 D4 T4 E4
          rw [Q2.out.1]
          go_wp2_with fail
          refine (specTypesOk _ n cp xs u5 T5.out).mono ?_
          rintro e u6 ⟨rfl, d6⟩
          have D6 : Hid (Below w.heap.size w u6) := D5.out.trans (d6.mono D5.out.size)
          have T6 : Hid (TRow w.heap.size u6 b n cp xs) := T5.out.keep d6
          have E6 : Hid (Errs u6) := E5.out.keep d6
          clear d6 D5 T5 E5
          rw [Q2.out.2]
          go_wp2_with fail
          go_ret
          exact ⟨rfl, D6.out⟩
      · skip
        have Q2 : Hid (Pl.dec (Pl.SameIs n xs i i) = false ∧ Pl.dec (TOk n xs) = true) := ⟨Pl.dec_no (fun q => hi0 (same_self.1 q).2.1), Pl.dec_yes hok⟩
        go_wp2_with fail
        refine (implSameType _ n cp xs i i u4 T4.out E4.out SM.out).mono ?_
        rintro e u5 ⟨rfl, d5⟩
        have D5 : Hid (Below w.heap.size w u5) := D4.out.trans (d5.mono D4.out.size)
        have T5 : Hid (TRow w.heap.size u5 b n cp xs) := T4.out.keep d5
        have E5 : Hid (Errs u5) := E4.out.keep d5
        clear d5 D4 T4 E4
        rw [Q2.out.1]
        go_wp2_with fail
        refine (specTypesOk _ n cp xs u5 T5.out).mono ?_
        rintro e u6 ⟨rfl, d6⟩
        have D6 : Hid (Below w.heap.size w u6) := D5.out.trans (d6.mono D5.out.size)
        have T6 : Hid (TRow w.heap.size u6 b n cp xs) := T5.out.keep d6
        have E6 : Hid (Errs u6) := E5.out.keep d6
        clear d6 D5 T5 E5
        rw [Q2.out.2]
        go_wp2_with fail
        go_ret
        exact ⟨rfl, D6.out⟩
    · skip
      have Q2 : Hid (Pl.dec (Pl.SameIs n xs i i) = false ∧ Pl.dec (TOk n xs) = false) := ⟨Pl.dec_no (fun q => hok (same_self.1 q).1), Pl.dec_no hok⟩
      go_wp2_with fail
      refine (implSameType _ n cp xs i i u4 T4.out E4.out SM.out).mono ?_
      rintro e u5 ⟨rfl, d5⟩
      have D5 : Hid (Below w.heap.size w u5) := D4.out.trans (d5.mono D4.out.size)
      have T5 : Hid (TRow w.heap.size u5 b n cp xs) := T4.out.keep d5
      have E5 : Hid (Errs u5) := E4.out.keep d5
      clear d5 D4 T4 E4
      rw [Q2.out.1]
      go_wp2_with fail
      refine (specTypesOk _ n cp xs u5 T5.out).mono ?_
      rintro e u6 ⟨rfl, d6⟩
      have D6 : Hid (Below w.heap.size w u6) := D5.out.trans (d6.mono D5.out.size)
      have T6 : Hid (TRow w.heap.size u6 b n cp xs) := T5.out.keep d6
      have E6 : Hid (Errs u6) := E5.out.keep d6
      clear d6 D5 T5 E5
      rw [Q2.out.2]
      go_wp2_with fail
      go_ret
      exact ⟨rfl, D6.out⟩
end Go.Proofs.YtafcnijfoejboaaGreatDoor.W
