import Derived.Test.YtafcnijfoejboaaDoorP02
import Derived.Test.YtafcnijfoejboaaDoorP00
import Derived.Great.Walk
import Derived.Test.YtafcnijfoejboaaDoorP04
set_option linter.unusedVariables false
set_option linter.unusedSimpArgs false
namespace Go.Proofs.YtafcnijfoejboaaDoor.W
open Go.RowKit
set_option maxHeartbeats 1000000 in
theorem tyrule_1 (w : World) : Calls Tryd.prog 26 #[.int .i64 1] w fun e w' => e = .returned (.tuple #[.agg #[.int .i64 0, .int .i64 0, .int .i64 0, .int .i64 0, .bool false], .bool true]) ∧ Below w.heap.size w w' := by
  go_enter Tryd.func26, Tryd.ntmps26
  go_wp2
  exact bodyPost_ret (v := .tuple #[.agg #[.int .i64 0, .int .i64 0, .int .i64 0, .int .i64 0, .bool false], .bool true]) (by simp [results, Tryd.results26, go_sem]) rfl ⟨rfl, (by repeat (first | with_reducible exact Below.refl _ _ | refine Below.setCell ?_ (by simp <;> omega) _ | refine Below.alloc ?_ (by simp <;> omega) _))⟩
set_option maxHeartbeats 1000000 in
theorem tyrule_2 (w : World) : Calls Tryd.prog 26 #[.int .i64 2] w fun e w' => e = .returned (.tuple #[.agg #[.int .i64 0, .int .i64 0, .int .i64 0, .int .i64 0, .bool false], .bool true]) ∧ Below w.heap.size w w' := by
  go_enter Tryd.func26, Tryd.ntmps26
  go_wp2
  exact bodyPost_ret (v := .tuple #[.agg #[.int .i64 0, .int .i64 0, .int .i64 0, .int .i64 0, .bool false], .bool true]) (by simp [results, Tryd.results26, go_sem]) rfl ⟨rfl, (by repeat (first | with_reducible exact Below.refl _ _ | refine Below.setCell ?_ (by simp <;> omega) _ | refine Below.alloc ?_ (by simp <;> omega) _))⟩
set_option maxHeartbeats 1000000 in
theorem tyrule_3 (w : World) : Calls Tryd.prog 26 #[.int .i64 3] w fun e w' => e = .returned (.tuple #[.agg #[.int .i64 0, .int .i64 0, .int .i64 0, .int .i64 0, .bool false], .bool true]) ∧ Below w.heap.size w w' := by
  go_enter Tryd.func26, Tryd.ntmps26
  go_wp2
  exact bodyPost_ret (v := .tuple #[.agg #[.int .i64 0, .int .i64 0, .int .i64 0, .int .i64 0, .bool false], .bool true]) (by simp [results, Tryd.results26, go_sem]) rfl ⟨rfl, (by repeat (first | with_reducible exact Below.refl _ _ | refine Below.setCell ?_ (by simp <;> omega) _ | refine Below.alloc ?_ (by simp <;> omega) _))⟩
set_option maxHeartbeats 1000000 in
theorem tyrule_4 (w : World) : Calls Tryd.prog 26 #[.int .i64 4] w fun e w' => e = .returned (.tuple #[.agg #[.int .i64 0, .int .i64 0, .int .i64 0, .int .i64 0, .bool false], .bool true]) ∧ Below w.heap.size w w' := by
  go_enter Tryd.func26, Tryd.ntmps26
  go_wp2
  exact bodyPost_ret (v := .tuple #[.agg #[.int .i64 0, .int .i64 0, .int .i64 0, .int .i64 0, .bool false], .bool true]) (by simp [results, Tryd.results26, go_sem]) rfl ⟨rfl, (by repeat (first | with_reducible exact Below.refl _ _ | refine Below.setCell ?_ (by simp <;> omega) _ | refine Below.alloc ?_ (by simp <;> omega) _))⟩
set_option maxHeartbeats 1000000 in
theorem tyrule_5 (w : World) : Calls Tryd.prog 26 #[.int .i64 5] w fun e w' => e = .returned (.tuple #[.agg #[.int .i64 0, .int .i64 0, .int .i64 0, .int .i64 0, .bool false], .bool true]) ∧ Below w.heap.size w w' := by
  go_enter Tryd.func26, Tryd.ntmps26
  go_wp2
  exact bodyPost_ret (v := .tuple #[.agg #[.int .i64 0, .int .i64 0, .int .i64 0, .int .i64 0, .bool false], .bool true]) (by simp [results, Tryd.results26, go_sem]) rfl ⟨rfl, (by repeat (first | with_reducible exact Below.refl _ _ | refine Below.setCell ?_ (by simp <;> omega) _ | refine Below.alloc ?_ (by simp <;> omega) _))⟩
set_option maxHeartbeats 1000000 in
theorem tyrule_6 (w : World) : Calls Tryd.prog 26 #[.int .i64 6] w fun e w' => e = .returned (.tuple #[.agg #[.int .i64 0, .int .i64 0, .int .i64 0, .int .i64 0, .bool false], .bool true]) ∧ Below w.heap.size w w' := by
  go_enter Tryd.func26, Tryd.ntmps26
  go_wp2
  exact bodyPost_ret (v := .tuple #[.agg #[.int .i64 0, .int .i64 0, .int .i64 0, .int .i64 0, .bool false], .bool true]) (by simp [results, Tryd.results26, go_sem]) rfl ⟨rfl, (by repeat (first | with_reducible exact Below.refl _ _ | refine Below.setCell ?_ (by simp <;> omega) _ | refine Below.alloc ?_ (by simp <;> omega) _))⟩
set_option maxHeartbeats 1000000 in
theorem tyrule_7 (w : World) : Calls Tryd.prog 26 #[.int .i64 7] w fun e w' => e = .returned (.tuple #[.agg #[.int .i64 0, .int .i64 0, .int .i64 0, .int .i64 0, .bool false], .bool true]) ∧ Below w.heap.size w w' := by
  go_enter Tryd.func26, Tryd.ntmps26
  go_wp2
  exact bodyPost_ret (v := .tuple #[.agg #[.int .i64 0, .int .i64 0, .int .i64 0, .int .i64 0, .bool false], .bool true]) (by simp [results, Tryd.results26, go_sem]) rfl ⟨rfl, (by repeat (first | with_reducible exact Below.refl _ _ | refine Below.setCell ?_ (by simp <;> omega) _ | refine Below.alloc ?_ (by simp <;> omega) _))⟩
set_option maxHeartbeats 1000000 in
theorem tyrule_8 (w : World) : Calls Tryd.prog 26 #[.int .i64 8] w fun e w' => e = .returned (.tuple #[.agg #[.int .i64 0, .int .i64 0, .int .i64 1, .int .i64 1, .bool false], .bool true]) ∧ Below w.heap.size w w' := by
  go_enter Tryd.func26, Tryd.ntmps26
  go_wp2
  exact bodyPost_ret (v := .tuple #[.agg #[.int .i64 0, .int .i64 0, .int .i64 1, .int .i64 1, .bool false], .bool true]) (by simp [results, Tryd.results26, go_sem]) rfl ⟨rfl, (by repeat (first | with_reducible exact Below.refl _ _ | refine Below.setCell ?_ (by simp <;> omega) _ | refine Below.alloc ?_ (by simp <;> omega) _))⟩
set_option maxHeartbeats 1000000 in
theorem tyrule_9 (w : World) : Calls Tryd.prog 26 #[.int .i64 9] w fun e w' => e = .returned (.tuple #[.agg #[.int .i64 1, .int .i64 60000, .int .i64 1, .int .i64 1, .bool false], .bool true]) ∧ Below w.heap.size w w' := by
  go_enter Tryd.func26, Tryd.ntmps26
  go_wp2
  exact bodyPost_ret (v := .tuple #[.agg #[.int .i64 1, .int .i64 60000, .int .i64 1, .int .i64 1, .bool false], .bool true]) (by simp [results, Tryd.results26, go_sem]) rfl ⟨rfl, (by repeat (first | with_reducible exact Below.refl _ _ | refine Below.setCell ?_ (by simp <;> omega) _ | refine Below.alloc ?_ (by simp <;> omega) _))⟩
set_option maxHeartbeats 1000000 in
theorem tyrule_10 (w : World) : Calls Tryd.prog 26 #[.int .i64 10] w fun e w' => e = .returned (.tuple #[.agg #[.int .i64 0, .int .i64 0, .int .i64 0, .int .i64 100, .bool true], .bool true]) ∧ Below w.heap.size w w' := by
  go_enter Tryd.func26, Tryd.ntmps26
  go_wp2
  exact bodyPost_ret (v := .tuple #[.agg #[.int .i64 0, .int .i64 0, .int .i64 0, .int .i64 100, .bool true], .bool true]) (by simp [results, Tryd.results26, go_sem]) rfl ⟨rfl, (by repeat (first | with_reducible exact Below.refl _ _ | refine Below.setCell ?_ (by simp <;> omega) _ | refine Below.alloc ?_ (by simp <;> omega) _))⟩
set_option maxHeartbeats 1000000 in
theorem tyrule_11 (w : World) : Calls Tryd.prog 26 #[.int .i64 11] w fun e w' => e = .returned (.tuple #[.agg #[.int .i64 0, .int .i64 0, .int .i64 0, .int .i64 100, .bool true], .bool true]) ∧ Below w.heap.size w w' := by
  go_enter Tryd.func26, Tryd.ntmps26
  go_wp2
  exact bodyPost_ret (v := .tuple #[.agg #[.int .i64 0, .int .i64 0, .int .i64 0, .int .i64 100, .bool true], .bool true]) (by simp [results, Tryd.results26, go_sem]) rfl ⟨rfl, (by repeat (first | with_reducible exact Below.refl _ _ | refine Below.setCell ?_ (by simp <;> omega) _ | refine Below.alloc ?_ (by simp <;> omega) _))⟩
set_option maxHeartbeats 1000000 in
theorem tyrule_12 (w : World) : Calls Tryd.prog 26 #[.int .i64 12] w fun e w' => e = .returned (.tuple #[.agg #[.int .i64 0, .int .i64 0, .int .i64 1, .int .i64 9, .bool false], .bool true]) ∧ Below w.heap.size w w' := by
  go_enter Tryd.func26, Tryd.ntmps26
  go_wp2
  exact bodyPost_ret (v := .tuple #[.agg #[.int .i64 0, .int .i64 0, .int .i64 1, .int .i64 9, .bool false], .bool true]) (by simp [results, Tryd.results26, go_sem]) rfl ⟨rfl, (by repeat (first | with_reducible exact Below.refl _ _ | refine Below.setCell ?_ (by simp <;> omega) _ | refine Below.alloc ?_ (by simp <;> omega) _))⟩
set_option maxHeartbeats 1000000 in
theorem tyrule_no (k : Int) (h : k < 1 ∨ 12 < k) (w : World) : Calls Tryd.prog 26 #[.int .i64 k] w fun e w' => e = .returned (.tuple #[.agg #[.int .i64 0, .int .i64 0, .int .i64 0, .int .i64 0, .bool false], .bool false]) ∧ Below w.heap.size w w' := by
  have n1 : ¬ (k = 1) := by omega
  have n2 : ¬ (k = 2) := by omega
  have n3 : ¬ (k = 3) := by omega
  have n4 : ¬ (k = 4) := by omega
  have n5 : ¬ (k = 5) := by omega
  have n6 : ¬ (k = 6) := by omega
  have n7 : ¬ (k = 7) := by omega
  have n8 : ¬ (k = 8) := by omega
  have n9 : ¬ (k = 9) := by omega
  have n10 : ¬ (k = 10) := by omega
  have n11 : ¬ (k = 11) := by omega
  have n12 : ¬ (k = 12) := by omega
  clear h
  go_enter Tryd.func26, Tryd.ntmps26
  go_wp2
  exact bodyPost_ret (v := .tuple #[.agg #[.int .i64 0, .int .i64 0, .int .i64 0, .int .i64 0, .bool false], .bool false]) (by simp [results, Tryd.results26, go_sem]) rfl ⟨rfl, (by repeat (first | with_reducible exact Below.refl _ _ | refine Below.setCell ?_ (by simp <;> omega) _ | refine Below.alloc ?_ (by simp <;> omega) _))⟩
theorem ruleOfKind_any (k : Int) (w : World) : Calls Tryd.prog 26 #[.int .i64 k] w fun e w' => e = .returned (.tuple #[.agg ((Pl.tRule k).getD ⟨0, 0, 0, 0, false⟩).cells, .bool (Pl.tRule k).isSome]) ∧ Below w.heap.size w w' := by
  by_cases h : k < 1 ∨ 12 < k
  · have e : Pl.tRule k = none := by
      unfold Pl.tRule
      rw [if_neg (by omega), if_neg (by omega), if_neg (by omega), if_neg (by omega), if_neg (by omega)]
    rw [e]
    exact tyrule_no k h w
  · rcases (show k = 1 ∨ k = 2 ∨ k = 3 ∨ k = 4 ∨ k = 5 ∨ k = 6 ∨ k = 7 ∨ k = 8 ∨ k = 9 ∨ k = 10 ∨ k = 11 ∨ k = 12 by omega) with rfl | rfl | rfl | rfl | rfl | rfl | rfl | rfl | rfl | rfl | rfl | rfl
    · exact tyrule_1 w
    · exact tyrule_2 w
    · exact tyrule_3 w
    · exact tyrule_4 w
    · exact tyrule_5 w
    · exact tyrule_6 w
    · exact tyrule_7 w
    · exact tyrule_8 w
    · exact tyrule_9 w
    · exact tyrule_10 w
    · exact tyrule_11 w
    · exact tyrule_12 w
end Go.Proofs.YtafcnijfoejboaaDoor.W
namespace Go.Proofs.YtafcnijfoejboaaDoor.Pl
def ofAt (xs : List Ty) (i p : Nat) : Int := (xs.getD i Ty.zero).of.getD p 0
def fitP (k : Int) (i p : Nat) (z : Int) (y : Ty) : Bool :=
  if k = 8 then decide (z < i) || tagd y.k
  else if k = 9 then decide (z < i) && y.whole
  else if k = 12 then decide (z < i) && (scal y.k || (decide (p = 0) && decide (y.k = 1)))
  else y.whole
def fitPart (xs : List Ty) (i p : Nat) : Bool :=
  within (ofAt xs i p) 0 ((xs.length : Int) - 1) && fitP (xs.getD i Ty.zero).k i p (ofAt xs i p) (xs.getD (ofAt xs i p).toNat Ty.zero)
end Go.Proofs.YtafcnijfoejboaaDoor.Pl
namespace Go.Proofs.YtafcnijfoejboaaDoor.W
open Go.RowKit
set_option maxRecDepth 8000 in
set_option maxHeartbeats 4000000 in
theorem isFitPart_any {lo : Nat} (a : Option Addr) (len cap : Nat) (xs : List Pl.Ty) (i p : Nat) (hi : i < len) (hp : p < (xs.getD i Pl.Ty.zero).of.length) (w : World) (h : TRow lo w a len cap xs) :
    Calls Tryd.prog 28 #[.slice a len cap, .int .i64 i, .int .i64 p] w fun e w' => e = .returned (.bool (Pl.fitPart xs i p)) ∧ Below w.heap.size w w' := by
  have hm : (len : Int) ≤ 9223372036854775807 := by have := h.small; omega
  have hxl : xs.length = len := h.1
  have HR : Hid (TRow lo w a len cap xs) := h
  obtain ⟨b, off, v, s, rfl, hlo, hb1, hc, hrow, hs⟩ := h.at hi
  obtain ⟨va, vl, vc⟩ := v
  have hvl : vl ≤ 9223372036854775807 := hrow.small
  obtain ⟨hl1, _, _, _, hr1⟩ := hrow
  simp only at hl1 hr1 hvl
  have hpl : p < vl := by omega
  obtain ⟨b2, o2, rfl, _, hb2, hcp⟩ := hr1.resolve_left (by omega)
  have cz := hcp p hpl
  obtain ⟨z, hz⟩ : ∃ z, z = Pl.ofAt xs i p := ⟨_, rfl⟩
  have cz' : w.cell? ⟨b2, o2 + p, none⟩ = some (.int .i64 z) := by rw [hz]; exact cz
  obtain ⟨k, hk⟩ : ∃ k, k = (xs.getD i Pl.Ty.zero).k := ⟨_, rfl⟩
  obtain ⟨c0, _, c2, _⟩ := ty_cells hc
  rw [← hk] at c0
  have hii : (i : Int) < (len : Int) := by omega
  have hpp : (p : Int) < (vl : Int) := by omega
  have E : Pl.fitPart xs i p = (Pl.within z 0 ((len : Int) - 1) && Pl.fitP k i p z (xs.getD z.toNat Pl.Ty.zero)) := by unfold Pl.fitPart; rw [hz, hk, hxl]
  rw [E]
  clear E hk hz hc hs hl1 hr1 cz hcp hp
  cases hw : Pl.within z 0 ((len : Int) - 1)
  · go_enter Tryd.func28, Tryd.ntmps28
    go_wp2_with (go_at_call 27; refine (isWithin_any _ _ _ _).mono ?_; rintro e u1 ⟨rfl, rfl⟩; rw [hw])
    go_ret
    exact ⟨rfl, Below.refl _ _⟩
  have hz2 : 0 ≤ z ∧ z ≤ (len : Int) - 1 := by simpa [Pl.within] using hw
  obtain ⟨j, rfl⟩ : ∃ j : Nat, z = j := ⟨z.toNat, by omega⟩
  have hj : j < len := by omega
  have hjj : (j : Int) < (len : Int) := by omega
  obtain ⟨b', off', v2, s2, e, _, _, hc', hrow', hs'⟩ := HR.out.at hj
  injection e with e
  injection e with e1 e2 _
  subst e1
  subst e2
  rw [Int.toNat_natCast, Bool.true_and]
  obtain ⟨y, hy⟩ : ∃ y, y = xs.getD j Pl.Ty.zero := ⟨_, rfl⟩
  rw [← hy] at hc' hrow' ⊢
  obtain ⟨d0, d1, d2, d3⟩ := ty_cells hc'
  have hyl : y.of.length = v2.len := hrow'.1
  have hU := Tryd.underlying37
  clear hc' hrow' hs' hy HR
  by_cases k8 : k = 8
  · subst k8
    cases ht : Pl.tagd y.k <;> by_cases hlt : (j : Int) < (i : Int)
    all_goals
      go_enter Tryd.func28, Tryd.ntmps28
      go_wp2_with (first | (go_at_call 27; refine (isWithin_any _ _ _ _).mono ?_; rintro e u1 ⟨rfl, rfl⟩; rw [hw]) | (go_at_call 30; refine (isRecord_any _ _).mono ?_; rintro e u1 ⟨rfl, rfl⟩; rw [ht]))
      go_ret
      refine ⟨ret_bool ?_, below_alloc _ _⟩
      simp [Pl.fitP, ht] <;> omega
  by_cases k9 : k = 9
  · subst k9
    by_cases hlt : (j : Int) < (i : Int)
    · go_enter Tryd.func28, Tryd.ntmps28
      go_wp2_with (first | (go_at_call 27; refine (isWithin_any _ _ _ _).mono ?_; rintro e u1 ⟨rfl, rfl⟩; rw [hw]) | (go_at_call 37; refine (isComplete_any y v2 s2 hyl _).mono ?_; rintro e u1 ⟨rfl, g1⟩; have G1 : Hid _ := g1; clear g1))
      go_ret
      refine ⟨ret_bool ?_, (below_alloc _ _).trans (G1.out.mono (by simp))⟩
      simp [Pl.fitP] <;> omega
    · go_enter Tryd.func28, Tryd.ntmps28
      go_wp2_with (first | (go_at_call 27; refine (isWithin_any _ _ _ _).mono ?_; rintro e u1 ⟨rfl, rfl⟩; rw [hw]) | (go_at_call 37; refine (isComplete_any y v2 s2 hyl _).mono ?_; rintro e u1 ⟨rfl, g1⟩; have G1 : Hid _ := g1; clear g1))
      go_ret
      refine ⟨ret_bool ?_, below_alloc _ _⟩
      simp [Pl.fitP] <;> omega
  by_cases k12 : k = 12
  · subst k12
    cases hsc : Pl.scal y.k <;> by_cases hlt : (j : Int) < (i : Int)
    all_goals
      go_enter Tryd.func28, Tryd.ntmps28
      go_wp2_with (first | (go_at_call 27; refine (isWithin_any _ _ _ _).mono ?_; rintro e u1 ⟨rfl, rfl⟩; rw [hw]) | (go_at_call 38; refine (isScalar_any _ _).mono ?_; rintro e u1 ⟨rfl, rfl⟩; rw [hsc]))
      all_goals
        go_ret
        refine ⟨ret_bool ?_, below_alloc _ _⟩
        rw [Bool.eq_iff_iff]
        simp [Pl.fitP, hsc] <;> omega
  go_enter Tryd.func28, Tryd.ntmps28
  go_wp2_with (first | (go_at_call 27; refine (isWithin_any _ _ _ _).mono ?_; rintro e u1 ⟨rfl, rfl⟩; rw [hw]) | (go_at_call 37; refine (isComplete_any y v2 s2 hyl _).mono ?_; rintro e u1 ⟨rfl, g1⟩; have G1 : Hid _ := g1; clear g1))
  go_ret
  refine ⟨ret_bool ?_, (below_alloc _ _).trans (G1.out.mono (by simp))⟩
  simp [Pl.fitP, k8, k9, k12]
end Go.Proofs.YtafcnijfoejboaaDoor.W
namespace Go.Proofs.YtafcnijfoejboaaDoor.Pl
def dg (c : Int) : Bool := decide (48 ≤ c ∧ c ≤ 57)
def lt (c : Int) : Bool := decide (97 ≤ c ∧ c ≤ 122) || decide (65 ≤ c ∧ c ≤ 90)
def ch (c : Int) : Bool := dg c || lt c || c == 95 || c == 46 || c == 36
def wch (c : Int) : Bool := dg c || lt c || c == 95
def byt (s : ByteArray) (i : Nat) : Int := ((s.data.toList.getD i 0).toNat : Int)
theorem byt_get (s : ByteArray) (i : Nat) (h : i < s.size) : ((s[i]'h).toNat : Int) = byt s i := by
  obtain ⟨⟨l⟩⟩ := s
  have hl : i < l.length := h
  unfold byt
  simp only [List.getD, List.getElem?_eq_getElem hl, Option.getD_some]
  rfl
end Go.Proofs.YtafcnijfoejboaaDoor.Pl
namespace Go.Proofs.YtafcnijfoejboaaDoor.W
open Go.RowKit
theorem isDigit_any (c : Int) (w : World) : Calls Tryd.prog 48 #[.int .u8 c] w fun e w' => e = .returned (.bool (Pl.dg c)) ∧ w' = w := by
  go_enter Tryd.func48, Tryd.ntmps48
  go_wp2
  all_goals (go_ret; refine ⟨ret_bool ?_, rfl⟩; rw [Bool.eq_iff_iff]; simp [Pl.dg, Pl.lt, Pl.ch] <;> omega)
theorem l4Digit_any (c : Int) (w : World) : Calls Tryd.prog 41 #[.int .u8 c] w fun e w' => e = .returned (.bool (Pl.dg c)) ∧ w' = w := by
  go_enter Tryd.func41, Tryd.ntmps41
  go_wp2
  all_goals (go_ret; refine ⟨ret_bool ?_, rfl⟩; rw [Bool.eq_iff_iff]; simp [Pl.dg, Pl.lt, Pl.ch] <;> omega)
theorem l4Letter_any (c : Int) (w : World) : Calls Tryd.prog 46 #[.int .u8 c] w fun e w' => e = .returned (.bool (Pl.lt c)) ∧ w' = w := by
  go_enter Tryd.func46, Tryd.ntmps46
  go_wp2
  all_goals (go_ret; refine ⟨ret_bool ?_, rfl⟩; rw [Bool.eq_iff_iff]; simp [Pl.dg, Pl.lt, Pl.ch] <;> omega)
end Go.Proofs.YtafcnijfoejboaaDoor.W
namespace Go.Proofs.YtafcnijfoejboaaDoor.Pl
def inS (ss : List ByteArray) (s : ByteArray) : Bool := ss.any fun x => x.toList == s.toList
theorem inS_yes {ss : List ByteArray} {s : ByteArray} {k : Nat} (hk : k < ss.length) (h : (ss.getD k ⟨#[]⟩).toList = s.toList) : inS ss s = true := by
  unfold inS
  rw [List.any_eq_true]
  refine ⟨ss.getD k ⟨#[]⟩, ?_, by rw [h]; exact beq_self_eq_true _⟩
  rw [List.getD_eq_getElem?_getD, List.getElem?_eq_getElem hk]
  exact List.getElem_mem _
theorem inS_no {ss : List ByteArray} {s : ByteArray} (h : ∀ k, k < ss.length → (ss.getD k ⟨#[]⟩).toList ≠ s.toList) : inS ss s = false := by
  unfold inS
  rw [List.any_eq_false]
  intro x hx
  obtain ⟨k, hk, rfl⟩ := List.mem_iff_getElem.1 hx
  have := h k hk
  rw [List.getD_eq_getElem?_getD, List.getElem?_eq_getElem hk] at this
  simpa using this
end Go.Proofs.YtafcnijfoejboaaDoor.Pl
namespace Go.Proofs.YtafcnijfoejboaaDoor.W
open Go.RowKit
set_option maxHeartbeats 2000000 in
theorem l5In_any {lo : Nat} (a : Option Addr) (len cap : Nat) (ss : List ByteArray) (t : ByteArray) (w : World) (h : SRow lo w a len cap ss) :
    Calls Tryd.prog 35 #[.slice a len cap, .string t] w fun e w' => e = .returned (.bool (Pl.inS ss t)) ∧ Below w.heap.size w w' := by
  have hs1 : (len : Int) ≤ 9223372036854775807 := by have := h.small; omega
  have H : Hid (SRow lo w a len cap ss) := h
  clear h
  go_enter Tryd.func35, Tryd.ntmps35
  go_wp2_with fail
  go_loopw [5] (fun i wr => ∃ k : Nat, k ≤ len ∧ i = .int .i64 k ∧ (∀ j, j < k → (ss.getD j ⟨#[]⟩).toList ≠ t.toList) ∧ Below w.heap.size w wr) (fun i _ => len - (intOf i).toNat)
  case atStart => exact ⟨0, Nat.zero_le _, rfl, fun j hj => absurd hj (Nat.not_lt_zero _), Below.refl _ _⟩
  case round =>
    obtain ⟨k, hk, rfl, hall, hb⟩ := hrel
    have HA : Hid (∀ j, j < k → (ss.getD j ⟨#[]⟩).toList ≠ t.toList) := hall
    have HB : Hid (Below w.heap.size w wr) := hb
    clear hb hall
    by_cases hlt : k < len
    · obtain ⟨b1, o1, rfl, _, _, hc1, _⟩ := (H.out.keep HB.out).at hlt
      obtain ⟨x, hx⟩ : ∃ x, x = ss.getD k ⟨#[]⟩ := ⟨_, rfl⟩
      rw [← hx] at hc1
      have HX : Hid (x = ss.getD k ⟨#[]⟩) := hx
      clear hx
      have hi : (k : Int) < (len : Int) := by omega
      cases he : (x.toList == t.toList)
      rotate_left
      · go_wp2_with fail
        go_ret
        exact ⟨ret_bool (Pl.inS_yes (k := k) (by rw [H.out.1.1]; exact hlt) (by rw [← HX.out]; exact eq_of_beq he)).symm, HB.out⟩
      · go_wp2_with fail
        go_roundw
        case rel => exact ⟨k + 1, by omega, by go_num, fun j hj => by
          by_cases e : j = k
          · rw [e, ← HX.out]; exact ne_of_beq_false he
          · exact HA.out j (by omega), HB.out⟩
        case measure => simp [intOf]; omega
    · have hke : k = len := by omega
      have hi : ¬ ((k : Int) < (len : Int)) := by omega
      go_wp2
      go_ret
      exact ⟨ret_bool (Pl.inS_no (fun j hj => HA.out j (by rw [H.out.1.1] at hj; omega))).symm, HB.out⟩
theorem l5Word_any (c : Int) (w : World) : Calls Tryd.prog 43 #[.int .u8 c] w fun e w' => e = .returned (.bool (Pl.wch c)) ∧ w' = w := by
  cases hl : Pl.lt c <;> cases hd : Pl.dg c
  all_goals
    go_enter Tryd.func43, Tryd.ntmps43
    go_wp2_with (first | (go_at_call 46; refine (l4Letter_any _ _).mono ?_; rintro e u1 ⟨rfl, rfl⟩; rw [hl]) | (go_at_call 41; refine (l4Digit_any _ _).mono ?_; rintro e u1 ⟨rfl, rfl⟩; rw [hd]))
    all_goals (go_ret; refine ⟨ret_bool ?_, rfl⟩; rw [Bool.eq_iff_iff]; simp [Pl.wch, hl, hd] <;> omega)
end Go.Proofs.YtafcnijfoejboaaDoor.W
namespace Go.Proofs.YtafcnijfoejboaaDoor.Pl
def kwB : List (List UInt8) := [[98, 114, 101, 97, 107], [99, 97, 115, 101], [99, 104, 97, 114], [99, 111, 110, 116, 105, 110, 117, 101], [100, 101, 102, 97, 117, 108, 116], [100, 111], [101, 108, 115, 101], [101, 110, 117, 109], [102, 111, 114], [103, 111, 116, 111], [105, 102], [105, 110, 116], [114, 101, 116, 117, 114, 110], [115, 104, 111, 114, 116], [115, 105, 103, 110, 101, 100], [115, 105, 122, 101, 111, 102], [115, 116, 114, 117, 99, 116], [115, 119, 105, 116, 99, 104], [116, 121, 112, 101, 100, 101, 102], [117, 110, 105, 111, 110], [117, 110, 115, 105, 103, 110, 101, 100], [118, 111, 105, 100], [119, 104, 105, 108, 101]]
def kws : List ByteArray := kwB.map fun r => ⟨r.toArray⟩
def kwTab : Array Value := (kws.map fun r => Value.string r).toArray
theorem kwTab_at (k : Nat) (h : k < 23) : kwTab[k]? = some (.string (kws.getD k ⟨#[]⟩)) := by
  unfold kwTab
  have hl : kws.length = 23 := rfl
  rw [List.getElem?_toArray, List.getElem?_map, List.getD_eq_getElem?_getD, List.getElem?_eq_getElem (by omega)]
  rfl
def nam (s : ByteArray) : Bool := decide (1 ≤ s.size) && decide (s.size ≤ 40) && !dg (byt s 0) && !inS kws s && (List.range s.size).all fun i => wch (byt s i)
theorem nam_yes (s : ByteArray) (h1 : 0 < s.size) (h2 : s.size ≤ 40) (h3 : dg (byt s 0) = false) (h5 : inS kws s = false) (h4 : ∀ j, j < s.size → wch (byt s j) = true) : nam s = true := by
  unfold nam
  simp only [Bool.and_eq_true, decide_eq_true_eq, List.all_eq_true, List.mem_range, Bool.not_eq_true', h3, h5]
  exact ⟨⟨⟨⟨by omega, h2⟩, trivial⟩, trivial⟩, h4⟩
theorem nam_no (s : ByteArray) (k : Nat) (h1 : k < s.size) (h2 : wch (byt s k) = false) : nam s = false := by
  unfold nam
  rw [Bool.and_eq_false_iff]
  right
  rw [List.all_eq_false]
  exact ⟨k, List.mem_range.2 h1, by simp [h2]⟩
end Go.Proofs.YtafcnijfoejboaaDoor.Pl
namespace Go.Proofs.YtafcnijfoejboaaDoor.W
open Go.RowKit
theorem l5Keys_any (w : World) : Calls Tryd.prog 42 #[] w fun e w' => e = .returned (.slice (some ⟨w.heap.size, 0, none⟩) 23 23) ∧ w' = w.alloc (.cells Pl.kwTab 9) := by
  go_enter Tryd.func42, Tryd.ntmps42
  go_wp2_with (refine Great.wpList_buildSliceTo rfl 31 9 23 _ rfl w.heap.size rfl _ rfl Tryd.underlying31 Pl.kwTab (by kernel_rfl) ?_)
  go_ret
  exact ⟨rfl, rfl⟩
theorem kws_small : ∀ x ∈ Pl.kws, x.size ≤ maxLen := by
  intro x hx
  obtain ⟨r, hr, rfl⟩ := List.mem_map.1 hx
  have : ∀ r ∈ Pl.kwB, r.length ≤ 8 := by decide
  have h8 := this r hr
  have : (ByteArray.mk r.toArray).size = r.length := by simp [ByteArray.size]
  unfold maxLen
  omega
theorem kws_row (w : World) : SRow w.heap.size (w.alloc (.cells Pl.kwTab 9)) (some ⟨w.heap.size, 0, none⟩) 23 23 Pl.kws :=
  ⟨⟨rfl, kws_small⟩, Nat.le_refl _, by unfold maxLen; omega, .inr ⟨w.heap.size, 0, rfl, Nat.le_refl _, by simp, fun i hi => by
    rw [cell_of_row _ _ (0 + i) Pl.kwTab 9 (0, 0) (heap_alloc_new w _), Nat.zero_add]; exact Pl.kwTab_at i hi⟩⟩
set_option maxHeartbeats 4000000 in
theorem l6NameOk_any (s : ByteArray) (w : World) : Calls Tryd.prog 34 #[.string s] w fun e w' => e = .returned (.bool (Pl.nam s)) ∧ Below w.heap.size w w' := by
  by_cases he : s.size = 0
  · have hl : Pl.nam s = false := by simp [Pl.nam, he]
    rw [hl]
    have hz : (s.size : Int) < 1 := by omega
    clear hl
    go_enter Tryd.func34, Tryd.ntmps34
    go_wp2
    go_ret
    exact ⟨rfl, Below.refl _ _⟩
  have hpos : 0 < s.size := by omega
  have hge : ¬ ((s.size : Int) < 1) := by omega
  by_cases hb : 40 < s.size
  · have hl : Pl.nam s = false := by simp [Pl.nam]; omega
    rw [hl]
    have hz : (40 : Int) < (s.size : Int) := by omega
    clear hl he
    go_enter Tryd.func34, Tryd.ntmps34
    go_wp2
    go_ret
    exact ⟨rfl, Below.refl _ _⟩
  have h40 : (s.size : Int) ≤ 40 := by omega
  have hd40 : decide ((40 : Int) < (s.size : Int)) = false := by simpa using h40
  cases hd : Pl.dg (Pl.byt s 0)
  rotate_left
  · have hl : Pl.nam s = false := by simp [Pl.nam, hd]
    rw [hl]
    clear hl he
    go_enter Tryd.func34, Tryd.ntmps34
    go_wp2_with (go_at_call 41; refine (l4Digit_any _ _).mono ?_; rintro e u1 ⟨rfl, rfl⟩; rw [Pl.byt_get s 0 hpos, hd])
    go_ret
    exact ⟨rfl, Below.refl _ _⟩
  have HK : Hid (∀ u : World, SRow u.heap.size (u.alloc (.cells Pl.kwTab 9)) (some ⟨u.heap.size, 0, none⟩) 23 23 Pl.kws) := kws_row
  cases hin : Pl.inS Pl.kws s
  rotate_left
  · have hl : Pl.nam s = false := by simp [Pl.nam, hin]
    rw [hl]
    clear hl he
    go_enter Tryd.func34, Tryd.ntmps34
    go_wp2_with (first | (go_at_call 41; refine (l4Digit_any _ _).mono ?_; rintro e u1 ⟨rfl, rfl⟩; rw [Pl.byt_get s 0 hpos, hd]) | (go_at_call 42; refine (l5Keys_any _).mono ?_; rintro e u1 ⟨rfl, rfl⟩) | (go_at_call 35; refine (l5In_any _ _ _ Pl.kws s _ (HK.out _)).mono ?_; rintro e u2 ⟨rfl, g2⟩; rw [hin]; have G2 : Hid _ := g2; clear g2))
    go_ret
    exact ⟨rfl, (below_alloc _ _).trans (G2.out.mono (by simp))⟩
  go_enter Tryd.func34, Tryd.ntmps34
  go_wp2_with (first | (go_at_call 41; refine (l4Digit_any _ _).mono ?_; rintro e u1 ⟨rfl, hu⟩; have hu' := hu.symm; clear hu; subst hu'; rw [Pl.byt_get s 0 hpos, hd]) | (go_at_call 42; refine (l5Keys_any _).mono ?_; rintro e u1 ⟨rfl, rfl⟩) | (go_at_call 35; refine (l5In_any _ _ _ Pl.kws s _ (HK.out _)).mono ?_; rintro e u2 ⟨rfl, g2⟩; rw [hin]; have G2 : Hid _ := g2; clear g2))
  have G3 : Hid (Below w.heap.size w u2) := (below_alloc _ _).trans (G2.out.mono (by simp))
  clear he hb hd40
  go_loop [3] (fun x => ∃ k : Nat, k ≤ s.size ∧ x = .int .i64 k ∧ ∀ j, j < k → Pl.wch (Pl.byt s j) = true) (fun x => s.size - (intOf x).toNat)
  case atStart => exact ⟨0, Nat.zero_le _, rfl, fun j hj => absurd hj (Nat.not_lt_zero j)⟩
  case round =>
    obtain ⟨k, hk, rfl, hall⟩ := hrel
    have HA : Hid (∀ j, j < k → Pl.wch (Pl.byt s j) = true) := hall
    clear hall
    by_cases hlt : k < s.size
    · have hi : (k : Int) < (s.size : Int) := by omega
      cases hl1 : Pl.wch (Pl.byt s k)
      · go_wp2_with (go_at_call 43; refine (l5Word_any _ _).mono ?_; rintro e u1 ⟨rfl, rfl⟩; rw [Pl.byt_get s k hlt, hl1])
        go_ret
        exact ⟨ret_bool (Pl.nam_no s k hlt hl1).symm, G3.out⟩
      · go_wp2_with (go_at_call 43; refine (l5Word_any _ _).mono ?_; rintro e u1 ⟨rfl, rfl⟩; rw [Pl.byt_get s k hlt, hl1])
        go_round
        case rel => exact ⟨k + 1, by omega, by go_num, fun j hj => by
          by_cases e : j = k
          · rw [e]; exact hl1
          · exact HA.out j (by omega)⟩
        case measure => simp [intOf]; omega
    · have hkk : k = s.size := by omega
      have HL : Hid (Pl.nam s = true) := Pl.nam_yes s hpos (by omega) hd hin (by rw [← hkk]; exact HA.out)
      clear HA
      have hi : ¬ ((k : Int) < (s.size : Int)) := by omega
      go_wp2
      go_ret
      exact ⟨ret_bool HL.out.symm, G3.out⟩
end Go.Proofs.YtafcnijfoejboaaDoor.W
namespace Go.Proofs.YtafcnijfoejboaaDoor.Pl
def apart (ss : List ByteArray) : Bool := decide (∀ k, k < ss.length → nam (ss.getD k ⟨#[]⟩) = true ∧ inS (ss.take k) (ss.getD k ⟨#[]⟩) = false)
end Go.Proofs.YtafcnijfoejboaaDoor.Pl
namespace Go.Proofs.YtafcnijfoejboaaDoor.W
open Go.RowKit
theorem SRow.take {lo : Nat} {w : World} {b off : Nat} {len cap : Nat} {ss : List ByteArray} (h : SRow lo w (some ⟨b, off, none⟩) len cap ss) {k : Nat} (hk : k ≤ len) : SRow lo w (some ⟨b, off, none⟩) k cap (ss.take k) := by
  obtain ⟨⟨h1, h1'⟩, h2, h3, h4⟩ := h
  refine ⟨⟨by rw [List.length_take]; omega, fun x hx => h1' x (List.mem_of_mem_take hx)⟩, by omega, h3, ?_⟩
  rcases Nat.eq_zero_or_pos k with h0 | h0
  · exact .inl h0
  · rcases h4 with h4 | ⟨b', off', e, hlo, hlt, hc⟩
    · omega
    · refine .inr ⟨b', off', e, hlo, hlt, fun i hi => ?_⟩
      rw [hc i (by omega)]
      simp only [List.getD_eq_getElem?_getD, List.getElem?_take, hi, if_true]
def ApYMk (b o1 len cap k : Nat) (x : ByteArray) (q : Bool) (u2 u8 u9 u10 u11 u12 u13 u14 u15 u16 u17 u18 u19 u20 u21 u22 u23 u24 u25 : Value)  (L : Array Bool) : Act := { tmps := #[.slice (some ⟨b, o1, none⟩) len cap, undef, u2, .int .i64 (k : Int), .int .i64 (k : Int), .slice (some ⟨b, o1, none⟩) len cap, .int .i64 (len : Int), .bool true, u8, u9, sld u10 L 0 (.slice (some ⟨b, o1, none⟩) len cap), sld u11 L 1 (.int .i64 (k : Int)), sld u12 L 2 (.pointer (some ⟨b, o1 + k, none⟩)), sld u13 L 3 (.string x), sld u14 L 4 (.bool true), sld u15 L 5 (.bool false), sld u16 L 6 (.bool false), sld u17 L 7 (.slice (some ⟨b, o1, none⟩) len cap), sld u18 L 8 (.int .i64 (k : Int)), sld u19 L 9 (.slice (some ⟨b, o1, none⟩) k cap), sld u20 L 10 (.slice (some ⟨b, o1, none⟩) len cap), sld u21 L 11 (.int .i64 (k : Int)), sld u22 L 12 (.pointer (some ⟨b, o1 + k, none⟩)), sld u23 L 13 (.string x), sld u24 L 14 (.bool q), sld u25 L 15 (.bool q)], defers := [] }
def ApNMk (b o1 len cap k : Nat) (x : ByteArray) (q : Bool) (u2 u8 u9 u10 u11 u12 u13 u14 u15 u16 u17 u18 u19 u20 u21 u22 u23 u24 u25 : Value)  (L : Array Bool) : Act := { tmps := #[.slice (some ⟨b, o1, none⟩) len cap, undef, u2, .int .i64 (k : Int), .int .i64 (k : Int), .slice (some ⟨b, o1, none⟩) len cap, .int .i64 (len : Int), .bool true, u8, u9, sld u10 L 0 (.slice (some ⟨b, o1, none⟩) len cap), sld u11 L 1 (.int .i64 (k : Int)), sld u12 L 2 (.pointer (some ⟨b, o1 + k, none⟩)), sld u13 L 3 (.string x), sld u14 L 4 (.bool false), sld u15 L 5 (.bool true), sld u16 L 6 (.bool true), sld u17 L 7 (undef), sld u18 L 8 (undef), sld u19 L 9 (undef), sld u20 L 10 (undef), sld u21 L 11 (undef), sld u22 L 12 (undef), sld u23 L 13 (undef), sld u24 L 14 (undef), sld u25 L 15 (.bool true)], defers := [] }
set_option maxRecDepth 8000 in
set_option maxHeartbeats 4000000 in
theorem l7Apart_any {lo : Nat} (a : Option Addr) (len cap : Nat) (ss : List ByteArray) (w : World) (h : SRow lo w a len cap ss) :
    Calls Tryd.prog 19 #[.slice a len cap] w fun e w' => e = .returned (.bool (Pl.apart ss)) ∧ Below w.heap.size w w' := by
  have hs1 : (len : Int) ≤ 9223372036854775807 := by have := h.small; omega
  have H : Hid (SRow lo w a len cap ss) := h
  clear h
  go_enter Tryd.func19, Tryd.ntmps19
  go_wp2_with fail
  go_loopw [3] (fun i wr => ∃ k : Nat, k ≤ len ∧ i = .int .i64 k ∧ (∀ j, j < k → Pl.nam (ss.getD j ⟨#[]⟩) = true ∧ Pl.inS (ss.take j) (ss.getD j ⟨#[]⟩) = false) ∧ Below w.heap.size w wr) (fun i _ => len - (intOf i).toNat)
  case atStart => exact ⟨0, Nat.zero_le _, rfl, fun j hj => absurd hj (Nat.not_lt_zero _), Below.refl _ _⟩
  case round =>
    obtain ⟨k, hk, rfl, hall, hb⟩ := hrel
    have HA : Hid (∀ j, j < k → Pl.nam (ss.getD j ⟨#[]⟩) = true ∧ Pl.inS (ss.take j) (ss.getD j ⟨#[]⟩) = false) := hall
    have HB : Hid (Below w.heap.size w wr) := hb
    clear hb hall
    by_cases hlt : k < len
    · obtain ⟨b, o1, rfl, _, hbl, hc1, _⟩ := (H.out.keep HB.out).at hlt
      obtain ⟨x, hx⟩ : ∃ x, x = ss.getD k ⟨#[]⟩ := ⟨_, rfl⟩
      rw [← hx] at hc1
      have HX : Hid (x = ss.getD k ⟨#[]⟩) := hx
      clear hx
      have hi : (k : Int) < (len : Int) := by omega
      have hcap : k ≤ cap := by have := H.out.2.1; omega
      have HT : Hid (∀ u : World, Below wr.heap.size wr u → SRow lo u (some ⟨b, o1, none⟩) k cap (ss.take k)) := fun u hu => ((H.out.keep HB.out).keep hu).take (Nat.le_of_lt hlt)
      go_upto_region 4 with fail
      cases hnam : Pl.nam x
      · obtain ⟨q, hq⟩ : ∃ q : Bool, q = true := ⟨_, rfl⟩
        refine wp_region_any (by kernel_rfl) ?_
        change wpAny _ _ _ _ _ _ _ (World.drew _)
        obtain ⟨U, hU⟩ : ∃ U, U = wr.drew := ⟨_, rfl⟩
        have dU : Below wr.heap.size wr U := by rw [hU]; exact (Below.refl _ _).drew
        rw [← hU]
        refine wpAny_inw (fun L act w' => act = ApNMk b o1 len cap k x q u2 u8 u9 u10 u11 u12 u13 u14 u15 u16 u17 u18 u19 u20 u21 u22 u23 u24 u25 L ∧ Below wr.heap.size wr w') ?done (by kernel_rfl) ?step _ 16 _ _ (by kernel_rfl) ?init (by decide)
        case init => exact ⟨by simp only [ApNMk, sld_no (up_init _ _)], dU⟩
        case step =>
          intro L act w i o hI hlt hs nl hC hd ho K hK
          obtain ⟨rfl, hW⟩ := hI
          have hi_lt : i < 16 := (Array.getElem?_eq_some_iff.1 ho).1
          rcases (show i = 0 ∨ i = 1 ∨ i = 2 ∨ i = 3 ∨ i = 4 ∨ i = 5 ∨ i = 6 ∨ i = 7 ∨ i = 8 ∨ i = 9 ∨ i = 10 ∨ i = 11 ∨ i = 12 ∨ i = 13 ∨ i = 14 ∨ i = 15 by omega) with rfl | rfl | rfl | rfl | rfl | rfl | rfl | rfl | rfl | rfl | rfl | rfl | rfl | rfl | rfl | rfl
          · change some _ = some o at ho
            cases ho
            simp only [ApNMk]
            go_simp
            exact hK _ _ ⟨by simp only [ApNMk, sld_set hlt, reduceIte, Nat.reduceEqDiff]; try rfl, hW⟩
          · change some _ = some o at ho
            cases ho
            simp only [ApNMk]
            go_simp
            exact hK _ _ ⟨by simp only [ApNMk, sld_set hlt, reduceIte, Nat.reduceEqDiff]; try rfl, hW⟩
          · change some _ = some o at ho
            cases ho
            have q0 : up L 0 = true := (by first | exact hd { on := 0, ground := .data } (by simp) rfl | exact hd { on := 0, ground := .chain } (by simp) rfl | exact hd { on := 0, ground := .phase } (by simp) rfl)
            have q1 : up L 1 = true := (by first | exact hd { on := 1, ground := .data } (by simp) rfl | exact hd { on := 1, ground := .chain } (by simp) rfl | exact hd { on := 1, ground := .phase } (by simp) rfl)
            simp only [ApNMk, sld_yes q0, sld_yes q1]
            go_simp
            exact hK _ _ ⟨by simp only [ApNMk, sld_set hlt, sld_yes q0, sld_yes q1, reduceIte, Nat.reduceEqDiff]; try rfl, hW⟩
          · change some _ = some o at ho
            cases ho
            have q2 : up L 2 = true := (by first | exact hd { on := 2, ground := .data } (by simp) rfl | exact hd { on := 2, ground := .chain } (by simp) rfl | exact hd { on := 2, ground := .phase } (by simp) rfl)
            have kj := below_cell hW hc1
            simp only [ApNMk, sld_yes q2]
            go_simp
            exact hK _ _ ⟨by simp only [ApNMk, sld_set hlt, sld_yes q2, reduceIte, Nat.reduceEqDiff]; try rfl, hW⟩
          · change some _ = some o at ho
            cases ho
            have q3 : up L 3 = true := (by first | exact hd { on := 3, ground := .data } (by simp) rfl | exact hd { on := 3, ground := .chain } (by simp) rfl | exact hd { on := 3, ground := .phase } (by simp) rfl)
            simp only [ApNMk, sld_yes q3]
            go_simp
            refine (l6NameOk_any x w).mono ?_
            rintro e z ⟨rfl, dz⟩
            rw [hnam]
            go_simp
            exact hK _ _ ⟨by simp only [ApNMk, sld_set hlt, sld_yes q3, reduceIte, Nat.reduceEqDiff]; try rfl, hW.trans (dz.mono hW.size)⟩
          · change some _ = some o at ho
            cases ho
            have q4 : up L 4 = true := (by first | exact hd { on := 4, ground := .data } (by simp) rfl | exact hd { on := 4, ground := .chain } (by simp) rfl | exact hd { on := 4, ground := .phase } (by simp) rfl)
            simp only [ApNMk, sld_yes q4]
            go_simp
            exact hK _ _ ⟨by simp only [ApNMk, sld_set hlt, sld_yes q4, reduceIte, Nat.reduceEqDiff]; try rfl, hW⟩
          · change some _ = some o at ho
            cases ho
            have q5 : up L 5 = true := (by first | exact hd { on := 5, ground := .data } (by simp) rfl | exact hd { on := 5, ground := .chain } (by simp) rfl | exact hd { on := 5, ground := .phase } (by simp) rfl)
            simp only [ApNMk, sld_yes q5]
            go_simp
            exact hK _ _ ⟨by simp only [ApNMk, sld_set hlt, sld_yes q5, reduceIte, Nat.reduceEqDiff]; try rfl, hW⟩
          · change some _ = some o at ho
            cases ho
            have q6 : up L 6 = true := (hd { on := 6, ground := .guard } (by simp) rfl)
            simp only [ApNMk, sld_yes q6]
            go_simp
            exact hK _ _ ⟨by simp only [ApNMk, sld_set hlt, sld_yes q6, reduceIte, Nat.reduceEqDiff]; try rfl, hW⟩
          · change some _ = some o at ho
            cases ho
            have q6 : up L 6 = true := (hd { on := 6, ground := .guard } (by simp) rfl)
            simp only [ApNMk, sld_yes q6]
            go_simp
            exact hK _ _ ⟨by simp only [ApNMk, sld_set hlt, sld_yes q6, reduceIte, Nat.reduceEqDiff]; try rfl, hW⟩
          · change some _ = some o at ho
            cases ho
            have q6 : up L 6 = true := (hd { on := 6, ground := .guard } (by simp) rfl)
            have q7 : up L 7 = true := (by first | exact hd { on := 7, ground := .data } (by simp) rfl | exact hd { on := 7, ground := .chain } (by simp) rfl | exact hd { on := 7, ground := .phase } (by simp) rfl)
            have q8 : up L 8 = true := (by first | exact hd { on := 8, ground := .data } (by simp) rfl | exact hd { on := 8, ground := .chain } (by simp) rfl | exact hd { on := 8, ground := .phase } (by simp) rfl)
            simp only [ApNMk, sld_yes q6, sld_yes q7, sld_yes q8]
            go_simp
            exact hK _ _ ⟨by simp only [ApNMk, sld_set hlt, sld_yes q6, sld_yes q7, sld_yes q8, reduceIte, Nat.reduceEqDiff]; try rfl, hW⟩
          · change some _ = some o at ho
            cases ho
            have q6 : up L 6 = true := (hd { on := 6, ground := .guard } (by simp) rfl)
            simp only [ApNMk, sld_yes q6]
            go_simp
            exact hK _ _ ⟨by simp only [ApNMk, sld_set hlt, sld_yes q6, reduceIte, Nat.reduceEqDiff]; try rfl, hW⟩
          · change some _ = some o at ho
            cases ho
            have q6 : up L 6 = true := (hd { on := 6, ground := .guard } (by simp) rfl)
            simp only [ApNMk, sld_yes q6]
            go_simp
            exact hK _ _ ⟨by simp only [ApNMk, sld_set hlt, sld_yes q6, reduceIte, Nat.reduceEqDiff]; try rfl, hW⟩
          · change some _ = some o at ho
            cases ho
            have q6 : up L 6 = true := (hd { on := 6, ground := .guard } (by simp) rfl)
            have q10 : up L 10 = true := (by first | exact hd { on := 10, ground := .data } (by simp) rfl | exact hd { on := 10, ground := .chain } (by simp) rfl | exact hd { on := 10, ground := .phase } (by simp) rfl)
            have q11 : up L 11 = true := (by first | exact hd { on := 11, ground := .data } (by simp) rfl | exact hd { on := 11, ground := .chain } (by simp) rfl | exact hd { on := 11, ground := .phase } (by simp) rfl)
            simp only [ApNMk, sld_yes q6, sld_yes q10, sld_yes q11]
            go_simp
            exact hK _ _ ⟨by simp only [ApNMk, sld_set hlt, sld_yes q6, sld_yes q10, sld_yes q11, reduceIte, Nat.reduceEqDiff]; try rfl, hW⟩
          · change some _ = some o at ho
            cases ho
            have q6 : up L 6 = true := (hd { on := 6, ground := .guard } (by simp) rfl)
            have q12 : up L 12 = true := (by first | exact hd { on := 12, ground := .data } (by simp) rfl | exact hd { on := 12, ground := .chain } (by simp) rfl | exact hd { on := 12, ground := .phase } (by simp) rfl)
            have kj := below_cell hW hc1
            simp only [ApNMk, sld_yes q6, sld_yes q12]
            go_simp
            exact hK _ _ ⟨by simp only [ApNMk, sld_set hlt, sld_yes q6, sld_yes q12, reduceIte, Nat.reduceEqDiff]; try rfl, hW⟩
          · change some _ = some o at ho
            cases ho
            have q6 : up L 6 = true := (hd { on := 6, ground := .guard } (by simp) rfl)
            have q9 : up L 9 = true := (by first | exact hd { on := 9, ground := .data } (by simp) rfl | exact hd { on := 9, ground := .chain } (by simp) rfl | exact hd { on := 9, ground := .phase } (by simp) rfl)
            have q13 : up L 13 = true := (by first | exact hd { on := 13, ground := .data } (by simp) rfl | exact hd { on := 13, ground := .chain } (by simp) rfl | exact hd { on := 13, ground := .phase } (by simp) rfl)
            simp only [ApNMk, sld_yes q6, sld_yes q9, sld_yes q13]
            go_simp
            exact hK _ _ ⟨by simp only [ApNMk, sld_set hlt, sld_yes q6, sld_yes q9, sld_yes q13, reduceIte, Nat.reduceEqDiff]; try rfl, hW⟩
          · change some _ = some o at ho
            cases ho
            have q6 : up L 6 = true := (by first | exact hd { on := 6, ground := .data } (by simp) rfl | exact hd { on := 6, ground := .chain } (by simp) rfl | exact hd { on := 6, ground := .phase } (by simp) rfl)
            have q14 : up L 14 = true := (by first | exact hd { on := 14, ground := .data } (by simp) rfl | exact hd { on := 14, ground := .chain } (by simp) rfl | exact hd { on := 14, ground := .phase } (by simp) rfl)
            simp only [ApNMk, sld_yes q6, sld_yes q14]
            go_simp
            exact hK _ _ ⟨by simp only [ApNMk, sld_set hlt, sld_yes q6, sld_yes q14, reduceIte, Nat.reduceEqDiff]; try rfl, hW⟩
        case done =>
          rintro L act u9 ⟨rfl, hW⟩ hall
          have B9 : Hid (Below w.heap.size w u9) := HB.out.trans (hW.mono HB.out.size)
          clear hW
          simp only [ApNMk, sld_yes (hall 0 (by decide)), sld_yes (hall 1 (by decide)), sld_yes (hall 2 (by decide)), sld_yes (hall 3 (by decide)), sld_yes (hall 4 (by decide)), sld_yes (hall 5 (by decide)), sld_yes (hall 6 (by decide)), sld_yes (hall 7 (by decide)), sld_yes (hall 8 (by decide)), sld_yes (hall 9 (by decide)), sld_yes (hall 10 (by decide)), sld_yes (hall 11 (by decide)), sld_yes (hall 12 (by decide)), sld_yes (hall 13 (by decide)), sld_yes (hall 14 (by decide)), sld_yes (hall 15 (by decide))]
          go_wp2_with fail
          go_ret
          refine ⟨ret_bool (Eq.symm (decide_eq_false fun hc => ?_)), B9.out⟩
          have h1 := (hc k (by rw [H.out.1.1]; exact hlt)).1
          rw [← HX.out, hnam] at h1
          cases h1
      · obtain ⟨q, hq⟩ : ∃ q : Bool, q = Pl.inS (ss.take k) x := ⟨_, rfl⟩
        have HQ : Hid (q = Pl.inS (ss.take k) x) := hq
        clear hq
        refine wp_region_any (by kernel_rfl) ?_
        change wpAny _ _ _ _ _ _ _ (World.drew _)
        obtain ⟨U, hU⟩ : ∃ U, U = wr.drew := ⟨_, rfl⟩
        have dU : Below wr.heap.size wr U := by rw [hU]; exact (Below.refl _ _).drew
        rw [← hU]
        refine wpAny_inw (fun L act w' => act = ApYMk b o1 len cap k x q u2 u8 u9 u10 u11 u12 u13 u14 u15 u16 u17 u18 u19 u20 u21 u22 u23 u24 u25 L ∧ Below wr.heap.size wr w') ?done (by kernel_rfl) ?step _ 16 _ _ (by kernel_rfl) ?init (by decide)
        case init => exact ⟨by simp only [ApYMk, sld_no (up_init _ _)], dU⟩
        case step =>
          intro L act w i o hI hlt hs nl hC hd ho K hK
          obtain ⟨rfl, hW⟩ := hI
          have hi_lt : i < 16 := (Array.getElem?_eq_some_iff.1 ho).1
          rcases (show i = 0 ∨ i = 1 ∨ i = 2 ∨ i = 3 ∨ i = 4 ∨ i = 5 ∨ i = 6 ∨ i = 7 ∨ i = 8 ∨ i = 9 ∨ i = 10 ∨ i = 11 ∨ i = 12 ∨ i = 13 ∨ i = 14 ∨ i = 15 by omega) with rfl | rfl | rfl | rfl | rfl | rfl | rfl | rfl | rfl | rfl | rfl | rfl | rfl | rfl | rfl | rfl
          · change some _ = some o at ho
            cases ho
            simp only [ApYMk]
            go_simp
            exact hK _ _ ⟨by simp only [ApYMk, sld_set hlt, reduceIte, Nat.reduceEqDiff]; try rfl, hW⟩
          · change some _ = some o at ho
            cases ho
            simp only [ApYMk]
            go_simp
            exact hK _ _ ⟨by simp only [ApYMk, sld_set hlt, reduceIte, Nat.reduceEqDiff]; try rfl, hW⟩
          · change some _ = some o at ho
            cases ho
            have q0 : up L 0 = true := (by first | exact hd { on := 0, ground := .data } (by simp) rfl | exact hd { on := 0, ground := .chain } (by simp) rfl | exact hd { on := 0, ground := .phase } (by simp) rfl)
            have q1 : up L 1 = true := (by first | exact hd { on := 1, ground := .data } (by simp) rfl | exact hd { on := 1, ground := .chain } (by simp) rfl | exact hd { on := 1, ground := .phase } (by simp) rfl)
            simp only [ApYMk, sld_yes q0, sld_yes q1]
            go_simp
            exact hK _ _ ⟨by simp only [ApYMk, sld_set hlt, sld_yes q0, sld_yes q1, reduceIte, Nat.reduceEqDiff]; try rfl, hW⟩
          · change some _ = some o at ho
            cases ho
            have q2 : up L 2 = true := (by first | exact hd { on := 2, ground := .data } (by simp) rfl | exact hd { on := 2, ground := .chain } (by simp) rfl | exact hd { on := 2, ground := .phase } (by simp) rfl)
            have kj := below_cell hW hc1
            simp only [ApYMk, sld_yes q2]
            go_simp
            exact hK _ _ ⟨by simp only [ApYMk, sld_set hlt, sld_yes q2, reduceIte, Nat.reduceEqDiff]; try rfl, hW⟩
          · change some _ = some o at ho
            cases ho
            have q3 : up L 3 = true := (by first | exact hd { on := 3, ground := .data } (by simp) rfl | exact hd { on := 3, ground := .chain } (by simp) rfl | exact hd { on := 3, ground := .phase } (by simp) rfl)
            simp only [ApYMk, sld_yes q3]
            go_simp
            refine (l6NameOk_any x w).mono ?_
            rintro e z ⟨rfl, dz⟩
            rw [hnam]
            go_simp
            exact hK _ _ ⟨by simp only [ApYMk, sld_set hlt, sld_yes q3, reduceIte, Nat.reduceEqDiff]; try rfl, hW.trans (dz.mono hW.size)⟩
          · change some _ = some o at ho
            cases ho
            have q4 : up L 4 = true := (by first | exact hd { on := 4, ground := .data } (by simp) rfl | exact hd { on := 4, ground := .chain } (by simp) rfl | exact hd { on := 4, ground := .phase } (by simp) rfl)
            simp only [ApYMk, sld_yes q4]
            go_simp
            exact hK _ _ ⟨by simp only [ApYMk, sld_set hlt, sld_yes q4, reduceIte, Nat.reduceEqDiff]; try rfl, hW⟩
          · change some _ = some o at ho
            cases ho
            have q5 : up L 5 = true := (by first | exact hd { on := 5, ground := .data } (by simp) rfl | exact hd { on := 5, ground := .chain } (by simp) rfl | exact hd { on := 5, ground := .phase } (by simp) rfl)
            simp only [ApYMk, sld_yes q5]
            go_simp
            exact hK _ _ ⟨by simp only [ApYMk, sld_set hlt, sld_yes q5, reduceIte, Nat.reduceEqDiff]; try rfl, hW⟩
          · change some _ = some o at ho
            cases ho
            have q6 : up L 6 = true := (hd { on := 6, ground := .guard } (by simp) rfl)
            simp only [ApYMk, sld_yes q6]
            go_simp
            exact hK _ _ ⟨by simp only [ApYMk, sld_set hlt, sld_yes q6, reduceIte, Nat.reduceEqDiff]; try rfl, hW⟩
          · change some _ = some o at ho
            cases ho
            have q6 : up L 6 = true := (hd { on := 6, ground := .guard } (by simp) rfl)
            simp only [ApYMk, sld_yes q6]
            go_simp
            exact hK _ _ ⟨by simp only [ApYMk, sld_set hlt, sld_yes q6, reduceIte, Nat.reduceEqDiff]; try rfl, hW⟩
          · change some _ = some o at ho
            cases ho
            have q6 : up L 6 = true := (hd { on := 6, ground := .guard } (by simp) rfl)
            have q7 : up L 7 = true := (by first | exact hd { on := 7, ground := .data } (by simp) rfl | exact hd { on := 7, ground := .chain } (by simp) rfl | exact hd { on := 7, ground := .phase } (by simp) rfl)
            have q8 : up L 8 = true := (by first | exact hd { on := 8, ground := .data } (by simp) rfl | exact hd { on := 8, ground := .chain } (by simp) rfl | exact hd { on := 8, ground := .phase } (by simp) rfl)
            simp only [ApYMk, sld_yes q6, sld_yes q7, sld_yes q8]
            go_simp
            exact hK _ _ ⟨by simp only [ApYMk, sld_set hlt, sld_yes q6, sld_yes q7, sld_yes q8, reduceIte, Nat.reduceEqDiff]; try rfl, hW⟩
          · change some _ = some o at ho
            cases ho
            have q6 : up L 6 = true := (hd { on := 6, ground := .guard } (by simp) rfl)
            simp only [ApYMk, sld_yes q6]
            go_simp
            exact hK _ _ ⟨by simp only [ApYMk, sld_set hlt, sld_yes q6, reduceIte, Nat.reduceEqDiff]; try rfl, hW⟩
          · change some _ = some o at ho
            cases ho
            have q6 : up L 6 = true := (hd { on := 6, ground := .guard } (by simp) rfl)
            simp only [ApYMk, sld_yes q6]
            go_simp
            exact hK _ _ ⟨by simp only [ApYMk, sld_set hlt, sld_yes q6, reduceIte, Nat.reduceEqDiff]; try rfl, hW⟩
          · change some _ = some o at ho
            cases ho
            have q6 : up L 6 = true := (hd { on := 6, ground := .guard } (by simp) rfl)
            have q10 : up L 10 = true := (by first | exact hd { on := 10, ground := .data } (by simp) rfl | exact hd { on := 10, ground := .chain } (by simp) rfl | exact hd { on := 10, ground := .phase } (by simp) rfl)
            have q11 : up L 11 = true := (by first | exact hd { on := 11, ground := .data } (by simp) rfl | exact hd { on := 11, ground := .chain } (by simp) rfl | exact hd { on := 11, ground := .phase } (by simp) rfl)
            simp only [ApYMk, sld_yes q6, sld_yes q10, sld_yes q11]
            go_simp
            exact hK _ _ ⟨by simp only [ApYMk, sld_set hlt, sld_yes q6, sld_yes q10, sld_yes q11, reduceIte, Nat.reduceEqDiff]; try rfl, hW⟩
          · change some _ = some o at ho
            cases ho
            have q6 : up L 6 = true := (hd { on := 6, ground := .guard } (by simp) rfl)
            have q12 : up L 12 = true := (by first | exact hd { on := 12, ground := .data } (by simp) rfl | exact hd { on := 12, ground := .chain } (by simp) rfl | exact hd { on := 12, ground := .phase } (by simp) rfl)
            have kj := below_cell hW hc1
            simp only [ApYMk, sld_yes q6, sld_yes q12]
            go_simp
            exact hK _ _ ⟨by simp only [ApYMk, sld_set hlt, sld_yes q6, sld_yes q12, reduceIte, Nat.reduceEqDiff]; try rfl, hW⟩
          · change some _ = some o at ho
            cases ho
            have q6 : up L 6 = true := (hd { on := 6, ground := .guard } (by simp) rfl)
            have q9 : up L 9 = true := (by first | exact hd { on := 9, ground := .data } (by simp) rfl | exact hd { on := 9, ground := .chain } (by simp) rfl | exact hd { on := 9, ground := .phase } (by simp) rfl)
            have q13 : up L 13 = true := (by first | exact hd { on := 13, ground := .data } (by simp) rfl | exact hd { on := 13, ground := .chain } (by simp) rfl | exact hd { on := 13, ground := .phase } (by simp) rfl)
            simp only [ApYMk, sld_yes q6, sld_yes q9, sld_yes q13]
            go_simp
            refine (l5In_any _ _ _ (ss.take k) x w (HT.out w hW)).mono ?_
            rintro e z ⟨rfl, dz⟩
            rw [← HQ.out]
            go_simp
            exact hK _ _ ⟨by simp only [ApYMk, sld_set hlt, sld_yes q6, sld_yes q9, sld_yes q13, reduceIte, Nat.reduceEqDiff]; try rfl, hW.trans (dz.mono hW.size)⟩
          · change some _ = some o at ho
            cases ho
            have q6 : up L 6 = true := (by first | exact hd { on := 6, ground := .data } (by simp) rfl | exact hd { on := 6, ground := .chain } (by simp) rfl | exact hd { on := 6, ground := .phase } (by simp) rfl)
            have q14 : up L 14 = true := (by first | exact hd { on := 14, ground := .data } (by simp) rfl | exact hd { on := 14, ground := .chain } (by simp) rfl | exact hd { on := 14, ground := .phase } (by simp) rfl)
            simp only [ApYMk, sld_yes q6, sld_yes q14]
            go_simp
            exact hK _ _ ⟨by simp only [ApYMk, sld_set hlt, sld_yes q6, sld_yes q14, reduceIte, Nat.reduceEqDiff]; try rfl, hW⟩
        case done =>
          rintro L act u9 ⟨rfl, hW⟩ hall
          have B9 : Hid (Below w.heap.size w u9) := HB.out.trans (hW.mono HB.out.size)
          clear hW
          simp only [ApYMk, sld_yes (hall 0 (by decide)), sld_yes (hall 1 (by decide)), sld_yes (hall 2 (by decide)), sld_yes (hall 3 (by decide)), sld_yes (hall 4 (by decide)), sld_yes (hall 5 (by decide)), sld_yes (hall 6 (by decide)), sld_yes (hall 7 (by decide)), sld_yes (hall 8 (by decide)), sld_yes (hall 9 (by decide)), sld_yes (hall 10 (by decide)), sld_yes (hall 11 (by decide)), sld_yes (hall 12 (by decide)), sld_yes (hall 13 (by decide)), sld_yes (hall 14 (by decide)), sld_yes (hall 15 (by decide))]
          cases q
          · go_wp2_with fail
            go_roundw
            case rel => exact ⟨k + 1, by omega, by go_num, fun j hj => by
              by_cases e : j = k
              · rw [e, ← HX.out]; exact ⟨hnam, HQ.out.symm⟩
              · exact HA.out j (by omega), B9.out⟩
            case measure => simp [intOf]; omega
          · go_wp2_with fail
            go_ret
            refine ⟨ret_bool (Eq.symm (decide_eq_false fun hc => ?_)), B9.out⟩
            have h1 := (hc k (by rw [H.out.1.1]; exact hlt)).2
            rw [← HX.out, ← HQ.out] at h1
            cases h1
    · have hke : k = len := by omega
      have hi : ¬ ((k : Int) < (len : Int)) := by omega
      go_wp2
      go_ret
      exact ⟨ret_bool (Eq.symm (decide_eq_true fun j hj => HA.out j (by rw [H.out.1.1] at hj; omega))), HB.out⟩
end Go.Proofs.YtafcnijfoejboaaDoor.W
