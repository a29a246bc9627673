import Derived.Test.YtcgfgmlfbgbkfaaGreatDoorQ02
import Derived.BigQuiet
import Derived.Test.YtcgfgmlfbgbkfaaGreatDoorQ00
set_option linter.unusedVariables false
set_option linter.unusedSimpArgs false
namespace Go.Proofs.YtcgfgmlfbgbkfaaGreatDoor.Pl
/-- the places of the calls, ascending -/
structure CallL (code : List IrI) (xs : List Int) : Prop where
  asc : ∀ i j, i < j → j < xs.length → xs.getD i 0 < xs.getD j 0
  all : ∀ p : Int, p ∈ xs ↔ ∃ k : Nat, p = (k : Int) ∧ k < code.length ∧ isCall code k
/-- the answer of crosses -/
theorem CallL.crs {code : List IrI} {xs : List Int} (h : CallL code xs) {fr tt : Int} {k : Nat} (hk : k ≤ xs.length) (htt : tt ≤ code.length) (h1 : ∀ i, i < k → xs.getD i 0 < fr + 1) (h2 : ∀ i, k ≤ i → i < xs.length → fr + 1 ≤ xs.getD i 0) (b : Bool) (hb : b = true ↔ k < xs.length ∧ xs.getD k 0 < tt) : Crs code fr tt b := by
  unfold Crs
  rw [hb]
  constructor
  · rintro ⟨hl, hlt⟩
    have hm : xs.getD k 0 ∈ xs := by rw [List.getD_eq_getElem?_getD, List.getElem?_eq_getElem hl]; exact List.getElem_mem _
    obtain ⟨q, e, hq, hc⟩ := (h.all _).1 hm
    have := h2 k (Nat.le_refl _) hl
    exact ⟨q, by omega, by omega, hc⟩
  · rintro ⟨q, hq1, hq2, hc⟩
    have hm := (h.all (q : Int)).2 ⟨q, rfl, by omega, hc⟩
    obtain ⟨j, hj, e⟩ := List.getElem_of_mem hm
    have ej : xs.getD j 0 = (q : Int) := by rw [List.getD_eq_getElem?_getD, List.getElem?_eq_getElem hj, e]; rfl
    have hkj : k ≤ j := Nat.le_of_not_lt fun c => by have := h1 j c; omega
    refine ⟨by omega, ?_⟩
    by_cases e2 : k = j
    · subst e2; omega
    · have := h.asc k j (by omega) hj; omega
end Go.Proofs.YtcgfgmlfbgbkfaaGreatDoor.Pl
namespace Go.Proofs.YtcgfgmlfbgbkfaaGreatDoor.W
open Go.RowKit
def CrossI (xs : List Int) (n : Nat) (fr tt : Int) (e : Ending) : Prop := ∃ (k : Nat) (b : Bool), e = .returned (.bool b) ∧ k ≤ n ∧ (∀ i, i < k → xs.getD i 0 < fr + 1) ∧ (∀ i, k ≤ i → i < n → fr + 1 ≤ xs.getD i 0) ∧ (b = true ↔ k < n ∧ xs.getD k 0 < tt)
set_option maxHeartbeats 4000000 in
set_option maxRecDepth 100000 in
theorem crosses_is (g n c : Nat) (xs : List Int) (fr tt : Int) (cr : Bool) (w : World) (hn : n = xs.length) (hb : n ≤ 10000) (hc : ∀ i, i < n → w.cell? ⟨g, i, none⟩ = some (.int .i64 (xs.getD i 0))) (hg : g < w.heap.size) (hs : ∀ i j, i < j → j < n → xs.getD i 0 < xs.getD j 0) (hf : -1 ≤ fr ∧ fr ≤ 10000) (ht : -1 ≤ tt ∧ tt ≤ 10000) :
    Calls Tryz.prog 76 #[.agg #[.int .i64 fr, .int .i64 tt, .bool cr], .slice (some ⟨g, 0, none⟩) n c] w fun e w' => CrossI xs n fr tt e ∧ Below w.heap.size w w' := by
  have HSE : Hid (∀ u : World, Below w.heap.size w u → Calls Tryz.prog 102 #[.slice (some ⟨g, 0, none⟩) n c, .int .i64 (fr + 1)] u fun e w' => Found xs n (fr + 1) e ∧ w' = u) := fun u hu => search_is g n c xs (fr + 1) u hn hb (fun i hi => (hu.cell (p := ⟨g, i, none⟩) hg).trans (hc i hi)) (fun i j hij hj => if e : i = j then by rw [e]; exact Int.le_refl _ else Int.le_of_lt (hs i j (by omega) hj))
  have HC : Hid (∀ u : World, Below w.heap.size w u → ∀ i, i < n → u.cell? ⟨g, i, none⟩ = some (.int .i64 (xs.getD i 0))) := fun u hu i hi => (hu.cell (p := ⟨g, i, none⟩) hg).trans (hc i hi)
  clear hn hc hs
  go_enter Tryz.func76, Tryz.ntmps76
  go_wp2_with fail
  refine ty_at fun u0 hu0 => ?_
  have H0 : Hid (Below w.heap.size w u0 ∧ u0.heap[w.heap.size]? = some (.cells #[.int .i64 fr, .int .i64 tt, .bool cr] 73 (0, 0))) := by
    rw [hu0]
    exact ⟨below_alloc w _, heap_alloc_new w _⟩
  clear hu0
  refine (HSE.out u0 H0.out.1).mono ?_
  rintro e u1 ⟨⟨k, b, rfl, hk, h1, h2⟩, rfl⟩
  have HK : Hid (k ≤ n ∧ (∀ i, i < k → xs.getD i 0 < fr + 1) ∧ ∀ i, k ≤ i → i < n → fr + 1 ≤ xs.getD i 0) := ⟨hk, h1, h2⟩
  have s1 : u1.cell? ⟨w.heap.size, 1, none⟩ = some (.int .i64 tt) := by rw [cell_of_row u1 _ 1 _ _ (0, 0) H0.out.2]; rfl
  clear h1 h2 HSE
  by_cases hkn : k < n
  · have hki : (k : Int) < (n : Int) := by omega
    have hkd : decide ((k : Int) < (n : Int)) = true := by simp; omega
    have c1 := HC.out u1 H0.out.1 k hkn
    obtain ⟨x, hx⟩ : ∃ x, x = xs.getD k 0 := ⟨_, rfl⟩
    rw [← hx] at c1
    have HE : Hid (x = xs.getD k 0) := hx
    clear hx
    by_cases hxt : x < tt
    · have hxd : decide (x < tt) = true := by simp [hxt]
      go_wp2_with fail
      go_quiet (fail)
      go_wp2_with fail
      go_ret
      exact ⟨⟨k, true, rfl, HK.out.1, HK.out.2.1, HK.out.2.2, ⟨fun _ => ⟨by omega, by have := HE.out; omega⟩, fun _ => rfl⟩⟩, by repeat (first | exact H0.out.1 | refine below_drewN ?_ _)⟩
    · have hxd : decide (x < tt) = false := by simp; omega
      go_wp2_with fail
      go_quiet (fail)
      go_wp2_with fail
      go_ret
      exact ⟨⟨k, false, rfl, HK.out.1, HK.out.2.1, HK.out.2.2, ⟨(fun c => nomatch c), fun c => absurd c.2 (by have := HE.out; omega)⟩⟩, by repeat (first | exact H0.out.1 | refine below_drewN ?_ _)⟩
  · have hki : ¬ (k : Int) < (n : Int) := by omega
    have hkd : decide ((k : Int) < (n : Int)) = false := by simp; omega
    go_wp2_with fail
    go_quiet (fail)
    go_wp2_with fail
    go_ret
    exact ⟨⟨k, false, rfl, HK.out.1, HK.out.2.1, HK.out.2.2, ⟨(fun c => nomatch c), fun c => absurd c.1 (by omega)⟩⟩, by repeat (first | exact H0.out.1 | refine below_drewN ?_ _)⟩
end Go.Proofs.YtcgfgmlfbgbkfaaGreatDoor.W
