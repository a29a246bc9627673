import Derived.Test.YtfcfnbncgadomaaMacB
import Derived.Test.YtfcfnbncgadomaaMacM
import Derived.Deep.Cut
import Derived.Deep.DeepCutAuto
import Derived.Deep.CutRange
import Derived.Laws.MakeOwn
import Derived.Laws.OwnMore
set_option linter.unusedVariables false
set_option linter.unusedSimpArgs false
namespace Go.Proofs.Ytfcfnbncgadomaa.Pl
/-- a node of a tree -/
structure Nd where
  k : Int
  m : Int
  n : Int
  s : ByteArray
  kids : List Int
  line : Int
  col : Int
def Nd.cells (x : Nd) (v : W.SV) : Array Value := #[.int .i64 x.k, .int .i64 x.m, .int .i64 x.n, .string x.s, .slice v.a v.len v.cap, .int .i64 x.line, .int .i64 x.col]
def Nd.zero : Nd := ⟨0, 0, 0, ⟨#[]⟩, [], 0, 0⟩
end Go.Proofs.Ytfcfnbncgadomaa.Pl
namespace Go.Proofs.Ytfcfnbncgadomaa.W
open Go.RowKit
/-- a slice of nodes that is read -/
def NRow (lo : Nat) (w : World) (a : Option Addr) (len cap : Nat) (xs : List Pl.Nd) : Prop :=
  (xs.length = len ∧ ∀ x ∈ xs, x.s.size ≤ maxLen) ∧ len ≤ cap ∧ cap ≤ maxLen ∧ (len = 0 ∨ ∃ b off, a = some ⟨b, off, none⟩ ∧ lo ≤ b ∧ b < w.heap.size ∧ ∀ i, i < len → ∃ v : SV, (∀ j, j < 7 → w.cell? ⟨b, off + i * 7 + j, none⟩ = ((xs.getD i Pl.Nd.zero).cells v)[j]?) ∧ Row .i64 lo w v.a v.len v.cap (xs.getD i Pl.Nd.zero).kids)
theorem NRow.keep {lo : Nat} {w w' : World} {a : Option Addr} {len cap : Nat} {xs : List Pl.Nd} (h : NRow lo w a len cap xs) (hb : Below w.heap.size w w') : NRow lo w' a len cap xs := by
  obtain ⟨h1, h2, h3, h4⟩ := h
  refine ⟨h1, h2, h3, ?_⟩
  rcases h4 with h4 | ⟨b, off, ha, hlo, hlt, hc⟩
  · exact .inl h4
  · refine .inr ⟨b, off, ha, hlo, Nat.lt_of_lt_of_le hlt hb.size, fun i hi => ?_⟩
    obtain ⟨v, h5, h6⟩ := hc i hi
    exact ⟨v, fun j hj => (hb.cell (p := ⟨b, off + i * 7 + j, none⟩) hlt).trans (h5 j hj), h6.keep hb⟩
theorem NRow.at {lo : Nat} {w : World} {a : Option Addr} {len cap : Nat} {xs : List Pl.Nd} (h : NRow lo w a len cap xs) {k : Nat} (hk : k < len) :
    ∃ (b off : Nat) (v : SV), a = some ⟨b, off, none⟩ ∧ lo ≤ b ∧ b < w.heap.size ∧ (∀ j, j < 7 → w.cell? ⟨b, off + k * 7 + j, none⟩ = ((xs.getD k Pl.Nd.zero).cells v)[j]?) ∧ Row .i64 lo w v.a v.len v.cap (xs.getD k Pl.Nd.zero).kids ∧ (xs.getD k Pl.Nd.zero).s.size ≤ maxLen := by
  obtain ⟨h1, h2, h3, h4⟩ := h
  rcases h4 with h4 | ⟨b, off, ha, hlo, hlt, hc⟩
  · omega
  · obtain ⟨v, h5, h6⟩ := hc k hk
    refine ⟨b, off, v, ha, hlo, hlt, h5, h6, ?_⟩
    rw [List.getD_eq_getElem?_getD, List.getElem?_eq_getElem (by rw [h1.1]; exact hk)]
    exact h1.2 _ (List.getElem_mem _)
theorem nd_cells {u : World} {b o : Nat} {x : Pl.Nd} {v : SV} (h : ∀ j, j < 7 → u.cell? ⟨b, o + j, none⟩ = (x.cells v)[j]?) : u.cell? ⟨b, o, none⟩ = some (.int .i64 x.k) ∧ u.cell? ⟨b, o + 1, none⟩ = some (.int .i64 x.m) ∧ u.cell? ⟨b, o + 2, none⟩ = some (.int .i64 x.n) ∧ u.cell? ⟨b, o + 3, none⟩ = some (.string x.s) ∧ u.cell? ⟨b, o + 4, none⟩ = some (.slice v.a v.len v.cap) ∧ u.cell? ⟨b, o + 5, none⟩ = some (.int .i64 x.line) ∧ u.cell? ⟨b, o + 6, none⟩ = some (.int .i64 x.col) :=
  ⟨h 0 (by decide), h 1 (by decide), h 2 (by decide), h 3 (by decide), h 4 (by decide), h 5 (by decide), h 6 (by decide)⟩
set_option maxHeartbeats 1000000 in
theorem szNode_at (x : Pl.Nd) (v : SV) (left : Int) (hl : 0 ≤ left ∧ left ≤ 1048576) (hs : x.s.size ≤ maxLen) (hv : v.len ≤ 9223372036854775807) (w : World) : Calls Try.prog 63 #[.agg #[.int .i64 x.k, .int .i64 x.m, .int .i64 x.n, .string x.s, .slice v.a v.len v.cap, .int .i64 x.line, .int .i64 x.col], .int .i64 left] w fun e w' => ∃ r : Int, e = .returned (.int .i64 r) ∧ (0 ≤ r → r ≤ left ∧ v.len ≤ 1048576) ∧ Below w.heap.size w w' := by
  have hs' : (x.s.size : Int) ≤ 9223372036854775807 := by unfold maxLen at hs; omega
  clear hs
  by_cases c1 : (x.s.size : Int) ≤ left
  rotate_left
  · go_enter Try.func63, Try.ntmps63
    go_wp2
    go_ret
    exact ⟨-1, rfl, fun q => absurd q (by decide), below_alloc _ _⟩
  by_cases c2 : (x.s.size : Int) + (v.len : Int) ≤ left
  · go_enter Try.func63, Try.ntmps63
    go_wp2_with (go_at_call 79; refine (szIntS_yes _ _ _ _ hv (by omega) (by omega) _).mono ?_; rintro e w' ⟨rfl, rfl⟩)
    go_ret
    exact ⟨_, rfl, fun q => ⟨by omega, by omega⟩, below_alloc _ _⟩
  · go_enter Try.func63, Try.ntmps63
    go_wp2_with (go_at_call 79; refine (szIntS_no _ _ _ _ hv (by omega) (by omega) _).mono ?_; rintro e w' ⟨rfl, rfl⟩)
    go_ret
    exact ⟨-1, rfl, fun q => absurd q (by decide), below_alloc _ _⟩
set_option maxHeartbeats 2000000 in
theorem szNodeS_any {lo : Nat} (a : Option Addr) (len cap : Nat) (xs : List Pl.Nd) (left : Int) (hleft : 0 ≤ left ∧ left ≤ 1048576) (w : World) (h : NRow lo w a len cap xs) : Calls Try.prog 39 #[.slice a len cap, .int .i64 left] w fun e w' => ∃ r : Int, e = .returned (.int .i64 r) ∧ (0 ≤ r → r ≤ left ∧ len ≤ 1048576 ∧ ∀ i, i < len → (xs.getD i Pl.Nd.zero).kids.length ≤ 1048576) ∧ Below w.heap.size w w' := by
  have hm : (len : Int) ≤ 9223372036854775807 := by have := h.2.1; have h3 := h.2.2.1; unfold maxLen at h3; omega
  by_cases hb : left < (len : Int)
  · go_enter Try.func39, Try.ntmps39
    go_wp2
    go_ret
    exact ⟨-1, rfl, fun q => absurd q (by decide), Below.refl _ _⟩
  have HR : Hid (NRow lo w a len cap xs) := h
  clear h
  go_enter Try.func39, Try.ntmps39
  go_wp2_with fail
  go_loopw [1, 5] (fun v i wr => ∃ (k : Nat) (r : Int), k ≤ len ∧ i = .int .i64 k ∧ v = .int .i64 r ∧ 0 ≤ r ∧ r ≤ left ∧ (∀ i, i < k → (xs.getD i Pl.Nd.zero).kids.length ≤ 1048576) ∧ Below w.heap.size w wr) (fun _ i _ => len - (intOf i).toNat)
  case atStart => exact ⟨0, left - len, Nat.zero_le _, rfl, rfl, by omega, by omega, fun i hi => absurd hi (Nat.not_lt_zero _), Below.refl _ _⟩
  case round =>
    obtain ⟨k, r, hk, rfl, rfl, hr0, hr1, hall, hbel⟩ := hrel
    have HA : Hid (∀ i, i < k → (xs.getD i Pl.Nd.zero).kids.length ≤ 1048576) := hall
    have HB : Hid (Below w.heap.size w wr) := hbel
    clear hall hbel
    by_cases hlt : k < len
    · have hi : (k : Int) < (len : Int) := by omega
      obtain ⟨b, off, v, rfl, hlo, hb1, hc, hrow, hs⟩ := (HR.out.keep HB.out).at hlt
      obtain ⟨x, hx⟩ : ∃ x, x = xs.getD k Pl.Nd.zero := ⟨_, rfl⟩
      rw [← hx] at hc hrow hs
      obtain ⟨c0, c1, c2, c3, c4, c5, c6⟩ := nd_cells hc
      have hvl : v.len ≤ 9223372036854775807 := hrow.small
      have HX : Hid (x = xs.getD k Pl.Nd.zero ∧ x.kids.length = v.len) := ⟨hx, hrow.1⟩
      clear hc hx hrow
      go_wp2_with (go_at_call 63; refine (szNode_at x v r ⟨hr0, by omega⟩ hs hvl _).mono ?_; rintro e u1 ⟨r', rfl, hr', d1⟩)
      · go_ret
        exact ⟨_, rfl, fun q => absurd q (by decide), HB.out.trans (d1.mono HB.out.size)⟩
      · have hr2 : 0 ≤ r' := by omega
        obtain ⟨hr3, hr4⟩ := hr' hr2
        go_roundw
        case rel => exact ⟨k + 1, r', by omega, by go_num, rfl, hr2, by omega, fun i hi => by
          by_cases e : i = k
          · rw [e, ← HX.out.1, HX.out.2]; exact hr4
          · exact HA.out i (by omega), HB.out.trans (d1.mono HB.out.size)⟩
        case measure => simp [intOf]; omega
    · have hkk : k = len := by omega
      have hi : ¬ ((k : Int) < (len : Int)) := by omega
      go_wp2
      go_ret
      exact ⟨_, rfl, fun _ => ⟨by omega, by omega, fun i hi => HA.out i (by omega)⟩, HB.out⟩
theorem szTree_any {lo : Nat} (a : Option Addr) (len cap : Nat) (xs : List Pl.Nd) (left : Int) (hleft : 0 ≤ left ∧ left ≤ 1048576) (w : World) (h : NRow lo w a len cap xs) : Calls Try.prog 12 #[.agg #[.slice a len cap], .int .i64 left] w fun e w' => ∃ r : Int, e = .returned (.int .i64 r) ∧ (0 ≤ r → r ≤ left ∧ len ≤ 1048576 ∧ ∀ i, i < len → (xs.getD i Pl.Nd.zero).kids.length ≤ 1048576) ∧ Below w.heap.size w w' := by
  have HR : Hid (NRow lo w a len cap xs) := h
  clear h
  go_enter Try.func12, Try.ntmps12
  go_wp2_with (go_at_call 39; refine (szNodeS_any a len cap xs left hleft _ (HR.out.keep (below_alloc _ _))).mono ?_; rintro e u1 ⟨r, rfl, hr, d1⟩; have HQ : Hid (0 ≤ r → r ≤ left ∧ len ≤ 1048576 ∧ ∀ i, i < len → (xs.getD i Pl.Nd.zero).kids.length ≤ 1048576) := hr; clear hr)
  · go_ret
    exact ⟨_, rfl, fun q => absurd q (by decide), (below_alloc _ _).trans (d1.mono (by simp))⟩
  · go_ret
    exact ⟨_, rfl, HQ.out, (below_alloc _ _).trans (d1.mono (by simp))⟩
end Go.Proofs.Ytfcfnbncgadomaa.W
