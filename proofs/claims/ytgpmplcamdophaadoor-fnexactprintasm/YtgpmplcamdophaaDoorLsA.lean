import Derived.Test.YtgpmplcamdophaaDoorSl
import Derived.Deep.Cut
import Derived.Deep.DeepCutAuto
import Derived.Deep.CutRange
set_option linter.unusedVariables false
set_option linter.unusedSimpArgs false
namespace Go.Proofs.YtgpmplcamdophaaDoor.Pl
/-- a line: its numbers and its text -/
structure Ln where
  k : Int
  op : Int
  rd : Int
  r1 : Int
  r2 : Int
  im : Int
  s : ByteArray
  n : Int
def Ln.cells (x : Ln) : Array Value := #[.int .i64 x.k, .int .i64 x.op, .int .i64 x.rd, .int .i64 x.r1, .int .i64 x.r2, .int .i64 x.im, .string x.s, .int .i64 x.n]
def Ln.zero : Ln := ⟨0, 0, 0, 0, 0, 0, ⟨#[]⟩, 0⟩
end Go.Proofs.YtgpmplcamdophaaDoor.Pl
namespace Go.Proofs.YtgpmplcamdophaaDoor.W
open Go.RowKit
/-- a slice of lines that is read -/
def LRow (lo : Nat) (w : World) (a : Option Addr) (len cap : Nat) (xs : List Pl.Ln) : Prop :=
  (xs.length = len ∧ ∀ x ∈ xs, x.s.size ≤ maxLen) ∧ len ≤ cap ∧ cap ≤ maxLen ∧ (len = 0 ∨ ∃ b off, a = some ⟨b, off, none⟩ ∧ lo ≤ b ∧ b < w.heap.size ∧ ∀ i, i < len → ∀ j, j < 8 → w.cell? ⟨b, off + i * 8 + j, none⟩ = (xs.getD i Pl.Ln.zero).cells[j]?)
theorem LRow.keep {lo : Nat} {w w' : World} {a : Option Addr} {len cap : Nat} {xs : List Pl.Ln} (h : LRow lo w a len cap xs) (hb : Below w.heap.size w w') : LRow lo w' a len cap xs := by
  obtain ⟨h1, h2, h3, h4⟩ := h
  refine ⟨h1, h2, h3, ?_⟩
  rcases h4 with h4 | ⟨b, off, ha, hlo, hlt, hc⟩
  · exact .inl h4
  · exact .inr ⟨b, off, ha, hlo, Nat.lt_of_lt_of_le hlt hb.size, fun i hi j hj => (hb.cell (p := ⟨b, off + i * 8 + j, none⟩) hlt).trans (hc i hi j hj)⟩
set_option maxHeartbeats 1000000 in
theorem szLine_at (x : Pl.Ln) (left : Int) (hl : 0 ≤ left ∧ left ≤ 1048576) (hs : x.s.size ≤ maxLen) (w : World) : Calls Tryd.prog 18 #[.agg #[.int .i64 x.k, .int .i64 x.op, .int .i64 x.rd, .int .i64 x.r1, .int .i64 x.r2, .int .i64 x.im, .string x.s, .int .i64 x.n], .int .i64 left] w fun e w' => ∃ r : Int, e = .returned (.int .i64 r) ∧ (0 ≤ r → r ≤ left ∧ x.s.size ≤ 1048576) ∧ Below w.heap.size w w' := by
  have hs' : (x.s.size : Int) ≤ 9223372036854775807 := by unfold maxLen at hs; omega
  clear hs
  go_enter Tryd.func18, Tryd.ntmps18
  go_wp2
  all_goals
    go_ret
    refine ⟨_, rfl, ?_, (by repeat (first | exact Below.refl _ _ | refine Below.alloc ?_ (by simp <;> omega) _))⟩
  all_goals omega
set_option maxHeartbeats 2000000 in
theorem szLineS_any {lo : Nat} (a : Option Addr) (len cap : Nat) (xs : List Pl.Ln) (w : World) (h : LRow lo w a len cap xs) : Calls Tryd.prog 7 #[.slice a len cap, .int .i64 1048576] w fun e w' => ∃ r : Int, e = .returned (.int .i64 r) ∧ (0 ≤ r → len ≤ 1048576 ∧ ∀ i, i < len → (xs.getD i Pl.Ln.zero).s.size ≤ 1048576) ∧ Below w.heap.size w w' := by
  obtain ⟨h1, h2, h3, h4⟩ := h
  have hm : (len : Int) ≤ 9223372036854775807 := by unfold maxLen at h3; omega
  by_cases hb : 1048576 < len
  · have hb' : (1048576 : Int) < (len : Int) := by omega
    go_enter Tryd.func7, Tryd.ntmps7
    go_wp2
    go_ret
    exact ⟨_, rfl, fun q => by omega, Below.refl _ _⟩
  have H4 : Hid (len = 0 ∨ ∃ b off, a = some ⟨b, off, none⟩ ∧ lo ≤ b ∧ b < w.heap.size ∧ ∀ i, i < len → ∀ j, j < 8 → w.cell? ⟨b, off + i * 8 + j, none⟩ = (xs.getD i Pl.Ln.zero).cells[j]?) := h4
  have H1 : Hid (xs.length = len ∧ ∀ x ∈ xs, x.s.size ≤ maxLen) := h1
  clear h4 h1
  go_enter Tryd.func7, Tryd.ntmps7
  go_wp2_with fail
  go_loopw [1, 5] (fun v i wr => ∃ (k : Nat) (r : Int), k ≤ len ∧ i = .int .i64 k ∧ v = .int .i64 r ∧ 0 ≤ r ∧ r ≤ 1048576 ∧ (∀ i, i < k → (xs.getD i Pl.Ln.zero).s.size ≤ 1048576) ∧ Below w.heap.size w wr) (fun _ i _ => len - (intOf i).toNat)
  case atStart => exact ⟨0, 1048576 - len, Nat.zero_le _, rfl, rfl, by omega, by omega, fun i hi => absurd hi (Nat.not_lt_zero _), Below.refl _ _⟩
  case round =>
    obtain ⟨k, r, hk, rfl, rfl, hr0, hr1, hall, hbel⟩ := hrel
    have HA : Hid (∀ i, i < k → (xs.getD i Pl.Ln.zero).s.size ≤ 1048576) := hall
    have HB : Hid (Below w.heap.size w wr) := hbel
    clear hall hbel
    by_cases hlt : k < len
    · have hi : (k : Int) < (len : Int) := by omega
      obtain ⟨b, off, rfl, hlo, hb1, hcell⟩ : ∃ b off, a = some ⟨b, off, none⟩ ∧ lo ≤ b ∧ b < w.heap.size ∧ ∀ i, i < len → ∀ j, j < 8 → w.cell? ⟨b, off + i * 8 + j, none⟩ = (xs.getD i Pl.Ln.zero).cells[j]? := by
        rcases H4.out with h | h
        · omega
        · exact h
      obtain ⟨x, hx⟩ : ∃ x, x = xs.getD k Pl.Ln.zero := ⟨_, rfl⟩
      have hc : ∀ j, j < 8 → wr.cell? ⟨b, off + k * 8 + j, none⟩ = x.cells[j]? := fun j hj => by rw [hx]; exact (HB.out.cell (p := ⟨b, off + k * 8 + j, none⟩) hb1).trans (hcell k hlt j hj)
      have c0 : wr.cell? ⟨b, off + k * 8, none⟩ = some (.int .i64 x.k) := hc 0 (by decide)
      have c1 : wr.cell? ⟨b, off + k * 8 + 1, none⟩ = some (.int .i64 x.op) := hc 1 (by decide)
      have c2 : wr.cell? ⟨b, off + k * 8 + 2, none⟩ = some (.int .i64 x.rd) := hc 2 (by decide)
      have c3 : wr.cell? ⟨b, off + k * 8 + 3, none⟩ = some (.int .i64 x.r1) := hc 3 (by decide)
      have c4 : wr.cell? ⟨b, off + k * 8 + 4, none⟩ = some (.int .i64 x.r2) := hc 4 (by decide)
      have c5 : wr.cell? ⟨b, off + k * 8 + 5, none⟩ = some (.int .i64 x.im) := hc 5 (by decide)
      have c6 : wr.cell? ⟨b, off + k * 8 + 6, none⟩ = some (.string x.s) := hc 6 (by decide)
      have c7 : wr.cell? ⟨b, off + k * 8 + 7, none⟩ = some (.int .i64 x.n) := hc 7 (by decide)
      have hxs : x.s.size ≤ maxLen := by
        rw [hx, List.getD_eq_getElem?_getD, List.getElem?_eq_getElem (by rw [H1.out.1]; exact hlt)]
        exact H1.out.2 _ (List.getElem_mem _)
      have HX : Hid (x = xs.getD k Pl.Ln.zero) := hx
      clear hc hcell hx
      go_wp2_with (go_at_call 18; refine (szLine_at x r ⟨hr0, hr1⟩ hxs _).mono ?_; rintro e u1 ⟨r', rfl, hr', d1⟩)
      · go_ret
        exact ⟨_, rfl, fun q => by omega, HB.out.trans (d1.mono HB.out.size)⟩
      · have hr2 : 0 ≤ r' := by omega
        obtain ⟨hr3, hr4⟩ := hr' hr2
        go_roundw
        case rel => exact ⟨k + 1, r', by omega, by go_num, rfl, hr2, by omega, fun i hi => by
          by_cases e : i = k
          · rw [e, ← HX.out]; exact hr4
          · exact HA.out i (by omega), HB.out.trans (d1.mono HB.out.size)⟩
        case measure => simp [intOf]; omega
    · have hkk : k = len := by omega
      have hi : ¬ ((k : Int) < (len : Int)) := by omega
      go_wp2
      go_ret
      exact ⟨_, rfl, fun _ => ⟨by omega, fun i hi => HA.out i (by omega)⟩, HB.out⟩
end Go.Proofs.YtgpmplcamdophaaDoor.W
