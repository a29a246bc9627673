import Derived.Test.YtafcnijfoejboaaGreatDoorS01
import Derived.Deep.Cut
import Derived.Deep.DeepCutAuto
import Derived.Deep.CutRange
import Derived.Laws.MakeOwn
import Derived.Laws.OwnMore
import Derived.Deep.RegionWith
import Derived.Test.YtafcnijfoejboaaGreatDoorS00
import Derived.Great.Walk
import Derived.Test.YtafcnijfoejboaaGreatDoorS03
import Derived.Lib.ConvBytes
import Derived.Lib.Strings
import Derived.Lib.Walk
import Derived.Laws.Strings3
import Derived.BigCall
import Derived.BigGuard
import Derived.Lib.AtoiErrMem
import Derived.Shelf.Strings.Trim
import Derived.Shelf.Small.Utf8
import Derived.Shelf.Small.Strs
import Derived.Shelf.LaysM
import Derived.Shelf.Strconv.Clone
import Derived.Shelf.Strconv.SyntaxError
import Derived.Shelf.LaysC
import Derived.Shelf.Strconv.ToError
import Derived.Shelf.Strconv.RangeError
import Derived.Shelf.Strconv.ToErrorRange
import Derived.Shelf.Strings.Search1
import Derived.Shelf.Strings.Prefix
import Derived.Shelf.Strings.Runes
import Derived.Shelf.Strings.AsciiSet
import Derived.Shelf.Unicode.DecodeSlow
import Derived.Test.YtafcnijfoejboaaGreatDoorProg
import Derived.Shelf.Strings.SlTrimAscii
import Derived.Laws.CopyOwn
import Derived.Maps.OwnOps
import Derived.Maps.OwnSet
import Derived.Maps.Views
set_option linter.unusedVariables false
set_option linter.unusedSimpArgs false
namespace Go.Proofs.YtafcnijfoejboaaGreatDoor.W
open Go.RowKit
def SRow (lo : Nat) (w : World) (a : Option Addr) (len cap : Nat) (ss : List ByteArray) : Prop :=
  (ss.length = len ∧ ∀ x ∈ ss, x.size ≤ maxLen) ∧ len ≤ cap ∧ cap ≤ maxLen ∧ (len = 0 ∨ ∃ b off, a = some ⟨b, off, none⟩ ∧ lo ≤ b ∧ b < w.heap.size ∧ ∀ i, i < len → w.cell? ⟨b, off + i, none⟩ = some (.string (ss.getD i ⟨#[]⟩)))
theorem SRow.keep {lo : Nat} {w w' : World} {a : Option Addr} {len cap : Nat} {ss : List ByteArray} (h : SRow lo w a len cap ss) (hb : Below w.heap.size w w') : SRow lo w' a len cap ss := by
  obtain ⟨h1, h2, h3, h4⟩ := h
  refine ⟨h1, h2, h3, ?_⟩
  rcases h4 with h4 | ⟨b, off, ha, hlo, hlt, hc⟩
  · exact .inl h4
  · exact .inr ⟨b, off, ha, hlo, Nat.lt_of_lt_of_le hlt hb.size, fun i hi => (hb.cell (p := ⟨b, off + i, none⟩) hlt).trans (hc i hi)⟩
theorem SRow.at {lo : Nat} {w : World} {a : Option Addr} {len cap : Nat} {ss : List ByteArray} (h : SRow lo w a len cap ss) {k : Nat} (hk : k < len) :
    ∃ (b off : Nat), a = some ⟨b, off, none⟩ ∧ lo ≤ b ∧ b < w.heap.size ∧ w.cell? ⟨b, off + k, none⟩ = some (.string (ss.getD k ⟨#[]⟩)) ∧ (ss.getD k ⟨#[]⟩).size ≤ maxLen := by
  obtain ⟨h1, h2, h3, h4⟩ := h
  rcases h4 with h4 | ⟨b, off, ha, hlo, hlt, hc⟩
  · omega
  · refine ⟨b, off, ha, hlo, hlt, hc k hk, ?_⟩
    rw [List.getD_eq_getElem?_getD, List.getElem?_eq_getElem (by rw [h1.1]; exact hk)]
    exact h1.2 _ (List.getElem_mem _)
theorem SRow.small {lo : Nat} {w : World} {a : Option Addr} {len cap : Nat} {ss : List ByteArray} (h : SRow lo w a len cap ss) : len ≤ 9223372036854775807 := by
  have := h.2.1; have h3 := h.2.2.1; unfold maxLen at h3; omega
set_option maxHeartbeats 2000000 in
theorem szStringS_any {lo : Nat} (a : Option Addr) (len cap : Nat) (ss : List ByteArray) (left : Int) (hleft : 0 ≤ left ∧ left ≤ 1048576) (w : World) (h : SRow lo w a len cap ss) : Calls Tryz.prog 58 #[.slice a len cap, .int .i64 left] w fun e w' => ∃ r : Int, e = .returned (.int .i64 r) ∧ (0 ≤ r → r ≤ left ∧ len ≤ 1048576 ∧ ∀ i, i < len → (ss.getD i ⟨#[]⟩).size ≤ 1048576) ∧ Below w.heap.size w w' := by
  have hm : (len : Int) ≤ 9223372036854775807 := by have := h.small; omega
  by_cases hb : left < (len : Int)
  · go_enter Tryz.func58, Tryz.ntmps58
    go_wp2
    go_ret
    exact ⟨-1, rfl, fun q => absurd q (by decide), Below.refl _ _⟩
  have HR : Hid (SRow lo w a len cap ss) := h
  clear h
  go_enter Tryz.func58, Tryz.ntmps58
  go_wp2_with fail
  go_loopw [1, 5] (fun v i wr => ∃ (k : Nat) (r : Int), k ≤ len ∧ i = .int .i64 k ∧ v = .int .i64 r ∧ 0 ≤ r ∧ r ≤ left ∧ (∀ i, i < k → (ss.getD i ⟨#[]⟩).size ≤ 1048576) ∧ Below w.heap.size w wr) (fun _ i _ => len - (intOf i).toNat)
  case atStart => exact ⟨0, left - len, Nat.zero_le _, rfl, rfl, by omega, by omega, fun i hi => absurd hi (Nat.not_lt_zero _), Below.refl _ _⟩
  case round =>
    obtain ⟨k, r, hk, rfl, rfl, hr0, hr1, hall, hbel⟩ := hrel
    have HA : Hid (∀ i, i < k → (ss.getD i ⟨#[]⟩).size ≤ 1048576) := hall
    have HB : Hid (Below w.heap.size w wr) := hbel
    clear hbel hall
    by_cases hlt : k < len
    · have hi : (k : Int) < (len : Int) := by omega
      obtain ⟨b, off, rfl, hlo, hb1, hc, hs⟩ := (HR.out.keep HB.out).at hlt
      obtain ⟨x, hx⟩ : ∃ x, x = ss.getD k ⟨#[]⟩ := ⟨_, rfl⟩
      rw [← hx] at hc hs
      have hs' : (x.size : Int) ≤ 9223372036854775807 := by unfold maxLen at hs; omega
      have HX : Hid (x = ss.getD k ⟨#[]⟩) := hx
      clear hx hs
      by_cases hbig : r < (x.size : Int)
      · go_wp2_with fail
        go_ret
        exact ⟨_, rfl, fun q => absurd q (by decide), HB.out⟩
      · go_wp2_with fail
        go_roundw
        case rel => exact ⟨k + 1, r - x.size, by omega, by go_num, congrArg (Value.int .i64) (by first | rfl | (rw [IntKind.wrap_i64]; omega)), by omega, by omega, fun i hi => by
          by_cases e : i = k
          · rw [e, ← HX.out]; omega
          · exact HA.out i (by omega), HB.out⟩
        case measure => simp [intOf]; omega
    · have hkk : k = len := by omega
      have hi : ¬ ((k : Int) < (len : Int)) := by omega
      go_wp2
      go_ret
      exact ⟨_, rfl, fun _ => ⟨by omega, by omega, fun i hi => HA.out i (by omega)⟩, HB.out⟩
set_option maxHeartbeats 2000000 in
theorem eqStringS_same {lo1 lo2 : Nat} (a1 a2 : Option Addr) (l1 c1 l2 c2 : Nat) (ss : List ByteArray) (w : World) (h1 : SRow lo1 w a1 l1 c1 ss) (h2 : SRow lo2 w a2 l2 c2 ss) :
    Calls Tryz.prog 62 #[.slice a1 l1 c1, .slice a2 l2 c2] w fun e w' => e = .returned (.bool true) ∧ Below w.heap.size w w' := by
  have hs1 := h1.small
  have e12 : l1 = l2 := h1.1.1.symm.trans h2.1.1
  subst e12
  have H1 : Hid (SRow lo1 w a1 l1 c1 ss) := h1
  have H2 : Hid (SRow lo2 w a2 l1 c2 ss) := h2
  clear h1 h2
  go_enter Tryz.func62, Tryz.ntmps62
  go_wp2
  go_loopw [5] (fun i wr => ∃ k : Nat, k ≤ l1 ∧ i = .int .i64 k ∧ Below w.heap.size w wr) (fun i _ => l1 - (intOf i).toNat)
  case atStart => exact ⟨0, Nat.zero_le _, rfl, Below.refl _ _⟩
  case round =>
    obtain ⟨k, hk, rfl, hb⟩ := hrel
    have HB : Hid (Below w.heap.size w wr) := hb
    clear hb
    by_cases hlt : k < l1
    · obtain ⟨b1, o1, rfl, _, _, hc1, _⟩ := (H1.out.keep HB.out).at hlt
      obtain ⟨b2, o2, rfl, _, _, hc2, _⟩ := (H2.out.keep HB.out).at hlt
      generalize ss.getD k ⟨#[]⟩ = x at hc1 hc2
      have hi : (k : Int) < (l1 : Int) := by omega
      go_wp2_with fail
      go_region
      go_wp2_with fail
      go_roundw
      case rel => exact ⟨k + 1, by omega, by go_num, by first | exact HB.out | exact HB.out.drew⟩
      case measure => simp [intOf]; omega
    · have hke : k = l1 := by omega
      subst hke
      go_wp2
      go_ret
      exact ⟨rfl, HB.out⟩
end Go.Proofs.YtafcnijfoejboaaGreatDoor.W
namespace Go.Proofs.YtafcnijfoejboaaGreatDoor.W
open Go.RowKit
theorem Tryz.infostr : (Tryz.prog.info? 9).map (fun i => (i.zero, i.size, i.bytes)) = some (some (.string ⟨#[]⟩), 1, 16) := by kernel_rfl
theorem made_str (n k : Nat) (h : k < n) : (madeCells #[Value.string ⟨#[]⟩] n)[k]? = some (.string ⟨#[]⟩) := by
  unfold madeCells
  rw [Array.getElem?_map, Array.getElem?_range]
  simp [h, Nat.mod_one]
set_option maxHeartbeats 2000000 in
theorem toStringS_any {lo : Nat} (a : Option Addr) (len cap : Nat) (ss : List ByteArray) (w : World) (h : SRow lo w a len cap ss) (hsz : len ≤ 1048576) :
    Calls Tryz.prog 60 #[.slice a len cap] w fun e w' => e = .returned (.slice (some ⟨w.heap.size, 0, none⟩) len len) ∧ SRow w.heap.size w' (some ⟨w.heap.size, 0, none⟩) len len ss ∧ Below w.heap.size w w' := by
  obtain ⟨i0, hi0, hz0, hz1, hz2⟩ := info_parts Tryz.infostr
  have hm : ∀ u : World, (Instr.makeSlice 29 (.int .i64 (len : Int)) (.int .i64 (len : Int))).run Tryz.prog u = .ok (.slice (some ⟨u.heap.size, 0, none⟩) len len) (u.alloc (.cells (madeCells #[.string ⟨#[]⟩] len) 9)) := fun u => by
    have := run_makeSlice u 29 9 i0 _ Tryz.underlying29 hi0 hz0 .i64 .i64 (len : Int) (len : Int) (by omega) (by omega) (by rw [hz1]; omega) (by rw [hz2]; omega) (by omega)
    rw [hz1, Nat.mul_one] at this
    exact this
  have H : Hid (SRow lo w a len cap ss) := h
  clear h hi0 hz0 hz1 hz2
  go_enter Tryz.func60, Tryz.ntmps60
  go_wp2_with fail
  go_loopw [4] (fun i wr => ∃ k : Nat, k ≤ len ∧ i = .int .i64 k ∧ (∀ t, t < len → wr.cell? ⟨w.heap.size, t, none⟩ = some (.string (if t < k then ss.getD t ⟨#[]⟩ else ⟨#[]⟩))) ∧ (∀ t, wr.frozen? ⟨w.heap.size, t, none⟩ = false) ∧ w.heap.size < wr.heap.size ∧ Below w.heap.size w wr) (fun i _ => len - (intOf i).toNat)
  case atStart =>
    refine ⟨0, Nat.zero_le _, rfl, fun t ht => ?_, fun t => frozen_of_row _ w.heap.size t _ 9 (heap_alloc_new w _), by simp, below_alloc w _⟩
    rw [cell_of_row _ w.heap.size t _ 9 (0, 0) (heap_alloc_new w _), made_str _ _ ht]
    simp
  case round =>
    obtain ⟨k, hk, rfl, hc, hz, hl, hb⟩ := hrel
    have HC : Hid (∀ t, t < len → wr.cell? ⟨w.heap.size, t, none⟩ = some (.string (if t < k then ss.getD t ⟨#[]⟩ else ⟨#[]⟩))) := hc
    have HZ : Hid (∀ t, wr.frozen? ⟨w.heap.size, t, none⟩ = false) := hz
    have HB : Hid (Below w.heap.size w wr) := hb
    have HL : Hid (w.heap.size < wr.heap.size) := hl
    clear hc hz hl hb
    by_cases hlt : k < len
    · obtain ⟨b, off, rfl, _, _, hcx, _⟩ := H.out.at hlt
      obtain ⟨x, hx⟩ : ∃ x, ss.getD k ⟨#[]⟩ = x := ⟨_, rfl⟩
      rw [hx] at hcx
      have hcell : wr.cell? ⟨b, off + k, none⟩ = some (.string x) := (HB.out.cell (p := ⟨b, off + k, none⟩) (block_lt_of_cell hcx)).trans hcx
      have hfz := HZ.out k
      have hy : wr.cell? ⟨w.heap.size, k, none⟩ = some (.string ⟨#[]⟩) := by rw [HC.out k hlt, if_neg (Nat.lt_irrefl _)]
      have HX : Hid (ss.getD k ⟨#[]⟩ = x) := hx
      have hi : (k : Int) < (len : Int) := by omega
      clear hx hcx
      go_wp2
      go_roundw
      case rel =>
        refine ⟨k + 1, by omega, by go_num, fun t ht => ?_, fun t => (World.frozen?_setCell _ _ _ _).trans (HZ.out t), by simpa using HL.out, HB.out.setCell (Nat.le_refl _) _⟩
        by_cases e : t = k
        · subst e
          rw [World.cell?_setCell_same _ _ _ hy, if_pos (by omega), HX.out]
        · rw [World.cell?_setCell_other _ _ _ _ (by intro q; injection q with _ q2; omega), HC.out t ht]
          by_cases q : t < k
          · rw [if_pos q, if_pos (by omega)]
          · rw [if_neg q, if_neg (by omega)]
      case measure => simp [intOf]; omega
    · have hke : k = len := by omega
      subst hke
      go_wp2
      go_ret
      refine ⟨rfl, ⟨H.out.1, Nat.le_refl _, by unfold maxLen; omega, .inr ⟨w.heap.size, 0, rfl, Nat.le_refl _, HL.out, fun i hi => ?_⟩⟩, HB.out⟩
      rw [Nat.zero_add, HC.out i hi, if_pos hi]
end Go.Proofs.YtafcnijfoejboaaGreatDoor.W
namespace Go.Proofs.YtafcnijfoejboaaGreatDoor.Pl
structure Ty where
  k : Int
  n : Int
  of : List Int
  names : List ByteArray
def Ty.cells (x : Ty) (v s : W.SV) : Array Value := #[.int .i64 x.k, .int .i64 x.n, .slice v.a v.len v.cap, .slice s.a s.len s.cap]
def Ty.zero : Ty := ⟨0, 0, [], []⟩
end Go.Proofs.YtafcnijfoejboaaGreatDoor.Pl
namespace Go.Proofs.YtafcnijfoejboaaGreatDoor.W
open Go.RowKit
def TRow (lo : Nat) (w : World) (a : Option Addr) (len cap : Nat) (xs : List Pl.Ty) : Prop :=
  xs.length = len ∧ len ≤ cap ∧ cap ≤ maxLen ∧ (len = 0 ∨ ∃ b off, a = some ⟨b, off, none⟩ ∧ lo ≤ b ∧ b < w.heap.size ∧ ∀ i, i < len → ∃ v s : SV, (∀ j, j < 4 → w.cell? ⟨b, off + i * 4 + j, none⟩ = ((xs.getD i Pl.Ty.zero).cells v s)[j]?) ∧ Row .i64 lo w v.a v.len v.cap (xs.getD i Pl.Ty.zero).of ∧ SRow lo w s.a s.len s.cap (xs.getD i Pl.Ty.zero).names)
theorem TRow.keep {lo : Nat} {w w' : World} {a : Option Addr} {len cap : Nat} {xs : List Pl.Ty} (h : TRow lo w a len cap xs) (hb : Below w.heap.size w w') : TRow lo w' a len cap xs := by
  obtain ⟨h1, h2, h3, h4⟩ := h
  refine ⟨h1, h2, h3, ?_⟩
  rcases h4 with h4 | ⟨b, off, ha, hlo, hlt, hc⟩
  · exact .inl h4
  · refine .inr ⟨b, off, ha, hlo, Nat.lt_of_lt_of_le hlt hb.size, fun i hi => ?_⟩
    obtain ⟨v, s, h5, h6, h7⟩ := hc i hi
    exact ⟨v, s, fun j hj => (hb.cell (p := ⟨b, off + i * 4 + j, none⟩) hlt).trans (h5 j hj), h6.keep hb, h7.keep hb⟩
theorem TRow.at {lo : Nat} {w : World} {a : Option Addr} {len cap : Nat} {xs : List Pl.Ty} (h : TRow lo w a len cap xs) {k : Nat} (hk : k < len) :
    ∃ (b off : Nat) (v s : SV), a = some ⟨b, off, none⟩ ∧ lo ≤ b ∧ b < w.heap.size ∧ (∀ j, j < 4 → w.cell? ⟨b, off + k * 4 + j, none⟩ = ((xs.getD k Pl.Ty.zero).cells v s)[j]?) ∧ Row .i64 lo w v.a v.len v.cap (xs.getD k Pl.Ty.zero).of ∧ SRow lo w s.a s.len s.cap (xs.getD k Pl.Ty.zero).names := by
  obtain ⟨h1, h2, h3, h4⟩ := h
  rcases h4 with h4 | ⟨b, off, ha, hlo, hlt, hc⟩
  · omega
  · obtain ⟨v, s, h5, h6, h7⟩ := hc k hk
    exact ⟨b, off, v, s, ha, hlo, hlt, h5, h6, h7⟩
theorem TRow.small {lo : Nat} {w : World} {a : Option Addr} {len cap : Nat} {xs : List Pl.Ty} (h : TRow lo w a len cap xs) : len ≤ 9223372036854775807 := by
  have := h.2.1; have h3 := h.2.2.1; unfold maxLen at h3; omega
theorem ty_cells {u : World} {b o : Nat} {x : Pl.Ty} {v s : SV} (h : ∀ j, j < 4 → u.cell? ⟨b, o + j, none⟩ = (x.cells v s)[j]?) : u.cell? ⟨b, o, none⟩ = some (.int .i64 x.k) ∧ u.cell? ⟨b, o + 1, none⟩ = some (.int .i64 x.n) ∧ u.cell? ⟨b, o + 2, none⟩ = some (.slice v.a v.len v.cap) ∧ u.cell? ⟨b, o + 3, none⟩ = some (.slice s.a s.len s.cap) :=
  ⟨h 0 (by decide), h 1 (by decide), h 2 (by decide), h 3 (by decide)⟩
set_option maxHeartbeats 1000000 in
theorem szType_at {lo : Nat} (x : Pl.Ty) (v s : SV) (left : Int) (hl : 0 ≤ left ∧ left ≤ 1048576) (hv : v.len ≤ 9223372036854775807) (w : World) (hs : SRow lo w s.a s.len s.cap x.names) : Calls Tryz.prog 38 #[.agg #[.int .i64 x.k, .int .i64 x.n, .slice v.a v.len v.cap, .slice s.a s.len s.cap], .int .i64 left] w fun e w' => ∃ r : Int, e = .returned (.int .i64 r) ∧ (0 ≤ r → r ≤ left ∧ v.len ≤ 1048576 ∧ s.len ≤ 1048576 ∧ ∀ i, i < s.len → (x.names.getD i ⟨#[]⟩).size ≤ 1048576) ∧ Below w.heap.size w w' := by
  have HS : Hid (SRow lo w s.a s.len s.cap x.names) := hs
  clear hs
  by_cases c2 : (v.len : Int) ≤ left
  · go_enter Tryz.func38, Tryz.ntmps38
    go_wp2_with (first
      | (go_at_call 57; refine (szIntS_yes _ _ _ _ hv (by omega) (by omega) _).mono ?_; rintro e w' ⟨rfl, rfl⟩)
      | (go_at_call 58; refine (szStringS_any s.a s.len s.cap x.names (left - v.len) ⟨by omega, by omega⟩ _ (HS.out.keep (below_alloc _ _))).mono ?_; rintro e u1 ⟨r, rfl, hr, d1⟩))
    · go_ret
      exact ⟨_, rfl, fun q => absurd q (by decide), (below_alloc _ _).trans (d1.mono (by simp))⟩
    · go_ret
      exact ⟨_, rfl, fun q => ⟨by have := (hr q).1; omega, by omega, (hr q).2⟩, (below_alloc _ _).trans (d1.mono (by simp))⟩
  · go_enter Tryz.func38, Tryz.ntmps38
    go_wp2_with (go_at_call 57; refine (szIntS_no _ _ _ _ hv (by omega) (by omega) _).mono ?_; rintro e w' ⟨rfl, rfl⟩)
    go_ret
    exact ⟨-1, rfl, fun q => absurd q (by decide), below_alloc _ _⟩
set_option maxHeartbeats 2000000 in
theorem szTypeS_any {lo : Nat} (a : Option Addr) (len cap : Nat) (xs : List Pl.Ty) (left : Int) (hleft : 0 ≤ left ∧ left ≤ 1048576) (w : World) (h : TRow lo w a len cap xs) : Calls Tryz.prog 20 #[.slice a len cap, .int .i64 left] w fun e w' => ∃ r : Int, e = .returned (.int .i64 r) ∧ (0 ≤ r → r ≤ left ∧ len ≤ 1048576 ∧ ∀ i, i < len → (xs.getD i Pl.Ty.zero).of.length ≤ 1048576 ∧ (xs.getD i Pl.Ty.zero).names.length ≤ 1048576 ∧ ∀ j, j < (xs.getD i Pl.Ty.zero).names.length → ((xs.getD i Pl.Ty.zero).names.getD j ⟨#[]⟩).size ≤ 1048576) ∧ Below w.heap.size w w' := by
  have hm : (len : Int) ≤ 9223372036854775807 := by have := h.small; omega
  by_cases hb : left < (len : Int)
  · go_enter Tryz.func20, Tryz.ntmps20
    go_wp2
    go_ret
    exact ⟨-1, rfl, fun q => absurd q (by decide), Below.refl _ _⟩
  have HR : Hid (TRow lo w a len cap xs) := h
  clear h
  go_enter Tryz.func20, Tryz.ntmps20
  go_wp2_with fail
  go_loopw [1, 5] (fun v i wr => ∃ (k : Nat) (r : Int), k ≤ len ∧ i = .int .i64 k ∧ v = .int .i64 r ∧ 0 ≤ r ∧ r ≤ left ∧ (∀ i, i < k → (xs.getD i Pl.Ty.zero).of.length ≤ 1048576 ∧ (xs.getD i Pl.Ty.zero).names.length ≤ 1048576 ∧ ∀ j, j < (xs.getD i Pl.Ty.zero).names.length → ((xs.getD i Pl.Ty.zero).names.getD j ⟨#[]⟩).size ≤ 1048576) ∧ Below w.heap.size w wr) (fun _ i _ => len - (intOf i).toNat)
  case atStart => exact ⟨0, left - len, Nat.zero_le _, rfl, rfl, by omega, by omega, fun i hi => absurd hi (Nat.not_lt_zero _), Below.refl _ _⟩
  case round =>
    obtain ⟨k, r, hk, rfl, rfl, hr0, hr1, hall, hbel⟩ := hrel
    have HA : Hid (∀ i, i < k → (xs.getD i Pl.Ty.zero).of.length ≤ 1048576 ∧ (xs.getD i Pl.Ty.zero).names.length ≤ 1048576 ∧ ∀ j, j < (xs.getD i Pl.Ty.zero).names.length → ((xs.getD i Pl.Ty.zero).names.getD j ⟨#[]⟩).size ≤ 1048576) := hall
    have HB : Hid (Below w.heap.size w wr) := hbel
    clear hall hbel
    by_cases hlt : k < len
    · have hi : (k : Int) < (len : Int) := by omega
      obtain ⟨b, off, v, s, rfl, hlo, hb1, hc, hrow, hs⟩ := (HR.out.keep HB.out).at hlt
      obtain ⟨x, hx⟩ : ∃ x, x = xs.getD k Pl.Ty.zero := ⟨_, rfl⟩
      rw [← hx] at hc hrow hs
      obtain ⟨c0, c1, c2, c3⟩ := ty_cells hc
      have hvl : v.len ≤ 9223372036854775807 := hrow.small
      have HX : Hid (x = xs.getD k Pl.Ty.zero ∧ x.of.length = v.len ∧ x.names.length = s.len) := ⟨hx, hrow.1, hs.1.1⟩
      have HS : Hid (SRow lo wr s.a s.len s.cap x.names) := hs
      clear hc hx hrow hs
      go_wp2_with (go_at_call 38; refine (szType_at x v s r ⟨hr0, by omega⟩ hvl _ HS.out).mono ?_; rintro e u1 ⟨r', rfl, hr', d1⟩)
      · go_ret
        exact ⟨_, rfl, fun q => absurd q (by decide), HB.out.trans (d1.mono HB.out.size)⟩
      · have hr2 : 0 ≤ r' := by omega
        obtain ⟨hr3, hr4, hr5⟩ := hr' hr2
        go_roundw
        case rel => exact ⟨k + 1, r', by omega, by go_num, rfl, hr2, by omega, fun i hi => by
          by_cases e : i = k
          · rw [e, ← HX.out.1, HX.out.2.1, HX.out.2.2]; exact ⟨hr4, hr5⟩
          · exact HA.out i (by omega), HB.out.trans (d1.mono HB.out.size)⟩
        case measure => simp [intOf]; omega
    · have hkk : k = len := by omega
      have hi : ¬ ((k : Int) < (len : Int)) := by omega
      go_wp2
      go_ret
      exact ⟨_, rfl, fun _ => ⟨by omega, by omega, fun i hi => HA.out i (by omega)⟩, HB.out⟩
end Go.Proofs.YtafcnijfoejboaaGreatDoor.W
namespace Go.Proofs.YtafcnijfoejboaaGreatDoor.W
open Go.RowKit
theorem ty_row_set {k : IntKind} {lo : Nat} {w : World} {a : Option Addr} {len cap : Nat} {zs : List Int} (h : Row k lo w a len cap zs) {g : Nat} (hg : g < lo) (j : Nat) (x : Value) : Row k lo (w.setCell ⟨g, j, none⟩ x) a len cap zs := by
  obtain ⟨h1, h2, h3, h4, h5⟩ := h
  refine ⟨h1, h2, h3, h4, ?_⟩
  rcases h5 with h5 | ⟨b, off, ha, hlo, hlt, hc⟩
  · exact .inl h5
  · refine .inr ⟨b, off, ha, hlo, by simpa using hlt, fun i hi => ?_⟩
    rw [World.cell?_setCell_other _ _ _ _ (by intro e; injection e with e1 _; omega)]
    exact hc i hi
theorem SRow.set {lo : Nat} {w : World} {a : Option Addr} {len cap : Nat} {ss : List ByteArray} (h : SRow lo w a len cap ss) {g : Nat} (hg : g < lo) (j : Nat) (x : Value) : SRow lo (w.setCell ⟨g, j, none⟩ x) a len cap ss := by
  obtain ⟨h1, h2, h3, h5⟩ := h
  refine ⟨h1, h2, h3, ?_⟩
  rcases h5 with h5 | ⟨b, off, ha, hlo, hlt, hc⟩
  · exact .inl h5
  · refine .inr ⟨b, off, ha, hlo, by simpa using hlt, fun i hi => ?_⟩
    rw [World.cell?_setCell_other _ _ _ _ (by intro e; injection e with e1 _; omega)]
    exact hc i hi
theorem ty_row_above {k : IntKind} {B lo : Nat} {w w' : World} {a : Option Addr} {len cap : Nat} {zs : List Int} (h : Row k lo w a len cap zs) (ha : Above B w w') (hB : B ≤ lo) : Row k lo w' a len cap zs := by
  obtain ⟨h1, h2, h3, h4, h5⟩ := h
  refine ⟨h1, h2, h3, h4, ?_⟩
  rcases h5 with h5 | ⟨b, off, rfl, hlo, hlt, hc⟩
  · exact .inl h5
  · refine .inr ⟨b, off, rfl, hlo, Nat.lt_of_lt_of_le hlt ha.size, fun i hi => ?_⟩
    rw [World.cell?_of_block (a := ⟨b, off + i, none⟩) (ha.block b (Nat.le_trans hB hlo) hlt)]
    exact hc i hi
theorem SRow.above {B lo : Nat} {w w' : World} {a : Option Addr} {len cap : Nat} {ss : List ByteArray} (h : SRow lo w a len cap ss) (ha : Above B w w') (hB : B ≤ lo) : SRow lo w' a len cap ss := by
  obtain ⟨h1, h2, h3, h5⟩ := h
  refine ⟨h1, h2, h3, ?_⟩
  rcases h5 with h5 | ⟨b, off, rfl, hlo, hlt, hc⟩
  · exact .inl h5
  · refine .inr ⟨b, off, rfl, hlo, Nat.lt_of_lt_of_le hlt ha.size, fun i hi => ?_⟩
    rw [World.cell?_of_block (a := ⟨b, off + i, none⟩) (ha.block b (Nat.le_trans hB hlo) hlt)]
    exact hc i hi
theorem SRow.lower {lo lo' : Nat} {w : World} {a : Option Addr} {len cap : Nat} {ss : List ByteArray} (h : SRow lo w a len cap ss) (hl : lo' ≤ lo) : SRow lo' w a len cap ss := by
  obtain ⟨h1, h2, h3, h4⟩ := h
  refine ⟨h1, h2, h3, ?_⟩
  rcases h4 with h4 | ⟨b, off, e, hlo, hlt, hc⟩
  · exact .inl h4
  · exact .inr ⟨b, off, e, Nat.le_trans hl hlo, hlt, hc⟩
theorem TRow.above {B lo : Nat} {w w' : World} {a : Option Addr} {len cap : Nat} {xs : List Pl.Ty} (h : TRow lo w a len cap xs) (ha : Above B w w') (hB : B ≤ lo) : TRow lo w' a len cap xs := by
  obtain ⟨h1, h2, h3, h4⟩ := h
  refine ⟨h1, h2, h3, ?_⟩
  rcases h4 with h4 | ⟨b, off, e, hlo, hlt, hc⟩
  · exact .inl h4
  · refine .inr ⟨b, off, e, hlo, Nat.lt_of_lt_of_le hlt ha.size, fun i hi => ?_⟩
    obtain ⟨v, s, h5, h6, h7⟩ := hc i hi
    refine ⟨v, s, fun j hj => ?_, ty_row_above h6 ha hB, h7.above ha hB⟩
    rw [World.cell?_of_block (a := ⟨b, off + i * 4 + j, none⟩) (ha.block b (Nat.le_trans hB hlo) hlt)]
    exact h5 j hj
theorem TRow.lower {lo lo' : Nat} {w : World} {a : Option Addr} {len cap : Nat} {xs : List Pl.Ty} (h : TRow lo w a len cap xs) (hl : lo' ≤ lo) : TRow lo' w a len cap xs := by
  obtain ⟨h1, h2, h3, h4⟩ := h
  refine ⟨h1, h2, h3, ?_⟩
  rcases h4 with h4 | ⟨b, off, e, hlo, hlt, hc⟩
  · exact .inl h4
  · refine .inr ⟨b, off, e, Nat.le_trans hl hlo, hlt, fun i hi => ?_⟩
    obtain ⟨v, s, h5, h6, h7⟩ := hc i hi
    exact ⟨v, s, h5, h6.lower hl, h7.lower hl⟩
theorem ty_ne {g p q : Nat} (h : p ≠ q) : (⟨g, p, none⟩ : Addr) ≠ ⟨g, q, none⟩ := fun e => h (by injection e)
theorem ty_isSome {u : World} {p q : Addr} {v : Value} (h : (u.cell? q).isSome = true) : ((u.setCell p v).cell? q).isSome = true := by
  obtain ⟨x, hx⟩ := Option.isSome_iff_exists.1 h
  obtain ⟨y, hy⟩ := cell?_setCell_some (p := p) (x := v) hx
  rw [hy]; rfl
def set4 (u : World) (g o : Nat) (x : Pl.Ty) (v s : SV) : World := (((u.setCell ⟨g, o, none⟩ (.int .i64 x.k)).setCell ⟨g, o + 1, none⟩ (.int .i64 x.n)).setCell ⟨g, o + 2, none⟩ (.slice v.a v.len v.cap)).setCell ⟨g, o + 3, none⟩ (.slice s.a s.len s.cap)
theorem set4_out {u : World} {g o q : Nat} (x : Pl.Ty) (v s : SV) (h : q < o ∨ o + 4 ≤ q) : (set4 u g o x v s).cell? ⟨g, q, none⟩ = u.cell? ⟨g, q, none⟩ := by
  unfold set4
  rw [World.cell?_setCell_other _ _ _ _ (ty_ne (by omega)), World.cell?_setCell_other _ _ _ _ (ty_ne (by omega)), World.cell?_setCell_other _ _ _ _ (ty_ne (by omega)), World.cell?_setCell_other _ _ _ _ (ty_ne (by omega))]
theorem set4_in {u : World} {g o : Nat} (x : Pl.Ty) (v s : SV) (h : ∀ j, j < 4 → (u.cell? ⟨g, o + j, none⟩).isSome = true) (j : Nat) (hj : j < 4) : (set4 u g o x v s).cell? ⟨g, o + j, none⟩ = (x.cells v s)[j]? := by
  have t := h j hj
  unfold set4
  rcases (show j = 0 ∨ j = 1 ∨ j = 2 ∨ j = 3 by omega) with rfl | rfl | rfl | rfl
  · change World.cell? _ ⟨g, o, none⟩ = _
    rw [World.cell?_setCell_other _ _ _ _ (ty_ne (by omega)), World.cell?_setCell_other _ _ _ _ (ty_ne (by omega)), World.cell?_setCell_other _ _ _ _ (ty_ne (by omega))]
    rw [World.cell?_setCell_same' _ _ _ (show (u.cell? ⟨g, o, none⟩).isSome = true from t)]
    rfl
  · rw [World.cell?_setCell_other _ _ _ _ (ty_ne (by omega)), World.cell?_setCell_other _ _ _ _ (ty_ne (by omega))]
    rw [World.cell?_setCell_same' _ _ _ (ty_isSome t)]
    rfl
  · rw [World.cell?_setCell_other _ _ _ _ (ty_ne (by omega))]
    rw [World.cell?_setCell_same' _ _ _ (ty_isSome (ty_isSome t))]
    rfl
  · rw [World.cell?_setCell_same' _ _ _ (ty_isSome (ty_isSome (ty_isSome t)))]
    rfl
theorem set4_below {w u : World} {B g : Nat} (h : Below B w u) (hg : B ≤ g) (o : Nat) (x : Pl.Ty) (v s : SV) : Below B w (set4 u g o x v s) := by
  unfold set4
  exact (((h.setCell (p := ⟨g, o, none⟩) hg _).setCell (p := ⟨g, o + 1, none⟩) hg _).setCell (p := ⟨g, o + 2, none⟩) hg _).setCell (p := ⟨g, o + 3, none⟩) hg _
theorem set4_row {k : IntKind} {lo : Nat} {w : World} {a : Option Addr} {len cap : Nat} {zs : List Int} (h : Row k lo w a len cap zs) {g : Nat} (hg : g < lo) (o : Nat) (x : Pl.Ty) (v s : SV) : Row k lo (set4 w g o x v s) a len cap zs := by
  unfold set4
  exact ty_row_set (ty_row_set (ty_row_set (ty_row_set h hg _ _) hg _ _) hg _ _) hg _ _
theorem set4_srow {lo : Nat} {w : World} {a : Option Addr} {len cap : Nat} {ss : List ByteArray} (h : SRow lo w a len cap ss) {g : Nat} (hg : g < lo) (o : Nat) (x : Pl.Ty) (v s : SV) : SRow lo (set4 w g o x v s) a len cap ss := by
  unfold set4
  exact (((h.set hg _ _).set hg _ _).set hg _ _).set hg _ _
theorem ty_put {u : World} {g : Nat} {cs cs' : Array Value} {t : TypeId} (q : u.heap[g]? = some (.cells cs t)) (j : Nat) (x : Value) (e : cs.setIfInBounds j x = cs') : (u.setCell ⟨g, j, none⟩ x).heap[g]? = some (.cells cs' t) := by
  rw [← e]; exact heap_setCell_same u g j cs t x q
theorem ty_at {P : Program} {f : Nat} {args : Array Value} {W : World} {Q : Ending → World → Prop} (h : ∀ U, U = W → Calls P f args U Q) : Calls P f args W Q := h W rfl
set_option maxHeartbeats 2000000 in
theorem toType_any {lo : Nat} (x : Pl.Ty) (v s : SV) (w : World) (h : Row .i64 lo w v.a v.len v.cap x.of) (hs : SRow lo w s.a s.len s.cap x.names) (hl : v.len ≤ 1048576) (hl2 : s.len ≤ 1048576) :
    Calls Tryz.prog 39 #[.agg #[.int .i64 x.k, .int .i64 x.n, .slice v.a v.len v.cap, .slice s.a s.len s.cap]] w fun e w' => ∃ v' s' : SV, e = .returned (.agg #[.int .i64 x.k, .int .i64 x.n, .slice v'.a v'.len v'.cap, .slice s'.a s'.len s'.cap]) ∧ Row .i64 w.heap.size w' v'.a v'.len v'.cap x.of ∧ SRow w.heap.size w' s'.a s'.len s'.cap x.names ∧ Below w.heap.size w w' := by
  have HR : Hid (Row .i64 lo w v.a v.len v.cap x.of) := h
  have HS : Hid (SRow lo w s.a s.len s.cap x.names) := hs
  clear h hs
  go_enter Tryz.func39, Tryz.ntmps39
  go_wp2_with fail
  refine ty_at fun U1 hU1 => ?_
  have z1 : U1.heap.size = w.heap.size + 3 := by rw [hU1]; simp
  have q0 : U1.heap[w.heap.size]? = some (.cells #[.int .i64 x.k, .int .i64 x.n, .slice v.a v.len v.cap, .slice s.a s.len s.cap] 73) := by
    rw [hU1]
    rw [Below.heap_alloc _ _ _ (by simp; omega), Below.heap_alloc _ _ _ (by simp)]
    exact heap_alloc_new w _
  have q1 : U1.heap[w.heap.size + 1]? = some (.cells #[.int .i64 0, .int .i64 0, .slice none 0 0, .slice none 0 0] 31) := by
    rw [hU1]
    rw [Below.heap_alloc _ _ _ (by simp)]
    have := heap_alloc_new (w.alloc (.cells #[.int .i64 x.k, .int .i64 x.n, .slice v.a v.len v.cap, .slice s.a s.len s.cap] 73)) (.cells #[.int .i64 0, .int .i64 0, .slice none 0 0, .slice none 0 0] 31)
    simpa using this
  have q2 : U1.heap[w.heap.size + 1 + 1]? = some (.cells #[.int .i64 x.k, .int .i64 x.n, .slice none 0 0, .slice none 0 0] 31) := by
    rw [hU1]
    have := heap_alloc_new ((w.alloc (.cells #[.int .i64 x.k, .int .i64 x.n, .slice v.a v.len v.cap, .slice s.a s.len s.cap] 73)).alloc (.cells #[.int .i64 0, .int .i64 0, .slice none 0 0, .slice none 0 0] 31)) (.cells #[.int .i64 x.k, .int .i64 x.n, .slice none 0 0, .slice none 0 0] 31)
    simpa using this
  have b1 : Below w.heap.size w U1 := by
    rw [hU1]
    repeat (first | exact Below.refl _ _ | refine Below.setCell ?_ (by simp; omega) _ | refine Below.alloc ?_ (by simp <;> omega) _)
  clear hU1
  refine (toIntS_any v.a v.len v.cap x.of U1 (HR.out.keep b1) hl).mono ?_
  rintro e u1 ⟨rfl, o1, d1⟩
  have Q0 := (d1.block w.heap.size (by omega)).trans q0
  have Q1 := (d1.block (w.heap.size + 1) (by omega)).trans q1
  have Q2 := (d1.block (w.heap.size + 1 + 1) (by omega)).trans q2
  have hz1 : w.heap.size + 3 ≤ u1.heap.size := by have := d1.size; omega
  have B1 : Hid (Below w.heap.size w u1) := b1.trans (d1.mono (by omega))
  have O1 : Hid (Row .i64 (w.heap.size + 3) u1 (some ⟨U1.heap.size, 0, none⟩) v.len v.len x.of) := o1.row.lower (by omega)
  have k0 : ∀ j, u1.cell? ⟨w.heap.size, j, none⟩ = (#[.int .i64 x.k, .int .i64 x.n, .slice v.a v.len v.cap, .slice s.a s.len s.cap] : Array Value)[j]? := fun j => cell_of_row u1 w.heap.size j _ 73 (0, 0) Q0
  have k2 : ∀ j, u1.cell? ⟨w.heap.size + 1 + 1, j, none⟩ = (#[.int .i64 x.k, .int .i64 x.n, .slice none 0 0, .slice none 0 0] : Array Value)[j]? := fun j => cell_of_row u1 (w.heap.size + 1 + 1) j _ 31 (0, 0) Q2
  have f2 : ∀ j, u1.frozen? ⟨w.heap.size + 1 + 1, j, none⟩ = false := fun j => frozen_of_row u1 (w.heap.size + 1 + 1) j _ 31 Q2
  have HQ0 : Hid (u1.heap[w.heap.size]? = some (.cells #[.int .i64 x.k, .int .i64 x.n, .slice v.a v.len v.cap, .slice s.a s.len s.cap] 73)) := Q0
  have HQ1 : Hid (u1.heap[w.heap.size + 1]? = some (.cells #[.int .i64 0, .int .i64 0, .slice none 0 0, .slice none 0 0] 31)) := Q1
  have HQ2 : Hid (u1.heap[w.heap.size + 1 + 1]? = some (.cells #[.int .i64 x.k, .int .i64 x.n, .slice none 0 0, .slice none 0 0] 31)) := Q2
  generalize (some ⟨U1.heap.size, 0, none⟩ : Option Addr) = A at O1
  clear Q0 Q1 Q2 q0 q1 q2 b1 o1 d1 z1
  go_wp2_with fail
  refine ty_at fun U2 hU2 => ?_
  have z2 : U2.heap.size = u1.heap.size := by rw [hU2]; simp
  have a2 : Above (w.heap.size + 3) u1 U2 := by
    rw [hU2]
    repeat (first | with_reducible exact Above.refl _ _ | refine Above.setCell ?_ (by simp <;> omega) _)
  have b2 : Below w.heap.size w U2 := by
    rw [hU2]
    repeat (first | with_reducible exact B1.out | refine Below.setCell ?_ (by simp <;> omega) _)
  have r0 : U2.heap[w.heap.size]? = some (.cells #[.int .i64 x.k, .int .i64 x.n, .slice v.a v.len v.cap, .slice s.a s.len s.cap] 73) := by
    rw [hU2, heap_setCell_other _ _ _ _ (show w.heap.size ≠ w.heap.size + 1 + 1 by omega)]; exact HQ0.out
  have r1 : U2.heap[w.heap.size + 1]? = some (.cells #[.int .i64 0, .int .i64 0, .slice none 0 0, .slice none 0 0] 31) := by
    rw [hU2, heap_setCell_other _ _ _ _ (show w.heap.size + 1 ≠ w.heap.size + 1 + 1 by omega)]; exact HQ1.out
  have r2 : U2.heap[w.heap.size + 1 + 1]? = some (.cells #[.int .i64 x.k, .int .i64 x.n, .slice A v.len v.len, .slice none 0 0] 31) := by
    rw [hU2]; exact ty_put HQ2.out 2 _ rfl
  clear hU2 k0 k2 f2 HQ0 HQ1 HQ2
  refine (toStringS_any s.a s.len s.cap x.names U2 (HS.out.keep b2) hl2).mono ?_
  rintro e u2 ⟨rfl, o2, d2⟩
  have R0 := (d2.block w.heap.size (by omega)).trans r0
  have R1 := (d2.block (w.heap.size + 1) (by omega)).trans r1
  have R2 := (d2.block (w.heap.size + 1 + 1) (by omega)).trans r2
  have B2 : Hid (Below w.heap.size w u2) := b2.trans (d2.mono (by omega))
  have O2 : Hid (SRow (w.heap.size + 3) u2 (some ⟨U2.heap.size, 0, none⟩) s.len s.len x.names) := o2.lower (by omega)
  have O3 : Hid (Row .i64 (w.heap.size + 3) u2 A v.len v.len x.of) := (ty_row_above O1.out a2 (Nat.le_refl _)).keep d2
  have k1 : ∀ j, u2.cell? ⟨w.heap.size + 1, j, none⟩ = (#[.int .i64 0, .int .i64 0, .slice none 0 0, .slice none 0 0] : Array Value)[j]? := fun j => cell_of_row u2 (w.heap.size + 1) j _ 31 (0, 0) R1
  have k2 : ∀ j, u2.cell? ⟨w.heap.size + 1 + 1, j, none⟩ = (#[.int .i64 x.k, .int .i64 x.n, .slice A v.len v.len, .slice none 0 0] : Array Value)[j]? := fun j => cell_of_row u2 (w.heap.size + 1 + 1) j _ 31 (0, 0) R2
  have f1 : ∀ j, u2.frozen? ⟨w.heap.size + 1, j, none⟩ = false := fun j => frozen_of_row u2 (w.heap.size + 1) j _ 31 R1
  have f2 : ∀ j, u2.frozen? ⟨w.heap.size + 1 + 1, j, none⟩ = false := fun j => frozen_of_row u2 (w.heap.size + 1 + 1) j _ 31 R2
  have HR1 : Hid (u2.heap[w.heap.size + 1]? = some (.cells #[.int .i64 0, .int .i64 0, .slice none 0 0, .slice none 0 0] 31)) := R1
  generalize (some ⟨U2.heap.size, 0, none⟩ : Option Addr) = A2 at O2
  clear R0 R1 R2 r0 r1 r2 b2 o2 d2 z2 a2
  go_wp2
  refine bodyPost_ret (v := .agg #[.int .i64 x.k, .int .i64 x.n, .slice A v.len v.len, .slice A2 s.len s.len]) ?_ rfl ⟨⟨A, v.len, v.len⟩, ⟨A2, s.len, s.len⟩, rfl, ?_, ?_, ?_⟩
  · refine results_cell_row Tryz.results39 _ _ (w.heap.size + 1) 31 #[.int .i64 x.k, .int .i64 x.n, .slice A v.len v.len, .slice A2 s.len s.len] (0, 0) _ ?hp ?hg Tryz.underlying31 ?hd ?hi
    case hp => rfl
    case hd => rfl
    case hi => kernel_rfl
    case hg =>
      have h0 : (u2.setCell ⟨w.heap.size + 1 + 1, 3, none⟩ (.slice A2 s.len s.len)).heap[w.heap.size + 1]? = some (.cells #[.int .i64 0, .int .i64 0, .slice none 0 0, .slice none 0 0] 31) := by
        rw [heap_setCell_other _ _ _ _ (show w.heap.size + 1 ≠ w.heap.size + 1 + 1 by omega)]
        exact HR1.out
      have h1 := ty_put (cs' := #[.int .i64 x.k, .int .i64 0, .slice none 0 0, .slice none 0 0]) h0 0 (.int .i64 x.k) rfl
      have h2 := ty_put (cs' := #[.int .i64 x.k, .int .i64 x.n, .slice none 0 0, .slice none 0 0]) h1 1 (.int .i64 x.n) rfl
      have h3 := ty_put (cs' := #[.int .i64 x.k, .int .i64 x.n, .slice A v.len v.len, .slice none 0 0]) h2 2 (.slice A v.len v.len) rfl
      have h4 := ty_put (cs' := #[.int .i64 x.k, .int .i64 x.n, .slice A v.len v.len, .slice A2 s.len s.len]) h3 3 (.slice A2 s.len s.len) rfl
      exact h4
  · refine Row.lower (ty_row_above O3.out (B := w.heap.size + 3) ?_ (Nat.le_refl _)) (by omega)
    repeat (first | with_reducible exact Above.refl _ _ | refine Above.setCell ?_ (by simp <;> omega) _)
  · refine SRow.lower (SRow.above O2.out (B := w.heap.size + 3) ?_ (Nat.le_refl _)) (by omega)
    repeat (first | with_reducible exact Above.refl _ _ | refine Above.setCell ?_ (by simp <;> omega) _)
  · repeat (first | with_reducible exact B2.out | refine Below.setCell ?_ (by simp <;> omega) _)
end Go.Proofs.YtafcnijfoejboaaGreatDoor.W
namespace Go.Proofs.YtafcnijfoejboaaGreatDoor.W
open Go.RowKit
def TMid (g len k : Nat) (wr : World) (xs : List Pl.Ty) : Prop := ∀ i, i < len → ∃ v s : SV, (∀ j, j < 4 → wr.cell? ⟨g, i * 4 + j, none⟩ = ((if i < k then xs.getD i Pl.Ty.zero else Pl.Ty.zero).cells v s)[j]?) ∧ Row .i64 (g + 1) wr v.a v.len v.cap (if i < k then xs.getD i Pl.Ty.zero else Pl.Ty.zero).of ∧ SRow (g + 1) wr s.a s.len s.cap (if i < k then xs.getD i Pl.Ty.zero else Pl.Ty.zero).names
theorem TMid.keep {g len k : Nat} {w w' : World} {xs : List Pl.Ty} (h : TMid g len k w xs) (hg : g < w.heap.size) (hb : Below w.heap.size w w') : TMid g len k w' xs := fun i hi => by
  obtain ⟨v, s, h1, h2, h3⟩ := h i hi
  exact ⟨v, s, fun j hj => (hb.cell (p := ⟨g, i * 4 + j, none⟩) hg).trans (h1 j hj), h2.keep hb, h3.keep hb⟩
theorem TMid.some {g len k : Nat} {w : World} {xs : List Pl.Ty} (h : TMid g len k w xs) {i : Nat} (hi : i < len) : ∀ j, j < 4 → (w.cell? ⟨g, i * 4 + j, none⟩).isSome = true := fun j hj => by
  obtain ⟨v, s, h1, _⟩ := h i hi
  rw [h1 j hj]
  rcases (show j = 0 ∨ j = 1 ∨ j = 2 ∨ j = 3 by omega) with rfl | rfl | rfl | rfl <;> rfl
theorem TMid.put {g len k : Nat} {w : World} {xs : List Pl.Ty} (h : TMid g len k w xs) (hk : k < len) (v s : SV) (hr : Row .i64 (g + 1) w v.a v.len v.cap (xs.getD k Pl.Ty.zero).of) (hs : SRow (g + 1) w s.a s.len s.cap (xs.getD k Pl.Ty.zero).names) : TMid g len (k + 1) (set4 w g (k * 4) (xs.getD k Pl.Ty.zero) v s) xs := fun i hi => by
  by_cases e : i = k
  · subst e
    rw [if_pos (Nat.lt_succ_self _)]
    exact ⟨v, s, fun j hj => set4_in _ _ _ (h.some hk) j hj, set4_row hr (Nat.lt_succ_self _) _ _ _ _, set4_srow hs (Nat.lt_succ_self _) _ _ _ _⟩
  · obtain ⟨v', s', h1, h2, h3⟩ := h i hi
    have e1 : (if i < k + 1 then xs.getD i Pl.Ty.zero else Pl.Ty.zero) = (if i < k then xs.getD i Pl.Ty.zero else Pl.Ty.zero) := by
      by_cases e' : i < k
      · rw [if_pos e', if_pos (by omega)]
      · rw [if_neg e', if_neg (by omega)]
    rw [e1]
    exact ⟨v', s', fun j hj => (set4_out _ _ _ (by omega)).trans (h1 j hj), set4_row h2 (Nat.lt_succ_self _) _ _ _ _, set4_srow h3 (Nat.lt_succ_self _) _ _ _ _⟩
theorem ty_row_nil {k : IntKind} {lo : Nat} {w : World} : Row k lo w none 0 0 [] := ⟨rfl, Nat.le_refl _, Nat.zero_le _, fun n hn => absurd hn (by simp), .inl rfl⟩
theorem srow_nil {lo : Nat} {w : World} : SRow lo w none 0 0 [] := ⟨⟨rfl, fun n hn => absurd hn (by simp)⟩, Nat.le_refl _, Nat.zero_le _, .inl rfl⟩
set_option maxHeartbeats 2000000 in
theorem toTypeS_any {lo : Nat} (a : Option Addr) (len cap : Nat) (xs : List Pl.Ty) (w : World) (h : TRow lo w a len cap xs) (hl : len ≤ 1048576) (hks : ∀ i, i < len → (xs.getD i Pl.Ty.zero).of.length ≤ 1048576 ∧ (xs.getD i Pl.Ty.zero).names.length ≤ 1048576) : Calls Tryz.prog 21 #[.slice a len cap] w fun e w' => e = .returned (.slice (some ⟨w.heap.size, 0, none⟩) len len) ∧ TRow w.heap.size w' (some ⟨w.heap.size, 0, none⟩) len len xs ∧ Below w.heap.size w w' := by
  have HR : Hid (TRow lo w a len cap xs) := h
  have HKS : Hid (∀ i, i < len → (xs.getD i Pl.Ty.zero).of.length ≤ 1048576 ∧ (xs.getD i Pl.Ty.zero).names.length ≤ 1048576) := hks
  clear h hks
  have hinfo : (Tryz.prog.info? 31).map (fun i => (i.zero, i.size, i.bytes)) = some (some (.agg #[.int .i64 0, .int .i64 0, .slice none 0 0, .slice none 0 0]), 4, 64) := by kernel_rfl
  obtain ⟨i0, hi0, hz0, hz1, hz2⟩ := info_parts hinfo
  have hm : ∀ u : World, (Instr.makeSlice 23 (.int .i64 (len : Int)) (.int .i64 (len : Int))).run Tryz.prog u = .ok (.slice (some ⟨u.heap.size, 0, none⟩) len len) (u.alloc (.cells (madeCells #[.int .i64 0, .int .i64 0, .slice none 0 0, .slice none 0 0] (len * 4)) 31)) := fun u => by
    have := run_makeSlice u 23 31 i0 _ Tryz.underlying23 hi0 hz0 .i64 .i64 (len : Int) (len : Int) (by omega) (by omega) (by rw [hz1]; simp; omega) (by rw [hz2]; omega) (by omega)
    rw [hz1, Int.toNat_natCast] at this
    exact this
  clear hinfo hi0 hz0 hz1 hz2
  go_enter Tryz.func21, Tryz.ntmps21
  go_wp2_with fail
  clear hm
  go_loopw [4] (fun i wr => ∃ k : Nat, k ≤ len ∧ i = .int .i64 k ∧ w.heap.size < wr.heap.size ∧ (∀ q, wr.frozen? ⟨w.heap.size, q, none⟩ = false) ∧ TMid w.heap.size len k wr xs ∧ Below w.heap.size w wr) (fun i _ => len - (intOf i).toNat)
  case atStart =>
    refine ⟨0, Nat.zero_le _, rfl, by simp, fun q => frozen_of_row _ _ _ _ _ (heap_alloc_new w _), fun i hi => ⟨⟨none, 0, 0⟩, ⟨none, 0, 0⟩, fun j hj => ?_, ?_, ?_⟩, below_alloc w _⟩
    · rw [cell_of_row _ _ _ _ _ (0, 0) (heap_alloc_new w _), if_neg (Nat.not_lt_zero _)]
      have e : (i * 4 + j) % 4 = j := by omega
      have hb : i * 4 + j < len * 4 := by omega
      unfold madeCells
      rw [Array.getElem?_map, Array.getElem?_range, if_pos hb]
      simp only [Option.map_some, List.size_toArray, List.length_cons, List.length_nil, e]
      rcases (show j = 0 ∨ j = 1 ∨ j = 2 ∨ j = 3 by omega) with rfl | rfl | rfl | rfl <;> rfl
    · rw [if_neg (Nat.not_lt_zero _)]; exact ty_row_nil
    · rw [if_neg (Nat.not_lt_zero _)]; exact srow_nil
  case round =>
    obtain ⟨k, hk, rfl, hz, hfr, hcs, hbel⟩ := hrel
    have HC : Hid (TMid w.heap.size len k wr xs) := hcs
    have HF : Hid (∀ q, wr.frozen? ⟨w.heap.size, q, none⟩ = false) := hfr
    have HB : Hid (Below w.heap.size w wr) := hbel
    clear hcs hbel hfr
    by_cases hlt : k < len
    · have hi : (k : Int) < (len : Int) := by omega
      obtain ⟨b, off, v, s, rfl, hlo, hb1, hc, hrow, hs⟩ := (HR.out.keep HB.out).at hlt
      obtain ⟨x, hx⟩ : ∃ x, x = xs.getD k Pl.Ty.zero := ⟨_, rfl⟩
      rw [← hx] at hc hrow hs
      obtain ⟨c0, c1, c2, c3⟩ := ty_cells hc
      have hvl : v.len ≤ 1048576 := by have h1 := hrow.1; have h2 := (HKS.out k hlt).1; rw [← hx] at h2; omega
      have hsl : s.len ≤ 1048576 := by have h1 := hs.1.1; have h2 := (HKS.out k hlt).2; rw [← hx] at h2; omega
      have HX : Hid (x = xs.getD k Pl.Ty.zero) := hx
      have HW : Hid (Row .i64 lo wr v.a v.len v.cap x.of) := hrow
      have HS : Hid (SRow lo wr s.a s.len s.cap x.names) := hs
      clear hc hx hrow hs
      go_wp2_with fail
      refine (toType_any x v s wr HW.out HS.out hvl hsl).mono ?_
      rintro e u1 ⟨v', s', rfl, o1, o2, d1⟩
      have hf1 : ∀ q, u1.frozen? ⟨w.heap.size, q, none⟩ = false := fun q => (d1.frozen (p := ⟨w.heap.size, q, none⟩) hz).trans (HF.out q)
      have HC1 : Hid (TMid w.heap.size len k u1 xs) := HC.out.keep hz d1
      obtain ⟨v0, s0, hk1, _⟩ := HC1.out k hlt
      rw [if_neg (Nat.lt_irrefl _)] at hk1
      obtain ⟨e0, e1, e2, e3⟩ := ty_cells hk1
      have HD : Hid (Below w.heap.size w u1 ∧ w.heap.size < u1.heap.size) := ⟨HB.out.trans (d1.mono HB.out.size), Nat.lt_of_lt_of_le hz d1.size⟩
      have HO : Hid (Row .i64 (w.heap.size + 1) u1 v'.a v'.len v'.cap x.of) := o1.lower (by omega)
      have HP : Hid (SRow (w.heap.size + 1) u1 s'.a s'.len s'.cap x.names) := o2.lower (by omega)
      clear hk1 d1 o1 o2 c0 c1 c2 c3 HC HF HB HW HS
      go_wp2_with fail
      go_roundw
      case rel =>
        refine ⟨k + 1, by omega, by go_num, ?_, ?_, ?_, ?_⟩
        · simp only [World.size_setCell]; exact HD.out.2
        · intro q; simp only [World.frozen?_setCell]; exact hf1 q
        · have hn := HC1.out.put hlt v' s' (by rw [← HX.out]; exact HO.out) (by rw [← HX.out]; exact HP.out)
          rw [← HX.out] at hn
          exact hn
        · exact set4_below HD.out.1 (Nat.le_refl _) (k * 4) x v' s'
      case measure => simp [intOf]; omega
    · have hkk : k = len := by omega
      have hi : ¬ ((k : Int) < (len : Int)) := by omega
      have HZ : Hid (w.heap.size < wr.heap.size) := hz
      go_wp2
      go_ret
      refine ⟨rfl, ⟨HR.out.1, Nat.le_refl _, by unfold maxLen; omega, .inr ⟨w.heap.size, 0, rfl, Nat.le_refl _, HZ.out, fun i hi => ?_⟩⟩, HB.out⟩
      obtain ⟨v, s, h1, h2, h3⟩ := HC.out i hi
      rw [if_pos (by omega)] at h1 h2 h3
      exact ⟨v, s, fun j hj => by rw [Nat.zero_add]; exact h1 j hj, h2.lower (by omega), h3.lower (by omega)⟩
end Go.Proofs.YtafcnijfoejboaaGreatDoor.W
namespace Go.Proofs.YtafcnijfoejboaaGreatDoor.W
open Go.RowKit
set_option maxHeartbeats 2000000 in
theorem eqType_same {lo lo2 : Nat} (x : Pl.Ty) (v s v2 s2 : SV) (w : World) (h : Row .i64 lo w v.a v.len v.cap x.of) (h2 : Row .i64 lo2 w v2.a v2.len v2.cap x.of) (g : SRow lo w s.a s.len s.cap x.names) (g2 : SRow lo2 w s2.a s2.len s2.cap x.names) :
    Calls Tryz.prog 40 #[.agg #[.int .i64 x.k, .int .i64 x.n, .slice v.a v.len v.cap, .slice s.a s.len s.cap], .agg #[.int .i64 x.k, .int .i64 x.n, .slice v2.a v2.len v2.cap, .slice s2.a s2.len s2.cap]] w fun e w' => e = .returned (.bool true) ∧ Below w.heap.size w w' := by
  have HR : Hid (Row .i64 lo w v.a v.len v.cap x.of) := h
  have HR2 : Hid (Row .i64 lo2 w v2.a v2.len v2.cap x.of) := h2
  have HS : Hid (SRow lo w s.a s.len s.cap x.names) := g
  have HS2 : Hid (SRow lo2 w s2.a s2.len s2.cap x.names) := g2
  clear h h2 g g2
  go_enter Tryz.func40, Tryz.ntmps40
  go_wp2_with fail
  refine ty_at fun u0 hu0 => ?_
  have p0 : u0.heap[w.heap.size]? = some (.cells #[.int .i64 x.k, .int .i64 x.n, .slice v.a v.len v.cap, .slice s.a s.len s.cap] 31) := by
    rw [hu0, Below.heap_alloc _ _ _ (by simp)]
    exact heap_alloc_new w _
  have q0 : u0.heap[w.heap.size + 1]? = some (.cells #[.int .i64 x.k, .int .i64 x.n, .slice v2.a v2.len v2.cap, .slice s2.a s2.len s2.cap] 31) := by
    rw [hu0]
    have := heap_alloc_new (w.alloc (.cells #[.int .i64 x.k, .int .i64 x.n, .slice v.a v.len v.cap, .slice s.a s.len s.cap] 31)) (.cells #[.int .i64 x.k, .int .i64 x.n, .slice v2.a v2.len v2.cap, .slice s2.a s2.len s2.cap] 31)
    simpa using this
  have hb : Below w.heap.size w u0 := by
    rw [hu0]
    exact ((Below.refl _ _).alloc (Nat.le_refl _) _).alloc (by simp) _
  have hz : w.heap.size + 1 < u0.heap.size := by rw [hu0]; simp
  clear hu0
  refine (eqIntS_any _ _ _ _ _ _ _ _ u0 (HR.out.keep hb) (HR2.out.keep hb)).mono ?_
  rintro e u1 ⟨rfl, d1⟩
  rw [show (x.of == x.of) = true from beq_self_eq_true _]
  have P1 := (d1.block _ (by omega)).trans p0
  have Q1 := (d1.block _ (by omega)).trans q0
  have kb : ∀ j, u1.cell? ⟨w.heap.size, j, none⟩ = (#[.int .i64 x.k, .int .i64 x.n, .slice v.a v.len v.cap, .slice s.a s.len s.cap] : Array Value)[j]? := fun j => cell_of_row u1 w.heap.size j _ 31 (0, 0) P1
  have kc : ∀ j, u1.cell? ⟨w.heap.size + 1, j, none⟩ = (#[.int .i64 x.k, .int .i64 x.n, .slice v2.a v2.len v2.cap, .slice s2.a s2.len s2.cap] : Array Value)[j]? := fun j => cell_of_row u1 (w.heap.size + 1) j _ 31 (0, 0) Q1
  have B1 : Hid (Below w.heap.size w u1) := hb.trans (d1.mono (by omega))
  clear d1 p0 q0 hb hz P1 Q1
  go_wp2_with (go_at_call 62; refine (eqStringS_same _ _ _ _ _ _ _ _ (HS.out.keep B1.out) (HS2.out.keep B1.out)).mono ?_; rintro e u2 ⟨rfl, d2⟩)
  go_ret
  exact ⟨rfl, B1.out.trans (d2.mono B1.out.size)⟩
set_option maxRecDepth 4000 in
set_option maxHeartbeats 4000000 in
theorem eqTypeS_same {lo lo2 : Nat} (a a' : Option Addr) (len cap cap' : Nat) (xs : List Pl.Ty) (w : World) (h : TRow lo w a len cap xs) (h' : TRow lo2 w a' len cap' xs) : Calls Tryz.prog 22 #[.slice a len cap, .slice a' len cap'] w fun e w' => e = .returned (.bool true) ∧ Below w.heap.size w w' := by
  have hm : (len : Int) ≤ 9223372036854775807 := by have := h.small; omega
  have HR : Hid (TRow lo w a len cap xs) := h
  have HR' : Hid (TRow lo2 w a' len cap' xs) := h'
  clear h h'
  go_enter Tryz.func22, Tryz.ntmps22
  go_wp2_with fail
  go_loopw [5] (fun i wr => ∃ k : Nat, k ≤ len ∧ i = .int .i64 k ∧ Below w.heap.size w wr) (fun i _ => len - (intOf i).toNat)
  case atStart => exact ⟨0, Nat.zero_le _, rfl, Below.refl _ _⟩
  case round =>
    obtain ⟨k, hk, rfl, hbel⟩ := hrel
    have HB : Hid (Below w.heap.size w wr) := hbel
    clear hbel
    by_cases hlt : k < len
    · have hi : (k : Int) < (len : Int) := by omega
      obtain ⟨b, off, v, s, rfl, hlo, hb1, hc, hrow, hs⟩ := (HR.out.keep HB.out).at hlt
      obtain ⟨b', off', v2, s2, rfl, hlo', hb1', hc', hrow', hs'⟩ := (HR'.out.keep HB.out).at hlt
      obtain ⟨x, hx⟩ : ∃ x, x = xs.getD k Pl.Ty.zero := ⟨_, rfl⟩
      rw [← hx] at hc hrow hc' hrow' hs hs'
      obtain ⟨c0, c1, c2, c3⟩ := ty_cells hc
      obtain ⟨g0, g1, g2, g3⟩ := ty_cells hc'
      have HE : Hid (∀ u : World, Below wr.heap.size wr u → Calls Tryz.prog 40 #[.agg #[.int .i64 x.k, .int .i64 x.n, .slice v.a v.len v.cap, .slice s.a s.len s.cap], .agg #[.int .i64 x.k, .int .i64 x.n, .slice v2.a v2.len v2.cap, .slice s2.a s2.len s2.cap]] u fun e w' => e = .returned (.bool true) ∧ Below u.heap.size u w') := fun u hu => eqType_same x v s v2 s2 u (hrow.keep hu) (hrow'.keep hu) (hs.keep hu) (hs'.keep hu)
      clear hc hc' hx hrow hrow' hs hs'
      have hU := Tryz.underlying31
      go_wp2_with fail
      go_region_with (go_at_call 40; refine (HE.out _ (by repeat (first | with_reducible exact Below.refl _ _ | refine Below.drew ?_ | refine below_drewN ?_ _))).mono ?_; rintro e u1 ⟨rfl, d1⟩)
      all_goals
        have D1 : Hid _ := d1
        clear d1 c0 c1 c2 c3 g0 g1 g2 g3
        go_wp2_with fail
        go_roundw
        case rel => exact ⟨k + 1, by omega, by go_num, Below.trans (by repeat (first | with_reducible exact HB.out | refine Below.drew ?_ | refine below_drewN ?_ _)) (D1.out.mono HB.out.size)⟩
        case measure => simp [intOf]; omega
    · have hkk : k = len := by omega
      have hi : ¬ ((k : Int) < (len : Int)) := by omega
      go_wp2
      go_ret
      exact ⟨rfl, HB.out⟩
end Go.Proofs.YtafcnijfoejboaaGreatDoor.W
namespace Go.Proofs.YtafcnijfoejboaaGreatDoor.Pl
def within (a b c : Int) : Bool := decide (b ≤ a ∧ a ≤ c)
def scal (k : Int) : Bool := decide (2 ≤ k ∧ k ≤ 8)
def tagd (k : Int) : Bool := decide (k = 10 ∨ k = 11)
def Ty.whole (x : Ty) : Bool := scal x.k || (decide (x.k = 9) && decide (0 < x.n)) || (tagd x.k && decide (0 < x.of.length))
structure TRule where
  lowN : Int
  highN : Int
  least : Int
  most : Int
  names : Bool
def TRule.cells (r : TRule) : Array Value := #[.int .i64 r.lowN, .int .i64 r.highN, .int .i64 r.least, .int .i64 r.most, .bool r.names]
def tRule (k : Int) : Option TRule :=
  if 1 ≤ k ∧ k ≤ 7 then some ⟨0, 0, 0, 0, false⟩
  else if k = 8 then some ⟨0, 0, 1, 1, false⟩
  else if k = 9 then some ⟨1, 60000, 1, 1, false⟩
  else if k = 10 ∨ k = 11 then some ⟨0, 0, 0, 100, true⟩
  else if k = 12 then some ⟨0, 0, 1, 9, false⟩
  else none
end Go.Proofs.YtafcnijfoejboaaGreatDoor.Pl
namespace Go.Proofs.YtafcnijfoejboaaGreatDoor.W
open Go.RowKit
theorem isWithin_any (a b c : Int) (w : World) : Calls Tryz.prog 48 #[.int .i64 a, .int .i64 b, .int .i64 c] w fun e w' => e = .returned (.bool (Pl.within a b c)) ∧ w' = w := by
  go_enter Tryz.func48, Tryz.ntmps48
  go_wp2
  all_goals (go_ret; refine ⟨ret_bool ?_, rfl⟩; rw [Bool.eq_iff_iff]; simp [Pl.within] <;> omega)
theorem isScalar_any (k : Int) (w : World) : Calls Tryz.prog 68 #[.int .i64 k] w fun e w' => e = .returned (.bool (Pl.scal k)) ∧ w' = w := by
  go_enter Tryz.func68, Tryz.ntmps68
  go_wp2_with (go_at_call 48; refine (isWithin_any _ _ _ _).mono ?_; rintro e u1 ⟨rfl, rfl⟩)
  go_ret
  exact ⟨rfl, rfl⟩
theorem isRecord_any (k : Int) (w : World) : Calls Tryz.prog 51 #[.int .i64 k] w fun e w' => e = .returned (.bool (Pl.tagd k)) ∧ w' = w := by
  go_enter Tryz.func51, Tryz.ntmps51
  go_wp2
  all_goals (go_ret; refine ⟨ret_bool ?_, rfl⟩; rw [Bool.eq_iff_iff]; simp [Pl.tagd] <;> omega)
theorem l7Scalar_any (k : Int) (w : World) : Calls Tryz.prog 43 #[.int .i64 k] w fun e w' => e = .returned (.bool (Pl.scal k)) ∧ w' = w := by
  go_enter Tryz.func43, Tryz.ntmps43
  go_wp2
  all_goals (go_ret; refine ⟨ret_bool ?_, rfl⟩; rw [Bool.eq_iff_iff]; simp [Pl.scal] <;> omega)
theorem l7Tagged_any (k : Int) (w : World) : Calls Tryz.prog 31 #[.int .i64 k] w fun e w' => e = .returned (.bool (Pl.tagd k)) ∧ w' = w := by
  go_enter Tryz.func31, Tryz.ntmps31
  go_wp2
  all_goals (go_ret; refine ⟨ret_bool ?_, rfl⟩; rw [Bool.eq_iff_iff]; simp [Pl.tagd] <;> omega)
set_option maxHeartbeats 2000000 in
theorem isComplete_any (x : Pl.Ty) (v s : SV) (hv : x.of.length = v.len) (w : World) : Calls Tryz.prog 65 #[.agg #[.int .i64 x.k, .int .i64 x.n, .slice v.a v.len v.cap, .slice s.a s.len s.cap]] w fun e w' => e = .returned (.bool x.whole) ∧ Below w.heap.size w w' := by
  cases hs : Pl.scal x.k
  · have hn : ¬ (2 ≤ x.k ∧ x.k ≤ 8) := by simpa [Pl.scal] using hs
    cases ht : Pl.tagd x.k
    · have hn2 : ¬ (x.k = 10 ∨ x.k = 11) := by simpa [Pl.tagd] using ht
      by_cases h9 : x.k = 9
      · obtain ⟨k, n, zs, nms⟩ := x
        simp only at h9 hs ht hn hn2 hv
        subst h9
        by_cases hp : 0 < n
        · go_enter Tryz.func65, Tryz.ntmps65
          go_wp2_with (first | (go_at_call 68; refine (isScalar_any _ _).mono ?_; rintro e u1 ⟨rfl, rfl⟩; rw [hs]) | (go_at_call 51; refine (isRecord_any _ _).mono ?_; rintro e u1 ⟨rfl, rfl⟩; rw [ht]))
          go_ret; exact ⟨ret_bool (by simp [Pl.Ty.whole, hs, ht, hp]), below_alloc _ _⟩
        · go_enter Tryz.func65, Tryz.ntmps65
          go_wp2_with (first | (go_at_call 68; refine (isScalar_any _ _).mono ?_; rintro e u1 ⟨rfl, rfl⟩; rw [hs]) | (go_at_call 51; refine (isRecord_any _ _).mono ?_; rintro e u1 ⟨rfl, rfl⟩; rw [ht]))
          go_ret; exact ⟨ret_bool (by first | (simp [Pl.Ty.whole, hs, ht]; done) | (simp [Pl.Ty.whole, hs, ht]; omega)), below_alloc _ _⟩
      · go_enter Tryz.func65, Tryz.ntmps65
        go_wp2_with (first | (go_at_call 68; refine (isScalar_any _ _).mono ?_; rintro e u1 ⟨rfl, rfl⟩; rw [hs]) | (go_at_call 51; refine (isRecord_any _ _).mono ?_; rintro e u1 ⟨rfl, rfl⟩; rw [ht]))
        go_ret; exact ⟨ret_bool (by simp [Pl.Ty.whole, hs, ht, h9]), below_alloc _ _⟩
    · have hn2 : x.k = 10 ∨ x.k = 11 := by simpa [Pl.tagd] using ht
      have h9 : ¬ (x.k = 9) := by omega
      go_enter Tryz.func65, Tryz.ntmps65
      go_wp2_with (first | (go_at_call 68; refine (isScalar_any _ _).mono ?_; rintro e u1 ⟨rfl, rfl⟩; rw [hs]) | (go_at_call 51; refine (isRecord_any _ _).mono ?_; rintro e u1 ⟨rfl, rfl⟩; rw [ht]))
      all_goals (go_ret; refine ⟨ret_bool ?_, below_alloc _ _⟩; rw [Bool.eq_iff_iff]; simp [Pl.Ty.whole, hs, ht, h9, hv] <;> omega)
  · have hn : 2 ≤ x.k ∧ x.k ≤ 8 := by simpa [Pl.scal] using hs
    go_enter Tryz.func65, Tryz.ntmps65
    go_wp2_with (go_at_call 68; refine (isScalar_any _ _).mono ?_; rintro e u1 ⟨rfl, rfl⟩; rw [hs])
    all_goals (go_ret; refine ⟨ret_bool ?_, below_alloc _ _⟩; simp [Pl.Ty.whole, hs])
end Go.Proofs.YtafcnijfoejboaaGreatDoor.W
namespace Go.Proofs.YtafcnijfoejboaaGreatDoor.W
open Go.RowKit
set_option maxHeartbeats 1000000 in
theorem tyrule_1 (w : World) : Calls Tryz.prog 47 #[.int .i64 1] w fun e w' => e = .returned (.tuple #[.agg #[.int .i64 0, .int .i64 0, .int .i64 0, .int .i64 0, .bool false], .bool true]) ∧ Below w.heap.size w w' := by
  go_enter Tryz.func47, Tryz.ntmps47
  go_wp2
  exact bodyPost_ret (v := .tuple #[.agg #[.int .i64 0, .int .i64 0, .int .i64 0, .int .i64 0, .bool false], .bool true]) (by simp [results, Tryz.results47, go_sem]) rfl ⟨rfl, (by repeat (first | with_reducible exact Below.refl _ _ | refine Below.setCell ?_ (by simp <;> omega) _ | refine Below.alloc ?_ (by simp <;> omega) _))⟩
set_option maxHeartbeats 1000000 in
theorem tyrule_2 (w : World) : Calls Tryz.prog 47 #[.int .i64 2] w fun e w' => e = .returned (.tuple #[.agg #[.int .i64 0, .int .i64 0, .int .i64 0, .int .i64 0, .bool false], .bool true]) ∧ Below w.heap.size w w' := by
  go_enter Tryz.func47, Tryz.ntmps47
  go_wp2
  exact bodyPost_ret (v := .tuple #[.agg #[.int .i64 0, .int .i64 0, .int .i64 0, .int .i64 0, .bool false], .bool true]) (by simp [results, Tryz.results47, go_sem]) rfl ⟨rfl, (by repeat (first | with_reducible exact Below.refl _ _ | refine Below.setCell ?_ (by simp <;> omega) _ | refine Below.alloc ?_ (by simp <;> omega) _))⟩
set_option maxHeartbeats 1000000 in
theorem tyrule_3 (w : World) : Calls Tryz.prog 47 #[.int .i64 3] w fun e w' => e = .returned (.tuple #[.agg #[.int .i64 0, .int .i64 0, .int .i64 0, .int .i64 0, .bool false], .bool true]) ∧ Below w.heap.size w w' := by
  go_enter Tryz.func47, Tryz.ntmps47
  go_wp2
  exact bodyPost_ret (v := .tuple #[.agg #[.int .i64 0, .int .i64 0, .int .i64 0, .int .i64 0, .bool false], .bool true]) (by simp [results, Tryz.results47, go_sem]) rfl ⟨rfl, (by repeat (first | with_reducible exact Below.refl _ _ | refine Below.setCell ?_ (by simp <;> omega) _ | refine Below.alloc ?_ (by simp <;> omega) _))⟩
set_option maxHeartbeats 1000000 in
theorem tyrule_4 (w : World) : Calls Tryz.prog 47 #[.int .i64 4] w fun e w' => e = .returned (.tuple #[.agg #[.int .i64 0, .int .i64 0, .int .i64 0, .int .i64 0, .bool false], .bool true]) ∧ Below w.heap.size w w' := by
  go_enter Tryz.func47, Tryz.ntmps47
  go_wp2
  exact bodyPost_ret (v := .tuple #[.agg #[.int .i64 0, .int .i64 0, .int .i64 0, .int .i64 0, .bool false], .bool true]) (by simp [results, Tryz.results47, go_sem]) rfl ⟨rfl, (by repeat (first | with_reducible exact Below.refl _ _ | refine Below.setCell ?_ (by simp <;> omega) _ | refine Below.alloc ?_ (by simp <;> omega) _))⟩
set_option maxHeartbeats 1000000 in
theorem tyrule_5 (w : World) : Calls Tryz.prog 47 #[.int .i64 5] w fun e w' => e = .returned (.tuple #[.agg #[.int .i64 0, .int .i64 0, .int .i64 0, .int .i64 0, .bool false], .bool true]) ∧ Below w.heap.size w w' := by
  go_enter Tryz.func47, Tryz.ntmps47
  go_wp2
  exact bodyPost_ret (v := .tuple #[.agg #[.int .i64 0, .int .i64 0, .int .i64 0, .int .i64 0, .bool false], .bool true]) (by simp [results, Tryz.results47, go_sem]) rfl ⟨rfl, (by repeat (first | with_reducible exact Below.refl _ _ | refine Below.setCell ?_ (by simp <;> omega) _ | refine Below.alloc ?_ (by simp <;> omega) _))⟩
set_option maxHeartbeats 1000000 in
theorem tyrule_6 (w : World) : Calls Tryz.prog 47 #[.int .i64 6] w fun e w' => e = .returned (.tuple #[.agg #[.int .i64 0, .int .i64 0, .int .i64 0, .int .i64 0, .bool false], .bool true]) ∧ Below w.heap.size w w' := by
  go_enter Tryz.func47, Tryz.ntmps47
  go_wp2
  exact bodyPost_ret (v := .tuple #[.agg #[.int .i64 0, .int .i64 0, .int .i64 0, .int .i64 0, .bool false], .bool true]) (by simp [results, Tryz.results47, go_sem]) rfl ⟨rfl, (by repeat (first | with_reducible exact Below.refl _ _ | refine Below.setCell ?_ (by simp <;> omega) _ | refine Below.alloc ?_ (by simp <;> omega) _))⟩
set_option maxHeartbeats 1000000 in
theorem tyrule_7 (w : World) : Calls Tryz.prog 47 #[.int .i64 7] w fun e w' => e = .returned (.tuple #[.agg #[.int .i64 0, .int .i64 0, .int .i64 0, .int .i64 0, .bool false], .bool true]) ∧ Below w.heap.size w w' := by
  go_enter Tryz.func47, Tryz.ntmps47
  go_wp2
  exact bodyPost_ret (v := .tuple #[.agg #[.int .i64 0, .int .i64 0, .int .i64 0, .int .i64 0, .bool false], .bool true]) (by simp [results, Tryz.results47, go_sem]) rfl ⟨rfl, (by repeat (first | with_reducible exact Below.refl _ _ | refine Below.setCell ?_ (by simp <;> omega) _ | refine Below.alloc ?_ (by simp <;> omega) _))⟩
set_option maxHeartbeats 1000000 in
theorem tyrule_8 (w : World) : Calls Tryz.prog 47 #[.int .i64 8] w fun e w' => e = .returned (.tuple #[.agg #[.int .i64 0, .int .i64 0, .int .i64 1, .int .i64 1, .bool false], .bool true]) ∧ Below w.heap.size w w' := by
  go_enter Tryz.func47, Tryz.ntmps47
  go_wp2
  exact bodyPost_ret (v := .tuple #[.agg #[.int .i64 0, .int .i64 0, .int .i64 1, .int .i64 1, .bool false], .bool true]) (by simp [results, Tryz.results47, go_sem]) rfl ⟨rfl, (by repeat (first | with_reducible exact Below.refl _ _ | refine Below.setCell ?_ (by simp <;> omega) _ | refine Below.alloc ?_ (by simp <;> omega) _))⟩
set_option maxHeartbeats 1000000 in
theorem tyrule_9 (w : World) : Calls Tryz.prog 47 #[.int .i64 9] w fun e w' => e = .returned (.tuple #[.agg #[.int .i64 1, .int .i64 60000, .int .i64 1, .int .i64 1, .bool false], .bool true]) ∧ Below w.heap.size w w' := by
  go_enter Tryz.func47, Tryz.ntmps47
  go_wp2
  exact bodyPost_ret (v := .tuple #[.agg #[.int .i64 1, .int .i64 60000, .int .i64 1, .int .i64 1, .bool false], .bool true]) (by simp [results, Tryz.results47, go_sem]) rfl ⟨rfl, (by repeat (first | with_reducible exact Below.refl _ _ | refine Below.setCell ?_ (by simp <;> omega) _ | refine Below.alloc ?_ (by simp <;> omega) _))⟩
set_option maxHeartbeats 1000000 in
theorem tyrule_10 (w : World) : Calls Tryz.prog 47 #[.int .i64 10] w fun e w' => e = .returned (.tuple #[.agg #[.int .i64 0, .int .i64 0, .int .i64 0, .int .i64 100, .bool true], .bool true]) ∧ Below w.heap.size w w' := by
  go_enter Tryz.func47, Tryz.ntmps47
  go_wp2
  exact bodyPost_ret (v := .tuple #[.agg #[.int .i64 0, .int .i64 0, .int .i64 0, .int .i64 100, .bool true], .bool true]) (by simp [results, Tryz.results47, go_sem]) rfl ⟨rfl, (by repeat (first | with_reducible exact Below.refl _ _ | refine Below.setCell ?_ (by simp <;> omega) _ | refine Below.alloc ?_ (by simp <;> omega) _))⟩
set_option maxHeartbeats 1000000 in
theorem tyrule_11 (w : World) : Calls Tryz.prog 47 #[.int .i64 11] w fun e w' => e = .returned (.tuple #[.agg #[.int .i64 0, .int .i64 0, .int .i64 0, .int .i64 100, .bool true], .bool true]) ∧ Below w.heap.size w w' := by
  go_enter Tryz.func47, Tryz.ntmps47
  go_wp2
  exact bodyPost_ret (v := .tuple #[.agg #[.int .i64 0, .int .i64 0, .int .i64 0, .int .i64 100, .bool true], .bool true]) (by simp [results, Tryz.results47, go_sem]) rfl ⟨rfl, (by repeat (first | with_reducible exact Below.refl _ _ | refine Below.setCell ?_ (by simp <;> omega) _ | refine Below.alloc ?_ (by simp <;> omega) _))⟩
set_option maxHeartbeats 1000000 in
theorem tyrule_12 (w : World) : Calls Tryz.prog 47 #[.int .i64 12] w fun e w' => e = .returned (.tuple #[.agg #[.int .i64 0, .int .i64 0, .int .i64 1, .int .i64 9, .bool false], .bool true]) ∧ Below w.heap.size w w' := by
  go_enter Tryz.func47, Tryz.ntmps47
  go_wp2
  exact bodyPost_ret (v := .tuple #[.agg #[.int .i64 0, .int .i64 0, .int .i64 1, .int .i64 9, .bool false], .bool true]) (by simp [results, Tryz.results47, go_sem]) rfl ⟨rfl, (by repeat (first | with_reducible exact Below.refl _ _ | refine Below.setCell ?_ (by simp <;> omega) _ | refine Below.alloc ?_ (by simp <;> omega) _))⟩
set_option maxHeartbeats 1000000 in
theorem tyrule_no (k : Int) (h : k < 1 ∨ 12 < k) (w : World) : Calls Tryz.prog 47 #[.int .i64 k] w fun e w' => e = .returned (.tuple #[.agg #[.int .i64 0, .int .i64 0, .int .i64 0, .int .i64 0, .bool false], .bool false]) ∧ Below w.heap.size w w' := by
  have n1 : ¬ (k = 1) := by omega
  have n2 : ¬ (k = 2) := by omega
  have n3 : ¬ (k = 3) := by omega
  have n4 : ¬ (k = 4) := by omega
  have n5 : ¬ (k = 5) := by omega
  have n6 : ¬ (k = 6) := by omega
  have n7 : ¬ (k = 7) := by omega
  have n8 : ¬ (k = 8) := by omega
  have n9 : ¬ (k = 9) := by omega
  have n10 : ¬ (k = 10) := by omega
  have n11 : ¬ (k = 11) := by omega
  have n12 : ¬ (k = 12) := by omega
  clear h
  go_enter Tryz.func47, Tryz.ntmps47
  go_wp2
  exact bodyPost_ret (v := .tuple #[.agg #[.int .i64 0, .int .i64 0, .int .i64 0, .int .i64 0, .bool false], .bool false]) (by simp [results, Tryz.results47, go_sem]) rfl ⟨rfl, (by repeat (first | with_reducible exact Below.refl _ _ | refine Below.setCell ?_ (by simp <;> omega) _ | refine Below.alloc ?_ (by simp <;> omega) _))⟩
theorem ruleOfKind_any (k : Int) (w : World) : Calls Tryz.prog 47 #[.int .i64 k] w fun e w' => e = .returned (.tuple #[.agg ((Pl.tRule k).getD ⟨0, 0, 0, 0, false⟩).cells, .bool (Pl.tRule k).isSome]) ∧ Below w.heap.size w w' := by
  by_cases h : k < 1 ∨ 12 < k
  · have e : Pl.tRule k = none := by
      unfold Pl.tRule
      rw [if_neg (by omega), if_neg (by omega), if_neg (by omega), if_neg (by omega), if_neg (by omega)]
    rw [e]
    exact tyrule_no k h w
  · rcases (show k = 1 ∨ k = 2 ∨ k = 3 ∨ k = 4 ∨ k = 5 ∨ k = 6 ∨ k = 7 ∨ k = 8 ∨ k = 9 ∨ k = 10 ∨ k = 11 ∨ k = 12 by omega) with rfl | rfl | rfl | rfl | rfl | rfl | rfl | rfl | rfl | rfl | rfl | rfl
    · exact tyrule_1 w
    · exact tyrule_2 w
    · exact tyrule_3 w
    · exact tyrule_4 w
    · exact tyrule_5 w
    · exact tyrule_6 w
    · exact tyrule_7 w
    · exact tyrule_8 w
    · exact tyrule_9 w
    · exact tyrule_10 w
    · exact tyrule_11 w
    · exact tyrule_12 w
end Go.Proofs.YtafcnijfoejboaaGreatDoor.W
namespace Go.Proofs.YtafcnijfoejboaaGreatDoor.Pl
def ofAt (xs : List Ty) (i p : Nat) : Int := (xs.getD i Ty.zero).of.getD p 0
def fitP (k : Int) (i p : Nat) (z : Int) (y : Ty) : Bool :=
  if k = 8 then decide (z < i) || tagd y.k
  else if k = 9 then decide (z < i) && y.whole
  else if k = 12 then decide (z < i) && (scal y.k || (decide (p = 0) && decide (y.k = 1)))
  else y.whole
def fitPart (xs : List Ty) (i p : Nat) : Bool :=
  within (ofAt xs i p) 0 ((xs.length : Int) - 1) && fitP (xs.getD i Ty.zero).k i p (ofAt xs i p) (xs.getD (ofAt xs i p).toNat Ty.zero)
end Go.Proofs.YtafcnijfoejboaaGreatDoor.Pl
namespace Go.Proofs.YtafcnijfoejboaaGreatDoor.W
open Go.RowKit
set_option maxRecDepth 8000 in
set_option maxHeartbeats 4000000 in
theorem isFitPart_any {lo : Nat} (a : Option Addr) (len cap : Nat) (xs : List Pl.Ty) (i p : Nat) (hi : i < len) (hp : p < (xs.getD i Pl.Ty.zero).of.length) (w : World) (h : TRow lo w a len cap xs) :
    Calls Tryz.prog 49 #[.slice a len cap, .int .i64 i, .int .i64 p] w fun e w' => e = .returned (.bool (Pl.fitPart xs i p)) ∧ Below w.heap.size w w' := by
  have hm : (len : Int) ≤ 9223372036854775807 := by have := h.small; omega
  have hxl : xs.length = len := h.1
  have HR : Hid (TRow lo w a len cap xs) := h
  obtain ⟨b, off, v, s, rfl, hlo, hb1, hc, hrow, hs⟩ := h.at hi
  obtain ⟨va, vl, vc⟩ := v
  have hvl : vl ≤ 9223372036854775807 := hrow.small
  obtain ⟨hl1, _, _, _, hr1⟩ := hrow
  simp only at hl1 hr1 hvl
  have hpl : p < vl := by omega
  obtain ⟨b2, o2, rfl, _, hb2, hcp⟩ := hr1.resolve_left (by omega)
  have cz := hcp p hpl
  obtain ⟨z, hz⟩ : ∃ z, z = Pl.ofAt xs i p := ⟨_, rfl⟩
  have cz' : w.cell? ⟨b2, o2 + p, none⟩ = some (.int .i64 z) := by rw [hz]; exact cz
  obtain ⟨k, hk⟩ : ∃ k, k = (xs.getD i Pl.Ty.zero).k := ⟨_, rfl⟩
  obtain ⟨c0, _, c2, _⟩ := ty_cells hc
  rw [← hk] at c0
  have hii : (i : Int) < (len : Int) := by omega
  have hpp : (p : Int) < (vl : Int) := by omega
  have E : Pl.fitPart xs i p = (Pl.within z 0 ((len : Int) - 1) && Pl.fitP k i p z (xs.getD z.toNat Pl.Ty.zero)) := by unfold Pl.fitPart; rw [hz, hk, hxl]
  rw [E]
  clear E hk hz hc hs hl1 hr1 cz hcp hp
  cases hw : Pl.within z 0 ((len : Int) - 1)
  · go_enter Tryz.func49, Tryz.ntmps49
    go_wp2_with (go_at_call 48; refine (isWithin_any _ _ _ _).mono ?_; rintro e u1 ⟨rfl, rfl⟩; rw [hw])
    go_ret
    exact ⟨rfl, Below.refl _ _⟩
  have hz2 : 0 ≤ z ∧ z ≤ (len : Int) - 1 := by simpa [Pl.within] using hw
  obtain ⟨j, rfl⟩ : ∃ j : Nat, z = j := ⟨z.toNat, by omega⟩
  have hj : j < len := by omega
  have hjj : (j : Int) < (len : Int) := by omega
  obtain ⟨b', off', v2, s2, e, _, _, hc', hrow', hs'⟩ := HR.out.at hj
  injection e with e
  injection e with e1 e2 _
  subst e1
  subst e2
  rw [Int.toNat_natCast, Bool.true_and]
  obtain ⟨y, hy⟩ : ∃ y, y = xs.getD j Pl.Ty.zero := ⟨_, rfl⟩
  rw [← hy] at hc' hrow' ⊢
  obtain ⟨d0, d1, d2, d3⟩ := ty_cells hc'
  have hyl : y.of.length = v2.len := hrow'.1
  have hU := Tryz.underlying31
  clear hc' hrow' hs' hy HR
  by_cases k8 : k = 8
  · subst k8
    cases ht : Pl.tagd y.k <;> by_cases hlt : (j : Int) < (i : Int)
    all_goals
      go_enter Tryz.func49, Tryz.ntmps49
      go_wp2_with (first | (go_at_call 48; refine (isWithin_any _ _ _ _).mono ?_; rintro e u1 ⟨rfl, rfl⟩; rw [hw]) | (go_at_call 51; refine (isRecord_any _ _).mono ?_; rintro e u1 ⟨rfl, rfl⟩; rw [ht]))
      go_ret
      refine ⟨ret_bool ?_, below_alloc _ _⟩
      simp [Pl.fitP, ht] <;> omega
  by_cases k9 : k = 9
  · subst k9
    by_cases hlt : (j : Int) < (i : Int)
    · go_enter Tryz.func49, Tryz.ntmps49
      go_wp2_with (first | (go_at_call 48; refine (isWithin_any _ _ _ _).mono ?_; rintro e u1 ⟨rfl, rfl⟩; rw [hw]) | (go_at_call 65; refine (isComplete_any y v2 s2 hyl _).mono ?_; rintro e u1 ⟨rfl, g1⟩; have G1 : Hid _ := g1; clear g1))
      go_ret
      refine ⟨ret_bool ?_, (below_alloc _ _).trans (G1.out.mono (by simp))⟩
      simp [Pl.fitP] <;> omega
    · go_enter Tryz.func49, Tryz.ntmps49
      go_wp2_with (first | (go_at_call 48; refine (isWithin_any _ _ _ _).mono ?_; rintro e u1 ⟨rfl, rfl⟩; rw [hw]) | (go_at_call 65; refine (isComplete_any y v2 s2 hyl _).mono ?_; rintro e u1 ⟨rfl, g1⟩; have G1 : Hid _ := g1; clear g1))
      go_ret
      refine ⟨ret_bool ?_, below_alloc _ _⟩
      simp [Pl.fitP] <;> omega
  by_cases k12 : k = 12
  · subst k12
    cases hsc : Pl.scal y.k <;> by_cases hlt : (j : Int) < (i : Int)
    all_goals
      go_enter Tryz.func49, Tryz.ntmps49
      go_wp2_with (first | (go_at_call 48; refine (isWithin_any _ _ _ _).mono ?_; rintro e u1 ⟨rfl, rfl⟩; rw [hw]) | (go_at_call 68; refine (isScalar_any _ _).mono ?_; rintro e u1 ⟨rfl, rfl⟩; rw [hsc]))
      all_goals
        go_ret
        refine ⟨ret_bool ?_, below_alloc _ _⟩
        rw [Bool.eq_iff_iff]
        simp [Pl.fitP, hsc] <;> omega
  go_enter Tryz.func49, Tryz.ntmps49
  go_wp2_with (first | (go_at_call 48; refine (isWithin_any _ _ _ _).mono ?_; rintro e u1 ⟨rfl, rfl⟩; rw [hw]) | (go_at_call 65; refine (isComplete_any y v2 s2 hyl _).mono ?_; rintro e u1 ⟨rfl, g1⟩; have G1 : Hid _ := g1; clear g1))
  go_ret
  refine ⟨ret_bool ?_, (below_alloc _ _).trans (G1.out.mono (by simp))⟩
  simp [Pl.fitP, k8, k9, k12]
end Go.Proofs.YtafcnijfoejboaaGreatDoor.W
namespace Go.Proofs.YtafcnijfoejboaaGreatDoor.Pl
def dg (c : Int) : Bool := decide (48 ≤ c ∧ c ≤ 57)
def lt (c : Int) : Bool := decide (97 ≤ c ∧ c ≤ 122) || decide (65 ≤ c ∧ c ≤ 90)
def ch (c : Int) : Bool := dg c || lt c || c == 95 || c == 46 || c == 36
def wch (c : Int) : Bool := dg c || lt c || c == 95
def byt (s : ByteArray) (i : Nat) : Int := ((s.data.toList.getD i 0).toNat : Int)
theorem byt_get (s : ByteArray) (i : Nat) (h : i < s.size) : ((s[i]'h).toNat : Int) = byt s i := by
  obtain ⟨⟨l⟩⟩ := s
  have hl : i < l.length := h
  unfold byt
  simp only [List.getD, List.getElem?_eq_getElem hl, Option.getD_some]
  rfl
end Go.Proofs.YtafcnijfoejboaaGreatDoor.Pl
namespace Go.Proofs.YtafcnijfoejboaaGreatDoor.W
open Go.RowKit
theorem isDigit_any (c : Int) (w : World) : Calls Tryz.prog 83 #[.int .u8 c] w fun e w' => e = .returned (.bool (Pl.dg c)) ∧ w' = w := by
  go_enter Tryz.func83, Tryz.ntmps83
  go_wp2
  all_goals (go_ret; refine ⟨ret_bool ?_, rfl⟩; rw [Bool.eq_iff_iff]; simp [Pl.dg, Pl.lt, Pl.ch] <;> omega)
theorem l4Digit_any (c : Int) (w : World) : Calls Tryz.prog 78 #[.int .u8 c] w fun e w' => e = .returned (.bool (Pl.dg c)) ∧ w' = w := by
  go_enter Tryz.func78, Tryz.ntmps78
  go_wp2
  all_goals (go_ret; refine ⟨ret_bool ?_, rfl⟩; rw [Bool.eq_iff_iff]; simp [Pl.dg, Pl.lt, Pl.ch] <;> omega)
theorem l4Letter_any (c : Int) (w : World) : Calls Tryz.prog 86 #[.int .u8 c] w fun e w' => e = .returned (.bool (Pl.lt c)) ∧ w' = w := by
  go_enter Tryz.func86, Tryz.ntmps86
  go_wp2
  all_goals (go_ret; refine ⟨ret_bool ?_, rfl⟩; rw [Bool.eq_iff_iff]; simp [Pl.dg, Pl.lt, Pl.ch] <;> omega)
end Go.Proofs.YtafcnijfoejboaaGreatDoor.W
namespace Go.Proofs.YtafcnijfoejboaaGreatDoor.Pl
def inS (ss : List ByteArray) (s : ByteArray) : Bool := ss.any fun x => x.toList == s.toList
theorem inS_yes {ss : List ByteArray} {s : ByteArray} {k : Nat} (hk : k < ss.length) (h : (ss.getD k ⟨#[]⟩).toList = s.toList) : inS ss s = true := by
  unfold inS
  rw [List.any_eq_true]
  refine ⟨ss.getD k ⟨#[]⟩, ?_, by rw [h]; exact beq_self_eq_true _⟩
  rw [List.getD_eq_getElem?_getD, List.getElem?_eq_getElem hk]
  exact List.getElem_mem _
theorem inS_no {ss : List ByteArray} {s : ByteArray} (h : ∀ k, k < ss.length → (ss.getD k ⟨#[]⟩).toList ≠ s.toList) : inS ss s = false := by
  unfold inS
  rw [List.any_eq_false]
  intro x hx
  obtain ⟨k, hk, rfl⟩ := List.mem_iff_getElem.1 hx
  have := h k hk
  rw [List.getD_eq_getElem?_getD, List.getElem?_eq_getElem hk] at this
  simpa using this
end Go.Proofs.YtafcnijfoejboaaGreatDoor.Pl
namespace Go.Proofs.YtafcnijfoejboaaGreatDoor.W
open Go.RowKit
set_option maxHeartbeats 2000000 in
theorem l5In_any {lo : Nat} (a : Option Addr) (len cap : Nat) (ss : List ByteArray) (t : ByteArray) (w : World) (h : SRow lo w a len cap ss) :
    Calls Tryz.prog 72 #[.slice a len cap, .string t] w fun e w' => e = .returned (.bool (Pl.inS ss t)) ∧ Below w.heap.size w w' := by
  have hs1 : (len : Int) ≤ 9223372036854775807 := by have := h.small; omega
  have H : Hid (SRow lo w a len cap ss) := h
  clear h
  go_enter Tryz.func72, Tryz.ntmps72
  go_wp2_with fail
  go_loopw [5] (fun i wr => ∃ k : Nat, k ≤ len ∧ i = .int .i64 k ∧ (∀ j, j < k → (ss.getD j ⟨#[]⟩).toList ≠ t.toList) ∧ Below w.heap.size w wr) (fun i _ => len - (intOf i).toNat)
  case atStart => exact ⟨0, Nat.zero_le _, rfl, fun j hj => absurd hj (Nat.not_lt_zero _), Below.refl _ _⟩
  case round =>
    obtain ⟨k, hk, rfl, hall, hb⟩ := hrel
    have HA : Hid (∀ j, j < k → (ss.getD j ⟨#[]⟩).toList ≠ t.toList) := hall
    have HB : Hid (Below w.heap.size w wr) := hb
    clear hb hall
    by_cases hlt : k < len
    · obtain ⟨b1, o1, rfl, _, _, hc1, _⟩ := (H.out.keep HB.out).at hlt
      obtain ⟨x, hx⟩ : ∃ x, x = ss.getD k ⟨#[]⟩ := ⟨_, rfl⟩
      rw [← hx] at hc1
      have HX : Hid (x = ss.getD k ⟨#[]⟩) := hx
      clear hx
      have hi : (k : Int) < (len : Int) := by omega
      cases he : (x.toList == t.toList)
      rotate_left
      · go_wp2_with fail
        go_ret
        exact ⟨ret_bool (Pl.inS_yes (k := k) (by rw [H.out.1.1]; exact hlt) (by rw [← HX.out]; exact eq_of_beq he)).symm, HB.out⟩
      · go_wp2_with fail
        go_roundw
        case rel => exact ⟨k + 1, by omega, by go_num, fun j hj => by
          by_cases e : j = k
          · rw [e, ← HX.out]; exact ne_of_beq_false he
          · exact HA.out j (by omega), HB.out⟩
        case measure => simp [intOf]; omega
    · have hke : k = len := by omega
      have hi : ¬ ((k : Int) < (len : Int)) := by omega
      go_wp2
      go_ret
      exact ⟨ret_bool (Pl.inS_no (fun j hj => HA.out j (by rw [H.out.1.1] at hj; omega))).symm, HB.out⟩
theorem l5Word_any (c : Int) (w : World) : Calls Tryz.prog 80 #[.int .u8 c] w fun e w' => e = .returned (.bool (Pl.wch c)) ∧ w' = w := by
  cases hl : Pl.lt c <;> cases hd : Pl.dg c
  all_goals
    go_enter Tryz.func80, Tryz.ntmps80
    go_wp2_with (first | (go_at_call 86; refine (l4Letter_any _ _).mono ?_; rintro e u1 ⟨rfl, rfl⟩; rw [hl]) | (go_at_call 78; refine (l4Digit_any _ _).mono ?_; rintro e u1 ⟨rfl, rfl⟩; rw [hd]))
    all_goals (go_ret; refine ⟨ret_bool ?_, rfl⟩; rw [Bool.eq_iff_iff]; simp [Pl.wch, hl, hd] <;> omega)
end Go.Proofs.YtafcnijfoejboaaGreatDoor.W
namespace Go.Proofs.YtafcnijfoejboaaGreatDoor.Pl
def kwB : List (List UInt8) := [[98, 114, 101, 97, 107], [99, 97, 115, 101], [99, 104, 97, 114], [99, 111, 110, 116, 105, 110, 117, 101], [100, 101, 102, 97, 117, 108, 116], [100, 111], [101, 108, 115, 101], [101, 110, 117, 109], [102, 111, 114], [103, 111, 116, 111], [105, 102], [105, 110, 116], [114, 101, 116, 117, 114, 110], [115, 104, 111, 114, 116], [115, 105, 103, 110, 101, 100], [115, 105, 122, 101, 111, 102], [115, 116, 114, 117, 99, 116], [115, 119, 105, 116, 99, 104], [116, 121, 112, 101, 100, 101, 102], [117, 110, 105, 111, 110], [117, 110, 115, 105, 103, 110, 101, 100], [118, 111, 105, 100], [119, 104, 105, 108, 101]]
def kws : List ByteArray := kwB.map fun r => ⟨r.toArray⟩
def kwTab : Array Value := (kws.map fun r => Value.string r).toArray
theorem kwTab_at (k : Nat) (h : k < 23) : kwTab[k]? = some (.string (kws.getD k ⟨#[]⟩)) := by
  unfold kwTab
  have hl : kws.length = 23 := rfl
  rw [List.getElem?_toArray, List.getElem?_map, List.getD_eq_getElem?_getD, List.getElem?_eq_getElem (by omega)]
  rfl
def nam (s : ByteArray) : Bool := decide (1 ≤ s.size) && decide (s.size ≤ 40) && !dg (byt s 0) && !inS kws s && (List.range s.size).all fun i => wch (byt s i)
theorem nam_yes (s : ByteArray) (h1 : 0 < s.size) (h2 : s.size ≤ 40) (h3 : dg (byt s 0) = false) (h5 : inS kws s = false) (h4 : ∀ j, j < s.size → wch (byt s j) = true) : nam s = true := by
  unfold nam
  simp only [Bool.and_eq_true, decide_eq_true_eq, List.all_eq_true, List.mem_range, Bool.not_eq_true', h3, h5]
  exact ⟨⟨⟨⟨by omega, h2⟩, trivial⟩, trivial⟩, h4⟩
theorem nam_no (s : ByteArray) (k : Nat) (h1 : k < s.size) (h2 : wch (byt s k) = false) : nam s = false := by
  unfold nam
  rw [Bool.and_eq_false_iff]
  right
  rw [List.all_eq_false]
  exact ⟨k, List.mem_range.2 h1, by simp [h2]⟩
end Go.Proofs.YtafcnijfoejboaaGreatDoor.Pl
namespace Go.Proofs.YtafcnijfoejboaaGreatDoor.W
open Go.RowKit
theorem l5Keys_any (w : World) : Calls Tryz.prog 79 #[] w fun e w' => e = .returned (.slice (some ⟨w.heap.size, 0, none⟩) 23 23) ∧ w' = w.alloc (.cells Pl.kwTab 9) := by
  go_enter Tryz.func79, Tryz.ntmps79
  go_wp2_with (refine Great.wpList_buildSliceTo rfl 29 9 23 _ rfl w.heap.size rfl _ rfl Tryz.underlying29 Pl.kwTab (by kernel_rfl) ?_)
  go_ret
  exact ⟨rfl, rfl⟩
theorem kws_small : ∀ x ∈ Pl.kws, x.size ≤ maxLen := by
  intro x hx
  obtain ⟨r, hr, rfl⟩ := List.mem_map.1 hx
  have : ∀ r ∈ Pl.kwB, r.length ≤ 8 := by decide
  have h8 := this r hr
  have : (ByteArray.mk r.toArray).size = r.length := by simp [ByteArray.size]
  unfold maxLen
  omega
theorem kws_row (w : World) : SRow w.heap.size (w.alloc (.cells Pl.kwTab 9)) (some ⟨w.heap.size, 0, none⟩) 23 23 Pl.kws :=
  ⟨⟨rfl, kws_small⟩, Nat.le_refl _, by unfold maxLen; omega, .inr ⟨w.heap.size, 0, rfl, Nat.le_refl _, by simp, fun i hi => by
    rw [cell_of_row _ _ (0 + i) Pl.kwTab 9 (0, 0) (heap_alloc_new w _), Nat.zero_add]; exact Pl.kwTab_at i hi⟩⟩
set_option maxHeartbeats 4000000 in
theorem l6NameOk_any (s : ByteArray) (w : World) : Calls Tryz.prog 71 #[.string s] w fun e w' => e = .returned (.bool (Pl.nam s)) ∧ Below w.heap.size w w' := by
  by_cases he : s.size = 0
  · have hl : Pl.nam s = false := by simp [Pl.nam, he]
    rw [hl]
    have hz : (s.size : Int) < 1 := by omega
    clear hl
    go_enter Tryz.func71, Tryz.ntmps71
    go_wp2
    go_ret
    exact ⟨rfl, Below.refl _ _⟩
  have hpos : 0 < s.size := by omega
  have hge : ¬ ((s.size : Int) < 1) := by omega
  by_cases hb : 40 < s.size
  · have hl : Pl.nam s = false := by simp [Pl.nam]; omega
    rw [hl]
    have hz : (40 : Int) < (s.size : Int) := by omega
    clear hl he
    go_enter Tryz.func71, Tryz.ntmps71
    go_wp2
    go_ret
    exact ⟨rfl, Below.refl _ _⟩
  have h40 : (s.size : Int) ≤ 40 := by omega
  have hd40 : decide ((40 : Int) < (s.size : Int)) = false := by simpa using h40
  cases hd : Pl.dg (Pl.byt s 0)
  rotate_left
  · have hl : Pl.nam s = false := by simp [Pl.nam, hd]
    rw [hl]
    clear hl he
    go_enter Tryz.func71, Tryz.ntmps71
    go_wp2_with (go_at_call 78; refine (l4Digit_any _ _).mono ?_; rintro e u1 ⟨rfl, rfl⟩; rw [Pl.byt_get s 0 hpos, hd])
    go_ret
    exact ⟨rfl, Below.refl _ _⟩
  have HK : Hid (∀ u : World, SRow u.heap.size (u.alloc (.cells Pl.kwTab 9)) (some ⟨u.heap.size, 0, none⟩) 23 23 Pl.kws) := kws_row
  cases hin : Pl.inS Pl.kws s
  rotate_left
  · have hl : Pl.nam s = false := by simp [Pl.nam, hin]
    rw [hl]
    clear hl he
    go_enter Tryz.func71, Tryz.ntmps71
    go_wp2_with (first | (go_at_call 78; refine (l4Digit_any _ _).mono ?_; rintro e u1 ⟨rfl, rfl⟩; rw [Pl.byt_get s 0 hpos, hd]) | (go_at_call 79; refine (l5Keys_any _).mono ?_; rintro e u1 ⟨rfl, rfl⟩) | (go_at_call 72; refine (l5In_any _ _ _ Pl.kws s _ (HK.out _)).mono ?_; rintro e u2 ⟨rfl, g2⟩; rw [hin]; have G2 : Hid _ := g2; clear g2))
    go_ret
    exact ⟨rfl, (below_alloc _ _).trans (G2.out.mono (by simp))⟩
  go_enter Tryz.func71, Tryz.ntmps71
  go_wp2_with (first | (go_at_call 78; refine (l4Digit_any _ _).mono ?_; rintro e u1 ⟨rfl, hu⟩; have hu' := hu.symm; clear hu; subst hu'; rw [Pl.byt_get s 0 hpos, hd]) | (go_at_call 79; refine (l5Keys_any _).mono ?_; rintro e u1 ⟨rfl, rfl⟩) | (go_at_call 72; refine (l5In_any _ _ _ Pl.kws s _ (HK.out _)).mono ?_; rintro e u2 ⟨rfl, g2⟩; rw [hin]; have G2 : Hid _ := g2; clear g2))
  have G3 : Hid (Below w.heap.size w u2) := (below_alloc _ _).trans (G2.out.mono (by simp))
  clear he hb hd40
  go_loop [3] (fun x => ∃ k : Nat, k ≤ s.size ∧ x = .int .i64 k ∧ ∀ j, j < k → Pl.wch (Pl.byt s j) = true) (fun x => s.size - (intOf x).toNat)
  case atStart => exact ⟨0, Nat.zero_le _, rfl, fun j hj => absurd hj (Nat.not_lt_zero j)⟩
  case round =>
    obtain ⟨k, hk, rfl, hall⟩ := hrel
    have HA : Hid (∀ j, j < k → Pl.wch (Pl.byt s j) = true) := hall
    clear hall
    by_cases hlt : k < s.size
    · have hi : (k : Int) < (s.size : Int) := by omega
      cases hl1 : Pl.wch (Pl.byt s k)
      · go_wp2_with (go_at_call 80; refine (l5Word_any _ _).mono ?_; rintro e u1 ⟨rfl, rfl⟩; rw [Pl.byt_get s k hlt, hl1])
        go_ret
        exact ⟨ret_bool (Pl.nam_no s k hlt hl1).symm, G3.out⟩
      · go_wp2_with (go_at_call 80; refine (l5Word_any _ _).mono ?_; rintro e u1 ⟨rfl, rfl⟩; rw [Pl.byt_get s k hlt, hl1])
        go_round
        case rel => exact ⟨k + 1, by omega, by go_num, fun j hj => by
          by_cases e : j = k
          · rw [e]; exact hl1
          · exact HA.out j (by omega)⟩
        case measure => simp [intOf]; omega
    · have hkk : k = s.size := by omega
      have HL : Hid (Pl.nam s = true) := Pl.nam_yes s hpos (by omega) hd hin (by rw [← hkk]; exact HA.out)
      clear HA
      have hi : ¬ ((k : Int) < (s.size : Int)) := by omega
      go_wp2
      go_ret
      exact ⟨ret_bool HL.out.symm, G3.out⟩
end Go.Proofs.YtafcnijfoejboaaGreatDoor.W
namespace Go.Proofs.YtafcnijfoejboaaGreatDoor.Pl
def apart (ss : List ByteArray) : Bool := decide (∀ k, k < ss.length → nam (ss.getD k ⟨#[]⟩) = true ∧ inS (ss.take k) (ss.getD k ⟨#[]⟩) = false)
end Go.Proofs.YtafcnijfoejboaaGreatDoor.Pl
namespace Go.Proofs.YtafcnijfoejboaaGreatDoor.W
open Go.RowKit
theorem SRow.take {lo : Nat} {w : World} {b off : Nat} {len cap : Nat} {ss : List ByteArray} (h : SRow lo w (some ⟨b, off, none⟩) len cap ss) {k : Nat} (hk : k ≤ len) : SRow lo w (some ⟨b, off, none⟩) k cap (ss.take k) := by
  obtain ⟨⟨h1, h1'⟩, h2, h3, h4⟩ := h
  refine ⟨⟨by rw [List.length_take]; omega, fun x hx => h1' x (List.mem_of_mem_take hx)⟩, by omega, h3, ?_⟩
  rcases Nat.eq_zero_or_pos k with h0 | h0
  · exact .inl h0
  · rcases h4 with h4 | ⟨b', off', e, hlo, hlt, hc⟩
    · omega
    · refine .inr ⟨b', off', e, hlo, hlt, fun i hi => ?_⟩
      rw [hc i (by omega)]
      simp only [List.getD_eq_getElem?_getD, List.getElem?_take, hi, if_true]
def ApYMk (b o1 len cap k : Nat) (x : ByteArray) (q : Bool) (u2 u8 u9 u10 u11 u12 u13 u14 u15 u16 u17 u18 u19 u20 u21 u22 u23 u24 u25 : Value)  (L : Array Bool) : Act := { tmps := #[.slice (some ⟨b, o1, none⟩) len cap, undef, u2, .int .i64 (k : Int), .int .i64 (k : Int), .slice (some ⟨b, o1, none⟩) len cap, .int .i64 (len : Int), .bool true, u8, u9, sld u10 L 0 (.slice (some ⟨b, o1, none⟩) len cap), sld u11 L 1 (.int .i64 (k : Int)), sld u12 L 2 (.pointer (some ⟨b, o1 + k, none⟩)), sld u13 L 3 (.string x), sld u14 L 4 (.bool true), sld u15 L 5 (.bool false), sld u16 L 6 (.bool false), sld u17 L 7 (.slice (some ⟨b, o1, none⟩) len cap), sld u18 L 8 (.int .i64 (k : Int)), sld u19 L 9 (.slice (some ⟨b, o1, none⟩) k cap), sld u20 L 10 (.slice (some ⟨b, o1, none⟩) len cap), sld u21 L 11 (.int .i64 (k : Int)), sld u22 L 12 (.pointer (some ⟨b, o1 + k, none⟩)), sld u23 L 13 (.string x), sld u24 L 14 (.bool q), sld u25 L 15 (.bool q)], defers := [] }
def ApNMk (b o1 len cap k : Nat) (x : ByteArray) (q : Bool) (u2 u8 u9 u10 u11 u12 u13 u14 u15 u16 u17 u18 u19 u20 u21 u22 u23 u24 u25 : Value)  (L : Array Bool) : Act := { tmps := #[.slice (some ⟨b, o1, none⟩) len cap, undef, u2, .int .i64 (k : Int), .int .i64 (k : Int), .slice (some ⟨b, o1, none⟩) len cap, .int .i64 (len : Int), .bool true, u8, u9, sld u10 L 0 (.slice (some ⟨b, o1, none⟩) len cap), sld u11 L 1 (.int .i64 (k : Int)), sld u12 L 2 (.pointer (some ⟨b, o1 + k, none⟩)), sld u13 L 3 (.string x), sld u14 L 4 (.bool false), sld u15 L 5 (.bool true), sld u16 L 6 (.bool true), sld u17 L 7 (undef), sld u18 L 8 (undef), sld u19 L 9 (undef), sld u20 L 10 (undef), sld u21 L 11 (undef), sld u22 L 12 (undef), sld u23 L 13 (undef), sld u24 L 14 (undef), sld u25 L 15 (.bool true)], defers := [] }
set_option maxRecDepth 8000 in
set_option maxHeartbeats 4000000 in
theorem l7Apart_any {lo : Nat} (a : Option Addr) (len cap : Nat) (ss : List ByteArray) (w : World) (h : SRow lo w a len cap ss) :
    Calls Tryz.prog 53 #[.slice a len cap] w fun e w' => e = .returned (.bool (Pl.apart ss)) ∧ Below w.heap.size w w' := by
  have hs1 : (len : Int) ≤ 9223372036854775807 := by have := h.small; omega
  have H : Hid (SRow lo w a len cap ss) := h
  clear h
  go_enter Tryz.func53, Tryz.ntmps53
  go_wp2_with fail
  go_loopw [3] (fun i wr => ∃ k : Nat, k ≤ len ∧ i = .int .i64 k ∧ (∀ j, j < k → Pl.nam (ss.getD j ⟨#[]⟩) = true ∧ Pl.inS (ss.take j) (ss.getD j ⟨#[]⟩) = false) ∧ Below w.heap.size w wr) (fun i _ => len - (intOf i).toNat)
  case atStart => exact ⟨0, Nat.zero_le _, rfl, fun j hj => absurd hj (Nat.not_lt_zero _), Below.refl _ _⟩
  case round =>
    obtain ⟨k, hk, rfl, hall, hb⟩ := hrel
    have HA : Hid (∀ j, j < k → Pl.nam (ss.getD j ⟨#[]⟩) = true ∧ Pl.inS (ss.take j) (ss.getD j ⟨#[]⟩) = false) := hall
    have HB : Hid (Below w.heap.size w wr) := hb
    clear hb hall
    by_cases hlt : k < len
    · obtain ⟨b, o1, rfl, _, hbl, hc1, _⟩ := (H.out.keep HB.out).at hlt
      obtain ⟨x, hx⟩ : ∃ x, x = ss.getD k ⟨#[]⟩ := ⟨_, rfl⟩
      rw [← hx] at hc1
      have HX : Hid (x = ss.getD k ⟨#[]⟩) := hx
      clear hx
      have hi : (k : Int) < (len : Int) := by omega
      have hcap : k ≤ cap := by have := H.out.2.1; omega
      have HT : Hid (∀ u : World, Below wr.heap.size wr u → SRow lo u (some ⟨b, o1, none⟩) k cap (ss.take k)) := fun u hu => ((H.out.keep HB.out).keep hu).take (Nat.le_of_lt hlt)
      go_upto_region 4 with fail
      cases hnam : Pl.nam x
      · obtain ⟨q, hq⟩ : ∃ q : Bool, q = true := ⟨_, rfl⟩
        refine wp_region_any (by kernel_rfl) ?_
        change wpAny _ _ _ _ _ _ _ (World.drew _)
        obtain ⟨U, hU⟩ : ∃ U, U = wr.drew := ⟨_, rfl⟩
        have dU : Below wr.heap.size wr U := by rw [hU]; exact (Below.refl _ _).drew
        rw [← hU]
        refine wpAny_inw (fun L act w' => act = ApNMk b o1 len cap k x q u2 u8 u9 u10 u11 u12 u13 u14 u15 u16 u17 u18 u19 u20 u21 u22 u23 u24 u25 L ∧ Below wr.heap.size wr w') ?done (by kernel_rfl) ?step _ 16 _ _ (by kernel_rfl) ?init (by decide)
        case init => exact ⟨by simp only [ApNMk, sld_no (up_init _ _)], dU⟩
        case step =>
          intro L act w i o hI hlt hs nl hC hd ho K hK
          obtain ⟨rfl, hW⟩ := hI
          have hi_lt : i < 16 := (Array.getElem?_eq_some_iff.1 ho).1
          rcases (show i = 0 ∨ i = 1 ∨ i = 2 ∨ i = 3 ∨ i = 4 ∨ i = 5 ∨ i = 6 ∨ i = 7 ∨ i = 8 ∨ i = 9 ∨ i = 10 ∨ i = 11 ∨ i = 12 ∨ i = 13 ∨ i = 14 ∨ i = 15 by omega) with rfl | rfl | rfl | rfl | rfl | rfl | rfl | rfl | rfl | rfl | rfl | rfl | rfl | rfl | rfl | rfl
          · change some _ = some o at ho
            cases ho
            simp only [ApNMk]
            go_simp
            exact hK _ _ ⟨by simp only [ApNMk, sld_set hlt, reduceIte, Nat.reduceEqDiff]; try rfl, hW⟩
          · change some _ = some o at ho
            cases ho
            simp only [ApNMk]
            go_simp
            exact hK _ _ ⟨by simp only [ApNMk, sld_set hlt, reduceIte, Nat.reduceEqDiff]; try rfl, hW⟩
          · change some _ = some o at ho
            cases ho
            have q0 : up L 0 = true := (by first | exact hd { on := 0, ground := .data } (by simp) rfl | exact hd { on := 0, ground := .chain } (by simp) rfl | exact hd { on := 0, ground := .phase } (by simp) rfl)
            have q1 : up L 1 = true := (by first | exact hd { on := 1, ground := .data } (by simp) rfl | exact hd { on := 1, ground := .chain } (by simp) rfl | exact hd { on := 1, ground := .phase } (by simp) rfl)
            simp only [ApNMk, sld_yes q0, sld_yes q1]
            go_simp
            exact hK _ _ ⟨by simp only [ApNMk, sld_set hlt, sld_yes q0, sld_yes q1, reduceIte, Nat.reduceEqDiff]; try rfl, hW⟩
          · change some _ = some o at ho
            cases ho
            have q2 : up L 2 = true := (by first | exact hd { on := 2, ground := .data } (by simp) rfl | exact hd { on := 2, ground := .chain } (by simp) rfl | exact hd { on := 2, ground := .phase } (by simp) rfl)
            have kj := below_cell hW hc1
            simp only [ApNMk, sld_yes q2]
            go_simp
            exact hK _ _ ⟨by simp only [ApNMk, sld_set hlt, sld_yes q2, reduceIte, Nat.reduceEqDiff]; try rfl, hW⟩
          · change some _ = some o at ho
            cases ho
            have q3 : up L 3 = true := (by first | exact hd { on := 3, ground := .data } (by simp) rfl | exact hd { on := 3, ground := .chain } (by simp) rfl | exact hd { on := 3, ground := .phase } (by simp) rfl)
            simp only [ApNMk, sld_yes q3]
            go_simp
            refine (l6NameOk_any x w).mono ?_
            rintro e z ⟨rfl, dz⟩
            rw [hnam]
            go_simp
            exact hK _ _ ⟨by simp only [ApNMk, sld_set hlt, sld_yes q3, reduceIte, Nat.reduceEqDiff]; try rfl, hW.trans (dz.mono hW.size)⟩
          · change some _ = some o at ho
            cases ho
            have q4 : up L 4 = true := (by first | exact hd { on := 4, ground := .data } (by simp) rfl | exact hd { on := 4, ground := .chain } (by simp) rfl | exact hd { on := 4, ground := .phase } (by simp) rfl)
            simp only [ApNMk, sld_yes q4]
            go_simp
            exact hK _ _ ⟨by simp only [ApNMk, sld_set hlt, sld_yes q4, reduceIte, Nat.reduceEqDiff]; try rfl, hW⟩
          · change some _ = some o at ho
            cases ho
            have q5 : up L 5 = true := (by first | exact hd { on := 5, ground := .data } (by simp) rfl | exact hd { on := 5, ground := .chain } (by simp) rfl | exact hd { on := 5, ground := .phase } (by simp) rfl)
            simp only [ApNMk, sld_yes q5]
            go_simp
            exact hK _ _ ⟨by simp only [ApNMk, sld_set hlt, sld_yes q5, reduceIte, Nat.reduceEqDiff]; try rfl, hW⟩
          · change some _ = some o at ho
            cases ho
            have q6 : up L 6 = true := (hd { on := 6, ground := .guard } (by simp) rfl)
            simp only [ApNMk, sld_yes q6]
            go_simp
            exact hK _ _ ⟨by simp only [ApNMk, sld_set hlt, sld_yes q6, reduceIte, Nat.reduceEqDiff]; try rfl, hW⟩
          · change some _ = some o at ho
            cases ho
            have q6 : up L 6 = true := (hd { on := 6, ground := .guard } (by simp) rfl)
            simp only [ApNMk, sld_yes q6]
            go_simp
            exact hK _ _ ⟨by simp only [ApNMk, sld_set hlt, sld_yes q6, reduceIte, Nat.reduceEqDiff]; try rfl, hW⟩
          · change some _ = some o at ho
            cases ho
            have q6 : up L 6 = true := (hd { on := 6, ground := .guard } (by simp) rfl)
            have q7 : up L 7 = true := (by first | exact hd { on := 7, ground := .data } (by simp) rfl | exact hd { on := 7, ground := .chain } (by simp) rfl | exact hd { on := 7, ground := .phase } (by simp) rfl)
            have q8 : up L 8 = true := (by first | exact hd { on := 8, ground := .data } (by simp) rfl | exact hd { on := 8, ground := .chain } (by simp) rfl | exact hd { on := 8, ground := .phase } (by simp) rfl)
            simp only [ApNMk, sld_yes q6, sld_yes q7, sld_yes q8]
            go_simp
            exact hK _ _ ⟨by simp only [ApNMk, sld_set hlt, sld_yes q6, sld_yes q7, sld_yes q8, reduceIte, Nat.reduceEqDiff]; try rfl, hW⟩
          · change some _ = some o at ho
            cases ho
            have q6 : up L 6 = true := (hd { on := 6, ground := .guard } (by simp) rfl)
            simp only [ApNMk, sld_yes q6]
            go_simp
            exact hK _ _ ⟨by simp only [ApNMk, sld_set hlt, sld_yes q6, reduceIte, Nat.reduceEqDiff]; try rfl, hW⟩
          · change some _ = some o at ho
            cases ho
            have q6 : up L 6 = true := (hd { on := 6, ground := .guard } (by simp) rfl)
            simp only [ApNMk, sld_yes q6]
            go_simp
            exact hK _ _ ⟨by simp only [ApNMk, sld_set hlt, sld_yes q6, reduceIte, Nat.reduceEqDiff]; try rfl, hW⟩
          · change some _ = some o at ho
            cases ho
            have q6 : up L 6 = true := (hd { on := 6, ground := .guard } (by simp) rfl)
            have q10 : up L 10 = true := (by first | exact hd { on := 10, ground := .data } (by simp) rfl | exact hd { on := 10, ground := .chain } (by simp) rfl | exact hd { on := 10, ground := .phase } (by simp) rfl)
            have q11 : up L 11 = true := (by first | exact hd { on := 11, ground := .data } (by simp) rfl | exact hd { on := 11, ground := .chain } (by simp) rfl | exact hd { on := 11, ground := .phase } (by simp) rfl)
            simp only [ApNMk, sld_yes q6, sld_yes q10, sld_yes q11]
            go_simp
            exact hK _ _ ⟨by simp only [ApNMk, sld_set hlt, sld_yes q6, sld_yes q10, sld_yes q11, reduceIte, Nat.reduceEqDiff]; try rfl, hW⟩
          · change some _ = some o at ho
            cases ho
            have q6 : up L 6 = true := (hd { on := 6, ground := .guard } (by simp) rfl)
            have q12 : up L 12 = true := (by first | exact hd { on := 12, ground := .data } (by simp) rfl | exact hd { on := 12, ground := .chain } (by simp) rfl | exact hd { on := 12, ground := .phase } (by simp) rfl)
            have kj := below_cell hW hc1
            simp only [ApNMk, sld_yes q6, sld_yes q12]
            go_simp
            exact hK _ _ ⟨by simp only [ApNMk, sld_set hlt, sld_yes q6, sld_yes q12, reduceIte, Nat.reduceEqDiff]; try rfl, hW⟩
          · change some _ = some o at ho
            cases ho
            have q6 : up L 6 = true := (hd { on := 6, ground := .guard } (by simp) rfl)
            have q9 : up L 9 = true := (by first | exact hd { on := 9, ground := .data } (by simp) rfl | exact hd { on := 9, ground := .chain } (by simp) rfl | exact hd { on := 9, ground := .phase } (by simp) rfl)
            have q13 : up L 13 = true := (by first | exact hd { on := 13, ground := .data } (by simp) rfl | exact hd { on := 13, ground := .chain } (by simp) rfl | exact hd { on := 13, ground := .phase } (by simp) rfl)
            simp only [ApNMk, sld_yes q6, sld_yes q9, sld_yes q13]
            go_simp
            exact hK _ _ ⟨by simp only [ApNMk, sld_set hlt, sld_yes q6, sld_yes q9, sld_yes q13, reduceIte, Nat.reduceEqDiff]; try rfl, hW⟩
          · change some _ = some o at ho
            cases ho
            have q6 : up L 6 = true := (by first | exact hd { on := 6, ground := .data } (by simp) rfl | exact hd { on := 6, ground := .chain } (by simp) rfl | exact hd { on := 6, ground := .phase } (by simp) rfl)
            have q14 : up L 14 = true := (by first | exact hd { on := 14, ground := .data } (by simp) rfl | exact hd { on := 14, ground := .chain } (by simp) rfl | exact hd { on := 14, ground := .phase } (by simp) rfl)
            simp only [ApNMk, sld_yes q6, sld_yes q14]
            go_simp
            exact hK _ _ ⟨by simp only [ApNMk, sld_set hlt, sld_yes q6, sld_yes q14, reduceIte, Nat.reduceEqDiff]; try rfl, hW⟩
        case done =>
          rintro L act u9 ⟨rfl, hW⟩ hall
          have B9 : Hid (Below w.heap.size w u9) := HB.out.trans (hW.mono HB.out.size)
          clear hW
          simp only [ApNMk, sld_yes (hall 0 (by decide)), sld_yes (hall 1 (by decide)), sld_yes (hall 2 (by decide)), sld_yes (hall 3 (by decide)), sld_yes (hall 4 (by decide)), sld_yes (hall 5 (by decide)), sld_yes (hall 6 (by decide)), sld_yes (hall 7 (by decide)), sld_yes (hall 8 (by decide)), sld_yes (hall 9 (by decide)), sld_yes (hall 10 (by decide)), sld_yes (hall 11 (by decide)), sld_yes (hall 12 (by decide)), sld_yes (hall 13 (by decide)), sld_yes (hall 14 (by decide)), sld_yes (hall 15 (by decide))]
          go_wp2_with fail
          go_ret
          refine ⟨ret_bool (Eq.symm (decide_eq_false fun hc => ?_)), B9.out⟩
          have h1 := (hc k (by rw [H.out.1.1]; exact hlt)).1
          rw [← HX.out, hnam] at h1
          cases h1
      · obtain ⟨q, hq⟩ : ∃ q : Bool, q = Pl.inS (ss.take k) x := ⟨_, rfl⟩
        have HQ : Hid (q = Pl.inS (ss.take k) x) := hq
        clear hq
        refine wp_region_any (by kernel_rfl) ?_
        change wpAny _ _ _ _ _ _ _ (World.drew _)
        obtain ⟨U, hU⟩ : ∃ U, U = wr.drew := ⟨_, rfl⟩
        have dU : Below wr.heap.size wr U := by rw [hU]; exact (Below.refl _ _).drew
        rw [← hU]
        refine wpAny_inw (fun L act w' => act = ApYMk b o1 len cap k x q u2 u8 u9 u10 u11 u12 u13 u14 u15 u16 u17 u18 u19 u20 u21 u22 u23 u24 u25 L ∧ Below wr.heap.size wr w') ?done (by kernel_rfl) ?step _ 16 _ _ (by kernel_rfl) ?init (by decide)
        case init => exact ⟨by simp only [ApYMk, sld_no (up_init _ _)], dU⟩
        case step =>
          intro L act w i o hI hlt hs nl hC hd ho K hK
          obtain ⟨rfl, hW⟩ := hI
          have hi_lt : i < 16 := (Array.getElem?_eq_some_iff.1 ho).1
          rcases (show i = 0 ∨ i = 1 ∨ i = 2 ∨ i = 3 ∨ i = 4 ∨ i = 5 ∨ i = 6 ∨ i = 7 ∨ i = 8 ∨ i = 9 ∨ i = 10 ∨ i = 11 ∨ i = 12 ∨ i = 13 ∨ i = 14 ∨ i = 15 by omega) with rfl | rfl | rfl | rfl | rfl | rfl | rfl | rfl | rfl | rfl | rfl | rfl | rfl | rfl | rfl | rfl
          · change some _ = some o at ho
            cases ho
            simp only [ApYMk]
            go_simp
            exact hK _ _ ⟨by simp only [ApYMk, sld_set hlt, reduceIte, Nat.reduceEqDiff]; try rfl, hW⟩
          · change some _ = some o at ho
            cases ho
            simp only [ApYMk]
            go_simp
            exact hK _ _ ⟨by simp only [ApYMk, sld_set hlt, reduceIte, Nat.reduceEqDiff]; try rfl, hW⟩
          · change some _ = some o at ho
            cases ho
            have q0 : up L 0 = true := (by first | exact hd { on := 0, ground := .data } (by simp) rfl | exact hd { on := 0, ground := .chain } (by simp) rfl | exact hd { on := 0, ground := .phase } (by simp) rfl)
            have q1 : up L 1 = true := (by first | exact hd { on := 1, ground := .data } (by simp) rfl | exact hd { on := 1, ground := .chain } (by simp) rfl | exact hd { on := 1, ground := .phase } (by simp) rfl)
            simp only [ApYMk, sld_yes q0, sld_yes q1]
            go_simp
            exact hK _ _ ⟨by simp only [ApYMk, sld_set hlt, sld_yes q0, sld_yes q1, reduceIte, Nat.reduceEqDiff]; try rfl, hW⟩
          · change some _ = some o at ho
            cases ho
            have q2 : up L 2 = true := (by first | exact hd { on := 2, ground := .data } (by simp) rfl | exact hd { on := 2, ground := .chain } (by simp) rfl | exact hd { on := 2, ground := .phase } (by simp) rfl)
            have kj := below_cell hW hc1
            simp only [ApYMk, sld_yes q2]
            go_simp
            exact hK _ _ ⟨by simp only [ApYMk, sld_set hlt, sld_yes q2, reduceIte, Nat.reduceEqDiff]; try rfl, hW⟩
          · change some _ = some o at ho
            cases ho
            have q3 : up L 3 = true := (by first | exact hd { on := 3, ground := .data } (by simp) rfl | exact hd { on := 3, ground := .chain } (by simp) rfl | exact hd { on := 3, ground := .phase } (by simp) rfl)
            simp only [ApYMk, sld_yes q3]
            go_simp
            refine (l6NameOk_any x w).mono ?_
            rintro e z ⟨rfl, dz⟩
            rw [hnam]
            go_simp
            exact hK _ _ ⟨by simp only [ApYMk, sld_set hlt, sld_yes q3, reduceIte, Nat.reduceEqDiff]; try rfl, hW.trans (dz.mono hW.size)⟩
          · change some _ = some o at ho
            cases ho
            have q4 : up L 4 = true := (by first | exact hd { on := 4, ground := .data } (by simp) rfl | exact hd { on := 4, ground := .chain } (by simp) rfl | exact hd { on := 4, ground := .phase } (by simp) rfl)
            simp only [ApYMk, sld_yes q4]
            go_simp
            exact hK _ _ ⟨by simp only [ApYMk, sld_set hlt, sld_yes q4, reduceIte, Nat.reduceEqDiff]; try rfl, hW⟩
          · change some _ = some o at ho
            cases ho
            have q5 : up L 5 = true := (by first | exact hd { on := 5, ground := .data } (by simp) rfl | exact hd { on := 5, ground := .chain } (by simp) rfl | exact hd { on := 5, ground := .phase } (by simp) rfl)
            simp only [ApYMk, sld_yes q5]
            go_simp
            exact hK _ _ ⟨by simp only [ApYMk, sld_set hlt, sld_yes q5, reduceIte, Nat.reduceEqDiff]; try rfl, hW⟩
          · change some _ = some o at ho
            cases ho
            have q6 : up L 6 = true := (hd { on := 6, ground := .guard } (by simp) rfl)
            simp only [ApYMk, sld_yes q6]
            go_simp
            exact hK _ _ ⟨by simp only [ApYMk, sld_set hlt, sld_yes q6, reduceIte, Nat.reduceEqDiff]; try rfl, hW⟩
          · change some _ = some o at ho
            cases ho
            have q6 : up L 6 = true := (hd { on := 6, ground := .guard } (by simp) rfl)
            simp only [ApYMk, sld_yes q6]
            go_simp
            exact hK _ _ ⟨by simp only [ApYMk, sld_set hlt, sld_yes q6, reduceIte, Nat.reduceEqDiff]; try rfl, hW⟩
          · change some _ = some o at ho
            cases ho
            have q6 : up L 6 = true := (hd { on := 6, ground := .guard } (by simp) rfl)
            have q7 : up L 7 = true := (by first | exact hd { on := 7, ground := .data } (by simp) rfl | exact hd { on := 7, ground := .chain } (by simp) rfl | exact hd { on := 7, ground := .phase } (by simp) rfl)
            have q8 : up L 8 = true := (by first | exact hd { on := 8, ground := .data } (by simp) rfl | exact hd { on := 8, ground := .chain } (by simp) rfl | exact hd { on := 8, ground := .phase } (by simp) rfl)
            simp only [ApYMk, sld_yes q6, sld_yes q7, sld_yes q8]
            go_simp
            exact hK _ _ ⟨by simp only [ApYMk, sld_set hlt, sld_yes q6, sld_yes q7, sld_yes q8, reduceIte, Nat.reduceEqDiff]; try rfl, hW⟩
          · change some _ = some o at ho
            cases ho
            have q6 : up L 6 = true := (hd { on := 6, ground := .guard } (by simp) rfl)
            simp only [ApYMk, sld_yes q6]
            go_simp
            exact hK _ _ ⟨by simp only [ApYMk, sld_set hlt, sld_yes q6, reduceIte, Nat.reduceEqDiff]; try rfl, hW⟩
          · change some _ = some o at ho
            cases ho
            have q6 : up L 6 = true := (hd { on := 6, ground := .guard } (by simp) rfl)
            simp only [ApYMk, sld_yes q6]
            go_simp
            exact hK _ _ ⟨by simp only [ApYMk, sld_set hlt, sld_yes q6, reduceIte, Nat.reduceEqDiff]; try rfl, hW⟩
          · change some _ = some o at ho
            cases ho
            have q6 : up L 6 = true := (hd { on := 6, ground := .guard } (by simp) rfl)
            have q10 : up L 10 = true := (by first | exact hd { on := 10, ground := .data } (by simp) rfl | exact hd { on := 10, ground := .chain } (by simp) rfl | exact hd { on := 10, ground := .phase } (by simp) rfl)
            have q11 : up L 11 = true := (by first | exact hd { on := 11, ground := .data } (by simp) rfl | exact hd { on := 11, ground := .chain } (by simp) rfl | exact hd { on := 11, ground := .phase } (by simp) rfl)
            simp only [ApYMk, sld_yes q6, sld_yes q10, sld_yes q11]
            go_simp
            exact hK _ _ ⟨by simp only [ApYMk, sld_set hlt, sld_yes q6, sld_yes q10, sld_yes q11, reduceIte, Nat.reduceEqDiff]; try rfl, hW⟩
          · change some _ = some o at ho
            cases ho
            have q6 : up L 6 = true := (hd { on := 6, ground := .guard } (by simp) rfl)
            have q12 : up L 12 = true := (by first | exact hd { on := 12, ground := .data } (by simp) rfl | exact hd { on := 12, ground := .chain } (by simp) rfl | exact hd { on := 12, ground := .phase } (by simp) rfl)
            have kj := below_cell hW hc1
            simp only [ApYMk, sld_yes q6, sld_yes q12]
            go_simp
            exact hK _ _ ⟨by simp only [ApYMk, sld_set hlt, sld_yes q6, sld_yes q12, reduceIte, Nat.reduceEqDiff]; try rfl, hW⟩
          · change some _ = some o at ho
            cases ho
            have q6 : up L 6 = true := (hd { on := 6, ground := .guard } (by simp) rfl)
            have q9 : up L 9 = true := (by first | exact hd { on := 9, ground := .data } (by simp) rfl | exact hd { on := 9, ground := .chain } (by simp) rfl | exact hd { on := 9, ground := .phase } (by simp) rfl)
            have q13 : up L 13 = true := (by first | exact hd { on := 13, ground := .data } (by simp) rfl | exact hd { on := 13, ground := .chain } (by simp) rfl | exact hd { on := 13, ground := .phase } (by simp) rfl)
            simp only [ApYMk, sld_yes q6, sld_yes q9, sld_yes q13]
            go_simp
            refine (l5In_any _ _ _ (ss.take k) x w (HT.out w hW)).mono ?_
            rintro e z ⟨rfl, dz⟩
            rw [← HQ.out]
            go_simp
            exact hK _ _ ⟨by simp only [ApYMk, sld_set hlt, sld_yes q6, sld_yes q9, sld_yes q13, reduceIte, Nat.reduceEqDiff]; try rfl, hW.trans (dz.mono hW.size)⟩
          · change some _ = some o at ho
            cases ho
            have q6 : up L 6 = true := (by first | exact hd { on := 6, ground := .data } (by simp) rfl | exact hd { on := 6, ground := .chain } (by simp) rfl | exact hd { on := 6, ground := .phase } (by simp) rfl)
            have q14 : up L 14 = true := (by first | exact hd { on := 14, ground := .data } (by simp) rfl | exact hd { on := 14, ground := .chain } (by simp) rfl | exact hd { on := 14, ground := .phase } (by simp) rfl)
            simp only [ApYMk, sld_yes q6, sld_yes q14]
            go_simp
            exact hK _ _ ⟨by simp only [ApYMk, sld_set hlt, sld_yes q6, sld_yes q14, reduceIte, Nat.reduceEqDiff]; try rfl, hW⟩
        case done =>
          rintro L act u9 ⟨rfl, hW⟩ hall
          have B9 : Hid (Below w.heap.size w u9) := HB.out.trans (hW.mono HB.out.size)
          clear hW
          simp only [ApYMk, sld_yes (hall 0 (by decide)), sld_yes (hall 1 (by decide)), sld_yes (hall 2 (by decide)), sld_yes (hall 3 (by decide)), sld_yes (hall 4 (by decide)), sld_yes (hall 5 (by decide)), sld_yes (hall 6 (by decide)), sld_yes (hall 7 (by decide)), sld_yes (hall 8 (by decide)), sld_yes (hall 9 (by decide)), sld_yes (hall 10 (by decide)), sld_yes (hall 11 (by decide)), sld_yes (hall 12 (by decide)), sld_yes (hall 13 (by decide)), sld_yes (hall 14 (by decide)), sld_yes (hall 15 (by decide))]
          cases q
          · go_wp2_with fail
            go_roundw
            case rel => exact ⟨k + 1, by omega, by go_num, fun j hj => by
              by_cases e : j = k
              · rw [e, ← HX.out]; exact ⟨hnam, HQ.out.symm⟩
              · exact HA.out j (by omega), B9.out⟩
            case measure => simp [intOf]; omega
          · go_wp2_with fail
            go_ret
            refine ⟨ret_bool (Eq.symm (decide_eq_false fun hc => ?_)), B9.out⟩
            have h1 := (hc k (by rw [H.out.1.1]; exact hlt)).2
            rw [← HX.out, ← HQ.out] at h1
            cases h1
    · have hke : k = len := by omega
      have hi : ¬ ((k : Int) < (len : Int)) := by omega
      go_wp2
      go_ret
      exact ⟨ret_bool (Eq.symm (decide_eq_true fun j hj => HA.out j (by rw [H.out.1.1] at hj; omega))), HB.out⟩
end Go.Proofs.YtafcnijfoejboaaGreatDoor.W
namespace Go.Proofs.YtafcnijfoejboaaGreatDoor.Pl
def fitR (xs : List Ty) (i : Nat) (x : Ty) (r : TRule) : Bool :=
  within x.n r.lowN r.highN && within (x.of.length : Int) r.least r.most && decide (∀ p, p < x.of.length → fitPart xs i p = true) && (if r.names = true then decide (x.names.length = x.of.length) && apart x.names else decide (x.names.length = 0))
def fit (xs : List Ty) (i : Nat) : Bool := match tRule (xs.getD i Ty.zero).k with
  | none => false
  | some r => fitR xs i (xs.getD i Ty.zero) r
end Go.Proofs.YtafcnijfoejboaaGreatDoor.Pl
namespace Go.Proofs.YtafcnijfoejboaaGreatDoor.W
open Go.RowKit
def Errs (w : World) : Prop := (∃ ev, w.cell? ⟨0, 0, none⟩ = some ev ∧ (ev = .nilIface ∨ ∃ te pe, ev = .iface te pe)) ∧ (∃ ev, w.cell? ⟨1, 0, none⟩ = some ev ∧ (ev = .nilIface ∨ ∃ te pe, ev = .iface te pe))
theorem Errs.keep {w w' : World} (h : Errs w) (hb : Below w.heap.size w w') : Errs w' := by
  obtain ⟨⟨e1, h1, q1⟩, ⟨e2, h2, q2⟩⟩ := h
  exact ⟨⟨e1, (hb.cell (block_lt_of_cell h1)).trans h1, q1⟩, ⟨e2, (hb.cell (block_lt_of_cell h2)).trans h2, q2⟩⟩
def NamesSaid (P : Program) : Prop := ∀ (lo : Nat) (a : Option Addr) (len cap : Nat) (ss : List ByteArray) (w : World), SRow lo w a len cap ss → Errs w → (∀ j, j < ss.length → (ss.getD j ⟨#[]⟩).size ≤ 1048576) → Calls P 50 #[.slice a len cap] w fun e w' => e = .returned (.bool (Pl.apart ss)) ∧ Below w.heap.size w w'
set_option maxRecDepth 8000 in
set_option maxHeartbeats 8000000 in
theorem isFit_of (HNS : Hid (NamesSaid Tryz.prog)) {lo : Nat} (a : Option Addr) (len cap : Nat) (xs : List Pl.Ty) (i : Nat) (hi : i < len) (w : World) (h : TRow lo w a len cap xs) (hE : Errs w) (hsm : ∀ j, j < (xs.getD i Pl.Ty.zero).names.length → ((xs.getD i Pl.Ty.zero).names.getD j ⟨#[]⟩).size ≤ 1048576) :
    Calls Tryz.prog 28 #[.slice a len cap, .int .i64 i] w fun e w' => e = .returned (.bool (Pl.fit xs i)) ∧ Below w.heap.size w w' := by
  have hm : (len : Int) ≤ 9223372036854775807 := by have := h.small; omega
  have HR : Hid (TRow lo w a len cap xs) := h
  have HE : Hid (Errs w) := hE
  obtain ⟨b, off, v, s, rfl, hlo, hb1, hc, hrow, hs⟩ := h.at hi
  obtain ⟨x, hx⟩ : ∃ x, x = xs.getD i Pl.Ty.zero := ⟨_, rfl⟩
  rw [← hx] at hc hrow hs hsm
  obtain ⟨kk, nn, zs, nms⟩ := x
  have hvl : (v.len : Int) ≤ 9223372036854775807 := by have := hrow.small; omega
  have hsl : (s.len : Int) ≤ 9223372036854775807 := by have := hs.small; omega
  obtain ⟨c0, c1, c2, c3⟩ := ty_cells hc
  change w.cell? _ = some (.int .i64 kk) at c0
  change w.cell? _ = some (.int .i64 nn) at c1
  have HX : Hid (Pl.Ty.mk kk nn zs nms = xs.getD i Pl.Ty.zero) := hx
  have HS : Hid (SRow lo w s.a s.len s.cap nms) := hs
  have HOL : Hid (zs.length = v.len) := hrow.1
  have HSL : Hid (nms.length = s.len) := hs.1.1
  have hii : (i : Int) < (len : Int) := by omega
  have HSM : Hid (∀ j, j < nms.length → (nms.getD j ⟨#[]⟩).size ≤ 1048576) := hsm
  clear hx hs hrow hc h hE hsm
  go_enter Tryz.func28, Tryz.ntmps28
  go_wp2_with fail
  refine ty_at fun U1 hU1 => ?_
  have z1 : U1.heap.size = w.heap.size + 1 := by rw [hU1]; simp
  have q0 : U1.heap[w.heap.size]? = some (.cells #[.int .i64 kk, .int .i64 nn, .slice v.a v.len v.cap, .slice s.a s.len s.cap] 31) := by
    rw [hU1]; exact heap_alloc_new w _
  have b1 : Below w.heap.size w U1 := by rw [hU1]; exact below_alloc _ _
  clear hU1
  refine (ruleOfKind_any kk U1).mono ?_
  rintro e u1 ⟨rfl, d1⟩
  have Q0 := (d1.block w.heap.size (by omega)).trans q0
  have B1 : Hid (Below w.heap.size w u1) := b1.trans (d1.mono (by omega))
  have k0 : ∀ j, u1.cell? ⟨w.heap.size, j, none⟩ = (#[.int .i64 kk, .int .i64 nn, .slice v.a v.len v.cap, .slice s.a s.len s.cap] : Array Value)[j]? := fun j => cell_of_row u1 w.heap.size j _ 31 (0, 0) Q0
  have hzz : w.heap.size < u1.heap.size := by have := d1.size; omega
  have HQ0 : Hid (u1.heap[w.heap.size]? = some (.cells #[.int .i64 kk, .int .i64 nn, .slice v.a v.len v.cap, .slice s.a s.len s.cap] 31)) := Q0
  have e1 : u1.cell? ⟨w.heap.size, 1, none⟩ = some (.int .i64 nn) := k0 1
  have e2 : u1.cell? ⟨w.heap.size, 2, none⟩ = some (.slice v.a v.len v.cap) := k0 2
  have e3 : u1.cell? ⟨w.heap.size, 3, none⟩ = some (.slice s.a s.len s.cap) := k0 3
  clear q0 z1 b1 d1 Q0 c0 c1 c2 c3 k0
  cases hr : Pl.tRule kk with
  | none =>
    have HK : Hid (Pl.fit xs i = false) := by
      show Pl.fit xs i = false
      unfold Pl.fit; rw [← HX.out]; simp only [hr]
    simp only [Option.getD_none, Option.isSome_none, Pl.TRule.cells]
    go_wp2_with fail
    go_ret
    exact ⟨ret_bool HK.out.symm, B1.out.trans ((below_alloc _ _).mono B1.out.size)⟩
  | some r =>
    obtain ⟨lN, hN, le, mo, nm⟩ := r
    have HK : Hid (Pl.fit xs i = (Pl.within nn lN hN && Pl.within (v.len : Int) le mo && decide (∀ p, p < v.len → Pl.fitPart xs i p = true) && (if nm = true then decide (s.len = v.len) && Pl.apart nms else decide (s.len = 0)))) := by
      show Pl.fit xs i = _
      unfold Pl.fit; rw [← HX.out]; simp only [hr, Pl.fitR, HOL.out, HSL.out]
    simp only [Option.getD_some, Option.isSome_some, Pl.TRule.cells]
    clear hr
    cases hw1 : Pl.within nn lN hN
    · go_wp2_with (go_at_call 48; refine (isWithin_any _ _ _ _).mono ?_; rintro e u2 ⟨rfl, rfl⟩; first | rw [hw1] | rw [hw2])
      go_ret
      exact ⟨ret_bool (by rw [HK.out, hw1]; rfl), B1.out.trans ((below_alloc _ _).mono B1.out.size)⟩
    cases hw2 : Pl.within (v.len : Int) le mo
    · go_wp2_with (go_at_call 48; refine (isWithin_any _ _ _ _).mono ?_; rintro e u2 ⟨rfl, rfl⟩; first | rw [hw1] | rw [hw2])
      go_ret
      exact ⟨ret_bool (by rw [HK.out, hw1, hw2]; rfl), B1.out.trans ((below_alloc _ _).mono B1.out.size)⟩
    go_wp2_with (go_at_call 48; refine (isWithin_any _ _ _ _).mono ?_; rintro e u2 ⟨rfl, rfl⟩; first | rw [hw1] | rw [hw2])
    obtain ⟨U2, hU2⟩ : ∃ U2, U2 = u1.alloc (.cells #[.int .i64 lN, .int .i64 hN, .int .i64 le, .int .i64 mo, .bool nm] 84) := ⟨_, rfl⟩
    rw [← hU2]
    have r4 : U2.cell? ⟨u1.heap.size, 4, none⟩ = some (.bool nm) := by
      rw [hU2]; exact cell_of_row _ _ 4 _ 84 (0, 0) (heap_alloc_new u1 _)
    have d2 : Below u1.heap.size u1 U2 := by rw [hU2]; exact below_alloc _ _
    have g2 : U2.cell? ⟨w.heap.size, 2, none⟩ = some (.slice v.a v.len v.cap) := (d2.cell (p := ⟨w.heap.size, 2, none⟩) hzz).trans e2
    have g3 : U2.cell? ⟨w.heap.size, 3, none⟩ = some (.slice s.a s.len s.cap) := (d2.cell (p := ⟨w.heap.size, 3, none⟩) hzz).trans e3
    have B2 : Hid (Below w.heap.size w U2) := B1.out.trans (d2.mono B1.out.size)
    have Z2 : Hid (u1.heap.size < U2.heap.size) := by rw [hU2]; show _ < _; simp
    clear hU2 d2 e1 e2 e3 HQ0 B1
    have HK2 : Hid (Pl.fit xs i = (decide (∀ p, p < v.len → Pl.fitPart xs i p = true) && (if nm = true then decide (s.len = v.len) && Pl.apart nms else decide (s.len = 0)))) := by
      show Pl.fit xs i = _
      rw [HK.out, hw1, hw2]; rfl
    clear HK hw1 hw2
    go_loopw [45] (fun j wr => ∃ p : Nat, p ≤ v.len ∧ j = .int .i64 p ∧ (∀ q, q < p → Pl.fitPart xs i q = true) ∧ Below U2.heap.size U2 wr) (fun j _ => v.len - (intOf j).toNat)
    case atStart => exact ⟨0, Nat.zero_le _, rfl, fun q hq => absurd hq (Nat.not_lt_zero _), Below.refl _ _⟩
    case round =>
      obtain ⟨p, hp, rfl, hall, hb⟩ := hrel
      have HP : Hid (∀ q, q < p → Pl.fitPart xs i q = true) := hall
      have HB : Hid (Below U2.heap.size U2 wr) := hb
      have HB' : Hid (Below w.heap.size w wr) := B2.out.trans (hb.mono B2.out.size)
      clear hall hb
      by_cases hlt : p < v.len
      · have hj : (p : Int) < (v.len : Int) := by omega
        cases hf : Pl.fitPart xs i p
        · go_wp2_with (go_at_call 49; refine (isFitPart_any _ _ _ xs i p hi (by rw [← HX.out]; show p < zs.length; rw [HOL.out]; exact hlt) _ (HR.out.keep HB'.out)).mono ?_; rintro e u2 ⟨rfl, g1⟩; rw [hf]; have G1 : Hid _ := g1; clear g1)
          go_ret
          refine ⟨ret_bool ?_, HB'.out.trans (G1.out.mono HB'.out.size)⟩
          rw [HK2.out, decide_eq_false (fun hc => by have := hc p hlt; rw [hf] at this; cases this)]
          rfl
        · go_wp2_with (go_at_call 49; refine (isFitPart_any _ _ _ xs i p hi (by rw [← HX.out]; show p < zs.length; rw [HOL.out]; exact hlt) _ (HR.out.keep HB'.out)).mono ?_; rintro e u2 ⟨rfl, g1⟩; rw [hf]; have G1 : Hid _ := g1; clear g1)
          go_roundw
          case rel => exact ⟨p + 1, by omega, by go_num, fun q hq => by
            by_cases e : q = p
            · rw [e]; exact hf
            · exact HP.out q (by omega), HB.out.trans (G1.out.mono HB.out.size)⟩
          case measure => simp [intOf]; omega
      · have hpe : p = v.len := by omega
        have hj : ¬ ((p : Int) < (v.len : Int)) := by omega
        have R4 : wr.cell? ⟨u1.heap.size, 4, none⟩ = some (.bool nm) := (HB.out.cell (p := ⟨u1.heap.size, 4, none⟩) Z2.out).trans r4
        have G2 : wr.cell? ⟨w.heap.size, 2, none⟩ = some (.slice v.a v.len v.cap) := (HB.out.cell (p := ⟨w.heap.size, 2, none⟩) (Nat.lt_trans hzz Z2.out)).trans g2
        have G3 : wr.cell? ⟨w.heap.size, 3, none⟩ = some (.slice s.a s.len s.cap) := (HB.out.cell (p := ⟨w.heap.size, 3, none⟩) (Nat.lt_trans hzz Z2.out)).trans g3
        have HK3 : Hid (Pl.fit xs i = (if nm = true then decide (s.len = v.len) && Pl.apart nms else decide (s.len = 0))) := by
          show Pl.fit xs i = _
          rw [HK2.out, decide_eq_true (fun q hq => HP.out q (by omega)), Bool.true_and]
        clear HK2 r4 g2 g3 HP
        cases nm
        · go_wp2_with fail
          all_goals (go_ret; refine ⟨ret_bool ?_, HB'.out⟩; rw [HK3.out, Bool.eq_iff_iff]; simp <;> omega)
        · by_cases hsv : (s.len : Int) = (v.len : Int)
          · go_wp2_with (go_at_call 50; refine (HNS.out lo s.a s.len s.cap nms _ (HS.out.keep HB'.out) (HE.out.keep HB'.out) HSM.out).mono ?_; rintro e u2 ⟨rfl, g1⟩; have G1 : Hid _ := g1; clear g1)
            go_ret
            refine ⟨ret_bool ?_, HB'.out.trans (G1.out.mono HB'.out.size)⟩
            rw [HK3.out, Bool.eq_iff_iff]; simp <;> omega
          · go_wp2_with fail
            all_goals (go_ret; refine ⟨ret_bool ?_, HB'.out⟩; rw [HK3.out, Bool.eq_iff_iff]; simp <;> omega)
end Go.Proofs.YtafcnijfoejboaaGreatDoor.W
namespace Go.Proofs.YtafcnijfoejboaaGreatDoor.W
open Go.RowKit
set_option maxRecDepth 8000 in
set_option maxHeartbeats 4000000 in
theorem isKey_any (s : ByteArray) (w : World) : Calls Tryz.prog 85 #[.string s] w fun e w' => e = .returned (.bool (Pl.inS Pl.kws s)) ∧ w' = w := by
  have HE : Hid (Pl.inS Pl.kws s = (Pl.kwB.any fun r => s.toList == r)) := by
    show Pl.inS Pl.kws s = _
    unfold Pl.inS Pl.kws
    rw [List.any_map]
    congr 1
    funext r
    simp only [Function.comp, ByteArray.toList_eq]
    exact Bool.beq_comm
  go_enter Tryz.func85, Tryz.ntmps85
  go_wp2
  all_goals (go_ret; refine ⟨ret_bool ?_, rfl⟩; rw [HE.out]; simp only [Pl.kwB, List.any_cons, List.any_nil]; simp_all)
end Go.Proofs.YtafcnijfoejboaaGreatDoor.W
namespace Go.Proofs.YtafcnijfoejboaaGreatDoor.W
open Go.RowKit
theorem isDigitR_any (c : Int) (w : World) : Calls Tryz.prog 87 #[.int .i32 c] w fun e w' => e = .returned (.bool (Pl.dg c)) ∧ w' = w := by
  go_enter Tryz.func87, Tryz.ntmps87
  go_wp2
  all_goals (go_ret; refine ⟨ret_bool ?_, rfl⟩; rw [Bool.eq_iff_iff]; simp [Pl.dg] <;> omega)
set_option maxHeartbeats 1000000 in
theorem inWordR_any (c : Int) (w : World) : Calls Tryz.prog 82 #[.int .i32 c] w fun e w' => e = .returned (.bool (Pl.wch c)) ∧ w' = w := by
  cases hd : Pl.dg c
  · have hn : ¬ (48 ≤ c ∧ c ≤ 57) := by simpa [Pl.dg] using hd
    go_enter Tryz.func82, Tryz.ntmps82
    go_wp2_with (go_at_call 87; refine (isDigitR_any _ _).mono ?_; rintro e u1 ⟨rfl, rfl⟩; rw [hd])
    all_goals (go_ret; refine ⟨ret_bool ?_, rfl⟩; rw [Bool.eq_iff_iff]; simp [Pl.dg, Pl.lt, Pl.wch] <;> omega)
  · have hn : 48 ≤ c ∧ c ≤ 57 := by simpa [Pl.dg] using hd
    go_enter Tryz.func82, Tryz.ntmps82
    go_wp2_with (go_at_call 87; refine (isDigitR_any _ _).mono ?_; rintro e u1 ⟨rfl, rfl⟩; rw [hd])
    all_goals (go_ret; refine ⟨ret_bool ?_, rfl⟩; rw [Bool.eq_iff_iff]; simp [Pl.dg, Pl.lt, Pl.wch] <;> omega)
end Go.Proofs.YtafcnijfoejboaaGreatDoor.W
namespace Go.Proofs.YtafcnijfoejboaaGreatDoor.W
open Go.RowKit
set_option maxHeartbeats 2000000 in
theorem readWord_nd (s : ByteArray) (hpos : 0 < s.size) (hd : Pl.dg (Pl.byt s 0) = false) (w : World) : Calls Tryz.prog 77 #[.string s] w fun e w' => ∃ (kd code : Int) (t : ByteArray), e = .returned (.tuple #[.agg #[.int .i64 kd, .string t, .int .i64 0, .int .i64 0, .int .i64 0], .int .i64 code]) ∧ ((code = 0 ∧ kd = 1) ↔ (s.size ≤ 40 ∧ Pl.inS Pl.kws s = false)) ∧ Below w.heap.size w w' := by
  by_cases hb : (40 : Int) < (s.size : Int)
  · go_enter Tryz.func77, Tryz.ntmps77
    go_wp2_with (go_at_call 83; refine (isDigit_any _ _).mono ?_; rintro e u1 ⟨rfl, rfl⟩; rw [Pl.byt_get s 0 hpos, hd])
    exact bodyPost_ret (v := .tuple #[.agg #[.int .i64 0, .string ⟨#[]⟩, .int .i64 0, .int .i64 0, .int .i64 0], .int .i64 8]) (by simp [results, Tryz.results77, go_sem]) rfl ⟨0, 8, ⟨#[]⟩, rfl, by omega, below_alloc _ _⟩
  · cases hk : Pl.inS Pl.kws s
    · go_enter Tryz.func77, Tryz.ntmps77
      go_wp2_with (first | (go_at_call 83; refine (isDigit_any _ _).mono ?_; rintro e u1 ⟨rfl, rfl⟩; rw [Pl.byt_get s 0 hpos, hd]) | (go_at_call 85; refine (isKey_any s _).mono ?_; rintro e u1 ⟨rfl, rfl⟩; rw [hk]))
      exact bodyPost_ret (v := .tuple #[.agg #[.int .i64 1, .string s, .int .i64 0, .int .i64 0, .int .i64 0], .int .i64 0]) (by simp [results, Tryz.results77, go_sem]) rfl ⟨1, 0, s, rfl, ⟨fun _ => ⟨by omega, by first | rfl | trivial⟩, fun _ => ⟨rfl, rfl⟩⟩, below_alloc _ _⟩
    · go_enter Tryz.func77, Tryz.ntmps77
      go_wp2_with (first | (go_at_call 83; refine (isDigit_any _ _).mono ?_; rintro e u1 ⟨rfl, rfl⟩; rw [Pl.byt_get s 0 hpos, hd]) | (go_at_call 85; refine (isKey_any s _).mono ?_; rintro e u1 ⟨rfl, rfl⟩; rw [hk]))
      exact bodyPost_ret (v := .tuple #[.agg #[.int .i64 2, .string s, .int .i64 0, .int .i64 0, .int .i64 0], .int .i64 0]) (by simp [results, Tryz.results77, go_sem]) rfl ⟨2, 0, s, rfl, ⟨fun h => absurd h.2 (by decide), fun h => by simp at h⟩, below_alloc _ _⟩
end Go.Proofs.YtafcnijfoejboaaGreatDoor.W
namespace Go.Proofs.YtafcnijfoejboaaGreatDoor.Pl
theorem wch_high (c : Int) (h : 128 ≤ c) : wch c = false := by
  rw [Bool.eq_false_iff]
  simp [wch, lt, dg]
  omega
theorem wch_decode (s : ByteArray) (pos : Nat) (h : pos < s.size) : wch ((Utf8.decode s pos).1 : Nat) = wch (byt s pos) := by
  by_cases ha : (s[pos]'h).toNat < 128
  · rw [decode_ascii s pos h ha, ← byt_get s pos h]
  · rw [wch_high _ (by have := (decode_high s pos h (by omega)).1; omega), wch_high _ (by rw [← byt_get s pos h]; omega)]
theorem step_decode (s : ByteArray) (pos : Nat) (h : pos < s.size) (hw : wch (byt s pos) = true) : (Utf8.decode s pos).2 = 1 := by
  by_cases ha : (s[pos]'h).toNat < 128
  · rw [decode_ascii s pos h ha]
  · rw [wch_high _ (by rw [← byt_get s pos h]; omega)] at hw
    cases hw
end Go.Proofs.YtafcnijfoejboaaGreatDoor.Pl
namespace Go.Proofs.YtafcnijfoejboaaGreatDoor.W
open Go.RowKit
theorem below_iter (w : World) (s : ByteArray) (pos : Nat) : Below w.heap.size w (w.iter s pos) := below_alloc w _
set_option maxRecDepth 100000 in
set_option maxHeartbeats 2000000 in
theorem wordOf_any (s : ByteArray) (hs : s.size ≤ 9223372036854775807) (w : World) : Calls Tryz.prog 76 #[.string s] w fun e w' => ∃ n, n ≤ s.size ∧ (∀ j, j < n → Pl.wch (Pl.byt s j) = true) ∧ (n = s.size ∨ Pl.wch (Pl.byt s n) = false) ∧ e = .returned (.string (s.extract 0 n)) ∧ Below w.heap.size w w' := by
  go_enter Tryz.func76, Tryz.ntmps76
  go_wp2
  go_loopw [3] (fun _ w' => ∃ pos : Nat, pos ≤ s.size ∧ w' = w.iter s pos ∧ (∀ j, j < pos → Pl.wch (Pl.byt s j) = true)) (fun _ w' => s.size - w'.iterPos w.heap.size)
  case atStart => exact ⟨0, Nat.zero_le _, rfl, fun j hj => absurd hj (Nat.not_lt_zero _)⟩
  case round =>
    obtain ⟨pos, hps, rfl, hall⟩ := hrel
    have HA : Hid (∀ j, j < pos → Pl.wch (Pl.byt s j) = true) := hall
    clear hall
    by_cases hp : pos < s.size
    · have hnx : ∀ ty, (Instr.next (.pointer (some ⟨w.heap.size, 0, none⟩)) true ty).run Tryz.prog (w.iter s pos) = _ := fun ty => run_next_any w s pos ty hp
      have hpi : (pos : Int) ≤ (s.size : Int) := by omega
      cases hc : Pl.wch (Pl.byt s pos)
      · go_wp2_with (go_at_call 82; refine (inWordR_any _ _).mono ?_; rintro e u1 ⟨rfl, rfl⟩; rw [Pl.wch_decode s pos hp, hc])
        go_ret
        exact ⟨pos, hps, HA.out, .inr hc, rfl, below_iter _ _ _⟩
      · have hd2 := Pl.step_decode s pos hp hc
        have HD : Hid ((Utf8.decode s pos).2 = 1) := hd2
        clear hd2
        go_wp2_with (go_at_call 82; refine (inWordR_any _ _).mono ?_; rintro e u1 ⟨rfl, rfl⟩; rw [Pl.wch_decode s pos hp, hc])
        go_roundw
        case rel => exact ⟨pos + 1, by omega, by rw [HD.out], fun j hj => by
          by_cases e : j = pos
          · rw [e]; exact hc
          · exact HA.out j (by omega)⟩
        case measure => rw [HD.out]; simp; omega
    · have hnx : ∀ ty, (Instr.next (.pointer (some ⟨w.heap.size, 0, none⟩)) true ty).run Tryz.prog (w.iter s pos) = _ := fun ty => run_next_end w s pos ty hp
      go_wp2
      go_ret
      have hpe : pos = s.size := by omega
      exact ⟨pos, hps, HA.out, .inl hpe, by rw [hpe]; simp, below_iter _ _ _⟩
end Go.Proofs.YtafcnijfoejboaaGreatDoor.W
namespace Go.Proofs.YtafcnijfoejboaaGreatDoor.W
open Go.RowKit
theorem width_pos (s : ByteArray) (pos : Nat) (h : pos < s.size) : 1 ≤ (Utf8.decode s pos).2 := by
  by_cases ha : (s[pos]'h).toNat < 128
  · rw [decode_ascii s pos h ha]
    exact Nat.le_refl _
  · exact (decode_high s pos h (by omega)).2
set_option maxHeartbeats 1000000 in
theorem digitOf_any (c : Int) (w : World) : Calls Tryz.prog 103 #[.int .i32 c] w fun e w' => (∃ d : Int, e = .returned (.int .i64 d)) ∧ w' = w := by
  cases hd : Pl.dg c
  all_goals
    go_enter Tryz.func103, Tryz.ntmps103
    go_wp2_with (go_at_call 87; refine (isDigitR_any _ _).mono ?_; rintro e u1 ⟨rfl, rfl⟩; rw [hd])
    all_goals (go_ret; exact ⟨⟨_, rfl⟩, rfl⟩)
set_option maxRecDepth 100000 in
set_option maxHeartbeats 2000000 in
theorem digitCount_any (s : ByteArray) (b : Int) (w : World) : Calls Tryz.prog 97 #[.string s, .int .i64 b] w fun e w' => (∃ d : Int, e = .returned (.int .i64 d)) ∧ Below w.heap.size w w' := by
  go_enter Tryz.func97, Tryz.ntmps97
  go_wp2
  go_loopw [5] (fun _ w' => ∃ pos : Nat, w' = w.iter s pos) (fun _ w' => s.size - w'.iterPos w.heap.size)
  case atStart => exact ⟨0, rfl⟩
  case round =>
    obtain ⟨pos, rfl⟩ := hrel
    by_cases hp : pos < s.size
    · have hnx : ∀ ty, (Instr.next (.pointer (some ⟨w.heap.size, 0, none⟩)) true ty).run Tryz.prog (w.iter s pos) = _ := fun ty => run_next_any w s pos ty hp
      have HW : Hid (1 ≤ (Utf8.decode s pos).2) := width_pos s pos hp
      go_wp2_with (go_at_call 103; refine (digitOf_any _ _).mono ?_; rintro e u1 ⟨⟨d, rfl⟩, rfl⟩)
      · go_ret
        exact ⟨⟨_, rfl⟩, below_iter _ _ _⟩
      · go_roundw
        case rel => exact ⟨_, rfl⟩
        case measure =>
          have := HW.out
          simp
          omega
    · have hnx : ∀ ty, (Instr.next (.pointer (some ⟨w.heap.size, 0, none⟩)) true ty).run Tryz.prog (w.iter s pos) = _ := fun ty => run_next_end w s pos ty hp
      go_wp2
      go_ret
      exact ⟨⟨_, rfl⟩, below_iter _ _ _⟩
theorem inBase_any (s : ByteArray) (b : Int) (w : World) : Calls Tryz.prog 90 #[.string s, .int .i64 b] w fun e w' => (∃ d : Bool, e = .returned (.bool d)) ∧ Below w.heap.size w w' := by
  go_enter Tryz.func90, Tryz.ntmps90
  go_wp2_with (go_at_call 97; refine (digitCount_any s b _).mono ?_; rintro e u1 ⟨⟨d, rfl⟩, g1⟩)
  go_ret
  exact ⟨⟨_, rfl⟩, g1⟩
end Go.Proofs.YtafcnijfoejboaaGreatDoor.W
namespace Go.Proofs.YtafcnijfoejboaaGreatDoor.W
open Go.RowKit
theorem lower_all : ∃ low : Int → Int, ∀ c, (0 ≤ low c ∧ low c < 256) ∧ ∀ w, Calls Tryz.prog 104 #[.int .u8 c] w fun e w' => e = .returned (.int .u8 (low c)) ∧ w' = w := by
  refine ⟨fun c => bits .or .u8 c 32, fun c => ⟨⟨bits_lo_u8 _ _ _, Int.lt_of_le_of_lt (bits_hi_u8 .or c 32) (by decide)⟩, fun w => ?_⟩⟩
  go_enter Tryz.func104, Tryz.ntmps104
  go_wp2
  go_ret
  exact ⟨rfl, rfl⟩
theorem bytesWorld_below (w : World) (e : TypeId) (s : ByteArray) : Below w.heap.size w (Lib.bytesWorld w e s) :=
  Lib.bytesWorld_below w e s
def PErr (v : Value) : Prop := v = .nilIface ∨ v = .iface 146 (.int .i64 1) ∨ v = .iface 146 (.int .i64 2)
set_option maxHeartbeats 32000000 in
set_option maxRecDepth 100000 in
theorem iParse_any (b : Int) (hb : b = 8 ∨ b = 10 ∨ b = 16) (t : ByteArray) (hmax : t.size ≤ 9223372036854775806) (w : World) :
    Calls Tryz.prog 98 #[.string t, .int .i64 b, .int .i64 32] w fun e w' => (∃ (n : Int) (v : Value), e = .returned (.tuple #[.int .u64 n, v]) ∧ PErr v) ∧ Below w.heap.size w w' := by
  by_cases hne : t.size = 0
  · have ht : t = ⟨#[]⟩ := by
      cases t with | mk d => congr; exact Array.eq_empty_of_size_eq_zero hne
    subst ht
    rcases hb with rfl | rfl | rfl
    all_goals
      go_enter Tryz.func98, Tryz.ntmps98
      go_wp2
      go_ret2
      exact ⟨⟨_, _, rfl, .inr (.inr rfl)⟩, Below.refl _ _⟩
  have hemp : t.toList.isEmpty = false := by
    rw [← decide_eq_emptyBytes]
    exact decide_eq_false (fun h => hne (by rw [h]; rfl))
  have hcv := Lib.run_convert_string_bytes (P := Tryz.prog) w 9 22 5 t (u := .string) Tryz.underlying9 Tryz.underlying22 Tryz.underlying5
  have hB : ∀ j, j < t.size → (Lib.bytesWorld w 5 t).cell? ⟨w.heap.size, j, none⟩ = some (.int .u8 (t.data.toList.getD j 0).toNat) := fun j hj => Lib.bytesWorld_cell w 5 t j hj
  have HBW : Hid (Below w.heap.size w (Lib.bytesWorld w 5 t)) := bytesWorld_below _ _ _
  obtain ⟨W1, hW1⟩ : ∃ W1, W1 = Lib.bytesWorld w 5 t := ⟨_, rfl⟩
  rw [← hW1] at hcv hB HBW
  clear hW1
  obtain ⟨bs, hL⟩ : ∃ bs, bs = t.data.toList := ⟨_, rfl⟩
  rw [← hL] at hB
  clear hL
  have hmv : IntKind.u64.wrap (IntKind.u64.wrap 4294967296 - 1) = 4294967295 := by
    rw [IntKind.wrap_u64, IntKind.wrap_u64]
    decide
  obtain ⟨low, hlow⟩ := lower_all
  have HL : Hid (∀ c, (0 ≤ low c ∧ low c < 256) ∧ ∀ w, Calls Tryz.prog 104 #[.int .u8 c] w fun e w' => e = .returned (.int .u8 (low c)) ∧ w' = w) := hlow
  clear hlow
  rcases hb with rfl | rfl | rfl
  all_goals
    go_enter Tryz.func98, Tryz.ntmps98
    go_wp2
    go_loop [12, 13, 101] (fun vu vn vi => ∃ (k : Nat) (a : Int), vu = .bool false ∧ vn = .int .u64 a ∧ vi = .int .i64 k ∧ k ≤ t.size ∧ 0 ≤ a ∧ a ≤ 4294967295)
      (fun _ _ vi => t.size - (intOf vi).toNat)
    case atStart => exact ⟨0, 0, rfl, rfl, rfl, by omega, by omega, by omega⟩
    case round =>
      obtain ⟨k, a, rfl, rfl, rfl, hk, a0, a1⟩ := hrel
      by_cases hkn : k < t.size
      · have hc := hB k hkn
        have hc0 : (0 : Int) ≤ ((bs.getD k 0).toNat : Int) := by omega
        have hc1 : ((bs.getD k 0).toNat : Int) < 256 := by have := (bs.getD k 0).toNat_lt; omega
        generalize ((bs.getD k 0).toNat : Int) = c at hc hc0 hc1
        clear hB
        have hl0 := (HL.out c).1.1
        have hl1 := (HL.out c).1.2
        by_cases hd : 48 ≤ c ∧ c ≤ 57
        · obtain ⟨hd0, hd1⟩ := hd
          go_wp2
          all_goals first
            | (refine ⟨⟨k + 1, _, rfl, rfl, (by first | rfl | (congr 1; omega)), by omega, by omega, by omega⟩, by simp [intOf]; omega⟩)
            | (go_ret2; exact ⟨⟨_, _, rfl, by first | exact .inr (.inl rfl) | exact .inr (.inr rfl)⟩, HBW.out⟩)
        · by_cases h95 : c = 95
          · subst h95
            by_cases hl : 97 ≤ low 95 ∧ low 95 ≤ 122
            · obtain ⟨hl2, hl3⟩ := hl
              go_wp2_with (go_at_call 104; refine ((HL.out _).2 _).mono ?_; rintro e u1 ⟨rfl, rfl⟩)
              all_goals first
                | (refine ⟨⟨k + 1, _, rfl, rfl, (by first | rfl | (congr 1; omega)), by omega, by omega, by omega⟩, by simp [intOf]; omega⟩)
                | (go_ret2; exact ⟨⟨_, _, rfl, by first | exact .inr (.inl rfl) | exact .inr (.inr rfl)⟩, HBW.out⟩)
            · go_wp2_with (go_at_call 104; refine ((HL.out _).2 _).mono ?_; rintro e u1 ⟨rfl, rfl⟩)
              all_goals (go_ret2; exact ⟨⟨_, _, rfl, by first | exact .inr (.inl rfl) | exact .inr (.inr rfl)⟩, HBW.out⟩)
          · by_cases hl : 97 ≤ low c ∧ low c ≤ 122
            · obtain ⟨hl2, hl3⟩ := hl
              go_wp2_with (go_at_call 104; refine ((HL.out _).2 _).mono ?_; rintro e u1 ⟨rfl, rfl⟩)
              all_goals first
                | (refine ⟨⟨k + 1, _, rfl, rfl, (by first | rfl | (congr 1; omega)), by omega, by omega, by omega⟩, by simp [intOf]; omega⟩)
                | (go_ret2; exact ⟨⟨_, _, rfl, by first | exact .inr (.inl rfl) | exact .inr (.inr rfl)⟩, HBW.out⟩)
            · go_wp2_with (go_at_call 104; refine ((HL.out _).2 _).mono ?_; rintro e u1 ⟨rfl, rfl⟩)
              all_goals (go_ret2; exact ⟨⟨_, _, rfl, by first | exact .inr (.inl rfl) | exact .inr (.inr rfl)⟩, HBW.out⟩)
      · have hkk : k = t.size := by omega
        subst hkk
        go_wp2
        go_ret2
        exact ⟨⟨_, _, rfl, .inl rfl⟩, HBW.out⟩
end Go.Proofs.YtafcnijfoejboaaGreatDoor.W
namespace Go.Proofs
open Go.Shelf
def Tryz.lays162_ren : Go.Shelf.Ren := ⟨fun | 162 => 88 | 232 => 92 | 227 => 93 | 234 => 94 | 236 => 95 | 228 => 100 | 271 => 101 | 151 => 102 | 120 => 110 | 197 => 111 | 152 => 112 | 260 => 116 | 137 => 117 | 119 => 118 | 224 => 119 | 225 => 120 | 217 => 122 | 266 => 124 | n => n, fun | 9 => 9 | 4 => 4 | 3 => 3 | 5 => 5 | 117 => 136 | 116 => 135 | 0 => 0 | 124 => 139 | 21 => 21 | 105 => 142 | 46 => 148 | 119 => 162 | 139 => 165 | 138 => 164 | n => n, fun | 3 => 2 | 4 => 3 | n => n⟩
theorem Tryz.lays162 : Go.Proofs.Lays.n162 Tryz.prog Tryz.lays162_ren := {
  mixed := by kernel_rfl
  f119 := Tryz.func118.trans (congrArg some (by kernel_rfl))
  f120 := Tryz.func110.trans (congrArg some (by kernel_rfl))
  f137 := Tryz.func117.trans (congrArg some (by kernel_rfl))
  f151 := Tryz.func102.trans (congrArg some (by kernel_rfl))
  f152 := Tryz.func112.trans (congrArg some (by kernel_rfl))
  f162 := Tryz.func88.trans (congrArg some (by kernel_rfl))
  f197 := Tryz.func111.trans (congrArg some (by kernel_rfl))
  f217 := Tryz.func122.trans (congrArg some (by kernel_rfl))
  f224 := Tryz.func119.trans (congrArg some (by kernel_rfl))
  f225 := Tryz.func120.trans (congrArg some (by kernel_rfl))
  f227 := Tryz.func93.trans (congrArg some (by kernel_rfl))
  f228 := Tryz.func100.trans (congrArg some (by kernel_rfl))
  f232 := Tryz.func92.trans (congrArg some (by kernel_rfl))
  f234 := Tryz.func94.trans (congrArg some (by kernel_rfl))
  f236 := Tryz.func95.trans (congrArg some (by kernel_rfl))
  f260 := Tryz.func116.trans (congrArg some (by kernel_rfl))
  f266 := Tryz.func124.trans (congrArg some (by kernel_rfl))
  f271 := Tryz.func101.trans (congrArg some (by kernel_rfl))
  t0 := Tryz.underlying0
  a0 := Tryz.isAgg0
  z0 := Tryz.sizeOf0
  v0 := Tryz.zeroValue0
  t3 := Tryz.underlying3
  a3 := Tryz.isAgg3
  z3 := Tryz.sizeOf3
  v3 := Tryz.zeroValue3
  t4 := Tryz.underlying4
  a4 := Tryz.isAgg4
  z4 := Tryz.sizeOf4
  v4 := Tryz.zeroValue4
  t5 := Tryz.underlying5
  a5 := Tryz.isAgg5
  z5 := Tryz.sizeOf5
  v5 := Tryz.zeroValue5
  t9 := Tryz.underlying9
  a9 := Tryz.isAgg9
  z9 := Tryz.sizeOf9
  v9 := Tryz.zeroValue9
  t21 := Tryz.underlying21
  a21 := Tryz.isAgg21
  z21 := Tryz.sizeOf21
  v21 := Tryz.zeroValue21
  t46 := Tryz.underlying148
  a46 := Tryz.isAgg148
  z46 := Tryz.sizeOf148
  v46 := Tryz.zeroValue148
  t105 := Tryz.underlying142
  a105 := Tryz.isAgg142
  z105 := Tryz.sizeOf142
  v105 := Tryz.zeroValue142
  t116 := Tryz.underlying135
  a116 := Tryz.isAgg135
  z116 := Tryz.sizeOf135
  t117 := Tryz.underlying136
  a117 := Tryz.isAgg136
  z117 := Tryz.sizeOf136
  v117 := Tryz.zeroValue136
  t119 := Tryz.underlying162
  a119 := Tryz.isAgg162
  z119 := Tryz.sizeOf162
  t124 := Tryz.underlying139
  a124 := Tryz.isAgg139
  z124 := Tryz.sizeOf139
  v124 := Tryz.zeroValue139
  t138 := Tryz.underlying164
  a138 := Tryz.isAgg164
  z138 := Tryz.sizeOf164
  v138 := Tryz.zeroValue164
  t139 := Tryz.underlying165
  a139 := Tryz.isAgg165
  z139 := Tryz.sizeOf165
  v139 := Tryz.zeroValue165
  g3 := by kernel_rfl
  g4 := by kernel_rfl }
def Tryz.laysC245_ren : Go.Shelf.Ren := ⟨fun | 245 => 99 | 279 => 106 | 280 => 107 | 281 => 108 | 282 => 109 | 316 => 113 | 171 => 115 | 205 => 114 | 243 => 121 | 246 => 123 | 283 => 125 | 284 => 126 | 285 => 127 | 286 => 128 | 129 => 130 | 317 => 129 | 318 => 131 | 319 => 132 | 320 => 133 | 337 => 134 | 338 => 135 | n => n, fun | 9 => 9 | 3 => 3 | 75 => 130 | 167 => 146 | 4 => 4 | 168 => 149 | 210 => 154 | 37 => 22 | 0 => 0 | 127 => 158 | 145 => 161 | 143 => 159 | 2 => 2 | 171 => 167 | 53 => 128 | 5 => 5 | 173 => 170 | 212 => 173 | 51 => 174 | 20 => 20 | 213 => 175 | 46 => 148 | 232 => 178 | 233 => 179 | 80 => 180 | n => n, fun | 15 => 0 | 16 => 1 | 17 => 5 | 18 => 6 | 19 => 7 | n => n⟩
theorem Tryz.laysC245 : Go.Proofs.LaysC.n245 Tryz.prog Tryz.laysC245_ren := {
  mixed := by kernel_rfl
  f129 := Tryz.func130.trans (congrArg some (by kernel_rfl))
  f171 := Tryz.func115.trans (congrArg some (by kernel_rfl))
  f205 := Tryz.func114.trans (congrArg some (by kernel_rfl))
  f243 := Tryz.func121.trans (congrArg some (by kernel_rfl))
  f245 := Tryz.func99.trans (congrArg some (by kernel_rfl))
  f246 := Tryz.func123.trans (congrArg some (by kernel_rfl))
  f279 := Tryz.func106.trans (congrArg some (by kernel_rfl))
  f280 := Tryz.func107.trans (congrArg some (by kernel_rfl))
  f281 := Tryz.func108.trans (congrArg some (by kernel_rfl))
  f282 := Tryz.func109.trans (congrArg some (by kernel_rfl))
  f283 := Tryz.func125.trans (congrArg some (by kernel_rfl))
  f284 := Tryz.func126.trans (congrArg some (by kernel_rfl))
  f285 := Tryz.func127.trans (congrArg some (by kernel_rfl))
  f286 := Tryz.func128.trans (congrArg some (by kernel_rfl))
  f316 := Tryz.func113.trans (congrArg some (by kernel_rfl))
  f317 := Tryz.func129.trans (congrArg some (by kernel_rfl))
  f318 := Tryz.func131.trans (congrArg some (by kernel_rfl))
  f319 := Tryz.func132.trans (congrArg some (by kernel_rfl))
  f320 := Tryz.func133.trans (congrArg some (by kernel_rfl))
  f337 := Tryz.func134.trans (congrArg some (by kernel_rfl))
  f338 := Tryz.func135.trans (congrArg some (by kernel_rfl))
  t0 := Tryz.underlying0
  a0 := Tryz.isAgg0
  z0 := Tryz.sizeOf0
  v0 := Tryz.zeroValue0
  t2 := Tryz.underlying2
  a2 := Tryz.isAgg2
  z2 := Tryz.sizeOf2
  v2 := Tryz.zeroValue2
  t3 := Tryz.underlying3
  a3 := Tryz.isAgg3
  z3 := Tryz.sizeOf3
  v3 := Tryz.zeroValue3
  t4 := Tryz.underlying4
  a4 := Tryz.isAgg4
  z4 := Tryz.sizeOf4
  v4 := Tryz.zeroValue4
  t5 := Tryz.underlying5
  a5 := Tryz.isAgg5
  z5 := Tryz.sizeOf5
  v5 := Tryz.zeroValue5
  t9 := Tryz.underlying9
  a9 := Tryz.isAgg9
  z9 := Tryz.sizeOf9
  v9 := Tryz.zeroValue9
  t20 := Tryz.underlying20
  a20 := Tryz.isAgg20
  z20 := Tryz.sizeOf20
  v20 := Tryz.zeroValue20
  t37 := Tryz.underlying22
  a37 := Tryz.isAgg22
  z37 := Tryz.sizeOf22
  v37 := Tryz.zeroValue22
  t46 := Tryz.underlying148
  a46 := Tryz.isAgg148
  z46 := Tryz.sizeOf148
  v46 := Tryz.zeroValue148
  t51 := Tryz.underlying174
  a51 := Tryz.isAgg174
  z51 := Tryz.sizeOf174
  v51 := Tryz.zeroValue174
  t53 := Tryz.underlying128
  a53 := Tryz.isAgg128
  z53 := Tryz.sizeOf128
  v53 := Tryz.zeroValue128
  t75 := Tryz.underlying130
  a75 := Tryz.isAgg130
  z75 := Tryz.sizeOf130
  v75 := Tryz.zeroValue130
  t127 := Tryz.underlying158
  a127 := Tryz.isAgg158
  z127 := Tryz.sizeOf158
  v127 := Tryz.zeroValue158
  t143 := Tryz.underlying159
  a143 := Tryz.isAgg159
  z143 := Tryz.sizeOf159
  v143 := Tryz.zeroValue159
  t145 := Tryz.underlying161
  a145 := Tryz.isAgg161
  z145 := Tryz.sizeOf161
  v145 := Tryz.zeroValue161
  t167 := Tryz.underlying146
  a167 := Tryz.isAgg146
  z167 := Tryz.sizeOf146
  v167 := Tryz.zeroValue146
  t168 := Tryz.underlying149
  a168 := Tryz.isAgg149
  z168 := Tryz.sizeOf149
  v168 := Tryz.zeroValue149
  t171 := Tryz.underlying167
  a171 := Tryz.isAgg167
  z171 := Tryz.sizeOf167
  v171 := Tryz.zeroValue167
  t173 := Tryz.underlying170
  a173 := Tryz.isAgg170
  z173 := Tryz.sizeOf170
  v173 := Tryz.zeroValue170
  t210 := Tryz.underlying154
  a210 := Tryz.isAgg154
  z210 := Tryz.sizeOf154
  v210 := Tryz.zeroValue154
  t212 := Tryz.underlying173
  a212 := Tryz.isAgg173
  z212 := Tryz.sizeOf173
  v212 := Tryz.zeroValue173
  t213 := Tryz.underlying175
  a213 := Tryz.isAgg175
  z213 := Tryz.sizeOf175
  t232 := Tryz.underlying178
  a232 := Tryz.isAgg178
  z232 := Tryz.sizeOf178
  v232 := Tryz.zeroValue178
  t233 := Tryz.underlying179
  a233 := Tryz.isAgg179
  z233 := Tryz.sizeOf179
  v233 := Tryz.zeroValue179
  g15 := by kernel_rfl
  g16 := by kernel_rfl
  g17 := by kernel_rfl
  g18 := by kernel_rfl
  g19 := by kernel_rfl
  t80 := Tryz.underlying180
  a80 := Tryz.isAgg180
  z80 := Tryz.sizeOf180
  v80 := Tryz.zeroValue180
  i0 := by kernel_rfl
  i2 := by kernel_rfl
  i3 := by kernel_rfl
  i4 := by kernel_rfl
  i5 := by kernel_rfl
  i9 := by kernel_rfl
  i20 := by kernel_rfl
  i37 := by kernel_rfl
  i46 := by kernel_rfl
  i51 := by kernel_rfl
  i53 := by kernel_rfl
  i75 := by kernel_rfl
  i80 := by kernel_rfl
  i127 := by kernel_rfl
  i143 := by kernel_rfl
  i145 := by kernel_rfl
  i167 := by kernel_rfl
  i168 := by kernel_rfl
  i171 := by kernel_rfl
  i173 := by kernel_rfl
  i210 := by kernel_rfl
  i212 := by kernel_rfl
  i232 := by kernel_rfl
  i233 := by kernel_rfl
  m15 := by kernel_rfl
  m16 := by kernel_rfl
  m17 := by kernel_rfl
  m18 := by kernel_rfl
  m19 := by kernel_rfl
  c0 := by kernel_rfl
  c2 := by kernel_rfl
  c3 := by kernel_rfl
  c4 := by kernel_rfl
  c5 := by kernel_rfl
  c9 := by kernel_rfl
  c20 := by kernel_rfl
  c37 := by kernel_rfl
  c46 := by kernel_rfl
  c51 := by kernel_rfl
  c53 := by kernel_rfl
  c75 := by kernel_rfl
  c80 := by kernel_rfl
  c127 := by kernel_rfl
  c143 := by kernel_rfl
  c145 := by kernel_rfl
  c167 := by kernel_rfl
  c168 := by kernel_rfl
  c171 := by kernel_rfl
  c173 := by kernel_rfl
  c210 := by kernel_rfl
  c212 := by kernel_rfl
  c213 := by kernel_rfl
  c232 := by kernel_rfl
  c233 := by kernel_rfl }
open Go.RowKit in
theorem Tryz.strconv_toError_syntax (fn s : ByteArray) (base bits : Int) (ev : Value) (w : World) (hlim : s.size ≤ 281474976710656) (hv : w.cell? ⟨0, 0, none⟩ = some ev) (hev : ev = .nilIface ∨ ∃ te pe, ev = .iface te pe) :
    Calls Tryz.prog 99 #[.string fn, .string s, .int .i64 base, .int .i64 bits, .iface 146 (.int .i64 2)] w fun e w' => ∃ N, e = .returned (.iface 149 (.pointer (some ⟨N, 0, none⟩))) ∧ w.heap.size ≤ N ∧ w'.heap[N]? = some (.cells #[.string fn, .string s, ev] 154 (0, 0)) ∧ Below w.heap.size w w' := Any.strconv_toError_syntax Tryz.laysC245 fn s base bits ev w hlim hv hev
open Go.RowKit in
theorem Tryz.strconv_toError_range (fn s : ByteArray) (base bits : Int) (ev : Value) (w : World) (hlim : s.size ≤ 281474976710656) (hv : w.cell? ⟨1, 0, none⟩ = some ev) (hev : ev = .nilIface ∨ ∃ te pe, ev = .iface te pe) :
    Calls Tryz.prog 99 #[.string fn, .string s, .int .i64 base, .int .i64 bits, .iface 146 (.int .i64 1)] w fun e w' => ∃ N, e = .returned (.iface 149 (.pointer (some ⟨N, 0, none⟩))) ∧ w.heap.size ≤ N ∧ w'.heap[N]? = some (.cells #[.string fn, .string s, ev] 154 (0, 0)) ∧ Below w.heap.size w w' := Any.strconv_toError_range Tryz.laysC245 fn s base bits ev w hlim hv hev
def Tryz.lays99_ren : Go.Shelf.Ren := ⟨fun | 99 => 89 | 206 => 96 | n => n, fun | 9 => 9 | 4 => 4 | 3 => 3 | n => n, fun | n => n⟩
theorem Tryz.lays99 : Go.Proofs.Lays.n99 Tryz.prog Tryz.lays99_ren := {
  mixed := by kernel_rfl
  f99 := Tryz.func89.trans (congrArg some (by kernel_rfl))
  f206 := Tryz.func96.trans (congrArg some (by kernel_rfl))
  t3 := Tryz.underlying3
  a3 := Tryz.isAgg3
  z3 := Tryz.sizeOf3
  v3 := Tryz.zeroValue3
  t4 := Tryz.underlying4
  a4 := Tryz.isAgg4
  z4 := Tryz.sizeOf4
  v4 := Tryz.zeroValue4
  t9 := Tryz.underlying9
  a9 := Tryz.isAgg9
  z9 := Tryz.sizeOf9
  v9 := Tryz.zeroValue9 }
open Go.RowKit Go.Lib in
theorem Tryz.strings_HasPrefix (s p : ByteArray) (w : World) :
    Calls Tryz.prog 89 #[.string s, .string p] w fun e w' => e = .returned (.bool (Lib.hasPrefix s.data.toList p.data.toList)) ∧ w' = w := Any.strings_HasPrefix Tryz.lays99 s p w
end Go.Proofs
namespace Go.Proofs.YtafcnijfoejboaaGreatDoor.Pl
theorem drop_pos {p : UInt8 → Bool} : ∀ (l : List UInt8), (∃ x, x ∈ l ∧ p x = false) → 0 < (l.dropWhile p).length
  | [], ⟨x, hx, _⟩ => absurd hx (List.not_mem_nil)
  | a :: l, ⟨x, hx, hp⟩ => by
    cases ha : p a
    · simp [List.dropWhile, ha]
    · rcases List.mem_cons.1 hx with e | hx
      · rw [e, ha] at hp; cases hp
      · simp only [List.dropWhile, ha]
        exact drop_pos l ⟨x, hx, hp⟩
end Go.Proofs.YtafcnijfoejboaaGreatDoor.Pl
namespace Go.Proofs.YtafcnijfoejboaaGreatDoor.W
open Go.RowKit
theorem trim_any (s : ByteArray) (hpos : 0 < s.size) (hd : Pl.dg (Pl.byt s 0) = true) (hs : s.size ≤ 1048576) : ∃ D : ByteArray, 0 < D.size ∧ D.size ≤ s.size ∧ ∀ u : World, Calls Tryz.prog 88 #[.string s, .string ⟨#[117, 85]⟩] u fun e w' => e = .returned (.string D) ∧ Below u.heap.size u w' := by
  refine ⟨⟨(Lib.trimRightS s.data.toList (⟨#[117, 85]⟩ : ByteArray).data.toList).toArray⟩, ?_, ?_, fun u => ?_⟩
  · show 0 < (Lib.trimRightS s.data.toList [117, 85]).toArray.size
    rw [List.size_toArray]
    unfold Lib.trimRightS
    rw [List.length_reverse]
    refine Pl.drop_pos _ ⟨s.data.toList.getD 0 0, ?_, ?_⟩
    · rw [List.mem_reverse]
      have h0 : 0 < s.data.toList.length := by simpa using hpos
      rw [List.getD_eq_getElem?_getD, List.getElem?_eq_getElem h0]
      exact List.getElem_mem _
    · have hb : 48 ≤ Pl.byt s 0 ∧ Pl.byt s 0 ≤ 57 := by simpa [Pl.dg] using hd
      unfold Pl.byt at hb
      generalize s.data.toList.getD 0 0 = x at hb
      rw [Bool.eq_false_iff]
      intro hc
      have hc2 : x = 117 ∨ x = 85 := by simpa using hc
      rcases hc2 with e | e
      · rw [e] at hb; revert hb; decide
      · rw [e] at hb; revert hb; decide
  · show (Lib.trimRightS s.data.toList [117, 85]).toArray.size ≤ s.data.size
    rw [List.size_toArray]
    unfold Lib.trimRightS
    rw [List.length_reverse]
    have := (List.dropWhile_sublist (fun x => List.contains [117, 85] x) (l := s.data.toList.reverse)).length_le
    simpa using this
  · exact Any.strings_TrimRight_laid Tryz.lays162 (by kernel_rfl) s ⟨#[117, 85]⟩ u (by omega) (by decide) (ascii_of_all (by decide))
set_option maxHeartbeats 4000000 in
set_option maxRecDepth 100000 in
theorem sParse_any (b : Int) (hb : b = 8 ∨ b = 10 ∨ b = 16) (t : ByteArray) (ht : t.size ≤ 1048576) (w : World) (hE : Errs w) : Calls Tryz.prog 91 #[.string t, .int .i64 b, .int .i64 32] w fun e w' => (∃ (n : Int) (v : Value), e = .returned (.tuple #[.int .u64 n, v]) ∧ (v = .nilIface ∨ ∃ N, v = .iface 149 (.pointer (some ⟨N, 0, none⟩)))) ∧ Below w.heap.size w w' := by
  have HE : Hid (Errs w) := hE
  clear hE
  go_enter Tryz.func91, Tryz.ntmps91
  go_wp2_with fail
  refine (iParse_any b hb t (by omega) _).mono ?_
  rintro e u1 ⟨⟨n, v, rfl, hv⟩, g1⟩
  have G1 : Hid (Below w.heap.size w u1) := g1
  obtain ⟨⟨e1, c1, q1⟩, ⟨e2, c2, q2⟩⟩ := HE.out.keep g1
  clear g1
  have C1 : Hid (u1.cell? ⟨0, 0, none⟩ = some e1) := c1
  have C2 : Hid (u1.cell? ⟨1, 0, none⟩ = some e2) := c2
  have Q1 : Hid (e1 = .nilIface ∨ ∃ te pe, e1 = .iface te pe) := q1
  have Q2 : Hid (e2 = .nilIface ∨ ∃ te pe, e2 = .iface te pe) := q2
  clear c1 c2 q1 q2
  rcases hv with rfl | rfl | rfl
  · go_wp2_with fail
    go_ret2
    exact ⟨⟨_, _, rfl, .inl rfl⟩, G1.out⟩
  · go_wp2_with fail
    refine (Tryz.strconv_toError_range _ t _ _ e2 _ (by omega) C2.out Q2.out).mono ?_
    rintro e u2 ⟨N, rfl, _, _, g2⟩
    go_wp2_with fail
    go_ret2
    exact ⟨⟨_, _, rfl, .inr ⟨N, rfl⟩⟩, G1.out.trans (g2.mono G1.out.size)⟩
  · go_wp2_with fail
    refine (Tryz.strconv_toError_syntax _ t _ _ e1 _ (by omega) C1.out Q1.out).mono ?_
    rintro e u2 ⟨N, rfl, _, _, g2⟩
    go_wp2_with fail
    go_ret2
    exact ⟨⟨_, _, rfl, .inr ⟨N, rfl⟩⟩, G1.out.trans (g2.mono G1.out.size)⟩
end Go.Proofs.YtafcnijfoejboaaGreatDoor.W
namespace Go.Proofs.YtafcnijfoejboaaGreatDoor.W
open Go.RowKit
theorem results_ct {P : Program} {fn : Func} {p q : Tmp} {ty : TypeId} (h : fn.results = #[.cell p ty, .tmp q]) (tmps : Array Value) (w : World) (g : Nat) (t : TypeId) (cs : Array Value) (fr : Nat × Nat) (d : TypeDesc) (v : Value)
    (hp : tmps.getD p undef = .pointer (some ⟨g, 0, none⟩)) (hq : tmps.getD q undef = v) (hg : w.heap[g]? = some (.cells cs t fr))
    (hu : P.underlying ty = some d) (hd : (match d with | .struct _ | .array _ _ => true | _ => false) = true) (hi : (P.info? ty).map (·.size) = some cs.size) :
    (results fn tmps).run P w = .ok (.tuple #[.agg cs, v]) w := by
  have hp' : tmps[p]?.getD undef = .pointer (some ⟨g, 0, none⟩) := by simpa using hp
  have hq' : tmps[q]?.getD undef = v := by simpa using hq
  simp [results, h, hp', hq', asAddr, run_loadVar_row w g t ty cs fr d hg hu hd hi]
theorem pref2 {D : ByteArray} {a b : UInt8} (h : Lib.hasPrefix D.data.toList (⟨#[a, b]⟩ : ByteArray).data.toList = true) : 2 ≤ D.size := by
  have := (List.isPrefixOf_iff_prefix.1 h).length_le
  simpa using this
def NoName (w : World) (e : Ending) (w' : World) : Prop := (∃ (kd code n : Int) (t : ByteArray), e = .returned (.tuple #[.agg #[.int .i64 kd, .string t, .int .i64 n, .int .i64 0, .int .i64 0], .int .i64 code]) ∧ ¬ (code = 0 ∧ kd = 1)) ∧ Below w.heap.size w w'
set_option maxHeartbeats 16000000 in
set_option maxRecDepth 100000 in
theorem readInteger_any (s : ByteArray) (hpos : 0 < s.size) (hd : Pl.dg (Pl.byt s 0) = true) (hs : s.size ≤ 1048576) (w : World) (hE : Errs w) : Calls Tryz.prog 84 #[.string s] w (NoName w) := by
  obtain ⟨D, hD1, hD2, HT'⟩ := trim_any s hpos hd hs
  have HT : Hid (∀ u : World, Calls Tryz.prog 88 #[.string s, .string ⟨#[117, 85]⟩] u fun e w' => e = .returned (.string D) ∧ Below u.heap.size u w') := HT'
  have HE : Hid (Errs w) := hE
  clear HT' hE hd
  go_enter Tryz.func84, Tryz.ntmps84
  go_wp2_with fail
  refine (HT.out _).mono ?_
  rintro e u1 ⟨rfl, g1⟩
  have hz1 : w.heap.size < u1.heap.size := by have := g1.size; simp at this; omega
  have Q1 : Hid (u1.heap[w.heap.size]? = some (.cells #[.int .i64 0, .string ⟨#[]⟩, .int .i64 0, .int .i64 0, .int .i64 0] 119 (0, 0))) := (g1.block w.heap.size (by simp)).trans (heap_alloc_new w _)
  have B1 : Hid (Below w.heap.size w u1) := (below_alloc w _).trans (g1.mono (by simp))
  clear g1 HT
  cases h1 : Lib.hasPrefix D.data.toList (⟨#[48, 120]⟩ : ByteArray).data.toList
  · cases h2 : Lib.hasPrefix D.data.toList (⟨#[48, 88]⟩ : ByteArray).data.toList
    · by_cases hz : ((D[0]'hD1).toNat : Int) = 48
      · cases he : D.toList.isEmpty
        · by_cases hm : (1 : Int) < (s.size : Int) - (D.size : Int)
          · go_wp2_with (first | (go_at_call 89; refine (Tryz.strings_HasPrefix _ _ _).mono ?_; rintro e uu ⟨rfl, ek⟩; rw [ek]; clear ek; first | rw [h1] | rw [h2]) | (refine wpList_store_row rfl 119 _ _ rfl w.heap.size #[.int .i64 0, .string ⟨#[]⟩, .int .i64 0, .int .i64 0, .int .i64 0] ?hx ?hy 119 #[.int .i64 0, .string ⟨#[]⟩, .int .i64 0, .int .i64 0, .int .i64 0] ?hg ?hi ?ho ?h1 ?_; (case hx => rfl); (case hy => rfl); (case hg => exact Q1.out); (case hi => kernel_rfl); (case ho => kernel_rfl); (case h1 => kernel_rfl)))
            refine bodyPost_ret (v := .tuple #[.agg #[.int .i64 0, .string ⟨#[]⟩, .int .i64 0, .int .i64 0, .int .i64 0], .int .i64 2]) ?hr ?hdf ?hQQ
            case hr =>
              refine results_ct Tryz.results84 _ _ (w.heap.size) 119 #[.int .i64 0, .string ⟨#[]⟩, .int .i64 0, .int .i64 0, .int .i64 0] (0, 0) _ (.int .i64 2) ?hp ?hq ?hg Tryz.underlying119 ?hd ?hi
              case hp => rfl
              case hq => rfl
              case hg => exact setRow_heap _ _ _ _ _ _ Q1.out
              case hd => rfl
              case hi => kernel_rfl
            case hdf => rfl
            case hQQ => exact ⟨⟨_, _, _, _, rfl, by omega⟩, below_setRow B1.out (Nat.le_refl _) _⟩
          · go_wp2_with (go_at_call 89; refine (Tryz.strings_HasPrefix _ _ _).mono ?_; rintro e uu ⟨rfl, ek⟩; rw [ek]; clear ek; first | rw [h1] | rw [h2])
            refine (inBase_any _ _ _).mono ?_
            rintro e u2 ⟨⟨d, rfl⟩, g2⟩
            have Q2 : Hid (u2.heap[w.heap.size]? = some (.cells #[.int .i64 0, .string ⟨#[]⟩, .int .i64 0, .int .i64 0, .int .i64 0] 119 (0, 0))) := (g2.block w.heap.size hz1).trans Q1.out
            have B2 : Hid (Below w.heap.size w u2) := B1.out.trans (g2.mono B1.out.size)
            have hz2 : w.heap.size < u2.heap.size := Nat.lt_of_lt_of_le hz1 g2.size
            clear g2
            cases d
            · go_wp2_with (refine wpList_store_row rfl 119 _ _ rfl w.heap.size #[.int .i64 0, .string ⟨#[]⟩, .int .i64 0, .int .i64 0, .int .i64 0] ?hx ?hy 119 #[.int .i64 0, .string ⟨#[]⟩, .int .i64 0, .int .i64 0, .int .i64 0] ?hg ?hi ?ho ?h1 ?_; (case hx => rfl); (case hy => rfl); (case hg => exact Q2.out); (case hi => kernel_rfl); (case ho => kernel_rfl); (case h1 => kernel_rfl))
              refine bodyPost_ret (v := .tuple #[.agg #[.int .i64 0, .string ⟨#[]⟩, .int .i64 0, .int .i64 0, .int .i64 0], .int .i64 2]) ?hr ?hdf ?hQQ
              case hr =>
                refine results_ct Tryz.results84 _ _ (w.heap.size) 119 #[.int .i64 0, .string ⟨#[]⟩, .int .i64 0, .int .i64 0, .int .i64 0] (0, 0) _ (.int .i64 2) ?hp ?hq ?hg Tryz.underlying119 ?hd ?hi
                case hp => rfl
                case hq => rfl
                case hg => exact setRow_heap _ _ _ _ _ _ Q2.out
                case hd => rfl
                case hi => kernel_rfl
              case hdf => rfl
              case hQQ => exact ⟨⟨_, _, _, _, rfl, by omega⟩, below_setRow B2.out (Nat.le_refl _) _⟩
            · go_wp2_with fail
              refine (sParse_any 8 (by decide) _ (by omega) _ (HE.out.keep B2.out)).mono ?_
              rintro e u3 ⟨⟨n, v, rfl, hv⟩, g3⟩
              have Q3 : Hid (u3.heap[w.heap.size]? = some (.cells #[.int .i64 0, .string ⟨#[]⟩, .int .i64 0, .int .i64 0, .int .i64 0] 119 (0, 0))) := (g3.block w.heap.size hz2).trans Q2.out
              have B3 : Hid (Below w.heap.size w u3) := B2.out.trans (g3.mono B2.out.size)
              have hz3 : w.heap.size < u3.heap.size := Nat.lt_of_lt_of_le hz2 g3.size
              clear g3
              rcases hv with rfl | ⟨N, rfl⟩
              · have Q4 : Hid (∀ x, (u3.alloc x).heap[w.heap.size]? = some (.cells #[.int .i64 0, .string ⟨#[]⟩, .int .i64 0, .int .i64 0, .int .i64 0] 119 (0, 0))) := fun x => ((below_alloc u3 x).block w.heap.size hz3).trans Q3.out
                have B4 : Hid (∀ x, Below w.heap.size w (u3.alloc x)) := fun x => B3.out.trans ((below_alloc u3 x).mono B3.out.size)
                by_cases hm1 : (s.size : Int) - (D.size : Int) = 1
                · go_wp2_with (refine wpList_store_row rfl 119 _ _ rfl w.heap.size #[.int .i64 3, .string ⟨#[117]⟩, .int .i64 (wrap64 n), .int .i64 0, .int .i64 0] ?hx ?hy 119 #[.int .i64 0, .string ⟨#[]⟩, .int .i64 0, .int .i64 0, .int .i64 0] ?hg ?hi ?ho ?h1 ?_; (case hx => rfl); (case hy => rfl); (case hg => exact Q4.out _); (case hi => kernel_rfl); (case ho => kernel_rfl); (case h1 => kernel_rfl))
                  refine bodyPost_ret (v := .tuple #[.agg #[.int .i64 3, .string ⟨#[117]⟩, .int .i64 (wrap64 n), .int .i64 0, .int .i64 0], .int .i64 0]) ?hr ?hdf ?hQQ
                  case hr =>
                    refine results_ct Tryz.results84 _ _ (w.heap.size) 119 #[.int .i64 3, .string ⟨#[117]⟩, .int .i64 (wrap64 n), .int .i64 0, .int .i64 0] (0, 0) _ (.int .i64 0) ?hp ?hq ?hg Tryz.underlying119 ?hd ?hi
                    case hp => rfl
                    case hq => rfl
                    case hg => exact setRow_heap _ _ _ _ _ _ (Q4.out _)
                    case hd => rfl
                    case hi => kernel_rfl
                  case hdf => rfl
                  case hQQ => exact ⟨⟨_, _, _, _, rfl, by omega⟩, below_setRow (B4.out _) (Nat.le_refl _) _⟩
                · go_wp2_with (first | (refine wpList_store_row rfl 119 _ _ rfl w.heap.size #[.int .i64 3, .string ⟨#[117]⟩, .int .i64 (wrap64 n), .int .i64 0, .int .i64 0] ?hx ?hy 119 #[.int .i64 0, .string ⟨#[]⟩, .int .i64 0, .int .i64 0, .int .i64 0] ?hg ?hi ?ho ?h1 ?_; (case hx => rfl); (case hy => rfl); (case hg => exact Q4.out _); (case hi => kernel_rfl); (case ho => kernel_rfl); (case h1 => kernel_rfl)) | (refine wpList_store_row rfl 119 _ _ rfl w.heap.size #[.int .i64 3, .string ⟨#[]⟩, .int .i64 (wrap64 n), .int .i64 0, .int .i64 0] ?hx ?hy 119 #[.int .i64 0, .string ⟨#[]⟩, .int .i64 0, .int .i64 0, .int .i64 0] ?hg ?hi ?ho ?h1 ?_; (case hx => rfl); (case hy => rfl); (case hg => exact Q4.out _); (case hi => kernel_rfl); (case ho => kernel_rfl); (case h1 => kernel_rfl)))
                  all_goals first
                    | (refine bodyPost_ret (v := .tuple #[.agg #[.int .i64 3, .string ⟨#[117]⟩, .int .i64 (wrap64 n), .int .i64 0, .int .i64 0], .int .i64 0]) ?hr ?hdf ?hQQ
                       case hr =>
                         refine results_ct Tryz.results84 _ _ (w.heap.size) 119 #[.int .i64 3, .string ⟨#[117]⟩, .int .i64 (wrap64 n), .int .i64 0, .int .i64 0] (0, 0) _ (.int .i64 0) ?hp ?hq ?hg Tryz.underlying119 ?hd ?hi
                         case hp => rfl
                         case hq => rfl
                         case hg => exact setRow_heap _ _ _ _ _ _ (Q4.out _)
                         case hd => rfl
                         case hi => kernel_rfl
                       case hdf => rfl
                       case hQQ => exact ⟨⟨_, _, _, _, rfl, by omega⟩, below_setRow (B4.out _) (Nat.le_refl _) _⟩)
                    | (refine bodyPost_ret (v := .tuple #[.agg #[.int .i64 3, .string ⟨#[]⟩, .int .i64 (wrap64 n), .int .i64 0, .int .i64 0], .int .i64 0]) ?hr ?hdf ?hQQ
                       case hr =>
                         refine results_ct Tryz.results84 _ _ (w.heap.size) 119 #[.int .i64 3, .string ⟨#[]⟩, .int .i64 (wrap64 n), .int .i64 0, .int .i64 0] (0, 0) _ (.int .i64 0) ?hp ?hq ?hg Tryz.underlying119 ?hd ?hi
                         case hp => rfl
                         case hq => rfl
                         case hg => exact setRow_heap _ _ _ _ _ _ (Q4.out _)
                         case hd => rfl
                         case hi => kernel_rfl
                       case hdf => rfl
                       case hQQ => exact ⟨⟨_, _, _, _, rfl, by omega⟩, below_setRow (B4.out _) (Nat.le_refl _) _⟩)
              · go_wp2_with (refine wpList_store_row rfl 119 _ _ rfl w.heap.size #[.int .i64 0, .string ⟨#[]⟩, .int .i64 0, .int .i64 0, .int .i64 0] ?hx ?hy 119 #[.int .i64 0, .string ⟨#[]⟩, .int .i64 0, .int .i64 0, .int .i64 0] ?hg ?hi ?ho ?h1 ?_; (case hx => rfl); (case hy => rfl); (case hg => exact Q3.out); (case hi => kernel_rfl); (case ho => kernel_rfl); (case h1 => kernel_rfl))
                refine bodyPost_ret (v := .tuple #[.agg #[.int .i64 0, .string ⟨#[]⟩, .int .i64 0, .int .i64 0, .int .i64 0], .int .i64 6]) ?hr ?hdf ?hQQ
                case hr =>
                  refine results_ct Tryz.results84 _ _ (w.heap.size) 119 #[.int .i64 0, .string ⟨#[]⟩, .int .i64 0, .int .i64 0, .int .i64 0] (0, 0) _ (.int .i64 6) ?hp ?hq ?hg Tryz.underlying119 ?hd ?hi
                  case hp => rfl
                  case hq => rfl
                  case hg => exact setRow_heap _ _ _ _ _ _ Q3.out
                  case hd => rfl
                  case hi => kernel_rfl
                case hdf => rfl
                case hQQ => exact ⟨⟨_, _, _, _, rfl, by omega⟩, below_setRow B3.out (Nat.le_refl _) _⟩
        · by_cases hm : (1 : Int) < (s.size : Int) - (D.size : Int)
          · go_wp2_with (first | (go_at_call 89; refine (Tryz.strings_HasPrefix _ _ _).mono ?_; rintro e uu ⟨rfl, ek⟩; rw [ek]; clear ek; first | rw [h1] | rw [h2]) | (refine wpList_store_row rfl 119 _ _ rfl w.heap.size #[.int .i64 0, .string ⟨#[]⟩, .int .i64 0, .int .i64 0, .int .i64 0] ?hx ?hy 119 #[.int .i64 0, .string ⟨#[]⟩, .int .i64 0, .int .i64 0, .int .i64 0] ?hg ?hi ?ho ?h1 ?_; (case hx => rfl); (case hy => rfl); (case hg => exact Q1.out); (case hi => kernel_rfl); (case ho => kernel_rfl); (case h1 => kernel_rfl)))
            refine bodyPost_ret (v := .tuple #[.agg #[.int .i64 0, .string ⟨#[]⟩, .int .i64 0, .int .i64 0, .int .i64 0], .int .i64 2]) ?hr ?hdf ?hQQ
            case hr =>
              refine results_ct Tryz.results84 _ _ (w.heap.size) 119 #[.int .i64 0, .string ⟨#[]⟩, .int .i64 0, .int .i64 0, .int .i64 0] (0, 0) _ (.int .i64 2) ?hp ?hq ?hg Tryz.underlying119 ?hd ?hi
              case hp => rfl
              case hq => rfl
              case hg => exact setRow_heap _ _ _ _ _ _ Q1.out
              case hd => rfl
              case hi => kernel_rfl
            case hdf => rfl
            case hQQ => exact ⟨⟨_, _, _, _, rfl, by omega⟩, below_setRow B1.out (Nat.le_refl _) _⟩
          · go_wp2_with (first | (go_at_call 89; refine (Tryz.strings_HasPrefix _ _ _).mono ?_; rintro e uu ⟨rfl, ek⟩; rw [ek]; clear ek; first | rw [h1] | rw [h2]) | (refine wpList_store_row rfl 119 _ _ rfl w.heap.size #[.int .i64 0, .string ⟨#[]⟩, .int .i64 0, .int .i64 0, .int .i64 0] ?hx ?hy 119 #[.int .i64 0, .string ⟨#[]⟩, .int .i64 0, .int .i64 0, .int .i64 0] ?hg ?hi ?ho ?h1 ?_; (case hx => rfl); (case hy => rfl); (case hg => exact Q1.out); (case hi => kernel_rfl); (case ho => kernel_rfl); (case h1 => kernel_rfl)))
            refine bodyPost_ret (v := .tuple #[.agg #[.int .i64 0, .string ⟨#[]⟩, .int .i64 0, .int .i64 0, .int .i64 0], .int .i64 2]) ?hr ?hdf ?hQQ
            case hr =>
              refine results_ct Tryz.results84 _ _ (w.heap.size) 119 #[.int .i64 0, .string ⟨#[]⟩, .int .i64 0, .int .i64 0, .int .i64 0] (0, 0) _ (.int .i64 2) ?hp ?hq ?hg Tryz.underlying119 ?hd ?hi
              case hp => rfl
              case hq => rfl
              case hg => exact setRow_heap _ _ _ _ _ _ Q1.out
              case hd => rfl
              case hi => kernel_rfl
            case hdf => rfl
            case hQQ => exact ⟨⟨_, _, _, _, rfl, by omega⟩, below_setRow B1.out (Nat.le_refl _) _⟩
      · cases he : D.toList.isEmpty
        · by_cases hm : (1 : Int) < (s.size : Int) - (D.size : Int)
          · go_wp2_with (first | (go_at_call 89; refine (Tryz.strings_HasPrefix _ _ _).mono ?_; rintro e uu ⟨rfl, ek⟩; rw [ek]; clear ek; first | rw [h1] | rw [h2]) | (refine wpList_store_row rfl 119 _ _ rfl w.heap.size #[.int .i64 0, .string ⟨#[]⟩, .int .i64 0, .int .i64 0, .int .i64 0] ?hx ?hy 119 #[.int .i64 0, .string ⟨#[]⟩, .int .i64 0, .int .i64 0, .int .i64 0] ?hg ?hi ?ho ?h1 ?_; (case hx => rfl); (case hy => rfl); (case hg => exact Q1.out); (case hi => kernel_rfl); (case ho => kernel_rfl); (case h1 => kernel_rfl)))
            refine bodyPost_ret (v := .tuple #[.agg #[.int .i64 0, .string ⟨#[]⟩, .int .i64 0, .int .i64 0, .int .i64 0], .int .i64 2]) ?hr ?hdf ?hQQ
            case hr =>
              refine results_ct Tryz.results84 _ _ (w.heap.size) 119 #[.int .i64 0, .string ⟨#[]⟩, .int .i64 0, .int .i64 0, .int .i64 0] (0, 0) _ (.int .i64 2) ?hp ?hq ?hg Tryz.underlying119 ?hd ?hi
              case hp => rfl
              case hq => rfl
              case hg => exact setRow_heap _ _ _ _ _ _ Q1.out
              case hd => rfl
              case hi => kernel_rfl
            case hdf => rfl
            case hQQ => exact ⟨⟨_, _, _, _, rfl, by omega⟩, below_setRow B1.out (Nat.le_refl _) _⟩
          · go_wp2_with (go_at_call 89; refine (Tryz.strings_HasPrefix _ _ _).mono ?_; rintro e uu ⟨rfl, ek⟩; rw [ek]; clear ek; first | rw [h1] | rw [h2])
            refine (inBase_any _ _ _).mono ?_
            rintro e u2 ⟨⟨d, rfl⟩, g2⟩
            have Q2 : Hid (u2.heap[w.heap.size]? = some (.cells #[.int .i64 0, .string ⟨#[]⟩, .int .i64 0, .int .i64 0, .int .i64 0] 119 (0, 0))) := (g2.block w.heap.size hz1).trans Q1.out
            have B2 : Hid (Below w.heap.size w u2) := B1.out.trans (g2.mono B1.out.size)
            have hz2 : w.heap.size < u2.heap.size := Nat.lt_of_lt_of_le hz1 g2.size
            clear g2
            cases d
            · go_wp2_with (refine wpList_store_row rfl 119 _ _ rfl w.heap.size #[.int .i64 0, .string ⟨#[]⟩, .int .i64 0, .int .i64 0, .int .i64 0] ?hx ?hy 119 #[.int .i64 0, .string ⟨#[]⟩, .int .i64 0, .int .i64 0, .int .i64 0] ?hg ?hi ?ho ?h1 ?_; (case hx => rfl); (case hy => rfl); (case hg => exact Q2.out); (case hi => kernel_rfl); (case ho => kernel_rfl); (case h1 => kernel_rfl))
              refine bodyPost_ret (v := .tuple #[.agg #[.int .i64 0, .string ⟨#[]⟩, .int .i64 0, .int .i64 0, .int .i64 0], .int .i64 2]) ?hr ?hdf ?hQQ
              case hr =>
                refine results_ct Tryz.results84 _ _ (w.heap.size) 119 #[.int .i64 0, .string ⟨#[]⟩, .int .i64 0, .int .i64 0, .int .i64 0] (0, 0) _ (.int .i64 2) ?hp ?hq ?hg Tryz.underlying119 ?hd ?hi
                case hp => rfl
                case hq => rfl
                case hg => exact setRow_heap _ _ _ _ _ _ Q2.out
                case hd => rfl
                case hi => kernel_rfl
              case hdf => rfl
              case hQQ => exact ⟨⟨_, _, _, _, rfl, by omega⟩, below_setRow B2.out (Nat.le_refl _) _⟩
            · go_wp2_with fail
              refine (sParse_any 10 (by decide) _ (by omega) _ (HE.out.keep B2.out)).mono ?_
              rintro e u3 ⟨⟨n, v, rfl, hv⟩, g3⟩
              have Q3 : Hid (u3.heap[w.heap.size]? = some (.cells #[.int .i64 0, .string ⟨#[]⟩, .int .i64 0, .int .i64 0, .int .i64 0] 119 (0, 0))) := (g3.block w.heap.size hz2).trans Q2.out
              have B3 : Hid (Below w.heap.size w u3) := B2.out.trans (g3.mono B2.out.size)
              have hz3 : w.heap.size < u3.heap.size := Nat.lt_of_lt_of_le hz2 g3.size
              clear g3
              rcases hv with rfl | ⟨N, rfl⟩
              · have Q4 : Hid (∀ x, (u3.alloc x).heap[w.heap.size]? = some (.cells #[.int .i64 0, .string ⟨#[]⟩, .int .i64 0, .int .i64 0, .int .i64 0] 119 (0, 0))) := fun x => ((below_alloc u3 x).block w.heap.size hz3).trans Q3.out
                have B4 : Hid (∀ x, Below w.heap.size w (u3.alloc x)) := fun x => B3.out.trans ((below_alloc u3 x).mono B3.out.size)
                by_cases hm1 : (s.size : Int) - (D.size : Int) = 1
                · go_wp2_with (refine wpList_store_row rfl 119 _ _ rfl w.heap.size #[.int .i64 3, .string ⟨#[117]⟩, .int .i64 (wrap64 n), .int .i64 0, .int .i64 0] ?hx ?hy 119 #[.int .i64 0, .string ⟨#[]⟩, .int .i64 0, .int .i64 0, .int .i64 0] ?hg ?hi ?ho ?h1 ?_; (case hx => rfl); (case hy => rfl); (case hg => exact Q4.out _); (case hi => kernel_rfl); (case ho => kernel_rfl); (case h1 => kernel_rfl))
                  refine bodyPost_ret (v := .tuple #[.agg #[.int .i64 3, .string ⟨#[117]⟩, .int .i64 (wrap64 n), .int .i64 0, .int .i64 0], .int .i64 0]) ?hr ?hdf ?hQQ
                  case hr =>
                    refine results_ct Tryz.results84 _ _ (w.heap.size) 119 #[.int .i64 3, .string ⟨#[117]⟩, .int .i64 (wrap64 n), .int .i64 0, .int .i64 0] (0, 0) _ (.int .i64 0) ?hp ?hq ?hg Tryz.underlying119 ?hd ?hi
                    case hp => rfl
                    case hq => rfl
                    case hg => exact setRow_heap _ _ _ _ _ _ (Q4.out _)
                    case hd => rfl
                    case hi => kernel_rfl
                  case hdf => rfl
                  case hQQ => exact ⟨⟨_, _, _, _, rfl, by omega⟩, below_setRow (B4.out _) (Nat.le_refl _) _⟩
                · go_wp2_with (first | (refine wpList_store_row rfl 119 _ _ rfl w.heap.size #[.int .i64 3, .string ⟨#[117]⟩, .int .i64 (wrap64 n), .int .i64 0, .int .i64 0] ?hx ?hy 119 #[.int .i64 0, .string ⟨#[]⟩, .int .i64 0, .int .i64 0, .int .i64 0] ?hg ?hi ?ho ?h1 ?_; (case hx => rfl); (case hy => rfl); (case hg => exact Q4.out _); (case hi => kernel_rfl); (case ho => kernel_rfl); (case h1 => kernel_rfl)) | (refine wpList_store_row rfl 119 _ _ rfl w.heap.size #[.int .i64 3, .string ⟨#[]⟩, .int .i64 (wrap64 n), .int .i64 0, .int .i64 0] ?hx ?hy 119 #[.int .i64 0, .string ⟨#[]⟩, .int .i64 0, .int .i64 0, .int .i64 0] ?hg ?hi ?ho ?h1 ?_; (case hx => rfl); (case hy => rfl); (case hg => exact Q4.out _); (case hi => kernel_rfl); (case ho => kernel_rfl); (case h1 => kernel_rfl)))
                  all_goals first
                    | (refine bodyPost_ret (v := .tuple #[.agg #[.int .i64 3, .string ⟨#[117]⟩, .int .i64 (wrap64 n), .int .i64 0, .int .i64 0], .int .i64 0]) ?hr ?hdf ?hQQ
                       case hr =>
                         refine results_ct Tryz.results84 _ _ (w.heap.size) 119 #[.int .i64 3, .string ⟨#[117]⟩, .int .i64 (wrap64 n), .int .i64 0, .int .i64 0] (0, 0) _ (.int .i64 0) ?hp ?hq ?hg Tryz.underlying119 ?hd ?hi
                         case hp => rfl
                         case hq => rfl
                         case hg => exact setRow_heap _ _ _ _ _ _ (Q4.out _)
                         case hd => rfl
                         case hi => kernel_rfl
                       case hdf => rfl
                       case hQQ => exact ⟨⟨_, _, _, _, rfl, by omega⟩, below_setRow (B4.out _) (Nat.le_refl _) _⟩)
                    | (refine bodyPost_ret (v := .tuple #[.agg #[.int .i64 3, .string ⟨#[]⟩, .int .i64 (wrap64 n), .int .i64 0, .int .i64 0], .int .i64 0]) ?hr ?hdf ?hQQ
                       case hr =>
                         refine results_ct Tryz.results84 _ _ (w.heap.size) 119 #[.int .i64 3, .string ⟨#[]⟩, .int .i64 (wrap64 n), .int .i64 0, .int .i64 0] (0, 0) _ (.int .i64 0) ?hp ?hq ?hg Tryz.underlying119 ?hd ?hi
                         case hp => rfl
                         case hq => rfl
                         case hg => exact setRow_heap _ _ _ _ _ _ (Q4.out _)
                         case hd => rfl
                         case hi => kernel_rfl
                       case hdf => rfl
                       case hQQ => exact ⟨⟨_, _, _, _, rfl, by omega⟩, below_setRow (B4.out _) (Nat.le_refl _) _⟩)
              · go_wp2_with (refine wpList_store_row rfl 119 _ _ rfl w.heap.size #[.int .i64 0, .string ⟨#[]⟩, .int .i64 0, .int .i64 0, .int .i64 0] ?hx ?hy 119 #[.int .i64 0, .string ⟨#[]⟩, .int .i64 0, .int .i64 0, .int .i64 0] ?hg ?hi ?ho ?h1 ?_; (case hx => rfl); (case hy => rfl); (case hg => exact Q3.out); (case hi => kernel_rfl); (case ho => kernel_rfl); (case h1 => kernel_rfl))
                refine bodyPost_ret (v := .tuple #[.agg #[.int .i64 0, .string ⟨#[]⟩, .int .i64 0, .int .i64 0, .int .i64 0], .int .i64 6]) ?hr ?hdf ?hQQ
                case hr =>
                  refine results_ct Tryz.results84 _ _ (w.heap.size) 119 #[.int .i64 0, .string ⟨#[]⟩, .int .i64 0, .int .i64 0, .int .i64 0] (0, 0) _ (.int .i64 6) ?hp ?hq ?hg Tryz.underlying119 ?hd ?hi
                  case hp => rfl
                  case hq => rfl
                  case hg => exact setRow_heap _ _ _ _ _ _ Q3.out
                  case hd => rfl
                  case hi => kernel_rfl
                case hdf => rfl
                case hQQ => exact ⟨⟨_, _, _, _, rfl, by omega⟩, below_setRow B3.out (Nat.le_refl _) _⟩
        · by_cases hm : (1 : Int) < (s.size : Int) - (D.size : Int)
          · go_wp2_with (first | (go_at_call 89; refine (Tryz.strings_HasPrefix _ _ _).mono ?_; rintro e uu ⟨rfl, ek⟩; rw [ek]; clear ek; first | rw [h1] | rw [h2]) | (refine wpList_store_row rfl 119 _ _ rfl w.heap.size #[.int .i64 0, .string ⟨#[]⟩, .int .i64 0, .int .i64 0, .int .i64 0] ?hx ?hy 119 #[.int .i64 0, .string ⟨#[]⟩, .int .i64 0, .int .i64 0, .int .i64 0] ?hg ?hi ?ho ?h1 ?_; (case hx => rfl); (case hy => rfl); (case hg => exact Q1.out); (case hi => kernel_rfl); (case ho => kernel_rfl); (case h1 => kernel_rfl)))
            refine bodyPost_ret (v := .tuple #[.agg #[.int .i64 0, .string ⟨#[]⟩, .int .i64 0, .int .i64 0, .int .i64 0], .int .i64 2]) ?hr ?hdf ?hQQ
            case hr =>
              refine results_ct Tryz.results84 _ _ (w.heap.size) 119 #[.int .i64 0, .string ⟨#[]⟩, .int .i64 0, .int .i64 0, .int .i64 0] (0, 0) _ (.int .i64 2) ?hp ?hq ?hg Tryz.underlying119 ?hd ?hi
              case hp => rfl
              case hq => rfl
              case hg => exact setRow_heap _ _ _ _ _ _ Q1.out
              case hd => rfl
              case hi => kernel_rfl
            case hdf => rfl
            case hQQ => exact ⟨⟨_, _, _, _, rfl, by omega⟩, below_setRow B1.out (Nat.le_refl _) _⟩
          · go_wp2_with (first | (go_at_call 89; refine (Tryz.strings_HasPrefix _ _ _).mono ?_; rintro e uu ⟨rfl, ek⟩; rw [ek]; clear ek; first | rw [h1] | rw [h2]) | (refine wpList_store_row rfl 119 _ _ rfl w.heap.size #[.int .i64 0, .string ⟨#[]⟩, .int .i64 0, .int .i64 0, .int .i64 0] ?hx ?hy 119 #[.int .i64 0, .string ⟨#[]⟩, .int .i64 0, .int .i64 0, .int .i64 0] ?hg ?hi ?ho ?h1 ?_; (case hx => rfl); (case hy => rfl); (case hg => exact Q1.out); (case hi => kernel_rfl); (case ho => kernel_rfl); (case h1 => kernel_rfl)))
            refine bodyPost_ret (v := .tuple #[.agg #[.int .i64 0, .string ⟨#[]⟩, .int .i64 0, .int .i64 0, .int .i64 0], .int .i64 2]) ?hr ?hdf ?hQQ
            case hr =>
              refine results_ct Tryz.results84 _ _ (w.heap.size) 119 #[.int .i64 0, .string ⟨#[]⟩, .int .i64 0, .int .i64 0, .int .i64 0] (0, 0) _ (.int .i64 2) ?hp ?hq ?hg Tryz.underlying119 ?hd ?hi
              case hp => rfl
              case hq => rfl
              case hg => exact setRow_heap _ _ _ _ _ _ Q1.out
              case hd => rfl
              case hi => kernel_rfl
            case hdf => rfl
            case hQQ => exact ⟨⟨_, _, _, _, rfl, by omega⟩, below_setRow B1.out (Nat.le_refl _) _⟩
    · have hp2 := pref2 h2
      cases he : (D.extract 2 D.size).toList.isEmpty
      · by_cases hm : (1 : Int) < (s.size : Int) - (D.size : Int)
        · go_wp2_with (first | (go_at_call 89; refine (Tryz.strings_HasPrefix _ _ _).mono ?_; rintro e uu ⟨rfl, ek⟩; rw [ek]; clear ek; first | rw [h1] | rw [h2]) | (refine wpList_store_row rfl 119 _ _ rfl w.heap.size #[.int .i64 0, .string ⟨#[]⟩, .int .i64 0, .int .i64 0, .int .i64 0] ?hx ?hy 119 #[.int .i64 0, .string ⟨#[]⟩, .int .i64 0, .int .i64 0, .int .i64 0] ?hg ?hi ?ho ?h1 ?_; (case hx => rfl); (case hy => rfl); (case hg => exact Q1.out); (case hi => kernel_rfl); (case ho => kernel_rfl); (case h1 => kernel_rfl)))
          refine bodyPost_ret (v := .tuple #[.agg #[.int .i64 0, .string ⟨#[]⟩, .int .i64 0, .int .i64 0, .int .i64 0], .int .i64 2]) ?hr ?hdf ?hQQ
          case hr =>
            refine results_ct Tryz.results84 _ _ (w.heap.size) 119 #[.int .i64 0, .string ⟨#[]⟩, .int .i64 0, .int .i64 0, .int .i64 0] (0, 0) _ (.int .i64 2) ?hp ?hq ?hg Tryz.underlying119 ?hd ?hi
            case hp => rfl
            case hq => rfl
            case hg => exact setRow_heap _ _ _ _ _ _ Q1.out
            case hd => rfl
            case hi => kernel_rfl
          case hdf => rfl
          case hQQ => exact ⟨⟨_, _, _, _, rfl, by omega⟩, below_setRow B1.out (Nat.le_refl _) _⟩
        · go_wp2_with (go_at_call 89; refine (Tryz.strings_HasPrefix _ _ _).mono ?_; rintro e uu ⟨rfl, ek⟩; rw [ek]; clear ek; first | rw [h1] | rw [h2])
          refine (inBase_any _ _ _).mono ?_
          rintro e u2 ⟨⟨d, rfl⟩, g2⟩
          have Q2 : Hid (u2.heap[w.heap.size]? = some (.cells #[.int .i64 0, .string ⟨#[]⟩, .int .i64 0, .int .i64 0, .int .i64 0] 119 (0, 0))) := (g2.block w.heap.size hz1).trans Q1.out
          have B2 : Hid (Below w.heap.size w u2) := B1.out.trans (g2.mono B1.out.size)
          have hz2 : w.heap.size < u2.heap.size := Nat.lt_of_lt_of_le hz1 g2.size
          clear g2
          cases d
          · go_wp2_with (refine wpList_store_row rfl 119 _ _ rfl w.heap.size #[.int .i64 0, .string ⟨#[]⟩, .int .i64 0, .int .i64 0, .int .i64 0] ?hx ?hy 119 #[.int .i64 0, .string ⟨#[]⟩, .int .i64 0, .int .i64 0, .int .i64 0] ?hg ?hi ?ho ?h1 ?_; (case hx => rfl); (case hy => rfl); (case hg => exact Q2.out); (case hi => kernel_rfl); (case ho => kernel_rfl); (case h1 => kernel_rfl))
            refine bodyPost_ret (v := .tuple #[.agg #[.int .i64 0, .string ⟨#[]⟩, .int .i64 0, .int .i64 0, .int .i64 0], .int .i64 2]) ?hr ?hdf ?hQQ
            case hr =>
              refine results_ct Tryz.results84 _ _ (w.heap.size) 119 #[.int .i64 0, .string ⟨#[]⟩, .int .i64 0, .int .i64 0, .int .i64 0] (0, 0) _ (.int .i64 2) ?hp ?hq ?hg Tryz.underlying119 ?hd ?hi
              case hp => rfl
              case hq => rfl
              case hg => exact setRow_heap _ _ _ _ _ _ Q2.out
              case hd => rfl
              case hi => kernel_rfl
            case hdf => rfl
            case hQQ => exact ⟨⟨_, _, _, _, rfl, by omega⟩, below_setRow B2.out (Nat.le_refl _) _⟩
          · go_wp2_with fail
            refine (sParse_any 16 (by decide) _ (by rw [ByteArray.size_extract]; omega) _ (HE.out.keep B2.out)).mono ?_
            rintro e u3 ⟨⟨n, v, rfl, hv⟩, g3⟩
            have Q3 : Hid (u3.heap[w.heap.size]? = some (.cells #[.int .i64 0, .string ⟨#[]⟩, .int .i64 0, .int .i64 0, .int .i64 0] 119 (0, 0))) := (g3.block w.heap.size hz2).trans Q2.out
            have B3 : Hid (Below w.heap.size w u3) := B2.out.trans (g3.mono B2.out.size)
            have hz3 : w.heap.size < u3.heap.size := Nat.lt_of_lt_of_le hz2 g3.size
            clear g3
            rcases hv with rfl | ⟨N, rfl⟩
            · have Q4 : Hid (∀ x, (u3.alloc x).heap[w.heap.size]? = some (.cells #[.int .i64 0, .string ⟨#[]⟩, .int .i64 0, .int .i64 0, .int .i64 0] 119 (0, 0))) := fun x => ((below_alloc u3 x).block w.heap.size hz3).trans Q3.out
              have B4 : Hid (∀ x, Below w.heap.size w (u3.alloc x)) := fun x => B3.out.trans ((below_alloc u3 x).mono B3.out.size)
              by_cases hm1 : (s.size : Int) - (D.size : Int) = 1
              · go_wp2_with (refine wpList_store_row rfl 119 _ _ rfl w.heap.size #[.int .i64 3, .string ⟨#[117]⟩, .int .i64 (wrap64 n), .int .i64 0, .int .i64 0] ?hx ?hy 119 #[.int .i64 0, .string ⟨#[]⟩, .int .i64 0, .int .i64 0, .int .i64 0] ?hg ?hi ?ho ?h1 ?_; (case hx => rfl); (case hy => rfl); (case hg => exact Q4.out _); (case hi => kernel_rfl); (case ho => kernel_rfl); (case h1 => kernel_rfl))
                refine bodyPost_ret (v := .tuple #[.agg #[.int .i64 3, .string ⟨#[117]⟩, .int .i64 (wrap64 n), .int .i64 0, .int .i64 0], .int .i64 0]) ?hr ?hdf ?hQQ
                case hr =>
                  refine results_ct Tryz.results84 _ _ (w.heap.size) 119 #[.int .i64 3, .string ⟨#[117]⟩, .int .i64 (wrap64 n), .int .i64 0, .int .i64 0] (0, 0) _ (.int .i64 0) ?hp ?hq ?hg Tryz.underlying119 ?hd ?hi
                  case hp => rfl
                  case hq => rfl
                  case hg => exact setRow_heap _ _ _ _ _ _ (Q4.out _)
                  case hd => rfl
                  case hi => kernel_rfl
                case hdf => rfl
                case hQQ => exact ⟨⟨_, _, _, _, rfl, by omega⟩, below_setRow (B4.out _) (Nat.le_refl _) _⟩
              · go_wp2_with (first | (refine wpList_store_row rfl 119 _ _ rfl w.heap.size #[.int .i64 3, .string ⟨#[117]⟩, .int .i64 (wrap64 n), .int .i64 0, .int .i64 0] ?hx ?hy 119 #[.int .i64 0, .string ⟨#[]⟩, .int .i64 0, .int .i64 0, .int .i64 0] ?hg ?hi ?ho ?h1 ?_; (case hx => rfl); (case hy => rfl); (case hg => exact Q4.out _); (case hi => kernel_rfl); (case ho => kernel_rfl); (case h1 => kernel_rfl)) | (refine wpList_store_row rfl 119 _ _ rfl w.heap.size #[.int .i64 3, .string ⟨#[]⟩, .int .i64 (wrap64 n), .int .i64 0, .int .i64 0] ?hx ?hy 119 #[.int .i64 0, .string ⟨#[]⟩, .int .i64 0, .int .i64 0, .int .i64 0] ?hg ?hi ?ho ?h1 ?_; (case hx => rfl); (case hy => rfl); (case hg => exact Q4.out _); (case hi => kernel_rfl); (case ho => kernel_rfl); (case h1 => kernel_rfl)))
                all_goals first
                  | (refine bodyPost_ret (v := .tuple #[.agg #[.int .i64 3, .string ⟨#[117]⟩, .int .i64 (wrap64 n), .int .i64 0, .int .i64 0], .int .i64 0]) ?hr ?hdf ?hQQ
                     case hr =>
                       refine results_ct Tryz.results84 _ _ (w.heap.size) 119 #[.int .i64 3, .string ⟨#[117]⟩, .int .i64 (wrap64 n), .int .i64 0, .int .i64 0] (0, 0) _ (.int .i64 0) ?hp ?hq ?hg Tryz.underlying119 ?hd ?hi
                       case hp => rfl
                       case hq => rfl
                       case hg => exact setRow_heap _ _ _ _ _ _ (Q4.out _)
                       case hd => rfl
                       case hi => kernel_rfl
                     case hdf => rfl
                     case hQQ => exact ⟨⟨_, _, _, _, rfl, by omega⟩, below_setRow (B4.out _) (Nat.le_refl _) _⟩)
                  | (refine bodyPost_ret (v := .tuple #[.agg #[.int .i64 3, .string ⟨#[]⟩, .int .i64 (wrap64 n), .int .i64 0, .int .i64 0], .int .i64 0]) ?hr ?hdf ?hQQ
                     case hr =>
                       refine results_ct Tryz.results84 _ _ (w.heap.size) 119 #[.int .i64 3, .string ⟨#[]⟩, .int .i64 (wrap64 n), .int .i64 0, .int .i64 0] (0, 0) _ (.int .i64 0) ?hp ?hq ?hg Tryz.underlying119 ?hd ?hi
                       case hp => rfl
                       case hq => rfl
                       case hg => exact setRow_heap _ _ _ _ _ _ (Q4.out _)
                       case hd => rfl
                       case hi => kernel_rfl
                     case hdf => rfl
                     case hQQ => exact ⟨⟨_, _, _, _, rfl, by omega⟩, below_setRow (B4.out _) (Nat.le_refl _) _⟩)
            · go_wp2_with (refine wpList_store_row rfl 119 _ _ rfl w.heap.size #[.int .i64 0, .string ⟨#[]⟩, .int .i64 0, .int .i64 0, .int .i64 0] ?hx ?hy 119 #[.int .i64 0, .string ⟨#[]⟩, .int .i64 0, .int .i64 0, .int .i64 0] ?hg ?hi ?ho ?h1 ?_; (case hx => rfl); (case hy => rfl); (case hg => exact Q3.out); (case hi => kernel_rfl); (case ho => kernel_rfl); (case h1 => kernel_rfl))
              refine bodyPost_ret (v := .tuple #[.agg #[.int .i64 0, .string ⟨#[]⟩, .int .i64 0, .int .i64 0, .int .i64 0], .int .i64 6]) ?hr ?hdf ?hQQ
              case hr =>
                refine results_ct Tryz.results84 _ _ (w.heap.size) 119 #[.int .i64 0, .string ⟨#[]⟩, .int .i64 0, .int .i64 0, .int .i64 0] (0, 0) _ (.int .i64 6) ?hp ?hq ?hg Tryz.underlying119 ?hd ?hi
                case hp => rfl
                case hq => rfl
                case hg => exact setRow_heap _ _ _ _ _ _ Q3.out
                case hd => rfl
                case hi => kernel_rfl
              case hdf => rfl
              case hQQ => exact ⟨⟨_, _, _, _, rfl, by omega⟩, below_setRow B3.out (Nat.le_refl _) _⟩
      · by_cases hm : (1 : Int) < (s.size : Int) - (D.size : Int)
        · go_wp2_with (first | (go_at_call 89; refine (Tryz.strings_HasPrefix _ _ _).mono ?_; rintro e uu ⟨rfl, ek⟩; rw [ek]; clear ek; first | rw [h1] | rw [h2]) | (refine wpList_store_row rfl 119 _ _ rfl w.heap.size #[.int .i64 0, .string ⟨#[]⟩, .int .i64 0, .int .i64 0, .int .i64 0] ?hx ?hy 119 #[.int .i64 0, .string ⟨#[]⟩, .int .i64 0, .int .i64 0, .int .i64 0] ?hg ?hi ?ho ?h1 ?_; (case hx => rfl); (case hy => rfl); (case hg => exact Q1.out); (case hi => kernel_rfl); (case ho => kernel_rfl); (case h1 => kernel_rfl)))
          refine bodyPost_ret (v := .tuple #[.agg #[.int .i64 0, .string ⟨#[]⟩, .int .i64 0, .int .i64 0, .int .i64 0], .int .i64 2]) ?hr ?hdf ?hQQ
          case hr =>
            refine results_ct Tryz.results84 _ _ (w.heap.size) 119 #[.int .i64 0, .string ⟨#[]⟩, .int .i64 0, .int .i64 0, .int .i64 0] (0, 0) _ (.int .i64 2) ?hp ?hq ?hg Tryz.underlying119 ?hd ?hi
            case hp => rfl
            case hq => rfl
            case hg => exact setRow_heap _ _ _ _ _ _ Q1.out
            case hd => rfl
            case hi => kernel_rfl
          case hdf => rfl
          case hQQ => exact ⟨⟨_, _, _, _, rfl, by omega⟩, below_setRow B1.out (Nat.le_refl _) _⟩
        · go_wp2_with (first | (go_at_call 89; refine (Tryz.strings_HasPrefix _ _ _).mono ?_; rintro e uu ⟨rfl, ek⟩; rw [ek]; clear ek; first | rw [h1] | rw [h2]) | (refine wpList_store_row rfl 119 _ _ rfl w.heap.size #[.int .i64 0, .string ⟨#[]⟩, .int .i64 0, .int .i64 0, .int .i64 0] ?hx ?hy 119 #[.int .i64 0, .string ⟨#[]⟩, .int .i64 0, .int .i64 0, .int .i64 0] ?hg ?hi ?ho ?h1 ?_; (case hx => rfl); (case hy => rfl); (case hg => exact Q1.out); (case hi => kernel_rfl); (case ho => kernel_rfl); (case h1 => kernel_rfl)))
          refine bodyPost_ret (v := .tuple #[.agg #[.int .i64 0, .string ⟨#[]⟩, .int .i64 0, .int .i64 0, .int .i64 0], .int .i64 2]) ?hr ?hdf ?hQQ
          case hr =>
            refine results_ct Tryz.results84 _ _ (w.heap.size) 119 #[.int .i64 0, .string ⟨#[]⟩, .int .i64 0, .int .i64 0, .int .i64 0] (0, 0) _ (.int .i64 2) ?hp ?hq ?hg Tryz.underlying119 ?hd ?hi
            case hp => rfl
            case hq => rfl
            case hg => exact setRow_heap _ _ _ _ _ _ Q1.out
            case hd => rfl
            case hi => kernel_rfl
          case hdf => rfl
          case hQQ => exact ⟨⟨_, _, _, _, rfl, by omega⟩, below_setRow B1.out (Nat.le_refl _) _⟩
  · have hp2 := pref2 h1
    cases he : (D.extract 2 D.size).toList.isEmpty
    · by_cases hm : (1 : Int) < (s.size : Int) - (D.size : Int)
      · go_wp2_with (first | (go_at_call 89; refine (Tryz.strings_HasPrefix _ _ _).mono ?_; rintro e uu ⟨rfl, ek⟩; rw [ek]; clear ek; first | rw [h1] | rw [h2]) | (refine wpList_store_row rfl 119 _ _ rfl w.heap.size #[.int .i64 0, .string ⟨#[]⟩, .int .i64 0, .int .i64 0, .int .i64 0] ?hx ?hy 119 #[.int .i64 0, .string ⟨#[]⟩, .int .i64 0, .int .i64 0, .int .i64 0] ?hg ?hi ?ho ?h1 ?_; (case hx => rfl); (case hy => rfl); (case hg => exact Q1.out); (case hi => kernel_rfl); (case ho => kernel_rfl); (case h1 => kernel_rfl)))
        refine bodyPost_ret (v := .tuple #[.agg #[.int .i64 0, .string ⟨#[]⟩, .int .i64 0, .int .i64 0, .int .i64 0], .int .i64 2]) ?hr ?hdf ?hQQ
        case hr =>
          refine results_ct Tryz.results84 _ _ (w.heap.size) 119 #[.int .i64 0, .string ⟨#[]⟩, .int .i64 0, .int .i64 0, .int .i64 0] (0, 0) _ (.int .i64 2) ?hp ?hq ?hg Tryz.underlying119 ?hd ?hi
          case hp => rfl
          case hq => rfl
          case hg => exact setRow_heap _ _ _ _ _ _ Q1.out
          case hd => rfl
          case hi => kernel_rfl
        case hdf => rfl
        case hQQ => exact ⟨⟨_, _, _, _, rfl, by omega⟩, below_setRow B1.out (Nat.le_refl _) _⟩
      · go_wp2_with (go_at_call 89; refine (Tryz.strings_HasPrefix _ _ _).mono ?_; rintro e uu ⟨rfl, ek⟩; rw [ek]; clear ek; first | rw [h1] | rw [h2])
        refine (inBase_any _ _ _).mono ?_
        rintro e u2 ⟨⟨d, rfl⟩, g2⟩
        have Q2 : Hid (u2.heap[w.heap.size]? = some (.cells #[.int .i64 0, .string ⟨#[]⟩, .int .i64 0, .int .i64 0, .int .i64 0] 119 (0, 0))) := (g2.block w.heap.size hz1).trans Q1.out
        have B2 : Hid (Below w.heap.size w u2) := B1.out.trans (g2.mono B1.out.size)
        have hz2 : w.heap.size < u2.heap.size := Nat.lt_of_lt_of_le hz1 g2.size
        clear g2
        cases d
        · go_wp2_with (refine wpList_store_row rfl 119 _ _ rfl w.heap.size #[.int .i64 0, .string ⟨#[]⟩, .int .i64 0, .int .i64 0, .int .i64 0] ?hx ?hy 119 #[.int .i64 0, .string ⟨#[]⟩, .int .i64 0, .int .i64 0, .int .i64 0] ?hg ?hi ?ho ?h1 ?_; (case hx => rfl); (case hy => rfl); (case hg => exact Q2.out); (case hi => kernel_rfl); (case ho => kernel_rfl); (case h1 => kernel_rfl))
          refine bodyPost_ret (v := .tuple #[.agg #[.int .i64 0, .string ⟨#[]⟩, .int .i64 0, .int .i64 0, .int .i64 0], .int .i64 2]) ?hr ?hdf ?hQQ
          case hr =>
            refine results_ct Tryz.results84 _ _ (w.heap.size) 119 #[.int .i64 0, .string ⟨#[]⟩, .int .i64 0, .int .i64 0, .int .i64 0] (0, 0) _ (.int .i64 2) ?hp ?hq ?hg Tryz.underlying119 ?hd ?hi
            case hp => rfl
            case hq => rfl
            case hg => exact setRow_heap _ _ _ _ _ _ Q2.out
            case hd => rfl
            case hi => kernel_rfl
          case hdf => rfl
          case hQQ => exact ⟨⟨_, _, _, _, rfl, by omega⟩, below_setRow B2.out (Nat.le_refl _) _⟩
        · go_wp2_with fail
          refine (sParse_any 16 (by decide) _ (by rw [ByteArray.size_extract]; omega) _ (HE.out.keep B2.out)).mono ?_
          rintro e u3 ⟨⟨n, v, rfl, hv⟩, g3⟩
          have Q3 : Hid (u3.heap[w.heap.size]? = some (.cells #[.int .i64 0, .string ⟨#[]⟩, .int .i64 0, .int .i64 0, .int .i64 0] 119 (0, 0))) := (g3.block w.heap.size hz2).trans Q2.out
          have B3 : Hid (Below w.heap.size w u3) := B2.out.trans (g3.mono B2.out.size)
          have hz3 : w.heap.size < u3.heap.size := Nat.lt_of_lt_of_le hz2 g3.size
          clear g3
          rcases hv with rfl | ⟨N, rfl⟩
          · have Q4 : Hid (∀ x, (u3.alloc x).heap[w.heap.size]? = some (.cells #[.int .i64 0, .string ⟨#[]⟩, .int .i64 0, .int .i64 0, .int .i64 0] 119 (0, 0))) := fun x => ((below_alloc u3 x).block w.heap.size hz3).trans Q3.out
            have B4 : Hid (∀ x, Below w.heap.size w (u3.alloc x)) := fun x => B3.out.trans ((below_alloc u3 x).mono B3.out.size)
            by_cases hm1 : (s.size : Int) - (D.size : Int) = 1
            · go_wp2_with (refine wpList_store_row rfl 119 _ _ rfl w.heap.size #[.int .i64 3, .string ⟨#[117]⟩, .int .i64 (wrap64 n), .int .i64 0, .int .i64 0] ?hx ?hy 119 #[.int .i64 0, .string ⟨#[]⟩, .int .i64 0, .int .i64 0, .int .i64 0] ?hg ?hi ?ho ?h1 ?_; (case hx => rfl); (case hy => rfl); (case hg => exact Q4.out _); (case hi => kernel_rfl); (case ho => kernel_rfl); (case h1 => kernel_rfl))
              refine bodyPost_ret (v := .tuple #[.agg #[.int .i64 3, .string ⟨#[117]⟩, .int .i64 (wrap64 n), .int .i64 0, .int .i64 0], .int .i64 0]) ?hr ?hdf ?hQQ
              case hr =>
                refine results_ct Tryz.results84 _ _ (w.heap.size) 119 #[.int .i64 3, .string ⟨#[117]⟩, .int .i64 (wrap64 n), .int .i64 0, .int .i64 0] (0, 0) _ (.int .i64 0) ?hp ?hq ?hg Tryz.underlying119 ?hd ?hi
                case hp => rfl
                case hq => rfl
                case hg => exact setRow_heap _ _ _ _ _ _ (Q4.out _)
                case hd => rfl
                case hi => kernel_rfl
              case hdf => rfl
              case hQQ => exact ⟨⟨_, _, _, _, rfl, by omega⟩, below_setRow (B4.out _) (Nat.le_refl _) _⟩
            · go_wp2_with (first | (refine wpList_store_row rfl 119 _ _ rfl w.heap.size #[.int .i64 3, .string ⟨#[117]⟩, .int .i64 (wrap64 n), .int .i64 0, .int .i64 0] ?hx ?hy 119 #[.int .i64 0, .string ⟨#[]⟩, .int .i64 0, .int .i64 0, .int .i64 0] ?hg ?hi ?ho ?h1 ?_; (case hx => rfl); (case hy => rfl); (case hg => exact Q4.out _); (case hi => kernel_rfl); (case ho => kernel_rfl); (case h1 => kernel_rfl)) | (refine wpList_store_row rfl 119 _ _ rfl w.heap.size #[.int .i64 3, .string ⟨#[]⟩, .int .i64 (wrap64 n), .int .i64 0, .int .i64 0] ?hx ?hy 119 #[.int .i64 0, .string ⟨#[]⟩, .int .i64 0, .int .i64 0, .int .i64 0] ?hg ?hi ?ho ?h1 ?_; (case hx => rfl); (case hy => rfl); (case hg => exact Q4.out _); (case hi => kernel_rfl); (case ho => kernel_rfl); (case h1 => kernel_rfl)))
              all_goals first
                | (refine bodyPost_ret (v := .tuple #[.agg #[.int .i64 3, .string ⟨#[117]⟩, .int .i64 (wrap64 n), .int .i64 0, .int .i64 0], .int .i64 0]) ?hr ?hdf ?hQQ
                   case hr =>
                     refine results_ct Tryz.results84 _ _ (w.heap.size) 119 #[.int .i64 3, .string ⟨#[117]⟩, .int .i64 (wrap64 n), .int .i64 0, .int .i64 0] (0, 0) _ (.int .i64 0) ?hp ?hq ?hg Tryz.underlying119 ?hd ?hi
                     case hp => rfl
                     case hq => rfl
                     case hg => exact setRow_heap _ _ _ _ _ _ (Q4.out _)
                     case hd => rfl
                     case hi => kernel_rfl
                   case hdf => rfl
                   case hQQ => exact ⟨⟨_, _, _, _, rfl, by omega⟩, below_setRow (B4.out _) (Nat.le_refl _) _⟩)
                | (refine bodyPost_ret (v := .tuple #[.agg #[.int .i64 3, .string ⟨#[]⟩, .int .i64 (wrap64 n), .int .i64 0, .int .i64 0], .int .i64 0]) ?hr ?hdf ?hQQ
                   case hr =>
                     refine results_ct Tryz.results84 _ _ (w.heap.size) 119 #[.int .i64 3, .string ⟨#[]⟩, .int .i64 (wrap64 n), .int .i64 0, .int .i64 0] (0, 0) _ (.int .i64 0) ?hp ?hq ?hg Tryz.underlying119 ?hd ?hi
                     case hp => rfl
                     case hq => rfl
                     case hg => exact setRow_heap _ _ _ _ _ _ (Q4.out _)
                     case hd => rfl
                     case hi => kernel_rfl
                   case hdf => rfl
                   case hQQ => exact ⟨⟨_, _, _, _, rfl, by omega⟩, below_setRow (B4.out _) (Nat.le_refl _) _⟩)
          · go_wp2_with (refine wpList_store_row rfl 119 _ _ rfl w.heap.size #[.int .i64 0, .string ⟨#[]⟩, .int .i64 0, .int .i64 0, .int .i64 0] ?hx ?hy 119 #[.int .i64 0, .string ⟨#[]⟩, .int .i64 0, .int .i64 0, .int .i64 0] ?hg ?hi ?ho ?h1 ?_; (case hx => rfl); (case hy => rfl); (case hg => exact Q3.out); (case hi => kernel_rfl); (case ho => kernel_rfl); (case h1 => kernel_rfl))
            refine bodyPost_ret (v := .tuple #[.agg #[.int .i64 0, .string ⟨#[]⟩, .int .i64 0, .int .i64 0, .int .i64 0], .int .i64 6]) ?hr ?hdf ?hQQ
            case hr =>
              refine results_ct Tryz.results84 _ _ (w.heap.size) 119 #[.int .i64 0, .string ⟨#[]⟩, .int .i64 0, .int .i64 0, .int .i64 0] (0, 0) _ (.int .i64 6) ?hp ?hq ?hg Tryz.underlying119 ?hd ?hi
              case hp => rfl
              case hq => rfl
              case hg => exact setRow_heap _ _ _ _ _ _ Q3.out
              case hd => rfl
              case hi => kernel_rfl
            case hdf => rfl
            case hQQ => exact ⟨⟨_, _, _, _, rfl, by omega⟩, below_setRow B3.out (Nat.le_refl _) _⟩
    · by_cases hm : (1 : Int) < (s.size : Int) - (D.size : Int)
      · go_wp2_with (first | (go_at_call 89; refine (Tryz.strings_HasPrefix _ _ _).mono ?_; rintro e uu ⟨rfl, ek⟩; rw [ek]; clear ek; first | rw [h1] | rw [h2]) | (refine wpList_store_row rfl 119 _ _ rfl w.heap.size #[.int .i64 0, .string ⟨#[]⟩, .int .i64 0, .int .i64 0, .int .i64 0] ?hx ?hy 119 #[.int .i64 0, .string ⟨#[]⟩, .int .i64 0, .int .i64 0, .int .i64 0] ?hg ?hi ?ho ?h1 ?_; (case hx => rfl); (case hy => rfl); (case hg => exact Q1.out); (case hi => kernel_rfl); (case ho => kernel_rfl); (case h1 => kernel_rfl)))
        refine bodyPost_ret (v := .tuple #[.agg #[.int .i64 0, .string ⟨#[]⟩, .int .i64 0, .int .i64 0, .int .i64 0], .int .i64 2]) ?hr ?hdf ?hQQ
        case hr =>
          refine results_ct Tryz.results84 _ _ (w.heap.size) 119 #[.int .i64 0, .string ⟨#[]⟩, .int .i64 0, .int .i64 0, .int .i64 0] (0, 0) _ (.int .i64 2) ?hp ?hq ?hg Tryz.underlying119 ?hd ?hi
          case hp => rfl
          case hq => rfl
          case hg => exact setRow_heap _ _ _ _ _ _ Q1.out
          case hd => rfl
          case hi => kernel_rfl
        case hdf => rfl
        case hQQ => exact ⟨⟨_, _, _, _, rfl, by omega⟩, below_setRow B1.out (Nat.le_refl _) _⟩
      · go_wp2_with (first | (go_at_call 89; refine (Tryz.strings_HasPrefix _ _ _).mono ?_; rintro e uu ⟨rfl, ek⟩; rw [ek]; clear ek; first | rw [h1] | rw [h2]) | (refine wpList_store_row rfl 119 _ _ rfl w.heap.size #[.int .i64 0, .string ⟨#[]⟩, .int .i64 0, .int .i64 0, .int .i64 0] ?hx ?hy 119 #[.int .i64 0, .string ⟨#[]⟩, .int .i64 0, .int .i64 0, .int .i64 0] ?hg ?hi ?ho ?h1 ?_; (case hx => rfl); (case hy => rfl); (case hg => exact Q1.out); (case hi => kernel_rfl); (case ho => kernel_rfl); (case h1 => kernel_rfl)))
        refine bodyPost_ret (v := .tuple #[.agg #[.int .i64 0, .string ⟨#[]⟩, .int .i64 0, .int .i64 0, .int .i64 0], .int .i64 2]) ?hr ?hdf ?hQQ
        case hr =>
          refine results_ct Tryz.results84 _ _ (w.heap.size) 119 #[.int .i64 0, .string ⟨#[]⟩, .int .i64 0, .int .i64 0, .int .i64 0] (0, 0) _ (.int .i64 2) ?hp ?hq ?hg Tryz.underlying119 ?hd ?hi
          case hp => rfl
          case hq => rfl
          case hg => exact setRow_heap _ _ _ _ _ _ Q1.out
          case hd => rfl
          case hi => kernel_rfl
        case hdf => rfl
        case hQQ => exact ⟨⟨_, _, _, _, rfl, by omega⟩, below_setRow B1.out (Nat.le_refl _) _⟩
end Go.Proofs.YtafcnijfoejboaaGreatDoor.W
namespace Go.Proofs.YtafcnijfoejboaaGreatDoor.W
open Go.RowKit
set_option maxHeartbeats 4000000 in
theorem readWord_dg (s : ByteArray) (hpos : 0 < s.size) (hd : Pl.dg (Pl.byt s 0) = true) (hs : s.size ≤ 1048576) (w : World) (hE : Errs w) : Calls Tryz.prog 77 #[.string s] w (NoName w) := by
  have HE : Hid (Errs w) := hE
  clear hE
  go_enter Tryz.func77, Tryz.ntmps77
  go_wp2_with (go_at_call 83; refine (isDigit_any _ _).mono ?_; rintro e u1 ⟨rfl, ek⟩; rw [ek]; clear ek; rw [Pl.byt_get s 0 hpos, hd])
  refine (readInteger_any s hpos hd hs _ (HE.out.keep (below_alloc w _))).mono ?_
  rintro e u2 ⟨⟨kd, code, n, t, rfl, hn⟩, g2⟩
  have Q2 : Hid (u2.heap[w.heap.size]? = some (.cells #[.int .i64 0, .string ⟨#[]⟩, .int .i64 0, .int .i64 0, .int .i64 0] 119 (0, 0))) := (g2.block w.heap.size (by simp)).trans (heap_alloc_new w _)
  have B2 : Hid (Below w.heap.size w u2) := (below_alloc w _).trans (g2.mono (by simp))
  have HN : Hid (¬ (code = 0 ∧ kd = 1)) := hn
  clear g2 hn
  go_wp2_with (refine wpList_store_row rfl 119 _ _ rfl w.heap.size #[.int .i64 kd, .string t, .int .i64 n, .int .i64 0, .int .i64 0] ?hx ?hy 119 #[.int .i64 0, .string ⟨#[]⟩, .int .i64 0, .int .i64 0, .int .i64 0] ?hg ?hi ?ho ?h1 ?_; (case hx => rfl); (case hy => rfl); (case hg => exact Q2.out); (case hi => kernel_rfl); (case ho => kernel_rfl); (case h1 => kernel_rfl))
  refine bodyPost_ret (v := .tuple #[.agg #[.int .i64 kd, .string t, .int .i64 n, .int .i64 0, .int .i64 0], .int .i64 code]) ?hr ?hdf ?hQQ
  case hr =>
    refine results_ct Tryz.results77 _ _ (w.heap.size) 119 #[.int .i64 kd, .string t, .int .i64 n, .int .i64 0, .int .i64 0] (0, 0) _ (.int .i64 code) ?hp ?hq ?hg Tryz.underlying119 ?hd ?hi
    case hp => rfl
    case hq => rfl
    case hg => exact setRow_heap _ _ _ _ _ _ Q2.out
    case hd => rfl
    case hi => kernel_rfl
  case hdf => rfl
  case hQQ => exact ⟨⟨_, _, _, _, rfl, HN.out⟩, below_setRow B2.out (Nat.le_refl _) _⟩
theorem readWord_all (s : ByteArray) (hpos : 0 < s.size) (hs : s.size ≤ 1048576) (w : World) (hE : Errs w) : Calls Tryz.prog 77 #[.string s] w fun e w' => ∃ (kd code n : Int) (t : ByteArray), e = .returned (.tuple #[.agg #[.int .i64 kd, .string t, .int .i64 n, .int .i64 0, .int .i64 0], .int .i64 code]) ∧ ((code = 0 ∧ kd = 1) ↔ (Pl.dg (Pl.byt s 0) = false ∧ s.size ≤ 40 ∧ Pl.inS Pl.kws s = false)) ∧ Below w.heap.size w w' := by
  cases hd : Pl.dg (Pl.byt s 0)
  · refine (readWord_nd s hpos hd w).mono ?_
    rintro e w' ⟨kd, code, t, he, hiff, hb⟩
    exact ⟨kd, code, 0, t, he, hiff.trans ⟨fun h => ⟨rfl, h⟩, fun h => h.2⟩, hb⟩
  · refine (readWord_dg s hpos hd hs w hE).mono ?_
    rintro e w' ⟨⟨kd, code, n, t, he, hn⟩, hb⟩
    exact ⟨kd, code, n, t, he, ⟨fun h => absurd h hn, fun h => by cases h.1⟩, hb⟩
set_option maxHeartbeats 4000000 in
theorem isNameWord_any (s : ByteArray) (hs : s.size ≤ 1048576) (w : World) (hE : Errs w) : Calls Tryz.prog 69 #[.string s] w fun e w' => e = .returned (.bool (Pl.nam s)) ∧ Below w.heap.size w w' := by
  by_cases h0 : s.size = 0
  · have ht : s = ⟨#[]⟩ := by
      cases s with | mk d => congr; exact Array.eq_empty_of_size_eq_zero h0
    subst ht
    go_enter Tryz.func69, Tryz.ntmps69
    go_wp2_with fail
    go_ret
    exact ⟨ret_bool (by decide), Below.refl _ _⟩
  have hpos : 0 < s.size := by omega
  have hemp : s.toList.isEmpty = false := by
    rw [← decide_eq_emptyBytes]
    exact decide_eq_false (fun h => h0 (by rw [h]; rfl))
  have HE : Hid (Errs w) := hE
  clear hE
  go_enter Tryz.func69, Tryz.ntmps69
  go_wp2_with fail
  refine (wordOf_any s (by omega) _).mono ?_
  rintro e u1 ⟨n, hn1, hn2, hn3, rfl, g1⟩
  have G1 : Hid (Below w.heap.size w u1) := g1
  have H2 : Hid (∀ j, j < n → Pl.wch (Pl.byt s j) = true) := hn2
  clear g1 hn2
  by_cases hns : n = s.size
  · have ex : s.extract 0 n = s := by rw [hns]; simp
    rw [ex]
    clear ex hn3
    subst hns
    go_wp2_with fail
    refine (readWord_all s hpos hs _ (HE.out.keep G1.out)).mono ?_
    rintro e u2 ⟨kd, code, n, t, rfl, hiff, g2⟩
    have G2 : Hid (Below w.heap.size w u2) := G1.out.trans (g2.mono G1.out.size)
    have HI : Hid ((code = 0 ∧ kd = 1) ↔ (Pl.dg (Pl.byt s 0) = false ∧ s.size ≤ 40 ∧ Pl.inS Pl.kws s = false)) := hiff
    clear g2 hiff
    have HF : Hid (¬ (code = 0 ∧ kd = 1) → Pl.nam s = false) := fun hc => by
      rw [HI.out] at hc
      rw [Bool.eq_false_iff]
      intro hm
      unfold Pl.nam at hm
      simp only [Bool.and_eq_true, decide_eq_true_eq, Bool.not_eq_true'] at hm
      exact hc ⟨hm.1.1.2, hm.1.1.1.2, hm.1.2⟩
    by_cases hc : code = 0
    · by_cases hk : kd = 1
      · have HT : Hid (Pl.nam s = true) := by
          obtain ⟨q1, q2, q3⟩ := HI.out.1 ⟨hc, hk⟩
          exact Pl.nam_yes s hpos q2 q1 q3 H2.out
        subst hc
        subst hk
        go_wp2_with fail
        go_ret
        exact ⟨ret_bool HT.out.symm, G2.out.trans ((below_alloc _ _).mono G2.out.size)⟩
      · have HT : Hid (Pl.nam s = false) := HF.out (fun h => hk h.2)
        subst hc
        go_wp2_with fail
        go_ret
        exact ⟨ret_bool (by rw [HT.out]; exact beq_false_of_ne hk), G2.out.trans ((below_alloc _ _).mono G2.out.size)⟩
    · have HT : Hid (Pl.nam s = false) := HF.out (fun h => hc h.1)
      go_wp2_with fail
      go_ret
      exact ⟨ret_bool HT.out.symm, G2.out.trans ((below_alloc _ _).mono G2.out.size)⟩
  · have hlt : n < s.size := by omega
    have HT : Hid (Pl.nam s = false) := Pl.nam_no s n hlt (hn3.resolve_left hns)
    have hne : ((s.extract 0 n).toList == s.toList) = false := by
      rw [beq_eq_false_iff_ne]
      intro hc
      have := congrArg List.length hc
      simp [ByteArray.toList_eq] at this
      omega
    clear hn3
    generalize s.extract 0 n = s2 at hne
    go_wp2_with fail
    go_ret
    exact ⟨ret_bool HT.out.symm, G1.out⟩
end Go.Proofs.YtafcnijfoejboaaGreatDoor.W
namespace Go.Proofs.YtafcnijfoejboaaGreatDoor.Pl
theorem take_succ_getD {ss : List ByteArray} {k : Nat} (hk : k < ss.length) : ss.take (k + 1) = ss.take k ++ [ss.getD k ⟨#[]⟩] := by
  rw [List.take_add_one, List.getElem?_eq_getElem hk, List.getD_eq_getElem?_getD, List.getElem?_eq_getElem hk]
  rfl
theorem inS_step {ss : List ByteArray} {k : Nat} (hk : k < ss.length) (t : ByteArray) : inS (ss.take (k + 1)) t = (inS (ss.take k) t || ((ss.getD k ⟨#[]⟩).toList == t.toList)) := by
  unfold inS
  rw [take_succ_getD hk, List.any_append]
  simp
theorem apart_yes {ss : List ByteArray} (h : ∀ k, k < ss.length → nam (ss.getD k ⟨#[]⟩) = true ∧ inS (ss.take k) (ss.getD k ⟨#[]⟩) = false) : apart ss = true := decide_eq_true h
theorem apart_no {ss : List ByteArray} {k : Nat} (hk : k < ss.length) (h : nam (ss.getD k ⟨#[]⟩) = false ∨ inS (ss.take k) (ss.getD k ⟨#[]⟩) = true) : apart ss = false := by
  refine decide_eq_false (fun hc => ?_)
  obtain ⟨h1, h2⟩ := hc k hk
  rcases h with h | h
  · rw [h] at h1; cases h1
  · rw [h] at h2; cases h2
end Go.Proofs.YtafcnijfoejboaaGreatDoor.Pl
namespace Go.Proofs.YtafcnijfoejboaaGreatDoor.W
open Go.RowKit Go.Maps Go.WideMaps
theorem ownsMap_keep {H : Type} {w w' : World} {P : Program} {k : TypeId} {R : Value → Option (DataW H × List MemPlace)} {b n c : Nat} {D : DataW H} (h : w.ownsMap P k R b n D) (hb : Below c w w') (hc : b < c) : w'.ownsMap P k R b n D := by
  obtain ⟨es, clock, h1, h2⟩ := h
  exact ⟨es, clock, (hb.block b hc).trans h1, h2⟩
theorem strLaw : Keyed Tryz.prog 9 := string_keyed Tryz.underlying9
theorem zeroI (w : World) : (zeroValue 3).run Tryz.prog w = .ok (.int .i64 0) w := by kernel_rfl
def Keys (D : DataW Unit) (ss : List ByteArray) : Prop := IsMap D ∧ ∀ t : ByteArray, Maps.has D (.string t.data.toList) = Pl.inS ss t
theorem Keys.nil : Keys (.map []) [] := ⟨isMap_empty, fun t => rfl⟩
theorem Keys.put {D : DataW Unit} {ss : List ByteArray} {k : Nat} (h : Keys D (ss.take k)) (hk : k < ss.length) (d : DataW Unit) : Keys (D.put (.string (ss.getD k ⟨#[]⟩).data.toList) d) (ss.take (k + 1)) := by
  refine ⟨h.1.put _ _, fun t => ?_⟩
  rw [Pl.inS_step hk]
  by_cases e : (ss.getD k ⟨#[]⟩).data.toList = t.data.toList
  · rw [e, has_put_same h.1 (by trivial)]
    have : ((ss.getD k ⟨#[]⟩).toList == t.toList) = true := by
      rw [ByteArray.toList_eq, ByteArray.toList_eq, e]; exact beq_self_eq_true _
    rw [this, Bool.or_true]
  · rw [has_put_other (fun hc => e (by injection hc with hc; exact hc.symm)), h.2]
    have : ((ss.getD k ⟨#[]⟩).toList == t.toList) = false := by
      rw [ByteArray.toList_eq, ByteArray.toList_eq]; exact beq_false_of_ne e
    rw [this, Bool.or_false]
set_option maxRecDepth 100000 in
set_option maxHeartbeats 4000000 in
theorem names_said : NamesSaid Tryz.prog := by
  intro lo a len cap ss w h hE hsm
  have hm : (len : Int) ≤ 9223372036854775807 := by have := h.small; omega
  have HR : Hid (SRow lo w a len cap ss) := h
  have HE : Hid (Errs w) := hE
  have HS : Hid (∀ j, j < ss.length → (ss.getD j ⟨#[]⟩).size ≤ 1048576) := hsm
  have HL : Hid (ss.length = len) := h.1.1
  clear h hE hsm
  have hmm := @run_makeMap Tryz.prog
  go_enter Tryz.func50, Tryz.ntmps50
  go_wp2_with fail
  go_loopw [11] (fun i wr => ∃ (k : Nat) (D : DataW Unit), k ≤ len ∧ i = .int .i64 k ∧ Hid (Keys D (ss.take k)) ∧ Hid (∀ j, j < k → Pl.nam (ss.getD j ⟨#[]⟩) = true ∧ Pl.inS (ss.take j) (ss.getD j ⟨#[]⟩) = false) ∧ Hid (wr.ownsMap Tryz.prog 9 (plainElem Tryz.prog 3) w.heap.size k D) ∧ Hid (Below w.heap.size w wr))
    (fun i _ => len - (intOf i).toNat)
  case atStart => exact ⟨0, .map [], Nat.zero_le _, rfl, Keys.nil, fun j hj => absurd hj (Nat.not_lt_zero _), World.ownsMap_made _ _ _ _, below_alloc _ _⟩
  case round =>
    obtain ⟨k, D, hk, rfl, HK, HA, HO, HB⟩ := hrel
    by_cases hlt : k < len
    · have hi : (k : Int) < (len : Int) := by omega
      have hkl : k < ss.length := by rw [HL.out]; exact hlt
      obtain ⟨b, off, rfl, hlo, hb1, hc, hs⟩ := (HR.out.keep HB.out).at hlt
      obtain ⟨x, hx⟩ : ∃ x, x = ss.getD k ⟨#[]⟩ := ⟨_, rfl⟩
      have hsx : x.size ≤ 1048576 := by rw [hx]; exact HS.out k hkl
      rw [← hx] at hc hs
      have hkey : keyOf Tryz.prog 9 (.string x) = some (.string x.data.toList) := keyOf_string_mk Tryz.underlying9 hs
      have HX : Hid (x = ss.getD k ⟨#[]⟩) := hx
      have HIN : Hid (Maps.has D (.string x.data.toList) = Pl.inS (ss.take k) x) := HK.out.2 x
      clear hx hs
      cases hin : Pl.inS (ss.take k) x
      rotate_left
      · go_wp2_with (at_lookup; refine wpList_lookup_own_ok_int _ rfl _ _ 110 rfl 9 3 .i64 strLaw Tryz.underlying110 Tryz.underlying3 (zeroI _) w.heap.size k D rfl HO.out _ _ rfl hkey ?_; intro c hat hwc; rw [HIN.out, hin]; clear hat hwc)
        go_ret
        exact ⟨ret_bool (Pl.apart_no hkl (.inr (by rw [← HX.out]; exact hin))).symm, HB.out⟩
      · go_wp2_with (at_lookup; refine wpList_lookup_own_ok_int _ rfl _ _ 110 rfl 9 3 .i64 strLaw Tryz.underlying110 Tryz.underlying3 (zeroI _) w.heap.size k D rfl HO.out _ _ rfl hkey ?_; intro c hat hwc; rw [HIN.out, hin]; clear hat hwc)
        refine (isNameWord_any x hsx _ (HE.out.keep HB.out)).mono ?_
        rintro e u1 ⟨rfl, g1⟩
        have hwz : w.heap.size < wr.heap.size := by
          obtain ⟨es, cl, q1, _⟩ := HO.out
          exact (Array.getElem?_eq_some_iff.1 q1).1
        have O1 : Hid (u1.ownsMap Tryz.prog 9 (plainElem Tryz.prog 3) w.heap.size k D) := ownsMap_keep HO.out g1 hwz
        have B1 : Hid (Below w.heap.size w u1) := HB.out.trans (g1.mono HB.out.size)
        clear g1
        cases hn : Pl.nam x
        · go_wp2_with fail
          go_ret
          exact ⟨ret_bool (Pl.apart_no hkl (.inl (by rw [← HX.out]; exact hn))).symm, B1.out⟩
        · go_wp2_with (at_mapUpdate; refine wpList_mapUpdate_own _ rfl _ _ _ 110 rfl 9 3 strLaw Tryz.underlying110 _ w.heap.size k D rfl O1.out (by unfold maxLen; omega) _ _ _ rfl rfl hkey _ [] (plainElem_int Tryz.underlying3 (WalkArith.wf_i64 (by omega))) ?_; intro w1 hown1 hgrow1; have O2 : Hid _ := hown1; have B2 : Hid (Below w.heap.size w w1) := B1.out.grown hgrow1 B1.out.size (fun j hj => by cases hj; exact Nat.le_refl _); clear hown1 hgrow1)
          go_roundw
          case rel =>
            refine ⟨k + 1, _, by omega, by go_num, ?_, ?_, O2, B2⟩
            · rw [HX.out]; exact HK.out.put hkl _
            · intro j hj
              by_cases e : j = k
              · rw [e, ← HX.out]; exact ⟨hn, hin⟩
              · exact HA.out j (by omega)
          case measure => simp [intOf]; omega
    · have hkk : k = len := by omega
      have hi : ¬ ((k : Int) < (len : Int)) := by omega
      go_wp2_with fail
      go_ret
      exact ⟨ret_bool (Pl.apart_yes (fun j hj => HA.out j (by rw [HL.out] at hj; omega))).symm, HB.out⟩
end Go.Proofs.YtafcnijfoejboaaGreatDoor.W
namespace Go.Proofs.YtafcnijfoejboaaGreatDoor.Pl
def lays : Nat → List Ty → Nat → Bool
  | 0, _, _ => false
  | f + 1, xs, i => (xs.getD i Ty.zero).whole && (scal (xs.getD i Ty.zero).k || decide (∀ p, p < (xs.getD i Ty.zero).of.length → lays f xs (ofAt xs i p).toNat = true))
theorem lays_succ (f : Nat) (xs : List Ty) (i : Nat) : lays (f + 1) xs i = true ↔ (xs.getD i Ty.zero).whole = true ∧ (scal (xs.getD i Ty.zero).k = true ∨ ∀ p, p < (xs.getD i Ty.zero).of.length → lays f xs (ofAt xs i p).toNat = true) := by
  simp only [lays, Bool.and_eq_true, Bool.or_eq_true, decide_eq_true_eq]
theorem lays_step {xs : List Ty} : ∀ (f i : Nat), lays f xs i = true → lays (f + 1) xs i = true
  | 0, i, h => by simp [lays] at h
  | f + 1, i, h => by
    rw [lays_succ] at h ⊢
    exact ⟨h.1, h.2.imp id (fun q p hp => lays_step f _ (q p hp))⟩
theorem lays_mono {xs : List Ty} {f g i : Nat} (hfg : f ≤ g) (h : lays f xs i = true) : lays g xs i = true := by
  induction hfg with
  | refl => exact h
  | step _ ih => exact lays_step _ _ ih
def Ty.thick (x : Ty) : Prop := x.k = 9 ∨ (tagd x.k = true ∧ 0 < x.of.length)
def good (xs : List Ty) (i : Nat) : Prop := (xs.getD i Ty.zero).thick → ∃ f, lays f xs i = true
theorem lays_least {xs : List Ty} {i : Nat} : ∀ f, lays f xs i = true → ∃ g, g < f ∧ lays (g + 1) xs i = true ∧ lays g xs i = false
  | 0, h => by simp [lays] at h
  | f + 1, h => by
    cases hf : lays f xs i
    · exact ⟨f, Nat.lt_succ_self _, h, hf⟩
    · obtain ⟨g, h1, h2⟩ := lays_least f hf
      exact ⟨g, by omega, h2⟩
theorem lays_all {xs : List Ty} {q : Nat → Nat} : ∀ n, (∀ p, p < n → ∃ f, lays f xs (q p) = true) → ∃ f, ∀ p, p < n → lays f xs (q p) = true
  | 0, _ => ⟨0, fun p hp => absurd hp (Nat.not_lt_zero _)⟩
  | n + 1, h => by
    obtain ⟨f, hf⟩ := lays_all n (fun p hp => h p (by omega))
    obtain ⟨g, hg⟩ := h n (by omega)
    refine ⟨max f g, fun p hp => ?_⟩
    by_cases e : p = n
    · rw [e]; exact lays_mono (Nat.le_max_right _ _) hg
    · exact lays_mono (Nat.le_max_left _ _) (hf p (by omega))
def fresh (S : List Int) : Nat := S.count 0
theorem fresh_mono : ∀ {S T : List Int}, S.length = T.length → (∀ j, j < S.length → S.getD j 1 = 0 → T.getD j 1 = 0) → fresh S ≤ fresh T
  | [], [], _, _ => Nat.le_refl _
  | [], _ :: _, h, _ => by cases h
  | _ :: _, [], h, _ => by cases h
  | a :: S, b :: T, hl, h => by
    have ih : fresh S ≤ fresh T := fresh_mono (by simpa using hl) (fun j hj h0 => by
      have := h (j + 1) (by simpa using hj)
      simpa using this (by simpa using h0))
    have h0 := h 0 (by simp)
    unfold fresh at *
    rw [List.count_cons, List.count_cons]
    by_cases ha : a = 0
    · have hb : b = 0 := by simpa using h0 (by simpa using ha)
      simp [ha, hb]; exact ih
    · have : ¬ (a == 0) = true := by simpa using ha
      simp only [this]
      simp
      omega
theorem fresh_set : ∀ {S : List Int} {i : Nat}, i < S.length → S.getD i 1 = 0 → fresh (S.set i 1) + 1 ≤ fresh S
  | [], i, h, _ => absurd h (by simp)
  | a :: S, 0, _, h => by
    have ha : a = 0 := by simpa using h
    unfold fresh
    simp [ha]
  | a :: S, i + 1, hl, h => by
    have ih := fresh_set (S := S) (i := i) (by simpa using hl) (by simpa using h)
    unfold fresh at *
    rw [List.set_cons_succ, List.count_cons, List.count_cons]
    omega
def pre (xs : List Ty) (S : List Int) (i : Nat) : Prop := ∃ f, lays f xs i = true ∧ ∀ j, S.getD j 0 = 1 → lays f xs j = false
theorem pre_open {xs : List Ty} {S : List Int} {i : Nat} (h : S.getD i 0 = 1) : ¬ pre xs S i := by
  rintro ⟨f, h1, h2⟩
  have := h2 i h
  rw [h1] at this
  cases this
theorem pre_part {xs : List Ty} {S T : List Int} {i p : Nat} (hns : scal (xs.getD i Ty.zero).k = false) (hp : p < (xs.getD i Ty.zero).of.length)
    (hT : ∀ j, T.getD j 0 = 1 → S.getD j 0 = 1 ∨ j = i) (h : ¬ pre xs T (ofAt xs i p).toNat) : ¬ pre xs S i := by
  rintro ⟨f, h1, h2⟩
  obtain ⟨g, hg, h3, h4⟩ := lays_least f h1
  rw [lays_succ] at h3
  have h5 := h3.2.resolve_left (by rw [hns]; decide)
  refine h ⟨g, h5 p hp, fun j hj => ?_⟩
  rcases hT j hj with q | q
  · have := h2 j q
    rw [Bool.eq_false_iff] at this ⊢
    exact fun hc => this (lays_mono (by omega) hc)
  · rw [q]; exact h4
theorem good_close {xs : List Ty} {i : Nat} (hp : ∀ p, p < (xs.getD i Ty.zero).of.length → (xs.getD (ofAt xs i p).toNat Ty.zero).whole = true ∧ good xs (ofAt xs i p).toNat) (hw : (xs.getD i Ty.zero).thick → (xs.getD i Ty.zero).whole = true) : good xs i := by
  intro ht
  obtain ⟨f, hf⟩ := lays_all (xs := xs) (q := fun p => (ofAt xs i p).toNat) (xs.getD i Ty.zero).of.length (fun p hpl => by
    obtain ⟨h1, h2⟩ := hp p hpl
    cases hs : scal (xs.getD (ofAt xs i p).toNat Ty.zero).k
    · refine h2 ?_
      unfold Ty.whole at h1
      rw [hs, Bool.false_or, Bool.or_eq_true] at h1
      rcases h1 with h1 | h1
      · exact .inl (by simp at h1; exact h1.1)
      · exact .inr (by simpa using h1)
    · exact ⟨1, (lays_succ 0 _ _).2 ⟨h1, .inl hs⟩⟩)
  exact ⟨f + 1, (lays_succ f _ _).2 ⟨hw ht, .inr hf⟩⟩
end Go.Proofs.YtafcnijfoejboaaGreatDoor.Pl
namespace Go.Proofs.YtafcnijfoejboaaGreatDoor.Pl
def stOk (S : List Int) : Prop := ∀ j, S.getD j 0 = 0 ∨ S.getD j 0 = 1 ∨ S.getD j 0 = 2
def shut (xs : List Ty) (S : List Int) : Prop := ∀ j, S.getD j 0 = 2 → good xs j
structure Rl (xs : List Ty) (S T : List Int) : Prop where
  open_ : ∀ j, T.getD j 0 = 1 ↔ S.getD j 0 = 1
  fresh_ : ∀ j, T.getD j 0 = 0 → S.getD j 0 = 0
  two : ∀ j, S.getD j 0 = 2 → T.getD j 0 = 2
  ok : stOk T
  shut : shut xs T
  len : T.length = S.length
theorem Rl.refl {xs : List Ty} {S : List Int} (h1 : stOk S) (h2 : Pl.shut xs S) : Rl xs S S := ⟨fun _ => Iff.rfl, fun _ h => h, fun _ h => h, h1, h2, rfl⟩
theorem Rl.trans {xs : List Ty} {S T U : List Int} (h : Rl xs S T) (h' : Rl xs T U) : Rl xs S U := ⟨fun j => (h'.open_ j).trans (h.open_ j), fun j q => h.fresh_ j (h'.fresh_ j q), fun j q => h'.two j (h.two j q), h'.ok, h'.shut, h'.len.trans h.len⟩
theorem Rl.fresh {xs : List Ty} {S T : List Int} (h : Rl xs S T) : Pl.fresh T ≤ Pl.fresh S := by
  refine fresh_mono h.len (fun j hj q => ?_)
  have e : ∀ (L : List Int), j < L.length → L.getD j 1 = L.getD j 0 := fun L hL => by
    rw [List.getD_eq_getElem?_getD, List.getD_eq_getElem?_getD, List.getElem?_eq_getElem hL]; rfl
  rw [e _ hj] at q
  rw [e _ (by rw [← h.len]; exact hj)]
  exact h.fresh_ j q
theorem getD_set (S : List Int) (i j : Nat) (x : Int) (hi : i < S.length) : (S.set i x).getD j 0 = if j = i then x else S.getD j 0 := by
  rw [List.getD_eq_getElem?_getD, List.getD_eq_getElem?_getD, List.getElem?_set]
  by_cases e : i = j
  · subst e; simp [hi]
  · rw [if_neg e, if_neg (fun q => e q.symm)]
end Go.Proofs.YtafcnijfoejboaaGreatDoor.Pl
namespace Go.Proofs.YtafcnijfoejboaaGreatDoor.W
open Go.RowKit
def ints (S : List Int) : Array Value := (S.map fun x => Value.int .i64 x).toArray
theorem ints_get (S : List Int) (j : Nat) (h : j < S.length) : (ints S)[j]? = some (.int .i64 (S.getD j 0)) := by
  unfold ints
  rw [List.getElem?_toArray, List.getElem?_map, List.getElem?_eq_getElem h, List.getD_eq_getElem?_getD, List.getElem?_eq_getElem h]
  rfl
theorem ints_set (S : List Int) (j : Nat) (x : Int) : (ints S).setIfInBounds j (.int .i64 x) = ints (S.set j x) := by
  unfold ints
  rw [List.map_set]
  simp
structure Nst (g sb : Nat) (a : Option Addr) (len cap : Nat) (S : List Int) (u : World) : Prop where
  gc : u.heap[g]? = some (.cells #[.slice a len cap, .slice (some ⟨sb, 0, none⟩) len len] 57 (0, 0))
  sc : u.heap[sb]? = some (.cells (ints S) 3 (0, 0))
  sl : S.length = len
  ne : g ≠ sb
theorem Nst.keep {g sb : Nat} {a : Option Addr} {len cap : Nat} {S : List Int} {u u' : World} (h : Nst g sb a len cap S u) (hb : Below u.heap.size u u') : Nst g sb a len cap S u' :=
  ⟨(hb.block g (Array.getElem?_eq_some_iff.1 h.gc).1).trans h.gc, (hb.block sb (Array.getElem?_eq_some_iff.1 h.sc).1).trans h.sc, h.sl, h.ne⟩
theorem Nst.set {g sb : Nat} {a : Option Addr} {len cap : Nat} {S : List Int} {u : World} (h : Nst g sb a len cap S u) (i : Nat) (x : Int) : Nst g sb a len cap (S.set i x) (u.setCell ⟨sb, i, none⟩ (.int .i64 x)) := by
  refine ⟨?_, ?_, by rw [List.length_set]; exact h.sl, h.ne⟩
  · exact (Below.heap_setCell u ⟨sb, i, none⟩ _ g h.ne).trans h.gc
  · rw [setCell_eq_setRow u sb i _ _ _ _ h.sc, setRow_heap u sb _ _ _ _ h.sc, ints_set]
theorem Nst.cells {g sb : Nat} {a : Option Addr} {len cap : Nat} {S : List Int} {u : World} (h : Nst g sb a len cap S u) : u.cell? ⟨g, 0, none⟩ = some (.slice a len cap) ∧ u.cell? ⟨g, 1, none⟩ = some (.slice (some ⟨sb, 0, none⟩) len len) ∧ (∀ j, j < len → u.cell? ⟨sb, j, none⟩ = some (.int .i64 (S.getD j 0))) ∧ (∀ j, u.frozen? ⟨sb, j, none⟩ = false) :=
  ⟨by rw [cell_of_row u g 0 _ _ _ h.gc]; rfl, by rw [cell_of_row u g 1 _ _ _ h.gc]; rfl, fun j hj => by rw [cell_of_row u sb j _ _ _ h.sc]; exact ints_get S j (by rw [h.sl]; exact hj), fun j => frozen_of_row u sb j _ _ h.sc⟩
def EndSaid (P : Program) (w0 : World) (g sb : Nat) (a : Option Addr) (len cap : Nat) (xs : List Pl.Ty) (n : Nat) : Prop :=
  ∀ (S : List Int) (u : World) (i : Nat), i < len → Nst g sb a len cap S u → Below w0.heap.size w0 u → Pl.stOk S → Pl.shut xs S → Pl.fresh S ≤ n →
    Calls P 29 #[.pointer (some ⟨g, 0, none⟩), .int .i64 i] u fun e u' => ∃ (b : Bool), e = .returned (.bool b) ∧ ∃ T : List Int, Nst g sb a len cap T u' ∧ Below w0.heap.size w0 u' ∧ (b = false → Pl.Rl xs S T ∧ T.getD i 0 = 2) ∧ (b = true → ¬ Pl.pre xs S i ∧ (S.getD i 0 = 1 ∨ (xs.getD i Pl.Ty.zero).thick))
set_option maxHeartbeats 2000000 in
set_option maxRecDepth 8000 in
theorem indexFunc_end {w0 : World} {g sb : Nat} {a : Option Addr} {len cap : Nat} {xs : List Pl.Ty} {n : Nat} (HI : Hid (EndSaid Tryz.prog w0 g sb a len cap xs n)) {lo : Nat} (v : SV) (zs : List Int) (hz : ∀ p, p < zs.length → 0 ≤ zs.getD p 0 ∧ zs.getD p 0 < len)
    (S : List Int) (u : World) (hrow : Row .i64 lo w0 v.a v.len v.cap zs) (hN : Nst g sb a len cap S u) (hB : Below w0.heap.size w0 u) (hok : Pl.stOk S) (hsh : Pl.shut xs S) (hfr : Pl.fresh S ≤ n) :
    Calls Tryz.prog 70 #[.slice v.a v.len v.cap, .func (.func 29) #[.pointer (some ⟨g, 0, none⟩)] #[]] u fun e u' => ∃ (r : Int), e = .returned (.int .i64 r) ∧ ∃ T : List Int, Nst g sb a len cap T u' ∧ Below w0.heap.size w0 u' ∧ (r < 0 → Pl.Rl xs S T ∧ ∀ p, p < zs.length → T.getD (zs.getD p 0).toNat 0 = 2) ∧ (0 ≤ r → ∃ p, p < zs.length ∧ ∃ T, (∀ j, T.getD j 0 = 1 ↔ S.getD j 0 = 1) ∧ ¬ Pl.pre xs T (zs.getD p 0).toNat) := by
  have hvl : (v.len : Int) ≤ 9223372036854775807 := by have := hrow.small; omega
  have HR : Hid (Row .i64 lo w0 v.a v.len v.cap zs) := hrow
  have HZ : Hid (∀ p, p < zs.length → 0 ≤ zs.getD p 0 ∧ zs.getD p 0 < len) := hz
  have HL : Hid (zs.length = v.len) := hrow.1
  have HF : Hid (Pl.fresh S ≤ n) := hfr
  have H0 : Hid (Nst g sb a len cap S u ∧ Below w0.heap.size w0 u ∧ Pl.Rl xs S S) := ⟨hN, hB, .refl hok hsh⟩
  clear hrow hz hN hB hok hsh hfr
  obtain ⟨va, vl, vc⟩ := v
  simp only at HR HL hvl ⊢
  go_enter Tryz.func70, Tryz.ntmps70
  go_wp2_with fail
  go_loopw [8] (fun i wr => ∃ (k : Nat) (T : List Int), k ≤ vl ∧ i = .int .i64 k ∧ Hid (Nst g sb a len cap T wr ∧ Below w0.heap.size w0 wr ∧ Pl.Rl xs S T ∧ ∀ p, p < k → T.getD (zs.getD p 0).toNat 0 = 2)) (fun i _ => vl - (intOf i).toNat)
  case atStart => exact ⟨0, S, Nat.zero_le _, rfl, H0.out.1, H0.out.2.1, H0.out.2.2, fun p hp => absurd hp (Nat.not_lt_zero _)⟩
  case round =>
    obtain ⟨k, T, hk, rfl, HT⟩ := hrel
    by_cases hlt : k < vl
    · have hi : (k : Int) < (vl : Int) := by omega
      have hkz : k < zs.length := by rw [HL.out]; exact hlt
      obtain ⟨b2, o2, rfl, _, hb2, hcp⟩ := ((HR.out.keep HT.out.2.1).2.2.2.2).resolve_left (by omega)
      have hc := hcp k hlt
      obtain ⟨z, hzz⟩ : ∃ z, z = zs.getD k 0 := ⟨_, rfl⟩
      rw [← hzz] at hc
      have hz0 : 0 ≤ z ∧ z < len := by rw [hzz]; exact HZ.out k hkz
      obtain ⟨j, rfl⟩ : ∃ j : Nat, z = j := ⟨z.toNat, by omega⟩
      have HJ : Hid (zs.getD k 0 = (j : Int)) := hzz.symm
      clear hzz hcp
      have hjl : j < len := by omega
      clear hz0
      go_wp2_with fail
      refine (HI.out T _ j hjl HT.out.1 HT.out.2.1 HT.out.2.2.1.ok HT.out.2.2.1.shut (Nat.le_trans HT.out.2.2.1.fresh HF.out)).mono ?_
      rintro e u2 ⟨b, rfl, T2, hN2, hB2, hf2, ht2⟩
      have H2 : Hid (Nst g sb a len cap T2 u2 ∧ Below w0.heap.size w0 u2) := ⟨hN2, hB2⟩
      have HF2 : Hid (b = false → Pl.Rl xs T T2 ∧ T2.getD j 0 = 2) := hf2
      have HT2 : Hid (b = true → ¬ Pl.pre xs T j ∧ (T.getD j 0 = 1 ∨ (xs.getD j Pl.Ty.zero).thick)) := ht2
      clear hN2 hB2 hf2 ht2
      cases b
      · go_wp2_with fail
        go_roundw
        case rel =>
          refine ⟨k + 1, T2, by omega, by go_num, H2.out.1, H2.out.2, HT.out.2.2.1.trans (HF2.out (by trivial)).1, fun p hp => ?_⟩
          by_cases e : p = k
          · rw [e, HJ.out, Int.toNat_natCast]; exact (HF2.out (by trivial)).2
          · exact (HF2.out (by trivial)).1.two _ (HT.out.2.2.2 p (by omega))
        case measure => simp [intOf]; omega
      · go_wp2_with fail
        go_ret
        exact ⟨_, rfl, T2, H2.out.1, H2.out.2, fun h => absurd h (by omega), fun _ => ⟨k, hkz, T, HT.out.2.2.1.open_, by rw [HJ.out, Int.toNat_natCast]; exact (HT2.out (by trivial)).1⟩⟩
    · have hke : k = vl := by omega
      have hi : ¬ ((k : Int) < (vl : Int)) := by omega
      go_wp2_with fail
      go_ret
      exact ⟨_, rfl, T, HT.out.1, HT.out.2.1, fun _ => ⟨HT.out.2.2.1, fun p hp => HT.out.2.2.2 p (by rw [HL.out] at hp; omega)⟩, fun h => absurd h (by decide)⟩
set_option maxHeartbeats 2000000 in
theorem containsFunc_end {w0 : World} {g sb : Nat} {a : Option Addr} {len cap : Nat} {xs : List Pl.Ty} {n : Nat} (HI : Hid (EndSaid Tryz.prog w0 g sb a len cap xs n)) {lo : Nat} (v : SV) (zs : List Int) (hz : ∀ p, p < zs.length → 0 ≤ zs.getD p 0 ∧ zs.getD p 0 < len)
    (S : List Int) (u : World) (hrow : Row .i64 lo w0 v.a v.len v.cap zs) (hN : Nst g sb a len cap S u) (hB : Below w0.heap.size w0 u) (hok : Pl.stOk S) (hsh : Pl.shut xs S) (hfr : Pl.fresh S ≤ n) :
    Calls Tryz.prog 52 #[.slice v.a v.len v.cap, .func (.func 29) #[.pointer (some ⟨g, 0, none⟩)] #[]] u fun e u' => ∃ (b : Bool), e = .returned (.bool b) ∧ ∃ T : List Int, Nst g sb a len cap T u' ∧ Below w0.heap.size w0 u' ∧ (b = false → Pl.Rl xs S T ∧ ∀ p, p < zs.length → T.getD (zs.getD p 0).toNat 0 = 2) ∧ (b = true → ∃ p, p < zs.length ∧ ∃ T, (∀ j, T.getD j 0 = 1 ↔ S.getD j 0 = 1) ∧ ¬ Pl.pre xs T (zs.getD p 0).toNat) := by
  have HC : Hid _ := indexFunc_end HI v zs hz S u hrow hN hB hok hsh hfr
  clear hz hrow hN hB hok hsh hfr
  go_enter Tryz.func52, Tryz.ntmps52
  go_wp2_with fail
  refine Calls.mono HC.out ?_
  rintro e u2 ⟨r, rfl, T, h1, h2, h3, h4⟩
  have H1 : Hid (Nst g sb a len cap T u2 ∧ Below w0.heap.size w0 u2) := ⟨h1, h2⟩
  have H3 : Hid (r < 0 → Pl.Rl xs S T ∧ ∀ p, p < zs.length → T.getD (zs.getD p 0).toNat 0 = 2) := h3
  have H4 : Hid (0 ≤ r → ∃ p, p < zs.length ∧ ∃ T, (∀ j, T.getD j 0 = 1 ↔ S.getD j 0 = 1) ∧ ¬ Pl.pre xs T (zs.getD p 0).toNat) := h4
  clear h1 h2 h3 h4 HC
  go_wp2_with fail
  go_ret
  exact ⟨_, rfl, T, H1.out.1, H1.out.2, fun h => H3.out (by simpa using h), fun h => H4.out (by simpa using h)⟩
end Go.Proofs.YtafcnijfoejboaaGreatDoor.W
namespace Go.Proofs.YtafcnijfoejboaaGreatDoor.Pl
theorem fit_parts {xs : List Ty} {i : Nat} (h : fit xs i = true) (hk : (xs.getD i Ty.zero).k = 9 ∨ tagd (xs.getD i Ty.zero).k = true) : ∀ p, p < (xs.getD i Ty.zero).of.length → (0 ≤ ofAt xs i p ∧ ofAt xs i p < xs.length) ∧ (xs.getD (ofAt xs i p).toNat Ty.zero).whole = true := by
  intro p hp
  have h2 : fitPart xs i p = true := by
    unfold fit at h
    cases ht : tRule (xs.getD i Ty.zero).k with
    | none => rw [ht] at h; cases h
    | some r =>
      rw [ht] at h
      simp only [fitR, Bool.and_eq_true, decide_eq_true_eq] at h
      exact h.1.2 p hp
  unfold fitPart at h2
  simp only [Bool.and_eq_true] at h2
  obtain ⟨h3, h4⟩ := h2
  have h5 : 0 ≤ ofAt xs i p ∧ ofAt xs i p ≤ (xs.length : Int) - 1 := by simpa [within] using h3
  refine ⟨⟨h5.1, by omega⟩, ?_⟩
  unfold fitP at h4
  have hk2 : (xs.getD i Ty.zero).k = 9 ∨ (xs.getD i Ty.zero).k = 10 ∨ (xs.getD i Ty.zero).k = 11 := by
    rcases hk with h | h
    · exact .inl h
    · exact .inr (by simpa [tagd] using h)
  generalize (xs.getD i Ty.zero).k = kk at h4 hk2
  rw [if_neg (by omega)] at h4
  by_cases h9 : kk = 9
  · rw [if_pos h9] at h4
    simp only [Bool.and_eq_true] at h4
    exact h4.2
  · rw [if_neg h9, if_neg (by omega)] at h4
    exact h4
theorem fit_thick {xs : List Ty} {i : Nat} (h : fit xs i = true) (ht : (xs.getD i Ty.zero).thick) : (xs.getD i Ty.zero).whole = true := by
  unfold fit at h
  obtain ⟨x, hx⟩ : ∃ x, x = xs.getD i Ty.zero := ⟨_, rfl⟩
  rw [← hx] at h ht ⊢
  rcases ht with hk | ⟨h1, h2⟩
  · have hn : 0 < x.n := by
      rw [hk, show tRule 9 = some ⟨1, 60000, 1, 1, false⟩ from by simp [tRule]] at h
      simp only [fitR, within, Bool.and_eq_true, decide_eq_true_eq] at h
      have h3 := h.1.1.1
      omega
    simp [Ty.whole, hk, hn]
  · simp [Ty.whole, h1, h2]
end Go.Proofs.YtafcnijfoejboaaGreatDoor.Pl
namespace Go.Proofs.YtafcnijfoejboaaGreatDoor.W
open Go.RowKit
set_option maxHeartbeats 2000000 in
set_option maxRecDepth 8000 in
theorem endless_seen {w0 : World} {g sb : Nat} {a : Option Addr} {len cap : Nat} {xs : List Pl.Ty} (hm : (len : Int) ≤ 9223372036854775807) (S : List Int) (u : World) (i : Nat) (hi : i < len) (hN : Nst g sb a len cap S u) (hB : Below w0.heap.size w0 u) (hok : Pl.stOk S) (hsh : Pl.shut xs S) (h0 : S.getD i 0 ≠ 0) :
    Calls Tryz.prog 29 #[.pointer (some ⟨g, 0, none⟩), .int .i64 i] u fun e u' => ∃ (b : Bool), e = .returned (.bool b) ∧ ∃ T : List Int, Nst g sb a len cap T u' ∧ Below w0.heap.size w0 u' ∧ (b = false → Pl.Rl xs S T ∧ T.getD i 0 = 2) ∧ (b = true → ¬ Pl.pre xs S i ∧ (S.getD i 0 = 1 ∨ (xs.getD i Pl.Ty.zero).thick)) := by
  obtain ⟨c0, c1, cs, fz⟩ := hN.cells
  have ci := cs i hi
  have H : Hid (Nst g sb a len cap S u ∧ Below w0.heap.size w0 u ∧ Pl.stOk S ∧ Pl.shut xs S) := ⟨hN, hB, hok, hsh⟩
  have hii : (i : Int) < (len : Int) := by omega
  have h12 := hok i
  clear cs fz hN hB hok hsh c0
  rcases h12 with q | q | q
  · exact absurd q h0
  · have HQ : Hid (S.getD i 0 = 1) := q
    rw [q] at ci
    clear q h0
    go_enter Tryz.func29, Tryz.ntmps29
    go_wp2_with fail
    go_ret
    exact ⟨true, rfl, S, H.out.1, H.out.2.1, fun h => (by cases h), fun _ => ⟨Pl.pre_open HQ.out, .inl HQ.out⟩⟩
  · have HQ : Hid (S.getD i 0 = 2) := q
    rw [q] at ci
    clear q h0
    go_enter Tryz.func29, Tryz.ntmps29
    go_wp2_with fail
    go_ret
    exact ⟨false, rfl, S, H.out.1, H.out.2.1, fun _ => ⟨.refl H.out.2.2.1 H.out.2.2.2, HQ.out⟩, fun h => (by cases h)⟩
end Go.Proofs.YtafcnijfoejboaaGreatDoor.W
namespace Go.Proofs.YtafcnijfoejboaaGreatDoor.Pl
theorem Rl.close {xs : List Ty} {S T : List Int} {i : Nat} (hi : i < S.length) (h0 : S.getD i 0 = 0) (h : Rl xs (S.set i 1) T) (hok : stOk S) (hg : good xs i) : Rl xs S (T.set i 2) ∧ (T.set i 2).getD i 0 = 2 := by
  have hiT : i < T.length := by rw [h.len, List.length_set]; exact hi
  have e : ∀ j, j ≠ i → (T.getD j 0 = 1 ↔ S.getD j 0 = 1) := fun j hj => by
    have := h.open_ j
    rw [getD_set S i j 1 hi, if_neg hj] at this
    exact this
  have d : ∀ j, j ≠ i → (T.getD j 0 = 0 → S.getD j 0 = 0) := fun j hj => by
    have := h.fresh_ j
    rw [getD_set S i j 1 hi, if_neg hj] at this
    exact this
  have t : ∀ j, j ≠ i → (S.getD j 0 = 2 → T.getD j 0 = 2) := fun j hj => by
    have := h.two j
    rw [getD_set S i j 1 hi, if_neg hj] at this
    exact this
  refine ⟨⟨fun j => ?_, fun j => ?_, fun j => ?_, fun j => ?_, fun j => ?_, ?_⟩, ?_⟩
  · rw [getD_set T i j 2 hiT]
    by_cases q : j = i
    · rw [if_pos q, q, h0]; decide
    · rw [if_neg q]; exact e j q
  · rw [getD_set T i j 2 hiT]
    by_cases q : j = i
    · rw [if_pos q]; intro hc; cases hc
    · rw [if_neg q]; exact d j q
  · rw [getD_set T i j 2 hiT]
    by_cases q : j = i
    · rw [if_pos q]; intro _; rfl
    · rw [if_neg q]; exact t j q
  · rw [getD_set T i j 2 hiT]
    by_cases q : j = i
    · rw [if_pos q]; exact .inr (.inr rfl)
    · rw [if_neg q]; exact h.ok j
  · rw [getD_set T i j 2 hiT]
    by_cases q : j = i
    · rw [q]; intro _; exact hg
    · rw [if_neg q]; exact h.shut j
  · rw [List.length_set, h.len, List.length_set]
  · rw [getD_set T i i 2 hiT, if_pos rfl]
theorem stOk_set {S : List Int} {i : Nat} {x : Int} (h : stOk S) (hi : i < S.length) (hx : x = 1 ∨ x = 2) : stOk (S.set i x) := fun j => by
  rw [getD_set S i j x hi]
  by_cases q : j = i
  · rw [if_pos q]; exact .inr hx
  · rw [if_neg q]; exact h j
theorem shut_open {xs : List Ty} {S : List Int} {i : Nat} (h : shut xs S) (hi : i < S.length) : shut xs (S.set i 1) := fun j => by
  rw [getD_set S i j 1 hi]
  by_cases q : j = i
  · rw [if_pos q]; intro hc; cases hc
  · rw [if_neg q]; exact h j
end Go.Proofs.YtafcnijfoejboaaGreatDoor.Pl
namespace Go.Proofs.YtafcnijfoejboaaGreatDoor.W
open Go.RowKit
set_option maxHeartbeats 4000000 in
set_option maxRecDepth 8000 in
theorem endless_new {w0 : World} {i g sb : Nat} {a : Option Addr} {len cap : Nat} {xs : List Pl.Ty} {n lo : Nat} (HI : Hid (EndSaid Tryz.prog w0 g sb a len cap xs n)) (hT : TRow lo w0 a len cap xs) (hfit : Pl.fit xs i = true) (hsb : w0.heap.size ≤ sb)
    (S : List Int) (u : World) (hi : i < len) (hN : Nst g sb a len cap S u) (hB : Below w0.heap.size w0 u) (hok : Pl.stOk S) (hsh : Pl.shut xs S) (h0 : S.getD i 0 = 0) (hfr : Pl.fresh (S.set i 1) ≤ n) :
    Calls Tryz.prog 29 #[.pointer (some ⟨g, 0, none⟩), .int .i64 i] u fun e u' => ∃ (b : Bool), e = .returned (.bool b) ∧ ∃ T : List Int, Nst g sb a len cap T u' ∧ Below w0.heap.size w0 u' ∧ (b = false → Pl.Rl xs S T ∧ T.getD i 0 = 2) ∧ (b = true → ¬ Pl.pre xs S i ∧ (S.getD i 0 = 1 ∨ (xs.getD i Pl.Ty.zero).thick)) := by
  have hm : (len : Int) ≤ 9223372036854775807 := by have := hT.small; omega
  obtain ⟨c0, c1, cs, fz⟩ := hN.cells
  have ci := cs i hi
  rw [h0] at ci
  have fi := fz i
  have hii : (i : Int) < (len : Int) := by omega
  have hiS : i < S.length := by rw [hN.sl]; exact hi
  obtain ⟨U1, hU1⟩ : ∃ U1, u.setCell ⟨sb, i, none⟩ (.int .i64 1) = U1 := ⟨_, rfl⟩
  have hN1 : Nst g sb a len cap (S.set i 1) U1 := by rw [← hU1]; exact hN.set i 1
  have hB1 : Below w0.heap.size w0 U1 := by rw [← hU1]; exact hB.setCell hsb _
  obtain ⟨d0, d1, ds, df⟩ := hN1.cells
  have dsi := ds i hi
  rw [Pl.getD_set S i i 1 hiS, if_pos rfl] at dsi
  have dfi := df i
  obtain ⟨b, off, v, s, rfl, hlo, hb1, hc, hrow, hs⟩ := (hT.keep hB1).at hi
  have hrow0 : Row .i64 lo w0 v.a v.len v.cap (xs.getD i Pl.Ty.zero).of := by
    obtain ⟨b', off', v', s', e, _, hb', hc', hr', _⟩ := hT.at hi
    injection e with e
    injection e with e1 e2 _
    subst e1
    subst e2
    have k2 := (ty_cells hc).2.2.1
    have k2' := (ty_cells hc').2.2.1
    rw [hB1.cell (p := ⟨b, off + i * 4 + 2, none⟩) hb', k2'] at k2
    injection k2 with k2
    injection k2 with k3 k4 k5
    rw [← k3, ← k4, ← k5]
    exact hr'
  obtain ⟨x, hx⟩ : ∃ x, x = xs.getD i Pl.Ty.zero := ⟨_, rfl⟩
  have hpt : (x.k = 9 ∨ Pl.tagd x.k = true) → ∀ p, p < x.of.length → (0 ≤ Pl.ofAt xs i p ∧ Pl.ofAt xs i p < xs.length) ∧ (xs.getD (Pl.ofAt xs i p).toNat Pl.Ty.zero).whole = true := by rw [hx]; exact Pl.fit_parts hfit
  have hth : x.thick → x.whole = true := by rw [hx]; exact Pl.fit_thick hfit
  have hxl : xs.length = len := hT.1
  rw [← hx] at hc hrow hs hrow0
  obtain ⟨kk, nn, zs, nms⟩ := x
  obtain ⟨e0, e1, e2, e3⟩ := ty_cells hc
  change U1.cell? _ = some (.int .i64 kk) at e0
  change U1.cell? _ = some (.int .i64 nn) at e1
  have HX : Hid (Pl.Ty.mk kk nn zs nms = xs.getD i Pl.Ty.zero) := hx
  have H0 : Hid (S.getD i 0 = 0) := h0
  have HP : Hid ((kk = 9 ∨ Pl.tagd kk = true) → ∀ p, p < zs.length → (0 ≤ zs.getD p 0 ∧ zs.getD p 0 < len) ∧ (xs.getD (zs.getD p 0).toNat Pl.Ty.zero).whole = true) := fun hk p hp => by
    have := hpt hk p hp
    unfold Pl.ofAt at this
    rw [← hx, hxl] at this
    exact this
  have HTH : Hid ((Pl.Ty.mk kk nn zs nms).thick → (Pl.Ty.mk kk nn zs nms).whole = true) := hth
  have HN1 : Hid (Nst g sb (some ⟨b, off, none⟩) len cap (S.set i 1) U1 ∧ Below w0.heap.size w0 U1 ∧ Pl.stOk (S.set i 1) ∧ Pl.shut xs (S.set i 1) ∧ Pl.fresh (S.set i 1) ≤ n) := ⟨hN1, hB1, Pl.stOk_set hok hiS (.inl rfl), Pl.shut_open hsh hiS, hfr⟩
  have HOK : Hid (Pl.stOk S) := hok
  have HRW : Hid (Row .i64 lo w0 v.a v.len v.cap zs) := hrow0
  have hvl : (v.len : Int) ≤ 9223372036854775807 := by have := hrow.small; omega
  have hb1' : b < U1.heap.size := Nat.lt_of_lt_of_le hb1 (Nat.le_refl _)
  have hgl : g < U1.heap.size := (Array.getElem?_eq_some_iff.1 hN1.gc).1
  have hsl : sb < U1.heap.size := (Array.getElem?_eq_some_iff.1 hN1.sc).1
  clear hN hB hok hsh h0 hN1 hB1 hx hc hrow hs hrow0 hpt hth cs fz ds df hfr
  by_cases k9 : kk = 9
  · have HK : Hid (kk = 9 ∨ Pl.tagd kk = true) := .inl k9
    have HSC : Hid (Pl.scal kk = false) := by rw [k9]; show Pl.scal 9 = false; decide
    subst k9
    · go_enter Tryz.func29, Tryz.ntmps29
      go_wp2_with fail
      refine ty_at fun U2 hU2 => ?_
      have b2 : Below U1.heap.size U1 U2 := by rw [hU2]; exact below_alloc _ _
      have hz : ∀ p, p < zs.length → 0 ≤ zs.getD p 0 ∧ zs.getD p 0 < len := fun p hp => (HP.out HK.out p hp).1
      refine (containsFunc_end HI v zs hz (S.set i 1) U2 HRW.out (HN1.out.1.keep b2) (HN1.out.2.1.trans (b2.mono HN1.out.2.1.size)) HN1.out.2.2.1 HN1.out.2.2.2.1 HN1.out.2.2.2.2).mono ?_
      rintro e u3 ⟨r, rfl, T, hN3, hB3, hf3, ht3⟩
      have H3 : Hid (Nst g sb (some ⟨b, off, none⟩) len cap T u3 ∧ Below w0.heap.size w0 u3) := ⟨hN3, hB3⟩
      have HF3 : Hid (r = false → Pl.Rl xs (S.set i 1) T ∧ ∀ p, p < zs.length → T.getD (zs.getD p 0).toNat 0 = 2) := hf3
      have HT3 : Hid (r = true → ∃ p, p < zs.length ∧ ∃ T, (∀ j, T.getD j 0 = 1 ↔ (S.set i 1).getD j 0 = 1) ∧ ¬ Pl.pre xs T (zs.getD p 0).toNat) := ht3
      obtain ⟨f0, f1, fs, ff⟩ := hN3.cells
      have fsi := fs i hi
      have ffi := ff i
      clear hN3 hB3 hf3 ht3 fs ff hz b2 hU2 c0 c1 ci fi d0 d1 dsi dfi e0 e1 e2 e3 hU1
      cases r
      · go_wp2_with fail
        go_ret
        have hR := HF3.out (by trivial)
        refine ⟨false, rfl, T.set i 2, H3.out.1.set i 2, H3.out.2.setCell hsb _, fun _ => ?_, fun h => (by cases h)⟩
        refine hR.1.close hiS H0.out HOK.out (Pl.good_close (fun p hp => ?_) (by rw [← HX.out]; exact HTH.out))
        have hp' : p < zs.length := by rw [← HX.out] at hp; exact hp
        have e : Pl.ofAt xs i p = zs.getD p 0 := by unfold Pl.ofAt; rw [← HX.out]
        rw [e]
        exact ⟨(HP.out HK.out p hp').2, hR.1.shut _ (hR.2 p hp')⟩
      · go_wp2_with fail
        go_ret
        obtain ⟨p, hp, T', hT', hpre⟩ := HT3.out (by trivial)
        refine ⟨true, rfl, T, H3.out.1, H3.out.2, fun h => (by cases h), fun _ => ⟨Pl.pre_part (T := T') (p := p) (by rw [← HX.out]; exact HSC.out) (by rw [← HX.out]; exact hp) (fun j hj => ?_) (by have e : Pl.ofAt xs i p = zs.getD p 0 := (by unfold Pl.ofAt; rw [← HX.out]); rw [e]; exact hpre), .inr ?_⟩⟩
        · have q := (hT' j).1 hj
          rw [Pl.getD_set S i j 1 hiS] at q
          by_cases e : j = i
          · exact .inr e
          · rw [if_neg e] at q; exact .inl q
        · rw [← HX.out]
          rcases HK.out with q | q
          · exact .inl (by first | exact q | rfl)
          · exact .inr ⟨by first | exact q | rfl | decide, Nat.lt_of_le_of_lt (Nat.zero_le _) hp⟩
  · cases ht : Pl.tagd kk
    · have HNT : Hid (¬ (Pl.Ty.mk kk nn zs nms).thick) := fun h => by
        rcases h with q | q
        · exact k9 q
        · rw [ht] at q; cases q.1
      have kc0 : ∀ o, (U1.alloc o).cell? ⟨g, 1, none⟩ = some (.slice (some ⟨sb, 0, none⟩) len len) := fun o => ((below_alloc U1 o).cell (p := ⟨g, 1, none⟩) hgl).trans d1
      have kc1 : ∀ o, (U1.alloc o).cell? ⟨sb, i, none⟩ = some (.int .i64 1) := fun o => ((below_alloc U1 o).cell (p := ⟨sb, i, none⟩) hsl).trans dsi
      have kf : ∀ o, (U1.alloc o).frozen? ⟨sb, i, none⟩ = false := fun o => ((below_alloc U1 o).frozen (p := ⟨sb, i, none⟩) hsl).trans dfi
      go_enter Tryz.func29, Tryz.ntmps29
      go_wp2_with (go_at_call 51; refine (isRecord_any _ _).mono ?_; rintro e uu ⟨rfl, ek⟩; rw [ek]; clear ek; rw [ht])
      go_ret
      refine ⟨false, rfl, (S.set i 1).set i 2, (HN1.out.1.set i 2).keep (below_alloc _ _), (HN1.out.2.1.setCell (p := ⟨sb, i, none⟩) hsb _).trans ((below_alloc _ _).mono (HN1.out.2.1.setCell (p := ⟨sb, i, none⟩) hsb _).size), fun _ => ?_, fun h => (by cases h)⟩
      exact (Pl.Rl.refl HN1.out.2.2.1 HN1.out.2.2.2.1).close hiS H0.out HOK.out (fun h => absurd (by rw [HX.out]; exact h) HNT.out)
    · have HK : Hid (kk = 9 ∨ Pl.tagd kk = true) := .inr ht
      have HSC : Hid (Pl.scal kk = false) := by
        have q : kk = 10 ∨ kk = 11 := by simpa [Pl.tagd] using ht
        show Pl.scal kk = false
        rcases q with q | q <;> rw [q] <;> decide
      go_enter Tryz.func29, Tryz.ntmps29
      go_wp2_with (go_at_call 51; refine (isRecord_any _ _).mono ?_; rintro e uu ⟨rfl, ek⟩; rw [ek]; clear ek; rw [ht])
      refine ty_at fun U2 hU2 => ?_
      have b2 : Below U1.heap.size U1 U2 := by rw [hU2]; exact below_alloc _ _
      have hz : ∀ p, p < zs.length → 0 ≤ zs.getD p 0 ∧ zs.getD p 0 < len := fun p hp => (HP.out HK.out p hp).1
      refine (containsFunc_end HI v zs hz (S.set i 1) U2 HRW.out (HN1.out.1.keep b2) (HN1.out.2.1.trans (b2.mono HN1.out.2.1.size)) HN1.out.2.2.1 HN1.out.2.2.2.1 HN1.out.2.2.2.2).mono ?_
      rintro e u3 ⟨r, rfl, T, hN3, hB3, hf3, ht3⟩
      have H3 : Hid (Nst g sb (some ⟨b, off, none⟩) len cap T u3 ∧ Below w0.heap.size w0 u3) := ⟨hN3, hB3⟩
      have HF3 : Hid (r = false → Pl.Rl xs (S.set i 1) T ∧ ∀ p, p < zs.length → T.getD (zs.getD p 0).toNat 0 = 2) := hf3
      have HT3 : Hid (r = true → ∃ p, p < zs.length ∧ ∃ T, (∀ j, T.getD j 0 = 1 ↔ (S.set i 1).getD j 0 = 1) ∧ ¬ Pl.pre xs T (zs.getD p 0).toNat) := ht3
      obtain ⟨f0, f1, fs, ff⟩ := hN3.cells
      have fsi := fs i hi
      have ffi := ff i
      clear hN3 hB3 hf3 ht3 fs ff hz b2 hU2 c0 c1 ci fi d0 d1 dsi dfi e0 e1 e2 e3 hU1
      cases r
      · go_wp2_with fail
        go_ret
        have hR := HF3.out (by trivial)
        refine ⟨false, rfl, T.set i 2, H3.out.1.set i 2, H3.out.2.setCell hsb _, fun _ => ?_, fun h => (by cases h)⟩
        refine hR.1.close hiS H0.out HOK.out (Pl.good_close (fun p hp => ?_) (by rw [← HX.out]; exact HTH.out))
        have hp' : p < zs.length := by rw [← HX.out] at hp; exact hp
        have e : Pl.ofAt xs i p = zs.getD p 0 := by unfold Pl.ofAt; rw [← HX.out]
        rw [e]
        exact ⟨(HP.out HK.out p hp').2, hR.1.shut _ (hR.2 p hp')⟩
      · go_wp2_with fail
        go_ret
        obtain ⟨p, hp, T', hT', hpre⟩ := HT3.out (by trivial)
        refine ⟨true, rfl, T, H3.out.1, H3.out.2, fun h => (by cases h), fun _ => ⟨Pl.pre_part (T := T') (p := p) (by rw [← HX.out]; exact HSC.out) (by rw [← HX.out]; exact hp) (fun j hj => ?_) (by have e : Pl.ofAt xs i p = zs.getD p 0 := (by unfold Pl.ofAt; rw [← HX.out]); rw [e]; exact hpre), .inr ?_⟩⟩
        · have q := (hT' j).1 hj
          rw [Pl.getD_set S i j 1 hiS] at q
          by_cases e : j = i
          · exact .inr e
          · rw [if_neg e] at q; exact .inl q
        · rw [← HX.out]
          rcases HK.out with q | q
          · exact .inl (by first | exact q | rfl)
          · exact .inr ⟨by first | exact q | rfl | decide, Nat.lt_of_le_of_lt (Nat.zero_le _) hp⟩
theorem endSaid {w0 : World} {g sb : Nat} {a : Option Addr} {len cap : Nat} {xs : List Pl.Ty} {lo : Nat} (hT : TRow lo w0 a len cap xs) (hfit : ∀ i, i < len → Pl.fit xs i = true) (hsb : w0.heap.size ≤ sb) : ∀ n, EndSaid Tryz.prog w0 g sb a len cap xs n := by
  intro n
  induction n with
  | zero =>
    intro S u i hi hN hB hok hsh hfr
    by_cases h0 : S.getD i 0 = 0
    · have hiS : i < S.length := by rw [hN.sl]; exact hi
      have := Pl.fresh_set (S := S) (i := i) hiS (by rw [List.getD_eq_getElem?_getD, List.getElem?_eq_getElem hiS] at h0 ⊢; exact h0)
      omega
    · exact endless_seen (by have := hT.small; omega) S u i hi hN hB hok hsh h0
  | succ n ih =>
    intro S u i hi hN hB hok hsh hfr
    by_cases h0 : S.getD i 0 = 0
    · have hiS : i < S.length := by rw [hN.sl]; exact hi
      have := Pl.fresh_set (S := S) (i := i) hiS (by rw [List.getD_eq_getElem?_getD, List.getElem?_eq_getElem hiS] at h0 ⊢; exact h0)
      exact endless_new ih hT (hfit i hi) hsb S u hi hN hB hok hsh h0 (by omega)
    · exact endless_seen (by have := hT.small; omega) S u i hi hN hB hok hsh h0
end Go.Proofs.YtafcnijfoejboaaGreatDoor.W
