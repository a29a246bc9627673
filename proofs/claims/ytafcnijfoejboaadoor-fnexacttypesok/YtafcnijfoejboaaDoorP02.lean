import Derived.Test.YtafcnijfoejboaaDoorP01
import Derived.Deep.Cut
import Derived.Deep.DeepCutAuto
import Derived.Deep.CutRange
import Derived.Laws.MakeOwn
import Derived.Laws.OwnMore
import Derived.Deep.RegionWith
set_option linter.unusedVariables false
set_option linter.unusedSimpArgs false
namespace Go.Proofs.YtafcnijfoejboaaDoor.W
open Go.RowKit
def SRow (lo : Nat) (w : World) (a : Option Addr) (len cap : Nat) (ss : List ByteArray) : Prop :=
  (ss.length = len ∧ ∀ x ∈ ss, x.size ≤ maxLen) ∧ len ≤ cap ∧ cap ≤ maxLen ∧ (len = 0 ∨ ∃ b off, a = some ⟨b, off, none⟩ ∧ lo ≤ b ∧ b < w.heap.size ∧ ∀ i, i < len → w.cell? ⟨b, off + i, none⟩ = some (.string (ss.getD i ⟨#[]⟩)))
theorem SRow.keep {lo : Nat} {w w' : World} {a : Option Addr} {len cap : Nat} {ss : List ByteArray} (h : SRow lo w a len cap ss) (hb : Below w.heap.size w w') : SRow lo w' a len cap ss := by
  obtain ⟨h1, h2, h3, h4⟩ := h
  refine ⟨h1, h2, h3, ?_⟩
  rcases h4 with h4 | ⟨b, off, ha, hlo, hlt, hc⟩
  · exact .inl h4
  · exact .inr ⟨b, off, ha, hlo, Nat.lt_of_lt_of_le hlt hb.size, fun i hi => (hb.cell (p := ⟨b, off + i, none⟩) hlt).trans (hc i hi)⟩
theorem SRow.at {lo : Nat} {w : World} {a : Option Addr} {len cap : Nat} {ss : List ByteArray} (h : SRow lo w a len cap ss) {k : Nat} (hk : k < len) :
    ∃ (b off : Nat), a = some ⟨b, off, none⟩ ∧ lo ≤ b ∧ b < w.heap.size ∧ w.cell? ⟨b, off + k, none⟩ = some (.string (ss.getD k ⟨#[]⟩)) ∧ (ss.getD k ⟨#[]⟩).size ≤ maxLen := by
  obtain ⟨h1, h2, h3, h4⟩ := h
  rcases h4 with h4 | ⟨b, off, ha, hlo, hlt, hc⟩
  · omega
  · refine ⟨b, off, ha, hlo, hlt, hc k hk, ?_⟩
    rw [List.getD_eq_getElem?_getD, List.getElem?_eq_getElem (by rw [h1.1]; exact hk)]
    exact h1.2 _ (List.getElem_mem _)
theorem SRow.small {lo : Nat} {w : World} {a : Option Addr} {len cap : Nat} {ss : List ByteArray} (h : SRow lo w a len cap ss) : len ≤ 9223372036854775807 := by
  have := h.2.1; have h3 := h.2.2.1; unfold maxLen at h3; omega
set_option maxHeartbeats 2000000 in
theorem szStringS_any {lo : Nat} (a : Option Addr) (len cap : Nat) (ss : List ByteArray) (left : Int) (hleft : 0 ≤ left ∧ left ≤ 1048576) (w : World) (h : SRow lo w a len cap ss) : Calls Tryd.prog 18 #[.slice a len cap, .int .i64 left] w fun e w' => ∃ r : Int, e = .returned (.int .i64 r) ∧ (0 ≤ r → r ≤ left ∧ len ≤ 1048576 ∧ ∀ i, i < len → (ss.getD i ⟨#[]⟩).size ≤ 1048576) ∧ Below w.heap.size w w' := by
  have hm : (len : Int) ≤ 9223372036854775807 := by have := h.small; omega
  by_cases hb : left < (len : Int)
  · go_enter Tryd.func18, Tryd.ntmps18
    go_wp2
    go_ret
    exact ⟨-1, rfl, fun q => absurd q (by decide), Below.refl _ _⟩
  have HR : Hid (SRow lo w a len cap ss) := h
  clear h
  go_enter Tryd.func18, Tryd.ntmps18
  go_wp2_with fail
  go_loopw [1, 5] (fun v i wr => ∃ (k : Nat) (r : Int), k ≤ len ∧ i = .int .i64 k ∧ v = .int .i64 r ∧ 0 ≤ r ∧ r ≤ left ∧ (∀ i, i < k → (ss.getD i ⟨#[]⟩).size ≤ 1048576) ∧ Below w.heap.size w wr) (fun _ i _ => len - (intOf i).toNat)
  case atStart => exact ⟨0, left - len, Nat.zero_le _, rfl, rfl, by omega, by omega, fun i hi => absurd hi (Nat.not_lt_zero _), Below.refl _ _⟩
  case round =>
    obtain ⟨k, r, hk, rfl, rfl, hr0, hr1, hall, hbel⟩ := hrel
    have HA : Hid (∀ i, i < k → (ss.getD i ⟨#[]⟩).size ≤ 1048576) := hall
    have HB : Hid (Below w.heap.size w wr) := hbel
    clear hbel hall
    by_cases hlt : k < len
    · have hi : (k : Int) < (len : Int) := by omega
      obtain ⟨b, off, rfl, hlo, hb1, hc, hs⟩ := (HR.out.keep HB.out).at hlt
      obtain ⟨x, hx⟩ : ∃ x, x = ss.getD k ⟨#[]⟩ := ⟨_, rfl⟩
      rw [← hx] at hc hs
      have hs' : (x.size : Int) ≤ 9223372036854775807 := by unfold maxLen at hs; omega
      have HX : Hid (x = ss.getD k ⟨#[]⟩) := hx
      clear hx hs
      by_cases hbig : r < (x.size : Int)
      · go_wp2_with fail
        go_ret
        exact ⟨_, rfl, fun q => absurd q (by decide), HB.out⟩
      · go_wp2_with fail
        go_roundw
        case rel => exact ⟨k + 1, r - x.size, by omega, by go_num, congrArg (Value.int .i64) (by first | rfl | (rw [IntKind.wrap_i64]; omega)), by omega, by omega, fun i hi => by
          by_cases e : i = k
          · rw [e, ← HX.out]; omega
          · exact HA.out i (by omega), HB.out⟩
        case measure => simp [intOf]; omega
    · have hkk : k = len := by omega
      have hi : ¬ ((k : Int) < (len : Int)) := by omega
      go_wp2
      go_ret
      exact ⟨_, rfl, fun _ => ⟨by omega, by omega, fun i hi => HA.out i (by omega)⟩, HB.out⟩
set_option maxHeartbeats 2000000 in
theorem eqStringS_same {lo1 lo2 : Nat} (a1 a2 : Option Addr) (l1 c1 l2 c2 : Nat) (ss : List ByteArray) (w : World) (h1 : SRow lo1 w a1 l1 c1 ss) (h2 : SRow lo2 w a2 l2 c2 ss) :
    Calls Tryd.prog 33 #[.slice a1 l1 c1, .slice a2 l2 c2] w fun e w' => e = .returned (.bool true) ∧ Below w.heap.size w w' := by
  have hs1 := h1.small
  have e12 : l1 = l2 := h1.1.1.symm.trans h2.1.1
  subst e12
  have H1 : Hid (SRow lo1 w a1 l1 c1 ss) := h1
  have H2 : Hid (SRow lo2 w a2 l1 c2 ss) := h2
  clear h1 h2
  go_enter Tryd.func33, Tryd.ntmps33
  go_wp2
  go_loopw [5] (fun i wr => ∃ k : Nat, k ≤ l1 ∧ i = .int .i64 k ∧ Below w.heap.size w wr) (fun i _ => l1 - (intOf i).toNat)
  case atStart => exact ⟨0, Nat.zero_le _, rfl, Below.refl _ _⟩
  case round =>
    obtain ⟨k, hk, rfl, hb⟩ := hrel
    have HB : Hid (Below w.heap.size w wr) := hb
    clear hb
    by_cases hlt : k < l1
    · obtain ⟨b1, o1, rfl, _, _, hc1, _⟩ := (H1.out.keep HB.out).at hlt
      obtain ⟨b2, o2, rfl, _, _, hc2, _⟩ := (H2.out.keep HB.out).at hlt
      generalize ss.getD k ⟨#[]⟩ = x at hc1 hc2
      have hi : (k : Int) < (l1 : Int) := by omega
      go_wp2_with fail
      go_region
      go_wp2_with fail
      go_roundw
      case rel => exact ⟨k + 1, by omega, by go_num, by first | exact HB.out | exact HB.out.drew⟩
      case measure => simp [intOf]; omega
    · have hke : k = l1 := by omega
      subst hke
      go_wp2
      go_ret
      exact ⟨rfl, HB.out⟩
end Go.Proofs.YtafcnijfoejboaaDoor.W
namespace Go.Proofs.YtafcnijfoejboaaDoor.W
open Go.RowKit
theorem Tryd.infostr : (Tryd.prog.info? 9).map (fun i => (i.zero, i.size, i.bytes)) = some (some (.string ⟨#[]⟩), 1, 16) := by kernel_rfl
theorem made_str (n k : Nat) (h : k < n) : (madeCells #[Value.string ⟨#[]⟩] n)[k]? = some (.string ⟨#[]⟩) := by
  unfold madeCells
  rw [Array.getElem?_map, Array.getElem?_range]
  simp [h, Nat.mod_one]
set_option maxHeartbeats 2000000 in
theorem toStringS_any {lo : Nat} (a : Option Addr) (len cap : Nat) (ss : List ByteArray) (w : World) (h : SRow lo w a len cap ss) (hsz : len ≤ 1048576) :
    Calls Tryd.prog 25 #[.slice a len cap] w fun e w' => e = .returned (.slice (some ⟨w.heap.size, 0, none⟩) len len) ∧ SRow w.heap.size w' (some ⟨w.heap.size, 0, none⟩) len len ss ∧ Below w.heap.size w w' := by
  obtain ⟨i0, hi0, hz0, hz1, hz2⟩ := info_parts Tryd.infostr
  have hm : ∀ u : World, (Instr.makeSlice 31 (.int .i64 (len : Int)) (.int .i64 (len : Int))).run Tryd.prog u = .ok (.slice (some ⟨u.heap.size, 0, none⟩) len len) (u.alloc (.cells (madeCells #[.string ⟨#[]⟩] len) 9)) := fun u => by
    have := run_makeSlice u 31 9 i0 _ Tryd.underlying31 hi0 hz0 .i64 .i64 (len : Int) (len : Int) (by omega) (by omega) (by rw [hz1]; omega) (by rw [hz2]; omega) (by omega)
    rw [hz1, Nat.mul_one] at this
    exact this
  have H : Hid (SRow lo w a len cap ss) := h
  clear h hi0 hz0 hz1 hz2
  go_enter Tryd.func25, Tryd.ntmps25
  go_wp2_with fail
  go_loopw [4] (fun i wr => ∃ k : Nat, k ≤ len ∧ i = .int .i64 k ∧ (∀ t, t < len → wr.cell? ⟨w.heap.size, t, none⟩ = some (.string (if t < k then ss.getD t ⟨#[]⟩ else ⟨#[]⟩))) ∧ (∀ t, wr.frozen? ⟨w.heap.size, t, none⟩ = false) ∧ w.heap.size < wr.heap.size ∧ Below w.heap.size w wr) (fun i _ => len - (intOf i).toNat)
  case atStart =>
    refine ⟨0, Nat.zero_le _, rfl, fun t ht => ?_, fun t => frozen_of_row _ w.heap.size t _ 9 (heap_alloc_new w _), by simp, below_alloc w _⟩
    rw [cell_of_row _ w.heap.size t _ 9 (0, 0) (heap_alloc_new w _), made_str _ _ ht]
    simp
  case round =>
    obtain ⟨k, hk, rfl, hc, hz, hl, hb⟩ := hrel
    have HC : Hid (∀ t, t < len → wr.cell? ⟨w.heap.size, t, none⟩ = some (.string (if t < k then ss.getD t ⟨#[]⟩ else ⟨#[]⟩))) := hc
    have HZ : Hid (∀ t, wr.frozen? ⟨w.heap.size, t, none⟩ = false) := hz
    have HB : Hid (Below w.heap.size w wr) := hb
    have HL : Hid (w.heap.size < wr.heap.size) := hl
    clear hc hz hl hb
    by_cases hlt : k < len
    · obtain ⟨b, off, rfl, _, _, hcx, _⟩ := H.out.at hlt
      obtain ⟨x, hx⟩ : ∃ x, ss.getD k ⟨#[]⟩ = x := ⟨_, rfl⟩
      rw [hx] at hcx
      have hcell : wr.cell? ⟨b, off + k, none⟩ = some (.string x) := (HB.out.cell (p := ⟨b, off + k, none⟩) (block_lt_of_cell hcx)).trans hcx
      have hfz := HZ.out k
      have hy : wr.cell? ⟨w.heap.size, k, none⟩ = some (.string ⟨#[]⟩) := by rw [HC.out k hlt, if_neg (Nat.lt_irrefl _)]
      have HX : Hid (ss.getD k ⟨#[]⟩ = x) := hx
      have hi : (k : Int) < (len : Int) := by omega
      clear hx hcx
      go_wp2
      go_roundw
      case rel =>
        refine ⟨k + 1, by omega, by go_num, fun t ht => ?_, fun t => (World.frozen?_setCell _ _ _ _).trans (HZ.out t), by simpa using HL.out, HB.out.setCell (Nat.le_refl _) _⟩
        by_cases e : t = k
        · subst e
          rw [World.cell?_setCell_same _ _ _ hy, if_pos (by omega), HX.out]
        · rw [World.cell?_setCell_other _ _ _ _ (by intro q; injection q with _ q2; omega), HC.out t ht]
          by_cases q : t < k
          · rw [if_pos q, if_pos (by omega)]
          · rw [if_neg q, if_neg (by omega)]
      case measure => simp [intOf]; omega
    · have hke : k = len := by omega
      subst hke
      go_wp2
      go_ret
      refine ⟨rfl, ⟨H.out.1, Nat.le_refl _, by unfold maxLen; omega, .inr ⟨w.heap.size, 0, rfl, Nat.le_refl _, HL.out, fun i hi => ?_⟩⟩, HB.out⟩
      rw [Nat.zero_add, HC.out i hi, if_pos hi]
end Go.Proofs.YtafcnijfoejboaaDoor.W
namespace Go.Proofs.YtafcnijfoejboaaDoor.Pl
structure Ty where
  k : Int
  n : Int
  of : List Int
  names : List ByteArray
def Ty.cells (x : Ty) (v s : W.SV) : Array Value := #[.int .i64 x.k, .int .i64 x.n, .slice v.a v.len v.cap, .slice s.a s.len s.cap]
def Ty.zero : Ty := ⟨0, 0, [], []⟩
end Go.Proofs.YtafcnijfoejboaaDoor.Pl
namespace Go.Proofs.YtafcnijfoejboaaDoor.W
open Go.RowKit
def TRow (lo : Nat) (w : World) (a : Option Addr) (len cap : Nat) (xs : List Pl.Ty) : Prop :=
  xs.length = len ∧ len ≤ cap ∧ cap ≤ maxLen ∧ (len = 0 ∨ ∃ b off, a = some ⟨b, off, none⟩ ∧ lo ≤ b ∧ b < w.heap.size ∧ ∀ i, i < len → ∃ v s : SV, (∀ j, j < 4 → w.cell? ⟨b, off + i * 4 + j, none⟩ = ((xs.getD i Pl.Ty.zero).cells v s)[j]?) ∧ Row .i64 lo w v.a v.len v.cap (xs.getD i Pl.Ty.zero).of ∧ SRow lo w s.a s.len s.cap (xs.getD i Pl.Ty.zero).names)
theorem TRow.keep {lo : Nat} {w w' : World} {a : Option Addr} {len cap : Nat} {xs : List Pl.Ty} (h : TRow lo w a len cap xs) (hb : Below w.heap.size w w') : TRow lo w' a len cap xs := by
  obtain ⟨h1, h2, h3, h4⟩ := h
  refine ⟨h1, h2, h3, ?_⟩
  rcases h4 with h4 | ⟨b, off, ha, hlo, hlt, hc⟩
  · exact .inl h4
  · refine .inr ⟨b, off, ha, hlo, Nat.lt_of_lt_of_le hlt hb.size, fun i hi => ?_⟩
    obtain ⟨v, s, h5, h6, h7⟩ := hc i hi
    exact ⟨v, s, fun j hj => (hb.cell (p := ⟨b, off + i * 4 + j, none⟩) hlt).trans (h5 j hj), h6.keep hb, h7.keep hb⟩
theorem TRow.at {lo : Nat} {w : World} {a : Option Addr} {len cap : Nat} {xs : List Pl.Ty} (h : TRow lo w a len cap xs) {k : Nat} (hk : k < len) :
    ∃ (b off : Nat) (v s : SV), a = some ⟨b, off, none⟩ ∧ lo ≤ b ∧ b < w.heap.size ∧ (∀ j, j < 4 → w.cell? ⟨b, off + k * 4 + j, none⟩ = ((xs.getD k Pl.Ty.zero).cells v s)[j]?) ∧ Row .i64 lo w v.a v.len v.cap (xs.getD k Pl.Ty.zero).of ∧ SRow lo w s.a s.len s.cap (xs.getD k Pl.Ty.zero).names := by
  obtain ⟨h1, h2, h3, h4⟩ := h
  rcases h4 with h4 | ⟨b, off, ha, hlo, hlt, hc⟩
  · omega
  · obtain ⟨v, s, h5, h6, h7⟩ := hc k hk
    exact ⟨b, off, v, s, ha, hlo, hlt, h5, h6, h7⟩
theorem TRow.small {lo : Nat} {w : World} {a : Option Addr} {len cap : Nat} {xs : List Pl.Ty} (h : TRow lo w a len cap xs) : len ≤ 9223372036854775807 := by
  have := h.2.1; have h3 := h.2.2.1; unfold maxLen at h3; omega
theorem ty_cells {u : World} {b o : Nat} {x : Pl.Ty} {v s : SV} (h : ∀ j, j < 4 → u.cell? ⟨b, o + j, none⟩ = (x.cells v s)[j]?) : u.cell? ⟨b, o, none⟩ = some (.int .i64 x.k) ∧ u.cell? ⟨b, o + 1, none⟩ = some (.int .i64 x.n) ∧ u.cell? ⟨b, o + 2, none⟩ = some (.slice v.a v.len v.cap) ∧ u.cell? ⟨b, o + 3, none⟩ = some (.slice s.a s.len s.cap) :=
  ⟨h 0 (by decide), h 1 (by decide), h 2 (by decide), h 3 (by decide)⟩
set_option maxHeartbeats 1000000 in
theorem szType_at {lo : Nat} (x : Pl.Ty) (v s : SV) (left : Int) (hl : 0 ≤ left ∧ left ≤ 1048576) (hv : v.len ≤ 9223372036854775807) (w : World) (hs : SRow lo w s.a s.len s.cap x.names) : Calls Tryd.prog 9 #[.agg #[.int .i64 x.k, .int .i64 x.n, .slice v.a v.len v.cap, .slice s.a s.len s.cap], .int .i64 left] w fun e w' => ∃ r : Int, e = .returned (.int .i64 r) ∧ (0 ≤ r → r ≤ left ∧ v.len ≤ 1048576 ∧ s.len ≤ 1048576 ∧ ∀ i, i < s.len → (x.names.getD i ⟨#[]⟩).size ≤ 1048576) ∧ Below w.heap.size w w' := by
  have HS : Hid (SRow lo w s.a s.len s.cap x.names) := hs
  clear hs
  by_cases c2 : (v.len : Int) ≤ left
  · go_enter Tryd.func9, Tryd.ntmps9
    go_wp2_with (first
      | (go_at_call 17; refine (szIntS_yes _ _ _ _ hv (by omega) (by omega) _).mono ?_; rintro e w' ⟨rfl, rfl⟩)
      | (go_at_call 18; refine (szStringS_any s.a s.len s.cap x.names (left - v.len) ⟨by omega, by omega⟩ _ (HS.out.keep (below_alloc _ _))).mono ?_; rintro e u1 ⟨r, rfl, hr, d1⟩))
    · go_ret
      exact ⟨_, rfl, fun q => absurd q (by decide), (below_alloc _ _).trans (d1.mono (by simp))⟩
    · go_ret
      exact ⟨_, rfl, fun q => ⟨by have := (hr q).1; omega, by omega, (hr q).2⟩, (below_alloc _ _).trans (d1.mono (by simp))⟩
  · go_enter Tryd.func9, Tryd.ntmps9
    go_wp2_with (go_at_call 17; refine (szIntS_no _ _ _ _ hv (by omega) (by omega) _).mono ?_; rintro e w' ⟨rfl, rfl⟩)
    go_ret
    exact ⟨-1, rfl, fun q => absurd q (by decide), below_alloc _ _⟩
set_option maxHeartbeats 2000000 in
theorem szTypeS_any {lo : Nat} (a : Option Addr) (len cap : Nat) (xs : List Pl.Ty) (left : Int) (hleft : 0 ≤ left ∧ left ≤ 1048576) (w : World) (h : TRow lo w a len cap xs) : Calls Tryd.prog 4 #[.slice a len cap, .int .i64 left] w fun e w' => ∃ r : Int, e = .returned (.int .i64 r) ∧ (0 ≤ r → r ≤ left ∧ len ≤ 1048576 ∧ ∀ i, i < len → (xs.getD i Pl.Ty.zero).of.length ≤ 1048576 ∧ (xs.getD i Pl.Ty.zero).names.length ≤ 1048576 ∧ ∀ j, j < (xs.getD i Pl.Ty.zero).names.length → ((xs.getD i Pl.Ty.zero).names.getD j ⟨#[]⟩).size ≤ 1048576) ∧ Below w.heap.size w w' := by
  have hm : (len : Int) ≤ 9223372036854775807 := by have := h.small; omega
  by_cases hb : left < (len : Int)
  · go_enter Tryd.func4, Tryd.ntmps4
    go_wp2
    go_ret
    exact ⟨-1, rfl, fun q => absurd q (by decide), Below.refl _ _⟩
  have HR : Hid (TRow lo w a len cap xs) := h
  clear h
  go_enter Tryd.func4, Tryd.ntmps4
  go_wp2_with fail
  go_loopw [1, 5] (fun v i wr => ∃ (k : Nat) (r : Int), k ≤ len ∧ i = .int .i64 k ∧ v = .int .i64 r ∧ 0 ≤ r ∧ r ≤ left ∧ (∀ i, i < k → (xs.getD i Pl.Ty.zero).of.length ≤ 1048576 ∧ (xs.getD i Pl.Ty.zero).names.length ≤ 1048576 ∧ ∀ j, j < (xs.getD i Pl.Ty.zero).names.length → ((xs.getD i Pl.Ty.zero).names.getD j ⟨#[]⟩).size ≤ 1048576) ∧ Below w.heap.size w wr) (fun _ i _ => len - (intOf i).toNat)
  case atStart => exact ⟨0, left - len, Nat.zero_le _, rfl, rfl, by omega, by omega, fun i hi => absurd hi (Nat.not_lt_zero _), Below.refl _ _⟩
  case round =>
    obtain ⟨k, r, hk, rfl, rfl, hr0, hr1, hall, hbel⟩ := hrel
    have HA : Hid (∀ i, i < k → (xs.getD i Pl.Ty.zero).of.length ≤ 1048576 ∧ (xs.getD i Pl.Ty.zero).names.length ≤ 1048576 ∧ ∀ j, j < (xs.getD i Pl.Ty.zero).names.length → ((xs.getD i Pl.Ty.zero).names.getD j ⟨#[]⟩).size ≤ 1048576) := hall
    have HB : Hid (Below w.heap.size w wr) := hbel
    clear hall hbel
    by_cases hlt : k < len
    · have hi : (k : Int) < (len : Int) := by omega
      obtain ⟨b, off, v, s, rfl, hlo, hb1, hc, hrow, hs⟩ := (HR.out.keep HB.out).at hlt
      obtain ⟨x, hx⟩ : ∃ x, x = xs.getD k Pl.Ty.zero := ⟨_, rfl⟩
      rw [← hx] at hc hrow hs
      obtain ⟨c0, c1, c2, c3⟩ := ty_cells hc
      have hvl : v.len ≤ 9223372036854775807 := hrow.small
      have HX : Hid (x = xs.getD k Pl.Ty.zero ∧ x.of.length = v.len ∧ x.names.length = s.len) := ⟨hx, hrow.1, hs.1.1⟩
      have HS : Hid (SRow lo wr s.a s.len s.cap x.names) := hs
      clear hc hx hrow hs
      go_wp2_with (go_at_call 9; refine (szType_at x v s r ⟨hr0, by omega⟩ hvl _ HS.out).mono ?_; rintro e u1 ⟨r', rfl, hr', d1⟩)
      · go_ret
        exact ⟨_, rfl, fun q => absurd q (by decide), HB.out.trans (d1.mono HB.out.size)⟩
      · have hr2 : 0 ≤ r' := by omega
        obtain ⟨hr3, hr4, hr5⟩ := hr' hr2
        go_roundw
        case rel => exact ⟨k + 1, r', by omega, by go_num, rfl, hr2, by omega, fun i hi => by
          by_cases e : i = k
          · rw [e, ← HX.out.1, HX.out.2.1, HX.out.2.2]; exact ⟨hr4, hr5⟩
          · exact HA.out i (by omega), HB.out.trans (d1.mono HB.out.size)⟩
        case measure => simp [intOf]; omega
    · have hkk : k = len := by omega
      have hi : ¬ ((k : Int) < (len : Int)) := by omega
      go_wp2
      go_ret
      exact ⟨_, rfl, fun _ => ⟨by omega, by omega, fun i hi => HA.out i (by omega)⟩, HB.out⟩
end Go.Proofs.YtafcnijfoejboaaDoor.W
namespace Go.Proofs.YtafcnijfoejboaaDoor.W
open Go.RowKit
theorem ty_row_set {k : IntKind} {lo : Nat} {w : World} {a : Option Addr} {len cap : Nat} {zs : List Int} (h : Row k lo w a len cap zs) {g : Nat} (hg : g < lo) (j : Nat) (x : Value) : Row k lo (w.setCell ⟨g, j, none⟩ x) a len cap zs := by
  obtain ⟨h1, h2, h3, h4, h5⟩ := h
  refine ⟨h1, h2, h3, h4, ?_⟩
  rcases h5 with h5 | ⟨b, off, ha, hlo, hlt, hc⟩
  · exact .inl h5
  · refine .inr ⟨b, off, ha, hlo, by simpa using hlt, fun i hi => ?_⟩
    rw [World.cell?_setCell_other _ _ _ _ (by intro e; injection e with e1 _; omega)]
    exact hc i hi
theorem SRow.set {lo : Nat} {w : World} {a : Option Addr} {len cap : Nat} {ss : List ByteArray} (h : SRow lo w a len cap ss) {g : Nat} (hg : g < lo) (j : Nat) (x : Value) : SRow lo (w.setCell ⟨g, j, none⟩ x) a len cap ss := by
  obtain ⟨h1, h2, h3, h5⟩ := h
  refine ⟨h1, h2, h3, ?_⟩
  rcases h5 with h5 | ⟨b, off, ha, hlo, hlt, hc⟩
  · exact .inl h5
  · refine .inr ⟨b, off, ha, hlo, by simpa using hlt, fun i hi => ?_⟩
    rw [World.cell?_setCell_other _ _ _ _ (by intro e; injection e with e1 _; omega)]
    exact hc i hi
theorem ty_row_above {k : IntKind} {B lo : Nat} {w w' : World} {a : Option Addr} {len cap : Nat} {zs : List Int} (h : Row k lo w a len cap zs) (ha : Above B w w') (hB : B ≤ lo) : Row k lo w' a len cap zs := by
  obtain ⟨h1, h2, h3, h4, h5⟩ := h
  refine ⟨h1, h2, h3, h4, ?_⟩
  rcases h5 with h5 | ⟨b, off, rfl, hlo, hlt, hc⟩
  · exact .inl h5
  · refine .inr ⟨b, off, rfl, hlo, Nat.lt_of_lt_of_le hlt ha.size, fun i hi => ?_⟩
    rw [World.cell?_of_block (a := ⟨b, off + i, none⟩) (ha.block b (Nat.le_trans hB hlo) hlt)]
    exact hc i hi
theorem SRow.above {B lo : Nat} {w w' : World} {a : Option Addr} {len cap : Nat} {ss : List ByteArray} (h : SRow lo w a len cap ss) (ha : Above B w w') (hB : B ≤ lo) : SRow lo w' a len cap ss := by
  obtain ⟨h1, h2, h3, h5⟩ := h
  refine ⟨h1, h2, h3, ?_⟩
  rcases h5 with h5 | ⟨b, off, rfl, hlo, hlt, hc⟩
  · exact .inl h5
  · refine .inr ⟨b, off, rfl, hlo, Nat.lt_of_lt_of_le hlt ha.size, fun i hi => ?_⟩
    rw [World.cell?_of_block (a := ⟨b, off + i, none⟩) (ha.block b (Nat.le_trans hB hlo) hlt)]
    exact hc i hi
theorem SRow.lower {lo lo' : Nat} {w : World} {a : Option Addr} {len cap : Nat} {ss : List ByteArray} (h : SRow lo w a len cap ss) (hl : lo' ≤ lo) : SRow lo' w a len cap ss := by
  obtain ⟨h1, h2, h3, h4⟩ := h
  refine ⟨h1, h2, h3, ?_⟩
  rcases h4 with h4 | ⟨b, off, e, hlo, hlt, hc⟩
  · exact .inl h4
  · exact .inr ⟨b, off, e, Nat.le_trans hl hlo, hlt, hc⟩
theorem TRow.above {B lo : Nat} {w w' : World} {a : Option Addr} {len cap : Nat} {xs : List Pl.Ty} (h : TRow lo w a len cap xs) (ha : Above B w w') (hB : B ≤ lo) : TRow lo w' a len cap xs := by
  obtain ⟨h1, h2, h3, h4⟩ := h
  refine ⟨h1, h2, h3, ?_⟩
  rcases h4 with h4 | ⟨b, off, e, hlo, hlt, hc⟩
  · exact .inl h4
  · refine .inr ⟨b, off, e, hlo, Nat.lt_of_lt_of_le hlt ha.size, fun i hi => ?_⟩
    obtain ⟨v, s, h5, h6, h7⟩ := hc i hi
    refine ⟨v, s, fun j hj => ?_, ty_row_above h6 ha hB, h7.above ha hB⟩
    rw [World.cell?_of_block (a := ⟨b, off + i * 4 + j, none⟩) (ha.block b (Nat.le_trans hB hlo) hlt)]
    exact h5 j hj
theorem TRow.lower {lo lo' : Nat} {w : World} {a : Option Addr} {len cap : Nat} {xs : List Pl.Ty} (h : TRow lo w a len cap xs) (hl : lo' ≤ lo) : TRow lo' w a len cap xs := by
  obtain ⟨h1, h2, h3, h4⟩ := h
  refine ⟨h1, h2, h3, ?_⟩
  rcases h4 with h4 | ⟨b, off, e, hlo, hlt, hc⟩
  · exact .inl h4
  · refine .inr ⟨b, off, e, Nat.le_trans hl hlo, hlt, fun i hi => ?_⟩
    obtain ⟨v, s, h5, h6, h7⟩ := hc i hi
    exact ⟨v, s, h5, h6.lower hl, h7.lower hl⟩
theorem ty_ne {g p q : Nat} (h : p ≠ q) : (⟨g, p, none⟩ : Addr) ≠ ⟨g, q, none⟩ := fun e => h (by injection e)
theorem ty_isSome {u : World} {p q : Addr} {v : Value} (h : (u.cell? q).isSome = true) : ((u.setCell p v).cell? q).isSome = true := by
  obtain ⟨x, hx⟩ := Option.isSome_iff_exists.1 h
  obtain ⟨y, hy⟩ := cell?_setCell_some (p := p) (x := v) hx
  rw [hy]; rfl
def set4 (u : World) (g o : Nat) (x : Pl.Ty) (v s : SV) : World := (((u.setCell ⟨g, o, none⟩ (.int .i64 x.k)).setCell ⟨g, o + 1, none⟩ (.int .i64 x.n)).setCell ⟨g, o + 2, none⟩ (.slice v.a v.len v.cap)).setCell ⟨g, o + 3, none⟩ (.slice s.a s.len s.cap)
theorem set4_out {u : World} {g o q : Nat} (x : Pl.Ty) (v s : SV) (h : q < o ∨ o + 4 ≤ q) : (set4 u g o x v s).cell? ⟨g, q, none⟩ = u.cell? ⟨g, q, none⟩ := by
  unfold set4
  rw [World.cell?_setCell_other _ _ _ _ (ty_ne (by omega)), World.cell?_setCell_other _ _ _ _ (ty_ne (by omega)), World.cell?_setCell_other _ _ _ _ (ty_ne (by omega)), World.cell?_setCell_other _ _ _ _ (ty_ne (by omega))]
theorem set4_in {u : World} {g o : Nat} (x : Pl.Ty) (v s : SV) (h : ∀ j, j < 4 → (u.cell? ⟨g, o + j, none⟩).isSome = true) (j : Nat) (hj : j < 4) : (set4 u g o x v s).cell? ⟨g, o + j, none⟩ = (x.cells v s)[j]? := by
  have t := h j hj
  unfold set4
  rcases (show j = 0 ∨ j = 1 ∨ j = 2 ∨ j = 3 by omega) with rfl | rfl | rfl | rfl
  · change World.cell? _ ⟨g, o, none⟩ = _
    rw [World.cell?_setCell_other _ _ _ _ (ty_ne (by omega)), World.cell?_setCell_other _ _ _ _ (ty_ne (by omega)), World.cell?_setCell_other _ _ _ _ (ty_ne (by omega))]
    rw [World.cell?_setCell_same' _ _ _ (show (u.cell? ⟨g, o, none⟩).isSome = true from t)]
    rfl
  · rw [World.cell?_setCell_other _ _ _ _ (ty_ne (by omega)), World.cell?_setCell_other _ _ _ _ (ty_ne (by omega))]
    rw [World.cell?_setCell_same' _ _ _ (ty_isSome t)]
    rfl
  · rw [World.cell?_setCell_other _ _ _ _ (ty_ne (by omega))]
    rw [World.cell?_setCell_same' _ _ _ (ty_isSome (ty_isSome t))]
    rfl
  · rw [World.cell?_setCell_same' _ _ _ (ty_isSome (ty_isSome (ty_isSome t)))]
    rfl
theorem set4_below {w u : World} {B g : Nat} (h : Below B w u) (hg : B ≤ g) (o : Nat) (x : Pl.Ty) (v s : SV) : Below B w (set4 u g o x v s) := by
  unfold set4
  exact (((h.setCell (p := ⟨g, o, none⟩) hg _).setCell (p := ⟨g, o + 1, none⟩) hg _).setCell (p := ⟨g, o + 2, none⟩) hg _).setCell (p := ⟨g, o + 3, none⟩) hg _
theorem set4_row {k : IntKind} {lo : Nat} {w : World} {a : Option Addr} {len cap : Nat} {zs : List Int} (h : Row k lo w a len cap zs) {g : Nat} (hg : g < lo) (o : Nat) (x : Pl.Ty) (v s : SV) : Row k lo (set4 w g o x v s) a len cap zs := by
  unfold set4
  exact ty_row_set (ty_row_set (ty_row_set (ty_row_set h hg _ _) hg _ _) hg _ _) hg _ _
theorem set4_srow {lo : Nat} {w : World} {a : Option Addr} {len cap : Nat} {ss : List ByteArray} (h : SRow lo w a len cap ss) {g : Nat} (hg : g < lo) (o : Nat) (x : Pl.Ty) (v s : SV) : SRow lo (set4 w g o x v s) a len cap ss := by
  unfold set4
  exact (((h.set hg _ _).set hg _ _).set hg _ _).set hg _ _
theorem ty_put {u : World} {g : Nat} {cs cs' : Array Value} {t : TypeId} (q : u.heap[g]? = some (.cells cs t)) (j : Nat) (x : Value) (e : cs.setIfInBounds j x = cs') : (u.setCell ⟨g, j, none⟩ x).heap[g]? = some (.cells cs' t) := by
  rw [← e]; exact heap_setCell_same u g j cs t x q
theorem ty_at {P : Program} {f : Nat} {args : Array Value} {W : World} {Q : Ending → World → Prop} (h : ∀ U, U = W → Calls P f args U Q) : Calls P f args W Q := h W rfl
set_option maxHeartbeats 2000000 in
theorem toType_any {lo : Nat} (x : Pl.Ty) (v s : SV) (w : World) (h : Row .i64 lo w v.a v.len v.cap x.of) (hs : SRow lo w s.a s.len s.cap x.names) (hl : v.len ≤ 1048576) (hl2 : s.len ≤ 1048576) :
    Calls Tryd.prog 13 #[.agg #[.int .i64 x.k, .int .i64 x.n, .slice v.a v.len v.cap, .slice s.a s.len s.cap]] w fun e w' => ∃ v' s' : SV, e = .returned (.agg #[.int .i64 x.k, .int .i64 x.n, .slice v'.a v'.len v'.cap, .slice s'.a s'.len s'.cap]) ∧ Row .i64 w.heap.size w' v'.a v'.len v'.cap x.of ∧ SRow w.heap.size w' s'.a s'.len s'.cap x.names ∧ Below w.heap.size w w' := by
  have HR : Hid (Row .i64 lo w v.a v.len v.cap x.of) := h
  have HS : Hid (SRow lo w s.a s.len s.cap x.names) := hs
  clear h hs
  go_enter Tryd.func13, Tryd.ntmps13
  go_wp2_with fail
  refine ty_at fun U1 hU1 => ?_
  have z1 : U1.heap.size = w.heap.size + 3 := by rw [hU1]; simp
  have q0 : U1.heap[w.heap.size]? = some (.cells #[.int .i64 x.k, .int .i64 x.n, .slice v.a v.len v.cap, .slice s.a s.len s.cap] 33) := by
    rw [hU1]
    rw [Below.heap_alloc _ _ _ (by simp; omega), Below.heap_alloc _ _ _ (by simp)]
    exact heap_alloc_new w _
  have q1 : U1.heap[w.heap.size + 1]? = some (.cells #[.int .i64 0, .int .i64 0, .slice none 0 0, .slice none 0 0] 37) := by
    rw [hU1]
    rw [Below.heap_alloc _ _ _ (by simp)]
    have := heap_alloc_new (w.alloc (.cells #[.int .i64 x.k, .int .i64 x.n, .slice v.a v.len v.cap, .slice s.a s.len s.cap] 33)) (.cells #[.int .i64 0, .int .i64 0, .slice none 0 0, .slice none 0 0] 37)
    simpa using this
  have q2 : U1.heap[w.heap.size + 1 + 1]? = some (.cells #[.int .i64 x.k, .int .i64 x.n, .slice none 0 0, .slice none 0 0] 37) := by
    rw [hU1]
    have := heap_alloc_new ((w.alloc (.cells #[.int .i64 x.k, .int .i64 x.n, .slice v.a v.len v.cap, .slice s.a s.len s.cap] 33)).alloc (.cells #[.int .i64 0, .int .i64 0, .slice none 0 0, .slice none 0 0] 37)) (.cells #[.int .i64 x.k, .int .i64 x.n, .slice none 0 0, .slice none 0 0] 37)
    simpa using this
  have b1 : Below w.heap.size w U1 := by
    rw [hU1]
    repeat (first | exact Below.refl _ _ | refine Below.setCell ?_ (by simp; omega) _ | refine Below.alloc ?_ (by simp <;> omega) _)
  clear hU1
  refine (toIntS_any v.a v.len v.cap x.of U1 (HR.out.keep b1) hl).mono ?_
  rintro e u1 ⟨rfl, o1, d1⟩
  have Q0 := (d1.block w.heap.size (by omega)).trans q0
  have Q1 := (d1.block (w.heap.size + 1) (by omega)).trans q1
  have Q2 := (d1.block (w.heap.size + 1 + 1) (by omega)).trans q2
  have hz1 : w.heap.size + 3 ≤ u1.heap.size := by have := d1.size; omega
  have B1 : Hid (Below w.heap.size w u1) := b1.trans (d1.mono (by omega))
  have O1 : Hid (Row .i64 (w.heap.size + 3) u1 (some ⟨U1.heap.size, 0, none⟩) v.len v.len x.of) := o1.row.lower (by omega)
  have k0 : ∀ j, u1.cell? ⟨w.heap.size, j, none⟩ = (#[.int .i64 x.k, .int .i64 x.n, .slice v.a v.len v.cap, .slice s.a s.len s.cap] : Array Value)[j]? := fun j => cell_of_row u1 w.heap.size j _ 33 (0, 0) Q0
  have k2 : ∀ j, u1.cell? ⟨w.heap.size + 1 + 1, j, none⟩ = (#[.int .i64 x.k, .int .i64 x.n, .slice none 0 0, .slice none 0 0] : Array Value)[j]? := fun j => cell_of_row u1 (w.heap.size + 1 + 1) j _ 37 (0, 0) Q2
  have f2 : ∀ j, u1.frozen? ⟨w.heap.size + 1 + 1, j, none⟩ = false := fun j => frozen_of_row u1 (w.heap.size + 1 + 1) j _ 37 Q2
  have HQ0 : Hid (u1.heap[w.heap.size]? = some (.cells #[.int .i64 x.k, .int .i64 x.n, .slice v.a v.len v.cap, .slice s.a s.len s.cap] 33)) := Q0
  have HQ1 : Hid (u1.heap[w.heap.size + 1]? = some (.cells #[.int .i64 0, .int .i64 0, .slice none 0 0, .slice none 0 0] 37)) := Q1
  have HQ2 : Hid (u1.heap[w.heap.size + 1 + 1]? = some (.cells #[.int .i64 x.k, .int .i64 x.n, .slice none 0 0, .slice none 0 0] 37)) := Q2
  generalize (some ⟨U1.heap.size, 0, none⟩ : Option Addr) = A at O1
  clear Q0 Q1 Q2 q0 q1 q2 b1 o1 d1 z1
  go_wp2_with fail
  refine ty_at fun U2 hU2 => ?_
  have z2 : U2.heap.size = u1.heap.size := by rw [hU2]; simp
  have a2 : Above (w.heap.size + 3) u1 U2 := by
    rw [hU2]
    repeat (first | with_reducible exact Above.refl _ _ | refine Above.setCell ?_ (by simp <;> omega) _)
  have b2 : Below w.heap.size w U2 := by
    rw [hU2]
    repeat (first | with_reducible exact B1.out | refine Below.setCell ?_ (by simp <;> omega) _)
  have r0 : U2.heap[w.heap.size]? = some (.cells #[.int .i64 x.k, .int .i64 x.n, .slice v.a v.len v.cap, .slice s.a s.len s.cap] 33) := by
    rw [hU2, heap_setCell_other _ _ _ _ (show w.heap.size ≠ w.heap.size + 1 + 1 by omega)]; exact HQ0.out
  have r1 : U2.heap[w.heap.size + 1]? = some (.cells #[.int .i64 0, .int .i64 0, .slice none 0 0, .slice none 0 0] 37) := by
    rw [hU2, heap_setCell_other _ _ _ _ (show w.heap.size + 1 ≠ w.heap.size + 1 + 1 by omega)]; exact HQ1.out
  have r2 : U2.heap[w.heap.size + 1 + 1]? = some (.cells #[.int .i64 x.k, .int .i64 x.n, .slice A v.len v.len, .slice none 0 0] 37) := by
    rw [hU2]; exact ty_put HQ2.out 2 _ rfl
  clear hU2 k0 k2 f2 HQ0 HQ1 HQ2
  refine (toStringS_any s.a s.len s.cap x.names U2 (HS.out.keep b2) hl2).mono ?_
  rintro e u2 ⟨rfl, o2, d2⟩
  have R0 := (d2.block w.heap.size (by omega)).trans r0
  have R1 := (d2.block (w.heap.size + 1) (by omega)).trans r1
  have R2 := (d2.block (w.heap.size + 1 + 1) (by omega)).trans r2
  have B2 : Hid (Below w.heap.size w u2) := b2.trans (d2.mono (by omega))
  have O2 : Hid (SRow (w.heap.size + 3) u2 (some ⟨U2.heap.size, 0, none⟩) s.len s.len x.names) := o2.lower (by omega)
  have O3 : Hid (Row .i64 (w.heap.size + 3) u2 A v.len v.len x.of) := (ty_row_above O1.out a2 (Nat.le_refl _)).keep d2
  have k1 : ∀ j, u2.cell? ⟨w.heap.size + 1, j, none⟩ = (#[.int .i64 0, .int .i64 0, .slice none 0 0, .slice none 0 0] : Array Value)[j]? := fun j => cell_of_row u2 (w.heap.size + 1) j _ 37 (0, 0) R1
  have k2 : ∀ j, u2.cell? ⟨w.heap.size + 1 + 1, j, none⟩ = (#[.int .i64 x.k, .int .i64 x.n, .slice A v.len v.len, .slice none 0 0] : Array Value)[j]? := fun j => cell_of_row u2 (w.heap.size + 1 + 1) j _ 37 (0, 0) R2
  have f1 : ∀ j, u2.frozen? ⟨w.heap.size + 1, j, none⟩ = false := fun j => frozen_of_row u2 (w.heap.size + 1) j _ 37 R1
  have f2 : ∀ j, u2.frozen? ⟨w.heap.size + 1 + 1, j, none⟩ = false := fun j => frozen_of_row u2 (w.heap.size + 1 + 1) j _ 37 R2
  have HR1 : Hid (u2.heap[w.heap.size + 1]? = some (.cells #[.int .i64 0, .int .i64 0, .slice none 0 0, .slice none 0 0] 37)) := R1
  generalize (some ⟨U2.heap.size, 0, none⟩ : Option Addr) = A2 at O2
  clear R0 R1 R2 r0 r1 r2 b2 o2 d2 z2 a2
  go_wp2
  refine bodyPost_ret (v := .agg #[.int .i64 x.k, .int .i64 x.n, .slice A v.len v.len, .slice A2 s.len s.len]) ?_ rfl ⟨⟨A, v.len, v.len⟩, ⟨A2, s.len, s.len⟩, rfl, ?_, ?_, ?_⟩
  · refine results_cell_row Tryd.results13 _ _ (w.heap.size + 1) 37 #[.int .i64 x.k, .int .i64 x.n, .slice A v.len v.len, .slice A2 s.len s.len] (0, 0) _ ?hp ?hg Tryd.underlying37 ?hd ?hi
    case hp => rfl
    case hd => rfl
    case hi => kernel_rfl
    case hg =>
      have h0 : (u2.setCell ⟨w.heap.size + 1 + 1, 3, none⟩ (.slice A2 s.len s.len)).heap[w.heap.size + 1]? = some (.cells #[.int .i64 0, .int .i64 0, .slice none 0 0, .slice none 0 0] 37) := by
        rw [heap_setCell_other _ _ _ _ (show w.heap.size + 1 ≠ w.heap.size + 1 + 1 by omega)]
        exact HR1.out
      have h1 := ty_put (cs' := #[.int .i64 x.k, .int .i64 0, .slice none 0 0, .slice none 0 0]) h0 0 (.int .i64 x.k) rfl
      have h2 := ty_put (cs' := #[.int .i64 x.k, .int .i64 x.n, .slice none 0 0, .slice none 0 0]) h1 1 (.int .i64 x.n) rfl
      have h3 := ty_put (cs' := #[.int .i64 x.k, .int .i64 x.n, .slice A v.len v.len, .slice none 0 0]) h2 2 (.slice A v.len v.len) rfl
      have h4 := ty_put (cs' := #[.int .i64 x.k, .int .i64 x.n, .slice A v.len v.len, .slice A2 s.len s.len]) h3 3 (.slice A2 s.len s.len) rfl
      exact h4
  · refine Row.lower (ty_row_above O3.out (B := w.heap.size + 3) ?_ (Nat.le_refl _)) (by omega)
    repeat (first | with_reducible exact Above.refl _ _ | refine Above.setCell ?_ (by simp <;> omega) _)
  · refine SRow.lower (SRow.above O2.out (B := w.heap.size + 3) ?_ (Nat.le_refl _)) (by omega)
    repeat (first | with_reducible exact Above.refl _ _ | refine Above.setCell ?_ (by simp <;> omega) _)
  · repeat (first | with_reducible exact B2.out | refine Below.setCell ?_ (by simp <;> omega) _)
end Go.Proofs.YtafcnijfoejboaaDoor.W
namespace Go.Proofs.YtafcnijfoejboaaDoor.W
open Go.RowKit
def TMid (g len k : Nat) (wr : World) (xs : List Pl.Ty) : Prop := ∀ i, i < len → ∃ v s : SV, (∀ j, j < 4 → wr.cell? ⟨g, i * 4 + j, none⟩ = ((if i < k then xs.getD i Pl.Ty.zero else Pl.Ty.zero).cells v s)[j]?) ∧ Row .i64 (g + 1) wr v.a v.len v.cap (if i < k then xs.getD i Pl.Ty.zero else Pl.Ty.zero).of ∧ SRow (g + 1) wr s.a s.len s.cap (if i < k then xs.getD i Pl.Ty.zero else Pl.Ty.zero).names
theorem TMid.keep {g len k : Nat} {w w' : World} {xs : List Pl.Ty} (h : TMid g len k w xs) (hg : g < w.heap.size) (hb : Below w.heap.size w w') : TMid g len k w' xs := fun i hi => by
  obtain ⟨v, s, h1, h2, h3⟩ := h i hi
  exact ⟨v, s, fun j hj => (hb.cell (p := ⟨g, i * 4 + j, none⟩) hg).trans (h1 j hj), h2.keep hb, h3.keep hb⟩
theorem TMid.some {g len k : Nat} {w : World} {xs : List Pl.Ty} (h : TMid g len k w xs) {i : Nat} (hi : i < len) : ∀ j, j < 4 → (w.cell? ⟨g, i * 4 + j, none⟩).isSome = true := fun j hj => by
  obtain ⟨v, s, h1, _⟩ := h i hi
  rw [h1 j hj]
  rcases (show j = 0 ∨ j = 1 ∨ j = 2 ∨ j = 3 by omega) with rfl | rfl | rfl | rfl <;> rfl
theorem TMid.put {g len k : Nat} {w : World} {xs : List Pl.Ty} (h : TMid g len k w xs) (hk : k < len) (v s : SV) (hr : Row .i64 (g + 1) w v.a v.len v.cap (xs.getD k Pl.Ty.zero).of) (hs : SRow (g + 1) w s.a s.len s.cap (xs.getD k Pl.Ty.zero).names) : TMid g len (k + 1) (set4 w g (k * 4) (xs.getD k Pl.Ty.zero) v s) xs := fun i hi => by
  by_cases e : i = k
  · subst e
    rw [if_pos (Nat.lt_succ_self _)]
    exact ⟨v, s, fun j hj => set4_in _ _ _ (h.some hk) j hj, set4_row hr (Nat.lt_succ_self _) _ _ _ _, set4_srow hs (Nat.lt_succ_self _) _ _ _ _⟩
  · obtain ⟨v', s', h1, h2, h3⟩ := h i hi
    have e1 : (if i < k + 1 then xs.getD i Pl.Ty.zero else Pl.Ty.zero) = (if i < k then xs.getD i Pl.Ty.zero else Pl.Ty.zero) := by
      by_cases e' : i < k
      · rw [if_pos e', if_pos (by omega)]
      · rw [if_neg e', if_neg (by omega)]
    rw [e1]
    exact ⟨v', s', fun j hj => (set4_out _ _ _ (by omega)).trans (h1 j hj), set4_row h2 (Nat.lt_succ_self _) _ _ _ _, set4_srow h3 (Nat.lt_succ_self _) _ _ _ _⟩
theorem ty_row_nil {k : IntKind} {lo : Nat} {w : World} : Row k lo w none 0 0 [] := ⟨rfl, Nat.le_refl _, Nat.zero_le _, fun n hn => absurd hn (by simp), .inl rfl⟩
theorem srow_nil {lo : Nat} {w : World} : SRow lo w none 0 0 [] := ⟨⟨rfl, fun n hn => absurd hn (by simp)⟩, Nat.le_refl _, Nat.zero_le _, .inl rfl⟩
set_option maxHeartbeats 2000000 in
theorem toTypeS_any {lo : Nat} (a : Option Addr) (len cap : Nat) (xs : List Pl.Ty) (w : World) (h : TRow lo w a len cap xs) (hl : len ≤ 1048576) (hks : ∀ i, i < len → (xs.getD i Pl.Ty.zero).of.length ≤ 1048576 ∧ (xs.getD i Pl.Ty.zero).names.length ≤ 1048576) : Calls Tryd.prog 6 #[.slice a len cap] w fun e w' => e = .returned (.slice (some ⟨w.heap.size, 0, none⟩) len len) ∧ TRow w.heap.size w' (some ⟨w.heap.size, 0, none⟩) len len xs ∧ Below w.heap.size w w' := by
  have HR : Hid (TRow lo w a len cap xs) := h
  have HKS : Hid (∀ i, i < len → (xs.getD i Pl.Ty.zero).of.length ≤ 1048576 ∧ (xs.getD i Pl.Ty.zero).names.length ≤ 1048576) := hks
  clear h hks
  have hinfo : (Tryd.prog.info? 37).map (fun i => (i.zero, i.size, i.bytes)) = some (some (.agg #[.int .i64 0, .int .i64 0, .slice none 0 0, .slice none 0 0]), 4, 64) := by kernel_rfl
  obtain ⟨i0, hi0, hz0, hz1, hz2⟩ := info_parts hinfo
  have hm : ∀ u : World, (Instr.makeSlice 25 (.int .i64 (len : Int)) (.int .i64 (len : Int))).run Tryd.prog u = .ok (.slice (some ⟨u.heap.size, 0, none⟩) len len) (u.alloc (.cells (madeCells #[.int .i64 0, .int .i64 0, .slice none 0 0, .slice none 0 0] (len * 4)) 37)) := fun u => by
    have := run_makeSlice u 25 37 i0 _ Tryd.underlying25 hi0 hz0 .i64 .i64 (len : Int) (len : Int) (by omega) (by omega) (by rw [hz1]; simp; omega) (by rw [hz2]; omega) (by omega)
    rw [hz1, Int.toNat_natCast] at this
    exact this
  clear hinfo hi0 hz0 hz1 hz2
  go_enter Tryd.func6, Tryd.ntmps6
  go_wp2_with fail
  clear hm
  go_loopw [4] (fun i wr => ∃ k : Nat, k ≤ len ∧ i = .int .i64 k ∧ w.heap.size < wr.heap.size ∧ (∀ q, wr.frozen? ⟨w.heap.size, q, none⟩ = false) ∧ TMid w.heap.size len k wr xs ∧ Below w.heap.size w wr) (fun i _ => len - (intOf i).toNat)
  case atStart =>
    refine ⟨0, Nat.zero_le _, rfl, by simp, fun q => frozen_of_row _ _ _ _ _ (heap_alloc_new w _), fun i hi => ⟨⟨none, 0, 0⟩, ⟨none, 0, 0⟩, fun j hj => ?_, ?_, ?_⟩, below_alloc w _⟩
    · rw [cell_of_row _ _ _ _ _ (0, 0) (heap_alloc_new w _), if_neg (Nat.not_lt_zero _)]
      have e : (i * 4 + j) % 4 = j := by omega
      have hb : i * 4 + j < len * 4 := by omega
      unfold madeCells
      rw [Array.getElem?_map, Array.getElem?_range, if_pos hb]
      simp only [Option.map_some, List.size_toArray, List.length_cons, List.length_nil, e]
      rcases (show j = 0 ∨ j = 1 ∨ j = 2 ∨ j = 3 by omega) with rfl | rfl | rfl | rfl <;> rfl
    · rw [if_neg (Nat.not_lt_zero _)]; exact ty_row_nil
    · rw [if_neg (Nat.not_lt_zero _)]; exact srow_nil
  case round =>
    obtain ⟨k, hk, rfl, hz, hfr, hcs, hbel⟩ := hrel
    have HC : Hid (TMid w.heap.size len k wr xs) := hcs
    have HF : Hid (∀ q, wr.frozen? ⟨w.heap.size, q, none⟩ = false) := hfr
    have HB : Hid (Below w.heap.size w wr) := hbel
    clear hcs hbel hfr
    by_cases hlt : k < len
    · have hi : (k : Int) < (len : Int) := by omega
      obtain ⟨b, off, v, s, rfl, hlo, hb1, hc, hrow, hs⟩ := (HR.out.keep HB.out).at hlt
      obtain ⟨x, hx⟩ : ∃ x, x = xs.getD k Pl.Ty.zero := ⟨_, rfl⟩
      rw [← hx] at hc hrow hs
      obtain ⟨c0, c1, c2, c3⟩ := ty_cells hc
      have hvl : v.len ≤ 1048576 := by have h1 := hrow.1; have h2 := (HKS.out k hlt).1; rw [← hx] at h2; omega
      have hsl : s.len ≤ 1048576 := by have h1 := hs.1.1; have h2 := (HKS.out k hlt).2; rw [← hx] at h2; omega
      have HX : Hid (x = xs.getD k Pl.Ty.zero) := hx
      have HW : Hid (Row .i64 lo wr v.a v.len v.cap x.of) := hrow
      have HS : Hid (SRow lo wr s.a s.len s.cap x.names) := hs
      clear hc hx hrow hs
      go_wp2_with fail
      refine (toType_any x v s wr HW.out HS.out hvl hsl).mono ?_
      rintro e u1 ⟨v', s', rfl, o1, o2, d1⟩
      have hf1 : ∀ q, u1.frozen? ⟨w.heap.size, q, none⟩ = false := fun q => (d1.frozen (p := ⟨w.heap.size, q, none⟩) hz).trans (HF.out q)
      have HC1 : Hid (TMid w.heap.size len k u1 xs) := HC.out.keep hz d1
      obtain ⟨v0, s0, hk1, _⟩ := HC1.out k hlt
      rw [if_neg (Nat.lt_irrefl _)] at hk1
      obtain ⟨e0, e1, e2, e3⟩ := ty_cells hk1
      have HD : Hid (Below w.heap.size w u1 ∧ w.heap.size < u1.heap.size) := ⟨HB.out.trans (d1.mono HB.out.size), Nat.lt_of_lt_of_le hz d1.size⟩
      have HO : Hid (Row .i64 (w.heap.size + 1) u1 v'.a v'.len v'.cap x.of) := o1.lower (by omega)
      have HP : Hid (SRow (w.heap.size + 1) u1 s'.a s'.len s'.cap x.names) := o2.lower (by omega)
      clear hk1 d1 o1 o2 c0 c1 c2 c3 HC HF HB HW HS
      go_wp2_with fail
      go_roundw
      case rel =>
        refine ⟨k + 1, by omega, by go_num, ?_, ?_, ?_, ?_⟩
        · simp only [World.size_setCell]; exact HD.out.2
        · intro q; simp only [World.frozen?_setCell]; exact hf1 q
        · have hn := HC1.out.put hlt v' s' (by rw [← HX.out]; exact HO.out) (by rw [← HX.out]; exact HP.out)
          rw [← HX.out] at hn
          exact hn
        · exact set4_below HD.out.1 (Nat.le_refl _) (k * 4) x v' s'
      case measure => simp [intOf]; omega
    · have hkk : k = len := by omega
      have hi : ¬ ((k : Int) < (len : Int)) := by omega
      have HZ : Hid (w.heap.size < wr.heap.size) := hz
      go_wp2
      go_ret
      refine ⟨rfl, ⟨HR.out.1, Nat.le_refl _, by unfold maxLen; omega, .inr ⟨w.heap.size, 0, rfl, Nat.le_refl _, HZ.out, fun i hi => ?_⟩⟩, HB.out⟩
      obtain ⟨v, s, h1, h2, h3⟩ := HC.out i hi
      rw [if_pos (by omega)] at h1 h2 h3
      exact ⟨v, s, fun j hj => by rw [Nat.zero_add]; exact h1 j hj, h2.lower (by omega), h3.lower (by omega)⟩
end Go.Proofs.YtafcnijfoejboaaDoor.W
namespace Go.Proofs.YtafcnijfoejboaaDoor.W
open Go.RowKit
set_option maxHeartbeats 2000000 in
theorem eqType_same {lo lo2 : Nat} (x : Pl.Ty) (v s v2 s2 : SV) (w : World) (h : Row .i64 lo w v.a v.len v.cap x.of) (h2 : Row .i64 lo2 w v2.a v2.len v2.cap x.of) (g : SRow lo w s.a s.len s.cap x.names) (g2 : SRow lo2 w s2.a s2.len s2.cap x.names) :
    Calls Tryd.prog 16 #[.agg #[.int .i64 x.k, .int .i64 x.n, .slice v.a v.len v.cap, .slice s.a s.len s.cap], .agg #[.int .i64 x.k, .int .i64 x.n, .slice v2.a v2.len v2.cap, .slice s2.a s2.len s2.cap]] w fun e w' => e = .returned (.bool true) ∧ Below w.heap.size w w' := by
  have HR : Hid (Row .i64 lo w v.a v.len v.cap x.of) := h
  have HR2 : Hid (Row .i64 lo2 w v2.a v2.len v2.cap x.of) := h2
  have HS : Hid (SRow lo w s.a s.len s.cap x.names) := g
  have HS2 : Hid (SRow lo2 w s2.a s2.len s2.cap x.names) := g2
  clear h h2 g g2
  go_enter Tryd.func16, Tryd.ntmps16
  go_wp2_with fail
  refine ty_at fun u0 hu0 => ?_
  have p0 : u0.heap[w.heap.size]? = some (.cells #[.int .i64 x.k, .int .i64 x.n, .slice v.a v.len v.cap, .slice s.a s.len s.cap] 37) := by
    rw [hu0, Below.heap_alloc _ _ _ (by simp)]
    exact heap_alloc_new w _
  have q0 : u0.heap[w.heap.size + 1]? = some (.cells #[.int .i64 x.k, .int .i64 x.n, .slice v2.a v2.len v2.cap, .slice s2.a s2.len s2.cap] 37) := by
    rw [hu0]
    have := heap_alloc_new (w.alloc (.cells #[.int .i64 x.k, .int .i64 x.n, .slice v.a v.len v.cap, .slice s.a s.len s.cap] 37)) (.cells #[.int .i64 x.k, .int .i64 x.n, .slice v2.a v2.len v2.cap, .slice s2.a s2.len s2.cap] 37)
    simpa using this
  have hb : Below w.heap.size w u0 := by
    rw [hu0]
    exact ((Below.refl _ _).alloc (Nat.le_refl _) _).alloc (by simp) _
  have hz : w.heap.size + 1 < u0.heap.size := by rw [hu0]; simp
  clear hu0
  refine (eqIntS_any _ _ _ _ _ _ _ _ u0 (HR.out.keep hb) (HR2.out.keep hb)).mono ?_
  rintro e u1 ⟨rfl, d1⟩
  rw [show (x.of == x.of) = true from beq_self_eq_true _]
  have P1 := (d1.block _ (by omega)).trans p0
  have Q1 := (d1.block _ (by omega)).trans q0
  have kb : ∀ j, u1.cell? ⟨w.heap.size, j, none⟩ = (#[.int .i64 x.k, .int .i64 x.n, .slice v.a v.len v.cap, .slice s.a s.len s.cap] : Array Value)[j]? := fun j => cell_of_row u1 w.heap.size j _ 37 (0, 0) P1
  have kc : ∀ j, u1.cell? ⟨w.heap.size + 1, j, none⟩ = (#[.int .i64 x.k, .int .i64 x.n, .slice v2.a v2.len v2.cap, .slice s2.a s2.len s2.cap] : Array Value)[j]? := fun j => cell_of_row u1 (w.heap.size + 1) j _ 37 (0, 0) Q1
  have B1 : Hid (Below w.heap.size w u1) := hb.trans (d1.mono (by omega))
  clear d1 p0 q0 hb hz P1 Q1
  go_wp2_with (go_at_call 33; refine (eqStringS_same _ _ _ _ _ _ _ _ (HS.out.keep B1.out) (HS2.out.keep B1.out)).mono ?_; rintro e u2 ⟨rfl, d2⟩)
  go_ret
  exact ⟨rfl, B1.out.trans (d2.mono B1.out.size)⟩
set_option maxRecDepth 4000 in
set_option maxHeartbeats 4000000 in
theorem eqTypeS_same {lo lo2 : Nat} (a a' : Option Addr) (len cap cap' : Nat) (xs : List Pl.Ty) (w : World) (h : TRow lo w a len cap xs) (h' : TRow lo2 w a' len cap' xs) : Calls Tryd.prog 8 #[.slice a len cap, .slice a' len cap'] w fun e w' => e = .returned (.bool true) ∧ Below w.heap.size w w' := by
  have hm : (len : Int) ≤ 9223372036854775807 := by have := h.small; omega
  have HR : Hid (TRow lo w a len cap xs) := h
  have HR' : Hid (TRow lo2 w a' len cap' xs) := h'
  clear h h'
  go_enter Tryd.func8, Tryd.ntmps8
  go_wp2_with fail
  go_loopw [5] (fun i wr => ∃ k : Nat, k ≤ len ∧ i = .int .i64 k ∧ Below w.heap.size w wr) (fun i _ => len - (intOf i).toNat)
  case atStart => exact ⟨0, Nat.zero_le _, rfl, Below.refl _ _⟩
  case round =>
    obtain ⟨k, hk, rfl, hbel⟩ := hrel
    have HB : Hid (Below w.heap.size w wr) := hbel
    clear hbel
    by_cases hlt : k < len
    · have hi : (k : Int) < (len : Int) := by omega
      obtain ⟨b, off, v, s, rfl, hlo, hb1, hc, hrow, hs⟩ := (HR.out.keep HB.out).at hlt
      obtain ⟨b', off', v2, s2, rfl, hlo', hb1', hc', hrow', hs'⟩ := (HR'.out.keep HB.out).at hlt
      obtain ⟨x, hx⟩ : ∃ x, x = xs.getD k Pl.Ty.zero := ⟨_, rfl⟩
      rw [← hx] at hc hrow hc' hrow' hs hs'
      obtain ⟨c0, c1, c2, c3⟩ := ty_cells hc
      obtain ⟨g0, g1, g2, g3⟩ := ty_cells hc'
      have HE : Hid (∀ u : World, Below wr.heap.size wr u → Calls Tryd.prog 16 #[.agg #[.int .i64 x.k, .int .i64 x.n, .slice v.a v.len v.cap, .slice s.a s.len s.cap], .agg #[.int .i64 x.k, .int .i64 x.n, .slice v2.a v2.len v2.cap, .slice s2.a s2.len s2.cap]] u fun e w' => e = .returned (.bool true) ∧ Below u.heap.size u w') := fun u hu => eqType_same x v s v2 s2 u (hrow.keep hu) (hrow'.keep hu) (hs.keep hu) (hs'.keep hu)
      clear hc hc' hx hrow hrow' hs hs'
      have hU := Tryd.underlying37
      go_wp2_with fail
      go_region_with (go_at_call 16; refine (HE.out _ (by repeat (first | with_reducible exact Below.refl _ _ | refine Below.drew ?_ | refine below_drewN ?_ _))).mono ?_; rintro e u1 ⟨rfl, d1⟩)
      all_goals
        have D1 : Hid _ := d1
        clear d1 c0 c1 c2 c3 g0 g1 g2 g3
        go_wp2_with fail
        go_roundw
        case rel => exact ⟨k + 1, by omega, by go_num, Below.trans (by repeat (first | with_reducible exact HB.out | refine Below.drew ?_ | refine below_drewN ?_ _)) (D1.out.mono HB.out.size)⟩
        case measure => simp [intOf]; omega
    · have hkk : k = len := by omega
      have hi : ¬ ((k : Int) < (len : Int)) := by omega
      go_wp2
      go_ret
      exact ⟨rfl, HB.out⟩
end Go.Proofs.YtafcnijfoejboaaDoor.W
namespace Go.Proofs.YtafcnijfoejboaaDoor.Pl
def within (a b c : Int) : Bool := decide (b ≤ a ∧ a ≤ c)
def scal (k : Int) : Bool := decide (2 ≤ k ∧ k ≤ 8)
def tagd (k : Int) : Bool := decide (k = 10 ∨ k = 11)
def Ty.whole (x : Ty) : Bool := scal x.k || (decide (x.k = 9) && decide (0 < x.n)) || (tagd x.k && decide (0 < x.of.length))
structure TRule where
  lowN : Int
  highN : Int
  least : Int
  most : Int
  names : Bool
def TRule.cells (r : TRule) : Array Value := #[.int .i64 r.lowN, .int .i64 r.highN, .int .i64 r.least, .int .i64 r.most, .bool r.names]
def tRule (k : Int) : Option TRule :=
  if 1 ≤ k ∧ k ≤ 7 then some ⟨0, 0, 0, 0, false⟩
  else if k = 8 then some ⟨0, 0, 1, 1, false⟩
  else if k = 9 then some ⟨1, 60000, 1, 1, false⟩
  else if k = 10 ∨ k = 11 then some ⟨0, 0, 0, 100, true⟩
  else if k = 12 then some ⟨0, 0, 1, 9, false⟩
  else none
end Go.Proofs.YtafcnijfoejboaaDoor.Pl
namespace Go.Proofs.YtafcnijfoejboaaDoor.W
open Go.RowKit
theorem isWithin_any (a b c : Int) (w : World) : Calls Tryd.prog 27 #[.int .i64 a, .int .i64 b, .int .i64 c] w fun e w' => e = .returned (.bool (Pl.within a b c)) ∧ w' = w := by
  go_enter Tryd.func27, Tryd.ntmps27
  go_wp2
  all_goals (go_ret; refine ⟨ret_bool ?_, rfl⟩; rw [Bool.eq_iff_iff]; simp [Pl.within] <;> omega)
theorem isScalar_any (k : Int) (w : World) : Calls Tryd.prog 38 #[.int .i64 k] w fun e w' => e = .returned (.bool (Pl.scal k)) ∧ w' = w := by
  go_enter Tryd.func38, Tryd.ntmps38
  go_wp2_with (go_at_call 27; refine (isWithin_any _ _ _ _).mono ?_; rintro e u1 ⟨rfl, rfl⟩)
  go_ret
  exact ⟨rfl, rfl⟩
theorem isRecord_any (k : Int) (w : World) : Calls Tryd.prog 30 #[.int .i64 k] w fun e w' => e = .returned (.bool (Pl.tagd k)) ∧ w' = w := by
  go_enter Tryd.func30, Tryd.ntmps30
  go_wp2
  all_goals (go_ret; refine ⟨ret_bool ?_, rfl⟩; rw [Bool.eq_iff_iff]; simp [Pl.tagd] <;> omega)
theorem l7Scalar_any (k : Int) (w : World) : Calls Tryd.prog 20 #[.int .i64 k] w fun e w' => e = .returned (.bool (Pl.scal k)) ∧ w' = w := by
  go_enter Tryd.func20, Tryd.ntmps20
  go_wp2
  all_goals (go_ret; refine ⟨ret_bool ?_, rfl⟩; rw [Bool.eq_iff_iff]; simp [Pl.scal] <;> omega)
theorem l7Tagged_any (k : Int) (w : World) : Calls Tryd.prog 12 #[.int .i64 k] w fun e w' => e = .returned (.bool (Pl.tagd k)) ∧ w' = w := by
  go_enter Tryd.func12, Tryd.ntmps12
  go_wp2
  all_goals (go_ret; refine ⟨ret_bool ?_, rfl⟩; rw [Bool.eq_iff_iff]; simp [Pl.tagd] <;> omega)
set_option maxHeartbeats 2000000 in
theorem isComplete_any (x : Pl.Ty) (v s : SV) (hv : x.of.length = v.len) (w : World) : Calls Tryd.prog 37 #[.agg #[.int .i64 x.k, .int .i64 x.n, .slice v.a v.len v.cap, .slice s.a s.len s.cap]] w fun e w' => e = .returned (.bool x.whole) ∧ Below w.heap.size w w' := by
  cases hs : Pl.scal x.k
  · have hn : ¬ (2 ≤ x.k ∧ x.k ≤ 8) := by simpa [Pl.scal] using hs
    cases ht : Pl.tagd x.k
    · have hn2 : ¬ (x.k = 10 ∨ x.k = 11) := by simpa [Pl.tagd] using ht
      by_cases h9 : x.k = 9
      · obtain ⟨k, n, zs, nms⟩ := x
        simp only at h9 hs ht hn hn2 hv
        subst h9
        by_cases hp : 0 < n
        · go_enter Tryd.func37, Tryd.ntmps37
          go_wp2_with (first | (go_at_call 38; refine (isScalar_any _ _).mono ?_; rintro e u1 ⟨rfl, rfl⟩; rw [hs]) | (go_at_call 30; refine (isRecord_any _ _).mono ?_; rintro e u1 ⟨rfl, rfl⟩; rw [ht]))
          go_ret; exact ⟨ret_bool (by simp [Pl.Ty.whole, hs, ht, hp]), below_alloc _ _⟩
        · go_enter Tryd.func37, Tryd.ntmps37
          go_wp2_with (first | (go_at_call 38; refine (isScalar_any _ _).mono ?_; rintro e u1 ⟨rfl, rfl⟩; rw [hs]) | (go_at_call 30; refine (isRecord_any _ _).mono ?_; rintro e u1 ⟨rfl, rfl⟩; rw [ht]))
          go_ret; exact ⟨ret_bool (by first | (simp [Pl.Ty.whole, hs, ht]; done) | (simp [Pl.Ty.whole, hs, ht]; omega)), below_alloc _ _⟩
      · go_enter Tryd.func37, Tryd.ntmps37
        go_wp2_with (first | (go_at_call 38; refine (isScalar_any _ _).mono ?_; rintro e u1 ⟨rfl, rfl⟩; rw [hs]) | (go_at_call 30; refine (isRecord_any _ _).mono ?_; rintro e u1 ⟨rfl, rfl⟩; rw [ht]))
        go_ret; exact ⟨ret_bool (by simp [Pl.Ty.whole, hs, ht, h9]), below_alloc _ _⟩
    · have hn2 : x.k = 10 ∨ x.k = 11 := by simpa [Pl.tagd] using ht
      have h9 : ¬ (x.k = 9) := by omega
      go_enter Tryd.func37, Tryd.ntmps37
      go_wp2_with (first | (go_at_call 38; refine (isScalar_any _ _).mono ?_; rintro e u1 ⟨rfl, rfl⟩; rw [hs]) | (go_at_call 30; refine (isRecord_any _ _).mono ?_; rintro e u1 ⟨rfl, rfl⟩; rw [ht]))
      all_goals (go_ret; refine ⟨ret_bool ?_, below_alloc _ _⟩; rw [Bool.eq_iff_iff]; simp [Pl.Ty.whole, hs, ht, h9, hv] <;> omega)
  · have hn : 2 ≤ x.k ∧ x.k ≤ 8 := by simpa [Pl.scal] using hs
    go_enter Tryd.func37, Tryd.ntmps37
    go_wp2_with (go_at_call 38; refine (isScalar_any _ _).mono ?_; rintro e u1 ⟨rfl, rfl⟩; rw [hs])
    all_goals (go_ret; refine ⟨ret_bool ?_, below_alloc _ _⟩; simp [Pl.Ty.whole, hs])
end Go.Proofs.YtafcnijfoejboaaDoor.W
