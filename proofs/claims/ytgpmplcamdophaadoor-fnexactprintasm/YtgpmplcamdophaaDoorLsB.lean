import Derived.Test.YtgpmplcamdophaaDoorLsA
import Derived.Test.YtgpmplcamdophaaDoorLnF
import Derived.Laws.MakeOwn
import Derived.Laws.OwnMore
set_option linter.unusedVariables false
set_option linter.unusedSimpArgs false
namespace Go.Proofs.YtgpmplcamdophaaDoor.W
open Go.RowKit
/-- a slice of lines in a block of its own from lo on -/
def LOwn (lo : Nat) (w : World) (a : Option Addr) (len : Nat) (xs : List Pl.Ln) : Prop :=
  (xs.length = len ∧ ∀ x ∈ xs, x.s.size ≤ maxLen) ∧ len ≤ maxLen ∧ ∃ b, a = some ⟨b, 0, none⟩ ∧ lo ≤ b ∧ b < w.heap.size ∧ (∀ i, w.frozen? ⟨b, i, none⟩ = false) ∧ ∀ i, i < len → ∀ j, j < 8 → w.cell? ⟨b, i * 8 + j, none⟩ = (xs.getD i Pl.Ln.zero).cells[j]?
theorem LOwn.row {lo : Nat} {w : World} {a : Option Addr} {len : Nat} {xs : List Pl.Ln} (h : LOwn lo w a len xs) : LRow lo w a len len xs := by
  obtain ⟨h1, h2, b, ha, hlo, hlt, _, hc⟩ := h
  exact ⟨h1, Nat.le_refl _, h2, .inr ⟨b, 0, ha, hlo, hlt, fun i hi j hj => by rw [Nat.zero_add]; exact hc i hi j hj⟩⟩
theorem ne_off {g p q : Nat} (h : p ≠ q) : (⟨g, p, none⟩ : Addr) ≠ ⟨g, q, none⟩ := fun e => h (by injection e)
theorem set8_out {u : World} {g o q : Nat} (x : Pl.Ln) (h : q < o ∨ o + 8 ≤ q) : ((((((((u.setCell ⟨g, o, none⟩ (.int .i64 x.k)).setCell ⟨g, o + 1, none⟩ (.int .i64 x.op)).setCell ⟨g, o + 2, none⟩ (.int .i64 x.rd)).setCell ⟨g, o + 3, none⟩ (.int .i64 x.r1)).setCell ⟨g, o + 4, none⟩ (.int .i64 x.r2)).setCell ⟨g, o + 5, none⟩ (.int .i64 x.im)).setCell ⟨g, o + 6, none⟩ (.string x.s)).setCell ⟨g, o + 7, none⟩ (.int .i64 x.n)).cell? ⟨g, q, none⟩ = u.cell? ⟨g, q, none⟩ := by
  rw [World.cell?_setCell_other _ _ _ _ (ne_off (by omega)), World.cell?_setCell_other _ _ _ _ (ne_off (by omega)), World.cell?_setCell_other _ _ _ _ (ne_off (by omega)), World.cell?_setCell_other _ _ _ _ (ne_off (by omega)), World.cell?_setCell_other _ _ _ _ (ne_off (by omega)), World.cell?_setCell_other _ _ _ _ (ne_off (by omega)), World.cell?_setCell_other _ _ _ _ (ne_off (by omega)), World.cell?_setCell_other _ _ _ _ (ne_off (by omega))]
theorem isSome_set {u : World} {p q : Addr} {v : Value} (h : (u.cell? q).isSome = true) : ((u.setCell p v).cell? q).isSome = true := by
  obtain ⟨x, hx⟩ := Option.isSome_iff_exists.1 h
  obtain ⟨y, hy⟩ := cell?_setCell_some (p := p) (x := v) hx
  rw [hy]; rfl
theorem set8_in {u : World} {g o : Nat} (x : Pl.Ln) (h : ∀ j, j < 8 → (u.cell? ⟨g, o + j, none⟩).isSome = true) (j : Nat) (hj : j < 8) : ((((((((u.setCell ⟨g, o, none⟩ (.int .i64 x.k)).setCell ⟨g, o + 1, none⟩ (.int .i64 x.op)).setCell ⟨g, o + 2, none⟩ (.int .i64 x.rd)).setCell ⟨g, o + 3, none⟩ (.int .i64 x.r1)).setCell ⟨g, o + 4, none⟩ (.int .i64 x.r2)).setCell ⟨g, o + 5, none⟩ (.int .i64 x.im)).setCell ⟨g, o + 6, none⟩ (.string x.s)).setCell ⟨g, o + 7, none⟩ (.int .i64 x.n)).cell? ⟨g, o + j, none⟩ = x.cells[j]? := by
  have t := h j hj
  rcases (show j = 0 ∨ j = 1 ∨ j = 2 ∨ j = 3 ∨ j = 4 ∨ j = 5 ∨ j = 6 ∨ j = 7 by omega) with rfl | rfl | rfl | rfl | rfl | rfl | rfl | rfl
  · change World.cell? _ ⟨g, o, none⟩ = _
    rw [World.cell?_setCell_other _ _ _ _ (ne_off (by omega)), World.cell?_setCell_other _ _ _ _ (ne_off (by omega)), World.cell?_setCell_other _ _ _ _ (ne_off (by omega)), World.cell?_setCell_other _ _ _ _ (ne_off (by omega)), World.cell?_setCell_other _ _ _ _ (ne_off (by omega)), World.cell?_setCell_other _ _ _ _ (ne_off (by omega)), World.cell?_setCell_other _ _ _ _ (ne_off (by omega))]
    rw [World.cell?_setCell_same' _ _ _ (show (u.cell? ⟨g, o, none⟩).isSome = true from t)]
    rfl
  · rw [World.cell?_setCell_other _ _ _ _ (ne_off (by omega)), World.cell?_setCell_other _ _ _ _ (ne_off (by omega)), World.cell?_setCell_other _ _ _ _ (ne_off (by omega)), World.cell?_setCell_other _ _ _ _ (ne_off (by omega)), World.cell?_setCell_other _ _ _ _ (ne_off (by omega)), World.cell?_setCell_other _ _ _ _ (ne_off (by omega))]
    rw [World.cell?_setCell_same' _ _ _ (isSome_set (t))]
    rfl
  · rw [World.cell?_setCell_other _ _ _ _ (ne_off (by omega)), World.cell?_setCell_other _ _ _ _ (ne_off (by omega)), World.cell?_setCell_other _ _ _ _ (ne_off (by omega)), World.cell?_setCell_other _ _ _ _ (ne_off (by omega)), World.cell?_setCell_other _ _ _ _ (ne_off (by omega))]
    rw [World.cell?_setCell_same' _ _ _ (isSome_set (isSome_set (t)))]
    rfl
  · rw [World.cell?_setCell_other _ _ _ _ (ne_off (by omega)), World.cell?_setCell_other _ _ _ _ (ne_off (by omega)), World.cell?_setCell_other _ _ _ _ (ne_off (by omega)), World.cell?_setCell_other _ _ _ _ (ne_off (by omega))]
    rw [World.cell?_setCell_same' _ _ _ (isSome_set (isSome_set (isSome_set (t))))]
    rfl
  · rw [World.cell?_setCell_other _ _ _ _ (ne_off (by omega)), World.cell?_setCell_other _ _ _ _ (ne_off (by omega)), World.cell?_setCell_other _ _ _ _ (ne_off (by omega))]
    rw [World.cell?_setCell_same' _ _ _ (isSome_set (isSome_set (isSome_set (isSome_set (t)))))]
    rfl
  · rw [World.cell?_setCell_other _ _ _ _ (ne_off (by omega)), World.cell?_setCell_other _ _ _ _ (ne_off (by omega))]
    rw [World.cell?_setCell_same' _ _ _ (isSome_set (isSome_set (isSome_set (isSome_set (isSome_set (t))))))]
    rfl
  · rw [World.cell?_setCell_other _ _ _ _ (ne_off (by omega))]
    rw [World.cell?_setCell_same' _ _ _ (isSome_set (isSome_set (isSome_set (isSome_set (isSome_set (isSome_set (t)))))))]
    rfl
  · rw [World.cell?_setCell_same' _ _ _ (isSome_set (isSome_set (isSome_set (isSome_set (isSome_set (isSome_set (isSome_set (t))))))))]
    rfl
theorem below_alloc2 (w : World) (o : Obj) : Below w.heap.size w (w.alloc o) := (Below.refl _ _).alloc (Nat.le_refl _) _
set_option maxHeartbeats 2000000 in
theorem toLineS_any {lo : Nat} (a : Option Addr) (len cap : Nat) (xs : List Pl.Ln) (w : World) (h : LRow lo w a len cap xs) (hl : len ≤ 1048576) : Calls Tryd.prog 9 #[.slice a len cap] w fun e w' => e = .returned (.slice (some ⟨w.heap.size, 0, none⟩) len len) ∧ LOwn w.heap.size w' (some ⟨w.heap.size, 0, none⟩) len xs ∧ Below w.heap.size w w' := by
  obtain ⟨h1, h2, h3, h4⟩ := h
  have H4 : Hid (len = 0 ∨ ∃ b off, a = some ⟨b, off, none⟩ ∧ lo ≤ b ∧ b < w.heap.size ∧ ∀ i, i < len → ∀ j, j < 8 → w.cell? ⟨b, off + i * 8 + j, none⟩ = (xs.getD i Pl.Ln.zero).cells[j]?) := h4
  have H1 : Hid (xs.length = len ∧ ∀ x ∈ xs, x.s.size ≤ maxLen) := h1
  clear h4 h1
  have hinfo : (Tryd.prog.info? 46).map (fun i => (i.zero, i.size, i.bytes)) = some (some (.agg #[.int .i64 0, .int .i64 0, .int .i64 0, .int .i64 0, .int .i64 0, .int .i64 0, .string ⟨#[]⟩, .int .i64 0]), 8, 72) := by kernel_rfl
  obtain ⟨i0, hi0, hz0, hz1, hz2⟩ := info_parts hinfo
  have hm : ∀ u : World, (Instr.makeSlice 29 (.int .i64 (len : Int)) (.int .i64 (len : Int))).run Tryd.prog u = .ok (.slice (some ⟨u.heap.size, 0, none⟩) len len) (u.alloc (.cells (madeCells #[.int .i64 0, .int .i64 0, .int .i64 0, .int .i64 0, .int .i64 0, .int .i64 0, .string ⟨#[]⟩, .int .i64 0] (len * 8)) 46)) := fun u => by
    have := run_makeSlice u 29 46 i0 _ Tryd.underlying29 hi0 hz0 .i64 .i64 (len : Int) (len : Int) (by omega) (by omega) (by rw [hz1]; simp; omega) (by rw [hz2]; omega) (by omega)
    rw [hz1, Int.toNat_natCast] at this
    exact this
  clear hinfo hi0 hz0 hz1 hz2
  go_enter Tryd.func9, Tryd.ntmps9
  go_wp2_with fail
  clear hm
  go_loopw [4] (fun i wr => ∃ k : Nat, k ≤ len ∧ i = .int .i64 k ∧ w.heap.size < wr.heap.size ∧ (∀ q, wr.frozen? ⟨w.heap.size, q, none⟩ = false) ∧ (∀ i, i < len → ∀ j, j < 8 → wr.cell? ⟨w.heap.size, i * 8 + j, none⟩ = (if i < k then xs.getD i Pl.Ln.zero else Pl.Ln.zero).cells[j]?) ∧ Below w.heap.size w wr) (fun i _ => len - (intOf i).toNat)
  case atStart =>
    refine ⟨0, Nat.zero_le _, rfl, by simp, fun q => frozen_of_row _ _ _ _ _ (heap_alloc_new w _), fun i hi j hj => ?_, below_alloc2 w _⟩
    rw [cell_of_row _ _ _ _ _ (0, 0) (heap_alloc_new w _), if_neg (Nat.not_lt_zero _)]
    have e : (i * 8 + j) % 8 = j := by omega
    have hb : i * 8 + j < len * 8 := by omega
    unfold madeCells
    rw [Array.getElem?_map, Array.getElem?_range, if_pos hb]
    simp only [Option.map_some, List.size_toArray, List.length_cons, List.length_nil, e]
    rcases (show j = 0 ∨ j = 1 ∨ j = 2 ∨ j = 3 ∨ j = 4 ∨ j = 5 ∨ j = 6 ∨ j = 7 by omega) with rfl | rfl | rfl | rfl | rfl | rfl | rfl | rfl <;> rfl
  case round =>
    obtain ⟨k, hk, rfl, hz, hfr, hcs, hbel⟩ := hrel
    have HC : Hid (∀ i, i < len → ∀ j, j < 8 → wr.cell? ⟨w.heap.size, i * 8 + j, none⟩ = (if i < k then xs.getD i Pl.Ln.zero else Pl.Ln.zero).cells[j]?) := hcs
    have HF : Hid (∀ q, wr.frozen? ⟨w.heap.size, q, none⟩ = false) := hfr
    have HB : Hid (Below w.heap.size w wr) := hbel
    clear hcs hbel hfr
    by_cases hlt : k < len
    · have hi : (k : Int) < (len : Int) := by omega
      obtain ⟨b, off, rfl, hlo, hb1, hcell⟩ : ∃ b off, a = some ⟨b, off, none⟩ ∧ lo ≤ b ∧ b < w.heap.size ∧ ∀ i, i < len → ∀ j, j < 8 → w.cell? ⟨b, off + i * 8 + j, none⟩ = (xs.getD i Pl.Ln.zero).cells[j]? := by
        rcases H4.out with h | h
        · omega
        · exact h
      obtain ⟨x, hx⟩ : ∃ x, x = xs.getD k Pl.Ln.zero := ⟨_, rfl⟩
      have hc : ∀ j, j < 8 → wr.cell? ⟨b, off + k * 8 + j, none⟩ = x.cells[j]? := fun j hj => by rw [hx]; exact (HB.out.cell (p := ⟨b, off + k * 8 + j, none⟩) hb1).trans (hcell k hlt j hj)
      have c0 : wr.cell? ⟨b, off + k * 8, none⟩ = some (.int .i64 x.k) := hc 0 (by decide)
      have c1 : wr.cell? ⟨b, off + k * 8 + 1, none⟩ = some (.int .i64 x.op) := hc 1 (by decide)
      have c2 : wr.cell? ⟨b, off + k * 8 + 2, none⟩ = some (.int .i64 x.rd) := hc 2 (by decide)
      have c3 : wr.cell? ⟨b, off + k * 8 + 3, none⟩ = some (.int .i64 x.r1) := hc 3 (by decide)
      have c4 : wr.cell? ⟨b, off + k * 8 + 4, none⟩ = some (.int .i64 x.r2) := hc 4 (by decide)
      have c5 : wr.cell? ⟨b, off + k * 8 + 5, none⟩ = some (.int .i64 x.im) := hc 5 (by decide)
      have c6 : wr.cell? ⟨b, off + k * 8 + 6, none⟩ = some (.string x.s) := hc 6 (by decide)
      have c7 : wr.cell? ⟨b, off + k * 8 + 7, none⟩ = some (.int .i64 x.n) := hc 7 (by decide)
      have HX : Hid (x = xs.getD k Pl.Ln.zero) := hx
      clear hc hcell hx
      go_wp2_with fail
      refine (toLine_any x.k x.op x.rd x.r1 x.r2 x.im x.n x.s wr).mono ?_
      rintro e u1 ⟨rfl, d1⟩
      have hf1 : ∀ q, u1.frozen? ⟨w.heap.size, q, none⟩ = false := fun q => (d1.frozen (p := ⟨w.heap.size, q, none⟩) hz).trans (HF.out q)
      have hc1 : ∀ i, i < len → ∀ j, j < 8 → u1.cell? ⟨w.heap.size, i * 8 + j, none⟩ = (if i < k then xs.getD i Pl.Ln.zero else Pl.Ln.zero).cells[j]? := fun i hi j hj => (d1.cell (p := ⟨w.heap.size, i * 8 + j, none⟩) hz).trans (HC.out i hi j hj)
      have hk1 : ∀ j, j < 8 → u1.cell? ⟨w.heap.size, k * 8 + j, none⟩ = Pl.Ln.zero.cells[j]? := fun j hj => by rw [hc1 k hlt j hj, if_neg (Nat.lt_irrefl _)]
      have HC1 : Hid (∀ i, i < len → ∀ j, j < 8 → u1.cell? ⟨w.heap.size, i * 8 + j, none⟩ = (if i < k then xs.getD i Pl.Ln.zero else Pl.Ln.zero).cells[j]?) := hc1
      have e0 : u1.cell? ⟨w.heap.size, k * 8, none⟩ = some (.int .i64 0) := hk1 0 (by decide)
      have e1 : u1.cell? ⟨w.heap.size, k * 8 + 1, none⟩ = some (.int .i64 0) := hk1 1 (by decide)
      have e2 : u1.cell? ⟨w.heap.size, k * 8 + 2, none⟩ = some (.int .i64 0) := hk1 2 (by decide)
      have e3 : u1.cell? ⟨w.heap.size, k * 8 + 3, none⟩ = some (.int .i64 0) := hk1 3 (by decide)
      have e4 : u1.cell? ⟨w.heap.size, k * 8 + 4, none⟩ = some (.int .i64 0) := hk1 4 (by decide)
      have e5 : u1.cell? ⟨w.heap.size, k * 8 + 5, none⟩ = some (.int .i64 0) := hk1 5 (by decide)
      have e6 : u1.cell? ⟨w.heap.size, k * 8 + 6, none⟩ = some (.string ⟨#[]⟩) := hk1 6 (by decide)
      have e7 : u1.cell? ⟨w.heap.size, k * 8 + 7, none⟩ = some (.int .i64 0) := hk1 7 (by decide)
      have HD : Hid (Below w.heap.size w u1 ∧ w.heap.size < u1.heap.size) := ⟨HB.out.trans (d1.mono HB.out.size), Nat.lt_of_lt_of_le hz d1.size⟩
      have HK1 : Hid (∀ j, j < 8 → u1.cell? ⟨w.heap.size, k * 8 + j, none⟩ = Pl.Ln.zero.cells[j]?) := hk1
      clear hc1 hk1 d1 c0 c1 c2 c3 c4 c5 c6 c7 HC HF HB
      go_wp2_with fail
      go_roundw
      case rel =>
        have hsm : ∀ j, j < 8 → (u1.cell? ⟨w.heap.size, k * 8 + j, none⟩).isSome = true := fun j hj => by rw [HK1.out j hj]; rcases (show j = 0 ∨ j = 1 ∨ j = 2 ∨ j = 3 ∨ j = 4 ∨ j = 5 ∨ j = 6 ∨ j = 7 by omega) with rfl | rfl | rfl | rfl | rfl | rfl | rfl | rfl <;> rfl
        have sin := fun j hj => set8_in (u := u1) (g := w.heap.size) (o := k * 8) x hsm j hj
        have sout := fun q hq => set8_out (u := u1) (g := w.heap.size) (o := k * 8) (q := q) x hq
        have sbel := ((((((((HD.out.1.setCell (p := ⟨w.heap.size, k * 8, none⟩) (Nat.le_refl _) (.int .i64 x.k)).setCell (p := ⟨w.heap.size, k * 8 + 1, none⟩) (Nat.le_refl _) (.int .i64 x.op)).setCell (p := ⟨w.heap.size, k * 8 + 2, none⟩) (Nat.le_refl _) (.int .i64 x.rd)).setCell (p := ⟨w.heap.size, k * 8 + 3, none⟩) (Nat.le_refl _) (.int .i64 x.r1)).setCell (p := ⟨w.heap.size, k * 8 + 4, none⟩) (Nat.le_refl _) (.int .i64 x.r2)).setCell (p := ⟨w.heap.size, k * 8 + 5, none⟩) (Nat.le_refl _) (.int .i64 x.im)).setCell (p := ⟨w.heap.size, k * 8 + 6, none⟩) (Nat.le_refl _) (.string x.s)).setCell (p := ⟨w.heap.size, k * 8 + 7, none⟩) (Nat.le_refl _) (.int .i64 x.n))
        refine ⟨k + 1, by omega, by go_num, ?_, ?_, ?_, sbel⟩
        · simp only [World.size_setCell]; exact HD.out.2
        · intro q; simp only [World.frozen?_setCell]; exact hf1 q
        · intro i hi j hj
          by_cases e : i = k
          · subst e
            rw [if_pos (Nat.lt_succ_self _), ← HX.out]
            exact sin j hj
          · refine (sout _ (by omega)).trans ((HC1.out i hi j hj).trans ?_)
            by_cases e' : i < k
            · rw [if_pos e', if_pos (by omega)]
            · rw [if_neg e', if_neg (by omega)]
      case measure => simp [intOf]; omega
    · have hkk : k = len := by omega
      have hi : ¬ ((k : Int) < (len : Int)) := by omega
      have HZ : Hid (w.heap.size < wr.heap.size) := hz
      go_wp2
      go_ret
      refine ⟨rfl, ⟨H1.out, by unfold maxLen; omega, w.heap.size, rfl, Nat.le_refl _, HZ.out, HF.out, fun i hi j hj => ?_⟩, HB.out⟩
      rw [HC.out i hi j hj, if_pos (by omega)]
end Go.Proofs.YtgpmplcamdophaaDoor.W
