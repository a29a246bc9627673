import Derived.Test.YtafcnijfoejboaaDoorP09
import Derived.Test.YtafcnijfoejboaaDoorP10
set_option linter.unusedVariables false
set_option linter.unusedSimpArgs false
namespace Go.Proofs.YtafcnijfoejboaaDoor.Pl
structure La where
  whole : Bool
  size : Int
  align : Int
def La.zero : La := ⟨false, 0, 0⟩
def La.cells (x : La) (v : W.SV) : Array Value := #[.bool x.whole, .int .i64 x.size, .int .i64 x.align, .slice v.a v.len v.cap]
def La.ok (x : La) : Prop := x.whole = true → (0 ≤ x.size ∧ x.size ≤ 60001) ∧ (1 ≤ x.align ∧ x.align ≤ 4)
def capn (n : Int) : Int := if 60000 < n then 60001 else n
def up (n a : Int) : Int := (n + a - 1).tdiv a * a
theorem capn_bdd {n : Int} (h : 0 ≤ n) : 0 ≤ capn n ∧ capn n ≤ 60001 := by unfold capn; split <;> omega
theorem up_bdd {n a : Int} (h : 0 ≤ n) (h2 : 1 ≤ a ∧ a ≤ 4) : 0 ≤ up n a ∧ up n a ≤ n + 3 := by
  unfold up
  rw [Int.tdiv_eq_ediv_of_nonneg (by omega)]
  have h3 : a = 1 ∨ a = 2 ∨ a = 3 ∨ a = 4 := by omega
  rcases h3 with rfl | rfl | rfl | rfl <;> omega
end Go.Proofs.YtafcnijfoejboaaDoor.Pl
namespace Go.Proofs.YtafcnijfoejboaaDoor.W
open Go.RowKit
def LaRow (w : World) (lb len : Nat) (L : List Pl.La) : Prop := L.length = len ∧ lb < w.heap.size ∧ ∀ i, i < len → ∃ v : SV, ∀ j, j < 4 → w.cell? ⟨lb, i * 4 + j, none⟩ = ((L.getD i Pl.La.zero).cells v)[j]?
theorem LaRow.keep {w w' : World} {lb len : Nat} {L : List Pl.La} (h : LaRow w lb len L) (hb : Below w.heap.size w w') : LaRow w' lb len L :=
  ⟨h.1, Nat.lt_of_lt_of_le h.2.1 hb.size, fun i hi => by
    obtain ⟨v, hv⟩ := h.2.2 i hi
    exact ⟨v, fun j hj => (hb.cell (p := ⟨lb, i * 4 + j, none⟩) h.2.1).trans (hv j hj)⟩⟩
theorem LaRow.at {w : World} {lb len : Nat} {L : List Pl.La} (h : LaRow w lb len L) {i : Nat} (hi : i < len) : ∃ v : SV, w.cell? ⟨lb, i * 4, none⟩ = some (.bool (L.getD i Pl.La.zero).whole) ∧ w.cell? ⟨lb, i * 4 + 1, none⟩ = some (.int .i64 (L.getD i Pl.La.zero).size) ∧ w.cell? ⟨lb, i * 4 + 2, none⟩ = some (.int .i64 (L.getD i Pl.La.zero).align) ∧ w.cell? ⟨lb, i * 4 + 3, none⟩ = some (.slice v.a v.len v.cap) := by
  obtain ⟨v, hv⟩ := h.2.2 i hi
  exact ⟨v, hv 0 (by decide), hv 1 (by decide), hv 2 (by decide), hv 3 (by decide)⟩
theorem l7Cap_any (n : Int) (w : World) : Calls Tryd.prog 21 #[.int .i64 n] w fun e w' => e = .returned (.int .i64 (Pl.capn n)) ∧ w' = w := by
  by_cases h : 60000 < n
  · go_enter Tryd.func21, Tryd.ntmps21
    go_wp2
    go_ret
    exact ⟨by unfold Pl.capn; rw [if_pos h]; rfl, rfl⟩
  · go_enter Tryd.func21, Tryd.ntmps21
    go_wp2
    go_ret
    exact ⟨by unfold Pl.capn; rw [if_neg (by omega)]; rfl, rfl⟩
theorem l7Up_any (n a : Int) (h : 0 ≤ n ∧ n ≤ 60001) (h2 : 1 ≤ a ∧ a ≤ 4) (w : World) : Calls Tryd.prog 36 #[.int .i64 n, .int .i64 a] w fun e w' => e = .returned (.int .i64 (Pl.up n a)) ∧ w' = w := by
  have hb := Pl.up_bdd h.1 h2
  have hne : a ≠ 0 := by omega
  have HU : Hid (Pl.up n a = (n + a - 1).tdiv a * a) := rfl
  have hd0 : 0 ≤ (n + a - 1).tdiv a := Int.tdiv_nonneg (by omega) (by omega)
  have hd1 : (n + a - 1).tdiv a ≤ 60005 := by
    rw [Int.tdiv_eq_ediv_of_nonneg (by omega)]
    exact Int.le_trans (Int.ediv_le_self _ (by omega)) (by omega)
  have hw : IntKind.i64.wrap ((n + a - 1).tdiv a * a) = (n + a - 1).tdiv a * a := by
    rw [IntKind.wrap_i64]
    unfold Pl.up at hb
    generalize (n + a - 1).tdiv a * a = y at hb
    omega
  go_enter Tryd.func36, Tryd.ntmps36
  go_wp2
  go_ret
  refine ⟨?_, rfl⟩
  rw [HU.out]
  first | rfl | (congr 2; exact hw) | skip
set_option maxHeartbeats 2000000 in
set_option maxRecDepth 8000 in
theorem l7All_any {lo lb len : Nat} (kk nn : Int) (v s : SV) (zs : List Int) (L : List Pl.La) (w : World) (hrow : Row .i64 lo w v.a v.len v.cap zs) (hL : LaRow w lb len L) (hlen : len ≤ 2000) (hz : ∀ p, p < zs.length → 0 ≤ zs.getD p 0 ∧ zs.getD p 0 < len) :
    Calls Tryd.prog 22 #[.agg #[.int .i64 kk, .int .i64 nn, .slice v.a v.len v.cap, .slice s.a s.len s.cap], .slice (some ⟨lb, 0, none⟩) len len] w fun e w' => e = .returned (.bool (decide (∀ p, p < zs.length → (L.getD (zs.getD p 0).toNat Pl.La.zero).whole = true))) ∧ Below w.heap.size w w' := by
  have hvl : (v.len : Int) ≤ 9223372036854775807 := by have := hrow.small; omega
  have HR : Hid (Row .i64 lo w v.a v.len v.cap zs) := hrow
  have HZ : Hid (∀ p, p < zs.length → 0 ≤ zs.getD p 0 ∧ zs.getD p 0 < len) := hz
  have HL : Hid (zs.length = v.len) := hrow.1
  have HA : Hid (LaRow w lb len L) := hL
  clear hrow hz hL
  obtain ⟨va, vl, vc⟩ := v
  simp only at HR HL hvl ⊢
  go_enter Tryd.func22, Tryd.ntmps22
  go_wp2_with fail
  go_loopw [5] (fun i wr => ∃ k : Nat, k ≤ vl ∧ i = .int .i64 k ∧ wr = w.alloc (.cells #[.int .i64 kk, .int .i64 nn, .slice va vl vc, .slice s.a s.len s.cap] 37) ∧ Hid (∀ p, p < k → (L.getD (zs.getD p 0).toNat Pl.La.zero).whole = true)) (fun i _ => vl - (intOf i).toNat)
  case atStart => exact ⟨0, Nat.zero_le _, rfl, rfl, fun p hp => absurd hp (Nat.not_lt_zero _)⟩
  case round =>
    obtain ⟨k, hk, rfl, rfl, H⟩ := hrel
    by_cases hlt : k < vl
    · have hi : (k : Int) < (vl : Int) := by omega
      have hkz : k < zs.length := by rw [HL.out]; exact hlt
      obtain ⟨b2, o2, rfl, _, hb2, hcp⟩ := (HR.out.2.2.2.2).resolve_left (by omega)
      have hc := hcp k hlt
      obtain ⟨z, hzz⟩ : ∃ z, z = zs.getD k 0 := ⟨_, rfl⟩
      rw [← hzz] at hc
      have hz0 : 0 ≤ z ∧ z < len := by rw [hzz]; exact HZ.out k hkz
      obtain ⟨j, rfl⟩ : ∃ j : Nat, z = j := ⟨z.toNat, by omega⟩
      have HJ : Hid (zs.getD k 0 = (j : Int)) := hzz.symm
      have hjl : (j : Int) < (len : Int) := by omega
      obtain ⟨v2, q0, _, _, _⟩ := HA.out.at (i := j) (by omega)
      have hlb : lb < w.heap.size := HA.out.2.1
      clear hzz hcp hz0
      cases hwh : (L.getD j Pl.La.zero).whole
      · rw [hwh] at q0
        go_wp2_with fail
        go_ret
        refine ⟨ret_bool (decide_eq_false (fun hc => ?_)).symm, below_alloc _ _⟩
        have := hc k hkz
        rw [HJ.out, Int.toNat_natCast, hwh] at this
        cases this
      · rw [hwh] at q0
        go_wp2_with fail
        go_roundw
        case rel => exact ⟨k + 1, by omega, by go_num, by first | rfl | trivial, fun p hp => by
          by_cases e : p = k
          · rw [e, HJ.out, Int.toNat_natCast]; exact hwh
          · exact H.out p (by omega)⟩
        case measure => simp [intOf]; omega
    · have hke : k = vl := by omega
      have hi : ¬ ((k : Int) < (vl : Int)) := by omega
      go_wp2_with fail
      go_ret
      exact ⟨ret_bool (decide_eq_true (fun p hp => H.out p (by rw [HL.out] at hp; omega))).symm, below_alloc _ _⟩
end Go.Proofs.YtafcnijfoejboaaDoor.W
namespace Go.Proofs.YtafcnijfoejboaaDoor.Pl
def flStep (kk : Int) (acc g : Int × Int) : Int × Int := (if kk = 10 then capn (capn (up acc.1 g.2) + g.1) else if acc.1 < g.1 then g.1 else acc.1, if acc.2 < g.2 then g.2 else acc.2)
def fl (kk : Int) (G : Nat → Int × Int) : Nat → Int × Int
  | 0 => (0, 1)
  | n + 1 => flStep kk (fl kk G n) (G n)
def flds (kk : Int) (G : Nat → Int × Int) (n : Nat) : Int × Int := (capn (up (fl kk G n).1 (fl kk G n).2), (fl kk G n).2)
def nb (g : Int × Int) : Prop := (0 ≤ g.1 ∧ g.1 ≤ 60001) ∧ (1 ≤ g.2 ∧ g.2 ≤ 4)
theorem flStep_nb {kk : Int} {acc g : Int × Int} (h : nb acc) (hg : nb g) : nb (flStep kk acc g) := by
  obtain ⟨a, b⟩ := acc
  obtain ⟨c, d⟩ := g
  obtain ⟨⟨h1, h2⟩, h3, h4⟩ := h
  obtain ⟨⟨g1, g2⟩, g3, g4⟩ := hg
  simp only at h1 h2 h3 h4 g1 g2 g3 g4
  unfold flStep nb
  simp only
  refine ⟨?_, ?_⟩
  · split
    · exact capn_bdd (by have := (capn_bdd (up_bdd h1 ⟨g3, g4⟩).1).1; omega)
    · split <;> omega
  · split <;> omega
theorem fl_nb {kk : Int} {G : Nat → Int × Int} : ∀ n, (∀ p, p < n → nb (G p)) → nb (fl kk G n)
  | 0, _ => show nb ((0 : Int), (1 : Int)) from ⟨⟨by decide, by decide⟩, by decide, by decide⟩
  | n + 1, h => flStep_nb (fl_nb n (fun p hp => h p (by omega))) (h n (by omega))
theorem flds_nb {kk : Int} {G : Nat → Int × Int} {n : Nat} (h : ∀ p, p < n → nb (G p)) : nb (flds kk G n) := by
  have := fl_nb (kk := kk) n h
  exact ⟨capn_bdd (up_bdd this.1.1 this.2).1, this.2⟩
end Go.Proofs.YtafcnijfoejboaaDoor.Pl
namespace Go.Proofs.YtafcnijfoejboaaDoor.W
open Go.RowKit
structure FSt (w : World) (tc : Array Value) (sz al : Int) (v : Value) (k : Nat) (u : World) : Prop where
  b : Below w.heap.size w u
  t : u.heap[w.heap.size]? = some (.cells tc 37 (0, 0))
  r : u.heap[w.heap.size + 1]? = some (.cells #[.bool false, .int .i64 0, .int .i64 0, .slice none 0 0] 40 (0, 0))
  o : u.heap[w.heap.size + 2]? = some (.cells #[.bool true, .int .i64 sz, .int .i64 al, v] 40 (0, 0))
  a : ∃ ys, u.ownsRow (w.heap.size + 3) 3 1 v k ys
theorem FSt.size {w : World} {tc : Array Value} {sz al : Int} {v : Value} {k : Nat} {u : World} (h : FSt w tc sz al v k u) : w.heap.size + 2 < u.heap.size := (Array.getElem?_eq_some_iff.1 h.o).1
theorem FSt.alloc {w : World} {tc : Array Value} {sz al : Int} {v : Value} {k : Nat} {u : World} (h : FSt w tc sz al v k u) (x : Obj) : FSt w tc sz al v k (u.alloc x) := by
  have hs := h.size
  have hb := below_alloc u x
  obtain ⟨ys, hy⟩ := h.a
  exact ⟨h.b.trans (hb.mono (by omega)), (hb.block _ (by omega)).trans h.t, (hb.block _ (by omega)).trans h.r, (hb.block _ (by omega)).trans h.o, ys, hy.alloc x⟩
theorem own_set {w : World} {base e : Nat} {v : Value} {n : Nat} {xs : List Value} (h : w.ownsRow base e 1 v n xs) {p : Addr} (hp : p.block < base) (y : Value) : (w.setCell p y).ownsRow base e 1 v n xs := by
  refine ⟨h.1, ?_⟩
  rcases h.2 with q | ⟨g, cap, cur, rfl, hb, hg, hr⟩
  · exact .inl q
  · exact .inr ⟨g, cap, cur, rfl, hb, (Below.heap_setCell w p y g (by omega)).trans hg, hr⟩
theorem FSt.set {w : World} {tc : Array Value} {sz al : Int} {v : Value} {k : Nat} {u : World} (h : FSt w tc sz al v k u) (j : Nat) (y : Value) (sz' al' : Int) (he : (#[.bool true, .int .i64 sz, .int .i64 al, v] : Array Value).setIfInBounds j y = #[.bool true, .int .i64 sz', .int .i64 al', v]) :
    FSt w tc sz' al' v k (u.setCell ⟨w.heap.size + 2, j, none⟩ y) := by
  obtain ⟨ys, hy⟩ := h.a
  refine ⟨h.b.setCell (p := ⟨w.heap.size + 2, j, none⟩) (by show _ ≤ w.heap.size + 2; omega) y, ?_, ?_, ?_, ys, own_set hy (by show w.heap.size + 2 < _; omega) y⟩
  · exact (Below.heap_setCell u ⟨w.heap.size + 2, j, none⟩ y _ (by show _ ≠ w.heap.size + 2; omega)).trans h.t
  · exact (Below.heap_setCell u ⟨w.heap.size + 2, j, none⟩ y _ (by show _ ≠ w.heap.size + 2; omega)).trans h.r
  · rw [setCell_eq_setRow u _ j _ _ _ _ h.o, setRow_heap u _ _ _ _ _ h.o, he]
theorem FSt.app {w : World} {tc : Array Value} {sz al : Int} {v v' : Value} {k : Nat} {u u' : World} (h : FSt w tc sz al v k u) (hg : u.grownBy u' v.ownBlock) {ys : List Value} (hy : u'.ownsRow (w.heap.size + 3) 3 1 v' (k + 1) ys) :
    FSt w tc sz al v' (k + 1) (u'.setCell ⟨w.heap.size + 2, 3, none⟩ v') := by
  obtain ⟨zs, hz⟩ := h.a
  have hs := h.size
  have hne : ∀ j, j ≤ w.heap.size + 2 → some j ≠ v.ownBlock := fun j hj e => by
    rcases hz.2 with ⟨q, _⟩ | ⟨g, cap, cur, q, hb, _⟩
    · rw [q] at e; cases e
    · rw [q] at e; injection e with e; simp only at e; omega
  have hb : Below w.heap.size w u' := h.b.grown hg (by omega) (fun j e => by
    apply Nat.le_of_not_lt
    intro hc
    exact hne j (by omega) e.symm)
  have t := (hg.block (w.heap.size) (by omega) (hne _ (by omega))).trans h.t
  have r := (hg.block (w.heap.size + 1) (by omega) (hne _ (by omega))).trans h.r
  have o := (hg.block (w.heap.size + 2) (by omega) (hne _ (by omega))).trans h.o
  refine ⟨hb.setCell (p := ⟨w.heap.size + 2, 3, none⟩) (by show _ ≤ w.heap.size + 2; omega) v', ?_, ?_, ?_, ys, own_set hy (by show w.heap.size + 2 < _; omega) v'⟩
  · exact (Below.heap_setCell u' ⟨w.heap.size + 2, 3, none⟩ v' _ (by show _ ≠ w.heap.size + 2; omega)).trans t
  · exact (Below.heap_setCell u' ⟨w.heap.size + 2, 3, none⟩ v' _ (by show _ ≠ w.heap.size + 2; omega)).trans r
  · rw [setCell_eq_setRow u' _ 3 _ _ _ _ o, setRow_heap u' _ _ _ _ _ o]
    rfl
theorem own_slice {w : World} {base e : Nat} {v : Value} {n : Nat} {xs : List Value} (h : w.ownsRow base e 1 v (n + 1) xs) : ∃ g c, v = .slice (some ⟨g, 0, none⟩) (n + 1) c := by
  rcases h.2 with ⟨_, q⟩ | ⟨g, cap, cur, q, _⟩
  · cases q
  · exact ⟨g, cap, q⟩
theorem own_any {w : World} {base e : Nat} {v : Value} {n : Nat} {xs : List Value} (h : w.ownsRow base e 1 v n xs) : ∃ a m c, v = .slice a m c := by
  rcases h.2 with ⟨q, _⟩ | ⟨g, cap, cur, q, _⟩
  · exact ⟨_, _, _, q⟩
  · exact ⟨_, _, _, q⟩
theorem FSt.start (w : World) (tc : Array Value) : FSt w tc 0 1 (.slice none 0 0) 0 (((w.alloc (.cells tc 37)).alloc (.cells #[.bool false, .int .i64 0, .int .i64 0, .slice none 0 0] 40)).alloc (.cells #[.bool true, .int .i64 0, .int .i64 1, .slice none 0 0] 40)) := by
  have z1 : (w.alloc (.cells tc 37)).heap.size = w.heap.size + 1 := by simp
  have z2 : ((w.alloc (.cells tc 37)).alloc (.cells #[.bool false, .int .i64 0, .int .i64 0, .slice none 0 0] 40)).heap.size = w.heap.size + 2 := by simp
  have b1 := below_alloc w (.cells tc 37)
  have b2 := below_alloc (w.alloc (.cells tc 37)) (.cells #[.bool false, .int .i64 0, .int .i64 0, .slice none 0 0] 40)
  have b3 := below_alloc ((w.alloc (.cells tc 37)).alloc (.cells #[.bool false, .int .i64 0, .int .i64 0, .slice none 0 0] 40)) (.cells #[.bool true, .int .i64 0, .int .i64 1, .slice none 0 0] 40)
  have t := heap_alloc_new w (.cells tc 37)
  have r := heap_alloc_new (w.alloc (.cells tc 37)) (.cells #[.bool false, .int .i64 0, .int .i64 0, .slice none 0 0] 40)
  have o := heap_alloc_new ((w.alloc (.cells tc 37)).alloc (.cells #[.bool false, .int .i64 0, .int .i64 0, .slice none 0 0] 40)) (.cells #[.bool true, .int .i64 0, .int .i64 1, .slice none 0 0] 40)
  rw [z1] at r b2
  rw [z2] at o b3
  refine ⟨b1.trans ((b2.mono (by omega)).trans (b3.mono (by omega))), ?_, ?_, o, [], World.ownsRow_nil _ _ _ _⟩
  · exact (b3.block _ (by omega)).trans ((b2.block _ (by omega)).trans t)
  · exact (b3.block _ (by omega)).trans r
theorem FSt.grown {w : World} {tc : Array Value} {sz al : Int} {v : Value} {k : Nat} {u u' : World} (h : FSt w tc sz al v k u) (hg : u.grownBy u' v.ownBlock) : u'.cell? ⟨w.heap.size + 2, 3, none⟩ = some v ∧ u'.frozen? ⟨w.heap.size + 2, 3, none⟩ = false := by
  obtain ⟨zs, hz⟩ := h.a
  have hs := h.size
  have hne : some (w.heap.size + 2) ≠ v.ownBlock := fun e => by
    rcases hz.2 with ⟨q, _⟩ | ⟨g, cap, cur, q, hb, _⟩
    · rw [q] at e; cases e
    · rw [q] at e; injection e with e; simp only at e; omega
  have o := (hg.block (w.heap.size + 2) (by omega) hne).trans h.o
  exact ⟨by rw [cell_of_row u' _ 3 _ _ _ o]; rfl, frozen_of_row u' _ 3 _ _ o⟩
theorem FSt.cells {w : World} {tc : Array Value} {sz al : Int} {v : Value} {k : Nat} {u : World} (h : FSt w tc sz al v k u) :
    (∀ j, u.cell? ⟨w.heap.size, j, none⟩ = tc[j]?) ∧ u.cell? ⟨w.heap.size + 2, 1, none⟩ = some (.int .i64 sz) ∧ u.cell? ⟨w.heap.size + 2, 2, none⟩ = some (.int .i64 al) ∧ u.cell? ⟨w.heap.size + 2, 3, none⟩ = some v ∧ ∀ j, u.frozen? ⟨w.heap.size + 2, j, none⟩ = false :=
  ⟨fun j => cell_of_row u _ j _ _ _ h.t, by rw [cell_of_row u _ 1 _ _ _ h.o]; rfl, by rw [cell_of_row u _ 2 _ _ _ h.o]; rfl, by rw [cell_of_row u _ 3 _ _ _ h.o]; rfl, fun j => frozen_of_row u _ j _ _ h.o⟩
end Go.Proofs.YtafcnijfoejboaaDoor.W
