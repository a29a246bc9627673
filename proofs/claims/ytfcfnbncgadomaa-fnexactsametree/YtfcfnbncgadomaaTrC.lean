import Derived.Test.YtfcfnbncgadomaaTrB
set_option linter.unusedVariables false
set_option linter.unusedSimpArgs false
namespace Go.Proofs.Ytfcfnbncgadomaa.W
open Go.RowKit
/-- the nodes that are there, from block g on, the first k of xs and noughts behind them -/
def NMid (g len k : Nat) (wr : World) (xs : List Pl.Nd) : Prop := ∀ i, i < len → ∃ v : SV, (∀ j, j < 7 → wr.cell? ⟨g, i * 7 + j, none⟩ = ((if i < k then xs.getD i Pl.Nd.zero else Pl.Nd.zero).cells v)[j]?) ∧ Row .i64 (g + 1) wr v.a v.len v.cap (if i < k then xs.getD i Pl.Nd.zero else Pl.Nd.zero).kids
theorem NMid.keep {g len k : Nat} {w w' : World} {xs : List Pl.Nd} (h : NMid g len k w xs) (hg : g < w.heap.size) (hb : Below w.heap.size w w') : NMid g len k w' xs := fun i hi => by
  obtain ⟨v, h1, h2⟩ := h i hi
  exact ⟨v, fun j hj => (hb.cell (p := ⟨g, i * 7 + j, none⟩) hg).trans (h1 j hj), h2.keep hb⟩
theorem NMid.some {g len k : Nat} {w : World} {xs : List Pl.Nd} (h : NMid g len k w xs) {i : Nat} (hi : i < len) : ∀ j, j < 7 → (w.cell? ⟨g, i * 7 + j, none⟩).isSome = true := fun j hj => by
  obtain ⟨v, h1, _⟩ := h i hi
  rw [h1 j hj]
  rcases (show j = 0 ∨ j = 1 ∨ j = 2 ∨ j = 3 ∨ j = 4 ∨ j = 5 ∨ j = 6 by omega) with rfl | rfl | rfl | rfl | rfl | rfl | rfl <;> rfl
theorem NMid.put {g len k : Nat} {w : World} {xs : List Pl.Nd} (h : NMid g len k w xs) (hk : k < len) (v : SV) (hr : Row .i64 (g + 1) w v.a v.len v.cap (xs.getD k Pl.Nd.zero).kids) : NMid g len (k + 1) (set7 w g (k * 7) (xs.getD k Pl.Nd.zero) v) xs := fun i hi => by
  by_cases e : i = k
  · subst e
    rw [if_pos (Nat.lt_succ_self _)]
    exact ⟨v, fun j hj => set7_in _ _ (h.some hk) j hj, set7_row hr (Nat.lt_succ_self _) _ _ _⟩
  · obtain ⟨v', h1, h2⟩ := h i hi
    have e1 : (if i < k + 1 then xs.getD i Pl.Nd.zero else Pl.Nd.zero) = (if i < k then xs.getD i Pl.Nd.zero else Pl.Nd.zero) := by
      by_cases e' : i < k
      · rw [if_pos e', if_pos (by omega)]
      · rw [if_neg e', if_neg (by omega)]
    rw [e1]
    exact ⟨v', fun j hj => (set7_out _ _ (by omega)).trans (h1 j hj), set7_row h2 (Nat.lt_succ_self _) _ _ _⟩
theorem row_nil {k : IntKind} {lo : Nat} {w : World} : Row k lo w none 0 0 [] := ⟨rfl, Nat.le_refl _, Nat.zero_le _, fun n hn => absurd hn (by simp), .inl rfl⟩
set_option maxHeartbeats 2000000 in
theorem toNodeS_any {lo : Nat} (a : Option Addr) (len cap : Nat) (xs : List Pl.Nd) (w : World) (h : NRow lo w a len cap xs) (hl : len ≤ 1048576) (hks : ∀ i, i < len → (xs.getD i Pl.Nd.zero).kids.length ≤ 1048576) : Calls Try.prog 40 #[.slice a len cap] w fun e w' => e = .returned (.slice (some ⟨w.heap.size, 0, none⟩) len len) ∧ NRow w.heap.size w' (some ⟨w.heap.size, 0, none⟩) len len xs ∧ Below w.heap.size w w' := by
  have HR : Hid (NRow lo w a len cap xs) := h
  have HKS : Hid (∀ i, i < len → (xs.getD i Pl.Nd.zero).kids.length ≤ 1048576) := hks
  clear h hks
  have hinfo : (Try.prog.info? 69).map (fun i => (i.zero, i.size, i.bytes)) = some (some (.agg #[.int .i64 0, .int .i64 0, .int .i64 0, .string ⟨#[]⟩, .slice none 0 0, .int .i64 0, .int .i64 0]), 7, 80) := by kernel_rfl
  obtain ⟨i0, hi0, hz0, hz1, hz2⟩ := info_parts hinfo
  have hm : ∀ u : World, (Instr.makeSlice 41 (.int .i64 (len : Int)) (.int .i64 (len : Int))).run Try.prog u = .ok (.slice (some ⟨u.heap.size, 0, none⟩) len len) (u.alloc (.cells (madeCells #[.int .i64 0, .int .i64 0, .int .i64 0, .string ⟨#[]⟩, .slice none 0 0, .int .i64 0, .int .i64 0] (len * 7)) 69)) := fun u => by
    have := run_makeSlice u 41 69 i0 _ Try.underlying41 hi0 hz0 .i64 .i64 (len : Int) (len : Int) (by omega) (by omega) (by rw [hz1]; simp; omega) (by rw [hz2]; omega) (by omega)
    rw [hz1, Int.toNat_natCast] at this
    exact this
  clear hinfo hi0 hz0 hz1 hz2
  go_enter Try.func40, Try.ntmps40
  go_wp2_with fail
  clear hm
  go_loopw [4] (fun i wr => ∃ k : Nat, k ≤ len ∧ i = .int .i64 k ∧ w.heap.size < wr.heap.size ∧ (∀ q, wr.frozen? ⟨w.heap.size, q, none⟩ = false) ∧ NMid w.heap.size len k wr xs ∧ Below w.heap.size w wr) (fun i _ => len - (intOf i).toNat)
  case atStart =>
    refine ⟨0, Nat.zero_le _, rfl, by simp, fun q => frozen_of_row _ _ _ _ _ (heap_alloc_new w _), fun i hi => ⟨⟨none, 0, 0⟩, fun j hj => ?_, ?_⟩, below_alloc w _⟩
    · rw [cell_of_row _ _ _ _ _ (0, 0) (heap_alloc_new w _), if_neg (Nat.not_lt_zero _)]
      have e : (i * 7 + j) % 7 = j := by omega
      have hb : i * 7 + j < len * 7 := by omega
      unfold madeCells
      rw [Array.getElem?_map, Array.getElem?_range, if_pos hb]
      simp only [Option.map_some, List.size_toArray, List.length_cons, List.length_nil, e]
      rcases (show j = 0 ∨ j = 1 ∨ j = 2 ∨ j = 3 ∨ j = 4 ∨ j = 5 ∨ j = 6 by omega) with rfl | rfl | rfl | rfl | rfl | rfl | rfl <;> rfl
    · rw [if_neg (Nat.not_lt_zero _)]; exact row_nil
  case round =>
    obtain ⟨k, hk, rfl, hz, hfr, hcs, hbel⟩ := hrel
    have HC : Hid (NMid w.heap.size len k wr xs) := hcs
    have HF : Hid (∀ q, wr.frozen? ⟨w.heap.size, q, none⟩ = false) := hfr
    have HB : Hid (Below w.heap.size w wr) := hbel
    clear hcs hbel hfr
    by_cases hlt : k < len
    · have hi : (k : Int) < (len : Int) := by omega
      obtain ⟨b, off, v, rfl, hlo, hb1, hc, hrow, hs⟩ := (HR.out.keep HB.out).at hlt
      obtain ⟨x, hx⟩ : ∃ x, x = xs.getD k Pl.Nd.zero := ⟨_, rfl⟩
      rw [← hx] at hc hrow
      obtain ⟨c0, c1, c2, c3, c4, c5, c6⟩ := nd_cells hc
      have hvl : v.len ≤ 1048576 := by have h1 := hrow.1; have h2 := HKS.out k hlt; rw [← hx] at h2; omega
      have HX : Hid (x = xs.getD k Pl.Nd.zero) := hx
      have HW : Hid (Row .i64 lo wr v.a v.len v.cap x.kids) := hrow
      clear hc hx hrow hs
      go_wp2_with fail
      refine (toNode_any x v wr HW.out hvl).mono ?_
      rintro e u1 ⟨v', rfl, o1, d1⟩
      have hf1 : ∀ q, u1.frozen? ⟨w.heap.size, q, none⟩ = false := fun q => (d1.frozen (p := ⟨w.heap.size, q, none⟩) hz).trans (HF.out q)
      have HC1 : Hid (NMid w.heap.size len k u1 xs) := HC.out.keep hz d1
      obtain ⟨v0, hk1, _⟩ := HC1.out k hlt
      rw [if_neg (Nat.lt_irrefl _)] at hk1
      obtain ⟨e0, e1, e2, e3, e4, e5, e6⟩ := nd_cells hk1
      have HD : Hid (Below w.heap.size w u1 ∧ w.heap.size < u1.heap.size) := ⟨HB.out.trans (d1.mono HB.out.size), Nat.lt_of_lt_of_le hz d1.size⟩
      have HO : Hid (Row .i64 (w.heap.size + 1) u1 v'.a v'.len v'.cap x.kids) := o1.row.lower (by omega)
      clear hk1 d1 o1 c0 c1 c2 c3 c4 c5 c6 HC HF HB HW
      go_wp2_with fail
      go_roundw
      case rel =>
        refine ⟨k + 1, by omega, by go_num, ?_, ?_, ?_, ?_⟩
        · simp only [World.size_setCell]; exact HD.out.2
        · intro q; simp only [World.frozen?_setCell]; exact hf1 q
        · have hn := HC1.out.put hlt v' (by rw [← HX.out]; exact HO.out)
          rw [← HX.out] at hn
          exact hn
        · exact set7_below HD.out.1 (Nat.le_refl _) (k * 7) x v'
      case measure => simp [intOf]; omega
    · have hkk : k = len := by omega
      have hi : ¬ ((k : Int) < (len : Int)) := by omega
      have HZ : Hid (w.heap.size < wr.heap.size) := hz
      go_wp2
      go_ret
      refine ⟨rfl, ⟨HR.out.1, Nat.le_refl _, by unfold maxLen; omega, .inr ⟨w.heap.size, 0, rfl, Nat.le_refl _, HZ.out, fun i hi => ?_⟩⟩, HB.out⟩
      obtain ⟨v, h1, h2⟩ := HC.out i hi
      rw [if_pos (by omega)] at h1 h2
      exact ⟨v, fun j hj => by rw [Nat.zero_add]; exact h1 j hj, h2.lower (by omega)⟩
theorem Row.above {k : IntKind} {B lo : Nat} {w w' : World} {a : Option Addr} {len cap : Nat} {zs : List Int} (h : Row k lo w a len cap zs) (ha : Above B w w') (hB : B ≤ lo) : Row k lo w' a len cap zs := by
  obtain ⟨h1, h2, h3, h4, h5⟩ := h
  refine ⟨h1, h2, h3, h4, ?_⟩
  rcases h5 with h5 | ⟨b, off, rfl, hlo, hlt, hc⟩
  · exact .inl h5
  · refine .inr ⟨b, off, rfl, hlo, Nat.lt_of_lt_of_le hlt ha.size, fun i hi => ?_⟩
    rw [World.cell?_of_block (a := ⟨b, off + i, none⟩) (ha.block b (Nat.le_trans hB hlo) hlt)]
    exact hc i hi
theorem NRow.above {B lo : Nat} {w w' : World} {a : Option Addr} {len cap : Nat} {xs : List Pl.Nd} (h : NRow lo w a len cap xs) (ha : Above B w w') (hB : B ≤ lo) : NRow lo w' a len cap xs := by
  obtain ⟨h1, h2, h3, h4⟩ := h
  refine ⟨h1, h2, h3, ?_⟩
  rcases h4 with h4 | ⟨b, off, e, hlo, hlt, hc⟩
  · exact .inl h4
  · refine .inr ⟨b, off, e, hlo, Nat.lt_of_lt_of_le hlt ha.size, fun i hi => ?_⟩
    obtain ⟨v, h5, h6⟩ := hc i hi
    refine ⟨v, fun j hj => ?_, h6.above ha hB⟩
    rw [World.cell?_of_block (a := ⟨b, off + i * 7 + j, none⟩) (ha.block b (Nat.le_trans hB hlo) hlt)]
    exact h5 j hj
theorem NRow.lower {lo lo' : Nat} {w : World} {a : Option Addr} {len cap : Nat} {xs : List Pl.Nd} (h : NRow lo w a len cap xs) (hl : lo' ≤ lo) : NRow lo' w a len cap xs := by
  obtain ⟨h1, h2, h3, h4⟩ := h
  refine ⟨h1, h2, h3, ?_⟩
  rcases h4 with h4 | ⟨b, off, e, hlo, hlt, hc⟩
  · exact .inl h4
  · refine .inr ⟨b, off, e, Nat.le_trans hl hlo, hlt, fun i hi => ?_⟩
    obtain ⟨v, h5, h6⟩ := hc i hi
    exact ⟨v, h5, h6.lower hl⟩
set_option maxHeartbeats 1000000 in
theorem toTree_any {lo : Nat} (a : Option Addr) (len cap : Nat) (xs : List Pl.Nd) (w : World) (h : NRow lo w a len cap xs) (hl : len ≤ 1048576) (hks : ∀ i, i < len → (xs.getD i Pl.Nd.zero).kids.length ≤ 1048576) : Calls Try.prog 14 #[.agg #[.slice a len cap]] w fun e w' => ∃ b, e = .returned (.agg #[.slice (some ⟨b, 0, none⟩) len len]) ∧ NRow w.heap.size w' (some ⟨b, 0, none⟩) len len xs ∧ Below w.heap.size w w' := by
  have HR : Hid (NRow lo w a len cap xs) := h
  have HKS : Hid (∀ i, i < len → (xs.getD i Pl.Nd.zero).kids.length ≤ 1048576) := hks
  clear h hks
  go_enter Try.func14, Try.ntmps14
  go_wp2_with fail
  refine tr_at fun U1 hU1 => ?_
  have z1 : U1.heap.size = w.heap.size + 3 := by rw [hU1]; simp
  have q1 : U1.heap[w.heap.size + 1]? = some (.cells #[.slice none 0 0] 43) := by
    rw [hU1, Below.heap_alloc _ _ _ (by simp)]
    have := heap_alloc_new (w.alloc (.cells #[.slice a len cap] 38)) (.cells #[.slice none 0 0] 43)
    simpa using this
  have q2 : U1.heap[w.heap.size + 1 + 1]? = some (.cells #[.slice none 0 0] 43) := by
    rw [hU1]
    have := heap_alloc_new ((w.alloc (.cells #[.slice a len cap] 38)).alloc (.cells #[.slice none 0 0] 43)) (.cells #[.slice none 0 0] 43)
    simpa using this
  have b1 : Below w.heap.size w U1 := by
    rw [hU1]
    repeat (first | with_reducible exact Below.refl _ _ | refine Below.alloc ?_ (by simp <;> omega) _)
  clear hU1
  refine (toNodeS_any a len cap xs U1 (HR.out.keep b1) hl HKS.out).mono ?_
  rintro e u1 ⟨rfl, o1, d1⟩
  have Q1 := (d1.block (w.heap.size + 1) (by omega)).trans q1
  have Q2 := (d1.block (w.heap.size + 1 + 1) (by omega)).trans q2
  have B1 : Hid (Below w.heap.size w u1) := b1.trans (d1.mono (by omega))
  have O1 : Hid (NRow U1.heap.size u1 (some ⟨U1.heap.size, 0, none⟩) len len xs) := o1
  have k1 : u1.cell? ⟨w.heap.size + 1, 0, none⟩ = some (.slice none 0 0) := cell_of_row u1 (w.heap.size + 1) 0 _ 43 (0, 0) Q1
  have k2 : u1.cell? ⟨w.heap.size + 1 + 1, 0, none⟩ = some (.slice none 0 0) := cell_of_row u1 (w.heap.size + 1 + 1) 0 _ 43 (0, 0) Q2
  have f1 : ∀ j, u1.frozen? ⟨w.heap.size + 1, j, none⟩ = false := fun j => frozen_of_row u1 (w.heap.size + 1) j _ 43 Q1
  have f2 : ∀ j, u1.frozen? ⟨w.heap.size + 1 + 1, j, none⟩ = false := fun j => frozen_of_row u1 (w.heap.size + 1 + 1) j _ 43 Q2
  have Z1 : Hid (U1.heap.size = w.heap.size + 3) := z1
  have HQ1 : Hid (u1.heap[w.heap.size + 1]? = some (.cells #[.slice none 0 0] 43)) := Q1
  clear Q1 Q2 q1 q2 b1 o1 d1 z1
  go_wp2
  refine bodyPost_ret (v := .agg #[.slice (some ⟨U1.heap.size, 0, none⟩) len len]) ?_ rfl ⟨U1.heap.size, rfl, ?_, ?_⟩
  · refine results_cell_row Try.results14 _ _ (w.heap.size + 1) 43 #[.slice (some ⟨U1.heap.size, 0, none⟩) len len] (0, 0) _ ?hp ?hg Try.underlying43 ?hd ?hi
    case hp => rfl
    case hd => rfl
    case hi => kernel_rfl
    case hg =>
      have h0 : (u1.setCell ⟨w.heap.size + 1 + 1, 0, none⟩ (.slice (some ⟨U1.heap.size, 0, none⟩) len len)).heap[w.heap.size + 1]? = some (.cells #[.slice none 0 0] 43) := by
        rw [heap_setCell_other _ _ _ _ (show w.heap.size + 1 ≠ w.heap.size + 1 + 1 by omega)]
        exact HQ1.out
      have h1 := tr_put (cs' := #[.slice (some ⟨U1.heap.size, 0, none⟩) len len]) h0 0 (.slice (some ⟨U1.heap.size, 0, none⟩) len len) rfl
      exact h1
  · have hz := Z1.out
    refine NRow.lower (NRow.above O1.out (B := w.heap.size + 3) ?_ (by omega)) (by omega)
    repeat (first | with_reducible exact Above.refl _ _ | refine Above.setCell ?_ (by simp <;> omega) _)
  · repeat (first | with_reducible exact B1.out | refine Below.setCell ?_ (by simp <;> omega) _)
end Go.Proofs.Ytfcfnbncgadomaa.W
