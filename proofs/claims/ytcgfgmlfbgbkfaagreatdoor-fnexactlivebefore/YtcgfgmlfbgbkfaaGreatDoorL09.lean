import Derived.Test.YtcgfgmlfbgbkfaaGreatDoorL08
import Derived.Test.YtcgfgmlfbgbkfaaGreatDoorL02
import Derived.Laws.BytesString
import Derived.Laws.Cells
import Derived.Test.YtcgfgmlfbgbkfaaGreatDoorL04
set_option linter.unusedVariables false
set_option linter.unusedSimpArgs false
namespace Go.Proofs.YtcgfgmlfbgbkfaaGreatDoor.W
open Go.RowKit
theorem Own.above {k : IntKind} {e : TypeId} {lo : Nat} {w w' : World} {a : Option Addr} {len cap : Nat} {zs : List Int} (h : Own k e lo w a len cap zs) (hA : Above lo w w') : Own k e lo w' a len cap zs := ⟨own_eqL h.1 fun g hg => hA.block g (h.1.lt g hg).1 (h.1.lt g hg).2, h.2⟩
theorem Own.low {k : IntKind} {e : TypeId} {lo lo' : Nat} {w : World} {a : Option Addr} {len cap : Nat} {zs : List Int} (h : Own k e lo w a len cap zs) (hl : lo' ≤ lo) : Own k e lo' w a len cap zs := ⟨own_lowL h.1 hl, h.2⟩
def IOw (g : Nat) (w : World) (len : Nat) (xs : List Pl.IrI) : Prop := xs.length = len ∧ (∀ q, w.frozen? ⟨g, q, none⟩ = false) ∧ g < w.heap.size ∧ ∃ V : Nat → SV, (∀ i, i < len → (∀ j, j < 7 → w.cell? ⟨g, i * 7 + j, none⟩ = ((xs.getD i Pl.IrI.zero).cells (V i))[j]?) ∧ Own .i64 3 (g + 1) w (V i).a (V i).len (V i).cap (xs.getD i Pl.IrI.zero).args ∧ (xs.getD i Pl.IrI.zero).sym.size ≤ maxLen) ∧ ∀ i j q, i < len → j < len → (Value.slice (V i).a (V i).len (V i).cap).ownBlock = some q → (Value.slice (V j).a (V j).len (V j).cap).ownBlock = some q → i = j
theorem IOw.above {g : Nat} {w w' : World} {len : Nat} {xs : List Pl.IrI} (h : IOw g w len xs) {B : Nat} (hA : Above B w w') (hB : B ≤ g) : IOw g w' len xs := by
  obtain ⟨h1, h2, h3, V, h4, h5⟩ := h
  have hbg : w'.heap[g]? = w.heap[g]? := hA.block g hB h3
  refine ⟨h1, fun q => ?_, Nat.lt_of_lt_of_le h3 hA.size, V, fun i hi => ?_, h5⟩
  · have := h2 q
    simp only [World.frozen?, hbg] at this ⊢
    exact this
  · obtain ⟨a1, a2, a3⟩ := h4 i hi
    refine ⟨fun j hj => ?_, a2.above ⟨hA.size, fun q c1 c2 => hA.block q (by omega) c2⟩, a3⟩
    rw [← a1 j hj]
    simp only [World.cell?, hbg]
theorem IOw.row {g : Nat} {w : World} {len : Nat} {xs : List Pl.IrI} (h : IOw g w len xs) (hl : len ≤ 1048576) : IRow g w (some ⟨g, 0, none⟩) len len xs := by
  obtain ⟨h1, h2, h3, V, h4, h5⟩ := h
  refine ⟨h1, Nat.le_refl _, by unfold maxLen; omega, .inr ⟨g, 0, rfl, Nat.le_refl _, h3, fun i hi => ?_⟩⟩
  obtain ⟨a1, a2, a3⟩ := h4 i hi
  exact ⟨V i, fun j hj => by rw [Nat.zero_add]; exact a1 j hj, a2.row.lower (by omega), a3⟩
structure FOw (lo : Nat) (w : World) (v : SV) (gs n : Nat) (x : Pl.IrF) : Prop where
  sl : Own .i64 3 lo w v.a v.len v.cap x.slots
  cd : IOw gs w n x.code
  lt : ∀ q, (Value.slice v.a v.len v.cap).ownBlock = some q → q < gs
  lo_ : lo ≤ gs
  nm : x.name.size ≤ maxLen
theorem FOw.is {lo : Nat} {w : World} {v : SV} {gs n : Nat} {x : Pl.IrF} (h : FOw lo w v gs n x) (hn : n ≤ 1048576) : FIs lo w v ⟨some ⟨gs, 0, none⟩, n, n⟩ x := ⟨h.sl.row, (h.cd.row hn).lower h.lo_, h.nm⟩
def IMo (g len k : Nat) (wr : World) (xs : List Pl.IrI) : Prop := ∃ V : Nat → SV, (∀ i, i < len → (∀ j, j < 7 → wr.cell? ⟨g, i * 7 + j, none⟩ = ((if i < k then xs.getD i Pl.IrI.zero else Pl.IrI.zero).cells (V i))[j]?) ∧ Own .i64 3 (g + 1) wr (V i).a (V i).len (V i).cap (if i < k then xs.getD i Pl.IrI.zero else Pl.IrI.zero).args) ∧ ∀ i j q, i < len → j < len → (Value.slice (V i).a (V i).len (V i).cap).ownBlock = some q → (Value.slice (V j).a (V j).len (V j).cap).ownBlock = some q → i = j
theorem IMo.keep {g len k : Nat} {w w' : World} {xs : List Pl.IrI} (h : IMo g len k w xs) (hg : g < w.heap.size) (hb : Below w.heap.size w w') : IMo g len k w' xs := by
  obtain ⟨V, h1, h2⟩ := h
  refine ⟨V, fun i hi => ?_, h2⟩
  obtain ⟨a1, a2⟩ := h1 i hi
  exact ⟨fun j hj => (hb.cell (p := ⟨g, i * 7 + j, none⟩) hg).trans (a1 j hj), a2.above (Above.of_below hb)⟩
theorem set7_above {w u : World} {B g : Nat} (h : Above B w u) (hg : g < B) (o : Nat) (x : Pl.IrI) (v : SV) : Above B w (set7 u g o x v) := by
  unfold set7
  exact ((((((h.setCell (p := ⟨g, o, none⟩) hg _).setCell (p := ⟨g, o + 1, none⟩) hg _).setCell (p := ⟨g, o + 2, none⟩) hg _).setCell (p := ⟨g, o + 3, none⟩) hg _).setCell (p := ⟨g, o + 4, none⟩) hg _).setCell (p := ⟨g, o + 5, none⟩) hg _).setCell (p := ⟨g, o + 6, none⟩) hg _
theorem IMo.put {g len k : Nat} {w u : World} {xs : List Pl.IrI} (h : IMo g len k w xs) (hg : g < w.heap.size) (hb : Below w.heap.size w u) (hk : k < len) (v : SV) (hr : Own .i64 3 w.heap.size u v.a v.len v.cap (xs.getD k Pl.IrI.zero).args) : IMo g len (k + 1) (set7 u g (k * 7) (xs.getD k Pl.IrI.zero) v) xs := by
  have hsm : ∀ j, j < 7 → (u.cell? ⟨g, k * 7 + j, none⟩).isSome = true := fun j hj => by
    obtain ⟨V, h1, _⟩ := h.keep hg hb
    rw [(h1 k hk).1 j hj]
    rcases (show j = 0 ∨ j = 1 ∨ j = 2 ∨ j = 3 ∨ j = 4 ∨ j = 5 ∨ j = 6 by omega) with rfl | rfl | rfl | rfl | rfl | rfl | rfl <;> rfl
  obtain ⟨V, h1, h2⟩ := h
  refine ⟨upd V k v, fun i hi => ?_, fun i j q hi hj hq hq2 => ?_⟩
  · by_cases e : i = k
    · subst e
      rw [upd_at, if_pos (Nat.lt_succ_self _)]
      refine ⟨fun j hj => set7_in _ _ hsm j hj, ?_⟩
      exact Own.low (hr.above (set7_above (Above.refl _ _) hg _ _ _)) (by omega)
    · rw [upd_ne e]
      obtain ⟨a1, a2⟩ := h1 i hi
      have e1 : (if i < k + 1 then xs.getD i Pl.IrI.zero else Pl.IrI.zero) = (if i < k then xs.getD i Pl.IrI.zero else Pl.IrI.zero) := by
        by_cases e' : i < k
        · rw [if_pos e', if_pos (by omega)]
        · rw [if_neg e', if_neg (by omega)]
      rw [e1]
      refine ⟨fun j hj => (set7_out _ _ (by omega)).trans ((hb.cell (p := ⟨g, i * 7 + j, none⟩) hg).trans (a1 j hj)), ?_⟩
      exact (a2.above (Above.of_below hb)).above (set7_above (Above.refl _ _) (by omega) _ _ _)
  · by_cases e1 : i = k
    · by_cases e2 : j = k
      · omega
      · subst e1
        rw [upd_at] at hq
        rw [upd_ne e2] at hq2
        have := (hr.1.lt q hq).1
        have := ((h1 j hj).2.1.lt q hq2).2
        omega
    · by_cases e2 : j = k
      · subst e2
        rw [upd_at] at hq2
        rw [upd_ne e1] at hq
        have := (hr.1.lt q hq2).1
        have := ((h1 i hi).2.1.lt q hq).2
        omega
      · rw [upd_ne e1] at hq
        rw [upd_ne e2] at hq2
        exact h2 i j q hi hj hq hq2
set_option maxHeartbeats 2000000 in
theorem toIrIns_own {lo : Nat} (x : Pl.IrI) (v : SV) (w : World) (h : Row .i64 lo w v.a v.len v.cap x.args) (hl : v.len ≤ 1048576) :
    Calls Tryz.prog 54 #[.agg #[.int .i64 x.op, .int .i64 x.d, .int .i64 x.a, .int .i64 x.b, .int .i64 x.n, .string x.sym, .slice v.a v.len v.cap]] w fun e w' => ∃ v' : SV, e = .returned (.agg #[.int .i64 x.op, .int .i64 x.d, .int .i64 x.a, .int .i64 x.b, .int .i64 x.n, .string x.sym, .slice v'.a v'.len v'.cap]) ∧ Own .i64 3 (w.heap.size + 3) w' v'.a v'.len v'.cap x.args ∧ Below w.heap.size w w' := by
  have HR : Hid (Row .i64 lo w v.a v.len v.cap x.args) := h
  clear h
  go_enter Tryz.func54, Tryz.ntmps54
  go_wp2_with fail
  refine ty_at fun U1 hU1 => ?_
  have z1 : U1.heap.size = w.heap.size + 3 := by rw [hU1]; simp
  have q0 : U1.heap[w.heap.size]? = some (.cells #[.int .i64 x.op, .int .i64 x.d, .int .i64 x.a, .int .i64 x.b, .int .i64 x.n, .string x.sym, .slice v.a v.len v.cap] 80) := by
    rw [hU1]
    rw [Below.heap_alloc _ _ _ (by simp; omega), Below.heap_alloc _ _ _ (by simp)]
    exact heap_alloc_new w _
  have q1 : U1.heap[w.heap.size + 1]? = some (.cells #[.int .i64 0, .int .i64 0, .int .i64 0, .int .i64 0, .int .i64 0, .string ⟨#[]⟩, .slice none 0 0] 81) := by
    rw [hU1]
    rw [Below.heap_alloc _ _ _ (by simp)]
    have := heap_alloc_new (w.alloc (.cells #[.int .i64 x.op, .int .i64 x.d, .int .i64 x.a, .int .i64 x.b, .int .i64 x.n, .string x.sym, .slice v.a v.len v.cap] 80)) (.cells #[.int .i64 0, .int .i64 0, .int .i64 0, .int .i64 0, .int .i64 0, .string ⟨#[]⟩, .slice none 0 0] 81)
    simpa using this
  have q2 : U1.heap[w.heap.size + 1 + 1]? = some (.cells #[.int .i64 x.op, .int .i64 x.d, .int .i64 x.a, .int .i64 x.b, .int .i64 x.n, .string x.sym, .slice none 0 0] 81) := by
    rw [hU1]
    have := heap_alloc_new ((w.alloc (.cells #[.int .i64 x.op, .int .i64 x.d, .int .i64 x.a, .int .i64 x.b, .int .i64 x.n, .string x.sym, .slice v.a v.len v.cap] 80)).alloc (.cells #[.int .i64 0, .int .i64 0, .int .i64 0, .int .i64 0, .int .i64 0, .string ⟨#[]⟩, .slice none 0 0] 81)) (.cells #[.int .i64 x.op, .int .i64 x.d, .int .i64 x.a, .int .i64 x.b, .int .i64 x.n, .string x.sym, .slice none 0 0] 81)
    simpa using this
  have b1 : Below w.heap.size w U1 := by
    rw [hU1]
    repeat (first | exact Below.refl _ _ | refine Below.setCell ?_ (by simp; omega) _ | refine Below.alloc ?_ (by simp <;> omega) _)
  clear hU1
  refine (toIntS_any v.a v.len v.cap x.args U1 (HR.out.keep b1) hl).mono ?_
  rintro e u2 ⟨rfl, o1, d1⟩
  have R1 := (d1.block (w.heap.size + 1) (by omega)).trans q1
  have R2 := (d1.block (w.heap.size + 1 + 1) (by omega)).trans q2
  have hz1 : w.heap.size + 3 ≤ u2.heap.size := by have := d1.size; omega
  have B2 : Hid (Below w.heap.size w u2) := b1.trans (d1.mono (by omega))
  have O1 : Hid (Own .i64 3 (w.heap.size + 3) u2 (some ⟨U1.heap.size, 0, none⟩) v.len v.len x.args) := ⟨own_lowL o1.1 (by omega), o1.2⟩
  have k1 : ∀ j, u2.cell? ⟨w.heap.size + 1, j, none⟩ = (#[.int .i64 0, .int .i64 0, .int .i64 0, .int .i64 0, .int .i64 0, .string ⟨#[]⟩, .slice none 0 0] : Array Value)[j]? := fun j => cell_of_row u2 (w.heap.size + 1) j _ 81 (0, 0) R1
  have k2 : ∀ j, u2.cell? ⟨w.heap.size + 1 + 1, j, none⟩ = (#[.int .i64 x.op, .int .i64 x.d, .int .i64 x.a, .int .i64 x.b, .int .i64 x.n, .string x.sym, .slice none 0 0] : Array Value)[j]? := fun j => cell_of_row u2 (w.heap.size + 1 + 1) j _ 81 (0, 0) R2
  have f1 : ∀ j, u2.frozen? ⟨w.heap.size + 1, j, none⟩ = false := fun j => frozen_of_row u2 (w.heap.size + 1) j _ 81 R1
  have f2 : ∀ j, u2.frozen? ⟨w.heap.size + 1 + 1, j, none⟩ = false := fun j => frozen_of_row u2 (w.heap.size + 1 + 1) j _ 81 R2
  have HR1 : Hid (u2.heap[w.heap.size + 1]? = some (.cells #[.int .i64 0, .int .i64 0, .int .i64 0, .int .i64 0, .int .i64 0, .string ⟨#[]⟩, .slice none 0 0] 81)) := R1
  generalize (some ⟨U1.heap.size, 0, none⟩ : Option Addr) = A at O1
  clear R1 R2 q0 q1 q2 b1 o1 d1 z1
  go_wp2
  refine bodyPost_ret (v := .agg #[.int .i64 x.op, .int .i64 x.d, .int .i64 x.a, .int .i64 x.b, .int .i64 x.n, .string x.sym, .slice A v.len v.len]) ?_ rfl ⟨⟨A, v.len, v.len⟩, rfl, ?_, ?_⟩
  · refine results_cell_row Tryz.results54 _ _ (w.heap.size + 1) 81 #[.int .i64 x.op, .int .i64 x.d, .int .i64 x.a, .int .i64 x.b, .int .i64 x.n, .string x.sym, .slice A v.len v.len] (0, 0) _ ?hp ?hg Tryz.underlying81 ?hd ?hi
    case hp => rfl
    case hd => rfl
    case hi => kernel_rfl
    case hg =>
      have h0 : (u2.setCell ⟨w.heap.size + 1 + 1, 6, none⟩ (.slice A v.len v.len)).heap[w.heap.size + 1]? = some (.cells #[.int .i64 0, .int .i64 0, .int .i64 0, .int .i64 0, .int .i64 0, .string ⟨#[]⟩, .slice none 0 0] 81) := by
        rw [heap_setCell_other _ _ _ _ (show w.heap.size + 1 ≠ w.heap.size + 1 + 1 by omega)]
        exact HR1.out
      have h1 := ty_put (cs' := #[.int .i64 x.op, .int .i64 0, .int .i64 0, .int .i64 0, .int .i64 0, .string ⟨#[]⟩, .slice none 0 0]) h0 0 (.int .i64 x.op) rfl
      have h2 := ty_put (cs' := #[.int .i64 x.op, .int .i64 x.d, .int .i64 0, .int .i64 0, .int .i64 0, .string ⟨#[]⟩, .slice none 0 0]) h1 1 (.int .i64 x.d) rfl
      have h3 := ty_put (cs' := #[.int .i64 x.op, .int .i64 x.d, .int .i64 x.a, .int .i64 0, .int .i64 0, .string ⟨#[]⟩, .slice none 0 0]) h2 2 (.int .i64 x.a) rfl
      have h4 := ty_put (cs' := #[.int .i64 x.op, .int .i64 x.d, .int .i64 x.a, .int .i64 x.b, .int .i64 0, .string ⟨#[]⟩, .slice none 0 0]) h3 3 (.int .i64 x.b) rfl
      have h5 := ty_put (cs' := #[.int .i64 x.op, .int .i64 x.d, .int .i64 x.a, .int .i64 x.b, .int .i64 x.n, .string ⟨#[]⟩, .slice none 0 0]) h4 4 (.int .i64 x.n) rfl
      have h6 := ty_put (cs' := #[.int .i64 x.op, .int .i64 x.d, .int .i64 x.a, .int .i64 x.b, .int .i64 x.n, .string x.sym, .slice none 0 0]) h5 5 (.string x.sym) rfl
      have h7 := ty_put (cs' := #[.int .i64 x.op, .int .i64 x.d, .int .i64 x.a, .int .i64 x.b, .int .i64 x.n, .string x.sym, .slice A v.len v.len]) h6 6 (.slice A v.len v.len) rfl
      exact h7
  · refine O1.out.above ?_
    repeat (first | with_reducible exact Above.refl _ _ | refine Above.setCell ?_ (by simp <;> omega) _)
  · repeat (first | with_reducible exact B2.out | refine Below.setCell ?_ (by simp <;> omega) _)
set_option maxHeartbeats 2000000 in
theorem toIrInsS_own {lo : Nat} (a : Option Addr) (len cap : Nat) (xs : List Pl.IrI) (w : World) (h : IRow lo w a len cap xs) (hl : len ≤ 1048576) (hks : ∀ i, i < len → (xs.getD i Pl.IrI.zero).args.length ≤ 1048576) : Calls Tryz.prog 31 #[.slice a len cap] w fun e w' => e = .returned (.slice (some ⟨w.heap.size, 0, none⟩) len len) ∧ IOw w.heap.size w' len xs ∧ Below w.heap.size w w' := by
  have HR : Hid (IRow lo w a len cap xs) := h
  have HKS : Hid (∀ i, i < len → (xs.getD i Pl.IrI.zero).args.length ≤ 1048576) := hks
  have HSY : Hid (∀ i, i < len → (xs.getD i Pl.IrI.zero).sym.size ≤ maxLen) := fun i hi => by
    obtain ⟨_, _, _, _, _, _, _, _, q⟩ := h.at hi
    exact q
  clear h hks
  have hinfo : (Tryz.prog.info? 81).map (fun i => (i.zero, i.size, i.bytes)) = some (some (.agg #[.int .i64 0, .int .i64 0, .int .i64 0, .int .i64 0, .int .i64 0, .string ⟨#[]⟩, .slice none 0 0]), 7, 80) := by kernel_rfl
  obtain ⟨i0, hi0, hz0, hz1, hz2⟩ := info_parts hinfo
  have hm : ∀ u : World, (Instr.makeSlice 29 (.int .i64 (len : Int)) (.int .i64 (len : Int))).run Tryz.prog u = .ok (.slice (some ⟨u.heap.size, 0, none⟩) len len) (u.alloc (.cells (madeCells #[.int .i64 0, .int .i64 0, .int .i64 0, .int .i64 0, .int .i64 0, .string ⟨#[]⟩, .slice none 0 0] (len * 7)) 81)) := fun u => by
    have := run_makeSlice u 29 81 i0 _ Tryz.underlying29 hi0 hz0 .i64 .i64 (len : Int) (len : Int) (by omega) (by omega) (by rw [hz1]; simp; omega) (by rw [hz2]; omega) (by omega)
    rw [hz1, Int.toNat_natCast] at this
    exact this
  clear hinfo hi0 hz0 hz1 hz2
  go_enter Tryz.func31, Tryz.ntmps31
  go_wp2_with fail
  clear hm
  go_loopw [4] (fun i wr => ∃ k : Nat, k ≤ len ∧ i = .int .i64 k ∧ w.heap.size < wr.heap.size ∧ (∀ q, wr.frozen? ⟨w.heap.size, q, none⟩ = false) ∧ IMo w.heap.size len k wr xs ∧ Below w.heap.size w wr) (fun i _ => len - (intOf i).toNat)
  case atStart =>
    refine ⟨0, Nat.zero_le _, rfl, by simp, fun q => frozen_of_row _ _ _ _ _ (heap_alloc_new w _), ⟨fun _ => ⟨none, 0, 0⟩, fun i hi => ⟨fun j hj => ?_, ?_⟩, fun i j q _ _ hq => (by cases hq)⟩, below_alloc w _⟩
    · rw [cell_of_row _ _ _ _ _ (0, 0) (heap_alloc_new w _), if_neg (Nat.not_lt_zero _)]
      have e : (i * 7 + j) % 7 = j := by omega
      have hb : i * 7 + j < len * 7 := by omega
      unfold madeCells
      rw [Array.getElem?_map, Array.getElem?_range, if_pos hb]
      simp only [Option.map_some, List.size_toArray, List.length_cons, List.length_nil, e]
      rcases (show j = 0 ∨ j = 1 ∨ j = 2 ∨ j = 3 ∨ j = 4 ∨ j = 5 ∨ j = 6 by omega) with rfl | rfl | rfl | rfl | rfl | rfl | rfl <;> rfl
    · rw [if_neg (Nat.not_lt_zero _)]; exact ⟨World.ownsRow_nil _ _ _ _, fun n hn => (by cases hn)⟩
  case round =>
    obtain ⟨k, hk, rfl, hz, hfr, hcs, hbel⟩ := hrel
    have HC : Hid (IMo w.heap.size len k wr xs) := hcs
    have HF : Hid (∀ q, wr.frozen? ⟨w.heap.size, q, none⟩ = false) := hfr
    have HB : Hid (Below w.heap.size w wr) := hbel
    clear hcs hbel hfr
    by_cases hlt : k < len
    · have hi : (k : Int) < (len : Int) := by omega
      obtain ⟨b, off, v, rfl, hlo, hb1, hc, hrow, hy⟩ := (HR.out.keep HB.out).at hlt
      obtain ⟨x, hx⟩ : ∃ x, x = xs.getD k Pl.IrI.zero := ⟨_, rfl⟩
      rw [← hx] at hc hrow hy
      obtain ⟨c0, c1, c2, c3, c4, c5, c6⟩ := iri_cells hc
      have hvl : v.len ≤ 1048576 := by have h1 := hrow.1; have h2 := HKS.out k hlt; rw [← hx] at h2; omega
      have HX : Hid (x = xs.getD k Pl.IrI.zero) := hx
      have HW : Hid (Row .i64 lo wr v.a v.len v.cap x.args) := hrow
      clear hc hx hrow hy
      go_wp2_with fail
      refine (toIrIns_own x v wr HW.out hvl).mono ?_
      rintro e u1 ⟨v', rfl, o1, d1⟩
      have hf1 : ∀ q, u1.frozen? ⟨w.heap.size, q, none⟩ = false := fun q => (d1.frozen (p := ⟨w.heap.size, q, none⟩) hz).trans (HF.out q)
      have HC1 : Hid (∀ (v' : SV), Own .i64 3 wr.heap.size u1 v'.a v'.len v'.cap (xs.getD k Pl.IrI.zero).args → IMo w.heap.size len (k + 1) (set7 u1 w.heap.size (k * 7) (xs.getD k Pl.IrI.zero) v') xs) := fun v' ho => HC.out.put hz d1 hlt v' ho
      obtain ⟨VV, hVV, _⟩ := HC.out.keep hz d1
      obtain ⟨hk1, _⟩ := hVV k hlt
      rw [if_neg (Nat.lt_irrefl _)] at hk1
      obtain ⟨e0, e1, e2, e3, e4, e5, e6⟩ := iri_cells hk1
      have HD : Hid (Below w.heap.size w u1 ∧ w.heap.size < u1.heap.size) := ⟨HB.out.trans (d1.mono HB.out.size), Nat.lt_of_lt_of_le hz d1.size⟩
      have HO : Hid (Own .i64 3 wr.heap.size u1 v'.a v'.len v'.cap x.args) := ⟨own_lowL o1.1 (by omega), o1.2⟩
      clear hk1 hVV d1 o1 c0 c1 c2 c3 c4 c5 c6 HC HF HB HW
      go_wp2_with fail
      go_roundw
      case rel =>
        refine ⟨k + 1, by omega, by go_num, ?_, ?_, ?_, ?_⟩
        · simp only [World.size_setCell]; exact HD.out.2
        · intro q; simp only [World.frozen?_setCell]; exact hf1 q
        · have hn := HC1.out v' (by rw [← HX.out]; exact HO.out)
          rw [← HX.out] at hn
          exact hn
        · exact set7_below HD.out.1 (Nat.le_refl _) (k * 7) x v'
      case measure => simp [intOf]; omega
    · have hkk : k = len := by omega
      have hi : ¬ ((k : Int) < (len : Int)) := by omega
      have HZ : Hid (w.heap.size < wr.heap.size) := hz
      go_wp2
      go_ret
      obtain ⟨V, h1, h2⟩ := HC.out
      refine ⟨rfl, ⟨HR.out.1, HF.out, HZ.out, V, fun i hi => ?_, h2⟩, HB.out⟩
      obtain ⟨q1, q2⟩ := h1 i hi
      rw [if_pos (by omega)] at q1 q2
      exact ⟨q1, q2, HSY.out i hi⟩
set_option maxHeartbeats 2000000 in
theorem toIrFun_own {lo : Nat} (x : Pl.IrF) (v s : SV) (w : World) (h : FIs lo w v s x) (hz : x.sized) :
    Calls Tryz.prog 8 #[.agg #[.string x.name, .int .i64 x.params, .int .i64 x.regs, .slice v.a v.len v.cap, .slice s.a s.len s.cap]] w fun e w' => ∃ (v' : SV) (gs : Nat), e = .returned (.agg #[.string x.name, .int .i64 x.params, .int .i64 x.regs, .slice v'.a v'.len v'.cap, .slice (some ⟨gs, 0, none⟩) s.len s.len]) ∧ FOw w.heap.size w' v' gs s.len x ∧ Below w.heap.size w w' := by
  have hl : v.len ≤ 1048576 := by have := h.1.1; have := hz.2.1; omega
  have hl2 : s.len ≤ 1048576 := by have := h.2.1.1; have := hz.2.2.1; omega
  have HKS : Hid (∀ i, i < s.len → (x.code.getD i Pl.IrI.zero).args.length ≤ 1048576) := fun i hi => (hz.2.2.2 i (by have := h.2.1.1; omega)).2
  have HR : Hid (Row .i64 lo w v.a v.len v.cap x.slots) := h.1
  have HS : Hid (IRow lo w s.a s.len s.cap x.code) := h.2.1
  have HNM : Hid (x.name.size ≤ maxLen) := h.2.2
  clear h hz
  go_enter Tryz.func8, Tryz.ntmps8
  go_wp2_with fail
  refine ty_at fun U1 hU1 => ?_
  have z1 : U1.heap.size = w.heap.size + 3 := by rw [hU1]; simp
  have q0 : U1.heap[w.heap.size]? = some (.cells #[.string x.name, .int .i64 x.params, .int .i64 x.regs, .slice v.a v.len v.cap, .slice s.a s.len s.cap] 25) := by
    rw [hU1]
    rw [Below.heap_alloc _ _ _ (by simp; omega), Below.heap_alloc _ _ _ (by simp)]
    exact heap_alloc_new w _
  have q1 : U1.heap[w.heap.size + 1]? = some (.cells #[.string ⟨#[]⟩, .int .i64 0, .int .i64 0, .slice none 0 0, .slice none 0 0] 31) := by
    rw [hU1]
    rw [Below.heap_alloc _ _ _ (by simp)]
    have := heap_alloc_new (w.alloc (.cells #[.string x.name, .int .i64 x.params, .int .i64 x.regs, .slice v.a v.len v.cap, .slice s.a s.len s.cap] 25)) (.cells #[.string ⟨#[]⟩, .int .i64 0, .int .i64 0, .slice none 0 0, .slice none 0 0] 31)
    simpa using this
  have q2 : U1.heap[w.heap.size + 1 + 1]? = some (.cells #[.string x.name, .int .i64 x.params, .int .i64 x.regs, .slice none 0 0, .slice none 0 0] 31) := by
    rw [hU1]
    have := heap_alloc_new ((w.alloc (.cells #[.string x.name, .int .i64 x.params, .int .i64 x.regs, .slice v.a v.len v.cap, .slice s.a s.len s.cap] 25)).alloc (.cells #[.string ⟨#[]⟩, .int .i64 0, .int .i64 0, .slice none 0 0, .slice none 0 0] 31)) (.cells #[.string x.name, .int .i64 x.params, .int .i64 x.regs, .slice none 0 0, .slice none 0 0] 31)
    simpa using this
  have b1 : Below w.heap.size w U1 := by
    rw [hU1]
    repeat (first | exact Below.refl _ _ | refine Below.setCell ?_ (by simp; omega) _ | refine Below.alloc ?_ (by simp <;> omega) _)
  clear hU1
  refine (toIntS_any v.a v.len v.cap x.slots U1 (HR.out.keep b1) hl).mono ?_
  rintro e u1 ⟨rfl, o1, d1⟩
  have Q0 := (d1.block w.heap.size (by omega)).trans q0
  have Q1 := (d1.block (w.heap.size + 1) (by omega)).trans q1
  have Q2 := (d1.block (w.heap.size + 1 + 1) (by omega)).trans q2
  have hz1 : w.heap.size + 3 ≤ u1.heap.size := by have := d1.size; omega
  have B1 : Hid (Below w.heap.size w u1) := b1.trans (d1.mono (by omega))
  have O1 : Hid (Own .i64 3 (w.heap.size + 3) u1 (some ⟨U1.heap.size, 0, none⟩) v.len v.len x.slots) := ⟨own_lowL o1.1 (by omega), o1.2⟩
  have k0 : ∀ j, u1.cell? ⟨w.heap.size, j, none⟩ = (#[.string x.name, .int .i64 x.params, .int .i64 x.regs, .slice v.a v.len v.cap, .slice s.a s.len s.cap] : Array Value)[j]? := fun j => cell_of_row u1 w.heap.size j _ 25 (0, 0) Q0
  have k2 : ∀ j, u1.cell? ⟨w.heap.size + 1 + 1, j, none⟩ = (#[.string x.name, .int .i64 x.params, .int .i64 x.regs, .slice none 0 0, .slice none 0 0] : Array Value)[j]? := fun j => cell_of_row u1 (w.heap.size + 1 + 1) j _ 31 (0, 0) Q2
  have f2 : ∀ j, u1.frozen? ⟨w.heap.size + 1 + 1, j, none⟩ = false := fun j => frozen_of_row u1 (w.heap.size + 1 + 1) j _ 31 Q2
  have HQ0 : Hid (u1.heap[w.heap.size]? = some (.cells #[.string x.name, .int .i64 x.params, .int .i64 x.regs, .slice v.a v.len v.cap, .slice s.a s.len s.cap] 25)) := Q0
  have HQ1 : Hid (u1.heap[w.heap.size + 1]? = some (.cells #[.string ⟨#[]⟩, .int .i64 0, .int .i64 0, .slice none 0 0, .slice none 0 0] 31)) := Q1
  have HQ2 : Hid (u1.heap[w.heap.size + 1 + 1]? = some (.cells #[.string x.name, .int .i64 x.params, .int .i64 x.regs, .slice none 0 0, .slice none 0 0] 31)) := Q2
  generalize (some ⟨U1.heap.size, 0, none⟩ : Option Addr) = A at O1
  clear Q0 Q1 Q2 q0 q1 q2 b1 o1 d1 z1
  go_wp2_with fail
  refine ty_at fun U2 hU2 => ?_
  have z2 : U2.heap.size = u1.heap.size := by rw [hU2]; simp
  have a2 : Above (w.heap.size + 3) u1 U2 := by
    rw [hU2]
    repeat (first | with_reducible exact Above.refl _ _ | refine Above.setCell ?_ (by simp <;> omega) _)
  have b2 : Below w.heap.size w U2 := by
    rw [hU2]
    repeat (first | with_reducible exact B1.out | refine Below.setCell ?_ (by simp <;> omega) _)
  have r1 : U2.heap[w.heap.size + 1]? = some (.cells #[.string ⟨#[]⟩, .int .i64 0, .int .i64 0, .slice none 0 0, .slice none 0 0] 31) := by
    rw [hU2, heap_setCell_other _ _ _ _ (show w.heap.size + 1 ≠ w.heap.size + 1 + 1 by omega)]; exact HQ1.out
  have r2 : U2.heap[w.heap.size + 1 + 1]? = some (.cells #[.string x.name, .int .i64 x.params, .int .i64 x.regs, .slice A v.len v.len, .slice none 0 0] 31) := by
    rw [hU2]; exact ty_put HQ2.out 3 _ rfl
  clear hU2 k0 k2 f2 HQ0 HQ1 HQ2
  refine (toIrInsS_own s.a s.len s.cap x.code U2 (HS.out.keep b2) hl2 HKS.out).mono ?_
  rintro e u2 ⟨rfl, o2, d2⟩
  have R1 := (d2.block (w.heap.size + 1) (by omega)).trans r1
  have R2 := (d2.block (w.heap.size + 1 + 1) (by omega)).trans r2
  have B2 : Hid (Below w.heap.size w u2) := b2.trans (d2.mono (by omega))
  have O2 : Hid (IOw U2.heap.size u2 s.len x.code) := o2
  have O3 : Hid (Own .i64 3 (w.heap.size + 3) u2 A v.len v.len x.slots) := (O1.out.above a2).above (Above.of_below d2)
  have OL : Hid (∀ q, (Value.slice A v.len v.len).ownBlock = some q → q < U2.heap.size) := fun q hq => by have := (O1.out.1.lt q hq).2; omega
  have OG : Hid (w.heap.size + 3 ≤ U2.heap.size) := by show _ ≤ _; omega
  have k1 : ∀ j, u2.cell? ⟨w.heap.size + 1, j, none⟩ = (#[.string ⟨#[]⟩, .int .i64 0, .int .i64 0, .slice none 0 0, .slice none 0 0] : Array Value)[j]? := fun j => cell_of_row u2 (w.heap.size + 1) j _ 31 (0, 0) R1
  have k2 : ∀ j, u2.cell? ⟨w.heap.size + 1 + 1, j, none⟩ = (#[.string x.name, .int .i64 x.params, .int .i64 x.regs, .slice A v.len v.len, .slice none 0 0] : Array Value)[j]? := fun j => cell_of_row u2 (w.heap.size + 1 + 1) j _ 31 (0, 0) R2
  have f1 : ∀ j, u2.frozen? ⟨w.heap.size + 1, j, none⟩ = false := fun j => frozen_of_row u2 (w.heap.size + 1) j _ 31 R1
  have f2 : ∀ j, u2.frozen? ⟨w.heap.size + 1 + 1, j, none⟩ = false := fun j => frozen_of_row u2 (w.heap.size + 1 + 1) j _ 31 R2
  have HR1 : Hid (u2.heap[w.heap.size + 1]? = some (.cells #[.string ⟨#[]⟩, .int .i64 0, .int .i64 0, .slice none 0 0, .slice none 0 0] 31)) := R1
  generalize U2.heap.size = G2 at O2 OL OG ⊢
  clear R1 R2 r1 r2 b2 o2 d2 z2 a2
  go_wp2
  refine bodyPost_ret (v := .agg #[.string x.name, .int .i64 x.params, .int .i64 x.regs, .slice A v.len v.len, .slice (some ⟨G2, 0, none⟩) s.len s.len]) ?_ rfl ⟨⟨A, v.len, v.len⟩, G2, rfl, ⟨?_, ?_, OL.out, by have := OG.out; omega, HNM.out⟩, ?_⟩
  · refine results_cell_row Tryz.results8 _ _ (w.heap.size + 1) 31 #[.string x.name, .int .i64 x.params, .int .i64 x.regs, .slice A v.len v.len, .slice (some ⟨G2, 0, none⟩) s.len s.len] (0, 0) _ ?hp ?hg Tryz.underlying31 ?hd ?hi
    case hp => rfl
    case hd => rfl
    case hi => kernel_rfl
    case hg =>
      have h0 : (u2.setCell ⟨w.heap.size + 1 + 1, 4, none⟩ (.slice (some ⟨G2, 0, none⟩) s.len s.len)).heap[w.heap.size + 1]? = some (.cells #[.string ⟨#[]⟩, .int .i64 0, .int .i64 0, .slice none 0 0, .slice none 0 0] 31) := by
        rw [heap_setCell_other _ _ _ _ (show w.heap.size + 1 ≠ w.heap.size + 1 + 1 by omega)]
        exact HR1.out
      have h1 := ty_put (cs' := #[.string x.name, .int .i64 0, .int .i64 0, .slice none 0 0, .slice none 0 0]) h0 0 (.string x.name) rfl
      have h2 := ty_put (cs' := #[.string x.name, .int .i64 x.params, .int .i64 0, .slice none 0 0, .slice none 0 0]) h1 1 (.int .i64 x.params) rfl
      have h3 := ty_put (cs' := #[.string x.name, .int .i64 x.params, .int .i64 x.regs, .slice none 0 0, .slice none 0 0]) h2 2 (.int .i64 x.regs) rfl
      have h4 := ty_put (cs' := #[.string x.name, .int .i64 x.params, .int .i64 x.regs, .slice A v.len v.len, .slice none 0 0]) h3 3 (.slice A v.len v.len) rfl
      have h5 := ty_put (cs' := #[.string x.name, .int .i64 x.params, .int .i64 x.regs, .slice A v.len v.len, .slice (some ⟨G2, 0, none⟩) s.len s.len]) h4 4 (.slice (some ⟨G2, 0, none⟩) s.len s.len) rfl
      exact h5
  · refine Own.low (O3.out.above ?_) (by omega)
    repeat (first | with_reducible exact Above.refl _ _ | refine Above.setCell ?_ (by simp <;> omega) _)
  · refine O2.out.above (B := w.heap.size + 3) ?_ OG.out
    repeat (first | with_reducible exact Above.refl _ _ | refine Above.setCell ?_ (by simp <;> omega) _)
  · repeat (first | with_reducible exact B2.out | refine Below.setCell ?_ (by simp <;> omega) _)
end Go.Proofs.YtcgfgmlfbgbkfaaGreatDoor.W
namespace Go.Proofs.YtcgfgmlfbgbkfaaGreatDoor.Pl
def mtx : Nat → Int → ByteArray → ByteArray
  | 0, _, s => s
  | f + 1, n, s => if n ≤ 0 then s else mtx f (n / 10) (ByteArray.empty.push (UInt8.ofNat (48 + n % 10).toNat) ++ s)
def mText (k : Int) : ByteArray := (⟨#[109]⟩ : ByteArray) ++ mtx k.toNat k ⟨#[]⟩
theorem mtx_zero (f : Nat) (n : Int) (h : n ≤ 0) (s : ByteArray) : mtx f n s = s := by
  cases f
  · rfl
  · exact if_pos h
end Go.Proofs.YtcgfgmlfbgbkfaaGreatDoor.Pl
namespace Go.Proofs.YtcgfgmlfbgbkfaaGreatDoor.W
open Go.RowKit
theorem conv_oneH (w : World) (c : Int) : (convert 186 9 (.slice (some ⟨w.heap.size, 0, none⟩) 1 1)).run Tryz.prog (w.alloc (.cells #[.int .u8 c] 5)) = .ok (.string (ByteArray.empty.push (UInt8.ofNat c.toNat))) (w.alloc (.cells #[.int .u8 c] 5)) := by
  rw [run_convert_bytes_string _ 186 9 5 _ _ _ Tryz.underlying186 Tryz.underlying5 Tryz.underlying9]
  refine run_bytesToString _ _ 1 1 [c] ?_
  refine (run_loadCells_list _ _ [.int .u8 c] ?_).trans rfl
  intro j v hj
  rcases j with _ | j
  · cases hj
    exact cell_of_row _ w.heap.size 0 _ 5 (0, 0) (heap_alloc_new w _)
  · simp at hj
set_option maxRecDepth 8000 in
set_option maxHeartbeats 2000000 in
theorem markText_is (k : Int) (hk : 1 ≤ k ∧ k ≤ 4611686018427387904) (w : World) : Calls Tryz.prog 70 #[.int .i64 k] w fun e w' => e = .returned (.string (Pl.mText k)) ∧ Below w.heap.size w w' := by
  have h0 : ¬ k ≤ 0 := by omega
  go_enter Tryz.func70, Tryz.ntmps70
  go_wp2_with fail
  go_loopw [0, 3] (fun x v wr => ∃ (n : Int) (s : ByteArray) (m f : Nat), x = .int .i64 n ∧ v = .string s ∧ 0 ≤ n ∧ n ≤ 4611686018427387904 ∧ n < 10 ^ m ∧ s.size + m ≤ 19 ∧ n ≤ f ∧ Pl.mtx f n s = Pl.mtx k.toNat k ⟨#[]⟩ ∧ Below w.heap.size w wr) (fun x _ _ => (intOf x).toNat)
  case atStart => exact ⟨k, ⟨#[]⟩, 19, k.toNat, rfl, rfl, by omega, hk.2, by omega, by decide, by omega, rfl, Below.refl _ _⟩
  case round =>
    obtain ⟨n, s, m, f, rfl, rfl, hn0, hn1, hnm, hsm, hf, hmt, hbel⟩ := hrel
    have HB : Hid (Below w.heap.size w wr) := hbel
    have HM : Hid (n < 10 ^ m) := hnm
    have HT : Hid (Pl.mtx f n s = Pl.mtx k.toNat k ⟨#[]⟩) := hmt
    have HF : Hid (n ≤ f) := hf
    clear hbel hnm hmt hf
    by_cases hp : 0 < n
    · have hcv := conv_oneH wr
      go_wp2
      go_roundw
      case rel =>
        obtain ⟨m, rfl⟩ : ∃ m', m = m' + 1 := by
          rcases m with _ | m
          · have := HM.out; simp at this; omega
          · exact ⟨m, rfl⟩
        obtain ⟨f, rfl⟩ : ∃ f', f = f' + 1 := by
          rcases f with _ | f
          · have := HF.out; omega
          · exact ⟨f, rfl⟩
        have hq : n / 10 < 10 ^ m := by
          have := HM.out
          rw [Int.pow_succ] at this
          omega
        have hff := HF.out
        refine ⟨n / 10, _, m, f, by go_num, rfl, by omega, by omega, hq, by simp; omega, by omega, ?_, HB.out.trans ((below_alloc wr _).mono HB.out.size)⟩
        rw [← HT.out]
        show _ = if n ≤ 0 then s else _
        rw [if_neg (by omega)]
      case measure => simp [intOf]; omega
    · go_wp2
      go_ret
      refine ⟨?_, HB.out⟩
      unfold Pl.mText
      rw [← HT.out, Pl.mtx_zero _ _ (by omega)]
      rfl
structure Tr (lo hi : Nat) (w w' : World) : Prop where
  os : w'.os = w.os
  tape : w'.tape = w.tape
  output : w'.output = w.output
  size : w.heap.size ≤ w'.heap.size
  block : ∀ g, g < w.heap.size → g < lo ∨ hi ≤ g → w'.heap[g]? = w.heap[g]?
theorem Tr.refl (lo hi : Nat) (w : World) : Tr lo hi w w := ⟨rfl, rfl, rfl, Nat.le_refl _, fun _ _ _ => rfl⟩
theorem Tr.trans {lo hi : Nat} {a b c : World} (h : Tr lo hi a b) (k : Tr lo hi b c) : Tr lo hi a c := ⟨k.os.trans h.os, k.tape.trans h.tape, k.output.trans h.output, Nat.le_trans h.size k.size, fun g hg hq => (k.block g (Nat.lt_of_lt_of_le hg h.size) hq).trans (h.block g hg hq)⟩
theorem Tr.of_below {lo hi : Nat} {w w' : World} (h : Below w.heap.size w w') : Tr lo hi w w' := ⟨h.os, h.tape, h.output, h.size, fun g hg _ => h.block g hg⟩
theorem Tr.of_touch {lo hi : Nat} {a : Option Addr} {w w' : World} (h : Touch a w w') (ha : ∀ ad, a = some ad → lo ≤ ad.block ∧ ad.block < hi) : Tr lo hi w w' := ⟨h.os, h.tape, h.output, Nat.le_of_eq h.size.symm, fun g _ hq => h.block g fun ad e => by have := ha ad e; omega⟩
theorem Tr.setCell {lo hi : Nat} (w : World) {g : Nat} (h : lo ≤ g ∧ g < hi) (j : Nat) (v : Value) : Tr lo hi w (w.setCell ⟨g, j, none⟩ v) := by
  have o := OnlyG.setCell w g j v
  exact ⟨o.os, o.tape, o.output, Nat.le_of_eq o.size.symm, fun q _ hq => o.block q (by omega)⟩
structure WI (lo hi : Nat) (w : World) (g len : Nat) (V : Nat → SV) : Prop where
  frz : ∀ q, w.frozen? ⟨g, q, none⟩ = false
  gl : lo ≤ g ∧ g < hi ∧ hi ≤ w.heap.size
  cel : ∀ i, i < len → ∀ j, j < 7 → (w.cell? ⟨g, i * 7 + j, none⟩).isSome = true
  arg : ∀ i, i < len → w.cell? ⟨g, i * 7 + 6, none⟩ = some (.slice (V i).a (V i).len (V i).cap)
  row : ∀ i, i < len → (∃ zs, Own .i64 3 lo w (V i).a (V i).len (V i).cap zs) ∧ (V i).len ≤ 1048576
  rlt : ∀ i, i < len → ∀ q, (Value.slice (V i).a (V i).len (V i).cap).ownBlock = some q → q < hi ∧ g < q
  dis : ∀ i j q, i < len → j < len → (Value.slice (V i).a (V i).len (V i).cap).ownBlock = some q → (Value.slice (V j).a (V j).len (V j).cap).ownBlock = some q → i = j
theorem IOw.wi {g : Nat} {w : World} {len : Nat} {xs : List Pl.IrI} (h : IOw g w len xs) {lo : Nat} (hlo : lo ≤ g) (hx : ∀ i, i < len → (xs.getD i Pl.IrI.zero).args.length ≤ 1048576) : ∃ V, WI lo w.heap.size w g len V := by
  obtain ⟨h1, h2, h3, V, h4, h5⟩ := h
  refine ⟨V, h2, ⟨hlo, h3, Nat.le_refl _⟩, fun i hi j hj => ?_, fun i hi => (h4 i hi).1 6 (by decide), fun i hi => ⟨⟨_, Own.low (h4 i hi).2.1 (by omega)⟩, ?_⟩, fun i hi q hq => ?_, h5⟩
  · rw [(h4 i hi).1 j hj]
    rcases (show j = 0 ∨ j = 1 ∨ j = 2 ∨ j = 3 ∨ j = 4 ∨ j = 5 ∨ j = 6 by omega) with rfl | rfl | rfl | rfl | rfl | rfl | rfl <;> rfl
  · have := (h4 i hi).2.1.row.1; have := hx i hi; omega
  · have := (h4 i hi).2.1.1.lt q hq; omega
section
variable {lo hi : Nat} {w w' : World} {g len : Nat} {V : Nat → SV}
theorem WI.later (h : WI lo hi w g len V) (hb : Below w.heap.size w w') : WI lo hi w' g len V := by
  have hg : g < w.heap.size := by have := h.gl; omega
  refine ⟨fun q => (hb.frozen (p := ⟨g, q, none⟩) hg).trans (h.frz q), ⟨h.gl.1, h.gl.2.1, Nat.le_trans h.gl.2.2 hb.size⟩, fun i hi j hj => ?_, fun i hi => (hb.cell (p := ⟨g, i * 7 + 6, none⟩) hg).trans (h.arg i hi), fun i hi => ?_, h.rlt, h.dis⟩
  · rw [hb.cell (p := ⟨g, i * 7 + j, none⟩) hg]; exact h.cel i hi j hj
  · obtain ⟨⟨zs, hz⟩, hl⟩ := h.row i hi
    exact ⟨⟨zs, hz.above (Above.of_below hb)⟩, hl⟩
theorem WI.set (h : WI lo hi w g len V) {i j : Nat} (hi' : i < len) (hj : j < 6) (v : Value) : WI lo hi (w.setCell ⟨g, i * 7 + j, none⟩ v) g len V := by
  have hsame := h.cel i hi' j (by omega)
  refine ⟨fun q => by rw [World.frozen?_setCell]; exact h.frz q, ?_, fun p hp q hq => ?_, fun p hp => ?_, fun p hp => ?_, h.rlt, h.dis⟩
  · have := h.gl; rw [World.size_setCell]; exact this
  · by_cases e : p * 7 + q = i * 7 + j
    · rw [e, World.cell?_setCell_same' _ _ _ hsame]; rfl
    · rw [World.cell?_setCell_other _ _ _ _ (ty_ne (fun q => e q.symm))]; exact h.cel p hp q hq
  · rw [World.cell?_setCell_other _ _ _ _ (ty_ne (by omega))]; exact h.arg p hp
  · obtain ⟨⟨zs, hz⟩, hl⟩ := h.row p hp
    exact ⟨⟨zs, own_eqL hz.1 fun q hq => heap_setCell_other w ⟨g, i * 7 + j, none⟩ q v (by have := (h.rlt p hp q hq).2; show q ≠ g; omega), hz.2⟩, hl⟩
theorem WI.high (h : WI lo hi w g len V) (hb : ∀ q, g ≤ q → w'.heap[q]? = w.heap[q]?) (hs : w.heap.size ≤ w'.heap.size) : WI lo hi w' g len V := by
  have hgb := hb g (Nat.le_refl _)
  refine ⟨fun q => ?_, ⟨h.gl.1, h.gl.2.1, Nat.le_trans h.gl.2.2 hs⟩, fun p hp q hq => ?_, fun p hp => ?_, fun p hp => ?_, h.rlt, h.dis⟩
  · have := h.frz q; simp only [World.frozen?, hgb] at this ⊢; exact this
  · have := h.cel p hp q hq; simp only [World.cell?, hgb] at this ⊢; exact this
  · have := h.arg p hp; simp only [World.cell?, hgb] at this ⊢; exact this
  · obtain ⟨⟨z2, hz⟩, hl⟩ := h.row p hp
    exact ⟨⟨z2, own_eqL hz.1 fun q hq => hb q (by have := (h.rlt p hp q hq).2; omega), hz.2⟩, hl⟩
theorem WI.mark (h : WI lo hi w g len V) {i : Nat} (hi' : i < len) (ht : Touch (V i).a w w') {zs : List Int} (ho : Own .i64 3 lo w' (V i).a (V i).len (V i).cap zs) : WI lo hi w' g len V := by
  have hkb : ∀ q, (Value.slice (V i).a (V i).len (V i).cap).ownBlock ≠ some q → w'.heap[q]? = w.heap[q]? := fun q hq => ht.block q fun ad e => by
    rcases ho.1.2 with ⟨z, _⟩ | ⟨g', cap', cur, z, _⟩
    · injection z with z1 z2 z3; rw [z1] at e; cases e
    · injection z with z1 z2 z3
      rw [z1] at e
      injection e with e
      subst e
      rw [z1] at hq
      simpa [Value.ownBlock, eq_comm] using hq
  have hgb : w'.heap[g]? = w.heap[g]? := hkb g fun e => Nat.lt_irrefl _ (h.rlt i hi' g e).2
  refine ⟨fun q => ?_, by rw [ht.size]; exact h.gl, fun p hp q hq => ?_, fun p hp => ?_, fun p hp => ?_, h.rlt, h.dis⟩
  · have := h.frz q; simp only [World.frozen?, hgb] at this ⊢; exact this
  · have := h.cel p hp q hq; simp only [World.cell?, hgb] at this ⊢; exact this
  · have := h.arg p hp; simp only [World.cell?, hgb] at this ⊢; exact this
  · obtain ⟨⟨z2, hz⟩, hl⟩ := h.row p hp
    by_cases e : p = i
    · subst e; exact ⟨⟨zs, ho⟩, hl⟩
    · exact ⟨⟨z2, own_eqL hz.1 fun q hq => hkb q fun c => e (h.dis p i q hp hi' hq c), hz.2⟩, hl⟩
end
theorem own_touch {lo hi : Nat} {w w' : World} {a : Option Addr} {n c : Nat} {zs : List Int} (ho : Own .i64 3 lo w a n c zs) (hr : ∀ q, (Value.slice a n c).ownBlock = some q → q < hi) (ht : Touch a w w') : Tr lo hi w w' := Tr.of_touch ht fun ad e => by
  rcases ho.1.2 with ⟨z, _⟩ | ⟨g', cap', cur, z, hlo, _⟩
  · injection z with z1 z2 z3; rw [z1] at e; cases e
  · injection z with z1 z2 z3
    rw [z1] at e
    injection e with e
    subst e
    exact ⟨hlo, hr g' (by rw [z1]; rfl)⟩
def MkA (e : Ending) : Prop := ∃ k : Int, 0 ≤ k ∧ e = .returned (.int .i64 k)
set_option maxRecDepth 100000 in
set_option maxHeartbeats 8000000 in
theorem markIrInsS_any {lo hi : Nat} (w : World) (g len : Nat) (V : Nat → SV) (h : WI lo hi w g len V) (hlen : len ≤ 1048576) (k0 : Int) (hk : 1 ≤ k0 ∧ k0 ≤ 2000000) : Calls Tryz.prog 38 #[.slice (some ⟨g, 0, none⟩) len len, .int .i64 k0] w fun e w' => MkA e ∧ Tr lo hi w w' := by
  have HW : Hid (WI lo hi w g len V) := h
  clear h
  have hlm : (len : Int) ≤ 1048576 := by omega
  go_enter Tryz.func38, Tryz.ntmps38
  go_wp2_with fail
  go_loopw [1, 5] (fun kv t wr => ∃ (i : Nat) (k : Int), i ≤ len ∧ t = .int .i64 (i : Int) ∧ kv = .int .i64 k ∧ 1 ≤ k ∧ k ≤ 2000000 + 1048582 * (i : Int) ∧ Hid (WI lo hi wr g len V ∧ Tr lo hi w wr)) (fun _ t _ => len - (intOf t).toNat)
  case atStart => exact ⟨0, k0, Nat.zero_le _, rfl, rfl, hk.1, by omega, HW.out, Tr.refl _ _ _⟩
  case round =>
    obtain ⟨i, k, hi', rfl, rfl, hk1, hk2, HS⟩ := hrel
    by_cases hlt : i < len
    rotate_left
    · have hii : ¬ ((i : Int) < (len : Int)) := by omega
      go_wp2_with fail
      go_ret
      exact ⟨⟨k, by omega, rfl⟩, HS.out.2⟩
    have hii : (i : Int) < (len : Int) := by omega
    have hkb : k ≤ 2000000000000 := by omega
    have HKB : Hid (k ≤ 2000000 + 1048582 * (i : Int)) := hk2
    obtain ⟨z0, c0⟩ := Option.isSome_iff_exists.1 (HS.out.1.cel i hlt 0 (by decide))
    obtain ⟨z1, c1⟩ := Option.isSome_iff_exists.1 (HS.out.1.cel i hlt 1 (by decide))
    obtain ⟨z2, c2⟩ := Option.isSome_iff_exists.1 (HS.out.1.cel i hlt 2 (by decide))
    obtain ⟨z3, c3⟩ := Option.isSome_iff_exists.1 (HS.out.1.cel i hlt 3 (by decide))
    obtain ⟨z4, c4⟩ := Option.isSome_iff_exists.1 (HS.out.1.cel i hlt 4 (by decide))
    rw [Nat.add_zero] at c0
    have f0 := HS.out.1.frz (i * 7)
    have f1 := HS.out.1.frz (i * 7 + 1)
    have f2 := HS.out.1.frz (i * 7 + 2)
    have f3 := HS.out.1.frz (i * 7 + 3)
    have f4 := HS.out.1.frz (i * 7 + 4)
    clear hk2
    go_wp2_with fail
    refine ty_at fun U hU => ?_
    have H1 : Hid (WI lo hi U g len V ∧ Tr lo hi w U) := by
      have gg := HS.out.1.gl
      rw [hU]
      refine ⟨((((HS.out.1.set (j := 0) hlt (by decide) _).set (j := 1) hlt (by decide) _).set (j := 2) hlt (by decide) _).set (j := 3) hlt (by decide) _).set (j := 4) hlt (by decide) _, ?_⟩
      exact ((((HS.out.2.trans (Tr.setCell _ ⟨gg.1, gg.2.1⟩ _ _)).trans (Tr.setCell _ ⟨gg.1, gg.2.1⟩ _ _)).trans (Tr.setCell _ ⟨gg.1, gg.2.1⟩ _ _)).trans (Tr.setCell _ ⟨gg.1, gg.2.1⟩ _ _)).trans (Tr.setCell _ ⟨gg.1, gg.2.1⟩ _ _)
    clear hU c0 c1 c2 c3 c4 f0 f1 f2 f3 f4 HS
    refine (markText_is _ (by omega) U).mono ?_
    rintro e u1 ⟨rfl, d1⟩
    have H2 : Hid (WI lo hi u1 g len V ∧ Tr lo hi w u1) := ⟨H1.out.1.later d1, H1.out.2.trans (Tr.of_below d1)⟩
    obtain ⟨z5, c5⟩ := Option.isSome_iff_exists.1 (H2.out.1.cel i hlt 5 (by decide))
    have f5 := H2.out.1.frz (i * 7 + 5)
    have c6 := H2.out.1.arg i hlt
    obtain ⟨⟨zs, hzs⟩, hvl⟩ := H2.out.1.row i hlt
    have hrlt := H2.out.1.rlt i hlt
    obtain ⟨vv, hvi⟩ : ∃ vv, V i = vv := ⟨_, rfl⟩
    obtain ⟨va, vl, vc⟩ := vv
    rw [hvi] at c6 hzs hvl hrlt
    clear d1 H1
    go_wp2_with fail
    refine ty_at fun U hU => ?_
    have H3 : Hid (WI lo hi U g len V ∧ Tr lo hi w U) := by
      have gg := H2.out.1.gl
      rw [hU]
      exact ⟨H2.out.1.set (j := 5) hlt (by decide) _, H2.out.2.trans (Tr.setCell _ ⟨gg.1, gg.2.1⟩ _ _)⟩
    obtain ⟨⟨zt, hzt⟩, _⟩ := H3.out.1.row i hlt
    rw [hvi] at hzt
    clear hU c5 f5 c6 hzs H2
    refine (markIntS_any va vl vc zt _ U hzt (by first | omega | (simp only at hvl; omega))).mono ?_
    rintro e u2 ⟨rfl, o2, t2⟩
    have H4 : Hid (WI lo hi u2 g len V ∧ Tr lo hi w u2) := ⟨H3.out.1.mark hlt (by rw [hvi]; exact t2) (by rw [hvi]; exact o2), H3.out.2.trans (own_touch hzt (fun q hq => (hrlt q hq).1) t2)⟩
    have HVL : Hid (vl ≤ 1048576) := hvl
    clear o2 t2 hzt H3 hrlt hvl
    have hvl2 : (vl : Int) ≤ 1048576 := by have := HVL.out; omega
    go_wp2_with fail
    refine ⟨⟨i + 1, _, by omega, by go_num, rfl, by omega, by have := HKB.out; omega, H4⟩, by simp [intOf]; omega⟩
set_option maxRecDepth 100000 in
set_option maxHeartbeats 8000000 in
theorem markIrFun_any {lo : Nat} (x : Pl.IrF) (v : SV) (gs n : Nat) (u w : World) (h : FOw lo u v gs n x) (hx : x.sized) (hb : Below u.heap.size u w) : Calls Tryz.prog 12 #[.agg #[.string x.name, .int .i64 x.params, .int .i64 x.regs, .slice v.a v.len v.cap, .slice (some ⟨gs, 0, none⟩) n n], .int .i64 1] w fun e w' => MkA e ∧ Tr lo u.heap.size w w' := by
  obtain ⟨V, hV⟩ := h.cd.wi h.lo_ (fun i hi => (hx.2.2.2 i (by have := h.cd.1; omega)).2)
  have hn : n ≤ 1048576 := by have := h.cd.1; have := hx.2.2.1; omega
  have hvl : v.len ≤ 1048576 := by have := h.sl.row.1; have := hx.2.1; omega
  have hlu : ∀ q, (Value.slice v.a v.len v.cap).ownBlock = some q → q < u.heap.size ∧ q < gs := fun q hq => ⟨(h.sl.1.lt q hq).2, h.lt q hq⟩
  obtain ⟨w1, hw1⟩ : ∃ w1, w1 = w.alloc (.cells #[.string x.name, .int .i64 x.params, .int .i64 x.regs, .slice v.a v.len v.cap, .slice (some ⟨gs, 0, none⟩) n n] 31) := ⟨_, rfl⟩
  have hbw : Below w.heap.size w w1 := by rw [hw1]; exact below_alloc _ _
  have hb1 : Below u.heap.size u w1 := hb.trans (hbw.mono hb.size)
  have k3 : w1.cell? ⟨w.heap.size, 3, none⟩ = some (.slice v.a v.len v.cap) := by rw [hw1, cell_of_row _ w.heap.size 3 _ 31 (0, 0) (heap_alloc_new w _)]; rfl
  have k4 : w1.cell? ⟨w.heap.size, 4, none⟩ = some (.slice (some ⟨gs, 0, none⟩) n n) := by rw [hw1, cell_of_row _ w.heap.size 4 _ 31 (0, 0) (heap_alloc_new w _)]; rfl
  have H1 : Hid (Own .i64 3 lo w1 v.a v.len v.cap x.slots ∧ WI lo u.heap.size w1 gs n V ∧ Tr lo u.heap.size w w1 ∧ ∀ q, (Value.slice v.a v.len v.cap).ownBlock = some q → q < u.heap.size ∧ q < gs) := ⟨h.sl.above (Above.of_below hb1), hV.later hb1, Tr.of_below hbw, hlu⟩
  have huw := hb.size
  have HW1 : Hid (w.alloc (.cells #[.string x.name, .int .i64 x.params, .int .i64 x.regs, .slice v.a v.len v.cap, .slice (some ⟨gs, 0, none⟩) n n] 31) = w1) := hw1.symm
  obtain ⟨va, vl, vc⟩ := v
  simp only at hvl k3 k4 H1 HW1 ⊢
  have hvl2 : (vl : Int) ≤ 1048576 := by omega
  clear h hV hlu hb1 hb hw1 hbw
  go_enter Tryz.func12, Tryz.ntmps12
  go_wp2_with fail
  rw [HW1.out]
  refine (markIntS_any va vl vc x.slots 1 w1 H1.out.1 (by omega)).mono ?_
  rintro e u2 ⟨rfl, o2, t2⟩
  have hge : ∀ ad, va = some ad → ad.block < u.heap.size ∧ ad.block < gs := fun ad e => by
    rcases H1.out.1.1.2 with ⟨z, _⟩ | ⟨g', cap', cur, z, _⟩
    · injection z with z1 z2 z3; rw [z1] at e; cases e
    · injection z with z1 z2 z3
      rw [z1] at e
      injection e with e
      subst e
      exact H1.out.2.2.2 g' (by rw [z1]; rfl)
  have hkb : ∀ g, gs ≤ g ∨ u.heap.size ≤ g → u2.heap[g]? = w1.heap[g]? := fun g hg => t2.block g fun ad e => by have := hge ad e; omega
  have k4' : u2.cell? ⟨w.heap.size, 4, none⟩ = some (.slice (some ⟨gs, 0, none⟩) n n) := by
    have := k4
    simp only [World.cell?, hkb w.heap.size (.inr huw)] at this ⊢
    exact this
  have H2 : Hid (WI lo u.heap.size u2 gs n V ∧ Tr lo u.heap.size w u2) := by
    refine ⟨?_, H1.out.2.2.1.trans (own_touch H1.out.1 (fun q hq => (H1.out.2.2.2 q hq).1) t2)⟩
    exact H1.out.2.1.high (fun q hq => hkb q (.inl hq)) (Nat.le_of_eq t2.size.symm)
  clear o2 t2 hge hkb k3 k4
  go_wp2_with fail
  refine (markIrInsS_any u2 gs n V H2.out.1 hn _ (by omega)).mono ?_
  rintro e u3 ⟨⟨k, hk, rfl⟩, t3⟩
  have H3 : Hid (Tr lo u.heap.size w u3) := H2.out.2.trans t3
  clear t3
  go_wp2_with fail
  go_ret
  exact ⟨⟨k, hk, rfl⟩, H3.out⟩
end Go.Proofs.YtcgfgmlfbgbkfaaGreatDoor.W
namespace Go.Proofs.YtcgfgmlfbgbkfaaGreatDoor.W
open Go.RowKit
structure Gd where
  A : Nat → Option Addr
  C : Nat → Nat
  N : Nat → List Int
def Gd.L (d : Gd) : Nat → List Value := fun i => (d.N i).map (Value.int .i64)
def Gd.V (d : Gd) (i : Nat) : Value := .slice (d.A i) (d.L i).length (d.C i)
def Gd.put (d : Gd) (i : Nat) (g c : Nat) (x : Int) : Gd := ⟨upd d.A i (some ⟨g, 0, none⟩), upd d.C i c, upd d.N i (d.N i ++ [x])⟩
theorem Gd.put_L (d : Gd) (i g c : Nat) (x : Int) : (d.put i g c x).L = upd d.L i (d.L i ++ [.int .i64 x]) := by
  funext j
  unfold Gd.L Gd.put
  by_cases e : j = i
  · subst e; simp [upd_at]
  · simp [upd_ne e]
def newT (T : Nat → Nat) (z t : Nat) : Nat → Nat := fun g => if g < z then T g else t
theorem newT_old {T : Nat → Nat} {z t g : Nat} (h : g < z) : newT T z t g = T g := if_pos h
theorem newT_new {T : Nat → Nat} {z t g : Nat} (h : z ≤ g) : newT T z t g = t := if_neg (by omega)
def LvC (gb gs gu gt n R : Nat) : Array Value := #[.slice (some ⟨gb, 0, none⟩) n n, .slice (some ⟨gs, 0, none⟩) n n, .slice (some ⟨gu, 0, none⟩) R R, .slice (some ⟨gt, 0, none⟩) R R]
structure Lv (W0 w : World) (gl gb gs gu gt n R : Nat) (B U S : Gd) (ss : List Int) (T : Nat → Nat) : Prop where
  bel : Below W0.heap.size W0 w
  glo : W0.heap.size ≤ gl
  box : w.heap[gl]? = some (.cells (LvC gb gs gu gt n R) 122 (0, 0))
  tb : T gl = 0
  rb : Rw 119 108 W0.heap.size w gb n n B.A B.C B.L T 1
  ru : Rw 119 108 W0.heap.size w gu R R U.A U.C U.L T 3
  rt : Rw 119 108 W0.heap.size w gt R R S.A S.C S.L T 5
  sl : w.ownsRow W0.heap.size 3 1 (.slice (some ⟨gs, 0, none⟩) n n) n (ss.map (Value.int .i64))
  ts : T gs = 7
  sn : ss.length = n
section
variable {W0 w : World} {gl gb gs gu gt n R : Nat} {B U S : Gd} {ss : List Int} {T : Nat → Nat}
theorem Lv.later {w' : World} (h : Lv W0 w gl gb gs gu gt n R B U S ss T) (hb : Below w.heap.size w w') : Lv W0 w' gl gb gs gu gt n R B U S ss T :=
  ⟨h.bel.trans (hb.mono h.bel.size), h.glo, (hb.block _ (Array.getElem?_eq_some_iff.1 h.box).1).trans h.box, h.tb, h.rb.later hb, h.ru.later hb, h.rt.later hb, own_eqL h.sl fun g hg => hb.block g (h.sl.lt g hg).2, h.ts, h.sn⟩
theorem Lv.cell (h : Lv W0 w gl gb gs gu gt n R B U S ss T) (j : Nat) : w.cell? ⟨gl, j, none⟩ = (LvC gb gs gu gt n R)[j]? := cell_of_row w gl j _ 122 (0, 0) h.box
theorem Lv.gl_lt (h : Lv W0 w gl gb gs gu gt n R B U S ss T) : gl < w.heap.size := (Array.getElem?_eq_some_iff.1 h.box).1
theorem Lv.setS (h : Lv W0 w gl gb gs gu gt n R B U S ss T) {i : Nat} (hi : i < n) (r : Int) : Lv W0 (w.setCell ⟨gs, i, none⟩ (.int .i64 r)) gl gb gs gu gt n R B U S (ss.set i r) T := by
  have hgs := h.sl.lt gs rfl
  have ho : ∀ g, g ≠ gs → (w.setCell ⟨gs, i, none⟩ (.int .i64 r)).heap[g]? = w.heap[g]? := fun g hg => heap_setCell_other w ⟨gs, i, none⟩ g _ hg
  have hne : ∀ g t, T g = t → t ≠ 7 → g ≠ gs := fun g t h1 h2 e => by rw [e, h.ts] at h1; omega
  have hrw : ∀ {go k : Nat} {A : Nat → Option Addr} {C : Nat → Nat} {L : Nat → List Value} {t : Nat}, Rw 119 108 W0.heap.size w go k k A C L T t → t ≠ 7 → t + 1 ≠ 7 → Rw 119 108 W0.heap.size (w.setCell ⟨gs, i, none⟩ (.int .i64 r)) go k k A C L T t := fun q h1 h2 => q.kept (fun g hg hT => ho g (by rcases hT with e | e; exact hne g _ e h1; exact hne g _ e h2)) fun _ _ => rfl
  refine ⟨h.bel.setCell hgs.1 _, h.glo, (ho gl (hne gl 0 h.tb (by decide))).trans h.box, h.tb, hrw h.rb (by decide) (by decide), hrw h.ru (by decide) (by decide), hrw h.rt (by decide) (by decide), ?_, h.ts, by simpa using h.sn⟩
  have := (h.sl.stored i (.int .i64 r)).1
  rw [List.map_set]; exact this
theorem Lv.app_b (h : Lv W0 w gl gb gs gu gt n R B U S ss T) {i : Nat} (hi : i < n) {w1 y : World} (hb1 : Below w.heap.size w w1) {g' c' : Nat} {x : Int} (hown : y.ownsRow W0.heap.size 108 1 (.slice (some ⟨g', 0, none⟩) ((B.L i).length + 1) c') ((B.L i).length + 1) (B.L i ++ [.int .i64 x])) (hgr : w1.grownBy y (B.V i).ownBlock) (hli : (B.V i).ownBlock = some g' ∨ w.heap.size ≤ g') : Lv W0 (y.setCell ⟨gb, i, none⟩ (.slice (some ⟨g', 0, none⟩) ((B.L i).length + 1) c')) gl gb gs gu gt n R (B.put i g' c' x) U S ss (newT T w.heap.size 2) := by
  have hy : ∀ g, g < w.heap.size → (Value.slice (B.A i) (B.L i).length (B.C i)).ownBlock ≠ some g → y.heap[g]? = w.heap[g]? := fun g hg hne => by
    rw [hgr.block g (Nat.lt_of_lt_of_le hg hb1.size) (fun e => hne e.symm)]
    exact hb1.block g hg
  have hT : ∀ g, g < w.heap.size → newT T w.heap.size 2 g = T g := fun g hg => newT_old hg
  have hlen : (B.L i ++ [Value.int .i64 x]).length = (B.L i).length + 1 := by simp
  have hgo := h.rb.oo.lt gb rfl
  have key := h.rb.repl hi (a := some ⟨g', 0, none⟩) (c := c') (l := B.L i ++ [.int .i64 x]) hy (by rw [hlen]; exact hown) (fun g hg => by
    have e : g' = g := by simpa [Value.ownBlock] using hg
    rw [← e]; exact hli) hT (fun g hg => newT_new hg)
  rw [hlen] at key
  have far : ∀ g, g < w.heap.size → T g ≠ 1 → T g ≠ 2 → (y.setCell ⟨gb, i, none⟩ (.slice (some ⟨g', 0, none⟩) ((B.L i).length + 1) c')).heap[g]? = w.heap[g]? := fun g hg h1 h2 => h.rb.repl_far hi hy hg h1 h2
  have hrw : ∀ {go2 k2 : Nat} {A : Nat → Option Addr} {C : Nat → Nat} {L : Nat → List Value} {t : Nat}, Rw 119 108 W0.heap.size w go2 k2 k2 A C L T t → t ≠ 1 → t ≠ 2 → t + 1 ≠ 1 → t + 1 ≠ 2 → Rw 119 108 W0.heap.size (y.setCell ⟨gb, i, none⟩ (.slice (some ⟨g', 0, none⟩) ((B.L i).length + 1) c')) go2 k2 k2 A C L (newT T w.heap.size 2) t := fun q h1 h2 h3 h4 => q.kept (fun g hg hTg => far g hg (by omega) (by omega)) hT
  have hgl := h.gl_lt
  have hgs := h.sl.lt gs rfl
  have hbel : Below W0.heap.size W0 y := (h.bel.trans (hb1.mono h.bel.size)).grown hgr (Nat.le_trans h.bel.size hb1.size) (fun q hq => ((h.rb.nr i hi).lt q hq).1)
  refine ⟨hbel.setCell hgo.1 _, h.glo, (far gl hgl (by rw [h.tb]; decide) (by rw [h.tb]; decide)).trans h.box, (hT gl hgl).trans h.tb, ?_, ?_, ?_, own_eqL h.sl fun g hg => ?_, (hT gs hgs.2).trans h.ts, h.sn⟩
  · rw [Gd.put_L]; exact key
  · exact hrw h.ru (by decide) (by decide) (by decide) (by decide)
  · exact hrw h.rt (by decide) (by decide) (by decide) (by decide)
  · simp only [Value.ownBlock, Option.some.injEq] at hg
    subst hg
    exact far gs hgs.2 (by rw [h.ts]; decide) (by rw [h.ts]; decide)
theorem Lv.app_u (h : Lv W0 w gl gb gs gu gt n R B U S ss T) {i : Nat} (hi : i < R) {w1 y : World} (hb1 : Below w.heap.size w w1) {g' c' : Nat} {x : Int} (hown : y.ownsRow W0.heap.size 108 1 (.slice (some ⟨g', 0, none⟩) ((U.L i).length + 1) c') ((U.L i).length + 1) (U.L i ++ [.int .i64 x])) (hgr : w1.grownBy y (U.V i).ownBlock) (hli : (U.V i).ownBlock = some g' ∨ w.heap.size ≤ g') : Lv W0 (y.setCell ⟨gu, i, none⟩ (.slice (some ⟨g', 0, none⟩) ((U.L i).length + 1) c')) gl gb gs gu gt n R B (U.put i g' c' x) S ss (newT T w.heap.size 4) := by
  have hy : ∀ g, g < w.heap.size → (Value.slice (U.A i) (U.L i).length (U.C i)).ownBlock ≠ some g → y.heap[g]? = w.heap[g]? := fun g hg hne => by
    rw [hgr.block g (Nat.lt_of_lt_of_le hg hb1.size) (fun e => hne e.symm)]
    exact hb1.block g hg
  have hT : ∀ g, g < w.heap.size → newT T w.heap.size 4 g = T g := fun g hg => newT_old hg
  have hlen : (U.L i ++ [Value.int .i64 x]).length = (U.L i).length + 1 := by simp
  have hgo := h.ru.oo.lt gu rfl
  have key := h.ru.repl hi (a := some ⟨g', 0, none⟩) (c := c') (l := U.L i ++ [.int .i64 x]) hy (by rw [hlen]; exact hown) (fun g hg => by
    have e : g' = g := by simpa [Value.ownBlock] using hg
    rw [← e]; exact hli) hT (fun g hg => newT_new hg)
  rw [hlen] at key
  have far : ∀ g, g < w.heap.size → T g ≠ 3 → T g ≠ 4 → (y.setCell ⟨gu, i, none⟩ (.slice (some ⟨g', 0, none⟩) ((U.L i).length + 1) c')).heap[g]? = w.heap[g]? := fun g hg h1 h2 => h.ru.repl_far hi hy hg h1 h2
  have hrw : ∀ {go2 k2 : Nat} {A : Nat → Option Addr} {C : Nat → Nat} {L : Nat → List Value} {t : Nat}, Rw 119 108 W0.heap.size w go2 k2 k2 A C L T t → t ≠ 3 → t ≠ 4 → t + 1 ≠ 3 → t + 1 ≠ 4 → Rw 119 108 W0.heap.size (y.setCell ⟨gu, i, none⟩ (.slice (some ⟨g', 0, none⟩) ((U.L i).length + 1) c')) go2 k2 k2 A C L (newT T w.heap.size 4) t := fun q h1 h2 h3 h4 => q.kept (fun g hg hTg => far g hg (by omega) (by omega)) hT
  have hgl := h.gl_lt
  have hgs := h.sl.lt gs rfl
  have hbel : Below W0.heap.size W0 y := (h.bel.trans (hb1.mono h.bel.size)).grown hgr (Nat.le_trans h.bel.size hb1.size) (fun q hq => ((h.ru.nr i hi).lt q hq).1)
  refine ⟨hbel.setCell hgo.1 _, h.glo, (far gl hgl (by rw [h.tb]; decide) (by rw [h.tb]; decide)).trans h.box, (hT gl hgl).trans h.tb, ?_, ?_, ?_, own_eqL h.sl fun g hg => ?_, (hT gs hgs.2).trans h.ts, h.sn⟩
  · exact hrw h.rb (by decide) (by decide) (by decide) (by decide)
  · rw [Gd.put_L]; exact key
  · exact hrw h.rt (by decide) (by decide) (by decide) (by decide)
  · simp only [Value.ownBlock, Option.some.injEq] at hg
    subst hg
    exact far gs hgs.2 (by rw [h.ts]; decide) (by rw [h.ts]; decide)
theorem Lv.app_t (h : Lv W0 w gl gb gs gu gt n R B U S ss T) {i : Nat} (hi : i < R) {w1 y : World} (hb1 : Below w.heap.size w w1) {g' c' : Nat} {x : Int} (hown : y.ownsRow W0.heap.size 108 1 (.slice (some ⟨g', 0, none⟩) ((S.L i).length + 1) c') ((S.L i).length + 1) (S.L i ++ [.int .i64 x])) (hgr : w1.grownBy y (S.V i).ownBlock) (hli : (S.V i).ownBlock = some g' ∨ w.heap.size ≤ g') : Lv W0 (y.setCell ⟨gt, i, none⟩ (.slice (some ⟨g', 0, none⟩) ((S.L i).length + 1) c')) gl gb gs gu gt n R B U (S.put i g' c' x) ss (newT T w.heap.size 6) := by
  have hy : ∀ g, g < w.heap.size → (Value.slice (S.A i) (S.L i).length (S.C i)).ownBlock ≠ some g → y.heap[g]? = w.heap[g]? := fun g hg hne => by
    rw [hgr.block g (Nat.lt_of_lt_of_le hg hb1.size) (fun e => hne e.symm)]
    exact hb1.block g hg
  have hT : ∀ g, g < w.heap.size → newT T w.heap.size 6 g = T g := fun g hg => newT_old hg
  have hlen : (S.L i ++ [Value.int .i64 x]).length = (S.L i).length + 1 := by simp
  have hgo := h.rt.oo.lt gt rfl
  have key := h.rt.repl hi (a := some ⟨g', 0, none⟩) (c := c') (l := S.L i ++ [.int .i64 x]) hy (by rw [hlen]; exact hown) (fun g hg => by
    have e : g' = g := by simpa [Value.ownBlock] using hg
    rw [← e]; exact hli) hT (fun g hg => newT_new hg)
  rw [hlen] at key
  have far : ∀ g, g < w.heap.size → T g ≠ 5 → T g ≠ 6 → (y.setCell ⟨gt, i, none⟩ (.slice (some ⟨g', 0, none⟩) ((S.L i).length + 1) c')).heap[g]? = w.heap[g]? := fun g hg h1 h2 => h.rt.repl_far hi hy hg h1 h2
  have hrw : ∀ {go2 k2 : Nat} {A : Nat → Option Addr} {C : Nat → Nat} {L : Nat → List Value} {t : Nat}, Rw 119 108 W0.heap.size w go2 k2 k2 A C L T t → t ≠ 5 → t ≠ 6 → t + 1 ≠ 5 → t + 1 ≠ 6 → Rw 119 108 W0.heap.size (y.setCell ⟨gt, i, none⟩ (.slice (some ⟨g', 0, none⟩) ((S.L i).length + 1) c')) go2 k2 k2 A C L (newT T w.heap.size 6) t := fun q h1 h2 h3 h4 => q.kept (fun g hg hTg => far g hg (by omega) (by omega)) hT
  have hgl := h.gl_lt
  have hgs := h.sl.lt gs rfl
  have hbel : Below W0.heap.size W0 y := (h.bel.trans (hb1.mono h.bel.size)).grown hgr (Nat.le_trans h.bel.size hb1.size) (fun q hq => ((h.rt.nr i hi).lt q hq).1)
  refine ⟨hbel.setCell hgo.1 _, h.glo, (far gl hgl (by rw [h.tb]; decide) (by rw [h.tb]; decide)).trans h.box, (hT gl hgl).trans h.tb, ?_, ?_, ?_, own_eqL h.sl fun g hg => ?_, (hT gs hgs.2).trans h.ts, h.sn⟩
  · exact hrw h.rb (by decide) (by decide) (by decide) (by decide)
  · exact hrw h.ru (by decide) (by decide) (by decide) (by decide)
  · rw [Gd.put_L]; exact key
  · simp only [Value.ownBlock, Option.some.injEq] at hg
    subst hg
    exact far gs hgs.2 (by rw [h.ts]; decide) (by rw [h.ts]; decide)
theorem Lv.far_b (h : Lv W0 w gl gb gs gu gt n R B U S ss T) {i : Nat} (hi : i < n) {w1 y : World} (hb1 : Below w.heap.size w w1) (hgr : w1.grownBy y (B.V i).ownBlock) {v : Value} {g : Nat} (hg : g < w.heap.size) (h9 : T g = 9) : (y.setCell ⟨gb, i, none⟩ v).heap[g]? = w.heap[g]? := by
  refine h.rb.repl_far hi (fun g hg hne => ?_) hg (by rw [h9]; decide) (by rw [h9]; decide)
  rw [hgr.block g (Nat.lt_of_lt_of_le hg hb1.size) (fun e => hne e.symm)]
  exact hb1.block g hg
theorem Lv.far_u (h : Lv W0 w gl gb gs gu gt n R B U S ss T) {i : Nat} (hi : i < R) {w1 y : World} (hb1 : Below w.heap.size w w1) (hgr : w1.grownBy y (U.V i).ownBlock) {v : Value} {g : Nat} (hg : g < w.heap.size) (h9 : T g = 9) : (y.setCell ⟨gu, i, none⟩ v).heap[g]? = w.heap[g]? := by
  refine h.ru.repl_far hi (fun g hg hne => ?_) hg (by rw [h9]; decide) (by rw [h9]; decide)
  rw [hgr.block g (Nat.lt_of_lt_of_le hg hb1.size) (fun e => hne e.symm)]
  exact hb1.block g hg
theorem Lv.far_t (h : Lv W0 w gl gb gs gu gt n R B U S ss T) {i : Nat} (hi : i < R) {w1 y : World} (hb1 : Below w.heap.size w w1) (hgr : w1.grownBy y (S.V i).ownBlock) {v : Value} {g : Nat} (hg : g < w.heap.size) (h9 : T g = 9) : (y.setCell ⟨gt, i, none⟩ v).heap[g]? = w.heap[g]? := by
  refine h.rt.repl_far hi (fun g hg hne => ?_) hg (by rw [h9]; decide) (by rw [h9]; decide)
  rw [hgr.block g (Nat.lt_of_lt_of_le hg hb1.size) (fun e => hne e.symm)]
  exact hb1.block g hg
def Kp (T T' : Nat → Nat) (y y' : World) : Prop := y.heap.size ≤ y'.heap.size ∧ ∀ g, g < y.heap.size → T' g = T g ∧ (T g = 9 → y'.heap[g]? = y.heap[g]?)
theorem Lv.tag {T' : Nat → Nat} (h : Lv W0 w gl gb gs gu gt n R B U S ss T) (hT : ∀ g, g < w.heap.size → T' g = T g) : Lv W0 w gl gb gs gu gt n R B U S ss T' :=
  ⟨h.bel, h.glo, h.box, (hT _ h.gl_lt).trans h.tb, h.rb.kept (fun _ _ _ => rfl) hT, h.ru.kept (fun _ _ _ => rfl) hT, h.rt.kept (fun _ _ _ => rfl) hT, h.sl, (hT _ (h.sl.lt gs rfl).2).trans h.ts, h.sn⟩
end
end Go.Proofs.YtcgfgmlfbgbkfaaGreatDoor.W
namespace Go.Proofs.YtcgfgmlfbgbkfaaGreatDoor.Pl
def regsOk (regs : Int) (us : List Int) : Prop := ∀ i, i < us.length → 0 ≤ us.getD i 0 ∧ us.getD i 0 ≤ regs - 1
end Go.Proofs.YtcgfgmlfbgbkfaaGreatDoor.Pl
namespace Go.Proofs.YtcgfgmlfbgbkfaaGreatDoor.W
open Go.RowKit
theorem isWithin_ir (n a b : Int) (w : World) : Calls Tryz.prog 55 #[.int .i64 n, .int .i64 a, .int .i64 b] w fun e w' => e = .returned (.bool (decide (a ≤ n ∧ n ≤ b))) ∧ w' = w := by
  obtain ⟨R, hR⟩ : ∃ R, R = decide (a ≤ n ∧ n ≤ b) := ⟨_, rfl⟩
  rw [← hR]
  have HR : Hid (R = decide (a ≤ n ∧ n ≤ b)) := hR
  clear hR
  go_enter Tryz.func55, Tryz.ntmps55
  go_wp2
  all_goals (go_ret; refine ⟨ret_bool ?_, rfl⟩; rw [HR.out, Bool.eq_iff_iff]; (try simp only [Bool.or_eq_true, Bool.and_eq_true, beq_iff_eq, decide_eq_true_eq, Bool.false_eq_true, true_iff, false_iff, iff_true, iff_false] at *); first | done | omega | (simp; omega) | simp_all)
theorem own_int {B : Nat} {u : World} {g n cap : Nat} {l : List Int} (h : u.ownsRow B 3 1 (.slice (some ⟨g, 0, none⟩) n cap) n (l.map (Value.int .i64))) {p : Nat} (hp : p < n) : u.cell? ⟨g, p, none⟩ = some (.int .i64 (l.getD p 0)) := by
  have hl : l.length = n := by have := h.1; simpa using this
  rw [h.cellAt p (by omega), List.getElem?_map, List.getD_eq_getElem?_getD, List.getElem?_eq_getElem (by omega)]
  rfl
theorem own_news {B : Nat} {u : World} {g n cap : Nat} {l : List Int} (h : u.ownsRow B 3 1 (.slice (some ⟨g, 0, none⟩) n cap) n (l.map (Value.int .i64))) : ∀ j z, (l.map (Value.int .i64))[j]? = some z → u.cell? ((⟨g, 0, none⟩ : Addr).add j) = some z := fun j z hj => by
  have hl : l.length = n := by have := h.1; simpa using this
  have hjl : j < n := by have := (List.getElem?_eq_some_iff.1 hj).1; rw [List.length_map] at this; omega
  have e1 : (⟨g, 0, none⟩ : Addr).add j = ⟨g, j, none⟩ := by simp only [Addr.add]; split <;> simp_all
  rw [e1, own_int h hjl, ← hj, List.getElem?_map, List.getElem?_eq_getElem (by omega), List.getD_eq_getElem?_getD, List.getElem?_eq_getElem (by omega)]
  rfl
theorem own_keepI {base : Nat} {e : TypeId} {k : Nat} {v : Value} {n : Nat} {xs : List Value} {w w' : World} (h : w.ownsRow base e k v n xs) (hb : Below w.heap.size w w') : w'.ownsRow base e k v n xs := by
  refine ⟨h.1, ?_⟩
  rcases h.2 with q | ⟨g, cap, cur, h0, hlo, hg, r⟩
  · exact .inl q
  · exact .inr ⟨g, cap, cur, h0, hlo, (hb.block g (Array.getElem?_eq_some_iff.1 hg).1).trans hg, r⟩
theorem own_shape {base : Nat} {e : TypeId} {k : Nat} {v : Value} {n : Nat} {xs : List Value} {w : World} (h : w.ownsRow base e k v n xs) : ∃ (a : Option Addr) (c : Nat), v = .slice a n c := by
  rcases h.2 with ⟨q, q2⟩ | ⟨g, cap, cur, h0, _⟩
  · exact ⟨none, 0, by rw [q, q2]⟩
  · exact ⟨_, _, h0⟩
set_option maxRecDepth 100000 in
set_option maxHeartbeats 4000000 in
theorem hasRegs_is (gr : Nat) (regs : Int) (hrg : 0 ≤ regs ∧ regs ≤ 2000) (v : Value) (us ss : List Int) (hul : us.length ≤ 1048577) (hsl : ss.length ≤ 1) (w : World) (h2 : w.cell? ⟨gr, 2, none⟩ = some (.int .i64 regs))
    (hU : Says v "loop.example/s01681/impl.uses" [] w fun u e u' => Ints u.heap.size us e u' ∧ Below u.heap.size u u') (hS : Says v "loop.example/s01681/impl.sets" [] w fun u e u' => Ints u.heap.size ss e u' ∧ Below u.heap.size u u') :
    Calls Tryz.prog 60 #[.pointer (some ⟨gr, 0, none⟩), v] w fun e w' => IsB (Pl.regsOk regs (us ++ ss)) e ∧ Below w.heap.size w w' := by
  obtain ⟨i0, hi, hz0, hz1, hz2⟩ := info_parts Tryz.infoi64
  obtain ⟨zs, hzs⟩ : ∃ zs, zs = us ++ ss := ⟨_, rfl⟩
  have HZS : Hid (zs = us ++ ss) := hzs
  have hzl : zs.length = us.length + ss.length := by rw [hzs, List.length_append]
  rw [← hzs]
  clear hzs
  obtain ⟨T, c, FU, rU, rfl, hmU, hfU, hcU⟩ := hU
  obtain ⟨T', c', FSq, rS, hv', hmS, hfS, hcS⟩ := hS
  cases hv'
  have HCU : Hid (∀ u : World, Below w.heap.size w u → Calls Tryz.prog FU #[rU] u fun e u' => Ints u.heap.size us e u' ∧ Below u.heap.size u u') := fun u hu => hcU u hu
  have HCS : Hid (∀ u : World, Below w.heap.size w u → Calls Tryz.prog FSq #[rS] u fun e u' => Ints u.heap.size ss e u' ∧ Below u.heap.size u u') := fun u hu => hcS u hu
  have HI : Hid (Tryz.prog.info? 3 = some i0 ∧ i0.zero = some (.int .i64 0) ∧ i0.size = 1 ∧ i0.bytes = 8) := ⟨hi, hz0, hz1, hz2⟩
  have H2 : Hid (w.cell? ⟨gr, 2, none⟩ = some (.int .i64 regs)) := h2
  have HWI : Hid (∀ (n a b : Int) (u : World), Calls Tryz.prog 55 #[.int .i64 n, .int .i64 a, .int .i64 b] u fun e w' => e = .returned (.bool (decide (a ≤ n ∧ n ≤ b))) ∧ w' = u) := fun n a b u => isWithin_ir n a b u
  have HP : Hid (∀ (g n c : Nat) (zs : List Int) (u : World), Below w.heap.size w u → u.ownsRow w.heap.size 3 1 (.slice (some ⟨g, 0, none⟩) n c) n (zs.map (Value.int .i64)) → ∀ i, i < n → u.cell? ⟨g, i, none⟩ = some (.int .i64 (zs.getD i 0)) ∧ u.cell? ⟨gr, 2, none⟩ = some (.int .i64 regs)) := fun g n c zs u hu ho i hi => ⟨own_int ho hi, (hu.cell (p := ⟨gr, 2, none⟩) (block_lt_of_cell H2.out)).trans H2.out⟩
  clear hcU hcS hi hz0 hz1 hz2 h2
  go_enter Tryz.func60, Tryz.ntmps60
  go_wp2_with fail
  refine (HCU.out _ (Below.refl _ _)).mono ?_
  rintro e u1 ⟨⟨a1, c1, rfl, o1⟩, d1⟩
  have D1 : Hid (Below w.heap.size w u1) := d1
  have O1 : Hid (u1.ownsRow w.heap.size 3 1 (.slice a1 us.length c1) us.length (us.map (Value.int .i64))) := o1
  clear d1 o1
  go_wp2_with fail
  refine (HCS.out _ D1.out).mono ?_
  rintro e u2 ⟨⟨a2, c2, rfl, o2⟩, d2⟩
  have O2 : Hid (u2.ownsRow u1.heap.size 3 1 (.slice a2 ss.length c2) ss.length (ss.map (Value.int .i64))) := o2
  have O3 : Hid (u2.ownsRow w.heap.size 3 1 (.slice a1 us.length c1) us.length (us.map (Value.int .i64))) := own_keepI O1.out d2
  have DB : Hid (Below w.heap.size w u2) := D1.out.trans (d2.mono D1.out.size)
  clear d2 o2 O1 D1 hmU hfU hmS hfS HCU HCS
  have hul2 : ((us.length : Nat) : Int) ≤ 9223372036854775807 := by omega
  cases a2 with
  | none =>
    have h0 : ss.length = 0 ∧ c2 = 0 := by
      rcases O2.out.2 with ⟨q, q2⟩ | ⟨g, cp, cur, q, _⟩
      · simp only [Value.slice.injEq, true_and] at q; exact q
      · simp at q
    obtain ⟨h0, rfl⟩ := h0
    have hs0 : ss = [] := List.length_eq_zero_iff.1 h0
    subst hs0
    have O4 : Hid (u2.ownsRow w.heap.size 3 1 (.slice a1 us.length c1) us.length (zs.map (Value.int .i64))) := by rw [HZS.out, List.append_nil]; exact O3.out
    have hzl2 : zs.length = us.length := by simpa using hzl
    clear hzl O2
    go_wp2_with (at_builtin; refine wpList_append_noneA rfl (.tmp 8) (.tmp 10) 22 rfl w.heap.size 3 i0 1 0 Tryz.underlying22 HI.out.1 _ us.length _ rfl O3.out rfl ?_)
    go_loopw [13] (fun t wr => ∃ k : Nat, k ≤ us.length ∧ t = .int .i64 (k : Int) ∧ wr = u2 ∧ Hid (∀ i, i < k → 0 ≤ zs.getD i 0 ∧ zs.getD i 0 ≤ regs - 1)) (fun t _ => us.length - (intOf t).toNat)
    case atStart => exact ⟨0, Nat.zero_le _, rfl, rfl, fun i hi => absurd hi (Nat.not_lt_zero _)⟩
    case round =>
      obtain ⟨k, hk, rfl, rfl, S⟩ := hrel
      by_cases hlt : k < us.length
      · have hki : (k : Int) < ((us.length : Nat) : Int) := by omega
        obtain ⟨g, cg, hg, _, hgz⟩ := O4.out.form (by omega)
        simp only [Value.slice.injEq, true_and] at hg
        obtain ⟨rfl, rfl⟩ := hg
        obtain ⟨cz, cr⟩ := HP.out _ _ _ _ _ DB.out O4.out k hlt
        have hww : IntKind.i64.wrap (regs - 1) = regs - 1 := by rw [IntKind.wrap_i64]; omega
        have HZ : Hid (zs.getD k 0 = zs.getD k 0) := rfl
        obtain ⟨z, hz⟩ : ∃ z, z = zs.getD k 0 := ⟨_, rfl⟩
        rw [← hz] at cz
        by_cases hin : 0 ≤ z ∧ z ≤ regs - 1
        · have hib : decide (0 ≤ z ∧ z ≤ regs - 1) = true := decide_eq_true hin
          have HIN : Hid (0 ≤ zs.getD k 0 ∧ zs.getD k 0 ≤ regs - 1) := by rw [← hz]; exact hin
          clear hin hz
          go_wp2_with (go_at_call 55; refine (HWI.out _ _ _ _).mono ?_; rintro e z1 ⟨rfl, g1⟩; rw [g1, hib]; clear g1 z1)
          go_roundw
          case rel => exact ⟨k + 1, by omega, by go_num, by first | trivial | rfl, fun i hi => by
            by_cases e : i = k
            · rw [e]; exact HIN.out
            · exact S.out i (by omega)⟩
          case measure => simp [intOf]; omega
        · have hib : decide (0 ≤ z ∧ z ≤ regs - 1) = false := decide_eq_false hin
          have HN : Hid (¬ Pl.regsOk regs zs) := fun q => hin (by rw [hz]; exact q k (by omega))
          clear hin hz
          go_wp2_with (go_at_call 55; refine (HWI.out _ _ _ _).mono ?_; rintro e z1 ⟨rfl, g1⟩; rw [g1, hib]; clear g1 z1)
          go_ret
          exact ⟨isB_no HN.out, DB.out⟩
      · have hki : ¬ ((k : Int) < ((us.length : Nat) : Int)) := by omega
        have HY : Hid (Pl.regsOk regs zs) := fun i hi => S.out i (by omega)
        go_wp2_with fail
        go_ret
        exact ⟨isB_yes HY.out, DB.out⟩
  | some ad =>
    obtain ⟨g2, hg2⟩ : ∃ g2, ad = ⟨g2, 0, none⟩ := by
      rcases O2.out.2 with ⟨q, q2⟩ | ⟨g, cp, cur, q, _⟩
      · simp at q
      · simp only [Value.slice.injEq, Option.some.injEq] at q; exact ⟨g, q.1⟩
    subst hg2
    have hwz : w.heap.size ≤ u2.heap.size := DB.out.size
    go_wp2_with (at_builtin; refine wpList_append_own _ rfl (.tmp 8) (.tmp 10) 22 rfl w.heap.size 3 i0 (.int .i64 0) 1 8 Tryz.underlying22 HI.out.1 HI.out.2.1 HI.out.2.2.1 HI.out.2.2.2 rfl (by decide) _ us.length (us.map (Value.int .i64)) rfl O3.out ⟨g2, 0, none⟩ ss.length c2 (ss.map (Value.int .i64)) rfl (by rw [List.length_map, Nat.mul_one]) (own_news O2.out) (by intro u hu; obtain ⟨n, _, rfl⟩ := List.mem_map.1 hu; rfl) (by unfold maxLen; omega) (by omega) hwz ?_)
    intro v' u3 hown' hgr _
    have O4 : Hid (u3.ownsRow w.heap.size 3 1 v' (us.length + ss.length) (zs.map (Value.int .i64))) := by rw [HZS.out, List.map_append]; exact hown'
    have HG : Hid (Below w.heap.size w u3) := DB.out.grown hgr hwz (fun k hk => (O3.out.lt k hk).1)
    clear DB
    have DB : Hid (Below w.heap.size w u3) := HG.out
    clear hown' hgr O2 O3 HG
    obtain ⟨a4, c4, hv4⟩ := own_shape O4.out
    subst hv4
    obtain ⟨n, hn⟩ : ∃ n, n = us.length + ss.length := ⟨_, rfl⟩
    rw [← hn] at O4 hzl ⊢
    have hn2 : ((n : Nat) : Int) ≤ 9223372036854775807 := by omega
    clear hn hul2
    go_wp2_with fail
    go_loopw [13] (fun t wr => ∃ k : Nat, k ≤ n ∧ t = .int .i64 (k : Int) ∧ wr = u3 ∧ Hid (∀ i, i < k → 0 ≤ zs.getD i 0 ∧ zs.getD i 0 ≤ regs - 1)) (fun t _ => n - (intOf t).toNat)
    case atStart => exact ⟨0, Nat.zero_le _, rfl, rfl, fun i hi => absurd hi (Nat.not_lt_zero _)⟩
    case round =>
      obtain ⟨k, hk, rfl, rfl, S⟩ := hrel
      by_cases hlt : k < n
      · have hki : (k : Int) < ((n : Nat) : Int) := by omega
        obtain ⟨g, cg, hg, _, hgz⟩ := O4.out.form (by omega)
        simp only [Value.slice.injEq, true_and] at hg
        obtain ⟨rfl, rfl⟩ := hg
        obtain ⟨cz, cr⟩ := HP.out _ _ _ _ _ DB.out O4.out k hlt
        have hww : IntKind.i64.wrap (regs - 1) = regs - 1 := by rw [IntKind.wrap_i64]; omega
        have HZ : Hid (zs.getD k 0 = zs.getD k 0) := rfl
        obtain ⟨z, hz⟩ : ∃ z, z = zs.getD k 0 := ⟨_, rfl⟩
        rw [← hz] at cz
        by_cases hin : 0 ≤ z ∧ z ≤ regs - 1
        · have hib : decide (0 ≤ z ∧ z ≤ regs - 1) = true := decide_eq_true hin
          have HIN : Hid (0 ≤ zs.getD k 0 ∧ zs.getD k 0 ≤ regs - 1) := by rw [← hz]; exact hin
          clear hin hz
          go_wp2_with (go_at_call 55; refine (HWI.out _ _ _ _).mono ?_; rintro e z1 ⟨rfl, g1⟩; rw [g1, hib]; clear g1 z1)
          go_roundw
          case rel => exact ⟨k + 1, by omega, by go_num, by first | trivial | rfl, fun i hi => by
            by_cases e : i = k
            · rw [e]; exact HIN.out
            · exact S.out i (by omega)⟩
          case measure => simp [intOf]; omega
        · have hib : decide (0 ≤ z ∧ z ≤ regs - 1) = false := decide_eq_false hin
          have HN : Hid (¬ Pl.regsOk regs zs) := fun q => hin (by rw [hz]; exact q k (by omega))
          clear hin hz
          go_wp2_with (go_at_call 55; refine (HWI.out _ _ _ _).mono ?_; rintro e z1 ⟨rfl, g1⟩; rw [g1, hib]; clear g1 z1)
          go_ret
          exact ⟨isB_no HN.out, DB.out⟩
      · have hki : ¬ ((k : Int) < ((n : Nat) : Int)) := by omega
        have HY : Hid (Pl.regsOk regs zs) := fun i hi => S.out i (by omega)
        go_wp2_with fail
        go_ret
        exact ⟨isB_yes HY.out, DB.out⟩
end Go.Proofs.YtcgfgmlfbgbkfaaGreatDoor.W
