import Derived.Test.YtafcnijfoejboaaGreatDoorV15
set_option linter.unusedVariables false
set_option linter.unusedSimpArgs false
namespace Go.Proofs.YtafcnijfoejboaaGreatDoor.W
open Go.RowKit
theorem Lst.dr {w0 : World} {z : Nat} {a : Option Addr} {len cap : Nat} {kv : Value} {Q : Nat → Int × Int} {u : World} (h : Lst w0 z a len cap kv Q u) : Lst w0 z a len cap kv Q u.drew := h.keep (below_drewN (Below.refl _ _) 1)
set_option maxHeartbeats 4000000 in
set_option maxRecDepth 8000 in
theorem layOut_arr {w0 : World} {lo z f : Nat} {a : Option Addr} {len cap : Nat} {kv : Value} {xs : List Pl.Ty} (hT : TRow lo w0 a len cap xs) (hn : ∀ i, (xs.getD i Pl.Ty.zero).k = 9 → 1 ≤ (xs.getD i Pl.Ty.zero).n) (HI : Hid (LaySaid Tryz.prog 42 w0 z a len cap kv xs f))
    (Q : Nat → Int × Int) (u : World) (i : Nat) (hi : i < len) (h : Lst w0 z a len cap kv Q u) (hq : Pl.Lok xs Q) (h9 : (xs.getD i Pl.Ty.zero).k = 9) (hl1 : (xs.getD i Pl.Ty.zero).of.length = 1) (hnn : 1 ≤ (xs.getD i Pl.Ty.zero).n ∧ (xs.getD i Pl.Ty.zero).n ≤ 60000) (hj : 0 ≤ Pl.ofAt xs i 0 ∧ Pl.ofAt xs i 0 < len) (hf : Pl.lays f xs (Pl.ofAt xs i 0).toNat = true) :
    Calls Tryz.prog 66 #[.pointer (some ⟨z + 2, 0, none⟩), .int .i64 i] u fun e u' => ∃ s al : Int, e = .returned (.agg #[.int .i64 s, .int .i64 al]) ∧ Pl.Lay xs i s al ∧ ∃ Q', Lst w0 z a len cap kv Q' u' ∧ Pl.Lok xs Q' ∧ OnlyL (z + 1) u u' := by
  have hm : (len : Int) ≤ 9223372036854775807 := by have := hT.small; omega
  have hii : (i : Int) < (len : Int) := by omega
  obtain ⟨g0, _, _, _⟩ := h.cells
  have hz2 := h.size
  have hz1 : z + 1 < u.heap.size := by omega
  have HL : Hid (∀ s al, Pl.Lay xs (Pl.ofAt xs i 0).toNat s al → Pl.Lay xs i (Pl.capn (s * (xs.getD i Pl.Ty.zero).n)) al) := fun s al hl => Pl.Lay.arr i s al h9 hl
  have HN : Hid (∀ {i : Nat} {s al : Int}, Pl.Lay xs i s al → Pl.nb (s, al)) := fun hl => hl.nb hn
  obtain ⟨b, off, v, s, rfl, hlo, hb1, hc, hrow, hs2⟩ := (hT.keep h.b).at hi
  obtain ⟨j, hjj⟩ : ∃ j : Nat, Pl.ofAt xs i 0 = j := ⟨(Pl.ofAt xs i 0).toNat, by omega⟩
  rw [hjj, Int.toNat_natCast] at hf HL
  have hjl : j < len := by omega
  have e0 : (xs.getD i Pl.Ty.zero).of.getD 0 0 = (j : Int) := hjj
  obtain ⟨x, hx⟩ : ∃ x, x = xs.getD i Pl.Ty.zero := ⟨_, rfl⟩
  rw [← hx] at hc h9 hl1 hnn hrow e0 HL
  obtain ⟨c0, c1, c2, c3⟩ := ty_cells hc
  rw [h9] at c0
  have hvl : v.len = 1 := by rw [← hrow.1]; exact hl1
  have hvm := hrow.small
  obtain ⟨b2, o2, hva, _, hb2, hcp⟩ := (hrow.2.2.2.2).resolve_left (by omega)
  have hc0 := hcp 0 (by omega)
  rw [e0] at hc0
  simp only [Nat.add_zero] at hc0
  obtain ⟨va, vl, vc⟩ := v
  simp only at hva hvl hvm c2
  subst hva
  subst hvl
  obtain ⟨n, hne⟩ : ∃ n, n = x.n := ⟨_, rfl⟩
  rw [← hne] at c1 hnn HL
  have HF : Hid (Pl.lays f xs j = true ∧ j < len) := ⟨hf, hjl⟩
  have HR : Hid (Lst w0 z (some ⟨b, off, none⟩) len cap kv Q u ∧ Pl.Lok xs Q) := ⟨h, hq⟩
  clear hc hrow hs2 hx h hq hj hjj hf hcp hne h9 e0 hl1 hn
  go_enter Tryz.func66, Tryz.ntmps66
  go_wp2_with fail
  refine Calls.mono (HI.out Q _ j HF.out.2 (HR.out.1.keep ((below_alloc _ _).trans ((below_alloc _ _).mono (by simp)))) HR.out.2 HF.out.1) ?_
  rintro e u2 ⟨s2, al2, rfl, hL, Q2, hS, hK, hO⟩
  have hnb := HN.out hL
  obtain ⟨hs0, ha0⟩ := hnb
  simp only at hs0 ha0
  have KR : Hid (u2.heap[u.heap.size]? = some (.cells #[.int .i64 0, .int .i64 0] 49 (0, 0))) := (hO.block _ (by simp; omega) (by omega)).trans (((below_alloc _ _).block _ (by simp)).trans (heap_alloc_new u _))
  have KT := hO.block (u.heap.size + 1) (by simp) (by omega)
  have e1 : (u.alloc (.cells #[.int .i64 0, .int .i64 0] 49)).heap.size = u.heap.size + 1 := by simp
  rw [← e1, heap_alloc_new, e1] at KT
  have KT2 := KT
  have t1 : u2.cell? ⟨u.heap.size + 1, 1, none⟩ = some (.int .i64 n) := by rw [cell_of_row u2 _ 1 _ _ _ KT2]; rfl
  have htl := (Array.getElem?_eq_some_iff.1 KT2).1
  have hrl : u.heap.size < u2.heap.size := by omega
  have r0 : u2.cell? ⟨u.heap.size, 0, none⟩ = some (.int .i64 0) := by rw [cell_of_row u2 _ 0 _ _ _ KR.out]; rfl
  have r1 : u2.cell? ⟨u.heap.size, 1, none⟩ = some (.int .i64 0) := by rw [cell_of_row u2 _ 1 _ _ _ KR.out]; rfl
  have rf : ∀ j, u2.frozen? ⟨u.heap.size, j, none⟩ = false := fun j => frozen_of_row u2 _ j _ _ KR.out
  have hmu0 : 0 ≤ n * s2 := Int.mul_nonneg (by omega) hs0.1
  have hmu1 : n * s2 ≤ 60000 * 60001 := Int.mul_le_mul hnn.2 hs0.2 hs0.1 (by omega)
  have hw : IntKind.i64.wrap (n * s2) = n * s2 := by
    rw [IntKind.wrap_i64]
    generalize n * s2 = y at hmu0 hmu1
    omega
  have HH : Hid (Pl.Lay xs i (Pl.capn (n * s2)) al2 ∧ Lst w0 z (some ⟨b, off, none⟩) len cap kv Q2 u2 ∧ Pl.Lok xs Q2 ∧ OnlyL (z + 1) u u2) := ⟨by rw [Int.mul_comm]; exact HL.out _ _ hL, hS, hK, (OnlyL.of_below ((below_alloc _ _).trans ((below_alloc _ _).mono (by simp)))).trans hO⟩
  clear KT KT2 e1 hL hS hK hO KR hb1 hb2 c0 c1 c2 c3 g0 hc0 HL HN hnn hs0 ha0 hmu0 hmu1
  go_wp2_with fail
  go_region_with (go_at_call 55; refine (bounded_any _ _).mono ?_; rintro e u3 ⟨rfl, eu⟩; rw [eu]; clear eu)
  all_goals
    go_wp2_with fail
    have y0 : ∀ o, (((u2.setCell ⟨u.heap.size, 0, none⟩ (.int .i64 (Pl.capn (n * s2)))).setCell ⟨u.heap.size, 1, none⟩ (.int .i64 al2)).alloc o).cell? ⟨u.heap.size, 0, none⟩ = some (.int .i64 (Pl.capn (n * s2))) := fun o => fl_al (by rw [World.cell?_setCell_other _ _ _ _ (ty_ne (by omega)), World.cell?_setCell_same' _ _ _ (by rw [r0]; rfl)]) o
    have y1 : ∀ o, (((u2.setCell ⟨u.heap.size, 0, none⟩ (.int .i64 (Pl.capn (n * s2)))).setCell ⟨u.heap.size, 1, none⟩ (.int .i64 al2)).alloc o).cell? ⟨u.heap.size, 1, none⟩ = some (.int .i64 al2) := fun o => fl_al (by rw [World.cell?_setCell_same' _ _ _ (ty_isSome (by rw [r1]; rfl))]) o
    exact bodyPost_ret (v := .agg #[.int .i64 (Pl.capn (n * s2)), .int .i64 al2]) (by simp [results, Tryz.results66, go_sem, y0, y1]) rfl ⟨_, _, rfl, HH.out.1, Q2, (((HH.out.2.1.high _ _ _ hz2).high _ _ _ hz2).keep (below_alloc _ _)).dr, HH.out.2.2.1, (HH.out.2.2.2.low (((Below.refl u.heap.size u2).setCell (p := ⟨u.heap.size, 0, none⟩) (Nat.le_refl _) _).setCell (p := ⟨u.heap.size, 1, none⟩) (Nat.le_refl _) _)).low ((below_drewN (below_alloc _ _) 1).mono (by simp only [World.size_setCell]; omega))⟩
end Go.Proofs.YtafcnijfoejboaaGreatDoor.W
namespace Go.Proofs.YtafcnijfoejboaaGreatDoor.Pl
theorem lays_lay {xs : List Ty} (h1 : ∀ i, (xs.getD i Ty.zero).k = 9 → 0 < (xs.getD i Ty.zero).of.length) : ∀ f i, lays f xs i = true → ∃ s a, Lay xs i s a
  | 0, i, h => by simp [lays] at h
  | f + 1, i, h => by
    obtain ⟨hw, hp⟩ := (lays_succ f xs i).1 h
    by_cases hs : scal (xs.getD i Ty.zero).k = true
    · exact ⟨_, _, Lay.scal i hs⟩
    have hp := hp.resolve_left hs
    by_cases h9 : (xs.getD i Ty.zero).k = 9
    · obtain ⟨s, a, hl⟩ := lays_lay h1 f _ (hp 0 (h1 i h9))
      exact ⟨_, _, Lay.arr i s a h9 hl⟩
    · unfold Ty.whole at hw
      have hw2 : tagd (xs.getD i Ty.zero).k = true ∧ 0 < (xs.getD i Ty.zero).of.length := by
        revert hw hs h9
        generalize xs.getD i Ty.zero = x
        intro hw hs h9
        rw [Bool.not_eq_true] at hs
        simpa [hs, h9] using hw
      have hG : ∃ G : Nat → Int × Int, ∀ p, p < (xs.getD i Ty.zero).of.length → Lay xs (ofAt xs i p).toNat (G p).1 (G p).2 := by
        have hx : ∀ p, ∃ g : Int × Int, p < (xs.getD i Ty.zero).of.length → Lay xs (ofAt xs i p).toNat g.1 g.2 := fun p => by
          by_cases hl : p < (xs.getD i Ty.zero).of.length
          · obtain ⟨s, a, hl2⟩ := lays_lay h1 f _ (hp p hl)
            exact ⟨(s, a), fun _ => hl2⟩
          · exact ⟨(0, 0), fun q => absurd q hl⟩
        exact ⟨fun p => Classical.choose (hx p), fun p => Classical.choose_spec (hx p)⟩
      obtain ⟨G, hG⟩ := hG
      exact ⟨_, _, Lay.rcd i G hw2.1 hw2.2 hG⟩
theorem foff_nn {kk : Int} {G : Nat → Int × Int} {n k : Nat} (hk : k < n) (h : ∀ p, p < n → nb (G p)) : 0 ≤ foff kk G k ∧ foff kk G k ≤ 60001 := capn_bdd (up_bdd (beh_nn (kk := kk) k (fun p hp => h p (by omega))).1 (h k hk).2).1
end Go.Proofs.YtafcnijfoejboaaGreatDoor.Pl
namespace Go.Proofs.YtafcnijfoejboaaGreatDoor.W
open Go.RowKit
structure FRow (u : World) (g k : Nat) (nms : List ByteArray) (zs : List Int) (kk : Int) (G : Nat → Int × Int) : Prop where
  lt : g < u.heap.size
  c : ∀ p, p < k → u.cell? ⟨g, p * 3, none⟩ = some (.string (nms.getD p ⟨#[]⟩)) ∧ u.cell? ⟨g, p * 3 + 1, none⟩ = some (.int .i64 (zs.getD p 0)) ∧ u.cell? ⟨g, p * 3 + 2, none⟩ = some (.int .i64 (Pl.foff kk G p))
theorem FRow.same {u u' : World} {g k : Nat} {nms : List ByteArray} {zs : List Int} {kk : Int} {G : Nat → Int × Int} (h : FRow u g k nms zs kk G) (hs : u.heap.size ≤ u'.heap.size) (hb : u'.heap[g]? = u.heap[g]?) : FRow u' g k nms zs kk G := by
  refine ⟨Nat.lt_of_lt_of_le h.lt hs, fun p hp => ?_⟩
  have e : ∀ q, u'.cell? ⟨g, q, none⟩ = u.cell? ⟨g, q, none⟩ := fun q => by simp only [World.cell?, hb]
  rw [e, e, e]
  exact h.c p hp
structure Fst (w0 : World) (z : Nat) (a : Option Addr) (len cap : Nat) (kv : Value) (xs : List Pl.Ty) (u : World) (tc : Array Value) (n k : Nat) (nms : List ByteArray) (zs : List Int) (kk : Int) (G : Nat → Int × Int) (wr : World) : Prop where
  l : ∃ Q, Lst w0 z a len cap kv Q wr ∧ Pl.Lok xs Q
  o : OnlyL (z + 1) u wr
  t : wr.heap[u.heap.size]? = some (.cells tc 31 (0, 0))
  r : FRow wr (u.heap.size + 1) k nms zs kk G
  d : ∀ q, q < n * 3 → (wr.cell? ⟨u.heap.size + 1, q, none⟩).isSome = true
  f : ∀ q, wr.frozen? ⟨u.heap.size + 1, q, none⟩ = false
theorem Fst.only {w0 : World} {z : Nat} {a : Option Addr} {len cap : Nat} {kv : Value} {xs : List Pl.Ty} {u : World} {tc : Array Value} {n k : Nat} {nms : List ByteArray} {zs : List Int} {kk : Int} {G : Nat → Int × Int} {wr w' : World} (h : Fst w0 z a len cap kv xs u tc n k nms zs kk G wr) (hz : z + 1 < u.heap.size) (ho : OnlyL (z + 1) wr w') (hl : ∃ Q, Lst w0 z a len cap kv Q w' ∧ Pl.Lok xs Q) : Fst w0 z a len cap kv xs u tc n k nms zs kk G w' := by
  have hb := ho.block (u.heap.size + 1) h.r.lt (by omega)
  have e : ∀ q, w'.cell? ⟨u.heap.size + 1, q, none⟩ = wr.cell? ⟨u.heap.size + 1, q, none⟩ := fun q => by simp only [World.cell?, hb]
  have e2 : ∀ q, w'.frozen? ⟨u.heap.size + 1, q, none⟩ = wr.frozen? ⟨u.heap.size + 1, q, none⟩ := fun q => by simp only [World.frozen?, hb]
  exact ⟨hl, h.o.trans ho, (ho.block _ (by have := h.r.lt; omega) (by omega)).trans h.t, h.r.same ho.size hb, fun q hq => by rw [e]; exact h.d q hq, fun q => by rw [e2]; exact h.f q⟩
theorem Fst.al {w0 : World} {z : Nat} {a : Option Addr} {len cap : Nat} {kv : Value} {xs : List Pl.Ty} {u : World} {tc : Array Value} {n k : Nat} {nms : List ByteArray} {zs : List Int} {kk : Int} {G : Nat → Int × Int} {wr : World} (h : Fst w0 z a len cap kv xs u tc n k nms zs kk G wr) (hz : z + 1 < u.heap.size) (o : Obj) : Fst w0 z a len cap kv xs u tc n k nms zs kk G (wr.alloc o) := by
  obtain ⟨Q, h1, h2⟩ := h.l
  exact h.only hz (.of_below (below_alloc _ _)) ⟨Q, h1.keep (below_alloc _ _), h2⟩
def setF (u : World) (g p : Nat) (nm : ByteArray) (z o : Int) : World := ((u.setCell ⟨g, p * 3, none⟩ (.string nm)).setCell ⟨g, p * 3 + 1, none⟩ (.int .i64 z)).setCell ⟨g, p * 3 + 2, none⟩ (.int .i64 o)
theorem Fst.put {w0 : World} {z : Nat} {a : Option Addr} {len cap : Nat} {kv : Value} {xs : List Pl.Ty} {u : World} {tc : Array Value} {n k : Nat} {nms : List ByteArray} {zs : List Int} {kk : Int} {G : Nat → Int × Int} {wr : World} (h : Fst w0 z a len cap kv xs u tc n k nms zs kk G wr) (hz : z + 2 < u.heap.size) (hk : k < n) :
    Fst w0 z a len cap kv xs u tc n (k + 1) nms zs kk G (setF wr (u.heap.size + 1) k (nms.getD k ⟨#[]⟩) (zs.getD k 0) (Pl.foff kk G k)) := by
  have i0 := h.d (k * 3) (by omega)
  have i1 := h.d (k * 3 + 1) (by omega)
  have i2 := h.d (k * 3 + 2) (by omega)
  obtain ⟨Q, hQ, hL⟩ := h.l
  refine ⟨⟨Q, ((hQ.high _ _ _ (by omega)).high _ _ _ (by omega)).high _ _ _ (by omega), hL⟩, ?_, ?_, ⟨?_, fun p hp => ?_⟩, fun q hq => ?_, fun q => ?_⟩
  · exact h.o.low ((((Below.refl u.heap.size wr).setCell (p := ⟨u.heap.size + 1, _, none⟩) (by show _ ≤ u.heap.size + 1; omega) _).setCell (p := ⟨u.heap.size + 1, _, none⟩) (by show _ ≤ u.heap.size + 1; omega) _).setCell (p := ⟨u.heap.size + 1, _, none⟩) (by show _ ≤ u.heap.size + 1; omega) _)
  · unfold setF
    rw [Below.heap_setCell _ ⟨u.heap.size + 1, _, none⟩ _ _ (by show _ ≠ u.heap.size + 1; omega), Below.heap_setCell _ ⟨u.heap.size + 1, _, none⟩ _ _ (by show _ ≠ u.heap.size + 1; omega), Below.heap_setCell _ ⟨u.heap.size + 1, _, none⟩ _ _ (by show _ ≠ u.heap.size + 1; omega)]
    exact h.t
  · unfold setF; simp only [World.size_setCell]; exact h.r.lt
  · unfold setF
    by_cases e : p = k
    · rw [e]
      refine ⟨?_, ?_, ?_⟩
      · rw [World.cell?_setCell_other _ _ _ _ (ty_ne (by omega)), World.cell?_setCell_other _ _ _ _ (ty_ne (by omega)), World.cell?_setCell_same' _ _ _ i0]
      · rw [World.cell?_setCell_other _ _ _ _ (ty_ne (by omega)), World.cell?_setCell_same' _ _ _ (ty_isSome i1)]
      · rw [World.cell?_setCell_same' _ _ _ (ty_isSome (ty_isSome i2))]
    · have := h.r.c p (by omega)
      refine ⟨?_, ?_, ?_⟩
      · rw [World.cell?_setCell_other _ _ _ _ (ty_ne (by omega)), World.cell?_setCell_other _ _ _ _ (ty_ne (by omega)), World.cell?_setCell_other _ _ _ _ (ty_ne (by omega))]; exact this.1
      · rw [World.cell?_setCell_other _ _ _ _ (ty_ne (by omega)), World.cell?_setCell_other _ _ _ _ (ty_ne (by omega)), World.cell?_setCell_other _ _ _ _ (ty_ne (by omega))]; exact this.2.1
      · rw [World.cell?_setCell_other _ _ _ _ (ty_ne (by omega)), World.cell?_setCell_other _ _ _ _ (ty_ne (by omega)), World.cell?_setCell_other _ _ _ _ (ty_ne (by omega))]; exact this.2.2
  · unfold setF; exact ty_isSome (ty_isSome (ty_isSome (h.d q hq)))
  · unfold setF; simp only [World.frozen?_setCell]; exact h.f q
end Go.Proofs.YtafcnijfoejboaaGreatDoor.W
namespace Go.Proofs.YtafcnijfoejboaaGreatDoor.W
open Go.RowKit
set_option maxHeartbeats 4000000 in
set_option maxRecDepth 8000 in
theorem fieldsOf_any {w0 : World} {lo z f : Nat} {a : Option Addr} {len cap : Nat} {kv : Value} {xs : List Pl.Ty} (hT : TRow lo w0 a len cap xs) (hn : ∀ i, (xs.getD i Pl.Ty.zero).k = 9 → 1 ≤ (xs.getD i Pl.Ty.zero).n) (HI : Hid (LaySaid Tryz.prog 42 w0 z a len cap kv xs f))
    (Q : Nat → Int × Int) (u : World) (i : Nat) (hi : i < len) (h : Lst w0 z a len cap kv Q u) (hq : Pl.Lok xs Q) (hl : (xs.getD i Pl.Ty.zero).names.length ≤ (xs.getD i Pl.Ty.zero).of.length) (hl2 : (xs.getD i Pl.Ty.zero).names.length ≤ 1000000) (G : Nat → Int × Int)
    (hp : ∀ p, p < (xs.getD i Pl.Ty.zero).names.length → (0 ≤ Pl.ofAt xs i p ∧ Pl.ofAt xs i p < len) ∧ Pl.lays f xs (Pl.ofAt xs i p).toNat = true ∧ Pl.Lay xs (Pl.ofAt xs i p).toNat (G p).1 (G p).2) :
    Calls Tryz.prog 34 #[.pointer (some ⟨z + 2, 0, none⟩), .int .i64 i] u fun e u' => ∃ g, e = .returned (.slice (some ⟨g, 0, none⟩) (xs.getD i Pl.Ty.zero).names.length (xs.getD i Pl.Ty.zero).names.length) ∧ u.heap.size ≤ g ∧ FRow u' g (xs.getD i Pl.Ty.zero).names.length (xs.getD i Pl.Ty.zero).names (xs.getD i Pl.Ty.zero).of (xs.getD i Pl.Ty.zero).k G ∧ ∃ Q', Lst w0 z a len cap kv Q' u' ∧ Pl.Lok xs Q' ∧ OnlyL (z + 1) u u' := by
  have hm : (len : Int) ≤ 9223372036854775807 := by have := hT.small; omega
  have hii : (i : Int) < (len : Int) := by omega
  obtain ⟨g0, _, _, _⟩ := h.cells
  have hz2 := h.size
  have hz1 : z + 1 < u.heap.size := by omega
  obtain ⟨b, off, v, s, rfl, hlo, hb0, hc', hrow, hs2⟩ := hT.at hi
  have hb1 : b < u.heap.size := Nat.lt_of_lt_of_le hb0 h.b.size
  have hc : ∀ j, j < 4 → u.cell? ⟨b, off + i * 4 + j, none⟩ = ((xs.getD i Pl.Ty.zero).cells v s)[j]? := fun j hj => (h.b.cell (p := ⟨b, off + i * 4 + j, none⟩) hb0).trans (hc' j hj)
  clear hc'
  have HX : Hid (∀ p, Pl.ofAt xs i p = (xs.getD i Pl.Ty.zero).of.getD p 0) := fun p => rfl
  have HP : Hid (∀ p, p < (xs.getD i Pl.Ty.zero).names.length → (0 ≤ Pl.ofAt xs i p ∧ Pl.ofAt xs i p < len) ∧ Pl.lays f xs (Pl.ofAt xs i p).toNat = true ∧ Pl.Lay xs (Pl.ofAt xs i p).toNat (G p).1 (G p).2) := hp
  have HN : Hid (∀ p, p < (xs.getD i Pl.Ty.zero).names.length → Pl.nb (G p)) := fun p hpl => (hp p hpl).2.2.nb hn
  have HR : Hid (Lst w0 z (some ⟨b, off, none⟩) len cap kv Q u ∧ Pl.Lok xs Q) := ⟨h, hq⟩
  clear hp hn h hq
  generalize xs.getD i Pl.Ty.zero = x at hl hl2 hc hrow hs2 HX HP HN ⊢
  obtain ⟨kk, nn, zs, nms⟩ := x
  simp only at hl hl2 hrow hs2 HX HP HN ⊢
  obtain ⟨c0, c1, c2, c3⟩ := ty_cells hc
  simp only at c0 c1 c2 c3
  have hvl := hrow.1
  have hsl := hs2.1.1
  have hvm := hrow.small
  have hsm : s.len ≤ maxLen := Nat.le_trans hs2.2.1 hs2.2.2.1
  unfold maxLen at hsm
  obtain ⟨va, vl, vc⟩ := v
  obtain ⟨sa, sl, sc⟩ := s
  simp only at hvl hsl hvm hsm c2 c3 hrow hs2
  subst hsl
  have HV : Hid (Row .i64 lo w0 va vl vc zs ∧ SRow lo w0 sa nms.length sc nms ∧ zs.length = vl) := ⟨hrow, hs2, hvl⟩
  obtain ⟨m, hme⟩ : ∃ m, m = nms.length := ⟨_, rfl⟩
  rw [← hme] at hl hl2 hsm c3 HV HP HN ⊢
  have hml : m ≤ vl := by omega
  have HM : Hid (m = nms.length) := hme
  clear hme
  have hmm : (m : Int) ≤ 1000000 := by omega
  have hinfo : (Tryz.prog.info? 66).map (fun i => (i.zero, i.size, i.bytes)) = some (some (.agg #[.string ⟨#[]⟩, .int .i64 0, .int .i64 0]), 3, 32) := by kernel_rfl
  obtain ⟨i0, hi0, hz0, hzz1, hzz2⟩ := info_parts hinfo
  have hmk : ∀ u : World, (Instr.makeSlice 61 (.int .i64 (m : Int)) (.int .i64 (m : Int))).run Tryz.prog u = .ok (.slice (some ⟨u.heap.size, 0, none⟩) m m) (u.alloc (.cells (madeCells #[.string ⟨#[]⟩, .int .i64 0, .int .i64 0] (m * 3)) 66)) := fun u => by
    have := run_makeSlice u 61 66 i0 _ Tryz.underlying61 hi0 hz0 .i64 .i64 (m : Int) (m : Int) (by omega) (by omega) (by rw [hzz1]; simp; omega) (by rw [hzz2]; omega) (by omega)
    rw [hzz1, Int.toNat_natCast] at this
    exact this
  clear hinfo hi0 hz0 hzz1 hzz2 hc hrow hs2 hvl hl hl2
  go_enter Tryz.func34, Tryz.ntmps34
  go_wp2_with fail
  have hzt : ((u.alloc (.cells #[.int .i64 kk, .int .i64 nn, .slice va vl vc, .slice sa m sc] 31))).heap.size = u.heap.size + 1 := by simp
  have HF : Hid (Fst w0 z (some ⟨b, off, none⟩) len cap kv xs u #[.int .i64 kk, .int .i64 nn, .slice va vl vc, .slice sa m sc] m 0 nms zs kk G ((u.alloc (.cells #[.int .i64 kk, .int .i64 nn, .slice va vl vc, .slice sa m sc] 31)).alloc (.cells (madeCells #[.string ⟨#[]⟩, .int .i64 0, .int .i64 0] (m * 3)) 66))) := by
    have hB : Below u.heap.size u ((u.alloc (.cells #[.int .i64 kk, .int .i64 nn, .slice va vl vc, .slice sa m sc] 31)).alloc (.cells (madeCells #[.string ⟨#[]⟩, .int .i64 0, .int .i64 0] (m * 3)) 66)) := (below_alloc _ _).trans ((below_alloc _ _).mono (by simp))
    have hg := heap_alloc_new (u.alloc (.cells #[.int .i64 kk, .int .i64 nn, .slice va vl vc, .slice sa m sc] 31)) (.cells (madeCells #[.string ⟨#[]⟩, .int .i64 0, .int .i64 0] (m * 3)) 66)
    rw [hzt] at hg
    refine ⟨⟨Q, HR.out.1.keep hB, HR.out.2⟩, .of_below hB, ((below_alloc _ _).block _ (by simp)).trans (heap_alloc_new u _), ⟨(Array.getElem?_eq_some_iff.1 hg).1, fun p hp => absurd hp (Nat.not_lt_zero _)⟩, fun q hq => ?_, fun q => frozen_of_row _ _ q _ _ hg⟩
    rw [cell_of_row _ _ q _ _ _ hg, Array.getElem?_eq_getElem (by simp [madeCells]; omega)]
    rfl
  generalize ((u.alloc (.cells #[.int .i64 kk, .int .i64 nn, .slice va vl vc, .slice sa m sc] 31)).alloc (.cells (madeCells #[.string ⟨#[]⟩, .int .i64 0, .int .i64 0] (m * 3)) 66)) = U at HF ⊢
  clear hmk hzt c0 c1 c2 c3 g0 HR hb1
  go_loopw [7, 26] (fun bb j wr => ∃ p : Nat, p ≤ m ∧ j = .int .i64 p ∧ bb = .int .i64 (Pl.beh kk G p) ∧ Hid (Fst w0 z (some ⟨b, off, none⟩) len cap kv xs u #[.int .i64 kk, .int .i64 nn, .slice va vl vc, .slice sa m sc] m p nms zs kk G wr)) (fun bb j _ => m - (intOf j).toNat)
  case atStart => exact ⟨0, Nat.zero_le _, rfl, rfl, HF⟩
  case round =>
    obtain ⟨p, hpm, rfl, rfl, S⟩ := hrel
    by_cases hlt : p < m
    · have hpi : (p : Int) < (m : Int) := by omega
      have hpv : (p : Int) < (vl : Int) := by omega
      obtain ⟨Q1, hS1, hK1⟩ := S.out.l
      obtain ⟨b2, o2, rfl, _, hb2, hcp⟩ := ((HV.out.1.keep (hS1.b)).2.2.2.2).resolve_left (by omega)
      obtain ⟨b3, o3, rfl, _, hb3, hcn⟩ := ((HV.out.2.1.keep (hS1.b)).2.2.2).resolve_left (by omega)
      have hc2 := hcp p (by omega)
      have hc3 := hcn p hlt
      have hnn2 := (HP.out p hlt)
      rw [HX.out p] at hnn2
      have hnb := HN.out p hlt
      have hbe := Pl.beh_nn (kk := kk) (G := G) p (fun q hq => HN.out q (by omega))
      have hbe1 := Pl.foff_nn (kk := kk) hlt HN.out
      obtain ⟨j, hj⟩ : ∃ j : Nat, zs.getD p 0 = j := ⟨(zs.getD p 0).toNat, by omega⟩
      rw [hj] at hc2 hnn2
      rw [Int.toNat_natCast] at hnn2
      have t0 : wr.cell? ⟨u.heap.size, 0, none⟩ = some (.int .i64 kk) := by rw [cell_of_row wr _ 0 _ _ _ S.out.t]; rfl
      have t2 : wr.cell? ⟨u.heap.size, 2, none⟩ = some (.slice (some ⟨b2, o2, none⟩) vl vc) := by rw [cell_of_row wr _ 2 _ _ _ S.out.t]; rfl
      obtain ⟨nm, hnm⟩ : ∃ nm, nm = nms.getD p ⟨#[]⟩ := ⟨_, rfl⟩
      rw [← hnm] at hc3
      have HNM : Hid (nms.getD p ⟨#[]⟩ = nm ∧ zs.getD p 0 = (j : Int)) := ⟨hnm.symm, hj⟩
      have HS1 : Hid (Lst w0 z (some ⟨b, off, none⟩) len cap kv Q1 wr ∧ Pl.Lok xs Q1) := ⟨hS1, hK1⟩
      have HJ : Hid ((j < len ∧ Pl.lays f xs j = true) ∧ Pl.Lay xs j (G p).1 (G p).2) := ⟨⟨by omega, hnn2.2.1⟩, hnn2.2.2⟩
      clear hcp hcn hnn2 hnm hj hS1 hK1
      go_wp2_with fail
      refine Calls.mono (HI.out Q1 wr j HJ.out.1.1 HS1.out.1 HS1.out.2 HJ.out.1.2) ?_
      rintro e u3 ⟨s2, al2, rfl, hL, Q3, hS3, hK3, hO3⟩
      obtain ⟨e1, e2⟩ := hL.fn HJ.out.2
      have S3 : Hid (Fst w0 z (some ⟨b, off, none⟩) len cap kv xs u #[.int .i64 kk, .int .i64 nn, .slice (some ⟨b2, o2, none⟩) vl vc, .slice (some ⟨b3, o3, none⟩) m sc] m p nms zs kk G u3) := S.out.only hz1 hO3 ⟨Q3, hS3, hK3⟩
      have hb22 : b2 < u3.heap.size := Nat.lt_of_lt_of_le hb2 hO3.size
      have hbw : b2 < w0.heap.size := by
        rcases HV.out.1.2.2.2.2 with q | ⟨b', o', q, _, q2, _⟩
        · omega
        · injection q with q; injection q with q; omega
      have hc2 : u3.cell? ⟨b2, o2 + p, none⟩ = some (.int .i64 j) := ((hO3.below (n := w0.heap.size) (by have := HS1.out.1.lo; omega) (HS1.out.1.b.size)).cell (p := ⟨b2, o2 + p, none⟩) hbw).trans hc2
      have t0 : u3.cell? ⟨u.heap.size, 0, none⟩ = some (.int .i64 kk) := by rw [cell_of_row u3 _ 0 _ _ _ S3.out.t]; rfl
      have t2 : u3.cell? ⟨u.heap.size, 2, none⟩ = some (.slice (some ⟨b2, o2, none⟩) vl vc) := by rw [cell_of_row u3 _ 2 _ _ _ S3.out.t]; rfl
      have hgl := S3.out.r.lt
      have hul : u.heap.size < u3.heap.size := by omega
      obtain ⟨x0, d0⟩ := Option.isSome_iff_exists.1 (S3.out.d (p * 3) (by omega))
      obtain ⟨x1, d1⟩ := Option.isSome_iff_exists.1 (S3.out.d (p * 3 + 1) (by omega))
      obtain ⟨x2, d2⟩ := Option.isSome_iff_exists.1 (S3.out.d (p * 3 + 2) (by omega))
      have df := S3.out.f
      obtain ⟨bh, hbh⟩ : ∃ bh, bh = Pl.beh kk G p := ⟨_, rfl⟩
      obtain ⟨fo, hfo⟩ : ∃ fo, fo = Pl.foff kk G p := ⟨_, rfl⟩
      obtain ⟨hs0, ha0⟩ := hnb
      rw [← e1] at hs0
      rw [← e2] at ha0
      rw [← hbh] at hbe ⊢
      rw [← hfo] at hbe1
      have HE : Hid (Pl.capn (Pl.up bh al2) = fo) := by show Pl.capn (Pl.up bh al2) = fo; rw [hfo, hbh, e2]; rfl
      have HB : Hid (bh = Pl.beh kk G p ∧ fo = Pl.foff kk G p ∧ s2 = (G p).1) := ⟨hbh, hfo, e1⟩
      have HBB : Hid ((0 ≤ bh ∧ bh ≤ 120002) ∧ (1 ≤ al2 ∧ al2 ≤ 4)) := ⟨hbe, ha0⟩
      have hw : IntKind.i64.wrap (fo + s2) = fo + s2 := by rw [IntKind.wrap_i64]; omega
      clear hL hS3 hK3 hO3 e1 e2 hbh hfo hc3 hb3 HS1 hbe ha0 hb2
      by_cases hk : kk = 10
      · subst hk
        go_wp2_with (first | (go_at_call 56; refine (nextMultiple_any bh al2 HBB.out.1 HBB.out.2 _).mono ?_; rintro e u4 ⟨rfl, eu⟩; rw [eu]; clear eu) | (go_at_call 55; refine (bounded_any _ _).mono ?_; rintro e u4 ⟨rfl, eu⟩; rw [eu, HE.out]; clear eu))
        have hput := S3.out.put hz2 hlt
        rw [HNM.out.1, HNM.out.2, ← HB.out.2.1] at hput
        have hbb : Pl.beh 10 G (p + 1) = fo + s2 := by
          rw [HB.out.2.1, HB.out.2.2]
          show (if (10 : Int) = 10 then _ else _) = _
          rw [if_pos rfl]
          rfl
        exact ⟨⟨p + 1, hlt, by congr 1, by rw [hbb], hput.al hz1 _⟩, by simp [intOf]; omega⟩
      · have HK : Hid (kk ≠ 10) := hk
        go_wp2_with (first | (go_at_call 56; refine (nextMultiple_any bh al2 HBB.out.1 HBB.out.2 _).mono ?_; rintro e u4 ⟨rfl, eu⟩; rw [eu]; clear eu) | (go_at_call 55; refine (bounded_any _ _).mono ?_; rintro e u4 ⟨rfl, eu⟩; rw [eu, HE.out]; clear eu))
        have hput := S3.out.put hz2 hlt
        rw [HNM.out.1, HNM.out.2, ← HB.out.2.1] at hput
        have hbb : Pl.beh kk G (p + 1) = bh := by
          rw [HB.out.1]
          show (if kk = 10 then _ else _) = _
          rw [if_neg HK.out]
        exact ⟨⟨p + 1, hlt, by congr 1, by rw [hbb], hput.al hz1 _⟩, by simp [intOf]; omega⟩
    · have hpe : p = m := by omega
      subst hpe
      go_wp2_with fail
      go_ret
      obtain ⟨Q1, h1, h2⟩ := S.out.l
      exact ⟨u.heap.size + 1, rfl, by omega, S.out.r, Q1, h1, h2, S.out.o⟩
end Go.Proofs.YtafcnijfoejboaaGreatDoor.W
namespace Go.Proofs.YtafcnijfoejboaaGreatDoor.Pl
theorem big_nn {kk : Int} {G : Nat → Int × Int} : ∀ n, (∀ p, p < n → nb (G p)) → 0 ≤ big kk G n ∧ big kk G n ≤ 120002
  | 0, _ => ⟨Int.le_refl _, by show (0 : Int) ≤ 120002; decide⟩
  | n + 1, h => by
    have ih := big_nn (kk := kk) n (fun p hp => h p (by omega))
    have hf := foff_nn (kk := kk) (Nat.lt_succ_self n) h
    have hg := (h n (by omega)).1
    show 0 ≤ max _ _ ∧ max _ _ ≤ 120002
    omega
end Go.Proofs.YtafcnijfoejboaaGreatDoor.Pl
namespace Go.Proofs.YtafcnijfoejboaaGreatDoor.W
open Go.RowKit
structure Ast (w0 : World) (z : Nat) (a : Option Addr) (len cap : Nat) (kv : Value) (xs : List Pl.Ty) (u : World) (s al : Int) (wr : World) : Prop where
  l : ∃ Q, Lst w0 z a len cap kv Q wr ∧ Pl.Lok xs Q
  o : OnlyL (z + 1) u wr
  r : wr.heap[u.heap.size]? = some (.cells #[.int .i64 0, .int .i64 0] 49 (0, 0))
  t : wr.heap[u.heap.size + 1]? = some (.cells #[.int .i64 s, .int .i64 al] 49 (0, 0))
theorem Ast.only {w0 : World} {z : Nat} {a : Option Addr} {len cap : Nat} {kv : Value} {xs : List Pl.Ty} {u : World} {s al : Int} {wr w' : World} (h : Ast w0 z a len cap kv xs u s al wr) (hz : z + 1 < u.heap.size) (ho : OnlyL (z + 1) wr w') (hl : ∃ Q, Lst w0 z a len cap kv Q w' ∧ Pl.Lok xs Q) : Ast w0 z a len cap kv xs u s al w' := by
  have ht := (Array.getElem?_eq_some_iff.1 h.t).1
  exact ⟨hl, h.o.trans ho, (ho.block _ (by omega) (by omega)).trans h.r, (ho.block _ ht (by omega)).trans h.t⟩
theorem Ast.al {w0 : World} {z : Nat} {a : Option Addr} {len cap : Nat} {kv : Value} {xs : List Pl.Ty} {u : World} {s al : Int} {wr : World} (h : Ast w0 z a len cap kv xs u s al wr) (hz : z + 1 < u.heap.size) (o : Obj) : Ast w0 z a len cap kv xs u s al (wr.alloc o) := by
  obtain ⟨Q, h1, h2⟩ := h.l
  exact h.only hz (.of_below (below_alloc _ _)) ⟨Q, h1.keep (below_alloc _ _), h2⟩
theorem Ast.set0 {w0 : World} {z : Nat} {a : Option Addr} {len cap : Nat} {kv : Value} {xs : List Pl.Ty} {u : World} {s al : Int} {wr : World} (h : Ast w0 z a len cap kv xs u s al wr) (hz : z + 2 < u.heap.size) (x : Int) : Ast w0 z a len cap kv xs u x al (wr.setCell ⟨u.heap.size + 1, 0, none⟩ (.int .i64 x)) := by
  obtain ⟨Q, h1, h2⟩ := h.l
  refine ⟨⟨Q, h1.high _ _ _ (by omega), h2⟩, h.o.low ((Below.refl u.heap.size wr).setCell (p := ⟨u.heap.size + 1, 0, none⟩) (by show _ ≤ u.heap.size + 1; omega) _), (Below.heap_setCell wr ⟨u.heap.size + 1, 0, none⟩ _ _ (by show _ ≠ u.heap.size + 1; omega)).trans h.r, ?_⟩
  rw [setCell_eq_setRow wr _ _ _ _ _ _ h.t, setRow_heap wr _ _ _ _ _ h.t]; rfl
theorem Ast.set1 {w0 : World} {z : Nat} {a : Option Addr} {len cap : Nat} {kv : Value} {xs : List Pl.Ty} {u : World} {s al : Int} {wr : World} (h : Ast w0 z a len cap kv xs u s al wr) (hz : z + 2 < u.heap.size) (x : Int) : Ast w0 z a len cap kv xs u s x (wr.setCell ⟨u.heap.size + 1, 1, none⟩ (.int .i64 x)) := by
  obtain ⟨Q, h1, h2⟩ := h.l
  refine ⟨⟨Q, h1.high _ _ _ (by omega), h2⟩, h.o.low ((Below.refl u.heap.size wr).setCell (p := ⟨u.heap.size + 1, 1, none⟩) (by show _ ≤ u.heap.size + 1; omega) _), (Below.heap_setCell wr ⟨u.heap.size + 1, 1, none⟩ _ _ (by show _ ≠ u.heap.size + 1; omega)).trans h.r, ?_⟩
  rw [setCell_eq_setRow wr _ _ _ _ _ _ h.t, setRow_heap wr _ _ _ _ _ h.t]; rfl
theorem Ast.cells {w0 : World} {z : Nat} {a : Option Addr} {len cap : Nat} {kv : Value} {xs : List Pl.Ty} {u : World} {s al : Int} {wr : World} (h : Ast w0 z a len cap kv xs u s al wr) : wr.cell? ⟨u.heap.size + 1, 0, none⟩ = some (.int .i64 s) ∧ wr.cell? ⟨u.heap.size + 1, 1, none⟩ = some (.int .i64 al) ∧ (∀ j, wr.frozen? ⟨u.heap.size + 1, j, none⟩ = false) ∧ wr.cell? ⟨u.heap.size, 0, none⟩ = some (.int .i64 0) ∧ wr.cell? ⟨u.heap.size, 1, none⟩ = some (.int .i64 0) ∧ (∀ j, wr.frozen? ⟨u.heap.size, j, none⟩ = false) ∧ u.heap.size + 1 < wr.heap.size :=
  ⟨by rw [cell_of_row wr _ 0 _ _ _ h.t]; rfl, by rw [cell_of_row wr _ 1 _ _ _ h.t]; rfl, fun j => frozen_of_row wr _ j _ _ h.t, by rw [cell_of_row wr _ 0 _ _ _ h.r]; rfl, by rw [cell_of_row wr _ 1 _ _ _ h.r]; rfl, fun j => frozen_of_row wr _ j _ _ h.r, (Array.getElem?_eq_some_iff.1 h.t).1⟩
set_option maxHeartbeats 4000000 in
set_option maxRecDepth 8000 in
theorem around_any {w0 : World} {z f g : Nat} {a : Option Addr} {len cap : Nat} {kv : Value} {xs : List Pl.Ty} (hn : ∀ i, (xs.getD i Pl.Ty.zero).k = 9 → 1 ≤ (xs.getD i Pl.Ty.zero).n) (HI : Hid (LaySaid Tryz.prog 42 w0 z a len cap kv xs f))
    (Q : Nat → Int × Int) (u : World) (h : Lst w0 z a len cap kv Q u) (hq : Pl.Lok xs Q) (m : Nat) (hm0 : 0 < m) (hm1 : m ≤ 1000000) (nms : List ByteArray) (zs : List Int) (kk : Int) (G : Nat → Int × Int) (hr : FRow u g m nms zs kk G) (hg : z + 2 < g)
    (hp : ∀ p, p < m → (0 ≤ zs.getD p 0 ∧ zs.getD p 0 < len) ∧ Pl.lays f xs (zs.getD p 0).toNat = true ∧ Pl.Lay xs (zs.getD p 0).toNat (G p).1 (G p).2) :
    Calls Tryz.prog 74 #[.pointer (some ⟨z + 2, 0, none⟩), .slice (some ⟨g, 0, none⟩) m m] u fun e u' => e = .returned (.agg #[.int .i64 (Pl.flds kk G m).1, .int .i64 (Pl.flds kk G m).2]) ∧ ∃ Q', Lst w0 z a len cap kv Q' u' ∧ Pl.Lok xs Q' ∧ OnlyL (z + 1) u u' := by
  have hz2 := h.size
  have hz1 : z + 1 < u.heap.size := by omega
  have hgl := hr.lt
  have hmi : (m : Int) ≤ 1000000 := by omega
  have HP : Hid (∀ p, p < m → (0 ≤ zs.getD p 0 ∧ zs.getD p 0 < len) ∧ Pl.lays f xs (zs.getD p 0).toNat = true ∧ Pl.Lay xs (zs.getD p 0).toNat (G p).1 (G p).2) := hp
  have HN : Hid (∀ p, p < m → Pl.nb (G p)) := fun p hpl => (hp p hpl).2.2.nb hn
  have HR : Hid (Lst w0 z a len cap kv Q u ∧ Pl.Lok xs Q) := ⟨h, hq⟩
  have HRow : Hid (FRow u g m nms zs kk G) := hr
  clear hp hn h hq hr hm1
  go_enter Tryz.func74, Tryz.ntmps74
  go_wp2_with fail
  have HF : Hid (Ast w0 z a len cap kv xs u 0 0 ((u.alloc (.cells #[.int .i64 0, .int .i64 0] 49)).alloc (.cells #[.int .i64 0, .int .i64 0] 49))) := by
    have hB : Below u.heap.size u ((u.alloc (.cells #[.int .i64 0, .int .i64 0] 49)).alloc (.cells #[.int .i64 0, .int .i64 0] 49)) := (below_alloc _ _).trans ((below_alloc _ _).mono (by simp))
    have hzt : ((u.alloc (.cells #[.int .i64 0, .int .i64 0] 49))).heap.size = u.heap.size + 1 := by simp
    have hg2 := heap_alloc_new (u.alloc (.cells #[.int .i64 0, .int .i64 0] 49)) (.cells #[.int .i64 0, .int .i64 0] 49)
    rw [hzt] at hg2
    exact ⟨⟨Q, HR.out.1.keep hB, HR.out.2⟩, .of_below hB, ((below_alloc _ _).block _ (by simp)).trans (heap_alloc_new u _), hg2⟩
  generalize ((u.alloc (.cells #[.int .i64 0, .int .i64 0] 49)).alloc (.cells #[.int .i64 0, .int .i64 0] 49)) = U at HF ⊢
  clear HR
  go_loopw [12] (fun j wr => ∃ p : Nat, p ≤ m ∧ j = .int .i64 p ∧ Hid (Ast w0 z a len cap kv xs u (Pl.big kk G p) (Pl.gal G p) wr)) (fun j _ => m - (intOf j).toNat)
  case atStart => exact ⟨0, Nat.zero_le _, rfl, HF⟩
  case round =>
    obtain ⟨p, hpm, rfl, S⟩ := hrel
    by_cases hlt : p < m
    · have hpi : (p : Int) < (m : Int) := by omega
      obtain ⟨k0, k1, k2⟩ := (HRow.out.same S.out.o.size (S.out.o.block _ HRow.out.lt (by omega))).c p hlt
      have hgw : g < wr.heap.size := Nat.lt_of_lt_of_le hgl S.out.o.size
      have hnb := HN.out p hlt
      have hfo := Pl.foff_nn (kk := kk) hlt HN.out
      have hbn := Pl.big_nn (kk := kk) (G := G) p (fun q hq => HN.out q (by omega))
      have hnn := HP.out p hlt
      obtain ⟨j, hj⟩ : ∃ j : Nat, zs.getD p 0 = j := ⟨(zs.getD p 0).toNat, by omega⟩
      rw [hj, Int.toNat_natCast] at hnn
      rw [hj] at k1
      obtain ⟨fo, hfe⟩ : ∃ fo, fo = Pl.foff kk G p := ⟨_, rfl⟩
      rw [← hfe] at k2 hfo
      obtain ⟨Q1, hS1, hK1⟩ := S.out.l
      have HS1 : Hid (Lst w0 z a len cap kv Q1 wr ∧ Pl.Lok xs Q1) := ⟨hS1, hK1⟩
      have HJ : Hid ((j < len ∧ Pl.lays f xs j = true) ∧ Pl.Lay xs j (G p).1 (G p).2) := ⟨⟨by omega, hnn.2.1⟩, hnn.2.2⟩
      have HFE : Hid (fo = Pl.foff kk G p) := hfe
      generalize nms.getD p ⟨#[]⟩ = nm at k0
      clear hnn hj hfe hS1 hK1
      go_wp2_with fail
      refine Calls.mono (HI.out Q1 _ j HJ.out.1.1 (HS1.out.1.keep (below_alloc _ _)) HS1.out.2 HJ.out.1.2) ?_
      rintro e u3 ⟨s2, al2, rfl, hL, Q3, hS3, hK3, hO3⟩
      obtain ⟨e1, e2⟩ := hL.fn HJ.out.2
      have S3 : Hid (Ast w0 z a len cap kv xs u (Pl.big kk G p) (Pl.gal G p) u3) := (S.out.al hz1 _).only hz1 hO3 ⟨Q3, hS3, hK3⟩
      have hzz := S.out.cells.2.2.2.2.2.2
      have hfb := (hO3.block wr.heap.size (by simp) (by omega)).trans (heap_alloc_new wr _)
      have kf : u3.cell? ⟨wr.heap.size, 2, none⟩ = some (.int .i64 fo) := by rw [cell_of_row u3 _ 2 _ _ _ hfb]; rfl
      have hfl := (Array.getElem?_eq_some_iff.1 hfb).1
      obtain ⟨a0, a1, af, _, _, _, hal⟩ := S3.out.cells
      obtain ⟨hs0, ha0⟩ := hnb
      have HB : Hid (s2 = (G p).1 ∧ al2 = (G p).2) := ⟨e1, e2⟩
      rw [← e1] at hs0
      rw [← e2] at ha0
      have hw : IntKind.i64.wrap (fo + s2) = fo + s2 := by rw [IntKind.wrap_i64]; omega
      have HG : Hid (Pl.gal G (p + 1) = max (Pl.gal G p) al2) := by show Pl.gal G (p + 1) = max (Pl.gal G p) al2; rw [e2]; rfl
      have HGB : Hid (Pl.big kk G (p + 1) = max (Pl.big kk G p) (fo + s2)) := by show Pl.big kk G (p + 1) = max (Pl.big kk G p) (fo + s2); rw [HFE.out, e1]; rfl
      generalize Pl.big kk G p = bb at S3 a0 HGB
      generalize Pl.gal G p = gg at S3 a1 HG
      clear hL hS3 hK3 hO3 e1 e2 hfb k0 k1 k2 HS1 hbn
      go_wp2_with fail
      refine ⟨⟨p + 1, hlt, by congr 1, ?_⟩, by simp [intOf]; omega⟩
      show Ast w0 z a len cap kv xs u (Pl.big kk G (p + 1)) (Pl.gal G (p + 1)) _
      rw [HGB.out, HG.out]
      exact ((S3.out.set1 hz2 (max gg al2)).set0 hz2 (max bb (fo + s2))).al hz1 _
    · have hpe : p = m := by omega
      subst hpe
      obtain ⟨hae, hbg, hgg⟩ := Pl.around_eq (kk := kk) hm0 HN.out
      have hbg' := hgg.1
      obtain ⟨a0, a1, af, r0, r1, rf, hal⟩ := S.out.cells
      obtain ⟨bb, hbb⟩ : ∃ bb, bb = Pl.big kk G p := ⟨_, rfl⟩
      obtain ⟨gg, hgge⟩ : ∃ gg, gg = Pl.gal G p := ⟨_, rfl⟩
      have HE : Hid (Pl.flds kk G p = (Pl.capn (Pl.up bb gg), gg)) := by rw [hbb, hgge]; exact hae
      have HBB : Hid ((0 ≤ bb ∧ bb ≤ 120002) ∧ (1 ≤ gg ∧ gg ≤ 4)) := by rw [hbb, hgge]; exact ⟨⟨hbg, hgg.1⟩, hgg.2⟩
      have S3 : Hid (Ast w0 z a len cap kv xs u bb gg wr) := by rw [hbb, hgge]; exact S
      rw [← hbb] at a0
      rw [← hgge] at a1
      have hul : u.heap.size < wr.heap.size := by omega
      clear hae hbg hgg hbg' hbb hgge S
      obtain ⟨cu, hcu⟩ : ∃ cu, cu = Pl.capn (Pl.up bb gg) := ⟨_, rfl⟩
      have HCU : Hid (Pl.capn (Pl.up bb gg) = cu) := hcu.symm
      clear hcu
      go_wp2_with (first | (go_at_call 56; refine (nextMultiple_any bb gg HBB.out.1 HBB.out.2 _).mono ?_; rintro e u4 ⟨rfl, eu⟩; rw [eu]; clear eu) | (go_at_call 55; refine (bounded_any _ _).mono ?_; rintro e u4 ⟨rfl, eu⟩; rw [eu, HCU.out]; clear eu))
      obtain ⟨Q1, h1, h2⟩ := S3.out.l
      exact bodyPost_ret (v := .agg #[.int .i64 cu, .int .i64 gg]) (by simp [results, Tryz.results74, go_sem, r0, r1]) rfl ⟨by rw [HE.out, HCU.out], Q1, ((h1.high _ _ _ (by omega)).high _ _ _ hz2).high _ _ _ hz2, h2, S3.out.o.low ((((Below.refl u.heap.size wr).setCell (p := ⟨u.heap.size + 1, 0, none⟩) (by show _ ≤ u.heap.size + 1; omega) _).setCell (p := ⟨u.heap.size, 0, none⟩) (Nat.le_refl _) _).setCell (p := ⟨u.heap.size, 1, none⟩) (Nat.le_refl _) _)⟩
end Go.Proofs.YtafcnijfoejboaaGreatDoor.W
namespace Go.Proofs.YtafcnijfoejboaaGreatDoor.Pl
theorem names_of {xs : List Ty} {i : Nat} (h : fit xs i = true) (ht : tagd (xs.getD i Ty.zero).k = true) : (xs.getD i Ty.zero).names.length = (xs.getD i Ty.zero).of.length ∧ (xs.getD i Ty.zero).of.length ≤ 1000000 := by
  have hk : (xs.getD i Ty.zero).k = 10 ∨ (xs.getD i Ty.zero).k = 11 := by unfold tagd at ht; rw [decide_eq_true_eq] at ht; exact ht
  unfold fit at h
  revert h
  generalize xs.getD i Ty.zero = x at hk
  intro h
  have hr : tRule x.k = some ⟨0, 0, 0, 100, true⟩ := by
    unfold tRule
    rw [if_neg (by omega), if_neg (by omega), if_neg (by omega), if_pos hk]
  rw [hr] at h
  simp only [fitR_iff] at h
  obtain ⟨⟨_, h2⟩, _, h4⟩ := h
  simp only [if_true] at h4
  exact ⟨h4.1, by omega⟩
end Go.Proofs.YtafcnijfoejboaaGreatDoor.Pl
namespace Go.Proofs.YtafcnijfoejboaaGreatDoor.W
open Go.RowKit
set_option maxHeartbeats 4000000 in
set_option maxRecDepth 8000 in
theorem layOut_rcd {w0 : World} {lo z f : Nat} {a : Option Addr} {len cap : Nat} {kv : Value} {xs : List Pl.Ty} (hT : TRow lo w0 a len cap xs) (hn : ∀ i, (xs.getD i Pl.Ty.zero).k = 9 → 1 ≤ (xs.getD i Pl.Ty.zero).n) (HI : Hid (LaySaid Tryz.prog 42 w0 z a len cap kv xs f))
    (Q : Nat → Int × Int) (u : World) (i : Nat) (hi : i < len) (h : Lst w0 z a len cap kv Q u) (hq : Pl.Lok xs Q) (ht : Pl.tagd (xs.getD i Pl.Ty.zero).k = true) (hl0 : 0 < (xs.getD i Pl.Ty.zero).of.length) (hl : (xs.getD i Pl.Ty.zero).names.length = (xs.getD i Pl.Ty.zero).of.length) (hl2 : (xs.getD i Pl.Ty.zero).of.length ≤ 1000000) (G : Nat → Int × Int)
    (hp : ∀ p, p < (xs.getD i Pl.Ty.zero).of.length → (0 ≤ Pl.ofAt xs i p ∧ Pl.ofAt xs i p < len) ∧ Pl.lays f xs (Pl.ofAt xs i p).toNat = true ∧ Pl.Lay xs (Pl.ofAt xs i p).toNat (G p).1 (G p).2) :
    Calls Tryz.prog 66 #[.pointer (some ⟨z + 2, 0, none⟩), .int .i64 i] u fun e u' => ∃ s al : Int, e = .returned (.agg #[.int .i64 s, .int .i64 al]) ∧ Pl.Lay xs i s al ∧ ∃ Q', Lst w0 z a len cap kv Q' u' ∧ Pl.Lok xs Q' ∧ OnlyL (z + 1) u u' := by
  have hm : (len : Int) ≤ 9223372036854775807 := by have := hT.small; omega
  have hii : (i : Int) < (len : Int) := by omega
  obtain ⟨g0, _, _, _⟩ := h.cells
  have hz2 := h.size
  have hz1 : z + 1 < u.heap.size := by omega
  have HL : Hid (Pl.Lay xs i (Pl.flds (xs.getD i Pl.Ty.zero).k G (xs.getD i Pl.Ty.zero).of.length).1 (Pl.flds (xs.getD i Pl.Ty.zero).k G (xs.getD i Pl.Ty.zero).of.length).2) := Pl.Lay.rcd i G ht hl0 (fun p hpl => (hp p hpl).2.2)
  have HA : Hid (∀ (w : World), Lst w0 z a len cap kv Q w → Calls Tryz.prog 34 #[.pointer (some ⟨z + 2, 0, none⟩), .int .i64 i] w fun e u' => ∃ g, e = .returned (.slice (some ⟨g, 0, none⟩) (xs.getD i Pl.Ty.zero).of.length (xs.getD i Pl.Ty.zero).of.length) ∧ w.heap.size ≤ g ∧ FRow u' g (xs.getD i Pl.Ty.zero).of.length (xs.getD i Pl.Ty.zero).names (xs.getD i Pl.Ty.zero).of (xs.getD i Pl.Ty.zero).k G ∧ ∃ Q', Lst w0 z a len cap kv Q' u' ∧ Pl.Lok xs Q' ∧ OnlyL (z + 1) w u') := fun w hw => by
    have := fieldsOf_any hT hn HI Q w i hi hw hq (by omega) (by omega) G (by rw [hl]; exact hp)
    rw [hl] at this
    exact this
  have HB : Hid (∀ (w : World) (Q : Nat → Int × Int) (g : Nat), Lst w0 z a len cap kv Q w → Pl.Lok xs Q → FRow w g (xs.getD i Pl.Ty.zero).of.length (xs.getD i Pl.Ty.zero).names (xs.getD i Pl.Ty.zero).of (xs.getD i Pl.Ty.zero).k G → z + 2 < g → Calls Tryz.prog 74 #[.pointer (some ⟨z + 2, 0, none⟩), .slice (some ⟨g, 0, none⟩) (xs.getD i Pl.Ty.zero).of.length (xs.getD i Pl.Ty.zero).of.length] w fun e u' => e = .returned (.agg #[.int .i64 (Pl.flds (xs.getD i Pl.Ty.zero).k G (xs.getD i Pl.Ty.zero).of.length).1, .int .i64 (Pl.flds (xs.getD i Pl.Ty.zero).k G (xs.getD i Pl.Ty.zero).of.length).2]) ∧ ∃ Q', Lst w0 z a len cap kv Q' u' ∧ Pl.Lok xs Q' ∧ OnlyL (z + 1) w u') := fun w Q g hw hq2 hr hg =>
    around_any hn HI Q w hw hq2 _ hl0 hl2 _ _ _ G hr hg hp
  obtain ⟨b, off, v, s, rfl, hlo, hb1, hc, hrow, hs2⟩ := (hT.keep h.b).at hi
  have hk : (xs.getD i Pl.Ty.zero).k = 10 ∨ (xs.getD i Pl.Ty.zero).k = 11 := by unfold Pl.tagd at ht; rw [decide_eq_true_eq] at ht; exact ht
  have HR : Hid (Lst w0 z (some ⟨b, off, none⟩) len cap kv Q u) := h
  clear hp hn h hq hrow hs2 hl ht hl0
  generalize xs.getD i Pl.Ty.zero = x at hl2 hc HL HA HB hk
  obtain ⟨c0, c1, c2, c3⟩ := ty_cells hc
  generalize x.of.length = n at hl2 HL HA HB
  generalize (Pl.flds x.k G n).1 = s9 at HL HB
  generalize (Pl.flds x.k G n).2 = a9 at HL HB
  have hn : (n : Int) ≤ 1000000 := by omega
  clear hc
  rcases hk with hk | hk
  all_goals
    rw [hk] at c0
    clear hk
    go_enter Tryz.func66, Tryz.ntmps66
    go_wp2_with fail
    refine Calls.mono (HA.out _ (HR.out.keep ((below_alloc _ _).trans ((below_alloc _ _).mono (by simp))))) ?_
    rintro e u2 ⟨g, rfl, hg, hF, Q2, hS2, hK2, hO2⟩
    have hg2 : z + 2 < g := by
      have : u.heap.size ≤ g := Nat.le_trans (by simp; omega) hg
      omega
    have KR : Hid (u2.heap[u.heap.size]? = some (.cells #[.int .i64 0, .int .i64 0] 49 (0, 0))) := (hO2.block _ (by simp; omega) (by omega)).trans (((below_alloc _ _).block _ (by simp)).trans (heap_alloc_new u _))
    have O2 : Hid (OnlyL (z + 1) u u2) := (OnlyL.of_below ((below_alloc _ _).trans ((below_alloc _ _).mono (by simp)))).trans hO2
    have HB2 : Hid _ := HB.out u2 Q2 g hS2 hK2 hF hg2
    clear hF hS2 hK2 hO2 hg hg2
    go_wp2_with fail
    refine Calls.mono HB2.out ?_
    rintro e u3 ⟨rfl, Q3, hS3, hK3, hO3⟩
    have KR3 := (hO3.block _ (Array.getElem?_eq_some_iff.1 KR.out).1 (by omega)).trans KR.out
    have r0 : u3.cell? ⟨u.heap.size, 0, none⟩ = some (.int .i64 0) := by rw [cell_of_row u3 _ 0 _ _ _ KR3]; rfl
    have r1 : u3.cell? ⟨u.heap.size, 1, none⟩ = some (.int .i64 0) := by rw [cell_of_row u3 _ 1 _ _ _ KR3]; rfl
    have rf : ∀ j, u3.frozen? ⟨u.heap.size, j, none⟩ = false := fun j => frozen_of_row u3 _ j _ _ KR3
    have HH : Hid (Lst w0 z (some ⟨b, off, none⟩) len cap kv Q3 u3 ∧ Pl.Lok xs Q3 ∧ OnlyL (z + 1) u u3) := ⟨hS3, hK3, O2.out.trans hO3⟩
    clear hS3 hK3 hO3 KR3 KR
    go_wp2_with fail
    exact bodyPost_ret (v := .agg #[.int .i64 s9, .int .i64 a9]) (by simp [results, Tryz.results66, go_sem, r0, r1]) rfl ⟨_, _, rfl, HL.out, Q3, (HH.out.1.high _ _ _ hz2).high _ _ _ hz2, HH.out.2.1, HH.out.2.2.low (((Below.refl u.heap.size u3).setCell (p := ⟨u.heap.size, 0, none⟩) (Nat.le_refl _) _).setCell (p := ⟨u.heap.size, 1, none⟩) (Nat.le_refl _) _)⟩
theorem layout_all {w0 : World} {lo z : Nat} {a : Option Addr} {len cap : Nat} {kv : Value} {xs : List Pl.Ty} (hT : TRow lo w0 a len cap xs) (hok : TOk len xs) : ∀ f, LaySaid Tryz.prog 42 w0 z a len cap kv xs f
  | 0 => fun Q u i hi h hq hf => by simp [Pl.lays] at hf
  | f + 1 => by
    have hxl : xs.length = len := hT.1
    have hz : ∀ i, ¬ i < len → xs.getD i Pl.Ty.zero = Pl.Ty.zero := fun i hi => by rw [List.getD_eq_getElem?_getD, List.getElem?_eq_none (by omega)]; rfl
    have h9f : ∀ i, (xs.getD i Pl.Ty.zero).k = 9 → (1 ≤ (xs.getD i Pl.Ty.zero).n ∧ (xs.getD i Pl.Ty.zero).n ≤ 60000) ∧ (xs.getD i Pl.Ty.zero).of.length = 1 := fun i h9 => by
      by_cases hi : i < len
      · have hf := hok.2.1 i hi
        unfold Pl.fit at hf
        rw [h9, show Pl.tRule 9 = some ⟨1, 60000, 1, 1, false⟩ from by simp [Pl.tRule]] at hf
        simp only [Pl.fitR_iff] at hf
        exact ⟨hf.1.1, by omega⟩
      · rw [hz i hi] at h9; exact absurd h9 (by decide)
    have hn : ∀ i, (xs.getD i Pl.Ty.zero).k = 9 → 1 ≤ (xs.getD i Pl.Ty.zero).n := fun i h9 => (h9f i h9).1.1
    have hone : ∀ i, (xs.getD i Pl.Ty.zero).k = 9 → 0 < (xs.getD i Pl.Ty.zero).of.length := fun i h9 => by have := (h9f i h9).2; omega
    have HI : Hid (LaySaid Tryz.prog 42 w0 z a len cap kv xs f) := layout_all hT hok f
    refine layoutOf_of hT hn ?_
    show LaySaid Tryz.prog 66 w0 z a len cap kv xs (f + 1)
    intro Q u i hi h hq hf
    obtain ⟨hw, hpp⟩ := (Pl.lays_succ f xs i).1 hf
    by_cases hs : Pl.scal (xs.getD i Pl.Ty.zero).k = true
    · exact layOut_scal hT Q u i hi h hq hs
    have hpp := hpp.resolve_left hs
    have hfit := hok.2.1 i hi
    by_cases h9 : (xs.getD i Pl.Ty.zero).k = 9
    · have hpt := Pl.fit_parts hfit (.inl h9) 0 (hone i h9)
      exact layOut_arr hT hn HI Q u i hi h hq h9 (h9f i h9).2 (h9f i h9).1 (by rw [hxl] at hpt; exact hpt.1) (hpp 0 (hone i h9))
    · have hw2 : Pl.tagd (xs.getD i Pl.Ty.zero).k = true ∧ 0 < (xs.getD i Pl.Ty.zero).of.length := by
        unfold Pl.Ty.whole at hw
        revert hw hs h9
        clear hpp hf hfit
        generalize xs.getD i Pl.Ty.zero = x
        intro hw hs h9
        rw [Bool.not_eq_true] at hs
        simpa [hs, h9] using hw
      have hnm := Pl.names_of hfit hw2.1
      have hG : ∀ p, ∃ g : Int × Int, p < (xs.getD i Pl.Ty.zero).of.length → Pl.Lay xs (Pl.ofAt xs i p).toNat g.1 g.2 := fun p => by
        by_cases hl : p < (xs.getD i Pl.Ty.zero).of.length
        · obtain ⟨s, al, hl2⟩ := Pl.lays_lay hone f _ (hpp p hl)
          exact ⟨(s, al), fun _ => hl2⟩
        · exact ⟨(0, 0), fun q => absurd q hl⟩
      exact layOut_rcd hT hn HI Q u i hi h hq hw2.1 hw2.2 hnm.1 hnm.2 (fun p => Classical.choose (hG p)) (fun p hp => by
        have hpt := Pl.fit_parts hfit (.inr hw2.1) p hp
        rw [hxl] at hpt
        exact ⟨hpt.1, hpp p hp, Classical.choose_spec (hG p) hp⟩)
end Go.Proofs.YtafcnijfoejboaaGreatDoor.W
namespace Go.Proofs.YtafcnijfoejboaaGreatDoor.Pl
theorem Lay.lays {xs : List Ty} (hn : ∀ i, (xs.getD i Ty.zero).k = 9 → 1 ≤ (xs.getD i Ty.zero).n) (h1 : ∀ i, (xs.getD i Ty.zero).k = 9 → (xs.getD i Ty.zero).of.length = 1) {i : Nat} {s a : Int} (h : Lay xs i s a) : ∃ f, Pl.lays f xs i = true := by
  induction h with
  | scal i hs => exact ⟨1, (lays_succ 0 _ _).2 ⟨(Lay.scal i hs).whole hn, .inl hs⟩⟩
  | arr i s a h9 hl ih =>
    obtain ⟨f, hf⟩ := ih
    refine ⟨f + 1, (lays_succ f _ _).2 ⟨(Lay.arr i s a h9 hl).whole hn, .inr (fun p hp => ?_)⟩⟩
    have : p = 0 := by have := h1 i h9; omega
    rw [this]; exact hf
  | rcd i G ht hl hp ih =>
    obtain ⟨f, hf⟩ := lays_all (xs := xs) (q := fun p => (ofAt xs i p).toNat) (xs.getD i Ty.zero).of.length ih
    exact ⟨f + 1, (lays_succ f _ _).2 ⟨(Lay.rcd i G ht hl hp).whole hn, .inr hf⟩⟩
open Classical in
noncomputable def layP (len : Nat) (xs : List Ty) (i : Int) : Int × Int := if h : (W.TOk len xs ∧ 0 ≤ i ∧ i < len) ∧ ∃ p : Int × Int, Lay xs i.toNat p.1 p.2 then Classical.choose h.2 else (0, 0)
theorem layP_of {len : Nat} {xs : List Ty} {i : Nat} {s a : Int} (ho : W.TOk len xs) (hi : i < len) (h : Lay xs i s a) : layP len xs i = (s, a) := by
  have hh : (W.TOk len xs ∧ 0 ≤ (i : Int) ∧ (i : Int) < len) ∧ ∃ p : Int × Int, Lay xs (i : Int).toNat p.1 p.2 := ⟨⟨ho, by omega, by omega⟩, (s, a), by rw [Int.toNat_natCast]; exact h⟩
  unfold layP
  rw [dif_pos hh]
  have h2 := Classical.choose_spec hh.2
  have h3 := Lay.fn h2 (by rw [Int.toNat_natCast]; exact h)
  exact Prod.ext h3.1 h3.2
theorem layP_no {len : Nat} {xs : List Ty} {i : Int} (h : ¬ ((W.TOk len xs ∧ 0 ≤ i ∧ i < len) ∧ ∃ p : Int × Int, Lay xs i.toNat p.1 p.2)) : layP len xs i = (0, 0) := by
  unfold layP
  rw [dif_neg h]
end Go.Proofs.YtafcnijfoejboaaGreatDoor.Pl
namespace Go.Proofs.YtafcnijfoejboaaGreatDoor.W
open Go.RowKit
theorem arrs_of {len : Nat} {xs : List Pl.Ty} (hxl : xs.length = len) (hok : TOk len xs) : ∀ i, (xs.getD i Pl.Ty.zero).k = 9 → (1 ≤ (xs.getD i Pl.Ty.zero).n ∧ (xs.getD i Pl.Ty.zero).n ≤ 60000) ∧ (xs.getD i Pl.Ty.zero).of.length = 1 := fun i h9 => by
  by_cases hi : i < len
  · have hf := hok.2.1 i hi
    unfold Pl.fit at hf
    rw [h9, show Pl.tRule 9 = some ⟨1, 60000, 1, 1, false⟩ from by simp [Pl.tRule]] at hf
    simp only [Pl.fitR_iff] at hf
    exact ⟨hf.1.1, by omega⟩
  · have : xs.getD i Pl.Ty.zero = Pl.Ty.zero := by rw [List.getD_eq_getElem?_getD, List.getElem?_eq_none (by omega)]; rfl
    rw [this] at h9; exact absurd h9 (by decide)
theorem lay0_lcs (len : Nat) : lay0 len = lcs len (fun _ => (0, 0)) := by
  apply Array.ext_getElem?
  intro j
  by_cases hj : j < len * 2
  · rw [lcs_get hj]
    have hs : j < (lay0 len).size := by simp [lay0, madeCells]; omega
    rw [Array.getElem?_eq_getElem hs]
    have hc : Pl.cel (fun _ => (0, 0)) j = 0 := by unfold Pl.cel; split <;> rfl
    rw [hc]
    congr 1
    simp only [lay0, madeCells, Array.getElem_map, Array.getElem_range]
    show (#[Value.int .i64 0, Value.int .i64 0] : Array Value)[j % 2]! = _
    rcases Nat.mod_two_eq_zero_or_one j with e | e <;> rw [e] <;> rfl
  · rw [Array.getElem?_eq_none (by simp [lay0, madeCells]; omega), Array.getElem?_eq_none (by unfold lcs; simp; omega)]
theorem TSt.lst {w0 : World} {z : Nat} {a : Option Addr} {len cap : Nat} {Ks : List (List Int)} {kv : Value} {u : World} (h : TSt w0 z a len cap (lay0 len) Ks kv u) : Lst w0 z a len cap kv (fun _ => (0, 0)) u := ⟨h.b, h.lo, h.gc, by rw [← lay0_lcs]; exact h.ll⟩
set_option maxHeartbeats 4000000 in
set_option maxRecDepth 8000 in
theorem layoutOf_none {w0 : World} {lo z : Nat} {a : Option Addr} {len cap : Nat} {kv : Value} {xs : List Pl.Ty} (hT : TRow lo w0 a len cap xs) (u : World) (i : Nat) (hi : i < len) (h : Lst w0 z a len cap kv (fun _ => (0, 0)) u) (hw : (xs.getD i Pl.Ty.zero).whole = false) :
    Calls Tryz.prog 42 #[.pointer (some ⟨z + 2, 0, none⟩), .int .i64 i] u fun e u' => e = .returned (.agg #[.int .i64 0, .int .i64 0]) ∧ Below u.heap.size u u' := by
  have hm : (len : Int) ≤ 9223372036854775807 := by have := hT.small; omega
  have hii : (i : Int) < (len : Int) := by omega
  obtain ⟨g0, g3, gl, gf⟩ := h.cells
  obtain ⟨p0, p1⟩ := gl i hi
  simp only at p0 p1
  have hz2 := h.size
  have hz1 : z + 1 < u.heap.size := by omega
  obtain ⟨b, off, v, s, rfl, hlo, hb1, hc, hrow, hs⟩ := (hT.keep h.b).at hi
  have hvl := hrow.1
  generalize xs.getD i Pl.Ty.zero = x at hc hvl hw hrow
  obtain ⟨c0, c1, c2, c3⟩ := ty_cells hc
  have HV : Hid (x.of.length = v.len) := hvl
  have HW : Hid (x.whole = false) := hw
  have HR : Hid (Lst w0 z (some ⟨b, off, none⟩) len cap kv (fun _ => (0, 0)) u) := h
  clear gl hc hrow hs h hvl hw
  go_enter Tryz.func42, Tryz.ntmps42
  go_wp2_with (go_at_call 65; refine (isComplete_any x v s HV.out _).mono ?_; rintro e u1 ⟨rfl, d1⟩; rw [HW.out]; have D1 : Hid _ := d1; have B1 : Hid (Below u.heap.size u u1) := (below_alloc u _).trans (d1.mono (by simp)); have hx3 := (HR.out.keep B1.out).cells.2.1; have hx0 := ((HR.out.keep B1.out).cells.2.2.1 i hi).1; have hx1 := ((HR.out.keep B1.out).cells.2.2.1 i hi).2; simp only at hx0 hx1; have hr0 := (d1.block u.heap.size (by simp)).trans (heap_alloc_new u _); have r0 := cell_of_row u1 _ 0 _ _ _ hr0; have r1 := cell_of_row u1 _ 1 _ _ _ hr0; change u1.cell? ⟨u.heap.size, 0, none⟩ = some (.int .i64 0) at r0; change u1.cell? ⟨u.heap.size, 1, none⟩ = some (.int .i64 0) at r1; have rf : ∀ j, u1.frozen? ⟨u.heap.size, j, none⟩ = false := (fun j => frozen_of_row u1 _ j _ _ hr0); clear d1 hr0)
  exact bodyPost_ret (v := .agg #[.int .i64 0, .int .i64 0]) (by simp [results, Tryz.results42, go_sem, r0, r1]) rfl ⟨rfl, (B1.out.setCell (p := ⟨u.heap.size, 0, none⟩) (Nat.le_refl _) _).setCell (p := ⟨u.heap.size, 1, none⟩) (Nat.le_refl _) _⟩
end Go.Proofs.YtafcnijfoejboaaGreatDoor.W
namespace Go.Proofs.YtafcnijfoejboaaGreatDoor.W
open Go.RowKit
theorem has_any (g : Nat) (a : Option Addr) (len cap : Nat) (hl : (len : Int) ≤ 9223372036854775807) (i : Int) (u : World) (h : u.cell? ⟨g, 0, none⟩ = some (.slice a len cap)) :
    Calls Tryz.prog 33 #[.pointer (some ⟨g, 0, none⟩), .int .i64 i] u fun e u' => e = .returned (.bool (Pl.within i 0 ((len : Int) - 1))) ∧ u' = u := by
  go_enter Tryz.func33, Tryz.ntmps33
  go_wp2_with (go_at_call 48; refine (isWithin_any _ _ _ _).mono ?_; rintro e u1 ⟨rfl, eu⟩; rw [eu]; clear eu)
  go_ret
  exact ⟨rfl, rfl⟩
theorem whole_lays {len : Nat} {xs : List Pl.Ty} (hok : TOk len xs) {i : Nat} (hi : i < len) (hw : (xs.getD i Pl.Ty.zero).whole = true) : ∃ f, Pl.lays f xs i = true := by
  cases hs : Pl.scal (xs.getD i Pl.Ty.zero).k
  · refine hok.2.2 i hi ?_
    unfold Pl.Ty.whole at hw
    rw [hs, Bool.false_or, Bool.or_eq_true] at hw
    rcases hw with h1 | h1
    · exact .inl (by simp at h1; exact h1.1)
    · exact .inr (by simpa using h1)
  · exact ⟨1, (Pl.lays_succ 0 _ _).2 ⟨hw, .inl hs⟩⟩
set_option maxHeartbeats 4000000 in
set_option maxRecDepth 8000 in
theorem layoutIn_any {lo : Nat} (a : Option Addr) (len cap : Nat) (xs : List Pl.Ty) (i : Int) (w : World) (hT : TRow lo w a len cap xs) (hE : Errs w) (hsm : ∀ i, i < len → ∀ j, j < (xs.getD i Pl.Ty.zero).names.length → ((xs.getD i Pl.Ty.zero).names.getD j ⟨#[]⟩).size ≤ 1048576) :
    Calls Tryz.prog 26 #[.slice a len cap, .int .i64 i] w fun e w' => e = .returned (.agg #[.int .i64 (Pl.layP len xs i).1, .int .i64 (Pl.layP len xs i).2]) ∧ Below w.heap.size w w' := by
  have hm : (len : Int) ≤ 9223372036854775807 := by have := hT.small; omega
  have HT : Hid (TRow lo w a len cap xs) := hT
  have HXL : Hid (xs.length = len) := hT.1
  have HIM : Hid (∀ w', Below w.heap.size w w' → Calls Tryz.prog 32 #[.slice a len cap] w' fun e w'' => ∃ g, e = .returned (.pointer (some ⟨g, 0, none⟩)) ∧ StoreOf w' a len cap xs g w'' ∧ Below w'.heap.size w' w'') := fun w' hb => storeOf_any a len cap xs w' (hT.keep hb) (hE.keep hb) hsm
  clear hT hE hsm
  go_enter Tryz.func26, Tryz.ntmps26
  go_wp2_with fail
  refine Calls.mono (HIM.out _ (below_alloc _ _)) ?_
  rintro e u1 ⟨g, rfl, hst, d1⟩
  have hr0 := (d1.block w.heap.size (by simp)).trans (heap_alloc_new w _)
  have KR : Hid (u1.heap[w.heap.size]? = some (.cells #[.int .i64 0, .int .i64 0] 49 (0, 0))) := hr0
  have B1 : Hid (Below w.heap.size w u1) := (below_alloc w _).trans (d1.mono (by simp))
  have B1' : Hid (Below (w.alloc (.cells #[.int .i64 0, .int .i64 0] 49)).heap.size (w.alloc (.cells #[.int .i64 0, .int .i64 0] 49)) u1) := d1
  clear d1 hr0
  have r0 : u1.cell? ⟨w.heap.size, 0, none⟩ = some (.int .i64 0) := by rw [cell_of_row u1 _ 0 _ _ _ KR.out]; rfl
  have r1 : u1.cell? ⟨w.heap.size, 1, none⟩ = some (.int .i64 0) := by rw [cell_of_row u1 _ 1 _ _ _ KR.out]; rfl
  have rf : ∀ j, u1.frozen? ⟨w.heap.size, j, none⟩ = false := fun j => frozen_of_row u1 _ j _ _ KR.out
  rcases hst with ⟨hok, z, kv, rfl, hS⟩ | ⟨hno, hc⟩
  rotate_left
  · have HE : Hid (Pl.layP len xs i = (0, 0)) := Pl.layP_no (fun q => hno q.1.1)
    have HC : Hid (u1.cell? ⟨g, 0, none⟩ = some (.slice none 0 0)) := by
      show u1.cell? ⟨g, 0, none⟩ = _
      rw [cell_of_row u1 _ 0 _ _ _ hc]; rfl
    have hwn : Pl.within i 0 ((0 : Nat) - 1 : Int) = false := by
      rw [Bool.eq_false_iff]; intro q
      have : 0 ≤ i ∧ i ≤ ((0 : Nat) - 1 : Int) := by simpa [Pl.within] using q
      omega
    have HW : Hid (Pl.within i 0 (((0 : Nat) : Int) - 1) = false) := hwn
    clear hno hc hwn
    go_wp2_with (go_at_call 33; refine (has_any g none 0 0 (by decide) i _ HC.out).mono ?_; rintro e u2 ⟨rfl, eu⟩; rw [eu, HW.out]; clear eu)
    exact bodyPost_ret (v := .agg #[.int .i64 0, .int .i64 0]) (by simp [results, Tryz.results26, go_sem, r0, r1]) rfl ⟨by rw [HE.out], (B1.out.setCell (p := ⟨w.heap.size, 0, none⟩) (Nat.le_refl _) _).setCell (p := ⟨w.heap.size, 1, none⟩) (Nat.le_refl _) _⟩
  have HS : Hid (Lst (w.alloc (.cells #[.int .i64 0, .int .i64 0] 49)) z a len cap kv (fun _ => (0, 0)) u1) := hS.lst
  have HOK : Hid (TOk len xs) := hok
  have HG : Hid (u1.cell? ⟨z + 2, 0, none⟩ = some (.slice a len cap)) := hS.lst.cells.1
  have hzw : w.heap.size + 1 ≤ z := by have := hS.lo; simpa using this
  clear hS hok
  cases hin : Pl.within i 0 ((len : Int) - 1)
  · have HW : Hid (Pl.within i 0 ((len : Int) - 1) = false) := hin
    have HE : Hid (Pl.layP len xs i = (0, 0)) := Pl.layP_no (fun q => by
      have : Pl.within i 0 ((len : Int) - 1) = true := by simp [Pl.within]; omega
      rw [hin] at this; cases this)
    clear hin
    go_wp2_with (go_at_call 33; refine (has_any (z + 2) a len cap hm i _ HG.out).mono ?_; rintro e u2 ⟨rfl, eu⟩; rw [eu, HW.out]; clear eu)
    exact bodyPost_ret (v := .agg #[.int .i64 0, .int .i64 0]) (by simp [results, Tryz.results26, go_sem, r0, r1]) rfl ⟨by rw [HE.out], (B1.out.setCell (p := ⟨w.heap.size, 0, none⟩) (Nat.le_refl _) _).setCell (p := ⟨w.heap.size, 1, none⟩) (Nat.le_refl _) _⟩
  have hi0 : 0 ≤ i ∧ i ≤ (len : Int) - 1 := by simpa [Pl.within] using hin
  obtain ⟨j, rfl⟩ : ∃ j : Nat, i = j := ⟨i.toNat, by omega⟩
  have hj : j < len := by omega
  have HW : Hid (Pl.within (j : Int) 0 ((len : Int) - 1) = true) := hin
  clear hin hi0
  have HC : Hid (Calls Tryz.prog 42 #[.pointer (some ⟨z + 2, 0, none⟩), .int .i64 j] u1 fun e u' => e = .returned (.agg #[.int .i64 (Pl.layP len xs j).1, .int .i64 (Pl.layP len xs j).2]) ∧ OnlyL (z + 1) u1 u') := by
    have hT1 := HT.out.keep (below_alloc w (.cells #[.int .i64 0, .int .i64 0] 49))
    cases hw : (xs.getD j Pl.Ty.zero).whole
    · refine (layoutOf_none hT1 u1 j hj HS.out hw).mono ?_
      rintro e u' ⟨rfl, hb⟩
      have e0 : Pl.layP len xs j = (0, 0) := Pl.layP_no (fun ⟨_, p, q⟩ => by
        rw [Int.toNat_natCast] at q
        have := q.whole (fun i h9 => (arrs_of HXL.out HOK.out i h9).1.1)
        rw [hw] at this; cases this)
      exact ⟨by rw [e0], .of_below hb⟩
    · obtain ⟨f, hf⟩ := whole_lays HOK.out hj hw
      refine (layout_all hT1 HOK.out f _ u1 j hj HS.out (fun _ => .inl rfl) hf).mono ?_
      rintro e u' ⟨s, al, rfl, hL, Q', _, _, hO⟩
      exact ⟨by rw [Pl.layP_of HOK.out hj hL], hO⟩
  obtain ⟨pq, hpq⟩ : ∃ pq, pq = Pl.layP len xs j := ⟨_, rfl⟩
  rw [← hpq] at HC
  obtain ⟨s9, a9⟩ := pq
  have HPQ : Hid (Pl.layP len xs j = (s9, a9)) := hpq.symm
  clear hpq
  simp only at HC
  go_wp2_with (first | (go_at_call 33; refine (has_any (z + 2) a len cap hm _ _ HG.out).mono ?_; rintro e u2 ⟨rfl, eu⟩; rw [eu, HW.out]; clear eu) | fail)
  refine Calls.mono HC.out ?_
  rintro e u3 ⟨rfl, hO⟩
  have KR3 := (hO.block _ (Array.getElem?_eq_some_iff.1 KR.out).1 (by omega)).trans KR.out
  have q0 : u3.cell? ⟨w.heap.size, 0, none⟩ = some (.int .i64 0) := by rw [cell_of_row u3 _ 0 _ _ _ KR3]; rfl
  have q1 : u3.cell? ⟨w.heap.size, 1, none⟩ = some (.int .i64 0) := by rw [cell_of_row u3 _ 1 _ _ _ KR3]; rfl
  have qf : ∀ j, u3.frozen? ⟨w.heap.size, j, none⟩ = false := fun j => frozen_of_row u3 _ j _ _ KR3
  have B3 : Hid (Below w.heap.size w u3) := B1.out.trans (hO.below (by omega) B1.out.size)
  clear hO KR3 KR
  go_wp2_with fail
  exact bodyPost_ret (v := .agg #[.int .i64 s9, .int .i64 a9]) (by simp [results, Tryz.results26, go_sem, q0, q1]) rfl ⟨by rw [HPQ.out], (B3.out.setCell (p := ⟨w.heap.size, 0, none⟩) (Nat.le_refl _) _).setCell (p := ⟨w.heap.size, 1, none⟩) (Nat.le_refl _) _⟩
theorem field0 (s a : Int) (u : World) : (Instr.field 49 (.agg #[.int .i64 s, .int .i64 a]) 0).run Tryz.prog u = .ok (.int .i64 s) u := by
  simp [Instr.field, go_sem, Tryz.underlying49]
  rfl
theorem field1 (s a : Int) (u : World) : (Instr.field 49 (.agg #[.int .i64 s, .int .i64 a]) 1).run Tryz.prog u = .ok (.int .i64 a) u := by
  simp [Instr.field, go_sem, Tryz.underlying49]
  rfl
set_option maxHeartbeats 4000000 in
set_option maxRecDepth 8000 in
theorem implSizeOf {lo : Nat} (a : Option Addr) (len cap : Nat) (xs : List Pl.Ty) (i : Int) (w : World) (hT : TRow lo w a len cap xs) (hE : Errs w) (hsm : ∀ i, i < len → ∀ j, j < (xs.getD i Pl.Ty.zero).names.length → ((xs.getD i Pl.Ty.zero).names.getD j ⟨#[]⟩).size ≤ 1048576) :
    Calls Tryz.prog 10 #[.slice a len cap, .int .i64 i] w fun e w' => e = .returned (.int .i64 (Pl.layP len xs i).1) ∧ Below w.heap.size w w' := by
  have hL := layoutIn_any a len cap xs i w hT hE hsm
  clear hT hE hsm
  generalize Pl.layP len xs i = pq at hL ⊢
  obtain ⟨s9, a9⟩ := pq
  simp only at hL ⊢
  have HL : Hid (Calls Tryz.prog 26 #[.slice a len cap, .int .i64 i] w fun e w' => e = .returned (.agg #[.int .i64 s9, .int .i64 a9]) ∧ Below w.heap.size w w') := hL
  clear hL
  have hfd := field0 s9 a9
  go_enter Tryz.func10, Tryz.ntmps10
  go_wp2_with fail
  refine Calls.mono HL.out ?_
  rintro e u1 ⟨rfl, d1⟩
  have D1 : Hid (Below w.heap.size w u1) := d1
  clear d1
  go_wp2_with fail
  go_ret
  exact ⟨rfl, D1.out⟩
set_option maxHeartbeats 4000000 in
set_option maxRecDepth 8000 in
theorem implAlignOf {lo : Nat} (a : Option Addr) (len cap : Nat) (xs : List Pl.Ty) (i : Int) (w : World) (hT : TRow lo w a len cap xs) (hE : Errs w) (hsm : ∀ i, i < len → ∀ j, j < (xs.getD i Pl.Ty.zero).names.length → ((xs.getD i Pl.Ty.zero).names.getD j ⟨#[]⟩).size ≤ 1048576) :
    Calls Tryz.prog 11 #[.slice a len cap, .int .i64 i] w fun e w' => e = .returned (.int .i64 (Pl.layP len xs i).2) ∧ Below w.heap.size w w' := by
  have hL := layoutIn_any a len cap xs i w hT hE hsm
  clear hT hE hsm
  generalize Pl.layP len xs i = pq at hL ⊢
  obtain ⟨s9, a9⟩ := pq
  simp only at hL ⊢
  have HL : Hid (Calls Tryz.prog 26 #[.slice a len cap, .int .i64 i] w fun e w' => e = .returned (.agg #[.int .i64 s9, .int .i64 a9]) ∧ Below w.heap.size w w') := hL
  clear hL
  have hfd := field1 s9 a9
  go_enter Tryz.func11, Tryz.ntmps11
  go_wp2_with fail
  refine Calls.mono HL.out ?_
  rintro e u1 ⟨rfl, d1⟩
  have D1 : Hid (Below w.heap.size w u1) := d1
  clear d1
  go_wp2_with fail
  go_ret
  exact ⟨rfl, D1.out⟩
end Go.Proofs.YtafcnijfoejboaaGreatDoor.W
