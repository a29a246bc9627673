import Derived.Test.YtfcfnbncgadomaaTrE
import Derived.Deep.RegionWith
set_option linter.unusedVariables false
set_option linter.unusedSimpArgs false
namespace Go.Proofs.Ytfcfnbncgadomaa.W
open Go.RowKit
theorem bne_t {α : Type} [BEq α] {a b : α} (h : (a == b) = true) : (a != b) = false := by simp [bne, h]
theorem bne_f {α : Type} [BEq α] {a b : α} (h : (a == b) = false) : (a != b) = true := by simp [bne, h]
set_option maxRecDepth 8000 in
set_option maxHeartbeats 4000000 in
theorem specSame_any {lo lo2 : Nat} (a a' : Option Addr) (len cap len' cap' : Nat) (xs ys : List Pl.Nd) (w : World) (h : NRow lo w a len cap xs) (h' : NRow lo2 w a' len' cap' ys) :
    Calls Try.prog 13 #[.agg #[.slice a len cap], .agg #[.slice a' len' cap']] w fun e w' => e = .returned (.bool (Pl.sameT xs ys)) ∧ Below w.heap.size w w' := by
  have hm : (len : Int) ≤ 9223372036854775807 := by have := h.2.1; have h3 := h.2.2.1; unfold maxLen at h3; omega
  have hm' : (len' : Int) ≤ 9223372036854775807 := by have := h'.2.1; have h3 := h'.2.2.1; unfold maxLen at h3; omega
  have HR : Hid (NRow lo w a len cap xs) := h
  have HR' : Hid (NRow lo2 w a' len' cap' ys) := h'
  clear h h'
  by_cases hne : len = len'
  rotate_left
  · have HP : Hid (Pl.sameT xs ys = false) := Pl.sameT_len (by rw [HR.out.1.1, HR'.out.1.1]; exact hne)
    have hne2 : ¬ (len : Int) = (len' : Int) := by omega
    go_enter Try.func13, Try.ntmps13
    go_wp2
    go_ret
    exact ⟨ret_bool HP.out.symm, (below_alloc _ _).alloc (by simp) _⟩
  subst hne
  go_enter Try.func13, Try.ntmps13
  go_wp2_with fail
  go_loopw [5] (fun i wr => ∃ k : Nat, k ≤ len ∧ i = .int .i64 k ∧ (∀ j, j < k → Pl.sameN (xs.getD j Pl.Nd.zero) (ys.getD j Pl.Nd.zero) = true) ∧ wr.cell? ⟨w.heap.size, 0, none⟩ = some (.slice a len cap) ∧ wr.cell? ⟨w.heap.size + 1, 0, none⟩ = some (.slice a' len cap') ∧ w.heap.size + 2 ≤ wr.heap.size ∧ Below w.heap.size w wr) (fun i _ => len - (intOf i).toNat)
  case atStart =>
    refine ⟨0, Nat.zero_le _, rfl, fun j hj => absurd hj (Nat.not_lt_zero _), ?_, ?_, by simp, (below_alloc _ _).alloc (by simp) _⟩
    · exact cell_of_row _ _ 0 _ 43 (0, 0) ((Below.heap_alloc _ _ _ (by simp)).trans (heap_alloc_new w _))
    · have := heap_alloc_new (w.alloc (.cells #[.slice a len cap] 43)) (.cells #[.slice a' len cap'] 43)
      have h2 : ((w.alloc (.cells #[.slice a len cap] 43)).alloc (.cells #[.slice a' len cap'] 43)).heap[w.heap.size + 1]? = some (.cells #[.slice a' len cap'] 43) := by simpa using this
      exact cell_of_row _ _ 0 _ 43 (0, 0) h2
  case round =>
    obtain ⟨k, hk, rfl, hall, p0, p1, hsz, hbel⟩ := hrel
    obtain ⟨wo, hwo⟩ : ∃ wo : World, wo = wr := ⟨_, rfl⟩
    subst hwo
    have HA : Hid (∀ j, j < k → Pl.sameN (xs.getD j Pl.Nd.zero) (ys.getD j Pl.Nd.zero) = true) := hall
    have HB : Hid (Below w.heap.size w wo) := hbel
    have P0 : Hid (wo.cell? ⟨w.heap.size, 0, none⟩ = some (.slice a len cap)) := p0
    have P1 : Hid (wo.cell? ⟨w.heap.size + 1, 0, none⟩ = some (.slice a' len cap')) := p1
    clear hall hbel
    by_cases hlt : k < len
    · have hi : (k : Int) < (len : Int) := by omega
      obtain ⟨b, off, v, rfl, hlo, hb1, hc, hrow, hs⟩ := (HR.out.keep HB.out).at hlt
      obtain ⟨b', off', v2, rfl, hlo', hb1', hc', hrow', hs'⟩ := (HR'.out.keep HB.out).at hlt
      obtain ⟨x, hx⟩ : ∃ x, x = xs.getD k Pl.Nd.zero := ⟨_, rfl⟩
      obtain ⟨y, hy⟩ : ∃ y, y = ys.getD k Pl.Nd.zero := ⟨_, rfl⟩
      rw [← hx] at hc hrow
      rw [← hy] at hc' hrow'
      obtain ⟨c0, c1, c2, c3, c4, c5, c6⟩ := nd_cells hc
      have hca : ∀ o j, j < 7 → (wo.alloc o).cell? ⟨b', off' + k * 7 + j, none⟩ = (y.cells v2)[j]? := fun o j hj => ((below_alloc wo o).cell (p := ⟨b', off' + k * 7 + j, none⟩) hb1').trans (hc' j hj)
      obtain ⟨g0, g1, g2, g3, g4, g5, g6⟩ := nd_cells (hca (.cells #[.int .i64 x.k, .int .i64 x.m, .int .i64 x.n, .string x.s, .slice v.a v.len v.cap, .int .i64 x.line, .int .i64 x.col] 69))
      have p1' : (wo.alloc (.cells #[.int .i64 x.k, .int .i64 x.m, .int .i64 x.n, .string x.s, .slice v.a v.len v.cap, .int .i64 x.line, .int .i64 x.col] 69)).cell? ⟨w.heap.size + 1, 0, none⟩ = some (.slice (some ⟨b', off', none⟩) len cap') := ((below_alloc wo _).cell (p := ⟨w.heap.size + 1, 0, none⟩) (by show w.heap.size + 1 < wo.heap.size; omega)).trans p1
      have HXY : Hid (x = xs.getD k Pl.Nd.zero ∧ y = ys.getD k Pl.Nd.zero) := ⟨hx, hy⟩
      have HW : Hid (Row .i64 lo wo v.a v.len v.cap x.kids) := hrow
      have HW' : Hid (Row .i64 lo2 wo v2.a v2.len v2.cap y.kids) := hrow'
      have B2 : Hid (∀ A B, Below w.heap.size w ((wo.alloc A).alloc B)) := fun A B => HB.out.trans (((below_alloc _ _).alloc (by simp) _).mono HB.out.size)
      have hv1 : (v.len : Int) ≤ 9223372036854775807 := by have := hrow.small; omega
      have hv2 : (v2.len : Int) ≤ 9223372036854775807 := by have := hrow'.small; omega
      have hf : Pl.sameN x y = false → Pl.sameT xs ys = false := fun q => Pl.sameT_bad (k := k) (by rw [HR.out.1.1]; exact hlt) (by rw [← hx, ← hy]; exact q)
      clear hc hc' hca hx hy hrow hrow' hs hs'
      cases e1 : x.k == y.k
      · have HP : Hid (Pl.sameT xs ys = false) := hf (by unfold Pl.sameN; rw [e1]; rfl)
        have e1' := bne_f e1
        clear hf
        go_wp2_with fail
        go_ret
        exact ⟨ret_bool HP.out.symm, B2.out _ _⟩
      cases e2 : x.m == y.m
      · have HP : Hid (Pl.sameT xs ys = false) := hf (by unfold Pl.sameN; rw [e1, e2]; rfl)
        have e1' := bne_t e1
        have e2' := bne_f e2
        clear hf
        go_wp2_with fail
        go_ret
        exact ⟨ret_bool HP.out.symm, B2.out _ _⟩
      cases e3 : x.n == y.n
      · have HP : Hid (Pl.sameT xs ys = false) := hf (by unfold Pl.sameN; rw [e1, e2, e3]; rfl)
        have e1' := bne_t e1
        have e2' := bne_t e2
        have e3' := bne_f e3
        clear hf
        go_wp2_with fail
        go_ret
        exact ⟨ret_bool HP.out.symm, B2.out _ _⟩
      cases e4 : x.s.toList == y.s.toList
      · have HP : Hid (Pl.sameT xs ys = false) := hf (by unfold Pl.sameN; rw [e1, e2, e3, e4]; rfl)
        have e1' := bne_t e1
        have e2' := bne_t e2
        have e3' := bne_t e3
        have e4' := bne_f e4
        clear hf
        go_wp2_with fail
        go_ret
        exact ⟨ret_bool HP.out.symm, B2.out _ _⟩
      have e1' := bne_t e1
      have e2' := bne_t e2
      have e3' := bne_t e3
      have e4' := bne_t e4
      have HN : Hid (Pl.sameN x y = (x.kids == y.kids)) := by unfold Pl.sameN; rw [e1, e2, e3, e4]; rfl
      have HF : Hid (Pl.sameN x y = false → Pl.sameT xs ys = false) := hf
      clear hf
      by_cases e5 : v.len = v2.len
      rotate_left
      · have HP : Hid (Pl.sameT xs ys = false) := HF.out (by rw [HN.out, beq_eq_false_iff_ne]; intro q; exact e5 (by rw [← HW.out.1, ← HW'.out.1, q]))
        have e5' : ¬ (v.len : Int) = (v2.len : Int) := by omega
        have e6' : ((v.len : Int) != (v2.len : Int)) = true := by simpa using e5'
        go_wp2_with fail
        go_ret
        exact ⟨ret_bool HP.out.symm, B2.out _ _⟩
      have e5' : ((v.len : Int) != (v2.len : Int)) = false := by rw [e5]; simp
      have E5 : Hid (v.len = v2.len) := e5
      clear e5
      go_wp2_with fail
      go_loopw [8] (fun i wr => ∃ q : Nat, q ≤ v.len ∧ i = .int .i64 q ∧ (∀ j, j < q → x.kids.getD j 0 = y.kids.getD j 0) ∧ wr.cell? ⟨wo.heap.size, 4, none⟩ = some (.slice v.a v.len v.cap) ∧ wr.cell? ⟨wo.heap.size + 1, 4, none⟩ = some (.slice v2.a v2.len v2.cap) ∧ Below wo.heap.size wo wr) (fun i _ => v.len - (intOf i).toNat)
      case atStart =>
        refine ⟨0, Nat.zero_le _, rfl, fun j hj => absurd hj (Nat.not_lt_zero _), ?_, ?_, (below_alloc _ _).alloc (by simp) _⟩
        · exact cell_of_row _ _ 4 _ 69 (0, 0) ((Below.heap_alloc _ _ _ (by simp)).trans (heap_alloc_new wo _))
        · have := heap_alloc_new (wo.alloc (.cells #[.int .i64 x.k, .int .i64 x.m, .int .i64 x.n, .string x.s, .slice v.a v.len v.cap, .int .i64 x.line, .int .i64 x.col] 69)) (.cells #[.int .i64 y.k, .int .i64 y.m, .int .i64 y.n, .string y.s, .slice v2.a v2.len v2.cap, .int .i64 y.line, .int .i64 y.col] 69)
          have h2 : ((wo.alloc (.cells #[.int .i64 x.k, .int .i64 x.m, .int .i64 x.n, .string x.s, .slice v.a v.len v.cap, .int .i64 x.line, .int .i64 x.col] 69)).alloc (.cells #[.int .i64 y.k, .int .i64 y.m, .int .i64 y.n, .string y.s, .slice v2.a v2.len v2.cap, .int .i64 y.line, .int .i64 y.col] 69)).heap[wo.heap.size + 1]? = some (.cells #[.int .i64 y.k, .int .i64 y.m, .int .i64 y.n, .string y.s, .slice v2.a v2.len v2.cap, .int .i64 y.line, .int .i64 y.col] 69) := by simpa using this
          exact cell_of_row _ _ 4 _ 69 (0, 0) h2
      case round =>
        obtain ⟨q, hq, rfl, hall, r0, r1, hbel⟩ := hrel
        have HK : Hid (∀ j, j < q → x.kids.getD j 0 = y.kids.getD j 0) := hall
        have HO : Hid (Below wo.heap.size wo wr) := hbel
        have R0 : Hid (wr.cell? ⟨wo.heap.size, 4, none⟩ = some (.slice v.a v.len v.cap)) := r0
        have R1 : Hid (wr.cell? ⟨wo.heap.size + 1, 4, none⟩ = some (.slice v2.a v2.len v2.cap)) := r1
        clear hall hbel p0 p1 p1' c0 c1 c2 c3 c4 c5 c6 g0 g1 g2 g3 g4 g5 g6 e1 e2 e3 e4 e1' e2' e3' e4' e5'
        by_cases hql : q < v.len
        · have hqi : (q : Int) < (v.len : Int) := by omega
          have hqi2 : (q : Int) < (v2.len : Int) := by have := E5.out; omega
          obtain ⟨_, _, _, _, h5⟩ := HW.out.keep HO.out
          obtain ⟨_, _, _, _, h6⟩ := HW'.out.keep HO.out
          obtain ⟨bk, ok, hak, _, _, hck⟩ := h5.resolve_left (by omega)
          obtain ⟨bl, ol, hal, _, _, hcl⟩ := h6.resolve_left (by omega)
          have z1 := hck q hql
          have z2 := hcl q (by omega)
          obtain ⟨X, hX⟩ : ∃ X, X = x.kids.getD q 0 := ⟨_, rfl⟩
          obtain ⟨Y, hY⟩ : ∃ Y, Y = y.kids.getD q 0 := ⟨_, rfl⟩
          rw [← hX] at z1
          rw [← hY] at z2
          rw [hak] at r0
          rw [hal] at r1
          have HXq : Hid (X = x.kids.getD q 0 ∧ Y = y.kids.getD q 0) := ⟨hX, hY⟩
          clear hX hY hck hcl hak hal
          by_cases hxy : X = Y
          · subst hxy
            go_wp2_with fail
            go_quiet (fail)
            go_wp2_with fail
            go_roundw
            case rel =>
              refine ⟨q + 1, by omega, by go_num, fun j hj => ?_, ?_, ?_, ?_⟩
              · by_cases hjq : j < q
                · exact HK.out j hjq
                · have : j = q := by omega
                  subst this; exact HXq.out.1.symm.trans HXq.out.2
              · exact R0.out
              · exact R1.out
              · repeat (first | with_reducible exact HO.out | refine below_drewN ?_ _)
            case measure => simp [intOf]; omega
          · go_wp2_with fail
            go_quiet (fail)
            go_wp2_with fail
            go_ret
            refine ⟨ret_bool (HF.out ?_).symm, ?_⟩
            · rw [HN.out, beq_eq_false_iff_ne]
              intro hc
              exact hxy (by rw [HXq.out.1, HXq.out.2, hc])
            · repeat (first | with_reducible exact HB.out.trans (HO.out.mono HB.out.size) | refine below_drewN ?_ _)
        · have hqe : q = v.len := by omega
          have hqi : ¬ ((q : Int) < (v.len : Int)) := by omega
          have P0' : wr.cell? ⟨w.heap.size, 0, none⟩ = _ := (HO.out.cell (p := ⟨w.heap.size, 0, none⟩) (by show w.heap.size < wo.heap.size; omega)).trans P0.out
          have P1' : wr.cell? ⟨w.heap.size + 1, 0, none⟩ = _ := (HO.out.cell (p := ⟨w.heap.size + 1, 0, none⟩) (by show w.heap.size + 1 < wo.heap.size; omega)).trans P1.out
          have HP0 : Hid (wr.cell? ⟨w.heap.size, 0, none⟩ = some (.slice (some ⟨b, off, none⟩) len cap)) := P0'
          have HP1 : Hid (wr.cell? ⟨w.heap.size + 1, 0, none⟩ = some (.slice (some ⟨b', off', none⟩) len cap')) := P1'
          go_wp2_with fail
          go_roundw
          case rel =>
            refine ⟨k + 1, by omega, by go_num, fun j hj => ?_, HP0.out, HP1.out, Nat.le_trans hsz HO.out.size, HB.out.trans (HO.out.mono HB.out.size)⟩
            by_cases e : j = k
            · rw [e, ← HXY.out.1, ← HXY.out.2, HN.out, beq_iff_eq]
              exact Pl.eq_of_getD (by rw [HW.out.1, HW'.out.1]; exact E5.out) (fun j hj => HK.out j (by rw [HW.out.1] at hj; omega))
            · exact HA.out j (by omega)
          case measure => simp [intOf]; omega
    · have hkk : k = len := by omega
      have hi : ¬ ((k : Int) < (len : Int)) := by omega
      go_wp2
      go_ret
      exact ⟨ret_bool (Pl.sameT_yes (by rw [HR.out.1.1, HR'.out.1.1]) (fun j hj => HA.out j (by rw [HR.out.1.1] at hj; omega))).symm, HB.out⟩
set_option maxHeartbeats 2000000 in
theorem eqNode_same {lo lo2 : Nat} (x : Pl.Nd) (v v2 : SV) (w : World) (h : Row .i64 lo w v.a v.len v.cap x.kids) (h2 : Row .i64 lo2 w v2.a v2.len v2.cap x.kids) :
    Calls Try.prog 66 #[.agg #[.int .i64 x.k, .int .i64 x.m, .int .i64 x.n, .string x.s, .slice v.a v.len v.cap, .int .i64 x.line, .int .i64 x.col], .agg #[.int .i64 x.k, .int .i64 x.m, .int .i64 x.n, .string x.s, .slice v2.a v2.len v2.cap, .int .i64 x.line, .int .i64 x.col]] w fun e w' => e = .returned (.bool true) ∧ Below w.heap.size w w' := by
  have HR : Hid (Row .i64 lo w v.a v.len v.cap x.kids) := h
  have HR2 : Hid (Row .i64 lo2 w v2.a v2.len v2.cap x.kids) := h2
  clear h h2
  go_enter Try.func66, Try.ntmps66
  go_wp2_with fail
  refine tr_at fun u0 hu0 => ?_
  have p0 : u0.heap[w.heap.size]? = some (.cells #[.int .i64 x.k, .int .i64 x.m, .int .i64 x.n, .string x.s, .slice v.a v.len v.cap, .int .i64 x.line, .int .i64 x.col] 69) := by
    rw [hu0, Below.heap_alloc _ _ _ (by simp)]
    exact heap_alloc_new w _
  have q0 : u0.heap[w.heap.size + 1]? = some (.cells #[.int .i64 x.k, .int .i64 x.m, .int .i64 x.n, .string x.s, .slice v2.a v2.len v2.cap, .int .i64 x.line, .int .i64 x.col] 69) := by
    rw [hu0]
    have := heap_alloc_new (w.alloc (.cells #[.int .i64 x.k, .int .i64 x.m, .int .i64 x.n, .string x.s, .slice v.a v.len v.cap, .int .i64 x.line, .int .i64 x.col] 69)) (.cells #[.int .i64 x.k, .int .i64 x.m, .int .i64 x.n, .string x.s, .slice v2.a v2.len v2.cap, .int .i64 x.line, .int .i64 x.col] 69)
    simpa using this
  have hb : Below w.heap.size w u0 := by
    rw [hu0]
    exact ((Below.refl _ _).alloc (Nat.le_refl _) _).alloc (by simp) _
  have hz : w.heap.size + 1 < u0.heap.size := by rw [hu0]; simp
  clear hu0
  refine (eqIntS_any _ _ _ _ _ _ _ _ u0 (HR.out.keep hb) (HR2.out.keep hb)).mono ?_
  rintro e u1 ⟨rfl, d1⟩
  rw [show (x.kids == x.kids) = true from beq_self_eq_true _]
  have P1 := (d1.block _ (by omega)).trans p0
  have Q1 := (d1.block _ (by omega)).trans q0
  have kb : ∀ j, u1.cell? ⟨w.heap.size, j, none⟩ = (#[.int .i64 x.k, .int .i64 x.m, .int .i64 x.n, .string x.s, .slice v.a v.len v.cap, .int .i64 x.line, .int .i64 x.col] : Array Value)[j]? := fun j => cell_of_row u1 w.heap.size j _ 69 (0, 0) P1
  have kc : ∀ j, u1.cell? ⟨w.heap.size + 1, j, none⟩ = (#[.int .i64 x.k, .int .i64 x.m, .int .i64 x.n, .string x.s, .slice v2.a v2.len v2.cap, .int .i64 x.line, .int .i64 x.col] : Array Value)[j]? := fun j => cell_of_row u1 (w.heap.size + 1) j _ 69 (0, 0) Q1
  have B1 : Hid (Below w.heap.size w u1) := hb.trans (d1.mono (by omega))
  clear d1 p0 q0 hb hz P1 Q1
  go_wp2
  go_ret
  exact ⟨rfl, B1.out⟩
set_option maxRecDepth 4000 in
set_option maxHeartbeats 4000000 in
theorem eqNodeS_same {lo lo2 : Nat} (a a' : Option Addr) (len cap cap' : Nat) (xs : List Pl.Nd) (w : World) (h : NRow lo w a len cap xs) (h' : NRow lo2 w a' len cap' xs) : Calls Try.prog 43 #[.slice a len cap, .slice a' len cap'] w fun e w' => e = .returned (.bool true) ∧ Below w.heap.size w w' := by
  have hm : (len : Int) ≤ 9223372036854775807 := by have := h.2.1; have h3 := h.2.2.1; unfold maxLen at h3; omega
  have HR : Hid (NRow lo w a len cap xs) := h
  have HR' : Hid (NRow lo2 w a' len cap' xs) := h'
  clear h h'
  go_enter Try.func43, Try.ntmps43
  go_wp2_with fail
  go_loopw [5] (fun i wr => ∃ k : Nat, k ≤ len ∧ i = .int .i64 k ∧ Below w.heap.size w wr) (fun i _ => len - (intOf i).toNat)
  case atStart => exact ⟨0, Nat.zero_le _, rfl, Below.refl _ _⟩
  case round =>
    obtain ⟨k, hk, rfl, hbel⟩ := hrel
    have HB : Hid (Below w.heap.size w wr) := hbel
    clear hbel
    by_cases hlt : k < len
    · have hi : (k : Int) < (len : Int) := by omega
      obtain ⟨b, off, v, rfl, hlo, hb1, hc, hrow, hs⟩ := (HR.out.keep HB.out).at hlt
      obtain ⟨b', off', v2, rfl, hlo', hb1', hc', hrow', hs'⟩ := (HR'.out.keep HB.out).at hlt
      obtain ⟨x, hx⟩ : ∃ x, x = xs.getD k Pl.Nd.zero := ⟨_, rfl⟩
      rw [← hx] at hc hrow hc' hrow'
      obtain ⟨c0, c1, c2, c3, c4, c5, c6⟩ := nd_cells hc
      obtain ⟨g0, g1, g2, g3, g4, g5, g6⟩ := nd_cells hc'
      have HE : Hid (∀ u : World, Below wr.heap.size wr u → Calls Try.prog 66 #[.agg #[.int .i64 x.k, .int .i64 x.m, .int .i64 x.n, .string x.s, .slice v.a v.len v.cap, .int .i64 x.line, .int .i64 x.col], .agg #[.int .i64 x.k, .int .i64 x.m, .int .i64 x.n, .string x.s, .slice v2.a v2.len v2.cap, .int .i64 x.line, .int .i64 x.col]] u fun e w' => e = .returned (.bool true) ∧ Below u.heap.size u w') := fun u hu => eqNode_same x v v2 u (hrow.keep hu) (hrow'.keep hu)
      clear hc hc' hx hrow hrow' hs hs'
      have hU := Try.underlying69
      go_wp2_with fail
      go_region_with (go_at_call 66; refine (HE.out _ (by repeat (first | with_reducible exact Below.refl _ _ | refine Below.drew ?_ | refine below_drewN ?_ _))).mono ?_; rintro e u1 ⟨rfl, d1⟩)
      all_goals
        have D1 : Hid _ := d1
        clear d1 c0 c1 c2 c3 c4 c5 c6 g0 g1 g2 g3 g4 g5 g6
        go_wp2_with fail
        go_roundw
        case rel => exact ⟨k + 1, by omega, by go_num, Below.trans (by repeat (first | with_reducible exact HB.out | refine Below.drew ?_ | refine below_drewN ?_ _)) (D1.out.mono HB.out.size)⟩
        case measure => simp [intOf]; omega
    · have hkk : k = len := by omega
      have hi : ¬ ((k : Int) < (len : Int)) := by omega
      go_wp2
      go_ret
      exact ⟨rfl, HB.out⟩
theorem eqTree_same {lo lo2 : Nat} (a a' : Option Addr) (len cap cap' : Nat) (xs : List Pl.Nd) (w : World) (h : NRow lo w a len cap xs) (h' : NRow lo2 w a' len cap' xs) : Calls Try.prog 16 #[.agg #[.slice a len cap], .agg #[.slice a' len cap']] w fun e w' => e = .returned (.bool true) ∧ Below w.heap.size w w' := by
  have HR : Hid (NRow lo w a len cap xs) := h
  have HR' : Hid (NRow lo2 w a' len cap' xs) := h'
  have B2 : Hid (∀ A B, Below w.heap.size w ((w.alloc A).alloc B)) := fun A B => (below_alloc _ _).alloc (by simp) _
  clear h h'
  go_enter Try.func16, Try.ntmps16
  go_wp2_with (go_at_call 43; refine (eqNodeS_same _ _ _ _ _ xs _ (HR.out.keep (B2.out _ _)) (HR'.out.keep (B2.out _ _))).mono ?_; rintro e u1 ⟨rfl, d1⟩)
  go_ret
  exact ⟨rfl, (B2.out _ _).trans (d1.mono (B2.out _ _).size)⟩
end Go.Proofs.Ytfcfnbncgadomaa.W
