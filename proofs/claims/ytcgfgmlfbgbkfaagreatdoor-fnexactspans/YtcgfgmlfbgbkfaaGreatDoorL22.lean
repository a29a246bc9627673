import Derived.Test.YtcgfgmlfbgbkfaaGreatDoorL19
import Derived.Test.YtcgfgmlfbgbkfaaGreatDoorL21
import Derived.Test.YtcgfgmlfbgbkfaaGreatDoorL18
import Derived.Test.YtcgfgmlfbgbkfaaGreatDoorL09
set_option linter.unusedVariables false
set_option linter.unusedSimpArgs false
namespace Go.Proofs.YtcgfgmlfbgbkfaaGreatDoor.Pl
open Classical in
noncomputable def liveL (f : IrF) (R i : Nat) : List Int := ((List.range R).filter fun r : Nat => decide (Live f.code (r : Int) i)).map fun r : Nat => (r : Int)
theorem liveL_mkd {f : IrF} {R i : Nat} {m : Nat → Bool} (h : ∀ r, r < R → (m r = true ↔ Live f.code (r : Int) i)) : mkd ((List.range R).map m) R = liveL f R i := by
  unfold mkd liveL
  congr 1
  apply List.filter_congr
  intro r hr
  have hr := List.mem_range.1 hr
  rw [List.getD_eq_getElem?_getD, List.getElem?_map, List.getElem?_range hr]
  have := h r hr
  show m r = _
  rw [Bool.eq_iff_iff, this]; simp
end Go.Proofs.YtcgfgmlfbgbkfaaGreatDoor.Pl
namespace Go.Proofs.YtcgfgmlfbgbkfaaGreatDoor.W
open Go.RowKit
structure Rws (lo : Nat) (w : World) (o : Value) (k : Nat) (A : Nat → Option Addr) (C : Nat → Nat) (NS : Nat → List Int) : Prop where
  oo : w.ownsRow lo 22 1 o k (listsV k A C NS)
  nr : ∀ i, i < k → w.ownsRow lo 3 1 (.slice (A i) (NS i).length (C i)) (NS i).length ((NS i).map (Value.int .i64))
  dO : ∀ i, i < k → ∀ g, (Value.slice (A i) (NS i).length (C i)).ownBlock = some g → o.ownBlock ≠ some g
  dA : ∀ i j, i < k → j < k → ∀ g, (Value.slice (A i) (NS i).length (C i)).ownBlock = some g → (Value.slice (A j) (NS j).length (C j)).ownBlock = some g → i = j
section
variable {lo : Nat} {w w1 w2 y : World} {o : Value} {k : Nat} {A : Nat → Option Addr} {C : Nat → Nat} {NS : Nat → List Int}
theorem Rws.later (h : Rws lo w o k A C NS) (hb : Below w.heap.size w w1) : Rws lo w1 o k A C NS := by
  have q : ∀ {e : TypeId} {kk : Nat} {u : Value} {nn : Nat} {xs : List Value}, w.ownsRow lo e kk u nn xs → w1.ownsRow lo e kk u nn xs := fun h => own_eqL h fun g hg => hb.block g (h.lt g hg).2
  exact ⟨q h.oo, fun i hi => q (h.nr i hi), h.dO, h.dA⟩
theorem Rws.add {go co : Nat} (h : Rws lo w (.slice (some ⟨go, 0, none⟩) k co) k A C NS) (b1 : Below w.heap.size w w1) {a : Option Addr} {c : Nat} {ns : List Int} (hlo : lo ≤ w.heap.size) (hrow : w1.ownsRow w.heap.size 3 1 (.slice a ns.length c) ns.length (ns.map (Value.int .i64))) (b2 : Below w1.heap.size w1 w2) {g' c' : Nat} (hown : y.ownsRow lo 22 1 (.slice (some ⟨g', 0, none⟩) (k + 1) c') (k + 1) (listsV k A C NS ++ [.slice a ns.length c])) (hgr : w2.grownBy y (some go)) (hli : go = g' ∨ g' = w2.heap.size) : Rws lo y (.slice (some ⟨g', 0, none⟩) (k + 1) c') (k + 1) (upd A k a) (upd C k c) (upd NS k ns) := by
  have h2 := (h.later b1).later b2
  have hrow1 : w2.ownsRow w.heap.size 3 1 (.slice a ns.length c) ns.length (ns.map (Value.int .i64)) := own_eqL hrow fun g hg => b2.block g (hrow.lt g hg).2
  have hgo : lo ≤ go ∧ go < w.heap.size := h.oo.lt go rfl
  have hrow2 : w2.ownsRow lo 3 1 (.slice a ns.length c) ns.length (ns.map (Value.int .i64)) := own_lowL hrow1 hlo
  have hw2 : w.heap.size ≤ w2.heap.size := Nat.le_trans b1.size b2.size
  have q : ∀ {e : TypeId} {kk : Nat} {u : Value} {nn : Nat} {xs : List Value}, w2.ownsRow lo e kk u nn xs → (∀ g, u.ownBlock = some g → g ≠ go) → y.ownsRow lo e kk u nn xs := fun h hn => own_eqL h fun g hg => hgr.block g (h.lt g hg).2 (fun c => hn g hg (by simpa using c))
  have hA : ∀ j, j < k → ∀ g, (Value.slice (A j) (NS j).length (C j)).ownBlock = some g → g < w.heap.size ∧ g ≠ go := fun j hj g hg => ⟨((h.nr j hj).lt g hg).2, fun e => h.dO j hj g hg (by rw [e]; rfl)⟩
  have hnew : ∀ g, (Value.slice a ns.length c).ownBlock = some g → w.heap.size ≤ g ∧ g < w2.heap.size := fun g hg => hrow1.lt g hg
  refine ⟨by rw [listsV_succ]; exact hown, fun j hj => ?_, fun j hj g hg => ?_, fun i j hi hj g hg hg2 => ?_⟩
  · by_cases e : j = k
    · subst e; rw [upd_at, upd_at, upd_at]; exact q hrow2 (fun g hg => by have := hnew g hg; omega)
    · rw [upd_ne e, upd_ne e, upd_ne e]; exact q (h2.nr j (by omega)) (fun g hg => (hA j (by omega) g hg).2)
  · show some g' ≠ some g
    by_cases e : j = k
    · subst e; rw [upd_at, upd_at, upd_at] at hg; have := hnew g hg; intro c; injection c with c; rcases hli with q | q <;> omega
    · rw [upd_ne e, upd_ne e, upd_ne e] at hg; have := hA j (by omega) g hg; intro c; injection c with c; rcases hli with q | q <;> omega
  · by_cases e1 : i = k
    · by_cases e2 : j = k
      · omega
      · subst e1; rw [upd_at, upd_at, upd_at] at hg; rw [upd_ne e2, upd_ne e2, upd_ne e2] at hg2; have := hnew g hg; have := hA j (by omega) g hg2; omega
    · by_cases e2 : j = k
      · subst e2; rw [upd_at, upd_at, upd_at] at hg2; rw [upd_ne e1, upd_ne e1, upd_ne e1] at hg; have := hnew g hg2; have := hA i (by omega) g hg; omega
      · rw [upd_ne e1, upd_ne e1, upd_ne e1] at hg; rw [upd_ne e2, upd_ne e2, upd_ne e2] at hg2; exact h.dA i j (by omega) (by omega) g hg hg2
end
def LbSaid (w : World) (f : Pl.IrF) (R : Nat) (e : Ending) (w' : World) : Prop := ∃ (go co n : Nat) (A : Nat → Option Addr) (C : Nat → Nat) (NS : Nat → List Int), e = .returned (.slice (some ⟨go, 0, none⟩) n co) ∧ Rws w.heap.size w' (.slice (some ⟨go, 0, none⟩) n co) n A C NS ∧ ((¬ Pl.funOk f ∧ n = 0) ∨ (Pl.funOk f ∧ n = f.code.length ∧ ∀ i, i < n → NS i = Pl.liveL f R i)) ∧ Below w.heap.size w w'
theorem rws_new (u : World) (lo b : Nat) (hlo : lo ≤ u.heap.size) (hb : b = u.heap.size) : Rws lo (u.alloc (.cells #[] 22)) (.slice (some ⟨b, 0, none⟩) 0 0) 0 (fun _ => none) (fun _ => 0) (fun _ => []) := by
  subst hb
  exact ⟨World.ownsRow_lit u #[] 0 hlo (Nat.zero_le _) rfl, fun i hi => absurd hi (Nat.not_lt_zero _), fun i hi => absurd hi (Nat.not_lt_zero _), fun i j hi => absurd hi (Nat.not_lt_zero _)⟩
set_option maxHeartbeats 8000000 in
set_option maxRecDepth 100000 in
theorem specLb_no {lo : Nat} (f : Pl.IrF) (v s : SV) (R : Nat) (w : World) (h : FIs lo w v s f) (hf : ¬ Pl.funOk f) : Calls Tryz.prog 7 #[.agg #[.string f.name, .int .i64 f.params, .int .i64 f.regs, .slice v.a v.len v.cap, .slice s.a s.len s.cap]] w fun e w' => LbSaid w f R e w' := by
  have HFO : Hid (∀ u, Below w.heap.size w u → Calls Tryz.prog 27 #[.agg #[.string f.name, .int .i64 f.params, .int .i64 f.regs, .slice v.a v.len v.cap, .slice s.a s.len s.cap]] u fun e u' => e = .returned (.bool false) ∧ Below u.heap.size u u') := fun u hu => (l10FunOk_any f v s u (h.keep hu)).mono fun e u' q => by
    obtain ⟨⟨b, rfl, hb⟩, d⟩ := q
    cases b with
    | false => exact ⟨rfl, d⟩
    | true => exact absurd (hb.1 rfl) hf
  have HN : Hid (¬ Pl.funOk f) := hf
  clear h hf
  go_enter Tryz.func7, Tryz.ntmps7
  go_wp2_with fail
  refine ty_at fun u0 hu0 => ?_
  have H0 : Hid (Below w.heap.size w u0 ∧ Rws w.heap.size u0 (.slice (some ⟨w.heap.size + 1, 0, none⟩) 0 0) 0 (fun _ => none) (fun _ => 0) (fun _ => [])) := by
    rw [hu0]
    exact ⟨(below_alloc w _).trans ((below_alloc _ _).mono (by simp)), rws_new _ _ _ (by simp) (by simp)⟩
  clear hu0
  refine (HFO.out u0 H0.out.1).mono ?_
  rintro e u1 ⟨rfl, d1⟩
  have H1 : Hid (Below w.heap.size w u1 ∧ Rws w.heap.size u1 (.slice (some ⟨w.heap.size + 1, 0, none⟩) 0 0) 0 (fun _ => none) (fun _ => 0) (fun _ => [])) := ⟨H0.out.1.trans (d1.mono H0.out.1.size), H0.out.2.later d1⟩
  clear d1 H0 HFO
  go_wp2_with fail
  go_ret
  exact ⟨_, _, 0, _, _, _, rfl, H1.out.2, .inl ⟨HN.out, rfl⟩, H1.out.1⟩
set_option maxHeartbeats 8000000 in
set_option maxRecDepth 100000 in
theorem specLb_yes {lo : Nat} (f : Pl.IrF) (v s : SV) (R : Nat) (w : World) (h : FIs lo w v s f) (hf : Pl.funOk f) (hR : f.regs = R) : Calls Tryz.prog 7 #[.agg #[.string f.name, .int .i64 f.params, .int .i64 f.regs, .slice v.a v.len v.cap, .slice s.a s.len s.cap]] w fun e w' => LbSaid w f R e w' := by
  have HFO : Hid (∀ u, Below w.heap.size w u → Calls Tryz.prog 27 #[.agg #[.string f.name, .int .i64 f.params, .int .i64 f.regs, .slice v.a v.len v.cap, .slice s.a s.len s.cap]] u fun e u' => e = .returned (.bool true) ∧ Below u.heap.size u u') := fun u hu => (l10FunOk_any f v s u (h.keep hu)).mono fun e u' q => by
    obtain ⟨⟨b, rfl, hb⟩, d⟩ := q
    cases b with
    | false => exact absurd (hb.2 hf) (by decide)
    | true => exact ⟨rfl, d⟩
  have HLV : Hid (∀ u, Below w.heap.size w u → Calls Tryz.prog 28 #[.agg #[.string f.name, .int .i64 f.params, .int .i64 f.regs, .slice v.a v.len v.cap, .slice s.a s.len s.cap]] u fun e u' => LiveM u f R e u') := fun u hu => l11Live_any f v s R u (h.keep hu) hf hR
  have HF : Hid (Pl.funOk f) := hf
  have hR2 : R ≤ 2000 := by have := hf.1.2.1.2; omega
  have hn8 : f.code.length ≤ 8000 := hf.1.2.2.2.1.2
  obtain ⟨l0, hl0, hy0, hy1, hy2⟩ := info_parts Tryz.infointsL
  have HI : Hid (_ ∧ _ ∧ _ ∧ _) := ⟨hl0, hy0, hy1, hy2⟩
  clear hl0 hy0 hy1 hy2 h hf hR
  go_enter Tryz.func7, Tryz.ntmps7
  go_wp2_with fail
  refine ty_at fun u0 hu0 => ?_
  have H0 : Hid (Below w.heap.size w u0 ∧ u0.heap[w.heap.size]? = some (.cells #[.string f.name, .int .i64 f.params, .int .i64 f.regs, .slice v.a v.len v.cap, .slice s.a s.len s.cap] 31) ∧ Rws w.heap.size u0 (.slice (some ⟨w.heap.size + 1, 0, none⟩) 0 0) 0 (fun _ => none) (fun _ => 0) (fun _ => [])) := by
    have x1 := heap_alloc_new w (.cells #[.string f.name, .int .i64 f.params, .int .i64 f.regs, .slice v.a v.len v.cap, .slice s.a s.len s.cap] 31)
    rw [hu0]
    exact ⟨(below_alloc w _).trans ((below_alloc _ _).mono (by simp)), ((below_alloc _ _).block _ (by simp)).trans x1, rws_new _ _ _ (by simp) (by simp)⟩
  clear hu0
  refine (HFO.out u0 H0.out.1).mono ?_
  rintro e u1 ⟨rfl, d1⟩
  have H1 : Hid (Below w.heap.size w u1 ∧ u1.heap[w.heap.size]? = some (.cells #[.string f.name, .int .i64 f.params, .int .i64 f.regs, .slice v.a v.len v.cap, .slice s.a s.len s.cap] 31) ∧ Rws w.heap.size u1 (.slice (some ⟨w.heap.size + 1, 0, none⟩) 0 0) 0 (fun _ => none) (fun _ => 0) (fun _ => []) ∧ w.heap.size + 1 < u1.heap.size) := ⟨H0.out.1.trans (d1.mono H0.out.1.size), (d1.block _ (Array.getElem?_eq_some_iff.1 H0.out.2.1).1).trans H0.out.2.1, H0.out.2.2.later d1, by have := (H0.out.2.2.oo.lt (w.heap.size + 1) rfl).2; have := d1.size; omega⟩
  clear d1 H0 HFO
  have u1x0 : u1.cell? ⟨w.heap.size, 0, none⟩ = some (.string f.name) := by rw [cell_of_row u1 _ 0 _ _ (0, 0) H1.out.2.1]; rfl
  have u1x1 : u1.cell? ⟨w.heap.size, 1, none⟩ = some (.int .i64 f.params) := by rw [cell_of_row u1 _ 1 _ _ (0, 0) H1.out.2.1]; rfl
  have u1x2 : u1.cell? ⟨w.heap.size, 2, none⟩ = some (.int .i64 f.regs) := by rw [cell_of_row u1 _ 2 _ _ (0, 0) H1.out.2.1]; rfl
  have u1x3 : u1.cell? ⟨w.heap.size, 3, none⟩ = some (.slice v.a v.len v.cap) := by rw [cell_of_row u1 _ 3 _ _ (0, 0) H1.out.2.1]; rfl
  have u1x4 : u1.cell? ⟨w.heap.size, 4, none⟩ = some (.slice s.a s.len s.cap) := by rw [cell_of_row u1 _ 4 _ _ (0, 0) H1.out.2.1]; rfl
  go_wp2_with fail
  refine (HLV.out u1 H1.out.1).mono ?_
  rintro e u2 ⟨go, co, G, m, rfl, oo, rr, hm, d2⟩
  obtain ⟨n, hn⟩ : ∃ n, n = f.code.length := ⟨_, rfl⟩
  rw [← hn] at oo rr hm hn8 ⊢
  have H2 : Hid (Rws w.heap.size u2 (.slice (some ⟨w.heap.size + 1, 0, none⟩) 0 0) 0 (fun _ => none) (fun _ => 0) (fun _ => []) ∧ u2.ownsRow (u1.heap.size + 1) 52 1 (.slice (some ⟨go, 0, none⟩) n co) n (rowsV n R G) ∧ (∀ i, i < n → u2.ownsRow (u1.heap.size + 1) 4 1 (.slice (some ⟨G i, 0, none⟩) R R) R (mkV R (m i))) ∧ Below w.heap.size w u2) := ⟨H1.out.2.2.1.later d2, oo, rr, H1.out.1.trans (d2.mono H1.out.1.size)⟩
  have HM : Hid (n = f.code.length ∧ ∀ i r, i < n → r < R → (m i r = true ↔ Pl.Live f.code (r : Int) i)) := ⟨hn, hm⟩
  clear oo rr hm d2 hn u1x0 u1x1 u1x2 u1x3 u1x4 HLV
  have HZ : Hid (w.heap.size + 1 < u1.heap.size) := H1.out.2.2.2
  obtain ⟨z1, hz1⟩ : ∃ z1, z1 = u1.heap.size + 1 := ⟨_, rfl⟩
  rw [← hz1] at H2
  have HZ1 : Hid (w.heap.size + 2 < z1) := by have := HZ.out; show _ < _; omega
  clear hz1 HZ H1
  go_wp2_with fail
  go_loopw [3, 5] (fun o t wr => ∃ k : Nat, k ≤ n ∧ t = .int .i64 (k : Int) ∧ ∃ gq cq, o = .slice (some ⟨gq, 0, none⟩) k cq ∧ Hid (∃ A C NS, Rws w.heap.size wr (.slice (some ⟨gq, 0, none⟩) k cq) k A C NS ∧ (∀ i, i < k → NS i = Pl.liveL f R i) ∧ wr.ownsRow z1 52 1 (.slice (some ⟨go, 0, none⟩) n co) n (rowsV n R G) ∧ (∀ i, i < n → wr.ownsRow z1 4 1 (.slice (some ⟨G i, 0, none⟩) R R) R (mkV R (m i))) ∧ Below w.heap.size w wr ∧ gq ≠ go ∧ ∀ i, i < n → gq ≠ G i)) (fun _ t _ => n - (intOf t).toNat)
  case atStart =>
    refine ⟨0, Nat.zero_le _, rfl, _, _, rfl, _, _, _, H2.out.1, fun i hi => absurd hi (Nat.not_lt_zero _), H2.out.2.1, H2.out.2.2.1, H2.out.2.2.2, ?_, fun i hi => ?_⟩
    · have := (H2.out.2.1.lt go rfl).1; have := HZ1.out; omega
    · have := ((H2.out.2.2.1 i hi).lt (G i) rfl).1; have := HZ1.out; omega
  case round =>
    obtain ⟨k, hk, rfl, gq, cq, rfl, S⟩ := hrel
    obtain ⟨A, C, NS, W, U, oo, rr, bw, s1, s2⟩ := S.out
    have H3 : Hid (Rws w.heap.size wr (.slice (some ⟨gq, 0, none⟩) k cq) k A C NS ∧ (∀ i, i < k → NS i = Pl.liveL f R i) ∧ wr.ownsRow z1 52 1 (.slice (some ⟨go, 0, none⟩) n co) n (rowsV n R G) ∧ (∀ i, i < n → wr.ownsRow z1 4 1 (.slice (some ⟨G i, 0, none⟩) R R) R (mkV R (m i))) ∧ Below w.heap.size w wr ∧ gq ≠ go ∧ ∀ i, i < n → gq ≠ G i) := ⟨W, U, oo, rr, bw, s1, s2⟩
    clear S W U bw s1 s2
    by_cases hlt : k < n
    rotate_left
    · have hki : ¬ ((k : Int) < (n : Int)) := by omega
      have hkn : k = n := by omega
      have HE : Hid (LbSaid w f R (.returned (.slice (some ⟨gq, 0, none⟩) k cq)) wr) := ⟨gq, cq, k, A, C, NS, rfl, H3.out.1, .inr ⟨HF.out, hkn.trans HM.out.1, H3.out.2.1⟩, H3.out.2.2.2.2.1⟩
      clear oo rr hkn
      go_wp2_with fail
      go_ret
      exact HE.out
    have hki : (k : Int) < (n : Int) := by omega
    have z1 : wr.cell? ⟨go, k, none⟩ = some (.slice (some ⟨G k, 0, none⟩) R R) := by
      rw [oo.cellAt k (by omega)]; unfold rowsV; rw [List.getElem?_map, List.getElem?_range (by omega)]; rfl
    have hGk := ((rr k hlt).lt (G k) rfl).2
    have hms : ∀ r, r < ((List.range R).map (m k)).length → wr.cell? ⟨G k, r, none⟩ = some (.bool (((List.range R).map (m k)).getD r false)) := fun r hr => by
      have hr2 : r < R := by simpa using hr
      rw [(rr k hlt).cellAt r (by omega)]
      unfold mkV
      rw [List.getElem?_map, List.getElem?_range hr2, List.getD_eq_getElem?_getD, List.getElem?_map, List.getElem?_range hr2]; rfl
    have HMK : Hid (Calls Tryz.prog 29 #[.slice (some ⟨G k, 0, none⟩) R R] wr fun e w' => Ints wr.heap.size (Pl.liveL f R k) e w' ∧ Below wr.heap.size wr w') := by
      have := l11Marked_any (G k) ((List.range R).map (m k)) wr hGk hms (by simp; omega)
      rw [show ((List.range R).map (m k)).length = R by simp] at this
      rw [Pl.liveL_mkd (fun r hr => HM.out.2 k r hlt hr)] at this
      exact this
    obtain ⟨ns, hns⟩ : ∃ ns, ns = Pl.liveL f R k := ⟨_, rfl⟩
    have HNS : Hid (ns = Pl.liveL f R k) := hns
    rw [← hns] at HMK
    have hwz := H3.out.2.2.2.2.1.size
    clear oo rr hGk hms hns
    go_wp2_with (first
      | (go_at_call 29
         refine (HMK.out).mono ?_
         rintro e u3 ⟨⟨a3, c3, rfl, ow3⟩, d3⟩
         have H4 : Hid (Below wr.heap.size wr u3 ∧ u3.ownsRow wr.heap.size 3 1 (.slice a3 ns.length c3) ns.length (ns.map (Value.int .i64))) := ⟨d3, ow3⟩
         have hu3 : w.heap.size ≤ u3.heap.size := Nat.le_trans hwz d3.size
         clear ow3 d3)
      | (at_builtin
         refine wpList_append_lies _ rfl (.tmp 19) (.tmp 25) 27 rfl w.heap.size 22 l0 (.slice none 0 0) 1 24 Tryz.underlying27 HI.out.1 HI.out.2.1 HI.out.2.2.1 HI.out.2.2.2 rfl (by decide) (.slice (some ⟨gq, 0, none⟩) k cq) k (listsV k A C NS) rfl (World.ownsRow.alloc (H3.out.1.later H4.out.1).oo _) ⟨u3.heap.size, 0, none⟩ 1 1 [.slice a3 ns.length c3] rfl rfl (one_newsM _ _ _ _ (by simp)) (by intro u hu; simp at hu; subst hu; rfl) (by decide) (by unfold maxLen; omega) (by omega) (by simp; omega) (u3.heap.size + 1) (by simp) ?_
         intro g4 c4 y4 hown hgr hli hlt2
         have H5 : Hid (y4.ownsRow w.heap.size 22 1 (.slice (some ⟨g4, 0, none⟩) (k + 1) c4) (k + 1) (listsV k A C NS ++ [.slice a3 ns.length c3]) ∧ (u3.alloc (.cells #[.slice a3 ns.length c3] 22)).grownBy y4 (some gq) ∧ (some gq = some g4 ∨ g4 = u3.heap.size + 1)) := ⟨hown, hgr, hli⟩
         clear hown hgr hli hlt2))
    have hli : gq = g4 ∨ g4 = u3.heap.size + 1 := by rcases H5.out.2.2 with e | e; exact .inl (by simpa using e); exact .inr e
    have hu4 : (u3.alloc (.cells #[.slice a3 ns.length c3] 22)).heap.size = u3.heap.size + 1 := by simp
    have hu3w := H4.out.1.size
    have hkeep : ∀ g, g < wr.heap.size → g ≠ gq → y4.heap[g]? = wr.heap[g]? := fun g hg hne => by
      rw [H5.out.2.1.block g (by omega) (by simp; exact hne), (below_alloc u3 _).block g (by omega), H4.out.1.block g hg]
    have hGl : ∀ i, i < n → G i < wr.heap.size := fun i hi => ((H3.out.2.2.2.1 i hi).lt (G i) rfl).2
    have hgol := (H3.out.2.2.1.lt go rfl).2
    refine ⟨⟨k + 1, by omega, by go_num, g4, c4, rfl, upd A k a3, upd C k c3, upd NS k ns, ?_, fun i hi => ?_, ?_, fun i hi => ?_, ?_, ?_, fun i hi => ?_⟩, by simp [intOf]; omega⟩
    · exact H3.out.1.add H4.out.1 hwz H4.out.2 (below_alloc u3 _) H5.out.1 H5.out.2.1 (by rw [hu4]; exact hli)
    · by_cases e : i = k
      · subst e; rw [upd_at]; exact HNS.out
      · rw [upd_ne e]; exact H3.out.2.1 i (by omega)
    · refine own_eqL H3.out.2.2.1 fun g hg => ?_
      simp only [Value.ownBlock, Option.some.injEq] at hg
      subst hg
      exact hkeep _ hgol (fun e => H3.out.2.2.2.2.2.1 e.symm)
    · refine own_eqL (H3.out.2.2.2.1 i hi) fun g hg => ?_
      simp only [Value.ownBlock, Option.some.injEq] at hg
      subst hg
      exact hkeep _ (hGl i hi) (fun e => H3.out.2.2.2.2.2.2 i hi e.symm)
    · refine ((H3.out.2.2.2.2.1.trans (H4.out.1.mono hwz)).trans ((below_alloc u3 _).mono hu3)).grown H5.out.2.1 (by omega) (fun q hq => ?_)
      simp only [Option.some.injEq] at hq
      subst hq
      exact (H3.out.1.oo.lt _ rfl).1
    · rcases hli with e | e
      · rw [← e]; exact H3.out.2.2.2.2.2.1
      · omega
    · have := hGl i hi
      rcases hli with e | e
      · rw [← e]; exact H3.out.2.2.2.2.2.2 i hi
      · omega
theorem specLb_is {lo : Nat} (f : Pl.IrF) (v s : SV) (R : Nat) (w : World) (h : FIs lo w v s f) (hR : f.regs = R ∨ ¬ Pl.funOk f) : Calls Tryz.prog 7 #[.agg #[.string f.name, .int .i64 f.params, .int .i64 f.regs, .slice v.a v.len v.cap, .slice s.a s.len s.cap]] w fun e w' => LbSaid w f R e w' := by
  by_cases hf : Pl.funOk f
  · exact specLb_yes f v s R w h hf (hR.resolve_right (fun c => c hf))
  · exact specLb_no f v s R w h hf
end Go.Proofs.YtcgfgmlfbgbkfaaGreatDoor.W
namespace Go.Proofs.YtcgfgmlfbgbkfaaGreatDoor.W
open Go.RowKit
theorem natV_live {f : Pl.IrF} {R j : Nat} {ws : List Nat} (hl : ws.length = (R + 63) / 64) (h : ∀ q : Nat, Pl.inW ws q = true ↔ q < R ∧ Pl.Live f.code (q : Int) j) : natV (Pl.allW ws) = (Pl.liveL f R j).map (Value.int .i64) := by
  rw [Pl.allW_bound ws R (by omega) (fun n hn => ((h n).1 hn).1)]
  unfold natV Pl.liveL
  rw [List.map_map]
  have : (List.range R).filter (Pl.inW ws) = (List.range R).filter (fun r : Nat => @decide (Pl.Live f.code (r : Int) j) (Classical.propDecidable _)) := by
    apply List.filter_congr
    intro q hq
    have hq := List.mem_range.1 hq
    rw [Bool.eq_iff_iff, h q]
    simp [hq]
  rw [this]
  rfl
def LbI (w : World) (f : Pl.IrF) (R : Nat) (e : Ending) (w' : World) : Prop := Below w.heap.size w w' ∧ ((¬ Pl.funOk f ∧ e = .returned (.slice none 0 0)) ∨ (Pl.funOk f ∧ ∃ (go : Nat) (A : Nat → Option Addr) (C : Nat → Nat) (NS : Nat → List Int) (T : Nat → Nat), e = .returned (.slice (some ⟨go, 0, none⟩) f.code.length f.code.length) ∧ Rw 22 3 w.heap.size w' go f.code.length f.code.length A C (fun i => (NS i).map (Value.int .i64)) T 1 ∧ ∀ i, i < f.code.length → NS i = Pl.liveL f R i))
set_option maxRecDepth 100000 in
set_option maxHeartbeats 16000000 in
theorem implLb_no {lo : Nat} (f : Pl.IrF) (v s : SV) (R : Nat) (w : World) (h : FIs lo w v s f) (hal : ∀ i, i < f.code.length → (f.code.getD i Pl.IrI.zero).args.length ≤ 1048576) (hwf : ∀ i, i < f.code.length → (Lit.int .i64 (f.code.getD i Pl.IrI.zero).n).wf = true) (hf : ¬ Pl.funOk f) : Calls Tryz.prog 9 #[.agg #[.string f.name, .int .i64 f.params, .int .i64 f.regs, .slice v.a v.len v.cap, .slice s.a s.len s.cap]] w fun e w' => LbI w f R e w' := by
  have HRR : Hid (∀ u, Below w.heap.size w u → Calls Tryz.prog 32 #[.agg #[.string f.name, .int .i64 f.params, .int .i64 f.regs, .slice v.a v.len v.cap, .slice s.a s.len s.cap]] u fun e u' => e = .returned (.tuple #[.pointer none, .bool false]) ∧ Below u.heap.size u u') := fun u hu => (readRoutine_is f v s u (h.keep hu) hal hwf).mono fun e u' q => by
    rcases q.2 with ⟨_, z⟩ | ⟨z, _⟩
    · exact ⟨z, q.1⟩
    · exact absurd ((Pl.rr_fun f).1 z) hf
  have HN : Hid (¬ Pl.funOk f) := hf
  clear h hal hwf hf
  go_enter Tryz.func9, Tryz.ntmps9
  go_wp2_with fail
  refine ty_at fun u0 hu0 => ?_
  have H0 : Hid (Below w.heap.size w u0) := by rw [hu0]; exact below_alloc w _
  clear hu0
  refine (HRR.out u0 H0.out).mono ?_
  rintro e u1 ⟨rfl, d1⟩
  have H1 : Hid (Below w.heap.size w u1) := H0.out.trans (d1.mono H0.out.size)
  clear d1 H0 HRR
  go_wp2_with fail
  go_ret
  exact ⟨H1.out, .inl ⟨HN.out, rfl⟩⟩
set_option maxRecDepth 100000 in
set_option maxHeartbeats 16000000 in
theorem implLb_yes {lo : Nat} (f : Pl.IrF) (v s : SV) (R : Nat) (w : World) (h : FIs lo w v s f) (hal : ∀ i, i < f.code.length → (f.code.getD i Pl.IrI.zero).args.length ≤ 1048576) (hwf : ∀ i, i < f.code.length → (Lit.int .i64 (f.code.getD i Pl.IrI.zero).n).wf = true) (hT : TabT w) (hf : Pl.funOk f) (hR : f.regs = R) : Calls Tryz.prog 9 #[.agg #[.string f.name, .int .i64 f.params, .int .i64 f.regs, .slice v.a v.len v.cap, .slice s.a s.len s.cap]] w fun e w' => LbI w f R e w' := by
  have HRR : Hid (∀ u, Below w.heap.size w u → Calls Tryz.prog 32 #[.agg #[.string f.name, .int .i64 f.params, .int .i64 f.regs, .slice v.a v.len v.cap, .slice s.a s.len s.cap]] u fun e u' => ∃ gr gm nm g c P lab Y, e = .returned (.tuple #[.pointer (some ⟨gr, 0, none⟩), .bool true]) ∧ Below u.heap.size u u' ∧ Pl.LabK f.code f.code.length lab ∧ (∀ i, i < f.code.length → Row .i64 0 u' (Y i).a (Y i).len (Y i).cap (f.code.getD i Pl.IrI.zero).args) ∧ Rt u gr gm nm f v s (.slice (some ⟨g, 0, none⟩) f.code.length c) (stepsV f Y f.code.length) lab P ((List.range f.slots.length).map (Pl.rooms f.slots)) (Pl.upM (Pl.rooms f.slots f.slots.length) 16) u') := fun u hu => (readRoutine_is f v s u (h.keep hu) hal hwf).mono fun e u' q => by
    rcases q.2 with ⟨z, _⟩ | ⟨_, gr, gm, nm, S, P, lab, Y, e1, e2, e3, e4⟩
    · exact absurd ((Pl.rr_fun f).2 hf) z
    · have hsl : (stepsV f Y f.code.length).length = f.code.length := by simp [stepsV]
      have hst := e4.st
      rw [hsl] at hst
      obtain ⟨g, c, rfl, _, _⟩ := hst.form (by have := hf.1.2.2.2.1.1; omega)
      exact ⟨gr, gm, nm, g, c, P, lab, Y, e1, q.1, e2, fun i hi => (e3 i hi).keep q.1, e4⟩
  have HF : Hid (Pl.funOk f ∧ f.regs = R ∧ TabT w ∧ ∀ i, i < f.code.length → (Lit.int .i64 (f.code.getD i Pl.IrI.zero).n).wf = true) := ⟨hf, hR, hT, hwf⟩
  have hR2 : R ≤ 2000 := by have := hf.1.2.1.2; omega
  obtain ⟨n, hn⟩ : ∃ n, n = f.code.length := ⟨_, rfl⟩
  have hn8 : 1 ≤ n ∧ n ≤ 8000 := by rw [hn]; exact hf.1.2.2.2.1
  have HNE : Hid (n = f.code.length) := hn
  obtain ⟨i0, hi0, hz0, hz1, hz2⟩ := info_parts Tryz.infointsL
  have hmk : ∀ u : World, (Instr.makeSlice 27 (.int .i64 (n : Int)) (.int .i64 (n : Int))).run Tryz.prog u = .ok (.slice (some ⟨u.heap.size, 0, none⟩) n n) (u.alloc (.cells (madeCells (Value.slice none 0 0).cells (n * 1)) 22)) := fun u => by
    have := run_makeSlice u 27 22 i0 _ Tryz.underlying27 hi0 hz0 .i64 .i64 (n : Int) (n : Int) (by omega) (by omega) (by rw [hz1]; simp; omega) (by rw [hz2]; omega) (by omega)
    rw [hz1] at this
    simpa using this
  have hcl : (madeCells (Value.slice none 0 0).cells (n * 1)).toList = List.replicate n (.slice none 0 0) := by rw [Nat.mul_one]; exact toList_madeCells_one _ _
  have hcs : (madeCells (Value.slice none 0 0).cells (n * 1)).size = n * 1 := by simp [madeCells, Value.cells]
  obtain ⟨cs, hcs0⟩ : ∃ cs, cs = madeCells (Value.slice none 0 0).cells (n * 1) := ⟨_, rfl⟩
  rw [← hcs0] at hmk hcl hcs
  have HCS : Hid (cs.toList = List.replicate n (.slice none 0 0) ∧ cs.size = n * 1) := ⟨hcl, hcs⟩
  clear hcs0 hcl hcs hi0 hz0 hz1 hz2 h hal hwf hf hR hT
  go_enter Tryz.func9, Tryz.ntmps9
  go_wp2_with fail
  refine ty_at fun u0 hu0 => ?_
  have H0 : Hid (Below w.heap.size w u0) := by rw [hu0]; exact below_alloc w _
  clear hu0
  refine (HRR.out u0 H0.out).mono ?_
  rintro e u1 ⟨gr, gm, nm, g, c, P, lab, Y, rfl, d1, hlab, hrows, hRt⟩
  rw [← hn] at hRt hlab
  have c5 : u1.cell? ⟨gr, 5, none⟩ = some (.slice (some ⟨g, 0, none⟩) n c) := hRt.cell 5
  have c2 : u1.cell? ⟨gr, 2, none⟩ = some (.int .i64 (R : Int)) := by rw [← HF.out.2.1]; exact hRt.cell 2
  have H1 : Hid (Below w.heap.size w u1 ∧ TabT u1) := by
    have hb := H0.out.trans (d1.mono H0.out.size)
    exact ⟨hb, HF.out.2.2.1.keep (block_lt_of_cell (HF.out.2.2.1 0 (by decide))) hb⟩
  have HNL : Hid (∀ u, Below u1.heap.size u1 u → Calls Tryz.prog 62 #[.pointer (some ⟨gr, 0, none⟩)] u fun e u' => NlSaid u f R e u') := fun u hu => newLiveness_is u ((hn ▸ hRt).keep hu) HF.out.1 (hn ▸ hlab) HF.out.2.2.2 (fun i hi => (hrows i hi).keep hu) R HF.out.2.1
  obtain ⟨u2, hu2⟩ : ∃ u2, u2 = u1.alloc (.cells cs 22) := ⟨_, rfl⟩
  have hb2 : Below u1.heap.size u1 u2 := by rw [hu2]; exact below_alloc _ _
  have HLB : Hid (Calls Tryz.prog 33 #[.pointer (some ⟨gr, 0, none⟩)] u2 fun e w' => LbS u2 f.code R n e w') := by
    refine liveBefore_is u2 gr g n c R f.code hn.symm ((hb2.cell (p := ⟨gr, 5, none⟩) (block_lt_of_cell c5)).trans c5) ((hb2.cell (p := ⟨gr, 2, none⟩) (block_lt_of_cell c2)).trans c2) hn8 hR2 (H1.out.2.keep (block_lt_of_cell (H1.out.2 0 (by decide))) hb2) fun u hu => ?_
    have := HNL.out u (hb2.trans (hu.mono hb2.size))
    unfold NlSaid at this
    rw [← hn] at this
    exact this
  have H2 : Hid (Below w.heap.size w u2 ∧ TabT u2 ∧ Rw 22 3 w.heap.size u2 u1.heap.size n n (fun _ => none) (fun _ => 0) (fun _ => []) (fun _ => 1) 1 ∧ u1.heap.size < u2.heap.size) := by
    have ho := World.ownsRow_lit u1 cs n (base := w.heap.size) (e := 22) (size := 1) H1.out.1.size (by unfold maxLen; omega) HCS.out.2
    rw [HCS.out.1, ← hu2] at ho
    exact ⟨H1.out.1.trans (hb2.mono H1.out.1.size), H1.out.2.keep (block_lt_of_cell (H1.out.2 0 (by decide))) hb2, Rw.nil ho rfl, by rw [hu2]; simp⟩
  have HU2 : Hid (u1.alloc (.cells cs 22) = u2) := hu2.symm
  clear hlab hrows hRt d1 HNL HRR hb2 hu2 hn
  go_wp2_with fail
  rw [HU2.out]
  refine (HLB.out).mono ?_
  rintro e u3 ⟨go, bs, A, C, WS, T, rfl, hst, hrow⟩
  have H3 : Hid (Rw 65 110 u2.heap.size u3 go n n A C (fun j => Pl.wsV (WS j)) T 1 ∧ ∀ j, j < n → ((∃ g, A j = some ⟨g, 0, none⟩) ∧ Pl.smallW (WS j) ∧ (WS j).length = (R + 63) / 64 ∧ ∀ q : Nat, Pl.inW (WS j) q = true ↔ q < R ∧ Pl.Live f.code (q : Int) j)) := ⟨hst.rw_, hrow⟩
  have HB3 : Hid (Below u2.heap.size u2 u3) := hst.bel
  clear hst hrow HLB HU2 c5 c2
  go_wp2_with fail
  go_loopw [24] (fun t wr => ∃ (i : Nat), i ≤ n ∧ t = .int .i64 (i : Int) ∧ Hid (∃ (A2 : Nat → Option Addr) (C2 : Nat → Nat) (NS : Nat → List Int) (T2 : Nat → Nat), Rw 22 3 w.heap.size wr u1.heap.size n n A2 C2 (fun j => (NS j).map (Value.int .i64)) T2 1 ∧ (∀ j, j < i → NS j = Pl.liveL f R j) ∧ Below w.heap.size w wr ∧ Rw 65 110 u2.heap.size wr go n n A C (fun j => Pl.wsV (WS j)) T 1 ∧ TabT wr)) (fun t _ => n - (intOf t).toNat)
  case atStart =>
    refine ⟨0, Nat.zero_le _, rfl, fun _ => none, fun _ => 0, fun _ => [], fun q => if q < u2.heap.size then 1 else 3, ?_, fun j hj => absurd hj (Nat.not_lt_zero _), H2.out.1.trans (HB3.out.mono H2.out.1.size), H3.out.1, H2.out.2.1.keep (block_lt_of_cell (H2.out.2.1 0 (by decide))) HB3.out⟩
    exact H2.out.2.2.1.kept (fun q hq _ => HB3.out.block q hq) fun q hq => if_pos hq
  case round =>
    obtain ⟨i, hi, rfl, HS⟩ := hrel
    obtain ⟨A2, C2, NS, T2, r1, r2, r3, r4, r5⟩ := HS.out
    have HS2 : Hid (Rw 22 3 w.heap.size wr u1.heap.size n n A2 C2 (fun j => (NS j).map (Value.int .i64)) T2 1 ∧ (∀ j, j < i → NS j = Pl.liveL f R j) ∧ Below w.heap.size w wr ∧ Rw 65 110 u2.heap.size wr go n n A C (fun j => Pl.wsV (WS j)) T 1 ∧ TabT wr) := ⟨r1, r2, r3, r4, r5⟩
    clear HS r2 r3 r5
    by_cases hlt : i < n
    rotate_left
    · have hii : ¬ ((i : Int) < (n : Int)) := by omega
      have hie : i = n := by omega
      have HE : Hid (LbI w f R (.returned (.slice (some ⟨u1.heap.size, 0, none⟩) n n)) wr) := by
        have e := HNE.out
        obtain ⟨q1, q2, q3, _⟩ := HS2.out
        subst hie
        refine ⟨q3, .inr ⟨HF.out.1, ?_⟩⟩
        rw [← e]
        exact ⟨u1.heap.size, A2, C2, NS, T2, rfl, q1, q2⟩
      clear hie r1 r4
      go_wp2_with fail
      go_ret
      exact HE.out
    have hii : (i : Int) < (n : Int) := by omega
    obtain ⟨⟨gx, hgx⟩, b2, b3, b4⟩ := H3.out.2 i hlt
    have cz := r4.cell hlt
    have hnr := r4.nr i hlt
    rw [Pl.wsV_len, hgx] at cz hnr
    obtain ⟨kw, hkw⟩ : ∃ kw, kw = (WS i).length := ⟨_, rfl⟩
    obtain ⟨cw, hcw⟩ : ∃ cw, cw = C i := ⟨_, rfl⟩
    rw [← hkw, ← hcw] at cz hnr
    have ca := r1.cell hlt
    have HLS : Hid (Calls Tryz.prog 34 #[.slice (some ⟨gx, 0, none⟩) kw cw] wr fun e w' => ∃ gq cq, e = .returned (.slice (some ⟨gq, 0, none⟩) (Pl.liveL f R i).length cq) ∧ w'.ownsRow wr.heap.size 3 1 (.slice (some ⟨gq, 0, none⟩) (Pl.liveL f R i).length cq) (Pl.liveL f R i).length ((Pl.liveL f R i).map (Value.int .i64)) ∧ Below wr.heap.size wr w') := by
      refine (list_is gx kw cw (WS i) b2 hkw.symm (by omega) wr hnr HS2.out.2.2.2.2).mono fun e w' q => ?_
      obtain ⟨gq, cq, q1, q2, q3⟩ := q
      have e1 := natV_live b3 b4
      have e2 : (Pl.allW (WS i)).length = (Pl.liveL f R i).length := by
        have := congrArg List.length e1
        simpa [natV] using this
      rw [e2] at q1 q2
      rw [e1] at q2
      exact ⟨gq, cq, q1, q2, q3⟩
    obtain ⟨ns, hns⟩ : ∃ ns, ns = Pl.liveL f R i := ⟨_, rfl⟩
    have HNS : Hid (ns = Pl.liveL f R i) := hns
    rw [← hns] at HLS
    generalize hcv : (Value.slice (A2 i) ((fun j => (NS j).map (Value.int .i64)) i).length (C2 i)) = V0 at ca
    have hga : u1.heap.size < wr.heap.size := block_lt_of_cell ca
    have HFZ : Hid (∀ u, Below wr.heap.size wr u → u.frozen? ⟨u1.heap.size, i, none⟩ = false ∧ u.cell? ⟨u1.heap.size, i, none⟩ = some V0) := fun u hu => ⟨(r1.later hu).oo.frozenAt i, (hu.cell (p := ⟨u1.heap.size, i, none⟩) hga).trans ca⟩
    clear r1 r4 hnr hkw hcw hns hcv b2 b3 b4 hgx ca
    go_wp2_with fail
    refine (HLS.out).mono ?_
    rintro e u4 ⟨gq, cq, rfl, o4, d4⟩
    obtain ⟨f4, c4⟩ := HFZ.out u4 d4
    have HN : Hid (∃ (A2 : Nat → Option Addr) (C2 : Nat → Nat) (NS : Nat → List Int) (T2 : Nat → Nat), Rw 22 3 w.heap.size (u4.setCell ⟨u1.heap.size, i, none⟩ (.slice (some ⟨gq, 0, none⟩) ns.length cq)) u1.heap.size n n A2 C2 (fun j => (NS j).map (Value.int .i64)) T2 1 ∧ (∀ j, j < i + 1 → NS j = Pl.liveL f R j) ∧ Below w.heap.size w (u4.setCell ⟨u1.heap.size, i, none⟩ (.slice (some ⟨gq, 0, none⟩) ns.length cq)) ∧ Rw 65 110 u2.heap.size (u4.setCell ⟨u1.heap.size, i, none⟩ (.slice (some ⟨gq, 0, none⟩) ns.length cq)) go n n A C (fun j => Pl.wsV (WS j)) T 1 ∧ TabT (u4.setCell ⟨u1.heap.size, i, none⟩ (.slice (some ⟨gq, 0, none⟩) ns.length cq))) := by
      obtain ⟨q1, q2, q3, q4, q5⟩ := HS2.out
      have hl : (ns.map (Value.int .i64)).length = ns.length := by simp
      have hw0 : w.heap.size ≤ wr.heap.size := q3.size
      have key := q1.repl hlt (y := u4) (a := some ⟨gq, 0, none⟩) (c := cq) (l := ns.map (Value.int .i64)) (T' := newT T2 wr.heap.size 2) (fun q hq _ => d4.block q hq) (by rw [hl]; exact own_lowL o4 hw0) (fun q hq => .inr (by
        rw [hl] at hq
        exact (o4.lt q hq).1)) (fun q hq => newT_old hq) (fun q hq => newT_new hq)
      rw [hl] at key
      have e : (fun j => ((upd NS i ns) j).map (Value.int .i64)) = upd (fun j => (NS j).map (Value.int .i64)) i (ns.map (Value.int .i64)) := by
        funext j
        by_cases z : j = i
        · subst z; rw [upd_at, upd_at]
        · rw [upd_ne z, upd_ne z]
      have hO := OnlyG.setCell u4 u1.heap.size i (.slice (some ⟨gq, 0, none⟩) ns.length cq)
      have hu12 := H2.out.2.2.2
      have hwu1 : w.heap.size ≤ u1.heap.size := (q1.oo.lt u1.heap.size rfl).1
      refine ⟨_, _, upd NS i ns, _, by rw [e]; exact key, fun j hj => ?_, (q3.trans (d4.mono hw0)).trans (hO.below hwu1), (q4.later d4).keepC (Nat.le_refl _) (KeepC.only hO hu12), ?_⟩
      · by_cases z : j = i
        · subst z; rw [upd_at]; exact HNS.out
        · rw [upd_ne z]; exact q2 j (by omega)
      · have tl := block_lt_of_cell (HF.out.2.2.1 0 (by decide))
        exact (q5.keep (Nat.lt_of_lt_of_le tl hw0) d4).keep tl (hO.below hwu1)
    clear o4 d4
    go_wp2_with fail
    go_roundw
    case rel => exact ⟨i + 1, by omega, by go_num, HN⟩
    case measure => simp [intOf]; omega
theorem implLb_is {lo : Nat} (f : Pl.IrF) (v s : SV) (R : Nat) (w : World) (h : FIs lo w v s f) (hal : ∀ i, i < f.code.length → (f.code.getD i Pl.IrI.zero).args.length ≤ 1048576) (hwf : ∀ i, i < f.code.length → (Lit.int .i64 (f.code.getD i Pl.IrI.zero).n).wf = true) (hT : TabT w) (hR : f.regs = R ∨ ¬ Pl.funOk f) : Calls Tryz.prog 9 #[.agg #[.string f.name, .int .i64 f.params, .int .i64 f.regs, .slice v.a v.len v.cap, .slice s.a s.len s.cap]] w fun e w' => LbI w f R e w' := by
  by_cases hf : Pl.funOk f
  · exact implLb_yes f v s R w h hal hwf hT hf (hR.resolve_right (fun c => c hf))
  · exact implLb_no f v s R w h hal hwf hf
end Go.Proofs.YtcgfgmlfbgbkfaaGreatDoor.W
namespace Go.Proofs.YtcgfgmlfbgbkfaaGreatDoor.Pl
def mkK (L : Nat → Nat) : Nat → Int
  | 0 => 1
  | i + 1 => mkK L i + (L i : Int)
theorem mkK_bd (L : Nat → Nat) (h : ∀ i, L i ≤ 2000) : ∀ i, 1 ≤ mkK L i ∧ mkK L i ≤ 1 + 2000 * (i : Int)
  | 0 => by simp [mkK]
  | i + 1 => by have := mkK_bd L h i; have := h i; unfold mkK; omega
theorem liveL_len (f : IrF) (R i : Nat) : (liveL f R i).length ≤ R := by
  unfold liveL
  rw [List.length_map]
  exact Nat.le_trans (List.length_filter_le _ _) (by simp)
theorem liveL_wf (f : IrF) (R i : Nat) (hR : R ≤ 2000) : ∀ n ∈ liveL f R i, (Lit.int .i64 n).wf = true := by
  intro n hn
  unfold liveL at hn
  obtain ⟨r, hr, rfl⟩ := List.mem_map.1 hn
  have := List.mem_range.1 (List.mem_filter.1 hr).1
  simp [Lit.wf, IntKind.min, IntKind.max, IntKind.signed, IntKind.bits]
  omega
end Go.Proofs.YtcgfgmlfbgbkfaaGreatDoor.Pl
namespace Go.Proofs.YtcgfgmlfbgbkfaaGreatDoor.W
open Go.RowKit
def RR (w : World) (a : Option Addr) (n : Nat) (NS : Nat → List Int) : Prop := n ≤ 1048576 ∧ (n = 0 ∨ ∃ g, a = some ⟨g, 0, none⟩ ∧ ∃ (A : Nat → Option Addr) (C : Nat → Nat), ∀ i, i < n → w.cell? ⟨g, i, none⟩ = some (.slice (A i) (NS i).length (C i)) ∧ Row .i64 0 w (A i) (NS i).length (C i) (NS i))
theorem RR.keep {w w' : World} {a : Option Addr} {n : Nat} {NS : Nat → List Int} (h : RR w a n NS) (hb : Below w.heap.size w w') : RR w' a n NS := by
  rcases h with ⟨h0, h | ⟨g, e, A, C, h⟩⟩
  · exact ⟨h0, .inl h⟩
  · exact ⟨h0, .inr ⟨g, e, A, C, fun i hi => ⟨(hb.cell (block_lt_of_cell (h i hi).1)).trans (h i hi).1, (h i hi).2.keep hb⟩⟩⟩
set_option maxRecDepth 100000 in
set_option maxHeartbeats 8000000 in
theorem eqIntSS_same (a a' : Option Addr) (n cap cap' : Nat) (NS : Nat → List Int) (w : World) (h : RR w a n NS) (h' : RR w a' n NS) : Calls Tryz.prog 10 #[.slice a n cap, .slice a' n cap'] w fun e w' => e = .returned (.bool true) ∧ Below w.heap.size w w' := by
  have HR : Hid (RR w a n NS ∧ RR w a' n NS) := ⟨h, h'⟩
  have hnm : (n : Int) ≤ 1048576 := by have := h.1; omega
  clear h h'
  go_enter Tryz.func10, Tryz.ntmps10
  go_wp2_with fail
  go_loopw [5] (fun t wr => ∃ (i : Nat), i ≤ n ∧ t = .int .i64 (i : Int) ∧ Hid (Below w.heap.size w wr)) (fun t _ => n - (intOf t).toNat)
  case atStart => exact ⟨0, Nat.zero_le _, rfl, Below.refl _ _⟩
  case round =>
    obtain ⟨i, hi, rfl, HB⟩ := hrel
    by_cases hlt : i < n
    rotate_left
    · have hii : ¬ ((i : Int) < (n : Int)) := by omega
      go_wp2_with fail
      go_ret
      exact ⟨rfl, HB.out⟩
    have hii : (i : Int) < (n : Int) := by omega
    obtain ⟨g, rfl, A, C, hA⟩ := (HR.out.1.keep HB.out).2.resolve_left (by omega)
    obtain ⟨g', rfl, A', C', hA'⟩ := (HR.out.2.keep HB.out).2.resolve_left (by omega)
    obtain ⟨c1, r1⟩ := hA i hlt
    obtain ⟨c2, r2⟩ := hA' i hlt
    have HEQ : Hid (∀ u, Below wr.heap.size wr u → Calls Tryz.prog 35 #[.slice (A i) (NS i).length (C i), .slice (A' i) (NS i).length (C' i)] u fun e w' => e = .returned (.bool true) ∧ Below u.heap.size u w') := fun u hu => (eqIntS_any _ _ _ _ _ _ _ _ u (r1.keep hu) (r2.keep hu)).mono fun e w' q => by
      first | exact ⟨by simpa using q.1, q.2⟩ | exact ⟨by rw [q.1]; simp, q.2⟩ | (obtain ⟨q1, q2⟩ := q; subst q2; exact ⟨by simpa using q1, Below.refl _ _⟩)
    generalize (NS i).length = m at c1 c2 HEQ
    generalize A i = b1 at c1 HEQ
    generalize A' i = b2 at c2 HEQ
    generalize C i = k1 at c1 HEQ
    generalize C' i = k2 at c2 HEQ
    have hg1 := block_lt_of_cell c1
    have hg2 := block_lt_of_cell c2
    clear hA hA' r1 r2
    go_upto_region 6 with fail
    go_region_with (go_at_call 35; refine (HEQ.out _ (by exact Below.drew (Below.refl _ _))).mono ?_; rintro e u1 ⟨rfl, d1⟩; have HD : Hid (Below wr.heap.size wr u1) := (Below.drew (Below.refl _ _)).trans d1; clear d1)
    all_goals (
      have HN : Hid (Below w.heap.size w u1) := HB.out.trans (HD.out.mono HB.out.size)
      clear HD
      go_wp2_with fail
      go_roundw
      (case rel => exact ⟨i + 1, by omega, by go_num, HN⟩)
      (case measure => simp [intOf]; omega))
def RwO (lo : Nat) (w : World) (a : Option Addr) (n : Nat) (A : Nat → Option Addr) (C : Nat → Nat) (NS : Nat → List Int) (T : Nat → Nat) : Prop := n = 0 ∨ ∃ go, a = some ⟨go, 0, none⟩ ∧ Rw 22 3 lo w go n n A C (fun i => (NS i).map (Value.int .i64)) T 1
theorem RwO.rr {lo : Nat} {w : World} {a : Option Addr} {n : Nat} {A : Nat → Option Addr} {C : Nat → Nat} {NS : Nat → List Int} {T : Nat → Nat} (h : RwO lo w a n A C NS T) (hn : n ≤ 8000) (hwf : ∀ i, i < n → ∀ z ∈ NS i, (Lit.int .i64 z).wf = true) : RR w a n NS := by
  refine ⟨by omega, ?_⟩
  rcases h with h | ⟨go, e, h⟩
  · exact .inl h
  · refine .inr ⟨go, e, A, C, fun i hi => ?_⟩
    have c1 := h.cell hi
    have r1 := h.nr i hi
    simp only [List.length_map] at c1 r1
    exact ⟨c1, (Own.row ⟨r1, hwf i hi⟩).lower (Nat.zero_le _)⟩
theorem Rw.marked {lo : Nat} {w w' : World} {go n : Nat} {A : Nat → Option Addr} {C : Nat → Nat} {NS : Nat → List Int} {T : Nat → Nat} (h : Rw 22 3 lo w go n n A C (fun i => (NS i).map (Value.int .i64)) T 1) {i : Nat} (hi : i < n) {k : Int} (ho : Own .i64 3 lo w' (A i) (NS i).length (C i) (mkIntS k (NS i).length)) (ht : Touch (A i) w w') : Rw 22 3 lo w' go n n A C (fun j => (upd NS i (mkIntS k (NS i).length) j).map (Value.int .i64)) T 1 := by
  have e : (fun j => (upd NS i (mkIntS k (NS i).length) j).map (Value.int .i64)) = upd (fun j => (NS j).map (Value.int .i64)) i ((mkIntS k (NS i).length).map (Value.int .i64)) := by
    funext j
    by_cases z : j = i
    · subst z; rw [upd_at, upd_at]
    · rw [upd_ne z, upd_ne z]
  rw [e]
  have hlm : ((mkIntS k (NS i).length).map (Value.int .i64)).length = (NS i).length := by rw [List.length_map, mkIntS_length]
  rcases ho.1.2 with ⟨z, z0⟩ | ⟨g, cap, cur, z, hlo, _⟩
  · injection z with z1 z2 z3
    have hsame : ∀ q, w'.heap[q]? = w.heap[q]? := fun q => ht.block q fun ad c => by rw [z1] at c; cases c
    have h1 := h.kept (w' := w') (T' := T) (fun q _ _ => hsame q) fun _ _ => rfl
    have e2 : upd (fun j => (NS j).map (Value.int .i64)) i ((mkIntS k (NS i).length).map (Value.int .i64)) = fun j => (NS j).map (Value.int .i64) := by
      funext j
      by_cases c : j = i
      · subst c
        rw [upd_at]
        have : NS j = [] := List.eq_nil_of_length_eq_zero z0
        rw [this]; rfl
      · rw [upd_ne c]
    rw [e2]; exact h1
  · injection z with z1 z2 z3
    refine h.turned hi z1 (by rw [hlm, List.length_map]) ⟨ht.os, ht.tape, ht.output, ht.size, fun q hq => ht.block q fun ad c => ?_⟩ ?_
    · rw [z1] at c
      injection c with c
      subst c
      exact hq
    · rw [hlm]; exact ho.1
def mkN (NS : Nat → List Int) (i : Nat) : Nat → List Int := fun j => if j < i then mkIntS (Pl.mkK (fun q => (NS q).length) j) (NS j).length else NS j
theorem mkN_succ (NS : Nat → List Int) (i : Nat) : mkN NS (i + 1) = upd (mkN NS i) i (mkIntS (Pl.mkK (fun q => (NS q).length) i) (NS i).length) := by
  funext j
  unfold mkN
  by_cases e : j = i
  · subst e; rw [upd_at, if_pos (by omega)]
  · rw [upd_ne e]
    by_cases c : j < i
    · rw [if_pos c, if_pos (by omega)]
    · rw [if_neg c, if_neg (by omega)]
theorem mkN_at (NS : Nat → List Int) (i : Nat) : mkN NS i i = NS i := if_neg (by omega)
set_option maxRecDepth 100000 in
set_option maxHeartbeats 8000000 in
theorem markIntSS_any {lo : Nat} (a : Option Addr) (n cap : Nat) (A : Nat → Option Addr) (C : Nat → Nat) (NS : Nat → List Int) (T : Nat → Nat) (w : World) (h : RwO lo w a n A C NS T) (hn : n ≤ 8000) (hwf : ∀ i, i < n → ∀ z ∈ NS i, (Lit.int .i64 z).wf = true) (hl : ∀ i, (NS i).length ≤ 2000) : Calls Tryz.prog 13 #[.slice a n cap, .int .i64 1] w fun e w' => e = .returned (.int .i64 (Pl.mkK (fun q => (NS q).length) n)) ∧ RwO lo w' a n A C (mkN NS n) T ∧ Tr lo w.heap.size w w' := by
  have HR : Hid (RwO lo w a n A C NS T ∧ (∀ i, i < n → ∀ z ∈ NS i, (Lit.int .i64 z).wf = true) ∧ ∀ i, (NS i).length ≤ 2000) := ⟨h, hwf, hl⟩
  have hnm : (n : Int) ≤ 8000 := by omega
  obtain ⟨K, hK⟩ : ∃ K, K = Pl.mkK (fun q => (NS q).length) := ⟨_, rfl⟩
  have HK : Hid (K = Pl.mkK (fun q => (NS q).length) ∧ ∀ i, 1 ≤ K i ∧ K i ≤ 1 + 2000 * (i : Int)) := ⟨hK, by rw [hK]; exact Pl.mkK_bd _ hl⟩
  have hK0 : K 0 = 1 := by rw [hK]; rfl
  have HK0 : Hid (K 0 = 1) := hK0
  rw [← hK]
  clear h hwf hl hK hK0
  go_enter Tryz.func13, Tryz.ntmps13
  go_wp2_with fail
  go_loopw [1, 5] (fun kv t wr => ∃ (i : Nat), i ≤ n ∧ t = .int .i64 (i : Int) ∧ kv = .int .i64 (K i) ∧ Hid (RwO lo wr a n A C (mkN NS i) T ∧ Tr lo w.heap.size w wr ∧ wr.heap.size = w.heap.size)) (fun _ t _ => n - (intOf t).toNat)
  case atStart => exact ⟨0, Nat.zero_le _, rfl, by rw [HK0.out], HR.out.1, Tr.refl _ _ _, rfl⟩
  case round =>
    obtain ⟨i, hi, rfl, rfl, HS⟩ := hrel
    by_cases hlt : i < n
    rotate_left
    · have hii : ¬ ((i : Int) < (n : Int)) := by omega
      have hie : i = n := by omega
      have HE : Hid (K i = K n ∧ RwO lo wr a n A C (mkN NS n) T ∧ Tr lo w.heap.size w wr ∧ wr.heap.size = w.heap.size) := by rw [← hie]; exact ⟨rfl, hie ▸ HS.out⟩
      clear hie HS
      go_wp2_with fail
      go_ret
      exact ⟨by rw [HE.out.1]; rfl, HE.out.2.1, HE.out.2.2.1⟩
    have hii : (i : Int) < (n : Int) := by omega
    obtain ⟨go, rfl, hrw⟩ := HS.out.1.resolve_left (by omega)
    have c1 := hrw.cell hlt
    have r1 := hrw.nr i hlt
    simp only [List.length_map, mkN_at] at c1 r1
    have hKi := HK.out.2 i
    have hli := HR.out.2.2 i
    have HO : Hid (Own .i64 3 lo wr (A i) (NS i).length (C i) (NS i)) := ⟨r1, HR.out.2.1 i hlt⟩
    have HKS : Hid (K (i + 1) = K i + ((NS i).length : Int)) := by show K (i + 1) = _; rw [HK.out.1]; rfl
    have HRW : Hid (Rw 22 3 lo wr go n n A C (fun j => (mkN NS i j).map (Value.int .i64)) T 1 ∧ Tr lo w.heap.size w wr ∧ wr.heap.size = w.heap.size) := ⟨hrw, HS.out.2⟩
    have HMK : Hid (Calls Tryz.prog 37 #[.slice (A i) (NS i).length (C i), .int .i64 (K i)] wr fun e w' => e = .returned (.int .i64 (K (i + 1))) ∧ Rw 22 3 lo w' go n n A C (fun j => (mkN NS (i + 1) j).map (Value.int .i64)) T 1 ∧ Tr lo w.heap.size w w' ∧ w'.heap.size = w.heap.size) := by
      refine (markIntS_any (A i) (NS i).length (C i) (NS i) (K i) wr HO.out (by omega)).mono fun e w' q => ?_
      obtain ⟨q1, q2, q3⟩ := q
      refine ⟨by rw [q1, HKS.out], ?_, HRW.out.2.1.trans (own_touch HO.out (fun z hz => ?_) q3), q3.size.trans HRW.out.2.2⟩
      · rw [mkN_succ]
        have e1 := HRW.out.1.marked hlt (k := K i) (by rw [mkN_at]; exact q2) q3
        rw [mkN_at, HK.out.1] at e1
        exact e1
      · have := (HO.out.1.lt z hz).2; have := HRW.out.2.2; omega
    generalize (NS i).length = m at c1 HMK hli
    generalize A i = b1 at c1 HMK
    generalize C i = k1 at c1 HMK
    clear hrw r1 HO HS HKS
    go_wp2_with fail
    refine (HMK.out).mono ?_
    rintro e u1 ⟨rfl, o1, t1⟩
    have HN : Hid (RwO lo u1 (some ⟨go, 0, none⟩) n A C (mkN NS (i + 1)) T ∧ Tr lo w.heap.size w u1 ∧ u1.heap.size = w.heap.size) := ⟨.inr ⟨go, rfl, o1⟩, t1⟩
    clear o1 t1 HMK
    go_wp2_with fail
    go_roundw
    case rel => exact ⟨i + 1, by omega, by go_num, rfl, HN⟩
    case measure => simp [intOf]; omega
set_option maxRecDepth 100000 in
set_option maxHeartbeats 8000000 in
theorem heldIntSS_any {lo : Nat} (a : Option Addr) (n cap : Nat) (A : Nat → Option Addr) (C : Nat → Nat) (NS : Nat → List Int) (T : Nat → Nat) (w : World) (h : RwO lo w a n A C (mkN NS n) T) (hn : n ≤ 8000) (hl : ∀ i, (NS i).length ≤ 2000) : Calls Tryz.prog 14 #[.slice a n cap, .int .i64 1] w fun e w' => e = .returned (.int .i64 (Pl.mkK (fun q => (NS q).length) n)) ∧ Below w.heap.size w w' := by
  have HR : Hid (RwO lo w a n A C (mkN NS n) T ∧ ∀ i, (NS i).length ≤ 2000) := ⟨h, hl⟩
  have hnm : (n : Int) ≤ 8000 := by omega
  obtain ⟨K, hK⟩ : ∃ K, K = Pl.mkK (fun q => (NS q).length) := ⟨_, rfl⟩
  have HK : Hid (K = Pl.mkK (fun q => (NS q).length) ∧ ∀ i, 1 ≤ K i ∧ K i ≤ 1 + 2000 * (i : Int)) := ⟨hK, by rw [hK]; exact Pl.mkK_bd _ hl⟩
  have hK0 : K 0 = 1 := by rw [hK]; rfl
  have HK0 : Hid (K 0 = 1) := hK0
  rw [← hK]
  clear h hl hK hK0
  go_enter Tryz.func14, Tryz.ntmps14
  go_wp2_with fail
  go_loopw [1, 5] (fun kv t wr => ∃ (i : Nat), i ≤ n ∧ t = .int .i64 (i : Int) ∧ kv = .int .i64 (K i) ∧ Hid (Below w.heap.size w wr)) (fun _ t _ => n - (intOf t).toNat)
  case atStart => exact ⟨0, Nat.zero_le _, rfl, by rw [HK0.out], Below.refl _ _⟩
  case round =>
    obtain ⟨i, hi, rfl, rfl, HS⟩ := hrel
    by_cases hlt : i < n
    rotate_left
    · have hii : ¬ ((i : Int) < (n : Int)) := by omega
      have hie : i = n := by omega
      have HE : Hid (K i = K n) := by rw [← hie]; rfl
      clear hie
      go_wp2_with fail
      go_ret
      exact ⟨by rw [HE.out]; rfl, HS.out⟩
    have hii : (i : Int) < (n : Int) := by omega
    obtain ⟨go, rfl, hrw0⟩ := HR.out.1.resolve_left (by omega)
    have c1 := (HS.out.cell (block_lt_of_cell (hrw0.cell hlt))).trans (hrw0.cell hlt)
    have r1 := hrw0.nr i hlt
    have hmn : mkN NS n i = mkIntS (K i) (NS i).length := by rw [HK.out.1]; exact if_pos hlt
    simp only [List.length_map, hmn, mkIntS_length] at c1 r1
    have hKi := HK.out.2 i
    have hK2 := HK.out.2 (i + 1)
    have hli := HR.out.2 i
    have HKS : Hid (K (i + 1) = K i + ((NS i).length : Int)) := by show K (i + 1) = _; rw [HK.out.1]; rfl
    have HMK : Hid (Calls Tryz.prog 39 #[.slice (A i) (NS i).length (C i), .int .i64 (K i)] wr fun e w' => e = .returned (.int .i64 (K (i + 1))) ∧ Below w.heap.size w w') := by
      have hr : Row .i64 lo wr (A i) (NS i).length (C i) (mkIntS (K i) (NS i).length) := (Own.row ⟨r1, mkIntS_wf (K i) _ (by omega)⟩).keep HS.out
      refine (heldIntS_any (A i) (NS i).length (C i) (K i) wr hr (by omega)).mono fun e w' q => ?_
      exact ⟨by rw [q.1, HKS.out], HS.out.trans (q.2.mono HS.out.size)⟩
    have hKn : ¬ (K (i + 1) < 0) := by omega
    generalize (NS i).length = m at c1 HMK hli
    generalize A i = b1 at c1 HMK
    generalize C i = k1 at c1 HMK
    clear hrw0 r1 HS HKS hmn
    go_wp2_with fail
    refine (HMK.out).mono ?_
    rintro e u1 ⟨rfl, t1⟩
    have HN : Hid (Below w.heap.size w u1) := t1
    clear t1 HMK
    go_wp2_with fail
    go_roundw
    case rel => exact ⟨i + 1, by omega, by go_num, rfl, HN⟩
    case measure => simp [intOf]; omega
end Go.Proofs.YtcgfgmlfbgbkfaaGreatDoor.W
namespace Go.Proofs.YtcgfgmlfbgbkfaaGreatDoor.Pl
open Classical in
noncomputable def lbN (f : IrF) : Nat := if funOk f then f.code.length else 0
open Classical in
noncomputable def lbL (f : IrF) : Nat → List Int := if funOk f then liveL f f.regs.toNat else fun _ => []
theorem lbN_le (f : IrF) : lbN f ≤ 8000 := by
  unfold lbN
  split
  · rename_i h; exact h.1.2.2.2.1.2
  · omega
theorem lbL_len (f : IrF) (i : Nat) : (lbL f i).length ≤ 2000 := by
  unfold lbL
  split
  · rename_i h
    have := h.1.2.1.2
    exact Nat.le_trans (liveL_len f _ i) (by omega)
  · exact Nat.zero_le _
theorem lbL_wf (f : IrF) (i : Nat) : ∀ z ∈ lbL f i, (Lit.int .i64 z).wf = true := by
  unfold lbL
  split
  · rename_i h
    have := h.1.2.1.2
    exact liveL_wf f _ i (by omega)
  · intro z hz; cases hz
theorem lbR (f : IrF) : f.regs = (f.regs.toNat : Int) ∨ ¬ funOk f := by
  by_cases h : funOk f
  · have h1 := h.1.1.1; have h2 := h.1.2.1.1; exact .inl (by omega)
  · exact .inr h
end Go.Proofs.YtcgfgmlfbgbkfaaGreatDoor.Pl
namespace Go.Proofs.YtcgfgmlfbgbkfaaGreatDoor.W
open Go.RowKit
theorem Rw.congr {eo ei : TypeId} {lo : Nat} {w : World} {go k co : Nat} {A : Nat → Option Addr} {C : Nat → Nat} {L L' : Nat → List Value} {T : Nat → Nat} {t : Nat} (h : Rw eo ei lo w go k co A C L T t) (he : ∀ i, i < k → L i = L' i) : Rw eo ei lo w go k co A C L' T t := by
  have e : slV k A C L' = slV k A C L := by
    unfold slV
    apply List.map_congr_left
    intro i hi
    rw [he i (List.mem_range.1 hi)]
  refine ⟨by rw [e]; exact h.oo, h.tt, fun i hi => by rw [← he i hi]; exact h.nr i hi, fun i hi g hg => h.tn i hi g (by rw [he i hi]; exact hg), fun i j hi hj g h1 h2 => h.dA i j hi hj g (by rw [he i hi]; exact h1) (by rw [he j hj]; exact h2)⟩
theorem specLb_c {lo : Nat} (f : Pl.IrF) (v s : SV) (w : World) (h : FIs lo w v s f) : Calls Tryz.prog 7 #[.agg #[.string f.name, .int .i64 f.params, .int .i64 f.regs, .slice v.a v.len v.cap, .slice s.a s.len s.cap]] w fun e w' => (∃ a c, e = .returned (.slice a (Pl.lbN f) c) ∧ RR w' a (Pl.lbN f) (Pl.lbL f)) ∧ Below w.heap.size w w' := by
  refine (specLb_is f v s f.regs.toNat w h (Pl.lbR f)).mono fun e w' q => ?_
  obtain ⟨go, co, n, A, C, NS, rfl, hr, hc, hb⟩ := q
  refine ⟨⟨some ⟨go, 0, none⟩, co, ?_, ?_⟩, hb⟩
  · rcases hc with ⟨h1, rfl⟩ | ⟨h1, rfl, _⟩
    · unfold Pl.lbN; rw [if_neg h1]
    · unfold Pl.lbN; rw [if_pos h1]
  · refine ⟨by have := Pl.lbN_le f; omega, ?_⟩
    rcases hc with ⟨h1, rfl⟩ | ⟨h1, rfl, h2⟩
    · left; unfold Pl.lbN; rw [if_neg h1]
    · right
      have hn : Pl.lbN f = f.code.length := by unfold Pl.lbN; rw [if_pos h1]
      have hl : Pl.lbL f = Pl.liveL f f.regs.toNat := by unfold Pl.lbL; rw [if_pos h1]
      refine ⟨go, rfl, A, C, fun i hi => ?_⟩
      rw [hn] at hi
      rw [hl, ← h2 i hi]
      refine ⟨?_, (Own.row ⟨hr.nr i hi, ?_⟩).lower (Nat.zero_le _)⟩
      · rw [hr.oo.cellAt i (by omega)]
        unfold listsV
        rw [List.getElem?_map, List.getElem?_range hi]; rfl
      · rw [h2 i hi, ← hl]; exact Pl.lbL_wf f i
theorem implLb_c {lo : Nat} (f : Pl.IrF) (v s : SV) (w : World) (h : FIs lo w v s f) (hz : f.sized) (hwf : ∀ i, i < f.code.length → (Lit.int .i64 (f.code.getD i Pl.IrI.zero).n).wf = true) (hT : TabT w) : Calls Tryz.prog 9 #[.agg #[.string f.name, .int .i64 f.params, .int .i64 f.regs, .slice v.a v.len v.cap, .slice s.a s.len s.cap]] w fun e w' => (∃ a c A C T, e = .returned (.slice a (Pl.lbN f) c) ∧ RwO w.heap.size w' a (Pl.lbN f) A C (Pl.lbL f) T) ∧ Below w.heap.size w w' := by
  refine (implLb_is f v s f.regs.toNat w h (fun i hi => (hz.2.2.2 i hi).2) hwf hT (Pl.lbR f)).mono fun e w' q => ?_
  obtain ⟨hb, ⟨h1, rfl⟩ | ⟨h1, go, A, C, NS, T, rfl, hr, h2⟩⟩ := q
  · have hn : Pl.lbN f = 0 := by unfold Pl.lbN; rw [if_neg h1]
    exact ⟨⟨none, 0, fun _ => none, fun _ => 0, fun _ => 0, by rw [hn], .inl hn⟩, hb⟩
  · have hn : Pl.lbN f = f.code.length := by unfold Pl.lbN; rw [if_pos h1]
    have hl : Pl.lbL f = Pl.liveL f f.regs.toNat := by unfold Pl.lbL; rw [if_pos h1]
    refine ⟨⟨some ⟨go, 0, none⟩, f.code.length, A, C, T, by rw [hn], .inr ⟨go, rfl, ?_⟩⟩, hb⟩
    rw [hn, hl]
    exact hr.congr fun i hi => by rw [h2 i hi]
theorem RwO.later {lo : Nat} {w w' : World} {a : Option Addr} {n : Nat} {A : Nat → Option Addr} {C : Nat → Nat} {NS : Nat → List Int} {T : Nat → Nat} (h : RwO lo w a n A C NS T) (hb : Below w.heap.size w w') : RwO lo w' a n A C NS T := by
  rcases h with h | ⟨go, e, h⟩
  · exact .inl h
  · exact .inr ⟨go, e, h.later hb⟩
theorem RwO.tr {lo l h' : Nat} {w w' : World} {a : Option Addr} {n : Nat} {A : Nat → Option Addr} {C : Nat → Nat} {NS : Nat → List Int} {T : Nat → Nat} (h : RwO lo w a n A C NS T) (ht : Tr l h' w w') (hl : h' ≤ lo) : RwO lo w' a n A C NS T := by
  rcases h with h | ⟨go, e, h⟩
  · exact .inl h
  · exact .inr ⟨go, e, h.keepC (b := lo) (Nat.le_refl _) fun g hg cs t hc => (ht.block g (Array.getElem?_eq_some_iff.1 hc).1 (.inr (by omega))).trans hc⟩
theorem Tr.below {l h' B : Nat} {u w w' : World} (ht : Tr l h' w w') (hb : Below B u w) (hB : B ≤ l) (hu : B ≤ u.heap.size) : Below B u w' := ⟨ht.os.trans hb.os, ht.tape.trans hb.tape, ht.output.trans hb.output, Nat.le_trans hb.size ht.size, fun g hg => (ht.block g (by have := hb.size; omega) (.inl (by omega))).trans (hb.block g hg)⟩
end Go.Proofs.YtcgfgmlfbgbkfaaGreatDoor.W
