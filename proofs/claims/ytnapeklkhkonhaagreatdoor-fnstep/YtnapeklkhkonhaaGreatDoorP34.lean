import Derived.Test.YtnapeklkhkonhaaGreatDoorP28
import Derived.Test.YtnapeklkhkonhaaGreatDoorP30
import Derived.Test.YtnapeklkhkonhaaGreatDoorP33
set_option linter.unusedVariables false
set_option linter.unusedSimpArgs false
namespace Go.Proofs.YtnapeklkhkonhaaGreatDoor.W
open Go.RowKit
noncomputable def fmI (n : Int) : Int := Classical.choose (form_all n)
theorem fmI_is (n : Int) (w : World) : Calls Tryz.prog 50 #[.int .i64 n] w fun e w' => e = .returned (.int .i64 (fmI n)) ∧ w' = w := Classical.choose_spec (form_all n) w
end Go.Proofs.YtnapeklkhkonhaaGreatDoor.W
namespace Go.Proofs.YtnapeklkhkonhaaGreatDoor.Pl
def IS.row (s : IS) : Array Value := #[.int .i64 s.a, .int .i64 s.b, .int .i64 s.d, .int .i64 s.e, .int .i64 s.f]
def w4 (j : Nat) : Int := if j = 0 then 0 else if j = 1 then 10 else if j = 2 then 2 else 17
def w3 (j : Nat) : Int := if j = 0 then 36 else if j = 1 then 34 else 35
def w5 (j : Nat) : Int := if j = 0 then 30 else if j = 1 then 28 else if j = 2 then 32 else if j = 3 then 31 else 29
def G1 (x : Nat) (s : IS) : IS :=
  if x % 4 = 0 then ⟨19, 10 + ((x / 4 % 8 : Nat) : Int), w4 (x / 32 % 4), 0, ((hd s.r : Nat) : Int) % 8 - 2, s.r.tail⟩
  else if x % 4 = 1 then ⟨w3 (x / 4 % 3), 0, 2, 10, -4 - ((x / 12 % 3 : Nat) : Int) * 4, s.r⟩
  else if x % 4 = 2 then ⟨w5 (x / 4 % 5), 10 + ((x / 20 % 3 : Nat) : Int), 2, 0, -8 + ((x / 60 : Nat) : Int) * 4, s.r⟩
  else if 200 ≤ x then ⟨46, 0, 0, 0, 0, s.r⟩ else s
open Classical in
noncomputable def G2 (s : IS) : IS := if W.fmI s.a = 5 ∨ s.a = 45 then { s with f := (((hd s.r : Nat) : Int) % 7 - 2) * 4, r := s.r.tail } else s
noncomputable def G3 (x : Nat) (s : IS) : Int := if W.iok s.a s.b s.d s.e s.f = false ∧ x % 2 = 0 then (x : Int) else W.ew s.a s.b s.d s.e s.f
noncomputable def dWord (s : List Int × List Nat) : List Int × List Nat := (s.1 ++ [G3 (hd s.2) (G2 (G1 (hd s.2) (dIns s.2.tail)))], (G2 (G1 (hd s.2) (dIns s.2.tail))).r)
noncomputable def dWordN : Nat → List Int × List Nat → List Int × List Nat
  | 0, s => s
  | k + 1, s => dWord (dWordN k s)
noncomputable def dWords (r : List Nat) : List Int × List Nat := dWordN (hd r % 12 + 1) ([], r.tail)
theorem dWordN_len (k : Nat) (r : List Nat) : (dWordN k ([], r)).1.length = k := by
  induction k with
  | zero => rfl
  | succ k ih => show ((dWordN k ([], r)).1 ++ [_]).length = _; rw [List.length_append, ih]; rfl
end Go.Proofs.YtnapeklkhkonhaaGreatDoor.Pl
namespace Go.Proofs.YtnapeklkhkonhaaGreatDoor.W
open Go.RowKit
structure WMF (w : World) (c g : Nat) (v : Value) (k : Nat) (zs : List Int) (cs : Array Value) (r : List Nat) (u : World) : Prop where
  own : u.ownsRow w.heap.size 3 1 v k (zs.map (Value.int .i64))
  ne : ∀ j, v.ownBlock = some j → j < g
  row : u.heap[g]? = some (.cells cs 67)
  rd : RdAt u c r
  bel : OnlyB c w u
  cg : c < g
  wg : w.heap.size ≤ g
  cw : c < w.heap.size
section
variable {w u u' : World} {c g k : Nat} {v : Value} {zs : List Int} {cs : Array Value} {r q : List Nat}
theorem WMF.lt (h : WMF w c g v k zs cs r u) : g < u.heap.size := (Array.getElem?_eq_some_iff.1 h.row).1
theorem WMF.only (h : WMF w c g v k zs cs r u) (hr : RdAt u' c q) (ho : OnlyB c u u') : WMF w c g v k zs cs q u' := by
  have hl := h.lt
  have h1 := h.cg
  refine ⟨own_other h.own fun j hj => ?_, h.ne, by rw [ho.block g hl (by omega)]; exact h.row, hr, h.bel.trans ho, h1, h.wg, h.cw⟩
  have := h.own.lt j hj
  exact ho.block j this.2 (by have := h.cw; omega)
theorem WMF.alloc (h : WMF w c g v k zs cs r u) (o : Obj) : WMF w c g v k zs cs r (u.alloc o) := h.only (h.rd.alloc o) (OnlyB.of_below (below_alloc u o))
theorem WMF.drewN (h : WMF w c g v k zs cs r u) (m : Nat) : WMF w c g v k zs cs r (u.drewN m) := h.only (h.rd.drewN m) ⟨rfl, rfl, rfl, Nat.le_refl _, fun _ _ _ => rfl⟩
theorem WMF.drew (h : WMF w c g v k zs cs r u) : WMF w c g v k zs cs r u.drew := h.only (h.rd.drewN 1) ⟨rfl, rfl, rfl, Nat.le_refl _, fun _ _ _ => rfl⟩
theorem WMF.set (h : WMF w c g v k zs cs r u) (i : Nat) (x : Value) : WMF w c g v k zs (cs.setIfInBounds i x) r (u.setCell ⟨g, i, none⟩ x) := by
  have h1 := h.cg
  exact ⟨own_other h.own fun j hj => heap_setCell_other u ⟨g, i, none⟩ j _ (by have := h.ne j hj; show j ≠ g; omega), h.ne, heap_setCell_same u g i _ 67 _ h.row, h.rd.keep ((Below.refl _ _).setCell (p := ⟨g, i, none⟩) (B := g) (Nat.le_refl _) _) (by omega), h.bel.low ((Below.refl _ _).setCell (show w.heap.size ≤ g from h.wg) _), h1, h.wg, h.cw⟩
theorem WMF.of {cs' : Array Value} {r' : List Nat} (h : WMF w c g v k zs cs r u) (e : cs = cs') (e' : r = r') : WMF w c g v k zs cs' r' u := by rw [← e, ← e']; exact h
end
set_option maxRecDepth 8000 in
set_option maxHeartbeats 8000000 in
theorem words_f (w : World) (c : Nat) (r0 : List Nat) (h : RdAt w c r0) : Calls Tryz.prog 36 #[.pointer (some ⟨c, 0, none⟩)] w fun e w' => ∃ (g cap : Nat), e = .returned (.slice (some ⟨g, 0, none⟩) (Pl.dWords r0).1.length cap) ∧ Own .i64 3 w.heap.size w' (some ⟨g, 0, none⟩) (Pl.dWords r0).1.length cap (Pl.dWords r0).1 ∧ (Pl.dWords r0).1.length ≤ 12 ∧ RdAt w' c (Pl.dWords r0).2 ∧ OnlyB c w w' := by
  obtain ⟨i0, hi0, hz0, hz1, hz2⟩ := info_parts Tryz.infoi64
  have H0 : Hid (RdAt w c r0) := h
  have hcw : c < w.heap.size := h.lt
  have hn := hd_le h
  clear h
  go_enter Tryz.func36, Tryz.ntmps36
  go_wp2_with fail
  refine (next_f w c r0 H0.out).mono ?_
  rintro e u1 ⟨rfl, r1, d1⟩
  have hsz1 : w.heap.size ≤ u1.heap.size := d1.size
  have H1 : Hid (RdAt u1 c r0.tail ∧ OnlyB c w u1) := ⟨r1, d1⟩
  clear r1 d1
  obtain ⟨n, hnn⟩ : ∃ n, n = Pl.hd r0 := ⟨_, rfl⟩
  rw [← hnn] at hn ⊢
  obtain ⟨q, hq, hq11⟩ : ∃ q : Nat, ((n : Int).tmod 12) = (q : Int) ∧ q = n % 12 := ⟨n % 12, by rw [Int.tmod_eq_emod_of_nonneg (by omega)]; omega, rfl⟩
  have Qq : Hid (q = Pl.hd r0 % 12) := by show q = _; rw [hq11, hnn]
  have hq12 : q ≤ 11 := by omega
  clear hq11 hnn
  go_wp2_with fail
  go_loopw [4, 5] (fun v i wr => ∃ k : Nat, k ≤ q + 1 ∧ i = .int .i64 k ∧ (∃ g cp, v = .slice (some ⟨g, 0, none⟩) k cp) ∧ wr.ownsRow w.heap.size 3 1 v k ((Pl.dWordN k ([], r0.tail)).1.map (Value.int .i64)) ∧ (∀ x ∈ (Pl.dWordN k ([], r0.tail)).1, (Lit.int .i64 x).wf = true) ∧ RdAt wr c (Pl.dWordN k ([], r0.tail)).2 ∧ OnlyB c w wr) (fun _ i _ => q + 1 - (intOf i).toNat)
  case atStart =>
    refine ⟨0, Nat.zero_le _, rfl, ⟨_, _, rfl⟩, ?_, (fun x hx => (by cases hx)), H1.out.1.alloc _, H1.out.2.trans (OnlyB.of_below (below_alloc u1 _))⟩
    exact World.ownsRow_lit u1 #[] 0 (base := w.heap.size) (e := 3) (size := 1) hsz1 (Nat.zero_le _) rfl
  case round =>
    obtain ⟨k, hk, rfl, ⟨g, cp, rfl⟩, hown, hwf, hrd, hon⟩ := hrel
    obtain ⟨zs, hzs⟩ : ∃ zs, zs = (Pl.dWordN k ([], r0.tail)).1 := ⟨_, rfl⟩
    obtain ⟨ra, hra⟩ : ∃ ra, ra = (Pl.dWordN k ([], r0.tail)).2 := ⟨_, rfl⟩
    have HD : Hid (Pl.dWordN (k + 1) ([], r0.tail) = Pl.dWord (zs, ra)) := by show Pl.dWord _ = _; rw [hzs, hra]
    rw [← hzs] at hown hwf
    have HW : Hid (∀ x ∈ zs, (Lit.int .i64 x).wf = true) := hwf
    rw [← hra] at hrd
    have HO : Hid (wr.ownsRow w.heap.size 3 1 (.slice (some ⟨g, 0, none⟩) k cp) k (zs.map (Value.int .i64))) := hown
    have HR : Hid (RdAt wr c ra ∧ OnlyB c w wr) := ⟨hrd, hon⟩
    have hx := hd_le hrd
    have HZ : Hid (zs = (Pl.dWordN k ([], r0.tail)).1 ∧ ra = (Pl.dWordN k ([], r0.tail)).2) := ⟨hzs, hra⟩
    clear hown hwf hrd hon hzs hra
    by_cases hl : k < q + 1
    · have hi : (k : Int) < 1 + (q : Int) := by omega
      clear HZ
      go_wp2_with fail
      refine (next_f wr c ra HR.out.1).mono ?_
      rintro e u2 ⟨rfl, r2, d2⟩
      have HO2 : Hid (u2.ownsRow w.heap.size 3 1 (.slice (some ⟨g, 0, none⟩) k cp) k (zs.map (Value.int .i64))) := own_only HO.out d2 (by omega)
      have HR2 : Hid (RdAt u2 c ra.tail ∧ OnlyB c w u2) := ⟨r2, HR.out.2.trans d2⟩
      clear r2 d2 HO HR
      obtain ⟨x, hxx⟩ : ∃ x, x = Pl.hd ra := ⟨_, rfl⟩
      rw [← hxx] at hx ⊢
      have Qx : Hid (x = Pl.hd ra) := hxx
      clear hxx
      go_wp2_with fail
      refine (inst_f u2 c ra.tail HR2.out.1).mono ?_
      rintro e u3 ⟨rfl, r3, d3⟩
      have HO3 : Hid (u3.ownsRow w.heap.size 3 1 (.slice (some ⟨g, 0, none⟩) k cp) k (zs.map (Value.int .i64))) := own_only HO2.out d3 (by omega)
      obtain ⟨s0, hs0⟩ : ∃ s0, s0 = Pl.dIns ra.tail := ⟨_, rfl⟩
      rw [← hs0] at r3 ⊢
      have Qs0 : Hid (s0 = Pl.dIns ra.tail) := hs0
      have HR3 : Hid (RdAt u3 c s0.r ∧ OnlyB c w u3) := ⟨r3, HR2.out.2.trans d3⟩
      clear r3 d3 HO2 HR2 hs0
      obtain ⟨q4, e4, h4⟩ : ∃ q : Nat, ((x : Int).tmod 4) = (q : Int) ∧ q = x % 4 := ⟨x % 4, by rw [Int.tmod_eq_emod_of_nonneg (by omega)]; omega, rfl⟩
      have Q4 : Hid (q4 = x % 4) := h4
      have hq4 : q4 ≤ 3 := by omega
      clear h4
      go_upto_if 26 with fail
      obtain ⟨u4, hu4⟩ : ∃ u, u3.alloc (.cells #[.int .i64 s0.a, .int .i64 s0.b, .int .i64 s0.d, .int .i64 s0.e, .int .i64 s0.f] 67) = u := ⟨_, rfl⟩
      rw [hu4]
      obtain ⟨b, hb⟩ : ∃ b, b = u3.heap.size := ⟨_, rfl⟩
      rw [← hb]
      have hrow4 : u4.heap[b]? = some (.cells s0.row 67) := by rw [← hu4, hb]; exact heap_alloc_new u3 _
      have M4 : Hid (WMF w c b (.slice (some ⟨g, 0, none⟩) k cp) k zs s0.row s0.r u4) := by
        have h3 := HR3.out.2.size
        refine ⟨?_, fun j hj => ?_, hrow4, ?_, ?_, by omega, by omega, hcw⟩
        · rw [← hu4]; exact HO3.out.alloc _
        · rw [hb]; exact (HO3.out.lt j hj).2
        · rw [← hu4]; exact HR3.out.1.alloc _
        · rw [← hu4]; exact HR3.out.2.trans (OnlyB.of_below (below_alloc u3 _))
      clear hrow4 hu4 hb HO3 HR3
      have hx' : (x : Int) ≤ 255 := by omega
      go_cut [7] from 13 to 109 (fun s7 wx => s7 = .pointer (some ⟨b, 0, none⟩) ∧ WMF w c b (.slice (some ⟨g, 0, none⟩) k cp) k zs (Pl.G1 x s0).row (Pl.G1 x s0).r wx)
      case first =>
        have kc : ∀ j, u4.cell? ⟨b, j, none⟩ = (#[.int .i64 s0.a, .int .i64 s0.b, .int .i64 s0.d, .int .i64 s0.e, .int .i64 s0.f] : Array Value)[j]? := (fun j => cell_of_row u4 b j _ 67 (0, 0) M4.out.row)
        have kf : ∀ j, u4.frozen? ⟨b, j, none⟩ = false := (fun j => frozen_of_row u4 b j _ 67 M4.out.row)
        have hlb : b < u4.heap.size := M4.out.lt
        have kca : ∀ o j, (u4.alloc o).cell? ⟨b, j, none⟩ = (#[.int .i64 s0.a, .int .i64 s0.b, .int .i64 s0.d, .int .i64 s0.e, .int .i64 s0.f] : Array Value)[j]? := fun o j => ((below_alloc u4 o).cell (p := ⟨b, j, none⟩) hlb).trans (kc j)
        have kfa : ∀ o j, (u4.alloc o).frozen? ⟨b, j, none⟩ = false := fun o j => ((below_alloc u4 o).frozen (p := ⟨b, j, none⟩) hlb).trans (kf j)
        have hm4 := hd_le M4.out.rd
        rcases (show q4 = 0 ∨ q4 = 1 ∨ q4 = 2 ∨ q4 = 3 by omega) with rfl | rfl | rfl | rfl
        · obtain ⟨y4, f4, hy4⟩ : ∃ y : Nat, ((x : Int).tdiv 4) = (y : Int) ∧ y = x / 4 := ⟨x / 4, by rw [Int.tdiv_eq_ediv_of_nonneg (by omega)]; omega, rfl⟩
          obtain ⟨q8, e8, hq8⟩ : ∃ y : Nat, ((y4 : Int).tmod 8) = (y : Int) ∧ y = y4 % 8 := ⟨y4 % 8, by rw [Int.tmod_eq_emod_of_nonneg (by omega)]; omega, rfl⟩
          obtain ⟨y32, f32, hy32⟩ : ∃ y : Nat, ((x : Int).tdiv 32) = (y : Int) ∧ y = x / 32 := ⟨x / 32, by rw [Int.tdiv_eq_ediv_of_nonneg (by omega)]; omega, rfl⟩
          obtain ⟨q32, e32, hq32⟩ : ∃ y : Nat, ((y32 : Int).tmod 4) = (y : Int) ∧ y = y32 % 4 := ⟨y32 % 4, by rw [Int.tmod_eq_emod_of_nonneg (by omega)]; omega, rfl⟩
          have hc4 : c < u4.heap.size := by have := M4.out.cg; omega
          have hb32 : y32 ≤ 255 := by omega
          have hb4 : y4 ≤ 255 := by omega
          have hw32 : IntKind.i64.wrap (y32 : Int) = (y32 : Int) := by rw [IntKind.wrap_i64]; omega
          have hw4 : IntKind.i64.wrap (y4 : Int) = (y4 : Int) := by rw [IntKind.wrap_i64]; omega
          have hw8 : IntKind.i64.wrap (10 + (q8 : Int)) = 10 + (q8 : Int) := by rw [IntKind.wrap_i64]; omega
          obtain ⟨m5, hm5⟩ : ∃ m, m = Pl.hd s0.r := ⟨_, rfl⟩
          rw [← hm5] at hm4
          have HN : Hid (∀ u : World, WMF w c b (.slice (some ⟨g, 0, none⟩) k cp) k zs s0.row s0.r u → Calls Tryz.prog 23 #[.pointer (some ⟨c, 0, none⟩)] u fun e w' => e = .returned (.int .i64 (m5 : Int)) ∧ OnlyB c u w' ∧ WMF w c b (.slice (some ⟨g, 0, none⟩) k cp) k zs s0.row s0.r.tail w') := fun u hu => (next_f u c s0.r hu.rd).mono fun e w' ⟨he, hr, ho⟩ => ⟨by rw [hm5]; exact he, ho, hu.only hr ho⟩
          have HF8 : Hid (IntKind.i64.wrap ((m5 : Int).tmod 8 - 2) = (m5 : Int) % 8 - 2) := by show _ = _; rw [IntKind.wrap_i64, Int.tmod_eq_emod_of_nonneg (by omega)]; omega
          have Qm : Hid (m5 = Pl.hd s0.r ∧ q8 = x / 4 % 8 ∧ q32 = x / 32 % 4) := ⟨hm5, by rw [hq8, hy4], by rw [hq32, hy32]⟩
          have b8 : q8 ≤ 7 := by omega
          have b32 : q32 ≤ 3 := by omega
          clear kc kf kca kfa hm5 hq8 hy4 hq32 hy32
          rcases (show q32 = 0 ∨ q32 = 1 ∨ q32 = 2 ∨ q32 = 3 by omega) with rfl | rfl | rfl | rfl
          · replace e32 : (y32 : Int).tmod 4 = 0 := e32
            go_wp2_with fail
            go_region_with (go_at_call 23; refine (HN.out _ (by repeat (first | with_reducible exact M4.out | with_reducible apply WMF.set | with_reducible apply WMF.alloc | with_reducible apply WMF.drewN | with_reducible apply WMF.drew))).mono ?_; rintro e u5 ⟨rfl, o5, h5⟩; have M5 : Hid (WMF w c b (.slice (some ⟨g, 0, none⟩) k cp) k zs s0.row s0.r.tail u5) := h5; have kc5 : ∀ j, u5.cell? ⟨b, j, none⟩ = (#[.int .i64 s0.a, .int .i64 s0.b, .int .i64 s0.d, .int .i64 s0.e, .int .i64 s0.f] : Array Value)[j]? := (fun j => cell_of_row u5 b j _ 67 (0, 0) M5.out.row); have kf5 : ∀ j, u5.frozen? ⟨b, j, none⟩ = false := (fun j => frozen_of_row u5 b j _ 67 M5.out.row); (try (have kt : ∀ j, u5.cell? ⟨u4.heap.size, j, none⟩ = (#[.int .i64 0, .int .i64 10, .int .i64 2, .int .i64 17] : Array Value)[j]? := fun j => cell_of_row u5 u4.heap.size j _ 3 (0, 0) ((o5.block u4.heap.size (by simp) (by omega)).trans (heap_alloc_new _ _)))); have hl5 : b < u5.heap.size := M5.out.lt; have kc5a : ∀ o j, (u5.alloc o).cell? ⟨b, j, none⟩ = (#[.int .i64 s0.a, .int .i64 s0.b, .int .i64 s0.d, .int .i64 s0.e, .int .i64 s0.f] : Array Value)[j]? := fun o j => ((below_alloc u5 o).cell (p := ⟨b, j, none⟩) hl5).trans (kc5 j); have kf5a : ∀ o j, (u5.alloc o).frozen? ⟨b, j, none⟩ = false := fun o j => ((below_alloc u5 o).frozen (p := ⟨b, j, none⟩) hl5).trans (kf5 j); clear h5 o5 hl5)
            all_goals
              go_wp2_with fail
              go_meet
              refine ⟨rfl, ?_⟩
              apply WMF.of
              · repeat (first | with_reducible exact M5.out | with_reducible apply WMF.set | with_reducible apply WMF.alloc | with_reducible apply WMF.drewN | with_reducible apply WMF.drew)
              · unfold Pl.G1
                rw [if_pos Q4.out.symm]
                rw [← Qm.out.1, ← Qm.out.2.1, ← Qm.out.2.2, HF8.out]
                try rfl
              · unfold Pl.G1
                rw [if_pos Q4.out.symm]
          · replace e32 : (y32 : Int).tmod 4 = 1 := e32
            go_wp2_with fail
            go_region_with (go_at_call 23; refine (HN.out _ (by repeat (first | with_reducible exact M4.out | with_reducible apply WMF.set | with_reducible apply WMF.alloc | with_reducible apply WMF.drewN | with_reducible apply WMF.drew))).mono ?_; rintro e u5 ⟨rfl, o5, h5⟩; have M5 : Hid (WMF w c b (.slice (some ⟨g, 0, none⟩) k cp) k zs s0.row s0.r.tail u5) := h5; have kc5 : ∀ j, u5.cell? ⟨b, j, none⟩ = (#[.int .i64 s0.a, .int .i64 s0.b, .int .i64 s0.d, .int .i64 s0.e, .int .i64 s0.f] : Array Value)[j]? := (fun j => cell_of_row u5 b j _ 67 (0, 0) M5.out.row); have kf5 : ∀ j, u5.frozen? ⟨b, j, none⟩ = false := (fun j => frozen_of_row u5 b j _ 67 M5.out.row); (try (have kt : ∀ j, u5.cell? ⟨u4.heap.size, j, none⟩ = (#[.int .i64 0, .int .i64 10, .int .i64 2, .int .i64 17] : Array Value)[j]? := fun j => cell_of_row u5 u4.heap.size j _ 3 (0, 0) ((o5.block u4.heap.size (by simp) (by omega)).trans (heap_alloc_new _ _)))); have hl5 : b < u5.heap.size := M5.out.lt; have kc5a : ∀ o j, (u5.alloc o).cell? ⟨b, j, none⟩ = (#[.int .i64 s0.a, .int .i64 s0.b, .int .i64 s0.d, .int .i64 s0.e, .int .i64 s0.f] : Array Value)[j]? := fun o j => ((below_alloc u5 o).cell (p := ⟨b, j, none⟩) hl5).trans (kc5 j); have kf5a : ∀ o j, (u5.alloc o).frozen? ⟨b, j, none⟩ = false := fun o j => ((below_alloc u5 o).frozen (p := ⟨b, j, none⟩) hl5).trans (kf5 j); clear h5 o5 hl5)
            all_goals
              go_wp2_with fail
              go_meet
              refine ⟨rfl, ?_⟩
              apply WMF.of
              · repeat (first | with_reducible exact M5.out | with_reducible apply WMF.set | with_reducible apply WMF.alloc | with_reducible apply WMF.drewN | with_reducible apply WMF.drew)
              · unfold Pl.G1
                rw [if_pos Q4.out.symm]
                rw [← Qm.out.1, ← Qm.out.2.1, ← Qm.out.2.2, HF8.out]
                try rfl
              · unfold Pl.G1
                rw [if_pos Q4.out.symm]
          · replace e32 : (y32 : Int).tmod 4 = 2 := e32
            go_wp2_with fail
            go_region_with (go_at_call 23; refine (HN.out _ (by repeat (first | with_reducible exact M4.out | with_reducible apply WMF.set | with_reducible apply WMF.alloc | with_reducible apply WMF.drewN | with_reducible apply WMF.drew))).mono ?_; rintro e u5 ⟨rfl, o5, h5⟩; have M5 : Hid (WMF w c b (.slice (some ⟨g, 0, none⟩) k cp) k zs s0.row s0.r.tail u5) := h5; have kc5 : ∀ j, u5.cell? ⟨b, j, none⟩ = (#[.int .i64 s0.a, .int .i64 s0.b, .int .i64 s0.d, .int .i64 s0.e, .int .i64 s0.f] : Array Value)[j]? := (fun j => cell_of_row u5 b j _ 67 (0, 0) M5.out.row); have kf5 : ∀ j, u5.frozen? ⟨b, j, none⟩ = false := (fun j => frozen_of_row u5 b j _ 67 M5.out.row); (try (have kt : ∀ j, u5.cell? ⟨u4.heap.size, j, none⟩ = (#[.int .i64 0, .int .i64 10, .int .i64 2, .int .i64 17] : Array Value)[j]? := fun j => cell_of_row u5 u4.heap.size j _ 3 (0, 0) ((o5.block u4.heap.size (by simp) (by omega)).trans (heap_alloc_new _ _)))); have hl5 : b < u5.heap.size := M5.out.lt; have kc5a : ∀ o j, (u5.alloc o).cell? ⟨b, j, none⟩ = (#[.int .i64 s0.a, .int .i64 s0.b, .int .i64 s0.d, .int .i64 s0.e, .int .i64 s0.f] : Array Value)[j]? := fun o j => ((below_alloc u5 o).cell (p := ⟨b, j, none⟩) hl5).trans (kc5 j); have kf5a : ∀ o j, (u5.alloc o).frozen? ⟨b, j, none⟩ = false := fun o j => ((below_alloc u5 o).frozen (p := ⟨b, j, none⟩) hl5).trans (kf5 j); clear h5 o5 hl5)
            all_goals
              go_wp2_with fail
              go_meet
              refine ⟨rfl, ?_⟩
              apply WMF.of
              · repeat (first | with_reducible exact M5.out | with_reducible apply WMF.set | with_reducible apply WMF.alloc | with_reducible apply WMF.drewN | with_reducible apply WMF.drew)
              · unfold Pl.G1
                rw [if_pos Q4.out.symm]
                rw [← Qm.out.1, ← Qm.out.2.1, ← Qm.out.2.2, HF8.out]
                try rfl
              · unfold Pl.G1
                rw [if_pos Q4.out.symm]
          · replace e32 : (y32 : Int).tmod 4 = 3 := e32
            go_wp2_with fail
            go_region_with (go_at_call 23; refine (HN.out _ (by repeat (first | with_reducible exact M4.out | with_reducible apply WMF.set | with_reducible apply WMF.alloc | with_reducible apply WMF.drewN | with_reducible apply WMF.drew))).mono ?_; rintro e u5 ⟨rfl, o5, h5⟩; have M5 : Hid (WMF w c b (.slice (some ⟨g, 0, none⟩) k cp) k zs s0.row s0.r.tail u5) := h5; have kc5 : ∀ j, u5.cell? ⟨b, j, none⟩ = (#[.int .i64 s0.a, .int .i64 s0.b, .int .i64 s0.d, .int .i64 s0.e, .int .i64 s0.f] : Array Value)[j]? := (fun j => cell_of_row u5 b j _ 67 (0, 0) M5.out.row); have kf5 : ∀ j, u5.frozen? ⟨b, j, none⟩ = false := (fun j => frozen_of_row u5 b j _ 67 M5.out.row); (try (have kt : ∀ j, u5.cell? ⟨u4.heap.size, j, none⟩ = (#[.int .i64 0, .int .i64 10, .int .i64 2, .int .i64 17] : Array Value)[j]? := fun j => cell_of_row u5 u4.heap.size j _ 3 (0, 0) ((o5.block u4.heap.size (by simp) (by omega)).trans (heap_alloc_new _ _)))); have hl5 : b < u5.heap.size := M5.out.lt; have kc5a : ∀ o j, (u5.alloc o).cell? ⟨b, j, none⟩ = (#[.int .i64 s0.a, .int .i64 s0.b, .int .i64 s0.d, .int .i64 s0.e, .int .i64 s0.f] : Array Value)[j]? := fun o j => ((below_alloc u5 o).cell (p := ⟨b, j, none⟩) hl5).trans (kc5 j); have kf5a : ∀ o j, (u5.alloc o).frozen? ⟨b, j, none⟩ = false := fun o j => ((below_alloc u5 o).frozen (p := ⟨b, j, none⟩) hl5).trans (kf5 j); clear h5 o5 hl5)
            all_goals
              go_wp2_with fail
              go_meet
              refine ⟨rfl, ?_⟩
              apply WMF.of
              · repeat (first | with_reducible exact M5.out | with_reducible apply WMF.set | with_reducible apply WMF.alloc | with_reducible apply WMF.drewN | with_reducible apply WMF.drew)
              · unfold Pl.G1
                rw [if_pos Q4.out.symm]
                rw [← Qm.out.1, ← Qm.out.2.1, ← Qm.out.2.2, HF8.out]
                try rfl
              · unfold Pl.G1
                rw [if_pos Q4.out.symm]
        · obtain ⟨y4, f4, hy4⟩ : ∃ y : Nat, ((x : Int).tdiv 4) = (y : Int) ∧ y = x / 4 := ⟨x / 4, by rw [Int.tdiv_eq_ediv_of_nonneg (by omega)]; omega, rfl⟩
          obtain ⟨q3, e3, hq3⟩ : ∃ y : Nat, ((y4 : Int).tmod 3) = (y : Int) ∧ y = y4 % 3 := ⟨y4 % 3, by rw [Int.tmod_eq_emod_of_nonneg (by omega)]; omega, rfl⟩
          obtain ⟨y12, f12, hy12⟩ : ∃ y : Nat, ((x : Int).tdiv 12) = (y : Int) ∧ y = x / 12 := ⟨x / 12, by rw [Int.tdiv_eq_ediv_of_nonneg (by omega)]; omega, rfl⟩
          obtain ⟨q12, e12, hq12⟩ : ∃ y : Nat, ((y12 : Int).tmod 3) = (y : Int) ∧ y = y12 % 3 := ⟨y12 % 3, by rw [Int.tmod_eq_emod_of_nonneg (by omega)]; omega, rfl⟩
          have Qm : Hid (q3 = x / 4 % 3 ∧ q12 = x / 12 % 3) := ⟨by rw [hq3, hy4], by rw [hq12, hy12]⟩
          have b3 : q3 ≤ 2 := by omega
          have b12 : q12 ≤ 2 := by omega
          have b4 : y4 ≤ 255 := by omega
          have c12 : y12 ≤ 255 := by omega
          clear hq3 hy4 hq12 hy12
          have h40 : Hid (¬ x % 4 = 0) := by show ¬ x % 4 = 0; have := Q4.out; omega
          rcases (show q3 = 0 ∨ q3 = 1 ∨ q3 = 2 by omega) with rfl | rfl | rfl
          all_goals
            go_wp2_with fail
            go_meet
            refine ⟨rfl, ?_⟩
            apply WMF.of
            · repeat (first | with_reducible exact M4.out | with_reducible apply WMF.set | with_reducible apply WMF.alloc | with_reducible apply WMF.drewN | with_reducible apply WMF.drew)
            · unfold Pl.G1
              rw [if_neg h40.out, if_pos Q4.out.symm]
              rw [← Qm.out.1, ← Qm.out.2]
              try rfl
            · unfold Pl.G1
              rw [if_neg h40.out, if_pos Q4.out.symm]
        · obtain ⟨y4, f4, hy4⟩ : ∃ y : Nat, ((x : Int).tdiv 4) = (y : Int) ∧ y = x / 4 := ⟨x / 4, by rw [Int.tdiv_eq_ediv_of_nonneg (by omega)]; omega, rfl⟩
          obtain ⟨q5, e5, hq5⟩ : ∃ y : Nat, ((y4 : Int).tmod 5) = (y : Int) ∧ y = y4 % 5 := ⟨y4 % 5, by rw [Int.tmod_eq_emod_of_nonneg (by omega)]; omega, rfl⟩
          obtain ⟨y20, f20, hy20⟩ : ∃ y : Nat, ((x : Int).tdiv 20) = (y : Int) ∧ y = x / 20 := ⟨x / 20, by rw [Int.tdiv_eq_ediv_of_nonneg (by omega)]; omega, rfl⟩
          obtain ⟨q20, e20, hq20⟩ : ∃ y : Nat, ((y20 : Int).tmod 3) = (y : Int) ∧ y = y20 % 3 := ⟨y20 % 3, by rw [Int.tmod_eq_emod_of_nonneg (by omega)]; omega, rfl⟩
          obtain ⟨q60, e60, hq60⟩ : ∃ y : Nat, ((x : Int).tdiv 60) = (y : Int) ∧ y = x / 60 := ⟨x / 60, by rw [Int.tdiv_eq_ediv_of_nonneg (by omega)]; omega, rfl⟩
          have Qm : Hid (q5 = x / 4 % 5 ∧ q20 = x / 20 % 3 ∧ q60 = x / 60) := ⟨by rw [hq5, hy4], by rw [hq20, hy20], hq60⟩
          have b5 : q5 ≤ 4 := by omega
          have b20 : q20 ≤ 2 := by omega
          have b4 : y4 ≤ 255 := by omega
          have c20 : y20 ≤ 255 := by omega
          have b60 : q60 ≤ 4 := by omega
          clear hq5 hy4 hq20 hy20 hq60
          have h40 : Hid (¬ x % 4 = 0) := by show ¬ x % 4 = 0; have := Q4.out; omega
          have h41 : Hid (¬ x % 4 = 1) := by show ¬ x % 4 = 1; have := Q4.out; omega
          rcases (show q5 = 0 ∨ q5 = 1 ∨ q5 = 2 ∨ q5 = 3 ∨ q5 = 4 by omega) with rfl | rfl | rfl | rfl | rfl
          all_goals
            go_wp2_with fail
            go_meet
            refine ⟨rfl, ?_⟩
            apply WMF.of
            · repeat (first | with_reducible exact M4.out | with_reducible apply WMF.set | with_reducible apply WMF.alloc | with_reducible apply WMF.drewN | with_reducible apply WMF.drew)
            · unfold Pl.G1
              rw [if_neg h40.out, if_neg h41.out, if_pos Q4.out.symm]
              rw [← Qm.out.1, ← Qm.out.2.1, ← Qm.out.2.2]
              try rfl
            · unfold Pl.G1
              rw [if_neg h40.out, if_neg h41.out, if_pos Q4.out.symm]
        · by_cases h200 : 200 ≤ x
          · have h200' : (200 : Int) ≤ (x : Int) := by omega
            go_wp2_with fail
            go_meet
            refine ⟨rfl, ?_⟩
            apply WMF.of
            · repeat (first | with_reducible exact M4.out | with_reducible apply WMF.set | with_reducible apply WMF.alloc | with_reducible apply WMF.drewN | with_reducible apply WMF.drew)
            · unfold Pl.G1
              rw [if_neg (show ¬ x % 4 = 0 by have := Q4.out; omega), if_neg (show ¬ x % 4 = 1 by have := Q4.out; omega), if_neg (show ¬ x % 4 = 2 by have := Q4.out; omega), if_pos h200]
              skip
              try rfl
            · unfold Pl.G1
              rw [if_neg (show ¬ x % 4 = 0 by have := Q4.out; omega), if_neg (show ¬ x % 4 = 1 by have := Q4.out; omega), if_neg (show ¬ x % 4 = 2 by have := Q4.out; omega), if_pos h200]
          · have h200' : ¬ (200 : Int) ≤ (x : Int) := by omega
            go_wp2_with fail
            go_meet
            refine ⟨rfl, ?_⟩
            apply WMF.of
            · repeat (first | with_reducible exact M4.out | with_reducible apply WMF.set | with_reducible apply WMF.alloc | with_reducible apply WMF.drewN | with_reducible apply WMF.drew)
            · unfold Pl.G1
              rw [if_neg (show ¬ x % 4 = 0 by have := Q4.out; omega), if_neg (show ¬ x % 4 = 1 by have := Q4.out; omega), if_neg (show ¬ x % 4 = 2 by have := Q4.out; omega), if_neg h200]
              skip
              try rfl
            · unfold Pl.G1
              rw [if_neg (show ¬ x % 4 = 0 by have := Q4.out; omega), if_neg (show ¬ x % 4 = 1 by have := Q4.out; omega), if_neg (show ¬ x % 4 = 2 by have := Q4.out; omega), if_neg h200]
      case rest =>
      obtain ⟨rfl, hst⟩ := hcut
      obtain ⟨u6, hu6⟩ : ∃ u : World, u = wc := ⟨wc, rfl⟩
      rw [← hu6] at hst ⊢
      obtain ⟨s1, hs1⟩ : ∃ s, s = Pl.G1 x s0 := ⟨_, rfl⟩
      rw [← hs1] at hst
      have Qs1 : Hid (s1 = Pl.G1 x s0) := hs1
      have M6 : Hid (WMF w c b (.slice (some ⟨g, 0, none⟩) k cp) k zs s1.row s1.r u6) := hst
      clear hst hu6 M4 hs1 e4 Q4 hq4
      have kc : ∀ j, u6.cell? ⟨b, j, none⟩ = (#[.int .i64 s1.a, .int .i64 s1.b, .int .i64 s1.d, .int .i64 s1.e, .int .i64 s1.f] : Array Value)[j]? := (fun j => cell_of_row u6 b j _ 67 (0, 0) M6.out.row)
      obtain ⟨f, hf⟩ : ∃ f, f = fmI s1.a := ⟨_, rfl⟩
      have HF : Hid (∀ a : Int, a = s1.a → ∀ w : World, Calls Tryz.prog 50 #[.int .i64 a] w fun e w' => e = .returned (.int .i64 f) ∧ w' = w) := by intro a ha; rw [hf, ha]; exact fun w => fmI_is s1.a w
      have Qf : Hid (f = fmI s1.a) := hf
      clear hf
      go_upto_region 16 with fail
      go_cut [7, 86] from 13 to 109 (fun s7 s86 wx => s7 = .pointer (some ⟨b, 0, none⟩) ∧ s86 = .bool (decide (f = 5 ∨ s1.a = 45)) ∧ wx = u6)
      case first =>
        by_cases hf5 : f = 5
        · have ef5 : (f == 5) = true := by simp; omega
          go_wp2_with (go_at_call 50; refine (HF.out _ (by first | with_reducible rfl | exact hj.symm) u6).mono ?_; rintro e u7 ⟨rfl, h7⟩; rw [h7]; clear h7 u7)
          go_meet
          exact ⟨rfl, by rw [decide_eq_true (.inl hf5)], rfl⟩
        · have ef5 : (f == 5) = false := by simp; omega
          by_cases hj : s1.a = 45
          · have ej : (s1.a == 45) = true := by simp; omega
            go_wp2_with (go_at_call 50; refine (HF.out _ (by first | with_reducible rfl | exact hj.symm) u6).mono ?_; rintro e u7 ⟨rfl, h7⟩; rw [h7]; clear h7 u7)
            go_meet
            exact ⟨rfl, by rw [decide_eq_true (.inr hj)], rfl⟩
          · have ej : (s1.a == 45) = false := by simp; omega
            go_wp2_with (go_at_call 50; refine (HF.out _ (by first | with_reducible rfl | exact hj.symm) u6).mono ?_; rintro e u7 ⟨rfl, h7⟩; rw [h7]; clear h7 u7)
            go_meet
            exact ⟨rfl, by rw [decide_eq_false (fun q => q.elim hf5 hj)], rfl⟩
      case rest =>
      obtain ⟨rfl, rfl, hwc⟩ := hcut
      rw [hwc]
      clear hwc HF kc
      go_upto_if 86 with fail
      go_cut [7] from 13 to 109 (fun s7 wx => s7 = .pointer (some ⟨b, 0, none⟩) ∧ WMF w c b (.slice (some ⟨g, 0, none⟩) k cp) k zs (Pl.G2 s1).row (Pl.G2 s1).r wx)
      case first =>
        by_cases hB : f = 5 ∨ s1.a = 45
        rotate_left
        · rw [decide_eq_false hB]
          go_wp2_with fail
          go_meet
          refine ⟨rfl, ?_⟩
          unfold Pl.G2
          rw [if_neg (by rw [← Qf.out]; exact hB)]
          exact M6.out
        · rw [decide_eq_true hB]
          go_wp2_with fail
          refine (next_f u6 c s1.r M6.out.rd).mono ?_
          rintro e u7 ⟨rfl, r7, d7⟩
          have hm7 := hd_le M6.out.rd
          have M7 : Hid (WMF w c b (.slice (some ⟨g, 0, none⟩) k cp) k zs s1.row s1.r.tail u7) := M6.out.only r7 d7
          clear r7 d7
          obtain ⟨m7, hm7e⟩ : ∃ m, m = Pl.hd s1.r := ⟨_, rfl⟩
          rw [← hm7e] at hm7 ⊢
          have Qm7 : Hid (m7 = Pl.hd s1.r) := hm7e
          clear hm7e
          have kc : ∀ j, u7.cell? ⟨b, j, none⟩ = (#[.int .i64 s1.a, .int .i64 s1.b, .int .i64 s1.d, .int .i64 s1.e, .int .i64 s1.f] : Array Value)[j]? := (fun j => cell_of_row u7 b j _ 67 (0, 0) M7.out.row)
          have kf : ∀ j, u7.frozen? ⟨b, j, none⟩ = false := (fun j => frozen_of_row u7 b j _ 67 M7.out.row)
          have hm7' : (m7 : Int) ≤ 255 := by omega
          go_wp2_with fail
          go_meet
          refine ⟨rfl, ?_⟩
          apply WMF.of
          · repeat (first | with_reducible exact M7.out | with_reducible apply WMF.set | with_reducible apply WMF.alloc | with_reducible apply WMF.drewN | with_reducible apply WMF.drew)
          · unfold Pl.G2
            rw [if_pos (by rw [← Qf.out]; exact hB), ← Qm7.out]
            rfl
          · unfold Pl.G2
            rw [if_pos (by rw [← Qf.out]; exact hB)]
      case rest =>
      obtain ⟨rfl, hst⟩ := hcut
      obtain ⟨u8, hu8⟩ : ∃ u : World, u = wc := ⟨wc, rfl⟩
      rw [← hu8] at hst ⊢
      obtain ⟨s2, hs2⟩ : ∃ s, s = Pl.G2 s1 := ⟨_, rfl⟩
      rw [← hs2] at hst
      have Qs2 : Hid (s2 = Pl.G2 s1) := hs2
      have M8 : Hid (WMF w c b (.slice (some ⟨g, 0, none⟩) k cp) k zs s2.row s2.r u8) := hst
      clear hst hu8 M6 hs2 Qf f
      have kc : ∀ j, u8.cell? ⟨b, j, none⟩ = (#[.int .i64 s2.a, .int .i64 s2.b, .int .i64 s2.d, .int .i64 s2.e, .int .i64 s2.f] : Array Value)[j]? := (fun j => cell_of_row u8 b j _ 67 (0, 0) M8.out.row)
      go_wp2_with fail
      refine (specEnc_all s2.a s2.b s2.d s2.e s2.f u8).mono ?_
      rintro e u9 ⟨rfl, d9⟩
      have M9 : Hid (WMF w c b (.slice (some ⟨g, 0, none⟩) k cp) k zs s2.row s2.r u9) := M8.out.only (M8.out.rd.keep d9 (by have := M8.out.cg; have := M8.out.lt; omega)) (OnlyB.of_below d9)
      clear d9 kc M8
      obtain ⟨q2, e2, h2⟩ : ∃ q : Nat, ((x : Int).tmod 2) = (q : Int) ∧ q = x % 2 := ⟨x % 2, by rw [Int.tmod_eq_emod_of_nonneg (by omega)]; omega, rfl⟩
      obtain ⟨ok, hok⟩ : ∃ ok, ok = iok s2.a s2.b s2.d s2.e s2.f := ⟨_, rfl⟩
      obtain ⟨y, hy⟩ : ∃ y, y = ew s2.a s2.b s2.d s2.e s2.f := ⟨_, rfl⟩
      rw [← hok, ← hy]
      have HG : Hid (∀ z : Int, z = Pl.G3 x s2 → Pl.dWordN (k + 1) ([], r0.tail) = (zs ++ [z], s2.r)) := fun z hz => by
        rw [HD.out, hz, Qs2.out, Qs1.out, Qs0.out, Qx.out]
        rfl
      have HFin : Hid (∀ (z : Int) (v' : Value) (u3 : World), z = Pl.G3 x s2 → u3.ownsRow w.heap.size 3 1 v' (k + 1) (zs.map (Value.int .i64) ++ [.int .i64 z]) → Below w.heap.size u9 u3 → ∃ k' : Nat, k' ≤ q + 1 ∧ Value.int .i64 ((k : Int) + 1) = .int .i64 k' ∧ (∃ g cp, v' = .slice (some ⟨g, 0, none⟩) k' cp) ∧ u3.ownsRow w.heap.size 3 1 v' k' ((Pl.dWordN k' ([], r0.tail)).1.map (Value.int .i64)) ∧ (∀ x ∈ (Pl.dWordN k' ([], r0.tail)).1, (Lit.int .i64 x).wf = true) ∧ RdAt u3 c (Pl.dWordN k' ([], r0.tail)).2 ∧ OnlyB c w u3) := by
        intro z v' u3 hz hown' hb3
        obtain ⟨g', c', hv', _, _⟩ := hown'.form (by omega)
        refine ⟨k + 1, by omega, by simp, ⟨g', c', hv'⟩, ?_, ?_, ?_, ?_⟩
        · rw [HG.out z hz]
          show u3.ownsRow _ _ _ _ _ ((zs ++ [z]).map _)
          rw [List.map_append]
          exact hown'
        · rw [HG.out z hz]
          intro t ht
          rcases List.mem_append.1 (show t ∈ zs ++ [z] from ht) with ht | ht
          · exact HW.out t ht
          · rw [List.mem_singleton.1 ht, hz]
            refine i64_wf ?_
            unfold Pl.G3
            split
            · omega
            · have := ew_wf s2.a s2.b s2.d s2.e s2.f
              omega
        · rw [HG.out z hz]
          exact M9.out.rd.keep hb3 hcw
        · exact ⟨hb3.os.trans M9.out.bel.os, hb3.tape.trans M9.out.bel.tape, hb3.output.trans M9.out.bel.output, Nat.le_trans M9.out.bel.size hb3.size, fun b hb hbc => (hb3.block b hb).trans (M9.out.bel.block b hb hbc)⟩
      have HY : Hid (u9.ownsRow w.heap.size 3 1 (.slice (some ⟨g, 0, none⟩) k cp) k (zs.map (Value.int .i64))) := M9.out.own
      have hs9 : w.heap.size ≤ u9.heap.size := M9.out.bel.size
      have hGR : Hid (∀ (A : Value) (u3 : World), (u9.alloc (.cells #[A] 3)).grownBy u3 (Value.slice (some ⟨g, 0, none⟩) k cp).ownBlock → Below w.heap.size u9 u3) := fun A u3 hgr => ((Below.refl _ _).alloc (by omega) _).grown hgr (by simp; omega) (fun j hj => (HY.out.lt j hj).1)
      have HZ3 : Hid ((ok = false → q2 = 0 → (x : Int) = Pl.G3 x s2) ∧ (ok = true ∨ q2 = 1 → y = Pl.G3 x s2)) := by
        refine ⟨fun a b => ?_, fun a => ?_⟩
        · unfold Pl.G3
          rw [if_pos ⟨hok ▸ a, by omega⟩]
        · unfold Pl.G3
          rw [if_neg (by rintro ⟨c1, c2⟩; rcases a with a | a; rw [hok, c1] at a; cases a; omega), hy]
      have b2 : q2 ≤ 1 := by omega
      clear hok hy h2 HG
      rcases (show q2 = 0 ∨ q2 = 1 by omega) with rfl | rfl
      all_goals cases ok
      all_goals
        go_wp2_with (at_builtin; refine wpList_append_own _ rfl (.tmp 106) (.tmp 108) 23 rfl w.heap.size 3 i0 (.int .i64 0) 1 8 Tryz.underlying23 hi0 hz0 hz1 hz2 rfl (by decide) _ _ _ rfl (HY.out.alloc _) ⟨u9.heap.size, 0, none⟩ 1 _ [_] rfl rfl (int_news u9 _) (by intro u hu; simp at hu; subst hu; rfl) (by unfold maxLen; omega) (by omega) (by simp; omega) ?_; intro v' u3 hown' hgr _)
        refine ⟨HFin.out _ v' u3 ?_ hown' (hGR.out _ u3 hgr), by simp [intOf]; omega⟩
        first | exact HZ3.out.1 (by decide) (by decide) | exact HZ3.out.2 (by decide)
    · have hi : ¬ (k : Int) < 1 + (q : Int) := by omega
      obtain rfl : k = q + 1 := by omega
      have HE : Hid (Pl.dWords r0 = (zs, ra)) := by
        show Pl.dWordN (Pl.hd r0 % 12 + 1) ([], r0.tail) = _
        rw [← Qq.out, HZ.out.1, HZ.out.2]
      have hlen : zs.length = q + 1 := by rw [HZ.out.1, Pl.dWordN_len]
      go_wp2
      go_ret
      rw [HE.out]
      exact ⟨g, cp, by rw [show (zs, ra).1.length = q + 1 from hlen]; rfl, by rw [show (zs, ra).1.length = q + 1 from hlen]; exact ⟨HO.out, HW.out⟩, by show zs.length ≤ 12; omega, HR.out⟩
end Go.Proofs.YtnapeklkhkonhaaGreatDoor.W
