import Derived.Test.YtfcfnbncgadomaaQ01
import Derived.Test.YtfcfnbncgadomaaQ02
import Derived.Deep.RegionWith
import Derived.Deep.RegionHeld3
set_option linter.unusedVariables false
set_option linter.unusedSimpArgs false
namespace Go.Proofs.Ytfcfnbncgadomaa.W
open Go.RowKit
theorem i64_wf {x : Int} (h : -1099511627776 ≤ x ∧ x ≤ 1099511627776) : (Lit.int .i64 x).wf = true := by
  simp [Lit.wf, IntKind.min, IntKind.max, IntKind.signed, IntKind.bits]
  omega
/-- what spec.l2Form answers to whatever number -/
theorem form_all (n : Int) : ∃ f : Int, ∀ w : World, Calls Try.prog 84 #[.int .i64 n] w fun e w' => e = .returned (.int .i64 f) ∧ w' = w := by
  by_cases h : 1 ≤ n ∧ n ≤ 47
  · refine ⟨(Pl.fmN n.toNat : Int), fun w => ?_⟩
    have := form_any n.toNat (by omega) (by omega) w
    rw [show ((n.toNat : Nat) : Int) = n by omega] at this
    exact this
  · exact ⟨0, fun w => form_no n (by omega) w⟩
theorem int_news (w : World) (A : Value) (j : Nat) (u : Value) (hj : [A][j]? = some u) : (w.alloc (.cells #[A] 3)).cell? ((⟨w.heap.size, 0, none⟩ : Addr).add j) = some u := by
  rcases j with _ | j
  · cases hj
    exact cell_of_row _ w.heap.size 0 _ 3 (0, 0) (heap_alloc_new w _)
  · simp at hj
/-- a round of spec.l3Words: the words so far, the instruction at g -/
structure WMid (w : World) (c g : Nat) (v : Value) (k : Nat) (u : World) : Prop where
  own : ∃ zs : List Int, u.ownsRow w.heap.size 3 1 v k (zs.map (Value.int .i64)) ∧ (∀ x ∈ zs, (Lit.int .i64 x).wf = true)
  ne : ∀ j, v.ownBlock = some j → j < g
  row : ∃ a b d e f : Int, u.heap[g]? = some (.cells #[.int .i64 a, .int .i64 b, .int .i64 d, .int .i64 e, .int .i64 f] 105)
  rd : RdOk u c
  bel : OnlyB c w u
  cg : c < g
  wg : w.heap.size ≤ g
  cw : c < w.heap.size
theorem WMid.lt {w u : World} {c g k : Nat} {v : Value} (h : WMid w c g v k u) : g < u.heap.size := by
  obtain ⟨a, b, d, e, f, hr⟩ := h.row
  exact (Array.getElem?_eq_some_iff.1 hr).1
theorem own_other {base : Nat} {e : TypeId} {k : Nat} {v : Value} {n : Nat} {xs : List Value} {w w' : World} (h : w.ownsRow base e k v n xs) (hb : ∀ g, v.ownBlock = some g → w'.heap[g]? = w.heap[g]?) : w'.ownsRow base e k v n xs := by
  refine ⟨h.1, ?_⟩
  rcases h.2 with ⟨a, b⟩ | ⟨g, cap, cur, h0, hlo, hg, r⟩
  · exact .inl ⟨a, b⟩
  · exact .inr ⟨g, cap, cur, h0, hlo, (hb g (by rw [h0]; rfl)).trans hg, r⟩
theorem WMid.only {w u u' : World} {c g k : Nat} {v : Value} (h : WMid w c g v k u) (hr : RdOk u' c) (ho : OnlyB c u u') : WMid w c g v k u' := by
  have hl := h.lt
  have h1 := h.cg
  obtain ⟨a, b, d, e, f, hrow⟩ := h.row
  obtain ⟨zs, hz, hw⟩ := h.own
  refine ⟨⟨zs, own_other hz fun j hj => ?_, hw⟩, h.ne, ⟨a, b, d, e, f, by rw [ho.block g hl (by omega)]; exact hrow⟩, hr, h.bel.trans ho, h1, h.wg, h.cw⟩
  have := hz.lt j hj
  exact ho.block j this.2 (by have := h.cw; omega)
theorem WMid.alloc {w u : World} {c g k : Nat} {v : Value} (h : WMid w c g v k u) (o : Obj) : WMid w c g v k (u.alloc o) := h.only (h.rd.alloc o) (OnlyB.of_below (below_alloc u o))
theorem WMid.drewN {w u : World} {c g k : Nat} {v : Value} (h : WMid w c g v k u) (m : Nat) : WMid w c g v k (u.drewN m) := h.only (h.rd.drewN m) ⟨rfl, rfl, rfl, Nat.le_refl _, fun _ _ _ => rfl⟩
theorem WMid.drew {w u : World} {c g k : Nat} {v : Value} (h : WMid w c g v k u) : WMid w c g v k u.drew := h.only (h.rd.drewN 1) ⟨rfl, rfl, rfl, Nat.le_refl _, fun _ _ _ => rfl⟩
theorem WMid.set {w u : World} {c g k : Nat} {v : Value} (h : WMid w c g v k u) (i : Nat) (hi : i < 5) (x : Int) : WMid w c g v k (u.setCell ⟨g, i, none⟩ (.int .i64 x)) := by
  have h1 := h.cg
  obtain ⟨a, b, d, e, f, hrow⟩ := h.row
  obtain ⟨zs, hz, hw⟩ := h.own
  refine ⟨⟨zs, own_other hz fun j hj => heap_setCell_other u ⟨g, i, none⟩ j _ (by have := h.ne j hj; show j ≠ g; omega), hw⟩, h.ne, ?_, h.rd.setOther (by omega), h.bel.low ((Below.refl _ _).setCell (show w.heap.size ≤ g from h.wg) _), h1, h.wg, h.cw⟩
  rw [heap_setCell_same u g i _ 105 _ hrow]
  rcases (show i = 0 ∨ i = 1 ∨ i = 2 ∨ i = 3 ∨ i = 4 by omega) with rfl | rfl | rfl | rfl | rfl
  · exact ⟨x, b, d, e, f, rfl⟩
  · exact ⟨a, x, d, e, f, rfl⟩
  · exact ⟨a, b, x, e, f, rfl⟩
  · exact ⟨a, b, d, x, f, rfl⟩
  · exact ⟨a, b, d, e, x, rfl⟩
set_option maxRecDepth 8000 in
set_option maxHeartbeats 8000000 in
theorem l3Words_core (HE : Hid (∀ (n rd r1 r2 im : Int) (w : World), Calls Try.prog 85 #[.agg #[.int .i64 n, .int .i64 rd, .int .i64 r1, .int .i64 r2, .int .i64 im]] w fun e w' => ∃ (x : Int) (ok : Bool), e = .returned (.tuple #[.int .i64 x, .bool ok]) ∧ (0 ≤ x ∧ x ≤ 1099511627776) ∧ Below w.heap.size w w')) (w : World) (c : Nat) (h : RdOk w c) : Calls Try.prog 68 #[.pointer (some ⟨c, 0, none⟩)] w fun e w' => ∃ (g len cap : Nat), e = .returned (.slice (some ⟨g, 0, none⟩) len cap) ∧ (∃ zs : List Int, Own .i64 3 w.heap.size w' (some ⟨g, 0, none⟩) len cap zs) ∧ len ≤ 12 ∧ RdOk w' c ∧ OnlyB c w w' := by
  obtain ⟨i0, hi0, hz0, hz1, hz2⟩ := info_parts Try.infoi64
  have H0 : Hid (RdOk w c) := h
  have hcw : c < w.heap.size := h.lt
  clear h
  go_enter Try.func68, Try.ntmps68
  go_wp2_with fail
  refine (next_only w c H0.out).mono ?_
  rintro e u1 ⟨n, rfl, hn, r1, d1⟩
  have hsz1 : w.heap.size ≤ u1.heap.size := d1.size
  have H1 : Hid (RdOk u1 c ∧ OnlyB c w u1) := ⟨r1, d1⟩
  clear r1 d1
  obtain ⟨q, hq, hq11⟩ : ∃ q : Nat, ((n : Int).tmod 12) = (q : Int) ∧ q ≤ 11 := ⟨n % 12, by rw [Int.tmod_eq_emod_of_nonneg (by omega)]; omega, by omega⟩
  go_wp2_with fail
  go_loopw [4, 5] (fun v i wr => ∃ k : Nat, k ≤ q + 1 ∧ i = .int .i64 k ∧ (∃ g cp, v = .slice (some ⟨g, 0, none⟩) k cp) ∧ (∃ zs : List Int, wr.ownsRow w.heap.size 3 1 v k (zs.map (Value.int .i64)) ∧ (∀ x ∈ zs, (Lit.int .i64 x).wf = true)) ∧ RdOk wr c ∧ OnlyB c w wr) (fun _ i _ => q + 1 - (intOf i).toNat)
  case atStart =>
    refine ⟨0, Nat.zero_le _, rfl, ⟨_, _, rfl⟩, ⟨[], ?_, fun x hx => (by cases hx)⟩, H1.out.1.alloc _, H1.out.2.trans (OnlyB.of_below (below_alloc u1 _))⟩
    exact World.ownsRow_lit u1 #[] 0 (base := w.heap.size) (e := 3) (size := 1) hsz1 (Nat.zero_le _) rfl
  case round =>
    obtain ⟨k, hk, rfl, ⟨g, cp, rfl⟩, ⟨zs, hown, hwf⟩, hrd, hon⟩ := hrel
    have HO : Hid (wr.ownsRow w.heap.size 3 1 (.slice (some ⟨g, 0, none⟩) k cp) k (zs.map (Value.int .i64))) := hown
    have HW : Hid (∀ x ∈ zs, (Lit.int .i64 x).wf = true) := hwf
    have HR : Hid (RdOk wr c ∧ OnlyB c w wr) := ⟨hrd, hon⟩
    clear hown hwf hrd hon
    by_cases hl : k < q + 1
    · have hi : (k : Int) < 1 + (q : Int) := by omega
      go_wp2_with fail
      refine (next_only wr c HR.out.1).mono ?_
      rintro e u2 ⟨x, rfl, hx, r2, d2⟩
      have HO2 : Hid (u2.ownsRow w.heap.size 3 1 (.slice (some ⟨g, 0, none⟩) k cp) k (zs.map (Value.int .i64))) := own_only HO.out d2 (by omega)
      have HR2 : Hid (RdOk u2 c ∧ OnlyB c w u2) := ⟨r2, HR.out.2.trans d2⟩
      clear r2 d2 HO HR
      go_wp2_with fail
      refine (inst_only u2 c HR2.out.1).mono ?_
      rintro e u3 ⟨op, rd, r1, r2, im, rfl, r3, d3⟩
      have HO3 : Hid (u3.ownsRow w.heap.size 3 1 (.slice (some ⟨g, 0, none⟩) k cp) k (zs.map (Value.int .i64))) := own_only HO2.out d3 (by omega)
      have HR3 : Hid (RdOk u3 c ∧ OnlyB c w u3) := ⟨r3, HR2.out.2.trans d3⟩
      clear r3 d3 HO2 HR2
      obtain ⟨q4, e4, h4⟩ : ∃ q : Nat, ((x : Int).tmod 4) = (q : Int) ∧ q ≤ 3 := ⟨x % 4, by rw [Int.tmod_eq_emod_of_nonneg (by omega)]; omega, by omega⟩
      go_upto_if 26 with fail
      obtain ⟨u4, hu4⟩ : ∃ u, u3.alloc (.cells #[.int .i64 op, .int .i64 rd, .int .i64 r1, .int .i64 r2, .int .i64 im] 105) = u := ⟨_, rfl⟩
      rw [hu4]
      obtain ⟨b, hb⟩ : ∃ b, b = u3.heap.size := ⟨_, rfl⟩
      rw [← hb]
      have hrow4 : u4.heap[b]? = some (.cells #[.int .i64 op, .int .i64 rd, .int .i64 r1, .int .i64 r2, .int .i64 im] 105) := by rw [← hu4, hb]; exact heap_alloc_new u3 _
      have M4 : Hid (WMid w c b (.slice (some ⟨g, 0, none⟩) k cp) k u4) := by
        have h3 := HR3.out.2.size
        refine ⟨⟨zs, ?_, HW.out⟩, fun j hj => ?_, ⟨_, _, _, _, _, hrow4⟩, ?_, ?_, by omega, by omega, hcw⟩
        · rw [← hu4]; exact HO3.out.alloc _
        · rw [hb]; exact (HO3.out.lt j hj).2
        · rw [← hu4]; exact HR3.out.1.alloc _
        · rw [← hu4]; exact HR3.out.2.trans (OnlyB.of_below (below_alloc u3 _))
      clear hrow4 hu4 hb HO3 HR3
      have hx' : (x : Int) ≤ 255 := by omega
      go_cut [7] from 13 to 109 (fun s7 wx => s7 = .pointer (some ⟨b, 0, none⟩) ∧ WMid w c b (.slice (some ⟨g, 0, none⟩) k cp) k wx)
      case first =>
        obtain ⟨ra, rb, rx, ry, rz, hr⟩ := M4.out.row
        have kc : ∀ j, u4.cell? ⟨b, j, none⟩ = (#[.int .i64 ra, .int .i64 rb, .int .i64 rx, .int .i64 ry, .int .i64 rz] : Array Value)[j]? := (fun j => cell_of_row u4 b j _ 105 (0, 0) hr)
        have kf : ∀ j, u4.frozen? ⟨b, j, none⟩ = false := (fun j => frozen_of_row u4 b j _ 105 hr)
        have hlb : b < u4.heap.size := M4.out.lt
        have kca : ∀ o j, (u4.alloc o).cell? ⟨b, j, none⟩ = (#[.int .i64 ra, .int .i64 rb, .int .i64 rx, .int .i64 ry, .int .i64 rz] : Array Value)[j]? := fun o j => ((below_alloc u4 o).cell (p := ⟨b, j, none⟩) hlb).trans (kc j)
        have kfa : ∀ o j, (u4.alloc o).frozen? ⟨b, j, none⟩ = false := fun o j => ((below_alloc u4 o).frozen (p := ⟨b, j, none⟩) hlb).trans (kf j)
        clear hr
        rcases (show q4 = 0 ∨ q4 = 1 ∨ q4 = 2 ∨ q4 = 3 by omega) with rfl | rfl | rfl | rfl
        · obtain ⟨y4, f4, g4⟩ : ∃ y : Nat, ((x : Int).tdiv 4) = (y : Int) ∧ y ≤ 255 := ⟨x / 4, by rw [Int.tdiv_eq_ediv_of_nonneg (by omega)]; omega, by omega⟩
          obtain ⟨q8, e8, h8⟩ : ∃ q : Nat, ((y4 : Int).tmod 8) = (q : Int) ∧ q ≤ 7 := ⟨y4 % 8, by rw [Int.tmod_eq_emod_of_nonneg (by omega)]; omega, by omega⟩
          obtain ⟨y32, f32, g32⟩ : ∃ y : Nat, ((x : Int).tdiv 32) = (y : Int) ∧ y ≤ 255 := ⟨x / 32, by rw [Int.tdiv_eq_ediv_of_nonneg (by omega)]; omega, by omega⟩
          obtain ⟨q32, e32, h32⟩ : ∃ q : Nat, ((y32 : Int).tmod 4) = (q : Int) ∧ q ≤ 3 := ⟨y32 % 4, by rw [Int.tmod_eq_emod_of_nonneg (by omega)]; omega, by omega⟩
          have HN : Hid (∀ u : World, WMid w c b (.slice (some ⟨g, 0, none⟩) k cp) k u → Calls Try.prog 19 #[.pointer (some ⟨c, 0, none⟩)] u fun e w' => ∃ m : Nat, e = .returned (.int .i64 (m : Int)) ∧ m ≤ 255 ∧ OnlyB c u w' ∧ WMid w c b (.slice (some ⟨g, 0, none⟩) k cp) k w') := fun u hu => (next_only u c hu.rd).mono fun e w' ⟨m, he, hm, hr, ho⟩ => ⟨m, he, hm, ho, hu.only hr ho⟩
          clear kc kf kca kfa
          have hc4 : c < u4.heap.size := by have := M4.out.cg; omega
          have hw32 : IntKind.i64.wrap (y32 : Int) = (y32 : Int) := by rw [IntKind.wrap_i64]; omega
          have hw4 : IntKind.i64.wrap (y4 : Int) = (y4 : Int) := by rw [IntKind.wrap_i64]; omega
          have hw8 : IntKind.i64.wrap (10 + (q8 : Int)) = 10 + (q8 : Int) := by rw [IntKind.wrap_i64]; omega
          rcases (show q32 = 0 ∨ q32 = 1 ∨ q32 = 2 ∨ q32 = 3 by omega) with rfl | rfl | rfl | rfl
          · replace e32 : (y32 : Int).tmod 4 = 0 := e32
            go_wp2_with fail
            go_region_with (go_at_call 19; refine (HN.out _ (by repeat (first | with_reducible exact M4.out | with_reducible refine WMid.set ?_ _ (by decide) _ | with_reducible refine WMid.alloc ?_ _ | with_reducible refine WMid.drewN ?_ _ | with_reducible refine WMid.drew ?_))).mono ?_; rintro e u5 ⟨m5, rfl, hm5, o5, h5⟩; have M5 : Hid (WMid w c b (.slice (some ⟨g, 0, none⟩) k cp) k u5) := h5; obtain ⟨sa, sb, sx, sy, sz, hr5⟩ := M5.out.row; have kc5 : ∀ j, u5.cell? ⟨b, j, none⟩ = (#[.int .i64 sa, .int .i64 sb, .int .i64 sx, .int .i64 sy, .int .i64 sz] : Array Value)[j]? := (fun j => cell_of_row u5 b j _ 105 (0, 0) hr5); have kf5 : ∀ j, u5.frozen? ⟨b, j, none⟩ = false := (fun j => frozen_of_row u5 b j _ 105 hr5); (try (have kt : ∀ j, u5.cell? ⟨u4.heap.size, j, none⟩ = (#[.int .i64 0, .int .i64 10, .int .i64 2, .int .i64 17] : Array Value)[j]? := fun j => cell_of_row u5 u4.heap.size j _ 3 (0, 0) ((o5.block u4.heap.size (by simp) (by omega)).trans (heap_alloc_new _ _)))); have hl5 : b < u5.heap.size := M5.out.lt; have kc5a : ∀ o j, (u5.alloc o).cell? ⟨b, j, none⟩ = (#[.int .i64 sa, .int .i64 sb, .int .i64 sx, .int .i64 sy, .int .i64 sz] : Array Value)[j]? := fun o j => ((below_alloc u5 o).cell (p := ⟨b, j, none⟩) hl5).trans (kc5 j); have kf5a : ∀ o j, (u5.alloc o).frozen? ⟨b, j, none⟩ = false := fun o j => ((below_alloc u5 o).frozen (p := ⟨b, j, none⟩) hl5).trans (kf5 j); clear hr5 h5 o5 hl5)
            all_goals
              go_wp2_with fail
              go_meet
              refine ⟨rfl, ?_⟩
              repeat (first | with_reducible exact M5.out | with_reducible refine WMid.set ?_ _ (by decide) _ | with_reducible refine WMid.alloc ?_ _ | with_reducible refine WMid.drewN ?_ _ | with_reducible refine WMid.drew ?_)
          · replace e32 : (y32 : Int).tmod 4 = 1 := e32
            go_wp2_with fail
            go_region_with (go_at_call 19; refine (HN.out _ (by repeat (first | with_reducible exact M4.out | with_reducible refine WMid.set ?_ _ (by decide) _ | with_reducible refine WMid.alloc ?_ _ | with_reducible refine WMid.drewN ?_ _ | with_reducible refine WMid.drew ?_))).mono ?_; rintro e u5 ⟨m5, rfl, hm5, o5, h5⟩; have M5 : Hid (WMid w c b (.slice (some ⟨g, 0, none⟩) k cp) k u5) := h5; obtain ⟨sa, sb, sx, sy, sz, hr5⟩ := M5.out.row; have kc5 : ∀ j, u5.cell? ⟨b, j, none⟩ = (#[.int .i64 sa, .int .i64 sb, .int .i64 sx, .int .i64 sy, .int .i64 sz] : Array Value)[j]? := (fun j => cell_of_row u5 b j _ 105 (0, 0) hr5); have kf5 : ∀ j, u5.frozen? ⟨b, j, none⟩ = false := (fun j => frozen_of_row u5 b j _ 105 hr5); (try (have kt : ∀ j, u5.cell? ⟨u4.heap.size, j, none⟩ = (#[.int .i64 0, .int .i64 10, .int .i64 2, .int .i64 17] : Array Value)[j]? := fun j => cell_of_row u5 u4.heap.size j _ 3 (0, 0) ((o5.block u4.heap.size (by simp) (by omega)).trans (heap_alloc_new _ _)))); have hl5 : b < u5.heap.size := M5.out.lt; have kc5a : ∀ o j, (u5.alloc o).cell? ⟨b, j, none⟩ = (#[.int .i64 sa, .int .i64 sb, .int .i64 sx, .int .i64 sy, .int .i64 sz] : Array Value)[j]? := fun o j => ((below_alloc u5 o).cell (p := ⟨b, j, none⟩) hl5).trans (kc5 j); have kf5a : ∀ o j, (u5.alloc o).frozen? ⟨b, j, none⟩ = false := fun o j => ((below_alloc u5 o).frozen (p := ⟨b, j, none⟩) hl5).trans (kf5 j); clear hr5 h5 o5 hl5)
            all_goals
              go_wp2_with fail
              go_meet
              refine ⟨rfl, ?_⟩
              repeat (first | with_reducible exact M5.out | with_reducible refine WMid.set ?_ _ (by decide) _ | with_reducible refine WMid.alloc ?_ _ | with_reducible refine WMid.drewN ?_ _ | with_reducible refine WMid.drew ?_)
          · replace e32 : (y32 : Int).tmod 4 = 2 := e32
            go_wp2_with fail
            go_region_with (go_at_call 19; refine (HN.out _ (by repeat (first | with_reducible exact M4.out | with_reducible refine WMid.set ?_ _ (by decide) _ | with_reducible refine WMid.alloc ?_ _ | with_reducible refine WMid.drewN ?_ _ | with_reducible refine WMid.drew ?_))).mono ?_; rintro e u5 ⟨m5, rfl, hm5, o5, h5⟩; have M5 : Hid (WMid w c b (.slice (some ⟨g, 0, none⟩) k cp) k u5) := h5; obtain ⟨sa, sb, sx, sy, sz, hr5⟩ := M5.out.row; have kc5 : ∀ j, u5.cell? ⟨b, j, none⟩ = (#[.int .i64 sa, .int .i64 sb, .int .i64 sx, .int .i64 sy, .int .i64 sz] : Array Value)[j]? := (fun j => cell_of_row u5 b j _ 105 (0, 0) hr5); have kf5 : ∀ j, u5.frozen? ⟨b, j, none⟩ = false := (fun j => frozen_of_row u5 b j _ 105 hr5); (try (have kt : ∀ j, u5.cell? ⟨u4.heap.size, j, none⟩ = (#[.int .i64 0, .int .i64 10, .int .i64 2, .int .i64 17] : Array Value)[j]? := fun j => cell_of_row u5 u4.heap.size j _ 3 (0, 0) ((o5.block u4.heap.size (by simp) (by omega)).trans (heap_alloc_new _ _)))); have hl5 : b < u5.heap.size := M5.out.lt; have kc5a : ∀ o j, (u5.alloc o).cell? ⟨b, j, none⟩ = (#[.int .i64 sa, .int .i64 sb, .int .i64 sx, .int .i64 sy, .int .i64 sz] : Array Value)[j]? := fun o j => ((below_alloc u5 o).cell (p := ⟨b, j, none⟩) hl5).trans (kc5 j); have kf5a : ∀ o j, (u5.alloc o).frozen? ⟨b, j, none⟩ = false := fun o j => ((below_alloc u5 o).frozen (p := ⟨b, j, none⟩) hl5).trans (kf5 j); clear hr5 h5 o5 hl5)
            all_goals
              go_wp2_with fail
              go_meet
              refine ⟨rfl, ?_⟩
              repeat (first | with_reducible exact M5.out | with_reducible refine WMid.set ?_ _ (by decide) _ | with_reducible refine WMid.alloc ?_ _ | with_reducible refine WMid.drewN ?_ _ | with_reducible refine WMid.drew ?_)
          · replace e32 : (y32 : Int).tmod 4 = 3 := e32
            go_wp2_with fail
            go_region_with (go_at_call 19; refine (HN.out _ (by repeat (first | with_reducible exact M4.out | with_reducible refine WMid.set ?_ _ (by decide) _ | with_reducible refine WMid.alloc ?_ _ | with_reducible refine WMid.drewN ?_ _ | with_reducible refine WMid.drew ?_))).mono ?_; rintro e u5 ⟨m5, rfl, hm5, o5, h5⟩; have M5 : Hid (WMid w c b (.slice (some ⟨g, 0, none⟩) k cp) k u5) := h5; obtain ⟨sa, sb, sx, sy, sz, hr5⟩ := M5.out.row; have kc5 : ∀ j, u5.cell? ⟨b, j, none⟩ = (#[.int .i64 sa, .int .i64 sb, .int .i64 sx, .int .i64 sy, .int .i64 sz] : Array Value)[j]? := (fun j => cell_of_row u5 b j _ 105 (0, 0) hr5); have kf5 : ∀ j, u5.frozen? ⟨b, j, none⟩ = false := (fun j => frozen_of_row u5 b j _ 105 hr5); (try (have kt : ∀ j, u5.cell? ⟨u4.heap.size, j, none⟩ = (#[.int .i64 0, .int .i64 10, .int .i64 2, .int .i64 17] : Array Value)[j]? := fun j => cell_of_row u5 u4.heap.size j _ 3 (0, 0) ((o5.block u4.heap.size (by simp) (by omega)).trans (heap_alloc_new _ _)))); have hl5 : b < u5.heap.size := M5.out.lt; have kc5a : ∀ o j, (u5.alloc o).cell? ⟨b, j, none⟩ = (#[.int .i64 sa, .int .i64 sb, .int .i64 sx, .int .i64 sy, .int .i64 sz] : Array Value)[j]? := fun o j => ((below_alloc u5 o).cell (p := ⟨b, j, none⟩) hl5).trans (kc5 j); have kf5a : ∀ o j, (u5.alloc o).frozen? ⟨b, j, none⟩ = false := fun o j => ((below_alloc u5 o).frozen (p := ⟨b, j, none⟩) hl5).trans (kf5 j); clear hr5 h5 o5 hl5)
            all_goals
              go_wp2_with fail
              go_meet
              refine ⟨rfl, ?_⟩
              repeat (first | with_reducible exact M5.out | with_reducible refine WMid.set ?_ _ (by decide) _ | with_reducible refine WMid.alloc ?_ _ | with_reducible refine WMid.drewN ?_ _ | with_reducible refine WMid.drew ?_)
        · obtain ⟨y4, f4, g4⟩ : ∃ y : Nat, ((x : Int).tdiv 4) = (y : Int) ∧ y ≤ 255 := ⟨x / 4, by rw [Int.tdiv_eq_ediv_of_nonneg (by omega)]; omega, by omega⟩
          obtain ⟨q3, e3, h3⟩ : ∃ q : Nat, ((y4 : Int).tmod 3) = (q : Int) ∧ q ≤ 2 := ⟨y4 % 3, by rw [Int.tmod_eq_emod_of_nonneg (by omega)]; omega, by omega⟩
          obtain ⟨y12, f12, g12⟩ : ∃ y : Nat, ((x : Int).tdiv 12) = (y : Int) ∧ y ≤ 255 := ⟨x / 12, by rw [Int.tdiv_eq_ediv_of_nonneg (by omega)]; omega, by omega⟩
          obtain ⟨q12, e12, h12⟩ : ∃ q : Nat, ((y12 : Int).tmod 3) = (q : Int) ∧ q ≤ 2 := ⟨y12 % 3, by rw [Int.tmod_eq_emod_of_nonneg (by omega)]; omega, by omega⟩
          rcases (show q3 = 0 ∨ q3 = 1 ∨ q3 = 2 by omega) with rfl | rfl | rfl
          all_goals
            go_wp2_with fail
            go_meet
            refine ⟨rfl, ?_⟩
            repeat (first | with_reducible exact M4.out | with_reducible refine WMid.set ?_ _ (by decide) _ | with_reducible refine WMid.alloc ?_ _)
        · obtain ⟨y4, f4, g4⟩ : ∃ y : Nat, ((x : Int).tdiv 4) = (y : Int) ∧ y ≤ 255 := ⟨x / 4, by rw [Int.tdiv_eq_ediv_of_nonneg (by omega)]; omega, by omega⟩
          obtain ⟨q5, e5, h5⟩ : ∃ q : Nat, ((y4 : Int).tmod 5) = (q : Int) ∧ q ≤ 4 := ⟨y4 % 5, by rw [Int.tmod_eq_emod_of_nonneg (by omega)]; omega, by omega⟩
          obtain ⟨y20, f20, g20⟩ : ∃ y : Nat, ((x : Int).tdiv 20) = (y : Int) ∧ y ≤ 255 := ⟨x / 20, by rw [Int.tdiv_eq_ediv_of_nonneg (by omega)]; omega, by omega⟩
          obtain ⟨q20, e20, h20⟩ : ∃ q : Nat, ((y20 : Int).tmod 3) = (q : Int) ∧ q ≤ 2 := ⟨y20 % 3, by rw [Int.tmod_eq_emod_of_nonneg (by omega)]; omega, by omega⟩
          obtain ⟨q60, e60, h60⟩ : ∃ q : Nat, ((x : Int).tdiv 60) = (q : Int) ∧ q ≤ 4 := ⟨x / 60, by rw [Int.tdiv_eq_ediv_of_nonneg (by omega)]; omega, by omega⟩
          rcases (show q5 = 0 ∨ q5 = 1 ∨ q5 = 2 ∨ q5 = 3 ∨ q5 = 4 by omega) with rfl | rfl | rfl | rfl | rfl
          all_goals
            go_wp2_with fail
            go_meet
            refine ⟨rfl, ?_⟩
            repeat (first | with_reducible exact M4.out | with_reducible refine WMid.set ?_ _ (by decide) _ | with_reducible refine WMid.alloc ?_ _)
        · by_cases h200 : 200 ≤ x
          · have h200' : (200 : Int) ≤ (x : Int) := by omega
            go_wp2_with fail
            go_meet
            refine ⟨rfl, ?_⟩
            repeat (first | with_reducible exact M4.out | with_reducible refine WMid.set ?_ _ (by decide) _ | with_reducible refine WMid.alloc ?_ _)
          · have h200' : ¬ (200 : Int) ≤ (x : Int) := by omega
            go_wp2_with fail
            go_meet
            exact ⟨rfl, M4.out⟩
      case rest =>
      obtain ⟨rfl, hst⟩ := hcut
      obtain ⟨u6, hu6⟩ : ∃ u : World, u = wc := ⟨wc, rfl⟩
      rw [← hu6] at hst ⊢
      have M6 : Hid (WMid w c b (.slice (some ⟨g, 0, none⟩) k cp) k u6) := hst
      clear hst hu6 M4
      obtain ⟨ra, rb, rx, ry, rz, hr6⟩ := M6.out.row
      have kc : ∀ j, u6.cell? ⟨b, j, none⟩ = (#[.int .i64 ra, .int .i64 rb, .int .i64 rx, .int .i64 ry, .int .i64 rz] : Array Value)[j]? := (fun j => cell_of_row u6 b j _ 105 (0, 0) hr6)
      clear hr6
      obtain ⟨f, hform⟩ := form_all ra
      have HF : Hid (∀ w : World, Calls Try.prog 84 #[.int .i64 ra] w fun e w' => e = .returned (.int .i64 f) ∧ w' = w) := hform
      clear hform
      go_upto_region 16 with fail
      go_cut [7, 86] from 13 to 109 (fun s7 s86 wx => s7 = .pointer (some ⟨b, 0, none⟩) ∧ (∃ B : Bool, s86 = .bool B) ∧ wx = u6)
      case first =>
        go_wp2_with (go_at_call 84; refine (HF.out u6).mono ?_; rintro e u7 ⟨rfl, h7⟩; rw [h7]; clear h7 u7)
        all_goals
          go_meet
          exact ⟨rfl, ⟨_, rfl⟩, rfl⟩
      case rest =>
      obtain ⟨rfl, ⟨B, rfl⟩, hwc⟩ := hcut
      rw [hwc]
      clear hwc HF kc
      go_upto_if 86 with fail
      go_cut [7] from 13 to 109 (fun s7 wx => s7 = .pointer (some ⟨b, 0, none⟩) ∧ WMid w c b (.slice (some ⟨g, 0, none⟩) k cp) k wx)
      case first =>
        cases B
        · go_wp2_with fail
          go_meet
          exact ⟨rfl, M6.out⟩
        · go_wp2_with fail
          refine (next_only u6 c M6.out.rd).mono ?_
          rintro e u7 ⟨m7, rfl, hm7, r7, d7⟩
          have M7 : Hid (WMid w c b (.slice (some ⟨g, 0, none⟩) k cp) k u7) := M6.out.only r7 d7
          clear r7 d7
          obtain ⟨sa, sb, sx, sy, sz, hr7⟩ := M7.out.row
          have kc : ∀ j, u7.cell? ⟨b, j, none⟩ = (#[.int .i64 sa, .int .i64 sb, .int .i64 sx, .int .i64 sy, .int .i64 sz] : Array Value)[j]? := (fun j => cell_of_row u7 b j _ 105 (0, 0) hr7)
          have kf : ∀ j, u7.frozen? ⟨b, j, none⟩ = false := (fun j => frozen_of_row u7 b j _ 105 hr7)
          clear hr7
          have hm7' : (m7 : Int) ≤ 255 := by omega
          go_wp2_with fail
          go_meet
          exact ⟨rfl, M7.out.set _ (by decide) _⟩
      case rest =>
      obtain ⟨rfl, hst⟩ := hcut
      obtain ⟨u8, hu8⟩ : ∃ u : World, u = wc := ⟨wc, rfl⟩
      rw [← hu8] at hst ⊢
      have M8 : Hid (WMid w c b (.slice (some ⟨g, 0, none⟩) k cp) k u8) := hst
      clear hst hu8 M6
      obtain ⟨ta, tb, tx, ty, tz, hr8⟩ := M8.out.row
      have kc : ∀ j, u8.cell? ⟨b, j, none⟩ = (#[.int .i64 ta, .int .i64 tb, .int .i64 tx, .int .i64 ty, .int .i64 tz] : Array Value)[j]? := (fun j => cell_of_row u8 b j _ 105 (0, 0) hr8)
      clear hr8
      go_wp2_with fail
      refine (HE.out ta tb tx ty tz u8).mono ?_
      rintro e u9 ⟨y, ok, rfl, hy, d9⟩
      have M9 : Hid (WMid w c b (.slice (some ⟨g, 0, none⟩) k cp) k u9) := M8.out.only (M8.out.rd.keep d9 (by have := M8.out.cg; have := M8.out.lt; omega)) (OnlyB.of_below d9)
      clear d9 kc M8
      obtain ⟨q2, e2, h2⟩ : ∃ q : Nat, ((x : Int).tmod 2) = (q : Int) ∧ q ≤ 1 := ⟨x % 2, by rw [Int.tmod_eq_emod_of_nonneg (by omega)]; omega, by omega⟩
      have HFin : Hid (∀ (z : Int) (v' : Value) (u3 : World), (0 ≤ z ∧ z ≤ 1099511627776) → ∀ ys : List Int, (∀ t ∈ ys, (Lit.int .i64 t).wf = true) → u3.ownsRow w.heap.size 3 1 v' (k + 1) (ys.map (Value.int .i64) ++ [.int .i64 z]) → Below w.heap.size u9 u3 → ∃ k' : Nat, k' ≤ q + 1 ∧ Value.int .i64 ((k : Int) + 1) = .int .i64 k' ∧ (∃ g cp, v' = .slice (some ⟨g, 0, none⟩) k' cp) ∧ (∃ zs : List Int, u3.ownsRow w.heap.size 3 1 v' k' (zs.map (Value.int .i64)) ∧ (∀ x ∈ zs, (Lit.int .i64 x).wf = true)) ∧ RdOk u3 c ∧ OnlyB c w u3) := by
        intro z v' u3 hz ys hys hown' hb3
        obtain ⟨g', c', hv', _, _⟩ := hown'.form (by omega)
        refine ⟨k + 1, by omega, by simp, ⟨g', c', hv'⟩, ⟨ys ++ [z], by rw [List.map_append]; exact hown', fun t ht => ?_⟩, M9.out.rd.keep hb3 hcw, ?_⟩
        · rcases List.mem_append.1 ht with ht | ht
          · exact hys t ht
          · simp at ht
            subst ht
            exact i64_wf (by omega)
        · exact ⟨hb3.os.trans M9.out.bel.os, hb3.tape.trans M9.out.bel.tape, hb3.output.trans M9.out.bel.output, Nat.le_trans M9.out.bel.size hb3.size, fun b hb hbc => (hb3.block b hb).trans (M9.out.bel.block b hb hbc)⟩
      obtain ⟨ys, hys, hyw⟩ := M9.out.own
      have HY : Hid (u9.ownsRow w.heap.size 3 1 (.slice (some ⟨g, 0, none⟩) k cp) k (ys.map (Value.int .i64))) := hys
      have HYW : Hid (∀ t ∈ ys, (Lit.int .i64 t).wf = true) := hyw
      have hs9 : w.heap.size ≤ u9.heap.size := M9.out.bel.size
      clear hys hyw
      have hGR : Hid (∀ (A : Value) (u3 : World), (u9.alloc (.cells #[A] 3)).grownBy u3 (Value.slice (some ⟨g, 0, none⟩) k cp).ownBlock → Below w.heap.size u9 u3) := fun A u3 hgr => ((Below.refl _ _).alloc (by omega) _).grown hgr (by simp; omega) (fun j hj => (HY.out.lt j hj).1)
      rcases (show q2 = 0 ∨ q2 = 1 by omega) with rfl | rfl
      all_goals cases ok
      all_goals
        go_wp2_with (at_builtin; refine wpList_append_own _ rfl (.tmp 106) (.tmp 108) 23 rfl w.heap.size 3 i0 (.int .i64 0) 1 8 Try.underlying23 hi0 hz0 hz1 hz2 rfl (by decide) _ _ _ rfl (HY.out.alloc _) ⟨u9.heap.size, 0, none⟩ 1 _ [_] rfl rfl (int_news u9 _) (by intro u hu; simp at hu; subst hu; rfl) (by unfold maxLen; omega) (by omega) (by simp; omega) ?_; intro v' u3 hown' hgr _)
        exact ⟨HFin.out _ v' u3 (by omega) ys HYW.out hown' (hGR.out _ u3 hgr), by simp [intOf]; omega⟩
    · have hi : ¬ (k : Int) < 1 + (q : Int) := by omega
      go_wp2
      go_ret
      exact ⟨g, k, cp, rfl, ⟨zs, HO.out, HW.out⟩, by omega, HR.out⟩
end Go.Proofs.Ytfcfnbncgadomaa.W
