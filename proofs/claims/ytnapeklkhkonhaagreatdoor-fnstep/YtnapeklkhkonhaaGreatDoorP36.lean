import Derived.Test.YtnapeklkhkonhaaGreatDoorP28
import Derived.Test.YtnapeklkhkonhaaGreatDoorP35
import Derived.Test.YtnapeklkhkonhaaGreatDoorP31
import Derived.Laws.MakeOwn
set_option linter.unusedVariables false
set_option linter.unusedSimpArgs false
namespace Go.Proofs.YtnapeklkhkonhaaGreatDoor.Pl
def s4 (j : Nat) : Int := if j = 0 then 8 else if j = 1 then -16 else if j = 2 then 65536 else 65552
def c3 (j : Nat) : Int := if j = 0 then -1 else if j = 1 then 4294967296 else 4294967295
def e0 (n : Nat) (m : Img) : Int := m.entry + (4 * (m.code.length : Int) - ((n / 250 : Nat) : Int) * 4)
def I2 (n : Nat) (m : Img) : Img := if 236 ≤ n then (if n % 7 = 0 then { m with entry := e0 n m } else if n % 7 = 1 then { m with entry := m.entry + 2 } else if n % 7 = 2 then { m with size := s4 (n / 7 % 4) } else if n % 7 = 3 then { m with data := List.replicate (65536 + n % 2) 0 } else if n % 7 = 4 then { m with code := List.replicate (16384 + n % 2) 0 } else if n % 7 = 5 then { m with code := m.code ++ [c3 (n / 7 % 3)] } else { m with code := [] }) else m
theorem I2_n {n : Nat} (m : Img) (h : ¬ 236 ≤ n) : I2 n m = m := by unfold I2; rw [if_neg h]
theorem I2_0 {n : Nat} (m : Img) (h : 236 ≤ n) (h7 : n % 7 = 0) : I2 n m = { m with entry := e0 n m } := by unfold I2; rw [if_pos h, if_pos h7]
theorem I2_1 {n : Nat} (m : Img) (h : 236 ≤ n) (h7 : n % 7 = 1) : I2 n m = { m with entry := m.entry + 2 } := by unfold I2; rw [if_pos h, if_neg (by omega), if_pos h7]
theorem I2_2 {n : Nat} (m : Img) (h : 236 ≤ n) (h7 : n % 7 = 2) : I2 n m = { m with size := s4 (n / 7 % 4) } := by unfold I2; rw [if_pos h, if_neg (by omega), if_neg (by omega), if_pos h7]
theorem I2_3 {n : Nat} (m : Img) (h : 236 ≤ n) (h7 : n % 7 = 3) : I2 n m = { m with data := List.replicate (65536 + n % 2) 0 } := by unfold I2; rw [if_pos h, if_neg (by omega), if_neg (by omega), if_neg (by omega), if_pos h7]
theorem I2_4 {n : Nat} (m : Img) (h : 236 ≤ n) (h7 : n % 7 = 4) : I2 n m = { m with code := List.replicate (16384 + n % 2) 0 } := by unfold I2; rw [if_pos h, if_neg (by omega), if_neg (by omega), if_neg (by omega), if_neg (by omega), if_pos h7]
theorem I2_5 {n : Nat} (m : Img) (h : 236 ≤ n) (h7 : n % 7 = 5) : I2 n m = { m with code := m.code ++ [c3 (n / 7 % 3)] } := by unfold I2; rw [if_pos h, if_neg (by omega), if_neg (by omega), if_neg (by omega), if_neg (by omega), if_neg (by omega), if_pos h7]
theorem I2_6 {n : Nat} (m : Img) (h : 236 ≤ n) (h7 : n % 7 = 6) : I2 n m = { m with code := [] } := by unfold I2; rw [if_pos h, if_neg (by omega), if_neg (by omega), if_neg (by omega), if_neg (by omega), if_neg (by omega), if_neg (by omega)]
noncomputable def dImg0 (r : List Nat) (k : Nat) : Img × List Nat := (⟨(dWords r.tail).1, nums (takeB k (dWords r.tail).2).1, 65536, 16 * (1 + ((hd r % 3 : Nat) : Int))⟩, (takeB k (dWords r.tail).2).2)
noncomputable def dImage (r : List Nat) : Img × List Nat := (I2 (hd r) (dImg0 r (hd r / 4 % 3 * 4)).1, (dImg0 r (hd r / 4 % 3 * 4)).2)
end Go.Proofs.YtnapeklkhkonhaaGreatDoor.Pl
namespace Go.Proofs.YtnapeklkhkonhaaGreatDoor.W
open Go.RowKit
theorem Own.cut0 {k : IntKind} {e : TypeId} {lo : Nat} {w : World} {a : Option Addr} {len cap : Nat} {zs : List Int} (h : Own k e lo w a len cap zs) : Own k e lo w a 0 cap [] := by
  refine ⟨⟨rfl, ?_⟩, fun n hn => (by cases hn)⟩
  rcases h.1.2 with ⟨h0, h1⟩ | ⟨g, cap', cur, h0, hlo, hg, hnc, hcm, hcs, htake⟩
  · simp only [Value.slice.injEq] at h0
    obtain ⟨rfl, rfl, rfl⟩ := h0
    exact .inl ⟨rfl, rfl⟩
  · simp only [Value.slice.injEq] at h0
    obtain ⟨rfl, _, rfl⟩ := h0
    exact .inr ⟨g, cap, cur, rfl, hlo, hg, Nat.zero_le _, hcm, hcs, by simp⟩
theorem ob_len (a : Option Addr) (l l' c : Nat) : (Value.slice a l c).ownBlock = (Value.slice a l' c).ownBlock := by cases a <;> rfl
def IgMk (c N n g k x : Nat) (v : IV) (x10 x11 x13 x14 x15 x16 x19 x20 x21 x23 x24 x25 x26 x27 x28 x29 x30 x31 x32 : Value) (sb G cp : Nat) (L : Array Bool) : Act := { tmps := #[.pointer (some ⟨c, 0, none⟩), undef, .pointer (some ⟨N, 0, none⟩), .int .i64 (n : Int), .pointer (some ⟨g, 0, none⟩), .int .i64 (k : Int), undef, .pointer (some ⟨c, 0, none⟩), .int .i64 (n : Int), .pointer (some ⟨c, 0, none⟩), x10, x11, .int .i64 (n : Int), x13, x14, x15, x16, .int .i64 (k : Int), .int .i64 (n : Int), x19, x20, x21, .bool true, x23, x24, sld x25 L 0 (.pointer (some ⟨g, 1, none⟩)), sld x26 L 1 (.slice v.data.a v.data.len v.data.cap), sld x27 L 2 (.pointer (some ⟨c, 0, none⟩)), sld x28 L 3 (.int .i64 (x : Int)), sld x29 L 4 (.int .u8 (x : Int)), sld x30 L 5 (.slice (some ⟨sb, 0, none⟩) 1 1), sld x31 L 6 (.slice (some ⟨G, 0, none⟩) (v.data.len + 1) cp), sld x32 L 7 (.pointer (some ⟨g, 1, none⟩)), undef, undef, undef, undef, undef, undef, undef, undef, undef, undef, undef, undef, undef, undef, undef, undef, undef, undef, undef, undef, undef, undef, undef, undef, undef, undef, undef, undef, undef, undef, undef, undef, undef, undef, undef, undef, undef, undef, undef, undef, undef, undef, undef, undef, undef, undef, undef, undef, undef, undef, undef, undef, undef, undef, undef, undef, undef, undef, undef, undef, undef, undef, undef, undef, undef], defers := [] }
def IgW (w0 : World) (c g x : Nat) (v : IV) (m : Pl.Img) (r : List Nat) (U0 : World) (sb G cp : Nat) (L : Array Bool) (w : World) : Prop :=
  (up L 3 = false → w = U0) ∧ (up L 3 = true → up L 5 = false → IMF w0 c g v m r w) ∧ (up L 5 = true → up L 6 = false → ∃ w', IMF w0 c g v m r w' ∧ w = w'.alloc (.cells #[.int .u8 (x : Int)] 5) ∧ sb = w'.heap.size) ∧
  (up L 6 = true → up L 8 = false → ∃ u U, IMF w0 c g v m r u ∧ Below u.heap.size u U ∧ w.ownsRow (w0.heap.size + 1) 5 1 (.slice (some ⟨G, 0, none⟩) (v.data.len + 1) cp) (v.data.len + 1) (m.data.map (Value.int .u8) ++ [.int .u8 (x : Int)]) ∧ U.grownBy w (Value.slice v.data.a v.data.len v.data.cap).ownBlock ∧ ((Value.slice v.data.a v.data.len v.data.cap).ownBlock = some G ∨ G = U.heap.size)) ∧
  (up L 8 = true → IMF w0 c g { v with data := ⟨some ⟨G, 0, none⟩, v.data.len + 1, cp⟩ } { m with data := m.data ++ [(x : Int)] } r w)
theorem IgW.keep {w0 : World} {c g x : Nat} {v : IV} {m : Pl.Img} {r : List Nat} {U0 : World} {sb G cp : Nat} {L : Array Bool} {w : World} (h : IgW w0 c g x v m r U0 sb G cp L w) {i : Nat} (hi : i < L.size) (n3 : i ≠ 3) (n5 : i ≠ 5) (n6 : i ≠ 6) (n8 : i ≠ 8) : IgW w0 c g x v m r U0 sb G cp (L.setIfInBounds i true) w := by
  unfold IgW at h ⊢
  rw [up_set hi, up_set hi, up_set hi, up_set hi, if_neg n3, if_neg n5, if_neg n6, if_neg n8]
  exact h
theorem IgW.cell {w0 : World} {c g x : Nat} {v : IV} {m : Pl.Img} {r : List Nat} {U0 : World} {sb G cp : Nat} {L : Array Bool} {w : World} (h : IgW w0 c g x v m r U0 sb G cp L w) (n6 : up L 6 = false) (h0 : U0.cell? ⟨g, 1, none⟩ = some (.slice v.data.a v.data.len v.data.cap)) : w.cell? ⟨g, 1, none⟩ = some (.slice v.data.a v.data.len v.data.cap) := by
  cases q3 : up L 3
  · rw [h.1 q3]; exact h0
  cases q5 : up L 5
  · exact (h.2.1 q3 q5).cell 1
  · obtain ⟨w', h1, rfl, _⟩ := h.2.2.1 q5 n6
    exact (h1.alloc _).cell 1
theorem ufalse {b : Bool} {p : Prop} (h : b = true) (q : b = false) : p := absurd (h.symm.trans q) (by decide)
theorem up_self {L : Array Bool} {i : Nat} (h : i < L.size) : up (L.setIfInBounds i true) i = true := (up_set h i).trans (if_pos rfl)
theorem up_other {L : Array Bool} {i j : Nat} (h : i < L.size) (n : i ≠ j) : up (L.setIfInBounds i true) j = up L j := (up_set h j).trans (if_neg n)
def ImF (w : World) (c : Nat) (r0 : List Nat) (e : Ending) (w' : World) : Prop := ∃ (v : IV) (m : Pl.Img), m = (Pl.dImage r0).1 ∧ e = .returned (.agg #[.slice v.code.a v.code.len v.code.cap, .slice v.data.a v.data.len v.data.cap, .int .i64 m.entry, .int .i64 m.size]) ∧ IOwn w.heap.size w' v m ∧ m.code.length ≤ 16385 ∧ m.data.length ≤ 65537 ∧ (-1000000 ≤ m.entry ∧ m.entry ≤ 1000000) ∧ (-1000000 ≤ m.size ∧ m.size ≤ 1000000) ∧ RdAt w' c (Pl.dImage r0).2 ∧ OnlyB c w w'
set_option maxRecDepth 8000 in
set_option maxHeartbeats 8000000 in
theorem image_f (w : World) (c : Nat) (r0 : List Nat) (h : RdAt w c r0) : Calls Tryz.prog 25 #[.pointer (some ⟨c, 0, none⟩)] w fun e w' => ImF w c r0 e w' := by
  obtain ⟨i0, hi0, hz0, hz1, hz2⟩ := info_parts Tryz.infou8
  obtain ⟨j0, hj0, hy0, hy1, hy2⟩ := info_parts Tryz.infoi64
  have H0 : Hid (RdAt w c r0) := h
  have hcw : c < w.heap.size := h.lt
  have hn := hd_le h
  clear h
  go_enter Tryz.func25, Tryz.ntmps25
  go_wp2_with fail
  refine (next_f _ c r0 (H0.out.alloc _)).mono ?_
  rintro e u1 ⟨rfl, r1, d1⟩
  have hres1 : u1.heap[w.heap.size]? = some (.cells #[.slice none 0 0, .slice none 0 0, .int .i64 0, .int .i64 0] 43) := by rw [d1.block _ (by simp) (by omega)]; exact heap_alloc_new w _
  have hs1 : w.heap.size + 1 ≤ u1.heap.size := by have := d1.size; simpa using this
  have H1 : Hid (RdAt u1 c r0.tail ∧ OnlyB c w u1) := ⟨r1, (OnlyB.of_below (below_alloc w _)).trans d1⟩
  clear r1 d1 H0
  obtain ⟨n, hnn'⟩ : ∃ n, n = Pl.hd r0 := ⟨_, rfl⟩
  rw [← hnn'] at hn ⊢
  have Qn : Hid (n = Pl.hd r0) := hnn'
  clear hnn'
  go_wp2_with fail
  refine (words_f u1 c r0.tail H1.out.1).mono ?_
  rintro e u2 ⟨g0, cap, rfl, hown, hlen, r2, d2⟩
  obtain ⟨zs, hzs⟩ : ∃ zs, zs = (Pl.dWords r0.tail).1 := ⟨_, rfl⟩
  obtain ⟨rb, hrb⟩ : ∃ rb, rb = (Pl.dWords r0.tail).2 := ⟨_, rfl⟩
  rw [← hzs] at hown hlen ⊢
  rw [← hrb] at r2
  obtain ⟨len, hle⟩ : ∃ len, len = zs.length := ⟨_, rfl⟩
  rw [← hle] at hown hlen ⊢
  obtain ⟨q3, e3, h3⟩ : ∃ q : Nat, ((n : Int).tmod 3) = (q : Int) ∧ q = n % 3 := ⟨n % 3, by rw [Int.tmod_eq_emod_of_nonneg (by omega)]; omega, rfl⟩
  obtain ⟨y4, f4, g4⟩ : ∃ y : Nat, ((n : Int).tdiv 4) = (y : Int) ∧ y = n / 4 := ⟨n / 4, by rw [Int.tdiv_eq_ediv_of_nonneg (by omega)]; omega, rfl⟩
  obtain ⟨q4, e4, h4⟩ : ∃ q : Nat, ((y4 : Int).tmod 3) = (q : Int) ∧ q = y4 % 3 := ⟨y4 % 3, by rw [Int.tmod_eq_emod_of_nonneg (by omega)]; omega, rfl⟩
  have QI : Hid (∀ k, Pl.dImg0 r0 k = (⟨zs, Pl.nums (Pl.takeB k rb).1, 65536, 16 * (1 + (q3 : Int))⟩, (Pl.takeB k rb).2)) := fun k => by
    unfold Pl.dImg0
    rw [← hzs, ← hrb, ← Qn.out, h3]
  have QD : Hid (Pl.dImage r0 = (Pl.I2 n (Pl.dImg0 r0 (q4 * 4)).1, (Pl.dImg0 r0 (q4 * 4)).2)) := by
    show Pl.dImage r0 = _
    unfold Pl.dImage
    rw [← Qn.out, h4, g4]
  have hq3 : q3 ≤ 2 := by omega
  have hy4 : y4 ≤ 255 := by omega
  have hq4 : q4 ≤ 2 := by omega
  have HLN : Hid (len = zs.length) := hle
  clear hzs hrb h3 g4 h4 hle
  have hs2 : u1.heap.size ≤ u2.heap.size := d2.size
  have M2 : Hid (IMF w c (u2.heap.size + 1) ⟨⟨some ⟨g0, 0, none⟩, len, cap⟩, ⟨some ⟨u2.heap.size, 0, none⟩, 0, 0⟩⟩ ⟨zs, [], 65536, 16 * (1 + (q3 : Int))⟩ rb ((u2.alloc (.cells #[] 5)).alloc (.cells #[.slice (some ⟨g0, 0, none⟩) len cap, .slice (some ⟨u2.heap.size, 0, none⟩) 0 0, .int .i64 65536, .int .i64 (16 * (1 + (q3 : Int)))] 43))) := by
    have hc2 : Own .i64 3 (w.heap.size + 1) u2 (some ⟨g0, 0, none⟩) len cap zs := hown.lower (by omega)
    have hg0 := hc2.at_ (i := g0) rfl
    have hb := (below_alloc u2 (.cells #[] 5))
    refine ⟨?_, ?_, (hc2.keep hb).keep (below_alloc _ _), ⟨?_, (fun x hx => (by cases hx))⟩, ?_, ?_, ?_, (r2.alloc _).alloc _, ((H1.out.2.trans d2).trans (OnlyB.of_below hb)).trans (OnlyB.of_below (below_alloc _ _)), by omega, hcw, by show zs.length ≤ 16385; have := hc2.row.1; omega, Nat.zero_le _, by show (-1000000 : Int) ≤ 65536 ∧ (65536 : Int) ≤ 1000000; omega, by show (-1000000 : Int) ≤ 16 * (1 + (q3 : Int)) ∧ 16 * (1 + (q3 : Int)) ≤ 1000000; omega⟩
    · have := heap_alloc_new (u2.alloc (.cells #[] 5)) (.cells #[.slice (some ⟨g0, 0, none⟩) len cap, .slice (some ⟨u2.heap.size, 0, none⟩) 0 0, .int .i64 65536, .int .i64 (16 * (1 + (q3 : Int)))] 43)
      simpa using this
    · rw [Below.heap_alloc _ _ _ (by simp; omega), Below.heap_alloc _ _ _ (by omega), d2.block _ (by omega) (by omega)]
      exact hres1
    · exact (World.ownsRow_lit u2 #[] 0 (base := w.heap.size + 1) (e := 5) (size := 1) (by omega) (Nat.zero_le _) rfl).alloc _
    · intro i hi; rw [ob_some _ _ _ _ hi]; omega
    · intro i hi; rw [ob_some _ _ _ _ hi]; omega
    · intro i j hi hj; rw [ob_some _ _ _ _ hi, ob_some _ _ _ _ hj]; omega
  clear hown r2 d2 H1 hres1
  go_wp2_with fail
  go_loopw [5] (fun i wr => ∃ (k : Nat) (v : IV) (m : Pl.Img), k ≤ q4 * 4 ∧ i = .int .i64 k ∧ m = (Pl.dImg0 r0 k).1 ∧ v.code.len ≤ 12 ∧ IMF w c (u2.heap.size + 1) v m (Pl.dImg0 r0 k).2 wr) (fun i _ => q4 * 4 - (intOf i).toNat)
  case atStart => exact ⟨0, ⟨⟨some ⟨g0, 0, none⟩, len, cap⟩, ⟨some ⟨u2.heap.size, 0, none⟩, 0, 0⟩⟩, ⟨zs, [], 65536, 16 * (1 + (q3 : Int))⟩, Nat.zero_le _, rfl, by rw [QI.out]; rfl, by show len ≤ 12; omega, by rw [QI.out]; exact M2.out⟩
  case round =>
    obtain ⟨k, v, m, hk, rfl, hme, hcl, hM⟩ := hrel
    obtain ⟨ra, hra⟩ : ∃ ra, ra = (Pl.dImg0 r0 k).2 := ⟨_, rfl⟩
    rw [← hra] at hM
    have hkl : m.data.length = k := by rw [hme, QI.out]; show (Pl.nums _).length = k; rw [nums_len, Pl.takeB_len]
    have hml : m.code.length ≤ 12 := by have := hM.code.row.1; omega
    have hen : m.entry = 65536 := by rw [hme, QI.out]
    have MR : Hid (IMF w c (u2.heap.size + 1) v m ra wr) := hM
    have hdl : v.data.len = k := by have := hM.data.row.1; omega
    have hx := hd_le hM.rd
    have QN : Hid (Pl.dImg0 r0 (k + 1) = ({ m with data := m.data ++ [((Pl.hd ra : Nat) : Int)] }, ra.tail)) := by
      show Pl.dImg0 r0 (k + 1) = _
      have e1 := QI.out k
      have e2 := QI.out (k + 1)
      rw [e1] at hme hra
      rw [e2, hme, hra]
      show (Pl.Img.mk zs (Pl.nums ((Pl.takeB k rb).1 ++ [Pl.hd (Pl.takeB k rb).2])) 65536 _, _) = _
      unfold Pl.nums
      rw [List.map_append]
      rfl
    have QM : Hid (m = (Pl.dImg0 r0 k).1 ∧ ra = (Pl.dImg0 r0 k).2) := ⟨hme, hra⟩
    have HDL : Hid (v.data.len = k ∧ m.data.length = k ∧ m.entry = 65536 ∧ v.code.len = m.code.length) := ⟨hdl, hkl, hen, by have := hM.code.row.1; omega⟩
    have hd8 : v.data.len ≤ 8 := by omega
    clear hM M2 hme hra hkl hen hdl
    by_cases hl : k < q4 * 4
    · have hi : (k : Int) < (q4 : Int) * 4 := by omega
      have hd1 : wr.cell? ⟨(u2.heap.size + 1), 1, none⟩ = some (.slice v.data.a v.data.len v.data.cap) := MR.out.cell 1
      obtain ⟨x, hxe⟩ : ∃ x, x = Pl.hd ra := ⟨_, rfl⟩
      rw [← hxe] at hx
      have Qx : Hid (x = Pl.hd ra) := hxe
      rw [← hxe] at QN
      clear hxe
      go_upto_region 6 with fail
      obtain ⟨U, hU⟩ : ∃ U, U = wr.drew := ⟨_, rfl⟩
      have MU : Hid (IMF w c (u2.heap.size + 1) v m ra U) := by show IMF w c (u2.heap.size + 1) v m ra U; rw [hU]; exact MR.out.only (MR.out.rd.drewN 1) ⟨rfl, rfl, rfl, Nat.le_refl _, fun _ _ _ => rfl⟩
      have d1 : U.cell? ⟨(u2.heap.size + 1), 1, none⟩ = some (.slice v.data.a v.data.len v.data.cap) := MU.out.cell 1
      refine wp_region_any (by kernel_rfl) ?_
      change wpAny _ _ _ _ _ _ _ (World.drew _)
      rw [← hU]
      clear hU
      refine wpAny_inw (fun L act w' => ∃ sb G cp, act = IgMk c w.heap.size n (u2.heap.size + 1) k x v (.slice (some ⟨g0, 0, none⟩) len cap) (.slice (some ⟨u2.heap.size, 0, none⟩) 0 0) (.int .i64 (q3 : Int)) (.int .i64 (1 + (q3 : Int))) (.int .i64 (16 * (1 + (q3 : Int)))) (.agg #[.slice (some ⟨g0, 0, none⟩) len cap, .slice (some ⟨u2.heap.size, 0, none⟩) 0 0, .int .i64 65536, .int .i64 (16 * (1 + (q3 : Int)))]) (.int .i64 (y4 : Int)) (.int .i64 (q4 : Int)) (.int .i64 ((q4 : Int) * 4)) u23 u24 u25 u26 u27 u28 u29 u30 u31 u32 sb G cp L ∧ IgW w c (u2.heap.size + 1) x v m ra.tail U sb G cp L w') ?done (by kernel_rfl) ?step _ 9 _ _ (by kernel_rfl) ?init (by decide)
      case init => exact ⟨0, 0, 0, by simp only [IgMk, sld_no (up_init _ _)], fun _ => rfl, fun q => absurd (q.symm.trans (up_init _ _)) (by decide), fun q => absurd (q.symm.trans (up_init _ _)) (by decide), fun q => absurd (q.symm.trans (up_init _ _)) (by decide), fun q => absurd (q.symm.trans (up_init _ _)) (by decide)⟩
      case step =>
          intro L act wq i o hI hlt hs nl hC hd ho K hK
          obtain ⟨sb, G, cp, rfl, hW⟩ := hI
          have hi_lt : i < 9 := (Array.getElem?_eq_some_iff.1 ho).1
          rcases (show i = 0 ∨ i = 1 ∨ i = 2 ∨ i = 3 ∨ i = 4 ∨ i = 5 ∨ i = 6 ∨ i = 7 ∨ i = 8 by omega) with rfl | rfl | rfl | rfl | rfl | rfl | rfl | rfl | rfl
          · change some _ = some o at ho
            cases ho
            simp only [IgMk]
            go_simp
            exact hK _ _ ⟨sb, G, cp, by simp only [IgMk, sld_set hlt, reduceIte, Nat.reduceEqDiff]; try rfl, (hW.keep hlt (by decide) (by decide) (by decide) (by decide))⟩
          · change some _ = some o at ho
            cases ho
            have q0 : up L 0 = true := (by first | exact hd { on := 0, ground := .data } (by simp) rfl | exact hd { on := 0, ground := .chain } (by simp) rfl | exact hd { on := 0, ground := .phase } (by simp) rfl)
            have n6 : up L 6 = false := hC.no nl 6 rfl (by kernel_rfl)
            have cx := hW.cell n6 d1
            simp only [IgMk, sld_yes q0]
            go_simp
            exact hK _ _ ⟨sb, G, cp, by simp only [IgMk, sld_set hlt, sld_yes q0, reduceIte, Nat.reduceEqDiff]; try rfl, (hW.keep hlt (by decide) (by decide) (by decide) (by decide))⟩
          · change some _ = some o at ho
            cases ho
            simp only [IgMk]
            go_simp
            exact hK _ _ ⟨sb, G, cp, by simp only [IgMk, sld_set hlt, reduceIte, Nat.reduceEqDiff]; try rfl, (hW.keep hlt (by decide) (by decide) (by decide) (by decide))⟩
          · change some _ = some o at ho
            cases ho
            have q2 : up L 2 = true := (by first | exact hd { on := 2, ground := .data } (by simp) rfl | exact hd { on := 2, ground := .chain } (by simp) rfl | exact hd { on := 2, ground := .phase } (by simp) rfl)
            have n4 : up L 4 = false := hC.no nl 4 rfl (by kernel_rfl)
            have n5 : up L 5 = false := hC.no n4 5 rfl (by kernel_rfl)
            have n6 : up L 6 = false := hC.no n5 6 rfl (by kernel_rfl)
            have n8 : up L 8 = false := hC.no n6 8 rfl (by kernel_rfl)
            obtain rfl := hW.1 nl
            simp only [IgMk, sld_yes q2]
            go_simp
            refine (next_f _ c ra MU.out.rd).mono ?_
            rintro e z ⟨rfl, rz, dz⟩
            rw [← Qx.out]
            go_simp
            exact hK _ _ ⟨sb, G, cp, by simp only [IgMk, sld_set hlt, sld_yes q2, reduceIte, Nat.reduceEqDiff]; try rfl, ⟨fun q => ufalse (up_self hlt) q, fun _ _ => MU.out.only rz dz, fun q => ufalse q ((up_other hlt (by decide)).trans n5), fun q => ufalse q ((up_other hlt (by decide)).trans n6), fun q => ufalse q ((up_other hlt (by decide)).trans n8)⟩⟩
          · change some _ = some o at ho
            cases ho
            have q3 : up L 3 = true := (by first | exact hd { on := 3, ground := .data } (by simp) rfl | exact hd { on := 3, ground := .chain } (by simp) rfl | exact hd { on := 3, ground := .phase } (by simp) rfl)
            have hwx : IntKind.u8.wrap (x : Int) = (x : Int) := by rw [IntKind.wrap_u8]; omega
            simp only [IgMk, sld_yes q3]
            go_simp
            exact hK _ _ ⟨sb, G, cp, by simp only [IgMk, sld_set hlt, sld_yes q3, reduceIte, Nat.reduceEqDiff]; try rfl, (hW.keep hlt (by decide) (by decide) (by decide) (by decide))⟩
          · change some _ = some o at ho
            cases ho
            have q4 : up L 4 = true := (by first | exact hd { on := 4, ground := .data } (by simp) rfl | exact hd { on := 4, ground := .chain } (by simp) rfl | exact hd { on := 4, ground := .phase } (by simp) rfl)
            have n6 : up L 6 = false := hC.no nl 6 rfl (by kernel_rfl)
            have n8 : up L 8 = false := hC.no n6 8 rfl (by kernel_rfl)
            have q3 : up L 3 = true := hC 4 _ rfl q4 { on := 3, ground := .data } (by simp) rfl
            have z3 := hW.2.1 q3 nl
            simp only [IgMk, sld_yes q4]
            go_simp
            exact hK _ _ ⟨wq.heap.size, G, cp, by simp only [IgMk, sld_set hlt, sld_yes q4, reduceIte, Nat.reduceEqDiff]; try rfl, ⟨fun q => ufalse ((up_other hlt (by decide)).trans q3) q, fun _ q => ufalse (up_self hlt) q, fun _ _ => ⟨wq, z3, rfl, rfl⟩, fun q => ufalse q ((up_other hlt (by decide)).trans n6), fun q => ufalse q ((up_other hlt (by decide)).trans n8)⟩⟩
          · change some _ = some o at ho
            cases ho
            have q1 : up L 1 = true := (by first | exact hd { on := 1, ground := .data } (by simp) rfl | exact hd { on := 1, ground := .chain } (by simp) rfl | exact hd { on := 1, ground := .phase } (by simp) rfl)
            have q5 : up L 5 = true := (by first | exact hd { on := 5, ground := .data } (by simp) rfl | exact hd { on := 5, ground := .chain } (by simp) rfl | exact hd { on := 5, ground := .phase } (by simp) rfl)
            have n8 : up L 8 = false := hC.no nl 8 rfl (by kernel_rfl)
            have q4 : up L 4 = true := hC 5 _ rfl q5 { on := 4, ground := .data } (by simp) rfl
            have q3 : up L 3 = true := hC 4 _ rfl q4 { on := 3, ground := .data } (by simp) rfl
            obtain ⟨w5, z5, rfl, rfl⟩ := hW.2.2.1 q5 nl
            simp only [IgMk, sld_yes q1, sld_yes q5]
            rw [if_pos (by rfl)]
            refine wp_append_lies _ (.tmp 26) (.tmp 30) 22 (by rfl) (w.heap.size + 1) 5 i0 (.int .u8 0) 1 1 Tryz.underlying22 hi0 hz0 hz1 hz2 rfl (by decide) (.slice v.data.a v.data.len v.data.cap) v.data.len (m.data.map (Value.int .u8)) (by rfl) (z5.data.1.alloc _) ⟨w5.heap.size, 0, none⟩ 1 1 [.int .u8 (x : Int)] (by rfl) rfl (byte_news w5 _) (by intro z hz; simp at hz; subst hz; rfl) (by decide) (by unfold maxLen; omega) (by omega) (by have := z5.lt; have := z5.rg; simp; omega) _ rfl ?_
            intro G' cp' w6 hown6 hgrow hat hlt6
            exact hK _ _ ⟨w5.heap.size, G', cp', by simp only [IgMk, sld_set hlt, sld_yes q1, sld_yes q5, reduceIte, Nat.reduceEqDiff]; try rfl, ⟨fun q => ufalse ((up_other hlt (by decide)).trans q3) q, fun _ q => ufalse ((up_other hlt (by decide)).trans q5) q, fun _ q => ufalse (up_self hlt) q, fun _ _ => ⟨w5, _, z5, below_alloc w5 _, hown6, hgrow, hat⟩, fun q => ufalse q ((up_other hlt (by decide)).trans n8)⟩⟩
          · change some _ = some o at ho
            cases ho
            simp only [IgMk]
            go_simp
            exact hK _ _ ⟨sb, G, cp, by simp only [IgMk, sld_set hlt, reduceIte, Nat.reduceEqDiff]; try rfl, (hW.keep hlt (by decide) (by decide) (by decide) (by decide))⟩
          · change some _ = some o at ho
            cases ho
            have q6 : up L 6 = true := (by first | exact hd { on := 6, ground := .data } (by simp) rfl | exact hd { on := 6, ground := .chain } (by simp) rfl | exact hd { on := 6, ground := .phase } (by simp) rfl)
            have q7 : up L 7 = true := (by first | exact hd { on := 7, ground := .data } (by simp) rfl | exact hd { on := 7, ground := .chain } (by simp) rfl | exact hd { on := 7, ground := .phase } (by simp) rfl)
            obtain ⟨ub, UB, z6, zb, zo, zg, za⟩ := hW.2.2.2.1 q6 nl
            have q5 : up L 5 = true := hC 6 _ rfl q6 { on := 5, ground := .data } (by simp) rfl
            have q4 : up L 4 = true := hC 5 _ rfl q5 { on := 4, ground := .data } (by simp) rfl
            have q3 : up L 3 = true := hC 4 _ rfl q4 { on := 3, ground := .data } (by simp) rfl
            have hbx := (zg.block (u2.heap.size + 1) (Nat.lt_of_lt_of_le z6.lt zb.size) (fun e => z6.n2 _ e.symm rfl)).trans ((zb.block _ z6.lt).trans z6.box)
            have qc : ∀ j, wq.cell? ⟨(u2.heap.size + 1), j, none⟩ = (#[.slice v.code.a v.code.len v.code.cap, .slice v.data.a v.data.len v.data.cap, .int .i64 m.entry, .int .i64 m.size] : Array Value)[j]? := (fun j => cell_of_row wq (u2.heap.size + 1) j _ 43 (0, 0) hbx)
            have qf : ∀ j, wq.frozen? ⟨(u2.heap.size + 1), j, none⟩ = false := (fun j => frozen_of_row wq (u2.heap.size + 1) j _ 43 hbx)
            simp only [IgMk, sld_yes q6, sld_yes q7]
            go_simp
            exact hK _ _ ⟨sb, G, cp, by simp only [IgMk, sld_set hlt, sld_yes q6, sld_yes q7, reduceIte, Nat.reduceEqDiff]; try rfl, ⟨fun q => ufalse ((up_other hlt (by decide)).trans q3) q, fun _ q => ufalse ((up_other hlt (by decide)).trans q5) q, fun _ q => ufalse ((up_other hlt (by decide)).trans q6) q, fun _ q => ufalse (up_self hlt) q, fun _ => z6.grewData zb (x : Int) (by omega) zo zg za (by have := HDL.out; omega)⟩⟩
      case done =>
        rintro L act u4 ⟨sb, G, cp, rfl, hW⟩ hall
        have hup : ∀ j, j < 9 → up L j = true := fun j hj => hall j (by simpa using hj)
        have hM9 := hW.2.2.2.2 (hup 8 (by decide))
        have HM9 : Hid (IMF w c (u2.heap.size + 1) { v with data := ⟨some ⟨G, 0, none⟩, v.data.len + 1, cp⟩ } { m with data := m.data ++ [(x : Int)] } ra.tail u4) := hM9
        simp only [IgMk, sld_yes (hup 0 (by decide)), sld_yes (hup 1 (by decide)), sld_yes (hup 2 (by decide)), sld_yes (hup 3 (by decide)), sld_yes (hup 4 (by decide)), sld_yes (hup 5 (by decide)), sld_yes (hup 6 (by decide)), sld_yes (hup 7 (by decide))]
        clear hW hM9 hall hup MU d1
        go_wp2_with fail
        go_roundw
        case rel => exact ⟨k + 1, { v with data := ⟨some ⟨G, 0, none⟩, v.data.len + 1, cp⟩ }, { m with data := m.data ++ [(x : Int)] }, by omega, by go_num, by rw [QN.out], hcl, by rw [QN.out]; exact HM9.out⟩
        case measure => simp [intOf]; omega
    · have hi : ¬ (k : Int) < (q4 : Int) * 4 := by omega
      have hnn : (n : Int) ≤ 255 := by omega
      have hml' : (m.code.length : Int) ≤ 12 := by omega
      have hcl' : (v.code.len : Int) ≤ 12 := by omega
      have HLC : Hid (m.code.length ≤ 12 ∧ m.data.length ≤ 8 ∧ v.code.len ≤ 12) := ⟨hml, by have := HDL.out; omega, hcl⟩
      have hen : (0 : Int) ≤ m.entry ∧ m.entry ≤ 65536 := by have := HDL.out.2.2.1; omega
      obtain ⟨q7, e7, h7'⟩ : ∃ q : Nat, ((n : Int).tmod 7) = (q : Int) ∧ q = n % 7 := ⟨n % 7, by rw [Int.tmod_eq_emod_of_nonneg (by omega)]; omega, rfl⟩
      have h7 : q7 ≤ 6 := by omega
      obtain ⟨q2, e2, h2'⟩ : ∃ q : Nat, ((n : Int).tmod 2) = (q : Int) ∧ q = n % 2 := ⟨n % 2, by rw [Int.tmod_eq_emod_of_nonneg (by omega)]; omega, rfl⟩
      have h2 : q2 ≤ 1 := by omega
      obtain ⟨y7, f7, g7'⟩ : ∃ y : Nat, ((n : Int).tdiv 7) = (y : Int) ∧ y = n / 7 := ⟨n / 7, by rw [Int.tdiv_eq_ediv_of_nonneg (by omega)]; omega, rfl⟩
      have g7 : y7 ≤ 255 := by omega
      obtain ⟨p4, d4, b4'⟩ : ∃ q : Nat, ((y7 : Int).tmod 4) = (q : Int) ∧ q = y7 % 4 := ⟨y7 % 4, by rw [Int.tmod_eq_emod_of_nonneg (by omega)]; omega, rfl⟩
      have b4 : p4 ≤ 3 := by omega
      obtain ⟨p3, d3, b3'⟩ : ∃ q : Nat, ((y7 : Int).tmod 3) = (q : Int) ∧ q = y7 % 3 := ⟨y7 % 3, by rw [Int.tmod_eq_emod_of_nonneg (by omega)]; omega, rfl⟩
      have b3 : p3 ≤ 2 := by omega
      obtain ⟨y250, f250, g250'⟩ : ∃ y : Nat, ((n : Int).tdiv 250) = (y : Int) ∧ y = n / 250 := ⟨n / 250, by rw [Int.tdiv_eq_ediv_of_nonneg (by omega)]; omega, rfl⟩
      have g250 : y250 ≤ 1 := by omega
      have QS : Hid (q7 = n % 7 ∧ q2 = n % 2 ∧ p4 = n / 7 % 4 ∧ p3 = n / 7 % 3 ∧ y250 = n / 250) := ⟨h7', h2', by rw [b4', g7'], by rw [b3', g7'], g250'⟩
      have hkq : k = q4 * 4 := by omega
      have QE : Hid (k = q4 * 4) := hkq
      clear hml hcl hk hkq h7' h2' g7' b4' b3' g250'
      go_upto_if 34 with fail
      go_cut [4] from 17 to 97 (fun s4 wx => s4 = .pointer (some ⟨(u2.heap.size + 1), 0, none⟩) ∧ ∃ v, IMF w c (u2.heap.size + 1) v (Pl.I2 n m) ra wx)
      case first =>
        by_cases h236 : 236 ≤ n
        rotate_left
        · have h236' : ¬ (236 : Int) ≤ (n : Int) := by omega
          go_wp2_with fail
          go_meet
          exact ⟨rfl, v, by rw [Pl.I2_n m h236]; exact MR.out⟩
        have h236' : (236 : Int) ≤ (n : Int) := by omega
        rcases (show q7 = 0 ∨ q7 = 1 ∨ q7 = 2 ∨ q7 = 3 ∨ q7 = 4 ∨ q7 = 5 ∨ q7 = 6 by omega) with rfl | rfl | rfl | rfl | rfl | rfl | rfl
        · have kc : ∀ j, wr.cell? ⟨(u2.heap.size + 1), j, none⟩ = (#[.slice v.code.a v.code.len v.code.cap, .slice v.data.a v.data.len v.data.cap, .int .i64 m.entry, .int .i64 m.size] : Array Value)[j]? := fun j => MR.out.cell j
          have kf : ∀ j, wr.frozen? ⟨(u2.heap.size + 1), j, none⟩ = false := fun j => MR.out.frz j
          have kca : ∀ o j, (wr.alloc o).cell? ⟨(u2.heap.size + 1), j, none⟩ = (#[.slice v.code.a v.code.len v.code.cap, .slice v.data.a v.data.len v.data.cap, .int .i64 m.entry, .int .i64 m.size] : Array Value)[j]? := fun o j => (MR.out.alloc o).cell j
          have kfa : ∀ o j, (wr.alloc o).frozen? ⟨(u2.heap.size + 1), j, none⟩ = false := fun o j => (MR.out.alloc o).frz j
          go_wp2_with fail
          go_meet
          refine ⟨rfl, v, ?_⟩
          rw [Pl.I2_0 m h236 QS.out.1.symm]
          have he0 : Pl.e0 n m = m.entry + (4 * (v.code.len : Int) - (y250 : Int) * 4) := by unfold Pl.e0; rw [HDL.out.2.2.2, QS.out.2.2.2.2]
          rw [he0]
          exact MR.out.setEntry _ (by first | omega | (simp only [IntKind.wrap_i64]; omega))
        · have kc : ∀ j, wr.cell? ⟨(u2.heap.size + 1), j, none⟩ = (#[.slice v.code.a v.code.len v.code.cap, .slice v.data.a v.data.len v.data.cap, .int .i64 m.entry, .int .i64 m.size] : Array Value)[j]? := fun j => MR.out.cell j
          have kf : ∀ j, wr.frozen? ⟨(u2.heap.size + 1), j, none⟩ = false := fun j => MR.out.frz j
          have kca : ∀ o j, (wr.alloc o).cell? ⟨(u2.heap.size + 1), j, none⟩ = (#[.slice v.code.a v.code.len v.code.cap, .slice v.data.a v.data.len v.data.cap, .int .i64 m.entry, .int .i64 m.size] : Array Value)[j]? := fun o j => (MR.out.alloc o).cell j
          have kfa : ∀ o j, (wr.alloc o).frozen? ⟨(u2.heap.size + 1), j, none⟩ = false := fun o j => (MR.out.alloc o).frz j
          go_wp2_with fail
          go_meet
          refine ⟨rfl, v, ?_⟩
          rw [Pl.I2_1 m h236 QS.out.1.symm]
          exact MR.out.setEntry _ (by first | omega | (simp only [IntKind.wrap_i64]; omega))
        · have kc : ∀ j, wr.cell? ⟨(u2.heap.size + 1), j, none⟩ = (#[.slice v.code.a v.code.len v.code.cap, .slice v.data.a v.data.len v.data.cap, .int .i64 m.entry, .int .i64 m.size] : Array Value)[j]? := fun j => MR.out.cell j
          have kf : ∀ j, wr.frozen? ⟨(u2.heap.size + 1), j, none⟩ = false := fun j => MR.out.frz j
          have kca : ∀ o j, (wr.alloc o).cell? ⟨(u2.heap.size + 1), j, none⟩ = (#[.slice v.code.a v.code.len v.code.cap, .slice v.data.a v.data.len v.data.cap, .int .i64 m.entry, .int .i64 m.size] : Array Value)[j]? := fun o j => (MR.out.alloc o).cell j
          have kfa : ∀ o j, (wr.alloc o).frozen? ⟨(u2.heap.size + 1), j, none⟩ = false := fun o j => (MR.out.alloc o).frz j
          rcases (show p4 = 0 ∨ p4 = 1 ∨ p4 = 2 ∨ p4 = 3 by omega) with rfl | rfl | rfl | rfl
          all_goals
            go_wp2_with fail
            go_meet
            refine ⟨rfl, v, ?_⟩
            rw [Pl.I2_2 m h236 QS.out.1.symm, ← QS.out.2.2.1]
            exact (MR.out.alloc _).setSize _ (by decide)
        · have kc : ∀ j, wr.cell? ⟨(u2.heap.size + 1), j, none⟩ = (#[.slice v.code.a v.code.len v.code.cap, .slice v.data.a v.data.len v.data.cap, .int .i64 m.entry, .int .i64 m.size] : Array Value)[j]? := fun j => MR.out.cell j
          have kf : ∀ j, wr.frozen? ⟨(u2.heap.size + 1), j, none⟩ = false := fun j => MR.out.frz j
          have kca : ∀ o j, (wr.alloc o).cell? ⟨(u2.heap.size + 1), j, none⟩ = (#[.slice v.code.a v.code.len v.code.cap, .slice v.data.a v.data.len v.data.cap, .int .i64 m.entry, .int .i64 m.size] : Array Value)[j]? := fun o j => (MR.out.alloc o).cell j
          have kfa : ∀ o j, (wr.alloc o).frozen? ⟨(u2.heap.size + 1), j, none⟩ = false := fun o j => (MR.out.alloc o).frz j
          obtain ⟨L, hL, hLe, hLn⟩ : ∃ L : Nat, L ≤ 65537 ∧ (65536 : Int) + (q2 : Int) = (L : Int) ∧ L = 65536 + n % 2 := ⟨65536 + q2, by omega, by omega, by rw [QS.out.2.1]⟩
          have QL : Hid (L = 65536 + n % 2) := hLn
          clear hLn
          have hm : ∀ u : World, (Instr.makeSlice 22 (.int .i64 (L : Int)) (.int .i64 (L : Int))).run Tryz.prog u = .ok (.slice (some ⟨u.heap.size, 0, none⟩) L L) (u.alloc (.cells (madeCells (Value.int .u8 0).cells (L * 1)) 5)) := fun u => by
            have := run_makeSlice u 22 5 i0 _ Tryz.underlying22 hi0 hz0 .i64 .i64 (L : Int) (L : Int) (by omega) (by omega) (by rw [hz1]; simp; omega) (by rw [hz2]; omega) (by omega)
            rw [hz1, Int.toNat_natCast] at this
            exact this
          have HZ : Hid (Own .u8 5 (w.heap.size + 1) (wr.alloc (.cells (madeCells (Value.int .u8 0).cells (L * 1)) 5)) (some ⟨wr.heap.size, 0, none⟩) L L (List.replicate L 0)) := by
            have hz : (madeCells (Value.int .u8 0).cells (L * 1)).toList = (List.replicate L (0 : Int)).map (Value.int .u8) := by
              rw [show (Value.int .u8 0).cells = #[Value.int .u8 0] from rfl, Nat.mul_one, toList_madeCells_one, List.map_replicate]
            refine ⟨?_, fun x hx => by rw [List.eq_of_mem_replicate hx]; rfl⟩
            rw [← hz]
            exact World.ownsRow_lit wr _ L (by have := MR.out.lt; have := MR.out.rg; omega) (by unfold maxLen; omega) (by rw [← Array.length_toList, hz]; simp)
          generalize madeCells (Value.int .u8 0).cells (L * 1) = Z at *
          go_wp2_with fail
          go_meet
          refine ⟨rfl, { v with data := ⟨some ⟨wr.heap.size, 0, none⟩, L, L⟩ }, ?_⟩
          rw [Pl.I2_3 m h236 QS.out.1.symm, ← QL.out]
          exact (MR.out.setData ⟨some ⟨wr.heap.size, 0, none⟩, L, L⟩ _ HZ.out (fun b hb _ => Below.heap_alloc _ _ _ hb) ((below_alloc wr _).mono (by have := MR.out.lt; have := MR.out.rg; omega)) (fun i hi => .inr (by rw [ob_some _ _ _ _ hi]; exact Nat.le_refl _)) (by rw [List.length_replicate]; omega))
        · have kc : ∀ j, wr.cell? ⟨(u2.heap.size + 1), j, none⟩ = (#[.slice v.code.a v.code.len v.code.cap, .slice v.data.a v.data.len v.data.cap, .int .i64 m.entry, .int .i64 m.size] : Array Value)[j]? := fun j => MR.out.cell j
          have kf : ∀ j, wr.frozen? ⟨(u2.heap.size + 1), j, none⟩ = false := fun j => MR.out.frz j
          have kca : ∀ o j, (wr.alloc o).cell? ⟨(u2.heap.size + 1), j, none⟩ = (#[.slice v.code.a v.code.len v.code.cap, .slice v.data.a v.data.len v.data.cap, .int .i64 m.entry, .int .i64 m.size] : Array Value)[j]? := fun o j => (MR.out.alloc o).cell j
          have kfa : ∀ o j, (wr.alloc o).frozen? ⟨(u2.heap.size + 1), j, none⟩ = false := fun o j => (MR.out.alloc o).frz j
          obtain ⟨L, hL, hLe, hLn⟩ : ∃ L : Nat, L ≤ 16385 ∧ (16384 : Int) + (q2 : Int) = (L : Int) ∧ L = 16384 + n % 2 := ⟨16384 + q2, by omega, by omega, by rw [QS.out.2.1]⟩
          have QL : Hid (L = 16384 + n % 2) := hLn
          clear hLn
          have hm : ∀ u : World, (Instr.makeSlice 23 (.int .i64 (L : Int)) (.int .i64 (L : Int))).run Tryz.prog u = .ok (.slice (some ⟨u.heap.size, 0, none⟩) L L) (u.alloc (.cells (madeCells (Value.int .i64 0).cells (L * 1)) 3)) := fun u => by
            have := run_makeSlice u 23 3 j0 _ Tryz.underlying23 hj0 hy0 .i64 .i64 (L : Int) (L : Int) (by omega) (by omega) (by rw [hy1]; simp; omega) (by rw [hy2]; omega) (by omega)
            rw [hy1, Int.toNat_natCast] at this
            exact this
          have HZ : Hid (Own .i64 3 (w.heap.size + 1) (wr.alloc (.cells (madeCells (Value.int .i64 0).cells (L * 1)) 3)) (some ⟨wr.heap.size, 0, none⟩) L L (List.replicate L 0)) := by
            have hz : (madeCells (Value.int .i64 0).cells (L * 1)).toList = (List.replicate L (0 : Int)).map (Value.int .i64) := by
              rw [show (Value.int .i64 0).cells = #[Value.int .i64 0] from rfl, Nat.mul_one, toList_madeCells_one, List.map_replicate]
            refine ⟨?_, fun x hx => by rw [List.eq_of_mem_replicate hx]; rfl⟩
            rw [← hz]
            exact World.ownsRow_lit wr _ L (by have := MR.out.lt; have := MR.out.rg; omega) (by unfold maxLen; omega) (by rw [← Array.length_toList, hz]; simp)
          generalize madeCells (Value.int .i64 0).cells (L * 1) = Z at *
          go_wp2_with fail
          go_meet
          refine ⟨rfl, { v with code := ⟨some ⟨wr.heap.size, 0, none⟩, L, L⟩ }, ?_⟩
          rw [Pl.I2_4 m h236 QS.out.1.symm, ← QL.out]
          exact (MR.out.setCode ⟨some ⟨wr.heap.size, 0, none⟩, L, L⟩ _ HZ.out (fun b hb _ => Below.heap_alloc _ _ _ hb) ((below_alloc wr _).mono (by have := MR.out.lt; have := MR.out.rg; omega)) (fun i hi => .inr (by rw [ob_some _ _ _ _ hi]; exact Nat.le_refl _)) (by rw [List.length_replicate]; omega))
        · have kc : ∀ j, wr.cell? ⟨(u2.heap.size + 1), j, none⟩ = (#[.slice v.code.a v.code.len v.code.cap, .slice v.data.a v.data.len v.data.cap, .int .i64 m.entry, .int .i64 m.size] : Array Value)[j]? := fun j => MR.out.cell j
          have kf : ∀ j, wr.frozen? ⟨(u2.heap.size + 1), j, none⟩ = false := fun j => MR.out.frz j
          have kca : ∀ o j, (wr.alloc o).cell? ⟨(u2.heap.size + 1), j, none⟩ = (#[.slice v.code.a v.code.len v.code.cap, .slice v.data.a v.data.len v.data.cap, .int .i64 m.entry, .int .i64 m.size] : Array Value)[j]? := fun o j => (MR.out.alloc o).cell j
          have kfa : ∀ o j, (wr.alloc o).frozen? ⟨(u2.heap.size + 1), j, none⟩ = false := fun o j => (MR.out.alloc o).frz j
          have kcb : ∀ o o' j, ((wr.alloc o).alloc o').cell? ⟨(u2.heap.size + 1), j, none⟩ = (#[.slice v.code.a v.code.len v.code.cap, .slice v.data.a v.data.len v.data.cap, .int .i64 m.entry, .int .i64 m.size] : Array Value)[j]? := fun o o' j => ((MR.out.alloc o).alloc o').cell j
          have hw7 : IntKind.i64.wrap (y7 : Int) = (y7 : Int) := by rw [IntKind.wrap_i64]; omega
          rcases (show p3 = 0 ∨ p3 = 1 ∨ p3 = 2 by omega) with rfl | rfl | rfl
          · replace d3 : (y7 : Int).tmod 3 = 0 := d3
            go_wp2_with fail
            go_region_law ((refine step_append_lies _ (by rfl) (.tmp 83) (.tmp 90) 23 (by rfl) (w.heap.size + 1) 3 j0 (.int .i64 0) 1 8 Tryz.underlying23 hj0 hy0 hy1 hy2 rfl (by decide) (.slice v.code.a v.code.len v.code.cap) v.code.len (m.code.map (Value.int .i64)) (by rfl) (by first | exact (MR.out.code.1.alloc _).alloc _ | exact ((MR.out.code.1.alloc _).alloc _).drew) ⟨wr.heap.size + 1, 0, none⟩ 1 1 [.int .i64 (-1 : Int)] (by rfl) rfl (int_news2 _ _ (by simp) _) (by intro z hz; simp at hz; subst hz; rfl) (by decide) (by have := HLC.out; unfold maxLen; omega) (by have := HLC.out; omega) (by have := MR.out.lt; have := MR.out.rg; simp; omega) _ rfl ?_; intro G cp w1 hown1 hgrow hat hlt; have hbx := (hgrow.block (u2.heap.size + 1) (by have := MR.out.lt; simp; omega) (fun e => MR.out.n1 _ e.symm rfl)).trans ((MR.out.alloc _).alloc _).box; have q1 : ∀ j, w1.cell? ⟨(u2.heap.size + 1), j, none⟩ = (#[.slice v.code.a v.code.len v.code.cap, .slice v.data.a v.data.len v.data.cap, .int .i64 m.entry, .int .i64 m.size] : Array Value)[j]? := (fun j => cell_of_row w1 (u2.heap.size + 1) j _ 43 (0, 0) hbx); have qf : ∀ j, w1.frozen? ⟨(u2.heap.size + 1), j, none⟩ = false := (fun j => frozen_of_row w1 (u2.heap.size + 1) j _ 43 hbx); have HG : Hid (IMF w c (u2.heap.size + 1) { v with code := ⟨some ⟨G, 0, none⟩, v.code.len + 1, cp⟩ } { m with code := m.code ++ [(-1 : Int)] } ra (w1.setCell ⟨(u2.heap.size + 1), 0, none⟩ (.slice (some ⟨G, 0, none⟩) (v.code.len + 1) cp))) := MR.out.grewCode (by repeat (first | with_reducible exact Below.refl _ _ | refine Below.alloc ?_ (by simp) _ | refine Below.drew ?_ | refine below_drewN ?_ _)) (-1 : Int) (by decide) hown1 hgrow hat (by have := HLC.out; omega); clear hown1 hgrow hat hbx))
            all_goals
              go_wp2_with fail
              go_meet
              refine ⟨rfl, { v with code := ⟨some ⟨G, 0, none⟩, v.code.len + 1, cp⟩ }, ?_⟩
              rw [Pl.I2_5 m h236 QS.out.1.symm, ← QS.out.2.2.2.1]
              exact HG.out
          · replace d3 : (y7 : Int).tmod 3 = 1 := d3
            go_wp2_with fail
            go_region_law ((refine step_append_lies _ (by rfl) (.tmp 83) (.tmp 90) 23 (by rfl) (w.heap.size + 1) 3 j0 (.int .i64 0) 1 8 Tryz.underlying23 hj0 hy0 hy1 hy2 rfl (by decide) (.slice v.code.a v.code.len v.code.cap) v.code.len (m.code.map (Value.int .i64)) (by rfl) (by first | exact (MR.out.code.1.alloc _).alloc _ | exact ((MR.out.code.1.alloc _).alloc _).drew) ⟨wr.heap.size + 1, 0, none⟩ 1 1 [.int .i64 (4294967296 : Int)] (by rfl) rfl (int_news2 _ _ (by simp) _) (by intro z hz; simp at hz; subst hz; rfl) (by decide) (by have := HLC.out; unfold maxLen; omega) (by have := HLC.out; omega) (by have := MR.out.lt; have := MR.out.rg; simp; omega) _ rfl ?_; intro G cp w1 hown1 hgrow hat hlt; have hbx := (hgrow.block (u2.heap.size + 1) (by have := MR.out.lt; simp; omega) (fun e => MR.out.n1 _ e.symm rfl)).trans ((MR.out.alloc _).alloc _).box; have q1 : ∀ j, w1.cell? ⟨(u2.heap.size + 1), j, none⟩ = (#[.slice v.code.a v.code.len v.code.cap, .slice v.data.a v.data.len v.data.cap, .int .i64 m.entry, .int .i64 m.size] : Array Value)[j]? := (fun j => cell_of_row w1 (u2.heap.size + 1) j _ 43 (0, 0) hbx); have qf : ∀ j, w1.frozen? ⟨(u2.heap.size + 1), j, none⟩ = false := (fun j => frozen_of_row w1 (u2.heap.size + 1) j _ 43 hbx); have HG : Hid (IMF w c (u2.heap.size + 1) { v with code := ⟨some ⟨G, 0, none⟩, v.code.len + 1, cp⟩ } { m with code := m.code ++ [(4294967296 : Int)] } ra (w1.setCell ⟨(u2.heap.size + 1), 0, none⟩ (.slice (some ⟨G, 0, none⟩) (v.code.len + 1) cp))) := MR.out.grewCode (by repeat (first | with_reducible exact Below.refl _ _ | refine Below.alloc ?_ (by simp) _ | refine Below.drew ?_ | refine below_drewN ?_ _)) (4294967296 : Int) (by decide) hown1 hgrow hat (by have := HLC.out; omega); clear hown1 hgrow hat hbx))
            all_goals
              go_wp2_with fail
              go_meet
              refine ⟨rfl, { v with code := ⟨some ⟨G, 0, none⟩, v.code.len + 1, cp⟩ }, ?_⟩
              rw [Pl.I2_5 m h236 QS.out.1.symm, ← QS.out.2.2.2.1]
              exact HG.out
          · replace d3 : (y7 : Int).tmod 3 = 2 := d3
            go_wp2_with fail
            go_region_law ((refine step_append_lies _ (by rfl) (.tmp 83) (.tmp 90) 23 (by rfl) (w.heap.size + 1) 3 j0 (.int .i64 0) 1 8 Tryz.underlying23 hj0 hy0 hy1 hy2 rfl (by decide) (.slice v.code.a v.code.len v.code.cap) v.code.len (m.code.map (Value.int .i64)) (by rfl) (by first | exact (MR.out.code.1.alloc _).alloc _ | exact ((MR.out.code.1.alloc _).alloc _).drew) ⟨wr.heap.size + 1, 0, none⟩ 1 1 [.int .i64 (4294967295 : Int)] (by rfl) rfl (int_news2 _ _ (by simp) _) (by intro z hz; simp at hz; subst hz; rfl) (by decide) (by have := HLC.out; unfold maxLen; omega) (by have := HLC.out; omega) (by have := MR.out.lt; have := MR.out.rg; simp; omega) _ rfl ?_; intro G cp w1 hown1 hgrow hat hlt; have hbx := (hgrow.block (u2.heap.size + 1) (by have := MR.out.lt; simp; omega) (fun e => MR.out.n1 _ e.symm rfl)).trans ((MR.out.alloc _).alloc _).box; have q1 : ∀ j, w1.cell? ⟨(u2.heap.size + 1), j, none⟩ = (#[.slice v.code.a v.code.len v.code.cap, .slice v.data.a v.data.len v.data.cap, .int .i64 m.entry, .int .i64 m.size] : Array Value)[j]? := (fun j => cell_of_row w1 (u2.heap.size + 1) j _ 43 (0, 0) hbx); have qf : ∀ j, w1.frozen? ⟨(u2.heap.size + 1), j, none⟩ = false := (fun j => frozen_of_row w1 (u2.heap.size + 1) j _ 43 hbx); have HG : Hid (IMF w c (u2.heap.size + 1) { v with code := ⟨some ⟨G, 0, none⟩, v.code.len + 1, cp⟩ } { m with code := m.code ++ [(4294967295 : Int)] } ra (w1.setCell ⟨(u2.heap.size + 1), 0, none⟩ (.slice (some ⟨G, 0, none⟩) (v.code.len + 1) cp))) := MR.out.grewCode (by repeat (first | with_reducible exact Below.refl _ _ | refine Below.alloc ?_ (by simp) _ | refine Below.drew ?_ | refine below_drewN ?_ _)) (4294967295 : Int) (by decide) hown1 hgrow hat (by have := HLC.out; omega); clear hown1 hgrow hat hbx))
            all_goals
              go_wp2_with fail
              go_meet
              refine ⟨rfl, { v with code := ⟨some ⟨G, 0, none⟩, v.code.len + 1, cp⟩ }, ?_⟩
              rw [Pl.I2_5 m h236 QS.out.1.symm, ← QS.out.2.2.2.1]
              exact HG.out
        · have kc : ∀ j, wr.cell? ⟨(u2.heap.size + 1), j, none⟩ = (#[.slice v.code.a v.code.len v.code.cap, .slice v.data.a v.data.len v.data.cap, .int .i64 m.entry, .int .i64 m.size] : Array Value)[j]? := fun j => MR.out.cell j
          have kf : ∀ j, wr.frozen? ⟨(u2.heap.size + 1), j, none⟩ = false := fun j => MR.out.frz j
          have kca : ∀ o j, (wr.alloc o).cell? ⟨(u2.heap.size + 1), j, none⟩ = (#[.slice v.code.a v.code.len v.code.cap, .slice v.data.a v.data.len v.data.cap, .int .i64 m.entry, .int .i64 m.size] : Array Value)[j]? := fun o j => (MR.out.alloc o).cell j
          have kfa : ∀ o j, (wr.alloc o).frozen? ⟨(u2.heap.size + 1), j, none⟩ = false := fun o j => (MR.out.alloc o).frz j
          go_wp2_with fail
          go_meet
          refine ⟨rfl, { v with code := ⟨v.code.a, 0, v.code.cap⟩ }, ?_⟩
          rw [Pl.I2_6 m h236 QS.out.1.symm]
          exact (MR.out.setCode ⟨v.code.a, 0, v.code.cap⟩ [] MR.out.code.cut0 (fun b _ _ => rfl) (Below.refl _ _) (fun i hi => .inl (by rw [ob_len _ _ 0]; exact hi)) (Nat.zero_le _))
      case rest =>
      obtain ⟨rfl, v2, hM2⟩ := hcut
      obtain ⟨m2, hm2⟩ : ∃ m2, m2 = Pl.I2 n m := ⟨_, rfl⟩
      rw [← hm2] at hM2
      have QF : Hid (Pl.dImage r0 = (m2, ra)) := by show Pl.dImage r0 = _; rw [QD.out, hm2, ← QE.out, QM.out.1, QM.out.2]
      clear hm2
      obtain ⟨u6, hu6⟩ : ∃ u : World, u = wc := ⟨wc, rfl⟩
      rw [← hu6] at hM2 ⊢
      have M6 : Hid (IMF w c (u2.heap.size + 1) v2 m2 ra u6) := hM2
      clear hM2 hu6 MR
      have kc : ∀ j, u6.cell? ⟨(u2.heap.size + 1), j, none⟩ = (#[.slice v2.code.a v2.code.len v2.code.cap, .slice v2.data.a v2.data.len v2.data.cap, .int .i64 m2.entry, .int .i64 m2.size] : Array Value)[j]? := fun j => M6.out.cell j
      have kr : ∀ j, u6.cell? ⟨w.heap.size, j, none⟩ = (#[.slice none 0 0, .slice none 0 0, .int .i64 0, .int .i64 0] : Array Value)[j]? := fun j => cell_of_row u6 w.heap.size j _ 43 (0, 0) M6.out.res
      have kfr : ∀ j, u6.frozen? ⟨w.heap.size, j, none⟩ = false := fun j => frozen_of_row u6 w.heap.size j _ 43 M6.out.res
      go_wp2_with fail
      have hB : ∀ (i : Nat) (x : Value) (U : World), OnlyB c w U → OnlyB c w (U.setCell ⟨w.heap.size, i, none⟩ x) := fun i x U hU => hU.low ((Below.refl _ _).setCell (p := ⟨w.heap.size, i, none⟩) (Nat.le_refl _) _)
      have hA : ∀ (i : Nat) (x : Value) (U : World), Above (w.heap.size + 1) u6 U → Above (w.heap.size + 1) u6 (U.setCell ⟨w.heap.size, i, none⟩ x) := fun i x U hU => hU.setCell (by simp) _
      have hR : ∀ (i : Nat) (x : Value) (U : World), RdAt U c ra → RdAt (U.setCell ⟨w.heap.size, i, none⟩ x) c ra := fun i x U hU => hU.setOther hcw
      refine bodyPost_ret (v := .agg #[.slice v2.code.a v2.code.len v2.code.cap, .slice v2.data.a v2.data.len v2.data.cap, .int .i64 m2.entry, .int .i64 m2.size]) ?_ rfl ⟨v2, m2, by rw [QF.out], rfl, ⟨?_, ?_⟩, M6.out.lc, M6.out.ld, M6.out.en, M6.out.sz, ?_, ?_⟩
      · refine results_cell_row Tryz.results25 _ _ w.heap.size 43 #[.slice v2.code.a v2.code.len v2.code.cap, .slice v2.data.a v2.data.len v2.data.cap, .int .i64 m2.entry, .int .i64 m2.size] (0, 0) _ ?hp ?hg Tryz.underlying43 ?hd ?hi
        case hp => rfl
        case hd => rfl
        case hi => kernel_rfl
        case hg =>
          have h0 := row_put M6.out.res 0 (.slice v2.code.a v2.code.len v2.code.cap) (cs' := #[.slice v2.code.a v2.code.len v2.code.cap, .slice none 0 0, .int .i64 0, .int .i64 0]) rfl
          have h1 := row_put h0 1 (.slice v2.data.a v2.data.len v2.data.cap) (cs' := #[.slice v2.code.a v2.code.len v2.code.cap, .slice v2.data.a v2.data.len v2.data.cap, .int .i64 0, .int .i64 0]) rfl
          have h2 := row_put h1 2 (.int .i64 m2.entry) (cs' := #[.slice v2.code.a v2.code.len v2.code.cap, .slice v2.data.a v2.data.len v2.data.cap, .int .i64 m2.entry, .int .i64 0]) rfl
          have h3 := row_put h2 3 (.int .i64 m2.size) (cs' := #[.slice v2.code.a v2.code.len v2.code.cap, .slice v2.data.a v2.data.len v2.data.cap, .int .i64 m2.entry, .int .i64 m2.size]) rfl
          exact h3
      · exact (M6.out.code.same (hA _ _ _ (hA _ _ _ (hA _ _ _ (hA _ _ _ (Above.refl _ _))))) (Nat.le_refl _)).lower (by omega)
      · exact (M6.out.data.same (hA _ _ _ (hA _ _ _ (hA _ _ _ (hA _ _ _ (Above.refl _ _))))) (Nat.le_refl _)).lower (by omega)
      · rw [QF.out]
        exact hR _ _ _ (hR _ _ _ (hR _ _ _ (hR _ _ _ M6.out.rd)))
      · exact hB _ _ _ (hB _ _ _ (hB _ _ _ (hB _ _ _ M6.out.bel)))
end Go.Proofs.YtnapeklkhkonhaaGreatDoor.W
