import Derived.Test.YtfcfnbncgadomaaQ01
import Derived.Test.YtfcfnbncgadomaaQ11
import Derived.Deep.RegionHeld
import Derived.Deep.Cut
import Derived.Deep.DeepCutAuto
import Derived.Deep.CutRange
import Derived.Test.YtfcfnbncgadomaaQ10
import Derived.Deep.AppendLies
import Derived.Deep.RegionLaw
set_option linter.unusedVariables false
set_option linter.unusedSimpArgs false
namespace Go.Proofs.Ytfcfnbncgadomaa.W
open Go.RowKit
set_option maxHeartbeats 2000000 in
theorem specImageOk_any {lo : Nat} (v : IV) (m : Pl.Img) (w : World) (h : IIs lo w v m) (he : -9223372036854775808 ≤ m.entry ∧ m.entry ≤ 9223372036854775807) :
    Calls Try.prog 67 #[.agg #[.slice v.code.a v.code.len v.code.cap, .slice v.data.a v.data.len v.data.cap, .int .i64 m.entry, .int .i64 m.size]] w fun e w' => e = .returned (.bool (Pl.iOk m)) ∧ Below w.heap.size w w' := by
  obtain ⟨⟨ca, cl, cc⟩, ⟨da, dl, dc⟩⟩ := v
  obtain ⟨code, data, entry, size⟩ := m
  have h' := h.keep (below_alloc w (.cells #[.slice ca cl cc, .slice da dl dc, .int .i64 entry, .int .i64 size] 79))
  obtain ⟨r1, r3⟩ := h'
  dsimp only at r1 r3 he ⊢
  have l1 := r1.small
  have l3 := r3.small
  have E1 : Hid (code.length = cl) := r1.1
  have E3 : Hid (data.length = dl) := r3.1
  have R1 : Hid (Row .i64 lo _ ca cl cc code) := r1
  clear r1 r3 h
  unfold Pl.iOk
  dsimp only
  rw [E1.out, E3.out]
  obtain ⟨pl, hp⟩ : ∃ pl, pl = Pl.place cl entry := ⟨_, rfl⟩
  rw [← hp]
  cases cs : Pl.skOk size
  all_goals
    cases c1 : Pl.cdOk code
    · go_enter Try.func67, Try.ntmps67
      go_wp2_with (first | (go_at_call 50; refine (specCodeOk_any _ _ _ code _ R1.out).mono ?_; rintro e w' ⟨rfl, rfl⟩; simp only [c1]) | (go_at_call 51; refine (specStackOk_any _ _).mono ?_; rintro e w' ⟨rfl, rfl⟩; simp only [cs]) | (go_at_call 82; refine (specPlace_any _ _ _ _ (by omega) he _).mono ?_; rintro e w' ⟨rfl, rfl⟩; rw [← hp]))
      go_ret
      exact ⟨rfl, below_alloc _ _⟩
    have hc : cl ≤ 16384 := by
      have := c1
      unfold Pl.cdOk at this
      rw [E1.out] at this
      simp at this
      omega
    by_cases c2 : dl ≤ 65536
    rotate_left
    · rw [decide_eq_false c2]
      go_enter Try.func67, Try.ntmps67
      go_wp2_with (first | (go_at_call 50; refine (specCodeOk_any _ _ _ code _ R1.out).mono ?_; rintro e w' ⟨rfl, rfl⟩; simp only [c1]) | (go_at_call 51; refine (specStackOk_any _ _).mono ?_; rintro e w' ⟨rfl, rfl⟩; simp only [cs]) | (go_at_call 82; refine (specPlace_any _ _ _ _ (by omega) he _).mono ?_; rintro e w' ⟨rfl, rfl⟩; rw [← hp]))
      go_ret
      exact ⟨rfl, below_alloc _ _⟩
    rw [decide_eq_true c2]
    by_cases c3 : 0 ≤ pl
    · rw [decide_eq_true c3]
      go_enter Try.func67, Try.ntmps67
      go_wp2_with (first | (go_at_call 50; refine (specCodeOk_any _ _ _ code _ R1.out).mono ?_; rintro e w' ⟨rfl, rfl⟩; simp only [c1]) | (go_at_call 51; refine (specStackOk_any _ _).mono ?_; rintro e w' ⟨rfl, rfl⟩; simp only [cs]) | (go_at_call 82; refine (specPlace_any _ _ _ _ (by omega) he _).mono ?_; rintro e w' ⟨rfl, rfl⟩; rw [← hp]))
      go_ret
      first | exact ⟨rfl, below_alloc _ _⟩ | exact ⟨ret_bool (a := decide (0 ≤ Pl.place cl entry)) (by rw [← hp, decide_eq_true c3]; rfl), below_alloc _ _⟩
    · rw [decide_eq_false c3]
      go_enter Try.func67, Try.ntmps67
      go_wp2_with (first | (go_at_call 50; refine (specCodeOk_any _ _ _ code _ R1.out).mono ?_; rintro e w' ⟨rfl, rfl⟩; simp only [c1]) | (go_at_call 51; refine (specStackOk_any _ _).mono ?_; rintro e w' ⟨rfl, rfl⟩; simp only [cs]) | (go_at_call 82; refine (specPlace_any _ _ _ _ (by omega) he _).mono ?_; rintro e w' ⟨rfl, rfl⟩; rw [← hp]))
      go_ret
      first | exact ⟨rfl, below_alloc _ _⟩ | exact ⟨ret_bool (a := decide (0 ≤ Pl.place cl entry)) (by rw [← hp, decide_eq_false (by omega)]; rfl), below_alloc _ _⟩
end Go.Proofs.Ytfcfnbncgadomaa.W
namespace Go.Proofs.Ytfcfnbncgadomaa.Pl
def regs0 : List Int := (List.replicate 32 0).set 2 2097152
/-- a machine that starts; none -/
def mStart (im : Img) (inp : List Int) : Mac := ⟨im.code, im.entry, regs0, im.data, List.replicate im.size.toNat 0, inp, [], 0, 0, 0⟩
def mNone : Mac := ⟨[], 0, [], [], [], [], [], 0, 0, 0⟩
end Go.Proofs.Ytfcfnbncgadomaa.Pl
namespace Go.Proofs.Ytfcfnbncgadomaa.W
open Go.RowKit
def vNone : MV := ⟨⟨none, 0, 0⟩, ⟨none, 0, 0⟩, ⟨none, 0, 0⟩, ⟨none, 0, 0⟩, ⟨none, 0, 0⟩, ⟨none, 0, 0⟩⟩
theorem Own.nil (k : IntKind) (e : TypeId) (lo : Nat) (w : World) : Own k e lo w none 0 0 [] := ⟨World.ownsRow_nil _ _ _ _, fun n hn => absurd hn List.not_mem_nil⟩
theorem vNone_own (lo : Nat) (w : World) : MOwn lo w vNone Pl.mNone := ⟨Own.nil _ _ _ _, Own.nil _ _ _ _, Own.nil _ _ _ _, Own.nil _ _ _ _, Own.nil _ _ _ _, Own.nil _ _ _ _⟩
theorem vNone_apart (t : Nat) : MApart t t vNone := by
  refine ⟨fun _ => t, fun _ => t, ⟨?_, ?_, ?_, ?_, ?_, ?_⟩, fun i _ => ⟨Nat.le_refl _, Nat.le_refl _⟩, fun i j _ _ _ => .inl (Nat.le_refl _)⟩ <;> (intro ad had; cases had)
theorem Own.weak {k : IntKind} {e : TypeId} {lo lo' : Nat} {w : World} {a : Option Addr} {len cap : Nat} {zs : List Int} (h : Own k e lo w a len cap zs) (hl : lo' ≤ lo) : Own k e lo' w a len cap zs := by
  obtain ⟨hown, hwf⟩ := h
  refine ⟨⟨hown.1, ?_⟩, hwf⟩
  rcases hown.2 with h0 | ⟨g, cap', cur, h0, hlo, hg, hr⟩
  · exact .inl h0
  · exact .inr ⟨g, cap', cur, h0, Nat.le_trans hl hlo, hg, hr⟩
theorem own_row {k : IntKind} {e : TypeId} {lo b n : Nat} {u : World} {cs : Array Value} {zs : List Int} (hg : u.heap[b]? = some (.cells cs e)) (hcs : cs.toList = zs.map (Value.int k)) (hn : zs.length = n) (hm : n ≤ maxLen) (hwf : ∀ x ∈ zs, (Lit.int k x).wf = true) (hlo : lo ≤ b) : Own k e lo u (some ⟨b, 0, none⟩) n n zs := by
  have hsz : cs.size = n := by rw [← Array.length_toList, hcs, List.length_map, hn]
  refine ⟨⟨by simp [hn], .inr ⟨b, n, cs, rfl, hlo, hg, Nat.le_refl _, hm, by rw [hsz, Nat.mul_one], ?_⟩⟩, hwf⟩
  rw [Nat.mul_one, hcs, List.take_of_length_le (by simp [hn])]
theorem made_zeros (k : IntKind) (n : Nat) : (madeCells (Value.int k 0).cells n).toList = (List.replicate n (0 : Int)).map (Value.int k) := by
  rw [show (Value.int k 0).cells = #[Value.int k 0] from rfl, toList_madeCells_one, List.map_replicate]
end Go.Proofs.Ytfcfnbncgadomaa.W
namespace Go.Proofs.Ytfcfnbncgadomaa.W
open Go.RowKit
theorem int_news2 (w : World) (N : Nat) (hN : N = w.heap.size) (A : Value) (j : Nat) (u : Value) (hj : [A][j]? = some u) : (w.alloc (.cells #[A] 3)).cell? ((⟨N, 0, none⟩ : Addr).add j) = some u := by
  subst hN
  exact int_news w A j u hj
/-- an image that is being drawn: its box at g, the result's at r -/
structure IMid (w : World) (c g : Nat) (v : IV) (m : Pl.Img) (u : World) : Prop where
  box : u.heap[g]? = some (.cells #[.slice v.code.a v.code.len v.code.cap, .slice v.data.a v.data.len v.data.cap, .int .i64 m.entry, .int .i64 m.size] 79)
  res : u.heap[w.heap.size]? = some (.cells #[.slice none 0 0, .slice none 0 0, .int .i64 0, .int .i64 0] 79)
  code : Own .i64 3 (w.heap.size + 1) u v.code.a v.code.len v.code.cap m.code
  data : Own .u8 5 (w.heap.size + 1) u v.data.a v.data.len v.data.cap m.data
  n1 : ∀ i, (Value.slice v.code.a v.code.len v.code.cap).ownBlock = some i → i ≠ g
  n2 : ∀ i, (Value.slice v.data.a v.data.len v.data.cap).ownBlock = some i → i ≠ g
  n3 : ∀ i j, (Value.slice v.code.a v.code.len v.code.cap).ownBlock = some i → (Value.slice v.data.a v.data.len v.data.cap).ownBlock = some j → i ≠ j
  rd : RdOk u c
  bel : OnlyB c w u
  rg : w.heap.size < g
  cw : c < w.heap.size
  lc : m.code.length ≤ 16385
  ld : m.data.length ≤ 65537
  en : -1000000 ≤ m.entry ∧ m.entry ≤ 1000000
  sz : -1000000 ≤ m.size ∧ m.size ≤ 1000000
theorem IMid.lt {w u : World} {c g : Nat} {v : IV} {m : Pl.Img} (h : IMid w c g v m u) : g < u.heap.size := (Array.getElem?_eq_some_iff.1 h.box).1
theorem Own.at_ {k : IntKind} {e : TypeId} {lo : Nat} {w : World} {a : Option Addr} {len cap : Nat} {zs : List Int} (h : Own k e lo w a len cap zs) {i : Nat} (hi : (Value.slice a len cap).ownBlock = some i) : lo ≤ i ∧ i < w.heap.size := h.1.lt i hi
theorem Own.othr {k : IntKind} {e : TypeId} {lo : Nat} {w w' : World} {a : Option Addr} {len cap : Nat} {zs : List Int} (h : Own k e lo w a len cap zs) (hb : ∀ i, (Value.slice a len cap).ownBlock = some i → w'.heap[i]? = w.heap[i]?) : Own k e lo w' a len cap zs := ⟨own_other h.1 hb, h.2⟩
theorem IMid.only {w u u' : World} {c g : Nat} {v : IV} {m : Pl.Img} (h : IMid w c g v m u) (hr : RdOk u' c) (ho : OnlyB c u u') : IMid w c g v m u' := by
  have hl := h.lt
  have h1 := h.rg
  have h2 := h.cw
  exact ⟨(ho.block g hl (by omega)).trans h.box, (ho.block _ (by omega) (by omega)).trans h.res, h.code.othr fun i hi => ho.block i (h.code.at_ hi).2 (by have := h.code.at_ hi; omega), h.data.othr fun i hi => ho.block i (h.data.at_ hi).2 (by have := h.data.at_ hi; omega), h.n1, h.n2, h.n3, hr, h.bel.trans ho, h1, h2, h.lc, h.ld, h.en, h.sz⟩
theorem IMid.alloc {w u : World} {c g : Nat} {v : IV} {m : Pl.Img} (h : IMid w c g v m u) (o : Obj) : IMid w c g v m (u.alloc o) := h.only (h.rd.alloc o) (OnlyB.of_below (below_alloc u o))
theorem IMid.cell {w u : World} {c g : Nat} {v : IV} {m : Pl.Img} (h : IMid w c g v m u) (j : Nat) : u.cell? ⟨g, j, none⟩ = (#[.slice v.code.a v.code.len v.code.cap, .slice v.data.a v.data.len v.data.cap, .int .i64 m.entry, .int .i64 m.size] : Array Value)[j]? := cell_of_row u g j _ 79 (0, 0) h.box
theorem IMid.frz {w u : World} {c g : Nat} {v : IV} {m : Pl.Img} (h : IMid w c g v m u) (j : Nat) : u.frozen? ⟨g, j, none⟩ = false := frozen_of_row u g j _ 79 h.box
/-- a number of the image is set -/
theorem IMid.setNum {w u : World} {c g : Nat} {v : IV} {m : Pl.Img} (h : IMid w c g v m u) (j : Nat) (x : Int) (m2 : Pl.Img) (e : (#[.slice v.code.a v.code.len v.code.cap, .slice v.data.a v.data.len v.data.cap, .int .i64 m.entry, .int .i64 m.size] : Array Value).setIfInBounds j (.int .i64 x) = #[.slice v.code.a v.code.len v.code.cap, .slice v.data.a v.data.len v.data.cap, .int .i64 m2.entry, .int .i64 m2.size]) (e1 : m2.code = m.code) (e2 : m2.data = m.data) (en : -1000000 ≤ m2.entry ∧ m2.entry ≤ 1000000) (sz : -1000000 ≤ m2.size ∧ m2.size ≤ 1000000) : IMid w c g v m2 (u.setCell ⟨g, j, none⟩ (.int .i64 x)) := by
  have h1 := h.rg
  have h2 := h.cw
  have hk : ∀ y, y ≠ g → (u.setCell ⟨g, j, none⟩ (.int .i64 x)).heap[y]? = u.heap[y]? := fun y hy => Below.heap_setCell u ⟨g, j, none⟩ _ y hy
  exact ⟨row_put h.box j _ e, (hk _ (by omega)).trans h.res, e1 ▸ h.code.othr fun i hi => hk i (h.n1 i hi), e2 ▸ h.data.othr fun i hi => hk i (h.n2 i hi), h.n1, h.n2, h.n3, h.rd.setOther (by omega), h.bel.low ((Below.refl _ _).setCell (show w.heap.size ≤ g by omega) _), h1, h2, e1 ▸ h.lc, e2 ▸ h.ld, en, sz⟩
theorem IMid.setEntry {w u : World} {c g : Nat} {v : IV} {m : Pl.Img} (h : IMid w c g v m u) (x : Int) (hx : -1000000 ≤ x ∧ x ≤ 1000000) : IMid w c g v { m with entry := x } (u.setCell ⟨g, 2, none⟩ (.int .i64 x)) := h.setNum 2 x _ rfl rfl rfl hx h.sz
theorem IMid.setSize {w u : World} {c g : Nat} {v : IV} {m : Pl.Img} (h : IMid w c g v m u) (x : Int) (hx : -1000000 ≤ x ∧ x ≤ 1000000) : IMid w c g v { m with size := x } (u.setCell ⟨g, 3, none⟩ (.int .i64 x)) := h.setNum 3 x _ rfl rfl rfl h.en hx
/-- the data are another slice of one's own; u1: the world in which it was made -/
theorem IMid.setData {w u u1 : World} {c g : Nat} {v : IV} {m : Pl.Img} (h : IMid w c g v m u) (s : SV) (zs : List Int) (ho : Own .u8 5 (w.heap.size + 1) u1 s.a s.len s.cap zs)
    (hk : ∀ b, b < u.heap.size → (∀ i, (Value.slice v.data.a v.data.len v.data.cap).ownBlock = some i → b ≠ i) → u1.heap[b]? = u.heap[b]?) (hb : Below w.heap.size u u1)
    (hn : ∀ i, (Value.slice s.a s.len s.cap).ownBlock = some i → (Value.slice v.data.a v.data.len v.data.cap).ownBlock = some i ∨ u.heap.size ≤ i) (hl : zs.length ≤ 65537) :
    IMid w c g { v with data := s } { m with data := zs } (u1.setCell ⟨g, 1, none⟩ (.slice s.a s.len s.cap)) := by
  have hlt := h.lt
  have h1 := h.rg
  have h2 := h.cw
  have hs := hb.size
  have bx : u1.heap[g]? = some (.cells #[.slice v.code.a v.code.len v.code.cap, .slice v.data.a v.data.len v.data.cap, .int .i64 m.entry, .int .i64 m.size] 79) := (hk g hlt fun i hi e => h.n2 i hi e.symm).trans h.box
  have hg : ∀ y, y ≠ g → (u1.setCell ⟨g, 1, none⟩ (.slice s.a s.len s.cap)).heap[y]? = u1.heap[y]? := fun y hy => Below.heap_setCell u1 ⟨g, 1, none⟩ _ y hy
  have hne : ∀ i, (Value.slice s.a s.len s.cap).ownBlock = some i → i ≠ g := fun i hi e => by
    rcases hn i hi with q | q
    · exact h.n2 i q e
    · omega
  have hcd : ∀ i, (Value.slice v.code.a v.code.len v.code.cap).ownBlock = some i → u1.heap[i]? = u.heap[i]? := fun i hi => hk i (h.code.at_ hi).2 fun j hj e => h.n3 i j hi hj e
  refine ⟨row_put bx 1 _ rfl, (hg _ (by omega)).trans ((hk _ (by omega) fun i hi e => by have := h.data.at_ hi; omega).trans h.res), (h.code.othr hcd).othr fun i hi => hg i (h.n1 i hi), ho.othr fun i hi => hg i (hne i hi), h.n1, hne, fun i j hi hj e => ?_, (h.rd.keep hb h2).setOther (by omega), ?_, h1, h2, h.lc, hl, h.en, h.sz⟩
  · rcases hn j hj with q | q
    · exact h.n3 i j hi q e
    · have := h.code.at_ hi; omega
  · exact (h.bel.low hb).low ((Below.refl _ _).setCell (show w.heap.size ≤ g by omega) _)
theorem IMid.setCode {w u u1 : World} {c g : Nat} {v : IV} {m : Pl.Img} (h : IMid w c g v m u) (s : SV) (zs : List Int) (ho : Own .i64 3 (w.heap.size + 1) u1 s.a s.len s.cap zs)
    (hk : ∀ b, b < u.heap.size → (∀ i, (Value.slice v.code.a v.code.len v.code.cap).ownBlock = some i → b ≠ i) → u1.heap[b]? = u.heap[b]?) (hb : Below w.heap.size u u1)
    (hn : ∀ i, (Value.slice s.a s.len s.cap).ownBlock = some i → (Value.slice v.code.a v.code.len v.code.cap).ownBlock = some i ∨ u.heap.size ≤ i) (hl : zs.length ≤ 16385) :
    IMid w c g { v with code := s } { m with code := zs } (u1.setCell ⟨g, 0, none⟩ (.slice s.a s.len s.cap)) := by
  have hlt := h.lt
  have h1 := h.rg
  have h2 := h.cw
  have hs := hb.size
  have bx : u1.heap[g]? = some (.cells #[.slice v.code.a v.code.len v.code.cap, .slice v.data.a v.data.len v.data.cap, .int .i64 m.entry, .int .i64 m.size] 79) := (hk g hlt fun i hi e => h.n1 i hi e.symm).trans h.box
  have hg : ∀ y, y ≠ g → (u1.setCell ⟨g, 0, none⟩ (.slice s.a s.len s.cap)).heap[y]? = u1.heap[y]? := fun y hy => Below.heap_setCell u1 ⟨g, 0, none⟩ _ y hy
  have hne : ∀ i, (Value.slice s.a s.len s.cap).ownBlock = some i → i ≠ g := fun i hi e => by
    rcases hn i hi with q | q
    · exact h.n1 i q e
    · omega
  have hcd : ∀ i, (Value.slice v.data.a v.data.len v.data.cap).ownBlock = some i → u1.heap[i]? = u.heap[i]? := fun i hi => hk i (h.data.at_ hi).2 fun j hj e => h.n3 j i hj hi e.symm
  refine ⟨row_put bx 0 _ rfl, (hg _ (by omega)).trans ((hk _ (by omega) fun i hi e => by have := h.code.at_ hi; omega).trans h.res), ho.othr fun i hi => hg i (hne i hi), (h.data.othr hcd).othr fun i hi => hg i (h.n2 i hi), hne, h.n2, fun i j hi hj e => ?_, (h.rd.keep hb h2).setOther (by omega), ?_, h1, h2, hl, h.ld, h.en, h.sz⟩
  · rcases hn i hi with q | q
    · exact h.n3 i j q hj e
    · have := h.data.at_ hj; omega
  · exact (h.bel.low hb).low ((Below.refl _ _).setCell (show w.heap.size ≤ g by omega) _)
/-- a slice's own block behind a grow -/
theorem ob_some (G len cap i : Nat) (h : (Value.slice (some ⟨G, 0, none⟩) len cap).ownBlock = some i) : i = G := by
  unfold Value.ownBlock at h
  simp at h
  exact h.symm
theorem IMid.grewData {w u U w1 : World} {c g G cap : Nat} {v : IV} {m : Pl.Img} (h : IMid w c g v m u) (hU : Below u.heap.size u U) (x : Int) (hx : 0 ≤ x ∧ x ≤ 255) (hown : w1.ownsRow (w.heap.size + 1) 5 1 (.slice (some ⟨G, 0, none⟩) (v.data.len + 1) cap) (v.data.len + 1) (m.data.map (Value.int .u8) ++ [.int .u8 x]))
    (hgr : U.grownBy w1 (Value.slice v.data.a v.data.len v.data.cap).ownBlock) (hat : (Value.slice v.data.a v.data.len v.data.cap).ownBlock = some G ∨ G = U.heap.size) (hl : m.data.length < 65537) :
    IMid w c g { v with data := ⟨some ⟨G, 0, none⟩, v.data.len + 1, cap⟩ } { m with data := m.data ++ [x] } (w1.setCell ⟨g, 1, none⟩ (.slice (some ⟨G, 0, none⟩) (v.data.len + 1) cap)) := by
  have hs := hU.size
  have hsz := h.lt
  have h1 := h.rg
  have hbU : Below w.heap.size u U := hU.mono (by omega)
  refine h.setData ⟨some ⟨G, 0, none⟩, v.data.len + 1, cap⟩ (m.data ++ [x]) ⟨by rw [List.map_append]; exact hown, fun n hn => ?_⟩ (fun b hb hne => (hgr.block b (by omega) (fun e => hne b e.symm rfl)).trans (hU.block b hb)) (hbU.grown hgr (by omega) fun j hj => by have := h.data.at_ hj; omega) (fun i hi => ?_) (by simp; omega)
  · rcases List.mem_append.1 hn with hn | hn
    · exact h.data.2 n hn
    · simp at hn; subst hn; exact WalkArith.wf_u8 hx
  · rw [ob_some _ _ _ _ hi]
    rcases hat with e | e
    · exact .inl e
    · exact .inr (by omega)
theorem IMid.grewCode {w u U w1 : World} {c g G cap : Nat} {v : IV} {m : Pl.Img} (h : IMid w c g v m u) (hU : Below u.heap.size u U) (x : Int) (hx : (Lit.int .i64 x).wf = true) (hown : w1.ownsRow (w.heap.size + 1) 3 1 (.slice (some ⟨G, 0, none⟩) (v.code.len + 1) cap) (v.code.len + 1) (m.code.map (Value.int .i64) ++ [.int .i64 x]))
    (hgr : U.grownBy w1 (Value.slice v.code.a v.code.len v.code.cap).ownBlock) (hat : (Value.slice v.code.a v.code.len v.code.cap).ownBlock = some G ∨ G = U.heap.size) (hl : m.code.length < 16385) :
    IMid w c g { v with code := ⟨some ⟨G, 0, none⟩, v.code.len + 1, cap⟩ } { m with code := m.code ++ [x] } (w1.setCell ⟨g, 0, none⟩ (.slice (some ⟨G, 0, none⟩) (v.code.len + 1) cap)) := by
  have hs := hU.size
  have hsz := h.lt
  have h1 := h.rg
  have hbU : Below w.heap.size u U := hU.mono (by omega)
  refine h.setCode ⟨some ⟨G, 0, none⟩, v.code.len + 1, cap⟩ (m.code ++ [x]) ⟨by rw [List.map_append]; exact hown, fun n hn => ?_⟩ (fun b hb hne => (hgr.block b (by omega) (fun e => hne b e.symm rfl)).trans (hU.block b hb)) (hbU.grown hgr (by omega) fun j hj => by have := h.code.at_ hj; omega) (fun i hi => ?_) (by simp; omega)
  · rcases List.mem_append.1 hn with hn | hn
    · exact h.code.2 n hn
    · simp at hn; subst hn; exact hx
  · rw [ob_some _ _ _ _ hi]
    rcases hat with e | e
    · exact .inl e
    · exact .inr (by omega)
end Go.Proofs.Ytfcfnbncgadomaa.W
