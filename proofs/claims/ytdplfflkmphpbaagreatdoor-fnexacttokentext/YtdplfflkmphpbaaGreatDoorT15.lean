import Derived.Test.YtdplfflkmphpbaaGreatDoorT14
import Derived.Test.YtdplfflkmphpbaaGreatDoorT08
import Derived.Deep.QuietTactic
import Derived.BigQuiet
import Derived.Great.Walk
import Derived.Deep.WholeRow
set_option linter.unusedVariables false
set_option linter.unusedSimpArgs false
namespace Go.Proofs.YtdplfflkmphpbaaGreatDoor.Pl
theorem Sk.blanks {s : ByteArray} {j : Nat} {c : Bool} : ∀ n k, k + n ≤ s.size → (∀ x, k ≤ x → x < k + n → blk (byt s x) = true) → Sk s (k + n) j c → Sk s k j c
  | 0, k, _, _, h => h
  | n + 1, k, h1, h2, h => .blank (by omega) (h2 k (Nat.le_refl _) (by omega)) (Sk.blanks n (k + 1) (by omega) (fun x a b => h2 x (by omega) (by omega)) (by rw [show k + 1 + n = k + (n + 1) by omega]; exact h))
end Go.Proofs.YtdplfflkmphpbaaGreatDoor.Pl
namespace Go.Proofs.YtdplfflkmphpbaaGreatDoor.W
open Go.RowKit
theorem BlkI.to {s : ByteArray} {k n : Nat} {b : Bool} (hk : k ≤ s.size) (h : BlkI (s.extract k s.size) n b) : (n = 0 ∧ Pl.Sk s k k b) ∨ (0 < n ∧ k + n ≤ s.size ∧ ∀ j c, Pl.Sk s (k + n) j c → Pl.Sk s k j c) := by
  have hsz := Pl.ext_sz s k
  have hb : ∀ j, k + j < s.size → Pl.byt (s.extract k s.size) j = Pl.byt s (k + j) := fun j hj => Pl.ext_byt s k j hj
  have hlc : Pl.lc (s.extract k s.size) 0 ↔ Pl.lc s k := by
    unfold Pl.lc
    rw [hsz]
    constructor
    · rintro ⟨h1, h2, h3⟩
      rw [hb 0 (by omega)] at h2
      rw [hb (0 + 1) (by omega)] at h3
      exact ⟨by omega, h2, by rw [← h3]⟩
    · rintro ⟨h1, h2, h3⟩
      refine ⟨by omega, ?_, ?_⟩
      · rw [hb 0 (by omega)]; exact h2
      · rw [hb (0 + 1) (by omega), ← h3]
  have hbc : Pl.bc (s.extract k s.size) 0 ↔ Pl.bc s k := by
    unfold Pl.bc
    rw [hsz]
    constructor
    · rintro ⟨h1, h2, h3⟩
      rw [hb 0 (by omega)] at h2
      rw [hb (0 + 1) (by omega)] at h3
      exact ⟨by omega, h2, by rw [← h3]⟩
    · rintro ⟨h1, h2, h3⟩
      refine ⟨by omega, ?_, ?_⟩
      · rw [hb 0 (by omega)]; exact h2
      · rw [hb (0 + 1) (by omega), ← h3]
  rcases h with ⟨h1, h2, rfl⟩ | ⟨h1, ⟨m, h2, rfl⟩, rfl⟩ | ⟨h1, h2, rfl, rfl⟩ | ⟨h1, h2, rfl, rfl⟩
  · right
    have hl := hlc.1 h1
    obtain ⟨_, e2, e3, e4⟩ := h2
    rw [hsz] at e2 e4
    have hn2 : 2 ≤ n := by
      have a1 := h1.1
      have a2 := h1.2.1
      have a3 := h1.2.2
      rw [hsz] at a1
      rcases e4 with e | e
      · omega
      · rcases Nat.lt_or_ge n 2 with q | q
        · have : n = 0 ∨ n = 1 := by omega
          rcases this with rfl | rfl
          · rw [a2] at e; exact absurd e (by decide)
          · rw [a3] at e; exact absurd e (by decide)
        · exact q
    refine ⟨by omega, by omega, fun j c hj => .line hl ⟨by omega, by omega, fun x hx1 hx2 => ?_, ?_⟩ hj⟩
    · have := e3 (x - k) (Nat.zero_le _) (by omega)
      rw [hb (x - k) (by omega), show k + (x - k) = x by omega] at this
      exact this
    · rcases e4 with e | e
      · left; omega
      · rcases Nat.lt_or_ge (k + n) s.size with q | q
        · right; rw [← hb n q]; exact e
        · left; omega
  · right
    have hl := hbc.1 h1
    obtain ⟨e1, e2, e3, e4⟩ := h2
    rw [hsz] at e2
    rw [hb m (by omega), hb (m + 1) (by omega)] at e3
    refine ⟨by omega, by omega, fun j c hj => .blok hl (k := k + m) ⟨by omega, by omega, e3, fun x hx1 hx2 e => ?_⟩ (by rw [show k + m + 2 = k + (m + 2) by omega]; exact hj)⟩
    have := e4 (x - k) (by omega) (by omega)
    rw [hb (x - k) (by omega), hb (x - k + 1) (by omega), show k + (x - k + 1) = x + 1 by omega, show k + (x - k) = x by omega] at this
    exact this e
  · left
    refine ⟨rfl, .opn (hbc.1 h1) fun x hx1 hx2 e => ?_⟩
    have := h2 (x - k) (by omega) (by rw [hsz]; omega)
    rw [hb (x - k) (by omega), hb (x - k + 1) (by omega), show k + (x - k + 1) = x + 1 by omega, show k + (x - k) = x by omega] at this
    exact this e
  · have hr := Pl.run_run Pl.blk (s.extract k s.size)
    have hr1 := hr.1
    rw [hsz] at hr1
    rcases Nat.eq_zero_or_pos (Pl.run Pl.blk (s.extract k s.size)) with e | e
    · left
      refine ⟨e, .stop ?_⟩
      rcases Nat.lt_or_ge k s.size with q | q
      · right
        refine ⟨?_, fun h => h1 (hlc.2 h), fun h => h2 (hbc.2 h)⟩
        have := hr.2.2
        rw [e, hsz] at this
        rcases this with x | x
        · omega
        · rw [hb 0 (by omega)] at x; exact x
      · exact .inl q
    · right
      refine ⟨e, by omega, fun j c hj => Pl.Sk.blanks _ k (by omega) (fun x hx1 hx2 => ?_) hj⟩
      have := hr.2.1 (x - k) (by omega)
      rw [hb (x - k) (by omega), show k + (x - k) = x by omega] at this
      exact this
theorem Glo.onX {g : Nat} {w w' : World} (h : Glo w) (hg : 8 ≤ g) (hx : OnlyX g w w') : Glo w' := h.keep (n := 8) (Nat.le_refl _) (hx.below hg h.big)
def lxAt (g : Nat) (w : World) : Nat := match w.cell? ⟨g, 1, none⟩ with | some (.int _ n) => n.toNat | _ => 0
theorem LxSt.at {g k : Nat} {s : ByteArray} {w : World} (h : LxSt g s k w) : lxAt g w = k := by
  unfold lxAt
  rw [cell_of_row w g 1 _ 72 (0, 0) h]
  simp
set_option maxHeartbeats 4000000 in
set_option maxRecDepth 100000 in
theorem skipBlanks_is (g : Nat) (hg8 : 8 ≤ g) (s : ByteArray) (hs : s.size ≤ 1048576) (k : Nat) (hk : k ≤ s.size) (w : World) (hL : LxSt g s k w) (hE : Glo w) : Calls Tryz.prog 60 #[.pointer (some ⟨g, 0, none⟩)] w fun e w' => ∃ j b, Pl.Sk s k j b ∧ e = .returned (.bool b) ∧ LxSt g s j w' ∧ OnlyX g w w' := by
  have HL : Hid (LxSt g s k w) := hL
  have HE : Hid (Glo w) := hE
  clear hL hE
  go_enter Tryz.func60, Tryz.ntmps60
  go_wp2_with fail
  go_loopw [3] (fun _ wr => ∃ m : Nat, m ≤ s.size ∧ LxSt g s m wr ∧ OnlyX g w wr ∧ ∀ j b, Pl.Sk s m j b → Pl.Sk s k j b) (fun _ wr => s.size - lxAt g wr)
  case atStart => exact ⟨k, hk, HL.out, OnlyX.refl _ _, fun j b h => h⟩
  case round =>
    obtain ⟨m, hm, hst, hox, hsk⟩ := hrel
    have HST : Hid (LxSt g s m wr) := hst
    have HOX : Hid (OnlyX g w wr) := hox
    have HSK : Hid (∀ j b, Pl.Sk s m j b → Pl.Sk s k j b) := hsk
    have HEr : Hid (Glo wr) := HE.out.onX hg8 hox
    have hc0 : wr.cell? ⟨g, 0, none⟩ = some (.string s) := cell_of_row wr g 0 _ 72 (0, 0) hst
    have hc1 : wr.cell? ⟨g, 1, none⟩ = some (.int .i64 m) := cell_of_row wr g 1 _ 72 (0, 0) hst
    have hm' : (m : Int) ≤ s.size := by omega
    have HBS : Hid (∀ u : World, Glo u → Calls Tryz.prog 67 #[.string (s.extract m s.size)] u fun e w' => (∃ n b, BlkI (s.extract m s.size) n b ∧ e = .returned (.tuple #[.int .i64 n, .bool b])) ∧ Below u.heap.size u w') := fun u hu => blankSize_is (s.extract m s.size) (by rw [Pl.ext_sz]; omega) u hu
    have HGD : Hid (∀ i, Glo (wr.drewN i)) := fun i => HEr.out.on (below_drewV (Below.refl _ _) i)
    clear hst hox hsk
    go_wp2_with fail
    go_region_with (go_at_call 67; refine (HBS.out _ (by first | exact HEr.out | exact HGD.out _)).mono ?_; rintro e u2 ⟨⟨n, b, hblk, rfl⟩, g2⟩)
    all_goals
      have G2 : Hid (OnlyX g w u2) := HOX.out.trans (OnlyX.of_below (by first | exact g2 | exact (below_drewV (Below.refl _ _) _).trans g2))
      have HST2 : Hid (LxSt g s m u2) := (HST.out.keep (below_drewV (Below.refl _ _) _)).keep g2
      have hto := hblk.to hm
      clear hblk g2
      rcases hto with ⟨rfl, hst⟩ | ⟨hn, hmn, hst⟩
      · have HF : Hid (Pl.Sk s k m b) := HSK.out _ _ hst
        clear hst
        go_wp2_with fail
        go_ret
        exact ⟨m, b, HF.out, rfl, HST2.out, G2.out⟩
      · have HF : Hid (∀ j b, Pl.Sk s (m + n) j b → Pl.Sk s k j b) := fun j b h => HSK.out j b (hst j b h)
        have en : ((n : Int) == 0) = false := by simp; omega
        have HPA : Hid (∀ u : World, LxSt g s m u → Calls Tryz.prog 62 #[.pointer (some ⟨g, 0, none⟩), .int .i64 n] u fun e w' => (∃ v, e = .returned v) ∧ LxSt g s (m + n) w' ∧ OnlyX g u w') := fun u hu => pass_is g s hs m n hmn u hu
        clear hst
        go_wp2_with (go_at_call 62; refine (HPA.out _ HST2.out).mono ?_; rintro e u3 ⟨⟨v, rfl⟩, hl3, ho3⟩)
        go_roundw
        case rel => exact ⟨m + n, hmn, hl3, G2.out.trans ho3, HF.out⟩
        case measure => rw [hl3.at, HST.out.at]; omega
end Go.Proofs.YtdplfflkmphpbaaGreatDoor.W
namespace Go.Proofs.YtdplfflkmphpbaaGreatDoor.Pl
def place (len : Nat) (at_ : Int) : Int := if 65536 ≤ at_ ∧ at_ % 4 = 0 ∧ (at_ - 65536) / 4 < len then (at_ - 65536) / 4 else -1
end Go.Proofs.YtdplfflkmphpbaaGreatDoor.Pl
namespace Go.Proofs.YtdplfflkmphpbaaGreatDoor.W
open Go.RowKit
theorem below_drewN {B : Nat} {a w : World} (h : Below B a w) (m : Nat) : Below B a (w.drewN m) := ⟨h.os, h.tape, h.output, h.size, h.block⟩
def Row (k : IntKind) (lo : Nat) (w : World) (a : Option Addr) (len cap : Nat) (zs : List Int) : Prop :=
  zs.length = len ∧ len ≤ cap ∧ cap ≤ maxLen ∧ (∀ n ∈ zs, (Lit.int k n).wf = true) ∧
  (len = 0 ∨ ∃ b off, a = some ⟨b, off, none⟩ ∧ lo ≤ b ∧ b < w.heap.size ∧ ∀ i, i < len → w.cell? ⟨b, off + i, none⟩ = some (.int k (zs.getD i 0)))
theorem Row.keep {k : IntKind} {lo : Nat} {w w' : World} {a : Option Addr} {len cap : Nat} {zs : List Int} (h : Row k lo w a len cap zs) (hb : Below w.heap.size w w') : Row k lo w' a len cap zs := by
  obtain ⟨h1, h2, h3, h4, h5⟩ := h
  refine ⟨h1, h2, h3, h4, ?_⟩
  rcases h5 with h5 | ⟨b, off, rfl, hlo, hlt, hc⟩
  · exact .inl h5
  · exact .inr ⟨b, off, rfl, hlo, Nat.lt_of_lt_of_le hlt hb.size, fun i hi => (hb.cell (by exact hlt)).trans (hc i hi)⟩
structure Above (B : Nat) (w w' : World) : Prop where
  size : w.heap.size ≤ w'.heap.size
  block : ∀ k, B ≤ k → k < w.heap.size → w'.heap[k]? = w.heap[k]?
theorem Above.refl (B : Nat) (w : World) : Above B w w := ⟨Nat.le_refl _, fun _ _ _ => rfl⟩
theorem Above.trans {B : Nat} {a b c : World} (h : Above B a b) (k : Above B b c) : Above B a c := ⟨Nat.le_trans h.size k.size, fun i h1 h2 => (k.block i h1 (Nat.lt_of_lt_of_le h2 h.size)).trans (h.block i h1 h2)⟩
theorem Above.of_below {B : Nat} {a b : World} (h : Below a.heap.size a b) : Above B a b := ⟨h.size, fun i _ h2 => h.block i h2⟩
theorem Above.setCell {B : Nat} {a b : World} (h : Above B a b) {p : Addr} (hp : p.block < B) (u : Value) : Above B a (b.setCell p u) :=
  ⟨by simpa using h.size, fun i h1 h2 => (Below.heap_setCell b p u i (by omega)).trans (h.block i h1 h2)⟩
theorem Above.setRow {B : Nat} {a b : World} (h : Above B a b) {g : Nat} (hp : g < B) (cs : Array Value) : Above B a (b.setRow g cs) :=
  ⟨by simpa using h.size, fun i h1 h2 => (setRow_other b g i cs (by omega)).trans (h.block i h1 h2)⟩
def Own (k : IntKind) (e : TypeId) (lo : Nat) (w : World) (a : Option Addr) (len cap : Nat) (zs : List Int) : Prop :=
  w.ownsRow lo e 1 (.slice a len cap) len (zs.map (Value.int k)) ∧ (∀ n ∈ zs, (Lit.int k n).wf = true)
theorem Own.row {k : IntKind} {e : TypeId} {lo : Nat} {w : World} {a : Option Addr} {len cap : Nat} {zs : List Int} (h : Own k e lo w a len cap zs) : Row k lo w a len cap zs := by
  obtain ⟨hown, hwf⟩ := h
  have hl : zs.length = len := by have := hown.1; simpa using this
  rcases hown.2 with ⟨h0, h1⟩ | ⟨g, cap', cur, h0, hlo, hg, hnc, hcm, hcs, htake⟩
  · simp only [Value.slice.injEq] at h0
    obtain ⟨rfl, rfl, rfl⟩ := h0
    exact ⟨hl, Nat.le_refl _, Nat.zero_le _, hwf, .inl rfl⟩
  · simp only [Value.slice.injEq] at h0
    obtain ⟨rfl, _, rfl⟩ := h0
    refine ⟨hl, hnc, hcm, hwf, ?_⟩
    refine .inr ⟨g, 0, rfl, hlo, ?_, fun i hi => ?_⟩
    · exact (Array.getElem?_eq_some_iff.1 hg).1
    · have := hown.cellAt i (by omega)
      rw [Nat.zero_add, this, List.getElem?_map, List.getD_eq_getElem?_getD, List.getElem?_eq_getElem (by omega)]
      rfl
theorem Own.keep {k : IntKind} {e : TypeId} {lo : Nat} {w w' : World} {a : Option Addr} {len cap : Nat} {zs : List Int} (h : Own k e lo w a len cap zs) (hb : Below w.heap.size w w') : Own k e lo w' a len cap zs := by
  obtain ⟨hown, hwf⟩ := h
  refine ⟨⟨hown.1, ?_⟩, hwf⟩
  rcases hown.2 with h0 | ⟨g, cap', cur, h0, hlo, hg, hr⟩
  · exact .inl h0
  · refine .inr ⟨g, cap', cur, h0, hlo, ?_, hr⟩
    rw [hb.block g ((Array.getElem?_eq_some_iff.1 hg).1), hg]
end Go.Proofs.YtdplfflkmphpbaaGreatDoor.W
