import Derived.Test.YtafcnijfoejboaaGreatDoorV01
import Derived.Deep.Cut
import Derived.Deep.DeepCutAuto
import Derived.Deep.CutRange
import Derived.Laws.MakeOwn
import Derived.Laws.OwnMore
import Derived.Test.YtafcnijfoejboaaGreatDoorV03
import Derived.Deep.AppendLies
import Derived.Deep.RegionLaw
import Derived.Test.YtafcnijfoejboaaGreatDoorV00
import Derived.Test.YtafcnijfoejboaaGreatDoorV04
import Derived.Test.YtafcnijfoejboaaGreatDoorV05
import Derived.Laws.BytesString
import Derived.Laws.Cells
import Derived.Lib.ItoaNum
set_option linter.unusedVariables false
set_option linter.unusedSimpArgs false
namespace Go.Proofs.YtafcnijfoejboaaGreatDoor.W
open Go.RowKit
def SRow (lo : Nat) (w : World) (a : Option Addr) (len cap : Nat) (ss : List ByteArray) : Prop :=
  (ss.length = len ∧ ∀ x ∈ ss, x.size ≤ maxLen) ∧ len ≤ cap ∧ cap ≤ maxLen ∧ (len = 0 ∨ ∃ b off, a = some ⟨b, off, none⟩ ∧ lo ≤ b ∧ b < w.heap.size ∧ ∀ i, i < len → w.cell? ⟨b, off + i, none⟩ = some (.string (ss.getD i ⟨#[]⟩)))
theorem SRow.keep {lo : Nat} {w w' : World} {a : Option Addr} {len cap : Nat} {ss : List ByteArray} (h : SRow lo w a len cap ss) (hb : Below w.heap.size w w') : SRow lo w' a len cap ss := by
  obtain ⟨h1, h2, h3, h4⟩ := h
  refine ⟨h1, h2, h3, ?_⟩
  rcases h4 with h4 | ⟨b, off, ha, hlo, hlt, hc⟩
  · exact .inl h4
  · exact .inr ⟨b, off, ha, hlo, Nat.lt_of_lt_of_le hlt hb.size, fun i hi => (hb.cell (p := ⟨b, off + i, none⟩) hlt).trans (hc i hi)⟩
theorem SRow.at {lo : Nat} {w : World} {a : Option Addr} {len cap : Nat} {ss : List ByteArray} (h : SRow lo w a len cap ss) {k : Nat} (hk : k < len) :
    ∃ (b off : Nat), a = some ⟨b, off, none⟩ ∧ lo ≤ b ∧ b < w.heap.size ∧ w.cell? ⟨b, off + k, none⟩ = some (.string (ss.getD k ⟨#[]⟩)) ∧ (ss.getD k ⟨#[]⟩).size ≤ maxLen := by
  obtain ⟨h1, h2, h3, h4⟩ := h
  rcases h4 with h4 | ⟨b, off, ha, hlo, hlt, hc⟩
  · omega
  · refine ⟨b, off, ha, hlo, hlt, hc k hk, ?_⟩
    rw [List.getD_eq_getElem?_getD, List.getElem?_eq_getElem (by rw [h1.1]; exact hk)]
    exact h1.2 _ (List.getElem_mem _)
theorem SRow.small {lo : Nat} {w : World} {a : Option Addr} {len cap : Nat} {ss : List ByteArray} (h : SRow lo w a len cap ss) : len ≤ 9223372036854775807 := by
  have := h.2.1; have h3 := h.2.2.1; unfold maxLen at h3; omega
end Go.Proofs.YtafcnijfoejboaaGreatDoor.W
namespace Go.Proofs.YtafcnijfoejboaaGreatDoor.W
open Go.RowKit
end Go.Proofs.YtafcnijfoejboaaGreatDoor.W
namespace Go.Proofs.YtafcnijfoejboaaGreatDoor.Pl
structure Ty where
  k : Int
  n : Int
  of : List Int
  names : List ByteArray
def Ty.cells (x : Ty) (v s : W.SV) : Array Value := #[.int .i64 x.k, .int .i64 x.n, .slice v.a v.len v.cap, .slice s.a s.len s.cap]
def Ty.zero : Ty := ⟨0, 0, [], []⟩
end Go.Proofs.YtafcnijfoejboaaGreatDoor.Pl
namespace Go.Proofs.YtafcnijfoejboaaGreatDoor.W
open Go.RowKit
def TRow (lo : Nat) (w : World) (a : Option Addr) (len cap : Nat) (xs : List Pl.Ty) : Prop :=
  xs.length = len ∧ len ≤ cap ∧ cap ≤ maxLen ∧ (len = 0 ∨ ∃ b off, a = some ⟨b, off, none⟩ ∧ lo ≤ b ∧ b < w.heap.size ∧ ∀ i, i < len → ∃ v s : SV, (∀ j, j < 4 → w.cell? ⟨b, off + i * 4 + j, none⟩ = ((xs.getD i Pl.Ty.zero).cells v s)[j]?) ∧ Row .i64 lo w v.a v.len v.cap (xs.getD i Pl.Ty.zero).of ∧ SRow lo w s.a s.len s.cap (xs.getD i Pl.Ty.zero).names)
theorem TRow.keep {lo : Nat} {w w' : World} {a : Option Addr} {len cap : Nat} {xs : List Pl.Ty} (h : TRow lo w a len cap xs) (hb : Below w.heap.size w w') : TRow lo w' a len cap xs := by
  obtain ⟨h1, h2, h3, h4⟩ := h
  refine ⟨h1, h2, h3, ?_⟩
  rcases h4 with h4 | ⟨b, off, ha, hlo, hlt, hc⟩
  · exact .inl h4
  · refine .inr ⟨b, off, ha, hlo, Nat.lt_of_lt_of_le hlt hb.size, fun i hi => ?_⟩
    obtain ⟨v, s, h5, h6, h7⟩ := hc i hi
    exact ⟨v, s, fun j hj => (hb.cell (p := ⟨b, off + i * 4 + j, none⟩) hlt).trans (h5 j hj), h6.keep hb, h7.keep hb⟩
theorem TRow.at {lo : Nat} {w : World} {a : Option Addr} {len cap : Nat} {xs : List Pl.Ty} (h : TRow lo w a len cap xs) {k : Nat} (hk : k < len) :
    ∃ (b off : Nat) (v s : SV), a = some ⟨b, off, none⟩ ∧ lo ≤ b ∧ b < w.heap.size ∧ (∀ j, j < 4 → w.cell? ⟨b, off + k * 4 + j, none⟩ = ((xs.getD k Pl.Ty.zero).cells v s)[j]?) ∧ Row .i64 lo w v.a v.len v.cap (xs.getD k Pl.Ty.zero).of ∧ SRow lo w s.a s.len s.cap (xs.getD k Pl.Ty.zero).names := by
  obtain ⟨h1, h2, h3, h4⟩ := h
  rcases h4 with h4 | ⟨b, off, ha, hlo, hlt, hc⟩
  · omega
  · obtain ⟨v, s, h5, h6, h7⟩ := hc k hk
    exact ⟨b, off, v, s, ha, hlo, hlt, h5, h6, h7⟩
theorem TRow.small {lo : Nat} {w : World} {a : Option Addr} {len cap : Nat} {xs : List Pl.Ty} (h : TRow lo w a len cap xs) : len ≤ 9223372036854775807 := by
  have := h.2.1; have h3 := h.2.2.1; unfold maxLen at h3; omega
theorem ty_cells {u : World} {b o : Nat} {x : Pl.Ty} {v s : SV} (h : ∀ j, j < 4 → u.cell? ⟨b, o + j, none⟩ = (x.cells v s)[j]?) : u.cell? ⟨b, o, none⟩ = some (.int .i64 x.k) ∧ u.cell? ⟨b, o + 1, none⟩ = some (.int .i64 x.n) ∧ u.cell? ⟨b, o + 2, none⟩ = some (.slice v.a v.len v.cap) ∧ u.cell? ⟨b, o + 3, none⟩ = some (.slice s.a s.len s.cap) :=
  ⟨h 0 (by decide), h 1 (by decide), h 2 (by decide), h 3 (by decide)⟩
end Go.Proofs.YtafcnijfoejboaaGreatDoor.W
namespace Go.Proofs.YtafcnijfoejboaaGreatDoor.W
open Go.RowKit
theorem ty_row_set {k : IntKind} {lo : Nat} {w : World} {a : Option Addr} {len cap : Nat} {zs : List Int} (h : Row k lo w a len cap zs) {g : Nat} (hg : g < lo) (j : Nat) (x : Value) : Row k lo (w.setCell ⟨g, j, none⟩ x) a len cap zs := by
  obtain ⟨h1, h2, h3, h4, h5⟩ := h
  refine ⟨h1, h2, h3, h4, ?_⟩
  rcases h5 with h5 | ⟨b, off, ha, hlo, hlt, hc⟩
  · exact .inl h5
  · refine .inr ⟨b, off, ha, hlo, by simpa using hlt, fun i hi => ?_⟩
    rw [World.cell?_setCell_other _ _ _ _ (by intro e; injection e with e1 _; omega)]
    exact hc i hi
theorem SRow.set {lo : Nat} {w : World} {a : Option Addr} {len cap : Nat} {ss : List ByteArray} (h : SRow lo w a len cap ss) {g : Nat} (hg : g < lo) (j : Nat) (x : Value) : SRow lo (w.setCell ⟨g, j, none⟩ x) a len cap ss := by
  obtain ⟨h1, h2, h3, h5⟩ := h
  refine ⟨h1, h2, h3, ?_⟩
  rcases h5 with h5 | ⟨b, off, ha, hlo, hlt, hc⟩
  · exact .inl h5
  · refine .inr ⟨b, off, ha, hlo, by simpa using hlt, fun i hi => ?_⟩
    rw [World.cell?_setCell_other _ _ _ _ (by intro e; injection e with e1 _; omega)]
    exact hc i hi
theorem ty_row_above {k : IntKind} {B lo : Nat} {w w' : World} {a : Option Addr} {len cap : Nat} {zs : List Int} (h : Row k lo w a len cap zs) (ha : Above B w w') (hB : B ≤ lo) : Row k lo w' a len cap zs := by
  obtain ⟨h1, h2, h3, h4, h5⟩ := h
  refine ⟨h1, h2, h3, h4, ?_⟩
  rcases h5 with h5 | ⟨b, off, rfl, hlo, hlt, hc⟩
  · exact .inl h5
  · refine .inr ⟨b, off, rfl, hlo, Nat.lt_of_lt_of_le hlt ha.size, fun i hi => ?_⟩
    rw [World.cell?_of_block (a := ⟨b, off + i, none⟩) (ha.block b (Nat.le_trans hB hlo) hlt)]
    exact hc i hi
theorem SRow.above {B lo : Nat} {w w' : World} {a : Option Addr} {len cap : Nat} {ss : List ByteArray} (h : SRow lo w a len cap ss) (ha : Above B w w') (hB : B ≤ lo) : SRow lo w' a len cap ss := by
  obtain ⟨h1, h2, h3, h5⟩ := h
  refine ⟨h1, h2, h3, ?_⟩
  rcases h5 with h5 | ⟨b, off, rfl, hlo, hlt, hc⟩
  · exact .inl h5
  · refine .inr ⟨b, off, rfl, hlo, Nat.lt_of_lt_of_le hlt ha.size, fun i hi => ?_⟩
    rw [World.cell?_of_block (a := ⟨b, off + i, none⟩) (ha.block b (Nat.le_trans hB hlo) hlt)]
    exact hc i hi
theorem SRow.lower {lo lo' : Nat} {w : World} {a : Option Addr} {len cap : Nat} {ss : List ByteArray} (h : SRow lo w a len cap ss) (hl : lo' ≤ lo) : SRow lo' w a len cap ss := by
  obtain ⟨h1, h2, h3, h4⟩ := h
  refine ⟨h1, h2, h3, ?_⟩
  rcases h4 with h4 | ⟨b, off, e, hlo, hlt, hc⟩
  · exact .inl h4
  · exact .inr ⟨b, off, e, Nat.le_trans hl hlo, hlt, hc⟩
theorem TRow.above {B lo : Nat} {w w' : World} {a : Option Addr} {len cap : Nat} {xs : List Pl.Ty} (h : TRow lo w a len cap xs) (ha : Above B w w') (hB : B ≤ lo) : TRow lo w' a len cap xs := by
  obtain ⟨h1, h2, h3, h4⟩ := h
  refine ⟨h1, h2, h3, ?_⟩
  rcases h4 with h4 | ⟨b, off, e, hlo, hlt, hc⟩
  · exact .inl h4
  · refine .inr ⟨b, off, e, hlo, Nat.lt_of_lt_of_le hlt ha.size, fun i hi => ?_⟩
    obtain ⟨v, s, h5, h6, h7⟩ := hc i hi
    refine ⟨v, s, fun j hj => ?_, ty_row_above h6 ha hB, h7.above ha hB⟩
    rw [World.cell?_of_block (a := ⟨b, off + i * 4 + j, none⟩) (ha.block b (Nat.le_trans hB hlo) hlt)]
    exact h5 j hj
theorem TRow.lower {lo lo' : Nat} {w : World} {a : Option Addr} {len cap : Nat} {xs : List Pl.Ty} (h : TRow lo w a len cap xs) (hl : lo' ≤ lo) : TRow lo' w a len cap xs := by
  obtain ⟨h1, h2, h3, h4⟩ := h
  refine ⟨h1, h2, h3, ?_⟩
  rcases h4 with h4 | ⟨b, off, e, hlo, hlt, hc⟩
  · exact .inl h4
  · refine .inr ⟨b, off, e, Nat.le_trans hl hlo, hlt, fun i hi => ?_⟩
    obtain ⟨v, s, h5, h6, h7⟩ := hc i hi
    exact ⟨v, s, h5, h6.lower hl, h7.lower hl⟩
theorem ty_ne {g p q : Nat} (h : p ≠ q) : (⟨g, p, none⟩ : Addr) ≠ ⟨g, q, none⟩ := fun e => h (by injection e)
theorem ty_isSome {u : World} {p q : Addr} {v : Value} (h : (u.cell? q).isSome = true) : ((u.setCell p v).cell? q).isSome = true := by
  obtain ⟨x, hx⟩ := Option.isSome_iff_exists.1 h
  obtain ⟨y, hy⟩ := cell?_setCell_some (p := p) (x := v) hx
  rw [hy]; rfl
def set4 (u : World) (g o : Nat) (x : Pl.Ty) (v s : SV) : World := (((u.setCell ⟨g, o, none⟩ (.int .i64 x.k)).setCell ⟨g, o + 1, none⟩ (.int .i64 x.n)).setCell ⟨g, o + 2, none⟩ (.slice v.a v.len v.cap)).setCell ⟨g, o + 3, none⟩ (.slice s.a s.len s.cap)
theorem set4_out {u : World} {g o q : Nat} (x : Pl.Ty) (v s : SV) (h : q < o ∨ o + 4 ≤ q) : (set4 u g o x v s).cell? ⟨g, q, none⟩ = u.cell? ⟨g, q, none⟩ := by
  unfold set4
  rw [World.cell?_setCell_other _ _ _ _ (ty_ne (by omega)), World.cell?_setCell_other _ _ _ _ (ty_ne (by omega)), World.cell?_setCell_other _ _ _ _ (ty_ne (by omega)), World.cell?_setCell_other _ _ _ _ (ty_ne (by omega))]
theorem set4_in {u : World} {g o : Nat} (x : Pl.Ty) (v s : SV) (h : ∀ j, j < 4 → (u.cell? ⟨g, o + j, none⟩).isSome = true) (j : Nat) (hj : j < 4) : (set4 u g o x v s).cell? ⟨g, o + j, none⟩ = (x.cells v s)[j]? := by
  have t := h j hj
  unfold set4
  rcases (show j = 0 ∨ j = 1 ∨ j = 2 ∨ j = 3 by omega) with rfl | rfl | rfl | rfl
  · change World.cell? _ ⟨g, o, none⟩ = _
    rw [World.cell?_setCell_other _ _ _ _ (ty_ne (by omega)), World.cell?_setCell_other _ _ _ _ (ty_ne (by omega)), World.cell?_setCell_other _ _ _ _ (ty_ne (by omega))]
    rw [World.cell?_setCell_same' _ _ _ (show (u.cell? ⟨g, o, none⟩).isSome = true from t)]
    rfl
  · rw [World.cell?_setCell_other _ _ _ _ (ty_ne (by omega)), World.cell?_setCell_other _ _ _ _ (ty_ne (by omega))]
    rw [World.cell?_setCell_same' _ _ _ (ty_isSome t)]
    rfl
  · rw [World.cell?_setCell_other _ _ _ _ (ty_ne (by omega))]
    rw [World.cell?_setCell_same' _ _ _ (ty_isSome (ty_isSome t))]
    rfl
  · rw [World.cell?_setCell_same' _ _ _ (ty_isSome (ty_isSome (ty_isSome t)))]
    rfl
theorem set4_row {k : IntKind} {lo : Nat} {w : World} {a : Option Addr} {len cap : Nat} {zs : List Int} (h : Row k lo w a len cap zs) {g : Nat} (hg : g < lo) (o : Nat) (x : Pl.Ty) (v s : SV) : Row k lo (set4 w g o x v s) a len cap zs := by
  unfold set4
  exact ty_row_set (ty_row_set (ty_row_set (ty_row_set h hg _ _) hg _ _) hg _ _) hg _ _
theorem set4_srow {lo : Nat} {w : World} {a : Option Addr} {len cap : Nat} {ss : List ByteArray} (h : SRow lo w a len cap ss) {g : Nat} (hg : g < lo) (o : Nat) (x : Pl.Ty) (v s : SV) : SRow lo (set4 w g o x v s) a len cap ss := by
  unfold set4
  exact (((h.set hg _ _).set hg _ _).set hg _ _).set hg _ _
theorem ty_at {P : Program} {f : Nat} {args : Array Value} {W : World} {Q : Ending → World → Prop} (h : ∀ U, U = W → Calls P f args U Q) : Calls P f args W Q := h W rfl
end Go.Proofs.YtafcnijfoejboaaGreatDoor.W
namespace Go.Proofs.YtafcnijfoejboaaGreatDoor.W
open Go.RowKit
structure OnlyL (c : Nat) (w w' : World) : Prop where
  os : w'.os = w.os
  tape : w'.tape = w.tape
  output : w'.output = w.output
  size : w.heap.size ≤ w'.heap.size
  block : ∀ b, b < w.heap.size → b ≠ c → w'.heap[b]? = w.heap[b]?
theorem OnlyL.refl (c : Nat) (w : World) : OnlyL c w w := ⟨rfl, rfl, rfl, Nat.le_refl _, fun _ _ _ => rfl⟩
theorem OnlyL.trans {c : Nat} {a b d : World} (h : OnlyL c a b) (k : OnlyL c b d) : OnlyL c a d := ⟨k.os.trans h.os, k.tape.trans h.tape, k.output.trans h.output, Nat.le_trans h.size k.size, fun x hx hc => (k.block x (Nat.lt_of_lt_of_le hx h.size) hc).trans (h.block x hx hc)⟩
theorem OnlyL.of_below {c : Nat} {a b : World} (h : Below a.heap.size a b) : OnlyL c a b := ⟨h.os, h.tape, h.output, h.size, fun x hx _ => h.block x hx⟩
theorem OnlyL.low {c : Nat} {w a b : World} (h : OnlyL c w a) (k : Below w.heap.size a b) : OnlyL c w b := ⟨k.os.trans h.os, k.tape.trans h.tape, k.output.trans h.output, Nat.le_trans h.size k.size, fun x hx hc => (k.block x hx).trans (h.block x hx hc)⟩
theorem OnlyL.below {c n : Nat} {w w' : World} (h : OnlyL c w w') (hn : n ≤ c) (hn2 : n ≤ w.heap.size) : Below n w w' := ⟨h.os, h.tape, h.output, h.size, fun b hb => h.block b (by omega) (by omega)⟩
theorem OnlyL.setCell {c : Nat} {w u : World} (h : OnlyL c w u) (q : Nat) (x : Value) : OnlyL c w (u.setCell ⟨c, q, none⟩ x) := by
  refine ⟨?_, ?_, ?_, ?_, fun b hb hc => (Below.heap_setCell u ⟨c, q, none⟩ x b hc).trans (h.block b hb hc)⟩
  · have := (Below.refl 0 u).setCell (p := ⟨c, q, none⟩) (Nat.zero_le _) x; exact this.os.trans h.os
  · have := (Below.refl 0 u).setCell (p := ⟨c, q, none⟩) (Nat.zero_le _) x; exact this.tape.trans h.tape
  · have := (Below.refl 0 u).setCell (p := ⟨c, q, none⟩) (Nat.zero_le _) x; exact this.output.trans h.output
  · rw [World.size_setCell]; exact h.size
end Go.Proofs.YtafcnijfoejboaaGreatDoor.W
namespace Go.Proofs.YtafcnijfoejboaaGreatDoor.W
open Go.RowKit
def SV.blk (s : SV) : Option Nat := (Value.slice s.a s.len s.cap).ownBlock
def SV.val (s : SV) : Value := .slice s.a s.len s.cap
def OwnS (B : Nat) (u : World) (s : SV) (ss : List ByteArray) : Prop := u.ownsRow B 9 1 s.val s.len (ss.map Value.string) ∧ ∀ x ∈ ss, x.size ≤ 1048576
theorem OwnS.row {B : Nat} {u : World} {s : SV} {ss : List ByteArray} (h : OwnS B u s ss) : SRow B u s.a s.len s.cap ss := by
  obtain ⟨hown, hwf⟩ := h
  have hl : ss.length = s.len := by have := hown.1; simpa using this
  have hsz : ∀ x ∈ ss, x.size ≤ maxLen := fun x hx => Nat.le_trans (hwf x hx) (by unfold maxLen; decide)
  obtain ⟨a, len, cap⟩ := s
  unfold SV.val at hown
  simp only at hown hl ⊢
  rcases hown.2 with ⟨h0, h1⟩ | ⟨g, cap', cur, h0, hlo, hg, hnc, hcm, hcs, htake⟩
  · simp only [Value.slice.injEq] at h0
    obtain ⟨rfl, rfl, rfl⟩ := h0
    exact ⟨⟨hl, hsz⟩, Nat.le_refl _, Nat.zero_le _, .inl rfl⟩
  · simp only [Value.slice.injEq] at h0
    obtain ⟨rfl, _, rfl⟩ := h0
    refine ⟨⟨hl, hsz⟩, hnc, hcm, .inr ⟨g, 0, rfl, hlo, (Array.getElem?_eq_some_iff.1 hg).1, fun i hi => ?_⟩⟩
    have := hown.cellAt i (by omega)
    rw [Nat.zero_add, this, List.getElem?_map, List.getD_eq_getElem?_getD, List.getElem?_eq_getElem (by omega)]
    rfl
structure TyL (B X : Nat) (u : World) (v : Value) (n : Nat) (cs : List Value) (V S : Nat → SV) : Prop where
  own : u.ownsRow B 31 4 v n cs
  ce : ∀ i, i < n → ∃ k m : Int, cs[i * 4]? = some (.int .i64 k) ∧ cs[i * 4 + 1]? = some (.int .i64 m) ∧ cs[i * 4 + 2]? = some (V i).val ∧ cs[i * 4 + 3]? = some (S i).val
  iv : ∀ i, i < n → ∃ zs, Own .i64 3 B u (V i).a (V i).len (V i).cap zs
  sv : ∀ i, i < n → ∃ ss, OwnS B u (S i) ss
  bv : ∀ i, i < n → ∀ b, (V i).blk = some b → b < X
  bs : ∀ i, i < n → ∀ b, (S i).blk = some b → b < X
  dv : ∀ i j, i < n → j < n → i ≠ j → (V i).blk = (V j).blk → (V i).blk = none
  ds : ∀ i j, i < n → j < n → i ≠ j → (S i).blk = (S j).blk → (S i).blk = none
  sh : ∀ i, i < n → (V i).len ≤ 5000 ∧ (S i).len ≤ 5000
def TOwn (B X : Nat) (u : World) (v : Value) (n : Nat) : Prop := ∃ cs V S, TyL B X u v n cs V S
theorem own_onlyL {c base : Nat} {e : TypeId} {k : Nat} {v : Value} {n : Nat} {xs : List Value} {w w' : World} (h : w.ownsRow base e k v n xs) (hb : OnlyL c w w') (hc : c < base) : w'.ownsRow base e k v n xs := by
  refine ⟨h.1, ?_⟩
  rcases h.2 with ⟨a, b⟩ | ⟨g, cap, cur, h0, hlo, hg, r⟩
  · exact .inl ⟨a, b⟩
  · exact .inr ⟨g, cap, cur, h0, hlo, (hb.block g (Array.getElem?_eq_some_iff.1 hg).1 (by omega)).trans hg, r⟩
theorem TOwn.only {B X c : Nat} {u u' : World} {v : Value} {n : Nat} (h : TOwn B X u v n) (hb : OnlyL c u u') (hc : c < B) : TOwn B X u' v n := by
  obtain ⟨cs, V, S, h⟩ := h
  refine ⟨cs, V, S, own_onlyL h.own hb hc, h.ce, fun i hi => ?_, fun i hi => ?_, h.bv, h.bs, h.dv, h.ds, h.sh⟩
  · obtain ⟨zs, hz⟩ := h.iv i hi
    exact ⟨zs, own_onlyL hz.1 hb hc, hz.2⟩
  · obtain ⟨ss, hz⟩ := h.sv i hi
    exact ⟨ss, own_onlyL hz.1 hb hc, hz.2⟩
theorem TOwn.up {B X Y : Nat} {u : World} {v : Value} {n : Nat} (h : TOwn B X u v n) (hx : X ≤ Y) : TOwn B Y u v n := by
  obtain ⟨cs, V, S, h⟩ := h
  exact ⟨cs, V, S, h.own, h.ce, h.iv, h.sv, fun i hi b hb => Nat.lt_of_lt_of_le (h.bv i hi b hb) hx, fun i hi b hb => Nat.lt_of_lt_of_le (h.bs i hi b hb) hx, h.dv, h.ds, h.sh⟩
theorem TOwn.nil (B X : Nat) (u : World) : TOwn B X u (.slice none 0 0) 0 :=
  ⟨[], fun _ => ⟨none, 0, 0⟩, fun _ => ⟨none, 0, 0⟩, World.ownsRow_nil _ _ _ _, fun i hi => absurd hi (Nat.not_lt_zero _), fun i hi => absurd hi (Nat.not_lt_zero _), fun i hi => absurd hi (Nat.not_lt_zero _), fun i hi => absurd hi (Nat.not_lt_zero _), fun i hi => absurd hi (Nat.not_lt_zero _), fun i j hi => absurd hi (Nat.not_lt_zero _), fun i j hi => absurd hi (Nat.not_lt_zero _), fun i hi => absurd hi (Nat.not_lt_zero _)⟩
theorem own_apart {u : World} {B B' : Nat} {e e' : TypeId} {k k' : Nat} {v v' : Value} {n n' : Nat} {xs xs' : List Value} (h : u.ownsRow B e k v n xs) (h' : u.ownsRow B' e' k' v' n' xs') (hne : e ≠ e') : v.ownBlock = none ∨ v.ownBlock ≠ v'.ownBlock := by
  rcases h.2 with ⟨rfl, _⟩ | ⟨g, cap, cur, rfl, _, hg, _⟩
  · exact .inl rfl
  rcases h'.2 with ⟨rfl, _⟩ | ⟨g', cap', cur', rfl, _, hg', _⟩
  · exact .inr (by simp [Value.ownBlock])
  · refine .inr (fun hc => ?_)
    simp only [Value.ownBlock, Option.some.injEq] at hc
    subst hc
    rw [hg] at hg'
    simp only [Option.some.injEq, Obj.cells.injEq] at hg'
    exact hne hg'.2.1
def updV (V : Nat → SV) (n : Nat) (x : SV) : Nat → SV := fun i => if i = n then x else V i
theorem updV_same (V : Nat → SV) (n : Nat) (x : SV) : updV V n x n = x := if_pos rfl
theorem updV_other (V : Nat → SV) {n i : Nat} (x : SV) (h : i ≠ n) : updV V n x i = V i := if_neg h
theorem TOwn.snoc {B X Y : Nat} {u u' : World} {v v' : Value} {n : Nat} {k m : Int} {x y : SV} {zs : List Int} {ss : List ByteArray} (h : ∃ cs V S, TyL B X u v n cs V S ∧ u'.ownsRow B 31 4 v' (n + 1) (cs ++ [.int .i64 k, .int .i64 m, x.val, y.val])) (hg : u.grownBy u' v.ownBlock)
    (hx : Own .i64 3 B u x.a x.len x.cap zs) (hy : OwnS B u y ss) (hX : X ≤ Y) (hxb : ∀ b, x.blk = some b → X ≤ b ∧ b < Y) (hyb : ∀ b, y.blk = some b → X ≤ b ∧ b < Y) (hsh : x.len ≤ 5000 ∧ y.len ≤ 5000) : TOwn B Y u' v' (n + 1) := by
  obtain ⟨cs, V, S, h, ho⟩ := h
  have hl : cs.length = n * 4 := h.own.1
  have hkI : ∀ {s : SV} {zs : List Int}, Own .i64 3 B u s.a s.len s.cap zs → Own .i64 3 B u' s.a s.len s.cap zs := fun {s zs} q => ⟨q.1.kept hg (own_apart q.1 h.own (by decide)), q.2⟩
  have hkS : ∀ {s : SV} {ss : List ByteArray}, OwnS B u s ss → OwnS B u' s ss := fun {s ss} q => ⟨q.1.kept hg (own_apart q.1 h.own (by decide)), q.2⟩
  refine ⟨_, updV V n x, updV S n y, ho, fun i hi => ?_, fun i hi => ?_, fun i hi => ?_, fun i hi b hb => ?_, fun i hi b hb => ?_, fun i j hi hj hne e => ?_, fun i j hi hj hne e => ?_, fun i hi => ?_⟩
  · by_cases e : i = n
    · subst e
      rw [updV_same, updV_same]
      refine ⟨k, m, ?_, ?_, ?_, ?_⟩ <;> (rw [List.getElem?_append_right (by omega)]; simp [hl])
    · obtain ⟨k', m', q1, q2, q3, q4⟩ := h.ce i (by omega)
      rw [updV_other V x e, updV_other S y e]
      refine ⟨k', m', ?_, ?_, ?_, ?_⟩ <;> (rw [List.getElem?_append_left (by omega)]; assumption)
  · by_cases e : i = n
    · subst e; rw [updV_same]; exact ⟨zs, hkI hx⟩
    · rw [updV_other V x e]
      obtain ⟨zs', q⟩ := h.iv i (by omega)
      exact ⟨zs', hkI q⟩
  · by_cases e : i = n
    · subst e; rw [updV_same]; exact ⟨ss, hkS hy⟩
    · rw [updV_other S y e]
      obtain ⟨zs', q⟩ := h.sv i (by omega)
      exact ⟨zs', hkS q⟩
  · by_cases e : i = n
    · subst e; rw [updV_same] at hb; exact (hxb b hb).2
    · rw [updV_other V x e] at hb; exact Nat.lt_of_lt_of_le (h.bv i (by omega) b hb) hX
  · by_cases e : i = n
    · subst e; rw [updV_same] at hb; exact (hyb b hb).2
    · rw [updV_other S y e] at hb; exact Nat.lt_of_lt_of_le (h.bs i (by omega) b hb) hX
  · by_cases ei : i = n
    · subst ei
      rw [updV_same] at e ⊢
      rw [updV_other V x (fun q => hne q.symm)] at e
      cases hb : x.blk with
      | none => rfl
      | some b =>
        rw [hb] at e
        have := h.bv j (by omega) b e.symm
        have := (hxb b hb).1
        omega
    · by_cases ej : j = n
      · subst ej
        rw [updV_same, updV_other V x ei] at e
        rw [updV_other V x ei]
        cases hb : (V i).blk with
        | none => rfl
        | some b =>
          rw [hb] at e
          have := h.bv i (by omega) b hb
          have := (hxb b e.symm).1
          omega
      · rw [updV_other V x ei, updV_other V x ej] at e
        rw [updV_other V x ei]
        exact h.dv i j (by omega) (by omega) hne e
  · by_cases ei : i = n
    · subst ei
      rw [updV_same] at e ⊢
      rw [updV_other S y (fun q => hne q.symm)] at e
      cases hb : y.blk with
      | none => rfl
      | some b =>
        rw [hb] at e
        have := h.bs j (by omega) b e.symm
        have := (hyb b hb).1
        omega
    · by_cases ej : j = n
      · subst ej
        rw [updV_same, updV_other S y ei] at e
        rw [updV_other S y ei]
        cases hb : (S i).blk with
        | none => rfl
        | some b =>
          rw [hb] at e
          have := h.bs i (by omega) b hb
          have := (hyb b e.symm).1
          omega
      · rw [updV_other S y ei, updV_other S y ej] at e
        rw [updV_other S y ei]
        exact h.ds i j (by omega) (by omega) hne e
  · by_cases e : i = n
    · subst e; rw [updV_same, updV_same]; exact hsh
    · rw [updV_other V x e, updV_other S y e]; exact h.sh i (by omega)
def TDrawn (B : Nat) (u : World) (v : Value) (n : Nat) : Prop := ∃ (a : Option Addr) (cap : Nat) (xs : List Pl.Ty), v = .slice a n cap ∧ TRow B u a n cap xs ∧ ∀ i, i < n → ∀ j, j < (xs.getD i Pl.Ty.zero).names.length → ((xs.getD i Pl.Ty.zero).names.getD j ⟨#[]⟩).size ≤ 1048576
end Go.Proofs.YtafcnijfoejboaaGreatDoor.W
namespace Go.Proofs.YtafcnijfoejboaaGreatDoor.W
open Go.RowKit
set_option maxHeartbeats 1000000 in
theorem next_onlyL (w : World) (c : Nat) (h : RdOk w c) : Calls Tryz.prog 35 #[.pointer (some ⟨c, 0, none⟩)] w fun e w' => ∃ m : Nat, e = .returned (.int .i64 (m : Int)) ∧ m ≤ 255 ∧ RdOk w' c ∧ OnlyL c w w' := by
  obtain ⟨a, len, cap, p, hrow, hl, hp, hbytes⟩ := h
  have hc0 : w.cell? ⟨c, 0, none⟩ = some (.slice a len cap) := by rw [cell_of_row w c 0 _ 78 (0, 0) hrow]; rfl
  have hc1 : w.cell? ⟨c, 1, none⟩ = some (.int .i64 (p : Int)) := by rw [cell_of_row w c 1 _ 78 (0, 0) hrow]; rfl
  have hf1 : w.frozen? ⟨c, 1, none⟩ = false := frozen_of_row w c 1 _ 78 hrow
  by_cases hlt : p < len
  · obtain ⟨b, off, rfl, hb, hby⟩ : ∃ b off, a = some ⟨b, off, none⟩ ∧ b < c ∧ ∀ i, i < len → ∃ v : Nat, v ≤ 255 ∧ w.cell? ⟨b, off + i, none⟩ = some (.int .u8 (v : Int)) := by
      rcases hbytes with h0 | h0
      · omega
      · exact h0
    obtain ⟨v, hv, hcv⟩ := hby p hlt
    have HB : Hid (∀ i, i < len → ∃ v : Nat, v ≤ 255 ∧ w.cell? ⟨b, off + i, none⟩ = some (.int .u8 (v : Int))) := hby
    have HR : Hid (w.heap[c]? = some (.cells #[.slice (some ⟨b, off, none⟩) len cap, .int .i64 (p : Int)] 78)) := hrow
    clear hby hrow hbytes
    go_enter Tryz.func35, Tryz.ntmps35
    go_wp2_with fail
    go_quiet (fail)
    go_wp2_with fail
    go_quiet (fail)
    go_wp2
    go_ret
    refine ⟨v, rfl, hv, ?_, ?_⟩
    · exact rd_after rfl HR.out hl hlt hb HB.out
    · exact ⟨rfl, rfl, rfl, Nat.le_of_eq (World.size_setCell _ _ _).symm, fun b _ hb' => heap_setCell_other _ ⟨c, 1, none⟩ b _ hb'⟩
  · have HR : Hid (w.heap[c]? = some (.cells #[.slice a len cap, .int .i64 (p : Int)] 78)) := hrow
    have HB : Hid (len = 0 ∨ ∃ b off, a = some ⟨b, off, none⟩ ∧ b < c ∧ ∀ i, i < len → ∃ v : Nat, v ≤ 255 ∧ w.cell? ⟨b, off + i, none⟩ = some (.int .u8 (v : Int))) := hbytes
    clear hrow hbytes
    go_enter Tryz.func35, Tryz.ntmps35
    go_wp2_with fail
    go_quiet (fail)
    go_wp2
    go_ret
    exact ⟨0, rfl, by decide, ⟨a, len, cap, p, HR.out, hl, hp, HB.out⟩, ⟨rfl, rfl, rfl, Nat.le_refl _, fun b _ _ => rfl⟩⟩
structure TyW (B : Nat) (u : World) (v : Value) (n : Nat) (cs : List Value) (V S : Nat → SV) : Prop where
  own : u.ownsRow B 31 4 v n cs
  ce : ∀ i, i < n → ∃ k m : Int, cs[i * 4]? = some (.int .i64 k) ∧ cs[i * 4 + 1]? = some (.int .i64 m) ∧ cs[i * 4 + 2]? = some (V i).val ∧ cs[i * 4 + 3]? = some (S i).val
  iv : ∀ i, i < n → ∃ zs, Own .i64 3 B u (V i).a (V i).len (V i).cap zs
  sv : ∀ i, i < n → ∃ ss, OwnS B u (S i) ss
theorem TyW.drawn {B : Nat} {u : World} {v : Value} {n : Nat} {cs : List Value} {V S : Nat → SV} (h : TyW B u v n cs V S) : TDrawn B u v n := by
  have hx : ∀ i, i < n → ∃ x : Pl.Ty, (cs[i * 4]? = some (.int .i64 x.k) ∧ cs[i * 4 + 1]? = some (.int .i64 x.n)) ∧ Row .i64 B u (V i).a (V i).len (V i).cap x.of ∧ OwnS B u (S i) x.names := fun i hi => by
    obtain ⟨k, m, q1, q2, _, _⟩ := h.ce i hi
    obtain ⟨zs, hz⟩ := h.iv i hi
    obtain ⟨ss, hs⟩ := h.sv i hi
    exact ⟨⟨k, m, zs, ss⟩, ⟨q1, q2⟩, hz.row, hs⟩
  obtain ⟨f, hf⟩ : ∃ f : Nat → Pl.Ty, ∀ i, i < n → (cs[i * 4]? = some (.int .i64 (f i).k) ∧ cs[i * 4 + 1]? = some (.int .i64 (f i).n)) ∧ Row .i64 B u (V i).a (V i).len (V i).cap (f i).of ∧ OwnS B u (S i) (f i).names := by
    refine ⟨fun i => if q : i < n then Classical.choose (hx i q) else Pl.Ty.zero, fun i hi => ?_⟩
    simp only [dif_pos hi]
    exact Classical.choose_spec (hx i hi)
  have hg : ∀ i, i < n → ((List.range n).map f).getD i Pl.Ty.zero = f i := fun i hi => by
    rw [List.getD_eq_getElem?_getD, List.getElem?_map, List.getElem?_range hi]; rfl
  have hsm : ∀ i, i < n → ∀ j, j < (((List.range n).map f).getD i Pl.Ty.zero).names.length → ((((List.range n).map f).getD i Pl.Ty.zero).names.getD j ⟨#[]⟩).size ≤ 1048576 := fun i hi j hj => by
    rw [hg i hi] at hj ⊢
    refine (hf i hi).2.2.2 _ ?_
    rw [List.getD_eq_getElem?_getD, List.getElem?_eq_getElem hj]
    exact List.getElem_mem _
  have hl : ((List.range n).map f).length = n := by simp
  have hown := h.own
  rcases hown.2 with ⟨e, hn⟩ | ⟨g, cap, cur, e, hlo, hh, hnc, hcm, hcs, ht⟩
  · subst hn
    exact ⟨none, 0, [], e, ⟨rfl, Nat.le_refl _, Nat.zero_le _, .inl rfl⟩, fun i hi => absurd hi (Nat.not_lt_zero _)⟩
  · subst e
    refine ⟨_, cap, (List.range n).map f, rfl, ⟨hl, hnc, hcm, .inr ⟨g, 0, rfl, hlo, (Array.getElem?_eq_some_iff.1 hh).1, fun i hi => ⟨V i, S i, fun j hj => ?_, ?_, ?_⟩⟩⟩, hsm⟩
    · obtain ⟨k, m, q1, q2, q3, q4⟩ := h.ce i hi
      have e1 := (hf i hi).1
      rw [hg i hi, Nat.zero_add, hown.cellAt (i * 4 + j) (by omega)]
      rcases (show j = 0 ∨ j = 1 ∨ j = 2 ∨ j = 3 by omega) with rfl | rfl | rfl | rfl
      · exact e1.1
      · exact e1.2
      · exact q3
      · exact q4
    · rw [hg i hi]; exact (hf i hi).2.1
    · rw [hg i hi]; exact (hf i hi).2.2.row
theorem TOwn.drawn {B X : Nat} {u : World} {v : Value} {n : Nat} (h : TOwn B X u v n) : TDrawn B u v n := by
  obtain ⟨cs, V, S, h⟩ := h
  exact TyW.drawn ⟨h.own, h.ce, h.iv, h.sv⟩
theorem own_noneI (B : Nat) (u : World) : Own .i64 3 B u none 0 0 [] := ⟨World.ownsRow_nil _ _ _ _, fun n hn => by cases hn⟩
theorem own_noneS (B : Nat) (u : World) : OwnS B u ⟨none, 0, 0⟩ [] := ⟨World.ownsRow_nil _ _ _ _, fun n hn => by cases hn⟩
structure DSt (w : World) (c : Nat) (v : Value) (n : Nat) (u : World) : Prop where
  t : TOwn w.heap.size u.heap.size u v n
  r : RdOk u c
  o : OnlyL c w u
theorem DSt.next {w : World} {c : Nat} {v : Value} {n : Nat} {u u' : World} (h : DSt w c v n u) (hc : c < w.heap.size) (hr : RdOk u' c) (ho : OnlyL c u u') : DSt w c v n u' :=
  ⟨(h.t.only ho hc).up ho.size, hr, h.o.trans ho⟩
theorem DSt.alloc {w : World} {c : Nat} {v : Value} {n : Nat} {u : World} (h : DSt w c v n u) (hc : c < w.heap.size) (o : Obj) : DSt w c v n (u.alloc o) :=
  h.next hc (h.r.alloc o) (OnlyL.of_below (below_alloc u o))
theorem DSt.drewN {w : World} {c : Nat} {v : Value} {n : Nat} {u : World} (h : DSt w c v n u) (hc : c < w.heap.size) (m : Nat) : DSt w c v n (u.drewN m) :=
  h.next hc (h.r.drewN m) (OnlyL.of_below (below_drewN (Below.refl _ _) m))
theorem RdOk.grown {c : Nat} {u u' : World} {row : Option Nat} (h : RdOk u c) (hg : u.grownBy u' row) (hr : ∀ k, row = some k → c < k) : RdOk u' c := by
  have hlt := h.lt
  obtain ⟨a, len, cap, p, hrow, h1, h2, h3⟩ := h
  have hne : ∀ b, b ≤ c → some b ≠ row := fun b hb e => by have := hr b e.symm; omega
  refine ⟨a, len, cap, p, (hg.block c hlt (hne c (Nat.le_refl _))).trans hrow, h1, h2, ?_⟩
  rcases h3 with h3 | ⟨b, off, ha, hbc, hc⟩
  · exact .inl h3
  · refine .inr ⟨b, off, ha, hbc, fun i hi => ?_⟩
    obtain ⟨v, hv, hcell⟩ := hc i hi
    exact ⟨v, hv, hg.cell hcell (hne b (by omega))⟩
theorem DSt.snoc {w : World} {c X : Nat} {v v' : Value} {n : Nat} {k m : Int} {x y : SV} {zs : List Int} {ss : List ByteArray} {u u' : World} (hc : c < w.heap.size) (hr : RdOk u c) (ho : OnlyL c w u)
    (h : ∃ cs V S, TyL w.heap.size X u v n cs V S ∧ u'.ownsRow w.heap.size 31 4 v' (n + 1) (cs ++ [.int .i64 k, .int .i64 m, x.val, y.val])) (hg : u.grownBy u' v.ownBlock)
    (hx : Own .i64 3 w.heap.size u x.a x.len x.cap zs) (hy : OwnS w.heap.size u y ss) (hX : X ≤ u.heap.size) (hxb : ∀ b, x.blk = some b → X ≤ b) (hyb : ∀ b, y.blk = some b → X ≤ b) (hsh : x.len ≤ 5000 ∧ y.len ≤ 5000 := by constructor <;> simp) : DSt w c v' (n + 1) u' := by
  have hblk : ∀ q, v.ownBlock = some q → c < q := fun q e => by
    obtain ⟨cs, V, S, h1, _⟩ := h
    have := (h1.own.lt q e).1
    omega
  refine ⟨TOwn.snoc h hg hx hy (Nat.le_trans hX hg.size) (fun b hb => ⟨hxb b hb, ?_⟩) (fun b hb => ⟨hyb b hb, ?_⟩) hsh, hr.grown hg hblk, ?_⟩
  · exact Nat.lt_of_lt_of_le (hx.1.lt b hb).2 hg.size
  · exact Nat.lt_of_lt_of_le (hy.1.lt b hb).2 hg.size
  · refine ⟨hg.os.trans ho.os, hg.tape.trans ho.tape, hg.output.trans ho.output, Nat.le_trans ho.size hg.size, fun b hb hne => (hg.block b (Nat.lt_of_lt_of_le hb ho.size) (fun e => ?_)).trans (ho.block b hb hne)⟩
    obtain ⟨cs, V, S, h1, _⟩ := h
    have := (h1.own.lt b e.symm).1
    omega
def Nms (nb : Nat) (u : World) : Prop := u.heap[nb]? = some (.cells #[.string ⟨#[97]⟩, .string ⟨#[98]⟩, .string ⟨#[99, 99]⟩, .string ⟨#[100]⟩] 9 (0, 0))
structure ESt (w : World) (c nb : Nat) (v : Value) (n : Nat) (u : World) : Prop where
  d : DSt w c v n u
  l : w.heap.size ≤ nb
  m : Nms nb u
theorem Nms.only {c nb : Nat} {u u' : World} (h : Nms nb u) (ho : OnlyL c u u') (hc : c ≠ nb) : Nms nb u' := (ho.block nb (Array.getElem?_eq_some_iff.1 h).1 (fun e => hc e.symm)).trans h
theorem Nms.grown {nb : Nat} {u u' : World} {B k n : Nat} {v : Value} {xs : List Value} {e : TypeId} (h : Nms nb u) (ho : u.ownsRow B e k v n xs) (he : e ≠ 9) (hg : u.grownBy u' v.ownBlock) : Nms nb u' := by
  refine (hg.block nb (Array.getElem?_eq_some_iff.1 h).1 (fun q => ?_)).trans h
  rcases ho.2 with ⟨rfl, _⟩ | ⟨g, cap, cur, rfl, _, hh, _⟩
  · simp [Value.ownBlock] at q
  · simp only [Value.ownBlock, Option.some.injEq] at q
    subst q
    unfold Nms at h
    rw [h] at hh
    simp only [Option.some.injEq, Obj.cells.injEq] at hh
    exact he hh.2.1.symm
theorem ESt.next {w : World} {c nb : Nat} {v : Value} {n : Nat} {u u' : World} (h : ESt w c nb v n u) (hc : c < w.heap.size) (hr : RdOk u' c) (ho : OnlyL c u u') : ESt w c nb v n u' :=
  ⟨h.d.next hc hr ho, h.l, h.m.only ho (by have := h.l; omega)⟩
theorem ESt.alloc {w : World} {c nb : Nat} {v : Value} {n : Nat} {u : World} (h : ESt w c nb v n u) (hc : c < w.heap.size) (o : Obj) : ESt w c nb v n (u.alloc o) :=
  h.next hc (h.d.r.alloc o) (OnlyL.of_below (below_alloc u o))
theorem ESt.snoc {w : World} {c nb X : Nat} {v v' : Value} {n : Nat} {k m : Int} {x y : SV} {zs : List Int} {ss : List ByteArray} {u u' : World} (hc : c < w.heap.size) (hu : ESt w c nb v n u)
    (h : ∃ cs V S, TyL w.heap.size X u v n cs V S ∧ u'.ownsRow w.heap.size 31 4 v' (n + 1) (cs ++ [.int .i64 k, .int .i64 m, x.val, y.val])) (hg : u.grownBy u' v.ownBlock)
    (hx : Own .i64 3 w.heap.size u x.a x.len x.cap zs) (hy : OwnS w.heap.size u y ss) (hX : X ≤ u.heap.size) (hxb : ∀ b, x.blk = some b → X ≤ b) (hyb : ∀ b, y.blk = some b → X ≤ b) (hsh : x.len ≤ 5000 ∧ y.len ≤ 5000 := by constructor <;> simp) : ESt w c nb v' (n + 1) u' :=
  ⟨DSt.snoc hc hu.d.r hu.d.o h hg hx hy hX hxb hyb hsh, hu.l, by obtain ⟨cs, V, S, h1, _⟩ := h; exact hu.m.grown h1.own (by decide) hg⟩
theorem own_one {B g : Nat} {u : World} {p : Int} (h : u.heap[g]? = some (.cells #[.int .i64 p] 3 (0, 0))) (hb : B ≤ g) (hp : (Lit.int .i64 p).wf = true) : Own .i64 3 B u (some ⟨g, 0, none⟩) 1 1 [p] :=
  ⟨⟨rfl, .inr ⟨g, 1, _, rfl, hb, h, Nat.le_refl _, by unfold maxLen; decide, rfl, rfl⟩⟩, fun n hn => by simp at hn; rw [hn]; exact hp⟩
theorem small_wf {x : Int} (h : -1099511627776 ≤ x ∧ x ≤ 1099511627776) : (Lit.int .i64 x).wf = true := by
  simp [Lit.wf, IntKind.min, IntKind.max, IntKind.signed, IntKind.bits]
  omega
end Go.Proofs.YtafcnijfoejboaaGreatDoor.W
namespace Go.Proofs.YtafcnijfoejboaaGreatDoor.W
open Go.RowKit
theorem TOwn.grown {B Y n : Nat} {u u' : World} {v : Value} {row : Option Nat} (h : TOwn B Y u v n) (hg : u.grownBy u' row) (hr : ∀ q, row = some q → Y ≤ q) (gv : ∀ q, v.ownBlock = some q → q < Y) : TOwn B Y u' v n := by
  obtain ⟨cs, V, S, h⟩ := h
  have hk : ∀ {e : TypeId} {k m : Nat} {x : Value} {xs : List Value}, u.ownsRow B e k x m xs → (∀ q, x.ownBlock = some q → q < Y) → u'.ownsRow B e k x m xs := fun {e k m x xs} q hq => q.kept hg (by
    cases hb : x.ownBlock with
    | none => exact .inl rfl
    | some b => exact .inr (fun e => by have := hr b e.symm; have := hq b hb; omega))
  refine ⟨cs, V, S, hk h.own gv, h.ce, fun i hi => ?_, fun i hi => ?_, h.bv, h.bs, h.dv, h.ds, h.sh⟩
  · obtain ⟨zs, q⟩ := h.iv i hi
    exact ⟨zs, hk q.1 (h.bv i hi), q.2⟩
  · obtain ⟨ss, q⟩ := h.sv i hi
    exact ⟨ss, hk q.1 (h.bs i hi), q.2⟩
structure BSt (w : World) (c nb Y bx : Nat) (v : Value) (n : Nat) (K N : Int) (x y : SV) (u : World) : Prop where
  t : TOwn w.heap.size Y u v n
  r : RdOk u c
  o : OnlyL c w u
  l : w.heap.size ≤ nb
  m : Nms nb u
  hY : w.heap.size ≤ Y ∧ Y ≤ bx
  gv : ∀ q, v.ownBlock = some q → q < Y
  b : u.heap[bx]? = some (.cells #[.int .i64 K, .int .i64 N, x.val, y.val] 31 (0, 0))
  xi : ∃ zs, Own .i64 3 Y u x.a x.len x.cap zs
  yi : ∃ ss, OwnS Y u y ss
theorem BSt.next {w : World} {c nb Y bx : Nat} {v : Value} {n : Nat} {K N : Int} {x y : SV} {u u' : World} (h : BSt w c nb Y bx v n K N x y u) (hc : c < w.heap.size) (hr : RdOk u' c) (ho : OnlyL c u u') : BSt w c nb Y bx v n K N x y u' := by
  have hY := h.hY
  have hl := h.l
  refine ⟨h.t.only ho hc, hr, h.o.trans ho, hl, h.m.only ho (by omega), hY, h.gv, (ho.block bx (Array.getElem?_eq_some_iff.1 h.b).1 (by omega)).trans h.b, ?_, ?_⟩
  · obtain ⟨zs, q⟩ := h.xi
    exact ⟨zs, own_onlyL q.1 ho (by omega), q.2⟩
  · obtain ⟨zs, q⟩ := h.yi
    exact ⟨zs, own_onlyL q.1 ho (by omega), q.2⟩
theorem BSt.alloc {w : World} {c nb Y bx : Nat} {v : Value} {n : Nat} {K N : Int} {x y : SV} {u : World} (h : BSt w c nb Y bx v n K N x y u) (hc : c < w.heap.size) (o : Obj) : BSt w c nb Y bx v n K N x y (u.alloc o) :=
  h.next hc (h.r.alloc o) (OnlyL.of_below (below_alloc u o))
theorem OnlyL.grown {c B : Nat} {w u u' : World} {row : Option Nat} (h : OnlyL c w u) (hg : u.grownBy u' row) (hr : ∀ q, row = some q → w.heap.size ≤ q) : OnlyL c w u' :=
  ⟨hg.os.trans h.os, hg.tape.trans h.tape, hg.output.trans h.output, Nat.le_trans h.size hg.size, fun b hb hne => (hg.block b (Nat.lt_of_lt_of_le hb h.size) (fun e => by have := hr b e.symm; omega)).trans (h.block b hb hne)⟩
theorem blk_ge {u : World} {B e k n : Nat} {x : Value} {xs : List Value} (h : u.ownsRow B e k x n xs) : ∀ q, x.ownBlock = some q → B ≤ q := fun q hq => (h.lt q hq).1
theorem box_ne {u : World} {B k n bx : Nat} {e t : TypeId} {x : Value} {xs : List Value} {cs : Array Value} (h : u.ownsRow B e k x n xs) (hb : u.heap[bx]? = some (.cells cs t (0, 0))) (hne : e ≠ t) : some bx ≠ x.ownBlock := fun q => by
  rcases h.2 with ⟨rfl, _⟩ | ⟨g, cap, cur, rfl, _, hh, _⟩
  · simp [Value.ownBlock] at q
  · simp only [Value.ownBlock, Option.some.injEq] at q
    subst q
    rw [hb] at hh
    simp only [Option.some.injEq, Obj.cells.injEq] at hh
    exact hne hh.2.1.symm
theorem row_setBox {u : World} {B k n bx j : Nat} {e : TypeId} {x y : Value} {xs : List Value} (h : u.ownsRow B e k x n xs) (hne : some bx ≠ x.ownBlock) : (u.setCell ⟨bx, j, none⟩ y).ownsRow B e k x n xs := by
  refine ⟨h.1, ?_⟩
  rcases h.2 with q | ⟨g, cap, cur, rfl, hb, hg, r⟩
  · exact .inl q
  · exact .inr ⟨g, cap, cur, rfl, hb, (Below.heap_setCell u ⟨bx, j, none⟩ y g (fun e => hne (by simp only [Value.ownBlock, Option.some.injEq]; exact e.symm))).trans hg, r⟩
theorem BSt.putI {w : World} {c nb Y bx : Nat} {v : Value} {n : Nat} {K N : Int} {x y x' : SV} {u u' : World} {zs : List Int} {z : Int} (h : BSt w c nb Y bx v n K N x y u) (hc : c < w.heap.size) (hx : Own .i64 3 Y u x.a x.len x.cap zs) (hwf : (Lit.int .i64 z).wf = true) (ho : u'.ownsRow Y 3 1 x'.val x'.len ((zs ++ [z]).map (Value.int .i64))) (hg : u.grownBy u' x.val.ownBlock) : BSt w c nb Y bx v n K N x' y (u'.setCell ⟨bx, 2, none⟩ x'.val) := by
  have hY := h.hY
  have hl := h.l
  have hge : ∀ q, x.val.ownBlock = some q → Y ≤ q := blk_ge hx.1
  have hbne := box_ne hx.1 h.b (by decide)
  have hbx : u'.heap[bx]? = some (.cells #[.int .i64 K, .int .i64 N, x.val, y.val] 31 (0, 0)) := (hg.block bx (Array.getElem?_eq_some_iff.1 h.b).1 hbne).trans h.b
  have t1 := h.t.grown hg hge h.gv
  have r1 := h.r.grown hg (fun q e => by have := hge q e; omega)
  have o1 : OnlyL c w u' := OnlyL.grown (B := 0) h.o hg (fun q e => by have := hge q e; omega)
  have m1 := h.m.grown hx.1 (by decide) hg
  have hset : ∀ b, b ≠ bx → (u'.setCell ⟨bx, 2, none⟩ x'.val).heap[b]? = u'.heap[b]? := fun b hb => Below.heap_setCell u' ⟨bx, 2, none⟩ x'.val b hb
  have hgs : u'.grownBy (u'.setCell ⟨bx, 2, none⟩ x'.val) (some bx) := by
    have q := (Below.refl 0 u').setCell (p := ⟨bx, 2, none⟩) (Nat.zero_le _) x'.val
    exact ⟨q.os, q.tape, q.output, q.size, fun k _ hk => hset k (fun e => hk (by rw [e]))⟩
  obtain ⟨ss, hs⟩ := h.yi
  refine ⟨t1.grown hgs (fun q e => by injection e with e; omega) h.gv, r1.grown hgs (fun q e => by injection e with e; omega), OnlyL.grown (B := 0) o1 hgs (fun q e => by injection e with e; omega), hl, ?_, hY, h.gv, ?_, ⟨zs ++ [z], row_setBox ho (box_ne ho hbx (by decide)), ?_⟩, ⟨ss, row_setBox (hs.1.kept hg (own_apart hs.1 hx.1 (by decide))) (box_ne (hs.1.kept hg (own_apart hs.1 hx.1 (by decide))) hbx (by decide)), hs.2⟩⟩
  · refine (hset nb (fun e => ?_)).trans m1
    unfold Nms at m1
    rw [e, hbx] at m1
    simp only [Option.some.injEq, Obj.cells.injEq] at m1
    exact absurd m1.2.1 (by decide)
  · rw [setCell_eq_setRow u' _ 2 _ _ _ _ hbx, setRow_heap u' _ _ _ _ _ hbx]
    rfl
  · intro a ha
    rw [List.mem_append] at ha
    rcases ha with ha | ha
    · exact hx.2 a ha
    · have : a = z := by simpa using ha
      rw [this]; exact hwf
theorem BSt.putS {w : World} {c nb Y bx : Nat} {v : Value} {n : Nat} {K N : Int} {x y y' : SV} {u u' : World} {ss : List ByteArray} {z : ByteArray} (h : BSt w c nb Y bx v n K N x y u) (hc : c < w.heap.size) (hx : OwnS Y u y ss) (hnn : some nb ≠ y.val.ownBlock) (hwf : z.size ≤ 1048576) (ho : u'.ownsRow Y 9 1 y'.val y'.len ((ss ++ [z]).map Value.string)) (hg : u.grownBy u' y.val.ownBlock) : BSt w c nb Y bx v n K N x y' (u'.setCell ⟨bx, 3, none⟩ y'.val) := by
  have hY := h.hY
  have hl := h.l
  have hge : ∀ q, y.val.ownBlock = some q → Y ≤ q := blk_ge hx.1
  have hbne := box_ne hx.1 h.b (by decide)
  have hbx : u'.heap[bx]? = some (.cells #[.int .i64 K, .int .i64 N, x.val, y.val] 31 (0, 0)) := (hg.block bx (Array.getElem?_eq_some_iff.1 h.b).1 hbne).trans h.b
  have t1 := h.t.grown hg hge h.gv
  have r1 := h.r.grown hg (fun q e => by have := hge q e; omega)
  have o1 : OnlyL c w u' := OnlyL.grown (B := 0) h.o hg (fun q e => by have := hge q e; omega)
  have m1 : Nms nb u' := (hg.block nb (Array.getElem?_eq_some_iff.1 h.m).1 hnn).trans h.m
  have hset : ∀ b, b ≠ bx → (u'.setCell ⟨bx, 3, none⟩ y'.val).heap[b]? = u'.heap[b]? := fun b hb => Below.heap_setCell u' ⟨bx, 3, none⟩ y'.val b hb
  have hgs : u'.grownBy (u'.setCell ⟨bx, 3, none⟩ y'.val) (some bx) := by
    have q := (Below.refl 0 u').setCell (p := ⟨bx, 3, none⟩) (Nat.zero_le _) y'.val
    exact ⟨q.os, q.tape, q.output, q.size, fun k _ hk => hset k (fun e => hk (by rw [e]))⟩
  obtain ⟨zs, hs⟩ := h.xi
  refine ⟨t1.grown hgs (fun q e => by injection e with e; omega) h.gv, r1.grown hgs (fun q e => by injection e with e; omega), OnlyL.grown (B := 0) o1 hgs (fun q e => by injection e with e; omega), hl, ?_, hY, h.gv, ?_, ⟨zs, row_setBox (hs.1.kept hg (own_apart hs.1 hx.1 (by decide))) (box_ne (hs.1.kept hg (own_apart hs.1 hx.1 (by decide))) hbx (by decide)), hs.2⟩, ⟨ss ++ [z], row_setBox ho (box_ne ho hbx (by decide)), ?_⟩⟩
  · refine (hset nb (fun e => ?_)).trans m1
    unfold Nms at m1
    rw [e, hbx] at m1
    simp only [Option.some.injEq, Obj.cells.injEq] at m1
    exact absurd m1.2.1 (by decide)
  · rw [setCell_eq_setRow u' _ 3 _ _ _ _ hbx, setRow_heap u' _ _ _ _ _ hbx]
    rfl
  · intro a ha
    rw [List.mem_append] at ha
    rcases ha with ha | ha
    · exact hx.2 a ha
    · have : a = z := by simpa using ha
      rw [this]; exact hwf
theorem BSt.est {w : World} {c nb Y bx : Nat} {v : Value} {n : Nat} {K N : Int} {x y : SV} {u : World} (h : BSt w c nb Y bx v n K N x y u) : ESt w c nb v n u :=
  ⟨⟨h.t.up (by have := (Array.getElem?_eq_some_iff.1 h.b).1; have := h.hY; omega), h.r, h.o⟩, h.l, h.m⟩
theorem BSt.close {w : World} {c nb Y bx : Nat} {v v' : Value} {n : Nat} {K N : Int} {x y : SV} {u u' : World} (h : BSt w c nb Y bx v n K N x y u) (hc : c < w.heap.size)
    (ht : ∃ cs V S, TyL w.heap.size Y u v n cs V S ∧ u'.ownsRow w.heap.size 31 4 v' (n + 1) (cs ++ [.int .i64 K, .int .i64 N, x.val, y.val])) (hg : u.grownBy u' v.ownBlock) (hsh : x.len ≤ 5000 ∧ y.len ≤ 5000) : ESt w c nb v' (n + 1) u' := by
  obtain ⟨zs, hx⟩ := h.xi
  obtain ⟨ss, hs⟩ := h.yi
  have hY := h.hY
  have hlow : ∀ {e : TypeId} {k m : Nat} {a : Value} {xs : List Value}, u.ownsRow Y e k a m xs → u.ownsRow w.heap.size e k a m xs := fun {e k m a xs} q => by
    refine ⟨q.1, ?_⟩
    rcases q.2 with r | ⟨g, cap, cur, e, hb, r⟩
    · exact .inl r
    · exact .inr ⟨g, cap, cur, e, Nat.le_trans hY.1 hb, r⟩
  exact ESt.snoc hc h.est ht hg (⟨hlow hx.1, hx.2⟩ : Own .i64 3 w.heap.size u x.a x.len x.cap zs) ⟨hlow hs.1, hs.2⟩ (by have := (Array.getElem?_eq_some_iff.1 h.b).1; omega) (blk_ge hx.1) (blk_ge hs.1) hsh
end Go.Proofs.YtafcnijfoejboaaGreatDoor.W
namespace Go.Proofs.YtafcnijfoejboaaGreatDoor.W
open Go.RowKit
theorem int_new1' (w : World) (A : Value) (j : Nat) (u : Value) (hj : [A][j]? = some u) : (w.alloc (.cells #[A] 3)).cell? ((⟨w.heap.size, 0, none⟩ : Addr).add j) = some u := by
  rcases j with _ | j
  · cases hj
    exact cell_of_row _ w.heap.size 0 _ 3 (0, 0) (heap_alloc_new w _)
  · simp at hj
theorem own_slice' {w : World} {base e : Nat} {v : Value} {n : Nat} {xs : List Value} (h : w.ownsRow base e 1 v (n + 1) xs) : ∃ g c, v = .slice (some ⟨g, 0, none⟩) (n + 1) c := by
  rcases h.2 with ⟨_, q⟩ | ⟨g, cap, cur, q, _⟩
  · cases q
  · exact ⟨g, cap, q⟩
theorem step_append_own {P : Program} {ops : Array Oper} {o : Oper} {a : Act} {w : World} {K : Act → World → Prop} {Q : Exit → Act → World → Prop} {E : Prop} (hgd : o.guard = none) (s x : Operand) (t : TypeId)
    (ho : o.op = .call { callee := .builtin .append, args := #[s, x], argTypes := #[t, t] })
    (base : Nat) (e : TypeId) (i : TypeInfo) (z : Value) (size bytes : Nat) (ht : P.underlying t = some (.slice e)) (hi : P.info? e = some i) (hz : i.zero = some z)
    (hsize : i.size = size) (hby : i.bytes = bytes) (hzs : z.cells.size = size) (hsz : 0 < size)
    (v : Value) (n : Nat) (xs : List Value) (hs : a.eval s = v) (hown : w.ownsRow base e size v n xs)
    (ad : Addr) (m c : Nat) (news : List Value) (hx : a.eval x = .slice (some ad) m c) (hl : news.length = m * size) (hnews : ∀ j u, news[j]? = some u → w.cell? (ad.add j) = some u) (h1 : ∀ u ∈ news, u.oneCell' = true)
    (h63 : n + m ≤ maxLen) (hbytes : (n + m) * bytes ≤ 140737488355328) (hbase : base ≤ w.heap.size)
    (h : ∀ v' w', w'.ownsRow base e size v' (n + m) (xs ++ news) → w.grownBy w' v.ownBlock → K (a.put o.dst v') w') : if Region.wanted o (yielded ops a.tmps) = true then Oper.wp P o a w K Q else E := by
  have hw : Region.wanted o (yielded ops a.tmps) = true := by simp [Region.wanted, hgd]
  rw [if_pos hw]
  exact wp_append_own w s x t ho base e i z size bytes ht hi hz hsize hby hzs hsz v n xs hs hown ad m c news hx hl hnews h1 h63 hbytes hbase (fun v' w' q1 q2 _ => h v' w' q1 q2)
theorem str_new1 (w : World) (A : Value) (j : Nat) (u : Value) (hj : [A][j]? = some u) : (w.alloc (.cells #[A] 9)).cell? ((⟨w.heap.size, 0, none⟩ : Addr).add j) = some u := by
  rcases j with _ | j
  · cases hj
    exact cell_of_row _ w.heap.size 0 _ 9 (0, 0) (heap_alloc_new w _)
  · simp at hj
end Go.Proofs.YtafcnijfoejboaaGreatDoor.W
namespace Go.Proofs.YtafcnijfoejboaaGreatDoor.W
open Go.RowKit
theorem own_put {u : World} {B g n cp : Nat} {e : TypeId} {k : Nat} {cs : List Value} (h : u.ownsRow B e k (.slice (some ⟨g, 0, none⟩) n cp) n cs) {q : Nat} (hq : q < n * k) (x : Value) : (u.setCell ⟨g, q, none⟩ x).ownsRow B e k (.slice (some ⟨g, 0, none⟩) n cp) n (cs.set q x) := by
  refine ⟨by rw [List.length_set]; exact h.1, ?_⟩
  rcases h.2 with ⟨r, _⟩ | ⟨g', cap, cur, r, hb, hg, h1, h2, h3, h4⟩
  · cases r
  · simp only [Value.slice.injEq, Option.some.injEq, Addr.mk.injEq, and_true, true_and] at r
    obtain ⟨rfl, rfl⟩ := r
    refine .inr ⟨g, cp, cur.setIfInBounds q x, rfl, hb, ?_, h1, h2, by rw [Array.size_setIfInBounds]; exact h3, ?_⟩
    · rw [setCell_eq_setRow u _ q _ _ _ _ hg, setRow_heap u _ _ _ _ _ hg]
    · rw [Array.toList_setIfInBounds, List.take_set, h4]
theorem TyL.setNum {B X g n cp : Nat} {u : World} {cs : List Value} {V S : Nat → SV} (h : TyL B X u (.slice (some ⟨g, 0, none⟩) n cp) n cs V S) {p j : Nat} (hp : p < n) (hj : j < 2) (x : Int) : TyL B X (u.setCell ⟨g, p * 4 + j, none⟩ (.int .i64 x)) (.slice (some ⟨g, 0, none⟩) n cp) n (cs.set (p * 4 + j) (.int .i64 x)) V S := by
  have hl : cs.length = n * 4 := h.own.1
  obtain ⟨cur, hg⟩ : ∃ cur, u.heap[g]? = some (.cells cur 31 (0, 0)) := by
    rcases h.own.2 with ⟨r, _⟩ | ⟨g', cap, cur, r, hb, hg, _⟩
    · cases r
    · simp only [Value.slice.injEq, Option.some.injEq, Addr.mk.injEq, and_true, true_and] at r
      obtain ⟨rfl, rfl⟩ := r
      exact ⟨cur, hg⟩
  refine ⟨own_put h.own (by omega) _, fun i hi => ?_, fun i hi => ?_, fun i hi => ?_, h.bv, h.bs, h.dv, h.ds, h.sh⟩
  · obtain ⟨k, m, q1, q2, q3, q4⟩ := h.ce i hi
    by_cases e : i = p
    · subst e
      rcases (show j = 0 ∨ j = 1 by omega) with rfl | rfl
      · refine ⟨x, m, ?_, ?_, ?_, ?_⟩
        · rw [Nat.add_zero, List.getElem?_set_self (by omega)]
        · rw [List.getElem?_set_ne (by omega)]; exact q2
        · rw [List.getElem?_set_ne (by omega)]; exact q3
        · rw [List.getElem?_set_ne (by omega)]; exact q4
      · refine ⟨k, x, ?_, ?_, ?_, ?_⟩
        · rw [List.getElem?_set_ne (by omega)]; exact q1
        · rw [List.getElem?_set_self (by omega)]
        · rw [List.getElem?_set_ne (by omega)]; exact q3
        · rw [List.getElem?_set_ne (by omega)]; exact q4
    · refine ⟨k, m, ?_, ?_, ?_, ?_⟩ <;> (rw [List.getElem?_set_ne (by omega)]; assumption)
  · obtain ⟨zs, q⟩ := h.iv i hi
    exact ⟨zs, row_setBox q.1 (box_ne q.1 hg (by decide)), q.2⟩
  · obtain ⟨ss, q⟩ := h.sv i hi
    exact ⟨ss, row_setBox q.1 (box_ne q.1 hg (by decide)), q.2⟩
theorem TyL.setOf {B X n b l c : Nat} {u : World} {v : Value} {cs : List Value} {V S : Nat → SV} (h : TyL B X u v n cs V S) {p : Nat} (hp : p < n) (hV : V p = ⟨some ⟨b, 0, none⟩, l, c⟩) (hl : 0 < l) (x : Int) (hwf : (Lit.int .i64 x).wf = true) : TyL B X (u.setCell ⟨b, 0, none⟩ (.int .i64 x)) v n cs V S := by
  obtain ⟨cur, hg⟩ : ∃ cur, u.heap[b]? = some (.cells cur 3 (0, 0)) := by
    obtain ⟨zs, q⟩ := h.iv p hp
    rw [hV] at q
    rcases q.1.2 with ⟨r, _⟩ | ⟨g', cap, cur, r, hb, hg, _⟩
    · cases r
    · simp only [SV.val, Value.slice.injEq, Option.some.injEq, Addr.mk.injEq, and_true, true_and] at r
      obtain ⟨rfl, rfl⟩ := r
      exact ⟨cur, hg⟩
  refine ⟨row_setBox h.own (box_ne h.own hg (by decide)), h.ce, fun i hi => ?_, fun i hi => ?_, h.bv, h.bs, h.dv, h.ds, h.sh⟩
  · obtain ⟨zs, q⟩ := h.iv i hi
    by_cases e : i = p
    · subst e
      rw [hV] at q ⊢
      refine ⟨zs.set 0 x, ?_, fun y hy => ?_⟩
      · have r := own_put q.1 (q := 0) (by show 0 < l * 1; omega) (.int .i64 x)
        rw [List.map_set]
        exact r
      · rcases List.mem_or_eq_of_mem_set hy with r | r
        · exact q.2 y r
        · rw [r]; exact hwf
    · refine ⟨zs, row_setBox q.1 (fun c => ?_), q.2⟩
      have hb : (V p).blk = some b := by rw [hV]; rfl
      have := h.dv p i hp hi (fun r => e r.symm) (by rw [hb]; exact c)
      rw [hb] at this
      cases this
  · obtain ⟨ss, q⟩ := h.sv i hi
    exact ⟨ss, row_setBox q.1 (box_ne q.1 hg (by decide)), q.2⟩
theorem TyL.setName {B X n b l c : Nat} {u : World} {v : Value} {cs : List Value} {V S : Nat → SV} (h : TyL B X u v n cs V S) {p : Nat} (hp : p < n) (hV : S p = ⟨some ⟨b, 0, none⟩, l, c⟩) (hl : 0 < l) (x : ByteArray) (hwf : x.size ≤ 1048576) : TyL B X (u.setCell ⟨b, 0, none⟩ (.string x)) v n cs V S := by
  obtain ⟨cur, hg⟩ : ∃ cur, u.heap[b]? = some (.cells cur 9 (0, 0)) := by
    obtain ⟨zs, q⟩ := h.sv p hp
    rw [hV] at q
    rcases q.1.2 with ⟨r, _⟩ | ⟨g', cap, cur, r, hb, hg, _⟩
    · cases r
    · simp only [SV.val, Value.slice.injEq, Option.some.injEq, Addr.mk.injEq, and_true, true_and] at r
      obtain ⟨rfl, rfl⟩ := r
      exact ⟨cur, hg⟩
  refine ⟨row_setBox h.own (box_ne h.own hg (by decide)), h.ce, fun i hi => ?_, fun i hi => ?_, h.bv, h.bs, h.dv, h.ds, h.sh⟩
  · obtain ⟨ss, q⟩ := h.iv i hi
    exact ⟨ss, row_setBox q.1 (box_ne q.1 hg (by decide)), q.2⟩
  · obtain ⟨zs, q⟩ := h.sv i hi
    by_cases e : i = p
    · subst e
      rw [hV] at q ⊢
      refine ⟨zs.set 0 x, ?_, fun y hy => ?_⟩
      · have r := own_put q.1 (q := 0) (by show 0 < l * 1; omega) (.string x)
        rw [List.map_set]
        exact r
      · rcases List.mem_or_eq_of_mem_set hy with r | r
        · exact q.2 y r
        · rw [r]; exact hwf
    · refine ⟨zs, row_setBox q.1 (fun c => ?_), q.2⟩
      have hb : (S p).blk = some b := by rw [hV]; rfl
      have := h.ds p i hp hi (fun r => e r.symm) (by rw [hb]; exact c)
      rw [hb] at this
      cases this
theorem TyL.growOf {B X g n cp : Nat} {u u' : World} {cs : List Value} {V S : Nat → SV} {x y : SV} {zs ws : List Int} (h : TyL B X u (.slice (some ⟨g, 0, none⟩) n cp) n cs V S) {p : Nat} (hp : p < n) (hV : V p = x) (hx : Own .i64 3 B u x.a x.len x.cap zs) (hy : Own .i64 3 B u' y.a y.len y.cap ws) (hgr : u.grownBy u' x.val.ownBlock) : TDrawn B (u'.setCell ⟨g, p * 4 + 2, none⟩ y.val) (.slice (some ⟨g, 0, none⟩) n cp) n := by
  have hl : cs.length = n * 4 := h.own.1
  have ho' := h.own.kept hgr (own_apart h.own hx.1 (by decide))
  obtain ⟨cur, hg'⟩ : ∃ cur, u'.heap[g]? = some (.cells cur 31 (0, 0)) := by
    rcases ho'.2 with ⟨r, _⟩ | ⟨g', cap, cur, r, hb, hg, _⟩
    · cases r
    · simp only [Value.slice.injEq, Option.some.injEq, Addr.mk.injEq, and_true, true_and] at r
      obtain ⟨rfl, rfl⟩ := r
      exact ⟨cur, hg⟩
  refine TyW.drawn (cs := cs.set (p * 4 + 2) y.val) (V := updV V p y) (S := S) ⟨own_put ho' (by omega) _, fun i hi => ?_, fun i hi => ?_, fun i hi => ?_⟩
  · obtain ⟨k, m, q1, q2, q3, q4⟩ := h.ce i hi
    by_cases e : i = p
    · subst e
      rw [updV_same]
      refine ⟨k, m, ?_, ?_, ?_, ?_⟩
      · rw [List.getElem?_set_ne (by omega)]; exact q1
      · rw [List.getElem?_set_ne (by omega)]; exact q2
      · rw [List.getElem?_set_self (by omega)]
      · rw [List.getElem?_set_ne (by omega)]; exact q4
    · rw [updV_other _ _ e]
      refine ⟨k, m, ?_, ?_, ?_, ?_⟩ <;> (rw [List.getElem?_set_ne (by omega)]; assumption)
  · by_cases e : i = p
    · subst e
      rw [updV_same]
      exact ⟨ws, row_setBox hy.1 (box_ne hy.1 hg' (by decide)), hy.2⟩
    · rw [updV_other _ _ e]
      obtain ⟨zs', q⟩ := h.iv i hi
      have q' := q.1.kept hgr (by
        cases hb : (V i).blk with
        | none => exact .inl hb
        | some b => exact .inr (fun c => by
            have r := h.dv i p hi hp e (by rw [hV]; exact c)
            rw [hb] at r; cases r))
      exact ⟨zs', row_setBox q' (box_ne q' hg' (by decide)), q.2⟩
  · obtain ⟨zs', q⟩ := h.sv i hi
    have q' := q.1.kept hgr (own_apart q.1 hx.1 (by decide))
    exact ⟨zs', row_setBox q' (box_ne q' hg' (by decide)), q.2⟩
theorem TyL.growName {B X g n cp : Nat} {u u' : World} {cs : List Value} {V S : Nat → SV} {x y : SV} {ss ws : List ByteArray} (h : TyL B X u (.slice (some ⟨g, 0, none⟩) n cp) n cs V S) {p : Nat} (hp : p < n) (hV : S p = x) (hx : OwnS B u x ss) (hy : OwnS B u' y ws) (hgr : u.grownBy u' x.val.ownBlock) : TDrawn B (u'.setCell ⟨g, p * 4 + 3, none⟩ y.val) (.slice (some ⟨g, 0, none⟩) n cp) n := by
  have hl : cs.length = n * 4 := h.own.1
  have ho' := h.own.kept hgr (own_apart h.own hx.1 (by decide))
  obtain ⟨cur, hg'⟩ : ∃ cur, u'.heap[g]? = some (.cells cur 31 (0, 0)) := by
    rcases ho'.2 with ⟨r, _⟩ | ⟨g', cap, cur, r, hb, hg, _⟩
    · cases r
    · simp only [Value.slice.injEq, Option.some.injEq, Addr.mk.injEq, and_true, true_and] at r
      obtain ⟨rfl, rfl⟩ := r
      exact ⟨cur, hg⟩
  refine TyW.drawn (cs := cs.set (p * 4 + 3) y.val) (V := V) (S := updV S p y) ⟨own_put ho' (by omega) _, fun i hi => ?_, fun i hi => ?_, fun i hi => ?_⟩
  · obtain ⟨k, m, q1, q2, q3, q4⟩ := h.ce i hi
    by_cases e : i = p
    · subst e
      rw [updV_same]
      refine ⟨k, m, ?_, ?_, ?_, ?_⟩
      · rw [List.getElem?_set_ne (by omega)]; exact q1
      · rw [List.getElem?_set_ne (by omega)]; exact q2
      · rw [List.getElem?_set_ne (by omega)]; exact q3
      · rw [List.getElem?_set_self (by omega)]
    · rw [updV_other _ _ e]
      refine ⟨k, m, ?_, ?_, ?_, ?_⟩ <;> (rw [List.getElem?_set_ne (by omega)]; assumption)
  · obtain ⟨zs', q⟩ := h.iv i hi
    have q' := q.1.kept hgr (own_apart q.1 hx.1 (by decide))
    exact ⟨zs', row_setBox q' (box_ne q' hg' (by decide)), q.2⟩
  · by_cases e : i = p
    · subst e
      rw [updV_same]
      exact ⟨ws, row_setBox hy.1 (box_ne hy.1 hg' (by decide)), hy.2⟩
    · rw [updV_other _ _ e]
      obtain ⟨zs', q⟩ := h.sv i hi
      have q' := q.1.kept hgr (by
        cases hb : (S i).blk with
        | none => exact .inl hb
        | some b => exact .inr (fun c => by
            have r := h.ds i p hi hp e (by rw [hV]; exact c)
            rw [hb] at r; cases r))
      exact ⟨zs', row_setBox q' (box_ne q' hg' (by decide)), q.2⟩
end Go.Proofs.YtafcnijfoejboaaGreatDoor.W
namespace Go.Proofs.YtafcnijfoejboaaGreatDoor.W
open Go.RowKit
theorem set_grown (u : World) (b q : Nat) (x : Value) : u.grownBy (u.setCell ⟨b, q, none⟩ x) (some b) := by
  have r := (Below.refl 0 u).setCell (p := ⟨b, q, none⟩) (Nat.zero_le _) x
  exact ⟨r.os, r.tape, r.output, r.size, fun k _ hk => Below.heap_setCell u ⟨b, q, none⟩ x k (fun e => hk (by rw [e]))⟩
theorem TyL.only {B X c : Nat} {u u' : World} {v : Value} {n : Nat} {cs : List Value} {V S : Nat → SV} (h : TyL B X u v n cs V S) (hb : OnlyL c u u') (hc : c < B) : TyL B X u' v n cs V S := by
  refine ⟨own_onlyL h.own hb hc, h.ce, fun i hi => ?_, fun i hi => ?_, h.bv, h.bs, h.dv, h.ds, h.sh⟩
  · obtain ⟨zs, hz⟩ := h.iv i hi
    exact ⟨zs, own_onlyL hz.1 hb hc, hz.2⟩
  · obtain ⟨ss, hz⟩ := h.sv i hi
    exact ⟨ss, own_onlyL hz.1 hb hc, hz.2⟩
theorem tab5_at (A B C D E : Int) : ∀ j : Nat, j < 5 → ∃ n : Int, (#[.int .i64 A, .int .i64 B, .int .i64 C, .int .i64 D, .int .i64 E] : Array Value)[j]? = some (.int .i64 n) ∧ (n = A ∨ n = B ∨ n = C ∨ n = D ∨ n = E)
  | 0, _ => ⟨_, rfl, .inl rfl⟩ | 1, _ => ⟨_, rfl, .inr (.inl rfl)⟩ | 2, _ => ⟨_, rfl, .inr (.inr (.inl rfl))⟩ | 3, _ => ⟨_, rfl, .inr (.inr (.inr (.inl rfl)))⟩ | 4, _ => ⟨_, rfl, .inr (.inr (.inr (.inr rfl)))⟩
  | n + 5, h => absurd h (by omega)
theorem ESt.turn {w : World} {c nb : Nat} {v : Value} {n : Nat} {u u' : World} {row : Option Nat} (h : ESt w c nb v n u) (hc : c < w.heap.size) (hg : u.grownBy u' row) (hr : ∀ q, row = some q → w.heap.size ≤ q) : RdOk u' c ∧ OnlyL c w u' :=
  ⟨h.d.r.grown hg (fun q e => by have := hr q e; omega), OnlyL.grown (B := 0) h.d.o hg hr⟩
theorem tab4_at (A B C D : ByteArray) : ∀ j : Nat, j < 4 → ∃ n : ByteArray, (#[.string A, .string B, .string C, .string D] : Array Value)[j]? = some (.string n) ∧ (n = A ∨ n = B ∨ n = C ∨ n = D)
  | 0, _ => ⟨_, rfl, .inl rfl⟩ | 1, _ => ⟨_, rfl, .inr (.inl rfl)⟩ | 2, _ => ⟨_, rfl, .inr (.inr (.inl rfl))⟩ | 3, _ => ⟨_, rfl, .inr (.inr (.inr rfl))⟩
  | n + 4, h => absurd h (by omega)
theorem own_some {w : World} {base e : Nat} {a : Option Addr} {n c : Nat} {xs : List Value} (h : w.ownsRow base e 1 (.slice a n c) n xs) (hn : 0 < n) : ∃ g, a = some ⟨g, 0, none⟩ ∧ base ≤ g ∧ g < w.heap.size ∧ (∀ j, w.frozen? ⟨g, j, none⟩ = false) ∧ ∃ z, w.cell? ⟨g, 0, none⟩ = some z := by
  rcases h.2 with ⟨q, _⟩ | ⟨g, cap, cur, q, hb, hg, _⟩
  · cases q; omega
  · cases q
    refine ⟨g, rfl, hb, (Array.getElem?_eq_some_iff.1 hg).1, fun j => frozen_of_row w _ j _ _ hg, ?_⟩
    have hl : xs.length = n * 1 := h.1
    have := h.cellAt 0 (by omega)
    rw [List.getElem?_eq_getElem (by omega)] at this
    exact ⟨_, this⟩
theorem TyL.after {B X g n cp : Nat} {u u' : World} {cs : List Value} {V S : Nat → SV} (h : TyL B X u (.slice (some ⟨g, 0, none⟩) n cp) n cs V S) {e k m : Nat} {v : Value} {xs : List Value} (hx : u.ownsRow B e k v m xs) (he : 31 ≠ e) (hg : u.grownBy u' v.ownBlock) {p : Nat} (hp : p < n) {j : Nat} (hj : j < 4) : (∃ z, u'.cell? ⟨g, p * 4 + j, none⟩ = some z) ∧ ∀ i, u'.frozen? ⟨g, i, none⟩ = false := by
  have ho := h.own.kept hg (own_apart h.own hx he)
  have hl : cs.length = n * 4 := h.own.1
  refine ⟨?_, ?_⟩
  · have := ho.cellAt (p * 4 + j) (by omega)
    rw [List.getElem?_eq_getElem (by omega)] at this
    exact ⟨_, this⟩
  · rcases ho.2 with ⟨r, _⟩ | ⟨g', cap, cur, r, hb, hg, _⟩
    · cases r
    · simp only [Value.slice.injEq, Option.some.injEq, Addr.mk.injEq, and_true, true_and] at r
      obtain ⟨rfl, rfl⟩ := r
      exact fun i => frozen_of_row u' _ i _ _ hg
set_option maxHeartbeats 8000000 in
set_option maxRecDepth 8000 in
theorem l7Spoil_any {w u : World} {c nb g cp n : Nat} (hc : c < w.heap.size) (hn0 : 0 < n) (hnL : (n : Int) ≤ 30) (h : ESt w c nb (.slice (some ⟨g, 0, none⟩) n cp) n u) :
    Calls Tryz.prog 63 #[.pointer (some ⟨c, 0, none⟩), .slice (some ⟨g, 0, none⟩) n cp] u fun e u' => e = .returned (.tuple #[]) ∧ TDrawn w.heap.size u' (.slice (some ⟨g, 0, none⟩) n cp) n ∧ RdOk u' c ∧ OnlyL c w u' := by
  have S2 : Hid (ESt w c nb (.slice (some ⟨g, 0, none⟩) n cp) n u) := h
  have HC : Hid (c < w.heap.size) := hc
  clear h hc
  go_enter Tryz.func63, Tryz.ntmps63
  go_wp2_with fail
  refine (next_onlyL _ c S2.out.d.r).mono ?_
  rintro e u3 ⟨vx, rfl, hvx, r3, o3⟩
  have S3 : Hid (ESt w c nb (.slice (some ⟨g, 0, none⟩) n cp) n u3) := S2.out.next HC.out r3 o3
  clear r3 o3 S2
  go_wp2_with fail
  refine (next_onlyL _ c S3.out.d.r).mono ?_
  rintro e u4 ⟨px, rfl, hpx, r4, o4⟩
  have S4 : Hid (ESt w c nb (.slice (some ⟨g, 0, none⟩) n cp) n u4) := S3.out.next HC.out r4 o4
  clear r4 o4 S3
  have hp9 : ∃ p : Nat, ((px : Int).tmod (n : Int)) = (p : Int) ∧ p < n := ⟨px % n, by rw [Int.tmod_eq_emod_of_nonneg (by omega)]; exact (Int.natCast_emod _ _).symm, Nat.mod_lt _ (by omega)⟩
  obtain ⟨p, hp, hpn⟩ := hp9
  have hpe : ((px : Int) % (n : Int)) = (p : Int) := by rw [← hp, Int.tmod_eq_emod_of_nonneg (by omega)]
  have hpi : (p : Int) < (n : Int) := by omega
  have hnz : ((n : Int) == 0) = false := by rw [beq_eq_false_iff_ne]; omega
  obtain ⟨j, hje, hj5⟩ : ∃ j : Nat, ((vx : Int) % 6) = (j : Int) ∧ j ≤ 5 := ⟨vx % 6, by omega, by omega⟩
  have hj : ((vx : Int).tmod 6) = (j : Int) := by rw [Int.tmod_eq_emod_of_nonneg (by omega)]; exact hje
  obtain ⟨q, hqe, hq42⟩ : ∃ q : Nat, ((vx : Int) / 6) = (q : Int) ∧ q ≤ 42 := ⟨vx / 6, by omega, by omega⟩
  have hq : ((vx : Int).tdiv 6) = (q : Int) := by rw [Int.tdiv_eq_ediv_of_nonneg (by omega)]; exact hqe
  obtain ⟨cs, V, S, hT⟩ := S4.out.d.t
  have hgB : w.heap.size ≤ g ∧ g < u4.heap.size := hT.own.lt g rfl
  obtain ⟨k0, m0, q0, q1, q2, q3⟩ := hT.ce p hpn
  have c0 := (hT.own.cellAt (p * 4) (by omega)).trans q0
  have c1 := (hT.own.cellAt (p * 4 + 1) (by omega)).trans q1
  have c2 := (hT.own.cellAt (p * 4 + 2) (by omega)).trans q2
  have c3 := (hT.own.cellAt (p * 4 + 3) (by omega)).trans q3
  have hfz : ∀ j, u4.frozen? ⟨g, j, none⟩ = false := fun j => by
    rcases hT.own.2 with ⟨r, _⟩ | ⟨g', cap, cur, r, hb, hg, _⟩
    · cases r
    · simp only [Value.slice.injEq, Option.some.injEq, Addr.mk.injEq, and_true, true_and] at r
      obtain ⟨rfl, rfl⟩ := r
      exact frozen_of_row u4 _ j _ _ hg
  have HT : Hid (TyL w.heap.size u4.heap.size u4 (.slice (some ⟨g, 0, none⟩) n cp) n cs V S) := hT
  clear hT q0 q1 q2 q3
  by_cases hj0 : j = 0
  · subst hj0
    obtain ⟨r, hr, hr13⟩ : ∃ r : Nat, ((q : Int) % 14) = (r : Int) ∧ r ≤ 13 := ⟨q % 14, by omega, by omega⟩
    have hrt : (q : Int).tmod 14 = (r : Int) := by rw [Int.tmod_eq_emod_of_nonneg (by omega)]; exact hr
    go_wp2_with fail
    go_end0
    have t := HT.out.setNum hpn (j := 0) (by decide) (r : Int)
    obtain ⟨a1, a2⟩ := S4.out.turn HC.out (set_grown u4 g (p * 4) (.int .i64 (r : Int))) (fun q e => by injection e with e; omega)
    exact ⟨rfl, TyW.drawn ⟨t.own, t.ce, t.iv, t.sv⟩, a1, a2⟩
  by_cases hj1 : j = 1
  · subst hj1
    obtain ⟨r, hr, hr4⟩ : ∃ r : Nat, ((q : Int) % 5) = (r : Int) ∧ r ≤ 4 := ⟨q % 5, by omega, by omega⟩
    have hrt : (q : Int).tmod 5 = (r : Int) := by rw [Int.tmod_eq_emod_of_nonneg (by omega)]; exact hr
    have hri : (r : Int) < 5 := by omega
    obtain ⟨x, hx, _⟩ := tab5_at 0 1 60000 60001 30000 r (by omega)
    have hcx : (u4.alloc (.cells #[.int .i64 0, .int .i64 1, .int .i64 60000, .int .i64 60001, .int .i64 30000] 3)).cell? ⟨u4.heap.size, r, none⟩ = some (.int .i64 x) := by rw [cell_of_row _ _ _ _ _ (0, 0) (heap_alloc_new u4 _)]; exact hx
    clear hx
    go_wp2_with fail
    go_end0
    have t := (HT.out.setNum hpn (j := 1) (by decide) x).only (OnlyL.of_below (below_alloc _ (.cells #[.int .i64 0, .int .i64 1, .int .i64 60000, .int .i64 60001, .int .i64 30000] 3))) HC.out
    obtain ⟨a1, a2⟩ := S4.out.turn HC.out (set_grown u4 g (p * 4 + 1) (.int .i64 x)) (fun q e => by injection e with e; omega)
    exact ⟨rfl, TyW.drawn ⟨t.own, t.ce, t.iv, t.sv⟩, a1.alloc _, a2.trans (OnlyL.of_below (below_alloc _ _))⟩
  obtain ⟨i3, hi3, hw0, hw1, hw2⟩ := info_parts Tryz.infoi64
  have HI3 : Hid (Tryz.prog.info? 3 = some i3 ∧ i3.zero = some (.int .i64 0) ∧ i3.size = 1 ∧ i3.bytes = 8) := ⟨hi3, hw0, hw1, hw2⟩
  clear hi3 hw0 hw1 hw2
  have hinfs : (Tryz.prog.info? 9).map (fun i => (i.zero, i.size, i.bytes)) = some (some (.string ByteArray.empty), 1, 16) := by kernel_rfl
  obtain ⟨i9, hi9, hy0, hy1, hy2⟩ := info_parts hinfs
  have HI9 : Hid (Tryz.prog.info? 9 = some i9 ∧ i9.zero = some (.string ByteArray.empty) ∧ i9.size = 1 ∧ i9.bytes = 16) := ⟨hi9, hy0, hy1, hy2⟩
  clear hinfs hi9 hy0 hy1 hy2
  obtain ⟨zs, hzs⟩ := HT.out.iv p hpn
  obtain ⟨ss, hss⟩ := HT.out.sv p hpn
  obtain ⟨hxl, hyl⟩ := HT.out.sh p hpn
  rcases hV : V p with ⟨xa, xl, xc⟩
  rcases hS : S p with ⟨ya, yl, yc⟩
  rw [hV] at c2 hzs hxl
  rw [hS] at c3 hss hyl
  replace c2 : u4.cell? ⟨g, p * 4 + 2, none⟩ = some (.slice xa xl xc) := c2
  replace c3 : u4.cell? ⟨g, p * 4 + 3, none⟩ = some (.slice ya yl yc) := c3
  replace hxl : xl ≤ 5000 := hxl
  replace hyl : yl ≤ 5000 := hyl
  have HZS : Hid (Own .i64 3 w.heap.size u4 xa xl xc zs) := hzs
  have HSS : Hid (OwnS w.heap.size u4 ⟨ya, yl, yc⟩ ss) := hss
  have HV : Hid (V p = ⟨xa, xl, xc⟩) := hV
  have HS : Hid (S p = ⟨ya, yl, yc⟩) := hS
  clear hzs hss hV hS
  by_cases hj2 : j = 2
  · subst hj2
    rcases Nat.eq_zero_or_pos xl with hx0 | hx0
    · have hxi : ¬ ((0 : Int) < (xl : Int)) := by omega
      have HN : Hid ((u4.alloc (.cells #[.string ⟨#[122, 122]⟩] 9)).ownsRow w.heap.size 9 1 (.slice ya yl yc) yl (ss.map Value.string)) := HSS.out.1.alloc _
      have NX : Hid (∀ j u, [.string ⟨#[122, 122]⟩][j]? = some u → (u4.alloc (.cells #[.string ⟨#[122, 122]⟩] 9)).cell? ((⟨u4.heap.size, 0, none⟩ : Addr).add j) = some u) := str_new1 u4 _
      have HSZ : Hid (w.heap.size ≤ u4.heap.size) := by show w.heap.size ≤ u4.heap.size; omega
      go_wp2_with (at_builtin; refine wpList_append_own _ rfl (.tmp 113) (.tmp 114) 29 rfl w.heap.size 9 i9 (.string ByteArray.empty) 1 16 Tryz.underlying29 HI9.out.1 HI9.out.2.1 HI9.out.2.2.1 HI9.out.2.2.2 rfl (by decide) (.slice ya yl yc) yl (ss.map Value.string) rfl HN.out ⟨u4.heap.size, 0, none⟩ 1 1 [.string ⟨#[122, 122]⟩] rfl rfl ?n1 (by intro u hu; simp at hu; subst hu; rfl) (by unfold maxLen; omega) (by omega) (by have := HSZ.out; simp; omega) ?_; (case n1 => exact NX.out); intro v6 w6 hown6 hgrow6 _; refine Hid.out ?_)
      obtain ⟨g6, c6, rfl⟩ := own_slice' hown6
      have HT6 := HT.out.only (OnlyL.of_below (below_alloc u4 (.cells #[.string ⟨#[122, 122]⟩] 9))) HC.out
      have hss6 : OwnS w.heap.size (u4.alloc (.cells #[.string ⟨#[122, 122]⟩] 9)) ⟨ya, yl, yc⟩ ss := ⟨HN.out, HSS.out.2⟩
      obtain ⟨⟨z6, q6⟩, f6⟩ := HT6.after HN.out (by decide) hgrow6 hpn (j := 3) (by decide)
      have HD : Hid (TDrawn w.heap.size (w6.setCell ⟨g, p * 4 + 3, none⟩ (.slice (some ⟨g6, 0, none⟩) (yl + 1) c6)) (.slice (some ⟨g, 0, none⟩) n cp) n) := HT6.growName (y := ⟨some ⟨g6, 0, none⟩, yl + 1, c6⟩) (ws := ss ++ [⟨#[122, 122]⟩]) hpn HS.out hss6 ⟨by rw [List.map_append]; exact hown6, fun x hx => by rcases List.mem_append.1 hx with hx | hx; exact HSS.out.2 x hx; simp at hx; subst hx; decide⟩ hgrow6
      have HRO : Hid (RdOk (w6.setCell ⟨g, p * 4 + 3, none⟩ (.slice (some ⟨g6, 0, none⟩) (yl + 1) c6)) c ∧ OnlyL c w (w6.setCell ⟨g, p * 4 + 3, none⟩ (.slice (some ⟨g6, 0, none⟩) (yl + 1) c6))) := by
        have hlt := HC.out
        have r2 : RdOk w6 c := (S4.out.d.r.alloc (.cells #[.string ⟨#[122, 122]⟩] 9)).grown hgrow6 (fun q e => by have := blk_ge HN.out q e; omega)
        have o2 : OnlyL c w w6 := OnlyL.grown (B := 0) (S4.out.d.o.trans (OnlyL.of_below (below_alloc u4 (.cells #[.string ⟨#[122, 122]⟩] 9)))) hgrow6 (fun q e => blk_ge HN.out q e)
        exact ⟨r2.grown (set_grown w6 g (p * 4 + 3) _) (fun q e => by injection e with e; omega), OnlyL.grown (B := 0) o2 (set_grown w6 g (p * 4 + 3) _) (fun q e => by injection e with e; omega)⟩
      clear hown6 hgrow6 HN NX HT6 hss6
      unfold Hid
      go_wp2_with fail
      go_end0
      exact ⟨rfl, HD.out, HRO.out.1, HRO.out.2⟩
    · obtain ⟨b, rfl, hbB, hbl, hbf, z0, hb0⟩ := own_some HZS.out.1 hx0
      have hxi : (0 : Int) < (xl : Int) := by omega
      obtain ⟨r, hr, hr4⟩ : ∃ r : Nat, ((q : Int) % 5) = (r : Int) ∧ r ≤ 4 := ⟨q % 5, by omega, by omega⟩
      have hrt : (q : Int).tmod 5 = (r : Int) := by rw [Int.tmod_eq_emod_of_nonneg (by omega)]; exact hr
      have hri : (r : Int) < 5 := by omega
      have hwq : IntKind.i64.wrap (q : Int) = (q : Int) := by rw [IntKind.wrap_i64]; omega
      have hwn : IntKind.i64.wrap ((n : Int) - 1) = (n : Int) - 1 := by rw [IntKind.wrap_i64]; omega
      obtain ⟨x, hx, hxs⟩ := tab5_at (-1) (n : Int) (p : Int) ((n : Int) - 1) 0 r (by omega)
      have hcx : ((u4.alloc (.cells #[.int .i64 (-1), .int .i64 (n : Int), .int .i64 (p : Int), .int .i64 ((n : Int) - 1), .int .i64 0] 3)).drew).cell? ⟨u4.heap.size, r, none⟩ = some (.int .i64 x) := by
        show (u4.alloc (.cells #[.int .i64 (-1), .int .i64 (n : Int), .int .i64 (p : Int), .int .i64 ((n : Int) - 1), .int .i64 0] 3)).cell? ⟨u4.heap.size, r, none⟩ = _
        rw [cell_of_row _ _ _ _ _ (0, 0) (heap_alloc_new u4 _)]; exact hx
      have hxw : (Lit.int .i64 x).wf = true := by rcases hxs with rfl | rfl | rfl | rfl | rfl <;> exact small_wf (by omega)
      clear hx hxs
      go_wp2_with fail
      go_region
      all_goals
        go_end0
        have t := (HT.out.setOf hpn HV.out hx0 x hxw).only ((OnlyL.of_below (below_alloc _ (.cells #[.int .i64 (-1), .int .i64 (n : Int), .int .i64 (p : Int), .int .i64 ((n : Int) - 1), .int .i64 0] 3))).trans (OnlyL.of_below (Below.drew (Below.refl _ _)))) HC.out
        obtain ⟨a1, a2⟩ := S4.out.turn HC.out (set_grown u4 b 0 (.int .i64 x)) (fun q e => by injection e with e; omega)
        exact ⟨rfl, TyW.drawn ⟨t.own, t.ce, t.iv, t.sv⟩, (a1.alloc _).drewN 1, (a2.trans (OnlyL.of_below (below_alloc _ _))).trans (OnlyL.of_below (Below.drew (Below.refl _ _)))⟩
  by_cases hj3 : j = 3
  · subst hj3
    rcases Nat.eq_zero_or_pos yl with hy0 | hy0
    · have hyi : ¬ ((0 : Int) < (yl : Int)) := by omega
      clear hy0
      have HN : Hid ((u4.alloc (.cells #[.string ⟨#[122, 122]⟩] 9)).ownsRow w.heap.size 9 1 (.slice ya yl yc) yl (ss.map Value.string)) := HSS.out.1.alloc _
      have NX : Hid (∀ j u, [.string ⟨#[122, 122]⟩][j]? = some u → (u4.alloc (.cells #[.string ⟨#[122, 122]⟩] 9)).cell? ((⟨u4.heap.size, 0, none⟩ : Addr).add j) = some u) := str_new1 u4 _
      have HSZ : Hid (w.heap.size ≤ u4.heap.size) := by show w.heap.size ≤ u4.heap.size; omega
      go_wp2_with (at_builtin; refine wpList_append_own _ rfl (.tmp 113) (.tmp 114) 29 rfl w.heap.size 9 i9 (.string ByteArray.empty) 1 16 Tryz.underlying29 HI9.out.1 HI9.out.2.1 HI9.out.2.2.1 HI9.out.2.2.2 rfl (by decide) (.slice ya yl yc) yl (ss.map Value.string) rfl HN.out ⟨u4.heap.size, 0, none⟩ 1 1 [.string ⟨#[122, 122]⟩] rfl rfl ?n1 (by intro u hu; simp at hu; subst hu; rfl) (by unfold maxLen; omega) (by omega) (by have := HSZ.out; simp; omega) ?_; (case n1 => exact NX.out); intro v6 w6 hown6 hgrow6 _; refine Hid.out ?_)
      obtain ⟨g6, c6, rfl⟩ := own_slice' hown6
      have HT6 := HT.out.only (OnlyL.of_below (below_alloc u4 (.cells #[.string ⟨#[122, 122]⟩] 9))) HC.out
      have hss6 : OwnS w.heap.size (u4.alloc (.cells #[.string ⟨#[122, 122]⟩] 9)) ⟨ya, yl, yc⟩ ss := ⟨HN.out, HSS.out.2⟩
      obtain ⟨⟨z6, q6⟩, f6⟩ := HT6.after HN.out (by decide) hgrow6 hpn (j := 3) (by decide)
      have HD : Hid (TDrawn w.heap.size (w6.setCell ⟨g, p * 4 + 3, none⟩ (.slice (some ⟨g6, 0, none⟩) (yl + 1) c6)) (.slice (some ⟨g, 0, none⟩) n cp) n) := HT6.growName (y := ⟨some ⟨g6, 0, none⟩, yl + 1, c6⟩) (ws := ss ++ [⟨#[122, 122]⟩]) hpn HS.out hss6 ⟨by rw [List.map_append]; exact hown6, fun x hx => by rcases List.mem_append.1 hx with hx | hx; exact HSS.out.2 x hx; simp at hx; subst hx; decide⟩ hgrow6
      have HRO : Hid (RdOk (w6.setCell ⟨g, p * 4 + 3, none⟩ (.slice (some ⟨g6, 0, none⟩) (yl + 1) c6)) c ∧ OnlyL c w (w6.setCell ⟨g, p * 4 + 3, none⟩ (.slice (some ⟨g6, 0, none⟩) (yl + 1) c6))) := by
        have hlt := HC.out
        have r2 : RdOk w6 c := (S4.out.d.r.alloc (.cells #[.string ⟨#[122, 122]⟩] 9)).grown hgrow6 (fun q e => by have := blk_ge HN.out q e; omega)
        have o2 : OnlyL c w w6 := OnlyL.grown (B := 0) (S4.out.d.o.trans (OnlyL.of_below (below_alloc u4 (.cells #[.string ⟨#[122, 122]⟩] 9)))) hgrow6 (fun q e => blk_ge HN.out q e)
        exact ⟨r2.grown (set_grown w6 g (p * 4 + 3) _) (fun q e => by injection e with e; omega), OnlyL.grown (B := 0) o2 (set_grown w6 g (p * 4 + 3) _) (fun q e => by injection e with e; omega)⟩
      clear hown6 hgrow6 HN NX HT6 hss6
      unfold Hid
      go_wp2_with fail
      go_end0
      exact ⟨rfl, HD.out, HRO.out.1, HRO.out.2⟩
    · obtain ⟨b, rfl, hbB, hbl, hbf, z0, hb0⟩ := own_some HSS.out.1 hy0
      have hyi : (0 : Int) < (yl : Int) := by omega
      obtain ⟨r, hr, hr4⟩ : ∃ r : Nat, ((q : Int) % 4) = (r : Int) ∧ r ≤ 3 := ⟨q % 4, by omega, by omega⟩
      have hrt : (q : Int).tmod 4 = (r : Int) := by rw [Int.tmod_eq_emod_of_nonneg (by omega)]; exact hr
      have hri : (r : Int) < 4 := by omega
      have hwq : IntKind.i64.wrap (q : Int) = (q : Int) := by rw [IntKind.wrap_i64]; omega
      obtain ⟨x, hx, hxs⟩ := tab4_at ⟨#[]⟩ ⟨#[105, 110, 116]⟩ ⟨#[98]⟩ ⟨#[57]⟩ r (by omega)
      have hcx : ((u4.alloc (.cells #[.string ⟨#[]⟩, .string ⟨#[105, 110, 116]⟩, .string ⟨#[98]⟩, .string ⟨#[57]⟩] 9)).drew).cell? ⟨u4.heap.size, r, none⟩ = some (.string x) := by
        show (u4.alloc (.cells #[.string ⟨#[]⟩, .string ⟨#[105, 110, 116]⟩, .string ⟨#[98]⟩, .string ⟨#[57]⟩] 9)).cell? ⟨u4.heap.size, r, none⟩ = _
        rw [cell_of_row _ _ _ _ _ (0, 0) (heap_alloc_new u4 _)]; exact hx
      have hxw : x.size ≤ 1048576 := by rcases hxs with rfl | rfl | rfl | rfl <;> decide
      clear hx hxs
      go_wp2_with fail
      go_region
      all_goals
        go_end0
        have t := (HT.out.setName hpn HS.out hy0 x hxw).only ((OnlyL.of_below (below_alloc _ (.cells #[.string ⟨#[]⟩, .string ⟨#[105, 110, 116]⟩, .string ⟨#[98]⟩, .string ⟨#[57]⟩] 9))).trans (OnlyL.of_below (Below.drew (Below.refl _ _)))) HC.out
        obtain ⟨a1, a2⟩ := S4.out.turn HC.out (set_grown u4 b 0 (.string x)) (fun q e => by injection e with e; omega)
        exact ⟨rfl, TyW.drawn ⟨t.own, t.ce, t.iv, t.sv⟩, (a1.alloc _).drewN 1, (a2.trans (OnlyL.of_below (below_alloc _ _))).trans (OnlyL.of_below (Below.drew (Below.refl _ _)))⟩
  by_cases hj4 : j = 4
  · subst hj4
    obtain ⟨r, hr, hrn⟩ : ∃ r : Nat, ((q : Int).tmod (n : Int)) = (r : Int) ∧ r < n := ⟨q % n, by rw [Int.tmod_eq_emod_of_nonneg (by omega)]; exact (Int.natCast_emod _ _).symm, Nat.mod_lt _ (by omega)⟩
    have hre : ((q : Int) % (n : Int)) = (r : Int) := by rw [← hr, Int.tmod_eq_emod_of_nonneg (by omega)]
    have hwq : IntKind.i64.wrap (q : Int) = (q : Int) := by rw [IntKind.wrap_i64]; omega
    have hnz2 : ¬ (n = 0) := by omega
    have hnz3 : ¬ ((n : Int) = 0) := by omega
    have hrem : ∀ (a : Int) (w : World), (binOp .rem 3 (.int .i64 a) (.int .i64 (n : Int))).run Tryz.prog w = .ok (.int .i64 (a.tmod (n : Int))) w := fun a w => by simp [go_sem, hnz2, hnz3]
    have o1 : OnlyL c u4 ((u4.alloc (.cells #[.int .i64 (r : Int)] 3)).drew) := (OnlyL.of_below (below_alloc u4 (.cells #[.int .i64 (r : Int)] 3))).trans (OnlyL.of_below (Below.drew (Below.refl _ _)))
    have HO1 : Hid (OnlyL c u4 ((u4.alloc (.cells #[.int .i64 (r : Int)] 3)).drew)) := o1
    have HZ6 : Hid (Own .i64 3 w.heap.size ((u4.alloc (.cells #[.int .i64 (r : Int)] 3)).drew) xa xl xc zs) := ⟨own_onlyL HZS.out.1 o1 HC.out, HZS.out.2⟩
    have HN : Hid (((u4.alloc (.cells #[.int .i64 (r : Int)] 3)).drew).ownsRow w.heap.size 3 1 (.slice xa xl xc) xl (zs.map (Value.int .i64))) := HZ6.out.1
    have NX : Hid (∀ j u, [.int .i64 (r : Int)][j]? = some u → ((u4.alloc (.cells #[.int .i64 (r : Int)] 3)).drew).cell? ((⟨u4.heap.size, 0, none⟩ : Addr).add j) = some u) := fun j u hj => int_new1' u4 _ j u hj
    have HSZ : Hid (w.heap.size ≤ u4.heap.size) := by show w.heap.size ≤ u4.heap.size; omega
    clear o1
    go_wp2_with fail
    go_region_law (refine step_append_own rfl (.tmp 97) (.tmp 103) 28 rfl w.heap.size 3 i3 (.int .i64 0) 1 8 Tryz.underlying28 HI3.out.1 HI3.out.2.1 HI3.out.2.2.1 HI3.out.2.2.2 rfl (by decide) (.slice xa xl xc) xl (zs.map (Value.int .i64)) (by rfl) HN.out ⟨u4.heap.size, 0, none⟩ 1 1 [.int .i64 (r : Int)] (by rfl) rfl NX.out (by intro u hu; simp at hu; subst hu; rfl) (by unfold maxLen; omega) (by omega) (by have := HSZ.out; simp; omega) ?_; intro v6 w6 hown6 hgrow6; obtain ⟨g6, c6, rfl⟩ := own_slice' hown6; have HT6 : Hid _ := HT.out.only HO1.out HC.out; obtain ⟨⟨z6, q6⟩, f6⟩ := HT6.out.after HN.out (by decide) hgrow6 hpn (j := 2) (by decide); have HD : Hid (TDrawn w.heap.size (w6.setCell ⟨g, p * 4 + 2, none⟩ (.slice (some ⟨g6, 0, none⟩) (xl + 1) c6)) (.slice (some ⟨g, 0, none⟩) n cp) n) := HT6.out.growOf (y := ⟨some ⟨g6, 0, none⟩, xl + 1, c6⟩) (ws := zs ++ [(r : Int)]) hpn HV.out HZ6.out ⟨(by rw [List.map_append]; exact hown6), (fun x hx => by rcases List.mem_append.1 hx with hx | hx; exact HZS.out.2 x hx; simp at hx; subst hx; exact small_wf (by omega))⟩ hgrow6; have HR2 : Hid (RdOk w6 c) := ((S4.out.d.r.alloc (.cells #[.int .i64 (r : Int)] 3)).drewN 1).grown hgrow6 (fun q e => by have := blk_ge HN.out q e; have := HC.out; omega); have HO2 : Hid (OnlyL c w w6) := OnlyL.grown (B := 0) (S4.out.d.o.trans HO1.out) hgrow6 (fun q e => blk_ge HN.out q e); clear hown6 hgrow6 HT6)
    all_goals
      go_wp2_with fail
      go_end0
      exact ⟨rfl, HD.out, HR2.out.grown (set_grown w6 g (p * 4 + 2) _) (fun q e => by have := HC.out; injection e with e; omega), OnlyL.grown (B := 0) HO2.out (set_grown w6 g (p * 4 + 2) _) (fun q e => by injection e with e; omega)⟩
  · obtain rfl : j = 5 := by omega
    have HN : Hid ((u4.alloc (.cells #[.string ⟨#[122, 122]⟩] 9)).ownsRow w.heap.size 9 1 (.slice ya yl yc) yl (ss.map Value.string)) := HSS.out.1.alloc _
    have NX : Hid (∀ j u, [.string ⟨#[122, 122]⟩][j]? = some u → (u4.alloc (.cells #[.string ⟨#[122, 122]⟩] 9)).cell? ((⟨u4.heap.size, 0, none⟩ : Addr).add j) = some u) := str_new1 u4 _
    have HSZ : Hid (w.heap.size ≤ u4.heap.size) := by show w.heap.size ≤ u4.heap.size; omega
    go_wp2_with (at_builtin; refine wpList_append_own _ rfl (.tmp 113) (.tmp 114) 29 rfl w.heap.size 9 i9 (.string ByteArray.empty) 1 16 Tryz.underlying29 HI9.out.1 HI9.out.2.1 HI9.out.2.2.1 HI9.out.2.2.2 rfl (by decide) (.slice ya yl yc) yl (ss.map Value.string) rfl HN.out ⟨u4.heap.size, 0, none⟩ 1 1 [.string ⟨#[122, 122]⟩] rfl rfl ?n1 (by intro u hu; simp at hu; subst hu; rfl) (by unfold maxLen; omega) (by omega) (by have := HSZ.out; simp; omega) ?_; (case n1 => exact NX.out); intro v6 w6 hown6 hgrow6 _; refine Hid.out ?_)
    obtain ⟨g6, c6, rfl⟩ := own_slice' hown6
    have HT6 := HT.out.only (OnlyL.of_below (below_alloc u4 (.cells #[.string ⟨#[122, 122]⟩] 9))) HC.out
    have hss6 : OwnS w.heap.size (u4.alloc (.cells #[.string ⟨#[122, 122]⟩] 9)) ⟨ya, yl, yc⟩ ss := ⟨HN.out, HSS.out.2⟩
    obtain ⟨⟨z6, q6⟩, f6⟩ := HT6.after HN.out (by decide) hgrow6 hpn (j := 3) (by decide)
    have HD : Hid (TDrawn w.heap.size (w6.setCell ⟨g, p * 4 + 3, none⟩ (.slice (some ⟨g6, 0, none⟩) (yl + 1) c6)) (.slice (some ⟨g, 0, none⟩) n cp) n) := HT6.growName (y := ⟨some ⟨g6, 0, none⟩, yl + 1, c6⟩) (ws := ss ++ [⟨#[122, 122]⟩]) hpn HS.out hss6 ⟨by rw [List.map_append]; exact hown6, fun x hx => by rcases List.mem_append.1 hx with hx | hx; exact HSS.out.2 x hx; simp at hx; subst hx; decide⟩ hgrow6
    have HRO : Hid (RdOk (w6.setCell ⟨g, p * 4 + 3, none⟩ (.slice (some ⟨g6, 0, none⟩) (yl + 1) c6)) c ∧ OnlyL c w (w6.setCell ⟨g, p * 4 + 3, none⟩ (.slice (some ⟨g6, 0, none⟩) (yl + 1) c6))) := by
      have hlt := HC.out
      have r2 : RdOk w6 c := (S4.out.d.r.alloc (.cells #[.string ⟨#[122, 122]⟩] 9)).grown hgrow6 (fun q e => by have := blk_ge HN.out q e; omega)
      have o2 : OnlyL c w w6 := OnlyL.grown (B := 0) (S4.out.d.o.trans (OnlyL.of_below (below_alloc u4 (.cells #[.string ⟨#[122, 122]⟩] 9)))) hgrow6 (fun q e => blk_ge HN.out q e)
      exact ⟨r2.grown (set_grown w6 g (p * 4 + 3) _) (fun q e => by injection e with e; omega), OnlyL.grown (B := 0) o2 (set_grown w6 g (p * 4 + 3) _) (fun q e => by injection e with e; omega)⟩
    clear hown6 hgrow6 HN NX HT6 hss6
    unfold Hid
    go_wp2_with fail
    go_end0
    exact ⟨rfl, HD.out, HRO.out.1, HRO.out.2⟩
end Go.Proofs.YtafcnijfoejboaaGreatDoor.W
namespace Go.Proofs.YtafcnijfoejboaaGreatDoor.Pl
structure Ln where
  k : Int
  op : Int
  rd : Int
  r1 : Int
  r2 : Int
  im : Int
  s : ByteArray
  n : Int
def Ln.cells (x : Ln) : Array Value := #[.int .i64 x.k, .int .i64 x.op, .int .i64 x.rd, .int .i64 x.r1, .int .i64 x.r2, .int .i64 x.im, .string x.s, .int .i64 x.n]
def Ln.zero : Ln := ⟨0, 0, 0, 0, 0, 0, ⟨#[]⟩, 0⟩
end Go.Proofs.YtafcnijfoejboaaGreatDoor.Pl
namespace Go.Proofs.YtafcnijfoejboaaGreatDoor.W
open Go.RowKit
def LRow (lo : Nat) (w : World) (a : Option Addr) (len cap : Nat) (xs : List Pl.Ln) : Prop :=
  (xs.length = len ∧ ∀ x ∈ xs, x.s.size ≤ maxLen) ∧ len ≤ cap ∧ cap ≤ maxLen ∧ (len = 0 ∨ ∃ b off, a = some ⟨b, off, none⟩ ∧ lo ≤ b ∧ b < w.heap.size ∧ ∀ i, i < len → ∀ j, j < 8 → w.cell? ⟨b, off + i * 8 + j, none⟩ = (xs.getD i Pl.Ln.zero).cells[j]?)
theorem LRow.keep {lo : Nat} {w w' : World} {a : Option Addr} {len cap : Nat} {xs : List Pl.Ln} (h : LRow lo w a len cap xs) (hb : Below w.heap.size w w') : LRow lo w' a len cap xs := by
  obtain ⟨h1, h2, h3, h4⟩ := h
  refine ⟨h1, h2, h3, ?_⟩
  rcases h4 with h4 | ⟨b, off, ha, hlo, hlt, hc⟩
  · exact .inl h4
  · exact .inr ⟨b, off, ha, hlo, Nat.lt_of_lt_of_le hlt hb.size, fun i hi j hj => (hb.cell (p := ⟨b, off + i * 8 + j, none⟩) hlt).trans (hc i hi j hj)⟩
end Go.Proofs.YtafcnijfoejboaaGreatDoor.W
namespace Go.Proofs.YtafcnijfoejboaaGreatDoor.Pl
def dg (c : Int) : Bool := decide (48 ≤ c ∧ c ≤ 57)
def lt (c : Int) : Bool := decide (97 ≤ c ∧ c ≤ 122) || decide (65 ≤ c ∧ c ≤ 90)
def ch (c : Int) : Bool := dg c || lt c || c == 95 || c == 46 || c == 36
def wch (c : Int) : Bool := dg c || lt c || c == 95
def byt (s : ByteArray) (i : Nat) : Int := ((s.data.toList.getD i 0).toNat : Int)
theorem byt_get (s : ByteArray) (i : Nat) (h : i < s.size) : ((s[i]'h).toNat : Int) = byt s i := by
  obtain ⟨⟨l⟩⟩ := s
  have hl : i < l.length := h
  unfold byt
  simp only [List.getD, List.getElem?_eq_getElem hl, Option.getD_some]
  rfl
end Go.Proofs.YtafcnijfoejboaaGreatDoor.Pl
namespace Go.Proofs.YtafcnijfoejboaaGreatDoor.W
open Go.RowKit
theorem isDigit_any (c : Int) (w : World) : Calls Tryz.prog 83 #[.int .u8 c] w fun e w' => e = .returned (.bool (Pl.dg c)) ∧ w' = w := by
  go_enter Tryz.func83, Tryz.ntmps83
  go_wp2
  all_goals (go_ret; refine ⟨ret_bool ?_, rfl⟩; rw [Bool.eq_iff_iff]; simp [Pl.dg, Pl.lt, Pl.ch] <;> omega)
theorem l4Digit_any (c : Int) (w : World) : Calls Tryz.prog 78 #[.int .u8 c] w fun e w' => e = .returned (.bool (Pl.dg c)) ∧ w' = w := by
  go_enter Tryz.func78, Tryz.ntmps78
  go_wp2
  all_goals (go_ret; refine ⟨ret_bool ?_, rfl⟩; rw [Bool.eq_iff_iff]; simp [Pl.dg, Pl.lt, Pl.ch] <;> omega)
theorem l4Letter_any (c : Int) (w : World) : Calls Tryz.prog 86 #[.int .u8 c] w fun e w' => e = .returned (.bool (Pl.lt c)) ∧ w' = w := by
  go_enter Tryz.func86, Tryz.ntmps86
  go_wp2
  all_goals (go_ret; refine ⟨ret_bool ?_, rfl⟩; rw [Bool.eq_iff_iff]; simp [Pl.dg, Pl.lt, Pl.ch] <;> omega)
end Go.Proofs.YtafcnijfoejboaaGreatDoor.W
namespace Go.Proofs.YtafcnijfoejboaaGreatDoor.Pl
end Go.Proofs.YtafcnijfoejboaaGreatDoor.Pl
namespace Go.Proofs.YtafcnijfoejboaaGreatDoor.W
open Go.RowKit
end Go.Proofs.YtafcnijfoejboaaGreatDoor.W
namespace Go.Proofs.YtafcnijfoejboaaGreatDoor.W
open Go.RowKit
end Go.Proofs.YtafcnijfoejboaaGreatDoor.W
namespace Go.Proofs.YtafcnijfoejboaaGreatDoor.W
open Go.RowKit
def LOwn (lo : Nat) (w : World) (a : Option Addr) (len : Nat) (xs : List Pl.Ln) : Prop :=
  (xs.length = len ∧ ∀ x ∈ xs, x.s.size ≤ maxLen) ∧ len ≤ maxLen ∧ ∃ b, a = some ⟨b, 0, none⟩ ∧ lo ≤ b ∧ b < w.heap.size ∧ (∀ i, w.frozen? ⟨b, i, none⟩ = false) ∧ ∀ i, i < len → ∀ j, j < 8 → w.cell? ⟨b, i * 8 + j, none⟩ = (xs.getD i Pl.Ln.zero).cells[j]?
theorem LOwn.row {lo : Nat} {w : World} {a : Option Addr} {len : Nat} {xs : List Pl.Ln} (h : LOwn lo w a len xs) : LRow lo w a len len xs := by
  obtain ⟨h1, h2, b, ha, hlo, hlt, _, hc⟩ := h
  exact ⟨h1, Nat.le_refl _, h2, .inr ⟨b, 0, ha, hlo, hlt, fun i hi j hj => by rw [Nat.zero_add]; exact hc i hi j hj⟩⟩
theorem below_alloc2 (w : World) (o : Obj) : Below w.heap.size w (w.alloc o) := (Below.refl _ _).alloc (Nat.le_refl _) _
end Go.Proofs.YtafcnijfoejboaaGreatDoor.W
namespace Go.Proofs.YtafcnijfoejboaaGreatDoor.W
open Go.RowKit
end Go.Proofs.YtafcnijfoejboaaGreatDoor.W
namespace Go.Proofs.YtafcnijfoejboaaGreatDoor.W
open Go.RowKit
theorem conv_one (w : World) (c : Int) : (convert 22 9 (.slice (some ⟨w.heap.size, 0, none⟩) 1 1)).run Tryz.prog (w.alloc (.cells #[.int .u8 c] 5)) = .ok (.string (ByteArray.empty.push (UInt8.ofNat c.toNat))) (w.alloc (.cells #[.int .u8 c] 5)) := by
  rw [run_convert_bytes_string _ 22 9 5 _ _ _ Tryz.underlying22 Tryz.underlying5 Tryz.underlying9]
  refine run_bytesToString _ _ 1 1 [c] ?_
  refine (run_loadCells_list _ _ [.int .u8 c] ?_).trans rfl
  intro j v hj
  rcases j with _ | j
  · cases hj
    exact cell_of_row _ w.heap.size 0 _ 5 (0, 0) (heap_alloc_new w _)
  · simp at hj
end Go.Proofs.YtafcnijfoejboaaGreatDoor.W
namespace Go.Proofs.YtafcnijfoejboaaGreatDoor.Pl
def num (n : Int) : ByteArray := ⟨(Lib.itoa n).toArray⟩
theorem dig_small {u : Nat} (h : u < 10) : Lib.decDigits u = [UInt8.ofNat (48 + u)] := by rw [Lib.decDigits, dif_pos h]
theorem dig_big {u : Nat} (h : ¬ u < 10) : Lib.decDigits u = Lib.decDigits (u / 10) ++ [UInt8.ofNat (48 + u % 10)] := by rw [Lib.decDigits, dif_neg h]
theorem num_nat {n : Int} (h : 0 ≤ n) : num n = ⟨(Lib.decDigits n.toNat).toArray⟩ := by
  unfold num Lib.itoa
  rw [if_neg (by omega)]
theorem num_neg {n : Int} (h : n < 0) : num n = (⟨#[45]⟩ : ByteArray) ++ num (-n) := by
  rw [num_nat (show 0 ≤ -n by omega)]
  unfold num Lib.itoa
  rw [if_pos h]
  have e : n.natAbs = (-n).toNat := by omega
  rw [e]
  apply ByteArray.ext
  simp [ByteArray.data_append]
theorem dig_len : ∀ (m u : Nat), u < 10 ^ (m + 1) → (Lib.decDigits u).length ≤ m + 1
  | 0, u, h => by rw [dig_small (by simpa using h)]; simp
  | m + 1, u, h => by
    by_cases h' : u < 10
    · rw [dig_small h']; simp
    · rw [dig_big h']
      rw [Nat.pow_succ] at h
      have := dig_len m (u / 10) (by omega)
      simp
      omega
theorem num_size {n : Int} (h : -4611686018427387904 ≤ n ∧ n ≤ 4611686018427387904) : (num n).size ≤ 20 := by
  have key : ∀ n : Int, 0 ≤ n → n ≤ 4611686018427387904 → (num n).size ≤ 19 := fun n h0 h1 => by
    rw [num_nat h0]
    have := dig_len 18 n.toNat (by omega)
    simpa [ByteArray.size] using this
  by_cases h0 : n < 0
  · rw [num_neg h0]
    have := key (-n) (by omega) (by omega)
    have e1 : (⟨#[45]⟩ : ByteArray).size = 1 := rfl
    simp [e1]
    omega
  · have := key n (by omega) (by omega)
    omega
end Go.Proofs.YtafcnijfoejboaaGreatDoor.Pl
namespace Go.Proofs.YtafcnijfoejboaaGreatDoor.W
open Go.RowKit
set_option maxRecDepth 8000 in
set_option maxHeartbeats 2000000 in
theorem specDecN_any (k : Int) (hk : 0 ≤ k ∧ k ≤ 4611686018427387904) (w : World) : Calls Tryz.prog 64 #[.int .i64 k] w fun e w' => e = .returned (.string (Pl.num k)) ∧ Below w.heap.size w w' := by
  have hneg : ¬ k < 0 := by omega
  go_enter Tryz.func64, Tryz.ntmps64
  go_wp2_with fail
  go_loopw [0, 3] (fun x v wr => ∃ (n : Int) (s : ByteArray) (m : Nat), x = .int .i64 n ∧ v = .string s ∧ 0 ≤ n ∧ n ≤ 4611686018427387904 ∧ n < 10 ^ m ∧ s.size + m ≤ 19 ∧ Lib.decDigits n.toNat ++ s.data.toList = Lib.decDigits k.toNat ∧ Below w.heap.size w wr) (fun x _ _ => (intOf x).toNat)
  case atStart => exact ⟨k, ⟨#[]⟩, 19, rfl, rfl, hk.1, hk.2, by omega, by decide, by simp, Below.refl _ _⟩
  case round =>
    obtain ⟨n, s, m, rfl, rfl, hn0, hn1, hnm, hsm, hdg, hbel⟩ := hrel
    have HB : Hid (Below w.heap.size w wr) := hbel
    have HM : Hid (n < 10 ^ m) := hnm
    have HD : Hid (Lib.decDigits n.toNat ++ s.data.toList = Lib.decDigits k.toNat) := hdg
    clear hbel hnm hdg
    have hcv := conv_one wr
    by_cases hp : 10 ≤ n
    · go_wp2
      go_roundw
      case rel =>
        obtain ⟨m, rfl⟩ : ∃ m', m = m' + 1 := by
          rcases m with _ | m
          · have := HM.out; simp at this; omega
          · exact ⟨m, rfl⟩
        have hq : n / 10 < 10 ^ m := by
          have := HM.out
          rw [Int.pow_succ] at this
          omega
        refine ⟨n / 10, _, m, by go_num, rfl, by omega, by omega, hq, by simp; omega, ?_, HB.out.trans ((below_alloc2 wr _).mono HB.out.size)⟩
        have h1 := HD.out
        rw [Pl.dig_big (by omega)] at h1
        rw [← h1]
        have e1 : (n / 10).toNat = n.toNat / 10 := by omega
        have e2 : (48 + n % 10).toNat = 48 + n.toNat % 10 := by omega
        rw [e1]
        simp [ByteArray.data_append, e2]
      case measure => simp [intOf]; omega
    · go_wp2
      go_ret
      refine ⟨?_, HB.out.trans ((below_alloc2 wr _).mono HB.out.size)⟩
      have h1 := HD.out
      rw [Pl.dig_small (by omega)] at h1
      rw [Pl.num_nat hk.1, ← h1]
      have e2 : (48 + n).toNat = 48 + n.toNat := by omega
      rw [e2]
      congr 2
end Go.Proofs.YtafcnijfoejboaaGreatDoor.W
