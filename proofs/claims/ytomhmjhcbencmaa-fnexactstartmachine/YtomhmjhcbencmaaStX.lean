import Derived.Test.YtomhmjhcbencmaaStU
import Derived.Test.YtomhmjhcbencmaaInv
import Derived.Laws.MakeOwn
import Derived.Laws.OwnMore
set_option linter.unusedVariables false
set_option linter.unusedSimpArgs false
namespace Go.Proofs.Ytomhmjhcbencmaa.W
open Go.RowKit
/-- an operation has come up -/
def lst (L : Array Bool) (j : Nat) : Bool := L.getD j false
theorem lst_ne {L : Array Bool} {i j : Nat} (hij : i ≠ j) : lst (L.setIfInBounds i true) j = lst L j := by
  unfold lst
  simp [Array.getElem?_setIfInBounds_ne hij]
theorem lst_of {L : Array Bool} {i j : Nat} (hij : i ≠ j) (h : lst (L.setIfInBounds i true) j = true) : lst L j = true := by rw [lst_ne hij] at h; exact h
theorem lst_mono {L : Array Bool} {i j : Nat} (h : lst L j = true) : lst (L.setIfInBounds i true) j = true := by
  by_cases e : i = j
  · subst e
    unfold lst at h ⊢
    have hlt : i < L.size := by
      rcases Nat.lt_or_ge i L.size with h' | h'
      · exact h'
      · simp [Array.getElem?_eq_none h'] at h
    simp [hlt]
  · rw [lst_ne e]; exact h
theorem lst_false {L : Array Bool} {i : Nat} (h : L.getD i true = false) : lst L i = false := by
  unfold lst
  rcases Nat.lt_or_ge i L.size with h' | h'
  · simp [h'] at h ⊢; exact h
  · simp [Array.getElem?_eq_none h'] at h
theorem lst_self {L : Array Bool} {i : Nat} (h : i < L.size) : lst (L.setIfInBounds i true) i = true := by
  unfold lst
  simp [h]
theorem Own.setRowNe {k : IntKind} {e : TypeId} {lo hi b : Nat} {w : World} {a : Option Addr} {len cap : Nat} {zs : List Int} (h : Own k e lo w a len cap zs) (hs : Span ⟨a, len, cap⟩ lo hi) (hb : hi ≤ b ∨ b < lo) (cs : Array Value) : Own k e lo (w.setRow b cs) a len cap zs := by
  obtain ⟨hown, hwf⟩ := h
  refine ⟨⟨hown.1, ?_⟩, hwf⟩
  rcases hown.2 with h0 | ⟨g, cap', cur, h0, hlo, hg, hr⟩
  · exact .inl h0
  · simp only [Value.slice.injEq] at h0
    have a1 : lo ≤ g ∧ g < hi := hs ⟨g, 0, none⟩ h0.1
    refine .inr ⟨g, cap', cur, ?_, hlo, (setRow_other w b g cs (by omega)).trans hg, hr⟩
    simp only [Value.slice.injEq]
    exact h0
theorem Own.setCellNe {k : IntKind} {e : TypeId} {lo l hi b i : Nat} {w : World} {s : SV} {zs : List Int} (h : Own k e lo w s.a s.len s.cap zs) (hs : Span s l hi) (hb : hi ≤ b ∨ b < l) (x : Value) : Own k e lo (w.setCell ⟨b, i, none⟩ x) s.a s.len s.cap zs := by
  obtain ⟨hown, hwf⟩ := h
  refine ⟨⟨hown.1, ?_⟩, hwf⟩
  rcases hown.2 with h0 | ⟨g, cap', cur, h0, hlo, hg, hr⟩
  · exact .inl h0
  · refine .inr ⟨g, cap', cur, h0, hlo, ?_, hr⟩
    simp only [Value.slice.injEq] at h0
    have a1 : l ≤ g ∧ g < hi := hs ⟨g, 0, none⟩ h0.1
    rw [heap_setCell_other w ⟨b, i, none⟩ g x (by show g ≠ b; omega)]
    exact hg
/-- the operations that make memory, and their spans -/
def ix : Nat → Nat
  | 0 => 2 | 1 => 5 | 2 => 8 | 3 => 11 | 4 => 13 | _ => 15
theorem ix_inj : ∀ j, j < 6 → ∀ k, k < 6 → ix j = ix k → j = k := by decide
structure Spans (b : Nat) (L : Array Bool) (l h : Nat → Nat) (u : World) : Prop where
  ins : ∀ k, k < 6 → lst L (ix k) = true → b ≤ l k ∧ l k ≤ h k ∧ h k ≤ u.heap.size
  off : ∀ j k, j < 6 → k < 6 → j ≠ k → lst L (ix j) = true → lst L (ix k) = true → h j ≤ l k ∨ h k ≤ l j
theorem Spans.pure {b : Nat} {L : Array Bool} {l h : Nat → Nat} {u u' : World} (s : Spans b L l h u) (i : Nat) (hi : ∀ j, j < 6 → i ≠ ix j) (hu : u.heap.size ≤ u'.heap.size) : Spans b (L.setIfInBounds i true) l h u' :=
  ⟨fun k hk h1 => by have := s.ins k hk (lst_of (hi k hk) h1); omega, fun j k hj hk hjk h1 h2 => s.off j k hj hk hjk (lst_of (hi j hj) h1) (lst_of (hi k hk) h2)⟩
theorem Spans.step {b : Nat} {L : Array Bool} {l h : Nat → Nat} {u u' : World} (s : Spans b L l h u) (k : Nat) (hk : k < 6) (hb : b ≤ u.heap.size) (hu : u.heap.size ≤ u'.heap.size) :
    Spans b (L.setIfInBounds (ix k) true) (fun j => if j = k then u.heap.size else l j) (fun j => if j = k then u'.heap.size else h j) u' := by
  refine ⟨fun j hj h1 => ?_, fun i j hi hj hij h1 h2 => ?_⟩
  · by_cases e : j = k
    · simp only [e, if_true]; omega
    · simp only [e, if_false]
      have := s.ins j hj (lst_of (fun q => e (ix_inj j hj k hk q.symm)) h1)
      omega
  · by_cases e : i = k
    · by_cases e' : j = k
      · omega
      · simp only [e, e', if_true, if_false]
        have := s.ins j hj (lst_of (fun q => e' (ix_inj j hj k hk q.symm)) h2)
        omega
    · by_cases e' : j = k
      · simp only [e, e', if_true, if_false]
        have := s.ins i hi (lst_of (fun q => e (ix_inj i hi k hk q.symm)) h1)
        omega
      · simp only [e, e', if_false]
        exact s.off i j hi hj hij (lst_of (fun q => e (ix_inj i hi k hk q.symm)) h1) (lst_of (fun q => e' (ix_inj j hj k hk q.symm)) h2)
/-- what holds at every state of the region -/
def StI (v : IV) (m : Pl.Img) (a : Option Addr) (len cap : Nat) (inp : List Int) (nb : Nat) (u1 : World) (L : Array Bool) (act : Act) (u : World) : Prop :=
  ∃ (x6 x16 x17 x18 x19 x20 x21 x22 x23 x24 x25 x26 x27 x28 x29 x30 : Value) (l h : Nat → Nat), act = { tmps := #[.agg #[.slice v.code.a v.code.len v.code.cap, .slice v.data.a v.data.len v.data.cap, .int .i64 m.entry, .int .i64 m.size], .slice a len cap, .pointer (some ⟨nb, 0, none⟩), undef, .pointer (some ⟨nb + 1, 0, none⟩), .bool false, x6, .agg #[.slice v.code.a v.code.len v.code.cap, .slice v.data.a v.data.len v.data.cap, .int .i64 m.entry, .int .i64 m.size], .bool true, .bool false, .bool false, .slice a len cap, .int .i64 (len : Int), .bool (decide ((10000 : Int) < (len : Int))), .bool (decide ((10000 : Int) < (len : Int))), undef, x16, x17, x18, x19, x20, x21, x22, x23, x24, x25, x26, x27, x28, x29, x30, undef, undef, undef, undef], defers := [] } ∧ Below u1.heap.size u1 u ∧ Spans u1.heap.size L l h u
    ∧ (lst L 0 = true → x16 = .pointer (some ⟨nb, 0, none⟩))
    ∧ (lst L 1 = true → x17 = .slice v.code.a v.code.len v.code.cap)
    ∧ (lst L 2 = true → ∃ ca cc, x18 = .slice ca v.code.len cc ∧ Own .i64 3 (l 0) u ca v.code.len cc m.code ∧ Span ⟨ca, v.code.len, cc⟩ (l 0) (h 0))
    ∧ (lst L 3 = true → x19 = .pointer (some ⟨nb, 2, none⟩))
    ∧ (lst L 4 = true → x20 = .int .i64 m.entry)
    ∧ (lst L 5 = true → x21 = .slice (some ⟨l 1, 0, none⟩) 32 32 ∧ u.heap[l 1]? = some (.cells (madeCells #[Value.int .i64 0] 32) 3) ∧ l 1 < h 1)
    ∧ (lst L 6 = true → x22 = .pointer (some ⟨nb, 1, none⟩))
    ∧ (lst L 7 = true → x23 = .slice v.data.a v.data.len v.data.cap)
    ∧ (lst L 8 = true → ∃ da dc, x24 = .slice da v.data.len dc ∧ Own .u8 5 (l 2) u da v.data.len dc m.data ∧ Span ⟨da, v.data.len, dc⟩ (l 2) (h 2))
    ∧ (lst L 9 = true → x25 = .pointer (some ⟨nb, 3, none⟩))
    ∧ (lst L 10 = true → x26 = .int .i64 m.size)
    ∧ (lst L 11 = true → x27 = .slice (some ⟨l 3, 0, none⟩) m.size.toNat m.size.toNat ∧ u.heap[l 3]? = some (.cells (madeCells #[Value.int .u8 0] m.size.toNat) 5) ∧ l 3 < h 3)
    ∧ (lst L 12 = true → x28 = .slice a len cap)
    ∧ (lst L 13 = true → ∃ ia ic, x29 = .slice ia len ic ∧ Own .u8 5 (l 4) u ia len ic inp ∧ Span ⟨ia, len, ic⟩ (l 4) (h 4))
    ∧ (lst L 14 = true → x30 = .agg #[x18, x20, x21, x24, x27, x29, .slice none 0 0, .int .i64 0, .int .i64 0, .int .i64 0])
    ∧ (lst L 15 = true → x6 = .pointer (some ⟨l 5, 0, none⟩) ∧ l 5 < h 5 ∧ u.heap[l 5]? = some (.cells (if lst L 16 then #[x18, x20, x21, x24, x27, x29, .slice none 0 0, .int .i64 0, .int .i64 0, .int .i64 0] else #[.slice none 0 0, .int .i64 0, .slice none 0 0, .slice none 0 0, .slice none 0 0, .slice none 0 0, .slice none 0 0, .int .i64 0, .int .i64 0, .int .i64 0]) 27))
    ∧ (lst L 14 = true → ∀ j, j ∈ [2, 4, 5, 8, 11, 13] → lst L j = true) ∧ (lst L 16 = true → lst L 14 = true ∧ lst L 15 = true)
theorem blk {u : World} {b : Nat} {o : Obj} (h : u.heap[b]? = some o) : b < u.heap.size := (Array.getElem?_eq_some_iff.1 h).1
end Go.Proofs.Ytomhmjhcbencmaa.W
