import Derived.Test.YtdplfflkmphpbaaGreatDoorV09
import Derived.Laws.BytesArg
import Derived.Test.YtdplfflkmphpbaaGreatDoorV08
import Derived.Test.YtdplfflkmphpbaaGreatDoorV06
import Derived.Laws.BytesString
import Derived.Laws.Cells
import Derived.Test.YtdplfflkmphpbaaGreatDoorV19
import Derived.Deep.RegionWith
set_option linter.unusedVariables false
set_option linter.unusedSimpArgs false
namespace Go.Proofs.YtdplfflkmphpbaaGreatDoor.W
open Go.RowKit
end Go.Proofs.YtdplfflkmphpbaaGreatDoor.W
namespace Go.Proofs.YtdplfflkmphpbaaGreatDoor.Pl
end Go.Proofs.YtdplfflkmphpbaaGreatDoor.Pl
namespace Go.Proofs.YtdplfflkmphpbaaGreatDoor.W
open Go.RowKit
structure Touch (a : Option Addr) (w w' : World) : Prop where
  os : w'.os = w.os
  tape : w'.tape = w.tape
  output : w'.output = w.output
  size : w'.heap.size = w.heap.size
  block : ∀ k, (∀ ad, a = some ad → k ≠ ad.block) → w'.heap[k]? = w.heap[k]?
theorem Touch.refl (a : Option Addr) (w : World) : Touch a w w := ⟨rfl, rfl, rfl, rfl, fun _ _ => rfl⟩
theorem Touch.setCell {a : Option Addr} {w u : World} (h : Touch a w u) {g : Nat} (hp : a = some ⟨g, 0, none⟩) (x : Value) {i : Nat} : Touch a w (u.setCell ⟨g, i, none⟩ x) :=
  ⟨h.os, h.tape, h.output, by simpa using h.size, fun k hk => (Below.heap_setCell u ⟨g, i, none⟩ x k (show k ≠ g from hk ⟨g, 0, none⟩ hp)).trans (h.block k hk)⟩
end Go.Proofs.YtdplfflkmphpbaaGreatDoor.W
namespace Go.Proofs.YtdplfflkmphpbaaGreatDoor.Pl
def tk (zs : List Int) (k : Nat) : List Int := zs.take k ++ List.replicate (zs.length - k) 0
end Go.Proofs.YtdplfflkmphpbaaGreatDoor.Pl
namespace Go.Proofs.YtdplfflkmphpbaaGreatDoor.W
open Go.RowKit
theorem conv_row {lo : Nat} (a : Option Addr) (len cap : Nat) (zs : List Int) (w : World) (h : Row .u8 lo w a len cap zs) : (convert 22 9 (.slice a len cap)).run Tryz.prog w = .ok (.string (strOfNums zs)) w := by
  obtain ⟨h1, _, _, _, h5⟩ := h
  rcases h5 with h5 | ⟨b, off, rfl, _, _, hc⟩
  · subst h5
    obtain rfl : zs = [] := List.eq_nil_of_length_eq_zero h1
    rw [run_convert_bytes_string w 22 9 5 _ 0 cap Tryz.underlying22 Tryz.underlying5 Tryz.underlying9]
    cases a <;> simp [Conv.bytesToString, loadCells]
    all_goals rfl
  · exact run_convert_bytes_arg w 22 5 Tryz.underlying22 Tryz.underlying5 b off len cap zs h1 hc 9 Tryz.underlying9
end Go.Proofs.YtdplfflkmphpbaaGreatDoor.W
namespace Go.Proofs.YtdplfflkmphpbaaGreatDoor.Pl
end Go.Proofs.YtdplfflkmphpbaaGreatDoor.Pl
namespace Go.Proofs.YtdplfflkmphpbaaGreatDoor.W
open Go.RowKit
end Go.Proofs.YtdplfflkmphpbaaGreatDoor.W
namespace Go.Proofs.YtdplfflkmphpbaaGreatDoor.Pl
def Tk.zero : Tk := ⟨0, ⟨#[]⟩, 0, 0, 0⟩
theorem Tk.all_cons (t : Tk) (ts : List Tk) : Tk.all (t :: ts) = .int .i64 t.k :: .string t.S :: .int .i64 t.N :: .int .i64 t.l :: .int .i64 t.c :: Tk.all ts := rfl
theorem Tk.all_length (ts : List Tk) : (Tk.all ts).length = ts.length * 5 := by
  induction ts with
  | nil => rfl
  | cons t ts ih => rw [Tk.all_cons]; simp [ih]; omega
theorem Tk.all_get : ∀ (ts : List Tk) (k j : Nat), k < ts.length → j < 5 → (Tk.all ts)[k * 5 + j]? = (ts.getD k Tk.zero).cells[j]?
  | [], k, j, hk, hj => by simp at hk
  | t :: ts, 0, j, hk, hj => by
    rw [Tk.all_cons]
    rcases j with _ | _ | _ | _ | _ | j
    · rfl
    · rfl
    · rfl
    · rfl
    · rfl
    · omega
  | t :: ts, k + 1, j, hk, hj => by
    rw [Tk.all_cons, show (k + 1) * 5 + j = (k * 5 + j) + 1 + 1 + 1 + 1 + 1 by omega]
    simp only [List.getElem?_cons_succ, List.getD_cons_succ]
    exact Tk.all_get ts k j (by simpa using hk) hj
end Go.Proofs.YtdplfflkmphpbaaGreatDoor.Pl
namespace Go.Proofs.YtdplfflkmphpbaaGreatDoor.W
open Go.RowKit
theorem tok_len {w : World} {lo len cap : Nat} {a : Option Addr} {ts : List Pl.Tk} (h : w.ownsRow lo 34 5 (.slice a len cap) len (Pl.Tk.all ts)) : ts.length = len ∧ len ≤ 9223372036854775807 := by
  have h1 := h.1
  rw [Pl.Tk.all_length] at h1
  refine ⟨by omega, ?_⟩
  rcases h.2 with ⟨h0, h2⟩ | ⟨g, c, cur, h0, _, _, hn, hc, _⟩
  · omega
  · unfold maxLen at hc; omega
theorem tok_at {w : World} {lo len cap : Nat} {a : Option Addr} {ts : List Pl.Tk} (h : w.ownsRow lo 34 5 (.slice a len cap) len (Pl.Tk.all ts)) {k : Nat} (hk : k < len) : ∃ g, a = some ⟨g, 0, none⟩ ∧ lo ≤ g ∧ g < w.heap.size ∧ ∃ x, x = ts.getD k Pl.Tk.zero ∧ w.cell? ⟨g, k * 5, none⟩ = some (.int .i64 x.k) ∧ w.cell? ⟨g, k * 5 + 1, none⟩ = some (.string x.S) ∧ w.cell? ⟨g, k * 5 + 2, none⟩ = some (.int .i64 x.N) ∧ w.cell? ⟨g, k * 5 + 3, none⟩ = some (.int .i64 x.l) ∧ w.cell? ⟨g, k * 5 + 4, none⟩ = some (.int .i64 x.c) := by
  have hl := (tok_len h).1
  obtain ⟨g, rfl, hlo, hg⟩ : ∃ g, a = some ⟨g, 0, none⟩ ∧ lo ≤ g ∧ g < w.heap.size := by
    rcases h.2 with ⟨h0, h2⟩ | ⟨g, c, cur, h0, hlo, hg, _⟩
    · omega
    · simp only [Value.slice.injEq] at h0
      exact ⟨g, h0.1, hlo, (Array.getElem?_eq_some_iff.1 hg).1⟩
  have c := fun j (hj : j < 5) => (h.cellAt (k * 5 + j) (by omega)).trans (Pl.Tk.all_get ts k j (by omega) hj)
  exact ⟨g, rfl, hlo, hg, _, rfl, c 0 (by omega), c 1 (by omega), c 2 (by omega), c 3 (by omega), c 4 (by omega)⟩
theorem own_keep {w w' : World} {B k n : Nat} {e : TypeId} {v : Value} {xs : List Value} (h : w.ownsRow B e k v n xs) (hb : Below w.heap.size w w') : w'.ownsRow B e k v n xs := by
  refine ⟨h.1, ?_⟩
  rcases h.2 with ⟨a, c⟩ | ⟨g, cap, cur, h0, hlo, hg, r⟩
  · exact .inl ⟨a, c⟩
  · exact .inr ⟨g, cap, cur, h0, hlo, (hb.block g (Array.getElem?_eq_some_iff.1 hg).1).trans hg, r⟩
end Go.Proofs.YtdplfflkmphpbaaGreatDoor.W
namespace Go.Proofs.YtdplfflkmphpbaaGreatDoor.W
open Go.RowKit
end Go.Proofs.YtdplfflkmphpbaaGreatDoor.W
namespace Go.Proofs.YtdplfflkmphpbaaGreatDoor.W
open Go.RowKit
end Go.Proofs.YtdplfflkmphpbaaGreatDoor.W
