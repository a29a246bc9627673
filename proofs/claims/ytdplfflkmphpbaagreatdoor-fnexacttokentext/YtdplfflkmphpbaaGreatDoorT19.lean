import Derived.Test.YtdplfflkmphpbaaGreatDoorT18
import Derived.Test.YtdplfflkmphpbaaGreatDoorT13
import Derived.Deep.RegionWith
set_option linter.unusedVariables false
set_option linter.unusedSimpArgs false
namespace Go.Proofs.YtdplfflkmphpbaaGreatDoor.Pl
def Tk.zero : Tk := ⟨0, ⟨#[]⟩, 0, 0, 0⟩
theorem Tk.all_cons (t : Tk) (ts : List Tk) : Tk.all (t :: ts) = .int .i64 t.k :: .string t.S :: .int .i64 t.N :: .int .i64 t.l :: .int .i64 t.c :: Tk.all ts := rfl
theorem Tk.all_length (ts : List Tk) : (Tk.all ts).length = ts.length * 5 := by
  induction ts with
  | nil => rfl
  | cons t ts ih => rw [Tk.all_cons]; simp [ih]; omega
theorem Tk.all_get : ∀ (ts : List Tk) (k j : Nat), k < ts.length → j < 5 → (Tk.all ts)[k * 5 + j]? = (ts.getD k Tk.zero).cells[j]?
  | [], k, j, hk, hj => by simp at hk
  | t :: ts, 0, j, hk, hj => by
    rw [Tk.all_cons]
    rcases j with _ | _ | _ | _ | _ | j
    · rfl
    · rfl
    · rfl
    · rfl
    · rfl
    · omega
  | t :: ts, k + 1, j, hk, hj => by
    rw [Tk.all_cons, show (k + 1) * 5 + j = (k * 5 + j) + 1 + 1 + 1 + 1 + 1 by omega]
    simp only [List.getElem?_cons_succ, List.getD_cons_succ]
    exact Tk.all_get ts k j (by simpa using hk) hj
end Go.Proofs.YtdplfflkmphpbaaGreatDoor.Pl
namespace Go.Proofs.YtdplfflkmphpbaaGreatDoor.W
open Go.RowKit
theorem tok_len {w : World} {lo len cap : Nat} {a : Option Addr} {ts : List Pl.Tk} (h : w.ownsRow lo 34 5 (.slice a len cap) len (Pl.Tk.all ts)) : ts.length = len ∧ len ≤ 9223372036854775807 := by
  have h1 := h.1
  rw [Pl.Tk.all_length] at h1
  refine ⟨by omega, ?_⟩
  rcases h.2 with ⟨h0, h2⟩ | ⟨g, c, cur, h0, _, _, hn, hc, _⟩
  · omega
  · unfold maxLen at hc; omega
theorem tok_at {w : World} {lo len cap : Nat} {a : Option Addr} {ts : List Pl.Tk} (h : w.ownsRow lo 34 5 (.slice a len cap) len (Pl.Tk.all ts)) {k : Nat} (hk : k < len) : ∃ g, a = some ⟨g, 0, none⟩ ∧ lo ≤ g ∧ g < w.heap.size ∧ ∃ x, x = ts.getD k Pl.Tk.zero ∧ w.cell? ⟨g, k * 5, none⟩ = some (.int .i64 x.k) ∧ w.cell? ⟨g, k * 5 + 1, none⟩ = some (.string x.S) ∧ w.cell? ⟨g, k * 5 + 2, none⟩ = some (.int .i64 x.N) ∧ w.cell? ⟨g, k * 5 + 3, none⟩ = some (.int .i64 x.l) ∧ w.cell? ⟨g, k * 5 + 4, none⟩ = some (.int .i64 x.c) := by
  have hl := (tok_len h).1
  obtain ⟨g, rfl, hlo, hg⟩ : ∃ g, a = some ⟨g, 0, none⟩ ∧ lo ≤ g ∧ g < w.heap.size := by
    rcases h.2 with ⟨h0, h2⟩ | ⟨g, c, cur, h0, hlo, hg, _⟩
    · omega
    · simp only [Value.slice.injEq] at h0
      exact ⟨g, h0.1, hlo, (Array.getElem?_eq_some_iff.1 hg).1⟩
  have c := fun j (hj : j < 5) => (h.cellAt (k * 5 + j) (by omega)).trans (Pl.Tk.all_get ts k j (by omega) hj)
  exact ⟨g, rfl, hlo, hg, _, rfl, c 0 (by omega), c 1 (by omega), c 2 (by omega), c 3 (by omega), c 4 (by omega)⟩
end Go.Proofs.YtdplfflkmphpbaaGreatDoor.W
namespace Go.Proofs.YtdplfflkmphpbaaGreatDoor.W
open Go.RowKit
end Go.Proofs.YtdplfflkmphpbaaGreatDoor.W
namespace Go.Proofs.YtdplfflkmphpbaaGreatDoor.W
open Go.RowKit
end Go.Proofs.YtdplfflkmphpbaaGreatDoor.W
