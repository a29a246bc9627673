import Derived.Test.YtdplfflkmphpbaaGreatDoorT18
import Derived.Test.YtdplfflkmphpbaaGreatDoorT19
set_option linter.unusedVariables false
set_option linter.unusedSimpArgs false
namespace Go.Proofs.YtdplfflkmphpbaaGreatDoor.Pl
theorem Lx.len {s : ByteArray} {i : Nat} {acc : List Tk} {r : List Tk × Int × Int × Int} (h : Lx s i acc r) : acc.length ≤ 6000 → r.1.length ≤ 6001 := by
  induction h with
  | opn _ => exact fun _ => Nat.zero_le _
  | fin _ _ => intro q; simp; exact q
  | bad _ _ _ => exact fun _ => Nat.zero_le _
  | many _ _ _ _ => exact fun _ => Nat.zero_le _
  | go _ _ _ hl _ ih => exact fun _ => ih (by simp; omega)
end Go.Proofs.YtdplfflkmphpbaaGreatDoor.Pl
namespace Go.Proofs.YtdplfflkmphpbaaGreatDoor.W
open Go.RowKit
theorem LxAll.len {s : ByteArray} {r : List Pl.Tk × Int × Int × Int} (h : LxAll s r) : r.1.length ≤ 6001 := by
  rcases h with ⟨_, rfl⟩ | ⟨_, h⟩
  · exact Nat.zero_le _
  · exact h.len (Nat.zero_le _)
def TR (lo hi : Nat) (u : World) (a : Option Addr) (n cap : Nat) (ts : List Pl.Tk) : Prop := u.ownsRow lo 34 5 (.slice a n cap) n (Pl.Tk.all ts) ∧ ∀ g, (Value.slice a n cap).ownBlock = some g → lo ≤ g ∧ g < hi
theorem tr_other {B : Nat} {e : TypeId} {k : Nat} {v : Value} {n : Nat} {xs : List Value} {w w' : World} (h : w.ownsRow B e k v n xs) (hb : ∀ g, v.ownBlock = some g → w'.heap[g]? = w.heap[g]?) : w'.ownsRow B e k v n xs := by
  refine ⟨h.1, ?_⟩
  rcases h.2 with ⟨a, b⟩ | ⟨g, cap, cur, h0, hlo, hg, r⟩
  · exact .inl ⟨a, b⟩
  · exact .inr ⟨g, cap, cur, h0, hlo, (hb g (by rw [h0]; rfl)).trans hg, r⟩
theorem TR.keep {lo hi : Nat} {u u' : World} {a : Option Addr} {n cap : Nat} {ts : List Pl.Tk} (h : TR lo hi u a n cap ts) (hi' : hi ≤ u.heap.size) (d : Below u.heap.size u u') : TR lo hi u' a n cap ts :=
  ⟨tr_other h.1 fun g hg => d.block g (Nat.lt_of_lt_of_le (h.2 g hg).2 hi'), h.2⟩
theorem TR.grown {lo hi : Nat} {u u' : World} {a : Option Addr} {n cap : Nat} {ts : List Pl.Tk} {row : Option Nat} (h : TR lo hi u a n cap ts) (hi' : hi ≤ u.heap.size) (d : u.grownBy u' row) (hx : ∀ g, row = some g → hi ≤ g) : TR lo hi u' a n cap ts :=
  ⟨tr_other h.1 fun g hg => d.block g (Nat.lt_of_lt_of_le (h.2 g hg).2 hi') (fun e => by have := hx g e.symm; have := h.2 g hg; omega), h.2⟩
theorem LexSaid.got {base : Nat} {s : ByteArray} {e : Ending} {w : World} (h : LexSaid base s e w) : ∃ ts c l k a cap, LxAll s (ts, c, l, k) ∧ e = .returned (.tuple #[.slice a ts.length cap, .int .i64 c, .int .i64 l, .int .i64 k]) ∧ TR base w.heap.size w a ts.length cap ts := by
  obtain ⟨ts, c, l, k, v, hx, he, ho⟩ := h
  obtain ⟨a, cap, rfl⟩ := own_formG ho
  refine ⟨ts, c, l, k, a, cap, hx, he, ho, fun g hg => ?_⟩
  rcases ho.2 with ⟨x, y⟩ | ⟨g', c', cur, x, hlo, hg', _⟩
  · rw [x] at hg
    cases hg
  · rw [x] at hg
    cases hg
    exact ⟨hlo, (Array.getElem?_eq_some_iff.1 hg').1⟩
end Go.Proofs.YtdplfflkmphpbaaGreatDoor.W
