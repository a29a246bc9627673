import Derived.Test.YtomhmjhcbencmaaStM
import Derived.Test.YtomhmjhcbencmaaMacD
import Derived.Deep.RegionHeld
import Derived.Deep.Cut
import Derived.Deep.DeepCutAuto
import Derived.Deep.CutRange
set_option linter.unusedVariables false
set_option linter.unusedSimpArgs false
namespace Go.Proofs.Ytomhmjhcbencmaa.Pl
def regs0 : List Int := (List.replicate 32 0).set 2 2097152
/-- a machine that starts; none -/
def mStart (im : Img) (inp : List Int) : Mac := ⟨im.code, im.entry, regs0, im.data, List.replicate im.size.toNat 0, inp, [], 0, 0, 0⟩
def mNone : Mac := ⟨[], 0, [], [], [], [], [], 0, 0, 0⟩
end Go.Proofs.Ytomhmjhcbencmaa.Pl
namespace Go.Proofs.Ytomhmjhcbencmaa.W
open Go.RowKit
def vNone : MV := ⟨⟨none, 0, 0⟩, ⟨none, 0, 0⟩, ⟨none, 0, 0⟩, ⟨none, 0, 0⟩, ⟨none, 0, 0⟩, ⟨none, 0, 0⟩⟩
theorem Own.nil (k : IntKind) (e : TypeId) (lo : Nat) (w : World) : Own k e lo w none 0 0 [] := ⟨World.ownsRow_nil _ _ _ _, fun n hn => absurd hn List.not_mem_nil⟩
theorem vNone_own (lo : Nat) (w : World) : MOwn lo w vNone Pl.mNone := ⟨Own.nil _ _ _ _, Own.nil _ _ _ _, Own.nil _ _ _ _, Own.nil _ _ _ _, Own.nil _ _ _ _, Own.nil _ _ _ _⟩
theorem vNone_apart (t : Nat) : MApart t t vNone := by
  refine ⟨fun _ => t, fun _ => t, ⟨?_, ?_, ?_, ?_, ?_, ?_⟩, fun i _ => ⟨Nat.le_refl _, Nat.le_refl _⟩, fun i j _ _ _ => .inl (Nat.le_refl _)⟩ <;> (intro ad had; cases had)
theorem Own.weak {k : IntKind} {e : TypeId} {lo lo' : Nat} {w : World} {a : Option Addr} {len cap : Nat} {zs : List Int} (h : Own k e lo w a len cap zs) (hl : lo' ≤ lo) : Own k e lo' w a len cap zs := by
  obtain ⟨hown, hwf⟩ := h
  refine ⟨⟨hown.1, ?_⟩, hwf⟩
  rcases hown.2 with h0 | ⟨g, cap', cur, h0, hlo, hg, hr⟩
  · exact .inl h0
  · exact .inr ⟨g, cap', cur, h0, Nat.le_trans hl hlo, hg, hr⟩
theorem own_row {k : IntKind} {e : TypeId} {lo b n : Nat} {u : World} {cs : Array Value} {zs : List Int} (hg : u.heap[b]? = some (.cells cs e)) (hcs : cs.toList = zs.map (Value.int k)) (hn : zs.length = n) (hm : n ≤ maxLen) (hwf : ∀ x ∈ zs, (Lit.int k x).wf = true) (hlo : lo ≤ b) : Own k e lo u (some ⟨b, 0, none⟩) n n zs := by
  have hsz : cs.size = n := by rw [← Array.length_toList, hcs, List.length_map, hn]
  refine ⟨⟨by simp [hn], .inr ⟨b, n, cs, rfl, hlo, hg, Nat.le_refl _, hm, by rw [hsz, Nat.mul_one], ?_⟩⟩, hwf⟩
  rw [Nat.mul_one, hcs, List.take_of_length_le (by simp [hn])]
theorem made_zeros (k : IntKind) (n : Nat) : (madeCells (Value.int k 0).cells n).toList = (List.replicate n (0 : Int)).map (Value.int k) := by
  rw [show (Value.int k 0).cells = #[Value.int k 0] from rfl, toList_madeCells_one, List.map_replicate]
end Go.Proofs.Ytomhmjhcbencmaa.W
