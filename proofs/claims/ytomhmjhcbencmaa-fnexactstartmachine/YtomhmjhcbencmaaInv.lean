import Derived.Test.YtomhmjhcbencmaaSl
import Derived.RegionTactic
import Derived.Orders
set_option linter.unusedVariables false
namespace Go.Proofs.Ytomhmjhcbencmaa.W
open Go.RowKit
/-- how many operations have not come up yet -/
def unl (l : List Bool) : Nat := (l.map fun b => if b then 0 else 1).sum
theorem unl_set : ∀ (l : List Bool) (i : Nat), l[i]? = some false → unl (l.set i true) + 1 = unl l
  | [], i, h => by simp at h
  | b :: l, 0, h => by
    have hb : b = false := by simpa using h
    subst hb
    show unl (true :: l) + 1 = unl (false :: l)
    unfold unl
    simp
    omega
  | b :: l, i + 1, h => by
    have h' : l[i]? = some false := by simpa using h
    have ih := unl_set l i h'
    show unl (b :: l.set i true) + 1 = unl (b :: l)
    unfold unl at ih ⊢
    simp only [List.map_cons, List.sum_cons]
    omega
theorem unl_zero : ∀ (l : List Bool), unl l = 0 → ∀ (i : Nat), l[i]? ≠ some false
  | [], _, i => by simp
  | b :: l, h, i => by
    have hb : b = true ∧ unl l = 0 := by
      cases b
      · exfalso
        unfold unl at h
        simp at h
      · refine ⟨rfl, ?_⟩
        unfold unl at h ⊢
        simpa using h
    cases i with
    | zero => rw [hb.1]; simp
    | succ i => have := unl_zero l hb.2 i; simpa using this
section
variable {P : Program} {ops : Array Oper} {Q : Exit → Act → World → Prop} {md : Region.Mode}
theorem ready_false {L : Array Bool} (hs : L.size = ops.size) {i : Nat} (h : i ∈ Region.ready md ops L) : L.toList[i]? = some false := by
  obtain ⟨h1, o, ho, _⟩ := mem_ready.1 h
  have hi : i < L.size := by rw [hs]; exact (Array.getElem?_eq_some_iff.1 ho).1
  rw [Array.getElem?_toList]
  rw [Array.getD_eq_getD_getElem?, Array.getElem?_eq_getElem hi] at h1
  rw [Array.getElem?_eq_getElem hi]
  simpa using h1
def acyc (ops : Array Oper) : Bool := (List.range ops.size).all fun i => ((ops[i]?).map fun o => o.after.all fun e => decide (e.on < i)).getD true
theorem acyc_of (h : acyc ops = true) {i : Nat} {o : Oper} (ho : ops[i]? = some o) : ∀ e ∈ o.after, e.on < i := by
  unfold acyc at h
  rw [List.all_eq_true] at h
  have h1 := h i (List.mem_range.2 (Array.getElem?_eq_some_iff.1 ho).1)
  rw [ho] at h1
  simp only [Option.map_some, Option.getD_some] at h1
  intro e he
  exact of_decide_eq_true (Array.all_eq_true_iff_forall_mem.1 h1 e he)
theorem ready_nil_all (hac : acyc ops = true) {L : Array Bool} (hs : L.size = ops.size) (hr : Region.ready md ops L = []) : ∀ i, i < ops.size → L.getD i true = true := by
  intro i
  induction i using Nat.strongRecOn with
  | ind i ih =>
    intro hi
    cases hb : L.getD i true with
    | true => rfl
    | false =>
      exfalso
      have hm : i ∈ Region.ready md ops L := mem_ready.2 ⟨hb, ops[i], Array.getElem?_eq_getElem hi, fun e he _ => by
        have hlt := acyc_of hac (Array.getElem?_eq_getElem hi) e he
        have h1 := ih e.on hlt (by omega)
        have h2 : e.on < L.size := by omega
        simp [h2] at h1 ⊢
        exact h1⟩
      rw [hr] at hm
      cases hm
/-- a region that draws, by what holds at every state of it: each operation that may come up keeps it -/
theorem wpAny_inv (I : Array Bool → Act → World → Prop)
    (hdone : ∀ L a w, I L a w → L.size = ops.size → (∀ i, i < ops.size → L.getD i true = true) → Q .normal a w)
    (hall : ∀ L : Array Bool, L.size = ops.size → Region.ready md ops L = [] → ∀ i, i < ops.size → L.getD i true = true)
    (hstep : ∀ (L : Array Bool) (a : Act) (w : World) (i : Nat) (o : Oper), I L a w → L.size = ops.size → i ∈ Region.ready md ops L → ops[i]? = some o → ∀ K : Act → World → Prop, (∀ a w, I (L.setIfInBounds i true) a w → K a w) → if Region.wanted o (yielded ops a.tmps) = true then Oper.wp P o a w K Q else K (a.put o.dst undef) w) :
    ∀ (fuel : Nat) (L : Array Bool) (a : Act) (w : World), I L a w → L.size = ops.size → unl L.toList ≤ fuel → wpAny P md ops Q fuel L a w := by
  intro fuel
  induction fuel with
  | zero =>
    intro L a w hI hs hu
    have hr : Region.ready md ops L = [] := by
      cases hrr : Region.ready md ops L with
      | nil => rfl
      | cons i rs =>
        have := ready_false hs (i := i) (md := md) (by rw [hrr]; exact List.mem_cons_self)
        exact absurd this (unl_zero _ (by omega) i)
    exact ⟨hr, hdone L a w hI hs (hall L hs hr)⟩
  | succ fuel ih =>
    intro L a w hI hs hu
    refine ⟨fun hr => hdone L a w hI hs (hall L hs hr), fun i hi => ?_⟩
    obtain ⟨_, o, ho, _⟩ := mem_ready.1 hi
    refine wpOp_step ho fun K hK => hstep L a w i o hI hs hi ho K fun a' w' h' => hK a' w' (ih _ a' w' h' (by simpa using hs) ?_)
    have h1 := unl_set L.toList i (ready_false hs hi)
    rw [Array.toList_setIfInBounds]
    omega
end
end Go.Proofs.Ytomhmjhcbencmaa.W
