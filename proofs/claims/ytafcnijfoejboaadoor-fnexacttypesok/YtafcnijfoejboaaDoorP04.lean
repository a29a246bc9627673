import Derived.Test.YtafcnijfoejboaaDoorP00
import Derived.RegionTactic
import Derived.Orders
set_option linter.unusedVariables false
namespace Go.Proofs.YtafcnijfoejboaaDoor.W
open Go.RowKit
def unl (l : List Bool) : Nat := (l.map fun b => if b then 0 else 1).sum
theorem unl_set : ∀ (l : List Bool) (i : Nat), l[i]? = some false → unl (l.set i true) + 1 = unl l
  | [], i, h => by simp at h
  | b :: l, 0, h => by
    have hb : b = false := by simpa using h
    subst hb
    show unl (true :: l) + 1 = unl (false :: l)
    unfold unl
    simp
    omega
  | b :: l, i + 1, h => by
    have h' : l[i]? = some false := by simpa using h
    have ih := unl_set l i h'
    show unl (b :: l.set i true) + 1 = unl (b :: l)
    unfold unl at ih ⊢
    simp only [List.map_cons, List.sum_cons]
    omega
theorem unl_zero : ∀ (l : List Bool), unl l = 0 → ∀ (i : Nat), l[i]? ≠ some false
  | [], _, i => by simp
  | b :: l, h, i => by
    have hb : b = true ∧ unl l = 0 := by
      cases b
      · exfalso
        unfold unl at h
        simp at h
      · refine ⟨rfl, ?_⟩
        unfold unl at h ⊢
        simpa using h
    cases i with
    | zero => rw [hb.1]; simp
    | succ i => have := unl_zero l hb.2 i; simpa using this
section
variable {P : Program} {ops : Array Oper} {Q : Exit → Act → World → Prop} {md : Region.Mode}
theorem ready_false {L : Array Bool} (hs : L.size = ops.size) {i : Nat} (h : i ∈ Region.ready md ops L) : L.toList[i]? = some false := by
  obtain ⟨h1, o, ho, _⟩ := mem_ready.1 h
  have hi : i < L.size := by rw [hs]; exact (Array.getElem?_eq_some_iff.1 ho).1
  rw [Array.getElem?_toList]
  rw [Array.getD_eq_getD_getElem?, Array.getElem?_eq_getElem hi] at h1
  rw [Array.getElem?_eq_getElem hi]
  simpa using h1
def acyc (ops : Array Oper) : Bool := (List.range ops.size).all fun i => ((ops[i]?).map fun o => o.after.all fun e => decide (e.on < i)).getD true
theorem acyc_of (h : acyc ops = true) {i : Nat} {o : Oper} (ho : ops[i]? = some o) : ∀ e ∈ o.after, e.on < i := by
  unfold acyc at h
  rw [List.all_eq_true] at h
  have h1 := h i (List.mem_range.2 (Array.getElem?_eq_some_iff.1 ho).1)
  rw [ho] at h1
  simp only [Option.map_some, Option.getD_some] at h1
  intro e he
  exact of_decide_eq_true (Array.all_eq_true_iff_forall_mem.1 h1 e he)
theorem ready_nil_all (hac : acyc ops = true) {L : Array Bool} (hs : L.size = ops.size) (hr : Region.ready md ops L = []) : ∀ i, i < ops.size → L.getD i true = true := by
  intro i
  induction i using Nat.strongRecOn with
  | ind i ih =>
    intro hi
    cases hb : L.getD i true with
    | true => rfl
    | false =>
      exfalso
      have hm : i ∈ Region.ready md ops L := mem_ready.2 ⟨hb, ops[i], Array.getElem?_eq_getElem hi, fun e he _ => by
        have hlt := acyc_of hac (Array.getElem?_eq_getElem hi) e he
        have h1 := ih e.on hlt (by omega)
        have h2 : e.on < L.size := by omega
        simp [h2] at h1 ⊢
        exact h1⟩
      rw [hr] at hm
      cases hm
theorem wpAny_inv (I : Array Bool → Act → World → Prop)
    (hdone : ∀ L a w, I L a w → L.size = ops.size → (∀ i, i < ops.size → L.getD i true = true) → Q .normal a w)
    (hall : ∀ L : Array Bool, L.size = ops.size → Region.ready md ops L = [] → ∀ i, i < ops.size → L.getD i true = true)
    (hstep : ∀ (L : Array Bool) (a : Act) (w : World) (i : Nat) (o : Oper), I L a w → L.size = ops.size → i ∈ Region.ready md ops L → ops[i]? = some o → ∀ K : Act → World → Prop, (∀ a w, I (L.setIfInBounds i true) a w → K a w) → if Region.wanted o (yielded ops a.tmps) = true then Oper.wp P o a w K Q else K (a.put o.dst undef) w) :
    ∀ (fuel : Nat) (L : Array Bool) (a : Act) (w : World), I L a w → L.size = ops.size → unl L.toList ≤ fuel → wpAny P md ops Q fuel L a w := by
  intro fuel
  induction fuel with
  | zero =>
    intro L a w hI hs hu
    have hr : Region.ready md ops L = [] := by
      cases hrr : Region.ready md ops L with
      | nil => rfl
      | cons i rs =>
        have := ready_false hs (i := i) (md := md) (by rw [hrr]; exact List.mem_cons_self)
        exact absurd this (unl_zero _ (by omega) i)
    exact ⟨hr, hdone L a w hI hs (hall L hs hr)⟩
  | succ fuel ih =>
    intro L a w hI hs hu
    refine ⟨fun hr => hdone L a w hI hs (hall L hs hr), fun i hi => ?_⟩
    obtain ⟨_, o, ho, _⟩ := mem_ready.1 hi
    refine wpOp_step ho fun K hK => hstep L a w i o hI hs hi ho K fun a' w' h' => hK a' w' (ih _ a' w' h' (by simpa using hs) ?_)
    have h1 := unl_set L.toList i (ready_false hs hi)
    rw [Array.toList_setIfInBounds]
    omega
end
end Go.Proofs.YtafcnijfoejboaaDoor.W
namespace Go.Proofs.YtafcnijfoejboaaDoor.W
open Go.RowKit
def up (L : Array Bool) (j : Nat) : Bool := L.getD j false
theorem up_set {L : Array Bool} {i : Nat} (h : i < L.size) (j : Nat) : up (L.setIfInBounds i true) j = if i = j then true else up L j := by
  unfold up
  by_cases e : i = j
  · subst e; simp [h]
  · simp [e, Array.getElem?_setIfInBounds_ne e]
theorem up_mono {L : Array Bool} {i : Nat} (h : i < L.size) {j : Nat} (hj : up L j = true) : up (L.setIfInBounds i true) j = true := by
  rw [up_set h]; split
  · rfl
  · exact hj
theorem up_false {L : Array Bool} {i : Nat} (h : L.getD i true = false) : up L i = false := by
  unfold up
  rcases Nat.lt_or_ge i L.size with h' | h'
  · simp [h'] at h ⊢; exact h
  · simp [Array.getElem?_eq_none h'] at h
theorem up_of {L : Array Bool} {i : Nat} (h : L.getD i true = true) (hi : i < L.size) : up L i = true := by
  unfold up
  simp [hi] at h ⊢; exact h
def sl (L : Array Bool) (j : Nat) (v : Value) : Value := bif up L j then v else undef
theorem up_init (n j : Nat) : up (Array.replicate n false) j = false := by
  unfold up
  simp only [Array.getD_eq_getD_getElem?, Array.getElem?_replicate]
  split <;> rfl
section
variable {P : Program} {ops : Array Oper} {Q : Exit → Act → World → Prop} {md : Region.Mode}
def Clo (md : Region.Mode) (ops : Array Oper) (L : Array Bool) : Prop := ∀ (j : Nat) (o : Oper), ops[j]? = some o → up L j = true → ∀ e ∈ o.after, Region.binds md e = true → up L e.on = true
theorem Clo.no {L : Array Bool} (h : Clo md ops L) {i : Nat} (hi : up L i = false) (j : Nat) {o : Oper} (ho : ops[j]? = some o) (hd : (o.after.any fun e => Region.binds md e && e.on == i) = true) : up L j = false := by
  cases q : up L j
  · rfl
  · obtain ⟨k, hk, hb⟩ := Array.any_eq_true.1 hd
    rw [Bool.and_eq_true, beq_iff_eq] at hb
    have := h j o ho q _ (Array.getElem_mem hk) hb.1
    rw [hb.2, hi] at this
    cases this
theorem wpAny_inw (I : Array Bool → Act → World → Prop)
    (hdone : ∀ L a w, I L a w → (∀ i, i < ops.size → up L i = true) → Q .normal a w)
    (hac : acyc ops = true)
    (hstep : ∀ (L : Array Bool) (a : Act) (w : World) (i : Nat) (o : Oper), I L a w → i < L.size → L.size = ops.size → up L i = false → Clo md ops L → (∀ e ∈ o.after, Region.binds md e = true → up L e.on = true) → ops[i]? = some o → ∀ K : Act → World → Prop, (∀ a w, I (L.setIfInBounds i true) a w → K a w) → if Region.wanted o (yielded ops a.tmps) = true then Oper.wp P o a w K Q else K (a.put o.dst undef) w)
    (fuel n : Nat) (a : Act) (w : World) (hn : n = ops.size) (hI : I (Array.replicate n false) a w) (hf : n ≤ fuel) : wpAny P md ops Q fuel (Array.replicate n false) a w := by
  refine wpAny_inv (fun L a w => I L a w ∧ Clo md ops L ∧ L.size = ops.size) (fun L a w h hs ha => hdone L a w h.1 fun i hi => up_of (ha i hi) (by omega)) (fun L hs hr => ready_nil_all hac hs hr) (fun L a w i o h hs hi ho K hK => ?_) fuel _ a w ⟨hI, ?_, by simp [hn]⟩ (by simp [hn]) ?_
  · obtain ⟨h0, o', ho', hd⟩ := mem_ready.1 hi
    rw [ho] at ho'
    cases ho'
    have hlt : i < L.size := by rw [hs]; exact (Array.getElem?_eq_some_iff.1 ho).1
    have hd' : ∀ e ∈ o.after, Region.binds md e = true → up L e.on = true := hd
    refine hstep L a w i o h.1 hlt hs (up_false h0) h.2.1 hd' ho K fun a' w' h' => hK a' w' ⟨h', fun j oj hoj hj e he hb => ?_, by simpa using hs⟩
    rw [up_set hlt] at hj
    by_cases q : i = j
    · subst q
      rw [ho] at hoj
      cases hoj
      exact up_mono hlt (hd' e he hb)
    · rw [if_neg q] at hj
      exact up_mono hlt (h.2.1 j oj hoj hj e he hb)
  · intro j o ho hj
    rw [up_init] at hj
    cases hj
  · have : ∀ k : Nat, unl (List.replicate k false) = k := fun k => by
      induction k with
      | zero => rfl
      | succ k ih => show unl (false :: List.replicate k false) = k + 1; unfold unl at ih ⊢; rw [List.map_cons, List.sum_cons, ih]; simp; omega
    rw [Array.toList_replicate, this]
    exact hf
end
end Go.Proofs.YtafcnijfoejboaaDoor.W
namespace Go.Proofs.YtafcnijfoejboaaDoor.W
open Go.RowKit
theorem below_cell {w w' : World} (h : Below w.heap.size w w') {b k : Nat} {y : Value} (hc : w.cell? ⟨b, k, none⟩ = some y) : w'.cell? ⟨b, k, none⟩ = some y := (h.cell (block_lt_of_cell hc)).trans hc
def TwoW (U0 : World) (A B : World → Prop) (i j : Nat) (w1 : World) (L : Array Bool) (w : World) : Prop :=
  (up L i = false → w = U0) ∧ (up L i = true → A w1 ∧ (up L j = false → w = w1) ∧ (up L j = true → B w))
theorem TwoW.keep {U0 : World} {A B : World → Prop} {i j : Nat} {w1 : World} {L : Array Bool} {w : World} (h : TwoW U0 A B i j w1 L w) {k : Nat} (hk : k < L.size) (n1 : k ≠ i) (n2 : k ≠ j) : TwoW U0 A B i j w1 (L.setIfInBounds k true) w := by
  unfold TwoW at h ⊢
  rw [up_set hk, up_set hk, if_neg n1, if_neg n2]
  exact h
theorem TwoW.cell {U0 : World} {A B : World → Prop} {i j : Nat} {w1 : World} {L : Array Bool} {w : World} (h : TwoW U0 A B i j w1 L w) (n : up L j = false) {a : Addr} {y : Value} (hc : U0.cell? a = some y) (hA : A w1 → w1.cell? a = some y) : w.cell? a = some y := by
  cases q : up L i
  · rw [h.1 q]; exact hc
  · obtain ⟨h1, h2, _⟩ := h.2 q
    rw [h2 n]; exact hA h1
theorem TwoW.init {U0 : World} {A B : World → Prop} {i j n : Nat} {w1 : World} : TwoW U0 A B i j w1 (Array.replicate n false) U0 :=
  ⟨fun _ => rfl, fun q => absurd (q.symm.trans (up_init _ _)) (by decide)⟩
theorem TwoW.first {U0 : World} {A B : World → Prop} {i j : Nat} {w1 : World} {L : Array Bool} (hi : i < L.size) (hij : i ≠ j) (nj : up L j = false) (hA : A w1) : TwoW U0 A B i j w1 (L.setIfInBounds i true) w1 :=
  ⟨fun q => absurd (q.symm.trans ((up_set hi _).trans (if_pos rfl))) (by decide), fun _ => ⟨hA, fun _ => rfl, fun q => absurd (q.symm.trans ((up_set hi _).trans ((if_neg hij).trans nj))) (by decide)⟩⟩
end Go.Proofs.YtafcnijfoejboaaDoor.W
namespace Go.Proofs.YtafcnijfoejboaaDoor.W
open Go.RowKit
def OneW (U0 : World) (A : World → Prop) (i : Nat) (L : Array Bool) (w : World) : Prop := (up L i = false → w = U0) ∧ (up L i = true → A w)
theorem OneW.keep {U0 : World} {A : World → Prop} {i : Nat} {L : Array Bool} {w : World} (h : OneW U0 A i L w) {k : Nat} (hk : k < L.size) (n1 : k ≠ i) : OneW U0 A i (L.setIfInBounds k true) w := by
  unfold OneW at h ⊢
  rw [up_set hk, if_neg n1]
  exact h
theorem OneW.init {U0 : World} {A : World → Prop} {i n : Nat} : OneW U0 A i (Array.replicate n false) U0 :=
  ⟨fun _ => rfl, fun q => absurd (q.symm.trans (up_init _ _)) (by decide)⟩
theorem OneW.first {U0 : World} {A : World → Prop} {i : Nat} {L : Array Bool} {w : World} (hi : i < L.size) (hA : A w) : OneW U0 A i (L.setIfInBounds i true) w :=
  ⟨fun q => absurd (q.symm.trans ((up_set hi _).trans (if_pos rfl))) (by decide), fun _ => hA⟩
end Go.Proofs.YtafcnijfoejboaaDoor.W
namespace Go.Proofs.YtafcnijfoejboaaDoor.W
open Go.RowKit
def sld (d : Value) (L : Array Bool) (j : Nat) (v : Value) : Value := bif up L j then v else d
theorem sld_yes {d : Value} {L : Array Bool} {j : Nat} (h : up L j = true) (v : Value) : sld d L j v = v := by unfold sld; rw [h]; rfl
theorem sld_no {d : Value} {L : Array Bool} {j : Nat} (h : up L j = false) (v : Value) : sld d L j v = d := by unfold sld; rw [h]; rfl
theorem sld_set {d : Value} {L : Array Bool} {i : Nat} (h : i < L.size) (j : Nat) (v : Value) : sld d (L.setIfInBounds i true) j v = if i = j then v else sld d L j v := by
  unfold sld; rw [up_set h]; split <;> rfl
end Go.Proofs.YtafcnijfoejboaaDoor.W
