import Derived.WalkKit
import Derived.Below
import Derived.Laws.ResultCell
import Derived.Laws.Tables
import Derived.Deep.WholeRow
import Derived.Great.Walk
namespace Go.Proofs.YtgpmplcamdophaaDoor.Kit
open Go
/-- operations that only build aggregates, run one behind the other -/
def buildsRun (P : Program) : List Oper → Act → Option Act
  | [], a => some a
  | o :: os, a => match o.guard, o.op with
    | none, .build t parts => (P.built t (parts.map fun (i, x) => (i, a.eval x)).toList).bind fun cs => buildsRun P os (a.put o.dst (.agg cs))
    | _, _ => none
theorem wpList_allocBig {P : Program} {ops : Array Oper} {rest : List Oper} {o : Oper} {a : Act} {w : World} {Q : Exit → Act → World → Prop} (t : TypeId) (_ho : o.op = .alloc t) (hg : o.guard = none) (cells : Array Value)
    (hrun : (execOp a.eval o).run P w = .ok (.value (.pointer (some ⟨w.heap.size, 0, none⟩))) (w.alloc (.cells cells t)))
    (h : wpList P ops Q rest (a.put o.dst (.pointer (some ⟨w.heap.size, 0, none⟩))) (w.alloc (.cells cells t))) : wpList P ops Q (o :: rest) a w :=
  Great.wpList_allocTo hg _ rfl _ _ hrun h
theorem wpList_builds {P : Program} {ops : Array Oper} {Q : Exit → Act → World → Prop} {w : World} {rest : List Oper} (bs : List Oper) :
    ∀ a a', buildsRun P bs a = some a' → wpList P ops Q rest a' w → wpList P ops Q (bs ++ rest) a w := by
  induction bs with
  | nil => intro a a' h hk; simp [buildsRun] at h; subst h; exact hk
  | cons o os ih =>
    intro a a' h hk
    unfold buildsRun at h
    split at h
    · rename_i t parts hg ho
      cases hb : P.built t (parts.map fun (i, x) => (i, a.eval x)).toList with
      | none => rw [hb] at h; cases h
      | some cs =>
        rw [hb] at h
        refine wpList_build hg t parts ho (by rw [hb]; rfl) ?_
        rw [hb]
        exact ih _ _ h hk
    · cases h
theorem wpList_builds_store {P : Program} {ops : Array Oper} {Q : Exit → Act → World → Prop} {w : World} {rest : List Oper} {o : Oper} {a : Act} (n : Nat) (t : TypeId) (parts : Array (Nat × Operand)) (_ho : o.op = .build t parts)
    (so : Oper) (rest' : List Oper) (hd : (o :: rest).drop n = so :: rest') (hsg : so.guard = none) (ty : TypeId) (p : Tmp) (y : Operand) (hso : so.op = .store ty (.tmp p) y) (hdst : so.dst = none)
    (g : Nat) (cells : Array Value) (hrun : ((buildsRun P ((o :: rest).take n) a).map fun a' => (a'.tmps.getD p undef, a'.eval y, a'.defers.isEmpty)) = some (.pointer (some ⟨g, 0, none⟩), .agg cells, true))
    (tt : TypeId) (old : Array Value) (hg : w.heap[g]? = some (.cells old tt (0, 0))) (hi : (P.info? ty).map (·.size) = some cells.size) (hold : old.size = cells.size) (h1 : cells.all (·.oneCell') = true)
    (h : ∀ a' : Act, a'.tmps.getD p undef = .pointer (some ⟨g, 0, none⟩) → a'.defers = [] → wpList P ops Q rest' a' (w.setRow g cells)) : wpList P ops Q (o :: rest) a w := by
  cases hr : buildsRun P ((o :: rest).take n) a with
  | none => rw [hr] at hrun; cases hrun
  | some a' =>
    rw [hr] at hrun
    simp only [Option.map_some, Option.some.injEq, Prod.mk.injEq] at hrun
    obtain ⟨hp, hy, hdf⟩ := hrun
    have e : o :: rest = (o :: rest).take n ++ so :: rest' := by rw [← hd, List.take_append_drop]
    rw [e]
    refine wpList_builds _ _ _ hr ?_
    refine wpList_store_row hsg ty (.tmp p) y hso g cells hp hy tt old hg hi hold h1 ?_
    have hput : a'.put so.dst undef = a' := by rw [hdst]; rfl
    rw [hput]
    exact h a' hp (by simpa using hdf)
end Go.Proofs.YtgpmplcamdophaaDoor.Kit
