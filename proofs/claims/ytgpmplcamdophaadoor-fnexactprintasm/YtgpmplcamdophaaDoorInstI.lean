import Derived.Test.YtgpmplcamdophaaDoorForm
namespace Go.Proofs.YtgpmplcamdophaaDoor.W
open Go.RowKit
theorem heap_alloc_at (w : World) (o : Obj) (g : Nat) (h : w.heap.size = g) : (w.alloc o).heap[g]? = some o := by subst h; exact heap_alloc_new w o
theorem setRow_alloc_at (w : World) (c c' : Array Value) (t : TypeId) (g : Nat) (h : w.heap.size = g) : (w.alloc (.cells c t)).setRow g c' = w.alloc (.cells c' t) := by subst h; exact World.setRow_alloc_new w c c' t
set_option maxHeartbeats 400000 in
theorem immOk_any (im : Int) (f : Nat) (w : World) : Calls Tryd.prog 60 #[.int .i64 im, .agg (Pl.ruleV f)] w fun e w' => e = .returned (.bool (Pl.imo f im)) ∧ Below w.heap.size w w' := by
  unfold Pl.ruleV
  have hst := Pl.st_cases f
  have hs0 : ¬ Pl.st f = 0 := by omega
  by_cases h1 : Pl.lo f ≤ im
  · by_cases h2 : im ≤ Pl.hi f
    · have e : Pl.imo f im = (im.tmod (Pl.st f) == 0) := by simp [Pl.imo, h1, h2]
      rw [e]
      clear e
      go_enter Tryd.func60, Tryd.ntmps60
      go_wp2
      go_ret
      exact ⟨rfl, (Below.refl _ _).alloc (Nat.le_refl _) _⟩
    · have e : Pl.imo f im = false := by simp [Pl.imo, h2]
      rw [e]
      clear e
      go_enter Tryd.func60, Tryd.ntmps60
      go_wp2
      go_ret
      exact ⟨rfl, (Below.refl _ _).alloc (Nat.le_refl _) _⟩
  · have e : Pl.imo f im = false := by simp [Pl.imo, h1]
    rw [e]
    clear e
    have h3 : decide (Pl.lo f ≤ im) = false := by simpa using h1
    go_enter Tryd.func60, Tryd.ntmps60
    go_wp2
    go_ret
    exact ⟨rfl, (Below.refl _ _).alloc (Nat.le_refl _) _⟩
set_option maxHeartbeats 400000 in
theorem rowOf_at (k : Nat) (h1 : 1 ≤ k) (h2 : k ≤ 47) (w : World) : Calls Tryd.prog 58 #[.int .i64 k] w fun e w' => e = .returned (.tuple #[.agg (Pl.rowV k), .bool true]) ∧ w' = (w.alloc (.cells (Pl.rowV k) 80)).alloc (.cells Pl.instTab 101) := by
  have hi := fun w => tab_index w k (by omega)
  unfold Pl.rowV at hi
  go_enter Tryd.func58, Tryd.ntmps58
  go_wp2_with (go_at_call 73; refine (instTable_any _).mono ?_; rintro e w' ⟨rfl, rfl⟩)
  exact bodyPost_ret (v := .tuple #[.agg (Pl.rowV k), .bool true]) (by simp [results, Tryd.results58, go_sem, Pl.rowV]) rfl ⟨rfl, rfl⟩
theorem wpList_load_row_g {P : Program} {ops : Array Oper} {rest : List Oper} {o : Oper} {a : Act} {w : World} {Q : Exit → Act → World → Prop} (ty : TypeId) (x : Operand) (ho : o.op = .load ty x) (hw : Region.wanted o (yielded ops a.tmps) = true)
    (g : Nat) (hx : a.eval x = .pointer (some ⟨g, 0, none⟩)) (t : TypeId) (cs : Array Value) (fr : Nat × Nat) (d : TypeDesc) (hg : w.heap[g]? = some (.cells cs t fr))
    (hu : P.underlying ty = some d) (hd : (match d with | .struct _ | .array _ _ => true | _ => false) = true) (hi : (P.info? ty).map (·.size) = some cs.size)
    (h : wpList P ops Q rest (a.put o.dst (.agg cs)) w) : wpList P ops Q (o :: rest) a w := by
  unfold wpList
  rw [if_pos hw]
  exact Or.inl (wp_load_row ty x ho g hx t cs fr d hg hu hd hi h)
theorem fm_at (k : Nat) (h1 : 1 ≤ k) (h2 : k ≤ 47) : 1 ≤ Pl.fmN k ∧ Pl.fmN k ≤ 8 ∧ Pl.fm k = (Pl.fmN k : Int) := Pl.fm_cases k (by omega) h1
theorem implInstOk_no (n : Int) (h : n < 1 ∨ 47 < n) (rd r1 r2 im : Int) (w : World) : Calls Tryd.prog 41 #[.agg #[.int .i64 n, .int .i64 rd, .int .i64 r1, .int .i64 r2, .int .i64 im]] w fun e w' => e = .returned (.bool false) ∧ Below w.heap.size w w' := by
  go_enter Tryd.func41, Tryd.ntmps41
  go_wp2_with (go_at_call 58; refine (rowOf_no n h _).mono ?_; rintro e u1 ⟨rfl, hb1⟩; unfold rowZ)
  go_ret
  exact ⟨rfl, ((((Below.refl _ _).alloc (Nat.le_refl _) _)).trans (hb1.mono (by simp))).alloc (by have := hb1.size; simp at this; omega) _⟩
end Go.Proofs.YtgpmplcamdophaaDoor.W
