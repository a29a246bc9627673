import Derived.Test.YtfcfnbncgadomaaQ20
import Derived.Laws.ResultCell
import Derived.Laws.Tables
set_option linter.unusedVariables false
set_option linter.unusedSimpArgs false
namespace Go.Proofs.Ytfcfnbncgadomaa.Pl
/-- what spec.RunMachine answers -/
def runM (m : Mac) (fuel : Int) : Mac := if 1 ≤ fuel ∧ goes m = true then run fuel.toNat m else m
end Go.Proofs.Ytfcfnbncgadomaa.Pl
namespace Go.Proofs.Ytfcfnbncgadomaa.W
open Go.RowKit
theorem load_row_gq {P : Program} {ops : Array Oper} {rest : List Oper} {o : Oper} {a : Act} {w : World} {Q : Exit → Act → World → Prop} (ty : TypeId) (x : Operand) (ho : o.op = .load ty x) (hw : Region.wanted o (yielded ops a.tmps) = true)
    (g : Nat) (hx : a.eval x = .pointer (some ⟨g, 0, none⟩)) (t : TypeId) (cs : Array Value) (fr : Nat × Nat) (d : TypeDesc) (hg : w.heap[g]? = some (.cells cs t fr))
    (hu : P.underlying ty = some d) (hd : (match d with | .struct _ | .array _ _ => true | _ => false) = true) (hi : (P.info? ty).map (·.size) = some cs.size)
    (h : wpList P ops Q rest (a.put o.dst (.agg cs)) w) : wpList P ops Q (o :: rest) a w := by
  unfold wpList
  rw [if_pos hw]
  exact Or.inl (wp_load_row ty x ho g hx t cs fr d hg hu hd hi h)
theorem MOwn.setRow_low {lo lo' g : Nat} {w : World} {v : MV} {m : Pl.Mac} {cs : Array Value} (h : MOwn lo w v m) (hl : lo' ≤ lo) (hg : g < lo) : MOwn lo' (w.setRow g cs) v m := by
  have q : ∀ {k e a len cap zs}, Own k e lo w a len cap zs → Own k e lo' (w.setRow g cs) a len cap zs := fun {k e a len cap zs} h =>
    (h.other fun x hx => setRow_other w g x cs (by have := own_at_blk h hx; omega)).lower hl
  exact ⟨q h.1, q h.2.1, q h.2.2.1, q h.2.2.2.1, q h.2.2.2.2.1, q h.2.2.2.2.2⟩
theorem Pl_run_stop {n : Nat} {m : Pl.Mac} (h : ¬ (m.fin = 0 ∧ m.steps < 1000000)) : Pl.run n m = m := by
  cases n with
  | zero => rfl
  | succ n => unfold Pl.run; rw [if_neg h]
theorem Pl_run_go {n : Nat} {m : Pl.Mac} (h : m.fin = 0 ∧ m.steps < 1000000) : Pl.run (n + 1) m = Pl.run n (Pl.step m) := by
  show (if _ then _ else _ : Pl.Mac) = _
  rw [if_pos h]
theorem Pl_vd_size {m : Pl.Mac} (h : Pl.Vd m) : Pl.mSize m ≤ 1048576 := by
  have := h.code; have := h.data; have := h.stk; have := h.inp; have := h.out; have := h.regs
  unfold Pl.mSize
  omega
set_option maxRecDepth 8000 in
set_option maxHeartbeats 4000000 in
theorem specRun_none {lo : Nat} (v : MV) (m : Pl.Mac) (w : World) (h : MIs lo w v m) (hsz : Pl.mSize m ≤ 1048576) (fuel : Int) (hf : fuel < 1) :
    Calls Try.prog 47 #[.agg #[.slice v.code.a v.code.len v.code.cap, .int .i64 m.pc, .slice v.regs.a v.regs.len v.regs.cap, .slice v.data.a v.data.len v.data.cap, .slice v.stk.a v.stk.len v.stk.cap, .slice v.inp.a v.inp.len v.inp.cap, .slice v.out.a v.out.len v.out.cap, .int .i64 m.steps, .int .i64 m.fin, .int .i64 m.val], .int .i64 fuel] w fun e w' => ∃ v' : MV, e = .returned (.agg #[.slice v'.code.a v'.code.len v'.code.cap, .int .i64 m.pc, .slice v'.regs.a v'.regs.len v'.regs.cap, .slice v'.data.a v'.data.len v'.data.cap, .slice v'.stk.a v'.stk.len v'.stk.cap, .slice v'.inp.a v'.inp.len v'.inp.cap, .slice v'.out.a v'.out.len v'.out.cap, .int .i64 m.steps, .int .i64 m.fin, .int .i64 m.val]) ∧ MOwn w.heap.size w' v' m ∧ MSep v' ∧ Below w.heap.size w w' := by
  have ef : decide (fuel < 1) = true := by simpa using hf
  have HI : Hid (MIs lo w v m) := h
  clear h
  go_enter Try.func47, Try.ntmps47
  have PB : Hid (((w.alloc (.cells #[.slice v.code.a v.code.len v.code.cap, .int .i64 m.pc, .slice v.regs.a v.regs.len v.regs.cap, .slice v.data.a v.data.len v.data.cap, .slice v.stk.a v.stk.len v.stk.cap, .slice v.inp.a v.inp.len v.inp.cap, .slice v.out.a v.out.len v.out.cap, .int .i64 m.steps, .int .i64 m.fin, .int .i64 m.val] 25)).alloc (.cells #[.slice none 0 0, .int .i64 0, .slice none 0 0, .slice none 0 0, .slice none 0 0, .slice none 0 0, .slice none 0 0, .int .i64 0, .int .i64 0, .int .i64 0] 25)).heap[w.heap.size]? = some (.cells #[.slice v.code.a v.code.len v.code.cap, .int .i64 m.pc, .slice v.regs.a v.regs.len v.regs.cap, .slice v.data.a v.data.len v.data.cap, .slice v.stk.a v.stk.len v.stk.cap, .slice v.inp.a v.inp.len v.inp.cap, .slice v.out.a v.out.len v.out.cap, .int .i64 m.steps, .int .i64 m.fin, .int .i64 m.val] 25)) := (Below.heap_alloc _ _ _ (by simp)).trans (heap_alloc_new w _)
  go_wp2_with (refine wpList_load_row rfl 25 _ rfl (w.heap.size) ?hx 25 #[.slice v.code.a v.code.len v.code.cap, .int .i64 m.pc, .slice v.regs.a v.regs.len v.regs.cap, .slice v.data.a v.data.len v.data.cap, .slice v.stk.a v.stk.len v.stk.cap, .slice v.inp.a v.inp.len v.inp.cap, .slice v.out.a v.out.len v.out.cap, .int .i64 m.steps, .int .i64 m.fin, .int .i64 m.val] (0, 0) _ ?hg Try.underlying25 ?hd ?hi ?_; (case hx => rfl); (case hg => exact PB.out); (case hd => rfl); (case hi => kernel_rfl))
  refine calls_at fun u0 hu0 => ?_
  have Q0 : u0.heap[w.heap.size]? = some (.cells #[.slice v.code.a v.code.len v.code.cap, .int .i64 m.pc, .slice v.regs.a v.regs.len v.regs.cap, .slice v.data.a v.data.len v.data.cap, .slice v.stk.a v.stk.len v.stk.cap, .slice v.inp.a v.inp.len v.inp.cap, .slice v.out.a v.out.len v.out.cap, .int .i64 m.steps, .int .i64 m.fin, .int .i64 m.val] 25) := by rw [hu0]; exact PB.out
  have X0 : u0.heap[w.heap.size + 1]? = some (.cells #[.slice none 0 0, .int .i64 0, .slice none 0 0, .slice none 0 0, .slice none 0 0, .slice none 0 0, .slice none 0 0, .int .i64 0, .int .i64 0, .int .i64 0] 25) := by
    rw [hu0]
    have := heap_alloc_new (w.alloc (.cells #[.slice v.code.a v.code.len v.code.cap, .int .i64 m.pc, .slice v.regs.a v.regs.len v.regs.cap, .slice v.data.a v.data.len v.data.cap, .slice v.stk.a v.stk.len v.stk.cap, .slice v.inp.a v.inp.len v.inp.cap, .slice v.out.a v.out.len v.out.cap, .int .i64 m.steps, .int .i64 m.fin, .int .i64 m.val] 25)) (.cells #[.slice none 0 0, .int .i64 0, .slice none 0 0, .slice none 0 0, .slice none 0 0, .slice none 0 0, .slice none 0 0, .int .i64 0, .int .i64 0, .int .i64 0] 25)
    simpa using this
  have B0 : Below w.heap.size w u0 := by rw [hu0]; exact ((Below.refl _ _).alloc (Nat.le_refl _) _).alloc (by simp) _
  have Z0 : u0.heap.size = w.heap.size + 2 := by rw [hu0]; simp
  clear hu0 PB
  refine (l3Copy_row v m u0 (HI.out.keep B0) hsz).mono ?_
  rintro e u1 ⟨v1, rfl, o1, p1, d1⟩
  have Q1 : Hid (u1.heap[w.heap.size]? = some (.cells #[.slice v.code.a v.code.len v.code.cap, .int .i64 m.pc, .slice v.regs.a v.regs.len v.regs.cap, .slice v.data.a v.data.len v.data.cap, .slice v.stk.a v.stk.len v.stk.cap, .slice v.inp.a v.inp.len v.inp.cap, .slice v.out.a v.out.len v.out.cap, .int .i64 m.steps, .int .i64 m.fin, .int .i64 m.val] 25)) := (d1.block _ (by omega)).trans Q0
  have X1 : Hid (u1.heap[w.heap.size + 1]? = some (.cells #[.slice none 0 0, .int .i64 0, .slice none 0 0, .slice none 0 0, .slice none 0 0, .slice none 0 0, .slice none 0 0, .int .i64 0, .int .i64 0, .int .i64 0] 25)) := (d1.block _ (by omega)).trans X0
  have B1 : Hid (Below w.heap.size w u1) := B0.trans (d1.mono (by omega))
  have Z1 : Hid (w.heap.size + 2 ≤ u1.heap.size) := by show w.heap.size + 2 ≤ u1.heap.size; have := d1.size; omega
  have O1 : Hid (MOwn (w.heap.size + 2) u1 v1 m ∧ MSep v1) := ⟨Z0 ▸ o1, p1⟩
  clear d1 Q0 X0 B0 Z0 o1 p1
  go_wp2_with (refine wpList_store_row rfl 25 _ _ rfl (u1.heap.size) #[.slice v1.code.a v1.code.len v1.code.cap, .int .i64 m.pc, .slice v1.regs.a v1.regs.len v1.regs.cap, .slice v1.data.a v1.data.len v1.data.cap, .slice v1.stk.a v1.stk.len v1.stk.cap, .slice v1.inp.a v1.inp.len v1.inp.cap, .slice v1.out.a v1.out.len v1.out.cap, .int .i64 m.steps, .int .i64 m.fin, .int .i64 m.val] ?hx ?hy 25 #[.slice none 0 0, .int .i64 0, .slice none 0 0, .slice none 0 0, .slice none 0 0, .slice none 0 0, .slice none 0 0, .int .i64 0, .int .i64 0, .int .i64 0] ?hg ?hi ?ho ?h1 ?_; (case hx => rfl); (case hy => rfl); (case hg => exact heap_alloc_new u1 _); (case hi => kernel_rfl); (case ho => kernel_rfl); (case h1 => kernel_rfl); refine Hid.out ?_)
  unfold Hid
  rw [World.setRow_alloc_new]
  refine wpList_at fun u2 hu2 => ?_
  have E2 : Hid (u2.heap[u1.heap.size]? = some (.cells #[.slice v1.code.a v1.code.len v1.code.cap, .int .i64 m.pc, .slice v1.regs.a v1.regs.len v1.regs.cap, .slice v1.data.a v1.data.len v1.data.cap, .slice v1.stk.a v1.stk.len v1.stk.cap, .slice v1.inp.a v1.inp.len v1.inp.cap, .slice v1.out.a v1.out.len v1.out.cap, .int .i64 m.steps, .int .i64 m.fin, .int .i64 m.val] 25)) := by rw [hu2]; exact heap_alloc_new u1 _
  have D2 : Below u1.heap.size u1 u2 := by rw [hu2]; exact below_alloc u1 _
  have S2 : Hid (u2.heap.size = u1.heap.size + 1) := by show u2.heap.size = _; rw [hu2]; simp
  have Q2 : Hid (u2.heap[w.heap.size]? = some (.cells #[.slice v.code.a v.code.len v.code.cap, .int .i64 m.pc, .slice v.regs.a v.regs.len v.regs.cap, .slice v.data.a v.data.len v.data.cap, .slice v.stk.a v.stk.len v.stk.cap, .slice v.inp.a v.inp.len v.inp.cap, .slice v.out.a v.out.len v.out.cap, .int .i64 m.steps, .int .i64 m.fin, .int .i64 m.val] 25)) := (D2.block _ (by have := Z1.out; omega)).trans Q1.out
  have X2 : Hid (u2.heap[w.heap.size + 1]? = some (.cells #[.slice none 0 0, .int .i64 0, .slice none 0 0, .slice none 0 0, .slice none 0 0, .slice none 0 0, .slice none 0 0, .int .i64 0, .int .i64 0, .int .i64 0] 25)) := (D2.block _ (by have := Z1.out; omega)).trans X1.out
  have B2 : Hid (Below w.heap.size w u2) := B1.out.trans (D2.mono (by have := Z1.out; omega))
  have DD : Hid (Below u1.heap.size u1 u2) := D2
  clear hu2 D2
  clear hf
  go_wp2_with (first | (refine wpList_load_row rfl 25 _ rfl (u1.heap.size) ?hx 25 #[.slice v1.code.a v1.code.len v1.code.cap, .int .i64 m.pc, .slice v1.regs.a v1.regs.len v1.regs.cap, .slice v1.data.a v1.data.len v1.data.cap, .slice v1.stk.a v1.stk.len v1.stk.cap, .slice v1.inp.a v1.inp.len v1.inp.cap, .slice v1.out.a v1.out.len v1.out.cap, .int .i64 m.steps, .int .i64 m.fin, .int .i64 m.val] (0, 0) _ ?hg Try.underlying25 ?hd ?hi ?_; (case hx => rfl); (case hg => exact E2.out); (case hd => rfl); (case hi => kernel_rfl)) | (refine wpList_store_row rfl 25 _ _ rfl (w.heap.size + 1) #[.slice v1.code.a v1.code.len v1.code.cap, .int .i64 m.pc, .slice v1.regs.a v1.regs.len v1.regs.cap, .slice v1.data.a v1.data.len v1.data.cap, .slice v1.stk.a v1.stk.len v1.stk.cap, .slice v1.inp.a v1.inp.len v1.inp.cap, .slice v1.out.a v1.out.len v1.out.cap, .int .i64 m.steps, .int .i64 m.fin, .int .i64 m.val] ?hx ?hy 25 #[.slice none 0 0, .int .i64 0, .slice none 0 0, .slice none 0 0, .slice none 0 0, .slice none 0 0, .slice none 0 0, .int .i64 0, .int .i64 0, .int .i64 0] ?hg ?hi ?ho ?h1 ?_; (case hx => rfl); (case hy => rfl); (case hg => exact X2.out); (case hi => kernel_rfl); (case ho => kernel_rfl); (case h1 => kernel_rfl); refine Hid.out ?_))
  unfold Hid
  go_wp2_with fail
  refine bodyPost_ret (v := .agg #[.slice v1.code.a v1.code.len v1.code.cap, .int .i64 m.pc, .slice v1.regs.a v1.regs.len v1.regs.cap, .slice v1.data.a v1.data.len v1.data.cap, .slice v1.stk.a v1.stk.len v1.stk.cap, .slice v1.inp.a v1.inp.len v1.inp.cap, .slice v1.out.a v1.out.len v1.out.cap, .int .i64 m.steps, .int .i64 m.fin, .int .i64 m.val]) ?hres rfl ⟨v1, rfl, (O1.out.1.keep DD.out).setRow_low (by omega) (by omega), O1.out.2, below_setRow B2.out (by omega) _⟩
  case hres =>
    refine results_cell_row Try.results47 _ _ (w.heap.size + 1) 25 #[.slice v1.code.a v1.code.len v1.code.cap, .int .i64 m.pc, .slice v1.regs.a v1.regs.len v1.regs.cap, .slice v1.data.a v1.data.len v1.data.cap, .slice v1.stk.a v1.stk.len v1.stk.cap, .slice v1.inp.a v1.inp.len v1.inp.cap, .slice v1.out.a v1.out.len v1.out.cap, .int .i64 m.steps, .int .i64 m.fin, .int .i64 m.val] (0, 0) _ ?hp ?hg Try.underlying25 ?hd ?hi
    case hp => rfl
    case hg => exact setRow_heap _ _ _ _ _ _ X2.out
    case hd => rfl
    case hi => kernel_rfl
set_option maxRecDepth 8000 in
set_option maxHeartbeats 4000000 in
theorem specRun_no {lo : Nat} (v : MV) (m : Pl.Mac) (w : World) (h : MIs lo w v m) (hsz : Pl.mSize m ≤ 1048576) (fuel : Int) (hf : 1 ≤ fuel) (hn : Pl.goes m = false) :
    Calls Try.prog 47 #[.agg #[.slice v.code.a v.code.len v.code.cap, .int .i64 m.pc, .slice v.regs.a v.regs.len v.regs.cap, .slice v.data.a v.data.len v.data.cap, .slice v.stk.a v.stk.len v.stk.cap, .slice v.inp.a v.inp.len v.inp.cap, .slice v.out.a v.out.len v.out.cap, .int .i64 m.steps, .int .i64 m.fin, .int .i64 m.val], .int .i64 fuel] w fun e w' => ∃ v' : MV, e = .returned (.agg #[.slice v'.code.a v'.code.len v'.code.cap, .int .i64 m.pc, .slice v'.regs.a v'.regs.len v'.regs.cap, .slice v'.data.a v'.data.len v'.data.cap, .slice v'.stk.a v'.stk.len v'.stk.cap, .slice v'.inp.a v'.inp.len v'.inp.cap, .slice v'.out.a v'.out.len v'.out.cap, .int .i64 m.steps, .int .i64 m.fin, .int .i64 m.val]) ∧ MOwn w.heap.size w' v' m ∧ MSep v' ∧ Below w.heap.size w w' := by
  have ef : decide (fuel < 1) = false := by simp; omega
  have HI : Hid (MIs lo w v m) := h
  clear h
  go_enter Try.func47, Try.ntmps47
  have PB : Hid (((w.alloc (.cells #[.slice v.code.a v.code.len v.code.cap, .int .i64 m.pc, .slice v.regs.a v.regs.len v.regs.cap, .slice v.data.a v.data.len v.data.cap, .slice v.stk.a v.stk.len v.stk.cap, .slice v.inp.a v.inp.len v.inp.cap, .slice v.out.a v.out.len v.out.cap, .int .i64 m.steps, .int .i64 m.fin, .int .i64 m.val] 25)).alloc (.cells #[.slice none 0 0, .int .i64 0, .slice none 0 0, .slice none 0 0, .slice none 0 0, .slice none 0 0, .slice none 0 0, .int .i64 0, .int .i64 0, .int .i64 0] 25)).heap[w.heap.size]? = some (.cells #[.slice v.code.a v.code.len v.code.cap, .int .i64 m.pc, .slice v.regs.a v.regs.len v.regs.cap, .slice v.data.a v.data.len v.data.cap, .slice v.stk.a v.stk.len v.stk.cap, .slice v.inp.a v.inp.len v.inp.cap, .slice v.out.a v.out.len v.out.cap, .int .i64 m.steps, .int .i64 m.fin, .int .i64 m.val] 25)) := (Below.heap_alloc _ _ _ (by simp)).trans (heap_alloc_new w _)
  go_wp2_with (refine wpList_load_row rfl 25 _ rfl (w.heap.size) ?hx 25 #[.slice v.code.a v.code.len v.code.cap, .int .i64 m.pc, .slice v.regs.a v.regs.len v.regs.cap, .slice v.data.a v.data.len v.data.cap, .slice v.stk.a v.stk.len v.stk.cap, .slice v.inp.a v.inp.len v.inp.cap, .slice v.out.a v.out.len v.out.cap, .int .i64 m.steps, .int .i64 m.fin, .int .i64 m.val] (0, 0) _ ?hg Try.underlying25 ?hd ?hi ?_; (case hx => rfl); (case hg => exact PB.out); (case hd => rfl); (case hi => kernel_rfl))
  refine calls_at fun u0 hu0 => ?_
  have Q0 : u0.heap[w.heap.size]? = some (.cells #[.slice v.code.a v.code.len v.code.cap, .int .i64 m.pc, .slice v.regs.a v.regs.len v.regs.cap, .slice v.data.a v.data.len v.data.cap, .slice v.stk.a v.stk.len v.stk.cap, .slice v.inp.a v.inp.len v.inp.cap, .slice v.out.a v.out.len v.out.cap, .int .i64 m.steps, .int .i64 m.fin, .int .i64 m.val] 25) := by rw [hu0]; exact PB.out
  have X0 : u0.heap[w.heap.size + 1]? = some (.cells #[.slice none 0 0, .int .i64 0, .slice none 0 0, .slice none 0 0, .slice none 0 0, .slice none 0 0, .slice none 0 0, .int .i64 0, .int .i64 0, .int .i64 0] 25) := by
    rw [hu0]
    have := heap_alloc_new (w.alloc (.cells #[.slice v.code.a v.code.len v.code.cap, .int .i64 m.pc, .slice v.regs.a v.regs.len v.regs.cap, .slice v.data.a v.data.len v.data.cap, .slice v.stk.a v.stk.len v.stk.cap, .slice v.inp.a v.inp.len v.inp.cap, .slice v.out.a v.out.len v.out.cap, .int .i64 m.steps, .int .i64 m.fin, .int .i64 m.val] 25)) (.cells #[.slice none 0 0, .int .i64 0, .slice none 0 0, .slice none 0 0, .slice none 0 0, .slice none 0 0, .slice none 0 0, .int .i64 0, .int .i64 0, .int .i64 0] 25)
    simpa using this
  have B0 : Below w.heap.size w u0 := by rw [hu0]; exact ((Below.refl _ _).alloc (Nat.le_refl _) _).alloc (by simp) _
  have Z0 : u0.heap.size = w.heap.size + 2 := by rw [hu0]; simp
  clear hu0 PB
  refine (l3Copy_row v m u0 (HI.out.keep B0) hsz).mono ?_
  rintro e u1 ⟨v1, rfl, o1, p1, d1⟩
  have Q1 : Hid (u1.heap[w.heap.size]? = some (.cells #[.slice v.code.a v.code.len v.code.cap, .int .i64 m.pc, .slice v.regs.a v.regs.len v.regs.cap, .slice v.data.a v.data.len v.data.cap, .slice v.stk.a v.stk.len v.stk.cap, .slice v.inp.a v.inp.len v.inp.cap, .slice v.out.a v.out.len v.out.cap, .int .i64 m.steps, .int .i64 m.fin, .int .i64 m.val] 25)) := (d1.block _ (by omega)).trans Q0
  have X1 : Hid (u1.heap[w.heap.size + 1]? = some (.cells #[.slice none 0 0, .int .i64 0, .slice none 0 0, .slice none 0 0, .slice none 0 0, .slice none 0 0, .slice none 0 0, .int .i64 0, .int .i64 0, .int .i64 0] 25)) := (d1.block _ (by omega)).trans X0
  have B1 : Hid (Below w.heap.size w u1) := B0.trans (d1.mono (by omega))
  have Z1 : Hid (w.heap.size + 2 ≤ u1.heap.size) := by show w.heap.size + 2 ≤ u1.heap.size; have := d1.size; omega
  have O1 : Hid (MOwn (w.heap.size + 2) u1 v1 m ∧ MSep v1) := ⟨Z0 ▸ o1, p1⟩
  clear d1 Q0 X0 B0 Z0 o1 p1
  go_wp2_with (refine wpList_store_row rfl 25 _ _ rfl (u1.heap.size) #[.slice v1.code.a v1.code.len v1.code.cap, .int .i64 m.pc, .slice v1.regs.a v1.regs.len v1.regs.cap, .slice v1.data.a v1.data.len v1.data.cap, .slice v1.stk.a v1.stk.len v1.stk.cap, .slice v1.inp.a v1.inp.len v1.inp.cap, .slice v1.out.a v1.out.len v1.out.cap, .int .i64 m.steps, .int .i64 m.fin, .int .i64 m.val] ?hx ?hy 25 #[.slice none 0 0, .int .i64 0, .slice none 0 0, .slice none 0 0, .slice none 0 0, .slice none 0 0, .slice none 0 0, .int .i64 0, .int .i64 0, .int .i64 0] ?hg ?hi ?ho ?h1 ?_; (case hx => rfl); (case hy => rfl); (case hg => exact heap_alloc_new u1 _); (case hi => kernel_rfl); (case ho => kernel_rfl); (case h1 => kernel_rfl); refine Hid.out ?_)
  unfold Hid
  rw [World.setRow_alloc_new]
  refine wpList_at fun u2 hu2 => ?_
  have E2 : Hid (u2.heap[u1.heap.size]? = some (.cells #[.slice v1.code.a v1.code.len v1.code.cap, .int .i64 m.pc, .slice v1.regs.a v1.regs.len v1.regs.cap, .slice v1.data.a v1.data.len v1.data.cap, .slice v1.stk.a v1.stk.len v1.stk.cap, .slice v1.inp.a v1.inp.len v1.inp.cap, .slice v1.out.a v1.out.len v1.out.cap, .int .i64 m.steps, .int .i64 m.fin, .int .i64 m.val] 25)) := by rw [hu2]; exact heap_alloc_new u1 _
  have D2 : Below u1.heap.size u1 u2 := by rw [hu2]; exact below_alloc u1 _
  have S2 : Hid (u2.heap.size = u1.heap.size + 1) := by show u2.heap.size = _; rw [hu2]; simp
  have Q2 : Hid (u2.heap[w.heap.size]? = some (.cells #[.slice v.code.a v.code.len v.code.cap, .int .i64 m.pc, .slice v.regs.a v.regs.len v.regs.cap, .slice v.data.a v.data.len v.data.cap, .slice v.stk.a v.stk.len v.stk.cap, .slice v.inp.a v.inp.len v.inp.cap, .slice v.out.a v.out.len v.out.cap, .int .i64 m.steps, .int .i64 m.fin, .int .i64 m.val] 25)) := (D2.block _ (by have := Z1.out; omega)).trans Q1.out
  have X2 : Hid (u2.heap[w.heap.size + 1]? = some (.cells #[.slice none 0 0, .int .i64 0, .slice none 0 0, .slice none 0 0, .slice none 0 0, .slice none 0 0, .slice none 0 0, .int .i64 0, .int .i64 0, .int .i64 0] 25)) := (D2.block _ (by have := Z1.out; omega)).trans X1.out
  have B2 : Hid (Below w.heap.size w u2) := B1.out.trans (D2.mono (by have := Z1.out; omega))
  have DD : Hid (Below u1.heap.size u1 u2) := D2
  clear hu2 D2
  clear hf
  go_wp2_with (refine load_row_gq 25 _ rfl (by kernel_rfl) (w.heap.size) ?hx 25 #[.slice v.code.a v.code.len v.code.cap, .int .i64 m.pc, .slice v.regs.a v.regs.len v.regs.cap, .slice v.data.a v.data.len v.data.cap, .slice v.stk.a v.stk.len v.stk.cap, .slice v.inp.a v.inp.len v.inp.cap, .slice v.out.a v.out.len v.out.cap, .int .i64 m.steps, .int .i64 m.fin, .int .i64 m.val] (0, 0) _ ?hg Try.underlying25 ?hd ?hi ?_; (case hx => rfl); (case hg => exact Q2.out); (case hd => rfl); (case hi => kernel_rfl))
  refine (l3Goes_any v m u2 (HI.out.keep B2.out)).mono ?_
  rintro e u3 ⟨rfl, d3⟩
  rw [hn]
  have E3 : Hid (u3.heap[u1.heap.size]? = some (.cells #[.slice v1.code.a v1.code.len v1.code.cap, .int .i64 m.pc, .slice v1.regs.a v1.regs.len v1.regs.cap, .slice v1.data.a v1.data.len v1.data.cap, .slice v1.stk.a v1.stk.len v1.stk.cap, .slice v1.inp.a v1.inp.len v1.inp.cap, .slice v1.out.a v1.out.len v1.out.cap, .int .i64 m.steps, .int .i64 m.fin, .int .i64 m.val] 25)) := (d3.block _ (by have := S2.out; omega)).trans E2.out
  have X3 : Hid (u3.heap[w.heap.size + 1]? = some (.cells #[.slice none 0 0, .int .i64 0, .slice none 0 0, .slice none 0 0, .slice none 0 0, .slice none 0 0, .slice none 0 0, .int .i64 0, .int .i64 0, .int .i64 0] 25)) := (d3.block _ (by have := S2.out; have := Z1.out; omega)).trans X2.out
  have B3 : Hid (Below w.heap.size w u3) := B2.out.trans (d3.mono (by have := S2.out; have := Z1.out; omega))
  have D3 : Hid (Below u1.heap.size u1 u3) := DD.out.trans (d3.mono (by have := S2.out; omega))
  clear d3
  go_wp2_with (first | (refine wpList_load_row rfl 25 _ rfl (u1.heap.size) ?hx 25 #[.slice v1.code.a v1.code.len v1.code.cap, .int .i64 m.pc, .slice v1.regs.a v1.regs.len v1.regs.cap, .slice v1.data.a v1.data.len v1.data.cap, .slice v1.stk.a v1.stk.len v1.stk.cap, .slice v1.inp.a v1.inp.len v1.inp.cap, .slice v1.out.a v1.out.len v1.out.cap, .int .i64 m.steps, .int .i64 m.fin, .int .i64 m.val] (0, 0) _ ?hg Try.underlying25 ?hd ?hi ?_; (case hx => rfl); (case hg => exact E3.out); (case hd => rfl); (case hi => kernel_rfl)) | (refine wpList_store_row rfl 25 _ _ rfl (w.heap.size + 1) #[.slice v1.code.a v1.code.len v1.code.cap, .int .i64 m.pc, .slice v1.regs.a v1.regs.len v1.regs.cap, .slice v1.data.a v1.data.len v1.data.cap, .slice v1.stk.a v1.stk.len v1.stk.cap, .slice v1.inp.a v1.inp.len v1.inp.cap, .slice v1.out.a v1.out.len v1.out.cap, .int .i64 m.steps, .int .i64 m.fin, .int .i64 m.val] ?hx ?hy 25 #[.slice none 0 0, .int .i64 0, .slice none 0 0, .slice none 0 0, .slice none 0 0, .slice none 0 0, .slice none 0 0, .int .i64 0, .int .i64 0, .int .i64 0] ?hg ?hi ?ho ?h1 ?_; (case hx => rfl); (case hy => rfl); (case hg => exact X3.out); (case hi => kernel_rfl); (case ho => kernel_rfl); (case h1 => kernel_rfl); refine Hid.out ?_))
  unfold Hid
  go_wp2_with fail
  refine bodyPost_ret (v := .agg #[.slice v1.code.a v1.code.len v1.code.cap, .int .i64 m.pc, .slice v1.regs.a v1.regs.len v1.regs.cap, .slice v1.data.a v1.data.len v1.data.cap, .slice v1.stk.a v1.stk.len v1.stk.cap, .slice v1.inp.a v1.inp.len v1.inp.cap, .slice v1.out.a v1.out.len v1.out.cap, .int .i64 m.steps, .int .i64 m.fin, .int .i64 m.val]) ?hres rfl ⟨v1, rfl, (O1.out.1.keep D3.out).setRow_low (by omega) (by omega), O1.out.2, below_setRow B3.out (by omega) _⟩
  case hres =>
    refine results_cell_row Try.results47 _ _ (w.heap.size + 1) 25 #[.slice v1.code.a v1.code.len v1.code.cap, .int .i64 m.pc, .slice v1.regs.a v1.regs.len v1.regs.cap, .slice v1.data.a v1.data.len v1.data.cap, .slice v1.stk.a v1.stk.len v1.stk.cap, .slice v1.inp.a v1.inp.len v1.inp.cap, .slice v1.out.a v1.out.len v1.out.cap, .int .i64 m.steps, .int .i64 m.fin, .int .i64 m.val] (0, 0) _ ?hp ?hg Try.underlying25 ?hd ?hi
    case hp => rfl
    case hg => exact setRow_heap _ _ _ _ _ _ X3.out
    case hd => rfl
    case hi => kernel_rfl
set_option maxRecDepth 8000 in
set_option maxHeartbeats 4000000 in
theorem specRun_yes {lo : Nat} (v : MV) (m : Pl.Mac) (w : World) (h : MIs lo w v m) (hsz : Pl.mSize m ≤ 1048576) (fuel : Int) (hf : 1 ≤ fuel) (hff : fuel ≤ 9223372036854775807) (hn : Pl.goes m = true) :
    Calls Try.prog 47 #[.agg #[.slice v.code.a v.code.len v.code.cap, .int .i64 m.pc, .slice v.regs.a v.regs.len v.regs.cap, .slice v.data.a v.data.len v.data.cap, .slice v.stk.a v.stk.len v.stk.cap, .slice v.inp.a v.inp.len v.inp.cap, .slice v.out.a v.out.len v.out.cap, .int .i64 m.steps, .int .i64 m.fin, .int .i64 m.val], .int .i64 fuel] w fun e w' => ∃ (v' : MV) (mm : Pl.Mac), mm = Pl.run fuel.toNat m ∧ e = .returned (.agg #[.slice v'.code.a v'.code.len v'.code.cap, .int .i64 mm.pc, .slice v'.regs.a v'.regs.len v'.regs.cap, .slice v'.data.a v'.data.len v'.data.cap, .slice v'.stk.a v'.stk.len v'.stk.cap, .slice v'.inp.a v'.inp.len v'.inp.cap, .slice v'.out.a v'.out.len v'.out.cap, .int .i64 mm.steps, .int .i64 mm.fin, .int .i64 mm.val]) ∧ MOwn w.heap.size w' v' mm ∧ MSep v' ∧ Below w.heap.size w w' := by
  have ef : decide (fuel < 1) = false := by simp; omega
  have HI : Hid (MIs lo w v m) := h
  clear h
  go_enter Try.func47, Try.ntmps47
  have PB : Hid (((w.alloc (.cells #[.slice v.code.a v.code.len v.code.cap, .int .i64 m.pc, .slice v.regs.a v.regs.len v.regs.cap, .slice v.data.a v.data.len v.data.cap, .slice v.stk.a v.stk.len v.stk.cap, .slice v.inp.a v.inp.len v.inp.cap, .slice v.out.a v.out.len v.out.cap, .int .i64 m.steps, .int .i64 m.fin, .int .i64 m.val] 25)).alloc (.cells #[.slice none 0 0, .int .i64 0, .slice none 0 0, .slice none 0 0, .slice none 0 0, .slice none 0 0, .slice none 0 0, .int .i64 0, .int .i64 0, .int .i64 0] 25)).heap[w.heap.size]? = some (.cells #[.slice v.code.a v.code.len v.code.cap, .int .i64 m.pc, .slice v.regs.a v.regs.len v.regs.cap, .slice v.data.a v.data.len v.data.cap, .slice v.stk.a v.stk.len v.stk.cap, .slice v.inp.a v.inp.len v.inp.cap, .slice v.out.a v.out.len v.out.cap, .int .i64 m.steps, .int .i64 m.fin, .int .i64 m.val] 25)) := (Below.heap_alloc _ _ _ (by simp)).trans (heap_alloc_new w _)
  go_wp2_with (refine wpList_load_row rfl 25 _ rfl (w.heap.size) ?hx 25 #[.slice v.code.a v.code.len v.code.cap, .int .i64 m.pc, .slice v.regs.a v.regs.len v.regs.cap, .slice v.data.a v.data.len v.data.cap, .slice v.stk.a v.stk.len v.stk.cap, .slice v.inp.a v.inp.len v.inp.cap, .slice v.out.a v.out.len v.out.cap, .int .i64 m.steps, .int .i64 m.fin, .int .i64 m.val] (0, 0) _ ?hg Try.underlying25 ?hd ?hi ?_; (case hx => rfl); (case hg => exact PB.out); (case hd => rfl); (case hi => kernel_rfl))
  refine calls_at fun u0 hu0 => ?_
  have Q0 : u0.heap[w.heap.size]? = some (.cells #[.slice v.code.a v.code.len v.code.cap, .int .i64 m.pc, .slice v.regs.a v.regs.len v.regs.cap, .slice v.data.a v.data.len v.data.cap, .slice v.stk.a v.stk.len v.stk.cap, .slice v.inp.a v.inp.len v.inp.cap, .slice v.out.a v.out.len v.out.cap, .int .i64 m.steps, .int .i64 m.fin, .int .i64 m.val] 25) := by rw [hu0]; exact PB.out
  have X0 : u0.heap[w.heap.size + 1]? = some (.cells #[.slice none 0 0, .int .i64 0, .slice none 0 0, .slice none 0 0, .slice none 0 0, .slice none 0 0, .slice none 0 0, .int .i64 0, .int .i64 0, .int .i64 0] 25) := by
    rw [hu0]
    have := heap_alloc_new (w.alloc (.cells #[.slice v.code.a v.code.len v.code.cap, .int .i64 m.pc, .slice v.regs.a v.regs.len v.regs.cap, .slice v.data.a v.data.len v.data.cap, .slice v.stk.a v.stk.len v.stk.cap, .slice v.inp.a v.inp.len v.inp.cap, .slice v.out.a v.out.len v.out.cap, .int .i64 m.steps, .int .i64 m.fin, .int .i64 m.val] 25)) (.cells #[.slice none 0 0, .int .i64 0, .slice none 0 0, .slice none 0 0, .slice none 0 0, .slice none 0 0, .slice none 0 0, .int .i64 0, .int .i64 0, .int .i64 0] 25)
    simpa using this
  have B0 : Below w.heap.size w u0 := by rw [hu0]; exact ((Below.refl _ _).alloc (Nat.le_refl _) _).alloc (by simp) _
  have Z0 : u0.heap.size = w.heap.size + 2 := by rw [hu0]; simp
  clear hu0 PB
  refine (l3Copy_row v m u0 (HI.out.keep B0) hsz).mono ?_
  rintro e u1 ⟨v1, rfl, o1, p1, d1⟩
  have Q1 : Hid (u1.heap[w.heap.size]? = some (.cells #[.slice v.code.a v.code.len v.code.cap, .int .i64 m.pc, .slice v.regs.a v.regs.len v.regs.cap, .slice v.data.a v.data.len v.data.cap, .slice v.stk.a v.stk.len v.stk.cap, .slice v.inp.a v.inp.len v.inp.cap, .slice v.out.a v.out.len v.out.cap, .int .i64 m.steps, .int .i64 m.fin, .int .i64 m.val] 25)) := (d1.block _ (by omega)).trans Q0
  have X1 : Hid (u1.heap[w.heap.size + 1]? = some (.cells #[.slice none 0 0, .int .i64 0, .slice none 0 0, .slice none 0 0, .slice none 0 0, .slice none 0 0, .slice none 0 0, .int .i64 0, .int .i64 0, .int .i64 0] 25)) := (d1.block _ (by omega)).trans X0
  have B1 : Hid (Below w.heap.size w u1) := B0.trans (d1.mono (by omega))
  have Z1 : Hid (w.heap.size + 2 ≤ u1.heap.size) := by show w.heap.size + 2 ≤ u1.heap.size; have := d1.size; omega
  have O1 : Hid (MOwn (w.heap.size + 2) u1 v1 m ∧ MSep v1) := ⟨Z0 ▸ o1, p1⟩
  clear d1 Q0 X0 B0 Z0 o1 p1
  go_wp2_with (refine wpList_store_row rfl 25 _ _ rfl (u1.heap.size) #[.slice v1.code.a v1.code.len v1.code.cap, .int .i64 m.pc, .slice v1.regs.a v1.regs.len v1.regs.cap, .slice v1.data.a v1.data.len v1.data.cap, .slice v1.stk.a v1.stk.len v1.stk.cap, .slice v1.inp.a v1.inp.len v1.inp.cap, .slice v1.out.a v1.out.len v1.out.cap, .int .i64 m.steps, .int .i64 m.fin, .int .i64 m.val] ?hx ?hy 25 #[.slice none 0 0, .int .i64 0, .slice none 0 0, .slice none 0 0, .slice none 0 0, .slice none 0 0, .slice none 0 0, .int .i64 0, .int .i64 0, .int .i64 0] ?hg ?hi ?ho ?h1 ?_; (case hx => rfl); (case hy => rfl); (case hg => exact heap_alloc_new u1 _); (case hi => kernel_rfl); (case ho => kernel_rfl); (case h1 => kernel_rfl); refine Hid.out ?_)
  unfold Hid
  rw [World.setRow_alloc_new]
  refine wpList_at fun u2 hu2 => ?_
  have E2 : Hid (u2.heap[u1.heap.size]? = some (.cells #[.slice v1.code.a v1.code.len v1.code.cap, .int .i64 m.pc, .slice v1.regs.a v1.regs.len v1.regs.cap, .slice v1.data.a v1.data.len v1.data.cap, .slice v1.stk.a v1.stk.len v1.stk.cap, .slice v1.inp.a v1.inp.len v1.inp.cap, .slice v1.out.a v1.out.len v1.out.cap, .int .i64 m.steps, .int .i64 m.fin, .int .i64 m.val] 25)) := by rw [hu2]; exact heap_alloc_new u1 _
  have D2 : Below u1.heap.size u1 u2 := by rw [hu2]; exact below_alloc u1 _
  have S2 : Hid (u2.heap.size = u1.heap.size + 1) := by show u2.heap.size = _; rw [hu2]; simp
  have Q2 : Hid (u2.heap[w.heap.size]? = some (.cells #[.slice v.code.a v.code.len v.code.cap, .int .i64 m.pc, .slice v.regs.a v.regs.len v.regs.cap, .slice v.data.a v.data.len v.data.cap, .slice v.stk.a v.stk.len v.stk.cap, .slice v.inp.a v.inp.len v.inp.cap, .slice v.out.a v.out.len v.out.cap, .int .i64 m.steps, .int .i64 m.fin, .int .i64 m.val] 25)) := (D2.block _ (by have := Z1.out; omega)).trans Q1.out
  have X2 : Hid (u2.heap[w.heap.size + 1]? = some (.cells #[.slice none 0 0, .int .i64 0, .slice none 0 0, .slice none 0 0, .slice none 0 0, .slice none 0 0, .slice none 0 0, .int .i64 0, .int .i64 0, .int .i64 0] 25)) := (D2.block _ (by have := Z1.out; omega)).trans X1.out
  have B2 : Hid (Below w.heap.size w u2) := B1.out.trans (D2.mono (by have := Z1.out; omega))
  have DD : Hid (Below u1.heap.size u1 u2) := D2
  clear hu2 D2
  go_wp2_with (refine load_row_gq 25 _ rfl (by kernel_rfl) (w.heap.size) ?hx 25 #[.slice v.code.a v.code.len v.code.cap, .int .i64 m.pc, .slice v.regs.a v.regs.len v.regs.cap, .slice v.data.a v.data.len v.data.cap, .slice v.stk.a v.stk.len v.stk.cap, .slice v.inp.a v.inp.len v.inp.cap, .slice v.out.a v.out.len v.out.cap, .int .i64 m.steps, .int .i64 m.fin, .int .i64 m.val] (0, 0) _ ?hg Try.underlying25 ?hd ?hi ?_; (case hx => rfl); (case hg => exact Q2.out); (case hd => rfl); (case hi => kernel_rfl))
  refine (l3Goes_any v m u2 (HI.out.keep B2.out)).mono ?_
  rintro e u3 ⟨rfl, d3⟩
  rw [hn]
  have E3 : Hid (u3.heap[u1.heap.size]? = some (.cells #[.slice v1.code.a v1.code.len v1.code.cap, .int .i64 m.pc, .slice v1.regs.a v1.regs.len v1.regs.cap, .slice v1.data.a v1.data.len v1.data.cap, .slice v1.stk.a v1.stk.len v1.stk.cap, .slice v1.inp.a v1.inp.len v1.inp.cap, .slice v1.out.a v1.out.len v1.out.cap, .int .i64 m.steps, .int .i64 m.fin, .int .i64 m.val] 25)) := (d3.block _ (by have := S2.out; omega)).trans E2.out
  have q3 : u3.heap[w.heap.size]? = some (.cells #[.slice v.code.a v.code.len v.code.cap, .int .i64 m.pc, .slice v.regs.a v.regs.len v.regs.cap, .slice v.data.a v.data.len v.data.cap, .slice v.stk.a v.stk.len v.stk.cap, .slice v.inp.a v.inp.len v.inp.cap, .slice v.out.a v.out.len v.out.cap, .int .i64 m.steps, .int .i64 m.fin, .int .i64 m.val] 25) := (d3.block _ (by have := S2.out; have := Z1.out; omega)).trans Q2.out
  have X3 : Hid (u3.heap[w.heap.size + 1]? = some (.cells #[.slice none 0 0, .int .i64 0, .slice none 0 0, .slice none 0 0, .slice none 0 0, .slice none 0 0, .slice none 0 0, .int .i64 0, .int .i64 0, .int .i64 0] 25)) := (d3.block _ (by have := S2.out; have := Z1.out; omega)).trans X2.out
  have B3 : Hid (Below w.heap.size w u3) := B2.out.trans (d3.mono (by have := S2.out; have := Z1.out; omega))
  have D3 : Hid (Below u1.heap.size u1 u3) := DD.out.trans (d3.mono (by have := S2.out; omega))
  have S3 : Hid (u1.heap.size + 1 ≤ u3.heap.size) := by show u1.heap.size + 1 ≤ u3.heap.size; have := d3.size; have := S2.out; omega
  have c0 : u3.cell? ⟨w.heap.size, 0, none⟩ = some (.slice v.code.a v.code.len v.code.cap) := cell_of_row u3 w.heap.size 0 _ 25 (0, 0) q3
  clear d3 q3 E2 Q2 X2 B2 DD S2 Q1 X1 B1
  have HV := Pl_vd hn
  have hcl : m.code.length = v.code.len := HI.out.1.1
  have hc := HV.1.code
  have HVD : Hid (Pl.Vd m ∧ m.fin = 0 ∧ m.steps < 1000000) := HV
  clear HV
  go_wp2_with (go_at_call 70; refine (l3Decoded_any _ _ _ m.code _ ((HI.out.keep B3.out).1.lower (Nat.zero_le _)) (by omega)).mono ?_; rintro e u4 ⟨b, c, rfl, hb1, hb2, hcc, hrow, d4⟩)
  obtain ⟨O, hO⟩ : ∃ O, u1.heap.size = O := ⟨_, rfl⟩
  have X4 : Hid (u4.heap[w.heap.size + 1]? = some (.cells #[.slice none 0 0, .int .i64 0, .slice none 0 0, .slice none 0 0, .slice none 0 0, .slice none 0 0, .slice none 0 0, .int .i64 0, .int .i64 0, .int .i64 0] 25)) := (d4.block _ (by have := S3.out; have := Z1.out; omega)).trans X3.out
  have B4 : Hid (Below w.heap.size w u4) := B3.out.trans (d4.mono (by have := S3.out; have := Z1.out; omega))
  obtain ⟨D, hD⟩ : ∃ D : Nat → Prop, D = fun x => x ≤ w.heap.size + 1 ∨ x = b := ⟨_, rfl⟩
  have hDb : D b := by rw [hD]; exact .inr rfl
  have hDx : ∀ x, x ≤ w.heap.size + 1 → D x := fun x hx => by rw [hD]; exact .inl hx
  have R4 : Hid (Run D O u4 v1 m) := run_of_own O1.out.1 O1.out.2 hO (by rw [← hO]; exact D3.out.trans (d4.mono (by have := S3.out; omega))) (by rw [← hO]; exact (d4.block _ (by have := S3.out; omega)).trans E3.out) (fun x hx => by
    rw [hD] at hx
    have := S3.out; have := Z1.out; have := d4.size
    rcases hx with hx | hx
    · omega
    · omega)
  have C4 : Hid (CRow u4 b m.code) := hrow
  rw [hO] at *
  clear hrow d4 E3 X3 B3 D3 hD
  have HDb : Hid (D b) := hDb
  have HDx : Hid (∀ x, x ≤ w.heap.size + 1 → D x) := hDx
  clear hDb hDx
  go_loopw [7] (fun i wr => ∃ (k : Nat) (m2 : Pl.Mac) (v2 : MV), (k : Int) ≤ fuel ∧ i = .int .i64 k ∧ Run D O wr v2 m2 ∧ Pl.Vd m2 ∧ Pl.run (fuel.toNat - k) m2 = Pl.run fuel.toNat m ∧ m2.code = m.code ∧ St D u4 wr) (fun i _ => fuel.toNat - (intOf i).toNat)
  case atStart => exact ⟨0, m, v1, by omega, rfl, R4.out, HVD.out.1, rfl, rfl, St.refl _ _⟩
  case round =>
    obtain ⟨k, m2, v2, hk, rfl, hR, hVd, hrun, hcode, hS⟩ := hrel
    have c8 : wr.cell? ⟨O, 8, none⟩ = some (.int .i64 m2.fin) := hR.cell 8
    have c7 : wr.cell? ⟨O, 7, none⟩ = some (.int .i64 m2.steps) := hR.cell 7
    have RR : Hid (Run D O wr v2 m2) := hR
    have VV : Hid (Pl.Vd m2) := hVd
    have SS : Hid (St D u4 wr) := hS
    have UU : Hid (Pl.run (fuel.toNat - k) m2 = Pl.run fuel.toNat m) := hrun
    clear hR hVd hS hrun
    by_cases hgo : (k : Int) < fuel ∧ m2.fin = 0 ∧ m2.steps < 1000000
    · obtain ⟨g1, g2, g3⟩ := hgo
      have e1 : decide ((k : Int) < fuel) = true := by simpa using g1
      have e2 : (m2.fin == 0) = true := by simpa using g2
      have e3 : decide (m2.steps < 1000000) = true := by simpa using g3
      have HS : Hid (∀ U, U = wr → Calls Try.prog 71 #[.pointer (some ⟨O, 0, none⟩), .slice (some ⟨b, 0, none⟩) v.code.len c] U fun e u' => e = .returned (.tuple #[]) ∧ (∃ v', Run D O u' v' (Pl.step m2)) ∧ St D U u') := fun U hU => by
        rw [hU, ← hcl, ← hcode]
        exact l3Step_run RR.out VV.out g3 HDb.out (by rw [hcode]; exact C4.out.keep (SS.out.keep b HDb.out)) (by rw [hcode]; omega)
      have hst := VV.out.steps
      go_wp2_with (go_at_call 71; refine Calls.mono (HS.out _ rfl) ?_; rintro e u5 ⟨rfl, ⟨v3, hR5⟩, hS5⟩)
      go_roundw
      case rel =>
        refine ⟨k + 1, Pl.step m2, v3, by omega, by go_num, hR5, VV.out.step (fun n hn => Pl.u8_bd (RR.out.inp.2.2.2.1 n hn)) g3, ?_, (Pl.step_same m2).1.trans hcode, SS.out.trans hS5⟩
        rw [← UU.out]
        have : fuel.toNat - k = (fuel.toNat - (k + 1)) + 1 := by omega
        rw [this, Pl_run_go ⟨g2, g3⟩]
      case measure => simp [intOf]; omega
    · have hfin : Pl.run fuel.toNat m = m2 := by
        rw [← UU.out]
        by_cases g1 : (k : Int) < fuel
        · exact Pl_run_stop fun q => hgo ⟨g1, q⟩
        · have : fuel.toNat - k = 0 := by omega
          rw [this]; rfl
      have HFIN : Hid (m2 = Pl.run fuel.toNat m) := hfin.symm
      have X5 : Hid (wr.heap[w.heap.size + 1]? = some (.cells #[.slice none 0 0, .int .i64 0, .slice none 0 0, .slice none 0 0, .slice none 0 0, .slice none 0 0, .slice none 0 0, .int .i64 0, .int .i64 0, .int .i64 0] 25)) := (SS.out.keep _ (HDx.out _ (Nat.le_refl _))).trans X4.out
      have B5 : Hid (Below w.heap.size w wr) := ⟨SS.out.os.trans B4.out.os, SS.out.tape.trans B4.out.tape, SS.out.output.trans B4.out.output, Nat.le_trans B4.out.size SS.out.size, fun x hx => (SS.out.keep x (HDx.out x (by omega))).trans (B4.out.block x hx)⟩
      have E5 : Hid (wr.heap[O]? = some (.cells #[.slice v2.code.a v2.code.len v2.code.cap, .int .i64 m2.pc, .slice v2.regs.a v2.regs.len v2.regs.cap, .slice v2.data.a v2.data.len v2.data.cap, .slice v2.stk.a v2.stk.len v2.stk.cap, .slice v2.inp.a v2.inp.len v2.inp.cap, .slice v2.out.a v2.out.len v2.out.cap, .int .i64 m2.steps, .int .i64 m2.fin, .int .i64 m2.val] 25)) := RR.out.box
      have Z5 : Hid (w.heap.size + 1 < wr.heap.size) := (Array.getElem?_eq_some_iff.1 X5.out).1
      have HC : Hid (∀ U, U = wr → Calls Try.prog 22 #[.agg #[.slice v2.code.a v2.code.len v2.code.cap, .int .i64 m2.pc, .slice v2.regs.a v2.regs.len v2.regs.cap, .slice v2.data.a v2.data.len v2.data.cap, .slice v2.stk.a v2.stk.len v2.stk.cap, .slice v2.inp.a v2.inp.len v2.inp.cap, .slice v2.out.a v2.out.len v2.out.cap, .int .i64 m2.steps, .int .i64 m2.fin, .int .i64 m2.val]] U fun e w' => ∃ v' : MV, e = .returned (.agg #[.slice v'.code.a v'.code.len v'.code.cap, .int .i64 m2.pc, .slice v'.regs.a v'.regs.len v'.regs.cap, .slice v'.data.a v'.data.len v'.data.cap, .slice v'.stk.a v'.stk.len v'.stk.cap, .slice v'.inp.a v'.inp.len v'.inp.cap, .slice v'.out.a v'.out.len v'.out.cap, .int .i64 m2.steps, .int .i64 m2.fin, .int .i64 m2.val]) ∧ MOwn wr.heap.size w' v' m2 ∧ MSep v' ∧ Below wr.heap.size wr w') := fun U hU => by
        rw [hU]
        exact l3Copy_row v2 m2 wr RR.out.is (Pl_vd_size VV.out)
      have hend : ∀ (b1 b2 b3 : Bool), b1 = decide ((k : Int) < fuel) → b2 = (m2.fin == 0) → b3 = decide (m2.steps < 1000000) → (b1 && b2 && b3) = false := by
        intro b1 b2 b3 h1 h2 h3
        rw [h1, h2, h3]
        by_cases q1 : (k : Int) < fuel
        · by_cases q2 : m2.fin = 0
          · by_cases q3 : m2.steps < 1000000
            · exact absurd ⟨q1, q2, q3⟩ hgo
            · simp [q3]
          · simp [q2]
        · simp [q1]
      obtain ⟨b1, hb1'⟩ : ∃ b1, decide ((k : Int) < fuel) = b1 := ⟨_, rfl⟩
      obtain ⟨b2, hb2'⟩ : ∃ b2, (m2.fin == 0) = b2 := ⟨_, rfl⟩
      obtain ⟨b3, hb3'⟩ : ∃ b3, decide (m2.steps < 1000000) = b3 := ⟨_, rfl⟩
      have hbb := hend b1 b2 b3 hb1'.symm hb2'.symm hb3'.symm
      clear hend hgo hfin UU hcode
      cases b1
      rotate_left
      cases b2
      rotate_left
      cases b3
      rotate_left
      · exact absurd hbb (by decide)
      all_goals
        clear hbb
        go_wp2_with (first | (refine wpList_load_row rfl 25 _ rfl (O) ?hx 25 #[.slice v2.code.a v2.code.len v2.code.cap, .int .i64 m2.pc, .slice v2.regs.a v2.regs.len v2.regs.cap, .slice v2.data.a v2.data.len v2.data.cap, .slice v2.stk.a v2.stk.len v2.stk.cap, .slice v2.inp.a v2.inp.len v2.inp.cap, .slice v2.out.a v2.out.len v2.out.cap, .int .i64 m2.steps, .int .i64 m2.fin, .int .i64 m2.val] (0, 0) _ ?hg Try.underlying25 ?hd ?hi ?_; (case hx => rfl); (case hg => exact E5.out); (case hd => rfl); (case hi => kernel_rfl)) | (go_at_call 22; refine Calls.mono (HC.out _ rfl) ?_; rintro e u6 ⟨v6, rfl, o6, p6, d6⟩; have X6 : Hid (u6.heap[w.heap.size + 1]? = some (.cells #[.slice none 0 0, .int .i64 0, .slice none 0 0, .slice none 0 0, .slice none 0 0, .slice none 0 0, .slice none 0 0, .int .i64 0, .int .i64 0, .int .i64 0] 25)) := (d6.block _ Z5.out).trans X5.out; have O6 : Hid (MOwn wr.heap.size u6 v6 m2 ∧ MSep v6 ∧ Below w.heap.size w u6) := ⟨o6, p6, B5.out.trans (d6.mono (by have := Z5.out; omega))⟩; clear o6 p6 d6) | (refine wpList_store_row rfl 25 _ _ rfl (w.heap.size + 1) #[.slice v6.code.a v6.code.len v6.code.cap, .int .i64 m2.pc, .slice v6.regs.a v6.regs.len v6.regs.cap, .slice v6.data.a v6.data.len v6.data.cap, .slice v6.stk.a v6.stk.len v6.stk.cap, .slice v6.inp.a v6.inp.len v6.inp.cap, .slice v6.out.a v6.out.len v6.out.cap, .int .i64 m2.steps, .int .i64 m2.fin, .int .i64 m2.val] ?hx ?hy 25 #[.slice none 0 0, .int .i64 0, .slice none 0 0, .slice none 0 0, .slice none 0 0, .slice none 0 0, .slice none 0 0, .int .i64 0, .int .i64 0, .int .i64 0] ?hg ?hi ?ho ?h1 ?_; (case hx => rfl); (case hy => rfl); (case hg => exact X6.out); (case hi => kernel_rfl); (case ho => kernel_rfl); (case h1 => kernel_rfl); refine Hid.out ?_))
        unfold Hid
        go_wp2_with fail
        refine bodyPost_ret (v := .agg #[.slice v6.code.a v6.code.len v6.code.cap, .int .i64 m2.pc, .slice v6.regs.a v6.regs.len v6.regs.cap, .slice v6.data.a v6.data.len v6.data.cap, .slice v6.stk.a v6.stk.len v6.stk.cap, .slice v6.inp.a v6.inp.len v6.inp.cap, .slice v6.out.a v6.out.len v6.out.cap, .int .i64 m2.steps, .int .i64 m2.fin, .int .i64 m2.val]) ?hres rfl ⟨v6, m2, HFIN.out, rfl, O6.out.1.setRow_low (by have := Z5.out; omega) (by have := Z5.out; omega), O6.out.2.1, below_setRow O6.out.2.2 (by omega) _⟩
        case hres =>
          refine results_cell_row Try.results47 _ _ (w.heap.size + 1) 25 #[.slice v6.code.a v6.code.len v6.code.cap, .int .i64 m2.pc, .slice v6.regs.a v6.regs.len v6.regs.cap, .slice v6.data.a v6.data.len v6.data.cap, .slice v6.stk.a v6.stk.len v6.stk.cap, .slice v6.inp.a v6.inp.len v6.inp.cap, .slice v6.out.a v6.out.len v6.out.cap, .int .i64 m2.steps, .int .i64 m2.fin, .int .i64 m2.val] (0, 0) _ ?hp ?hg Try.underlying25 ?hd ?hi
          case hp => rfl
          case hg => exact setRow_heap _ _ _ _ _ _ X6.out
          case hd => rfl
          case hi => kernel_rfl
/-- spec.RunMachine, whole -/
theorem specRun_any {lo : Nat} (v : MV) (m : Pl.Mac) (w : World) (h : MIs lo w v m) (hsz : Pl.mSize m ≤ 1048576) (fuel : Int) (hff : fuel ≤ 9223372036854775807) :
    Calls Try.prog 47 #[.agg #[.slice v.code.a v.code.len v.code.cap, .int .i64 m.pc, .slice v.regs.a v.regs.len v.regs.cap, .slice v.data.a v.data.len v.data.cap, .slice v.stk.a v.stk.len v.stk.cap, .slice v.inp.a v.inp.len v.inp.cap, .slice v.out.a v.out.len v.out.cap, .int .i64 m.steps, .int .i64 m.fin, .int .i64 m.val], .int .i64 fuel] w fun e w' => ∃ (v' : MV) (mm : Pl.Mac), mm = Pl.runM m fuel ∧ e = .returned (.agg #[.slice v'.code.a v'.code.len v'.code.cap, .int .i64 mm.pc, .slice v'.regs.a v'.regs.len v'.regs.cap, .slice v'.data.a v'.data.len v'.data.cap, .slice v'.stk.a v'.stk.len v'.stk.cap, .slice v'.inp.a v'.inp.len v'.inp.cap, .slice v'.out.a v'.out.len v'.out.cap, .int .i64 mm.steps, .int .i64 mm.fin, .int .i64 mm.val]) ∧ MOwn w.heap.size w' v' mm ∧ MSep v' ∧ Below w.heap.size w w' := by
  unfold Pl.runM
  by_cases hf : 1 ≤ fuel
  · by_cases hg : Pl.goes m = true
    · rw [if_pos ⟨hf, hg⟩]; exact specRun_yes v m w h hsz fuel hf hff hg
    · rw [if_neg (fun q => hg q.2)]; exact (specRun_no v m w h hsz fuel hf (by simpa using hg)).mono fun e w' ⟨v', a⟩ => ⟨v', m, rfl, a⟩
  · rw [if_neg (fun q => hf q.1)]; exact (specRun_none v m w h hsz fuel (by omega)).mono fun e w' ⟨v', a⟩ => ⟨v', m, rfl, a⟩
end Go.Proofs.Ytfcfnbncgadomaa.W
namespace Go.Proofs.Ytfcfnbncgadomaa.Pl
/-- what else a valid machine keeps -/
structure Vx (s : Nat) (m : Mac) : Prop where
  r0 : m.regs.getD 0 0 = 0
  stk : m.stk.length = s
  fin : 0 ≤ m.fin ∧ m.fin ≤ 3
  val : 0 ≤ m.val ∧ m.val ≤ 4294967295
  inp : ∀ n ∈ m.inp, 0 ≤ n ∧ n ≤ 255
theorem set_r0 {l : List Int} {n : Nat} {y : Int} (h : l.getD 0 0 = 0) (hn : n ≠ 0) : (l.set n y).getD 0 0 = 0 := by
  rw [List.getD_eq_getElem?_getD] at h ⊢
  rw [List.getElem?_set, if_neg hn]
  exact h
theorem Vx.setR {s : Nat} {m : Mac} (h : Vx s m) (n : Nat) (x : Int) : Vx s (Pl.setR m n x) := by
  unfold Pl.setR
  by_cases hn : n = 0
  · rw [if_pos hn]; exact h
  · rw [if_neg hn]; exact ⟨set_r0 h.r0 hn, h.stk, h.fin, h.val, h.inp⟩
theorem Vx.setPc {s : Nat} {m : Mac} (h : Vx s m) (y : Int) : Vx s { m with pc := y } := ⟨h.r0, h.stk, h.fin, h.val, h.inp⟩
theorem Vx.stv {s : Nat} {m : Mac} (h : Vx s m) (k a x : Int) : Vx s (Pl.stv m k a x).1 := by
  by_cases h1 : (a.tmod (ks k) != 0) = true
  · unfold Pl.stv; rw [if_pos h1]; exact h
  · by_cases h2 : inD m a (ks k).toNat
    · unfold Pl.stv; rw [if_neg h1, if_pos h2]; exact ⟨h.r0, h.stk, h.fin, h.val, h.inp⟩
    · by_cases h3 : inS m a (ks k).toNat
      · unfold Pl.stv; rw [if_neg h1, if_neg h2, if_pos h3]; exact ⟨h.r0, by show (stk_ _ _ _ _).length = _; rw [stk_length]; exact h.stk, h.fin, h.val, h.inp⟩
      · unfold Pl.stv; rw [if_neg h1, if_neg h2, if_neg h3]; exact h
theorem Vx.ecall {s : Nat} {m : Mac} (h : Vx s m) (hv : Vd m) : Vx s (Pl.ecall m).1 := by
  unfold Pl.ecall
  by_cases h1 : rv m 17 = 1
  · rw [if_pos h1]
    by_cases h2 : 10000 ≤ m.out.length
    · rw [if_pos h2]; exact h
    · rw [if_neg h2]; exact ⟨h.r0, h.stk, h.fin, h.val, h.inp⟩
  rw [if_neg h1]
  by_cases h2 : rv m 17 = 2
  · rw [if_pos h2]
    split
    · exact ⟨set_r0 h.r0 (by decide), h.stk, h.fin, h.val, h.inp⟩
    · rename_i b r hi
      exact ⟨set_r0 h.r0 (by decide), h.stk, h.fin, h.val, fun n hn => h.inp n (by rw [hi]; exact List.mem_cons_of_mem _ hn)⟩
  rw [if_neg h2]
  by_cases h3 : rv m 17 = 3
  · rw [if_pos h3]; exact ⟨h.r0, h.stk, by show (0 : Int) ≤ 1 ∧ (1 : Int) ≤ 3; omega, hv.word 10 (by decide), h.inp⟩
  rw [if_neg h3]
  by_cases h4 : rv m 17 = 4
  · rw [if_pos h4]; exact ⟨h.r0, h.stk, by show (0 : Int) ≤ 3 ∧ (3 : Int) ≤ 3; omega, by show (0 : Int) ≤ 0 ∧ (0 : Int) ≤ 4294967295; omega, h.inp⟩
  rw [if_neg h4]; exact h
theorem Vx.flow {s : Nat} {m : Mac} (h : Vx s m) (i : Ins) : Vx s (Pl.flow m i).2.2 := by
  unfold Pl.flow
  split
  · exact h
  · split
    · exact h.setR _ _
    · split
      · exact h.setR _ _
      · exact h
theorem Vx.act {s : Nat} {m : Mac} (h : Vx s m) (hv : Vd m) (i : Ins) : Vx s (Pl.act m i).1 := by
  unfold Pl.act
  split
  · exact (h.flow i).setPc _
  split
  · exact (h.setR _ _).setPc _
  split
  · exact (h.setR _ _).setPc _
  split
  · split
    · exact (h.setR _ _).setPc _
    · exact h
  split
  · split
    · exact (h.stv _ _ _).setPc _
    · exact h.stv _ _ _
  split
  · exact (h.setR _ _).setPc _
  split
  · exact (h.setR _ _).setPc _
  split
  · exact h
  split
  · exact (h.ecall hv).setPc _
  · exact h.ecall hv
theorem ldv_f (m : Mac) (k a : Int) : 0 ≤ (ldv m k a).2 ∧ (ldv m k a).2 ≤ 6 := by
  unfold ldv
  split
  · dsimp only; omega
  · split
    · dsimp only; omega
    · split
      · dsimp only; omega
      · dsimp only; omega
theorem stv_f (m : Mac) (k a x : Int) : 0 ≤ (Pl.stv m k a x).2 ∧ (Pl.stv m k a x).2 ≤ 6 := by
  unfold Pl.stv
  split
  · dsimp only; omega
  · split
    · dsimp only; omega
    · split
      · dsimp only; omega
      · dsimp only; omega
theorem ecall_f (m : Mac) : 0 ≤ (Pl.ecall m).2 ∧ (Pl.ecall m).2 ≤ 6 := by
  unfold Pl.ecall
  split
  · split
    · dsimp only; omega
    · dsimp only; omega
  · split
    · split
      · dsimp only; omega
      · dsimp only; omega
    · split
      · dsimp only; omega
      · split
        · dsimp only; omega
        · dsimp only; omega
theorem act_f (m : Mac) (i : Ins) : 0 ≤ (Pl.act m i).2 ∧ (Pl.act m i).2 ≤ 6 := by
  unfold Pl.act
  split
  · dsimp only; omega
  split
  · dsimp only; omega
  split
  · dsimp only; omega
  split
  · split
    · dsimp only; omega
    · exact ldv_f _ _ _
  split
  · split
    · dsimp only; omega
    · exact stv_f _ _ _ _
  split
  · dsimp only; omega
  split
  · dsimp only; omega
  split
  · dsimp only; omega
  split
  · dsimp only; omega
  · exact ecall_f m
theorem Vx.setEnd {s : Nat} {m : Mac} (h : Vx s m) (f : Int) (hf : 0 ≤ f ∧ f ≤ 6) : Vx s { m with fin := 2, val := f } := ⟨h.r0, h.stk, by show (0 : Int) ≤ 2 ∧ (2 : Int) ≤ 3; omega, by show 0 ≤ f ∧ f ≤ 4294967295; omega, h.inp⟩
theorem Vx.step {s : Nat} {m : Mac} (h : Vx s m) (hv : Vd m) (hs : m.steps < 1000000) : Vx s (Pl.step m) := by
  have h0 := hv.steps
  have h1 : Vx s { m with steps := m.steps + 1 } := ⟨h.r0, h.stk, h.fin, h.val, h.inp⟩
  have hv1 := hv.setSteps (m.steps + 1) (by omega)
  unfold Pl.step
  split
  · exact h1.setEnd 1 (by omega)
  split
  · exact h1.setEnd 2 (by omega)
  have h2 := h1.act hv1 (insOf (Pl.word m))
  have h3 := act_f { m with steps := m.steps + 1 } (insOf (Pl.word m))
  split
  · exact h2
  · exact h2.setEnd _ h3
/-- a valid machine, whole -/
theorem ok_of {s : Nat} {m : Mac} (hv : Vd m) (hx : Vx s m) (hc : cdOk m.code = true) (hs : skOk (s : Int) = true) : mOk m = true := by
  have h1 := hx.stk
  unfold mOk
  simp only [Bool.and_eq_true, decide_eq_true_eq, List.all_eq_true]
  refine ⟨hc, hv.data, by rw [h1]; exact hs, (isW_iff _).2 hv.pc, hv.regs, hx.r0, fun n hn => ?_, hv.inp, hv.out, hv.steps.1, hv.steps.2, hx.fin.1, hx.fin.2, (isW_iff _).2 hx.val⟩
  obtain ⟨i, hi, rfl⟩ := List.getElem_of_mem hn
  have := hv.word i (by have := hv.regs; omega)
  rw [List.getD_eq_getElem?_getD, List.getElem?_eq_getElem hi] at this
  exact (isW_iff _).2 this
theorem of_ok {m : Mac} (h : mOk m = true) (hb : ∀ n ∈ m.inp, 0 ≤ n ∧ n ≤ 255) : Vx m.stk.length m ∧ cdOk m.code = true ∧ skOk (m.stk.length : Int) = true := by
  unfold mOk at h
  simp only [Bool.and_eq_true, decide_eq_true_eq] at h
  obtain ⟨c, d, k, p, r32, r0, ra, i, o, s0, s1, f0, f3, val⟩ := h
  exact ⟨⟨r0, rfl, ⟨f0, f3⟩, (isW_iff _).1 val, hb⟩, c, k⟩
theorem run_keeps {s : Nat} : ∀ (n : Nat) (m : Mac), Vd m → Vx s m → Vd (Pl.run n m) ∧ Vx s (Pl.run n m) ∧ (Pl.run n m).code = m.code
  | 0, m, hv, hx => ⟨hv, hx, rfl⟩
  | n + 1, m, hv, hx => by
    by_cases h : m.fin = 0 ∧ m.steps < 1000000
    · rw [show Pl.run (n + 1) m = Pl.run n (Pl.step m) from if_pos h]
      have := run_keeps n (Pl.step m) (hv.step hx.inp h.2) (hx.step hv h.2)
      exact ⟨this.1, this.2.1, this.2.2.trans (step_same m).1⟩
    · rw [show Pl.run (n + 1) m = m from if_neg h]
      exact ⟨hv, hx, rfl⟩
theorem run_stop {n : Nat} {m : Mac} (h : ¬ (m.fin = 0 ∧ m.steps < 1000000)) : Pl.run n m = m := by
  cases n with
  | zero => rfl
  | succ n => exact if_neg h
theorem run_add : ∀ (a b : Nat) (m : Mac), Pl.run (a + b) m = Pl.run b (Pl.run a m)
  | 0, b, m => by rw [Nat.zero_add]; rfl
  | a + 1, b, m => by
    by_cases h : m.fin = 0 ∧ m.steps < 1000000
    · rw [show Pl.run (a + 1) m = Pl.run a (Pl.step m) from if_pos h, show a + 1 + b = (a + b) + 1 by omega, show Pl.run (a + b + 1) m = Pl.run (a + b) (Pl.step m) from if_pos h]
      exact run_add a b (Pl.step m)
    · rw [run_stop h, run_stop h, run_stop h]
/-- a run in two parts is a run -/
theorem runM_add {m : Mac} (hb : ∀ n ∈ m.inp, 0 ≤ n ∧ n ≤ 255) (a b : Nat) : runM (runM m (a : Int)) (b : Int) = runM m ((a + b : Nat) : Int) := by
  cases hg : goes m with
  | false =>
    have e : ∀ f : Int, runM m f = m := fun f => by unfold runM; rw [if_neg (fun q => by rw [hg] at q; exact absurd q.2 (by decide))]
    rw [e, e, e]
  | true =>
    have e : ∀ k : Nat, runM m (k : Int) = Pl.run k m := fun k => by
      unfold runM
      by_cases hk : 1 ≤ (k : Int)
      · rw [if_pos ⟨hk, hg⟩, Int.toNat_natCast]
      · rw [if_neg (fun q => hk q.1)]
        have : k = 0 := by omega
        rw [this]; rfl
    rw [e, e, run_add]
    have hv := (W.Pl_vd hg).1
    have hmo : mOk m = true := by
      unfold goes at hg
      simp only [Bool.and_eq_true] at hg
      exact hg.1.1
    obtain ⟨hx, hc, hs⟩ := of_ok hmo hb
    obtain ⟨k1, k2, k3⟩ := run_keeps a m hv hx
    have hok := ok_of k1 k2 (by rw [k3]; exact hc) hs
    generalize Pl.run a m = m1 at *
    unfold runM
    by_cases hq : 1 ≤ (b : Int) ∧ goes m1 = true
    · rw [if_pos hq, Int.toNat_natCast]
    · rw [if_neg hq]
      by_cases hb1 : 1 ≤ (b : Int)
      · refine (run_stop fun q => hq ⟨hb1, ?_⟩).symm
        unfold goes
        rw [hok, q.1]
        simp [q.2]
      · have : b = 0 := by omega
        rw [this]; rfl
end Go.Proofs.Ytfcfnbncgadomaa.Pl
namespace Go.Proofs.Ytfcfnbncgadomaa.Pl
/-- at most one register has turned, and when one has, neither data nor stack nor output -/
def One (m m' : Mac) : Prop := m'.regs = m.regs ∨ ((∃ n y, m'.regs = m.regs.set n y) ∧ m'.data = m.data ∧ m'.stk = m.stk ∧ m'.out = m.out)
theorem One.setR (m : Mac) (n : Nat) (x y : Int) : One m { Pl.setR m n x with pc := y } := by
  unfold Pl.setR
  by_cases hn : n = 0
  · rw [if_pos hn]; exact .inl rfl
  · rw [if_neg hn]; exact .inr ⟨⟨n, _, rfl⟩, rfl, rfl, rfl⟩
theorem One.ecall (m : Mac) : One m (Pl.ecall m).1 := by
  unfold Pl.ecall
  split
  · split
    · exact .inl rfl
    · exact .inl rfl
  · split
    · split
      · exact .inr ⟨⟨10, _, rfl⟩, rfl, rfl, rfl⟩
      · exact .inr ⟨⟨10, _, rfl⟩, rfl, rfl, rfl⟩
    · split
      · exact .inl rfl
      · split
        · exact .inl rfl
        · exact .inl rfl
theorem One.flow (m : Mac) (i : Ins) (y : Int) : One m { (Pl.flow m i).2.2 with pc := y } := by
  unfold Pl.flow
  split
  · exact .inl rfl
  · split
    · exact One.setR m _ _ _
    · split
      · exact One.setR m _ _ _
      · exact .inl rfl
theorem One.act (m : Mac) (i : Ins) : One m (Pl.act m i).1 := by
  unfold Pl.act
  split
  · exact One.flow m i _
  split
  · exact One.setR m _ _ _
  split
  · exact One.setR m _ _ _
  split
  · split
    · exact One.setR m _ _ _
    · exact .inl rfl
  split
  · split
    · exact .inl (stv_regs m _ _ _)
    · exact .inl (stv_regs m _ _ _)
  split
  · exact One.setR m _ _ _
  split
  · exact One.setR m _ _ _
  split
  · exact .inl rfl
  split
  · exact One.ecall m
  · exact One.ecall m
theorem One.step (m : Mac) : One m (Pl.step m) := by
  unfold Pl.step
  split
  · exact .inl rfl
  split
  · exact .inl rfl
  have := One.act { m with steps := m.steps + 1 } (insOf (word m))
  split
  · exact this
  · exact this
end Go.Proofs.Ytfcfnbncgadomaa.Pl
namespace Go.Proofs.Ytfcfnbncgadomaa.Pl
/-- the bytes that a store wrote -/
theorem stk_at (zs : List Int) (p : Nat) (x : Int) : ∀ n, p + n ≤ zs.length → ∀ j, j < n → (stk_ zs p x n).getD (p + j) 0 = x / pw (8 * j) % 256
  | 0, _, j, hj => absurd hj (Nat.not_lt_zero _)
  | n + 1, h, j, hj => by
    unfold stk_
    rw [List.getD_eq_getElem?_getD, List.getElem?_set]
    by_cases e : j = n
    · subst e
      rw [if_pos rfl, if_pos (by rw [stk_length]; omega)]
      rfl
    · rw [if_neg (by omega), ← List.getD_eq_getElem?_getD]
      exact stk_at zs p x n (by omega) j (by omega)
theorem ld_st1 (zs : List Int) (p : Nat) (x : Int) (h : p + 1 ≤ zs.length) : ldk (stk_ zs p x 1) p 1 = x % 256 := by
  have h0 := stk_at zs p x 1 h 0 (by decide)
  simp only [ldk]
  rw [h0]
  have e0 : pw (8 * 0) = 1 := by decide
  rw [e0]
  omega
theorem ld_st2 (zs : List Int) (p : Nat) (x : Int) (h : p + 2 ≤ zs.length) : ldk (stk_ zs p x 2) p 2 = x % 65536 := by
  have h0 := stk_at zs p x 2 h 0 (by decide)
  have h1 := stk_at zs p x 2 h 1 (by decide)
  simp only [ldk]
  rw [h0, h1]
  have e0 : pw (8 * 0) = 1 := by decide
  have e1 : pw (8 * 1) = 256 := by decide
  rw [e0, e1]
  omega
theorem ld_st4 (zs : List Int) (p : Nat) (x : Int) (h : p + 4 ≤ zs.length) : ldk (stk_ zs p x 4) p 4 = x % 4294967296 := by
  have h0 := stk_at zs p x 4 h 0 (by decide)
  have h1 := stk_at zs p x 4 h 1 (by decide)
  have h2 := stk_at zs p x 4 h 2 (by decide)
  have h3 := stk_at zs p x 4 h 3 (by decide)
  simp only [ldk]
  rw [h0, h1, h2, h3]
  have e0 : pw (8 * 0) = 1 := by decide
  have e1 : pw (8 * 1) = 256 := by decide
  have e2 : pw (8 * 2) = 65536 := by decide
  have e3 : pw (8 * 3) = 16777216 := by decide
  rw [e0, e1, e2, e3]
  omega
/-- what is loaded where it was stored -/
theorem ld_st (k x : Int) (h1 : 1 ≤ k) (h2 : k ≤ 5) (zs : List Int) (p : Nat) (h : p + (ks k).toNat ≤ zs.length) : nr k (ldk (stk_ zs p x (ks k).toNat) p (ks k).toNat) = nr k x := by
  rcases (show k = 1 ∨ k = 2 ∨ k = 3 ∨ k = 4 ∨ k = 5 by omega) with rfl | rfl | rfl | rfl | rfl
  · rw [show (ks 1).toNat = 1 from rfl] at *
    rw [ld_st1 zs p x h]
    show wd (i8 (x % 256)) = wd (i8 x)
    unfold wd i8; omega
  · rw [show (ks 2).toNat = 1 from rfl] at *
    rw [ld_st1 zs p x h]
    show x % 256 % 256 = x % 256
    omega
  · rw [show (ks 3).toNat = 2 from rfl] at *
    rw [ld_st2 zs p x h]
    show wd (i16 (x % 65536)) = wd (i16 x)
    unfold wd i16; omega
  · rw [show (ks 4).toNat = 2 from rfl] at *
    rw [ld_st2 zs p x h]
    show x % 65536 % 65536 = x % 65536
    omega
  · rw [show (ks 5).toNat = 4 from rfl] at *
    rw [ld_st4 zs p x h]
    show wd (x % 4294967296) = wd x
    unfold wd; omega
/-- a store without a fault, then a load there -/
theorem ldv_stv (m : Mac) (k a x : Int) (h1 : 1 ≤ k) (h2 : k ≤ 5) (hf : (Pl.stv m k a x).2 = 0) : ldv (Pl.stv m k a x).1 k a = (nr k x, 0) := by
  by_cases c1 : (a.tmod (ks k) != 0) = true
  · unfold Pl.stv at hf; rw [if_pos c1] at hf; exact absurd hf (show ¬ (3 : Int) = 0 by decide)
  by_cases c2 : inD m a (ks k).toNat
  · have e : Pl.stv m k a x = ({ m with data := stk_ m.data (a - 1048576).toNat x (ks k).toNat }, 0) := by unfold Pl.stv; rw [if_neg c1, if_pos c2]
    rw [e]
    have c2' : inD { m with data := stk_ m.data (a - 1048576).toNat x (ks k).toNat } a (ks k).toNat := by
      unfold inD at *
      rw [show ({ m with data := stk_ m.data (a - 1048576).toNat x (ks k).toNat } : Mac).data.length = m.data.length from stk_length _ _ _ _]
      exact c2
    unfold ldv
    rw [if_neg c1, if_pos c2']
    show (nr k (ldk (stk_ m.data (a - 1048576).toNat x (ks k).toNat) (a - 1048576).toNat (ks k).toNat), (0 : Int)) = _
    rw [ld_st k x h1 h2 m.data _ (by unfold inD at c2; omega)]
  by_cases c3 : inS m a (ks k).toNat
  · have e : Pl.stv m k a x = ({ m with stk := stk_ m.stk (a - (2097152 - (m.stk.length : Int))).toNat x (ks k).toNat }, 0) := by unfold Pl.stv; rw [if_neg c1, if_neg c2, if_pos c3]
    rw [e]
    have hl : ({ m with stk := stk_ m.stk (a - (2097152 - (m.stk.length : Int))).toNat x (ks k).toNat } : Mac).stk.length = m.stk.length := stk_length _ _ _ _
    have c3' : inS { m with stk := stk_ m.stk (a - (2097152 - (m.stk.length : Int))).toNat x (ks k).toNat } a (ks k).toNat := by
      unfold inS at *
      rw [hl]
      exact c3
    unfold ldv
    rw [if_neg c1, if_neg (show ¬ inD { m with stk := stk_ m.stk (a - (2097152 - (m.stk.length : Int))).toNat x (ks k).toNat } a (ks k).toNat from c2), if_pos c3', hl]
    show (nr k (ldk (stk_ m.stk (a - (2097152 - (m.stk.length : Int))).toNat x (ks k).toNat) (a - (2097152 - (m.stk.length : Int))).toNat (ks k).toNat), (0 : Int)) = _
    rw [ld_st k x h1 h2 m.stk _ (by unfold inS at c3; omega)]
  · unfold Pl.stv at hf; rw [if_neg c1, if_neg c2, if_neg c3] at hf; exact absurd hf (show ¬ (4 : Int) = 0 by decide)
end Go.Proofs.Ytfcfnbncgadomaa.Pl
