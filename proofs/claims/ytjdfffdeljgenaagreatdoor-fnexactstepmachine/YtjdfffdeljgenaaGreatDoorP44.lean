import Derived.Test.YtjdfffdeljgenaaGreatDoorP39
set_option linter.unusedVariables false
set_option linter.unusedSimpArgs false
namespace Go.Proofs.YtjdfffdeljgenaaGreatDoor.W
open Go.RowKit
theorem Tabs.under {w u : World} (h : Tabs w) (hB : Below w.heap.size w u) : Tabs u :=
  h.keep (hB.block _ (block_lt_of_cell (h.ali 0 (by decide)))) (hB.block _ (block_lt_of_cell (h.lds 0 (by decide)))) (hB.block _ (block_lt_of_cell (h.sts 0 (by decide))))
theorem inp_byte {lo : Nat} {w : World} {v : MV} {m : Pl.Mac} (h : MIs lo w v m) : ∀ n ∈ m.inp, 0 ≤ n ∧ n ≤ 255 := fun n hn => Pl.u8_bd (h.2.2.2.2.1.2.2.2.1 n hn)
theorem Wr.low {k : IntKind} {lo lo' g : Nat} {w : World} {a : Option Addr} {len cap : Nat} {zs : List Int} {cs : Array Value} (h : Wr k lo w a len cap zs) (hl : lo' ≤ lo) (hg : g < lo) : Wr k lo' (w.setRow g cs) a len cap zs := by
  obtain ⟨⟨r1, r2, r3, r4, r5⟩, hf⟩ := h
  rcases r5 with h0 | ⟨b, off, e, hlo, hb, hc⟩
  · exact ⟨⟨r1, r2, r3, r4, .inl h0⟩, fun q => by omega⟩
  · have hbk : (w.setRow g cs).heap[b]? = w.heap[b]? := setRow_other w g b cs (by omega)
    exact ⟨⟨r1, r2, r3, r4, .inr ⟨b, off, e, by omega, by simpa [World.setRow] using hb, fun i hi => (World.cell?_of_block (w := w) hbk).trans (hc i hi)⟩⟩, fun q b' off' e' i => by
      rw [e] at e'
      cases e'
      exact (World.frozen?_of_block (w := w) hbk).trans (hf q b off e i)⟩
theorem WrM.low {lo lo' g : Nat} {w : World} {v : MV} {m : Pl.Mac} {cs : Array Value} (h : WrM lo w v m) (hl : lo' ≤ lo) (hg : g < lo) : WrM lo' (w.setRow g cs) v m := ⟨h.1.low hl hg, h.2.1.low hl hg, h.2.2.1.low hl hg, h.2.2.2.1.low hl hg, h.2.2.2.2.1.low hl hg, h.2.2.2.2.2.low hl hg⟩
set_option maxRecDepth 8000 in
set_option maxHeartbeats 4000000 in
theorem specStep_any {lo : Nat} (v : MV) (m : Pl.Mac) (w : World) (h : MIs lo w v m) (hsz : Pl.mSize m ≤ 1048576) :
    Calls Tryz.prog 12 #[.agg #[.slice v.code.a v.code.len v.code.cap, .int .i64 m.pc, .slice v.regs.a v.regs.len v.regs.cap, .slice v.data.a v.data.len v.data.cap, .slice v.stk.a v.stk.len v.stk.cap, .slice v.inp.a v.inp.len v.inp.cap, .slice v.out.a v.out.len v.out.cap, .int .i64 m.steps, .int .i64 m.fin, .int .i64 m.val]] w fun e w' => ∃ (v' : MV) (mm : Pl.Mac), mm = Pl.runM m 1 ∧ e = .returned (.agg #[.slice v'.code.a v'.code.len v'.code.cap, .int .i64 mm.pc, .slice v'.regs.a v'.regs.len v'.regs.cap, .slice v'.data.a v'.data.len v'.data.cap, .slice v'.stk.a v'.stk.len v'.stk.cap, .slice v'.inp.a v'.inp.len v'.inp.cap, .slice v'.out.a v'.out.len v'.out.cap, .int .i64 mm.steps, .int .i64 mm.fin, .int .i64 mm.val]) ∧ MOwn w.heap.size w' v' mm ∧ Below w.heap.size w w' := by
  have HI : Hid (MIs lo w v m) := h
  clear h
  have PB : Hid (((w.alloc (.cells #[.slice v.code.a v.code.len v.code.cap, .int .i64 m.pc, .slice v.regs.a v.regs.len v.regs.cap, .slice v.data.a v.data.len v.data.cap, .slice v.stk.a v.stk.len v.stk.cap, .slice v.inp.a v.inp.len v.inp.cap, .slice v.out.a v.out.len v.out.cap, .int .i64 m.steps, .int .i64 m.fin, .int .i64 m.val] 25)).alloc (.cells #[.slice none 0 0, .int .i64 0, .slice none 0 0, .slice none 0 0, .slice none 0 0, .slice none 0 0, .slice none 0 0, .int .i64 0, .int .i64 0, .int .i64 0] 25)).heap[w.heap.size]? = some (.cells #[.slice v.code.a v.code.len v.code.cap, .int .i64 m.pc, .slice v.regs.a v.regs.len v.regs.cap, .slice v.data.a v.data.len v.data.cap, .slice v.stk.a v.stk.len v.stk.cap, .slice v.inp.a v.inp.len v.inp.cap, .slice v.out.a v.out.len v.out.cap, .int .i64 m.steps, .int .i64 m.fin, .int .i64 m.val] 25)) := by
    show _ = _
    rw [Below.heap_alloc _ _ _ (by simp)]; exact heap_alloc_new w _
  go_enter Tryz.func12, Tryz.ntmps12
  go_wp2_with (refine load_row_gq 25 _ rfl (by kernel_rfl) (w.heap.size) ?hx 25 #[.slice v.code.a v.code.len v.code.cap, .int .i64 m.pc, .slice v.regs.a v.regs.len v.regs.cap, .slice v.data.a v.data.len v.data.cap, .slice v.stk.a v.stk.len v.stk.cap, .slice v.inp.a v.inp.len v.inp.cap, .slice v.out.a v.out.len v.out.cap, .int .i64 m.steps, .int .i64 m.fin, .int .i64 m.val] (0, 0) _ ?hg Tryz.underlying25 ?hd ?hi ?_; (case hx => rfl); (case hg => exact PB.out); (case hd => rfl); (case hi => kernel_rfl))
  refine calls_at fun u0 hu0 => ?_
  have X0 : u0.heap[w.heap.size + 1]? = some (.cells #[.slice none 0 0, .int .i64 0, .slice none 0 0, .slice none 0 0, .slice none 0 0, .slice none 0 0, .slice none 0 0, .int .i64 0, .int .i64 0, .int .i64 0] 25) := by rw [hu0]; exact heap_alloc_at9 _ _ _ (by simp)
  have B0 : Below w.heap.size w u0 := by rw [hu0]; exact ((Below.refl _ _).alloc (Nat.le_refl _) _).alloc (by simp) _
  have Z0 : u0.heap.size = w.heap.size + 2 := by rw [hu0]; simp
  clear hu0 PB
  refine (specRun_any v m u0 (HI.out.keep B0) hsz 1 (by decide)).mono ?_
  rintro e u1 ⟨v1, mm, hmm, rfl, o1, _, d1⟩
  have X1 : Hid (u1.heap[w.heap.size + 1]? = some (.cells #[.slice none 0 0, .int .i64 0, .slice none 0 0, .slice none 0 0, .slice none 0 0, .slice none 0 0, .slice none 0 0, .int .i64 0, .int .i64 0, .int .i64 0] 25)) := (d1.block _ (by omega)).trans X0
  have B1 : Hid (Below w.heap.size w u1) := B0.trans (d1.mono (by omega))
  have O1 : Hid _ := o1
  have HMM : Hid (mm = Pl.runM m 1) := hmm
  have ZZ : Hid (u0.heap.size = w.heap.size + 2) := Z0

  clear d1 X0 B0 o1 hmm Z0
  go_wp2_with (refine wpList_store_row rfl 25 _ _ rfl (w.heap.size + 1) #[.slice v1.code.a v1.code.len v1.code.cap, .int .i64 mm.pc, .slice v1.regs.a v1.regs.len v1.regs.cap, .slice v1.data.a v1.data.len v1.data.cap, .slice v1.stk.a v1.stk.len v1.stk.cap, .slice v1.inp.a v1.inp.len v1.inp.cap, .slice v1.out.a v1.out.len v1.out.cap, .int .i64 mm.steps, .int .i64 mm.fin, .int .i64 mm.val] ?hx ?hy 25 #[.slice none 0 0, .int .i64 0, .slice none 0 0, .slice none 0 0, .slice none 0 0, .slice none 0 0, .slice none 0 0, .int .i64 0, .int .i64 0, .int .i64 0] ?hg ?hi ?ho ?h1 ?_; (case hx => rfl); (case hy => rfl); (case hg => exact X1.out); (case hi => kernel_rfl); (case ho => kernel_rfl); (case h1 => kernel_rfl); refine Hid.out ?_)
  unfold Hid
  go_wp2_with fail
  refine bodyPost_ret (v := .agg #[.slice v1.code.a v1.code.len v1.code.cap, .int .i64 mm.pc, .slice v1.regs.a v1.regs.len v1.regs.cap, .slice v1.data.a v1.data.len v1.data.cap, .slice v1.stk.a v1.stk.len v1.stk.cap, .slice v1.inp.a v1.inp.len v1.inp.cap, .slice v1.out.a v1.out.len v1.out.cap, .int .i64 mm.steps, .int .i64 mm.fin, .int .i64 mm.val]) ?hres rfl ⟨v1, mm, HMM.out, rfl, MOwn.setRow_low O1.out (by have := ZZ.out; omega) (by have := ZZ.out; omega), below_setRow B1.out (by omega) _⟩
  refine results_cell_row Tryz.results12 _ _ (w.heap.size + 1) 25 #[.slice v1.code.a v1.code.len v1.code.cap, .int .i64 mm.pc, .slice v1.regs.a v1.regs.len v1.regs.cap, .slice v1.data.a v1.data.len v1.data.cap, .slice v1.stk.a v1.stk.len v1.stk.cap, .slice v1.inp.a v1.inp.len v1.inp.cap, .slice v1.out.a v1.out.len v1.out.cap, .int .i64 mm.steps, .int .i64 mm.fin, .int .i64 mm.val] (0, 0) _ ?hp ?hg Tryz.underlying25 ?hd ?hi
  · rfl
  · exact setRow_heap _ _ _ _ _ _ X1.out
  · rfl
  · kernel_rfl
set_option maxRecDepth 8000 in
set_option maxHeartbeats 4000000 in
theorem implStep_any {lo : Nat} (v : MV) (m : Pl.Mac) (w : World) (h : MOwn lo w v m) (ht : Tabs w) (hsz : Pl.mSize m ≤ 1048576) :
    Calls Tryz.prog 13 #[.agg #[.slice v.code.a v.code.len v.code.cap, .int .i64 m.pc, .slice v.regs.a v.regs.len v.regs.cap, .slice v.data.a v.data.len v.data.cap, .slice v.stk.a v.stk.len v.stk.cap, .slice v.inp.a v.inp.len v.inp.cap, .slice v.out.a v.out.len v.out.cap, .int .i64 m.steps, .int .i64 m.fin, .int .i64 m.val]] w fun e w' => ∃ (v' : MV) (mm : Pl.Mac), mm = Pl.runM m 1 ∧ e = .returned (.agg #[.slice v'.code.a v'.code.len v'.code.cap, .int .i64 mm.pc, .slice v'.regs.a v'.regs.len v'.regs.cap, .slice v'.data.a v'.data.len v'.data.cap, .slice v'.stk.a v'.stk.len v'.stk.cap, .slice v'.inp.a v'.inp.len v'.inp.cap, .slice v'.out.a v'.out.len v'.out.cap, .int .i64 mm.steps, .int .i64 mm.fin, .int .i64 mm.val]) ∧ WrM w.heap.size w' v' mm ∧ (∃ t0 t6, MApart t0 t6 v' ∧ w.heap.size ≤ t0 ∧ t6 ≤ w'.heap.size) ∧ Below w.heap.size w w' := by
  have HI : Hid (MOwn lo w v m) := h
  have HT : Hid (Tabs w) := ht
  clear h ht
  have PB : Hid (((w.alloc (.cells #[.slice v.code.a v.code.len v.code.cap, .int .i64 m.pc, .slice v.regs.a v.regs.len v.regs.cap, .slice v.data.a v.data.len v.data.cap, .slice v.stk.a v.stk.len v.stk.cap, .slice v.inp.a v.inp.len v.inp.cap, .slice v.out.a v.out.len v.out.cap, .int .i64 m.steps, .int .i64 m.fin, .int .i64 m.val] 25)).alloc (.cells #[.slice none 0 0, .int .i64 0, .slice none 0 0, .slice none 0 0, .slice none 0 0, .slice none 0 0, .slice none 0 0, .int .i64 0, .int .i64 0, .int .i64 0] 25)).heap[w.heap.size]? = some (.cells #[.slice v.code.a v.code.len v.code.cap, .int .i64 m.pc, .slice v.regs.a v.regs.len v.regs.cap, .slice v.data.a v.data.len v.data.cap, .slice v.stk.a v.stk.len v.stk.cap, .slice v.inp.a v.inp.len v.inp.cap, .slice v.out.a v.out.len v.out.cap, .int .i64 m.steps, .int .i64 m.fin, .int .i64 m.val] 25)) := by
    show _ = _
    rw [Below.heap_alloc _ _ _ (by simp)]; exact heap_alloc_new w _
  go_enter Tryz.func13, Tryz.ntmps13
  go_wp2_with (refine load_row_gq 25 _ rfl (by kernel_rfl) (w.heap.size) ?hx 25 #[.slice v.code.a v.code.len v.code.cap, .int .i64 m.pc, .slice v.regs.a v.regs.len v.regs.cap, .slice v.data.a v.data.len v.data.cap, .slice v.stk.a v.stk.len v.stk.cap, .slice v.inp.a v.inp.len v.inp.cap, .slice v.out.a v.out.len v.out.cap, .int .i64 m.steps, .int .i64 m.fin, .int .i64 m.val] (0, 0) _ ?hg Tryz.underlying25 ?hd ?hi ?_; (case hx => rfl); (case hg => exact PB.out); (case hd => rfl); (case hi => kernel_rfl))
  refine calls_at fun u0 hu0 => ?_
  have X0 : u0.heap[w.heap.size + 1]? = some (.cells #[.slice none 0 0, .int .i64 0, .slice none 0 0, .slice none 0 0, .slice none 0 0, .slice none 0 0, .slice none 0 0, .int .i64 0, .int .i64 0, .int .i64 0] 25) := by rw [hu0]; exact heap_alloc_at9 _ _ _ (by simp)
  have B0 : Below w.heap.size w u0 := by rw [hu0]; exact ((Below.refl _ _).alloc (Nat.le_refl _) _).alloc (by simp) _
  have Z0 : u0.heap.size = w.heap.size + 2 := by rw [hu0]; simp
  clear hu0 PB
  refine (implRun_any v m u0 (HI.out.keep B0) hsz (HT.out.under B0) 1 (by decide)).mono ?_
  rintro e u1 ⟨v1, mm, hmm, rfl, o1, s1, d1⟩
  have X1 : Hid (u1.heap[w.heap.size + 1]? = some (.cells #[.slice none 0 0, .int .i64 0, .slice none 0 0, .slice none 0 0, .slice none 0 0, .slice none 0 0, .slice none 0 0, .int .i64 0, .int .i64 0, .int .i64 0] 25)) := (d1.block _ (by omega)).trans X0
  have B1 : Hid (Below w.heap.size w u1) := B0.trans (d1.mono (by omega))
  have O1 : Hid _ := o1
  have HMM : Hid (mm = Pl.runM m 1) := hmm
  have ZZ : Hid (u0.heap.size = w.heap.size + 2) := Z0
  have S1 : Hid (∃ t0 t6, MApart t0 t6 v1 ∧ u0.heap.size ≤ t0 ∧ t6 ≤ u1.heap.size) := s1
  clear d1 X0 B0 o1 hmm Z0 s1
  go_wp2_with (refine wpList_store_row rfl 25 _ _ rfl (w.heap.size + 1) #[.slice v1.code.a v1.code.len v1.code.cap, .int .i64 mm.pc, .slice v1.regs.a v1.regs.len v1.regs.cap, .slice v1.data.a v1.data.len v1.data.cap, .slice v1.stk.a v1.stk.len v1.stk.cap, .slice v1.inp.a v1.inp.len v1.inp.cap, .slice v1.out.a v1.out.len v1.out.cap, .int .i64 mm.steps, .int .i64 mm.fin, .int .i64 mm.val] ?hx ?hy 25 #[.slice none 0 0, .int .i64 0, .slice none 0 0, .slice none 0 0, .slice none 0 0, .slice none 0 0, .slice none 0 0, .int .i64 0, .int .i64 0, .int .i64 0] ?hg ?hi ?ho ?h1 ?_; (case hx => rfl); (case hy => rfl); (case hg => exact X1.out); (case hi => kernel_rfl); (case ho => kernel_rfl); (case h1 => kernel_rfl); refine Hid.out ?_)
  unfold Hid
  go_wp2_with fail
  refine bodyPost_ret (v := .agg #[.slice v1.code.a v1.code.len v1.code.cap, .int .i64 mm.pc, .slice v1.regs.a v1.regs.len v1.regs.cap, .slice v1.data.a v1.data.len v1.data.cap, .slice v1.stk.a v1.stk.len v1.stk.cap, .slice v1.inp.a v1.inp.len v1.inp.cap, .slice v1.out.a v1.out.len v1.out.cap, .int .i64 mm.steps, .int .i64 mm.fin, .int .i64 mm.val]) ?hres rfl ⟨v1, mm, HMM.out, rfl, WrM.low O1.out (by have := ZZ.out; omega) (by have := ZZ.out; omega), (by obtain ⟨t0, t6, q1, q2, q3⟩ := S1.out; exact ⟨t0, t6, q1, by have := ZZ.out; omega, by simpa [World.setRow] using q3⟩), below_setRow B1.out (by omega) _⟩
  refine results_cell_row Tryz.results13 _ _ (w.heap.size + 1) 25 #[.slice v1.code.a v1.code.len v1.code.cap, .int .i64 mm.pc, .slice v1.regs.a v1.regs.len v1.regs.cap, .slice v1.data.a v1.data.len v1.data.cap, .slice v1.stk.a v1.stk.len v1.stk.cap, .slice v1.inp.a v1.inp.len v1.inp.cap, .slice v1.out.a v1.out.len v1.out.cap, .int .i64 mm.steps, .int .i64 mm.fin, .int .i64 mm.val] (0, 0) _ ?hp ?hg Tryz.underlying25 ?hd ?hi
  · rfl
  · exact setRow_heap _ _ _ _ _ _ X1.out
  · rfl
  · kernel_rfl
end Go.Proofs.YtjdfffdeljgenaaGreatDoor.W
