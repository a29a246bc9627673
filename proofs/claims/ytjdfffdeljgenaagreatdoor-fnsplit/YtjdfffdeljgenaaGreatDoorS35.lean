import Derived.Test.YtjdfffdeljgenaaGreatDoorS31
import Derived.Test.YtjdfffdeljgenaaGreatDoorS34
import Derived.Test.YtjdfffdeljgenaaGreatDoorS33
import Derived.Laws.MakeOwn
import Derived.Test.YtjdfffdeljgenaaGreatDoorS11
set_option linter.unusedVariables false
set_option linter.unusedSimpArgs false
namespace Go.Proofs.YtjdfffdeljgenaaGreatDoor.W
open Go.RowKit
theorem Own.wr {k : IntKind} {e : TypeId} {lo : Nat} {w : World} {a : Option Addr} {len cap : Nat} {zs : List Int} (h : Own k e lo w a len cap zs) : Wr k lo w a len cap zs := ⟨h.row, fun _ b off q i => own_unfrozen h (by rw [q]; rfl) i⟩
theorem MOwn.wr {lo : Nat} {w : World} {v : MV} {m : Pl.Mac} (h : MOwn lo w v m) : WrM lo w v m := ⟨h.1.wr, h.2.1.wr, h.2.2.1.wr, h.2.2.2.1.wr, h.2.2.2.2.1.wr, h.2.2.2.2.2.wr⟩
theorem apart_spans {v : MV} {g lo hi : Nat} (ha : Apart g v) (hb : ∀ (j x : Nat), 1 ≤ j → (blks g v)[j]? = some (some x) → lo ≤ x ∧ x < hi) (hlh : lo ≤ hi) : MApart lo hi v := by
  obtain ⟨bl, hbl⟩ : ∃ bl : Nat → Option Nat, ∀ i, i < 6 → (blks g v)[i + 1]? = some (bl i) := ⟨fun i => ((blks g v)[i + 1]?).getD none, fun i hi => by
    rcases (show i = 0 ∨ i = 1 ∨ i = 2 ∨ i = 3 ∨ i = 4 ∨ i = 5 by omega) with e | e | e | e | e | e <;> subst e <;> rfl⟩
  have sp : ∀ i, i < 6 → ∀ s : SV, bl i = s.a.map (·.block) → Span s ((bl i).getD lo) (match bl i with | none => lo | some x => x + 1) := fun i hi s e ad had => by
    rw [e, had]
    exact ⟨Nat.le_refl _, Nat.lt_succ_self _⟩
  have eq : ∀ i, i < 6 → ∀ y, (blks g v)[i + 1]? = some y → bl i = y := fun i hi y q => Option.some.inj ((hbl i hi).symm.trans q)
  refine ⟨fun i => (bl i).getD lo, fun i => (match bl i with | none => lo | some x => x + 1), ⟨sp 0 (by decide) _ (eq 0 (by decide) _ rfl), sp 1 (by decide) _ (eq 1 (by decide) _ rfl), sp 2 (by decide) _ (eq 2 (by decide) _ rfl), sp 3 (by decide) _ (eq 3 (by decide) _ rfl), sp 4 (by decide) _ (eq 4 (by decide) _ rfl), sp 5 (by decide) _ (eq 5 (by decide) _ rfl)⟩, fun i hi6 => ?_, fun i j hi6 hj6 hij => ?_⟩
  · show lo ≤ (bl i).getD lo ∧ (match bl i with | none => lo | some x => x + 1) ≤ hi
    cases q : bl i with
    | none => exact ⟨Nat.le_refl _, hlh⟩
    | some x =>
      have := hb (i + 1) x (by omega) (by rw [hbl i hi6, q])
      exact ⟨this.1, this.2⟩
  · show (match bl i with | none => lo | some x => x + 1) ≤ (bl j).getD lo ∨ (match bl j with | none => lo | some x => x + 1) ≤ (bl i).getD lo
    cases q : bl i with
    | none =>
      cases q2 : bl j with
      | none => exact .inl (Nat.le_refl _)
      | some y => exact .inl (hb (j + 1) y (by omega) (by rw [hbl j hj6, q2])).1
    | some x =>
      cases q2 : bl j with
      | none => exact .inr (hb (i + 1) x (by omega) (by rw [hbl i hi6, q])).1
      | some y =>
        have : x ≠ y := fun e => ha (i + 1) (j + 1) (by omega) (by omega) (by omega) x (by rw [hbl i hi6, q]) (by rw [hbl j hj6, q2, e])
        rcases Nat.lt_or_ge x y with c | c
        · exact .inl c
        · exact .inr (show y + 1 ≤ x by omega)
theorem sep_apart2 {v : MV} (hs : MSep v) (O : Nat) (hO : ∀ j x, 1 ≤ j → (blks O v)[j]? = some (some x) → x ≠ O) : Apart O v := by
  obtain ⟨t0, t1, t2, t3, t4, t5, t6, s1, s2, s3, s4, s5, s6, o1, o2, o3, o4, o5, o6⟩ := hs
  have key : ∀ j x, 1 ≤ j → j < 7 → (blks O v)[j]? = some (some x) → (j = 1 ∧ t0 ≤ x ∧ x < t1) ∨ (j = 2 ∧ t1 ≤ x ∧ x < t2) ∨ (j = 3 ∧ t2 ≤ x ∧ x < t3) ∨ (j = 4 ∧ t3 ≤ x ∧ x < t4) ∨ (j = 5 ∧ t4 ≤ x ∧ x < t5) ∨ (j = 6 ∧ t5 ≤ x ∧ x < t6) := by
    intro j x hj h7 hx
    rcases (show j = 1 ∨ j = 2 ∨ j = 3 ∨ j = 4 ∨ j = 5 ∨ j = 6 by omega) with rfl | rfl | rfl | rfl | rfl | rfl
    · have := span_blk s1 (Option.some.inj hx); omega
    · have := span_blk s2 (Option.some.inj hx); omega
    · have := span_blk s3 (Option.some.inj hx); omega
    · have := span_blk s4 (Option.some.inj hx); omega
    · have := span_blk s5 (Option.some.inj hx); omega
    · have := span_blk s6 (Option.some.inj hx); omega
  intro i j hi hj hij x hx hy
  by_cases hi0 : i = 0
  · subst hi0
    have e : O = x := Option.some.inj (Option.some.inj hx)
    have := hO j x (by omega) hy
    omega
  by_cases hj0 : j = 0
  · subst hj0
    have e : O = x := Option.some.inj (Option.some.inj hy)
    have := hO i x (by omega) hx
    omega
  have a := key i x (by omega) hi hx
  have b := key j x (by omega) hj hy
  omega
theorem mown_spans {lo : Nat} {u : World} {v : MV} {m : Pl.Mac} (h : MOwn lo u v m) (hs : MSep v) (hl : lo ≤ u.heap.size) : ∃ t0 t6, MApart t0 t6 v ∧ lo ≤ t0 ∧ t6 ≤ u.heap.size :=
  ⟨lo, u.heap.size, apart_spans (g := u.heap.size) (sep_apart2 hs _ fun j x hj hx => Nat.ne_of_lt (mown_blk h _ j x hj hx).2) (fun j x hj hx => mown_blk h _ j x hj hx) hl, Nat.le_refl _, Nat.le_refl _⟩
def RngMk (v v1 : MV) (m : Pl.Mac) (fuel : Int) (A : Nat) (sb pb : Nat) (L : Array Bool) : Act := { tmps := #[.agg #[.slice v.code.a v.code.len v.code.cap, .int .i64 m.pc, .slice v.regs.a v.regs.len v.regs.cap, .slice v.data.a v.data.len v.data.cap, .slice v.stk.a v.stk.len v.stk.cap, .slice v.inp.a v.inp.len v.inp.cap, .slice v.out.a v.out.len v.out.cap, .int .i64 m.steps, .int .i64 m.fin, .int .i64 m.val], .int .i64 fuel, .pointer (some ⟨A, 0, none⟩), undef, .pointer (some ⟨A + 1, 0, none⟩), sl L 7 (.pointer (some ⟨pb, 0, none⟩)), .agg #[.slice v.code.a v.code.len v.code.cap, .int .i64 m.pc, .slice v.regs.a v.regs.len v.regs.cap, .slice v.data.a v.data.len v.data.cap, .slice v.stk.a v.stk.len v.stk.cap, .slice v.inp.a v.inp.len v.inp.cap, .slice v.out.a v.out.len v.out.cap, .int .i64 m.steps, .int .i64 m.fin, .int .i64 m.val], .agg #[.slice v1.code.a v1.code.len v1.code.cap, .int .i64 m.pc, .slice v1.regs.a v1.regs.len v1.regs.cap, .slice v1.data.a v1.data.len v1.data.cap, .slice v1.stk.a v1.stk.len v1.stk.cap, .slice v1.inp.a v1.inp.len v1.inp.cap, .slice v1.out.a v1.out.len v1.out.cap, .int .i64 m.steps, .int .i64 m.fin, .int .i64 m.val], .agg #[.slice v1.code.a v1.code.len v1.code.cap, .int .i64 m.pc, .slice v1.regs.a v1.regs.len v1.regs.cap, .slice v1.data.a v1.data.len v1.data.cap, .slice v1.stk.a v1.stk.len v1.stk.cap, .slice v1.inp.a v1.inp.len v1.inp.cap, .slice v1.out.a v1.out.len v1.out.cap, .int .i64 m.steps, .int .i64 m.fin, .int .i64 m.val], .bool true, sl L 0 (.agg #[.slice v1.code.a v1.code.len v1.code.cap, .int .i64 m.pc, .slice v1.regs.a v1.regs.len v1.regs.cap, .slice v1.data.a v1.data.len v1.data.cap, .slice v1.stk.a v1.stk.len v1.stk.cap, .slice v1.inp.a v1.inp.len v1.inp.cap, .slice v1.out.a v1.out.len v1.out.cap, .int .i64 m.steps, .int .i64 m.fin, .int .i64 m.val]), sl L 1 (.agg #[.iface 78 (.slice v1.data.a v1.data.len v1.data.cap), .iface 79 (.slice v1.stk.a v1.stk.len v1.stk.cap)]), sl L 2 (.pointer (some ⟨A, 0, none⟩)), sl L 3 (.slice v1.code.a v1.code.len v1.code.cap), sl L 4 (.int .i64 (v1.code.len : Int)), sl L 5 (.slice (some ⟨sb, 0, none⟩) v1.code.len v1.code.len), sl L 6 (.agg #[.pointer (some ⟨A, 0, none⟩), .iface 78 (.slice v1.data.a v1.data.len v1.data.cap), .iface 79 (.slice v1.stk.a v1.stk.len v1.stk.cap), .slice (some ⟨sb, 0, none⟩) v1.code.len v1.code.len]), undef, undef, undef], defers := [] }
def RngW (A : Nat) (v1 : MV) (u3 : World) (sb pb : Nat) (L : Array Bool) (w : World) : Prop := Below u3.heap.size u3 w ∧ (up L 5 = true → u3.heap.size ≤ sb ∧ w.heap[sb]? = some (.cells (madeCells #[.pointer none] v1.code.len) 106)) ∧ (up L 7 = true → u3.heap.size ≤ pb ∧ w.heap[pb]? = some (.cells (bif up L 8 then #[.pointer (some ⟨A, 0, none⟩), .iface 78 (.slice v1.data.a v1.data.len v1.data.cap), .iface 79 (.slice v1.stk.a v1.stk.len v1.stk.cap), .slice (some ⟨sb, 0, none⟩) v1.code.len v1.code.len] else #[.pointer none, .nilIface, .nilIface, .slice none 0 0]) 57)) ∧ (up L 5 = true → up L 7 = true → sb ≠ pb)
theorem RngW.keep {A : Nat} {v1 : MV} {u3 : World} {sb pb : Nat} {L : Array Bool} {w : World} (h : RngW A v1 u3 sb pb L w) {i : Nat} (hi : i < L.size) (n5 : i ≠ 5) (n7 : i ≠ 7) (n8 : i ≠ 8) {w' : World} (hB : Below w.heap.size w w') : RngW A v1 u3 sb pb (L.setIfInBounds i true) w' := by
  unfold RngW at h ⊢
  rw [up_set hi, up_set hi, up_set hi, if_neg n5, if_neg n7, if_neg n8]
  exact ⟨h.1.trans (hB.mono h.1.size), fun q => ⟨(h.2.1 q).1, (hB.block _ (Array.getElem?_eq_some_iff.1 (h.2.1 q).2).1).trans (h.2.1 q).2⟩, fun q => ⟨(h.2.2.1 q).1, (hB.block _ (Array.getElem?_eq_some_iff.1 (h.2.2.1 q).2).1).trans (h.2.2.1 q).2⟩, h.2.2.2⟩
theorem Row.raise {k : IntKind} {lo : Nat} {w : World} {a : Option Addr} {len cap : Nat} {zs : List Int} (h : Row k 0 w a len cap zs) (hb : ∀ x, a.map (·.block) = some x → lo ≤ x) : Row k lo w a len cap zs :=
  ⟨h.1, h.2.1, h.2.2.1, h.2.2.2.1, h.2.2.2.2.imp id fun ⟨b, off, e, _, h2, h3⟩ => ⟨b, off, e, hb b (by rw [e]; rfl), h2, h3⟩⟩
theorem made_nil (n k : Nat) (h : k < n) : (madeCells #[Value.pointer none] n)[k]? = some (.pointer none) := by
  unfold madeCells
  rw [Array.getElem?_map, Array.getElem?_range]
  simp [h, Nat.mod_one]
theorem Tryz.infopi : (Tryz.prog.info? 106).map (fun i => (i.zero, i.size, i.bytes)) = some (some (.pointer none), 1, 8) := by kernel_rfl
set_option maxRecDepth 8000 in
set_option maxHeartbeats 4000000 in
theorem implRun_row {lo : Nat} (v : MV) (m : Pl.Mac) (w : World) (h : MIs lo w v m) (hsz : Pl.mSize m ≤ 1048576) (ht : Tabs w) (fuel : Int) (hfl : -9223372036854775808 ≤ fuel ∧ fuel ≤ 9223372036854775807) :
    Calls Tryz.prog 9 #[.agg #[.slice v.code.a v.code.len v.code.cap, .int .i64 m.pc, .slice v.regs.a v.regs.len v.regs.cap, .slice v.data.a v.data.len v.data.cap, .slice v.stk.a v.stk.len v.stk.cap, .slice v.inp.a v.inp.len v.inp.cap, .slice v.out.a v.out.len v.out.cap, .int .i64 m.steps, .int .i64 m.fin, .int .i64 m.val], .int .i64 fuel] w fun e w' => ∃ (v' : MV) (mm : Pl.Mac), mm = Pl.runM m fuel ∧ e = .returned (.agg #[.slice v'.code.a v'.code.len v'.code.cap, .int .i64 mm.pc, .slice v'.regs.a v'.regs.len v'.regs.cap, .slice v'.data.a v'.data.len v'.data.cap, .slice v'.stk.a v'.stk.len v'.stk.cap, .slice v'.inp.a v'.inp.len v'.inp.cap, .slice v'.out.a v'.out.len v'.out.cap, .int .i64 mm.steps, .int .i64 mm.fin, .int .i64 mm.val]) ∧ WrM w.heap.size w' v' mm ∧ (∃ t0 t6, MApart t0 t6 v' ∧ w.heap.size ≤ t0 ∧ t6 ≤ w'.heap.size) ∧ Below w.heap.size w w' := by
  have HI : Hid (MIs lo w v m) := h
  have HT : Hid (Tabs w) := ht
  clear h ht
  have PB : Hid (((w.alloc (.cells #[.slice v.code.a v.code.len v.code.cap, .int .i64 m.pc, .slice v.regs.a v.regs.len v.regs.cap, .slice v.data.a v.data.len v.data.cap, .slice v.stk.a v.stk.len v.stk.cap, .slice v.inp.a v.inp.len v.inp.cap, .slice v.out.a v.out.len v.out.cap, .int .i64 m.steps, .int .i64 m.fin, .int .i64 m.val] 25)).alloc (.cells #[.slice none 0 0, .int .i64 0, .slice none 0 0, .slice none 0 0, .slice none 0 0, .slice none 0 0, .slice none 0 0, .int .i64 0, .int .i64 0, .int .i64 0] 25)).heap[w.heap.size]? = some (.cells #[.slice v.code.a v.code.len v.code.cap, .int .i64 m.pc, .slice v.regs.a v.regs.len v.regs.cap, .slice v.data.a v.data.len v.data.cap, .slice v.stk.a v.stk.len v.stk.cap, .slice v.inp.a v.inp.len v.inp.cap, .slice v.out.a v.out.len v.out.cap, .int .i64 m.steps, .int .i64 m.fin, .int .i64 m.val] 25)) := by
    show _ = _
    rw [Below.heap_alloc _ _ _ (by simp)]; exact heap_alloc_new w _
  go_enter Tryz.func9, Tryz.ntmps9
  go_wp2_with (refine load_row_gq 25 _ rfl (by kernel_rfl) (w.heap.size) ?hx 25 #[.slice v.code.a v.code.len v.code.cap, .int .i64 m.pc, .slice v.regs.a v.regs.len v.regs.cap, .slice v.data.a v.data.len v.data.cap, .slice v.stk.a v.stk.len v.stk.cap, .slice v.inp.a v.inp.len v.inp.cap, .slice v.out.a v.out.len v.out.cap, .int .i64 m.steps, .int .i64 m.fin, .int .i64 m.val] (0, 0) _ ?hg Tryz.underlying25 ?hd ?hi ?_; (case hx => rfl); (case hg => exact PB.out); (case hd => rfl); (case hi => kernel_rfl))
  refine calls_at fun u0 hu0 => ?_
  have Q0 : u0.heap[w.heap.size]? = some (.cells #[.slice v.code.a v.code.len v.code.cap, .int .i64 m.pc, .slice v.regs.a v.regs.len v.regs.cap, .slice v.data.a v.data.len v.data.cap, .slice v.stk.a v.stk.len v.stk.cap, .slice v.inp.a v.inp.len v.inp.cap, .slice v.out.a v.out.len v.out.cap, .int .i64 m.steps, .int .i64 m.fin, .int .i64 m.val] 25) := by rw [hu0]; exact PB.out
  have X0 : u0.heap[w.heap.size + 1]? = some (.cells #[.slice none 0 0, .int .i64 0, .slice none 0 0, .slice none 0 0, .slice none 0 0, .slice none 0 0, .slice none 0 0, .int .i64 0, .int .i64 0, .int .i64 0] 25) := by rw [hu0]; exact heap_alloc_at9 _ _ _ (by simp)
  have B0 : Below w.heap.size w u0 := by rw [hu0]; exact ((Below.refl _ _).alloc (Nat.le_refl _) _).alloc (by simp) _
  have Z0 : u0.heap.size = w.heap.size + 2 := by rw [hu0]; simp
  clear hu0 PB
  refine (copyMachine_row v m u0 (HI.out.keep B0) hsz).mono ?_
  rintro e u1 ⟨v1, rfl, o1, p1, d1⟩
  have Q1 : Hid (u1.heap[w.heap.size]? = some (.cells #[.slice v.code.a v.code.len v.code.cap, .int .i64 m.pc, .slice v.regs.a v.regs.len v.regs.cap, .slice v.data.a v.data.len v.data.cap, .slice v.stk.a v.stk.len v.stk.cap, .slice v.inp.a v.inp.len v.inp.cap, .slice v.out.a v.out.len v.out.cap, .int .i64 m.steps, .int .i64 m.fin, .int .i64 m.val] 25)) := (d1.block _ (by omega)).trans Q0
  have X1 : Hid (u1.heap[w.heap.size + 1]? = some (.cells #[.slice none 0 0, .int .i64 0, .slice none 0 0, .slice none 0 0, .slice none 0 0, .slice none 0 0, .slice none 0 0, .int .i64 0, .int .i64 0, .int .i64 0] 25)) := (d1.block _ (by omega)).trans X0
  have B1 : Hid (Below w.heap.size w u1) := B0.trans (d1.mono (by omega))
  have Z1 : Hid (w.heap.size + 2 ≤ u1.heap.size) := by show w.heap.size + 2 ≤ u1.heap.size; have := d1.size; omega
  have O1 : Hid (MOwn (w.heap.size + 2) u1 v1 m ∧ MSep v1) := ⟨Z0 ▸ o1, p1⟩
  clear d1 Q0 X0 B0 Z0 o1 p1
  go_wp2_with (refine wpList_store_row rfl 25 _ _ rfl (w.heap.size) #[.slice v1.code.a v1.code.len v1.code.cap, .int .i64 m.pc, .slice v1.regs.a v1.regs.len v1.regs.cap, .slice v1.data.a v1.data.len v1.data.cap, .slice v1.stk.a v1.stk.len v1.stk.cap, .slice v1.inp.a v1.inp.len v1.inp.cap, .slice v1.out.a v1.out.len v1.out.cap, .int .i64 m.steps, .int .i64 m.fin, .int .i64 m.val] ?hx ?hy 25 #[.slice v.code.a v.code.len v.code.cap, .int .i64 m.pc, .slice v.regs.a v.regs.len v.regs.cap, .slice v.data.a v.data.len v.data.cap, .slice v.stk.a v.stk.len v.stk.cap, .slice v.inp.a v.inp.len v.inp.cap, .slice v.out.a v.out.len v.out.cap, .int .i64 m.steps, .int .i64 m.fin, .int .i64 m.val] ?hg ?hi ?ho ?h1 ?_; (case hx => rfl); (case hy => rfl); (case hg => exact Q1.out); (case hi => kernel_rfl); (case ho => kernel_rfl); (case h1 => kernel_rfl); refine Hid.out ?_)
  unfold Hid
  refine wpList_at fun u2 hu2 => ?_
  have E2 : Hid (u2.heap[w.heap.size]? = some (.cells #[.slice v1.code.a v1.code.len v1.code.cap, .int .i64 m.pc, .slice v1.regs.a v1.regs.len v1.regs.cap, .slice v1.data.a v1.data.len v1.data.cap, .slice v1.stk.a v1.stk.len v1.stk.cap, .slice v1.inp.a v1.inp.len v1.inp.cap, .slice v1.out.a v1.out.len v1.out.cap, .int .i64 m.steps, .int .i64 m.fin, .int .i64 m.val] 25)) := by show u2.heap[w.heap.size]? = _; rw [hu2]; exact setRow_heap _ _ _ _ _ _ Q1.out
  have X2 : Hid (u2.heap[w.heap.size + 1]? = some (.cells #[.slice none 0 0, .int .i64 0, .slice none 0 0, .slice none 0 0, .slice none 0 0, .slice none 0 0, .slice none 0 0, .int .i64 0, .int .i64 0, .int .i64 0] 25)) := by show u2.heap[w.heap.size + 1]? = _; rw [hu2]; exact (setRow_other _ _ _ _ (by omega)).trans X1.out
  have B2 : Hid (Below w.heap.size w u2) := by show Below w.heap.size w u2; rw [hu2]; exact below_setRow B1.out (Nat.le_refl _) _
  have O2 : Hid (MOwn (w.heap.size + 2) u2 v1 m ∧ MSep v1) := by show MOwn (w.heap.size + 2) u2 v1 m ∧ MSep v1; rw [hu2]; exact ⟨O1.out.1.setRow_low (Nat.le_refl _) (by omega), O1.out.2⟩
  have Z2 : Hid (w.heap.size + 2 ≤ u2.heap.size) := by show w.heap.size + 2 ≤ u2.heap.size; rw [hu2]; have := Z1.out; simpa [World.setRow] using this
  clear hu2 Q1 X1 B1 Z1 O1
  go_wp2_with (refine load_row_gq 25 _ rfl (by kernel_rfl) (w.heap.size) ?hx 25 #[.slice v1.code.a v1.code.len v1.code.cap, .int .i64 m.pc, .slice v1.regs.a v1.regs.len v1.regs.cap, .slice v1.data.a v1.data.len v1.data.cap, .slice v1.stk.a v1.stk.len v1.stk.cap, .slice v1.inp.a v1.inp.len v1.inp.cap, .slice v1.out.a v1.out.len v1.out.cap, .int .i64 m.steps, .int .i64 m.fin, .int .i64 m.val] (0, 0) _ ?hg Tryz.underlying25 ?hd ?hi ?_; (case hx => rfl); (case hg => exact E2.out); (case hd => rfl); (case hi => kernel_rfl))
  refine (implMachineOk_any v1 m u2 O2.out.1.is).mono ?_
  rintro e u3 ⟨rfl, d3⟩
  have E3 : Hid (u3.heap[w.heap.size]? = some (.cells #[.slice v1.code.a v1.code.len v1.code.cap, .int .i64 m.pc, .slice v1.regs.a v1.regs.len v1.regs.cap, .slice v1.data.a v1.data.len v1.data.cap, .slice v1.stk.a v1.stk.len v1.stk.cap, .slice v1.inp.a v1.inp.len v1.inp.cap, .slice v1.out.a v1.out.len v1.out.cap, .int .i64 m.steps, .int .i64 m.fin, .int .i64 m.val] 25)) := (d3.block _ (by have := Z2.out; omega)).trans E2.out
  have X3 : Hid (u3.heap[w.heap.size + 1]? = some (.cells #[.slice none 0 0, .int .i64 0, .slice none 0 0, .slice none 0 0, .slice none 0 0, .slice none 0 0, .slice none 0 0, .int .i64 0, .int .i64 0, .int .i64 0] 25)) := (d3.block _ (by have := Z2.out; omega)).trans X2.out
  have B3 : Hid (Below w.heap.size w u3) := B2.out.trans (d3.mono (by have := Z2.out; omega))
  have O3 : Hid (MOwn (w.heap.size + 2) u3 v1 m ∧ MSep v1) := ⟨O2.out.1.keep d3, O2.out.2⟩
  have Z3 : Hid (w.heap.size + 2 ≤ u3.heap.size) := by show w.heap.size + 2 ≤ u3.heap.size; have := d3.size; have := Z2.out; omega
  clear d3 E2 X2 B2 O2 Z2
  cases hok : Pl.mOk m
  · go_wp2_with (first | (refine load_row_gq 25 _ rfl (by kernel_rfl) (w.heap.size) ?hx 25 #[.slice v1.code.a v1.code.len v1.code.cap, .int .i64 m.pc, .slice v1.regs.a v1.regs.len v1.regs.cap, .slice v1.data.a v1.data.len v1.data.cap, .slice v1.stk.a v1.stk.len v1.stk.cap, .slice v1.inp.a v1.inp.len v1.inp.cap, .slice v1.out.a v1.out.len v1.out.cap, .int .i64 m.steps, .int .i64 m.fin, .int .i64 m.val] (0, 0) _ ?hg Tryz.underlying25 ?hd ?hi ?_; (case hx => rfl); (case hg => exact E3.out); (case hd => rfl); (case hi => kernel_rfl)) | (refine wpList_store_row rfl 25 _ _ rfl (w.heap.size + 1) #[.slice v1.code.a v1.code.len v1.code.cap, .int .i64 m.pc, .slice v1.regs.a v1.regs.len v1.regs.cap, .slice v1.data.a v1.data.len v1.data.cap, .slice v1.stk.a v1.stk.len v1.stk.cap, .slice v1.inp.a v1.inp.len v1.inp.cap, .slice v1.out.a v1.out.len v1.out.cap, .int .i64 m.steps, .int .i64 m.fin, .int .i64 m.val] ?hx ?hy 25 #[.slice none 0 0, .int .i64 0, .slice none 0 0, .slice none 0 0, .slice none 0 0, .slice none 0 0, .slice none 0 0, .int .i64 0, .int .i64 0, .int .i64 0] ?hg ?hi ?ho ?h1 ?_; (case hx => rfl); (case hy => rfl); (case hg => exact X3.out); (case hi => kernel_rfl); (case ho => kernel_rfl); (case h1 => kernel_rfl); refine Hid.out ?_))
    unfold Hid
    go_wp2_with fail
    refine bodyPost_ret (v := .agg #[.slice v1.code.a v1.code.len v1.code.cap, .int .i64 m.pc, .slice v1.regs.a v1.regs.len v1.regs.cap, .slice v1.data.a v1.data.len v1.data.cap, .slice v1.stk.a v1.stk.len v1.stk.cap, .slice v1.inp.a v1.inp.len v1.inp.cap, .slice v1.out.a v1.out.len v1.out.cap, .int .i64 m.steps, .int .i64 m.fin, .int .i64 m.val]) ?hres rfl ⟨v1, m, ?_, rfl, ?_, ?_, below_setRow B3.out (by omega) _⟩
    case hres =>
      refine results_cell_row Tryz.results9 _ _ (w.heap.size + 1) 25 #[.slice v1.code.a v1.code.len v1.code.cap, .int .i64 m.pc, .slice v1.regs.a v1.regs.len v1.regs.cap, .slice v1.data.a v1.data.len v1.data.cap, .slice v1.stk.a v1.stk.len v1.stk.cap, .slice v1.inp.a v1.inp.len v1.inp.cap, .slice v1.out.a v1.out.len v1.out.cap, .int .i64 m.steps, .int .i64 m.fin, .int .i64 m.val] (0, 0) _ ?hp ?hg Tryz.underlying25 ?hd ?hi
      case hp => rfl
      case hg => exact setRow_heap _ _ _ _ _ _ X3.out
      case hd => rfl
      case hi => kernel_rfl
    · exact (Pl.runM_not hok fuel).symm
    · have := O3.out.1.setRow_low (g := w.heap.size + 1) (cs := #[.slice v1.code.a v1.code.len v1.code.cap, .int .i64 m.pc, .slice v1.regs.a v1.regs.len v1.regs.cap, .slice v1.data.a v1.data.len v1.data.cap, .slice v1.stk.a v1.stk.len v1.stk.cap, .slice v1.inp.a v1.inp.len v1.inp.cap, .slice v1.out.a v1.out.len v1.out.cap, .int .i64 m.steps, .int .i64 m.fin, .int .i64 m.val]) (show w.heap.size ≤ w.heap.size + 2 by omega) (by omega)
      exact this.wr
    · obtain ⟨t0, t6, hq⟩ := mown_spans O3.out.1 O3.out.2 Z3.out
      exact ⟨t0, t6, hq.1, by have := hq.2.1; omega, by have := hq.2.2; simpa [World.setRow] using this⟩
  · go_upto_region 3 with fail
    obtain ⟨U, hU⟩ : ∃ U, U = u3.drew := ⟨_, rfl⟩
    have dU : Below u3.heap.size u3 U := by rw [hU]; exact (Below.refl _ _).drew
    have ki : ∀ w', Below u3.heap.size u3 w' → ∀ j, w'.cell? ⟨w.heap.size, j, none⟩ = (#[.slice v1.code.a v1.code.len v1.code.cap, .int .i64 m.pc, .slice v1.regs.a v1.regs.len v1.regs.cap, .slice v1.data.a v1.data.len v1.data.cap, .slice v1.stk.a v1.stk.len v1.stk.cap, .slice v1.inp.a v1.inp.len v1.inp.cap, .slice v1.out.a v1.out.len v1.out.cap, .int .i64 m.steps, .int .i64 m.fin, .int .i64 m.val] : Array Value)[j]? := fun w' hw j => cell_of_row w' w.heap.size j _ 25 (0, 0) ((hw.block _ (by have := Z3.out; omega)).trans E3.out)
    have hcl : v1.code.len ≤ 16384 := by have := (Pl.vd_of_ok hok).code; have := O3.out.1.1.row.1; omega
    obtain ⟨i0, hi0, hz0, hz1, hz2⟩ := info_parts Tryz.infopi
    have hm : ∀ u : World, (Instr.makeSlice 55 (.int .i64 (v1.code.len : Int)) (.int .i64 (v1.code.len : Int))).run Tryz.prog u = .ok (.slice (some ⟨u.heap.size, 0, none⟩) v1.code.len v1.code.len) (u.alloc (.cells (madeCells #[.pointer none] v1.code.len) 106)) := fun u => by
      have := run_makeSlice u 55 106 i0 _ Tryz.underlying55 hi0 hz0 .i64 .i64 (v1.code.len : Int) (v1.code.len : Int) (by omega) (by omega) (by rw [hz1]; omega) (by rw [hz2]; omega) (by omega)
      rw [hz1, Nat.mul_one] at this
      exact this
    clear hi0 hz0 hz1 hz2
    refine wp_region_any (by kernel_rfl) ?_
    change wpAny _ _ _ _ _ _ _ (World.drew _)
    rw [← hU]
    refine wpAny_inw (fun L act w' => ∃ sb pb, act = RngMk v v1 m fuel w.heap.size sb pb L ∧ RngW w.heap.size v1 u3 sb pb L w') ?done (by kernel_rfl) ?step _ 9 _ _ (by kernel_rfl) ?init (by decide)
    case init => exact ⟨0, 0, by simp only [RngMk, sl_no (up_init _ _)], dU, fun q => absurd (q.symm.trans (up_init _ _)) (by decide), fun q => absurd (q.symm.trans (up_init _ _)) (by decide), fun q => absurd (q.symm.trans (up_init _ _)) (by decide)⟩
    case step =>
      intro L act w i o hI hlt hs nl hC hd ho K hK
      obtain ⟨sb, pb, rfl, hW⟩ := hI
      have hi_lt : i < 9 := (Array.getElem?_eq_some_iff.1 ho).1
      rcases (show i = 0 ∨ i = 1 ∨ i = 2 ∨ i = 3 ∨ i = 4 ∨ i = 5 ∨ i = 6 ∨ i = 7 ∨ i = 8 by omega) with rfl | rfl | rfl | rfl | rfl | rfl | rfl | rfl | rfl
      · change some _ = some o at ho
        cases ho
        have kj := ki w hW.1
        simp only [RngMk]
        go_simp
        exact hK _ _ ⟨sb, pb, by simp only [RngMk, sl_set hlt, reduceIte, Nat.reduceEqDiff]; try rfl, (hW.keep hlt (by decide) (by decide) (by decide) (Below.refl _ _))⟩
      · change some _ = some o at ho
        cases ho
        have q0 : up L 0 = true := (by first | exact hd { on := 0, ground := .data } (by simp) rfl | exact hd { on := 0, ground := .chain } (by simp) rfl | exact hd { on := 0, ground := .phase } (by simp) rfl)
        simp only [RngMk, sl_yes q0]
        go_simp
        refine (memoryOf_any v1 m w).mono ?_
        rintro e z ⟨rfl, dz⟩
        go_simp
        exact hK _ _ ⟨sb, pb, by simp only [RngMk, sl_set hlt, sl_yes q0, reduceIte, Nat.reduceEqDiff]; try rfl, (hW.keep hlt (by decide) (by decide) (by decide) dz)⟩
      · change some _ = some o at ho
        cases ho
        simp only [RngMk]
        go_simp
        exact hK _ _ ⟨sb, pb, by simp only [RngMk, sl_set hlt, reduceIte, Nat.reduceEqDiff]; try rfl, (hW.keep hlt (by decide) (by decide) (by decide) (Below.refl _ _))⟩
      · change some _ = some o at ho
        cases ho
        have q2 : up L 2 = true := (by first | exact hd { on := 2, ground := .data } (by simp) rfl | exact hd { on := 2, ground := .chain } (by simp) rfl | exact hd { on := 2, ground := .phase } (by simp) rfl)
        have kj := ki w hW.1
        simp only [RngMk, sl_yes q2]
        go_simp
        exact hK _ _ ⟨sb, pb, by simp only [RngMk, sl_set hlt, sl_yes q2, reduceIte, Nat.reduceEqDiff]; try rfl, (hW.keep hlt (by decide) (by decide) (by decide) (Below.refl _ _))⟩
      · change some _ = some o at ho
        cases ho
        have q3 : up L 3 = true := (by first | exact hd { on := 3, ground := .data } (by simp) rfl | exact hd { on := 3, ground := .chain } (by simp) rfl | exact hd { on := 3, ground := .phase } (by simp) rfl)
        simp only [RngMk, sl_yes q3]
        go_simp
        exact hK _ _ ⟨sb, pb, by simp only [RngMk, sl_set hlt, sl_yes q3, reduceIte, Nat.reduceEqDiff]; try rfl, (hW.keep hlt (by decide) (by decide) (by decide) (Below.refl _ _))⟩
      · change some _ = some o at ho
        cases ho
        have q4 : up L 4 = true := (by first | exact hd { on := 4, ground := .data } (by simp) rfl | exact hd { on := 4, ground := .chain } (by simp) rfl | exact hd { on := 4, ground := .phase } (by simp) rfl)
        have n6 : up L 6 = false := hC.no nl 6 rfl (by kernel_rfl)
        have n8 : up L 8 = false := hC.no n6 8 rfl (by kernel_rfl)
        simp only [RngMk, sl_yes q4]
        rw [sl_no n6]
        go_simp
        exact hK _ _ ⟨w.heap.size, pb, by simp only [RngMk, sl_set hlt, sl_yes q4, sl_no n6, reduceIte, Nat.reduceEqDiff]; try rfl, ⟨hW.1.trans ((below_alloc w _).mono hW.1.size), fun _ => ⟨hW.1.size, heap_alloc_new w _⟩, fun q => by rw [up_set hlt, if_neg (by decide)] at q; have hp := hW.2.2.1 q; rw [n8] at hp; rw [up_set hlt, if_neg (by decide), n8]; exact ⟨hp.1, ((below_alloc w _).block _ (Array.getElem?_eq_some_iff.1 hp.2).1).trans hp.2⟩, fun _ q => by rw [up_set hlt, if_neg (by decide)] at q; have := (Array.getElem?_eq_some_iff.1 (hW.2.2.1 q).2).1; omega⟩⟩
      · change some _ = some o at ho
        cases ho
        have q1 : up L 1 = true := (by first | exact hd { on := 1, ground := .data } (by simp) rfl | exact hd { on := 1, ground := .chain } (by simp) rfl | exact hd { on := 1, ground := .phase } (by simp) rfl)
        have q5 : up L 5 = true := (by first | exact hd { on := 5, ground := .data } (by simp) rfl | exact hd { on := 5, ground := .chain } (by simp) rfl | exact hd { on := 5, ground := .phase } (by simp) rfl)
        simp only [RngMk, sl_yes q1, sl_yes q5]
        go_simp
        exact hK _ _ ⟨sb, pb, by simp only [RngMk, sl_set hlt, sl_yes q1, sl_yes q5, reduceIte, Nat.reduceEqDiff]; try rfl, (hW.keep hlt (by decide) (by decide) (by decide) (Below.refl _ _))⟩
      · change some _ = some o at ho
        cases ho
        have n8 : up L 8 = false := hC.no nl 8 rfl (by kernel_rfl)
        simp only [RngMk]
        go_simp
        exact hK _ _ ⟨sb, w.heap.size, by simp only [RngMk, sl_set hlt, reduceIte, Nat.reduceEqDiff]; try rfl, ⟨hW.1.trans ((below_alloc w _).mono hW.1.size), fun q => by rw [up_set hlt, if_neg (by decide)] at q; exact ⟨(hW.2.1 q).1, ((below_alloc w _).block _ (Array.getElem?_eq_some_iff.1 (hW.2.1 q).2).1).trans (hW.2.1 q).2⟩, fun _ => ⟨hW.1.size, by rw [up_set hlt, if_neg (by decide), n8]; exact heap_alloc_new w _⟩, fun q _ => by rw [up_set hlt, if_neg (by decide)] at q; have := (Array.getElem?_eq_some_iff.1 (hW.2.1 q).2).1; omega⟩⟩
      · change some _ = some o at ho
        cases ho
        have q6 : up L 6 = true := (by first | exact hd { on := 6, ground := .data } (by simp) rfl | exact hd { on := 6, ground := .chain } (by simp) rfl | exact hd { on := 6, ground := .phase } (by simp) rfl)
        have q7 : up L 7 = true := (by first | exact hd { on := 7, ground := .data } (by simp) rfl | exact hd { on := 7, ground := .chain } (by simp) rfl | exact hd { on := 7, ground := .phase } (by simp) rfl)
        have q5 : up L 5 = true := hC 6 _ rfl q6 { on := 5, ground := .data } (by simp) rfl
        have hp := hW.2.2.1 q7
        rw [nl] at hp
        simp only [RngMk, sl_yes q6, sl_yes q7]
        rw [if_pos (by rfl)]
        refine wp_store_row 57 _ _ rfl pb _ rfl rfl 57 #[.pointer none, .nilIface, .nilIface, .slice none 0 0] hp.2 (by kernel_rfl) rfl (by kernel_rfl) ?_
        exact hK _ _ ⟨sb, pb, by simp only [RngMk, sl_set hlt, sl_yes q6, sl_yes q7, reduceIte, Nat.reduceEqDiff]; try rfl, ⟨below_setRow hW.1 hp.1 _, fun _ => ⟨(hW.2.1 q5).1, (setRow_other _ _ _ _ (hW.2.2.2 q5 q7)).trans (hW.2.1 q5).2⟩, fun _ => ⟨hp.1, by rw [up_set hlt, if_pos rfl]; exact setRow_heap _ _ _ _ _ _ hp.2⟩, fun _ _ => hW.2.2.2 q5 q7⟩⟩
    case done =>
      rintro L act u4 ⟨sb, pb, rfl, hW⟩ hall
      obtain ⟨d4, h5, h7, h57⟩ := hW
      replace h5 := h5 (hall 5 (by decide))
      replace h7 := h7 (hall 7 (by decide))
      replace h57 := h57 (hall 5 (by decide)) (hall 7 (by decide))
      rw [hall 8 (by decide)] at h7
      simp only [RngMk, sl_yes (hall 0 (by decide)), sl_yes (hall 1 (by decide)), sl_yes (hall 2 (by decide)), sl_yes (hall 3 (by decide)), sl_yes (hall 4 (by decide)), sl_yes (hall 5 (by decide)), sl_yes (hall 6 (by decide)), sl_yes (hall 7 (by decide))]
      have hZ3 := Z3.out
      have hd4 := d4.size
      have spb : pb < u4.heap.size := (Array.getElem?_eq_some_iff.1 h7.2).1
      have ssb : sb < u4.heap.size := (Array.getElem?_eq_some_iff.1 h5.2).1
      have B4 : Below w.heap.size w u4 := B3.out.trans (d4.mono (by omega))
      have E4 : u4.heap[w.heap.size]? = some (.cells #[.slice v1.code.a v1.code.len v1.code.cap, .int .i64 m.pc, .slice v1.regs.a v1.regs.len v1.regs.cap, .slice v1.data.a v1.data.len v1.data.cap, .slice v1.stk.a v1.stk.len v1.stk.cap, .slice v1.inp.a v1.inp.len v1.inp.cap, .slice v1.out.a v1.out.len v1.out.cap, .int .i64 m.steps, .int .i64 m.fin, .int .i64 m.val] 25) := (d4.block _ (by omega)).trans E3.out
      have X4 : u4.heap[w.heap.size + 1]? = some (.cells #[.slice none 0 0, .int .i64 0, .slice none 0 0, .slice none 0 0, .slice none 0 0, .slice none 0 0, .slice none 0 0, .int .i64 0, .int .i64 0, .int .i64 0] 25) := (d4.block _ (by omega)).trans X3.out
      have O4 : MOwn (w.heap.size + 2) u4 v1 m := O3.out.1.keep d4
      have hl : ∀ j x, 1 ≤ j → (blks w.heap.size v1)[j]? = some (some x) → w.heap.size + 2 ≤ x ∧ x < u3.heap.size := fun j x hj hx => mown_blk O3.out.1 _ j x hj hx
      obtain ⟨D, hD⟩ : ∃ D : Nat → Prop, D = fun x => x < u4.heap.size ∧ ∀ i : Nat, (blks w.heap.size v1)[i]? ≠ some (some x) := ⟨_, rfl⟩
      have mkD : ∀ x, x < u4.heap.size → x ≠ w.heap.size → (x < w.heap.size + 2 ∨ u3.heap.size ≤ x) → D x := fun x h1 h2 h3 => by
        rw [hD]
        refine ⟨h1, fun i q => ?_⟩
        rcases Nat.eq_zero_or_pos i with e | e
        · subst e; exact h2 (Option.some.inj (Option.some.inj q)).symm
        · have := hl i x e q; omega
      have RR : Run D w.heap.size u4 v1 m := by
        refine ⟨fun x hx => by rw [hD] at hx; exact hx, E4, (O4.is.1).lower (Nat.zero_le _), O4.2.1.lower (Nat.zero_le _), O4.2.2.1.lower (Nat.zero_le _), O4.2.2.2.1.lower (Nat.zero_le _), (O4.is.2.2.2.2.1).lower (Nat.zero_le _), O4.2.2.2.2.2.lower (Nat.zero_le _), sep_apart2 O3.out.2 _ (fun j x hj hx => by have := hl j x hj hx; omega), fun i x hx => ?_, fun i x hx j => ?_⟩
        · rcases Nat.eq_zero_or_pos i with e | e
          · subst e; have := Option.some.inj (Option.some.inj hx); omega
          · have := hl i x e hx; omega
        · rcases Nat.eq_zero_or_pos i with e | e
          · subst e
            cases hx
            exact frozen_of_row u4 w.heap.size j _ 25 E4
          · exact mown_unfrozen O4 _ i x e hx j
      have hn : v1.code.len = m.code.length := O4.1.row.1.symm
      have g0 : 0 < w.heap.size := block_lt_of_cell (HT.out.ali 0 (by decide))
      have g1 : 1 < w.heap.size := block_lt_of_cell (HT.out.lds 0 (by decide))
      have g2 : 2 < w.heap.size := block_lt_of_cell (HT.out.sts 0 (by decide))
      have hnil : ∀ k, k < m.code.length → u4.cell? ⟨sb, k, none⟩ = some (.pointer none) := fun k hk => (cell_of_row u4 sb k _ 106 (0, 0) h5.2).trans (made_nil _ _ (by omega))
      have NN : Rn D u4.heap.size pb w.heap.size sb u4 v1 m := ⟨RR, mkD _ spb (by omega) (.inr h7.1), mkD _ ssb (by omega) (.inr h5.1), fun q => h57 q.symm, spb, ssb, Nat.le_refl _, by rw [← hn]; exact h7.2, HT.out.keep (B4.block _ g0) (B4.block _ g1) (B4.block _ g2), ⟨mkD _ (by omega) (by omega) (.inl (by omega)), mkD _ (by omega) (by omega) (.inl (by omega)), mkD _ (by omega) (by omega) (.inl (by omega)), by omega, by omega, by omega⟩, fun k => frozen_of_row u4 sb k _ 106 h5.2, fun k hk => .inl (hnil k hk)⟩
      have HRUN : Hid _ := rrun_run NN hnil (Pl.vd_of_ok hok) fuel hfl
      have mkE : ∀ x, x < w.heap.size + 2 → x ≠ w.heap.size → D x ∧ x ≠ sb := fun x h1 h2 => ⟨mkD x (by omega) h2 (.inl h1), by omega⟩
      have HE : Hid (∀ x, x < w.heap.size + 2 → x ≠ w.heap.size → D x ∧ x ≠ sb) := mkE
      have X4' : Hid (u4.heap[w.heap.size + 1]? = some (.cells #[.slice none 0 0, .int .i64 0, .slice none 0 0, .slice none 0 0, .slice none 0 0, .slice none 0 0, .slice none 0 0, .int .i64 0, .int .i64 0, .int .i64 0] 25)) := X4
      have B4' : Hid (Below w.heap.size w u4) := B4
      obtain ⟨mm, hmm⟩ : ∃ mm, mm = Pl.run fuel.toNat m := ⟨_, rfl⟩
      rw [← hmm] at HRUN
      have HMM : Hid (mm = Pl.runM m fuel) := hmm.trans (Pl.runM_ok hok fuel).symm
      clear NN hnil RR mkD hl hD O4 E4 X4 B4 spb ssb h5 h7 h57 hn g0 g1 g2 mkE hmm hm ki dU hU
      go_wp2_with fail
      refine Calls.mono HRUN.out ?_
      rintro e u5 ⟨rfl, v', hM, hR, hS⟩
      have E5 : Hid (u5.heap[w.heap.size]? = some (.cells #[.slice v'.code.a v'.code.len v'.code.cap, .int .i64 mm.pc, .slice v'.regs.a v'.regs.len v'.regs.cap, .slice v'.data.a v'.data.len v'.data.cap, .slice v'.stk.a v'.stk.len v'.stk.cap, .slice v'.inp.a v'.inp.len v'.inp.cap, .slice v'.out.a v'.out.len v'.out.cap, .int .i64 mm.steps, .int .i64 mm.fin, .int .i64 mm.val] 25)) := hR.box
      have X5 : Hid (u5.heap[w.heap.size + 1]? = some (.cells #[.slice none 0 0, .int .i64 0, .slice none 0 0, .slice none 0 0, .slice none 0 0, .slice none 0 0, .slice none 0 0, .int .i64 0, .int .i64 0, .int .i64 0] 25)) := (hS.keep _ (HE.out _ (by omega) (by omega))).trans X4'.out
      have B5 : Hid (Below w.heap.size w u5) := ⟨hS.os.trans B4'.out.os, hS.tape.trans B4'.out.tape, hS.output.trans B4'.out.output, Nat.le_trans B4'.out.size hS.size, fun x hx => (hS.keep x (HE.out x (by omega) (by omega))).trans (B4'.out.block x hx)⟩
      have R5 : Hid (Run (fun x => D x ∧ x ≠ sb) w.heap.size u5 v' mm) := hR
      clear hM hR hS
      go_wp2_with (first | (refine load_row_gq 25 _ rfl (by kernel_rfl) (w.heap.size) ?hx 25 #[.slice v'.code.a v'.code.len v'.code.cap, .int .i64 mm.pc, .slice v'.regs.a v'.regs.len v'.regs.cap, .slice v'.data.a v'.data.len v'.data.cap, .slice v'.stk.a v'.stk.len v'.stk.cap, .slice v'.inp.a v'.inp.len v'.inp.cap, .slice v'.out.a v'.out.len v'.out.cap, .int .i64 mm.steps, .int .i64 mm.fin, .int .i64 mm.val] (0, 0) _ ?hg Tryz.underlying25 ?hd ?hi ?_; (case hx => rfl); (case hg => exact E5.out); (case hd => rfl); (case hi => kernel_rfl)) | (refine wpList_store_row rfl 25 _ _ rfl (w.heap.size + 1) #[.slice v'.code.a v'.code.len v'.code.cap, .int .i64 mm.pc, .slice v'.regs.a v'.regs.len v'.regs.cap, .slice v'.data.a v'.data.len v'.data.cap, .slice v'.stk.a v'.stk.len v'.stk.cap, .slice v'.inp.a v'.inp.len v'.inp.cap, .slice v'.out.a v'.out.len v'.out.cap, .int .i64 mm.steps, .int .i64 mm.fin, .int .i64 mm.val] ?hx ?hy 25 #[.slice none 0 0, .int .i64 0, .slice none 0 0, .slice none 0 0, .slice none 0 0, .slice none 0 0, .slice none 0 0, .int .i64 0, .int .i64 0, .int .i64 0] ?hg ?hi ?ho ?h1 ?_; (case hx => rfl); (case hy => rfl); (case hg => exact X5.out); (case hi => kernel_rfl); (case ho => kernel_rfl); (case h1 => kernel_rfl); refine Hid.out ?_))
      unfold Hid
      go_wp2_with fail
      have ow : ∀ (i x : Nat), (blks w.heap.size v')[i]? = some (some x) → w.heap.size ≤ x ∧ x ≠ w.heap.size + 1 := fun i x hx => by
        refine ⟨Nat.le_of_not_lt fun q => (R5.out.av x (HE.out x (by omega) (by omega))).2 i hx, fun q => (R5.out.av x (HE.out x (by omega) (by omega))).2 i hx⟩
      refine bodyPost_ret (v := .agg #[.slice v'.code.a v'.code.len v'.code.cap, .int .i64 mm.pc, .slice v'.regs.a v'.regs.len v'.regs.cap, .slice v'.data.a v'.data.len v'.data.cap, .slice v'.stk.a v'.stk.len v'.stk.cap, .slice v'.inp.a v'.inp.len v'.inp.cap, .slice v'.out.a v'.out.len v'.out.cap, .int .i64 mm.steps, .int .i64 mm.fin, .int .i64 mm.val]) ?hres rfl ⟨v', mm, HMM.out, rfl, ?_, ⟨w.heap.size, u5.heap.size, apart_spans (g := w.heap.size) R5.out.ap (fun j x hj hx => ⟨(ow j x hx).1, R5.out.lt j x hx⟩) B5.out.size, Nat.le_refl _, by simp [World.setRow]⟩, below_setRow B5.out (by omega) _⟩
      case hres =>
        refine results_cell_row Tryz.results9 _ _ (w.heap.size + 1) 25 #[.slice v'.code.a v'.code.len v'.code.cap, .int .i64 mm.pc, .slice v'.regs.a v'.regs.len v'.regs.cap, .slice v'.data.a v'.data.len v'.data.cap, .slice v'.stk.a v'.stk.len v'.stk.cap, .slice v'.inp.a v'.inp.len v'.inp.cap, .slice v'.out.a v'.out.len v'.out.cap, .int .i64 mm.steps, .int .i64 mm.fin, .int .i64 mm.val] (0, 0) _ ?hp ?hg Tryz.underlying25 ?hd ?hi
        case hp => rfl
        case hg => exact setRow_heap _ _ _ _ _ _ X5.out
        case hd => rfl
        case hi => kernel_rfl
      have kk : ∀ {k : IntKind} {s : SV} {zs : List Int} (i : Nat), (blks w.heap.size v')[i]? = some (s.a.map (·.block)) → Row k 0 u5 s.a s.len s.cap zs → Wr k w.heap.size (u5.setRow (w.heap.size + 1) #[.slice v'.code.a v'.code.len v'.code.cap, .int .i64 mm.pc, .slice v'.regs.a v'.regs.len v'.regs.cap, .slice v'.data.a v'.data.len v'.data.cap, .slice v'.stk.a v'.stk.len v'.stk.cap, .slice v'.inp.a v'.inp.len v'.inp.cap, .slice v'.out.a v'.out.len v'.out.cap, .int .i64 mm.steps, .int .i64 mm.fin, .int .i64 mm.val]) s.a s.len s.cap zs := fun {k s zs} i hi hr => by
        have w1 : Wr k w.heap.size u5 s.a s.len s.cap zs := ⟨hr.raise fun x hx => (ow i x (by rw [hi, hx])).1, fun _ b off e j => R5.out.fz i b (by rw [hi, e]; rfl) j⟩
        exact w1.other (by simp [World.setRow]) fun x hx => setRow_other _ _ _ _ (ow i x (by rw [hi, hx])).2
      exact ⟨kk 1 rfl R5.out.code, kk 2 rfl R5.out.regs.row, kk 3 rfl R5.out.data.row, kk 4 rfl R5.out.stk.row, kk 5 rfl R5.out.inp, kk 6 rfl R5.out.out.row⟩
end Go.Proofs.YtjdfffdeljgenaaGreatDoor.W
