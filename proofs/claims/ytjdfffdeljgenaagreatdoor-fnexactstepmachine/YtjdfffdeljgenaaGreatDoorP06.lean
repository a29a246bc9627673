import Derived.Test.YtjdfffdeljgenaaGreatDoorP04
import Derived.Test.YtjdfffdeljgenaaGreatDoorP05
import Derived.Test.YtjdfffdeljgenaaGreatDoorP11
import Derived.Test.YtjdfffdeljgenaaGreatDoorP13
set_option linter.unusedVariables false
set_option linter.unusedSimpArgs false
namespace Go.Proofs.YtjdfffdeljgenaaGreatDoor.W
open Go.RowKit
theorem Touch.setCellAt {a : Option Addr} {w u : World} (h : Touch a w u) {g off : Nat} (hp : a = some ⟨g, off, none⟩) (x : Value) {i : Nat} : Touch a w (u.setCell ⟨g, i, none⟩ x) :=
  ⟨h.os, h.tape, h.output, by simpa using h.size, fun k hk => (Below.heap_setCell u ⟨g, i, none⟩ x k (show k ≠ g from hk ⟨g, off, none⟩ hp)).trans (h.block k hk)⟩
set_option maxHeartbeats 2000000 in
theorem markIntS_row {lo : Nat} (a : Option Addr) (len cap : Nat) (zs : List Int) (k : Int) (w : World) (h : Row .i64 lo w a len cap zs) (hf : 0 < len → ∀ b off, a = some ⟨b, off, none⟩ → ∀ i, w.frozen? ⟨b, i, none⟩ = false) (hk : 0 ≤ k ∧ k + len ≤ 4611686018427387904) :
    Calls Tryz.prog 46 #[.slice a len cap, .int .i64 k] w fun e w' => e = .returned (.int .i64 (k + len)) ∧ Row .i64 lo w' a len cap (mkIntS k len) ∧ Touch a w w' ∧ ∀ x, w'.frozen? x = w.frozen? x := by
  have hsm := h.small
  have HL : Hid (zs.length = len) := h.1
  have HR : Hid (Row .i64 lo w a len cap zs) := h
  have HF : Hid (0 < len → ∀ b off, a = some ⟨b, off, none⟩ → ∀ i, w.frozen? ⟨b, i, none⟩ = false) := hf
  clear h hf
  go_enter Tryz.func46, Tryz.ntmps46
  go_wp2
  go_loopw [1, 5] (fun x i wr => ∃ j : Nat, j ≤ len ∧ i = .int .i64 j ∧ x = .int .i64 (k + (j : Int)) ∧ (∀ b off, a = some ⟨b, off, none⟩ → ∀ t, t < len → wr.cell? ⟨b, off + t, none⟩ = some (.int .i64 ((mtIntS k zs j).getD t 0))) ∧ Touch a w wr ∧ ∀ x, wr.frozen? x = w.frozen? x) (fun _ i _ => len - (intOf i).toNat)
  case atStart =>
    refine ⟨0, Nat.zero_le _, rfl, by simp, fun b off e t ht => ?_, Touch.refl _ _, fun _ => rfl⟩
    rw [mtIntS_zero]
    rcases HR.out.2.2.2.2 with h0 | ⟨b', off', e', _, _, hc⟩
    · omega
    · rw [e] at e'
      cases e'
      exact hc t ht
  case round =>
    obtain ⟨j, hj, rfl, rfl, ho, ht, hz⟩ := hrel
    have HO : Hid (∀ b off, a = some ⟨b, off, none⟩ → ∀ t, t < len → wr.cell? ⟨b, off + t, none⟩ = some (.int .i64 ((mtIntS k zs j).getD t 0))) := ho
    have HT : Hid (Touch a w wr) := ht
    have HZ : Hid (∀ x, wr.frozen? x = w.frozen? x) := hz
    clear ho ht hz
    by_cases hlt : j < len
    · obtain ⟨b, off, ea⟩ : ∃ b off, a = some ⟨b, off, none⟩ := by
        rcases HR.out.2.2.2.2 with h0 | ⟨b', off', e', _⟩
        · omega
        · exact ⟨b', off', e'⟩
      have hfz : wr.frozen? ⟨b, off + j, none⟩ = false := (HZ.out _).trans (HF.out (by omega) b off ea _)
      have hy : wr.cell? ⟨b, off + j, none⟩ = some (.int .i64 ((mtIntS k zs j).getD j 0)) := HO.out b off ea j hlt
      have HEA : Hid (a = some ⟨b, off, none⟩) := ea
      obtain ⟨y, hy'⟩ : ∃ y, (mtIntS k zs j).getD j 0 = y := ⟨_, rfl⟩
      rw [hy'] at hy
      clear hy'
      subst ea
      go_wp2
      go_roundw
      case rel =>
        refine ⟨j + 1, by omega, by go_num, congrArg (Value.int .i64) (by omega), fun b' off' e t ht => ?_, HT.out.setCellAt rfl _, fun x => (World.frozen?_setCell _ _ _ _).trans (HZ.out x)⟩
        cases e
        rw [← mtIntS_set k zs (by have := HL.out; omega)]
        by_cases etj : t = j
        · subst etj
          rw [World.cell?_setCell_same _ _ _ hy]
          simp [mtIntS_length, HL.out, hlt]
        · rw [World.cell?_setCell_other _ _ _ _ (by intro q; injection q with _ q2; omega)]
          rw [HO.out b off rfl t ht]
          simp [List.getElem?_set_ne (Ne.symm etj)]
      case measure => simp [intOf]; omega
    · have hje : j = len := by omega
      subst hje
      go_wp2
      go_ret
      refine ⟨rfl, ⟨mkIntS_length k _, HR.out.2.1, HR.out.2.2.1, mkIntS_wf k _ hk, ?_⟩, HT.out, HZ.out⟩
      rcases HR.out.2.2.2.2 with h0 | ⟨b', off', e', h1, h2, _⟩
      · exact .inl h0
      · refine .inr ⟨b', off', e', h1, by rw [HT.out.size]; exact h2, fun t ht => ?_⟩
        have := HO.out b' off' e' t ht
        rw [mtIntS_full k zs (by have := HL.out; omega), HL.out] at this
        exact this
set_option maxHeartbeats 2000000 in
theorem markByteS_row {lo : Nat} (a : Option Addr) (len cap : Nat) (zs : List Int) (k : Int) (w : World) (h : Row .u8 lo w a len cap zs) (hf : 0 < len → ∀ b off, a = some ⟨b, off, none⟩ → ∀ i, w.frozen? ⟨b, i, none⟩ = false) (hk : 0 ≤ k ∧ k + len ≤ 4611686018427387904) :
    Calls Tryz.prog 47 #[.slice a len cap, .int .i64 k] w fun e w' => e = .returned (.int .i64 (k + len)) ∧ Row .u8 lo w' a len cap (mkByteS k len) ∧ Touch a w w' ∧ ∀ x, w'.frozen? x = w.frozen? x := by
  have hsm := h.small
  have HL : Hid (zs.length = len) := h.1
  have HR : Hid (Row .u8 lo w a len cap zs) := h
  have HF : Hid (0 < len → ∀ b off, a = some ⟨b, off, none⟩ → ∀ i, w.frozen? ⟨b, i, none⟩ = false) := hf
  clear h hf
  go_enter Tryz.func47, Tryz.ntmps47
  go_wp2
  go_loopw [1, 5] (fun x i wr => ∃ j : Nat, j ≤ len ∧ i = .int .i64 j ∧ x = .int .i64 (k + (j : Int)) ∧ (∀ b off, a = some ⟨b, off, none⟩ → ∀ t, t < len → wr.cell? ⟨b, off + t, none⟩ = some (.int .u8 ((mtByteS k zs j).getD t 0))) ∧ Touch a w wr ∧ ∀ x, wr.frozen? x = w.frozen? x) (fun _ i _ => len - (intOf i).toNat)
  case atStart =>
    refine ⟨0, Nat.zero_le _, rfl, by simp, fun b off e t ht => ?_, Touch.refl _ _, fun _ => rfl⟩
    rw [mtByteS_zero]
    rcases HR.out.2.2.2.2 with h0 | ⟨b', off', e', _, _, hc⟩
    · omega
    · rw [e] at e'
      cases e'
      exact hc t ht
  case round =>
    obtain ⟨j, hj, rfl, rfl, ho, ht, hz⟩ := hrel
    have HO : Hid (∀ b off, a = some ⟨b, off, none⟩ → ∀ t, t < len → wr.cell? ⟨b, off + t, none⟩ = some (.int .u8 ((mtByteS k zs j).getD t 0))) := ho
    have HT : Hid (Touch a w wr) := ht
    have HZ : Hid (∀ x, wr.frozen? x = w.frozen? x) := hz
    clear ho ht hz
    by_cases hlt : j < len
    · obtain ⟨b, off, ea⟩ : ∃ b off, a = some ⟨b, off, none⟩ := by
        rcases HR.out.2.2.2.2 with h0 | ⟨b', off', e', _⟩
        · omega
        · exact ⟨b', off', e'⟩
      have hfz : wr.frozen? ⟨b, off + j, none⟩ = false := (HZ.out _).trans (HF.out (by omega) b off ea _)
      have hy : wr.cell? ⟨b, off + j, none⟩ = some (.int .u8 ((mtByteS k zs j).getD j 0)) := HO.out b off ea j hlt
      have HEA : Hid (a = some ⟨b, off, none⟩) := ea
      obtain ⟨y, hy'⟩ : ∃ y, (mtByteS k zs j).getD j 0 = y := ⟨_, rfl⟩
      rw [hy'] at hy
      clear hy'
      subst ea
      go_wp2
      go_roundw
      case rel =>
        refine ⟨j + 1, by omega, by go_num, congrArg (Value.int .i64) (by omega), fun b' off' e t ht => ?_, HT.out.setCellAt rfl _, fun x => (World.frozen?_setCell _ _ _ _).trans (HZ.out x)⟩
        cases e
        rw [← mtByteS_set k zs (by have := HL.out; omega)]
        by_cases etj : t = j
        · subst etj
          rw [World.cell?_setCell_same _ _ _ hy]
          simp [mtByteS_length, HL.out, hlt]
        · rw [World.cell?_setCell_other _ _ _ _ (by intro q; injection q with _ q2; omega)]
          rw [HO.out b off rfl t ht]
          simp [List.getElem?_set_ne (Ne.symm etj)]
      case measure => simp [intOf]; omega
    · have hje : j = len := by omega
      subst hje
      go_wp2
      go_ret
      refine ⟨rfl, ⟨mkByteS_length k _, HR.out.2.1, HR.out.2.2.1, mkByteS_wf k _ hk, ?_⟩, HT.out, HZ.out⟩
      rcases HR.out.2.2.2.2 with h0 | ⟨b', off', e', h1, h2, _⟩
      · exact .inl h0
      · refine .inr ⟨b', off', e', h1, by rw [HT.out.size]; exact h2, fun t ht => ?_⟩
        have := HO.out b' off' e' t ht
        rw [mtByteS_full k zs (by have := HL.out; omega), HL.out] at this
        exact this
def Wr (k : IntKind) (lo : Nat) (w : World) (a : Option Addr) (len cap : Nat) (zs : List Int) : Prop := Row k lo w a len cap zs ∧ (0 < len → ∀ b off, a = some ⟨b, off, none⟩ → ∀ i, w.frozen? ⟨b, i, none⟩ = false)
theorem Wr.row {k : IntKind} {lo : Nat} {w : World} {a : Option Addr} {len cap : Nat} {zs : List Int} (h : Wr k lo w a len cap zs) : Row k lo w a len cap zs := h.1
theorem Wr.other {k : IntKind} {lo : Nat} {w w' : World} {a : Option Addr} {len cap : Nat} {zs : List Int} (h : Wr k lo w a len cap zs) (hs : w.heap.size ≤ w'.heap.size) (hb : ∀ x, a.map (·.block) = some x → w'.heap[x]? = w.heap[x]?) : Wr k lo w' a len cap zs :=
  ⟨h.1.other hs hb, fun hl b off e i => (World.frozen?_of_block (w := w) (hb b (by rw [e]; rfl))).trans (h.2 hl b off e i)⟩
theorem Wr.keep {k : IntKind} {lo : Nat} {w w' : World} {a : Option Addr} {len cap : Nat} {zs : List Int} (h : Wr k lo w a len cap zs) (hB : Below w.heap.size w w') : Wr k lo w' a len cap zs :=
  ⟨h.1.keep hB, fun hl b off e i => by
    rcases h.1.2.2.2.2 with h0 | ⟨b', off', e', _, hb, _⟩
    · omega
    · rw [e] at e'
      cases e'
      exact (hB.frozen hb).trans (h.2 hl b off e i)⟩
theorem Wr.untouched {k : IntKind} {lo l1 h1 l2 h2 : Nat} {w w' : World} {s t : SV} {zs : List Int} (h : Wr k lo w s.a s.len s.cap zs) (hs : Span s l1 h1) (ht : Span t l2 h2) (hd : h1 ≤ l2 ∨ h2 ≤ l1) (hT : Touch t.a w w') : Wr k lo w' s.a s.len s.cap zs :=
  h.other (Nat.le_of_eq hT.size.symm) fun x hx => hT.block x fun ad had => by
    obtain ⟨ad', had', rfl⟩ := Option.map_eq_some_iff.1 hx
    have := hs ad' had'
    have := ht ad had
    omega
theorem markIntS_wr {lo : Nat} (a : Option Addr) (len cap : Nat) (zs : List Int) (k : Int) (w : World) (h : Wr .i64 lo w a len cap zs) (hk : 0 ≤ k ∧ k + len ≤ 4611686018427387904) :
    Calls Tryz.prog 46 #[.slice a len cap, .int .i64 k] w fun e w' => e = .returned (.int .i64 (k + len)) ∧ Wr .i64 lo w' a len cap (mkIntS k len) ∧ Touch a w w' :=
  (markIntS_row a len cap zs k w h.1 h.2 hk).mono fun e w' ⟨h1, h2, h3, h4⟩ => ⟨h1, ⟨h2, fun hl b off e i => (h4 _).trans (h.2 hl b off e i)⟩, h3⟩
theorem markByteS_wr {lo : Nat} (a : Option Addr) (len cap : Nat) (zs : List Int) (k : Int) (w : World) (h : Wr .u8 lo w a len cap zs) (hk : 0 ≤ k ∧ k + len ≤ 4611686018427387904) :
    Calls Tryz.prog 47 #[.slice a len cap, .int .i64 k] w fun e w' => e = .returned (.int .i64 (k + len)) ∧ Wr .u8 lo w' a len cap (mkByteS k len) ∧ Touch a w w' :=
  (markByteS_row a len cap zs k w h.1 h.2 hk).mono fun e w' ⟨h1, h2, h3, h4⟩ => ⟨h1, ⟨h2, fun hl b off e i => (h4 _).trans (h.2 hl b off e i)⟩, h3⟩
def WrM (lo : Nat) (w : World) (v : MV) (m : Pl.Mac) : Prop := Wr .i64 lo w v.code.a v.code.len v.code.cap m.code ∧ Wr .i64 lo w v.regs.a v.regs.len v.regs.cap m.regs ∧ Wr .u8 lo w v.data.a v.data.len v.data.cap m.data ∧ Wr .u8 lo w v.stk.a v.stk.len v.stk.cap m.stk ∧ Wr .u8 lo w v.inp.a v.inp.len v.inp.cap m.inp ∧ Wr .u8 lo w v.out.a v.out.len v.out.cap m.out
theorem WrM.keep {lo : Nat} {w w' : World} {v : MV} {m : Pl.Mac} (h : WrM lo w v m) (hB : Below w.heap.size w w') : WrM lo w' v m := ⟨h.1.keep hB, h.2.1.keep hB, h.2.2.1.keep hB, h.2.2.2.1.keep hB, h.2.2.2.2.1.keep hB, h.2.2.2.2.2.keep hB⟩
theorem Wr.outside {k : IntKind} {lo l hi t0 t6 : Nat} {w w' : World} {s : SV} {zs : List Int} (h : Wr k lo w s.a s.len s.cap zs) (hs : Span s l hi) (hO : Outside t0 t6 w w') (hd : hi ≤ t0 ∨ t6 ≤ l) (hh : hi ≤ w.heap.size) : Wr k lo w' s.a s.len s.cap zs :=
  h.other hO.size fun x hx => by
    obtain ⟨ad, had, rfl⟩ := Option.map_eq_some_iff.1 hx
    have := hs ad had
    exact hO.block _ (by omega) (by omega)
theorem WrM.outside {lo t0 t6 q0 q6 : Nat} {w w' : World} {v : MV} {m : Pl.Mac} (h : WrM lo w v m) (hs : MApart q0 q6 v) (hO : Outside t0 t6 w w') (hd : q6 ≤ t0 ∨ t6 ≤ q0) (hh : q6 ≤ w.heap.size) : WrM lo w' v m := by
  obtain ⟨l, hi, ⟨p0, p1, p2, p3, p4, p5⟩, hin, _⟩ := hs
  have g : ∀ i, i < 6 → q0 ≤ l i ∧ hi i ≤ q6 := hin
  exact ⟨h.1.outside p0 hO (by have := g 0 (by decide); omega) (by have := g 0 (by decide); omega), h.2.1.outside p1 hO (by have := g 1 (by decide); omega) (by have := g 1 (by decide); omega), h.2.2.1.outside p2 hO (by have := g 2 (by decide); omega) (by have := g 2 (by decide); omega), h.2.2.2.1.outside p3 hO (by have := g 3 (by decide); omega) (by have := g 3 (by decide); omega), h.2.2.2.2.1.outside p4 hO (by have := g 4 (by decide); omega) (by have := g 4 (by decide); omega), h.2.2.2.2.2.outside p5 hO (by have := g 5 (by decide); omega) (by have := g 5 (by decide); omega)⟩
theorem WrM.is {lo : Nat} {w : World} {v : MV} {m : Pl.Mac} (h : WrM lo w v m) : MIs lo w v m := ⟨h.1.1, h.2.1.1, h.2.2.1.1, h.2.2.2.1.1, h.2.2.2.2.1.1, h.2.2.2.2.2.1⟩
set_option maxHeartbeats 4000000 in
theorem markMachine_wr {lo t0 t6 : Nat} (v : MV) (m : Pl.Mac) (k : Int) (w : World) (h : WrM lo w v m) (hs : MApart t0 t6 v) (h6 : t6 ≤ w.heap.size) (hk : 0 ≤ k ∧ k ≤ 1073741824) (hsz : Pl.mSize m ≤ 1048576) :
    Calls Tryz.prog 20 #[.agg #[.slice v.code.a v.code.len v.code.cap, .int .i64 m.pc, .slice v.regs.a v.regs.len v.regs.cap, .slice v.data.a v.data.len v.data.cap, .slice v.stk.a v.stk.len v.stk.cap, .slice v.inp.a v.inp.len v.inp.cap, .slice v.out.a v.out.len v.out.cap, .int .i64 m.steps, .int .i64 m.fin, .int .i64 m.val], .int .i64 k] w fun e w' => e = .returned (.int .i64 (k + (Pl.mSize m : Int))) ∧ WrM lo w' v (marked v m k) ∧ Outside t0 t6 w w' := by
  obtain ⟨l, h', ⟨p0, p1, p2, p3, p4, p5⟩, hin, hap⟩ := hs
  have HAP : Hid (∀ i j, i < 6 → j < 6 → i ≠ j → h' i ≤ l j ∨ h' j ≤ l i) := hap
  have HIN : Hid (∀ i, i < 6 → t0 ≤ l i ∧ h' i ≤ t6) := hin
  clear hap hin
  obtain ⟨r0, r1, r2, r3, r4, r5⟩ := h
  have e0 := r0.row.1
  have e1 := r1.row.1
  have e2 := r2.row.1
  have e3 := r3.row.1
  have e4 := r4.row.1
  have e5 := r5.row.1
  have HS : Hid (Pl.mSize m = v.code.len + v.regs.len + v.data.len + v.stk.len + v.inp.len + v.out.len) := by
    show Pl.mSize m = _
    unfold Pl.mSize
    rw [e0, e1, e2, e3, e4, e5]
  have hsum : v.code.len + v.regs.len + v.data.len + v.stk.len + v.inp.len + v.out.len ≤ 1048576 := by rw [← HS.out]; exact hsz
  clear e0 e1 e2 e3 e4 e5 hsz
  have R0 : Hid (Wr .i64 lo w v.code.a v.code.len v.code.cap m.code) := r0
  have R1 : Hid (Wr .i64 lo w v.regs.a v.regs.len v.regs.cap m.regs) := r1
  have R2 : Hid (Wr .u8 lo w v.data.a v.data.len v.data.cap m.data) := r2
  have R3 : Hid (Wr .u8 lo w v.stk.a v.stk.len v.stk.cap m.stk) := r3
  have R4 : Hid (Wr .u8 lo w v.inp.a v.inp.len v.inp.cap m.inp) := r4
  have R5 : Hid (Wr .u8 lo w v.out.a v.out.len v.out.cap m.out) := r5
  clear r0 r1 r2 r3 r4 r5
  go_enter Tryz.func20, Tryz.ntmps20
  go_wp2_with fail
  refine calls_at fun u0 hu0 => ?_
  have Q0 : Hid (u0.heap[w.heap.size]? = some (.cells #[.slice v.code.a v.code.len v.code.cap, .int .i64 m.pc, .slice v.regs.a v.regs.len v.regs.cap, .slice v.data.a v.data.len v.data.cap, .slice v.stk.a v.stk.len v.stk.cap, .slice v.inp.a v.inp.len v.inp.cap, .slice v.out.a v.out.len v.out.cap, .int .i64 m.steps, .int .i64 m.fin, .int .i64 m.val] 25)) := by show u0.heap[w.heap.size]? = _; rw [hu0]; exact heap_alloc_new w _
  have dd : Below w.heap.size w u0 := by rw [hu0]; exact below_alloc w _
  have T0 : Hid (Outside t0 t6 w u0) := Outside.of_below dd
  have Z0 : Hid (w.heap.size < u0.heap.size) := by show w.heap.size < u0.heap.size; rw [hu0]; simp
  have K0_0 : Hid (Wr .i64 lo u0 v.code.a v.code.len v.code.cap m.code) := R0.out.keep dd
  have K0_1 : Hid (Wr .i64 lo u0 v.regs.a v.regs.len v.regs.cap m.regs) := R1.out.keep dd
  have K0_2 : Hid (Wr .u8 lo u0 v.data.a v.data.len v.data.cap m.data) := R2.out.keep dd
  have K0_3 : Hid (Wr .u8 lo u0 v.stk.a v.stk.len v.stk.cap m.stk) := R3.out.keep dd
  have K0_4 : Hid (Wr .u8 lo u0 v.inp.a v.inp.len v.inp.cap m.inp) := R4.out.keep dd
  have K0_5 : Hid (Wr .u8 lo u0 v.out.a v.out.len v.out.cap m.out) := R5.out.keep dd
  clear hu0 dd R0 R1 R2 R3 R4 R5
  refine (markIntS_wr v.code.a v.code.len v.code.cap m.code (k) u0 K0_0.out (by omega)).mono ?_
  rintro e u1 ⟨rfl, o0, h0⟩
  have M1_0 : Hid (Wr .i64 lo u1 v.code.a v.code.len v.code.cap (mkIntS (k) v.code.len)) := o0
  have K1_1 : Hid (Wr .i64 lo u1 v.regs.a v.regs.len v.regs.cap m.regs) := K0_1.out.untouched p1 p0 (HAP.out 1 0 (by decide) (by decide) (by decide)) h0
  have K1_2 : Hid (Wr .u8 lo u1 v.data.a v.data.len v.data.cap m.data) := K0_2.out.untouched p2 p0 (HAP.out 2 0 (by decide) (by decide) (by decide)) h0
  have K1_3 : Hid (Wr .u8 lo u1 v.stk.a v.stk.len v.stk.cap m.stk) := K0_3.out.untouched p3 p0 (HAP.out 3 0 (by decide) (by decide) (by decide)) h0
  have K1_4 : Hid (Wr .u8 lo u1 v.inp.a v.inp.len v.inp.cap m.inp) := K0_4.out.untouched p4 p0 (HAP.out 4 0 (by decide) (by decide) (by decide)) h0
  have K1_5 : Hid (Wr .u8 lo u1 v.out.a v.out.len v.out.cap m.out) := K0_5.out.untouched p5 p0 (HAP.out 5 0 (by decide) (by decide) (by decide)) h0
  have T1 : Hid (Outside t0 t6 w u1) := T0.out.trans (Outside.of_touch h0 p0 (HIN.out 0 (by decide)).1 (HIN.out 0 (by decide)).2)
  have Q1 : Hid (u1.heap[w.heap.size]? = some (.cells #[.slice v.code.a v.code.len v.code.cap, .int .i64 m.pc, .slice v.regs.a v.regs.len v.regs.cap, .slice v.data.a v.data.len v.data.cap, .slice v.stk.a v.stk.len v.stk.cap, .slice v.inp.a v.inp.len v.inp.cap, .slice v.out.a v.out.len v.out.cap, .int .i64 m.steps, .int .i64 m.fin, .int .i64 m.val] 25)) := (h0.block w.heap.size (fun ad had => by have := p0 ad had; have := (HIN.out 0 (by decide)).2; omega)).trans Q0.out
  clear o0 h0 T0 Q0 K0_0 K0_1 K0_2 K0_3 K0_4 K0_5 
  have kb : ∀ j, u1.cell? ⟨w.heap.size, j, none⟩ = (#[.slice v.code.a v.code.len v.code.cap, .int .i64 m.pc, .slice v.regs.a v.regs.len v.regs.cap, .slice v.data.a v.data.len v.data.cap, .slice v.stk.a v.stk.len v.stk.cap, .slice v.inp.a v.inp.len v.inp.cap, .slice v.out.a v.out.len v.out.cap, .int .i64 m.steps, .int .i64 m.fin, .int .i64 m.val] : Array Value)[j]? := fun j => cell_of_row u1 w.heap.size j _ 25 (0, 0) Q1.out
  go_wp2_with fail
  clear kb
  refine (markIntS_wr v.regs.a v.regs.len v.regs.cap m.regs (k + (v.code.len : Int)) u1 K1_1.out (by omega)).mono ?_
  rintro e u2 ⟨rfl, o1, h1⟩
  have M2_1 : Hid (Wr .i64 lo u2 v.regs.a v.regs.len v.regs.cap (mkIntS (k + (v.code.len : Int)) v.regs.len)) := o1
  have M2_0 : Hid (Wr .i64 lo u2 v.code.a v.code.len v.code.cap (mkIntS (k) v.code.len)) := M1_0.out.untouched p0 p1 (HAP.out 0 1 (by decide) (by decide) (by decide)) h1
  have K2_2 : Hid (Wr .u8 lo u2 v.data.a v.data.len v.data.cap m.data) := K1_2.out.untouched p2 p1 (HAP.out 2 1 (by decide) (by decide) (by decide)) h1
  have K2_3 : Hid (Wr .u8 lo u2 v.stk.a v.stk.len v.stk.cap m.stk) := K1_3.out.untouched p3 p1 (HAP.out 3 1 (by decide) (by decide) (by decide)) h1
  have K2_4 : Hid (Wr .u8 lo u2 v.inp.a v.inp.len v.inp.cap m.inp) := K1_4.out.untouched p4 p1 (HAP.out 4 1 (by decide) (by decide) (by decide)) h1
  have K2_5 : Hid (Wr .u8 lo u2 v.out.a v.out.len v.out.cap m.out) := K1_5.out.untouched p5 p1 (HAP.out 5 1 (by decide) (by decide) (by decide)) h1
  have T2 : Hid (Outside t0 t6 w u2) := T1.out.trans (Outside.of_touch h1 p1 (HIN.out 1 (by decide)).1 (HIN.out 1 (by decide)).2)
  have Q2 : Hid (u2.heap[w.heap.size]? = some (.cells #[.slice v.code.a v.code.len v.code.cap, .int .i64 m.pc, .slice v.regs.a v.regs.len v.regs.cap, .slice v.data.a v.data.len v.data.cap, .slice v.stk.a v.stk.len v.stk.cap, .slice v.inp.a v.inp.len v.inp.cap, .slice v.out.a v.out.len v.out.cap, .int .i64 m.steps, .int .i64 m.fin, .int .i64 m.val] 25)) := (h1.block w.heap.size (fun ad had => by have := p1 ad had; have := (HIN.out 1 (by decide)).2; omega)).trans Q1.out
  clear o1 h1 T1 Q1 K1_1 K1_2 K1_3 K1_4 K1_5 M1_0
  have kb : ∀ j, u2.cell? ⟨w.heap.size, j, none⟩ = (#[.slice v.code.a v.code.len v.code.cap, .int .i64 m.pc, .slice v.regs.a v.regs.len v.regs.cap, .slice v.data.a v.data.len v.data.cap, .slice v.stk.a v.stk.len v.stk.cap, .slice v.inp.a v.inp.len v.inp.cap, .slice v.out.a v.out.len v.out.cap, .int .i64 m.steps, .int .i64 m.fin, .int .i64 m.val] : Array Value)[j]? := fun j => cell_of_row u2 w.heap.size j _ 25 (0, 0) Q2.out
  go_wp2_with fail
  clear kb
  refine (markByteS_wr v.data.a v.data.len v.data.cap m.data (k + (v.code.len : Int) + (v.regs.len : Int)) u2 K2_2.out (by omega)).mono ?_
  rintro e u3 ⟨rfl, o2, h2⟩
  have M3_2 : Hid (Wr .u8 lo u3 v.data.a v.data.len v.data.cap (mkByteS (k + (v.code.len : Int) + (v.regs.len : Int)) v.data.len)) := o2
  have M3_0 : Hid (Wr .i64 lo u3 v.code.a v.code.len v.code.cap (mkIntS (k) v.code.len)) := M2_0.out.untouched p0 p2 (HAP.out 0 2 (by decide) (by decide) (by decide)) h2
  have M3_1 : Hid (Wr .i64 lo u3 v.regs.a v.regs.len v.regs.cap (mkIntS (k + (v.code.len : Int)) v.regs.len)) := M2_1.out.untouched p1 p2 (HAP.out 1 2 (by decide) (by decide) (by decide)) h2
  have K3_3 : Hid (Wr .u8 lo u3 v.stk.a v.stk.len v.stk.cap m.stk) := K2_3.out.untouched p3 p2 (HAP.out 3 2 (by decide) (by decide) (by decide)) h2
  have K3_4 : Hid (Wr .u8 lo u3 v.inp.a v.inp.len v.inp.cap m.inp) := K2_4.out.untouched p4 p2 (HAP.out 4 2 (by decide) (by decide) (by decide)) h2
  have K3_5 : Hid (Wr .u8 lo u3 v.out.a v.out.len v.out.cap m.out) := K2_5.out.untouched p5 p2 (HAP.out 5 2 (by decide) (by decide) (by decide)) h2
  have T3 : Hid (Outside t0 t6 w u3) := T2.out.trans (Outside.of_touch h2 p2 (HIN.out 2 (by decide)).1 (HIN.out 2 (by decide)).2)
  have Q3 : Hid (u3.heap[w.heap.size]? = some (.cells #[.slice v.code.a v.code.len v.code.cap, .int .i64 m.pc, .slice v.regs.a v.regs.len v.regs.cap, .slice v.data.a v.data.len v.data.cap, .slice v.stk.a v.stk.len v.stk.cap, .slice v.inp.a v.inp.len v.inp.cap, .slice v.out.a v.out.len v.out.cap, .int .i64 m.steps, .int .i64 m.fin, .int .i64 m.val] 25)) := (h2.block w.heap.size (fun ad had => by have := p2 ad had; have := (HIN.out 2 (by decide)).2; omega)).trans Q2.out
  clear o2 h2 T2 Q2 K2_2 K2_3 K2_4 K2_5 M2_0 M2_1
  have kb : ∀ j, u3.cell? ⟨w.heap.size, j, none⟩ = (#[.slice v.code.a v.code.len v.code.cap, .int .i64 m.pc, .slice v.regs.a v.regs.len v.regs.cap, .slice v.data.a v.data.len v.data.cap, .slice v.stk.a v.stk.len v.stk.cap, .slice v.inp.a v.inp.len v.inp.cap, .slice v.out.a v.out.len v.out.cap, .int .i64 m.steps, .int .i64 m.fin, .int .i64 m.val] : Array Value)[j]? := fun j => cell_of_row u3 w.heap.size j _ 25 (0, 0) Q3.out
  go_wp2_with fail
  clear kb
  refine (markByteS_wr v.stk.a v.stk.len v.stk.cap m.stk (k + (v.code.len : Int) + (v.regs.len : Int) + (v.data.len : Int)) u3 K3_3.out (by omega)).mono ?_
  rintro e u4 ⟨rfl, o3, h3⟩
  have M4_3 : Hid (Wr .u8 lo u4 v.stk.a v.stk.len v.stk.cap (mkByteS (k + (v.code.len : Int) + (v.regs.len : Int) + (v.data.len : Int)) v.stk.len)) := o3
  have M4_0 : Hid (Wr .i64 lo u4 v.code.a v.code.len v.code.cap (mkIntS (k) v.code.len)) := M3_0.out.untouched p0 p3 (HAP.out 0 3 (by decide) (by decide) (by decide)) h3
  have M4_1 : Hid (Wr .i64 lo u4 v.regs.a v.regs.len v.regs.cap (mkIntS (k + (v.code.len : Int)) v.regs.len)) := M3_1.out.untouched p1 p3 (HAP.out 1 3 (by decide) (by decide) (by decide)) h3
  have M4_2 : Hid (Wr .u8 lo u4 v.data.a v.data.len v.data.cap (mkByteS (k + (v.code.len : Int) + (v.regs.len : Int)) v.data.len)) := M3_2.out.untouched p2 p3 (HAP.out 2 3 (by decide) (by decide) (by decide)) h3
  have K4_4 : Hid (Wr .u8 lo u4 v.inp.a v.inp.len v.inp.cap m.inp) := K3_4.out.untouched p4 p3 (HAP.out 4 3 (by decide) (by decide) (by decide)) h3
  have K4_5 : Hid (Wr .u8 lo u4 v.out.a v.out.len v.out.cap m.out) := K3_5.out.untouched p5 p3 (HAP.out 5 3 (by decide) (by decide) (by decide)) h3
  have T4 : Hid (Outside t0 t6 w u4) := T3.out.trans (Outside.of_touch h3 p3 (HIN.out 3 (by decide)).1 (HIN.out 3 (by decide)).2)
  have Q4 : Hid (u4.heap[w.heap.size]? = some (.cells #[.slice v.code.a v.code.len v.code.cap, .int .i64 m.pc, .slice v.regs.a v.regs.len v.regs.cap, .slice v.data.a v.data.len v.data.cap, .slice v.stk.a v.stk.len v.stk.cap, .slice v.inp.a v.inp.len v.inp.cap, .slice v.out.a v.out.len v.out.cap, .int .i64 m.steps, .int .i64 m.fin, .int .i64 m.val] 25)) := (h3.block w.heap.size (fun ad had => by have := p3 ad had; have := (HIN.out 3 (by decide)).2; omega)).trans Q3.out
  clear o3 h3 T3 Q3 K3_3 K3_4 K3_5 M3_0 M3_1 M3_2
  have kb : ∀ j, u4.cell? ⟨w.heap.size, j, none⟩ = (#[.slice v.code.a v.code.len v.code.cap, .int .i64 m.pc, .slice v.regs.a v.regs.len v.regs.cap, .slice v.data.a v.data.len v.data.cap, .slice v.stk.a v.stk.len v.stk.cap, .slice v.inp.a v.inp.len v.inp.cap, .slice v.out.a v.out.len v.out.cap, .int .i64 m.steps, .int .i64 m.fin, .int .i64 m.val] : Array Value)[j]? := fun j => cell_of_row u4 w.heap.size j _ 25 (0, 0) Q4.out
  go_wp2_with fail
  clear kb
  refine (markByteS_wr v.inp.a v.inp.len v.inp.cap m.inp (k + (v.code.len : Int) + (v.regs.len : Int) + (v.data.len : Int) + (v.stk.len : Int)) u4 K4_4.out (by omega)).mono ?_
  rintro e u5 ⟨rfl, o4, h4⟩
  have M5_4 : Hid (Wr .u8 lo u5 v.inp.a v.inp.len v.inp.cap (mkByteS (k + (v.code.len : Int) + (v.regs.len : Int) + (v.data.len : Int) + (v.stk.len : Int)) v.inp.len)) := o4
  have M5_0 : Hid (Wr .i64 lo u5 v.code.a v.code.len v.code.cap (mkIntS (k) v.code.len)) := M4_0.out.untouched p0 p4 (HAP.out 0 4 (by decide) (by decide) (by decide)) h4
  have M5_1 : Hid (Wr .i64 lo u5 v.regs.a v.regs.len v.regs.cap (mkIntS (k + (v.code.len : Int)) v.regs.len)) := M4_1.out.untouched p1 p4 (HAP.out 1 4 (by decide) (by decide) (by decide)) h4
  have M5_2 : Hid (Wr .u8 lo u5 v.data.a v.data.len v.data.cap (mkByteS (k + (v.code.len : Int) + (v.regs.len : Int)) v.data.len)) := M4_2.out.untouched p2 p4 (HAP.out 2 4 (by decide) (by decide) (by decide)) h4
  have M5_3 : Hid (Wr .u8 lo u5 v.stk.a v.stk.len v.stk.cap (mkByteS (k + (v.code.len : Int) + (v.regs.len : Int) + (v.data.len : Int)) v.stk.len)) := M4_3.out.untouched p3 p4 (HAP.out 3 4 (by decide) (by decide) (by decide)) h4
  have K5_5 : Hid (Wr .u8 lo u5 v.out.a v.out.len v.out.cap m.out) := K4_5.out.untouched p5 p4 (HAP.out 5 4 (by decide) (by decide) (by decide)) h4
  have T5 : Hid (Outside t0 t6 w u5) := T4.out.trans (Outside.of_touch h4 p4 (HIN.out 4 (by decide)).1 (HIN.out 4 (by decide)).2)
  have Q5 : Hid (u5.heap[w.heap.size]? = some (.cells #[.slice v.code.a v.code.len v.code.cap, .int .i64 m.pc, .slice v.regs.a v.regs.len v.regs.cap, .slice v.data.a v.data.len v.data.cap, .slice v.stk.a v.stk.len v.stk.cap, .slice v.inp.a v.inp.len v.inp.cap, .slice v.out.a v.out.len v.out.cap, .int .i64 m.steps, .int .i64 m.fin, .int .i64 m.val] 25)) := (h4.block w.heap.size (fun ad had => by have := p4 ad had; have := (HIN.out 4 (by decide)).2; omega)).trans Q4.out
  clear o4 h4 T4 Q4 K4_4 K4_5 M4_0 M4_1 M4_2 M4_3
  have kb : ∀ j, u5.cell? ⟨w.heap.size, j, none⟩ = (#[.slice v.code.a v.code.len v.code.cap, .int .i64 m.pc, .slice v.regs.a v.regs.len v.regs.cap, .slice v.data.a v.data.len v.data.cap, .slice v.stk.a v.stk.len v.stk.cap, .slice v.inp.a v.inp.len v.inp.cap, .slice v.out.a v.out.len v.out.cap, .int .i64 m.steps, .int .i64 m.fin, .int .i64 m.val] : Array Value)[j]? := fun j => cell_of_row u5 w.heap.size j _ 25 (0, 0) Q5.out
  go_wp2_with fail
  clear kb
  refine (markByteS_wr v.out.a v.out.len v.out.cap m.out (k + (v.code.len : Int) + (v.regs.len : Int) + (v.data.len : Int) + (v.stk.len : Int) + (v.inp.len : Int)) u5 K5_5.out (by omega)).mono ?_
  rintro e u6 ⟨rfl, o5, h5⟩
  have M6_5 : Hid (Wr .u8 lo u6 v.out.a v.out.len v.out.cap (mkByteS (k + (v.code.len : Int) + (v.regs.len : Int) + (v.data.len : Int) + (v.stk.len : Int) + (v.inp.len : Int)) v.out.len)) := o5
  have M6_0 : Hid (Wr .i64 lo u6 v.code.a v.code.len v.code.cap (mkIntS (k) v.code.len)) := M5_0.out.untouched p0 p5 (HAP.out 0 5 (by decide) (by decide) (by decide)) h5
  have M6_1 : Hid (Wr .i64 lo u6 v.regs.a v.regs.len v.regs.cap (mkIntS (k + (v.code.len : Int)) v.regs.len)) := M5_1.out.untouched p1 p5 (HAP.out 1 5 (by decide) (by decide) (by decide)) h5
  have M6_2 : Hid (Wr .u8 lo u6 v.data.a v.data.len v.data.cap (mkByteS (k + (v.code.len : Int) + (v.regs.len : Int)) v.data.len)) := M5_2.out.untouched p2 p5 (HAP.out 2 5 (by decide) (by decide) (by decide)) h5
  have M6_3 : Hid (Wr .u8 lo u6 v.stk.a v.stk.len v.stk.cap (mkByteS (k + (v.code.len : Int) + (v.regs.len : Int) + (v.data.len : Int)) v.stk.len)) := M5_3.out.untouched p3 p5 (HAP.out 3 5 (by decide) (by decide) (by decide)) h5
  have M6_4 : Hid (Wr .u8 lo u6 v.inp.a v.inp.len v.inp.cap (mkByteS (k + (v.code.len : Int) + (v.regs.len : Int) + (v.data.len : Int) + (v.stk.len : Int)) v.inp.len)) := M5_4.out.untouched p4 p5 (HAP.out 4 5 (by decide) (by decide) (by decide)) h5
  have T6 : Hid (Outside t0 t6 w u6) := T5.out.trans (Outside.of_touch h5 p5 (HIN.out 5 (by decide)).1 (HIN.out 5 (by decide)).2)
  have Q6 : Hid (u6.heap[w.heap.size]? = some (.cells #[.slice v.code.a v.code.len v.code.cap, .int .i64 m.pc, .slice v.regs.a v.regs.len v.regs.cap, .slice v.data.a v.data.len v.data.cap, .slice v.stk.a v.stk.len v.stk.cap, .slice v.inp.a v.inp.len v.inp.cap, .slice v.out.a v.out.len v.out.cap, .int .i64 m.steps, .int .i64 m.fin, .int .i64 m.val] 25)) := (h5.block w.heap.size (fun ad had => by have := p5 ad had; have := (HIN.out 5 (by decide)).2; omega)).trans Q5.out
  clear o5 h5 T5 Q5 K5_5 M5_0 M5_1 M5_2 M5_3 M5_4
  have kb : ∀ j, u6.cell? ⟨w.heap.size, j, none⟩ = (#[.slice v.code.a v.code.len v.code.cap, .int .i64 m.pc, .slice v.regs.a v.regs.len v.regs.cap, .slice v.data.a v.data.len v.data.cap, .slice v.stk.a v.stk.len v.stk.cap, .slice v.inp.a v.inp.len v.inp.cap, .slice v.out.a v.out.len v.out.cap, .int .i64 m.steps, .int .i64 m.fin, .int .i64 m.val] : Array Value)[j]? := fun j => cell_of_row u6 w.heap.size j _ 25 (0, 0) Q6.out
  go_wp2
  go_ret
  refine ⟨ret_int (by have := HS.out; omega), ⟨M6_0.out, M6_1.out, M6_2.out, M6_3.out, M6_4.out, M6_5.out⟩, T6.out⟩
end Go.Proofs.YtjdfffdeljgenaaGreatDoor.W
namespace Go.Proofs.YtjdfffdeljgenaaGreatDoor.W
open Go.RowKit
theorem branches_any (op a b : Int) (h1 : 37 ≤ op) (h2 : op ≤ 42) (w : World) : Calls Tryz.prog 83 #[.int .i64 op, .int .i64 a, .int .i64 b] w fun e w' => e = .returned (.bool (Pl.brt op a b)) ∧ w' = w := by
  have : op = 37 ∨ op = 38 ∨ op = 39 ∨ op = 40 ∨ op = 41 ∨ op = 42 := by omega
  rcases this with rfl | rfl | rfl | rfl | rfl | rfl
  all_goals
    go_enter Tryz.func83, Tryz.ntmps83
    go_wp2_with (go_at_call 109; refine (implSigned_any _ _).mono ?_; rintro e u1 ⟨rfl, rfl⟩)
    go_ret
    exact ⟨ret_bool (by simp [Pl.brt, bne, Int.not_lt, Bool.decide_eq_false] <;> (try rw [Bool.eq_iff_iff]) <;> simp), rfl⟩
theorem rset_no (p : Value) (x : Int) (w : World) : Calls Tryz.prog 80 #[p, .int .i64 0, .int .i64 x] w fun e w' => e = .returned (.tuple #[]) ∧ w' = w := by
  go_enter Tryz.func80, Tryz.ntmps80
  go_wp2
  go_end0
  exact ⟨rfl, rfl⟩
set_option maxHeartbeats 2000000 in
theorem rset_yes (p g r c n : Nat) (x : Int) (y : Value) (h1 : 1 ≤ n) (h2 : n ≤ 31) (w : World) (cm : w.cell? ⟨p, 0, none⟩ = some (.pointer (some ⟨g, 0, none⟩))) (hc : w.cell? ⟨g, 2, none⟩ = some (.slice (some ⟨r, 0, none⟩) 32 c)) (hr : w.cell? ⟨r, n, none⟩ = some y) (hf : w.frozen? ⟨r, n, none⟩ = false) :
    Calls Tryz.prog 80 #[.pointer (some ⟨p, 0, none⟩), .int .i64 n, .int .i64 x] w fun e w' => e = .returned (.tuple #[]) ∧ ∃ k, w' = (w.setCell ⟨r, n, none⟩ (.int .i64 (Pl.wd x))).drewN k := by
  have e1 : ((n : Int) != 0) = true := by simp; omega
  have e2 : (n : Int) < 32 := by omega
  go_enter Tryz.func80, Tryz.ntmps80
  go_wp2_with fail
  go_region_with (go_at_call 64; refine (implWord_any _ _).mono ?_; rintro e v1 ⟨rfl, rfl⟩)
  all_goals
    go_end0
    exact ⟨rfl, 1, rfl⟩
theorem rget_none (p g : Nat) (ia : Option Addr) (ic : Nat) (u : World) (cm : u.cell? ⟨p, 0, none⟩ = some (.pointer (some ⟨g, 0, none⟩))) (ci : u.cell? ⟨g, 5, none⟩ = some (.slice ia 0 ic)) :
    Calls Tryz.prog 111 #[.pointer (some ⟨p, 0, none⟩)] u fun e u' => e = .returned (.int .i64 (-1)) ∧ u' = u := by
  go_enter Tryz.func111, Tryz.ntmps111
  go_wp2
  go_ret
  exact ⟨rfl, rfl⟩
set_option maxRecDepth 8000 in
set_option maxHeartbeats 4000000 in
theorem rget_yes (p g b off il ic : Nat) (x : Int) (h1 : 1 ≤ il) (h2 : il ≤ ic) (h3 : (ic : Int) ≤ 9223372036854775807) (hx : 0 ≤ x ∧ x ≤ 255) (u : World) (cm : u.cell? ⟨p, 0, none⟩ = some (.pointer (some ⟨g, 0, none⟩))) (ci : u.cell? ⟨g, 5, none⟩ = some (.slice (some ⟨b, off, none⟩) il ic)) (cx : u.cell? ⟨b, off, none⟩ = some (.int .u8 x)) (hg : u.frozen? ⟨g, 5, none⟩ = false) :
    Calls Tryz.prog 111 #[.pointer (some ⟨p, 0, none⟩)] u fun e u' => e = .returned (.int .i64 x) ∧ ∃ k q, (il ≠ 1 → q = some ⟨b, off + 1, none⟩) ∧ (q = some ⟨b, off + 1, none⟩ ∨ q = some ⟨b, off, none⟩) ∧ u' = (u.setCell ⟨g, 5, none⟩ (.slice q (il - 1) (ic - 1))).drewN k := by
  have l0 : ((il : Int) == 0) = false := by simp; omega
  have l1 : (0 : Int) < (il : Int) := by omega
  have l2 : (1 : Int) ≤ (il : Int) := by omega
  have l3 : (il : Int) ≤ (ic : Int) := by omega
  have hX : IntKind.i64.wrap x = x := by rw [IntKind.wrap_i64]; omega
  by_cases hic : ic = 1
  · subst hic
    obtain rfl : il = 1 := by omega
    go_enter Tryz.func111, Tryz.ntmps111
    go_wp2_with fail
    go_region_with (fail)
    all_goals
      go_wp2
      go_ret
      exact ⟨rfl, 1, _, fun h => absurd rfl h, .inr rfl, rfl⟩
  · go_enter Tryz.func111, Tryz.ntmps111
    go_wp2_with fail
    go_region_with (fail)
    all_goals
      go_wp2
      go_ret
      exact ⟨rfl, 1, _, fun _ => rfl, .inl rfl, rfl⟩
theorem rput_full (p g : Nat) (oa : Option Addr) (ol oc : Nat) (hol : 10000 ≤ ol) (hom : ol ≤ 1048576) (u : World) (cm : u.cell? ⟨p, 0, none⟩ = some (.pointer (some ⟨g, 0, none⟩))) (co : u.cell? ⟨g, 6, none⟩ = some (.slice oa ol oc)) :
    Calls Tryz.prog 110 #[.pointer (some ⟨p, 0, none⟩)] u fun e u' => e = .panicked [{ v := .iface 97 (.int .i64 6), recovered := false }] ∧ u' = u := by
  have e1 : decide (10000 ≤ (ol : Int)) = true := by simp; omega
  go_enter Tryz.func110, Tryz.ntmps110
  go_wp2
  exact ⟨rfl, rfl, rfl⟩
end Go.Proofs.YtjdfffdeljgenaaGreatDoor.W
namespace Go.Proofs.YtjdfffdeljgenaaGreatDoor.W
open Go.RowKit
theorem rset_run {D : Nat → Prop} {g : Nat} {u : World} {v : MV} {m : Pl.Mac} (h : Run D g u v m) (hv : m.regs.length = 32) (p : Nat) (cm : u.cell? ⟨p, 0, none⟩ = some (.pointer (some ⟨g, 0, none⟩))) (n : Nat) (hn : n ≤ 31) (x : Int) :
    Calls Tryz.prog 80 #[.pointer (some ⟨p, 0, none⟩), .int .i64 n, .int .i64 x] u fun e u' => e = .returned (.tuple #[]) ∧ Run D g u' v (Pl.setR m n x) ∧ St D u u' ∧ (∀ b, b < u.heap.size → (blks g v)[2]? ≠ some (some b) → u'.heap[b]? = u.heap[b]?) := by
  by_cases h0 : n = 0
  · subst h0
    exact (rset_no _ x u).mono fun e u' ⟨he, hu⟩ => by rw [hu]; exact ⟨he, h, St.refl _ _, fun _ _ _ => rfl⟩
  · obtain ⟨r, c, hr, hc, hf⟩ := h.regsAt hv
    have hcell : u.cell? ⟨g, 2, none⟩ = some (.slice (some ⟨r, 0, none⟩) 32 c) := by rw [h.cell 2, hr]; rfl
    have hb : (blks g v)[2]? = some (some r) := by simp [blks, hr]
    refine (rset_yes p g r c n x _ (by omega) hn u cm hcell (hc n (by omega)) (hf n)).mono fun e u' ⟨he, k, hu⟩ => ?_
    have e1 : Pl.setR m n x = { m with regs := m.regs.set n (Pl.wd x) } := by unfold Pl.setR; rw [if_neg h0]
    have hR := h.setReg (r := r) (by rw [hr]) n (Pl.wd x) (by
      have := Pl.wd_bdd x
      generalize Pl.wd x = y at this
      simp [Lit.wf, IntKind.min, IntKind.max, IntKind.signed, IntKind.bits]
      omega)
    rw [hu, e1]
    refine ⟨he, hR.keep (below_drewN (Below.refl _ _) k), (St.set (h.ne 2 hb)).trans (hR.st (below_drewN (Below.refl _ _) k)), fun b hbl hne => ?_⟩
    show (u.setCell ⟨r, n, none⟩ _).heap[b]? = _
    exact Below.heap_setCell u ⟨r, n, none⟩ _ b (fun e => hne (by rw [hb, e]))
theorem Run.ptr {D : Nat → Prop} {g : Nat} {u u' : World} {v : MV} {m : Pl.Mac} (h : Run D g u v m) {p : Nat} {j : Nat} {x : Value} (hp : D p) (cm : u.cell? ⟨p, j, none⟩ = some x) (hs : St D u u') : u'.cell? ⟨p, j, none⟩ = some x := by
  rw [World.cell?_of_block (a := ⟨p, j, none⟩) (hs.keep p hp)]
  exact cm
theorem roper_run {D : Nat → Prop} {g : Nat} {u : World} {v : MV} {m : Pl.Mac} (h : Run D g u v m) (hv : m.regs.length = 32) (p : Nat) (hp : D p) (cm : u.cell? ⟨p, 0, none⟩ = some (.pointer (some ⟨g, 0, none⟩))) (n : Nat) (hn : n ≤ 31) (op a b : Int) (h1 : 1 ≤ op) (h2 : op ≤ 18) :
    Calls Tryz.prog 79 #[.pointer (some ⟨p, 0, none⟩), .int .i64 n, .int .i64 op, .int .i64 a, .int .i64 b] u fun e u' => e = .returned (.tuple #[]) ∧ Run D g u' v (Pl.setR m n (Pl.al op.toNat (Pl.wd a) (Pl.wd b))) ∧ St D u u' := by
  have HA : Hid (∀ w, Calls Tryz.prog 106 #[.int .i64 op, .int .i64 a, .int .i64 b] w fun e w' => e = .returned (.tuple #[.int .i64 (Pl.al op.toNat (Pl.wd a) (Pl.wd b)), .bool true]) ∧ Below w.heap.size w w') := fun w => implAlu_yes op a b h1 h2 w
  generalize Pl.al op.toNat (Pl.wd a) (Pl.wd b) = X at *
  have HS : Hid (∀ U : World, Below u.heap.size u U → Calls Tryz.prog 80 #[.pointer (some ⟨p, 0, none⟩), .int .i64 n, .int .i64 X] U fun e u' => e = .returned (.tuple #[]) ∧ Run D g u' v (Pl.setR m n X) ∧ St D u u') := fun U hU => by
    refine (rset_run (h.keep hU) hv p (h.ptr hp cm (h.st hU)) n hn X).mono fun e u' ⟨he, hR, hS, _⟩ => ⟨he, hR, (h.st hU).trans hS⟩
  clear h cm
  go_enter Tryz.func79, Tryz.ntmps79
  go_wp2_with (first | (go_at_call 106; refine (HA.out _).mono ?_; rintro e u1 ⟨rfl, hb⟩; have HB : Hid (Below u.heap.size u u1) := hb; clear hb) | (go_at_call 80; refine (HS.out _ HB.out).mono ?_; rintro e u2 ⟨rfl, hr2⟩; have HR2 : Hid (Run D g u2 v (Pl.setR m n X) ∧ St D u u2) := hr2; clear hr2))
  go_end0
  exact ⟨rfl, HR2.out⟩
end Go.Proofs.YtjdfffdeljgenaaGreatDoor.W
