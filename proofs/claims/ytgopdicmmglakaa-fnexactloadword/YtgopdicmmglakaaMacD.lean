import Derived.Test.YtgopdicmmglakaaMacE
set_option linter.unusedVariables false
namespace Go.Proofs.Ytgopdicmmglakaa.W
open Go.RowKit
set_option maxHeartbeats 2000000 in
theorem implImageOk_any {lo : Nat} (v : IV) (m : Pl.Img) (w : World) (h : IIs lo w v m) (he : -9223372036854775808 ≤ m.entry ∧ m.entry ≤ 9223372036854775807) :
    Calls Try.prog 15 #[.agg #[.slice v.code.a v.code.len v.code.cap, .slice v.data.a v.data.len v.data.cap, .int .i64 m.entry, .int .i64 m.size]] w fun e w' => e = .returned (.bool (Pl.iOk m)) ∧ Below w.heap.size w w' := by
  obtain ⟨⟨ca, cl, cc⟩, ⟨da, dl, dc⟩⟩ := v
  obtain ⟨code, data, entry, size⟩ := m
  have h' := h.keep (below_alloc w (.cells #[.slice ca cl cc, .slice da dl dc, .int .i64 entry, .int .i64 size] 36))
  obtain ⟨r1, r3⟩ := h'
  dsimp only at r1 r3 he ⊢
  have l1 := r1.small
  have l3 := r3.small
  have E1 : Hid (code.length = cl) := r1.1
  have E3 : Hid (data.length = dl) := r3.1
  have R1 : Hid (Row .i64 lo _ ca cl cc code) := r1
  clear r1 r3 h
  unfold Pl.iOk
  dsimp only
  rw [E1.out, E3.out]
  obtain ⟨pl, hp⟩ : ∃ pl, pl = Pl.place cl entry := ⟨_, rfl⟩
  rw [← hp]
  cases cs : Pl.skOk size
  all_goals
    cases c1 : Pl.cdOk code
    · go_enter Try.func15, Try.ntmps15
      go_wp2_with (first | (go_at_call 29; refine (implCodeOk_any _ _ _ code _ R1.out).mono ?_; rintro e w' ⟨rfl, rfl⟩; simp only [c1]) | (go_at_call 30; refine (implStackOk_any _ _).mono ?_; rintro e w' ⟨rfl, rfl⟩; simp only [cs]) | (go_at_call 36; refine (implPlace_any _ _ _ _ (by omega) he _).mono ?_; rintro e w' ⟨rfl, rfl⟩; rw [← hp]))
      go_ret
      exact ⟨rfl, below_alloc _ _⟩
    have hc : cl ≤ 16384 := by
      have := c1
      unfold Pl.cdOk at this
      rw [E1.out] at this
      simp at this
      omega
    by_cases c2 : dl ≤ 65536
    rotate_left
    · rw [decide_eq_false c2]
      go_enter Try.func15, Try.ntmps15
      go_wp2_with (first | (go_at_call 29; refine (implCodeOk_any _ _ _ code _ R1.out).mono ?_; rintro e w' ⟨rfl, rfl⟩; simp only [c1]) | (go_at_call 30; refine (implStackOk_any _ _).mono ?_; rintro e w' ⟨rfl, rfl⟩; simp only [cs]) | (go_at_call 36; refine (implPlace_any _ _ _ _ (by omega) he _).mono ?_; rintro e w' ⟨rfl, rfl⟩; rw [← hp]))
      go_ret
      exact ⟨rfl, below_alloc _ _⟩
    rw [decide_eq_true c2]
    by_cases c3 : 0 ≤ pl
    · rw [decide_eq_true c3]
      go_enter Try.func15, Try.ntmps15
      go_wp2_with (first | (go_at_call 29; refine (implCodeOk_any _ _ _ code _ R1.out).mono ?_; rintro e w' ⟨rfl, rfl⟩; simp only [c1]) | (go_at_call 30; refine (implStackOk_any _ _).mono ?_; rintro e w' ⟨rfl, rfl⟩; simp only [cs]) | (go_at_call 36; refine (implPlace_any _ _ _ _ (by omega) he _).mono ?_; rintro e w' ⟨rfl, rfl⟩; rw [← hp]))
      go_ret
      first | exact ⟨rfl, below_alloc _ _⟩ | exact ⟨ret_bool (a := decide (0 ≤ Pl.place cl entry)) (by rw [← hp, decide_eq_true c3]; rfl), below_alloc _ _⟩
    · rw [decide_eq_false c3]
      go_enter Try.func15, Try.ntmps15
      go_wp2_with (first | (go_at_call 29; refine (implCodeOk_any _ _ _ code _ R1.out).mono ?_; rintro e w' ⟨rfl, rfl⟩; simp only [c1]) | (go_at_call 30; refine (implStackOk_any _ _).mono ?_; rintro e w' ⟨rfl, rfl⟩; simp only [cs]) | (go_at_call 36; refine (implPlace_any _ _ _ _ (by omega) he _).mono ?_; rintro e w' ⟨rfl, rfl⟩; rw [← hp]))
      go_ret
      first | exact ⟨rfl, below_alloc _ _⟩ | exact ⟨ret_bool (a := decide (0 ≤ Pl.place cl entry)) (by rw [← hp, decide_eq_false (by omega)]; rfl), below_alloc _ _⟩
set_option maxHeartbeats 2000000 in
theorem specImageOk_any {lo : Nat} (v : IV) (m : Pl.Img) (w : World) (h : IIs lo w v m) (he : -9223372036854775808 ≤ m.entry ∧ m.entry ≤ 9223372036854775807) :
    Calls Try.prog 13 #[.agg #[.slice v.code.a v.code.len v.code.cap, .slice v.data.a v.data.len v.data.cap, .int .i64 m.entry, .int .i64 m.size]] w fun e w' => e = .returned (.bool (Pl.iOk m)) ∧ Below w.heap.size w w' := by
  obtain ⟨⟨ca, cl, cc⟩, ⟨da, dl, dc⟩⟩ := v
  obtain ⟨code, data, entry, size⟩ := m
  have h' := h.keep (below_alloc w (.cells #[.slice ca cl cc, .slice da dl dc, .int .i64 entry, .int .i64 size] 36))
  obtain ⟨r1, r3⟩ := h'
  dsimp only at r1 r3 he ⊢
  have l1 := r1.small
  have l3 := r3.small
  have E1 : Hid (code.length = cl) := r1.1
  have E3 : Hid (data.length = dl) := r3.1
  have R1 : Hid (Row .i64 lo _ ca cl cc code) := r1
  clear r1 r3 h
  unfold Pl.iOk
  dsimp only
  rw [E1.out, E3.out]
  obtain ⟨pl, hp⟩ : ∃ pl, pl = Pl.place cl entry := ⟨_, rfl⟩
  rw [← hp]
  cases cs : Pl.skOk size
  all_goals
    cases c1 : Pl.cdOk code
    · go_enter Try.func13, Try.ntmps13
      go_wp2_with (first | (go_at_call 24; refine (specCodeOk_any _ _ _ code _ R1.out).mono ?_; rintro e w' ⟨rfl, rfl⟩; simp only [c1]) | (go_at_call 25; refine (specStackOk_any _ _).mono ?_; rintro e w' ⟨rfl, rfl⟩; simp only [cs]) | (go_at_call 35; refine (specPlace_any _ _ _ _ (by omega) he _).mono ?_; rintro e w' ⟨rfl, rfl⟩; rw [← hp]))
      go_ret
      exact ⟨rfl, below_alloc _ _⟩
    have hc : cl ≤ 16384 := by
      have := c1
      unfold Pl.cdOk at this
      rw [E1.out] at this
      simp at this
      omega
    by_cases c2 : dl ≤ 65536
    rotate_left
    · rw [decide_eq_false c2]
      go_enter Try.func13, Try.ntmps13
      go_wp2_with (first | (go_at_call 24; refine (specCodeOk_any _ _ _ code _ R1.out).mono ?_; rintro e w' ⟨rfl, rfl⟩; simp only [c1]) | (go_at_call 25; refine (specStackOk_any _ _).mono ?_; rintro e w' ⟨rfl, rfl⟩; simp only [cs]) | (go_at_call 35; refine (specPlace_any _ _ _ _ (by omega) he _).mono ?_; rintro e w' ⟨rfl, rfl⟩; rw [← hp]))
      go_ret
      exact ⟨rfl, below_alloc _ _⟩
    rw [decide_eq_true c2]
    by_cases c3 : 0 ≤ pl
    · rw [decide_eq_true c3]
      go_enter Try.func13, Try.ntmps13
      go_wp2_with (first | (go_at_call 24; refine (specCodeOk_any _ _ _ code _ R1.out).mono ?_; rintro e w' ⟨rfl, rfl⟩; simp only [c1]) | (go_at_call 25; refine (specStackOk_any _ _).mono ?_; rintro e w' ⟨rfl, rfl⟩; simp only [cs]) | (go_at_call 35; refine (specPlace_any _ _ _ _ (by omega) he _).mono ?_; rintro e w' ⟨rfl, rfl⟩; rw [← hp]))
      go_ret
      first | exact ⟨rfl, below_alloc _ _⟩ | exact ⟨ret_bool (a := decide (0 ≤ Pl.place cl entry)) (by rw [← hp, decide_eq_true c3]; rfl), below_alloc _ _⟩
    · rw [decide_eq_false c3]
      go_enter Try.func13, Try.ntmps13
      go_wp2_with (first | (go_at_call 24; refine (specCodeOk_any _ _ _ code _ R1.out).mono ?_; rintro e w' ⟨rfl, rfl⟩; simp only [c1]) | (go_at_call 25; refine (specStackOk_any _ _).mono ?_; rintro e w' ⟨rfl, rfl⟩; simp only [cs]) | (go_at_call 35; refine (specPlace_any _ _ _ _ (by omega) he _).mono ?_; rintro e w' ⟨rfl, rfl⟩; rw [← hp]))
      go_ret
      first | exact ⟨rfl, below_alloc _ _⟩ | exact ⟨ret_bool (a := decide (0 ≤ Pl.place cl entry)) (by rw [← hp, decide_eq_false (by omega)]; rfl), below_alloc _ _⟩
set_option maxHeartbeats 2000000 in
theorem szImage_any {lo : Nat} (v : IV) (m : Pl.Img) (left : Int) (w : World) (h : IIs lo w v m) (h0 : 0 ≤ left ∧ left ≤ 1048576) :
    Calls Try.prog 12 #[.agg #[.slice v.code.a v.code.len v.code.cap, .slice v.data.a v.data.len v.data.cap, .int .i64 m.entry, .int .i64 m.size], .int .i64 left] w fun e w' => ∃ r : Int, e = .returned (.int .i64 r) ∧ (if left < ((m.code.length + m.data.length : Nat) : Int) then r < 0 else 0 ≤ r) ∧ Below w.heap.size w w' := by
  obtain ⟨⟨ca, cl, cc⟩, ⟨da, dl, dc⟩⟩ := v
  obtain ⟨code, data, entry, size⟩ := m
  obtain ⟨r1, r3⟩ := h
  dsimp only at r1 r3 ⊢
  have l1 := r1.small
  have l3 := r3.small
  rw [r1.1, r3.1]
  clear r1 r3
  by_cases c1 : (cl : Int) ≤ left
  rotate_left
  · go_enter Try.func12, Try.ntmps12
    go_wp2_with (first | (go_at_call 22; refine (szIntS_yes _ _ _ _ (by omega) (by omega) (by omega) _).mono ?_; rintro e w' ⟨rfl, rfl⟩) | (go_at_call 22; refine (szIntS_no _ _ _ _ (by omega) (by omega) (by omega) _).mono ?_; rintro e w' ⟨rfl, rfl⟩) | (go_at_call 23; refine (szByteS_yes _ _ _ _ (by omega) (by omega) (by omega) _).mono ?_; rintro e w' ⟨rfl, rfl⟩) | (go_at_call 23; refine (szByteS_no _ _ _ _ (by omega) (by omega) (by omega) _).mono ?_; rintro e w' ⟨rfl, rfl⟩))
    go_ret
    exact ⟨-1, rfl, by decide, below_alloc _ _⟩
  by_cases c2 : (cl : Int) + (dl : Int) ≤ left
  rotate_left
  · go_enter Try.func12, Try.ntmps12
    go_wp2_with (first | (go_at_call 22; refine (szIntS_yes _ _ _ _ (by omega) (by omega) (by omega) _).mono ?_; rintro e w' ⟨rfl, rfl⟩) | (go_at_call 22; refine (szIntS_no _ _ _ _ (by omega) (by omega) (by omega) _).mono ?_; rintro e w' ⟨rfl, rfl⟩) | (go_at_call 23; refine (szByteS_yes _ _ _ _ (by omega) (by omega) (by omega) _).mono ?_; rintro e w' ⟨rfl, rfl⟩) | (go_at_call 23; refine (szByteS_no _ _ _ _ (by omega) (by omega) (by omega) _).mono ?_; rintro e w' ⟨rfl, rfl⟩))
    go_ret
    exact ⟨-1, rfl, by decide, below_alloc _ _⟩
  · go_enter Try.func12, Try.ntmps12
    go_wp2_with (first | (go_at_call 22; refine (szIntS_yes _ _ _ _ (by omega) (by omega) (by omega) _).mono ?_; rintro e w' ⟨rfl, rfl⟩) | (go_at_call 22; refine (szIntS_no _ _ _ _ (by omega) (by omega) (by omega) _).mono ?_; rintro e w' ⟨rfl, rfl⟩) | (go_at_call 23; refine (szByteS_yes _ _ _ _ (by omega) (by omega) (by omega) _).mono ?_; rintro e w' ⟨rfl, rfl⟩) | (go_at_call 23; refine (szByteS_no _ _ _ _ (by omega) (by omega) (by omega) _).mono ?_; rintro e w' ⟨rfl, rfl⟩))
    go_ret
    exact ⟨_, rfl, by omega, below_alloc _ _⟩
set_option maxHeartbeats 4000000 in
theorem eqImage_same {lo1 lo2 : Nat} (v1 v2 : IV) (m : Pl.Img) (w : World) (h1 : IIs lo1 w v1 m) (h2 : IIs lo2 w v2 m) :
    Calls Try.prog 16 #[.agg #[.slice v1.code.a v1.code.len v1.code.cap, .slice v1.data.a v1.data.len v1.data.cap, .int .i64 m.entry, .int .i64 m.size], .agg #[.slice v2.code.a v2.code.len v2.code.cap, .slice v2.data.a v2.data.len v2.data.cap, .int .i64 m.entry, .int .i64 m.size]] w fun e w' => e = .returned (.bool true) ∧ Below w.heap.size w w' := by
  obtain ⟨⟨ca, cl, cc⟩, ⟨da, dl, dc⟩⟩ := v1
  obtain ⟨⟨ca', cl', cc'⟩, ⟨da', dl', dc'⟩⟩ := v2
  obtain ⟨code, data, entry, size⟩ := m
  obtain ⟨rc, rd⟩ := h1
  obtain ⟨qc, qd⟩ := h2
  dsimp only at rc rd qc qd ⊢
  have Rc : Hid (Row .i64 lo1 w ca cl cc code) := rc
  have Qc : Hid (Row .i64 lo2 w ca' cl' cc' code) := qc
  clear rc qc
  have Rd : Hid (Row .u8 lo1 w da dl dc data) := rd
  have Qd : Hid (Row .u8 lo2 w da' dl' dc' data) := qd
  clear rd qd
  go_enter Try.func16, Try.ntmps16
  go_wp2_with fail
  refine calls_at fun u0 hu0 => ?_
  have p0 : u0.heap[w.heap.size]? = some (.cells #[.slice ca cl cc, .slice da dl dc, .int .i64 entry, .int .i64 size] 36) := by
    rw [hu0, Below.heap_alloc _ _ _ (by simp)]
    exact heap_alloc_new w _
  have q0 : u0.heap[w.heap.size + 1]? = some (.cells #[.slice ca' cl' cc', .slice da' dl' dc', .int .i64 entry, .int .i64 size] 36) := by
    rw [hu0]
    have := heap_alloc_new (w.alloc (.cells #[.slice ca cl cc, .slice da dl dc, .int .i64 entry, .int .i64 size] 36)) (.cells #[.slice ca' cl' cc', .slice da' dl' dc', .int .i64 entry, .int .i64 size] 36)
    simpa using this
  have hb : Below w.heap.size w u0 := by
    rw [hu0]
    exact ((Below.refl _ _).alloc (Nat.le_refl _) _).alloc (by simp) _
  have hz : w.heap.size + 1 < u0.heap.size := by rw [hu0]; simp
  have B0 : Hid (Below w.heap.size w u0) := hb
  have P0 : Hid (u0.heap[w.heap.size]? = some (.cells #[.slice ca cl cc, .slice da dl dc, .int .i64 entry, .int .i64 size] 36)) := p0
  have Q0 : Hid (u0.heap[w.heap.size + 1]? = some (.cells #[.slice ca' cl' cc', .slice da' dl' dc', .int .i64 entry, .int .i64 size] 36)) := q0
  have Z0 : Hid (w.heap.size + 1 < u0.heap.size) := hz
  clear p0 q0 hb hz hu0
  refine (eqIntS_any _ _ _ _ _ _ code code u0 (Row.keep Rc.out B0.out) (Row.keep Qc.out B0.out)).mono ?_
  rintro e u1 ⟨rfl, d1⟩
  rw [beq_self_eq_true]
  have P1 : Hid (u1.heap[w.heap.size]? = some (.cells #[.slice ca cl cc, .slice da dl dc, .int .i64 entry, .int .i64 size] 36)) := (d1.block _ (by have := Z0.out; omega)).trans P0.out
  have Q1 : Hid (u1.heap[w.heap.size + 1]? = some (.cells #[.slice ca' cl' cc', .slice da' dl' dc', .int .i64 entry, .int .i64 size] 36)) := (d1.block _ (by have := Z0.out; omega)).trans Q0.out
  have kb : ∀ j, u1.cell? ⟨w.heap.size, j, none⟩ = (#[.slice ca cl cc, .slice da dl dc, .int .i64 entry, .int .i64 size] : Array Value)[j]? := fun j => cell_of_row u1 w.heap.size j _ 36 (0, 0) P1.out
  have kc : ∀ j, u1.cell? ⟨w.heap.size + 1, j, none⟩ = (#[.slice ca' cl' cc', .slice da' dl' dc', .int .i64 entry, .int .i64 size] : Array Value)[j]? := fun j => cell_of_row u1 (w.heap.size + 1) j _ 36 (0, 0) Q1.out
  have B1 : Hid (Below w.heap.size w u1) := B0.out.trans (d1.mono (by have := Z0.out; omega))
  have Z1 : Hid (w.heap.size + 1 < u1.heap.size) := Nat.lt_of_lt_of_le Z0.out d1.size
  clear d1 P0 Q0 B0 Z0
  go_wp2_with fail
  clear kb kc
  refine (eqByteS_any _ _ _ _ _ _ data data u1 (Row.keep Rd.out B1.out) (Row.keep Qd.out B1.out)).mono ?_
  rintro e u2 ⟨rfl, d2⟩
  rw [beq_self_eq_true]
  have P2 : Hid (u2.heap[w.heap.size]? = some (.cells #[.slice ca cl cc, .slice da dl dc, .int .i64 entry, .int .i64 size] 36)) := (d2.block _ (by have := Z1.out; omega)).trans P1.out
  have Q2 : Hid (u2.heap[w.heap.size + 1]? = some (.cells #[.slice ca' cl' cc', .slice da' dl' dc', .int .i64 entry, .int .i64 size] 36)) := (d2.block _ (by have := Z1.out; omega)).trans Q1.out
  have kb : ∀ j, u2.cell? ⟨w.heap.size, j, none⟩ = (#[.slice ca cl cc, .slice da dl dc, .int .i64 entry, .int .i64 size] : Array Value)[j]? := fun j => cell_of_row u2 w.heap.size j _ 36 (0, 0) P2.out
  have kc : ∀ j, u2.cell? ⟨w.heap.size + 1, j, none⟩ = (#[.slice ca' cl' cc', .slice da' dl' dc', .int .i64 entry, .int .i64 size] : Array Value)[j]? := fun j => cell_of_row u2 (w.heap.size + 1) j _ 36 (0, 0) Q2.out
  have B2 : Hid (Below w.heap.size w u2) := B1.out.trans (d2.mono (by have := Z1.out; omega))
  have Z2 : Hid (w.heap.size + 1 < u2.heap.size) := Nat.lt_of_lt_of_le Z1.out d2.size
  clear d2 P1 Q1 B1 Z1
  go_wp2
  go_ret
  exact ⟨rfl, B2.out⟩
set_option maxHeartbeats 4000000 in
theorem eqMachine_same {lo1 lo2 : Nat} (v1 v2 : MV) (m : Pl.Mac) (w : World) (h1 : MIs lo1 w v1 m) (h2 : MIs lo2 w v2 m) :
    Calls Try.prog 11 #[.agg #[.slice v1.code.a v1.code.len v1.code.cap, .int .i64 m.pc, .slice v1.regs.a v1.regs.len v1.regs.cap, .slice v1.data.a v1.data.len v1.data.cap, .slice v1.stk.a v1.stk.len v1.stk.cap, .slice v1.inp.a v1.inp.len v1.inp.cap, .slice v1.out.a v1.out.len v1.out.cap, .int .i64 m.steps, .int .i64 m.fin, .int .i64 m.val], .agg #[.slice v2.code.a v2.code.len v2.code.cap, .int .i64 m.pc, .slice v2.regs.a v2.regs.len v2.regs.cap, .slice v2.data.a v2.data.len v2.data.cap, .slice v2.stk.a v2.stk.len v2.stk.cap, .slice v2.inp.a v2.inp.len v2.inp.cap, .slice v2.out.a v2.out.len v2.out.cap, .int .i64 m.steps, .int .i64 m.fin, .int .i64 m.val]] w fun e w' => e = .returned (.bool true) ∧ Below w.heap.size w w' := by
  obtain ⟨⟨ca, cl, cc⟩, ⟨ra, rl, rc⟩, ⟨da, dl, dc⟩, ⟨sa, sl, sc⟩, ⟨ia, il, ic⟩, ⟨oa, ol, oc⟩⟩ := v1
  obtain ⟨⟨ca', cl', cc'⟩, ⟨ra', rl', rc'⟩, ⟨da', dl', dc'⟩, ⟨sa', sl', sc'⟩, ⟨ia', il', ic'⟩, ⟨oa', ol', oc'⟩⟩ := v2
  obtain ⟨code, pc, regs, data, stk, inp, out, steps, fin, val⟩ := m
  obtain ⟨rc, rr, rd, rs, ri, ro⟩ := h1
  obtain ⟨qc, qr, qd, qs, qi, qo⟩ := h2
  dsimp only at rc rr rd rs ri ro qc qr qd qs qi qo ⊢
  have Rc : Hid (Row .i64 lo1 w ca cl cc code) := rc
  have Qc : Hid (Row .i64 lo2 w ca' cl' cc' code) := qc
  clear rc qc
  have Rr : Hid (Row .i64 lo1 w ra rl rc regs) := rr
  have Qr : Hid (Row .i64 lo2 w ra' rl' rc' regs) := qr
  clear rr qr
  have Rd : Hid (Row .u8 lo1 w da dl dc data) := rd
  have Qd : Hid (Row .u8 lo2 w da' dl' dc' data) := qd
  clear rd qd
  have Rs : Hid (Row .u8 lo1 w sa sl sc stk) := rs
  have Qs : Hid (Row .u8 lo2 w sa' sl' sc' stk) := qs
  clear rs qs
  have Ri : Hid (Row .u8 lo1 w ia il ic inp) := ri
  have Qi : Hid (Row .u8 lo2 w ia' il' ic' inp) := qi
  clear ri qi
  have Ro : Hid (Row .u8 lo1 w oa ol oc out) := ro
  have Qo : Hid (Row .u8 lo2 w oa' ol' oc' out) := qo
  clear ro qo
  go_enter Try.func11, Try.ntmps11
  go_wp2_with fail
  refine calls_at fun u0 hu0 => ?_
  have p0 : u0.heap[w.heap.size]? = some (.cells #[.slice ca cl cc, .int .i64 pc, .slice ra rl rc, .slice da dl dc, .slice sa sl sc, .slice ia il ic, .slice oa ol oc, .int .i64 steps, .int .i64 fin, .int .i64 val] 28) := by
    rw [hu0, Below.heap_alloc _ _ _ (by simp)]
    exact heap_alloc_new w _
  have q0 : u0.heap[w.heap.size + 1]? = some (.cells #[.slice ca' cl' cc', .int .i64 pc, .slice ra' rl' rc', .slice da' dl' dc', .slice sa' sl' sc', .slice ia' il' ic', .slice oa' ol' oc', .int .i64 steps, .int .i64 fin, .int .i64 val] 28) := by
    rw [hu0]
    have := heap_alloc_new (w.alloc (.cells #[.slice ca cl cc, .int .i64 pc, .slice ra rl rc, .slice da dl dc, .slice sa sl sc, .slice ia il ic, .slice oa ol oc, .int .i64 steps, .int .i64 fin, .int .i64 val] 28)) (.cells #[.slice ca' cl' cc', .int .i64 pc, .slice ra' rl' rc', .slice da' dl' dc', .slice sa' sl' sc', .slice ia' il' ic', .slice oa' ol' oc', .int .i64 steps, .int .i64 fin, .int .i64 val] 28)
    simpa using this
  have hb : Below w.heap.size w u0 := by
    rw [hu0]
    exact ((Below.refl _ _).alloc (Nat.le_refl _) _).alloc (by simp) _
  have hz : w.heap.size + 1 < u0.heap.size := by rw [hu0]; simp
  have B0 : Hid (Below w.heap.size w u0) := hb
  have P0 : Hid (u0.heap[w.heap.size]? = some (.cells #[.slice ca cl cc, .int .i64 pc, .slice ra rl rc, .slice da dl dc, .slice sa sl sc, .slice ia il ic, .slice oa ol oc, .int .i64 steps, .int .i64 fin, .int .i64 val] 28)) := p0
  have Q0 : Hid (u0.heap[w.heap.size + 1]? = some (.cells #[.slice ca' cl' cc', .int .i64 pc, .slice ra' rl' rc', .slice da' dl' dc', .slice sa' sl' sc', .slice ia' il' ic', .slice oa' ol' oc', .int .i64 steps, .int .i64 fin, .int .i64 val] 28)) := q0
  have Z0 : Hid (w.heap.size + 1 < u0.heap.size) := hz
  clear p0 q0 hb hz hu0
  refine (eqIntS_any _ _ _ _ _ _ code code u0 (Row.keep Rc.out B0.out) (Row.keep Qc.out B0.out)).mono ?_
  rintro e u1 ⟨rfl, d1⟩
  rw [beq_self_eq_true]
  have P1 : Hid (u1.heap[w.heap.size]? = some (.cells #[.slice ca cl cc, .int .i64 pc, .slice ra rl rc, .slice da dl dc, .slice sa sl sc, .slice ia il ic, .slice oa ol oc, .int .i64 steps, .int .i64 fin, .int .i64 val] 28)) := (d1.block _ (by have := Z0.out; omega)).trans P0.out
  have Q1 : Hid (u1.heap[w.heap.size + 1]? = some (.cells #[.slice ca' cl' cc', .int .i64 pc, .slice ra' rl' rc', .slice da' dl' dc', .slice sa' sl' sc', .slice ia' il' ic', .slice oa' ol' oc', .int .i64 steps, .int .i64 fin, .int .i64 val] 28)) := (d1.block _ (by have := Z0.out; omega)).trans Q0.out
  have kb : ∀ j, u1.cell? ⟨w.heap.size, j, none⟩ = (#[.slice ca cl cc, .int .i64 pc, .slice ra rl rc, .slice da dl dc, .slice sa sl sc, .slice ia il ic, .slice oa ol oc, .int .i64 steps, .int .i64 fin, .int .i64 val] : Array Value)[j]? := fun j => cell_of_row u1 w.heap.size j _ 28 (0, 0) P1.out
  have kc : ∀ j, u1.cell? ⟨w.heap.size + 1, j, none⟩ = (#[.slice ca' cl' cc', .int .i64 pc, .slice ra' rl' rc', .slice da' dl' dc', .slice sa' sl' sc', .slice ia' il' ic', .slice oa' ol' oc', .int .i64 steps, .int .i64 fin, .int .i64 val] : Array Value)[j]? := fun j => cell_of_row u1 (w.heap.size + 1) j _ 28 (0, 0) Q1.out
  have B1 : Hid (Below w.heap.size w u1) := B0.out.trans (d1.mono (by have := Z0.out; omega))
  have Z1 : Hid (w.heap.size + 1 < u1.heap.size) := Nat.lt_of_lt_of_le Z0.out d1.size
  clear d1 P0 Q0 B0 Z0
  go_wp2_with fail
  clear kb kc
  refine (eqIntS_any _ _ _ _ _ _ regs regs u1 (Row.keep Rr.out B1.out) (Row.keep Qr.out B1.out)).mono ?_
  rintro e u2 ⟨rfl, d2⟩
  rw [beq_self_eq_true]
  have P2 : Hid (u2.heap[w.heap.size]? = some (.cells #[.slice ca cl cc, .int .i64 pc, .slice ra rl rc, .slice da dl dc, .slice sa sl sc, .slice ia il ic, .slice oa ol oc, .int .i64 steps, .int .i64 fin, .int .i64 val] 28)) := (d2.block _ (by have := Z1.out; omega)).trans P1.out
  have Q2 : Hid (u2.heap[w.heap.size + 1]? = some (.cells #[.slice ca' cl' cc', .int .i64 pc, .slice ra' rl' rc', .slice da' dl' dc', .slice sa' sl' sc', .slice ia' il' ic', .slice oa' ol' oc', .int .i64 steps, .int .i64 fin, .int .i64 val] 28)) := (d2.block _ (by have := Z1.out; omega)).trans Q1.out
  have kb : ∀ j, u2.cell? ⟨w.heap.size, j, none⟩ = (#[.slice ca cl cc, .int .i64 pc, .slice ra rl rc, .slice da dl dc, .slice sa sl sc, .slice ia il ic, .slice oa ol oc, .int .i64 steps, .int .i64 fin, .int .i64 val] : Array Value)[j]? := fun j => cell_of_row u2 w.heap.size j _ 28 (0, 0) P2.out
  have kc : ∀ j, u2.cell? ⟨w.heap.size + 1, j, none⟩ = (#[.slice ca' cl' cc', .int .i64 pc, .slice ra' rl' rc', .slice da' dl' dc', .slice sa' sl' sc', .slice ia' il' ic', .slice oa' ol' oc', .int .i64 steps, .int .i64 fin, .int .i64 val] : Array Value)[j]? := fun j => cell_of_row u2 (w.heap.size + 1) j _ 28 (0, 0) Q2.out
  have B2 : Hid (Below w.heap.size w u2) := B1.out.trans (d2.mono (by have := Z1.out; omega))
  have Z2 : Hid (w.heap.size + 1 < u2.heap.size) := Nat.lt_of_lt_of_le Z1.out d2.size
  clear d2 P1 Q1 B1 Z1
  go_wp2_with fail
  clear kb kc
  refine (eqByteS_any _ _ _ _ _ _ data data u2 (Row.keep Rd.out B2.out) (Row.keep Qd.out B2.out)).mono ?_
  rintro e u3 ⟨rfl, d3⟩
  rw [beq_self_eq_true]
  have P3 : Hid (u3.heap[w.heap.size]? = some (.cells #[.slice ca cl cc, .int .i64 pc, .slice ra rl rc, .slice da dl dc, .slice sa sl sc, .slice ia il ic, .slice oa ol oc, .int .i64 steps, .int .i64 fin, .int .i64 val] 28)) := (d3.block _ (by have := Z2.out; omega)).trans P2.out
  have Q3 : Hid (u3.heap[w.heap.size + 1]? = some (.cells #[.slice ca' cl' cc', .int .i64 pc, .slice ra' rl' rc', .slice da' dl' dc', .slice sa' sl' sc', .slice ia' il' ic', .slice oa' ol' oc', .int .i64 steps, .int .i64 fin, .int .i64 val] 28)) := (d3.block _ (by have := Z2.out; omega)).trans Q2.out
  have kb : ∀ j, u3.cell? ⟨w.heap.size, j, none⟩ = (#[.slice ca cl cc, .int .i64 pc, .slice ra rl rc, .slice da dl dc, .slice sa sl sc, .slice ia il ic, .slice oa ol oc, .int .i64 steps, .int .i64 fin, .int .i64 val] : Array Value)[j]? := fun j => cell_of_row u3 w.heap.size j _ 28 (0, 0) P3.out
  have kc : ∀ j, u3.cell? ⟨w.heap.size + 1, j, none⟩ = (#[.slice ca' cl' cc', .int .i64 pc, .slice ra' rl' rc', .slice da' dl' dc', .slice sa' sl' sc', .slice ia' il' ic', .slice oa' ol' oc', .int .i64 steps, .int .i64 fin, .int .i64 val] : Array Value)[j]? := fun j => cell_of_row u3 (w.heap.size + 1) j _ 28 (0, 0) Q3.out
  have B3 : Hid (Below w.heap.size w u3) := B2.out.trans (d3.mono (by have := Z2.out; omega))
  have Z3 : Hid (w.heap.size + 1 < u3.heap.size) := Nat.lt_of_lt_of_le Z2.out d3.size
  clear d3 P2 Q2 B2 Z2
  go_wp2_with fail
  clear kb kc
  refine (eqByteS_any _ _ _ _ _ _ stk stk u3 (Row.keep Rs.out B3.out) (Row.keep Qs.out B3.out)).mono ?_
  rintro e u4 ⟨rfl, d4⟩
  rw [beq_self_eq_true]
  have P4 : Hid (u4.heap[w.heap.size]? = some (.cells #[.slice ca cl cc, .int .i64 pc, .slice ra rl rc, .slice da dl dc, .slice sa sl sc, .slice ia il ic, .slice oa ol oc, .int .i64 steps, .int .i64 fin, .int .i64 val] 28)) := (d4.block _ (by have := Z3.out; omega)).trans P3.out
  have Q4 : Hid (u4.heap[w.heap.size + 1]? = some (.cells #[.slice ca' cl' cc', .int .i64 pc, .slice ra' rl' rc', .slice da' dl' dc', .slice sa' sl' sc', .slice ia' il' ic', .slice oa' ol' oc', .int .i64 steps, .int .i64 fin, .int .i64 val] 28)) := (d4.block _ (by have := Z3.out; omega)).trans Q3.out
  have kb : ∀ j, u4.cell? ⟨w.heap.size, j, none⟩ = (#[.slice ca cl cc, .int .i64 pc, .slice ra rl rc, .slice da dl dc, .slice sa sl sc, .slice ia il ic, .slice oa ol oc, .int .i64 steps, .int .i64 fin, .int .i64 val] : Array Value)[j]? := fun j => cell_of_row u4 w.heap.size j _ 28 (0, 0) P4.out
  have kc : ∀ j, u4.cell? ⟨w.heap.size + 1, j, none⟩ = (#[.slice ca' cl' cc', .int .i64 pc, .slice ra' rl' rc', .slice da' dl' dc', .slice sa' sl' sc', .slice ia' il' ic', .slice oa' ol' oc', .int .i64 steps, .int .i64 fin, .int .i64 val] : Array Value)[j]? := fun j => cell_of_row u4 (w.heap.size + 1) j _ 28 (0, 0) Q4.out
  have B4 : Hid (Below w.heap.size w u4) := B3.out.trans (d4.mono (by have := Z3.out; omega))
  have Z4 : Hid (w.heap.size + 1 < u4.heap.size) := Nat.lt_of_lt_of_le Z3.out d4.size
  clear d4 P3 Q3 B3 Z3
  go_wp2_with fail
  clear kb kc
  refine (eqByteS_any _ _ _ _ _ _ inp inp u4 (Row.keep Ri.out B4.out) (Row.keep Qi.out B4.out)).mono ?_
  rintro e u5 ⟨rfl, d5⟩
  rw [beq_self_eq_true]
  have P5 : Hid (u5.heap[w.heap.size]? = some (.cells #[.slice ca cl cc, .int .i64 pc, .slice ra rl rc, .slice da dl dc, .slice sa sl sc, .slice ia il ic, .slice oa ol oc, .int .i64 steps, .int .i64 fin, .int .i64 val] 28)) := (d5.block _ (by have := Z4.out; omega)).trans P4.out
  have Q5 : Hid (u5.heap[w.heap.size + 1]? = some (.cells #[.slice ca' cl' cc', .int .i64 pc, .slice ra' rl' rc', .slice da' dl' dc', .slice sa' sl' sc', .slice ia' il' ic', .slice oa' ol' oc', .int .i64 steps, .int .i64 fin, .int .i64 val] 28)) := (d5.block _ (by have := Z4.out; omega)).trans Q4.out
  have kb : ∀ j, u5.cell? ⟨w.heap.size, j, none⟩ = (#[.slice ca cl cc, .int .i64 pc, .slice ra rl rc, .slice da dl dc, .slice sa sl sc, .slice ia il ic, .slice oa ol oc, .int .i64 steps, .int .i64 fin, .int .i64 val] : Array Value)[j]? := fun j => cell_of_row u5 w.heap.size j _ 28 (0, 0) P5.out
  have kc : ∀ j, u5.cell? ⟨w.heap.size + 1, j, none⟩ = (#[.slice ca' cl' cc', .int .i64 pc, .slice ra' rl' rc', .slice da' dl' dc', .slice sa' sl' sc', .slice ia' il' ic', .slice oa' ol' oc', .int .i64 steps, .int .i64 fin, .int .i64 val] : Array Value)[j]? := fun j => cell_of_row u5 (w.heap.size + 1) j _ 28 (0, 0) Q5.out
  have B5 : Hid (Below w.heap.size w u5) := B4.out.trans (d5.mono (by have := Z4.out; omega))
  have Z5 : Hid (w.heap.size + 1 < u5.heap.size) := Nat.lt_of_lt_of_le Z4.out d5.size
  clear d5 P4 Q4 B4 Z4
  go_wp2_with fail
  clear kb kc
  refine (eqByteS_any _ _ _ _ _ _ out out u5 (Row.keep Ro.out B5.out) (Row.keep Qo.out B5.out)).mono ?_
  rintro e u6 ⟨rfl, d6⟩
  rw [beq_self_eq_true]
  have P6 : Hid (u6.heap[w.heap.size]? = some (.cells #[.slice ca cl cc, .int .i64 pc, .slice ra rl rc, .slice da dl dc, .slice sa sl sc, .slice ia il ic, .slice oa ol oc, .int .i64 steps, .int .i64 fin, .int .i64 val] 28)) := (d6.block _ (by have := Z5.out; omega)).trans P5.out
  have Q6 : Hid (u6.heap[w.heap.size + 1]? = some (.cells #[.slice ca' cl' cc', .int .i64 pc, .slice ra' rl' rc', .slice da' dl' dc', .slice sa' sl' sc', .slice ia' il' ic', .slice oa' ol' oc', .int .i64 steps, .int .i64 fin, .int .i64 val] 28)) := (d6.block _ (by have := Z5.out; omega)).trans Q5.out
  have kb : ∀ j, u6.cell? ⟨w.heap.size, j, none⟩ = (#[.slice ca cl cc, .int .i64 pc, .slice ra rl rc, .slice da dl dc, .slice sa sl sc, .slice ia il ic, .slice oa ol oc, .int .i64 steps, .int .i64 fin, .int .i64 val] : Array Value)[j]? := fun j => cell_of_row u6 w.heap.size j _ 28 (0, 0) P6.out
  have kc : ∀ j, u6.cell? ⟨w.heap.size + 1, j, none⟩ = (#[.slice ca' cl' cc', .int .i64 pc, .slice ra' rl' rc', .slice da' dl' dc', .slice sa' sl' sc', .slice ia' il' ic', .slice oa' ol' oc', .int .i64 steps, .int .i64 fin, .int .i64 val] : Array Value)[j]? := fun j => cell_of_row u6 (w.heap.size + 1) j _ 28 (0, 0) Q6.out
  have B6 : Hid (Below w.heap.size w u6) := B5.out.trans (d6.mono (by have := Z5.out; omega))
  have Z6 : Hid (w.heap.size + 1 < u6.heap.size) := Nat.lt_of_lt_of_le Z5.out d6.size
  clear d6 P5 Q5 B5 Z5
  go_wp2
  go_ret
  exact ⟨rfl, B6.out⟩
end Go.Proofs.Ytgopdicmmglakaa.W
