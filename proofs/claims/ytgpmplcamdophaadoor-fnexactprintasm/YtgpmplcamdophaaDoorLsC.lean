import Derived.Test.YtgpmplcamdophaaDoorLsB
set_option linter.unusedVariables false
set_option linter.unusedSimpArgs false
namespace Go.Proofs.YtgpmplcamdophaaDoor.W
open Go.RowKit
theorem calls_at7 {P : Program} {f : Nat} {args : Array Value} {W : World} {Q : Ending → World → Prop} (h : ∀ U, U = W → Calls P f args U Q) : Calls P f args W Q := h W rfl
set_option maxHeartbeats 1000000 in
theorem eqInst5_same (x0 x1 x2 x3 x4 : Int) (w : World) : Calls Tryd.prog 48 #[.agg #[.int .i64 x0, .int .i64 x1, .int .i64 x2, .int .i64 x3, .int .i64 x4], .agg #[.int .i64 x0, .int .i64 x1, .int .i64 x2, .int .i64 x3, .int .i64 x4]] w fun e w' => e = .returned (.bool true) ∧ Below w.heap.size w w' := by
  go_enter Tryd.func48, Tryd.ntmps48
  go_wp2
  go_ret
  exact ⟨rfl, ((Below.refl _ _).alloc (Nat.le_refl _) _).alloc (by simp) _⟩
set_option maxHeartbeats 2000000 in
theorem eqLine_same (x : Pl.Ln) (w : World) : Calls Tryd.prog 24 #[.agg #[.int .i64 x.k, .int .i64 x.op, .int .i64 x.rd, .int .i64 x.r1, .int .i64 x.r2, .int .i64 x.im, .string x.s, .int .i64 x.n], .agg #[.int .i64 x.k, .int .i64 x.op, .int .i64 x.rd, .int .i64 x.r1, .int .i64 x.r2, .int .i64 x.im, .string x.s, .int .i64 x.n]] w fun e w' => e = .returned (.bool true) ∧ Below w.heap.size w w' := by
  go_enter Tryd.func24, Tryd.ntmps24
  go_wp2_with fail
  refine calls_at7 fun u0 hu0 => ?_
  have p0 : u0.heap[w.heap.size]? = some (.cells #[.int .i64 x.k, .int .i64 x.op, .int .i64 x.rd, .int .i64 x.r1, .int .i64 x.r2, .int .i64 x.im, .string x.s, .int .i64 x.n] 46) := by
    rw [hu0, Below.heap_alloc _ _ _ (by simp)]
    exact heap_alloc_new w _
  have q0 : u0.heap[w.heap.size + 1]? = some (.cells #[.int .i64 x.k, .int .i64 x.op, .int .i64 x.rd, .int .i64 x.r1, .int .i64 x.r2, .int .i64 x.im, .string x.s, .int .i64 x.n] 46) := by
    rw [hu0]
    have := heap_alloc_new (w.alloc (.cells #[.int .i64 x.k, .int .i64 x.op, .int .i64 x.rd, .int .i64 x.r1, .int .i64 x.r2, .int .i64 x.im, .string x.s, .int .i64 x.n] 46)) (.cells #[.int .i64 x.k, .int .i64 x.op, .int .i64 x.rd, .int .i64 x.r1, .int .i64 x.r2, .int .i64 x.im, .string x.s, .int .i64 x.n] 46)
    simpa using this
  have hb : Below w.heap.size w u0 := by
    rw [hu0]
    exact ((Below.refl _ _).alloc (Nat.le_refl _) _).alloc (by simp) _
  have hz : w.heap.size + 1 < u0.heap.size := by rw [hu0]; simp
  clear hu0
  refine (eqInst5_same _ _ _ _ _ u0).mono ?_
  rintro e u1 ⟨rfl, d1⟩
  have P1 := (d1.block _ (by omega)).trans p0
  have Q1 := (d1.block _ (by omega)).trans q0
  have kb : ∀ j, u1.cell? ⟨w.heap.size, j, none⟩ = (#[.int .i64 x.k, .int .i64 x.op, .int .i64 x.rd, .int .i64 x.r1, .int .i64 x.r2, .int .i64 x.im, .string x.s, .int .i64 x.n] : Array Value)[j]? := fun j => cell_of_row u1 w.heap.size j _ 46 (0, 0) P1
  have kc : ∀ j, u1.cell? ⟨w.heap.size + 1, j, none⟩ = (#[.int .i64 x.k, .int .i64 x.op, .int .i64 x.rd, .int .i64 x.r1, .int .i64 x.r2, .int .i64 x.im, .string x.s, .int .i64 x.n] : Array Value)[j]? := fun j => cell_of_row u1 (w.heap.size + 1) j _ 46 (0, 0) Q1
  have B1 : Hid (Below w.heap.size w u1) := hb.trans (d1.mono (by omega))
  clear d1 p0 q0 hb hz P1 Q1
  go_wp2
  go_ret
  exact ⟨rfl, B1.out⟩
set_option maxRecDepth 4000 in
set_option maxHeartbeats 4000000 in
theorem eqLineS_same {lo1 lo2 : Nat} (a a' : Option Addr) (len cap cap' : Nat) (xs : List Pl.Ln) (w : World) (h : LRow lo1 w a len cap xs) (h' : LRow lo2 w a' len cap' xs) : Calls Tryd.prog 12 #[.slice a len cap, .slice a' len cap'] w fun e w' => e = .returned (.bool true) ∧ Below w.heap.size w w' := by
  obtain ⟨h1, h2, h3, h4⟩ := h
  obtain ⟨_, h2', h3', h4'⟩ := h'
  have hm : (len : Int) ≤ 9223372036854775807 := by unfold maxLen at h3; omega
  have H4 : Hid (len = 0 ∨ ∃ b off, a = some ⟨b, off, none⟩ ∧ lo1 ≤ b ∧ b < w.heap.size ∧ ∀ i, i < len → ∀ j, j < 8 → w.cell? ⟨b, off + i * 8 + j, none⟩ = (xs.getD i Pl.Ln.zero).cells[j]?) := h4
  have H5 : Hid (len = 0 ∨ ∃ b off, a' = some ⟨b, off, none⟩ ∧ lo2 ≤ b ∧ b < w.heap.size ∧ ∀ i, i < len → ∀ j, j < 8 → w.cell? ⟨b, off + i * 8 + j, none⟩ = (xs.getD i Pl.Ln.zero).cells[j]?) := h4'
  clear h4 h4' h1
  go_enter Tryd.func12, Tryd.ntmps12
  go_wp2_with fail
  go_loopw [5] (fun i wr => ∃ k : Nat, k ≤ len ∧ i = .int .i64 k ∧ Below w.heap.size w wr) (fun i _ => len - (intOf i).toNat)
  case atStart => exact ⟨0, Nat.zero_le _, rfl, Below.refl _ _⟩
  case round =>
    obtain ⟨k, hk, rfl, hbel⟩ := hrel
    have HB : Hid (Below w.heap.size w wr) := hbel
    clear hbel
    by_cases hlt : k < len
    · have hi : (k : Int) < (len : Int) := by omega
      obtain ⟨b, off, rfl, hlo, hb1, hcell⟩ : ∃ b off, a = some ⟨b, off, none⟩ ∧ lo1 ≤ b ∧ b < w.heap.size ∧ ∀ i, i < len → ∀ j, j < 8 → w.cell? ⟨b, off + i * 8 + j, none⟩ = (xs.getD i Pl.Ln.zero).cells[j]? := by
        rcases H4.out with h | h
        · omega
        · exact h
      obtain ⟨b', off', rfl, hlo', hb1', hcell'⟩ : ∃ b off, a' = some ⟨b, off, none⟩ ∧ lo2 ≤ b ∧ b < w.heap.size ∧ ∀ i, i < len → ∀ j, j < 8 → w.cell? ⟨b, off + i * 8 + j, none⟩ = (xs.getD i Pl.Ln.zero).cells[j]? := by
        rcases H5.out with h | h
        · omega
        · exact h
      obtain ⟨x, hx⟩ : ∃ x, x = xs.getD k Pl.Ln.zero := ⟨_, rfl⟩
      have hc : ∀ j, j < 8 → wr.cell? ⟨b, off + k * 8 + j, none⟩ = x.cells[j]? := fun j hj => by rw [hx]; exact (HB.out.cell (p := ⟨b, off + k * 8 + j, none⟩) hb1).trans (hcell k hlt j hj)
      have c0 : wr.cell? ⟨b, off + k * 8, none⟩ = some (.int .i64 x.k) := hc 0 (by decide)
      have c1 : wr.cell? ⟨b, off + k * 8 + 1, none⟩ = some (.int .i64 x.op) := hc 1 (by decide)
      have c2 : wr.cell? ⟨b, off + k * 8 + 2, none⟩ = some (.int .i64 x.rd) := hc 2 (by decide)
      have c3 : wr.cell? ⟨b, off + k * 8 + 3, none⟩ = some (.int .i64 x.r1) := hc 3 (by decide)
      have c4 : wr.cell? ⟨b, off + k * 8 + 4, none⟩ = some (.int .i64 x.r2) := hc 4 (by decide)
      have c5 : wr.cell? ⟨b, off + k * 8 + 5, none⟩ = some (.int .i64 x.im) := hc 5 (by decide)
      have c6 : wr.cell? ⟨b, off + k * 8 + 6, none⟩ = some (.string x.s) := hc 6 (by decide)
      have c7 : wr.cell? ⟨b, off + k * 8 + 7, none⟩ = some (.int .i64 x.n) := hc 7 (by decide)
      have he : ∀ j, j < 8 → wr.cell? ⟨b', off' + k * 8 + j, none⟩ = x.cells[j]? := fun j hj => by rw [hx]; exact (HB.out.cell (p := ⟨b', off' + k * 8 + j, none⟩) hb1').trans (hcell' k hlt j hj)
      have e0 : wr.cell? ⟨b', off' + k * 8, none⟩ = some (.int .i64 x.k) := he 0 (by decide)
      have e1 : wr.cell? ⟨b', off' + k * 8 + 1, none⟩ = some (.int .i64 x.op) := he 1 (by decide)
      have e2 : wr.cell? ⟨b', off' + k * 8 + 2, none⟩ = some (.int .i64 x.rd) := he 2 (by decide)
      have e3 : wr.cell? ⟨b', off' + k * 8 + 3, none⟩ = some (.int .i64 x.r1) := he 3 (by decide)
      have e4 : wr.cell? ⟨b', off' + k * 8 + 4, none⟩ = some (.int .i64 x.r2) := he 4 (by decide)
      have e5 : wr.cell? ⟨b', off' + k * 8 + 5, none⟩ = some (.int .i64 x.im) := he 5 (by decide)
      have e6 : wr.cell? ⟨b', off' + k * 8 + 6, none⟩ = some (.string x.s) := he 6 (by decide)
      have e7 : wr.cell? ⟨b', off' + k * 8 + 7, none⟩ = some (.int .i64 x.n) := he 7 (by decide)
      clear hc he hcell hcell' hx
      have hU := Tryd.underlying46
      go_wp2_with fail
      go_region_with (go_at_call 24; refine (eqLine_same x _).mono ?_; rintro e u1 ⟨rfl, d1⟩)
      all_goals
        have D1 : Hid _ := d1
        clear d1 c0 c1 c2 c3 c4 c5 c6 c7 e0 e1 e2 e3 e4 e5 e6 e7
        go_wp2_with fail
        go_roundw
        case rel => exact ⟨k + 1, by omega, by go_num, Below.trans (by repeat (first | exact HB.out | refine Below.drew ?_ | refine below_drewN ?_ _)) (D1.out.mono HB.out.size)⟩
        case measure => simp [intOf]; omega
    · have hkk : k = len := by omega
      have hi : ¬ ((k : Int) < (len : Int)) := by omega
      go_wp2
      go_ret
      exact ⟨rfl, HB.out⟩
end Go.Proofs.YtgpmplcamdophaaDoor.W
