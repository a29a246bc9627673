import Derived.Test.YtomhmjhcbencmaaDoorInsB
import Derived.Test.YtomhmjhcbencmaaDoorInvM
import Derived.Test.YtomhmjhcbencmaaDoorDecT
set_option linter.unusedVariables false
set_option linter.unusedSimpArgs false
namespace Go.Proofs.YtomhmjhcbencmaaDoor.W
open Go.RowKit
/-- the word of an instruction, 0 of none -/
def ew (n rd r1 r2 im : Int) : Int := if iok n rd r1 r2 im then Pl.enc n.toNat rd r1 r2 im else 0
theorem iok_nat {n rd r1 r2 im : Int} (h : iok n rd r1 r2 im = true) : ∃ k : Nat, n = k ∧ 1 ≤ k ∧ k ≤ 47 ∧ Pl.okF (Pl.fmN k) rd r1 r2 im = true := by
  unfold iok at h
  rw [Bool.and_eq_true, decide_eq_true_eq] at h
  exact ⟨n.toNat, by omega, by omega, by omega, h.2⟩
theorem specEnc_all (n rd r1 r2 im : Int) (w : World) : Calls Tryd.prog 6 #[.agg #[.int .i64 n, .int .i64 rd, .int .i64 r1, .int .i64 r2, .int .i64 im]] w fun e w' => e = .returned (.tuple #[.int .i64 (ew n rd r1 r2 im), .bool (iok n rd r1 r2 im)]) ∧ Below w.heap.size w w' := by
  cases h : iok n rd r1 r2 im
  · have e : ew n rd r1 r2 im = 0 := by unfold ew; rw [h]; rfl
    rw [e]
    exact specEnc_no n rd r1 r2 im h w
  · have e : ew n rd r1 r2 im = Pl.enc n.toNat rd r1 r2 im := by unfold ew; rw [h]; rfl
    rw [e]
    obtain ⟨k, rfl, k1, k2, _⟩ := iok_nat h
    exact specEnc_yes k k1 k2 rd r1 r2 im h w
theorem implEnc_all (n rd r1 r2 im : Int) (w : World) : Calls Tryd.prog 7 #[.agg #[.int .i64 n, .int .i64 rd, .int .i64 r1, .int .i64 r2, .int .i64 im]] w fun e w' => e = .returned (.tuple #[.int .i64 (ew n rd r1 r2 im), .bool (iok n rd r1 r2 im)]) ∧ Below w.heap.size w w' := by
  cases h : iok n rd r1 r2 im
  · have e : ew n rd r1 r2 im = 0 := by unfold ew; rw [h]; rfl
    rw [e]
    exact implEnc_no n rd r1 r2 im h w
  · have e : ew n rd r1 r2 im = Pl.enc n.toNat rd r1 r2 im := by unfold ew; rw [h]; rfl
    rw [e]
    obtain ⟨k, rfl, k1, k2, _⟩ := iok_nat h
    exact implEnc_at k k1 k2 rd r1 r2 im h w
theorem IsBytes.below {w w' : World} {a : Option Addr} {len cap : Nat} (h : IsBytes w a len cap) (hb : Below w.heap.size w w') : IsBytes w' a len cap := by
  obtain ⟨h1, h2, h3⟩ := h
  refine ⟨h1, h2, ?_⟩
  rcases h3 with h3 | ⟨b, off, ha, hlt, hby⟩
  · exact .inl h3
  · refine .inr ⟨b, off, ha, Nat.lt_of_lt_of_le hlt hb.size, fun i hi => ?_⟩
    obtain ⟨v, hv, hc⟩ := hby i hi
    exact ⟨v, hv, (hb.cell (p := ⟨b, off + i, none⟩) hlt).trans hc⟩
theorem RdOk.below {w w' : World} {c : Nat} (h : RdOk w c) (hb : Below w.heap.size w w') : RdOk w' c := by
  have hlt := h.lt
  obtain ⟨a, len, cap, p, hrow, hl, hp, hby⟩ := h
  refine ⟨a, len, cap, p, (hb.block c hlt).trans hrow, hl, hp, ?_⟩
  rcases hby with h0 | ⟨b, off, ha, hbc, hby⟩
  · exact .inl h0
  · refine .inr ⟨b, off, ha, hbc, fun i hi => ?_⟩
    obtain ⟨v, hv, hc⟩ := hby i hi
    exact ⟨v, hv, (hb.cell (p := ⟨b, off + i, none⟩) (by show b < w.heap.size; omega)).trans hc⟩
set_option maxHeartbeats 1000000 in
theorem drawEnc_any (w : World) (a : Option Addr) (len cap : Nat) (h : IsBytes w a len cap) : Calls Tryd.prog 5 #[.slice a len cap] w fun e w' => ∃ op rd r1 r2 im : Int, e = .returned (.agg #[.int .i64 op, .int .i64 rd, .int .i64 r1, .int .i64 r2, .int .i64 im]) ∧ Below w.heap.size w w' := by
  have HI : Hid (IsBytes w a len cap) := h
  clear h
  go_enter Tryd.func5, Tryd.ntmps5
  go_wp2_with fail
  refine (open_any _ a len cap (HI.out.below ((Below.refl _ _).alloc (Nat.le_refl _) _))).mono ?_
  rintro e u1 ⟨rfl, R1, B1⟩
  have hrow : u1.heap[w.heap.size]? = some (.cells #[.int .i64 0, .int .i64 0, .int .i64 0, .int .i64 0, .int .i64 0] 24) := kept_row B1
  have B1' : Below w.heap.size w u1 := ((Below.refl _ _).alloc (Nat.le_refl _) _).trans (B1.mono (by simp))
  have R1' : Hid (RdOk u1 (w.alloc (.cells #[.int .i64 0, .int .i64 0, .int .i64 0, .int .i64 0, .int .i64 0] 24)).heap.size) := R1
  clear R1 B1 HI
  go_wp2_with fail
  refine (inst_any u1 _ (by simpa using R1'.out)).mono ?_
  rintro e u2 ⟨op, rd, r1, r2, im, rfl, R2, B2⟩
  have hrow2 : u2.heap[w.heap.size]? = some (.cells #[.int .i64 0, .int .i64 0, .int .i64 0, .int .i64 0, .int .i64 0] 24) := (B2.block _ (by simp)).trans hrow
  have B2' : Hid (Below w.heap.size w u2) := B1'.trans (B2.mono (by simp))
  clear R2 B2 hrow B1' R1'
  go_wp2_with (refine wpList_store_row rfl 24 _ _ rfl w.heap.size #[.int .i64 op, .int .i64 rd, .int .i64 r1, .int .i64 r2, .int .i64 im] ?hx ?hy 24 #[.int .i64 0, .int .i64 0, .int .i64 0, .int .i64 0, .int .i64 0] ?hg ?hi ?ho ?h1 ?_; (case hx => rfl); (case hy => rfl); (case hg => exact hrow2); (case hi => kernel_rfl); (case ho => kernel_rfl); (case h1 => kernel_rfl); refine Hid.out ?_)
  unfold Hid
  go_wp2
  exact bodyPost_ret (v := .agg #[.int .i64 op, .int .i64 rd, .int .i64 r1, .int .i64 r2, .int .i64 im]) (results_cell_row Tryd.results5 _ _ w.heap.size 24 #[.int .i64 op, .int .i64 rd, .int .i64 r1, .int .i64 r2, .int .i64 im] (0, 0) _ rfl (setRow_heap _ _ _ _ 24 _ hrow2) Tryd.underlying24 rfl (by kernel_rfl)) rfl ⟨op, rd, r1, r2, im, rfl, below_setRow' B2'.out (Nat.le_refl _) _⟩
set_option maxHeartbeats 1000000 in
theorem drawDec_any (w : World) (a : Option Addr) (len cap : Nat) (h : IsBytes w a len cap) : Calls Tryd.prog 14 #[.slice a len cap] w fun e w' => ∃ n : Int, e = .returned (.int .i64 n) ∧ Below w.heap.size w w' := by
  have HI : Hid (IsBytes w a len cap) := h
  clear h
  go_enter Tryd.func14, Tryd.ntmps14
  go_wp2_with fail
  refine (open_any _ a len cap HI.out).mono ?_
  rintro e u1 ⟨rfl, R1, B1⟩
  have R1' : Hid (RdOk u1 w.heap.size) := R1
  clear R1 HI
  obtain ⟨c, hc⟩ : ∃ c, c = w.heap.size := ⟨_, rfl⟩
  rw [← hc] at R1' ⊢
  have B1' : Hid (Below c w u1) := by show Below c w u1; rw [hc]; exact B1
  have HC : Hid (c = w.heap.size) := hc
  clear hc B1
  go_wp2_with fail
  refine (inst_any u1 c R1'.out).mono ?_
  rintro e u2 ⟨op, rd, r1, r2, im, rfl, R2, B2⟩
  have R2' : Hid (RdOk u2 c) := R2
  have B2' : Hid (Below c w u2) := B1'.out.trans B2
  clear R2 B2 B1' R1'
  go_wp2_with fail
  refine (specEnc_all op rd r1 r2 im _).mono ?_
  rintro e u3 ⟨rfl, B3⟩
  have R3' : Hid (RdOk u3 c) := R2'.out.below B3
  have B3' : Hid (Below c w u3) := B2'.out.trans (B3.mono (Nat.le_of_lt R2'.out.lt))
  clear B3 R2' B2'
  go_wp2_with fail
  refine (next_any _ c R3'.out).mono ?_
  rintro e u4 ⟨k, rfl, hk, R4, B4⟩
  have R4' : Hid (RdOk u4 c) := R4
  have B4' : Hid (Below c w u4) := B3'.out.trans B4
  clear R4 B4 R3' B3'
  obtain ⟨x, hx⟩ : ∃ x, x = ew op rd r1 r2 im := ⟨_, rfl⟩
  rw [← hx]
  clear hx
  by_cases hk4 : k % 4 = 3
  · have e1 : ((k : Int) % 4 == 3) = true := by simp; omega
    have e2 : ((k : Int) == 4) = false := by simp; omega
    clear hk4
    go_wp2_with fail
    refine (next_any _ c R4'.out).mono ?_
    rintro e u5 ⟨m, rfl, hm, R5, B5⟩
    have B5' : Hid (Below c w u5) := B4'.out.trans B5
    clear R5 B5 R4' B4'
    go_wp2_with (go_at_call 45; refine (specPower_any _ (m % 32) (by omega) (by omega) _).mono ?_; rintro e u6 ⟨rfl, h6⟩; rw [h6]; clear h6)
    all_goals
      go_ret
      exact ⟨_, rfl, by rw [← HC.out]; exact B5'.out⟩
  · have e1 : ((k : Int) % 4 == 3) = false := by simp; omega
    clear hk4
    go_wp2
    all_goals
      go_ret
      exact ⟨_, rfl, by rw [← HC.out]; exact B4'.out⟩
end Go.Proofs.YtomhmjhcbencmaaDoor.W
