import Derived.Test.YtgopdicmmglakaaDecR
import Derived.Test.YtgopdicmmglakaaMacB
import Derived.Test.YtgopdicmmglakaaMacM
import Derived.ChangeKeysEq
import Derived.Laws.StructEq
import Derived.Deep.RegionWith
set_option linter.unusedVariables false
namespace Go.Proofs.Ytgopdicmmglakaa.W
open Go.RowKit
theorem part_byte (xs : Array Value) (j : Nat) (v : Value) (h : xs[j]? = some v) (w : World) : (part 5 xs j).run Try.prog w = .ok v w := by
  obtain ⟨i0, hi, hz0, hz1, hz2⟩ := info_parts Try.infou8
  simp [part, sizeOf, typeInfo, hi, hz1, h]
theorem eq4 (a0 a1 a2 a3 b0 b1 b2 b3 : Int) (w : World) : (binOp .eql 61 (.agg #[.int .u8 a0, .int .u8 a1, .int .u8 a2, .int .u8 a3]) (.agg #[.int .u8 b0, .int .u8 b1, .int .u8 b2, .int .u8 b3])).run Try.prog w = .ok (.bool (a0 == b0 && (a1 == b1 && (a2 == b2 && a3 == b3)))) w := by
  obtain ⟨i0, hi, hz0, hz1, hz2⟩ := info_parts Try.infou8
  have h5 : Try.prog.cellsOf 5 = 1 := by kernel_rfl
  have p : ∀ (x0 x1 x2 x3 : Int) (w : World), (part 5 #[.int .u8 x0, .int .u8 x1, .int .u8 x2, .int .u8 x3] 0).run Try.prog w = .ok (.int .u8 x0) w ∧ (part 5 #[.int .u8 x0, .int .u8 x1, .int .u8 x2, .int .u8 x3] 1).run Try.prog w = .ok (.int .u8 x1) w ∧ (part 5 #[.int .u8 x0, .int .u8 x1, .int .u8 x2, .int .u8 x3] 2).run Try.prog w = .ok (.int .u8 x2) w ∧ (part 5 #[.int .u8 x0, .int .u8 x1, .int .u8 x2, .int .u8 x3] 3).run Try.prog w = .ok (.int .u8 x3) w :=
    fun x0 x1 x2 x3 w => ⟨part_byte _ 0 (.int .u8 x0) rfl w, part_byte _ 1 (.int .u8 x1) rfl w, part_byte _ 2 (.int .u8 x2) rfl w, part_byte _ 3 (.int .u8 x3) rfl w⟩
  rw [run_eql_struct, show (10000 : Nat) = 9998 + 1 + 1 from rfl, run_equalIn_array w (9998 + 1) _ _ Try.underlying61 hi, h5]
  rw [show List.range 4 = [0, 1, 2, 3] from rfl]
  simp only [Op.eqItems, Sem.run_bind, Nat.mul_one, (p _ _ _ _ _).1, Result.andThen_ok, run_equalIn_int _ _ _ _ _ _ _ Try.underlying5]
  cases a0 == b0 <;> simp only [Bool.not_false, Bool.not_true, if_true, Bool.false_eq_true, if_false, Sem.run_pure, Sem.run_bind, Result.andThen_ok, Bool.false_and, Bool.true_and, (p _ _ _ _ _).2.1, run_equalIn_int _ _ _ _ _ _ _ Try.underlying5]
  cases a1 == b1 <;> simp only [Bool.not_false, Bool.not_true, if_true, Bool.false_eq_true, if_false, Sem.run_pure, Sem.run_bind, Result.andThen_ok, Bool.false_and, Bool.true_and, (p _ _ _ _ _).2.2.1, run_equalIn_int _ _ _ _ _ _ _ Try.underlying5]
  cases a2 == b2 <;> simp only [Bool.not_false, Bool.not_true, if_true, Bool.false_eq_true, if_false, Sem.run_pure, Sem.run_bind, Result.andThen_ok, Bool.false_and, Bool.true_and, (p _ _ _ _ _).2.2.2, run_equalIn_int _ _ _ _ _ _ _ Try.underlying5]
  cases a3 == b3 <;> simp only [Bool.not_false, Bool.not_true, if_true, Bool.false_eq_true, if_false, Sem.run_pure, Result.andThen_ok]
theorem eq4_in (a0 a1 a2 a3 b0 b1 b2 b3 : Int) (w : World) : (Op.equalIn 10000 61 (.agg #[.int .u8 a0, .int .u8 a1, .int .u8 a2, .int .u8 a3]) (.agg #[.int .u8 b0, .int .u8 b1, .int .u8 b2, .int .u8 b3])).run Try.prog w = .ok (a0 == b0 && (a1 == b1 && (a2 == b2 && a3 == b3))) w := by
  have h := eq4 a0 a1 a2 a3 b0 b1 b2 b3 w
  rw [run_eql_struct] at h
  generalize (Op.equalIn 10000 61 (.agg #[.int .u8 a0, .int .u8 a1, .int .u8 a2, .int .u8 a3]) (.agg #[.int .u8 b0, .int .u8 b1, .int .u8 b2, .int .u8 b3])).run Try.prog w = r at h
  cases r with
  | ok b w1 => simp only [Result.andThen_ok, Result.ok.injEq, Value.bool.injEq] at h; rw [h.1, h.2]
  | halt x w1 => simp [Result.andThen] at h
theorem fits_eq (k : Nat) (n : Int) : (Pl.cc k 0 == Pl.rf (Pl.fmN k) n 0 && (Pl.cc k 1 == Pl.rf (Pl.fmN k) n 1 && (Pl.cc k 2 == Pl.rf (Pl.fmN k) n 2 && Pl.cc k 3 == Pl.rf (Pl.fmN k) n 3))) = Pl.fits k n := by
  unfold Pl.fits
  simp only [Bool.and_assoc]
  rfl
set_option maxRecDepth 100000 in
set_option maxHeartbeats 4000000 in
theorem opOfWord_any (n : Int) (w : World) :
    Calls Try.prog 40 #[.int .i64 n] w fun e w' => (∃ k : Nat, k ≤ 47 ∧ e = .returned (.int .i64 (k : Int)) ∧ (k = 0 → ∀ j, 1 ≤ j → j ≤ 47 → Pl.fits j n = false) ∧ (1 ≤ k → Pl.fits k n = true)) ∧ Below w.heap.size w w' := by
  go_enter Try.func40, Try.ntmps40
  go_wp2_with (go_at_call 60; refine (instTable_any _).mono ?_; rintro e w' ⟨rfl, rfl⟩)
  go_loopw [6] (fun i wr => ∃ k : Nat, k ≤ 48 ∧ i = .int .i64 k ∧ (∀ j, 1 ≤ j → j < k → Pl.fits j n = false) ∧ Below w.heap.size w wr) (fun i _ => 48 - (intOf i).toNat)
  case atStart => exact ⟨0, by decide, rfl, fun j h1 h2 => absurd h2 (Nat.not_lt_zero _), below_alloc _ _⟩
  case round =>
    obtain ⟨k, hk, rfl, hall, hb⟩ := hrel
    have HA : Hid (∀ j, 1 ≤ j → j < k → Pl.fits j n = false) := hall
    have HB : Hid (Below w.heap.size w wr) := hb
    have HZ : Hid (w.heap.size ≤ wr.heap.size) := hb.size
    clear hall hb
    by_cases hlt : k < 48
    · have hi := fun w => tab_index w k hlt
      unfold Pl.rowV at hi
      go_wp2_with (refine wpList_store_row rfl 63 _ _ rfl wr.heap.size #[.string (Pl.nm k), .int .i64 (Pl.fm k), .int .u8 (Pl.cc k 0), .int .u8 (Pl.cc k 1), .int .u8 (Pl.cc k 2), .int .u8 (Pl.cc k 3)] ?hx ?hy 63 #[.string ByteArray.empty, .int .i64 0, .int .u8 0, .int .u8 0, .int .u8 0, .int .u8 0] ?hg ?hi ?ho ?h1 ?_; (case hx => rfl); (case hy => rfl); (case hg => exact heap_alloc_new wr _); (case hi => kernel_rfl); (case ho => kernel_rfl); (case h1 => kernel_rfl); refine Hid.out ?_)
      unfold Hid
      rw [World.setRow_alloc_new]
      refine wpList_at fun u1 hu1 => ?_
      have B1 : Hid (Below w.heap.size w u1) := by show Below w.heap.size w u1; rw [hu1]; exact HB.out.alloc HZ.out _
      have Y1 : Hid (u1.heap[wr.heap.size]? = some (.cells #[.string (Pl.nm k), .int .i64 (Pl.fm k), .int .u8 (Pl.cc k 0), .int .u8 (Pl.cc k 1), .int .u8 (Pl.cc k 2), .int .u8 (Pl.cc k 3)] 63)) := by show u1.heap[wr.heap.size]? = _; rw [hu1]; exact heap_alloc_new wr _
      have Z1 : Hid (w.heap.size ≤ u1.heap.size) := by show w.heap.size ≤ u1.heap.size; rw [hu1]; have := HZ.out; simp; omega
      clear hu1 HB HZ hi
      obtain ⟨g, hg⟩ : ∃ g, g = wr.heap.size := ⟨_, rfl⟩
      rw [← hg] at Y1 ⊢
      clear hg
      have ky : ∀ j, u1.cell? ⟨g, j, none⟩ = (#[.string (Pl.nm k), .int .i64 (Pl.fm k), .int .u8 (Pl.cc k 0), .int .u8 (Pl.cc k 1), .int .u8 (Pl.cc k 2), .int .u8 (Pl.cc k 3)] : Array Value)[j]? := fun j => cell_of_row u1 g j _ 63 (0, 0) Y1.out
      by_cases hk0 : k = 0
      · subst hk0
        go_wp2_with fail
        go_quiet (fail)
        go_wp2
        go_roundw
        case rel =>
          refine ⟨1, by decide, rfl, fun j h1 h2 => absurd h2 (by omega), ?_⟩
          repeat (first | exact B1.out | refine Below.drew ?_ | refine below_drewN ?_ _)
        case measure => simp [intOf]
      · obtain ⟨f1, f2, f3⟩ := fm_at k (by omega) (by omega)
        have HF : Hid (Pl.fm k = (Pl.fmN k : Int)) := f3
        clear f3
        have hm : Try.prog.eqGuardType Try.prog.depth 61 = false := by kernel_rfl
        have hpos : 0 < k := by omega
        have hpos' : decide (0 < k) = true := decide_eq_true hpos
        cases hfit : Pl.fits k n
        · have h4 : ∀ w, (Op.equalIn 10000 61 (.agg #[.int .u8 (Pl.cc k 0), .int .u8 (Pl.cc k 1), .int .u8 (Pl.cc k 2), .int .u8 (Pl.cc k 3)]) (.agg #[.int .u8 (Pl.rf (Pl.fmN k) n 0), .int .u8 (Pl.rf (Pl.fmN k) n 1), .int .u8 (Pl.rf (Pl.fmN k) n 2), .int .u8 (Pl.rf (Pl.fmN k) n 3)])).run Try.prog w = .ok (Pl.fits k n) w := fun w => by rw [eq4_in, fits_eq]
          rw [hfit] at h4
          go_wp2_with fail
          go_region_with (go_at_call 61; refine (readFixed_any (Pl.fmN k) _ n HF.out f1 f2 _).mono ?_; rintro e u2 ⟨rfl, d2⟩; have D2 : Hid _ := d2; have ky2 : ∀ j, u2.cell? ⟨g, j, none⟩ = (#[.string (Pl.nm k), .int .i64 (Pl.fm k), .int .u8 (Pl.cc k 0), .int .u8 (Pl.cc k 1), .int .u8 (Pl.cc k 2), .int .u8 (Pl.cc k 3)] : Array Value)[j]? := (fun j => cell_of_row u2 g j _ 63 (0, 0) ((d2.block _ (Array.getElem?_eq_some_iff.1 Y1.out).1).trans Y1.out)); clear d2)
          all_goals
            go_wp2
            go_roundw
            case rel =>
              refine ⟨k + 1, by omega, by go_num, fun j h1 h2 => ?_, Below.trans (by repeat (first | exact B1.out | refine Below.drew ?_ | refine below_drewN ?_ _)) (D2.out.mono Z1.out)⟩
              by_cases hj : j < k
              · exact HA.out j h1 hj
              · have : j = k := by omega
                subst this; exact hfit
            case measure => simp [intOf]; omega
        · have h4 : ∀ w, (Op.equalIn 10000 61 (.agg #[.int .u8 (Pl.cc k 0), .int .u8 (Pl.cc k 1), .int .u8 (Pl.cc k 2), .int .u8 (Pl.cc k 3)]) (.agg #[.int .u8 (Pl.rf (Pl.fmN k) n 0), .int .u8 (Pl.rf (Pl.fmN k) n 1), .int .u8 (Pl.rf (Pl.fmN k) n 2), .int .u8 (Pl.rf (Pl.fmN k) n 3)])).run Try.prog w = .ok (Pl.fits k n) w := fun w => by rw [eq4_in, fits_eq]
          rw [hfit] at h4
          go_wp2_with fail
          go_region_with (go_at_call 61; refine (readFixed_any (Pl.fmN k) _ n HF.out f1 f2 _).mono ?_; rintro e u2 ⟨rfl, d2⟩; have D2 : Hid _ := d2; have ky2 : ∀ j, u2.cell? ⟨g, j, none⟩ = (#[.string (Pl.nm k), .int .i64 (Pl.fm k), .int .u8 (Pl.cc k 0), .int .u8 (Pl.cc k 1), .int .u8 (Pl.cc k 2), .int .u8 (Pl.cc k 3)] : Array Value)[j]? := (fun j => cell_of_row u2 g j _ 63 (0, 0) ((d2.block _ (Array.getElem?_eq_some_iff.1 Y1.out).1).trans Y1.out)); clear d2)
          all_goals
            go_wp2
            go_ret
            exact ⟨⟨k, by omega, rfl, fun h => absurd h hk0, fun _ => hfit⟩, Below.trans (by repeat (first | exact B1.out | refine Below.drew ?_ | refine below_drewN ?_ _)) (D2.out.mono Z1.out)⟩
    · have hke : k = 48 := by omega
      subst hke
      go_wp2
      go_ret
      exact ⟨⟨0, by decide, rfl, fun _ j h1 h2 => HA.out j h1 (by omega), fun h => absurd h (by decide)⟩, HB.out⟩
end Go.Proofs.Ytgopdicmmglakaa.W
