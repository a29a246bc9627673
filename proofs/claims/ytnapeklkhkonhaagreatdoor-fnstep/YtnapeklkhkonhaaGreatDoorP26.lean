import Derived.Test.YtnapeklkhkonhaaGreatDoorP23
import Derived.Test.YtnapeklkhkonhaaGreatDoorP00
import Derived.ChangeKeysEq
import Derived.Laws.StructEq
import Derived.Deep.RegionWith
import Derived.Test.YtnapeklkhkonhaaGreatDoorP25
set_option linter.unusedVariables false
namespace Go.Proofs.YtnapeklkhkonhaaGreatDoor.W
open Go.RowKit
theorem part_byte (xs : Array Value) (j : Nat) (v : Value) (h : xs[j]? = some v) (w : World) : (part 5 xs j).run Tryz.prog w = .ok v w := by
  obtain ⟨i0, hi, hz0, hz1, hz2⟩ := info_parts Tryz.infou8
  simp [part, sizeOf, typeInfo, hi, hz1, h]
theorem eq4 (a0 a1 a2 a3 b0 b1 b2 b3 : Int) (w : World) : (binOp .eql 107 (.agg #[.int .u8 a0, .int .u8 a1, .int .u8 a2, .int .u8 a3]) (.agg #[.int .u8 b0, .int .u8 b1, .int .u8 b2, .int .u8 b3])).run Tryz.prog w = .ok (.bool (a0 == b0 && (a1 == b1 && (a2 == b2 && a3 == b3)))) w := by
  obtain ⟨i0, hi, hz0, hz1, hz2⟩ := info_parts Tryz.infou8
  have h5 : Tryz.prog.cellsOf 5 = 1 := by kernel_rfl
  have p : ∀ (x0 x1 x2 x3 : Int) (w : World), (part 5 #[.int .u8 x0, .int .u8 x1, .int .u8 x2, .int .u8 x3] 0).run Tryz.prog w = .ok (.int .u8 x0) w ∧ (part 5 #[.int .u8 x0, .int .u8 x1, .int .u8 x2, .int .u8 x3] 1).run Tryz.prog w = .ok (.int .u8 x1) w ∧ (part 5 #[.int .u8 x0, .int .u8 x1, .int .u8 x2, .int .u8 x3] 2).run Tryz.prog w = .ok (.int .u8 x2) w ∧ (part 5 #[.int .u8 x0, .int .u8 x1, .int .u8 x2, .int .u8 x3] 3).run Tryz.prog w = .ok (.int .u8 x3) w :=
    fun x0 x1 x2 x3 w => ⟨part_byte _ 0 (.int .u8 x0) rfl w, part_byte _ 1 (.int .u8 x1) rfl w, part_byte _ 2 (.int .u8 x2) rfl w, part_byte _ 3 (.int .u8 x3) rfl w⟩
  rw [run_eql_struct, show (10000 : Nat) = 9998 + 1 + 1 from rfl, run_equalIn_array w (9998 + 1) _ _ Tryz.underlying107 hi, h5]
  rw [show List.range 4 = [0, 1, 2, 3] from rfl]
  simp only [Op.eqItems, Sem.run_bind, Nat.mul_one, (p _ _ _ _ _).1, Result.andThen_ok, run_equalIn_int _ _ _ _ _ _ _ Tryz.underlying5]
  cases a0 == b0 <;> simp only [Bool.not_false, Bool.not_true, if_true, Bool.false_eq_true, if_false, Sem.run_pure, Sem.run_bind, Result.andThen_ok, Bool.false_and, Bool.true_and, (p _ _ _ _ _).2.1, run_equalIn_int _ _ _ _ _ _ _ Tryz.underlying5]
  cases a1 == b1 <;> simp only [Bool.not_false, Bool.not_true, if_true, Bool.false_eq_true, if_false, Sem.run_pure, Sem.run_bind, Result.andThen_ok, Bool.false_and, Bool.true_and, (p _ _ _ _ _).2.2.1, run_equalIn_int _ _ _ _ _ _ _ Tryz.underlying5]
  cases a2 == b2 <;> simp only [Bool.not_false, Bool.not_true, if_true, Bool.false_eq_true, if_false, Sem.run_pure, Sem.run_bind, Result.andThen_ok, Bool.false_and, Bool.true_and, (p _ _ _ _ _).2.2.2, run_equalIn_int _ _ _ _ _ _ _ Tryz.underlying5]
  cases a3 == b3 <;> simp only [Bool.not_false, Bool.not_true, if_true, Bool.false_eq_true, if_false, Sem.run_pure, Result.andThen_ok]
theorem eq4_in (a0 a1 a2 a3 b0 b1 b2 b3 : Int) (w : World) : (Op.equalIn 10000 107 (.agg #[.int .u8 a0, .int .u8 a1, .int .u8 a2, .int .u8 a3]) (.agg #[.int .u8 b0, .int .u8 b1, .int .u8 b2, .int .u8 b3])).run Tryz.prog w = .ok (a0 == b0 && (a1 == b1 && (a2 == b2 && a3 == b3))) w := by
  have h := eq4 a0 a1 a2 a3 b0 b1 b2 b3 w
  rw [run_eql_struct] at h
  generalize (Op.equalIn 10000 107 (.agg #[.int .u8 a0, .int .u8 a1, .int .u8 a2, .int .u8 a3]) (.agg #[.int .u8 b0, .int .u8 b1, .int .u8 b2, .int .u8 b3])).run Tryz.prog w = r at h
  cases r with
  | ok b w1 => simp only [Result.andThen_ok, Result.ok.injEq, Value.bool.injEq] at h; rw [h.1, h.2]
  | halt x w1 => simp [Result.andThen] at h
theorem fits_eq (k : Nat) (n : Int) : (Pl.cc k 0 == Pl.rf (Pl.fmN k) n 0 && (Pl.cc k 1 == Pl.rf (Pl.fmN k) n 1 && (Pl.cc k 2 == Pl.rf (Pl.fmN k) n 2 && Pl.cc k 3 == Pl.rf (Pl.fmN k) n 3))) = Pl.fits k n := by
  unfold Pl.fits
  simp only [Bool.and_assoc]
  rfl
set_option maxRecDepth 100000 in
set_option maxHeartbeats 4000000 in
theorem opOfWord_any (n : Int) (w : World) :
    Calls Tryz.prog 94 #[.int .i64 n] w fun e w' => (∃ k : Nat, k ≤ 47 ∧ e = .returned (.int .i64 (k : Int)) ∧ (k = 0 → ∀ j, 1 ≤ j → j ≤ 47 → Pl.fits j n = false) ∧ (1 ≤ k → Pl.fits k n = true)) ∧ Below w.heap.size w w' := by
  go_enter Tryz.func94, Tryz.ntmps94
  go_wp2_with (go_at_call 109; refine (instTable_any _).mono ?_; rintro e w' ⟨rfl, rfl⟩)
  go_loopw [6] (fun i wr => ∃ k : Nat, k ≤ 48 ∧ i = .int .i64 k ∧ (∀ j, 1 ≤ j → j < k → Pl.fits j n = false) ∧ Below w.heap.size w wr) (fun i _ => 48 - (intOf i).toNat)
  case atStart => exact ⟨0, by decide, rfl, fun j h1 h2 => absurd h2 (Nat.not_lt_zero _), below_alloc _ _⟩
  case round =>
    obtain ⟨k, hk, rfl, hall, hb⟩ := hrel
    have HA : Hid (∀ j, 1 ≤ j → j < k → Pl.fits j n = false) := hall
    have HB : Hid (Below w.heap.size w wr) := hb
    have HZ : Hid (w.heap.size ≤ wr.heap.size) := hb.size
    clear hall hb
    by_cases hlt : k < 48
    · have hi := fun w => tab_index w k hlt
      unfold Pl.rowV at hi
      go_wp2_with (refine wpList_store_row rfl 109 _ _ rfl wr.heap.size #[.string (Pl.nm k), .int .i64 (Pl.fm k), .int .u8 (Pl.cc k 0), .int .u8 (Pl.cc k 1), .int .u8 (Pl.cc k 2), .int .u8 (Pl.cc k 3)] ?hx ?hy 109 #[.string ByteArray.empty, .int .i64 0, .int .u8 0, .int .u8 0, .int .u8 0, .int .u8 0] ?hg ?hi ?ho ?h1 ?_; (case hx => rfl); (case hy => rfl); (case hg => exact heap_alloc_new wr _); (case hi => kernel_rfl); (case ho => kernel_rfl); (case h1 => kernel_rfl); refine Hid.out ?_)
      unfold Hid
      rw [World.setRow_alloc_new]
      refine wpList_at fun u1 hu1 => ?_
      have B1 : Hid (Below w.heap.size w u1) := by show Below w.heap.size w u1; rw [hu1]; exact HB.out.alloc HZ.out _
      have Y1 : Hid (u1.heap[wr.heap.size]? = some (.cells #[.string (Pl.nm k), .int .i64 (Pl.fm k), .int .u8 (Pl.cc k 0), .int .u8 (Pl.cc k 1), .int .u8 (Pl.cc k 2), .int .u8 (Pl.cc k 3)] 109)) := by show u1.heap[wr.heap.size]? = _; rw [hu1]; exact heap_alloc_new wr _
      have Z1 : Hid (w.heap.size ≤ u1.heap.size) := by show w.heap.size ≤ u1.heap.size; rw [hu1]; have := HZ.out; simp; omega
      clear hu1 HB HZ hi
      obtain ⟨g, hg⟩ : ∃ g, g = wr.heap.size := ⟨_, rfl⟩
      rw [← hg] at Y1 ⊢
      clear hg
      have ky : ∀ j, u1.cell? ⟨g, j, none⟩ = (#[.string (Pl.nm k), .int .i64 (Pl.fm k), .int .u8 (Pl.cc k 0), .int .u8 (Pl.cc k 1), .int .u8 (Pl.cc k 2), .int .u8 (Pl.cc k 3)] : Array Value)[j]? := fun j => cell_of_row u1 g j _ 109 (0, 0) Y1.out
      by_cases hk0 : k = 0
      · subst hk0
        go_wp2_with fail
        go_quiet (fail)
        go_wp2
        go_roundw
        case rel =>
          refine ⟨1, by decide, rfl, fun j h1 h2 => absurd h2 (by omega), ?_⟩
          repeat (first | exact B1.out | refine Below.drew ?_ | refine below_drewN ?_ _)
        case measure => simp [intOf]
      · obtain ⟨f1, f2, f3⟩ := fm_at k (by omega) (by omega)
        have HF : Hid (Pl.fm k = (Pl.fmN k : Int)) := f3
        clear f3
        have hm : Tryz.prog.eqGuardType Tryz.prog.depth 107 = false := by kernel_rfl
        have hpos : 0 < k := by omega
        have hpos' : decide (0 < k) = true := decide_eq_true hpos
        cases hfit : Pl.fits k n
        · have h4 : ∀ w, (Op.equalIn 10000 107 (.agg #[.int .u8 (Pl.cc k 0), .int .u8 (Pl.cc k 1), .int .u8 (Pl.cc k 2), .int .u8 (Pl.cc k 3)]) (.agg #[.int .u8 (Pl.rf (Pl.fmN k) n 0), .int .u8 (Pl.rf (Pl.fmN k) n 1), .int .u8 (Pl.rf (Pl.fmN k) n 2), .int .u8 (Pl.rf (Pl.fmN k) n 3)])).run Tryz.prog w = .ok (Pl.fits k n) w := fun w => by rw [eq4_in, fits_eq]
          rw [hfit] at h4
          go_wp2_with fail
          go_region_with (go_at_call 110; refine (readFixed_any (Pl.fmN k) _ n HF.out f1 f2 _).mono ?_; rintro e u2 ⟨rfl, d2⟩; have D2 : Hid _ := d2; have ky2 : ∀ j, u2.cell? ⟨g, j, none⟩ = (#[.string (Pl.nm k), .int .i64 (Pl.fm k), .int .u8 (Pl.cc k 0), .int .u8 (Pl.cc k 1), .int .u8 (Pl.cc k 2), .int .u8 (Pl.cc k 3)] : Array Value)[j]? := (fun j => cell_of_row u2 g j _ 109 (0, 0) ((d2.block _ (Array.getElem?_eq_some_iff.1 Y1.out).1).trans Y1.out)); clear d2)
          all_goals
            go_wp2
            go_roundw
            case rel =>
              refine ⟨k + 1, by omega, by go_num, fun j h1 h2 => ?_, Below.trans (by repeat (first | exact B1.out | refine Below.drew ?_ | refine below_drewN ?_ _)) (D2.out.mono Z1.out)⟩
              by_cases hj : j < k
              · exact HA.out j h1 hj
              · have : j = k := by omega
                subst this; exact hfit
            case measure => simp [intOf]; omega
        · have h4 : ∀ w, (Op.equalIn 10000 107 (.agg #[.int .u8 (Pl.cc k 0), .int .u8 (Pl.cc k 1), .int .u8 (Pl.cc k 2), .int .u8 (Pl.cc k 3)]) (.agg #[.int .u8 (Pl.rf (Pl.fmN k) n 0), .int .u8 (Pl.rf (Pl.fmN k) n 1), .int .u8 (Pl.rf (Pl.fmN k) n 2), .int .u8 (Pl.rf (Pl.fmN k) n 3)])).run Tryz.prog w = .ok (Pl.fits k n) w := fun w => by rw [eq4_in, fits_eq]
          rw [hfit] at h4
          go_wp2_with fail
          go_region_with (go_at_call 110; refine (readFixed_any (Pl.fmN k) _ n HF.out f1 f2 _).mono ?_; rintro e u2 ⟨rfl, d2⟩; have D2 : Hid _ := d2; have ky2 : ∀ j, u2.cell? ⟨g, j, none⟩ = (#[.string (Pl.nm k), .int .i64 (Pl.fm k), .int .u8 (Pl.cc k 0), .int .u8 (Pl.cc k 1), .int .u8 (Pl.cc k 2), .int .u8 (Pl.cc k 3)] : Array Value)[j]? := (fun j => cell_of_row u2 g j _ 109 (0, 0) ((d2.block _ (Array.getElem?_eq_some_iff.1 Y1.out).1).trans Y1.out)); clear d2)
          all_goals
            go_wp2
            go_ret
            exact ⟨⟨k, by omega, rfl, fun h => absurd h hk0, fun _ => hfit⟩, Below.trans (by repeat (first | exact B1.out | refine Below.drew ?_ | refine below_drewN ?_ _)) (D2.out.mono Z1.out)⟩
    · have hke : k = 48 := by omega
      subst hke
      go_wp2
      go_ret
      exact ⟨⟨0, by decide, rfl, fun _ j h1 h2 => HA.out j h1 (by omega), fun h => absurd h (by decide)⟩, HB.out⟩
end Go.Proofs.YtnapeklkhkonhaaGreatDoor.W
namespace Go.Proofs.YtnapeklkhkonhaaGreatDoor.W
open Go.RowKit
theorem rowOf_b (k : Nat) (h1 : 1 ≤ k) (h2 : k ≤ 47) (w : World) : Calls Tryz.prog 95 #[.int .i64 k] w fun e w' => e = .returned (.tuple #[.agg #[.string (Pl.nm k), .int .i64 (Pl.fm k), .int .u8 (Pl.cc k 0), .int .u8 (Pl.cc k 1), .int .u8 (Pl.cc k 2), .int .u8 (Pl.cc k 3)], .bool true]) ∧ Below w.heap.size w w' := by
  refine (rowOf_at k h1 h2 w).mono ?_
  rintro e w' ⟨rfl, rfl⟩
  exact ⟨rfl, ((Below.refl _ _).alloc (Nat.le_refl _) _).alloc (by simp) _⟩
theorem ruleOf_b (n : Int) (f : Nat) (hn : n = f) (h1 : 1 ≤ f) (h2 : f ≤ 8) (w : World) : Calls Tryz.prog 97 #[.int .i64 n] w fun e w' => e = .returned (.agg (Pl.ruleV f)) ∧ Below w.heap.size w w' := by
  refine (ruleOf_any n f hn h1 h2 w).mono ?_
  rintro e w' ⟨rfl, rfl⟩
  exact ⟨rfl, below_alloc _ _⟩
theorem ret_dec {n : Int} {cs : Array Value} {b : Bool} (h : Pl.decV n = cs) (hb : (Pl.dec n != 0) = b) : Ending.returned (.tuple #[.agg cs, .bool b]) = Ending.returned (.tuple #[.agg (Pl.decV n), .bool (Pl.dec n != 0)]) := by rw [h, hb]
set_option maxHeartbeats 4000000 in
theorem implDec_any (n : Int) (w : World) :
    Calls Tryz.prog 70 #[.int .i64 n] w fun e w' => e = .returned (.tuple #[.agg (Pl.decV n), .bool (Pl.dec n != 0)]) ∧ Below w.heap.size w w' := by
  go_enter Tryz.func70, Tryz.ntmps70
  go_wp2_with fail
  refine calls_at5 fun u0 hu0 => ?_
  have X0 : Hid (u0.heap[w.heap.size]? = some (.cells #[.int .i64 0, .int .i64 0, .int .i64 0, .int .i64 0, .int .i64 0] 67)) := by show u0.heap[w.heap.size]? = _; rw [hu0]; exact heap_alloc_new w _
  have B0 : Hid (Below w.heap.size w u0) := by show Below w.heap.size w u0; rw [hu0]; exact below_alloc w _
  have Z0 : Hid (w.heap.size < u0.heap.size) := by show w.heap.size < u0.heap.size; rw [hu0]; simp
  clear hu0
  refine (opOfWord_any n u0).mono ?_
  rintro e u1 ⟨⟨k, hk, rfl, hz, hf⟩, d1⟩
  have X1 : Hid (u1.heap[w.heap.size]? = some (.cells #[.int .i64 0, .int .i64 0, .int .i64 0, .int .i64 0, .int .i64 0] 67)) := (d1.block _ Z0.out).trans X0.out
  have B1 : Hid (Below w.heap.size w u1) := B0.out.trans (d1.mono (Nat.le_of_lt Z0.out))
  have Z1 : Hid (w.heap.size < u1.heap.size) := Nat.lt_of_lt_of_le Z0.out d1.size
  clear d1 X0 B0 Z0
  by_cases hk0 : k = 0
  · have HD : Hid (Pl.dec n = 0) := Pl.dec_none (fun j h1 h2 => by
      cases hh : Pl.hit j n
      · rfl
      · have := (Pl.hit_fits h1 h2 hh).1
        rw [hz hk0 j h1 h2] at this
        cases this)
    subst hk0
    clear hz hf
    go_wp2_with (refine wpList_store_row rfl 67 _ _ rfl (w.heap.size) #[.int .i64 0, .int .i64 0, .int .i64 0, .int .i64 0, .int .i64 0] ?hx ?hy 67 #[.int .i64 0, .int .i64 0, .int .i64 0, .int .i64 0, .int .i64 0] ?hg ?hi ?ho ?h1 ?_; (case hx => rfl); (case hy => rfl); (case hg => exact X1.out); (case hi => kernel_rfl); (case ho => kernel_rfl); (case h1 => kernel_rfl); refine Hid.out ?_)
    unfold Hid
    go_wp2_with fail
    refine bodyPost_ret (v := .tuple #[.agg #[.int .i64 0, .int .i64 0, .int .i64 0, .int .i64 0, .int .i64 0], .bool false]) ?_ rfl ⟨ret_dec (Pl.decV_none HD.out) (by rw [HD.out]; rfl), below_setRow5 B1.out (Nat.le_refl _) _⟩
    refine results_cell_tmp Tryz.results70 _ _ (w.heap.size) 67 #[.int .i64 0, .int .i64 0, .int .i64 0, .int .i64 0, .int .i64 0] (0, 0) _ (.bool false) ?hp ?hq ?hg Tryz.underlying67 ?hd ?hi
    case hp => rfl
    case hq => rfl
    case hg => exact setRow_heap _ _ _ _ _ _ X1.out
    case hd => rfl
    case hi => kernel_rfl
  have h1 : 1 ≤ k := by omega
  have HF : Hid (Pl.fits k n = true) := hf h1
  obtain ⟨f1, f2, f3⟩ := fm_at k h1 hk
  have HM : Hid (Pl.fm k = (Pl.fmN k : Int)) := f3
  clear hz hf f3
  go_wp2_with fail
  refine (rowOf_b k h1 hk u1).mono ?_
  rintro e u2 ⟨rfl, d2⟩
  have X2 : Hid (u2.heap[w.heap.size]? = some (.cells #[.int .i64 0, .int .i64 0, .int .i64 0, .int .i64 0, .int .i64 0] 67)) := (d2.block _ Z1.out).trans X1.out
  have B2 : Hid (Below w.heap.size w u2) := B1.out.trans (d2.mono (Nat.le_of_lt Z1.out))
  have Z2 : Hid (w.heap.size < u2.heap.size) := Nat.lt_of_lt_of_le Z1.out d2.size
  clear d2 X1 B1 Z1
  go_wp2_with (refine wpList_store_row rfl 109 _ _ rfl (u2.heap.size) #[.string (Pl.nm k), .int .i64 (Pl.fm k), .int .u8 (Pl.cc k 0), .int .u8 (Pl.cc k 1), .int .u8 (Pl.cc k 2), .int .u8 (Pl.cc k 3)] ?hx ?hy 109 #[.string ByteArray.empty, .int .i64 0, .int .u8 0, .int .u8 0, .int .u8 0, .int .u8 0] ?hg ?hi ?ho ?h1 ?_; (case hx => rfl); (case hy => rfl); (case hg => exact heap_alloc_new u2 _); (case hi => kernel_rfl); (case ho => kernel_rfl); (case h1 => kernel_rfl); refine Hid.out ?_)
  unfold Hid
  rw [World.setRow_alloc_new]
  refine wpList_at fun u3 hu3 => ?_
  have d3 : Below u2.heap.size u2 u3 := by rw [hu3]; exact below_alloc u2 _
  have Y3 : Hid (u3.heap[u2.heap.size]? = some (.cells #[.string (Pl.nm k), .int .i64 (Pl.fm k), .int .u8 (Pl.cc k 0), .int .u8 (Pl.cc k 1), .int .u8 (Pl.cc k 2), .int .u8 (Pl.cc k 3)] 109)) := by show u3.heap[u2.heap.size]? = _; rw [hu3]; exact heap_alloc_new u2 _
  have X3 : Hid (u3.heap[w.heap.size]? = some (.cells #[.int .i64 0, .int .i64 0, .int .i64 0, .int .i64 0, .int .i64 0] 67)) := (d3.block _ Z2.out).trans X2.out
  have B3 : Hid (Below w.heap.size w u3) := B2.out.trans (d3.mono (Nat.le_of_lt Z2.out))
  have Z3 : Hid (w.heap.size < u3.heap.size) := Nat.lt_of_lt_of_le Z2.out d3.size
  clear d3 hu3 X2 B2 Z2
  have ky : ∀ j, u3.cell? ⟨u2.heap.size, j, none⟩ = (#[.string (Pl.nm k), .int .i64 (Pl.fm k), .int .u8 (Pl.cc k 0), .int .u8 (Pl.cc k 1), .int .u8 (Pl.cc k 2), .int .u8 (Pl.cc k 3)] : Array Value)[j]? := fun j => cell_of_row u3 u2.heap.size j _ 109 (0, 0) Y3.out
  go_wp2_with fail
  refine (ruleOf_b _ (Pl.fmN k) HM.out f1 f2 u3).mono ?_
  rintro e u4 ⟨rfl, d4⟩
  have X4 : Hid (u4.heap[w.heap.size]? = some (.cells #[.int .i64 0, .int .i64 0, .int .i64 0, .int .i64 0, .int .i64 0] 67)) := (d4.block _ Z3.out).trans X3.out
  have B4 : Hid (Below w.heap.size w u4) := B3.out.trans (d4.mono (Nat.le_of_lt Z3.out))
  have Z4 : Hid (w.heap.size < u4.heap.size) := Nat.lt_of_lt_of_le Z3.out d4.size
  clear d4 X3 B3 Z3 ky
  go_wp2_with fail
  refine (readFields_any n (Pl.fmN k) f1 f2 u4).mono ?_
  rintro e u5 ⟨rfl, d5⟩
  have X5 : Hid (u5.heap[w.heap.size]? = some (.cells #[.int .i64 0, .int .i64 0, .int .i64 0, .int .i64 0, .int .i64 0] 67)) := (d5.block _ Z4.out).trans X4.out
  have B5 : Hid (Below w.heap.size w u5) := B4.out.trans (d5.mono (Nat.le_of_lt Z4.out))
  have Z5 : Hid (w.heap.size < u5.heap.size) := Nat.lt_of_lt_of_le Z4.out d5.size
  clear d5 X4 B4 Z4
  obtain ⟨a, ha⟩ : ∃ a, a = Pl.fRd (Pl.fmN k) n := ⟨_, rfl⟩
  obtain ⟨b, hb⟩ : ∃ a, a = Pl.fR1 (Pl.fmN k) n := ⟨_, rfl⟩
  obtain ⟨c, hc⟩ : ∃ a, a = Pl.fR2 (Pl.fmN k) n := ⟨_, rfl⟩
  obtain ⟨d, hd⟩ : ∃ a, a = Pl.gIm (Pl.fmN k) n := ⟨_, rfl⟩
  rw [← ha, ← hb, ← hc, ← hd]
  have HV : Hid (a = Pl.fRd (Pl.fmN k) n ∧ b = Pl.fR1 (Pl.fmN k) n ∧ c = Pl.fR2 (Pl.fmN k) n ∧ d = Pl.gIm (Pl.fmN k) n) := ⟨ha, hb, hc, hd⟩
  clear ha hb hc hd
  go_wp2_with (refine wpList_store_row rfl 67 _ _ rfl (u5.heap.size) #[.int .i64 0, .int .i64 a, .int .i64 b, .int .i64 c, .int .i64 d] ?hx ?hy 67 #[.int .i64 0, .int .i64 0, .int .i64 0, .int .i64 0, .int .i64 0] ?hg ?hi ?ho ?h1 ?_; (case hx => rfl); (case hy => rfl); (case hg => exact heap_alloc_new u5 _); (case hi => kernel_rfl); (case ho => kernel_rfl); (case h1 => kernel_rfl); refine Hid.out ?_)
  unfold Hid
  rw [World.setRow_alloc_new]
  refine wpList_at fun u6 hu6 => ?_
  have d6 : Below u5.heap.size u5 u6 := by rw [hu6]; exact below_alloc u5 _
  have Y6 : Hid (u6.heap[u5.heap.size]? = some (.cells #[.int .i64 0, .int .i64 a, .int .i64 b, .int .i64 c, .int .i64 d] 67)) := by show u6.heap[u5.heap.size]? = _; rw [hu6]; exact heap_alloc_new u5 _
  have G6 : Hid (w.heap.size < u5.heap.size ∧ u5.heap.size < u6.heap.size) := ⟨Z5.out, by rw [hu6]; simp⟩
  have X6 : Hid (u6.heap[w.heap.size]? = some (.cells #[.int .i64 0, .int .i64 0, .int .i64 0, .int .i64 0, .int .i64 0] 67)) := (d6.block _ Z5.out).trans X5.out
  have B6 : Hid (Below w.heap.size w u6) := B5.out.trans (d6.mono (Nat.le_of_lt Z5.out))
  have Z6 : Hid (w.heap.size < u6.heap.size) := Nat.lt_of_lt_of_le Z5.out d6.size
  clear d6 hu6 X5 B5 Z5
  obtain ⟨g, hg⟩ : ∃ g, g = u5.heap.size := ⟨_, rfl⟩
  rw [← hg] at Y6 G6 ⊢
  clear hg
  have kf : ∀ j, u6.frozen? ⟨g, j, none⟩ = false := fun j => frozen_of_row u6 g j _ 67 Y6.out
  have ky : ∀ j, u6.cell? ⟨g, j, none⟩ = (#[.int .i64 0, .int .i64 a, .int .i64 b, .int .i64 c, .int .i64 d] : Array Value)[j]? := fun j => cell_of_row u6 g j _ 67 (0, 0) Y6.out
  have Y7 : Hid ((u6.setCell ⟨g, 0, none⟩ (.int .i64 (k : Int))).heap[g]? = some (.cells #[.int .i64 (k : Int), .int .i64 a, .int .i64 b, .int .i64 c, .int .i64 d] 67)) := row_put5 Y6.out 0 (.int .i64 (k : Int)) rfl
  go_wp2_with (refine wpList_load_row rfl 67 _ rfl (g) ?hx 67 #[.int .i64 (k : Int), .int .i64 a, .int .i64 b, .int .i64 c, .int .i64 d] (0, 0) _ ?hg Tryz.underlying67 ?hd ?hi ?_; (case hx => rfl); (case hg => exact Y7.out); (case hd => rfl); (case hi => kernel_rfl))
  refine calls_at5 fun u7 hu7 => ?_
  have X7 : Hid (u7.heap[w.heap.size]? = some (.cells #[.int .i64 0, .int .i64 0, .int .i64 0, .int .i64 0, .int .i64 0] 67)) := by show u7.heap[w.heap.size]? = _; rw [hu7]; exact keep_other X6.out (Nat.ne_of_lt G6.out.1)
  have B7 : Hid (Below w.heap.size w u7) := by show Below w.heap.size w u7; rw [hu7]; exact B6.out.setCell (Nat.le_of_lt G6.out.1) _
  have Z7 : Hid (w.heap.size < u7.heap.size ∧ g < u7.heap.size) := by show w.heap.size < u7.heap.size ∧ g < u7.heap.size; rw [hu7]; have := G6.out; simp; omega
  rw [← hu7] at Y7
  clear hu7 X6 B6 Z6 Y6 G6 kf ky
  cases hit : Pl.hit k n
  · have HD : Hid (Pl.dec n = 0) := Pl.dec_none (fun j j1 j2 => by
      cases hh : Pl.hit j n
      · rfl
      · have := (Pl.hit_fits j1 j2 hh).1
        have e := Pl.fits_one j1 j2 h1 hk this HF.out
        subst e
        rw [hit] at hh
        cases hh)
    cases hok : iok (k : Int) a b c d
    · refine (implEnc_no _ _ _ _ _ hok u7).mono ?_
      rintro e u8 ⟨rfl, d8⟩
      have X8 : Hid (u8.heap[w.heap.size]? = some (.cells #[.int .i64 0, .int .i64 0, .int .i64 0, .int .i64 0, .int .i64 0] 67)) := (d8.block _ Z7.out.1).trans X7.out
      have B8 : Hid (Below w.heap.size w u8) := B7.out.trans (d8.mono (Nat.le_of_lt Z7.out.1))
      clear d8
      go_wp2_with (refine wpList_store_row rfl 67 _ _ rfl (w.heap.size) #[.int .i64 0, .int .i64 0, .int .i64 0, .int .i64 0, .int .i64 0] ?hx ?hy 67 #[.int .i64 0, .int .i64 0, .int .i64 0, .int .i64 0, .int .i64 0] ?hg ?hi ?ho ?h1 ?_; (case hx => rfl); (case hy => rfl); (case hg => exact X8.out); (case hi => kernel_rfl); (case ho => kernel_rfl); (case h1 => kernel_rfl); refine Hid.out ?_)
      unfold Hid
      go_wp2_with fail
      refine bodyPost_ret (v := .tuple #[.agg #[.int .i64 0, .int .i64 0, .int .i64 0, .int .i64 0, .int .i64 0], .bool false]) ?_ rfl ⟨ret_dec (Pl.decV_none HD.out) (by rw [HD.out]; rfl), below_setRow5 B8.out (Nat.le_refl _) _⟩
      refine results_cell_tmp Tryz.results70 _ _ (w.heap.size) 67 #[.int .i64 0, .int .i64 0, .int .i64 0, .int .i64 0, .int .i64 0] (0, 0) _ (.bool false) ?hp ?hq ?hg Tryz.underlying67 ?hd ?hi
      case hp => rfl
      case hq => rfl
      case hg => exact setRow_heap _ _ _ _ _ _ X8.out
      case hd => rfl
      case hi => kernel_rfl
    · have hne : Pl.enc k a b c d ≠ n := by
        intro he
        obtain ⟨ea, eb, ec, ed⟩ := HV.out
        rw [iok_eq k h1 hk, ea, eb, ec, ed] at hok
        rw [ea, eb, ec, ed] at he
        rw [(Pl.hit_iff k n).2 ⟨hok, he⟩] at hit
        cases hit
      refine (implEnc_at k h1 hk _ _ _ _ hok u7).mono ?_
      rintro e u8 ⟨rfl, d8⟩
      have X8 : Hid (u8.heap[w.heap.size]? = some (.cells #[.int .i64 0, .int .i64 0, .int .i64 0, .int .i64 0, .int .i64 0] 67)) := (d8.block _ Z7.out.1).trans X7.out
      have B8 : Hid (Below w.heap.size w u8) := B7.out.trans (d8.mono (Nat.le_of_lt Z7.out.1))
      clear d8
      obtain ⟨m, hm⟩ : ∃ m, m = Pl.enc k a b c d := ⟨_, rfl⟩
      rw [← hm] at hne ⊢
      have hne' : (m != n) = true := by simpa using hne
      clear hm
      go_wp2_with (refine wpList_store_row rfl 67 _ _ rfl (w.heap.size) #[.int .i64 0, .int .i64 0, .int .i64 0, .int .i64 0, .int .i64 0] ?hx ?hy 67 #[.int .i64 0, .int .i64 0, .int .i64 0, .int .i64 0, .int .i64 0] ?hg ?hi ?ho ?h1 ?_; (case hx => rfl); (case hy => rfl); (case hg => exact X8.out); (case hi => kernel_rfl); (case ho => kernel_rfl); (case h1 => kernel_rfl); refine Hid.out ?_)
      unfold Hid
      go_wp2_with fail
      refine bodyPost_ret (v := .tuple #[.agg #[.int .i64 0, .int .i64 0, .int .i64 0, .int .i64 0, .int .i64 0], .bool false]) ?_ rfl ⟨ret_dec (Pl.decV_none HD.out) (by rw [HD.out]; rfl), below_setRow5 B8.out (Nat.le_refl _) _⟩
      refine results_cell_tmp Tryz.results70 _ _ (w.heap.size) 67 #[.int .i64 0, .int .i64 0, .int .i64 0, .int .i64 0, .int .i64 0] (0, 0) _ (.bool false) ?hp ?hq ?hg Tryz.underlying67 ?hd ?hi
      case hp => rfl
      case hq => rfl
      case hg => exact setRow_heap _ _ _ _ _ _ X8.out
      case hd => rfl
      case hi => kernel_rfl
  · have HD : Hid (Pl.dec n = k) := Pl.dec_hit h1 hk hit
    obtain ⟨q1, q2⟩ := (Pl.hit_iff k n).1 hit
    obtain ⟨ea, eb, ec, ed⟩ := HV.out
    rw [← ea, ← eb, ← ec, ← ed] at q1 q2
    have hok : iok (k : Int) a b c d = true := by rw [iok_eq k h1 hk]; exact q1
    refine (implEnc_at k h1 hk _ _ _ _ hok u7).mono ?_
    rintro e u8 ⟨rfl, d8⟩
    have X8 : Hid (u8.heap[w.heap.size]? = some (.cells #[.int .i64 0, .int .i64 0, .int .i64 0, .int .i64 0, .int .i64 0] 67)) := (d8.block _ Z7.out.1).trans X7.out
    have Y8 : Hid (u8.heap[g]? = some (.cells #[.int .i64 (k : Int), .int .i64 a, .int .i64 b, .int .i64 c, .int .i64 d] 67)) := (d8.block _ Z7.out.2).trans Y7.out
    have B8 : Hid (Below w.heap.size w u8) := B7.out.trans (d8.mono (Nat.le_of_lt Z7.out.1))
    have HE : Hid (Pl.decV n = #[.int .i64 (k : Int), .int .i64 a, .int .i64 b, .int .i64 c, .int .i64 d]) := by
      show Pl.decV n = #[.int .i64 (k : Int), .int .i64 a, .int .i64 b, .int .i64 c, .int .i64 d]
      rw [Pl.decV_hit h1 HD.out, ea, eb, ec, ed]
    clear d8 q1 ea eb ec ed
    rw [q2]
    clear q2
    go_wp2_with (first | (refine wpList_load_row rfl 67 _ rfl (g) ?hx 67 #[.int .i64 (k : Int), .int .i64 a, .int .i64 b, .int .i64 c, .int .i64 d] (0, 0) _ ?hg Tryz.underlying67 ?hd ?hi ?_; (case hx => rfl); (case hg => exact Y8.out); (case hd => rfl); (case hi => kernel_rfl)) | (refine wpList_store_row rfl 67 _ _ rfl (w.heap.size) #[.int .i64 (k : Int), .int .i64 a, .int .i64 b, .int .i64 c, .int .i64 d] ?hx ?hy 67 #[.int .i64 0, .int .i64 0, .int .i64 0, .int .i64 0, .int .i64 0] ?hg ?hi ?ho ?h1 ?_; (case hx => rfl); (case hy => rfl); (case hg => exact X8.out); (case hi => kernel_rfl); (case ho => kernel_rfl); (case h1 => kernel_rfl); refine Hid.out ?_))
    unfold Hid
    go_wp2_with fail
    refine bodyPost_ret (v := .tuple #[.agg #[.int .i64 (k : Int), .int .i64 a, .int .i64 b, .int .i64 c, .int .i64 d], .bool true]) ?_ rfl ⟨ret_dec HE.out (by rw [HD.out]; simp; omega), below_setRow5 B8.out (Nat.le_refl _) _⟩
    refine results_cell_tmp Tryz.results70 _ _ (w.heap.size) 67 #[.int .i64 (k : Int), .int .i64 a, .int .i64 b, .int .i64 c, .int .i64 d] (0, 0) _ (.bool true) ?hp ?hq ?hg Tryz.underlying67 ?hd ?hi
    case hp => rfl
    case hq => rfl
    case hg => exact setRow_heap _ _ _ _ _ _ X8.out
    case hd => rfl
    case hi => kernel_rfl
end Go.Proofs.YtnapeklkhkonhaaGreatDoor.W
namespace Go.Proofs.YtnapeklkhkonhaaGreatDoor.Pl
theorem wd_id {n : Int} (h : 0 ≤ n ∧ n ≤ 4294967295) : wd n = n := by
  have e : wd n = n % 4294967296 := rfl
  rw [e]; omega
theorem bt_id {n : Int} (h : 0 ≤ n ∧ n ≤ 4294967295) (x y : Int) : bt n x y = n / pw y.toNat % pw (x.toNat - y.toNat + 1) := by
  unfold bt
  rw [wd_id h]
theorem mod_pw0 (x : Int) : x % pw 0 = 0 := by
  rw [show pw 0 = 1 from by decide]; omega
theorem im_1 {n : Int} (h : 0 ≤ n ∧ n ≤ 4294967295) : gIm 1 n = 0 := by
  unfold gIm rim
  simp only [mod_pw0]
  have l1 : lo 1 = 0 := by decide
  have l2 : hi 1 = 0 := by decide
  have l3 : st 1 = 1 := by decide
  rw [l1, l2, l3]
  split <;> (try split) <;> omega
theorem im_2 {n : Int} (h : 0 ≤ n ∧ n ≤ 4294967295) : gIm 2 n = wde (bt n 31 20) 12 := by
  have a0 : bt n 31 20 = n / pw 20 % pw 12 := bt_id h 31 20
  have b0 := bt_bd n 31 20
  rw [show pw (Int.toNat 31 - Int.toNat 20 + 1) = 4096 from by decide] at b0
  unfold gIm rim
  simp only [mod_pw0, ← a0]
  unfold wde
  rw [show pw (Int.toNat 12 - 1) = 2048 from by decide, show pw (Int.toNat 12) = 4096 from by decide]
  have l1 : lo 2 = -2048 := by decide
  have l2 : hi 2 = 2047 := by decide
  have l3 : st 2 = 1 := by decide
  rw [l1, l2, l3]
  split <;> (try split) <;> omega
theorem im_3 {n : Int} (h : 0 ≤ n ∧ n ≤ 4294967295) : gIm 3 n = bt n 24 20 := by
  have a0 : bt n 24 20 = n / pw 20 % pw 5 := bt_id h 24 20
  have b0 := bt_bd n 24 20
  rw [show pw (Int.toNat 24 - Int.toNat 20 + 1) = 32 from by decide] at b0
  unfold gIm rim
  simp only [mod_pw0, ← a0]
  have l1 : lo 3 = 0 := by decide
  have l2 : hi 3 = 31 := by decide
  have l3 : st 3 = 1 := by decide
  rw [l1, l2, l3]
  split <;> (try split) <;> omega
theorem im_4 {n : Int} (h : 0 ≤ n ∧ n ≤ 4294967295) : gIm 4 n = wde (bt n 31 25 * 32 + bt n 11 7) 12 := by
  have a0 : bt n 31 25 = n / pw 25 % pw 7 := bt_id h 31 25
  have a1 : bt n 11 7 = n / pw 7 % pw 5 := bt_id h 11 7
  have b0 := bt_bd n 31 25
  rw [show pw (Int.toNat 31 - Int.toNat 25 + 1) = 128 from by decide] at b0
  have b1 := bt_bd n 11 7
  rw [show pw (Int.toNat 11 - Int.toNat 7 + 1) = 32 from by decide] at b1
  unfold gIm rim
  simp only [mod_pw0, ← a0, ← a1]
  unfold wde
  rw [show pw (Int.toNat 12 - 1) = 2048 from by decide, show pw (Int.toNat 12) = 4096 from by decide]
  have l1 : lo 4 = -2048 := by decide
  have l2 : hi 4 = 2047 := by decide
  have l3 : st 4 = 1 := by decide
  rw [l1, l2, l3]
  split <;> (try split) <;> omega
theorem im_5 {n : Int} (h : 0 ≤ n ∧ n ≤ 4294967295) : gIm 5 n = wde (bt n 31 31 * 4096 + bt n 7 7 * 2048 + bt n 30 25 * 32 + bt n 11 8 * 2) 13 := by
  have a0 : bt n 31 31 = n / pw 31 % pw 1 := bt_id h 31 31
  have a1 : bt n 7 7 = n / pw 7 % pw 1 := bt_id h 7 7
  have a2 : bt n 30 25 = n / pw 25 % pw 6 := bt_id h 30 25
  have a3 : bt n 11 8 = n / pw 8 % pw 4 := bt_id h 11 8
  have b0 := bt_bd n 31 31
  rw [show pw (Int.toNat 31 - Int.toNat 31 + 1) = 2 from by decide] at b0
  have b1 := bt_bd n 7 7
  rw [show pw (Int.toNat 7 - Int.toNat 7 + 1) = 2 from by decide] at b1
  have b2 := bt_bd n 30 25
  rw [show pw (Int.toNat 30 - Int.toNat 25 + 1) = 64 from by decide] at b2
  have b3 := bt_bd n 11 8
  rw [show pw (Int.toNat 11 - Int.toNat 8 + 1) = 16 from by decide] at b3
  unfold gIm rim
  simp only [← a0, ← a1, ← a2, ← a3]
  unfold wde
  rw [show pw (Int.toNat 13 - 1) = 4096 from by decide, show pw (Int.toNat 13) = 8192 from by decide]
  have l1 : lo 5 = -4096 := by decide
  have l2 : hi 5 = 4094 := by decide
  have l3 : st 5 = 2 := by decide
  rw [l1, l2, l3]
  split <;> (try split) <;> omega
theorem im_6 {n : Int} (h : 0 ≤ n ∧ n ≤ 4294967295) : gIm 6 n = bt n 31 12 := by
  have a0 : bt n 31 12 = n / pw 12 % pw 20 := bt_id h 31 12
  have b0 := bt_bd n 31 12
  rw [show pw (Int.toNat 31 - Int.toNat 12 + 1) = 1048576 from by decide] at b0
  unfold gIm rim
  simp only [mod_pw0, ← a0]
  have l1 : lo 6 = 0 := by decide
  have l2 : hi 6 = 1048575 := by decide
  have l3 : st 6 = 1 := by decide
  rw [l1, l2, l3]
  split <;> (try split) <;> omega
theorem im_7 {n : Int} (h : 0 ≤ n ∧ n ≤ 4294967295) : gIm 7 n = wde (bt n 31 31 * 1048576 + bt n 19 12 * 4096 + bt n 20 20 * 2048 + bt n 30 21 * 2) 21 := by
  have a0 : bt n 31 31 = n / pw 31 % pw 1 := bt_id h 31 31
  have a1 : bt n 19 12 = n / pw 12 % pw 8 := bt_id h 19 12
  have a2 : bt n 20 20 = n / pw 20 % pw 1 := bt_id h 20 20
  have a3 : bt n 30 21 = n / pw 21 % pw 10 := bt_id h 30 21
  have b0 := bt_bd n 31 31
  rw [show pw (Int.toNat 31 - Int.toNat 31 + 1) = 2 from by decide] at b0
  have b1 := bt_bd n 19 12
  rw [show pw (Int.toNat 19 - Int.toNat 12 + 1) = 256 from by decide] at b1
  have b2 := bt_bd n 20 20
  rw [show pw (Int.toNat 20 - Int.toNat 20 + 1) = 2 from by decide] at b2
  have b3 := bt_bd n 30 21
  rw [show pw (Int.toNat 30 - Int.toNat 21 + 1) = 1024 from by decide] at b3
  unfold gIm rim
  simp only [← a0, ← a1, ← a2, ← a3]
  unfold wde
  rw [show pw (Int.toNat 21 - 1) = 1048576 from by decide, show pw (Int.toNat 21) = 2097152 from by decide]
  have l1 : lo 7 = -1048576 := by decide
  have l2 : hi 7 = 1048574 := by decide
  have l3 : st 7 = 2 := by decide
  rw [l1, l2, l3]
  split <;> (try split) <;> omega
theorem im_8 {n : Int} (h : 0 ≤ n ∧ n ≤ 4294967295) : gIm 8 n = 0 := by
  unfold gIm rim
  simp only [mod_pw0]
  have l1 : lo 8 = 0 := by decide
  have l2 : hi 8 = 0 := by decide
  have l3 : st 8 = 1 := by decide
  rw [l1, l2, l3]
  split <;> (try split) <;> omega
end Go.Proofs.YtnapeklkhkonhaaGreatDoor.Pl
namespace Go.Proofs.YtnapeklkhkonhaaGreatDoor.W
open Go.RowKit
theorem l2Read_any (k : Nat) (h1 : 1 ≤ k) (h2 : k ≤ 47) (n : Int) (hn : 0 ≤ n ∧ n ≤ 4294967295) (w : World) :
    Calls Tryz.prog 53 #[.int .i64 (k : Int), .int .i64 n] w fun e w' => e = .returned (.agg #[.int .i64 (k : Int), .int .i64 (Pl.fRd (Pl.fmN k) n), .int .i64 (Pl.fR1 (Pl.fmN k) n), .int .i64 (Pl.fR2 (Pl.fmN k) n), .int .i64 (Pl.gIm (Pl.fmN k) n)]) ∧ Below w.heap.size w w' := by
  obtain ⟨f1, f2, f3⟩ := fm_at k h1 h2
  have e0 := Pl.bt_id hn 11 7
  have e1 := Pl.bt_id hn 19 15
  have e2 := Pl.bt_id hn 24 20
  rcases Pl.form_cases (Pl.fmN k) f1 f2 with q | q | q | q | q | q | q | q
  · have r0 : Pl.fRd 1 n = Pl.bt n 11 7 := e0.symm
    have r1 : Pl.fR1 1 n = Pl.bt n 19 15 := e1.symm
    have r2 : Pl.fR2 1 n = Pl.bt n 24 20 := e2.symm
    rw [q, r0, r1, r2, Pl.im_1 hn]
    exact l2Read_1 k h1 h2 q n w
  · have r0 : Pl.fRd 2 n = Pl.bt n 11 7 := e0.symm
    have r1 : Pl.fR1 2 n = Pl.bt n 19 15 := e1.symm
    have r2 : Pl.fR2 2 n = 0 := rfl
    rw [q, r0, r1, r2, Pl.im_2 hn]
    exact l2Read_2 k h1 h2 q n w
  · have r0 : Pl.fRd 3 n = Pl.bt n 11 7 := e0.symm
    have r1 : Pl.fR1 3 n = Pl.bt n 19 15 := e1.symm
    have r2 : Pl.fR2 3 n = 0 := rfl
    rw [q, r0, r1, r2, Pl.im_3 hn]
    exact l2Read_3 k h1 h2 q n w
  · have r0 : Pl.fRd 4 n = 0 := rfl
    have r1 : Pl.fR1 4 n = Pl.bt n 19 15 := e1.symm
    have r2 : Pl.fR2 4 n = Pl.bt n 24 20 := e2.symm
    rw [q, r0, r1, r2, Pl.im_4 hn]
    exact l2Read_4 k h1 h2 q n w
  · have r0 : Pl.fRd 5 n = 0 := rfl
    have r1 : Pl.fR1 5 n = Pl.bt n 19 15 := e1.symm
    have r2 : Pl.fR2 5 n = Pl.bt n 24 20 := e2.symm
    rw [q, r0, r1, r2, Pl.im_5 hn]
    exact l2Read_5 k h1 h2 q n w
  · have r0 : Pl.fRd 6 n = Pl.bt n 11 7 := e0.symm
    have r1 : Pl.fR1 6 n = 0 := rfl
    have r2 : Pl.fR2 6 n = 0 := rfl
    rw [q, r0, r1, r2, Pl.im_6 hn]
    exact l2Read_6 k h1 h2 q n w
  · have r0 : Pl.fRd 7 n = Pl.bt n 11 7 := e0.symm
    have r1 : Pl.fR1 7 n = 0 := rfl
    have r2 : Pl.fR2 7 n = 0 := rfl
    rw [q, r0, r1, r2, Pl.im_7 hn]
    exact l2Read_7 k h1 h2 q n w
  · have r0 : Pl.fRd 8 n = 0 := rfl
    have r1 : Pl.fR1 8 n = 0 := rfl
    have r2 : Pl.fR2 8 n = 0 := rfl
    rw [q, r0, r1, r2, Pl.im_8 hn]
    exact l2Read_8 k h1 h2 q n w
theorem c_all (k : Nat) (h1 : 1 ≤ k) (h2 : k ≤ 47) (w : World) : Calls Tryz.prog 52 #[.int .i64 (k : Int)] w fun e w' => e = .returned (.int .i64 (Pl.cc k 0)) ∧ Below w.heap.size w w' := by
  by_cases h : k ≤ 42
  · refine (c_any k h1 h w).mono ?_
    rintro e w' ⟨rfl, rfl⟩
    exact ⟨rfl, Below.refl _ _⟩
  rcases (show k = 43 ∨ k = 44 ∨ k = 45 ∨ k = 46 ∨ k = 47 by omega) with rfl | rfl | rfl | rfl | rfl
  · exact c_43 w
  · exact c_44 w
  · exact c_45 w
  · exact c_46 w
  · exact c_47 w
set_option maxHeartbeats 4000000 in
theorem specDec_any (n : Int) (w : World) :
    Calls Tryz.prog 39 #[.int .i64 n] w fun e w' => e = .returned (.tuple #[.agg (Pl.decV n), .bool (Pl.dec n != 0)]) ∧ Below w.heap.size w w' := by
  by_cases hn : 0 ≤ n ∧ n ≤ 4294967295
  rotate_left
  · have HD : Hid (Pl.dec n = 0) := Pl.dec_none (fun j h1 h2 => by
      cases hh : Pl.hit j n
      · rfl
      · exact absurd (Pl.hit_fits h1 h2 hh).2 hn)
    have X0 : Hid ((w.alloc (.cells #[.int .i64 0, .int .i64 0, .int .i64 0, .int .i64 0, .int .i64 0] 67)).heap[w.heap.size]? = some (.cells #[.int .i64 0, .int .i64 0, .int .i64 0, .int .i64 0, .int .i64 0] 67)) := heap_alloc_new w _
    rcases (show n < 0 ∨ (0 ≤ n ∧ 4294967295 < n) by omega) with hlt | ⟨hge, hgt⟩
    all_goals
      clear hn
      go_enter Tryz.func39, Tryz.ntmps39
      go_wp2_with (refine wpList_store_row rfl 67 _ _ rfl (w.heap.size) #[.int .i64 0, .int .i64 0, .int .i64 0, .int .i64 0, .int .i64 0] ?hx ?hy 67 #[.int .i64 0, .int .i64 0, .int .i64 0, .int .i64 0, .int .i64 0] ?hg ?hi ?ho ?h1 ?_; (case hx => rfl); (case hy => rfl); (case hg => exact X0.out); (case hi => kernel_rfl); (case ho => kernel_rfl); (case h1 => kernel_rfl); refine Hid.out ?_)
      unfold Hid
      go_wp2_with fail
      refine bodyPost_ret (v := .tuple #[.agg #[.int .i64 0, .int .i64 0, .int .i64 0, .int .i64 0, .int .i64 0], .bool false]) ?_ rfl ⟨ret_dec (Pl.decV_none HD.out) (by rw [HD.out]; rfl), below_setRow5 (below_alloc w _) (Nat.le_refl _) _⟩
      refine results_cell_tmp Tryz.results39 _ _ (w.heap.size) 67 #[.int .i64 0, .int .i64 0, .int .i64 0, .int .i64 0, .int .i64 0] (0, 0) _ (.bool false) ?hp ?hq ?hg Tryz.underlying67 ?hd ?hi
      case hp => rfl
      case hq => rfl
      case hg => exact setRow_heap _ _ _ _ _ _ X0.out
      case hd => rfl
      case hi => kernel_rfl
  obtain ⟨n1, n2⟩ := hn
  have HN : Hid (0 ≤ n ∧ n ≤ 4294967295) := ⟨n1, n2⟩
  go_enter Tryz.func39, Tryz.ntmps39
  go_wp2_with fail
  go_loopw [4] (fun i wr => ∃ k : Nat, 1 ≤ k ∧ k ≤ 48 ∧ i = .int .i64 k ∧ (∀ j, 1 ≤ j → j < k → Pl.hit j n = false) ∧ wr.heap[w.heap.size]? = some (.cells #[.int .i64 0, .int .i64 0, .int .i64 0, .int .i64 0, .int .i64 0] 67) ∧ Below w.heap.size w wr) (fun i _ => 48 - (intOf i).toNat)
  case atStart => exact ⟨1, Nat.le_refl _, by decide, rfl, fun j h1 h2 => absurd h2 (by omega), heap_alloc_new w _, below_alloc w _⟩
  case round =>
    obtain ⟨k, h1, h2, rfl, hall, hx, hb⟩ := hrel
    have HA : Hid (∀ j, 1 ≤ j → j < k → Pl.hit j n = false) := hall
    have X0 : Hid (wr.heap[w.heap.size]? = some (.cells #[.int .i64 0, .int .i64 0, .int .i64 0, .int .i64 0, .int .i64 0] 67)) := hx
    have B0 : Hid (Below w.heap.size w wr) := hb
    have Z0 : Hid (w.heap.size < wr.heap.size) := (Array.getElem?_eq_some_iff.1 hx).1
    clear hall hx hb
    by_cases hk : k ≤ 47
    · go_wp2_with fail
      refine (c_all k h1 hk wr).mono ?_
      rintro e u1 ⟨rfl, d1⟩
      have X1 : Hid (u1.heap[w.heap.size]? = some (.cells #[.int .i64 0, .int .i64 0, .int .i64 0, .int .i64 0, .int .i64 0] 67)) := (d1.block _ Z0.out).trans X0.out
      have B1 : Hid (Below w.heap.size w u1) := B0.out.trans (d1.mono (Nat.le_of_lt Z0.out))
      have Z1 : Hid (w.heap.size < u1.heap.size) := Nat.lt_of_lt_of_le Z0.out d1.size
      clear d1 X0 B0 Z0
      obtain ⟨x, hx⟩ : ∃ x, x = Pl.cc k 0 := ⟨_, rfl⟩
      rw [← hx]
      have HX : Hid (x = Pl.cc k 0) := hx
      clear hx
      by_cases hc : x = n % 128
      rotate_left
      · have hit : Pl.hit k n = false := by
          cases hh : Pl.hit k n
          · rfl
          · have := ((Pl.fits_iff k n).1 (Pl.hit_fits h1 hk hh).1).1
            exact absurd (HX.out.trans this) hc
        have hc' : (x != n % 128) = true := by simpa using hc
        go_wp2
        go_roundw
        case rel =>
          refine ⟨k + 1, by omega, by omega, by go_num, fun j j1 j2 => ?_, X1.out, B1.out⟩
          by_cases hj : j < k
          · exact HA.out j j1 hj
          · have : j = k := by omega
            subst this; exact hit
        case measure => simp [intOf]; omega
      subst hc
      go_wp2_with fail
      refine (l2Read_any k h1 hk n HN.out u1).mono ?_
      rintro e u2 ⟨rfl, d2⟩
      have X2 : Hid (u2.heap[w.heap.size]? = some (.cells #[.int .i64 0, .int .i64 0, .int .i64 0, .int .i64 0, .int .i64 0] 67)) := (d2.block _ Z1.out).trans X1.out
      have B2 : Hid (Below w.heap.size w u2) := B1.out.trans (d2.mono (Nat.le_of_lt Z1.out))
      have Z2 : Hid (w.heap.size < u2.heap.size) := Nat.lt_of_lt_of_le Z1.out d2.size
      clear d2 X1 B1 Z1
      obtain ⟨a, ha⟩ : ∃ a, a = Pl.fRd (Pl.fmN k) n := ⟨_, rfl⟩
      obtain ⟨b, hb⟩ : ∃ a, a = Pl.fR1 (Pl.fmN k) n := ⟨_, rfl⟩
      obtain ⟨c, hc⟩ : ∃ a, a = Pl.fR2 (Pl.fmN k) n := ⟨_, rfl⟩
      obtain ⟨d, hd⟩ : ∃ a, a = Pl.gIm (Pl.fmN k) n := ⟨_, rfl⟩
      rw [← ha, ← hb, ← hc, ← hd]
      have HV : Hid (a = Pl.fRd (Pl.fmN k) n ∧ b = Pl.fR1 (Pl.fmN k) n ∧ c = Pl.fR2 (Pl.fmN k) n ∧ d = Pl.gIm (Pl.fmN k) n) := ⟨ha, hb, hc, hd⟩
      clear ha hb hc hd
      go_wp2_with (refine wpList_store_row rfl 67 _ _ rfl (u2.heap.size) #[.int .i64 (k : Int), .int .i64 a, .int .i64 b, .int .i64 c, .int .i64 d] ?hx ?hy 67 #[.int .i64 0, .int .i64 0, .int .i64 0, .int .i64 0, .int .i64 0] ?hg ?hi ?ho ?h1 ?_; (case hx => rfl); (case hy => rfl); (case hg => exact heap_alloc_new u2 _); (case hi => kernel_rfl); (case ho => kernel_rfl); (case h1 => kernel_rfl); refine Hid.out ?_)
      unfold Hid
      rw [World.setRow_alloc_new]
      refine wpList_at fun u3 hu3 => ?_
      have d3 : Below u2.heap.size u2 u3 := by rw [hu3]; exact below_alloc u2 _
      have Y3 : Hid (u3.heap[u2.heap.size]? = some (.cells #[.int .i64 (k : Int), .int .i64 a, .int .i64 b, .int .i64 c, .int .i64 d] 67)) := by show u3.heap[u2.heap.size]? = _; rw [hu3]; exact heap_alloc_new u2 _
      have G3 : Hid (u2.heap.size < u3.heap.size) := by show u2.heap.size < u3.heap.size; rw [hu3]; simp
      have X3 : Hid (u3.heap[w.heap.size]? = some (.cells #[.int .i64 0, .int .i64 0, .int .i64 0, .int .i64 0, .int .i64 0] 67)) := (d3.block _ Z2.out).trans X2.out
      have B3 : Hid (Below w.heap.size w u3) := B2.out.trans (d3.mono (Nat.le_of_lt Z2.out))
      have Z3 : Hid (w.heap.size < u3.heap.size) := Nat.lt_of_lt_of_le Z2.out d3.size
      clear d3 hu3 X2 B2 Z2
      obtain ⟨g, hg⟩ : ∃ g, g = u2.heap.size := ⟨_, rfl⟩
      rw [← hg] at Y3 G3 ⊢
      clear hg
      go_wp2_with (refine wpList_load_row rfl 67 _ rfl (g) ?hx 67 #[.int .i64 (k : Int), .int .i64 a, .int .i64 b, .int .i64 c, .int .i64 d] (0, 0) _ ?hg Tryz.underlying67 ?hd ?hi ?_; (case hx => rfl); (case hg => exact Y3.out); (case hd => rfl); (case hi => kernel_rfl))
      cases hit : Pl.hit k n
      · cases hok : iok (k : Int) a b c d
        · refine (specEnc_no _ _ _ _ _ hok u3).mono ?_
          rintro e u4 ⟨rfl, d4⟩
          have X4 : Hid (u4.heap[w.heap.size]? = some (.cells #[.int .i64 0, .int .i64 0, .int .i64 0, .int .i64 0, .int .i64 0] 67)) := (d4.block _ Z3.out).trans X3.out
          have B4 : Hid (Below w.heap.size w u4) := B3.out.trans (d4.mono (Nat.le_of_lt Z3.out))
          clear d4
          go_wp2
          go_roundw
          case rel =>
            refine ⟨k + 1, by omega, by omega, by go_num, fun j j1 j2 => ?_, X4.out, B4.out⟩
            by_cases hj : j < k
            · exact HA.out j j1 hj
            · have : j = k := by omega
              subst this; exact hit
          case measure => simp [intOf]; omega
        · have hne : Pl.enc k a b c d ≠ n := by
            intro he
            obtain ⟨ea, eb, ec, ed⟩ := HV.out
            rw [iok_eq k h1 hk, ea, eb, ec, ed] at hok
            rw [ea, eb, ec, ed] at he
            rw [(Pl.hit_iff k n).2 ⟨hok, he⟩] at hit
            cases hit
          refine (specEnc_yes k h1 hk _ _ _ _ hok u3).mono ?_
          rintro e u4 ⟨rfl, d4⟩
          have X4 : Hid (u4.heap[w.heap.size]? = some (.cells #[.int .i64 0, .int .i64 0, .int .i64 0, .int .i64 0, .int .i64 0] 67)) := (d4.block _ Z3.out).trans X3.out
          have B4 : Hid (Below w.heap.size w u4) := B3.out.trans (d4.mono (Nat.le_of_lt Z3.out))
          clear d4
          obtain ⟨m, hm⟩ : ∃ m, m = Pl.enc k a b c d := ⟨_, rfl⟩
          rw [← hm] at hne ⊢
          have hne' : (m == n) = false := by simpa using hne
          clear hm
          go_wp2
          go_roundw
          case rel =>
            refine ⟨k + 1, by omega, by omega, by go_num, fun j j1 j2 => ?_, X4.out, B4.out⟩
            by_cases hj : j < k
            · exact HA.out j j1 hj
            · have : j = k := by omega
              subst this; exact hit
          case measure => simp [intOf]; omega
      · have HD : Hid (Pl.dec n = k) := Pl.dec_hit h1 hk hit
        obtain ⟨q1, q2⟩ := (Pl.hit_iff k n).1 hit
        obtain ⟨ea, eb, ec, ed⟩ := HV.out
        rw [← ea, ← eb, ← ec, ← ed] at q1 q2
        have hok : iok (k : Int) a b c d = true := by rw [iok_eq k h1 hk]; exact q1
        refine (specEnc_yes k h1 hk _ _ _ _ hok u3).mono ?_
        rintro e u4 ⟨rfl, d4⟩
        have X4 : Hid (u4.heap[w.heap.size]? = some (.cells #[.int .i64 0, .int .i64 0, .int .i64 0, .int .i64 0, .int .i64 0] 67)) := (d4.block _ Z3.out).trans X3.out
        have Y4 : Hid (u4.heap[g]? = some (.cells #[.int .i64 (k : Int), .int .i64 a, .int .i64 b, .int .i64 c, .int .i64 d] 67)) := (d4.block _ G3.out).trans Y3.out
        have B4 : Hid (Below w.heap.size w u4) := B3.out.trans (d4.mono (Nat.le_of_lt Z3.out))
        have HE : Hid (Pl.decV n = #[.int .i64 (k : Int), .int .i64 a, .int .i64 b, .int .i64 c, .int .i64 d]) := by
          show Pl.decV n = #[.int .i64 (k : Int), .int .i64 a, .int .i64 b, .int .i64 c, .int .i64 d]
          rw [Pl.decV_hit h1 HD.out, ea, eb, ec, ed]
        clear d4 q1 ea eb ec ed
        rw [q2]
        clear q2
        go_wp2_with (first | (refine wpList_load_row rfl 67 _ rfl (g) ?hx 67 #[.int .i64 (k : Int), .int .i64 a, .int .i64 b, .int .i64 c, .int .i64 d] (0, 0) _ ?hg Tryz.underlying67 ?hd ?hi ?_; (case hx => rfl); (case hg => exact Y4.out); (case hd => rfl); (case hi => kernel_rfl)) | (refine wpList_store_row rfl 67 _ _ rfl (w.heap.size) #[.int .i64 (k : Int), .int .i64 a, .int .i64 b, .int .i64 c, .int .i64 d] ?hx ?hy 67 #[.int .i64 0, .int .i64 0, .int .i64 0, .int .i64 0, .int .i64 0] ?hg ?hi ?ho ?h1 ?_; (case hx => rfl); (case hy => rfl); (case hg => exact X4.out); (case hi => kernel_rfl); (case ho => kernel_rfl); (case h1 => kernel_rfl); refine Hid.out ?_))
        unfold Hid
        go_wp2_with fail
        refine bodyPost_ret (v := .tuple #[.agg #[.int .i64 (k : Int), .int .i64 a, .int .i64 b, .int .i64 c, .int .i64 d], .bool true]) ?_ rfl ⟨ret_dec HE.out (by rw [HD.out]; simp; omega), below_setRow5 B4.out (Nat.le_refl _) _⟩
        refine results_cell_tmp Tryz.results39 _ _ (w.heap.size) 67 #[.int .i64 (k : Int), .int .i64 a, .int .i64 b, .int .i64 c, .int .i64 d] (0, 0) _ (.bool true) ?hp ?hq ?hg Tryz.underlying67 ?hd ?hi
        case hp => rfl
        case hq => rfl
        case hg => exact setRow_heap _ _ _ _ _ _ X4.out
        case hd => rfl
        case hi => kernel_rfl
    · have hke : k = 48 := by omega
      subst hke
      have HD : Hid (Pl.dec n = 0) := Pl.dec_none (fun j j1 j2 => HA.out j j1 (by omega))
      go_wp2_with (refine wpList_store_row rfl 67 _ _ rfl (w.heap.size) #[.int .i64 0, .int .i64 0, .int .i64 0, .int .i64 0, .int .i64 0] ?hx ?hy 67 #[.int .i64 0, .int .i64 0, .int .i64 0, .int .i64 0, .int .i64 0] ?hg ?hi ?ho ?h1 ?_; (case hx => rfl); (case hy => rfl); (case hg => exact X0.out); (case hi => kernel_rfl); (case ho => kernel_rfl); (case h1 => kernel_rfl); refine Hid.out ?_)
      unfold Hid
      go_wp2_with fail
      refine bodyPost_ret (v := .tuple #[.agg #[.int .i64 0, .int .i64 0, .int .i64 0, .int .i64 0, .int .i64 0], .bool false]) ?_ rfl ⟨ret_dec (Pl.decV_none HD.out) (by rw [HD.out]; rfl), below_setRow5 B0.out (Nat.le_refl _) _⟩
      refine results_cell_tmp Tryz.results39 _ _ (w.heap.size) 67 #[.int .i64 0, .int .i64 0, .int .i64 0, .int .i64 0, .int .i64 0] (0, 0) _ (.bool false) ?hp ?hq ?hg Tryz.underlying67 ?hd ?hi
      case hp => rfl
      case hq => rfl
      case hg => exact setRow_heap _ _ _ _ _ _ X0.out
      case hd => rfl
      case hi => kernel_rfl
end Go.Proofs.YtnapeklkhkonhaaGreatDoor.W
