import Derived.Test.YtafcnijfoejboaaGreatDoorV11
import Derived.ChangeKeysEq
import Derived.Laws.StructEq
import Derived.Test.YtafcnijfoejboaaGreatDoorV16
import Derived.BigQuiet
import Derived.Test.YtafcnijfoejboaaGreatDoorV15
set_option linter.unusedVariables false
set_option linter.unusedSimpArgs false
namespace Go.Proofs.YtafcnijfoejboaaGreatDoor.W
open Go.RowKit
theorem part_int (xs : Array Value) (j : Nat) (v : Value) (h : xs[j]? = some v) (w : World) : (part 3 xs j).run Tryz.prog w = .ok v w := by
  obtain ⟨i0, hi, hz0, hz1, hz2⟩ := info_parts Tryz.infoi64
  simp [part, sizeOf, typeInfo, hi, hz1, h]
theorem items_int (d : Nat) (xs ys : Array Value) (f g : Nat → Int) (w : World) : ∀ is : List Nat, (∀ j ∈ is, xs[j]? = some (.int .i64 (f j)) ∧ ys[j]? = some (.int .i64 (g j))) → (Op.eqItems (d + 1) 3 1 xs ys is).run Tryz.prog w = .ok (is.all fun j => f j == g j) w
  | [], _ => by simp [Op.eqItems]
  | j :: is, h => by
    have ih := items_int d xs ys f g w is (fun k hk => h k (by simp [hk]))
    have h0 := h j (by simp)
    simp only [Op.eqItems, Sem.run_bind, Nat.mul_one, part_int xs j _ h0.1, part_int ys j _ h0.2, Result.andThen_ok, run_equalIn_int _ _ _ _ _ _ _ Tryz.underlying3, List.all_cons]
    cases f j == g j
    · simp only [Bool.not_false, if_true, Sem.run_pure, Bool.false_and]
    · simp only [Bool.not_true, Bool.false_eq_true, if_false, Bool.true_and]
      exact ih
theorem part_a9 (xs : Array Value) (w : World) (h : 12 ≤ xs.size) : (part 98 xs 3).run Tryz.prog w = .ok (.agg (xs.extract 3 12)) w := by
  have hi : (Tryz.prog.info? 98).map (fun i => i.size) = some 9 := by kernel_rfl
  obtain ⟨i0, hi0, hz⟩ := Option.map_eq_some_iff.1 hi
  simp [part, sizeOf, typeInfo, hi0, hz, Tryz.underlying98]
theorem a9_get (a b c : Value) (L : List Value) (hl : L.length = 10) (j : Nat) (hj : j < 9) : ((a :: b :: c :: L).toArray.extract 3 12)[j]? = L[j]? := by
  rw [Array.getElem?_extract]
  have : j < min 12 (a :: b :: c :: L).toArray.size - 3 := by simp [hl]; omega
  rw [if_pos this]
  simp [show 3 + j = j + 1 + 1 + 1 from by omega]
set_option maxHeartbeats 2000000 in
theorem eqKey (n0 n1 n2 n3 n4 n5 n6 n7 n8 n9 n10 n11 n12 m0 m1 m2 m3 m4 m5 m6 m7 m8 m9 m10 m11 m12 : Int) (w : World) : (binOp .eql 100 (.agg #[.int .i64 n0, .int .i64 n1, .int .i64 n2, .int .i64 n3, .int .i64 n4, .int .i64 n5, .int .i64 n6, .int .i64 n7, .int .i64 n8, .int .i64 n9, .int .i64 n10, .int .i64 n11, .int .i64 n12]) (.agg #[.int .i64 m0, .int .i64 m1, .int .i64 m2, .int .i64 m3, .int .i64 m4, .int .i64 m5, .int .i64 m6, .int .i64 m7, .int .i64 m8, .int .i64 m9, .int .i64 m10, .int .i64 m11, .int .i64 m12])).run Tryz.prog w = .ok (.bool (Pl.dec ([n0, n1, n2, n3, n4, n5, n6, n7, n8, n9, n10, n11, n12] = [m0, m1, m2, m3, m4, m5, m6, m7, m8, m9, m10, m11, m12]))) w := by
  have hp : Tryz.prog.stoodInHeld 100 = false := by kernel_rfl
  have hf : Tryz.prog.underlying 100 = some (.struct (Tryz.prog.fieldsOf 100)) := by simp [Program.fieldsOf, Tryz.underlying100]
  obtain ⟨i0, hi, hz0, hz1, hz2⟩ := info_parts Tryz.infoi64
  have h3 : Tryz.prog.cellsOf 3 = 1 := by kernel_rfl
  have I : ∀ w, (Op.equalIn (9997 + 1 + 1) 98 (.agg ((#[.int .i64 n0, .int .i64 n1, .int .i64 n2, .int .i64 n3, .int .i64 n4, .int .i64 n5, .int .i64 n6, .int .i64 n7, .int .i64 n8, .int .i64 n9, .int .i64 n10, .int .i64 n11, .int .i64 n12] : Array Value).extract 3 12)) (.agg ((#[.int .i64 m0, .int .i64 m1, .int .i64 m2, .int .i64 m3, .int .i64 m4, .int .i64 m5, .int .i64 m6, .int .i64 m7, .int .i64 m8, .int .i64 m9, .int .i64 m10, .int .i64 m11, .int .i64 m12] : Array Value).extract 3 12))).run Tryz.prog w = .ok ((List.range 9).all fun j => ([n3, n4, n5, n6, n7, n8, n9, n10, n11] : List Int).getD j 0 == ([m3, m4, m5, m6, m7, m8, m9, m10, m11] : List Int).getD j 0) w := fun w => by
    rw [run_equalIn_array w (9997 + 1) _ _ Tryz.underlying98 hi, h3]
    refine items_int 9997 _ _ _ _ w _ (fun j hj => ?_)
    have hj9 : j < 9 := by simpa using hj
    rw [a9_get _ _ _ _ rfl j hj9, a9_get _ _ _ _ rfl j hj9]
    rcases (show j = 0 ∨ j = 1 ∨ j = 2 ∨ j = 3 ∨ j = 4 ∨ j = 5 ∨ j = 6 ∨ j = 7 ∨ j = 8 by omega) with rfl | rfl | rfl | rfl | rfl | rfl | rfl | rfl | rfl <;> exact ⟨rfl, rfl⟩
  have q0 := fun w => part_a9 (#[.int .i64 n0, .int .i64 n1, .int .i64 n2, .int .i64 n3, .int .i64 n4, .int .i64 n5, .int .i64 n6, .int .i64 n7, .int .i64 n8, .int .i64 n9, .int .i64 n10, .int .i64 n11, .int .i64 n12] : Array Value) w (by simp)
  have q1 := fun w => part_a9 (#[.int .i64 m0, .int .i64 m1, .int .i64 m2, .int .i64 m3, .int .i64 m4, .int .i64 m5, .int .i64 m6, .int .i64 m7, .int .i64 m8, .int .i64 m9, .int .i64 m10, .int .i64 m11, .int .i64 m12] : Array Value) w (by simp)
  have x0 := fun w => part_int (#[.int .i64 n0, .int .i64 n1, .int .i64 n2, .int .i64 n3, .int .i64 n4, .int .i64 n5, .int .i64 n6, .int .i64 n7, .int .i64 n8, .int .i64 n9, .int .i64 n10, .int .i64 n11, .int .i64 n12] : Array Value) 0 (.int .i64 n0) rfl w
  have x1 := fun w => part_int (#[.int .i64 n0, .int .i64 n1, .int .i64 n2, .int .i64 n3, .int .i64 n4, .int .i64 n5, .int .i64 n6, .int .i64 n7, .int .i64 n8, .int .i64 n9, .int .i64 n10, .int .i64 n11, .int .i64 n12] : Array Value) 1 (.int .i64 n1) rfl w
  have x2 := fun w => part_int (#[.int .i64 n0, .int .i64 n1, .int .i64 n2, .int .i64 n3, .int .i64 n4, .int .i64 n5, .int .i64 n6, .int .i64 n7, .int .i64 n8, .int .i64 n9, .int .i64 n10, .int .i64 n11, .int .i64 n12] : Array Value) 2 (.int .i64 n2) rfl w
  have x12 := fun w => part_int (#[.int .i64 n0, .int .i64 n1, .int .i64 n2, .int .i64 n3, .int .i64 n4, .int .i64 n5, .int .i64 n6, .int .i64 n7, .int .i64 n8, .int .i64 n9, .int .i64 n10, .int .i64 n11, .int .i64 n12] : Array Value) 12 (.int .i64 n12) rfl w
  have y0 := fun w => part_int (#[.int .i64 m0, .int .i64 m1, .int .i64 m2, .int .i64 m3, .int .i64 m4, .int .i64 m5, .int .i64 m6, .int .i64 m7, .int .i64 m8, .int .i64 m9, .int .i64 m10, .int .i64 m11, .int .i64 m12] : Array Value) 0 (.int .i64 m0) rfl w
  have y1 := fun w => part_int (#[.int .i64 m0, .int .i64 m1, .int .i64 m2, .int .i64 m3, .int .i64 m4, .int .i64 m5, .int .i64 m6, .int .i64 m7, .int .i64 m8, .int .i64 m9, .int .i64 m10, .int .i64 m11, .int .i64 m12] : Array Value) 1 (.int .i64 m1) rfl w
  have y2 := fun w => part_int (#[.int .i64 m0, .int .i64 m1, .int .i64 m2, .int .i64 m3, .int .i64 m4, .int .i64 m5, .int .i64 m6, .int .i64 m7, .int .i64 m8, .int .i64 m9, .int .i64 m10, .int .i64 m11, .int .i64 m12] : Array Value) 2 (.int .i64 m2) rfl w
  have y12 := fun w => part_int (#[.int .i64 m0, .int .i64 m1, .int .i64 m2, .int .i64 m3, .int .i64 m4, .int .i64 m5, .int .i64 m6, .int .i64 m7, .int .i64 m8, .int .i64 m9, .int .i64 m10, .int .i64 m11, .int .i64 m12] : Array Value) 12 (.int .i64 m12) rfl w
  rw [run_eql_struct, show (10000 : Nat) = 9997 + 1 + 1 + 1 from rfl, run_equalIn_struct w _ _ _ _ hf hp]
  have hfl : (Tryz.prog.fieldsOf 100).toList = [{ name := "kind", type := 3, offset := 0, embedded := false, tag := "", pkgPath := "loop.example/s01681/impl", byteOffset := 0 }, { name := "n", type := 3, offset := 1, embedded := false, tag := "", pkgPath := "loop.example/s01681/impl", byteOffset := 8 }, { name := "count", type := 3, offset := 2, embedded := false, tag := "", pkgPath := "loop.example/s01681/impl", byteOffset := 16 }, { name := "of", type := 98, offset := 3, embedded := false, tag := "", pkgPath := "loop.example/s01681/impl", byteOffset := 24 }, { name := "own", type := 3, offset := 12, embedded := false, tag := "", pkgPath := "loop.example/s01681/impl", byteOffset := 96 }] := by simp [Program.fieldsOf, Tryz.underlying100]
  rw [hfl]
  have hd : Pl.dec ([n0, n1, n2, n3, n4, n5, n6, n7, n8, n9, n10, n11, n12] = [m0, m1, m2, m3, m4, m5, m6, m7, m8, m9, m10, m11, m12]) = (n0 == m0 && (n1 == m1 && (n2 == m2 && (((List.range 9).all fun j => ([n3, n4, n5, n6, n7, n8, n9, n10, n11] : List Int).getD j 0 == ([m3, m4, m5, m6, m7, m8, m9, m10, m11] : List Int).getD j 0) && n12 == m12)))) := by
    rw [show List.range 9 = [0, 1, 2, 3, 4, 5, 6, 7, 8] from rfl]
    by_cases h : [n0, n1, n2, n3, n4, n5, n6, n7, n8, n9, n10, n11, n12] = [m0, m1, m2, m3, m4, m5, m6, m7, m8, m9, m10, m11, m12]
    · rw [Pl.dec_yes h]
      simp only [List.cons.injEq, and_true] at h
      obtain ⟨rfl, rfl, rfl, rfl, rfl, rfl, rfl, rfl, rfl, rfl, rfl, rfl, rfl⟩ := h
      simp
    · rw [Pl.dec_no h]
      symm
      rw [Bool.eq_false_iff]
      intro c
      apply h
      simp at c
      simp only [List.cons.injEq, and_true]
      omega
  rw [hd]
  generalize ((List.range 9).all fun j => ([n3, n4, n5, n6, n7, n8, n9, n10, n11] : List Int).getD j 0 == ([m3, m4, m5, m6, m7, m8, m9, m10, m11] : List Int).getD j 0) = B at I
  generalize (#[.int .i64 n0, .int .i64 n1, .int .i64 n2, .int .i64 n3, .int .i64 n4, .int .i64 n5, .int .i64 n6, .int .i64 n7, .int .i64 n8, .int .i64 n9, .int .i64 n10, .int .i64 n11, .int .i64 n12] : Array Value) = X at *
  generalize (#[.int .i64 m0, .int .i64 m1, .int .i64 m2, .int .i64 m3, .int .i64 m4, .int .i64 m5, .int .i64 m6, .int .i64 m7, .int .i64 m8, .int .i64 m9, .int .i64 m10, .int .i64 m11, .int .i64 m12] : Array Value) = Y at *
  simp only [Op.eqFields, Sem.run_bind, x0, y0, Result.andThen_ok, run_equalIn_int _ _ _ _ _ _ _ Tryz.underlying3, ne_eq, String.reduceEq, not_false_eq_true, if_true]
  cases n0 == m0 <;> simp only [Bool.not_false, Bool.not_true, if_true, Bool.false_eq_true, if_false, Sem.run_pure, Sem.run_bind, Result.andThen_ok, Bool.false_and, Bool.true_and, x1, y1, run_equalIn_int _ _ _ _ _ _ _ Tryz.underlying3, ne_eq, String.reduceEq, not_false_eq_true]
  cases n1 == m1 <;> simp only [Bool.not_false, Bool.not_true, if_true, Bool.false_eq_true, if_false, Sem.run_pure, Sem.run_bind, Result.andThen_ok, Bool.false_and, Bool.true_and, x2, y2, run_equalIn_int _ _ _ _ _ _ _ Tryz.underlying3, ne_eq, String.reduceEq, not_false_eq_true]
  cases n2 == m2 <;> simp only [Bool.not_false, Bool.not_true, if_true, Bool.false_eq_true, if_false, Sem.run_pure, Sem.run_bind, Result.andThen_ok, Bool.false_and, Bool.true_and, q0, q1, I, run_equalIn_int _ _ _ _ _ _ _ Tryz.underlying3, ne_eq, String.reduceEq, not_false_eq_true]
  cases B <;> simp only [Bool.not_false, Bool.not_true, if_true, Bool.false_eq_true, if_false, Sem.run_pure, Sem.run_bind, Result.andThen_ok, Bool.false_and, Bool.true_and, x12, y12, run_equalIn_int _ _ _ _ _ _ _ Tryz.underlying3, ne_eq, String.reduceEq, not_false_eq_true]
  cases n12 == m12 <;> simp only [Bool.not_false, Bool.not_true, if_true, Bool.false_eq_true, if_false, Sem.run_pure, Sem.run_bind, Result.andThen_ok, Bool.false_and, Bool.true_and, x12, run_equalIn_int _ _ _ _ _ _ _ Tryz.underlying3, ne_eq, String.reduceEq, not_false_eq_true]
end Go.Proofs.YtafcnijfoejboaaGreatDoor.W
namespace Go.Proofs.YtafcnijfoejboaaGreatDoor.W
open Go.RowKit Go.Maps Go.WideMaps
theorem eqIn_of {t : TypeId} {xs ys : Array Value} {b : Bool} {w : World} (h : (binOp .eql t (.agg xs) (.agg ys)).run Tryz.prog w = .ok (.bool b) w) : (Op.equalIn 10000 t (.agg xs) (.agg ys)).run Tryz.prog w = .ok b w := by
  rw [run_eql_struct] at h
  generalize (Op.equalIn 10000 t (.agg xs) (.agg ys)).run Tryz.prog w = r at h
  cases r with
  | ok b w1 => simp only [Result.andThen_ok, Result.ok.injEq, Value.bool.injEq] at h; rw [h.1, h.2]
  | halt x w1 => simp [Result.andThen] at h
theorem TSt.key13 {w0 : World} {z : Nat} {a : Option Addr} {len cap : Nat} {lc : Array Value} {Ks : List (List Int)} {kv : Value} {u : World} (h : TSt w0 z a len cap lc Ks kv u) {j : Nat} (hj : j < Ks.length) : (Ks.getD j []).length = 13 := by
  refine (h.kk _ ?_).1
  rw [List.getD_eq_getElem?_getD, List.getElem?_eq_getElem hj]
  exact List.getElem_mem _
set_option maxHeartbeats 4000000 in
set_option maxRecDepth 8000 in
theorem same_any {w0 : World} {z : Nat} {a : Option Addr} {len cap : Nat} {lc : Array Value} {Ks : List (List Int)} {kv : Value} (i j : Nat) (hi : i < Ks.length) (hj : j < Ks.length) (u : World) (h : TSt w0 z a len cap lc Ks kv u) :
    Calls Tryz.prog 37 #[.pointer (some ⟨z + 2, 0, none⟩), .int .i64 i, .int .i64 j] u fun e u' => e = .returned (.bool (Pl.dec (Ks.getD i [] = Ks.getD j []))) ∧ Below u.heap.size u u' := by
  obtain ⟨_, g1, _, _⟩ := h.cells
  obtain ⟨gk, ck, rfl, hgk, hck, hcm, hci⟩ := h.key hi
  obtain ⟨gk2, ck2, e2, _, _, _, hcj⟩ := h.key hj
  injection e2 with e3 e4 e5
  injection e3 with e3
  injection e3 with e3
  subst e3
  have hli := h.key13 hi
  have hlj := h.key13 hj
  have hii : (i : Int) < (Ks.length : Int) := by omega
  have hjj : (j : Int) < (Ks.length : Int) := by omega
  have hKl : (Ks.length : Int) ≤ 9223372036854775807 := by unfold maxLen at hcm; omega
  clear h e4 e5 hi hj
  generalize Ks.getD i [] = K at hci hli ⊢
  generalize Ks.getD j [] = M at hcj hlj ⊢
  obtain ⟨n0, n1, n2, n3, n4, n5, n6, n7, n8, n9, n10, n11, n12, rfl⟩ : ∃ n0 n1 n2 n3 n4 n5 n6 n7 n8 n9 n10 n11 n12, K = [n0, n1, n2, n3, n4, n5, n6, n7, n8, n9, n10, n11, n12] := by
    match K, hli with
    | [n0, n1, n2, n3, n4, n5, n6, n7, n8, n9, n10, n11, n12], _ => exact ⟨n0, n1, n2, n3, n4, n5, n6, n7, n8, n9, n10, n11, n12, rfl⟩
  obtain ⟨m0, m1, m2, m3, m4, m5, m6, m7, m8, m9, m10, m11, m12, rfl⟩ : ∃ m0 m1 m2 m3 m4 m5 m6 m7 m8 m9 m10 m11 m12, M = [m0, m1, m2, m3, m4, m5, m6, m7, m8, m9, m10, m11, m12] := by
    match M, hlj with
    | [m0, m1, m2, m3, m4, m5, m6, m7, m8, m9, m10, m11, m12], _ => exact ⟨m0, m1, m2, m3, m4, m5, m6, m7, m8, m9, m10, m11, m12, rfl⟩
  have f0 : u.cell? ⟨gk, i * 13, none⟩ = some (.int .i64 n0) := hci 0 (by decide)
  have f1 : u.cell? ⟨gk, i * 13 + 1, none⟩ = some (.int .i64 n1) := hci 1 (by decide)
  have f2 : u.cell? ⟨gk, i * 13 + 2, none⟩ = some (.int .i64 n2) := hci 2 (by decide)
  have f3 : u.cell? ⟨gk, i * 13 + 3, none⟩ = some (.int .i64 n3) := hci 3 (by decide)
  have f4 : u.cell? ⟨gk, i * 13 + 4, none⟩ = some (.int .i64 n4) := hci 4 (by decide)
  have f5 : u.cell? ⟨gk, i * 13 + 5, none⟩ = some (.int .i64 n5) := hci 5 (by decide)
  have f6 : u.cell? ⟨gk, i * 13 + 6, none⟩ = some (.int .i64 n6) := hci 6 (by decide)
  have f7 : u.cell? ⟨gk, i * 13 + 7, none⟩ = some (.int .i64 n7) := hci 7 (by decide)
  have f8 : u.cell? ⟨gk, i * 13 + 8, none⟩ = some (.int .i64 n8) := hci 8 (by decide)
  have f9 : u.cell? ⟨gk, i * 13 + 9, none⟩ = some (.int .i64 n9) := hci 9 (by decide)
  have f10 : u.cell? ⟨gk, i * 13 + 10, none⟩ = some (.int .i64 n10) := hci 10 (by decide)
  have f11 : u.cell? ⟨gk, i * 13 + 11, none⟩ = some (.int .i64 n11) := hci 11 (by decide)
  have f12 : u.cell? ⟨gk, i * 13 + 12, none⟩ = some (.int .i64 n12) := hci 12 (by decide)
  have e0 : u.cell? ⟨gk, j * 13, none⟩ = some (.int .i64 m0) := hcj 0 (by decide)
  have e1 : u.cell? ⟨gk, j * 13 + 1, none⟩ = some (.int .i64 m1) := hcj 1 (by decide)
  have e2 : u.cell? ⟨gk, j * 13 + 2, none⟩ = some (.int .i64 m2) := hcj 2 (by decide)
  have e3 : u.cell? ⟨gk, j * 13 + 3, none⟩ = some (.int .i64 m3) := hcj 3 (by decide)
  have e4 : u.cell? ⟨gk, j * 13 + 4, none⟩ = some (.int .i64 m4) := hcj 4 (by decide)
  have e5 : u.cell? ⟨gk, j * 13 + 5, none⟩ = some (.int .i64 m5) := hcj 5 (by decide)
  have e6 : u.cell? ⟨gk, j * 13 + 6, none⟩ = some (.int .i64 m6) := hcj 6 (by decide)
  have e7 : u.cell? ⟨gk, j * 13 + 7, none⟩ = some (.int .i64 m7) := hcj 7 (by decide)
  have e8 : u.cell? ⟨gk, j * 13 + 8, none⟩ = some (.int .i64 m8) := hcj 8 (by decide)
  have e9 : u.cell? ⟨gk, j * 13 + 9, none⟩ = some (.int .i64 m9) := hcj 9 (by decide)
  have e10 : u.cell? ⟨gk, j * 13 + 10, none⟩ = some (.int .i64 m10) := hcj 10 (by decide)
  have e11 : u.cell? ⟨gk, j * 13 + 11, none⟩ = some (.int .i64 m11) := hcj 11 (by decide)
  have e12 : u.cell? ⟨gk, j * 13 + 12, none⟩ = some (.int .i64 m12) := hcj 12 (by decide)
  obtain ⟨bb, hbb⟩ : ∃ bb, bb = Pl.dec ([n0, n1, n2, n3, n4, n5, n6, n7, n8, n9, n10, n11, n12] = [m0, m1, m2, m3, m4, m5, m6, m7, m8, m9, m10, m11, m12]) := ⟨_, rfl⟩
  have HB : Hid (Pl.dec ([n0, n1, n2, n3, n4, n5, n6, n7, n8, n9, n10, n11, n12] = [m0, m1, m2, m3, m4, m5, m6, m7, m8, m9, m10, m11, m12]) = bb) := hbb.symm
  have hrun : ∀ n, (binOp .eql 100 (.agg #[.int .i64 n0, .int .i64 n1, .int .i64 n2, .int .i64 n3, .int .i64 n4, .int .i64 n5, .int .i64 n6, .int .i64 n7, .int .i64 n8, .int .i64 n9, .int .i64 n10, .int .i64 n11, .int .i64 n12]) (.agg #[.int .i64 m0, .int .i64 m1, .int .i64 m2, .int .i64 m3, .int .i64 m4, .int .i64 m5, .int .i64 m6, .int .i64 m7, .int .i64 m8, .int .i64 m9, .int .i64 m10, .int .i64 m11, .int .i64 m12])).run Tryz.prog (u.drewN n) = .ok (.bool bb) (u.drewN n) := fun n => by rw [hbb]; exact eqKey n0 n1 n2 n3 n4 n5 n6 n7 n8 n9 n10 n11 n12 m0 m1 m2 m3 m4 m5 m6 m7 m8 m9 m10 m11 m12 _
  have hrun2 : ∀ n, (Op.equalIn 10000 100 (.agg #[.int .i64 n0, .int .i64 n1, .int .i64 n2, .int .i64 n3, .int .i64 n4, .int .i64 n5, .int .i64 n6, .int .i64 n7, .int .i64 n8, .int .i64 n9, .int .i64 n10, .int .i64 n11, .int .i64 n12]) (.agg #[.int .i64 m0, .int .i64 m1, .int .i64 m2, .int .i64 m3, .int .i64 m4, .int .i64 m5, .int .i64 m6, .int .i64 m7, .int .i64 m8, .int .i64 m9, .int .i64 m10, .int .i64 m11, .int .i64 m12])).run Tryz.prog (u.drewN n) = .ok bb (u.drewN n) := fun n => eqIn_of (hrun n)
  have hg9 : Tryz.prog.eqGuardType Tryz.prog.depth 100 = false := by kernel_rfl
  clear hci hcj hli hlj hbb
  go_enter Tryz.func37, Tryz.ntmps37
  go_wp2_with fail
  refine wp_region_quiet_lit (by kernel_rfl) (by kernel_rfl) ?_
  repeat (go_big_quiet_step (fail))
  go_big_quiet_want
  refine ⟨.bool bb, fun w' hw' => ?_, ?_⟩
  · obtain ⟨nq, rfl⟩ := hw'
    unfold Oper.quietAt
    have he := hrun nq
    have h2 := run_eqGuard_agg (P := Tryz.prog) (u.drewN nq) .eql 100 (.tmp 13) (.tmp 20) #[.int .i64 n0, .int .i64 n1, .int .i64 n2, .int .i64 n3, .int .i64 n4, .int .i64 n5, .int .i64 n6, .int .i64 n7, .int .i64 n8, .int .i64 n9, .int .i64 n10, .int .i64 n11, .int .i64 n12] #[.int .i64 m0, .int .i64 m1, .int .i64 m2, .int .i64 m3, .int .i64 m4, .int .i64 m5, .int .i64 m6, .int .i64 m7, .int .i64 m8, .int .i64 m9, .int .i64 m10, .int .i64 m11, .int .i64 m12] hg9
    simp only [execOp, Act.eval]
    change Oper.quietUpon Tryz.prog _ (u.drewN nq) (.bool bb) ((do let v ← (do eqGuard .eql 100 (.tmp 13) (.tmp 20) (.agg #[.int .i64 n0, .int .i64 n1, .int .i64 n2, .int .i64 n3, .int .i64 n4, .int .i64 n5, .int .i64 n6, .int .i64 n7, .int .i64 n8, .int .i64 n9, .int .i64 n10, .int .i64 n11, .int .i64 n12]) (.agg #[.int .i64 m0, .int .i64 m1, .int .i64 m2, .int .i64 m3, .int .i64 m4, .int .i64 m5, .int .i64 m6, .int .i64 m7, .int .i64 m8, .int .i64 m9, .int .i64 m10, .int .i64 m11, .int .i64 m12]); binOp .eql 100 (.agg #[.int .i64 n0, .int .i64 n1, .int .i64 n2, .int .i64 n3, .int .i64 n4, .int .i64 n5, .int .i64 n6, .int .i64 n7, .int .i64 n8, .int .i64 n9, .int .i64 n10, .int .i64 n11, .int .i64 n12]) (.agg #[.int .i64 m0, .int .i64 m1, .int .i64 m2, .int .i64 m3, .int .i64 m4, .int .i64 m5, .int .i64 m6, .int .i64 m7, .int .i64 m8, .int .i64 m9, .int .i64 m10, .int .i64 m11, .int .i64 m12])); pure (Next.value v) : Sem Next).run Tryz.prog (u.drewN nq))
    rw [Sem.run_bind, Sem.run_bind, h2, Result.andThen_ok, he, Result.andThen_ok, Sem.run_pure]
    exact ⟨rfl, rfl⟩
  simp only [Act.put, List.setIfInBounds_toArray, List.set_cons_succ, List.set_cons_zero]
  go_big_quiet_on
  repeat (go_big_quiet_step (fail))
  refine wpQuiet_nil ?_
  intro _ hw'
  obtain ⟨nq, rfl⟩ := hw'
  go_wp2_with fail
  go_ret
  exact ⟨by rw [HB.out]; rfl, by repeat (first | exact Below.refl _ _ | refine below_drewN ?_ _)⟩
end Go.Proofs.YtafcnijfoejboaaGreatDoor.W
namespace Go.Proofs.YtafcnijfoejboaaGreatDoor.Pl
def kyP (xs : List Ty) (len a : Nat) : List Int := (keys xs len).getD a []
theorem keys_take (xs : List Ty) : ∀ n i, i ≤ n → (keys xs n).take i = keys xs i
  | 0, i, h => by
    have : i = 0 := by omega
    subst this; rfl
  | n + 1, i, h => by
    by_cases e : i = n + 1
    · subst e; rw [List.take_of_length_le (by rw [keys_len]; exact Nat.le_refl _)]
    · show (keys xs n ++ [_]).take i = _
      rw [List.take_append_of_le_length (by rw [keys_len]; omega)]
      exact keys_take xs n i (by omega)
theorem keys_at (xs : List Ty) : ∀ n i, i < n → (keys xs n).getD i [] = keyF xs (keys xs i) (xs.getD i Ty.zero) i
  | 0, i, h => absurd h (Nat.not_lt_zero _)
  | n + 1, i, h => by
    show (keys xs n ++ [_]).getD i [] = _
    rw [List.getD_eq_getElem?_getD]
    by_cases e : i = n
    · subst e
      rw [List.getElem?_append_right (by rw [keys_len]; exact Nat.le_refl _), keys_len]
      simp
    · rw [List.getElem?_append_left (by rw [keys_len]; omega), ← List.getD_eq_getElem?_getD]
      exact keys_at xs n i (by omega)
def fstK (xs : List Ty) (len z : Nat) : Nat := if tagd (xs.getD z Ty.zero).k = true then z else (keys xs len).idxOf (kyP xs len z)
theorem kyP_mem {xs : List Ty} {len z : Nat} (hz : z < len) : kyP xs len z ∈ keys xs len := by
  unfold kyP
  rw [List.getD_eq_getElem?_getD, List.getElem?_eq_getElem (by rw [keys_len]; exact hz)]
  exact List.getElem_mem _
theorem fstF_eq {xs : List Ty} {len a z : Nat} (ha : a ≤ len) (hz : tagd (xs.getD z Ty.zero).k = true ∨ z < a) : fstF xs (keys xs a) (z : Int) = (fstK xs len z : Int) := by
  unfold fstF fstK
  rw [Int.toNat_natCast]
  by_cases ht : tagd (xs.getD z Ty.zero).k = true
  · rw [if_pos ht, if_pos ht]
  · rw [if_neg ht, if_neg ht]
    have hz' : z < a := hz.resolve_left ht
    have e : (keys xs a).getD z [] = kyP xs len z := by unfold kyP; rw [keys_at xs a z hz', keys_at xs len z (by omega)]
    rw [e]
    have e2 : keys xs len = keys xs a ++ (keys xs len).drop a := by
      have := (List.take_append_drop a (keys xs len)).symm
      rw [keys_take xs len a ha] at this
      exact this
    have hm : kyP xs len z ∈ keys xs a := by
      rw [← e, List.getD_eq_getElem?_getD, List.getElem?_eq_getElem (by rw [keys_len]; exact hz')]
      exact List.getElem_mem _
    have e3 : (keys xs len).idxOf (kyP xs len z) = (keys xs a).idxOf (kyP xs len z) := by
      rw [congrArg (fun l => List.idxOf (kyP xs len z) l) e2]
      simp only [List.idxOf_append, hm, if_true]
    rw [e3]
theorem fstK_get {xs : List Ty} {len z : Nat} (hz : z < len) : (keys xs len).getD (fstK xs len z) [] = kyP xs len z := by
  unfold fstK
  split
  · rfl
  · have hm := kyP_mem (xs := xs) hz
    have hl := List.idxOf_lt_length_of_mem hm
    rw [List.getD_eq_getElem?_getD, List.getElem?_eq_getElem hl]
    simp
theorem keyF_kind (xs : List Ty) (Ks : List (List Int)) (x : Ty) (i : Nat) : (keyF xs Ks x i).getD 0 0 = x.k := by
  unfold keyF
  split <;> simp
theorem fstK_iff {xs : List Ty} {len z y : Nat} (hz : z < len) (hy : y < len) : fstK xs len z = fstK xs len y ↔ kyP xs len z = kyP xs len y := by
  refine ⟨fun h => by rw [← fstK_get hz, h, fstK_get hy], fun h => ?_⟩
  have h' := h
  unfold kyP at h'
  rw [keys_at xs len z hz, keys_at xs len y hy] at h'
  have hk : (xs.getD z Ty.zero).k = (xs.getD y Ty.zero).k := by
    rw [← keyF_kind xs (keys xs z) (xs.getD z Ty.zero) z, h', keyF_kind]
  unfold fstK
  rw [hk, h]
  split
  · rename_i ht
    unfold keyF at h'
    rw [if_pos (by rw [hk]; exact ht), if_pos ht] at h'
    simp at h'
    omega
  · rfl
theorem getD_get (l : List Int) (p : Nat) (h : p < l.length) : l.getD p 0 = l[p] := by
  rw [List.getD_eq_getElem?_getD, List.getElem?_eq_getElem h]; rfl
theorem map_at {f : Int → Int} {l m : List Int} (h : l.map f = m.map f) {p : Nat} (hp : p < l.length) (hq : p < m.length) : f l[p] = f m[p] := by
  have := congrArg (fun r => r[p]?) h
  simpa [hp, hq] using this
theorem pad9_inj {a b : List Int} (h : a.length = b.length) (e : pad9 a = pad9 b) : a = b := by
  unfold pad9 at e
  exact (List.append_inj e h).1
theorem key_rec {xs : List Ty} {len a b : Nat} (ha : a < len) (hb : b < len) (hne : a ≠ b)
    (hpa : tagd (xs.getD a Ty.zero).k = false → ∀ p, p < (xs.getD a Ty.zero).of.length → ∃ z : Nat, ofAt xs a p = z ∧ z < len ∧ (tagd (xs.getD z Ty.zero).k = true ∨ z < a))
    (hpb : tagd (xs.getD b Ty.zero).k = false → ∀ p, p < (xs.getD b Ty.zero).of.length → ∃ z : Nat, ofAt xs b p = z ∧ z < len ∧ (tagd (xs.getD z Ty.zero).k = true ∨ z < b)) :
    kyP xs len a = kyP xs len b ↔ (xs.getD a Ty.zero).k = (xs.getD b Ty.zero).k ∧ (xs.getD a Ty.zero).n = (xs.getD b Ty.zero).n ∧ (xs.getD a Ty.zero).of.length = (xs.getD b Ty.zero).of.length ∧ tagd (xs.getD a Ty.zero).k = false ∧ ∀ p, p < (xs.getD a Ty.zero).of.length → kyP xs len (ofAt xs a p).toNat = kyP xs len (ofAt xs b p).toNat := by
  have ea : kyP xs len a = keyF xs (keys xs a) (xs.getD a Ty.zero) a := keys_at xs len a ha
  have eb : kyP xs len b = keyF xs (keys xs b) (xs.getD b Ty.zero) b := keys_at xs len b hb
  have hk0 : kyP xs len a = kyP xs len b → (xs.getD a Ty.zero).k = (xs.getD b Ty.zero).k := fun h => by
    rw [← keyF_kind xs (keys xs a) (xs.getD a Ty.zero) a, ← ea, h, eb, keyF_kind]
  cases ht : tagd (xs.getD a Ty.zero).k
  rotate_left
  · refine ⟨fun h => ?_, fun h => by cases h.2.2.2.1⟩
    have hk := hk0 h
    rw [ea, eb] at h
    unfold keyF at h
    rw [if_pos ht, if_pos (by rw [← hk]; exact ht)] at h
    simp at h
    omega
  · have hmap : ∀ {c : Nat}, c < len → tagd (xs.getD c Ty.zero).k = false → (∀ p, p < (xs.getD c Ty.zero).of.length → ∃ z : Nat, ofAt xs c p = z ∧ z < len ∧ (tagd (xs.getD z Ty.zero).k = true ∨ z < c)) → (xs.getD c Ty.zero).of.map (fstF xs (keys xs c)) = (xs.getD c Ty.zero).of.map (fun z => (fstK xs len z.toNat : Int)) := fun {c} hc _ hp => by
      refine List.map_congr_left (fun z hz => ?_)
      obtain ⟨p, hp1, hp2⟩ := List.mem_iff_getElem.1 hz
      obtain ⟨z', e1, e2, e3⟩ := hp p hp1
      have e4 : z = (z' : Int) := by rw [← hp2, ← e1]; exact (getD_get _ p hp1).symm
      rw [e4, Int.toNat_natCast]
      exact fstF_eq (by omega) e3
    refine ⟨fun h => ?_, fun ⟨h1, h2, h3, _, h5⟩ => ?_⟩
    · have hk := hk0 h
      have htb : tagd (xs.getD b Ty.zero).k = false := by rw [← hk]; exact ht
      rw [ea, eb] at h
      unfold keyF at h
      rw [if_neg (by rw [ht]; decide), if_neg (by rw [htb]; decide), hmap ha ht (hpa ht), hmap hb htb (hpb htb)] at h
      have h6 := (List.append_inj' h rfl).1
      have h7 := List.append_inj h6 rfl
      have h8 := h7.1
      simp only [List.cons.injEq, and_true] at h8
      have hl : (xs.getD a Ty.zero).of.length = (xs.getD b Ty.zero).of.length := by omega
      refine ⟨hk, h8.2.1, hl, rfl, fun p hp => ?_⟩
      have h9 := pad9_inj (by rw [List.length_map, List.length_map]; exact hl) h7.2
      obtain ⟨z, e1, e2, _⟩ := hpa ht p hp
      obtain ⟨y, f1, f2, _⟩ := hpb htb p (by omega)
      have g := map_at h9 hp (show p < (xs.getD b Ty.zero).of.length by omega)
      have z1 : (xs.getD a Ty.zero).of[p] = (z : Int) := by rw [← e1]; exact (getD_get _ p hp).symm
      have y1 : (xs.getD b Ty.zero).of[p]'(by omega) = (y : Int) := by rw [← f1]; exact (getD_get _ p (by omega)).symm
      rw [z1, y1, Int.toNat_natCast, Int.toNat_natCast] at g
      rw [e1, f1, Int.toNat_natCast, Int.toNat_natCast]
      exact (fstK_iff e2 f2).1 (by omega)
    · have htb : tagd (xs.getD b Ty.zero).k = false := by rw [← h1]; exact ht
      rw [ea, eb]
      unfold keyF
      rw [if_neg (by rw [ht]; decide), if_neg (by rw [htb]; decide), hmap ha ht (hpa ht), hmap hb htb (hpb htb), h1, h2, h3]
      congr 3
      refine List.ext_getElem (by rw [List.length_map, List.length_map]; exact h3) (fun p hp1 hp2 => ?_)
      have hp : p < (xs.getD a Ty.zero).of.length := by simpa using hp1
      obtain ⟨z, e1, e2, _⟩ := hpa ht p hp
      obtain ⟨y, f1, f2, _⟩ := hpb htb p (by omega)
      have z1 : (xs.getD a Ty.zero).of[p] = (z : Int) := by rw [← e1]; exact (getD_get _ p hp).symm
      have y1 : (xs.getD b Ty.zero).of[p]'(by omega) = (y : Int) := by rw [← f1]; exact (getD_get _ p (by omega)).symm
      rw [List.getElem_map, List.getElem_map, z1, y1, Int.toNat_natCast, Int.toNat_natCast]
      have h6 := h5 p hp
      rw [e1, f1, Int.toNat_natCast, Int.toNat_natCast] at h6
      rw [(fstK_iff e2 f2).2 h6]
end Go.Proofs.YtafcnijfoejboaaGreatDoor.Pl
