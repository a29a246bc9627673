import Derived.WalkKit
import Derived.Below
import Derived.Laws.ResultCell
import Derived.Laws.Tables
import Derived.Deep.WholeRow
import Derived.Great.Walk
import Derived.Test.YtjdfffdeljgenaaGreatDoorS00
namespace Go.Proofs.YtjdfffdeljgenaaGreatDoor.Kit
open Go
def buildsRun (P : Program) : List Oper → Act → Option Act
  | [], a => some a
  | o :: os, a => match o.guard, o.op with
    | none, .build t parts => (P.built t (parts.map fun (i, x) => (i, a.eval x)).toList).bind fun cs => buildsRun P os (a.put o.dst (.agg cs))
    | _, _ => none
theorem wpList_allocBig {P : Program} {ops : Array Oper} {rest : List Oper} {o : Oper} {a : Act} {w : World} {Q : Exit → Act → World → Prop} (t : TypeId) (_ho : o.op = .alloc t) (hg : o.guard = none) (cells : Array Value)
    (hrun : (execOp a.eval o).run P w = .ok (.value (.pointer (some ⟨w.heap.size, 0, none⟩))) (w.alloc (.cells cells t)))
    (h : wpList P ops Q rest (a.put o.dst (.pointer (some ⟨w.heap.size, 0, none⟩))) (w.alloc (.cells cells t))) : wpList P ops Q (o :: rest) a w :=
  Great.wpList_allocTo hg _ rfl _ _ hrun h
theorem wpList_builds {P : Program} {ops : Array Oper} {Q : Exit → Act → World → Prop} {w : World} {rest : List Oper} (bs : List Oper) :
    ∀ a a', buildsRun P bs a = some a' → wpList P ops Q rest a' w → wpList P ops Q (bs ++ rest) a w := by
  induction bs with
  | nil => intro a a' h hk; simp [buildsRun] at h; subst h; exact hk
  | cons o os ih =>
    intro a a' h hk
    unfold buildsRun at h
    split at h
    · rename_i t parts hg ho
      cases hb : P.built t (parts.map fun (i, x) => (i, a.eval x)).toList with
      | none => rw [hb] at h; cases h
      | some cs =>
        rw [hb] at h
        refine wpList_build hg t parts ho (by rw [hb]; rfl) ?_
        rw [hb]
        exact ih _ _ h hk
    · cases h
theorem wpList_builds_store {P : Program} {ops : Array Oper} {Q : Exit → Act → World → Prop} {w : World} {rest : List Oper} {o : Oper} {a : Act} (n : Nat) (t : TypeId) (parts : Array (Nat × Operand)) (_ho : o.op = .build t parts)
    (so : Oper) (rest' : List Oper) (hd : (o :: rest).drop n = so :: rest') (hsg : so.guard = none) (ty : TypeId) (p : Tmp) (y : Operand) (hso : so.op = .store ty (.tmp p) y) (hdst : so.dst = none)
    (g : Nat) (cells : Array Value) (hrun : ((buildsRun P ((o :: rest).take n) a).map fun a' => (a'.tmps.getD p undef, a'.eval y, a'.defers.isEmpty)) = some (.pointer (some ⟨g, 0, none⟩), .agg cells, true))
    (tt : TypeId) (old : Array Value) (hg : w.heap[g]? = some (.cells old tt (0, 0))) (hi : (P.info? ty).map (·.size) = some cells.size) (hold : old.size = cells.size) (h1 : cells.all (·.oneCell') = true)
    (h : ∀ a' : Act, a'.tmps.getD p undef = .pointer (some ⟨g, 0, none⟩) → a'.defers = [] → wpList P ops Q rest' a' (w.setRow g cells)) : wpList P ops Q (o :: rest) a w := by
  cases hr : buildsRun P ((o :: rest).take n) a with
  | none => rw [hr] at hrun; cases hrun
  | some a' =>
    rw [hr] at hrun
    simp only [Option.map_some, Option.some.injEq, Prod.mk.injEq] at hrun
    obtain ⟨hp, hy, hdf⟩ := hrun
    have e : o :: rest = (o :: rest).take n ++ so :: rest' := by rw [← hd, List.take_append_drop]
    rw [e]
    refine wpList_builds _ _ _ hr ?_
    refine wpList_store_row hsg ty (.tmp p) y hso g cells hp hy tt old hg hi hold h1 ?_
    have hput : a'.put so.dst undef = a' := by rw [hdst]; rfl
    rw [hput]
    exact h a' hp (by simpa using hdf)
end Go.Proofs.YtjdfffdeljgenaaGreatDoor.Kit
namespace Go.Proofs.YtjdfffdeljgenaaGreatDoor.Pl
def rows : List (List UInt8 × Int × List Int) := [
  ([], 0, [0, 0, 0, 0]),
  ([97, 100, 100], 1, [51, 0, 0, 0]),
  ([115, 117, 98], 1, [51, 0, 32, 0]),
  ([115, 108, 108], 1, [51, 1, 0, 0]),
  ([115, 108, 116], 1, [51, 2, 0, 0]),
  ([115, 108, 116, 117], 1, [51, 3, 0, 0]),
  ([120, 111, 114], 1, [51, 4, 0, 0]),
  ([115, 114, 108], 1, [51, 5, 0, 0]),
  ([115, 114, 97], 1, [51, 5, 32, 0]),
  ([111, 114], 1, [51, 6, 0, 0]),
  ([97, 110, 100], 1, [51, 7, 0, 0]),
  ([109, 117, 108], 1, [51, 0, 1, 0]),
  ([109, 117, 108, 104], 1, [51, 1, 1, 0]),
  ([109, 117, 108, 104, 115, 117], 1, [51, 2, 1, 0]),
  ([109, 117, 108, 104, 117], 1, [51, 3, 1, 0]),
  ([100, 105, 118], 1, [51, 4, 1, 0]),
  ([100, 105, 118, 117], 1, [51, 5, 1, 0]),
  ([114, 101, 109], 1, [51, 6, 1, 0]),
  ([114, 101, 109, 117], 1, [51, 7, 1, 0]),
  ([97, 100, 100, 105], 2, [19, 0, 0, 0]),
  ([115, 108, 116, 105], 2, [19, 2, 0, 0]),
  ([115, 108, 116, 105, 117], 2, [19, 3, 0, 0]),
  ([120, 111, 114, 105], 2, [19, 4, 0, 0]),
  ([111, 114, 105], 2, [19, 6, 0, 0]),
  ([97, 110, 100, 105], 2, [19, 7, 0, 0]),
  ([115, 108, 108, 105], 3, [19, 1, 0, 0]),
  ([115, 114, 108, 105], 3, [19, 5, 0, 0]),
  ([115, 114, 97, 105], 3, [19, 5, 32, 0]),
  ([108, 98], 2, [3, 0, 0, 0]),
  ([108, 104], 2, [3, 1, 0, 0]),
  ([108, 119], 2, [3, 2, 0, 0]),
  ([108, 98, 117], 2, [3, 4, 0, 0]),
  ([108, 104, 117], 2, [3, 5, 0, 0]),
  ([106, 97, 108, 114], 2, [103, 0, 0, 0]),
  ([115, 98], 4, [35, 0, 0, 0]),
  ([115, 104], 4, [35, 1, 0, 0]),
  ([115, 119], 4, [35, 2, 0, 0]),
  ([98, 101, 113], 5, [99, 0, 0, 0]),
  ([98, 110, 101], 5, [99, 1, 0, 0]),
  ([98, 108, 116], 5, [99, 4, 0, 0]),
  ([98, 103, 101], 5, [99, 5, 0, 0]),
  ([98, 108, 116, 117], 5, [99, 6, 0, 0]),
  ([98, 103, 101, 117], 5, [99, 7, 0, 0]),
  ([108, 117, 105], 6, [55, 0, 0, 0]),
  ([97, 117, 105, 112, 99], 6, [23, 0, 0, 0]),
  ([106, 97, 108], 7, [111, 0, 0, 0]),
  ([101, 99, 97, 108, 108], 8, [115, 0, 0, 0]),
  ([101, 98, 114, 101, 97, 107], 8, [115, 0, 0, 1])]

def rowCells (r : List UInt8 × Int × List Int) : List Value := .string ⟨r.1.toArray⟩ :: .int .i64 r.2.1 :: r.2.2.map (Value.int .u8 ·)
def instTab : Array Value := (rows.flatMap rowCells).toArray
def zeroRow : List Value := [.string ⟨#[]⟩, .int .i64 0, .int .u8 0, .int .u8 0, .int .u8 0, .int .u8 0]
def zeroTab : Array Value := (List.replicate 48 zeroRow).flatten.toArray
end Go.Proofs.YtjdfffdeljgenaaGreatDoor.Pl
namespace Go.Proofs.YtjdfffdeljgenaaGreatDoor.W
open Go.RowKit
set_option maxHeartbeats 1000000 in
theorem instTable_any (w : World) : Calls Tryz.prog 128 #[] w fun e w' => e = .returned (.agg Pl.instTab) ∧ w' = w.alloc (.cells Pl.instTab 135) := by
  go_enter Tryz.func128, Tryz.ntmps128
  iterate 3 go_step
  refine Kit.wpList_allocBig 135 rfl rfl Pl.zeroTab (by kernel_rfl) ?_
  iterate 4 go_step
  refine wp_region_lit ?_
  refine Kit.wpList_builds_store 95 _ _ rfl _ _ rfl rfl 135 0 _ rfl rfl w.heap.size Pl.instTab (by kernel_rfl) 135 _ (heap_alloc_new w _) (by kernel_rfl) (by kernel_rfl) (by kernel_rfl) ?_
  intro a' hp hdf
  rw [World.setRow_alloc_new]
  go_wp2
  exact bodyPost_ret (v := .agg Pl.instTab) (results_cell_row Tryz.results128 _ _ w.heap.size 135 Pl.instTab (0, 0) _ hp (heap_alloc_new w _) Tryz.underlying135 rfl (by kernel_rfl)) hdf ⟨rfl, rfl⟩
end Go.Proofs.YtjdfffdeljgenaaGreatDoor.W
namespace Go.Proofs.YtjdfffdeljgenaaGreatDoor.Pl
def nm (k : Nat) : ByteArray := ⟨(rows.getD k ([], 0, [])).1.toArray⟩
def fm (k : Nat) : Int := (rows.getD k ([], 0, [])).2.1
def cc (k i : Nat) : Int := (rows.getD k ([], 0, [])).2.2.getD i 0
def rowV (k : Nat) : Array Value := #[.string (nm k), .int .i64 (fm k), .int .u8 (cc k 0), .int .u8 (cc k 1), .int .u8 (cc k 2), .int .u8 (cc k 3)]
end Go.Proofs.YtjdfffdeljgenaaGreatDoor.Pl
namespace Go.Proofs.YtjdfffdeljgenaaGreatDoor.W
open Go.RowKit
theorem tab_index (w : World) : ∀ k : Nat, k < 48 → (Instr.index 135 (.agg Pl.instTab) (.int .i64 (k : Int))).run Tryz.prog w = .ok (.agg (Pl.rowV k)) w
  | 0, _ => by kernel_rfl
  | 1, _ => by kernel_rfl
  | 2, _ => by kernel_rfl
  | 3, _ => by kernel_rfl
  | 4, _ => by kernel_rfl
  | 5, _ => by kernel_rfl
  | 6, _ => by kernel_rfl
  | 7, _ => by kernel_rfl
  | 8, _ => by kernel_rfl
  | 9, _ => by kernel_rfl
  | 10, _ => by kernel_rfl
  | 11, _ => by kernel_rfl
  | 12, _ => by kernel_rfl
  | 13, _ => by kernel_rfl
  | 14, _ => by kernel_rfl
  | 15, _ => by kernel_rfl
  | 16, _ => by kernel_rfl
  | 17, _ => by kernel_rfl
  | 18, _ => by kernel_rfl
  | 19, _ => by kernel_rfl
  | 20, _ => by kernel_rfl
  | 21, _ => by kernel_rfl
  | 22, _ => by kernel_rfl
  | 23, _ => by kernel_rfl
  | 24, _ => by kernel_rfl
  | 25, _ => by kernel_rfl
  | 26, _ => by kernel_rfl
  | 27, _ => by kernel_rfl
  | 28, _ => by kernel_rfl
  | 29, _ => by kernel_rfl
  | 30, _ => by kernel_rfl
  | 31, _ => by kernel_rfl
  | 32, _ => by kernel_rfl
  | 33, _ => by kernel_rfl
  | 34, _ => by kernel_rfl
  | 35, _ => by kernel_rfl
  | 36, _ => by kernel_rfl
  | 37, _ => by kernel_rfl
  | 38, _ => by kernel_rfl
  | 39, _ => by kernel_rfl
  | 40, _ => by kernel_rfl
  | 41, _ => by kernel_rfl
  | 42, _ => by kernel_rfl
  | 43, _ => by kernel_rfl
  | 44, _ => by kernel_rfl
  | 45, _ => by kernel_rfl
  | 46, _ => by kernel_rfl
  | 47, _ => by kernel_rfl
  | n + 48, h => absurd h (by omega)
def rowZ : Array Value := #[.string ⟨#[]⟩, .int .i64 0, .int .u8 0, .int .u8 0, .int .u8 0, .int .u8 0]
set_option maxHeartbeats 400000 in
theorem rowOf_no (n : Int) (h : n < 1 ∨ 47 < n) (w : World) : Calls Tryz.prog 113 #[.int .i64 n] w fun e w' => e = .returned (.tuple #[.agg rowZ, .bool false]) ∧ Below w.heap.size w w' := by
  rcases h with h | h
  · go_enter Tryz.func113, Tryz.ntmps113
    go_wp2
    exact bodyPost_ret (v := .tuple #[.agg rowZ, .bool false]) (by simp [results, Tryz.results113, go_sem, rowZ]) rfl ⟨rfl, (Below.refl _ _).alloc (Nat.le_refl _) _⟩
  · have h' : ¬ n < 1 := by omega
    go_enter Tryz.func113, Tryz.ntmps113
    go_wp2
    exact bodyPost_ret (v := .tuple #[.agg rowZ, .bool false]) (by simp [results, Tryz.results113, go_sem, rowZ]) rfl ⟨rfl, (Below.refl _ _).alloc (Nat.le_refl _) _⟩
end Go.Proofs.YtjdfffdeljgenaaGreatDoor.W
namespace Go.Proofs.YtjdfffdeljgenaaGreatDoor.Pl
def us : Nat → Nat → Bool
  | 1, 0 => true
  | 1, 1 => true
  | 1, 2 => true
  | 2, 0 => true
  | 2, 1 => true
  | 3, 0 => true
  | 3, 1 => true
  | 4, 1 => true
  | 4, 2 => true
  | 5, 1 => true
  | 5, 2 => true
  | 6, 0 => true
  | 7, 0 => true
  | _, _ => false
def lo : Nat → Int
  | 2 => -2048
  | 4 => -2048
  | 5 => -4096
  | 7 => -1048576
  | _ => 0
def hi : Nat → Int
  | 2 => 2047
  | 3 => 31
  | 4 => 2047
  | 5 => 4094
  | 6 => 1048575
  | 7 => 1048574
  | _ => 0
def st : Nat → Int
  | 5 => 2
  | 7 => 2
  | _ => 1
def pt : Nat → List Int
  | 2 => [0, 12, 20, 0, 0, 0, 0, 0, 0, 0, 0, 0]
  | 3 => [0, 5, 20, 0, 0, 0, 0, 0, 0, 0, 0, 0]
  | 4 => [5, 7, 25, 0, 5, 7, 0, 0, 0, 0, 0, 0]
  | 5 => [12, 1, 31, 5, 6, 25, 1, 4, 8, 11, 1, 7]
  | 6 => [0, 20, 12, 0, 0, 0, 0, 0, 0, 0, 0, 0]
  | 7 => [20, 1, 31, 1, 10, 21, 11, 1, 20, 12, 8, 12]
  | _ => [0, 0, 0, 0, 0, 0, 0, 0, 0, 0, 0, 0]
def pts : Nat → Int
  | 1 => 7
  | 2 => 11
  | 3 => 11
  | 4 => 14
  | 5 => 14
  | 6 => 9
  | 7 => 9
  | _ => 0
def pa (f i : Nat) : Int := (pt f).getD i 0
def ruleV (f : Nat) : Array Value := #[.bool (us f 0), .bool (us f 1), .bool (us f 2), .int .i64 (lo f), .int .i64 (hi f), .int .i64 (st f), .int .i64 (pa f 0), .int .i64 (pa f 1), .int .i64 (pa f 2), .int .i64 (pa f 3), .int .i64 (pa f 4), .int .i64 (pa f 5), .int .i64 (pa f 6), .int .i64 (pa f 7), .int .i64 (pa f 8), .int .i64 (pa f 9), .int .i64 (pa f 10), .int .i64 (pa f 11)]
def fmN (k : Nat) : Nat := (fm k).toNat
def rg (r : Int) (u : Bool) : Bool := decide (0 ≤ r ∧ r ≤ 31 ∧ (u = true ∨ r = 0))
def imo (f : Nat) (im : Int) : Bool := decide (lo f ≤ im) && decide (im ≤ hi f) && im.tmod (st f) == 0
def okF (f : Nat) (rd r1 r2 im : Int) : Bool := rg rd (us f 0) && rg r1 (us f 1) && rg r2 (us f 2) && imo f im
theorem fm_cases : ∀ k : Nat, k < 48 → 1 ≤ k → 1 ≤ fmN k ∧ fmN k ≤ 8 ∧ fm k = (fmN k : Int) := by decide +kernel
theorem st_cases (f : Nat) : st f = 1 ∨ st f = 2 := by
  unfold st; split <;> simp
theorem form_cases (f : Nat) (h1 : 1 ≤ f) (h2 : f ≤ 8) : f = 1 ∨ f = 2 ∨ f = 3 ∨ f = 4 ∨ f = 5 ∨ f = 6 ∨ f = 7 ∨ f = 8 := by omega
theorem pts_bit : ∀ f : Nat, f < 9 → ∀ j : Nat, j < 3 → pts f / pw j % 2 = if us f j then 1 else 0 := by decide +kernel
theorem pts_bd : ∀ f : Nat, f < 9 → 0 ≤ pts f ∧ pts f ≤ 14 := by decide +kernel
end Go.Proofs.YtjdfffdeljgenaaGreatDoor.Pl
namespace Go.Proofs.YtjdfffdeljgenaaGreatDoor.Pl
theorem fm_ranges : ∀ k : Nat, k < 48 → (1 ≤ k ∧ k ≤ 18 → fmN k = 1) ∧ (25 ≤ k ∧ k ≤ 27 → fmN k = 3) ∧ (19 ≤ k ∧ k ≤ 24 → fmN k = 2) ∧ (28 ≤ k ∧ k ≤ 33 → fmN k = 2) ∧ (34 ≤ k ∧ k ≤ 36 → fmN k = 4) ∧ (37 ≤ k ∧ k ≤ 42 → fmN k = 5) ∧ (k = 43 ∨ k = 44 → fmN k = 6) ∧ (k = 45 → fmN k = 7) ∧ (k = 46 ∨ k = 47 → fmN k = 8) := by decide +kernel
end Go.Proofs.YtjdfffdeljgenaaGreatDoor.Pl
namespace Go.Proofs.YtjdfffdeljgenaaGreatDoor.W
open Go.RowKit
theorem form_a (n : Int) (h1 : 1 ≤ n) (h2 : n ≤ 18) (w : World) : Calls Tryz.prog 89 #[.int .i64 n] w fun e w' => e = .returned (.int .i64 1) ∧ w' = w := by
  go_enter Tryz.func89, Tryz.ntmps89
  go_wp2
  go_ret
  exact ⟨rfl, rfl⟩
theorem form_b (n : Int) (h1 : 19 ≤ n) (h2 : n ≤ 24) (w : World) : Calls Tryz.prog 89 #[.int .i64 n] w fun e w' => e = .returned (.int .i64 2) ∧ w' = w := by
  go_enter Tryz.func89, Tryz.ntmps89
  go_wp2
  go_ret
  exact ⟨rfl, rfl⟩
theorem form_c (n : Int) (h1 : 25 ≤ n) (h2 : n ≤ 27) (w : World) : Calls Tryz.prog 89 #[.int .i64 n] w fun e w' => e = .returned (.int .i64 3) ∧ w' = w := by
  go_enter Tryz.func89, Tryz.ntmps89
  go_wp2
  go_ret
  exact ⟨rfl, rfl⟩
theorem form_d (n : Int) (h1 : 28 ≤ n) (h2 : n ≤ 33) (w : World) : Calls Tryz.prog 89 #[.int .i64 n] w fun e w' => e = .returned (.int .i64 2) ∧ w' = w := by
  go_enter Tryz.func89, Tryz.ntmps89
  go_wp2
  go_ret
  exact ⟨rfl, rfl⟩
theorem form_e (n : Int) (h1 : 34 ≤ n) (h2 : n ≤ 36) (w : World) : Calls Tryz.prog 89 #[.int .i64 n] w fun e w' => e = .returned (.int .i64 4) ∧ w' = w := by
  go_enter Tryz.func89, Tryz.ntmps89
  go_wp2
  go_ret
  exact ⟨rfl, rfl⟩
theorem form_f (n : Int) (h1 : 37 ≤ n) (h2 : n ≤ 42) (w : World) : Calls Tryz.prog 89 #[.int .i64 n] w fun e w' => e = .returned (.int .i64 5) ∧ w' = w := by
  go_enter Tryz.func89, Tryz.ntmps89
  go_wp2
  go_ret
  exact ⟨rfl, rfl⟩
theorem form_lo (n : Int) (h1 : n < 1) (w : World) : Calls Tryz.prog 89 #[.int .i64 n] w fun e w' => e = .returned (.int .i64 0) ∧ w' = w := by
  have e43 : (n == 43) = false := by simp; omega
  have e44 : (n == 44) = false := by simp; omega
  have e45 : (n == 45) = false := by simp; omega
  have e46 : (n == 46) = false := by simp; omega
  have e47 : (n == 47) = false := by simp; omega
  go_enter Tryz.func89, Tryz.ntmps89
  go_wp2
  go_ret
  exact ⟨rfl, rfl⟩
theorem form_hi (n : Int) (h1 : 47 < n) (w : World) : Calls Tryz.prog 89 #[.int .i64 n] w fun e w' => e = .returned (.int .i64 0) ∧ w' = w := by
  have e43 : (n == 43) = false := by simp; omega
  have e44 : (n == 44) = false := by simp; omega
  have e45 : (n == 45) = false := by simp; omega
  have e46 : (n == 46) = false := by simp; omega
  have e47 : (n == 47) = false := by simp; omega
  go_enter Tryz.func89, Tryz.ntmps89
  go_wp2
  go_ret
  exact ⟨rfl, rfl⟩
theorem form_43 (w : World) : Calls Tryz.prog 89 #[.int .i64 43] w fun e w' => e = .returned (.int .i64 6) ∧ w' = w := by
  go_enter Tryz.func89, Tryz.ntmps89
  go_wp2
  go_ret
  exact ⟨rfl, rfl⟩
theorem form_44 (w : World) : Calls Tryz.prog 89 #[.int .i64 44] w fun e w' => e = .returned (.int .i64 6) ∧ w' = w := by
  go_enter Tryz.func89, Tryz.ntmps89
  go_wp2
  go_ret
  exact ⟨rfl, rfl⟩
theorem form_45 (w : World) : Calls Tryz.prog 89 #[.int .i64 45] w fun e w' => e = .returned (.int .i64 7) ∧ w' = w := by
  go_enter Tryz.func89, Tryz.ntmps89
  go_wp2
  go_ret
  exact ⟨rfl, rfl⟩
theorem form_46 (w : World) : Calls Tryz.prog 89 #[.int .i64 46] w fun e w' => e = .returned (.int .i64 8) ∧ w' = w := by
  go_enter Tryz.func89, Tryz.ntmps89
  go_wp2
  go_ret
  exact ⟨rfl, rfl⟩
theorem form_47 (w : World) : Calls Tryz.prog 89 #[.int .i64 47] w fun e w' => e = .returned (.int .i64 8) ∧ w' = w := by
  go_enter Tryz.func89, Tryz.ntmps89
  go_wp2
  go_ret
  exact ⟨rfl, rfl⟩
theorem form_any (k : Nat) (h1 : 1 ≤ k) (h2 : k ≤ 47) (w : World) : Calls Tryz.prog 89 #[.int .i64 k] w fun e w' => e = .returned (.int .i64 (Pl.fmN k : Int)) ∧ w' = w := by
  obtain ⟨a, c, b, d, e, f, g, i, j⟩ := Pl.fm_ranges k (by omega)
  by_cases q : k ≤ 18
  · rw [a ⟨h1, q⟩]; exact form_a k (by omega) (by omega) w
  by_cases q : k ≤ 24
  · rw [b ⟨by omega, q⟩]; exact form_b k (by omega) (by omega) w
  by_cases q : k ≤ 27
  · rw [c ⟨by omega, q⟩]; exact form_c k (by omega) (by omega) w
  by_cases q : k ≤ 33
  · rw [d ⟨by omega, q⟩]; exact form_d k (by omega) (by omega) w
  by_cases q : k ≤ 36
  · rw [e ⟨by omega, q⟩]; exact form_e k (by omega) (by omega) w
  by_cases q : k ≤ 42
  · rw [f ⟨by omega, q⟩]; exact form_f k (by omega) (by omega) w
  have q' : k = 43 ∨ k = 44 ∨ k = 45 ∨ k = 46 ∨ k = 47 := by omega
  rcases q' with rfl | rfl | rfl | rfl | rfl
  · exact form_43 w
  · exact form_44 w
  · exact form_45 w
  · exact form_46 w
  · exact form_47 w
theorem form_no (n : Int) (h : n < 1 ∨ 47 < n) (w : World) : Calls Tryz.prog 89 #[.int .i64 n] w fun e w' => e = .returned (.int .i64 0) ∧ w' = w := by
  rcases h with h | h
  · exact form_lo n h w
  · exact form_hi n h w
def ptsTab : Array Value := #[.int .i64 0, .int .i64 7, .int .i64 11, .int .i64 11, .int .i64 14, .int .i64 14, .int .i64 9, .int .i64 9, .int .i64 0]
theorem parts_any (f : Nat) (h1 : 1 ≤ f) (h2 : f ≤ 8) (w : World) : Calls Tryz.prog 90 #[.int .i64 f] w fun e w' => e = .returned (.int .i64 (Pl.pts f)) ∧ w' = w.alloc (.cells ptsTab 3) := by
  rcases Pl.form_cases f h1 h2 with rfl | rfl | rfl | rfl | rfl | rfl | rfl | rfl
  all_goals
    go_enter Tryz.func90, Tryz.ntmps90
    go_wp2
    go_ret
    exact ⟨rfl, rfl⟩
theorem range_any (f : Nat) (h1 : 1 ≤ f) (h2 : f ≤ 8) (w : World) : Calls Tryz.prog 117 #[.int .i64 f] w fun e w' => e = .returned (.tuple #[.int .i64 (Pl.lo f), .int .i64 (Pl.hi f), .int .i64 (Pl.st f)]) ∧ w' = w := by
  rcases Pl.form_cases f h1 h2 with rfl | rfl | rfl | rfl | rfl | rfl | rfl | rfl
  all_goals
    go_enter Tryz.func117, Tryz.ntmps117
    go_wp2
    go_ret3
    exact ⟨rfl, rfl⟩
end Go.Proofs.YtjdfffdeljgenaaGreatDoor.W
namespace Go.Proofs.YtjdfffdeljgenaaGreatDoor.W
open Go.RowKit
theorem regOk_any (r : Int) (u : Bool) (w : World) : Calls Tryz.prog 154 #[.int .i64 r, .bool u] w fun e w' => e = .returned (.bool (Pl.rg r u)) ∧ w' = w := by
  by_cases h0 : r = 0
  · subst h0
    cases u
    all_goals
      go_enter Tryz.func154, Tryz.ntmps154
      go_wp2
      go_ret
      exact ⟨ret_bool (by simp [Pl.rg]), rfl⟩
  · have h1 : (r == 0) = false := by simpa using h0
    cases u
    · have e : Pl.rg r false = false := by simp [Pl.rg, h0]
      rw [e]
      go_enter Tryz.func154, Tryz.ntmps154
      go_wp2
      go_ret
      exact ⟨rfl, rfl⟩
    · by_cases h2 : 0 ≤ r
      · by_cases h3 : r ≤ 31
        · have e : Pl.rg r true = true := by simp [Pl.rg, h2, h3]
          rw [e]
          go_enter Tryz.func154, Tryz.ntmps154
          go_wp2
          go_ret
          exact ⟨ret_bool (by simp), rfl⟩
        · have e : Pl.rg r true = false := by simp [Pl.rg]; omega
          rw [e]
          go_enter Tryz.func154, Tryz.ntmps154
          go_wp2
          go_ret
          exact ⟨ret_bool (by simp), rfl⟩
      · have e : Pl.rg r true = false := by simp [Pl.rg]; omega
        rw [e]
        have h3 : decide (0 ≤ r) = false := by simpa using h2
        go_enter Tryz.func154, Tryz.ntmps154
        go_wp2
        go_ret
        exact ⟨ret_bool (by simp), rfl⟩
set_option maxHeartbeats 400000 in
theorem ruleOf_1 (w : World) : Calls Tryz.prog 115 #[.int .i64 1] w fun e w' => e = .returned (.agg (Pl.ruleV 1)) ∧ w' = w.alloc (.cells (Pl.ruleV 1) 124) := by
  go_enter Tryz.func115, Tryz.ntmps115
  go_wp2_with (refine Kit.wpList_builds_store 1 _ _ rfl _ _ rfl rfl 124 2 _ rfl rfl w.heap.size (Pl.ruleV 1) (by kernel_rfl) 124 _ (heap_alloc_new w _) (by kernel_rfl) (by kernel_rfl) (by kernel_rfl) ?_; intro a' hp hdf)
  rw [World.setRow_alloc_new]
  exact bodyPost_ret (v := .agg (Pl.ruleV 1)) (results_cell_row Tryz.results115 _ _ w.heap.size 124 (Pl.ruleV 1) (0, 0) _ hp (heap_alloc_new w _) Tryz.underlying124 rfl (by kernel_rfl)) hdf ⟨rfl, rfl⟩
set_option maxHeartbeats 400000 in
theorem ruleOf_2 (w : World) : Calls Tryz.prog 115 #[.int .i64 2] w fun e w' => e = .returned (.agg (Pl.ruleV 2)) ∧ w' = w.alloc (.cells (Pl.ruleV 2) 124) := by
  go_enter Tryz.func115, Tryz.ntmps115
  go_wp2_with (refine Kit.wpList_builds_store 3 _ _ rfl _ _ rfl rfl 124 2 _ rfl rfl w.heap.size (Pl.ruleV 2) (by kernel_rfl) 124 _ (heap_alloc_new w _) (by kernel_rfl) (by kernel_rfl) (by kernel_rfl) ?_; intro a' hp hdf)
  rw [World.setRow_alloc_new]
  exact bodyPost_ret (v := .agg (Pl.ruleV 2)) (results_cell_row Tryz.results115 _ _ w.heap.size 124 (Pl.ruleV 2) (0, 0) _ hp (heap_alloc_new w _) Tryz.underlying124 rfl (by kernel_rfl)) hdf ⟨rfl, rfl⟩
set_option maxHeartbeats 400000 in
theorem ruleOf_3 (w : World) : Calls Tryz.prog 115 #[.int .i64 3] w fun e w' => e = .returned (.agg (Pl.ruleV 3)) ∧ w' = w.alloc (.cells (Pl.ruleV 3) 124) := by
  go_enter Tryz.func115, Tryz.ntmps115
  go_wp2_with (refine Kit.wpList_builds_store 3 _ _ rfl _ _ rfl rfl 124 2 _ rfl rfl w.heap.size (Pl.ruleV 3) (by kernel_rfl) 124 _ (heap_alloc_new w _) (by kernel_rfl) (by kernel_rfl) (by kernel_rfl) ?_; intro a' hp hdf)
  rw [World.setRow_alloc_new]
  exact bodyPost_ret (v := .agg (Pl.ruleV 3)) (results_cell_row Tryz.results115 _ _ w.heap.size 124 (Pl.ruleV 3) (0, 0) _ hp (heap_alloc_new w _) Tryz.underlying124 rfl (by kernel_rfl)) hdf ⟨rfl, rfl⟩
set_option maxHeartbeats 400000 in
theorem ruleOf_4 (w : World) : Calls Tryz.prog 115 #[.int .i64 4] w fun e w' => e = .returned (.agg (Pl.ruleV 4)) ∧ w' = w.alloc (.cells (Pl.ruleV 4) 124) := by
  go_enter Tryz.func115, Tryz.ntmps115
  go_wp2_with (refine Kit.wpList_builds_store 4 _ _ rfl _ _ rfl rfl 124 2 _ rfl rfl w.heap.size (Pl.ruleV 4) (by kernel_rfl) 124 _ (heap_alloc_new w _) (by kernel_rfl) (by kernel_rfl) (by kernel_rfl) ?_; intro a' hp hdf)
  rw [World.setRow_alloc_new]
  exact bodyPost_ret (v := .agg (Pl.ruleV 4)) (results_cell_row Tryz.results115 _ _ w.heap.size 124 (Pl.ruleV 4) (0, 0) _ hp (heap_alloc_new w _) Tryz.underlying124 rfl (by kernel_rfl)) hdf ⟨rfl, rfl⟩
set_option maxHeartbeats 400000 in
theorem ruleOf_5 (w : World) : Calls Tryz.prog 115 #[.int .i64 5] w fun e w' => e = .returned (.agg (Pl.ruleV 5)) ∧ w' = w.alloc (.cells (Pl.ruleV 5) 124) := by
  go_enter Tryz.func115, Tryz.ntmps115
  go_wp2_with (refine Kit.wpList_builds_store 6 _ _ rfl _ _ rfl rfl 124 2 _ rfl rfl w.heap.size (Pl.ruleV 5) (by kernel_rfl) 124 _ (heap_alloc_new w _) (by kernel_rfl) (by kernel_rfl) (by kernel_rfl) ?_; intro a' hp hdf)
  rw [World.setRow_alloc_new]
  exact bodyPost_ret (v := .agg (Pl.ruleV 5)) (results_cell_row Tryz.results115 _ _ w.heap.size 124 (Pl.ruleV 5) (0, 0) _ hp (heap_alloc_new w _) Tryz.underlying124 rfl (by kernel_rfl)) hdf ⟨rfl, rfl⟩
set_option maxHeartbeats 400000 in
theorem ruleOf_6 (w : World) : Calls Tryz.prog 115 #[.int .i64 6] w fun e w' => e = .returned (.agg (Pl.ruleV 6)) ∧ w' = w.alloc (.cells (Pl.ruleV 6) 124) := by
  go_enter Tryz.func115, Tryz.ntmps115
  go_wp2_with (refine Kit.wpList_builds_store 3 _ _ rfl _ _ rfl rfl 124 2 _ rfl rfl w.heap.size (Pl.ruleV 6) (by kernel_rfl) 124 _ (heap_alloc_new w _) (by kernel_rfl) (by kernel_rfl) (by kernel_rfl) ?_; intro a' hp hdf)
  rw [World.setRow_alloc_new]
  exact bodyPost_ret (v := .agg (Pl.ruleV 6)) (results_cell_row Tryz.results115 _ _ w.heap.size 124 (Pl.ruleV 6) (0, 0) _ hp (heap_alloc_new w _) Tryz.underlying124 rfl (by kernel_rfl)) hdf ⟨rfl, rfl⟩
set_option maxHeartbeats 400000 in
theorem ruleOf_7 (w : World) : Calls Tryz.prog 115 #[.int .i64 7] w fun e w' => e = .returned (.agg (Pl.ruleV 7)) ∧ w' = w.alloc (.cells (Pl.ruleV 7) 124) := by
  go_enter Tryz.func115, Tryz.ntmps115
  go_wp2_with (refine Kit.wpList_builds_store 6 _ _ rfl _ _ rfl rfl 124 2 _ rfl rfl w.heap.size (Pl.ruleV 7) (by kernel_rfl) 124 _ (heap_alloc_new w _) (by kernel_rfl) (by kernel_rfl) (by kernel_rfl) ?_; intro a' hp hdf)
  rw [World.setRow_alloc_new]
  exact bodyPost_ret (v := .agg (Pl.ruleV 7)) (results_cell_row Tryz.results115 _ _ w.heap.size 124 (Pl.ruleV 7) (0, 0) _ hp (heap_alloc_new w _) Tryz.underlying124 rfl (by kernel_rfl)) hdf ⟨rfl, rfl⟩
set_option maxHeartbeats 400000 in
theorem ruleOf_8 (w : World) : Calls Tryz.prog 115 #[.int .i64 8] w fun e w' => e = .returned (.agg (Pl.ruleV 8)) ∧ w' = w.alloc (.cells (Pl.ruleV 8) 124) := by
  go_enter Tryz.func115, Tryz.ntmps115
  go_wp2_with (refine Kit.wpList_builds_store 1 _ _ rfl _ _ rfl rfl 124 2 _ rfl rfl w.heap.size (Pl.ruleV 8) (by kernel_rfl) 124 _ (heap_alloc_new w _) (by kernel_rfl) (by kernel_rfl) (by kernel_rfl) ?_; intro a' hp hdf)
  rw [World.setRow_alloc_new]
  exact bodyPost_ret (v := .agg (Pl.ruleV 8)) (results_cell_row Tryz.results115 _ _ w.heap.size 124 (Pl.ruleV 8) (0, 0) _ hp (heap_alloc_new w _) Tryz.underlying124 rfl (by kernel_rfl)) hdf ⟨rfl, rfl⟩
theorem ruleOf_any (n : Int) (f : Nat) (hn : n = f) (h1 : 1 ≤ f) (h2 : f ≤ 8) (w : World) : Calls Tryz.prog 115 #[.int .i64 n] w fun e w' => e = .returned (.agg (Pl.ruleV f)) ∧ w' = w.alloc (.cells (Pl.ruleV f) 124) := by
  subst hn
  rcases Pl.form_cases f h1 h2 with rfl | rfl | rfl | rfl | rfl | rfl | rfl | rfl
  · exact ruleOf_1 w
  · exact ruleOf_2 w
  · exact ruleOf_3 w
  · exact ruleOf_4 w
  · exact ruleOf_5 w
  · exact ruleOf_6 w
  · exact ruleOf_7 w
  · exact ruleOf_8 w
end Go.Proofs.YtjdfffdeljgenaaGreatDoor.W
namespace Go.Proofs.YtjdfffdeljgenaaGreatDoor.W
open Go.RowKit
theorem heap_alloc_at (w : World) (o : Obj) (g : Nat) (h : w.heap.size = g) : (w.alloc o).heap[g]? = some o := by subst h; exact heap_alloc_new w o
theorem setRow_alloc_at (w : World) (c c' : Array Value) (t : TypeId) (g : Nat) (h : w.heap.size = g) : (w.alloc (.cells c t)).setRow g c' = w.alloc (.cells c' t) := by subst h; exact World.setRow_alloc_new w c c' t
set_option maxHeartbeats 400000 in
theorem immOk_any (im : Int) (f : Nat) (w : World) : Calls Tryz.prog 155 #[.int .i64 im, .agg (Pl.ruleV f)] w fun e w' => e = .returned (.bool (Pl.imo f im)) ∧ Below w.heap.size w w' := by
  unfold Pl.ruleV
  have hst := Pl.st_cases f
  have hs0 : ¬ Pl.st f = 0 := by omega
  by_cases h1 : Pl.lo f ≤ im
  · by_cases h2 : im ≤ Pl.hi f
    · have e : Pl.imo f im = (im.tmod (Pl.st f) == 0) := by simp [Pl.imo, h1, h2]
      rw [e]
      clear e
      go_enter Tryz.func155, Tryz.ntmps155
      go_wp2
      go_ret
      exact ⟨rfl, (Below.refl _ _).alloc (Nat.le_refl _) _⟩
    · have e : Pl.imo f im = false := by simp [Pl.imo, h2]
      rw [e]
      clear e
      go_enter Tryz.func155, Tryz.ntmps155
      go_wp2
      go_ret
      exact ⟨rfl, (Below.refl _ _).alloc (Nat.le_refl _) _⟩
  · have e : Pl.imo f im = false := by simp [Pl.imo, h1]
    rw [e]
    clear e
    have h3 : decide (Pl.lo f ≤ im) = false := by simpa using h1
    go_enter Tryz.func155, Tryz.ntmps155
    go_wp2
    go_ret
    exact ⟨rfl, (Below.refl _ _).alloc (Nat.le_refl _) _⟩
set_option maxHeartbeats 400000 in
theorem rowOf_at (k : Nat) (h1 : 1 ≤ k) (h2 : k ≤ 47) (w : World) : Calls Tryz.prog 113 #[.int .i64 k] w fun e w' => e = .returned (.tuple #[.agg (Pl.rowV k), .bool true]) ∧ w' = (w.alloc (.cells (Pl.rowV k) 116)).alloc (.cells Pl.instTab 135) := by
  have hi := fun w => tab_index w k (by omega)
  unfold Pl.rowV at hi
  go_enter Tryz.func113, Tryz.ntmps113
  go_wp2_with (go_at_call 128; refine (instTable_any _).mono ?_; rintro e w' ⟨rfl, rfl⟩)
  exact bodyPost_ret (v := .tuple #[.agg (Pl.rowV k), .bool true]) (by simp [results, Tryz.results113, go_sem, Pl.rowV]) rfl ⟨rfl, rfl⟩
theorem wpList_load_row_g {P : Program} {ops : Array Oper} {rest : List Oper} {o : Oper} {a : Act} {w : World} {Q : Exit → Act → World → Prop} (ty : TypeId) (x : Operand) (ho : o.op = .load ty x) (hw : Region.wanted o (yielded ops a.tmps) = true)
    (g : Nat) (hx : a.eval x = .pointer (some ⟨g, 0, none⟩)) (t : TypeId) (cs : Array Value) (fr : Nat × Nat) (d : TypeDesc) (hg : w.heap[g]? = some (.cells cs t fr))
    (hu : P.underlying ty = some d) (hd : (match d with | .struct _ | .array _ _ => true | _ => false) = true) (hi : (P.info? ty).map (·.size) = some cs.size)
    (h : wpList P ops Q rest (a.put o.dst (.agg cs)) w) : wpList P ops Q (o :: rest) a w := by
  unfold wpList
  rw [if_pos hw]
  exact Or.inl (wp_load_row ty x ho g hx t cs fr d hg hu hd hi h)
theorem fm_at (k : Nat) (h1 : 1 ≤ k) (h2 : k ≤ 47) : 1 ≤ Pl.fmN k ∧ Pl.fmN k ≤ 8 ∧ Pl.fm k = (Pl.fmN k : Int) := Pl.fm_cases k (by omega) h1
theorem implInstOk_no (n : Int) (h : n < 1 ∨ 47 < n) (rd r1 r2 im : Int) (w : World) : Calls Tryz.prog 132 #[.agg #[.int .i64 n, .int .i64 rd, .int .i64 r1, .int .i64 r2, .int .i64 im]] w fun e w' => e = .returned (.bool false) ∧ Below w.heap.size w w' := by
  go_enter Tryz.func132, Tryz.ntmps132
  go_wp2_with (go_at_call 113; refine (rowOf_no n h _).mono ?_; rintro e u1 ⟨rfl, hb1⟩; unfold rowZ)
  go_ret
  exact ⟨rfl, ((((Below.refl _ _).alloc (Nat.le_refl _) _)).trans (hb1.mono (by simp))).alloc (by have := hb1.size; simp at this; omega) _⟩
end Go.Proofs.YtjdfffdeljgenaaGreatDoor.W
namespace Go.Proofs.YtjdfffdeljgenaaGreatDoor.W
open Go.RowKit
set_option maxHeartbeats 2000000 in
theorem implInstOk_c0 (k f : Nat) (h1 : 1 ≤ k) (h2 : k ≤ 47) (f1 : 1 ≤ f) (f2 : f ≤ 8) (HF : Hid (Pl.fm k = (f : Int))) (rd r1 r2 im : Int) (g0 : Pl.rg rd (Pl.us f 0) = false) (w : World) : Calls Tryz.prog 132 #[.agg #[.int .i64 k, .int .i64 rd, .int .i64 r1, .int .i64 r2, .int .i64 im]] w fun e w' => e = .returned (.bool false) ∧ Below w.heap.size w w' := by
  have q0 : (Pl.ruleV f)[0]? = some (.bool (Pl.us f 0)) := rfl
  have q1 : (Pl.ruleV f)[1]? = some (.bool (Pl.us f 1)) := rfl
  have q2 : (Pl.ruleV f)[2]? = some (.bool (Pl.us f 2)) := rfl
  go_enter Tryz.func132, Tryz.ntmps132
  go_wp2_with (first | (go_at_call 113; refine (rowOf_at k h1 h2 _).mono ?_; rintro e u1 ⟨rfl, rfl⟩; unfold Pl.rowV) | (go_at_call 115; refine (ruleOf_any _ f HF.out f1 f2 _).mono ?_; rintro e u2 ⟨rfl, rfl⟩) | (refine wpList_store_row rfl 124 _ _ rfl _ (Pl.ruleV f) rfl rfl 124 _ (heap_alloc_at _ _ _ (by simp)) (by kernel_rfl) (by kernel_rfl) (by kernel_rfl) ?_; rw [setRow_alloc_at _ _ _ _ _ (by simp)]) | (refine wpList_load_row rfl 124 _ rfl _ rfl 124 (Pl.ruleV f) (0, 0) _ (heap_alloc_at _ _ _ (by simp)) Tryz.underlying124 rfl (by kernel_rfl) ?_) | (go_at_call 154; refine (regOk_any _ _ _).mono ?_; rintro e u3 ⟨rfl, rfl⟩) | (go_at_call 155; refine (immOk_any _ f _).mono ?_; rintro e u4 ⟨rfl, hb4⟩))
  go_ret
  exact ⟨rfl, (by repeat (first | exact Below.refl _ _ | refine Below.alloc ?_ (by simp <;> omega) _))⟩
end Go.Proofs.YtjdfffdeljgenaaGreatDoor.W
namespace Go.Proofs.YtjdfffdeljgenaaGreatDoor.W
open Go.RowKit
set_option maxHeartbeats 2000000 in
theorem implInstOk_c1 (k f : Nat) (h1 : 1 ≤ k) (h2 : k ≤ 47) (f1 : 1 ≤ f) (f2 : f ≤ 8) (HF : Hid (Pl.fm k = (f : Int))) (rd r1 r2 im : Int) (g0 : Pl.rg rd (Pl.us f 0) = true) (g1 : Pl.rg r1 (Pl.us f 1) = false) (w : World) : Calls Tryz.prog 132 #[.agg #[.int .i64 k, .int .i64 rd, .int .i64 r1, .int .i64 r2, .int .i64 im]] w fun e w' => e = .returned (.bool false) ∧ Below w.heap.size w w' := by
  have q0 : (Pl.ruleV f)[0]? = some (.bool (Pl.us f 0)) := rfl
  have q1 : (Pl.ruleV f)[1]? = some (.bool (Pl.us f 1)) := rfl
  have q2 : (Pl.ruleV f)[2]? = some (.bool (Pl.us f 2)) := rfl
  go_enter Tryz.func132, Tryz.ntmps132
  go_wp2_with (first | (go_at_call 113; refine (rowOf_at k h1 h2 _).mono ?_; rintro e u1 ⟨rfl, rfl⟩; unfold Pl.rowV) | (go_at_call 115; refine (ruleOf_any _ f HF.out f1 f2 _).mono ?_; rintro e u2 ⟨rfl, rfl⟩) | (refine wpList_store_row rfl 124 _ _ rfl _ (Pl.ruleV f) rfl rfl 124 _ (heap_alloc_at _ _ _ (by simp)) (by kernel_rfl) (by kernel_rfl) (by kernel_rfl) ?_; rw [setRow_alloc_at _ _ _ _ _ (by simp)]) | (refine wpList_load_row rfl 124 _ rfl _ rfl 124 (Pl.ruleV f) (0, 0) _ (heap_alloc_at _ _ _ (by simp)) Tryz.underlying124 rfl (by kernel_rfl) ?_) | (go_at_call 154; refine (regOk_any _ _ _).mono ?_; rintro e u3 ⟨rfl, rfl⟩) | (go_at_call 155; refine (immOk_any _ f _).mono ?_; rintro e u4 ⟨rfl, hb4⟩))
  go_ret
  exact ⟨rfl, (by repeat (first | exact Below.refl _ _ | refine Below.alloc ?_ (by simp <;> omega) _))⟩
end Go.Proofs.YtjdfffdeljgenaaGreatDoor.W
namespace Go.Proofs.YtjdfffdeljgenaaGreatDoor.W
open Go.RowKit
set_option maxHeartbeats 2000000 in
theorem implInstOk_c2 (k f : Nat) (h1 : 1 ≤ k) (h2 : k ≤ 47) (f1 : 1 ≤ f) (f2 : f ≤ 8) (HF : Hid (Pl.fm k = (f : Int))) (rd r1 r2 im : Int) (g0 : Pl.rg rd (Pl.us f 0) = true) (g1 : Pl.rg r1 (Pl.us f 1) = true) (g2 : Pl.rg r2 (Pl.us f 2) = false) (w : World) : Calls Tryz.prog 132 #[.agg #[.int .i64 k, .int .i64 rd, .int .i64 r1, .int .i64 r2, .int .i64 im]] w fun e w' => e = .returned (.bool false) ∧ Below w.heap.size w w' := by
  have q0 : (Pl.ruleV f)[0]? = some (.bool (Pl.us f 0)) := rfl
  have q1 : (Pl.ruleV f)[1]? = some (.bool (Pl.us f 1)) := rfl
  have q2 : (Pl.ruleV f)[2]? = some (.bool (Pl.us f 2)) := rfl
  go_enter Tryz.func132, Tryz.ntmps132
  go_wp2_with (first | (go_at_call 113; refine (rowOf_at k h1 h2 _).mono ?_; rintro e u1 ⟨rfl, rfl⟩; unfold Pl.rowV) | (go_at_call 115; refine (ruleOf_any _ f HF.out f1 f2 _).mono ?_; rintro e u2 ⟨rfl, rfl⟩) | (refine wpList_store_row rfl 124 _ _ rfl _ (Pl.ruleV f) rfl rfl 124 _ (heap_alloc_at _ _ _ (by simp)) (by kernel_rfl) (by kernel_rfl) (by kernel_rfl) ?_; rw [setRow_alloc_at _ _ _ _ _ (by simp)]) | (refine wpList_load_row rfl 124 _ rfl _ rfl 124 (Pl.ruleV f) (0, 0) _ (heap_alloc_at _ _ _ (by simp)) Tryz.underlying124 rfl (by kernel_rfl) ?_) | (go_at_call 154; refine (regOk_any _ _ _).mono ?_; rintro e u3 ⟨rfl, rfl⟩) | (go_at_call 155; refine (immOk_any _ f _).mono ?_; rintro e u4 ⟨rfl, hb4⟩))
  go_ret
  exact ⟨rfl, (by repeat (first | exact Below.refl _ _ | refine Below.alloc ?_ (by simp <;> omega) _))⟩
end Go.Proofs.YtjdfffdeljgenaaGreatDoor.W
namespace Go.Proofs.YtjdfffdeljgenaaGreatDoor.W
open Go.RowKit
set_option maxHeartbeats 2000000 in
theorem implInstOk_c3 (k f : Nat) (h1 : 1 ≤ k) (h2 : k ≤ 47) (f1 : 1 ≤ f) (f2 : f ≤ 8) (HF : Hid (Pl.fm k = (f : Int))) (rd r1 r2 im : Int) (g0 : Pl.rg rd (Pl.us f 0) = true) (g1 : Pl.rg r1 (Pl.us f 1) = true) (g2 : Pl.rg r2 (Pl.us f 2) = true) (w : World) : Calls Tryz.prog 132 #[.agg #[.int .i64 k, .int .i64 rd, .int .i64 r1, .int .i64 r2, .int .i64 im]] w fun e w' => e = .returned (.bool (Pl.imo f im)) ∧ Below w.heap.size w w' := by
  have q0 : (Pl.ruleV f)[0]? = some (.bool (Pl.us f 0)) := rfl
  have q1 : (Pl.ruleV f)[1]? = some (.bool (Pl.us f 1)) := rfl
  have q2 : (Pl.ruleV f)[2]? = some (.bool (Pl.us f 2)) := rfl
  go_enter Tryz.func132, Tryz.ntmps132
  go_wp2_with (first | (go_at_call 113; refine (rowOf_at k h1 h2 _).mono ?_; rintro e u1 ⟨rfl, rfl⟩; unfold Pl.rowV) | (go_at_call 115; refine (ruleOf_any _ f HF.out f1 f2 _).mono ?_; rintro e u2 ⟨rfl, rfl⟩) | (refine wpList_store_row rfl 124 _ _ rfl _ (Pl.ruleV f) rfl rfl 124 _ (heap_alloc_at _ _ _ (by simp)) (by kernel_rfl) (by kernel_rfl) (by kernel_rfl) ?_; rw [setRow_alloc_at _ _ _ _ _ (by simp)]) | (refine wpList_load_row_g 124 _ rfl (by kernel_rfl) _ rfl 124 (Pl.ruleV f) (0, 0) _ (heap_alloc_at _ _ _ (by simp)) Tryz.underlying124 rfl (by kernel_rfl) ?_) | (go_at_call 154; refine (regOk_any _ _ _).mono ?_; rintro e u3 ⟨rfl, rfl⟩) | (go_at_call 155; refine (immOk_any _ f _).mono ?_; rintro e u4 ⟨rfl, hb4⟩))
  go_ret
  exact ⟨rfl, Below.trans (by repeat (first | exact Below.refl _ _ | refine Below.alloc ?_ (by simp <;> omega) _)) (hb4.mono (by simp <;> omega))⟩
end Go.Proofs.YtjdfffdeljgenaaGreatDoor.W
namespace Go.Proofs.YtjdfffdeljgenaaGreatDoor.W
open Go.RowKit
theorem implInstOk_yes (k : Nat) (h1 : 1 ≤ k) (h2 : k ≤ 47) (rd r1 r2 im : Int) (w : World) : Calls Tryz.prog 132 #[.agg #[.int .i64 k, .int .i64 rd, .int .i64 r1, .int .i64 r2, .int .i64 im]] w fun e w' => e = .returned (.bool (Pl.okF (Pl.fmN k) rd r1 r2 im)) ∧ Below w.heap.size w w' := by
  obtain ⟨f1, f2, hf⟩ := fm_at k h1 h2
  generalize Pl.fmN k = f at f1 f2 hf ⊢
  cases g0 : Pl.rg rd (Pl.us f 0)
  · have e : Pl.okF f rd r1 r2 im = false := by simp [Pl.okF, g0]
    rw [e]; exact implInstOk_c0 k f h1 h2 f1 f2 hf rd r1 r2 im g0 w
  · cases g1 : Pl.rg r1 (Pl.us f 1)
    · have e : Pl.okF f rd r1 r2 im = false := by simp [Pl.okF, g1]
      rw [e]; exact implInstOk_c1 k f h1 h2 f1 f2 hf rd r1 r2 im g0 g1 w
    · cases g2 : Pl.rg r2 (Pl.us f 2)
      · have e : Pl.okF f rd r1 r2 im = false := by simp [Pl.okF, g2]
        rw [e]; exact implInstOk_c2 k f h1 h2 f1 f2 hf rd r1 r2 im g0 g1 g2 w
      · have e : Pl.okF f rd r1 r2 im = Pl.imo f im := by simp [Pl.okF, g0, g1, g2]
        rw [e]; exact implInstOk_c3 k f h1 h2 f1 f2 hf rd r1 r2 im g0 g1 g2 w
end Go.Proofs.YtjdfffdeljgenaaGreatDoor.W
