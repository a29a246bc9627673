import Derived.Test.YteadglnenaiaaaaGreatDoorK36
import Derived.Deep.WholeRow
import Derived.Test.YteadglnenaiaaaaGreatDoorK23
import Derived.Lib.LaidTab
import Derived.Lib.AppendIntMem
import Derived.Laws.StructEq
import Derived.Test.YteadglnenaiaaaaGreatDoorK27
import Derived.Test.YteadglnenaiaaaaGreatDoorK28
set_option linter.unusedVariables false
set_option linter.unusedSimpArgs false
namespace Go.Proofs.YteadglnenaiaaaaGreatDoor.W
open Go.RowKit
set_option maxHeartbeats 4000000 in
theorem ruleOfNode_is (k : Int) (w : World) : Calls Tryz.prog 30 #[.int .i64 k] w fun e w' => RlIs (Pl.rl k) w e w' := by
  have HT : Hid (k ≤ 6 → ∀ u : World, Calls Tryz.prog 48 #[.int .i64 k] u fun e w' => RlIs (Pl.rl k) u e w') := fun h u => ruleOfType_is k h u
  have HD : Hid (7 ≤ k ∧ k ≤ 16 → ∀ u : World, Calls Tryz.prog 49 #[.int .i64 k] u fun e w' => RlIs (Pl.rl k) u e w') := fun h u => ruleOfDeclaration_is k h u
  have HS : Hid (17 ≤ k ∧ k ≤ 32 → ∀ u : World, Calls Tryz.prog 50 #[.int .i64 k] u fun e w' => RlIs (Pl.rl k) u e w') := fun h u => ruleOfStmt_is k h u
  have HE : Hid (33 ≤ k → ∀ u : World, Calls Tryz.prog 51 #[.int .i64 k] u fun e w' => RlIs (Pl.rl k) u e w') := fun h u => ruleOfExpr_is k h u
  generalize Pl.rl k = r at *
  obtain ⟨rs, rw1, rlm, rhm, rln, rhn, rk, rmo, rms⟩ := r
  by_cases c1 : k ≤ 6
  · go_enter Tryz.func30, Tryz.ntmps30
    go_wp2_with (first | (go_at_call 48; (refine (HT.out c1 _).mono ?_; rintro e u1 ⟨v, rfl, hrow, hb⟩; have HG : Hid (u1.heap[w.heap.size]? = some (.cells #[.int .i64 0, .int .i64 0, .int .i64 0, .int .i64 0, .int .i64 0, .int .i64 0, .slice none 0 0, .int .i64 0, .int .i64 0] 71 (0, 0))) := (hb.block _ (by simp)).trans (heap_alloc_new w _); have HROW : Hid (Row .i64 (w.heap.size + 1) u1 v.a v.len v.cap rk) := hrow.lower (by simp); have HB : Hid (Below w.heap.size w u1) := (below_alloc _ _).trans (hb.mono (by simp)); clear hrow hb)) | (refine wpList_store_row rfl 71 _ _ rfl w.heap.size #[.int .i64 rs, .int .i64 rw1, .int .i64 rlm, .int .i64 rhm, .int .i64 rln, .int .i64 rhn, .slice v.a v.len v.cap, .int .i64 rmo, .int .i64 rms] ?hxq1 ?hyq1 71 #[.int .i64 0, .int .i64 0, .int .i64 0, .int .i64 0, .int .i64 0, .int .i64 0, .slice none 0 0, .int .i64 0, .int .i64 0] ?hgq1 ?hiq1 ?hoq1 ?h1q1 ?_; (case hxq1 => rfl); (case hyq1 => rfl); (case hgq1 => exact HG.out); (case hiq1 => kernel_rfl); (case hoq1 => kernel_rfl); (case h1q1 => kernel_rfl)))
    refine bodyPost_ret (v := .agg #[.int .i64 rs, .int .i64 rw1, .int .i64 rlm, .int .i64 rhm, .int .i64 rln, .int .i64 rhn, .slice v.a v.len v.cap, .int .i64 rmo, .int .i64 rms]) ?hresq1 rfl ⟨v, rfl, row_above HROW.out (fun b h1 h2 => setRow_other _ _ _ _ (by omega)) (by simp) (by omega), below_setRowX HB.out (Nat.le_refl _) _⟩
    refine results_cell_row Tryz.results30 _ _ w.heap.size 71 #[.int .i64 rs, .int .i64 rw1, .int .i64 rlm, .int .i64 rhm, .int .i64 rln, .int .i64 rhn, .slice v.a v.len v.cap, .int .i64 rmo, .int .i64 rms] (0, 0) _ ?hpq1 ?hgq1 Tryz.underlying71 ?hdq1 ?hiq1
    case hpq1 => rfl
    case hgq1 => exact setRow_heap _ _ _ _ _ _ HG.out
    case hdq1 => rfl
    case hiq1 => kernel_rfl
  by_cases c2 : k ≤ 16
  · go_enter Tryz.func30, Tryz.ntmps30
    go_wp2_with (first | (go_at_call 49; refine (HD.out ⟨by omega, c2⟩ _).mono ?_; rintro e u1 ⟨v, rfl, hrow, hb⟩; have HG : Hid (u1.heap[w.heap.size]? = some (.cells #[.int .i64 0, .int .i64 0, .int .i64 0, .int .i64 0, .int .i64 0, .int .i64 0, .slice none 0 0, .int .i64 0, .int .i64 0] 71 (0, 0))) := (hb.block _ (by simp)).trans (heap_alloc_new w _); have HROW : Hid (Row .i64 (w.heap.size + 1) u1 v.a v.len v.cap rk) := hrow.lower (by simp); have HB : Hid (Below w.heap.size w u1) := (below_alloc _ _).trans (hb.mono (by simp)); clear hrow hb) | (refine wpList_store_row rfl 71 _ _ rfl w.heap.size #[.int .i64 rs, .int .i64 rw1, .int .i64 rlm, .int .i64 rhm, .int .i64 rln, .int .i64 rhn, .slice v.a v.len v.cap, .int .i64 rmo, .int .i64 rms] ?hxq2 ?hyq2 71 #[.int .i64 0, .int .i64 0, .int .i64 0, .int .i64 0, .int .i64 0, .int .i64 0, .slice none 0 0, .int .i64 0, .int .i64 0] ?hgq2 ?hiq2 ?hoq2 ?h1q2 ?_; (case hxq2 => rfl); (case hyq2 => rfl); (case hgq2 => exact HG.out); (case hiq2 => kernel_rfl); (case hoq2 => kernel_rfl); (case h1q2 => kernel_rfl)))
    refine bodyPost_ret (v := .agg #[.int .i64 rs, .int .i64 rw1, .int .i64 rlm, .int .i64 rhm, .int .i64 rln, .int .i64 rhn, .slice v.a v.len v.cap, .int .i64 rmo, .int .i64 rms]) ?hresq2 rfl ⟨v, rfl, row_above HROW.out (fun b h1 h2 => setRow_other _ _ _ _ (by omega)) (by simp) (by omega), below_setRowX HB.out (Nat.le_refl _) _⟩
    refine results_cell_row Tryz.results30 _ _ w.heap.size 71 #[.int .i64 rs, .int .i64 rw1, .int .i64 rlm, .int .i64 rhm, .int .i64 rln, .int .i64 rhn, .slice v.a v.len v.cap, .int .i64 rmo, .int .i64 rms] (0, 0) _ ?hpq2 ?hgq2 Tryz.underlying71 ?hdq2 ?hiq2
    case hpq2 => rfl
    case hgq2 => exact setRow_heap _ _ _ _ _ _ HG.out
    case hdq2 => rfl
    case hiq2 => kernel_rfl
  by_cases c3 : k ≤ 32
  · go_enter Tryz.func30, Tryz.ntmps30
    go_wp2_with (first | (go_at_call 50; refine (HS.out ⟨by omega, c3⟩ _).mono ?_; rintro e u1 ⟨v, rfl, hrow, hb⟩; have HG : Hid (u1.heap[w.heap.size]? = some (.cells #[.int .i64 0, .int .i64 0, .int .i64 0, .int .i64 0, .int .i64 0, .int .i64 0, .slice none 0 0, .int .i64 0, .int .i64 0] 71 (0, 0))) := (hb.block _ (by simp)).trans (heap_alloc_new w _); have HROW : Hid (Row .i64 (w.heap.size + 1) u1 v.a v.len v.cap rk) := hrow.lower (by simp); have HB : Hid (Below w.heap.size w u1) := (below_alloc _ _).trans (hb.mono (by simp)); clear hrow hb) | (refine wpList_store_row rfl 71 _ _ rfl w.heap.size #[.int .i64 rs, .int .i64 rw1, .int .i64 rlm, .int .i64 rhm, .int .i64 rln, .int .i64 rhn, .slice v.a v.len v.cap, .int .i64 rmo, .int .i64 rms] ?hxq3 ?hyq3 71 #[.int .i64 0, .int .i64 0, .int .i64 0, .int .i64 0, .int .i64 0, .int .i64 0, .slice none 0 0, .int .i64 0, .int .i64 0] ?hgq3 ?hiq3 ?hoq3 ?h1q3 ?_; (case hxq3 => rfl); (case hyq3 => rfl); (case hgq3 => exact HG.out); (case hiq3 => kernel_rfl); (case hoq3 => kernel_rfl); (case h1q3 => kernel_rfl)))
    refine bodyPost_ret (v := .agg #[.int .i64 rs, .int .i64 rw1, .int .i64 rlm, .int .i64 rhm, .int .i64 rln, .int .i64 rhn, .slice v.a v.len v.cap, .int .i64 rmo, .int .i64 rms]) ?hresq3 rfl ⟨v, rfl, row_above HROW.out (fun b h1 h2 => setRow_other _ _ _ _ (by omega)) (by simp) (by omega), below_setRowX HB.out (Nat.le_refl _) _⟩
    refine results_cell_row Tryz.results30 _ _ w.heap.size 71 #[.int .i64 rs, .int .i64 rw1, .int .i64 rlm, .int .i64 rhm, .int .i64 rln, .int .i64 rhn, .slice v.a v.len v.cap, .int .i64 rmo, .int .i64 rms] (0, 0) _ ?hpq3 ?hgq3 Tryz.underlying71 ?hdq3 ?hiq3
    case hpq3 => rfl
    case hgq3 => exact setRow_heap _ _ _ _ _ _ HG.out
    case hdq3 => rfl
    case hiq3 => kernel_rfl
  go_enter Tryz.func30, Tryz.ntmps30
  go_wp2_with (first | (go_at_call 51; refine (HE.out (by omega) _).mono ?_; rintro e u1 ⟨v, rfl, hrow, hb⟩; have HG : Hid (u1.heap[w.heap.size]? = some (.cells #[.int .i64 0, .int .i64 0, .int .i64 0, .int .i64 0, .int .i64 0, .int .i64 0, .slice none 0 0, .int .i64 0, .int .i64 0] 71 (0, 0))) := (hb.block _ (by simp)).trans (heap_alloc_new w _); have HROW : Hid (Row .i64 (w.heap.size + 1) u1 v.a v.len v.cap rk) := hrow.lower (by simp); have HB : Hid (Below w.heap.size w u1) := (below_alloc _ _).trans (hb.mono (by simp)); clear hrow hb) | (refine wpList_store_row rfl 71 _ _ rfl w.heap.size #[.int .i64 rs, .int .i64 rw1, .int .i64 rlm, .int .i64 rhm, .int .i64 rln, .int .i64 rhn, .slice v.a v.len v.cap, .int .i64 rmo, .int .i64 rms] ?hxq4 ?hyq4 71 #[.int .i64 0, .int .i64 0, .int .i64 0, .int .i64 0, .int .i64 0, .int .i64 0, .slice none 0 0, .int .i64 0, .int .i64 0] ?hgq4 ?hiq4 ?hoq4 ?h1q4 ?_; (case hxq4 => rfl); (case hyq4 => rfl); (case hgq4 => exact HG.out); (case hiq4 => kernel_rfl); (case hoq4 => kernel_rfl); (case h1q4 => kernel_rfl)))
  refine bodyPost_ret (v := .agg #[.int .i64 rs, .int .i64 rw1, .int .i64 rlm, .int .i64 rhm, .int .i64 rln, .int .i64 rhn, .slice v.a v.len v.cap, .int .i64 rmo, .int .i64 rms]) ?hresq4 rfl ⟨v, rfl, row_above HROW.out (fun b h1 h2 => setRow_other _ _ _ _ (by omega)) (by simp) (by omega), below_setRowX HB.out (Nat.le_refl _) _⟩
  refine results_cell_row Tryz.results30 _ _ w.heap.size 71 #[.int .i64 rs, .int .i64 rw1, .int .i64 rlm, .int .i64 rhm, .int .i64 rln, .int .i64 rhn, .slice v.a v.len v.cap, .int .i64 rmo, .int .i64 rms] (0, 0) _ ?hpq4 ?hgq4 Tryz.underlying71 ?hdq4 ?hiq4
  case hpq4 => rfl
  case hgq4 => exact setRow_heap _ _ _ _ _ _ HG.out
  case hdq4 => rfl
  case hiq4 => kernel_rfl
end Go.Proofs.YteadglnenaiaaaaGreatDoor.W
namespace Go.Proofs.YteadglnenaiaaaaGreatDoor.W
open Go.RowKit
def PowLies (w : World) : Prop := Lib.TabIs Tryz.prog w "internal/strconv.uint64pow10" .u64 Lib.pow10Tab
theorem tab_belowT {n : String} {g : Nat} {k : IntKind} {zs : List Int} {w w' : World} (hg : Tryz.prog.globalNamed n = some g) (h : Lib.TabIs Tryz.prog w n k zs) (hb : Below w.heap.size w w') : Lib.TabIs Tryz.prog w' n k zs := by
  unfold Lib.TabIs World.var? at h ⊢
  rw [hg] at h ⊢
  simp only [Option.bind_some] at h ⊢
  have hlt : g < w.heap.size := by
    rcases Nat.lt_or_ge g w.heap.size with h' | h'
    · exact h'
    · rw [Array.getElem?_eq_none h'] at h; cases h
  rw [hb.block g hlt]
  exact h
theorem PowLies.below {w w' : World} (h : PowLies w) (hb : Below w.heap.size w w') : PowLies w' := tab_belowT (g := 2) (by kernel_rfl) h hb
theorem itoa_is (n : Int) (h0 : -9223372036854775808 ≤ n) (h1 : n ≤ 9223372036854775807) (w : World) (h : PowLies w) : Calls Tryz.prog 93 #[.int .i64 n] w fun e w' => e = .returned (.string (Pl.num n)) ∧ Below w.heap.size w w' :=
  (Tryz.strconv_Itoa n h0 h1 w h).mono fun e w' ⟨he, k, os, hw⟩ => ⟨he, hw ▸ Lib.below_grow _ w (Nat.le_refl _) k os⟩
theorem clone_is (s : ByteArray) (hs : s.size ≤ 1048576) (w : World) : Calls Tryz.prog 76 #[.string s] w fun e w' => e = .returned (.string s) ∧ Below w.heap.size w w' := by
  go_enter Tryz.func76, Tryz.ntmps76
  go_wp2_with (go_at_call 91; refine (Tryz.stringslite_Clone s _ (by omega)).mono ?_; rintro e u1 ⟨rfl, d1⟩)
  go_ret
  exact ⟨rfl, d1⟩
theorem qt_one (b : Nat) (hb : b < 256) : Pl.qt ⟨#[UInt8.ofNat b]⟩ 39 = Pl.chr b := by
  have e : (UInt8.ofNat b).toNat = b := by simp; omega
  unfold Pl.qt Pl.qc Pl.chr
  show (⟨((UInt8.ofNat 39 :: (List.take 1 [UInt8.ofNat b]).flatMap _) ++ [UInt8.ofNat 39]).toArray⟩ : ByteArray) = _
  simp [e]
theorem str_lit {a : ByteArray} {l : List UInt8} (h : a = ⟨l.toArray⟩) : (a.toList == l) = true := by rw [h, ByteArray.toList_eq]; exact beq_self_eq_true _
theorem str_nlit {a : ByteArray} {l : List UInt8} (h : a ≠ ⟨l.toArray⟩) : (a.toList == l) = false := by
  rw [ByteArray.toList_eq, Bool.eq_false_iff]
  intro q
  exact h (Go.WideShapes.bytes_inj (by simpa using q))
theorem num_size20 (n : Int) (h0 : -9223372036854775808 ≤ n) (h1 : n ≤ 9223372036854775807) : (Pl.num n).size ≤ 20 := by
  rcases Int.lt_or_le n 0 with q | q
  · have key : ∀ (m u : Nat), u < 10 ^ (m + 1) → (Lib.decDigits u).length ≤ m + 1 := by
      intro m
      induction m with
      | zero => intro u h; rw [Pl.dig_small (by simpa using h)]; simp
      | succ m ih =>
        intro u h
        by_cases h' : u < 10
        · rw [Pl.dig_small h']; simp
        · rw [Pl.dig_big h']
          rw [Nat.pow_succ] at h
          have := ih (u / 10) (by omega)
          simp
          omega
    rw [Pl.num_neg q]
    have := key 18 n.natAbs (by omega)
    simp [ByteArray.size]
    omega
  · have := Pl.num_size19 n q h1
    omega
theorem one_byte {w : World} {b : Nat} {n : Int} {o : Obj} (hb : (b : Int) = n % 256) (h2 : b < 256) (j : Nat) (h : j < (⟨#[UInt8.ofNat b]⟩ : ByteArray).size) : ((w.alloc o).alloc (.cells #[.int .u8 (n % 256)] 5)).cell? ⟨w.heap.size + 1, j, none⟩ = some (.int .u8 (((⟨#[UInt8.ofNat b]⟩ : ByteArray)[j]'h).toNat : Int)) := by
  obtain rfl : j = 0 := by
    have : (⟨#[UInt8.ofNat b]⟩ : ByteArray).size = 1 := rfl
    omega
  have e : (((⟨#[UInt8.ofNat b]⟩ : ByteArray)[0]'h).toNat : Int) = n % 256 := by
    show ((UInt8.ofNat b).toNat : Int) = _
    simp
    omega
  rw [e]
  simp
set_option maxRecDepth 8000 in
set_option maxHeartbeats 4000000 in
theorem integerText_is (t : Pl.Tk) (h0 : -9223372036854775808 ≤ t.N) (h1 : t.N ≤ 9223372036854775807) (w : World) (hd : DbLies w) (hp : PowLies w) : Calls Tryz.prog 77 #[.agg #[.int .i64 t.k, .string t.S, .int .i64 t.N, .int .i64 t.l, .int .i64 t.c]] w fun e w' => e = .returned (.string (if t.S = ⟨#[99]⟩ then Pl.chr (t.N % 256).toNat else if t.S = ⟨#[117]⟩ then Pl.num t.N ++ ⟨#[117]⟩ else Pl.num t.N)) ∧ Below w.heap.size w w' := by
  have HD : Hid (DbLies w) := hd
  have HP : Hid (PowLies w) := hp
  clear hd hp
  by_cases hc : t.S = ⟨#[99]⟩
  · rw [if_pos hc]
    have e1 : (t.S.toList == [99]) = true := str_lit hc
    obtain ⟨b, hb⟩ : ∃ b : Nat, (b : Int) = t.N % 256 := ⟨(t.N % 256).toNat, by omega⟩
    have hb2 : b < 256 := by omega
    have HB : Hid ((b : Int) = t.N % 256) := hb
    have eb : (t.N % 256).toNat = b := by omega
    rw [eb]
    clear hc hb eb
    have B1 : Hid (Below w.heap.size w ((w.alloc (.cells #[.int .i64 t.k, .string t.S, .int .i64 t.N, .int .i64 t.l, .int .i64 t.c] 56)).alloc (.cells #[.int .u8 (t.N % 256)] 5))) := ((below_allocL w _).trans ((below_allocL _ _).mono (by simp)))
    go_enter Tryz.func77, Tryz.ntmps77
    go_wp2_with (go_at_call 92; (refine (quote_any ⟨#[UInt8.ofNat b]⟩ (by show 1 ≤ 1048576; decide) 39 (.inr rfl) (w.heap.size + 1) 1 ((w.alloc (.cells #[.int .i64 t.k, .string t.S, .int .i64 t.N, .int .i64 t.l, .int .i64 t.c] 56)).alloc (.cells #[.int .u8 (t.N % 256)] 5)) (HD.out.below B1.out) (by simp) (fun j h => one_byte HB.out hb2 j h)).mono ?_); rintro e u1 ⟨rfl, d1⟩)
    go_ret
    exact ⟨by rw [qt_one b hb2]; rfl, B1.out.trans (d1.mono B1.out.size)⟩
  rw [if_neg hc]
  have e1 : (t.S.toList == [99]) = false := str_nlit hc
  have hns := num_size20 t.N h0 h1
  have hcat2 : ¬ (9223372036854775807 < (Pl.num t.N).size + 1) := by omega
  have HNB : Hid (-9223372036854775808 ≤ t.N ∧ t.N ≤ 9223372036854775807) := ⟨h0, h1⟩
  clear hc h0 h1
  by_cases hu : t.S = ⟨#[117]⟩
  · rw [if_pos hu]
    have e2 : (t.S.toList == [117]) = true := str_lit hu
    clear hu
    go_enter Tryz.func77, Tryz.ntmps77
    go_wp2_with (go_at_call 93; refine (itoa_is t.N HNB.out.1 HNB.out.2 _ (HP.out.below (below_allocL _ _))).mono ?_; rintro e u1 ⟨rfl, d1⟩)
    go_ret
    exact ⟨rfl, (below_allocL w _).trans (d1.mono (by simp))⟩
  · rw [if_neg hu]
    have e2 : (t.S.toList == [117]) = false := str_nlit hu
    clear hu
    go_enter Tryz.func77, Tryz.ntmps77
    go_wp2_with (go_at_call 93; refine (itoa_is t.N HNB.out.1 HNB.out.2 _ (HP.out.below (below_allocL _ _))).mono ?_; rintro e u1 ⟨rfl, d1⟩)
    go_ret
    exact ⟨rfl, (below_allocL w _).trans (d1.mono (by simp))⟩
set_option maxRecDepth 8000 in
set_option maxHeartbeats 4000000 in
theorem textFor_is (t : Pl.Tk) (h0 : -9223372036854775808 ≤ t.N) (h1 : t.N ≤ 9223372036854775807) (hS : t.S.size ≤ 1048576) (w : World) (hd : DbLies w) (hp : PowLies w) : Calls Tryz.prog 65 #[.agg #[.int .i64 t.k, .string t.S, .int .i64 t.N, .int .i64 t.l, .int .i64 t.c]] w fun e w' => e = .returned (.string (Pl.txtI t)) ∧ Below w.heap.size w w' := by
  have HD : Hid (DbLies w) := hd
  have HP : Hid (PowLies w) := hp
  have HNB : Hid (-9223372036854775808 ≤ t.N ∧ t.N ≤ 9223372036854775807) := ⟨h0, h1⟩
  have c0 : (w.alloc (.cells #[.int .i64 t.k, .string t.S, .int .i64 t.N, .int .i64 t.l, .int .i64 t.c] 56)).cell? ⟨w.heap.size, 0, none⟩ = some (.int .i64 t.k) := cell_of_row _ _ 0 _ 56 (0, 0) (heap_alloc_new w _)
  clear hd hp h0 h1
  unfold Pl.txtI
  have fin : ∀ (k1 k2 k5 k3 k4 : Bool), (t.k == 1) = k1 → (t.k == 2) = k2 → (t.k == 5) = k5 → (t.k == 3) = k3 → (t.k == 4) = k4 → True := fun _ _ _ _ _ _ _ _ _ _ => trivial
  clear fin
  by_cases hw : t.k = 1 ∨ t.k = 2 ∨ t.k = 5
  · rw [if_pos hw]
    rcases hw with hk | hk | hk
    · have hk' := hk
      have k1 : (t.k == 1) = true := by simp [hk]
      have k2 : (t.k == 2) = false := by simp [hk]
      have k5 : (t.k == 5) = false := by simp [hk]
      clear hk hk'
      go_enter Tryz.func65, Tryz.ntmps65
      go_wp2_with (go_at_call 76; refine (clone_is t.S hS _).mono ?_; rintro e u1 ⟨rfl, d1⟩)
      go_ret
      exact ⟨rfl, (below_allocL w _).trans (d1.mono (by simp))⟩
    · have hk' := hk
      have k1 : (t.k == 1) = false := by simp [hk]
      have k2 : (t.k == 2) = true := by simp [hk]
      have k5 : (t.k == 5) = false := by simp [hk]
      clear hk hk'
      go_enter Tryz.func65, Tryz.ntmps65
      go_wp2_with (go_at_call 76; refine (clone_is t.S hS _).mono ?_; rintro e u1 ⟨rfl, d1⟩)
      go_ret
      exact ⟨rfl, (below_allocL w _).trans (d1.mono (by simp))⟩
    · have hk' := hk
      have k1 : (t.k == 1) = false := by simp [hk]
      have k2 : (t.k == 2) = false := by simp [hk]
      have k5 : (t.k == 5) = true := by simp [hk]
      clear hk hk'
      go_enter Tryz.func65, Tryz.ntmps65
      go_wp2_with (go_at_call 76; refine (clone_is t.S hS _).mono ?_; rintro e u1 ⟨rfl, d1⟩)
      go_ret
      exact ⟨rfl, (below_allocL w _).trans (d1.mono (by simp))⟩
  rw [if_neg hw]
  have k1 : (t.k == 1) = false := by simp; omega
  have k2 : (t.k == 2) = false := by simp; omega
  have k5 : (t.k == 5) = false := by simp; omega
  clear hw
  by_cases h3 : t.k = 3
  · rw [if_pos h3]
    have k3 : (t.k == 3) = true := by simp [h3]
    clear h3
    have HI : Hid (∀ u : World, Below w.heap.size w u → Calls Tryz.prog 77 #[.agg #[.int .i64 t.k, .string t.S, .int .i64 t.N, .int .i64 t.l, .int .i64 t.c]] u fun e w' => e = .returned (.string (if t.S = ⟨#[99]⟩ then Pl.chr (t.N % 256).toNat else if t.S = ⟨#[117]⟩ then Pl.num t.N ++ ⟨#[117]⟩ else Pl.num t.N)) ∧ Below u.heap.size u w') := fun u hu => integerText_is t HNB.out.1 HNB.out.2 u (HD.out.below hu) (HP.out.below hu)
    generalize (if t.S = ⟨#[99]⟩ then Pl.chr (t.N % 256).toNat else if t.S = ⟨#[117]⟩ then Pl.num t.N ++ ⟨#[117]⟩ else Pl.num t.N) = X at *
    go_enter Tryz.func65, Tryz.ntmps65
    go_wp2_with (first | (go_at_call 77; refine (HI.out _ (below_allocL _ _)).mono ?_; rintro e u1 ⟨rfl, d1⟩) | (refine wpList_load_row rfl 56 _ rfl w.heap.size ?hx 56 #[.int .i64 t.k, .string t.S, .int .i64 t.N, .int .i64 t.l, .int .i64 t.c] (0, 0) _ ?hg Tryz.underlying56 ?hd ?hi ?_; (case hx => rfl); (case hg => exact heap_alloc_new w _); (case hd => rfl); (case hi => kernel_rfl)))
    go_ret
    exact ⟨rfl, (below_allocL w _).trans (d1.mono (by simp))⟩
  rw [if_neg h3]
  have k3 : (t.k == 3) = false := by simpa using h3
  clear h3
  by_cases h4 : t.k = 4
  · rw [if_pos h4]
    have k4 : (t.k == 4) = true := by simp [h4]
    clear h4
    go_enter Tryz.func65, Tryz.ntmps65
    go_wp2_with (go_at_call 78; refine (implQuote_any t.S hS _ (HD.out.below (below_allocL _ _))).mono ?_; rintro e u1 ⟨rfl, d1⟩)
    go_ret
    exact ⟨rfl, (below_allocL w _).trans (d1.mono (by simp))⟩
  · rw [if_neg h4]
    have k4 : (t.k == 4) = false := by simpa using h4
    clear h4
    go_enter Tryz.func65, Tryz.ntmps65
    go_wp2_with fail
    go_ret
    exact ⟨rfl, below_allocL w _⟩
end Go.Proofs.YteadglnenaiaaaaGreatDoor.W
namespace Go.Proofs.YteadglnenaiaaaaGreatDoor.W
open Go.RowKit
theorem part3 (xs : Array Value) (j : Nat) (v : Value) (h : xs[j]? = some v) (w : World) : (part 3 xs j).run Tryz.prog w = .ok v w := by
  have ht : (Tryz.prog.info? 3).map (fun i => i.size) = some 1 := by kernel_rfl
  obtain ⟨i0, hi, hz⟩ := Option.map_eq_some_iff.1 ht
  simp [part, sizeOf, typeInfo, hi, hz, h, Tryz.underlying3, go_sem]
theorem part9 (xs : Array Value) (j : Nat) (v : Value) (h : xs[j]? = some v) (w : World) : (part 9 xs j).run Tryz.prog w = .ok v w := by
  have ht : (Tryz.prog.info? 9).map (fun i => i.size) = some 1 := by kernel_rfl
  obtain ⟨i0, hi, hz⟩ := Option.map_eq_some_iff.1 ht
  simp [part, sizeOf, typeInfo, hi, hz, h, Tryz.underlying9, go_sem]
set_option maxHeartbeats 2000000 in
theorem eqTk (a0 : Int) (a1 : ByteArray) (a2 a3 a4 b0 : Int) (b1 : ByteArray) (b2 b3 b4 : Int) (w : World) : (Op.equalIn 10000 56 (.agg #[.int .i64 a0, .string a1, .int .i64 a2, .int .i64 a3, .int .i64 a4]) (.agg #[.int .i64 b0, .string b1, .int .i64 b2, .int .i64 b3, .int .i64 b4])).run Tryz.prog w = .ok (a0 == b0 && (a1.toList == b1.toList && (a2 == b2 && (a3 == b3 && a4 == b4)))) w := by
  have hp : Tryz.prog.stoodInHeld 56 = false := by kernel_rfl
  have hf : Tryz.prog.underlying 56 = some (.struct (Tryz.prog.fieldsOf 56)) := by simp [Program.fieldsOf, Tryz.underlying56]
  have hnm : (Tryz.prog.fieldsOf 56).toList.map (fun f => (f.name == "_", f.type, f.offset)) = [(false, 3, 0), (false, 9, 1), (false, 3, 2), (false, 3, 3), (false, 3, 4)] := by kernel_rfl
  rw [show (10000 : Nat) = 9998 + 1 + 1 from rfl, run_equalIn_struct w _ _ _ _ hf hp]
  generalize (Tryz.prog.fieldsOf 56).toList = fs at hnm
  obtain ⟨f0, f1, f2, f3, f4, rfl⟩ : ∃ f0 f1 f2 f3 f4, fs = [f0, f1, f2, f3, f4] := by
    have hl : fs.length = 5 := by have := congrArg List.length hnm; simpa using this
    match fs, hl with
    | [f0, f1, f2, f3, f4], _ => exact ⟨f0, f1, f2, f3, f4, rfl⟩
  simp only [List.map_cons, List.map_nil, List.cons.injEq, Prod.mk.injEq, and_true] at hnm
  obtain ⟨⟨n0, t0, o0⟩, ⟨n1, t1, o1⟩, ⟨n2, t2, o2⟩, ⟨n3, t3, o3⟩, n4, t4, o4⟩ := hnm
  have n0' : f0.name ≠ "_" := by simpa using n0
  have n1' : f1.name ≠ "_" := by simpa using n1
  have n2' : f2.name ≠ "_" := by simpa using n2
  have n3' : f3.name ≠ "_" := by simpa using n3
  have n4' : f4.name ≠ "_" := by simpa using n4
  simp only [Op.eqFields, t0, t1, t2, t3, t4, o0, o1, o2, o3, o4, ne_eq, n0', n1', n2', n3', n4', not_false_eq_true, if_true, Sem.run_bind, part3 #[.int .i64 a0, .string a1, .int .i64 a2, .int .i64 a3, .int .i64 a4] 0 (.int .i64 a0) rfl, part3 #[.int .i64 a0, .string a1, .int .i64 a2, .int .i64 a3, .int .i64 a4] 2 (.int .i64 a2) rfl, part3 #[.int .i64 a0, .string a1, .int .i64 a2, .int .i64 a3, .int .i64 a4] 3 (.int .i64 a3) rfl, part3 #[.int .i64 a0, .string a1, .int .i64 a2, .int .i64 a3, .int .i64 a4] 4 (.int .i64 a4) rfl, part9 #[.int .i64 a0, .string a1, .int .i64 a2, .int .i64 a3, .int .i64 a4] 1 (.string a1) rfl, part3 #[.int .i64 b0, .string b1, .int .i64 b2, .int .i64 b3, .int .i64 b4] 0 (.int .i64 b0) rfl, part3 #[.int .i64 b0, .string b1, .int .i64 b2, .int .i64 b3, .int .i64 b4] 2 (.int .i64 b2) rfl, part3 #[.int .i64 b0, .string b1, .int .i64 b2, .int .i64 b3, .int .i64 b4] 3 (.int .i64 b3) rfl, part3 #[.int .i64 b0, .string b1, .int .i64 b2, .int .i64 b3, .int .i64 b4] 4 (.int .i64 b4) rfl, part9 #[.int .i64 b0, .string b1, .int .i64 b2, .int .i64 b3, .int .i64 b4] 1 (.string b1) rfl, Result.andThen_ok, run_equalIn_int _ _ _ _ _ _ _ Tryz.underlying3, run_equalIn_string _ _ _ _ _ Tryz.underlying9]
  cases a0 == b0
  · simp only [Bool.not_false, if_true, Sem.run_pure, Bool.false_and]
  simp only [Bool.not_true, Bool.false_eq_true, if_false, Bool.true_and, Sem.run_bind, part3 #[.int .i64 a0, .string a1, .int .i64 a2, .int .i64 a3, .int .i64 a4] 2 (.int .i64 a2) rfl, part9 #[.int .i64 a0, .string a1, .int .i64 a2, .int .i64 a3, .int .i64 a4] 1 (.string a1) rfl, part9 #[.int .i64 b0, .string b1, .int .i64 b2, .int .i64 b3, .int .i64 b4] 1 (.string b1) rfl, Result.andThen_ok, run_equalIn_string _ _ _ _ _ Tryz.underlying9]
  cases a1.toList == b1.toList
  · simp only [Bool.not_false, if_true, Sem.run_pure, Bool.false_and]
  simp only [Bool.not_true, Bool.false_eq_true, if_false, Bool.true_and, Sem.run_bind, part3 #[.int .i64 a0, .string a1, .int .i64 a2, .int .i64 a3, .int .i64 a4] 2 (.int .i64 a2) rfl, part3 #[.int .i64 b0, .string b1, .int .i64 b2, .int .i64 b3, .int .i64 b4] 2 (.int .i64 b2) rfl, Result.andThen_ok, run_equalIn_int _ _ _ _ _ _ _ Tryz.underlying3]
  cases a2 == b2
  · simp only [Bool.not_false, if_true, Sem.run_pure, Bool.false_and]
  simp only [Bool.not_true, Bool.false_eq_true, if_false, Bool.true_and, Sem.run_bind, part3 #[.int .i64 a0, .string a1, .int .i64 a2, .int .i64 a3, .int .i64 a4] 3 (.int .i64 a3) rfl, part3 #[.int .i64 b0, .string b1, .int .i64 b2, .int .i64 b3, .int .i64 b4] 3 (.int .i64 b3) rfl, Result.andThen_ok, run_equalIn_int _ _ _ _ _ _ _ Tryz.underlying3]
  cases a3 == b3
  · simp only [Bool.not_false, if_true, Sem.run_pure, Bool.false_and]
  simp only [Bool.not_true, Bool.false_eq_true, if_false, Bool.true_and, Sem.run_bind, part3 #[.int .i64 a0, .string a1, .int .i64 a2, .int .i64 a3, .int .i64 a4] 4 (.int .i64 a4) rfl, part3 #[.int .i64 b0, .string b1, .int .i64 b2, .int .i64 b3, .int .i64 b4] 4 (.int .i64 b4) rfl, Result.andThen_ok, run_equalIn_int _ _ _ _ _ _ _ Tryz.underlying3]
  cases a4 == b4 <;> simp only [Bool.not_false, Bool.not_true, Bool.false_eq_true, if_true, if_false, Sem.run_pure]
theorem tk_beq {a b : Pl.Tk} (h : a ≠ b) : (a.k == b.k && (a.S.toList == b.S.toList && (a.N == b.N && (a.l == b.l && a.c == b.c)))) = false := by
  rw [Bool.eq_false_iff]
  intro q
  simp only [Bool.and_eq_true, beq_iff_eq] at q
  obtain ⟨q1, q2, q3, q4, q5⟩ := q
  exact h (tk_eq q1 (Classical.byContradiction fun r => by have := str_ne r; rw [q2] at this; simp at this) q3 q4 q5)
end Go.Proofs.YteadglnenaiaaaaGreatDoor.W
namespace Go.Proofs.YteadglnenaiaaaaGreatDoor.W
open Go.RowKit Go.Shelf
section
attribute [local go_sem] Oper.semAt_some
set_option maxHeartbeats 8000000 in
set_option maxRecDepth 100000 in
theorem implLex_big (a : Option Addr) (len cap : Nat) (s : ByteArray) (hl : s.size = len) (hbig : 20000 < len) (w : World) :
    Calls Tryz.prog 66 #[.slice a len cap] w fun e w' => LexSaid w.heap.size s e w' ∧ Below w.heap.size w w' := by
  have HLN : Hid (s.size = len) := hl
  clear hl
  refine (callsIn_wide (n := 4)).1 ?_
  refine callsIn_of_wp_marks Tryz.func66 rfl trivial ?_ rfl
  simp only [Tryz.ntmps66, List.size_toArray, List.length_cons, List.length_nil, Nat.reduceAdd, Nat.reduceSub, Array.replicate_succ, Array.replicate_zero, List.push_toArray, List.append_toArray, List.nil_append, List.cons_append]
  · have e1 : decide ((20000 : Int) < len) = true := by simp; omega
    have HB : Hid (20000 < len) := hbig
    clear hbig
    gi_wp2
    obtain ⟨q0, q1, q2, q3⟩ := four_heap w (.cells #[.slice none 0 0] 81) (.cells #[.int .i64 1] 3) (.cells #[.int .i64 1] 3) (.cells #[.int .i64 1] 3)
    refine ⟨_, results_c4 rfl _ _ w.heap.size (w.heap.size + 1) (w.heap.size + 1 + 1) (w.heap.size + 1 + 1 + 1) (.slice none 0 0) (.int .i64 1) (.int .i64 1) (.int .i64 1) rfl rfl rfl rfl (cell_of_row _ _ 0 _ 81 (0, 0) q0) (cell_of_row _ _ 0 _ 3 (0, 0) q1) (cell_of_row _ _ 0 _ 3 (0, 0) q2) (cell_of_row _ _ 0 _ 3 (0, 0) q3), ⟨[], 1, 1, 1, _, .inl ⟨by rw [HLN.out]; exact HB.out, rfl⟩, rfl, World.ownsRow_nil _ _ _ _⟩, ?_⟩
    repeat (first | exact Below.refl _ _ | refine Below.alloc ?_ (by first | (simp; done) | (simp; omega)) _)
end
theorem implLex_any (a : Option Addr) (len cap : Nat) (s : ByteArray) (hl : s.size = len) (w : World) (hE : Glo w) (hcv : ∀ u : World, Below w.heap.size w u → (convert 84 9 (.slice a len cap)).run Tryz.prog u = .ok (.string s) u) :
    Calls Tryz.prog 66 #[.slice a len cap] w fun e w' => LexSaid w.heap.size s e w' ∧ Below w.heap.size w w' := by
  by_cases h : 20000 < len
  · exact implLex_big a len cap s hl h w
  · exact implLex_is a len cap s hl (by omega) w hE hcv
set_option maxRecDepth 8000 in
set_option maxHeartbeats 8000000 in
theorem implTT_is (t : Pl.Tk) (h0 : -9223372036854775808 ≤ t.N) (h1 : t.N ≤ 9223372036854775807) (hS : t.S.size ≤ 1048576) (w : World) (hE : Glo w) (hd : DbLies w) (hp : PowLies w) : Calls Tryz.prog 53 #[.agg #[.int .i64 t.k, .string t.S, .int .i64 t.N, .int .i64 t.l, .int .i64 t.c]] w fun e w' => e = .returned (.string (Pl.ttI t)) ∧ Below w.heap.size w w' := by
  have hcv : ∀ (u : World) (t : ByteArray), (convert 9 84 (.string t)).run Tryz.prog u = .ok (.slice (some ⟨u.heap.size, 0, none⟩) t.size (grownCap u t.size 0 5)) (Lib.bytesWorld u 5 t) := fun u t => Lib.run_convert_string_bytes u 9 84 5 t Tryz.underlying9 Tryz.underlying84 Tryz.underlying5
  have HTF : Hid (∀ u : World, Below w.heap.size w u → Calls Tryz.prog 65 #[.agg #[.int .i64 t.k, .string t.S, .int .i64 t.N, .int .i64 t.l, .int .i64 t.c]] u fun e w' => e = .returned (.string (Pl.txtI t)) ∧ Below u.heap.size u w') := fun u hu => textFor_is t h0 h1 hS u (hd.below hu) (hp.below hu)
  have HE : Hid (Glo w) := hE
  clear h0 h1 hS hE hd hp
  unfold Pl.ttI
  generalize Pl.txtI t = x at *
  go_enter Tryz.func53, Tryz.ntmps53
  go_upto_region 2 with (first | (go_at_call 65; refine (HTF.out _ (below_allocL _ _)).mono ?_; rintro e u1 ⟨rfl, d1⟩; have D1 : Hid (Below (w.alloc (.cells #[.int .i64 t.k, .string t.S, .int .i64 t.N, .int .i64 t.l, .int .i64 t.c] 56)).heap.size (w.alloc (.cells #[.int .i64 t.k, .string t.S, .int .i64 t.N, .int .i64 t.l, .int .i64 t.c] 56)) u1) := d1; clear d1) | (refine wpList_load_row rfl 56 _ rfl w.heap.size ?hx 56 #[.int .i64 t.k, .string t.S, .int .i64 t.N, .int .i64 t.l, .int .i64 t.c] (0, 0) _ ?hg Tryz.underlying56 ?hd ?hi ?_; (case hx => rfl); (case hg => exact heap_alloc_new w _); (case hd => rfl); (case hi => kernel_rfl)))
  have R1 : u1.heap[w.heap.size]? = some (.cells #[.int .i64 t.k, .string t.S, .int .i64 t.N, .int .i64 t.l, .int .i64 t.c] 56 (0, 0)) := (D1.out.block _ (by simp)).trans (heap_alloc_new w _)
  have c3 : u1.cell? ⟨w.heap.size, 3, none⟩ = some (.int .i64 t.l) := cell_of_row u1 _ 3 _ 56 (0, 0) R1
  have c4 : u1.cell? ⟨w.heap.size, 4, none⟩ = some (.int .i64 t.c) := cell_of_row u1 _ 4 _ 56 (0, 0) R1
  have f3 : u1.frozen? ⟨w.heap.size, 3, none⟩ = false := frozen_of_row u1 _ 3 _ 56 R1
  have f4 : u1.frozen? ⟨w.heap.size, 4, none⟩ = false := frozen_of_row u1 _ 4 _ 56 R1
  have B1 : Below w.heap.size w u1 := (below_allocL w _).trans (D1.out.mono (by simp))
  have HR1 : Hid _ := R1
  have HB1 : Hid (Below w.heap.size w u1) := B1
  clear R1 B1
  go_upto_region 3 with fail
  obtain ⟨U, hU⟩ : ∃ U, U = ((u1.setCell ⟨w.heap.size, 3, none⟩ (.int .i64 1)).setCell ⟨w.heap.size, 4, none⟩ (.int .i64 1)) := ⟨_, rfl⟩
  rw [← hU]
  have R2 : U.heap[w.heap.size]? = some (.cells #[.int .i64 t.k, .string t.S, .int .i64 t.N, .int .i64 1, .int .i64 1] 56 (0, 0)) := by
    rw [hU]
    exact heap_setCell_same _ _ _ _ _ _ (heap_setCell_same _ _ _ _ _ _ HR1.out)
  have B2 : Below w.heap.size w U := by
    rw [hU]
    exact (HB1.out.setCell (p := ⟨w.heap.size, 3, none⟩) (Nat.le_refl _) _).setCell (p := ⟨w.heap.size, 4, none⟩) (Nat.le_refl _) _
  have zU : w.heap.size < U.heap.size := (Array.getElem?_eq_some_iff.1 R2).1
  have HR2 : Hid _ := R2
  have HB2 : Hid (Below w.heap.size w U) := B2
  have BY : Hid (Below w.heap.size w (Lib.bytesWorld U 5 x)) := B2.trans ((Joins.below_bytesWorld _ _ 5 _ (Nat.le_refl _)).mono B2.size)
  clear hU R2 B2 c3 c4 f3 f4
  go_upto_region 4 with (go_at_call 66; refine (implLex_any (some ⟨U.heap.size, 0, none⟩) x.size _ x rfl (Lib.bytesWorld U 5 x) (HE.out.on BY.out) (back_at U x (U.heap.size) rfl _)).mono ?_; rintro e u2 ⟨h2, d2⟩; obtain ⟨ts, c, l, k, a0, c0, hx, rfl, g2⟩ := LexSaid.got h2; have D2 : Hid _ := d2; have HX : Hid (LxAll x (ts, c, l, k)) := hx; have HG : Hid _ := g2; clear h2 g2 d2 hx)
  have R3 : u2.heap[w.heap.size]? = some (.cells #[.int .i64 t.k, .string t.S, .int .i64 t.N, .int .i64 1, .int .i64 1] 56 (0, 0)) := (D2.out.block _ (by rw [Lib.bytesWorld_size]; omega)).trans ((Lib.bytesWorld_at_old _ 5 _ _ (by omega)).trans HR2.out)
  have b0 : u2.cell? ⟨w.heap.size, 0, none⟩ = some (.int .i64 t.k) := cell_of_row u2 _ 0 _ 56 (0, 0) R3
  have b1 : u2.cell? ⟨w.heap.size, 1, none⟩ = some (.string t.S) := cell_of_row u2 _ 1 _ 56 (0, 0) R3
  have b2 : u2.cell? ⟨w.heap.size, 2, none⟩ = some (.int .i64 t.N) := cell_of_row u2 _ 2 _ 56 (0, 0) R3
  have b3 : u2.cell? ⟨w.heap.size, 3, none⟩ = some (.int .i64 1) := cell_of_row u2 _ 3 _ 56 (0, 0) R3
  have b4 : u2.cell? ⟨w.heap.size, 4, none⟩ = some (.int .i64 1) := cell_of_row u2 _ 4 _ 56 (0, 0) R3
  have HB3 : Hid (Below w.heap.size w u2) := BY.out.trans (D2.out.mono BY.out.size)
  clear R3 D2
  by_cases hl : ts.length = 2
  rotate_left
  · have e1 : ((ts.length : Int) != 2) = true := by simp; omega
    have HC : Hid (ts.length ≠ 2) := hl
    clear hl
    go_quiet (fail)
    go_wp2_with fail
    go_ret
    exact ⟨ret_no HX.out (fun t0 t1 q _ => absurd (by rw [q]; rfl) HC.out), by repeat (first | with_reducible exact HB3.out | refine Below.drew ?_ | refine below_drewN ?_ _)⟩
  obtain ⟨t0, t1, rfl⟩ := len_two hl
  obtain ⟨g, rfl, hlo, hg1, x0, hx0, c0', c1', c2', c3', c4'⟩ := tok_at HG.out.1 (k := 0) (by simp)
  obtain rfl : x0 = t0 := hx0
  clear hl hlo
  simp only [Nat.zero_mul, Nat.zero_add] at c0' c1' c2' c3' c4'
  have hU := Tryz.underlying56
  have hg9 : Tryz.prog.eqGuardType Tryz.prog.depth 56 = false := by kernel_rfl
  by_cases he : x0 = ⟨t.k, t.S, t.N, 1, 1⟩
  · have HEQ : Hid (x0 = ⟨t.k, t.S, t.N, 1, 1⟩) := he
    rw [he] at c0' c1' c2' c3' c4'
    dsimp only at c0' c1' c2' c3' c4'
    clear he
    have heq : ∀ u : World, (Op.equalIn 10000 56 (.agg #[.int .i64 t.k, .string t.S, .int .i64 t.N, .int .i64 1, .int .i64 1]) (.agg #[.int .i64 t.k, .string t.S, .int .i64 t.N, .int .i64 1, .int .i64 1])).run Tryz.prog u = .ok true u := fun u => by rw [eqTk]; simp
    go_quiet (fail)
    go_wp2_with fail
    go_ret
    exact ⟨ret_yes HX.out HEQ.out, by repeat (first | with_reducible exact HB3.out | refine Below.drew ?_ | refine below_drewN ?_ _)⟩
  · have HC : Hid (x0 ≠ ⟨t.k, t.S, t.N, 1, 1⟩) := he
    have hb := tk_beq he
    dsimp only at hb
    have heq : ∀ u : World, (Op.equalIn 10000 56 (.agg #[.int .i64 x0.k, .string x0.S, .int .i64 x0.N, .int .i64 x0.l, .int .i64 x0.c]) (.agg #[.int .i64 t.k, .string t.S, .int .i64 t.N, .int .i64 1, .int .i64 1])).run Tryz.prog u = .ok false u := fun u => by rw [eqTk, hb]
    clear he hb
    go_quiet (fail)
    go_wp2_with fail
    go_ret
    exact ⟨ret_no HX.out (fun t0 t1 q _ p => HC.out (by cases q; exact p)), by repeat (first | with_reducible exact HB3.out | refine Below.drew ?_ | refine below_drewN ?_ _)⟩
end Go.Proofs.YteadglnenaiaaaaGreatDoor.W
namespace Go.Proofs.YteadglnenaiaaaaGreatDoor.Pl
theorem wrdR_fT {s : ByteArray} {f : Int} (h : wrdR s = .error f) : f ≠ 0 := by
  unfold wrdR at h
  split at h
  · split at h
    · rename_i e
      cases h
      rcases intR_f e with q | q <;> omega
    · cases h
  · split at h
    · cases h; decide
    · split at h <;> cases h
theorem nm_wrd {s : ByteArray} (h0 : 0 < s.size) (hr : run wch s = s.size) : nmB s = match wrdR s with | .ok (k, _, _) => k == 1 | .error _ => false := by
  have hall : ∀ j, j < s.size → wch (byt s j) = true := by have := (run_run wch s).2.1; rw [hr] at this; exact this
  unfold wrdR
  cases hd : dg (byt s 0)
  · rw [if_neg (by decide)]
    by_cases hb : 40 < s.size
    · rw [if_pos hb]; simp [nmB]; omega
    · rw [if_neg hb]
      cases hk : isK s
      · rw [if_neg (by decide), nm_yes s h0 (by omega) hd hk hall]; rfl
      · rw [if_pos rfl]; simp [nmB, hk]
  · rw [if_pos rfl]
    have : nmB s = false := by simp [nmB, hd]
    rw [this]
    cases intR s with
    | error f => rfl
    | ok t => rfl
theorem ext_ne {s : ByteArray} (h : run wch s < s.size) : (s.extract 0 (run wch s)).toList ≠ s.toList := by
  intro e
  have := congrArg List.length e
  rw [ByteArray.toList_eq, ByteArray.toList_eq, Array.length_toList, Array.length_toList] at this
  have h2 : (s.extract 0 (run wch s)).size = s.size := this
  rw [ByteArray.size_extract] at h2
  omega
theorem ext_allT {s : ByteArray} : s.extract 0 s.size = s := by
  apply ByteArray.ext
  simp
end Go.Proofs.YteadglnenaiaaaaGreatDoor.Pl
namespace Go.Proofs.YteadglnenaiaaaaGreatDoor.W
open Go.RowKit
theorem isWithin_is (n a b : Int) (w : World) : Calls Tryz.prog 31 #[.int .i64 n, .int .i64 a, .int .i64 b] w fun e w' => e = .returned (.bool (decide (a ≤ n ∧ n ≤ b))) ∧ w' = w := by
  have HE : Hid (decide (a ≤ n ∧ n ≤ b) = decide (a ≤ n ∧ n ≤ b)) := rfl
  obtain ⟨R, hR⟩ : ∃ R, R = decide (a ≤ n ∧ n ≤ b) := ⟨_, rfl⟩
  rw [← hR]
  have HR : Hid (R = decide (a ≤ n ∧ n ≤ b)) := hR
  clear hR HE
  go_enter Tryz.func31, Tryz.ntmps31
  go_wp2
  all_goals (go_ret; refine ⟨ret_bool ?_, rfl⟩; rw [HR.out, Bool.eq_iff_iff]; (try simp only [Bool.or_eq_true, Bool.and_eq_true, beq_iff_eq, decide_eq_true_eq, Bool.false_eq_true, true_iff, false_iff, iff_true, iff_false] at *); first | done | omega | (simp; omega) | simp_all)
theorem assignable_is (m : Int) (w : World) : Calls Tryz.prog 55 #[.int .i64 m] w fun e w' => e = .returned (.bool (Pl.asgn m)) ∧ w' = w := by
  have HE : Hid (Pl.asgn m = decide ((0 ≤ m ∧ m ≤ 7) ∨ (14 ≤ m ∧ m ≤ 16))) := rfl
  generalize Pl.asgn m = R at *
  go_enter Tryz.func55, Tryz.ntmps55
  go_wp2
  all_goals (go_ret; refine ⟨ret_bool ?_, rfl⟩; rw [HE.out, Bool.eq_iff_iff]; (try simp only [Bool.or_eq_true, Bool.and_eq_true, beq_iff_eq, decide_eq_true_eq, Bool.false_eq_true, true_iff, false_iff, iff_true, iff_false] at *); first | done | omega | (simp; omega) | simp_all)
set_option maxHeartbeats 2000000 in
theorem literalOf_is (x : Pl.Nd) (v : SV) (w : World) : Calls Tryz.prog 54 #[.agg #[.int .i64 x.k, .int .i64 x.m, .int .i64 x.n, .string x.s, .slice v.a v.len v.cap, .int .i64 x.line, .int .i64 x.col]] w fun e w' => e = .returned (.agg #[.int .i64 (if x.k = 34 then 4 else 3), .string x.s, .int .i64 x.n, .int .i64 0, .int .i64 0]) ∧ Below w.heap.size w w' := by
  by_cases h : x.k = 34
  · rw [if_pos h]
    have hb : (x.k == 34) = true := by simpa using h
    clear h
    go_enter Tryz.func54, Tryz.ntmps54
    go_wp2
    exact bodyPost_ret (v := .agg #[.int .i64 4, .string x.s, .int .i64 x.n, .int .i64 0, .int .i64 0]) (by simp [results, Tryz.results54, go_sem]) rfl ⟨rfl, (by repeat (first | exact Below.refl _ _ | refine Below.alloc ?_ (by simp <;> omega) _))⟩
  · rw [if_neg h]
    have hb : (x.k == 34) = false := by simpa using h
    clear h
    go_enter Tryz.func54, Tryz.ntmps54
    go_wp2
    exact bodyPost_ret (v := .agg #[.int .i64 3, .string x.s, .int .i64 x.n, .int .i64 0, .int .i64 0]) (by simp [results, Tryz.results54, go_sem]) rfl ⟨rfl, (by repeat (first | exact Below.refl _ _ | refine Below.alloc ?_ (by simp <;> omega) _))⟩
set_option maxHeartbeats 4000000 in
theorem isNameWord_is (s : ByteArray) (hs : s.size ≤ 1048576) (w : World) (hE : Glo w) : Calls Tryz.prog 52 #[.string s] w fun e w' => e = .returned (.bool (Pl.nmB s)) ∧ Below w.heap.size w w' := by
  have HE : Hid (∀ u : World, Below w.heap.size w u → Glo u) := fun u hu => hE.on hu
  have HW : Hid (∀ u : World, Calls Tryz.prog 63 #[.string s] u fun e w' => e = .returned (.string (s.extract 0 (Pl.run Pl.wch s))) ∧ Below u.heap.size u w') := fun u => wordOf_is s (by omega) u
  by_cases h0 : s.size = 0
  · have hn : Pl.nmB s = false := by simp [Pl.nmB, h0]
    rw [hn]
    have he : s.toList.isEmpty = true := by rw [List.isEmpty_iff, Pl.nil_iff]; exact h0
    have hb : (s.toList == []) = true := by simpa using (Pl.nil_iff s).mpr h0
    clear hn h0 hE
    go_enter Tryz.func52, Tryz.ntmps52
    go_wp2
    go_ret
    exact ⟨rfl, Below.refl _ _⟩
  have hpos : 0 < s.size := by omega
  have he : s.toList.isEmpty = false := by rw [← Bool.not_eq_true, List.isEmpty_iff, Pl.nil_iff]; exact h0
  have hb : (s.toList == []) = false := by simpa using fun q => h0 ((Pl.nil_iff s).mp q)
  by_cases hr : Pl.run Pl.wch s < s.size
  · have hn : Pl.nmB s = false := by
      rcases (Pl.run_run Pl.wch s).2.2 with q | q
      · omega
      · exact Pl.nm_no s _ hr q
    rw [hn]
    obtain ⟨W, hW⟩ : ∃ W, W = s.extract 0 (Pl.run Pl.wch s) := ⟨_, rfl⟩
    have hne : (W.toList == s.toList) = false := by rw [hW]; simpa using Pl.ext_ne hr
    rw [← hW] at HW
    clear hn hW hr hE h0
    go_enter Tryz.func52, Tryz.ntmps52
    go_wp2_with (go_at_call 63; refine (HW.out _).mono ?_; rintro e u1 ⟨rfl, d1⟩; have D1 : Hid _ := d1; clear d1)
    go_ret
    exact ⟨rfl, D1.out⟩
  have hrn : Pl.run Pl.wch s = s.size := by have := (Pl.run_run Pl.wch s).1; omega
  rw [hrn, Pl.ext_allT] at HW
  have HN : Hid (Pl.nmB s = match Pl.wrdR s with | .ok (k, _, _) => k == 1 | .error _ => false) := Pl.nm_wrd hpos hrn
  have HRW : Hid (∀ u : World, Below w.heap.size w u → Calls Tryz.prog 64 #[.string s] u fun e w' => WrdI s e ∧ Below u.heap.size u w') := fun u hu => readWord_is s hpos hs u (HE.out u hu)
  clear hE hr hrn h0
  cases hw : Pl.wrdR s with
  | error f =>
    have hf : (f == 0) = false := by simpa using Pl.wrdR_fT hw
    have HN2 : Hid (Pl.nmB s = false) := by show Pl.nmB s = false; rw [HN.out, hw]
    have HRE : Hid (∀ u : World, Below w.heap.size w u → Calls Tryz.prog 64 #[.string s] u fun e w' => e = .returned (.tuple #[.agg #[.int .i64 0, .string ⟨#[]⟩, .int .i64 0, .int .i64 0, .int .i64 0], .int .i64 f]) ∧ Below u.heap.size u w') := fun u hu => (HRW.out u hu).mono fun e w' ⟨h1, h2⟩ => ⟨by unfold WrdI at h1; rw [hw] at h1; exact h1, h2⟩
    clear HN HRW hw
    go_enter Tryz.func52, Tryz.ntmps52
    go_wp2_with (first | (go_at_call 63; refine (HW.out _).mono ?_; rintro e u1 ⟨rfl, d1⟩; have D1 : Hid (Below w.heap.size w u1) := d1; clear d1) | (go_at_call 64; refine (HRE.out _ D1.out).mono ?_; rintro e u2 ⟨rfl, d2⟩; have D2 : Hid (Below w.heap.size w u2) := D1.out.trans (d2.mono D1.out.size); clear d2))
    go_ret
    exact ⟨ret_bool HN2.out.symm, D2.out.trans ((below_alloc _ _).mono D2.out.size)⟩
  | ok t =>
    obtain ⟨k, S, N⟩ := t
    have HN2 : Hid (Pl.nmB s = (k == 1)) := by show Pl.nmB s = _; rw [HN.out, hw]
    have HRE : Hid (∀ u : World, Below w.heap.size w u → Calls Tryz.prog 64 #[.string s] u fun e w' => e = .returned (.tuple #[.agg #[.int .i64 k, .string S, .int .i64 N, .int .i64 0, .int .i64 0], .int .i64 0]) ∧ Below u.heap.size u w') := fun u hu => (HRW.out u hu).mono fun e w' ⟨h1, h2⟩ => ⟨by unfold WrdI at h1; rw [hw] at h1; exact h1, h2⟩
    clear HN HRW hw
    go_enter Tryz.func52, Tryz.ntmps52
    go_wp2_with (first | (go_at_call 63; refine (HW.out _).mono ?_; rintro e u1 ⟨rfl, d1⟩; have D1 : Hid (Below w.heap.size w u1) := d1; clear d1) | (go_at_call 64; refine (HRE.out _ D1.out).mono ?_; rintro e u2 ⟨rfl, d2⟩; have D2 : Hid (Below w.heap.size w u2) := D1.out.trans (d2.mono D1.out.size); clear d2))
    all_goals (go_ret; refine ⟨ret_bool ?_, D2.out.trans ((below_alloc _ _).mono D2.out.size)⟩; rw [HN2.out]; try rfl)
end Go.Proofs.YteadglnenaiaaaaGreatDoor.W
namespace Go.Proofs.YteadglnenaiaaaaGreatDoor.Pl
structure RlS (r : Rl) : Prop where
  srt : 0 ≤ r.srt ∧ r.srt < 4294967296
  more : 0 ≤ r.more ∧ r.more < 4294967296
  kids : ∀ z ∈ r.kids, 0 ≤ z ∧ z < 4294967296
  most : 0 ≤ r.most ∧ r.most ≤ 4000
  len : r.kids.length ≤ 10
theorem rl_tab : ∀ k : Fin 50, (0 ≤ (rlT.getD k.val Rl.zero).srt ∧ (rlT.getD k.val Rl.zero).srt < 4294967296) ∧ (0 ≤ (rlT.getD k.val Rl.zero).more ∧ (rlT.getD k.val Rl.zero).more < 4294967296) ∧ (∀ z ∈ (rlT.getD k.val Rl.zero).kids, 0 ≤ z ∧ z < 4294967296) ∧ (0 ≤ (rlT.getD k.val Rl.zero).most ∧ (rlT.getD k.val Rl.zero).most ≤ 4000) ∧ (rlT.getD k.val Rl.zero).kids.length ≤ 10 := by decide +kernel
theorem rl_small (k : Int) : RlS (rl k) := by
  by_cases h : 0 ≤ k ∧ k ≤ 49
  · obtain ⟨n, rfl⟩ : ∃ n : Nat, k = n := ⟨k.toNat, by omega⟩
    have hn : n < 50 := by omega
    obtain ⟨a, b, c, d, e⟩ := rl_tab ⟨n, hn⟩
    rw [rl_in hn]
    exact ⟨a, b, c, d, e⟩
  · rw [rl_out (by omega)]
    exact ⟨by decide, by decide, fun z hz => (by cases hz), by decide, by decide⟩
theorem and_nat (a b : Nat) (ha : a < 4294967296) (hb : b < 4294967296) : bits .and .i64 (a : Int) (b : Int) = ((a &&& b : Nat) : Int) := by
  show IntKind.i64.wrap (((BitVec.ofInt 64 (a : Int) &&& BitVec.ofInt 64 (b : Int)).toNat : Nat) : Int) = _
  have e1 : (BitVec.ofInt 64 (a : Int)).toNat = a := by rw [BitVec.toNat_ofInt]; omega
  have e2 : (BitVec.ofInt 64 (b : Int)).toNat = b := by rw [BitVec.toNat_ofInt]; omega
  have h : a &&& b ≤ a := Nat.and_le_left
  rw [BitVec.toNat_and, e1, e2, IntKind.wrap_i64]
  omega
theorem and_zero {x y : Int} (hx : 0 ≤ x ∧ x < 4294967296) (hy : 0 ≤ y ∧ y < 4294967296) : (bits .and .i64 x y == 0) = decide (x.toNat &&& y.toNat = 0) := by
  have := and_nat x.toNat y.toNat (by omega) (by omega)
  rw [Int.toNat_of_nonneg hx.1, Int.toNat_of_nonneg hy.1] at this
  rw [this, Bool.eq_iff_iff]
  simp
end Go.Proofs.YteadglnenaiaaaaGreatDoor.Pl
namespace Go.Proofs.YteadglnenaiaaaaGreatDoor.W
open Go.RowKit
theorem code_atD {P : Program} {c : Code} {Q : Exit → Act → World → Prop} {a : Act} {W : World} (h : ∀ U, U = W → c.wp P Q a U) : c.wp P Q a W := h W rfl
theorem row_cellD {lo : Nat} {w : World} {a : Option Addr} {len cap : Nat} {zs : List Int} (h : Row .i64 lo w a len cap zs) {i : Nat} (hi : i < len) : ∃ b off, a = some ⟨b, off, none⟩ ∧ b < w.heap.size ∧ w.cell? ⟨b, off + i, none⟩ = some (.int .i64 (zs.getD i 0)) := by
  obtain ⟨_, _, _, _, h5⟩ := h
  rcases h5 with h5 | ⟨b, off, ha, _, hb, hc⟩
  · omega
  · exact ⟨b, off, ha, hb, hc i hi⟩
set_option maxRecDepth 8000 in
set_option maxHeartbeats 8000000 in
theorem kidsOk_is {lo lo2 : Nat} (gc : Nat) (a : Option Addr) (len cap : Nat) (xs : List Pl.Nd) (va : Option Addr) (vl vc : Nat) (ks : List Int) (r : Pl.Rl) (v : SV) (w : World) (hc : w.cell? ⟨gc, 0, none⟩ = some (.slice a len cap)) (hn : NRow lo w a len cap xs) (hk : Row .i64 lo w va vl vc ks) (hv : Row .i64 lo2 w v.a v.len v.cap r.kids) (hin : ∀ q, q < vl → ∃ c : Nat, ks.getD q 0 = (c : Int) ∧ c < len) (hrs : Pl.RlS r) :
    Calls Tryz.prog 33 #[.pointer (some ⟨gc, 0, none⟩), .slice va vl vc, .agg #[.int .i64 r.srt, .int .i64 r.word, .int .i64 r.lowM, .int .i64 r.highM, .int .i64 r.lowN, .int .i64 r.highN, .slice v.a v.len v.cap, .int .i64 r.more, .int .i64 r.most]] w fun e w' => e = .returned (.bool (Pl.isP (Pl.kI r (ks.map fun c => (Pl.nd xs c.toNat).k)))) ∧ Below w.heap.size w w' := by
  obtain ⟨R, hR⟩ : ∃ R, R = Pl.isP (Pl.kI r (ks.map fun c => (Pl.nd xs c.toNat).k)) := ⟨_, rfl⟩
  rw [← hR]
  have HR : Hid (R = Pl.isP (Pl.kI r (ks.map fun c => (Pl.nd xs c.toNat).k))) := hR
  have hvl : (vl : Int) ≤ 9223372036854775807 := by have := hk.small; omega
  have HKL : Hid (ks.length = vl) := hk.1
  have hfl : r.kids.length = v.len := hv.1
  have HFL : Hid (r.kids.length = v.len) := hfl
  have hfl2 : v.len ≤ 10 := by have := hrs.len; omega
  have hm := hrs.most
  have HRS : Hid (Pl.RlS r) := hrs
  have HC : Hid (w.cell? ⟨gc, 0, none⟩ = some (.slice a len cap)) := hc
  have HN : Hid (NRow lo w a len cap xs) := hn
  have HK : Hid (Row .i64 lo w va vl vc ks) := hk
  have HV : Hid (Row .i64 lo2 w v.a v.len v.cap r.kids) := hv
  have HIN : Hid (∀ q, q < vl → ∃ c : Nat, ks.getD q 0 = (c : Int) ∧ c < len) := hin
  have HWI : Hid (∀ (n a b : Int) (u : World), Calls Tryz.prog 31 #[.int .i64 n, .int .i64 a, .int .i64 b] u fun e w' => e = .returned (.bool (decide (a ≤ n ∧ n ≤ b))) ∧ w' = u) := fun n a b u => isWithin_is n a b u
  have HRN : Hid (∀ (k : Int) (u : World), Calls Tryz.prog 30 #[.int .i64 k] u fun e w' => RlIs (Pl.rl k) u e w') := fun k u => ruleOfNode_is k u
  have hgc : gc < w.heap.size := block_lt_of_cell hc
  clear hR hc hn hk hv hin hfl hrs
  obtain ⟨rs, rw1, rlm, rhm, rln, rhn, rk, rmo, rms⟩ := r
  simp only at hm
  obtain ⟨hm1, hm2⟩ := hm
  obtain ⟨fa, fl, fc⟩ := v
  simp only at hfl2
  by_cases hwi : (fl : Int) ≤ (vl : Int) ∧ (vl : Int) ≤ (fl : Int) + rms
  rotate_left
  · have HF : Hid (R = false) := by
      show R = false
      rw [HR.out]
      refine Pl.isP_no fun q => hwi ?_
      have h1 := q.1
      have h2 := q.2.1
      have e1 := HFL.out
      have e2 := HKL.out
      simp only [List.length_map] at h1 h2
      simp only at e1
      omega
    have hwb : decide ((fl : Int) ≤ (vl : Int) ∧ (vl : Int) ≤ (fl : Int) + rms) = false := decide_eq_false hwi
    go_enter Tryz.func33, Tryz.ntmps33
    go_wp2_with (go_at_call 31; refine (HWI.out _ _ _ _).mono ?_; rintro e u1 ⟨rfl, g1⟩; rw [g1, hwb]; clear g1 u1)
    go_ret
    exact ⟨ret_bool HF.out.symm, below_alloc _ _⟩
  have hwb : decide ((fl : Int) ≤ (vl : Int) ∧ (vl : Int) ≤ (fl : Int) + rms) = true := decide_eq_true hwi
  have HWI2 : Hid ((fl : Int) ≤ (vl : Int) ∧ (vl : Int) ≤ (fl : Int) + rms) := hwi
  clear hwi
  go_enter Tryz.func33, Tryz.ntmps33
  go_wp2_with (go_at_call 31; refine (HWI.out _ _ _ _).mono ?_; rintro e u1 ⟨rfl, g1⟩; rw [g1, hwb]; clear g1 u1)
  refine code_atD fun w0 hw0 => ?_
  have HB0 : Hid (Below w.heap.size w w0) := by rw [hw0]; exact below_alloc _ _
  have q0 : w0.heap[w.heap.size]? = some (.cells #[.int .i64 rs, .int .i64 rw1, .int .i64 rlm, .int .i64 rhm, .int .i64 rln, .int .i64 rhn, .slice fa fl fc, .int .i64 rmo, .int .i64 rms] 71 (0, 0)) := by rw [hw0]; exact heap_alloc_new w _
  have hz0 : w.heap.size < w0.heap.size := (Array.getElem?_eq_some_iff.1 q0).1
  have HKC : Hid (∀ u : World, Below w0.heap.size w0 u → u.cell? ⟨w.heap.size, 6, none⟩ = some (.slice fa fl fc) ∧ u.cell? ⟨w.heap.size, 7, none⟩ = some (.int .i64 rmo)) := fun u hu => by
    have f := fun j => cell_of_row u w.heap.size j _ 71 (0, 0) ((hu.block _ hz0).trans q0)
    exact ⟨f 6, f 7⟩
  have HCC : Hid (∀ u : World, Below w0.heap.size w0 u → u.cell? ⟨gc, 0, none⟩ = some (.slice a len cap)) := fun u hu => (hu.cell (p := ⟨gc, 0, none⟩) (by show gc < w0.heap.size; omega)).trans ((HB0.out.cell (p := ⟨gc, 0, none⟩) hgc).trans HC.out)
  have HBW : Hid (∀ u : World, Below w0.heap.size w0 u → Below w.heap.size w u) := fun u hu => HB0.out.trans (hu.mono (by omega))
  clear hw0 q0
  go_loopw [25] (fun vi wr => ∃ q : Nat, q ≤ vl ∧ vi = .int .i64 q ∧ Below w0.heap.size w0 wr ∧ Hid (∀ p, p < q → (Pl.rl (Pl.nd xs (ks.getD p 0).toNat).k).srt.toNat &&& (if p < fl then rk.getD p 0 else rmo).toNat ≠ 0)) (fun i _ => vl - (intOf i).toNat)
  case atStart => exact ⟨0, Nat.zero_le _, rfl, Below.refl _ _, fun p hp => absurd hp (Nat.not_lt_zero _)⟩
  case round =>
    obtain ⟨q, hq, rfl, hb, HA⟩ := hrel
    have HB : Hid (Below w0.heap.size w0 wr) := hb
    clear hb
    by_cases hlt : q < vl
    rotate_left
    · have hqe : q = vl := by omega
      have hi : ¬ ((q : Int) < (vl : Int)) := by omega
      have HF : Hid (R = true) := by
        show R = true
        rw [HR.out]
        have e1 := HFL.out
        have e2 := HKL.out
        have e3 := HWI2.out
        change rk.length = fl at e1
        refine Pl.isP_yes ⟨?_, ?_, fun p hp => ?_⟩
        · simp only [List.length_map]; omega
        · simp only [List.length_map]; omega
        · simp only [List.length_map] at hp
          have := HA.out p (by omega)
          rw [List.getD_eq_getElem?_getD, List.getElem?_map, List.getElem?_eq_getElem hp]
          rw [List.getD_eq_getElem?_getD (l := ks), List.getElem?_eq_getElem hp] at this
          rw [e1]
          exact this
      go_wp2_with fail
      go_ret
      exact ⟨ret_bool HF.out.symm, HBW.out _ HB.out⟩
    have hi : (q : Int) < (vl : Int) := by omega
    obtain ⟨c, hc1, hcl⟩ := HIN.out q hlt
    have hcll : (c : Int) < (len : Int) := by omega
    obtain ⟨b2, o2, hva, hb2, hcz⟩ := row_cellD (HK.out.keep (HBW.out wr HB.out)) hlt
    rw [hc1] at hcz
    obtain ⟨b3, o3, v3, ha, _, hb3, hc3, _, _⟩ := (HN.out.keep (HBW.out wr HB.out)).at hcl
    have ck := (nd_cells hc3).1
    obtain ⟨kc, hkc⟩ : ∃ kc, kc = (Pl.nd xs c).k := ⟨_, rfl⟩
    change wr.cell? _ = some (.int .i64 (Pl.nd xs c).k) at ck
    rw [← hkc] at ck
    have hcc := HCC.out wr HB.out
    rw [ha] at hcc
    obtain ⟨k6, k7⟩ := HKC.out wr HB.out
    subst hva
    obtain ⟨W0, hW0⟩ : ∃ W0 : Int, W0 = (if q < fl then rk.getD q 0 else rmo) := ⟨_, rfl⟩
    have HW0 : Hid (W0 = (if q < fl then rk.getD q 0 else rmo)) := hW0
    have HRK : Hid (∀ u : World, Calls Tryz.prog 30 #[.int .i64 kc] u fun e w' => RlIs (Pl.rl kc) u e w') := fun u => HRN.out kc u
    have HKN : Hid ((Pl.nd xs (ks.getD q 0).toNat).k = kc) := by show _ = kc; rw [hc1, Int.toNat_natCast, hkc]
    obtain ⟨rr, hrr⟩ : ∃ rr, rr = Pl.rl kc := ⟨_, rfl⟩
    have HRR : Hid (rr = Pl.rl kc) := hrr
    rw [← hrr] at HRK
    clear hrr
    obtain ⟨ra, rb, rc, rd, re, rf, rg, rh, rj⟩ := rr
    have hfi : ∀ (u : World) (v : SV), (Instr.field 71 (.agg #[.int .i64 ra, .int .i64 rb, .int .i64 rc, .int .i64 rd, .int .i64 re, .int .i64 rf, .slice v.a v.len v.cap, .int .i64 rh, .int .i64 rj]) 0).run Tryz.prog u = .ok (.int .i64 ra) u := fun u v => by simp [Instr.field, go_sem, Tryz.underlying71]; rfl
    clear hc3 hkc hc1 hW0
    have hsm := (Pl.rl_small kc).srt
    rw [← HRR.out] at hsm
    change 0 ≤ ra ∧ ra < 4294967296 at hsm
    by_cases hqf : q < fl
    · have hqfi : (q : Int) < (fl : Int) := by omega
      obtain ⟨b4, o4, hfa, hb4, hcf⟩ := row_cellD (HV.out.keep (HBW.out wr HB.out)) (i := q) hqf
      change fa = _ at hfa
      change wr.cell? _ = some (.int .i64 (rk.getD q 0)) at hcf
      subst hfa
      obtain ⟨z, hz⟩ : ∃ z, z = rk.getD q 0 := ⟨_, rfl⟩
      rw [← hz] at hcf
      have hzb : 0 ≤ z ∧ z < 4294967296 := HRS.out.kids z (by rw [hz]; exact Pl.getD_mem (by have := HFL.out; change rk.length = fl at this; show q < rk.length; omega))
      have HAND : Hid ((bits .and .i64 ra z == 0) = decide (ra.toNat &&& z.toNat = 0)) := Pl.and_zero hsm hzb
      have HWZ : Hid (W0 = z) := by show W0 = z; rw [HW0.out, if_pos hqf, hz]
      clear hz hzb hsm
      by_cases hand : ra.toNat &&& z.toNat = 0
      · have hb0 : (bits .and .i64 ra z == 0) = true := by rw [HAND.out]; exact decide_eq_true hand
        have HF : Hid (R = false) := by
          show R = false
          rw [HR.out]
          refine Pl.isP_no fun qq => ?_
          have e2 := HKL.out
          have h3 := qq.2.2 q (by rw [List.length_map]; omega)
          rw [List.getD_eq_getElem?_getD, List.getElem?_map, List.getElem?_eq_getElem (by omega)] at h3
          have e4 : (Pl.nd xs (ks[q]'(by omega)).toNat).k = kc := by have := HKN.out; rw [List.getD_eq_getElem?_getD, List.getElem?_eq_getElem (by omega)] at this; exact this
          have e5 := HFL.out
          change rk.length = fl at e5
          have e6 : (Pl.rl kc).srt = ra := by rw [← HRR.out]
          have e7 : (if q < rk.length then rk.getD q 0 else rmo) = W0 := by rw [e5, HW0.out]
          change (Pl.rl (Pl.nd xs (ks[q]'(by omega)).toNat).k).srt.toNat &&& (if q < rk.length then rk.getD q 0 else rmo).toNat ≠ 0 at h3
          rw [e4, e6, e7, HWZ.out] at h3
          exact h3 hand
        go_wp2_with (go_at_call 30; refine (HRK.out _).mono ?_; rintro e u2 hrl2; obtain ⟨v2, rfl, _, d2⟩ := hrl2)
        go_ret
        exact ⟨ret_bool HF.out.symm, HBW.out _ (HB.out.trans (d2.mono HB.out.size))⟩
      · have hb0 : (bits .and .i64 ra z == 0) = false := by rw [HAND.out]; exact decide_eq_false hand
        go_wp2_with (go_at_call 30; refine (HRK.out _).mono ?_; rintro e u2 hrl2; obtain ⟨v2, rfl, _, d2⟩ := hrl2)
        go_roundw
        case rel => exact ⟨q + 1, by omega, by go_num, HB.out.trans (d2.mono HB.out.size), fun p hp => by
          by_cases e : p = q
          · subst e
            have e6 : (Pl.rl kc).srt = ra := by rw [← HRR.out]
            rw [HKN.out, e6, ← HW0.out, HWZ.out]
            exact hand
          · exact HA.out p (by omega)⟩
        case measure => simp [intOf]; omega
    · have hqfi : ¬ (q : Int) < (fl : Int) := by omega
      have HAND : Hid ((bits .and .i64 ra rmo == 0) = decide (ra.toNat &&& rmo.toNat = 0)) := Pl.and_zero hsm HRS.out.more
      have HWZ : Hid (W0 = rmo) := by show W0 = rmo; rw [HW0.out, if_neg hqf]
      clear hsm
      by_cases hand : ra.toNat &&& rmo.toNat = 0
      · have hb0 : (bits .and .i64 ra rmo == 0) = true := by rw [HAND.out]; exact decide_eq_true hand
        have HF : Hid (R = false) := by
          show R = false
          rw [HR.out]
          refine Pl.isP_no fun qq => ?_
          have e2 := HKL.out
          have h3 := qq.2.2 q (by rw [List.length_map]; omega)
          rw [List.getD_eq_getElem?_getD, List.getElem?_map, List.getElem?_eq_getElem (by omega)] at h3
          have e4 : (Pl.nd xs (ks[q]'(by omega)).toNat).k = kc := by have := HKN.out; rw [List.getD_eq_getElem?_getD, List.getElem?_eq_getElem (by omega)] at this; exact this
          have e5 := HFL.out
          change rk.length = fl at e5
          have e6 : (Pl.rl kc).srt = ra := by rw [← HRR.out]
          have e7 : (if q < rk.length then rk.getD q 0 else rmo) = W0 := by rw [e5, HW0.out]
          change (Pl.rl (Pl.nd xs (ks[q]'(by omega)).toNat).k).srt.toNat &&& (if q < rk.length then rk.getD q 0 else rmo).toNat ≠ 0 at h3
          rw [e4, e6, e7, HWZ.out] at h3
          exact h3 hand
        go_wp2_with (go_at_call 30; refine (HRK.out _).mono ?_; rintro e u2 hrl2; obtain ⟨v2, rfl, _, d2⟩ := hrl2)
        go_ret
        exact ⟨ret_bool HF.out.symm, HBW.out _ (HB.out.trans (d2.mono HB.out.size))⟩
      · have hb0 : (bits .and .i64 ra rmo == 0) = false := by rw [HAND.out]; exact decide_eq_false hand
        go_wp2_with (go_at_call 30; refine (HRK.out _).mono ?_; rintro e u2 hrl2; obtain ⟨v2, rfl, _, d2⟩ := hrl2)
        go_roundw
        case rel => exact ⟨q + 1, by omega, by go_num, HB.out.trans (d2.mono HB.out.size), fun p hp => by
          by_cases e : p = q
          · subst e
            have e6 : (Pl.rl kc).srt = ra := by rw [← HRR.out]
            rw [HKN.out, e6, ← HW0.out, HWZ.out]
            exact hand
          · exact HA.out p (by omega)⟩
        case measure => simp [intOf]; omega
end Go.Proofs.YteadglnenaiaaaaGreatDoor.W
