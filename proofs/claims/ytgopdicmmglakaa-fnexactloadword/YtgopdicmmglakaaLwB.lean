import Derived.Test.YtgopdicmmglakaaLwA
import Derived.Defers
import Derived.Recover
set_option linter.unusedVariables false
namespace Go.Proofs.Ytgopdicmmglakaa.Pl
/-- the first k bytes from a place on, the low one first -/
def ldk (zs : List Int) (p : Nat) : Nat → Int
  | 0 => 0
  | k + 1 => ldk zs p k + zs.getD (p + k) 0 * pw (8 * k)
theorem ldk_bd {zs : List Int} (hz : ∀ n ∈ zs, 0 ≤ n ∧ n ≤ 255) (p : Nat) : ∀ k, 0 ≤ ldk zs p k ∧ ldk zs p k < pw (8 * k) := by
  intro k
  induction k with
  | zero => exact ⟨Int.le_refl 0, by show (0 : Int) < pw 0; decide⟩
  | succ k ih =>
    have hx : 0 ≤ zs.getD (p + k) 0 ∧ zs.getD (p + k) 0 ≤ 255 := by
      rw [List.getD_eq_getElem?_getD]
      cases h : zs[p + k]? with
      | none => exact ⟨by decide, by decide⟩
      | some x => exact hz x (List.mem_of_getElem? h)
    have e : pw (8 * (k + 1)) = pw (8 * k) * 256 := by
      have : 8 * (k + 1) = 8 * k + 8 := by omega
      rw [this]
      simp only [pw, Int.pow_add]
      rfl
    have hp := pw_pos (8 * k)
    unfold ldk
    rw [e]
    generalize zs.getD (p + k) 0 = x at hx
    generalize pw (8 * k) = q at ih hp
    obtain ⟨h1, h2⟩ := hx
    refine ⟨Int.add_nonneg ih.1 (Int.mul_nonneg h1 (by omega)), ?_⟩
    have : x * q ≤ 255 * q := Int.mul_le_mul_of_nonneg_right h2 (by omega)
    omega
end Go.Proofs.Ytgopdicmmglakaa.Pl
namespace Go.Proofs.Ytgopdicmmglakaa.W
open Go.RowKit
set_option maxHeartbeats 1000000 in
/-- a load that faults -/
theorem load_bad (da sa : Option Addr) (dl dc sl sc : Nat) (kind at_ code : Int) (w : World)
    (HF : Hid (∀ W, Calls Try.prog 70 #[.agg #[.iface 92 (.slice da dl dc), .iface 93 (.slice sa sl sc)], .int .i64 kind, .int .i64 at_] W fun e w' => e = .panicked [{ v := .iface 91 (.int .i64 code), recovered := false }] ∧ Below W.heap.size W w')) :
    Calls Try.prog 50 #[.agg #[.iface 92 (.slice da dl dc), .iface 93 (.slice sa sl sc)], .int .i64 kind, .int .i64 at_] w fun e w' => e = .panicked [{ v := .iface 91 (.int .i64 code), recovered := false }] ∧ Below w.heap.size w w' := by
  have P0 : Hid ((w.alloc (.cells #[.iface 92 (.slice da dl dc), .iface 93 (.slice sa sl sc)] 79)).heap[w.heap.size]? = some (.cells #[.iface 92 (.slice da dl dc), .iface 93 (.slice sa sl sc)] 79)) := heap_alloc_new w _
  go_enter Try.func50, Try.ntmps50
  go_wp2_with (refine wpList_load_row rfl 79 _ rfl (w.heap.size) ?hx 79 #[.iface 92 (.slice da dl dc), .iface 93 (.slice sa sl sc)] (0, 0) _ ?hg Try.underlying79 ?hd ?hi ?_; (case hx => rfl); (case hg => exact P0.out); (case hd => rfl); (case hi => kernel_rfl))
  refine (HF.out _).mono ?_
  rintro e u1 ⟨rfl, d1⟩
  go_wp2_with fail
  exact ⟨rfl, rfl, (below_alloc w _).trans (d1.mono (by simp))⟩
set_option maxHeartbeats 4000000 in
/-- a load that reads -/
theorem load_good (da sa : Option Addr) (dl dc sl sc : Nat) (kind at_ : Int) (b off p size cap lo len0 : Nat) (zs : List Int) (hs : 1 ≤ size ∧ size ≤ 4) (w : World) (hbl : b < w.heap.size) (hz : ∀ n ∈ zs, 0 ≤ n ∧ n ≤ 255)
    (hc : ∀ i, i < size → w.cell? ⟨b, off + p + i, none⟩ = some (.int .u8 (zs.getD (p + i) 0)))
    (HF : Hid (∀ W, Calls Try.prog 70 #[.agg #[.iface 92 (.slice da dl dc), .iface 93 (.slice sa sl sc)], .int .i64 kind, .int .i64 at_] W fun e w' => e = .returned (.slice (some ⟨b, off + p, none⟩) size cap) ∧ Below W.heap.size W w')) :
    Calls Try.prog 50 #[.agg #[.iface 92 (.slice da dl dc), .iface 93 (.slice sa sl sc)], .int .i64 kind, .int .i64 at_] w fun e w' => e = .returned (.int .i64 (Pl.nr kind (Pl.ldk zs p size))) ∧ Below w.heap.size w w' := by
  have P0 : Hid ((w.alloc (.cells #[.iface 92 (.slice da dl dc), .iface 93 (.slice sa sl sc)] 79)).heap[w.heap.size]? = some (.cells #[.iface 92 (.slice da dl dc), .iface 93 (.slice sa sl sc)] 79)) := heap_alloc_new w _
  have HC : Hid (∀ i, i < size → w.cell? ⟨b, off + p + i, none⟩ = some (.int .u8 (zs.getD (p + i) 0))) := hc
  have HZ : Hid (∀ n ∈ zs, 0 ≤ n ∧ n ≤ 255) := hz
  clear hc hz
  go_enter Try.func50, Try.ntmps50
  go_wp2_with (refine wpList_load_row rfl 79 _ rfl (w.heap.size) ?hx 79 #[.iface 92 (.slice da dl dc), .iface 93 (.slice sa sl sc)] (0, 0) _ ?hg Try.underlying79 ?hd ?hi ?_; (case hx => rfl); (case hg => exact P0.out); (case hd => rfl); (case hi => kernel_rfl))
  refine (HF.out _).mono ?_
  rintro e u1 ⟨rfl, d1⟩
  have B1 : Hid (Below w.heap.size w u1) := (below_alloc w _).trans (d1.mono (by simp))
  clear d1 P0 HF
  go_wp2_with fail
  go_loop [7, 17] (fun v i => ∃ k : Nat, k ≤ size ∧ i = .int .i64 k ∧ v = .int .i64 (Pl.ldk zs p k)) (fun _ i => size - (intOf i).toNat)
  case atStart => exact ⟨0, Nat.zero_le _, rfl, rfl⟩
  case round =>
    obtain ⟨k, hk, rfl, rfl⟩ := hrel
    by_cases hlt : k < size
    · obtain ⟨x, hx⟩ : ∃ x, x = zs.getD (p + k) 0 := ⟨_, rfl⟩
      have hcell : u1.cell? ⟨b, off + p + k, none⟩ = some (.int .u8 x) := by rw [hx, B1.out.cell (by exact hbl)]; exact HC.out k hlt
      have hxb : 0 ≤ x ∧ x ≤ 255 := by
        rw [hx, List.getD_eq_getElem?_getD]
        cases h : zs[p + k]? with
        | none => exact ⟨by decide, by decide⟩
        | some y => exact HZ.out y (List.mem_of_getElem? h)
      obtain ⟨v, hv⟩ : ∃ v, v = Pl.ldk zs p k := ⟨_, rfl⟩
      have hvb := Pl.ldk_bd HZ.out p k
      have HS : Hid (Pl.ldk zs p (k + 1) = v + x * Pl.pw (8 * k)) := by show Pl.ldk zs p (k + 1) = _; rw [hv, hx]; rfl
      rw [← hv] at hvb ⊢
      clear hx hv
      rcases (show k = 0 ∨ k = 1 ∨ k = 2 ∨ k = 3 by omega) with rfl | rfl | rfl | rfl
      · have hq : Pl.pw (8 * 0) = 1 := by decide
        rw [hq] at hvb HS
        clear hq
        rw [Nat.add_zero] at hcell
        have HT : Hid (Pl.ldk zs p 1 = v + x * 1) := HS.out
        clear HS
        go_wp2
        go_round
        case rel => exact ⟨1, by omega, rfl, congrArg (Value.int .i64) (by have h := HT.out; omega)⟩
        case measure => simp [intOf]; omega
      · have hq : Pl.pw (8 * 1) = 256 := by decide
        rw [hq] at hvb HS
        clear hq
        have HT : Hid (Pl.ldk zs p 2 = v + x * 256) := HS.out
        clear HS
        go_wp2
        go_round
        case rel => exact ⟨2, by omega, rfl, congrArg (Value.int .i64) (by have h := HT.out; omega)⟩
        case measure => simp [intOf]; omega
      · have hq : Pl.pw (8 * 2) = 65536 := by decide
        rw [hq] at hvb HS
        clear hq
        have HT : Hid (Pl.ldk zs p 3 = v + x * 65536) := HS.out
        clear HS
        go_wp2
        go_round
        case rel => exact ⟨3, by omega, rfl, congrArg (Value.int .i64) (by have h := HT.out; omega)⟩
        case measure => simp [intOf]; omega
      · have hq : Pl.pw (8 * 3) = 16777216 := by decide
        rw [hq] at hvb HS
        clear hq
        have HT : Hid (Pl.ldk zs p 4 = v + x * 16777216) := HS.out
        clear HS
        go_wp2
        go_round
        case rel => exact ⟨4, by omega, rfl, congrArg (Value.int .i64) (by have h := HT.out; omega)⟩
        case measure => simp [intOf]; omega
    · have hke : k = size := by omega
      subst hke
      go_wp2_with (go_at_call 71; refine (implNarrow_any _ _ _).mono ?_; rintro e w' ⟨rfl, rfl⟩)
      go_ret
      exact ⟨rfl, B1.out⟩
end Go.Proofs.Ytgopdicmmglakaa.W
