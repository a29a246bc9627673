import Derived.Test.YtomhmjhcbencmaaLwB
import Derived.Test.YtomhmjhcbencmaaStD
set_option linter.unusedVariables false
namespace Go.Proofs.Ytomhmjhcbencmaa.Pl
/-- the first k bytes of a number laid at a place -/
def stk_ (zs : List Int) (p : Nat) (x : Int) : Nat → List Int
  | 0 => zs
  | k + 1 => (stk_ zs p x k).set (p + k) (x / pw (8 * k) % 256)
theorem stk_length (zs : List Int) (p : Nat) (x : Int) : ∀ k, (stk_ zs p x k).length = zs.length
  | 0 => rfl
  | k + 1 => by unfold stk_; rw [List.length_set]; exact stk_length zs p x k
theorem stk_bytes {zs : List Int} (hz : ∀ n ∈ zs, 0 ≤ n ∧ n ≤ 255) (p : Nat) (x : Int) : ∀ k, ∀ n ∈ stk_ zs p x k, 0 ≤ n ∧ n ≤ 255
  | 0 => hz
  | k + 1 => by
    intro n hn
    unfold stk_ at hn
    rcases List.mem_or_eq_of_mem_set hn with h | h
    · exact stk_bytes hz p x k n h
    · subst h; omega
end Go.Proofs.Ytomhmjhcbencmaa.Pl
namespace Go.Proofs.Ytomhmjhcbencmaa.W
open Go.RowKit
set_option maxHeartbeats 1000000 in
theorem store_bad (da sa : Option Addr) (dl dc sl sc : Nat) (kind at_ x code : Int) (w : World)
    (HF : Hid (∀ W, Calls Try.prog 87 #[.agg #[.iface 101 (.slice da dl dc), .iface 102 (.slice sa sl sc)], .int .i64 kind, .int .i64 at_] W fun e w' => e = .panicked [{ v := .iface 100 (.int .i64 code), recovered := false }] ∧ Below W.heap.size W w')) :
    Calls Try.prog 44 #[.agg #[.iface 101 (.slice da dl dc), .iface 102 (.slice sa sl sc)], .int .i64 kind, .int .i64 at_, .int .i64 x] w fun e w' => e = .panicked [{ v := .iface 100 (.int .i64 code), recovered := false }] ∧ Below w.heap.size w w' := by
  have P0 : Hid ((w.alloc (.cells #[.iface 101 (.slice da dl dc), .iface 102 (.slice sa sl sc)] 76)).heap[w.heap.size]? = some (.cells #[.iface 101 (.slice da dl dc), .iface 102 (.slice sa sl sc)] 76)) := heap_alloc_new w _
  go_enter Try.func44, Try.ntmps44
  go_wp2_with (refine wpList_load_row rfl 76 _ rfl (w.heap.size) ?hx 76 #[.iface 101 (.slice da dl dc), .iface 102 (.slice sa sl sc)] (0, 0) _ ?hg Try.underlying76 ?hd ?hi ?_; (case hx => rfl); (case hg => exact P0.out); (case hd => rfl); (case hi => kernel_rfl))
  refine (HF.out _).mono ?_
  rintro e u1 ⟨rfl, d1⟩
  go_wp2_with fail
  exact ⟨rfl, rfl, (below_alloc w _).trans (d1.mono (by simp))⟩
theorem wf_u8 {n : Int} (h : 0 ≤ n ∧ n ≤ 255) : (Lit.int .u8 n).wf = true := by
  simp [Lit.wf, IntKind.min, IntKind.max, IntKind.signed, IntKind.bits]
  omega
set_option maxHeartbeats 4000000 in
theorem store_good {lo : Nat} (da sa : Option Addr) (dl dc sl sc : Nat) (kind at_ x : Int) (g p size cap c0 len : Nat) (zs : List Int) (hs : 1 ≤ size ∧ size ≤ 4) (hx : -9223372036854775808 ≤ x ∧ x ≤ 9223372036854775807) (hp : p + size ≤ len) (hcap : c0 ≤ 9223372036854775807) (w : World) (hz : ∀ n ∈ zs, 0 ≤ n ∧ n ≤ 255)
    (ho : Own .u8 5 lo w (some ⟨g, 0, none⟩) len cap zs)
    (HF : Hid (∀ W, Calls Try.prog 87 #[.agg #[.iface 101 (.slice da dl dc), .iface 102 (.slice sa sl sc)], .int .i64 kind, .int .i64 at_] W fun e w' => e = .returned (.slice (some ⟨g, 0 + p, none⟩) size c0) ∧ Below W.heap.size W w')) :
    Calls Try.prog 44 #[.agg #[.iface 101 (.slice da dl dc), .iface 102 (.slice sa sl sc)], .int .i64 kind, .int .i64 at_, .int .i64 x] w fun e w' => e = .returned (.tuple #[]) ∧ ∃ u, Below w.heap.size w u ∧ Touch (some ⟨g, 0, none⟩) u w' ∧ Own .u8 5 lo w' (some ⟨g, 0, none⟩) len cap (Pl.stk_ zs p x size) := by
  have P0 : Hid ((w.alloc (.cells #[.iface 101 (.slice da dl dc), .iface 102 (.slice sa sl sc)] 76)).heap[w.heap.size]? = some (.cells #[.iface 101 (.slice da dl dc), .iface 102 (.slice sa sl sc)] 76)) := heap_alloc_new w _
  have HO : Hid (Own .u8 5 lo w (some ⟨g, 0, none⟩) len cap zs) := ho
  have HZ : Hid (∀ n ∈ zs, 0 ≤ n ∧ n ≤ 255) := hz
  have HL : Hid (zs.length = len) := ho.row.1
  clear ho hz
  go_enter Try.func44, Try.ntmps44
  go_wp2_with (refine wpList_load_row rfl 76 _ rfl (w.heap.size) ?hx 76 #[.iface 101 (.slice da dl dc), .iface 102 (.slice sa sl sc)] (0, 0) _ ?hg Try.underlying76 ?hd ?hi ?_; (case hx => rfl); (case hg => exact P0.out); (case hd => rfl); (case hi => kernel_rfl))
  refine (HF.out _).mono ?_
  rintro e u1 ⟨rfl, d1⟩
  have B1 : Hid (Below w.heap.size w u1) := (below_alloc w _).trans (d1.mono (by simp))
  clear d1 P0 HF
  have HO1 : Hid (u1.ownsRow lo 5 1 (.slice (some ⟨g, 0, none⟩) len cap) len (zs.map (Value.int .u8))) := (HO.out.keep B1.out).1
  clear HO
  rw [Nat.zero_add]
  go_wp2_with fail
  go_loopw [16] (fun i wr => ∃ j : Nat, j ≤ size ∧ i = .int .i64 j ∧ wr.ownsRow lo 5 1 (.slice (some ⟨g, 0, none⟩) len cap) len ((Pl.stk_ zs p x j).map (Value.int .u8)) ∧ Touch (some ⟨g, 0, none⟩) u1 wr) (fun i _ => size - (intOf i).toNat)
  case atStart => exact ⟨0, Nat.zero_le _, rfl, HO1.out, Touch.refl _ _⟩
  case round =>
    obtain ⟨j, hj, rfl, hw, ht⟩ := hrel
    clear HO1
    have HW : Hid (wr.ownsRow lo 5 1 (.slice (some ⟨g, 0, none⟩) len cap) len ((Pl.stk_ zs p x j).map (Value.int .u8))) := hw
    have HT : Hid (Touch (some ⟨g, 0, none⟩) u1 wr) := ht
    clear hw ht
    by_cases hlt : j < size
    · have hfz : wr.frozen? ⟨g, p + j, none⟩ = false := HW.out.frozenAt (p + j)
      obtain ⟨y, hy⟩ : ∃ y, wr.cell? ⟨g, p + j, none⟩ = some (.int .u8 y) := by
        have := HW.out.cellAt (p + j) (by omega)
        rw [List.getElem?_map, List.getElem?_eq_getElem (by rw [Pl.stk_length]; have := HL.out; omega)] at this
        exact ⟨_, this⟩
      have HS := HW.out.stored (p + j) (.int .u8 (x / Pl.pw (8 * j) % 256))
      have HS' : Hid ((wr.setCell ⟨g, p + j, none⟩ (.int .u8 (x / Pl.pw (8 * j) % 256))).ownsRow lo 5 1 (.slice (some ⟨g, 0, none⟩) len cap) len ((Pl.stk_ zs p x (j + 1)).map (Value.int .u8))) := by
        have h := HS.1
        rw [← List.map_set] at h
        exact h
      clear HS
      rcases (show j = 0 ∨ j = 1 ∨ j = 2 ∨ j = 3 by omega) with rfl | rfl | rfl | rfl
      · rw [show Pl.pw (8 * 0) = 1 from by decide] at HS'
        rw [Nat.add_zero] at hfz hy HS'
        rw [Int.ediv_one] at HS'
        go_wp2
        go_roundw
        case rel => exact ⟨1, by omega, rfl, HS'.out, HT.out.setCell rfl _⟩
        case measure => simp [intOf]; omega
      · rw [show Pl.pw (8 * 1) = 256 from by decide] at HS'
        go_wp2
        go_roundw
        case rel => exact ⟨2, by omega, rfl, HS'.out, HT.out.setCell rfl _⟩
        case measure => simp [intOf]; omega
      · rw [show Pl.pw (8 * 2) = 65536 from by decide] at HS'
        go_wp2
        go_roundw
        case rel => exact ⟨3, by omega, rfl, HS'.out, HT.out.setCell rfl _⟩
        case measure => simp [intOf]; omega
      · rw [show Pl.pw (8 * 3) = 16777216 from by decide] at HS'
        go_wp2
        go_roundw
        case rel => exact ⟨4, by omega, rfl, HS'.out, HT.out.setCell rfl _⟩
        case measure => simp [intOf]; omega
    · have hje : j = size := by omega
      subst hje
      go_wp2
      go_end0
      exact ⟨rfl, u1, B1.out, HT.out, HW.out, fun n hn => wf_u8 (Pl.stk_bytes HZ.out p x _ n hn)⟩
end Go.Proofs.Ytomhmjhcbencmaa.W
