import Derived.Test.YtgpmplcamdophaaDoorLsC
import Derived.Laws.BytesString
import Derived.Laws.Cells
set_option linter.unusedVariables false
set_option linter.unusedSimpArgs false
namespace Go.Proofs.YtgpmplcamdophaaDoor.W
open Go.RowKit
theorem conv_one (w : World) (c : Int) : (convert 26 9 (.slice (some ⟨w.heap.size, 0, none⟩) 1 1)).run Tryd.prog (w.alloc (.cells #[.int .u8 c] 5)) = .ok (.string (ByteArray.empty.push (UInt8.ofNat c.toNat))) (w.alloc (.cells #[.int .u8 c] 5)) := by
  rw [run_convert_bytes_string _ 26 9 5 _ _ _ Tryd.underlying26 Tryd.underlying5 Tryd.underlying9]
  refine run_bytesToString _ _ 1 1 [c] ?_
  refine (run_loadCells_list _ _ [.int .u8 c] ?_).trans rfl
  intro j v hj
  rcases j with _ | j
  · cases hj
    exact cell_of_row _ w.heap.size 0 _ 5 (0, 0) (heap_alloc_new w _)
  · simp at hj
set_option maxRecDepth 8000 in
set_option maxHeartbeats 2000000 in
theorem markText_any (k : Int) (hk : 0 ≤ k ∧ k ≤ 4611686018427387904) (w : World) : Calls Tryd.prog 25 #[.int .i64 k] w fun e w' => ∃ s : ByteArray, e = .returned (.string s) ∧ s.size ≤ 20 ∧ Below w.heap.size w w' := by
  by_cases h0 : k ≤ 0
  · go_enter Tryd.func25, Tryd.ntmps25
    go_wp2
    go_ret
    exact ⟨_, rfl, by decide, Below.refl _ _⟩
  go_enter Tryd.func25, Tryd.ntmps25
  go_wp2_with fail
  go_loopw [0, 3] (fun x v wr => ∃ (n : Int) (s : ByteArray) (m : Nat), x = .int .i64 n ∧ v = .string s ∧ 0 ≤ n ∧ n ≤ 4611686018427387904 ∧ n < 10 ^ m ∧ s.size + m ≤ 19 ∧ Below w.heap.size w wr) (fun x _ _ => (intOf x).toNat)
  case atStart => exact ⟨k, ⟨#[]⟩, 19, rfl, rfl, hk.1, hk.2, by omega, by decide, Below.refl _ _⟩
  case round =>
    obtain ⟨n, s, m, rfl, rfl, hn0, hn1, hnm, hsm, hbel⟩ := hrel
    have HB : Hid (Below w.heap.size w wr) := hbel
    have HM : Hid (n < 10 ^ m) := hnm
    clear hbel hnm
    by_cases hp : 0 < n
    · have hcv := conv_one wr
      go_wp2
      go_roundw
      case rel =>
        obtain ⟨m, rfl⟩ : ∃ m', m = m' + 1 := by
          rcases m with _ | m
          · have := HM.out; simp at this; omega
          · exact ⟨m, rfl⟩
        have hq : n / 10 < 10 ^ m := by
          have := HM.out
          rw [Int.pow_succ] at this
          omega
        exact ⟨n / 10, _, m, by go_num, rfl, by omega, by omega, hq, by simp; omega, HB.out.trans ((below_alloc2 wr _).mono HB.out.size)⟩
      case measure => simp [intOf]; omega
    · go_wp2
      go_ret
      refine ⟨_, rfl, ?_, HB.out⟩
      have e1 : (⟨#[109]⟩ : ByteArray).size = 1 := rfl
      simp [e1]
      omega
end Go.Proofs.YtgpmplcamdophaaDoor.W
