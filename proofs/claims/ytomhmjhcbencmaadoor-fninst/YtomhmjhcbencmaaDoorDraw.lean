import Derived.Test.YtomhmjhcbencmaaDoorSl
import Derived.Deep.QuietTactic
import Derived.BigQuiet
import Derived.Great.Walk
namespace Go.Proofs.YtomhmjhcbencmaaDoor.W
open Go.RowKit
/-- a reader's struct at block c: its bytes lie in a block below, each a byte -/
def RdOk (w : World) (c : Nat) : Prop := ∃ (a : Option Addr) (len cap p : Nat), w.heap[c]? = some (.cells #[.slice a len cap, .int .i64 (p : Int)] 91) ∧ len ≤ 1500 ∧ p ≤ len ∧
  (len = 0 ∨ ∃ b off, a = some ⟨b, off, none⟩ ∧ b < c ∧ ∀ i, i < len → ∃ v : Nat, v ≤ 255 ∧ w.cell? ⟨b, off + i, none⟩ = some (.int .u8 (v : Int)))
theorem RdOk.drewN {w : World} {c : Nat} (h : RdOk w c) (m : Nat) : RdOk (w.drewN m) c := h
theorem rd_after {w u : World} {c b off len cap p : Nat} (hu : u.heap = w.heap) (hrow : w.heap[c]? = some (.cells #[.slice (some ⟨b, off, none⟩) len cap, .int .i64 (p : Int)] 91)) (hl : len ≤ 1500) (hlt : p < len) (hb : b < c)
    (hby : ∀ i, i < len → ∃ v : Nat, v ≤ 255 ∧ w.cell? ⟨b, off + i, none⟩ = some (.int .u8 (v : Int))) : RdOk (u.setCell ⟨c, 1, none⟩ (.int .i64 ((p : Int) + 1))) c := by
  refine ⟨some ⟨b, off, none⟩, len, cap, p + 1, ?_, hl, hlt, .inr ⟨b, off, rfl, hb, fun i hi => ?_⟩⟩
  · have h' : u.heap[c]? = some (.cells #[.slice (some ⟨b, off, none⟩) len cap, .int .i64 (p : Int)] 91 (0, 0)) := by rw [hu]; exact hrow
    rw [heap_setCell_same u c 1 _ 91 _ h']
    simp
  · obtain ⟨v, hv, hc⟩ := hby i hi
    refine ⟨v, hv, ?_⟩
    rw [← hc]
    refine World.cell?_of_block (w := w) ?_
    show (u.setCell ⟨c, 1, none⟩ _).heap[b]? = w.heap[b]?
    rw [heap_setCell_other u ⟨c, 1, none⟩ b _ (Nat.ne_of_lt hb), hu]
set_option maxHeartbeats 1000000 in
theorem next_any (w : World) (c : Nat) (h : RdOk w c) : Calls Tryd.prog 44 #[.pointer (some ⟨c, 0, none⟩)] w fun e w' => ∃ m : Nat, e = .returned (.int .i64 (m : Int)) ∧ m ≤ 255 ∧ RdOk w' c ∧ Below c w w' := by
  obtain ⟨a, len, cap, p, hrow, hl, hp, hbytes⟩ := h
  have hc0 : w.cell? ⟨c, 0, none⟩ = some (.slice a len cap) := by rw [cell_of_row w c 0 _ 91 (0, 0) hrow]; rfl
  have hc1 : w.cell? ⟨c, 1, none⟩ = some (.int .i64 (p : Int)) := by rw [cell_of_row w c 1 _ 91 (0, 0) hrow]; rfl
  have hf1 : w.frozen? ⟨c, 1, none⟩ = false := frozen_of_row w c 1 _ 91 hrow
  by_cases hlt : p < len
  · obtain ⟨b, off, rfl, hb, hby⟩ : ∃ b off, a = some ⟨b, off, none⟩ ∧ b < c ∧ ∀ i, i < len → ∃ v : Nat, v ≤ 255 ∧ w.cell? ⟨b, off + i, none⟩ = some (.int .u8 (v : Int)) := by
      rcases hbytes with h0 | h0
      · omega
      · exact h0
    obtain ⟨v, hv, hcv⟩ := hby p hlt
    have HB : Hid (∀ i, i < len → ∃ v : Nat, v ≤ 255 ∧ w.cell? ⟨b, off + i, none⟩ = some (.int .u8 (v : Int))) := hby
    have HR : Hid (w.heap[c]? = some (.cells #[.slice (some ⟨b, off, none⟩) len cap, .int .i64 (p : Int)] 91)) := hrow
    clear hby hrow hbytes
    go_enter Tryd.func44, Tryd.ntmps44
    go_wp2_with fail
    go_quiet (fail)
    go_wp2_with fail
    go_quiet (fail)
    go_wp2
    go_ret
    refine ⟨v, rfl, hv, ?_, ?_⟩
    · exact rd_after rfl HR.out hl hlt hb HB.out
    · refine Below.setCell (B := c) ?_ (Nat.le_refl _) _
      repeat (first | exact Below.refl _ _ | refine below_drewN ?_ _)
  · have HR : Hid (w.heap[c]? = some (.cells #[.slice a len cap, .int .i64 (p : Int)] 91)) := hrow
    have HB : Hid (len = 0 ∨ ∃ b off, a = some ⟨b, off, none⟩ ∧ b < c ∧ ∀ i, i < len → ∃ v : Nat, v ≤ 255 ∧ w.cell? ⟨b, off + i, none⟩ = some (.int .u8 (v : Int))) := hbytes
    clear hrow hbytes
    go_enter Tryd.func44, Tryd.ntmps44
    go_wp2_with fail
    go_quiet (fail)
    go_wp2
    go_ret
    exact ⟨0, rfl, by decide, ⟨a, len, cap, p, HR.out, hl, hp, HB.out⟩, by repeat (first | exact Below.refl _ _ | refine below_drewN ?_ _)⟩
def IsBytes (w : World) (a : Option Addr) (len cap : Nat) : Prop := len ≤ cap ∧ cap ≤ maxLen ∧ (len = 0 ∨ ∃ b off, a = some ⟨b, off, none⟩ ∧ b < w.heap.size ∧ ∀ i, i < len → ∃ v : Nat, v ≤ 255 ∧ w.cell? ⟨b, off + i, none⟩ = some (.int .u8 (v : Int)))
theorem rd_new {w : World} {a : Option Addr} {len cap n : Nat} (h : IsBytes w a len cap) (hn : n ≤ len) (hn' : n ≤ 1500) : RdOk (w.alloc (.cells #[.slice a n cap, .int .i64 0] 91)) w.heap.size := by
  obtain ⟨_, _, h⟩ := h
  refine ⟨a, n, cap, 0, heap_alloc_new w _, hn', Nat.zero_le _, ?_⟩
  rcases h with h | ⟨b, off, rfl, hb, hby⟩
  · exact .inl (by omega)
  · refine .inr ⟨b, off, rfl, hb, fun i hi => ?_⟩
    obtain ⟨v, hv, hc⟩ := hby i (by omega)
    exact ⟨v, hv, by rw [← hc]; exact World.cell?_of_block (w := w) (Below.heap_alloc w _ b hb)⟩
set_option maxHeartbeats 400000 in
theorem open_any (w : World) (a : Option Addr) (len cap : Nat) (h : IsBytes w a len cap) : Calls Tryd.prog 26 #[.slice a len cap] w fun e w' => e = .returned (.pointer (some ⟨w.heap.size, 0, none⟩)) ∧ RdOk w' w.heap.size ∧ Below w.heap.size w w' := by
  have h1 := h.1
  have h2 := h.2.1
  unfold maxLen at h2
  have HH : Hid (IsBytes w a len cap) := h
  clear h
  by_cases hl : 1500 < len
  · go_enter Tryd.func26, Tryd.ntmps26
    go_wp2
    go_ret
    exact ⟨rfl, rd_new HH.out (by omega) (Nat.le_refl _), (Below.refl _ _).alloc (Nat.le_refl _) _⟩
  · go_enter Tryd.func26, Tryd.ntmps26
    go_wp2
    go_ret
    exact ⟨rfl, rd_new HH.out (Nat.le_refl _) (by omega), (Below.refl _ _).alloc (Nat.le_refl _) _⟩
def tab12 : Array Value := #[.int .i64 0, .int .i64 1, .int .i64 4294967295, .int .i64 2147483648, .int .i64 2147483647, .int .i64 4294967294, .int .i64 65535, .int .i64 65536, .int .i64 32768, .int .i64 128, .int .i64 255, .int .i64 2147483649]
theorem tab12_at : ∀ j : Nat, j < 12 → ∃ n : Int, tab12[j]? = some (.int .i64 n)
  | 0, _ => ⟨_, rfl⟩ | 1, _ => ⟨_, rfl⟩ | 2, _ => ⟨_, rfl⟩ | 3, _ => ⟨_, rfl⟩ | 4, _ => ⟨_, rfl⟩ | 5, _ => ⟨_, rfl⟩ | 6, _ => ⟨_, rfl⟩ | 7, _ => ⟨_, rfl⟩ | 8, _ => ⟨_, rfl⟩ | 9, _ => ⟨_, rfl⟩ | 10, _ => ⟨_, rfl⟩ | 11, _ => ⟨_, rfl⟩
  | n + 12, h => absurd h (by omega)
def tab8 (m : Nat) : Array Value := #[.int .i64 (-1), .int .i64 (-(m : Int)), .int .i64 (4294967296 + (m : Int)), .int .i64 (-2147483648), .int .i64 (-4294967296 * (m : Int)), .int .i64 1099511627776, .int .i64 (-(m : Int) * 65536), .int .i64 ((m : Int) * 65537)]
theorem tab8_at (m : Nat) : ∀ j : Nat, j < 8 → ∃ n : Int, (tab8 m)[j]? = some (.int .i64 n)
  | 0, _ => ⟨_, rfl⟩ | 1, _ => ⟨_, rfl⟩ | 2, _ => ⟨_, rfl⟩ | 3, _ => ⟨_, rfl⟩ | 4, _ => ⟨_, rfl⟩ | 5, _ => ⟨_, rfl⟩ | 6, _ => ⟨_, rfl⟩ | 7, _ => ⟨_, rfl⟩
  | n + 8, h => absurd h (by omega)
theorem RdOk.lt {w : World} {c : Nat} (h : RdOk w c) : c < w.heap.size := by
  obtain ⟨a, len, cap, p, hrow, _⟩ := h
  exact (Array.getElem?_eq_some_iff.1 hrow).1
theorem RdOk.alloc {w : World} {c : Nat} (h : RdOk w c) (o : Obj) : RdOk (w.alloc o) c := by
  have hlt := h.lt
  obtain ⟨a, len, cap, p, hrow, hl, hp, hb⟩ := h
  refine ⟨a, len, cap, p, by rw [Below.heap_alloc w o c hlt]; exact hrow, hl, hp, ?_⟩
  rcases hb with hb | ⟨b, off, ha, hbc, hby⟩
  · exact .inl hb
  · refine .inr ⟨b, off, ha, hbc, fun i hi => ?_⟩
    obtain ⟨v, hv, hc⟩ := hby i hi
    exact ⟨v, hv, by rw [← hc]; exact World.cell?_of_block (w := w) (Below.heap_alloc w o b (by omega))⟩
end Go.Proofs.YtomhmjhcbencmaaDoor.W
