import Derived.Test.YtmnlhienhfmhdaaNarrow
import Derived.Deep.QuietTactic
import Derived.BigQuiet
import Derived.Great.Walk
namespace Go.Proofs.Ytmnlhienhfmhdaa.W
open Go.RowKit
/-- a reader's struct at block c: its bytes lie in a block below, each a byte -/
def RdOk (w : World) (c : Nat) : Prop := ∃ (a : Option Addr) (len cap p : Nat), w.heap[c]? = some (.cells #[.slice a len cap, .int .i64 (p : Int)] 92) ∧ len ≤ 1500 ∧ p ≤ len ∧
  (len = 0 ∨ ∃ b off, a = some ⟨b, off, none⟩ ∧ b < c ∧ ∀ i, i < len → ∃ v : Nat, v ≤ 255 ∧ w.cell? ⟨b, off + i, none⟩ = some (.int .u8 (v : Int)))
theorem RdOk.drewN {w : World} {c : Nat} (h : RdOk w c) (m : Nat) : RdOk (w.drewN m) c := h
theorem below_drewN {B : Nat} {a w : World} (h : Below B a w) (m : Nat) : Below B a (w.drewN m) := ⟨h.os, h.tape, h.output, h.size, h.block⟩
theorem rd_after {w u : World} {c b off len cap p : Nat} (hu : u.heap = w.heap) (hrow : w.heap[c]? = some (.cells #[.slice (some ⟨b, off, none⟩) len cap, .int .i64 (p : Int)] 92)) (hl : len ≤ 1500) (hlt : p < len) (hb : b < c)
    (hby : ∀ i, i < len → ∃ v : Nat, v ≤ 255 ∧ w.cell? ⟨b, off + i, none⟩ = some (.int .u8 (v : Int))) : RdOk (u.setCell ⟨c, 1, none⟩ (.int .i64 ((p : Int) + 1))) c := by
  refine ⟨some ⟨b, off, none⟩, len, cap, p + 1, ?_, hl, hlt, .inr ⟨b, off, rfl, hb, fun i hi => ?_⟩⟩
  · have h' : u.heap[c]? = some (.cells #[.slice (some ⟨b, off, none⟩) len cap, .int .i64 (p : Int)] 92 (0, 0)) := by rw [hu]; exact hrow
    rw [heap_setCell_same u c 1 _ 92 _ h']
    simp
  · obtain ⟨v, hv, hc⟩ := hby i hi
    refine ⟨v, hv, ?_⟩
    rw [← hc]
    refine World.cell?_of_block (w := w) ?_
    show (u.setCell ⟨c, 1, none⟩ _).heap[b]? = w.heap[b]?
    rw [heap_setCell_other u ⟨c, 1, none⟩ b _ (Nat.ne_of_lt hb), hu]
set_option maxHeartbeats 1000000 in
theorem next_any (w : World) (c : Nat) (h : RdOk w c) : Calls Try.prog 57 #[.pointer (some ⟨c, 0, none⟩)] w fun e w' => ∃ m : Nat, e = .returned (.int .i64 (m : Int)) ∧ m ≤ 255 ∧ RdOk w' c ∧ Below c w w' := by
  obtain ⟨a, len, cap, p, hrow, hl, hp, hbytes⟩ := h
  have hc0 : w.cell? ⟨c, 0, none⟩ = some (.slice a len cap) := by rw [cell_of_row w c 0 _ 92 (0, 0) hrow]; rfl
  have hc1 : w.cell? ⟨c, 1, none⟩ = some (.int .i64 (p : Int)) := by rw [cell_of_row w c 1 _ 92 (0, 0) hrow]; rfl
  have hf1 : w.frozen? ⟨c, 1, none⟩ = false := frozen_of_row w c 1 _ 92 hrow
  by_cases hlt : p < len
  · obtain ⟨b, off, rfl, hb, hby⟩ : ∃ b off, a = some ⟨b, off, none⟩ ∧ b < c ∧ ∀ i, i < len → ∃ v : Nat, v ≤ 255 ∧ w.cell? ⟨b, off + i, none⟩ = some (.int .u8 (v : Int)) := by
      rcases hbytes with h0 | h0
      · omega
      · exact h0
    obtain ⟨v, hv, hcv⟩ := hby p hlt
    have HB : Hid (∀ i, i < len → ∃ v : Nat, v ≤ 255 ∧ w.cell? ⟨b, off + i, none⟩ = some (.int .u8 (v : Int))) := hby
    have HR : Hid (w.heap[c]? = some (.cells #[.slice (some ⟨b, off, none⟩) len cap, .int .i64 (p : Int)] 92)) := hrow
    clear hby hrow hbytes
    go_enter Try.func57, Try.ntmps57
    go_wp2_with fail
    go_quiet (fail)
    go_wp2_with fail
    go_quiet (fail)
    go_wp2
    go_ret
    refine ⟨v, rfl, hv, ?_, ?_⟩
    · exact rd_after rfl HR.out hl hlt hb HB.out
    · refine Below.setCell (B := c) ?_ (Nat.le_refl _) _
      repeat (first | exact Below.refl _ _ | refine below_drewN ?_ _)
  · have HR : Hid (w.heap[c]? = some (.cells #[.slice a len cap, .int .i64 (p : Int)] 92)) := hrow
    have HB : Hid (len = 0 ∨ ∃ b off, a = some ⟨b, off, none⟩ ∧ b < c ∧ ∀ i, i < len → ∃ v : Nat, v ≤ 255 ∧ w.cell? ⟨b, off + i, none⟩ = some (.int .u8 (v : Int))) := hbytes
    clear hrow hbytes
    go_enter Try.func57, Try.ntmps57
    go_wp2_with fail
    go_quiet (fail)
    go_wp2
    go_ret
    exact ⟨0, rfl, by decide, ⟨a, len, cap, p, HR.out, hl, hp, HB.out⟩, by repeat (first | exact Below.refl _ _ | refine below_drewN ?_ _)⟩
def IsBytes (w : World) (a : Option Addr) (len cap : Nat) : Prop := len ≤ cap ∧ cap ≤ maxLen ∧ (len = 0 ∨ ∃ b off, a = some ⟨b, off, none⟩ ∧ b < w.heap.size ∧ ∀ i, i < len → ∃ v : Nat, v ≤ 255 ∧ w.cell? ⟨b, off + i, none⟩ = some (.int .u8 (v : Int)))
theorem rd_new {w : World} {a : Option Addr} {len cap n : Nat} (h : IsBytes w a len cap) (hn : n ≤ len) (hn' : n ≤ 1500) : RdOk (w.alloc (.cells #[.slice a n cap, .int .i64 0] 92)) w.heap.size := by
  obtain ⟨_, _, h⟩ := h
  refine ⟨a, n, cap, 0, heap_alloc_new w _, hn', Nat.zero_le _, ?_⟩
  rcases h with h | ⟨b, off, rfl, hb, hby⟩
  · exact .inl (by omega)
  · refine .inr ⟨b, off, rfl, hb, fun i hi => ?_⟩
    obtain ⟨v, hv, hc⟩ := hby i (by omega)
    exact ⟨v, hv, by rw [← hc]; exact World.cell?_of_block (w := w) (Below.heap_alloc w _ b hb)⟩
set_option maxHeartbeats 400000 in
theorem open_any (w : World) (a : Option Addr) (len cap : Nat) (h : IsBytes w a len cap) : Calls Try.prog 56 #[.slice a len cap] w fun e w' => e = .returned (.pointer (some ⟨w.heap.size, 0, none⟩)) ∧ RdOk w' w.heap.size ∧ Below w.heap.size w w' := by
  have h1 := h.1
  have h2 := h.2.1
  unfold maxLen at h2
  have HH : Hid (IsBytes w a len cap) := h
  clear h
  by_cases hl : 1500 < len
  · go_enter Try.func56, Try.ntmps56
    go_wp2
    go_ret
    exact ⟨rfl, rd_new HH.out (by omega) (Nat.le_refl _), (Below.refl _ _).alloc (Nat.le_refl _) _⟩
  · go_enter Try.func56, Try.ntmps56
    go_wp2
    go_ret
    exact ⟨rfl, rd_new HH.out (Nat.le_refl _) (by omega), (Below.refl _ _).alloc (Nat.le_refl _) _⟩
def tab12 : Array Value := #[.int .i64 0, .int .i64 1, .int .i64 4294967295, .int .i64 2147483648, .int .i64 2147483647, .int .i64 4294967294, .int .i64 65535, .int .i64 65536, .int .i64 32768, .int .i64 128, .int .i64 255, .int .i64 2147483649]
theorem tab12_at : ∀ j : Nat, j < 12 → ∃ n : Int, tab12[j]? = some (.int .i64 n)
  | 0, _ => ⟨_, rfl⟩ | 1, _ => ⟨_, rfl⟩ | 2, _ => ⟨_, rfl⟩ | 3, _ => ⟨_, rfl⟩ | 4, _ => ⟨_, rfl⟩ | 5, _ => ⟨_, rfl⟩ | 6, _ => ⟨_, rfl⟩ | 7, _ => ⟨_, rfl⟩ | 8, _ => ⟨_, rfl⟩ | 9, _ => ⟨_, rfl⟩ | 10, _ => ⟨_, rfl⟩ | 11, _ => ⟨_, rfl⟩
  | n + 12, h => absurd h (by omega)
def tab8 (m : Nat) : Array Value := #[.int .i64 (-1), .int .i64 (-(m : Int)), .int .i64 (4294967296 + (m : Int)), .int .i64 (-2147483648), .int .i64 (-4294967296 * (m : Int)), .int .i64 1099511627776, .int .i64 (-(m : Int) * 65536), .int .i64 ((m : Int) * 65537)]
theorem tab8_at (m : Nat) : ∀ j : Nat, j < 8 → ∃ n : Int, (tab8 m)[j]? = some (.int .i64 n)
  | 0, _ => ⟨_, rfl⟩ | 1, _ => ⟨_, rfl⟩ | 2, _ => ⟨_, rfl⟩ | 3, _ => ⟨_, rfl⟩ | 4, _ => ⟨_, rfl⟩ | 5, _ => ⟨_, rfl⟩ | 6, _ => ⟨_, rfl⟩ | 7, _ => ⟨_, rfl⟩
  | n + 8, h => absurd h (by omega)
theorem RdOk.lt {w : World} {c : Nat} (h : RdOk w c) : c < w.heap.size := by
  obtain ⟨a, len, cap, p, hrow, _⟩ := h
  exact (Array.getElem?_eq_some_iff.1 hrow).1
theorem RdOk.alloc {w : World} {c : Nat} (h : RdOk w c) (o : Obj) : RdOk (w.alloc o) c := by
  have hlt := h.lt
  obtain ⟨a, len, cap, p, hrow, hl, hp, hb⟩ := h
  refine ⟨a, len, cap, p, by rw [Below.heap_alloc w o c hlt]; exact hrow, hl, hp, ?_⟩
  rcases hb with hb | ⟨b, off, ha, hbc, hby⟩
  · exact .inl hb
  · refine .inr ⟨b, off, ha, hbc, fun i hi => ?_⟩
    obtain ⟨v, hv, hc⟩ := hby i hi
    exact ⟨v, hv, by rw [← hc]; exact World.cell?_of_block (w := w) (Below.heap_alloc w o b (by omega))⟩
set_option maxHeartbeats 1000000 in
theorem num_any (w : World) (c : Nat) (h : RdOk w c) : Calls Try.prog 58 #[.pointer (some ⟨c, 0, none⟩)] w fun e w' => ∃ n : Int, e = .returned (.int .i64 n) ∧ RdOk w' c ∧ Below c w w' := by
  have H0 : Hid (RdOk w c) := h
  clear h
  go_enter Try.func58, Try.ntmps58
  go_wp2_with fail
  refine (next_any _ c H0.out).mono ?_
  rintro e w1 ⟨k, rfl, hk, R1, B1⟩
  have H1 : Hid (RdOk w1 c) := R1
  clear R1
  go_wp2_with fail
  refine (next_any _ c H1.out).mono ?_
  rintro e w2 ⟨m, rfl, hm, R2, B2⟩
  have H2 : Hid (RdOk w2 c) := R2
  have B02 : Hid (Below c w w2) := B1.trans B2
  clear R2 B1 B2 H0 H1
  have h4 : k % 4 = 0 ∨ k % 4 = 1 ∨ k % 4 = 2 ∨ k % 4 = 3 := by omega
  rcases h4 with h4 | h4 | h4 | h4
  · have t0 : ((k : Int) % 4 == 0) = true := by simp; omega
    clear h4
    go_wp2_with fail
    go_ret
    exact ⟨_, rfl, H2.out, B02.out⟩
  · have t0 : ((k : Int) % 4 == 0) = false := by simp; omega
    have t1 : ((k : Int) % 4 == 1) = true := by simp; omega
    clear h4
    go_wp2_with fail
    refine (next_any _ c H2.out).mono ?_
    rintro e w3 ⟨x, rfl, hx, R3, B3⟩
    have H3 : Hid (RdOk w3 c) := R3
    have B03 : Hid (Below c w w3) := B02.out.trans B3
    clear R3 B3 H2 B02
    go_wp2_with fail
    refine (next_any _ c H3.out).mono ?_
    rintro e w4 ⟨y, rfl, hy, R4, B4⟩
    have H4 : Hid (RdOk w4 c) := R4
    have B04 : Hid (Below c w w4) := B03.out.trans B4
    clear R4 B4 H3 B03
    go_wp2_with fail
    refine (next_any _ c H4.out).mono ?_
    rintro e w5 ⟨z, rfl, hz, R5, B5⟩
    have H5 : Hid (RdOk w5 c) := R5
    have B05 : Hid (Below c w w5) := B04.out.trans B5
    clear R5 B5 H4 B04
    go_wp2_with fail
    go_ret
    exact ⟨_, rfl, H5.out, B05.out⟩
  · have t0 : ((k : Int) % 4 == 0) = false := by simp; omega
    have t1 : ((k : Int) % 4 == 1) = false := by simp; omega
    have t2 : ((k : Int) % 4 == 2) = true := by simp; omega
    clear h4
    obtain ⟨n, hn⟩ := tab12_at (m % 12) (by omega)
    have hc : (w2.alloc (.cells tab12 3)).cell? ⟨w2.heap.size, m % 12, none⟩ = some (.int .i64 n) := by rw [cell_of_row _ _ _ tab12 3 (0, 0) (heap_alloc_new w2 _)]; exact hn
    clear hn
    go_wp2_with (refine Great.wpList_buildSliceTo rfl 65 3 12 _ rfl w2.heap.size rfl _ rfl Try.underlying65 tab12 (by kernel_rfl) ?_)
    go_ret
    exact ⟨n, rfl, H2.out.alloc _, B02.out.alloc (Nat.le_of_lt H2.out.lt) _⟩
  · have t0 : ((k : Int) % 4 == 0) = false := by simp; omega
    have t1 : ((k : Int) % 4 == 1) = false := by simp; omega
    have t2 : ((k : Int) % 4 == 2) = false := by simp; omega
    clear h4
    obtain ⟨n, hn⟩ := tab8_at m (k / 4 % 8) (by omega)
    have hc : (w2.alloc (.cells (tab8 m) 3)).cell? ⟨w2.heap.size, k / 4 % 8, none⟩ = some (.int .i64 n) := by rw [cell_of_row _ _ _ (tab8 m) 3 (0, 0) (heap_alloc_new w2 _)]; exact hn
    clear hn
    go_wp2_with (refine Great.wpList_buildSliceTo rfl 65 3 8 _ rfl w2.heap.size rfl _ rfl Try.underlying65 (tab8 m) (by kernel_rfl) ?_)
    go_ret
    exact ⟨n, rfl, H2.out.alloc _, B02.out.alloc (Nat.le_of_lt H2.out.lt) _⟩
end Go.Proofs.Ytmnlhienhfmhdaa.W
