import Derived.Test.YtdplfflkmphpbaaGreatDoorV08
import Derived.Test.YtdplfflkmphpbaaGreatDoorV09
import Derived.Test.YtdplfflkmphpbaaGreatDoorV10
import Derived.Test.YtdplfflkmphpbaaGreatDoorV06
import Derived.Laws.MakeOwn
import Derived.Laws.OwnMore
import Derived.Shelf.Strings.SlTrimAscii
set_option linter.unusedVariables false
set_option linter.unusedSimpArgs false
namespace Go.Proofs.YtdplfflkmphpbaaGreatDoor.Pl
def pc0 : List (List UInt8) := [[120], [121, 49], [95, 97], [77, 97, 105, 110], [105, 110, 116, 120], [117], [120, 48], [97, 97, 97, 97, 97, 97, 97, 97, 97, 97, 97, 97, 97, 97, 97, 97, 97, 97, 97, 97, 97, 97, 97, 97, 97, 97, 97, 97, 97, 97, 97, 97, 97, 97, 97, 97, 97, 97, 97, 97], [97, 97, 97, 97, 97, 97, 97, 97, 97, 97, 97, 97, 97, 97, 97, 97, 97, 97, 97, 97, 97, 97, 97, 97, 97, 97, 97, 97, 97, 97, 97, 97, 97, 97, 97, 97, 97, 97, 97, 97, 97]]
def pc1 : List (List UInt8) := [[48], [55], [49, 50, 117], [48, 49, 55], [48, 56], [48, 57, 117], [48, 120, 49, 102], [48, 88, 70, 70, 70, 70, 70, 70, 70, 70, 85], [52, 50, 57, 52, 57, 54, 55, 50, 57, 53], [52, 50, 57, 52, 57, 54, 55, 50, 57, 54], [50, 49, 52, 55, 52, 56, 51, 54, 52, 55], [50, 49, 52, 55, 52, 56, 51, 54, 52, 56], [48, 120], [49, 97], [48, 120, 49, 103], [51, 55, 55, 55, 55, 55, 55, 55, 55, 55, 55], [48, 51, 55, 55, 55, 55, 55, 55, 55, 55, 55, 55], [48, 52, 48, 48, 48, 48, 48, 48, 48, 48, 48, 48], [48, 120, 117], [53, 85], [48, 48], [49, 117, 117], [49, 50, 51, 52, 53, 54, 55, 56, 57, 48, 49, 50, 51, 52, 53, 54, 55, 56, 57, 48, 49, 50, 51]]
def pc2 : List (List UInt8) := [[39, 97, 39], [39, 92, 110, 39], [39, 92, 51, 55, 55, 39], [39, 92, 120, 52, 49, 39], [39, 92, 39, 39], [39, 34, 39], [39, 39], [39, 97, 98, 39], [39, 92, 52, 48, 48, 39], [39, 92, 113, 39], [39, 97], [39, 92], [39, 92, 120, 39], [39, 92, 48, 39], [39, 92, 48, 49, 56, 39]]
def pc3 : List (List UInt8) := [[34, 34], [34, 97, 98, 34], [34, 97, 92, 116, 98, 92, 34, 34], [34, 92, 120, 52, 92, 49, 48, 49, 50, 34], [34, 120], [34, 97, 10, 98, 34], [34, 92, 34], [34, 128, 255, 34], [34, 92, 122, 34]]
def pc4 : List (List UInt8) := [[32], [10], [9], [47, 47, 32, 120, 10], [47, 42, 32, 121, 32, 42, 47], [47, 42, 32, 97, 10, 32, 42, 32, 98, 32, 42, 47], [47, 42], [47, 47], [13, 11, 12], [36], [64], [128], [35], [92], [47, 42, 42, 47]]
def strTab (rs : List (List UInt8)) : Array Value := (rs.map fun r => Value.string ⟨r.toArray⟩).toArray
theorem pc0_len : ∀ j, j < 9 → (pc0.getD j []).length ≤ 45 := by decide
theorem pc1_len : ∀ j, j < 23 → (pc1.getD j []).length ≤ 45 := by decide
theorem pc2_len : ∀ j, j < 15 → (pc2.getD j []).length ≤ 45 := by decide
theorem pc3_len : ∀ j, j < 9 → (pc3.getD j []).length ≤ 45 := by decide
theorem pc4_len : ∀ j, j < 15 → (pc4.getD j []).length ≤ 45 := by decide
theorem ky_len : ∀ j, j < 23 → (kyB.getD j []).length ≤ 45 := by decide
theorem sg_len45 : ∀ j, j < 45 → (sgB.getD j []).length ≤ 45 := by decide
theorem mk_size (r : List UInt8) : (⟨r.toArray⟩ : ByteArray).size = r.length := by simp [ByteArray.size]
theorem mk_size1 (r : List UInt8) : ((⟨r.toArray⟩ : ByteArray) ++ ⟨#[32]⟩).size = r.length + 1 := by rw [ByteArray.size_append, mk_size]; rfl
end Go.Proofs.YtdplfflkmphpbaaGreatDoor.Pl
namespace Go.Proofs.YtdplfflkmphpbaaGreatDoor.W
open Go.RowKit
theorem RdOk.x {w w' : World} {c : Nat} (h : RdOk w c) (hb : Below w.heap.size w w') : RdOk w' c := by
  have hlt := h.lt
  obtain ⟨a, len, cap, p, hrow, hl, hp, hbs⟩ := h
  refine ⟨a, len, cap, p, by rw [hb.block c hlt]; exact hrow, hl, hp, ?_⟩
  rcases hbs with hbs | ⟨b, off, ha, hbc, hby⟩
  · exact .inl hbs
  · refine .inr ⟨b, off, ha, hbc, fun i hi => ?_⟩
    obtain ⟨v, hv, hc⟩ := hby i hi
    exact ⟨v, hv, by rw [← hc]; exact World.cell?_of_block (w := w) (hb.block b (by omega))⟩
set_option maxHeartbeats 1000000 in
theorem next_x (w : World) (c : Nat) (h : RdOk w c) : Calls Tryz.prog 31 #[.pointer (some ⟨c, 0, none⟩)] w fun e w' => ∃ m : Nat, e = .returned (.int .i64 (m : Int)) ∧ m ≤ 255 ∧ RdOk w' c ∧ OnlyX c w w' := by
  obtain ⟨a, len, cap, p, hrow, hl, hp, hbytes⟩ := h
  have hc0 : w.cell? ⟨c, 0, none⟩ = some (.slice a len cap) := by rw [cell_of_row w c 0 _ 77 (0, 0) hrow]; rfl
  have hc1 : w.cell? ⟨c, 1, none⟩ = some (.int .i64 (p : Int)) := by rw [cell_of_row w c 1 _ 77 (0, 0) hrow]; rfl
  have hf1 : w.frozen? ⟨c, 1, none⟩ = false := frozen_of_row w c 1 _ 77 hrow
  by_cases hlt : p < len
  · obtain ⟨b, off, rfl, hb, hby⟩ : ∃ b off, a = some ⟨b, off, none⟩ ∧ b < c ∧ ∀ i, i < len → ∃ v : Nat, v ≤ 255 ∧ w.cell? ⟨b, off + i, none⟩ = some (.int .u8 (v : Int)) := by
      rcases hbytes with h0 | h0
      · omega
      · exact h0
    obtain ⟨v, hv, hcv⟩ := hby p hlt
    have HB : Hid (∀ i, i < len → ∃ v : Nat, v ≤ 255 ∧ w.cell? ⟨b, off + i, none⟩ = some (.int .u8 (v : Int))) := hby
    have HR : Hid (w.heap[c]? = some (.cells #[.slice (some ⟨b, off, none⟩) len cap, .int .i64 (p : Int)] 77)) := hrow
    clear hby hrow hbytes
    go_enter Tryz.func31, Tryz.ntmps31
    go_wp2_with fail
    go_quiet (fail)
    go_wp2_with fail
    go_quiet (fail)
    go_wp2
    go_ret
    refine ⟨v, rfl, hv, ?_, ?_⟩
    · exact rd_after rfl HR.out hl hlt hb HB.out
    · exact ⟨rfl, rfl, rfl, Nat.le_of_eq (World.size_setCell _ _ _).symm, fun b _ hb' => heap_setCell_other _ ⟨c, 1, none⟩ b _ hb'⟩
  · have HR : Hid (w.heap[c]? = some (.cells #[.slice a len cap, .int .i64 (p : Int)] 77)) := hrow
    have HB : Hid (len = 0 ∨ ∃ b off, a = some ⟨b, off, none⟩ ∧ b < c ∧ ∀ i, i < len → ∃ v : Nat, v ≤ 255 ∧ w.cell? ⟨b, off + i, none⟩ = some (.int .u8 (v : Int))) := hbytes
    clear hrow hbytes
    go_enter Tryz.func31, Tryz.ntmps31
    go_wp2_with fail
    go_quiet (fail)
    go_wp2
    go_ret
    exact ⟨0, rfl, by decide, ⟨a, len, cap, p, HR.out, hl, hp, HB.out⟩, ⟨rfl, rfl, rfl, Nat.le_refl _, fun b _ _ => rfl⟩⟩
theorem tab_cell (u : World) (rs : List (List UInt8)) (j : Nat) (hj : j < rs.length) : (u.alloc (.cells (Pl.strTab rs) 9)).cell? ⟨u.heap.size, j, none⟩ = some (.string ⟨(rs.getD j []).toArray⟩) := by
  rw [cell_of_row _ _ _ (Pl.strTab rs) 9 (0, 0) (heap_alloc_new u _)]
  exact Pl.tab_at rs j hj
set_option maxHeartbeats 4000000 in
theorem l5Piece_x (w : World) (c : Nat) (h : RdOk w c) : Calls Tryz.prog 33 #[.pointer (some ⟨c, 0, none⟩)] w fun e w' => ∃ s : ByteArray, e = .returned (.string s) ∧ s.size ≤ 46 ∧ RdOk w' c ∧ OnlyX c w w' := by
  have H0 : Hid (RdOk w c) := h
  clear h
  go_enter Tryz.func33, Tryz.ntmps33
  go_wp2_with fail
  refine (next_x _ c H0.out).mono ?_
  rintro e w1 ⟨k, rfl, hk, R1, B1⟩
  have H1 : Hid (RdOk w1 c) := R1
  clear R1
  go_wp2_with fail
  refine (next_x _ c H1.out).mono ?_
  rintro e w2 ⟨m, rfl, hm, R2, B2⟩
  have H2 : Hid (RdOk w2 c) := R2
  have B02 : Hid (OnlyX c w w2) := B1.trans B2
  clear R2 B1 B2 H0 H1
  have hal : ∀ o : Obj, OnlyX c w (w2.alloc o) := fun o => B02.out.trans (OnlyX.of_below ((Below.refl _ _).alloc (Nat.le_refl _) _))
  have HAL : Hid (∀ o : Obj, OnlyX c w (w2.alloc o)) := hal
  clear hal
  have hj : (k % 10 = 0) ∨ (k % 10 = 1) ∨ (2 ≤ k % 10 ∧ k % 10 < 4) ∨ (4 ≤ k % 10 ∧ k % 10 < 7) ∨ (k % 10 = 7) ∨ (k % 10 = 8) ∨ (k % 10 = 9) := by omega
  rcases hj with hj | hj | hj | hj | hj | hj | hj
  · have t0 : ((k : Int) % 10 == 0) = true := by simp; omega
    clear hj
    obtain ⟨x, hx⟩ : ∃ x, x = Pl.kyB.getD (m % 23) [] := ⟨_, rfl⟩
    have hlen := Pl.ky_len (m % 23) (by omega)
    have hc : (w2.alloc (.cells Pl.kyTab 9)).cell? ⟨w2.heap.size, m % 23, none⟩ = some (.string ⟨x.toArray⟩) := by rw [hx, cell_of_row _ _ _ Pl.kyTab 9 (0, 0) (heap_alloc_new w2 _)]; exact Pl.tab_at Pl.kyB _ (by show m % 23 < 23; omega)
    rw [← hx] at hlen
    clear hx
    go_wp2_with (go_at_call 44; refine (l5Keys_is _).mono ?_; rintro e u1 ⟨rfl, rfl⟩)
    go_ret
    exact ⟨_, rfl, by rw [Pl.mk_size1]; omega, H2.out.alloc _, HAL.out _⟩
  · have t0 : ((k : Int) % 10 == 0) = false := by simp; omega
    have t1 : ((k : Int) % 10 == 1) = true := by simp; omega
    clear hj
    obtain ⟨x, hx⟩ : ∃ x, x = Pl.pc0.getD (m % 9) [] := ⟨_, rfl⟩
    have hlen := Pl.pc0_len (m % 9) (by omega)
    have hc : (w2.alloc (.cells (Pl.strTab Pl.pc0) 9)).cell? ⟨w2.heap.size, m % 9, none⟩ = some (.string ⟨x.toArray⟩) := by rw [hx]; exact tab_cell w2 Pl.pc0 _ (by show m % 9 < 9; omega)
    rw [← hx] at hlen
    clear hx
    go_wp2_with (refine Great.wpList_buildSliceTo rfl 59 9 9 _ rfl w2.heap.size rfl _ rfl Tryz.underlying59 (Pl.strTab Pl.pc0) (by kernel_rfl) ?_)
    go_ret
    exact ⟨_, rfl, by rw [Pl.mk_size1]; omega, H2.out.alloc _, HAL.out _⟩
  · have t0 : ((k : Int) % 10 == 0) = false := by simp; omega
    have t1 : ((k : Int) % 10 == 1) = false := by simp; omega
    have t2 : decide ((k : Int) % 10 < 4) = true := by simp; omega
    clear hj
    obtain ⟨x, hx⟩ : ∃ x, x = Pl.pc1.getD (m % 23) [] := ⟨_, rfl⟩
    have hlen := Pl.pc1_len (m % 23) (by omega)
    have hc : (w2.alloc (.cells (Pl.strTab Pl.pc1) 9)).cell? ⟨w2.heap.size, m % 23, none⟩ = some (.string ⟨x.toArray⟩) := by rw [hx]; exact tab_cell w2 Pl.pc1 _ (by show m % 23 < 23; omega)
    rw [← hx] at hlen
    clear hx
    go_wp2_with (refine Great.wpList_buildSliceTo rfl 59 9 23 _ rfl w2.heap.size rfl _ rfl Tryz.underlying59 (Pl.strTab Pl.pc1) (by kernel_rfl) ?_)
    go_ret
    exact ⟨_, rfl, by rw [Pl.mk_size1]; omega, H2.out.alloc _, HAL.out _⟩
  · have t0 : ((k : Int) % 10 == 0) = false := by simp; omega
    have t1 : ((k : Int) % 10 == 1) = false := by simp; omega
    have t2 : decide ((k : Int) % 10 < 4) = false := by simp; omega
    have t3 : decide ((k : Int) % 10 < 7) = true := by simp; omega
    clear hj
    obtain ⟨x, hx⟩ : ∃ x, x = Pl.sgB.getD (m % 45) [] := ⟨_, rfl⟩
    have hlen := Pl.sg_len45 (m % 45) (by omega)
    have hc : (w2.alloc (.cells Pl.sgTab 9)).cell? ⟨w2.heap.size, m % 45, none⟩ = some (.string ⟨x.toArray⟩) := by rw [hx, cell_of_row _ _ _ Pl.sgTab 9 (0, 0) (heap_alloc_new w2 _)]; exact Pl.tab_at Pl.sgB _ (by show m % 45 < 45; omega)
    rw [← hx] at hlen
    clear hx
    go_wp2_with (go_at_call 47; refine (l5Signs_is _).mono ?_; rintro e u1 ⟨rfl, rfl⟩)
    go_ret
    exact ⟨_, rfl, by rw [Pl.mk_size]; omega, H2.out.alloc _, HAL.out _⟩
  · have t0 : ((k : Int) % 10 == 0) = false := by simp; omega
    have t1 : ((k : Int) % 10 == 1) = false := by simp; omega
    have t2 : decide ((k : Int) % 10 < 4) = false := by simp; omega
    have t3 : decide ((k : Int) % 10 < 7) = false := by simp; omega
    have t4 : ((k : Int) % 10 == 7) = true := by simp; omega
    clear hj
    obtain ⟨x, hx⟩ : ∃ x, x = Pl.pc2.getD (m % 15) [] := ⟨_, rfl⟩
    have hlen := Pl.pc2_len (m % 15) (by omega)
    have hc : (w2.alloc (.cells (Pl.strTab Pl.pc2) 9)).cell? ⟨w2.heap.size, m % 15, none⟩ = some (.string ⟨x.toArray⟩) := by rw [hx]; exact tab_cell w2 Pl.pc2 _ (by show m % 15 < 15; omega)
    rw [← hx] at hlen
    clear hx
    go_wp2_with (refine Great.wpList_buildSliceTo rfl 59 9 15 _ rfl w2.heap.size rfl _ rfl Tryz.underlying59 (Pl.strTab Pl.pc2) (by kernel_rfl) ?_)
    go_ret
    exact ⟨_, rfl, by rw [Pl.mk_size]; omega, H2.out.alloc _, HAL.out _⟩
  · have t0 : ((k : Int) % 10 == 0) = false := by simp; omega
    have t1 : ((k : Int) % 10 == 1) = false := by simp; omega
    have t2 : decide ((k : Int) % 10 < 4) = false := by simp; omega
    have t3 : decide ((k : Int) % 10 < 7) = false := by simp; omega
    have t4 : ((k : Int) % 10 == 7) = false := by simp; omega
    have t5 : ((k : Int) % 10 == 8) = true := by simp; omega
    clear hj
    obtain ⟨x, hx⟩ : ∃ x, x = Pl.pc3.getD (m % 9) [] := ⟨_, rfl⟩
    have hlen := Pl.pc3_len (m % 9) (by omega)
    have hc : (w2.alloc (.cells (Pl.strTab Pl.pc3) 9)).cell? ⟨w2.heap.size, m % 9, none⟩ = some (.string ⟨x.toArray⟩) := by rw [hx]; exact tab_cell w2 Pl.pc3 _ (by show m % 9 < 9; omega)
    rw [← hx] at hlen
    clear hx
    go_wp2_with (refine Great.wpList_buildSliceTo rfl 59 9 9 _ rfl w2.heap.size rfl _ rfl Tryz.underlying59 (Pl.strTab Pl.pc3) (by kernel_rfl) ?_)
    go_ret
    exact ⟨_, rfl, by rw [Pl.mk_size]; omega, H2.out.alloc _, HAL.out _⟩
  · have t0 : ((k : Int) % 10 == 0) = false := by simp; omega
    have t1 : ((k : Int) % 10 == 1) = false := by simp; omega
    have t2 : decide ((k : Int) % 10 < 4) = false := by simp; omega
    have t3 : decide ((k : Int) % 10 < 7) = false := by simp; omega
    have t4 : ((k : Int) % 10 == 7) = false := by simp; omega
    have t5 : ((k : Int) % 10 == 8) = false := by simp; omega
    clear hj
    obtain ⟨x, hx⟩ : ∃ x, x = Pl.pc4.getD (m % 15) [] := ⟨_, rfl⟩
    have hlen := Pl.pc4_len (m % 15) (by omega)
    have hc : (w2.alloc (.cells (Pl.strTab Pl.pc4) 9)).cell? ⟨w2.heap.size, m % 15, none⟩ = some (.string ⟨x.toArray⟩) := by rw [hx]; exact tab_cell w2 Pl.pc4 _ (by show m % 15 < 15; omega)
    rw [← hx] at hlen
    clear hx
    go_wp2_with (refine Great.wpList_buildSliceTo rfl 59 9 15 _ rfl w2.heap.size rfl _ rfl Tryz.underlying59 (Pl.strTab Pl.pc4) (by kernel_rfl) ?_)
    go_ret
    exact ⟨_, rfl, by rw [Pl.mk_size]; omega, H2.out.alloc _, HAL.out _⟩
end Go.Proofs.YtdplfflkmphpbaaGreatDoor.W
namespace Go.Proofs.YtdplfflkmphpbaaGreatDoor.W
open Go.RowKit
theorem one_cell_m (m : Nat) (hm : m < 256) (w : World) (j : Nat) (u : Value) (hj : (Pl.cl [UInt8.ofNat m])[j]? = some u) : (w.alloc (.cells #[.int .u8 (m : Int)] 5)).cell? ((⟨w.heap.size, 0, none⟩ : Addr).add j) = some u := by
  rcases j with _ | j
  · have e : ((UInt8.ofNat m).toNat : Int) = (m : Int) := by simp; omega
    simp only [Pl.cl, List.map_cons, List.map_nil, List.getElem?_cons_zero, Option.some.injEq, e] at hj
    subst hj
    exact cell_of_row _ w.heap.size 0 _ 5 (0, 0) (heap_alloc_new w _)
  · simp [Pl.cl] at hj
set_option maxHeartbeats 2000000 in
theorem quote_any (s : ByteArray) (hs : s.size ≤ 1048576) (m : Nat) (hm : m = 34 ∨ m = 39) (b cap : Nat) (w : World) (hd : DbLies w) (hb : b < w.heap.size) (hcs : ∀ j (h : j < s.size), w.cell? ⟨b, j, none⟩ = some (.int .u8 ((s[j]'h).toNat : Int))) :
    Calls Tryz.prog 38 #[.slice (some ⟨b, 0, none⟩) s.size cap, .int .u8 m] w fun e w' => e = .returned (.string (Pl.qt s m)) ∧ Below w.heap.size w w' := by
  obtain ⟨i0, hi, hz0, hz1, hz2⟩ := info_parts qinfou8
  have hm' : m < 256 := by omega
  have em : ((UInt8.ofNat m).toNat : Int) = (m : Int) := by simp; omega
  have H0 : Hid ((w.alloc (.cells #[.int .u8 (m : Int)] 5)).ownsRow w.heap.size 5 1 (.slice (some ⟨w.heap.size, 0, none⟩) 1 1) 1 (Pl.cl (Pl.qc s m 0))) := by
    show (w.alloc _).ownsRow _ _ _ _ _ _
    rw [Pl.qc_zero]
    have := World.ownsRow_lit w #[.int .u8 (m : Int)] 1 (base := w.heap.size) (e := 5) (size := 1) (Nat.le_refl _) (by decide) rfl
    rw [show Pl.cl [UInt8.ofNat m] = [.int .u8 (m : Int)] by rw [← em]; rfl]
    exact this
  have HC : Hid (∀ j (h : j < s.size), w.cell? ⟨b, j, none⟩ = some (.int .u8 ((s[j]'h).toNat : Int))) := hcs
  have HD : Hid (DbLies w) := hd
  clear hcs hd em
  go_enter Tryz.func38, Tryz.ntmps38
  go_wp2_with fail
  go_loopw [5, 12] (fun v i wr => ∃ k : Nat, k ≤ s.size ∧ i = .int .i64 k ∧ wr.ownsRow w.heap.size 5 1 v (Pl.qc s m k).length (Pl.cl (Pl.qc s m k)) ∧ Below w.heap.size w wr) (fun _ i _ => s.size - (intOf i).toNat)
  case atStart => exact ⟨0, Nat.zero_le _, rfl, by rw [show (Pl.qc s m 0).length = 1 from rfl]; exact H0.out, (Below.refl _ _).alloc (Nat.le_refl _) _⟩
  case round =>
    obtain ⟨k, hk, rfl, hown, hbel⟩ := hrel
    have HO : Hid (wr.ownsRow w.heap.size 5 1 _ (Pl.qc s m k).length (Pl.cl (Pl.qc s m k))) := hown
    have HB : Hid (Below w.heap.size w wr) := hbel
    clear hown hbel H0
    by_cases hlt : k < s.size
    · have hi' : (k : Int) < (s.size : Int) := by omega
      have hc256 : (s[k]'hlt).toNat < 256 := (s[k]'hlt).toNat_lt
      have hcell : wr.cell? ⟨b, k, none⟩ = some (.int .u8 ((s[k]'hlt).toNat : Int)) := (HB.out.cell (p := ⟨b, k, none⟩) hb).trans (HC.out k hlt)
      have HDr : Hid (DbLies wr) := HD.out.below HB.out
      go_wp2_with (first | (go_at_call 53; refine (byteText_any (s[k]'hlt).toNat m hc256 hm _ HDr.out).mono ?_; rintro e u1 ⟨rfl, hb1⟩) | (at_builtin; refine Lib.wpList_append_own_string _ rfl (.tmp 16) (.tmp 19) 22 9 rfl w.heap.size 5 i0 Tryz.underlying22 Tryz.underlying9 hi hz0 hz1 hz2 _ _ _ rfl (ow_keep HO.out hb1) _ rfl (by have := Pl.qc_len s m k hk; have := Pl.shown_len (s[k]'hlt).toNat m; show _ + (Pl.shown (s[k]'hlt).toNat m).length ≤ _; unfold maxLen; omega) (by have := Pl.qc_len s m k hk; have := Pl.shown_len (s[k]'hlt).toNat m; show _ + (Pl.shown (s[k]'hlt).toNat m).length ≤ _; omega) (Nat.le_trans HB.out.size hb1.size) ?_; intro v' u2 hown' hgr _; rw [Pl.cl_str, ← Pl.cl_app] at hown'))
      refine ⟨⟨k + 1, by omega, by go_num, ?_, ?_⟩, by simp [intOf]; omega⟩
      · rw [Pl.qc_succ s m k hlt, List.length_append]; exact hown'
      · exact (HB.out.trans (hb1.mono HB.out.size)).grown hgr (Nat.le_trans HB.out.size hb1.size) (fun j hj => (HO.out.lt j hj).1)
    · have hi' : ¬ (k : Int) < (s.size : Int) := by omega
      obtain rfl : s.size = k := by omega
      have HE : Hid ((wr.alloc (.cells #[.int .u8 (m : Int)] 5)).ownsRow w.heap.size 5 1 _ (Pl.qc s m s.size).length (Pl.cl (Pl.qc s m s.size))) := HO.out.alloc _
      go_wp2_with (first | (at_builtin; refine wpList_append_own _ rfl (.tmp 22) (.tmp 24) 22 rfl w.heap.size 5 i0 (.int .u8 0) 1 1 Tryz.underlying22 hi hz0 hz1 hz2 rfl (by decide) _ _ _ rfl HE.out ⟨wr.heap.size, 0, none⟩ 1 _ (Pl.cl [UInt8.ofNat m]) rfl rfl (one_cell_m m hm' wr) (by intro u hu; obtain ⟨n, _, rfl⟩ := List.mem_map.1 hu; rfl) (by have := Pl.qc_len s m s.size (Nat.le_refl _); unfold maxLen; omega) (by have := Pl.qc_len s m s.size (Nat.le_refl _); omega) (Nat.le_trans HB.out.size (by simp)) ?_; intro v' u2 hown' hgr _; rw [← Pl.cl_app] at hown'; have hst := own_string hown' (Nat.succ_pos _)))
      go_ret
      refine ⟨rfl, ?_⟩
      exact (HB.out.trans (((Below.refl _ _).alloc (Nat.le_refl _) _).mono HB.out.size)).grown hgr (Nat.le_trans HB.out.size (by simp)) (fun j hj => (HO.out.lt j hj).1)
theorem quote_34 (s : ByteArray) (hs : s.size ≤ 1048576) (b cap : Nat) (w : World) (hd : DbLies w) (hb : b < w.heap.size) (hcs : ∀ j (h : j < s.size), w.cell? ⟨b, j, none⟩ = some (.int .u8 ((s[j]'h).toNat : Int))) :
    Calls Tryz.prog 38 #[.slice (some ⟨b, 0, none⟩) s.size cap, .int .u8 34] w fun e w' => e = .returned (.string (Pl.qt s 34)) ∧ Below w.heap.size w w' := quote_any s hs 34 (.inl rfl) b cap w hd hb hcs
theorem bw_byte (w : World) (s : ByteArray) (j : Nat) (h : j < s.size) : (Lib.bytesWorld w 5 s).cell? ⟨w.heap.size, j, none⟩ = some (.int .u8 ((s[j]'h).toNat : Int)) := by
  rw [Lib.bytesWorld_cell w 5 s j h]
  obtain ⟨⟨l⟩⟩ := s
  have hl : j < l.length := h
  simp [List.getD, List.getElem?_eq_getElem hl]
  rfl
theorem implQuote_any (s : ByteArray) (hs : s.size ≤ 1048576) (w : World) (hd : DbLies w) : Calls Tryz.prog 22 #[.string s] w fun e w' => e = .returned (.string (Pl.qt s 34)) ∧ Below w.heap.size w w' := by
  have hcv : ∀ (u : World) (t : ByteArray), (convert 9 22 (.string t)).run Tryz.prog u = .ok (.slice (some ⟨u.heap.size, 0, none⟩) t.size (grownCap u t.size 0 5)) (Lib.bytesWorld u 5 t) := fun u t => Lib.run_convert_string_bytes u 9 22 5 t Tryz.underlying9 Tryz.underlying22 Tryz.underlying5
  have HD : Hid (DbLies w) := hd
  clear hd
  have HW : Hid (Below w.heap.size w (Lib.bytesWorld w 5 s)) := Joins.below_bytesWorld _ _ 5 _ (Nat.le_refl _)
  go_enter Tryz.func22, Tryz.ntmps22
  go_wp2_with (go_at_call 38; refine (quote_34 s hs w.heap.size _ _ (HD.out.below HW.out) (by rw [Lib.bytesWorld_size]; omega) (bw_byte w s)).mono ?_; rintro e u1 ⟨rfl, hb1⟩)
  go_ret
  exact ⟨rfl, HW.out.trans (hb1.mono HW.out.size)⟩
end Go.Proofs.YtdplfflkmphpbaaGreatDoor.W
namespace Go.Proofs.YtdplfflkmphpbaaGreatDoor.W
open Go.RowKit
theorem RdOk.keepX {B c : Nat} {u u' : World} (h : RdOk u c) (hb : Below B u u') (hB : c < B) : RdOk u' c := by
  obtain ⟨a, len, cap, p, hrow, h1, h2, h3⟩ := h
  refine ⟨a, len, cap, p, (hb.block c hB).trans hrow, h1, h2, ?_⟩
  rcases h3 with h3 | ⟨b, off, ha, hbc, hc⟩
  · exact .inl h3
  · refine .inr ⟨b, off, ha, hbc, fun i hi => ?_⟩
    obtain ⟨v, hv, hcell⟩ := hc i hi
    exact ⟨v, hv, (hb.cell (p := ⟨b, off + i, none⟩) (show b < B by omega)).trans hcell⟩
theorem own_onlyX {c base : Nat} {e : TypeId} {k : Nat} {v : Value} {n : Nat} {xs : List Value} {w w' : World} (h : w.ownsRow base e k v n xs) (hb : OnlyX c w w') (hc : c < base) : w'.ownsRow base e k v n xs := by
  refine ⟨h.1, ?_⟩
  rcases h.2 with ⟨a, b⟩ | ⟨g, cap, cur, h0, hlo, hg, r⟩
  · exact .inl ⟨a, b⟩
  · exact .inr ⟨g, cap, cur, h0, hlo, (hb.block g (Array.getElem?_eq_some_iff.1 hg).1 (by omega)).trans hg, r⟩
theorem byte_newsX (w : World) (A : Value) (j : Nat) (u : Value) (hj : [A][j]? = some u) : (w.alloc (.cells #[A] 5)).cell? ((⟨w.heap.size, 0, none⟩ : Addr).add j) = some u := by
  rcases j with _ | j
  · cases hj
    exact cell_of_row _ w.heap.size 0 _ 5 (0, 0) (heap_alloc_new w _)
  · simp at hj
end Go.Proofs.YtdplfflkmphpbaaGreatDoor.W
namespace Go.Proofs.YtdplfflkmphpbaaGreatDoor.Pl
theorem at_byt (D : ByteArray) (j : Nat) (x : UInt8) : D.data.toList[j]? = some x ↔ (j < D.size ∧ byt D j = ((x.toNat : Nat) : Int)) := by
  obtain ⟨⟨l⟩⟩ := D
  show l[j]? = some x ↔ (j < l.length ∧ (((l.getD j 0).toNat : Nat) : Int) = ((x.toNat : Nat) : Int))
  rcases Nat.lt_or_ge j l.length with q | q
  · rw [List.getElem?_eq_getElem q, List.getD_eq_getElem?_getD, List.getElem?_eq_getElem q]
    simp only [Option.some.injEq, Option.getD_some]
    exact ⟨fun h => ⟨q, by rw [h]⟩, fun h => UInt8.toNat_inj.1 (by have := h.2; omega)⟩
  · rw [List.getElem?_eq_none q]
    exact ⟨fun h => (by cases h), fun h => by omega⟩
theorem occ1 (l : List UInt8) (a : UInt8) (j : Nat) : Lib.occAt l [a] j = true ↔ l[j]? = some a := by
  unfold Lib.occAt
  rw [← List.head?_drop]
  cases l.drop j with
  | nil => simp [List.isPrefixOf]
  | cons x t => simp [List.isPrefixOf]; exact eq_comm
theorem occ2 (l : List UInt8) (a b : UInt8) (j : Nat) : Lib.occAt l [a, b] j = true ↔ (l[j]? = some a ∧ l[j + 1]? = some b) := by
  unfold Lib.occAt
  have h1 : l[j]? = (l.drop j)[0]? := by simp
  have h2 : l[j + 1]? = (l.drop j)[1]? := by simp
  rw [h1, h2]
  rcases l.drop j with _ | ⟨x, _ | ⟨y, t⟩⟩
  · simp [List.isPrefixOf]
  · simp [List.isPrefixOf]
  · simp [List.isPrefixOf]; exact ⟨fun h => ⟨h.1.symm, h.2.symm⟩, fun h => ⟨h.1.symm, h.2.symm⟩⟩
theorem cut1 (t : ByteArray) : ∃ k, LEnd t 0 k ∧ (Lib.cut t.data.toList [10]).1.length = k := by
  have hsz : t.data.toList.length = t.size := by simp
  rcases Lib.index_spec t.data.toList [10] with ⟨h1, h2⟩ | ⟨i, h1, h2, h3, h4⟩
  · refine ⟨t.size, ⟨Nat.zero_le _, Nat.le_refl _, fun m _ hm e => ?_, .inl rfl⟩, ?_⟩
    · have := h2 m (by omega)
      have q : Lib.occAt t.data.toList [10] m = true := (occ1 _ _ _).2 ((at_byt t m 10).2 ⟨hm, e⟩)
      rw [this] at q
      cases q
    · unfold Lib.cut
      rw [h1, if_neg (by decide)]
      exact hsz
  · have hi := (at_byt t i 10).1 ((occ1 _ _ _).1 h3)
    refine ⟨i, ⟨Nat.zero_le _, by omega, fun m _ hm e => ?_, .inr hi.2⟩, ?_⟩
    · have := h4 m hm
      have q : Lib.occAt t.data.toList [10] m = true := (occ1 _ _ _).2 ((at_byt t m 10).2 ⟨by omega, e⟩)
      rw [this] at q
      cases q
    · unfold Lib.cut
      rw [h1, if_pos (by omega)]
      simp
      omega
theorem cut2 (t : ByteArray) : (∃ k, BEnd t 0 k ∧ (Lib.cut t.data.toList [42, 47]).2.2 = true ∧ (Lib.cut t.data.toList [42, 47]).1.length = k) ∨ (NEnd t 0 ∧ (Lib.cut t.data.toList [42, 47]).2.2 = false) := by
  have hsz : t.data.toList.length = t.size := by simp
  have key : ∀ m, m + 1 < t.size → (byt t m = 42 ∧ byt t (m + 1) = 47) → Lib.occAt t.data.toList [42, 47] m = true := fun m hm e =>
    (occ2 _ _ _ _).2 ⟨(at_byt t m 42).2 ⟨by omega, e.1⟩, (at_byt t (m + 1) 47).2 ⟨hm, e.2⟩⟩
  rcases Lib.index_spec t.data.toList [42, 47] with ⟨h1, h2⟩ | ⟨i, h1, h2, h3, h4⟩
  · right
    refine ⟨fun m _ hm e => ?_, ?_⟩
    · have q := key m hm e
      rw [h2 m (by omega)] at q
      cases q
    · unfold Lib.cut
      rw [h1, if_neg (by decide)]
  · left
    obtain ⟨q1, q2⟩ := (occ2 _ _ _ _).1 h3
    have a1 := (at_byt t i 42).1 q1
    have a2 := (at_byt t (i + 1) 47).1 q2
    refine ⟨i, ⟨Nat.zero_le _, a2.1, ⟨a1.2, a2.2⟩, fun m _ hm e => ?_⟩, ?_, ?_⟩
    · have q := key m (by omega) e
      rw [h4 m hm] at q
      cases q
    · unfold Lib.cut
      rw [h1, if_pos (by omega)]
    · unfold Lib.cut
      rw [h1, if_pos (by omega)]
      simp
      omega
theorem blk_con (x : UInt8) : List.contains [32, 9, 10, 11, 12, 13] x = blk ((x.toNat : Nat) : Int) := by
  have : ∀ n : Nat, n < 256 → List.contains [32, 9, 10, 11, 12, 13] (UInt8.ofNat n) = blk (n : Int) := by decide +kernel
  have h := this x.toNat x.toNat_lt
  rwa [UInt8.ofNat_toNat] at h
theorem tw_run (p : UInt8 → Bool) : ∀ l : List UInt8, (l.takeWhile p).length + (l.dropWhile p).length = l.length ∧ (∀ j, j < (l.takeWhile p).length → p (l.getD j 0) = true) ∧ ((l.takeWhile p).length = l.length ∨ p (l.getD (l.takeWhile p).length 0) = false)
  | [] => ⟨rfl, fun j hj => absurd hj (Nat.not_lt_zero _), .inl rfl⟩
  | x :: l => by
    obtain ⟨h1, h2, h3⟩ := tw_run p l
    cases hp : p x
    · rw [List.takeWhile_cons_of_neg (by simp [hp]), List.dropWhile_cons_of_neg (by simp [hp])]
      exact ⟨by simp, fun j hj => absurd hj (Nat.not_lt_zero _), .inr (by simpa using hp)⟩
    · rw [List.takeWhile_cons_of_pos hp, List.dropWhile_cons_of_pos hp]
      refine ⟨by simp; omega, fun j hj => ?_, ?_⟩
      · rcases j with _ | j
        · simpa using hp
        · simp at hj ⊢
          have := h2 j hj
          simpa using this
      · rcases h3 with e | e
        · left; simp; exact e
        · right; simpa using e
theorem trimL (t : ByteArray) : (⟨(Lib.trimLeftS t.data.toList [32, 9, 10, 11, 12, 13]).toArray⟩ : ByteArray).size = t.size - run blk t := by
  obtain ⟨h1, h2, h3⟩ := tw_run (fun x => List.contains [32, 9, 10, 11, 12, 13] x) t.data.toList
  have hsz : t.data.toList.length = t.size := by simp
  have hr : run blk t = (t.data.toList.takeWhile (fun x => List.contains [32, 9, 10, 11, 12, 13] x)).length := run_eq ⟨by omega, fun j hj => by
    have := h2 j hj
    rw [blk_con] at this
    exact this, by
    rcases h3 with e | e
    · left; omega
    · right; rw [blk_con] at e; exact e⟩
  show (Lib.trimLeftS t.data.toList [32, 9, 10, 11, 12, 13]).toArray.size = _
  rw [List.size_toArray]
  unfold Lib.trimLeftS
  omega
theorem pre2L (D : ByteArray) (a b : UInt8) : Lib.hasPrefix D.data.toList (⟨#[a, b]⟩ : ByteArray).data.toList = true ↔ (0 + 1 < D.size ∧ byt D 0 = ((a.toNat : Nat) : Int) ∧ byt D (0 + 1) = ((b.toNat : Nat) : Int)) := by
  have : Lib.hasPrefix D.data.toList (⟨#[a, b]⟩ : ByteArray).data.toList = Lib.occAt D.data.toList [a, b] 0 := by unfold Lib.occAt; rfl
  rw [this, occ2, at_byt, at_byt]
  constructor
  · rintro ⟨⟨_, h1⟩, h2, h3⟩; exact ⟨h2, h1, h3⟩
  · rintro ⟨h1, h2, h3⟩; exact ⟨⟨by omega, h2⟩, h1, h3⟩
end Go.Proofs.YtdplfflkmphpbaaGreatDoor.Pl
namespace Go.Proofs.YtdplfflkmphpbaaGreatDoor.W
open Go.RowKit
def BlkI (t : ByteArray) (n : Nat) (b : Bool) : Prop := (Pl.lc t 0 ∧ Pl.LEnd t 0 n ∧ b = true) ∨ (Pl.bc t 0 ∧ (∃ k, Pl.BEnd t 2 k ∧ n = k + 2) ∧ b = true) ∨ (Pl.bc t 0 ∧ Pl.NEnd t 2 ∧ n = 0 ∧ b = false) ∨ (¬ Pl.lc t 0 ∧ ¬ Pl.bc t 0 ∧ n = Pl.run Pl.blk t ∧ b = true)
theorem below_drewV {B : Nat} {a w : World} (h : Below B a w) (m : Nat) : Below B a (w.drewN m) := ⟨h.os, h.tape, h.output, h.size, h.block⟩
set_option maxRecDepth 100000 in
set_option maxHeartbeats 4000000 in
theorem blankSize_is (t : ByteArray) (ht : t.size ≤ 1048576) (w : World) (hE : Glo w) : Calls Tryz.prog 67 #[.string t] w fun e w' => (∃ n b, BlkI t n b ∧ e = .returned (.tuple #[.int .i64 n, .bool b])) ∧ Below w.heap.size w w' := by
  have hp1 := Pl.pre2L t 47 47
  have hp2 := Pl.pre2L t 47 42
  have HP1 : Hid (∀ u : World, Calls Tryz.prog 78 #[.string t, .string ⟨#[47, 47]⟩] u fun e w' => e = .returned (.bool (Lib.hasPrefix t.data.toList (⟨#[47, 47]⟩ : ByteArray).data.toList)) ∧ w' = u) := fun u => Tryz.strings_HasPrefix t ⟨#[47, 47]⟩ u
  have HP2 : Hid (∀ u : World, Calls Tryz.prog 78 #[.string t, .string ⟨#[47, 42]⟩] u fun e w' => e = .returned (.bool (Lib.hasPrefix t.data.toList (⟨#[47, 42]⟩ : ByteArray).data.toList)) ∧ w' = u) := fun u => Tryz.strings_HasPrefix t ⟨#[47, 42]⟩ u
  obtain ⟨_, _, m, hm⟩ := hE
  obtain ⟨P1, hP1⟩ : ∃ P1, P1 = Lib.hasPrefix t.data.toList (⟨#[47, 47]⟩ : ByteArray).data.toList := ⟨_, rfl⟩
  obtain ⟨P2, hP2⟩ : ∃ P2, P2 = Lib.hasPrefix t.data.toList (⟨#[47, 42]⟩ : ByteArray).data.toList := ⟨_, rfl⟩
  rw [← hP1] at hp1 HP1
  rw [← hP2] at hp2 HP2
  clear hP1 hP2
  have HM : Hid (w.cell? ⟨0, 0, none⟩ = some (.int .i64 m)) := hm
  clear hm
  cases P1
  · have hnl : ¬ Pl.lc t 0 := fun h => absurd (hp1.2 h) (by decide)
    cases P2
    · have hnb : ¬ Pl.bc t 0 := fun h => absurd (hp2.2 h) (by decide)
      have HB : Hid (BlkI t (Pl.run Pl.blk t) true) := .inr (.inr (.inr ⟨hnl, hnb, rfl, rfl⟩))
      have hr := Pl.run_le Pl.blk t
      have HTL : Hid (∀ u : World, Calls Tryz.prog 80 #[.string t, .string ⟨#[32, 9, 10, 11, 12, 13]⟩] u fun e w' => e = .returned (.string ⟨(Lib.trimLeftS t.data.toList [32, 9, 10, 11, 12, 13]).toArray⟩) ∧ Below u.heap.size u w') := fun u => Any.strings_TrimLeft_laid Tryz.lays161 (by kernel_rfl) t ⟨#[32, 9, 10, 11, 12, 13]⟩ u (by decide) (ascii_of_all (by decide))
      have hsz := Pl.trimL t
      obtain ⟨D, hD⟩ : ∃ D : ByteArray, D = ⟨(Lib.trimLeftS t.data.toList [32, 9, 10, 11, 12, 13]).toArray⟩ := ⟨_, rfl⟩
      rw [← hD] at HTL hsz
      obtain ⟨n, hn⟩ : ∃ n, n = Pl.run Pl.blk t := ⟨_, rfl⟩
      rw [← hn] at HB hr hsz
      have HSZ : Hid (D.size = t.size - n) := hsz
      have hDt : (D.size : Int) ≤ t.size := by omega
      clear hD hn hp1 hp2 hnl hnb hsz
      go_enter Tryz.func67, Tryz.ntmps67
      go_wp2_with (first | (go_at_call 78; first | (refine (HP1.out _).mono ?_; rintro e uu ⟨rfl, rfl⟩) | (refine (HP2.out _).mono ?_; rintro e uu ⟨rfl, rfl⟩)) | (go_at_call 80; refine (HTL.out _).mono ?_; rintro e u2 ⟨rfl, g2⟩; have G2 : Hid _ := g2; clear g2))
      go_ret2
      exact ⟨⟨n, true, HB.out, by have := HSZ.out; show Ending.returned (.tuple #[.int .i64 ((t.size : Int) - (D.size : Int)), .bool true]) = _; rw [show (t.size : Int) - (D.size : Int) = (n : Int) by omega]⟩, G2.out⟩
    · have hb : Pl.bc t 0 := hp2.1 rfl
      have h2 : 2 ≤ t.size := by have := hb.1; omega
      have h2' : (2 : Int) ≤ t.size := by omega
      have hc2 := Pl.cut2 (t.extract 2 t.size)
      have HCT : Hid (∀ u : World, u.cell? ⟨0, 0, none⟩ = some (.int .i64 m) → Calls Tryz.prog 79 #[.string (t.extract 2 t.size), .string ⟨#[42, 47]⟩] u _) := fun u hu => Tryz.strings_Cut (t.extract 2 t.size) ⟨#[42, 47]⟩ m u (by rw [Pl.ext_sz]; omega) hu
      have HBE : Hid (∀ k, Pl.BEnd (t.extract 2 t.size) 0 k → Pl.BEnd t 2 (k + 2)) := fun k h => by
        obtain ⟨h1, h3, h4, h5⟩ := h
        rw [Pl.ext_sz] at h3
        rw [Pl.ext_byt t 2 k (by omega), Pl.ext_byt t 2 (k + 1) (by omega), show 2 + (k + 1) = 2 + k + 1 by omega, show 2 + k = k + 2 by omega] at h4
        refine ⟨by omega, by omega, h4, fun x hx1 hx2 e => ?_⟩
        have := h5 (x - 2) (Nat.zero_le _) (by omega)
        rw [Pl.ext_byt t 2 (x - 2) (by omega), Pl.ext_byt t 2 (x - 2 + 1) (by omega), show 2 + (x - 2 + 1) = x + 1 by omega, show 2 + (x - 2) = x by omega] at this
        exact this e
      have HNE : Hid (Pl.NEnd (t.extract 2 t.size) 0 → Pl.NEnd t 2) := fun h x hx1 hx2 e => by
        have := h (x - 2) (Nat.zero_le _) (by rw [Pl.ext_sz]; omega)
        rw [Pl.ext_byt t 2 (x - 2) (by omega), Pl.ext_byt t 2 (x - 2 + 1) (by omega), show 2 + (x - 2 + 1) = x + 1 by omega, show 2 + (x - 2) = x by omega] at this
        exact this e
      obtain ⟨c1, hc1⟩ : ∃ c1 : ByteArray, c1 = ⟨(Lib.cut (t.extract 2 t.size).data.toList (⟨#[42, 47]⟩ : ByteArray).data.toList).1.toArray⟩ := ⟨_, rfl⟩
      have hc1s : c1.size = (Lib.cut (t.extract 2 t.size).data.toList [42, 47]).1.length := by rw [hc1]; exact List.size_toArray
      obtain ⟨c2, hc2'⟩ : ∃ c2, c2 = (Lib.cut (t.extract 2 t.size).data.toList (⟨#[42, 47]⟩ : ByteArray).data.toList).2.2 := ⟨_, rfl⟩
      rw [← hc1, ← hc2'] at HCT
      have hc22 : (Lib.cut (t.extract 2 t.size).data.toList [42, 47]).2.2 = c2 := hc2'.symm
      rw [hc22, ← hc1s] at hc2
      clear hc1 hc2' hc1s hc22 hp1 hp2 hnl
      rcases hc2 with ⟨k, hbe, rfl, hcs⟩ | ⟨hne, rfl⟩
      · have HB : Hid (BlkI t (k + 2 + 2) true) := .inr (.inl ⟨hb, ⟨k + 2, HBE.out k hbe, rfl⟩, rfl⟩)
        have hkt : k ≤ 1048576 := by have := hbe.2.1; rw [Pl.ext_sz] at this; omega
        have HKS : Hid (c1.size = k) := hcs
        clear hbe hb HBE HNE hcs
        go_enter Tryz.func67, Tryz.ntmps67
        go_wp2_with (first | (go_at_call 78; first | (refine (HP1.out _).mono ?_; rintro e uu ⟨rfl, rfl⟩) | (refine (HP2.out _).mono ?_; rintro e uu ⟨rfl, rfl⟩)) | (go_at_call 79; refine (HCT.out _ HM.out).mono ?_; rintro e u2 ⟨rfl, dn, hu2⟩; rw [hu2]; clear hu2; have hc1b : (c1.size : Int) ≤ 1048576 := (by have := HKS.out; omega)))
        go_ret2
        exact ⟨⟨k + 2 + 2, true, HB.out, by have := HKS.out; show Ending.returned (.tuple #[.int .i64 (4 + (c1.size : Int)), .bool true]) = _; rw [show (4 : Int) + (c1.size : Int) = ((k + 2 + 2 : Nat) : Int) by omega]⟩, below_drewV (Below.refl _ _) _⟩
      · have HB : Hid (BlkI t 0 false) := .inr (.inr (.inl ⟨hb, HNE.out hne, rfl, rfl⟩))
        clear hne hb HBE HNE
        go_enter Tryz.func67, Tryz.ntmps67
        go_wp2_with (first | (go_at_call 78; first | (refine (HP1.out _).mono ?_; rintro e uu ⟨rfl, rfl⟩) | (refine (HP2.out _).mono ?_; rintro e uu ⟨rfl, rfl⟩)) | (go_at_call 79; refine (HCT.out _ HM.out).mono ?_; rintro e u2 ⟨rfl, dn, hu2⟩; rw [hu2]; clear hu2))
        go_ret2
        exact ⟨⟨0, false, HB.out, rfl⟩, below_drewV (Below.refl _ _) _⟩
  · have hl : Pl.lc t 0 := hp1.1 rfl
    obtain ⟨k, hle, hck⟩ := Pl.cut1 t
    have HCT : Hid (∀ u : World, u.cell? ⟨0, 0, none⟩ = some (.int .i64 m) → Calls Tryz.prog 79 #[.string t, .string ⟨#[10]⟩] u _) := fun u hu => Tryz.strings_Cut t ⟨#[10]⟩ m u (by omega) hu
    obtain ⟨c1, hc1⟩ : ∃ c1 : ByteArray, c1 = ⟨(Lib.cut t.data.toList (⟨#[10]⟩ : ByteArray).data.toList).1.toArray⟩ := ⟨_, rfl⟩
    have hc1s : c1.size = (Lib.cut t.data.toList [10]).1.length := by rw [hc1]; exact List.size_toArray
    rw [← hc1] at HCT
    rw [← hc1s] at hck
    have HKS : Hid (c1.size = k) := hck
    have HB : Hid (BlkI t k true) := .inl ⟨hl, hle, rfl⟩
    clear hc1 hc1s hck hp1 hp2 hl hle
    go_enter Tryz.func67, Tryz.ntmps67
    go_wp2_with (first | (go_at_call 78; first | (refine (HP1.out _).mono ?_; rintro e uu ⟨rfl, rfl⟩) | (refine (HP2.out _).mono ?_; rintro e uu ⟨rfl, rfl⟩)) | (go_at_call 79; refine (HCT.out _ HM.out).mono ?_; rintro e u2 ⟨rfl, dn, hu2⟩; rw [hu2]; clear hu2))
    go_ret2
    exact ⟨⟨k, true, HB.out, by rw [← HKS.out]; rfl⟩, below_drewV (Below.refl _ _) _⟩
end Go.Proofs.YtdplfflkmphpbaaGreatDoor.W
namespace Go.Proofs.YtdplfflkmphpbaaGreatDoor.Pl
theorem Sk.blanks {s : ByteArray} {j : Nat} {c : Bool} : ∀ n k, k + n ≤ s.size → (∀ x, k ≤ x → x < k + n → blk (byt s x) = true) → Sk s (k + n) j c → Sk s k j c
  | 0, k, _, _, h => h
  | n + 1, k, h1, h2, h => .blank (by omega) (h2 k (Nat.le_refl _) (by omega)) (Sk.blanks n (k + 1) (by omega) (fun x a b => h2 x (by omega) (by omega)) (by rw [show k + 1 + n = k + (n + 1) by omega]; exact h))
end Go.Proofs.YtdplfflkmphpbaaGreatDoor.Pl
namespace Go.Proofs.YtdplfflkmphpbaaGreatDoor.W
open Go.RowKit
theorem BlkI.to {s : ByteArray} {k n : Nat} {b : Bool} (hk : k ≤ s.size) (h : BlkI (s.extract k s.size) n b) : (n = 0 ∧ Pl.Sk s k k b) ∨ (0 < n ∧ k + n ≤ s.size ∧ ∀ j c, Pl.Sk s (k + n) j c → Pl.Sk s k j c) := by
  have hsz := Pl.ext_sz s k
  have hb : ∀ j, k + j < s.size → Pl.byt (s.extract k s.size) j = Pl.byt s (k + j) := fun j hj => Pl.ext_byt s k j hj
  have hlc : Pl.lc (s.extract k s.size) 0 ↔ Pl.lc s k := by
    unfold Pl.lc
    rw [hsz]
    constructor
    · rintro ⟨h1, h2, h3⟩
      rw [hb 0 (by omega)] at h2
      rw [hb (0 + 1) (by omega)] at h3
      exact ⟨by omega, h2, by rw [← h3]⟩
    · rintro ⟨h1, h2, h3⟩
      refine ⟨by omega, ?_, ?_⟩
      · rw [hb 0 (by omega)]; exact h2
      · rw [hb (0 + 1) (by omega), ← h3]
  have hbc : Pl.bc (s.extract k s.size) 0 ↔ Pl.bc s k := by
    unfold Pl.bc
    rw [hsz]
    constructor
    · rintro ⟨h1, h2, h3⟩
      rw [hb 0 (by omega)] at h2
      rw [hb (0 + 1) (by omega)] at h3
      exact ⟨by omega, h2, by rw [← h3]⟩
    · rintro ⟨h1, h2, h3⟩
      refine ⟨by omega, ?_, ?_⟩
      · rw [hb 0 (by omega)]; exact h2
      · rw [hb (0 + 1) (by omega), ← h3]
  rcases h with ⟨h1, h2, rfl⟩ | ⟨h1, ⟨m, h2, rfl⟩, rfl⟩ | ⟨h1, h2, rfl, rfl⟩ | ⟨h1, h2, rfl, rfl⟩
  · right
    have hl := hlc.1 h1
    obtain ⟨_, e2, e3, e4⟩ := h2
    rw [hsz] at e2 e4
    have hn2 : 2 ≤ n := by
      have a1 := h1.1
      have a2 := h1.2.1
      have a3 := h1.2.2
      rw [hsz] at a1
      rcases e4 with e | e
      · omega
      · rcases Nat.lt_or_ge n 2 with q | q
        · have : n = 0 ∨ n = 1 := by omega
          rcases this with rfl | rfl
          · rw [a2] at e; exact absurd e (by decide)
          · rw [a3] at e; exact absurd e (by decide)
        · exact q
    refine ⟨by omega, by omega, fun j c hj => .line hl ⟨by omega, by omega, fun x hx1 hx2 => ?_, ?_⟩ hj⟩
    · have := e3 (x - k) (Nat.zero_le _) (by omega)
      rw [hb (x - k) (by omega), show k + (x - k) = x by omega] at this
      exact this
    · rcases e4 with e | e
      · left; omega
      · rcases Nat.lt_or_ge (k + n) s.size with q | q
        · right; rw [← hb n q]; exact e
        · left; omega
  · right
    have hl := hbc.1 h1
    obtain ⟨e1, e2, e3, e4⟩ := h2
    rw [hsz] at e2
    rw [hb m (by omega), hb (m + 1) (by omega)] at e3
    refine ⟨by omega, by omega, fun j c hj => .blok hl (k := k + m) ⟨by omega, by omega, e3, fun x hx1 hx2 e => ?_⟩ (by rw [show k + m + 2 = k + (m + 2) by omega]; exact hj)⟩
    have := e4 (x - k) (by omega) (by omega)
    rw [hb (x - k) (by omega), hb (x - k + 1) (by omega), show k + (x - k + 1) = x + 1 by omega, show k + (x - k) = x by omega] at this
    exact this e
  · left
    refine ⟨rfl, .opn (hbc.1 h1) fun x hx1 hx2 e => ?_⟩
    have := h2 (x - k) (by omega) (by rw [hsz]; omega)
    rw [hb (x - k) (by omega), hb (x - k + 1) (by omega), show k + (x - k + 1) = x + 1 by omega, show k + (x - k) = x by omega] at this
    exact this e
  · have hr := Pl.run_run Pl.blk (s.extract k s.size)
    have hr1 := hr.1
    rw [hsz] at hr1
    rcases Nat.eq_zero_or_pos (Pl.run Pl.blk (s.extract k s.size)) with e | e
    · left
      refine ⟨e, .stop ?_⟩
      rcases Nat.lt_or_ge k s.size with q | q
      · right
        refine ⟨?_, fun h => h1 (hlc.2 h), fun h => h2 (hbc.2 h)⟩
        have := hr.2.2
        rw [e, hsz] at this
        rcases this with x | x
        · omega
        · rw [hb 0 (by omega)] at x; exact x
      · exact .inl q
    · right
      refine ⟨e, by omega, fun j c hj => Pl.Sk.blanks _ k (by omega) (fun x hx1 hx2 => ?_) hj⟩
      have := hr.2.1 (x - k) (by omega)
      rw [hb (x - k) (by omega), show k + (x - k) = x by omega] at this
      exact this
theorem Glo.onX {g : Nat} {w w' : World} (h : Glo w) (hg : 8 ≤ g) (hx : OnlyX g w w') : Glo w' := h.keep (n := 8) (Nat.le_refl _) (hx.below hg h.big)
def lxAt (g : Nat) (w : World) : Nat := match w.cell? ⟨g, 1, none⟩ with | some (.int _ n) => n.toNat | _ => 0
theorem LxSt.at {g k : Nat} {s : ByteArray} {w : World} (h : LxSt g s k w) : lxAt g w = k := by
  unfold lxAt
  rw [cell_of_row w g 1 _ 72 (0, 0) h]
  simp
set_option maxHeartbeats 4000000 in
set_option maxRecDepth 100000 in
theorem skipBlanks_is (g : Nat) (hg8 : 8 ≤ g) (s : ByteArray) (hs : s.size ≤ 1048576) (k : Nat) (hk : k ≤ s.size) (w : World) (hL : LxSt g s k w) (hE : Glo w) : Calls Tryz.prog 60 #[.pointer (some ⟨g, 0, none⟩)] w fun e w' => ∃ j b, Pl.Sk s k j b ∧ e = .returned (.bool b) ∧ LxSt g s j w' ∧ OnlyX g w w' := by
  have HL : Hid (LxSt g s k w) := hL
  have HE : Hid (Glo w) := hE
  clear hL hE
  go_enter Tryz.func60, Tryz.ntmps60
  go_wp2_with fail
  go_loopw [3] (fun _ wr => ∃ m : Nat, m ≤ s.size ∧ LxSt g s m wr ∧ OnlyX g w wr ∧ ∀ j b, Pl.Sk s m j b → Pl.Sk s k j b) (fun _ wr => s.size - lxAt g wr)
  case atStart => exact ⟨k, hk, HL.out, OnlyX.refl _ _, fun j b h => h⟩
  case round =>
    obtain ⟨m, hm, hst, hox, hsk⟩ := hrel
    have HST : Hid (LxSt g s m wr) := hst
    have HOX : Hid (OnlyX g w wr) := hox
    have HSK : Hid (∀ j b, Pl.Sk s m j b → Pl.Sk s k j b) := hsk
    have HEr : Hid (Glo wr) := HE.out.onX hg8 hox
    have hc0 : wr.cell? ⟨g, 0, none⟩ = some (.string s) := cell_of_row wr g 0 _ 72 (0, 0) hst
    have hc1 : wr.cell? ⟨g, 1, none⟩ = some (.int .i64 m) := cell_of_row wr g 1 _ 72 (0, 0) hst
    have hm' : (m : Int) ≤ s.size := by omega
    have HBS : Hid (∀ u : World, Glo u → Calls Tryz.prog 67 #[.string (s.extract m s.size)] u fun e w' => (∃ n b, BlkI (s.extract m s.size) n b ∧ e = .returned (.tuple #[.int .i64 n, .bool b])) ∧ Below u.heap.size u w') := fun u hu => blankSize_is (s.extract m s.size) (by rw [Pl.ext_sz]; omega) u hu
    have HGD : Hid (∀ i, Glo (wr.drewN i)) := fun i => HEr.out.on (below_drewV (Below.refl _ _) i)
    clear hst hox hsk
    go_wp2_with fail
    go_region_with (go_at_call 67; refine (HBS.out _ (by first | exact HEr.out | exact HGD.out _)).mono ?_; rintro e u2 ⟨⟨n, b, hblk, rfl⟩, g2⟩)
    all_goals
      have G2 : Hid (OnlyX g w u2) := HOX.out.trans (OnlyX.of_below (by first | exact g2 | exact (below_drewV (Below.refl _ _) _).trans g2))
      have HST2 : Hid (LxSt g s m u2) := (HST.out.keep (below_drewV (Below.refl _ _) _)).keep g2
      have hto := hblk.to hm
      clear hblk g2
      rcases hto with ⟨rfl, hst⟩ | ⟨hn, hmn, hst⟩
      · have HF : Hid (Pl.Sk s k m b) := HSK.out _ _ hst
        clear hst
        go_wp2_with fail
        go_ret
        exact ⟨m, b, HF.out, rfl, HST2.out, G2.out⟩
      · have HF : Hid (∀ j b, Pl.Sk s (m + n) j b → Pl.Sk s k j b) := fun j b h => HSK.out j b (hst j b h)
        have en : ((n : Int) == 0) = false := by simp; omega
        have HPA : Hid (∀ u : World, LxSt g s m u → Calls Tryz.prog 62 #[.pointer (some ⟨g, 0, none⟩), .int .i64 n] u fun e w' => (∃ v, e = .returned v) ∧ LxSt g s (m + n) w' ∧ OnlyX g u w') := fun u hu => pass_is g s hs m n hmn u hu
        clear hst
        go_wp2_with (go_at_call 62; refine (HPA.out _ HST2.out).mono ?_; rintro e u3 ⟨⟨v, rfl⟩, hl3, ho3⟩)
        go_roundw
        case rel => exact ⟨m + n, hmn, hl3, G2.out.trans ho3, HF.out⟩
        case measure => rw [hl3.at, HST.out.at]; omega
end Go.Proofs.YtdplfflkmphpbaaGreatDoor.W
