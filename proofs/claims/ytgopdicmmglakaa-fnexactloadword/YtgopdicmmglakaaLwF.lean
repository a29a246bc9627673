import Derived.Test.YtgopdicmmglakaaLwB
import Derived.Test.YtgopdicmmglakaaMacF
set_option linter.unusedVariables false
namespace Go.Proofs.Ytgopdicmmglakaa.Pl
/-- c bytes from the top of size bytes at a place -/
def upc (zs : List Int) (p size : Nat) : Nat → Int
  | 0 => 0
  | c + 1 => upc zs p size c * 256 + zs.getD (p + (size - 1 - c)) 0
theorem byte_at {zs : List Int} (hz : ∀ n ∈ zs, 0 ≤ n ∧ n ≤ 255) (i : Nat) : 0 ≤ zs.getD i 0 ∧ zs.getD i 0 ≤ 255 := by
  rw [List.getD_eq_getElem?_getD]
  cases h : zs[i]? with
  | none => exact ⟨by decide, by decide⟩
  | some x => exact hz x (List.mem_of_getElem? h)
theorem upc_bd {zs : List Int} (hz : ∀ n ∈ zs, 0 ≤ n ∧ n ≤ 255) (p size : Nat) : ∀ c, c ≤ 4 → 0 ≤ upc zs p size c ∧ upc zs p size c ≤ 4294967295 := by
  have h0 := byte_at hz (p + (size - 1 - 0))
  have h1 := byte_at hz (p + (size - 1 - 1))
  have h2 := byte_at hz (p + (size - 1 - 2))
  have h3 := byte_at hz (p + (size - 1 - 3))
  intro c hc
  rcases (show c = 0 ∨ c = 1 ∨ c = 2 ∨ c = 3 ∨ c = 4 by omega) with rfl | rfl | rfl | rfl | rfl
  all_goals simp only [upc]; omega
theorem upc_ldk {zs : List Int} (p size : Nat) (hs : size = 1 ∨ size = 2 ∨ size = 4) : upc zs p size size = ldk zs p size := by
  have e0 : pw (8 * 0) = 1 := by decide
  have e1 : pw (8 * 1) = 256 := by decide
  have e2 : pw (8 * 2) = 65536 := by decide
  have e3 : pw (8 * 3) = 16777216 := by decide
  rcases hs with rfl | rfl | rfl
  all_goals simp only [upc, ldk, e0, e1, e2, e3, Nat.reduceSub]; omega
end Go.Proofs.Ytgopdicmmglakaa.Pl
namespace Go.Proofs.Ytgopdicmmglakaa.W
open Go.RowKit
theorem retp {a b c d : Int} (h1 : a = b) (h2 : c = d) : Ending.returned (.tuple #[.int .i64 a, .int .i64 c]) = .returned (.tuple #[.int .i64 b, .int .i64 d]) := by rw [h1, h2]
set_option maxHeartbeats 1000000 in
theorem spot_data (v : MV) (m : Pl.Mac) (gm : Nat) (at_ : Int) (p size : Nat) (w : World) (hm : w.heap[gm]? = some (.cells #[.slice v.code.a v.code.len v.code.cap, .int .i64 m.pc, .slice v.regs.a v.regs.len v.regs.cap, .slice v.data.a v.data.len v.data.cap, .slice v.stk.a v.stk.len v.stk.cap, .slice v.inp.a v.inp.len v.inp.cap, .slice v.out.a v.out.len v.out.cap, .int .i64 m.steps, .int .i64 m.fin, .int .i64 m.val] 28)) (hb : -9223372036854775808 ≤ at_ ∧ at_ ≤ 9223372036854775807) (hl : v.data.len ≤ 65536) (hl' : v.stk.len ≤ 65536) (hs : 1 ≤ size ∧ size ≤ 4) (hp : at_ = 1048576 + p) (h2 : p + size ≤ v.data.len) :
    Calls Try.prog 67 #[.pointer (some ⟨gm, 0, none⟩), .int .i64 at_, .int .i64 (size : Int)] w fun e w' => e = .returned (.tuple #[.int .i64 1, .int .i64 (p : Int)]) ∧ w' = w := by
  have km : ∀ j, w.cell? ⟨gm, j, none⟩ = (#[.slice v.code.a v.code.len v.code.cap, .int .i64 m.pc, .slice v.regs.a v.regs.len v.regs.cap, .slice v.data.a v.data.len v.data.cap, .slice v.stk.a v.stk.len v.stk.cap, .slice v.inp.a v.inp.len v.inp.cap, .slice v.out.a v.out.len v.out.cap, .int .i64 m.steps, .int .i64 m.fin, .int .i64 m.val] : Array Value)[j]? := fun j => cell_of_row w gm j _ 28 (0, 0) hm
  clear hm
  subst hp
  go_enter Try.func67, Try.ntmps67
  go_wp2
  go_ret2
  exact ⟨retp rfl (by omega), rfl⟩
set_option maxHeartbeats 1000000 in
theorem spot_stack (v : MV) (m : Pl.Mac) (gm : Nat) (at_ : Int) (p size : Nat) (w : World) (hm : w.heap[gm]? = some (.cells #[.slice v.code.a v.code.len v.code.cap, .int .i64 m.pc, .slice v.regs.a v.regs.len v.regs.cap, .slice v.data.a v.data.len v.data.cap, .slice v.stk.a v.stk.len v.stk.cap, .slice v.inp.a v.inp.len v.inp.cap, .slice v.out.a v.out.len v.out.cap, .int .i64 m.steps, .int .i64 m.fin, .int .i64 m.val] 28)) (hb : -9223372036854775808 ≤ at_ ∧ at_ ≤ 9223372036854775807) (hl : v.data.len ≤ 65536) (hl' : v.stk.len ≤ 65536) (hs : 1 ≤ size ∧ size ≤ 4) (hd0 : at_ < 1048576 ∨ (v.data.len : Int) - size < at_ - 1048576) (hp : at_ = 2097152 - (v.stk.len : Int) + p) (h2 : p + size ≤ v.stk.len) :
    Calls Try.prog 67 #[.pointer (some ⟨gm, 0, none⟩), .int .i64 at_, .int .i64 (size : Int)] w fun e w' => e = .returned (.tuple #[.int .i64 2, .int .i64 (p : Int)]) ∧ w' = w := by
  have km : ∀ j, w.cell? ⟨gm, j, none⟩ = (#[.slice v.code.a v.code.len v.code.cap, .int .i64 m.pc, .slice v.regs.a v.regs.len v.regs.cap, .slice v.data.a v.data.len v.data.cap, .slice v.stk.a v.stk.len v.stk.cap, .slice v.inp.a v.inp.len v.inp.cap, .slice v.out.a v.out.len v.out.cap, .int .i64 m.steps, .int .i64 m.fin, .int .i64 m.val] : Array Value)[j]? := fun j => cell_of_row w gm j _ 28 (0, 0) hm
  clear hm
  have hd : ¬ at_ - 1048576 ≤ (v.data.len : Int) - size := by omega
  clear hd0
  go_enter Try.func67, Try.ntmps67
  go_wp2
  go_ret2
  exact ⟨retp rfl (by omega), rfl⟩
set_option maxHeartbeats 2000000 in
theorem spot_none (v : MV) (m : Pl.Mac) (gm : Nat) (at_ : Int) (size : Nat) (w : World) (hm : w.heap[gm]? = some (.cells #[.slice v.code.a v.code.len v.code.cap, .int .i64 m.pc, .slice v.regs.a v.regs.len v.regs.cap, .slice v.data.a v.data.len v.data.cap, .slice v.stk.a v.stk.len v.stk.cap, .slice v.inp.a v.inp.len v.inp.cap, .slice v.out.a v.out.len v.out.cap, .int .i64 m.steps, .int .i64 m.fin, .int .i64 m.val] 28)) (hb : -9223372036854775808 ≤ at_ ∧ at_ ≤ 9223372036854775807) (hl : v.data.len ≤ 65536) (hl' : v.stk.len ≤ 65536) (hs : 1 ≤ size ∧ size ≤ 4) (hd0 : at_ < 1048576 ∨ (v.data.len : Int) - size < at_ - 1048576) (hd1 : at_ < 2097152 - (v.stk.len : Int) ∨ (v.stk.len : Int) - size < at_ - (2097152 - (v.stk.len : Int))) :
    Calls Try.prog 67 #[.pointer (some ⟨gm, 0, none⟩), .int .i64 at_, .int .i64 (size : Int)] w fun e w' => e = .returned (.tuple #[.int .i64 0, .int .i64 0]) ∧ w' = w := by
  have km : ∀ j, w.cell? ⟨gm, j, none⟩ = (#[.slice v.code.a v.code.len v.code.cap, .int .i64 m.pc, .slice v.regs.a v.regs.len v.regs.cap, .slice v.data.a v.data.len v.data.cap, .slice v.stk.a v.stk.len v.stk.cap, .slice v.inp.a v.inp.len v.inp.cap, .slice v.out.a v.out.len v.out.cap, .int .i64 m.steps, .int .i64 m.fin, .int .i64 m.val] : Array Value)[j]? := fun j => cell_of_row w gm j _ 28 (0, 0) hm
  clear hm
  by_cases w1 : at_ - 1048576 < -9223372036854775808
  · have e1 : wrap64 (at_ - 1048576) = at_ - 1048576 + 18446744073709551616 := by simp only [wrap64]; omega
    have e2 : wrap64 (at_ - (2097152 - (v.stk.len : Int))) = at_ - (2097152 - (v.stk.len : Int)) + 18446744073709551616 := by simp only [wrap64]; omega
    clear hd0 hd1
    go_enter Try.func67, Try.ntmps67
    go_wp2
    go_ret2
    exact ⟨rfl, rfl⟩
  by_cases w2 : at_ - (2097152 - (v.stk.len : Int)) < -9223372036854775808
  · have e2 : wrap64 (at_ - (2097152 - (v.stk.len : Int))) = at_ - (2097152 - (v.stk.len : Int)) + 18446744073709551616 := by simp only [wrap64]; omega
    clear hd0 hd1
    go_enter Try.func67, Try.ntmps67
    go_wp2
    go_ret2
    exact ⟨rfl, rfl⟩
  rcases (show at_ < 1048576 ∨ (1048576 ≤ at_ ∧ (v.data.len : Int) - size < at_ - 1048576 ∧ at_ < 2097152 - (v.stk.len : Int)) ∨ (2097152 - (v.stk.len : Int) ≤ at_ ∧ (v.stk.len : Int) - size < at_ - (2097152 - (v.stk.len : Int))) by omega) with h0 | ⟨h0, h1, h2⟩ | ⟨h0, h1⟩
  all_goals
    clear hd0 hd1
    go_enter Try.func67, Try.ntmps67
    go_wp2
    go_ret2
    exact ⟨rfl, rfl⟩
set_option maxHeartbeats 1000000 in
theorem l3Load_align (gm : Nat) (kind at_ : Int) (size : Nat) (hs : 1 ≤ size ∧ size ≤ 4) (hk : Pl.ks kind = size) (ha : (at_.tmod (size : Int) != 0) = true) (w : World) :
    Calls Try.prog 46 #[.pointer (some ⟨gm, 0, none⟩), .int .i64 kind, .int .i64 at_] w fun e w' => e = .returned (.tuple #[.int .i64 0, .int .i64 3]) ∧ w' = w := by
  go_enter Try.func46, Try.ntmps46
  go_wp2_with (go_at_call 45; refine (specKindSize_any _ _).mono ?_; rintro e w' ⟨rfl, rfl⟩; rw [hk])
  go_ret2
  exact ⟨rfl, rfl⟩
set_option maxHeartbeats 1000000 in
theorem l3Load_none (v : MV) (m : Pl.Mac) (gm : Nat) (kind at_ : Int) (size : Nat) (w : World) (hm : w.heap[gm]? = some (.cells #[.slice v.code.a v.code.len v.code.cap, .int .i64 m.pc, .slice v.regs.a v.regs.len v.regs.cap, .slice v.data.a v.data.len v.data.cap, .slice v.stk.a v.stk.len v.stk.cap, .slice v.inp.a v.inp.len v.inp.cap, .slice v.out.a v.out.len v.out.cap, .int .i64 m.steps, .int .i64 m.fin, .int .i64 m.val] 28)) (hb : -9223372036854775808 ≤ at_ ∧ at_ ≤ 9223372036854775807) (hl : v.data.len ≤ 65536) (hl' : v.stk.len ≤ 65536) (hs : 1 ≤ size ∧ size ≤ 4) (hk : Pl.ks kind = size) (ha : (at_.tmod (size : Int) != 0) = false) (hd0 : Hid (at_ < 1048576 ∨ (v.data.len : Int) - size < at_ - 1048576)) (hd1 : Hid (at_ < 2097152 - (v.stk.len : Int) ∨ (v.stk.len : Int) - size < at_ - (2097152 - (v.stk.len : Int)))) :
    Calls Try.prog 46 #[.pointer (some ⟨gm, 0, none⟩), .int .i64 kind, .int .i64 at_] w fun e w' => e = .returned (.tuple #[.int .i64 0, .int .i64 4]) ∧ w' = w := by
  have HM : Hid (w.heap[gm]? = some (.cells #[.slice v.code.a v.code.len v.code.cap, .int .i64 m.pc, .slice v.regs.a v.regs.len v.regs.cap, .slice v.data.a v.data.len v.data.cap, .slice v.stk.a v.stk.len v.stk.cap, .slice v.inp.a v.inp.len v.inp.cap, .slice v.out.a v.out.len v.out.cap, .int .i64 m.steps, .int .i64 m.fin, .int .i64 m.val] 28)) := hm
  have hs0 : ((size : Int) == 0) = false := by simp; omega
  clear hm
  go_enter Try.func46, Try.ntmps46
  go_wp2_with (first | (go_at_call 45; refine (specKindSize_any _ _).mono ?_; rintro e w' ⟨rfl, rfl⟩; rw [hk]) | (go_at_call 67; refine (spot_none v m gm _ size _ HM.out hb hl hl' hs hd0.out hd1.out).mono ?_; rintro e w' ⟨rfl, rfl⟩))
  go_ret2
  exact ⟨rfl, rfl⟩
set_option maxHeartbeats 4000000 in
theorem l3Load_data (v : MV) (m : Pl.Mac) (gm : Nat) (kind at_ : Int) (b off p size : Nat) (zs : List Int) (w : World) (hm : w.heap[gm]? = some (.cells #[.slice v.code.a v.code.len v.code.cap, .int .i64 m.pc, .slice v.regs.a v.regs.len v.regs.cap, .slice v.data.a v.data.len v.data.cap, .slice v.stk.a v.stk.len v.stk.cap, .slice v.inp.a v.inp.len v.inp.cap, .slice v.out.a v.out.len v.out.cap, .int .i64 m.steps, .int .i64 m.fin, .int .i64 m.val] 28)) (hb : -9223372036854775808 ≤ at_ ∧ at_ ≤ 9223372036854775807) (hl : v.data.len ≤ 65536) (hl' : v.stk.len ≤ 65536) (hs : 1 ≤ size ∧ size ≤ 4) (hs4 : size = 1 ∨ size = 2 ∨ size = 4) (hk : Pl.ks kind = size) (ha : (at_.tmod (size : Int) != 0) = false)  (hp : Hid (at_ = 1048576 + p)) (h2 : p + size ≤ v.data.len) (hadr : v.data.a = some ⟨b, off, none⟩)
    (HZ : Hid (∀ n ∈ zs, 0 ≤ n ∧ n ≤ 255)) (HC : Hid (∀ i, i < size → w.cell? ⟨b, off + (p + i), none⟩ = some (.int .u8 (zs.getD (p + i) 0)))) :
    Calls Try.prog 46 #[.pointer (some ⟨gm, 0, none⟩), .int .i64 kind, .int .i64 at_] w fun e w' => e = .returned (.tuple #[.int .i64 (Pl.nr kind (Pl.ldk zs p size)), .int .i64 0]) ∧ w' = w := by
  have HM : Hid (w.heap[gm]? = some (.cells #[.slice v.code.a v.code.len v.code.cap, .int .i64 m.pc, .slice v.regs.a v.regs.len v.regs.cap, .slice v.data.a v.data.len v.data.cap, .slice v.stk.a v.stk.len v.stk.cap, .slice v.inp.a v.inp.len v.inp.cap, .slice v.out.a v.out.len v.out.cap, .int .i64 m.steps, .int .i64 m.fin, .int .i64 m.val] 28)) := hm
  have hs0 : ((size : Int) == 0) = false := by simp; omega
  have km : ∀ j, w.cell? ⟨gm, j, none⟩ = (#[.slice v.code.a v.code.len v.code.cap, .int .i64 m.pc, .slice v.regs.a v.regs.len v.regs.cap, .slice v.data.a v.data.len v.data.cap, .slice v.stk.a v.stk.len v.stk.cap, .slice v.inp.a v.inp.len v.inp.cap, .slice v.out.a v.out.len v.out.cap, .int .i64 m.steps, .int .i64 m.fin, .int .i64 m.val] : Array Value)[j]? := fun j => cell_of_row w gm j _ 28 (0, 0) hm
  rw [hadr] at km
  clear hm
  rw [← Pl.upc_ldk p size hs4]
  go_enter Try.func46, Try.ntmps46
  go_wp2_with (first | (go_at_call 45; refine (specKindSize_any _ _).mono ?_; rintro e w' ⟨rfl, hw'⟩; rw [hw', hk]; clear hw') | (go_at_call 67; refine (spot_data v m gm _ p size _ HM.out hb hl hl' hs hp.out h2).mono ?_; rintro e w' ⟨rfl, hw'⟩; rw [hw']; clear hw'))
  go_loop [12, 13] (fun x i => ∃ c : Nat, c ≤ size ∧ i = .int .i64 ((size : Int) - 1 - c) ∧ x = .int .i64 (Pl.upc zs p size c)) (fun _ i => (intOf i + 1).toNat)
  case atStart => exact ⟨0, Nat.zero_le _, by simp, rfl⟩
  case round =>
    obtain ⟨c, hc, rfl, rfl⟩ := hrel
    obtain ⟨x, hx⟩ : ∃ x, x = Pl.upc zs p size c := ⟨_, rfl⟩
    have hxb := Pl.upc_bd HZ.out p size c (by omega)
    rw [← hx] at hxb ⊢
    have HX : Hid (x = Pl.upc zs p size c) := hx
    clear hx
    by_cases hlt : c < size
    · obtain ⟨q, hq⟩ : ∃ q : Nat, q = size - 1 - c := ⟨_, rfl⟩
      have hqi : (size : Int) - 1 - c = (q : Int) := by omega
      obtain ⟨y, hy⟩ : ∃ y, y = zs.getD (p + q) 0 := ⟨_, rfl⟩
      have hcell : w.cell? ⟨b, off + (p + q), none⟩ = some (.int .u8 y) := by rw [hy]; exact HC.out q (by omega)
      have hyb := Pl.byte_at HZ.out (p + q)
      rw [← hy] at hyb
      have HS : Hid (Pl.upc zs p size (c + 1) = x * 256 + y) := by show Pl.upc zs p size (c + 1) = _; rw [HX.out, hy, hq]; rfl
      have HQ : Hid (q = size - 1 - c) := hq
      have hqb : q < size := by omega
      rw [hqi]
      clear hy hq hqi
      go_wp2
      go_round
      case rel => exact ⟨c + 1, by omega, congrArg (Value.int .i64) (by have := HQ.out; omega), congrArg (Value.int .i64) HS.out.symm⟩
      case measure => simp [intOf]
    · have hce : c = size := by omega
      subst hce
      have hx' : (c : Int) - 1 - c = -1 := by omega
      rw [hx']
      rw [HX.out]
      go_wp2_with (go_at_call 68; refine (specNarrow_any _ _ _).mono ?_; rintro e w' ⟨rfl, rfl⟩)
      go_ret2
      exact ⟨rfl, rfl⟩
set_option maxHeartbeats 4000000 in
theorem l3Load_stack (v : MV) (m : Pl.Mac) (gm : Nat) (kind at_ : Int) (b off p size : Nat) (zs : List Int) (w : World) (hm : w.heap[gm]? = some (.cells #[.slice v.code.a v.code.len v.code.cap, .int .i64 m.pc, .slice v.regs.a v.regs.len v.regs.cap, .slice v.data.a v.data.len v.data.cap, .slice v.stk.a v.stk.len v.stk.cap, .slice v.inp.a v.inp.len v.inp.cap, .slice v.out.a v.out.len v.out.cap, .int .i64 m.steps, .int .i64 m.fin, .int .i64 m.val] 28)) (hb : -9223372036854775808 ≤ at_ ∧ at_ ≤ 9223372036854775807) (hl : v.data.len ≤ 65536) (hl' : v.stk.len ≤ 65536) (hs : 1 ≤ size ∧ size ≤ 4) (hs4 : size = 1 ∨ size = 2 ∨ size = 4) (hk : Pl.ks kind = size) (ha : (at_.tmod (size : Int) != 0) = false) (hd0 : Hid (at_ < 1048576 ∨ (v.data.len : Int) - size < at_ - 1048576)) (hp : Hid (at_ = 2097152 - (v.stk.len : Int) + p)) (h2 : p + size ≤ v.stk.len) (hadr : v.stk.a = some ⟨b, off, none⟩)
    (HZ : Hid (∀ n ∈ zs, 0 ≤ n ∧ n ≤ 255)) (HC : Hid (∀ i, i < size → w.cell? ⟨b, off + (p + i), none⟩ = some (.int .u8 (zs.getD (p + i) 0)))) :
    Calls Try.prog 46 #[.pointer (some ⟨gm, 0, none⟩), .int .i64 kind, .int .i64 at_] w fun e w' => e = .returned (.tuple #[.int .i64 (Pl.nr kind (Pl.ldk zs p size)), .int .i64 0]) ∧ w' = w := by
  have HM : Hid (w.heap[gm]? = some (.cells #[.slice v.code.a v.code.len v.code.cap, .int .i64 m.pc, .slice v.regs.a v.regs.len v.regs.cap, .slice v.data.a v.data.len v.data.cap, .slice v.stk.a v.stk.len v.stk.cap, .slice v.inp.a v.inp.len v.inp.cap, .slice v.out.a v.out.len v.out.cap, .int .i64 m.steps, .int .i64 m.fin, .int .i64 m.val] 28)) := hm
  have hs0 : ((size : Int) == 0) = false := by simp; omega
  have km : ∀ j, w.cell? ⟨gm, j, none⟩ = (#[.slice v.code.a v.code.len v.code.cap, .int .i64 m.pc, .slice v.regs.a v.regs.len v.regs.cap, .slice v.data.a v.data.len v.data.cap, .slice v.stk.a v.stk.len v.stk.cap, .slice v.inp.a v.inp.len v.inp.cap, .slice v.out.a v.out.len v.out.cap, .int .i64 m.steps, .int .i64 m.fin, .int .i64 m.val] : Array Value)[j]? := fun j => cell_of_row w gm j _ 28 (0, 0) hm
  rw [hadr] at km
  clear hm
  rw [← Pl.upc_ldk p size hs4]
  go_enter Try.func46, Try.ntmps46
  go_wp2_with (first | (go_at_call 45; refine (specKindSize_any _ _).mono ?_; rintro e w' ⟨rfl, hw'⟩; rw [hw', hk]; clear hw') | (go_at_call 67; refine (spot_stack v m gm _ p size _ HM.out hb hl hl' hs hd0.out hp.out h2).mono ?_; rintro e w' ⟨rfl, hw'⟩; rw [hw']; clear hw'))
  go_loop [12, 13] (fun x i => ∃ c : Nat, c ≤ size ∧ i = .int .i64 ((size : Int) - 1 - c) ∧ x = .int .i64 (Pl.upc zs p size c)) (fun _ i => (intOf i + 1).toNat)
  case atStart => exact ⟨0, Nat.zero_le _, by simp, rfl⟩
  case round =>
    obtain ⟨c, hc, rfl, rfl⟩ := hrel
    obtain ⟨x, hx⟩ : ∃ x, x = Pl.upc zs p size c := ⟨_, rfl⟩
    have hxb := Pl.upc_bd HZ.out p size c (by omega)
    rw [← hx] at hxb ⊢
    have HX : Hid (x = Pl.upc zs p size c) := hx
    clear hx
    by_cases hlt : c < size
    · obtain ⟨q, hq⟩ : ∃ q : Nat, q = size - 1 - c := ⟨_, rfl⟩
      have hqi : (size : Int) - 1 - c = (q : Int) := by omega
      obtain ⟨y, hy⟩ : ∃ y, y = zs.getD (p + q) 0 := ⟨_, rfl⟩
      have hcell : w.cell? ⟨b, off + (p + q), none⟩ = some (.int .u8 y) := by rw [hy]; exact HC.out q (by omega)
      have hyb := Pl.byte_at HZ.out (p + q)
      rw [← hy] at hyb
      have HS : Hid (Pl.upc zs p size (c + 1) = x * 256 + y) := by show Pl.upc zs p size (c + 1) = _; rw [HX.out, hy, hq]; rfl
      have HQ : Hid (q = size - 1 - c) := hq
      have hqb : q < size := by omega
      rw [hqi]
      clear hy hq hqi
      go_wp2
      go_round
      case rel => exact ⟨c + 1, by omega, congrArg (Value.int .i64) (by have := HQ.out; omega), congrArg (Value.int .i64) HS.out.symm⟩
      case measure => simp [intOf]
    · have hce : c = size := by omega
      subst hce
      have hx' : (c : Int) - 1 - c = -1 := by omega
      rw [hx']
      rw [HX.out]
      go_wp2_with (go_at_call 68; refine (specNarrow_any _ _ _).mono ?_; rintro e w' ⟨rfl, rfl⟩)
      go_ret2
      exact ⟨rfl, rfl⟩
end Go.Proofs.Ytgopdicmmglakaa.W
