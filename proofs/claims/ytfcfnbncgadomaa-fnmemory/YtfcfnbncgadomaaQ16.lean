import Derived.Test.YtfcfnbncgadomaaQ15
import Derived.Test.YtfcfnbncgadomaaQ11
import Derived.Test.YtfcfnbncgadomaaQ14
import Derived.Deep.AppendLies
import Derived.Deep.RegionLaw
set_option linter.unusedVariables false
set_option linter.unusedSimpArgs false
namespace Go.Proofs.Ytfcfnbncgadomaa.Pl
/-- c bytes from the top of size bytes at a place -/
def upc (zs : List Int) (p size : Nat) : Nat → Int
  | 0 => 0
  | c + 1 => upc zs p size c * 256 + zs.getD (p + (size - 1 - c)) 0
theorem byte_at {zs : List Int} (hz : ∀ n ∈ zs, 0 ≤ n ∧ n ≤ 255) (i : Nat) : 0 ≤ zs.getD i 0 ∧ zs.getD i 0 ≤ 255 := by
  rw [List.getD_eq_getElem?_getD]
  cases h : zs[i]? with
  | none => exact ⟨by decide, by decide⟩
  | some x => exact hz x (List.mem_of_getElem? h)
theorem upc_bd {zs : List Int} (hz : ∀ n ∈ zs, 0 ≤ n ∧ n ≤ 255) (p size : Nat) : ∀ c, c ≤ 4 → 0 ≤ upc zs p size c ∧ upc zs p size c ≤ 4294967295 := by
  have h0 := byte_at hz (p + (size - 1 - 0))
  have h1 := byte_at hz (p + (size - 1 - 1))
  have h2 := byte_at hz (p + (size - 1 - 2))
  have h3 := byte_at hz (p + (size - 1 - 3))
  intro c hc
  rcases (show c = 0 ∨ c = 1 ∨ c = 2 ∨ c = 3 ∨ c = 4 by omega) with rfl | rfl | rfl | rfl | rfl
  all_goals simp only [upc]; omega
theorem upc_ldk {zs : List Int} (p size : Nat) (hs : size = 1 ∨ size = 2 ∨ size = 4) : upc zs p size size = ldk zs p size := by
  have e0 : pw (8 * 0) = 1 := by decide
  have e1 : pw (8 * 1) = 256 := by decide
  have e2 : pw (8 * 2) = 65536 := by decide
  have e3 : pw (8 * 3) = 16777216 := by decide
  rcases hs with rfl | rfl | rfl
  all_goals simp only [upc, ldk, e0, e1, e2, e3, Nat.reduceSub]; omega
end Go.Proofs.Ytfcfnbncgadomaa.Pl
namespace Go.Proofs.Ytfcfnbncgadomaa.W
open Go.RowKit
theorem retp {a b c d : Int} (h1 : a = b) (h2 : c = d) : Ending.returned (.tuple #[.int .i64 a, .int .i64 c]) = .returned (.tuple #[.int .i64 b, .int .i64 d]) := by rw [h1, h2]
set_option maxHeartbeats 1000000 in
theorem spot_data (v : MV) (m : Pl.Mac) (gm : Nat) (at_ : Int) (p size : Nat) (w : World) (hm : w.heap[gm]? = some (.cells #[.slice v.code.a v.code.len v.code.cap, .int .i64 m.pc, .slice v.regs.a v.regs.len v.regs.cap, .slice v.data.a v.data.len v.data.cap, .slice v.stk.a v.stk.len v.stk.cap, .slice v.inp.a v.inp.len v.inp.cap, .slice v.out.a v.out.len v.out.cap, .int .i64 m.steps, .int .i64 m.fin, .int .i64 m.val] 25)) (hb : -9223372036854775808 ≤ at_ ∧ at_ ≤ 9223372036854775807) (hl : v.data.len ≤ 65536) (hl' : v.stk.len ≤ 65536) (hs : 1 ≤ size ∧ size ≤ 4) (hp : at_ = 1048576 + p) (h2 : p + size ≤ v.data.len) :
    Calls Try.prog 53 #[.pointer (some ⟨gm, 0, none⟩), .int .i64 at_, .int .i64 (size : Int)] w fun e w' => e = .returned (.tuple #[.int .i64 1, .int .i64 (p : Int)]) ∧ w' = w := by
  have km : ∀ j, w.cell? ⟨gm, j, none⟩ = (#[.slice v.code.a v.code.len v.code.cap, .int .i64 m.pc, .slice v.regs.a v.regs.len v.regs.cap, .slice v.data.a v.data.len v.data.cap, .slice v.stk.a v.stk.len v.stk.cap, .slice v.inp.a v.inp.len v.inp.cap, .slice v.out.a v.out.len v.out.cap, .int .i64 m.steps, .int .i64 m.fin, .int .i64 m.val] : Array Value)[j]? := fun j => cell_of_row w gm j _ 25 (0, 0) hm
  clear hm
  subst hp
  go_enter Try.func53, Try.ntmps53
  go_wp2
  go_ret2
  exact ⟨retp rfl (by omega), rfl⟩
set_option maxHeartbeats 1000000 in
theorem spot_stack (v : MV) (m : Pl.Mac) (gm : Nat) (at_ : Int) (p size : Nat) (w : World) (hm : w.heap[gm]? = some (.cells #[.slice v.code.a v.code.len v.code.cap, .int .i64 m.pc, .slice v.regs.a v.regs.len v.regs.cap, .slice v.data.a v.data.len v.data.cap, .slice v.stk.a v.stk.len v.stk.cap, .slice v.inp.a v.inp.len v.inp.cap, .slice v.out.a v.out.len v.out.cap, .int .i64 m.steps, .int .i64 m.fin, .int .i64 m.val] 25)) (hb : -9223372036854775808 ≤ at_ ∧ at_ ≤ 9223372036854775807) (hl : v.data.len ≤ 65536) (hl' : v.stk.len ≤ 65536) (hs : 1 ≤ size ∧ size ≤ 4) (hd0 : at_ < 1048576 ∨ (v.data.len : Int) - size < at_ - 1048576) (hp : at_ = 2097152 - (v.stk.len : Int) + p) (h2 : p + size ≤ v.stk.len) :
    Calls Try.prog 53 #[.pointer (some ⟨gm, 0, none⟩), .int .i64 at_, .int .i64 (size : Int)] w fun e w' => e = .returned (.tuple #[.int .i64 2, .int .i64 (p : Int)]) ∧ w' = w := by
  have km : ∀ j, w.cell? ⟨gm, j, none⟩ = (#[.slice v.code.a v.code.len v.code.cap, .int .i64 m.pc, .slice v.regs.a v.regs.len v.regs.cap, .slice v.data.a v.data.len v.data.cap, .slice v.stk.a v.stk.len v.stk.cap, .slice v.inp.a v.inp.len v.inp.cap, .slice v.out.a v.out.len v.out.cap, .int .i64 m.steps, .int .i64 m.fin, .int .i64 m.val] : Array Value)[j]? := fun j => cell_of_row w gm j _ 25 (0, 0) hm
  clear hm
  have hd : ¬ at_ - 1048576 ≤ (v.data.len : Int) - size := by omega
  clear hd0
  go_enter Try.func53, Try.ntmps53
  go_wp2
  go_ret2
  exact ⟨retp rfl (by omega), rfl⟩
set_option maxHeartbeats 2000000 in
theorem spot_none (v : MV) (m : Pl.Mac) (gm : Nat) (at_ : Int) (size : Nat) (w : World) (hm : w.heap[gm]? = some (.cells #[.slice v.code.a v.code.len v.code.cap, .int .i64 m.pc, .slice v.regs.a v.regs.len v.regs.cap, .slice v.data.a v.data.len v.data.cap, .slice v.stk.a v.stk.len v.stk.cap, .slice v.inp.a v.inp.len v.inp.cap, .slice v.out.a v.out.len v.out.cap, .int .i64 m.steps, .int .i64 m.fin, .int .i64 m.val] 25)) (hb : -9223372036854775808 ≤ at_ ∧ at_ ≤ 9223372036854775807) (hl : v.data.len ≤ 65536) (hl' : v.stk.len ≤ 65536) (hs : 1 ≤ size ∧ size ≤ 4) (hd0 : at_ < 1048576 ∨ (v.data.len : Int) - size < at_ - 1048576) (hd1 : at_ < 2097152 - (v.stk.len : Int) ∨ (v.stk.len : Int) - size < at_ - (2097152 - (v.stk.len : Int))) :
    Calls Try.prog 53 #[.pointer (some ⟨gm, 0, none⟩), .int .i64 at_, .int .i64 (size : Int)] w fun e w' => e = .returned (.tuple #[.int .i64 0, .int .i64 0]) ∧ w' = w := by
  have km : ∀ j, w.cell? ⟨gm, j, none⟩ = (#[.slice v.code.a v.code.len v.code.cap, .int .i64 m.pc, .slice v.regs.a v.regs.len v.regs.cap, .slice v.data.a v.data.len v.data.cap, .slice v.stk.a v.stk.len v.stk.cap, .slice v.inp.a v.inp.len v.inp.cap, .slice v.out.a v.out.len v.out.cap, .int .i64 m.steps, .int .i64 m.fin, .int .i64 m.val] : Array Value)[j]? := fun j => cell_of_row w gm j _ 25 (0, 0) hm
  clear hm
  by_cases w1 : at_ - 1048576 < -9223372036854775808
  · have e1 : wrap64 (at_ - 1048576) = at_ - 1048576 + 18446744073709551616 := by simp only [wrap64]; omega
    have e2 : wrap64 (at_ - (2097152 - (v.stk.len : Int))) = at_ - (2097152 - (v.stk.len : Int)) + 18446744073709551616 := by simp only [wrap64]; omega
    clear hd0 hd1
    go_enter Try.func53, Try.ntmps53
    go_wp2
    go_ret2
    exact ⟨rfl, rfl⟩
  by_cases w2 : at_ - (2097152 - (v.stk.len : Int)) < -9223372036854775808
  · have e2 : wrap64 (at_ - (2097152 - (v.stk.len : Int))) = at_ - (2097152 - (v.stk.len : Int)) + 18446744073709551616 := by simp only [wrap64]; omega
    clear hd0 hd1
    go_enter Try.func53, Try.ntmps53
    go_wp2
    go_ret2
    exact ⟨rfl, rfl⟩
  rcases (show at_ < 1048576 ∨ (1048576 ≤ at_ ∧ (v.data.len : Int) - size < at_ - 1048576 ∧ at_ < 2097152 - (v.stk.len : Int)) ∨ (2097152 - (v.stk.len : Int) ≤ at_ ∧ (v.stk.len : Int) - size < at_ - (2097152 - (v.stk.len : Int))) by omega) with h0 | ⟨h0, h1, h2⟩ | ⟨h0, h1⟩
  all_goals
    clear hd0 hd1
    go_enter Try.func53, Try.ntmps53
    go_wp2
    go_ret2
    exact ⟨rfl, rfl⟩
set_option maxHeartbeats 1000000 in
theorem l3Load_align (gm : Nat) (kind at_ : Int) (size : Nat) (hs : 1 ≤ size ∧ size ≤ 4) (hk : Pl.ks kind = size) (ha : (at_.tmod (size : Int) != 0) = true) (w : World) :
    Calls Try.prog 34 #[.pointer (some ⟨gm, 0, none⟩), .int .i64 kind, .int .i64 at_] w fun e w' => e = .returned (.tuple #[.int .i64 0, .int .i64 3]) ∧ w' = w := by
  go_enter Try.func34, Try.ntmps34
  go_wp2_with (go_at_call 24; refine (specKindSize_any _ _).mono ?_; rintro e w' ⟨rfl, rfl⟩; rw [hk])
  go_ret2
  exact ⟨rfl, rfl⟩
set_option maxHeartbeats 1000000 in
theorem l3Load_none (v : MV) (m : Pl.Mac) (gm : Nat) (kind at_ : Int) (size : Nat) (w : World) (hm : w.heap[gm]? = some (.cells #[.slice v.code.a v.code.len v.code.cap, .int .i64 m.pc, .slice v.regs.a v.regs.len v.regs.cap, .slice v.data.a v.data.len v.data.cap, .slice v.stk.a v.stk.len v.stk.cap, .slice v.inp.a v.inp.len v.inp.cap, .slice v.out.a v.out.len v.out.cap, .int .i64 m.steps, .int .i64 m.fin, .int .i64 m.val] 25)) (hb : -9223372036854775808 ≤ at_ ∧ at_ ≤ 9223372036854775807) (hl : v.data.len ≤ 65536) (hl' : v.stk.len ≤ 65536) (hs : 1 ≤ size ∧ size ≤ 4) (hk : Pl.ks kind = size) (ha : (at_.tmod (size : Int) != 0) = false) (hd0 : Hid (at_ < 1048576 ∨ (v.data.len : Int) - size < at_ - 1048576)) (hd1 : Hid (at_ < 2097152 - (v.stk.len : Int) ∨ (v.stk.len : Int) - size < at_ - (2097152 - (v.stk.len : Int)))) :
    Calls Try.prog 34 #[.pointer (some ⟨gm, 0, none⟩), .int .i64 kind, .int .i64 at_] w fun e w' => e = .returned (.tuple #[.int .i64 0, .int .i64 4]) ∧ w' = w := by
  have HM : Hid (w.heap[gm]? = some (.cells #[.slice v.code.a v.code.len v.code.cap, .int .i64 m.pc, .slice v.regs.a v.regs.len v.regs.cap, .slice v.data.a v.data.len v.data.cap, .slice v.stk.a v.stk.len v.stk.cap, .slice v.inp.a v.inp.len v.inp.cap, .slice v.out.a v.out.len v.out.cap, .int .i64 m.steps, .int .i64 m.fin, .int .i64 m.val] 25)) := hm
  have hs0 : ((size : Int) == 0) = false := by simp; omega
  clear hm
  go_enter Try.func34, Try.ntmps34
  go_wp2_with (first | (go_at_call 24; refine (specKindSize_any _ _).mono ?_; rintro e w' ⟨rfl, rfl⟩; rw [hk]) | (go_at_call 53; refine (spot_none v m gm _ size _ HM.out hb hl hl' hs hd0.out hd1.out).mono ?_; rintro e w' ⟨rfl, rfl⟩))
  go_ret2
  exact ⟨rfl, rfl⟩
set_option maxHeartbeats 4000000 in
theorem l3Load_data (v : MV) (m : Pl.Mac) (gm : Nat) (kind at_ : Int) (b off p size : Nat) (zs : List Int) (w : World) (hm : w.heap[gm]? = some (.cells #[.slice v.code.a v.code.len v.code.cap, .int .i64 m.pc, .slice v.regs.a v.regs.len v.regs.cap, .slice v.data.a v.data.len v.data.cap, .slice v.stk.a v.stk.len v.stk.cap, .slice v.inp.a v.inp.len v.inp.cap, .slice v.out.a v.out.len v.out.cap, .int .i64 m.steps, .int .i64 m.fin, .int .i64 m.val] 25)) (hb : -9223372036854775808 ≤ at_ ∧ at_ ≤ 9223372036854775807) (hl : v.data.len ≤ 65536) (hl' : v.stk.len ≤ 65536) (hs : 1 ≤ size ∧ size ≤ 4) (hs4 : size = 1 ∨ size = 2 ∨ size = 4) (hk : Pl.ks kind = size) (ha : (at_.tmod (size : Int) != 0) = false)  (hp : Hid (at_ = 1048576 + p)) (h2 : p + size ≤ v.data.len) (hadr : v.data.a = some ⟨b, off, none⟩)
    (HZ : Hid (∀ n ∈ zs, 0 ≤ n ∧ n ≤ 255)) (HC : Hid (∀ i, i < size → w.cell? ⟨b, off + (p + i), none⟩ = some (.int .u8 (zs.getD (p + i) 0)))) :
    Calls Try.prog 34 #[.pointer (some ⟨gm, 0, none⟩), .int .i64 kind, .int .i64 at_] w fun e w' => e = .returned (.tuple #[.int .i64 (Pl.nr kind (Pl.ldk zs p size)), .int .i64 0]) ∧ w' = w := by
  have HM : Hid (w.heap[gm]? = some (.cells #[.slice v.code.a v.code.len v.code.cap, .int .i64 m.pc, .slice v.regs.a v.regs.len v.regs.cap, .slice v.data.a v.data.len v.data.cap, .slice v.stk.a v.stk.len v.stk.cap, .slice v.inp.a v.inp.len v.inp.cap, .slice v.out.a v.out.len v.out.cap, .int .i64 m.steps, .int .i64 m.fin, .int .i64 m.val] 25)) := hm
  have hs0 : ((size : Int) == 0) = false := by simp; omega
  have km : ∀ j, w.cell? ⟨gm, j, none⟩ = (#[.slice v.code.a v.code.len v.code.cap, .int .i64 m.pc, .slice v.regs.a v.regs.len v.regs.cap, .slice v.data.a v.data.len v.data.cap, .slice v.stk.a v.stk.len v.stk.cap, .slice v.inp.a v.inp.len v.inp.cap, .slice v.out.a v.out.len v.out.cap, .int .i64 m.steps, .int .i64 m.fin, .int .i64 m.val] : Array Value)[j]? := fun j => cell_of_row w gm j _ 25 (0, 0) hm
  rw [hadr] at km
  clear hm
  rw [← Pl.upc_ldk p size hs4]
  go_enter Try.func34, Try.ntmps34
  go_wp2_with (first | (go_at_call 24; refine (specKindSize_any _ _).mono ?_; rintro e w' ⟨rfl, hw'⟩; rw [hw', hk]; clear hw') | (go_at_call 53; refine (spot_data v m gm _ p size _ HM.out hb hl hl' hs hp.out h2).mono ?_; rintro e w' ⟨rfl, hw'⟩; rw [hw']; clear hw'))
  go_loop [12, 13] (fun x i => ∃ c : Nat, c ≤ size ∧ i = .int .i64 ((size : Int) - 1 - c) ∧ x = .int .i64 (Pl.upc zs p size c)) (fun _ i => (intOf i + 1).toNat)
  case atStart => exact ⟨0, Nat.zero_le _, by simp, rfl⟩
  case round =>
    obtain ⟨c, hc, rfl, rfl⟩ := hrel
    obtain ⟨x, hx⟩ : ∃ x, x = Pl.upc zs p size c := ⟨_, rfl⟩
    have hxb := Pl.upc_bd HZ.out p size c (by omega)
    rw [← hx] at hxb ⊢
    have HX : Hid (x = Pl.upc zs p size c) := hx
    clear hx
    by_cases hlt : c < size
    · obtain ⟨q, hq⟩ : ∃ q : Nat, q = size - 1 - c := ⟨_, rfl⟩
      have hqi : (size : Int) - 1 - c = (q : Int) := by omega
      obtain ⟨y, hy⟩ : ∃ y, y = zs.getD (p + q) 0 := ⟨_, rfl⟩
      have hcell : w.cell? ⟨b, off + (p + q), none⟩ = some (.int .u8 y) := by rw [hy]; exact HC.out q (by omega)
      have hyb := Pl.byte_at HZ.out (p + q)
      rw [← hy] at hyb
      have HS : Hid (Pl.upc zs p size (c + 1) = x * 256 + y) := by show Pl.upc zs p size (c + 1) = _; rw [HX.out, hy, hq]; rfl
      have HQ : Hid (q = size - 1 - c) := hq
      have hqb : q < size := by omega
      rw [hqi]
      clear hy hq hqi
      go_wp2
      go_round
      case rel => exact ⟨c + 1, by omega, congrArg (Value.int .i64) (by have := HQ.out; omega), congrArg (Value.int .i64) HS.out.symm⟩
      case measure => simp [intOf]
    · have hce : c = size := by omega
      subst hce
      have hx' : (c : Int) - 1 - c = -1 := by omega
      rw [hx']
      rw [HX.out]
      go_wp2_with (go_at_call 11; refine (specNarrow_any _ _ _).mono ?_; rintro e w' ⟨rfl, rfl⟩)
      go_ret2
      exact ⟨rfl, rfl⟩
set_option maxHeartbeats 4000000 in
theorem l3Load_stack (v : MV) (m : Pl.Mac) (gm : Nat) (kind at_ : Int) (b off p size : Nat) (zs : List Int) (w : World) (hm : w.heap[gm]? = some (.cells #[.slice v.code.a v.code.len v.code.cap, .int .i64 m.pc, .slice v.regs.a v.regs.len v.regs.cap, .slice v.data.a v.data.len v.data.cap, .slice v.stk.a v.stk.len v.stk.cap, .slice v.inp.a v.inp.len v.inp.cap, .slice v.out.a v.out.len v.out.cap, .int .i64 m.steps, .int .i64 m.fin, .int .i64 m.val] 25)) (hb : -9223372036854775808 ≤ at_ ∧ at_ ≤ 9223372036854775807) (hl : v.data.len ≤ 65536) (hl' : v.stk.len ≤ 65536) (hs : 1 ≤ size ∧ size ≤ 4) (hs4 : size = 1 ∨ size = 2 ∨ size = 4) (hk : Pl.ks kind = size) (ha : (at_.tmod (size : Int) != 0) = false) (hd0 : Hid (at_ < 1048576 ∨ (v.data.len : Int) - size < at_ - 1048576)) (hp : Hid (at_ = 2097152 - (v.stk.len : Int) + p)) (h2 : p + size ≤ v.stk.len) (hadr : v.stk.a = some ⟨b, off, none⟩)
    (HZ : Hid (∀ n ∈ zs, 0 ≤ n ∧ n ≤ 255)) (HC : Hid (∀ i, i < size → w.cell? ⟨b, off + (p + i), none⟩ = some (.int .u8 (zs.getD (p + i) 0)))) :
    Calls Try.prog 34 #[.pointer (some ⟨gm, 0, none⟩), .int .i64 kind, .int .i64 at_] w fun e w' => e = .returned (.tuple #[.int .i64 (Pl.nr kind (Pl.ldk zs p size)), .int .i64 0]) ∧ w' = w := by
  have HM : Hid (w.heap[gm]? = some (.cells #[.slice v.code.a v.code.len v.code.cap, .int .i64 m.pc, .slice v.regs.a v.regs.len v.regs.cap, .slice v.data.a v.data.len v.data.cap, .slice v.stk.a v.stk.len v.stk.cap, .slice v.inp.a v.inp.len v.inp.cap, .slice v.out.a v.out.len v.out.cap, .int .i64 m.steps, .int .i64 m.fin, .int .i64 m.val] 25)) := hm
  have hs0 : ((size : Int) == 0) = false := by simp; omega
  have km : ∀ j, w.cell? ⟨gm, j, none⟩ = (#[.slice v.code.a v.code.len v.code.cap, .int .i64 m.pc, .slice v.regs.a v.regs.len v.regs.cap, .slice v.data.a v.data.len v.data.cap, .slice v.stk.a v.stk.len v.stk.cap, .slice v.inp.a v.inp.len v.inp.cap, .slice v.out.a v.out.len v.out.cap, .int .i64 m.steps, .int .i64 m.fin, .int .i64 m.val] : Array Value)[j]? := fun j => cell_of_row w gm j _ 25 (0, 0) hm
  rw [hadr] at km
  clear hm
  rw [← Pl.upc_ldk p size hs4]
  go_enter Try.func34, Try.ntmps34
  go_wp2_with (first | (go_at_call 24; refine (specKindSize_any _ _).mono ?_; rintro e w' ⟨rfl, hw'⟩; rw [hw', hk]; clear hw') | (go_at_call 53; refine (spot_stack v m gm _ p size _ HM.out hb hl hl' hs hd0.out hp.out h2).mono ?_; rintro e w' ⟨rfl, hw'⟩; rw [hw']; clear hw'))
  go_loop [12, 13] (fun x i => ∃ c : Nat, c ≤ size ∧ i = .int .i64 ((size : Int) - 1 - c) ∧ x = .int .i64 (Pl.upc zs p size c)) (fun _ i => (intOf i + 1).toNat)
  case atStart => exact ⟨0, Nat.zero_le _, by simp, rfl⟩
  case round =>
    obtain ⟨c, hc, rfl, rfl⟩ := hrel
    obtain ⟨x, hx⟩ : ∃ x, x = Pl.upc zs p size c := ⟨_, rfl⟩
    have hxb := Pl.upc_bd HZ.out p size c (by omega)
    rw [← hx] at hxb ⊢
    have HX : Hid (x = Pl.upc zs p size c) := hx
    clear hx
    by_cases hlt : c < size
    · obtain ⟨q, hq⟩ : ∃ q : Nat, q = size - 1 - c := ⟨_, rfl⟩
      have hqi : (size : Int) - 1 - c = (q : Int) := by omega
      obtain ⟨y, hy⟩ : ∃ y, y = zs.getD (p + q) 0 := ⟨_, rfl⟩
      have hcell : w.cell? ⟨b, off + (p + q), none⟩ = some (.int .u8 y) := by rw [hy]; exact HC.out q (by omega)
      have hyb := Pl.byte_at HZ.out (p + q)
      rw [← hy] at hyb
      have HS : Hid (Pl.upc zs p size (c + 1) = x * 256 + y) := by show Pl.upc zs p size (c + 1) = _; rw [HX.out, hy, hq]; rfl
      have HQ : Hid (q = size - 1 - c) := hq
      have hqb : q < size := by omega
      rw [hqi]
      clear hy hq hqi
      go_wp2
      go_round
      case rel => exact ⟨c + 1, by omega, congrArg (Value.int .i64) (by have := HQ.out; omega), congrArg (Value.int .i64) HS.out.symm⟩
      case measure => simp [intOf]
    · have hce : c = size := by omega
      subst hce
      have hx' : (c : Int) - 1 - c = -1 := by omega
      rw [hx']
      rw [HX.out]
      go_wp2_with (go_at_call 11; refine (specNarrow_any _ _ _).mono ?_; rintro e w' ⟨rfl, rfl⟩)
      go_ret2
      exact ⟨rfl, rfl⟩
end Go.Proofs.Ytfcfnbncgadomaa.W
namespace Go.Proofs.Ytfcfnbncgadomaa.Pl
/-- the first k bytes of a number laid at a place -/
def stk_ (zs : List Int) (p : Nat) (x : Int) : Nat → List Int
  | 0 => zs
  | k + 1 => (stk_ zs p x k).set (p + k) (x / pw (8 * k) % 256)
theorem stk_length (zs : List Int) (p : Nat) (x : Int) : ∀ k, (stk_ zs p x k).length = zs.length
  | 0 => rfl
  | k + 1 => by unfold stk_; rw [List.length_set]; exact stk_length zs p x k
theorem stk_bytes {zs : List Int} (hz : ∀ n ∈ zs, 0 ≤ n ∧ n ≤ 255) (p : Nat) (x : Int) : ∀ k, ∀ n ∈ stk_ zs p x k, 0 ≤ n ∧ n ≤ 255
  | 0 => hz
  | k + 1 => by
    intro n hn
    unfold stk_ at hn
    rcases List.mem_or_eq_of_mem_set hn with h | h
    · exact stk_bytes hz p x k n h
    · subst h; omega
end Go.Proofs.Ytfcfnbncgadomaa.Pl
namespace Go.Proofs.Ytfcfnbncgadomaa.W
open Go.RowKit
set_option maxHeartbeats 1000000 in
theorem store_bad (da sa : Option Addr) (dl dc sl sc : Nat) (kind at_ x code : Int) (w : World)
    (HF : Hid (∀ W, Calls Try.prog 61 #[.agg #[.iface 88 (.slice da dl dc), .iface 89 (.slice sa sl sc)], .int .i64 kind, .int .i64 at_] W fun e w' => e = .panicked [{ v := .iface 87 (.int .i64 code), recovered := false }] ∧ Below W.heap.size W w')) :
    Calls Try.prog 31 #[.agg #[.iface 88 (.slice da dl dc), .iface 89 (.slice sa sl sc)], .int .i64 kind, .int .i64 at_, .int .i64 x] w fun e w' => e = .panicked [{ v := .iface 87 (.int .i64 code), recovered := false }] ∧ Below w.heap.size w w' := by
  have P0 : Hid ((w.alloc (.cells #[.iface 88 (.slice da dl dc), .iface 89 (.slice sa sl sc)] 60)).heap[w.heap.size]? = some (.cells #[.iface 88 (.slice da dl dc), .iface 89 (.slice sa sl sc)] 60)) := heap_alloc_new w _
  go_enter Try.func31, Try.ntmps31
  go_wp2_with (refine wpList_load_row rfl 60 _ rfl (w.heap.size) ?hx 60 #[.iface 88 (.slice da dl dc), .iface 89 (.slice sa sl sc)] (0, 0) _ ?hg Try.underlying60 ?hd ?hi ?_; (case hx => rfl); (case hg => exact P0.out); (case hd => rfl); (case hi => kernel_rfl))
  refine (HF.out _).mono ?_
  rintro e u1 ⟨rfl, d1⟩
  go_wp2_with fail
  exact ⟨rfl, rfl, (below_alloc w _).trans (d1.mono (by simp))⟩
theorem wf_u8 {n : Int} (h : 0 ≤ n ∧ n ≤ 255) : (Lit.int .u8 n).wf = true := by
  simp [Lit.wf, IntKind.min, IntKind.max, IntKind.signed, IntKind.bits]
  omega
set_option maxHeartbeats 4000000 in
theorem store_good {lo : Nat} (da sa : Option Addr) (dl dc sl sc : Nat) (kind at_ x : Int) (g p size cap c0 len : Nat) (zs : List Int) (hs : 1 ≤ size ∧ size ≤ 4) (hx : -9223372036854775808 ≤ x ∧ x ≤ 9223372036854775807) (hp : p + size ≤ len) (hcap : c0 ≤ 9223372036854775807) (w : World) (hz : ∀ n ∈ zs, 0 ≤ n ∧ n ≤ 255)
    (ho : Own .u8 5 lo w (some ⟨g, 0, none⟩) len cap zs)
    (HF : Hid (∀ W, Calls Try.prog 61 #[.agg #[.iface 88 (.slice da dl dc), .iface 89 (.slice sa sl sc)], .int .i64 kind, .int .i64 at_] W fun e w' => e = .returned (.slice (some ⟨g, 0 + p, none⟩) size c0) ∧ Below W.heap.size W w')) :
    Calls Try.prog 31 #[.agg #[.iface 88 (.slice da dl dc), .iface 89 (.slice sa sl sc)], .int .i64 kind, .int .i64 at_, .int .i64 x] w fun e w' => e = .returned (.tuple #[]) ∧ ∃ u, Below w.heap.size w u ∧ Touch (some ⟨g, 0, none⟩) u w' ∧ Own .u8 5 lo w' (some ⟨g, 0, none⟩) len cap (Pl.stk_ zs p x size) := by
  have P0 : Hid ((w.alloc (.cells #[.iface 88 (.slice da dl dc), .iface 89 (.slice sa sl sc)] 60)).heap[w.heap.size]? = some (.cells #[.iface 88 (.slice da dl dc), .iface 89 (.slice sa sl sc)] 60)) := heap_alloc_new w _
  have HO : Hid (Own .u8 5 lo w (some ⟨g, 0, none⟩) len cap zs) := ho
  have HZ : Hid (∀ n ∈ zs, 0 ≤ n ∧ n ≤ 255) := hz
  have HL : Hid (zs.length = len) := ho.row.1
  clear ho hz
  go_enter Try.func31, Try.ntmps31
  go_wp2_with (refine wpList_load_row rfl 60 _ rfl (w.heap.size) ?hx 60 #[.iface 88 (.slice da dl dc), .iface 89 (.slice sa sl sc)] (0, 0) _ ?hg Try.underlying60 ?hd ?hi ?_; (case hx => rfl); (case hg => exact P0.out); (case hd => rfl); (case hi => kernel_rfl))
  refine (HF.out _).mono ?_
  rintro e u1 ⟨rfl, d1⟩
  have B1 : Hid (Below w.heap.size w u1) := (below_alloc w _).trans (d1.mono (by simp))
  clear d1 P0 HF
  have HO1 : Hid (u1.ownsRow lo 5 1 (.slice (some ⟨g, 0, none⟩) len cap) len (zs.map (Value.int .u8))) := (HO.out.keep B1.out).1
  clear HO
  rw [Nat.zero_add]
  go_wp2_with fail
  go_loopw [16] (fun i wr => ∃ j : Nat, j ≤ size ∧ i = .int .i64 j ∧ wr.ownsRow lo 5 1 (.slice (some ⟨g, 0, none⟩) len cap) len ((Pl.stk_ zs p x j).map (Value.int .u8)) ∧ Touch (some ⟨g, 0, none⟩) u1 wr) (fun i _ => size - (intOf i).toNat)
  case atStart => exact ⟨0, Nat.zero_le _, rfl, HO1.out, Touch.refl _ _⟩
  case round =>
    obtain ⟨j, hj, rfl, hw, ht⟩ := hrel
    clear HO1
    have HW : Hid (wr.ownsRow lo 5 1 (.slice (some ⟨g, 0, none⟩) len cap) len ((Pl.stk_ zs p x j).map (Value.int .u8))) := hw
    have HT : Hid (Touch (some ⟨g, 0, none⟩) u1 wr) := ht
    clear hw ht
    by_cases hlt : j < size
    · have hfz : wr.frozen? ⟨g, p + j, none⟩ = false := HW.out.frozenAt (p + j)
      obtain ⟨y, hy⟩ : ∃ y, wr.cell? ⟨g, p + j, none⟩ = some (.int .u8 y) := by
        have := HW.out.cellAt (p + j) (by omega)
        rw [List.getElem?_map, List.getElem?_eq_getElem (by rw [Pl.stk_length]; have := HL.out; omega)] at this
        exact ⟨_, this⟩
      have HS := HW.out.stored (p + j) (.int .u8 (x / Pl.pw (8 * j) % 256))
      have HS' : Hid ((wr.setCell ⟨g, p + j, none⟩ (.int .u8 (x / Pl.pw (8 * j) % 256))).ownsRow lo 5 1 (.slice (some ⟨g, 0, none⟩) len cap) len ((Pl.stk_ zs p x (j + 1)).map (Value.int .u8))) := by
        have h := HS.1
        rw [← List.map_set] at h
        exact h
      clear HS
      rcases (show j = 0 ∨ j = 1 ∨ j = 2 ∨ j = 3 by omega) with rfl | rfl | rfl | rfl
      · rw [show Pl.pw (8 * 0) = 1 from by decide] at HS'
        rw [Nat.add_zero] at hfz hy HS'
        rw [Int.ediv_one] at HS'
        go_wp2
        go_roundw
        case rel => exact ⟨1, by omega, rfl, HS'.out, HT.out.setCell rfl _⟩
        case measure => simp [intOf]; omega
      · rw [show Pl.pw (8 * 1) = 256 from by decide] at HS'
        go_wp2
        go_roundw
        case rel => exact ⟨2, by omega, rfl, HS'.out, HT.out.setCell rfl _⟩
        case measure => simp [intOf]; omega
      · rw [show Pl.pw (8 * 2) = 65536 from by decide] at HS'
        go_wp2
        go_roundw
        case rel => exact ⟨3, by omega, rfl, HS'.out, HT.out.setCell rfl _⟩
        case measure => simp [intOf]; omega
      · rw [show Pl.pw (8 * 3) = 16777216 from by decide] at HS'
        go_wp2
        go_roundw
        case rel => exact ⟨4, by omega, rfl, HS'.out, HT.out.setCell rfl _⟩
        case measure => simp [intOf]; omega
    · have hje : j = size := by omega
      subst hje
      go_wp2
      go_end0
      exact ⟨rfl, u1, B1.out, HT.out, HW.out, fun n hn => wf_u8 (Pl.stk_bytes HZ.out p x _ n hn)⟩
end Go.Proofs.Ytfcfnbncgadomaa.W
namespace Go.Proofs.Ytfcfnbncgadomaa.Pl
theorem pw_eight (j : Nat) : pw (8 * (j + 1)) = pw (8 * j) * 256 := by
  have : 8 * (j + 1) = 8 * j + 8 := by omega
  rw [this]
  simp only [pw, Int.pow_add]
  rfl
theorem stk_wd (zs : List Int) (p : Nat) (x : Int) : ∀ k, k ≤ 4 → stk_ zs p (wd x) k = stk_ zs p x k
  | 0, _ => rfl
  | k + 1, h => by
    unfold stk_
    rw [stk_wd zs p x k (by omega)]
    have e : wd x / pw (8 * k) % 256 = x / pw (8 * k) % 256 := by
      have e0 : wd x = x % 4294967296 := rfl
      rcases (show k = 0 ∨ k = 1 ∨ k = 2 ∨ k = 3 by omega) with rfl | rfl | rfl | rfl
      · rw [show pw (8 * 0) = 1 from by decide, e0]; omega
      · rw [show pw (8 * 1) = 256 from by decide, e0]; omega
      · rw [show pw (8 * 2) = 65536 from by decide, e0]; omega
      · rw [show pw (8 * 3) = 16777216 from by decide, e0]; omega
    rw [e]
end Go.Proofs.Ytfcfnbncgadomaa.Pl
namespace Go.Proofs.Ytfcfnbncgadomaa.W
open Go.RowKit
set_option maxHeartbeats 1000000 in
theorem l3Store_align (gm : Nat) (kind at_ x : Int) (size : Nat) (hs : 1 ≤ size ∧ size ≤ 4) (hk : Pl.ks kind = size) (ha : (at_.tmod (size : Int) != 0) = true) (w : World) :
    Calls Try.prog 25 #[.pointer (some ⟨gm, 0, none⟩), .int .i64 kind, .int .i64 at_, .int .i64 x] w fun e w' => e = .returned (.int .i64 3) ∧ w' = w := by
  go_enter Try.func25, Try.ntmps25
  go_wp2_with (go_at_call 24; refine (specKindSize_any _ _).mono ?_; rintro e w' ⟨rfl, rfl⟩; rw [hk])
  go_ret
  exact ⟨rfl, rfl⟩
set_option maxHeartbeats 1000000 in
theorem l3Store_none (v : MV) (m : Pl.Mac) (gm : Nat) (kind at_ x : Int) (size : Nat) (w : World) (hm : w.heap[gm]? = some (.cells #[.slice v.code.a v.code.len v.code.cap, .int .i64 m.pc, .slice v.regs.a v.regs.len v.regs.cap, .slice v.data.a v.data.len v.data.cap, .slice v.stk.a v.stk.len v.stk.cap, .slice v.inp.a v.inp.len v.inp.cap, .slice v.out.a v.out.len v.out.cap, .int .i64 m.steps, .int .i64 m.fin, .int .i64 m.val] 25)) (hb : -9223372036854775808 ≤ at_ ∧ at_ ≤ 9223372036854775807) (hl : v.data.len ≤ 65536) (hl' : v.stk.len ≤ 65536) (hs : 1 ≤ size ∧ size ≤ 4) (hk : Pl.ks kind = size) (ha : (at_.tmod (size : Int) != 0) = false) (hd0 : Hid (at_ < 1048576 ∨ (v.data.len : Int) - size < at_ - 1048576)) (hd1 : Hid (at_ < 2097152 - (v.stk.len : Int) ∨ (v.stk.len : Int) - size < at_ - (2097152 - (v.stk.len : Int)))) :
    Calls Try.prog 25 #[.pointer (some ⟨gm, 0, none⟩), .int .i64 kind, .int .i64 at_, .int .i64 x] w fun e w' => e = .returned (.int .i64 4) ∧ w' = w := by
  have HM : Hid (w.heap[gm]? = some (.cells #[.slice v.code.a v.code.len v.code.cap, .int .i64 m.pc, .slice v.regs.a v.regs.len v.regs.cap, .slice v.data.a v.data.len v.data.cap, .slice v.stk.a v.stk.len v.stk.cap, .slice v.inp.a v.inp.len v.inp.cap, .slice v.out.a v.out.len v.out.cap, .int .i64 m.steps, .int .i64 m.fin, .int .i64 m.val] 25)) := hm
  have hs0 : ((size : Int) == 0) = false := by simp; omega
  clear hm
  go_enter Try.func25, Try.ntmps25
  go_wp2_with (first | (go_at_call 24; refine (specKindSize_any _ _).mono ?_; rintro e w' ⟨rfl, rfl⟩; rw [hk]) | (go_at_call 53; refine (spot_none v m gm _ size _ HM.out hb hl hl' hs hd0.out hd1.out).mono ?_; rintro e w' ⟨rfl, rfl⟩))
  go_ret
  exact ⟨rfl, rfl⟩
set_option maxHeartbeats 4000000 in
theorem l3Store_data {lo : Nat} (v : MV) (m : Pl.Mac) (gm : Nat) (kind at_ x : Int) (g p size : Nat) (zs : List Int) (w : World) (hm : w.heap[gm]? = some (.cells #[.slice v.code.a v.code.len v.code.cap, .int .i64 m.pc, .slice v.regs.a v.regs.len v.regs.cap, .slice v.data.a v.data.len v.data.cap, .slice v.stk.a v.stk.len v.stk.cap, .slice v.inp.a v.inp.len v.inp.cap, .slice v.out.a v.out.len v.out.cap, .int .i64 m.steps, .int .i64 m.fin, .int .i64 m.val] 25)) (hb : -9223372036854775808 ≤ at_ ∧ at_ ≤ 9223372036854775807) (hl : v.data.len ≤ 65536) (hl' : v.stk.len ≤ 65536) (hs : 1 ≤ size ∧ size ≤ 4) (hk : Pl.ks kind = size) (ha : (at_.tmod (size : Int) != 0) = false)  (hp : Hid (at_ = 1048576 + p)) (h2 : p + size ≤ v.data.len) (hadr : v.data.a = some ⟨g, 0, none⟩) (hne : gm ≠ g)
    (HZ : Hid (∀ n ∈ zs, 0 ≤ n ∧ n ≤ 255)) (ho : Own .u8 5 lo w v.data.a v.data.len v.data.cap zs) :
    Calls Try.prog 25 #[.pointer (some ⟨gm, 0, none⟩), .int .i64 kind, .int .i64 at_, .int .i64 x] w fun e w' => e = .returned (.int .i64 0) ∧ Own .u8 5 lo w' v.data.a v.data.len v.data.cap (Pl.stk_ zs p x size) ∧ Touch v.data.a w w' := by
  have HL : Hid (zs.length = v.data.len) := ho.row.1
  rw [hadr] at ho ⊢
  have HO : Hid (w.ownsRow lo 5 1 (.slice (some ⟨g, 0, none⟩) v.data.len v.data.cap) v.data.len (zs.map (Value.int .u8))) := ho.1
  have HM : Hid (w.heap[gm]? = some (.cells #[.slice v.code.a v.code.len v.code.cap, .int .i64 m.pc, .slice v.regs.a v.regs.len v.regs.cap, .slice v.data.a v.data.len v.data.cap, .slice v.stk.a v.stk.len v.stk.cap, .slice v.inp.a v.inp.len v.inp.cap, .slice v.out.a v.out.len v.out.cap, .int .i64 m.steps, .int .i64 m.fin, .int .i64 m.val] 25)) := hm
  have HA : Hid (v.data.a = some ⟨g, 0, none⟩) := hadr
  have hs0 : ((size : Int) == 0) = false := by simp; omega
  have HNE : Hid (gm ≠ g) := hne
  clear ho hm hne
  rw [← Pl.stk_wd zs p x size hs.2]
  obtain ⟨z, hz⟩ : ∃ z, z = Pl.wd x := ⟨_, rfl⟩
  have hzb := Pl.wd_bd x
  rw [← hz] at hzb ⊢
  have HX : Hid (z = Pl.wd x) := hz
  clear hz hadr
  have w0n : ∃ w0, w0 = w := ⟨w, rfl⟩
  obtain ⟨w0, hw0⟩ := w0n
  rw [← hw0] at HO HM ⊢
  clear hw0
  go_enter Try.func25, Try.ntmps25
  go_wp2_with (first | (go_at_call 24; refine (specKindSize_any _ _).mono ?_; rintro e w' ⟨rfl, hw'⟩; rw [hw', hk]; clear hw') | (go_at_call 53; refine (spot_data v m gm _ p size _ HM.out hb hl hl' hs hp.out h2).mono ?_; rintro e w' ⟨rfl, hw'⟩; rw [hw']; clear hw') | (go_at_call 38; refine (specWord_any _ _).mono ?_; rintro e w' ⟨rfl, hw'⟩; rw [hw', ← HX.out]; clear hw'))
  go_loopw [3, 12] (fun y i wr => ∃ j : Nat, j ≤ size ∧ i = .int .i64 j ∧ y = .int .i64 (z / Pl.pw (8 * j)) ∧ wr.ownsRow lo 5 1 (.slice (some ⟨g, 0, none⟩) v.data.len v.data.cap) v.data.len ((Pl.stk_ zs p z j).map (Value.int .u8)) ∧ Touch (some ⟨g, 0, none⟩) w0 wr) (fun _ i _ => size - (intOf i).toNat)
  case atStart => exact ⟨0, Nat.zero_le _, rfl, by rw [show Pl.pw (8 * 0) = 1 from by decide, Int.ediv_one], HO.out, Touch.refl _ _⟩
  case round =>
    obtain ⟨j, hj, rfl, rfl, hw, ht⟩ := hrel
    have HW : Hid (wr.ownsRow lo 5 1 (.slice (some ⟨g, 0, none⟩) v.data.len v.data.cap) v.data.len ((Pl.stk_ zs p z j).map (Value.int .u8))) := hw
    have HT : Hid (Touch (some ⟨g, 0, none⟩) w0 wr) := ht
    have km : ∀ j, wr.cell? ⟨gm, j, none⟩ = (#[.slice v.code.a v.code.len v.code.cap, .int .i64 m.pc, .slice v.regs.a v.regs.len v.regs.cap, .slice v.data.a v.data.len v.data.cap, .slice v.stk.a v.stk.len v.stk.cap, .slice v.inp.a v.inp.len v.inp.cap, .slice v.out.a v.out.len v.out.cap, .int .i64 m.steps, .int .i64 m.fin, .int .i64 m.val] : Array Value)[j]? := fun j => cell_of_row wr gm j _ 25 (0, 0) ((ht.block gm (fun ad had => by simp at had; subst had; exact HNE.out)).trans HM.out)
    rw [HA.out] at km
    clear hw ht HO
    obtain ⟨y, hy⟩ : ∃ y, y = z / Pl.pw (8 * j) := ⟨_, rfl⟩
    have hyb : 0 ≤ y ∧ y ≤ 4294967295 := by
      have p1 := Pl.pw_pos (8 * j)
      have a1 : 0 ≤ z / Pl.pw (8 * j) := Int.ediv_nonneg hzb.1 (by omega)
      have a2 := Int.ediv_le_self (Pl.pw (8 * j)) hzb.1
      rw [hy]; omega
    have HN : Hid (z / Pl.pw (8 * (j + 1)) = y / 256) := by
      show z / Pl.pw (8 * (j + 1)) = y / 256
      rw [hy, Pl.pw_eight, Int.ediv_ediv_of_nonneg (Int.le_of_lt (Pl.pw_pos _))]
    rw [← hy]
    by_cases hlt : j < size
    · have hfz : wr.frozen? ⟨g, p + j, none⟩ = false := HW.out.frozenAt (p + j)
      obtain ⟨c, hc⟩ : ∃ c, wr.cell? ⟨g, p + j, none⟩ = some (.int .u8 c) := by
        have := HW.out.cellAt (p + j) (by omega)
        rw [List.getElem?_map, List.getElem?_eq_getElem (by rw [Pl.stk_length]; have := HL.out; omega)] at this
        exact ⟨_, this⟩
      have HS : Hid ((wr.setCell ⟨g, p + j, none⟩ (.int .u8 (y % 256))).ownsRow lo 5 1 (.slice (some ⟨g, 0, none⟩) v.data.len v.data.cap) v.data.len ((Pl.stk_ zs p z (j + 1)).map (Value.int .u8))) := by
        have h := (HW.out.stored (p + j) (.int .u8 (z / Pl.pw (8 * j) % 256))).1
        rw [← List.map_set, ← hy] at h
        show World.ownsRow _ _ _ _ _ _ _
        unfold Pl.stk_
        rw [← hy]
        exact h
      clear hy
      go_wp2
      go_roundw
      case rel => exact ⟨j + 1, by omega, by go_num, congrArg (Value.int .i64) HN.out.symm, HS.out, HT.out.setCell rfl _⟩
      case measure => simp [intOf]; omega
    · have hje : j = size := by omega
      subst hje
      go_wp2
      go_ret
      exact ⟨rfl, ⟨HW.out, fun n hn => wf_u8 (Pl.stk_bytes HZ.out p z _ n hn)⟩, HT.out⟩
set_option maxHeartbeats 4000000 in
theorem l3Store_stack {lo : Nat} (v : MV) (m : Pl.Mac) (gm : Nat) (kind at_ x : Int) (g p size : Nat) (zs : List Int) (w : World) (hm : w.heap[gm]? = some (.cells #[.slice v.code.a v.code.len v.code.cap, .int .i64 m.pc, .slice v.regs.a v.regs.len v.regs.cap, .slice v.data.a v.data.len v.data.cap, .slice v.stk.a v.stk.len v.stk.cap, .slice v.inp.a v.inp.len v.inp.cap, .slice v.out.a v.out.len v.out.cap, .int .i64 m.steps, .int .i64 m.fin, .int .i64 m.val] 25)) (hb : -9223372036854775808 ≤ at_ ∧ at_ ≤ 9223372036854775807) (hl : v.data.len ≤ 65536) (hl' : v.stk.len ≤ 65536) (hs : 1 ≤ size ∧ size ≤ 4) (hk : Pl.ks kind = size) (ha : (at_.tmod (size : Int) != 0) = false) (hd0 : Hid (at_ < 1048576 ∨ (v.data.len : Int) - size < at_ - 1048576)) (hp : Hid (at_ = 2097152 - (v.stk.len : Int) + p)) (h2 : p + size ≤ v.stk.len) (hadr : v.stk.a = some ⟨g, 0, none⟩) (hne : gm ≠ g)
    (HZ : Hid (∀ n ∈ zs, 0 ≤ n ∧ n ≤ 255)) (ho : Own .u8 5 lo w v.stk.a v.stk.len v.stk.cap zs) :
    Calls Try.prog 25 #[.pointer (some ⟨gm, 0, none⟩), .int .i64 kind, .int .i64 at_, .int .i64 x] w fun e w' => e = .returned (.int .i64 0) ∧ Own .u8 5 lo w' v.stk.a v.stk.len v.stk.cap (Pl.stk_ zs p x size) ∧ Touch v.stk.a w w' := by
  have HL : Hid (zs.length = v.stk.len) := ho.row.1
  rw [hadr] at ho ⊢
  have HO : Hid (w.ownsRow lo 5 1 (.slice (some ⟨g, 0, none⟩) v.stk.len v.stk.cap) v.stk.len (zs.map (Value.int .u8))) := ho.1
  have HM : Hid (w.heap[gm]? = some (.cells #[.slice v.code.a v.code.len v.code.cap, .int .i64 m.pc, .slice v.regs.a v.regs.len v.regs.cap, .slice v.data.a v.data.len v.data.cap, .slice v.stk.a v.stk.len v.stk.cap, .slice v.inp.a v.inp.len v.inp.cap, .slice v.out.a v.out.len v.out.cap, .int .i64 m.steps, .int .i64 m.fin, .int .i64 m.val] 25)) := hm
  have HA : Hid (v.stk.a = some ⟨g, 0, none⟩) := hadr
  have hs0 : ((size : Int) == 0) = false := by simp; omega
  have HNE : Hid (gm ≠ g) := hne
  clear ho hm hne
  rw [← Pl.stk_wd zs p x size hs.2]
  obtain ⟨z, hz⟩ : ∃ z, z = Pl.wd x := ⟨_, rfl⟩
  have hzb := Pl.wd_bd x
  rw [← hz] at hzb ⊢
  have HX : Hid (z = Pl.wd x) := hz
  clear hz hadr
  have w0n : ∃ w0, w0 = w := ⟨w, rfl⟩
  obtain ⟨w0, hw0⟩ := w0n
  rw [← hw0] at HO HM ⊢
  clear hw0
  go_enter Try.func25, Try.ntmps25
  go_wp2_with (first | (go_at_call 24; refine (specKindSize_any _ _).mono ?_; rintro e w' ⟨rfl, hw'⟩; rw [hw', hk]; clear hw') | (go_at_call 53; refine (spot_stack v m gm _ p size _ HM.out hb hl hl' hs hd0.out hp.out h2).mono ?_; rintro e w' ⟨rfl, hw'⟩; rw [hw']; clear hw') | (go_at_call 38; refine (specWord_any _ _).mono ?_; rintro e w' ⟨rfl, hw'⟩; rw [hw', ← HX.out]; clear hw'))
  go_loopw [3, 12] (fun y i wr => ∃ j : Nat, j ≤ size ∧ i = .int .i64 j ∧ y = .int .i64 (z / Pl.pw (8 * j)) ∧ wr.ownsRow lo 5 1 (.slice (some ⟨g, 0, none⟩) v.stk.len v.stk.cap) v.stk.len ((Pl.stk_ zs p z j).map (Value.int .u8)) ∧ Touch (some ⟨g, 0, none⟩) w0 wr) (fun _ i _ => size - (intOf i).toNat)
  case atStart => exact ⟨0, Nat.zero_le _, rfl, by rw [show Pl.pw (8 * 0) = 1 from by decide, Int.ediv_one], HO.out, Touch.refl _ _⟩
  case round =>
    obtain ⟨j, hj, rfl, rfl, hw, ht⟩ := hrel
    have HW : Hid (wr.ownsRow lo 5 1 (.slice (some ⟨g, 0, none⟩) v.stk.len v.stk.cap) v.stk.len ((Pl.stk_ zs p z j).map (Value.int .u8))) := hw
    have HT : Hid (Touch (some ⟨g, 0, none⟩) w0 wr) := ht
    have km : ∀ j, wr.cell? ⟨gm, j, none⟩ = (#[.slice v.code.a v.code.len v.code.cap, .int .i64 m.pc, .slice v.regs.a v.regs.len v.regs.cap, .slice v.data.a v.data.len v.data.cap, .slice v.stk.a v.stk.len v.stk.cap, .slice v.inp.a v.inp.len v.inp.cap, .slice v.out.a v.out.len v.out.cap, .int .i64 m.steps, .int .i64 m.fin, .int .i64 m.val] : Array Value)[j]? := fun j => cell_of_row wr gm j _ 25 (0, 0) ((ht.block gm (fun ad had => by simp at had; subst had; exact HNE.out)).trans HM.out)
    rw [HA.out] at km
    clear hw ht HO
    obtain ⟨y, hy⟩ : ∃ y, y = z / Pl.pw (8 * j) := ⟨_, rfl⟩
    have hyb : 0 ≤ y ∧ y ≤ 4294967295 := by
      have p1 := Pl.pw_pos (8 * j)
      have a1 : 0 ≤ z / Pl.pw (8 * j) := Int.ediv_nonneg hzb.1 (by omega)
      have a2 := Int.ediv_le_self (Pl.pw (8 * j)) hzb.1
      rw [hy]; omega
    have HN : Hid (z / Pl.pw (8 * (j + 1)) = y / 256) := by
      show z / Pl.pw (8 * (j + 1)) = y / 256
      rw [hy, Pl.pw_eight, Int.ediv_ediv_of_nonneg (Int.le_of_lt (Pl.pw_pos _))]
    rw [← hy]
    by_cases hlt : j < size
    · have hfz : wr.frozen? ⟨g, p + j, none⟩ = false := HW.out.frozenAt (p + j)
      obtain ⟨c, hc⟩ : ∃ c, wr.cell? ⟨g, p + j, none⟩ = some (.int .u8 c) := by
        have := HW.out.cellAt (p + j) (by omega)
        rw [List.getElem?_map, List.getElem?_eq_getElem (by rw [Pl.stk_length]; have := HL.out; omega)] at this
        exact ⟨_, this⟩
      have HS : Hid ((wr.setCell ⟨g, p + j, none⟩ (.int .u8 (y % 256))).ownsRow lo 5 1 (.slice (some ⟨g, 0, none⟩) v.stk.len v.stk.cap) v.stk.len ((Pl.stk_ zs p z (j + 1)).map (Value.int .u8))) := by
        have h := (HW.out.stored (p + j) (.int .u8 (z / Pl.pw (8 * j) % 256))).1
        rw [← List.map_set, ← hy] at h
        show World.ownsRow _ _ _ _ _ _ _
        unfold Pl.stk_
        rw [← hy]
        exact h
      clear hy
      go_wp2
      go_roundw
      case rel => exact ⟨j + 1, by omega, by go_num, congrArg (Value.int .i64) HN.out.symm, HS.out, HT.out.setCell rfl _⟩
      case measure => simp [intOf]; omega
    · have hje : j = size := by omega
      subst hje
      go_wp2
      go_ret
      exact ⟨rfl, ⟨HW.out, fun n hn => wf_u8 (Pl.stk_bytes HZ.out p z _ n hn)⟩, HT.out⟩
end Go.Proofs.Ytfcfnbncgadomaa.W
namespace Go.Proofs.Ytfcfnbncgadomaa.Pl
abbrev inD (m : Mac) (at_ : Int) (sz : Nat) : Prop := 1048576 ≤ at_ ∧ at_ - 1048576 + sz ≤ m.data.length
abbrev inS (m : Mac) (at_ : Int) (sz : Nat) : Prop := 2097152 - (m.stk.length : Int) ≤ at_ ∧ at_ - (2097152 - (m.stk.length : Int)) + sz ≤ m.stk.length
/-- what is loaded, and the fault -/
def ldv (m : Mac) (k at_ : Int) : Int × Int :=
  if (at_.tmod (ks k) != 0) = true then (0, 3)
  else if inD m at_ (ks k).toNat then (nr k (ldk m.data (at_ - 1048576).toNat (ks k).toNat), 0)
  else if inS m at_ (ks k).toNat then (nr k (ldk m.stk (at_ - (2097152 - (m.stk.length : Int))).toNat (ks k).toNat), 0)
  else (0, 4)
/-- a machine behind a store, and the fault -/
def stv (m : Mac) (k at_ x : Int) : Mac × Int :=
  if (at_.tmod (ks k) != 0) = true then (m, 3)
  else if inD m at_ (ks k).toNat then ({ m with data := stk_ m.data (at_ - 1048576).toNat x (ks k).toNat }, 0)
  else if inS m at_ (ks k).toNat then ({ m with stk := stk_ m.stk (at_ - (2097152 - (m.stk.length : Int))).toNat x (ks k).toNat }, 0)
  else (m, 4)
theorem u8_bd {n : Int} (h : (Lit.int .u8 n).wf = true) : 0 ≤ n ∧ n ≤ 255 := by
  simp [Lit.wf, IntKind.min, IntKind.max, IntKind.signed, IntKind.bits] at h
  omega
theorem ks_cases {k : Int} (h1 : 1 ≤ k) (h2 : k ≤ 5) : ∃ s : Nat, ks k = s ∧ (s = 1 ∨ s = 2 ∨ s = 4) := by
  have : k = 1 ∨ k = 2 ∨ k = 3 ∨ k = 4 ∨ k = 5 := by omega
  rcases this with rfl | rfl | rfl | rfl | rfl
  · exact ⟨1, rfl, .inl rfl⟩
  · exact ⟨1, rfl, .inl rfl⟩
  · exact ⟨2, rfl, .inr (.inl rfl)⟩
  · exact ⟨2, rfl, .inr (.inl rfl)⟩
  · exact ⟨4, rfl, .inr (.inr rfl)⟩
end Go.Proofs.Ytfcfnbncgadomaa.Pl
namespace Go.Proofs.Ytfcfnbncgadomaa.W
open Go.RowKit
/-- where an owned slice of bytes lies -/
theorem own_at {u : World} {s : SV} {zs : List Int} (h : Own .u8 5 0 u s.a s.len s.cap zs) (h0 : 0 < s.len) : ∃ b, s.a = some ⟨b, 0, none⟩ ∧ (∀ i, i < s.len → u.cell? ⟨b, i, none⟩ = some (.int .u8 (zs.getD i 0))) ∧ zs.length = s.len := by
  have ho := h.1
  have hl := h.row.1
  rcases ho.2 with ⟨_, h1⟩ | ⟨b, c', cur, e0, _⟩
  · omega
  · simp only [Value.slice.injEq] at e0
    refine ⟨b, e0.1, fun i hi => ?_, hl⟩
    rw [e0.1] at ho
    have := ho.cellAt i (by omega)
    rw [this, List.getElem?_map, List.getElem?_eq_getElem (by omega), List.getD_eq_getElem?_getD, List.getElem?_eq_getElem (by omega)]
    rfl
theorem l3Load_run {D : Nat → Prop} {g : Nat} {u : World} {v : MV} {m : Pl.Mac} (h : Run D g u v m) (hv : Pl.Vd m) (k at_ : Int) (k1 : 1 ≤ k) (k2 : k ≤ 5) (ha : -9223372036854775808 ≤ at_ ∧ at_ ≤ 9223372036854775807) :
    Calls Try.prog 34 #[.pointer (some ⟨g, 0, none⟩), .int .i64 k, .int .i64 at_] u fun e u' => e = .returned (.tuple #[.int .i64 (Pl.ldv m k at_).1, .int .i64 (Pl.ldv m k at_).2]) ∧ u' = u := by
  obtain ⟨s, hk, hs4⟩ := Pl.ks_cases k1 k2
  have hs : 1 ≤ s ∧ s ≤ 4 := by omega
  have hld : m.data.length = v.data.len := h.data.row.1
  have hls : m.stk.length = v.stk.len := h.stk.row.1
  have b1 := hv.data
  have b2 := hv.stk
  unfold Pl.ldv
  rw [hk, Int.toNat_natCast]
  by_cases hal : (at_.tmod (s : Int) != 0) = true
  · rw [if_pos hal]
    exact l3Load_align g k at_ s hs hk hal u
  rw [if_neg hal]
  have hal' : (at_.tmod (s : Int) != 0) = false := by simpa using hal
  by_cases hd : Pl.inD m at_ s
  · rw [if_pos hd]
    unfold Pl.inD at hd
    obtain ⟨b, hb, hc, hl⟩ := own_at h.data (by omega)
    exact l3Load_data v m g k at_ b 0 (at_ - 1048576).toNat s m.data u h.box ha (by omega) (by omega) hs hs4 hk hal' (show at_ = _ by omega) (by omega) hb (fun n hn => Pl.u8_bd (h.data.2 n hn)) (fun i hi => by rw [Nat.zero_add]; exact hc _ (by omega))
  rw [if_neg hd]
  unfold Pl.inD at hd
  by_cases hst : Pl.inS m at_ s
  · rw [if_pos hst]
    unfold Pl.inS at hst
    obtain ⟨b, hb, hc, hl⟩ := own_at h.stk (by omega)
    exact l3Load_stack v m g k at_ b 0 (at_ - (2097152 - (m.stk.length : Int))).toNat s m.stk u h.box ha (by omega) (by omega) hs hs4 hk hal' (show _ ∨ _ by omega) (show at_ = _ by omega) (by omega) hb (fun n hn => Pl.u8_bd (h.stk.2 n hn)) (fun i hi => by rw [Nat.zero_add]; exact hc _ (by omega))
  rw [if_neg hst]
  unfold Pl.inS at hst
  exact l3Load_none v m g k at_ s u h.box ha (by omega) (by omega) hs hk hal' (show _ ∨ _ by omega) (show _ ∨ _ by omega)
theorem touch_block {b : Option Addr} {u u' : World} {x : Nat} (h : Touch b u u') {B : Nat} (hb : b = some ⟨B, 0, none⟩) (hx : x ≠ B) : u'.heap[x]? = u.heap[x]? := h.block x (fun ad had => by rw [hb] at had; cases had; exact hx)
theorem Run.setData {D : Nat → Prop} {g B : Nat} {u u' : World} {v : MV} {m : Pl.Mac} {zs : List Int} (h : Run D g u v m) (hb : v.data.a = some ⟨B, 0, none⟩) (ho : Own .u8 5 0 u' v.data.a v.data.len v.data.cap zs) (ht : Touch v.data.a u u') : Run D g u' v { m with data := zs } ∧ St D u u' := by
  have hB : (blks g v)[3]? = some (some B) := by simp [blks, hb]
  have hk : ∀ y, y ≠ B → u'.heap[y]? = u.heap[y]? := fun y hy => touch_block ht hb hy
  have hs : u.heap.size ≤ u'.heap.size := by rw [ht.size]; exact Nat.le_refl _
  exact ⟨⟨fun y hy => ⟨Nat.lt_of_lt_of_le (h.av y hy).1 hs, (h.av y hy).2⟩, (hk g (h.ap.ne 3 (by decide) (by decide) hB).symm).trans h.box, h.code.other hs fun y hy => hk y (h.ap.two 3 1 (by decide) (by decide) (by decide) hB (by rw [← hy]; rfl)), h.regs.other fun y hy => hk y (h.ap.two 3 2 (by decide) (by decide) (by decide) hB (by rw [← hy]; rfl)), ho, h.stk.other fun y hy => hk y (h.ap.two 3 4 (by decide) (by decide) (by decide) hB (by rw [← hy]; rfl)), h.inp.other hs fun y hy => hk y (h.ap.two 3 5 (by decide) (by decide) (by decide) hB (by rw [← hy]; rfl)), h.out.other fun y hy => hk y (h.ap.two 3 6 (by decide) (by decide) (by decide) hB (by rw [← hy]; rfl)), h.ap, fun i y hy => Nat.lt_of_lt_of_le (h.lt i y hy) hs⟩, ⟨ht.os, ht.tape, ht.output, hs, fun x hx => hk x (h.ne 3 hB x hx)⟩⟩
theorem Run.setStk {D : Nat → Prop} {g B : Nat} {u u' : World} {v : MV} {m : Pl.Mac} {zs : List Int} (h : Run D g u v m) (hb : v.stk.a = some ⟨B, 0, none⟩) (ho : Own .u8 5 0 u' v.stk.a v.stk.len v.stk.cap zs) (ht : Touch v.stk.a u u') : Run D g u' v { m with stk := zs } ∧ St D u u' := by
  have hB : (blks g v)[4]? = some (some B) := by simp [blks, hb]
  have hk : ∀ y, y ≠ B → u'.heap[y]? = u.heap[y]? := fun y hy => touch_block ht hb hy
  have hs : u.heap.size ≤ u'.heap.size := by rw [ht.size]; exact Nat.le_refl _
  exact ⟨⟨fun y hy => ⟨Nat.lt_of_lt_of_le (h.av y hy).1 hs, (h.av y hy).2⟩, (hk g (h.ap.ne 4 (by decide) (by decide) hB).symm).trans h.box, h.code.other hs fun y hy => hk y (h.ap.two 4 1 (by decide) (by decide) (by decide) hB (by rw [← hy]; rfl)), h.regs.other fun y hy => hk y (h.ap.two 4 2 (by decide) (by decide) (by decide) hB (by rw [← hy]; rfl)), h.data.other fun y hy => hk y (h.ap.two 4 3 (by decide) (by decide) (by decide) hB (by rw [← hy]; rfl)), ho, h.inp.other hs fun y hy => hk y (h.ap.two 4 5 (by decide) (by decide) (by decide) hB (by rw [← hy]; rfl)), h.out.other fun y hy => hk y (h.ap.two 4 6 (by decide) (by decide) (by decide) hB (by rw [← hy]; rfl)), h.ap, fun i y hy => Nat.lt_of_lt_of_le (h.lt i y hy) hs⟩, ⟨ht.os, ht.tape, ht.output, hs, fun x hx => hk x (h.ne 4 hB x hx)⟩⟩
theorem l3Store_run {D : Nat → Prop} {g : Nat} {u : World} {v : MV} {m : Pl.Mac} (h : Run D g u v m) (hv : Pl.Vd m) (k at_ x : Int) (k1 : 1 ≤ k) (k2 : k ≤ 5) (ha : -9223372036854775808 ≤ at_ ∧ at_ ≤ 9223372036854775807) :
    Calls Try.prog 25 #[.pointer (some ⟨g, 0, none⟩), .int .i64 k, .int .i64 at_, .int .i64 x] u fun e u' => e = .returned (.int .i64 (Pl.stv m k at_ x).2) ∧ Run D g u' v (Pl.stv m k at_ x).1 ∧ St D u u' := by
  obtain ⟨s, hk, hs4⟩ := Pl.ks_cases k1 k2
  have hs : 1 ≤ s ∧ s ≤ 4 := by omega
  have hld : m.data.length = v.data.len := h.data.row.1
  have hls : m.stk.length = v.stk.len := h.stk.row.1
  have b1 := hv.data
  have b2 := hv.stk
  unfold Pl.stv
  rw [hk, Int.toNat_natCast]
  by_cases hal : (at_.tmod (s : Int) != 0) = true
  · rw [if_pos hal]
    exact (l3Store_align g k at_ x s hs hk hal u).mono fun e u' ⟨he, hu⟩ => by rw [hu]; exact ⟨he, h, St.refl _ _⟩
  rw [if_neg hal]
  have hal' : (at_.tmod (s : Int) != 0) = false := by simpa using hal
  by_cases hd : Pl.inD m at_ s
  · rw [if_pos hd]
    unfold Pl.inD at hd
    obtain ⟨b, hb, hc, hl⟩ := own_at h.data (by omega)
    have hne : g ≠ b := (h.ap.ne 3 (by decide) (by decide) (show (blks g v)[3]? = some (some b) by simp [blks, hb])).symm
    exact (l3Store_data v m g k at_ x b (at_ - 1048576).toNat s m.data u h.box ha (by omega) (by omega) hs hk hal' (show at_ = _ by omega) (by omega) hb hne (fun n hn => Pl.u8_bd (h.data.2 n hn)) h.data).mono fun e u' ⟨he, ho, ht⟩ => ⟨he, h.setData hb ho ht⟩
  rw [if_neg hd]
  unfold Pl.inD at hd
  by_cases hst : Pl.inS m at_ s
  · rw [if_pos hst]
    unfold Pl.inS at hst
    obtain ⟨b, hb, hc, hl⟩ := own_at h.stk (by omega)
    have hne : g ≠ b := (h.ap.ne 4 (by decide) (by decide) (show (blks g v)[4]? = some (some b) by simp [blks, hb])).symm
    exact (l3Store_stack v m g k at_ x b (at_ - (2097152 - (m.stk.length : Int))).toNat s m.stk u h.box ha (by omega) (by omega) hs hk hal' (show _ ∨ _ by omega) (show at_ = _ by omega) (by omega) hb hne (fun n hn => Pl.u8_bd (h.stk.2 n hn)) h.stk).mono fun e u' ⟨he, ho, ht⟩ => ⟨he, h.setStk hb ho ht⟩
  rw [if_neg hst]
  unfold Pl.inS at hst
  exact (l3Store_none v m g k at_ x s u h.box ha (by omega) (by omega) hs hk hal' (show _ ∨ _ by omega) (show _ ∨ _ by omega)).mono fun e u' ⟨he, hu⟩ => by rw [hu]; exact ⟨he, h, St.refl _ _⟩
end Go.Proofs.Ytfcfnbncgadomaa.W
namespace Go.Proofs.Ytfcfnbncgadomaa.Pl
/-- a call to the world: the machine behind it, and the fault -/
def ecall (m : Mac) : Mac × Int :=
  if rv m 17 = 1 then (if 10000 ≤ m.out.length then (m, 6) else ({ m with out := m.out ++ [rv m 10 % 256] }, 0))
  else if rv m 17 = 2 then (match m.inp with | [] => ({ m with regs := m.regs.set 10 4294967295 }, 0) | b :: r => ({ m with regs := m.regs.set 10 b, inp := r }, 0))
  else if rv m 17 = 3 then ({ m with fin := 1, val := rv m 10 }, 0)
  else if rv m 17 = 4 then ({ m with fin := 3, val := 0 }, 0)
  else (m, 5)
end Go.Proofs.Ytfcfnbncgadomaa.Pl
namespace Go.Proofs.Ytfcfnbncgadomaa.W
open Go.RowKit
set_option maxHeartbeats 2000000 in
theorem ec_no (g r c : Nat) (n : Int) (h1 : (n == 1) = false) (h2 : (n == 2) = false) (h3 : (n == 3) = false) (h4 : (n == 4) = false) (u : World) (cr : u.cell? ⟨g, 2, none⟩ = some (.slice (some ⟨r, 0, none⟩) 32 c)) (c17 : u.cell? ⟨r, 17, none⟩ = some (.int .i64 n)) :
    Calls Try.prog 100 #[.pointer (some ⟨g, 0, none⟩)] u fun e u' => e = .returned (.int .i64 5) ∧ u' = u := by
  go_enter Try.func100, Try.ntmps100
  go_wp2
  go_ret
  exact ⟨rfl, rfl⟩
set_option maxHeartbeats 2000000 in
theorem ec_full (g r c : Nat) (oa : Option Addr) (ol oc : Nat) (hol : 10000 ≤ ol) (hom : ol ≤ 1048576) (u : World) (cr : u.cell? ⟨g, 2, none⟩ = some (.slice (some ⟨r, 0, none⟩) 32 c)) (c17 : u.cell? ⟨r, 17, none⟩ = some (.int .i64 1)) (co : u.cell? ⟨g, 6, none⟩ = some (.slice oa ol oc)) :
    Calls Try.prog 100 #[.pointer (some ⟨g, 0, none⟩)] u fun e u' => e = .returned (.int .i64 6) ∧ u' = u := by
  have e1 : decide (10000 ≤ (ol : Int)) = true := by simp; omega
  go_enter Try.func100, Try.ntmps100
  go_wp2
  go_ret
  exact ⟨rfl, rfl⟩
set_option maxHeartbeats 2000000 in
theorem ec_exit (g r c : Nat) (x : Int) (y8 y9 : Value) (u : World) (cr : u.cell? ⟨g, 2, none⟩ = some (.slice (some ⟨r, 0, none⟩) 32 c)) (c17 : u.cell? ⟨r, 17, none⟩ = some (.int .i64 3)) (c10 : u.cell? ⟨r, 10, none⟩ = some (.int .i64 x)) (c8 : u.cell? ⟨g, 8, none⟩ = some y8) (c9 : u.cell? ⟨g, 9, none⟩ = some y9) (hf8 : u.frozen? ⟨g, 8, none⟩ = false) (hf9 : u.frozen? ⟨g, 9, none⟩ = false) (hne : g ≠ r) :
    Calls Try.prog 100 #[.pointer (some ⟨g, 0, none⟩)] u fun e u' => e = .returned (.int .i64 0) ∧ u' = (u.setCell ⟨g, 8, none⟩ (.int .i64 1)).setCell ⟨g, 9, none⟩ (.int .i64 x) := by
  have s1 : ∀ y, (u.setCell ⟨g, 8, none⟩ y).cell? ⟨g, 2, none⟩ = some (.slice (some ⟨r, 0, none⟩) 32 c) := fun y => by rw [World.cell?_setCell_other _ _ _ _ (by intro e; injection e with _ e2; cases e2)]; exact cr
  have s2 : ∀ y, (u.setCell ⟨g, 8, none⟩ y).cell? ⟨r, 10, none⟩ = some (.int .i64 x) := fun y => by rw [World.cell?_setCell_other _ _ _ _ (by intro e; injection e with e1 _; exact hne e1)]; exact c10
  go_enter Try.func100, Try.ntmps100
  go_wp2
  go_ret
  exact ⟨rfl, rfl⟩
set_option maxHeartbeats 2000000 in
theorem ec_over (g r c : Nat) (y8 y9 : Value) (u : World) (cr : u.cell? ⟨g, 2, none⟩ = some (.slice (some ⟨r, 0, none⟩) 32 c)) (c17 : u.cell? ⟨r, 17, none⟩ = some (.int .i64 4)) (c8 : u.cell? ⟨g, 8, none⟩ = some y8) (c9 : u.cell? ⟨g, 9, none⟩ = some y9) (hf8 : u.frozen? ⟨g, 8, none⟩ = false) (hf9 : u.frozen? ⟨g, 9, none⟩ = false) :
    Calls Try.prog 100 #[.pointer (some ⟨g, 0, none⟩)] u fun e u' => e = .returned (.int .i64 0) ∧ u' = (u.setCell ⟨g, 8, none⟩ (.int .i64 3)).setCell ⟨g, 9, none⟩ (.int .i64 0) := by
  go_enter Try.func100, Try.ntmps100
  go_wp2
  go_ret
  exact ⟨rfl, rfl⟩
set_option maxHeartbeats 2000000 in
theorem ec_none (g r c : Nat) (ia : Option Addr) (ic : Nat) (y : Value) (u : World) (cr : u.cell? ⟨g, 2, none⟩ = some (.slice (some ⟨r, 0, none⟩) 32 c)) (c17 : u.cell? ⟨r, 17, none⟩ = some (.int .i64 2)) (ci : u.cell? ⟨g, 5, none⟩ = some (.slice ia 0 ic)) (c10 : u.cell? ⟨r, 10, none⟩ = some y) (hf : u.frozen? ⟨r, 10, none⟩ = false) :
    Calls Try.prog 100 #[.pointer (some ⟨g, 0, none⟩)] u fun e u' => e = .returned (.int .i64 0) ∧ u' = u.setCell ⟨r, 10, none⟩ (.int .i64 4294967295) := by
  go_enter Try.func100, Try.ntmps100
  go_wp2
  go_ret
  exact ⟨rfl, rfl⟩
set_option maxRecDepth 8000 in
set_option maxHeartbeats 4000000 in
theorem ec_get (g r c b off il ic : Nat) (x : Int) (y : Value) (h1 : 1 ≤ il) (h2 : il ≤ ic) (h3 : (ic : Int) ≤ 9223372036854775807) (hx : 0 ≤ x ∧ x ≤ 255) (u : World) (cr : u.cell? ⟨g, 2, none⟩ = some (.slice (some ⟨r, 0, none⟩) 32 c)) (c17 : u.cell? ⟨r, 17, none⟩ = some (.int .i64 2)) (ci : u.cell? ⟨g, 5, none⟩ = some (.slice (some ⟨b, off, none⟩) il ic)) (cx : u.cell? ⟨b, off, none⟩ = some (.int .u8 x)) (c10 : u.cell? ⟨r, 10, none⟩ = some y) (hf : u.frozen? ⟨r, 10, none⟩ = false) (hg : u.frozen? ⟨g, 5, none⟩ = false) (hne : g ≠ r) :
    Calls Try.prog 100 #[.pointer (some ⟨g, 0, none⟩)] u fun e u' => e = .returned (.int .i64 0) ∧ ∃ k p, (il ≠ 1 → p = some ⟨b, off + 1, none⟩) ∧ (p = some ⟨b, off + 1, none⟩ ∨ p = some ⟨b, off, none⟩) ∧ u' = ((u.setCell ⟨r, 10, none⟩ (.int .i64 x)).drewN k).setCell ⟨g, 5, none⟩ (.slice p (il - 1) (ic - 1)) := by
  have l0 : ((il : Int) == 0) = false := by simp; omega
  have l1 : (0 : Int) < (il : Int) := by omega
  have l2 : (1 : Int) ≤ (il : Int) := by omega
  have l3 : (il : Int) ≤ (ic : Int) := by omega
  have s1 : ∀ z, (u.setCell ⟨r, 10, none⟩ z).cell? ⟨g, 5, none⟩ = some (.slice (some ⟨b, off, none⟩) il ic) := fun z => by rw [World.cell?_setCell_other _ _ _ _ (by intro e; injection e with e1 _; exact hne e1.symm)]; exact ci
  by_cases hic : ic = 1
  · subst hic
    obtain rfl : il = 1 := by omega
    go_enter Try.func100, Try.ntmps100
    go_wp2_with fail
    go_region_with (fail)
    all_goals
      go_wp2
      go_ret
      exact ⟨rfl, 1, _, fun h => absurd rfl h, .inr rfl, rfl⟩
  · go_enter Try.func100, Try.ntmps100
    go_wp2_with fail
    go_region_with (fail)
    all_goals
      go_wp2
      go_ret
      exact ⟨rfl, 1, _, fun _ => rfl, .inl rfl, rfl⟩
theorem grown_cell {u W w1 : World} {row : Option Nat} {g j : Nat} {x : Value} (hb : Below u.heap.size u W) (hg : W.grownBy w1 row) (hx : u.cell? ⟨g, j, none⟩ = some x) (hne : ∀ y, row = some y → y ≠ g) : w1.cell? ⟨g, j, none⟩ = some x := by
  have hl := block_lt_of_cell hx
  rw [World.cell?_of_block (a := ⟨g, j, none⟩) (hg.block g (Nat.lt_of_lt_of_le hl hb.size) (fun e => hne g e.symm rfl)), hb.cell (p := ⟨g, j, none⟩) hl]
  exact hx
theorem grown_frozen {u W w1 : World} {row : Option Nat} {g j : Nat} (hb : Below u.heap.size u W) (hg : W.grownBy w1 row) (hl : g < u.heap.size) (hx : u.frozen? ⟨g, j, none⟩ = false) (hne : ∀ y, row = some y → y ≠ g) : w1.frozen? ⟨g, j, none⟩ = false := by
  rw [World.frozen?_of_block (a := ⟨g, j, none⟩) (hg.block g (Nat.lt_of_lt_of_le hl hb.size) (fun e => hne g e.symm rfl)), hb.frozen (p := ⟨g, j, none⟩) hl]
  exact hx
theorem grown_from {u W w1 : World} {row : Option Nat} (hb : Below u.heap.size u W) (hg : W.grownBy w1 row) : u.grownBy w1 row :=
  ⟨hg.os.trans hb.os, hg.tape.trans hb.tape, hg.output.trans hb.output, Nat.le_trans hb.size hg.size, fun k hk hr => (hg.block k (Nat.lt_of_lt_of_le hk hb.size) hr).trans (hb.block k hk)⟩
theorem byte_cell (w : World) (x : Int) (j : Nat) (z : Value) (hj : [Value.int .u8 x][j]? = some z) : (w.alloc (.cells #[.int .u8 x] 5)).cell? ((⟨w.heap.size, 0, none⟩ : Addr).add j) = some z := by
  rcases j with _ | j
  · cases hj
    exact cell_of_row _ w.heap.size 0 _ 5 (0, 0) (heap_alloc_new w _)
  · simp at hj
set_option maxRecDepth 8000 in
set_option maxHeartbeats 8000000 in
theorem ec_put (g r c : Nat) (oa : Option Addr) (ol oc : Nat) (x : Int) (zs : List Int) (hol : ol < 10000) (hx : 0 ≤ x ∧ x ≤ 4294967295) (u : World) (cr : u.cell? ⟨g, 2, none⟩ = some (.slice (some ⟨r, 0, none⟩) 32 c)) (c17 : u.cell? ⟨r, 17, none⟩ = some (.int .i64 1)) (co : u.cell? ⟨g, 6, none⟩ = some (.slice oa ol oc)) (c10 : u.cell? ⟨r, 10, none⟩ = some (.int .i64 x)) (hg : u.frozen? ⟨g, 6, none⟩ = false)
    (ho : u.ownsRow 0 5 1 (.slice oa ol oc) ol (zs.map (Value.int .u8))) (hne : ∀ y, (Value.slice oa ol oc).ownBlock = some y → y ≠ g) :
    Calls Try.prog 100 #[.pointer (some ⟨g, 0, none⟩)] u fun e u' => e = .returned (.int .i64 0) ∧ ∃ (w1 : World) (G cap k : Nat), w1.ownsRow 0 5 1 (.slice (some ⟨G, 0, none⟩) (ol + 1) cap) (ol + 1) ((zs ++ [x % 256]).map (Value.int .u8)) ∧ u.grownBy w1 (Value.slice oa ol oc).ownBlock ∧ ((Value.slice oa ol oc).ownBlock = some G ∨ u.heap.size ≤ G) ∧ G < w1.heap.size ∧ u' = (w1.setCell ⟨g, 6, none⟩ (.slice (some ⟨G, 0, none⟩) (ol + 1) cap)).drewN k := by
  obtain ⟨i0, hi, hz0, hz1, hz2⟩ := info_parts Try.infou8
  have HO : Hid (u.ownsRow 0 5 1 (.slice oa ol oc) ol (zs.map (Value.int .u8))) := ho
  have HN : Hid (∀ y, (Value.slice oa ol oc).ownBlock = some y → y ≠ g) := hne
  clear ho hne
  have e1 : decide (10000 ≤ (ol : Int)) = false := by simp; omega
  have hX : IntKind.u8.wrap (x.tmod 256) = x % 256 := by rw [Int.tmod_eq_emod_of_nonneg hx.1]; simp [IntKind.wrap, IntKind.signed, IntKind.bits]
  have co' := fl_alloc co
  have cr' := fl_alloc cr
  have c10' := fl_alloc c10
  go_enter Try.func100, Try.ntmps100
  go_wp2_with fail
  go_region_law ((refine step_append_lies _ (by rfl) (.tmp 22) (.tmp 31) 22 (by rfl) 0 5 i0 (.int .u8 0) 1 1 Try.underlying22 hi hz0 hz1 hz2 rfl (by decide) (.slice oa ol oc) ol (zs.map (Value.int .u8)) (by rfl) (by first | exact HO.out.alloc _ | exact (HO.out.alloc _).drew) ⟨u.heap.size, 0, none⟩ 1 1 [.int .u8 (x % 256)] (by rfl) rfl (byte_cell u (x % 256)) (by intro z hz; simp at hz; subst hz; rfl) (by decide) (by unfold maxLen; omega) (by omega) (Nat.zero_le _) _ rfl ?_; intro G cap w1 hown1 hgrow hat hlt; have q6 : w1.cell? ⟨g, 6, none⟩ = some (.slice oa ol oc) := grown_cell (u := u) (by repeat (first | exact below_alloc _ _ | refine Below.drew ?_ | refine below_drewN ?_ _)) hgrow co HN.out; have qf : w1.frozen? ⟨g, 6, none⟩ = false := grown_frozen (u := u) (by repeat (first | exact below_alloc _ _ | refine Below.drew ?_ | refine below_drewN ?_ _)) hgrow (block_lt_of_cell co) hg HN.out; have HG : Hid (u.grownBy w1 (Value.slice oa ol oc).ownBlock) := grown_from (by repeat (first | exact below_alloc _ _ | refine Below.drew ?_ | refine below_drewN ?_ _)) hgrow; have HA : Hid ((Value.slice oa ol oc).ownBlock = some G ∨ u.heap.size ≤ G) := (by rcases hat with h | h; exact .inl h; exact .inr (by rw [h]; simp) : (Value.slice oa ol oc).ownBlock = some G ∨ u.heap.size ≤ G); have HW : Hid (w1.ownsRow 0 5 1 (.slice (some ⟨G, 0, none⟩) (ol + 1) cap) (ol + 1) ((zs ++ [x % 256]).map (Value.int .u8))) := (by rw [List.map_append]; exact hown1 : w1.ownsRow 0 5 1 (.slice (some ⟨G, 0, none⟩) (ol + 1) cap) (ol + 1) ((zs ++ [x % 256]).map (Value.int .u8))); clear hown1 hgrow hat))
  all_goals
    go_wp2
    go_ret
    first | exact ⟨rfl, w1, G, cap, 0, HW.out, HG.out, HA.out, hlt, rfl⟩ | exact ⟨rfl, w1, G, cap, 1, HW.out, HG.out, HA.out, hlt, rfl⟩
theorem Run.setInp {D : Nat → Prop} {g : Nat} {u : World} {v : MV} {m : Pl.Mac} (h : Run D g u v m) (p : Option Addr) (len cap : Nat) (zs : List Int) (hp : p.map (·.block) = v.inp.a.map (·.block)) (hr : Row .u8 0 u p len cap zs) :
    Run D g (u.setCell ⟨g, 5, none⟩ (.slice p len cap)) { v with inp := ⟨p, len, cap⟩ } { m with inp := zs } := by
  have hs : u.heap.size ≤ (u.setCell ⟨g, 5, none⟩ (.slice p len cap)).heap.size := by simp
  have hk : ∀ y, y ≠ g → (u.setCell ⟨g, 5, none⟩ (.slice p len cap)).heap[y]? = u.heap[y]? := fun y hy => Below.heap_setCell u ⟨g, 5, none⟩ _ y hy
  have hB : blks g { v with inp := ⟨p, len, cap⟩ } = blks g v := by simp [blks, hp]
  refine ⟨fun y hy => ⟨by simpa using (h.av y hy).1, by rw [hB]; exact (h.av y hy).2⟩, row_put h.box 5 _ rfl, h.code.other hs fun y hy => hk y (h.ap.ne 1 (by decide) (by decide) (by rw [← hy]; rfl)), h.regs.other fun y hy => hk y (h.ap.ne 2 (by decide) (by decide) (by rw [← hy]; rfl)), h.data.other fun y hy => hk y (h.ap.ne 3 (by decide) (by decide) (by rw [← hy]; rfl)), h.stk.other fun y hy => hk y (h.ap.ne 4 (by decide) (by decide) (by rw [← hy]; rfl)), hr.other hs fun y hy => hk y (h.ap.ne 5 (by decide) (by decide) (by rw [← hy, hp]; rfl)), h.out.other fun y hy => hk y (h.ap.ne 6 (by decide) (by decide) (by rw [← hy]; rfl)), ?_, fun i y hy => by rw [hB] at hy; simpa using h.lt i y hy⟩
  unfold Apart
  rw [hB]
  exact h.ap
theorem own_blk {k : IntKind} {e : TypeId} {lo : Nat} {u : World} {a : Option Addr} {len cap : Nat} {zs : List Int} (h : Own k e lo u a len cap zs) : (Value.slice a len cap).ownBlock = a.map (·.block) := by
  rcases h.1.2 with ⟨h0, _⟩ | ⟨b, c, cur, h0, _⟩
  · rw [h0]; simp only [Value.slice.injEq] at h0; rw [h0.1]; rfl
  · rw [h0]; simp only [Value.slice.injEq] at h0; rw [h0.1]; rfl
theorem Run.setOut {D : Nat → Prop} {g G n cap : Nat} {u w1 : World} {v : MV} {m : Pl.Mac} {zs : List Int} (h : Run D g u v m) (hg : u.grownBy w1 (v.out.a.map (·.block))) (hG : v.out.a.map (·.block) = some G ∨ u.heap.size ≤ G) (hl : G < w1.heap.size) (ho : Own .u8 5 0 w1 (some ⟨G, 0, none⟩) n cap zs) :
    Run D g (w1.setCell ⟨g, 6, none⟩ (.slice (some ⟨G, 0, none⟩) n cap)) { v with out := ⟨some ⟨G, 0, none⟩, n, cap⟩ } { m with out := zs } ∧ St D u (w1.setCell ⟨g, 6, none⟩ (.slice (some ⟨G, 0, none⟩) n cap)) := by
  have b6 : (blks g v)[6]? = some (v.out.a.map (·.block)) := rfl
  have hk : ∀ (i : Nat) y, i < 6 → (blks g v)[i]? = some (some y) → w1.heap[y]? = u.heap[y]? := fun i y hi hy => hg.block y (h.lt i y hy) (fun e => h.ap i 6 (by omega) (by decide) (by omega) y hy (by rw [b6, ← e]))
  have hGne : ∀ (i : Nat) y, i < 6 → (blks g v)[i]? = some (some y) → y ≠ G := fun i y hi hy e => by
    rcases hG with h1 | h1
    · exact h.ap i 6 (by omega) (by decide) (by omega) y hy (by rw [b6, h1, e])
    · have := h.lt i y hy; omega
  have hgg : (blks g v)[0]? = some (some g) := rfl
  have hs1 : u.heap.size ≤ w1.heap.size := hg.size
  have hs : w1.heap.size ≤ (w1.setCell ⟨g, 6, none⟩ (.slice (some ⟨G, 0, none⟩) n cap)).heap.size := by simp
  have kk : ∀ (i : Nat) y, i < 6 → i ≠ 0 → (blks g v)[i]? = some (some y) → (w1.setCell ⟨g, 6, none⟩ (.slice (some ⟨G, 0, none⟩) n cap)).heap[y]? = u.heap[y]? := fun i y hi h0 hy => (Below.heap_setCell w1 ⟨g, 6, none⟩ _ y (h.ap.ne i (by omega) h0 hy)).trans (hk i y hi hy)
  have hB : ∀ (i : Nat), i < 6 → (blks g { v with out := ⟨some ⟨G, 0, none⟩, n, cap⟩ })[i]? = (blks g v)[i]? := fun i hi => by
    rcases (show i = 0 ∨ i = 1 ∨ i = 2 ∨ i = 3 ∨ i = 4 ∨ i = 5 by omega) with e | e | e | e | e | e <;> subst e <;> rfl
  have hB6 : (blks g { v with out := ⟨some ⟨G, 0, none⟩, n, cap⟩ })[6]? = some (some G) := rfl
  have hB7 : ∀ (i : Nat), 7 ≤ i → (blks g { v with out := ⟨some ⟨G, 0, none⟩, n, cap⟩ })[i]? = none := fun i hi => List.getElem?_eq_none (by simpa [blks] using hi)
  have hDG : ∀ x, D x → x ≠ G := fun x hx e => by
    rcases hG with h1 | h1
    · exact (h.av x hx).2 6 (by rw [b6, h1, e])
    · have := (h.av x hx).1; omega
  refine ⟨⟨fun x hx => ⟨Nat.lt_of_lt_of_le (h.av x hx).1 (Nat.le_trans hs1 hs), fun i => ?_⟩, row_put ((hk 0 g (by decide) hgg).trans h.box) 6 _ rfl, h.code.other (Nat.le_trans hs1 hs) fun y hy => kk 1 y (by decide) (by decide) (by rw [← hy]; rfl), h.regs.other fun y hy => kk 2 y (by decide) (by decide) (by rw [← hy]; rfl), h.data.other fun y hy => kk 3 y (by decide) (by decide) (by rw [← hy]; rfl), h.stk.other fun y hy => kk 4 y (by decide) (by decide) (by rw [← hy]; rfl), h.inp.other (Nat.le_trans hs1 hs) fun y hy => kk 5 y (by decide) (by decide) (by rw [← hy]; rfl), ho.other fun y hy => Below.heap_setCell w1 ⟨g, 6, none⟩ _ y (by cases hy; exact (hGne 0 g (by decide) hgg).symm), fun i j hi hj hij x hx hx2 => ?_, fun i x hx => ?_⟩, ⟨hg.os, hg.tape, hg.output, Nat.le_trans hs1 hs, fun x hx => ?_⟩⟩
  · by_cases h6 : i < 6
    · rw [hB i h6]; exact (h.av x hx).2 i
    · by_cases e6 : i = 6
      · subst e6; rw [hB6]; intro e; cases e; exact hDG _ hx rfl
      · rw [hB7 i (by omega)]; intro e; cases e
  · by_cases i6 : i = 6
    · subst i6
      rw [hB6] at hx
      cases hx
      rw [hB j (by omega)] at hx2
      exact hGne j G (by omega) hx2 rfl
    · by_cases j6 : j = 6
      · subst j6
        rw [hB6] at hx2
        cases hx2
        rw [hB i (by omega)] at hx
        exact hGne i G (by omega) hx rfl
      · rw [hB i (by omega)] at hx
        rw [hB j (by omega)] at hx2
        exact h.ap i j hi hj hij x hx hx2
  · by_cases h6 : i < 6
    · rw [hB i h6] at hx; exact Nat.lt_of_lt_of_le (h.lt i x hx) (Nat.le_trans hs1 hs)
    · by_cases e6 : i = 6
      · subst e6; rw [hB6] at hx; cases hx; exact Nat.lt_of_lt_of_le hl hs
      · rw [hB7 i (by omega)] at hx; cases hx
  · rw [Below.heap_setCell w1 ⟨g, 6, none⟩ _ x (h.ne 0 hgg x hx)]
    exact hg.block x (h.av x hx).1 (fun e => (h.av x hx).2 6 (by rw [b6, ← e]))
end Go.Proofs.Ytfcfnbncgadomaa.W
