import Derived.Test.YtomhmjhcbencmaaLwF
import Derived.Test.YtomhmjhcbencmaaStE
set_option linter.unusedVariables false
namespace Go.Proofs.Ytomhmjhcbencmaa.Pl
theorem pw_eight (j : Nat) : pw (8 * (j + 1)) = pw (8 * j) * 256 := by
  have : 8 * (j + 1) = 8 * j + 8 := by omega
  rw [this]
  simp only [pw, Int.pow_add]
  rfl
theorem stk_wd (zs : List Int) (p : Nat) (x : Int) : ∀ k, k ≤ 4 → stk_ zs p (wd x) k = stk_ zs p x k
  | 0, _ => rfl
  | k + 1, h => by
    unfold stk_
    rw [stk_wd zs p x k (by omega)]
    have e : wd x / pw (8 * k) % 256 = x / pw (8 * k) % 256 := by
      have e0 : wd x = x % 4294967296 := rfl
      rcases (show k = 0 ∨ k = 1 ∨ k = 2 ∨ k = 3 by omega) with rfl | rfl | rfl | rfl
      · rw [show pw (8 * 0) = 1 from by decide, e0]; omega
      · rw [show pw (8 * 1) = 256 from by decide, e0]; omega
      · rw [show pw (8 * 2) = 65536 from by decide, e0]; omega
      · rw [show pw (8 * 3) = 16777216 from by decide, e0]; omega
    rw [e]
end Go.Proofs.Ytomhmjhcbencmaa.Pl
namespace Go.Proofs.Ytomhmjhcbencmaa.W
open Go.RowKit
set_option maxHeartbeats 1000000 in
theorem l3Store_align (gm : Nat) (kind at_ x : Int) (size : Nat) (hs : 1 ≤ size ∧ size ≤ 4) (hk : Pl.ks kind = size) (ha : (at_.tmod (size : Int) != 0) = true) (w : World) :
    Calls Try.prog 37 #[.pointer (some ⟨gm, 0, none⟩), .int .i64 kind, .int .i64 at_, .int .i64 x] w fun e w' => e = .returned (.int .i64 3) ∧ w' = w := by
  go_enter Try.func37, Try.ntmps37
  go_wp2_with (go_at_call 36; refine (specKindSize_any _ _).mono ?_; rintro e w' ⟨rfl, rfl⟩; rw [hk])
  go_ret
  exact ⟨rfl, rfl⟩
set_option maxHeartbeats 1000000 in
theorem l3Store_none (v : MV) (m : Pl.Mac) (gm : Nat) (kind at_ x : Int) (size : Nat) (w : World) (hm : w.heap[gm]? = some (.cells #[.slice v.code.a v.code.len v.code.cap, .int .i64 m.pc, .slice v.regs.a v.regs.len v.regs.cap, .slice v.data.a v.data.len v.data.cap, .slice v.stk.a v.stk.len v.stk.cap, .slice v.inp.a v.inp.len v.inp.cap, .slice v.out.a v.out.len v.out.cap, .int .i64 m.steps, .int .i64 m.fin, .int .i64 m.val] 27)) (hb : -9223372036854775808 ≤ at_ ∧ at_ ≤ 9223372036854775807) (hl : v.data.len ≤ 65536) (hl' : v.stk.len ≤ 65536) (hs : 1 ≤ size ∧ size ≤ 4) (hk : Pl.ks kind = size) (ha : (at_.tmod (size : Int) != 0) = false) (hd0 : Hid (at_ < 1048576 ∨ (v.data.len : Int) - size < at_ - 1048576)) (hd1 : Hid (at_ < 2097152 - (v.stk.len : Int) ∨ (v.stk.len : Int) - size < at_ - (2097152 - (v.stk.len : Int)))) :
    Calls Try.prog 37 #[.pointer (some ⟨gm, 0, none⟩), .int .i64 kind, .int .i64 at_, .int .i64 x] w fun e w' => e = .returned (.int .i64 4) ∧ w' = w := by
  have HM : Hid (w.heap[gm]? = some (.cells #[.slice v.code.a v.code.len v.code.cap, .int .i64 m.pc, .slice v.regs.a v.regs.len v.regs.cap, .slice v.data.a v.data.len v.data.cap, .slice v.stk.a v.stk.len v.stk.cap, .slice v.inp.a v.inp.len v.inp.cap, .slice v.out.a v.out.len v.out.cap, .int .i64 m.steps, .int .i64 m.fin, .int .i64 m.val] 27)) := hm
  have hs0 : ((size : Int) == 0) = false := by simp; omega
  clear hm
  go_enter Try.func37, Try.ntmps37
  go_wp2_with (first | (go_at_call 36; refine (specKindSize_any _ _).mono ?_; rintro e w' ⟨rfl, rfl⟩; rw [hk]) | (go_at_call 81; refine (spot_none v m gm _ size _ HM.out hb hl hl' hs hd0.out hd1.out).mono ?_; rintro e w' ⟨rfl, rfl⟩))
  go_ret
  exact ⟨rfl, rfl⟩
set_option maxHeartbeats 4000000 in
theorem l3Store_data {lo : Nat} (v : MV) (m : Pl.Mac) (gm : Nat) (kind at_ x : Int) (g p size : Nat) (zs : List Int) (w : World) (hm : w.heap[gm]? = some (.cells #[.slice v.code.a v.code.len v.code.cap, .int .i64 m.pc, .slice v.regs.a v.regs.len v.regs.cap, .slice v.data.a v.data.len v.data.cap, .slice v.stk.a v.stk.len v.stk.cap, .slice v.inp.a v.inp.len v.inp.cap, .slice v.out.a v.out.len v.out.cap, .int .i64 m.steps, .int .i64 m.fin, .int .i64 m.val] 27)) (hb : -9223372036854775808 ≤ at_ ∧ at_ ≤ 9223372036854775807) (hl : v.data.len ≤ 65536) (hl' : v.stk.len ≤ 65536) (hs : 1 ≤ size ∧ size ≤ 4) (hk : Pl.ks kind = size) (ha : (at_.tmod (size : Int) != 0) = false)  (hp : Hid (at_ = 1048576 + p)) (h2 : p + size ≤ v.data.len) (hadr : v.data.a = some ⟨g, 0, none⟩) (hne : gm ≠ g)
    (HZ : Hid (∀ n ∈ zs, 0 ≤ n ∧ n ≤ 255)) (ho : Own .u8 5 lo w v.data.a v.data.len v.data.cap zs) :
    Calls Try.prog 37 #[.pointer (some ⟨gm, 0, none⟩), .int .i64 kind, .int .i64 at_, .int .i64 x] w fun e w' => e = .returned (.int .i64 0) ∧ Own .u8 5 lo w' v.data.a v.data.len v.data.cap (Pl.stk_ zs p x size) ∧ Touch v.data.a w w' := by
  have HL : Hid (zs.length = v.data.len) := ho.row.1
  rw [hadr] at ho ⊢
  have HO : Hid (w.ownsRow lo 5 1 (.slice (some ⟨g, 0, none⟩) v.data.len v.data.cap) v.data.len (zs.map (Value.int .u8))) := ho.1
  have HM : Hid (w.heap[gm]? = some (.cells #[.slice v.code.a v.code.len v.code.cap, .int .i64 m.pc, .slice v.regs.a v.regs.len v.regs.cap, .slice v.data.a v.data.len v.data.cap, .slice v.stk.a v.stk.len v.stk.cap, .slice v.inp.a v.inp.len v.inp.cap, .slice v.out.a v.out.len v.out.cap, .int .i64 m.steps, .int .i64 m.fin, .int .i64 m.val] 27)) := hm
  have HA : Hid (v.data.a = some ⟨g, 0, none⟩) := hadr
  have hs0 : ((size : Int) == 0) = false := by simp; omega
  have HNE : Hid (gm ≠ g) := hne
  clear ho hm hne
  rw [← Pl.stk_wd zs p x size hs.2]
  obtain ⟨z, hz⟩ : ∃ z, z = Pl.wd x := ⟨_, rfl⟩
  have hzb := Pl.wd_bd x
  rw [← hz] at hzb ⊢
  have HX : Hid (z = Pl.wd x) := hz
  clear hz hadr
  have w0n : ∃ w0, w0 = w := ⟨w, rfl⟩
  obtain ⟨w0, hw0⟩ := w0n
  rw [← hw0] at HO HM ⊢
  clear hw0
  go_enter Try.func37, Try.ntmps37
  go_wp2_with (first | (go_at_call 36; refine (specKindSize_any _ _).mono ?_; rintro e w' ⟨rfl, hw'⟩; rw [hw', hk]; clear hw') | (go_at_call 81; refine (spot_data v m gm _ p size _ HM.out hb hl hl' hs hp.out h2).mono ?_; rintro e w' ⟨rfl, hw'⟩; rw [hw']; clear hw') | (go_at_call 64; refine (specWord_any _ _).mono ?_; rintro e w' ⟨rfl, hw'⟩; rw [hw', ← HX.out]; clear hw'))
  go_loopw [3, 12] (fun y i wr => ∃ j : Nat, j ≤ size ∧ i = .int .i64 j ∧ y = .int .i64 (z / Pl.pw (8 * j)) ∧ wr.ownsRow lo 5 1 (.slice (some ⟨g, 0, none⟩) v.data.len v.data.cap) v.data.len ((Pl.stk_ zs p z j).map (Value.int .u8)) ∧ Touch (some ⟨g, 0, none⟩) w0 wr) (fun _ i _ => size - (intOf i).toNat)
  case atStart => exact ⟨0, Nat.zero_le _, rfl, by rw [show Pl.pw (8 * 0) = 1 from by decide, Int.ediv_one], HO.out, Touch.refl _ _⟩
  case round =>
    obtain ⟨j, hj, rfl, rfl, hw, ht⟩ := hrel
    have HW : Hid (wr.ownsRow lo 5 1 (.slice (some ⟨g, 0, none⟩) v.data.len v.data.cap) v.data.len ((Pl.stk_ zs p z j).map (Value.int .u8))) := hw
    have HT : Hid (Touch (some ⟨g, 0, none⟩) w0 wr) := ht
    have km : ∀ j, wr.cell? ⟨gm, j, none⟩ = (#[.slice v.code.a v.code.len v.code.cap, .int .i64 m.pc, .slice v.regs.a v.regs.len v.regs.cap, .slice v.data.a v.data.len v.data.cap, .slice v.stk.a v.stk.len v.stk.cap, .slice v.inp.a v.inp.len v.inp.cap, .slice v.out.a v.out.len v.out.cap, .int .i64 m.steps, .int .i64 m.fin, .int .i64 m.val] : Array Value)[j]? := fun j => cell_of_row wr gm j _ 27 (0, 0) ((ht.block gm (fun ad had => by simp at had; subst had; exact HNE.out)).trans HM.out)
    rw [HA.out] at km
    clear hw ht HO
    obtain ⟨y, hy⟩ : ∃ y, y = z / Pl.pw (8 * j) := ⟨_, rfl⟩
    have hyb : 0 ≤ y ∧ y ≤ 4294967295 := by
      have p1 := Pl.pw_pos (8 * j)
      have a1 : 0 ≤ z / Pl.pw (8 * j) := Int.ediv_nonneg hzb.1 (by omega)
      have a2 := Int.ediv_le_self (Pl.pw (8 * j)) hzb.1
      rw [hy]; omega
    have HN : Hid (z / Pl.pw (8 * (j + 1)) = y / 256) := by
      show z / Pl.pw (8 * (j + 1)) = y / 256
      rw [hy, Pl.pw_eight, Int.ediv_ediv_of_nonneg (Int.le_of_lt (Pl.pw_pos _))]
    rw [← hy]
    by_cases hlt : j < size
    · have hfz : wr.frozen? ⟨g, p + j, none⟩ = false := HW.out.frozenAt (p + j)
      obtain ⟨c, hc⟩ : ∃ c, wr.cell? ⟨g, p + j, none⟩ = some (.int .u8 c) := by
        have := HW.out.cellAt (p + j) (by omega)
        rw [List.getElem?_map, List.getElem?_eq_getElem (by rw [Pl.stk_length]; have := HL.out; omega)] at this
        exact ⟨_, this⟩
      have HS : Hid ((wr.setCell ⟨g, p + j, none⟩ (.int .u8 (y % 256))).ownsRow lo 5 1 (.slice (some ⟨g, 0, none⟩) v.data.len v.data.cap) v.data.len ((Pl.stk_ zs p z (j + 1)).map (Value.int .u8))) := by
        have h := (HW.out.stored (p + j) (.int .u8 (z / Pl.pw (8 * j) % 256))).1
        rw [← List.map_set, ← hy] at h
        show World.ownsRow _ _ _ _ _ _ _
        unfold Pl.stk_
        rw [← hy]
        exact h
      clear hy
      go_wp2
      go_roundw
      case rel => exact ⟨j + 1, by omega, by go_num, congrArg (Value.int .i64) HN.out.symm, HS.out, HT.out.setCell rfl _⟩
      case measure => simp [intOf]; omega
    · have hje : j = size := by omega
      subst hje
      go_wp2
      go_ret
      exact ⟨rfl, ⟨HW.out, fun n hn => wf_u8 (Pl.stk_bytes HZ.out p z _ n hn)⟩, HT.out⟩
set_option maxHeartbeats 4000000 in
theorem l3Store_stack {lo : Nat} (v : MV) (m : Pl.Mac) (gm : Nat) (kind at_ x : Int) (g p size : Nat) (zs : List Int) (w : World) (hm : w.heap[gm]? = some (.cells #[.slice v.code.a v.code.len v.code.cap, .int .i64 m.pc, .slice v.regs.a v.regs.len v.regs.cap, .slice v.data.a v.data.len v.data.cap, .slice v.stk.a v.stk.len v.stk.cap, .slice v.inp.a v.inp.len v.inp.cap, .slice v.out.a v.out.len v.out.cap, .int .i64 m.steps, .int .i64 m.fin, .int .i64 m.val] 27)) (hb : -9223372036854775808 ≤ at_ ∧ at_ ≤ 9223372036854775807) (hl : v.data.len ≤ 65536) (hl' : v.stk.len ≤ 65536) (hs : 1 ≤ size ∧ size ≤ 4) (hk : Pl.ks kind = size) (ha : (at_.tmod (size : Int) != 0) = false) (hd0 : Hid (at_ < 1048576 ∨ (v.data.len : Int) - size < at_ - 1048576)) (hp : Hid (at_ = 2097152 - (v.stk.len : Int) + p)) (h2 : p + size ≤ v.stk.len) (hadr : v.stk.a = some ⟨g, 0, none⟩) (hne : gm ≠ g)
    (HZ : Hid (∀ n ∈ zs, 0 ≤ n ∧ n ≤ 255)) (ho : Own .u8 5 lo w v.stk.a v.stk.len v.stk.cap zs) :
    Calls Try.prog 37 #[.pointer (some ⟨gm, 0, none⟩), .int .i64 kind, .int .i64 at_, .int .i64 x] w fun e w' => e = .returned (.int .i64 0) ∧ Own .u8 5 lo w' v.stk.a v.stk.len v.stk.cap (Pl.stk_ zs p x size) ∧ Touch v.stk.a w w' := by
  have HL : Hid (zs.length = v.stk.len) := ho.row.1
  rw [hadr] at ho ⊢
  have HO : Hid (w.ownsRow lo 5 1 (.slice (some ⟨g, 0, none⟩) v.stk.len v.stk.cap) v.stk.len (zs.map (Value.int .u8))) := ho.1
  have HM : Hid (w.heap[gm]? = some (.cells #[.slice v.code.a v.code.len v.code.cap, .int .i64 m.pc, .slice v.regs.a v.regs.len v.regs.cap, .slice v.data.a v.data.len v.data.cap, .slice v.stk.a v.stk.len v.stk.cap, .slice v.inp.a v.inp.len v.inp.cap, .slice v.out.a v.out.len v.out.cap, .int .i64 m.steps, .int .i64 m.fin, .int .i64 m.val] 27)) := hm
  have HA : Hid (v.stk.a = some ⟨g, 0, none⟩) := hadr
  have hs0 : ((size : Int) == 0) = false := by simp; omega
  have HNE : Hid (gm ≠ g) := hne
  clear ho hm hne
  rw [← Pl.stk_wd zs p x size hs.2]
  obtain ⟨z, hz⟩ : ∃ z, z = Pl.wd x := ⟨_, rfl⟩
  have hzb := Pl.wd_bd x
  rw [← hz] at hzb ⊢
  have HX : Hid (z = Pl.wd x) := hz
  clear hz hadr
  have w0n : ∃ w0, w0 = w := ⟨w, rfl⟩
  obtain ⟨w0, hw0⟩ := w0n
  rw [← hw0] at HO HM ⊢
  clear hw0
  go_enter Try.func37, Try.ntmps37
  go_wp2_with (first | (go_at_call 36; refine (specKindSize_any _ _).mono ?_; rintro e w' ⟨rfl, hw'⟩; rw [hw', hk]; clear hw') | (go_at_call 81; refine (spot_stack v m gm _ p size _ HM.out hb hl hl' hs hd0.out hp.out h2).mono ?_; rintro e w' ⟨rfl, hw'⟩; rw [hw']; clear hw') | (go_at_call 64; refine (specWord_any _ _).mono ?_; rintro e w' ⟨rfl, hw'⟩; rw [hw', ← HX.out]; clear hw'))
  go_loopw [3, 12] (fun y i wr => ∃ j : Nat, j ≤ size ∧ i = .int .i64 j ∧ y = .int .i64 (z / Pl.pw (8 * j)) ∧ wr.ownsRow lo 5 1 (.slice (some ⟨g, 0, none⟩) v.stk.len v.stk.cap) v.stk.len ((Pl.stk_ zs p z j).map (Value.int .u8)) ∧ Touch (some ⟨g, 0, none⟩) w0 wr) (fun _ i _ => size - (intOf i).toNat)
  case atStart => exact ⟨0, Nat.zero_le _, rfl, by rw [show Pl.pw (8 * 0) = 1 from by decide, Int.ediv_one], HO.out, Touch.refl _ _⟩
  case round =>
    obtain ⟨j, hj, rfl, rfl, hw, ht⟩ := hrel
    have HW : Hid (wr.ownsRow lo 5 1 (.slice (some ⟨g, 0, none⟩) v.stk.len v.stk.cap) v.stk.len ((Pl.stk_ zs p z j).map (Value.int .u8))) := hw
    have HT : Hid (Touch (some ⟨g, 0, none⟩) w0 wr) := ht
    have km : ∀ j, wr.cell? ⟨gm, j, none⟩ = (#[.slice v.code.a v.code.len v.code.cap, .int .i64 m.pc, .slice v.regs.a v.regs.len v.regs.cap, .slice v.data.a v.data.len v.data.cap, .slice v.stk.a v.stk.len v.stk.cap, .slice v.inp.a v.inp.len v.inp.cap, .slice v.out.a v.out.len v.out.cap, .int .i64 m.steps, .int .i64 m.fin, .int .i64 m.val] : Array Value)[j]? := fun j => cell_of_row wr gm j _ 27 (0, 0) ((ht.block gm (fun ad had => by simp at had; subst had; exact HNE.out)).trans HM.out)
    rw [HA.out] at km
    clear hw ht HO
    obtain ⟨y, hy⟩ : ∃ y, y = z / Pl.pw (8 * j) := ⟨_, rfl⟩
    have hyb : 0 ≤ y ∧ y ≤ 4294967295 := by
      have p1 := Pl.pw_pos (8 * j)
      have a1 : 0 ≤ z / Pl.pw (8 * j) := Int.ediv_nonneg hzb.1 (by omega)
      have a2 := Int.ediv_le_self (Pl.pw (8 * j)) hzb.1
      rw [hy]; omega
    have HN : Hid (z / Pl.pw (8 * (j + 1)) = y / 256) := by
      show z / Pl.pw (8 * (j + 1)) = y / 256
      rw [hy, Pl.pw_eight, Int.ediv_ediv_of_nonneg (Int.le_of_lt (Pl.pw_pos _))]
    rw [← hy]
    by_cases hlt : j < size
    · have hfz : wr.frozen? ⟨g, p + j, none⟩ = false := HW.out.frozenAt (p + j)
      obtain ⟨c, hc⟩ : ∃ c, wr.cell? ⟨g, p + j, none⟩ = some (.int .u8 c) := by
        have := HW.out.cellAt (p + j) (by omega)
        rw [List.getElem?_map, List.getElem?_eq_getElem (by rw [Pl.stk_length]; have := HL.out; omega)] at this
        exact ⟨_, this⟩
      have HS : Hid ((wr.setCell ⟨g, p + j, none⟩ (.int .u8 (y % 256))).ownsRow lo 5 1 (.slice (some ⟨g, 0, none⟩) v.stk.len v.stk.cap) v.stk.len ((Pl.stk_ zs p z (j + 1)).map (Value.int .u8))) := by
        have h := (HW.out.stored (p + j) (.int .u8 (z / Pl.pw (8 * j) % 256))).1
        rw [← List.map_set, ← hy] at h
        show World.ownsRow _ _ _ _ _ _ _
        unfold Pl.stk_
        rw [← hy]
        exact h
      clear hy
      go_wp2
      go_roundw
      case rel => exact ⟨j + 1, by omega, by go_num, congrArg (Value.int .i64) HN.out.symm, HS.out, HT.out.setCell rfl _⟩
      case measure => simp [intOf]; omega
    · have hje : j = size := by omega
      subst hje
      go_wp2
      go_ret
      exact ⟨rfl, ⟨HW.out, fun n hn => wf_u8 (Pl.stk_bytes HZ.out p z _ n hn)⟩, HT.out⟩
end Go.Proofs.Ytomhmjhcbencmaa.W
