import Derived.Test.YtfcfnbncgadomaaQ16
import Derived.Test.YtfcfnbncgadomaaQ00
import Derived.Laws.ResultCell
import Derived.Deep.WholeRow
import Derived.Test.YtfcfnbncgadomaaQ04
import Derived.Deep.QuietTactic
import Derived.BigQuiet
set_option linter.unusedVariables false
set_option linter.unusedSimpArgs false
namespace Go.Proofs.Ytfcfnbncgadomaa.W
open Go.RowKit
theorem Run.unfrozen {D : Nat → Prop} {g : Nat} {u : World} {v : MV} {m : Pl.Mac} (h : Run D g u v m) (j : Nat) : u.frozen? ⟨g, j, none⟩ = false := by
  simp [World.frozen?, h.box]
theorem byte_wf1 (x : Int) : (Lit.int .u8 (x % 256)).wf = true := by
  have h1 : 0 ≤ x % 256 := by omega
  have h2 : x % 256 ≤ 255 := by omega
  generalize x % 256 = y at h1 h2
  simp [Lit.wf, IntKind.min, IntKind.max, IntKind.signed, IntKind.bits]
  omega
theorem word_wf {x : Int} (h : 0 ≤ x ∧ x ≤ 4294967295) : (Lit.int .i64 x).wf = true := by
  simp [Lit.wf, IntKind.min, IntKind.max, IntKind.signed, IntKind.bits]
  omega
theorem l3Ecall_run {D : Nat → Prop} {g : Nat} {u : World} {v : MV} {m : Pl.Mac} (h : Run D g u v m) (hv : Pl.Vd m) :
    Calls Try.prog 100 #[.pointer (some ⟨g, 0, none⟩)] u fun e u' => e = .returned (.int .i64 (Pl.ecall m).2) ∧ (∃ v', Run D g u' v' (Pl.ecall m).1) ∧ St D u u' := by
  obtain ⟨r, c, hr, hc, hf⟩ := h.regsAt hv.regs
  have cr : u.cell? ⟨g, 2, none⟩ = some (.slice (some ⟨r, 0, none⟩) 32 c) := by rw [h.cell 2, hr]; rfl
  have c17 : u.cell? ⟨r, 17, none⟩ = some (.int .i64 (Pl.rv m 17)) := hc 17 (by decide)
  have c10 : u.cell? ⟨r, 10, none⟩ = some (.int .i64 (Pl.rv m 10)) := hc 10 (by decide)
  have w10 := hv.word 10 (by decide)
  have hB2 : (blks g v)[2]? = some (some r) := by simp [blks, hr]
  have hgr : g ≠ r := (h.ap.ne 2 (by decide) (by decide) hB2).symm
  have ra : v.regs.a = some ⟨r, 0, none⟩ := by rw [hr]
  unfold Pl.ecall
  by_cases h1 : Pl.rv m 17 = 1
  · rw [if_pos h1]
    rw [h1] at c17
    have hol : m.out.length = v.out.len := h.out.row.1
    by_cases hfull : 10000 ≤ m.out.length
    · rw [if_pos hfull]
      exact (ec_full g r c v.out.a v.out.len v.out.cap (by omega) (by have := hv.out; omega) u cr c17 (h.cell 6)).mono fun e u' ⟨he, hu⟩ => by rw [hu]; exact ⟨he, ⟨v, h⟩, St.refl _ _⟩
    · rw [if_neg hfull]
      refine (ec_put g r c v.out.a v.out.len v.out.cap (Pl.rv m 10) m.out (by omega) w10 u cr c17 (h.cell 6) c10 (h.unfrozen 6) h.out.1 (fun y hy => h.ap.ne 6 (by decide) (by decide) (by rw [own_blk h.out] at hy; rw [← hy]; rfl))).mono fun e u' ⟨he, w1, G, cap, k, ho, hg, hG, hl, hu⟩ => ?_
      rw [own_blk h.out] at hg hG
      have ho' : Own .u8 5 0 w1 (some ⟨G, 0, none⟩) (v.out.len + 1) cap (m.out ++ [Pl.rv m 10 % 256]) := ⟨ho, fun n hn => by
        rcases List.mem_append.1 hn with hn | hn
        · exact h.out.2 n hn
        · simp at hn; rw [hn]; exact byte_wf1 _⟩
      obtain ⟨hR, hS⟩ := h.setOut hg hG hl ho'
      rw [hu]
      exact ⟨he, ⟨_, hR.keep (below_drewN (Below.refl _ _) k)⟩, hS.trans (hR.st (below_drewN (Below.refl _ _) k))⟩
  rw [if_neg h1]
  by_cases h2 : Pl.rv m 17 = 2
  · rw [if_pos h2]
    rw [h2] at c17
    cases hin : m.inp with
    | nil =>
      have hil : v.inp.len = 0 := by have := h.inp.1; rw [hin] at this; simpa using this.symm
      have ci : u.cell? ⟨g, 5, none⟩ = some (.slice v.inp.a 0 v.inp.cap) := by rw [h.cell 5, ← hil]; rfl
      refine (ec_none g r c v.inp.a v.inp.cap _ u cr c17 ci c10 (hf 10)).mono fun e u' ⟨he, hu⟩ => ?_
      have hR := h.setReg ra 10 4294967295 (by decide)
      rw [hin] at hR
      rw [hu]
      exact ⟨he, ⟨v, hR⟩, St.set (h.ne 2 hB2)⟩
    | cons x xs =>
      obtain ⟨i1, i2, i3, i4, i5⟩ := h.inp
      rw [hin] at i1 i4 i5
      have hil : v.inp.len = xs.length + 1 := by simpa using i1.symm
      rcases i5 with i5 | ⟨b, off, ia, _, hb, hcc⟩
      · omega
      have ci : u.cell? ⟨g, 5, none⟩ = some (.slice (some ⟨b, off, none⟩) v.inp.len v.inp.cap) := by rw [h.cell 5, ← ia]; rfl
      have cx : u.cell? ⟨b, off, none⟩ = some (.int .u8 x) := hcc 0 (by omega)
      have hx := Pl.u8_bd (i4 x (by simp))
      refine (ec_get g r c b off v.inp.len v.inp.cap x _ (by omega) i2 (by unfold maxLen at i3; omega) hx u cr c17 ci cx c10 (hf 10) (h.unfrozen 5) hgr).mono fun e u' ⟨he, k, p, hp1, hp2, hu⟩ => ?_
      have hR := (h.setReg ra 10 x (word_wf (by omega))).keep (below_drewN (Below.refl _ _) k)
      have hS : St D u ((u.setCell ⟨r, 10, none⟩ (.int .i64 x)).drewN k) := (St.set (h.ne 2 hB2)).trans ((h.setReg ra 10 x (word_wf (by omega))).st (below_drewN (Below.refl _ _) k))
      have hpb : p.map (·.block) = v.inp.a.map (·.block) := by rw [ia]; rcases hp2 with e | e <;> rw [e] <;> rfl
      have hrow : Row .u8 0 ((u.setCell ⟨r, 10, none⟩ (.int .i64 x)).drewN k) p (v.inp.len - 1) (v.inp.cap - 1) xs := by
        refine ⟨by omega, by omega, by unfold maxLen at i3 ⊢; omega, fun n hn => i4 n (by simp [hn]), ?_⟩
        by_cases hl1 : v.inp.len = 1
        · exact .inl (by omega)
        · refine .inr ⟨b, off + 1, hp1 hl1, Nat.zero_le _, by simpa using hb, fun i hi => ?_⟩
          have hq : b ≠ r := fun e => h.ap 2 5 (by decide) (by decide) (by decide) r hB2 (by simp [blks, ia, e])
          show (u.setCell ⟨r, 10, none⟩ (.int .i64 x)).cell? ⟨b, off + 1 + i, none⟩ = _
          rw [World.cell?_setCell_other _ _ _ _ (by intro e; injection e with e1 _; exact hq e1.symm)]
          have := hcc (i + 1) (by omega)
          rw [show off + 1 + i = off + (i + 1) by omega, this]
          simp
      have hR2 := hR.setInp p (v.inp.len - 1) (v.inp.cap - 1) xs hpb hrow
      rw [hu]
      exact ⟨he, ⟨_, hR2⟩, hS.trans (St.set (hR.ne 0 rfl))⟩
  rw [if_neg h2]
  by_cases h3 : Pl.rv m 17 = 3
  · rw [if_pos h3]
    rw [h3] at c17
    refine (ec_exit g r c (Pl.rv m 10) _ _ u cr c17 c10 (h.cell 8) (h.cell 9) (h.unfrozen 8) (h.unfrozen 9) hgr).mono fun e u' ⟨he, hu⟩ => ?_
    have hR := h.setFin 1
    rw [hu]
    exact ⟨he, ⟨v, hR.setVal (Pl.rv m 10)⟩, (St.set (h.ne 0 rfl)).trans (St.set (hR.ne 0 rfl))⟩
  rw [if_neg h3]
  by_cases h4 : Pl.rv m 17 = 4
  · rw [if_pos h4]
    rw [h4] at c17
    refine (ec_over g r c _ _ u cr c17 (h.cell 8) (h.cell 9) (h.unfrozen 8) (h.unfrozen 9)).mono fun e u' ⟨he, hu⟩ => ?_
    have hR := h.setFin 3
    rw [hu]
    exact ⟨he, ⟨v, hR.setVal 0⟩, (St.set (h.ne 0 rfl)).trans (St.set (hR.ne 0 rfl))⟩
  rw [if_neg h4]
  exact (ec_no g r c (Pl.rv m 17) (by simpa using h1) (by simpa using h2) (by simpa using h3) (by simpa using h4) u cr c17).mono fun e u' ⟨he, hu⟩ => by rw [hu]; exact ⟨he, ⟨v, h⟩, St.refl _ _⟩
end Go.Proofs.Ytfcfnbncgadomaa.W
namespace Go.Proofs.Ytfcfnbncgadomaa.W
open Go.RowKit
end Go.Proofs.Ytfcfnbncgadomaa.W
namespace Go.Proofs.Ytfcfnbncgadomaa.Pl
theorem wd_sg (A : Int) (h1 : 0 ≤ A) (h2 : A ≤ 4294967295) : wd (sg A) = A := by unfold wd sg; omega
end Go.Proofs.Ytfcfnbncgadomaa.Pl
namespace Go.Proofs.Ytfcfnbncgadomaa.W
open Go.RowKit
end Go.Proofs.Ytfcfnbncgadomaa.W
namespace Go.Proofs.Ytfcfnbncgadomaa.W
open Go.RowKit
end Go.Proofs.Ytfcfnbncgadomaa.W
namespace Go.Proofs.Ytfcfnbncgadomaa.W
open Go.RowKit
theorem floor_any (n d : Int) (hd : 0 < d) (hd' : d ≤ 4611686018427387904) (h1 : -4611686018427387904 ≤ n) (h2 : n ≤ 4611686018427387904) (w : World) : Calls Try.prog 109 #[.int .i64 n, .int .i64 d] w fun e w' => e = .returned (.int .i64 (n / d)) ∧ w' = w := by
  have hb := Pl.tdiv_bd n d hd 4611686018427387904 h1 h2
  by_cases h : n.tmod d < 0
  · have h0 : n < 0 := by
      rcases Pl.tmod_cases n d with ⟨h0, h'⟩ | ⟨h0, h'⟩
      · have := Int.emod_nonneg n (Int.ne_of_gt hd); omega
      · exact h0
    have he := Pl.floor_neg n d hd h
    have HE : Hid (n.tdiv d - 1 = n / d) := he
    clear he
    go_enter Try.func109, Try.ntmps109
    go_wp2
    go_ret
    exact ⟨ret_int HE.out, rfl⟩
  · by_cases h0 : 0 ≤ n
    · have h' : ¬ n % d < 0 := by have := Int.emod_nonneg n (Int.ne_of_gt hd); omega
      clear h hb
      go_enter Try.func109, Try.ntmps109
      go_wp2
      go_ret
      exact ⟨rfl, rfl⟩
    · have he := Pl.floor_pos n d hd (by omega)
      have HE : Hid (n.tdiv d = n / d) := he
      clear he
      go_enter Try.func109, Try.ntmps109
      go_wp2
      go_ret
      exact ⟨ret_int HE.out, rfl⟩
theorem ret_ii {k l : IntKind} {a b c d : Int} (h : a = b) (h' : c = d) : Ending.returned (.tuple #[.int k a, .int l c]) = .returned (.tuple #[.int k b, .int l d]) := by rw [h, h']
theorem divide_u (a b : Int) (a1 : 0 ≤ a) (a2 : a ≤ 4294967295) (b1 : 1 ≤ b) (b2 : b ≤ 4294967295) (w : World) : Calls Try.prog 110 #[.int .i64 a, .int .i64 b] w fun e w' => e = .returned (.tuple #[.int .i64 (a / b), .int .i64 (a % b)]) ∧ w' = w := by
  have hb : (b == 0) = false := by simp; omega
  have h1 := Int.ediv_nonneg a1 (by omega : 0 ≤ b)
  have h2 := Int.ediv_le_self b a1
  have h3 := Int.emod_nonneg a (by omega : b ≠ 0)
  have h4 := Int.emod_lt_of_pos a (by omega : 0 < b)
  have h5 : a / b * b = a - a % b := by have := Int.mul_ediv_add_emod a b; rw [Int.mul_comm] at this; omega
  have h6 : 0 ≤ a / b * b := by rw [h5]; have := Int.mul_nonneg h1 (by omega : 0 ≤ b); rw [h5] at this; exact this
  have h7 : a / b * b ≤ 4294967295 := by rw [h5]; omega
  have H : Hid (a / b * b = a - a % b) := h5
  clear h5
  go_enter Try.func110, Try.ntmps110
  go_wp2
  go_ret2
  exact ⟨ret_ii rfl (by rw [H.out]; omega), rfl⟩
theorem divide_s (a b : Int) (a1 : -4294967296 ≤ a) (a2 : a ≤ 4294967296) (hb : ¬ b = 0) (w : World) : Calls Try.prog 110 #[.int .i64 a, .int .i64 b] w fun e w' => e = .returned (.tuple #[.int .i64 (a.tdiv b), .int .i64 (a.tmod b)]) ∧ w' = w := by
  have h1 := Pl.tdiv_small a b 4294967296 a1 a2
  have h2 := Pl.tmod_small a b 4294967296 a1 a2
  have h5 := Pl.tdiv_mul a b
  have h6 : -8589934592 ≤ a.tdiv b * b ∧ a.tdiv b * b ≤ 8589934592 := by rw [h5]; omega
  have H : Hid (a.tdiv b * b = a - a.tmod b) := h5
  clear h5
  go_enter Try.func110, Try.ntmps110
  go_wp2
  go_ret2
  exact ⟨ret_ii rfl (by rw [H.out]; omega), rfl⟩
set_option maxHeartbeats 400000 in
theorem high_any (a b : Int) (a1 : -2147483648 ≤ a) (a2 : a ≤ 4294967295) (b1 : -2147483648 ≤ b) (b2 : b ≤ 4294967295) (w : World) : Calls Try.prog 107 #[.int .i64 a, .int .i64 b] w fun e w' => e = .returned (.int .i64 (a * b / 4294967296)) ∧ w' = w := by
  have hl := Pl.and65535 b
  have p1 : -562949953421312 ≤ a * ((b - b % 65536) / 65536) ∧ a * ((b - b % 65536) / 65536) ≤ 562949953421312 := Pl.mul_bd a _ 4294967296 131072 (by decide) (by omega) (by omega) (by omega) (by omega)
  have p2 : -562949953421312 ≤ a * (b % 65536) ∧ a * (b % 65536) ≤ 562949953421312 := Pl.mul_bd a _ 4294967296 131072 (by decide) (by omega) (by omega) (by omega) (by omega)
  have H : Hid ((a * ((b - b % 65536) / 65536) + a * (b % 65536) / 65536) / 65536 = a * b / 4294967296) := Pl.high_eq a b
  go_enter Try.func107, Try.ntmps107
  go_wp2_with (go_at_call 109; refine (floor_any _ _ (by omega) (by omega) (by omega) (by omega) _).mono ?_; rintro e w' ⟨rfl, rfl⟩)
  go_ret
  exact ⟨ret_int H.out, rfl⟩
set_option maxHeartbeats 400000 in
theorem bits_and_any (A B : Nat) (hA : A < 4294967296) (hB : B < 4294967296) (w : World) : Calls Try.prog 106 #[.int .i64 1, .int .i64 A, .int .i64 B] w fun e w' => e = .returned (.int .i64 ((A &&& B : Nat) : Int)) ∧ w' = w := by
  have hfin := Pl.bsum_and A B hA
  generalize hf : (fun i => A.testBit i && B.testBit i) = f at hfin
  have hfk : ∀ k, f k = (A.testBit k && B.testBit k) := fun k => by rw [← hf]
  have HF : Hid (Pl.bsum f 32 = A &&& B) := hfin
  have HK : Hid (∀ k, f k = (A.testBit k && B.testBit k)) := hfk
  clear hfin hfk hf
  go_enter Try.func106, Try.ntmps106
  go_wp2
  go_loop [7, 8, 9] (fun v p i => ∃ k : Nat, k ≤ 32 ∧ i = .int .i64 k ∧ p = .int .i64 (Pl.pw k) ∧ v = .int .i64 ((Pl.bsum f k : Nat) : Int)) (fun _ _ i => 32 - (intOf i).toNat)
  case atStart => exact ⟨0, Nat.zero_le _, rfl, rfl, rfl⟩
  case round =>
    obtain ⟨k, hk, rfl, rfl, rfl⟩ := hrel
    have h1 := Pl.pw_pos k
    have h2 := Pl.bsum_pw f k
    by_cases hlt : k < 32
    · have h3 : Pl.pw k ≤ 2147483648 := Pl.pw_mono (show k ≤ 31 by omega)
      have q1 : 0 ≤ (A : Int) / Pl.pw k := Int.ediv_nonneg (by omega) (by omega)
      have q2 : 0 ≤ (B : Int) / Pl.pw k := Int.ediv_nonneg (by omega) (by omega)
      have q3 : (A : Int) / Pl.pw k ≤ 4294967295 := by have := Int.ediv_le_self (Pl.pw k) (show 0 ≤ (A : Int) by omega); omega
      have q4 : (B : Int) / Pl.pw k ≤ 4294967295 := by have := Int.ediv_le_self (Pl.pw k) (show 0 ≤ (B : Int) by omega); omega
      have bA := Pl.bit_of A k
      have bB := Pl.bit_of B k
      have S : Hid _ := Pl.bsum_step f k
      have P2 : Hid _ := Pl.pw_succ k
      cases tA : A.testBit k <;> cases tB : B.testBit k
      all_goals
        rw [tA] at bA
        rw [tB] at bB
        simp only [if_true, if_false, Bool.false_eq_true] at bA bB
        have hfv := HK.out k
        rw [tA, tB] at hfv
        have HV : Hid _ := hfv
        clear tA tB hfv
        go_wp2
        go_round
        case rel => exact ⟨k + 1, by omega, by go_num, by rw [P2.out], by rw [S.out, HV.out]; simp⟩
        case measure => simp [intOf]; omega
    · have e : k = 32 := by omega
      subst e
      go_wp2
      go_ret
      exact ⟨ret_int (by rw [HF.out]), rfl⟩
set_option maxHeartbeats 400000 in
theorem bits_or_any (A B : Nat) (hA : A < 4294967296) (hB : B < 4294967296) (w : World) : Calls Try.prog 106 #[.int .i64 2, .int .i64 A, .int .i64 B] w fun e w' => e = .returned (.int .i64 ((A ||| B : Nat) : Int)) ∧ w' = w := by
  have hfin := Pl.bsum_or A B hA hB
  generalize hf : (fun i => A.testBit i || B.testBit i) = f at hfin
  have hfk : ∀ k, f k = (A.testBit k || B.testBit k) := fun k => by rw [← hf]
  have HF : Hid (Pl.bsum f 32 = A ||| B) := hfin
  have HK : Hid (∀ k, f k = (A.testBit k || B.testBit k)) := hfk
  clear hfin hfk hf
  go_enter Try.func106, Try.ntmps106
  go_wp2
  go_loop [7, 8, 9] (fun v p i => ∃ k : Nat, k ≤ 32 ∧ i = .int .i64 k ∧ p = .int .i64 (Pl.pw k) ∧ v = .int .i64 ((Pl.bsum f k : Nat) : Int)) (fun _ _ i => 32 - (intOf i).toNat)
  case atStart => exact ⟨0, Nat.zero_le _, rfl, rfl, rfl⟩
  case round =>
    obtain ⟨k, hk, rfl, rfl, rfl⟩ := hrel
    have h1 := Pl.pw_pos k
    have h2 := Pl.bsum_pw f k
    by_cases hlt : k < 32
    · have h3 : Pl.pw k ≤ 2147483648 := Pl.pw_mono (show k ≤ 31 by omega)
      have q1 : 0 ≤ (A : Int) / Pl.pw k := Int.ediv_nonneg (by omega) (by omega)
      have q2 : 0 ≤ (B : Int) / Pl.pw k := Int.ediv_nonneg (by omega) (by omega)
      have q3 : (A : Int) / Pl.pw k ≤ 4294967295 := by have := Int.ediv_le_self (Pl.pw k) (show 0 ≤ (A : Int) by omega); omega
      have q4 : (B : Int) / Pl.pw k ≤ 4294967295 := by have := Int.ediv_le_self (Pl.pw k) (show 0 ≤ (B : Int) by omega); omega
      have bA := Pl.bit_of A k
      have bB := Pl.bit_of B k
      have S : Hid _ := Pl.bsum_step f k
      have P2 : Hid _ := Pl.pw_succ k
      cases tA : A.testBit k <;> cases tB : B.testBit k
      all_goals
        rw [tA] at bA
        rw [tB] at bB
        simp only [if_true, if_false, Bool.false_eq_true] at bA bB
        have hfv := HK.out k
        rw [tA, tB] at hfv
        have HV : Hid _ := hfv
        clear tA tB hfv
        go_wp2
        go_round
        case rel => exact ⟨k + 1, by omega, by go_num, by rw [P2.out], by rw [S.out, HV.out]; simp⟩
        case measure => simp [intOf]; omega
    · have e : k = 32 := by omega
      subst e
      go_wp2
      go_ret
      exact ⟨ret_int (by rw [HF.out]), rfl⟩
set_option maxHeartbeats 400000 in
theorem bits_xor_any (A B : Nat) (hA : A < 4294967296) (hB : B < 4294967296) (w : World) : Calls Try.prog 106 #[.int .i64 3, .int .i64 A, .int .i64 B] w fun e w' => e = .returned (.int .i64 ((A ^^^ B : Nat) : Int)) ∧ w' = w := by
  have hfin := Pl.bsum_xor A B hA hB
  generalize hf : (fun i => A.testBit i != B.testBit i) = f at hfin
  have hfk : ∀ k, f k = (A.testBit k != B.testBit k) := fun k => by rw [← hf]
  have HF : Hid (Pl.bsum f 32 = A ^^^ B) := hfin
  have HK : Hid (∀ k, f k = (A.testBit k != B.testBit k)) := hfk
  clear hfin hfk hf
  go_enter Try.func106, Try.ntmps106
  go_wp2
  go_loop [7, 8, 9] (fun v p i => ∃ k : Nat, k ≤ 32 ∧ i = .int .i64 k ∧ p = .int .i64 (Pl.pw k) ∧ v = .int .i64 ((Pl.bsum f k : Nat) : Int)) (fun _ _ i => 32 - (intOf i).toNat)
  case atStart => exact ⟨0, Nat.zero_le _, rfl, rfl, rfl⟩
  case round =>
    obtain ⟨k, hk, rfl, rfl, rfl⟩ := hrel
    have h1 := Pl.pw_pos k
    have h2 := Pl.bsum_pw f k
    by_cases hlt : k < 32
    · have h3 : Pl.pw k ≤ 2147483648 := Pl.pw_mono (show k ≤ 31 by omega)
      have q1 : 0 ≤ (A : Int) / Pl.pw k := Int.ediv_nonneg (by omega) (by omega)
      have q2 : 0 ≤ (B : Int) / Pl.pw k := Int.ediv_nonneg (by omega) (by omega)
      have q3 : (A : Int) / Pl.pw k ≤ 4294967295 := by have := Int.ediv_le_self (Pl.pw k) (show 0 ≤ (A : Int) by omega); omega
      have q4 : (B : Int) / Pl.pw k ≤ 4294967295 := by have := Int.ediv_le_self (Pl.pw k) (show 0 ≤ (B : Int) by omega); omega
      have bA := Pl.bit_of A k
      have bB := Pl.bit_of B k
      have S : Hid _ := Pl.bsum_step f k
      have P2 : Hid _ := Pl.pw_succ k
      cases tA : A.testBit k <;> cases tB : B.testBit k
      all_goals
        rw [tA] at bA
        rw [tB] at bB
        simp only [if_true, if_false, Bool.false_eq_true] at bA bB
        have hfv := HK.out k
        rw [tA, tB] at hfv
        have HV : Hid _ := hfv
        clear tA tB hfv
        go_wp2
        go_round
        case rel => exact ⟨k + 1, by omega, by go_num, by rw [P2.out], by rw [S.out, HV.out]; simp⟩
        case measure => simp [intOf]; omega
    · have e : k = 32 := by omega
      subst e
      go_wp2
      go_ret
      exact ⟨ret_int (by rw [HF.out]), rfl⟩
set_option maxHeartbeats 400000 in
theorem shift_l (A n : Int) (k : Nat) (hn : n = k) (hk : k ≤ 31) (a1 : 0 ≤ A) (a2 : A ≤ 4294967295) (w : World) : Calls Try.prog 104 #[.int .i64 3, .int .i64 A, .int .i64 n] w fun e w' => e = .returned (.int .i64 (A % Pl.pw (32 - k) * Pl.pw k)) ∧ ∃ m, w' = w.drewN m := by
  subst hn
  have p1 := Pl.pw_pos k
  have p2 := Pl.pw_pos (32 - k)
  have p3 : Pl.pw k ≤ 4294967296 := Pl.pw_mono (show k ≤ 32 by omega)
  have p4 : Pl.pw (32 - k) ≤ 4294967296 := Pl.pw_mono (show 32 - k ≤ 32 by omega)
  have hz : ¬ Pl.pw (32 - k) = 0 := by omega
  have m1 := Int.emod_nonneg A hz
  have m2 := Int.emod_lt_of_pos A p2
  have m3 : 0 ≤ A % Pl.pw (32 - k) * Pl.pw k := Int.mul_nonneg m1 (by omega)
  have m4 : A % Pl.pw (32 - k) * Pl.pw k ≤ 4294967296 * 4294967296 := (Pl.mul_bd (A % Pl.pw (32 - k)) (Pl.pw k) 4294967296 4294967296 (by decide) (by omega) (by omega) (by omega) (by omega)).2
  have m5 : A % Pl.pw (32 - k) * Pl.pw k ≤ 4294967296 := by
    have e : Pl.pw (32 - k) * Pl.pw k = 4294967296 := by
      unfold Pl.pw; rw [← Int.pow_add]; have : 32 - k + k = 32 := by omega
      rw [this]; decide
    have := Int.mul_le_mul_of_nonneg_right (Int.le_of_lt m2) (Int.le_of_lt p1); omega
  clear m4
  go_enter Try.func104, Try.ntmps104
  go_wp2_with fail
  go_quiet ((first | (go_at_call 37; exact Calls.quiet_of_same (specPower_any _ (32 - k) (by omega) (by omega) _)) | (go_at_call 37; exact Calls.quiet_of_same (specPower_any _ k (by omega) (by omega) _))))
  go_wp2
  go_ret
  exact ⟨rfl, _, rfl⟩
set_option maxHeartbeats 400000 in
theorem shift_r (A n : Int) (k : Nat) (hn : n = k) (hk : k ≤ 31) (a1 : 0 ≤ A) (a2 : A ≤ 4294967295) (w : World) : Calls Try.prog 104 #[.int .i64 7, .int .i64 A, .int .i64 n] w fun e w' => e = .returned (.int .i64 (A / Pl.pw k)) ∧ w' = w := by
  subst hn
  have p1 := Pl.pw_pos k
  have p3 : Pl.pw k ≤ 4294967296 := Pl.pw_mono (show k ≤ 32 by omega)
  have q1 : 0 ≤ A / Pl.pw k := Int.ediv_nonneg (by omega) (by omega)
  have q3 : A / Pl.pw k ≤ 4294967295 := by have := Int.ediv_le_self (Pl.pw k) a1; omega
  go_enter Try.func104, Try.ntmps104
  go_wp2_with (go_at_call 37; refine (specPower_any _ k (by omega) (by omega) _).mono ?_; rintro e w' ⟨rfl, rfl⟩)
  go_ret
  exact ⟨rfl, rfl⟩
set_option maxHeartbeats 400000 in
theorem shift_a (A n : Int) (k : Nat) (hn : n = k) (hk : k ≤ 31) (w : World) : Calls Try.prog 104 #[.int .i64 8, .int .i64 A, .int .i64 n] w fun e w' => e = .returned (.int .i64 (Pl.wd (Pl.sg A / Pl.pw k))) ∧ w' = w := by
  subst hn
  have s1 := Pl.sg_bd A
  have p1 := Pl.pw_pos k
  have p3 : Pl.pw k ≤ 4294967296 := Pl.pw_mono (show k ≤ 32 by omega)
  go_enter Try.func104, Try.ntmps104
  go_wp2_with (first | (go_at_call 105; refine (specSigned_any _ _).mono ?_; rintro e w' ⟨rfl, rfl⟩) | (go_at_call 37; refine (specPower_any _ k (by omega) (by omega) _).mono ?_; rintro e w' ⟨rfl, rfl⟩) | (go_at_call 109; refine (floor_any _ _ (by omega) (by omega) (by omega) (by omega) _).mono ?_; rintro e w' ⟨rfl, rfl⟩) | (go_at_call 38; refine (specWord_any _ _).mono ?_; rintro e w' ⟨rfl, rfl⟩))
  go_ret
  exact ⟨rfl, rfl⟩
set_option maxHeartbeats 400000 in
theorem quot_15 (A B : Int) (a1 : 0 ≤ A) (a2 : A ≤ 4294967295) (b1 : 0 ≤ B) (b2 : B ≤ 4294967295) (w : World) : Calls Try.prog 108 #[.int .i64 15, .int .i64 A, .int .i64 B] w fun e w' => e = .returned (.int .i64 (if B = 0 then 4294967295 else Pl.wd ((Pl.sg A).tdiv (Pl.sg B)))) ∧ w' = w := by
  by_cases h0 : B = 0
  · subst h0
    go_enter Try.func108, Try.ntmps108
    go_wp2
    go_ret
    exact ⟨rfl, rfl⟩
  · rw [if_neg h0]
    have h1 : 1 ≤ B := by omega
    have s1 := Pl.sg_bd A
    have s2 := Pl.sg_bd B
    have s3 : ¬ Pl.sg B = 0 := by unfold Pl.sg; omega
    go_enter Try.func108, Try.ntmps108
    go_wp2_with fail
    refine (divide_u _ _ a1 a2 h1 b2 _).mono ?_
    rintro e w' ⟨rfl, rfl⟩
    go_wp2_with (first | (go_at_call 105; refine (specSigned_any _ _).mono ?_; rintro e w' ⟨rfl, rfl⟩) | (go_at_call 110; refine (divide_s _ _ (by omega) (by omega) s3 _).mono ?_; rintro e w' ⟨rfl, rfl⟩) | (go_at_call 38; refine (specWord_any _ _).mono ?_; rintro e w' ⟨rfl, rfl⟩))
    go_ret
    exact ⟨rfl, rfl⟩
set_option maxHeartbeats 400000 in
theorem quot_16 (A B : Int) (a1 : 0 ≤ A) (a2 : A ≤ 4294967295) (b1 : 0 ≤ B) (b2 : B ≤ 4294967295) (w : World) : Calls Try.prog 108 #[.int .i64 16, .int .i64 A, .int .i64 B] w fun e w' => e = .returned (.int .i64 (if B = 0 then 4294967295 else Pl.wd (A / B))) ∧ w' = w := by
  by_cases h0 : B = 0
  · subst h0
    go_enter Try.func108, Try.ntmps108
    go_wp2
    go_ret
    exact ⟨rfl, rfl⟩
  · rw [if_neg h0]
    have h1 : 1 ≤ B := by omega
    have s1 := Pl.sg_bd A
    have s2 := Pl.sg_bd B
    have s3 : ¬ Pl.sg B = 0 := by unfold Pl.sg; omega
    go_enter Try.func108, Try.ntmps108
    go_wp2_with (first | (go_at_call 110; refine (divide_u _ _ a1 a2 h1 b2 _).mono ?_; rintro e w' ⟨rfl, rfl⟩) | (go_at_call 38; refine (specWord_any _ _).mono ?_; rintro e w' ⟨rfl, rfl⟩))
    go_ret
    exact ⟨rfl, rfl⟩
set_option maxHeartbeats 400000 in
theorem quot_17 (A B : Int) (a1 : 0 ≤ A) (a2 : A ≤ 4294967295) (b1 : 0 ≤ B) (b2 : B ≤ 4294967295) (w : World) : Calls Try.prog 108 #[.int .i64 17, .int .i64 A, .int .i64 B] w fun e w' => e = .returned (.int .i64 (if B = 0 then A else Pl.wd ((Pl.sg A).tmod (Pl.sg B)))) ∧ w' = w := by
  by_cases h0 : B = 0
  · subst h0
    go_enter Try.func108, Try.ntmps108
    go_wp2
    go_ret
    exact ⟨rfl, rfl⟩
  · rw [if_neg h0]
    have h1 : 1 ≤ B := by omega
    have s1 := Pl.sg_bd A
    have s2 := Pl.sg_bd B
    have s3 : ¬ Pl.sg B = 0 := by unfold Pl.sg; omega
    go_enter Try.func108, Try.ntmps108
    go_wp2_with fail
    refine (divide_u _ _ a1 a2 h1 b2 _).mono ?_
    rintro e w' ⟨rfl, rfl⟩
    go_wp2_with (first | (go_at_call 105; refine (specSigned_any _ _).mono ?_; rintro e w' ⟨rfl, rfl⟩) | (go_at_call 110; refine (divide_s _ _ (by omega) (by omega) s3 _).mono ?_; rintro e w' ⟨rfl, rfl⟩) | (go_at_call 38; refine (specWord_any _ _).mono ?_; rintro e w' ⟨rfl, rfl⟩))
    go_ret
    exact ⟨rfl, rfl⟩
set_option maxHeartbeats 400000 in
theorem quot_18 (A B : Int) (a1 : 0 ≤ A) (a2 : A ≤ 4294967295) (b1 : 0 ≤ B) (b2 : B ≤ 4294967295) (w : World) : Calls Try.prog 108 #[.int .i64 18, .int .i64 A, .int .i64 B] w fun e w' => e = .returned (.int .i64 (if B = 0 then A else Pl.wd (A % B))) ∧ w' = w := by
  by_cases h0 : B = 0
  · subst h0
    go_enter Try.func108, Try.ntmps108
    go_wp2
    go_ret
    exact ⟨rfl, rfl⟩
  · rw [if_neg h0]
    have h1 : 1 ≤ B := by omega
    have s1 := Pl.sg_bd A
    have s2 := Pl.sg_bd B
    have s3 : ¬ Pl.sg B = 0 := by unfold Pl.sg; omega
    go_enter Try.func108, Try.ntmps108
    go_wp2_with (first | (go_at_call 110; refine (divide_u _ _ a1 a2 h1 b2 _).mono ?_; rintro e w' ⟨rfl, rfl⟩) | (go_at_call 38; refine (specWord_any _ _).mono ?_; rintro e w' ⟨rfl, rfl⟩))
    go_ret
    exact ⟨rfl, rfl⟩
end Go.Proofs.Ytfcfnbncgadomaa.W
namespace Go.Proofs.Ytfcfnbncgadomaa.W
open Go.RowKit
theorem bits_and_int (A B : Int) (a1 : 0 ≤ A) (a2 : A ≤ 4294967295) (b1 : 0 ≤ B) (b2 : B ≤ 4294967295) (w : World) : Calls Try.prog 106 #[.int .i64 1, .int .i64 A, .int .i64 B] w fun e w' => e = .returned (.int .i64 ((A.toNat &&& B.toNat : Nat) : Int)) ∧ w' = w := by
  obtain ⟨x, rfl⟩ := Int.eq_ofNat_of_zero_le a1
  obtain ⟨y, rfl⟩ := Int.eq_ofNat_of_zero_le b1
  exact bits_and_any x y (by omega) (by omega) w
theorem bits_or_int (A B : Int) (a1 : 0 ≤ A) (a2 : A ≤ 4294967295) (b1 : 0 ≤ B) (b2 : B ≤ 4294967295) (w : World) : Calls Try.prog 106 #[.int .i64 2, .int .i64 A, .int .i64 B] w fun e w' => e = .returned (.int .i64 ((A.toNat ||| B.toNat : Nat) : Int)) ∧ w' = w := by
  obtain ⟨x, rfl⟩ := Int.eq_ofNat_of_zero_le a1
  obtain ⟨y, rfl⟩ := Int.eq_ofNat_of_zero_le b1
  exact bits_or_any x y (by omega) (by omega) w
theorem bits_xor_int (A B : Int) (a1 : 0 ≤ A) (a2 : A ≤ 4294967295) (b1 : 0 ≤ B) (b2 : B ≤ 4294967295) (w : World) : Calls Try.prog 106 #[.int .i64 3, .int .i64 A, .int .i64 B] w fun e w' => e = .returned (.int .i64 ((A.toNat ^^^ B.toNat : Nat) : Int)) ∧ w' = w := by
  obtain ⟨x, rfl⟩ := Int.eq_ofNat_of_zero_le a1
  obtain ⟨y, rfl⟩ := Int.eq_ofNat_of_zero_le b1
  exact bits_xor_any x y (by omega) (by omega) w
theorem specAlu_no (n a b : Int) (h : n < 1 ∨ 18 < n) (w : World) : Calls Try.prog 97 #[.int .i64 n, .int .i64 a, .int .i64 b] w fun e w' => e = .returned (.tuple #[.int .i64 0, .bool false]) ∧ ∃ m, w' = w.drewN m := by
  rcases h with h | h
  · go_enter Try.func97, Try.ntmps97
    go_wp2
    go_ret2
    exact ⟨rfl, 0, rfl⟩
  · have h' : ¬ n < 1 := by omega
    go_enter Try.func97, Try.ntmps97
    go_wp2
    go_ret2
    exact ⟨rfl, 0, rfl⟩
set_option maxHeartbeats 400000 in
theorem specAlu_1 (a b : Int) (w : World) : Calls Try.prog 97 #[.int .i64 1, .int .i64 a, .int .i64 b] w fun e w' => e = .returned (.tuple #[.int .i64 (Pl.al 1 (Pl.wd a) (Pl.wd b)), .bool true]) ∧ ∃ m, w' = w.drewN m := by
  have ha := Pl.wd_bd a
  have hb := Pl.wd_bd b
  go_enter Try.func97, Try.ntmps97
  go_wp2_with (first | (go_at_call 38; refine (specWord_any _ _).mono ?_; rintro e w1 ⟨rfl, rfl⟩) | (go_at_call 105; refine (specSigned_any _ _).mono ?_; rintro e w1 ⟨rfl, rfl⟩))
  go_ret2
  exact ⟨ret2 (rfl) rfl, 0, rfl⟩
set_option maxHeartbeats 400000 in
theorem specAlu_2 (a b : Int) (w : World) : Calls Try.prog 97 #[.int .i64 2, .int .i64 a, .int .i64 b] w fun e w' => e = .returned (.tuple #[.int .i64 (Pl.al 2 (Pl.wd a) (Pl.wd b)), .bool true]) ∧ ∃ m, w' = w.drewN m := by
  have ha := Pl.wd_bd a
  have hb := Pl.wd_bd b
  go_enter Try.func97, Try.ntmps97
  go_wp2_with (first | (go_at_call 38; refine (specWord_any _ _).mono ?_; rintro e w1 ⟨rfl, rfl⟩) | (go_at_call 105; refine (specSigned_any _ _).mono ?_; rintro e w1 ⟨rfl, rfl⟩))
  go_ret2
  exact ⟨ret2 (rfl) rfl, 0, rfl⟩
set_option maxHeartbeats 400000 in
theorem specAlu_3 (a b : Int) (w : World) : Calls Try.prog 97 #[.int .i64 3, .int .i64 a, .int .i64 b] w fun e w' => e = .returned (.tuple #[.int .i64 (Pl.al 3 (Pl.wd a) (Pl.wd b)), .bool true]) ∧ ∃ m, w' = w.drewN m := by
  have ha := Pl.wd_bd a
  have hb := Pl.wd_bd b
  have hs : 0 ≤ Pl.wd b % 32 ∧ Pl.wd b % 32 ≤ 31 := by omega
  go_enter Try.func97, Try.ntmps97
  go_wp2_with (first | (go_at_call 38; refine (specWord_any _ _).mono ?_; rintro e w1 ⟨rfl, rfl⟩) | (go_at_call 105; refine (specSigned_any _ _).mono ?_; rintro e w1 ⟨rfl, rfl⟩) | (go_at_call 104; refine (shift_l _ _ (Pl.wd b % 32).toNat (by omega) (by omega) ha.1 ha.2 _).mono ?_; rintro e w1 ⟨rfl, m, rfl⟩))
  go_ret2
  exact ⟨ret2 rfl rfl, _, rfl⟩
set_option maxHeartbeats 400000 in
theorem specAlu_4 (a b : Int) (w : World) : Calls Try.prog 97 #[.int .i64 4, .int .i64 a, .int .i64 b] w fun e w' => e = .returned (.tuple #[.int .i64 (Pl.al 4 (Pl.wd a) (Pl.wd b)), .bool true]) ∧ ∃ m, w' = w.drewN m := by
  have ha := Pl.wd_bd a
  have hb := Pl.wd_bd b
  have ha' := Pl.sg_bd (Pl.wd a)
  have hb' := Pl.sg_bd (Pl.wd b)
  by_cases h : Pl.sg (Pl.wd a) < Pl.sg (Pl.wd b)
  · go_enter Try.func97, Try.ntmps97
    go_wp2_with (first | (go_at_call 38; refine (specWord_any _ _).mono ?_; rintro e w1 ⟨rfl, rfl⟩) | (go_at_call 105; refine (specSigned_any _ _).mono ?_; rintro e w1 ⟨rfl, rfl⟩))
    go_ret2
    exact ⟨ret2 (by show _ = Pl.lt01 _ _; rw [Pl.lt01, if_pos h]) rfl, 0, rfl⟩
  · go_enter Try.func97, Try.ntmps97
    go_wp2_with (first | (go_at_call 38; refine (specWord_any _ _).mono ?_; rintro e w1 ⟨rfl, rfl⟩) | (go_at_call 105; refine (specSigned_any _ _).mono ?_; rintro e w1 ⟨rfl, rfl⟩))
    go_ret2
    exact ⟨ret2 (by show _ = Pl.lt01 _ _; rw [Pl.lt01, if_neg (by omega)]) rfl, 0, rfl⟩
set_option maxHeartbeats 400000 in
theorem specAlu_5 (a b : Int) (w : World) : Calls Try.prog 97 #[.int .i64 5, .int .i64 a, .int .i64 b] w fun e w' => e = .returned (.tuple #[.int .i64 (Pl.al 5 (Pl.wd a) (Pl.wd b)), .bool true]) ∧ ∃ m, w' = w.drewN m := by
  have ha := Pl.wd_bd a
  have hb := Pl.wd_bd b
  have ha' := Pl.sg_bd (Pl.wd a)
  have hb' := Pl.sg_bd (Pl.wd b)
  by_cases h : Pl.wd a < Pl.wd b
  · go_enter Try.func97, Try.ntmps97
    go_wp2_with (first | (go_at_call 38; refine (specWord_any _ _).mono ?_; rintro e w1 ⟨rfl, rfl⟩) | (go_at_call 105; refine (specSigned_any _ _).mono ?_; rintro e w1 ⟨rfl, rfl⟩))
    go_ret2
    exact ⟨ret2 (by show _ = Pl.lt01 _ _; rw [Pl.lt01, if_pos h]) rfl, 0, rfl⟩
  · go_enter Try.func97, Try.ntmps97
    go_wp2_with (first | (go_at_call 38; refine (specWord_any _ _).mono ?_; rintro e w1 ⟨rfl, rfl⟩) | (go_at_call 105; refine (specSigned_any _ _).mono ?_; rintro e w1 ⟨rfl, rfl⟩))
    go_ret2
    exact ⟨ret2 (by show _ = Pl.lt01 _ _; rw [Pl.lt01, if_neg (by omega)]) rfl, 0, rfl⟩
set_option maxHeartbeats 400000 in
theorem specAlu_6 (a b : Int) (w : World) : Calls Try.prog 97 #[.int .i64 6, .int .i64 a, .int .i64 b] w fun e w' => e = .returned (.tuple #[.int .i64 (Pl.al 6 (Pl.wd a) (Pl.wd b)), .bool true]) ∧ ∃ m, w' = w.drewN m := by
  have ha := Pl.wd_bd a
  have hb := Pl.wd_bd b
  go_enter Try.func97, Try.ntmps97
  go_wp2_with (first | (go_at_call 38; refine (specWord_any _ _).mono ?_; rintro e w1 ⟨rfl, rfl⟩) | (go_at_call 105; refine (specSigned_any _ _).mono ?_; rintro e w1 ⟨rfl, rfl⟩) | (go_at_call 106; refine (bits_xor_int _ _ ha.1 ha.2 hb.1 hb.2 _).mono ?_; rintro e w1 ⟨rfl, rfl⟩))
  go_ret2
  exact ⟨ret2 (rfl) rfl, 0, rfl⟩
set_option maxHeartbeats 400000 in
theorem specAlu_7 (a b : Int) (w : World) : Calls Try.prog 97 #[.int .i64 7, .int .i64 a, .int .i64 b] w fun e w' => e = .returned (.tuple #[.int .i64 (Pl.al 7 (Pl.wd a) (Pl.wd b)), .bool true]) ∧ ∃ m, w' = w.drewN m := by
  have ha := Pl.wd_bd a
  have hb := Pl.wd_bd b
  have hs : 0 ≤ Pl.wd b % 32 ∧ Pl.wd b % 32 ≤ 31 := by omega
  go_enter Try.func97, Try.ntmps97
  go_wp2_with (first | (go_at_call 38; refine (specWord_any _ _).mono ?_; rintro e w1 ⟨rfl, rfl⟩) | (go_at_call 105; refine (specSigned_any _ _).mono ?_; rintro e w1 ⟨rfl, rfl⟩) | (go_at_call 104; refine (shift_r _ _ (Pl.wd b % 32).toNat (by omega) (by omega) ha.1 ha.2 _).mono ?_; rintro e w1 ⟨rfl, rfl⟩))
  go_ret2
  exact ⟨ret2 (rfl) rfl, 0, rfl⟩
set_option maxHeartbeats 400000 in
theorem specAlu_8 (a b : Int) (w : World) : Calls Try.prog 97 #[.int .i64 8, .int .i64 a, .int .i64 b] w fun e w' => e = .returned (.tuple #[.int .i64 (Pl.al 8 (Pl.wd a) (Pl.wd b)), .bool true]) ∧ ∃ m, w' = w.drewN m := by
  have ha := Pl.wd_bd a
  have hb := Pl.wd_bd b
  have hs : 0 ≤ Pl.wd b % 32 ∧ Pl.wd b % 32 ≤ 31 := by omega
  go_enter Try.func97, Try.ntmps97
  go_wp2_with (first | (go_at_call 38; refine (specWord_any _ _).mono ?_; rintro e w1 ⟨rfl, rfl⟩) | (go_at_call 105; refine (specSigned_any _ _).mono ?_; rintro e w1 ⟨rfl, rfl⟩) | (go_at_call 104; refine (shift_a _ _ (Pl.wd b % 32).toNat (by omega) (by omega) _).mono ?_; rintro e w1 ⟨rfl, rfl⟩))
  go_ret2
  exact ⟨ret2 (rfl) rfl, 0, rfl⟩
set_option maxHeartbeats 400000 in
theorem specAlu_9 (a b : Int) (w : World) : Calls Try.prog 97 #[.int .i64 9, .int .i64 a, .int .i64 b] w fun e w' => e = .returned (.tuple #[.int .i64 (Pl.al 9 (Pl.wd a) (Pl.wd b)), .bool true]) ∧ ∃ m, w' = w.drewN m := by
  have ha := Pl.wd_bd a
  have hb := Pl.wd_bd b
  go_enter Try.func97, Try.ntmps97
  go_wp2_with (first | (go_at_call 38; refine (specWord_any _ _).mono ?_; rintro e w1 ⟨rfl, rfl⟩) | (go_at_call 105; refine (specSigned_any _ _).mono ?_; rintro e w1 ⟨rfl, rfl⟩) | (go_at_call 106; refine (bits_or_int _ _ ha.1 ha.2 hb.1 hb.2 _).mono ?_; rintro e w1 ⟨rfl, rfl⟩))
  go_ret2
  exact ⟨ret2 (rfl) rfl, 0, rfl⟩
end Go.Proofs.Ytfcfnbncgadomaa.W
namespace Go.Proofs.Ytfcfnbncgadomaa.W
open Go.RowKit
theorem quotA_15 (A B : Int) (a1 : 0 ≤ A) (a2 : A ≤ 4294967295) (b1 : 0 ≤ B) (b2 : B ≤ 4294967295) (w : World) : Calls Try.prog 108 #[.int .i64 15, .int .i64 A, .int .i64 B] w fun e w' => e = .returned (.int .i64 (Pl.al 15 A B)) ∧ w' = w := quot_15 A B a1 a2 b1 b2 w
theorem quotA_16 (A B : Int) (a1 : 0 ≤ A) (a2 : A ≤ 4294967295) (b1 : 0 ≤ B) (b2 : B ≤ 4294967295) (w : World) : Calls Try.prog 108 #[.int .i64 16, .int .i64 A, .int .i64 B] w fun e w' => e = .returned (.int .i64 (Pl.al 16 A B)) ∧ w' = w := quot_16 A B a1 a2 b1 b2 w
theorem quotA_17 (A B : Int) (a1 : 0 ≤ A) (a2 : A ≤ 4294967295) (b1 : 0 ≤ B) (b2 : B ≤ 4294967295) (w : World) : Calls Try.prog 108 #[.int .i64 17, .int .i64 A, .int .i64 B] w fun e w' => e = .returned (.int .i64 (Pl.al 17 A B)) ∧ w' = w := quot_17 A B a1 a2 b1 b2 w
theorem quotA_18 (A B : Int) (a1 : 0 ≤ A) (a2 : A ≤ 4294967295) (b1 : 0 ≤ B) (b2 : B ≤ 4294967295) (w : World) : Calls Try.prog 108 #[.int .i64 18, .int .i64 A, .int .i64 B] w fun e w' => e = .returned (.int .i64 (Pl.al 18 A B)) ∧ w' = w := quot_18 A B a1 a2 b1 b2 w
set_option maxHeartbeats 400000 in
theorem specAlu_10 (a b : Int) (w : World) : Calls Try.prog 97 #[.int .i64 10, .int .i64 a, .int .i64 b] w fun e w' => e = .returned (.tuple #[.int .i64 (Pl.al 10 (Pl.wd a) (Pl.wd b)), .bool true]) ∧ ∃ m, w' = w.drewN m := by
  have ha := Pl.wd_bd a
  have hb := Pl.wd_bd b
  go_enter Try.func97, Try.ntmps97
  go_wp2_with (first | (go_at_call 38; refine (specWord_any _ _).mono ?_; rintro e w1 ⟨rfl, rfl⟩) | (go_at_call 105; refine (specSigned_any _ _).mono ?_; rintro e w1 ⟨rfl, rfl⟩) | (go_at_call 106; refine (bits_and_int _ _ ha.1 ha.2 hb.1 hb.2 _).mono ?_; rintro e w1 ⟨rfl, rfl⟩))
  go_ret2
  exact ⟨ret2 (rfl) rfl, 0, rfl⟩
set_option maxHeartbeats 400000 in
theorem specAlu_11 (a b : Int) (w : World) : Calls Try.prog 97 #[.int .i64 11, .int .i64 a, .int .i64 b] w fun e w' => e = .returned (.tuple #[.int .i64 (Pl.al 11 (Pl.wd a) (Pl.wd b)), .bool true]) ∧ ∃ m, w' = w.drewN m := by
  have ha := Pl.wd_bd a
  have hb := Pl.wd_bd b
  have p1 : -281474976645120 ≤ Pl.wd a % 65536 * Pl.wd b ∧ Pl.wd a % 65536 * Pl.wd b ≤ 281474976645120 := by
    have := Pl.mul_bd (Pl.wd a % 65536) (Pl.wd b) 65535 4294967295 (by decide) (by omega) (by omega) (by omega) (by omega); omega
  have p2 : 0 ≤ Pl.wd a / 65536 * (Pl.wd b % 65536) := Int.mul_nonneg (by omega) (by omega)
  have p3 : Pl.wd a / 65536 * (Pl.wd b % 65536) ≤ 4294836225 := (Pl.mul_bd (Pl.wd a / 65536) (Pl.wd b % 65536) 65535 65535 (by decide) (by omega) (by omega) (by omega) (by omega)).2
  go_enter Try.func97, Try.ntmps97
  go_wp2_with (first | (go_at_call 38; refine (specWord_any _ _).mono ?_; rintro e w1 ⟨rfl, rfl⟩) | (go_at_call 105; refine (specSigned_any _ _).mono ?_; rintro e w1 ⟨rfl, rfl⟩))
  go_ret2
  exact ⟨ret2 (Pl.mul_eq _ _) rfl, 0, rfl⟩
set_option maxHeartbeats 400000 in
theorem specAlu_12 (a b : Int) (w : World) : Calls Try.prog 97 #[.int .i64 12, .int .i64 a, .int .i64 b] w fun e w' => e = .returned (.tuple #[.int .i64 (Pl.al 12 (Pl.wd a) (Pl.wd b)), .bool true]) ∧ ∃ m, w' = w.drewN m := by
  have ha := Pl.wd_bd a
  have hb := Pl.wd_bd b
  have ha' := Pl.sg_bd (Pl.wd a)
  have hb' := Pl.sg_bd (Pl.wd b)
  go_enter Try.func97, Try.ntmps97
  go_wp2_with (first | (go_at_call 38; refine (specWord_any _ _).mono ?_; rintro e w1 ⟨rfl, rfl⟩) | (go_at_call 105; refine (specSigned_any _ _).mono ?_; rintro e w1 ⟨rfl, rfl⟩) | (go_at_call 107; refine (high_any _ _ (by omega) (by omega) (by omega) (by omega) _).mono ?_; rintro e w1 ⟨rfl, rfl⟩))
  go_ret2
  exact ⟨ret2 (rfl) rfl, 0, rfl⟩
set_option maxHeartbeats 400000 in
theorem specAlu_13 (a b : Int) (w : World) : Calls Try.prog 97 #[.int .i64 13, .int .i64 a, .int .i64 b] w fun e w' => e = .returned (.tuple #[.int .i64 (Pl.al 13 (Pl.wd a) (Pl.wd b)), .bool true]) ∧ ∃ m, w' = w.drewN m := by
  have ha := Pl.wd_bd a
  have hb := Pl.wd_bd b
  have ha' := Pl.sg_bd (Pl.wd a)
  have hb' := Pl.sg_bd (Pl.wd b)
  go_enter Try.func97, Try.ntmps97
  go_wp2_with (first | (go_at_call 38; refine (specWord_any _ _).mono ?_; rintro e w1 ⟨rfl, rfl⟩) | (go_at_call 105; refine (specSigned_any _ _).mono ?_; rintro e w1 ⟨rfl, rfl⟩) | (go_at_call 107; refine (high_any _ _ (by omega) (by omega) (by omega) (by omega) _).mono ?_; rintro e w1 ⟨rfl, rfl⟩))
  go_ret2
  exact ⟨ret2 (rfl) rfl, 0, rfl⟩
set_option maxHeartbeats 400000 in
theorem specAlu_14 (a b : Int) (w : World) : Calls Try.prog 97 #[.int .i64 14, .int .i64 a, .int .i64 b] w fun e w' => e = .returned (.tuple #[.int .i64 (Pl.al 14 (Pl.wd a) (Pl.wd b)), .bool true]) ∧ ∃ m, w' = w.drewN m := by
  have ha := Pl.wd_bd a
  have hb := Pl.wd_bd b
  have ha' := Pl.sg_bd (Pl.wd a)
  have hb' := Pl.sg_bd (Pl.wd b)
  go_enter Try.func97, Try.ntmps97
  go_wp2_with (first | (go_at_call 38; refine (specWord_any _ _).mono ?_; rintro e w1 ⟨rfl, rfl⟩) | (go_at_call 105; refine (specSigned_any _ _).mono ?_; rintro e w1 ⟨rfl, rfl⟩) | (go_at_call 107; refine (high_any _ _ (by omega) (by omega) (by omega) (by omega) _).mono ?_; rintro e w1 ⟨rfl, rfl⟩))
  go_ret2
  exact ⟨ret2 (rfl) rfl, 0, rfl⟩
set_option maxHeartbeats 400000 in
theorem specAlu_15 (a b : Int) (w : World) : Calls Try.prog 97 #[.int .i64 15, .int .i64 a, .int .i64 b] w fun e w' => e = .returned (.tuple #[.int .i64 (Pl.al 15 (Pl.wd a) (Pl.wd b)), .bool true]) ∧ ∃ m, w' = w.drewN m := by
  have ha := Pl.wd_bd a
  have hb := Pl.wd_bd b
  go_enter Try.func97, Try.ntmps97
  go_wp2_with (first | (go_at_call 38; refine (specWord_any _ _).mono ?_; rintro e w1 ⟨rfl, rfl⟩) | (go_at_call 105; refine (specSigned_any _ _).mono ?_; rintro e w1 ⟨rfl, rfl⟩) | (go_at_call 108; refine (quotA_15 _ _ ha.1 ha.2 hb.1 hb.2 _).mono ?_; rintro e w1 ⟨rfl, rfl⟩))
  go_ret2
  exact ⟨ret2 (rfl) rfl, 0, rfl⟩
set_option maxHeartbeats 400000 in
theorem specAlu_16 (a b : Int) (w : World) : Calls Try.prog 97 #[.int .i64 16, .int .i64 a, .int .i64 b] w fun e w' => e = .returned (.tuple #[.int .i64 (Pl.al 16 (Pl.wd a) (Pl.wd b)), .bool true]) ∧ ∃ m, w' = w.drewN m := by
  have ha := Pl.wd_bd a
  have hb := Pl.wd_bd b
  go_enter Try.func97, Try.ntmps97
  go_wp2_with (first | (go_at_call 38; refine (specWord_any _ _).mono ?_; rintro e w1 ⟨rfl, rfl⟩) | (go_at_call 105; refine (specSigned_any _ _).mono ?_; rintro e w1 ⟨rfl, rfl⟩) | (go_at_call 108; refine (quotA_16 _ _ ha.1 ha.2 hb.1 hb.2 _).mono ?_; rintro e w1 ⟨rfl, rfl⟩))
  go_ret2
  exact ⟨ret2 (rfl) rfl, 0, rfl⟩
set_option maxHeartbeats 400000 in
theorem specAlu_17 (a b : Int) (w : World) : Calls Try.prog 97 #[.int .i64 17, .int .i64 a, .int .i64 b] w fun e w' => e = .returned (.tuple #[.int .i64 (Pl.al 17 (Pl.wd a) (Pl.wd b)), .bool true]) ∧ ∃ m, w' = w.drewN m := by
  have ha := Pl.wd_bd a
  have hb := Pl.wd_bd b
  go_enter Try.func97, Try.ntmps97
  go_wp2_with (first | (go_at_call 38; refine (specWord_any _ _).mono ?_; rintro e w1 ⟨rfl, rfl⟩) | (go_at_call 105; refine (specSigned_any _ _).mono ?_; rintro e w1 ⟨rfl, rfl⟩) | (go_at_call 108; refine (quotA_17 _ _ ha.1 ha.2 hb.1 hb.2 _).mono ?_; rintro e w1 ⟨rfl, rfl⟩))
  go_ret2
  exact ⟨ret2 (rfl) rfl, 0, rfl⟩
set_option maxHeartbeats 400000 in
theorem specAlu_18 (a b : Int) (w : World) : Calls Try.prog 97 #[.int .i64 18, .int .i64 a, .int .i64 b] w fun e w' => e = .returned (.tuple #[.int .i64 (Pl.al 18 (Pl.wd a) (Pl.wd b)), .bool true]) ∧ ∃ m, w' = w.drewN m := by
  have ha := Pl.wd_bd a
  have hb := Pl.wd_bd b
  go_enter Try.func97, Try.ntmps97
  go_wp2_with (first | (go_at_call 38; refine (specWord_any _ _).mono ?_; rintro e w1 ⟨rfl, rfl⟩) | (go_at_call 105; refine (specSigned_any _ _).mono ?_; rintro e w1 ⟨rfl, rfl⟩) | (go_at_call 108; refine (quotA_18 _ _ ha.1 ha.2 hb.1 hb.2 _).mono ?_; rintro e w1 ⟨rfl, rfl⟩))
  go_ret2
  exact ⟨ret2 (rfl) rfl, 0, rfl⟩
end Go.Proofs.Ytfcfnbncgadomaa.W
namespace Go.Proofs.Ytfcfnbncgadomaa.W
open Go.RowKit
theorem op_cases (n : Int) (h1 : 1 ≤ n) (h2 : n ≤ 18) : n = 1 ∨ n = 2 ∨ n = 3 ∨ n = 4 ∨ n = 5 ∨ n = 6 ∨ n = 7 ∨ n = 8 ∨ n = 9 ∨ n = 10 ∨ n = 11 ∨ n = 12 ∨ n = 13 ∨ n = 14 ∨ n = 15 ∨ n = 16 ∨ n = 17 ∨ n = 18 := by omega
theorem specAlu_yes (n a b : Int) (h1 : 1 ≤ n) (h2 : n ≤ 18) (w : World) : Calls Try.prog 97 #[.int .i64 n, .int .i64 a, .int .i64 b] w fun e w' => e = .returned (.tuple #[.int .i64 (Pl.al n.toNat (Pl.wd a) (Pl.wd b)), .bool true]) ∧ ∃ m, w' = w.drewN m := by
  rcases op_cases n h1 h2 with rfl | rfl | rfl | rfl | rfl | rfl | rfl | rfl | rfl | rfl | rfl | rfl | rfl | rfl | rfl | rfl | rfl | rfl
  · exact specAlu_1 a b w
  · exact specAlu_2 a b w
  · exact specAlu_3 a b w
  · exact specAlu_4 a b w
  · exact specAlu_5 a b w
  · exact specAlu_6 a b w
  · exact specAlu_7 a b w
  · exact specAlu_8 a b w
  · exact specAlu_9 a b w
  · exact specAlu_10 a b w
  · exact specAlu_11 a b w
  · exact specAlu_12 a b w
  · exact specAlu_13 a b w
  · exact specAlu_14 a b w
  · exact specAlu_15 a b w
  · exact specAlu_16 a b w
  · exact specAlu_17 a b w
  · exact specAlu_18 a b w
end Go.Proofs.Ytfcfnbncgadomaa.W
namespace Go.Proofs.Ytfcfnbncgadomaa.Pl
theorem split_mul (X Y : Int) : X * Y = X / 65536 * (Y / 65536) * 4294967296 + (X % 65536 * (Y / 65536) + X / 65536 * (Y % 65536)) * 65536 + X % 65536 * (Y % 65536) := by
  have hx : X = X % 65536 + 65536 * (X / 65536) := by omega
  have hy : Y = Y % 65536 + 65536 * (Y / 65536) := by omega
  generalize X % 65536 = xl at *
  generalize X / 65536 = xh at *
  generalize Y % 65536 = yl at *
  generalize Y / 65536 = yh at *
  subst hx hy
  rw [Int.add_mul, Int.mul_add, Int.mul_add]
  have e1 : xl * (65536 * yh) = xl * yh * 65536 := by rw [← Int.mul_assoc, Int.mul_comm xl 65536, Int.mul_assoc, Int.mul_comm]
  have e2 : 65536 * xh * yl = xh * yl * 65536 := by rw [Int.mul_assoc, Int.mul_comm]
  have e3 : 65536 * xh * (65536 * yh) = xh * yh * 4294967296 := by
    rw [Int.mul_assoc, Int.mul_comm xh, Int.mul_assoc 65536 yh xh, ← Int.mul_assoc, Int.mul_comm yh xh, Int.mul_comm]; rfl
  rw [e1, e2, e3, Int.add_mul]; omega
theorem e11 (X Y : Int) : (X % 65536 * (Y % 65536) + (X % 65536 * (Y / 65536) + X / 65536 * (Y % 65536)) % 65536 * 65536) % 4294967296 = al 11 X Y := by
  show _ = wd (X * Y)
  rw [split_mul X Y]
  generalize X % 65536 * (Y % 65536) = p
  generalize X % 65536 * (Y / 65536) + X / 65536 * (Y % 65536) = m
  generalize X / 65536 * (Y / 65536) = h
  unfold wd; omega
theorem e14 (X Y : Int) (x0 : 0 ≤ X) (x1 : X ≤ 4294967295) (y0 : 0 ≤ Y) (y1 : Y ≤ 4294967295) : X / 65536 * (Y / 65536) + (X % 65536 * (Y / 65536) + X / 65536 * (Y % 65536)) / 65536 + (X % 65536 * (Y % 65536) + (X % 65536 * (Y / 65536) + X / 65536 * (Y % 65536)) % 65536 * 65536) / 4294967296 = al 14 X Y := by
  have hp : X * Y / 4294967296 = X / 65536 * (Y / 65536) + (X % 65536 * (Y / 65536) + X / 65536 * (Y % 65536)) / 65536 + (X % 65536 * (Y % 65536) + (X % 65536 * (Y / 65536) + X / 65536 * (Y % 65536)) % 65536 * 65536) / 4294967296 := by
    rw [split_mul X Y]
    generalize X % 65536 * (Y % 65536) = p
    generalize X % 65536 * (Y / 65536) + X / 65536 * (Y % 65536) = m
    generalize X / 65536 * (Y / 65536) = h
    omega
  show _ = wd (X * Y / 4294967296)
  rw [← hp]
  have h1 := Int.mul_nonneg x0 y0
  have h2 := (mul_bd X Y 4294967295 4294967295 (by decide) (by omega) (by omega) (by omega) (by omega)).2
  unfold wd; omega
theorem al14_bd (X Y : Int) : 0 ≤ al 14 X Y ∧ al 14 X Y ≤ 4294967295 := wd_bd _
theorem sg_case (X : Int) (x0 : 0 ≤ X) (x1 : X ≤ 4294967295) : (2147483648 ≤ X ∧ sg X = X - 4294967296) ∨ (X < 2147483648 ∧ sg X = X) := by unfold sg; omega
theorem e13h (X Y : Int) (x0 : 2147483648 ≤ X) (x1 : X ≤ 4294967295) : wd (al 14 X Y - Y) = al 13 X Y := by
  have hs : sg X = X - 4294967296 := by unfold sg; omega
  show wd (wd (X * Y / 4294967296) - Y) = wd (sg X * Y / 4294967296)
  have e : sg X * Y = X * Y - 4294967296 * Y := by rw [hs, Int.sub_mul]
  rw [e]; generalize X * Y = z; unfold wd; omega
theorem e13l (X Y : Int) (x0 : 0 ≤ X) (x1 : X < 2147483648) : wd (al 14 X Y) = al 13 X Y := by
  have hs : sg X = X := by unfold sg; omega
  show wd (wd (X * Y / 4294967296)) = wd (sg X * Y / 4294967296)
  rw [hs]; generalize X * Y = z; unfold wd; omega
theorem e12hh (X Y : Int) (x0 : 2147483648 ≤ X) (x1 : X ≤ 4294967295) (y0 : 2147483648 ≤ Y) (y1 : Y ≤ 4294967295) : wd (al 14 X Y - Y - X) = al 12 X Y := by
  have hs : sg X = X - 4294967296 := by unfold sg; omega
  have ht : sg Y = Y - 4294967296 := by unfold sg; omega
  show wd (wd (X * Y / 4294967296) - Y - X) = wd (sg X * sg Y / 4294967296)
  have e : sg X * sg Y = X * Y - 4294967296 * Y - 4294967296 * X + 18446744073709551616 := by
    rw [hs, ht, Int.sub_mul, Int.mul_sub]; omega
  rw [e]; generalize X * Y = z; unfold wd; omega
theorem e12hl (X Y : Int) (x0 : 2147483648 ≤ X) (x1 : X ≤ 4294967295) (y0 : 0 ≤ Y) (y1 : Y < 2147483648) : wd (al 14 X Y - Y) = al 12 X Y := by
  have hs : sg X = X - 4294967296 := by unfold sg; omega
  have ht : sg Y = Y := by unfold sg; omega
  show wd (wd (X * Y / 4294967296) - Y) = wd (sg X * sg Y / 4294967296)
  have e : sg X * sg Y = X * Y - 4294967296 * Y := by rw [hs, ht, Int.sub_mul]
  rw [e]; generalize X * Y = z; unfold wd; omega
theorem e12lh (X Y : Int) (x0 : 0 ≤ X) (x1 : X < 2147483648) (y0 : 2147483648 ≤ Y) (y1 : Y ≤ 4294967295) : wd (al 14 X Y - X) = al 12 X Y := by
  have hs : sg X = X := by unfold sg; omega
  have ht : sg Y = Y - 4294967296 := by unfold sg; omega
  show wd (wd (X * Y / 4294967296) - X) = wd (sg X * sg Y / 4294967296)
  have e : sg X * sg Y = X * Y - 4294967296 * X := by rw [hs, ht, Int.mul_sub]; omega
  rw [e]; generalize X * Y = z; unfold wd; omega
theorem e12ll (X Y : Int) (x0 : 0 ≤ X) (x1 : X < 2147483648) (y0 : 0 ≤ Y) (y1 : Y < 2147483648) : wd (al 14 X Y) = al 12 X Y := by
  have hs : sg X = X := by unfold sg; omega
  have ht : sg Y = Y := by unfold sg; omega
  show wd (wd (X * Y / 4294967296)) = wd (sg X * sg Y / 4294967296)
  rw [hs, ht]; generalize X * Y = z; unfold wd; omega
theorem z16 (X Y : Int) (h : Y = 0) : al 16 X Y = 4294967295 := by subst h; rfl
theorem z15 (X Y : Int) (h : Y = 0) : al 15 X Y = 4294967295 := by subst h; rfl
theorem z18 (X Y : Int) (h : Y = 0) : al 18 X Y = X := by subst h; rfl
theorem z17 (X Y : Int) (h : Y = 0) : al 17 X Y = X := by subst h; rfl
theorem udiv (X Y : Int) (x0 : 0 ≤ X) (x1 : X ≤ 4294967295) (h : 1 ≤ Y) : al 16 X Y * Y + al 18 X Y = X ∧ al 18 X Y < Y ∧ 0 ≤ al 18 X Y ∧ 0 ≤ al 16 X Y * Y ∧ al 16 X Y * Y ≤ 4294967295 := by
  have hn : ¬ Y = 0 := by omega
  have e16 : al 16 X Y = X / Y := by
    show (if Y = 0 then _ else _) = _
    rw [if_neg hn]; exact wd_word _ (Int.ediv_nonneg x0 (by omega)) (Int.le_trans (Int.ediv_le_self _ x0) x1)
  have h3 := Int.emod_nonneg X hn
  have h4 := Int.emod_lt_of_pos X (by omega : 0 < Y)
  have h5 : X / Y * Y = X - X % Y := by have := Int.mul_ediv_add_emod X Y; rw [Int.mul_comm] at this; omega
  have h6 : 0 ≤ X / Y * Y := Int.mul_nonneg (Int.ediv_nonneg x0 (by omega)) (by omega)
  have e18 : al 18 X Y = X % Y := by
    show (if Y = 0 then _ else _) = _
    rw [if_neg hn]; exact wd_word _ h3 (by omega)
  rw [e16, e18]; omega
theorem sdiv (X Y : Int) (x0 : 0 ≤ X) (x1 : X ≤ 4294967295) (h : 1 ≤ Y) : wd (sg (al 15 X Y) * sg Y + sg (al 17 X Y)) = X := by
  have hn : ¬ Y = 0 := by omega
  have e15 : al 15 X Y = wd ((sg X).tdiv (sg Y)) := by show (if Y = 0 then _ else _) = _; rw [if_neg hn]
  have e17 : al 17 X Y = wd ((sg X).tmod (sg Y)) := by show (if Y = 0 then _ else _) = _; rw [if_neg hn]
  have hd := tdiv_mul (sg X) (sg Y)
  rw [e15, e17]
  generalize (sg X).tdiv (sg Y) = q at *
  generalize (sg X).tmod (sg Y) = r at *
  obtain ⟨m, hm⟩ : ∃ m, sg (wd q) = q + 4294967296 * m := ⟨(sg (wd q) - q) / 4294967296, by unfold sg wd; omega⟩
  rw [hm, Int.add_mul, Int.mul_assoc, hd]
  generalize m * sg Y = z
  unfold sg wd; omega
theorem sg_wd (n : Int) : sg (wd n) = sg n := by unfold sg wd; omega
end Go.Proofs.Ytfcfnbncgadomaa.Pl
namespace Go.Proofs.Ytfcfnbncgadomaa.W
open Go.RowKit
def alv (n a b : Int) : Int := if 1 ≤ n ∧ n ≤ 18 then Pl.al n.toNat (Pl.wd a) (Pl.wd b) else 0
def alb (n : Int) : Bool := decide (1 ≤ n ∧ n ≤ 18)
theorem specAlu_any (n a b : Int) {B : Nat} {w0 w : World} (hb : Below B w0 w) : Calls Try.prog 97 #[.int .i64 n, .int .i64 a, .int .i64 b] w fun e w' => e = .returned (.tuple #[.int .i64 (alv n a b), .bool (alb n)]) ∧ Below B w0 w' := by
  by_cases h : 1 ≤ n ∧ n ≤ 18
  · have e1 : alv n a b = Pl.al n.toNat (Pl.wd a) (Pl.wd b) := if_pos h
    have e2 : alb n = true := decide_eq_true h
    rw [e1, e2]
    refine (specAlu_yes n a b h.1 h.2 w).mono ?_
    rintro e u ⟨rfl, m, rfl⟩
    exact ⟨rfl, below_drewN hb m⟩
  · have e1 : alv n a b = 0 := if_neg h
    have e2 : alb n = false := decide_eq_false h
    rw [e1, e2]
    refine (specAlu_no n a b (by omega) w).mono ?_
    rintro e u ⟨rfl, m, rfl⟩
    exact ⟨rfl, below_drewN hb m⟩
end Go.Proofs.Ytfcfnbncgadomaa.W
namespace Go.Proofs.Ytfcfnbncgadomaa.Pl
/-- the operation of an instruction with a number in it -/
def ali (op : Int) : Int := if op = 19 then 1 else if op = 20 then 4 else if op = 21 then 5 else if op = 22 then 6 else if op = 23 then 9 else if op = 24 then 10 else if op = 25 then 3 else if op = 26 then 7 else 8
/-- an instruction done: the machine behind it, and the fault -/
def act (m : Mac) (i : Ins) : Mac × Int :=
  if (flow m i).2.1 = true then ({ (flow m i).2.2 with pc := (flow m i).1 }, 0)
  else if i.op ≤ 18 then ({ setR m i.rd (al i.op.toNat (wd (rv m i.r1)) (wd (rv m i.r2))) with pc := wd (m.pc + 4) }, 0)
  else if i.op ≤ 27 then ({ setR m i.rd (al (ali i.op).toNat (wd (rv m i.r1)) (wd i.im)) with pc := wd (m.pc + 4) }, 0)
  else if i.op ≤ 32 then (if (ldv m (lsk i.op) (wd (rv m i.r1 + i.im))).2 = 0 then ({ setR m i.rd (ldv m (lsk i.op) (wd (rv m i.r1 + i.im))).1 with pc := wd (m.pc + 4) }, 0) else (m, (ldv m (lsk i.op) (wd (rv m i.r1 + i.im))).2))
  else if i.op ≤ 36 then (if (stv m (lsk i.op) (wd (rv m i.r1 + i.im)) (rv m i.r2)).2 = 0 then ({ (stv m (lsk i.op) (wd (rv m i.r1 + i.im)) (rv m i.r2)).1 with pc := wd (m.pc + 4) }, 0) else ((stv m (lsk i.op) (wd (rv m i.r1 + i.im)) (rv m i.r2)).1, (stv m (lsk i.op) (wd (rv m i.r1 + i.im)) (rv m i.r2)).2))
  else if i.op = 43 then ({ setR m i.rd (i.im * 4096) with pc := wd (m.pc + 4) }, 0)
  else if i.op = 44 then ({ setR m i.rd (m.pc + i.im * 4096) with pc := wd (m.pc + 4) }, 0)
  else if i.op = 47 then (m, 5)
  else (if (ecall m).2 = 0 ∧ (ecall m).1.fin = 0 then ({ (ecall m).1 with pc := wd (m.pc + 4) }, 0) else ecall m)
end Go.Proofs.Ytfcfnbncgadomaa.Pl
namespace Go.Proofs.Ytfcfnbncgadomaa.W
open Go.RowKit
theorem Run.mono {D D' : Nat → Prop} {g : Nat} {u : World} {v : MV} {m : Pl.Mac} (h : Run D' g u v m) (hd : ∀ x, D x → D' x) : Run D g u v m := ⟨fun x hx => h.av x (hd x hx), h.box, h.code, h.regs, h.data, h.stk, h.inp, h.out, h.ap, h.lt⟩
theorem St.mono {D D' : Nat → Prop} {u u' : World} (h : St D' u u') (hd : ∀ x, D x → D' x) : St D u u' := ⟨h.os, h.tape, h.output, h.size, fun x hx => h.keep x (hd x hx)⟩
/-- a new block is laid beside a machine: it is none of its own -/
theorem Run.beside {D : Nat → Prop} {g : Nat} {u : World} {v : MV} {m : Pl.Mac} (h : Run D g u v m) (o : Obj) : Run (fun x => D x ∨ x = u.heap.size) g (u.alloc o) v m := by
  have k := h.keep (below_alloc u o)
  refine ⟨fun x hx => ?_, k.box, k.code, k.regs, k.data, k.stk, k.inp, k.out, k.ap, k.lt⟩
  rcases hx with hx | rfl
  · exact k.av x hx
  · exact ⟨by simp, fun i e => Nat.lt_irrefl _ (h.lt i _ e)⟩
/-- what the instruction's own block holds -/
theorem ins_cells {u : World} {q : Nat} {op rd r1 r2 im : Int} (h : u.heap[q]? = some (.cells #[.int .i64 op, .int .i64 rd, .int .i64 r1, .int .i64 r2, .int .i64 im] 105)) : u.cell? ⟨q, 0, none⟩ = some (.int .i64 op) ∧ u.cell? ⟨q, 1, none⟩ = some (.int .i64 rd) ∧ u.cell? ⟨q, 2, none⟩ = some (.int .i64 r1) ∧ u.cell? ⟨q, 3, none⟩ = some (.int .i64 r2) ∧ u.cell? ⟨q, 4, none⟩ = some (.int .i64 im) :=
  ⟨cell_of_row u q 0 _ 105 (0, 0) h, cell_of_row u q 1 _ 105 (0, 0) h, cell_of_row u q 2 _ 105 (0, 0) h, cell_of_row u q 3 _ 105 (0, 0) h, cell_of_row u q 4 _ 105 (0, 0) h⟩
set_option maxRecDepth 8000 in
set_option maxHeartbeats 4000000 in
theorem do_flow {D : Nat → Prop} {g : Nat} {u : World} {v : MV} {m : Pl.Mac} (h : Run D g u v m) (hv : Pl.Vd m) (i : Pl.Ins) (hi : Pl.InsOk i) (hf : (Pl.flow m i).2.1 = true) :
    Calls Try.prog 87 #[.pointer (some ⟨g, 0, none⟩), .agg #[.int .i64 i.op, .int .i64 i.rd, .int .i64 i.r1, .int .i64 i.r2, .int .i64 i.im]] u fun e u' => e = .returned (.int .i64 0) ∧ (∃ v', Run D g u' v' { (Pl.flow m i).2.2 with pc := (Pl.flow m i).1 }) ∧ St D u u' := by
  have HF : Hid (∀ U : World, Below u.heap.size u U → Calls Try.prog 96 #[.pointer (some ⟨g, 0, none⟩), .agg #[.int .i64 i.op, .int .i64 i.rd, .int .i64 i.r1, .int .i64 i.r2, .int .i64 i.im]] U fun e u' => e = .returned (.tuple #[.int .i64 (Pl.flow m i).1, .bool true]) ∧ Run D g u' v (Pl.flow m i).2.2 ∧ St D U u') := fun U hU => by
    have := l3Flow_run (h.keep hU) hv i hi
    rw [hf] at this
    exact this
  have HS : Hid (∀ U : World, Below u.heap.size u U → St D u U) := fun U hU => h.st hU
  generalize (Pl.flow m i).1 = nx at *
  generalize (Pl.flow m i).2.2 = m2 at *
  clear hf
  go_enter Try.func87, Try.ntmps87
  go_wp2_with (go_at_call 96; refine (HF.out _ (below_alloc u _)).mono ?_; rintro e u1 ⟨rfl, hR1, hS1⟩; have p1 : u1.cell? ⟨g, 1, none⟩ = some (.int .i64 m2.pc) := hR1.cell 1; have p2 := hR1.unfrozen 1; have R1 : Hid (Run D g u1 v m2) := hR1; have S1 : Hid (St D u u1) := (HS.out _ (below_alloc u _)).trans hS1; clear hR1 hS1)
  go_ret
  exact ⟨rfl, ⟨v, R1.out.setPc nx⟩, S1.out.trans (St.set (R1.out.ne 0 rfl))⟩
end Go.Proofs.Ytfcfnbncgadomaa.W
