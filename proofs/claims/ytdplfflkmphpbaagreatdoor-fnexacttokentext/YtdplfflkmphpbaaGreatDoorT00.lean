import Derived.WalkKit
import Derived.Test.YtdplfflkmphpbaaGreatDoorChecked
import Derived.Below
import Derived.LoopTactic
import Derived.Lib.ConvBytes
import Derived.Lib.Strings
import Derived.Lib.Walk
import Derived.Laws.Strings3
import Derived.BigCall
import Derived.BigGuard
import Derived.Lib.AtoiErrMem
set_option linter.unusedVariables false
set_option linter.unusedSimpArgs false
namespace Go.Proofs.YtdplfflkmphpbaaGreatDoor.Pl
theorem tmod_cases (n k : Int) : (0 ≤ n ∧ n.tmod k = n % k) ∨ (n < 0 ∧ n.tmod k = -((-n) % k)) := by
  by_cases h : 0 ≤ n
  · left; exact ⟨h, Int.tmod_eq_emod_of_nonneg h⟩
  · right; refine ⟨by omega, ?_⟩
    have : n = -(-n) := by omega
    rw [this, Int.neg_tmod, Int.tmod_eq_emod_of_nonneg (by omega)]; simp
theorem word_tmod_bd (n : Int) : -4294967295 ≤ n.tmod 4294967296 ∧ n.tmod 4294967296 ≤ 4294967295 := by
  rcases tmod_cases n 4294967296 with ⟨_, h⟩ | ⟨_, h⟩ <;> omega
theorem word_tmod (n : Int) : (n.tmod 4294967296 + 4294967296) % 4294967296 = n % 4294967296 := by
  rcases tmod_cases n 4294967296 with ⟨_, h⟩ | ⟨_, h⟩ <;> rw [h] <;> omega
def wd (n : Int) : Int := n % 4294967296
def ks (n : Int) : Int := if n = 1 ∨ n = 2 then 1 else if n = 3 ∨ n = 4 then 2 else if n = 5 then 4 else 0
theorem kind_cases (n : Int) : n = 1 ∨ n = 2 ∨ n = 3 ∨ n = 4 ∨ n = 5 ∨ ((n == 1) = false ∧ (n == 2) = false ∧ (n == 3) = false ∧ (n == 4) = false ∧ (n == 5) = false) := by
  simp; omega
theorem ks_none (n : Int) (h1 : (n == 1) = false) (h2 : (n == 2) = false) (h3 : (n == 3) = false) (h4 : (n == 4) = false) (h5 : (n == 5) = false) : 0 = ks n := by
  simp at h1 h2 h3 h4 h5; simp [ks, h1, h2, h3, h4, h5]
theorem wd_bd (n : Int) : 0 ≤ wd n ∧ wd n ≤ 4294967295 := by unfold wd; omega
end Go.Proofs.YtdplfflkmphpbaaGreatDoor.Pl
namespace Go.Proofs.YtdplfflkmphpbaaGreatDoor.W
open Go.RowKit
theorem ret_int {k : IntKind} {a b : Int} (h : a = b) : Ending.returned (.int k a) = .returned (.int k b) := by rw [h]
theorem ret_bool {a b : Bool} (h : a = b) : Ending.returned (.bool a) = .returned (.bool b) := by rw [h]
theorem implWord_any (n : Int) (w : World) : Calls Tryz.prog 103 #[.int .i64 n] w fun e w' => e = .returned (.int .i64 (Pl.wd n)) ∧ w' = w := by
  go_enter Tryz.func103, Tryz.ntmps103
  go_wp2
  go_ret
  exact ⟨ret_int rfl, rfl⟩
theorem specWord_any (n : Int) (w : World) : Calls Tryz.prog 59 #[.int .i64 n] w fun e w' => e = .returned (.int .i64 (Pl.wd n)) ∧ w' = w := by
  have h1 := Pl.word_tmod_bd n
  go_enter Tryz.func59, Tryz.ntmps59
  go_wp2
  go_ret
  exact ⟨ret_int (Pl.word_tmod n), rfl⟩
theorem specKindSize_any (n : Int) (w : World) : Calls Tryz.prog 57 #[.int .i64 n] w fun e w' => e = .returned (.int .i64 (Pl.ks n)) ∧ w' = w := by
  rcases Pl.kind_cases n with rfl | rfl | rfl | rfl | rfl | ⟨h1, h2, h3, h4, h5⟩
  all_goals
    go_enter Tryz.func57, Tryz.ntmps57
    go_wp2
    go_ret
  iterate 5 exact ⟨rfl, rfl⟩
  exact ⟨ret_int (Pl.ks_none n h1 h2 h3 h4 h5), rfl⟩
end Go.Proofs.YtdplfflkmphpbaaGreatDoor.W
namespace Go.Proofs.YtdplfflkmphpbaaGreatDoor.Pl
def dg (c : Int) : Bool := decide (48 ≤ c ∧ c ≤ 57)
def lt (c : Int) : Bool := decide (97 ≤ c ∧ c ≤ 122) || decide (65 ≤ c ∧ c ≤ 90)
def ch (c : Int) : Bool := dg c || lt c || c == 95 || c == 46 || c == 36
def wch (c : Int) : Bool := dg c || lt c || c == 95
def byt (s : ByteArray) (i : Nat) : Int := ((s.data.toList.getD i 0).toNat : Int)
theorem byt_get (s : ByteArray) (i : Nat) (h : i < s.size) : ((s[i]'h).toNat : Int) = byt s i := by
  obtain ⟨⟨l⟩⟩ := s
  have hl : i < l.length := h
  unfold byt
  simp only [List.getD, List.getElem?_eq_getElem hl, Option.getD_some]
  rfl
end Go.Proofs.YtdplfflkmphpbaaGreatDoor.Pl
namespace Go.Proofs.YtdplfflkmphpbaaGreatDoor.W
open Go.RowKit
theorem isDigit_any (c : Int) (w : World) : Calls Tryz.prog 83 #[.int .u8 c] w fun e w' => e = .returned (.bool (Pl.dg c)) ∧ w' = w := by
  go_enter Tryz.func83, Tryz.ntmps83
  go_wp2
  all_goals (go_ret; refine ⟨ret_bool ?_, rfl⟩; rw [Bool.eq_iff_iff]; simp [Pl.dg, Pl.lt, Pl.ch] <;> omega)
theorem l4Digit_any (c : Int) (w : World) : Calls Tryz.prog 41 #[.int .u8 c] w fun e w' => e = .returned (.bool (Pl.dg c)) ∧ w' = w := by
  go_enter Tryz.func41, Tryz.ntmps41
  go_wp2
  all_goals (go_ret; refine ⟨ret_bool ?_, rfl⟩; rw [Bool.eq_iff_iff]; simp [Pl.dg, Pl.lt, Pl.ch] <;> omega)
theorem l4Letter_any (c : Int) (w : World) : Calls Tryz.prog 54 #[.int .u8 c] w fun e w' => e = .returned (.bool (Pl.lt c)) ∧ w' = w := by
  go_enter Tryz.func54, Tryz.ntmps54
  go_wp2
  all_goals (go_ret; refine ⟨ret_bool ?_, rfl⟩; rw [Bool.eq_iff_iff]; simp [Pl.dg, Pl.lt, Pl.ch] <;> omega)
set_option maxHeartbeats 1000000 in
theorem inWord_any (c : Int) (w : World) : Calls Tryz.prog 70 #[.int .u8 c] w fun e w' => e = .returned (.bool (Pl.wch c)) ∧ w' = w := by
  cases hd : Pl.dg c
  · have hn : ¬ (48 ≤ c ∧ c ≤ 57) := by simpa [Pl.dg] using hd
    go_enter Tryz.func70, Tryz.ntmps70
    go_wp2_with (go_at_call 83; refine (isDigit_any _ _).mono ?_; rintro e u1 ⟨rfl, rfl⟩; rw [hd])
    all_goals (go_ret; refine ⟨ret_bool ?_, rfl⟩; rw [Bool.eq_iff_iff]; simp [Pl.dg, Pl.lt, Pl.wch] <;> omega)
  · have hn : 48 ≤ c ∧ c ≤ 57 := by simpa [Pl.dg] using hd
    go_enter Tryz.func70, Tryz.ntmps70
    go_wp2_with (go_at_call 83; refine (isDigit_any _ _).mono ?_; rintro e u1 ⟨rfl, rfl⟩; rw [hd])
    all_goals (go_ret; refine ⟨ret_bool ?_, rfl⟩; rw [Bool.eq_iff_iff]; simp [Pl.dg, Pl.lt, Pl.wch] <;> omega)
end Go.Proofs.YtdplfflkmphpbaaGreatDoor.W
namespace Go.Proofs.YtdplfflkmphpbaaGreatDoor.Pl
/-! Chapter 5: tokens, as functions of the text -/
theorem byt_lo (s : ByteArray) (i : Nat) : 0 ≤ byt s i := by unfold byt; omega
theorem byt_hi (s : ByteArray) (i : Nat) : byt s i < 256 := by
  unfold byt
  have := (s.data.toList.getD i 0).toNat_lt
  omega
theorem ext_size (s : ByteArray) (a b : Nat) : (s.extract a b).size = min b s.size - a := by
  rw [ByteArray.size_extract]
theorem byt_ext (s : ByteArray) (a b j : Nat) (h : a + j < b) (hb : b ≤ s.size) : byt (s.extract a b) j = byt s (a + j) := by
  have h1 : j < (s.extract a b).size := by rw [ext_size]; omega
  rw [← byt_get _ j h1, ← byt_get s (a + j) (by omega)]
  congr 2
  simp [ByteArray.getElem_extract]
theorem ba_ext {a b : ByteArray} (h : a.size = b.size) (hb : ∀ j, j < a.size → byt a j = byt b j) : a = b := by
  refine ByteArray.ext_getElem h fun i h1 h2 => ?_
  have := hb i h1
  rw [← byt_get a i h1, ← byt_get b i h2] at this
  exact UInt8.toNat_inj.1 (by omega)
theorem ext_ext (s : ByteArray) (a b c d : Nat) (h : a + d ≤ b) (hb : b ≤ s.size) (hc : c ≤ d) : (s.extract a b).extract c d = s.extract (a + c) (a + d) := by
  refine ba_ext (by simp only [ext_size]; omega) fun j hj => ?_
  simp only [ext_size] at hj
  rw [byt_ext _ c d j (by omega) (by simp only [ext_size]; omega), byt_ext s a b (c + j) (by omega) hb, byt_ext s (a + c) (a + d) j (by omega) (by omega)]
  congr 1
  omega
theorem ext_all (s : ByteArray) : s.extract 0 s.size = s := by simp
def hx (c : Int) : Int := if 48 ≤ c ∧ c ≤ 57 then c - 48 else if 97 ≤ c ∧ c ≤ 102 then c - 87 else if 65 ≤ c ∧ c ≤ 70 then c - 55 else -1
theorem hx_lo (c : Int) : -1 ≤ hx c := by unfold hx; split <;> (try split) <;> (try split) <;> omega
theorem hx_hi (c : Int) : hx c ≤ 15 := by unfold hx; split <;> (try split) <;> (try split) <;> omega
def dgo (c : Int) : Int := if hx c < 0 then 16 else hx c
def blk (c : Int) : Bool := c == 32 || (decide (9 ≤ c) && decide (c ≤ 13))
def val (s : ByteArray) (b : Int) : Nat → Int
  | 0 => 0
  | k + 1 => val s b k * b + hx (byt s k)
def Run (p : Int → Bool) (s : ByteArray) (n : Nat) : Prop := n ≤ s.size ∧ (∀ j, j < n → p (byt s j) = true) ∧ (n = s.size ∨ p (byt s n) = false)
theorem Run.fn {p : Int → Bool} {s : ByteArray} {n m : Nat} (h : Run p s n) (k : Run p s m) : n = m := by
  rcases Nat.lt_trichotomy n m with hl | hl | hl
  · rcases h.2.2 with e | e
    · have := k.1; omega
    · rw [k.2.1 n hl] at e; cases e
  · exact hl
  · rcases k.2.2 with e | e
    · have := h.1; omega
    · rw [h.2.1 m hl] at e; cases e
theorem Run.ex (p : Int → Bool) (s : ByteArray) : ∃ n, Run p s n := by
  have key : ∀ d m, s.size - m = d → m ≤ s.size → (∀ j, j < m → p (byt s j) = true) → ∃ n, Run p s n := by
    intro d
    induction d with
    | zero => intro m hd hm ha; exact ⟨m, hm, ha, .inl (by omega)⟩
    | succ d ih =>
      intro m hd hm ha
      cases hp : p (byt s m)
      · exact ⟨m, hm, ha, .inr hp⟩
      · refine ih (m + 1) (by omega) (by omega) fun j hj => ?_
        by_cases e : j = m
        · rw [e]; exact hp
        · exact ha j (by omega)
  exact key _ 0 rfl (Nat.zero_le _) (fun j hj => absurd hj (Nat.not_lt_zero _))
open Classical in
noncomputable def run (p : Int → Bool) (s : ByteArray) : Nat := Classical.choose (Run.ex p s)
theorem run_run (p : Int → Bool) (s : ByteArray) : Run p s (run p s) := Classical.choose_spec (Run.ex p s)
theorem run_eq {p : Int → Bool} {s : ByteArray} {n : Nat} (h : Run p s n) : run p s = n := (run_run p s).fn h
def uu (c : Int) : Bool := c == 117 || c == 85
def iend (s : ByteArray) : Nat := if uu (byt s (s.size - 1)) = true then s.size - 1 else s.size
def isx (s : ByteArray) : Bool := decide (1 < s.size) && byt s 0 == 48 && (byt s 1 == 120 || byt s 1 == 88)
def ioff (s : ByteArray) : Nat := if isx s = true then 2 else 0
def ibase (s : ByteArray) : Int := if isx s = true then 16 else if byt s 0 = 48 then 8 else 10
def idig (s : ByteArray) : ByteArray := s.extract (ioff s) (iend s)
def badD (b : Int) (c : Int) : Bool := decide (hx c < 0) || (b != 16 && decide (9 < hx c))
open Classical in
noncomputable def intR (s : ByteArray) : Except Int (ByteArray × Int) :=
  if iend s ≤ ioff s ∨ ∃ j, j < (idig s).size ∧ badD (ibase s) (byt (idig s) j) = true then .error 2
  else if (∃ j, j < (idig s).size ∧ ibase s ≤ hx (byt (idig s) j)) ∨ 4294967295 < val (idig s) (ibase s) (idig s).size then .error 6
  else .ok (if uu (byt s (s.size - 1)) = true ∨ 2147483647 < val (idig s) (ibase s) (idig s).size then ⟨#[117]⟩ else ⟨#[]⟩, val (idig s) (ibase s) (idig s).size)
def plainE (c : Int) : Int := if c = 110 then 10 else if c = 116 then 9 else if c = 114 then 13 else if c = 97 then 7 else if c = 98 then 8 else if c = 102 then 12 else if c = 118 then 11 else if c = 92 then 92 else if c = 39 then 39 else if c = 34 then 34 else -1
def oc (s : ByteArray) (i : Nat) : Int := if i < s.size ∧ 48 ≤ byt s i ∧ byt s i ≤ 55 then byt s i - 48 else -1
def hc (s : ByteArray) (i : Nat) : Int := if i < s.size then hx (byt s i) else -1
def escF (s : ByteArray) (i : Nat) : Except Int (Int × Nat) :=
  if s.size ≤ i ∨ byt s i = 10 then .error 4
  else if byt s i = 120 then
    (if hc s (i + 1) < 0 then .error 5 else if hc s (i + 2) < 0 then .ok (hc s (i + 1), 2) else .ok (hc s (i + 1) * 16 + hc s (i + 2), 3))
  else if 0 ≤ oc s i then
    (if oc s (i + 1) < 0 then .ok (oc s i, 1) else if oc s (i + 2) < 0 then .ok (oc s i * 8 + oc s (i + 1), 2)
     else if 255 < (oc s i * 8 + oc s (i + 1)) * 8 + oc s (i + 2) then .error 5 else .ok ((oc s i * 8 + oc s (i + 1)) * 8 + oc s (i + 2), 3))
  else if plainE (byt s i) < 0 then .error 5 else .ok (plainE (byt s i), 1)
inductive Quo (s : ByteArray) (m : Int) : Nat → List UInt8 → Except Int (List UInt8 × Nat) → Prop
  | out {i acc} : (s.size ≤ i ∨ byt s i = 10) → Quo s m i acc (.error 4)
  | fin {i acc} : i < s.size → byt s i = m → byt s i ≠ 10 → Quo s m i acc (.ok (acc, i + 1))
  | bad {i acc f} : i < s.size → byt s i = 92 → byt s i ≠ m → escF s (i + 1) = .error f → Quo s m i acc (.error f)
  | esc {i acc v n r} : i < s.size → byt s i = 92 → byt s i ≠ m → escF s (i + 1) = .ok (v, n) → Quo s m (i + 1 + n) (acc ++ [UInt8.ofNat v.toNat]) r → Quo s m i acc r
  | one {i acc r} : i < s.size → byt s i ≠ 10 → byt s i ≠ m → byt s i ≠ 92 → Quo s m (i + 1) (acc ++ [UInt8.ofNat (byt s i).toNat]) r → Quo s m i acc r
theorem Quo.fn {s : ByteArray} {m : Int} {i : Nat} {acc : List UInt8} {r r' : Except Int (List UInt8 × Nat)} (h : Quo s m i acc r) (h' : Quo s m i acc r') : r = r' := by
  induction h with
  | out h0 =>
    cases h' with
    | out _ => rfl
    | fin a b c => rcases h0 with e | e <;> first | omega | exact absurd e c
    | bad a b c d => rcases h0 with e | e <;> omega
    | esc a b c d e => rcases h0 with e | e <;> omega
    | one a b c d e => rcases h0 with e | e <;> first | omega | exact absurd e b
  | fin a b c =>
    cases h' with
    | out h0 => rcases h0 with e | e <;> first | omega | exact absurd e c
    | fin _ _ _ => rfl
    | bad _ _ c' _ => exact absurd b c'
    | esc _ _ c' _ _ => exact absurd b c'
    | one _ _ c' _ _ => exact absurd b c'
  | bad a b c d =>
    cases h' with
    | out h0 => rcases h0 with e | e <;> omega
    | fin _ b' _ => exact absurd b' c
    | bad _ _ _ d' => rw [d] at d'; injection d' with e; rw [e]
    | esc _ _ _ d' _ => rw [d] at d'; cases d'
    | one _ _ _ d' _ => exact absurd b d'
  | esc a b c d _ ih =>
    cases h' with
    | out h0 => rcases h0 with e | e <;> omega
    | fin _ b' _ => exact absurd b' c
    | bad _ _ _ d' => rw [d] at d'; cases d'
    | esc _ _ _ d' e' =>
      rw [d] at d'
      injection d' with q
      injection q with q1 q2
      subst q1 q2
      exact ih e'
    | one _ _ _ d' _ => exact absurd b d'
  | one a b c d _ ih =>
    cases h' with
    | out h0 => rcases h0 with e | e <;> first | omega | exact absurd e b
    | fin _ b' _ => exact absurd b' c
    | bad _ b' _ _ => exact absurd b' d
    | esc _ b' _ _ _ => exact absurd b' d
    | one _ _ _ _ e' => exact ih e'
def sgB : List (List UInt8) := [[60, 60, 61], [62, 62, 61], [45, 62], [43, 43], [45, 45], [60, 60], [62, 62], [60, 61], [62, 61], [61, 61], [33, 61], [38, 38], [124, 124], [43, 61], [45, 61], [42, 61], [47, 61], [37, 61], [38, 61], [94, 61], [124, 61], [43], [45], [42], [47], [37], [38], [124], [94], [126], [33], [60], [62], [61], [63], [58], [59], [44], [46], [40], [41], [91], [93], [123], [125]]
def isS (s : ByteArray) : Bool := sgB.any fun r => s.toList == r
def sgn (s : ByteArray) : Nat :=
  if 3 ≤ s.size ∧ isS (s.extract 0 3) = true then 3 else if 2 ≤ s.size ∧ isS (s.extract 0 2) = true then 2 else if 1 ≤ s.size ∧ isS (s.extract 0 1) = true then 1 else 0
end Go.Proofs.YtdplfflkmphpbaaGreatDoor.Pl
namespace Go.Proofs.YtdplfflkmphpbaaGreatDoor.W
open Go.RowKit
set_option maxHeartbeats 1000000 in
theorem l4Hex_any (c : Int) (h0 : 0 ≤ c) (h1 : c < 256) (w : World) : Calls Tryz.prog 55 #[.int .u8 c] w fun e w' => e = .returned (.int .i64 (Pl.hx c)) ∧ w' = w := by
  cases hd : Pl.dg c
  · have hn : ¬ (48 ≤ c ∧ c ≤ 57) := by simpa [Pl.dg] using hd
    go_enter Tryz.func55, Tryz.ntmps55
    go_wp2_with (go_at_call 41; refine (l4Digit_any _ _).mono ?_; rintro e u1 ⟨rfl, rfl⟩; rw [hd])
    all_goals (go_ret; refine ⟨ret_int ?_, rfl⟩; unfold Pl.hx; rw [if_neg hn]; first | (rw [if_pos (by omega)]; omega) | (rw [if_neg (by omega), if_pos (by omega)]; omega) | rw [if_neg (by omega), if_neg (by omega)])
  · have hn : 48 ≤ c ∧ c ≤ 57 := by simpa [Pl.dg] using hd
    go_enter Tryz.func55, Tryz.ntmps55
    go_wp2_with (go_at_call 41; refine (l4Digit_any _ _).mono ?_; rintro e u1 ⟨rfl, rfl⟩; rw [hd])
    all_goals (go_ret; refine ⟨ret_int ?_, rfl⟩; unfold Pl.hx; rw [if_pos hn])
theorem l5Blank_any (c : Int) (w : World) : Calls Tryz.prog 39 #[.int .u8 c] w fun e w' => e = .returned (.bool (Pl.blk c)) ∧ w' = w := by
  go_enter Tryz.func39, Tryz.ntmps39
  go_wp2
  all_goals (go_ret; refine ⟨ret_bool ?_, rfl⟩; rw [Bool.eq_iff_iff]; simp [Pl.blk] <;> omega)
set_option maxHeartbeats 1000000 in
theorem l5Word_any (c : Int) (w : World) : Calls Tryz.prog 40 #[.int .u8 c] w fun e w' => e = .returned (.bool (Pl.wch c)) ∧ w' = w := by
  cases hl1 : Pl.lt c <;> cases hl2 : Pl.dg c
  all_goals
    go_enter Tryz.func40, Tryz.ntmps40
    go_wp2_with (first | (go_at_call 54; refine (l4Letter_any _ _).mono ?_; rintro e u1 ⟨rfl, rfl⟩; rw [hl1]) | (go_at_call 41; refine (l4Digit_any _ _).mono ?_; rintro e u2 ⟨rfl, rfl⟩; rw [hl2]))
    all_goals (go_ret; refine ⟨ret_bool ?_, rfl⟩; simp [Pl.wch, hl1, hl2])
end Go.Proofs.YtdplfflkmphpbaaGreatDoor.W
namespace Go.Proofs.YtdplfflkmphpbaaGreatDoor.Pl
theorem dgo_is (c : Int) : dgo c = if 48 ≤ c ∧ c ≤ 57 then c - 48 else if 97 ≤ c ∧ c ≤ 102 then c - 87 else if 65 ≤ c ∧ c ≤ 70 then c - 55 else 16 := by
  unfold dgo hx
  (repeat' split) <;> omega
theorem dgo_high (c : Int) (h : 128 ≤ c) : dgo c = 16 := by
  rw [dgo_is]
  (repeat' split) <;> omega
theorem dgo_decode (s : ByteArray) (pos : Nat) (h : pos < s.size) : dgo ((Utf8.decode s pos).1 : Nat) = dgo (byt s pos) := by
  by_cases ha : (s[pos]'h).toNat < 128
  · rw [decode_ascii s pos h ha, ← byt_get s pos h]
  · rw [dgo_high _ (by have := (decode_high s pos h (by omega)).1; omega), dgo_high _ (by rw [← byt_get s pos h]; omega)]
theorem step_dgo (s : ByteArray) (pos : Nat) (h : pos < s.size) (hw : dgo (byt s pos) < 16) : (Utf8.decode s pos).2 = 1 := by
  by_cases ha : (s[pos]'h).toNat < 128
  · rw [decode_ascii s pos h ha]
  · rw [dgo_high _ (by rw [← byt_get s pos h]; omega)] at hw
    omega
end Go.Proofs.YtdplfflkmphpbaaGreatDoor.Pl
namespace Go.Proofs.YtdplfflkmphpbaaGreatDoor.W
open Go.RowKit
theorem below_iterL (w : World) (s : ByteArray) (pos : Nat) : Below w.heap.size w (w.iter s pos) := (Below.refl _ _).alloc (Nat.le_refl _) _
theorem isDigitR_is (c : Int) (w : World) : Calls Tryz.prog 109 #[.int .i32 c] w fun e w' => e = .returned (.bool (Pl.dg c)) ∧ w' = w := by
  go_enter Tryz.func109, Tryz.ntmps109
  go_wp2
  all_goals (go_ret; refine ⟨ret_bool ?_, rfl⟩; rw [Bool.eq_iff_iff]; simp [Pl.dg] <;> omega)
set_option maxHeartbeats 1000000 in
theorem digitOf_is (c : Int) (w : World) : Calls Tryz.prog 137 #[.int .i32 c] w fun e w' => e = .returned (.int .i64 (Pl.dgo c)) ∧ w' = w := by
  cases hd : Pl.dg c
  · have hn : ¬ (48 ≤ c ∧ c ≤ 57) := by simpa [Pl.dg] using hd
    go_enter Tryz.func137, Tryz.ntmps137
    go_wp2_with (go_at_call 109; refine (isDigitR_is _ _).mono ?_; rintro e u1 ⟨rfl, rfl⟩; rw [hd])
    all_goals (go_ret; refine ⟨ret_int ?_, rfl⟩; rw [Pl.dgo_is]; (repeat' split) <;> omega)
  · have hn : 48 ≤ c ∧ c ≤ 57 := by simpa [Pl.dg] using hd
    go_enter Tryz.func137, Tryz.ntmps137
    go_wp2_with (go_at_call 109; refine (isDigitR_is _ _).mono ?_; rintro e u1 ⟨rfl, rfl⟩; rw [hd])
    all_goals (go_ret; refine ⟨ret_int ?_, rfl⟩; rw [Pl.dgo_is]; (repeat' split) <;> omega)
set_option maxRecDepth 100000 in
set_option maxHeartbeats 2000000 in
theorem digitCount_is (s : ByteArray) (hs : s.size ≤ 9223372036854775807) (b : Int) (hb : b ≤ 16) (w : World) : Calls Tryz.prog 123 #[.string s, .int .i64 b] w fun e w' => (∃ n, Pl.Run (fun c => decide (Pl.dgo c < b)) s n ∧ e = .returned (.int .i64 n)) ∧ Below w.heap.size w w' := by
  go_enter Tryz.func123, Tryz.ntmps123
  go_wp2
  go_loopw [5] (fun _ w' => ∃ pos : Nat, pos ≤ s.size ∧ w' = w.iter s pos ∧ (∀ j, j < pos → Pl.dgo (Pl.byt s j) < b)) (fun _ w' => s.size - w'.iterPos w.heap.size)
  case atStart => exact ⟨0, Nat.zero_le _, rfl, fun j hj => absurd hj (Nat.not_lt_zero _)⟩
  case round =>
    obtain ⟨pos, hps, rfl, hall⟩ := hrel
    have HA : Hid (∀ j, j < pos → Pl.dgo (Pl.byt s j) < b) := hall
    clear hall
    by_cases hp : pos < s.size
    · have hnx : ∀ ty, (Instr.next (.pointer (some ⟨w.heap.size, 0, none⟩)) true ty).run Tryz.prog (w.iter s pos) = _ := fun ty => run_next_any w s pos ty hp
      have hpi : (pos : Int) ≤ (s.size : Int) := by omega
      by_cases hc : Pl.dgo (Pl.byt s pos) < b
      · have hd2 := Pl.step_dgo s pos hp (by omega)
        have HD : Hid ((Utf8.decode s pos).2 = 1) := hd2
        clear hd2
        go_wp2_with (go_at_call 137; refine (digitOf_is _ _).mono ?_; rintro e u1 ⟨rfl, rfl⟩; rw [Pl.dgo_decode s pos hp])
        go_roundw
        case rel => exact ⟨pos + 1, by omega, by rw [HD.out], fun j hj => by
          by_cases e : j = pos
          · rw [e]; exact hc
          · exact HA.out j (by omega)⟩
        case measure => rw [HD.out]; simp; omega
      · go_wp2_with (go_at_call 137; refine (digitOf_is _ _).mono ?_; rintro e u1 ⟨rfl, rfl⟩; rw [Pl.dgo_decode s pos hp])
        go_ret
        exact ⟨⟨pos, ⟨hps, fun j hj => by simpa using HA.out j hj, .inr (by simpa using hc)⟩, rfl⟩, below_iterL _ _ _⟩
    · have hnx : ∀ ty, (Instr.next (.pointer (some ⟨w.heap.size, 0, none⟩)) true ty).run Tryz.prog (w.iter s pos) = _ := fun ty => run_next_end w s pos ty hp
      go_wp2
      go_ret
      have hpe : pos = s.size := by omega
      exact ⟨⟨s.size, ⟨Nat.le_refl _, fun j hj => by simpa using HA.out j (by omega), .inl rfl⟩, rfl⟩, below_iterL _ _ _⟩
theorem inBase_is (s : ByteArray) (hs : s.size ≤ 9223372036854775807) (b : Int) (hb : b ≤ 16) (w : World) : Calls Tryz.prog 111 #[.string s, .int .i64 b] w fun e w' => (∃ p : Bool, (p = true ↔ ∀ j, j < s.size → Pl.dgo (Pl.byt s j) < b) ∧ e = .returned (.bool p)) ∧ Below w.heap.size w w' := by
  go_enter Tryz.func111, Tryz.ntmps111
  go_wp2_with (go_at_call 123; refine (digitCount_is s hs b hb _).mono ?_; rintro e u1 ⟨⟨n, hn, rfl⟩, g1⟩)
  go_ret
  refine ⟨⟨_, ?_, rfl⟩, g1⟩
  rw [beq_iff_eq]
  constructor
  · intro he j hj
    have := hn.2.1 j (by omega)
    simpa using this
  · intro ha
    rcases hn.2.2 with e | e
    · omega
    · by_cases hq : n < s.size
      · have := ha n hq
        simp at e
        omega
      · have := hn.1
        omega
end Go.Proofs.YtdplfflkmphpbaaGreatDoor.W
namespace Go.Proofs.YtdplfflkmphpbaaGreatDoor.Pl
def Good (t : ByteArray) (b mx : Int) : Prop := 0 < t.size ∧ (∀ j, j < t.size → 0 ≤ hx (byt t j) ∧ hx (byt t j) < b) ∧ val t b t.size ≤ mx
theorem val_lo (t : ByteArray) (b : Int) (hb : 0 ≤ b) : ∀ k, (∀ j, j < k → 0 ≤ hx (byt t j)) → 0 ≤ val t b k
  | 0, _ => Int.le_refl _
  | k + 1, h => by
    have h1 := val_lo t b hb k (fun j hj => h j (by omega))
    have h2 := h k (by omega)
    show 0 ≤ val t b k * b + hx (byt t k)
    have := Int.mul_nonneg h1 hb
    omega
theorem val_step (t : ByteArray) (b : Int) (hb : 1 ≤ b) (k : Nat) (h : ∀ j, j < k + 1 → 0 ≤ hx (byt t j)) : val t b k ≤ val t b (k + 1) := by
  have h1 := val_lo t b (by omega) k (fun j hj => h j (by omega))
  have h2 := h k (by omega)
  show val t b k ≤ val t b k * b + hx (byt t k)
  have : val t b k * 1 ≤ val t b k * b := Int.mul_le_mul_of_nonneg_left hb h1
  omega
theorem val_mono (t : ByteArray) (b : Int) (hb : 1 ≤ b) (k : Nat) : ∀ n, k ≤ n → (∀ j, j < n → 0 ≤ hx (byt t j)) → val t b k ≤ val t b n
  | 0, h, _ => by rw [show k = 0 by omega]; exact Int.le_refl _
  | n + 1, h, ha => by
    by_cases e : k = n + 1
    · rw [e]; exact Int.le_refl _
    · have h1 := val_mono t b hb k n (by omega) (fun j hj => ha j (by omega))
      have h2 := val_step t b hb n ha
      omega
theorem not_good_digit {t : ByteArray} {b mx : Int} (k : Nat) (hk : k < t.size) (h : hx (byt t k) < 0 ∨ b ≤ hx (byt t k)) : ¬ Good t b mx := fun hg => by
  have := hg.2.1 k hk
  omega
theorem not_good_val {t : ByteArray} {b mx : Int} (hb : 1 ≤ b) (k : Nat) (hk : k < t.size) (h : mx < val t b k * b + hx (byt t k)) : ¬ Good t b mx := fun hg => by
  have h1 := val_mono t b hb (k + 1) t.size (by omega) (fun j hj => (hg.2.1 j hj).1)
  have h2 : val t b (k + 1) = val t b k * b + hx (byt t k) := rfl
  have := hg.2.2
  omega
theorem hx_dig (c : Int) (h0 : 48 ≤ c) (h1 : c ≤ 57) : hx c = c - 48 := by unfold hx; rw [if_pos ⟨h0, h1⟩]
theorem low_tab : ∀ c : Nat, c < 256 → (c < 48 ∨ 57 < c) → ((97 ≤ bits .or .u8 (c : Int) 32 ∧ bits .or .u8 (c : Int) 32 ≤ 102 ∧ hx (c : Int) = bits .or .u8 (c : Int) 32 - 87 ∧ c ≠ 95) ∨ (103 ≤ bits .or .u8 (c : Int) 32 ∧ bits .or .u8 (c : Int) 32 ≤ 122 ∧ hx (c : Int) = -1 ∧ c ≠ 95) ∨ ((bits .or .u8 (c : Int) 32 < 97 ∨ 122 < bits .or .u8 (c : Int) 32) ∧ hx (c : Int) = -1)) := by decide +kernel
end Go.Proofs.YtdplfflkmphpbaaGreatDoor.Pl
namespace Go.Proofs.YtdplfflkmphpbaaGreatDoor.W
open Go.RowKit
theorem lower_is (c : Int) (w : World) : Calls Tryz.prog 139 #[.int .u8 c] w fun e w' => e = .returned (.int .u8 (bits .or .u8 c 32)) ∧ w' = w := by
  go_enter Tryz.func139, Tryz.ntmps139
  go_wp2
  go_ret
  exact ⟨rfl, rfl⟩
def Parsed (t : ByteArray) (b mx : Int) (w : World) (e : Ending) (w' : World) : Prop :=
  ((Pl.Good t b mx ∧ e = .returned (.tuple #[.int .u64 (Pl.val t b t.size), .nilIface])) ∨
   (¬ Pl.Good t b mx ∧ ∃ (n : Int) (v : Value), e = .returned (.tuple #[.int .u64 n, v]) ∧ (v = .iface 137 (.int .i64 1) ∨ v = .iface 137 (.int .i64 2)))) ∧ Below w.heap.size w w'
theorem parsed_no {t : ByteArray} {b mx n i : Int} {w w' : World} (hg : ¬ Pl.Good t b mx) (hi : i = 1 ∨ i = 2) (hb : Below w.heap.size w w') : Parsed t b mx w (.returned (.tuple #[.int .u64 n, .iface 137 (.int .i64 i)])) w' :=
  ⟨.inr ⟨hg, _, _, rfl, by rcases hi with rfl | rfl; exact .inl rfl; exact .inr rfl⟩, hb⟩
theorem parsed_yes {t : ByteArray} {b mx n : Int} {w w' : World} (hg : Pl.Good t b mx) (hn : n = Pl.val t b t.size) (hb : Below w.heap.size w w') : Parsed t b mx w (.returned (.tuple #[.int .u64 n, .nilIface])) w' :=
  ⟨.inl ⟨hg, by rw [hn]⟩, hb⟩
end Go.Proofs.YtdplfflkmphpbaaGreatDoor.W
namespace Go.Proofs.YtdplfflkmphpbaaGreatDoor.Pl
theorem dgo16 (c : Int) : dgo c < 16 ↔ 0 ≤ hx c := by
  unfold dgo
  have := hx_hi c
  split <;> omega
theorem dgo8 (c : Int) : dgo c < 8 ↔ (48 ≤ c ∧ c ≤ 55) := by
  unfold dgo hx
  (repeat' split) <;> omega
theorem hx8 (c : Int) (h0 : 48 ≤ c) (h1 : c ≤ 55) : hx c = c - 48 := hx_dig c h0 (by omega)
theorem ext_byt (s : ByteArray) (a j : Nat) (h : a + j < s.size) : byt (s.extract a s.size) j = byt s (a + j) := byt_ext s a s.size j h (Nat.le_refl _)
theorem ext_sz (s : ByteArray) (a : Nat) : (s.extract a s.size).size = s.size - a := by rw [ext_size]; omega
theorem hc_ext (s : ByteArray) (a i : Nat) (h : a ≤ s.size) : hc (s.extract a s.size) i = hc s (a + i) := by
  unfold hc
  by_cases q : a + i < s.size
  · rw [if_pos (by rw [ext_sz]; omega), if_pos q, ext_byt s a i q]
  · rw [if_neg (by rw [ext_sz]; omega), if_neg q]
theorem oc_ext (s : ByteArray) (a i : Nat) (h : a ≤ s.size) : oc (s.extract a s.size) i = oc s (a + i) := by
  unfold oc
  by_cases q : a + i < s.size
  · rw [ext_byt s a i q]
    by_cases r : 48 ≤ byt s (a + i) ∧ byt s (a + i) ≤ 55
    · rw [if_pos ⟨by rw [ext_sz]; omega, r⟩, if_pos ⟨q, r⟩]
    · rw [if_neg (fun h => r h.2), if_neg (fun h => r h.2)]
  · rw [if_neg (fun h => by have := h.1; rw [ext_sz] at this; omega), if_neg (fun h => q h.1)]
theorem escF_ext (s : ByteArray) (a i : Nat) (h : a ≤ s.size) : escF (s.extract a s.size) i = escF s (a + i) := by
  unfold escF
  simp only [hc_ext s a _ h, oc_ext s a _ h, ext_sz, ← Nat.add_assoc]
  by_cases q : a + i < s.size
  · rw [ext_byt s a i q]
    by_cases r : byt s (a + i) = 10
    · rw [if_pos (.inr r), if_pos (.inr r)]
    · have c1 : ¬ (s.size - a ≤ i ∨ byt s (a + i) = 10) := by rintro (e | e); omega; exact r e
      have c2 : ¬ (s.size ≤ a + i ∨ byt s (a + i) = 10) := by rintro (e | e); omega; exact r e
      rw [if_neg c1, if_neg c2]
  · rw [if_pos (.inl (by omega)), if_pos (.inl (by omega))]
theorem esc_plain {t : ByteArray} (h0 : 0 < t.size) (h : 0 ≤ plainE (byt t 0)) (h10 : byt t 0 ≠ 10) : escF t 0 = .ok (plainE (byt t 0), 1) := by
  unfold escF
  have hx : byt t 0 ≠ 120 := fun e => by rw [e] at h; exact absurd h (by decide)
  have ho : ¬ 0 ≤ oc t 0 := fun e => by
    unfold oc at e
    split at e
    · rename_i q
      obtain ⟨_, q1, q2⟩ := q
      generalize byt t 0 = c at *
      have : c = 48 ∨ c = 49 ∨ c = 50 ∨ c = 51 ∨ c = 52 ∨ c = 53 ∨ c = 54 ∨ c = 55 := by omega
      rcases this with rfl | rfl | rfl | rfl | rfl | rfl | rfl | rfl <;> exact absurd h (by decide)
    · omega
  rw [if_neg (by rintro (e | e); omega; exact h10 e), if_neg hx, if_neg ho, if_neg (by omega)]
theorem esc_out {t : ByteArray} (h : t.size = 0 ∨ byt t 0 = 10) : escF t 0 = .error 4 := by
  unfold escF
  rw [if_pos (by rcases h with e | e; exact .inl (by omega); exact .inr e)]
theorem val1 (D : ByteArray) (b : Int) : val D b 1 = hx (byt D 0) := by simp [val]
theorem val2 (D : ByteArray) (b : Int) : val D b 2 = hx (byt D 0) * b + hx (byt D 1) := by simp [val]
theorem val3 (D : ByteArray) (b : Int) : val D b 3 = (hx (byt D 0) * b + hx (byt D 1)) * b + hx (byt D 2) := by simp [val]
theorem esc_hex {t : ByteArray} (h0 : 0 < t.size) (hc0 : byt t 0 = 120) {n : Nat} (hn : Run (fun c => decide (dgo c < 16)) (t.extract 1 t.size) n) :
    (Good ((t.extract 1 t.size).extract 0 (min n 2)) 16 255 ∧ escF t 0 = .ok (val ((t.extract 1 t.size).extract 0 (min n 2)) 16 (min n 2), 1 + min n 2)) ∨ (¬ Good ((t.extract 1 t.size).extract 0 (min n 2)) 16 255 ∧ escF t 0 = .error 5) := by
  obtain ⟨hn1, hn2, hn3⟩ := hn
  rw [ext_sz] at hn1 hn3
  have hsz : ∀ m, m ≤ n → ((t.extract 1 t.size).extract 0 m).size = m := fun m hm => by rw [ext_size, ext_sz]; omega
  have hb : ∀ m j, m ≤ n → j < m → byt ((t.extract 1 t.size).extract 0 m) j = byt t (1 + j) := fun m j hm hj => by
    rw [byt_ext _ 0 m j (by omega) (by rw [ext_sz]; omega), Nat.zero_add, ext_byt t 1 j (by omega)]
  have hd : ∀ j, j < n → 0 ≤ hx (byt t (1 + j)) := fun j hj => by
    have := hn2 j hj
    rw [ext_byt t 1 j (by omega)] at this
    exact (dgo16 _).1 (by simpa using this)
  have hno : hc t (1 + n) < 0 := by
    unfold hc
    split
    · rename_i q
      rcases hn3 with e | e
      · omega
      · rw [ext_byt t 1 n q] at e
        have := mt (dgo16 (byt t (1 + n))).2 (by simpa using e)
        omega
    · omega
  have hye : ∀ j, j < n → hc t (1 + j) = hx (byt t (1 + j)) := fun j hj => by unfold hc; rw [if_pos (by omega)]
  have e0 : escF t 0 = (if hc t 1 < 0 then .error 5 else if hc t 2 < 0 then .ok (hc t 1, 2) else .ok (hc t 1 * 16 + hc t 2, 3)) := by
    unfold escF
    rw [if_neg (by rintro (e | e); omega; rw [hc0] at e; exact absurd e (by decide)), if_pos hc0]
  rcases Nat.lt_or_ge 0 n with hp | hp
  · left
    have g0 := hd 0 hp
    have y0 := hye 0 hp
    have k0 := hx_hi (byt t (1 + 0))
    rcases Nat.lt_or_ge 1 n with hp1 | hp1
    · have g1 := hd 1 hp1
      have y1 := hye 1 hp1
      have k1 := hx_hi (byt t (1 + 1))
      have hm : min n 2 = 2 := by omega
      rw [hm, val2, hb 2 0 (by omega) (by omega), hb 2 1 (by omega) (by omega)]
      refine ⟨⟨by rw [hsz 2 (by omega)]; omega, fun j hj => ?_, ?_⟩, ?_⟩
      · rw [hsz 2 (by omega)] at hj
        rw [hb 2 j (by omega) hj]
        have := hx_hi (byt t (1 + j))
        have := hd j (by omega)
        omega
      · rw [hsz 2 (by omega), val2, hb 2 0 (by omega) (by omega), hb 2 1 (by omega) (by omega)]
        omega
      · rw [e0]
        rw [show hc t 1 = hx (byt t (1 + 0)) from y0, show hc t 2 = hx (byt t (1 + 1)) from y1, if_neg (by omega), if_neg (by omega)]
    · have hn1' : n = 1 := by omega
      subst hn1'
      rw [show min 1 2 = 1 from rfl, val1, hb 1 0 (by omega) (by omega)]
      refine ⟨⟨by rw [hsz 1 (by omega)]; omega, fun j hj => ?_, ?_⟩, ?_⟩
      · rw [hsz 1 (by omega)] at hj
        rw [hb 1 j (by omega) hj]
        have := hx_hi (byt t (1 + j))
        have := hd j (by omega)
        omega
      · rw [hsz 1 (by omega), val1, hb 1 0 (by omega) (by omega)]
        omega
      · rw [e0]
        rw [show hc t 1 = hx (byt t (1 + 0)) from y0, if_neg (by omega), if_pos hno]
  · right
    have hz : n = 0 := by omega
    subst hz
    refine ⟨fun hg => ?_, ?_⟩
    · have := hg.1
      rw [hsz _ (by omega)] at this
      omega
    · rw [e0, if_pos hno]
theorem esc_oct {t : ByteArray} (h0 : 0 < t.size) (h10 : byt t 0 ≠ 10) (h120 : byt t 0 ≠ 120) (hpl : plainE (byt t 0) < 0) {n : Nat} (hn : Run (fun c => decide (dgo c < 8)) t n) :
    (Good (t.extract 0 (min n 3)) 8 255 ∧ escF t 0 = .ok (val (t.extract 0 (min n 3)) 8 (min n 3), min n 3)) ∨ (¬ Good (t.extract 0 (min n 3)) 8 255 ∧ escF t 0 = .error 5) := by
  obtain ⟨hn1, hn2, hn3⟩ := hn
  have hsz : ∀ m, m ≤ n → (t.extract 0 m).size = m := fun m hm => by rw [ext_size]; omega
  have hb : ∀ m j, m ≤ n → j < m → byt (t.extract 0 m) j = byt t j := fun m j hm hj => by
    rw [byt_ext _ 0 m j (by omega) (by omega), Nat.zero_add]
  have hd : ∀ j, j < n → 48 ≤ byt t j ∧ byt t j ≤ 55 := fun j hj => (dgo8 _).1 (by simpa using hn2 j hj)
  have hh : ∀ j, j < n → hx (byt t j) = byt t j - 48 := fun j hj => hx8 _ (hd j hj).1 (hd j hj).2
  have hno : oc t n < 0 := by
    unfold oc
    split
    · rename_i q
      rcases hn3 with e | e
      · omega
      · exact absurd ((dgo8 _).2 q.2) (by simpa using e)
    · omega
  have hye : ∀ j, j < n → oc t j = byt t j - 48 := fun j hj => by unfold oc; rw [if_pos ⟨by omega, hd j hj⟩]
  have e0 : escF t 0 = (if 0 ≤ oc t 0 then
    (if oc t 1 < 0 then .ok (oc t 0, 1) else if oc t 2 < 0 then .ok (oc t 0 * 8 + oc t 1, 2)
     else if 255 < (oc t 0 * 8 + oc t 1) * 8 + oc t 2 then .error 5 else .ok ((oc t 0 * 8 + oc t 1) * 8 + oc t 2, 3)) else .error 5) := by
    unfold escF
    rw [if_neg (by rintro (e | e); omega; exact h10 e), if_neg h120, if_pos hpl]
  have hgd : ∀ m, m ≤ n → ∀ j, j < (t.extract 0 m).size → 0 ≤ hx (byt (t.extract 0 m) j) ∧ hx (byt (t.extract 0 m) j) < 8 := fun m hm j hj => by
    rw [hsz m hm] at hj
    rw [hb m j hm hj, hh j (by omega)]
    have := hd j (by omega)
    omega
  have d0 := hd 0
  have d1 := hd 1
  have d2 := hd 2
  have y0 := hye 0
  have y1 := hye 1
  have y2 := hye 2
  rcases Nat.lt_or_ge 2 n with hp | hp
  · have hm : min n 3 = 3 := by omega
    have hv : val (t.extract 0 3) 8 3 = (oc t 0 * 8 + oc t 1) * 8 + oc t 2 := by
      rw [val3, hb 3 0 (by omega) (by omega), hb 3 1 (by omega) (by omega), hb 3 2 (by omega) (by omega), hh 0 (by omega), hh 1 (by omega), hh 2 (by omega), y0 (by omega), y1 (by omega), y2 (by omega)]
    have q0 := d0 (by omega)
    have q1 := d1 (by omega)
    have q2 := d2 (by omega)
    have z0 := y0 (by omega)
    have z1 := y1 (by omega)
    have z2 := y2 (by omega)
    rw [hm, hv, e0, if_pos (by omega), if_neg (by omega), if_neg (by omega)]
    by_cases hg : 255 < (oc t 0 * 8 + oc t 1) * 8 + oc t 2
    · right
      refine ⟨fun hG => ?_, by rw [if_pos hg]⟩
      have := hG.2.2
      rw [hsz 3 (by omega), hv] at this
      omega
    · left
      refine ⟨⟨by rw [hsz 3 (by omega)]; omega, hgd 3 (by omega), by rw [hsz 3 (by omega), hv]; omega⟩, by rw [if_neg hg]⟩
  · rcases Nat.lt_or_ge 1 n with hp1 | hp1
    · have hn2' : n = 2 := by omega
      subst hn2'
      have q0 := d0 (by omega)
      have q1 := d1 (by omega)
      have z0 := y0 (by omega)
      have z1 := y1 (by omega)
      have hv : val (t.extract 0 2) 8 2 = oc t 0 * 8 + oc t 1 := by
        rw [val2, hb 2 0 (by omega) (by omega), hb 2 1 (by omega) (by omega), hh 0 (by omega), hh 1 (by omega), z0, z1]
      left
      rw [show min 2 3 = 2 from rfl, hv, e0, if_pos (by omega), if_neg (by omega), if_pos hno]
      exact ⟨⟨by rw [hsz 2 (by omega)]; omega, hgd 2 (by omega), by rw [hsz 2 (by omega), hv]; omega⟩, rfl⟩
    · rcases Nat.lt_or_ge 0 n with hp0 | hp0
      · have hn1' : n = 1 := by omega
        subst hn1'
        have q0 := d0 (by omega)
        have z0 := y0 (by omega)
        have hv : val (t.extract 0 1) 8 1 = oc t 0 := by
          rw [val1, hb 1 0 (by omega) (by omega), hh 0 (by omega), z0]
        left
        rw [show min 1 3 = 1 from rfl, hv, e0, if_pos (by omega), if_pos hno]
        exact ⟨⟨by rw [hsz 1 (by omega)]; omega, hgd 1 (by omega), by rw [hsz 1 (by omega), hv]; omega⟩, rfl⟩
      · have hz : n = 0 := by omega
        subst hz
        right
        refine ⟨fun hg => ?_, by rw [e0, if_neg (by omega)]⟩
        have := hg.1
        rw [hsz _ (by omega)] at this
        omega
end Go.Proofs.YtdplfflkmphpbaaGreatDoor.Pl
