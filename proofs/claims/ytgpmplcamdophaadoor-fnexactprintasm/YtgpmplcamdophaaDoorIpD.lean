import Derived.Test.YtgpmplcamdophaaDoorIpC
set_option linter.unusedVariables false
set_option linter.unusedSimpArgs false
namespace Go.Proofs.YtgpmplcamdophaaDoor.Pl
theorem ba_data {a b : ByteArray} (h : a.data.toList = b.data.toList) : a = b := by
  obtain ⟨⟨l⟩⟩ := a
  obtain ⟨⟨m⟩⟩ := b
  simp at h
  rw [h]
theorem jn_1 (F : Nat → ByteArray) : jn 1 F = F 0 := by
  apply ba_data
  simp [jn, Lib.join, List.intercalate, List.range_succ]
theorem jn_2 (F : Nat → ByteArray) : jn 2 F = F 0 ++ ⟨#[44, 32]⟩ ++ F 1 := by
  apply ba_data
  simp [jn, Lib.join, List.intercalate, List.range_succ, List.intersperse, ByteArray.data_append]
theorem jn_3 (F : Nat → ByteArray) : jn 3 F = F 0 ++ ⟨#[44, 32]⟩ ++ F 1 ++ ⟨#[44, 32]⟩ ++ F 2 := by
  apply ba_data
  simp [jn, Lib.join, List.intercalate, List.range_succ, List.intersperse, ByteArray.data_append]
/-- a line's row in the whole text -/
def rowT (k : Int) (T : ByteArray) : ByteArray := if k = 1 then T ++ ⟨#[10]⟩ else (⟨#[32, 32]⟩ ++ T) ++ ⟨#[10]⟩
theorem rowT_no {k : Int} (T : ByteArray) (h : ¬ k = 1) : rowT k T = (⟨#[32, 32]⟩ ++ T) ++ ⟨#[10]⟩ := by unfold rowT; rw [if_neg h]
theorem ba_assoc (a b c : ByteArray) : a ++ b ++ c = a ++ (b ++ c) := by
  apply ba_data
  simp [ByteArray.data_append]
theorem asm_row {k : Int} (hk : ¬ k = 1) {Wd : ByteArray} {m : Nat} {F : Nat → ByteArray} {J T : ByteArray} (h : ¬ m = 0) (hj : jn m F = J) (hT : Wd ++ ⟨#[32]⟩ ++ J = T) : asm Wd m F = rowT k T := by
  rw [asm_pos Wd F h, rowT_no T hk, hj, ← hT]
  simp only [ba_assoc]
theorem asm_bare {k : Int} (hk : ¬ k = 1) {Wd : ByteArray} {F : Nat → ByteArray} : asm Wd 0 F = rowT k Wd := by
  rw [asm_zero Wd F rfl, rowT_no Wd hk]
theorem lab_size {s : ByteArray} (h : sy s true = true) : 1 ≤ s.size ∧ s.size ≤ 48 := by
  simp only [sy, if_true, lab, Bool.and_eq_true, decide_eq_true_eq] at h
  exact ⟨h.1.1.1, h.1.1.2⟩
theorem emp_size {s : ByteArray} (h : sy s false = true) : s = ⟨#[]⟩ := by
  simp only [sy, Bool.false_eq_true, if_false] at h
  have := (emp_iff s).1 h
  obtain ⟨⟨l⟩⟩ := s
  have hl : l.length = 0 := this
  cases l with
  | nil => rfl
  | cons => simp at hl
theorem only_bd {op rd r1 r2 im : Int} {d s : Bool} (h : onlyRegs op rd r1 r2 im d s = true) : op = 0 ∧ r2 = 0 ∧ im = 0 ∧ (0 ≤ rd ∧ rd ≤ 31) ∧ (0 ≤ r1 ∧ r1 ≤ 31) := by
  simp only [onlyRegs, Bool.and_eq_true, beq_iff_eq, rg, decide_eq_true_eq] at h
  omega
theorem okF_bd {f : Nat} (hf : f < 9) {rd r1 r2 im : Int} (h : okF f rd r1 r2 im = true) : (0 ≤ rd ∧ rd ≤ 31) ∧ (0 ≤ r1 ∧ r1 ≤ 31) ∧ (0 ≤ r2 ∧ r2 ≤ 31) ∧ (-4294967296 ≤ im ∧ im ≤ 4294967296) := by
  have hlo : ∀ f : Nat, f < 9 → -4294967296 ≤ lo f ∧ hi f ≤ 4294967296 := by decide +kernel
  have hl := hlo f hf
  simp only [okF, imo, rg, Bool.and_eq_true, decide_eq_true_eq] at h
  omega
end Go.Proofs.YtgpmplcamdophaaDoor.Pl
namespace Go.Proofs.YtgpmplcamdophaaDoor.W
open Go.RowKit
def Both (x : Pl.Ln) (T : ByteArray) : Prop :=
  T.size ≤ 400 ∧ (∀ w : World, Calls Tryd.prog 20 #[.agg #[.int .i64 x.k, .int .i64 x.op, .int .i64 x.rd, .int .i64 x.r1, .int .i64 x.r2, .int .i64 x.im, .string x.s, .int .i64 x.n]] w fun e w' => e = .returned (.string T) ∧ Below w.heap.size w w') ∧
  (∀ w : World, AsmLies w → Calls Tryd.prog 23 #[.agg #[.int .i64 x.k, .int .i64 x.op, .int .i64 x.rd, .int .i64 x.r1, .int .i64 x.r2, .int .i64 x.im, .string x.s, .int .i64 x.n]] w fun e w' => e = .returned (.string (Pl.rowT x.k T)) ∧ Below w.heap.size w w')
def fl (ts : List ByteArray) (j : Nat) : ByteArray := ts.getD j ⟨#[]⟩
set_option maxHeartbeats 1000000 in
theorem both_1 (op rd r1 r2 im n : Int) (s : ByteArray) (hs : s.size ≤ 48) : Both ⟨1, op, rd, r1, r2, im, s, n⟩ (s ++ ⟨#[58]⟩) := by
  refine ⟨?_, fun w => lt_1 op rd r1 r2 im n s (by omega) w, fun w h => ?_⟩
  · have e1 : (⟨#[58]⟩ : ByteArray).size = 1 := rfl
    simp [e1]; omega
  · clear h
    have e : Pl.rowT 1 (s ++ ⟨#[58]⟩) = s ++ ⟨#[58, 10]⟩ := by
      apply Pl.ba_data
      simp [Pl.rowT, ByteArray.data_append]
    show Calls Tryd.prog 23 #[.agg #[.int .i64 1, .int .i64 op, .int .i64 rd, .int .i64 r1, .int .i64 r2, .int .i64 im, .string s, .int .i64 n]] w fun e w' => e = .returned (.string (Pl.rowT 1 (s ++ ⟨#[58]⟩))) ∧ Below w.heap.size w w'
    rw [e]
    clear e
    go_enter Tryd.func23, Tryd.ntmps23
    go_wp2
    go_ret
    exact ⟨rfl, below_alloc2 w _⟩
set_option maxHeartbeats 1000000 in
theorem both_9 (op rd r1 r2 im n : Int) (s : ByteArray) : Both ⟨9, op, rd, r1, r2, im, s, n⟩ (Pl.lw 9) := by
  refine ⟨?_, fun w => lt_9 op rd r1 r2 im n s w, fun w h => ?_⟩
  · decide
  · have key := lineText_gen ⟨9, op, rd, r1, r2, im, s, n⟩ rfl ([] : List Int) (by decide) (fl []) (Pl.lw 9) (by decide) (by decide) (fun w _ => od_9 op rd r1 r2 im n s w) (fun j hj => absurd hj (Nat.not_lt_zero j)) (fun w h => wo_9 op rd r1 r2 im n s w h) w h
    rw [show (([] : List Int)).length = 0 from rfl, Pl.asm_bare (k := 9) (by decide)] at key
    exact key
set_option maxHeartbeats 1000000 in
theorem both_10 (op rd r1 r2 im n : Int) (s : ByteArray) : Both ⟨10, op, rd, r1, r2, im, s, n⟩ (Pl.lw 10) := by
  refine ⟨?_, fun w => lt_10 op rd r1 r2 im n s w, fun w h => ?_⟩
  · decide
  · have key := lineText_gen ⟨10, op, rd, r1, r2, im, s, n⟩ rfl ([] : List Int) (by decide) (fl []) (Pl.lw 10) (by decide) (by decide) (fun w _ => od_10 op rd r1 r2 im n s w) (fun j hj => absurd hj (Nat.not_lt_zero j)) (fun w h => wo_10 op rd r1 r2 im n s w h) w h
    rw [show (([] : List Int)).length = 0 from rfl, Pl.asm_bare (k := 10) (by decide)] at key
    exact key
set_option maxHeartbeats 1000000 in
theorem both_11 (op rd r1 r2 im n : Int) (s : ByteArray) : Both ⟨11, op, rd, r1, r2, im, s, n⟩ (Pl.lw 11) := by
  refine ⟨?_, fun w => lt_11 op rd r1 r2 im n s w, fun w h => ?_⟩
  · decide
  · have key := lineText_gen ⟨11, op, rd, r1, r2, im, s, n⟩ rfl ([] : List Int) (by decide) (fl []) (Pl.lw 11) (by decide) (by decide) (fun w _ => od_11 op rd r1 r2 im n s w) (fun j hj => absurd hj (Nat.not_lt_zero j)) (fun w h => wo_11 op rd r1 r2 im n s w h) w h
    rw [show (([] : List Int)).length = 0 from rfl, Pl.asm_bare (k := 11) (by decide)] at key
    exact key
set_option maxHeartbeats 1000000 in
theorem both_7 (op rd r1 r2 im n : Int) (s : ByteArray) (hs : s.size ≤ 48) : Both ⟨7, op, rd, r1, r2, im, s, n⟩ ((⟨#[106, 32]⟩ : ByteArray) ++ s) := by
  refine ⟨?_, fun w => lt_7 op rd r1 r2 im n s (by omega) w, fun w h => ?_⟩
  · have e1 : (⟨#[106, 32]⟩ : ByteArray).size = 2 := rfl
    simp [e1]; omega
  · have hjn : Pl.jn 1 (fl [s]) = s := Pl.jn_1 _
    have hsz : (Pl.jn (([5] : List Int)).length (fl [s])).size ≤ 16777216 := by
      rw [show (([5] : List Int)).length = 1 from rfl, hjn]
      omega
    have key := lineText_gen ⟨7, op, rd, r1, r2, im, s, n⟩ rfl ([5] : List Int) (by decide) (fl [s]) (Pl.lw 7) (by decide) hsz (fun w _ => od_7 op rd r1 r2 im n s w) (fun j hj w h => by
        match j, hj with
        | 0, _ => exact ot_5 ⟨7, op, rd, r1, r2, im, s, n⟩ w h
        | j + 1, hj => exact absurd hj (by simp)) (fun w h => wo_7 op rd r1 r2 im n s w h) w h
    rw [show (([5] : List Int)).length = 1 from rfl, Pl.asm_row (k := 7) (T := (⟨#[106, 32]⟩ : ByteArray) ++ s) (by decide) (by decide) hjn (by
      apply Pl.ba_data
      simp [ByteArray.data_append, Pl.lw, Pl.lws])] at key
    exact key
set_option maxHeartbeats 1000000 in
theorem both_8 (op rd r1 r2 im n : Int) (s : ByteArray) (hs : s.size ≤ 48) : Both ⟨8, op, rd, r1, r2, im, s, n⟩ ((⟨#[99, 97, 108, 108, 32]⟩ : ByteArray) ++ s) := by
  refine ⟨?_, fun w => lt_8 op rd r1 r2 im n s (by omega) w, fun w h => ?_⟩
  · have e1 : (⟨#[99, 97, 108, 108, 32]⟩ : ByteArray).size = 5 := rfl
    simp [e1]; omega
  · have hjn : Pl.jn 1 (fl [s]) = s := Pl.jn_1 _
    have hsz : (Pl.jn (([5] : List Int)).length (fl [s])).size ≤ 16777216 := by
      rw [show (([5] : List Int)).length = 1 from rfl, hjn]
      omega
    have key := lineText_gen ⟨8, op, rd, r1, r2, im, s, n⟩ rfl ([5] : List Int) (by decide) (fl [s]) (Pl.lw 8) (by decide) hsz (fun w _ => od_8 op rd r1 r2 im n s w) (fun j hj w h => by
        match j, hj with
        | 0, _ => exact ot_5 ⟨8, op, rd, r1, r2, im, s, n⟩ w h
        | j + 1, hj => exact absurd hj (by simp)) (fun w h => wo_8 op rd r1 r2 im n s w h) w h
    rw [show (([5] : List Int)).length = 1 from rfl, Pl.asm_row (k := 8) (T := (⟨#[99, 97, 108, 108, 32]⟩ : ByteArray) ++ s) (by decide) (by decide) hjn (by
      apply Pl.ba_data
      simp [ByteArray.data_append, Pl.lw, Pl.lws])] at key
    exact key
set_option maxHeartbeats 1000000 in
theorem both_12 (op rd r1 r2 im n : Int) (hn : -4611686018427387904 ≤ n ∧ n ≤ 4611686018427387904) : Both ⟨12, op, rd, r1, r2, im, ⟨#[]⟩, n⟩ ((⟨#[46, 98, 121, 116, 101]⟩ : ByteArray) ++ ⟨#[32]⟩ ++ Pl.num n) := by
  have sN := Pl.num_size hn
  refine ⟨?_, fun w => lt_12 op rd r1 r2 im n hn w, fun w h => ?_⟩
  · have e1 : (⟨#[46, 98, 121, 116, 101]⟩ : ByteArray).size = 5 := rfl
    have e2 : (⟨#[32]⟩ : ByteArray).size = 1 := rfl
    simp [e1, e2]; omega
  · have hjn : Pl.jn 1 (fl [Pl.num n]) = (Pl.num n) := Pl.jn_1 _
    have hsz : (Pl.jn (([7] : List Int)).length (fl [Pl.num n])).size ≤ 16777216 := by
      rw [show (([7] : List Int)).length = 1 from rfl, hjn]
      omega
    have key := lineText_gen ⟨12, op, rd, r1, r2, im, ⟨#[]⟩, n⟩ rfl ([7] : List Int) (by decide) (fl [Pl.num n]) (Pl.lw 12) (by decide) hsz (fun w _ => od_12 op rd r1 r2 im n ⟨#[]⟩ w) (fun j hj w h => by
        match j, hj with
        | 0, _ => exact ot_7 ⟨12, op, rd, r1, r2, im, ⟨#[]⟩, n⟩ hn w h
        | j + 1, hj => exact absurd hj (by simp)) (fun w h => wo_12 op rd r1 r2 im n ⟨#[]⟩ w h) w h
    rw [show (([7] : List Int)).length = 1 from rfl, Pl.asm_row (k := 12) (T := (⟨#[46, 98, 121, 116, 101]⟩ : ByteArray) ++ ⟨#[32]⟩ ++ Pl.num n) (by decide) (by decide) hjn (by
      apply Pl.ba_data
      simp [ByteArray.data_append, Pl.lw, Pl.lws])] at key
    exact key
set_option maxHeartbeats 1000000 in
theorem both_13 (op rd r1 r2 im n : Int) (hn : -4611686018427387904 ≤ n ∧ n ≤ 4611686018427387904) : Both ⟨13, op, rd, r1, r2, im, ⟨#[]⟩, n⟩ ((⟨#[46, 104, 97, 108, 102]⟩ : ByteArray) ++ ⟨#[32]⟩ ++ Pl.num n) := by
  have sN := Pl.num_size hn
  refine ⟨?_, fun w => lt_13 op rd r1 r2 im n hn w, fun w h => ?_⟩
  · have e1 : (⟨#[46, 104, 97, 108, 102]⟩ : ByteArray).size = 5 := rfl
    have e2 : (⟨#[32]⟩ : ByteArray).size = 1 := rfl
    simp [e1, e2]; omega
  · have hjn : Pl.jn 1 (fl [Pl.num n]) = (Pl.num n) := Pl.jn_1 _
    have hsz : (Pl.jn (([7] : List Int)).length (fl [Pl.num n])).size ≤ 16777216 := by
      rw [show (([7] : List Int)).length = 1 from rfl, hjn]
      omega
    have key := lineText_gen ⟨13, op, rd, r1, r2, im, ⟨#[]⟩, n⟩ rfl ([7] : List Int) (by decide) (fl [Pl.num n]) (Pl.lw 13) (by decide) hsz (fun w _ => od_13 op rd r1 r2 im n ⟨#[]⟩ w) (fun j hj w h => by
        match j, hj with
        | 0, _ => exact ot_7 ⟨13, op, rd, r1, r2, im, ⟨#[]⟩, n⟩ hn w h
        | j + 1, hj => exact absurd hj (by simp)) (fun w h => wo_13 op rd r1 r2 im n ⟨#[]⟩ w h) w h
    rw [show (([7] : List Int)).length = 1 from rfl, Pl.asm_row (k := 13) (T := (⟨#[46, 104, 97, 108, 102]⟩ : ByteArray) ++ ⟨#[32]⟩ ++ Pl.num n) (by decide) (by decide) hjn (by
      apply Pl.ba_data
      simp [ByteArray.data_append, Pl.lw, Pl.lws])] at key
    exact key
set_option maxHeartbeats 1000000 in
theorem both_14 (op rd r1 r2 im n : Int) (hn : -4611686018427387904 ≤ n ∧ n ≤ 4611686018427387904) : Both ⟨14, op, rd, r1, r2, im, ⟨#[]⟩, n⟩ ((⟨#[46, 119, 111, 114, 100]⟩ : ByteArray) ++ ⟨#[32]⟩ ++ Pl.num n) := by
  have sN := Pl.num_size hn
  refine ⟨?_, fun w => lt_14 op rd r1 r2 im n hn w, fun w h => ?_⟩
  · have e1 : (⟨#[46, 119, 111, 114, 100]⟩ : ByteArray).size = 5 := rfl
    have e2 : (⟨#[32]⟩ : ByteArray).size = 1 := rfl
    simp [e1, e2]; omega
  · have hjn : Pl.jn 1 (fl [Pl.num n]) = (Pl.num n) := Pl.jn_1 _
    have hsz : (Pl.jn (([9] : List Int)).length (fl [Pl.num n])).size ≤ 16777216 := by
      rw [show (([9] : List Int)).length = 1 from rfl, hjn]
      omega
    have key := lineText_gen ⟨14, op, rd, r1, r2, im, ⟨#[]⟩, n⟩ rfl ([9] : List Int) (by decide) (fl [Pl.num n]) (Pl.lw 14) (by decide) hsz (fun w _ => od_14 op rd r1 r2 im n ⟨#[]⟩ w) (fun j hj w h => by
        match j, hj with
        | 0, _ => exact ot_9e ⟨14, op, rd, r1, r2, im, ⟨#[]⟩, n⟩ rfl hn w h
        | j + 1, hj => exact absurd hj (by simp)) (fun w h => wo_14 op rd r1 r2 im n ⟨#[]⟩ w h) w h
    rw [show (([9] : List Int)).length = 1 from rfl, Pl.asm_row (k := 14) (T := (⟨#[46, 119, 111, 114, 100]⟩ : ByteArray) ++ ⟨#[32]⟩ ++ Pl.num n) (by decide) (by decide) hjn (by
      apply Pl.ba_data
      simp [ByteArray.data_append, Pl.lw, Pl.lws])] at key
    exact key
set_option maxHeartbeats 1000000 in
theorem both_15 (op rd r1 r2 im n : Int) (hn : -4611686018427387904 ≤ n ∧ n ≤ 4611686018427387904) : Both ⟨15, op, rd, r1, r2, im, ⟨#[]⟩, n⟩ ((⟨#[46, 122, 101, 114, 111]⟩ : ByteArray) ++ ⟨#[32]⟩ ++ Pl.num n) := by
  have sN := Pl.num_size hn
  refine ⟨?_, fun w => lt_15 op rd r1 r2 im n hn w, fun w h => ?_⟩
  · have e1 : (⟨#[46, 122, 101, 114, 111]⟩ : ByteArray).size = 5 := rfl
    have e2 : (⟨#[32]⟩ : ByteArray).size = 1 := rfl
    simp [e1, e2]; omega
  · have hjn : Pl.jn 1 (fl [Pl.num n]) = (Pl.num n) := Pl.jn_1 _
    have hsz : (Pl.jn (([7] : List Int)).length (fl [Pl.num n])).size ≤ 16777216 := by
      rw [show (([7] : List Int)).length = 1 from rfl, hjn]
      omega
    have key := lineText_gen ⟨15, op, rd, r1, r2, im, ⟨#[]⟩, n⟩ rfl ([7] : List Int) (by decide) (fl [Pl.num n]) (Pl.lw 15) (by decide) hsz (fun w _ => od_15 op rd r1 r2 im n ⟨#[]⟩ w) (fun j hj w h => by
        match j, hj with
        | 0, _ => exact ot_7 ⟨15, op, rd, r1, r2, im, ⟨#[]⟩, n⟩ hn w h
        | j + 1, hj => exact absurd hj (by simp)) (fun w h => wo_15 op rd r1 r2 im n ⟨#[]⟩ w h) w h
    rw [show (([7] : List Int)).length = 1 from rfl, Pl.asm_row (k := 15) (T := (⟨#[46, 122, 101, 114, 111]⟩ : ByteArray) ++ ⟨#[32]⟩ ++ Pl.num n) (by decide) (by decide) hjn (by
      apply Pl.ba_data
      simp [ByteArray.data_append, Pl.lw, Pl.lws])] at key
    exact key
set_option maxHeartbeats 1000000 in
theorem both_16 (op rd r1 r2 im n : Int) (hn : -4611686018427387904 ≤ n ∧ n ≤ 4611686018427387904) : Both ⟨16, op, rd, r1, r2, im, ⟨#[]⟩, n⟩ ((⟨#[46, 97, 108, 105, 103, 110]⟩ : ByteArray) ++ ⟨#[32]⟩ ++ Pl.num n) := by
  have sN := Pl.num_size hn
  refine ⟨?_, fun w => lt_16 op rd r1 r2 im n hn w, fun w h => ?_⟩
  · have e1 : (⟨#[46, 97, 108, 105, 103, 110]⟩ : ByteArray).size = 6 := rfl
    have e2 : (⟨#[32]⟩ : ByteArray).size = 1 := rfl
    simp [e1, e2]; omega
  · have hjn : Pl.jn 1 (fl [Pl.num n]) = (Pl.num n) := Pl.jn_1 _
    have hsz : (Pl.jn (([7] : List Int)).length (fl [Pl.num n])).size ≤ 16777216 := by
      rw [show (([7] : List Int)).length = 1 from rfl, hjn]
      omega
    have key := lineText_gen ⟨16, op, rd, r1, r2, im, ⟨#[]⟩, n⟩ rfl ([7] : List Int) (by decide) (fl [Pl.num n]) (Pl.lw 16) (by decide) hsz (fun w _ => od_16 op rd r1 r2 im n ⟨#[]⟩ w) (fun j hj w h => by
        match j, hj with
        | 0, _ => exact ot_7 ⟨16, op, rd, r1, r2, im, ⟨#[]⟩, n⟩ hn w h
        | j + 1, hj => exact absurd hj (by simp)) (fun w h => wo_16 op rd r1 r2 im n ⟨#[]⟩ w h) w h
    rw [show (([7] : List Int)).length = 1 from rfl, Pl.asm_row (k := 16) (T := (⟨#[46, 97, 108, 105, 103, 110]⟩ : ByteArray) ++ ⟨#[32]⟩ ++ Pl.num n) (by decide) (by decide) hjn (by
      apply Pl.ba_data
      simp [ByteArray.data_append, Pl.lw, Pl.lws])] at key
    exact key
set_option maxHeartbeats 1000000 in
theorem both_14n (op rd r1 r2 im n : Int) (s : ByteArray) (he : ¬ s.size = 0) (hs : s.size ≤ 48) (hn : -4611686018427387904 ≤ n ∧ n ≤ 4611686018427387904) : Both ⟨14, op, rd, r1, r2, im, s, n⟩ ((⟨#[46, 119, 111, 114, 100, 32]⟩ : ByteArray) ++ s ++ Pl.dist n) := by
  have sT := Pl.dist_size hn
  refine ⟨?_, fun w => lt_14n op rd r1 r2 im n s he (by omega) hn w, fun w h => ?_⟩
  · have e1 : (⟨#[46, 119, 111, 114, 100, 32]⟩ : ByteArray).size = 6 := rfl
    simp [e1]; omega
  · have hjn : Pl.jn 1 (fl [s ++ Pl.dist n]) = (s ++ Pl.dist n) := Pl.jn_1 _
    have hsz : (Pl.jn (([9] : List Int)).length (fl [s ++ Pl.dist n])).size ≤ 16777216 := by
      rw [show (([9] : List Int)).length = 1 from rfl, hjn]
      simp; omega
    have key := lineText_gen ⟨14, op, rd, r1, r2, im, s, n⟩ rfl ([9] : List Int) (by decide) (fl [s ++ Pl.dist n]) (Pl.lw 14) (by decide) hsz (fun w _ => od_14 op rd r1 r2 im n s w) (fun j hj w h => by
        match j, hj with
        | 0, _ => exact ot_9n ⟨14, op, rd, r1, r2, im, s, n⟩ he (by show s.size ≤ _; omega) hn w h
        | j + 1, hj => exact absurd hj (by simp)) (fun w h => wo_14 op rd r1 r2 im n s w h) w h
    rw [show (([9] : List Int)).length = 1 from rfl, Pl.asm_row (k := 14) (T := (⟨#[46, 119, 111, 114, 100, 32]⟩ : ByteArray) ++ s ++ Pl.dist n) (by decide) (by decide) hjn (by
      apply Pl.ba_data
      simp [ByteArray.data_append, Pl.lw, Pl.lws])] at key
    exact key
set_option maxHeartbeats 1000000 in
theorem both_4 (op : Int) (rd : Nat) (r1 r2 im n : Int) (s : ByteArray) (hd : rd ≤ 31) (hn : -4611686018427387904 ≤ n ∧ n ≤ 4611686018427387904) : Both ⟨4, op, (rd : Int), r1, r2, im, s, n⟩ ((⟨#[108, 105, 32]⟩ : ByteArray) ++ Pl.rn rd ++ ⟨#[44, 32]⟩ ++ Pl.num n) := by
  have sD := Pl.rn_size rd (by omega)
  have sN := Pl.num_size hn
  refine ⟨?_, fun w => lt_4 op rd r1 r2 im n s hd hn w, fun w h => ?_⟩
  · have e1 : (⟨#[108, 105, 32]⟩ : ByteArray).size = 3 := rfl
    have e2 : (⟨#[44, 32]⟩ : ByteArray).size = 2 := rfl
    simp [e1, e2]; omega
  · have hjn : Pl.jn 2 (fl [Pl.rn rd, Pl.num n]) = (Pl.rn rd) ++ ⟨#[44, 32]⟩ ++ (Pl.num n) := Pl.jn_2 _
    have hsz : (Pl.jn (([0, 8] : List Int)).length (fl [Pl.rn rd, Pl.num n])).size ≤ 16777216 := by
      rw [show (([0, 8] : List Int)).length = 2 from rfl, hjn]
      have e2 : (⟨#[44, 32]⟩ : ByteArray).size = 2 := rfl
      simp [e2]; omega
    have key := lineText_gen ⟨4, op, (rd : Int), r1, r2, im, s, n⟩ rfl ([0, 8] : List Int) (by decide) (fl [Pl.rn rd, Pl.num n]) (Pl.lw 4) (by decide) hsz (fun w _ => od_4 op rd r1 r2 im n s w) (fun j hj w h => by
        match j, hj with
        | 0, _ => exact ot_0 ⟨4, op, (rd : Int), r1, r2, im, s, n⟩ rd rfl hd w h
        | 1, _ => exact ot_8 ⟨4, op, (rd : Int), r1, r2, im, s, n⟩ hn w h
        | j + 2, hj => exact absurd hj (by simp)) (fun w h => wo_4 op rd r1 r2 im n s w h) w h
    rw [show (([0, 8] : List Int)).length = 2 from rfl, Pl.asm_row (k := 4) (T := (⟨#[108, 105, 32]⟩ : ByteArray) ++ Pl.rn rd ++ ⟨#[44, 32]⟩ ++ Pl.num n) (by decide) (by decide) hjn (by
      apply Pl.ba_data
      simp [ByteArray.data_append, Pl.lw, Pl.lws])] at key
    exact key
set_option maxHeartbeats 1000000 in
theorem both_5 (op : Int) (rd : Nat) (r1 r2 im n : Int) (s : ByteArray) (hd : rd ≤ 31) (hs : s.size ≤ 48) (hn : -4611686018427387904 ≤ n ∧ n ≤ 4611686018427387904) : Both ⟨5, op, (rd : Int), r1, r2, im, s, n⟩ ((⟨#[108, 97, 32]⟩ : ByteArray) ++ Pl.rn rd ++ ⟨#[44, 32]⟩ ++ s ++ Pl.dist n) := by
  have sD := Pl.rn_size rd (by omega)
  have sT := Pl.dist_size hn
  refine ⟨?_, fun w => lt_5 op rd r1 r2 im n s hd (by omega) hn w, fun w h => ?_⟩
  · have e1 : (⟨#[108, 97, 32]⟩ : ByteArray).size = 3 := rfl
    have e2 : (⟨#[44, 32]⟩ : ByteArray).size = 2 := rfl
    simp [e1, e2]; omega
  · have hjn : Pl.jn 2 (fl [Pl.rn rd, s ++ Pl.dist n]) = (Pl.rn rd) ++ ⟨#[44, 32]⟩ ++ (s ++ Pl.dist n) := Pl.jn_2 _
    have hsz : (Pl.jn (([0, 6] : List Int)).length (fl [Pl.rn rd, s ++ Pl.dist n])).size ≤ 16777216 := by
      rw [show (([0, 6] : List Int)).length = 2 from rfl, hjn]
      have e2 : (⟨#[44, 32]⟩ : ByteArray).size = 2 := rfl
      simp [e2]; omega
    have key := lineText_gen ⟨5, op, (rd : Int), r1, r2, im, s, n⟩ rfl ([0, 6] : List Int) (by decide) (fl [Pl.rn rd, s ++ Pl.dist n]) (Pl.lw 5) (by decide) hsz (fun w _ => od_5 op rd r1 r2 im n s w) (fun j hj w h => by
        match j, hj with
        | 0, _ => exact ot_0 ⟨5, op, (rd : Int), r1, r2, im, s, n⟩ rd rfl hd w h
        | 1, _ => exact ot_6 ⟨5, op, (rd : Int), r1, r2, im, s, n⟩ (by show s.size ≤ _; omega) hn w h
        | j + 2, hj => exact absurd hj (by simp)) (fun w h => wo_5 op rd r1 r2 im n s w h) w h
    rw [show (([0, 6] : List Int)).length = 2 from rfl, Pl.asm_row (k := 5) (T := (⟨#[108, 97, 32]⟩ : ByteArray) ++ Pl.rn rd ++ ⟨#[44, 32]⟩ ++ s ++ Pl.dist n) (by decide) (by decide) hjn (by
      apply Pl.ba_data
      simp [ByteArray.data_append, Pl.lw, Pl.lws])] at key
    exact key
set_option maxHeartbeats 1000000 in
theorem both_6 (op : Int) (rd r1 : Nat) (r2 im n : Int) (s : ByteArray) (hd : rd ≤ 31) (ha : r1 ≤ 31) : Both ⟨6, op, (rd : Int), (r1 : Int), r2, im, s, n⟩ ((⟨#[109, 118, 32]⟩ : ByteArray) ++ Pl.rn rd ++ ⟨#[44, 32]⟩ ++ Pl.rn r1) := by
  have sD := Pl.rn_size rd (by omega)
  have s1 := Pl.rn_size r1 (by omega)
  refine ⟨?_, fun w => lt_6 op rd r1 r2 im n s hd ha w, fun w h => ?_⟩
  · have e1 : (⟨#[109, 118, 32]⟩ : ByteArray).size = 3 := rfl
    have e2 : (⟨#[44, 32]⟩ : ByteArray).size = 2 := rfl
    simp [e1, e2]; omega
  · have hjn : Pl.jn 2 (fl [Pl.rn rd, Pl.rn r1]) = (Pl.rn rd) ++ ⟨#[44, 32]⟩ ++ (Pl.rn r1) := Pl.jn_2 _
    have hsz : (Pl.jn (([0, 1] : List Int)).length (fl [Pl.rn rd, Pl.rn r1])).size ≤ 16777216 := by
      rw [show (([0, 1] : List Int)).length = 2 from rfl, hjn]
      have e2 : (⟨#[44, 32]⟩ : ByteArray).size = 2 := rfl
      simp [e2]; omega
    have key := lineText_gen ⟨6, op, (rd : Int), (r1 : Int), r2, im, s, n⟩ rfl ([0, 1] : List Int) (by decide) (fl [Pl.rn rd, Pl.rn r1]) (Pl.lw 6) (by decide) hsz (fun w _ => od_6 op rd r1 r2 im n s w) (fun j hj w h => by
        match j, hj with
        | 0, _ => exact ot_0 ⟨6, op, (rd : Int), (r1 : Int), r2, im, s, n⟩ rd rfl hd w h
        | 1, _ => exact ot_1 ⟨6, op, (rd : Int), (r1 : Int), r2, im, s, n⟩ r1 rfl ha w h
        | j + 2, hj => exact absurd hj (by simp)) (fun w h => wo_6 op rd r1 r2 im n s w h) w h
    rw [show (([0, 1] : List Int)).length = 2 from rfl, Pl.asm_row (k := 6) (T := (⟨#[109, 118, 32]⟩ : ByteArray) ++ Pl.rn rd ++ ⟨#[44, 32]⟩ ++ Pl.rn r1) (by decide) (by decide) hjn (by
      apply Pl.ba_data
      simp [ByteArray.data_append, Pl.lw, Pl.lws])] at key
    exact key
end Go.Proofs.YtgpmplcamdophaaDoor.W
