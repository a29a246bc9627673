import Derived.Test.YtfcfnbncgadomaaQ00
import Derived.OwnWalk
import Derived.Laws.MakeOwn
import Derived.Laws.OwnMore
import Derived.Deep.AppendLies
set_option linter.unusedVariables false
set_option linter.unusedSimpArgs false
namespace Go.Proofs.Ytfcfnbncgadomaa.W
open Go.RowKit
theorem isWord_any (n : Int) (w : World) : Calls Try.prog 58 #[.int .i64 n] w fun e w' => e = .returned (.bool (Pl.isW n)) ∧ w' = w := by
  go_enter Try.func58, Try.ntmps58
  go_wp2_with (go_at_call 72; refine (implWord_any _ _).mono ?_; rintro e w' ⟨rfl, rfl⟩)
  go_ret
  exact ⟨ret_bool (Pl.isW_wd n), rfl⟩
theorem wordOk_any (n : Int) (w : World) : Calls Try.prog 52 #[.int .i64 n] w fun e w' => e = .returned (.bool (Pl.isW n)) ∧ w' = w := by
  by_cases h1 : 0 ≤ n <;> by_cases h2 : n ≤ 4294967295
  all_goals
    go_enter Try.func52, Try.ntmps52
    go_wp2
    go_ret
    exact ⟨ret_bool (by simp [Pl.isW]; omega), rfl⟩
theorem implStackOk_any (n : Int) (w : World) : Calls Try.prog 57 #[.int .i64 n] w fun e w' => e = .returned (.bool (Pl.skOk n)) ∧ w' = w := by
  by_cases h1 : 0 ≤ n <;> by_cases h2 : n ≤ 65536
  all_goals
    go_enter Try.func57, Try.ntmps57
    go_wp2
    go_ret
    refine ⟨ret_bool ?_, rfl⟩
  · by_cases h : n % 16 = 0 <;> simp [Pl.skOk, h, h1, h2]
  all_goals (symm; rw [Bool.eq_false_iff]; intro hc; simp [Pl.skOk] at hc; omega)
theorem specStackOk_any (n : Int) (w : World) : Calls Try.prog 51 #[.int .i64 n] w fun e w' => e = .returned (.bool (Pl.skOk n)) ∧ w' = w := by
  by_cases h1 : 0 ≤ n <;> by_cases h2 : n ≤ 65536
  all_goals
    go_enter Try.func51, Try.ntmps51
    go_wp2
    go_ret
    refine ⟨ret_bool ?_, rfl⟩
  · by_cases h : n % 16 = 0 <;> simp [Pl.skOk, h, h1, h2]
  all_goals (symm; rw [Bool.eq_false_iff]; intro hc; simp [Pl.skOk] at hc; omega)
set_option maxHeartbeats 400000 in
theorem allWords_any {lo : Nat} (a : Option Addr) (len cap : Nat) (zs : List Int) (w : World) (h : Row .i64 lo w a len cap zs) :
    Calls Try.prog 59 #[.slice a len cap] w fun e w' => e = .returned (.bool (zs.all Pl.isW)) ∧ w' = w := by
  have hsm := h.small
  obtain ⟨hl, _, _, _, hr⟩ := h
  have HL : Hid (zs.length = len) := hl
  clear hl
  rcases hr with rfl | ⟨b, off, rfl, _, _, hc⟩
  · go_enter Try.func59, Try.ntmps59
    go_wp2
    go_loop [7] (fun i => i = .int .i64 0) (fun i => 0)
    case atStart => rfl
    case round =>
      subst hrel
      go_wp2
      go_ret
      exact ⟨ret_bool (by have := HL.out; cases zs with | nil => rfl | cons => simp at this), rfl⟩
  · have HC : Hid (∀ i, i < len → w.cell? ⟨b, off + i, none⟩ = some (.int .i64 (zs.getD i 0))) := hc
    clear hc
    go_enter Try.func59, Try.ntmps59
    go_wp2
    go_loop [7] (fun i => ∃ k : Nat, k ≤ len ∧ i = .int .i64 k ∧ ∀ j, j < k → Pl.isW (zs.getD j 0) = true) (fun i => len - (intOf i).toNat)
    case atStart => exact ⟨0, Nat.zero_le _, rfl, fun j hj => absurd hj (Nat.not_lt_zero _)⟩
    case round =>
      obtain ⟨k, hk, rfl, hall⟩ := hrel
      have HA : Hid (∀ j, j < k → Pl.isW (zs.getD j 0) = true) := hall
      clear hall
      by_cases hlt : k < len
      · obtain ⟨x, hx⟩ : ∃ x, x = zs.getD k 0 := ⟨_, rfl⟩
        have hcell : w.cell? ⟨b, off + k, none⟩ = some (.int .i64 x) := by rw [hx]; exact HC.out k hlt
        have HX : Hid (x = zs.getD k 0) := hx
        clear hx
        cases hb : Pl.isW x
        · go_wp2_with (go_at_call 58; refine (isWord_any _ _).mono ?_; rintro e w' ⟨rfl, rfl⟩; simp only [hb])
          go_ret
          exact ⟨ret_bool (Pl.not_all_of_getD (k := k) (by have := HL.out; omega) (by rw [← HX.out]; exact hb)).symm, rfl⟩
        · go_wp2_with (go_at_call 58; refine (isWord_any _ _).mono ?_; rintro e w' ⟨rfl, rfl⟩; simp only [hb])
          go_round
          case rel =>
            refine ⟨k + 1, by omega, by go_num, fun j hj => ?_⟩
            by_cases hjk : j < k
            · exact HA.out j hjk
            · have : j = k := by omega
              subst this; rw [← HX.out]; exact hb
          case measure => simp [intOf]; omega
      · have hke : k = len := by omega
        subst hke
        go_wp2
        go_ret
        exact ⟨ret_bool (Pl.all_of_getD (fun j hj => HA.out j (by have := HL.out; omega))).symm, rfl⟩
set_option maxHeartbeats 400000 in
theorem implCodeOk_any {lo : Nat} (a : Option Addr) (len cap : Nat) (zs : List Int) (w : World) (h : Row .i64 lo w a len cap zs) :
    Calls Try.prog 56 #[.slice a len cap] w fun e w' => e = .returned (.bool (Pl.cdOk zs)) ∧ w' = w := by
  have hsm := h.small
  have HL : Hid (zs.length = len) := h.1
  have HR : Hid (Row .i64 lo w a len cap zs) := h
  clear h
  rcases (show (1 ≤ len ∧ len ≤ 16384) ∨ len < 1 ∨ 16384 < len from by omega) with ⟨h1, h2⟩ | h1 | h1
  all_goals
    go_enter Try.func56, Try.ntmps56
    go_wp2_with (go_at_call 59; refine (allWords_any _ _ _ zs _ HR.out).mono ?_; rintro e w' ⟨rfl, rfl⟩)
    go_ret
    refine ⟨ret_bool ?_, rfl⟩
    have hl := HL.out
    unfold Pl.cdOk
    rw [hl]
  · simp [h1, h2]
  all_goals (symm; rw [Bool.eq_false_iff]; intro hc; simp at hc; omega)
set_option maxHeartbeats 400000 in
theorem specCodeOk_any {lo : Nat} (a : Option Addr) (len cap : Nat) (zs : List Int) (w : World) (h : Row .i64 lo w a len cap zs) :
    Calls Try.prog 50 #[.slice a len cap] w fun e w' => e = .returned (.bool (Pl.cdOk zs)) ∧ w' = w := by
  have hsm := h.small
  obtain ⟨hl, _, _, _, hr⟩ := h
  have HL : Hid (zs.length = len) := hl
  clear hl
  by_cases hn : 1 ≤ len ∧ len ≤ 16384
  · obtain ⟨h1, h2⟩ := hn
    obtain ⟨b, off, rfl, _, _, hc⟩ := hr.resolve_left (by omega)
    clear hr
    have hall : Pl.cdOk zs = zs.all Pl.isW := by unfold Pl.cdOk; rw [HL.out]; simp [h1, h2]
    rw [hall]
    clear hall
    have HC : Hid (∀ i, i < len → w.cell? ⟨b, off + i, none⟩ = some (.int .i64 (zs.getD i 0))) := hc
    clear hc
    go_enter Try.func50, Try.ntmps50
    go_wp2
    go_loop [3] (fun i => ∃ k : Nat, k ≤ len ∧ i = .int .i64 k ∧ ∀ j, j < k → Pl.isW (zs.getD j 0) = true) (fun i => len - (intOf i).toNat)
    case atStart => exact ⟨0, Nat.zero_le _, rfl, fun j hj => absurd hj (Nat.not_lt_zero _)⟩
    case round =>
      obtain ⟨k, hk, rfl, hall⟩ := hrel
      have HA : Hid (∀ j, j < k → Pl.isW (zs.getD j 0) = true) := hall
      clear hall
      by_cases hlt : k < len
      · obtain ⟨x, hx⟩ : ∃ x, x = zs.getD k 0 := ⟨_, rfl⟩
        have hcell : w.cell? ⟨b, off + k, none⟩ = some (.int .i64 x) := by rw [hx]; exact HC.out k hlt
        have HX : Hid (x = zs.getD k 0) := hx
        clear hx
        cases hb : Pl.isW x
        · go_wp2_with (go_at_call 52; refine (wordOk_any _ _).mono ?_; rintro e w' ⟨rfl, rfl⟩; simp only [hb])
          go_ret
          exact ⟨ret_bool (Pl.not_all_of_getD (k := k) (by have := HL.out; omega) (by rw [← HX.out]; exact hb)).symm, rfl⟩
        · go_wp2_with (go_at_call 52; refine (wordOk_any _ _).mono ?_; rintro e w' ⟨rfl, rfl⟩; simp only [hb])
          go_round
          case rel =>
            refine ⟨k + 1, by omega, by go_num, fun j hj => ?_⟩
            by_cases hjk : j < k
            · exact HA.out j hjk
            · have : j = k := by omega
              subst this; rw [← HX.out]; exact hb
          case measure => simp [intOf]; omega
      · have hke : k = len := by omega
        subst hke
        go_wp2
        go_ret
        exact ⟨ret_bool (Pl.all_of_getD (fun j hj => HA.out j (by have := HL.out; omega))).symm, rfl⟩
  · have hall : Pl.cdOk zs = false := by unfold Pl.cdOk; rw [HL.out, decide_eq_false hn]; rfl
    rw [hall]
    clear hall hr
    by_cases h1 : len < 1
    · go_enter Try.func50, Try.ntmps50
      go_wp2
      go_ret
      exact ⟨rfl, rfl⟩
    · have h2 : 16384 < len := by omega
      clear hn
      go_enter Try.func50, Try.ntmps50
      go_wp2
      go_ret
      exact ⟨rfl, rfl⟩
set_option maxHeartbeats 400000 in
theorem specPlace_any (a : Option Addr) (len cap : Nat) (at_ : Int) (hl : len ≤ 1152921504606846976) (hb : -9223372036854775808 ≤ at_ ∧ at_ ≤ 9223372036854775807) (w : World) :
    Calls Try.prog 82 #[.slice a len cap, .int .i64 at_] w fun e w' => e = .returned (.int .i64 (Pl.place len at_)) ∧ w' = w := by
  by_cases h0 : at_ < -9223372036854710272
  · have HP : Hid (Pl.place len at_ = -1) := by unfold Pl.place; exact if_neg (by omega)
    have e : wrap64 (at_ - 65536) = at_ - 65536 + 18446744073709551616 := by simp only [wrap64]; omega
    by_cases h2 : (at_ - 65536 + 18446744073709551616) % 4 = 0
    all_goals
      go_enter Try.func82, Try.ntmps82
      go_wp2
      go_ret
      exact ⟨ret_int HP.out.symm, rfl⟩
  by_cases h1 : at_ < 65536
  · have HP : Hid (Pl.place len at_ = -1) := by unfold Pl.place; exact if_neg (by omega)
    go_enter Try.func82, Try.ntmps82
    go_wp2
    go_ret
    exact ⟨ret_int HP.out.symm, rfl⟩
  · by_cases h2 : at_ % 4 = 0
    · by_cases h3 : (at_ - 65536) / 4 < len
      · have HP : Hid (Pl.place len at_ = (at_ - 65536) / 4) := by unfold Pl.place; exact if_pos (by omega)
        go_enter Try.func82, Try.ntmps82
        go_wp2
        go_ret
        exact ⟨ret_int HP.out.symm, rfl⟩
      · have HP : Hid (Pl.place len at_ = -1) := by unfold Pl.place; exact if_neg (by omega)
        go_enter Try.func82, Try.ntmps82
        go_wp2
        go_ret
        exact ⟨ret_int HP.out.symm, rfl⟩
    · have HP : Hid (Pl.place len at_ = -1) := by unfold Pl.place; exact if_neg (by omega)
      go_enter Try.func82, Try.ntmps82
      go_wp2
      go_ret
      exact ⟨ret_int HP.out.symm, rfl⟩
end Go.Proofs.Ytfcfnbncgadomaa.W
namespace Go.Proofs.Ytfcfnbncgadomaa.W
open Go.RowKit
theorem Try.infou8 : (Try.prog.info? 5).map (fun i => (i.zero, i.size, i.bytes)) = some (some (.int .u8 0), 1, 1) := by kernel_rfl
theorem wpList_at {P : Program} {ops : Array Oper} {Q : Exit → Act → World → Prop} {rest : List Oper} {a : Act} {W : World} (h : ∀ U, U = W → wpList P ops Q rest a U) : wpList P ops Q rest a W := h W rfl
theorem below_alloc (w : World) (o : Obj) : Below w.heap.size w (w.alloc o) := (Below.refl _ _).alloc (Nat.le_refl _) _
end Go.Proofs.Ytfcfnbncgadomaa.W
namespace Go.Proofs.Ytfcfnbncgadomaa.Pl
def szd (left : Int) (len : Nat) : Int := if left < len then -1 else left - len
def tk (zs : List Int) (k : Nat) : List Int := zs.take k ++ List.replicate (zs.length - k) 0
theorem tk_zero (zs : List Int) : tk zs 0 = List.replicate zs.length 0 := by simp [tk]
theorem tk_full {zs : List Int} {k : Nat} (h : zs.length ≤ k) : tk zs k = zs := by simp [tk, List.take_of_length_le h, Nat.sub_eq_zero_of_le h]
theorem tk_length (zs : List Int) (k : Nat) : (tk zs k).length = zs.length := by simp [tk]; omega
theorem tk_get (zs : List Int) (k i : Nat) (hi : i < zs.length) : (tk zs k)[i]? = some (if i < k then zs.getD i 0 else 0) := by
  unfold tk
  by_cases h : i < k
  · rw [List.getElem?_append_left (by simp; omega), List.getElem?_take, if_pos h, if_pos h, List.getElem?_eq_getElem hi, List.getD_eq_getElem?_getD, List.getElem?_eq_getElem hi]
    rfl
  · rw [List.getElem?_append_right (by simp; omega), List.getElem?_replicate, if_neg h, if_pos (by simp; omega)]
theorem tk_set {zs : List Int} {k : Nat} (h : k < zs.length) : (tk zs k).set k (zs.getD k 0) = tk zs (k + 1) := by
  apply List.ext_getElem?
  intro i
  by_cases hi : i < zs.length
  · rw [List.getElem?_set, tk_get _ _ _ hi, tk_get _ _ _ hi, tk_length]
    by_cases h1 : k = i
    · subst h1
      rw [if_pos rfl, if_pos h, if_pos (by omega)]
    · rw [if_neg h1]
      by_cases h2 : i < k
      · rw [if_pos h2, if_pos (by omega)]
      · rw [if_neg h2, if_neg (by omega)]
  · rw [List.getElem?_eq_none (by rw [List.length_set, tk_length]; omega), List.getElem?_eq_none (by rw [tk_length]; omega)]
theorem eq_of_getD {z1 z2 : List Int} (hl : z1.length = z2.length) (h : ∀ j, j < z1.length → z1.getD j 0 = z2.getD j 0) : z1 = z2 := by
  apply List.ext_getElem hl
  intro i h1 h2
  have := h i h1
  rwa [List.getD_eq_getElem?_getD, List.getD_eq_getElem?_getD, List.getElem?_eq_getElem h1, List.getElem?_eq_getElem h2] at this
end Go.Proofs.Ytfcfnbncgadomaa.Pl
namespace Go.Proofs.Ytfcfnbncgadomaa.W
open Go.RowKit
theorem Try.infoi64 : (Try.prog.info? 3).map (fun i => (i.zero, i.size, i.bytes)) = some (some (.int .i64 0), 1, 8) := by kernel_rfl
theorem szIntS_any (a : Option Addr) (len cap : Nat) (left : Int) (hl : len ≤ 9223372036854775807) (h0 : 0 ≤ left ∧ left ≤ 9223372036854775807) (w : World) :
    Calls Try.prog 79 #[.slice a len cap, .int .i64 left] w fun e w' => e = .returned (.int .i64 (Pl.szd left len)) ∧ w' = w := by
  by_cases h : left < len
  · have HP : Hid (Pl.szd left len = -1) := if_pos h
    go_enter Try.func79, Try.ntmps79
    go_wp2
    go_ret
    exact ⟨ret_int HP.out.symm, rfl⟩
  · have HP : Hid (Pl.szd left len = left - len) := if_neg h
    go_enter Try.func79, Try.ntmps79
    go_wp2
    go_ret
    exact ⟨ret_int HP.out.symm, rfl⟩
theorem szIntS_yes (a : Option Addr) (len cap : Nat) (left : Int) (hl : len ≤ 9223372036854775807) (h0 : 0 ≤ left ∧ left ≤ 9223372036854775807) (h : (len : Int) ≤ left) (w : World) :
    Calls Try.prog 79 #[.slice a len cap, .int .i64 left] w fun e w' => e = .returned (.int .i64 (left - len)) ∧ w' = w := by
  refine (szIntS_any a len cap left hl h0 w).mono ?_
  rintro e w' ⟨rfl, rfl⟩
  exact ⟨ret_int (if_neg (by omega)), rfl⟩
theorem szIntS_no (a : Option Addr) (len cap : Nat) (left : Int) (hl : len ≤ 9223372036854775807) (h0 : 0 ≤ left ∧ left ≤ 9223372036854775807) (h : left < (len : Int)) (w : World) :
    Calls Try.prog 79 #[.slice a len cap, .int .i64 left] w fun e w' => e = .returned (.int .i64 (-1)) ∧ w' = w := by
  refine (szIntS_any a len cap left hl h0 w).mono ?_
  rintro e w' ⟨rfl, rfl⟩
  exact ⟨ret_int (if_pos h), rfl⟩
set_option maxHeartbeats 1000000 in
theorem toIntS_any {lo : Nat} (a : Option Addr) (len cap : Nat) (zs : List Int) (w : World) (h : Row .i64 lo w a len cap zs) (hsz : len ≤ 1048576) :
    Calls Try.prog 80 #[.slice a len cap] w fun e w' => e = .returned (.slice (some ⟨w.heap.size, 0, none⟩) len len) ∧ Own .i64 3 w.heap.size w' (some ⟨w.heap.size, 0, none⟩) len len zs ∧ Below w.heap.size w w' := by
  obtain ⟨i0, hi, hz0, hz1, hz2⟩ := info_parts Try.infoi64
  obtain ⟨hl, _, _, hwf, hr⟩ := h
  have HL : Hid (zs.length = len) := hl
  have HW : Hid (∀ n ∈ zs, (Lit.int .i64 n).wf = true) := hwf
  have HR : Hid (len = 0 ∨ ∃ b off, a = some ⟨b, off, none⟩ ∧ lo ≤ b ∧ b < w.heap.size ∧ ∀ i, i < len → w.cell? ⟨b, off + i, none⟩ = some (.int .i64 (zs.getD i 0))) := hr
  clear hl hwf hr
  go_enter Try.func80, Try.ntmps80
  go_wp2_with (refine wpList_make_full _ rfl (.tmp 6) (.tmp 6) 23 rfl w.heap.size 3 i0 (.int .i64 0) 1 Try.underlying23 hi hz0 hz1 _ _ _ _ len rfl rfl rfl rfl (by rw [hz2]; omega) (by unfold maxLen; omega) (Nat.le_refl _) ?_)
  intro u1 hown hgr
  rw [toList_madeCells_one] at hown
  have HO : Hid (u1.ownsRow w.heap.size 3 1 (.slice (some ⟨w.heap.size, 0, none⟩) len len) len ((Pl.tk zs 0).map (Value.int .i64))) := by
    show u1.ownsRow _ _ _ _ _ _
    rw [Pl.tk_zero, HL.out, List.map_replicate]
    exact hown
  have HB : Hid (Below w.heap.size w u1) := (Below.refl _ _).grown hgr (Nat.le_refl _) (fun k hk => by cases hk)
  clear hown hgr
  go_wp2
  go_loopw [4] (fun i wr => ∃ k : Nat, k ≤ len ∧ i = .int .i64 k ∧ wr.ownsRow w.heap.size 3 1 (.slice (some ⟨w.heap.size, 0, none⟩) len len) len ((Pl.tk zs k).map (Value.int .i64)) ∧ Below w.heap.size w wr) (fun i _ => len - (intOf i).toNat)
  case atStart => exact ⟨0, Nat.zero_le _, rfl, HO.out, HB.out⟩
  case round =>
    obtain ⟨k, hk, rfl, ho, hb⟩ := hrel
    clear HO HB
    have HO : Hid (wr.ownsRow w.heap.size 3 1 (.slice (some ⟨w.heap.size, 0, none⟩) len len) len ((Pl.tk zs k).map (Value.int .i64))) := ho
    have HB : Hid (Below w.heap.size w wr) := hb
    clear ho hb
    by_cases hlt : k < len
    · obtain ⟨b, off, rfl, _, hbl, hc⟩ := HR.out.resolve_left (by omega)
      obtain ⟨x, hx⟩ : ∃ x, x = zs.getD k 0 := ⟨_, rfl⟩
      have hcell : wr.cell? ⟨b, off + k, none⟩ = some (.int .i64 x) := by rw [hx, HB.out.cell (by exact hbl)]; exact hc k hlt
      have hfz : wr.frozen? ⟨w.heap.size, k, none⟩ = false := HO.out.frozenAt k
      obtain ⟨y, hy⟩ : ∃ y, wr.cell? ⟨w.heap.size, k, none⟩ = some (.int .i64 y) := by
        have := HO.out.cellAt k (by omega)
        rw [List.getElem?_map, List.getElem?_eq_getElem (by rw [Pl.tk_length]; have := HL.out; omega)] at this
        exact ⟨_, this⟩
      have HX : Hid (x = zs.getD k 0) := hx
      clear hx hc HR
      go_wp2
      go_roundw
      case rel =>
        have st := HO.out.stored k (.int .i64 x)
        refine ⟨k + 1, by omega, by go_num, ?_, HB.out.setCell (Nat.le_refl _) _⟩
        rw [← Pl.tk_set (zs := zs) (k := k) (by have := HL.out; omega), ← HX.out, List.map_set]
        exact st.1
      case measure => simp [intOf]; omega
    · have hke : k = len := by omega
      subst hke
      go_wp2
      go_ret
      refine ⟨rfl, ⟨?_, HW.out⟩, HB.out⟩
      have := HO.out
      rwa [Pl.tk_full (by have := HL.out; omega)] at this
set_option maxHeartbeats 1000000 in
theorem eqIntS_any {lo1 lo2 : Nat} (a1 a2 : Option Addr) (l1 c1 l2 c2 : Nat) (z1 z2 : List Int) (w : World) (h1 : Row .i64 lo1 w a1 l1 c1 z1) (h2 : Row .i64 lo2 w a2 l2 c2 z2) :
    Calls Try.prog 81 #[.slice a1 l1 c1, .slice a2 l2 c2] w fun e w' => e = .returned (.bool (z1 == z2)) ∧ Below w.heap.size w w' := by
  have hs1 := h1.small
  have hs2 := h2.small
  obtain ⟨hl1, _, _, _, hr1⟩ := h1
  obtain ⟨hl2, _, _, _, hr2⟩ := h2
  by_cases hne : l1 = l2
  · subst hne
    have HL1 : Hid (z1.length = l1) := hl1
    have HL2 : Hid (z2.length = l1) := hl2
    have HR1 : Hid (l1 = 0 ∨ ∃ b off, a1 = some ⟨b, off, none⟩ ∧ lo1 ≤ b ∧ b < w.heap.size ∧ ∀ i, i < l1 → w.cell? ⟨b, off + i, none⟩ = some (.int .i64 (z1.getD i 0))) := hr1
    have HR2 : Hid (l1 = 0 ∨ ∃ b off, a2 = some ⟨b, off, none⟩ ∧ lo2 ≤ b ∧ b < w.heap.size ∧ ∀ i, i < l1 → w.cell? ⟨b, off + i, none⟩ = some (.int .i64 (z2.getD i 0))) := hr2
    clear hl1 hl2 hr1 hr2
    go_enter Try.func81, Try.ntmps81
    go_wp2
    go_loopw [5] (fun i wr => ∃ k : Nat, k ≤ l1 ∧ i = .int .i64 k ∧ (∀ j, j < k → z1.getD j 0 = z2.getD j 0) ∧ Below w.heap.size w wr) (fun i _ => l1 - (intOf i).toNat)
    case atStart => exact ⟨0, Nat.zero_le _, rfl, fun j hj => absurd hj (Nat.not_lt_zero _), Below.refl _ _⟩
    case round =>
      obtain ⟨k, hk, rfl, hall, hb⟩ := hrel
      have HA : Hid (∀ j, j < k → z1.getD j 0 = z2.getD j 0) := hall
      have HB : Hid (Below w.heap.size w wr) := hb
      clear hall hb
      by_cases hlt : k < l1
      · obtain ⟨b1, o1, rfl, _, hb1, hc1⟩ := HR1.out.resolve_left (by omega)
        obtain ⟨b2, o2, rfl, _, hb2, hc2⟩ := HR2.out.resolve_left (by omega)
        obtain ⟨x, hx⟩ : ∃ x, x = z1.getD k 0 := ⟨_, rfl⟩
        obtain ⟨y, hy⟩ : ∃ y, y = z2.getD k 0 := ⟨_, rfl⟩
        have g1 : wr.cell? ⟨b1, o1 + k, none⟩ = some (.int .i64 x) := by rw [hx, HB.out.cell (by exact hb1)]; exact hc1 k hlt
        have g2 : wr.cell? ⟨b2, o2 + k, none⟩ = some (.int .i64 y) := by rw [hy, HB.out.cell (by exact hb2)]; exact hc2 k hlt
        have HX : Hid (x = z1.getD k 0) := hx
        have HY : Hid (y = z2.getD k 0) := hy
        clear hx hy hc1 hc2 HR1 HR2
        by_cases hxy : x = y
        · subst hxy
          go_wp2_with fail
          go_quiet (fail)
          go_wp2
          go_roundw
          case rel =>
            refine ⟨k + 1, by omega, by go_num, fun j hj => ?_, ?_⟩
            · by_cases hjk : j < k
              · exact HA.out j hjk
              · have : j = k := by omega
                subst this; exact HX.out.symm.trans HY.out
            · repeat (first | exact HB.out | refine below_drewN ?_ _)
          case measure => simp [intOf]; omega
        · go_wp2_with fail
          go_quiet (fail)
          go_wp2
          go_ret
          refine ⟨ret_bool ?_, ?_⟩
          · symm
            rw [beq_eq_false_iff_ne]
            intro hc
            exact hxy (by rw [HX.out, HY.out, hc])
          · repeat (first | exact HB.out | refine below_drewN ?_ _)
      · have hke : k = l1 := by omega
        subst hke
        go_wp2
        go_ret
        refine ⟨ret_bool ?_, HB.out⟩
        symm
        rw [beq_iff_eq]
        exact Pl.eq_of_getD (HL1.out.trans HL2.out.symm) (fun j hj => HA.out j (by have := HL1.out; omega))
  · have HP : Hid ((z1 == z2) = false) := by
      show (z1 == z2) = false
      rw [beq_eq_false_iff_ne]
      intro hc
      exact hne (by rw [← hl1, ← hl2, hc])
    clear hr1 hr2 hl1 hl2
    go_enter Try.func81, Try.ntmps81
    go_wp2
    go_ret
    exact ⟨ret_bool HP.out.symm, Below.refl _ _⟩
end Go.Proofs.Ytfcfnbncgadomaa.W
namespace Go.Proofs.Ytfcfnbncgadomaa.Pl
/-- a machine -/
structure Mac where
  code : List Int
  pc : Int
  regs : List Int
  data : List Int
  stk : List Int
  inp : List Int
  out : List Int
  steps : Int
  fin : Int
  val : Int
/-- an image -/
structure Img where
  code : List Int
  data : List Int
  entry : Int
  size : Int
def mOk (m : Mac) : Bool :=
  cdOk m.code && (decide (m.data.length ≤ 65536) && (skOk m.stk.length && (isW m.pc && (decide (m.regs.length = 32) && (decide (m.regs.getD 0 0 = 0) && (m.regs.all isW &&
    (decide (m.inp.length ≤ 10000) && (decide (m.out.length ≤ 10000) && (decide (0 ≤ m.steps) && (decide (m.steps ≤ 1000000) && (decide (0 ≤ m.fin) && (decide (m.fin ≤ 3) && isW m.val))))))))))))
def iOk (m : Img) : Bool := cdOk m.code && (decide (m.data.length ≤ 65536) && (decide (0 ≤ place m.code.length m.entry) && skOk m.size))
end Go.Proofs.Ytfcfnbncgadomaa.Pl
namespace Go.Proofs.Ytfcfnbncgadomaa.W
open Go.RowKit
/-- a slice's words -/
structure SV where
  a : Option Addr
  len : Nat
  cap : Nat
/-- a machine's slices -/
structure MV where
  code : SV
  regs : SV
  data : SV
  stk : SV
  inp : SV
  out : SV
structure IV where
  code : SV
  data : SV
def MIs (lo : Nat) (w : World) (v : MV) (m : Pl.Mac) : Prop :=
  Row .i64 lo w v.code.a v.code.len v.code.cap m.code ∧ Row .i64 lo w v.regs.a v.regs.len v.regs.cap m.regs ∧ Row .u8 lo w v.data.a v.data.len v.data.cap m.data ∧
  Row .u8 lo w v.stk.a v.stk.len v.stk.cap m.stk ∧ Row .u8 lo w v.inp.a v.inp.len v.inp.cap m.inp ∧ Row .u8 lo w v.out.a v.out.len v.out.cap m.out
def IIs (lo : Nat) (w : World) (v : IV) (m : Pl.Img) : Prop := Row .i64 lo w v.code.a v.code.len v.code.cap m.code ∧ Row .u8 lo w v.data.a v.data.len v.data.cap m.data
theorem MIs.keep {lo : Nat} {w w' : World} {v : MV} {m : Pl.Mac} (h : MIs lo w v m) (hb : Below w.heap.size w w') : MIs lo w' v m :=
  ⟨h.1.keep hb, h.2.1.keep hb, h.2.2.1.keep hb, h.2.2.2.1.keep hb, h.2.2.2.2.1.keep hb, h.2.2.2.2.2.keep hb⟩
theorem IIs.keep {lo : Nat} {w w' : World} {v : IV} {m : Pl.Img} (h : IIs lo w v m) (hb : Below w.heap.size w w') : IIs lo w' v m := ⟨h.1.keep hb, h.2.keep hb⟩
end Go.Proofs.Ytfcfnbncgadomaa.W
namespace Go.Proofs.Ytfcfnbncgadomaa.Pl
def mSize (m : Mac) : Nat := m.code.length + m.regs.length + m.data.length + m.stk.length + m.inp.length + m.out.length
end Go.Proofs.Ytfcfnbncgadomaa.Pl
namespace Go.Proofs.Ytfcfnbncgadomaa.W
open Go.RowKit
/-- a machine that the call itself made: each of its slices owned -/
def MOwn (lo : Nat) (w : World) (v : MV) (m : Pl.Mac) : Prop :=
  Own .i64 3 lo w v.code.a v.code.len v.code.cap m.code ∧ Own .i64 3 lo w v.regs.a v.regs.len v.regs.cap m.regs ∧ Own .u8 5 lo w v.data.a v.data.len v.data.cap m.data ∧
  Own .u8 5 lo w v.stk.a v.stk.len v.stk.cap m.stk ∧ Own .u8 5 lo w v.inp.a v.inp.len v.inp.cap m.inp ∧ Own .u8 5 lo w v.out.a v.out.len v.out.cap m.out
def IOwn (lo : Nat) (w : World) (v : IV) (m : Pl.Img) : Prop := Own .i64 3 lo w v.code.a v.code.len v.code.cap m.code ∧ Own .u8 5 lo w v.data.a v.data.len v.data.cap m.data
theorem IOwn.is {lo : Nat} {w : World} {v : IV} {m : Pl.Img} (h : IOwn lo w v m) : IIs lo w v m := ⟨h.1.row, h.2.row⟩
theorem IOwn.keep {lo : Nat} {w w' : World} {v : IV} {m : Pl.Img} (h : IOwn lo w v m) (hb : Below w.heap.size w w') : IOwn lo w' v m := ⟨h.1.keep hb, h.2.keep hb⟩
theorem MOwn.is {lo : Nat} {w : World} {v : MV} {m : Pl.Mac} (h : MOwn lo w v m) : MIs lo w v m := ⟨h.1.row, h.2.1.row, h.2.2.1.row, h.2.2.2.1.row, h.2.2.2.2.1.row, h.2.2.2.2.2.row⟩
theorem MOwn.keep {lo : Nat} {w w' : World} {v : MV} {m : Pl.Mac} (h : MOwn lo w v m) (hb : Below w.heap.size w w') : MOwn lo w' v m :=
  ⟨h.1.keep hb, h.2.1.keep hb, h.2.2.1.keep hb, h.2.2.2.1.keep hb, h.2.2.2.2.1.keep hb, h.2.2.2.2.2.keep hb⟩
theorem below_setRow {B : Nat} {a b : World} (h : Below B a b) {g : Nat} (hp : B ≤ g) (cs : Array Value) : Below B a (b.setRow g cs) :=
  ⟨h.os, h.tape, h.output, by simpa using h.size, fun k hk => (setRow_other b g k cs (by omega)).trans (h.block k hk)⟩
theorem row_put {u : World} {g : Nat} {cs cs' : Array Value} {t : TypeId} (q : u.heap[g]? = some (.cells cs t)) (j : Nat) (x : Value) (e : cs.setIfInBounds j x = cs') : (u.setCell ⟨g, j, none⟩ x).heap[g]? = some (.cells cs' t) := by
  rw [← e]; exact heap_setCell_same u g j cs t x q
theorem calls_at {P : Program} {f : Nat} {args : Array Value} {W : World} {Q : Ending → World → Prop} (h : ∀ U, U = W → Calls P f args U Q) : Calls P f args W Q := h W rfl
end Go.Proofs.Ytfcfnbncgadomaa.W
namespace Go.Proofs.Ytfcfnbncgadomaa.W
open Go.RowKit
theorem RdOk.keep {B c : Nat} {u u' : World} (h : RdOk u c) (hb : Below B u u') (hB : c < B) : RdOk u' c := by
  obtain ⟨a, len, cap, p, hrow, h1, h2, h3⟩ := h
  refine ⟨a, len, cap, p, (hb.block c hB).trans hrow, h1, h2, ?_⟩
  rcases h3 with h3 | ⟨b, off, ha, hbc, hc⟩
  · exact .inl h3
  · refine .inr ⟨b, off, ha, hbc, fun i hi => ?_⟩
    obtain ⟨v, hv, hcell⟩ := hc i hi
    exact ⟨v, hv, (hb.cell (p := ⟨b, off + i, none⟩) (show b < B by omega)).trans hcell⟩
theorem own_only {c base : Nat} {e : TypeId} {k : Nat} {v : Value} {n : Nat} {xs : List Value} {w w' : World} (h : w.ownsRow base e k v n xs) (hb : OnlyB c w w') (hc : c < base) : w'.ownsRow base e k v n xs := by
  refine ⟨h.1, ?_⟩
  rcases h.2 with ⟨a, b⟩ | ⟨g, cap, cur, h0, hlo, hg, r⟩
  · exact .inl ⟨a, b⟩
  · exact .inr ⟨g, cap, cur, h0, hlo, (hb.block g (Array.getElem?_eq_some_iff.1 hg).1 (by omega)).trans hg, r⟩
set_option maxRecDepth 8000 in
set_option maxHeartbeats 4000000 in
theorem l3Address_any (w : World) (c : Nat) (h : RdOk w c) : Calls Try.prog 18 #[.pointer (some ⟨c, 0, none⟩)] w fun e w' => ∃ at_ : Int, e = .returned (.int .i64 at_) ∧ (-1000000 ≤ at_ ∧ at_ ≤ 3000000) ∧ RdOk w' c ∧ OnlyB c w w' := by
  have H0 : Hid (RdOk w c) := h
  clear h
  go_enter Try.func18, Try.ntmps18
  go_wp2_with fail
  refine (next_only w c H0.out).mono ?_
  rintro e u1 ⟨k, rfl, hk, r1, d1⟩
  have H1 : Hid (RdOk u1 c ∧ OnlyB c w u1) := ⟨r1, d1⟩
  clear r1 d1
  go_wp2_with fail
  refine (next_only u1 c H1.out.1).mono ?_
  rintro e u2 ⟨n, rfl, hn, r2, d2⟩
  have H2 : Hid (RdOk u2 c ∧ OnlyB c w u2) := ⟨r2, H1.out.2.trans d2⟩
  clear r2 d2
  have hq : ∃ q : Nat, ((k : Int).tmod 6) = (q : Int) ∧ q ≤ 5 := ⟨k % 6, by rw [Int.tmod_eq_emod_of_nonneg (by omega)]; omega, by omega⟩
  have hp : ∃ p : Nat, ((n : Int).tmod 20) = (p : Int) ∧ p ≤ 19 := ⟨n % 20, by rw [Int.tmod_eq_emod_of_nonneg (by omega)]; omega, by omega⟩
  have hd : ∃ d : Nat, ((k : Int).tdiv 200) = (d : Int) ∧ d ≤ 1 := ⟨k / 200, by rw [Int.tdiv_eq_ediv_of_nonneg (by omega)]; omega, by omega⟩
  obtain ⟨q, hq, hq5⟩ := hq
  obtain ⟨p, hp, hp19⟩ := hp
  obtain ⟨d, hd, hd1⟩ := hd
  have hm : ∃ y : Nat, (d : Int) * (n : Int) = (y : Int) ∧ y ≤ 255 := by
    rcases (show d = 0 ∨ d = 1 by omega) with rfl | rfl
    · exact ⟨0, by omega, by omega⟩
    · exact ⟨n, by omega, hn⟩
  obtain ⟨y, hm, hy⟩ := hm
  have S : Hid (RdOk (u2.alloc (.cells #[.int .i64 1048576, .int .i64 2097104, .int .i64 2097144, .int .i64 65536, .int .i64 1048572, .int .i64 2097152] 3)) c ∧ OnlyB c w (u2.alloc (.cells #[.int .i64 1048576, .int .i64 2097104, .int .i64 2097144, .int .i64 65536, .int .i64 1048572, .int .i64 2097152] 3))) := ⟨H2.out.1.alloc _, H2.out.2.trans (OnlyB.of_below (below_alloc u2 _))⟩
  rcases (show q = 0 ∨ q = 1 ∨ q = 2 ∨ q = 3 ∨ q = 4 ∨ q = 5 by omega) with rfl | rfl | rfl | rfl | rfl | rfl
  all_goals
    go_wp2
    go_ret
    refine ⟨_, rfl, ?_, S.out⟩
    first | omega | (simp only [IntKind.wrap_i64]; omega)
end Go.Proofs.Ytfcfnbncgadomaa.W
namespace Go.Proofs.Ytfcfnbncgadomaa.W
open Go.RowKit
theorem byte_news (w : World) (A : Value) (j : Nat) (u : Value) (hj : [A][j]? = some u) : (w.alloc (.cells #[A] 5)).cell? ((⟨w.heap.size, 0, none⟩ : Addr).add j) = some u := by
  rcases j with _ | j
  · cases hj
    exact cell_of_row _ w.heap.size 0 _ 5 (0, 0) (heap_alloc_new w _)
  · simp at hj
set_option maxRecDepth 8000 in
set_option maxHeartbeats 4000000 in
theorem l3Input_any (w : World) (c : Nat) (h : RdOk w c) : Calls Try.prog 46 #[.pointer (some ⟨c, 0, none⟩)] w fun e w' => ∃ (a : Option Addr) (len cap : Nat), e = .returned (.slice a len cap) ∧ (∃ zs : List Int, Own .u8 5 w.heap.size w' a len cap zs) ∧ len ≤ 10001 ∧ RdOk w' c ∧ OnlyB c w w' := by
  obtain ⟨i0, hi0, hz0, hz1, hz2⟩ := info_parts Try.infou8
  have H0 : Hid (RdOk w c) := h
  clear h
  have hmk : ∀ (L : Nat), L ≤ 10001 → ∀ u : World, (Instr.makeSlice 22 (.int .i64 (L : Int)) (.int .i64 (L : Int))).run Try.prog u = .ok (.slice (some ⟨u.heap.size, 0, none⟩) L L) (u.alloc (.cells (madeCells (Value.int .u8 0).cells (L * 1)) 5)) := fun L hL u => by
    have := run_makeSlice u 22 5 i0 _ Try.underlying22 hi0 hz0 .i64 .i64 (L : Int) (L : Int) (by omega) (by omega) (by rw [hz1]; simp; omega) (by rw [hz2]; omega) (by omega)
    rw [hz1, Int.toNat_natCast] at this
    exact this
  have HMK : Hid (∀ (L : Nat), L ≤ 10001 → ∀ u : World, (Instr.makeSlice 22 (.int .i64 (L : Int)) (.int .i64 (L : Int))).run Try.prog u = .ok (.slice (some ⟨u.heap.size, 0, none⟩) L L) (u.alloc (.cells (madeCells (Value.int .u8 0).cells (L * 1)) 5))) := hmk
  clear hmk
  go_enter Try.func46, Try.ntmps46
  go_wp2_with fail
  refine (next_only w c H0.out).mono ?_
  rintro e u1 ⟨n, rfl, hn, r1, d1⟩
  have hlt : c < w.heap.size := H0.out.lt
  have hsz1 : w.heap.size ≤ u1.heap.size := d1.size
  have H1 : Hid (RdOk u1 c ∧ OnlyB c w u1) := ⟨r1, d1⟩
  clear r1 d1
  obtain ⟨q, hq, hq4⟩ : ∃ q : Nat, ((n : Int).tmod 5) = (q : Int) ∧ q ≤ 4 := ⟨n % 5, by rw [Int.tmod_eq_emod_of_nonneg (by omega)]; omega, by omega⟩
  obtain ⟨p, hp, hp1⟩ : ∃ p : Nat, ((n : Int).tmod 2) = (p : Int) ∧ p ≤ 1 := ⟨n % 2, by rw [Int.tmod_eq_emod_of_nonneg (by omega)]; omega, by omega⟩
  have hnn : (n : Int) ≤ 255 := by omega
  go_wp2_with fail
  go_loopw [4, 5] (fun v i wr => ∃ k : Nat, k ≤ q ∧ i = .int .i64 k ∧ (∃ g cp, v = .slice (some ⟨g, 0, none⟩) k cp) ∧ (∃ zs : List Int, wr.ownsRow w.heap.size 5 1 v k (zs.map (Value.int .u8)) ∧ (∀ x ∈ zs, (Lit.int .u8 x).wf = true)) ∧ RdOk wr c ∧ OnlyB c w wr) (fun _ i _ => q - (intOf i).toNat)
  case atStart =>
    refine ⟨0, Nat.zero_le _, rfl, ⟨_, _, rfl⟩, ⟨[], ?_, fun x hx => (by cases hx)⟩, H1.out.1.alloc _, H1.out.2.trans (OnlyB.of_below (below_alloc u1 _))⟩
    exact World.ownsRow_lit u1 #[] 0 (base := w.heap.size) (e := 5) (size := 1) hsz1 (Nat.zero_le _) rfl
  case round =>
    obtain ⟨k, hk, rfl, ⟨g, cp, rfl⟩, ⟨zs, hown, hwf⟩, hrd, hon⟩ := hrel
    have HO : Hid (wr.ownsRow w.heap.size 5 1 (.slice (some ⟨g, 0, none⟩) k cp) k (zs.map (Value.int .u8))) := hown
    have HW : Hid (∀ x ∈ zs, (Lit.int .u8 x).wf = true) := hwf
    have HR : Hid (RdOk wr c ∧ OnlyB c w wr) := ⟨hrd, hon⟩
    clear hown hwf hrd hon
    by_cases hl : k < q
    · have hi : (k : Int) < (q : Int) := by omega
      go_wp2_with fail
      refine (next_only wr c HR.out.1).mono ?_
      rintro e u2 ⟨x, rfl, hx, r2, d2⟩
      have hx' : (x : Int) ≤ 255 := by omega
      have hwx : IntKind.u8.wrap (x : Int) = (x : Int) := by rw [IntKind.wrap_u8]; omega
      have hlt2 : w.heap.size ≤ u2.heap.size := Nat.le_trans HR.out.2.size d2.size
      have HO2 : Hid (u2.ownsRow w.heap.size 5 1 (.slice (some ⟨g, 0, none⟩) k cp) k (zs.map (Value.int .u8))) := own_only HO.out d2 (by omega)
      have HR2 : Hid (RdOk u2 c ∧ OnlyB c w u2) := ⟨r2, HR.out.2.trans d2⟩
      clear r2 d2
      go_wp2_with (at_builtin; refine wpList_append_own _ rfl (.tmp 15) (.tmp 19) 22 rfl w.heap.size 5 i0 (.int .u8 0) 1 1 Try.underlying22 hi0 hz0 hz1 hz2 rfl (by decide) _ _ _ rfl (HO2.out.alloc _) ⟨u2.heap.size, 0, none⟩ 1 _ [.int .u8 (x : Int)] rfl rfl (byte_news u2 _) (by intro u hu; simp at hu; subst hu; rfl) (by unfold maxLen; omega) (by omega) (by simp; omega) ?_; intro v' u3 hown' hgr _)
      obtain ⟨g', c', hv', _, _⟩ := hown'.form (by omega)
      have hb3 : Below w.heap.size u2 u3 := ((Below.refl _ _).alloc (by omega) _).grown hgr (by simp; omega) (fun j hj => (HO2.out.lt j hj).1)
      refine ⟨⟨k + 1, by omega, by go_num, ⟨g', c', hv'⟩, ⟨zs ++ [(x : Int)], ?_, ?_⟩, HR2.out.1.keep hb3 hlt, ?_⟩, by simp [intOf]; omega⟩
      · rw [List.map_append]; exact hown'
      · intro y hy
        rcases List.mem_append.1 hy with hy | hy
        · exact HW.out y hy
        · simp at hy
          subst hy
          simp [Lit.wf, IntKind.min, IntKind.max, IntKind.signed, IntKind.bits]
          omega
      · exact ⟨hb3.os.trans HR2.out.2.os, hb3.tape.trans HR2.out.2.tape, hb3.output.trans HR2.out.2.output, Nat.le_trans HR2.out.2.size hb3.size, fun b hb hbc => (hb3.block b hb).trans (HR2.out.2.block b hb hbc)⟩
    · have hi : ¬ (k : Int) < (q : Int) := by omega
      by_cases h2 : 252 ≤ n
      · have e2 : (252 : Int) ≤ (n : Int) := by omega
        obtain ⟨L, hL, hLe⟩ : ∃ L : Nat, L ≤ 10001 ∧ (10000 : Int) + (p : Int) = (L : Int) := ⟨10000 + p, by omega, by omega⟩
        have hm := HMK.out L hL
        have HZ : Hid (∀ u : World, w.heap.size ≤ u.heap.size → Own .u8 5 w.heap.size (u.alloc (.cells (madeCells (Value.int .u8 0).cells (L * 1)) 5)) (some ⟨u.heap.size, 0, none⟩) L L (List.replicate L 0)) := fun u hu => by
          have hz : (madeCells (Value.int .u8 0).cells (L * 1)).toList = (List.replicate L (0 : Int)).map (Value.int .u8) := by
            rw [show (Value.int .u8 0).cells = #[Value.int .u8 0] from rfl, Nat.mul_one, toList_madeCells_one, List.map_replicate]
          refine ⟨?_, fun x hx => by rw [List.eq_of_mem_replicate hx]; rfl⟩
          rw [← hz]
          exact World.ownsRow_lit u _ L hu (by unfold maxLen; omega) (by rw [← Array.length_toList, hz]; simp)
        generalize madeCells (Value.int .u8 0).cells (L * 1) = Z at *
        go_wp2
        go_ret
        exact ⟨_, L, L, rfl, ⟨_, HZ.out wr HR.out.2.size⟩, hL, HR.out.1.alloc _, HR.out.2.trans (OnlyB.of_below (below_alloc wr _))⟩
      · have e2 : ¬ (252 : Int) ≤ (n : Int) := by omega
        go_wp2
        go_ret
        exact ⟨_, k, cp, rfl, ⟨zs, HO.out, HW.out⟩, by omega, HR.out⟩
end Go.Proofs.Ytfcfnbncgadomaa.W
