import Derived.Test.YtjdfffdeljgenaaGreatDoorS00
set_option linter.unusedVariables false
namespace Go.Proofs.YtjdfffdeljgenaaGreatDoor.W
open Go.RowKit
theorem isWord_any (n : Int) (w : World) : Calls Tryz.prog 35 #[.int .i64 n] w fun e w' => e = .returned (.bool (Pl.isW n)) ∧ w' = w := by
  go_enter Tryz.func35, Tryz.ntmps35
  go_wp2_with (go_at_call 64; refine (implWord_any _ _).mono ?_; rintro e w' ⟨rfl, rfl⟩)
  go_ret
  exact ⟨ret_bool (Pl.isW_wd n), rfl⟩
theorem wordOk_any (n : Int) (w : World) : Calls Tryz.prog 39 #[.int .i64 n] w fun e w' => e = .returned (.bool (Pl.isW n)) ∧ w' = w := by
  by_cases h1 : 0 ≤ n <;> by_cases h2 : n ≤ 4294967295
  all_goals
    go_enter Tryz.func39, Tryz.ntmps39
    go_wp2
    go_ret
    exact ⟨ret_bool (by simp [Pl.isW]; omega), rfl⟩
theorem implStackOk_any (n : Int) (w : World) : Calls Tryz.prog 34 #[.int .i64 n] w fun e w' => e = .returned (.bool (Pl.skOk n)) ∧ w' = w := by
  by_cases h1 : 0 ≤ n <;> by_cases h2 : n ≤ 65536
  all_goals
    go_enter Tryz.func34, Tryz.ntmps34
    go_wp2
    go_ret
    refine ⟨ret_bool ?_, rfl⟩
  · by_cases h : n % 16 = 0 <;> simp [Pl.skOk, h, h1, h2]
  all_goals (symm; rw [Bool.eq_false_iff]; intro hc; simp [Pl.skOk] at hc; omega)
theorem specStackOk_any (n : Int) (w : World) : Calls Tryz.prog 38 #[.int .i64 n] w fun e w' => e = .returned (.bool (Pl.skOk n)) ∧ w' = w := by
  by_cases h1 : 0 ≤ n <;> by_cases h2 : n ≤ 65536
  all_goals
    go_enter Tryz.func38, Tryz.ntmps38
    go_wp2
    go_ret
    refine ⟨ret_bool ?_, rfl⟩
  · by_cases h : n % 16 = 0 <;> simp [Pl.skOk, h, h1, h2]
  all_goals (symm; rw [Bool.eq_false_iff]; intro hc; simp [Pl.skOk] at hc; omega)
set_option maxHeartbeats 400000 in
theorem allWords_any {lo : Nat} (a : Option Addr) (len cap : Nat) (zs : List Int) (w : World) (h : Row .i64 lo w a len cap zs) :
    Calls Tryz.prog 36 #[.slice a len cap] w fun e w' => e = .returned (.bool (zs.all Pl.isW)) ∧ w' = w := by
  have hsm := h.small
  obtain ⟨hl, _, _, _, hr⟩ := h
  have HL : Hid (zs.length = len) := hl
  clear hl
  rcases hr with rfl | ⟨b, off, rfl, _, _, hc⟩
  · go_enter Tryz.func36, Tryz.ntmps36
    go_wp2
    go_loop [7] (fun i => i = .int .i64 0) (fun i => 0)
    case atStart => rfl
    case round =>
      subst hrel
      go_wp2
      go_ret
      exact ⟨ret_bool (by have := HL.out; cases zs with | nil => rfl | cons => simp at this), rfl⟩
  · have HC : Hid (∀ i, i < len → w.cell? ⟨b, off + i, none⟩ = some (.int .i64 (zs.getD i 0))) := hc
    clear hc
    go_enter Tryz.func36, Tryz.ntmps36
    go_wp2
    go_loop [7] (fun i => ∃ k : Nat, k ≤ len ∧ i = .int .i64 k ∧ ∀ j, j < k → Pl.isW (zs.getD j 0) = true) (fun i => len - (intOf i).toNat)
    case atStart => exact ⟨0, Nat.zero_le _, rfl, fun j hj => absurd hj (Nat.not_lt_zero _)⟩
    case round =>
      obtain ⟨k, hk, rfl, hall⟩ := hrel
      have HA : Hid (∀ j, j < k → Pl.isW (zs.getD j 0) = true) := hall
      clear hall
      by_cases hlt : k < len
      · obtain ⟨x, hx⟩ : ∃ x, x = zs.getD k 0 := ⟨_, rfl⟩
        have hcell : w.cell? ⟨b, off + k, none⟩ = some (.int .i64 x) := by rw [hx]; exact HC.out k hlt
        have HX : Hid (x = zs.getD k 0) := hx
        clear hx
        cases hb : Pl.isW x
        · go_wp2_with (go_at_call 35; refine (isWord_any _ _).mono ?_; rintro e w' ⟨rfl, rfl⟩; simp only [hb])
          go_ret
          exact ⟨ret_bool (Pl.not_all_of_getD (k := k) (by have := HL.out; omega) (by rw [← HX.out]; exact hb)).symm, rfl⟩
        · go_wp2_with (go_at_call 35; refine (isWord_any _ _).mono ?_; rintro e w' ⟨rfl, rfl⟩; simp only [hb])
          go_round
          case rel =>
            refine ⟨k + 1, by omega, by go_num, fun j hj => ?_⟩
            by_cases hjk : j < k
            · exact HA.out j hjk
            · have : j = k := by omega
              subst this; rw [← HX.out]; exact hb
          case measure => simp [intOf]; omega
      · have hke : k = len := by omega
        subst hke
        go_wp2
        go_ret
        exact ⟨ret_bool (Pl.all_of_getD (fun j hj => HA.out j (by have := HL.out; omega))).symm, rfl⟩
set_option maxHeartbeats 400000 in
theorem implCodeOk_any {lo : Nat} (a : Option Addr) (len cap : Nat) (zs : List Int) (w : World) (h : Row .i64 lo w a len cap zs) :
    Calls Tryz.prog 33 #[.slice a len cap] w fun e w' => e = .returned (.bool (Pl.cdOk zs)) ∧ w' = w := by
  have hsm := h.small
  have HL : Hid (zs.length = len) := h.1
  have HR : Hid (Row .i64 lo w a len cap zs) := h
  clear h
  rcases (show (1 ≤ len ∧ len ≤ 16384) ∨ len < 1 ∨ 16384 < len from by omega) with ⟨h1, h2⟩ | h1 | h1
  all_goals
    go_enter Tryz.func33, Tryz.ntmps33
    go_wp2_with (go_at_call 36; refine (allWords_any _ _ _ zs _ HR.out).mono ?_; rintro e w' ⟨rfl, rfl⟩)
    go_ret
    refine ⟨ret_bool ?_, rfl⟩
    have hl := HL.out
    unfold Pl.cdOk
    rw [hl]
  · simp [h1, h2]
  all_goals (symm; rw [Bool.eq_false_iff]; intro hc; simp at hc; omega)
set_option maxHeartbeats 400000 in
theorem specCodeOk_any {lo : Nat} (a : Option Addr) (len cap : Nat) (zs : List Int) (w : World) (h : Row .i64 lo w a len cap zs) :
    Calls Tryz.prog 37 #[.slice a len cap] w fun e w' => e = .returned (.bool (Pl.cdOk zs)) ∧ w' = w := by
  have hsm := h.small
  obtain ⟨hl, _, _, _, hr⟩ := h
  have HL : Hid (zs.length = len) := hl
  clear hl
  by_cases hn : 1 ≤ len ∧ len ≤ 16384
  · obtain ⟨h1, h2⟩ := hn
    obtain ⟨b, off, rfl, _, _, hc⟩ := hr.resolve_left (by omega)
    clear hr
    have hall : Pl.cdOk zs = zs.all Pl.isW := by unfold Pl.cdOk; rw [HL.out]; simp [h1, h2]
    rw [hall]
    clear hall
    have HC : Hid (∀ i, i < len → w.cell? ⟨b, off + i, none⟩ = some (.int .i64 (zs.getD i 0))) := hc
    clear hc
    go_enter Tryz.func37, Tryz.ntmps37
    go_wp2
    go_loop [3] (fun i => ∃ k : Nat, k ≤ len ∧ i = .int .i64 k ∧ ∀ j, j < k → Pl.isW (zs.getD j 0) = true) (fun i => len - (intOf i).toNat)
    case atStart => exact ⟨0, Nat.zero_le _, rfl, fun j hj => absurd hj (Nat.not_lt_zero _)⟩
    case round =>
      obtain ⟨k, hk, rfl, hall⟩ := hrel
      have HA : Hid (∀ j, j < k → Pl.isW (zs.getD j 0) = true) := hall
      clear hall
      by_cases hlt : k < len
      · obtain ⟨x, hx⟩ : ∃ x, x = zs.getD k 0 := ⟨_, rfl⟩
        have hcell : w.cell? ⟨b, off + k, none⟩ = some (.int .i64 x) := by rw [hx]; exact HC.out k hlt
        have HX : Hid (x = zs.getD k 0) := hx
        clear hx
        cases hb : Pl.isW x
        · go_wp2_with (go_at_call 39; refine (wordOk_any _ _).mono ?_; rintro e w' ⟨rfl, rfl⟩; simp only [hb])
          go_ret
          exact ⟨ret_bool (Pl.not_all_of_getD (k := k) (by have := HL.out; omega) (by rw [← HX.out]; exact hb)).symm, rfl⟩
        · go_wp2_with (go_at_call 39; refine (wordOk_any _ _).mono ?_; rintro e w' ⟨rfl, rfl⟩; simp only [hb])
          go_round
          case rel =>
            refine ⟨k + 1, by omega, by go_num, fun j hj => ?_⟩
            by_cases hjk : j < k
            · exact HA.out j hjk
            · have : j = k := by omega
              subst this; rw [← HX.out]; exact hb
          case measure => simp [intOf]; omega
      · have hke : k = len := by omega
        subst hke
        go_wp2
        go_ret
        exact ⟨ret_bool (Pl.all_of_getD (fun j hj => HA.out j (by have := HL.out; omega))).symm, rfl⟩
  · have hall : Pl.cdOk zs = false := by unfold Pl.cdOk; rw [HL.out, decide_eq_false hn]; rfl
    rw [hall]
    clear hall hr
    by_cases h1 : len < 1
    · go_enter Tryz.func37, Tryz.ntmps37
      go_wp2
      go_ret
      exact ⟨rfl, rfl⟩
    · have h2 : 16384 < len := by omega
      clear hn
      go_enter Tryz.func37, Tryz.ntmps37
      go_wp2
      go_ret
      exact ⟨rfl, rfl⟩
theorem implPlace_any (a : Option Addr) (len cap : Nat) (at_ : Int) (hl : len ≤ 9223372036854775807) (hb : -9223372036854775808 ≤ at_ ∧ at_ ≤ 9223372036854775807) (w : World) :
    Calls Tryz.prog 85 #[.slice a len cap, .int .i64 at_] w fun e w' => e = .returned (.int .i64 (Pl.place len at_)) ∧ w' = w := by
  by_cases h1 : at_ < 65536
  · have HP : Hid (Pl.place len at_ = -1) := by unfold Pl.place; exact if_neg (by omega)
    go_enter Tryz.func85, Tryz.ntmps85
    go_wp2
    go_ret
    exact ⟨ret_int HP.out.symm, rfl⟩
  · by_cases h2 : at_ % 4 = 0
    · by_cases h3 : (at_ - 65536) / 4 < len
      · have HP : Hid (Pl.place len at_ = (at_ - 65536) / 4) := by unfold Pl.place; exact if_pos (by omega)
        go_enter Tryz.func85, Tryz.ntmps85
        go_wp2
        go_ret
        exact ⟨ret_int HP.out.symm, rfl⟩
      · have HP : Hid (Pl.place len at_ = -1) := by unfold Pl.place; exact if_neg (by omega)
        go_enter Tryz.func85, Tryz.ntmps85
        go_wp2
        go_ret
        exact ⟨ret_int HP.out.symm, rfl⟩
    · have HP : Hid (Pl.place len at_ = -1) := by unfold Pl.place; exact if_neg (by omega)
      go_enter Tryz.func85, Tryz.ntmps85
      go_wp2
      go_ret
      exact ⟨ret_int HP.out.symm, rfl⟩
set_option maxHeartbeats 400000 in
theorem specPlace_any (a : Option Addr) (len cap : Nat) (at_ : Int) (hl : len ≤ 1152921504606846976) (hb : -9223372036854775808 ≤ at_ ∧ at_ ≤ 9223372036854775807) (w : World) :
    Calls Tryz.prog 56 #[.slice a len cap, .int .i64 at_] w fun e w' => e = .returned (.int .i64 (Pl.place len at_)) ∧ w' = w := by
  by_cases h0 : at_ < -9223372036854710272
  · have HP : Hid (Pl.place len at_ = -1) := by unfold Pl.place; exact if_neg (by omega)
    have e : wrap64 (at_ - 65536) = at_ - 65536 + 18446744073709551616 := by simp only [wrap64]; omega
    by_cases h2 : (at_ - 65536 + 18446744073709551616) % 4 = 0
    all_goals
      go_enter Tryz.func56, Tryz.ntmps56
      go_wp2
      go_ret
      exact ⟨ret_int HP.out.symm, rfl⟩
  by_cases h1 : at_ < 65536
  · have HP : Hid (Pl.place len at_ = -1) := by unfold Pl.place; exact if_neg (by omega)
    go_enter Tryz.func56, Tryz.ntmps56
    go_wp2
    go_ret
    exact ⟨ret_int HP.out.symm, rfl⟩
  · by_cases h2 : at_ % 4 = 0
    · by_cases h3 : (at_ - 65536) / 4 < len
      · have HP : Hid (Pl.place len at_ = (at_ - 65536) / 4) := by unfold Pl.place; exact if_pos (by omega)
        go_enter Tryz.func56, Tryz.ntmps56
        go_wp2
        go_ret
        exact ⟨ret_int HP.out.symm, rfl⟩
      · have HP : Hid (Pl.place len at_ = -1) := by unfold Pl.place; exact if_neg (by omega)
        go_enter Tryz.func56, Tryz.ntmps56
        go_wp2
        go_ret
        exact ⟨ret_int HP.out.symm, rfl⟩
    · have HP : Hid (Pl.place len at_ = -1) := by unfold Pl.place; exact if_neg (by omega)
      go_enter Tryz.func56, Tryz.ntmps56
      go_wp2
      go_ret
      exact ⟨ret_int HP.out.symm, rfl⟩
end Go.Proofs.YtjdfffdeljgenaaGreatDoor.W
namespace Go.Proofs.YtjdfffdeljgenaaGreatDoor.Pl
end Go.Proofs.YtjdfffdeljgenaaGreatDoor.Pl
namespace Go.Proofs.YtjdfffdeljgenaaGreatDoor.W
open Go.RowKit
theorem Tryz.infoi64 : (Tryz.prog.info? 3).map (fun i => (i.zero, i.size, i.bytes)) = some (some (.int .i64 0), 1, 8) := by kernel_rfl
end Go.Proofs.YtjdfffdeljgenaaGreatDoor.W
namespace Go.Proofs.YtjdfffdeljgenaaGreatDoor.Pl
structure Mac where
  code : List Int
  pc : Int
  regs : List Int
  data : List Int
  stk : List Int
  inp : List Int
  out : List Int
  steps : Int
  fin : Int
  val : Int
structure Img where
  code : List Int
  data : List Int
  entry : Int
  size : Int
def mOk (m : Mac) : Bool :=
  cdOk m.code && (decide (m.data.length ≤ 65536) && (skOk m.stk.length && (isW m.pc && (decide (m.regs.length = 32) && (decide (m.regs.getD 0 0 = 0) && (m.regs.all isW &&
    (decide (m.inp.length ≤ 10000) && (decide (m.out.length ≤ 10000) && (decide (0 ≤ m.steps) && (decide (m.steps ≤ 1000000) && (decide (0 ≤ m.fin) && (decide (m.fin ≤ 3) && isW m.val))))))))))))
def iOk (m : Img) : Bool := cdOk m.code && (decide (m.data.length ≤ 65536) && (decide (0 ≤ place m.code.length m.entry) && skOk m.size))
end Go.Proofs.YtjdfffdeljgenaaGreatDoor.Pl
namespace Go.Proofs.YtjdfffdeljgenaaGreatDoor.W
open Go.RowKit
structure SV where
  a : Option Addr
  len : Nat
  cap : Nat
structure MV where
  code : SV
  regs : SV
  data : SV
  stk : SV
  inp : SV
  out : SV
structure IV where
  code : SV
  data : SV
def MIs (lo : Nat) (w : World) (v : MV) (m : Pl.Mac) : Prop :=
  Row .i64 lo w v.code.a v.code.len v.code.cap m.code ∧ Row .i64 lo w v.regs.a v.regs.len v.regs.cap m.regs ∧ Row .u8 lo w v.data.a v.data.len v.data.cap m.data ∧
  Row .u8 lo w v.stk.a v.stk.len v.stk.cap m.stk ∧ Row .u8 lo w v.inp.a v.inp.len v.inp.cap m.inp ∧ Row .u8 lo w v.out.a v.out.len v.out.cap m.out
def IIs (lo : Nat) (w : World) (v : IV) (m : Pl.Img) : Prop := Row .i64 lo w v.code.a v.code.len v.code.cap m.code ∧ Row .u8 lo w v.data.a v.data.len v.data.cap m.data
theorem MIs.keep {lo : Nat} {w w' : World} {v : MV} {m : Pl.Mac} (h : MIs lo w v m) (hb : Below w.heap.size w w') : MIs lo w' v m :=
  ⟨h.1.keep hb, h.2.1.keep hb, h.2.2.1.keep hb, h.2.2.2.1.keep hb, h.2.2.2.2.1.keep hb, h.2.2.2.2.2.keep hb⟩
theorem IIs.keep {lo : Nat} {w w' : World} {v : IV} {m : Pl.Img} (h : IIs lo w v m) (hb : Below w.heap.size w w') : IIs lo w' v m := ⟨h.1.keep hb, h.2.keep hb⟩
end Go.Proofs.YtjdfffdeljgenaaGreatDoor.W
namespace Go.Proofs.YtjdfffdeljgenaaGreatDoor.Pl
def mSize (m : Mac) : Nat := m.code.length + m.regs.length + m.data.length + m.stk.length + m.inp.length + m.out.length
end Go.Proofs.YtjdfffdeljgenaaGreatDoor.Pl
namespace Go.Proofs.YtjdfffdeljgenaaGreatDoor.W
open Go.RowKit
def MOwn (lo : Nat) (w : World) (v : MV) (m : Pl.Mac) : Prop :=
  Own .i64 3 lo w v.code.a v.code.len v.code.cap m.code ∧ Own .i64 3 lo w v.regs.a v.regs.len v.regs.cap m.regs ∧ Own .u8 5 lo w v.data.a v.data.len v.data.cap m.data ∧
  Own .u8 5 lo w v.stk.a v.stk.len v.stk.cap m.stk ∧ Own .u8 5 lo w v.inp.a v.inp.len v.inp.cap m.inp ∧ Own .u8 5 lo w v.out.a v.out.len v.out.cap m.out
def IOwn (lo : Nat) (w : World) (v : IV) (m : Pl.Img) : Prop := Own .i64 3 lo w v.code.a v.code.len v.code.cap m.code ∧ Own .u8 5 lo w v.data.a v.data.len v.data.cap m.data
theorem IOwn.is {lo : Nat} {w : World} {v : IV} {m : Pl.Img} (h : IOwn lo w v m) : IIs lo w v m := ⟨h.1.row, h.2.row⟩
theorem IOwn.keep {lo : Nat} {w w' : World} {v : IV} {m : Pl.Img} (h : IOwn lo w v m) (hb : Below w.heap.size w w') : IOwn lo w' v m := ⟨h.1.keep hb, h.2.keep hb⟩
theorem MOwn.is {lo : Nat} {w : World} {v : MV} {m : Pl.Mac} (h : MOwn lo w v m) : MIs lo w v m := ⟨h.1.row, h.2.1.row, h.2.2.1.row, h.2.2.2.1.row, h.2.2.2.2.1.row, h.2.2.2.2.2.row⟩
theorem MOwn.keep {lo : Nat} {w w' : World} {v : MV} {m : Pl.Mac} (h : MOwn lo w v m) (hb : Below w.heap.size w w') : MOwn lo w' v m :=
  ⟨h.1.keep hb, h.2.1.keep hb, h.2.2.1.keep hb, h.2.2.2.1.keep hb, h.2.2.2.2.1.keep hb, h.2.2.2.2.2.keep hb⟩
theorem below_setRow {B : Nat} {a b : World} (h : Below B a b) {g : Nat} (hp : B ≤ g) (cs : Array Value) : Below B a (b.setRow g cs) :=
  ⟨h.os, h.tape, h.output, by simpa using h.size, fun k hk => (setRow_other b g k cs (by omega)).trans (h.block k hk)⟩
theorem row_put {u : World} {g : Nat} {cs cs' : Array Value} {t : TypeId} (q : u.heap[g]? = some (.cells cs t)) (j : Nat) (x : Value) (e : cs.setIfInBounds j x = cs') : (u.setCell ⟨g, j, none⟩ x).heap[g]? = some (.cells cs' t) := by
  rw [← e]; exact heap_setCell_same u g j cs t x q
theorem calls_at {P : Program} {f : Nat} {args : Array Value} {W : World} {Q : Ending → World → Prop} (h : ∀ U, U = W → Calls P f args U Q) : Calls P f args W Q := h W rfl
end Go.Proofs.YtjdfffdeljgenaaGreatDoor.W
namespace Go.Proofs.YtjdfffdeljgenaaGreatDoor.W
open Go.RowKit
set_option maxHeartbeats 4000000 in
theorem specMachineOk_any {lo : Nat} (v : MV) (m : Pl.Mac) (w : World) (h : MIs lo w v m) :
    Calls Tryz.prog 15 #[.agg #[.slice v.code.a v.code.len v.code.cap, .int .i64 m.pc, .slice v.regs.a v.regs.len v.regs.cap, .slice v.data.a v.data.len v.data.cap, .slice v.stk.a v.stk.len v.stk.cap, .slice v.inp.a v.inp.len v.inp.cap, .slice v.out.a v.out.len v.out.cap, .int .i64 m.steps, .int .i64 m.fin, .int .i64 m.val]] w fun e w' => e = .returned (.bool (Pl.mOk m)) ∧ Below w.heap.size w w' := by
  obtain ⟨⟨ca, cl, cc⟩, ⟨ra, rl, rc⟩, ⟨da, dl, dc⟩, ⟨sa, sl, sc⟩, ⟨ia, il, ic⟩, ⟨oa, ol, oc⟩⟩ := v
  obtain ⟨code, pc, regs, data, stk, inp, out, steps, fin, val⟩ := m
  have h' := h.keep (below_alloc w (.cells #[.slice ca cl cc, .int .i64 pc, .slice ra rl rc, .slice da dl dc, .slice sa sl sc, .slice ia il ic, .slice oa ol oc, .int .i64 steps, .int .i64 fin, .int .i64 val] 25))
  obtain ⟨r1, r2, r3, r4, r5, r6⟩ := h'
  dsimp only at r1 r2 r3 r4 r5 r6 ⊢
  have l2 := r2.small
  have l3 := r3.small
  have l4 := r4.small
  have l5 := r5.small
  have l6 := r6.small
  have E2 : Hid (regs.length = rl) := r2.1
  have E3 : Hid (data.length = dl) := r3.1
  have E4 : Hid (stk.length = sl) := r4.1
  have E5 : Hid (inp.length = il) := r5.1
  have E6 : Hid (out.length = ol) := r6.1
  have R1 : Hid _ := r1
  have R2 : Hid _ := r2
  clear r1 r2 r3 r4 r5 r6 h
  unfold Pl.mOk
  dsimp only
  rw [E2.out, E3.out, E4.out, E5.out, E6.out]
  cases c1 : Pl.cdOk code
  · go_enter Tryz.func15, Tryz.ntmps15
    go_wp2_with (first | (go_at_call 37; refine (specCodeOk_any _ _ _ code _ R1.out).mono ?_; rintro e w' ⟨rfl, rfl⟩; simp only [c1]))
    go_ret
    exact ⟨rfl, below_alloc _ _⟩
  rw [Bool.true_and]
  by_cases c2 : dl ≤ 65536
  rotate_left
  · rw [decide_eq_false c2, Bool.false_and]
    go_enter Tryz.func15, Tryz.ntmps15
    go_wp2_with (first | (go_at_call 37; refine (specCodeOk_any _ _ _ code _ R1.out).mono ?_; rintro e w' ⟨rfl, rfl⟩; simp only [c1]))
    go_ret
    exact ⟨rfl, below_alloc _ _⟩
  rw [decide_eq_true c2, Bool.true_and]
  have c2i : decide ((65536 : Int) < (dl : Int)) = false := by rw [decide_eq_false_iff_not]; omega
  cases c3 : Pl.skOk (sl : Int)
  · go_enter Tryz.func15, Tryz.ntmps15
    go_wp2_with (first | (go_at_call 37; refine (specCodeOk_any _ _ _ code _ R1.out).mono ?_; rintro e w' ⟨rfl, rfl⟩; simp only [c1]) | (go_at_call 38; refine (specStackOk_any _ _).mono ?_; rintro e w' ⟨rfl, rfl⟩; simp only [c3]))
    go_ret
    exact ⟨rfl, below_alloc _ _⟩
  rw [Bool.true_and]
  cases c4 : Pl.isW pc
  · go_enter Tryz.func15, Tryz.ntmps15
    go_wp2_with (first | (go_at_call 37; refine (specCodeOk_any _ _ _ code _ R1.out).mono ?_; rintro e w' ⟨rfl, rfl⟩; simp only [c1]) | (go_at_call 38; refine (specStackOk_any _ _).mono ?_; rintro e w' ⟨rfl, rfl⟩; simp only [c3]) | (go_at_call 39; refine (wordOk_any _ _).mono ?_; rintro e w' ⟨rfl, rfl⟩; simp only [c4]))
    go_ret
    exact ⟨rfl, below_alloc _ _⟩
  rw [Bool.true_and]
  by_cases c5 : rl = 32
  rotate_left
  · rw [decide_eq_false c5, Bool.false_and]
    go_enter Tryz.func15, Tryz.ntmps15
    go_wp2_with (first | (go_at_call 37; refine (specCodeOk_any _ _ _ code _ R1.out).mono ?_; rintro e w' ⟨rfl, rfl⟩; simp only [c1]) | (go_at_call 38; refine (specStackOk_any _ _).mono ?_; rintro e w' ⟨rfl, rfl⟩; simp only [c3]) | (go_at_call 39; refine (wordOk_any _ _).mono ?_; rintro e w' ⟨rfl, rfl⟩; simp only [c4]))
    go_ret
    exact ⟨rfl, below_alloc _ _⟩
  rw [decide_eq_true c5, Bool.true_and]
  subst c5
  obtain ⟨b, off, hra, _, _, hc⟩ := R2.out.2.2.2.2.resolve_left (by omega)
  subst hra
  obtain ⟨x, hx⟩ : ∃ x, x = regs.getD 0 0 := ⟨_, rfl⟩
  have hcell : (w.alloc (.cells #[.slice ca cl cc, .int .i64 pc, .slice (some ⟨b, off, none⟩) 32 rc, .slice da dl dc, .slice sa sl sc, .slice ia il ic, .slice oa ol oc, .int .i64 steps, .int .i64 fin, .int .i64 val] 25)).cell? ⟨b, off, none⟩ = some (.int .i64 x) := by rw [hx]; exact hc 0 (by omega)
  have HC : Hid (∀ i, i < 32 → (w.alloc (.cells #[.slice ca cl cc, .int .i64 pc, .slice (some ⟨b, off, none⟩) 32 rc, .slice da dl dc, .slice sa sl sc, .slice ia il ic, .slice oa ol oc, .int .i64 steps, .int .i64 fin, .int .i64 val] 25)).cell? ⟨b, off + i, none⟩ = some (.int .i64 (regs.getD i 0))) := hc
  clear hc
  rw [← hx]
  clear hx
  by_cases c6 : x = 0
  rotate_left
  · rw [decide_eq_false c6, Bool.false_and]
    have c6b : (x != 0) = true := by simpa using c6
    go_enter Tryz.func15, Tryz.ntmps15
    go_wp2_with (first | (go_at_call 37; refine (specCodeOk_any _ _ _ code _ R1.out).mono ?_; rintro e w' ⟨rfl, rfl⟩; simp only [c1]) | (go_at_call 38; refine (specStackOk_any _ _).mono ?_; rintro e w' ⟨rfl, rfl⟩; simp only [c3]) | (go_at_call 39; refine (wordOk_any _ _).mono ?_; rintro e w' ⟨rfl, rfl⟩; simp only [c4]))
    go_ret
    exact ⟨rfl, below_alloc _ _⟩
  rw [decide_eq_true c6, Bool.true_and]
  subst c6
  obtain ⟨R, hR⟩ : ∃ R : Bool, R = (regs.all Pl.isW && (decide (il ≤ 10000) && (decide (ol ≤ 10000) && (decide (0 ≤ steps) && (decide (steps ≤ 1000000) && (decide (0 ≤ fin) && (decide (fin ≤ 3) && Pl.isW val))))))) := ⟨_, rfl⟩
  rw [← hR]
  have HRes : Hid (R = (regs.all Pl.isW && (decide (il ≤ 10000) && (decide (ol ≤ 10000) && (decide (0 ≤ steps) && (decide (steps ≤ 1000000) && (decide (0 ≤ fin) && (decide (fin ≤ 3) && Pl.isW val)))))))) := hR
  clear hR
  go_enter Tryz.func15, Tryz.ntmps15
  go_wp2_with (first | (go_at_call 37; refine (specCodeOk_any _ _ _ code _ R1.out).mono ?_; rintro e w' ⟨rfl, rfl⟩; simp only [c1]) | (go_at_call 38; refine (specStackOk_any _ _).mono ?_; rintro e w' ⟨rfl, rfl⟩; simp only [c3]) | (go_at_call 39; refine (wordOk_any _ _).mono ?_; rintro e w' ⟨rfl, rfl⟩; simp only [c4]))
  go_loop [3] (fun i => ∃ k : Nat, k ≤ 32 ∧ i = .int .i64 k ∧ ∀ j, j < k → Pl.isW (regs.getD j 0) = true) (fun i => 32 - (intOf i).toNat)
  case atStart => exact ⟨0, Nat.zero_le _, rfl, fun j hj => absurd hj (Nat.not_lt_zero _)⟩
  case round =>
    obtain ⟨k, hk, rfl, hall⟩ := hrel
    have HA : Hid (∀ j, j < k → Pl.isW (regs.getD j 0) = true) := hall
    clear hall hcell
    by_cases hlt : k < 32
    · obtain ⟨y, hy⟩ : ∃ y, y = regs.getD k 0 := ⟨_, rfl⟩
      have hcell : (w.alloc (.cells #[.slice ca cl cc, .int .i64 pc, .slice (some ⟨b, off, none⟩) 32 rc, .slice da dl dc, .slice sa sl sc, .slice ia il ic, .slice oa ol oc, .int .i64 steps, .int .i64 fin, .int .i64 val] 25)).cell? ⟨b, off + k, none⟩ = some (.int .i64 y) := by rw [hy]; exact HC.out k hlt
      have HX : Hid (y = regs.getD k 0) := hy
      clear hy
      cases hb : Pl.isW y
      · have HF : Hid (regs.all Pl.isW = false) := Pl.not_all_of_getD (k := k) (by have := E2.out; omega) (by rw [← HX.out]; exact hb)
        go_wp2_with (go_at_call 39; refine (wordOk_any _ _).mono ?_; rintro e w' ⟨rfl, rfl⟩; simp only [hb])
        go_ret
        exact ⟨ret_bool (by rw [HRes.out, HF.out]; rfl), below_alloc _ _⟩
      · go_wp2_with (go_at_call 39; refine (wordOk_any _ _).mono ?_; rintro e w' ⟨rfl, rfl⟩; simp only [hb])
        go_round
        case rel =>
          refine ⟨k + 1, by omega, by go_num, fun j hj => ?_⟩
          by_cases hjk : j < k
          · exact HA.out j hjk
          · have : j = k := by omega
            subst this; rw [← HX.out]; exact hb
        case measure => simp [intOf]; omega
    · have hke : k = 32 := by omega
      subst hke
      have HT : Hid (regs.all Pl.isW = true) := Pl.all_of_getD (fun j hj => HA.out j (by have := E2.out; omega))
      clear HA HC hlt hk
      by_cases c8 : il ≤ 10000
      rotate_left
      · have F8 : Hid (decide (il ≤ 10000) = false) := decide_eq_false c8
        go_wp2
        go_ret
        exact ⟨ret_bool (by rw [HRes.out, HT.out, F8.out]; rfl), below_alloc _ _⟩
      have F8 : Hid (decide (il ≤ 10000) = true) := decide_eq_true c8
      by_cases c9 : ol ≤ 10000
      rotate_left
      · have F9 : Hid (decide (ol ≤ 10000) = false) := decide_eq_false c9
        go_wp2
        go_ret
        exact ⟨ret_bool (by rw [HRes.out, HT.out, F8.out, F9.out]; rfl), below_alloc _ _⟩
      have F9 : Hid (decide (ol ≤ 10000) = true) := decide_eq_true c9
      by_cases c10 : 0 ≤ steps
      rotate_left
      · have F10 : Hid (decide (0 ≤ steps) = false) := decide_eq_false c10
        go_wp2
        go_ret
        exact ⟨ret_bool (by rw [HRes.out, HT.out, F8.out, F9.out, F10.out]; rfl), below_alloc _ _⟩
      have F10 : Hid (decide (0 ≤ steps) = true) := decide_eq_true c10
      by_cases c11 : steps ≤ 1000000
      rotate_left
      · have F11 : Hid (decide (steps ≤ 1000000) = false) := decide_eq_false c11
        go_wp2
        go_ret
        exact ⟨ret_bool (by rw [HRes.out, HT.out, F8.out, F9.out, F10.out, F11.out]; rfl), below_alloc _ _⟩
      have F11 : Hid (decide (steps ≤ 1000000) = true) := decide_eq_true c11
      by_cases c12 : 0 ≤ fin
      rotate_left
      · have F12 : Hid (decide (0 ≤ fin) = false) := decide_eq_false c12
        go_wp2
        go_ret
        exact ⟨ret_bool (by rw [HRes.out, HT.out, F8.out, F9.out, F10.out, F11.out, F12.out]; rfl), below_alloc _ _⟩
      have F12 : Hid (decide (0 ≤ fin) = true) := decide_eq_true c12
      by_cases c13 : fin ≤ 3
      rotate_left
      · have F13 : Hid (decide (fin ≤ 3) = false) := decide_eq_false c13
        go_wp2
        go_ret
        exact ⟨ret_bool (by rw [HRes.out, HT.out, F8.out, F9.out, F10.out, F11.out, F12.out, F13.out]; rfl), below_alloc _ _⟩
      have F13 : Hid (decide (fin ≤ 3) = true) := decide_eq_true c13
      cases c14 : Pl.isW val
      all_goals
        go_wp2_with (go_at_call 39; refine (wordOk_any _ _).mono ?_; rintro e w' ⟨rfl, rfl⟩; simp only [c14])
        go_ret
        exact ⟨ret_bool (by rw [HRes.out, HT.out, F8.out, F9.out, F10.out, F11.out, F12.out, F13.out, c14]; rfl), below_alloc _ _⟩
end Go.Proofs.YtjdfffdeljgenaaGreatDoor.W
