import Derived.Test.YtdplfflkmphpbaaGreatDoorT14
import Derived.Test.YtdplfflkmphpbaaGreatDoorT20
import Derived.Lib.LaidTab
import Derived.Lib.AppendIntMem
set_option linter.unusedVariables false
set_option linter.unusedSimpArgs false
namespace Go.Proofs.YtdplfflkmphpbaaGreatDoor.Pl
theorem num_size19 (n : Int) (h0 : 0 ≤ n) (h : n ≤ 9223372036854775807) : (num n).size ≤ 19 := by
  have key : ∀ (m u : Nat), u < 10 ^ (m + 1) → (Lib.decDigits u).length ≤ m + 1 := by
    intro m
    induction m with
    | zero => intro u h; rw [dig_small (by simpa using h)]; simp
    | succ m ih =>
      intro u h
      by_cases h' : u < 10
      · rw [dig_small h']; simp
      · rw [dig_big h']
        rw [Nat.pow_succ] at h
        have := ih (u / 10) (by omega)
        simp
        omega
  rw [num_nat h0]
  have := key 18 n.toNat (by omega)
  simpa [ByteArray.size] using this
end Go.Proofs.YtdplfflkmphpbaaGreatDoor.Pl
namespace Go.Proofs.YtdplfflkmphpbaaGreatDoor.W
open Go.RowKit
theorem str_ne {a b : ByteArray} (h : a ≠ b) : (a.toList == b.toList) = false := by
  rw [ByteArray.toList_eq, ByteArray.toList_eq, Bool.eq_false_iff]
  intro q
  exact h (Go.WideShapes.bytes_inj (by simpa using q))
theorem str_eq {a b : ByteArray} (h : a = b) : (a.toList == b.toList) = true := by rw [h]; exact beq_self_eq_true _
theorem str_back (x : ByteArray) : strOfNums (x.data.toList.map fun b => (b.toNat : Int)) = x := by
  apply ByteArray.ext
  show (List.map _ _).toArray = _
  rw [List.map_map]
  have : (fun n : Int => UInt8.ofNat n.toNat) ∘ (fun b : UInt8 => (b.toNat : Int)) = id := by
    funext b
    simp
  rw [this]
  simp
theorem back_bytes (u : World) (x : ByteArray) (cap : Nat) : ∀ u' : World, Below (Lib.bytesWorld u 5 x).heap.size (Lib.bytesWorld u 5 x) u' → (convert 22 9 (.slice (some ⟨u.heap.size, 0, none⟩) x.size cap)).run Tryz.prog u' = .ok (.string x) u' := by
  intro u' hb
  have h := run_convert_bytes_arg (P := Tryz.prog) u' 22 5 Tryz.underlying22 Tryz.underlying5 u.heap.size 0 x.size cap (x.data.toList.map fun b => (b.toNat : Int)) (by rw [List.length_map, Array.length_toList]; rfl) (fun i hi => by
    rw [Nat.zero_add, hb.cell (p := ⟨u.heap.size, i, none⟩) (by show u.heap.size < _; rw [Lib.bytesWorld_size]; omega), Lib.bytesWorld_cell u 5 x i hi]
    have hl : i < x.data.toList.length := by rw [Array.length_toList]; exact hi
    simp [List.getD, List.getElem?_eq_getElem hl]) 9 Tryz.underlying9
  rw [str_back] at h
  exact h
theorem back_at (u : World) (x : ByteArray) (g : Nat) (hg : g = u.heap.size) (cap : Nat) : ∀ u' : World, Below (Lib.bytesWorld u 5 x).heap.size (Lib.bytesWorld u 5 x) u' → (convert 22 9 (.slice (some ⟨g, 0, none⟩) x.size cap)).run Tryz.prog u' = .ok (.string x) u' := by
  subst hg
  exact back_bytes u x cap
theorem two_no {x : ByteArray} {P : Pl.Tk → Prop} {ts : List Pl.Tk} {c l k : Int} (h : LxAll x (ts, c, l, k)) (hn : ∀ t0 t1, ts = [t0, t1] → c = 0 → ¬ P t0) : Pl.ttx x P = ⟨#[]⟩ := Pl.ttx_no fun ⟨t0, t1, c', l', k', h', hp⟩ => by
  have e := h.fn h'
  cases e
  exact hn t0 t1 rfl (Pl.lx_two h').1 hp
theorem two_yes {x : ByteArray} {P : Pl.Tk → Prop} {t0 t1 : Pl.Tk} {c l k : Int} (h : LxAll x ([t0, t1], c, l, k)) (hp : P t0) : Pl.ttx x P = x := Pl.ttx_yes ⟨t0, t1, c, l, k, h, hp⟩
theorem len_two {ts : List Pl.Tk} (h : ts.length = 2) : ∃ t0 t1, ts = [t0, t1] := by
  match ts, h with
  | [a, b], _ => exact ⟨a, b, rfl⟩
theorem tk_eq {a b : Pl.Tk} (h1 : a.k = b.k) (h2 : a.S = b.S) (h3 : a.N = b.N) (h4 : a.l = b.l) (h5 : a.c = b.c) : a = b := by
  cases a; cases b; simp only at h1 h2 h3 h4 h5; subst h1 h2 h3 h4 h5; rfl
set_option maxRecDepth 8000 in
set_option maxHeartbeats 2000000 in
theorem specDec_is (k : Int) (hk : 0 ≤ k ∧ k ≤ 9223372036854775807) (w : World) : Calls Tryz.prog 35 #[.int .i64 k] w fun e w' => e = .returned (.string (Pl.num k)) ∧ Below w.heap.size w w' := by
  have hneg : ¬ k < 0 := by omega
  go_enter Tryz.func35, Tryz.ntmps35
  go_wp2_with fail
  go_loopw [0, 3] (fun x v wr => ∃ (n : Int) (s : ByteArray) (m : Nat), x = .int .i64 n ∧ v = .string s ∧ 0 ≤ n ∧ n ≤ 9223372036854775807 ∧ n < 10 ^ m ∧ s.size + m ≤ 19 ∧ Lib.decDigits n.toNat ++ s.data.toList = Lib.decDigits k.toNat ∧ Below w.heap.size w wr) (fun x _ _ => (intOf x).toNat)
  case atStart => exact ⟨k, ⟨#[]⟩, 19, rfl, rfl, hk.1, hk.2, by omega, by decide, by simp, Below.refl _ _⟩
  case round =>
    obtain ⟨n, s, m, rfl, rfl, hn0, hn1, hnm, hsm, hdg, hbel⟩ := hrel
    have HB : Hid (Below w.heap.size w wr) := hbel
    have HM : Hid (n < 10 ^ m) := hnm
    have HD : Hid (Lib.decDigits n.toNat ++ s.data.toList = Lib.decDigits k.toNat) := hdg
    clear hbel hnm hdg
    have hcv := conv_oneH wr
    by_cases hp : 10 ≤ n
    · go_wp2
      go_roundw
      case rel =>
        obtain ⟨m, rfl⟩ : ∃ m', m = m' + 1 := by
          rcases m with _ | m
          · have := HM.out; simp at this; omega
          · exact ⟨m, rfl⟩
        have hq : n / 10 < 10 ^ m := by
          have := HM.out
          rw [Int.pow_succ] at this
          omega
        refine ⟨n / 10, _, m, by go_num, rfl, by omega, by omega, hq, by simp; omega, ?_, HB.out.trans ((below_allocL wr _).mono HB.out.size)⟩
        have h1 := HD.out
        rw [Pl.dig_big (by omega)] at h1
        rw [← h1]
        have e1 : (n / 10).toNat = n.toNat / 10 := by omega
        have e2 : (48 + n % 10).toNat = 48 + n.toNat % 10 := by omega
        rw [e1]
        simp [ByteArray.data_append, e2]
      case measure => simp [intOf]; omega
    · go_wp2
      go_ret
      refine ⟨?_, HB.out.trans ((below_allocL wr _).mono HB.out.size)⟩
      have h1 := HD.out
      rw [Pl.dig_small (by omega)] at h1
      rw [Pl.num_nat hk.1, ← h1]
      have e2 : (48 + n).toNat = 48 + n.toNat := by omega
      rw [e2]
      congr 2
def TtSaid (t : Pl.Tk) (x : ByteArray) (w : World) (e : Ending) (w' : World) : Prop := e = .returned (.string (Pl.ttx x (Pl.Ps t))) ∧ Below w.heap.size w w'
theorem ret_no {x : ByteArray} {P : Pl.Tk → Prop} {ts : List Pl.Tk} {c l k : Int} (h : LxAll x (ts, c, l, k)) (hn : ∀ t0 t1, ts = [t0, t1] → c = 0 → ¬ P t0) : Ending.returned (.string ⟨#[]⟩) = .returned (.string (Pl.ttx x P)) := by rw [two_no h hn]
theorem ret_yes {x : ByteArray} {P : Pl.Tk → Prop} {t0 t1 : Pl.Tk} {c l k : Int} (h : LxAll x ([t0, t1], c, l, k)) (hp : P t0) : Ending.returned (.string x) = .returned (.string (Pl.ttx x P)) := by rw [two_yes h hp]
end Go.Proofs.YtdplfflkmphpbaaGreatDoor.W
namespace Go.Proofs.YtdplfflkmphpbaaGreatDoor.W
open Go.RowKit
def PowLies (w : World) : Prop := Lib.TabIs Tryz.prog w "internal/strconv.uint64pow10" .u64 Lib.pow10Tab
theorem tab_belowT {n : String} {g : Nat} {k : IntKind} {zs : List Int} {w w' : World} (hg : Tryz.prog.globalNamed n = some g) (h : Lib.TabIs Tryz.prog w n k zs) (hb : Below w.heap.size w w') : Lib.TabIs Tryz.prog w' n k zs := by
  unfold Lib.TabIs World.var? at h ⊢
  rw [hg] at h ⊢
  simp only [Option.bind_some] at h ⊢
  have hlt : g < w.heap.size := by
    rcases Nat.lt_or_ge g w.heap.size with h' | h'
    · exact h'
    · rw [Array.getElem?_eq_none h'] at h; cases h
  rw [hb.block g hlt]
  exact h
theorem PowLies.below {w w' : World} (h : PowLies w) (hb : Below w.heap.size w w') : PowLies w' := tab_belowT (g := 1) (by kernel_rfl) h hb
theorem itoa_is (n : Int) (h0 : -9223372036854775808 ≤ n) (h1 : n ≤ 9223372036854775807) (w : World) (h : PowLies w) : Calls Tryz.prog 64 #[.int .i64 n] w fun e w' => e = .returned (.string (Pl.num n)) ∧ Below w.heap.size w w' :=
  (Tryz.strconv_Itoa n h0 h1 w h).mono fun e w' ⟨he, k, os, hw⟩ => ⟨he, hw ▸ Lib.below_grow _ w (Nat.le_refl _) k os⟩
theorem clone_is (s : ByteArray) (hs : s.size ≤ 1048576) (w : World) : Calls Tryz.prog 50 #[.string s] w fun e w' => e = .returned (.string s) ∧ Below w.heap.size w w' := by
  go_enter Tryz.func50, Tryz.ntmps50
  go_wp2_with (go_at_call 63; refine (Tryz.stringslite_Clone s _ (by omega)).mono ?_; rintro e u1 ⟨rfl, d1⟩)
  go_ret
  exact ⟨rfl, d1⟩
theorem qt_one (b : Nat) (hb : b < 256) : Pl.qt ⟨#[UInt8.ofNat b]⟩ 39 = Pl.chr b := by
  have e : (UInt8.ofNat b).toNat = b := by simp; omega
  unfold Pl.qt Pl.qc Pl.chr
  show (⟨((UInt8.ofNat 39 :: (List.take 1 [UInt8.ofNat b]).flatMap _) ++ [UInt8.ofNat 39]).toArray⟩ : ByteArray) = _
  simp [e]
theorem str_lit {a : ByteArray} {l : List UInt8} (h : a = ⟨l.toArray⟩) : (a.toList == l) = true := by rw [h, ByteArray.toList_eq]; exact beq_self_eq_true _
theorem str_nlit {a : ByteArray} {l : List UInt8} (h : a ≠ ⟨l.toArray⟩) : (a.toList == l) = false := by
  rw [ByteArray.toList_eq, Bool.eq_false_iff]
  intro q
  exact h (Go.WideShapes.bytes_inj (by simpa using q))
theorem num_size20 (n : Int) (h0 : -9223372036854775808 ≤ n) (h1 : n ≤ 9223372036854775807) : (Pl.num n).size ≤ 20 := by
  rcases Int.lt_or_le n 0 with q | q
  · have key : ∀ (m u : Nat), u < 10 ^ (m + 1) → (Lib.decDigits u).length ≤ m + 1 := by
      intro m
      induction m with
      | zero => intro u h; rw [Pl.dig_small (by simpa using h)]; simp
      | succ m ih =>
        intro u h
        by_cases h' : u < 10
        · rw [Pl.dig_small h']; simp
        · rw [Pl.dig_big h']
          rw [Nat.pow_succ] at h
          have := ih (u / 10) (by omega)
          simp
          omega
    rw [Pl.num_neg q]
    have := key 18 n.natAbs (by omega)
    simp [ByteArray.size]
    omega
  · have := Pl.num_size19 n q h1
    omega
theorem one_byte {w : World} {b : Nat} {n : Int} {o : Obj} (hb : (b : Int) = n % 256) (h2 : b < 256) (j : Nat) (h : j < (⟨#[UInt8.ofNat b]⟩ : ByteArray).size) : ((w.alloc o).alloc (.cells #[.int .u8 (n % 256)] 5)).cell? ⟨w.heap.size + 1, j, none⟩ = some (.int .u8 (((⟨#[UInt8.ofNat b]⟩ : ByteArray)[j]'h).toNat : Int)) := by
  obtain rfl : j = 0 := by
    have : (⟨#[UInt8.ofNat b]⟩ : ByteArray).size = 1 := rfl
    omega
  have e : (((⟨#[UInt8.ofNat b]⟩ : ByteArray)[0]'h).toNat : Int) = n % 256 := by
    show ((UInt8.ofNat b).toNat : Int) = _
    simp
    omega
  rw [e]
  simp
set_option maxRecDepth 8000 in
set_option maxHeartbeats 4000000 in
theorem integerText_is (t : Pl.Tk) (h0 : -9223372036854775808 ≤ t.N) (h1 : t.N ≤ 9223372036854775807) (w : World) (hd : DbLies w) (hp : PowLies w) : Calls Tryz.prog 51 #[.agg #[.int .i64 t.k, .string t.S, .int .i64 t.N, .int .i64 t.l, .int .i64 t.c]] w fun e w' => e = .returned (.string (if t.S = ⟨#[99]⟩ then Pl.chr (t.N % 256).toNat else if t.S = ⟨#[117]⟩ then Pl.num t.N ++ ⟨#[117]⟩ else Pl.num t.N)) ∧ Below w.heap.size w w' := by
  have HD : Hid (DbLies w) := hd
  have HP : Hid (PowLies w) := hp
  clear hd hp
  by_cases hc : t.S = ⟨#[99]⟩
  · rw [if_pos hc]
    have e1 : (t.S.toList == [99]) = true := str_lit hc
    obtain ⟨b, hb⟩ : ∃ b : Nat, (b : Int) = t.N % 256 := ⟨(t.N % 256).toNat, by omega⟩
    have hb2 : b < 256 := by omega
    have HB : Hid ((b : Int) = t.N % 256) := hb
    have eb : (t.N % 256).toNat = b := by omega
    rw [eb]
    clear hc hb eb
    have B1 : Hid (Below w.heap.size w ((w.alloc (.cells #[.int .i64 t.k, .string t.S, .int .i64 t.N, .int .i64 t.l, .int .i64 t.c] 34)).alloc (.cells #[.int .u8 (t.N % 256)] 5))) := ((below_allocL w _).trans ((below_allocL _ _).mono (by simp)))
    go_enter Tryz.func51, Tryz.ntmps51
    go_wp2_with (go_at_call 38; (refine (quote_any ⟨#[UInt8.ofNat b]⟩ (by show 1 ≤ 1048576; decide) 39 (.inr rfl) (w.heap.size + 1) 1 ((w.alloc (.cells #[.int .i64 t.k, .string t.S, .int .i64 t.N, .int .i64 t.l, .int .i64 t.c] 34)).alloc (.cells #[.int .u8 (t.N % 256)] 5)) (HD.out.below B1.out) (by simp) (fun j h => one_byte HB.out hb2 j h)).mono ?_); rintro e u1 ⟨rfl, d1⟩)
    go_ret
    exact ⟨by rw [qt_one b hb2]; rfl, B1.out.trans (d1.mono B1.out.size)⟩
  rw [if_neg hc]
  have e1 : (t.S.toList == [99]) = false := str_nlit hc
  have hns := num_size20 t.N h0 h1
  have hcat2 : ¬ (9223372036854775807 < (Pl.num t.N).size + 1) := by omega
  have HNB : Hid (-9223372036854775808 ≤ t.N ∧ t.N ≤ 9223372036854775807) := ⟨h0, h1⟩
  clear hc h0 h1
  by_cases hu : t.S = ⟨#[117]⟩
  · rw [if_pos hu]
    have e2 : (t.S.toList == [117]) = true := str_lit hu
    clear hu
    go_enter Tryz.func51, Tryz.ntmps51
    go_wp2_with (go_at_call 64; refine (itoa_is t.N HNB.out.1 HNB.out.2 _ (HP.out.below (below_allocL _ _))).mono ?_; rintro e u1 ⟨rfl, d1⟩)
    go_ret
    exact ⟨rfl, (below_allocL w _).trans (d1.mono (by simp))⟩
  · rw [if_neg hu]
    have e2 : (t.S.toList == [117]) = false := str_nlit hu
    clear hu
    go_enter Tryz.func51, Tryz.ntmps51
    go_wp2_with (go_at_call 64; refine (itoa_is t.N HNB.out.1 HNB.out.2 _ (HP.out.below (below_allocL _ _))).mono ?_; rintro e u1 ⟨rfl, d1⟩)
    go_ret
    exact ⟨rfl, (below_allocL w _).trans (d1.mono (by simp))⟩
set_option maxRecDepth 8000 in
set_option maxHeartbeats 4000000 in
theorem textFor_is (t : Pl.Tk) (h0 : -9223372036854775808 ≤ t.N) (h1 : t.N ≤ 9223372036854775807) (hS : t.S.size ≤ 1048576) (w : World) (hd : DbLies w) (hp : PowLies w) : Calls Tryz.prog 34 #[.agg #[.int .i64 t.k, .string t.S, .int .i64 t.N, .int .i64 t.l, .int .i64 t.c]] w fun e w' => e = .returned (.string (Pl.txtI t)) ∧ Below w.heap.size w w' := by
  have HD : Hid (DbLies w) := hd
  have HP : Hid (PowLies w) := hp
  have HNB : Hid (-9223372036854775808 ≤ t.N ∧ t.N ≤ 9223372036854775807) := ⟨h0, h1⟩
  have c0 : (w.alloc (.cells #[.int .i64 t.k, .string t.S, .int .i64 t.N, .int .i64 t.l, .int .i64 t.c] 34)).cell? ⟨w.heap.size, 0, none⟩ = some (.int .i64 t.k) := cell_of_row _ _ 0 _ 34 (0, 0) (heap_alloc_new w _)
  clear hd hp h0 h1
  unfold Pl.txtI
  have fin : ∀ (k1 k2 k5 k3 k4 : Bool), (t.k == 1) = k1 → (t.k == 2) = k2 → (t.k == 5) = k5 → (t.k == 3) = k3 → (t.k == 4) = k4 → True := fun _ _ _ _ _ _ _ _ _ _ => trivial
  clear fin
  by_cases hw : t.k = 1 ∨ t.k = 2 ∨ t.k = 5
  · rw [if_pos hw]
    rcases hw with hk | hk | hk
    · have hk' := hk
      have k1 : (t.k == 1) = true := by simp [hk]
      have k2 : (t.k == 2) = false := by simp [hk]
      have k5 : (t.k == 5) = false := by simp [hk]
      clear hk hk'
      go_enter Tryz.func34, Tryz.ntmps34
      go_wp2_with (go_at_call 50; refine (clone_is t.S hS _).mono ?_; rintro e u1 ⟨rfl, d1⟩)
      go_ret
      exact ⟨rfl, (below_allocL w _).trans (d1.mono (by simp))⟩
    · have hk' := hk
      have k1 : (t.k == 1) = false := by simp [hk]
      have k2 : (t.k == 2) = true := by simp [hk]
      have k5 : (t.k == 5) = false := by simp [hk]
      clear hk hk'
      go_enter Tryz.func34, Tryz.ntmps34
      go_wp2_with (go_at_call 50; refine (clone_is t.S hS _).mono ?_; rintro e u1 ⟨rfl, d1⟩)
      go_ret
      exact ⟨rfl, (below_allocL w _).trans (d1.mono (by simp))⟩
    · have hk' := hk
      have k1 : (t.k == 1) = false := by simp [hk]
      have k2 : (t.k == 2) = false := by simp [hk]
      have k5 : (t.k == 5) = true := by simp [hk]
      clear hk hk'
      go_enter Tryz.func34, Tryz.ntmps34
      go_wp2_with (go_at_call 50; refine (clone_is t.S hS _).mono ?_; rintro e u1 ⟨rfl, d1⟩)
      go_ret
      exact ⟨rfl, (below_allocL w _).trans (d1.mono (by simp))⟩
  rw [if_neg hw]
  have k1 : (t.k == 1) = false := by simp; omega
  have k2 : (t.k == 2) = false := by simp; omega
  have k5 : (t.k == 5) = false := by simp; omega
  clear hw
  by_cases h3 : t.k = 3
  · rw [if_pos h3]
    have k3 : (t.k == 3) = true := by simp [h3]
    clear h3
    have HI : Hid (∀ u : World, Below w.heap.size w u → Calls Tryz.prog 51 #[.agg #[.int .i64 t.k, .string t.S, .int .i64 t.N, .int .i64 t.l, .int .i64 t.c]] u fun e w' => e = .returned (.string (if t.S = ⟨#[99]⟩ then Pl.chr (t.N % 256).toNat else if t.S = ⟨#[117]⟩ then Pl.num t.N ++ ⟨#[117]⟩ else Pl.num t.N)) ∧ Below u.heap.size u w') := fun u hu => integerText_is t HNB.out.1 HNB.out.2 u (HD.out.below hu) (HP.out.below hu)
    generalize (if t.S = ⟨#[99]⟩ then Pl.chr (t.N % 256).toNat else if t.S = ⟨#[117]⟩ then Pl.num t.N ++ ⟨#[117]⟩ else Pl.num t.N) = X at *
    go_enter Tryz.func34, Tryz.ntmps34
    go_wp2_with (first | (go_at_call 51; refine (HI.out _ (below_allocL _ _)).mono ?_; rintro e u1 ⟨rfl, d1⟩) | (refine wpList_load_row rfl 34 _ rfl w.heap.size ?hx 34 #[.int .i64 t.k, .string t.S, .int .i64 t.N, .int .i64 t.l, .int .i64 t.c] (0, 0) _ ?hg Tryz.underlying34 ?hd ?hi ?_; (case hx => rfl); (case hg => exact heap_alloc_new w _); (case hd => rfl); (case hi => kernel_rfl)))
    go_ret
    exact ⟨rfl, (below_allocL w _).trans (d1.mono (by simp))⟩
  rw [if_neg h3]
  have k3 : (t.k == 3) = false := by simpa using h3
  clear h3
  by_cases h4 : t.k = 4
  · rw [if_pos h4]
    have k4 : (t.k == 4) = true := by simp [h4]
    clear h4
    go_enter Tryz.func34, Tryz.ntmps34
    go_wp2_with (go_at_call 22; refine (implQuote_any t.S hS _ (HD.out.below (below_allocL _ _))).mono ?_; rintro e u1 ⟨rfl, d1⟩)
    go_ret
    exact ⟨rfl, (below_allocL w _).trans (d1.mono (by simp))⟩
  · rw [if_neg h4]
    have k4 : (t.k == 4) = false := by simpa using h4
    clear h4
    go_enter Tryz.func34, Tryz.ntmps34
    go_wp2_with fail
    go_ret
    exact ⟨rfl, below_allocL w _⟩
end Go.Proofs.YtdplfflkmphpbaaGreatDoor.W
namespace Go.Proofs.YtdplfflkmphpbaaGreatDoor.W
open Go.RowKit
set_option maxRecDepth 8000 in
set_option maxHeartbeats 8000000 in
theorem specTT_oth (t : Pl.Tk) (h3 : t.k ≠ 3) (h4 : t.k ≠ 4) (hS : t.S.size ≤ 1048576) (w : World) : Calls Tryz.prog 18 #[.agg #[.int .i64 t.k, .string t.S, .int .i64 t.N, .int .i64 t.l, .int .i64 t.c]] w (TtSaid t (t.S) w) := by
  have hcv : ∀ (u : World) (t : ByteArray), (convert 9 22 (.string t)).run Tryz.prog u = .ok (.slice (some ⟨u.heap.size, 0, none⟩) t.size (grownCap u t.size 0 5)) (Lib.bytesWorld u 5 t) := fun u t => Lib.run_convert_string_bytes u 9 22 5 t Tryz.underlying9 Tryz.underlying22 Tryz.underlying5
  have q3 : (t.k == 3) = false := by simpa using h3
  have q4 : (t.k == 4) = false := by simpa using h4
  clear h3 h4
  go_enter Tryz.func18, Tryz.ntmps18
  go_upto_region 13 with (first | (go_at_call 7; refine (specLex_is (some ⟨w.heap.size + 1, 0, none⟩) (t.S).size _ (t.S) rfl hS (Lib.bytesWorld ((w.alloc (.cells #[.int .i64 t.k, .string t.S, .int .i64 t.N, .int .i64 t.l, .int .i64 t.c] 34))) 5 (t.S)) (back_at ((w.alloc (.cells #[.int .i64 t.k, .string t.S, .int .i64 t.N, .int .i64 t.l, .int .i64 t.c] 34))) (t.S) (w.heap.size + 1) (by simp) _)).mono ?_; rintro e u2 ⟨h2, d2⟩; obtain ⟨ts, c, l, k, a0, c0, hx, rfl, g2⟩ := LexSaid.got h2; have D2 : Hid _ := d2; have HX : Hid (LxAll (t.S) (ts, c, l, k)) := hx; have HG : Hid _ := g2; clear h2 g2 d2 hx))
  have B1 : Below w.heap.size w ((w.alloc (.cells #[.int .i64 t.k, .string t.S, .int .i64 t.N, .int .i64 t.l, .int .i64 t.c] 34))) := below_allocL _ _
  have B2 : Below w.heap.size w u2 := (B1.trans ((Joins.below_bytesWorld _ _ 5 _ (Nat.le_refl _)).mono B1.size)).trans (D2.out.mono (by rw [Lib.bytesWorld_size]; have := B1.size; omega))
  have R0 : u2.heap[w.heap.size]? = some (.cells #[.int .i64 t.k, .string t.S, .int .i64 t.N, .int .i64 t.l, .int .i64 t.c] 34 (0, 0)) := (D2.out.block _ (by rw [Lib.bytesWorld_size]; simp; omega)).trans ((Lib.bytesWorld_at_old _ 5 _ _ (by simp)).trans (heap_alloc_new w _))
  have b0 : u2.cell? ⟨w.heap.size, 0, none⟩ = some (.int .i64 t.k) := cell_of_row u2 _ 0 _ 34 (0, 0) R0
  obtain ⟨S0, hS0⟩ : ∃ S0, S0 = t.S := ⟨_, rfl⟩
  have b1 : u2.cell? ⟨w.heap.size, 1, none⟩ = some (.string S0) := by rw [hS0]; exact cell_of_row u2 _ 1 _ 34 (0, 0) R0
  have HS0 : Hid (S0 = t.S) := hS0
  clear hS0
  have b2 : u2.cell? ⟨w.heap.size, 2, none⟩ = some (.int .i64 t.N) := cell_of_row u2 _ 2 _ 34 (0, 0) R0
  have HB2 : Hid (Below w.heap.size w u2) := B2
  clear B1 B2 R0 D2
  by_cases hc : c = 0
  rotate_left
  · have e1 : (c != 0) = true := by simpa using hc
    have HC : Hid (c ≠ 0) := hc
    clear hc
    go_quiet (fail)
    go_wp2_with fail
    go_ret
    exact ⟨ret_no HX.out (fun _ _ _ q => absurd q HC.out), by repeat (first | with_reducible exact HB2.out | refine Below.drew ?_ | refine below_drewN ?_ _)⟩
  subst hc
  by_cases hl : ts.length = 2
  rotate_left
  · have e1 : ((ts.length : Int) != 2) = true := by simp; omega
    have HC : Hid (ts.length ≠ 2) := hl
    clear hl
    go_quiet (fail)
    go_wp2_with fail
    go_ret
    exact ⟨ret_no HX.out (fun t0 t1 q _ => absurd (by rw [q]; rfl) HC.out), by repeat (first | with_reducible exact HB2.out | refine Below.drew ?_ | refine below_drewN ?_ _)⟩
  obtain ⟨t0, t1, rfl⟩ := len_two hl
  obtain ⟨g, rfl, hlo, hg1, x0, hx0, c0', c1', c2', c3', c4'⟩ := tok_at HG.out.1 (k := 0) (by simp)
  obtain rfl : x0 = t0 := hx0
  clear hl hlo
  simp only [Nat.zero_mul, Nat.zero_add] at c0' c1' c2'
  by_cases hk : x0.k = t.k
  rotate_left
  · have e1 : (x0.k != t.k) = true := by simpa using hk
    have HC : Hid (x0.k ≠ t.k) := hk
    clear hk
    go_quiet (fail)
    go_wp2_with fail
    go_ret
    exact ⟨ret_no HX.out (fun t0 t1 q _ p => HC.out (by cases q; exact p.1)), by repeat (first | with_reducible exact HB2.out | refine Below.drew ?_ | refine below_drewN ?_ _)⟩
  have e1 : (x0.k != t.k) = false := by simpa using hk
  have HK : Hid (x0.k = t.k) := hk
  clear hk
  by_cases hS' : x0.S = S0
  rotate_left
  · have e2 : (x0.S.toList == S0.toList) = false := str_ne hS'
    have HC : Hid (x0.S ≠ S0) := hS'
    clear hS'
    go_quiet (fail)
    go_wp2_with fail
    go_ret
    exact ⟨ret_no HX.out (fun t0 t1 q _ p => HC.out (by cases q; exact p.2.1.trans HS0.out.symm)), by repeat (first | with_reducible exact HB2.out | refine Below.drew ?_ | refine below_drewN ?_ _)⟩
  have e2 : (x0.S.toList == S0.toList) = true := str_eq hS'
  have HSS : Hid (x0.S = t.S) := hS'.trans HS0.out
  clear hS'
  by_cases hN' : x0.N = t.N
  rotate_left
  · have e3 : (x0.N != t.N) = true := by simpa using hN'
    have HC : Hid (x0.N ≠ t.N) := hN'
    clear hN'
    go_quiet (fail)
    go_wp2_with fail
    go_ret
    exact ⟨ret_no HX.out (fun t0 t1 q _ p => HC.out (by cases q; exact p.2.2)), by repeat (first | with_reducible exact HB2.out | refine Below.drew ?_ | refine below_drewN ?_ _)⟩
  have e3 : (x0.N != t.N) = false := by simpa using hN'
  have HNN : Hid (x0.N = t.N) := hN'
  clear hN'
  go_quiet (fail)
  go_wp2_with fail
  go_ret
  exact ⟨ret_yes HX.out ⟨HK.out, HSS.out, HNN.out⟩, by repeat (first | with_reducible exact HB2.out | refine Below.drew ?_ | refine below_drewN ?_ _)⟩
end Go.Proofs.YtdplfflkmphpbaaGreatDoor.W
namespace Go.Proofs.YtdplfflkmphpbaaGreatDoor.W
open Go.RowKit
set_option maxHeartbeats 2000000 in
theorem specTT_long (t : Pl.Tk) (h4 : t.k = 4) (hS : 200 < t.S.size) (hm : t.S.size ≤ 1048576) (w : World) : Calls Tryz.prog 18 #[.agg #[.int .i64 t.k, .string t.S, .int .i64 t.N, .int .i64 t.l, .int .i64 t.c]] w fun e w' => e = .returned (.string ⟨#[]⟩) ∧ Below w.heap.size w w' := by
  have q3 : (t.k == 3) = false := by rw [h4]; rfl
  have q4 : (t.k == 4) = true := by rw [h4]; rfl
  have q200 : (200 : Int) < (t.S.size : Int) := by omega
  clear h4 hS
  go_enter Tryz.func18, Tryz.ntmps18
  go_wp2_with fail
  go_ret
  exact ⟨rfl, below_allocL _ _⟩
set_option maxHeartbeats 2000000 in
theorem specTT_neg (t : Pl.Tk) (h3 : t.k = 3) (hN : t.N < 0) (w : World) : Calls Tryz.prog 18 #[.agg #[.int .i64 t.k, .string t.S, .int .i64 t.N, .int .i64 t.l, .int .i64 t.c]] w fun e w' => e = .returned (.string ⟨#[]⟩) ∧ Below w.heap.size w w' := by
  have q3 : (t.k == 3) = true := by rw [h3]; rfl
  clear h3
  go_enter Tryz.func18, Tryz.ntmps18
  go_wp2_with fail
  go_ret
  exact ⟨rfl, below_allocL _ _⟩
set_option maxHeartbeats 2000000 in
theorem specTT_bad (t : Pl.Tk) (h3 : t.k = 3) (hN : ¬ t.N < 0) (s0 : t.S ≠ ⟨#[]⟩) (s1 : t.S ≠ ⟨#[117]⟩) (s2 : t.S ≠ ⟨#[99]⟩) (w : World) : Calls Tryz.prog 18 #[.agg #[.int .i64 t.k, .string t.S, .int .i64 t.N, .int .i64 t.l, .int .i64 t.c]] w fun e w' => e = .returned (.string ⟨#[]⟩) ∧ Below w.heap.size w w' := by
  have q3 : (t.k == 3) = true := by rw [h3]; rfl
  have e0 : t.S.toList.isEmpty = false := by
    rw [ByteArray.toList_eq]
    cases hl : t.S.data.toList with
    | nil => exact absurd (Go.WideShapes.bytes_inj hl) s0
    | cons _ _ => rfl
  have e1 : (t.S.toList == [117]) = false := by have q := str_ne s1; rwa [show (⟨#[117]⟩ : ByteArray).toList = [117] from by rw [ByteArray.toList_eq]] at q
  have e2 : (t.S.toList == [99]) = false := by have q := str_ne s2; rwa [show (⟨#[99]⟩ : ByteArray).toList = [99] from by rw [ByteArray.toList_eq]] at q
  clear h3 s0 s1 s2
  go_enter Tryz.func18, Tryz.ntmps18
  go_wp2_with fail
  go_ret
  exact ⟨rfl, below_allocL _ _⟩
set_option maxRecDepth 8000 in
set_option maxHeartbeats 8000000 in
theorem specTT_str (t : Pl.Tk) (h4 : t.k = 4) (hS : t.S.size ≤ 200) (w : World) : Calls Tryz.prog 18 #[.agg #[.int .i64 t.k, .string t.S, .int .i64 t.N, .int .i64 t.l, .int .i64 t.c]] w (TtSaid t (Pl.qt t.S 34) w) := by
  have hcv : ∀ (u : World) (t : ByteArray), (convert 9 22 (.string t)).run Tryz.prog u = .ok (.slice (some ⟨u.heap.size, 0, none⟩) t.size (grownCap u t.size 0 5)) (Lib.bytesWorld u 5 t) := fun u t => Lib.run_convert_string_bytes u 9 22 5 t Tryz.underlying9 Tryz.underlying22 Tryz.underlying5
  have q3 : (t.k == 3) = false := by rw [h4]; rfl
  have q4 : (t.k == 4) = true := by rw [h4]; rfl
  have q200 : ¬ ((200 : Int) < (t.S.size : Int)) := by omega
  have hqs : (Pl.qt t.S 34).size ≤ 1048576 := by
    have := Pl.qc_len t.S 34 t.S.size (Nat.le_refl _)
    unfold Pl.qt
    show (List.toArray _).size ≤ _
    simp
    omega
  have hS2 : t.S.size ≤ 1048576 := by omega
  clear h4 hS
  go_enter Tryz.func18, Tryz.ntmps18
  go_upto_region 13 with (first | (go_at_call 37; refine (specQuote_any t.S hS2 _).mono ?_; rintro e u1 ⟨rfl, d1⟩; have D1 : Hid (Below (w.alloc (.cells #[.int .i64 t.k, .string t.S, .int .i64 t.N, .int .i64 t.l, .int .i64 t.c] 34)).heap.size (w.alloc (.cells #[.int .i64 t.k, .string t.S, .int .i64 t.N, .int .i64 t.l, .int .i64 t.c] 34)) u1) := d1; clear d1) | (go_at_call 7; refine (specLex_is (some ⟨u1.heap.size, 0, none⟩) (Pl.qt t.S 34).size _ (Pl.qt t.S 34) rfl hqs (Lib.bytesWorld (u1) 5 (Pl.qt t.S 34)) (back_at (u1) (Pl.qt t.S 34) (u1.heap.size) (by simp) _)).mono ?_; rintro e u2 ⟨h2, d2⟩; obtain ⟨ts, c, l, k, a0, c0, hx, rfl, g2⟩ := LexSaid.got h2; have D2 : Hid _ := d2; have HX : Hid (LxAll (Pl.qt t.S 34) (ts, c, l, k)) := hx; have HG : Hid _ := g2; clear h2 g2 d2 hx))
  have B1 : Below w.heap.size w (u1) := (below_allocL _ _).trans (D1.out.mono (by simp))
  have B2 : Below w.heap.size w u2 := (B1.trans ((Joins.below_bytesWorld _ _ 5 _ (Nat.le_refl _)).mono B1.size)).trans (D2.out.mono (by rw [Lib.bytesWorld_size]; have := B1.size; omega))
  have R0 : u2.heap[w.heap.size]? = some (.cells #[.int .i64 t.k, .string t.S, .int .i64 t.N, .int .i64 t.l, .int .i64 t.c] 34 (0, 0)) := (D2.out.block _ (by rw [Lib.bytesWorld_size]; have := D1.out.size; simp at this; omega)).trans ((Lib.bytesWorld_at_old _ 5 _ _ (by have := D1.out.size; simp at this; omega)).trans ((D1.out.block _ (by simp)).trans (heap_alloc_new w _)))
  have b0 : u2.cell? ⟨w.heap.size, 0, none⟩ = some (.int .i64 t.k) := cell_of_row u2 _ 0 _ 34 (0, 0) R0
  obtain ⟨S0, hS0⟩ : ∃ S0, S0 = t.S := ⟨_, rfl⟩
  have b1 : u2.cell? ⟨w.heap.size, 1, none⟩ = some (.string S0) := by rw [hS0]; exact cell_of_row u2 _ 1 _ 34 (0, 0) R0
  have HS0 : Hid (S0 = t.S) := hS0
  clear hS0
  have b2 : u2.cell? ⟨w.heap.size, 2, none⟩ = some (.int .i64 t.N) := cell_of_row u2 _ 2 _ 34 (0, 0) R0
  have HB2 : Hid (Below w.heap.size w u2) := B2
  clear B1 B2 R0 D2
  by_cases hc : c = 0
  rotate_left
  · have e1 : (c != 0) = true := by simpa using hc
    have HC : Hid (c ≠ 0) := hc
    clear hc
    go_quiet (fail)
    go_wp2_with fail
    go_ret
    exact ⟨ret_no HX.out (fun _ _ _ q => absurd q HC.out), by repeat (first | with_reducible exact HB2.out | refine Below.drew ?_ | refine below_drewN ?_ _)⟩
  subst hc
  by_cases hl : ts.length = 2
  rotate_left
  · have e1 : ((ts.length : Int) != 2) = true := by simp; omega
    have HC : Hid (ts.length ≠ 2) := hl
    clear hl
    go_quiet (fail)
    go_wp2_with fail
    go_ret
    exact ⟨ret_no HX.out (fun t0 t1 q _ => absurd (by rw [q]; rfl) HC.out), by repeat (first | with_reducible exact HB2.out | refine Below.drew ?_ | refine below_drewN ?_ _)⟩
  obtain ⟨t0, t1, rfl⟩ := len_two hl
  obtain ⟨g, rfl, hlo, hg1, x0, hx0, c0', c1', c2', c3', c4'⟩ := tok_at HG.out.1 (k := 0) (by simp)
  obtain rfl : x0 = t0 := hx0
  clear hl hlo
  simp only [Nat.zero_mul, Nat.zero_add] at c0' c1' c2'
  by_cases hk : x0.k = t.k
  rotate_left
  · have e1 : (x0.k != t.k) = true := by simpa using hk
    have HC : Hid (x0.k ≠ t.k) := hk
    clear hk
    go_quiet (fail)
    go_wp2_with fail
    go_ret
    exact ⟨ret_no HX.out (fun t0 t1 q _ p => HC.out (by cases q; exact p.1)), by repeat (first | with_reducible exact HB2.out | refine Below.drew ?_ | refine below_drewN ?_ _)⟩
  have e1 : (x0.k != t.k) = false := by simpa using hk
  have HK : Hid (x0.k = t.k) := hk
  clear hk
  by_cases hS' : x0.S = S0
  rotate_left
  · have e2 : (x0.S.toList == S0.toList) = false := str_ne hS'
    have HC : Hid (x0.S ≠ S0) := hS'
    clear hS'
    go_quiet (fail)
    go_wp2_with fail
    go_ret
    exact ⟨ret_no HX.out (fun t0 t1 q _ p => HC.out (by cases q; exact p.2.1.trans HS0.out.symm)), by repeat (first | with_reducible exact HB2.out | refine Below.drew ?_ | refine below_drewN ?_ _)⟩
  have e2 : (x0.S.toList == S0.toList) = true := str_eq hS'
  have HSS : Hid (x0.S = t.S) := hS'.trans HS0.out
  clear hS'
  by_cases hN' : x0.N = t.N
  rotate_left
  · have e3 : (x0.N != t.N) = true := by simpa using hN'
    have HC : Hid (x0.N ≠ t.N) := hN'
    clear hN'
    go_quiet (fail)
    go_wp2_with fail
    go_ret
    exact ⟨ret_no HX.out (fun t0 t1 q _ p => HC.out (by cases q; exact p.2.2)), by repeat (first | with_reducible exact HB2.out | refine Below.drew ?_ | refine below_drewN ?_ _)⟩
  have e3 : (x0.N != t.N) = false := by simpa using hN'
  have HNN : Hid (x0.N = t.N) := hN'
  clear hN'
  go_quiet (fail)
  go_wp2_with fail
  go_ret
  exact ⟨ret_yes HX.out ⟨HK.out, HSS.out, HNN.out⟩, by repeat (first | with_reducible exact HB2.out | refine Below.drew ?_ | refine below_drewN ?_ _)⟩
end Go.Proofs.YtdplfflkmphpbaaGreatDoor.W
