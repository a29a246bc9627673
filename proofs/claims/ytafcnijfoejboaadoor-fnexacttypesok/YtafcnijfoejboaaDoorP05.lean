import Derived.Test.YtafcnijfoejboaaDoorP03
import Derived.Lib.ConvBytes
set_option linter.unusedVariables false
set_option linter.unusedSimpArgs false
namespace Go.Proofs.YtafcnijfoejboaaDoor.Pl
def fitR (xs : List Ty) (i : Nat) (x : Ty) (r : TRule) : Bool :=
  within x.n r.lowN r.highN && within (x.of.length : Int) r.least r.most && decide (∀ p, p < x.of.length → fitPart xs i p = true) && (if r.names = true then decide (x.names.length = x.of.length) && apart x.names else decide (x.names.length = 0))
def fit (xs : List Ty) (i : Nat) : Bool := match tRule (xs.getD i Ty.zero).k with
  | none => false
  | some r => fitR xs i (xs.getD i Ty.zero) r
end Go.Proofs.YtafcnijfoejboaaDoor.Pl
namespace Go.Proofs.YtafcnijfoejboaaDoor.W
open Go.RowKit
def Errs (w : World) : Prop := (∃ ev, w.cell? ⟨0, 0, none⟩ = some ev ∧ (ev = .nilIface ∨ ∃ te pe, ev = .iface te pe)) ∧ (∃ ev, w.cell? ⟨1, 0, none⟩ = some ev ∧ (ev = .nilIface ∨ ∃ te pe, ev = .iface te pe))
theorem Errs.keep {w w' : World} (h : Errs w) (hb : Below w.heap.size w w') : Errs w' := by
  obtain ⟨⟨e1, h1, q1⟩, ⟨e2, h2, q2⟩⟩ := h
  exact ⟨⟨e1, (hb.cell (block_lt_of_cell h1)).trans h1, q1⟩, ⟨e2, (hb.cell (block_lt_of_cell h2)).trans h2, q2⟩⟩
def NamesSaid (P : Program) : Prop := ∀ (lo : Nat) (a : Option Addr) (len cap : Nat) (ss : List ByteArray) (w : World), SRow lo w a len cap ss → Errs w → (∀ j, j < ss.length → (ss.getD j ⟨#[]⟩).size ≤ 1048576) → Calls P 29 #[.slice a len cap] w fun e w' => e = .returned (.bool (Pl.apart ss)) ∧ Below w.heap.size w w'
set_option maxRecDepth 8000 in
set_option maxHeartbeats 8000000 in
theorem isFit_of (HNS : Hid (NamesSaid Tryd.prog)) {lo : Nat} (a : Option Addr) (len cap : Nat) (xs : List Pl.Ty) (i : Nat) (hi : i < len) (w : World) (h : TRow lo w a len cap xs) (hE : Errs w) (hsm : ∀ j, j < (xs.getD i Pl.Ty.zero).names.length → ((xs.getD i Pl.Ty.zero).names.getD j ⟨#[]⟩).size ≤ 1048576) :
    Calls Tryd.prog 14 #[.slice a len cap, .int .i64 i] w fun e w' => e = .returned (.bool (Pl.fit xs i)) ∧ Below w.heap.size w w' := by
  have hm : (len : Int) ≤ 9223372036854775807 := by have := h.small; omega
  have HR : Hid (TRow lo w a len cap xs) := h
  have HE : Hid (Errs w) := hE
  obtain ⟨b, off, v, s, rfl, hlo, hb1, hc, hrow, hs⟩ := h.at hi
  obtain ⟨x, hx⟩ : ∃ x, x = xs.getD i Pl.Ty.zero := ⟨_, rfl⟩
  rw [← hx] at hc hrow hs hsm
  obtain ⟨kk, nn, zs, nms⟩ := x
  have hvl : (v.len : Int) ≤ 9223372036854775807 := by have := hrow.small; omega
  have hsl : (s.len : Int) ≤ 9223372036854775807 := by have := hs.small; omega
  obtain ⟨c0, c1, c2, c3⟩ := ty_cells hc
  change w.cell? _ = some (.int .i64 kk) at c0
  change w.cell? _ = some (.int .i64 nn) at c1
  have HX : Hid (Pl.Ty.mk kk nn zs nms = xs.getD i Pl.Ty.zero) := hx
  have HS : Hid (SRow lo w s.a s.len s.cap nms) := hs
  have HOL : Hid (zs.length = v.len) := hrow.1
  have HSL : Hid (nms.length = s.len) := hs.1.1
  have hii : (i : Int) < (len : Int) := by omega
  have HSM : Hid (∀ j, j < nms.length → (nms.getD j ⟨#[]⟩).size ≤ 1048576) := hsm
  clear hx hs hrow hc h hE hsm
  go_enter Tryd.func14, Tryd.ntmps14
  go_wp2_with fail
  refine ty_at fun U1 hU1 => ?_
  have z1 : U1.heap.size = w.heap.size + 1 := by rw [hU1]; simp
  have q0 : U1.heap[w.heap.size]? = some (.cells #[.int .i64 kk, .int .i64 nn, .slice v.a v.len v.cap, .slice s.a s.len s.cap] 37) := by
    rw [hU1]; exact heap_alloc_new w _
  have b1 : Below w.heap.size w U1 := by rw [hU1]; exact below_alloc _ _
  clear hU1
  refine (ruleOfKind_any kk U1).mono ?_
  rintro e u1 ⟨rfl, d1⟩
  have Q0 := (d1.block w.heap.size (by omega)).trans q0
  have B1 : Hid (Below w.heap.size w u1) := b1.trans (d1.mono (by omega))
  have k0 : ∀ j, u1.cell? ⟨w.heap.size, j, none⟩ = (#[.int .i64 kk, .int .i64 nn, .slice v.a v.len v.cap, .slice s.a s.len s.cap] : Array Value)[j]? := fun j => cell_of_row u1 w.heap.size j _ 37 (0, 0) Q0
  have hzz : w.heap.size < u1.heap.size := by have := d1.size; omega
  have HQ0 : Hid (u1.heap[w.heap.size]? = some (.cells #[.int .i64 kk, .int .i64 nn, .slice v.a v.len v.cap, .slice s.a s.len s.cap] 37)) := Q0
  have e1 : u1.cell? ⟨w.heap.size, 1, none⟩ = some (.int .i64 nn) := k0 1
  have e2 : u1.cell? ⟨w.heap.size, 2, none⟩ = some (.slice v.a v.len v.cap) := k0 2
  have e3 : u1.cell? ⟨w.heap.size, 3, none⟩ = some (.slice s.a s.len s.cap) := k0 3
  clear q0 z1 b1 d1 Q0 c0 c1 c2 c3 k0
  cases hr : Pl.tRule kk with
  | none =>
    have HK : Hid (Pl.fit xs i = false) := by
      show Pl.fit xs i = false
      unfold Pl.fit; rw [← HX.out]; simp only [hr]
    simp only [Option.getD_none, Option.isSome_none, Pl.TRule.cells]
    go_wp2_with fail
    go_ret
    exact ⟨ret_bool HK.out.symm, B1.out.trans ((below_alloc _ _).mono B1.out.size)⟩
  | some r =>
    obtain ⟨lN, hN, le, mo, nm⟩ := r
    have HK : Hid (Pl.fit xs i = (Pl.within nn lN hN && Pl.within (v.len : Int) le mo && decide (∀ p, p < v.len → Pl.fitPart xs i p = true) && (if nm = true then decide (s.len = v.len) && Pl.apart nms else decide (s.len = 0)))) := by
      show Pl.fit xs i = _
      unfold Pl.fit; rw [← HX.out]; simp only [hr, Pl.fitR, HOL.out, HSL.out]
    simp only [Option.getD_some, Option.isSome_some, Pl.TRule.cells]
    clear hr
    cases hw1 : Pl.within nn lN hN
    · go_wp2_with (go_at_call 27; refine (isWithin_any _ _ _ _).mono ?_; rintro e u2 ⟨rfl, rfl⟩; first | rw [hw1] | rw [hw2])
      go_ret
      exact ⟨ret_bool (by rw [HK.out, hw1]; rfl), B1.out.trans ((below_alloc _ _).mono B1.out.size)⟩
    cases hw2 : Pl.within (v.len : Int) le mo
    · go_wp2_with (go_at_call 27; refine (isWithin_any _ _ _ _).mono ?_; rintro e u2 ⟨rfl, rfl⟩; first | rw [hw1] | rw [hw2])
      go_ret
      exact ⟨ret_bool (by rw [HK.out, hw1, hw2]; rfl), B1.out.trans ((below_alloc _ _).mono B1.out.size)⟩
    go_wp2_with (go_at_call 27; refine (isWithin_any _ _ _ _).mono ?_; rintro e u2 ⟨rfl, rfl⟩; first | rw [hw1] | rw [hw2])
    obtain ⟨U2, hU2⟩ : ∃ U2, U2 = u1.alloc (.cells #[.int .i64 lN, .int .i64 hN, .int .i64 le, .int .i64 mo, .bool nm] 54) := ⟨_, rfl⟩
    rw [← hU2]
    have r4 : U2.cell? ⟨u1.heap.size, 4, none⟩ = some (.bool nm) := by
      rw [hU2]; exact cell_of_row _ _ 4 _ 54 (0, 0) (heap_alloc_new u1 _)
    have d2 : Below u1.heap.size u1 U2 := by rw [hU2]; exact below_alloc _ _
    have g2 : U2.cell? ⟨w.heap.size, 2, none⟩ = some (.slice v.a v.len v.cap) := (d2.cell (p := ⟨w.heap.size, 2, none⟩) hzz).trans e2
    have g3 : U2.cell? ⟨w.heap.size, 3, none⟩ = some (.slice s.a s.len s.cap) := (d2.cell (p := ⟨w.heap.size, 3, none⟩) hzz).trans e3
    have B2 : Hid (Below w.heap.size w U2) := B1.out.trans (d2.mono B1.out.size)
    have Z2 : Hid (u1.heap.size < U2.heap.size) := by rw [hU2]; show _ < _; simp
    clear hU2 d2 e1 e2 e3 HQ0 B1
    have HK2 : Hid (Pl.fit xs i = (decide (∀ p, p < v.len → Pl.fitPart xs i p = true) && (if nm = true then decide (s.len = v.len) && Pl.apart nms else decide (s.len = 0)))) := by
      show Pl.fit xs i = _
      rw [HK.out, hw1, hw2]; rfl
    clear HK hw1 hw2
    go_loopw [45] (fun j wr => ∃ p : Nat, p ≤ v.len ∧ j = .int .i64 p ∧ (∀ q, q < p → Pl.fitPart xs i q = true) ∧ Below U2.heap.size U2 wr) (fun j _ => v.len - (intOf j).toNat)
    case atStart => exact ⟨0, Nat.zero_le _, rfl, fun q hq => absurd hq (Nat.not_lt_zero _), Below.refl _ _⟩
    case round =>
      obtain ⟨p, hp, rfl, hall, hb⟩ := hrel
      have HP : Hid (∀ q, q < p → Pl.fitPart xs i q = true) := hall
      have HB : Hid (Below U2.heap.size U2 wr) := hb
      have HB' : Hid (Below w.heap.size w wr) := B2.out.trans (hb.mono B2.out.size)
      clear hall hb
      by_cases hlt : p < v.len
      · have hj : (p : Int) < (v.len : Int) := by omega
        cases hf : Pl.fitPart xs i p
        · go_wp2_with (go_at_call 28; refine (isFitPart_any _ _ _ xs i p hi (by rw [← HX.out]; show p < zs.length; rw [HOL.out]; exact hlt) _ (HR.out.keep HB'.out)).mono ?_; rintro e u2 ⟨rfl, g1⟩; rw [hf]; have G1 : Hid _ := g1; clear g1)
          go_ret
          refine ⟨ret_bool ?_, HB'.out.trans (G1.out.mono HB'.out.size)⟩
          rw [HK2.out, decide_eq_false (fun hc => by have := hc p hlt; rw [hf] at this; cases this)]
          rfl
        · go_wp2_with (go_at_call 28; refine (isFitPart_any _ _ _ xs i p hi (by rw [← HX.out]; show p < zs.length; rw [HOL.out]; exact hlt) _ (HR.out.keep HB'.out)).mono ?_; rintro e u2 ⟨rfl, g1⟩; rw [hf]; have G1 : Hid _ := g1; clear g1)
          go_roundw
          case rel => exact ⟨p + 1, by omega, by go_num, fun q hq => by
            by_cases e : q = p
            · rw [e]; exact hf
            · exact HP.out q (by omega), HB.out.trans (G1.out.mono HB.out.size)⟩
          case measure => simp [intOf]; omega
      · have hpe : p = v.len := by omega
        have hj : ¬ ((p : Int) < (v.len : Int)) := by omega
        have R4 : wr.cell? ⟨u1.heap.size, 4, none⟩ = some (.bool nm) := (HB.out.cell (p := ⟨u1.heap.size, 4, none⟩) Z2.out).trans r4
        have G2 : wr.cell? ⟨w.heap.size, 2, none⟩ = some (.slice v.a v.len v.cap) := (HB.out.cell (p := ⟨w.heap.size, 2, none⟩) (Nat.lt_trans hzz Z2.out)).trans g2
        have G3 : wr.cell? ⟨w.heap.size, 3, none⟩ = some (.slice s.a s.len s.cap) := (HB.out.cell (p := ⟨w.heap.size, 3, none⟩) (Nat.lt_trans hzz Z2.out)).trans g3
        have HK3 : Hid (Pl.fit xs i = (if nm = true then decide (s.len = v.len) && Pl.apart nms else decide (s.len = 0))) := by
          show Pl.fit xs i = _
          rw [HK2.out, decide_eq_true (fun q hq => HP.out q (by omega)), Bool.true_and]
        clear HK2 r4 g2 g3 HP
        cases nm
        · go_wp2_with fail
          all_goals (go_ret; refine ⟨ret_bool ?_, HB'.out⟩; rw [HK3.out, Bool.eq_iff_iff]; simp <;> omega)
        · by_cases hsv : (s.len : Int) = (v.len : Int)
          · go_wp2_with (go_at_call 29; refine (HNS.out lo s.a s.len s.cap nms _ (HS.out.keep HB'.out) (HE.out.keep HB'.out) HSM.out).mono ?_; rintro e u2 ⟨rfl, g1⟩; have G1 : Hid _ := g1; clear g1)
            go_ret
            refine ⟨ret_bool ?_, HB'.out.trans (G1.out.mono HB'.out.size)⟩
            rw [HK3.out, Bool.eq_iff_iff]; simp <;> omega
          · go_wp2_with fail
            all_goals (go_ret; refine ⟨ret_bool ?_, HB'.out⟩; rw [HK3.out, Bool.eq_iff_iff]; simp <;> omega)
end Go.Proofs.YtafcnijfoejboaaDoor.W
namespace Go.Proofs.YtafcnijfoejboaaDoor.W
open Go.RowKit
set_option maxRecDepth 8000 in
set_option maxHeartbeats 4000000 in
theorem isKey_any (s : ByteArray) (w : World) : Calls Tryd.prog 50 #[.string s] w fun e w' => e = .returned (.bool (Pl.inS Pl.kws s)) ∧ w' = w := by
  have HE : Hid (Pl.inS Pl.kws s = (Pl.kwB.any fun r => s.toList == r)) := by
    show Pl.inS Pl.kws s = _
    unfold Pl.inS Pl.kws
    rw [List.any_map]
    congr 1
    funext r
    simp only [Function.comp, ByteArray.toList_eq]
    exact Bool.beq_comm
  go_enter Tryd.func50, Tryd.ntmps50
  go_wp2
  all_goals (go_ret; refine ⟨ret_bool ?_, rfl⟩; rw [HE.out]; simp only [Pl.kwB, List.any_cons, List.any_nil]; simp_all)
end Go.Proofs.YtafcnijfoejboaaDoor.W
namespace Go.Proofs.YtafcnijfoejboaaDoor.W
open Go.RowKit
theorem isDigitR_any (c : Int) (w : World) : Calls Tryd.prog 51 #[.int .i32 c] w fun e w' => e = .returned (.bool (Pl.dg c)) ∧ w' = w := by
  go_enter Tryd.func51, Tryd.ntmps51
  go_wp2
  all_goals (go_ret; refine ⟨ret_bool ?_, rfl⟩; rw [Bool.eq_iff_iff]; simp [Pl.dg] <;> omega)
set_option maxHeartbeats 1000000 in
theorem inWordR_any (c : Int) (w : World) : Calls Tryd.prog 47 #[.int .i32 c] w fun e w' => e = .returned (.bool (Pl.wch c)) ∧ w' = w := by
  cases hd : Pl.dg c
  · have hn : ¬ (48 ≤ c ∧ c ≤ 57) := by simpa [Pl.dg] using hd
    go_enter Tryd.func47, Tryd.ntmps47
    go_wp2_with (go_at_call 51; refine (isDigitR_any _ _).mono ?_; rintro e u1 ⟨rfl, rfl⟩; rw [hd])
    all_goals (go_ret; refine ⟨ret_bool ?_, rfl⟩; rw [Bool.eq_iff_iff]; simp [Pl.dg, Pl.lt, Pl.wch] <;> omega)
  · have hn : 48 ≤ c ∧ c ≤ 57 := by simpa [Pl.dg] using hd
    go_enter Tryd.func47, Tryd.ntmps47
    go_wp2_with (go_at_call 51; refine (isDigitR_any _ _).mono ?_; rintro e u1 ⟨rfl, rfl⟩; rw [hd])
    all_goals (go_ret; refine ⟨ret_bool ?_, rfl⟩; rw [Bool.eq_iff_iff]; simp [Pl.dg, Pl.lt, Pl.wch] <;> omega)
end Go.Proofs.YtafcnijfoejboaaDoor.W
namespace Go.Proofs.YtafcnijfoejboaaDoor.W
open Go.RowKit
set_option maxHeartbeats 2000000 in
theorem readWord_nd (s : ByteArray) (hpos : 0 < s.size) (hd : Pl.dg (Pl.byt s 0) = false) (w : World) : Calls Tryd.prog 45 #[.string s] w fun e w' => ∃ (kd code : Int) (t : ByteArray), e = .returned (.tuple #[.agg #[.int .i64 kd, .string t, .int .i64 0, .int .i64 0, .int .i64 0], .int .i64 code]) ∧ ((code = 0 ∧ kd = 1) ↔ (s.size ≤ 40 ∧ Pl.inS Pl.kws s = false)) ∧ Below w.heap.size w w' := by
  by_cases hb : (40 : Int) < (s.size : Int)
  · go_enter Tryd.func45, Tryd.ntmps45
    go_wp2_with (go_at_call 48; refine (isDigit_any _ _).mono ?_; rintro e u1 ⟨rfl, rfl⟩; rw [Pl.byt_get s 0 hpos, hd])
    exact bodyPost_ret (v := .tuple #[.agg #[.int .i64 0, .string ⟨#[]⟩, .int .i64 0, .int .i64 0, .int .i64 0], .int .i64 8]) (by simp [results, Tryd.results45, go_sem]) rfl ⟨0, 8, ⟨#[]⟩, rfl, by omega, below_alloc _ _⟩
  · cases hk : Pl.inS Pl.kws s
    · go_enter Tryd.func45, Tryd.ntmps45
      go_wp2_with (first | (go_at_call 48; refine (isDigit_any _ _).mono ?_; rintro e u1 ⟨rfl, rfl⟩; rw [Pl.byt_get s 0 hpos, hd]) | (go_at_call 50; refine (isKey_any s _).mono ?_; rintro e u1 ⟨rfl, rfl⟩; rw [hk]))
      exact bodyPost_ret (v := .tuple #[.agg #[.int .i64 1, .string s, .int .i64 0, .int .i64 0, .int .i64 0], .int .i64 0]) (by simp [results, Tryd.results45, go_sem]) rfl ⟨1, 0, s, rfl, ⟨fun _ => ⟨by omega, by first | rfl | trivial⟩, fun _ => ⟨rfl, rfl⟩⟩, below_alloc _ _⟩
    · go_enter Tryd.func45, Tryd.ntmps45
      go_wp2_with (first | (go_at_call 48; refine (isDigit_any _ _).mono ?_; rintro e u1 ⟨rfl, rfl⟩; rw [Pl.byt_get s 0 hpos, hd]) | (go_at_call 50; refine (isKey_any s _).mono ?_; rintro e u1 ⟨rfl, rfl⟩; rw [hk]))
      exact bodyPost_ret (v := .tuple #[.agg #[.int .i64 2, .string s, .int .i64 0, .int .i64 0, .int .i64 0], .int .i64 0]) (by simp [results, Tryd.results45, go_sem]) rfl ⟨2, 0, s, rfl, ⟨fun h => absurd h.2 (by decide), fun h => by simp at h⟩, below_alloc _ _⟩
end Go.Proofs.YtafcnijfoejboaaDoor.W
namespace Go.Proofs.YtafcnijfoejboaaDoor.Pl
theorem wch_high (c : Int) (h : 128 ≤ c) : wch c = false := by
  rw [Bool.eq_false_iff]
  simp [wch, lt, dg]
  omega
theorem wch_decode (s : ByteArray) (pos : Nat) (h : pos < s.size) : wch ((Utf8.decode s pos).1 : Nat) = wch (byt s pos) := by
  by_cases ha : (s[pos]'h).toNat < 128
  · rw [decode_ascii s pos h ha, ← byt_get s pos h]
  · rw [wch_high _ (by have := (decode_high s pos h (by omega)).1; omega), wch_high _ (by rw [← byt_get s pos h]; omega)]
theorem step_decode (s : ByteArray) (pos : Nat) (h : pos < s.size) (hw : wch (byt s pos) = true) : (Utf8.decode s pos).2 = 1 := by
  by_cases ha : (s[pos]'h).toNat < 128
  · rw [decode_ascii s pos h ha]
  · rw [wch_high _ (by rw [← byt_get s pos h]; omega)] at hw
    cases hw
end Go.Proofs.YtafcnijfoejboaaDoor.Pl
namespace Go.Proofs.YtafcnijfoejboaaDoor.W
open Go.RowKit
theorem below_iter (w : World) (s : ByteArray) (pos : Nat) : Below w.heap.size w (w.iter s pos) := below_alloc w _
set_option maxRecDepth 100000 in
set_option maxHeartbeats 2000000 in
theorem wordOf_any (s : ByteArray) (hs : s.size ≤ 9223372036854775807) (w : World) : Calls Tryd.prog 44 #[.string s] w fun e w' => ∃ n, n ≤ s.size ∧ (∀ j, j < n → Pl.wch (Pl.byt s j) = true) ∧ (n = s.size ∨ Pl.wch (Pl.byt s n) = false) ∧ e = .returned (.string (s.extract 0 n)) ∧ Below w.heap.size w w' := by
  go_enter Tryd.func44, Tryd.ntmps44
  go_wp2
  go_loopw [3] (fun _ w' => ∃ pos : Nat, pos ≤ s.size ∧ w' = w.iter s pos ∧ (∀ j, j < pos → Pl.wch (Pl.byt s j) = true)) (fun _ w' => s.size - w'.iterPos w.heap.size)
  case atStart => exact ⟨0, Nat.zero_le _, rfl, fun j hj => absurd hj (Nat.not_lt_zero _)⟩
  case round =>
    obtain ⟨pos, hps, rfl, hall⟩ := hrel
    have HA : Hid (∀ j, j < pos → Pl.wch (Pl.byt s j) = true) := hall
    clear hall
    by_cases hp : pos < s.size
    · have hnx : ∀ ty, (Instr.next (.pointer (some ⟨w.heap.size, 0, none⟩)) true ty).run Tryd.prog (w.iter s pos) = _ := fun ty => run_next_any w s pos ty hp
      have hpi : (pos : Int) ≤ (s.size : Int) := by omega
      cases hc : Pl.wch (Pl.byt s pos)
      · go_wp2_with (go_at_call 47; refine (inWordR_any _ _).mono ?_; rintro e u1 ⟨rfl, rfl⟩; rw [Pl.wch_decode s pos hp, hc])
        go_ret
        exact ⟨pos, hps, HA.out, .inr hc, rfl, below_iter _ _ _⟩
      · have hd2 := Pl.step_decode s pos hp hc
        have HD : Hid ((Utf8.decode s pos).2 = 1) := hd2
        clear hd2
        go_wp2_with (go_at_call 47; refine (inWordR_any _ _).mono ?_; rintro e u1 ⟨rfl, rfl⟩; rw [Pl.wch_decode s pos hp, hc])
        go_roundw
        case rel => exact ⟨pos + 1, by omega, by rw [HD.out], fun j hj => by
          by_cases e : j = pos
          · rw [e]; exact hc
          · exact HA.out j (by omega)⟩
        case measure => rw [HD.out]; simp; omega
    · have hnx : ∀ ty, (Instr.next (.pointer (some ⟨w.heap.size, 0, none⟩)) true ty).run Tryd.prog (w.iter s pos) = _ := fun ty => run_next_end w s pos ty hp
      go_wp2
      go_ret
      have hpe : pos = s.size := by omega
      exact ⟨pos, hps, HA.out, .inl hpe, by rw [hpe]; simp, below_iter _ _ _⟩
end Go.Proofs.YtafcnijfoejboaaDoor.W
namespace Go.Proofs.YtafcnijfoejboaaDoor.W
open Go.RowKit
theorem width_pos (s : ByteArray) (pos : Nat) (h : pos < s.size) : 1 ≤ (Utf8.decode s pos).2 := by
  by_cases ha : (s[pos]'h).toNat < 128
  · rw [decode_ascii s pos h ha]
    exact Nat.le_refl _
  · exact (decode_high s pos h (by omega)).2
set_option maxHeartbeats 1000000 in
theorem digitOf_any (c : Int) (w : World) : Calls Tryd.prog 67 #[.int .i32 c] w fun e w' => (∃ d : Int, e = .returned (.int .i64 d)) ∧ w' = w := by
  cases hd : Pl.dg c
  all_goals
    go_enter Tryd.func67, Tryd.ntmps67
    go_wp2_with (go_at_call 51; refine (isDigitR_any _ _).mono ?_; rintro e u1 ⟨rfl, rfl⟩; rw [hd])
    all_goals (go_ret; exact ⟨⟨_, rfl⟩, rfl⟩)
set_option maxRecDepth 100000 in
set_option maxHeartbeats 2000000 in
theorem digitCount_any (s : ByteArray) (b : Int) (w : World) : Calls Tryd.prog 61 #[.string s, .int .i64 b] w fun e w' => (∃ d : Int, e = .returned (.int .i64 d)) ∧ Below w.heap.size w w' := by
  go_enter Tryd.func61, Tryd.ntmps61
  go_wp2
  go_loopw [5] (fun _ w' => ∃ pos : Nat, w' = w.iter s pos) (fun _ w' => s.size - w'.iterPos w.heap.size)
  case atStart => exact ⟨0, rfl⟩
  case round =>
    obtain ⟨pos, rfl⟩ := hrel
    by_cases hp : pos < s.size
    · have hnx : ∀ ty, (Instr.next (.pointer (some ⟨w.heap.size, 0, none⟩)) true ty).run Tryd.prog (w.iter s pos) = _ := fun ty => run_next_any w s pos ty hp
      have HW : Hid (1 ≤ (Utf8.decode s pos).2) := width_pos s pos hp
      go_wp2_with (go_at_call 67; refine (digitOf_any _ _).mono ?_; rintro e u1 ⟨⟨d, rfl⟩, rfl⟩)
      · go_ret
        exact ⟨⟨_, rfl⟩, below_iter _ _ _⟩
      · go_roundw
        case rel => exact ⟨_, rfl⟩
        case measure =>
          have := HW.out
          simp
          omega
    · have hnx : ∀ ty, (Instr.next (.pointer (some ⟨w.heap.size, 0, none⟩)) true ty).run Tryd.prog (w.iter s pos) = _ := fun ty => run_next_end w s pos ty hp
      go_wp2
      go_ret
      exact ⟨⟨_, rfl⟩, below_iter _ _ _⟩
theorem inBase_any (s : ByteArray) (b : Int) (w : World) : Calls Tryd.prog 54 #[.string s, .int .i64 b] w fun e w' => (∃ d : Bool, e = .returned (.bool d)) ∧ Below w.heap.size w w' := by
  go_enter Tryd.func54, Tryd.ntmps54
  go_wp2_with (go_at_call 61; refine (digitCount_any s b _).mono ?_; rintro e u1 ⟨⟨d, rfl⟩, g1⟩)
  go_ret
  exact ⟨⟨_, rfl⟩, g1⟩
end Go.Proofs.YtafcnijfoejboaaDoor.W
