import Derived.Test.YtomhmjhcbencmaaDoorInsC
import Derived.Test.YtomhmjhcbencmaaDoorOpNum
import Derived.Test.YtomhmjhcbencmaaDoorRegNum
import Derived.Deep.RegionHeld
import Derived.Laws.StructEq
set_option linter.unusedVariables false
set_option linter.unusedSimpArgs false
namespace Go.Proofs.YtomhmjhcbencmaaDoor.W
open Go.RowKit
set_option maxRecDepth 100000 in
set_option maxHeartbeats 16000000 in
theorem fnInst_walk (a0 : Option Addr) (len0 cap0 : Nat) (w : World) (h : IsBytes w a0 len0 cap0) (hr : RegsLie w) :
    Calls Tryd.prog 3 #[.slice a0 len0 cap0] w fun e w' => e = .returned (.bool true) ∧ Below w.heap.size w w' := by
  have HI : Hid (IsBytes w a0 len0 cap0) := h
  have HR : Hid (RegsLie w) := hr
  clear h hr
  by_cases hbig : 1048576 < len0
  · have hb' : (1048576 : Int) < (len0 : Int) := by omega
    go_enter Tryd.func3, Tryd.ntmps3
    go_wp2
    go_ret
    exact ⟨rfl, Below.refl _ _⟩
  have hb' : (len0 : Int) ≤ 1048576 := by omega
  clear hbig
  go_enter Tryd.func3, Tryd.ntmps3
  go_wp2_with fail
  refine (drawEnc_any w a0 len0 cap0 HI.out).mono ?_
  rintro e y1 ⟨op, rd, r1, r2, im, rfl, d1⟩
  have B1 : Hid (Below w.heap.size w y1) := d1
  clear d1
  go_wp2_with (refine wpList_store_row rfl 24 _ _ rfl (y1.heap.size) #[.int .i64 op, .int .i64 rd, .int .i64 r1, .int .i64 r2, .int .i64 im] ?hx ?hy 24 #[.int .i64 0, .int .i64 0, .int .i64 0, .int .i64 0, .int .i64 0] ?hg ?hi ?ho ?h1 ?_; (case hx => rfl); (case hy => rfl); (case hg => exact heap_alloc_new y1 _); (case hi => kernel_rfl); (case ho => kernel_rfl); (case h1 => kernel_rfl); refine Hid.out ?_)
  unfold Hid
  rw [World.setRow_alloc_new]
  refine wpList_at fun y2 hy2 => ?_
  have d2 : Below y1.heap.size y1 y2 := by rw [hy2]; exact below_alloc y1 _
  have RI2 : Hid (y2.heap[y1.heap.size]? = some (.cells #[.int .i64 op, .int .i64 rd, .int .i64 r1, .int .i64 r2, .int .i64 im] 24)) := by show y2.heap[y1.heap.size]? = _; rw [hy2]; exact heap_alloc_new y1 _
  have ZI2 : Hid (y1.heap.size < y2.heap.size) := by show y1.heap.size < y2.heap.size; rw [hy2]; simp
  clear hy2
  have B2 : Hid (Below w.heap.size w y2) := B1.out.trans (d2.mono B1.out.size)
  clear d2  B1
  obtain ⟨gI, hgI⟩ : ∃ g, g = y1.heap.size := ⟨_, rfl⟩
  rw [← hgI] at RI2 ZI2 ⊢
  clear hgI
  go_wp2_with (refine wpList_load_row rfl 24 _ rfl (gI) ?hx 24 #[.int .i64 op, .int .i64 rd, .int .i64 r1, .int .i64 r2, .int .i64 im] (0, 0) _ ?hg Tryd.underlying24 ?hd ?hi ?_; (case hx => rfl); (case hg => exact RI2.out); (case hd => rfl); (case hi => kernel_rfl))
  refine (specEnc_all op rd r1 r2 im y2).mono ?_
  rintro e y3 ⟨rfl, d3⟩
  have RI3 : Hid (y3.heap[gI]? = some (.cells #[.int .i64 op, .int .i64 rd, .int .i64 r1, .int .i64 r2, .int .i64 im] 24)) := (d3.block _ ZI2.out).trans RI2.out
  have ZI3 : Hid (gI < y3.heap.size) := Nat.lt_of_lt_of_le ZI2.out d3.size
  have B3 : Hid (Below w.heap.size w y3) := B2.out.trans (d3.mono B2.out.size)
  clear d3 RI2 ZI2 B2
  go_wp2_with (refine wpList_load_row rfl 24 _ rfl (gI) ?hx 24 #[.int .i64 op, .int .i64 rd, .int .i64 r1, .int .i64 r2, .int .i64 im] (0, 0) _ ?hg Tryd.underlying24 ?hd ?hi ?_; (case hx => rfl); (case hg => exact RI3.out); (case hd => rfl); (case hi => kernel_rfl))
  refine (implEnc_all op rd r1 r2 im y3).mono ?_
  rintro e y4 ⟨rfl, d4⟩
  have RI4 : Hid (y4.heap[gI]? = some (.cells #[.int .i64 op, .int .i64 rd, .int .i64 r1, .int .i64 r2, .int .i64 im] 24)) := (d4.block _ ZI3.out).trans RI3.out
  have ZI4 : Hid (gI < y4.heap.size) := Nat.lt_of_lt_of_le ZI3.out d4.size
  have B4 : Hid (Below w.heap.size w y4) := B3.out.trans (d4.mono B3.out.size)
  clear d4 RI3 ZI3 B3
  obtain ⟨ww, hww⟩ : ∃ x, x = ew op rd r1 r2 im := ⟨_, rfl⟩
  rw [← hww]
  have HW : Hid (ww = ew op rd r1 r2 im) := hww
  clear hww
  obtain ⟨ok, hok⟩ : ∃ x, x = iok op rd r1 r2 im := ⟨_, rfl⟩
  rw [← hok]
  have HO : Hid (ok = iok op rd r1 r2 im) := hok
  clear hok
  have ki : ∀ j, y4.cell? ⟨gI, j, none⟩ = (#[.int .i64 op, .int .i64 rd, .int .i64 r1, .int .i64 r2, .int .i64 im] : Array Value)[j]? := fun j => cell_of_row y4 gI j _ 24 (0, 0) RI4.out
  go_wp2_with fail
  clear ki
  refine (implInstOk_any op rd r1 r2 im y4).mono ?_
  rintro e y5 ⟨rfl, d5⟩
  rw [← HO.out]
  have RI5 : Hid (y5.heap[gI]? = some (.cells #[.int .i64 op, .int .i64 rd, .int .i64 r1, .int .i64 r2, .int .i64 im] 24)) := (d5.block _ ZI4.out).trans RI4.out
  have ZI5 : Hid (gI < y5.heap.size) := Nat.lt_of_lt_of_le ZI4.out d5.size
  have B5 : Hid (Below w.heap.size w y5) := B4.out.trans (d5.mono B4.out.size)
  clear d5 RI4 ZI4 B4
  go_upto_if 41 with fail
  go_cut [8, 9] from 17 to 106 (fun s8 s9 wx => Below w.heap.size w wx)
  case first =>
    cases ok
    · go_wp2_with fail
      go_meet
      exact B5.out
    obtain ⟨q, rfl, q1, q2, hf⟩ := iok_nat HO.out.symm
    obtain ⟨p, rfl, p31⟩ : ∃ p : Nat, r1 = p ∧ p ≤ 31 := by
      obtain ⟨_, g1, _, _⟩ := Pl.okF_parts hf
      obtain ⟨a1, a2, _⟩ := Pl.rg_bd g1
      exact ⟨r1.toNat, by omega, by omega⟩
    have hw : ww = Pl.enc q rd p r2 im := by rw [HW.out]; unfold ew; rw [← HO.out, Int.toNat_natCast]; rfl
    obtain ⟨e1, e2⟩ := Pl.dec_enc q q1 q2 rd p r2 im hf
    rw [← hw] at e1 e2
    have HD : Hid (Pl.decV ww = #[.int .i64 (q : Int), .int .i64 rd, .int .i64 (p : Int), .int .i64 r2, .int .i64 im] ∧ (Pl.dec ww != 0) = true) := ⟨e2, by rw [e1]; simp; omega⟩
    clear e1 e2 hw HO HW hf
    go_wp2_with fail
    refine (implDec_any ww y5).mono ?_
    rintro e y6 ⟨rfl, d6⟩
    rw [HD.out.1, HD.out.2]
    clear HD
    have RI6 : Hid (y6.heap[gI]? = some (.cells #[.int .i64 (q : Int), .int .i64 rd, .int .i64 (p : Int), .int .i64 r2, .int .i64 im] 24)) := (d6.block _ ZI5.out).trans RI5.out
    have ZI6 : Hid (gI < y6.heap.size) := Nat.lt_of_lt_of_le ZI5.out d6.size
    have B6 : Hid (Below w.heap.size w y6) := B5.out.trans (d6.mono B5.out.size)
    clear d6 RI5 ZI5 B5
    go_wp2_with (refine wpList_store_row rfl 24 _ _ rfl (y6.heap.size) #[.int .i64 (q : Int), .int .i64 rd, .int .i64 (p : Int), .int .i64 r2, .int .i64 im] ?hx ?hy 24 #[.int .i64 0, .int .i64 0, .int .i64 0, .int .i64 0, .int .i64 0] ?hg ?hi ?ho ?h1 ?_; (case hx => rfl); (case hy => rfl); (case hg => exact heap_alloc_new y6 _); (case hi => kernel_rfl); (case ho => kernel_rfl); (case h1 => kernel_rfl); refine Hid.out ?_)
    unfold Hid
    rw [World.setRow_alloc_new]
    refine wpList_at fun y7 hy7 => ?_
    have d7 : Below y6.heap.size y6 y7 := by rw [hy7]; exact below_alloc y6 _
    have RB7 : Hid (y7.heap[y6.heap.size]? = some (.cells #[.int .i64 (q : Int), .int .i64 rd, .int .i64 (p : Int), .int .i64 r2, .int .i64 im] 24)) := by show y7.heap[y6.heap.size]? = _; rw [hy7]; exact heap_alloc_new y6 _
    have ZB7 : Hid (y6.heap.size < y7.heap.size) := by show y6.heap.size < y7.heap.size; rw [hy7]; simp
    clear hy7
    have RI7 : Hid (y7.heap[gI]? = some (.cells #[.int .i64 (q : Int), .int .i64 rd, .int .i64 (p : Int), .int .i64 r2, .int .i64 im] 24)) := (d7.block _ ZI6.out).trans RI6.out
    have ZI7 : Hid (gI < y7.heap.size) := Nat.lt_of_lt_of_le ZI6.out d7.size
    have B7 : Hid (Below w.heap.size w y7) := B6.out.trans (d7.mono B6.out.size)
    clear d7 RI6 ZI6 B6
    obtain ⟨gB, hgB⟩ : ∃ g, g = y6.heap.size := ⟨_, rfl⟩
    rw [← hgB] at RB7 ZB7 ⊢
    clear hgB
    have hnm : (Pl.nm q).size ≤ maxLen := by have := Pl.nm_size q (by omega); unfold maxLen; omega
    have hrn : (Pl.rn p).size ≤ maxLen := by have := Pl.nn_size p (by omega); rw [Pl.nn_rn p (by omega)] at this; unfold maxLen; omega
    have hreg : IsReg (Pl.rn p) (p : Int) := .inl ⟨p, by omega, rfl, .inl (Pl.nn_rn p (by omega))⟩
    go_upto_region 10 with fail
    go_cut [71] from 47 to 70 (fun v71 wx => v71 = .bool false ∧ Below y7.heap.size y7 wx)
    case first =>
      have hS0 : (∀ j, y7.cell? ⟨gI, j, none⟩ = (#[.int .i64 (q : Int), .int .i64 rd, .int .i64 (p : Int), .int .i64 r2, .int .i64 im] : Array Value)[j]?) ∧ (∀ j, y7.cell? ⟨gB, j, none⟩ = (#[.int .i64 (q : Int), .int .i64 rd, .int .i64 (p : Int), .int .i64 r2, .int .i64 im] : Array Value)[j]?) := ⟨fun j => cell_of_row y7 gI j _ 24 (0, 0) RI7.out, fun j => cell_of_row y7 gB j _ 24 (0, 0) RB7.out⟩
      go_region_held (fun u => (∀ j, u.cell? ⟨gI, j, none⟩ = (#[.int .i64 (q : Int), .int .i64 rd, .int .i64 (p : Int), .int .i64 r2, .int .i64 im] : Array Value)[j]?) ∧ (∀ j, u.cell? ⟨gB, j, none⟩ = (#[.int .i64 (q : Int), .int .i64 rd, .int .i64 (p : Int), .int .i64 r2, .int .i64 im] : Array Value)[j]?)) (first | exact hS4 | exact hS3 | exact hS2 | exact hS1 | exact hS0) (first
        | (go_at_call 11; refine (implOpName_yes q q1 q2 _).mono ?_; rintro e z1 ⟨rfl, f1⟩; have D1 : Hid (Below y7.heap.size y7 z1) := Below.trans (by repeat (first | exact Below.refl _ _ | refine Below.drew ?_ | refine below_drewN ?_ _)) f1; have hS1 : (∀ j, z1.cell? ⟨gI, j, none⟩ = (#[.int .i64 (q : Int), .int .i64 rd, .int .i64 (p : Int), .int .i64 r2, .int .i64 im] : Array Value)[j]?) ∧ (∀ j, z1.cell? ⟨gB, j, none⟩ = (#[.int .i64 (q : Int), .int .i64 rd, .int .i64 (p : Int), .int .i64 r2, .int .i64 im] : Array Value)[j]?) := ⟨(fun j => cell_of_row z1 gI j _ 24 (0, 0) ((D1.out.block _ ZI7.out).trans RI7.out)), (fun j => cell_of_row z1 gB j _ 24 (0, 0) ((D1.out.block _ ZB7.out).trans RB7.out))⟩; clear f1)
        | (go_at_call 10; refine (implOpNumber_any _ hnm _).mono ?_; rintro e z2 ⟨m, rfl, hm, f2⟩; obtain rfl : q = m := (IsNum.uniq hm (Or.inl ⟨q1, Nat.lt_succ_of_le q2, rfl⟩)).symm; have D2 : Hid (Below y7.heap.size y7 z2) := D1.out.trans (f2.mono D1.out.size); have hS2 : (∀ j, z2.cell? ⟨gI, j, none⟩ = (#[.int .i64 (q : Int), .int .i64 rd, .int .i64 (p : Int), .int .i64 r2, .int .i64 im] : Array Value)[j]?) ∧ (∀ j, z2.cell? ⟨gB, j, none⟩ = (#[.int .i64 (q : Int), .int .i64 rd, .int .i64 (p : Int), .int .i64 r2, .int .i64 im] : Array Value)[j]?) := ⟨(fun j => cell_of_row z2 gI j _ 24 (0, 0) ((D2.out.block _ ZI7.out).trans RI7.out)), (fun j => cell_of_row z2 gB j _ 24 (0, 0) ((D2.out.block _ ZB7.out).trans RB7.out))⟩; clear f2; clear hm)
        | (go_at_call 13; refine (implRegName_yes p p31 _ (HR.out.below (B7.out.trans (D2.out.mono B7.out.size)))).mono ?_; rintro e z3 ⟨rfl, f3⟩; have D3 : Hid (Below y7.heap.size y7 z3) := D2.out.trans (f3.mono D2.out.size); have hS3 : (∀ j, z3.cell? ⟨gI, j, none⟩ = (#[.int .i64 (q : Int), .int .i64 rd, .int .i64 (p : Int), .int .i64 r2, .int .i64 im] : Array Value)[j]?) ∧ (∀ j, z3.cell? ⟨gB, j, none⟩ = (#[.int .i64 (q : Int), .int .i64 rd, .int .i64 (p : Int), .int .i64 r2, .int .i64 im] : Array Value)[j]?) := ⟨(fun j => cell_of_row z3 gI j _ 24 (0, 0) ((D3.out.block _ ZI7.out).trans RI7.out)), (fun j => cell_of_row z3 gB j _ 24 (0, 0) ((D3.out.block _ ZB7.out).trans RB7.out))⟩; clear f3)
        | (go_at_call 12; refine (implRegNumber_any _ hrn _ (HR.out.below (B7.out.trans (D3.out.mono B7.out.size)))).mono ?_; rintro e z4 ⟨m4, rfl, hm4, f4⟩; obtain rfl : m4 = (p : Int) := IsReg.uniq hm4 hreg; have D4 : Hid (Below y7.heap.size y7 z4) := D3.out.trans (f4.mono D3.out.size); have hS4 : (∀ j, z4.cell? ⟨gI, j, none⟩ = (#[.int .i64 (q : Int), .int .i64 rd, .int .i64 (p : Int), .int .i64 r2, .int .i64 im] : Array Value)[j]?) ∧ (∀ j, z4.cell? ⟨gB, j, none⟩ = (#[.int .i64 (q : Int), .int .i64 rd, .int .i64 (p : Int), .int .i64 r2, .int .i64 im] : Array Value)[j]?) := ⟨(fun j => cell_of_row z4 gI j _ 24 (0, 0) ((D4.out.block _ ZI7.out).trans RI7.out)), (fun j => cell_of_row z4 gB j _ 24 (0, 0) ((D4.out.block _ ZB7.out).trans RB7.out))⟩; clear f4; clear hm4))
      all_goals
        go_wp2_with fail
        go_meet
        exact ⟨rfl, D4.out⟩
    case rest =>
      obtain ⟨rfl, d8⟩ := hcut
      go_wp2_with fail
      go_meet
      exact B7.out.trans (d8.mono B7.out.size)
  case rest =>
  obtain ⟨y10, hy10⟩ : ∃ u : World, u = wc := ⟨wc, rfl⟩
  rw [← hy10] at hcut ⊢
  have B10 : Hid (Below w.heap.size w y10) := hcut
  clear hcut hy10 B5 RI5 ZI5 HW HO
  go_wp2_with fail
  refine (drawDec_any y10 a0 len0 cap0 (HI.out.below B10.out)).mono ?_
  rintro e y11 ⟨n, rfl, d11⟩
  have B11 : Hid (Below w.heap.size w y11) := B10.out.trans (d11.mono B10.out.size)
  clear d11  B10
  have hdv : Pl.decV n = #[.int .i64 (Pl.dec n : Int), .int .i64 (Pl.dRd n), .int .i64 (Pl.dR1 n), .int .i64 (Pl.dR2 n), .int .i64 (Pl.dIm n)] := rfl
  obtain ⟨d0, hd0⟩ : ∃ x : Int, x = (Pl.dec n : Int) := ⟨_, rfl⟩
  obtain ⟨d1, hd1⟩ : ∃ x, x = Pl.dRd n := ⟨_, rfl⟩
  obtain ⟨d2, hd2⟩ : ∃ x, x = Pl.dR1 n := ⟨_, rfl⟩
  obtain ⟨d3, hd3⟩ : ∃ x, x = Pl.dR2 n := ⟨_, rfl⟩
  obtain ⟨d4, hd4⟩ : ∃ x, x = Pl.dIm n := ⟨_, rfl⟩
  obtain ⟨sh, hsh⟩ : ∃ x, x = (Pl.dec n != 0) := ⟨_, rfl⟩
  rw [← hd0, ← hd1, ← hd2, ← hd3, ← hd4] at hdv
  have HV : Hid (Pl.decV n = #[.int .i64 d0, .int .i64 d1, .int .i64 d2, .int .i64 d3, .int .i64 d4]) := hdv
  have HSH : Hid (sh = (Pl.dec n != 0)) := hsh
  have HE : Hid (sh = true → iok d0 d1 d2 d3 d4 = true ∧ ew d0 d1 d2 d3 d4 = n) := fun ht => by
    have hne : Pl.dec n ≠ 0 := by rw [hsh] at ht; simpa using ht
    obtain ⟨c1, c2, c3, c4⟩ := Pl.enc_dec hne
    have hi : iok d0 d1 d2 d3 d4 = true := by
      rw [hd0, hd1, hd2, hd3, hd4]
      unfold iok
      rw [decide_eq_true (by omega), Bool.true_and, Int.toNat_natCast]
      exact c3
    refine ⟨hi, ?_⟩
    unfold ew
    rw [hi, hd0, hd1, hd2, hd3, hd4, Int.toNat_natCast]
    exact c4
  clear hdv hd0 hd1 hd2 hd3 hd4 hsh
  go_wp2_with fail
  refine (specDec_any n y11).mono ?_
  rintro e y12 ⟨rfl, d12⟩
  rw [HV.out, ← HSH.out]
  have B12 : Hid (Below w.heap.size w y12) := B11.out.trans (d12.mono B11.out.size)
  clear d12  B11
  go_wp2_with (refine wpList_store_row rfl 24 _ _ rfl (y12.heap.size) #[.int .i64 d0, .int .i64 d1, .int .i64 d2, .int .i64 d3, .int .i64 d4] ?hx ?hy 24 #[.int .i64 0, .int .i64 0, .int .i64 0, .int .i64 0, .int .i64 0] ?hg ?hi ?ho ?h1 ?_; (case hx => rfl); (case hy => rfl); (case hg => exact heap_alloc_new y12 _); (case hi => kernel_rfl); (case ho => kernel_rfl); (case h1 => kernel_rfl); refine Hid.out ?_)
  unfold Hid
  rw [World.setRow_alloc_new]
  refine wpList_at fun y13 hy13 => ?_
  have d13 : Below y12.heap.size y12 y13 := by rw [hy13]; exact below_alloc y12 _
  have RM13 : Hid (y13.heap[y12.heap.size]? = some (.cells #[.int .i64 d0, .int .i64 d1, .int .i64 d2, .int .i64 d3, .int .i64 d4] 24)) := by show y13.heap[y12.heap.size]? = _; rw [hy13]; exact heap_alloc_new y12 _
  have ZM13 : Hid (y12.heap.size < y13.heap.size) := by show y12.heap.size < y13.heap.size; rw [hy13]; simp
  clear hy13
  have B13 : Hid (Below w.heap.size w y13) := B12.out.trans (d13.mono B12.out.size)
  clear d13  B12
  obtain ⟨gM, hgM⟩ : ∃ g, g = y12.heap.size := ⟨_, rfl⟩
  rw [← hgM] at RM13 ZM13 ⊢
  clear hgM
  go_wp2_with fail
  refine (implDec_any n y13).mono ?_
  rintro e y14 ⟨rfl, d14⟩
  rw [HV.out, ← HSH.out]
  have RM14 : Hid (y14.heap[gM]? = some (.cells #[.int .i64 d0, .int .i64 d1, .int .i64 d2, .int .i64 d3, .int .i64 d4] 24)) := (d14.block _ ZM13.out).trans RM13.out
  have ZM14 : Hid (gM < y14.heap.size) := Nat.lt_of_lt_of_le ZM13.out d14.size
  have B14 : Hid (Below w.heap.size w y14) := B13.out.trans (d14.mono B13.out.size)
  clear d14 RM13 ZM13 B13
  go_wp2_with (refine wpList_store_row rfl 24 _ _ rfl (y14.heap.size) #[.int .i64 d0, .int .i64 d1, .int .i64 d2, .int .i64 d3, .int .i64 d4] ?hx ?hy 24 #[.int .i64 0, .int .i64 0, .int .i64 0, .int .i64 0, .int .i64 0] ?hg ?hi ?ho ?h1 ?_; (case hx => rfl); (case hy => rfl); (case hg => exact heap_alloc_new y14 _); (case hi => kernel_rfl); (case ho => kernel_rfl); (case h1 => kernel_rfl); refine Hid.out ?_)
  unfold Hid
  rw [World.setRow_alloc_new]
  refine wpList_at fun y15 hy15 => ?_
  have d15 : Below y14.heap.size y14 y15 := by rw [hy15]; exact below_alloc y14 _
  have RG15 : Hid (y15.heap[y14.heap.size]? = some (.cells #[.int .i64 d0, .int .i64 d1, .int .i64 d2, .int .i64 d3, .int .i64 d4] 24)) := by show y15.heap[y14.heap.size]? = _; rw [hy15]; exact heap_alloc_new y14 _
  have ZG15 : Hid (y14.heap.size < y15.heap.size) := by show y14.heap.size < y15.heap.size; rw [hy15]; simp
  clear hy15
  have RM15 : Hid (y15.heap[gM]? = some (.cells #[.int .i64 d0, .int .i64 d1, .int .i64 d2, .int .i64 d3, .int .i64 d4] 24)) := (d15.block _ ZM14.out).trans RM14.out
  have ZM15 : Hid (gM < y15.heap.size) := Nat.lt_of_lt_of_le ZM14.out d15.size
  have B15 : Hid (Below w.heap.size w y15) := B14.out.trans (d15.mono B14.out.size)
  clear d15 RM14 ZM14 B14
  obtain ⟨gG, hgG⟩ : ∃ g, g = y14.heap.size := ⟨_, rfl⟩
  rw [← hgG] at RG15 ZG15 ⊢
  clear hgG
  have km : ∀ j, y15.cell? ⟨gM, j, none⟩ = (#[.int .i64 d0, .int .i64 d1, .int .i64 d2, .int .i64 d3, .int .i64 d4] : Array Value)[j]? := fun j => cell_of_row y15 gM j _ 24 (0, 0) RM15.out
  have kg : ∀ j, y15.cell? ⟨gG, j, none⟩ = (#[.int .i64 d0, .int .i64 d1, .int .i64 d2, .int .i64 d3, .int .i64 d4] : Array Value)[j]? := fun j => cell_of_row y15 gG j _ 24 (0, 0) RG15.out
  go_upto_region 17 with fail
  clear km kg
  go_wp2_with (refine wpList_load_row rfl 24 _ rfl (gG) ?hx 24 #[.int .i64 d0, .int .i64 d1, .int .i64 d2, .int .i64 d3, .int .i64 d4] (0, 0) _ ?hg Tryd.underlying24 ?hd ?hi ?_; (case hx => rfl); (case hg => exact RG15.out); (case hd => rfl); (case hi => kernel_rfl))
  refine (implEnc_all d0 d1 d2 d3 d4 y15).mono ?_
  rintro e y16 ⟨rfl, d16⟩
  have RM16 : Hid (y16.heap[gM]? = some (.cells #[.int .i64 d0, .int .i64 d1, .int .i64 d2, .int .i64 d3, .int .i64 d4] 24)) := (d16.block _ ZM15.out).trans RM15.out
  have ZM16 : Hid (gM < y16.heap.size) := Nat.lt_of_lt_of_le ZM15.out d16.size
  have RG16 : Hid (y16.heap[gG]? = some (.cells #[.int .i64 d0, .int .i64 d1, .int .i64 d2, .int .i64 d3, .int .i64 d4] 24)) := (d16.block _ ZG15.out).trans RG15.out
  have ZG16 : Hid (gG < y16.heap.size) := Nat.lt_of_lt_of_le ZG15.out d16.size
  have B16 : Hid (Below w.heap.size w y16) := B15.out.trans (d16.mono B15.out.size)
  clear d16 RM15 ZM15 RG15 ZG15 B15
  cases sh
  · go_wp2
    go_ret
    exact ⟨rfl, B16.out⟩
  · obtain ⟨j1, j2⟩ := HE.out rfl
    rw [j1, j2]
    clear j1 j2
    go_wp2
    go_ret
    exact ⟨rfl, B16.out⟩
end Go.Proofs.YtomhmjhcbencmaaDoor.W
