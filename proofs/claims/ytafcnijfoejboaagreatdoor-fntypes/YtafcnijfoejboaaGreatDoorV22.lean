import Derived.Test.YtafcnijfoejboaaGreatDoorV07
import Derived.Test.YtafcnijfoejboaaGreatDoorV21
set_option linter.unusedVariables false
set_option linter.unusedSimpArgs false
namespace Go.Proofs.YtafcnijfoejboaaGreatDoor.W
open Go.RowKit
theorem lay_of {len : Nat} {xs : List Pl.Ty} {i : Int} (h : ¬ (Pl.layP len xs i).1 = 0) : TOk len xs ∧ (0 ≤ i ∧ i < len) ∧ Pl.Lay xs i.toNat (Pl.layP len xs i).1 (Pl.layP len xs i).2 := by
  by_cases q : (TOk len xs ∧ 0 ≤ i ∧ i < len) ∧ ∃ p : Int × Int, Pl.Lay xs i.toNat p.1 p.2
  · obtain ⟨⟨ho, hi⟩, ⟨p1, p2⟩, hp⟩ := q
    have e := Pl.layP_of (i := i.toNat) ho (by omega) hp
    rw [Int.toNat_of_nonneg hi.1] at e
    rw [e]
    exact ⟨ho, hi, hp⟩
  · rw [Pl.layP_no q] at h
    exact absurd rfl h
set_option maxRecDepth 8000 in
set_option maxHeartbeats 16000000 in
theorem fnTypes_walk (a0 : Option Addr) (len0 cap0 : Nat) (w : World) (h0 : IsBytes w a0 len0 cap0) (hE : Errs w) :
    Calls Tryz.prog 3 #[.slice a0 len0 cap0] w fun e w' => e = .returned (.bool true) ∧ Below w.heap.size w w' := by
  have HI : Hid (IsBytes w a0 len0 cap0) := h0
  have HE : Hid (Errs w) := hE
  clear h0 hE
  by_cases hb0 : 1048576 < len0
  · have e0 : decide (1048576 < (len0 : Int)) = true := by simp; omega
    go_enter Tryz.func3, Tryz.ntmps3
    go_wp2
    go_ret
    exact ⟨rfl, Below.refl _ _⟩
  have e0 : decide (1048576 < (len0 : Int)) = false := by simp; omega
  clear hb0
  go_enter Tryz.func3, Tryz.ntmps3
  go_wp2_with fail
  refine (drawSize_any _ a0 len0 cap0 HI.out).mono ?_
  rintro e u1 ⟨v, n, i, rfl, hn0, hn, hi, hD, d1⟩
  obtain ⟨b, cp, xs, rfl, hT, hsm⟩ := hD
  have SM : Hid (∀ i, i < n → ∀ j, j < (xs.getD i Pl.Ty.zero).names.length → ((xs.getD i Pl.Ty.zero).names.getD j ⟨#[]⟩).size ≤ 1048576) := hsm
  have HXL : Hid (xs.length = n) := hT.1
  have D1 : Hid (Below w.heap.size w u1) := d1
  have T1 : Hid (TRow w.heap.size u1 b n cp xs) := hT
  have E1 : Hid (Errs u1) := HE.out.keep d1
  clear hsm hT d1 HI HE
  obtain ⟨sz, hsz⟩ : ∃ sz, sz = (Pl.layP n xs i).1 := ⟨_, rfl⟩
  obtain ⟨al, hal⟩ : ∃ al, al = (Pl.layP n xs i).2 := ⟨_, rfl⟩
  obtain ⟨bb, hbb⟩ : ∃ bb, bb = Pl.dec (TOk n xs) := ⟨_, rfl⟩
  have HS : Hid ((Pl.layP n xs i).1 = sz ∧ (Pl.layP n xs i).2 = al ∧ Pl.dec (TOk n xs) = bb) := ⟨hsz.symm, hal.symm, hbb.symm⟩
  have hne : (bb != bb) = false := by cases bb <;> rfl
  clear hsz hal hbb
  go_wp2_with fail
  refine (implSizeOf _ n cp xs i u1 T1.out E1.out SM.out).mono ?_
  rintro e u2 ⟨rfl, d2⟩
  have D2 : Hid (Below w.heap.size w u2) := D1.out.trans (d2.mono D1.out.size)
  have T2 : Hid (TRow w.heap.size u2 b n cp xs) := T1.out.keep d2
  have E2 : Hid (Errs u2) := E1.out.keep d2
  clear d2 D1 T1 E1
  rw [HS.out.1]
  go_wp2_with fail
  refine (implAlignOf _ n cp xs i u2 T2.out E2.out SM.out).mono ?_
  rintro e u3 ⟨rfl, d3⟩
  have D3 : Hid (Below w.heap.size w u3) := D2.out.trans (d3.mono D2.out.size)
  have T3 : Hid (TRow w.heap.size u3 b n cp xs) := T2.out.keep d3
  have E3 : Hid (Errs u3) := E2.out.keep d3
  clear d3 D2 T2 E2
  rw [HS.out.2.1]
  go_wp2_with fail
  refine (specSizeOf _ n cp xs i u3 T3.out).mono ?_
  rintro e u4 ⟨rfl, d4⟩
  have D4 : Hid (Below w.heap.size w u4) := D3.out.trans (d4.mono D3.out.size)
  have T4 : Hid (TRow w.heap.size u4 b n cp xs) := T3.out.keep d4
  have E4 : Hid (Errs u4) := E3.out.keep d4
  clear d4 D3 T3 E3
  rw [HS.out.1]
  go_wp2_with fail
  refine (specAlignOf _ n cp xs i u4 T4.out).mono ?_
  rintro e u5 ⟨rfl, d5⟩
  have D5 : Hid (Below w.heap.size w u5) := D4.out.trans (d5.mono D4.out.size)
  have T5 : Hid (TRow w.heap.size u5 b n cp xs) := T4.out.keep d5
  have E5 : Hid (Errs u5) := E4.out.keep d5
  clear d5 D4 T4 E4
  rw [HS.out.2.1]
  go_wp2_with fail
  refine (implTypesOk _ n cp xs u5 T5.out E5.out SM.out).mono ?_
  rintro e u6 ⟨rfl, d6⟩
  have D6 : Hid (Below w.heap.size w u6) := D5.out.trans (d6.mono D5.out.size)
  have T6 : Hid (TRow w.heap.size u6 b n cp xs) := T5.out.keep d6
  have E6 : Hid (Errs u6) := E5.out.keep d6
  clear d6 D5 T5 E5
  rw [HS.out.2.2]
  go_wp2_with fail
  refine (specTypesOk _ n cp xs u6 T6.out).mono ?_
  rintro e u7 ⟨rfl, d7⟩
  have D7 : Hid (Below w.heap.size w u7) := D6.out.trans (d7.mono D6.out.size)
  have T7 : Hid (TRow w.heap.size u7 b n cp xs) := T6.out.keep d7
  have E7 : Hid (Errs u7) := E6.out.keep d7
  clear d7 D6 T6 E6
  rw [HS.out.2.2]
  by_cases hz : sz = 0
  · subst hz
    go_wp2_with fail
    go_ret
    exact ⟨rfl, D7.out⟩
  have hz1 : (sz == 0) = false := by rw [beq_eq_false_iff_ne]; exact hz
  by_cases hbig : 60000 < sz
  · go_wp2_with fail
    go_ret
    exact ⟨rfl, D7.out⟩
  obtain ⟨hok, hij, hLay⟩ := lay_of (len := n) (xs := xs) (i := i) (by rw [HS.out.1]; exact hz)
  rw [HS.out.1, HS.out.2.1] at hLay
  obtain ⟨j, rfl⟩ : ∃ j : Nat, i = j := ⟨i.toNat, by omega⟩
  rw [Int.toNat_natCast] at hLay
  have hj : j < n := by omega
  have hjj : (j : Int) < (n : Int) := by omega
  have hn9 : ∀ i, (xs.getD i Pl.Ty.zero).k = 9 → 1 ≤ (xs.getD i Pl.Ty.zero).n := fun i h9 => (arrs_of HXL.out hok i h9).1.1
  have hnb := Pl.Lay.nb hn9 hLay
  have hal : 1 ≤ al ∧ al ≤ 4 := hnb.2
  have hsz : 0 ≤ sz := hnb.1.1
  have hmod : sz.tmod al = 0 := Pl.Lay.mod hn9 hLay (by omega)
  have hal0 : ¬ al = 0 := by omega
  have hal1 : (al == 0) = false := by rw [beq_eq_false_iff_ne]; exact hal0
  have HF : Hid (∀ p, p < (xs.getD j Pl.Ty.zero).names.length → ∀ o t b, Pl.FieldIs n xs j ((xs.getD j Pl.Ty.zero).names.getD p ⟨#[]⟩) o t b → b = true ∧ p < (xs.getD j Pl.Ty.zero).of.length ∧ t = (xs.getD j Pl.Ty.zero).of.getD p 0 ∧ o + (Pl.layP n xs t).1 = Pl.endOf n xs j (p + 1) ∧ Pl.nb (Pl.layP n xs t) ∧ o.tmod (Pl.layP n xs t).2 = 0 ∧ 0 ≤ o ∧ o + (Pl.layP n xs t).1 ≤ sz ∧ ((xs.getD j Pl.Ty.zero).k = 11 → o = 0) ∧ ((xs.getD j Pl.Ty.zero).k = 10 → Pl.endOf n xs j p ≤ o)) := fun p hp o t b h => Pl.field_facts HXL.out hok hj hLay (by omega) hp h
  have hnl9 : (xs.getD j Pl.Ty.zero).names.length ≤ (xs.getD j Pl.Ty.zero).of.length ∧ (xs.getD j Pl.Ty.zero).names.length ≤ 1000000 := by
    have hf := hok.2.1 j hj
    cases ht : Pl.tagd (xs.getD j Pl.Ty.zero).k
    · have := Pl.names_none hf ht; omega
    · have := Pl.names_of hf ht; omega
  clear hnb hLay hn9 hok hij
  obtain ⟨tb, off, v, s, rfl, hlo, hb1, hc, hrow, hs⟩ := T7.out.at hj
  have hnn : s.len = (xs.getD j Pl.Ty.zero).names.length := hs.1.1.symm
  have hvv : v.len = (xs.getD j Pl.Ty.zero).of.length := hrow.1.symm
  generalize hx9 : xs.getD j Pl.Ty.zero = x at HF hc hrow hs hnn hvv hnl9
  clear hx9
  obtain ⟨kk, nn, zs, nms⟩ := x
  simp only at HF hrow hs hnn hvv hnl9
  obtain ⟨c0, c1, c2, c3⟩ := ty_cells hc
  obtain ⟨va, vl, vc⟩ := v
  obtain ⟨sa, sl, sc⟩ := s
  simp only at c0 c1 c2 c3 hrow hs hnn hvv
  subst hnn
  have HRW : Hid (Row .i64 w.heap.size u7 va vl vc zs) := hrow
  have HSW : Hid (SRow w.heap.size u7 sa nms.length sc nms) := hs
  have hsl : (nms.length : Int) ≤ 1000000 := by omega
  have hvl : (vl : Int) ≤ 9223372036854775807 := by have := hrow.small; omega
  have hsv : (nms.length : Int) ≤ (vl : Int) := by omega
  clear hc hrow hs hlo hvv
  have hrem : ∀ (w : World), (binOp .rem 3 (.int .i64 sz) (.int .i64 al)).run Tryz.prog w = .ok (.int .i64 0) w := fun w => by simp [go_sem, hal0, hmod]
  have hmn : (n : Int) ≤ 9223372036854775807 := by omega
  have HW0 : Hid (Below w.heap.size w (u7.alloc (.cells #[.int .i64 kk, .int .i64 nn, .slice va vl vc, .slice sa nms.length sc] 31)) ∧ Below u7.heap.size u7 (u7.alloc (.cells #[.int .i64 kk, .int .i64 nn, .slice va vl vc, .slice sa nms.length sc] 31)) ∧ (u7.alloc (.cells #[.int .i64 kk, .int .i64 nn, .slice va vl vc, .slice sa nms.length sc] 31)).heap[u7.heap.size]? = some (.cells #[.int .i64 kk, .int .i64 nn, .slice va vl vc, .slice sa nms.length sc] 31 (0, 0))) := ⟨D7.out.trans ((below_alloc u7 _).mono D7.out.size), below_alloc u7 _, heap_alloc_new u7 _⟩
  go_wp2_with fail
  go_loopw [7, 9] (fun e t wr => ∃ p : Nat, p ≤ nms.length ∧ t = .int .i64 p ∧ e = .int .i64 (Pl.endOf n xs j p) ∧ Hid (Below w.heap.size w wr ∧ Below u7.heap.size u7 wr ∧ wr.heap[u7.heap.size]? = some (.cells #[.int .i64 kk, .int .i64 nn, .slice va vl vc, .slice sa nms.length sc] 31 (0, 0)))) (fun _ t _ => nms.length - (intOf t).toNat)
  case atStart => exact ⟨0, Nat.zero_le _, rfl, rfl, HW0.out⟩
  case round =>
    clear HW0
    obtain ⟨p, hpm, rfl, rfl, S⟩ := hrel
    have k0 : wr.cell? ⟨u7.heap.size, 0, none⟩ = some (.int .i64 kk) := by rw [cell_of_row wr _ 0 _ _ _ S.out.2.2]; rfl
    have k2 : wr.cell? ⟨u7.heap.size, 2, none⟩ = some (.slice va vl vc) := by rw [cell_of_row wr _ 2 _ _ _ S.out.2.2]; rfl
    have k3 : wr.cell? ⟨u7.heap.size, 3, none⟩ = some (.slice sa nms.length sc) := by rw [cell_of_row wr _ 3 _ _ _ S.out.2.2]; rfl
    by_cases hlt : p < nms.length
    · have hpi : (p : Int) < (nms.length : Int) := by omega
      obtain ⟨b3, o3, rfl, _, hb3, q0, _⟩ := (HSW.out.keep S.out.2.1).at hlt
      obtain ⟨b2, o2, rfl, _, hb2, hcp⟩ := ((HRW.out.keep S.out.2.1).2.2.2.2).resolve_left (by omega)
      have k1 := hcp p (by omega)
      clear hcp
      have hpv : (p : Int) < (vl : Int) := by omega
      obtain ⟨n1, hn1⟩ : ∃ n1, n1 = nms.getD p ⟨#[]⟩ := ⟨_, rfl⟩
      obtain ⟨t1, ht1⟩ : ∃ t1, t1 = zs.getD p 0 := ⟨_, rfl⟩
      rw [← hn1] at q0
      rw [← ht1] at k1
      have HV : Hid (n1 = nms.getD p ⟨#[]⟩ ∧ t1 = zs.getD p 0) := ⟨hn1, ht1⟩
      obtain ⟨ee, hee⟩ : ∃ ee, ee = Pl.endOf n xs j p := ⟨_, rfl⟩
      have HEE : Hid (Pl.endOf n xs j p = ee) := hee.symm
      rw [← hee]
      have hbx : u7.heap.size < wr.heap.size := (Array.getElem?_eq_some_iff.1 S.out.2.2).1
      clear hn1 ht1 hee
      go_wp2_with fail
      refine (implFieldOf _ n cp xs j n1 wr (T7.out.keep S.out.2.1) (E7.out.keep S.out.2.1) SM.out).mono ?_
      rintro e u8 ⟨o, t, d, rfl, hF, d8⟩
      obtain ⟨f1, f2, f3, f4, f5, f6, f7, f8, f9, f10⟩ := HF.out p hlt o t _ (by rw [← HV.out.1]; exact hF)
      rw [f1]
      obtain rfl : t = t1 := f3.trans HV.out.2.symm
      rw [HEE.out] at f10
      obtain ⟨ps, hps⟩ : ∃ ps, ps = (Pl.layP n xs t).1 := ⟨_, rfl⟩
      obtain ⟨pa, hpa⟩ : ∃ pa, pa = (Pl.layP n xs t).2 := ⟨_, rfl⟩
      have HPS : Hid ((Pl.layP n xs t).1 = ps ∧ (Pl.layP n xs t).2 = pa) := ⟨hps.symm, hpa.symm⟩
      have hnb8 : (0 ≤ ps ∧ ps ≤ 60001) ∧ (1 ≤ pa ∧ pa ≤ 4) := by rw [hps, hpa]; exact f5
      rw [← hps] at f4 f8
      rw [← hpa] at f6
      have hpa0 : ¬ pa = 0 := by omega
      have hpa1 : (pa == 0) = false := by rw [beq_eq_false_iff_ne]; exact hpa0
      have hrem2 : ∀ (w : World), (binOp .rem 3 (.int .i64 o) (.int .i64 pa)).run Tryz.prog w = .ok (.int .i64 0) w := fun w => by simp [go_sem, hpa0, f6]
      have hwo : IntKind.i64.wrap (o + ps) = o + ps := by rw [IntKind.wrap_i64]; omega
      have hgt : ¬ (sz < o + ps) := by omega
      have H4 : Hid (o + ps = Pl.endOf n xs j (p + 1)) := f4
      have H9 : Hid ((kk = 11 → o = 0) ∧ (kk = 10 → ee ≤ o)) := ⟨f9, f10⟩
      have k0' := (d8.cell (p := ⟨u7.heap.size, 0, none⟩) hbx).trans k0
      have k2' := (d8.cell (p := ⟨u7.heap.size, 2, none⟩) hbx).trans k2
      have k1' := (d8.cell (p := ⟨b2, o2 + p, none⟩) hb2).trans k1
      have D8 : Hid (Below w.heap.size w u8 ∧ Below u7.heap.size u7 u8 ∧ u8.heap[u7.heap.size]? = some (.cells #[.int .i64 kk, .int .i64 nn, .slice (some ⟨b2, o2, none⟩) vl vc, .slice (some ⟨b3, o3, none⟩) nms.length sc] 31 (0, 0))) := ⟨S.out.1.trans (d8.mono S.out.1.size), S.out.2.1.trans (d8.mono S.out.2.1.size), (d8.block _ hbx).trans S.out.2.2⟩
      clear f1 f2 f3 f4 f5 f8 f9 f10 hF hps hpa d8 k0 k1 k2 k3 q0 S HV HEE
      go_wp2_with fail
      refine (implAlignOf _ n cp xs t u8 (T7.out.keep D8.out.2.1) (E7.out.keep D8.out.2.1) SM.out).mono ?_
      rintro e u9 ⟨rfl, d9⟩
      have hbx9 : u7.heap.size < u8.heap.size := (Array.getElem?_eq_some_iff.1 D8.out.2.2).1
      have D9 : Hid (Below w.heap.size w u9 ∧ Below u7.heap.size u7 u9 ∧ u9.heap[u7.heap.size]? = some (.cells #[.int .i64 kk, .int .i64 nn, .slice (some ⟨b2, o2, none⟩) vl vc, .slice (some ⟨b3, o3, none⟩) nms.length sc] 31 (0, 0))) := ⟨D8.out.1.trans (d9.mono D8.out.1.size), D8.out.2.1.trans (d9.mono D8.out.2.1.size), (d9.block _ hbx9).trans D8.out.2.2⟩
      clear d9 hbx9 D8
      rw [HPS.out.2]
      clear k0' k1' k2'
      go_wp2_with fail
      refine (implSizeOf _ n cp xs t u9 (T7.out.keep D9.out.2.1) (E7.out.keep D9.out.2.1) SM.out).mono ?_
      rintro e u10 ⟨rfl, d10⟩
      have hbx10 : u7.heap.size < u9.heap.size := (Array.getElem?_eq_some_iff.1 D9.out.2.2).1
      have D10 : Hid (Below w.heap.size w u10 ∧ Below u7.heap.size u7 u10 ∧ u10.heap[u7.heap.size]? = some (.cells #[.int .i64 kk, .int .i64 nn, .slice (some ⟨b2, o2, none⟩) vl vc, .slice (some ⟨b3, o3, none⟩) nms.length sc] 31 (0, 0))) := ⟨D9.out.1.trans (d10.mono D9.out.1.size), D9.out.2.1.trans (d10.mono D9.out.2.1.size), (d10.block _ hbx10).trans D9.out.2.2⟩
      clear d10 hbx10 D9
      rw [HPS.out.1]
      have k0 : u10.cell? ⟨u7.heap.size, 0, none⟩ = some (.int .i64 kk) := by rw [cell_of_row u10 _ 0 _ _ _ D10.out.2.2]; rfl
      by_cases h11 : kk = 11
      · have e11 : (kk == 11) = true := by rw [h11]; rfl
        have e10 : (kk == 10) = false := by rw [h11]; rfl
        have ho1 : (o == 0) = true := by rw [H9.out.1 h11]; rfl
        have ho2 : (o != 0) = false := by rw [H9.out.1 h11]; rfl
        clear h11
        go_wp2_with fail
        refine (implSizeOf _ n cp xs t u10 (T7.out.keep D10.out.2.1) (E7.out.keep D10.out.2.1) SM.out).mono ?_
        rintro e u11 ⟨rfl, d11⟩
        have hbx11 : u7.heap.size < u10.heap.size := (Array.getElem?_eq_some_iff.1 D10.out.2.2).1
        have D11 : Hid (Below w.heap.size w u11 ∧ Below u7.heap.size u7 u11 ∧ u11.heap[u7.heap.size]? = some (.cells #[.int .i64 kk, .int .i64 nn, .slice (some ⟨b2, o2, none⟩) vl vc, .slice (some ⟨b3, o3, none⟩) nms.length sc] 31 (0, 0))) := ⟨D10.out.1.trans (d11.mono D10.out.1.size), D10.out.2.1.trans (d11.mono D10.out.2.1.size), (d11.block _ hbx11).trans D10.out.2.2⟩
        clear d11 hbx11 D10
        rw [HPS.out.1]
        go_wp2_with fail
        go_roundw
        case rel => exact ⟨p + 1, by omega, by go_num, by rw [← H4.out], D11.out⟩
        case measure => simp [intOf]; omega
      have e11 : (kk == 11) = false := by rw [beq_eq_false_iff_ne]; exact h11
      by_cases h10 : kk = 10
      · have e10 : (kk == 10) = true := by rw [h10]; rfl
        have hoe : ¬ (o < ee) := by have := H9.out.2 h10; omega
        clear h10 h11
        go_wp2_with fail
        refine (implSizeOf _ n cp xs t u10 (T7.out.keep D10.out.2.1) (E7.out.keep D10.out.2.1) SM.out).mono ?_
        rintro e u11 ⟨rfl, d11⟩
        have hbx11 : u7.heap.size < u10.heap.size := (Array.getElem?_eq_some_iff.1 D10.out.2.2).1
        have D11 : Hid (Below w.heap.size w u11 ∧ Below u7.heap.size u7 u11 ∧ u11.heap[u7.heap.size]? = some (.cells #[.int .i64 kk, .int .i64 nn, .slice (some ⟨b2, o2, none⟩) vl vc, .slice (some ⟨b3, o3, none⟩) nms.length sc] 31 (0, 0))) := ⟨D10.out.1.trans (d11.mono D10.out.1.size), D10.out.2.1.trans (d11.mono D10.out.2.1.size), (d11.block _ hbx11).trans D10.out.2.2⟩
        clear d11 hbx11 D10
        rw [HPS.out.1]
        go_wp2_with fail
        go_roundw
        case rel => exact ⟨p + 1, by omega, by go_num, by rw [← H4.out], D11.out⟩
        case measure => simp [intOf]; omega
      · have e10 : (kk == 10) = false := by rw [beq_eq_false_iff_ne]; exact h10
        clear h10 h11
        go_wp2_with fail
        refine (implSizeOf _ n cp xs t u10 (T7.out.keep D10.out.2.1) (E7.out.keep D10.out.2.1) SM.out).mono ?_
        rintro e u11 ⟨rfl, d11⟩
        have hbx11 : u7.heap.size < u10.heap.size := (Array.getElem?_eq_some_iff.1 D10.out.2.2).1
        have D11 : Hid (Below w.heap.size w u11 ∧ Below u7.heap.size u7 u11 ∧ u11.heap[u7.heap.size]? = some (.cells #[.int .i64 kk, .int .i64 nn, .slice (some ⟨b2, o2, none⟩) vl vc, .slice (some ⟨b3, o3, none⟩) nms.length sc] 31 (0, 0))) := ⟨D10.out.1.trans (d11.mono D10.out.1.size), D10.out.2.1.trans (d11.mono D10.out.2.1.size), (d11.block _ hbx11).trans D10.out.2.2⟩
        clear d11 hbx11 D10
        rw [HPS.out.1]
        go_wp2_with fail
        go_roundw
        case rel => exact ⟨p + 1, by omega, by go_num, by rw [← H4.out], D11.out⟩
        case measure => simp [intOf]; omega
    · have hpi : ¬ ((p : Int) < (nms.length : Int)) := by omega
      go_wp2_with fail
      go_ret
      exact ⟨rfl, S.out.1⟩
end Go.Proofs.YtafcnijfoejboaaGreatDoor.W
