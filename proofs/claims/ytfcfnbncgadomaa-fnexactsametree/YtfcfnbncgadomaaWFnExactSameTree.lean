import Derived.Test.YtfcfnbncgadomaaTrF
import Derived.Deep.RegionHeld3
set_option linter.unusedVariables false
set_option linter.unusedSimpArgs false
namespace Go.Proofs.Ytfcfnbncgadomaa.W
open Go.RowKit
set_option maxRecDepth 8000 in
set_option maxHeartbeats 8000000 in
theorem fnExactSameTree_walk {lo lo2 : Nat} (a a' : Option Addr) (len cap len' cap' : Nat) (xs ys : List Pl.Nd) (w : World) (h : NRow lo w a len cap xs) (h' : NRow lo2 w a' len' cap' ys) :
    Calls Try.prog 4 #[.agg #[.slice a len cap], .agg #[.slice a' len' cap']] w fun e w' => e = .returned (.bool true) ∧ Below w.heap.size w w' := by
  have HR : Hid (NRow lo w a len cap xs) := h
  have HR' : Hid (NRow lo2 w a' len' cap' ys) := h'
  clear h h'
  go_enter Try.func4, Try.ntmps4
  go_wp2_with fail
  refine tr_at fun w0 hw0 => ?_
  have hb0 : Below w.heap.size w w0 := by rw [hw0]; exact (below_alloc _ _).alloc (by simp) _
  have hz0 : w.heap.size + 2 ≤ w0.heap.size := by rw [hw0]; simp
  have q0 : w0.heap[w.heap.size]? = some (.cells #[.slice a len cap] 38) := by
    rw [hw0, Below.heap_alloc _ _ _ (by simp)]
    exact heap_alloc_new w _
  have q1 : w0.heap[w.heap.size + 1]? = some (.cells #[.slice a' len' cap'] 38) := by
    rw [hw0]
    have := heap_alloc_new (w.alloc (.cells #[.slice a len cap] 38)) (.cells #[.slice a' len' cap'] 38)
    simpa using this
  clear hw0
  have K0 : Hid (∀ u : World, Below w0.heap.size w0 u → u.cell? ⟨w.heap.size, 0, none⟩ = some (.slice a len cap)) := fun u hu => (hu.cell (p := ⟨w.heap.size, 0, none⟩) (by show w.heap.size < w0.heap.size; omega)).trans (cell_of_row w0 w.heap.size 0 _ 38 (0, 0) q0)
  have K1 : Hid (∀ u : World, Below w0.heap.size w0 u → u.cell? ⟨w.heap.size + 1, 0, none⟩ = some (.slice a' len' cap')) := fun u hu => (hu.cell (p := ⟨w.heap.size + 1, 0, none⟩) (by show w.heap.size + 1 < w0.heap.size; omega)).trans (cell_of_row w0 (w.heap.size + 1) 0 _ 38 (0, 0) q1)
  have HA : Hid (∀ u : World, Below w0.heap.size w0 u → NRow lo u a len cap xs) := fun u hu => (HR.out.keep hb0).keep hu
  have HA' : Hid (∀ u : World, Below w0.heap.size w0 u → NRow lo2 u a' len' cap' ys) := fun u hu => (HR'.out.keep hb0).keep hu
  have HB : Hid (∀ u : World, Below w0.heap.size w0 u → Below w.heap.size w u) := fun u hu => hb0.trans (hu.mono (by omega))
  clear q0 q1 hb0 hz0 HR HR'
  refine (szTree_any a len cap xs 1048576 (by decide) w0 (HA.out w0 (Below.refl _ _))).mono ?_
  rintro e u1 ⟨r, rfl, hr, d1⟩
  have D1 : Hid (Below w0.heap.size w0 u1) := d1
  have HQ : Hid (0 ≤ r → r ≤ 1048576 ∧ len ≤ 1048576 ∧ ∀ i, i < len → (xs.getD i Pl.Nd.zero).kids.length ≤ 1048576) := hr
  clear hr d1
  by_cases hneg : r < 0
  · go_wp2
    go_ret
    exact ⟨rfl, HB.out _ D1.out⟩
  obtain ⟨hr1, hl1, hk1⟩ := HQ.out (by omega)
  have T : Hid (∀ u : World, Below w0.heap.size w0 u → Calls Try.prog 14 #[.agg #[.slice a len cap]] u fun e w' => ∃ b, e = .returned (.agg #[.slice (some ⟨b, 0, none⟩) len len]) ∧ NRow w0.heap.size w' (some ⟨b, 0, none⟩) len len xs ∧ Below w0.heap.size w0 w' ∧ ∀ z : World, Below z.heap.size z u → Below z.heap.size z w') := fun u hu => (toTree_any a len cap xs u (HA.out u hu) hl1 hk1).mono fun e w' ⟨b, he, hn, hd⟩ => ⟨b, he, hn.lower hu.size, hu.trans (hd.mono hu.size), fun z hz => hz.trans (hd.mono hz.size)⟩
  clear hl1 hk1 HQ
  have k1 := K1.out u1 D1.out
  go_wp2_with fail
  refine (szTree_any a' len' cap' ys r ⟨by omega, hr1⟩ u1 (HA'.out u1 D1.out)).mono ?_
  rintro e u2 ⟨r', rfl, hr', d2⟩
  have D2 : Hid (Below w0.heap.size w0 u2) := D1.out.trans (d2.mono D1.out.size)
  have HQ : Hid (0 ≤ r' → r' ≤ r ∧ len' ≤ 1048576 ∧ ∀ i, i < len' → (ys.getD i Pl.Nd.zero).kids.length ≤ 1048576) := hr'
  clear hr' d2 k1 D1
  by_cases hneg' : r' < 0
  · go_wp2
    go_ret
    exact ⟨rfl, HB.out _ D2.out⟩
  obtain ⟨hr2, hl2, hk2⟩ := HQ.out (by omega)
  have T' : Hid (∀ u : World, Below w0.heap.size w0 u → Calls Try.prog 14 #[.agg #[.slice a' len' cap']] u fun e w' => ∃ b, e = .returned (.agg #[.slice (some ⟨b, 0, none⟩) len' len']) ∧ NRow w0.heap.size w' (some ⟨b, 0, none⟩) len' len' ys ∧ Below w0.heap.size w0 w' ∧ ∀ z : World, Below z.heap.size z u → Below z.heap.size z w') := fun u hu => (toTree_any a' len' cap' ys u (HA'.out u hu) hl2 hk2).mono fun e w' ⟨b, he, hn, hd⟩ => ⟨b, he, hn.lower hu.size, hu.trans (hd.mono hu.size), fun z hz => hz.trans (hd.mono hz.size)⟩
  clear hl2 hk2 HQ hr1 hr2 hneg
  have k0 := K0.out u2 D2.out
  have k1 := K1.out u2 D2.out
  have SS : Hid (∀ (u : World) (a1 a2 : Option Addr), Below w0.heap.size w0 u → NRow w0.heap.size u a1 len len xs → NRow w0.heap.size u a2 len' len' ys → Calls Try.prog 13 #[.agg #[.slice a1 len len], .agg #[.slice a2 len' len']] u fun e w' => e = .returned (.bool (Pl.sameT xs ys)) ∧ Below w0.heap.size w0 w' ∧ ∀ z : World, Below z.heap.size z u → Below z.heap.size z w') := fun u a1 a2 hu h1 h2 => (specSame_any _ _ _ _ _ _ xs ys u h1 h2).mono fun e w' ⟨he, hd⟩ => ⟨he, hu.trans (hd.mono hu.size), fun z hz => hz.trans (hd.mono hz.size)⟩
  have SI : Hid (∀ (u : World) (a1 a2 : Option Addr), Below w0.heap.size w0 u → NRow w0.heap.size u a1 len len xs → NRow w0.heap.size u a2 len' len' ys → Calls Try.prog 15 #[.agg #[.slice a1 len len], .agg #[.slice a2 len' len']] u fun e w' => e = .returned (.bool (Pl.sameT xs ys)) ∧ Below w0.heap.size w0 w' ∧ ∀ z : World, Below z.heap.size z u → Below z.heap.size z w') := fun u a1 a2 hu h1 h2 => (implSame_any _ _ _ _ _ _ xs ys u h1 h2).mono fun e w' ⟨he, hd⟩ => ⟨he, hu.trans (hd.mono hu.size), fun z hz => hz.trans (hd.mono hz.size)⟩
  generalize Pl.sameT xs ys = R at *
  go_wp2_with fail
  go_region_held3 (fun u => u.cell? ⟨w.heap.size, 0, none⟩ = some (.slice a len cap) ∧ u.cell? ⟨w.heap.size + 1, 0, none⟩ = some (.slice a' len' cap')) (go_keep) (first | (go_at_call 13; refine (SS.out _ _ _ (by repeat (first | with_reducible exact D4.out | refine Below.drew ?_ | refine below_drewN ?_ _ | refine Below.alloc ?_ (by simp <;> omega) _)) (O4.out.keep (by repeat (first | with_reducible exact Below.refl _ _ | refine Below.drew ?_ | refine below_drewN ?_ _ | refine Below.alloc ?_ (by simp <;> omega) _))) (N4.out.keep (by repeat (first | with_reducible exact Below.refl _ _ | refine Below.drew ?_ | refine below_drewN ?_ _ | refine Below.alloc ?_ (by simp <;> omega) _)))).mono ?_; rintro e u5 ⟨rfl, d5, m5⟩; have D5 : Hid (Below w0.heap.size w0 u5) := d5; have k0 := K0.out u5 D5.out; have k1 := K1.out u5 D5.out; clear d5 m5) | (go_at_call 14; refine (T'.out _ (by repeat (first | with_reducible exact D3.out | refine Below.drew ?_ | refine below_drewN ?_ _ | refine Below.alloc ?_ (by simp <;> omega) _))).mono ?_; rintro e u4 ⟨b4, rfl, o4, d4, m4⟩; have D4 : Hid (Below w0.heap.size w0 u4) := d4; have N4 : Hid (NRow w0.heap.size u4 (some ⟨b4, 0, none⟩) len' len' ys) := o4; have O4 : Hid (NRow w0.heap.size u4 (some ⟨b3, 0, none⟩) len len xs) := O3.out.keep (m4 u3 (by repeat (first | with_reducible exact Below.refl _ _ | refine Below.drew ?_ | refine below_drewN ?_ _ | refine Below.alloc ?_ (by simp <;> omega) _))); have k0 := K0.out u4 D4.out; have k1 := K1.out u4 D4.out; clear d4 o4 m4) | (go_at_call 14; refine (T.out _ (by repeat (first | with_reducible exact D2.out | refine Below.drew ?_ | refine below_drewN ?_ _ | refine Below.alloc ?_ (by simp <;> omega) _))).mono ?_; rintro e u3 ⟨b3, rfl, o3, d3, m3⟩; have D3 : Hid (Below w0.heap.size w0 u3) := d3; have O3 : Hid (NRow w0.heap.size u3 (some ⟨b3, 0, none⟩) len len xs) := o3; have k0 := K0.out u3 D3.out; have k1 := K1.out u3 D3.out; clear d3 o3 m3))
  all_goals
    clear D2 D3 D4 O3 O4 N4
    go_wp2_with fail
    refine (T.out u5 D5.out).mono ?_
    rintro e u6 ⟨b6, rfl, o6, d6, _⟩
    have D6 : Hid (Below w0.heap.size w0 u6) := d6
    have O6 : Hid (NRow w0.heap.size u6 (some ⟨b6, 0, none⟩) len len xs) := o6
    clear d6 o6 D5
    have k1 : (u6.alloc (.cells #[.slice (some ⟨b6, 0, none⟩) len len] 43)).cell? ⟨w.heap.size + 1, 0, none⟩ = some (.slice a' len' cap') := K1.out _ (D6.out.alloc D6.out.size _)
    go_wp2_with fail
    refine (T'.out _ (D6.out.alloc D6.out.size _)).mono ?_
    rintro e u7 ⟨b7, rfl, o7, d7, m7⟩
    have m7' := m7 _ (Below.refl _ _)
    have x0 : u7.heap[u6.heap.size]? = some (.cells #[.slice (some ⟨b6, 0, none⟩) len len] 43) := (m7'.block u6.heap.size (by simp)).trans (heap_alloc_new u6 _)
    have hx0 : u6.heap.size < u7.heap.size := (Array.getElem?_eq_some_iff.1 x0).1
    have o67 : NRow w0.heap.size u7 (some ⟨b6, 0, none⟩) len len xs := (O6.out.keep (below_alloc _ _)).keep m7'
    have x0' : (u7.alloc (.cells #[.slice (some ⟨b7, 0, none⟩) len' len'] 43)).cell? ⟨u6.heap.size, 0, none⟩ = some (.slice (some ⟨b6, 0, none⟩) len len) := cell_of_row _ _ 0 _ 43 (0, 0) ((Below.heap_alloc _ _ _ hx0).trans x0)
    have HX : Hid (u7.heap[u6.heap.size]? = some (.cells #[.slice (some ⟨b6, 0, none⟩) len len] 43)) := x0
    have HO : Hid (NRow w0.heap.size u7 (some ⟨b6, 0, none⟩) len len xs) := o67
    have HN : Hid (NRow w0.heap.size u7 (some ⟨b7, 0, none⟩) len' len' ys) := o7
    have HD : Hid (Below w0.heap.size w0 u7) := d7
    have HL : Hid (u6.heap.size < u7.heap.size) := hx0
    clear m7 m7' x0 hx0 o67 o7 d7 k1 O6 D6
    go_wp2_with fail
    clear x0'
    refine tr_at fun v7 hv7 => ?_
    have J0 : Hid (∀ u : World, Below v7.heap.size v7 u → u.cell? ⟨u6.heap.size, 0, none⟩ = some (.slice (some ⟨b6, 0, none⟩) len len)) := fun u hu => (hu.cell (p := ⟨u6.heap.size, 0, none⟩) (by rw [hv7]; have := HL.out; simp; omega)).trans (cell_of_row v7 _ 0 _ 43 (0, 0) (by rw [hv7]; exact (Below.heap_alloc _ _ _ HL.out).trans HX.out))
    have J1 : Hid (∀ u : World, Below v7.heap.size v7 u → u.cell? ⟨u7.heap.size, 0, none⟩ = some (.slice (some ⟨b7, 0, none⟩) len' len')) := fun u hu => (hu.cell (p := ⟨u7.heap.size, 0, none⟩) (by rw [hv7]; simp)).trans (cell_of_row v7 _ 0 _ 43 (0, 0) (by rw [hv7]; exact heap_alloc_new u7 _))
    have O7 : Hid (NRow w0.heap.size v7 (some ⟨b6, 0, none⟩) len len xs) := by rw [hv7]; exact HO.out.keep (below_alloc _ _)
    have N7 : Hid (NRow w0.heap.size v7 (some ⟨b7, 0, none⟩) len' len' ys) := by rw [hv7]; exact HN.out.keep (below_alloc _ _)
    have D7 : Hid (Below w0.heap.size w0 v7) := by rw [hv7]; exact HD.out.alloc HD.out.size _
    clear hv7 HX HO HN HD HL
    refine (SI.out v7 _ _ D7.out O7.out N7.out).mono ?_
    rintro e u8 ⟨rfl, d8, m8⟩
    have D8 : Hid (Below w0.heap.size w0 u8) := d8
    have M8 : Hid (Below v7.heap.size v7 u8) := m8 v7 (Below.refl _ _)
    have O8 : Hid (NRow w0.heap.size u8 (some ⟨b6, 0, none⟩) len len xs) := O7.out.keep M8.out
    have N8 : Hid (NRow w0.heap.size u8 (some ⟨b7, 0, none⟩) len' len' ys) := N7.out.keep M8.out
    clear d8 m8 O7 N7 D7
    have k0 := K0.out u8 D8.out
    have k1 := K1.out u8 D8.out
    have j0 := J0.out u8 M8.out
    have j1 := J1.out u8 M8.out
    have EX : Hid (∀ (u : World) (a1 a2 : Option Addr), Below w0.heap.size w0 u → NRow w0.heap.size u a1 len len xs → NRow w0.heap.size u a2 len len xs → Calls Try.prog 16 #[.agg #[.slice a1 len len], .agg #[.slice a2 len len]] u fun e w' => e = .returned (.bool true) ∧ Below w0.heap.size w0 w' ∧ ∀ z : World, Below z.heap.size z u → Below z.heap.size z w') := fun u a1 a2 hu h1 h2 => (eqTree_same _ _ _ _ _ xs u h1 h2).mono fun e w' ⟨he, hd⟩ => ⟨he, hu.trans (hd.mono hu.size), fun z hz => hz.trans (hd.mono hz.size)⟩
    have EY : Hid (∀ (u : World) (a1 a2 : Option Addr), Below w0.heap.size w0 u → NRow w0.heap.size u a1 len' len' ys → NRow w0.heap.size u a2 len' len' ys → Calls Try.prog 16 #[.agg #[.slice a1 len' len'], .agg #[.slice a2 len' len']] u fun e w' => e = .returned (.bool true) ∧ Below w0.heap.size w0 w' ∧ ∀ z : World, Below z.heap.size z u → Below z.heap.size z w') := fun u a1 a2 hu h1 h2 => (eqTree_same _ _ _ _ _ ys u h1 h2).mono fun e w' ⟨he, hd⟩ => ⟨he, hu.trans (hd.mono hu.size), fun z hz => hz.trans (hd.mono hz.size)⟩
    go_wp2_with fail
    go_region_held3 (fun u => u.cell? ⟨w.heap.size, 0, none⟩ = some (.slice a len cap) ∧ u.cell? ⟨w.heap.size + 1, 0, none⟩ = some (.slice a' len' cap') ∧ u.cell? ⟨u6.heap.size, 0, none⟩ = some (.slice (some ⟨b6, 0, none⟩) len len) ∧ u.cell? ⟨u7.heap.size, 0, none⟩ = some (.slice (some ⟨b7, 0, none⟩) len' len')) (go_keep) (first | (go_at_call 16; refine (EX.out _ _ _ (by repeat (first | with_reducible exact D9.out | refine Below.drew ?_ | refine below_drewN ?_ _)) (O9.out.keep (by repeat (first | with_reducible exact Below.refl _ _ | refine Below.drew ?_ | refine below_drewN ?_ _))) (P9.out.keep (by repeat (first | with_reducible exact Below.refl _ _ | refine Below.drew ?_ | refine below_drewN ?_ _)))).mono ?_; rintro e ua ⟨rfl, da, ma⟩; have Da : Hid (Below w0.heap.size w0 ua) := da; have Ma : Hid (Below v7.heap.size v7 ua) := ma v7 (by repeat (first | with_reducible exact M9.out | refine Below.drew ?_ | refine below_drewN ?_ _)); have k0 := K0.out ua Da.out; have k1 := K1.out ua Da.out; have j0 := J0.out ua Ma.out; have j1 := J1.out ua Ma.out; have Na : Hid (NRow w0.heap.size ua (some ⟨b7, 0, none⟩) len' len' ys) := N9.out.keep (ma u9 (by repeat (first | with_reducible exact Below.refl _ _ | refine Below.drew ?_ | refine below_drewN ?_ _))); clear da ma) | (go_at_call 14; refine (T.out _ (by repeat (first | with_reducible exact D8.out | refine Below.drew ?_ | refine below_drewN ?_ _))).mono ?_; rintro e u9 ⟨b9, rfl, o9, d9, m9⟩; have D9 : Hid (Below w0.heap.size w0 u9) := d9; have P9 : Hid (NRow w0.heap.size u9 (some ⟨b9, 0, none⟩) len len xs) := o9; have M9 : Hid (Below v7.heap.size v7 u9) := m9 v7 (by repeat (first | with_reducible exact M8.out | refine Below.drew ?_ | refine below_drewN ?_ _)); have O9 : Hid (NRow w0.heap.size u9 (some ⟨b6, 0, none⟩) len len xs) := O8.out.keep (m9 u8 (by repeat (first | with_reducible exact Below.refl _ _ | refine Below.drew ?_ | refine below_drewN ?_ _))); have N9 : Hid (NRow w0.heap.size u9 (some ⟨b7, 0, none⟩) len' len' ys) := N8.out.keep (m9 u8 (by repeat (first | with_reducible exact Below.refl _ _ | refine Below.drew ?_ | refine below_drewN ?_ _))); have k0 := K0.out u9 D9.out; have k1 := K1.out u9 D9.out; have j0 := J0.out u9 M9.out; have j1 := J1.out u9 M9.out; clear d9 o9 m9))
    all_goals
      clear D8 M8 O8 N8 D9 P9 M9 O9 N9
      go_wp2_with fail
      go_region_held3 (fun u => u.cell? ⟨w.heap.size, 0, none⟩ = some (.slice a len cap) ∧ u.cell? ⟨w.heap.size + 1, 0, none⟩ = some (.slice a' len' cap') ∧ u.cell? ⟨u6.heap.size, 0, none⟩ = some (.slice (some ⟨b6, 0, none⟩) len len) ∧ u.cell? ⟨u7.heap.size, 0, none⟩ = some (.slice (some ⟨b7, 0, none⟩) len' len')) (go_keep) (first | (go_at_call 16; refine (EY.out _ _ _ (by repeat (first | with_reducible exact Db.out | refine Below.drew ?_ | refine below_drewN ?_ _)) (Nb.out.keep (by repeat (first | with_reducible exact Below.refl _ _ | refine Below.drew ?_ | refine below_drewN ?_ _))) (Pb.out.keep (by repeat (first | with_reducible exact Below.refl _ _ | refine Below.drew ?_ | refine below_drewN ?_ _)))).mono ?_; rintro e uc ⟨rfl, dc, mc⟩; have Dc : Hid (Below w0.heap.size w0 uc) := dc; have Mc : Hid (Below v7.heap.size v7 uc) := mc v7 (by repeat (first | with_reducible exact Mb.out | refine Below.drew ?_ | refine below_drewN ?_ _)); have k0 := K0.out uc Dc.out; have k1 := K1.out uc Dc.out; have j0 := J0.out uc Mc.out; have j1 := J1.out uc Mc.out; clear dc mc) | (go_at_call 14; refine (T'.out _ (by repeat (first | with_reducible exact Da.out | refine Below.drew ?_ | refine below_drewN ?_ _))).mono ?_; rintro e ub ⟨bb, rfl, ob, db, mb⟩; have Db : Hid (Below w0.heap.size w0 ub) := db; have Pb : Hid (NRow w0.heap.size ub (some ⟨bb, 0, none⟩) len' len' ys) := ob; have Mb : Hid (Below v7.heap.size v7 ub) := mb v7 (by repeat (first | with_reducible exact Ma.out | refine Below.drew ?_ | refine below_drewN ?_ _)); have Nb : Hid (NRow w0.heap.size ub (some ⟨b7, 0, none⟩) len' len' ys) := Na.out.keep (mb ua (by repeat (first | with_reducible exact Below.refl _ _ | refine Below.drew ?_ | refine below_drewN ?_ _))); have k0 := K0.out ub Db.out; have k1 := K1.out ub Db.out; have j0 := J0.out ub Mb.out; have j1 := J1.out ub Mb.out; clear db ob mb))
      all_goals
        go_wp2
        go_ret
        exact ⟨rfl, HB.out _ (by repeat (first | with_reducible exact Dc.out | refine Below.drew ?_ | refine below_drewN ?_ _))⟩
end Go.Proofs.Ytfcfnbncgadomaa.W
