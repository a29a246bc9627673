import Derived.Test.YteadglnenaiaaaaGreatDoorK02
import Derived.Test.YteadglnenaiaaaaGreatDoorK32
import Derived.Deep.RegionHeld3
set_option linter.unusedVariables false
set_option linter.unusedSimpArgs false
namespace Go.Proofs.YteadglnenaiaaaaGreatDoor.W
open Go.RowKit
def ImplTreeSaid (E : World → Prop) : Prop := ∀ {lo : Nat} (a : Option Addr) (len cap : Nat) (xs : List Pl.Nd) (w : World), NRow lo w a len cap xs → Pl.NWf xs → (∀ i, i < len → (Pl.nd xs i).kids.length ≤ 1048576) → (∀ i, i < len → (Pl.nd xs i).s.size ≤ 1048576) → E w →
  Calls Tryz.prog 7 #[.agg #[.slice a len cap]] w fun e w' => e = .returned (.bool (Pl.isP (Pl.ImplOk xs))) ∧ Below w.heap.size w w'
set_option maxRecDepth 8000 in
set_option maxHeartbeats 8000000 in
theorem fnExactTreeOk_walk (E : World → Prop) (hE2 : ∀ w w' : World, E w → Below w.heap.size w w' → E w') (himp : ImplTreeSaid E) {lo : Nat} (a : Option Addr) (len cap : Nat) (xs : List Pl.Nd) (w : World) (h : NRow lo w a len cap xs) (hwf : Pl.NWf xs) (hE : E w) :
    Calls Tryz.prog 3 #[.agg #[.slice a len cap]] w fun e w' => e = .returned (.bool true) ∧ Below w.heap.size w w' := by
  have HR : Hid (NRow lo w a len cap xs) := h
  clear h
  go_enter Tryz.func3, Tryz.ntmps3
  go_wp2_with fail
  refine tr_at fun w0 hw0 => ?_
  have hb0 : Below w.heap.size w w0 := by rw [hw0]; exact below_alloc _ _
  have q0 : w0.heap[w.heap.size]? = some (.cells #[.slice a len cap] 24) := by rw [hw0]; exact heap_alloc_new w _
  have hz0 : w.heap.size < w0.heap.size := (Array.getElem?_eq_some_iff.1 q0).1
  clear hw0
  have K0 : Hid (∀ u : World, Below w0.heap.size w0 u → u.cell? ⟨w.heap.size, 0, none⟩ = some (.slice a len cap)) := fun u hu => (hu.cell (p := ⟨w.heap.size, 0, none⟩) hz0).trans (cell_of_row w0 w.heap.size 0 _ 24 (0, 0) q0)
  have HA : Hid (∀ u : World, Below w0.heap.size w0 u → NRow lo u a len cap xs) := fun u hu => (HR.out.keep hb0).keep hu
  have HB : Hid (∀ u : World, Below w0.heap.size w0 u → Below w.heap.size w u) := fun u hu => hb0.trans (hu.mono (by omega))
  have HEE : Hid (∀ u : World, Below w0.heap.size w0 u → E u) := fun u hu => hE2 w u hE (hb0.trans (hu.mono (by omega)))
  clear q0 HR
  refine (szTree2_any a len cap xs 1048576 (by decide) w0 (HA.out w0 (Below.refl _ _))).mono ?_
  rintro e u1 ⟨r, rfl, hr, d1⟩
  have D1 : Hid (Below w0.heap.size w0 u1) := d1
  have HQ : Hid (0 ≤ r → r ≤ 1048576 ∧ len ≤ 1048576 ∧ ∀ i, i < len → (xs.getD i Pl.Nd.zero).kids.length ≤ 1048576 ∧ (xs.getD i Pl.Nd.zero).s.size ≤ 1048576) := hr
  clear hr d1
  by_cases hneg : r < 0
  · go_wp2
    go_ret
    exact ⟨rfl, HB.out _ D1.out⟩
  obtain ⟨hr1, hl1, hk1⟩ := HQ.out (by omega)
  have T : Hid (∀ u : World, Below w0.heap.size w0 u → Calls Tryz.prog 6 #[.agg #[.slice a len cap]] u fun e w' => ∃ b, e = .returned (.agg #[.slice (some ⟨b, 0, none⟩) len len]) ∧ NRow w0.heap.size w' (some ⟨b, 0, none⟩) len len xs ∧ Below w0.heap.size w0 w' ∧ ∀ z : World, Below z.heap.size z u → Below z.heap.size z w') := fun u hu => (toTree_any a len cap xs u (HA.out u hu) hl1 (fun i hi => (hk1 i hi).1)).mono fun e w' ⟨b, he, hn, hd⟩ => ⟨b, he, hn.lower hu.size, hu.trans (hd.mono hu.size), fun z hz => hz.trans (hd.mono hz.size)⟩
  have SS : Hid (∀ (u : World) (a1 : Option Addr), Below w0.heap.size w0 u → NRow w0.heap.size u a1 len len xs → Calls Tryz.prog 5 #[.agg #[.slice a1 len len]] u fun e w' => e = .returned (.bool (Pl.isP (Pl.SpecOk xs))) ∧ Below w0.heap.size w0 w' ∧ ∀ z : World, Below z.heap.size z u → Below z.heap.size z w') := fun u a1 hu h1 => (specTreeOk_is a1 len len xs u h1 hwf (fun i hi => (hk1 i hi).1) (fun i hi => (hk1 i hi).2)).mono fun e w' ⟨he, hd⟩ => ⟨he, hu.trans (hd.mono hu.size), fun z hz => hz.trans (hd.mono hz.size)⟩
  have SI : Hid (∀ (u : World) (a1 : Option Addr), Below w0.heap.size w0 u → NRow w0.heap.size u a1 len len xs → Calls Tryz.prog 7 #[.agg #[.slice a1 len len]] u fun e w' => e = .returned (.bool (Pl.isP (Pl.SpecOk xs))) ∧ Below w0.heap.size w0 w' ∧ ∀ z : World, Below z.heap.size z u → Below z.heap.size z w') := fun u a1 hu h1 => (himp a1 len len xs u h1 hwf (fun i hi => (hk1 i hi).1) (fun i hi => (hk1 i hi).2) (HEE.out u hu)).mono fun e w' ⟨he, hd⟩ => ⟨by rw [he, propext (Pl.ok_same xs)], hu.trans (hd.mono hu.size), fun z hz => hz.trans (hd.mono hz.size)⟩
  have EX : Hid (∀ (u : World) (a1 a2 : Option Addr), Below w0.heap.size w0 u → NRow w0.heap.size u a1 len len xs → NRow w0.heap.size u a2 len len xs → Calls Tryz.prog 8 #[.agg #[.slice a1 len len], .agg #[.slice a2 len len]] u fun e w' => e = .returned (.bool true) ∧ Below w0.heap.size w0 w' ∧ ∀ z : World, Below z.heap.size z u → Below z.heap.size z w') := fun u a1 a2 hu h1 h2 => (eqTree_same _ _ _ _ _ xs u h1 h2).mono fun e w' ⟨he, hd⟩ => ⟨he, hu.trans (hd.mono hu.size), fun z hz => hz.trans (hd.mono hz.size)⟩
  clear hl1 hk1 HQ hr1 himp hwf hE
  generalize Pl.isP (Pl.SpecOk xs) = R at *
  have k0 := K0.out u1 D1.out
  go_wp2_with (first | (go_at_call 5; refine (SS.out _ _ D3.out O3.out).mono ?_; rintro e u4 ⟨rfl, d4, m4⟩; have D4 : Hid (Below w0.heap.size w0 u4) := d4; have k0 := K0.out u4 D4.out; clear d4 m4) | (go_at_call 6; refine (T.out _ D1.out).mono ?_; clear D1; rintro e u3 ⟨b3, rfl, o3, d3, m3⟩; have D3 : Hid (Below w0.heap.size w0 u3) := d3; have O3 : Hid (NRow w0.heap.size u3 (some ⟨b3, 0, none⟩) len len xs) := o3; clear d3 o3 m3))
  clear D3 O3
  refine (T.out u4 D4.out).mono ?_
  rintro e u6 ⟨b6, rfl, o6, d6, m6⟩
  have HO : Hid (NRow w0.heap.size u6 (some ⟨b6, 0, none⟩) len len xs) := o6
  have HD : Hid (Below w0.heap.size w0 u6) := d6
  clear o6 d6 m6 D4
  go_wp2_with fail
  refine tr_at fun v7 hv7 => ?_
  have J0 : Hid (∀ u : World, Below v7.heap.size v7 u → u.cell? ⟨u6.heap.size, 0, none⟩ = some (.slice (some ⟨b6, 0, none⟩) len len)) := fun u hu => (hu.cell (p := ⟨u6.heap.size, 0, none⟩) (by rw [hv7]; simp)).trans (cell_of_row v7 _ 0 _ 29 (0, 0) (by rw [hv7]; exact heap_alloc_new u6 _))
  have O7 : Hid (NRow w0.heap.size v7 (some ⟨b6, 0, none⟩) len len xs) := by rw [hv7]; exact HO.out.keep (below_alloc _ _)
  have D7 : Hid (Below w0.heap.size w0 v7) := by rw [hv7]; exact HD.out.alloc HD.out.size _
  clear hv7 HO HD
  refine (SI.out v7 _ D7.out O7.out).mono ?_
  rintro e u8 ⟨rfl, d8, m8⟩
  have D8 : Hid (Below w0.heap.size w0 u8) := d8
  have M8 : Hid (Below v7.heap.size v7 u8) := m8 v7 (Below.refl _ _)
  have O8 : Hid (NRow w0.heap.size u8 (some ⟨b6, 0, none⟩) len len xs) := O7.out.keep M8.out
  clear d8 m8 O7 D7
  have k0 := K0.out u8 D8.out
  have j0 := J0.out u8 M8.out
  go_wp2_with fail
  go_region_held3 (fun u => u.cell? ⟨w.heap.size, 0, none⟩ = some (.slice a len cap) ∧ u.cell? ⟨u6.heap.size, 0, none⟩ = some (.slice (some ⟨b6, 0, none⟩) len len)) (go_keep) (first | (go_at_call 8; refine (EX.out _ _ _ (by repeat (first | with_reducible exact D9.out | refine Below.drew ?_ | refine below_drewN ?_ _)) (O9.out.keep (by repeat (first | with_reducible exact Below.refl _ _ | refine Below.drew ?_ | refine below_drewN ?_ _))) (P9.out.keep (by repeat (first | with_reducible exact Below.refl _ _ | refine Below.drew ?_ | refine below_drewN ?_ _)))).mono ?_; rintro e ua ⟨rfl, da, ma⟩; have Da : Hid (Below w0.heap.size w0 ua) := da; have Ma : Hid (Below v7.heap.size v7 ua) := ma v7 (by repeat (first | with_reducible exact M9.out | refine Below.drew ?_ | refine below_drewN ?_ _)); have k0 := K0.out ua Da.out; have j0 := J0.out ua Ma.out; clear da ma) | (go_at_call 6; refine (T.out _ (by repeat (first | with_reducible exact D8.out | refine Below.drew ?_ | refine below_drewN ?_ _))).mono ?_; rintro e u9 ⟨b9, rfl, o9, d9, m9⟩; have D9 : Hid (Below w0.heap.size w0 u9) := d9; have P9 : Hid (NRow w0.heap.size u9 (some ⟨b9, 0, none⟩) len len xs) := o9; have M9 : Hid (Below v7.heap.size v7 u9) := m9 v7 (by repeat (first | with_reducible exact M8.out | refine Below.drew ?_ | refine below_drewN ?_ _)); have O9 : Hid (NRow w0.heap.size u9 (some ⟨b6, 0, none⟩) len len xs) := O8.out.keep (m9 u8 (by repeat (first | with_reducible exact Below.refl _ _ | refine Below.drew ?_ | refine below_drewN ?_ _))); have k0 := K0.out u9 D9.out; have j0 := J0.out u9 M9.out; clear d9 o9 m9))
  all_goals
    go_wp2
    go_ret
    exact ⟨rfl, HB.out _ (by repeat (first | with_reducible exact Da.out | refine Below.drew ?_ | refine below_drewN ?_ _))⟩
end Go.Proofs.YteadglnenaiaaaaGreatDoor.W
