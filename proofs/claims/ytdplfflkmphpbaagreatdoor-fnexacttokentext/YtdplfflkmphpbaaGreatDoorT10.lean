import Derived.Test.YtdplfflkmphpbaaGreatDoorT07
import Derived.Deep.Cut
import Derived.Deep.DeepCutAuto
import Derived.Deep.CutRange
set_option linter.unusedVariables false
set_option linter.unusedSimpArgs false
namespace Go.Proofs.YtdplfflkmphpbaaGreatDoor.W
open Go.RowKit
def IntS (s : ByteArray) (e : Ending) : Prop := match Pl.intR s with
  | .ok (S, N) => e = .returned (.tuple #[.int .i64 N, .string S, .int .i64 0])
  | .error f => e = .returned (.tuple #[.int .i64 0, .string ⟨#[]⟩, .int .i64 f])
theorem ints_no {s : ByteArray} {f : Int} (h : Pl.intR s = .error f) : IntS s (.returned (.tuple #[.int .i64 0, .string ⟨#[]⟩, .int .i64 f])) := by unfold IntS; rw [h]
theorem ints_ok {s S S' : ByteArray} {N N' : Int} (h : Pl.intR s = .ok (S, N)) (hS : S' = S) (hN : N' = N) : IntS s (.returned (.tuple #[.int .i64 N', .string S', .int .i64 0])) := by unfold IntS; rw [h, hS, hN]
set_option maxHeartbeats 8000000 in
set_option maxRecDepth 100000 in
theorem l5Int_is (s : ByteArray) (hs : s.size ≤ 1048576) (h0 : 0 < s.size) (w : World) : Calls Tryz.prog 42 #[.string s] w fun e w' => IntS s e ∧ w' = w := by
  have hgl := Pl.byt_get s (s.size - 1) (by omega)
  have hg0 := Pl.byt_get s 0 h0
  have hl1 : (1 : Int) ≤ s.size := by omega
  obtain ⟨l, hl⟩ : ∃ l, l = Pl.byt s (s.size - 1) := ⟨_, rfl⟩
  obtain ⟨c0, hc0⟩ : ∃ c, c = Pl.byt s 0 := ⟨_, rfl⟩
  rw [← hl] at hgl
  rw [← hc0] at hg0
  have HL : Hid (l = Pl.byt s (s.size - 1)) := hl
  have HC0 : Hid (c0 = Pl.byt s 0) := hc0
  clear hl hc0
  obtain ⟨S0, hS0⟩ : ∃ S0 : ByteArray, S0 = if Pl.uu l = true then ⟨#[117]⟩ else ⟨#[]⟩ := ⟨_, rfl⟩
  have HS0 : Hid (S0 = if Pl.uu l = true then ⟨#[117]⟩ else ⟨#[]⟩) := hS0
  have hie : Pl.iend s ≤ s.size := by unfold Pl.iend; split <;> omega
  obtain ⟨D1, hD1⟩ : ∃ D1 : ByteArray, D1 = s.extract 0 (Pl.iend s) := ⟨_, rfl⟩
  have HD1 : Hid (D1 = s.extract 0 (Pl.iend s)) := hD1
  have hD1s : D1.size = Pl.iend s := by rw [hD1, Pl.ext_size]; omega
  obtain ⟨U, hU⟩ : ∃ U : Bool, U = Pl.uu l := ⟨_, rfl⟩
  obtain ⟨X, hX⟩ : ∃ X : Bool, X = Pl.isx s := ⟨_, rfl⟩
  have HU : Hid (U = Pl.uu l) := hU
  have HXX : Hid (X = Pl.isx s) := hX
  obtain ⟨D, hD⟩ : ∃ D, D = Pl.idig s := ⟨_, rfl⟩
  obtain ⟨b, hb⟩ : ∃ b, b = Pl.ibase s := ⟨_, rfl⟩
  have HD : Hid (D = Pl.idig s) := hD
  have HBs : Hid (b = Pl.ibase s) := hb
  clear hS0 hD1 hU hX hD hb
  go_enter Tryz.func42, Tryz.ntmps42
  go_upto_region 5 with fail
  go_cut [24] (fun s24 wx => s24 = .bool U ∧ wx = w)
  case first =>
    cases e1 : (l == 117) <;> cases e2 : (l == 85)
    all_goals
      go_wp2_with fail
      go_meet
      exact ⟨by rw [HU.out]; simp [Pl.uu, e1, e2], rfl⟩
  case rest =>
  obtain ⟨rfl, hwc⟩ := hcut
  rw [hwc]
  clear hwc
  go_upto_if 24 with fail
  go_cut [5, 7] (fun s5 s7 wx => s5 = .string S0 ∧ s7 = .string D1 ∧ wx = w)
  case first =>
    cases hu : U
    · have hu' := HU.out.symm.trans hu
      have he : Pl.iend s = s.size := by unfold Pl.iend; rw [← HL.out, hu']; rfl
      have HDD : Hid (D1 = s) := by show D1 = s; rw [HD1.out, he, Pl.ext_all]
      have HSS : Hid (S0 = ⟨#[]⟩) := by show S0 = _; rw [HS0.out, hu']; rfl
      clear he hu' hD1s hie
      go_wp2_with fail
      go_meet
      exact ⟨by rw [HSS.out], by rw [HDD.out], rfl⟩
    · have hu' := HU.out.symm.trans hu
      have he : Pl.iend s = s.size - 1 := by unfold Pl.iend; rw [← HL.out, hu']; rfl
      have HDD : Hid (D1 = s.extract 0 (s.size - 1)) := by show D1 = _; rw [HD1.out, he]
      have HSS : Hid (S0 = ⟨#[117]⟩) := by show S0 = _; rw [HS0.out, hu']; rfl
      clear he hu' hD1s hie
      go_wp2_with fail
      go_meet
      exact ⟨by rw [HSS.out], by rw [HDD.out], rfl⟩
  case rest =>
  obtain ⟨rfl, rfl, hwc⟩ := hcut
  rw [hwc]
  clear hwc
  go_upto_region 8 with fail
  go_cut [47] (fun s47 wx => s47 = .bool X ∧ wx = w)
  case first =>
    by_cases h1 : 1 < s.size
    · have h1' : (1 : Int) < s.size := by omega
      have hg1 := Pl.byt_get s 1 h1
      obtain ⟨c1, hc1⟩ : ∃ c, c = Pl.byt s 1 := ⟨_, rfl⟩
      rw [← hc1] at hg1
      have HX : Hid (Pl.isx s = ((c0 == 48) && (c1 == 120 || c1 == 88))) := by
        show Pl.isx s = _
        unfold Pl.isx
        rw [← HC0.out, ← hc1, decide_eq_true h1, Bool.true_and]
      clear hc1
      cases e1 : (c0 == 48) <;> cases e2 : (c1 == 120) <;> cases e3 : (c1 == 88)
      all_goals
        go_wp2_with fail
        go_meet
        exact ⟨by rw [HXX.out, HX.out, e1, e2, e3]; rfl, rfl⟩
    · have h1' : ¬ (1 : Int) < s.size := by omega
      have HX : Hid (Pl.isx s = false) := by
        show Pl.isx s = _
        unfold Pl.isx
        rw [decide_eq_false h1]; rfl
      go_wp2_with fail
      go_meet
      exact ⟨by rw [HXX.out, HX.out], rfl⟩
  case rest =>
  obtain ⟨rfl, hwc⟩ := hcut
  rw [hwc]
  clear hwc
  go_upto_if 47 with fail
  go_cut [6, 7] (fun s6 s7 wx => s6 = .int .i64 b ∧ s7 = .string D ∧ wx = w)
  case first =>
    cases hx : X
    · have hx' := HXX.out.symm.trans hx
      have HDD : Hid (D = D1) := by show D = D1; rw [HD.out, HD1.out]; unfold Pl.idig Pl.ioff; rw [hx']; rfl
      have HBb : Hid (b = if c0 = 48 then 8 else 10) := by show b = _; rw [HBs.out]; unfold Pl.ibase; rw [hx', ← HC0.out]; rfl
      clear hx'
      by_cases e1 : c0 = 48
      · have e1' : (c0 == 48) = true := by simp [e1]
        have HB2 : Hid (b = 8) := HBb.out.trans (if_pos e1)
        clear e1 HBb
        go_wp2_with fail
        go_meet
        exact ⟨by rw [HB2.out], by rw [HDD.out], rfl⟩
      · have e1' : (c0 == 48) = false := by simp [e1]
        have HB2 : Hid (b = 10) := HBb.out.trans (if_neg e1)
        clear e1 HBb
        go_wp2_with fail
        go_meet
        exact ⟨by rw [HB2.out], by rw [HDD.out], rfl⟩
    · have hx' := HXX.out.symm.trans hx
      have h2 := Pl.isx_two hx'
      have HDD : Hid (D = D1.extract 2 D1.size) := by
        show D = _
        rw [HD.out, hD1s, HD1.out]
        unfold Pl.idig Pl.ioff
        rw [hx', Pl.ext_ext s 0 (Pl.iend s) 2 (Pl.iend s) (by omega) hie h2]
        simp
      have HB2 : Hid (b = 16) := by show b = _; rw [HBs.out]; unfold Pl.ibase; rw [hx']; rfl
      have h2' : (2 : Int) ≤ D1.size := by omega
      clear hx' hD1s hie h2
      go_wp2_with fail
      go_meet
      exact ⟨by rw [HB2.out], by rw [HDD.out], rfl⟩
  case rest =>
  obtain ⟨rfl, rfl, hwc⟩ := hcut
  rw [hwc]
  clear hwc
  have hDs := Pl.idig_sz s
  have HA : Hid (Pl.iend s ≤ Pl.ioff s → Pl.intR s = .error 2) := Pl.intR_2a
  have HB : Hid (∀ j, j < (Pl.idig s).size → Pl.badD (Pl.ibase s) (Pl.byt (Pl.idig s) j) = true → Pl.intR s = .error 2) := fun j => Pl.intR_2b j
  have H6 : Hid (_ → _ → _ → Pl.intR s = .error 6) := @Pl.intR_6 s
  have HOK : Hid (_ → _ → _ → _ → Pl.intR s = .ok _) := @Pl.intR_ok s
  rw [← HL.out] at HOK
  have hbb := Pl.ibase_is s
  rw [← HD.out] at hDs HB H6 HOK
  rw [← HBs.out] at HB H6 HOK hbb
  have hDm : D.size ≤ 1048576 := by omega
  have HBB : Hid (b = 8 ∨ b = 10 ∨ b = 16) := hbb
  have hbr : 8 ≤ b ∧ b ≤ 16 := by omega
  obtain ⟨hb8, hb16⟩ := hbr
  clear hbb hgl hg0 hl1 hie hD1s HD HBs HD1 HXX HC0
  have hE := Pl.isE D
  by_cases hD0 : D.size = 0
  · rw [decide_eq_true hD0] at hE
    have HF : Hid (Pl.intR s = .error 2) := HA.out (by omega)
    clear hD0
    go_wp2_with fail
    go_ret3
    exact ⟨ints_no HF.out, rfl⟩
  rw [decide_eq_false hD0] at hE
  have HNE : Hid (¬ Pl.iend s ≤ Pl.ioff s) := by show ¬ _; omega
  clear hDs HA
  have HVS : Hid (∀ k, k < D.size → (∀ j, j < k + 1 → Pl.badD b (Pl.byt D j) = false) → Pl.val D b k ≤ Pl.val D b (k + 1)) := fun k hk h => Pl.val_step D b (by omega) k (fun j hj => by
    have := h j hj
    unfold Pl.badD at this
    simp only [Bool.or_eq_false_iff, decide_eq_false_iff_not] at this
    omega)
  go_wp2_with fail
  go_loop [9, 10, 11] (fun x9 x10 x11 => ∃ (k : Nat) (v : Int) (o : Bool), k ≤ D.size ∧ x11 = .int .i64 k ∧ x9 = .int .i64 v ∧ x10 = .bool o ∧ 0 ≤ v ∧ v ≤ 68719476735 ∧ (∀ j, j < k → Pl.badD b (Pl.byt D j) = false) ∧ (o = true ↔ ∀ j, j < k → Pl.hx (Pl.byt D j) < b) ∧ (v = Pl.val D b k ∨ (4294967295 < v ∧ 4294967295 < Pl.val D b k))) (fun _ _ x11 => D.size - (intOf x11).toNat)
  case atStart => exact ⟨0, 0, true, by omega, rfl, rfl, rfl, by omega, by omega, fun j hj => absurd hj (Nat.not_lt_zero _), ⟨fun _ j hj => absurd hj (Nat.not_lt_zero _), fun _ => rfl⟩, .inl rfl⟩
  case round =>
    obtain ⟨k, v, o, hk, rfl, rfl, rfl, v0, v1, hall, ho, hv⟩ := hrel
    have HALL : Hid (∀ j, j < k → Pl.badD b (Pl.byt D j) = false) := hall
    have HO : Hid (o = true ↔ ∀ j, j < k → Pl.hx (Pl.byt D j) < b) := ho
    have HV : Hid (v = Pl.val D b k ∨ (4294967295 < v ∧ 4294967295 < Pl.val D b k)) := hv
    clear hall ho hv
    by_cases hlt : k < D.size
    · have hlt' : (k : Int) < D.size := by omega
      have hgk := Pl.byt_get D k hlt
      have c0 := Pl.byt_lo D k
      have c1 := Pl.byt_hi D k
      have d0 := Pl.hx_lo (Pl.byt D k)
      have d1 := Pl.hx_hi (Pl.byt D k)
      obtain ⟨c, hc⟩ : ∃ c, c = Pl.byt D k := ⟨_, rfl⟩
      rw [← hc] at hgk c0 c1 d0 d1
      obtain ⟨d, hd⟩ : ∃ d, d = Pl.hx c := ⟨_, rfl⟩
      rw [← hd] at d0 d1
      have HH : Hid (∀ u, Calls Tryz.prog 55 #[.int .u8 c] u fun e w' => e = .returned (.int .i64 d) ∧ w' = u) := fun u => by rw [hd]; exact l4Hex_any c c0 c1 u
      have HDD : Hid (d = Pl.hx (Pl.byt D k)) := by show d = _; rw [← hc]; exact hd
      have HBD : Hid (Pl.badD b (Pl.byt D k) = (decide (d < 0) || (b != 16 && decide (9 < d)))) := by show Pl.badD b (Pl.byt D k) = _; rw [← hc]; unfold Pl.badD; rw [← hd]
      clear hc hd c0 c1
      by_cases hbad : d < 0 ∨ (b ≠ 16 ∧ 9 < d)
      · have HF : Hid (Pl.intR s = .error 2) := HB.out k hlt (by rw [HBD.out]; simp; omega)
        clear HBD HV HO HALL HB H6 HOK HDD HVS
        by_cases hneg : d < 0
        · clear hbad
          go_wp2_with (go_at_call 55; refine (HH.out _).mono ?_; rintro e u1 ⟨rfl, rfl⟩)
          go_ret3
          exact ⟨ints_no HF.out, rfl⟩
        · have h9 : 9 < d := by omega
          have hb2 : b = 8 ∨ b = 10 := by have := HBB.out; omega
          have hneg' : ¬ d < 0 := hneg
          clear hbad hneg
          rcases hb2 with e | e
          · have e10 : (b == 10) = false := by simp [e]
            have e8 : (b == 8) = true := by simp [e]
            clear e
            go_wp2_with (go_at_call 55; refine (HH.out _).mono ?_; rintro e u1 ⟨rfl, rfl⟩)
            go_ret3
            exact ⟨ints_no HF.out, rfl⟩
          · have e10 : (b == 10) = true := by simp [e]
            clear e
            go_wp2_with (go_at_call 55; refine (HH.out _).mono ?_; rintro e u1 ⟨rfl, rfl⟩)
            go_ret3
            exact ⟨ints_no HF.out, rfl⟩
      · have hdp : ¬ d < 0 := by omega
        have HNB : Hid (∀ j, j < k + 1 → Pl.badD b (Pl.byt D j) = false) := fun j hj => by
          by_cases e : j = k
          · rw [e, HBD.out]; simp; omega
          · exact HALL.out j (by omega)
        have h9 : b = 16 ∨ ¬ 9 < d := by omega
        have H9 : Hid (b = 16 ∨ ¬ 9 < d) := h9
        have HV2 : Hid (v ≤ 4294967295 → v * b + d = Pl.val D b (k + 1)) := fun h => by
          show _ = Pl.val D b k * b + Pl.hx (Pl.byt D k)
          rcases HV.out with e | e
          · rw [e, HDD.out]
          · omega
        have HV3 : Hid (¬ v ≤ 4294967295 → 4294967295 < Pl.val D b (k + 1)) := fun h => by
          have := HVS.out k hlt HNB.out
          rcases HV.out with e | e <;> omega
        have HMUL : Hid (v ≤ 4294967295 → 0 ≤ v * b ∧ v * b ≤ 68719476720) := fun h => by
          have a1 : 0 ≤ v * b := Int.mul_nonneg v0 (by omega)
          have a2 : v * b ≤ 4294967295 * 16 := Int.mul_le_mul h hb16 (by omega) (by omega)
          omega
        have HO2 : Hid (∀ q : Bool, (q = true ↔ (o = true ∧ d < b)) → (q = true ↔ ∀ j, j < k + 1 → Pl.hx (Pl.byt D j) < b)) := fun q hq => by
          rw [hq, HO.out]
          constructor
          · rintro ⟨a1, a2⟩ j hj
            by_cases e : j = k
            · rw [e, ← HDD.out]; exact a2
            · exact a1 j (by omega)
          · intro a
            exact ⟨fun j hj => a j (by omega), by rw [HDD.out]; exact a k (by omega)⟩
        clear hbad HBD HALL HV HO h9 HB H6 HOK
        have fin : ∀ (v' : Int) (q : Bool), 0 ≤ v' → v' ≤ 68719476735 → (q = true ↔ (o = true ∧ d < b)) → (v' = Pl.val D b (k + 1) ∨ (4294967295 < v' ∧ 4294967295 < Pl.val D b (k + 1))) → ∃ (k_1 : Nat) (v : Int) (o : Bool), k_1 ≤ D.size ∧ Value.int .i64 ((k : Int) + 1) = .int .i64 k_1 ∧ Value.int .i64 v' = .int .i64 v ∧ Value.bool q = .bool o ∧ 0 ≤ v ∧ v ≤ 68719476735 ∧ (∀ j, j < k_1 → Pl.badD b (Pl.byt D j) = false) ∧ (o = true ↔ ∀ j, j < k_1 → Pl.hx (Pl.byt D j) < b) ∧ (v = Pl.val D b k_1 ∨ (4294967295 < v ∧ 4294967295 < Pl.val D b k_1)) :=
          fun v' q a1 a2 a3 a4 => ⟨k + 1, v', q, by omega, by congr 1, rfl, rfl, a1, a2, HNB.out, HO2.out q a3, a4⟩
        have FIN : Hid _ := fin
        clear fin
        have hcase : ((b == 10) = false ∧ (b == 8) = true ∧ ¬ 9 < d) ∨ ((b == 10) = true ∧ (b == 8) = false ∧ ¬ 9 < d) ∨ ((b == 10) = false ∧ (b == 8) = false) := by
          have := H9.out
          rcases HBB.out with e | e | e
          · left; simp [e]; omega
          · right; left; simp [e]; omega
          · right; right; simp [e]
        by_cases hm : v ≤ 4294967295
        · obtain ⟨m0, m1⟩ := HMUL.out hm
          have HVV : Hid (v * b + d = Pl.val D b (k + 1)) := HV2.out hm
          by_cases hdb : d < b
          · have hdb' : ¬ b ≤ d := by omega
            rcases hcase with ⟨e10, e8, h9⟩ | ⟨e10, e8, h9⟩ | ⟨e10, e8⟩
            all_goals
              go_wp2_with (go_at_call 55; refine (HH.out _).mono ?_; rintro e u1 ⟨rfl, rfl⟩)
              go_round
              case rel => exact FIN.out _ _ (by omega) (by omega) (by simp; omega) (.inl HVV.out)
              case measure => simp [intOf]; omega
          · have hdb' : b ≤ d := by omega
            rcases hcase with ⟨e10, e8, h9⟩ | ⟨e10, e8, h9⟩ | ⟨e10, e8⟩
            all_goals
              go_wp2_with (go_at_call 55; refine (HH.out _).mono ?_; rintro e u1 ⟨rfl, rfl⟩)
              go_round
              case rel => exact FIN.out _ _ (by omega) (by omega) (by simp; omega) (.inl HVV.out)
              case measure => simp [intOf]; omega
        · have HVV : Hid (4294967295 < Pl.val D b (k + 1)) := HV3.out hm
          have hm' : 4294967295 < v := by omega
          by_cases hdb : d < b
          · have hdb' : ¬ b ≤ d := by omega
            rcases hcase with ⟨e10, e8, h9⟩ | ⟨e10, e8, h9⟩ | ⟨e10, e8⟩
            all_goals
              go_wp2_with (go_at_call 55; refine (HH.out _).mono ?_; rintro e u1 ⟨rfl, rfl⟩)
              go_round
              case rel => exact FIN.out _ _ (by omega) (by omega) (by simp; omega) (.inr ⟨hm', HVV.out⟩)
              case measure => simp [intOf]; omega
          · have hdb' : b ≤ d := by omega
            rcases hcase with ⟨e10, e8, h9⟩ | ⟨e10, e8, h9⟩ | ⟨e10, e8⟩
            all_goals
              go_wp2_with (go_at_call 55; refine (HH.out _).mono ?_; rintro e u1 ⟨rfl, rfl⟩)
              go_round
              case rel => exact FIN.out _ _ (by omega) (by omega) (by simp; omega) (.inr ⟨hm', HVV.out⟩)
              case measure => simp [intOf]; omega
    · have hke : k = D.size := by omega
      have hlt' : ¬ (k : Int) < D.size := by omega
      subst hke
      by_cases hsix : o = false ∨ 4294967295 < v
      · have HF : Hid (Pl.intR s = .error 6) := H6.out HNE.out HALL.out (by
          rcases hsix with e | e
          · left
            refine Classical.byContradiction fun hc => ?_
            have : o = true := HO.out.2 (fun j hj => by
              rcases Int.lt_or_le (Pl.hx (Pl.byt D j)) b with q | q
              · exact q
              · exact absurd ⟨j, hj, q⟩ hc)
            rw [e] at this
            cases this
          · right
            rcases HV.out with q | q <;> omega)
        clear HALL HO HV HB H6 HOK HVS HNE
        cases o
        · clear hsix
          go_wp2_with fail
          go_ret3
          exact ⟨ints_no HF.out, rfl⟩
        · have hv6 : 4294967295 < v := by simpa using hsix
          clear hsix
          go_wp2_with fail
          go_ret3
          exact ⟨ints_no HF.out, rfl⟩
      · have hot : o = true := by cases o <;> simp_all
        have hv6 : ¬ 4294967295 < v := fun h => hsix (.inr h)
        have hvv : v = Pl.val D b D.size := by rcases HV.out with q | q; exact q; omega
        have HF : Hid (Pl.intR s = .ok (if Pl.uu l = true ∨ 2147483647 < v then ⟨#[117]⟩ else ⟨#[]⟩, v)) := by
          have := HOK.out HNE.out HALL.out (HO.out.1 hot) (by omega)
          rw [← hvv] at this
          exact this
        subst hot
        clear HALL HO HV HB H6 HOK HVS HNE hsix hvv
        by_cases h2 : 2147483647 < v
        · go_wp2_with fail
          go_ret3
          exact ⟨ints_ok HF.out (by rw [if_pos (.inr h2)]) rfl, rfl⟩
        · go_wp2_with fail
          go_ret3
          refine ⟨ints_ok HF.out ?_ rfl, rfl⟩
          rw [HS0.out]
          by_cases hu : Pl.uu l = true
          · rw [if_pos hu, if_pos (.inl hu)]
          · rw [if_neg hu, if_neg (by rintro (q | q); exact hu q; omega)]
end Go.Proofs.YtdplfflkmphpbaaGreatDoor.W
