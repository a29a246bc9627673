import Derived.Test.YteadglnenaiaaaaGreatDoorK11
import Derived.Test.YteadglnenaiaaaaGreatDoorK12
set_option linter.unusedVariables false
set_option linter.unusedSimpArgs false
namespace Go.Proofs.YteadglnenaiaaaaGreatDoor.W
open Go.RowKit
def GotS (s : ByteArray) (i : Nat) (e : Ending) : Prop := match Pl.tokF s i with
  | .ok (k, S, N, n) => e = .returned (.agg #[.int .i64 k, .string S, .int .i64 N, .int .i64 0, .int .i64 0, .int .i64 n, .int .i64 0, .int .i64 0])
  | .error f => e = .returned (.agg #[.int .i64 0, .string ⟨#[]⟩, .int .i64 0, .int .i64 0, .int .i64 0, .int .i64 0, .int .i64 f, .int .i64 i])
theorem gots_no {s : ByteArray} {i : Nat} {f : Int} (h : Pl.tokF s i = .error f) : GotS s i (.returned (.agg #[.int .i64 0, .string ⟨#[]⟩, .int .i64 0, .int .i64 0, .int .i64 0, .int .i64 0, .int .i64 f, .int .i64 i])) := by unfold GotS; rw [h]
theorem gots_ok {s S : ByteArray} {i n : Nat} {k N n' : Int} (h : Pl.tokF s i = .ok (k, S, N, n)) (hn : n' = n) : GotS s i (.returned (.agg #[.int .i64 k, .string S, .int .i64 N, .int .i64 0, .int .i64 0, .int .i64 n', .int .i64 0, .int .i64 0])) := by unfold GotS; rw [h, hn]
theorem ints_e {s : ByteArray} {e : Ending} {f : Int} (h : IntS s e) (hq : Pl.intR s = .error f) : e = .returned (.tuple #[.int .i64 0, .string ⟨#[]⟩, .int .i64 f]) := by unfold IntS at h; rw [hq] at h; exact h
theorem ints_v {s S : ByteArray} {e : Ending} {N : Int} (h : IntS s e) (hq : Pl.intR s = .ok (S, N)) : e = .returned (.tuple #[.int .i64 N, .string S, .int .i64 0]) := by unfold IntS at h; rw [hq] at h; exact h
set_option maxHeartbeats 8000000 in
set_option maxRecDepth 100000 in
theorem l5Token_word (s : ByteArray) (hs : s.size ≤ 1048576) (i : Nat) (hi : i < s.size) (hw : Pl.wch (Pl.byt s i) = true) (w : World) : Calls Tryz.prog 61 #[.string s, .int .i64 i] w fun e w' => GotS s i e ∧ Below w.heap.size w w' := by
  have hii : (i : Int) < s.size := by omega
  have hg := Pl.byt_get s i hi
  obtain ⟨c, hc⟩ : ∃ c, c = Pl.byt s i := ⟨_, rfl⟩
  rw [← hc] at hg hw
  have HC : Hid (c = Pl.byt s i) := hc
  clear hc
  go_enter Tryz.func61, Tryz.ntmps61
  go_wp2_with (go_at_call 44; refine (l5Word_any _ _).mono ?_; rintro e u1 ⟨rfl, hu1⟩; rw [hu1]; clear hu1; rw [hw])
  go_loop [7] (fun x => ∃ k : Nat, 1 ≤ k ∧ i + k ≤ s.size ∧ x = .int .i64 ((i + k : Nat) : Int) ∧ ∀ j, j < k → Pl.wch (Pl.byt s (i + j)) = true) (fun x => s.size - (intOf x).toNat)
  case atStart => exact ⟨1, by omega, by omega, by congr 1, fun j hj => by rw [show j = 0 by omega, Nat.add_zero, ← HC.out]; exact hw⟩
  case round =>
    obtain ⟨k, hk1, hk2, rfl, hall⟩ := hrel
    have HA : Hid (∀ j, j < k → Pl.wch (Pl.byt s (i + j)) = true) := hall
    clear hall
    obtain ⟨m, hm⟩ : ∃ m, m = i + k := ⟨_, rfl⟩
    rw [← hm]
    have HM : Hid (m = i + k) := hm
    have hms : m ≤ s.size := by omega
    have him : i < m := by omega
    have him' : (i : Int) ≤ m := by omega
    have hms' : (m : Int) ≤ s.size := by omega
    clear hm hk2
    by_cases hgo : m < s.size ∧ Pl.wch (Pl.byt s m) = true
    · obtain ⟨hm1, hm2⟩ := hgo
      have hm1' : (m : Int) < s.size := by omega
      have hgm := Pl.byt_get s m hm1
      obtain ⟨b, hb⟩ : ∃ b, b = Pl.byt s m := ⟨_, rfl⟩
      rw [← hb] at hgm hm2
      have HBB : Hid (b = Pl.byt s m) := hb
      clear hb
      go_wp2_with (go_at_call 44; refine (l5Word_any _ _).mono ?_; rintro e u1 ⟨rfl, hu1⟩; rw [hu1]; clear hu1; rw [hm2])
      go_round
      case rel => exact ⟨k + 1, by omega, by have := HM.out; omega, by congr 1; have := HM.out; omega, fun j hj => by
        by_cases e : j = k
        · rw [e, ← HM.out, ← HBB.out]; exact hm2
        · exact HA.out j (by omega)⟩
      case measure => simp [intOf]; omega
    · have hrun : Pl.run Pl.wch (s.extract i s.size) = k := Pl.run_eq ⟨by rw [Pl.ext_sz]; have := HM.out; omega, fun j hj => by rw [Pl.ext_byt s i j (by have := HM.out; omega)]; exact HA.out j hj, by
        rcases Nat.lt_or_ge m s.size with e | e
        · right
          rw [Pl.ext_byt s i k (by have := HM.out; omega), ← HM.out]
          cases hq : Pl.wch (Pl.byt s m)
          · rfl
          · exact absurd ⟨e, hq⟩ hgo
        · left; rw [Pl.ext_sz]; have := HM.out; omega⟩
      have hT : Pl.tokF s i = (match Pl.wrdR (s.extract i m) with | .error f => .error f | .ok (k, S, N) => .ok (k, S, N, m)) := by
        unfold Pl.tokF
        rw [← HC.out, if_pos hw, hrun, ← HM.out]
        rfl
      have hD : (s.extract i m).size = m - i := by rw [Pl.ext_size]; omega
      have hd0 : Pl.byt (s.extract i m) 0 = c := by rw [Pl.byt_ext s i m 0 (by omega) hms, Nat.add_zero, HC.out]
      obtain ⟨D, hDD⟩ : ∃ D, D = s.extract i m := ⟨_, rfl⟩
      rw [← hDD] at hT hD hd0
      have HDD : Hid (s.extract i m = D) := hDD.symm
      have hex : s.extract i m = D := hDD.symm
      clear hDD hrun HA
      have hW : Pl.wrdR D = if Pl.dg c = true then (match Pl.intR D with | .error f => .error f | .ok (S, N) => .ok (3, S, N)) else if 40 < D.size then .error 8 else if Pl.isK D = true then .ok (2, D, 0) else .ok (1, D, 0) := by unfold Pl.wrdR; rw [hd0]; rfl
      rw [hW] at hT
      clear hW
      have hds : D.size ≤ 1048576 := by omega
      have hdp : 0 < D.size := by omega
      have HIN : Hid (∀ u : World, Calls Tryz.prog 68 #[.string D] u fun e w' => IntS D e ∧ w' = u) := fun u => l5Int_is D hds hdp u
      have HKE : Hid (∀ (u : World) (g : Nat), g = u.heap.size → Calls Tryz.prog 26 #[.slice (some ⟨g, 0, none⟩) 23 23, .string D] (u.alloc (.cells Pl.kyTab 9)) fun e w' => e = .returned (.bool (Pl.isK D)) ∧ w' = u.alloc (.cells Pl.kyTab 9)) := fun u g hg => by rw [hg]; exact l5In_keys D u
      have HDZ : Hid (D.size = m - i) := hD
      clear hD hd0
      have hstop : (m = s.size) ∨ (m < s.size ∧ Pl.wch (Pl.byt s m) = false) := by
        rcases Nat.lt_or_ge m s.size with e | e
        · right
          refine ⟨e, ?_⟩
          cases hq : Pl.wch (Pl.byt s m)
          · rfl
          · exact absurd ⟨e, hq⟩ hgo
        · left; omega
      clear hgo
      cases hdg : Pl.dg c
      · rw [hdg, if_neg (by decide)] at hT
        by_cases h40 : 40 < D.size
        · rw [if_pos h40] at hT
          have HT : Hid (Pl.tokF s i = .error 8) := hT
          have h40' : (40 : Int) < D.size := by omega
          clear hT h40
          rcases hstop with hm0 | ⟨hm0, hm3⟩
          · have hm0' : ¬ (m : Int) < s.size := by omega
            clear hm0
            go_wp2_with (first | (go_at_call 42; refine (l4Digit_any _ _).mono ?_; rintro e u1 ⟨rfl, hu1⟩; rw [hu1]; clear hu1; rw [hdg]))
            exact bodyPost_ret (v := .agg #[.int .i64 0, .string ⟨#[]⟩, .int .i64 0, .int .i64 0, .int .i64 0, .int .i64 0, .int .i64 8, .int .i64 i]) (by simp [results, Tryz.results61, go_sem]) rfl ⟨gots_no HT.out, (below_allocL _ _).trans ((below_allocL _ _).mono (by simp))⟩
          · have hm0' : (m : Int) < s.size := by omega
            have hgm := Pl.byt_get s m hm0
            obtain ⟨b, hb⟩ : ∃ b, b = Pl.byt s m := ⟨_, rfl⟩
            rw [← hb] at hgm hm3
            clear hb
            go_wp2_with (first | (go_at_call 44; refine (l5Word_any _ _).mono ?_; rintro e u1 ⟨rfl, hu1⟩; rw [hu1]; clear hu1; rw [hm3]) | (go_at_call 42; refine (l4Digit_any _ _).mono ?_; rintro e u1 ⟨rfl, hu1⟩; rw [hu1]; clear hu1; rw [hdg]))
            exact bodyPost_ret (v := .agg #[.int .i64 0, .string ⟨#[]⟩, .int .i64 0, .int .i64 0, .int .i64 0, .int .i64 0, .int .i64 8, .int .i64 i]) (by simp [results, Tryz.results61, go_sem]) rfl ⟨gots_no HT.out, (below_allocL _ _).trans ((below_allocL _ _).mono (by simp))⟩
        · rw [if_neg h40] at hT
          have h40' : ¬ (40 : Int) < D.size := by omega
          clear h40
          cases hk : Pl.isK D
          · rw [hk, if_neg (by decide)] at hT
            have HT : Hid (Pl.tokF s i = .ok (1, D, 0, m)) := hT
            clear hT
            rcases hstop with hm0 | ⟨hm0, hm3⟩
            · have hm0' : ¬ (m : Int) < s.size := by omega
              clear hm0
              go_wp2_with (first | (go_at_call 42; refine (l4Digit_any _ _).mono ?_; rintro e u1 ⟨rfl, hu1⟩; rw [hu1]; clear hu1; rw [hdg]) | (go_at_call 43; refine (l5Keys_is _).mono ?_; rintro e u1 ⟨rfl, hu1⟩; rw [hu1]; clear hu1) | (go_at_call 26; refine (HKE.out _ _ (by simp)).mono ?_; rintro e u1 ⟨rfl, hu1⟩; rw [hu1]; clear hu1; rw [hk]))
              exact bodyPost_ret (v := .agg #[.int .i64 1, .string D, .int .i64 0, .int .i64 0, .int .i64 0, .int .i64 m, .int .i64 0, .int .i64 0]) (by simp [results, Tryz.results61, go_sem]) rfl ⟨gots_ok HT.out rfl, ((below_allocL _ _).trans ((below_allocL _ _).mono (by simp))).trans ((below_allocL _ _).mono (by simp; omega))⟩
            · have hm0' : (m : Int) < s.size := by omega
              have hgm := Pl.byt_get s m hm0
              obtain ⟨b, hb⟩ : ∃ b, b = Pl.byt s m := ⟨_, rfl⟩
              rw [← hb] at hgm hm3
              clear hb
              go_wp2_with (first | (go_at_call 44; refine (l5Word_any _ _).mono ?_; rintro e u1 ⟨rfl, hu1⟩; rw [hu1]; clear hu1; rw [hm3]) | (go_at_call 42; refine (l4Digit_any _ _).mono ?_; rintro e u1 ⟨rfl, hu1⟩; rw [hu1]; clear hu1; rw [hdg]) | (go_at_call 43; refine (l5Keys_is _).mono ?_; rintro e u1 ⟨rfl, hu1⟩; rw [hu1]; clear hu1) | (go_at_call 26; refine (HKE.out _ _ (by simp)).mono ?_; rintro e u1 ⟨rfl, hu1⟩; rw [hu1]; clear hu1; rw [hk]))
              exact bodyPost_ret (v := .agg #[.int .i64 1, .string D, .int .i64 0, .int .i64 0, .int .i64 0, .int .i64 m, .int .i64 0, .int .i64 0]) (by simp [results, Tryz.results61, go_sem]) rfl ⟨gots_ok HT.out rfl, ((below_allocL _ _).trans ((below_allocL _ _).mono (by simp))).trans ((below_allocL _ _).mono (by simp; omega))⟩
          · rw [hk, if_pos rfl] at hT
            have HT : Hid (Pl.tokF s i = .ok (2, D, 0, m)) := hT
            clear hT
            rcases hstop with hm0 | ⟨hm0, hm3⟩
            · have hm0' : ¬ (m : Int) < s.size := by omega
              clear hm0
              go_wp2_with (first | (go_at_call 42; refine (l4Digit_any _ _).mono ?_; rintro e u1 ⟨rfl, hu1⟩; rw [hu1]; clear hu1; rw [hdg]) | (go_at_call 43; refine (l5Keys_is _).mono ?_; rintro e u1 ⟨rfl, hu1⟩; rw [hu1]; clear hu1) | (go_at_call 26; refine (HKE.out _ _ (by simp)).mono ?_; rintro e u1 ⟨rfl, hu1⟩; rw [hu1]; clear hu1; rw [hk]))
              exact bodyPost_ret (v := .agg #[.int .i64 2, .string D, .int .i64 0, .int .i64 0, .int .i64 0, .int .i64 m, .int .i64 0, .int .i64 0]) (by simp [results, Tryz.results61, go_sem]) rfl ⟨gots_ok HT.out rfl, ((below_allocL _ _).trans ((below_allocL _ _).mono (by simp))).trans ((below_allocL _ _).mono (by simp; omega))⟩
            · have hm0' : (m : Int) < s.size := by omega
              have hgm := Pl.byt_get s m hm0
              obtain ⟨b, hb⟩ : ∃ b, b = Pl.byt s m := ⟨_, rfl⟩
              rw [← hb] at hgm hm3
              clear hb
              go_wp2_with (first | (go_at_call 44; refine (l5Word_any _ _).mono ?_; rintro e u1 ⟨rfl, hu1⟩; rw [hu1]; clear hu1; rw [hm3]) | (go_at_call 42; refine (l4Digit_any _ _).mono ?_; rintro e u1 ⟨rfl, hu1⟩; rw [hu1]; clear hu1; rw [hdg]) | (go_at_call 43; refine (l5Keys_is _).mono ?_; rintro e u1 ⟨rfl, hu1⟩; rw [hu1]; clear hu1) | (go_at_call 26; refine (HKE.out _ _ (by simp)).mono ?_; rintro e u1 ⟨rfl, hu1⟩; rw [hu1]; clear hu1; rw [hk]))
              exact bodyPost_ret (v := .agg #[.int .i64 2, .string D, .int .i64 0, .int .i64 0, .int .i64 0, .int .i64 m, .int .i64 0, .int .i64 0]) (by simp [results, Tryz.results61, go_sem]) rfl ⟨gots_ok HT.out rfl, ((below_allocL _ _).trans ((below_allocL _ _).mono (by simp))).trans ((below_allocL _ _).mono (by simp; omega))⟩
      · rw [if_pos hdg] at hT
        cases hq : Pl.intR D with
        | error f =>
          rw [hq] at hT
          have HT : Hid (Pl.tokF s i = .error f) := hT
          have hf : f ≠ 0 := by rcases Pl.intR_f hq with e | e <;> omega
          have e1 : (f != 0) = true := by simp [hf]
          have e2 : (f == 0) = false := by simp [hf]
          clear hT hf
          rcases hstop with hm0 | ⟨hm0, hm3⟩
          · have hm0' : ¬ (m : Int) < s.size := by omega
            clear hm0
            go_wp2_with (first | (go_at_call 42; refine (l4Digit_any _ _).mono ?_; rintro e u1 ⟨rfl, hu1⟩; rw [hu1]; clear hu1; rw [hdg]) | (go_at_call 68; refine (HIN.out _).mono ?_; rintro e u1 ⟨hi1, hu1⟩; rw [hu1]; clear hu1; rw [ints_e hi1 hq]; clear hi1))
            exact bodyPost_ret (v := .agg #[.int .i64 0, .string ⟨#[]⟩, .int .i64 0, .int .i64 0, .int .i64 0, .int .i64 0, .int .i64 f, .int .i64 i]) (by simp [results, Tryz.results61, go_sem]) rfl ⟨gots_no HT.out, (below_allocL _ _).trans ((below_allocL _ _).mono (by simp))⟩
          · have hm0' : (m : Int) < s.size := by omega
            have hgm := Pl.byt_get s m hm0
            obtain ⟨b, hb⟩ : ∃ b, b = Pl.byt s m := ⟨_, rfl⟩
            rw [← hb] at hgm hm3
            clear hb
            go_wp2_with (first | (go_at_call 44; refine (l5Word_any _ _).mono ?_; rintro e u1 ⟨rfl, hu1⟩; rw [hu1]; clear hu1; rw [hm3]) | (go_at_call 42; refine (l4Digit_any _ _).mono ?_; rintro e u1 ⟨rfl, hu1⟩; rw [hu1]; clear hu1; rw [hdg]) | (go_at_call 68; refine (HIN.out _).mono ?_; rintro e u1 ⟨hi1, hu1⟩; rw [hu1]; clear hu1; rw [ints_e hi1 hq]; clear hi1))
            exact bodyPost_ret (v := .agg #[.int .i64 0, .string ⟨#[]⟩, .int .i64 0, .int .i64 0, .int .i64 0, .int .i64 0, .int .i64 f, .int .i64 i]) (by simp [results, Tryz.results61, go_sem]) rfl ⟨gots_no HT.out, (below_allocL _ _).trans ((below_allocL _ _).mono (by simp))⟩
        | ok r =>
          obtain ⟨S, N⟩ := r
          rw [hq] at hT
          have HT : Hid (Pl.tokF s i = .ok (3, S, N, m)) := hT
          clear hT
          rcases hstop with hm0 | ⟨hm0, hm3⟩
          · have hm0' : ¬ (m : Int) < s.size := by omega
            clear hm0
            go_wp2_with (first | (go_at_call 42; refine (l4Digit_any _ _).mono ?_; rintro e u1 ⟨rfl, hu1⟩; rw [hu1]; clear hu1; rw [hdg]) | (go_at_call 68; refine (HIN.out _).mono ?_; rintro e u1 ⟨hi1, hu1⟩; rw [hu1]; clear hu1; rw [ints_v hi1 hq]; clear hi1))
            exact bodyPost_ret (v := .agg #[.int .i64 3, .string S, .int .i64 N, .int .i64 0, .int .i64 0, .int .i64 m, .int .i64 0, .int .i64 0]) (by simp [results, Tryz.results61, go_sem]) rfl ⟨gots_ok HT.out rfl, (below_allocL _ _).trans ((below_allocL _ _).mono (by simp))⟩
          · have hm0' : (m : Int) < s.size := by omega
            have hgm := Pl.byt_get s m hm0
            obtain ⟨b, hb⟩ : ∃ b, b = Pl.byt s m := ⟨_, rfl⟩
            rw [← hb] at hgm hm3
            clear hb
            go_wp2_with (first | (go_at_call 44; refine (l5Word_any _ _).mono ?_; rintro e u1 ⟨rfl, hu1⟩; rw [hu1]; clear hu1; rw [hm3]) | (go_at_call 42; refine (l4Digit_any _ _).mono ?_; rintro e u1 ⟨rfl, hu1⟩; rw [hu1]; clear hu1; rw [hdg]) | (go_at_call 68; refine (HIN.out _).mono ?_; rintro e u1 ⟨hi1, hu1⟩; rw [hu1]; clear hu1; rw [ints_v hi1 hq]; clear hi1))
            exact bodyPost_ret (v := .agg #[.int .i64 3, .string S, .int .i64 N, .int .i64 0, .int .i64 0, .int .i64 m, .int .i64 0, .int .i64 0]) (by simp [results, Tryz.results61, go_sem]) rfl ⟨gots_ok HT.out rfl, (below_allocL _ _).trans ((below_allocL _ _).mono (by simp))⟩
end Go.Proofs.YteadglnenaiaaaaGreatDoor.W
