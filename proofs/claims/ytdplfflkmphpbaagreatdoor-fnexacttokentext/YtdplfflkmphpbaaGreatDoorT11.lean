import Derived.Test.YtdplfflkmphpbaaGreatDoorT09
import Derived.Test.YtdplfflkmphpbaaGreatDoorT10
import Derived.Test.YtdplfflkmphpbaaGreatDoorT08
set_option linter.unusedVariables false
set_option linter.unusedSimpArgs false
namespace Go.Proofs.YtdplfflkmphpbaaGreatDoor.W
open Go.RowKit
def GotS (s : ByteArray) (i : Nat) (e : Ending) : Prop := match Pl.tokF s i with
  | .ok (k, S, N, n) => e = .returned (.agg #[.int .i64 k, .string S, .int .i64 N, .int .i64 0, .int .i64 0, .int .i64 n, .int .i64 0, .int .i64 0])
  | .error f => e = .returned (.agg #[.int .i64 0, .string ⟨#[]⟩, .int .i64 0, .int .i64 0, .int .i64 0, .int .i64 0, .int .i64 f, .int .i64 i])
theorem gots_no {s : ByteArray} {i : Nat} {f : Int} (h : Pl.tokF s i = .error f) : GotS s i (.returned (.agg #[.int .i64 0, .string ⟨#[]⟩, .int .i64 0, .int .i64 0, .int .i64 0, .int .i64 0, .int .i64 f, .int .i64 i])) := by unfold GotS; rw [h]
theorem gots_ok {s S : ByteArray} {i n : Nat} {k N n' : Int} (h : Pl.tokF s i = .ok (k, S, N, n)) (hn : n' = n) : GotS s i (.returned (.agg #[.int .i64 k, .string S, .int .i64 N, .int .i64 0, .int .i64 0, .int .i64 n', .int .i64 0, .int .i64 0])) := by unfold GotS; rw [h, hn]
theorem ints_e {s : ByteArray} {e : Ending} {f : Int} (h : IntS s e) (hq : Pl.intR s = .error f) : e = .returned (.tuple #[.int .i64 0, .string ⟨#[]⟩, .int .i64 f]) := by unfold IntS at h; rw [hq] at h; exact h
theorem ints_v {s S : ByteArray} {e : Ending} {N : Int} (h : IntS s e) (hq : Pl.intR s = .ok (S, N)) : e = .returned (.tuple #[.int .i64 N, .string S, .int .i64 0]) := by unfold IntS at h; rw [hq] at h; exact h
set_option maxHeartbeats 8000000 in
set_option maxRecDepth 100000 in
theorem l5Token_word (s : ByteArray) (hs : s.size ≤ 1048576) (i : Nat) (hi : i < s.size) (hw : Pl.wch (Pl.byt s i) = true) (w : World) : Calls Tryz.prog 25 #[.string s, .int .i64 i] w fun e w' => GotS s i e ∧ Below w.heap.size w w' := by
  have hii : (i : Int) < s.size := by omega
  have hg := Pl.byt_get s i hi
  obtain ⟨c, hc⟩ : ∃ c, c = Pl.byt s i := ⟨_, rfl⟩
  rw [← hc] at hg hw
  have HC : Hid (c = Pl.byt s i) := hc
  clear hc
  go_enter Tryz.func25, Tryz.ntmps25
  go_wp2_with (go_at_call 40; refine (l5Word_any _ _).mono ?_; rintro e u1 ⟨rfl, hu1⟩; rw [hu1]; clear hu1; rw [hw])
  go_loop [7] (fun x => ∃ k : Nat, 1 ≤ k ∧ i + k ≤ s.size ∧ x = .int .i64 ((i + k : Nat) : Int) ∧ ∀ j, j < k → Pl.wch (Pl.byt s (i + j)) = true) (fun x => s.size - (intOf x).toNat)
  case atStart => exact ⟨1, by omega, by omega, by congr 1, fun j hj => by rw [show j = 0 by omega, Nat.add_zero, ← HC.out]; exact hw⟩
  case round =>
    obtain ⟨k, hk1, hk2, rfl, hall⟩ := hrel
    have HA : Hid (∀ j, j < k → Pl.wch (Pl.byt s (i + j)) = true) := hall
    clear hall
    obtain ⟨m, hm⟩ : ∃ m, m = i + k := ⟨_, rfl⟩
    rw [← hm]
    have HM : Hid (m = i + k) := hm
    have hms : m ≤ s.size := by omega
    have him : i < m := by omega
    have him' : (i : Int) ≤ m := by omega
    have hms' : (m : Int) ≤ s.size := by omega
    clear hm hk2
    by_cases hgo : m < s.size ∧ Pl.wch (Pl.byt s m) = true
    · obtain ⟨hm1, hm2⟩ := hgo
      have hm1' : (m : Int) < s.size := by omega
      have hgm := Pl.byt_get s m hm1
      obtain ⟨b, hb⟩ : ∃ b, b = Pl.byt s m := ⟨_, rfl⟩
      rw [← hb] at hgm hm2
      have HBB : Hid (b = Pl.byt s m) := hb
      clear hb
      go_wp2_with (go_at_call 40; refine (l5Word_any _ _).mono ?_; rintro e u1 ⟨rfl, hu1⟩; rw [hu1]; clear hu1; rw [hm2])
      go_round
      case rel => exact ⟨k + 1, by omega, by have := HM.out; omega, by congr 1; have := HM.out; omega, fun j hj => by
        by_cases e : j = k
        · rw [e, ← HM.out, ← HBB.out]; exact hm2
        · exact HA.out j (by omega)⟩
      case measure => simp [intOf]; omega
    · have hrun : Pl.run Pl.wch (s.extract i s.size) = k := Pl.run_eq ⟨by rw [Pl.ext_sz]; have := HM.out; omega, fun j hj => by rw [Pl.ext_byt s i j (by have := HM.out; omega)]; exact HA.out j hj, by
        rcases Nat.lt_or_ge m s.size with e | e
        · right
          rw [Pl.ext_byt s i k (by have := HM.out; omega), ← HM.out]
          cases hq : Pl.wch (Pl.byt s m)
          · rfl
          · exact absurd ⟨e, hq⟩ hgo
        · left; rw [Pl.ext_sz]; have := HM.out; omega⟩
      have hT : Pl.tokF s i = (match Pl.wrdR (s.extract i m) with | .error f => .error f | .ok (k, S, N) => .ok (k, S, N, m)) := by
        unfold Pl.tokF
        rw [← HC.out, if_pos hw, hrun, ← HM.out]
        rfl
      have hD : (s.extract i m).size = m - i := by rw [Pl.ext_size]; omega
      have hd0 : Pl.byt (s.extract i m) 0 = c := by rw [Pl.byt_ext s i m 0 (by omega) hms, Nat.add_zero, HC.out]
      obtain ⟨D, hDD⟩ : ∃ D, D = s.extract i m := ⟨_, rfl⟩
      rw [← hDD] at hT hD hd0
      have HDD : Hid (s.extract i m = D) := hDD.symm
      have hex : s.extract i m = D := hDD.symm
      clear hDD hrun HA
      have hW : Pl.wrdR D = if Pl.dg c = true then (match Pl.intR D with | .error f => .error f | .ok (S, N) => .ok (3, S, N)) else if 40 < D.size then .error 8 else if Pl.isK D = true then .ok (2, D, 0) else .ok (1, D, 0) := by unfold Pl.wrdR; rw [hd0]; rfl
      rw [hW] at hT
      clear hW
      have hds : D.size ≤ 1048576 := by omega
      have hdp : 0 < D.size := by omega
      have HIN : Hid (∀ u : World, Calls Tryz.prog 42 #[.string D] u fun e w' => IntS D e ∧ w' = u) := fun u => l5Int_is D hds hdp u
      have HKE : Hid (∀ (u : World) (g : Nat), g = u.heap.size → Calls Tryz.prog 43 #[.slice (some ⟨g, 0, none⟩) 23 23, .string D] (u.alloc (.cells Pl.kyTab 9)) fun e w' => e = .returned (.bool (Pl.isK D)) ∧ w' = u.alloc (.cells Pl.kyTab 9)) := fun u g hg => by rw [hg]; exact l5In_keys D u
      have HDZ : Hid (D.size = m - i) := hD
      clear hD hd0
      have hstop : (m = s.size) ∨ (m < s.size ∧ Pl.wch (Pl.byt s m) = false) := by
        rcases Nat.lt_or_ge m s.size with e | e
        · right
          refine ⟨e, ?_⟩
          cases hq : Pl.wch (Pl.byt s m)
          · rfl
          · exact absurd ⟨e, hq⟩ hgo
        · left; omega
      clear hgo
      cases hdg : Pl.dg c
      · rw [hdg, if_neg (by decide)] at hT
        by_cases h40 : 40 < D.size
        · rw [if_pos h40] at hT
          have HT : Hid (Pl.tokF s i = .error 8) := hT
          have h40' : (40 : Int) < D.size := by omega
          clear hT h40
          rcases hstop with hm0 | ⟨hm0, hm3⟩
          · have hm0' : ¬ (m : Int) < s.size := by omega
            clear hm0
            go_wp2_with (first | (go_at_call 41; refine (l4Digit_any _ _).mono ?_; rintro e u1 ⟨rfl, hu1⟩; rw [hu1]; clear hu1; rw [hdg]))
            exact bodyPost_ret (v := .agg #[.int .i64 0, .string ⟨#[]⟩, .int .i64 0, .int .i64 0, .int .i64 0, .int .i64 0, .int .i64 8, .int .i64 i]) (by simp [results, Tryz.results25, go_sem]) rfl ⟨gots_no HT.out, (below_allocL _ _).trans ((below_allocL _ _).mono (by simp))⟩
          · have hm0' : (m : Int) < s.size := by omega
            have hgm := Pl.byt_get s m hm0
            obtain ⟨b, hb⟩ : ∃ b, b = Pl.byt s m := ⟨_, rfl⟩
            rw [← hb] at hgm hm3
            clear hb
            go_wp2_with (first | (go_at_call 40; refine (l5Word_any _ _).mono ?_; rintro e u1 ⟨rfl, hu1⟩; rw [hu1]; clear hu1; rw [hm3]) | (go_at_call 41; refine (l4Digit_any _ _).mono ?_; rintro e u1 ⟨rfl, hu1⟩; rw [hu1]; clear hu1; rw [hdg]))
            exact bodyPost_ret (v := .agg #[.int .i64 0, .string ⟨#[]⟩, .int .i64 0, .int .i64 0, .int .i64 0, .int .i64 0, .int .i64 8, .int .i64 i]) (by simp [results, Tryz.results25, go_sem]) rfl ⟨gots_no HT.out, (below_allocL _ _).trans ((below_allocL _ _).mono (by simp))⟩
        · rw [if_neg h40] at hT
          have h40' : ¬ (40 : Int) < D.size := by omega
          clear h40
          cases hk : Pl.isK D
          · rw [hk, if_neg (by decide)] at hT
            have HT : Hid (Pl.tokF s i = .ok (1, D, 0, m)) := hT
            clear hT
            rcases hstop with hm0 | ⟨hm0, hm3⟩
            · have hm0' : ¬ (m : Int) < s.size := by omega
              clear hm0
              go_wp2_with (first | (go_at_call 41; refine (l4Digit_any _ _).mono ?_; rintro e u1 ⟨rfl, hu1⟩; rw [hu1]; clear hu1; rw [hdg]) | (go_at_call 44; refine (l5Keys_is _).mono ?_; rintro e u1 ⟨rfl, hu1⟩; rw [hu1]; clear hu1) | (go_at_call 43; refine (HKE.out _ _ (by simp)).mono ?_; rintro e u1 ⟨rfl, hu1⟩; rw [hu1]; clear hu1; rw [hk]))
              exact bodyPost_ret (v := .agg #[.int .i64 1, .string D, .int .i64 0, .int .i64 0, .int .i64 0, .int .i64 m, .int .i64 0, .int .i64 0]) (by simp [results, Tryz.results25, go_sem]) rfl ⟨gots_ok HT.out rfl, ((below_allocL _ _).trans ((below_allocL _ _).mono (by simp))).trans ((below_allocL _ _).mono (by simp; omega))⟩
            · have hm0' : (m : Int) < s.size := by omega
              have hgm := Pl.byt_get s m hm0
              obtain ⟨b, hb⟩ : ∃ b, b = Pl.byt s m := ⟨_, rfl⟩
              rw [← hb] at hgm hm3
              clear hb
              go_wp2_with (first | (go_at_call 40; refine (l5Word_any _ _).mono ?_; rintro e u1 ⟨rfl, hu1⟩; rw [hu1]; clear hu1; rw [hm3]) | (go_at_call 41; refine (l4Digit_any _ _).mono ?_; rintro e u1 ⟨rfl, hu1⟩; rw [hu1]; clear hu1; rw [hdg]) | (go_at_call 44; refine (l5Keys_is _).mono ?_; rintro e u1 ⟨rfl, hu1⟩; rw [hu1]; clear hu1) | (go_at_call 43; refine (HKE.out _ _ (by simp)).mono ?_; rintro e u1 ⟨rfl, hu1⟩; rw [hu1]; clear hu1; rw [hk]))
              exact bodyPost_ret (v := .agg #[.int .i64 1, .string D, .int .i64 0, .int .i64 0, .int .i64 0, .int .i64 m, .int .i64 0, .int .i64 0]) (by simp [results, Tryz.results25, go_sem]) rfl ⟨gots_ok HT.out rfl, ((below_allocL _ _).trans ((below_allocL _ _).mono (by simp))).trans ((below_allocL _ _).mono (by simp; omega))⟩
          · rw [hk, if_pos rfl] at hT
            have HT : Hid (Pl.tokF s i = .ok (2, D, 0, m)) := hT
            clear hT
            rcases hstop with hm0 | ⟨hm0, hm3⟩
            · have hm0' : ¬ (m : Int) < s.size := by omega
              clear hm0
              go_wp2_with (first | (go_at_call 41; refine (l4Digit_any _ _).mono ?_; rintro e u1 ⟨rfl, hu1⟩; rw [hu1]; clear hu1; rw [hdg]) | (go_at_call 44; refine (l5Keys_is _).mono ?_; rintro e u1 ⟨rfl, hu1⟩; rw [hu1]; clear hu1) | (go_at_call 43; refine (HKE.out _ _ (by simp)).mono ?_; rintro e u1 ⟨rfl, hu1⟩; rw [hu1]; clear hu1; rw [hk]))
              exact bodyPost_ret (v := .agg #[.int .i64 2, .string D, .int .i64 0, .int .i64 0, .int .i64 0, .int .i64 m, .int .i64 0, .int .i64 0]) (by simp [results, Tryz.results25, go_sem]) rfl ⟨gots_ok HT.out rfl, ((below_allocL _ _).trans ((below_allocL _ _).mono (by simp))).trans ((below_allocL _ _).mono (by simp; omega))⟩
            · have hm0' : (m : Int) < s.size := by omega
              have hgm := Pl.byt_get s m hm0
              obtain ⟨b, hb⟩ : ∃ b, b = Pl.byt s m := ⟨_, rfl⟩
              rw [← hb] at hgm hm3
              clear hb
              go_wp2_with (first | (go_at_call 40; refine (l5Word_any _ _).mono ?_; rintro e u1 ⟨rfl, hu1⟩; rw [hu1]; clear hu1; rw [hm3]) | (go_at_call 41; refine (l4Digit_any _ _).mono ?_; rintro e u1 ⟨rfl, hu1⟩; rw [hu1]; clear hu1; rw [hdg]) | (go_at_call 44; refine (l5Keys_is _).mono ?_; rintro e u1 ⟨rfl, hu1⟩; rw [hu1]; clear hu1) | (go_at_call 43; refine (HKE.out _ _ (by simp)).mono ?_; rintro e u1 ⟨rfl, hu1⟩; rw [hu1]; clear hu1; rw [hk]))
              exact bodyPost_ret (v := .agg #[.int .i64 2, .string D, .int .i64 0, .int .i64 0, .int .i64 0, .int .i64 m, .int .i64 0, .int .i64 0]) (by simp [results, Tryz.results25, go_sem]) rfl ⟨gots_ok HT.out rfl, ((below_allocL _ _).trans ((below_allocL _ _).mono (by simp))).trans ((below_allocL _ _).mono (by simp; omega))⟩
      · rw [if_pos hdg] at hT
        cases hq : Pl.intR D with
        | error f =>
          rw [hq] at hT
          have HT : Hid (Pl.tokF s i = .error f) := hT
          have hf : f ≠ 0 := by rcases Pl.intR_f hq with e | e <;> omega
          have e1 : (f != 0) = true := by simp [hf]
          have e2 : (f == 0) = false := by simp [hf]
          clear hT hf
          rcases hstop with hm0 | ⟨hm0, hm3⟩
          · have hm0' : ¬ (m : Int) < s.size := by omega
            clear hm0
            go_wp2_with (first | (go_at_call 41; refine (l4Digit_any _ _).mono ?_; rintro e u1 ⟨rfl, hu1⟩; rw [hu1]; clear hu1; rw [hdg]) | (go_at_call 42; refine (HIN.out _).mono ?_; rintro e u1 ⟨hi1, hu1⟩; rw [hu1]; clear hu1; rw [ints_e hi1 hq]; clear hi1))
            exact bodyPost_ret (v := .agg #[.int .i64 0, .string ⟨#[]⟩, .int .i64 0, .int .i64 0, .int .i64 0, .int .i64 0, .int .i64 f, .int .i64 i]) (by simp [results, Tryz.results25, go_sem]) rfl ⟨gots_no HT.out, (below_allocL _ _).trans ((below_allocL _ _).mono (by simp))⟩
          · have hm0' : (m : Int) < s.size := by omega
            have hgm := Pl.byt_get s m hm0
            obtain ⟨b, hb⟩ : ∃ b, b = Pl.byt s m := ⟨_, rfl⟩
            rw [← hb] at hgm hm3
            clear hb
            go_wp2_with (first | (go_at_call 40; refine (l5Word_any _ _).mono ?_; rintro e u1 ⟨rfl, hu1⟩; rw [hu1]; clear hu1; rw [hm3]) | (go_at_call 41; refine (l4Digit_any _ _).mono ?_; rintro e u1 ⟨rfl, hu1⟩; rw [hu1]; clear hu1; rw [hdg]) | (go_at_call 42; refine (HIN.out _).mono ?_; rintro e u1 ⟨hi1, hu1⟩; rw [hu1]; clear hu1; rw [ints_e hi1 hq]; clear hi1))
            exact bodyPost_ret (v := .agg #[.int .i64 0, .string ⟨#[]⟩, .int .i64 0, .int .i64 0, .int .i64 0, .int .i64 0, .int .i64 f, .int .i64 i]) (by simp [results, Tryz.results25, go_sem]) rfl ⟨gots_no HT.out, (below_allocL _ _).trans ((below_allocL _ _).mono (by simp))⟩
        | ok r =>
          obtain ⟨S, N⟩ := r
          rw [hq] at hT
          have HT : Hid (Pl.tokF s i = .ok (3, S, N, m)) := hT
          clear hT
          rcases hstop with hm0 | ⟨hm0, hm3⟩
          · have hm0' : ¬ (m : Int) < s.size := by omega
            clear hm0
            go_wp2_with (first | (go_at_call 41; refine (l4Digit_any _ _).mono ?_; rintro e u1 ⟨rfl, hu1⟩; rw [hu1]; clear hu1; rw [hdg]) | (go_at_call 42; refine (HIN.out _).mono ?_; rintro e u1 ⟨hi1, hu1⟩; rw [hu1]; clear hu1; rw [ints_v hi1 hq]; clear hi1))
            exact bodyPost_ret (v := .agg #[.int .i64 3, .string S, .int .i64 N, .int .i64 0, .int .i64 0, .int .i64 m, .int .i64 0, .int .i64 0]) (by simp [results, Tryz.results25, go_sem]) rfl ⟨gots_ok HT.out rfl, (below_allocL _ _).trans ((below_allocL _ _).mono (by simp))⟩
          · have hm0' : (m : Int) < s.size := by omega
            have hgm := Pl.byt_get s m hm0
            obtain ⟨b, hb⟩ : ∃ b, b = Pl.byt s m := ⟨_, rfl⟩
            rw [← hb] at hgm hm3
            clear hb
            go_wp2_with (first | (go_at_call 40; refine (l5Word_any _ _).mono ?_; rintro e u1 ⟨rfl, hu1⟩; rw [hu1]; clear hu1; rw [hm3]) | (go_at_call 41; refine (l4Digit_any _ _).mono ?_; rintro e u1 ⟨rfl, hu1⟩; rw [hu1]; clear hu1; rw [hdg]) | (go_at_call 42; refine (HIN.out _).mono ?_; rintro e u1 ⟨hi1, hu1⟩; rw [hu1]; clear hu1; rw [ints_v hi1 hq]; clear hi1))
            exact bodyPost_ret (v := .agg #[.int .i64 3, .string S, .int .i64 N, .int .i64 0, .int .i64 0, .int .i64 m, .int .i64 0, .int .i64 0]) (by simp [results, Tryz.results25, go_sem]) rfl ⟨gots_ok HT.out rfl, (below_allocL _ _).trans ((below_allocL _ _).mono (by simp))⟩
end Go.Proofs.YtdplfflkmphpbaaGreatDoor.W
namespace Go.Proofs.YtdplfflkmphpbaaGreatDoor.W
open Go.RowKit
set_option maxRecDepth 8000 in
set_option maxHeartbeats 8000000 in
theorem isSign_is (s : ByteArray) (w : World) : Calls Tryz.prog 87 #[.string s] w fun e w' => e = .returned (.bool (Pl.isS s)) ∧ w' = w := by
  have HE : Hid (Pl.isS s = (Pl.sgB.any fun r => s.toList == r)) := rfl
  go_enter Tryz.func87, Tryz.ntmps87
  go_wp2
  all_goals (go_ret; refine ⟨ret_bool ?_, rfl⟩; rw [HE.out]; simp only [Pl.sgB, List.any_cons, List.any_nil]; simp_all)
theorem sgn_at {t : ByteArray} {k : Nat} (hk : 0 < k) (hk3 : k ≤ 3) (hks : k ≤ t.size) (h : Pl.isS (t.extract 0 k) = true) (hn : ∀ j, k < j → j ≤ 3 → j ≤ t.size → Pl.isS (t.extract 0 j) = false) : Pl.sgn t = k := by
  have h2 := hn 2
  have h3 := hn 3
  unfold Pl.sgn
  have : k = 1 ∨ k = 2 ∨ k = 3 := by omega
  rcases this with rfl | rfl | rfl
  · rw [if_neg (fun q => by rw [h3 (by omega) (by omega) q.1] at q; simp at q), if_neg (fun q => by rw [h2 (by omega) (by omega) q.1] at q; simp at q), if_pos ⟨hks, h⟩]
  · rw [if_neg (fun q => by rw [h3 (by omega) (by omega) q.1] at q; simp at q), if_pos ⟨hks, h⟩]
  · rw [if_pos ⟨hks, h⟩]
theorem sgn_no {t : ByteArray} (hn : ∀ j, 0 < j → j ≤ 3 → j ≤ t.size → Pl.isS (t.extract 0 j) = false) : Pl.sgn t = 0 := by
  unfold Pl.sgn
  rw [if_neg (fun q => by rw [hn 3 (by omega) (by omega) q.1] at q; simp at q), if_neg (fun q => by rw [hn 2 (by omega) (by omega) q.1] at q; simp at q), if_neg (fun q => by rw [hn 1 (by omega) (by omega) q.1] at q; simp at q)]
theorem ext00 (t : ByteArray) : (⟨#[]⟩ : ByteArray) = t.extract 0 0 := by
  refine Pl.ba_ext (by rw [Pl.ext_size]; simp; rfl) fun j hj => absurd hj (Nat.not_lt_zero _)
set_option maxHeartbeats 4000000 in
theorem signOf_is (t : ByteArray) (ht : t.size ≤ 1048576) (w : World) : Calls Tryz.prog 73 #[.string t] w fun e w' => e = .returned (.string (t.extract 0 (Pl.sgn t))) ∧ w' = w := by
  go_enter Tryz.func73, Tryz.ntmps73
  go_wp2
  go_loop [3] (fun x => ∃ k : Nat, k ≤ min t.size 3 ∧ x = .int .i64 k ∧ ∀ j, k < j → j ≤ 3 → j ≤ t.size → Pl.isS (t.extract 0 j) = false) (fun x => (intOf x).toNat)
  case atStart => exact ⟨min t.size 3, Nat.le_refl _, by congr 1; omega, fun j h1 h2 h3 => by omega⟩
  case round =>
    obtain ⟨k, hk, rfl, hall⟩ := hrel
    have HA : Hid (∀ j, k < j → j ≤ 3 → j ≤ t.size → Pl.isS (t.extract 0 j) = false) := hall
    clear hall
    by_cases h0 : 0 < k
    · have h0' : (0 : Int) < k := by omega
      have hkt : (k : Int) ≤ t.size := by omega
      cases hc : Pl.isS (t.extract 0 k)
      · go_wp2_with (go_at_call 87; refine (isSign_is _ _).mono ?_; rintro e u1 ⟨rfl, rfl⟩; rw [hc])
        go_round
        case rel => exact ⟨k - 1, by omega, by congr 1; omega, fun j h1 h2 h3 => by
          by_cases e : j = k
          · rw [e]; exact hc
          · exact HA.out j (by omega) h2 h3⟩
        case measure => simp [intOf]; omega
      · have HR : Hid (Pl.sgn t = k) := sgn_at h0 (by omega) (by omega) hc HA.out
        go_wp2_with (go_at_call 87; refine (isSign_is _ _).mono ?_; rintro e u1 ⟨rfl, rfl⟩; rw [hc])
        go_ret
        exact ⟨by rw [HR.out]; rfl, rfl⟩
    · have hz : k = 0 := by omega
      subst hz
      have HR : Hid (Pl.sgn t = 0) := sgn_no HA.out
      go_wp2
      go_ret
      exact ⟨by rw [HR.out, ← ext00]; rfl, rfl⟩
end Go.Proofs.YtdplfflkmphpbaaGreatDoor.W
