import Derived.Test.YtdplfflkmphpbaaGreatDoorP13
import Derived.Test.YtdplfflkmphpbaaGreatDoorP14
import Derived.Test.YtdplfflkmphpbaaGreatDoorP11
import Derived.Deep.QuietTactic
import Derived.BigQuiet
import Derived.Deep.WholeRow
set_option linter.unusedVariables false
set_option linter.unusedSimpArgs false
namespace Go.Proofs.YtdplfflkmphpbaaGreatDoor.W
open Go.RowKit
def GotS (s : ByteArray) (i : Nat) (e : Ending) : Prop := match Pl.tokF s i with
  | .ok (k, S, N, n) => e = .returned (.agg #[.int .i64 k, .string S, .int .i64 N, .int .i64 0, .int .i64 0, .int .i64 n, .int .i64 0, .int .i64 0])
  | .error f => e = .returned (.agg #[.int .i64 0, .string ⟨#[]⟩, .int .i64 0, .int .i64 0, .int .i64 0, .int .i64 0, .int .i64 f, .int .i64 i])
theorem gots_no {s : ByteArray} {i : Nat} {f : Int} (h : Pl.tokF s i = .error f) : GotS s i (.returned (.agg #[.int .i64 0, .string ⟨#[]⟩, .int .i64 0, .int .i64 0, .int .i64 0, .int .i64 0, .int .i64 f, .int .i64 i])) := by unfold GotS; rw [h]
theorem gots_ok {s S : ByteArray} {i n : Nat} {k N n' : Int} (h : Pl.tokF s i = .ok (k, S, N, n)) (hn : n' = n) : GotS s i (.returned (.agg #[.int .i64 k, .string S, .int .i64 N, .int .i64 0, .int .i64 0, .int .i64 n', .int .i64 0, .int .i64 0])) := by unfold GotS; rw [h, hn]
theorem ints_e {s : ByteArray} {e : Ending} {f : Int} (h : IntS s e) (hq : Pl.intR s = .error f) : e = .returned (.tuple #[.int .i64 0, .string ⟨#[]⟩, .int .i64 f]) := by unfold IntS at h; rw [hq] at h; exact h
theorem ints_v {s S : ByteArray} {e : Ending} {N : Int} (h : IntS s e) (hq : Pl.intR s = .ok (S, N)) : e = .returned (.tuple #[.int .i64 N, .string S, .int .i64 0]) := by unfold IntS at h; rw [hq] at h; exact h
set_option maxHeartbeats 8000000 in
set_option maxRecDepth 100000 in
theorem l5Token_word (s : ByteArray) (hs : s.size ≤ 1048576) (i : Nat) (hi : i < s.size) (hw : Pl.wch (Pl.byt s i) = true) (w : World) : Calls Tryz.prog 25 #[.string s, .int .i64 i] w fun e w' => GotS s i e ∧ Below w.heap.size w w' := by
  have hii : (i : Int) < s.size := by omega
  have hg := Pl.byt_get s i hi
  obtain ⟨c, hc⟩ : ∃ c, c = Pl.byt s i := ⟨_, rfl⟩
  rw [← hc] at hg hw
  have HC : Hid (c = Pl.byt s i) := hc
  clear hc
  go_enter Tryz.func25, Tryz.ntmps25
  go_wp2_with (go_at_call 40; refine (l5Word_any _ _).mono ?_; rintro e u1 ⟨rfl, hu1⟩; rw [hu1]; clear hu1; rw [hw])
  go_loop [7] (fun x => ∃ k : Nat, 1 ≤ k ∧ i + k ≤ s.size ∧ x = .int .i64 ((i + k : Nat) : Int) ∧ ∀ j, j < k → Pl.wch (Pl.byt s (i + j)) = true) (fun x => s.size - (intOf x).toNat)
  case atStart => exact ⟨1, by omega, by omega, by congr 1, fun j hj => by rw [show j = 0 by omega, Nat.add_zero, ← HC.out]; exact hw⟩
  case round =>
    obtain ⟨k, hk1, hk2, rfl, hall⟩ := hrel
    have HA : Hid (∀ j, j < k → Pl.wch (Pl.byt s (i + j)) = true) := hall
    clear hall
    obtain ⟨m, hm⟩ : ∃ m, m = i + k := ⟨_, rfl⟩
    rw [← hm]
    have HM : Hid (m = i + k) := hm
    have hms : m ≤ s.size := by omega
    have him : i < m := by omega
    have him' : (i : Int) ≤ m := by omega
    have hms' : (m : Int) ≤ s.size := by omega
    clear hm hk2
    by_cases hgo : m < s.size ∧ Pl.wch (Pl.byt s m) = true
    · obtain ⟨hm1, hm2⟩ := hgo
      have hm1' : (m : Int) < s.size := by omega
      have hgm := Pl.byt_get s m hm1
      obtain ⟨b, hb⟩ : ∃ b, b = Pl.byt s m := ⟨_, rfl⟩
      rw [← hb] at hgm hm2
      have HBB : Hid (b = Pl.byt s m) := hb
      clear hb
      go_wp2_with (go_at_call 40; refine (l5Word_any _ _).mono ?_; rintro e u1 ⟨rfl, hu1⟩; rw [hu1]; clear hu1; rw [hm2])
      go_round
      case rel => exact ⟨k + 1, by omega, by have := HM.out; omega, by congr 1; have := HM.out; omega, fun j hj => by
        by_cases e : j = k
        · rw [e, ← HM.out, ← HBB.out]; exact hm2
        · exact HA.out j (by omega)⟩
      case measure => simp [intOf]; omega
    · have hrun : Pl.run Pl.wch (s.extract i s.size) = k := Pl.run_eq ⟨by rw [Pl.ext_sz]; have := HM.out; omega, fun j hj => by rw [Pl.ext_byt s i j (by have := HM.out; omega)]; exact HA.out j hj, by
        rcases Nat.lt_or_ge m s.size with e | e
        · right
          rw [Pl.ext_byt s i k (by have := HM.out; omega), ← HM.out]
          cases hq : Pl.wch (Pl.byt s m)
          · rfl
          · exact absurd ⟨e, hq⟩ hgo
        · left; rw [Pl.ext_sz]; have := HM.out; omega⟩
      have hT : Pl.tokF s i = (match Pl.wrdR (s.extract i m) with | .error f => .error f | .ok (k, S, N) => .ok (k, S, N, m)) := by
        unfold Pl.tokF
        rw [← HC.out, if_pos hw, hrun, ← HM.out]
        rfl
      have hD : (s.extract i m).size = m - i := by rw [Pl.ext_size]; omega
      have hd0 : Pl.byt (s.extract i m) 0 = c := by rw [Pl.byt_ext s i m 0 (by omega) hms, Nat.add_zero, HC.out]
      obtain ⟨D, hDD⟩ : ∃ D, D = s.extract i m := ⟨_, rfl⟩
      rw [← hDD] at hT hD hd0
      have HDD : Hid (s.extract i m = D) := hDD.symm
      have hex : s.extract i m = D := hDD.symm
      clear hDD hrun HA
      have hW : Pl.wrdR D = if Pl.dg c = true then (match Pl.intR D with | .error f => .error f | .ok (S, N) => .ok (3, S, N)) else if 40 < D.size then .error 8 else if Pl.isK D = true then .ok (2, D, 0) else .ok (1, D, 0) := by unfold Pl.wrdR; rw [hd0]; rfl
      rw [hW] at hT
      clear hW
      have hds : D.size ≤ 1048576 := by omega
      have hdp : 0 < D.size := by omega
      have HIN : Hid (∀ u : World, Calls Tryz.prog 42 #[.string D] u fun e w' => IntS D e ∧ w' = u) := fun u => l5Int_is D hds hdp u
      have HKE : Hid (∀ (u : World) (g : Nat), g = u.heap.size → Calls Tryz.prog 43 #[.slice (some ⟨g, 0, none⟩) 23 23, .string D] (u.alloc (.cells Pl.kyTab 9)) fun e w' => e = .returned (.bool (Pl.isK D)) ∧ w' = u.alloc (.cells Pl.kyTab 9)) := fun u g hg => by rw [hg]; exact l5In_keys D u
      have HDZ : Hid (D.size = m - i) := hD
      clear hD hd0
      have hstop : (m = s.size) ∨ (m < s.size ∧ Pl.wch (Pl.byt s m) = false) := by
        rcases Nat.lt_or_ge m s.size with e | e
        · right
          refine ⟨e, ?_⟩
          cases hq : Pl.wch (Pl.byt s m)
          · rfl
          · exact absurd ⟨e, hq⟩ hgo
        · left; omega
      clear hgo
      cases hdg : Pl.dg c
      · rw [hdg, if_neg (by decide)] at hT
        by_cases h40 : 40 < D.size
        · rw [if_pos h40] at hT
          have HT : Hid (Pl.tokF s i = .error 8) := hT
          have h40' : (40 : Int) < D.size := by omega
          clear hT h40
          rcases hstop with hm0 | ⟨hm0, hm3⟩
          · have hm0' : ¬ (m : Int) < s.size := by omega
            clear hm0
            go_wp2_with (first | (go_at_call 41; refine (l4Digit_any _ _).mono ?_; rintro e u1 ⟨rfl, hu1⟩; rw [hu1]; clear hu1; rw [hdg]))
            exact bodyPost_ret (v := .agg #[.int .i64 0, .string ⟨#[]⟩, .int .i64 0, .int .i64 0, .int .i64 0, .int .i64 0, .int .i64 8, .int .i64 i]) (by simp [results, Tryz.results25, go_sem]) rfl ⟨gots_no HT.out, (below_allocL _ _).trans ((below_allocL _ _).mono (by simp))⟩
          · have hm0' : (m : Int) < s.size := by omega
            have hgm := Pl.byt_get s m hm0
            obtain ⟨b, hb⟩ : ∃ b, b = Pl.byt s m := ⟨_, rfl⟩
            rw [← hb] at hgm hm3
            clear hb
            go_wp2_with (first | (go_at_call 40; refine (l5Word_any _ _).mono ?_; rintro e u1 ⟨rfl, hu1⟩; rw [hu1]; clear hu1; rw [hm3]) | (go_at_call 41; refine (l4Digit_any _ _).mono ?_; rintro e u1 ⟨rfl, hu1⟩; rw [hu1]; clear hu1; rw [hdg]))
            exact bodyPost_ret (v := .agg #[.int .i64 0, .string ⟨#[]⟩, .int .i64 0, .int .i64 0, .int .i64 0, .int .i64 0, .int .i64 8, .int .i64 i]) (by simp [results, Tryz.results25, go_sem]) rfl ⟨gots_no HT.out, (below_allocL _ _).trans ((below_allocL _ _).mono (by simp))⟩
        · rw [if_neg h40] at hT
          have h40' : ¬ (40 : Int) < D.size := by omega
          clear h40
          cases hk : Pl.isK D
          · rw [hk, if_neg (by decide)] at hT
            have HT : Hid (Pl.tokF s i = .ok (1, D, 0, m)) := hT
            clear hT
            rcases hstop with hm0 | ⟨hm0, hm3⟩
            · have hm0' : ¬ (m : Int) < s.size := by omega
              clear hm0
              go_wp2_with (first | (go_at_call 41; refine (l4Digit_any _ _).mono ?_; rintro e u1 ⟨rfl, hu1⟩; rw [hu1]; clear hu1; rw [hdg]) | (go_at_call 44; refine (l5Keys_is _).mono ?_; rintro e u1 ⟨rfl, hu1⟩; rw [hu1]; clear hu1) | (go_at_call 43; refine (HKE.out _ _ (by simp)).mono ?_; rintro e u1 ⟨rfl, hu1⟩; rw [hu1]; clear hu1; rw [hk]))
              exact bodyPost_ret (v := .agg #[.int .i64 1, .string D, .int .i64 0, .int .i64 0, .int .i64 0, .int .i64 m, .int .i64 0, .int .i64 0]) (by simp [results, Tryz.results25, go_sem]) rfl ⟨gots_ok HT.out rfl, ((below_allocL _ _).trans ((below_allocL _ _).mono (by simp))).trans ((below_allocL _ _).mono (by simp; omega))⟩
            · have hm0' : (m : Int) < s.size := by omega
              have hgm := Pl.byt_get s m hm0
              obtain ⟨b, hb⟩ : ∃ b, b = Pl.byt s m := ⟨_, rfl⟩
              rw [← hb] at hgm hm3
              clear hb
              go_wp2_with (first | (go_at_call 40; refine (l5Word_any _ _).mono ?_; rintro e u1 ⟨rfl, hu1⟩; rw [hu1]; clear hu1; rw [hm3]) | (go_at_call 41; refine (l4Digit_any _ _).mono ?_; rintro e u1 ⟨rfl, hu1⟩; rw [hu1]; clear hu1; rw [hdg]) | (go_at_call 44; refine (l5Keys_is _).mono ?_; rintro e u1 ⟨rfl, hu1⟩; rw [hu1]; clear hu1) | (go_at_call 43; refine (HKE.out _ _ (by simp)).mono ?_; rintro e u1 ⟨rfl, hu1⟩; rw [hu1]; clear hu1; rw [hk]))
              exact bodyPost_ret (v := .agg #[.int .i64 1, .string D, .int .i64 0, .int .i64 0, .int .i64 0, .int .i64 m, .int .i64 0, .int .i64 0]) (by simp [results, Tryz.results25, go_sem]) rfl ⟨gots_ok HT.out rfl, ((below_allocL _ _).trans ((below_allocL _ _).mono (by simp))).trans ((below_allocL _ _).mono (by simp; omega))⟩
          · rw [hk, if_pos rfl] at hT
            have HT : Hid (Pl.tokF s i = .ok (2, D, 0, m)) := hT
            clear hT
            rcases hstop with hm0 | ⟨hm0, hm3⟩
            · have hm0' : ¬ (m : Int) < s.size := by omega
              clear hm0
              go_wp2_with (first | (go_at_call 41; refine (l4Digit_any _ _).mono ?_; rintro e u1 ⟨rfl, hu1⟩; rw [hu1]; clear hu1; rw [hdg]) | (go_at_call 44; refine (l5Keys_is _).mono ?_; rintro e u1 ⟨rfl, hu1⟩; rw [hu1]; clear hu1) | (go_at_call 43; refine (HKE.out _ _ (by simp)).mono ?_; rintro e u1 ⟨rfl, hu1⟩; rw [hu1]; clear hu1; rw [hk]))
              exact bodyPost_ret (v := .agg #[.int .i64 2, .string D, .int .i64 0, .int .i64 0, .int .i64 0, .int .i64 m, .int .i64 0, .int .i64 0]) (by simp [results, Tryz.results25, go_sem]) rfl ⟨gots_ok HT.out rfl, ((below_allocL _ _).trans ((below_allocL _ _).mono (by simp))).trans ((below_allocL _ _).mono (by simp; omega))⟩
            · have hm0' : (m : Int) < s.size := by omega
              have hgm := Pl.byt_get s m hm0
              obtain ⟨b, hb⟩ : ∃ b, b = Pl.byt s m := ⟨_, rfl⟩
              rw [← hb] at hgm hm3
              clear hb
              go_wp2_with (first | (go_at_call 40; refine (l5Word_any _ _).mono ?_; rintro e u1 ⟨rfl, hu1⟩; rw [hu1]; clear hu1; rw [hm3]) | (go_at_call 41; refine (l4Digit_any _ _).mono ?_; rintro e u1 ⟨rfl, hu1⟩; rw [hu1]; clear hu1; rw [hdg]) | (go_at_call 44; refine (l5Keys_is _).mono ?_; rintro e u1 ⟨rfl, hu1⟩; rw [hu1]; clear hu1) | (go_at_call 43; refine (HKE.out _ _ (by simp)).mono ?_; rintro e u1 ⟨rfl, hu1⟩; rw [hu1]; clear hu1; rw [hk]))
              exact bodyPost_ret (v := .agg #[.int .i64 2, .string D, .int .i64 0, .int .i64 0, .int .i64 0, .int .i64 m, .int .i64 0, .int .i64 0]) (by simp [results, Tryz.results25, go_sem]) rfl ⟨gots_ok HT.out rfl, ((below_allocL _ _).trans ((below_allocL _ _).mono (by simp))).trans ((below_allocL _ _).mono (by simp; omega))⟩
      · rw [if_pos hdg] at hT
        cases hq : Pl.intR D with
        | error f =>
          rw [hq] at hT
          have HT : Hid (Pl.tokF s i = .error f) := hT
          have hf : f ≠ 0 := by rcases Pl.intR_f hq with e | e <;> omega
          have e1 : (f != 0) = true := by simp [hf]
          have e2 : (f == 0) = false := by simp [hf]
          clear hT hf
          rcases hstop with hm0 | ⟨hm0, hm3⟩
          · have hm0' : ¬ (m : Int) < s.size := by omega
            clear hm0
            go_wp2_with (first | (go_at_call 41; refine (l4Digit_any _ _).mono ?_; rintro e u1 ⟨rfl, hu1⟩; rw [hu1]; clear hu1; rw [hdg]) | (go_at_call 42; refine (HIN.out _).mono ?_; rintro e u1 ⟨hi1, hu1⟩; rw [hu1]; clear hu1; rw [ints_e hi1 hq]; clear hi1))
            exact bodyPost_ret (v := .agg #[.int .i64 0, .string ⟨#[]⟩, .int .i64 0, .int .i64 0, .int .i64 0, .int .i64 0, .int .i64 f, .int .i64 i]) (by simp [results, Tryz.results25, go_sem]) rfl ⟨gots_no HT.out, (below_allocL _ _).trans ((below_allocL _ _).mono (by simp))⟩
          · have hm0' : (m : Int) < s.size := by omega
            have hgm := Pl.byt_get s m hm0
            obtain ⟨b, hb⟩ : ∃ b, b = Pl.byt s m := ⟨_, rfl⟩
            rw [← hb] at hgm hm3
            clear hb
            go_wp2_with (first | (go_at_call 40; refine (l5Word_any _ _).mono ?_; rintro e u1 ⟨rfl, hu1⟩; rw [hu1]; clear hu1; rw [hm3]) | (go_at_call 41; refine (l4Digit_any _ _).mono ?_; rintro e u1 ⟨rfl, hu1⟩; rw [hu1]; clear hu1; rw [hdg]) | (go_at_call 42; refine (HIN.out _).mono ?_; rintro e u1 ⟨hi1, hu1⟩; rw [hu1]; clear hu1; rw [ints_e hi1 hq]; clear hi1))
            exact bodyPost_ret (v := .agg #[.int .i64 0, .string ⟨#[]⟩, .int .i64 0, .int .i64 0, .int .i64 0, .int .i64 0, .int .i64 f, .int .i64 i]) (by simp [results, Tryz.results25, go_sem]) rfl ⟨gots_no HT.out, (below_allocL _ _).trans ((below_allocL _ _).mono (by simp))⟩
        | ok r =>
          obtain ⟨S, N⟩ := r
          rw [hq] at hT
          have HT : Hid (Pl.tokF s i = .ok (3, S, N, m)) := hT
          clear hT
          rcases hstop with hm0 | ⟨hm0, hm3⟩
          · have hm0' : ¬ (m : Int) < s.size := by omega
            clear hm0
            go_wp2_with (first | (go_at_call 41; refine (l4Digit_any _ _).mono ?_; rintro e u1 ⟨rfl, hu1⟩; rw [hu1]; clear hu1; rw [hdg]) | (go_at_call 42; refine (HIN.out _).mono ?_; rintro e u1 ⟨hi1, hu1⟩; rw [hu1]; clear hu1; rw [ints_v hi1 hq]; clear hi1))
            exact bodyPost_ret (v := .agg #[.int .i64 3, .string S, .int .i64 N, .int .i64 0, .int .i64 0, .int .i64 m, .int .i64 0, .int .i64 0]) (by simp [results, Tryz.results25, go_sem]) rfl ⟨gots_ok HT.out rfl, (below_allocL _ _).trans ((below_allocL _ _).mono (by simp))⟩
          · have hm0' : (m : Int) < s.size := by omega
            have hgm := Pl.byt_get s m hm0
            obtain ⟨b, hb⟩ : ∃ b, b = Pl.byt s m := ⟨_, rfl⟩
            rw [← hb] at hgm hm3
            clear hb
            go_wp2_with (first | (go_at_call 40; refine (l5Word_any _ _).mono ?_; rintro e u1 ⟨rfl, hu1⟩; rw [hu1]; clear hu1; rw [hm3]) | (go_at_call 41; refine (l4Digit_any _ _).mono ?_; rintro e u1 ⟨rfl, hu1⟩; rw [hu1]; clear hu1; rw [hdg]) | (go_at_call 42; refine (HIN.out _).mono ?_; rintro e u1 ⟨hi1, hu1⟩; rw [hu1]; clear hu1; rw [ints_v hi1 hq]; clear hi1))
            exact bodyPost_ret (v := .agg #[.int .i64 3, .string S, .int .i64 N, .int .i64 0, .int .i64 0, .int .i64 m, .int .i64 0, .int .i64 0]) (by simp [results, Tryz.results25, go_sem]) rfl ⟨gots_ok HT.out rfl, (below_allocL _ _).trans ((below_allocL _ _).mono (by simp))⟩
end Go.Proofs.YtdplfflkmphpbaaGreatDoor.W
namespace Go.Proofs.YtdplfflkmphpbaaGreatDoor.Pl
theorem isS_ix {x : ByteArray} (h : isS x = true) : ∃ k, k < 45 ∧ sgB.getD k [] = x.toList := by
  unfold isS at h
  rw [List.any_eq_true] at h
  obtain ⟨r, hr, he⟩ := h
  obtain ⟨k, hk, rfl⟩ := List.mem_iff_getElem.1 hr
  exact ⟨k, hk, by rw [List.getD_eq_getElem?_getD, List.getElem?_eq_getElem hk]; exact (eq_of_beq he).symm⟩
theorem sg_len : ∀ k, k < 45 → 1 ≤ (sgB.getD k []).length ∧ (sgB.getD k []).length ≤ 3 := by decide
theorem sg_ord : ∀ k, k < 45 → ∀ j, j < 45 → (sgB.getD k []).length < (sgB.getD j []).length → j < k := by decide
def Mt (s : ByteArray) (i k : Nat) : Prop := i + (sgB.getD k []).length ≤ s.size ∧ (s.extract i (i + (sgB.getD k []).length)).toList = sgB.getD k []
theorem len_toList (x : ByteArray) : x.toList.length = x.size := by rw [ByteArray.toList_eq]; simp
theorem ext_pre (s : ByteArray) (i n : Nat) (hi : i ≤ s.size) (h : i + n ≤ s.size) : (s.extract i s.size).extract 0 n = s.extract i (i + n) := by
  rw [ext_ext s i s.size 0 n h (Nat.le_refl _) (Nat.zero_le _), Nat.add_zero]
theorem mt_of {s : ByteArray} {i n : Nat} (hi : i ≤ s.size) (hn : n ≤ s.size - i) (h : isS ((s.extract i s.size).extract 0 n) = true) : ∃ k, k < 45 ∧ (sgB.getD k []).length = n ∧ Mt s i k := by
  obtain ⟨k, hk, e⟩ := isS_ix h
  rw [ext_pre s i n hi (by omega)] at e
  have hl : (sgB.getD k []).length = n := by rw [e, len_toList, ext_size]; omega
  exact ⟨k, hk, hl, by rw [hl]; omega, by rw [hl, ← e]⟩
theorem sgn_no2 {s : ByteArray} {i : Nat} (hi : i ≤ s.size) (h : ∀ k, k < 45 → ¬ Mt s i k) : sgn (s.extract i s.size) = 0 := by
  refine Classical.byContradiction fun hc => ?_
  obtain ⟨k, hk, _, hm⟩ := mt_of hi (by have := (sgn_le (s.extract i s.size)).1; rw [ext_sz] at this; exact this) (sgn_is _ hc)
  exact h k hk hm
theorem mt_isS {s : ByteArray} {i k : Nat} (hi : i ≤ s.size) (hk : k < 45) (h : Mt s i k) : isS ((s.extract i s.size).extract 0 (sgB.getD k []).length) = true := by
  rw [ext_pre s i _ hi h.1]
  unfold isS
  exact any_yes (k := k) hk h.2.symm
end Go.Proofs.YtdplfflkmphpbaaGreatDoor.Pl
namespace Go.Proofs.YtdplfflkmphpbaaGreatDoor.W
open Go.RowKit
theorem sgn_mt {s : ByteArray} {i k : Nat} (hi : i ≤ s.size) (hk : k < 45) (h : Pl.Mt s i k) (hn : ∀ j, j < k → ¬ Pl.Mt s i j) : Pl.sgn (s.extract i s.size) = (Pl.sgB.getD k []).length := by
  have hl := Pl.sg_len k hk
  refine sgn_at (by omega) (by omega) (by rw [Pl.ext_sz]; have := h.1; omega) (Pl.mt_isS hi hk h) fun j h1 h2 h3 => ?_
  rw [Pl.ext_sz] at h3
  cases hq : Pl.isS ((s.extract i s.size).extract 0 j)
  · rfl
  · obtain ⟨k', hk', e, hm⟩ := Pl.mt_of hi h3 hq
    exact absurd hm (hn k' (Pl.sg_ord k hk k' hk' (by omega)))
theorem below_drewQ {B : Nat} {a w : World} (h : Below B a w) (m : Nat) : Below B a (w.drewN m) := ⟨h.os, h.tape, h.output, h.size, h.block⟩
def GotQ (s : ByteArray) (i : Nat) (e : Ending) : Prop := match Pl.tokF s i with
  | .ok (k, S, N, n) => e = .returned (.agg #[.int .i64 k, .string S, .int .i64 N, .int .i64 0, .int .i64 0, .int .i64 n, .int .i64 0, .int .i64 0])
  | .error f => e = .returned (.agg #[.int .i64 0, .string ⟨#[]⟩, .int .i64 0, .int .i64 0, .int .i64 0, .int .i64 0, .int .i64 f, .int .i64 i])
theorem gotq_no {s : ByteArray} {i : Nat} {f : Int} (h : Pl.tokF s i = .error f) : GotQ s i (.returned (.agg #[.int .i64 0, .string ⟨#[]⟩, .int .i64 0, .int .i64 0, .int .i64 0, .int .i64 0, .int .i64 f, .int .i64 i])) := by unfold GotQ; rw [h]
theorem gotq_ok {s S : ByteArray} {i n : Nat} {k N n' : Int} (h : Pl.tokF s i = .ok (k, S, N, n)) (hn : n' = n) : GotQ s i (.returned (.agg #[.int .i64 k, .string S, .int .i64 N, .int .i64 0, .int .i64 0, .int .i64 n', .int .i64 0, .int .i64 0])) := by unfold GotQ; rw [h, hn]
set_option maxHeartbeats 8000000 in
set_option maxRecDepth 100000 in
theorem l5Token_sign (s : ByteArray) (hs : s.size ≤ 1048576) (i : Nat) (hi : i < s.size) (hw : Pl.wch (Pl.byt s i) = false) (h39 : Pl.byt s i ≠ 39) (h34 : Pl.byt s i ≠ 34) (w : World) : Calls Tryz.prog 25 #[.string s, .int .i64 i] w fun e w' => GotQ s i e ∧ Below w.heap.size w w' := by
  have hii : (i : Int) < s.size := by omega
  have hg := Pl.byt_get s i hi
  obtain ⟨c, hc⟩ : ∃ c, c = Pl.byt s i := ⟨_, rfl⟩
  rw [← hc] at hg hw h39 h34
  have HC : Hid (c = Pl.byt s i) := hc
  have e39 : (c == 39) = false := by simp [h39]
  have e34 : (c == 34) = false := by simp [h34]
  have HT : Hid (Pl.tokF s i = if Pl.sgn (s.extract i s.size) = 0 then .error 2 else .ok (5, s.extract i (i + Pl.sgn (s.extract i s.size)), 0, i + Pl.sgn (s.extract i s.size))) := by
    show Pl.tokF s i = _
    unfold Pl.tokF
    rw [← hc, hw, if_neg (by decide), if_neg h39, if_neg h34]
  clear hc h39 h34
  go_enter Tryz.func25, Tryz.ntmps25
  go_wp2_with (first | (go_at_call 40; refine (l5Word_any _ _).mono ?_; rintro e u1 ⟨rfl, hu1⟩; rw [hu1]; clear hu1; rw [hw]) | (go_at_call 47; refine (l5Signs_is _).mono ?_; rintro e u1 ⟨rfl, hu1⟩; rw [hu1]; clear hu1))
  obtain ⟨U, hU⟩ : ∃ U, U = (((w.alloc (.cells #[.int .i64 0, .string ⟨#[]⟩, .int .i64 0, .int .i64 0, .int .i64 0, .int .i64 0, .int .i64 0, .int .i64 0] 45)).alloc (.cells #[.int .i64 0, .string ⟨#[]⟩, .int .i64 0, .int .i64 0, .int .i64 0, .int .i64 0, .int .i64 2, .int .i64 i] 45)).alloc (.cells Pl.sgTab 9)) := ⟨_, rfl⟩
  rw [← hU]
  have HCE : Hid (∀ j, j < 45 → U.cell? ⟨w.heap.size + 1 + 1, j, none⟩ = some (.string ⟨(Pl.sgB.getD j []).toArray⟩)) := fun j hj => by
    have := cell_of_row U (w.heap.size + 1 + 1) j Pl.sgTab 9 (0, 0) (by rw [hU]; have := heap_alloc_new ((w.alloc (.cells #[.int .i64 0, .string ⟨#[]⟩, .int .i64 0, .int .i64 0, .int .i64 0, .int .i64 0, .int .i64 0, .int .i64 0] 45)).alloc (.cells #[.int .i64 0, .string ⟨#[]⟩, .int .i64 0, .int .i64 0, .int .i64 0, .int .i64 0, .int .i64 2, .int .i64 i] 45)) (.cells Pl.sgTab 9); simpa using this)
    rw [this]
    exact Pl.tab_at Pl.sgB j hj
  have Q5 : Hid (U.heap[w.heap.size + 1]? = some (.cells #[.int .i64 0, .string ⟨#[]⟩, .int .i64 0, .int .i64 0, .int .i64 0, .int .i64 0, .int .i64 2, .int .i64 i] 45 (0, 0))) := by
    rw [hU]; exact (Below.heap_alloc _ _ _ (by simp)).trans (by have := heap_alloc_new (w.alloc (.cells #[.int .i64 0, .string ⟨#[]⟩, .int .i64 0, .int .i64 0, .int .i64 0, .int .i64 0, .int .i64 0, .int .i64 0] 45)) (.cells #[.int .i64 0, .string ⟨#[]⟩, .int .i64 0, .int .i64 0, .int .i64 0, .int .i64 0, .int .i64 2, .int .i64 i] 45); simpa using this)
  have Q4 : Hid (U.heap[w.heap.size]? = some (.cells #[.int .i64 0, .string ⟨#[]⟩, .int .i64 0, .int .i64 0, .int .i64 0, .int .i64 0, .int .i64 0, .int .i64 0] 45 (0, 0))) := by
    rw [hU]; exact (Below.heap_alloc _ _ _ (by simp; omega)).trans ((Below.heap_alloc _ _ _ (by simp)).trans (heap_alloc_new w _))
  have BW : Hid (Below w.heap.size w U) := by rw [hU]; exact ((below_allocL _ _).trans ((below_allocL _ _).mono (by simp))).trans ((below_allocL _ _).mono (by simp; omega))
  have hUz : U.heap.size = w.heap.size + 3 := by rw [hU]; simp
  have HUZ : Hid (U.heap.size = w.heap.size + 3) := hUz
  clear hU hUz
  go_loopw [18] (fun x wr => ∃ k : Nat, k ≤ 45 ∧ x = .int .i64 k ∧ (∀ j, j < k → ¬ Pl.Mt s i j) ∧ Below U.heap.size U wr) (fun x _ => 45 - (intOf x).toNat)
  case atStart => exact ⟨0, by omega, rfl, fun j hj => absurd hj (Nat.not_lt_zero _), Below.refl _ _⟩
  case round =>
    obtain ⟨k, hk, rfl, hall, hb⟩ := hrel
    have HA : Hid (∀ j, j < k → ¬ Pl.Mt s i j) := hall
    have HB : Hid (Below U.heap.size U wr) := hb
    have Q4r : Hid (wr.heap[w.heap.size]? = some (.cells #[.int .i64 0, .string ⟨#[]⟩, .int .i64 0, .int .i64 0, .int .i64 0, .int .i64 0, .int .i64 0, .int .i64 0] 45 (0, 0))) := (hb.block _ (by have := HUZ.out; omega)).trans Q4.out
    have Q5r : Hid (wr.heap[w.heap.size + 1]? = some (.cells #[.int .i64 0, .string ⟨#[]⟩, .int .i64 0, .int .i64 0, .int .i64 0, .int .i64 0, .int .i64 2, .int .i64 i] 45 (0, 0))) := (hb.block _ (by have := HUZ.out; omega)).trans Q5.out
    have BWr : Hid (Below w.heap.size w wr) := BW.out.trans (hb.mono BW.out.size)
    have hcr : ∀ j, j < 45 → wr.cell? ⟨w.heap.size + 1 + 1, j, none⟩ = some (.string ⟨(Pl.sgB.getD j []).toArray⟩) := fun j hj => (hb.cell (p := ⟨w.heap.size + 1 + 1, j, none⟩) (by show w.heap.size + 1 + 1 < _; have := HUZ.out; omega)).trans (HCE.out j hj)
    clear hall hb
    by_cases hlt : k < 45
    · have hlt' : (k : Int) < 45 := by omega
      have hc := hcr k hlt
      have hlen := Pl.sg_len k hlt
      have HMt : Hid (Pl.Mt s i k ↔ (i + (Pl.sgB.getD k []).length ≤ s.size ∧ (s.extract i (i + (Pl.sgB.getD k []).length)).toList = Pl.sgB.getD k [])) := Iff.rfl
      have HSG : Hid (Pl.Mt s i k → Pl.sgn (s.extract i s.size) = (Pl.sgB.getD k []).length) := fun h => sgn_mt (by omega) hlt h HA.out
      obtain ⟨r, hr⟩ : ∃ r, r = Pl.sgB.getD k [] := ⟨_, rfl⟩
      rw [← hr] at hc hlen HMt HSG
      obtain ⟨R, hR⟩ : ∃ R : ByteArray, R = ⟨r.toArray⟩ := ⟨_, rfl⟩
      have hRs : R.size = r.length := by rw [hR]; simp [ByteArray.size]
      have HRT : Hid (R.toList = r) := by rw [hR]; exact Pl.mk_toList r
      rw [← hR] at hc
      rw [← hRs] at hlen HMt HSG
      clear hcr hr hR hRs
      by_cases hfit : i + R.size ≤ s.size
      · have hd : decide ((i : Int) + (R.size : Int) ≤ (s.size : Int)) = true := by simp; omega
        have hfit' : (i : Int) + (R.size : Int) ≤ (s.size : Int) := by omega
        have hwr : IntKind.i64.wrap ((i : Int) + (R.size : Int)) = (i : Int) + (R.size : Int) := by rw [IntKind.wrap_i64]; omega
        have htn : ((i : Int) + (R.size : Int)).toNat = i + R.size := by omega
        have hle : (i : Int) ≤ (i : Int) + (R.size : Int) := by omega
        cases he : ((s.extract i (i + R.size)).toList == R.toList)
        · have HNM : Hid (¬ Pl.Mt s i k) := fun h => by
            have := (HMt.out.1 h).2
            rw [this, HRT.out] at he
            simp at he
          clear HMt HSG
          go_wp2_with fail
          go_quiet (fail)
          go_wp2_with fail
          go_roundw
          case rel =>
            refine ⟨k + 1, by omega, by go_num, fun j hj => ?_, ?_⟩
            · by_cases e : j = k
              · rw [e]; exact HNM.out
              · exact HA.out j (by omega)
            · repeat (first | exact HB.out | refine below_drewQ ?_ _)
          case measure => simp [intOf]; omega
        · have HYM : Hid (Pl.Mt s i k) := HMt.out.2 ⟨hfit, by rw [eq_of_beq he, HRT.out]⟩
          have HER : Hid (s.extract i (i + R.size) = R) := by
            have := eq_of_beq he
            rw [ByteArray.toList_eq, ByteArray.toList_eq] at this
            show s.extract i (i + R.size) = R
            cases hz : s.extract i (i + R.size) with | mk a => cases R with | mk b => rw [hz] at this; congr 1; exact Array.toList_inj.1 this
          have HT2 : Hid (Pl.tokF s i = .ok (5, R, 0, i + R.size)) := by
            show Pl.tokF s i = _
            rw [HT.out, HSG.out HYM.out, if_neg (by omega), HER.out]
          clear HMt HSG HA
          go_wp2_with fail
          go_quiet (fail)
          go_wp2_with (refine wpList_store_row rfl 45 _ _ rfl w.heap.size #[.int .i64 5, .string R, .int .i64 0, .int .i64 0, .int .i64 0, .int .i64 ((i : Int) + (R.size : Int)), .int .i64 0, .int .i64 0] ?hx ?hy 45 #[.int .i64 0, .string ⟨#[]⟩, .int .i64 0, .int .i64 0, .int .i64 0, .int .i64 0, .int .i64 0, .int .i64 0] ?hg ?hi ?ho ?h1 ?_; (case hx => rfl); (case hy => rfl); (case hg => exact Q4r.out); (case hi => kernel_rfl); (case ho => kernel_rfl); (case h1 => kernel_rfl))
          refine bodyPost_ret (v := .agg #[.int .i64 5, .string R, .int .i64 0, .int .i64 0, .int .i64 0, .int .i64 ((i : Int) + (R.size : Int)), .int .i64 0, .int .i64 0]) ?hr ?hdf ?hQQ
          case hr =>
            refine results_cell_row Tryz.results25 _ _ (w.heap.size) 45 #[.int .i64 5, .string R, .int .i64 0, .int .i64 0, .int .i64 0, .int .i64 ((i : Int) + (R.size : Int)), .int .i64 0, .int .i64 0] (0, 0) _ ?hp ?hg Tryz.underlying45 ?hd ?hi
            case hp => rfl
            case hg => exact setRow_heap _ _ _ _ _ _ Q4r.out
            case hd => rfl
            case hi => kernel_rfl
          case hdf => rfl
          case hQQ => exact ⟨gotq_ok HT2.out (by omega), below_setRow (by repeat (first | exact BWr.out | refine below_drewQ ?_ _)) (Nat.le_refl _) _⟩
      · have hd : decide ((i : Int) + (R.size : Int) ≤ (s.size : Int)) = false := by simp; omega
        have hwr : IntKind.i64.wrap ((i : Int) + (R.size : Int)) = (i : Int) + (R.size : Int) := by rw [IntKind.wrap_i64]; omega
        have HNM : Hid (¬ Pl.Mt s i k) := fun h => hfit (HMt.out.1 h).1
        clear HMt HSG
        go_wp2_with fail
        go_quiet (fail)
        go_wp2_with fail
        go_roundw
        case rel =>
          refine ⟨k + 1, by omega, by go_num, fun j hj => ?_, ?_⟩
          · by_cases e : j = k
            · rw [e]; exact HNM.out
            · exact HA.out j (by omega)
          · repeat (first | exact HB.out | refine below_drewQ ?_ _)
        case measure => simp [intOf]; omega
    · have hk45 : k = 45 := by omega
      subst hk45
      have HT2 : Hid (Pl.tokF s i = .error 2) := by
        show Pl.tokF s i = _
        rw [HT.out, if_pos (Pl.sgn_no2 (by omega) HA.out)]
      clear hcr HA
      go_wp2_with (first | (refine wpList_load_row rfl 45 _ rfl (w.heap.size + 1) ?hx 45 #[.int .i64 0, .string ⟨#[]⟩, .int .i64 0, .int .i64 0, .int .i64 0, .int .i64 0, .int .i64 2, .int .i64 i] (0, 0) _ ?hg Tryz.underlying45 ?hd ?hi ?_; (case hx => rfl); (case hg => exact Q5r.out); (case hd => rfl); (case hi => kernel_rfl)) | (refine wpList_store_row rfl 45 _ _ rfl w.heap.size #[.int .i64 0, .string ⟨#[]⟩, .int .i64 0, .int .i64 0, .int .i64 0, .int .i64 0, .int .i64 2, .int .i64 i] ?hx ?hy 45 #[.int .i64 0, .string ⟨#[]⟩, .int .i64 0, .int .i64 0, .int .i64 0, .int .i64 0, .int .i64 0, .int .i64 0] ?hg ?hi ?ho ?h1 ?_; (case hx => rfl); (case hy => rfl); (case hg => exact Q4r.out); (case hi => kernel_rfl); (case ho => kernel_rfl); (case h1 => kernel_rfl)))
      refine bodyPost_ret (v := .agg #[.int .i64 0, .string ⟨#[]⟩, .int .i64 0, .int .i64 0, .int .i64 0, .int .i64 0, .int .i64 2, .int .i64 i]) ?hr ?hdf ?hQQ
      case hr =>
        refine results_cell_row Tryz.results25 _ _ (w.heap.size) 45 #[.int .i64 0, .string ⟨#[]⟩, .int .i64 0, .int .i64 0, .int .i64 0, .int .i64 0, .int .i64 2, .int .i64 i] (0, 0) _ ?hp ?hg Tryz.underlying45 ?hd ?hi
        case hp => rfl
        case hg => exact setRow_heap _ _ _ _ _ _ Q4r.out
        case hd => rfl
        case hi => kernel_rfl
      case hdf => rfl
      case hQQ => exact ⟨gotq_no HT2.out, below_setRow BWr.out (Nat.le_refl _) _⟩
end Go.Proofs.YtdplfflkmphpbaaGreatDoor.W
