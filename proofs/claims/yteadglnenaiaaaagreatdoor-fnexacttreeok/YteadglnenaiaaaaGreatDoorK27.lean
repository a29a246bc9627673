import Derived.Test.YteadglnenaiaaaaGreatDoorK23
import Derived.Test.YteadglnenaiaaaaGreatDoorK24
import Derived.Test.YteadglnenaiaaaaGreatDoorK25
import Derived.Test.YteadglnenaiaaaaGreatDoorK26
import Derived.Test.YteadglnenaiaaaaGreatDoorK17
set_option linter.unusedVariables false
set_option linter.unusedSimpArgs false
namespace Go.Proofs.YteadglnenaiaaaaGreatDoor.W
open Go.RowKit
theorem chr_eq (b : Nat) : ((⟨#[39]⟩ : ByteArray) ++ (⟨(Pl.shown b 39).toArray⟩ : ByteArray)) ++ (⟨#[39]⟩ : ByteArray) = Pl.chr b := by
  show ((⟨[39].toArray⟩ : ByteArray) ++ ⟨(Pl.shown b 39).toArray⟩) ++ ⟨[39].toArray⟩ = _
  rw [Pl.app_list, Pl.app_list]
  rfl
theorem specTT_is (t : Pl.Tk) (h1 : t.N ≤ 9223372036854775807) (hS : t.S.size ≤ 1048576) (w : World) : Calls Tryz.prog 24 #[.agg #[.int .i64 t.k, .string t.S, .int .i64 t.N, .int .i64 t.l, .int .i64 t.c]] w fun e w' => e = .returned (.string (Pl.ttS t)) ∧ Below w.heap.size w w' := by
  unfold Pl.ttS
  by_cases h3 : t.k = 3
  · rw [if_pos h3]
    by_cases hN : t.N < 0
    · rw [if_pos (.inl hN)]
      exact specTT_neg t h3 hN w
    by_cases hb : t.S ≠ ⟨#[]⟩ ∧ t.S ≠ ⟨#[117]⟩ ∧ t.S ≠ ⟨#[99]⟩
    · rw [if_pos (.inr hb)]
      exact specTT_bad t h3 hN hb.1 hb.2.1 hb.2.2 w
    rw [if_neg (fun q => q.elim hN hb)]
    obtain ⟨k, S, N, l, c⟩ := t
    simp only at h1 h3 hN hb hS ⊢
    subst h3
    obtain ⟨n, rfl⟩ : ∃ n : Nat, N = (n : Int) := ⟨N.toNat, by omega⟩
    by_cases hc : S = ⟨#[99]⟩
    · subst hc
      rw [if_pos rfl, show ((n : Int) % 256).toNat = n % 256 by omega, ← chr_eq]
      exact specTT_chr n l c h1 w
    · rw [if_neg hc]
      by_cases hu : S = ⟨#[117]⟩
      · subst hu
        exact specTT_intu n l c h1 w
      · obtain rfl : S = ⟨#[]⟩ := Classical.byContradiction fun q => hb ⟨q, hu, hc⟩
        exact specTT_inte n l c h1 w
  · rw [if_neg h3]
    by_cases h4 : t.k = 4
    · rw [if_pos h4]
      by_cases hl : 200 < t.S.size
      · rw [if_pos hl]
        exact specTT_long t h4 hl hS w
      · rw [if_neg hl]
        exact specTT_str t h4 (by omega) w
    · rw [if_neg h4]
      exact specTT_oth t h3 h4 hS w
end Go.Proofs.YteadglnenaiaaaaGreatDoor.W
namespace Go.Proofs.YteadglnenaiaaaaGreatDoor.Pl
theorem nm_no (s : ByteArray) (k : Nat) (hk : k < s.size) (h : wch (byt s k) = false) : nmB s = false := by
  unfold nmB
  have : ((List.range s.size).all fun i => wch (byt s i)) = false := by
    rw [List.all_eq_false]
    exact ⟨k, List.mem_range.mpr hk, by rw [h]; decide⟩
  rw [this]; simp
theorem nm_yes (s : ByteArray) (h1 : 0 < s.size) (h2 : s.size ≤ 40) (h3 : dg (byt s 0) = false) (h4 : isK s = false) (h : ∀ j, j < s.size → wch (byt s j) = true) : nmB s = true := by
  unfold nmB
  have : ((List.range s.size).all fun i => wch (byt s i)) = true := by
    rw [List.all_eq_true]
    intro x hx
    exact h x (List.mem_range.mp hx)
  rw [this, h3, h4]; simp; omega
end Go.Proofs.YteadglnenaiaaaaGreatDoor.Pl
namespace Go.Proofs.YteadglnenaiaaaaGreatDoor.W
open Go.RowKit
set_option maxHeartbeats 2000000 in
theorem l6NameOk_is (s : ByteArray) (w : World) : Calls Tryz.prog 25 #[.string s] w fun e w' => e = .returned (.bool (Pl.nmB s)) ∧ Below w.heap.size w w' := by
  by_cases he : s.size = 0
  · have hl : Pl.nmB s = false := by simp [Pl.nmB, he]
    rw [hl]
    have hz : (s.size : Int) < 1 := by omega
    clear hl he
    go_enter Tryz.func25, Tryz.ntmps25
    go_wp2
    go_ret
    exact ⟨rfl, Below.refl _ _⟩
  have hpos : 0 < s.size := by omega
  have hge : ¬ ((s.size : Int) < 1) := by omega
  by_cases hb : 40 < s.size
  · have hl : Pl.nmB s = false := by simp [Pl.nmB]; omega
    rw [hl]
    have hz : (40 : Int) < (s.size : Int) := by omega
    clear hl he
    go_enter Tryz.func25, Tryz.ntmps25
    go_wp2
    go_ret
    exact ⟨rfl, Below.refl _ _⟩
  have h40 : ¬ ((40 : Int) < (s.size : Int)) := by omega
  clear he
  have HG : Hid (∀ h : 0 < s.size, ((s[0]'h).toNat : Int) = Pl.byt s 0) := fun h => Pl.byt_get s 0 h
  cases hd : Pl.dg (Pl.byt s 0)
  rotate_left
  · have hl : Pl.nmB s = false := by simp [Pl.nmB, hd]
    rw [hl]
    clear hl
    have HD : Hid (Pl.dg (Pl.byt s 0) = true) := hd
    clear hd
    go_enter Tryz.func25, Tryz.ntmps25
    go_wp2_with (go_at_call 42; refine (l4Digit_any _ _).mono ?_; rintro e u1 ⟨rfl, rfl⟩; rw [HG.out hpos, HD.out])
    go_ret
    exact ⟨rfl, Below.refl _ _⟩
  have HD : Hid (Pl.dg (Pl.byt s 0) = false) := hd
  clear hd
  have HK : Hid (∀ u : World, Calls Tryz.prog 26 #[.slice (some ⟨u.heap.size, 0, none⟩) 23 23, .string s] (u.alloc (.cells Pl.kyTab 9)) fun e w' => e = .returned (.bool (Pl.isK s)) ∧ w' = u.alloc (.cells Pl.kyTab 9)) := fun u => l5In_keys s u
  cases hk : Pl.isK s
  rotate_left
  · have hl : Pl.nmB s = false := by simp [Pl.nmB, hk]
    rw [hl]
    rw [hk] at HK
    clear hl hk
    go_enter Tryz.func25, Tryz.ntmps25
    go_wp2_with (first | (go_at_call 42; refine (l4Digit_any _ _).mono ?_; rintro e u1 ⟨rfl, rfl⟩; rw [HG.out hpos, HD.out]) | (go_at_call 43; refine (l5Keys_is _).mono ?_; rintro e u2 ⟨rfl, rfl⟩) | (go_at_call 26; refine (HK.out _).mono ?_; rintro e u3 ⟨rfl, rfl⟩))
    go_ret
    exact ⟨rfl, below_alloc _ _⟩
  rw [hk] at HK
  have HKF : Hid (Pl.isK s = false) := hk
  have HW : Hid (∀ (c : Int) (u : World), Calls Tryz.prog 44 #[.int .u8 c] u fun e w' => e = .returned (.bool (Pl.wch c)) ∧ w' = u) := fun c u => l5Word_any c u
  clear hk
  go_enter Tryz.func25, Tryz.ntmps25
  go_wp2_with (first | (go_at_call 42; refine (l4Digit_any _ _).mono ?_; rintro e u1 ⟨rfl, rfl⟩; rw [HG.out hpos, HD.out]) | (go_at_call 43; refine (l5Keys_is _).mono ?_; rintro e u2 ⟨rfl, rfl⟩) | (go_at_call 26; refine (HK.out _).mono ?_; rintro e u3 ⟨rfl, rfl⟩))
  go_loop [3] (fun x => ∃ k : Nat, k ≤ s.size ∧ x = .int .i64 k ∧ ∀ j, j < k → Pl.wch (Pl.byt s j) = true) (fun x => s.size - (intOf x).toNat)
  case atStart => exact ⟨0, Nat.zero_le _, rfl, fun j hj => absurd hj (Nat.not_lt_zero j)⟩
  case round =>
    obtain ⟨k, hk, rfl, hall⟩ := hrel
    have HA : Hid (∀ j, j < k → Pl.wch (Pl.byt s j) = true) := hall
    clear hall
    by_cases hlt : k < s.size
    · have hi : (k : Int) < (s.size : Int) := by omega
      have HB : Hid (((s[k]'hlt).toNat : Int) = Pl.byt s k) := Pl.byt_get s k hlt
      cases hl1 : Pl.wch (Pl.byt s k)
      · have HF : Hid (Pl.nmB s = false) := Pl.nm_no s k hlt hl1
        have HL : Hid (Pl.wch (Pl.byt s k) = false) := hl1
        clear hl1
        go_wp2_with (go_at_call 44; refine (HW.out _ _).mono ?_; rintro e u1 ⟨rfl, rfl⟩; rw [HB.out, HL.out])
        go_ret
        exact ⟨ret_bool HF.out.symm, below_alloc _ _⟩
      · have HL : Hid (Pl.wch (Pl.byt s k) = true) := hl1
        clear hl1
        go_wp2_with (go_at_call 44; refine (HW.out _ _).mono ?_; rintro e u1 ⟨rfl, rfl⟩; rw [HB.out, HL.out])
        go_round
        case rel => exact ⟨k + 1, by omega, by go_num, fun j hj => by
               by_cases e : j = k
               · rw [e]; exact HL.out
               · exact HA.out j (by omega)⟩
        case measure => simp [intOf]; omega
    · have hi : ¬ ((k : Int) < (s.size : Int)) := by omega
      have HF : Hid (Pl.nmB s = true) := Pl.nm_yes s hpos (by omega) HD.out HKF.out fun j hj => HA.out j (by omega)
      go_wp2
      go_ret
      exact ⟨ret_bool HF.out.symm, below_alloc _ _⟩
set_option maxHeartbeats 4000000 in
theorem l6TextOk_is {lo : Nat} (x : Pl.Nd) (v : SV) (a : Option Addr) (len cap : Nat) (al : List ByteArray) (w : World) (h : SRow lo w a len cap al) (hs : x.s.size ≤ 1048576) (hn : x.n ≤ 9223372036854775807) : Calls Tryz.prog 14 #[.agg #[.int .i64 x.k, .int .i64 x.m, .int .i64 x.n, .string x.s, .slice v.a v.len v.cap, .int .i64 x.line, .int .i64 x.col], .slice a len cap] w fun e w' => e = .returned (.bool (Pl.txB x al)) ∧ Below w.heap.size w w' := by
  classical
  have HE : Hid (Pl.txB x al = if Pl.nam x.k = 5 then (if x.k = 33 then decide ((Pl.ttS ⟨3, x.s, x.n, 0, 0⟩).toList ≠ []) else decide (x.n = 0 ∧ (x.s.size : Int) ≤ 200))
    else if x.k = 1 then decide (1 ≤ x.n ∧ x.n ≤ 7 ∧ x.s.toList = [])
    else if x.n ≠ 0 then false
    else if Pl.nam x.k = 0 ∨ (Pl.nam x.k = 4 ∧ x.s.toList = []) then decide (x.s.toList = [])
    else Pl.nmB x.s && (decide (Pl.nam x.k = 2) || (Pl.inS al x.s == decide (Pl.nam x.k = 3)))) := by
    show Pl.txB x al = _
    unfold Pl.txB
    have e1 : (Pl.ttS ⟨3, x.s, x.n, 0, 0⟩ ≠ ⟨#[]⟩) = ((Pl.ttS ⟨3, x.s, x.n, 0, 0⟩).toList ≠ []) := by
      apply propext
      rw [ne_eq, ne_eq, Pl.nil_iff]
      constructor
      · intro q r; exact q (by
          have : (Pl.ttS ⟨3, x.s, x.n, 0, 0⟩).data = #[] := Array.eq_empty_of_size_eq_zero r
          exact ByteArray.ext this)
      · intro q r; exact q (by rw [r]; rfl)
    simp only [e1, ← Pl.nil_iff]
    have e2 : (x.s.size ≤ 200) = ((x.s.size : Int) ≤ 200) := propext (by omega)
    simp only [e2]
  have HTT : Hid (∀ u : World, Calls Tryz.prog 24 #[.agg #[.int .i64 3, .string x.s, .int .i64 x.n, .int .i64 0, .int .i64 0]] u fun e w' => e = .returned (.string (Pl.ttS ⟨3, x.s, x.n, 0, 0⟩)) ∧ Below u.heap.size u w') := fun u => specTT_is ⟨3, x.s, x.n, 0, 0⟩ hn hs u
  have HNM : Hid (∀ u : World, Calls Tryz.prog 25 #[.string x.s] u fun e w' => e = .returned (.bool (Pl.nmB x.s)) ∧ Below u.heap.size u w') := fun u => l6NameOk_is x.s u
  have HNA : Hid (∀ u : World, Calls Tryz.prog 23 #[.int .i64 x.k] u fun e w' => e = .returned (.int .i64 (Pl.nam x.k)) ∧ w' = u) := fun u => l6Named_is x.k u
  have HIN : Hid (∀ u : World, Below w.heap.size w u → Calls Tryz.prog 26 #[.slice a len cap, .string x.s] u fun e w' => e = .returned (.bool (Pl.inS al x.s)) ∧ Below u.heap.size u w') := fun u hu => l5In_any a len cap al x.s u (h.keep hu)
  generalize Pl.txB x al = R at *
  generalize Pl.ttS ⟨3, x.s, x.n, 0, 0⟩ = T at *
  generalize Pl.nmB x.s = NM at *
  generalize Pl.inS al x.s = IN at *
  generalize Pl.nam x.k = N at *
  have hsz : (x.s.size : Int) ≤ 9223372036854775807 := by omega
  clear h hs hn
  generalize x.s = S at *
  generalize x.n = n at *
  generalize x.k = k at *
  by_cases n5 : N = 5
  · subst n5
    by_cases k33 : k = 33
    · subst k33
      have HV : Hid (R = decide (T.toList ≠ [])) := HE.out
      clear HE
      go_enter Tryz.func14, Tryz.ntmps14
      go_wp2_with (first | (go_at_call 23; refine (HNA.out _).mono ?_; rintro e u1 ⟨rfl, rfl⟩) | (go_at_call 24; refine (HTT.out _).mono ?_; rintro e u2 ⟨rfl, d2⟩; have D2 : Hid (Below w.heap.size w u2) := (below_alloc _ _).trans (d2.mono (by simp)); clear d2) | (go_at_call 25; refine (HNM.out _).mono ?_; rintro e u3 ⟨rfl, d3⟩; have D3 : Hid (Below w.heap.size w u3) := (below_alloc _ _).trans (d3.mono (by simp)); have c3 : u3.cell? ⟨w.heap.size, 3, none⟩ = some (.string S) := (d3.cell (p := ⟨w.heap.size, 3, none⟩) (by simp)).trans (cell_of_row _ w.heap.size 3 _ 38 (0, 0) (heap_alloc_new w _)); clear d3) | (go_at_call 26; refine (HIN.out _ D3.out).mono ?_; rintro e u4 ⟨rfl, d4⟩; have D4 : Hid (Below w.heap.size w u4) := D3.out.trans (d4.mono D3.out.size); clear d4))
      all_goals (go_ret; refine ⟨ret_bool ?_, ?_⟩)
      all_goals first
        | exact below_alloc _ _
        | exact D4.out
        | exact D3.out
        | exact D2.out
        | exact HV.out.symm | (rw [HV.out]; done) | (rw [HV.out]; first | rfl | (rw [Bool.eq_iff_iff]; first | omega | (simp; done) | (simp; omega) | (simp_all; done) | (simp_all; omega)))
    · have HV : Hid (R = decide (n = 0 ∧ (S.size : Int) ≤ 200)) := by
        show R = _
        rw [HE.out, if_pos rfl, if_neg k33]
      clear HE
      go_enter Tryz.func14, Tryz.ntmps14
      go_wp2_with (first | (go_at_call 23; refine (HNA.out _).mono ?_; rintro e u1 ⟨rfl, rfl⟩) | (go_at_call 24; refine (HTT.out _).mono ?_; rintro e u2 ⟨rfl, d2⟩; have D2 : Hid (Below w.heap.size w u2) := (below_alloc _ _).trans (d2.mono (by simp)); clear d2) | (go_at_call 25; refine (HNM.out _).mono ?_; rintro e u3 ⟨rfl, d3⟩; have D3 : Hid (Below w.heap.size w u3) := (below_alloc _ _).trans (d3.mono (by simp)); have c3 : u3.cell? ⟨w.heap.size, 3, none⟩ = some (.string S) := (d3.cell (p := ⟨w.heap.size, 3, none⟩) (by simp)).trans (cell_of_row _ w.heap.size 3 _ 38 (0, 0) (heap_alloc_new w _)); clear d3) | (go_at_call 26; refine (HIN.out _ D3.out).mono ?_; rintro e u4 ⟨rfl, d4⟩; have D4 : Hid (Below w.heap.size w u4) := D3.out.trans (d4.mono D3.out.size); clear d4))
      all_goals (go_ret; refine ⟨ret_bool ?_, ?_⟩)
      all_goals first
        | exact below_alloc _ _
        | exact D4.out
        | exact D3.out
        | exact D2.out
        | exact HV.out.symm | (rw [HV.out]; done) | (rw [HV.out]; first | rfl | (rw [Bool.eq_iff_iff]; first | omega | (simp; done) | (simp; omega) | (simp_all; done) | (simp_all; omega)))
  have n5b : (N == 5) = false := by simpa using n5
  by_cases k1 : k = 1
  · subst k1
    have HV : Hid (R = decide (1 ≤ n ∧ n ≤ 7 ∧ S.toList = [])) := by
      show R = _
      rw [HE.out, if_neg n5, if_pos rfl]
    clear HE
    go_enter Tryz.func14, Tryz.ntmps14
    go_wp2_with (first | (go_at_call 23; refine (HNA.out _).mono ?_; rintro e u1 ⟨rfl, rfl⟩) | (go_at_call 24; refine (HTT.out _).mono ?_; rintro e u2 ⟨rfl, d2⟩; have D2 : Hid (Below w.heap.size w u2) := (below_alloc _ _).trans (d2.mono (by simp)); clear d2) | (go_at_call 25; refine (HNM.out _).mono ?_; rintro e u3 ⟨rfl, d3⟩; have D3 : Hid (Below w.heap.size w u3) := (below_alloc _ _).trans (d3.mono (by simp)); have c3 : u3.cell? ⟨w.heap.size, 3, none⟩ = some (.string S) := (d3.cell (p := ⟨w.heap.size, 3, none⟩) (by simp)).trans (cell_of_row _ w.heap.size 3 _ 38 (0, 0) (heap_alloc_new w _)); clear d3) | (go_at_call 26; refine (HIN.out _ D3.out).mono ?_; rintro e u4 ⟨rfl, d4⟩; have D4 : Hid (Below w.heap.size w u4) := D3.out.trans (d4.mono D3.out.size); clear d4))
    all_goals (go_ret; refine ⟨ret_bool ?_, ?_⟩)
    all_goals first
      | exact below_alloc _ _
      | exact D4.out
      | exact D3.out
      | exact D2.out
      | exact HV.out.symm | (rw [HV.out]; done) | (rw [HV.out]; first | rfl | (rw [Bool.eq_iff_iff]; first | omega | (simp; done) | (simp; omega) | (simp_all; done) | (simp_all; omega)))
  have k1b : (k == 1) = false := by simpa using k1
  by_cases n0 : n = 0
  rotate_left
  · have HV : Hid (R = false) := by
      show R = _
      rw [HE.out, if_neg n5, if_neg k1, if_pos n0]
    have n0b : (n == 0) = false := by simpa using n0
    have n0c : (n != 0) = true := by simpa using n0
    clear HE
    go_enter Tryz.func14, Tryz.ntmps14
    go_wp2_with (first | (go_at_call 23; refine (HNA.out _).mono ?_; rintro e u1 ⟨rfl, rfl⟩) | (go_at_call 24; refine (HTT.out _).mono ?_; rintro e u2 ⟨rfl, d2⟩; have D2 : Hid (Below w.heap.size w u2) := (below_alloc _ _).trans (d2.mono (by simp)); clear d2) | (go_at_call 25; refine (HNM.out _).mono ?_; rintro e u3 ⟨rfl, d3⟩; have D3 : Hid (Below w.heap.size w u3) := (below_alloc _ _).trans (d3.mono (by simp)); have c3 : u3.cell? ⟨w.heap.size, 3, none⟩ = some (.string S) := (d3.cell (p := ⟨w.heap.size, 3, none⟩) (by simp)).trans (cell_of_row _ w.heap.size 3 _ 38 (0, 0) (heap_alloc_new w _)); clear d3) | (go_at_call 26; refine (HIN.out _ D3.out).mono ?_; rintro e u4 ⟨rfl, d4⟩; have D4 : Hid (Below w.heap.size w u4) := D3.out.trans (d4.mono D3.out.size); clear d4))
    all_goals (go_ret; refine ⟨ret_bool ?_, ?_⟩)
    all_goals first
      | exact below_alloc _ _
      | exact D4.out
      | exact D3.out
      | exact D2.out
      | exact HV.out.symm | (rw [HV.out]; done) | (rw [HV.out]; first | rfl | (rw [Bool.eq_iff_iff]; first | omega | (simp; done) | (simp; omega) | (simp_all; done) | (simp_all; omega)))
  subst n0
  by_cases nA : N = 0
  · subst nA
    have HV : Hid (R = decide (S.toList = [])) := by
      show R = _
      rw [HE.out, if_neg n5, if_neg k1, if_neg (by omega), if_pos (.inl rfl)]
    clear HE
    go_enter Tryz.func14, Tryz.ntmps14
    go_wp2_with (first | (go_at_call 23; refine (HNA.out _).mono ?_; rintro e u1 ⟨rfl, rfl⟩) | (go_at_call 24; refine (HTT.out _).mono ?_; rintro e u2 ⟨rfl, d2⟩; have D2 : Hid (Below w.heap.size w u2) := (below_alloc _ _).trans (d2.mono (by simp)); clear d2) | (go_at_call 25; refine (HNM.out _).mono ?_; rintro e u3 ⟨rfl, d3⟩; have D3 : Hid (Below w.heap.size w u3) := (below_alloc _ _).trans (d3.mono (by simp)); have c3 : u3.cell? ⟨w.heap.size, 3, none⟩ = some (.string S) := (d3.cell (p := ⟨w.heap.size, 3, none⟩) (by simp)).trans (cell_of_row _ w.heap.size 3 _ 38 (0, 0) (heap_alloc_new w _)); clear d3) | (go_at_call 26; refine (HIN.out _ D3.out).mono ?_; rintro e u4 ⟨rfl, d4⟩; have D4 : Hid (Below w.heap.size w u4) := D3.out.trans (d4.mono D3.out.size); clear d4))
    all_goals (go_ret; refine ⟨ret_bool ?_, ?_⟩)
    all_goals first
      | exact below_alloc _ _
      | exact D4.out
      | exact D3.out
      | exact D2.out
      | exact HV.out.symm | (rw [HV.out]; done) | (rw [HV.out]; first | rfl | (rw [Bool.eq_iff_iff]; first | omega | (simp; done) | (simp; omega) | (simp_all; done) | (simp_all; omega)))
  have nAb : (N == 0) = false := by simpa using nA
  by_cases nB : N = 4
  · subst nB
    by_cases hS : S.toList = []
    · have HV : Hid (R = true) := by
        show R = _
        rw [HE.out, if_neg n5, if_neg k1, if_neg (by omega), if_pos (.inr ⟨rfl, hS⟩), hS]; rfl
      have hSe : S.toList.isEmpty = true := by rw [hS]; rfl
      clear HE
      go_enter Tryz.func14, Tryz.ntmps14
      go_wp2_with (first | (go_at_call 23; refine (HNA.out _).mono ?_; rintro e u1 ⟨rfl, rfl⟩) | (go_at_call 24; refine (HTT.out _).mono ?_; rintro e u2 ⟨rfl, d2⟩; have D2 : Hid (Below w.heap.size w u2) := (below_alloc _ _).trans (d2.mono (by simp)); clear d2) | (go_at_call 25; refine (HNM.out _).mono ?_; rintro e u3 ⟨rfl, d3⟩; have D3 : Hid (Below w.heap.size w u3) := (below_alloc _ _).trans (d3.mono (by simp)); have c3 : u3.cell? ⟨w.heap.size, 3, none⟩ = some (.string S) := (d3.cell (p := ⟨w.heap.size, 3, none⟩) (by simp)).trans (cell_of_row _ w.heap.size 3 _ 38 (0, 0) (heap_alloc_new w _)); clear d3) | (go_at_call 26; refine (HIN.out _ D3.out).mono ?_; rintro e u4 ⟨rfl, d4⟩; have D4 : Hid (Below w.heap.size w u4) := D3.out.trans (d4.mono D3.out.size); clear d4))
      all_goals (go_ret; refine ⟨ret_bool ?_, ?_⟩)
      all_goals first
        | exact below_alloc _ _
        | exact D4.out
        | exact D3.out
        | exact D2.out
        | exact HV.out.symm | (rw [HV.out]; done) | (rw [HV.out]; first | rfl | (rw [Bool.eq_iff_iff]; first | omega | (simp; done) | (simp; omega) | (simp_all; done) | (simp_all; omega)))
    have HV0 : Hid (R = (NM && (IN == false))) := by
      show R = _
      rw [HE.out, if_neg n5, if_neg k1, if_neg (by omega), if_neg (by rintro (q | ⟨_, q⟩); exact absurd q (by decide); exact hS q)]
      rfl
    have hSe : S.toList.isEmpty = false := by
      cases hh : S.toList with
      | nil => exact absurd hh hS
      | cons => rfl
    clear HE
    cases NM
    · have HV : Hid (R = false) := HV0.out
      go_enter Tryz.func14, Tryz.ntmps14
      go_wp2_with (first | (go_at_call 23; refine (HNA.out _).mono ?_; rintro e u1 ⟨rfl, rfl⟩) | (go_at_call 24; refine (HTT.out _).mono ?_; rintro e u2 ⟨rfl, d2⟩; have D2 : Hid (Below w.heap.size w u2) := (below_alloc _ _).trans (d2.mono (by simp)); clear d2) | (go_at_call 25; refine (HNM.out _).mono ?_; rintro e u3 ⟨rfl, d3⟩; have D3 : Hid (Below w.heap.size w u3) := (below_alloc _ _).trans (d3.mono (by simp)); have c3 : u3.cell? ⟨w.heap.size, 3, none⟩ = some (.string S) := (d3.cell (p := ⟨w.heap.size, 3, none⟩) (by simp)).trans (cell_of_row _ w.heap.size 3 _ 38 (0, 0) (heap_alloc_new w _)); clear d3) | (go_at_call 26; refine (HIN.out _ D3.out).mono ?_; rintro e u4 ⟨rfl, d4⟩; have D4 : Hid (Below w.heap.size w u4) := D3.out.trans (d4.mono D3.out.size); clear d4))
      all_goals (go_ret; refine ⟨ret_bool ?_, ?_⟩)
      all_goals first
        | exact below_alloc _ _
        | exact D4.out
        | exact D3.out
        | exact D2.out
        | exact HV.out.symm | (rw [HV.out]; done) | (rw [HV.out]; first | rfl | (rw [Bool.eq_iff_iff]; first | omega | (simp; done) | (simp; omega) | (simp_all; done) | (simp_all; omega)))
    · have HV : Hid (R = (IN == false)) := HV0.out
      go_enter Tryz.func14, Tryz.ntmps14
      go_wp2_with (first | (go_at_call 23; refine (HNA.out _).mono ?_; rintro e u1 ⟨rfl, rfl⟩) | (go_at_call 24; refine (HTT.out _).mono ?_; rintro e u2 ⟨rfl, d2⟩; have D2 : Hid (Below w.heap.size w u2) := (below_alloc _ _).trans (d2.mono (by simp)); clear d2) | (go_at_call 25; refine (HNM.out _).mono ?_; rintro e u3 ⟨rfl, d3⟩; have D3 : Hid (Below w.heap.size w u3) := (below_alloc _ _).trans (d3.mono (by simp)); have c3 : u3.cell? ⟨w.heap.size, 3, none⟩ = some (.string S) := (d3.cell (p := ⟨w.heap.size, 3, none⟩) (by simp)).trans (cell_of_row _ w.heap.size 3 _ 38 (0, 0) (heap_alloc_new w _)); clear d3) | (go_at_call 26; refine (HIN.out _ D3.out).mono ?_; rintro e u4 ⟨rfl, d4⟩; have D4 : Hid (Below w.heap.size w u4) := D3.out.trans (d4.mono D3.out.size); clear d4))
      all_goals (go_ret; refine ⟨ret_bool ?_, ?_⟩)
      all_goals first
        | exact below_alloc _ _
        | exact D4.out
        | exact D3.out
        | exact D2.out
        | exact HV.out.symm | (rw [HV.out]; done) | (rw [HV.out]; first | rfl | (rw [Bool.eq_iff_iff]; first | omega | (simp; done) | (simp; omega) | (simp_all; done) | (simp_all; omega)))
  have nBb : (N == 4) = false := by simpa using nB
  have HV0 : Hid (R = (NM && (decide (N = 2) || (IN == decide (N = 3))))) := by
    show R = _
    rw [HE.out, if_neg n5, if_neg k1, if_neg (by omega), if_neg (by rintro (q | ⟨q, _⟩); exact nA q; exact nB q)]
  clear HE
  cases NM
  · have HV : Hid (R = false) := HV0.out
    go_enter Tryz.func14, Tryz.ntmps14
    go_wp2_with (first | (go_at_call 23; refine (HNA.out _).mono ?_; rintro e u1 ⟨rfl, rfl⟩) | (go_at_call 24; refine (HTT.out _).mono ?_; rintro e u2 ⟨rfl, d2⟩; have D2 : Hid (Below w.heap.size w u2) := (below_alloc _ _).trans (d2.mono (by simp)); clear d2) | (go_at_call 25; refine (HNM.out _).mono ?_; rintro e u3 ⟨rfl, d3⟩; have D3 : Hid (Below w.heap.size w u3) := (below_alloc _ _).trans (d3.mono (by simp)); have c3 : u3.cell? ⟨w.heap.size, 3, none⟩ = some (.string S) := (d3.cell (p := ⟨w.heap.size, 3, none⟩) (by simp)).trans (cell_of_row _ w.heap.size 3 _ 38 (0, 0) (heap_alloc_new w _)); clear d3) | (go_at_call 26; refine (HIN.out _ D3.out).mono ?_; rintro e u4 ⟨rfl, d4⟩; have D4 : Hid (Below w.heap.size w u4) := D3.out.trans (d4.mono D3.out.size); clear d4))
    all_goals (go_ret; refine ⟨ret_bool ?_, ?_⟩)
    all_goals first
      | exact below_alloc _ _
      | exact D4.out
      | exact D3.out
      | exact D2.out
      | exact HV.out.symm | (rw [HV.out]; done) | (rw [HV.out]; first | rfl | (rw [Bool.eq_iff_iff]; first | omega | (simp; done) | (simp; omega) | (simp_all; done) | (simp_all; omega)))
  · by_cases n2 : N = 2
    · subst n2
      have HV : Hid (R = true) := HV0.out
      go_enter Tryz.func14, Tryz.ntmps14
      go_wp2_with (first | (go_at_call 23; refine (HNA.out _).mono ?_; rintro e u1 ⟨rfl, rfl⟩) | (go_at_call 24; refine (HTT.out _).mono ?_; rintro e u2 ⟨rfl, d2⟩; have D2 : Hid (Below w.heap.size w u2) := (below_alloc _ _).trans (d2.mono (by simp)); clear d2) | (go_at_call 25; refine (HNM.out _).mono ?_; rintro e u3 ⟨rfl, d3⟩; have D3 : Hid (Below w.heap.size w u3) := (below_alloc _ _).trans (d3.mono (by simp)); have c3 : u3.cell? ⟨w.heap.size, 3, none⟩ = some (.string S) := (d3.cell (p := ⟨w.heap.size, 3, none⟩) (by simp)).trans (cell_of_row _ w.heap.size 3 _ 38 (0, 0) (heap_alloc_new w _)); clear d3) | (go_at_call 26; refine (HIN.out _ D3.out).mono ?_; rintro e u4 ⟨rfl, d4⟩; have D4 : Hid (Below w.heap.size w u4) := D3.out.trans (d4.mono D3.out.size); clear d4))
      all_goals (go_ret; refine ⟨ret_bool ?_, ?_⟩)
      all_goals first
        | exact below_alloc _ _
        | exact D4.out
        | exact D3.out
        | exact D2.out
        | exact HV.out.symm | (rw [HV.out]; done) | (rw [HV.out]; first | rfl | (rw [Bool.eq_iff_iff]; first | omega | (simp; done) | (simp; omega) | (simp_all; done) | (simp_all; omega)))
    have n2b : (N == 2) = false := by simpa using n2
    have HV : Hid (R = (IN == decide (N = 3))) := by
      show R = _
      rw [HV0.out, decide_eq_false n2]; rfl
    clear HV0
    go_enter Tryz.func14, Tryz.ntmps14
    go_wp2_with (first | (go_at_call 23; refine (HNA.out _).mono ?_; rintro e u1 ⟨rfl, rfl⟩) | (go_at_call 24; refine (HTT.out _).mono ?_; rintro e u2 ⟨rfl, d2⟩; have D2 : Hid (Below w.heap.size w u2) := (below_alloc _ _).trans (d2.mono (by simp)); clear d2) | (go_at_call 25; refine (HNM.out _).mono ?_; rintro e u3 ⟨rfl, d3⟩; have D3 : Hid (Below w.heap.size w u3) := (below_alloc _ _).trans (d3.mono (by simp)); have c3 : u3.cell? ⟨w.heap.size, 3, none⟩ = some (.string S) := (d3.cell (p := ⟨w.heap.size, 3, none⟩) (by simp)).trans (cell_of_row _ w.heap.size 3 _ 38 (0, 0) (heap_alloc_new w _)); clear d3) | (go_at_call 26; refine (HIN.out _ D3.out).mono ?_; rintro e u4 ⟨rfl, d4⟩; have D4 : Hid (Below w.heap.size w u4) := D3.out.trans (d4.mono D3.out.size); clear d4))
    all_goals (go_ret; refine ⟨ret_bool ?_, ?_⟩)
    all_goals first
      | exact below_alloc _ _
      | exact D4.out
      | exact D3.out
      | exact D2.out
      | exact HV.out.symm | (rw [HV.out]; done) | (rw [HV.out]; first | rfl | (rw [Bool.eq_iff_iff]; first | omega | (simp; done) | (simp; omega) | (simp_all; done) | (simp_all; omega)))
end Go.Proofs.YteadglnenaiaaaaGreatDoor.W
namespace Go.Proofs.YteadglnenaiaaaaGreatDoor.Pl
def ltr (s : ByteArray) : List Int := s.data.toList.map fun b => (b.toNat : Int)
theorem ltr_len (s : ByteArray) : (ltr s).length = s.size := by unfold ltr; rw [List.length_map, Array.length_toList]; rfl
theorem ltr_drop {s : ByteArray} {p : Nat} (h : p < s.size) : (ltr s).drop p = byt s p :: (ltr s).drop (p + 1) := by
  rw [List.drop_eq_getElem_cons (by rw [ltr_len]; exact h)]
  congr 1
  unfold ltr byt
  rw [List.getElem_map, List.getD_eq_getElem?_getD, List.getElem?_eq_getElem (by rw [Array.length_toList]; exact h)]
  rfl
theorem drop_cons' {ks : List Int} {i : Nat} (h : i < ks.length) : ks.drop i = ks.getD i 0 :: ks.drop (i + 1) := by
  rw [List.drop_eq_getElem_cons h, List.getD_eq_getElem?_getD, List.getElem?_eq_getElem h]; rfl
theorem sh_ltr : ∀ k : Fin 50, ltr ⟨(shB.getD k.val []).toArray⟩ = shpT.getD k.val [] := by decide +kernel
theorem kS_q {cs ks : List Int} {m : Bool} : kS (63 :: cs) ks m = kS cs ks true := by
  conv => lhs; unfold kS
  rw [if_pos rfl]
theorem kS_some {c : Int} {cs : List Int} {m : Bool} (h63 : c ≠ 63) (hm : many c = true) (hs : some1 c = true) : kS (c :: cs) [] m = false := by unfold kS; rw [if_neg h63, if_pos hm, if_pos ⟨hs, rfl⟩]
theorem kS_bad {c : Int} {cs ks : List Int} {m : Bool} (h63 : c ≠ 63) (hm : many c = true) (hb : ks.all (fitS c) = false) : kS (c :: cs) ks m = false := by
  unfold kS
  rw [if_neg h63, if_pos hm]
  split
  · rfl
  · rw [if_neg (by rw [hb]; decide)]
theorem kS_all {c : Int} {cs ks : List Int} {m : Bool} (h63 : c ≠ 63) (hm : many c = true) (hs : some1 c = false ∨ ks ≠ []) (hb : ks.all (fitS c) = true) : kS (c :: cs) ks m = kS cs [] m := by
  conv => lhs; unfold kS
  rw [if_neg h63, if_pos hm, if_neg, if_pos hb]
  rintro ⟨a, b⟩
  rcases hs with q | q
  · rw [q] at a; cases a
  · exact q b
theorem kS_end {c : Int} {cs : List Int} {m : Bool} (h63 : c ≠ 63) (hm : many c = false) : kS (c :: cs) [] m = m := by
  conv => lhs; unfold kS
  rw [if_neg h63, if_neg (by rw [hm]; decide)]
theorem kS_one {c k : Int} {cs ks : List Int} {m : Bool} (h63 : c ≠ 63) (hm : many c = false) : kS (c :: cs) (k :: ks) m = if fitS c k = true then kS cs ks m else false := by
  conv => lhs; unfold kS
  rw [if_neg h63, if_neg (by rw [hm]; decide)]
theorem many_iff {c : Int} : many c = true ↔ c = 112 ∨ c = 102 ∨ c = 99 ∨ c = 73 ∨ c = 83 ∨ c = 100 ∨ c = 69 := by unfold many; simp [or_assoc]
end Go.Proofs.YteadglnenaiaaaaGreatDoor.Pl
namespace Go.Proofs.YteadglnenaiaaaaGreatDoor.W
open Go.RowKit
theorem row_bound {lo : Nat} {w : World} {a : Option Addr} {len cap : Nat} {zs : List Int} (h : Row .i64 lo w a len cap zs) {i : Nat} (hi : i < len) : -9223372036854775808 ≤ zs.getD i 0 ∧ zs.getD i 0 ≤ 9223372036854775807 := by
  have hm : zs.getD i 0 ∈ zs := Pl.getD_mem (by rw [h.1]; exact hi)
  have := h.2.2.2.1 _ hm
  exact bounds_i64 this
theorem row_cell {lo : Nat} {w : World} {a : Option Addr} {len cap : Nat} {zs : List Int} (h : Row .i64 lo w a len cap zs) {i : Nat} (hi : i < len) : ∃ b off, a = some ⟨b, off, none⟩ ∧ b < w.heap.size ∧ w.cell? ⟨b, off + i, none⟩ = some (.int .i64 (zs.getD i 0)) := by
  obtain ⟨_, _, _, _, h5⟩ := h
  rcases h5 with h5 | ⟨b, off, ha, _, hb, hc⟩
  · omega
  · exact ⟨b, off, ha, hb, hc i hi⟩
set_option maxRecDepth 4000 in
set_option maxHeartbeats 8000000 in
theorem l6KidsOk_is {lo : Nat} (s : ByteArray) (hs : s.size ≤ 1048576) (a : Option Addr) (len cap : Nat) (ks : List Int) (w : World) (h : Row .i64 lo w a len cap ks) : Calls Tryz.prog 11 #[.string s, .slice a len cap] w fun e w' => e = .returned (.bool (Pl.kS (Pl.ltr s) ks false)) ∧ w' = w := by
  obtain ⟨R, hR⟩ : ∃ R, R = Pl.kS (Pl.ltr s) ks false := ⟨_, rfl⟩
  rw [← hR]
  have HQ : Hid (R = Pl.kS (Pl.ltr s) ks false) := hR
  have HL : Hid (ks.length = len) := h.1
  have hm : (len : Int) ≤ 9223372036854775807 := by have := h.small; omega
  have HR : Hid (Row .i64 lo w a len cap ks) := h
  have HF : Hid (∀ (c k : Int) (u : World), -9223372036854775808 ≤ k ∧ k ≤ 9223372036854775807 → Calls Tryz.prog 22 #[.int .u8 c, .int .i64 k] u fun e w' => e = .returned (.bool (Pl.fitS c k)) ∧ w' = u) := fun c k u hk => l6Fits_is c k hk u
  clear h hR
  go_enter Tryz.func11, Tryz.ntmps11
  go_wp2_with fail
  go_loop [5, 6, 7] (fun x y z => ∃ (p i : Nat) (m : Bool), p ≤ s.size ∧ i ≤ len ∧ x = .int .i64 i ∧ y = .bool m ∧ z = .int .i64 p ∧ Hid (R = Pl.kS ((Pl.ltr s).drop p) (ks.drop i) m)) (fun _ _ z => s.size - (intOf z).toNat)
  case atStart => exact ⟨0, 0, false, Nat.zero_le _, Nat.zero_le _, rfl, rfl, rfl, HQ⟩
  case round =>
    obtain ⟨p, i, m, hp, hi, rfl, rfl, rfl, HI⟩ := hrel
    clear HQ
    by_cases hlt : p < s.size
    rotate_left
    · have hpi : ¬ ((p : Int) < (s.size : Int)) := by omega
      have HE : Hid (R = decide ((i : Int) = (len : Int))) := by
        show R = _
        rw [HI.out, List.drop_eq_nil_of_le (by rw [Pl.ltr_len]; omega)]
        show (ks.drop i).isEmpty = _
        rw [Bool.eq_iff_iff, List.isEmpty_iff, List.drop_eq_nil_iff, HL.out]
        simp; omega
      clear HI
      go_wp2_with fail
      all_goals (go_ret; refine ⟨ret_bool ?_, rfl⟩; rw [HE.out]; first | rfl | (simp <;> omega) | simp_all)
    have hpi : (p : Int) < (s.size : Int) := by omega
    have HB : Hid (((s[p]'hlt).toNat : Int) = Pl.byt s p) := Pl.byt_get s p hlt
    obtain ⟨c, hc⟩ : ∃ c, c = Pl.byt s p := ⟨_, rfl⟩
    have HI2 : Hid (R = Pl.kS (c :: (Pl.ltr s).drop (p + 1)) (ks.drop i) m) := by
      show R = _
      rw [HI.out, Pl.ltr_drop hlt, hc]
    rw [← hc] at HB
    clear hc HI
    by_cases h63 : c = 63
    · subst h63
      have HN : Hid (R = Pl.kS ((Pl.ltr s).drop (p + 1)) (ks.drop i) true) := HI2.out.trans Pl.kS_q
      have HB' := HB.out
      clear HI2 HB
      go_wp2_with fail
      go_round
      case rel => exact ⟨p + 1, i, true, by omega, hi, rfl, rfl, by go_num, HN⟩
      case measure => simp [intOf]; omega
    cases hmc : Pl.many c
    · have N63 : Hid (c ≠ 63) := h63
      have HM : Hid (Pl.many c = false) := hmc
      have hno : ¬ (c = 112) ∧ ¬ (c = 102) ∧ ¬ (c = 99) ∧ ¬ (c = 73) ∧ ¬ (c = 83) ∧ ¬ (c = 100) ∧ ¬ (c = 69) := by
        have : ¬ Pl.many c = true := by rw [hmc]; decide
        rw [Pl.many_iff] at this
        omega
      obtain ⟨g1, g2, g3, g4, g5, g6, g7⟩ := hno
      have gb1 : (c == 112) = false := by simpa using g1
      have gb2 : (c == 102) = false := by simpa using g2
      have gb3 : (c == 99) = false := by simpa using g3
      have gb4 : (c == 73) = false := by simpa using g4
      have gb5 : (c == 83) = false := by simpa using g5
      have gb6 : (c == 100) = false := by simpa using g6
      have gb7 : (c == 69) = false := by simpa using g7
      have gb8 : (c == 63) = false := by simpa using h63
      clear hmc
      have HB' := HB.out
      by_cases hil : i = len
      · have HE : Hid (R = m) := by
          show R = m
          rw [HI2.out, @List.drop_eq_nil_of_le _ ks _ (by rw [HL.out]; omega), Pl.kS_end N63.out HM.out]
        have hii : (i : Int) = (len : Int) := by omega
        clear HI2 hil HB
        go_wp2_with fail
        go_ret
        exact ⟨ret_bool HE.out.symm, rfl⟩
      · have hil2 : i < len := by omega
        have hii : ¬ ((i : Int) = (len : Int)) := by omega
        have hii2 : (i : Int) < (len : Int) := by omega
        obtain ⟨b, off, rfl, hb, hcell⟩ := row_cell HR.out hil2
        have hbd := row_bound HR.out hil2
        have HI3 : Hid (R = if Pl.fitS c (ks.getD i 0) = true then Pl.kS ((Pl.ltr s).drop (p + 1)) (ks.drop (i + 1)) m else false) := by
          show R = _
          rw [HI2.out, Pl.drop_cons' (ks := ks) (by rw [HL.out]; exact hil2), Pl.kS_one N63.out HM.out]
        have HFC : Hid (∀ u : World, Calls Tryz.prog 22 #[.int .u8 c, .int .i64 (ks.getD i 0)] u fun e w' => e = .returned (.bool (Pl.fitS c (ks.getD i 0))) ∧ w' = u) := fun u => HF.out c (ks.getD i 0) u hbd
        clear HI2 hil hbd
        generalize ks.getD i 0 = k at *
        cases hf : Pl.fitS c k
        · rw [hf] at HI3 HFC
          have HE : Hid (R = false) := HI3.out
          clear HI3 hf HB
          go_wp2_with (go_at_call 22; (try rw [HB']); refine (HFC.out _).mono ?_; rintro e u1 ⟨rfl, rfl⟩)
          go_ret
          exact ⟨ret_bool HE.out.symm, rfl⟩
        · rw [hf] at HI3 HFC
          have HE : Hid (R = Pl.kS ((Pl.ltr s).drop (p + 1)) (ks.drop (i + 1)) m) := HI3.out
          clear HI3 hf HB
          go_wp2_with (go_at_call 22; (try rw [HB']); refine (HFC.out _).mono ?_; rintro e u1 ⟨rfl, rfl⟩)
          go_round
          case rel => exact ⟨p + 1, i + 1, m, by omega, by omega, by go_num, rfl, by go_num, HE⟩
          case measure => simp [intOf]; omega
    · have N63 : Hid (c ≠ 63) := h63
      have HM : Hid (Pl.many c = true) := hmc
      have hcs := Pl.many_iff.mp hmc
      clear hmc h63
      by_cases hse : Pl.some1 c = true ∧ i = len
      · have HE : Hid (R = false) := by
          show R = false
          rw [HI2.out, @List.drop_eq_nil_of_le _ ks _ (by rw [HL.out, hse.2]; omega), Pl.kS_some N63.out HM.out hse.1]
        have hii : (i : Int) = (len : Int) := by omega
        have hc3 : c = 102 ∨ c = 99 ∨ c = 73 := by have := hse.1; unfold Pl.some1 at this; simp at this; omega
        have HB' := HB.out
        clear HI2 hcs hse HB N63 HM
        rcases hc3 with rfl | rfl | rfl
        all_goals
          go_wp2_with fail
          go_ret
          exact ⟨ret_bool HE.out.symm, rfl⟩
      have HSE : Hid (Pl.some1 c = false ∨ ks.drop i ≠ []) := by
        show _ ∨ _
        by_cases q : Pl.some1 c = true
        · right; intro q2
          rw [List.drop_eq_nil_iff, HL.out] at q2
          exact hse ⟨q, by omega⟩
        · left; simpa using q
      have hg : c = 112 ∨ (c = 102 ∧ ¬ ((i : Int) = (len : Int))) ∨ (c = 99 ∧ ¬ ((i : Int) = (len : Int))) ∨ (c = 73 ∧ ¬ ((i : Int) = (len : Int))) ∨ c = 83 ∨ c = 100 ∨ c = 69 := by
        rcases hcs with q | q | q | q | q | q | q
        · exact .inl q
        · exact .inr (.inl ⟨q, fun e => hse ⟨by rw [q]; decide, by omega⟩⟩)
        · exact .inr (.inr (.inl ⟨q, fun e => hse ⟨by rw [q]; decide, by omega⟩⟩))
        · exact .inr (.inr (.inr (.inl ⟨q, fun e => hse ⟨by rw [q]; decide, by omega⟩⟩)))
        · exact .inr (.inr (.inr (.inr (.inl q))))
        · exact .inr (.inr (.inr (.inr (.inr (.inl q)))))
        · exact .inr (.inr (.inr (.inr (.inr (.inr q)))))
      have HB' := HB.out
      clear hcs hse HB
      rcases hg with rfl | ⟨rfl, hne⟩ | ⟨rfl, hne⟩ | ⟨rfl, hne⟩ | rfl | rfl | rfl
      · go_wp2_with fail
        go_loop [5] (fun x => ∃ j : Nat, i ≤ j ∧ j ≤ len ∧ x = .int .i64 j ∧ Hid (∀ q, i ≤ q → q < j → Pl.fitS 112 (ks.getD q 0) = true)) (fun x => len - (intOf x).toNat)
        case atStart => exact ⟨i, Nat.le_refl _, hi, rfl, fun q h1 h2 => by omega⟩
        case round =>
          obtain ⟨j, hj1, hj2, rfl, HA⟩ := hrel
          by_cases hjl : j < len
          · have hjj : (j : Int) < (len : Int) := by omega
            obtain ⟨b, off, rfl, hb, hcell⟩ := row_cell HR.out hjl
            have hbd := row_bound HR.out hjl
            have HFC : Hid (∀ u : World, Calls Tryz.prog 22 #[.int .u8 112, .int .i64 (ks.getD j 0)] u fun e w' => e = .returned (.bool (Pl.fitS 112 (ks.getD j 0))) ∧ w' = u) := fun u => HF.out 112 (ks.getD j 0) u hbd
            cases hf : Pl.fitS 112 (ks.getD j 0)
            · have HE : Hid (R = false) := by
                show R = false
                rw [HI2.out]
                refine Pl.kS_bad N63.out HM.out ?_
                rw [List.all_eq_false]
                refine ⟨ks.getD j 0, ?_, by rw [hf]; decide⟩
                have e2 : (ks.drop i)[j - i]? = ks[j]? := by rw [List.getElem?_drop]; congr 1; omega
                rw [List.getD_eq_getElem?_getD, ← e2]
                have hl2 : j - i < (ks.drop i).length := by rw [List.length_drop, HL.out]; omega
                rw [List.getElem?_eq_getElem hl2]
                exact List.getElem_mem _
              rw [hf] at HFC
              clear hf hbd
              generalize ks.getD j 0 = k at *
              go_wp2_with (go_at_call 22; (try rw [HB']); refine (HFC.out _).mono ?_; rintro e u1 ⟨rfl, rfl⟩)
              go_ret
              exact ⟨ret_bool HE.out.symm, rfl⟩
            · have HF1 : Hid (Pl.fitS 112 (ks.getD j 0) = true) := hf
              rw [hf] at HFC
              clear hf hbd
              generalize hk : ks.getD j 0 = k at *
              have HK : Hid (ks.getD j 0 = k) := hk
              clear hk
              go_wp2_with (go_at_call 22; (try rw [HB']); refine (HFC.out _).mono ?_; rintro e u1 ⟨rfl, rfl⟩)
              go_round
              case rel => exact ⟨j + 1, by omega, by omega, by go_num, fun q h1 h2 => by
                by_cases e : q = j
                · rw [e, HK.out]; exact HF1.out
                · exact HA.out q h1 (by omega)⟩
              case measure => simp [intOf]; omega
          · have hjj : ¬ ((j : Int) < (len : Int)) := by omega
            have hjl2 : j = len := by omega
            have HE : Hid (R = Pl.kS ((Pl.ltr s).drop (p + 1)) (ks.drop len) m) := by
              show R = _
              rw [HI2.out, Pl.kS_all N63.out HM.out HSE.out, @List.drop_eq_nil_of_le _ ks _ (by rw [HL.out]; omega)]
              rw [List.all_eq_true]
              intro x hx
              obtain ⟨q, hq, e⟩ := List.getElem_of_mem hx
              have hl2 : i + q < ks.length := by rw [List.length_drop] at hq; omega
              have := HA.out (i + q) (by omega) (by rw [HL.out] at hl2; omega)
              rw [List.getElem_drop] at e
              rw [List.getD_eq_getElem?_getD, List.getElem?_eq_getElem hl2] at this
              rw [← e]; exact this
            subst hjl2
            clear HA HI2
            go_wp2_with fail
            go_round
            case rel => exact ⟨p + 1, j, m, by omega, by omega, rfl, rfl, by go_num, HE⟩
            case measure => simp [intOf]; omega
      · go_wp2_with fail
        go_loop [5] (fun x => ∃ j : Nat, i ≤ j ∧ j ≤ len ∧ x = .int .i64 j ∧ Hid (∀ q, i ≤ q → q < j → Pl.fitS 102 (ks.getD q 0) = true)) (fun x => len - (intOf x).toNat)
        case atStart => exact ⟨i, Nat.le_refl _, hi, rfl, fun q h1 h2 => by omega⟩
        case round =>
          obtain ⟨j, hj1, hj2, rfl, HA⟩ := hrel
          by_cases hjl : j < len
          · have hjj : (j : Int) < (len : Int) := by omega
            obtain ⟨b, off, rfl, hb, hcell⟩ := row_cell HR.out hjl
            have hbd := row_bound HR.out hjl
            have HFC : Hid (∀ u : World, Calls Tryz.prog 22 #[.int .u8 102, .int .i64 (ks.getD j 0)] u fun e w' => e = .returned (.bool (Pl.fitS 102 (ks.getD j 0))) ∧ w' = u) := fun u => HF.out 102 (ks.getD j 0) u hbd
            cases hf : Pl.fitS 102 (ks.getD j 0)
            · have HE : Hid (R = false) := by
                show R = false
                rw [HI2.out]
                refine Pl.kS_bad N63.out HM.out ?_
                rw [List.all_eq_false]
                refine ⟨ks.getD j 0, ?_, by rw [hf]; decide⟩
                have e2 : (ks.drop i)[j - i]? = ks[j]? := by rw [List.getElem?_drop]; congr 1; omega
                rw [List.getD_eq_getElem?_getD, ← e2]
                have hl2 : j - i < (ks.drop i).length := by rw [List.length_drop, HL.out]; omega
                rw [List.getElem?_eq_getElem hl2]
                exact List.getElem_mem _
              rw [hf] at HFC
              clear hf hbd
              generalize ks.getD j 0 = k at *
              go_wp2_with (go_at_call 22; (try rw [HB']); refine (HFC.out _).mono ?_; rintro e u1 ⟨rfl, rfl⟩)
              go_ret
              exact ⟨ret_bool HE.out.symm, rfl⟩
            · have HF1 : Hid (Pl.fitS 102 (ks.getD j 0) = true) := hf
              rw [hf] at HFC
              clear hf hbd
              generalize hk : ks.getD j 0 = k at *
              have HK : Hid (ks.getD j 0 = k) := hk
              clear hk
              go_wp2_with (go_at_call 22; (try rw [HB']); refine (HFC.out _).mono ?_; rintro e u1 ⟨rfl, rfl⟩)
              go_round
              case rel => exact ⟨j + 1, by omega, by omega, by go_num, fun q h1 h2 => by
                by_cases e : q = j
                · rw [e, HK.out]; exact HF1.out
                · exact HA.out q h1 (by omega)⟩
              case measure => simp [intOf]; omega
          · have hjj : ¬ ((j : Int) < (len : Int)) := by omega
            have hjl2 : j = len := by omega
            have HE : Hid (R = Pl.kS ((Pl.ltr s).drop (p + 1)) (ks.drop len) m) := by
              show R = _
              rw [HI2.out, Pl.kS_all N63.out HM.out HSE.out, @List.drop_eq_nil_of_le _ ks _ (by rw [HL.out]; omega)]
              rw [List.all_eq_true]
              intro x hx
              obtain ⟨q, hq, e⟩ := List.getElem_of_mem hx
              have hl2 : i + q < ks.length := by rw [List.length_drop] at hq; omega
              have := HA.out (i + q) (by omega) (by rw [HL.out] at hl2; omega)
              rw [List.getElem_drop] at e
              rw [List.getD_eq_getElem?_getD, List.getElem?_eq_getElem hl2] at this
              rw [← e]; exact this
            subst hjl2
            clear HA HI2
            go_wp2_with fail
            go_round
            case rel => exact ⟨p + 1, j, m, by omega, by omega, rfl, rfl, by go_num, HE⟩
            case measure => simp [intOf]; omega
      · go_wp2_with fail
        go_loop [5] (fun x => ∃ j : Nat, i ≤ j ∧ j ≤ len ∧ x = .int .i64 j ∧ Hid (∀ q, i ≤ q → q < j → Pl.fitS 99 (ks.getD q 0) = true)) (fun x => len - (intOf x).toNat)
        case atStart => exact ⟨i, Nat.le_refl _, hi, rfl, fun q h1 h2 => by omega⟩
        case round =>
          obtain ⟨j, hj1, hj2, rfl, HA⟩ := hrel
          by_cases hjl : j < len
          · have hjj : (j : Int) < (len : Int) := by omega
            obtain ⟨b, off, rfl, hb, hcell⟩ := row_cell HR.out hjl
            have hbd := row_bound HR.out hjl
            have HFC : Hid (∀ u : World, Calls Tryz.prog 22 #[.int .u8 99, .int .i64 (ks.getD j 0)] u fun e w' => e = .returned (.bool (Pl.fitS 99 (ks.getD j 0))) ∧ w' = u) := fun u => HF.out 99 (ks.getD j 0) u hbd
            cases hf : Pl.fitS 99 (ks.getD j 0)
            · have HE : Hid (R = false) := by
                show R = false
                rw [HI2.out]
                refine Pl.kS_bad N63.out HM.out ?_
                rw [List.all_eq_false]
                refine ⟨ks.getD j 0, ?_, by rw [hf]; decide⟩
                have e2 : (ks.drop i)[j - i]? = ks[j]? := by rw [List.getElem?_drop]; congr 1; omega
                rw [List.getD_eq_getElem?_getD, ← e2]
                have hl2 : j - i < (ks.drop i).length := by rw [List.length_drop, HL.out]; omega
                rw [List.getElem?_eq_getElem hl2]
                exact List.getElem_mem _
              rw [hf] at HFC
              clear hf hbd
              generalize ks.getD j 0 = k at *
              go_wp2_with (go_at_call 22; (try rw [HB']); refine (HFC.out _).mono ?_; rintro e u1 ⟨rfl, rfl⟩)
              go_ret
              exact ⟨ret_bool HE.out.symm, rfl⟩
            · have HF1 : Hid (Pl.fitS 99 (ks.getD j 0) = true) := hf
              rw [hf] at HFC
              clear hf hbd
              generalize hk : ks.getD j 0 = k at *
              have HK : Hid (ks.getD j 0 = k) := hk
              clear hk
              go_wp2_with (go_at_call 22; (try rw [HB']); refine (HFC.out _).mono ?_; rintro e u1 ⟨rfl, rfl⟩)
              go_round
              case rel => exact ⟨j + 1, by omega, by omega, by go_num, fun q h1 h2 => by
                by_cases e : q = j
                · rw [e, HK.out]; exact HF1.out
                · exact HA.out q h1 (by omega)⟩
              case measure => simp [intOf]; omega
          · have hjj : ¬ ((j : Int) < (len : Int)) := by omega
            have hjl2 : j = len := by omega
            have HE : Hid (R = Pl.kS ((Pl.ltr s).drop (p + 1)) (ks.drop len) m) := by
              show R = _
              rw [HI2.out, Pl.kS_all N63.out HM.out HSE.out, @List.drop_eq_nil_of_le _ ks _ (by rw [HL.out]; omega)]
              rw [List.all_eq_true]
              intro x hx
              obtain ⟨q, hq, e⟩ := List.getElem_of_mem hx
              have hl2 : i + q < ks.length := by rw [List.length_drop] at hq; omega
              have := HA.out (i + q) (by omega) (by rw [HL.out] at hl2; omega)
              rw [List.getElem_drop] at e
              rw [List.getD_eq_getElem?_getD, List.getElem?_eq_getElem hl2] at this
              rw [← e]; exact this
            subst hjl2
            clear HA HI2
            go_wp2_with fail
            go_round
            case rel => exact ⟨p + 1, j, m, by omega, by omega, rfl, rfl, by go_num, HE⟩
            case measure => simp [intOf]; omega
      · go_wp2_with fail
        go_loop [5] (fun x => ∃ j : Nat, i ≤ j ∧ j ≤ len ∧ x = .int .i64 j ∧ Hid (∀ q, i ≤ q → q < j → Pl.fitS 73 (ks.getD q 0) = true)) (fun x => len - (intOf x).toNat)
        case atStart => exact ⟨i, Nat.le_refl _, hi, rfl, fun q h1 h2 => by omega⟩
        case round =>
          obtain ⟨j, hj1, hj2, rfl, HA⟩ := hrel
          by_cases hjl : j < len
          · have hjj : (j : Int) < (len : Int) := by omega
            obtain ⟨b, off, rfl, hb, hcell⟩ := row_cell HR.out hjl
            have hbd := row_bound HR.out hjl
            have HFC : Hid (∀ u : World, Calls Tryz.prog 22 #[.int .u8 73, .int .i64 (ks.getD j 0)] u fun e w' => e = .returned (.bool (Pl.fitS 73 (ks.getD j 0))) ∧ w' = u) := fun u => HF.out 73 (ks.getD j 0) u hbd
            cases hf : Pl.fitS 73 (ks.getD j 0)
            · have HE : Hid (R = false) := by
                show R = false
                rw [HI2.out]
                refine Pl.kS_bad N63.out HM.out ?_
                rw [List.all_eq_false]
                refine ⟨ks.getD j 0, ?_, by rw [hf]; decide⟩
                have e2 : (ks.drop i)[j - i]? = ks[j]? := by rw [List.getElem?_drop]; congr 1; omega
                rw [List.getD_eq_getElem?_getD, ← e2]
                have hl2 : j - i < (ks.drop i).length := by rw [List.length_drop, HL.out]; omega
                rw [List.getElem?_eq_getElem hl2]
                exact List.getElem_mem _
              rw [hf] at HFC
              clear hf hbd
              generalize ks.getD j 0 = k at *
              go_wp2_with (go_at_call 22; (try rw [HB']); refine (HFC.out _).mono ?_; rintro e u1 ⟨rfl, rfl⟩)
              go_ret
              exact ⟨ret_bool HE.out.symm, rfl⟩
            · have HF1 : Hid (Pl.fitS 73 (ks.getD j 0) = true) := hf
              rw [hf] at HFC
              clear hf hbd
              generalize hk : ks.getD j 0 = k at *
              have HK : Hid (ks.getD j 0 = k) := hk
              clear hk
              go_wp2_with (go_at_call 22; (try rw [HB']); refine (HFC.out _).mono ?_; rintro e u1 ⟨rfl, rfl⟩)
              go_round
              case rel => exact ⟨j + 1, by omega, by omega, by go_num, fun q h1 h2 => by
                by_cases e : q = j
                · rw [e, HK.out]; exact HF1.out
                · exact HA.out q h1 (by omega)⟩
              case measure => simp [intOf]; omega
          · have hjj : ¬ ((j : Int) < (len : Int)) := by omega
            have hjl2 : j = len := by omega
            have HE : Hid (R = Pl.kS ((Pl.ltr s).drop (p + 1)) (ks.drop len) m) := by
              show R = _
              rw [HI2.out, Pl.kS_all N63.out HM.out HSE.out, @List.drop_eq_nil_of_le _ ks _ (by rw [HL.out]; omega)]
              rw [List.all_eq_true]
              intro x hx
              obtain ⟨q, hq, e⟩ := List.getElem_of_mem hx
              have hl2 : i + q < ks.length := by rw [List.length_drop] at hq; omega
              have := HA.out (i + q) (by omega) (by rw [HL.out] at hl2; omega)
              rw [List.getElem_drop] at e
              rw [List.getD_eq_getElem?_getD, List.getElem?_eq_getElem hl2] at this
              rw [← e]; exact this
            subst hjl2
            clear HA HI2
            go_wp2_with fail
            go_round
            case rel => exact ⟨p + 1, j, m, by omega, by omega, rfl, rfl, by go_num, HE⟩
            case measure => simp [intOf]; omega
      · go_wp2_with fail
        go_loop [5] (fun x => ∃ j : Nat, i ≤ j ∧ j ≤ len ∧ x = .int .i64 j ∧ Hid (∀ q, i ≤ q → q < j → Pl.fitS 83 (ks.getD q 0) = true)) (fun x => len - (intOf x).toNat)
        case atStart => exact ⟨i, Nat.le_refl _, hi, rfl, fun q h1 h2 => by omega⟩
        case round =>
          obtain ⟨j, hj1, hj2, rfl, HA⟩ := hrel
          by_cases hjl : j < len
          · have hjj : (j : Int) < (len : Int) := by omega
            obtain ⟨b, off, rfl, hb, hcell⟩ := row_cell HR.out hjl
            have hbd := row_bound HR.out hjl
            have HFC : Hid (∀ u : World, Calls Tryz.prog 22 #[.int .u8 83, .int .i64 (ks.getD j 0)] u fun e w' => e = .returned (.bool (Pl.fitS 83 (ks.getD j 0))) ∧ w' = u) := fun u => HF.out 83 (ks.getD j 0) u hbd
            cases hf : Pl.fitS 83 (ks.getD j 0)
            · have HE : Hid (R = false) := by
                show R = false
                rw [HI2.out]
                refine Pl.kS_bad N63.out HM.out ?_
                rw [List.all_eq_false]
                refine ⟨ks.getD j 0, ?_, by rw [hf]; decide⟩
                have e2 : (ks.drop i)[j - i]? = ks[j]? := by rw [List.getElem?_drop]; congr 1; omega
                rw [List.getD_eq_getElem?_getD, ← e2]
                have hl2 : j - i < (ks.drop i).length := by rw [List.length_drop, HL.out]; omega
                rw [List.getElem?_eq_getElem hl2]
                exact List.getElem_mem _
              rw [hf] at HFC
              clear hf hbd
              generalize ks.getD j 0 = k at *
              go_wp2_with (go_at_call 22; (try rw [HB']); refine (HFC.out _).mono ?_; rintro e u1 ⟨rfl, rfl⟩)
              go_ret
              exact ⟨ret_bool HE.out.symm, rfl⟩
            · have HF1 : Hid (Pl.fitS 83 (ks.getD j 0) = true) := hf
              rw [hf] at HFC
              clear hf hbd
              generalize hk : ks.getD j 0 = k at *
              have HK : Hid (ks.getD j 0 = k) := hk
              clear hk
              go_wp2_with (go_at_call 22; (try rw [HB']); refine (HFC.out _).mono ?_; rintro e u1 ⟨rfl, rfl⟩)
              go_round
              case rel => exact ⟨j + 1, by omega, by omega, by go_num, fun q h1 h2 => by
                by_cases e : q = j
                · rw [e, HK.out]; exact HF1.out
                · exact HA.out q h1 (by omega)⟩
              case measure => simp [intOf]; omega
          · have hjj : ¬ ((j : Int) < (len : Int)) := by omega
            have hjl2 : j = len := by omega
            have HE : Hid (R = Pl.kS ((Pl.ltr s).drop (p + 1)) (ks.drop len) m) := by
              show R = _
              rw [HI2.out, Pl.kS_all N63.out HM.out HSE.out, @List.drop_eq_nil_of_le _ ks _ (by rw [HL.out]; omega)]
              rw [List.all_eq_true]
              intro x hx
              obtain ⟨q, hq, e⟩ := List.getElem_of_mem hx
              have hl2 : i + q < ks.length := by rw [List.length_drop] at hq; omega
              have := HA.out (i + q) (by omega) (by rw [HL.out] at hl2; omega)
              rw [List.getElem_drop] at e
              rw [List.getD_eq_getElem?_getD, List.getElem?_eq_getElem hl2] at this
              rw [← e]; exact this
            subst hjl2
            clear HA HI2
            go_wp2_with fail
            go_round
            case rel => exact ⟨p + 1, j, m, by omega, by omega, rfl, rfl, by go_num, HE⟩
            case measure => simp [intOf]; omega
      · go_wp2_with fail
        go_loop [5] (fun x => ∃ j : Nat, i ≤ j ∧ j ≤ len ∧ x = .int .i64 j ∧ Hid (∀ q, i ≤ q → q < j → Pl.fitS 100 (ks.getD q 0) = true)) (fun x => len - (intOf x).toNat)
        case atStart => exact ⟨i, Nat.le_refl _, hi, rfl, fun q h1 h2 => by omega⟩
        case round =>
          obtain ⟨j, hj1, hj2, rfl, HA⟩ := hrel
          by_cases hjl : j < len
          · have hjj : (j : Int) < (len : Int) := by omega
            obtain ⟨b, off, rfl, hb, hcell⟩ := row_cell HR.out hjl
            have hbd := row_bound HR.out hjl
            have HFC : Hid (∀ u : World, Calls Tryz.prog 22 #[.int .u8 100, .int .i64 (ks.getD j 0)] u fun e w' => e = .returned (.bool (Pl.fitS 100 (ks.getD j 0))) ∧ w' = u) := fun u => HF.out 100 (ks.getD j 0) u hbd
            cases hf : Pl.fitS 100 (ks.getD j 0)
            · have HE : Hid (R = false) := by
                show R = false
                rw [HI2.out]
                refine Pl.kS_bad N63.out HM.out ?_
                rw [List.all_eq_false]
                refine ⟨ks.getD j 0, ?_, by rw [hf]; decide⟩
                have e2 : (ks.drop i)[j - i]? = ks[j]? := by rw [List.getElem?_drop]; congr 1; omega
                rw [List.getD_eq_getElem?_getD, ← e2]
                have hl2 : j - i < (ks.drop i).length := by rw [List.length_drop, HL.out]; omega
                rw [List.getElem?_eq_getElem hl2]
                exact List.getElem_mem _
              rw [hf] at HFC
              clear hf hbd
              generalize ks.getD j 0 = k at *
              go_wp2_with (go_at_call 22; (try rw [HB']); refine (HFC.out _).mono ?_; rintro e u1 ⟨rfl, rfl⟩)
              go_ret
              exact ⟨ret_bool HE.out.symm, rfl⟩
            · have HF1 : Hid (Pl.fitS 100 (ks.getD j 0) = true) := hf
              rw [hf] at HFC
              clear hf hbd
              generalize hk : ks.getD j 0 = k at *
              have HK : Hid (ks.getD j 0 = k) := hk
              clear hk
              go_wp2_with (go_at_call 22; (try rw [HB']); refine (HFC.out _).mono ?_; rintro e u1 ⟨rfl, rfl⟩)
              go_round
              case rel => exact ⟨j + 1, by omega, by omega, by go_num, fun q h1 h2 => by
                by_cases e : q = j
                · rw [e, HK.out]; exact HF1.out
                · exact HA.out q h1 (by omega)⟩
              case measure => simp [intOf]; omega
          · have hjj : ¬ ((j : Int) < (len : Int)) := by omega
            have hjl2 : j = len := by omega
            have HE : Hid (R = Pl.kS ((Pl.ltr s).drop (p + 1)) (ks.drop len) m) := by
              show R = _
              rw [HI2.out, Pl.kS_all N63.out HM.out HSE.out, @List.drop_eq_nil_of_le _ ks _ (by rw [HL.out]; omega)]
              rw [List.all_eq_true]
              intro x hx
              obtain ⟨q, hq, e⟩ := List.getElem_of_mem hx
              have hl2 : i + q < ks.length := by rw [List.length_drop] at hq; omega
              have := HA.out (i + q) (by omega) (by rw [HL.out] at hl2; omega)
              rw [List.getElem_drop] at e
              rw [List.getD_eq_getElem?_getD, List.getElem?_eq_getElem hl2] at this
              rw [← e]; exact this
            subst hjl2
            clear HA HI2
            go_wp2_with fail
            go_round
            case rel => exact ⟨p + 1, j, m, by omega, by omega, rfl, rfl, by go_num, HE⟩
            case measure => simp [intOf]; omega
      · go_wp2_with fail
        go_loop [5] (fun x => ∃ j : Nat, i ≤ j ∧ j ≤ len ∧ x = .int .i64 j ∧ Hid (∀ q, i ≤ q → q < j → Pl.fitS 69 (ks.getD q 0) = true)) (fun x => len - (intOf x).toNat)
        case atStart => exact ⟨i, Nat.le_refl _, hi, rfl, fun q h1 h2 => by omega⟩
        case round =>
          obtain ⟨j, hj1, hj2, rfl, HA⟩ := hrel
          by_cases hjl : j < len
          · have hjj : (j : Int) < (len : Int) := by omega
            obtain ⟨b, off, rfl, hb, hcell⟩ := row_cell HR.out hjl
            have hbd := row_bound HR.out hjl
            have HFC : Hid (∀ u : World, Calls Tryz.prog 22 #[.int .u8 69, .int .i64 (ks.getD j 0)] u fun e w' => e = .returned (.bool (Pl.fitS 69 (ks.getD j 0))) ∧ w' = u) := fun u => HF.out 69 (ks.getD j 0) u hbd
            cases hf : Pl.fitS 69 (ks.getD j 0)
            · have HE : Hid (R = false) := by
                show R = false
                rw [HI2.out]
                refine Pl.kS_bad N63.out HM.out ?_
                rw [List.all_eq_false]
                refine ⟨ks.getD j 0, ?_, by rw [hf]; decide⟩
                have e2 : (ks.drop i)[j - i]? = ks[j]? := by rw [List.getElem?_drop]; congr 1; omega
                rw [List.getD_eq_getElem?_getD, ← e2]
                have hl2 : j - i < (ks.drop i).length := by rw [List.length_drop, HL.out]; omega
                rw [List.getElem?_eq_getElem hl2]
                exact List.getElem_mem _
              rw [hf] at HFC
              clear hf hbd
              generalize ks.getD j 0 = k at *
              go_wp2_with (go_at_call 22; (try rw [HB']); refine (HFC.out _).mono ?_; rintro e u1 ⟨rfl, rfl⟩)
              go_ret
              exact ⟨ret_bool HE.out.symm, rfl⟩
            · have HF1 : Hid (Pl.fitS 69 (ks.getD j 0) = true) := hf
              rw [hf] at HFC
              clear hf hbd
              generalize hk : ks.getD j 0 = k at *
              have HK : Hid (ks.getD j 0 = k) := hk
              clear hk
              go_wp2_with (go_at_call 22; (try rw [HB']); refine (HFC.out _).mono ?_; rintro e u1 ⟨rfl, rfl⟩)
              go_round
              case rel => exact ⟨j + 1, by omega, by omega, by go_num, fun q h1 h2 => by
                by_cases e : q = j
                · rw [e, HK.out]; exact HF1.out
                · exact HA.out q h1 (by omega)⟩
              case measure => simp [intOf]; omega
          · have hjj : ¬ ((j : Int) < (len : Int)) := by omega
            have hjl2 : j = len := by omega
            have HE : Hid (R = Pl.kS ((Pl.ltr s).drop (p + 1)) (ks.drop len) m) := by
              show R = _
              rw [HI2.out, Pl.kS_all N63.out HM.out HSE.out, @List.drop_eq_nil_of_le _ ks _ (by rw [HL.out]; omega)]
              rw [List.all_eq_true]
              intro x hx
              obtain ⟨q, hq, e⟩ := List.getElem_of_mem hx
              have hl2 : i + q < ks.length := by rw [List.length_drop] at hq; omega
              have := HA.out (i + q) (by omega) (by rw [HL.out] at hl2; omega)
              rw [List.getElem_drop] at e
              rw [List.getD_eq_getElem?_getD, List.getElem?_eq_getElem hl2] at this
              rw [← e]; exact this
            subst hjl2
            clear HA HI2
            go_wp2_with fail
            go_round
            case rel => exact ⟨p + 1, j, m, by omega, by omega, rfl, rfl, by go_num, HE⟩
            case measure => simp [intOf]; omega
end Go.Proofs.YteadglnenaiaaaaGreatDoor.W
