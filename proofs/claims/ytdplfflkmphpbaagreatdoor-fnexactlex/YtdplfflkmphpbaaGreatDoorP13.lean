import Derived.Test.YtdplfflkmphpbaaGreatDoorP08
import Derived.Test.YtdplfflkmphpbaaGreatDoorP00
import Derived.Great.Walk
set_option linter.unusedVariables false
set_option linter.unusedSimpArgs false
namespace Go.Proofs.YtdplfflkmphpbaaGreatDoor.W
open Go.RowKit
def SkS (s : ByteArray) (i : Nat) (e : Ending) : Prop := ∃ j b, Pl.Sk s i j b ∧ ((b = true ∧ e = .returned (.tuple #[.int .i64 j, .int .i64 (-1)])) ∨ (b = false ∧ ∃ q : Int, e = .returned (.tuple #[.int .i64 q, .int .i64 j])))
set_option maxHeartbeats 8000000 in
set_option maxRecDepth 100000 in
theorem l5Skip_is (s : ByteArray) (hs : s.size ≤ 1048576) (i : Nat) (hi : i ≤ s.size) (w : World) : Calls Tryz.prog 23 #[.string s, .int .i64 i] w fun e w' => SkS s i e ∧ w' = w := by
  go_enter Tryz.func23, Tryz.ntmps23
  go_wp2_with fail
  go_loop [1] (fun x => ∃ k : Nat, k ≤ s.size ∧ x = .int .i64 k ∧ ∀ j b, Pl.Sk s k j b → Pl.Sk s i j b) (fun x => s.size - (intOf x).toNat)
  case atStart => exact ⟨i, hi, rfl, fun j b h => h⟩
  case round =>
    obtain ⟨k, hk, rfl, hall⟩ := hrel
    have HA : Hid (∀ j b, Pl.Sk s k j b → Pl.Sk s i j b) := hall
    clear hall
    by_cases hlt : k < s.size
    · have hlt' : (k : Int) < s.size := by omega
      have hg := Pl.byt_get s k hlt
      obtain ⟨c, hc⟩ : ∃ c, c = Pl.byt s k := ⟨_, rfl⟩
      rw [← hc] at hg
      have HC : Hid (c = Pl.byt s k) := hc
      clear hc
      cases hb : Pl.blk c
      rotate_left
      · go_wp2_with (go_at_call 39; refine (l5Blank_any _ _).mono ?_; rintro e u1 ⟨rfl, hu1⟩; rw [hu1]; clear hu1; rw [hb])
        go_round
        case rel => exact ⟨k + 1, by omega, by go_num, fun j b h => HA.out j b (.blank hlt (by rw [← HC.out]; exact hb) h)⟩
        case measure => simp [intOf]; omega
      · by_cases h47 : c = 47 ∧ k + 1 < s.size
        · obtain ⟨h47, h1⟩ := h47
          have e47 : (c == 47) = true := by simp [h47]
          have H47 : Hid (Pl.byt s k = 47) := HC.out.symm.trans h47
          have h1' : (k : Int) + 1 < s.size := by omega
          have hg1 := Pl.byt_get s (k + 1) h1
          obtain ⟨d, hd⟩ : ∃ d, d = Pl.byt s (k + 1) := ⟨_, rfl⟩
          rw [← hd] at hg1
          have HD : Hid (d = Pl.byt s (k + 1)) := hd
          clear hd h47
          by_cases hd47 : d = 47
          · have ed : (d == 47) = true := by simp [hd47]
            have HL : Hid (Pl.lc s k) := ⟨h1, H47.out, HD.out.symm.trans hd47⟩
            clear hd47
            go_wp2_with (go_at_call 39; refine (l5Blank_any _ _).mono ?_; rintro e u1 ⟨rfl, hu1⟩; rw [hu1]; clear hu1; rw [hb])
            go_loop [1] (fun x => ∃ m : Nat, k ≤ m ∧ m ≤ s.size ∧ x = .int .i64 m ∧ ∀ j, k ≤ j → j < m → Pl.byt s j ≠ 10) (fun x => s.size - (intOf x).toNat)
            case atStart => exact ⟨k, Nat.le_refl _, hk, rfl, fun j h1 h2 => by omega⟩
            case round =>
              obtain ⟨m, hm1, hm2, rfl, hm3⟩ := hrel
              have HM : Hid (∀ j, k ≤ j → j < m → Pl.byt s j ≠ 10) := hm3
              clear hm3
              by_cases hml : m < s.size
              · have hml' : (m : Int) < s.size := by omega
                have hgm := Pl.byt_get s m hml
                obtain ⟨f, hf⟩ : ∃ f, f = Pl.byt s m := ⟨_, rfl⟩
                rw [← hf] at hgm
                have HF : Hid (f = Pl.byt s m) := hf
                clear hf
                by_cases h10 : f = 10
                · have HE : Hid (∀ j b, Pl.Sk s m j b → Pl.Sk s i j b) := fun j b h => HA.out j b (.line HL.out ⟨hm1, hm2, HM.out, .inr (by rw [← HF.out]; exact h10)⟩ h)
                  have hkm : k < m := by
                    rcases Nat.lt_or_ge k m with q | q
                    · exact q
                    · have : m = k := by omega
                      have h2 := HF.out
                      rw [this, H47.out] at h2
                      omega
                  have e1 : (f == 10) = true := by simp [h10]
                  have e2 : (f != 10) = false := by simp [h10]
                  clear h10
                  go_wp2_with fail
                  go_round
                  case rel => exact ⟨m, hm2, rfl, HE.out⟩
                  case measure => simp [intOf]; omega
                · have e1 : (f == 10) = false := by simp [h10]
                  have e2 : (f != 10) = true := by simp [h10]
                  go_wp2_with fail
                  go_round
                  case rel => exact ⟨m + 1, by omega, by omega, by go_num, fun j h1 h2 => by
                    by_cases e : j = m
                    · rw [e, ← HF.out]; exact h10
                    · exact HM.out j h1 (by omega)⟩
                  case measure => simp [intOf]; omega
              · have hme : m = s.size := by omega
                have HE : Hid (∀ j b, Pl.Sk s m j b → Pl.Sk s i j b) := fun j b h => HA.out j b (.line HL.out ⟨hm1, hm2, HM.out, .inl hme⟩ h)
                have hml' : ¬ (m : Int) < s.size := by omega
                clear hme
                go_wp2_with fail
                go_round
                case rel => exact ⟨m, hm2, rfl, HE.out⟩
                case measure => simp [intOf]; omega
          · have ed : (d == 47) = false := by simp [hd47]
            by_cases hd42 : d = 42
            · have ed2 : (d == 42) = true := by simp [hd42]
              have HL : Hid (Pl.bc s k) := ⟨h1, H47.out, HD.out.symm.trans hd42⟩
              clear hd42 hd47
              go_wp2_with (go_at_call 39; refine (l5Blank_any _ _).mono ?_; rintro e u1 ⟨rfl, hu1⟩; rw [hu1]; clear hu1; rw [hb])
              go_loop [1] (fun x => ∃ m : Nat, k + 2 ≤ m ∧ m ≤ s.size ∧ x = .int .i64 m ∧ ∀ j, k + 2 ≤ j → j < m → j + 1 < s.size → ¬ (Pl.byt s j = 42 ∧ Pl.byt s (j + 1) = 47)) (fun x => s.size - (intOf x).toNat)
              case atStart => exact ⟨k + 2, Nat.le_refl _, by omega, by go_num, fun j h1 h2 => by omega⟩
              case round =>
                obtain ⟨m, hm1, hm2, rfl, hm3⟩ := hrel
                have HM : Hid (∀ j, k + 2 ≤ j → j < m → j + 1 < s.size → ¬ (Pl.byt s j = 42 ∧ Pl.byt s (j + 1) = 47)) := hm3
                clear hm3
                by_cases hml : m + 1 < s.size
                · have hml' : (m : Int) + 1 < s.size := by omega
                  have hgm := Pl.byt_get s m (by omega)
                  have hgm1 := Pl.byt_get s (m + 1) hml
                  obtain ⟨f, hf⟩ : ∃ f, f = Pl.byt s m := ⟨_, rfl⟩
                  obtain ⟨f1, hf1⟩ : ∃ f, f = Pl.byt s (m + 1) := ⟨_, rfl⟩
                  rw [← hf] at hgm
                  rw [← hf1] at hgm1
                  have HF : Hid (f = Pl.byt s m) := hf
                  have HF1 : Hid (f1 = Pl.byt s (m + 1)) := hf1
                  clear hf hf1
                  by_cases hcl : f = 42 ∧ f1 = 47
                  · have HE : Hid (∀ j b, Pl.Sk s (m + 2) j b → Pl.Sk s i j b) := fun j b h => HA.out j b (.blok HL.out ⟨hm1, hml, ⟨by rw [← HF.out]; exact hcl.1, by rw [← HF1.out]; exact hcl.2⟩, fun x h1 h2 => HM.out x h1 h2 (by omega)⟩ h)
                    have e1 : (f != 42) = false := by simp [hcl.1]
                    have e2 : (f1 != 47) = false := by simp [hcl.2]
                    clear hcl
                    go_wp2_with fail
                    go_round
                    case rel => exact ⟨m + 2, by omega, by go_num, HE.out⟩
                    case measure => simp [intOf]; omega
                  · have HN : Hid (∀ j, k + 2 ≤ j → j < m + 1 → j + 1 < s.size → ¬ (Pl.byt s j = 42 ∧ Pl.byt s (j + 1) = 47)) := fun j h1 h2 h3 => by
                      by_cases e : j = m
                      · rw [e, ← HF.out, ← HF1.out]; exact hcl
                      · exact HM.out j h1 (by omega) h3
                    by_cases hf42 : f = 42
                    · have hf47 : f1 ≠ 47 := fun e => hcl ⟨hf42, e⟩
                      have e1 : (f != 42) = false := by simp [hf42]
                      have e2 : (f1 != 47) = true := by simp [hf47]
                      clear hcl hf42 hf47
                      go_wp2_with fail
                      go_round
                      case rel => exact ⟨m + 1, by omega, by omega, by go_num, HN.out⟩
                      case measure => simp [intOf]; omega
                    · have e1 : (f != 42) = true := by simp [hf42]
                      clear hcl hf42
                      go_wp2_with fail
                      go_round
                      case rel => exact ⟨m + 1, by omega, by omega, by go_num, HN.out⟩
                      case measure => simp [intOf]; omega
                · have hml' : ¬ (m : Int) + 1 < s.size := by omega
                  have HE : Hid (Pl.Sk s i k false) := HA.out k false (.opn HL.out (fun x h1 h2 => HM.out x h1 (by omega) h2))
                  go_wp2_with fail
                  go_ret2
                  exact ⟨⟨k, false, HE.out, .inr ⟨rfl, _, rfl⟩⟩, rfl⟩
            · have ed2 : (d == 42) = false := by simp [hd42]
              have HE : Hid (Pl.Sk s i k true) := HA.out k true (.stop (.inr ⟨by rw [← HC.out]; exact hb, fun h => hd47 (HD.out.trans h.2.2), fun h => hd42 (HD.out.trans h.2.2)⟩))
              clear hd42 hd47
              go_wp2_with (go_at_call 39; refine (l5Blank_any _ _).mono ?_; rintro e u1 ⟨rfl, hu1⟩; rw [hu1]; clear hu1; rw [hb])
              go_ret2
              exact ⟨⟨k, true, HE.out, .inl ⟨rfl, rfl⟩⟩, rfl⟩
        · have HE : Hid (Pl.Sk s i k true) := HA.out k true (.stop (.inr ⟨by rw [← HC.out]; exact hb, fun h => h47 ⟨HC.out.trans h.2.1, h.1⟩, fun h => h47 ⟨HC.out.trans h.2.1, h.1⟩⟩))
          by_cases hc47 : c = 47
          · have e47 : (c == 47) = true := by simp [hc47]
            have h1' : ¬ (k : Int) + 1 < s.size := fun q => h47 ⟨hc47, by omega⟩
            clear hc47 h47
            go_wp2_with (go_at_call 39; refine (l5Blank_any _ _).mono ?_; rintro e u1 ⟨rfl, hu1⟩; rw [hu1]; clear hu1; rw [hb])
            go_ret2
            exact ⟨⟨k, true, HE.out, .inl ⟨rfl, rfl⟩⟩, rfl⟩
          · have e47 : (c == 47) = false := by simp [hc47]
            clear hc47 h47
            go_wp2_with (go_at_call 39; refine (l5Blank_any _ _).mono ?_; rintro e u1 ⟨rfl, hu1⟩; rw [hu1]; clear hu1; rw [hb])
            go_ret2
            exact ⟨⟨k, true, HE.out, .inl ⟨rfl, rfl⟩⟩, rfl⟩
    · have hlt' : ¬ (k : Int) < s.size := by omega
      have HE : Hid (Pl.Sk s i k true) := HA.out k true (.stop (.inl (by omega)))
      go_wp2_with fail
      go_ret2
      exact ⟨⟨k, true, HE.out, .inl ⟨rfl, rfl⟩⟩, rfl⟩
set_option maxHeartbeats 4000000 in
theorem l5Place_is (s : ByteArray) (hs : s.size ≤ 1048576) (n : Nat) (hn : n ≤ s.size) (w : World) : Calls Tryz.prog 24 #[.string s, .int .i64 n] w fun e w' => e = .returned (.tuple #[.int .i64 (Pl.ln s n), .int .i64 (Pl.cn s n)]) ∧ w' = w := by
  go_enter Tryz.func24, Tryz.ntmps24
  go_wp2_with fail
  go_loop [6, 7, 8] (fun a b x => ∃ k : Nat, k ≤ n ∧ x = .int .i64 k ∧ a = .int .i64 (Pl.ln s k) ∧ b = .int .i64 (Pl.cn s k)) (fun _ _ x => n - (intOf x).toNat)
  case atStart => exact ⟨0, Nat.zero_le _, rfl, rfl, rfl⟩
  case round =>
    obtain ⟨k, hk, rfl, rfl, rfl⟩ := hrel
    obtain ⟨l0, l1⟩ := Pl.ln_b s k
    obtain ⟨c0, c1⟩ := Pl.cn_b s k
    by_cases hlt : k < n
    · have hlt' : (k : Int) < n := by omega
      have hks : (k : Int) < s.size := by omega
      have hg := Pl.byt_get s k (by omega)
      have H1 : Hid (Pl.ln s (k + 1) = if Pl.byt s k = 10 then Pl.ln s k + 1 else Pl.ln s k) := rfl
      have H2 : Hid (Pl.cn s (k + 1) = if Pl.byt s k = 10 then 1 else Pl.cn s k + 1) := rfl
      obtain ⟨c, hc⟩ : ∃ c, c = Pl.byt s k := ⟨_, rfl⟩
      obtain ⟨a, ha⟩ : ∃ a, a = Pl.ln s k := ⟨_, rfl⟩
      obtain ⟨b, hb⟩ : ∃ b, b = Pl.cn s k := ⟨_, rfl⟩
      rw [← hc] at hg H1 H2
      rw [← ha] at H1 l0 l1 ⊢
      rw [← hb] at H2 c0 c1 ⊢
      clear hc ha hb
      by_cases h10 : c = 10
      · have e1 : (c == 10) = true := by simp [h10]
        have K1 : Hid (Pl.ln s (k + 1) = a + 1) := H1.out.trans (if_pos h10)
        have K2 : Hid (Pl.cn s (k + 1) = 1) := H2.out.trans (if_pos h10)
        clear h10 H1 H2
        go_wp2_with fail
        go_round
        case rel => exact ⟨k + 1, by omega, by go_num, by rw [K1.out], by rw [K2.out]⟩
        case measure => simp [intOf]; omega
      · have e1 : (c == 10) = false := by simp [h10]
        have K1 : Hid (Pl.ln s (k + 1) = a) := H1.out.trans (if_neg h10)
        have K2 : Hid (Pl.cn s (k + 1) = b + 1) := H2.out.trans (if_neg h10)
        clear h10 H1 H2
        go_wp2_with fail
        go_round
        case rel => exact ⟨k + 1, by omega, by go_num, by rw [K1.out], by rw [K2.out]⟩
        case measure => simp [intOf]; omega
    · have hke : k = n := by omega
      subst hke
      go_wp2_with fail
      go_ret2
      exact ⟨rfl, rfl⟩
end Go.Proofs.YtdplfflkmphpbaaGreatDoor.W
namespace Go.Proofs.YtdplfflkmphpbaaGreatDoor.Pl
def kyTab : Array Value := (kyB.map fun r => Value.string ⟨r.toArray⟩).toArray
def sgTab : Array Value := (sgB.map fun r => Value.string ⟨r.toArray⟩).toArray
theorem tab_at (rs : List (List UInt8)) (k : Nat) (h : k < rs.length) : ((rs.map fun r => Value.string ⟨r.toArray⟩).toArray)[k]? = some (.string ⟨(rs.getD k []).toArray⟩) := by
  rw [List.getElem?_toArray, List.getElem?_map, List.getD_eq_getElem?_getD, List.getElem?_eq_getElem h]
  rfl
theorem any_yes {rs : List (List UInt8)} {s : ByteArray} {k : Nat} (hk : k < rs.length) (h : rs.getD k [] = s.toList) : (rs.any fun r => s.toList == r) = true := by
  rw [List.any_eq_true]
  refine ⟨rs.getD k [], ?_, by rw [h]; exact beq_self_eq_true _⟩
  rw [List.getD_eq_getElem?_getD, List.getElem?_eq_getElem hk]
  exact List.getElem_mem _
theorem any_no {rs : List (List UInt8)} {s : ByteArray} (h : ∀ k, k < rs.length → rs.getD k [] ≠ s.toList) : (rs.any fun r => s.toList == r) = false := by
  rw [List.any_eq_false]
  intro x hx
  obtain ⟨k, hk, rfl⟩ := List.mem_iff_getElem.1 hx
  have := h k hk
  rw [List.getD_eq_getElem?_getD, List.getElem?_eq_getElem hk] at this
  intro q
  exact this (eq_of_beq q).symm
theorem mk_toList (r : List UInt8) : (⟨r.toArray⟩ : ByteArray).toList = r := by rw [ByteArray.toList_eq]
end Go.Proofs.YtdplfflkmphpbaaGreatDoor.Pl
namespace Go.Proofs.YtdplfflkmphpbaaGreatDoor.W
open Go.RowKit
theorem l5Keys_is (w : World) : Calls Tryz.prog 44 #[] w fun e w' => e = .returned (.slice (some ⟨w.heap.size, 0, none⟩) 23 23) ∧ w' = w.alloc (.cells Pl.kyTab 9) := by
  go_enter Tryz.func44, Tryz.ntmps44
  go_wp2_with (refine Great.wpList_buildSliceTo rfl 59 9 23 _ rfl w.heap.size rfl _ rfl Tryz.underlying59 Pl.kyTab (by kernel_rfl) ?_)
  go_ret
  exact ⟨rfl, rfl⟩
theorem l5Signs_is (w : World) : Calls Tryz.prog 47 #[] w fun e w' => e = .returned (.slice (some ⟨w.heap.size, 0, none⟩) 45 45) ∧ w' = w.alloc (.cells Pl.sgTab 9) := by
  go_enter Tryz.func47, Tryz.ntmps47
  go_wp2_with (refine Great.wpList_buildSliceTo rfl 59 9 45 _ rfl w.heap.size rfl _ rfl Tryz.underlying59 Pl.sgTab (by kernel_rfl) ?_)
  go_ret
  exact ⟨rfl, rfl⟩
set_option maxHeartbeats 2000000 in
theorem l5In_tab (rs : List (List UInt8)) (g n : Nat) (hn : rs.length = n) (hn2 : n ≤ 100) (t : ByteArray) (w : World) (h : ∀ k, k < n → w.cell? ⟨g, k, none⟩ = some (.string ⟨(rs.getD k []).toArray⟩)) :
    Calls Tryz.prog 43 #[.slice (some ⟨g, 0, none⟩) n n, .string t] w fun e w' => e = .returned (.bool (rs.any fun r => t.toList == r)) ∧ w' = w := by
  have H : Hid (∀ k, k < n → w.cell? ⟨g, k, none⟩ = some (.string ⟨(rs.getD k []).toArray⟩)) := h
  have HN : Hid (rs.length = n) := hn
  clear h hn
  go_enter Tryz.func43, Tryz.ntmps43
  go_wp2_with fail
  go_loop [5] (fun i => ∃ k : Nat, k ≤ n ∧ i = .int .i64 k ∧ (∀ j, j < k → rs.getD j [] ≠ t.toList)) (fun i => n - (intOf i).toNat)
  case atStart => exact ⟨0, Nat.zero_le _, rfl, fun j hj => absurd hj (Nat.not_lt_zero _)⟩
  case round =>
    obtain ⟨k, hk, rfl, hall⟩ := hrel
    have HA : Hid (∀ j, j < k → rs.getD j [] ≠ t.toList) := hall
    clear hall
    by_cases hlt : k < n
    · have hc := H.out k hlt
      obtain ⟨x, hx⟩ : ∃ x : ByteArray, x = ⟨(rs.getD k []).toArray⟩ := ⟨_, rfl⟩
      rw [← hx] at hc
      have HX : Hid (x.toList = rs.getD k []) := by rw [hx]; exact Pl.mk_toList _
      clear hx
      have hi : (k : Int) < (n : Int) := by omega
      cases he : (x.toList == t.toList)
      · go_wp2_with fail
        go_round
        case rel => exact ⟨k + 1, by omega, by go_num, fun j hj => by
          by_cases e : j = k
          · rw [e, ← HX.out]; exact ne_of_beq_false he
          · exact HA.out j (by omega)⟩
        case measure => simp [intOf]; omega
      · go_wp2_with fail
        go_ret
        exact ⟨ret_bool (Pl.any_yes (k := k) (by rw [HN.out]; exact hlt) (by rw [← HX.out]; exact eq_of_beq he)).symm, rfl⟩
    · have hke : k = n := by omega
      have hi : ¬ ((k : Int) < (n : Int)) := by omega
      have HF : Hid ((rs.any fun r => t.toList == r) = false) := Pl.any_no (fun j hj => HA.out j (by rw [HN.out] at hj; omega))
      clear hke
      go_wp2
      go_ret
      exact ⟨ret_bool HF.out.symm, rfl⟩
theorem l5In_keys (t : ByteArray) (u : World) : Calls Tryz.prog 43 #[.slice (some ⟨u.heap.size, 0, none⟩) 23 23, .string t] (u.alloc (.cells Pl.kyTab 9)) fun e w' => e = .returned (.bool (Pl.isK t)) ∧ w' = u.alloc (.cells Pl.kyTab 9) :=
  l5In_tab Pl.kyB u.heap.size 23 rfl (by decide) t _ fun k hk => by
    rw [cell_of_row _ _ k Pl.kyTab 9 (0, 0) (heap_alloc_new u _)]
    exact Pl.tab_at Pl.kyB k hk
end Go.Proofs.YtdplfflkmphpbaaGreatDoor.W
