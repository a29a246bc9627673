import Derived.Test.YtdplfflkmphpbaaGreatDoorV11
import Derived.Test.YtdplfflkmphpbaaGreatDoorV21
import Derived.Test.YtdplfflkmphpbaaGreatDoorV19
import Derived.Lib.ItoaNum
import Derived.Test.YtdplfflkmphpbaaGreatDoorV09
set_option linter.unusedVariables false
set_option linter.unusedSimpArgs false
namespace Go.Proofs.YtdplfflkmphpbaaGreatDoor.W
open Go.RowKit
def LexIn (w : World) (e : Ending) (w' : World) : Prop := ∃ (v : Value) (m : Nat) (zs : List UInt8), e = .returned v ∧ w'.ownsRow (w.heap.size + 1) 5 1 v m (Pl.cl zs) ∧ m ≤ 20001 ∧ Below w.heap.size w w'
theorem ba_list (x : ByteArray) : ∃ l : List UInt8, x = ⟨l.toArray⟩ := ⟨x.data.toList, by simp⟩
set_option maxHeartbeats 1000000 in
theorem left_x (w : World) (c : Nat) (h : RdOk w c) : Calls Tryz.prog 32 #[.pointer (some ⟨c, 0, none⟩)] w fun e w' => ∃ m : Nat, e = .returned (.int .i64 (m : Int)) ∧ m ≤ 1500 ∧ RdOk w' c ∧ OnlyX c w w' := by
  have H : Hid (RdOk w c) := h
  obtain ⟨a, len, cap, p, hrow, hl, hp, hbytes⟩ := h
  have hc0 : w.cell? ⟨c, 0, none⟩ = some (.slice a len cap) := by rw [cell_of_row w c 0 _ 77 (0, 0) hrow]; rfl
  have hc1 : w.cell? ⟨c, 1, none⟩ = some (.int .i64 (p : Int)) := by rw [cell_of_row w c 1 _ 77 (0, 0) hrow]; rfl
  obtain ⟨m, hm, hm2⟩ : ∃ m : Nat, IntKind.i64.wrap ((len : Int) - (p : Int)) = (m : Int) ∧ m ≤ 1500 := ⟨len - p, by rw [IntKind.wrap_i64]; omega, by omega⟩
  clear hrow hbytes
  go_enter Tryz.func32, Tryz.ntmps32
  go_wp2_with fail
  go_quiet (fail)
  go_wp2_with fail
  go_ret
  exact ⟨m, rfl, hm2, H.out.drewN _, (OnlyX.refl _ _).drewN _⟩
set_option maxRecDepth 8000 in
set_option maxHeartbeats 8000000 in
theorem drawLex_x (w : World) (a : Option Addr) (len cap : Nat) (h : IsBytes w a len cap) : Calls Tryz.prog 15 #[.slice a len cap] w fun e w' => LexIn w e w' := by
  obtain ⟨i0, hi0, hz0, hz1, hz2⟩ := info_parts qinfou8
  have hcv : ∀ (u : World) (t : ByteArray), (convert 9 22 (.string t)).run Tryz.prog u = .ok (.slice (some ⟨u.heap.size, 0, none⟩) t.size (grownCap u t.size 0 5)) (Lib.bytesWorld u 5 t) := fun u t => Lib.run_convert_string_bytes u 9 22 5 t Tryz.underlying9 Tryz.underlying22 Tryz.underlying5
  have hmk : ∀ u : World, (Instr.makeSlice 22 (.int .i64 20001) (.int .i64 20001)).run Tryz.prog u = .ok (.slice (some ⟨u.heap.size, 0, none⟩) 20001 20001) (u.alloc (.cells (madeCells (Value.int .u8 0).cells 20001) 5)) := fun u => by
    have := run_makeSlice u 22 5 i0 _ Tryz.underlying22 hi0 hz0 .i64 .i64 (20001 : Int) (20001 : Int) (by omega) (by omega) (by rw [hz1]; simp) (by rw [hz2]; omega) (by omega)
    rw [hz1] at this
    exact this
  have HMK : Hid _ := hmk
  have H : Hid (IsBytes w a len cap) := h
  clear h hmk
  go_enter Tryz.func15, Tryz.ntmps15
  go_wp2_with fail
  refine (open_any w a len cap H.out).mono ?_
  rintro e u0 ⟨rfl, r0, b0⟩
  have H0 : Hid (RdOk u0 w.heap.size) := r0
  have B0 : Hid (Below w.heap.size w u0) := b0
  clear r0 b0 H
  go_wp2_with fail
  refine (next_x u0 _ H0.out).mono ?_
  rintro e u1 ⟨n, rfl, hn, r1, d1⟩
  have hlt : w.heap.size < u0.heap.size := H0.out.lt
  have H1 : Hid (RdOk u1 w.heap.size) := r1
  have B1 : Hid (Below w.heap.size w u1) := B0.out.trans (d1.below (Nat.le_refl _) (by omega))
  have hz : w.heap.size + 1 ≤ u1.heap.size := by have := d1.size; omega
  obtain ⟨q, hq, hq4⟩ : ∃ q : Nat, ((n : Int).tmod 24) = (q : Int) ∧ q ≤ 23 := ⟨n % 24, by rw [Int.tmod_eq_emod_of_nonneg (by omega)]; omega, by omega⟩
  obtain ⟨q8, hq8, hq9⟩ : ∃ q8 : Nat, ((n : Int).tmod 8) = (q8 : Int) ∧ q8 ≤ 7 := ⟨n % 8, by rw [Int.tmod_eq_emod_of_nonneg (by omega)]; omega, by omega⟩
  have hnn : (n : Int) ≤ 255 := by omega
  clear r1 d1 B0 H0
  go_wp2_with fail
  go_loopw [5, 6] (fun v i wr => ∃ k : Nat, k ≤ q ∧ i = .int .i64 k ∧ (∃ (m : Nat) (zs : List UInt8), m ≤ 46 * k ∧ wr.ownsRow (w.heap.size + 1) 5 1 v m (Pl.cl zs)) ∧ RdOk wr w.heap.size ∧ Below w.heap.size w wr) (fun _ i _ => q - (intOf i).toNat)
  case atStart =>
    refine ⟨0, Nat.zero_le _, rfl, ⟨0, [], Nat.le_refl _, ?_⟩, H1.out.alloc _, B1.out.alloc (by omega) _⟩
    exact World.ownsRow_lit u1 #[] 0 (base := w.heap.size + 1) (e := 5) (size := 1) hz (Nat.zero_le _) rfl
  case round =>
    obtain ⟨k, hk, rfl, ⟨m, zs, hm, hown⟩, hrd, hon⟩ := hrel
    have HO : Hid (wr.ownsRow (w.heap.size + 1) 5 1 _ m (Pl.cl zs)) := hown
    have HR : Hid (RdOk wr w.heap.size ∧ Below w.heap.size w wr) := ⟨hrd, hon⟩
    have hlr := hrd.lt
    clear hown hrd hon H1 B1
    by_cases hl : k < q
    rotate_left
    · have hi : ¬ (k : Int) < (q : Int) := by omega
      have hz9 : w.heap.size + 1 ≤ wr.heap.size := by have := HR.out.1.lt; omega
      by_cases h255 : n = 255
      · have e255 : ((n : Int) == 255) = true := by simp; omega
        clear h255
        have hm' := HMK.out
        have HZ : Hid (∀ u : World, w.heap.size + 1 ≤ u.heap.size → (u.alloc (.cells (madeCells (Value.int .u8 0).cells 20001) 5)).ownsRow (w.heap.size + 1) 5 1 (.slice (some ⟨u.heap.size, 0, none⟩) 20001 20001) 20001 (Pl.cl (List.replicate 20001 0))) := fun u hu => by
          have hz : (madeCells (Value.int .u8 0).cells 20001).toList = Pl.cl (List.replicate 20001 0) := by
            rw [show (Value.int .u8 0).cells = #[Value.int .u8 0] from rfl, toList_madeCells_one]
            unfold Pl.cl
            rw [List.map_replicate]
            rfl
          rw [← hz]
          exact World.ownsRow_lit u _ 20001 hu (by unfold maxLen; omega) (by rw [← Array.length_toList, hz, Pl.cl_len, List.length_replicate])
        generalize madeCells (Value.int .u8 0).cells 20001 = Z at *
        go_wp2_with fail
        go_ret
        exact ⟨_, _, _, rfl, HZ.out _ hz9, Nat.le_refl _, HR.out.2.alloc (by omega) _⟩
      have e255 : ((n : Int) == 255) = false := by simp; omega
      by_cases h254 : n = 254
      · have e254 : ((n : Int) == 254) = true := by simp; omega
        have e253 : ((n : Int) == 253) = false := by simp; omega
        clear h254 h255
        go_wp2_with fail
        go_loopw [5, 8] (fun v i wr => ∃ k : Nat, k ≤ 6001 ∧ i = .int .i64 k ∧ (∃ (m : Nat) (zs : List UInt8), m ≤ 1058 + k ∧ wr.ownsRow (w.heap.size + 1) 5 1 v m (Pl.cl zs)) ∧ RdOk wr w.heap.size ∧ Below w.heap.size w wr) (fun _ i _ => 6001 - (intOf i).toNat)
        case atStart => exact ⟨0, Nat.zero_le _, rfl, ⟨_, _, by omega, HO.out⟩, HR.out⟩
        case round =>
          obtain ⟨k5, hk5, rfl, ⟨m5, zs5, hm5, hown5⟩, hrd5, hon5⟩ := hrel
          have HO5 : Hid (wr.ownsRow (w.heap.size + 1) 5 1 _ m5 (Pl.cl zs5)) := hown5
          have HR5 : Hid (RdOk wr w.heap.size ∧ Below w.heap.size w wr) := ⟨hrd5, hon5⟩
          clear hown5 hrd5 hon5
          go_wp2_with fail
          refine (next_x wr _ HR5.out.1).mono ?_
          rintro e u6 ⟨x, rfl, hx, r6, d6⟩
          have hs6 : w.heap.size + 1 ≤ u6.heap.size := by have := r6.lt; omega
          obtain ⟨y, hy, hy4⟩ : ∃ y : Nat, ((x : Int).tmod 4) = (y : Int) ∧ y ≤ 3 := ⟨x % 4, by rw [Int.tmod_eq_emod_of_nonneg (by omega)]; omega, by omega⟩
          have HO6 : Hid (u6.ownsRow (w.heap.size + 1) 5 1 _ m5 (Pl.cl zs5)) := own_onlyX HO5.out d6 (by omega)
          have HR6 : Hid (RdOk u6 w.heap.size ∧ Below w.heap.size w u6) := ⟨r6, HR5.out.2.trans (d6.below (Nat.le_refl _) (by have := HR5.out.1.lt; omega))⟩
          have hxx : (x : Int) ≤ 255 := by omega
          clear r6 d6 HO5 HR5
          by_cases hl6 : k5 < 5998 + y
          · have hi6 : (k5 : Int) < 5998 + (y : Int) := by omega
            go_wp2_with (at_builtin; refine wpList_append_own _ rfl (.tmp 68) (.tmp 69) 22 rfl (w.heap.size + 1) 5 i0 (.int .u8 0) 1 1 Tryz.underlying22 hi0 hz0 hz1 hz2 rfl (by decide) _ _ _ rfl (HO6.out.alloc _) ⟨u6.heap.size, 0, none⟩ 1 _ (Pl.cl [59]) rfl rfl (byte_newsX u6 _) (by intro u hu; simp [Pl.cl] at hu; subst hu; rfl) (by unfold maxLen; omega) (by omega) (by simp; omega) ?_; intro v' u3 hown' hgr _; rw [← Pl.cl_app] at hown')
            have hb3 : Below (w.heap.size + 1) u6 u3 := ((Below.refl _ _).alloc (by omega) _).grown hgr (by simp; omega) (fun j hj => (HO6.out.lt j hj).1)
            exact ⟨⟨k5 + 1, by omega, by go_num, ⟨_, _, by omega, hown'⟩, HR6.out.1.keepX hb3 (by omega), HR6.out.2.trans (hb3.mono (by omega))⟩, by simp [intOf]; omega⟩
          · have hi6 : ¬ (k5 : Int) < 5998 + (y : Int) := by omega
            go_wp2_with fail
            go_ret
            exact ⟨_, _, _, rfl, HO6.out, by omega, HR6.out.2⟩
      have e254 : ((n : Int) == 254) = false := by simp; omega
      by_cases h253 : n = 253
      rotate_left
      · have e253 : ((n : Int) == 253) = false := by simp; omega
        go_wp2_with fail
        go_ret
        exact ⟨_, _, _, rfl, HO.out, by omega, HR.out.2⟩
      have e253 : ((n : Int) == 253) = true := by simp; omega
      clear h253 h254 h255
      go_wp2_with (at_builtin; refine wpList_append_own _ rfl (.tmp 73) (.tmp 74) 22 rfl (w.heap.size + 1) 5 i0 (.int .u8 0) 1 1 Tryz.underlying22 hi0 hz0 hz1 hz2 rfl (by decide) _ _ _ rfl (HO.out.alloc _) ⟨wr.heap.size, 0, none⟩ 1 _ (Pl.cl [34]) rfl rfl (byte_newsX wr _) (by intro u hu; simp [Pl.cl] at hu; subst hu; rfl) (by unfold maxLen; omega) (by omega) (by simp; omega) ?_; intro v' u3 hown' hgr _; rw [← Pl.cl_app] at hown')
      have hb7 : Below (w.heap.size + 1) wr u3 := ((Below.refl _ _).alloc (by omega) _).grown hgr (by simp; omega) (fun j hj => (HO.out.lt j hj).1)
      have HO7 : Hid (u3.ownsRow (w.heap.size + 1) 5 1 v' (m + 1) (Pl.cl (zs ++ [34]))) := hown'
      have HR7 : Hid (RdOk u3 w.heap.size ∧ Below w.heap.size w u3) := ⟨HR.out.1.keepX hb7 (by omega), HR.out.2.trans (hb7.mono (by omega))⟩
      clear hown' hgr hb7
      go_loopw [5, 9] (fun v i wr => ∃ k : Nat, k ≤ 201 ∧ i = .int .i64 k ∧ (∃ (m : Nat) (zs : List UInt8), m ≤ 1059 + k ∧ wr.ownsRow (w.heap.size + 1) 5 1 v m (Pl.cl zs)) ∧ RdOk wr w.heap.size ∧ Below w.heap.size w wr) (fun _ i _ => 201 - (intOf i).toNat)
      case atStart => exact ⟨0, Nat.zero_le _, rfl, ⟨_, _, by omega, HO7.out⟩, HR7.out⟩
      case round =>
        obtain ⟨k5, hk5, rfl, ⟨m5, zs5, hm5, hown5⟩, hrd5, hon5⟩ := hrel
        have HO5 : Hid (wr.ownsRow (w.heap.size + 1) 5 1 _ m5 (Pl.cl zs5)) := hown5
        have HR5 : Hid (RdOk wr w.heap.size ∧ Below w.heap.size w wr) := ⟨hrd5, hon5⟩
        clear hown5 hrd5 hon5
        go_wp2_with fail
        refine (next_x wr _ HR5.out.1).mono ?_
        rintro e u6 ⟨x, rfl, hx, r6, d6⟩
        have hs6 : w.heap.size + 1 ≤ u6.heap.size := by have := r6.lt; omega
        obtain ⟨y, hy, hy4⟩ : ∃ y : Nat, ((x : Int).tmod 3) = (y : Int) ∧ y ≤ 2 := ⟨x % 3, by rw [Int.tmod_eq_emod_of_nonneg (by omega)]; omega, by omega⟩
        have HO6 : Hid (u6.ownsRow (w.heap.size + 1) 5 1 _ m5 (Pl.cl zs5)) := own_onlyX HO5.out d6 (by omega)
        have HR6 : Hid (RdOk u6 w.heap.size ∧ Below w.heap.size w u6) := ⟨r6, HR5.out.2.trans (d6.below (Nat.le_refl _) (by have := HR5.out.1.lt; omega))⟩
        have hxx : (x : Int) ≤ 255 := by omega
        clear r6 d6 HO5 HR5
        by_cases hl6 : k5 < 199 + y
        · have hi6 : (k5 : Int) < 199 + (y : Int) := by omega
          go_wp2_with (at_builtin; refine wpList_append_own _ rfl (.tmp 84) (.tmp 85) 22 rfl (w.heap.size + 1) 5 i0 (.int .u8 0) 1 1 Tryz.underlying22 hi0 hz0 hz1 hz2 rfl (by decide) _ _ _ rfl (HO6.out.alloc _) ⟨u6.heap.size, 0, none⟩ 1 _ (Pl.cl [113]) rfl rfl (byte_newsX u6 _) (by intro u hu; simp [Pl.cl] at hu; subst hu; rfl) (by unfold maxLen; omega) (by omega) (by simp; omega) ?_; intro v' u3 hown' hgr _; rw [← Pl.cl_app] at hown')
          have hb3 : Below (w.heap.size + 1) u6 u3 := ((Below.refl _ _).alloc (by omega) _).grown hgr (by simp; omega) (fun j hj => (HO6.out.lt j hj).1)
          exact ⟨⟨k5 + 1, by omega, by go_num, ⟨_, _, by omega, hown'⟩, HR6.out.1.keepX hb3 (by omega), HR6.out.2.trans (hb3.mono (by omega))⟩, by simp [intOf]; omega⟩
        · have hi6 : ¬ (k5 : Int) < 199 + (y : Int) := by omega
          go_wp2_with (at_builtin; refine wpList_append_own _ rfl (.tmp 87) (.tmp 88) 22 rfl (w.heap.size + 1) 5 i0 (.int .u8 0) 1 1 Tryz.underlying22 hi0 hz0 hz1 hz2 rfl (by decide) _ _ _ rfl (HO6.out.alloc _) ⟨u6.heap.size, 0, none⟩ 1 _ (Pl.cl [34]) rfl rfl (byte_newsX u6 _) (by intro u hu; simp [Pl.cl] at hu; subst hu; rfl) (by unfold maxLen; omega) (by omega) (by simp; omega) ?_; intro v9 u9 hown9 hgr9 _; rw [← Pl.cl_app] at hown9)
          have hb3 : Below (w.heap.size + 1) u6 u9 := ((Below.refl _ _).alloc (by omega) _).grown hgr9 (by simp; omega) (fun j hj => (HO6.out.lt j hj).1)
          go_ret
          exact ⟨_, _, _, rfl, hown9, by omega, HR6.out.2.trans (hb3.mono (by omega))⟩
    have hi : (k : Int) < (q : Int) := by omega
    by_cases h2 : k < 2
    · have hi2 : (k : Int) < 2 := by omega
      go_upto_region 8 with (go_at_call 33; refine (l5Piece_x _ _ HR.out.1).mono ?_; rintro e u2 ⟨s, rfl, hs, r2, d2⟩)
      obtain ⟨l, rfl⟩ := ba_list s
      rw [Pl.mk_size] at hs
      have hlt2 : w.heap.size + 1 ≤ u2.heap.size := by have := r2.lt; omega
      have HO2 : Hid (u2.ownsRow (w.heap.size + 1) 5 1 _ m (Pl.cl zs)) := own_onlyX HO.out d2 (by omega)
      have HR2 : Hid (RdOk u2 w.heap.size ∧ Below w.heap.size w u2) := ⟨r2, HR.out.2.trans (d2.below (Nat.le_refl _) (by have := HR.out.1.lt; omega))⟩
      clear r2 d2 HO HR
      by_cases h8 : q8 = 0
      · have e8 : ¬ (0 : Int) < (q8 : Int) := by omega
        go_wp2_with (at_builtin; refine wpList_append_own _ rfl (.tmp 51) (.tmp 53) 22 rfl (w.heap.size + 1) 5 i0 (.int .u8 0) 1 1 Tryz.underlying22 hi0 hz0 hz1 hz2 rfl (by decide) _ _ _ rfl (ow_keep HO2.out (Joins.below_bytesWorld _ _ 5 ⟨l.toArray⟩ (Nat.le_refl _))) ⟨u2.heap.size, 0, none⟩ (l).length _ (Pl.cl l) (by rfl) (by rw [Pl.cl_len, Nat.mul_one]) (bw_cells u2 _) (by intro u hu; obtain ⟨n, _, rfl⟩ := List.mem_map.1 hu; rfl) (by skip; unfold maxLen; omega) (by skip; omega) (by rw [Lib.bytesWorld_size]; omega) ?_; intro v' u3 hown' hgr _)
        have hb3 : Below (w.heap.size + 1) u2 u3 := (Joins.below_bytesWorld _ _ 5 _ (by omega)).grown hgr (by rw [Lib.bytesWorld_size]; omega) (fun j hj => (HO2.out.lt j hj).1)
        rw [← Pl.cl_app] at hown'
        exact ⟨⟨k + 1, by omega, by go_num, ⟨_, _, by first | omega | (simp only [List.length_cons, List.length_nil]; omega), hown'⟩, HR2.out.1.keepX hb3 (by omega), HR2.out.2.trans (hb3.mono (by omega))⟩, by simp [intOf]; omega⟩
      have e8 : (0 : Int) < (q8 : Int) := by omega
      cases e0 : (l == [47, 42])
      rotate_left
      · go_upto_region 10 with fail
        obtain ⟨l9, hl9⟩ : ∃ l9 : List UInt8, l9 = [32] := ⟨_, rfl⟩
        have hs9 : l9.length ≤ 46 := by rw [hl9]; decide
        rw [show (⟨#[32]⟩ : ByteArray) = ⟨l9.toArray⟩ by rw [hl9]]
        clear hl9
        go_wp2_with (at_builtin; refine wpList_append_own _ rfl (.tmp 51) (.tmp 53) 22 rfl (w.heap.size + 1) 5 i0 (.int .u8 0) 1 1 Tryz.underlying22 hi0 hz0 hz1 hz2 rfl (by decide) _ _ _ rfl (ow_keep HO2.out (Joins.below_bytesWorld _ _ 5 ⟨l9.toArray⟩ (Nat.le_refl _))) ⟨u2.heap.size, 0, none⟩ (l9).length _ (Pl.cl l9) (by rfl) (by rw [Pl.cl_len, Nat.mul_one]) (bw_cells u2 _) (by intro u hu; obtain ⟨n, _, rfl⟩ := List.mem_map.1 hu; rfl) (by skip; unfold maxLen; omega) (by skip; omega) (by rw [Lib.bytesWorld_size]; omega) ?_; intro v' u3 hown' hgr _)
        have hb3 : Below (w.heap.size + 1) u2 u3 := (Joins.below_bytesWorld _ _ 5 _ (by omega)).grown hgr (by rw [Lib.bytesWorld_size]; omega) (fun j hj => (HO2.out.lt j hj).1)
        rw [← Pl.cl_app] at hown'
        exact ⟨⟨k + 1, by omega, by go_num, ⟨_, _, by first | omega | (simp only [List.length_cons, List.length_nil]; omega), hown'⟩, HR2.out.1.keepX hb3 (by omega), HR2.out.2.trans (hb3.mono (by omega))⟩, by simp [intOf]; omega⟩
      cases e1 : (l == [36])
      rotate_left
      · go_upto_region 10 with fail
        obtain ⟨l9, hl9⟩ : ∃ l9 : List UInt8, l9 = [32] := ⟨_, rfl⟩
        have hs9 : l9.length ≤ 46 := by rw [hl9]; decide
        rw [show (⟨#[32]⟩ : ByteArray) = ⟨l9.toArray⟩ by rw [hl9]]
        clear hl9
        go_wp2_with (at_builtin; refine wpList_append_own _ rfl (.tmp 51) (.tmp 53) 22 rfl (w.heap.size + 1) 5 i0 (.int .u8 0) 1 1 Tryz.underlying22 hi0 hz0 hz1 hz2 rfl (by decide) _ _ _ rfl (ow_keep HO2.out (Joins.below_bytesWorld _ _ 5 ⟨l9.toArray⟩ (Nat.le_refl _))) ⟨u2.heap.size, 0, none⟩ (l9).length _ (Pl.cl l9) (by rfl) (by rw [Pl.cl_len, Nat.mul_one]) (bw_cells u2 _) (by intro u hu; obtain ⟨n, _, rfl⟩ := List.mem_map.1 hu; rfl) (by skip; unfold maxLen; omega) (by skip; omega) (by rw [Lib.bytesWorld_size]; omega) ?_; intro v' u3 hown' hgr _)
        have hb3 : Below (w.heap.size + 1) u2 u3 := (Joins.below_bytesWorld _ _ 5 _ (by omega)).grown hgr (by rw [Lib.bytesWorld_size]; omega) (fun j hj => (HO2.out.lt j hj).1)
        rw [← Pl.cl_app] at hown'
        exact ⟨⟨k + 1, by omega, by go_num, ⟨_, _, by first | omega | (simp only [List.length_cons, List.length_nil]; omega), hown'⟩, HR2.out.1.keepX hb3 (by omega), HR2.out.2.trans (hb3.mono (by omega))⟩, by simp [intOf]; omega⟩
      cases e2 : (l == [64])
      rotate_left
      · go_upto_region 10 with fail
        obtain ⟨l9, hl9⟩ : ∃ l9 : List UInt8, l9 = [32] := ⟨_, rfl⟩
        have hs9 : l9.length ≤ 46 := by rw [hl9]; decide
        rw [show (⟨#[32]⟩ : ByteArray) = ⟨l9.toArray⟩ by rw [hl9]]
        clear hl9
        go_wp2_with (at_builtin; refine wpList_append_own _ rfl (.tmp 51) (.tmp 53) 22 rfl (w.heap.size + 1) 5 i0 (.int .u8 0) 1 1 Tryz.underlying22 hi0 hz0 hz1 hz2 rfl (by decide) _ _ _ rfl (ow_keep HO2.out (Joins.below_bytesWorld _ _ 5 ⟨l9.toArray⟩ (Nat.le_refl _))) ⟨u2.heap.size, 0, none⟩ (l9).length _ (Pl.cl l9) (by rfl) (by rw [Pl.cl_len, Nat.mul_one]) (bw_cells u2 _) (by intro u hu; obtain ⟨n, _, rfl⟩ := List.mem_map.1 hu; rfl) (by skip; unfold maxLen; omega) (by skip; omega) (by rw [Lib.bytesWorld_size]; omega) ?_; intro v' u3 hown' hgr _)
        have hb3 : Below (w.heap.size + 1) u2 u3 := (Joins.below_bytesWorld _ _ 5 _ (by omega)).grown hgr (by rw [Lib.bytesWorld_size]; omega) (fun j hj => (HO2.out.lt j hj).1)
        rw [← Pl.cl_app] at hown'
        exact ⟨⟨k + 1, by omega, by go_num, ⟨_, _, by first | omega | (simp only [List.length_cons, List.length_nil]; omega), hown'⟩, HR2.out.1.keepX hb3 (by omega), HR2.out.2.trans (hb3.mono (by omega))⟩, by simp [intOf]; omega⟩
      cases e3 : (l == [35])
      rotate_left
      · go_upto_region 10 with fail
        obtain ⟨l9, hl9⟩ : ∃ l9 : List UInt8, l9 = [32] := ⟨_, rfl⟩
        have hs9 : l9.length ≤ 46 := by rw [hl9]; decide
        rw [show (⟨#[32]⟩ : ByteArray) = ⟨l9.toArray⟩ by rw [hl9]]
        clear hl9
        go_wp2_with (at_builtin; refine wpList_append_own _ rfl (.tmp 51) (.tmp 53) 22 rfl (w.heap.size + 1) 5 i0 (.int .u8 0) 1 1 Tryz.underlying22 hi0 hz0 hz1 hz2 rfl (by decide) _ _ _ rfl (ow_keep HO2.out (Joins.below_bytesWorld _ _ 5 ⟨l9.toArray⟩ (Nat.le_refl _))) ⟨u2.heap.size, 0, none⟩ (l9).length _ (Pl.cl l9) (by rfl) (by rw [Pl.cl_len, Nat.mul_one]) (bw_cells u2 _) (by intro u hu; obtain ⟨n, _, rfl⟩ := List.mem_map.1 hu; rfl) (by skip; unfold maxLen; omega) (by skip; omega) (by rw [Lib.bytesWorld_size]; omega) ?_; intro v' u3 hown' hgr _)
        have hb3 : Below (w.heap.size + 1) u2 u3 := (Joins.below_bytesWorld _ _ 5 _ (by omega)).grown hgr (by rw [Lib.bytesWorld_size]; omega) (fun j hj => (HO2.out.lt j hj).1)
        rw [← Pl.cl_app] at hown'
        exact ⟨⟨k + 1, by omega, by go_num, ⟨_, _, by first | omega | (simp only [List.length_cons, List.length_nil]; omega), hown'⟩, HR2.out.1.keepX hb3 (by omega), HR2.out.2.trans (hb3.mono (by omega))⟩, by simp [intOf]; omega⟩
      go_wp2_with (at_builtin; refine wpList_append_own _ rfl (.tmp 51) (.tmp 53) 22 rfl (w.heap.size + 1) 5 i0 (.int .u8 0) 1 1 Tryz.underlying22 hi0 hz0 hz1 hz2 rfl (by decide) _ _ _ rfl (ow_keep HO2.out (Joins.below_bytesWorld _ _ 5 ⟨l.toArray⟩ (Nat.le_refl _))) ⟨u2.heap.size, 0, none⟩ (l).length _ (Pl.cl l) (by rfl) (by rw [Pl.cl_len, Nat.mul_one]) (bw_cells u2 _) (by intro u hu; obtain ⟨n, _, rfl⟩ := List.mem_map.1 hu; rfl) (by skip; unfold maxLen; omega) (by skip; omega) (by rw [Lib.bytesWorld_size]; omega) ?_; intro v' u3 hown' hgr _)
      have hb3 : Below (w.heap.size + 1) u2 u3 := (Joins.below_bytesWorld _ _ 5 _ (by omega)).grown hgr (by rw [Lib.bytesWorld_size]; omega) (fun j hj => (HO2.out.lt j hj).1)
      rw [← Pl.cl_app] at hown'
      exact ⟨⟨k + 1, by omega, by go_num, ⟨_, _, by first | omega | (simp only [List.length_cons, List.length_nil]; omega), hown'⟩, HR2.out.1.keepX hb3 (by omega), HR2.out.2.trans (hb3.mono (by omega))⟩, by simp [intOf]; omega⟩
    have hi2 : ¬ (k : Int) < 2 := by omega
    go_wp2_with fail
    refine (left_x _ _ HR.out.1).mono ?_
    rintro e u7 ⟨j7, rfl, hj7, r7, d7⟩
    have HOl : Hid (u7.ownsRow (w.heap.size + 1) 5 1 _ m (Pl.cl zs)) := own_onlyX HO.out d7 (by omega)
    have HRl : Hid (RdOk u7 w.heap.size ∧ Below w.heap.size w u7) := ⟨r7, HR.out.2.trans (d7.below (Nat.le_refl _) (by omega))⟩
    clear r7 d7 HO HR
    by_cases h0 : j7 = 0
    · have hi0' : ¬ (0 : Int) < (j7 : Int) := by omega
      have hz9 : w.heap.size + 1 ≤ u7.heap.size := by have := HRl.out.1.lt; omega
      by_cases h255 : n = 255
      · have e255 : ((n : Int) == 255) = true := by simp; omega
        clear h255
        have hm' := HMK.out
        have HZ : Hid (∀ u : World, w.heap.size + 1 ≤ u.heap.size → (u.alloc (.cells (madeCells (Value.int .u8 0).cells 20001) 5)).ownsRow (w.heap.size + 1) 5 1 (.slice (some ⟨u.heap.size, 0, none⟩) 20001 20001) 20001 (Pl.cl (List.replicate 20001 0))) := fun u hu => by
          have hz : (madeCells (Value.int .u8 0).cells 20001).toList = Pl.cl (List.replicate 20001 0) := by
            rw [show (Value.int .u8 0).cells = #[Value.int .u8 0] from rfl, toList_madeCells_one]
            unfold Pl.cl
            rw [List.map_replicate]
            rfl
          rw [← hz]
          exact World.ownsRow_lit u _ 20001 hu (by unfold maxLen; omega) (by rw [← Array.length_toList, hz, Pl.cl_len, List.length_replicate])
        generalize madeCells (Value.int .u8 0).cells 20001 = Z at *
        go_wp2_with fail
        go_ret
        exact ⟨_, _, _, rfl, HZ.out _ hz9, Nat.le_refl _, HRl.out.2.alloc (by omega) _⟩
      have e255 : ((n : Int) == 255) = false := by simp; omega
      by_cases h254 : n = 254
      · have e254 : ((n : Int) == 254) = true := by simp; omega
        have e253 : ((n : Int) == 253) = false := by simp; omega
        clear h254 h255
        go_wp2_with fail
        go_loopw [5, 8] (fun v i wr => ∃ k : Nat, k ≤ 6001 ∧ i = .int .i64 k ∧ (∃ (m : Nat) (zs : List UInt8), m ≤ 1058 + k ∧ wr.ownsRow (w.heap.size + 1) 5 1 v m (Pl.cl zs)) ∧ RdOk wr w.heap.size ∧ Below w.heap.size w wr) (fun _ i _ => 6001 - (intOf i).toNat)
        case atStart => exact ⟨0, Nat.zero_le _, rfl, ⟨_, _, by omega, HOl.out⟩, HRl.out⟩
        case round =>
          obtain ⟨k5, hk5, rfl, ⟨m5, zs5, hm5, hown5⟩, hrd5, hon5⟩ := hrel
          have HO5 : Hid (wr.ownsRow (w.heap.size + 1) 5 1 _ m5 (Pl.cl zs5)) := hown5
          have HR5 : Hid (RdOk wr w.heap.size ∧ Below w.heap.size w wr) := ⟨hrd5, hon5⟩
          clear hown5 hrd5 hon5
          go_wp2_with fail
          refine (next_x wr _ HR5.out.1).mono ?_
          rintro e u6 ⟨x, rfl, hx, r6, d6⟩
          have hs6 : w.heap.size + 1 ≤ u6.heap.size := by have := r6.lt; omega
          obtain ⟨y, hy, hy4⟩ : ∃ y : Nat, ((x : Int).tmod 4) = (y : Int) ∧ y ≤ 3 := ⟨x % 4, by rw [Int.tmod_eq_emod_of_nonneg (by omega)]; omega, by omega⟩
          have HO6 : Hid (u6.ownsRow (w.heap.size + 1) 5 1 _ m5 (Pl.cl zs5)) := own_onlyX HO5.out d6 (by omega)
          have HR6 : Hid (RdOk u6 w.heap.size ∧ Below w.heap.size w u6) := ⟨r6, HR5.out.2.trans (d6.below (Nat.le_refl _) (by have := HR5.out.1.lt; omega))⟩
          have hxx : (x : Int) ≤ 255 := by omega
          clear r6 d6 HO5 HR5
          by_cases hl6 : k5 < 5998 + y
          · have hi6 : (k5 : Int) < 5998 + (y : Int) := by omega
            go_wp2_with (at_builtin; refine wpList_append_own _ rfl (.tmp 68) (.tmp 69) 22 rfl (w.heap.size + 1) 5 i0 (.int .u8 0) 1 1 Tryz.underlying22 hi0 hz0 hz1 hz2 rfl (by decide) _ _ _ rfl (HO6.out.alloc _) ⟨u6.heap.size, 0, none⟩ 1 _ (Pl.cl [59]) rfl rfl (byte_newsX u6 _) (by intro u hu; simp [Pl.cl] at hu; subst hu; rfl) (by unfold maxLen; omega) (by omega) (by simp; omega) ?_; intro v' u3 hown' hgr _; rw [← Pl.cl_app] at hown')
            have hb3 : Below (w.heap.size + 1) u6 u3 := ((Below.refl _ _).alloc (by omega) _).grown hgr (by simp; omega) (fun j hj => (HO6.out.lt j hj).1)
            exact ⟨⟨k5 + 1, by omega, by go_num, ⟨_, _, by omega, hown'⟩, HR6.out.1.keepX hb3 (by omega), HR6.out.2.trans (hb3.mono (by omega))⟩, by simp [intOf]; omega⟩
          · have hi6 : ¬ (k5 : Int) < 5998 + (y : Int) := by omega
            go_wp2_with fail
            go_ret
            exact ⟨_, _, _, rfl, HO6.out, by omega, HR6.out.2⟩
      have e254 : ((n : Int) == 254) = false := by simp; omega
      by_cases h253 : n = 253
      rotate_left
      · have e253 : ((n : Int) == 253) = false := by simp; omega
        go_wp2_with fail
        go_ret
        exact ⟨_, _, _, rfl, HOl.out, by omega, HRl.out.2⟩
      have e253 : ((n : Int) == 253) = true := by simp; omega
      clear h253 h254 h255
      go_wp2_with (at_builtin; refine wpList_append_own _ rfl (.tmp 73) (.tmp 74) 22 rfl (w.heap.size + 1) 5 i0 (.int .u8 0) 1 1 Tryz.underlying22 hi0 hz0 hz1 hz2 rfl (by decide) _ _ _ rfl (HOl.out.alloc _) ⟨u7.heap.size, 0, none⟩ 1 _ (Pl.cl [34]) rfl rfl (byte_newsX u7 _) (by intro u hu; simp [Pl.cl] at hu; subst hu; rfl) (by unfold maxLen; omega) (by omega) (by simp; omega) ?_; intro v' u3 hown' hgr _; rw [← Pl.cl_app] at hown')
      have hb7 : Below (w.heap.size + 1) u7 u3 := ((Below.refl _ _).alloc (by omega) _).grown hgr (by simp; omega) (fun j hj => (HOl.out.lt j hj).1)
      have HO7 : Hid (u3.ownsRow (w.heap.size + 1) 5 1 v' (m + 1) (Pl.cl (zs ++ [34]))) := hown'
      have HR7 : Hid (RdOk u3 w.heap.size ∧ Below w.heap.size w u3) := ⟨HRl.out.1.keepX hb7 (by omega), HRl.out.2.trans (hb7.mono (by omega))⟩
      clear hown' hgr hb7
      go_loopw [5, 9] (fun v i wr => ∃ k : Nat, k ≤ 201 ∧ i = .int .i64 k ∧ (∃ (m : Nat) (zs : List UInt8), m ≤ 1059 + k ∧ wr.ownsRow (w.heap.size + 1) 5 1 v m (Pl.cl zs)) ∧ RdOk wr w.heap.size ∧ Below w.heap.size w wr) (fun _ i _ => 201 - (intOf i).toNat)
      case atStart => exact ⟨0, Nat.zero_le _, rfl, ⟨_, _, by omega, HO7.out⟩, HR7.out⟩
      case round =>
        obtain ⟨k5, hk5, rfl, ⟨m5, zs5, hm5, hown5⟩, hrd5, hon5⟩ := hrel
        have HO5 : Hid (wr.ownsRow (w.heap.size + 1) 5 1 _ m5 (Pl.cl zs5)) := hown5
        have HR5 : Hid (RdOk wr w.heap.size ∧ Below w.heap.size w wr) := ⟨hrd5, hon5⟩
        clear hown5 hrd5 hon5
        go_wp2_with fail
        refine (next_x wr _ HR5.out.1).mono ?_
        rintro e u6 ⟨x, rfl, hx, r6, d6⟩
        have hs6 : w.heap.size + 1 ≤ u6.heap.size := by have := r6.lt; omega
        obtain ⟨y, hy, hy4⟩ : ∃ y : Nat, ((x : Int).tmod 3) = (y : Int) ∧ y ≤ 2 := ⟨x % 3, by rw [Int.tmod_eq_emod_of_nonneg (by omega)]; omega, by omega⟩
        have HO6 : Hid (u6.ownsRow (w.heap.size + 1) 5 1 _ m5 (Pl.cl zs5)) := own_onlyX HO5.out d6 (by omega)
        have HR6 : Hid (RdOk u6 w.heap.size ∧ Below w.heap.size w u6) := ⟨r6, HR5.out.2.trans (d6.below (Nat.le_refl _) (by have := HR5.out.1.lt; omega))⟩
        have hxx : (x : Int) ≤ 255 := by omega
        clear r6 d6 HO5 HR5
        by_cases hl6 : k5 < 199 + y
        · have hi6 : (k5 : Int) < 199 + (y : Int) := by omega
          go_wp2_with (at_builtin; refine wpList_append_own _ rfl (.tmp 84) (.tmp 85) 22 rfl (w.heap.size + 1) 5 i0 (.int .u8 0) 1 1 Tryz.underlying22 hi0 hz0 hz1 hz2 rfl (by decide) _ _ _ rfl (HO6.out.alloc _) ⟨u6.heap.size, 0, none⟩ 1 _ (Pl.cl [113]) rfl rfl (byte_newsX u6 _) (by intro u hu; simp [Pl.cl] at hu; subst hu; rfl) (by unfold maxLen; omega) (by omega) (by simp; omega) ?_; intro v' u3 hown' hgr _; rw [← Pl.cl_app] at hown')
          have hb3 : Below (w.heap.size + 1) u6 u3 := ((Below.refl _ _).alloc (by omega) _).grown hgr (by simp; omega) (fun j hj => (HO6.out.lt j hj).1)
          exact ⟨⟨k5 + 1, by omega, by go_num, ⟨_, _, by omega, hown'⟩, HR6.out.1.keepX hb3 (by omega), HR6.out.2.trans (hb3.mono (by omega))⟩, by simp [intOf]; omega⟩
        · have hi6 : ¬ (k5 : Int) < 199 + (y : Int) := by omega
          go_wp2_with (at_builtin; refine wpList_append_own _ rfl (.tmp 87) (.tmp 88) 22 rfl (w.heap.size + 1) 5 i0 (.int .u8 0) 1 1 Tryz.underlying22 hi0 hz0 hz1 hz2 rfl (by decide) _ _ _ rfl (HO6.out.alloc _) ⟨u6.heap.size, 0, none⟩ 1 _ (Pl.cl [34]) rfl rfl (byte_newsX u6 _) (by intro u hu; simp [Pl.cl] at hu; subst hu; rfl) (by unfold maxLen; omega) (by omega) (by simp; omega) ?_; intro v9 u9 hown9 hgr9 _; rw [← Pl.cl_app] at hown9)
          have hb3 : Below (w.heap.size + 1) u6 u9 := ((Below.refl _ _).alloc (by omega) _).grown hgr9 (by simp; omega) (fun j hj => (HO6.out.lt j hj).1)
          go_ret
          exact ⟨_, _, _, rfl, hown9, by omega, HR6.out.2.trans (hb3.mono (by omega))⟩
    have hi0' : (0 : Int) < (j7 : Int) := by omega
    go_upto_region 8 with (go_at_call 33; refine (l5Piece_x _ _ HRl.out.1).mono ?_; rintro e u2 ⟨s, rfl, hs, r2, d2⟩)
    obtain ⟨l, rfl⟩ := ba_list s
    rw [Pl.mk_size] at hs
    have hlt2 : w.heap.size + 1 ≤ u2.heap.size := by have := r2.lt; omega
    have HO2 : Hid (u2.ownsRow (w.heap.size + 1) 5 1 _ m (Pl.cl zs)) := own_onlyX HOl.out d2 (by omega)
    have HR2 : Hid (RdOk u2 w.heap.size ∧ Below w.heap.size w u2) := ⟨r2, HRl.out.2.trans (d2.below (Nat.le_refl _) (by have := HRl.out.1.lt; omega))⟩
    clear r2 d2 HOl HRl
    by_cases h8 : q8 = 0
    · have e8 : ¬ (0 : Int) < (q8 : Int) := by omega
      go_wp2_with (at_builtin; refine wpList_append_own _ rfl (.tmp 51) (.tmp 53) 22 rfl (w.heap.size + 1) 5 i0 (.int .u8 0) 1 1 Tryz.underlying22 hi0 hz0 hz1 hz2 rfl (by decide) _ _ _ rfl (ow_keep HO2.out (Joins.below_bytesWorld _ _ 5 ⟨l.toArray⟩ (Nat.le_refl _))) ⟨u2.heap.size, 0, none⟩ (l).length _ (Pl.cl l) (by rfl) (by rw [Pl.cl_len, Nat.mul_one]) (bw_cells u2 _) (by intro u hu; obtain ⟨n, _, rfl⟩ := List.mem_map.1 hu; rfl) (by skip; unfold maxLen; omega) (by skip; omega) (by rw [Lib.bytesWorld_size]; omega) ?_; intro v' u3 hown' hgr _)
      have hb3 : Below (w.heap.size + 1) u2 u3 := (Joins.below_bytesWorld _ _ 5 _ (by omega)).grown hgr (by rw [Lib.bytesWorld_size]; omega) (fun j hj => (HO2.out.lt j hj).1)
      rw [← Pl.cl_app] at hown'
      exact ⟨⟨k + 1, by omega, by go_num, ⟨_, _, by first | omega | (simp only [List.length_cons, List.length_nil]; omega), hown'⟩, HR2.out.1.keepX hb3 (by omega), HR2.out.2.trans (hb3.mono (by omega))⟩, by simp [intOf]; omega⟩
    have e8 : (0 : Int) < (q8 : Int) := by omega
    cases e0 : (l == [47, 42])
    rotate_left
    · go_upto_region 10 with fail
      obtain ⟨l9, hl9⟩ : ∃ l9 : List UInt8, l9 = [32] := ⟨_, rfl⟩
      have hs9 : l9.length ≤ 46 := by rw [hl9]; decide
      rw [show (⟨#[32]⟩ : ByteArray) = ⟨l9.toArray⟩ by rw [hl9]]
      clear hl9
      go_wp2_with (at_builtin; refine wpList_append_own _ rfl (.tmp 51) (.tmp 53) 22 rfl (w.heap.size + 1) 5 i0 (.int .u8 0) 1 1 Tryz.underlying22 hi0 hz0 hz1 hz2 rfl (by decide) _ _ _ rfl (ow_keep HO2.out (Joins.below_bytesWorld _ _ 5 ⟨l9.toArray⟩ (Nat.le_refl _))) ⟨u2.heap.size, 0, none⟩ (l9).length _ (Pl.cl l9) (by rfl) (by rw [Pl.cl_len, Nat.mul_one]) (bw_cells u2 _) (by intro u hu; obtain ⟨n, _, rfl⟩ := List.mem_map.1 hu; rfl) (by skip; unfold maxLen; omega) (by skip; omega) (by rw [Lib.bytesWorld_size]; omega) ?_; intro v' u3 hown' hgr _)
      have hb3 : Below (w.heap.size + 1) u2 u3 := (Joins.below_bytesWorld _ _ 5 _ (by omega)).grown hgr (by rw [Lib.bytesWorld_size]; omega) (fun j hj => (HO2.out.lt j hj).1)
      rw [← Pl.cl_app] at hown'
      exact ⟨⟨k + 1, by omega, by go_num, ⟨_, _, by first | omega | (simp only [List.length_cons, List.length_nil]; omega), hown'⟩, HR2.out.1.keepX hb3 (by omega), HR2.out.2.trans (hb3.mono (by omega))⟩, by simp [intOf]; omega⟩
    cases e1 : (l == [36])
    rotate_left
    · go_upto_region 10 with fail
      obtain ⟨l9, hl9⟩ : ∃ l9 : List UInt8, l9 = [32] := ⟨_, rfl⟩
      have hs9 : l9.length ≤ 46 := by rw [hl9]; decide
      rw [show (⟨#[32]⟩ : ByteArray) = ⟨l9.toArray⟩ by rw [hl9]]
      clear hl9
      go_wp2_with (at_builtin; refine wpList_append_own _ rfl (.tmp 51) (.tmp 53) 22 rfl (w.heap.size + 1) 5 i0 (.int .u8 0) 1 1 Tryz.underlying22 hi0 hz0 hz1 hz2 rfl (by decide) _ _ _ rfl (ow_keep HO2.out (Joins.below_bytesWorld _ _ 5 ⟨l9.toArray⟩ (Nat.le_refl _))) ⟨u2.heap.size, 0, none⟩ (l9).length _ (Pl.cl l9) (by rfl) (by rw [Pl.cl_len, Nat.mul_one]) (bw_cells u2 _) (by intro u hu; obtain ⟨n, _, rfl⟩ := List.mem_map.1 hu; rfl) (by skip; unfold maxLen; omega) (by skip; omega) (by rw [Lib.bytesWorld_size]; omega) ?_; intro v' u3 hown' hgr _)
      have hb3 : Below (w.heap.size + 1) u2 u3 := (Joins.below_bytesWorld _ _ 5 _ (by omega)).grown hgr (by rw [Lib.bytesWorld_size]; omega) (fun j hj => (HO2.out.lt j hj).1)
      rw [← Pl.cl_app] at hown'
      exact ⟨⟨k + 1, by omega, by go_num, ⟨_, _, by first | omega | (simp only [List.length_cons, List.length_nil]; omega), hown'⟩, HR2.out.1.keepX hb3 (by omega), HR2.out.2.trans (hb3.mono (by omega))⟩, by simp [intOf]; omega⟩
    cases e2 : (l == [64])
    rotate_left
    · go_upto_region 10 with fail
      obtain ⟨l9, hl9⟩ : ∃ l9 : List UInt8, l9 = [32] := ⟨_, rfl⟩
      have hs9 : l9.length ≤ 46 := by rw [hl9]; decide
      rw [show (⟨#[32]⟩ : ByteArray) = ⟨l9.toArray⟩ by rw [hl9]]
      clear hl9
      go_wp2_with (at_builtin; refine wpList_append_own _ rfl (.tmp 51) (.tmp 53) 22 rfl (w.heap.size + 1) 5 i0 (.int .u8 0) 1 1 Tryz.underlying22 hi0 hz0 hz1 hz2 rfl (by decide) _ _ _ rfl (ow_keep HO2.out (Joins.below_bytesWorld _ _ 5 ⟨l9.toArray⟩ (Nat.le_refl _))) ⟨u2.heap.size, 0, none⟩ (l9).length _ (Pl.cl l9) (by rfl) (by rw [Pl.cl_len, Nat.mul_one]) (bw_cells u2 _) (by intro u hu; obtain ⟨n, _, rfl⟩ := List.mem_map.1 hu; rfl) (by skip; unfold maxLen; omega) (by skip; omega) (by rw [Lib.bytesWorld_size]; omega) ?_; intro v' u3 hown' hgr _)
      have hb3 : Below (w.heap.size + 1) u2 u3 := (Joins.below_bytesWorld _ _ 5 _ (by omega)).grown hgr (by rw [Lib.bytesWorld_size]; omega) (fun j hj => (HO2.out.lt j hj).1)
      rw [← Pl.cl_app] at hown'
      exact ⟨⟨k + 1, by omega, by go_num, ⟨_, _, by first | omega | (simp only [List.length_cons, List.length_nil]; omega), hown'⟩, HR2.out.1.keepX hb3 (by omega), HR2.out.2.trans (hb3.mono (by omega))⟩, by simp [intOf]; omega⟩
    cases e3 : (l == [35])
    rotate_left
    · go_upto_region 10 with fail
      obtain ⟨l9, hl9⟩ : ∃ l9 : List UInt8, l9 = [32] := ⟨_, rfl⟩
      have hs9 : l9.length ≤ 46 := by rw [hl9]; decide
      rw [show (⟨#[32]⟩ : ByteArray) = ⟨l9.toArray⟩ by rw [hl9]]
      clear hl9
      go_wp2_with (at_builtin; refine wpList_append_own _ rfl (.tmp 51) (.tmp 53) 22 rfl (w.heap.size + 1) 5 i0 (.int .u8 0) 1 1 Tryz.underlying22 hi0 hz0 hz1 hz2 rfl (by decide) _ _ _ rfl (ow_keep HO2.out (Joins.below_bytesWorld _ _ 5 ⟨l9.toArray⟩ (Nat.le_refl _))) ⟨u2.heap.size, 0, none⟩ (l9).length _ (Pl.cl l9) (by rfl) (by rw [Pl.cl_len, Nat.mul_one]) (bw_cells u2 _) (by intro u hu; obtain ⟨n, _, rfl⟩ := List.mem_map.1 hu; rfl) (by skip; unfold maxLen; omega) (by skip; omega) (by rw [Lib.bytesWorld_size]; omega) ?_; intro v' u3 hown' hgr _)
      have hb3 : Below (w.heap.size + 1) u2 u3 := (Joins.below_bytesWorld _ _ 5 _ (by omega)).grown hgr (by rw [Lib.bytesWorld_size]; omega) (fun j hj => (HO2.out.lt j hj).1)
      rw [← Pl.cl_app] at hown'
      exact ⟨⟨k + 1, by omega, by go_num, ⟨_, _, by first | omega | (simp only [List.length_cons, List.length_nil]; omega), hown'⟩, HR2.out.1.keepX hb3 (by omega), HR2.out.2.trans (hb3.mono (by omega))⟩, by simp [intOf]; omega⟩
    go_wp2_with (at_builtin; refine wpList_append_own _ rfl (.tmp 51) (.tmp 53) 22 rfl (w.heap.size + 1) 5 i0 (.int .u8 0) 1 1 Tryz.underlying22 hi0 hz0 hz1 hz2 rfl (by decide) _ _ _ rfl (ow_keep HO2.out (Joins.below_bytesWorld _ _ 5 ⟨l.toArray⟩ (Nat.le_refl _))) ⟨u2.heap.size, 0, none⟩ (l).length _ (Pl.cl l) (by rfl) (by rw [Pl.cl_len, Nat.mul_one]) (bw_cells u2 _) (by intro u hu; obtain ⟨n, _, rfl⟩ := List.mem_map.1 hu; rfl) (by skip; unfold maxLen; omega) (by skip; omega) (by rw [Lib.bytesWorld_size]; omega) ?_; intro v' u3 hown' hgr _)
    have hb3 : Below (w.heap.size + 1) u2 u3 := (Joins.below_bytesWorld _ _ 5 _ (by omega)).grown hgr (by rw [Lib.bytesWorld_size]; omega) (fun j hj => (HO2.out.lt j hj).1)
    rw [← Pl.cl_app] at hown'
    exact ⟨⟨k + 1, by omega, by go_num, ⟨_, _, by first | omega | (simp only [List.length_cons, List.length_nil]; omega), hown'⟩, HR2.out.1.keepX hb3 (by omega), HR2.out.2.trans (hb3.mono (by omega))⟩, by simp [intOf]; omega⟩
end Go.Proofs.YtdplfflkmphpbaaGreatDoor.W
namespace Go.Proofs.YtdplfflkmphpbaaGreatDoor.Pl
def num (n : Int) : ByteArray := ⟨(Lib.itoa n).toArray⟩
theorem dig_small {u : Nat} (h : u < 10) : Lib.decDigits u = [UInt8.ofNat (48 + u)] := by rw [Lib.decDigits, dif_pos h]
theorem dig_big {u : Nat} (h : ¬ u < 10) : Lib.decDigits u = Lib.decDigits (u / 10) ++ [UInt8.ofNat (48 + u % 10)] := by rw [Lib.decDigits, dif_neg h]
theorem num_nat {n : Int} (h : 0 ≤ n) : num n = ⟨(Lib.decDigits n.toNat).toArray⟩ := by
  unfold num Lib.itoa
  rw [if_neg (by omega)]
theorem num_neg {n : Int} (h : n < 0) : num n = ⟨(45 :: Lib.decDigits n.natAbs).toArray⟩ := by
  unfold num Lib.itoa
  rw [if_pos h]
theorem dig_head : ∀ (d u : Nat), u ≤ d → ∃ c r, Lib.decDigits u = c :: r ∧ 48 ≤ c.toNat ∧ c.toNat ≤ 57 := by
  intro d
  induction d with
  | zero =>
    intro u hu
    obtain rfl : u = 0 := by omega
    exact ⟨_, [], dig_small (by omega), by decide, by decide⟩
  | succ d ih =>
    intro u hu
    by_cases h : u < 10
    · refine ⟨_, [], dig_small h, ?_, ?_⟩ <;> simp <;> omega
    · obtain ⟨c, r, h1, h2⟩ := ih (u / 10) (by omega)
      exact ⟨c, r ++ [UInt8.ofNat (48 + u % 10)], by rw [dig_big h, h1]; rfl, h2⟩
theorem Lx.pre {s : ByteArray} {i : Nat} {acc : List Tk} {r : List Tk × Int × Int × Int} (h : Lx s i acc r) : r.1 = [] ∨ (r.2.1 = 0 ∧ ∃ l, r.1 = acc ++ l ∧ l ≠ []) := by
  induction h with
  | opn _ => exact .inl rfl
  | fin _ _ => exact .inr ⟨rfl, _, rfl, by simp⟩
  | bad _ _ _ => exact .inl rfl
  | many _ _ _ _ => exact .inl rfl
  | go _ _ _ _ _ ih =>
    rcases ih with q | ⟨q, l, e, _⟩
    · exact .inl q
    · exact .inr ⟨q, _, by rw [e, List.append_assoc], by simp⟩
theorem lx_two {s : ByteArray} {t0 t1 : Tk} {c l k : Int} (h : W.LxAll s ([t0, t1], c, l, k)) : c = 0 ∧ ∃ j n, j < s.size ∧ Sk s 0 j true ∧ tokF s j = .ok (t0.k, t0.S, t0.N, n) ∧ t0.l = ln s j ∧ t0.c = cn s j := by
  rcases h with ⟨_, h⟩ | ⟨_, h⟩
  · cases h
  cases h with
  | go hsk hj htf hl hr =>
    rcases hr.pre with q | ⟨q, l', e, _⟩
    · cases q
    · have e' := congrArg (fun x => x.head?) e
      simp at e'
      subst e'
      exact ⟨q, _, _, hj, hsk, htf, rfl, rfl⟩
end Go.Proofs.YtdplfflkmphpbaaGreatDoor.Pl
namespace Go.Proofs.YtdplfflkmphpbaaGreatDoor.Pl
def Two (x : ByteArray) (P : Tk → Prop) : Prop := ∃ t0 t1 c l k, W.LxAll x ([t0, t1], c, l, k) ∧ P t0
open Classical in
noncomputable def ttx (x : ByteArray) (P : Tk → Prop) : ByteArray := if Two x P then x else ⟨#[]⟩
theorem ttx_yes {x : ByteArray} {P : Tk → Prop} (h : Two x P) : ttx x P = x := if_pos h
theorem ttx_no {x : ByteArray} {P : Tk → Prop} (h : ¬ Two x P) : ttx x P = ⟨#[]⟩ := if_neg h
def Pi (t t0 : Tk) : Prop := t0 = ⟨t.k, t.S, t.N, 1, 1⟩
def chr (b : Nat) : ByteArray := ⟨((UInt8.ofNat 39 :: shown b 39) ++ [UInt8.ofNat 39]).toArray⟩
open Classical in
open Classical in
noncomputable def txtI (t : Tk) : ByteArray :=
  if t.k = 1 ∨ t.k = 2 ∨ t.k = 5 then t.S else if t.k = 3 then (if t.S = ⟨#[99]⟩ then chr (t.N % 256).toNat else if t.S = ⟨#[117]⟩ then num t.N ++ ⟨#[117]⟩ else num t.N) else if t.k = 4 then qt t.S 34 else ⟨#[]⟩
noncomputable def ttI (t : Tk) : ByteArray := ttx (txtI t) (Pi t)
theorem byt_mk (l : List UInt8) (b : UInt8) : byt ⟨(b :: l).toArray⟩ 0 = (b.toNat : Int) := by simp [byt, ByteArray.size]
theorem app_list (a b : List UInt8) : (⟨a.toArray⟩ : ByteArray) ++ ⟨b.toArray⟩ = ⟨(a ++ b).toArray⟩ := by
  apply ByteArray.ext
  simp [ByteArray.data_append]
end Go.Proofs.YtdplfflkmphpbaaGreatDoor.Pl
namespace Go.Proofs.YtdplfflkmphpbaaGreatDoor.Pl
theorem num_size19 (n : Int) (h0 : 0 ≤ n) (h : n ≤ 9223372036854775807) : (num n).size ≤ 19 := by
  have key : ∀ (m u : Nat), u < 10 ^ (m + 1) → (Lib.decDigits u).length ≤ m + 1 := by
    intro m
    induction m with
    | zero => intro u h; rw [dig_small (by simpa using h)]; simp
    | succ m ih =>
      intro u h
      by_cases h' : u < 10
      · rw [dig_small h']; simp
      · rw [dig_big h']
        rw [Nat.pow_succ] at h
        have := ih (u / 10) (by omega)
        simp
        omega
  rw [num_nat h0]
  have := key 18 n.toNat (by omega)
  simpa [ByteArray.size] using this
end Go.Proofs.YtdplfflkmphpbaaGreatDoor.Pl
namespace Go.Proofs.YtdplfflkmphpbaaGreatDoor.W
open Go.RowKit
theorem str_ne {a b : ByteArray} (h : a ≠ b) : (a.toList == b.toList) = false := by
  rw [ByteArray.toList_eq, ByteArray.toList_eq, Bool.eq_false_iff]
  intro q
  exact h (Go.WideShapes.bytes_inj (by simpa using q))
theorem str_back (x : ByteArray) : strOfNums (x.data.toList.map fun b => (b.toNat : Int)) = x := by
  apply ByteArray.ext
  show (List.map _ _).toArray = _
  rw [List.map_map]
  have : (fun n : Int => UInt8.ofNat n.toNat) ∘ (fun b : UInt8 => (b.toNat : Int)) = id := by
    funext b
    simp
  rw [this]
  simp
theorem back_bytes (u : World) (x : ByteArray) (cap : Nat) : ∀ u' : World, Below (Lib.bytesWorld u 5 x).heap.size (Lib.bytesWorld u 5 x) u' → (convert 22 9 (.slice (some ⟨u.heap.size, 0, none⟩) x.size cap)).run Tryz.prog u' = .ok (.string x) u' := by
  intro u' hb
  have h := run_convert_bytes_arg (P := Tryz.prog) u' 22 5 Tryz.underlying22 Tryz.underlying5 u.heap.size 0 x.size cap (x.data.toList.map fun b => (b.toNat : Int)) (by rw [List.length_map, Array.length_toList]; rfl) (fun i hi => by
    rw [Nat.zero_add, hb.cell (p := ⟨u.heap.size, i, none⟩) (by show u.heap.size < _; rw [Lib.bytesWorld_size]; omega), Lib.bytesWorld_cell u 5 x i hi]
    have hl : i < x.data.toList.length := by rw [Array.length_toList]; exact hi
    simp [List.getD, List.getElem?_eq_getElem hl]) 9 Tryz.underlying9
  rw [str_back] at h
  exact h
theorem back_at (u : World) (x : ByteArray) (g : Nat) (hg : g = u.heap.size) (cap : Nat) : ∀ u' : World, Below (Lib.bytesWorld u 5 x).heap.size (Lib.bytesWorld u 5 x) u' → (convert 22 9 (.slice (some ⟨g, 0, none⟩) x.size cap)).run Tryz.prog u' = .ok (.string x) u' := by
  subst hg
  exact back_bytes u x cap
theorem two_no {x : ByteArray} {P : Pl.Tk → Prop} {ts : List Pl.Tk} {c l k : Int} (h : LxAll x (ts, c, l, k)) (hn : ∀ t0 t1, ts = [t0, t1] → c = 0 → ¬ P t0) : Pl.ttx x P = ⟨#[]⟩ := Pl.ttx_no fun ⟨t0, t1, c', l', k', h', hp⟩ => by
  have e := h.fn h'
  cases e
  exact hn t0 t1 rfl (Pl.lx_two h').1 hp
theorem two_yes {x : ByteArray} {P : Pl.Tk → Prop} {t0 t1 : Pl.Tk} {c l k : Int} (h : LxAll x ([t0, t1], c, l, k)) (hp : P t0) : Pl.ttx x P = x := Pl.ttx_yes ⟨t0, t1, c, l, k, h, hp⟩
theorem len_two {ts : List Pl.Tk} (h : ts.length = 2) : ∃ t0 t1, ts = [t0, t1] := by
  match ts, h with
  | [a, b], _ => exact ⟨a, b, rfl⟩
theorem tk_eq {a b : Pl.Tk} (h1 : a.k = b.k) (h2 : a.S = b.S) (h3 : a.N = b.N) (h4 : a.l = b.l) (h5 : a.c = b.c) : a = b := by
  cases a; cases b; simp only at h1 h2 h3 h4 h5; subst h1 h2 h3 h4 h5; rfl
theorem ret_no {x : ByteArray} {P : Pl.Tk → Prop} {ts : List Pl.Tk} {c l k : Int} (h : LxAll x (ts, c, l, k)) (hn : ∀ t0 t1, ts = [t0, t1] → c = 0 → ¬ P t0) : Ending.returned (.string ⟨#[]⟩) = .returned (.string (Pl.ttx x P)) := by rw [two_no h hn]
theorem ret_yes {x : ByteArray} {P : Pl.Tk → Prop} {t0 t1 : Pl.Tk} {c l k : Int} (h : LxAll x ([t0, t1], c, l, k)) (hp : P t0) : Ending.returned (.string x) = .returned (.string (Pl.ttx x P)) := by rw [two_yes h hp]
end Go.Proofs.YtdplfflkmphpbaaGreatDoor.W
namespace Go.Proofs.YtdplfflkmphpbaaGreatDoor.Pl
/-! A token's text read back, wherever it stands -/
def Dr (s : ByteArray) (i : Nat) (l : List UInt8) : Prop := s.data.toList.drop i = l
theorem sz_len (s : ByteArray) : s.size = s.data.toList.length := by rw [Array.length_toList]; rfl
theorem Dr.lt {s : ByteArray} {i : Nat} {c : UInt8} {l : List UInt8} (h : Dr s i (c :: l)) : i < s.size := by
  rw [sz_len]
  rcases Nat.lt_or_ge i s.data.toList.length with q | q
  · exact q
  · unfold Dr at h
    rw [List.drop_eq_nil_of_le q] at h
    cases h
theorem Dr.len {s : ByteArray} {i : Nat} {l : List UInt8} (h : Dr s i l) : l.length = s.size - i := by
  unfold Dr at h
  rw [← h, List.length_drop, sz_len]
theorem Dr.at {s : ByteArray} {i : Nat} {l : List UInt8} (h : Dr s i l) (j : Nat) : byt s (i + j) = ((l.getD j 0).toNat : Int) := by
  unfold Dr at h
  unfold byt
  rw [← h, List.getD_eq_getElem?_getD, List.getD_eq_getElem?_getD, List.getElem?_drop]
theorem Dr.b0 {s : ByteArray} {i : Nat} {c : UInt8} {l : List UInt8} (h : Dr s i (c :: l)) : byt s i = (c.toNat : Int) := h.at 0
theorem Dr.b1 {s : ByteArray} {i : Nat} {c d : UInt8} {l : List UInt8} (h : Dr s i (c :: d :: l)) : byt s (i + 1) = (d.toNat : Int) := h.at 1
theorem Dr.app {s : ByteArray} {i : Nat} {a b : List UInt8} (h : Dr s i (a ++ b)) : Dr s (i + a.length) b := by
  unfold Dr at *
  rw [← List.drop_drop, h, List.drop_left]
theorem Dr.tl {s : ByteArray} {i : Nat} {c : UInt8} {l : List UInt8} (h : Dr s i (c :: l)) : Dr s (i + 1) l := Dr.app (a := [c]) h
theorem Dr.nil {s : ByteArray} {i : Nat} (h : Dr s i []) : s.size ≤ i := by
  have := h.len
  simp at this
  omega
theorem Dr.ext {s : ByteArray} {i : Nat} {a b : List UInt8} (h : Dr s i (a ++ b)) : s.extract i (i + a.length) = ⟨a.toArray⟩ := by
  apply ByteArray.ext
  apply Array.toList_inj.1
  rw [ext_list, Nat.add_sub_cancel_left, show s.data.toList.drop i = a ++ b from h, List.take_left]
theorem Dr.rest {s : ByteArray} {i : Nat} {l : List UInt8} (h : Dr s i l) : (s.extract i s.size).data.toList = l := by
  rw [ext_list, show s.data.toList.drop i = l from h, List.take_of_length_le (by rw [h.len]; exact Nat.le_refl _)]
theorem dr_self (s : ByteArray) : Dr s 0 s.data.toList := by unfold Dr; rw [List.drop_zero]
def Ends (r : List UInt8) : Prop := r = [] ∨ ∃ q, r = 32 :: q
theorem run_at {s : ByteArray} {i : Nat} {a r : List UInt8} (h : Dr s i (a ++ r)) (hr : Ends r) (ha : ∀ c ∈ a, wch (c.toNat : Int) = true) : run wch (s.extract i s.size) = a.length := by
  have hd := h.rest
  have hs : (s.extract i s.size).size = a.length + r.length := by rw [sz_len, hd, List.length_append]
  refine run_eq ⟨by omega, fun j hj => ?_, ?_⟩
  · unfold byt
    rw [hd, List.getD_eq_getElem?_getD, List.getElem?_append_left hj, List.getElem?_eq_getElem hj]
    exact ha _ (List.getElem_mem _)
  · rcases hr with e | ⟨q, e⟩
    · left; rw [hs, e]; rfl
    · right
      unfold byt
      rw [hd, e, List.getD_eq_getElem?_getD, List.getElem?_append_right (Nat.le_refl _), Nat.sub_self]
      show wch ((32 : UInt8).toNat : Int) = false
      decide
theorem word_back {s : ByteArray} {i : Nat} {a r : List UInt8} (h : Dr s i (a ++ r)) (hr : Ends r) (ha : ∀ c ∈ a, wch (c.toNat : Int) = true) (h0 : a ≠ []) {k N : Int} {S : ByteArray} (hw : wrdR ⟨a.toArray⟩ = .ok (k, S, N)) : tokF s i = .ok (k, S, N, i + a.length) := by
  obtain ⟨c, a', rfl⟩ : ∃ c a', a = c :: a' := by
    cases a with
    | nil => exact absurd rfl h0
    | cons c a' => exact ⟨c, a', rfl⟩
  have hb : wch (byt s i) = true := by rw [Dr.b0 h]; exact ha c (by simp)
  unfold tokF
  rw [if_pos hb, run_at h hr ha, h.ext, hw]
theorem esc1 {s : ByteArray} {i : Nat} {c : UInt8} {l : List UInt8} (h : Dr s i (c :: l)) {v : Int} (hp : plainE (c.toNat : Int) = v) (hv : 0 ≤ v) : escF s i = .ok (v, 1) := by
  have hb := h.b0
  have hlt := h.lt
  unfold escF
  have h10 : (c.toNat : Int) ≠ 10 := fun e => by rw [e] at hp; rw [← hp] at hv; exact absurd hv (by decide)
  have h120 : (c.toNat : Int) ≠ 120 := fun e => by rw [e] at hp; rw [← hp] at hv; exact absurd hv (by decide)
  have ho : ¬ 0 ≤ oc s i := by
    unfold oc
    rw [hb]
    split
    · rename_i q
      generalize (c.toNat : Int) = x at *
      have : x = 48 ∨ x = 49 ∨ x = 50 ∨ x = 51 ∨ x = 52 ∨ x = 53 ∨ x = 54 ∨ x = 55 := by omega
      rcases this with rfl | rfl | rfl | rfl | rfl | rfl | rfl | rfl <;> (rw [← hp] at hv; exact absurd hv (by decide))
    · omega
  rw [hb, if_neg (by rintro (e | e); omega; exact h10 e), if_neg h120, if_neg ho, hp, if_neg (by omega)]
theorem oc_at {s : ByteArray} {i : Nat} {d : Nat} {l : List UInt8} (hd : d < 8) (h : Dr s i (UInt8.ofNat (48 + d) :: l)) : oc s i = d := by
  have hb := h.b0
  have hlt := h.lt
  have e : ((UInt8.ofNat (48 + d)).toNat : Int) = 48 + d := by
    rw [UInt8.toNat_ofNat']
    omega
  unfold oc
  rw [hb, e, if_pos ⟨hlt, by omega, by omega⟩]
  omega
theorem esc_o {s : ByteArray} {i : Nat} {c : Nat} {l : List UInt8} (hc : c < 256) (h : Dr s i (UInt8.ofNat (48 + c / 64) :: UInt8.ofNat (48 + c / 8 % 8) :: UInt8.ofNat (48 + c % 8) :: l)) : escF s i = .ok ((c : Int), 3) := by
  have o0 := oc_at (d := c / 64) (by omega) h
  have o1 := oc_at (d := c / 8 % 8) (by omega) h.tl
  have o2 := oc_at (d := c % 8) (by omega) h.tl.tl
  have hb := h.b0
  have hlt := h.lt
  have e : ((UInt8.ofNat (48 + c / 64)).toNat : Int) = 48 + (c / 64 : Nat) := by
    rw [UInt8.toNat_ofNat']
    omega
  rw [e] at hb
  unfold escF
  rw [hb, if_neg (by rintro (e | e) <;> omega), if_neg (by omega), o0, o1, show i + 2 = i + 1 + 1 from rfl, o2, if_pos (by omega), if_neg (by omega), if_neg (by omega), if_neg (by omega)]
  congr 2
  omega
theorem quo_one {s : ByteArray} {m : Nat} (hm : m = 34 ∨ m = 39) {i : Nat} {b : UInt8} {l acc : List UInt8} {r : Except Int (List UInt8 × Nat)} (h : Dr s i (shown b.toNat m ++ l)) (hq : Quo s m (i + (shown b.toNat m).length) (acc ++ [b]) r) : Quo s m i acc r := by
  have hb := b.toNat_lt
  have eb : UInt8.ofNat ((b.toNat : Int)).toNat = b := by simp
  have esc : ∀ x : UInt8, shown b.toNat m = [92, x] → plainE (x.toNat : Int) = b.toNat → Quo s m i acc r := by
    intro x e hp
    rw [e] at h hq
    have h92 : byt s i = 92 := h.b0
    refine .esc h.lt h92 (by rw [h92]; omega) (esc1 (h.tl : Dr s (i + 1) (x :: l)) hp (by omega)) ?_
    rw [eb]
    exact hq
  by_cases h10 : b.toNat = 10
  · refine esc 110 (by unfold shown; rw [if_pos h10]) (by rw [h10]; decide)
  by_cases h9 : b.toNat = 9
  · refine esc 116 (by unfold shown; rw [if_neg h10, if_pos h9]) (by rw [h9]; decide)
  by_cases h13 : b.toNat = 13
  · refine esc 114 (by unfold shown; rw [if_neg h10, if_neg h9, if_pos h13]) (by rw [h13]; decide)
  by_cases hmk : b.toNat = m ∨ b.toNat = 92
  · refine esc b (by rw [shown_m hmk hm]; simp) ?_
    have : b.toNat = 34 ∨ b.toNat = 39 ∨ b.toNat = 92 := by omega
    rcases this with e | e | e <;> (rw [e]; decide)
  by_cases hp : 32 ≤ b.toNat ∧ b.toNat ≤ 126
  · rw [shown_p hmk hp] at h hq
    have hb0 : byt s i = b.toNat := by
      have := Dr.b0 (c := UInt8.ofNat b.toNat) h
      simpa using this
    refine .one (Dr.lt (c := UInt8.ofNat b.toNat) h) (by rw [hb0]; omega) (by rw [hb0]; omega) (by rw [hb0]; omega) ?_
    rw [hb0, eb]
    exact hq
  · have e := shown_o hmk hp h10 h9 h13
    rw [e] at h hq
    unfold oct at h hq
    have h92 : byt s i = 92 := Dr.b0 h
    refine .esc (Dr.lt h) h92 (by rw [h92]; omega) (esc_o hb (Dr.tl h)) ?_
    rw [eb]
    exact hq
theorem quo_list {s : ByteArray} {m : Nat} (hm : m = 34 ∨ m = 39) : ∀ (bs : List UInt8) (i : Nat) (acc r : List UInt8), Dr s i (bs.flatMap (fun b => shown b.toNat m) ++ UInt8.ofNat m :: r) → Quo s m i acc (.ok (acc ++ bs, i + (bs.flatMap fun b => shown b.toNat m).length + 1)) := by
  intro bs
  induction bs with
  | nil =>
    intro i acc r h
    have hb : byt s i = m := by
      have : byt s i = ((UInt8.ofNat m).toNat : Int) := Dr.b0 h
      rw [this, UInt8.toNat_ofNat']
      omega
    rw [List.append_nil]
    exact .fin (Dr.lt h) hb (by rw [hb]; omega)
  | cons b bs ih =>
    intro i acc r h
    rw [List.flatMap_cons, List.append_assoc] at h
    refine quo_one hm h ?_
    have := ih (i + (shown b.toNat m).length) (acc ++ [b]) r h.app
    rw [List.append_assoc, List.singleton_append] at this
    rw [List.flatMap_cons, List.length_append, ← Nat.add_assoc]
    exact this
theorem str_back {s : ByteArray} {i : Nat} {S : ByteArray} {r : List UInt8} (hS : S.size ≤ 200) (h : Dr s i ((qt S 34).data.toList ++ r)) : tokF s i = .ok (4, S, 0, i + (qt S 34).size) := by
  have e : (qt S 34).data.toList = 34 :: (S.data.toList.flatMap (fun b => shown b.toNat 34) ++ [34]) := by
    unfold qt qc
    rw [sz_len S, List.take_length]
    rfl
  rw [sz_len, e]
  rw [e, List.cons_append, List.append_assoc] at h
  have hb : byt s i = 34 := Dr.b0 h
  have hq := quoV_eq (quo_list (.inl rfl) S.data.toList (i + 1) [] r (Dr.tl h))
  unfold tokF
  rw [hb, if_neg (by decide), if_neg (by decide), if_pos rfl, show ((34 : Nat) : Int) = 34 from rfl] at *
  rw [hq]
  simp only [List.nil_append]
  rw [if_neg (by rw [← sz_len]; omega)]
  congr 4
  simp
  omega
theorem chr_back {s : ByteArray} {i : Nat} {b : UInt8} {r : List UInt8} (h : Dr s i ((chr b.toNat).data.toList ++ r)) : tokF s i = .ok (3, ⟨#[99]⟩, nr 1 (b.toNat : Int), i + (chr b.toNat).size) := by
  have e : (chr b.toNat).data.toList = 39 :: ([b].flatMap (fun b => shown b.toNat 39) ++ [39]) := by
    unfold chr
    simp
  rw [sz_len, e]
  rw [e, List.cons_append, List.append_assoc] at h
  have hb : byt s i = 39 := Dr.b0 h
  have hq := quoV_eq (quo_list (.inr rfl) [b] (i + 1) [] r (Dr.tl h))
  unfold tokF
  rw [hb, if_neg (by decide), if_pos rfl, show ((39 : Nat) : Int) = 39 from rfl] at *
  rw [hq]
  simp only [List.nil_append]
  rw [if_pos (show [b].length = 1 from rfl)]
  congr 4
  simp
  omega
end Go.Proofs.YtdplfflkmphpbaaGreatDoor.Pl
namespace Go.Proofs.YtdplfflkmphpbaaGreatDoor.Pl
/-! integers and signs read back -/
theorem dig_all : ∀ (d u : Nat), u ≤ d → ∀ c ∈ Lib.decDigits u, 48 ≤ c.toNat ∧ c.toNat ≤ 57 := by
  intro d
  induction d with
  | zero =>
    intro u hu c hc
    obtain rfl : u = 0 := by omega
    rw [dig_small (by omega)] at hc
    rw [List.mem_singleton.1 hc]
    decide
  | succ d ih =>
    intro u hu c hc
    by_cases h : u < 10
    · rw [dig_small h] at hc
      rw [List.mem_singleton.1 hc, UInt8.toNat_ofNat']
      omega
    · rw [dig_big h, List.mem_append] at hc
      rcases hc with q | q
      · exact ih (u / 10) (by omega) c q
      · rw [List.mem_singleton.1 q, UInt8.toNat_ofNat']
        omega
theorem dig_first : ∀ (d u : Nat), u ≤ d → 0 < u → ∃ c r, Lib.decDigits u = c :: r ∧ c.toNat ≠ 48 := by
  intro d
  induction d with
  | zero => intro u hu h0; omega
  | succ d ih =>
    intro u hu h0
    by_cases h : u < 10
    · refine ⟨_, [], dig_small h, ?_⟩
      rw [UInt8.toNat_ofNat']
      omega
    · obtain ⟨c, r, h1, h2⟩ := ih (u / 10) (by omega) (by omega)
      exact ⟨c, r ++ [UInt8.ofNat (48 + u % 10)], by rw [dig_big h, h1]; rfl, h2⟩
theorem dig_len : ∀ (k u : Nat), u < 10 ^ (k + 1) → (Lib.decDigits u).length ≤ k + 1 := by
  intro k
  induction k with
  | zero => intro u h; rw [dig_small (by simpa using h)]; simp
  | succ k ih =>
    intro u h
    by_cases q : u < 10
    · rw [dig_small q]; simp
    · rw [dig_big q, List.length_append, List.length_singleton]
      have := ih (u / 10) (by rw [Nat.pow_succ] at h; omega)
      omega
def vL (b : Int) (l : List UInt8) : Int := l.foldl (fun a c => a * b + hx (c.toNat : Int)) 0
theorem vL_snoc (b : Int) (l : List UInt8) (c : UInt8) : vL b (l ++ [c]) = vL b l * b + hx (c.toNat : Int) := by
  unfold vL
  rw [List.foldl_append]
  rfl
theorem val_list (b : Int) (l : List UInt8) : ∀ k, k ≤ l.length → val ⟨l.toArray⟩ b k = vL b (l.take k) := by
  intro k
  induction k with
  | zero => intro _; rfl
  | succ k ih =>
    intro hk
    have e : byt ⟨l.toArray⟩ k = ((l[k]'(by omega)).toNat : Int) := by
      unfold byt
      rw [List.getD_eq_getElem?_getD]
      simp [List.getElem?_eq_getElem (show k < l.length by omega)]
    rw [List.take_succ_eq_append_getElem (by omega), vL_snoc, ← ih (by omega), ← e]
    rfl
theorem vL_dig : ∀ (d u : Nat), u ≤ d → vL 10 (Lib.decDigits u) = u := by
  intro d
  induction d with
  | zero =>
    intro u hu
    obtain rfl : u = 0 := by omega
    rw [dig_small (by omega)]
    decide
  | succ d ih =>
    intro u hu
    have hd : ∀ n : Nat, n < 10 → hx ((UInt8.ofNat (48 + n)).toNat : Int) = n := fun n hn => by
      rw [UInt8.toNat_ofNat', hx_dig _ (by omega) (by omega)]
      omega
    by_cases h : u < 10
    · rw [dig_small h]
      show 0 * 10 + hx _ = _
      rw [hd u h]
      omega
    · rw [dig_big h, vL_snoc, ih (u / 10) (by omega), hd (u % 10) (by omega)]
      omega
theorem digw {c : UInt8} (h : 48 ≤ c.toNat ∧ c.toNat ≤ 57) : wch (c.toNat : Int) = true := by
  unfold wch dg
  rw [decide_eq_true (by omega)]
  rfl
theorem int_read (u : Nat) (T : List UInt8) (hT : T = [117] ∨ (T = [] ∧ u ≤ 2147483647)) (hu : u ≤ 4294967295) : intR ⟨(Lib.decDigits u ++ T).toArray⟩ = .ok (⟨T.toArray⟩, (u : Int)) := by
  obtain ⟨c, r, hd, hc1, hc2⟩ := dig_head _ u (Nat.le_refl _)
  have hall := dig_all _ u (Nat.le_refl _)
  have hlen : 0 < (Lib.decDigits u).length := by rw [hd]; simp
  generalize hx' : (⟨(Lib.decDigits u ++ T).toArray⟩ : ByteArray) = x
  have hxl : x.data.toList = Lib.decDigits u ++ T := by rw [← hx']
  have hxs : x.size = (Lib.decDigits u).length + T.length := by rw [sz_len, hxl, List.length_append]
  have hb : ∀ j, byt x j = (((Lib.decDigits u ++ T).getD j 0).toNat : Int) := fun j => by unfold byt; rw [hxl]
  have hb0 : byt x 0 = (c.toNat : Int) := by rw [hb, hd]; rfl
  have hD : ∀ j (h : j < (Lib.decDigits u).length), byt x j = (((Lib.decDigits u)[j]'h).toNat : Int) := fun j h => by
    rw [hb, List.getD_eq_getElem?_getD, List.getElem?_append_left h, List.getElem?_eq_getElem h]
    rfl
  have hlast : (uu (byt x (x.size - 1)) = true ↔ T = [117]) ∧ iend x = (Lib.decDigits u).length := by
    rcases hT with e | ⟨e, _⟩
    · have e1 : byt x (x.size - 1) = 117 := by
        rw [hb, hxs, e, List.getD_eq_getElem?_getD]
        simp
      unfold iend
      rw [e1]
      refine ⟨⟨fun _ => e, fun _ => rfl⟩, ?_⟩
      rw [if_pos (by decide), hxs, e]
      simp
    · have e1 : uu (byt x (x.size - 1)) = false := by
        have hj : x.size - 1 < (Lib.decDigits u).length := by rw [hxs, e]; simp; omega
        rw [hD _ hj]
        have := hall _ (List.getElem_mem hj)
        unfold uu
        simp only [Bool.or_eq_false_iff, beq_eq_false_iff_ne, ne_eq]
        omega
      unfold iend
      rw [e1]
      refine ⟨⟨fun q => (by cases q), fun q => by rw [e] at q; cases q⟩, ?_⟩
      rw [if_neg (by decide), hxs, e]
      simp
  have hisx : isx x = false := by
    by_cases h0 : u = 0
    · have h1 : byt x 1 ≠ 120 ∧ byt x 1 ≠ 88 := by
        rw [hb, h0, dig_small (by omega)]
        rcases hT with e | ⟨e, _⟩ <;> rw [e] <;> decide
      unfold isx
      simp only [Bool.and_eq_false_iff, Bool.or_eq_false_iff, beq_eq_false_iff_ne]
      exact .inr h1
    · obtain ⟨c', r', hd', hn⟩ := dig_first _ u (Nat.le_refl _) (by omega)
      rw [hd] at hd'
      cases hd'
      unfold isx
      simp only [Bool.and_eq_false_iff, Bool.or_eq_false_iff, beq_eq_false_iff_ne]
      exact .inl (.inr (by rw [hb0]; omega))
  have hoff : ioff x = 0 := by unfold ioff; rw [hisx, if_neg (by decide)]
  have hig : idig x = ⟨(Lib.decDigits u).toArray⟩ := by
    unfold idig
    rw [hoff, hlast.2]
    have := Dr.ext (s := x) (i := 0) (a := Lib.decDigits u) (b := T) (by unfold Dr; rw [List.drop_zero, hxl])
    rw [Nat.zero_add] at this
    exact this
  have higs : (idig x).size = (Lib.decDigits u).length := by rw [hig, sz_len]
  have higb : ∀ j, j < (idig x).size → 48 ≤ byt (idig x) j ∧ byt (idig x) j ≤ 57 := fun j hj => by
    rw [higs] at hj
    have : byt (idig x) j = (((Lib.decDigits u)[j]'hj).toNat : Int) := by
      rw [hig]
      unfold byt
      rw [List.getD_eq_getElem?_getD]
      simp [List.getElem?_eq_getElem hj]
    rw [this]
    have := hall _ (List.getElem_mem hj)
    omega
  have hv : val (idig x) (ibase x) (idig x).size = u ∧ ∀ j, j < (idig x).size → hx (byt (idig x) j) < ibase x := by
    by_cases h0 : u = 0
    · have e8 : ibase x = 8 := by
        unfold ibase
        rw [hisx, if_neg (by decide), hb0]
        rw [h0, dig_small (by omega)] at hd
        cases hd
        rfl
      rw [e8]
      refine ⟨?_, fun j hj => ?_⟩
      · rw [higs, hig, val_list 8 _ _ (Nat.le_refl _), List.take_length, h0, dig_small (by omega)]
        decide
      · have hj0 : j = 0 := by rw [higs, h0, dig_small (by omega)] at hj; simp at hj; omega
        subst hj0
        rw [hig, h0, dig_small (by omega)]
        decide
    · obtain ⟨c', r', hd', hn⟩ := dig_first _ u (Nat.le_refl _) (by omega)
      rw [hd] at hd'
      cases hd'
      have e10 : ibase x = 10 := by
        unfold ibase
        rw [hisx, if_neg (by decide), hb0, if_neg (by omega)]
      rw [e10]
      refine ⟨?_, fun j hj => ?_⟩
      · rw [higs, hig, val_list 10 _ _ (Nat.le_refl _), List.take_length, vL_dig _ u (Nat.le_refl _)]
      · have := higb j hj
        rw [hx_dig _ this.1 this.2]
        omega
  rw [intR_ok (by rw [hoff, hlast.2]; omega) (fun j hj => ?_) hv.2 (by rw [hv.1]; omega), hv.1]
  · congr 2
    rcases hT with e | ⟨e, h⟩
    · rw [if_pos (.inl (hlast.1.2 e)), e]
    · rw [if_neg (by rintro (q | q); have := hlast.1.1 q; rw [e] at this; cases this; omega), e]
  · have := higb j hj
    unfold badD
    rw [hx_dig _ this.1 this.2, decide_eq_false (by omega), decide_eq_false (by omega)]
    simp
theorem int_back {s : ByteArray} {i : Nat} {r : List UInt8} (u : Nat) (T : List UInt8) (hT : T = [117] ∨ (T = [] ∧ u ≤ 2147483647)) (hu : u ≤ 4294967295) (hr : Ends r) (h : Dr s i ((Lib.decDigits u ++ T) ++ r)) : tokF s i = .ok (3, ⟨T.toArray⟩, (u : Int), i + (Lib.decDigits u ++ T).length) := by
  obtain ⟨c, q, hd, hc1, hc2⟩ := dig_head _ u (Nat.le_refl _)
  refine word_back h hr (fun x hx => ?_) (by rw [hd]; simp) ?_
  · rw [List.mem_append] at hx
    rcases hx with p | p
    · exact digw (dig_all _ u (Nat.le_refl _) x p)
    · rcases hT with e | ⟨e, _⟩
      · rw [e] at p
        rw [List.mem_singleton.1 p]
        decide
      · rw [e] at p
        cases p
  · unfold wrdR
    have : byt ⟨(Lib.decDigits u ++ T).toArray⟩ 0 = (c.toNat : Int) := by rw [hd, List.cons_append]; exact byt_mk _ _
    rw [this, if_pos (by unfold dg; rw [decide_eq_true (by omega)]), int_read u T hT hu]
theorem isS_mem {t : ByteArray} : isS t = true ↔ t.data.toList ∈ sgB := by
  unfold isS
  rw [List.any_eq_true, ByteArray.toList_eq]
  constructor
  · rintro ⟨r, hr, he⟩
    rw [eq_of_beq he]
    exact hr
  · intro h
    exact ⟨_, h, by simp⟩
theorem sgm_len : ∀ l ∈ sgB, 1 ≤ l.length ∧ l.length ≤ 3 := by decide
theorem sg_32 : ∀ l ∈ sgB, ∀ c ∈ l, c ≠ 32 := by decide
theorem sg_first : ∀ l ∈ sgB, wch ((l.getD 0 0).toNat : Int) = false ∧ ((l.getD 0 0).toNat : Int) ≠ 39 ∧ ((l.getD 0 0).toNat : Int) ≠ 34 ∧ blk ((l.getD 0 0).toNat : Int) = false ∧ (l.getD 0 0 = 47 → l = [47] ∨ l = [47, 61]) := by decide
theorem sgn_at {t : ByteArray} {l r : List UInt8} (hl : l ∈ sgB) (hr : Ends r) (h : t.data.toList = l ++ r) : sgn t = l.length := by
  have hn := sgm_len l hl
  have hs : t.size = l.length + r.length := by rw [sz_len, h, List.length_append]
  have big : ∀ n, l.length < n → ¬ (n ≤ t.size ∧ isS (t.extract 0 n) = true) := by
    rintro n hn ⟨h1, h2⟩
    rcases hr with e | ⟨q, e⟩
    · rw [hs, e] at h1
      simp at h1
      omega
    · rw [isS_mem, ext_list, List.drop_zero, h, e] at h2
      refine sg_32 _ h2 32 ?_ rfl
      rw [Nat.sub_zero, List.take_append, List.mem_append]
      right
      obtain ⟨m, hm⟩ : ∃ m, n - l.length = m + 1 := ⟨n - l.length - 1, by omega⟩
      rw [hm]
      simp
  have fit : ∀ n, n = l.length → n ≤ t.size ∧ isS (t.extract 0 n) = true := by
    rintro n rfl
    refine ⟨by omega, ?_⟩
    rw [isS_mem, ext_list, List.drop_zero, h, Nat.sub_zero, List.take_left]
    exact hl
  unfold sgn
  have : l.length = 1 ∨ l.length = 2 ∨ l.length = 3 := by omega
  rcases this with e | e | e
  · rw [if_neg (big 3 (by omega)), if_neg (big 2 (by omega)), if_pos (fit 1 e.symm), e]
  · rw [if_neg (big 3 (by omega)), if_pos (fit 2 e.symm), e]
  · rw [if_pos (fit 3 e.symm), e]
theorem sgn_back {s : ByteArray} {i : Nat} {l r : List UInt8} (hl : l ∈ sgB) (hr : Ends r) (h : Dr s i (l ++ r)) : tokF s i = .ok (5, ⟨l.toArray⟩, 0, i + l.length) := by
  have hn := sgm_len l hl
  obtain ⟨f1, f2, f3, _, _⟩ := sg_first l hl
  have hb : byt s i = ((l.getD 0 0).toNat : Int) := by
    obtain ⟨c, l', rfl⟩ : ∃ c l', l = c :: l' := by
      cases l with
      | nil => simp at hn
      | cons c l' => exact ⟨c, l', rfl⟩
    exact Dr.b0 h
  have hsg : sgn (s.extract i s.size) = l.length := sgn_at hl hr h.rest
  unfold tokF
  rw [hb, if_neg (by rw [f1]; decide), if_neg f2, if_neg f3, hsg, if_neg (by omega), h.ext]
end Go.Proofs.YtdplfflkmphpbaaGreatDoor.Pl
namespace Go.Proofs.YtdplfflkmphpbaaGreatDoor.Pl
inductive Vt : Int → ByteArray → Int → Prop
  | wrd {k : Int} {S : ByteArray} {N : Int} : k = 1 ∨ k = 2 → 0 < S.size → S.size ≤ 40 → (∀ c ∈ S.data.toList, wch (c.toNat : Int) = true) → wrdR S = .ok (k, S, N) → N = 0 → Vt k S N
  | int {S : ByteArray} {N : Int} : 0 ≤ N → N ≤ 4294967295 → (S = ⟨#[117]⟩ ∨ (S = ⟨#[]⟩ ∧ N ≤ 2147483647)) → Vt 3 S N
  | chr (b : UInt8) : Vt 3 ⟨#[99]⟩ (nr 1 (b.toNat : Int))
  | str {S : ByteArray} : S.size ≤ 200 → Vt 4 S 0
  | sgn {S : ByteArray} : S.data.toList ∈ sgB → Vt 5 S 0
theorem val_nn {s : ByteArray} {b : Int} (hb : 0 ≤ b) : ∀ k, (∀ j, j < k → 0 ≤ hx (byt s j)) → 0 ≤ val s b k := by
  intro k
  induction k with
  | zero => intro _; exact Int.le_refl _
  | succ k ih =>
    intro h
    have h1 := ih fun j hj => h j (by omega)
    have h2 := h k (by omega)
    have h3 := Int.mul_nonneg h1 hb
    show 0 ≤ val s b k * b + hx (byt s k)
    omega
theorem intR_vt {s S : ByteArray} {N : Int} (h : intR s = .ok (S, N)) : 0 ≤ N ∧ N ≤ 4294967295 ∧ (S = ⟨#[117]⟩ ∨ (S = ⟨#[]⟩ ∧ N ≤ 2147483647)) := by
  unfold intR at h
  split at h
  · cases h
  rename_i h1
  split at h
  · cases h
  rename_i h2
  have hi := Except.ok.inj h
  have e1 := congrArg Prod.fst hi
  have e2 := congrArg Prod.snd hi
  simp only at e1 e2
  have hn : 0 ≤ val (idig s) (ibase s) (idig s).size := by
    refine val_nn (by rcases ibase_is s with e | e | e <;> omega) _ fun j hj => ?_
    rcases Int.lt_or_le (hx (byt (idig s) j)) 0 with q | q
    · refine absurd (.inr ⟨j, hj, ?_⟩) h1
      unfold badD
      rw [decide_eq_true q]
      rfl
    · exact q
  have hm : val (idig s) (ibase s) (idig s).size ≤ 4294967295 := by
    rcases Int.lt_or_le 4294967295 (val (idig s) (ibase s) (idig s).size) with q | q
    · exact absurd (.inr q) h2
    · exact q
  rw [← e2]
  refine ⟨hn, hm, ?_⟩
  rw [← e1]
  split
  · exact .inl rfl
  · rename_i q
    refine .inr ⟨rfl, ?_⟩
    rcases Int.lt_or_le 2147483647 (val (idig s) (ibase s) (idig s).size) with p | p
    · exact absurd (.inr p) q
    · exact p
theorem byt_mem {s : ByteArray} {c : UInt8} (h : c ∈ s.data.toList) : ∃ j, j < s.size ∧ byt s j = (c.toNat : Int) := by
  obtain ⟨j, hj, e⟩ := List.getElem_of_mem h
  refine ⟨j, by rw [sz_len]; exact hj, ?_⟩
  unfold byt
  rw [List.getD_eq_getElem?_getD, List.getElem?_eq_getElem hj, e]
  rfl
theorem tokF_vt {s : ByteArray} {i : Nat} (hi : i < s.size) {k N : Int} {S : ByteArray} {n : Nat} (h : tokF s i = .ok (k, S, N, n)) : Vt k S N := by
  have hsz := ext_sz s i
  unfold tokF at h
  split at h
  · rename_i hw
    have hr := run_run wch (s.extract i s.size)
    split at h
    · cases h
    · rename_i k' S' N' hk
      cases h
      generalize hW : s.extract i (i + run wch (s.extract i s.size)) = Wd at hk
      have hb0 : byt (s.extract i s.size) 0 = byt s i := by rw [ext_byt s i 0 (by omega), Nat.add_zero]
      have hp : 0 < run wch (s.extract i s.size) := run_pos (by omega) (by rw [hb0]; exact hw)
      have hWs : Wd.size = run wch (s.extract i s.size) := by rw [← hW, ext_size]; have := hr.1; omega
      have hall : ∀ c ∈ Wd.data.toList, wch (c.toNat : Int) = true := by
        intro c hc
        obtain ⟨j, hj, e⟩ := byt_mem hc
        rw [← e, ← hW, byt_ext s i _ j (by omega) (by have := hr.1; omega)]
        have := hr.2.1 j (by omega)
        rw [ext_byt s i j (by have := hr.1; omega)] at this
        exact this
      have hk0 := hk
      unfold wrdR at hk
      split at hk
      · split at hk
        · cases hk
        · rename_i hi'
          cases hk
          obtain ⟨q1, q2, q3⟩ := intR_vt hi'
          exact .int q1 q2 q3
      · split at hk
        · cases hk
        · rename_i h40
          split at hk
          · cases hk
            exact .wrd (.inr rfl) (by omega) (by omega) hall hk0 rfl
          · cases hk
            exact .wrd (.inl rfl) (by omega) (by omega) hall hk0 rfl
  · split at h
    · split at h
      · cases h
      · split at h
        · cases h
          exact .chr _
        · cases h
    · split at h
      · split at h
        · cases h
        · split at h
          · cases h
          · rename_i hb
            cases h
            refine .str ?_
            simp [ByteArray.size]
            omega
      · split at h
        · cases h
        · rename_i hz
          cases h
          refine .sgn ?_
          have := sgn_is _ hz
          have hle := (sgn_le (s.extract i s.size)).1
          rw [ext_ext s i s.size 0 _ (by omega) (Nat.le_refl _) (Nat.zero_le _), Nat.add_zero] at this
          exact isS_mem.1 this
theorem nr1 : ∀ n : Nat, n < 256 → (nr 1 (n : Int) % 256).toNat = n ∧ 0 ≤ nr 1 (n : Int) ∧ nr 1 (n : Int) ≤ 4294967295 := by decide +kernel
theorem txt_num {N : Int} {S : ByteArray} {T : List UInt8} (hN : 0 ≤ N) (hS : S = ⟨T.toArray⟩) (hT : T = [117] ∨ T = []) (l c : Int) : (txtI ⟨3, S, N, l, c⟩).data.toList = Lib.decDigits N.toNat ++ T := by
  unfold txtI
  dsimp only
  rw [if_neg (by omega), if_pos rfl]
  rcases hT with e | e
  · rw [hS, e, if_neg (by decide), if_pos rfl, num_nat hN]
    show ((⟨(Lib.decDigits N.toNat).toArray⟩ : ByteArray) ++ ⟨[117].toArray⟩).data.toList = _
    rw [app_list]
  · rw [hS, e, if_neg (by decide), if_neg (by decide), num_nat hN, List.append_nil]
theorem wch_first {c : Int} (h : wch c = true) : blk c = false ∧ c ≠ 47 := by
  unfold wch dg lt at h
  simp only [Bool.or_eq_true, decide_eq_true_eq, beq_iff_eq] at h
  unfold blk
  simp only [Bool.or_eq_false_iff, beq_eq_false_iff_ne, Bool.and_eq_false_iff, decide_eq_false_iff_not]
  omega
theorem vt_back {k : Int} {S : ByteArray} {N : Int} (hv : Vt k S N) (l c : Int) {s : ByteArray} {i : Nat} {r : List UInt8} (hr : Ends r) (h : Dr s i ((txtI ⟨k, S, N, l, c⟩).data.toList ++ r)) : tokF s i = .ok (k, S, N, i + (txtI ⟨k, S, N, l, c⟩).size) ∧ i < s.size ∧ blk (byt s i) = false ∧ ¬ lc s i ∧ ¬ bc s i := by
  have nocom : byt s i ≠ 47 → ¬ lc s i ∧ ¬ bc s i := fun q => ⟨fun e => q e.2.1, fun e => q e.2.1⟩
  cases hv with
  | wrd hk h0 h40 hall hw hN =>
    have e : txtI ⟨k, S, N, l, c⟩ = S := by unfold txtI; dsimp only; rw [if_pos (by omega)]
    rw [e] at h ⊢
    obtain ⟨b, t, hb⟩ : ∃ b t, S.data.toList = b :: t := by
      cases q : S.data.toList with
      | nil => rw [sz_len, q] at h0; simp at h0
      | cons b t => exact ⟨b, t, rfl⟩
    have hS : (⟨S.data.toList.toArray⟩ : ByteArray) = S := by simp
    have := word_back h hr hall (by rw [hb]; simp) (by rw [hS]; exact hw)
    rw [hb] at h
    have hw0 : wch (byt s i) = true := by rw [Dr.b0 h]; exact hall b (by rw [hb]; simp)
    obtain ⟨q1, q2⟩ := wch_first hw0
    exact ⟨by rw [sz_len]; exact this, Dr.lt h, q1, nocom q2⟩
  | int h0 h1 hS =>
    obtain ⟨T, rfl, hT⟩ : ∃ T : List UInt8, S = ⟨T.toArray⟩ ∧ (T = [117] ∨ (T = [] ∧ N.toNat ≤ 2147483647)) := by
      rcases hS with e | ⟨e, h⟩
      · exact ⟨[117], e, .inl rfl⟩
      · exact ⟨[], e, .inr ⟨rfl, by omega⟩⟩
    have e := txt_num h0 rfl (T := T) (by rcases hT with e | ⟨e, _⟩; exact .inl e; exact .inr e) l c
    rw [e] at h
    have := int_back N.toNat T hT (by omega) hr h
    rw [show ((N.toNat : Nat) : Int) = N by omega] at this
    obtain ⟨b, t, hd, hc1, hc2⟩ := dig_head _ N.toNat (Nat.le_refl _)
    rw [hd] at h
    have hb : byt s i = (b.toNat : Int) := Dr.b0 h
    obtain ⟨q1, q2⟩ := wch_first (digw ⟨hc1, hc2⟩)
    refine ⟨by rw [sz_len, e]; exact this, Dr.lt h, by rw [hb]; exact q1, nocom (by rw [hb]; exact q2)⟩
  | chr b =>
    have e : txtI ⟨3, ⟨#[99]⟩, nr 1 (b.toNat : Int), l, c⟩ = Pl.chr b.toNat := by
      unfold txtI
      dsimp only
      rw [if_neg (by omega), if_pos rfl, if_pos rfl, (nr1 b.toNat b.toNat_lt).1]
    rw [e] at h ⊢
    have hb : byt s i = 39 := by
      have : Dr s i (39 :: (shown b.toNat 39 ++ [39] ++ r)) := by
        have e2 : (Pl.chr b.toNat).data.toList ++ r = 39 :: (shown b.toNat 39 ++ [39] ++ r) := by
          unfold Pl.chr
          simp
        rw [e2] at h
        exact h
      exact this.b0
    have hlt : i < s.size := by
      rcases Nat.lt_or_ge i s.size with q | q
      · exact q
      · rw [byt_out s i q] at hb; cases hb
    exact ⟨chr_back h, hlt, by rw [hb]; decide, nocom (by rw [hb]; decide)⟩
  | str hS =>
    have e : txtI ⟨4, S, 0, l, c⟩ = qt S 34 := by
      unfold txtI
      dsimp only
      rw [if_neg (by omega), if_neg (by omega), if_pos rfl]
    rw [e] at h ⊢
    have hb : byt s i = 34 := by
      have e2 : (qt S 34).data.toList ++ r = 34 :: ((S.data.toList.take S.size).flatMap (fun b => shown b.toNat 34) ++ [34] ++ r) := by
        unfold qt qc
        simp
      rw [e2] at h
      exact h.b0
    have hlt : i < s.size := by
      rcases Nat.lt_or_ge i s.size with q | q
      · exact q
      · rw [byt_out s i q] at hb; cases hb
    exact ⟨str_back hS h, hlt, by rw [hb]; decide, nocom (by rw [hb]; decide)⟩
  | sgn hS =>
    have e : txtI ⟨5, S, 0, l, c⟩ = S := by unfold txtI; dsimp only; rw [if_pos (by omega)]
    rw [e] at h ⊢
    have hSS : (⟨S.data.toList.toArray⟩ : ByteArray) = S := by simp
    have := sgn_back hS hr h
    rw [hSS] at this
    obtain ⟨_, _, _, f4, f5⟩ := sg_first _ hS
    have hn := sgm_len _ hS
    obtain ⟨b, t, hbt⟩ : ∃ b t, S.data.toList = b :: t := by
      cases q : S.data.toList with
      | nil => rw [q] at hn; simp at hn
      | cons b t => exact ⟨b, t, rfl⟩
    rw [hbt] at h f4 f5
    have hb : byt s i = (b.toNat : Int) := Dr.b0 h
    refine ⟨by rw [sz_len]; exact this, Dr.lt h, by rw [hb]; exact f4, ?_⟩
    by_cases h47 : b = 47
    · have nb : byt s (i + 1) ≠ 47 ∧ byt s (i + 1) ≠ 42 := by
        rcases f5 h47 with q | q
        · cases q
          rcases hr with e | ⟨p, e⟩
          · rw [e] at h
            have := (Dr.tl h).nil
            rw [byt_out s _ this]
            decide
          · rw [e] at h
            rw [show byt s (i + 1) = 32 from Dr.b1 h]
            decide
        · cases q
          rw [show byt s (i + 1) = 61 from Dr.b1 h]
          decide
      exact ⟨fun q => nb.1 q.2.2, fun q => nb.2 q.2.2⟩
    · refine nocom fun q => h47 ?_
      rw [hb] at q
      exact UInt8.toNat_inj.1 (by show b.toNat = 47; omega)
theorem vt_size {k : Int} {S : ByteArray} {N : Int} (hv : Vt k S N) (l c : Int) : (txtI ⟨k, S, N, l, c⟩).size ≤ 802 ∧ 0 < (txtI ⟨k, S, N, l, c⟩).size ∧ S.size ≤ 200 ∧ 0 ≤ N ∧ N ≤ 4294967295 ∧ 1 ≤ k ∧ k ≤ 5 := by
  cases hv with
  | wrd hk h0 h40 hall hw hN =>
    have e : txtI ⟨k, S, N, l, c⟩ = S := by unfold txtI; dsimp only; rw [if_pos (by omega)]
    rw [e]
    omega
  | int h0 h1 hS =>
    obtain ⟨T, rfl, hT⟩ : ∃ T : List UInt8, S = ⟨T.toArray⟩ ∧ (T = [117] ∨ T = []) := by
      rcases hS with e | ⟨e, h⟩
      · exact ⟨[117], e, .inl rfl⟩
      · exact ⟨[], e, .inr rfl⟩
    have e := txt_num h0 rfl hT l c
    have hl := dig_len 9 N.toNat (by omega)
    obtain ⟨b, t, hd, _⟩ := dig_head _ N.toNat (Nat.le_refl _)
    have hTl : T.length ≤ 1 := by rcases hT with e | e <;> rw [e] <;> simp
    have hd1 : 0 < (Lib.decDigits N.toNat).length := by rw [hd]; simp
    rw [sz_len, e, List.length_append, sz_len]
    show _ ∧ _ ∧ T.length ≤ 200 ∧ _
    omega
  | chr b =>
    have e : txtI ⟨3, ⟨#[99]⟩, nr 1 (b.toNat : Int), l, c⟩ = Pl.chr b.toNat := by
      unfold txtI
      dsimp only
      rw [if_neg (by omega), if_pos rfl, if_pos rfl, (nr1 b.toNat b.toNat_lt).1]
    have h1 := shown_len b.toNat 39
    have h2 : (Pl.chr b.toNat).size = (shown b.toNat 39).length + 2 := by
      rw [sz_len]
      unfold Pl.chr
      simp
    have h3 := nr1 b.toNat b.toNat_lt
    rw [e, h2]
    show _ ∧ _ ∧ 1 ≤ 200 ∧ _
    omega
  | str hS =>
    have e : txtI ⟨4, S, 0, l, c⟩ = qt S 34 := by
      unfold txtI
      dsimp only
      rw [if_neg (by omega), if_neg (by omega), if_pos rfl]
    have hf : ∀ a : List UInt8, (a.flatMap fun b => shown b.toNat 34).length ≤ 4 * a.length := by
      intro a
      induction a with
      | nil => simp
      | cons x a ih =>
        rw [List.flatMap_cons, List.length_append, List.length_cons]
        have := shown_len x.toNat 34
        omega
    have h2 : (qt S 34).size = (S.data.toList.flatMap fun b => shown b.toNat 34).length + 2 := by
      rw [sz_len]
      unfold qt qc
      rw [sz_len S, List.take_length]
      simp
    have := hf S.data.toList
    rw [← sz_len] at this
    rw [e, h2]
    omega
  | sgn hS =>
    have e : txtI ⟨5, S, 0, l, c⟩ = S := by unfold txtI; dsimp only; rw [if_pos (by omega)]
    have hn := sgm_len _ hS
    rw [← sz_len] at hn
    rw [e]
    omega
end Go.Proofs.YtdplfflkmphpbaaGreatDoor.Pl
