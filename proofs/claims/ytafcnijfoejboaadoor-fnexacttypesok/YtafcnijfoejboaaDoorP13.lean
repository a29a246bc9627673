import Derived.Test.YtafcnijfoejboaaDoorP12
set_option linter.unusedVariables false
set_option linter.unusedSimpArgs false
namespace Go.Proofs.YtafcnijfoejboaaDoor.W
open Go.RowKit
def boolN (v : Value) : Nat := match v with | .bool true => 1 | _ => 0
theorem can_not9 {xs : List Pl.Ty} {L : List Pl.La} {i : Nat} {kk nn : Int} {zs : List Int} {nms : List ByteArray} (hx : Pl.Ty.mk kk nn zs nms = xs.getD i Pl.Ty.zero) (h9 : kk = 9) (hz : zs.length = 1) (h : (L.getD (zs.getD 0 0).toNat Pl.La.zero).whole = false) : ¬ Pl.can xs L i := by
  rintro ⟨h1, h2⟩
  rw [← hx] at h1 h2
  have e : Pl.ofAt xs i 0 = zs.getD 0 0 := by unfold Pl.ofAt; rw [← hx]
  rcases h2 with q | q
  · have q2 : Pl.scal kk = true := q
    rw [h9] at q2
    exact absurd q2 (by decide)
  · have := q 0 (by show 0 < zs.length; omega)
    rw [e, h] at this
    cases this
theorem can_notT {xs : List Pl.Ty} {L : List Pl.La} {i : Nat} {kk nn : Int} {zs : List Int} {nms : List ByteArray} (hx : Pl.Ty.mk kk nn zs nms = xs.getD i Pl.Ty.zero) (ht : Pl.tagd kk = true) (h : zs.length = 0 ∨ ¬ ∀ p, p < zs.length → (L.getD (zs.getD p 0).toNat Pl.La.zero).whole = true) : ¬ Pl.can xs L i := by
  have hk : kk = 10 ∨ kk = 11 := by simpa [Pl.tagd] using ht
  rintro ⟨h1, h2⟩
  rw [← hx] at h1 h2
  have hs : Pl.scal kk = false := by rcases hk with q | q <;> rw [q] <;> decide
  rcases h with q | q
  · unfold Pl.Ty.whole at h1
    simp only [hs, q] at h1
    have h9 : decide (kk = 9) = false := decide_eq_false (by omega)
    simp [h9] at h1
  · rcases h2 with c | c
    · rw [hs] at c; cases c
    · refine q (fun p hp => ?_)
      have := c p hp
      unfold Pl.ofAt at this
      rw [← hx] at this
      exact this
theorem can_notO {xs : List Pl.Ty} {L : List Pl.La} {i : Nat} {kk nn : Int} {zs : List Int} {nms : List ByteArray} (hx : Pl.Ty.mk kk nn zs nms = xs.getD i Pl.Ty.zero) (hs : Pl.scal kk = false) (h9 : kk ≠ 9) (ht : Pl.tagd kk = false) : ¬ Pl.can xs L i := by
  rintro ⟨h1, _⟩
  rw [← hx] at h1
  unfold Pl.Ty.whole at h1
  simp [hs, h9, ht] at h1
theorem lays_sc {xs : List Pl.Ty} {i : Nat} {kk nn : Int} {zs : List Int} {nms : List ByteArray} (hx : Pl.Ty.mk kk nn zs nms = xs.getD i Pl.Ty.zero) (hs : Pl.scal kk = true) : (∃ f, Pl.lays f xs i = true) ∧ Pl.Lay xs i (Pl.szK kk) (Pl.szK kk) := by
  have e : (xs.getD i Pl.Ty.zero).k = kk := by rw [← hx]
  refine ⟨⟨1, (Pl.lays_succ 0 _ _).2 ⟨by rw [← hx]; simp [Pl.Ty.whole, hs], .inl (by rw [e]; exact hs)⟩⟩, ?_⟩
  have := Pl.Lay.scal (xs := xs) i (by rw [e]; exact hs)
  rw [e] at this
  exact this
theorem lays_ar {xs : List Pl.Ty} {L : List Pl.La} {i j : Nat} {nn : Int} {zs : List Int} {nms : List ByteArray} (hx : Pl.Ty.mk 9 nn zs nms = xs.getD i Pl.Ty.zero) (hn : 0 < nn) (hz : zs.length = 1) (hj : zs.getD 0 0 = (j : Int)) (hR : Pl.right xs L) (hw : (L.getD j Pl.La.zero).whole = true) : (∃ f, Pl.lays f xs i = true) ∧ Pl.Lay xs i (Pl.capn ((L.getD j Pl.La.zero).size * nn)) (L.getD j Pl.La.zero).align := by
  obtain ⟨⟨f, hf⟩, _, hl⟩ := hR j hw
  have e : Pl.ofAt xs i 0 = (j : Int) := by unfold Pl.ofAt; rw [← hx]; exact hj
  refine ⟨⟨f + 1, (Pl.lays_succ f _ _).2 ⟨by rw [← hx]; simp [Pl.Ty.whole, hn], .inr (fun p hp => ?_)⟩⟩, ?_⟩
  · have hp0 : p = 0 := by rw [← hx] at hp; have : p < zs.length := hp; omega
    rw [hp0, e, Int.toNat_natCast]; exact hf
  · have := Pl.Lay.arr (xs := xs) i (L.getD j Pl.La.zero).size (L.getD j Pl.La.zero).align (by rw [← hx]) (by rw [e, Int.toNat_natCast]; exact hl)
    rw [← hx] at this
    exact this
theorem lays_rc {xs : List Pl.Ty} {L : List Pl.La} {i : Nat} {kk nn : Int} {zs : List Int} {nms : List ByteArray} (hx : Pl.Ty.mk kk nn zs nms = xs.getD i Pl.Ty.zero) (ht : Pl.tagd kk = true) (hz : 0 < zs.length) (hR : Pl.right xs L) (hw : ∀ p, p < zs.length → (L.getD (zs.getD p 0).toNat Pl.La.zero).whole = true) : (∃ f, Pl.lays f xs i = true) ∧ Pl.Lay xs i (Pl.flds kk (fun p => ((L.getD (zs.getD p 0).toNat Pl.La.zero).size, (L.getD (zs.getD p 0).toNat Pl.La.zero).align)) zs.length).1 (Pl.flds kk (fun p => ((L.getD (zs.getD p 0).toNat Pl.La.zero).size, (L.getD (zs.getD p 0).toNat Pl.La.zero).align)) zs.length).2 := by
  have e : ∀ p, Pl.ofAt xs i p = zs.getD p 0 := fun p => by unfold Pl.ofAt; rw [← hx]
  obtain ⟨f, hf⟩ := Pl.lays_all (xs := xs) (q := fun p => (zs.getD p 0).toNat) zs.length (fun p hp => (hR _ (hw p hp)).1)
  refine ⟨⟨f + 1, (Pl.lays_succ f _ _).2 ⟨by rw [← hx]; simp [Pl.Ty.whole, ht, hz], .inr (fun p hp => ?_)⟩⟩, ?_⟩
  · rw [e]; exact hf p (by rw [← hx] at hp; exact hp)
  · have := Pl.Lay.rcd (xs := xs) i (fun p => ((L.getD (zs.getD p 0).toNat Pl.La.zero).size, (L.getD (zs.getD p 0).toNat Pl.La.zero).align)) (by rw [← hx]; exact ht) (by rw [← hx]; exact hz) (fun p hp => by rw [e]; exact (hR _ (hw p (by rw [← hx] at hp; exact hp))).2.2)
    rw [← hx] at this
    exact this
def Shp (len : Nat) (xs : List Pl.Ty) : Prop := ∀ i, i < len → (∀ p, p < (xs.getD i Pl.Ty.zero).of.length → 0 ≤ (xs.getD i Pl.Ty.zero).of.getD p 0 ∧ (xs.getD i Pl.Ty.zero).of.getD p 0 < len) ∧ ((xs.getD i Pl.Ty.zero).k = 9 → (xs.getD i Pl.Ty.zero).of.length = 1 ∧ 1 ≤ (xs.getD i Pl.Ty.zero).n ∧ (xs.getD i Pl.Ty.zero).n ≤ 60000) ∧ (xs.getD i Pl.Ty.zero).of.length ≤ 100
set_option maxHeartbeats 16000000 in
set_option maxRecDepth 8000 in
theorem l7Lay_any {lo : Nat} (a : Option Addr) (len cap : Nat) (xs : List Pl.Ty) (w : World) (hT : TRow lo w a len cap xs) (hlen : len ≤ 2000) (hsp : Shp len xs) :
    Calls Tryd.prog 11 #[.slice a len cap] w fun e w' => e = .returned (.slice (some ⟨w.heap.size, 0, none⟩) len len) ∧ ∃ L : List Pl.La, LSt w len L w' ∧ Pl.right xs L ∧ ∀ i, i < len → (L.getD i Pl.La.zero).whole = false → ¬ Pl.can xs L i := by
  have hm : (len : Int) ≤ 9223372036854775807 := by omega
  have HT : Hid (TRow lo w a len cap xs) := hT
  have HP : Hid (Shp len xs) := hsp
  clear hT hsp
  have hinfo : (Tryd.prog.info? 40).map (fun i => (i.zero, i.size, i.bytes)) = some (some (.agg #[.bool false, .int .i64 0, .int .i64 0, .slice none 0 0]), 4, 48) := by kernel_rfl
  obtain ⟨i0, hi0, hz0, hz1, hz2⟩ := info_parts hinfo
  have hmk : ∀ u : World, (Instr.makeSlice 35 (.int .i64 (len : Int)) (.int .i64 (len : Int))).run Tryd.prog u = .ok (.slice (some ⟨u.heap.size, 0, none⟩) len len) (u.alloc (.cells (madeCells #[.bool false, .int .i64 0, .int .i64 0, .slice none 0 0] (len * 4)) 40)) := fun u => by
    have := run_makeSlice u 35 40 i0 _ Tryd.underlying35 hi0 hz0 .i64 .i64 (len : Int) (len : Int) (by omega) (by omega) (by rw [hz1]; simp; omega) (by rw [hz2]; omega) (by omega)
    rw [hz1, Int.toNat_natCast] at this
    exact this
  clear hinfo hi0 hz0 hz1 hz2
  go_enter Tryd.func11, Tryd.ntmps11
  go_wp2_with fail
  clear hmk
  go_loopw [4] (fun m wr => ∃ L : List Pl.La, (m = .bool true ∨ m = .bool false) ∧ Hid (LSt w len L wr ∧ Pl.right xs L ∧ (m = .bool false → ∀ i, i < len → (L.getD i Pl.La.zero).whole = false → ¬ Pl.can xs L i))) (fun m wr => 2 * wcnt wr w.heap.size len + boolN m)
  case atStart =>
    refine ⟨List.replicate len Pl.La.zero, .inl rfl, ⟨below_alloc w _, ⟨by simp, by simp, fun i hi => ⟨⟨none, 0, 0⟩, fun j hj => ?_⟩⟩, fun q => frozen_of_row _ _ _ _ _ (heap_alloc_new w _)⟩, fun i hi => ?_, fun h => by cases h⟩
    · rw [cell_of_row _ _ _ _ _ (0, 0) (heap_alloc_new w _)]
      have e : (i * 4 + j) % 4 = j := by omega
      have hb : i * 4 + j < len * 4 := by omega
      have e2 : (List.replicate len Pl.La.zero).getD i Pl.La.zero = Pl.La.zero := by rw [List.getD_eq_getElem?_getD, List.getElem?_replicate]; split <;> rfl
      rw [e2]
      unfold madeCells
      rw [Array.getElem?_map, Array.getElem?_range, if_pos hb]
      simp only [Option.map_some, List.size_toArray, List.length_cons, List.length_nil, e]
      rcases (show j = 0 ∨ j = 1 ∨ j = 2 ∨ j = 3 by omega) with rfl | rfl | rfl | rfl <;> rfl
    · have e2 : (List.replicate len Pl.La.zero).getD i Pl.La.zero = Pl.La.zero := by rw [List.getD_eq_getElem?_getD, List.getElem?_replicate]; split <;> rfl
      rw [e2] at hi
      cases hi
  case round =>
    obtain ⟨L0, hm0, H0⟩ := hrel
    rcases hm0 with rfl | rfl
    rotate_left
    · go_wp2_with fail
      go_ret
      exact ⟨rfl, L0, H0.out.1, H0.out.2.1, H0.out.2.2 (by trivial)⟩
    have HC0 : Hid (wcnt wr w.heap.size len = Pl.nwh len L0) := H0.out.1.cnt
    go_wp2_with fail
    go_loopw [4, 5] (fun m i ws => ∃ (k : Nat) (L : List Pl.La), k ≤ len ∧ i = .int .i64 k ∧ (m = .bool true ∨ m = .bool false) ∧ Hid (LSt w len L ws ∧ Pl.right xs L ∧ (m = .bool true → Pl.nwh len L < Pl.nwh len L0) ∧ (m = .bool false → L = L0 ∧ ∀ j, j < k → (L0.getD j Pl.La.zero).whole = false → ¬ Pl.can xs L0 j))) (fun _ i _ => len - (intOf i).toNat)
    case atStart => exact ⟨0, L0, Nat.zero_le _, rfl, .inr rfl, H0.out.1, H0.out.2.1, fun h => (by cases h), fun _ => ⟨rfl, fun j hj => absurd hj (Nat.not_lt_zero _)⟩⟩
    case round =>
      obtain ⟨k, L, hk, rfl, hmm, H⟩ := hrel
      by_cases hlt : k < len
      rotate_left
      · have hke : k = len := by omega
        have hi : ¬ ((k : Int) < (len : Int)) := by omega
        rcases hmm with rfl | rfl
        · go_wp2_with fail
          go_roundw
          case rel => exact ⟨L, .inl rfl, H.out.1, H.out.2.1, fun h => (by cases h)⟩
          case measure =>
            have e1 := H.out.1.cnt
            have e2 := H.out.2.2.1 (by trivial)
            rw [HC0.out, e1]
            simp only [boolN]
            omega
        · go_wp2_with fail
          go_roundw
          case rel => exact ⟨L, .inr rfl, H.out.1, H.out.2.1, fun _ i hi2 => by
            obtain ⟨q1, q2⟩ := H.out.2.2.2 (by trivial)
            rw [q1]; exact q2 i (by omega)⟩
          case measure =>
            have e1 := H.out.1.cnt
            rw [HC0.out, e1, (H.out.2.2.2 (by trivial)).1]
            simp only [boolN]
            omega
      have hi : (k : Int) < (len : Int) := by omega
      obtain ⟨b, off, v, s, rfl, hlo, hb1, hc, hrow, hs⟩ := (HT.out.keep H.out.1.b).at hlt
      obtain ⟨x, hx⟩ : ∃ x, x = xs.getD k Pl.Ty.zero := ⟨_, rfl⟩
      have hsh := HP.out k hlt
      rw [← hx] at hc hrow hs hsh
      obtain ⟨kk, nn, zs, nms⟩ := x
      obtain ⟨e0, e1, e2, e3⟩ := ty_cells hc
      change wr.cell? _ = some (.int .i64 kk) at e0
      change wr.cell? _ = some (.int .i64 nn) at e1
      have HX : Hid (Pl.Ty.mk kk nn zs nms = xs.getD k Pl.Ty.zero) := hx
      have HSH : Hid ((∀ p, p < zs.length → 0 ≤ zs.getD p 0 ∧ zs.getD p 0 < len) ∧ (kk = 9 → zs.length = 1 ∧ 1 ≤ nn ∧ nn ≤ 60000) ∧ zs.length ≤ 100) := hsh
      have HRW : Hid (Row .i64 lo wr v.a v.len v.cap zs) := hrow
      have HZL : Hid (zs.length = v.len) := hrow.1
      have hvl : (v.len : Int) ≤ 100 := by have := hsh.2.2; have := hrow.1; simp only at *; omega
      obtain ⟨va, vl, vc⟩ := v
      simp only at hvl HRW HZL e2
      have hob : w.heap.size < wr.heap.size := H.out.1.r.2.1
      obtain ⟨vq, q0, q1, q2, q3⟩ := H.out.1.r.at hlt
      have fz := H.out.1.f
      have hkL : k < L.length := by rw [H.out.1.r.1]; exact hlt
      clear hx hc hs hrow hsh
      rcases hmm with rfl | rfl
      · cases hwh : (L.getD k Pl.La.zero).whole
        rotate_left
        · rw [hwh] at q0
          go_wp2_with fail
          go_roundw
          case rel =>
            exact ⟨k + 1, L, by omega, by go_num, .inl rfl, H.out.1.keep (below_alloc _ _), H.out.2.1, fun _ => H.out.2.2.1 (by trivial), fun h => (by cases h)⟩
          case measure => simp [intOf]; omega
        have HWH : Hid ((L.getD k Pl.La.zero).whole = false) := hwh
        rw [hwh] at q0
        cases hsc : Pl.scal kk
        rotate_left
        · have HW2 := lays_sc HX.out hsc
          have HWX : Hid ((∃ f, Pl.lays f xs k = true) ∧ Pl.Lay xs k (Pl.szK kk) (Pl.szK kk)) := HW2
          clear HW2
          have hk8 : 2 ≤ kk ∧ kk ≤ 8 := by simpa [Pl.scal] using hsc
          rcases (show kk = 2 ∨ kk = 3 ∨ kk = 4 ∨ kk = 5 ∨ kk = 6 ∨ kk = 7 ∨ kk = 8 by omega) with rfl | rfl | rfl | rfl | rfl | rfl | rfl
          · have SU : Hid (LSt w len L wr) := H.out.1
            obtain ⟨X, hX⟩ : ∃ X, setL wr w.heap.size (k * 4) ⟨true, 1, 1⟩ ⟨none, 0, 0⟩ = X := ⟨_, rfl⟩
            have SX : Hid (LSt w len (L.set k ⟨true, 1, 1⟩) X) := by rw [← hX]; exact SU.out.put hlt ⟨true, 1, 1⟩ ⟨none, 0, 0⟩
            have hxz : X.heap.size = wr.heap.size := by rw [← hX]; unfold setL; simp only [World.size_setCell]
            have x0 : X.cell? ⟨w.heap.size, k * 4, none⟩ = some (.bool true) := by
              obtain ⟨_, q, _⟩ := SX.out.r.at hlt
              rw [q, Pl.getD_setL L k k _ hkL, if_pos rfl]
            have hxo : w.heap.size < X.heap.size := SX.out.r.2.1
            unfold setL at hX
            simp only at hX
            go_wp2_with (go_at_call 20; refine (l7Scalar_any _ _).mono ?_; rintro e uu ⟨rfl, ek⟩; rw [ek]; clear ek; rw [hsc])
            go_roundw
            case rel =>
              refine ⟨k + 1, L.set k ⟨true, 1, 1⟩, by omega, by go_num, .inl rfl, (SX.out.keep (below_alloc _ _)).keep (below_alloc _ _), Pl.right_set H.out.2.1 hkL HWX.out.1 ⟨⟨by decide, by decide⟩, by decide, by decide⟩ (by have := HWX.out.2; rw [show Pl.szK 2 = 1 from by decide] at this; exact this), fun _ => ?_, fun h => (by cases h)⟩
              have hd := Pl.nwh_set (x := ⟨true, 1, 1⟩) H.out.1.r.1 hlt HWH.out rfl
              have := H.out.2.2.1 (by trivial)
              omega
            case measure => simp [intOf]; omega
          · have SU : Hid (LSt w len L wr) := H.out.1
            obtain ⟨X, hX⟩ : ∃ X, setL wr w.heap.size (k * 4) ⟨true, 1, 1⟩ ⟨none, 0, 0⟩ = X := ⟨_, rfl⟩
            have SX : Hid (LSt w len (L.set k ⟨true, 1, 1⟩) X) := by rw [← hX]; exact SU.out.put hlt ⟨true, 1, 1⟩ ⟨none, 0, 0⟩
            have hxz : X.heap.size = wr.heap.size := by rw [← hX]; unfold setL; simp only [World.size_setCell]
            have x0 : X.cell? ⟨w.heap.size, k * 4, none⟩ = some (.bool true) := by
              obtain ⟨_, q, _⟩ := SX.out.r.at hlt
              rw [q, Pl.getD_setL L k k _ hkL, if_pos rfl]
            have hxo : w.heap.size < X.heap.size := SX.out.r.2.1
            unfold setL at hX
            simp only at hX
            go_wp2_with (go_at_call 20; refine (l7Scalar_any _ _).mono ?_; rintro e uu ⟨rfl, ek⟩; rw [ek]; clear ek; rw [hsc])
            go_roundw
            case rel =>
              refine ⟨k + 1, L.set k ⟨true, 1, 1⟩, by omega, by go_num, .inl rfl, (SX.out.keep (below_alloc _ _)).keep (below_alloc _ _), Pl.right_set H.out.2.1 hkL HWX.out.1 ⟨⟨by decide, by decide⟩, by decide, by decide⟩ (by have := HWX.out.2; rw [show Pl.szK 3 = 1 from by decide] at this; exact this), fun _ => ?_, fun h => (by cases h)⟩
              have hd := Pl.nwh_set (x := ⟨true, 1, 1⟩) H.out.1.r.1 hlt HWH.out rfl
              have := H.out.2.2.1 (by trivial)
              omega
            case measure => simp [intOf]; omega
          · have SU : Hid (LSt w len L wr) := H.out.1
            obtain ⟨X, hX⟩ : ∃ X, setL wr w.heap.size (k * 4) ⟨true, 2, 2⟩ ⟨none, 0, 0⟩ = X := ⟨_, rfl⟩
            have SX : Hid (LSt w len (L.set k ⟨true, 2, 2⟩) X) := by rw [← hX]; exact SU.out.put hlt ⟨true, 2, 2⟩ ⟨none, 0, 0⟩
            have hxz : X.heap.size = wr.heap.size := by rw [← hX]; unfold setL; simp only [World.size_setCell]
            have x0 : X.cell? ⟨w.heap.size, k * 4, none⟩ = some (.bool true) := by
              obtain ⟨_, q, _⟩ := SX.out.r.at hlt
              rw [q, Pl.getD_setL L k k _ hkL, if_pos rfl]
            have hxo : w.heap.size < X.heap.size := SX.out.r.2.1
            unfold setL at hX
            simp only at hX
            go_wp2_with (go_at_call 20; refine (l7Scalar_any _ _).mono ?_; rintro e uu ⟨rfl, ek⟩; rw [ek]; clear ek; rw [hsc])
            go_roundw
            case rel =>
              refine ⟨k + 1, L.set k ⟨true, 2, 2⟩, by omega, by go_num, .inl rfl, (SX.out.keep (below_alloc _ _)).keep (below_alloc _ _), Pl.right_set H.out.2.1 hkL HWX.out.1 ⟨⟨by decide, by decide⟩, by decide, by decide⟩ (by have := HWX.out.2; rw [show Pl.szK 4 = 2 from by decide] at this; exact this), fun _ => ?_, fun h => (by cases h)⟩
              have hd := Pl.nwh_set (x := ⟨true, 2, 2⟩) H.out.1.r.1 hlt HWH.out rfl
              have := H.out.2.2.1 (by trivial)
              omega
            case measure => simp [intOf]; omega
          · have SU : Hid (LSt w len L wr) := H.out.1
            obtain ⟨X, hX⟩ : ∃ X, setL wr w.heap.size (k * 4) ⟨true, 2, 2⟩ ⟨none, 0, 0⟩ = X := ⟨_, rfl⟩
            have SX : Hid (LSt w len (L.set k ⟨true, 2, 2⟩) X) := by rw [← hX]; exact SU.out.put hlt ⟨true, 2, 2⟩ ⟨none, 0, 0⟩
            have hxz : X.heap.size = wr.heap.size := by rw [← hX]; unfold setL; simp only [World.size_setCell]
            have x0 : X.cell? ⟨w.heap.size, k * 4, none⟩ = some (.bool true) := by
              obtain ⟨_, q, _⟩ := SX.out.r.at hlt
              rw [q, Pl.getD_setL L k k _ hkL, if_pos rfl]
            have hxo : w.heap.size < X.heap.size := SX.out.r.2.1
            unfold setL at hX
            simp only at hX
            go_wp2_with (go_at_call 20; refine (l7Scalar_any _ _).mono ?_; rintro e uu ⟨rfl, ek⟩; rw [ek]; clear ek; rw [hsc])
            go_roundw
            case rel =>
              refine ⟨k + 1, L.set k ⟨true, 2, 2⟩, by omega, by go_num, .inl rfl, (SX.out.keep (below_alloc _ _)).keep (below_alloc _ _), Pl.right_set H.out.2.1 hkL HWX.out.1 ⟨⟨by decide, by decide⟩, by decide, by decide⟩ (by have := HWX.out.2; rw [show Pl.szK 5 = 2 from by decide] at this; exact this), fun _ => ?_, fun h => (by cases h)⟩
              have hd := Pl.nwh_set (x := ⟨true, 2, 2⟩) H.out.1.r.1 hlt HWH.out rfl
              have := H.out.2.2.1 (by trivial)
              omega
            case measure => simp [intOf]; omega
          · have SU : Hid (LSt w len L wr) := H.out.1
            obtain ⟨X, hX⟩ : ∃ X, setL wr w.heap.size (k * 4) ⟨true, 4, 4⟩ ⟨none, 0, 0⟩ = X := ⟨_, rfl⟩
            have SX : Hid (LSt w len (L.set k ⟨true, 4, 4⟩) X) := by rw [← hX]; exact SU.out.put hlt ⟨true, 4, 4⟩ ⟨none, 0, 0⟩
            have hxz : X.heap.size = wr.heap.size := by rw [← hX]; unfold setL; simp only [World.size_setCell]
            have x0 : X.cell? ⟨w.heap.size, k * 4, none⟩ = some (.bool true) := by
              obtain ⟨_, q, _⟩ := SX.out.r.at hlt
              rw [q, Pl.getD_setL L k k _ hkL, if_pos rfl]
            have hxo : w.heap.size < X.heap.size := SX.out.r.2.1
            unfold setL at hX
            simp only at hX
            go_wp2_with (go_at_call 20; refine (l7Scalar_any _ _).mono ?_; rintro e uu ⟨rfl, ek⟩; rw [ek]; clear ek; rw [hsc])
            go_roundw
            case rel =>
              refine ⟨k + 1, L.set k ⟨true, 4, 4⟩, by omega, by go_num, .inl rfl, (SX.out.keep (below_alloc _ _)).keep (below_alloc _ _), Pl.right_set H.out.2.1 hkL HWX.out.1 ⟨⟨by decide, by decide⟩, by decide, by decide⟩ (by have := HWX.out.2; rw [show Pl.szK 6 = 4 from by decide] at this; exact this), fun _ => ?_, fun h => (by cases h)⟩
              have hd := Pl.nwh_set (x := ⟨true, 4, 4⟩) H.out.1.r.1 hlt HWH.out rfl
              have := H.out.2.2.1 (by trivial)
              omega
            case measure => simp [intOf]; omega
          · have SU : Hid (LSt w len L wr) := H.out.1
            obtain ⟨X, hX⟩ : ∃ X, setL wr w.heap.size (k * 4) ⟨true, 4, 4⟩ ⟨none, 0, 0⟩ = X := ⟨_, rfl⟩
            have SX : Hid (LSt w len (L.set k ⟨true, 4, 4⟩) X) := by rw [← hX]; exact SU.out.put hlt ⟨true, 4, 4⟩ ⟨none, 0, 0⟩
            have hxz : X.heap.size = wr.heap.size := by rw [← hX]; unfold setL; simp only [World.size_setCell]
            have x0 : X.cell? ⟨w.heap.size, k * 4, none⟩ = some (.bool true) := by
              obtain ⟨_, q, _⟩ := SX.out.r.at hlt
              rw [q, Pl.getD_setL L k k _ hkL, if_pos rfl]
            have hxo : w.heap.size < X.heap.size := SX.out.r.2.1
            unfold setL at hX
            simp only at hX
            go_wp2_with (go_at_call 20; refine (l7Scalar_any _ _).mono ?_; rintro e uu ⟨rfl, ek⟩; rw [ek]; clear ek; rw [hsc])
            go_roundw
            case rel =>
              refine ⟨k + 1, L.set k ⟨true, 4, 4⟩, by omega, by go_num, .inl rfl, (SX.out.keep (below_alloc _ _)).keep (below_alloc _ _), Pl.right_set H.out.2.1 hkL HWX.out.1 ⟨⟨by decide, by decide⟩, by decide, by decide⟩ (by have := HWX.out.2; rw [show Pl.szK 7 = 4 from by decide] at this; exact this), fun _ => ?_, fun h => (by cases h)⟩
              have hd := Pl.nwh_set (x := ⟨true, 4, 4⟩) H.out.1.r.1 hlt HWH.out rfl
              have := H.out.2.2.1 (by trivial)
              omega
            case measure => simp [intOf]; omega
          · have SU : Hid (LSt w len L wr) := H.out.1
            obtain ⟨X, hX⟩ : ∃ X, setL wr w.heap.size (k * 4) ⟨true, 4, 4⟩ ⟨none, 0, 0⟩ = X := ⟨_, rfl⟩
            have SX : Hid (LSt w len (L.set k ⟨true, 4, 4⟩) X) := by rw [← hX]; exact SU.out.put hlt ⟨true, 4, 4⟩ ⟨none, 0, 0⟩
            have hxz : X.heap.size = wr.heap.size := by rw [← hX]; unfold setL; simp only [World.size_setCell]
            have x0 : X.cell? ⟨w.heap.size, k * 4, none⟩ = some (.bool true) := by
              obtain ⟨_, q, _⟩ := SX.out.r.at hlt
              rw [q, Pl.getD_setL L k k _ hkL, if_pos rfl]
            have hxo : w.heap.size < X.heap.size := SX.out.r.2.1
            unfold setL at hX
            simp only at hX
            go_wp2_with (go_at_call 20; refine (l7Scalar_any _ _).mono ?_; rintro e uu ⟨rfl, ek⟩; rw [ek]; clear ek; rw [hsc])
            go_roundw
            case rel =>
              refine ⟨k + 1, L.set k ⟨true, 4, 4⟩, by omega, by go_num, .inl rfl, (SX.out.keep (below_alloc _ _)).keep (below_alloc _ _), Pl.right_set H.out.2.1 hkL HWX.out.1 ⟨⟨by decide, by decide⟩, by decide, by decide⟩ (by have := HWX.out.2; rw [show Pl.szK 8 = 4 from by decide] at this; exact this), fun _ => ?_, fun h => (by cases h)⟩
              have hd := Pl.nwh_set (x := ⟨true, 4, 4⟩) H.out.1.r.1 hlt HWH.out rfl
              have := H.out.2.2.1 (by trivial)
              omega
            case measure => simp [intOf]; omega
        by_cases h9 : kk = 9
        · subst h9
          obtain ⟨hz1, hn1, hn2⟩ := HSH.out.2.1 rfl
          have hvl1 : vl = 1 := by rw [← HZL.out]; exact hz1
          subst hvl1
          obtain ⟨b2, o2, rfl, _, hb2, hcp⟩ := (HRW.out.2.2.2.2).resolve_left (by omega)
          have hcw := hcp 0 (by omega)
          obtain ⟨z, hzz⟩ : ∃ z, z = zs.getD 0 0 := ⟨_, rfl⟩
          rw [← hzz] at hcw
          have hz0 : 0 ≤ z ∧ z < len := by rw [hzz]; exact HSH.out.1 0 (by omega)
          obtain ⟨j, rfl⟩ : ∃ j : Nat, z = j := ⟨z.toNat, by omega⟩
          have HJ : Hid (zs.getD 0 0 = (j : Int)) := hzz.symm
          have hjl : (j : Int) < (len : Int) := by omega
          have hcj : wr.cell? ⟨b2, o2, none⟩ = some (.int .i64 (j : Int)) := hcw
          obtain ⟨vj, j0, j1, j2, j3⟩ := H.out.1.r.at (i := j) (by omega)
          clear hzz hcp hcw hz0
          have htg : Pl.tagd 9 = false := by decide
          cases hwj : (L.getD j Pl.La.zero).whole
          · rw [hwj] at j0
            go_wp2_with (first | (go_at_call 20; refine (l7Scalar_any _ _).mono ?_; rintro e uu ⟨rfl, ek⟩; rw [ek]; clear ek; rw [hsc]) | (go_at_call 12; refine (l7Tagged_any _ _).mono ?_; rintro e uu ⟨rfl, ek⟩; rw [ek]; clear ek; rw [htg]))
            go_roundw
            case rel =>
              exact ⟨k + 1, L, by omega, by go_num, .inl rfl, H.out.1.keep (below_alloc _ _), H.out.2.1, fun _ => H.out.2.2.1 (by trivial), fun h => (by cases h)⟩
            case measure => simp [intOf]; omega
          · have HW2 := lays_ar HX.out (by omega) hz1 HJ.out H.out.2.1 hwj
            have hnb := (H.out.2.1 j hwj).2.1
            obtain ⟨y, hy⟩ : ∃ y, y = L.getD j Pl.La.zero := ⟨_, rfl⟩
            rw [← hy] at j0 j1 j2 hwj HW2 hnb
            obtain ⟨yw, ys, ya⟩ := y
            simp only at j0 j1 j2 hwj HW2 hnb
            subst hwj
            obtain ⟨⟨n1, n2⟩, n3, n4⟩ := hnb
            simp only at n1 n2 n3 n4
            have HWX : Hid ((∃ f, Pl.lays f xs k = true) ∧ Pl.Lay xs k (Pl.capn (ys * nn)) ya) := HW2
            clear HW2 hy
            have hmul : 0 ≤ ys * nn ∧ ys * nn ≤ 3600060000 := ⟨Int.mul_nonneg n1 (by omega), Int.le_trans (Int.mul_le_mul n2 hn2 (by omega) (by omega)) (by decide)⟩
            obtain ⟨hmu1, hmu2⟩ := hmul
            have hwr : IntKind.i64.wrap (ys * nn) = ys * nn := by rw [IntKind.wrap_i64]; omega
            have hwr2 : wrap64 (ys * nn) = ys * nn := by unfold wrap64; omega
            obtain ⟨cc, hcc⟩ : ∃ cc, Pl.capn (ys * nn) = cc := ⟨_, rfl⟩
            have hcb : 0 ≤ cc ∧ cc ≤ 60001 := by rw [← hcc]; exact Pl.capn_bdd hmu1
            rw [hcc] at HWX
            have SU : Hid (LSt w len L wr) := H.out.1
            obtain ⟨X, hX⟩ : ∃ X, setL wr w.heap.size (k * 4) ⟨true, cc, ya⟩ ⟨none, 0, 0⟩ = X := ⟨_, rfl⟩
            have SX : Hid (LSt w len (L.set k ⟨true, cc, ya⟩) X) := by rw [← hX]; exact SU.out.put hlt ⟨true, cc, ya⟩ ⟨none, 0, 0⟩
            have hxz : X.heap.size = wr.heap.size := by rw [← hX]; unfold setL; simp only [World.size_setCell]
            have x0 : X.cell? ⟨w.heap.size, k * 4, none⟩ = some (.bool true) := by
              obtain ⟨_, q, _⟩ := SX.out.r.at hlt
              rw [q, Pl.getD_setL L k k _ hkL, if_pos rfl]
            have hxo : w.heap.size < X.heap.size := SX.out.r.2.1
            unfold setL at hX
            simp only at hX
            go_wp2_with (go_at_call 20; refine (l7Scalar_any _ _).mono ?_; rintro e uu ⟨rfl, ek⟩; rw [ek]; clear ek; rw [hsc])
            go_region_with (go_at_call 21; refine (l7Cap_any _ _).mono ?_; rintro e uu ⟨rfl, ek⟩; rw [ek]; clear ek; first | rw [hcc] | (rw [hwr, hcc]) | (rw [hwr2, hcc]))
            all_goals go_wp2_with fail
            all_goals
              go_roundw
              case rel =>
                refine ⟨k + 1, L.set k ⟨true, cc, ya⟩, by omega, by go_num, .inl rfl, ((SX.out.keep (below_alloc _ _)).keep (below_alloc _ _)).keep (Below.drew (Below.refl _ _)), Pl.right_set H.out.2.1 hkL HWX.out.1 ⟨hcb, n3, n4⟩ HWX.out.2, fun _ => ?_, fun h => (by cases h)⟩
                have hd := Pl.nwh_set (x := ⟨true, cc, ya⟩) H.out.1.r.1 hlt HWH.out rfl
                have := H.out.2.2.1 (by trivial)
                omega
              case measure => simp [intOf]; omega
        cases htg : Pl.tagd kk
        · go_wp2_with (first | (go_at_call 20; refine (l7Scalar_any _ _).mono ?_; rintro e uu ⟨rfl, ek⟩; rw [ek]; clear ek; rw [hsc]) | (go_at_call 12; refine (l7Tagged_any _ _).mono ?_; rintro e uu ⟨rfl, ek⟩; rw [ek]; clear ek; rw [htg]))
          go_roundw
          case rel =>
            exact ⟨k + 1, L, by omega, by go_num, .inl rfl, H.out.1.keep (below_alloc _ _), H.out.2.1, fun _ => H.out.2.2.1 (by trivial), fun h => (by cases h)⟩
          case measure => simp [intOf]; omega
        · by_cases hz : (0 : Int) < (vl : Int)
          rotate_left
          · go_wp2_with (first | (go_at_call 20; refine (l7Scalar_any _ _).mono ?_; rintro e uu ⟨rfl, ek⟩; rw [ek]; clear ek; rw [hsc]) | (go_at_call 12; refine (l7Tagged_any _ _).mono ?_; rintro e uu ⟨rfl, ek⟩; rw [ek]; clear ek; rw [htg]))
            go_roundw
            case rel =>
              exact ⟨k + 1, L, by omega, by go_num, .inl rfl, H.out.1.keep (below_alloc _ _), H.out.2.1, fun _ => H.out.2.2.1 (by trivial), fun h => (by cases h)⟩
            case measure => simp [intOf]; omega
          go_wp2_with (first | (go_at_call 20; refine (l7Scalar_any _ _).mono ?_; rintro e uu ⟨rfl, ek⟩; rw [ek]; clear ek; rw [hsc]) | (go_at_call 12; refine (l7Tagged_any _ _).mono ?_; rintro e uu ⟨rfl, ek⟩; rw [ek]; clear ek; rw [htg]))
          refine ty_at fun U1 hU1 => ?_
          have b1 : Below wr.heap.size wr U1 := by rw [hU1]; exact below_alloc _ _
          have t1 : U1.heap[wr.heap.size]? = some (.cells #[.int .i64 kk, .int .i64 nn, .slice va vl vc, .slice s.a s.len s.cap] 37) := by rw [hU1]; exact heap_alloc_new wr _
          have z1 : wr.heap.size < U1.heap.size := by rw [hU1]; simp
          clear hU1
          refine (l7All_any (lo := lo) kk nn ⟨va, vl, vc⟩ s zs L U1 (HRW.out.keep b1) (H.out.1.r.keep b1) hlen HSH.out.1).mono ?_
          rintro e u2 ⟨rfl, g2⟩
          have SU : Hid (LSt w len L u2) := (H.out.1.keep b1).keep g2
          have B2 : Hid (Below wr.heap.size wr u2) := b1.trans (g2.mono b1.size)
          have t2 : u2.heap[wr.heap.size]? = some (.cells #[.int .i64 kk, .int .i64 nn, .slice va vl vc, .slice s.a s.len s.cap] 37) := (g2.block _ z1).trans t1
          have z2 : wr.heap.size < u2.heap.size := Nat.lt_of_lt_of_le z1 g2.size
          clear g2 b1 t1 z1
          have T2 : ∀ j, u2.cell? ⟨wr.heap.size, j, none⟩ = (#[.int .i64 kk, .int .i64 nn, .slice va vl vc, .slice s.a s.len s.cap] : Array Value)[j]? := fun j => cell_of_row u2 _ j _ _ (0, 0) t2
          have k0 : u2.cell? ⟨wr.heap.size, 0, none⟩ = some (.int .i64 kk) := T2 0
          have k1 : u2.cell? ⟨wr.heap.size, 1, none⟩ = some (.int .i64 nn) := T2 1
          have k2 : u2.cell? ⟨wr.heap.size, 2, none⟩ = some (.slice va vl vc) := T2 2
          have k3 : u2.cell? ⟨wr.heap.size, 3, none⟩ = some (.slice s.a s.len s.cap) := T2 3
          clear T2 t2
          obtain ⟨vq2, p0, p1, p2, p3⟩ := SU.out.r.at hlt
          have fz2 := SU.out.f
          have hob2 : w.heap.size < u2.heap.size := SU.out.r.2.1
          by_cases hall : ∀ p, p < zs.length → (L.getD (zs.getD p 0).toNat Pl.La.zero).whole = true
          rotate_left
          · rw [decide_eq_false hall]
            rw [hwh] at p0
            go_wp2_with fail
            go_roundw
            case rel =>
              exact ⟨k + 1, L, by omega, by go_num, .inl rfl, SU.out, H.out.2.1, fun _ => H.out.2.2.1 (by trivial), fun h => (by cases h)⟩
            case measure => simp [intOf]; omega
          rw [decide_eq_true hall]
          have HW2 := lays_rc HX.out htg (by rw [HZL.out]; omega) H.out.2.1 hall
          have HNBP : Hid (∀ p, p < zs.length → (L.getD (zs.getD p 0).toNat Pl.La.zero).whole = true ∧ Pl.nb ((L.getD (zs.getD p 0).toNat Pl.La.zero).size, (L.getD (zs.getD p 0).toNat Pl.La.zero).align)) := fun p hp => ⟨hall p hp, (H.out.2.1 _ (hall p hp)).2.1⟩
          have HWX : Hid _ := HW2
          clear HW2 hall
          go_wp2_with fail
          refine (l7Fields_any (lo := lo) kk nn ⟨va, vl, vc⟩ s zs L u2 (HRW.out.keep B2.out) SU.out.r hlen HSH.out.2.2 HSH.out.1 HNBP.out).mono ?_
          rintro e u3 ⟨v9, rfl, g3⟩
          obtain ⟨fs, hfs⟩ : ∃ fs, fs = Pl.flds kk (fun p => ((L.getD (zs.getD p 0).toNat Pl.La.zero).size, (L.getD (zs.getD p 0).toNat Pl.La.zero).align)) zs.length := ⟨_, rfl⟩
          have hfn : Pl.nb fs := by rw [hfs]; exact Pl.flds_nb (fun p hp => (HNBP.out p hp).2)
          rw [← hfs] at HWX ⊢
          obtain ⟨f1, f2⟩ := fs
          simp only at HWX hfn ⊢
          have HFN : Hid (Pl.nb (f1, f2)) := hfn
          clear hfs hfn
          have SU3 : Hid (LSt w len L u3) := SU.out.keep g3
          clear g3 k0 k1 k2 k3 p0 p1 p2 p3 fz2 hob2 B2
          obtain ⟨vq3, p0, p1, p2, p3⟩ := SU3.out.r.at hlt
          have fz3 := SU3.out.f
          have hob3 : w.heap.size < u3.heap.size := SU3.out.r.2.1
          obtain ⟨X, hX⟩ : ∃ X, setL u3 w.heap.size (k * 4) ⟨true, f1, f2⟩ v9 = X := ⟨_, rfl⟩
          have SX : Hid (LSt w len (L.set k ⟨true, f1, f2⟩) X) := by rw [← hX]; exact SU3.out.put hlt ⟨true, f1, f2⟩ v9
          have hxz : X.heap.size = u3.heap.size := by rw [← hX]; unfold setL; simp only [World.size_setCell]
          have x0 : X.cell? ⟨w.heap.size, k * 4, none⟩ = some (.bool true) := by
            obtain ⟨_, q, _⟩ := SX.out.r.at hlt
            rw [q, Pl.getD_setL L k k _ hkL, if_pos rfl]
          have hxo : w.heap.size < X.heap.size := SX.out.r.2.1
          unfold setL at hX
          simp only at hX
          go_wp2_with fail
          go_roundw
          case rel =>
            refine ⟨k + 1, L.set k ⟨true, f1, f2⟩, by omega, by go_num, .inl rfl, SX.out, Pl.right_set H.out.2.1 hkL HWX.out.1 HFN.out HWX.out.2, fun _ => ?_, fun h => (by cases h)⟩
            have hd := Pl.nwh_set (x := ⟨true, f1, f2⟩) H.out.1.r.1 hlt HWH.out rfl
            have := H.out.2.2.1 (by trivial)
            omega
          case measure => simp [intOf]; omega
      · cases hwh : (L.getD k Pl.La.zero).whole
        rotate_left
        · rw [hwh] at q0
          go_wp2_with fail
          go_roundw
          case rel =>
            refine ⟨k + 1, L, by omega, by go_num, .inr rfl, H.out.1.keep (below_alloc _ _), H.out.2.1, fun h => (by cases h), fun _ => ⟨(H.out.2.2.2 (by trivial)).1, fun j hj => ?_⟩⟩
            by_cases e : j = k
            · rw [e, ← (H.out.2.2.2 (by trivial)).1]; intro hc; rw [hwh] at hc; cases hc
            · exact (H.out.2.2.2 (by trivial)).2 j (by omega)
          case measure => simp [intOf]; omega
        have HWH : Hid ((L.getD k Pl.La.zero).whole = false) := hwh
        rw [hwh] at q0
        cases hsc : Pl.scal kk
        rotate_left
        · have HW2 := lays_sc HX.out hsc
          have HWX : Hid ((∃ f, Pl.lays f xs k = true) ∧ Pl.Lay xs k (Pl.szK kk) (Pl.szK kk)) := HW2
          clear HW2
          have hk8 : 2 ≤ kk ∧ kk ≤ 8 := by simpa [Pl.scal] using hsc
          rcases (show kk = 2 ∨ kk = 3 ∨ kk = 4 ∨ kk = 5 ∨ kk = 6 ∨ kk = 7 ∨ kk = 8 by omega) with rfl | rfl | rfl | rfl | rfl | rfl | rfl
          · have SU : Hid (LSt w len L wr) := H.out.1
            obtain ⟨X, hX⟩ : ∃ X, setL wr w.heap.size (k * 4) ⟨true, 1, 1⟩ ⟨none, 0, 0⟩ = X := ⟨_, rfl⟩
            have SX : Hid (LSt w len (L.set k ⟨true, 1, 1⟩) X) := by rw [← hX]; exact SU.out.put hlt ⟨true, 1, 1⟩ ⟨none, 0, 0⟩
            have hxz : X.heap.size = wr.heap.size := by rw [← hX]; unfold setL; simp only [World.size_setCell]
            have x0 : X.cell? ⟨w.heap.size, k * 4, none⟩ = some (.bool true) := by
              obtain ⟨_, q, _⟩ := SX.out.r.at hlt
              rw [q, Pl.getD_setL L k k _ hkL, if_pos rfl]
            have hxo : w.heap.size < X.heap.size := SX.out.r.2.1
            unfold setL at hX
            simp only at hX
            go_wp2_with (go_at_call 20; refine (l7Scalar_any _ _).mono ?_; rintro e uu ⟨rfl, ek⟩; rw [ek]; clear ek; rw [hsc])
            go_roundw
            case rel =>
              refine ⟨k + 1, L.set k ⟨true, 1, 1⟩, by omega, by go_num, .inl rfl, (SX.out.keep (below_alloc _ _)).keep (below_alloc _ _), Pl.right_set H.out.2.1 hkL HWX.out.1 ⟨⟨by decide, by decide⟩, by decide, by decide⟩ (by have := HWX.out.2; rw [show Pl.szK 2 = 1 from by decide] at this; exact this), fun _ => ?_, fun h => (by cases h)⟩
              have hd := Pl.nwh_set (x := ⟨true, 1, 1⟩) H.out.1.r.1 hlt HWH.out rfl
              rw [← (H.out.2.2.2 (by trivial)).1]; exact hd
            case measure => simp [intOf]; omega
          · have SU : Hid (LSt w len L wr) := H.out.1
            obtain ⟨X, hX⟩ : ∃ X, setL wr w.heap.size (k * 4) ⟨true, 1, 1⟩ ⟨none, 0, 0⟩ = X := ⟨_, rfl⟩
            have SX : Hid (LSt w len (L.set k ⟨true, 1, 1⟩) X) := by rw [← hX]; exact SU.out.put hlt ⟨true, 1, 1⟩ ⟨none, 0, 0⟩
            have hxz : X.heap.size = wr.heap.size := by rw [← hX]; unfold setL; simp only [World.size_setCell]
            have x0 : X.cell? ⟨w.heap.size, k * 4, none⟩ = some (.bool true) := by
              obtain ⟨_, q, _⟩ := SX.out.r.at hlt
              rw [q, Pl.getD_setL L k k _ hkL, if_pos rfl]
            have hxo : w.heap.size < X.heap.size := SX.out.r.2.1
            unfold setL at hX
            simp only at hX
            go_wp2_with (go_at_call 20; refine (l7Scalar_any _ _).mono ?_; rintro e uu ⟨rfl, ek⟩; rw [ek]; clear ek; rw [hsc])
            go_roundw
            case rel =>
              refine ⟨k + 1, L.set k ⟨true, 1, 1⟩, by omega, by go_num, .inl rfl, (SX.out.keep (below_alloc _ _)).keep (below_alloc _ _), Pl.right_set H.out.2.1 hkL HWX.out.1 ⟨⟨by decide, by decide⟩, by decide, by decide⟩ (by have := HWX.out.2; rw [show Pl.szK 3 = 1 from by decide] at this; exact this), fun _ => ?_, fun h => (by cases h)⟩
              have hd := Pl.nwh_set (x := ⟨true, 1, 1⟩) H.out.1.r.1 hlt HWH.out rfl
              rw [← (H.out.2.2.2 (by trivial)).1]; exact hd
            case measure => simp [intOf]; omega
          · have SU : Hid (LSt w len L wr) := H.out.1
            obtain ⟨X, hX⟩ : ∃ X, setL wr w.heap.size (k * 4) ⟨true, 2, 2⟩ ⟨none, 0, 0⟩ = X := ⟨_, rfl⟩
            have SX : Hid (LSt w len (L.set k ⟨true, 2, 2⟩) X) := by rw [← hX]; exact SU.out.put hlt ⟨true, 2, 2⟩ ⟨none, 0, 0⟩
            have hxz : X.heap.size = wr.heap.size := by rw [← hX]; unfold setL; simp only [World.size_setCell]
            have x0 : X.cell? ⟨w.heap.size, k * 4, none⟩ = some (.bool true) := by
              obtain ⟨_, q, _⟩ := SX.out.r.at hlt
              rw [q, Pl.getD_setL L k k _ hkL, if_pos rfl]
            have hxo : w.heap.size < X.heap.size := SX.out.r.2.1
            unfold setL at hX
            simp only at hX
            go_wp2_with (go_at_call 20; refine (l7Scalar_any _ _).mono ?_; rintro e uu ⟨rfl, ek⟩; rw [ek]; clear ek; rw [hsc])
            go_roundw
            case rel =>
              refine ⟨k + 1, L.set k ⟨true, 2, 2⟩, by omega, by go_num, .inl rfl, (SX.out.keep (below_alloc _ _)).keep (below_alloc _ _), Pl.right_set H.out.2.1 hkL HWX.out.1 ⟨⟨by decide, by decide⟩, by decide, by decide⟩ (by have := HWX.out.2; rw [show Pl.szK 4 = 2 from by decide] at this; exact this), fun _ => ?_, fun h => (by cases h)⟩
              have hd := Pl.nwh_set (x := ⟨true, 2, 2⟩) H.out.1.r.1 hlt HWH.out rfl
              rw [← (H.out.2.2.2 (by trivial)).1]; exact hd
            case measure => simp [intOf]; omega
          · have SU : Hid (LSt w len L wr) := H.out.1
            obtain ⟨X, hX⟩ : ∃ X, setL wr w.heap.size (k * 4) ⟨true, 2, 2⟩ ⟨none, 0, 0⟩ = X := ⟨_, rfl⟩
            have SX : Hid (LSt w len (L.set k ⟨true, 2, 2⟩) X) := by rw [← hX]; exact SU.out.put hlt ⟨true, 2, 2⟩ ⟨none, 0, 0⟩
            have hxz : X.heap.size = wr.heap.size := by rw [← hX]; unfold setL; simp only [World.size_setCell]
            have x0 : X.cell? ⟨w.heap.size, k * 4, none⟩ = some (.bool true) := by
              obtain ⟨_, q, _⟩ := SX.out.r.at hlt
              rw [q, Pl.getD_setL L k k _ hkL, if_pos rfl]
            have hxo : w.heap.size < X.heap.size := SX.out.r.2.1
            unfold setL at hX
            simp only at hX
            go_wp2_with (go_at_call 20; refine (l7Scalar_any _ _).mono ?_; rintro e uu ⟨rfl, ek⟩; rw [ek]; clear ek; rw [hsc])
            go_roundw
            case rel =>
              refine ⟨k + 1, L.set k ⟨true, 2, 2⟩, by omega, by go_num, .inl rfl, (SX.out.keep (below_alloc _ _)).keep (below_alloc _ _), Pl.right_set H.out.2.1 hkL HWX.out.1 ⟨⟨by decide, by decide⟩, by decide, by decide⟩ (by have := HWX.out.2; rw [show Pl.szK 5 = 2 from by decide] at this; exact this), fun _ => ?_, fun h => (by cases h)⟩
              have hd := Pl.nwh_set (x := ⟨true, 2, 2⟩) H.out.1.r.1 hlt HWH.out rfl
              rw [← (H.out.2.2.2 (by trivial)).1]; exact hd
            case measure => simp [intOf]; omega
          · have SU : Hid (LSt w len L wr) := H.out.1
            obtain ⟨X, hX⟩ : ∃ X, setL wr w.heap.size (k * 4) ⟨true, 4, 4⟩ ⟨none, 0, 0⟩ = X := ⟨_, rfl⟩
            have SX : Hid (LSt w len (L.set k ⟨true, 4, 4⟩) X) := by rw [← hX]; exact SU.out.put hlt ⟨true, 4, 4⟩ ⟨none, 0, 0⟩
            have hxz : X.heap.size = wr.heap.size := by rw [← hX]; unfold setL; simp only [World.size_setCell]
            have x0 : X.cell? ⟨w.heap.size, k * 4, none⟩ = some (.bool true) := by
              obtain ⟨_, q, _⟩ := SX.out.r.at hlt
              rw [q, Pl.getD_setL L k k _ hkL, if_pos rfl]
            have hxo : w.heap.size < X.heap.size := SX.out.r.2.1
            unfold setL at hX
            simp only at hX
            go_wp2_with (go_at_call 20; refine (l7Scalar_any _ _).mono ?_; rintro e uu ⟨rfl, ek⟩; rw [ek]; clear ek; rw [hsc])
            go_roundw
            case rel =>
              refine ⟨k + 1, L.set k ⟨true, 4, 4⟩, by omega, by go_num, .inl rfl, (SX.out.keep (below_alloc _ _)).keep (below_alloc _ _), Pl.right_set H.out.2.1 hkL HWX.out.1 ⟨⟨by decide, by decide⟩, by decide, by decide⟩ (by have := HWX.out.2; rw [show Pl.szK 6 = 4 from by decide] at this; exact this), fun _ => ?_, fun h => (by cases h)⟩
              have hd := Pl.nwh_set (x := ⟨true, 4, 4⟩) H.out.1.r.1 hlt HWH.out rfl
              rw [← (H.out.2.2.2 (by trivial)).1]; exact hd
            case measure => simp [intOf]; omega
          · have SU : Hid (LSt w len L wr) := H.out.1
            obtain ⟨X, hX⟩ : ∃ X, setL wr w.heap.size (k * 4) ⟨true, 4, 4⟩ ⟨none, 0, 0⟩ = X := ⟨_, rfl⟩
            have SX : Hid (LSt w len (L.set k ⟨true, 4, 4⟩) X) := by rw [← hX]; exact SU.out.put hlt ⟨true, 4, 4⟩ ⟨none, 0, 0⟩
            have hxz : X.heap.size = wr.heap.size := by rw [← hX]; unfold setL; simp only [World.size_setCell]
            have x0 : X.cell? ⟨w.heap.size, k * 4, none⟩ = some (.bool true) := by
              obtain ⟨_, q, _⟩ := SX.out.r.at hlt
              rw [q, Pl.getD_setL L k k _ hkL, if_pos rfl]
            have hxo : w.heap.size < X.heap.size := SX.out.r.2.1
            unfold setL at hX
            simp only at hX
            go_wp2_with (go_at_call 20; refine (l7Scalar_any _ _).mono ?_; rintro e uu ⟨rfl, ek⟩; rw [ek]; clear ek; rw [hsc])
            go_roundw
            case rel =>
              refine ⟨k + 1, L.set k ⟨true, 4, 4⟩, by omega, by go_num, .inl rfl, (SX.out.keep (below_alloc _ _)).keep (below_alloc _ _), Pl.right_set H.out.2.1 hkL HWX.out.1 ⟨⟨by decide, by decide⟩, by decide, by decide⟩ (by have := HWX.out.2; rw [show Pl.szK 7 = 4 from by decide] at this; exact this), fun _ => ?_, fun h => (by cases h)⟩
              have hd := Pl.nwh_set (x := ⟨true, 4, 4⟩) H.out.1.r.1 hlt HWH.out rfl
              rw [← (H.out.2.2.2 (by trivial)).1]; exact hd
            case measure => simp [intOf]; omega
          · have SU : Hid (LSt w len L wr) := H.out.1
            obtain ⟨X, hX⟩ : ∃ X, setL wr w.heap.size (k * 4) ⟨true, 4, 4⟩ ⟨none, 0, 0⟩ = X := ⟨_, rfl⟩
            have SX : Hid (LSt w len (L.set k ⟨true, 4, 4⟩) X) := by rw [← hX]; exact SU.out.put hlt ⟨true, 4, 4⟩ ⟨none, 0, 0⟩
            have hxz : X.heap.size = wr.heap.size := by rw [← hX]; unfold setL; simp only [World.size_setCell]
            have x0 : X.cell? ⟨w.heap.size, k * 4, none⟩ = some (.bool true) := by
              obtain ⟨_, q, _⟩ := SX.out.r.at hlt
              rw [q, Pl.getD_setL L k k _ hkL, if_pos rfl]
            have hxo : w.heap.size < X.heap.size := SX.out.r.2.1
            unfold setL at hX
            simp only at hX
            go_wp2_with (go_at_call 20; refine (l7Scalar_any _ _).mono ?_; rintro e uu ⟨rfl, ek⟩; rw [ek]; clear ek; rw [hsc])
            go_roundw
            case rel =>
              refine ⟨k + 1, L.set k ⟨true, 4, 4⟩, by omega, by go_num, .inl rfl, (SX.out.keep (below_alloc _ _)).keep (below_alloc _ _), Pl.right_set H.out.2.1 hkL HWX.out.1 ⟨⟨by decide, by decide⟩, by decide, by decide⟩ (by have := HWX.out.2; rw [show Pl.szK 8 = 4 from by decide] at this; exact this), fun _ => ?_, fun h => (by cases h)⟩
              have hd := Pl.nwh_set (x := ⟨true, 4, 4⟩) H.out.1.r.1 hlt HWH.out rfl
              rw [← (H.out.2.2.2 (by trivial)).1]; exact hd
            case measure => simp [intOf]; omega
        by_cases h9 : kk = 9
        · subst h9
          obtain ⟨hz1, hn1, hn2⟩ := HSH.out.2.1 rfl
          have hvl1 : vl = 1 := by rw [← HZL.out]; exact hz1
          subst hvl1
          obtain ⟨b2, o2, rfl, _, hb2, hcp⟩ := (HRW.out.2.2.2.2).resolve_left (by omega)
          have hcw := hcp 0 (by omega)
          obtain ⟨z, hzz⟩ : ∃ z, z = zs.getD 0 0 := ⟨_, rfl⟩
          rw [← hzz] at hcw
          have hz0 : 0 ≤ z ∧ z < len := by rw [hzz]; exact HSH.out.1 0 (by omega)
          obtain ⟨j, rfl⟩ : ∃ j : Nat, z = j := ⟨z.toNat, by omega⟩
          have HJ : Hid (zs.getD 0 0 = (j : Int)) := hzz.symm
          have hjl : (j : Int) < (len : Int) := by omega
          have hcj : wr.cell? ⟨b2, o2, none⟩ = some (.int .i64 (j : Int)) := hcw
          obtain ⟨vj, j0, j1, j2, j3⟩ := H.out.1.r.at (i := j) (by omega)
          clear hzz hcp hcw hz0
          have htg : Pl.tagd 9 = false := by decide
          cases hwj : (L.getD j Pl.La.zero).whole
          · rw [hwj] at j0
            go_wp2_with (first | (go_at_call 20; refine (l7Scalar_any _ _).mono ?_; rintro e uu ⟨rfl, ek⟩; rw [ek]; clear ek; rw [hsc]) | (go_at_call 12; refine (l7Tagged_any _ _).mono ?_; rintro e uu ⟨rfl, ek⟩; rw [ek]; clear ek; rw [htg]))
            go_roundw
            case rel =>
              refine ⟨k + 1, L, by omega, by go_num, .inr rfl, H.out.1.keep (below_alloc _ _), H.out.2.1, fun h => (by cases h), fun _ => ⟨(H.out.2.2.2 (by trivial)).1, fun j hj => ?_⟩⟩
              by_cases e : j = k
              · rw [e, ← (H.out.2.2.2 (by trivial)).1]; exact fun _ => can_not9 HX.out rfl hz1 (by rw [HJ.out, Int.toNat_natCast]; exact hwj)
              · exact (H.out.2.2.2 (by trivial)).2 j (by omega)
            case measure => simp [intOf]; omega
          · have HW2 := lays_ar HX.out (by omega) hz1 HJ.out H.out.2.1 hwj
            have hnb := (H.out.2.1 j hwj).2.1
            obtain ⟨y, hy⟩ : ∃ y, y = L.getD j Pl.La.zero := ⟨_, rfl⟩
            rw [← hy] at j0 j1 j2 hwj HW2 hnb
            obtain ⟨yw, ys, ya⟩ := y
            simp only at j0 j1 j2 hwj HW2 hnb
            subst hwj
            obtain ⟨⟨n1, n2⟩, n3, n4⟩ := hnb
            simp only at n1 n2 n3 n4
            have HWX : Hid ((∃ f, Pl.lays f xs k = true) ∧ Pl.Lay xs k (Pl.capn (ys * nn)) ya) := HW2
            clear HW2 hy
            have hmul : 0 ≤ ys * nn ∧ ys * nn ≤ 3600060000 := ⟨Int.mul_nonneg n1 (by omega), Int.le_trans (Int.mul_le_mul n2 hn2 (by omega) (by omega)) (by decide)⟩
            obtain ⟨hmu1, hmu2⟩ := hmul
            have hwr : IntKind.i64.wrap (ys * nn) = ys * nn := by rw [IntKind.wrap_i64]; omega
            have hwr2 : wrap64 (ys * nn) = ys * nn := by unfold wrap64; omega
            obtain ⟨cc, hcc⟩ : ∃ cc, Pl.capn (ys * nn) = cc := ⟨_, rfl⟩
            have hcb : 0 ≤ cc ∧ cc ≤ 60001 := by rw [← hcc]; exact Pl.capn_bdd hmu1
            rw [hcc] at HWX
            have SU : Hid (LSt w len L wr) := H.out.1
            obtain ⟨X, hX⟩ : ∃ X, setL wr w.heap.size (k * 4) ⟨true, cc, ya⟩ ⟨none, 0, 0⟩ = X := ⟨_, rfl⟩
            have SX : Hid (LSt w len (L.set k ⟨true, cc, ya⟩) X) := by rw [← hX]; exact SU.out.put hlt ⟨true, cc, ya⟩ ⟨none, 0, 0⟩
            have hxz : X.heap.size = wr.heap.size := by rw [← hX]; unfold setL; simp only [World.size_setCell]
            have x0 : X.cell? ⟨w.heap.size, k * 4, none⟩ = some (.bool true) := by
              obtain ⟨_, q, _⟩ := SX.out.r.at hlt
              rw [q, Pl.getD_setL L k k _ hkL, if_pos rfl]
            have hxo : w.heap.size < X.heap.size := SX.out.r.2.1
            unfold setL at hX
            simp only at hX
            go_wp2_with (go_at_call 20; refine (l7Scalar_any _ _).mono ?_; rintro e uu ⟨rfl, ek⟩; rw [ek]; clear ek; rw [hsc])
            go_region_with (go_at_call 21; refine (l7Cap_any _ _).mono ?_; rintro e uu ⟨rfl, ek⟩; rw [ek]; clear ek; first | rw [hcc] | (rw [hwr, hcc]) | (rw [hwr2, hcc]))
            all_goals go_wp2_with fail
            all_goals
              go_roundw
              case rel =>
                refine ⟨k + 1, L.set k ⟨true, cc, ya⟩, by omega, by go_num, .inl rfl, ((SX.out.keep (below_alloc _ _)).keep (below_alloc _ _)).keep (Below.drew (Below.refl _ _)), Pl.right_set H.out.2.1 hkL HWX.out.1 ⟨hcb, n3, n4⟩ HWX.out.2, fun _ => ?_, fun h => (by cases h)⟩
                have hd := Pl.nwh_set (x := ⟨true, cc, ya⟩) H.out.1.r.1 hlt HWH.out rfl
                rw [← (H.out.2.2.2 (by trivial)).1]; exact hd
              case measure => simp [intOf]; omega
        cases htg : Pl.tagd kk
        · go_wp2_with (first | (go_at_call 20; refine (l7Scalar_any _ _).mono ?_; rintro e uu ⟨rfl, ek⟩; rw [ek]; clear ek; rw [hsc]) | (go_at_call 12; refine (l7Tagged_any _ _).mono ?_; rintro e uu ⟨rfl, ek⟩; rw [ek]; clear ek; rw [htg]))
          go_roundw
          case rel =>
            refine ⟨k + 1, L, by omega, by go_num, .inr rfl, H.out.1.keep (below_alloc _ _), H.out.2.1, fun h => (by cases h), fun _ => ⟨(H.out.2.2.2 (by trivial)).1, fun j hj => ?_⟩⟩
            by_cases e : j = k
            · rw [e, ← (H.out.2.2.2 (by trivial)).1]; exact fun _ => can_notO HX.out hsc h9 htg
            · exact (H.out.2.2.2 (by trivial)).2 j (by omega)
          case measure => simp [intOf]; omega
        · by_cases hz : (0 : Int) < (vl : Int)
          rotate_left
          · go_wp2_with (first | (go_at_call 20; refine (l7Scalar_any _ _).mono ?_; rintro e uu ⟨rfl, ek⟩; rw [ek]; clear ek; rw [hsc]) | (go_at_call 12; refine (l7Tagged_any _ _).mono ?_; rintro e uu ⟨rfl, ek⟩; rw [ek]; clear ek; rw [htg]))
            go_roundw
            case rel =>
              refine ⟨k + 1, L, by omega, by go_num, .inr rfl, H.out.1.keep (below_alloc _ _), H.out.2.1, fun h => (by cases h), fun _ => ⟨(H.out.2.2.2 (by trivial)).1, fun j hj => ?_⟩⟩
              by_cases e : j = k
              · rw [e, ← (H.out.2.2.2 (by trivial)).1]; exact fun _ => can_notT HX.out htg (.inl (by rw [HZL.out]; omega))
              · exact (H.out.2.2.2 (by trivial)).2 j (by omega)
            case measure => simp [intOf]; omega
          go_wp2_with (first | (go_at_call 20; refine (l7Scalar_any _ _).mono ?_; rintro e uu ⟨rfl, ek⟩; rw [ek]; clear ek; rw [hsc]) | (go_at_call 12; refine (l7Tagged_any _ _).mono ?_; rintro e uu ⟨rfl, ek⟩; rw [ek]; clear ek; rw [htg]))
          refine ty_at fun U1 hU1 => ?_
          have b1 : Below wr.heap.size wr U1 := by rw [hU1]; exact below_alloc _ _
          have t1 : U1.heap[wr.heap.size]? = some (.cells #[.int .i64 kk, .int .i64 nn, .slice va vl vc, .slice s.a s.len s.cap] 37) := by rw [hU1]; exact heap_alloc_new wr _
          have z1 : wr.heap.size < U1.heap.size := by rw [hU1]; simp
          clear hU1
          refine (l7All_any (lo := lo) kk nn ⟨va, vl, vc⟩ s zs L U1 (HRW.out.keep b1) (H.out.1.r.keep b1) hlen HSH.out.1).mono ?_
          rintro e u2 ⟨rfl, g2⟩
          have SU : Hid (LSt w len L u2) := (H.out.1.keep b1).keep g2
          have B2 : Hid (Below wr.heap.size wr u2) := b1.trans (g2.mono b1.size)
          have t2 : u2.heap[wr.heap.size]? = some (.cells #[.int .i64 kk, .int .i64 nn, .slice va vl vc, .slice s.a s.len s.cap] 37) := (g2.block _ z1).trans t1
          have z2 : wr.heap.size < u2.heap.size := Nat.lt_of_lt_of_le z1 g2.size
          clear g2 b1 t1 z1
          have T2 : ∀ j, u2.cell? ⟨wr.heap.size, j, none⟩ = (#[.int .i64 kk, .int .i64 nn, .slice va vl vc, .slice s.a s.len s.cap] : Array Value)[j]? := fun j => cell_of_row u2 _ j _ _ (0, 0) t2
          have k0 : u2.cell? ⟨wr.heap.size, 0, none⟩ = some (.int .i64 kk) := T2 0
          have k1 : u2.cell? ⟨wr.heap.size, 1, none⟩ = some (.int .i64 nn) := T2 1
          have k2 : u2.cell? ⟨wr.heap.size, 2, none⟩ = some (.slice va vl vc) := T2 2
          have k3 : u2.cell? ⟨wr.heap.size, 3, none⟩ = some (.slice s.a s.len s.cap) := T2 3
          clear T2 t2
          obtain ⟨vq2, p0, p1, p2, p3⟩ := SU.out.r.at hlt
          have fz2 := SU.out.f
          have hob2 : w.heap.size < u2.heap.size := SU.out.r.2.1
          by_cases hall : ∀ p, p < zs.length → (L.getD (zs.getD p 0).toNat Pl.La.zero).whole = true
          rotate_left
          · rw [decide_eq_false hall]
            rw [hwh] at p0
            go_wp2_with fail
            go_roundw
            case rel =>
              refine ⟨k + 1, L, by omega, by go_num, .inr rfl, SU.out, H.out.2.1, fun h => (by cases h), fun _ => ⟨(H.out.2.2.2 (by trivial)).1, fun j hj => ?_⟩⟩
              by_cases e : j = k
              · rw [e, ← (H.out.2.2.2 (by trivial)).1]; exact fun _ => can_notT HX.out htg (.inr hall)
              · exact (H.out.2.2.2 (by trivial)).2 j (by omega)
            case measure => simp [intOf]; omega
          rw [decide_eq_true hall]
          have HW2 := lays_rc HX.out htg (by rw [HZL.out]; omega) H.out.2.1 hall
          have HNBP : Hid (∀ p, p < zs.length → (L.getD (zs.getD p 0).toNat Pl.La.zero).whole = true ∧ Pl.nb ((L.getD (zs.getD p 0).toNat Pl.La.zero).size, (L.getD (zs.getD p 0).toNat Pl.La.zero).align)) := fun p hp => ⟨hall p hp, (H.out.2.1 _ (hall p hp)).2.1⟩
          have HWX : Hid _ := HW2
          clear HW2 hall
          go_wp2_with fail
          refine (l7Fields_any (lo := lo) kk nn ⟨va, vl, vc⟩ s zs L u2 (HRW.out.keep B2.out) SU.out.r hlen HSH.out.2.2 HSH.out.1 HNBP.out).mono ?_
          rintro e u3 ⟨v9, rfl, g3⟩
          obtain ⟨fs, hfs⟩ : ∃ fs, fs = Pl.flds kk (fun p => ((L.getD (zs.getD p 0).toNat Pl.La.zero).size, (L.getD (zs.getD p 0).toNat Pl.La.zero).align)) zs.length := ⟨_, rfl⟩
          have hfn : Pl.nb fs := by rw [hfs]; exact Pl.flds_nb (fun p hp => (HNBP.out p hp).2)
          rw [← hfs] at HWX ⊢
          obtain ⟨f1, f2⟩ := fs
          simp only at HWX hfn ⊢
          have HFN : Hid (Pl.nb (f1, f2)) := hfn
          clear hfs hfn
          have SU3 : Hid (LSt w len L u3) := SU.out.keep g3
          clear g3 k0 k1 k2 k3 p0 p1 p2 p3 fz2 hob2 B2
          obtain ⟨vq3, p0, p1, p2, p3⟩ := SU3.out.r.at hlt
          have fz3 := SU3.out.f
          have hob3 : w.heap.size < u3.heap.size := SU3.out.r.2.1
          obtain ⟨X, hX⟩ : ∃ X, setL u3 w.heap.size (k * 4) ⟨true, f1, f2⟩ v9 = X := ⟨_, rfl⟩
          have SX : Hid (LSt w len (L.set k ⟨true, f1, f2⟩) X) := by rw [← hX]; exact SU3.out.put hlt ⟨true, f1, f2⟩ v9
          have hxz : X.heap.size = u3.heap.size := by rw [← hX]; unfold setL; simp only [World.size_setCell]
          have x0 : X.cell? ⟨w.heap.size, k * 4, none⟩ = some (.bool true) := by
            obtain ⟨_, q, _⟩ := SX.out.r.at hlt
            rw [q, Pl.getD_setL L k k _ hkL, if_pos rfl]
          have hxo : w.heap.size < X.heap.size := SX.out.r.2.1
          unfold setL at hX
          simp only at hX
          go_wp2_with fail
          go_roundw
          case rel =>
            refine ⟨k + 1, L.set k ⟨true, f1, f2⟩, by omega, by go_num, .inl rfl, SX.out, Pl.right_set H.out.2.1 hkL HWX.out.1 HFN.out HWX.out.2, fun _ => ?_, fun h => (by cases h)⟩
            have hd := Pl.nwh_set (x := ⟨true, f1, f2⟩) H.out.1.r.1 hlt HWH.out rfl
            rw [← (H.out.2.2.2 (by trivial)).1]; exact hd
          case measure => simp [intOf]; omega
end Go.Proofs.YtafcnijfoejboaaDoor.W
