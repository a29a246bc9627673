import Derived.Test.YtafcnijfoejboaaGreatDoorV17
import Derived.Test.YtafcnijfoejboaaGreatDoorV18
set_option linter.unusedVariables false
set_option linter.unusedSimpArgs false
namespace Go.Proofs.YtafcnijfoejboaaGreatDoor.Pl
def SameIs (len : Nat) (xs : List Ty) (i j : Int) : Prop := W.TOk len xs ∧ (0 ≤ i ∧ i < len) ∧ (0 ≤ j ∧ j < len) ∧ kyP xs len i.toNat = kyP xs len j.toNat
end Go.Proofs.YtafcnijfoejboaaGreatDoor.Pl
namespace Go.Proofs.YtafcnijfoejboaaGreatDoor.W
open Go.RowKit
theorem within_iff {i : Int} {n : Nat} : Pl.within i 0 ((n : Int) - 1) = true ↔ 0 ≤ i ∧ i < n := by
  simp [Pl.within]
  omega
set_option maxHeartbeats 4000000 in
set_option maxRecDepth 8000 in
theorem implSameType {lo : Nat} (a : Option Addr) (len cap : Nat) (xs : List Pl.Ty) (i j : Int) (w : World) (hT : TRow lo w a len cap xs) (hE : Errs w) (hsm : ∀ i, i < len → ∀ j, j < (xs.getD i Pl.Ty.zero).names.length → ((xs.getD i Pl.Ty.zero).names.getD j ⟨#[]⟩).size ≤ 1048576) :
    Calls Tryz.prog 19 #[.slice a len cap, .int .i64 i, .int .i64 j] w fun e w' => e = .returned (.bool (Pl.dec (Pl.SameIs len xs i j))) ∧ Below w.heap.size w w' := by
  have hm : (len : Int) ≤ 9223372036854775807 := by have := hT.small; omega
  have HIM : Hid (Calls Tryz.prog 32 #[.slice a len cap] w fun e w'' => ∃ g, e = .returned (.pointer (some ⟨g, 0, none⟩)) ∧ StoreOf w a len cap xs g w'' ∧ Below w.heap.size w w'') := storeOf_any a len cap xs w hT hE hsm
  clear hT hE hsm
  go_enter Tryz.func19, Tryz.ntmps19
  go_wp2_with fail
  refine Calls.mono HIM.out ?_
  rintro e u1 ⟨g, rfl, hst, d1⟩
  have B1 : Hid (Below w.heap.size w u1) := d1
  clear d1
  rcases hst with ⟨hok, z, kv, rfl, hS⟩ | ⟨hno, hc⟩
  rotate_left
  · have HE : Hid (Pl.dec (Pl.SameIs len xs i j) = false) := Pl.dec_no (fun q => hno q.1)
    have HC : Hid (u1.cell? ⟨g, 0, none⟩ = some (.slice none 0 0)) := by
      show u1.cell? ⟨g, 0, none⟩ = _
      rw [cell_of_row u1 _ 0 _ _ _ hc]; rfl
    have hwn : Pl.within i 0 (((0 : Nat) : Int) - 1) = false := by
      rw [Bool.eq_false_iff]; intro q
      have := within_iff.1 q
      omega
    have HW : Hid (Pl.within i 0 (((0 : Nat) : Int) - 1) = false) := hwn
    clear hno hc hwn
    go_wp2_with (go_at_call 33; refine (has_any g none 0 0 (by decide) i _ HC.out).mono ?_; rintro e u2 ⟨rfl, eu⟩; rw [eu, HW.out]; clear eu)
    go_ret
    exact ⟨by rw [HE.out]; rfl, B1.out⟩
  have HS : Hid (TSt w z a len cap (lay0 len) (Pl.keys xs len) kv u1) := hS
  have HG : Hid (u1.cell? ⟨z + 2, 0, none⟩ = some (.slice a len cap)) := hS.cells.1
  have HOK : Hid (TOk len xs) := hok
  clear hS hok
  cases hin : Pl.within i 0 ((len : Int) - 1)
  · have HW : Hid (Pl.within i 0 ((len : Int) - 1) = false) := hin
    have HE : Hid (Pl.dec (Pl.SameIs len xs i j) = false) := Pl.dec_no (fun q => by rw [within_iff.2 q.2.1] at hin; cases hin)
    clear hin
    go_wp2_with (go_at_call 33; refine (has_any (z + 2) a len cap hm i _ HG.out).mono ?_; rintro e u2 ⟨rfl, eu⟩; rw [eu, HW.out]; clear eu)
    go_ret
    exact ⟨by rw [HE.out]; rfl, B1.out⟩
  have HWI : Hid (Pl.within i 0 ((len : Int) - 1) = true) := hin
  cases hjn : Pl.within j 0 ((len : Int) - 1)
  · have HW : Hid (Pl.within j 0 ((len : Int) - 1) = false) := hjn
    have HE : Hid (Pl.dec (Pl.SameIs len xs i j) = false) := Pl.dec_no (fun q => by rw [within_iff.2 q.2.2.1] at hjn; cases hjn)
    clear hin hjn
    go_wp2_with (go_at_call 33; refine (has_any (z + 2) a len cap hm _ _ HG.out).mono ?_; rintro e u2 ⟨rfl, eu⟩; rw [eu]; clear eu; first | rw [HWI.out] | rw [HW.out])
    go_ret
    exact ⟨by rw [HE.out]; rfl, B1.out⟩
  have HWJ : Hid (Pl.within j 0 ((len : Int) - 1) = true) := hjn
  have hi0 := within_iff.1 hin
  have hj0 := within_iff.1 hjn
  obtain ⟨i, rfl⟩ : ∃ k : Nat, i = k := ⟨i.toNat, by omega⟩
  obtain ⟨j, rfl⟩ : ∃ k : Nat, j = k := ⟨j.toNat, by omega⟩
  have HE : Hid (Pl.dec (Pl.SameIs len xs i j) = Pl.dec (Pl.kyP xs len i = Pl.kyP xs len j)) := by
    have : Pl.SameIs len xs i j ↔ Pl.kyP xs len i = Pl.kyP xs len j := ⟨fun q => by have := q.2.2.2; rw [Int.toNat_natCast, Int.toNat_natCast] at this; exact this, fun q => ⟨HOK.out, hi0, hj0, by rw [Int.toNat_natCast, Int.toNat_natCast]; exact q⟩⟩
    show Pl.dec _ = Pl.dec _
    rw [propext this]
  have HCL : Hid (Calls Tryz.prog 37 #[.pointer (some ⟨z + 2, 0, none⟩), .int .i64 i, .int .i64 j] u1 fun e u' => e = .returned (.bool (Pl.dec (Pl.kyP xs len i = Pl.kyP xs len j))) ∧ Below u1.heap.size u1 u') := same_any i j (by rw [Pl.keys_len]; omega) (by rw [Pl.keys_len]; omega) u1 HS.out
  clear hin hjn hi0 hj0
  go_wp2_with (first | (go_at_call 33; refine (has_any (z + 2) a len cap hm _ _ HG.out).mono ?_; rintro e u2 ⟨rfl, eu⟩; rw [eu]; clear eu; first | rw [HWI.out] | rw [HWJ.out]) | (go_at_call 37; refine HCL.out.mono ?_; rintro e u3 ⟨rfl, d3⟩; have D3 : Hid (Below u1.heap.size u1 u3) := d3; clear d3))
  go_ret
  exact ⟨by rw [HE.out]; rfl, B1.out.trans (D3.out.mono B1.out.size)⟩
theorem pst_start {w u : World} {xs : List Pl.Ty} {a : Option Addr} {len cap : Nat} (hb : Below w.heap.size w u) : PSt w xs (u.heap.size + 1) u.heap.size a len cap ((u.alloc (.cells (madeCells #[.int .u8 0] (len * len)) 5)).alloc (.cells #[.slice a len cap, .slice (some ⟨u.heap.size, 0, none⟩) (len * len) (len * len)] 70)) := by
  have hs := hb.size
  have e1 : (u.alloc (.cells (madeCells #[.int .u8 0] (len * len)) 5)).heap.size = u.heap.size + 1 := by simp
  have b1 := below_alloc u (.cells (madeCells #[.int .u8 0] (len * len)) 5)
  have b2 := below_alloc (u.alloc (.cells (madeCells #[.int .u8 0] (len * len)) 5)) (.cells #[.slice a len cap, .slice (some ⟨u.heap.size, 0, none⟩) (len * len) (len * len)] 70)
  have r1 := heap_alloc_new u (.cells (madeCells #[.int .u8 0] (len * len)) 5)
  have r2 := heap_alloc_new (u.alloc (.cells (madeCells #[.int .u8 0] (len * len)) 5)) (.cells #[.slice a len cap, .slice (some ⟨u.heap.size, 0, none⟩) (len * len) (len * len)] 70)
  rw [e1] at b2 r2
  have r3 := (b2.block u.heap.size (by omega)).trans r1
  refine ⟨(hb.trans (b1.mono hs)).trans (b2.mono (by omega)), by omega, hs, by omega, by simp, (by simp; omega), by rw [cell_of_row _ _ 0 _ _ (0, 0) r2]; rfl, by rw [cell_of_row _ _ 1 _ _ (0, 0) r2]; rfl, fun i j hi hj => ⟨0, .inl rfl, ?_, fun h => by omega, fun h => by omega⟩, fun i => frozen_of_row _ _ i _ _ r3⟩
  rw [cell_of_row _ _ _ _ _ (0, 0) r3]
  have hlt := Pl.idx_lt hi hj
  unfold madeCells
  rw [Array.getElem?_map, Array.getElem?_range, if_pos hlt]
  simp [Nat.mod_one]
set_option maxHeartbeats 4000000 in
set_option maxRecDepth 8000 in
theorem specSameType {lo : Nat} (a : Option Addr) (len cap : Nat) (xs : List Pl.Ty) (i j : Int) (w : World) (hT : TRow lo w a len cap xs) :
    Calls Tryz.prog 18 #[.slice a len cap, .int .i64 i, .int .i64 j] w fun e w' => e = .returned (.bool (Pl.dec (Pl.SameIs len xs i j))) ∧ Below w.heap.size w w' := by
  have hm : (len : Int) ≤ 9223372036854775807 := by have := hT.small; omega
  have HS : Hid (Calls Tryz.prog 15 #[.slice a len cap] w fun e w' => e = .returned (.bool (Pl.dec (TOk len xs))) ∧ Below w.heap.size w w') := specTypesOk a len cap xs w hT
  have HT : Hid (TRow lo w a len cap xs) := hT
  clear hT
  by_cases hok : TOk len xs
  rotate_left
  · have HD : Hid (Pl.dec (TOk len xs) = false ∧ Pl.dec (Pl.SameIs len xs i j) = false) := ⟨Pl.dec_no hok, Pl.dec_no (fun q => hok q.1)⟩
    clear hok
    go_enter Tryz.func18, Tryz.ntmps18
    go_wp2_with (go_at_call 15; refine HS.out.mono ?_; rintro e u1 ⟨rfl, d1⟩; rw [HD.out.1]; have D1 : Hid (Below w.heap.size w u1) := d1; clear d1)
    go_ret
    exact ⟨by rw [HD.out.2]; rfl, D1.out⟩
  have HY : Hid (Pl.dec (TOk len xs) = true ∧ TOk len xs) := ⟨Pl.dec_yes hok, hok⟩
  have hlen := hok.1
  clear hok
  by_cases hin : (0 ≤ i ∧ i < len) ∧ 0 ≤ j ∧ j < len
  rotate_left
  · have HN : Hid (Pl.dec (Pl.SameIs len xs i j) = false) := Pl.dec_no (fun q => hin ⟨q.2.1, q.2.2.1⟩)
    by_cases h0 : i < 0
    · clear hin
      go_enter Tryz.func18, Tryz.ntmps18
      go_wp2_with (go_at_call 15; refine HS.out.mono ?_; rintro e u1 ⟨rfl, d1⟩; rw [HY.out.1]; have D1 : Hid (Below w.heap.size w u1) := d1; clear d1)
      go_ret
      exact ⟨by rw [HN.out]; rfl, D1.out⟩
    by_cases h1 : (len : Int) ≤ i
    · clear hin
      go_enter Tryz.func18, Tryz.ntmps18
      go_wp2_with (go_at_call 15; refine HS.out.mono ?_; rintro e u1 ⟨rfl, d1⟩; rw [HY.out.1]; have D1 : Hid (Below w.heap.size w u1) := d1; clear d1)
      go_ret
      exact ⟨by rw [HN.out]; rfl, D1.out⟩
    by_cases h2 : j < 0
    · clear hin
      go_enter Tryz.func18, Tryz.ntmps18
      go_wp2_with (go_at_call 15; refine HS.out.mono ?_; rintro e u1 ⟨rfl, d1⟩; rw [HY.out.1]; have D1 : Hid (Below w.heap.size w u1) := d1; clear d1)
      go_ret
      exact ⟨by rw [HN.out]; rfl, D1.out⟩
    have h3 : (len : Int) ≤ j := by omega
    clear hin
    go_enter Tryz.func18, Tryz.ntmps18
    go_wp2_with (go_at_call 15; refine HS.out.mono ?_; rintro e u1 ⟨rfl, d1⟩; rw [HY.out.1]; have D1 : Hid (Below w.heap.size w u1) := d1; clear d1)
    go_ret
    exact ⟨by rw [HN.out]; rfl, D1.out⟩
  obtain ⟨hi0, hj0⟩ := hin
  obtain ⟨i, rfl⟩ : ∃ k : Nat, i = k := ⟨i.toNat, by omega⟩
  obtain ⟨j, rfl⟩ : ∃ k : Nat, j = k := ⟨j.toNat, by omega⟩
  have HE : Hid (Pl.dec (Pl.SameIs len xs i j) = Pl.dec (Pl.kyP xs len i = Pl.kyP xs len j)) := by
    have : Pl.SameIs len xs i j ↔ Pl.kyP xs len i = Pl.kyP xs len j := ⟨fun q => by have := q.2.2.2; rw [Int.toNat_natCast, Int.toNat_natCast] at this; exact this, fun q => ⟨HY.out.2, hi0, hj0, by rw [Int.toNat_natCast, Int.toNat_natCast]; exact q⟩⟩
    show Pl.dec _ = Pl.dec _
    rw [propext this]
  have hii : (i : Int) < (len : Int) := by omega
  have hjj : (j : Int) < (len : Int) := by omega
  have HIJ : Hid (i < len ∧ j < len) := ⟨by omega, by omega⟩
  have hmm : len * len ≤ 4000000 := Nat.le_trans (Nat.mul_le_mul hlen hlen) (by decide)
  have hmul : (len : Int) * (len : Int) = ((len * len : Nat) : Int) := by rw [Int.natCast_mul]
  have hw1 : IntKind.i64.wrap ((len : Int) * (len : Int)) = ((len * len : Nat) : Int) := by rw [hmul, IntKind.wrap_i64]; omega
  have hw3 : wrap64 ((len : Int) * (len : Int)) = ((len * len : Nat) : Int) := by rw [hmul]; unfold wrap64; omega
  obtain ⟨nn, hnn⟩ : ∃ nn, nn = len * len := ⟨_, rfl⟩
  have HNN : Hid (nn = len * len) := hnn
  rw [← hnn] at hmm hw1 hw3
  have hinfo : (Tryz.prog.info? 5).map (fun i => (i.zero, i.size, i.bytes)) = some (some (.int .u8 0), 1, 1) := Tryz.infou8
  obtain ⟨i0, hi5, hz0, hz1, hz2⟩ := info_parts hinfo
  have hmk : ∀ u : World, (Instr.makeSlice 22 (.int .i64 (nn : Int)) (.int .i64 (nn : Int))).run Tryz.prog u = .ok (.slice (some ⟨u.heap.size, 0, none⟩) nn nn) (u.alloc (.cells (madeCells #[.int .u8 0] nn) 5)) := fun u => by
    have := run_makeSlice u 22 5 i0 _ Tryz.underlying22 hi5 hz0 .i64 .i64 (nn : Int) (nn : Int) (by omega) (by omega) (by rw [hz1]; simp; omega) (by rw [hz2]; omega) (by omega)
    rw [hz1, Int.toNat_natCast, Nat.mul_one] at this
    exact this
  clear hi0 hj0 hmul hnn hinfo hi5 hz0 hz1 hz2
  go_enter Tryz.func18, Tryz.ntmps18
  go_wp2_with (go_at_call 15; refine HS.out.mono ?_; rintro e u1 ⟨rfl, d1⟩; rw [HY.out.1]; have D1 : Hid (Below w.heap.size w u1) := d1; clear d1)
  rw [HNN.out]
  refine (lsame_any HT.out HY.out.2 (Pl.dep xs i) i j _ HIJ.out.1 HIJ.out.2 (Nat.le_refl _) (pst_start D1.out)).mono ?_
  rintro e u5 ⟨rfl, hp5, _⟩
  have HB5 : Hid (Below w.heap.size w u5) := hp5.b
  clear hp5
  go_wp2_with fail
  go_ret
  exact ⟨by rw [HE.out]; rfl, HB5.out⟩
end Go.Proofs.YtafcnijfoejboaaGreatDoor.W
namespace Go.Proofs.YtafcnijfoejboaaGreatDoor.W
open Go.RowKit
theorem lay_same {len : Nat} {xs : List Pl.Ty} (hxl : xs.length = len) (hok : TOk len xs) : ∀ d i j, i < len → j < len → Pl.dep xs i ≤ d → Pl.kyP xs len i = Pl.kyP xs len j → ∀ s a, Pl.Lay xs i s a → Pl.Lay xs j s a := by
  intro d
  induction d with
  | zero =>
    intro i j hi hj hd hk s a hL
    by_cases e : i = j
    · rw [← e]; exact hL
    · have h := (key_same hxl hok hi hj e).1 hk
      unfold Pl.dep at hd
      rw [h.2.2.2.1] at hd
      simp at hd
  | succ d ih =>
    intro i j hi hj hd hk s a hL
    by_cases e : i = j
    · rw [← e]; exact hL
    obtain ⟨h1, h2, h3, h4, h5⟩ := (key_same hxl hok hi hj e).1 hk
    cases hL with
    | scal _ hs =>
      have := Pl.Lay.scal (xs := xs) j (by rw [← h1]; exact hs)
      rw [← h1] at this
      exact this
    | arr _ s a h9 hl =>
      have hlen := (arrs_of hxl hok i h9).2
      obtain ⟨z, e1, e2, e3⟩ := Pl.kid_of hxl (hok.2.1 i hi) h4 0 (by omega)
      obtain ⟨y, f1, f2, f3⟩ := Pl.kid_of hxl (hok.2.1 j hj) (by rw [← h1]; exact h4) 0 (by omega)
      have hk2 := h5 0 (by omega)
      rw [e1, f1, Int.toNat_natCast, Int.toNat_natCast] at hk2
      rw [e1, Int.toNat_natCast] at hl
      have hdz := Pl.dep_kid h4 e3
      have hy := ih z y e2 f2 (by omega) hk2 s a hl
      have := Pl.Lay.arr (xs := xs) j s a (by rw [← h1]; exact h9) (by rw [f1, Int.toNat_natCast]; exact hy)
      rw [← h2] at this
      exact this
    | rcd _ G ht hl hp => rw [h4] at ht; cases ht
theorem layP_same {len : Nat} {xs : List Pl.Ty} (hxl : xs.length = len) (hok : TOk len xs) {i j : Nat} (hi : i < len) (hj : j < len) (hk : Pl.kyP xs len i = Pl.kyP xs len j) : Pl.layP len xs i = Pl.layP len xs j := by
  by_cases h : ∃ p : Int × Int, Pl.Lay xs i p.1 p.2
  · obtain ⟨⟨s, a⟩, hp⟩ := h
    rw [Pl.layP_of hok hi hp, Pl.layP_of hok hj (lay_same hxl hok _ i j hi hj (Nat.le_refl _) hk s a hp)]
  · rw [Pl.layP_no (fun ⟨_, p, q⟩ => h ⟨p, by rw [Int.toNat_natCast] at q; exact q⟩), Pl.layP_no (fun ⟨_, p, q⟩ => h ⟨p, lay_same hxl hok _ j i hj hi (Nat.le_refl _) hk.symm p.1 p.2 (by rw [Int.toNat_natCast] at q; exact q)⟩)]
theorem same_sym {len : Nat} {xs : List Pl.Ty} {i j : Int} : Pl.SameIs len xs i j ↔ Pl.SameIs len xs j i := ⟨fun h => ⟨h.1, h.2.2.1, h.2.1, h.2.2.2.symm⟩, fun h => ⟨h.1, h.2.2.1, h.2.1, h.2.2.2.symm⟩⟩
theorem same_self {len : Nat} {xs : List Pl.Ty} {i : Int} : Pl.SameIs len xs i i ↔ TOk len xs ∧ 0 ≤ i ∧ i < len := ⟨fun h => ⟨h.1, h.2.1⟩, fun h => ⟨h.1, h.2, h.2, rfl⟩⟩
theorem same_lay {len : Nat} {xs : List Pl.Ty} (hxl : xs.length = len) {i j : Int} (h : Pl.SameIs len xs i j) : Pl.layP len xs i = Pl.layP len xs j := by
  obtain ⟨hok, hi, hj, hk⟩ := h
  have := layP_same hxl hok (i := i.toNat) (j := j.toNat) (by omega) (by omega) hk
  rw [Int.toNat_of_nonneg hi.1, Int.toNat_of_nonneg hj.1] at this
  exact this
end Go.Proofs.YtafcnijfoejboaaGreatDoor.W
