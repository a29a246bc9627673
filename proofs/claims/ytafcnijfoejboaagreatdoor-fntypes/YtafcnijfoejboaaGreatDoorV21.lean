import Derived.Test.YtafcnijfoejboaaGreatDoorV16
set_option linter.unusedVariables false
set_option linter.unusedSimpArgs false
namespace Go.Proofs.YtafcnijfoejboaaGreatDoor.W
open Go.RowKit
theorem layP_spec {len : Nat} {xs : List Pl.Ty} {L : List Pl.La} (hxl : xs.length = len) (hok : TOk len xs) (hl : L.length = len) (hr : Pl.right xs L) (hd : ∀ i, i < len → (L.getD i Pl.La.zero).whole = false → ¬ Pl.can xs L i) {j : Nat} (hj : j < len) : Pl.layP len xs j = ((L.getD j Pl.La.zero).size, (L.getD j Pl.La.zero).align) := by
  cases hw : (L.getD j Pl.La.zero).whole
  · rw [hr.2.1 j hw]
    refine Pl.layP_no (fun ⟨_, p, q⟩ => ?_)
    rw [Int.toNat_natCast] at q
    obtain ⟨f, hf⟩ := q.lays (fun i h9 => (arrs_of hxl hok i h9).1.1) (fun i h9 => (arrs_of hxl hok i h9).2)
    have := Pl.can_done hl hxl hd f j hf
    rw [hw] at this; cases this
  · exact Pl.layP_of hok hj (hr.1 j hw).2.2
set_option maxHeartbeats 4000000 in
set_option maxRecDepth 8000 in
theorem specSizeOf {lo : Nat} (a : Option Addr) (len cap : Nat) (xs : List Pl.Ty) (i : Int) (w : World) (hT : TRow lo w a len cap xs) :
    Calls Tryz.prog 12 #[.slice a len cap, .int .i64 i] w fun e w' => e = .returned (.int .i64 (Pl.layP len xs i).1) ∧ Below w.heap.size w w' := by
  have hm : (len : Int) ≤ 9223372036854775807 := by have := hT.small; omega
  have HXL : Hid (xs.length = len) := hT.1
  have HS : Hid (Calls Tryz.prog 15 #[.slice a len cap] w fun e w' => e = .returned (.bool (Pl.dec (TOk len xs))) ∧ Below w.heap.size w w') := specTypesOk a len cap xs w hT
  have HT : Hid (TRow lo w a len cap xs) := hT
  clear hT
  by_cases hok : TOk len xs
  rotate_left
  · have HN : Hid (Pl.dec (TOk len xs) = false ∧ Pl.layP len xs i = (0, 0)) := ⟨Pl.dec_no hok, Pl.layP_no (fun q => hok q.1.1)⟩
    clear hok
    go_enter Tryz.func12, Tryz.ntmps12
    go_wp2_with (go_at_call 15; refine HS.out.mono ?_; rintro e u1 ⟨rfl, d1⟩; rw [HN.out.1]; have D1 : Hid (Below w.heap.size w u1) := d1; clear d1)
    go_ret
    exact ⟨by rw [HN.out.2]; rfl, D1.out⟩
  have HY : Hid (Pl.dec (TOk len xs) = true ∧ TOk len xs) := ⟨Pl.dec_yes hok, hok⟩
  clear hok
  by_cases hi : 0 ≤ i ∧ i < len
  rotate_left
  · have HN : Hid (Pl.layP len xs i = (0, 0)) := Pl.layP_no (fun q => hi q.1.2)
    by_cases h0 : i < 0
    · clear hi
      go_enter Tryz.func12, Tryz.ntmps12
      go_wp2_with (go_at_call 15; refine HS.out.mono ?_; rintro e u1 ⟨rfl, d1⟩; rw [HY.out.1]; have D1 : Hid (Below w.heap.size w u1) := d1; clear d1)
      go_ret
      exact ⟨by rw [HN.out]; rfl, D1.out⟩
    · have h1 : (len : Int) ≤ i := by omega
      clear hi
      go_enter Tryz.func12, Tryz.ntmps12
      go_wp2_with (go_at_call 15; refine HS.out.mono ?_; rintro e u1 ⟨rfl, d1⟩; rw [HY.out.1]; have D1 : Hid (Below w.heap.size w u1) := d1; clear d1)
      go_ret
      exact ⟨by rw [HN.out]; rfl, D1.out⟩
  obtain ⟨j, rfl⟩ : ∃ j : Nat, i = j := ⟨i.toNat, by omega⟩
  have hj : j < len := by omega
  have hjj : (j : Int) < (len : Int) := by omega
  clear hi
  go_enter Tryz.func12, Tryz.ntmps12
  go_wp2_with (go_at_call 15; refine HS.out.mono ?_; rintro e u1 ⟨rfl, d1⟩; rw [HY.out.1]; have D1 : Hid (Below w.heap.size w u1) := d1; clear d1)
  refine (l7Lay_any a len cap xs _ (HT.out.keep D1.out) HY.out.2.1 (Pl.form_shp HXL.out ((Pl.fits_iff HXL.out HY.out.2.2.2).1 HY.out.2.2.1))).mono ?_
  rintro e u2 ⟨rfl, L, hS, hR, hD⟩
  have HV : Hid (Pl.layP len xs j = ((L.getD j Pl.La.zero).size, (L.getD j Pl.La.zero).align)) := layP_spec HXL.out HY.out.2 hS.r.1 hR hD hj
  obtain ⟨v, _, q1, q2, _⟩ := hS.r.at hj
  obtain ⟨zz, hzz⟩ : ∃ zz, zz = u1.heap.size := ⟨_, rfl⟩
  have HB : Hid (Below w.heap.size w u2) := D1.out.trans (hS.b.mono D1.out.size)
  rw [← hzz] at q1 q2 ⊢
  clear hS hR hD hzz
  go_wp2_with fail
  go_ret
  exact ⟨by rw [HV.out]; rfl, HB.out⟩
set_option maxHeartbeats 4000000 in
set_option maxRecDepth 8000 in
theorem specAlignOf {lo : Nat} (a : Option Addr) (len cap : Nat) (xs : List Pl.Ty) (i : Int) (w : World) (hT : TRow lo w a len cap xs) :
    Calls Tryz.prog 13 #[.slice a len cap, .int .i64 i] w fun e w' => e = .returned (.int .i64 (Pl.layP len xs i).2) ∧ Below w.heap.size w w' := by
  have hm : (len : Int) ≤ 9223372036854775807 := by have := hT.small; omega
  have HXL : Hid (xs.length = len) := hT.1
  have HS : Hid (Calls Tryz.prog 15 #[.slice a len cap] w fun e w' => e = .returned (.bool (Pl.dec (TOk len xs))) ∧ Below w.heap.size w w') := specTypesOk a len cap xs w hT
  have HT : Hid (TRow lo w a len cap xs) := hT
  clear hT
  by_cases hok : TOk len xs
  rotate_left
  · have HN : Hid (Pl.dec (TOk len xs) = false ∧ Pl.layP len xs i = (0, 0)) := ⟨Pl.dec_no hok, Pl.layP_no (fun q => hok q.1.1)⟩
    clear hok
    go_enter Tryz.func13, Tryz.ntmps13
    go_wp2_with (go_at_call 15; refine HS.out.mono ?_; rintro e u1 ⟨rfl, d1⟩; rw [HN.out.1]; have D1 : Hid (Below w.heap.size w u1) := d1; clear d1)
    go_ret
    exact ⟨by rw [HN.out.2]; rfl, D1.out⟩
  have HY : Hid (Pl.dec (TOk len xs) = true ∧ TOk len xs) := ⟨Pl.dec_yes hok, hok⟩
  clear hok
  by_cases hi : 0 ≤ i ∧ i < len
  rotate_left
  · have HN : Hid (Pl.layP len xs i = (0, 0)) := Pl.layP_no (fun q => hi q.1.2)
    by_cases h0 : i < 0
    · clear hi
      go_enter Tryz.func13, Tryz.ntmps13
      go_wp2_with (go_at_call 15; refine HS.out.mono ?_; rintro e u1 ⟨rfl, d1⟩; rw [HY.out.1]; have D1 : Hid (Below w.heap.size w u1) := d1; clear d1)
      go_ret
      exact ⟨by rw [HN.out]; rfl, D1.out⟩
    · have h1 : (len : Int) ≤ i := by omega
      clear hi
      go_enter Tryz.func13, Tryz.ntmps13
      go_wp2_with (go_at_call 15; refine HS.out.mono ?_; rintro e u1 ⟨rfl, d1⟩; rw [HY.out.1]; have D1 : Hid (Below w.heap.size w u1) := d1; clear d1)
      go_ret
      exact ⟨by rw [HN.out]; rfl, D1.out⟩
  obtain ⟨j, rfl⟩ : ∃ j : Nat, i = j := ⟨i.toNat, by omega⟩
  have hj : j < len := by omega
  have hjj : (j : Int) < (len : Int) := by omega
  clear hi
  go_enter Tryz.func13, Tryz.ntmps13
  go_wp2_with (go_at_call 15; refine HS.out.mono ?_; rintro e u1 ⟨rfl, d1⟩; rw [HY.out.1]; have D1 : Hid (Below w.heap.size w u1) := d1; clear d1)
  refine (l7Lay_any a len cap xs _ (HT.out.keep D1.out) HY.out.2.1 (Pl.form_shp HXL.out ((Pl.fits_iff HXL.out HY.out.2.2.2).1 HY.out.2.2.1))).mono ?_
  rintro e u2 ⟨rfl, L, hS, hR, hD⟩
  have HV : Hid (Pl.layP len xs j = ((L.getD j Pl.La.zero).size, (L.getD j Pl.La.zero).align)) := layP_spec HXL.out HY.out.2 hS.r.1 hR hD hj
  obtain ⟨v, _, q1, q2, _⟩ := hS.r.at hj
  obtain ⟨zz, hzz⟩ : ∃ zz, zz = u1.heap.size := ⟨_, rfl⟩
  have HB : Hid (Below w.heap.size w u2) := D1.out.trans (hS.b.mono D1.out.size)
  rw [← hzz] at q1 q2 ⊢
  clear hS hR hD hzz
  go_wp2_with fail
  go_ret
  exact ⟨by rw [HV.out]; rfl, HB.out⟩
end Go.Proofs.YtafcnijfoejboaaGreatDoor.W
namespace Go.Proofs.YtafcnijfoejboaaGreatDoor.Pl
noncomputable def parts (len : Nat) (xs : List Ty) (j : Nat) (p : Nat) : Int × Int := layP len xs (ofAt xs j p)
def same (a b : ByteArray) : Bool := a.toList == b.toList
def FieldIs (len : Nat) (xs : List Ty) (i : Int) (nm : ByteArray) (o t : Int) (b : Bool) : Prop :=
  (b = true ∧ W.TOk len xs ∧ ∃ j p : Nat, i = j ∧ j < len ∧ p < (xs.getD j Ty.zero).names.length ∧ (∀ q, q < p → same ((xs.getD j Ty.zero).names.getD q ⟨#[]⟩) nm = false) ∧ same ((xs.getD j Ty.zero).names.getD p ⟨#[]⟩) nm = true ∧ o = foff (xs.getD j Ty.zero).k (parts len xs j) p ∧ t = ofAt xs j p)
  ∨ (b = false ∧ o = 0 ∧ t = 0 ∧ ¬ (W.TOk len xs ∧ ∃ j p : Nat, i = j ∧ j < len ∧ p < (xs.getD j Ty.zero).names.length ∧ same ((xs.getD j Ty.zero).names.getD p ⟨#[]⟩) nm = true))
theorem FieldIs.fn {len : Nat} {xs : List Ty} {i : Int} {nm : ByteArray} {o t o' t' : Int} {b b' : Bool} (h : FieldIs len xs i nm o t b) (h' : FieldIs len xs i nm o' t' b') : o = o' ∧ t = t' ∧ b = b' := by
  rcases h with ⟨rfl, ho, j, p, hi, hj, hp, hq, hs, rfl, rfl⟩ | ⟨rfl, rfl, rfl, hn⟩ <;> rcases h' with ⟨rfl, ho', j', p', hi', hj', hp', hq', hs', rfl, rfl⟩ | ⟨rfl, rfl, rfl, hn'⟩
  · have ej : j = j' := by omega
    subst ej
    have ep : p = p' := by
      rcases Nat.lt_trichotomy p p' with q | q | q
      · have := hq' p q; rw [hs] at this; cases this
      · exact q
      · have := hq p' q; rw [hs'] at this; cases this
    subst ep
    exact ⟨rfl, rfl, rfl⟩
  · exact absurd ⟨ho, j, p, hi, hj, hp, hs⟩ hn'
  · exact absurd ⟨ho', j', p', hi', hj', hp', hs'⟩ hn
  · exact ⟨rfl, rfl, rfl⟩
theorem names_none {xs : List Ty} {i : Nat} (h : fit xs i = true) (ht : tagd (xs.getD i Ty.zero).k = false) : (xs.getD i Ty.zero).names.length = 0 := by
  have hk : ¬ ((xs.getD i Ty.zero).k = 10 ∨ (xs.getD i Ty.zero).k = 11) := fun q => by
    have : tagd (xs.getD i Ty.zero).k = true := by unfold tagd; rw [decide_eq_true_eq]; exact q
    rw [ht] at this; cases this
  unfold fit at h
  revert h
  generalize xs.getD i Ty.zero = x at hk
  intro h
  cases hr : tRule x.k with
  | none => rw [hr] at h; cases h
  | some r =>
    rw [hr] at h
    simp only [fitR_iff] at h
    have hrn : r.names = false := by
      unfold tRule at hr
      split at hr
      · injection hr with hr; subst hr; rfl
      split at hr
      · injection hr with hr; subst hr; rfl
      split at hr
      · injection hr with hr; subst hr; rfl
      split at hr
      · injection hr with hr; subst hr; rfl
      · cases hr
    have := h.2.2
    rw [hrn] at this
    simpa using this
end Go.Proofs.YtafcnijfoejboaaGreatDoor.Pl
namespace Go.Proofs.YtafcnijfoejboaaGreatDoor.W
open Go.RowKit
set_option maxHeartbeats 4000000 in
set_option maxRecDepth 8000 in
theorem implFieldOf {lo : Nat} (a : Option Addr) (len cap : Nat) (xs : List Pl.Ty) (i : Int) (nm : ByteArray) (w : World) (hT : TRow lo w a len cap xs) (hE : Errs w) (hsm : ∀ i, i < len → ∀ j, j < (xs.getD i Pl.Ty.zero).names.length → ((xs.getD i Pl.Ty.zero).names.getD j ⟨#[]⟩).size ≤ 1048576) :
    Calls Tryz.prog 16 #[.slice a len cap, .int .i64 i, .string nm] w fun e w' => ∃ o t : Int, ∃ d : Prop, e = .returned (.tuple #[.int .i64 o, .int .i64 t, .bool (Pl.dec d)]) ∧ Pl.FieldIs len xs i nm o t (Pl.dec d) ∧ Below w.heap.size w w' := by
  have hm : (len : Int) ≤ 9223372036854775807 := by have := hT.small; omega
  have HT : Hid (TRow lo w a len cap xs) := hT
  have HXL : Hid (xs.length = len) := hT.1
  have HIM : Hid (Calls Tryz.prog 32 #[.slice a len cap] w fun e w'' => ∃ g, e = .returned (.pointer (some ⟨g, 0, none⟩)) ∧ StoreOf w a len cap xs g w'' ∧ Below w.heap.size w w'') := storeOf_any a len cap xs w hT hE hsm
  clear hT hE hsm
  go_enter Tryz.func16, Tryz.ntmps16
  go_wp2_with fail
  refine Calls.mono HIM.out ?_
  rintro e u1 ⟨g, rfl, hst, d1⟩
  have B1 : Hid (Below w.heap.size w u1) := d1
  clear d1
  rcases hst with ⟨hok, z, kv, rfl, hS⟩ | ⟨hno, hc⟩
  rotate_left
  · have HE : Hid (Pl.FieldIs len xs i nm 0 0 (Pl.dec False)) := .inr ⟨Pl.dec_no id, rfl, rfl, fun q => hno q.1⟩
    have HC : Hid (u1.cell? ⟨g, 0, none⟩ = some (.slice none 0 0)) := by
      show u1.cell? ⟨g, 0, none⟩ = _
      rw [cell_of_row u1 _ 0 _ _ _ hc]; rfl
    have hwn : Pl.within i 0 ((0 : Nat) - 1 : Int) = false := by
      rw [Bool.eq_false_iff]; intro q
      have : 0 ≤ i ∧ i ≤ ((0 : Nat) - 1 : Int) := by simpa [Pl.within] using q
      omega
    have HW : Hid (Pl.within i 0 (((0 : Nat) : Int) - 1) = false) := hwn
    clear hno hc hwn
    go_wp2_with (go_at_call 33; refine (has_any g none 0 0 (by decide) i _ HC.out).mono ?_; rintro e u2 ⟨rfl, eu⟩; rw [eu, HW.out]; clear eu)
    exact bodyPost_ret (v := .tuple #[.int .i64 0, .int .i64 0, .bool false]) (by simp [results, Tryz.results16, go_sem]) rfl ⟨0, 0, False, by rw [Pl.dec_no id], HE.out, B1.out⟩
  have HS : Hid (Lst w z a len cap kv (fun _ => (0, 0)) u1) := hS.lst
  have HOK : Hid (TOk len xs) := hok
  have HG : Hid (u1.cell? ⟨z + 2, 0, none⟩ = some (.slice a len cap)) := hS.lst.cells.1
  clear hS hok
  cases hin : Pl.within i 0 ((len : Int) - 1)
  · have HW : Hid (Pl.within i 0 ((len : Int) - 1) = false) := hin
    have HE : Hid (Pl.FieldIs len xs i nm 0 0 (Pl.dec False)) := .inr ⟨Pl.dec_no id, rfl, rfl, fun ⟨_, j, p, e, hj, _⟩ => by
      have : Pl.within i 0 ((len : Int) - 1) = true := by simp [Pl.within]; omega
      rw [hin] at this; cases this⟩
    clear hin
    go_wp2_with (go_at_call 33; refine (has_any (z + 2) a len cap hm i _ HG.out).mono ?_; rintro e u2 ⟨rfl, eu⟩; rw [eu, HW.out]; clear eu)
    exact bodyPost_ret (v := .tuple #[.int .i64 0, .int .i64 0, .bool false]) (by simp [results, Tryz.results16, go_sem]) rfl ⟨0, 0, False, by rw [Pl.dec_no id], HE.out, B1.out⟩
  have hi0 : 0 ≤ i ∧ i ≤ (len : Int) - 1 := by simpa [Pl.within] using hin
  obtain ⟨j, rfl⟩ : ∃ j : Nat, i = j := ⟨i.toNat, by omega⟩
  have hj : j < len := by omega
  have HW : Hid (Pl.within (j : Int) 0 ((len : Int) - 1) = true) := hin
  clear hin hi0
  have HC : Hid (Calls Tryz.prog 34 #[.pointer (some ⟨z + 2, 0, none⟩), .int .i64 j] u1 fun e u' => ∃ g, e = .returned (.slice (some ⟨g, 0, none⟩) (xs.getD j Pl.Ty.zero).names.length (xs.getD j Pl.Ty.zero).names.length) ∧ FRow u' g (xs.getD j Pl.Ty.zero).names.length (xs.getD j Pl.Ty.zero).names (xs.getD j Pl.Ty.zero).of (xs.getD j Pl.Ty.zero).k (Pl.parts len xs j) ∧ OnlyL (z + 1) u1 u') := by
    have hfit := HOK.out.2.1 j hj
    have hnl : (xs.getD j Pl.Ty.zero).names.length ≤ (xs.getD j Pl.Ty.zero).of.length ∧ (xs.getD j Pl.Ty.zero).names.length ≤ 1000000 := by
      cases ht : Pl.tagd (xs.getD j Pl.Ty.zero).k
      · have := Pl.names_none hfit ht; omega
      · have := Pl.names_of hfit ht; omega
    have hpt : ∀ p, p < (xs.getD j Pl.Ty.zero).names.length → (0 ≤ Pl.ofAt xs j p ∧ Pl.ofAt xs j p < len) ∧ (xs.getD (Pl.ofAt xs j p).toNat Pl.Ty.zero).whole = true := fun p hp => by
      cases ht : Pl.tagd (xs.getD j Pl.Ty.zero).k
      · have := Pl.names_none hfit ht; omega
      · have := Pl.fit_parts hfit (.inr ht) p (by omega)
        rw [HXL.out] at this
        exact this
    obtain ⟨f, hf⟩ := Pl.lays_all (xs := xs) (q := fun p => (Pl.ofAt xs j p).toNat) (xs.getD j Pl.Ty.zero).names.length (fun p hp => whole_lays HOK.out (by have := (hpt p hp).1; omega) (hpt p hp).2)
    refine (fieldsOf_any HT.out (fun i h9 => (arrs_of HXL.out HOK.out i h9).1.1) (layout_all HT.out HOK.out f) _ u1 j hj HS.out (fun _ => .inl rfl) hnl.1 hnl.2 (Pl.parts len xs j) (fun p hp => ⟨(hpt p hp).1, hf p hp, ?_⟩)).mono ?_
    · obtain ⟨s, al, hl⟩ := Pl.lays_lay (fun i h9 => by have := (arrs_of HXL.out HOK.out i h9).2; omega) f _ (hf p hp)
      have h1 := (hpt p hp).1
      have e : Pl.parts len xs j p = (s, al) := by
        unfold Pl.parts
        have := Pl.layP_of HOK.out (i := (Pl.ofAt xs j p).toNat) (by omega) hl
        rw [Int.toNat_of_nonneg h1.1] at this
        exact this
      rw [e]
      exact hl
    · rintro e u' ⟨g, rfl, _, hR, Q', _, _, hO⟩
      exact ⟨g, rfl, hR, hO⟩
  have HP : Hid (∀ p, p < (xs.getD j Pl.Ty.zero).names.length → (∀ q, q < p → Pl.same ((xs.getD j Pl.Ty.zero).names.getD q ⟨#[]⟩) nm = false) → Pl.same ((xs.getD j Pl.Ty.zero).names.getD p ⟨#[]⟩) nm = true → Pl.FieldIs len xs j nm (Pl.foff (xs.getD j Pl.Ty.zero).k (Pl.parts len xs j) p) ((xs.getD j Pl.Ty.zero).of.getD p 0) (Pl.dec True)) := fun p hp h1 h2 => .inl ⟨Pl.dec_yes trivial, HOK.out, j, p, rfl, hj, hp, h1, h2, rfl, rfl⟩
  have HQ : Hid ((∀ q, q < (xs.getD j Pl.Ty.zero).names.length → Pl.same ((xs.getD j Pl.Ty.zero).names.getD q ⟨#[]⟩) nm = false) → Pl.FieldIs len xs j nm 0 0 (Pl.dec False)) := fun h => .inr ⟨Pl.dec_no id, rfl, rfl, fun ⟨_, j', p, e, hj', hp, hs⟩ => by
    have : j' = j := by omega
    subst this
    rw [h p hp] at hs; cases hs⟩
  have hml : ((xs.getD j Pl.Ty.zero).names.length : Int) ≤ 9223372036854775807 := by
    have hfit := HOK.out.2.1 j hj
    cases ht : Pl.tagd (xs.getD j Pl.Ty.zero).k
    · have := Pl.names_none hfit ht; omega
    · have := Pl.names_of hfit ht; omega
  generalize xs.getD j Pl.Ty.zero = x at HC HP HQ hml
  obtain ⟨kk, nn, zs, nms⟩ := x
  simp only at HC HP HQ hml
  obtain ⟨m, hme⟩ : ∃ m, m = nms.length := ⟨_, rfl⟩
  rw [← hme] at HC HP HQ hml
  have hlz := HS.out.lo
  go_wp2_with (first | (go_at_call 33; refine (has_any (z + 2) a len cap hm _ _ HG.out).mono ?_; rintro e u2 ⟨rfl, eu⟩; rw [eu, HW.out]; clear eu) | fail)
  refine Calls.mono HC.out ?_
  rintro e u3 ⟨g, rfl, hR, hO⟩
  have HF : Hid (FRow u3 g m nms zs kk (Pl.parts len xs j) ∧ Below w.heap.size w u3) := ⟨hR, B1.out.trans (hO.below (by omega) B1.out.size)⟩
  clear hR hO hme
  go_wp2_with fail
  go_loopw [22] (fun t wr => ∃ p : Nat, p ≤ m ∧ t = .int .i64 p ∧ Hid ((FRow wr g m nms zs kk (Pl.parts len xs j) ∧ Below w.heap.size w wr) ∧ ∀ q, q < p → Pl.same (nms.getD q ⟨#[]⟩) nm = false)) (fun t _ => m - (intOf t).toNat)
  case atStart => exact ⟨0, Nat.zero_le _, rfl, HF.out, fun q hq => absurd hq (Nat.not_lt_zero _)⟩
  case round =>
    obtain ⟨p, hpm, rfl, S⟩ := hrel
    by_cases hlt : p < m
    · have hpi : (p : Int) < (m : Int) := by omega
      obtain ⟨k0, k1, k2⟩ := S.out.1.1.c p hlt
      have hgw := S.out.1.1.lt
      obtain ⟨n1, hn1⟩ : ∃ n1, n1 = nms.getD p ⟨#[]⟩ := ⟨_, rfl⟩
      obtain ⟨t1, ht1⟩ : ∃ t1, t1 = zs.getD p 0 := ⟨_, rfl⟩
      obtain ⟨f1, hf1⟩ : ∃ f1, f1 = Pl.foff kk (Pl.parts len xs j) p := ⟨_, rfl⟩
      rw [← hn1] at k0
      rw [← ht1] at k1
      rw [← hf1] at k2
      have HV : Hid (n1 = nms.getD p ⟨#[]⟩ ∧ t1 = zs.getD p 0 ∧ f1 = Pl.foff kk (Pl.parts len xs j) p) := ⟨hn1, ht1, hf1⟩
      clear hn1 ht1 hf1
      cases hs : (n1.toList == nm.toList)
      · have HSM : Hid (Pl.same n1 nm = false) := hs
        go_wp2_with fail
        refine ⟨⟨p + 1, hlt, by congr 1, ⟨S.out.1.1.same (by simp) ((below_alloc _ _).block _ hgw), S.out.1.2.trans ((below_alloc _ _).mono S.out.1.2.size)⟩, fun q hq => ?_⟩, by simp [intOf]; omega⟩
        by_cases e : q = p
        · rw [e, ← HV.out.1]; exact HSM.out
        · exact S.out.2 q (by omega)
      · have HSM : Hid (Pl.same n1 nm = true) := hs
        go_wp2_with fail
        go_quiet (fail)
        go_wp2_with fail
        have hfi := HP.out p hlt S.out.2 (by rw [← HV.out.1]; exact HSM.out)
        rw [← HV.out.2.1, ← HV.out.2.2] at hfi
        exact bodyPost_ret (v := .tuple #[.int .i64 f1, .int .i64 t1, .bool true]) (by simp [results, Tryz.results16, go_sem]) rfl ⟨f1, t1, True, by rw [Pl.dec_yes trivial], hfi, by repeat (first | exact S.out.1.2.trans ((below_alloc _ _).mono S.out.1.2.size) | refine below_drewN ?_ _)⟩
    · have hpe : p = m := by omega
      subst hpe
      go_wp2_with fail
      exact bodyPost_ret (v := .tuple #[.int .i64 0, .int .i64 0, .bool false]) (by simp [results, Tryz.results16, go_sem]) rfl ⟨0, 0, False, by rw [Pl.dec_no id], HQ.out S.out.2, S.out.1.2⟩
end Go.Proofs.YtafcnijfoejboaaGreatDoor.W
namespace Go.Proofs.YtafcnijfoejboaaGreatDoor.Pl
theorem off_foff {kk : Int} {G : Nat → Int × Int} {n : Nat} (h : ∀ p, p < n + 1 → nb (G p)) : off kk G n = foff kk G n := by
  have hg2 := (h n (by omega)).2
  unfold off foff
  by_cases c : kk = 10
  · rw [if_pos c, (fl_beh c n (fun p hp => h p (by omega))).1, cap_up (beh_nn (kk := kk) n (fun p hp => h p (by omega))).1 hg2]
  · rw [if_neg c, (fl_uni c n (fun p hp => h p (by omega))).2.1]
    have hm : up 0 (G n).2 = 0 := by
      unfold up
      have h3 : (G n).2 = 1 ∨ (G n).2 = 2 ∨ (G n).2 = 3 ∨ (G n).2 = 4 := by omega
      rcases h3 with q | q | q | q <;> rw [q] <;> decide
    rw [hm]; decide
theorem beh_congr {kk : Int} {G G' : Nat → Int × Int} : ∀ n, (∀ p, p < n → G p = G' p) → beh kk G n = beh kk G' n
  | 0, _ => rfl
  | n + 1, h => by
    have ih := beh_congr (kk := kk) n (fun p hp => h p (by omega))
    show (if kk = 10 then _ else _) = (if kk = 10 then _ else _)
    rw [ih, h n (by omega)]
theorem foff_congr {kk : Int} {G G' : Nat → Int × Int} (n : Nat) (h : ∀ p, p ≤ n → G p = G' p) : foff kk G n = foff kk G' n := by
  unfold foff
  rw [beh_congr n (fun p hp => h p (by omega)), h n (Nat.le_refl _)]
end Go.Proofs.YtafcnijfoejboaaGreatDoor.Pl
namespace Go.Proofs.YtafcnijfoejboaaGreatDoor.W
open Go.RowKit
end Go.Proofs.YtafcnijfoejboaaGreatDoor.W
namespace Go.Proofs.YtafcnijfoejboaaGreatDoor.Pl
theorem up_mod (n a : Int) : (up n a).tmod a = 0 := by unfold up; exact Int.mul_tmod_left _ _
theorem capn_le {n : Int} (h : capn n ≤ 60000) : capn n = n ∧ n ≤ 60000 := by
  unfold capn at h ⊢
  split at h
  · omega
  · rw [if_neg (by assumption)]; exact ⟨rfl, by omega⟩
theorem Lay.mod {xs : List Ty} (hn : ∀ i, (xs.getD i Ty.zero).k = 9 → 1 ≤ (xs.getD i Ty.zero).n) {i : Nat} {s a : Int} (h : Lay xs i s a) : s ≤ 60000 → s.tmod a = 0 := by
  induction h with
  | scal i hs => intro _; exact Int.tmod_self
  | arr i s a h9 hl ih =>
    intro h
    obtain ⟨e, h1⟩ := capn_le h
    rw [e]
    have hb := Lay.nb hn hl
    have hm := hn i h9
    have h2 : s * 1 ≤ s * (xs.getD i Ty.zero).n := Int.mul_le_mul_of_nonneg_left hm hb.1.1
    have h3 := ih (by omega)
    exact Int.tmod_eq_zero_of_dvd (Int.dvd_trans (Int.dvd_of_tmod_eq_zero h3) (Int.dvd_mul_right _ _))
  | rcd i G ht hl _ ih =>
    intro h
    unfold flds at h ⊢
    simp only at h ⊢
    rw [(capn_le h).1]
    exact up_mod _ _
theorem big_ge {kk : Int} {G : Nat → Int × Int} : ∀ n p, p < n → foff kk G p + (G p).1 ≤ big kk G n
  | 0, p, h => absurd h (Nat.not_lt_zero _)
  | n + 1, p, h => by
    have e : big kk G (n + 1) = max (big kk G n) (foff kk G n + (G n).1) := rfl
    rw [e]
    by_cases q : p = n
    · rw [q]; omega
    · have := big_ge (kk := kk) (G := G) n p (by omega)
      omega
theorem field_in {kk : Int} {G : Nat → Int × Int} {n p : Nat} (h : ∀ p, p < n → nb (G p)) (hp : p < n) (hs : (flds kk G n).1 ≤ 60000) : foff kk G p + (G p).1 ≤ (flds kk G n).1 ∧ (foff kk G p).tmod (G p).2 = 0 ∧ 0 ≤ foff kk G p ∧ foff kk G p = up (beh kk G p) (G p).2 := by
  obtain ⟨e, hb, _, hg⟩ := around_eq (kk := kk) (n := n) (by omega) h
  rw [e] at hs ⊢
  simp only at hs ⊢
  obtain ⟨e2, _⟩ := capn_le hs
  have h1 := big_ge (kk := kk) (G := G) n p hp
  have h2 := up_ge hb hg
  have hgp := h p hp
  have hbe := beh_nn (kk := kk) p (fun q hq => h q (by omega))
  have h0 : 0 ≤ foff kk G p := (capn_bdd (up_bdd hbe.1 hgp.2).1).1
  have h3 : foff kk G p ≤ 60000 := by have := hgp.1.1; omega
  have h4 : foff kk G p = up (beh kk G p) (G p).2 := (capn_le h3).1
  exact ⟨by omega, by rw [h4]; exact up_mod _ _, h0, h4⟩
theorem field_apart {G : Nat → Int × Int} {n p : Nat} (h : ∀ p, p < n → nb (G p)) (hp : p + 1 < n) (hs : (flds 10 G n).1 ≤ 60000) : foff 10 G p + (G p).1 ≤ foff 10 G (p + 1) := by
  obtain ⟨_, _, _, e⟩ := field_in h hp hs
  have hbe := beh_nn (kk := 10) (p + 1) (fun q hq => h q (by omega))
  have h2 := up_ge hbe.1 (h (p + 1) hp).2
  have e3 : beh 10 G (p + 1) = foff 10 G p + (G p).1 := rfl
  rw [e]
  omega
theorem field_uni {kk : Int} (hk : kk ≠ 10) {G : Nat → Int × Int} {n p : Nat} (h : ∀ p, p < n → nb (G p)) (hp : p < n) : foff kk G p = 0 := by
  have := off_foff (kk := kk) (G := G) (n := p) (fun q hq => h q (by omega))
  rw [← this]
  unfold off
  rw [if_neg hk]
theorem tag_names {xs : List Ty} {j : Nat} (hf : fit xs j = true) (ht : tagd (xs.getD j Ty.zero).k = true) : (xs.getD j Ty.zero).names.length = (xs.getD j Ty.zero).of.length ∧ apart (xs.getD j Ty.zero).names = true := by
  have hk : (xs.getD j Ty.zero).k = 10 ∨ (xs.getD j Ty.zero).k = 11 := by unfold tagd at ht; rw [decide_eq_true_eq] at ht; exact ht
  unfold fit at hf
  cases hr : tRule (xs.getD j Ty.zero).k with
  | none => rw [hr] at hf; cases hf
  | some r =>
    rw [hr] at hf
    simp only [fitR_iff] at hf
    have hrn : r.names = true := by
      rcases hk with c | c <;> rw [c] at hr <;> simp [tRule] at hr <;> subst hr <;> rfl
    have := hf.2.2
    rw [hrn, if_pos rfl] at this
    exact this
theorem same_refl (x : ByteArray) : same x x = true := by unfold same; exact beq_self_eq_true _
theorem apart_ne {ss : List ByteArray} (h : apart ss = true) {p q : Nat} (hp : p < ss.length) (hq : q < p) : same (ss.getD q ⟨#[]⟩) (ss.getD p ⟨#[]⟩) = false := by
  unfold apart at h
  have h1 := (of_decide_eq_true h p hp).2
  rw [Bool.eq_false_iff]
  intro c
  unfold same at c
  have e : (ss.take p).getD q ⟨#[]⟩ = ss.getD q ⟨#[]⟩ := by
    rw [List.getD_eq_getElem?_getD, List.getD_eq_getElem?_getD, List.getElem?_take_of_lt hq]
  have := inS_yes (ss := ss.take p) (s := ss.getD p ⟨#[]⟩) (k := q) (by rw [List.length_take]; omega) (by rw [e]; exact eq_of_beq c)
  rw [h1] at this
  cases this
noncomputable def endOf (len : Nat) (xs : List Ty) (j : Nat) : Nat → Int
  | 0 => 0
  | p + 1 => foff (xs.getD j Ty.zero).k (parts len xs j) p + (parts len xs j p).1
theorem field_facts {len : Nat} {xs : List Ty} {j : Nat} {s a : Int} (hxl : xs.length = len) (ho : W.TOk len xs) (hj : j < len) (hL : Lay xs j s a) (hs : s ≤ 60000) {p : Nat} (hp : p < (xs.getD j Ty.zero).names.length) {o t : Int} {b : Bool} (hF : FieldIs len xs j ((xs.getD j Ty.zero).names.getD p ⟨#[]⟩) o t b) :
    b = true ∧ p < (xs.getD j Ty.zero).of.length ∧ t = ofAt xs j p ∧ o + (layP len xs t).1 = endOf len xs j (p + 1) ∧ nb (layP len xs t) ∧ o.tmod (layP len xs t).2 = 0 ∧ 0 ≤ o ∧ o + (layP len xs t).1 ≤ s ∧ ((xs.getD j Ty.zero).k = 11 → o = 0) ∧ ((xs.getD j Ty.zero).k = 10 → endOf len xs j p ≤ o) := by
  have hn : ∀ i, (xs.getD i Ty.zero).k = 9 → 1 ≤ (xs.getD i Ty.zero).n := fun i h9 => (W.arrs_of hxl ho i h9).1.1
  have ht : tagd (xs.getD j Ty.zero).k = true := by
    cases c : tagd (xs.getD j Ty.zero).k
    · have := names_none (ho.2.1 j hj) c
      omega
    · rfl
  obtain ⟨hnl, hap⟩ := tag_names (ho.2.1 j hj) ht
  have hp' : p < (xs.getD j Ty.zero).of.length := by omega
  have hb : b = true ∧ o = foff (xs.getD j Ty.zero).k (parts len xs j) p ∧ t = ofAt xs j p := by
    rcases hF with ⟨rfl, _, j', p', hi, hj', hp2, hq, hsm, rfl, rfl⟩ | ⟨_, _, _, hno⟩
    · have ej : j = j' := by omega
      subst ej
      have ep : p' = p := by
        rcases Nat.lt_trichotomy p' p with q | q | q
        · have := apart_ne hap hp q
          rw [hsm] at this; cases this
        · exact q
        · have := hq p q
          rw [same_refl] at this; cases this
      subst ep
      exact ⟨rfl, rfl, rfl⟩
    · exact absurd ⟨ho, j, p, rfl, hj, hp, same_refl _⟩ hno
  obtain ⟨rfl, rfl, rfl⟩ := hb
  have hk : (xs.getD j Ty.zero).k = 10 ∨ (xs.getD j Ty.zero).k = 11 := by unfold tagd at ht; rw [decide_eq_true_eq] at ht; exact ht
  obtain ⟨G, hG, rfl⟩ : ∃ G : Nat → Int × Int, (∀ q, q < (xs.getD j Ty.zero).of.length → Lay xs (ofAt xs j q).toNat (G q).1 (G q).2) ∧ s = (flds (xs.getD j Ty.zero).k G (xs.getD j Ty.zero).of.length).1 := by
    revert hk
    cases hL with
    | scal _ h => intro hk; rcases hk with c | c <;> rw [c] at h <;> exact absurd h (by decide)
    | arr _ _ _ h9 _ => intro hk; rcases hk with c | c <;> rw [c] at h9 <;> exact absurd h9 (by decide)
    | rcd _ G _ _ h => intro _; exact ⟨G, h, rfl⟩
  have hnb : ∀ q, q < (xs.getD j Ty.zero).of.length → nb (G q) := fun q hq => Lay.nb hn (hG q hq)
  have hGp : ∀ q, q < (xs.getD j Ty.zero).of.length → G q = parts len xs j q := fun q hq => by
    have h1 := (fit_parts (ho.2.1 j hj) (.inr ht) q hq).1
    unfold parts
    have := layP_of ho (i := (ofAt xs j q).toNat) (by omega) (hG q hq)
    rw [Int.toNat_of_nonneg h1.1] at this
    exact this.symm
  have ho' : ∀ q, q < (xs.getD j Ty.zero).of.length → foff (xs.getD j Ty.zero).k (parts len xs j) q = foff (xs.getD j Ty.zero).k G q := fun q hq => (foff_congr q (fun r hr => hGp r (by omega))).symm
  have hlp : layP len xs (ofAt xs j p) = G p := (hGp p hp').symm
  obtain ⟨f1, f2, f3, _⟩ := field_in hnb hp' hs
  refine ⟨rfl, hp', rfl, ?_, ?_, ?_, ?_, ?_, ?_, ?_⟩
  · rfl
  · rw [hlp]; exact hnb p hp'
  · rw [hlp, ho' p hp']; exact f2
  · rw [ho' p hp']; exact f3
  · rw [hlp, ho' p hp']; exact f1
  · intro c
    rw [ho' p hp']
    exact field_uni (by omega) hnb hp'
  · intro c
    cases p with
    | zero => rw [ho' 0 hp']; exact f3
    | succ p =>
      show foff (xs.getD j Ty.zero).k (parts len xs j) p + (parts len xs j p).1 ≤ _
      rw [ho' _ hp', ho' p (by omega), ← hGp p (by omega), c]
      rw [c] at hs
      exact field_apart hnb hp' hs
end Go.Proofs.YtafcnijfoejboaaGreatDoor.Pl
