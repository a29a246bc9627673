import Derived.Test.YtafcnijfoejboaaGreatDoorP06
set_option linter.unusedVariables false
set_option linter.unusedSimpArgs false
namespace Go.Proofs.YtafcnijfoejboaaGreatDoor.Pl
noncomputable def parts (len : Nat) (xs : List Ty) (j : Nat) (p : Nat) : Int × Int := layP len xs (ofAt xs j p)
def same (a b : ByteArray) : Bool := a.toList == b.toList
def FieldIs (len : Nat) (xs : List Ty) (i : Int) (nm : ByteArray) (o t : Int) (b : Bool) : Prop :=
  (b = true ∧ W.TOk len xs ∧ ∃ j p : Nat, i = j ∧ j < len ∧ p < (xs.getD j Ty.zero).names.length ∧ (∀ q, q < p → same ((xs.getD j Ty.zero).names.getD q ⟨#[]⟩) nm = false) ∧ same ((xs.getD j Ty.zero).names.getD p ⟨#[]⟩) nm = true ∧ o = foff (xs.getD j Ty.zero).k (parts len xs j) p ∧ t = ofAt xs j p)
  ∨ (b = false ∧ o = 0 ∧ t = 0 ∧ ¬ (W.TOk len xs ∧ ∃ j p : Nat, i = j ∧ j < len ∧ p < (xs.getD j Ty.zero).names.length ∧ same ((xs.getD j Ty.zero).names.getD p ⟨#[]⟩) nm = true))
theorem FieldIs.fn {len : Nat} {xs : List Ty} {i : Int} {nm : ByteArray} {o t o' t' : Int} {b b' : Bool} (h : FieldIs len xs i nm o t b) (h' : FieldIs len xs i nm o' t' b') : o = o' ∧ t = t' ∧ b = b' := by
  rcases h with ⟨rfl, ho, j, p, hi, hj, hp, hq, hs, rfl, rfl⟩ | ⟨rfl, rfl, rfl, hn⟩ <;> rcases h' with ⟨rfl, ho', j', p', hi', hj', hp', hq', hs', rfl, rfl⟩ | ⟨rfl, rfl, rfl, hn'⟩
  · have ej : j = j' := by omega
    subst ej
    have ep : p = p' := by
      rcases Nat.lt_trichotomy p p' with q | q | q
      · have := hq' p q; rw [hs] at this; cases this
      · exact q
      · have := hq p' q; rw [hs'] at this; cases this
    subst ep
    exact ⟨rfl, rfl, rfl⟩
  · exact absurd ⟨ho, j, p, hi, hj, hp, hs⟩ hn'
  · exact absurd ⟨ho', j', p', hi', hj', hp', hs'⟩ hn
  · exact ⟨rfl, rfl, rfl⟩
theorem names_none {xs : List Ty} {i : Nat} (h : fit xs i = true) (ht : tagd (xs.getD i Ty.zero).k = false) : (xs.getD i Ty.zero).names.length = 0 := by
  have hk : ¬ ((xs.getD i Ty.zero).k = 10 ∨ (xs.getD i Ty.zero).k = 11) := fun q => by
    have : tagd (xs.getD i Ty.zero).k = true := by unfold tagd; rw [decide_eq_true_eq]; exact q
    rw [ht] at this; cases this
  unfold fit at h
  revert h
  generalize xs.getD i Ty.zero = x at hk
  intro h
  cases hr : tRule x.k with
  | none => rw [hr] at h; cases h
  | some r =>
    rw [hr] at h
    simp only [fitR_iff] at h
    have hrn : r.names = false := by
      unfold tRule at hr
      split at hr
      · injection hr with hr; subst hr; rfl
      split at hr
      · injection hr with hr; subst hr; rfl
      split at hr
      · injection hr with hr; subst hr; rfl
      split at hr
      · injection hr with hr; subst hr; rfl
      · cases hr
    have := h.2.2
    rw [hrn] at this
    simpa using this
end Go.Proofs.YtafcnijfoejboaaGreatDoor.Pl
namespace Go.Proofs.YtafcnijfoejboaaGreatDoor.W
open Go.RowKit
set_option maxHeartbeats 4000000 in
set_option maxRecDepth 8000 in
theorem implFieldOf {lo : Nat} (a : Option Addr) (len cap : Nat) (xs : List Pl.Ty) (i : Int) (nm : ByteArray) (w : World) (hT : TRow lo w a len cap xs) (hE : Errs w) (hsm : ∀ i, i < len → ∀ j, j < (xs.getD i Pl.Ty.zero).names.length → ((xs.getD i Pl.Ty.zero).names.getD j ⟨#[]⟩).size ≤ 1048576) :
    Calls Tryz.prog 16 #[.slice a len cap, .int .i64 i, .string nm] w fun e w' => ∃ o t : Int, ∃ d : Prop, e = .returned (.tuple #[.int .i64 o, .int .i64 t, .bool (Pl.dec d)]) ∧ Pl.FieldIs len xs i nm o t (Pl.dec d) ∧ Below w.heap.size w w' := by
  have hm : (len : Int) ≤ 9223372036854775807 := by have := hT.small; omega
  have HT : Hid (TRow lo w a len cap xs) := hT
  have HXL : Hid (xs.length = len) := hT.1
  have HIM : Hid (Calls Tryz.prog 32 #[.slice a len cap] w fun e w'' => ∃ g, e = .returned (.pointer (some ⟨g, 0, none⟩)) ∧ StoreOf w a len cap xs g w'' ∧ Below w.heap.size w w'') := storeOf_any a len cap xs w hT hE hsm
  clear hT hE hsm
  go_enter Tryz.func16, Tryz.ntmps16
  go_wp2_with fail
  refine Calls.mono HIM.out ?_
  rintro e u1 ⟨g, rfl, hst, d1⟩
  have B1 : Hid (Below w.heap.size w u1) := d1
  clear d1
  rcases hst with ⟨hok, z, kv, rfl, hS⟩ | ⟨hno, hc⟩
  rotate_left
  · have HE : Hid (Pl.FieldIs len xs i nm 0 0 (Pl.dec False)) := .inr ⟨Pl.dec_no id, rfl, rfl, fun q => hno q.1⟩
    have HC : Hid (u1.cell? ⟨g, 0, none⟩ = some (.slice none 0 0)) := by
      show u1.cell? ⟨g, 0, none⟩ = _
      rw [cell_of_row u1 _ 0 _ _ _ hc]; rfl
    have hwn : Pl.within i 0 ((0 : Nat) - 1 : Int) = false := by
      rw [Bool.eq_false_iff]; intro q
      have : 0 ≤ i ∧ i ≤ ((0 : Nat) - 1 : Int) := by simpa [Pl.within] using q
      omega
    have HW : Hid (Pl.within i 0 (((0 : Nat) : Int) - 1) = false) := hwn
    clear hno hc hwn
    go_wp2_with (go_at_call 33; refine (has_any g none 0 0 (by decide) i _ HC.out).mono ?_; rintro e u2 ⟨rfl, eu⟩; rw [eu, HW.out]; clear eu)
    exact bodyPost_ret (v := .tuple #[.int .i64 0, .int .i64 0, .bool false]) (by simp [results, Tryz.results16, go_sem]) rfl ⟨0, 0, False, by rw [Pl.dec_no id], HE.out, B1.out⟩
  have HS : Hid (Lst w z a len cap kv (fun _ => (0, 0)) u1) := hS.lst
  have HOK : Hid (TOk len xs) := hok
  have HG : Hid (u1.cell? ⟨z + 2, 0, none⟩ = some (.slice a len cap)) := hS.lst.cells.1
  clear hS hok
  cases hin : Pl.within i 0 ((len : Int) - 1)
  · have HW : Hid (Pl.within i 0 ((len : Int) - 1) = false) := hin
    have HE : Hid (Pl.FieldIs len xs i nm 0 0 (Pl.dec False)) := .inr ⟨Pl.dec_no id, rfl, rfl, fun ⟨_, j, p, e, hj, _⟩ => by
      have : Pl.within i 0 ((len : Int) - 1) = true := by simp [Pl.within]; omega
      rw [hin] at this; cases this⟩
    clear hin
    go_wp2_with (go_at_call 33; refine (has_any (z + 2) a len cap hm i _ HG.out).mono ?_; rintro e u2 ⟨rfl, eu⟩; rw [eu, HW.out]; clear eu)
    exact bodyPost_ret (v := .tuple #[.int .i64 0, .int .i64 0, .bool false]) (by simp [results, Tryz.results16, go_sem]) rfl ⟨0, 0, False, by rw [Pl.dec_no id], HE.out, B1.out⟩
  have hi0 : 0 ≤ i ∧ i ≤ (len : Int) - 1 := by simpa [Pl.within] using hin
  obtain ⟨j, rfl⟩ : ∃ j : Nat, i = j := ⟨i.toNat, by omega⟩
  have hj : j < len := by omega
  have HW : Hid (Pl.within (j : Int) 0 ((len : Int) - 1) = true) := hin
  clear hin hi0
  have HC : Hid (Calls Tryz.prog 34 #[.pointer (some ⟨z + 2, 0, none⟩), .int .i64 j] u1 fun e u' => ∃ g, e = .returned (.slice (some ⟨g, 0, none⟩) (xs.getD j Pl.Ty.zero).names.length (xs.getD j Pl.Ty.zero).names.length) ∧ FRow u' g (xs.getD j Pl.Ty.zero).names.length (xs.getD j Pl.Ty.zero).names (xs.getD j Pl.Ty.zero).of (xs.getD j Pl.Ty.zero).k (Pl.parts len xs j) ∧ OnlyL (z + 1) u1 u') := by
    have hfit := HOK.out.2.1 j hj
    have hnl : (xs.getD j Pl.Ty.zero).names.length ≤ (xs.getD j Pl.Ty.zero).of.length ∧ (xs.getD j Pl.Ty.zero).names.length ≤ 1000000 := by
      cases ht : Pl.tagd (xs.getD j Pl.Ty.zero).k
      · have := Pl.names_none hfit ht; omega
      · have := Pl.names_of hfit ht; omega
    have hpt : ∀ p, p < (xs.getD j Pl.Ty.zero).names.length → (0 ≤ Pl.ofAt xs j p ∧ Pl.ofAt xs j p < len) ∧ (xs.getD (Pl.ofAt xs j p).toNat Pl.Ty.zero).whole = true := fun p hp => by
      cases ht : Pl.tagd (xs.getD j Pl.Ty.zero).k
      · have := Pl.names_none hfit ht; omega
      · have := Pl.fit_parts hfit (.inr ht) p (by omega)
        rw [HXL.out] at this
        exact this
    obtain ⟨f, hf⟩ := Pl.lays_all (xs := xs) (q := fun p => (Pl.ofAt xs j p).toNat) (xs.getD j Pl.Ty.zero).names.length (fun p hp => whole_lays HOK.out (by have := (hpt p hp).1; omega) (hpt p hp).2)
    refine (fieldsOf_any HT.out (fun i h9 => (arrs_of HXL.out HOK.out i h9).1.1) (layout_all HT.out HOK.out f) _ u1 j hj HS.out (fun _ => .inl rfl) hnl.1 hnl.2 (Pl.parts len xs j) (fun p hp => ⟨(hpt p hp).1, hf p hp, ?_⟩)).mono ?_
    · obtain ⟨s, al, hl⟩ := Pl.lays_lay (fun i h9 => by have := (arrs_of HXL.out HOK.out i h9).2; omega) f _ (hf p hp)
      have h1 := (hpt p hp).1
      have e : Pl.parts len xs j p = (s, al) := by
        unfold Pl.parts
        have := Pl.layP_of HOK.out (i := (Pl.ofAt xs j p).toNat) (by omega) hl
        rw [Int.toNat_of_nonneg h1.1] at this
        exact this
      rw [e]
      exact hl
    · rintro e u' ⟨g, rfl, _, hR, Q', _, _, hO⟩
      exact ⟨g, rfl, hR, hO⟩
  have HP : Hid (∀ p, p < (xs.getD j Pl.Ty.zero).names.length → (∀ q, q < p → Pl.same ((xs.getD j Pl.Ty.zero).names.getD q ⟨#[]⟩) nm = false) → Pl.same ((xs.getD j Pl.Ty.zero).names.getD p ⟨#[]⟩) nm = true → Pl.FieldIs len xs j nm (Pl.foff (xs.getD j Pl.Ty.zero).k (Pl.parts len xs j) p) ((xs.getD j Pl.Ty.zero).of.getD p 0) (Pl.dec True)) := fun p hp h1 h2 => .inl ⟨Pl.dec_yes trivial, HOK.out, j, p, rfl, hj, hp, h1, h2, rfl, rfl⟩
  have HQ : Hid ((∀ q, q < (xs.getD j Pl.Ty.zero).names.length → Pl.same ((xs.getD j Pl.Ty.zero).names.getD q ⟨#[]⟩) nm = false) → Pl.FieldIs len xs j nm 0 0 (Pl.dec False)) := fun h => .inr ⟨Pl.dec_no id, rfl, rfl, fun ⟨_, j', p, e, hj', hp, hs⟩ => by
    have : j' = j := by omega
    subst this
    rw [h p hp] at hs; cases hs⟩
  have hml : ((xs.getD j Pl.Ty.zero).names.length : Int) ≤ 9223372036854775807 := by
    have hfit := HOK.out.2.1 j hj
    cases ht : Pl.tagd (xs.getD j Pl.Ty.zero).k
    · have := Pl.names_none hfit ht; omega
    · have := Pl.names_of hfit ht; omega
  generalize xs.getD j Pl.Ty.zero = x at HC HP HQ hml
  obtain ⟨kk, nn, zs, nms⟩ := x
  simp only at HC HP HQ hml
  obtain ⟨m, hme⟩ : ∃ m, m = nms.length := ⟨_, rfl⟩
  rw [← hme] at HC HP HQ hml
  have hlz := HS.out.lo
  go_wp2_with (first | (go_at_call 33; refine (has_any (z + 2) a len cap hm _ _ HG.out).mono ?_; rintro e u2 ⟨rfl, eu⟩; rw [eu, HW.out]; clear eu) | fail)
  refine Calls.mono HC.out ?_
  rintro e u3 ⟨g, rfl, hR, hO⟩
  have HF : Hid (FRow u3 g m nms zs kk (Pl.parts len xs j) ∧ Below w.heap.size w u3) := ⟨hR, B1.out.trans (hO.below (by omega) B1.out.size)⟩
  clear hR hO hme
  go_wp2_with fail
  go_loopw [22] (fun t wr => ∃ p : Nat, p ≤ m ∧ t = .int .i64 p ∧ Hid ((FRow wr g m nms zs kk (Pl.parts len xs j) ∧ Below w.heap.size w wr) ∧ ∀ q, q < p → Pl.same (nms.getD q ⟨#[]⟩) nm = false)) (fun t _ => m - (intOf t).toNat)
  case atStart => exact ⟨0, Nat.zero_le _, rfl, HF.out, fun q hq => absurd hq (Nat.not_lt_zero _)⟩
  case round =>
    obtain ⟨p, hpm, rfl, S⟩ := hrel
    by_cases hlt : p < m
    · have hpi : (p : Int) < (m : Int) := by omega
      obtain ⟨k0, k1, k2⟩ := S.out.1.1.c p hlt
      have hgw := S.out.1.1.lt
      obtain ⟨n1, hn1⟩ : ∃ n1, n1 = nms.getD p ⟨#[]⟩ := ⟨_, rfl⟩
      obtain ⟨t1, ht1⟩ : ∃ t1, t1 = zs.getD p 0 := ⟨_, rfl⟩
      obtain ⟨f1, hf1⟩ : ∃ f1, f1 = Pl.foff kk (Pl.parts len xs j) p := ⟨_, rfl⟩
      rw [← hn1] at k0
      rw [← ht1] at k1
      rw [← hf1] at k2
      have HV : Hid (n1 = nms.getD p ⟨#[]⟩ ∧ t1 = zs.getD p 0 ∧ f1 = Pl.foff kk (Pl.parts len xs j) p) := ⟨hn1, ht1, hf1⟩
      clear hn1 ht1 hf1
      cases hs : (n1.toList == nm.toList)
      · have HSM : Hid (Pl.same n1 nm = false) := hs
        go_wp2_with fail
        refine ⟨⟨p + 1, hlt, by congr 1, ⟨S.out.1.1.same (by simp) ((below_alloc _ _).block _ hgw), S.out.1.2.trans ((below_alloc _ _).mono S.out.1.2.size)⟩, fun q hq => ?_⟩, by simp [intOf]; omega⟩
        by_cases e : q = p
        · rw [e, ← HV.out.1]; exact HSM.out
        · exact S.out.2 q (by omega)
      · have HSM : Hid (Pl.same n1 nm = true) := hs
        go_wp2_with fail
        go_quiet (fail)
        go_wp2_with fail
        have hfi := HP.out p hlt S.out.2 (by rw [← HV.out.1]; exact HSM.out)
        rw [← HV.out.2.1, ← HV.out.2.2] at hfi
        exact bodyPost_ret (v := .tuple #[.int .i64 f1, .int .i64 t1, .bool true]) (by simp [results, Tryz.results16, go_sem]) rfl ⟨f1, t1, True, by rw [Pl.dec_yes trivial], hfi, by repeat (first | exact S.out.1.2.trans ((below_alloc _ _).mono S.out.1.2.size) | refine below_drewN ?_ _)⟩
    · have hpe : p = m := by omega
      subst hpe
      go_wp2_with fail
      exact bodyPost_ret (v := .tuple #[.int .i64 0, .int .i64 0, .bool false]) (by simp [results, Tryz.results16, go_sem]) rfl ⟨0, 0, False, by rw [Pl.dec_no id], HQ.out S.out.2, S.out.1.2⟩
end Go.Proofs.YtafcnijfoejboaaGreatDoor.W
namespace Go.Proofs.YtafcnijfoejboaaGreatDoor.Pl
theorem off_foff {kk : Int} {G : Nat → Int × Int} {n : Nat} (h : ∀ p, p < n + 1 → nb (G p)) : off kk G n = foff kk G n := by
  have hg2 := (h n (by omega)).2
  unfold off foff
  by_cases c : kk = 10
  · rw [if_pos c, (fl_beh c n (fun p hp => h p (by omega))).1, cap_up (beh_nn (kk := kk) n (fun p hp => h p (by omega))).1 hg2]
  · rw [if_neg c, (fl_uni c n (fun p hp => h p (by omega))).2.1]
    have hm : up 0 (G n).2 = 0 := by
      unfold up
      have h3 : (G n).2 = 1 ∨ (G n).2 = 2 ∨ (G n).2 = 3 ∨ (G n).2 = 4 := by omega
      rcases h3 with q | q | q | q <;> rw [q] <;> decide
    rw [hm]; decide
theorem beh_congr {kk : Int} {G G' : Nat → Int × Int} : ∀ n, (∀ p, p < n → G p = G' p) → beh kk G n = beh kk G' n
  | 0, _ => rfl
  | n + 1, h => by
    have ih := beh_congr (kk := kk) n (fun p hp => h p (by omega))
    show (if kk = 10 then _ else _) = (if kk = 10 then _ else _)
    rw [ih, h n (by omega)]
theorem foff_congr {kk : Int} {G G' : Nat → Int × Int} (n : Nat) (h : ∀ p, p ≤ n → G p = G' p) : foff kk G n = foff kk G' n := by
  unfold foff
  rw [beh_congr n (fun p hp => h p (by omega)), h n (Nat.le_refl _)]
theorem whole_tag {x : Ty} (ht : tagd x.k = true) (hz : 0 < x.of.length) : x.whole = true := by simp [Ty.whole, ht, hz]
theorem laid_off {len : Nat} {xs : List Ty} {j : Nat} {ws : List Int} (hxl : xs.length = len) (ho : W.TOk len xs) (hj : j < len) (ht : tagd (xs.getD j Ty.zero).k = true) (h : laid xs j ws) : ws.length = (xs.getD j Ty.zero).of.length ∧ ∀ p, p < (xs.getD j Ty.zero).of.length → ws.getD p 0 = foff (xs.getD j Ty.zero).k (parts len xs j) p := by
  obtain ⟨G, hG, rfl⟩ := h ht
  refine ⟨offs_length _ _ _, fun p hp => ?_⟩
  rw [offs_at _ _ _ p hp, off_foff (fun q hq => (hG q (by omega)).1)]
  refine foff_congr p (fun q hq => ?_)
  have h1 := (fit_parts (ho.2.1 j hj) (.inr ht) q (by omega)).1
  unfold parts
  have := layP_of ho (i := (ofAt xs j q).toNat) (by omega) (hG q (by omega)).2
  rw [Int.toNat_of_nonneg h1.1] at this
  exact this.symm
end Go.Proofs.YtafcnijfoejboaaGreatDoor.Pl
namespace Go.Proofs.YtafcnijfoejboaaGreatDoor.W
open Go.RowKit
set_option maxHeartbeats 4000000 in
set_option maxRecDepth 8000 in
theorem specFieldOf {lo : Nat} (a : Option Addr) (len cap : Nat) (xs : List Pl.Ty) (i : Int) (nm : ByteArray) (w : World) (hT : TRow lo w a len cap xs) :
    Calls Tryz.prog 23 #[.slice a len cap, .int .i64 i, .string nm] w fun e w' => ∃ o t : Int, ∃ d : Prop, e = .returned (.tuple #[.int .i64 o, .int .i64 t, .bool (Pl.dec d)]) ∧ Pl.FieldIs len xs i nm o t (Pl.dec d) ∧ Below w.heap.size w w' := by
  have hm : (len : Int) ≤ 9223372036854775807 := by have := hT.small; omega
  have HXL : Hid (xs.length = len) := hT.1
  have HS : Hid (Calls Tryz.prog 15 #[.slice a len cap] w fun e w' => e = .returned (.bool (Pl.dec (TOk len xs))) ∧ Below w.heap.size w w') := specTypesOk a len cap xs w hT
  have HT : Hid (TRow lo w a len cap xs) := hT
  clear hT
  by_cases hok : TOk len xs
  rotate_left
  · have HD : Hid (Pl.dec (TOk len xs) = false) := Pl.dec_no hok
    have HN : Hid (Pl.FieldIs len xs i nm 0 0 (Pl.dec False)) := .inr ⟨Pl.dec_no id, rfl, rfl, fun q => hok q.1⟩
    clear hok
    go_enter Tryz.func23, Tryz.ntmps23
    go_wp2_with (go_at_call 15; refine HS.out.mono ?_; rintro e u1 ⟨rfl, d1⟩; rw [HD.out]; have D1 : Hid (Below w.heap.size w u1) := d1; clear d1)
    exact bodyPost_ret (v := .tuple #[.int .i64 0, .int .i64 0, .bool false]) (by simp [results, Tryz.results23, go_sem]) rfl ⟨0, 0, False, by rw [Pl.dec_no id], HN.out, D1.out⟩
  have HY : Hid (Pl.dec (TOk len xs) = true ∧ TOk len xs) := ⟨Pl.dec_yes hok, hok⟩
  clear hok
  by_cases hi : 0 ≤ i ∧ i < len
  rotate_left
  · have HN : Hid (Pl.FieldIs len xs i nm 0 0 (Pl.dec False)) := .inr ⟨Pl.dec_no id, rfl, rfl, fun ⟨_, j, p, e, hj, _⟩ => hi (by omega)⟩
    by_cases h0 : i < 0
    · clear hi
      go_enter Tryz.func23, Tryz.ntmps23
      go_wp2_with (go_at_call 15; refine HS.out.mono ?_; rintro e u1 ⟨rfl, d1⟩; rw [HY.out.1]; have D1 : Hid (Below w.heap.size w u1) := d1; clear d1)
      exact bodyPost_ret (v := .tuple #[.int .i64 0, .int .i64 0, .bool false]) (by simp [results, Tryz.results23, go_sem]) rfl ⟨0, 0, False, by rw [Pl.dec_no id], HN.out, D1.out⟩
    · have h1 : (len : Int) ≤ i := by omega
      clear hi
      go_enter Tryz.func23, Tryz.ntmps23
      go_wp2_with (go_at_call 15; refine HS.out.mono ?_; rintro e u1 ⟨rfl, d1⟩; rw [HY.out.1]; have D1 : Hid (Below w.heap.size w u1) := d1; clear d1)
      exact bodyPost_ret (v := .tuple #[.int .i64 0, .int .i64 0, .bool false]) (by simp [results, Tryz.results23, go_sem]) rfl ⟨0, 0, False, by rw [Pl.dec_no id], HN.out, D1.out⟩
  obtain ⟨j, rfl⟩ : ∃ j : Nat, i = j := ⟨i.toNat, by omega⟩
  have hj : j < len := by omega
  have hjj : (j : Int) < (len : Int) := by omega
  clear hi
  obtain ⟨b, off, v, s, rfl, hlo, hb1, hc, hrow, hs⟩ := HT.out.at hj
  have HP : Hid (∀ p, p < (xs.getD j Pl.Ty.zero).names.length → (∀ q, q < p → Pl.same ((xs.getD j Pl.Ty.zero).names.getD q ⟨#[]⟩) nm = false) → Pl.same ((xs.getD j Pl.Ty.zero).names.getD p ⟨#[]⟩) nm = true → Pl.FieldIs len xs j nm (Pl.foff (xs.getD j Pl.Ty.zero).k (Pl.parts len xs j) p) ((xs.getD j Pl.Ty.zero).of.getD p 0) (Pl.dec True)) := fun p hp h1 h2 => .inl ⟨Pl.dec_yes trivial, HY.out.2, j, p, rfl, hj, hp, h1, h2, rfl, rfl⟩
  have HQ : Hid ((∀ q, q < (xs.getD j Pl.Ty.zero).names.length → Pl.same ((xs.getD j Pl.Ty.zero).names.getD q ⟨#[]⟩) nm = false) → Pl.FieldIs len xs j nm 0 0 (Pl.dec False)) := fun h => .inr ⟨Pl.dec_no id, rfl, rfl, fun ⟨_, j', p, e, hj', hp, hq9⟩ => by
    have : j' = j := by omega
    subst this
    rw [h p hp] at hq9; cases hq9⟩
  have hfit := HY.out.2.2.1 j hj
  have hnl : (xs.getD j Pl.Ty.zero).names.length ≤ (xs.getD j Pl.Ty.zero).of.length ∧ (xs.getD j Pl.Ty.zero).names.length ≤ 1000000 := by
    cases ht : Pl.tagd (xs.getD j Pl.Ty.zero).k
    · have := Pl.names_none hfit ht; omega
    · have := Pl.names_of hfit ht; omega
  have HL : Hid (∀ U, Below w.heap.size w U → ∀ p, p < (xs.getD j Pl.Ty.zero).names.length → Calls Tryz.prog 27 #[.slice (some ⟨b, off, none⟩) len cap] U fun e u2 => Below U.heap.size U u2 ∧ ∃ zz b9 o9 n9 c9, e = .returned (.slice (some ⟨zz, 0, none⟩) len len) ∧ u2.cell? ⟨zz, j * 4 + 3, none⟩ = some (.slice (some ⟨b9, o9, none⟩) n9 c9) ∧ p < n9 ∧ (n9 : Int) ≤ 9223372036854775807 ∧ u2.cell? ⟨b9, o9 + p, none⟩ = some (.int .i64 (Pl.foff (xs.getD j Pl.Ty.zero).k (Pl.parts len xs j) p))) := fun U hU p hp => by
    refine (l7Lay_any (some ⟨b, off, none⟩) len cap xs U (HT.out.keep hU) HY.out.2.1 (Pl.form_shp HXL.out ((Pl.fits_iff HXL.out HY.out.2.2.2).1 HY.out.2.2.1))).mono ?_
    rintro e u2 ⟨rfl, L, hS, hR, hD⟩
    have ht : Pl.tagd (xs.getD j Pl.Ty.zero).k = true := by
      cases ht : Pl.tagd (xs.getD j Pl.Ty.zero).k
      · have := Pl.names_none hfit ht; omega
      · rfl
    have hw : (xs.getD j Pl.Ty.zero).whole = true := by
      have hz : 0 < (xs.getD j Pl.Ty.zero).of.length := by omega
      exact Pl.whole_tag ht hz
    obtain ⟨f, hf⟩ := whole_lays HY.out.2 hj hw
    have hwh := Pl.can_done hS.r.1 HXL.out hD f j hf
    obtain ⟨hl1, hl2⟩ := Pl.laid_off HXL.out HY.out.2 hj ht (hR.2.2 j hwh)
    obtain ⟨v9, q3, hr9⟩ := hS.r.ats hj
    have hv9 : v9.len = (xs.getD j Pl.Ty.zero).of.length := hr9.1.symm.trans hl1
    obtain ⟨b9, o9, ea, _, _, hc9⟩ := (hr9.2.2.2.2).resolve_left (by omega)
    refine ⟨hS.b, U.heap.size, b9, o9, v9.len, v9.cap, rfl, by rw [q3, ea], by omega, by have := hr9.small; omega, ?_⟩
    rw [hc9 p (by omega), hl2 p (by omega)]
  have hnn : s.len = (xs.getD j Pl.Ty.zero).names.length := hs.1.1.symm
  have hvv : v.len = (xs.getD j Pl.Ty.zero).of.length := hrow.1.symm
  clear hfit
  generalize xs.getD j Pl.Ty.zero = x at HP HQ HL hc hrow hs hnl hnn hvv
  obtain ⟨kk, nn, zs, nms⟩ := x
  simp only at HP HQ HL hrow hs hnl hnn hvv
  obtain ⟨c0, c1, c2, c3⟩ := ty_cells hc
  obtain ⟨va, vl, vc⟩ := v
  obtain ⟨sa, sl, sc⟩ := s
  simp only at c0 c1 c2 c3 hrow hs hnn hvv
  have HC : Hid (∀ U, Below w.heap.size w U → b < U.heap.size ∧ U.cell? ⟨b, off + j * 4, none⟩ = some (.int .i64 kk) ∧ U.cell? ⟨b, off + j * 4 + 1, none⟩ = some (.int .i64 nn) ∧ U.cell? ⟨b, off + j * 4 + 2, none⟩ = some (.slice va vl vc) ∧ U.cell? ⟨b, off + j * 4 + 3, none⟩ = some (.slice sa sl sc)) := fun U hU => ⟨Nat.lt_of_lt_of_le hb1 hU.size, (hU.cell (p := ⟨b, off + j * 4, none⟩) hb1).trans c0, (hU.cell (p := ⟨b, off + j * 4 + 1, none⟩) hb1).trans c1, (hU.cell (p := ⟨b, off + j * 4 + 2, none⟩) hb1).trans c2, (hU.cell (p := ⟨b, off + j * 4 + 3, none⟩) hb1).trans c3⟩
  have HRW : Hid (Row .i64 lo w va vl vc zs) := hrow
  have HSW : Hid (SRow lo w sa sl sc nms) := hs
  subst hnn
  have hsl : (nms.length : Int) ≤ 1000000 := by omega
  have hvl : (vl : Int) ≤ 9223372036854775807 := by have := hrow.small; omega
  have hsv : (nms.length : Int) ≤ (vl : Int) := by omega
  clear hc hrow hs hnl hvv c0 c1 c2 c3 hb1 hlo
  go_enter Tryz.func23, Tryz.ntmps23
  go_wp2_with (go_at_call 15; refine HS.out.mono ?_; rintro e u1 ⟨rfl, d1⟩; rw [HY.out.1]; have D1 : Hid (Below w.heap.size w u1) := d1; clear d1; obtain ⟨hb1, c0, c1, c2, c3⟩ := HC.out u1 D1.out)
  go_loopw [10] (fun t wr => ∃ p : Nat, p ≤ nms.length ∧ t = .int .i64 p ∧ wr = u1.alloc (.cells #[.int .i64 kk, .int .i64 nn, .slice va vl vc, .slice sa nms.length sc] 31) ∧ Hid (∀ q, q < p → Pl.same (nms.getD q ⟨#[]⟩) nm = false)) (fun t _ => nms.length - (intOf t).toNat)
  case atStart => exact ⟨0, Nat.zero_le _, rfl, rfl, fun q hq => absurd hq (Nat.not_lt_zero _)⟩
  case round =>
    obtain ⟨p, hpm, rfl, rfl, S⟩ := hrel
    by_cases hlt : p < nms.length
    · have hpi : (p : Int) < (nms.length : Int) := by omega
      obtain ⟨b3, o3, rfl, _, hb3, k0, _⟩ := (HSW.out.keep D1.out).at hlt
      obtain ⟨b2, o2, rfl, _, hb2, hcp⟩ := ((HRW.out.keep D1.out).2.2.2.2).resolve_left (by omega)
      have k1 := hcp p (by omega)
      obtain ⟨n1, hn1⟩ : ∃ n1, n1 = nms.getD p ⟨#[]⟩ := ⟨_, rfl⟩
      obtain ⟨t1, ht1⟩ : ∃ t1, t1 = zs.getD p 0 := ⟨_, rfl⟩
      rw [← hn1] at k0
      rw [← ht1] at k1
      have HV : Hid (n1 = nms.getD p ⟨#[]⟩ ∧ t1 = zs.getD p 0) := ⟨hn1, ht1⟩
      clear hn1 ht1 hcp
      cases hs : (n1.toList == nm.toList)
      · have HSM : Hid (Pl.same n1 nm = false) := hs
        go_wp2_with fail
        go_roundw
        case rel => exact ⟨p + 1, by omega, by go_num, by first | rfl | trivial, fun q hq => by
          by_cases e : q = p
          · rw [e, ← HV.out.1]; exact HSM.out
          · exact S.out q (by omega)⟩
        case measure => simp [intOf]; omega
      · have HSM : Hid (Pl.same n1 nm = true) := hs
        have hpv : (p : Int) < (vl : Int) := by omega
        have hfi := HP.out p hlt S.out (by rw [← HV.out.1]; exact HSM.out)
        have HLp : Hid _ := fun U hU => HL.out U hU p hlt
        obtain ⟨f1, hf1⟩ : ∃ f1, f1 = Pl.foff kk (Pl.parts len xs j) p := ⟨_, rfl⟩
        rw [← HV.out.2, ← hf1] at hfi
        have HFI : Hid (Pl.FieldIs len xs j nm f1 t1 (Pl.dec True)) := hfi
        obtain ⟨X, hX⟩ : ∃ X, u1.alloc (.cells #[.int .i64 kk, .int .i64 nn, .slice (some ⟨b2, o2, none⟩) vl vc, .slice (some ⟨b3, o3, none⟩) nms.length sc] 31) = X := ⟨_, rfl⟩
        have hXs : u1.heap.size < X.heap.size := by rw [← hX]; simp
        have hXB : Below u1.heap.size u1 X := by rw [← hX]; exact below_alloc _ _
        have hXr : X.heap[u1.heap.size]? = some (.cells #[.int .i64 kk, .int .i64 nn, .slice (some ⟨b2, o2, none⟩) vl vc, .slice (some ⟨b3, o3, none⟩) nms.length sc] 31) := by rw [← hX]; exact heap_alloc_new u1 _
        have BX : Hid (Below w.heap.size w X) := D1.out.trans (hXB.mono D1.out.size)
        have HLX : Hid (∀ U, Below X.heap.size X U → Calls Tryz.prog 27 #[.slice (some ⟨b, off, none⟩) len cap] U fun e u2 => Below w.heap.size w u2 ∧ ∃ zz b9 o9 n9 c9, e = .returned (.slice (some ⟨zz, 0, none⟩) len len) ∧ u2.cell? ⟨zz, j * 4 + 3, none⟩ = some (.slice (some ⟨b9, o9, none⟩) n9 c9) ∧ (p : Int) < (n9 : Int) ∧ (n9 : Int) ≤ 9223372036854775807 ∧ u2.cell? ⟨b9, o9 + p, none⟩ = some (.int .i64 f1) ∧ u2.cell? ⟨u1.heap.size, 2, none⟩ = some (.slice (some ⟨b2, o2, none⟩) vl vc) ∧ u2.cell? ⟨b2, o2 + p, none⟩ = some (.int .i64 t1)) := fun U hU => by
          have hU' : Below w.heap.size w U := BX.out.trans (hU.mono BX.out.size)
          refine (HLp.out U hU').mono ?_
          rintro e u2 ⟨hb, zz, b9, o9, n9, c9, he, r1, r2, r3, r4⟩
          have hXU : Below X.heap.size X u2 := hU.trans (hb.mono hU.size)
          refine ⟨hU'.trans (hb.mono hU'.size), zz, b9, o9, n9, c9, he, r1, by omega, r3, by rw [hf1]; exact r4, ?_, ?_⟩
          · rw [hXU.cell (p := ⟨u1.heap.size, 2, none⟩) hXs, cell_of_row X _ 2 _ _ _ hXr]; rfl
          · exact (hXU.cell (p := ⟨b2, o2 + p, none⟩) (by show b2 < _; omega)).trans ((hXB.cell (p := ⟨b2, o2 + p, none⟩) hb2).trans k1)
        have x2 : X.cell? ⟨u1.heap.size, 2, none⟩ = some (.slice (some ⟨b2, o2, none⟩) vl vc) := by rw [cell_of_row X _ 2 _ _ _ hXr]; rfl
        have x3 : X.cell? ⟨u1.heap.size, 3, none⟩ = some (.slice (some ⟨b3, o3, none⟩) nms.length sc) := by rw [cell_of_row X _ 3 _ _ _ hXr]; rfl
        have x4 : X.cell? ⟨b2, o2 + p, none⟩ = some (.int .i64 t1) := (hXB.cell (p := ⟨b2, o2 + p, none⟩) hb2).trans k1
        have x5 : X.cell? ⟨b3, o3 + p, none⟩ = some (.string n1) := (hXB.cell (p := ⟨b3, o3 + p, none⟩) hb3).trans k0
        clear hfi hf1 hXB hXr k0 k1 c0 c1 c2 c3 hb1 hb2 hb3 HL HP HQ HLp
        rw [hX]
        clear hX
        go_wp2_with fail
        go_region_with (go_at_call 27; refine (HLX.out _ (by repeat (first | exact Below.refl _ _ | refine below_drewN ?_ _))).mono ?_; rintro e u2 ⟨hb, zz, b9, o9, n9, c9, rfl, r1, r2, r3, r4, r5, r6⟩; have HB2 : Hid (Below w.heap.size w u2) := hb; clear hb)
        all_goals go_wp2_with fail
        all_goals exact bodyPost_ret (v := .tuple #[.int .i64 f1, .int .i64 t1, .bool true]) (by simp [results, Tryz.results23, go_sem]) rfl ⟨f1, t1, True, by rw [Pl.dec_yes trivial], HFI.out, by repeat (first | exact HB2.out | refine below_drewN ?_ _)⟩
    · have hpe : p = nms.length := by omega
      subst hpe
      go_wp2_with fail
      exact bodyPost_ret (v := .tuple #[.int .i64 0, .int .i64 0, .bool false]) (by simp [results, Tryz.results23, go_sem]) rfl ⟨0, 0, False, by rw [Pl.dec_no id], HQ.out S.out, D1.out.trans ((below_alloc _ _).mono D1.out.size)⟩
end Go.Proofs.YtafcnijfoejboaaGreatDoor.W
