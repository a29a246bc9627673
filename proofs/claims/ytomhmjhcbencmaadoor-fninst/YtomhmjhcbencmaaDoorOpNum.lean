import Derived.Test.YtomhmjhcbencmaaDoorKeys
import Derived.Test.YtomhmjhcbencmaaDoorRows2
import Derived.Maps.OwnSet
namespace Go.Proofs.YtomhmjhcbencmaaDoor.Pl
open Go Go.Maps
theorem nm_short : ∀ i : Nat, i < 48 → (rows.getD i ([], 0, [])).1.length < 7 := by decide +kernel
theorem nm_apart : ∀ i : Nat, i < 48 → ∀ j : Nat, j < 48 → (rows.getD i ([], 0, [])).1 = (rows.getD j ([], 0, [])).1 → i = j := by decide +kernel
theorem nm_size (i : Nat) (h : i < 48) : (nm i).size < 7 := by
  have := nm_short i h
  unfold nm; show (Array.size _) < 7; simpa using this
theorem nm_inj (i j : Nat) (hi : i < 48) (hj : j < 48) (h : nm i = nm j) : i = j := by
  refine nm_apart i hi j hj ?_
  unfold nm at h
  have h2 := congrArg (fun b : ByteArray => b.data.toList) h
  simpa using h2
/-- the map after n rows -/
def datO (kl : Nat → Lit) : Nat → DataW Unit
  | 0 => .map []
  | n + 1 => (datO kl n).put (kl n) (.lit (.int .i64 (n : Int)))
theorem datO_isMap (kl : Nat → Lit) (n : Nat) : IsMap (datO kl n) := by
  induction n with
  | zero => exact ⟨[], rfl⟩
  | succ n ih => obtain ⟨es, he⟩ := ih; unfold datO; rw [he]; exact ⟨_, rfl⟩
theorem datO_miss (kl : Nat → Lit) (x : Lit) (z : DataW Unit) (n : Nat) (h : ∀ i, i < n → x ≠ kl i) : (datO kl n).atKey x z = z := by
  induction n with
  | zero => rfl
  | succ n ih => unfold datO; rw [atKey_put_other (h n (by omega))]; exact ih fun i hi => h i (by omega)
theorem datO_hit (kl : Nat → Lit) (j : Nat) (z : DataW Unit) (hk : WideAt.IsKeyLit (kl j)) (n : Nat) (hj : j < n) (h : ∀ i, j < i → i < n → kl j ≠ kl i) : (datO kl n).atKey (kl j) z = .lit (.int .i64 (j : Int)) := by
  induction n with
  | zero => omega
  | succ n ih =>
    by_cases e : j = n
    · subst e; unfold datO; exact atKey_put_same (datO_isMap kl j) hk _ _
    · unfold datO; rw [atKey_put_other (h n (by omega) (by omega))]; exact ih (by omega) fun i h1 h2 => h i h1 (by omega)
end Go.Proofs.YtomhmjhcbencmaaDoor.Pl
namespace Go.Proofs.YtomhmjhcbencmaaDoor.W
open Go.RowKit Go.Maps
theorem owns_belowO {P : Program} {k : TypeId} {R : Value → Option (DataW Unit × List MemPlace)} {w w' : World} {b n : Nat} {D : DataW Unit} (h : w.ownsMap P k R b n D) (hb : Below w.heap.size w w') : w'.ownsMap P k R b n D := by
  have hlt := h.lt
  obtain ⟨es, c, hh, r⟩ := h
  exact ⟨es, c, by rw [hb.block b hlt]; exact hh, r⟩
theorem zero3O (w : World) : (zeroValue 3).run Tryd.prog w = .ok (.int .i64 0) w := by kernel_rfl
theorem u57 : Tryd.prog.underlying 69 = some (.map 72 3) := by kernel_rfl
set_option maxRecDepth 20000 in
set_option maxHeartbeats 1000000 in
theorem opNumbers_any (kl : Nat → Lit) (hkl : ∀ k, keyOf Tryd.prog 72 (.agg (kcells (Pl.nm k)).toArray) = some (kl k)) (w : World) : Calls Tryd.prog 41 #[] w fun e w' => e = .returned (.map (some w.heap.size)) ∧ w'.ownsMap Tryd.prog 72 (plainElem Tryd.prog 3) w.heap.size 48 (Pl.datO kl 48) ∧ Below w.heap.size w w' := by
  have HKL : Hid (∀ k, keyOf Tryd.prog 72 (.agg (kcells (Pl.nm k)).toArray) = some (kl k)) := hkl
  clear hkl
  have hmm := @run_makeMap Tryd.prog
  go_enter Tryd.func41, Tryd.ntmps41
  go_wp2_with (go_at_call 58; refine (instTable_any _).mono ?_; rintro e w' ⟨rfl, rfl⟩)
  go_loopw [6] (fun i wr => ∃ k : Nat, k ≤ 48 ∧ i = .int .i64 k ∧ wr.ownsMap Tryd.prog 72 (plainElem Tryd.prog 3) w.heap.size k (Pl.datO kl k) ∧ Below w.heap.size w wr)
    (fun i _ => 48 - (intOf i).toNat)
  case atStart => exact ⟨0, Nat.zero_le _, rfl, (World.ownsMap_made _ _ _ _).alloc _, ((Below.refl _ _).alloc (Nat.le_refl _) _).alloc (by simp) _⟩
  case round =>
    obtain ⟨k, hk, rfl, hown, hnx⟩ := hrel
    by_cases hlt : k < 48
    · have hi := fun w => tab_index w k hlt
      unfold Pl.rowV at hi
      have hsz : (Pl.nm k).size ≤ maxLen := by have := Pl.nm_size k hlt; unfold maxLen; omega
      have HS : Hid ((Pl.nm k).size ≤ maxLen) := hsz
      have HO : Hid (wr.ownsMap Tryd.prog 72 (plainElem Tryd.prog 3) w.heap.size k (Pl.datO kl k)) := hown
      clear hsz hown
      go_wp2_with (first
        | (go_at_call 42; refine (keyFn_any _ HS.out _).mono ?_; rintro e u1 ⟨rfl, hb1⟩; have HO1 := owns_belowO (HO.out.alloc _) hb1; have HB1 := (hnx.alloc hnx.size _).trans (hb1.mono (by have := hnx.size; simp; omega)))
        | (at_mapUpdate; refine wpList_mapUpdate_own _ rfl _ _ _ 69 rfl 72 3 law60 u57 _ w.heap.size k _ rfl HO1 (by unfold maxLen; omega) _ _ _ rfl rfl (HKL.out k) _ [] (plainElem_int Tryd.underlying3 (WalkArith.wf_i64 (by omega))) ?_; intro w1 hown1 hgrow1))
      go_roundw
      case rel => exact ⟨k + 1, by omega, by go_num, hown1, HB1.grown hgrow1 HB1.size (fun j hj => by cases hj; exact Nat.le_refl _)⟩
      case measure => simp [intOf]; omega
    · have e : k = 48 := by omega
      subst e
      go_wp2
      go_ret
      exact ⟨rfl, hown, hnx⟩
/-- the keys of the names: each has one, no two the same -/
theorem keys_existO : ∃ kl : Nat → Lit, ∀ k, keyOf Tryd.prog 72 (.agg (kcells (Pl.nm k)).toArray) = some (kl k) :=
  ⟨fun k => Classical.choose (key_of (Pl.nm k)), fun k => Classical.choose_spec (key_of (Pl.nm k))⟩
theorem cells_of_keyO {s t : ByteArray} {l : Lit} (h : keyOf Tryd.prog 72 (.agg (kcells s).toArray) = some l) (h' : keyOf Tryd.prog 72 (.agg (kcells t).toArray) = some l) : kcells s = kcells t := by
  have e := law60.inj h h'
  simp only [Value.agg.injEq] at e
  simpa using e
theorem kl_apartO {kl : Nat → Lit} (hkl : ∀ k, keyOf Tryd.prog 72 (.agg (kcells (Pl.nm k)).toArray) = some (kl k)) (i j : Nat) (hi : i < 48) (hj : j < 48) (h : kl i = kl j) : i = j :=
  Pl.nm_inj i j hi hj (kcells_inj _ _ (Pl.nm_size i hi) (Pl.nm_size j hj) (cells_of_keyO (hkl i) (by rw [h]; exact hkl j)))
/-- the number of a name -/
def IsNum (s : ByteArray) (c : Nat) : Prop := (1 ≤ c ∧ c < 48 ∧ Pl.nm c = s) ∨ (c = 0 ∧ ∀ t, 1 ≤ t → t < 48 → Pl.nm t ≠ s)
theorem IsNum.uniq {s : ByteArray} {a b : Nat} (h : IsNum s a) (h' : IsNum s b) : a = b := by
  rcases h with ⟨h1, h2, h3⟩ | ⟨h1, h2⟩ <;> rcases h' with ⟨g1, g2, g3⟩ | ⟨g1, g2⟩
  · exact Pl.nm_inj a b h2 g2 (h3.trans g3.symm)
  · exact absurd h3 (g2 a h1 h2)
  · exact absurd g3 (h2 b g1 g2)
  · omega
theorem num_of_map {kl : Nat → Lit} (hkl : ∀ k, keyOf Tryd.prog 72 (.agg (kcells (Pl.nm k)).toArray) = some (kl k)) (s : ByteArray) (x : Lit) (hx : keyOf Tryd.prog 72 (.agg (kcells s).toArray) = some x) (c : Int)
    (hat : (Pl.datO kl 48).atKey x (.lit (.int .i64 0)) = .lit (.int .i64 c)) : ∃ m : Nat, c = m ∧ IsNum s m := by
  by_cases hm : ∃ i, i < 48 ∧ x = kl i
  · obtain ⟨i, hi, rfl⟩ := hm
    rw [Pl.datO_hit kl i _ (law60.key hx) 48 hi (fun j h1 h2 e => by have := kl_apartO hkl i j hi h2 e; omega)] at hat
    simp only [DataW.lit.injEq, Lit.int.injEq, true_and] at hat
    refine ⟨i, hat.symm, ?_⟩
    have hc := cells_of_keyO (hkl i) hx
    by_cases hs : s.size < 7
    · have e := kcells_inj _ _ (Pl.nm_size i hi) hs hc
      by_cases h0 : i = 0
      · subst h0
        exact .inr ⟨rfl, fun t h1 h2 e' => by have := Pl.nm_inj t 0 h2 (by decide) (e'.trans e.symm); omega⟩
      · exact .inl ⟨by omega, hi, e⟩
    · have h0 : kcells (Pl.nm 0) = kcells s := by
        have e1 := kcells_long s hs
        have e2 : (kcells (Pl.nm 0)).toArray = #[.int .u8 0, .int .u8 0, .int .u8 0, .int .u8 0, .int .u8 0, .int .u8 0, .int .u8 0]   := by kernel_rfl
        have e3 := e2.trans e1.symm
        simpa using e3
      have e4 := kcells_inj _ _ (Pl.nm_size i hi) (Pl.nm_size 0 (by decide)) (hc.trans h0.symm)
      have e5 := Pl.nm_inj i 0 hi (by decide) e4
      subst e5
      exact .inr ⟨rfl, fun t h1 h2 e' => by have := Pl.nm_size t h2; rw [e'] at this; omega⟩
  · rw [Pl.datO_miss kl x _ 48 (fun i hi e => hm ⟨i, hi, e⟩)] at hat
    simp only [DataW.lit.injEq, Lit.int.injEq, true_and] at hat
    refine ⟨0, hat.symm, .inr ⟨rfl, fun t h1 h2 e => ?_⟩⟩
    subst e
    exact hm ⟨t, h2, Option.some.inj (hx.symm.trans (hkl t))⟩
set_option maxHeartbeats 400000 in
theorem implOpNumber_any (s : ByteArray) (hs : s.size ≤ maxLen) (w : World) : Calls Tryd.prog 10 #[.string s] w fun e w' => ∃ m : Nat, e = .returned (.int .i64 (m : Int)) ∧ IsNum s m ∧ Below w.heap.size w w' := by
  obtain ⟨kl, hkl⟩ := keys_existO
  obtain ⟨x, hx⟩ := key_of s
  have HKL : Hid (∀ k, keyOf Tryd.prog 72 (.agg (kcells (Pl.nm k)).toArray) = some (kl k)) := hkl
  have HX : Hid (keyOf Tryd.prog 72 (.agg (kcells s).toArray) = some x) := hx
  have HS : Hid (s.size ≤ maxLen) := hs
  clear hkl hx hs
  go_enter Tryd.func10, Tryd.ntmps10
  go_wp2_with fail
  refine (opNumbers_any kl HKL.out _).mono ?_
  rintro e u1 ⟨rfl, ho1, hb1⟩
  have HO1 : Hid (u1.ownsMap Tryd.prog 72 (plainElem Tryd.prog 3) w.heap.size 48 (Pl.datO kl 48)) := ho1
  clear ho1
  go_wp2_with fail
  refine (keyFn_any _ HS.out _).mono ?_
  rintro e u2 ⟨rfl, hb2⟩
  have HO2 := owns_belowO HO1.out hb2
  go_wp2_with (at_lookup; refine wpList_lookup_own_int _ rfl _ _ 69 rfl 72 3 .i64 law60 u57 Tryd.underlying3 (zero3O _) w.heap.size 48 _ rfl HO2 _ _ rfl HX.out ?_; intro c hat hwc)
  obtain ⟨m, rfl, hnum⟩ := num_of_map HKL.out s x HX.out c hat
  go_ret
  exact ⟨m, rfl, hnum, hb1.trans (hb2.mono hb1.size)⟩
theorem ne_textO {a b : ByteArray} (h : ¬ a = b) : (a.toList == b.toList) = false := by
  rw [beq_eq_false_iff_ne]
  intro e
  rw [Lib.toList_data, Lib.toList_data] at e
  exact h (by rw [← Lib.mk_data a, ← Lib.mk_data b, e])
end Go.Proofs.YtomhmjhcbencmaaDoor.W
