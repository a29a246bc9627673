import Derived.Test.YtafcnijfoejboaaDoorP08
import Derived.Maps.OwnOps
import Derived.Maps.OwnSet
import Derived.Maps.Views
set_option linter.unusedVariables false
set_option linter.unusedSimpArgs false
namespace Go.Proofs.YtafcnijfoejboaaDoor.Pl
theorem take_succ_getD {ss : List ByteArray} {k : Nat} (hk : k < ss.length) : ss.take (k + 1) = ss.take k ++ [ss.getD k ⟨#[]⟩] := by
  rw [List.take_add_one, List.getElem?_eq_getElem hk, List.getD_eq_getElem?_getD, List.getElem?_eq_getElem hk]
  rfl
theorem inS_step {ss : List ByteArray} {k : Nat} (hk : k < ss.length) (t : ByteArray) : inS (ss.take (k + 1)) t = (inS (ss.take k) t || ((ss.getD k ⟨#[]⟩).toList == t.toList)) := by
  unfold inS
  rw [take_succ_getD hk, List.any_append]
  simp
theorem apart_yes {ss : List ByteArray} (h : ∀ k, k < ss.length → nam (ss.getD k ⟨#[]⟩) = true ∧ inS (ss.take k) (ss.getD k ⟨#[]⟩) = false) : apart ss = true := decide_eq_true h
theorem apart_no {ss : List ByteArray} {k : Nat} (hk : k < ss.length) (h : nam (ss.getD k ⟨#[]⟩) = false ∨ inS (ss.take k) (ss.getD k ⟨#[]⟩) = true) : apart ss = false := by
  refine decide_eq_false (fun hc => ?_)
  obtain ⟨h1, h2⟩ := hc k hk
  rcases h with h | h
  · rw [h] at h1; cases h1
  · rw [h] at h2; cases h2
end Go.Proofs.YtafcnijfoejboaaDoor.Pl
namespace Go.Proofs.YtafcnijfoejboaaDoor.W
open Go.RowKit Go.Maps Go.WideMaps
theorem ownsMap_keep {H : Type} {w w' : World} {P : Program} {k : TypeId} {R : Value → Option (DataW H × List MemPlace)} {b n c : Nat} {D : DataW H} (h : w.ownsMap P k R b n D) (hb : Below c w w') (hc : b < c) : w'.ownsMap P k R b n D := by
  obtain ⟨es, clock, h1, h2⟩ := h
  exact ⟨es, clock, (hb.block b hc).trans h1, h2⟩
theorem strLaw : Keyed Tryd.prog 9 := string_keyed Tryd.underlying9
theorem zeroI (w : World) : (zeroValue 3).run Tryd.prog w = .ok (.int .i64 0) w := by kernel_rfl
def Keys (D : DataW Unit) (ss : List ByteArray) : Prop := IsMap D ∧ ∀ t : ByteArray, Maps.has D (.string t.data.toList) = Pl.inS ss t
theorem Keys.nil : Keys (.map []) [] := ⟨isMap_empty, fun t => rfl⟩
theorem Keys.put {D : DataW Unit} {ss : List ByteArray} {k : Nat} (h : Keys D (ss.take k)) (hk : k < ss.length) (d : DataW Unit) : Keys (D.put (.string (ss.getD k ⟨#[]⟩).data.toList) d) (ss.take (k + 1)) := by
  refine ⟨h.1.put _ _, fun t => ?_⟩
  rw [Pl.inS_step hk]
  by_cases e : (ss.getD k ⟨#[]⟩).data.toList = t.data.toList
  · rw [e, has_put_same h.1 (by trivial)]
    have : ((ss.getD k ⟨#[]⟩).toList == t.toList) = true := by
      rw [ByteArray.toList_eq, ByteArray.toList_eq, e]; exact beq_self_eq_true _
    rw [this, Bool.or_true]
  · rw [has_put_other (fun hc => e (by injection hc with hc; exact hc.symm)), h.2]
    have : ((ss.getD k ⟨#[]⟩).toList == t.toList) = false := by
      rw [ByteArray.toList_eq, ByteArray.toList_eq]; exact beq_false_of_ne e
    rw [this, Bool.or_false]
set_option maxRecDepth 100000 in
set_option maxHeartbeats 4000000 in
theorem names_said : NamesSaid Tryd.prog := by
  intro lo a len cap ss w h hE hsm
  have hm : (len : Int) ≤ 9223372036854775807 := by have := h.small; omega
  have HR : Hid (SRow lo w a len cap ss) := h
  have HE : Hid (Errs w) := hE
  have HS : Hid (∀ j, j < ss.length → (ss.getD j ⟨#[]⟩).size ≤ 1048576) := hsm
  have HL : Hid (ss.length = len) := h.1.1
  clear h hE hsm
  have hmm := @run_makeMap Tryd.prog
  go_enter Tryd.func29, Tryd.ntmps29
  go_wp2_with fail
  go_loopw [11] (fun i wr => ∃ (k : Nat) (D : DataW Unit), k ≤ len ∧ i = .int .i64 k ∧ Hid (Keys D (ss.take k)) ∧ Hid (∀ j, j < k → Pl.nam (ss.getD j ⟨#[]⟩) = true ∧ Pl.inS (ss.take j) (ss.getD j ⟨#[]⟩) = false) ∧ Hid (wr.ownsMap Tryd.prog 9 (plainElem Tryd.prog 3) w.heap.size k D) ∧ Hid (Below w.heap.size w wr))
    (fun i _ => len - (intOf i).toNat)
  case atStart => exact ⟨0, .map [], Nat.zero_le _, rfl, Keys.nil, fun j hj => absurd hj (Nat.not_lt_zero _), World.ownsMap_made _ _ _ _, below_alloc _ _⟩
  case round =>
    obtain ⟨k, D, hk, rfl, HK, HA, HO, HB⟩ := hrel
    by_cases hlt : k < len
    · have hi : (k : Int) < (len : Int) := by omega
      have hkl : k < ss.length := by rw [HL.out]; exact hlt
      obtain ⟨b, off, rfl, hlo, hb1, hc, hs⟩ := (HR.out.keep HB.out).at hlt
      obtain ⟨x, hx⟩ : ∃ x, x = ss.getD k ⟨#[]⟩ := ⟨_, rfl⟩
      have hsx : x.size ≤ 1048576 := by rw [hx]; exact HS.out k hkl
      rw [← hx] at hc hs
      have hkey : keyOf Tryd.prog 9 (.string x) = some (.string x.data.toList) := keyOf_string_mk Tryd.underlying9 hs
      have HX : Hid (x = ss.getD k ⟨#[]⟩) := hx
      have HIN : Hid (Maps.has D (.string x.data.toList) = Pl.inS (ss.take k) x) := HK.out.2 x
      clear hx hs
      cases hin : Pl.inS (ss.take k) x
      rotate_left
      · go_wp2_with (at_lookup; refine wpList_lookup_own_ok_int _ rfl _ _ 67 rfl 9 3 .i64 strLaw Tryd.underlying67 Tryd.underlying3 (zeroI _) w.heap.size k D rfl HO.out _ _ rfl hkey ?_; intro c hat hwc; rw [HIN.out, hin]; clear hat hwc)
        go_ret
        exact ⟨ret_bool (Pl.apart_no hkl (.inr (by rw [← HX.out]; exact hin))).symm, HB.out⟩
      · go_wp2_with (at_lookup; refine wpList_lookup_own_ok_int _ rfl _ _ 67 rfl 9 3 .i64 strLaw Tryd.underlying67 Tryd.underlying3 (zeroI _) w.heap.size k D rfl HO.out _ _ rfl hkey ?_; intro c hat hwc; rw [HIN.out, hin]; clear hat hwc)
        refine (isNameWord_any x hsx _ (HE.out.keep HB.out)).mono ?_
        rintro e u1 ⟨rfl, g1⟩
        have hwz : w.heap.size < wr.heap.size := by
          obtain ⟨es, cl, q1, _⟩ := HO.out
          exact (Array.getElem?_eq_some_iff.1 q1).1
        have O1 : Hid (u1.ownsMap Tryd.prog 9 (plainElem Tryd.prog 3) w.heap.size k D) := ownsMap_keep HO.out g1 hwz
        have B1 : Hid (Below w.heap.size w u1) := HB.out.trans (g1.mono HB.out.size)
        clear g1
        cases hn : Pl.nam x
        · go_wp2_with fail
          go_ret
          exact ⟨ret_bool (Pl.apart_no hkl (.inl (by rw [← HX.out]; exact hn))).symm, B1.out⟩
        · go_wp2_with (at_mapUpdate; refine wpList_mapUpdate_own _ rfl _ _ _ 67 rfl 9 3 strLaw Tryd.underlying67 _ w.heap.size k D rfl O1.out (by unfold maxLen; omega) _ _ _ rfl rfl hkey _ [] (plainElem_int Tryd.underlying3 (WalkArith.wf_i64 (by omega))) ?_; intro w1 hown1 hgrow1; have O2 : Hid _ := hown1; have B2 : Hid (Below w.heap.size w w1) := B1.out.grown hgrow1 B1.out.size (fun j hj => by cases hj; exact Nat.le_refl _); clear hown1 hgrow1)
          go_roundw
          case rel =>
            refine ⟨k + 1, _, by omega, by go_num, ?_, ?_, O2, B2⟩
            · rw [HX.out]; exact HK.out.put hkl _
            · intro j hj
              by_cases e : j = k
              · rw [e, ← HX.out]; exact ⟨hn, hin⟩
              · exact HA.out j (by omega)
          case measure => simp [intOf]; omega
    · have hkk : k = len := by omega
      have hi : ¬ ((k : Int) < (len : Int)) := by omega
      go_wp2_with fail
      go_ret
      exact ⟨ret_bool (Pl.apart_yes (fun j hj => HA.out j (by rw [HL.out] at hj; omega))).symm, HB.out⟩
end Go.Proofs.YtafcnijfoejboaaDoor.W
namespace Go.Proofs.YtafcnijfoejboaaDoor.Pl
def lays : Nat → List Ty → Nat → Bool
  | 0, _, _ => false
  | f + 1, xs, i => (xs.getD i Ty.zero).whole && (scal (xs.getD i Ty.zero).k || decide (∀ p, p < (xs.getD i Ty.zero).of.length → lays f xs (ofAt xs i p).toNat = true))
theorem lays_succ (f : Nat) (xs : List Ty) (i : Nat) : lays (f + 1) xs i = true ↔ (xs.getD i Ty.zero).whole = true ∧ (scal (xs.getD i Ty.zero).k = true ∨ ∀ p, p < (xs.getD i Ty.zero).of.length → lays f xs (ofAt xs i p).toNat = true) := by
  simp only [lays, Bool.and_eq_true, Bool.or_eq_true, decide_eq_true_eq]
theorem lays_step {xs : List Ty} : ∀ (f i : Nat), lays f xs i = true → lays (f + 1) xs i = true
  | 0, i, h => by simp [lays] at h
  | f + 1, i, h => by
    rw [lays_succ] at h ⊢
    exact ⟨h.1, h.2.imp id (fun q p hp => lays_step f _ (q p hp))⟩
theorem lays_mono {xs : List Ty} {f g i : Nat} (hfg : f ≤ g) (h : lays f xs i = true) : lays g xs i = true := by
  induction hfg with
  | refl => exact h
  | step _ ih => exact lays_step _ _ ih
def Ty.thick (x : Ty) : Prop := x.k = 9 ∨ (tagd x.k = true ∧ 0 < x.of.length)
def good (xs : List Ty) (i : Nat) : Prop := (xs.getD i Ty.zero).thick → ∃ f, lays f xs i = true
theorem lays_least {xs : List Ty} {i : Nat} : ∀ f, lays f xs i = true → ∃ g, g < f ∧ lays (g + 1) xs i = true ∧ lays g xs i = false
  | 0, h => by simp [lays] at h
  | f + 1, h => by
    cases hf : lays f xs i
    · exact ⟨f, Nat.lt_succ_self _, h, hf⟩
    · obtain ⟨g, h1, h2⟩ := lays_least f hf
      exact ⟨g, by omega, h2⟩
theorem lays_all {xs : List Ty} {q : Nat → Nat} : ∀ n, (∀ p, p < n → ∃ f, lays f xs (q p) = true) → ∃ f, ∀ p, p < n → lays f xs (q p) = true
  | 0, _ => ⟨0, fun p hp => absurd hp (Nat.not_lt_zero _)⟩
  | n + 1, h => by
    obtain ⟨f, hf⟩ := lays_all n (fun p hp => h p (by omega))
    obtain ⟨g, hg⟩ := h n (by omega)
    refine ⟨max f g, fun p hp => ?_⟩
    by_cases e : p = n
    · rw [e]; exact lays_mono (Nat.le_max_right _ _) hg
    · exact lays_mono (Nat.le_max_left _ _) (hf p (by omega))
def fresh (S : List Int) : Nat := S.count 0
theorem fresh_mono : ∀ {S T : List Int}, S.length = T.length → (∀ j, j < S.length → S.getD j 1 = 0 → T.getD j 1 = 0) → fresh S ≤ fresh T
  | [], [], _, _ => Nat.le_refl _
  | [], _ :: _, h, _ => by cases h
  | _ :: _, [], h, _ => by cases h
  | a :: S, b :: T, hl, h => by
    have ih : fresh S ≤ fresh T := fresh_mono (by simpa using hl) (fun j hj h0 => by
      have := h (j + 1) (by simpa using hj)
      simpa using this (by simpa using h0))
    have h0 := h 0 (by simp)
    unfold fresh at *
    rw [List.count_cons, List.count_cons]
    by_cases ha : a = 0
    · have hb : b = 0 := by simpa using h0 (by simpa using ha)
      simp [ha, hb]; exact ih
    · have : ¬ (a == 0) = true := by simpa using ha
      simp only [this]
      simp
      omega
theorem fresh_set : ∀ {S : List Int} {i : Nat}, i < S.length → S.getD i 1 = 0 → fresh (S.set i 1) + 1 ≤ fresh S
  | [], i, h, _ => absurd h (by simp)
  | a :: S, 0, _, h => by
    have ha : a = 0 := by simpa using h
    unfold fresh
    simp [ha]
  | a :: S, i + 1, hl, h => by
    have ih := fresh_set (S := S) (i := i) (by simpa using hl) (by simpa using h)
    unfold fresh at *
    rw [List.set_cons_succ, List.count_cons, List.count_cons]
    omega
def pre (xs : List Ty) (S : List Int) (i : Nat) : Prop := ∃ f, lays f xs i = true ∧ ∀ j, S.getD j 0 = 1 → lays f xs j = false
theorem pre_open {xs : List Ty} {S : List Int} {i : Nat} (h : S.getD i 0 = 1) : ¬ pre xs S i := by
  rintro ⟨f, h1, h2⟩
  have := h2 i h
  rw [h1] at this
  cases this
theorem pre_part {xs : List Ty} {S T : List Int} {i p : Nat} (hns : scal (xs.getD i Ty.zero).k = false) (hp : p < (xs.getD i Ty.zero).of.length)
    (hT : ∀ j, T.getD j 0 = 1 → S.getD j 0 = 1 ∨ j = i) (h : ¬ pre xs T (ofAt xs i p).toNat) : ¬ pre xs S i := by
  rintro ⟨f, h1, h2⟩
  obtain ⟨g, hg, h3, h4⟩ := lays_least f h1
  rw [lays_succ] at h3
  have h5 := h3.2.resolve_left (by rw [hns]; decide)
  refine h ⟨g, h5 p hp, fun j hj => ?_⟩
  rcases hT j hj with q | q
  · have := h2 j q
    rw [Bool.eq_false_iff] at this ⊢
    exact fun hc => this (lays_mono (by omega) hc)
  · rw [q]; exact h4
theorem good_close {xs : List Ty} {i : Nat} (hp : ∀ p, p < (xs.getD i Ty.zero).of.length → (xs.getD (ofAt xs i p).toNat Ty.zero).whole = true ∧ good xs (ofAt xs i p).toNat) (hw : (xs.getD i Ty.zero).thick → (xs.getD i Ty.zero).whole = true) : good xs i := by
  intro ht
  obtain ⟨f, hf⟩ := lays_all (xs := xs) (q := fun p => (ofAt xs i p).toNat) (xs.getD i Ty.zero).of.length (fun p hpl => by
    obtain ⟨h1, h2⟩ := hp p hpl
    cases hs : scal (xs.getD (ofAt xs i p).toNat Ty.zero).k
    · refine h2 ?_
      unfold Ty.whole at h1
      rw [hs, Bool.false_or, Bool.or_eq_true] at h1
      rcases h1 with h1 | h1
      · exact .inl (by simp at h1; exact h1.1)
      · exact .inr (by simpa using h1)
    · exact ⟨1, (lays_succ 0 _ _).2 ⟨h1, .inl hs⟩⟩)
  exact ⟨f + 1, (lays_succ f _ _).2 ⟨hw ht, .inr hf⟩⟩
end Go.Proofs.YtafcnijfoejboaaDoor.Pl
namespace Go.Proofs.YtafcnijfoejboaaDoor.Pl
def stOk (S : List Int) : Prop := ∀ j, S.getD j 0 = 0 ∨ S.getD j 0 = 1 ∨ S.getD j 0 = 2
def shut (xs : List Ty) (S : List Int) : Prop := ∀ j, S.getD j 0 = 2 → good xs j
structure Rl (xs : List Ty) (S T : List Int) : Prop where
  open_ : ∀ j, T.getD j 0 = 1 ↔ S.getD j 0 = 1
  fresh_ : ∀ j, T.getD j 0 = 0 → S.getD j 0 = 0
  two : ∀ j, S.getD j 0 = 2 → T.getD j 0 = 2
  ok : stOk T
  shut : shut xs T
  len : T.length = S.length
theorem Rl.refl {xs : List Ty} {S : List Int} (h1 : stOk S) (h2 : Pl.shut xs S) : Rl xs S S := ⟨fun _ => Iff.rfl, fun _ h => h, fun _ h => h, h1, h2, rfl⟩
theorem Rl.trans {xs : List Ty} {S T U : List Int} (h : Rl xs S T) (h' : Rl xs T U) : Rl xs S U := ⟨fun j => (h'.open_ j).trans (h.open_ j), fun j q => h.fresh_ j (h'.fresh_ j q), fun j q => h'.two j (h.two j q), h'.ok, h'.shut, h'.len.trans h.len⟩
theorem Rl.fresh {xs : List Ty} {S T : List Int} (h : Rl xs S T) : Pl.fresh T ≤ Pl.fresh S := by
  refine fresh_mono h.len (fun j hj q => ?_)
  have e : ∀ (L : List Int), j < L.length → L.getD j 1 = L.getD j 0 := fun L hL => by
    rw [List.getD_eq_getElem?_getD, List.getD_eq_getElem?_getD, List.getElem?_eq_getElem hL]; rfl
  rw [e _ hj] at q
  rw [e _ (by rw [← h.len]; exact hj)]
  exact h.fresh_ j q
theorem getD_set (S : List Int) (i j : Nat) (x : Int) (hi : i < S.length) : (S.set i x).getD j 0 = if j = i then x else S.getD j 0 := by
  rw [List.getD_eq_getElem?_getD, List.getD_eq_getElem?_getD, List.getElem?_set]
  by_cases e : i = j
  · subst e; simp [hi]
  · rw [if_neg e, if_neg (fun q => e q.symm)]
end Go.Proofs.YtafcnijfoejboaaDoor.Pl
namespace Go.Proofs.YtafcnijfoejboaaDoor.W
open Go.RowKit
def ints (S : List Int) : Array Value := (S.map fun x => Value.int .i64 x).toArray
theorem ints_get (S : List Int) (j : Nat) (h : j < S.length) : (ints S)[j]? = some (.int .i64 (S.getD j 0)) := by
  unfold ints
  rw [List.getElem?_toArray, List.getElem?_map, List.getElem?_eq_getElem h, List.getD_eq_getElem?_getD, List.getElem?_eq_getElem h]
  rfl
theorem ints_set (S : List Int) (j : Nat) (x : Int) : (ints S).setIfInBounds j (.int .i64 x) = ints (S.set j x) := by
  unfold ints
  rw [List.map_set]
  simp
structure Nst (g sb : Nat) (a : Option Addr) (len cap : Nat) (S : List Int) (u : World) : Prop where
  gc : u.heap[g]? = some (.cells #[.slice a len cap, .slice (some ⟨sb, 0, none⟩) len len] 43 (0, 0))
  sc : u.heap[sb]? = some (.cells (ints S) 3 (0, 0))
  sl : S.length = len
  ne : g ≠ sb
theorem Nst.keep {g sb : Nat} {a : Option Addr} {len cap : Nat} {S : List Int} {u u' : World} (h : Nst g sb a len cap S u) (hb : Below u.heap.size u u') : Nst g sb a len cap S u' :=
  ⟨(hb.block g (Array.getElem?_eq_some_iff.1 h.gc).1).trans h.gc, (hb.block sb (Array.getElem?_eq_some_iff.1 h.sc).1).trans h.sc, h.sl, h.ne⟩
theorem Nst.set {g sb : Nat} {a : Option Addr} {len cap : Nat} {S : List Int} {u : World} (h : Nst g sb a len cap S u) (i : Nat) (x : Int) : Nst g sb a len cap (S.set i x) (u.setCell ⟨sb, i, none⟩ (.int .i64 x)) := by
  refine ⟨?_, ?_, by rw [List.length_set]; exact h.sl, h.ne⟩
  · exact (Below.heap_setCell u ⟨sb, i, none⟩ _ g h.ne).trans h.gc
  · rw [setCell_eq_setRow u sb i _ _ _ _ h.sc, setRow_heap u sb _ _ _ _ h.sc, ints_set]
theorem Nst.cells {g sb : Nat} {a : Option Addr} {len cap : Nat} {S : List Int} {u : World} (h : Nst g sb a len cap S u) : u.cell? ⟨g, 0, none⟩ = some (.slice a len cap) ∧ u.cell? ⟨g, 1, none⟩ = some (.slice (some ⟨sb, 0, none⟩) len len) ∧ (∀ j, j < len → u.cell? ⟨sb, j, none⟩ = some (.int .i64 (S.getD j 0))) ∧ (∀ j, u.frozen? ⟨sb, j, none⟩ = false) :=
  ⟨by rw [cell_of_row u g 0 _ _ _ h.gc]; rfl, by rw [cell_of_row u g 1 _ _ _ h.gc]; rfl, fun j hj => by rw [cell_of_row u sb j _ _ _ h.sc]; exact ints_get S j (by rw [h.sl]; exact hj), fun j => frozen_of_row u sb j _ _ h.sc⟩
def EndSaid (P : Program) (w0 : World) (g sb : Nat) (a : Option Addr) (len cap : Nat) (xs : List Pl.Ty) (n : Nat) : Prop :=
  ∀ (S : List Int) (u : World) (i : Nat), i < len → Nst g sb a len cap S u → Below w0.heap.size w0 u → Pl.stOk S → Pl.shut xs S → Pl.fresh S ≤ n →
    Calls P 15 #[.pointer (some ⟨g, 0, none⟩), .int .i64 i] u fun e u' => ∃ (b : Bool), e = .returned (.bool b) ∧ ∃ T : List Int, Nst g sb a len cap T u' ∧ Below w0.heap.size w0 u' ∧ (b = false → Pl.Rl xs S T ∧ T.getD i 0 = 2) ∧ (b = true → ¬ Pl.pre xs S i ∧ (S.getD i 0 = 1 ∨ (xs.getD i Pl.Ty.zero).thick))
set_option maxHeartbeats 2000000 in
set_option maxRecDepth 8000 in
theorem indexFunc_end {w0 : World} {g sb : Nat} {a : Option Addr} {len cap : Nat} {xs : List Pl.Ty} {n : Nat} (HI : Hid (EndSaid Tryd.prog w0 g sb a len cap xs n)) {lo : Nat} (v : SV) (zs : List Int) (hz : ∀ p, p < zs.length → 0 ≤ zs.getD p 0 ∧ zs.getD p 0 < len)
    (S : List Int) (u : World) (hrow : Row .i64 lo w0 v.a v.len v.cap zs) (hN : Nst g sb a len cap S u) (hB : Below w0.heap.size w0 u) (hok : Pl.stOk S) (hsh : Pl.shut xs S) (hfr : Pl.fresh S ≤ n) :
    Calls Tryd.prog 40 #[.slice v.a v.len v.cap, .func (.func 15) #[.pointer (some ⟨g, 0, none⟩)] #[]] u fun e u' => ∃ (r : Int), e = .returned (.int .i64 r) ∧ ∃ T : List Int, Nst g sb a len cap T u' ∧ Below w0.heap.size w0 u' ∧ (r < 0 → Pl.Rl xs S T ∧ ∀ p, p < zs.length → T.getD (zs.getD p 0).toNat 0 = 2) ∧ (0 ≤ r → ∃ p, p < zs.length ∧ ∃ T, (∀ j, T.getD j 0 = 1 ↔ S.getD j 0 = 1) ∧ ¬ Pl.pre xs T (zs.getD p 0).toNat) := by
  have hvl : (v.len : Int) ≤ 9223372036854775807 := by have := hrow.small; omega
  have HR : Hid (Row .i64 lo w0 v.a v.len v.cap zs) := hrow
  have HZ : Hid (∀ p, p < zs.length → 0 ≤ zs.getD p 0 ∧ zs.getD p 0 < len) := hz
  have HL : Hid (zs.length = v.len) := hrow.1
  have HF : Hid (Pl.fresh S ≤ n) := hfr
  have H0 : Hid (Nst g sb a len cap S u ∧ Below w0.heap.size w0 u ∧ Pl.Rl xs S S) := ⟨hN, hB, .refl hok hsh⟩
  clear hrow hz hN hB hok hsh hfr
  obtain ⟨va, vl, vc⟩ := v
  simp only at HR HL hvl ⊢
  go_enter Tryd.func40, Tryd.ntmps40
  go_wp2_with fail
  go_loopw [8] (fun i wr => ∃ (k : Nat) (T : List Int), k ≤ vl ∧ i = .int .i64 k ∧ Hid (Nst g sb a len cap T wr ∧ Below w0.heap.size w0 wr ∧ Pl.Rl xs S T ∧ ∀ p, p < k → T.getD (zs.getD p 0).toNat 0 = 2)) (fun i _ => vl - (intOf i).toNat)
  case atStart => exact ⟨0, S, Nat.zero_le _, rfl, H0.out.1, H0.out.2.1, H0.out.2.2, fun p hp => absurd hp (Nat.not_lt_zero _)⟩
  case round =>
    obtain ⟨k, T, hk, rfl, HT⟩ := hrel
    by_cases hlt : k < vl
    · have hi : (k : Int) < (vl : Int) := by omega
      have hkz : k < zs.length := by rw [HL.out]; exact hlt
      obtain ⟨b2, o2, rfl, _, hb2, hcp⟩ := ((HR.out.keep HT.out.2.1).2.2.2.2).resolve_left (by omega)
      have hc := hcp k hlt
      obtain ⟨z, hzz⟩ : ∃ z, z = zs.getD k 0 := ⟨_, rfl⟩
      rw [← hzz] at hc
      have hz0 : 0 ≤ z ∧ z < len := by rw [hzz]; exact HZ.out k hkz
      obtain ⟨j, rfl⟩ : ∃ j : Nat, z = j := ⟨z.toNat, by omega⟩
      have HJ : Hid (zs.getD k 0 = (j : Int)) := hzz.symm
      clear hzz hcp
      have hjl : j < len := by omega
      clear hz0
      go_wp2_with fail
      refine (HI.out T _ j hjl HT.out.1 HT.out.2.1 HT.out.2.2.1.ok HT.out.2.2.1.shut (Nat.le_trans HT.out.2.2.1.fresh HF.out)).mono ?_
      rintro e u2 ⟨b, rfl, T2, hN2, hB2, hf2, ht2⟩
      have H2 : Hid (Nst g sb a len cap T2 u2 ∧ Below w0.heap.size w0 u2) := ⟨hN2, hB2⟩
      have HF2 : Hid (b = false → Pl.Rl xs T T2 ∧ T2.getD j 0 = 2) := hf2
      have HT2 : Hid (b = true → ¬ Pl.pre xs T j ∧ (T.getD j 0 = 1 ∨ (xs.getD j Pl.Ty.zero).thick)) := ht2
      clear hN2 hB2 hf2 ht2
      cases b
      · go_wp2_with fail
        go_roundw
        case rel =>
          refine ⟨k + 1, T2, by omega, by go_num, H2.out.1, H2.out.2, HT.out.2.2.1.trans (HF2.out (by trivial)).1, fun p hp => ?_⟩
          by_cases e : p = k
          · rw [e, HJ.out, Int.toNat_natCast]; exact (HF2.out (by trivial)).2
          · exact (HF2.out (by trivial)).1.two _ (HT.out.2.2.2 p (by omega))
        case measure => simp [intOf]; omega
      · go_wp2_with fail
        go_ret
        exact ⟨_, rfl, T2, H2.out.1, H2.out.2, fun h => absurd h (by omega), fun _ => ⟨k, hkz, T, HT.out.2.2.1.open_, by rw [HJ.out, Int.toNat_natCast]; exact (HT2.out (by trivial)).1⟩⟩
    · have hke : k = vl := by omega
      have hi : ¬ ((k : Int) < (vl : Int)) := by omega
      go_wp2_with fail
      go_ret
      exact ⟨_, rfl, T, HT.out.1, HT.out.2.1, fun _ => ⟨HT.out.2.2.1, fun p hp => HT.out.2.2.2 p (by rw [HL.out] at hp; omega)⟩, fun h => absurd h (by decide)⟩
set_option maxHeartbeats 2000000 in
theorem containsFunc_end {w0 : World} {g sb : Nat} {a : Option Addr} {len cap : Nat} {xs : List Pl.Ty} {n : Nat} (HI : Hid (EndSaid Tryd.prog w0 g sb a len cap xs n)) {lo : Nat} (v : SV) (zs : List Int) (hz : ∀ p, p < zs.length → 0 ≤ zs.getD p 0 ∧ zs.getD p 0 < len)
    (S : List Int) (u : World) (hrow : Row .i64 lo w0 v.a v.len v.cap zs) (hN : Nst g sb a len cap S u) (hB : Below w0.heap.size w0 u) (hok : Pl.stOk S) (hsh : Pl.shut xs S) (hfr : Pl.fresh S ≤ n) :
    Calls Tryd.prog 31 #[.slice v.a v.len v.cap, .func (.func 15) #[.pointer (some ⟨g, 0, none⟩)] #[]] u fun e u' => ∃ (b : Bool), e = .returned (.bool b) ∧ ∃ T : List Int, Nst g sb a len cap T u' ∧ Below w0.heap.size w0 u' ∧ (b = false → Pl.Rl xs S T ∧ ∀ p, p < zs.length → T.getD (zs.getD p 0).toNat 0 = 2) ∧ (b = true → ∃ p, p < zs.length ∧ ∃ T, (∀ j, T.getD j 0 = 1 ↔ S.getD j 0 = 1) ∧ ¬ Pl.pre xs T (zs.getD p 0).toNat) := by
  have HC : Hid _ := indexFunc_end HI v zs hz S u hrow hN hB hok hsh hfr
  clear hz hrow hN hB hok hsh hfr
  go_enter Tryd.func31, Tryd.ntmps31
  go_wp2_with fail
  refine Calls.mono HC.out ?_
  rintro e u2 ⟨r, rfl, T, h1, h2, h3, h4⟩
  have H1 : Hid (Nst g sb a len cap T u2 ∧ Below w0.heap.size w0 u2) := ⟨h1, h2⟩
  have H3 : Hid (r < 0 → Pl.Rl xs S T ∧ ∀ p, p < zs.length → T.getD (zs.getD p 0).toNat 0 = 2) := h3
  have H4 : Hid (0 ≤ r → ∃ p, p < zs.length ∧ ∃ T, (∀ j, T.getD j 0 = 1 ↔ S.getD j 0 = 1) ∧ ¬ Pl.pre xs T (zs.getD p 0).toNat) := h4
  clear h1 h2 h3 h4 HC
  go_wp2_with fail
  go_ret
  exact ⟨_, rfl, T, H1.out.1, H1.out.2, fun h => H3.out (by simpa using h), fun h => H4.out (by simpa using h)⟩
end Go.Proofs.YtafcnijfoejboaaDoor.W
namespace Go.Proofs.YtafcnijfoejboaaDoor.Pl
theorem fit_parts {xs : List Ty} {i : Nat} (h : fit xs i = true) (hk : (xs.getD i Ty.zero).k = 9 ∨ tagd (xs.getD i Ty.zero).k = true) : ∀ p, p < (xs.getD i Ty.zero).of.length → (0 ≤ ofAt xs i p ∧ ofAt xs i p < xs.length) ∧ (xs.getD (ofAt xs i p).toNat Ty.zero).whole = true := by
  intro p hp
  have h2 : fitPart xs i p = true := by
    unfold fit at h
    cases ht : tRule (xs.getD i Ty.zero).k with
    | none => rw [ht] at h; cases h
    | some r =>
      rw [ht] at h
      simp only [fitR, Bool.and_eq_true, decide_eq_true_eq] at h
      exact h.1.2 p hp
  unfold fitPart at h2
  simp only [Bool.and_eq_true] at h2
  obtain ⟨h3, h4⟩ := h2
  have h5 : 0 ≤ ofAt xs i p ∧ ofAt xs i p ≤ (xs.length : Int) - 1 := by simpa [within] using h3
  refine ⟨⟨h5.1, by omega⟩, ?_⟩
  unfold fitP at h4
  have hk2 : (xs.getD i Ty.zero).k = 9 ∨ (xs.getD i Ty.zero).k = 10 ∨ (xs.getD i Ty.zero).k = 11 := by
    rcases hk with h | h
    · exact .inl h
    · exact .inr (by simpa [tagd] using h)
  generalize (xs.getD i Ty.zero).k = kk at h4 hk2
  rw [if_neg (by omega)] at h4
  by_cases h9 : kk = 9
  · rw [if_pos h9] at h4
    simp only [Bool.and_eq_true] at h4
    exact h4.2
  · rw [if_neg h9, if_neg (by omega)] at h4
    exact h4
theorem fit_thick {xs : List Ty} {i : Nat} (h : fit xs i = true) (ht : (xs.getD i Ty.zero).thick) : (xs.getD i Ty.zero).whole = true := by
  unfold fit at h
  obtain ⟨x, hx⟩ : ∃ x, x = xs.getD i Ty.zero := ⟨_, rfl⟩
  rw [← hx] at h ht ⊢
  rcases ht with hk | ⟨h1, h2⟩
  · have hn : 0 < x.n := by
      rw [hk, show tRule 9 = some ⟨1, 60000, 1, 1, false⟩ from by simp [tRule]] at h
      simp only [fitR, within, Bool.and_eq_true, decide_eq_true_eq] at h
      have h3 := h.1.1.1
      omega
    simp [Ty.whole, hk, hn]
  · simp [Ty.whole, h1, h2]
end Go.Proofs.YtafcnijfoejboaaDoor.Pl
namespace Go.Proofs.YtafcnijfoejboaaDoor.W
open Go.RowKit
set_option maxHeartbeats 2000000 in
set_option maxRecDepth 8000 in
theorem endless_seen {w0 : World} {g sb : Nat} {a : Option Addr} {len cap : Nat} {xs : List Pl.Ty} (hm : (len : Int) ≤ 9223372036854775807) (S : List Int) (u : World) (i : Nat) (hi : i < len) (hN : Nst g sb a len cap S u) (hB : Below w0.heap.size w0 u) (hok : Pl.stOk S) (hsh : Pl.shut xs S) (h0 : S.getD i 0 ≠ 0) :
    Calls Tryd.prog 15 #[.pointer (some ⟨g, 0, none⟩), .int .i64 i] u fun e u' => ∃ (b : Bool), e = .returned (.bool b) ∧ ∃ T : List Int, Nst g sb a len cap T u' ∧ Below w0.heap.size w0 u' ∧ (b = false → Pl.Rl xs S T ∧ T.getD i 0 = 2) ∧ (b = true → ¬ Pl.pre xs S i ∧ (S.getD i 0 = 1 ∨ (xs.getD i Pl.Ty.zero).thick)) := by
  obtain ⟨c0, c1, cs, fz⟩ := hN.cells
  have ci := cs i hi
  have H : Hid (Nst g sb a len cap S u ∧ Below w0.heap.size w0 u ∧ Pl.stOk S ∧ Pl.shut xs S) := ⟨hN, hB, hok, hsh⟩
  have hii : (i : Int) < (len : Int) := by omega
  have h12 := hok i
  clear cs fz hN hB hok hsh c0
  rcases h12 with q | q | q
  · exact absurd q h0
  · have HQ : Hid (S.getD i 0 = 1) := q
    rw [q] at ci
    clear q h0
    go_enter Tryd.func15, Tryd.ntmps15
    go_wp2_with fail
    go_ret
    exact ⟨true, rfl, S, H.out.1, H.out.2.1, fun h => (by cases h), fun _ => ⟨Pl.pre_open HQ.out, .inl HQ.out⟩⟩
  · have HQ : Hid (S.getD i 0 = 2) := q
    rw [q] at ci
    clear q h0
    go_enter Tryd.func15, Tryd.ntmps15
    go_wp2_with fail
    go_ret
    exact ⟨false, rfl, S, H.out.1, H.out.2.1, fun _ => ⟨.refl H.out.2.2.1 H.out.2.2.2, HQ.out⟩, fun h => (by cases h)⟩
end Go.Proofs.YtafcnijfoejboaaDoor.W
namespace Go.Proofs.YtafcnijfoejboaaDoor.Pl
theorem Rl.close {xs : List Ty} {S T : List Int} {i : Nat} (hi : i < S.length) (h0 : S.getD i 0 = 0) (h : Rl xs (S.set i 1) T) (hok : stOk S) (hg : good xs i) : Rl xs S (T.set i 2) ∧ (T.set i 2).getD i 0 = 2 := by
  have hiT : i < T.length := by rw [h.len, List.length_set]; exact hi
  have e : ∀ j, j ≠ i → (T.getD j 0 = 1 ↔ S.getD j 0 = 1) := fun j hj => by
    have := h.open_ j
    rw [getD_set S i j 1 hi, if_neg hj] at this
    exact this
  have d : ∀ j, j ≠ i → (T.getD j 0 = 0 → S.getD j 0 = 0) := fun j hj => by
    have := h.fresh_ j
    rw [getD_set S i j 1 hi, if_neg hj] at this
    exact this
  have t : ∀ j, j ≠ i → (S.getD j 0 = 2 → T.getD j 0 = 2) := fun j hj => by
    have := h.two j
    rw [getD_set S i j 1 hi, if_neg hj] at this
    exact this
  refine ⟨⟨fun j => ?_, fun j => ?_, fun j => ?_, fun j => ?_, fun j => ?_, ?_⟩, ?_⟩
  · rw [getD_set T i j 2 hiT]
    by_cases q : j = i
    · rw [if_pos q, q, h0]; decide
    · rw [if_neg q]; exact e j q
  · rw [getD_set T i j 2 hiT]
    by_cases q : j = i
    · rw [if_pos q]; intro hc; cases hc
    · rw [if_neg q]; exact d j q
  · rw [getD_set T i j 2 hiT]
    by_cases q : j = i
    · rw [if_pos q]; intro _; rfl
    · rw [if_neg q]; exact t j q
  · rw [getD_set T i j 2 hiT]
    by_cases q : j = i
    · rw [if_pos q]; exact .inr (.inr rfl)
    · rw [if_neg q]; exact h.ok j
  · rw [getD_set T i j 2 hiT]
    by_cases q : j = i
    · rw [q]; intro _; exact hg
    · rw [if_neg q]; exact h.shut j
  · rw [List.length_set, h.len, List.length_set]
  · rw [getD_set T i i 2 hiT, if_pos rfl]
theorem stOk_set {S : List Int} {i : Nat} {x : Int} (h : stOk S) (hi : i < S.length) (hx : x = 1 ∨ x = 2) : stOk (S.set i x) := fun j => by
  rw [getD_set S i j x hi]
  by_cases q : j = i
  · rw [if_pos q]; exact .inr hx
  · rw [if_neg q]; exact h j
theorem shut_open {xs : List Ty} {S : List Int} {i : Nat} (h : shut xs S) (hi : i < S.length) : shut xs (S.set i 1) := fun j => by
  rw [getD_set S i j 1 hi]
  by_cases q : j = i
  · rw [if_pos q]; intro hc; cases hc
  · rw [if_neg q]; exact h j
end Go.Proofs.YtafcnijfoejboaaDoor.Pl
namespace Go.Proofs.YtafcnijfoejboaaDoor.W
open Go.RowKit
set_option maxHeartbeats 4000000 in
set_option maxRecDepth 8000 in
theorem endless_new {w0 : World} {i g sb : Nat} {a : Option Addr} {len cap : Nat} {xs : List Pl.Ty} {n lo : Nat} (HI : Hid (EndSaid Tryd.prog w0 g sb a len cap xs n)) (hT : TRow lo w0 a len cap xs) (hfit : Pl.fit xs i = true) (hsb : w0.heap.size ≤ sb)
    (S : List Int) (u : World) (hi : i < len) (hN : Nst g sb a len cap S u) (hB : Below w0.heap.size w0 u) (hok : Pl.stOk S) (hsh : Pl.shut xs S) (h0 : S.getD i 0 = 0) (hfr : Pl.fresh (S.set i 1) ≤ n) :
    Calls Tryd.prog 15 #[.pointer (some ⟨g, 0, none⟩), .int .i64 i] u fun e u' => ∃ (b : Bool), e = .returned (.bool b) ∧ ∃ T : List Int, Nst g sb a len cap T u' ∧ Below w0.heap.size w0 u' ∧ (b = false → Pl.Rl xs S T ∧ T.getD i 0 = 2) ∧ (b = true → ¬ Pl.pre xs S i ∧ (S.getD i 0 = 1 ∨ (xs.getD i Pl.Ty.zero).thick)) := by
  have hm : (len : Int) ≤ 9223372036854775807 := by have := hT.small; omega
  obtain ⟨c0, c1, cs, fz⟩ := hN.cells
  have ci := cs i hi
  rw [h0] at ci
  have fi := fz i
  have hii : (i : Int) < (len : Int) := by omega
  have hiS : i < S.length := by rw [hN.sl]; exact hi
  obtain ⟨U1, hU1⟩ : ∃ U1, u.setCell ⟨sb, i, none⟩ (.int .i64 1) = U1 := ⟨_, rfl⟩
  have hN1 : Nst g sb a len cap (S.set i 1) U1 := by rw [← hU1]; exact hN.set i 1
  have hB1 : Below w0.heap.size w0 U1 := by rw [← hU1]; exact hB.setCell hsb _
  obtain ⟨d0, d1, ds, df⟩ := hN1.cells
  have dsi := ds i hi
  rw [Pl.getD_set S i i 1 hiS, if_pos rfl] at dsi
  have dfi := df i
  obtain ⟨b, off, v, s, rfl, hlo, hb1, hc, hrow, hs⟩ := (hT.keep hB1).at hi
  have hrow0 : Row .i64 lo w0 v.a v.len v.cap (xs.getD i Pl.Ty.zero).of := by
    obtain ⟨b', off', v', s', e, _, hb', hc', hr', _⟩ := hT.at hi
    injection e with e
    injection e with e1 e2 _
    subst e1
    subst e2
    have k2 := (ty_cells hc).2.2.1
    have k2' := (ty_cells hc').2.2.1
    rw [hB1.cell (p := ⟨b, off + i * 4 + 2, none⟩) hb', k2'] at k2
    injection k2 with k2
    injection k2 with k3 k4 k5
    rw [← k3, ← k4, ← k5]
    exact hr'
  obtain ⟨x, hx⟩ : ∃ x, x = xs.getD i Pl.Ty.zero := ⟨_, rfl⟩
  have hpt : (x.k = 9 ∨ Pl.tagd x.k = true) → ∀ p, p < x.of.length → (0 ≤ Pl.ofAt xs i p ∧ Pl.ofAt xs i p < xs.length) ∧ (xs.getD (Pl.ofAt xs i p).toNat Pl.Ty.zero).whole = true := by rw [hx]; exact Pl.fit_parts hfit
  have hth : x.thick → x.whole = true := by rw [hx]; exact Pl.fit_thick hfit
  have hxl : xs.length = len := hT.1
  rw [← hx] at hc hrow hs hrow0
  obtain ⟨kk, nn, zs, nms⟩ := x
  obtain ⟨e0, e1, e2, e3⟩ := ty_cells hc
  change U1.cell? _ = some (.int .i64 kk) at e0
  change U1.cell? _ = some (.int .i64 nn) at e1
  have HX : Hid (Pl.Ty.mk kk nn zs nms = xs.getD i Pl.Ty.zero) := hx
  have H0 : Hid (S.getD i 0 = 0) := h0
  have HP : Hid ((kk = 9 ∨ Pl.tagd kk = true) → ∀ p, p < zs.length → (0 ≤ zs.getD p 0 ∧ zs.getD p 0 < len) ∧ (xs.getD (zs.getD p 0).toNat Pl.Ty.zero).whole = true) := fun hk p hp => by
    have := hpt hk p hp
    unfold Pl.ofAt at this
    rw [← hx, hxl] at this
    exact this
  have HTH : Hid ((Pl.Ty.mk kk nn zs nms).thick → (Pl.Ty.mk kk nn zs nms).whole = true) := hth
  have HN1 : Hid (Nst g sb (some ⟨b, off, none⟩) len cap (S.set i 1) U1 ∧ Below w0.heap.size w0 U1 ∧ Pl.stOk (S.set i 1) ∧ Pl.shut xs (S.set i 1) ∧ Pl.fresh (S.set i 1) ≤ n) := ⟨hN1, hB1, Pl.stOk_set hok hiS (.inl rfl), Pl.shut_open hsh hiS, hfr⟩
  have HOK : Hid (Pl.stOk S) := hok
  have HRW : Hid (Row .i64 lo w0 v.a v.len v.cap zs) := hrow0
  have hvl : (v.len : Int) ≤ 9223372036854775807 := by have := hrow.small; omega
  have hb1' : b < U1.heap.size := Nat.lt_of_lt_of_le hb1 (Nat.le_refl _)
  have hgl : g < U1.heap.size := (Array.getElem?_eq_some_iff.1 hN1.gc).1
  have hsl : sb < U1.heap.size := (Array.getElem?_eq_some_iff.1 hN1.sc).1
  clear hN hB hok hsh h0 hN1 hB1 hx hc hrow hs hrow0 hpt hth cs fz ds df hfr
  by_cases k9 : kk = 9
  · have HK : Hid (kk = 9 ∨ Pl.tagd kk = true) := .inl k9
    have HSC : Hid (Pl.scal kk = false) := by rw [k9]; show Pl.scal 9 = false; decide
    subst k9
    · go_enter Tryd.func15, Tryd.ntmps15
      go_wp2_with fail
      refine ty_at fun U2 hU2 => ?_
      have b2 : Below U1.heap.size U1 U2 := by rw [hU2]; exact below_alloc _ _
      have hz : ∀ p, p < zs.length → 0 ≤ zs.getD p 0 ∧ zs.getD p 0 < len := fun p hp => (HP.out HK.out p hp).1
      refine (containsFunc_end HI v zs hz (S.set i 1) U2 HRW.out (HN1.out.1.keep b2) (HN1.out.2.1.trans (b2.mono HN1.out.2.1.size)) HN1.out.2.2.1 HN1.out.2.2.2.1 HN1.out.2.2.2.2).mono ?_
      rintro e u3 ⟨r, rfl, T, hN3, hB3, hf3, ht3⟩
      have H3 : Hid (Nst g sb (some ⟨b, off, none⟩) len cap T u3 ∧ Below w0.heap.size w0 u3) := ⟨hN3, hB3⟩
      have HF3 : Hid (r = false → Pl.Rl xs (S.set i 1) T ∧ ∀ p, p < zs.length → T.getD (zs.getD p 0).toNat 0 = 2) := hf3
      have HT3 : Hid (r = true → ∃ p, p < zs.length ∧ ∃ T, (∀ j, T.getD j 0 = 1 ↔ (S.set i 1).getD j 0 = 1) ∧ ¬ Pl.pre xs T (zs.getD p 0).toNat) := ht3
      obtain ⟨f0, f1, fs, ff⟩ := hN3.cells
      have fsi := fs i hi
      have ffi := ff i
      clear hN3 hB3 hf3 ht3 fs ff hz b2 hU2 c0 c1 ci fi d0 d1 dsi dfi e0 e1 e2 e3 hU1
      cases r
      · go_wp2_with fail
        go_ret
        have hR := HF3.out (by trivial)
        refine ⟨false, rfl, T.set i 2, H3.out.1.set i 2, H3.out.2.setCell hsb _, fun _ => ?_, fun h => (by cases h)⟩
        refine hR.1.close hiS H0.out HOK.out (Pl.good_close (fun p hp => ?_) (by rw [← HX.out]; exact HTH.out))
        have hp' : p < zs.length := by rw [← HX.out] at hp; exact hp
        have e : Pl.ofAt xs i p = zs.getD p 0 := by unfold Pl.ofAt; rw [← HX.out]
        rw [e]
        exact ⟨(HP.out HK.out p hp').2, hR.1.shut _ (hR.2 p hp')⟩
      · go_wp2_with fail
        go_ret
        obtain ⟨p, hp, T', hT', hpre⟩ := HT3.out (by trivial)
        refine ⟨true, rfl, T, H3.out.1, H3.out.2, fun h => (by cases h), fun _ => ⟨Pl.pre_part (T := T') (p := p) (by rw [← HX.out]; exact HSC.out) (by rw [← HX.out]; exact hp) (fun j hj => ?_) (by have e : Pl.ofAt xs i p = zs.getD p 0 := (by unfold Pl.ofAt; rw [← HX.out]); rw [e]; exact hpre), .inr ?_⟩⟩
        · have q := (hT' j).1 hj
          rw [Pl.getD_set S i j 1 hiS] at q
          by_cases e : j = i
          · exact .inr e
          · rw [if_neg e] at q; exact .inl q
        · rw [← HX.out]
          rcases HK.out with q | q
          · exact .inl (by first | exact q | rfl)
          · exact .inr ⟨by first | exact q | rfl | decide, Nat.lt_of_le_of_lt (Nat.zero_le _) hp⟩
  · cases ht : Pl.tagd kk
    · have HNT : Hid (¬ (Pl.Ty.mk kk nn zs nms).thick) := fun h => by
        rcases h with q | q
        · exact k9 q
        · rw [ht] at q; cases q.1
      have kc0 : ∀ o, (U1.alloc o).cell? ⟨g, 1, none⟩ = some (.slice (some ⟨sb, 0, none⟩) len len) := fun o => ((below_alloc U1 o).cell (p := ⟨g, 1, none⟩) hgl).trans d1
      have kc1 : ∀ o, (U1.alloc o).cell? ⟨sb, i, none⟩ = some (.int .i64 1) := fun o => ((below_alloc U1 o).cell (p := ⟨sb, i, none⟩) hsl).trans dsi
      have kf : ∀ o, (U1.alloc o).frozen? ⟨sb, i, none⟩ = false := fun o => ((below_alloc U1 o).frozen (p := ⟨sb, i, none⟩) hsl).trans dfi
      go_enter Tryd.func15, Tryd.ntmps15
      go_wp2_with (go_at_call 30; refine (isRecord_any _ _).mono ?_; rintro e uu ⟨rfl, ek⟩; rw [ek]; clear ek; rw [ht])
      go_ret
      refine ⟨false, rfl, (S.set i 1).set i 2, (HN1.out.1.set i 2).keep (below_alloc _ _), (HN1.out.2.1.setCell (p := ⟨sb, i, none⟩) hsb _).trans ((below_alloc _ _).mono (HN1.out.2.1.setCell (p := ⟨sb, i, none⟩) hsb _).size), fun _ => ?_, fun h => (by cases h)⟩
      exact (Pl.Rl.refl HN1.out.2.2.1 HN1.out.2.2.2.1).close hiS H0.out HOK.out (fun h => absurd (by rw [HX.out]; exact h) HNT.out)
    · have HK : Hid (kk = 9 ∨ Pl.tagd kk = true) := .inr ht
      have HSC : Hid (Pl.scal kk = false) := by
        have q : kk = 10 ∨ kk = 11 := by simpa [Pl.tagd] using ht
        show Pl.scal kk = false
        rcases q with q | q <;> rw [q] <;> decide
      go_enter Tryd.func15, Tryd.ntmps15
      go_wp2_with (go_at_call 30; refine (isRecord_any _ _).mono ?_; rintro e uu ⟨rfl, ek⟩; rw [ek]; clear ek; rw [ht])
      refine ty_at fun U2 hU2 => ?_
      have b2 : Below U1.heap.size U1 U2 := by rw [hU2]; exact below_alloc _ _
      have hz : ∀ p, p < zs.length → 0 ≤ zs.getD p 0 ∧ zs.getD p 0 < len := fun p hp => (HP.out HK.out p hp).1
      refine (containsFunc_end HI v zs hz (S.set i 1) U2 HRW.out (HN1.out.1.keep b2) (HN1.out.2.1.trans (b2.mono HN1.out.2.1.size)) HN1.out.2.2.1 HN1.out.2.2.2.1 HN1.out.2.2.2.2).mono ?_
      rintro e u3 ⟨r, rfl, T, hN3, hB3, hf3, ht3⟩
      have H3 : Hid (Nst g sb (some ⟨b, off, none⟩) len cap T u3 ∧ Below w0.heap.size w0 u3) := ⟨hN3, hB3⟩
      have HF3 : Hid (r = false → Pl.Rl xs (S.set i 1) T ∧ ∀ p, p < zs.length → T.getD (zs.getD p 0).toNat 0 = 2) := hf3
      have HT3 : Hid (r = true → ∃ p, p < zs.length ∧ ∃ T, (∀ j, T.getD j 0 = 1 ↔ (S.set i 1).getD j 0 = 1) ∧ ¬ Pl.pre xs T (zs.getD p 0).toNat) := ht3
      obtain ⟨f0, f1, fs, ff⟩ := hN3.cells
      have fsi := fs i hi
      have ffi := ff i
      clear hN3 hB3 hf3 ht3 fs ff hz b2 hU2 c0 c1 ci fi d0 d1 dsi dfi e0 e1 e2 e3 hU1
      cases r
      · go_wp2_with fail
        go_ret
        have hR := HF3.out (by trivial)
        refine ⟨false, rfl, T.set i 2, H3.out.1.set i 2, H3.out.2.setCell hsb _, fun _ => ?_, fun h => (by cases h)⟩
        refine hR.1.close hiS H0.out HOK.out (Pl.good_close (fun p hp => ?_) (by rw [← HX.out]; exact HTH.out))
        have hp' : p < zs.length := by rw [← HX.out] at hp; exact hp
        have e : Pl.ofAt xs i p = zs.getD p 0 := by unfold Pl.ofAt; rw [← HX.out]
        rw [e]
        exact ⟨(HP.out HK.out p hp').2, hR.1.shut _ (hR.2 p hp')⟩
      · go_wp2_with fail
        go_ret
        obtain ⟨p, hp, T', hT', hpre⟩ := HT3.out (by trivial)
        refine ⟨true, rfl, T, H3.out.1, H3.out.2, fun h => (by cases h), fun _ => ⟨Pl.pre_part (T := T') (p := p) (by rw [← HX.out]; exact HSC.out) (by rw [← HX.out]; exact hp) (fun j hj => ?_) (by have e : Pl.ofAt xs i p = zs.getD p 0 := (by unfold Pl.ofAt; rw [← HX.out]); rw [e]; exact hpre), .inr ?_⟩⟩
        · have q := (hT' j).1 hj
          rw [Pl.getD_set S i j 1 hiS] at q
          by_cases e : j = i
          · exact .inr e
          · rw [if_neg e] at q; exact .inl q
        · rw [← HX.out]
          rcases HK.out with q | q
          · exact .inl (by first | exact q | rfl)
          · exact .inr ⟨by first | exact q | rfl | decide, Nat.lt_of_le_of_lt (Nat.zero_le _) hp⟩
theorem endSaid {w0 : World} {g sb : Nat} {a : Option Addr} {len cap : Nat} {xs : List Pl.Ty} {lo : Nat} (hT : TRow lo w0 a len cap xs) (hfit : ∀ i, i < len → Pl.fit xs i = true) (hsb : w0.heap.size ≤ sb) : ∀ n, EndSaid Tryd.prog w0 g sb a len cap xs n := by
  intro n
  induction n with
  | zero =>
    intro S u i hi hN hB hok hsh hfr
    by_cases h0 : S.getD i 0 = 0
    · have hiS : i < S.length := by rw [hN.sl]; exact hi
      have := Pl.fresh_set (S := S) (i := i) hiS (by rw [List.getD_eq_getElem?_getD, List.getElem?_eq_getElem hiS] at h0 ⊢; exact h0)
      omega
    · exact endless_seen (by have := hT.small; omega) S u i hi hN hB hok hsh h0
  | succ n ih =>
    intro S u i hi hN hB hok hsh hfr
    by_cases h0 : S.getD i 0 = 0
    · have hiS : i < S.length := by rw [hN.sl]; exact hi
      have := Pl.fresh_set (S := S) (i := i) hiS (by rw [List.getD_eq_getElem?_getD, List.getElem?_eq_getElem hiS] at h0 ⊢; exact h0)
      exact endless_new ih hT (hfit i hi) hsb S u hi hN hB hok hsh h0 (by omega)
    · exact endless_seen (by have := hT.small; omega) S u i hi hN hB hok hsh h0
end Go.Proofs.YtafcnijfoejboaaDoor.W
namespace Go.Proofs.YtafcnijfoejboaaDoor.Pl
open Classical in
noncomputable def dec (p : Prop) : Bool := decide p
open Classical in
theorem dec_yes {p : Prop} (h : p) : dec p = true := decide_eq_true h
open Classical in
theorem dec_no {p : Prop} (h : ¬ p) : dec p = false := decide_eq_false h
end Go.Proofs.YtafcnijfoejboaaDoor.Pl
namespace Go.Proofs.YtafcnijfoejboaaDoor.W
open Go.RowKit
theorem made_ints (n : Nat) : madeCells (Value.int .i64 0).cells (n * 1) = ints (List.replicate n 0) := by
  apply Array.ext'
  rw [show (Value.int .i64 0).cells = #[Value.int .i64 0] from rfl, Nat.mul_one, toList_madeCells_one]
  unfold ints
  rw [List.map_replicate]
theorem getD_rep (n j : Nat) : (List.replicate n (0 : Int)).getD j 0 = 0 := by
  rw [List.getD_eq_getElem?_getD, List.getElem?_replicate]
  split <;> rfl
def TOk (len : Nat) (xs : List Pl.Ty) : Prop := len ≤ 2000 ∧ (∀ i, i < len → Pl.fit xs i = true) ∧ ∀ i, i < len → Pl.good xs i
set_option maxHeartbeats 4000000 in
set_option maxRecDepth 8000 in
theorem implTypesOk {lo : Nat} (a : Option Addr) (len cap : Nat) (xs : List Pl.Ty) (w : World) (hT : TRow lo w a len cap xs) (hE : Errs w) (hsm : ∀ i, i < len → ∀ j, j < (xs.getD i Pl.Ty.zero).names.length → ((xs.getD i Pl.Ty.zero).names.getD j ⟨#[]⟩).size ≤ 1048576) :
    Calls Tryd.prog 7 #[.slice a len cap] w fun e w' => e = .returned (.bool (Pl.dec (TOk len xs))) ∧ Below w.heap.size w w' := by
  have hm : (len : Int) ≤ 9223372036854775807 := by have := hT.small; omega
  by_cases hbig : (2000 : Int) < (len : Int)
  · go_enter Tryd.func7, Tryd.ntmps7
    go_wp2_with fail
    go_ret
    exact ⟨ret_bool (Pl.dec_no (fun h => absurd h.1 (by omega))).symm, Below.refl _ _⟩
  have HT : Hid (TRow lo w a len cap xs) := hT
  have HE : Hid (Errs w) := hE
  have HS : Hid (∀ i, i < len → ∀ j, j < (xs.getD i Pl.Ty.zero).names.length → ((xs.getD i Pl.Ty.zero).names.getD j ⟨#[]⟩).size ≤ 1048576) := hsm
  clear hT hE hsm
  obtain ⟨i0, hi0, hz0, hz1, hz2⟩ := info_parts Tryd.infoi64
  have hmk : ∀ u : World, (Instr.makeSlice 30 (.int .i64 (len : Int)) (.int .i64 (len : Int))).run Tryd.prog u = .ok (.slice (some ⟨u.heap.size, 0, none⟩) len len) (u.alloc (.cells (madeCells (Value.int .i64 0).cells (len * 1)) 3)) := fun u => by
    have := run_makeSlice u 30 3 i0 _ Tryd.underlying30 hi0 hz0 .i64 .i64 (len : Int) (len : Int) (by omega) (by omega) (by rw [hz1]; simp; omega) (by rw [hz2]; omega) (by omega)
    rw [hz1, Int.toNat_natCast] at this
    exact this
  clear hi0 hz0 hz1 hz2
  rw [made_ints] at hmk
  go_enter Tryd.func7, Tryd.ntmps7
  go_wp2_with fail
  go_loopw [11] (fun i wr => ∃ k : Nat, k ≤ len ∧ i = .int .i64 k ∧ Hid ((∀ j, j < k → Pl.fit xs j = true) ∧ Below w.heap.size w wr)) (fun i _ => len - (intOf i).toNat)
  case atStart => exact ⟨0, Nat.zero_le _, rfl, fun j hj => absurd hj (Nat.not_lt_zero _), Below.refl _ _⟩
  case round =>
    obtain ⟨k, hk, rfl, H⟩ := hrel
    by_cases hlt : k < len
    · have hi : (k : Int) < (len : Int) := by omega
      cases hf : Pl.fit xs k
      · go_wp2_with (go_at_call 14; refine (isFit_of names_said a len cap xs k hlt _ (HT.out.keep H.out.2) (HE.out.keep H.out.2) (HS.out k hlt)).mono ?_; rintro e u1 ⟨rfl, g1⟩; rw [hf]; have G1 : Hid _ := g1; clear g1)
        go_ret
        exact ⟨ret_bool (Pl.dec_no (fun h => by have := h.2.1 k hlt; rw [hf] at this; cases this)).symm, H.out.2.trans (G1.out.mono H.out.2.size)⟩
      · go_wp2_with (go_at_call 14; refine (isFit_of names_said a len cap xs k hlt _ (HT.out.keep H.out.2) (HE.out.keep H.out.2) (HS.out k hlt)).mono ?_; rintro e u1 ⟨rfl, g1⟩; rw [hf]; have G1 : Hid _ := g1; clear g1)
        go_roundw
        case rel => exact ⟨k + 1, by omega, by go_num, fun j hj => by
          by_cases e : j = k
          · rw [e]; exact hf
          · exact H.out.1 j (by omega), H.out.2.trans (G1.out.mono H.out.2.size)⟩
        case measure => simp [intOf]; omega
    · have hke : k = len := by omega
      have hi : ¬ ((k : Int) < (len : Int)) := by omega
      have HF : Hid (∀ j, j < len → Pl.fit xs j = true) := fun j hj => H.out.1 j (by omega)
      obtain ⟨z, hz⟩ : ∃ z, wr.heap.size = z := ⟨_, rfl⟩
      have HES : Hid (∀ n, EndSaid Tryd.prog w (z + 1) z a len cap xs n) := endSaid HT.out HF.out (by rw [← hz]; exact H.out.2.size)
      have HN : Hid (Nst (z + 1) z a len cap (List.replicate len 0) ((wr.alloc (.cells (ints (List.replicate len 0)) 3)).alloc (.cells #[.slice a len cap, .slice (some ⟨z, 0, none⟩) len len] 43)) ∧ Below w.heap.size w ((wr.alloc (.cells (ints (List.replicate len 0)) 3)).alloc (.cells #[.slice a len cap, .slice (some ⟨z, 0, none⟩) len len] 43))) := by
        have q1 : (wr.alloc (.cells (ints (List.replicate len 0)) 3)).heap[z]? = some (.cells (ints (List.replicate len 0)) 3) := by rw [← hz]; exact heap_alloc_new wr _
        have q2 := heap_alloc_new (wr.alloc (.cells (ints (List.replicate len 0)) 3)) (.cells #[.slice a len cap, .slice (some ⟨z, 0, none⟩) len len] 43)
        have zs : (wr.alloc (.cells (ints (List.replicate len 0)) 3)).heap.size = z + 1 := by simp [hz]
        rw [zs] at q2
        have q3 := ((below_alloc (wr.alloc (.cells (ints (List.replicate len 0)) 3)) (.cells #[.slice a len cap, .slice (some ⟨z, 0, none⟩) len len] 43)).block z (by rw [zs]; omega)).trans q1
        refine ⟨⟨q2, q3, by simp, by omega⟩, H.out.2.trans ?_⟩
        exact ((below_alloc _ _).trans ((below_alloc _ _).mono (by simp))).mono H.out.2.size
      subst hke
      clear hi hlt
      go_wp2_with fail
      go_loopw [26] (fun i ws => ∃ (q : Nat) (S : List Int), q ≤ k ∧ i = .int .i64 q ∧ Hid (Nst (z + 1) z a k cap S ws ∧ Below w.heap.size w ws ∧ Pl.stOk S ∧ Pl.shut xs S ∧ (∀ j, S.getD j 0 ≠ 1) ∧ ∀ j, j < q → S.getD j 0 = 2)) (fun i _ => k - (intOf i).toNat)
      case atStart => exact ⟨0, List.replicate k 0, Nat.zero_le _, rfl, HN.out.1, HN.out.2, (fun j => .inl (getD_rep k j)), (show Pl.shut xs _ from fun j hj => by rw [getD_rep] at hj; cases hj), (fun j hj => by rw [getD_rep] at hj; cases hj), fun j hj => absurd hj (Nat.not_lt_zero _)⟩
      case round =>
        obtain ⟨q, S, hq, rfl, G⟩ := hrel
        by_cases hlq : q < k
        · have hi : (q : Int) < (k : Int) := by omega
          go_wp2_with fail
          refine (HES.out (Pl.fresh S) S _ q hlq G.out.1 G.out.2.1 G.out.2.2.1 G.out.2.2.2.1 (Nat.le_refl _)).mono ?_
          rintro e u2 ⟨b, rfl, T, hN2, hB2, hf2, ht2⟩
          have H2 : Hid (Nst (z + 1) z a k cap T u2 ∧ Below w.heap.size w u2) := ⟨hN2, hB2⟩
          have HF2 : Hid (b = false → Pl.Rl xs S T ∧ T.getD q 0 = 2) := hf2
          have HT2 : Hid (b = true → ¬ Pl.pre xs S q ∧ (S.getD q 0 = 1 ∨ (xs.getD q Pl.Ty.zero).thick)) := ht2
          clear hN2 hB2 hf2 ht2
          cases b
          · go_wp2_with fail
            go_roundw
            case rel =>
              have hR := HF2.out (by trivial)
              refine ⟨q + 1, T, by omega, by go_num, H2.out.1, H2.out.2, hR.1.ok, hR.1.shut, fun j hj => G.out.2.2.2.2.1 j ((hR.1.open_ j).1 hj), fun j hj => ?_⟩
              by_cases e : j = q
              · rw [e]; exact hR.2
              · exact hR.1.two j (G.out.2.2.2.2.2 j (by omega))
            case measure => simp [intOf]; omega
          · go_wp2_with fail
            go_ret
            obtain ⟨t1, t2⟩ := HT2.out (by trivial)
            refine ⟨ret_bool (Pl.dec_no (fun h => ?_)).symm, H2.out.2⟩
            obtain ⟨f, hf⟩ := h.2.2 q hlq (t2.resolve_left (G.out.2.2.2.2.1 q))
            exact t1 ⟨f, hf, fun j hj => absurd hj (G.out.2.2.2.2.1 j)⟩
        · have hqe : q = k := by omega
          have hi : ¬ ((q : Int) < (k : Int)) := by omega
          go_wp2_with fail
          go_ret
          exact ⟨ret_bool (Pl.dec_yes ⟨by omega, HF.out, fun j hj => G.out.2.2.2.1 j (G.out.2.2.2.2.2 j (by omega))⟩).symm, G.out.2.1⟩
end Go.Proofs.YtafcnijfoejboaaDoor.W
