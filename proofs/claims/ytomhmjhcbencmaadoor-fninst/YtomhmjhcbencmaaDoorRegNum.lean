import Derived.Test.YtomhmjhcbencmaaDoorRegX
import Derived.Maps.OwnOps
import Derived.Maps.Views
namespace Go.Proofs.YtomhmjhcbencmaaDoor.Pl
open Go Go.Maps
def two (i : Nat) : List UInt8 := if i < 32 then regs.getD i [] else 120 :: dcm (i - 32)
theorem two_short : ∀ i : Nat, i < 64 → (two i).length < 7 := by decide +kernel
theorem two_apart : ∀ i : Nat, i < 64 → ∀ j : Nat, j < 64 → two i = two j → i = j := by decide +kernel
/-- the 64 names: those of the first list, and the x names -/
def nn (i : Nat) : ByteArray := ⟨(two i).toArray⟩
theorem nn_rn (k : Nat) (h : k < 32) : nn k = rn k := by unfold nn rn two; rw [if_pos h]
theorem nn_xn (k : Nat) : nn (32 + k) = xn k := by
  unfold nn xn two; rw [if_neg (by omega)]
  have e : 32 + k - 32 = k := by omega
  rw [e]
theorem nn_size (i : Nat) (h : i < 64) : (nn i).size < 7 := by
  have := two_short i h
  unfold nn; show (Array.size _) < 7; simpa using this
theorem nn_inj (i j : Nat) (hi : i < 64) (hj : j < 64) (h : nn i = nn j) : i = j := by
  refine two_apart i hi j hj ?_
  unfold nn at h
  have h2 := congrArg (fun b : ByteArray => b.data.toList) h
  simpa using h2
/-- the map after n registers -/
def dat (kl : Nat → Lit) : Nat → DataW Unit
  | 0 => .map []
  | n + 1 => ((dat kl n).put (kl n) (.lit (.int .i64 (n : Int)))).put (kl (32 + n)) (.lit (.int .i64 (n : Int)))
theorem put_isMap {D : DataW Unit} (h : IsMap D) (k : Lit) (d : DataW Unit) : IsMap (D.put k d) := by
  obtain ⟨es, rfl⟩ := h; exact ⟨_, rfl⟩
theorem dat_isMap (kl : Nat → Lit) (n : Nat) : IsMap (dat kl n) := by
  induction n with
  | zero => exact ⟨[], rfl⟩
  | succ n ih => exact put_isMap (put_isMap ih _ _) _ _
theorem dat_miss (kl : Nat → Lit) (x : Lit) (z : DataW Unit) (n : Nat) (h : ∀ i, i < n → x ≠ kl i ∧ x ≠ kl (32 + i)) : (dat kl n).atKey x z = z ∧ Maps.has (dat kl n) x = false := by
  induction n with
  | zero => exact ⟨rfl, rfl⟩
  | succ n ih =>
    have hn := h n (by omega)
    have ih' := ih fun i hi => h i (by omega)
    unfold dat
    rw [atKey_put_other hn.2, atKey_put_other hn.1, has_put_other hn.2, has_put_other hn.1]
    exact ih'
theorem dat_hit (kl : Nat → Lit) (j r : Nat) (hjr : j = r ∨ j = 32 + r) (z : DataW Unit) (hk : WideAt.IsKeyLit (kl j)) (n : Nat) (hj : r < n) (h : ∀ i, i < n → (i ≠ j → kl j ≠ kl i) ∧ (32 + i ≠ j → kl j ≠ kl (32 + i))) (hn : n ≤ 32) : (dat kl n).atKey (kl j) z = .lit (.int .i64 (r : Int)) ∧ Maps.has (dat kl n) (kl j) = true := by
  induction n with
  | zero => omega
  | succ n ih =>
    have hh := h n (by omega)
    unfold dat
    by_cases e : r = n
    · subst e
      rcases hjr with e1 | e1
      · subst e1
        have h2 := hh.2 (by omega)
        rw [atKey_put_other h2, has_put_other h2]
        exact ⟨atKey_put_same (dat_isMap kl j) hk _ _, has_put_same (dat_isMap kl j) hk _⟩
      · subst e1
        exact ⟨atKey_put_same (put_isMap (dat_isMap kl r) _ _) hk _ _, has_put_same (put_isMap (dat_isMap kl r) _ _) hk _⟩
    · have h1 := hh.1 (by omega)
      have h2 := hh.2 (by omega)
      rw [atKey_put_other h2, atKey_put_other h1, has_put_other h2, has_put_other h1]
      exact ih (by omega) (fun i hi => h i (by omega)) (by omega)
end Go.Proofs.YtomhmjhcbencmaaDoor.Pl
namespace Go.Proofs.YtomhmjhcbencmaaDoor.W
open Go.RowKit Go.Maps
theorem owns_below {P : Program} {k : TypeId} {R : Value → Option (DataW Unit × List MemPlace)} {w w' : World} {b n : Nat} {D : DataW Unit} (h : w.ownsMap P k R b n D) (hb : Below w.heap.size w w') : w'.ownsMap P k R b n D := by
  have hlt := h.lt
  obtain ⟨es, c, hh, r⟩ := h
  exact ⟨es, c, by rw [hb.block b hlt]; exact hh, r⟩
theorem zero3 (w : World) : (zeroValue 3).run Tryd.prog w = .ok (.int .i64 0) w := by kernel_rfl
theorem umap : Tryd.prog.underlying 69 = some (.map 72 3) := by kernel_rfl
theorem x_cat (k : Nat) : (⟨#[120]⟩ : ByteArray) ++ Pl.dn k = Pl.xn k := by
  have e := Lib.mk_data ((⟨#[120]⟩ : ByteArray) ++ Pl.dn k)
  rw [← e]
  unfold Pl.xn Pl.dn
  congr 1
theorem dn_size (k : Nat) : (Pl.dn k).size ≤ 2 := by
  unfold Pl.dn Pl.dcm; show Array.size _ ≤ 2; split <;> simp
set_option maxRecDepth 20000 in
set_option maxHeartbeats 1000000 in
theorem regNumbers_any (kl : Nat → Lit) (hkl : ∀ i, keyOf Tryd.prog 72 (.agg (kcells (Pl.nn i)).toArray) = some (kl i)) (w : World) (hr : RegsLie w) : Calls Tryd.prog 43 #[] w fun e w' => e = .returned (.map (some w.heap.size)) ∧ w'.ownsMap Tryd.prog 72 (plainElem Tryd.prog 3) w.heap.size 64 (Pl.dat kl 32) ∧ Below w.heap.size w w' := by
  have HKL : Hid (∀ i, keyOf Tryd.prog 72 (.agg (kcells (Pl.nn i)).toArray) = some (kl i)) := hkl
  have HR : Hid (RegsLie w) := hr
  clear hkl hr
  have hmm := @run_makeMap Tryd.prog
  go_enter Tryd.func43, Tryd.ntmps43
  go_wp2
  go_loopw [4] (fun i wr => ∃ k : Nat, k ≤ 32 ∧ i = .int .i64 k ∧ wr.ownsMap Tryd.prog 72 (plainElem Tryd.prog 3) w.heap.size (2 * k) (Pl.dat kl k) ∧ Below w.heap.size w wr)
    (fun i _ => 32 - (intOf i).toNat)
  case atStart => exact ⟨0, Nat.zero_le _, rfl, World.ownsMap_made _ _ _ _, (Below.refl _ _).alloc (Nat.le_refl _) _⟩
  case round =>
    obtain ⟨k, hk, rfl, hown, hnx⟩ := hrel
    by_cases hlt : k < 32
    · have HRk : Hid (RegsLie wr) := HR.out.below hnx
      have HO : Hid (wr.ownsMap Tryd.prog 72 (plainElem Tryd.prog 3) w.heap.size (2 * k) (Pl.dat kl k)) := hown
      have hs1 : (Pl.rn k).size ≤ maxLen := by have := Pl.nn_size k (by omega); rw [Pl.nn_rn k hlt] at this; unfold maxLen; omega
      have hs2 : (Pl.xn k).size ≤ maxLen := by have := Pl.nn_size (32 + k) (by omega); rw [Pl.nn_xn k] at this; unfold maxLen; omega
      have HS1 : Hid ((Pl.rn k).size ≤ maxLen) := hs1
      have HS2 : Hid ((Pl.xn k).size ≤ maxLen) := hs2
      have hk1 := HKL.out k
      rw [Pl.nn_rn k hlt] at hk1
      have hk2 := HKL.out (32 + k)
      rw [Pl.nn_xn k] at hk2
      have HK1 : Hid (keyOf Tryd.prog 72 (.agg (kcells (Pl.rn k)).toArray) = some (kl k)) := hk1
      have HK2 : Hid (keyOf Tryd.prog 72 (.agg (kcells (Pl.xn k)).toArray) = some (kl (32 + k))) := hk2
      have hcat := x_cat k
      have hdn := dn_size k
      clear hown hs1 hs2 hk1 hk2 HKL
      go_wp2_with fail
      refine (implRegName_yes k (by omega) _ HRk.out).mono ?_
      rintro e u1 ⟨rfl, hb1⟩
      have O1 := owns_below HO.out hb1
      have B1 := hnx.trans (hb1.mono hnx.size)
      go_wp2_with fail
      refine (keyFn_any _ HS1.out _).mono ?_
      rintro e u2 ⟨rfl, hb2⟩
      have O2 := owns_below O1 hb2
      have B2 := B1.trans (hb2.mono B1.size)
      go_wp2_with (first
        | (at_mapUpdate; refine wpList_mapUpdate_own _ rfl _ _ _ 69 rfl 72 3 law60 umap _ w.heap.size (2 * k) _ rfl O2 (by unfold maxLen; omega) _ _ _ rfl rfl HK1.out _ [] (plainElem_int Tryd.underlying3 (WalkArith.wf_i64 (by omega))) ?_; intro w1 hown1 hgrow1)
        | (go_at_call 62; refine (itoa_any k hlt _).mono ?_; rintro e w' ⟨rfl, rfl⟩))
      refine (keyFn_any _ HS2.out _).mono ?_
      rintro e u3 ⟨rfl, hb3⟩
      have O3 := owns_below hown1 hb3
      have B2' := B2.grown hgrow1 B2.size (fun j hj => by cases hj; exact Nat.le_refl _)
      have B3 := B2'.trans (hb3.mono B2'.size)
      go_wp2_with (at_mapUpdate; refine wpList_mapUpdate_own _ rfl _ _ _ 69 rfl 72 3 law60 umap _ w.heap.size (2 * k + 1) _ rfl O3 (by unfold maxLen; omega) _ _ _ rfl rfl HK2.out _ [] (plainElem_int Tryd.underlying3 (WalkArith.wf_i64 (by omega))) ?_; intro w2 hown2 hgrow2)
      have e2 : 2 * (k + 1) = 2 * k + 1 + 1 := by omega
      have HE : Hid (2 * (k + 1) = 2 * k + 1 + 1) := e2
      clear e2
      go_roundw
      case rel => exact ⟨k + 1, by omega, by go_num, by rw [HE.out]; exact hown2, B3.grown hgrow2 B3.size (fun j hj => by cases hj; exact Nat.le_refl _)⟩
      case measure => simp [intOf]; omega
    · have e : k = 32 := by omega
      subst e
      go_wp2
      go_ret
      exact ⟨rfl, hown, hnx⟩
theorem keys_exist : ∃ kl : Nat → Lit, ∀ i, keyOf Tryd.prog 72 (.agg (kcells (Pl.nn i)).toArray) = some (kl i) :=
  ⟨fun i => Classical.choose (key_of (Pl.nn i)), fun i => Classical.choose_spec (key_of (Pl.nn i))⟩
theorem cells_of_key {s t : ByteArray} {l : Lit} (h : keyOf Tryd.prog 72 (.agg (kcells s).toArray) = some l) (h' : keyOf Tryd.prog 72 (.agg (kcells t).toArray) = some l) : kcells s = kcells t := by
  have e := law60.inj h h'
  simp only [Value.agg.injEq] at e
  simpa using e
theorem kl_apart {kl : Nat → Lit} (hkl : ∀ i, keyOf Tryd.prog 72 (.agg (kcells (Pl.nn i)).toArray) = some (kl i)) (i j : Nat) (hi : i < 64) (hj : j < 64) (h : kl i = kl j) : i = j :=
  Pl.nn_inj i j hi hj (kcells_inj _ _ (Pl.nn_size i hi) (Pl.nn_size j hj) (cells_of_key (hkl i) (by rw [h]; exact hkl j)))
/-- the number of a register's name, or -1 -/
def IsReg (s : ByteArray) (c : Int) : Prop := (∃ r : Nat, r < 32 ∧ c = r ∧ (Pl.nn r = s ∨ Pl.nn (32 + r) = s)) ∨ (c = -1 ∧ ∀ r, r < 32 → Pl.nn r ≠ s ∧ Pl.nn (32 + r) ≠ s)
theorem IsReg.uniq {s : ByteArray} {a b : Int} (h : IsReg s a) (h' : IsReg s b) : a = b := by
  rcases h with ⟨r, h1, rfl, h3⟩ | ⟨h1, h2⟩ <;> rcases h' with ⟨q, g1, rfl, g3⟩ | ⟨g1, g2⟩
  · rcases h3 with h3 | h3 <;> rcases g3 with g3 | g3
    · have := Pl.nn_inj r q (by omega) (by omega) (h3.trans g3.symm); omega
    · have := Pl.nn_inj r (32 + q) (by omega) (by omega) (h3.trans g3.symm); omega
    · have := Pl.nn_inj (32 + r) q (by omega) (by omega) (h3.trans g3.symm); omega
    · have := Pl.nn_inj (32 + r) (32 + q) (by omega) (by omega) (h3.trans g3.symm); omega
  · rcases h3 with h3 | h3
    · exact absurd h3 (g2 r h1).1
    · exact absurd h3 (g2 r h1).2
  · rcases g3 with g3 | g3
    · exact absurd g3 (h2 q g1).1
    · exact absurd g3 (h2 q g1).2
  · omega
theorem nn_nonempty : ∀ i : Nat, i < 64 → (Pl.two i).length ≠ 0 := by decide +kernel
theorem zero_no_key (s : ByteArray) (h : ¬ s.size < 7) (i : Nat) (hi : i < 64) (e : kcells (Pl.nn i) = kcells s) : False := by
  have e1 := kcells_long s h
  have e2 : (kcells (Pl.nn i)).toArray = #[.int .u8 0, .int .u8 0, .int .u8 0, .int .u8 0, .int .u8 0, .int .u8 0, .int .u8 0] := by rw [e]; exact e1
  have e3 : kcells (Pl.nn i) = [.int .u8 0, .int .u8 0, .int .u8 0, .int .u8 0, .int .u8 0, .int .u8 0, .int .u8 0] := by simpa using congrArg Array.toList e2
  unfold kcells at e3
  rw [if_pos (Pl.nn_size i hi)] at e3
  simp only [List.cons_append, List.cons.injEq, Value.int.injEq, true_and] at e3
  have h0 := nn_nonempty i hi
  have hz : (Pl.nn i).size = (Pl.two i).length := by unfold Pl.nn; show Array.size _ = _; simp
  omega
theorem reg_of_map {kl : Nat → Lit} (hkl : ∀ i, keyOf Tryd.prog 72 (.agg (kcells (Pl.nn i)).toArray) = some (kl i)) (s : ByteArray) (x : Lit) (hx : keyOf Tryd.prog 72 (.agg (kcells s).toArray) = some x) (c : Int)
    (hat : (Pl.dat kl 32).atKey x (.lit (.int .i64 0)) = .lit (.int .i64 c)) : (Maps.has (Pl.dat kl 32) x = true ∧ IsReg s c) ∨ (Maps.has (Pl.dat kl 32) x = false ∧ IsReg s (-1)) := by
  by_cases hm : ∃ i, i < 64 ∧ x = kl i
  · obtain ⟨i, hi, rfl⟩ := hm
    obtain ⟨r, hr, hir⟩ : ∃ r, r < 32 ∧ (i = r ∨ i = 32 + r) := by
      by_cases h : i < 32
      · exact ⟨i, h, .inl rfl⟩
      · exact ⟨i - 32, by omega, .inr (by omega)⟩
    obtain ⟨h1, h2⟩ := Pl.dat_hit kl i r hir (.lit (.int .i64 0)) (law60.key hx) 32 hr (fun j hj => ⟨fun hne e => hne (kl_apart hkl i j hi (by omega) e).symm, fun hne e => hne (kl_apart hkl i (32 + j) hi (by omega) e).symm⟩) (Nat.le_refl _)
    rw [h1] at hat
    simp only [DataW.lit.injEq, Lit.int.injEq, true_and] at hat
    have hc := cells_of_key (hkl i) hx
    have hs : s.size < 7 := Classical.byContradiction fun h => zero_no_key s h i hi hc
    have e := kcells_inj _ _ (Pl.nn_size i hi) hs hc
    refine .inl ⟨h2, .inl ⟨r, hr, hat.symm, ?_⟩⟩
    rcases hir with rfl | rfl
    · exact .inl e
    · exact .inr e
  · obtain ⟨_, h2⟩ := Pl.dat_miss kl x (.lit (.int .i64 0)) 32 (fun i hi => ⟨fun e => hm ⟨i, by omega, e⟩, fun e => hm ⟨32 + i, by omega, e⟩⟩)
    refine .inr ⟨h2, .inr ⟨rfl, fun r hr => ⟨fun e => ?_, fun e => ?_⟩⟩⟩
    · subst e; exact hm ⟨r, by omega, Option.some.inj (hx.symm.trans (hkl r))⟩
    · subst e; exact hm ⟨32 + r, by omega, Option.some.inj (hx.symm.trans (hkl (32 + r)))⟩
set_option maxHeartbeats 400000 in
theorem implRegNumber_any (s : ByteArray) (hs : s.size ≤ maxLen) (w : World) (hr : RegsLie w) : Calls Tryd.prog 12 #[.string s] w fun e w' => ∃ m : Int, e = .returned (.int .i64 m) ∧ IsReg s m ∧ Below w.heap.size w w' := by
  obtain ⟨kl, hkl⟩ := keys_exist
  obtain ⟨x, hx⟩ := key_of s
  have HKL : Hid (∀ i, keyOf Tryd.prog 72 (.agg (kcells (Pl.nn i)).toArray) = some (kl i)) := hkl
  have HX : Hid (keyOf Tryd.prog 72 (.agg (kcells s).toArray) = some x) := hx
  have HS : Hid (s.size ≤ maxLen) := hs
  have HR : Hid (RegsLie w) := hr
  clear hkl hx hs hr
  go_enter Tryd.func12, Tryd.ntmps12
  go_wp2_with fail
  refine (regNumbers_any kl HKL.out _ HR.out).mono ?_
  rintro e u1 ⟨rfl, ho1, hb1⟩
  have HO1 : Hid (u1.ownsMap Tryd.prog 72 (plainElem Tryd.prog 3) w.heap.size 64 (Pl.dat kl 32)) := ho1
  clear ho1
  go_wp2_with fail
  refine (keyFn_any _ HS.out _).mono ?_
  rintro e u2 ⟨rfl, hb2⟩
  have HO2 := owns_below HO1.out hb2
  have hB := hb1.trans (hb2.mono hb1.size)
  by_cases hh : Maps.has (Pl.dat kl 32) x = true
  · go_wp2_with (at_lookup; refine wpList_lookup_own_ok_int _ rfl _ _ 69 rfl 72 3 .i64 law60 umap Tryd.underlying3 (zero3 _) w.heap.size 64 _ rfl HO2 _ _ rfl HX.out ?_; intro c hat hwc)
    go_ret
    rcases reg_of_map HKL.out s x HX.out c hat with ⟨_, h2⟩ | ⟨h1, _⟩
    · exact ⟨c, rfl, h2, hB⟩
    · rw [hh] at h1; cases h1
  · have hh' : Maps.has (Pl.dat kl 32) x = false := by simpa using hh
    clear hh
    go_wp2_with (at_lookup; refine wpList_lookup_own_ok_int _ rfl _ _ 69 rfl 72 3 .i64 law60 umap Tryd.underlying3 (zero3 _) w.heap.size 64 _ rfl HO2 _ _ rfl HX.out ?_; intro c hat hwc)
    go_ret
    rcases reg_of_map HKL.out s x HX.out c hat with ⟨h1, _⟩ | ⟨_, h2⟩
    · rw [hh'] at h1; cases h1
    · exact ⟨-1, rfl, h2, hB⟩
end Go.Proofs.YtomhmjhcbencmaaDoor.W
