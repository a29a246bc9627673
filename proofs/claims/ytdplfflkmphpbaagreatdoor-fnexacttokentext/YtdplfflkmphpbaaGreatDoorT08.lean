import Derived.Test.YtdplfflkmphpbaaGreatDoorT07
import Derived.Deep.CutBlock
import Derived.Deep.DeepCutAuto
import Derived.Deep.CutRange
import Derived.Shelf.Strings.SlTrimAscii
import Derived.Laws.CopyOwn
import Derived.Test.YtdplfflkmphpbaaGreatDoorT00
import Derived.LoopTactic
set_option linter.unusedVariables false
set_option linter.unusedSimpArgs false
namespace Go.Proofs.YtdplfflkmphpbaaGreatDoor.Pl
theorem trim_list (p : UInt8 → Bool) : ∀ n (l : List UInt8), l.length = n → ∃ k, k ≤ l.length ∧ (l.reverse.dropWhile p).reverse = l.take k ∧ (∀ j, k ≤ j → j < l.length → p (l.getD j 0) = true) ∧ (k = 0 ∨ p (l.getD (k - 1) 0) = false)
  | 0, l, h => by
    have : l = [] := List.length_eq_zero_iff.1 h
    subst this
    exact ⟨0, Nat.le_refl _, rfl, fun j _ hj => absurd hj (Nat.not_lt_zero _), .inl rfl⟩
  | n + 1, l, h => by
    have hne : l ≠ [] := fun e => by rw [e] at h; simp at h
    obtain ⟨l', a, rfl⟩ : ∃ l' a, l = l' ++ [a] := ⟨l.dropLast, l.getLast hne, (List.dropLast_concat_getLast hne).symm⟩
    have hl' : l'.length = n := by simpa using h
    rw [List.reverse_append, List.reverse_singleton, List.singleton_append]
    cases ha : p a
    · refine ⟨(l' ++ [a]).length, Nat.le_refl _, ?_, fun j h1 h2 => by omega, .inr ?_⟩
      · rw [List.dropWhile_cons_of_neg (by simp [ha]), List.take_length]
        simp
      · rw [show (l' ++ [a]).length - 1 = l'.length by simp]
        simp [ha]
    · obtain ⟨k, h1, h2, h3, h4⟩ := trim_list p n l' hl'
      refine ⟨k, by simp; omega, ?_, fun j hj1 hj2 => ?_, ?_⟩
      · rw [List.dropWhile_cons_of_pos (by simp [ha]), h2, List.take_append_of_le_length h1]
      · by_cases e : j < l'.length
        · rw [List.getD_eq_getElem?_getD, List.getElem?_append_left e, ← List.getD_eq_getElem?_getD]; exact h3 j hj1 e
        · have : j = l'.length := by simp at hj2; omega
          rw [this]; simp [ha]
      · rcases h4 with e | e
        · exact .inl e
        · by_cases hk : k = 0
          · exact .inl hk
          · right; rw [List.getD_eq_getElem?_getD, List.getElem?_append_left (by omega), ← List.getD_eq_getElem?_getD]; exact e
theorem uu_con (x : UInt8) : List.contains [117, 85] x = uu ((x.toNat : Nat) : Int) := by
  have : ∀ n : Nat, n < 256 → List.contains [117, 85] (UInt8.ofNat n) = uu (n : Int) := by decide +kernel
  have h := this x.toNat x.toNat_lt
  rwa [UInt8.ofNat_toNat] at h
theorem trim_is (s : ByteArray) : ∃ k, k ≤ s.size ∧ (⟨(Lib.trimRightS s.data.toList [117, 85]).toArray⟩ : ByteArray) = s.extract 0 k ∧ (∀ j, k ≤ j → j < s.size → uu (byt s j) = true) ∧ (k = 0 ∨ uu (byt s (k - 1)) = false) := by
  obtain ⟨k, h1, h2, h3, h4⟩ := trim_list (fun x => List.contains [117, 85] x) _ s.data.toList rfl
  have hsz : s.data.toList.length = s.size := by simp
  refine ⟨k, by omega, ?_, fun j a b => ?_, ?_⟩
  · unfold Lib.trimRightS
    rw [h2]
    refine ba_ext (by rw [ext_size]; show (List.take k s.data.toList).toArray.size = _; rw [List.size_toArray, List.length_take]; omega) fun j hj => ?_
    have hj' : j < k := by
      have : (ByteArray.mk (List.take k s.data.toList).toArray).size = min k s.data.toList.length := by show (List.take k s.data.toList).toArray.size = _; rw [List.size_toArray, List.length_take]
      omega
    rw [byt_ext s 0 k j (by omega) (by omega), Nat.zero_add]
    unfold byt
    congr 2
    simp [List.getD, List.getElem?_take, hj']
  · have := h3 j a (by omega)
    rw [uu_con] at this
    exact this
  · rcases h4 with e | e
    · exact .inl e
    · right; rw [uu_con] at e; exact e
theorem pre2 (D : ByteArray) (a b : UInt8) : Lib.hasPrefix D.data.toList (⟨#[a, b]⟩ : ByteArray).data.toList = (decide (2 ≤ D.size) && byt D 0 == (a.toNat : Int) && byt D 1 == (b.toNat : Int)) := by
  obtain ⟨⟨l⟩⟩ := D
  have key : ∀ x y : UInt8, (x == y) = (((x.toNat : Nat) : Int) == ((y.toNat : Nat) : Int)) := fun x y => by
    rw [Bool.eq_iff_iff]
    simp only [beq_iff_eq]
    exact ⟨fun h => by rw [h], fun h => UInt8.toNat_inj.1 (by omega)⟩
  show List.isPrefixOf [a, b] l = (decide (2 ≤ l.length) && (((l.getD 0 0).toNat : Int) == (a.toNat : Int)) && (((l.getD 1 0).toNat : Int) == (b.toNat : Int)))
  rcases l with _ | ⟨x, _ | ⟨y, l⟩⟩
  · rfl
  · simp [List.isPrefixOf]
  · simp [List.isPrefixOf, key]
    rw [Bool.eq_iff_iff]
    simp
    omega
theorem hx_uu {c : Int} (h : uu c = true) : hx c = -1 := by
  unfold uu at h
  simp at h
  rcases h with e | e <;> rw [e] <;> decide
theorem isx_k {s : ByteArray} {k : Nat} (hk : ∀ j, k ≤ j → j < s.size → uu (byt s j) = true) (h : isx s = true) : 2 ≤ k ∧ 2 ≤ s.size := by
  unfold isx at h
  simp only [Bool.and_eq_true, Bool.or_eq_true, decide_eq_true_eq, beq_iff_eq] at h
  refine ⟨?_, by omega⟩
  rcases Nat.lt_or_ge k 2 with q | q
  · have := hk 1 (by omega) h.1.1
    rcases h.2 with e | e <;> (rw [e] at this; exact absurd this (by decide))
  · exact q
theorem intR_many {s : ByteArray} {k : Nat} (hk : ∀ j, k ≤ j → j < s.size → uu (byt s j) = true) (h1 : 1 ≤ k) (hm : k + 2 ≤ s.size) : intR s = .error 2 := by
  have he : iend s = s.size - 1 := by unfold iend; rw [if_pos (hk _ (by omega) (by omega))]
  have ho : ioff s ≤ k := by
    unfold ioff
    split
    · rename_i q; exact (isx_k hk q).1
    · omega
  refine intR_2b (s.size - 2 - ioff s) (by rw [idig_sz, he]; omega) ?_
  unfold idig
  rw [byt_ext _ _ _ _ (by rw [he]; omega) (by rw [he]; omega), show ioff s + (s.size - 2 - ioff s) = s.size - 2 by omega]
  unfold badD
  rw [hx_uu (hk _ (by omega) (by omega))]
  rfl
theorem iend_few {s : ByteArray} {k : Nat} (hks : k ≤ s.size) (hk : ∀ j, k ≤ j → j < s.size → uu (byt s j) = true) (h1 : 1 ≤ k) (hn : uu (byt s (k - 1)) = false) (hm : s.size ≤ k + 1) : iend s = k ∧ (uu (byt s (s.size - 1)) = true ↔ s.size = k + 1) := by
  by_cases e : k = s.size
  · subst e
    unfold iend
    rw [hn]
    exact ⟨rfl, ⟨fun h => by simp at h, fun h => by omega⟩⟩
  · have e1 : s.size = k + 1 := by omega
    have := hk (s.size - 1) (by omega) (by omega)
    unfold iend
    rw [if_pos this, this]
    exact ⟨by omega, ⟨fun _ => e1, fun _ => rfl⟩⟩
theorem badD_dgo (b c : Int) (hb : b = 8 ∨ b = 10 ∨ b = 16) : badD b c = false ↔ dgo c < max b 10 := by
  unfold badD dgo
  have h1 := hx_lo c
  have h2 := hx_hi c
  rcases hb with rfl | rfl | rfl <;> split <;> simp <;> omega
end Go.Proofs.YtdplfflkmphpbaaGreatDoor.Pl
namespace Go.Proofs.YtdplfflkmphpbaaGreatDoor.W
open Go.RowKit
theorem results_ctL {P : Program} {fn : Func} {p q : Tmp} {ty : TypeId} (h : fn.results = #[.cell p ty, .tmp q]) (tmps : Array Value) (w : World) (g : Nat) (t : TypeId) (cs : Array Value) (fr : Nat × Nat) (d : TypeDesc) (v : Value)
    (hp : tmps.getD p undef = .pointer (some ⟨g, 0, none⟩)) (hq : tmps.getD q undef = v) (hg : w.heap[g]? = some (.cells cs t fr))
    (hu : P.underlying ty = some d) (hd : (match d with | .struct _ | .array _ _ => true | _ => false) = true) (hi : (P.info? ty).map (·.size) = some cs.size) :
    (results fn tmps).run P w = .ok (.tuple #[.agg cs, v]) w := by
  have hp' : tmps[p]?.getD undef = .pointer (some ⟨g, 0, none⟩) := by simpa using hp
  have hq' : tmps[q]?.getD undef = v := by simpa using hq
  simp [results, h, hp', hq', asAddr, run_loadVar_row w g t ty cs fr d hg hu hd hi]
def IntI (s : ByteArray) (e : Ending) : Prop := match Pl.intR s with
  | .ok (S, N) => e = .returned (.tuple #[.agg #[.int .i64 3, .string S, .int .i64 N, .int .i64 0, .int .i64 0], .int .i64 0])
  | .error f => e = .returned (.tuple #[.agg #[.int .i64 0, .string ⟨#[]⟩, .int .i64 0, .int .i64 0, .int .i64 0], .int .i64 f])
theorem inti_no {s : ByteArray} {f : Int} (h : Pl.intR s = .error f) : IntI s (.returned (.tuple #[.agg #[.int .i64 0, .string ⟨#[]⟩, .int .i64 0, .int .i64 0, .int .i64 0], .int .i64 f])) := by unfold IntI; rw [h]
theorem inti_ok {s S S' : ByteArray} {N N' : Int} (h : Pl.intR s = .ok (S, N)) (hS : S' = S) (hN : N' = N) : IntI s (.returned (.tuple #[.agg #[.int .i64 3, .string S', .int .i64 N', .int .i64 0, .int .i64 0], .int .i64 0])) := by unfold IntI; rw [h, hS, hN]
set_option maxHeartbeats 8000000 in
set_option maxRecDepth 100000 in
theorem readInteger_is (s : ByteArray) (h0 : 0 < s.size) (hd : Pl.dg (Pl.byt s 0) = true) (hs : s.size ≤ 1048576) (w : World) (hE : Glo w) : Calls Tryz.prog 85 #[.string s] w fun e w' => IntI s e ∧ Below w.heap.size w w' := by
  obtain ⟨k, hk1, hk2, hk3, hk4⟩ := Pl.trim_is s
  have hk0 : 1 ≤ k := by
    rcases Nat.eq_zero_or_pos k with e | e
    · have := hk3 0 (by omega) h0
      have hb : 48 ≤ Pl.byt s 0 ∧ Pl.byt s 0 ≤ 57 := by simpa [Pl.dg] using hd
      unfold Pl.uu at this
      simp at this
      omega
    · exact e
  have HT : Hid (∀ u : World, Calls Tryz.prog 110 #[.string s, .string ⟨#[117, 85]⟩] u fun e w' => e = .returned (.string (s.extract 0 k)) ∧ Below u.heap.size u w') := fun u => by
    rw [← hk2]
    exact Any.strings_TrimRight_laid Tryz.lays162 (by kernel_rfl) s ⟨#[117, 85]⟩ u (by omega) (by decide) (ascii_of_all (by decide))
  have hn1 : Pl.uu (Pl.byt s (k - 1)) = false := hk4.resolve_left (by omega)
  have HM : Hid (k + 2 ≤ s.size → Pl.intR s = .error 2) := fun h => Pl.intR_many hk3 hk0 h
  have HF : Hid (s.size ≤ k + 1 → Pl.iend s = k ∧ (Pl.uu (Pl.byt s (s.size - 1)) = true ↔ s.size = k + 1)) := fun h => Pl.iend_few hk1 hk3 hk0 hn1 h
  have hxk : Pl.isx s = true → 2 ≤ k ∧ 2 ≤ s.size := Pl.isx_k hk3
  have hD0s : (s.extract 0 k).size = k := by rw [Pl.ext_size]; omega
  have hDb : ∀ j, j < k → Pl.byt (s.extract 0 k) j = Pl.byt s j := fun j hj => by rw [Pl.byt_ext s 0 k j (by omega) hk1, Nat.zero_add]
  have HD0 : Hid (¬ Pl.isx s = true → s.extract 0 k = s.extract (Pl.ioff s) k) := fun h => by unfold Pl.ioff; rw [if_neg h]
  have HD2 : Hid (Pl.isx s = true → (s.extract 0 k).extract 2 k = s.extract (Pl.ioff s) k) := fun h => by
    have := hxk h
    unfold Pl.ioff; rw [if_pos h, Pl.ext_ext s 0 k 2 k (by omega) hk1 (by omega)]
    simp
  obtain ⟨D0, hD0⟩ : ∃ D0, D0 = s.extract 0 k := ⟨_, rfl⟩
  rw [← hD0] at HT hD0s hDb HD0 HD2
  have hp1 := Pl.pre2 D0 48 120
  have hp2 := Pl.pre2 D0 48 88
  obtain ⟨P1, hP1⟩ : ∃ P1, P1 = Lib.hasPrefix D0.data.toList (⟨#[48, 120]⟩ : ByteArray).data.toList := ⟨_, rfl⟩
  obtain ⟨P2, hP2⟩ : ∃ P2, P2 = Lib.hasPrefix D0.data.toList (⟨#[48, 88]⟩ : ByteArray).data.toList := ⟨_, rfl⟩
  have HP1 : Hid (∀ u, Calls Tryz.prog 78 #[.string D0, .string ⟨#[48, 120]⟩] u fun e w' => e = .returned (.bool P1) ∧ w' = u) := fun u => by rw [hP1]; exact Tryz.strings_HasPrefix D0 ⟨#[48, 120]⟩ u
  have HP2 : Hid (∀ u, Calls Tryz.prog 78 #[.string D0, .string ⟨#[48, 88]⟩] u fun e w' => e = .returned (.bool P2) ∧ w' = u) := fun u => by rw [hP2]; exact Tryz.strings_HasPrefix D0 ⟨#[48, 88]⟩ u
  rw [← hP1] at hp1
  rw [← hP2] at hp2
  have hx : Pl.isx s = (P1 || P2) := by
    rw [hp1, hp2, hD0s]
    by_cases q : 2 ≤ k
    · rw [hDb 0 (by omega), hDb 1 (by omega), decide_eq_true q]
      unfold Pl.isx
      rw [decide_eq_true (by omega : 1 < s.size)]
      rw [Bool.eq_iff_iff]
      simp
      constructor
      · rintro ⟨a, b | b⟩
        · exact .inl ⟨a, b⟩
        · exact .inr ⟨a, b⟩
      · rintro (⟨a, b⟩ | ⟨a, b⟩)
        · exact ⟨a, .inl b⟩
        · exact ⟨a, .inr b⟩
    · rw [decide_eq_false q]
      cases hq : Pl.isx s
      · rfl
      · exact absurd (hxk hq).1 q
  have hg0 : ((D0[0]'(by omega)).toNat : Int) = Pl.byt s 0 := by rw [Pl.byt_get D0 0 (by omega), hDb 0 (by omega)]
  obtain ⟨c0, hc0⟩ : ∃ c, c = Pl.byt s 0 := ⟨_, rfl⟩
  rw [← hc0] at hg0
  obtain ⟨b, hb⟩ : ∃ b, b = Pl.ibase s := ⟨_, rfl⟩
  obtain ⟨D, hD⟩ : ∃ D, D = s.extract (Pl.ioff s) k := ⟨_, rfl⟩
  have HBB : Hid (b = 8 ∨ b = 10 ∨ b = 16) := by rw [hb]; exact Pl.ibase_is s
  have HBV : Hid (b = if (P1 || P2) = true then 16 else if c0 = 48 then 8 else 10) := by show b = _; rw [hb, hc0, ← hx]; rfl
  have hP2k : (P1 || P2) = true → 2 ≤ k := fun h => (hxk (by rw [hx]; exact h)).1
  have HP2k : Hid ((P1 || P2) = true → 2 ≤ k) := hP2k
  rw [hx] at HD0 HD2
  rw [← hD] at HD0 HD2
  have HFB : Hid (b = Pl.ibase s) := hb
  have HFD : Hid (s.size ≤ k + 1 → D = Pl.idig s) := fun h => by rw [hD]; unfold Pl.idig; rw [(HF.out h).1]
  have HDm : Hid (D.size ≤ 1048576) := by rw [hD]; show (s.extract _ _).size ≤ _; rw [Pl.ext_size]; omega
  have HE : Hid (Glo w) := hE
  clear hE hD hb hc0 hP1 hP2 hp1 hp2 hx hxk hP2k hDb hD0 hk4 hn1 hk3 hk2 hd
  go_enter Tryz.func85, Tryz.ntmps85
  go_wp2_with fail
  refine (HT.out _).mono ?_
  rintro e u1 ⟨rfl, g1⟩
  have hz1 : w.heap.size < u1.heap.size := by have := g1.size; simp at this; omega
  have Q1 : Hid (u1.heap[w.heap.size]? = some (.cells #[.int .i64 0, .string ⟨#[]⟩, .int .i64 0, .int .i64 0, .int .i64 0] 34 (0, 0))) := (g1.block w.heap.size (by simp)).trans (heap_alloc_new w _)
  have B1 : Hid (Below w.heap.size w u1) := (below_allocL w _).trans (g1.mono (by simp))
  clear g1 HT
  go_upto_block 0 with fail
  go_cut [4, 6] (fun s4 s6 wx => s4 = .string D ∧ s6 = .int .i64 b ∧ wx = u1)
  case first =>
    cases P1
    · cases P2
      · have HDD : Hid (D0 = D) := HD0.out (by decide)
        by_cases e0 : c0 = 48
        · have e0' : (c0 == 48) = true := by simp [e0]
          have HB2 : Hid (b = 8) := by show b = _; rw [HBV.out, if_neg (by decide), if_pos e0]
          clear e0 HBV HD0 HD2
          go_wp2_with (go_at_call 78; first | (refine (HP1.out _).mono ?_; rintro e uu ⟨rfl, rfl⟩) | (refine (HP2.out _).mono ?_; rintro e uu ⟨rfl, rfl⟩))
          go_meet
          exact ⟨by rw [HDD.out], by rw [HB2.out], rfl⟩
        · have e0' : (c0 == 48) = false := by simp [e0]
          have HB2 : Hid (b = 10) := by show b = _; rw [HBV.out, if_neg (by decide), if_neg e0]
          clear e0 HBV HD0 HD2
          go_wp2_with (go_at_call 78; first | (refine (HP1.out _).mono ?_; rintro e uu ⟨rfl, rfl⟩) | (refine (HP2.out _).mono ?_; rintro e uu ⟨rfl, rfl⟩))
          go_meet
          exact ⟨by rw [HDD.out], by rw [HB2.out], rfl⟩
      · have h2 := HP2k.out (by decide)
        have h2' : (2 : Int) ≤ (k : Int) := by omega
        have HDD : Hid (D0.extract 2 k = D) := HD2.out (by decide)
        have HB2 : Hid (b = 16) := by show b = _; rw [HBV.out, if_pos (by decide)]
        clear HBV HD0 HD2 h2
        go_wp2_with (go_at_call 78; first | (refine (HP1.out _).mono ?_; rintro e uu ⟨rfl, rfl⟩) | (refine (HP2.out _).mono ?_; rintro e uu ⟨rfl, rfl⟩))
        go_meet
        exact ⟨by rw [← HDD.out], by rw [HB2.out], rfl⟩
    · have h2 := HP2k.out (by simp)
      have h2' : (2 : Int) ≤ (k : Int) := by omega
      have HDD : Hid (D0.extract 2 k = D) := HD2.out (by simp)
      have HB2 : Hid (b = 16) := by show b = _; rw [HBV.out, if_pos (by simp)]
      clear HBV HD0 HD2 h2
      go_wp2_with (go_at_call 78; first | (refine (HP1.out _).mono ?_; rintro e uu ⟨rfl, rfl⟩) | (refine (HP2.out _).mono ?_; rintro e uu ⟨rfl, rfl⟩))
      go_meet
      exact ⟨by rw [← HDD.out], by rw [HB2.out], rfl⟩
  case rest =>
  obtain ⟨rfl, rfl, hwc⟩ := hcut
  rw [hwc]
  clear hwc HP1 HP2 HP2k HD0 HD2 HBV hg0
  by_cases hm : k + 2 ≤ s.size
  · have hm' : (1 : Int) < (s.size : Int) - (k : Int) := by omega
    have HR : Hid (Pl.intR s = .error 2) := HM.out hm
    clear hm HM HF HFD
    go_wp2_with (refine wpList_store_row rfl 34 _ _ rfl w.heap.size #[.int .i64 0, .string ⟨#[]⟩, .int .i64 0, .int .i64 0, .int .i64 0] ?hx ?hy 34 #[.int .i64 0, .string ⟨#[]⟩, .int .i64 0, .int .i64 0, .int .i64 0] ?hg ?hi ?ho ?h1 ?_; (case hx => rfl); (case hy => rfl); (case hg => exact Q1.out); (case hi => kernel_rfl); (case ho => kernel_rfl); (case h1 => kernel_rfl))
    refine bodyPost_ret (v := .tuple #[.agg #[.int .i64 0, .string ⟨#[]⟩, .int .i64 0, .int .i64 0, .int .i64 0], .int .i64 2]) ?hr ?hdf ?hQQ
    case hr =>
      refine results_ctL Tryz.results85 _ _ (w.heap.size) 34 #[.int .i64 0, .string ⟨#[]⟩, .int .i64 0, .int .i64 0, .int .i64 0] (0, 0) _ (.int .i64 2) ?hp ?hq ?hg Tryz.underlying34 ?hd ?hi
      case hp => rfl
      case hq => rfl
      case hg => exact setRow_heap _ _ _ _ _ _ Q1.out
      case hd => rfl
      case hi => kernel_rfl
    case hdf => rfl
    case hQQ => exact ⟨inti_no HR.out, below_setRow B1.out (Nat.le_refl _) _⟩
  have hm' : ¬ (1 : Int) < (s.size : Int) - (k : Int) := by omega
  obtain ⟨hie, hie2⟩ := HF.out (by omega)
  have hDD : D = Pl.idig s := HFD.out (by omega)
  have hDs := Pl.idig_sz s
  have HA : Hid (Pl.iend s ≤ Pl.ioff s → Pl.intR s = .error 2) := Pl.intR_2a
  have HB : Hid (∀ j, j < (Pl.idig s).size → Pl.badD (Pl.ibase s) (Pl.byt (Pl.idig s) j) = true → Pl.intR s = .error 2) := fun j => Pl.intR_2b j
  have H6 : Hid (_ → _ → _ → Pl.intR s = .error 6) := @Pl.intR_6 s
  have HOK : Hid (_ → _ → _ → _ → Pl.intR s = .ok _) := @Pl.intR_ok s
  rw [← hDD] at hDs HB H6 HOK
  rw [← HFB.out] at HB H6 HOK
  have HU : Hid (Pl.uu (Pl.byt s (s.size - 1)) = true ↔ s.size = k + 1) := hie2
  clear HM HF HFD hie hie2 hDD hm HFB
  have hDm := HDm.out
  have hE2 := Pl.isE D
  by_cases hD0 : D.size = 0
  · rw [decide_eq_true hD0] at hE2
    have HR : Hid (Pl.intR s = .error 2) := HA.out (by omega)
    clear hD0 hDs
    go_wp2_with (refine wpList_store_row rfl 34 _ _ rfl w.heap.size #[.int .i64 0, .string ⟨#[]⟩, .int .i64 0, .int .i64 0, .int .i64 0] ?hx ?hy 34 #[.int .i64 0, .string ⟨#[]⟩, .int .i64 0, .int .i64 0, .int .i64 0] ?hg ?hi ?ho ?h1 ?_; (case hx => rfl); (case hy => rfl); (case hg => exact Q1.out); (case hi => kernel_rfl); (case ho => kernel_rfl); (case h1 => kernel_rfl))
    refine bodyPost_ret (v := .tuple #[.agg #[.int .i64 0, .string ⟨#[]⟩, .int .i64 0, .int .i64 0, .int .i64 0], .int .i64 2]) ?hr ?hdf ?hQQ
    case hr =>
      refine results_ctL Tryz.results85 _ _ (w.heap.size) 34 #[.int .i64 0, .string ⟨#[]⟩, .int .i64 0, .int .i64 0, .int .i64 0] (0, 0) _ (.int .i64 2) ?hp ?hq ?hg Tryz.underlying34 ?hd ?hi
      case hp => rfl
      case hq => rfl
      case hg => exact setRow_heap _ _ _ _ _ _ Q1.out
      case hd => rfl
      case hi => kernel_rfl
    case hdf => rfl
    case hQQ => exact ⟨inti_no HR.out, below_setRow B1.out (Nat.le_refl _) _⟩
  rw [decide_eq_false hD0] at hE2
  have HNE : Hid (¬ Pl.iend s ≤ Pl.ioff s) := by show ¬ _; omega
  have HDP : Hid (0 < D.size) := by show 0 < D.size; omega
  clear hDs HA hD0
  go_wp2_with fail
  refine (inBase_is D (by omega) _ (by have := HBB.out; omega) _).mono ?_
  rintro e u2 ⟨⟨p, hp, rfl⟩, g2⟩
  have Q2 : Hid (u2.heap[w.heap.size]? = some (.cells #[.int .i64 0, .string ⟨#[]⟩, .int .i64 0, .int .i64 0, .int .i64 0] 34 (0, 0))) := (g2.block w.heap.size hz1).trans Q1.out
  have B2 : Hid (Below w.heap.size w u2) := B1.out.trans (g2.mono B1.out.size)
  have hz2 : w.heap.size < u2.heap.size := Nat.lt_of_lt_of_le hz1 g2.size
  have HP : Hid (p = true ↔ ∀ j, j < D.size → Pl.badD b (Pl.byt D j) = false) := by
    refine hp.trans ⟨fun h j hj => (Pl.badD_dgo b _ HBB.out).2 (h j hj), fun h j hj => (Pl.badD_dgo b _ HBB.out).1 (h j hj)⟩
  clear g2 hp Q1 B1 hz1
  cases p
  · have HR : Hid (Pl.intR s = .error 2) := by
      refine Classical.byContradiction fun hc => ?_
      have : ∀ j, j < D.size → Pl.badD b (Pl.byt D j) = false := fun j hj => by
        cases hq : Pl.badD b (Pl.byt D j)
        · rfl
        · exact absurd (HB.out j hj hq) hc
      exact absurd (HP.out.2 this) (by decide)
    clear HP HB H6 HOK HU HBB
    go_wp2_with (refine wpList_store_row rfl 34 _ _ rfl w.heap.size #[.int .i64 0, .string ⟨#[]⟩, .int .i64 0, .int .i64 0, .int .i64 0] ?hx ?hy 34 #[.int .i64 0, .string ⟨#[]⟩, .int .i64 0, .int .i64 0, .int .i64 0] ?hg ?hi ?ho ?h1 ?_; (case hx => rfl); (case hy => rfl); (case hg => exact Q2.out); (case hi => kernel_rfl); (case ho => kernel_rfl); (case h1 => kernel_rfl))
    refine bodyPost_ret (v := .tuple #[.agg #[.int .i64 0, .string ⟨#[]⟩, .int .i64 0, .int .i64 0, .int .i64 0], .int .i64 2]) ?hr ?hdf ?hQQ
    case hr =>
      refine results_ctL Tryz.results85 _ _ (w.heap.size) 34 #[.int .i64 0, .string ⟨#[]⟩, .int .i64 0, .int .i64 0, .int .i64 0] (0, 0) _ (.int .i64 2) ?hp ?hq ?hg Tryz.underlying34 ?hd ?hi
      case hp => rfl
      case hq => rfl
      case hg => exact setRow_heap _ _ _ _ _ _ Q2.out
      case hd => rfl
      case hi => kernel_rfl
    case hdf => rfl
    case hQQ => exact ⟨inti_no HR.out, below_setRow B2.out (Nat.le_refl _) _⟩
  have HALL : Hid (∀ j, j < D.size → Pl.badD b (Pl.byt D j) = false) := HP.out.1 rfl
  clear HP HB
  go_wp2_with fail
  refine (sParse_is b 32 4294967295 (by have := HBB.out; omega) D hDm _ (HE.out.on B2.out)).mono ?_
  rintro e u3 ⟨hv, g3⟩
  have Q3 : Hid (u3.heap[w.heap.size]? = some (.cells #[.int .i64 0, .string ⟨#[]⟩, .int .i64 0, .int .i64 0, .int .i64 0] 34 (0, 0))) := (g3.block w.heap.size hz2).trans Q2.out
  have B3 : Hid (Below w.heap.size w u3) := B2.out.trans (g3.mono B2.out.size)
  have hz3 : w.heap.size < u3.heap.size := Nat.lt_of_lt_of_le hz2 g3.size
  clear g3 Q2 B2 hz2
  rcases hv with ⟨hg, rfl⟩ | ⟨hg, n, N, rfl⟩
  · obtain ⟨_, hg2, hg3⟩ := hg
    have v0 := Pl.val_lo D b (by have := HBB.out; omega) D.size (fun j hj => (hg2 j hj).1)
    have hR := HOK.out HNE.out HALL.out (fun j hj => (hg2 j hj).2) hg3
    obtain ⟨n, hn⟩ : ∃ n, n = Pl.val D b D.size := ⟨_, rfl⟩
    rw [← hn] at hR v0 hg3 ⊢
    have HR : Hid (Pl.intR s = .ok (if Pl.uu (Pl.byt s (s.size - 1)) = true ∨ 2147483647 < n then ⟨#[117]⟩ else ⟨#[]⟩, n)) := hR
    clear hR hn hg2 HOK H6 HALL HNE HDP HBB
    have Q4 : Hid (∀ x, (u3.alloc x).heap[w.heap.size]? = some (.cells #[.int .i64 0, .string ⟨#[]⟩, .int .i64 0, .int .i64 0, .int .i64 0] 34 (0, 0))) := fun x => ((below_allocL u3 x).block w.heap.size hz3).trans Q3.out
    have B4 : Hid (∀ x, Below w.heap.size w (u3.alloc x)) := fun x => B3.out.trans ((below_allocL u3 x).mono B3.out.size)
    by_cases hm1 : s.size = k + 1
    · have hm2 : (s.size : Int) - (k : Int) = 1 := by omega
      have HR2 : Hid (Pl.intR s = .ok (⟨#[117]⟩, n)) := by show Pl.intR s = _; rw [HR.out, if_pos (.inl (HU.out.2 hm1))]
      clear hm1 HR HU
      go_wp2_with (refine wpList_store_row rfl 34 _ _ rfl w.heap.size #[.int .i64 3, .string ⟨#[117]⟩, .int .i64 n, .int .i64 0, .int .i64 0] ?hx ?hy 34 #[.int .i64 0, .string ⟨#[]⟩, .int .i64 0, .int .i64 0, .int .i64 0] ?hg ?hi ?ho ?h1 ?_; (case hx => rfl); (case hy => rfl); (case hg => exact Q4.out _); (case hi => kernel_rfl); (case ho => kernel_rfl); (case h1 => kernel_rfl))
      refine bodyPost_ret (v := .tuple #[.agg #[.int .i64 3, .string ⟨#[117]⟩, .int .i64 n, .int .i64 0, .int .i64 0], .int .i64 0]) ?hr ?hdf ?hQQ
      case hr =>
        refine results_ctL Tryz.results85 _ _ (w.heap.size) 34 #[.int .i64 3, .string ⟨#[117]⟩, .int .i64 n, .int .i64 0, .int .i64 0] (0, 0) _ (.int .i64 0) ?hp ?hq ?hg Tryz.underlying34 ?hd ?hi
        case hp => rfl
        case hq => rfl
        case hg => exact setRow_heap _ _ _ _ _ _ (Q4.out _)
        case hd => rfl
        case hi => kernel_rfl
      case hdf => rfl
      case hQQ => exact ⟨inti_ok HR2.out rfl rfl, below_setRow (B4.out _) (Nat.le_refl _) _⟩
    · have hm2 : ¬ (s.size : Int) - (k : Int) = 1 := by omega
      have hm3 : ((s.size : Int) - (k : Int) == 1) = false := by simp; omega
      have hu : ¬ Pl.uu (Pl.byt s (s.size - 1)) = true := fun h => hm1 (HU.out.1 h)
      clear hm1 HU
      by_cases h2 : 2147483647 < n
      · have HR2 : Hid (Pl.intR s = .ok (⟨#[117]⟩, n)) := by show Pl.intR s = _; rw [HR.out, if_pos (.inr h2)]
        clear HR hu
        go_wp2_with (refine wpList_store_row rfl 34 _ _ rfl w.heap.size #[.int .i64 3, .string ⟨#[117]⟩, .int .i64 n, .int .i64 0, .int .i64 0] ?hx ?hy 34 #[.int .i64 0, .string ⟨#[]⟩, .int .i64 0, .int .i64 0, .int .i64 0] ?hg ?hi ?ho ?h1 ?_; (case hx => rfl); (case hy => rfl); (case hg => exact Q4.out _); (case hi => kernel_rfl); (case ho => kernel_rfl); (case h1 => kernel_rfl))
        refine bodyPost_ret (v := .tuple #[.agg #[.int .i64 3, .string ⟨#[117]⟩, .int .i64 n, .int .i64 0, .int .i64 0], .int .i64 0]) ?hr ?hdf ?hQQ
        case hr =>
          refine results_ctL Tryz.results85 _ _ (w.heap.size) 34 #[.int .i64 3, .string ⟨#[117]⟩, .int .i64 n, .int .i64 0, .int .i64 0] (0, 0) _ (.int .i64 0) ?hp ?hq ?hg Tryz.underlying34 ?hd ?hi
          case hp => rfl
          case hq => rfl
          case hg => exact setRow_heap _ _ _ _ _ _ (Q4.out _)
          case hd => rfl
          case hi => kernel_rfl
        case hdf => rfl
        case hQQ => exact ⟨inti_ok HR2.out rfl rfl, below_setRow (B4.out _) (Nat.le_refl _) _⟩
      · have HR2 : Hid (Pl.intR s = .ok (⟨#[]⟩, n)) := by show Pl.intR s = _; rw [HR.out, if_neg (by rintro (q | q); exact hu q; exact h2 q)]
        clear HR hu
        go_wp2_with (refine wpList_store_row rfl 34 _ _ rfl w.heap.size #[.int .i64 3, .string ⟨#[]⟩, .int .i64 n, .int .i64 0, .int .i64 0] ?hx ?hy 34 #[.int .i64 0, .string ⟨#[]⟩, .int .i64 0, .int .i64 0, .int .i64 0] ?hg ?hi ?ho ?h1 ?_; (case hx => rfl); (case hy => rfl); (case hg => exact Q4.out _); (case hi => kernel_rfl); (case ho => kernel_rfl); (case h1 => kernel_rfl))
        refine bodyPost_ret (v := .tuple #[.agg #[.int .i64 3, .string ⟨#[]⟩, .int .i64 n, .int .i64 0, .int .i64 0], .int .i64 0]) ?hr ?hdf ?hQQ
        case hr =>
          refine results_ctL Tryz.results85 _ _ (w.heap.size) 34 #[.int .i64 3, .string ⟨#[]⟩, .int .i64 n, .int .i64 0, .int .i64 0] (0, 0) _ (.int .i64 0) ?hp ?hq ?hg Tryz.underlying34 ?hd ?hi
          case hp => rfl
          case hq => rfl
          case hg => exact setRow_heap _ _ _ _ _ _ (Q4.out _)
          case hd => rfl
          case hi => kernel_rfl
        case hdf => rfl
        case hQQ => exact ⟨inti_ok HR2.out rfl rfl, below_setRow (B4.out _) (Nat.le_refl _) _⟩
  · have HR : Hid (Pl.intR s = .error 6) := by
      refine H6.out HNE.out HALL.out ?_
      refine Classical.byContradiction fun hc => hg ⟨HDP.out, fun j hj => ⟨?_, ?_⟩, ?_⟩
      · have := HALL.out j hj
        unfold Pl.badD at this
        simp only [Bool.or_eq_false_iff, decide_eq_false_iff_not] at this
        omega
      · rcases Int.lt_or_le (Pl.hx (Pl.byt D j)) b with q | q
        · exact q
        · exact absurd (.inl ⟨j, hj, q⟩) hc
      · rcases Int.lt_or_le 4294967295 (Pl.val D b D.size) with q | q
        · exact absurd (.inr q) hc
        · exact q
    clear hg HOK H6 HALL HNE HDP HU HBB
    go_wp2_with (refine wpList_store_row rfl 34 _ _ rfl w.heap.size #[.int .i64 0, .string ⟨#[]⟩, .int .i64 0, .int .i64 0, .int .i64 0] ?hx ?hy 34 #[.int .i64 0, .string ⟨#[]⟩, .int .i64 0, .int .i64 0, .int .i64 0] ?hg ?hi ?ho ?h1 ?_; (case hx => rfl); (case hy => rfl); (case hg => exact Q3.out); (case hi => kernel_rfl); (case ho => kernel_rfl); (case h1 => kernel_rfl))
    refine bodyPost_ret (v := .tuple #[.agg #[.int .i64 0, .string ⟨#[]⟩, .int .i64 0, .int .i64 0, .int .i64 0], .int .i64 6]) ?hr ?hdf ?hQQ
    case hr =>
      refine results_ctL Tryz.results85 _ _ (w.heap.size) 34 #[.int .i64 0, .string ⟨#[]⟩, .int .i64 0, .int .i64 0, .int .i64 0] (0, 0) _ (.int .i64 6) ?hp ?hq ?hg Tryz.underlying34 ?hd ?hi
      case hp => rfl
      case hq => rfl
      case hg => exact setRow_heap _ _ _ _ _ _ Q3.out
      case hd => rfl
      case hi => kernel_rfl
    case hdf => rfl
    case hQQ => exact ⟨inti_no HR.out, below_setRow B3.out (Nat.le_refl _) _⟩
end Go.Proofs.YtdplfflkmphpbaaGreatDoor.W
namespace Go.Proofs.YtdplfflkmphpbaaGreatDoor.Pl
def pw (k : Nat) : Int := 2 ^ k
theorem pw_pos (k : Nat) : 0 < pw k := by unfold pw; exact Int.pow_pos (by decide)
theorem pw_succ (k : Nat) : pw (k + 1) = pw k * 2 := by unfold pw; rw [Int.pow_succ]
theorem pw_mono {j k : Nat} (h : j ≤ k) : pw j ≤ pw k := by
  induction h with
  | refl => omega
  | step _ ih => rw [pw_succ]; have := pw_pos j; omega
theorem pw_le62 (k : Nat) (h : k ≤ 62) : pw k ≤ 4611686018427387904 := by
  have := pw_mono h; have e : pw 62 = 4611686018427387904 := by decide
  omega
def i8 (n : Int) : Int := (n + 128) % 256 - 128
def i16 (n : Int) : Int := (n + 32768) % 65536 - 32768
def nr (k n : Int) : Int := if k = 1 then wd (i8 n) else if k = 2 then n % 256 else if k = 3 then wd (i16 n) else if k = 4 then n % 65536 else if k = 5 then wd n else 0
def kb (k : Int) : Bool := decide (1 ≤ k ∧ k ≤ 5)
theorem kb_none (k : Int) (h1 : (k == 1) = false) (h2 : (k == 2) = false) (h3 : (k == 3) = false) (h4 : (k == 4) = false) (h5 : (k == 5) = false) : false = kb k := by
  simp at h1 h2 h3 h4 h5; simp [kb]; omega
theorem nr_none (k n : Int) (h1 : (k == 1) = false) (h2 : (k == 2) = false) (h3 : (k == 3) = false) (h4 : (k == 4) = false) (h5 : (k == 5) = false) : 0 = nr k n := by
  simp at h1 h2 h3 h4 h5; simp [nr, h1, h2, h3, h4, h5]
theorem nr_i8 (n : Int) : wd (RowKit.wrap64 (IntKind.i8.wrap n)) = nr 1 n := by
  have h : IntKind.i8.wrap n = i8 n := by simp only [IntKind.wrap, IntKind.bits, IntKind.signed, i8]; simp; split <;> omega
  have h2 : RowKit.wrap64 (i8 n) = i8 n := by unfold RowKit.wrap64 i8; omega
  rw [h, h2]; rfl
theorem nr_i16 (n : Int) : wd (RowKit.wrap64 (IntKind.i16.wrap n)) = nr 3 n := by
  have h : IntKind.i16.wrap n = i16 n := by simp only [IntKind.wrap, IntKind.bits, IntKind.signed, i16]; simp; split <;> omega
  have h2 : RowKit.wrap64 (i16 n) = i16 n := by unfold RowKit.wrap64 i16; omega
  rw [h, h2]; rfl
theorem nr_u16 (n : Int) : RowKit.wrap64 (IntKind.u16.wrap n) = nr 4 n := by
  have h : IntKind.u16.wrap n = n % 65536 := by simp [IntKind.wrap, IntKind.bits, IntKind.signed]
  have h2 : RowKit.wrap64 (n % 65536) = n % 65536 := by unfold RowKit.wrap64; omega
  rw [h, h2]; rfl
theorem nrs1h (n : Int) (h : 128 ≤ wd n % 256) : wd (wd n % 256 - 256) = nr 1 n := by
  show _ = wd (i8 n); unfold wd at *; unfold i8; omega
theorem nrs1l (n : Int) (h : wd n % 256 < 128) : wd (wd n % 256) = nr 1 n := by
  show _ = wd (i8 n); unfold wd at *; unfold i8; omega
theorem nrs2 (n : Int) : wd (wd n % 256) = nr 2 n := by show _ = n % 256; unfold wd; omega
theorem nrs3h (n : Int) (h : 32768 ≤ wd n % 65536) : wd (wd n % 65536 - 65536) = nr 3 n := by
  show _ = wd (i16 n); unfold wd at *; unfold i16; omega
theorem nrs3l (n : Int) (h : wd n % 65536 < 32768) : wd (wd n % 65536) = nr 3 n := by
  show _ = wd (i16 n); unfold wd at *; unfold i16; omega
theorem nrs4 (n : Int) : wd (wd n % 65536) = nr 4 n := by show _ = n % 65536; unfold wd; omega
theorem nrs5 (n : Int) : wd (wd n % 4294967296) = nr 5 n := by show _ = wd n; unfold wd; omega
end Go.Proofs.YtdplfflkmphpbaaGreatDoor.Pl
namespace Go.Proofs.YtdplfflkmphpbaaGreatDoor.W
open Go.RowKit
theorem ret2 {k : IntKind} {a b : Int} {p q : Bool} (h : a = b) (h' : p = q) : Ending.returned (.tuple #[.int k a, .bool p]) = .returned (.tuple #[.int k b, .bool q]) := by rw [h, h']
set_option maxHeartbeats 400000 in
theorem specPower_any (n : Int) (k : Nat) (hn : n = k) (hk : k ≤ 62) (w : World) : Calls Tryz.prog 58 #[.int .i64 n] w fun e w' => e = .returned (.int .i64 (Pl.pw k)) ∧ w' = w := by
  subst hn
  go_enter Tryz.func58, Tryz.ntmps58
  go_wp2
  go_loop [3, 4] (fun v i => ∃ j : Nat, j ≤ k ∧ i = .int .i64 j ∧ v = .int .i64 (Pl.pw j)) (fun _ i => k - (intOf i).toNat)
  case atStart => exact ⟨0, Nat.zero_le _, rfl, rfl⟩
  case round =>
    obtain ⟨j, hj, rfl, rfl⟩ := hrel
    have h1 := Pl.pw_pos j
    have h2 := Pl.pw_le62 j (by omega)
    by_cases hlt : j < k
    · have h3 := Pl.pw_le62 (j + 1) (by omega)
      have h4 := Pl.pw_succ j
      have h5 : Pl.pw j * 2 ≤ 4611686018427387904 := by omega
      have H : Hid (Pl.pw (j + 1) = Pl.pw j * 2) := h4
      clear h3 h4
      go_wp2
      go_round
      case rel => exact ⟨j + 1, by omega, by go_num, by rw [H.out]⟩
      case measure => simp [intOf]; omega
    · have e : j = k := by omega
      subst e
      go_wp2
      go_ret
      exact ⟨rfl, rfl⟩
theorem implNarrow_any (k n : Int) (w : World) : Calls Tryz.prog 82 #[.int .i64 k, .int .i64 n] w fun e w' => e = .returned (.tuple #[.int .i64 (Pl.nr k n), .bool (Pl.kb k)]) ∧ w' = w := by
  rcases Pl.kind_cases k with rfl | rfl | rfl | rfl | rfl | ⟨h1, h2, h3, h4, h5⟩
  all_goals
    go_enter Tryz.func82, Tryz.ntmps82
    go_wp2_with (first | (go_at_call 103; refine (implWord_any _ _).mono ?_; rintro e w' ⟨rfl, rfl⟩) | go_in)
    go_ret2
  · exact ⟨ret2 (Pl.nr_i8 n) rfl, rfl⟩
  · exact ⟨ret2 rfl rfl, rfl⟩
  · exact ⟨ret2 (Pl.nr_i16 n) rfl, rfl⟩
  · exact ⟨ret2 (Pl.nr_u16 n) rfl, rfl⟩
  · exact ⟨ret2 rfl rfl, rfl⟩
  · exact ⟨ret2 (Pl.nr_none k n h1 h2 h3 h4 h5) (Pl.kb_none k h1 h2 h3 h4 h5), rfl⟩
theorem specPower8 (w : World) : Calls Tryz.prog 58 #[.int .i64 8] w fun e w' => e = .returned (.int .i64 256) ∧ w' = w := specPower_any 8 8 rfl (by decide) w
theorem specPower16 (w : World) : Calls Tryz.prog 58 #[.int .i64 16] w fun e w' => e = .returned (.int .i64 65536) ∧ w' = w := specPower_any 16 16 rfl (by decide) w
theorem specPower32 (w : World) : Calls Tryz.prog 58 #[.int .i64 32] w fun e w' => e = .returned (.int .i64 4294967296) ∧ w' = w := specPower_any 32 32 rfl (by decide) w
theorem ks0 (k : Int) (w : World) (h1 : (k == 1) = false) (h2 : (k == 2) = false) (h3 : (k == 3) = false) (h4 : (k == 4) = false) (h5 : (k == 5) = false) :
    Calls Tryz.prog 57 #[.int .i64 k] w fun e w' => e = .returned (.int .i64 0) ∧ w' = w := by
  have := specKindSize_any k w
  rw [← Pl.ks_none k h1 h2 h3 h4 h5] at this; exact this
theorem ks1 (w : World) : Calls Tryz.prog 57 #[.int .i64 1] w fun e w' => e = .returned (.int .i64 1) ∧ w' = w := specKindSize_any 1 w
theorem ks2 (w : World) : Calls Tryz.prog 57 #[.int .i64 2] w fun e w' => e = .returned (.int .i64 1) ∧ w' = w := specKindSize_any 2 w
theorem ks3 (w : World) : Calls Tryz.prog 57 #[.int .i64 3] w fun e w' => e = .returned (.int .i64 2) ∧ w' = w := specKindSize_any 3 w
theorem ks4 (w : World) : Calls Tryz.prog 57 #[.int .i64 4] w fun e w' => e = .returned (.int .i64 2) ∧ w' = w := specKindSize_any 4 w
theorem ks5 (w : World) : Calls Tryz.prog 57 #[.int .i64 5] w fun e w' => e = .returned (.int .i64 4) ∧ w' = w := specKindSize_any 5 w
theorem specNarrow_any (k n : Int) (w : World) : Calls Tryz.prog 46 #[.int .i64 k, .int .i64 n] w fun e w' => e = .returned (.tuple #[.int .i64 (Pl.nr k n), .bool (Pl.kb k)]) ∧ w' = w := by
  have hb := Pl.wd_bd n
  rcases Pl.kind_cases k with rfl | rfl | rfl | rfl | rfl | ⟨h1, h2, h3, h4, h5⟩
  · by_cases h : 128 ≤ Pl.wd n % 256
    all_goals
      go_enter Tryz.func46, Tryz.ntmps46
      go_wp2_with (first | (go_at_call 57; refine (ks1 _).mono ?_; rintro e w' ⟨rfl, rfl⟩) | (go_at_call 58; refine (specPower8 _).mono ?_; rintro e w' ⟨rfl, rfl⟩) | (go_at_call 59; refine (specWord_any _ _).mono ?_; rintro e w' ⟨rfl, rfl⟩))
      go_ret2
    · exact ⟨ret2 (Pl.nrs1h n h) rfl, rfl⟩
    · exact ⟨ret2 (Pl.nrs1l n h) rfl, rfl⟩
  · go_enter Tryz.func46, Tryz.ntmps46
    go_wp2_with (first | (go_at_call 57; refine (ks2 _).mono ?_; rintro e w' ⟨rfl, rfl⟩) | (go_at_call 58; refine (specPower8 _).mono ?_; rintro e w' ⟨rfl, rfl⟩) | (go_at_call 59; refine (specWord_any _ _).mono ?_; rintro e w' ⟨rfl, rfl⟩))
    go_ret2
    exact ⟨ret2 (Pl.nrs2 n) rfl, rfl⟩
  · by_cases h : 32768 ≤ Pl.wd n % 65536
    all_goals
      go_enter Tryz.func46, Tryz.ntmps46
      go_wp2_with (first | (go_at_call 57; refine (ks3 _).mono ?_; rintro e w' ⟨rfl, rfl⟩) | (go_at_call 58; refine (specPower16 _).mono ?_; rintro e w' ⟨rfl, rfl⟩) | (go_at_call 59; refine (specWord_any _ _).mono ?_; rintro e w' ⟨rfl, rfl⟩))
      go_ret2
    · exact ⟨ret2 (Pl.nrs3h n h) rfl, rfl⟩
    · exact ⟨ret2 (Pl.nrs3l n h) rfl, rfl⟩
  · go_enter Tryz.func46, Tryz.ntmps46
    go_wp2_with (first | (go_at_call 57; refine (ks4 _).mono ?_; rintro e w' ⟨rfl, rfl⟩) | (go_at_call 58; refine (specPower16 _).mono ?_; rintro e w' ⟨rfl, rfl⟩) | (go_at_call 59; refine (specWord_any _ _).mono ?_; rintro e w' ⟨rfl, rfl⟩))
    go_ret2
    exact ⟨ret2 (Pl.nrs4 n) rfl, rfl⟩
  · go_enter Tryz.func46, Tryz.ntmps46
    go_wp2_with (first | (go_at_call 57; refine (ks5 _).mono ?_; rintro e w' ⟨rfl, rfl⟩) | (go_at_call 58; refine (specPower32 _).mono ?_; rintro e w' ⟨rfl, rfl⟩) | (go_at_call 59; refine (specWord_any _ _).mono ?_; rintro e w' ⟨rfl, rfl⟩))
    go_ret2
    exact ⟨ret2 (Pl.nrs5 n) rfl, rfl⟩
  · go_enter Tryz.func46, Tryz.ntmps46
    go_wp2_with (go_at_call 57; refine (ks0 _ _ h1 h2 h3 h4 h5).mono ?_; rintro e w' ⟨rfl, rfl⟩)
    go_ret2
    exact ⟨ret2 (Pl.nr_none k n h1 h2 h3 h4 h5) (Pl.kb_none k h1 h2 h3 h4 h5), rfl⟩
end Go.Proofs.YtdplfflkmphpbaaGreatDoor.W
namespace Go.Proofs.YtdplfflkmphpbaaGreatDoor.Pl
def kyB : List (List UInt8) := [[98, 114, 101, 97, 107], [99, 97, 115, 101], [99, 104, 97, 114], [99, 111, 110, 116, 105, 110, 117, 101], [100, 101, 102, 97, 117, 108, 116], [100, 111], [101, 108, 115, 101], [101, 110, 117, 109], [102, 111, 114], [103, 111, 116, 111], [105, 102], [105, 110, 116], [114, 101, 116, 117, 114, 110], [115, 104, 111, 114, 116], [115, 105, 103, 110, 101, 100], [115, 105, 122, 101, 111, 102], [115, 116, 114, 117, 99, 116], [115, 119, 105, 116, 99, 104], [116, 121, 112, 101, 100, 101, 102], [117, 110, 105, 111, 110], [117, 110, 115, 105, 103, 110, 101, 100], [118, 111, 105, 100], [119, 104, 105, 108, 101]]
def isK (s : ByteArray) : Bool := kyB.any fun r => s.toList == r
noncomputable def wrdR (s : ByteArray) : Except Int (Int × ByteArray × Int) :=
  if dg (byt s 0) = true then (match intR s with | .error f => .error f | .ok (S, N) => .ok (3, S, N))
  else if 40 < s.size then .error 8 else if isK s = true then .ok (2, s, 0) else .ok (1, s, 0)
theorem intR_f {s : ByteArray} {f : Int} (h : intR s = .error f) : f = 2 ∨ f = 6 := by
  unfold intR at h
  split at h
  · cases h; exact .inl rfl
  · split at h
    · cases h; exact .inr rfl
    · cases h
theorem wrdR_f {s : ByteArray} {f : Int} (h : wrdR s = .error f) : f ≠ 0 := by
  unfold wrdR at h
  split at h
  · split at h
    · rename_i g hg
      cases h
      rcases intR_f hg with e | e <;> omega
    · cases h
  · split at h
    · cases h; decide
    · split at h <;> cases h
theorem Quo.ex (s : ByteArray) (m : Int) : ∀ d i acc, s.size - i = d → ∃ r, Quo s m i acc r := by
  intro d
  induction d using Nat.strongRecOn with
  | _ d ih =>
    intro i acc hd
    by_cases h1 : s.size ≤ i ∨ byt s i = 10
    · exact ⟨_, .out h1⟩
    have hi : i < s.size := by
      rcases Nat.lt_or_ge i s.size with e | e
      · exact e
      · exact absurd (.inl e) h1
    have h10 : byt s i ≠ 10 := fun e => h1 (.inr e)
    by_cases h2 : byt s i = m
    · exact ⟨_, .fin hi h2 h10⟩
    by_cases h3 : byt s i = 92
    · cases he : escF s (i + 1) with
      | error f => exact ⟨_, .bad hi h3 h2 he⟩
      | ok q =>
        obtain ⟨v, n⟩ := q
        obtain ⟨r, hr⟩ := ih (s.size - (i + 1 + n)) (by omega) (i + 1 + n) (acc ++ [UInt8.ofNat v.toNat]) rfl
        exact ⟨r, .esc hi h3 h2 he hr⟩
    · obtain ⟨r, hr⟩ := ih (s.size - (i + 1)) (by omega) (i + 1) (acc ++ [UInt8.ofNat (byt s i).toNat]) rfl
      exact ⟨r, .one hi h10 h2 h3 hr⟩
noncomputable def quoV (s : ByteArray) (m : Int) (i : Nat) : Except Int (List UInt8 × Nat) := Classical.choose (Quo.ex s m _ i [] rfl)
theorem quoV_eq {s : ByteArray} {m : Int} {i : Nat} {r : Except Int (List UInt8 × Nat)} (h : Quo s m i [] r) : quoV s m i = r := (Classical.choose_spec (Quo.ex s m _ i [] rfl)).fn h
theorem quoV_is (s : ByteArray) (m : Int) (i : Nat) : Quo s m i [] (quoV s m i) := Classical.choose_spec (Quo.ex s m _ i [] rfl)
def shQ (a : Nat) (r : Except Int (List UInt8 × Nat)) : Except Int (List UInt8 × Nat) := match r with | .error f => .error f | .ok (bs, n) => .ok (bs, a + n)
theorem Quo.to {s : ByteArray} {m : Int} {a : Nat} (ha : a ≤ s.size) {i : Nat} {acc : List UInt8} {r : Except Int (List UInt8 × Nat)} (h : Quo (s.extract a s.size) m i acc r) : Quo s m (a + i) acc (shQ a r) := by
  have hb : ∀ j, a + j < s.size → byt (s.extract a s.size) j = byt s (a + j) := fun j hj => ext_byt s a j hj
  induction h with
  | @out i acc h0 =>
    refine .out ?_
    rcases h0 with e | e
    · left; rw [ext_sz] at e; omega
    · rcases Nat.lt_or_ge (a + i) s.size with q | q
      · right; rw [← hb i q]; exact e
      · exact .inl q
  | @fin i acc h1 h2 h3 =>
    rw [ext_sz] at h1
    rw [hb i (by omega)] at h2 h3
    exact .fin (by omega) h2 h3
  | @bad i acc f h1 h2 h3 h4 =>
    rw [ext_sz] at h1
    rw [hb i (by omega)] at h2 h3
    rw [escF_ext s a (i + 1) ha] at h4
    exact .bad (by omega) h2 h3 h4
  | @esc i acc v n r h1 h2 h3 h4 h5 ih =>
    rw [ext_sz] at h1
    rw [hb i (by omega)] at h2 h3
    rw [escF_ext s a (i + 1) ha] at h4
    exact .esc (by omega) h2 h3 h4 (by rw [show a + i + 1 + n = a + (i + 1 + n) by omega]; exact ih)
  | @one i acc r h1 h2 h3 h4 h5 ih =>
    rw [ext_sz] at h1
    rw [hb i (by omega)] at h2 h3 h4 ih
    exact .one (by omega) h2 h3 h4 (by rw [show a + i + 1 = a + (i + 1) by omega]; exact ih)
theorem Quo.f0 {s : ByteArray} {m : Int} {i : Nat} {acc : List UInt8} {r : Except Int (List UInt8 × Nat)} (h : Quo s m i acc r) : ∀ f, r = .error f → f ≠ 0 := by
  induction h with
  | out _ => intro f e; cases e; decide
  | fin _ _ _ => intro f e; cases e
  | bad _ _ _ h4 => intro f e; cases e; exact escF_f h4
  | esc _ _ _ _ _ ih => exact ih
  | one _ _ _ _ _ ih => exact ih
theorem Quo.n1 {s : ByteArray} {m : Int} {i : Nat} {acc : List UInt8} {r : Except Int (List UInt8 × Nat)} (h : Quo s m i acc r) : ∀ bs n, r = .ok (bs, n) → i < n ∧ n ≤ s.size ∧ bs.length ≤ acc.length + (s.size - i) := by
  induction h with
  | out _ => intro bs n e; cases e
  | fin h1 _ _ => intro bs n e; cases e; exact ⟨by omega, by omega, by omega⟩
  | bad _ _ _ _ => intro bs n e; cases e
  | @esc i acc v k r h1 _ _ h4 _ ih =>
    intro bs n e
    have := ih bs n e
    have h5 := escF_n h4
    rw [List.length_append, List.length_singleton] at this
    omega
  | @one i acc r h1 _ _ _ _ ih =>
    intro bs n e
    have := ih bs n e
    rw [List.length_append, List.length_singleton] at this
    omega
noncomputable def tokF (s : ByteArray) (i : Nat) : Except Int (Int × ByteArray × Int × Nat) :=
  if wch (byt s i) = true then
    (match wrdR (s.extract i (i + run wch (s.extract i s.size))) with
    | .error f => .error f
    | .ok (k, S, N) => .ok (k, S, N, i + run wch (s.extract i s.size)))
  else if byt s i = 39 then (match quoV s 39 (i + 1) with
    | .error f => .error f
    | .ok (bs, n) => if bs.length = 1 then .ok (3, ⟨#[99]⟩, nr 1 ((bs.headD 0).toNat : Int), n) else .error 7)
  else if byt s i = 34 then (match quoV s 34 (i + 1) with
    | .error f => .error f
    | .ok (bs, n) => if 200 < bs.length then .error 8 else .ok (4, ⟨bs.toArray⟩, 0, n))
  else if sgn (s.extract i s.size) = 0 then .error 2 else .ok (5, s.extract i (i + sgn (s.extract i s.size)), 0, i + sgn (s.extract i s.size))
def shT (a : Nat) (r : Except Int (Int × ByteArray × Int × Nat)) : Except Int (Int × ByteArray × Int × Nat) := match r with | .error f => .error f | .ok (k, S, N, n) => .ok (k, S, N, a + n)
theorem run_le (p : Int → Bool) (s : ByteArray) : run p s ≤ s.size := (run_run p s).1
theorem sgn_le (s : ByteArray) : sgn s ≤ s.size ∧ sgn s ≤ 3 := by
  unfold sgn
  (repeat' split) <;> omega
theorem tokF_to (s : ByteArray) (a : Nat) (ha : a < s.size) : tokF s a = shT a (tokF (s.extract a s.size) 0) := by
  have hb : byt (s.extract a s.size) 0 = byt s a := by rw [ext_byt s a 0 (by omega), Nat.add_zero]
  have hsz := ext_sz s a
  have hz : (s.extract a s.size).extract 0 (s.extract a s.size).size = s.extract a s.size := ext_all _
  have hr := run_le wch (s.extract a s.size)
  have hg := (sgn_le (s.extract a s.size)).1
  have hq : ∀ m, quoV s m (a + 1) = shQ a (quoV (s.extract a s.size) m 1) := fun m => quoV_eq ((quoV_is _ _ _).to (by omega))
  have he : ∀ n, n ≤ s.size - a → (s.extract a s.size).extract 0 n = s.extract a (a + n) := fun n hn => by
    rw [ext_ext s a s.size 0 n (by omega) (Nat.le_refl _) (Nat.zero_le _), Nat.add_zero]
  unfold tokF
  rw [hb, hz, Nat.zero_add, Nat.zero_add, Nat.zero_add]
  rw [he _ (by omega), he _ (by omega), hq, hq]
  split
  · cases wrdR (s.extract a (a + run wch (s.extract a s.size))) <;> rfl
  · split
    · cases quoV (s.extract a s.size) 39 1 with
      | error f => rfl
      | ok q =>
        obtain ⟨bs, n⟩ := q
        simp only [shQ, shT]
        by_cases hl : bs.length = 1
        · rw [if_pos hl, if_pos hl]
        · rw [if_neg hl, if_neg hl]
    · split
      · cases quoV (s.extract a s.size) 34 1 with
        | error f => rfl
        | ok q =>
          obtain ⟨bs, n⟩ := q
          simp only [shQ, shT]
          by_cases hl : 200 < bs.length
          · rw [if_pos hl, if_pos hl]
          · rw [if_neg hl, if_neg hl]
      · split <;> rfl
theorem tokF_f {s : ByteArray} {i : Nat} {f : Int} (h : tokF s i = .error f) : f ≠ 0 := by
  unfold tokF at h
  split at h
  · split at h
    · rename_i g hg; cases h; exact wrdR_f hg
    · cases h
  · split at h
    · split at h
      · rename_i g hg; cases h; exact (quoV_is s 39 (i + 1)).f0 _ hg
      · split at h <;> cases h; decide
    · split at h
      · split at h
        · rename_i g hg; cases h; exact (quoV_is s 34 (i + 1)).f0 _ hg
        · split at h <;> cases h; decide
      · split at h <;> cases h; decide
theorem hx10 : hx 10 = -1 := by decide
theorem escF_nn {s : ByteArray} {i : Nat} {v : Int} {n : Nat} (h : escF s i = .ok (v, n)) : ∀ j, i ≤ j → j < i + n → byt s j ≠ 10 := by
  have a : ∀ j, 0 ≤ hc s j → byt s j ≠ 10 := fun j hj e => by
    unfold hc at hj
    rw [e, hx10] at hj
    split at hj <;> omega
  have b : ∀ j, 0 ≤ oc s j → byt s j ≠ 10 := fun j hj e => by
    unfold oc at hj
    rw [e] at hj
    split at hj
    · rename_i q; omega
    · omega
  intro j h1 h2
  have hj : j = i ∨ j = i + 1 ∨ j = i + 2 ∨ i + 3 ≤ j := by omega
  have a1 := a (i + 1)
  have a2 := a (i + 2)
  have b0 := b i
  have b1 := b (i + 1)
  have b2 := b (i + 2)
  unfold escF at h
  split at h
  · cases h
  rename_i q0
  have q1 : byt s i ≠ 10 := fun e => q0 (.inr e)
  repeat' (split at h)
  all_goals cases h
  all_goals (rcases hj with e | e | e | e <;> first | (rw [e]; exact q1) | (rw [e]; exact a1 (by omega)) | (rw [e]; exact a2 (by omega)) | (rw [e]; exact b1 (by omega)) | (rw [e]; exact b2 (by omega)) | (exfalso; omega))
theorem Quo.nn {s : ByteArray} {m : Int} {i : Nat} {acc : List UInt8} {r : Except Int (List UInt8 × Nat)} (h : Quo s m i acc r) : ∀ bs n, r = .ok (bs, n) → ∀ j, i ≤ j → j < n → byt s j ≠ 10 := by
  induction h with
  | out _ => intro bs n e; cases e
  | @fin i acc h1 _ h3 => intro bs n e j h4 h5; cases e; rw [show j = i by omega]; exact h3
  | bad _ _ _ _ => intro bs n e; cases e
  | @esc i acc v k r h1 h2 h3 h4 _ ih =>
    intro bs n e j h5 h6
    by_cases q : j = i
    · rw [q, h2]; decide
    · rcases Nat.lt_or_ge j (i + 1 + k) with q2 | q2
      · exact escF_nn h4 j (by omega) (by omega)
      · exact ih bs n e j q2 h6
  | @one i acc r h1 h2 _ _ _ ih =>
    intro bs n e j h5 h6
    by_cases q : j = i
    · rw [q]; exact h2
    · exact ih bs n e j (by omega) h6
theorem isS_nn {t : ByteArray} (h : isS t = true) (j : Nat) (hj : j < t.size) : byt t j ≠ 10 := by
  unfold isS at h
  rw [List.any_eq_true] at h
  obtain ⟨r, hr, he⟩ := h
  have he' : t.toList = r := eq_of_beq he
  have hd : ∀ r ∈ sgB, ∀ x ∈ r, x ≠ 10 := by decide
  have hm : t.data.toList.getD j 0 ∈ r := by
    rw [← he', ByteArray.toList_eq]
    have : j < t.data.toList.length := by simpa using hj
    rw [List.getD_eq_getElem?_getD, List.getElem?_eq_getElem this]
    exact List.getElem_mem _
  have := hd r hr _ hm
  unfold byt
  intro e
  exact this (UInt8.toNat_inj.1 (by have : ((t.data.toList.getD j 0).toNat : Int) = 10 := e; show _ = 10; omega))
theorem sgn_is (t : ByteArray) (h : sgn t ≠ 0) : isS (t.extract 0 (sgn t)) = true := by
  unfold sgn at *
  split
  · rename_i q; exact q.2
  · split
    · rename_i q; exact q.2
    · split
      · rename_i q; exact q.2
      · rename_i q1 q2 q3
        rw [if_neg q1, if_neg q2, if_neg q3] at h
        exact absurd rfl h
theorem run_pos {p : Int → Bool} {s : ByteArray} (h0 : 0 < s.size) (h : p (byt s 0) = true) : 0 < run p s := by
  rcases Nat.eq_zero_or_pos (run p s) with e | e
  · have := (run_run p s).2.2
    rw [e] at this
    rcases this with q | q
    · omega
    · rw [h] at q; cases q
  · exact e
theorem wrdR_k {s S : ByteArray} {k N : Int} (h : wrdR s = .ok (k, S, N)) : 1 ≤ k ∧ k ≤ 3 := by
  unfold wrdR at h
  split at h
  · split at h
    · cases h
    · cases h; exact ⟨by decide, by decide⟩
  · split at h
    · cases h
    · split at h <;> (cases h; exact ⟨by decide, by decide⟩)
theorem tokF_n {s : ByteArray} {i : Nat} (hi : i < s.size) {k N : Int} {S : ByteArray} {n : Nat} (h : tokF s i = .ok (k, S, N, n)) : (i < n ∧ n ≤ s.size) ∧ (1 ≤ k ∧ k ≤ 5) ∧ ∀ j, i ≤ j → j < n → byt s j ≠ 10 := by
  have hsz := ext_sz s i
  have hb : ∀ j, i + j < s.size → byt (s.extract i s.size) j = byt s (i + j) := fun j hj => ext_byt s i j hj
  unfold tokF at h
  split at h
  · rename_i hw
    have hr := run_run wch (s.extract i s.size)
    have hp : 0 < run wch (s.extract i s.size) := run_pos (by omega) (by rw [hb 0 (by omega)]; exact hw)
    split at h
    · cases h
    · rename_i k' S' N' hk
      cases h
      have := wrdR_k hk
      refine ⟨⟨by omega, by have := hr.1; omega⟩, ⟨by omega, by omega⟩, fun j h1 h2 e => ?_⟩
      have := hr.2.1 (j - i) (by omega)
      rw [hb (j - i) (by have := hr.1; omega), show i + (j - i) = j by omega, e] at this
      exact absurd this (by decide)
  · split at h
    · rename_i h39
      split at h
      · cases h
      · rename_i bs n' hq
        have q1 := (quoV_is s 39 (i + 1)).n1 _ _ hq
        have q2 := (quoV_is s 39 (i + 1)).nn _ _ hq
        split at h
        · cases h
          refine ⟨⟨by omega, by omega⟩, ⟨by decide, by decide⟩, fun j h1 h2 => ?_⟩
          by_cases e : j = i
          · rw [e, h39]; decide
          · exact q2 j (by omega) h2
        · cases h
    · split at h
      · rename_i h34
        split at h
        · cases h
        · rename_i bs n' hq
          have q1 := (quoV_is s 34 (i + 1)).n1 _ _ hq
          have q2 := (quoV_is s 34 (i + 1)).nn _ _ hq
          split at h
          · cases h
          · cases h
            refine ⟨⟨by omega, by omega⟩, ⟨by decide, by decide⟩, fun j h1 h2 => ?_⟩
            by_cases e : j = i
            · rw [e, h34]; decide
            · exact q2 j (by omega) h2
      · split at h
        · cases h
        · rename_i hg
          cases h
          have hl := (sgn_le (s.extract i s.size)).1
          have hs := sgn_is _ hg
          refine ⟨⟨by omega, by omega⟩, ⟨by decide, by decide⟩, fun j h1 h2 => ?_⟩
          have := isS_nn hs (j - i) (by rw [ext_size]; omega)
          rw [byt_ext _ _ _ _ (by omega) hl, hb _ (by omega), show i + (0 + (j - i)) = j by omega] at this
          exact this
end Go.Proofs.YtdplfflkmphpbaaGreatDoor.Pl
namespace Go.Proofs.YtdplfflkmphpbaaGreatDoor.Pl
/-! blanks, comments, places, and the whole of Lex -/
def lc (s : ByteArray) (i : Nat) : Prop := i + 1 < s.size ∧ byt s i = 47 ∧ byt s (i + 1) = 47
def bc (s : ByteArray) (i : Nat) : Prop := i + 1 < s.size ∧ byt s i = 47 ∧ byt s (i + 1) = 42
def LEnd (s : ByteArray) (i k : Nat) : Prop := i ≤ k ∧ k ≤ s.size ∧ (∀ m, i ≤ m → m < k → byt s m ≠ 10) ∧ (k = s.size ∨ byt s k = 10)
def BEnd (s : ByteArray) (i k : Nat) : Prop := i ≤ k ∧ k + 1 < s.size ∧ (byt s k = 42 ∧ byt s (k + 1) = 47) ∧ ∀ m, i ≤ m → m < k → ¬ (byt s m = 42 ∧ byt s (m + 1) = 47)
def NEnd (s : ByteArray) (i : Nat) : Prop := ∀ m, i ≤ m → m + 1 < s.size → ¬ (byt s m = 42 ∧ byt s (m + 1) = 47)
theorem LEnd.fn {s : ByteArray} {i k k' : Nat} (h : LEnd s i k) (h' : LEnd s i k') : k = k' := by
  rcases Nat.lt_trichotomy k k' with q | q | q
  · rcases h.2.2.2 with e | e
    · have := h'.2.1; omega
    · exact absurd e (h'.2.2.1 k h.1 q)
  · exact q
  · rcases h'.2.2.2 with e | e
    · have := h.2.1; omega
    · exact absurd e (h.2.2.1 k' h'.1 q)
theorem BEnd.fn {s : ByteArray} {i k k' : Nat} (h : BEnd s i k) (h' : BEnd s i k') : k = k' := by
  rcases Nat.lt_trichotomy k k' with q | q | q
  · exact absurd h.2.2.1 (h'.2.2.2 k h.1 q)
  · exact q
  · exact absurd h'.2.2.1 (h.2.2.2 k' h'.1 q)
theorem BEnd.no {s : ByteArray} {i k : Nat} (h : BEnd s i k) (h' : NEnd s i) : False := h' k h.1 h.2.1 h.2.2.1
theorem lc_bc {s : ByteArray} {i : Nat} (h : lc s i) (h' : bc s i) : False := by have := h.2.2; rw [h'.2.2] at this; exact absurd this (by decide)
theorem lc_blk {s : ByteArray} {i : Nat} (h : lc s i) (h' : blk (byt s i) = true) : False := by rw [h.2.1] at h'; exact absurd h' (by decide)
theorem bc_blk {s : ByteArray} {i : Nat} (h : bc s i) (h' : blk (byt s i) = true) : False := by rw [h.2.1] at h'; exact absurd h' (by decide)
inductive Sk (s : ByteArray) : Nat → Nat → Bool → Prop
  | stop {i} : (s.size ≤ i ∨ (blk (byt s i) = false ∧ ¬ lc s i ∧ ¬ bc s i)) → Sk s i i true
  | opn {i} : bc s i → NEnd s (i + 2) → Sk s i i false
  | blank {i j b} : i < s.size → blk (byt s i) = true → Sk s (i + 1) j b → Sk s i j b
  | line {i k j b} : lc s i → LEnd s i k → Sk s k j b → Sk s i j b
  | blok {i k j b} : bc s i → BEnd s (i + 2) k → Sk s (k + 2) j b → Sk s i j b
theorem Sk.fn {s : ByteArray} {i j j' : Nat} {b b' : Bool} (h : Sk s i j b) (h' : Sk s i j' b') : j = j' ∧ b = b' := by
  induction h with
  | @stop i h0 =>
    cases h' with
    | stop _ => exact ⟨rfl, rfl⟩
    | opn a c => rcases h0 with e | ⟨_, _, e⟩; have := a.1; omega; exact absurd a e
    | blank a c d => rcases h0 with e | ⟨e, _, _⟩; omega; rw [e] at c; cases c
    | line a c d => rcases h0 with e | ⟨_, e, _⟩; have := a.1; omega; exact absurd a e
    | blok a c d => rcases h0 with e | ⟨_, _, e⟩; have := a.1; omega; exact absurd a e
  | @opn i a c =>
    cases h' with
    | stop h0 => rcases h0 with e | ⟨_, _, e⟩; have := a.1; omega; exact absurd a e
    | opn _ _ => exact ⟨rfl, rfl⟩
    | blank _ c' _ => exact (bc_blk a c').elim
    | line a' _ _ => exact (lc_bc a' a).elim
    | blok _ c' _ => exact (c'.no c).elim
  | @blank i j b a c d ih =>
    cases h' with
    | stop h0 => rcases h0 with e | ⟨e, _, _⟩; omega; rw [e] at c; cases c
    | opn a' _ => exact (bc_blk a' c).elim
    | blank _ _ d' => exact ih d'
    | line a' _ _ => exact (lc_blk a' c).elim
    | blok a' _ _ => exact (bc_blk a' c).elim
  | @line i k j b a c d ih =>
    cases h' with
    | stop h0 => rcases h0 with e | ⟨_, e, _⟩; have := a.1; omega; exact absurd a e
    | opn a' _ => exact (lc_bc a a').elim
    | blank _ c' _ => exact (lc_blk a c').elim
    | line _ c' d' => rw [← c.fn c'] at d'; exact ih d'
    | blok a' _ _ => exact (lc_bc a a').elim
  | @blok i k j b a c d ih =>
    cases h' with
    | stop h0 => rcases h0 with e | ⟨_, _, e⟩; have := a.1; omega; exact absurd a e
    | opn _ c' => exact (c.no c').elim
    | blank _ c' _ => exact (bc_blk a c').elim
    | line a' _ _ => exact (lc_bc a' a).elim
    | blok _ c' d' => rw [← c.fn c'] at d'; exact ih d'
theorem Sk.le {s : ByteArray} {i j : Nat} {b : Bool} (h : Sk s i j b) : i ≤ j ∧ (i ≤ s.size → j ≤ s.size) ∧ (b = false → j + 1 < s.size) := by
  induction h with
  | stop _ => exact ⟨Nat.le_refl _, fun h => h, fun h => by cases h⟩
  | opn a _ => exact ⟨Nat.le_refl _, fun h => h, fun _ => a.1⟩
  | blank a _ _ ih => exact ⟨by omega, fun h => ih.2.1 (by omega), ih.2.2⟩
  | line a c _ ih => exact ⟨Nat.le_trans c.1 ih.1, fun h => ih.2.1 c.2.1, ih.2.2⟩
  | @blok i k j b a c _ ih => exact ⟨by have := c.1; omega, fun h => ih.2.1 (by have := c.2.1; omega), ih.2.2⟩
def ln (s : ByteArray) : Nat → Int
  | 0 => 1
  | n + 1 => if byt s n = 10 then ln s n + 1 else ln s n
def cn (s : ByteArray) : Nat → Int
  | 0 => 1
  | n + 1 => if byt s n = 10 then 1 else cn s n + 1
theorem ln_b (s : ByteArray) : ∀ n, 1 ≤ ln s n ∧ ln s n ≤ n + 1
  | 0 => ⟨by simp [ln], by simp [ln]⟩
  | n + 1 => by
    have := ln_b s n
    unfold ln
    split <;> omega
theorem cn_b (s : ByteArray) : ∀ n, 1 ≤ cn s n ∧ cn s n ≤ n + 1
  | 0 => ⟨by simp [cn], by simp [cn]⟩
  | n + 1 => by
    have := cn_b s n
    unfold cn
    split <;> omega
theorem ln_same (s : ByteArray) (a : Nat) : ∀ d, (∀ j, a ≤ j → j < a + d → byt s j ≠ 10) → ln s (a + d) = ln s a ∧ cn s (a + d) = cn s a + d
  | 0, _ => ⟨rfl, by simp⟩
  | d + 1, h => by
    have ih := ln_same s a d (fun j h1 h2 => h j h1 (by omega))
    have hn := h (a + d) (by omega) (by omega)
    have e1 : ln s (a + d + 1) = if byt s (a + d) = 10 then ln s (a + d) + 1 else ln s (a + d) := rfl
    have e2 : cn s (a + d + 1) = if byt s (a + d) = 10 then 1 else cn s (a + d) + 1 := rfl
    rw [show a + (d + 1) = (a + d) + 1 by omega, e1, e2, if_neg hn, if_neg hn]
    exact ⟨ih.1, by rw [ih.2]; omega⟩
structure Tk where
  k : Int
  S : ByteArray
  N : Int
  l : Int
  c : Int
def Tk.cells (t : Tk) : List Value := [.int .i64 t.k, .string t.S, .int .i64 t.N, .int .i64 t.l, .int .i64 t.c]
def Tk.all (ts : List Tk) : List Value := ts.flatMap Tk.cells
def tkEnd (s : ByteArray) (j : Nat) : Tk := ⟨0, ⟨#[]⟩, 0, ln s j, cn s j⟩
inductive Lx (s : ByteArray) : Nat → List Tk → (List Tk × Int × Int × Int) → Prop
  | opn {i acc j} : Sk s i j false → Lx s i acc ([], 3, ln s j, cn s j)
  | fin {i acc j} : Sk s i j true → j = s.size → Lx s i acc (acc ++ [tkEnd s j], 0, 0, 0)
  | bad {i acc j f} : Sk s i j true → j < s.size → tokF s j = .error f → Lx s i acc ([], f, ln s j, cn s j)
  | many {i acc j r} : Sk s i j true → j < s.size → tokF s j = .ok r → 6000 ≤ acc.length → Lx s i acc ([], 9, ln s j, cn s j)
  | go {i acc j k S N n r} : Sk s i j true → j < s.size → tokF s j = .ok (k, S, N, n) → acc.length < 6000 → Lx s n (acc ++ [⟨k, S, N, ln s j, cn s j⟩]) r → Lx s i acc r
theorem Lx.fn {s : ByteArray} {i : Nat} {acc : List Tk} {r r' : List Tk × Int × Int × Int} (h : Lx s i acc r) (h' : Lx s i acc r') : r = r' := by
  induction h with
  | opn a =>
    cases h' with
    | opn a' => rw [(a.fn a').1]
    | fin a' _ => exact absurd (a.fn a').2 (by decide)
    | bad a' _ _ => exact absurd (a.fn a').2 (by decide)
    | many a' _ _ _ => exact absurd (a.fn a').2 (by decide)
    | go a' _ _ _ _ => exact absurd (a.fn a').2 (by decide)
  | fin a c =>
    cases h' with
    | opn a' => exact absurd (a.fn a').2 (by decide)
    | fin a' _ => rw [(a.fn a').1]
    | bad a' b' _ => have := (a.fn a').1; omega
    | many a' b' _ _ => have := (a.fn a').1; omega
    | go a' b' _ _ _ => have := (a.fn a').1; omega
  | bad a b c =>
    cases h' with
    | opn a' => exact absurd (a.fn a').2 (by decide)
    | fin a' e => have := (a.fn a').1; omega
    | bad a' b' c' => have e := (a.fn a').1; subst e; rw [c] at c'; injection c' with q; rw [q]
    | many a' _ c' _ => have e := (a.fn a').1; subst e; rw [c] at c'; cases c'
    | go a' _ c' _ _ => have e := (a.fn a').1; subst e; rw [c] at c'; cases c'
  | many a b c d =>
    cases h' with
    | opn a' => exact absurd (a.fn a').2 (by decide)
    | fin a' e => have := (a.fn a').1; omega
    | bad a' b' c' => have e := (a.fn a').1; subst e; rw [c] at c'; cases c'
    | many a' _ c' _ => rw [(a.fn a').1]
    | go a' _ c' d' _ => omega
  | go a b c d _ ih =>
    cases h' with
    | opn a' => exact absurd (a.fn a').2 (by decide)
    | fin a' e => have := (a.fn a').1; omega
    | bad a' b' c' => have e := (a.fn a').1; subst e; rw [c] at c'; cases c'
    | many a' _ c' d' => omega
    | go a' _ c' _ e' =>
      have e := (a.fn a').1
      subst e
      rw [c] at c'
      injection c' with q
      injection q with q1 q2
      injection q2 with q2 q3
      injection q3 with q3 q4
      subst q1 q2 q3 q4
      exact ih e'
end Go.Proofs.YtdplfflkmphpbaaGreatDoor.Pl
namespace Go.Proofs.YtdplfflkmphpbaaGreatDoor.W
open Go.RowKit
def SkS (s : ByteArray) (i : Nat) (e : Ending) : Prop := ∃ j b, Pl.Sk s i j b ∧ ((b = true ∧ e = .returned (.tuple #[.int .i64 j, .int .i64 (-1)])) ∨ (b = false ∧ ∃ q : Int, e = .returned (.tuple #[.int .i64 q, .int .i64 j])))
set_option maxHeartbeats 8000000 in
set_option maxRecDepth 100000 in
theorem l5Skip_is (s : ByteArray) (hs : s.size ≤ 1048576) (i : Nat) (hi : i ≤ s.size) (w : World) : Calls Tryz.prog 23 #[.string s, .int .i64 i] w fun e w' => SkS s i e ∧ w' = w := by
  go_enter Tryz.func23, Tryz.ntmps23
  go_wp2_with fail
  go_loop [1] (fun x => ∃ k : Nat, k ≤ s.size ∧ x = .int .i64 k ∧ ∀ j b, Pl.Sk s k j b → Pl.Sk s i j b) (fun x => s.size - (intOf x).toNat)
  case atStart => exact ⟨i, hi, rfl, fun j b h => h⟩
  case round =>
    obtain ⟨k, hk, rfl, hall⟩ := hrel
    have HA : Hid (∀ j b, Pl.Sk s k j b → Pl.Sk s i j b) := hall
    clear hall
    by_cases hlt : k < s.size
    · have hlt' : (k : Int) < s.size := by omega
      have hg := Pl.byt_get s k hlt
      obtain ⟨c, hc⟩ : ∃ c, c = Pl.byt s k := ⟨_, rfl⟩
      rw [← hc] at hg
      have HC : Hid (c = Pl.byt s k) := hc
      clear hc
      cases hb : Pl.blk c
      rotate_left
      · go_wp2_with (go_at_call 39; refine (l5Blank_any _ _).mono ?_; rintro e u1 ⟨rfl, hu1⟩; rw [hu1]; clear hu1; rw [hb])
        go_round
        case rel => exact ⟨k + 1, by omega, by go_num, fun j b h => HA.out j b (.blank hlt (by rw [← HC.out]; exact hb) h)⟩
        case measure => simp [intOf]; omega
      · by_cases h47 : c = 47 ∧ k + 1 < s.size
        · obtain ⟨h47, h1⟩ := h47
          have e47 : (c == 47) = true := by simp [h47]
          have H47 : Hid (Pl.byt s k = 47) := HC.out.symm.trans h47
          have h1' : (k : Int) + 1 < s.size := by omega
          have hg1 := Pl.byt_get s (k + 1) h1
          obtain ⟨d, hd⟩ : ∃ d, d = Pl.byt s (k + 1) := ⟨_, rfl⟩
          rw [← hd] at hg1
          have HD : Hid (d = Pl.byt s (k + 1)) := hd
          clear hd h47
          by_cases hd47 : d = 47
          · have ed : (d == 47) = true := by simp [hd47]
            have HL : Hid (Pl.lc s k) := ⟨h1, H47.out, HD.out.symm.trans hd47⟩
            clear hd47
            go_wp2_with (go_at_call 39; refine (l5Blank_any _ _).mono ?_; rintro e u1 ⟨rfl, hu1⟩; rw [hu1]; clear hu1; rw [hb])
            go_loop [1] (fun x => ∃ m : Nat, k ≤ m ∧ m ≤ s.size ∧ x = .int .i64 m ∧ ∀ j, k ≤ j → j < m → Pl.byt s j ≠ 10) (fun x => s.size - (intOf x).toNat)
            case atStart => exact ⟨k, Nat.le_refl _, hk, rfl, fun j h1 h2 => by omega⟩
            case round =>
              obtain ⟨m, hm1, hm2, rfl, hm3⟩ := hrel
              have HM : Hid (∀ j, k ≤ j → j < m → Pl.byt s j ≠ 10) := hm3
              clear hm3
              by_cases hml : m < s.size
              · have hml' : (m : Int) < s.size := by omega
                have hgm := Pl.byt_get s m hml
                obtain ⟨f, hf⟩ : ∃ f, f = Pl.byt s m := ⟨_, rfl⟩
                rw [← hf] at hgm
                have HF : Hid (f = Pl.byt s m) := hf
                clear hf
                by_cases h10 : f = 10
                · have HE : Hid (∀ j b, Pl.Sk s m j b → Pl.Sk s i j b) := fun j b h => HA.out j b (.line HL.out ⟨hm1, hm2, HM.out, .inr (by rw [← HF.out]; exact h10)⟩ h)
                  have hkm : k < m := by
                    rcases Nat.lt_or_ge k m with q | q
                    · exact q
                    · have : m = k := by omega
                      have h2 := HF.out
                      rw [this, H47.out] at h2
                      omega
                  have e1 : (f == 10) = true := by simp [h10]
                  have e2 : (f != 10) = false := by simp [h10]
                  clear h10
                  go_wp2_with fail
                  go_round
                  case rel => exact ⟨m, hm2, rfl, HE.out⟩
                  case measure => simp [intOf]; omega
                · have e1 : (f == 10) = false := by simp [h10]
                  have e2 : (f != 10) = true := by simp [h10]
                  go_wp2_with fail
                  go_round
                  case rel => exact ⟨m + 1, by omega, by omega, by go_num, fun j h1 h2 => by
                    by_cases e : j = m
                    · rw [e, ← HF.out]; exact h10
                    · exact HM.out j h1 (by omega)⟩
                  case measure => simp [intOf]; omega
              · have hme : m = s.size := by omega
                have HE : Hid (∀ j b, Pl.Sk s m j b → Pl.Sk s i j b) := fun j b h => HA.out j b (.line HL.out ⟨hm1, hm2, HM.out, .inl hme⟩ h)
                have hml' : ¬ (m : Int) < s.size := by omega
                clear hme
                go_wp2_with fail
                go_round
                case rel => exact ⟨m, hm2, rfl, HE.out⟩
                case measure => simp [intOf]; omega
          · have ed : (d == 47) = false := by simp [hd47]
            by_cases hd42 : d = 42
            · have ed2 : (d == 42) = true := by simp [hd42]
              have HL : Hid (Pl.bc s k) := ⟨h1, H47.out, HD.out.symm.trans hd42⟩
              clear hd42 hd47
              go_wp2_with (go_at_call 39; refine (l5Blank_any _ _).mono ?_; rintro e u1 ⟨rfl, hu1⟩; rw [hu1]; clear hu1; rw [hb])
              go_loop [1] (fun x => ∃ m : Nat, k + 2 ≤ m ∧ m ≤ s.size ∧ x = .int .i64 m ∧ ∀ j, k + 2 ≤ j → j < m → j + 1 < s.size → ¬ (Pl.byt s j = 42 ∧ Pl.byt s (j + 1) = 47)) (fun x => s.size - (intOf x).toNat)
              case atStart => exact ⟨k + 2, Nat.le_refl _, by omega, by go_num, fun j h1 h2 => by omega⟩
              case round =>
                obtain ⟨m, hm1, hm2, rfl, hm3⟩ := hrel
                have HM : Hid (∀ j, k + 2 ≤ j → j < m → j + 1 < s.size → ¬ (Pl.byt s j = 42 ∧ Pl.byt s (j + 1) = 47)) := hm3
                clear hm3
                by_cases hml : m + 1 < s.size
                · have hml' : (m : Int) + 1 < s.size := by omega
                  have hgm := Pl.byt_get s m (by omega)
                  have hgm1 := Pl.byt_get s (m + 1) hml
                  obtain ⟨f, hf⟩ : ∃ f, f = Pl.byt s m := ⟨_, rfl⟩
                  obtain ⟨f1, hf1⟩ : ∃ f, f = Pl.byt s (m + 1) := ⟨_, rfl⟩
                  rw [← hf] at hgm
                  rw [← hf1] at hgm1
                  have HF : Hid (f = Pl.byt s m) := hf
                  have HF1 : Hid (f1 = Pl.byt s (m + 1)) := hf1
                  clear hf hf1
                  by_cases hcl : f = 42 ∧ f1 = 47
                  · have HE : Hid (∀ j b, Pl.Sk s (m + 2) j b → Pl.Sk s i j b) := fun j b h => HA.out j b (.blok HL.out ⟨hm1, hml, ⟨by rw [← HF.out]; exact hcl.1, by rw [← HF1.out]; exact hcl.2⟩, fun x h1 h2 => HM.out x h1 h2 (by omega)⟩ h)
                    have e1 : (f != 42) = false := by simp [hcl.1]
                    have e2 : (f1 != 47) = false := by simp [hcl.2]
                    clear hcl
                    go_wp2_with fail
                    go_round
                    case rel => exact ⟨m + 2, by omega, by go_num, HE.out⟩
                    case measure => simp [intOf]; omega
                  · have HN : Hid (∀ j, k + 2 ≤ j → j < m + 1 → j + 1 < s.size → ¬ (Pl.byt s j = 42 ∧ Pl.byt s (j + 1) = 47)) := fun j h1 h2 h3 => by
                      by_cases e : j = m
                      · rw [e, ← HF.out, ← HF1.out]; exact hcl
                      · exact HM.out j h1 (by omega) h3
                    by_cases hf42 : f = 42
                    · have hf47 : f1 ≠ 47 := fun e => hcl ⟨hf42, e⟩
                      have e1 : (f != 42) = false := by simp [hf42]
                      have e2 : (f1 != 47) = true := by simp [hf47]
                      clear hcl hf42 hf47
                      go_wp2_with fail
                      go_round
                      case rel => exact ⟨m + 1, by omega, by omega, by go_num, HN.out⟩
                      case measure => simp [intOf]; omega
                    · have e1 : (f != 42) = true := by simp [hf42]
                      clear hcl hf42
                      go_wp2_with fail
                      go_round
                      case rel => exact ⟨m + 1, by omega, by omega, by go_num, HN.out⟩
                      case measure => simp [intOf]; omega
                · have hml' : ¬ (m : Int) + 1 < s.size := by omega
                  have HE : Hid (Pl.Sk s i k false) := HA.out k false (.opn HL.out (fun x h1 h2 => HM.out x h1 (by omega) h2))
                  go_wp2_with fail
                  go_ret2
                  exact ⟨⟨k, false, HE.out, .inr ⟨rfl, _, rfl⟩⟩, rfl⟩
            · have ed2 : (d == 42) = false := by simp [hd42]
              have HE : Hid (Pl.Sk s i k true) := HA.out k true (.stop (.inr ⟨by rw [← HC.out]; exact hb, fun h => hd47 (HD.out.trans h.2.2), fun h => hd42 (HD.out.trans h.2.2)⟩))
              clear hd42 hd47
              go_wp2_with (go_at_call 39; refine (l5Blank_any _ _).mono ?_; rintro e u1 ⟨rfl, hu1⟩; rw [hu1]; clear hu1; rw [hb])
              go_ret2
              exact ⟨⟨k, true, HE.out, .inl ⟨rfl, rfl⟩⟩, rfl⟩
        · have HE : Hid (Pl.Sk s i k true) := HA.out k true (.stop (.inr ⟨by rw [← HC.out]; exact hb, fun h => h47 ⟨HC.out.trans h.2.1, h.1⟩, fun h => h47 ⟨HC.out.trans h.2.1, h.1⟩⟩))
          by_cases hc47 : c = 47
          · have e47 : (c == 47) = true := by simp [hc47]
            have h1' : ¬ (k : Int) + 1 < s.size := fun q => h47 ⟨hc47, by omega⟩
            clear hc47 h47
            go_wp2_with (go_at_call 39; refine (l5Blank_any _ _).mono ?_; rintro e u1 ⟨rfl, hu1⟩; rw [hu1]; clear hu1; rw [hb])
            go_ret2
            exact ⟨⟨k, true, HE.out, .inl ⟨rfl, rfl⟩⟩, rfl⟩
          · have e47 : (c == 47) = false := by simp [hc47]
            clear hc47 h47
            go_wp2_with (go_at_call 39; refine (l5Blank_any _ _).mono ?_; rintro e u1 ⟨rfl, hu1⟩; rw [hu1]; clear hu1; rw [hb])
            go_ret2
            exact ⟨⟨k, true, HE.out, .inl ⟨rfl, rfl⟩⟩, rfl⟩
    · have hlt' : ¬ (k : Int) < s.size := by omega
      have HE : Hid (Pl.Sk s i k true) := HA.out k true (.stop (.inl (by omega)))
      go_wp2_with fail
      go_ret2
      exact ⟨⟨k, true, HE.out, .inl ⟨rfl, rfl⟩⟩, rfl⟩
set_option maxHeartbeats 4000000 in
theorem l5Place_is (s : ByteArray) (hs : s.size ≤ 1048576) (n : Nat) (hn : n ≤ s.size) (w : World) : Calls Tryz.prog 24 #[.string s, .int .i64 n] w fun e w' => e = .returned (.tuple #[.int .i64 (Pl.ln s n), .int .i64 (Pl.cn s n)]) ∧ w' = w := by
  go_enter Tryz.func24, Tryz.ntmps24
  go_wp2_with fail
  go_loop [6, 7, 8] (fun a b x => ∃ k : Nat, k ≤ n ∧ x = .int .i64 k ∧ a = .int .i64 (Pl.ln s k) ∧ b = .int .i64 (Pl.cn s k)) (fun _ _ x => n - (intOf x).toNat)
  case atStart => exact ⟨0, Nat.zero_le _, rfl, rfl, rfl⟩
  case round =>
    obtain ⟨k, hk, rfl, rfl, rfl⟩ := hrel
    obtain ⟨l0, l1⟩ := Pl.ln_b s k
    obtain ⟨c0, c1⟩ := Pl.cn_b s k
    by_cases hlt : k < n
    · have hlt' : (k : Int) < n := by omega
      have hks : (k : Int) < s.size := by omega
      have hg := Pl.byt_get s k (by omega)
      have H1 : Hid (Pl.ln s (k + 1) = if Pl.byt s k = 10 then Pl.ln s k + 1 else Pl.ln s k) := rfl
      have H2 : Hid (Pl.cn s (k + 1) = if Pl.byt s k = 10 then 1 else Pl.cn s k + 1) := rfl
      obtain ⟨c, hc⟩ : ∃ c, c = Pl.byt s k := ⟨_, rfl⟩
      obtain ⟨a, ha⟩ : ∃ a, a = Pl.ln s k := ⟨_, rfl⟩
      obtain ⟨b, hb⟩ : ∃ b, b = Pl.cn s k := ⟨_, rfl⟩
      rw [← hc] at hg H1 H2
      rw [← ha] at H1 l0 l1 ⊢
      rw [← hb] at H2 c0 c1 ⊢
      clear hc ha hb
      by_cases h10 : c = 10
      · have e1 : (c == 10) = true := by simp [h10]
        have K1 : Hid (Pl.ln s (k + 1) = a + 1) := H1.out.trans (if_pos h10)
        have K2 : Hid (Pl.cn s (k + 1) = 1) := H2.out.trans (if_pos h10)
        clear h10 H1 H2
        go_wp2_with fail
        go_round
        case rel => exact ⟨k + 1, by omega, by go_num, by rw [K1.out], by rw [K2.out]⟩
        case measure => simp [intOf]; omega
      · have e1 : (c == 10) = false := by simp [h10]
        have K1 : Hid (Pl.ln s (k + 1) = a) := H1.out.trans (if_neg h10)
        have K2 : Hid (Pl.cn s (k + 1) = b + 1) := H2.out.trans (if_neg h10)
        clear h10 H1 H2
        go_wp2_with fail
        go_round
        case rel => exact ⟨k + 1, by omega, by go_num, by rw [K1.out], by rw [K2.out]⟩
        case measure => simp [intOf]; omega
    · have hke : k = n := by omega
      subst hke
      go_wp2_with fail
      go_ret2
      exact ⟨rfl, rfl⟩
end Go.Proofs.YtdplfflkmphpbaaGreatDoor.W
