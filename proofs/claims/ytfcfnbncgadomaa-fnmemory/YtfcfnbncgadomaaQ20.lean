import Derived.Test.YtfcfnbncgadomaaQ19
import Derived.Deep.AppendLies
import Derived.OwnWalk
import Derived.Test.YtfcfnbncgadomaaQ11
import Derived.Test.YtfcfnbncgadomaaQ15
set_option linter.unusedVariables false
set_option linter.unusedSimpArgs false
namespace Go.Proofs.Ytfcfnbncgadomaa.W
open Go.RowKit
theorem info_inst : (Try.prog.info? 105).map (fun i => (i.zero, i.size, i.bytes)) = some (some (.agg #[.int .i64 0, .int .i64 0, .int .i64 0, .int .i64 0, .int .i64 0]), 5, 40) := by kernel_rfl
theorem own_keep' {B : Nat} {e : TypeId} {k : Nat} {v : Value} {n : Nat} {xs : List Value} {w w' : World} (h : w.ownsRow B e k v n xs) (hb : Below w.heap.size w w') : w'.ownsRow B e k v n xs := by
  refine ⟨h.1, ?_⟩
  rcases h.2 with ⟨a, b⟩ | ⟨g, cap, cur, h0, hlo, hg, r⟩
  · exact .inl ⟨a, b⟩
  · exact .inr ⟨g, cap, cur, h0, hlo, (hb.block g (Array.getElem?_eq_some_iff.1 hg).1).trans hg, r⟩
/-- the cells of the first k instructions -/
def dcs (ns : List Int) (k : Nat) : List Value := (ns.take k).flatMap fun n => (Pl.decV n).toList
theorem dcs_succ (ns : List Int) (k : Nat) (h : k < ns.length) : dcs ns (k + 1) = dcs ns k ++ (Pl.decV (ns.getD k 0)).toList := by
  unfold dcs
  rw [List.take_add_one, List.getElem?_eq_getElem h, List.flatMap_append]
  simp [List.getD, List.getElem?_eq_getElem h]
theorem dcs_len (ns : List Int) : ∀ k, k ≤ ns.length → (dcs ns k).length = k * 5
  | 0, _ => rfl
  | k + 1, h => by
    rw [dcs_succ ns k (by omega), List.length_append, dcs_len ns k (by omega)]
    show k * 5 + 5 = _
    omega
theorem dcs_at (ns : List Int) : ∀ k, k ≤ ns.length → ∀ i, i < k → ∀ j, j < 5 → (dcs ns k)[i * 5 + j]? = (Pl.decV (ns.getD i 0))[j]?
  | 0, _, i, hi, _, _ => absurd hi (Nat.not_lt_zero _)
  | k + 1, h, i, hi, j, hj => by
    rw [dcs_succ ns k (by omega)]
    by_cases e : i = k
    · subst e
      rw [List.getElem?_append_right (by rw [dcs_len ns i (by omega)]; omega), dcs_len ns i (by omega)]
      have : i * 5 + j - i * 5 = j := by omega
      rw [this, Array.getElem?_toList]
    · rw [List.getElem?_append_left (by rw [dcs_len ns k (by omega)]; omega)]
      exact dcs_at ns k (by omega) i (by omega) j hj
theorem ins_news (w : World) (N : Nat) (hN : N = w.heap.size) (A B C D E : Value) (j : Nat) (u : Value) (hj : [A, B, C, D, E][j]? = some u) : (w.alloc (.cells #[A, B, C, D, E] 105)).cell? ((⟨N, 0, none⟩ : Addr).add j) = some u := by
  subst hN
  have := cell_of_row (w.alloc (.cells #[A, B, C, D, E] 105)) w.heap.size j _ 105 (0, 0) (heap_alloc_new w _)
  have e : (⟨w.heap.size, 0, none⟩ : Addr).add j = ⟨w.heap.size, j, none⟩ := by
    simp only [Addr.add, Nat.zero_add]
    split <;> simp_all
  rw [e, this]
  simpa using hj
set_option maxRecDepth 8000 in
set_option maxHeartbeats 4000000 in
theorem l3Decoded_any (a : Option Addr) (len cap : Nat) (ns : List Int) (w : World) (h : Row .i64 0 w a len cap ns) (hl : len ≤ 16384) :
    Calls Try.prog 70 #[.slice a len cap] w fun e w' => ∃ b c, e = .returned (.slice (some ⟨b, 0, none⟩) len c) ∧ w.heap.size ≤ b ∧ b < w'.heap.size ∧ len ≤ c ∧ CRow w' b ns ∧ Below w.heap.size w w' := by
  obtain ⟨i0, hi0, hz0, hz1, hz2⟩ := info_parts info_inst
  have HR : Hid (Row .i64 0 w a len cap ns) := h
  have hn : ns.length = len := h.1
  clear h
  have hl' : (len : Int) ≤ 16384 := by omega
  go_enter Try.func70, Try.ntmps70
  go_wp2_with fail
  go_loopw [3, 4] (fun v i wr => ∃ k : Nat, k ≤ len ∧ i = .int .i64 k ∧ (∃ g c, v = .slice (some ⟨g, 0, none⟩) k c ∧ g < wr.heap.size) ∧ wr.ownsRow w.heap.size 105 5 v k (dcs ns k) ∧ Below w.heap.size w wr) (fun _ i _ => len - (intOf i).toNat)
  case atStart => exact ⟨0, Nat.zero_le _, rfl, ⟨_, _, rfl, by simp⟩, World.ownsRow_lit w #[] 0 (base := w.heap.size) (e := 105) (size := 5) (Nat.le_refl _) (Nat.zero_le _) rfl, (Below.refl _ _).alloc (Nat.le_refl _) _⟩
  case round =>
    obtain ⟨k, hk, rfl, ⟨g, c, rfl, hg⟩, hown, hbel⟩ := hrel
    have HO : Hid (wr.ownsRow w.heap.size 105 5 (.slice (some ⟨g, 0, none⟩) k c) k (dcs ns k)) := hown
    have HB : Hid (Below w.heap.size w wr) := hbel
    clear hown hbel
    by_cases hlt : k < len
    · have hi : (k : Int) < (len : Int) := by omega
      obtain ⟨b, off, rfl, hc⟩ : ∃ b off, a = some ⟨b, off, none⟩ ∧ wr.cell? ⟨b, off + k, none⟩ = some (.int .i64 (ns.getD k 0)) := by
        obtain ⟨_, _, _, _, h5⟩ := HR.out.keep HB.out
        rcases h5 with h5 | ⟨b, off, ha, _, _, hc⟩
        · omega
        · refine ⟨b, off, ha, ?_⟩
          have := hc k hlt
          simpa using this
      obtain ⟨n, hN⟩ : ∃ n, n = ns.getD k 0 := ⟨_, rfl⟩
      rw [← hN] at hc
      have HN : Hid (n = ns.getD k 0) := hN
      clear hN
      obtain ⟨A, B, C, D, E, hV⟩ : ∃ A B C D E : Int, Pl.decV n = #[.int .i64 A, .int .i64 B, .int .i64 C, .int .i64 D, .int .i64 E] := ⟨_, _, _, _, _, rfl⟩
      have HV : Hid (Pl.decV n = #[.int .i64 A, .int .i64 B, .int .i64 C, .int .i64 D, .int .i64 E]) := hV
      have HD : Hid (∀ w, Calls Try.prog 86 #[.int .i64 n] w fun e w' => e = .returned (.tuple #[.agg #[.int .i64 A, .int .i64 B, .int .i64 C, .int .i64 D, .int .i64 E], .bool (Pl.dec n != 0)]) ∧ Below w.heap.size w w') := fun w => by rw [← hV]; exact specDec_any n w
      clear hV
      generalize (Pl.dec n != 0) = ok at *
      go_wp2_with (first | (go_at_call 86; refine (HD.out _).mono ?_; rintro e u1 ⟨rfl, d1⟩) | (at_builtin; refine wpList_append_own _ rfl (.tmp 22) (.tmp 24) 96 rfl w.heap.size 105 i0 (.agg #[.int .i64 0, .int .i64 0, .int .i64 0, .int .i64 0, .int .i64 0]) 5 40 Try.underlying96 hi0 hz0 hz1 hz2 rfl (by decide) _ _ _ rfl (own_keep' HO.out (((show Below wr.heap.size wr u1 from d1).alloc d1.size _).alloc (by have := d1.size; simp; omega) _)) ⟨u1.heap.size + 1, 0, none⟩ 1 _ [.int .i64 A, .int .i64 B, .int .i64 C, .int .i64 D, .int .i64 E] rfl rfl (ins_news _ _ (by simp) _ _ _ _ _) (by intro u hu; simp at hu; rcases hu with rfl | rfl | rfl | rfl | rfl <;> rfl) (by unfold maxLen; omega) (by omega) (by have := d1.size; have := HB.out.size; simp; omega) ?_; intro v' u3 hown' hgr _))
      have D2 : Below wr.heap.size wr ((u1.alloc (.cells #[.int .i64 A, .int .i64 B, .int .i64 C, .int .i64 D, .int .i64 E] 105)).alloc (.cells #[.int .i64 A, .int .i64 B, .int .i64 C, .int .i64 D, .int .i64 E] 105)) := (d1.alloc d1.size _).alloc (by have := d1.size; simp; omega) _
      obtain ⟨g', c', hv', _, hlt'⟩ := hown'.form (by omega)
      refine ⟨⟨k + 1, by omega, by go_num, ⟨g', c', hv', hlt'⟩, ?_, ?_⟩, by simp [intOf]; omega⟩
      · rw [dcs_succ ns k (by omega), ← HN.out, HV.out]
        exact hown'
      · exact (HB.out.trans (D2.mono HB.out.size)).grown hgr (Nat.le_trans HB.out.size D2.size) (fun j hj => ((own_keep' HO.out D2).lt j hj).1)
    · have hi : ¬ (k : Int) < (len : Int) := by omega
      obtain rfl : len = k := by omega
      go_wp2
      go_ret
      exact ⟨g, c, rfl, (HO.out.lt g rfl).1, hg, by rcases HO.out.2 with ⟨h0, _⟩ | ⟨_, _, _, h0, _, _, h1, _⟩; cases h0; cases h0; exact h1, fun i hi j hj => by rw [HO.out.cellAt (i * 5 + j) (by omega)]; exact dcs_at ns len (by omega) i (by omega) j hj, HB.out⟩
end Go.Proofs.Ytfcfnbncgadomaa.W
namespace Go.Proofs.Ytfcfnbncgadomaa.Pl
theorem Vd.regSet {m : Mac} (hv : Vd m) (n : Nat) (y : Int) (hy : 0 ≤ y ∧ y ≤ 4294967295) : Vd { m with regs := m.regs.set n y } := by
  refine ⟨hv.code, hv.data, hv.stk, hv.pc, ?_, fun k hk => ?_, hv.inp, hv.out, hv.steps⟩
  · show (m.regs.set n y).length = 32
    rw [List.length_set]; exact hv.regs
  · show 0 ≤ (m.regs.set n y).getD k 0 ∧ (m.regs.set n y).getD k 0 ≤ 4294967295
    have h0 := hv.word k hk
    have hl := hv.regs
    rw [List.getD_eq_getElem?_getD] at h0 ⊢
    rw [List.getElem?_set]
    by_cases e : n = k
    · rw [if_pos e, if_pos (by omega)]; exact hy
    · rw [if_neg e]; exact h0
theorem Vd.setR {m : Mac} (hv : Vd m) (n : Nat) (x : Int) : Vd (setR m n x) := by
  unfold Pl.setR
  split
  · exact hv
  · exact hv.regSet n _ (wd_bdd x)
theorem Vd.setPc {m : Mac} (hv : Vd m) (y : Int) (hy : 0 ≤ y ∧ y ≤ 4294967295) : Vd { m with pc := y } := ⟨hv.code, hv.data, hv.stk, hy, hv.regs, hv.word, hv.inp, hv.out, hv.steps⟩
theorem Vd.setEnd {m : Mac} (hv : Vd m) (x y : Int) : Vd { m with fin := x, val := y } := ⟨hv.code, hv.data, hv.stk, hv.pc, hv.regs, hv.word, hv.inp, hv.out, hv.steps⟩
theorem Vd.setSteps {m : Mac} (hv : Vd m) (y : Int) (hy : 0 ≤ y ∧ y ≤ 1000000) : Vd { m with steps := y } := ⟨hv.code, hv.data, hv.stk, hv.pc, hv.regs, hv.word, hv.inp, hv.out, hy⟩
theorem Vd.stv {m : Mac} (hv : Vd m) (k a x : Int) : Vd (stv m k a x).1 := by
  by_cases h1 : (a.tmod (ks k) != 0) = true
  · unfold Pl.stv; rw [if_pos h1]; exact hv
  · by_cases h2 : inD m a (ks k).toNat
    · unfold Pl.stv; rw [if_neg h1, if_pos h2]
      exact ⟨hv.code, by show (stk_ _ _ _ _).length ≤ _; rw [stk_length]; exact hv.data, hv.stk, hv.pc, hv.regs, hv.word, hv.inp, hv.out, hv.steps⟩
    · by_cases h3 : inS m a (ks k).toNat
      · unfold Pl.stv; rw [if_neg h1, if_neg h2, if_pos h3]
        exact ⟨hv.code, hv.data, by show (stk_ _ _ _ _).length ≤ _; rw [stk_length]; exact hv.stk, hv.pc, hv.regs, hv.word, hv.inp, hv.out, hv.steps⟩
      · unfold Pl.stv; rw [if_neg h1, if_neg h2, if_neg h3]; exact hv
theorem Vd.ecall {m : Mac} (hv : Vd m) (hb : ∀ n ∈ m.inp, 0 ≤ n ∧ n ≤ 255) : Vd (ecall m).1 := by
  unfold Pl.ecall
  by_cases h1 : rv m 17 = 1
  · rw [if_pos h1]
    by_cases h2 : 10000 ≤ m.out.length
    · rw [if_pos h2]; exact hv
    · rw [if_neg h2]
      exact ⟨hv.code, hv.data, hv.stk, hv.pc, hv.regs, hv.word, hv.inp, by show (m.out ++ [_]).length ≤ _; rw [List.length_append]; simp; omega, hv.steps⟩
  rw [if_neg h1]
  by_cases h2 : rv m 17 = 2
  · rw [if_pos h2]
    split
    · exact hv.regSet 10 4294967295 (by omega)
    · rename_i b r hi
      have hbb := hb b (by rw [hi]; exact List.mem_cons_self ..)
      have h0 := hv.regSet 10 b (by omega)
      exact ⟨h0.code, h0.data, h0.stk, h0.pc, h0.regs, h0.word, by have := hv.inp; rw [hi] at this; show r.length ≤ 10000; simp at this; omega, h0.out, h0.steps⟩
  rw [if_neg h2]
  by_cases h3 : rv m 17 = 3
  · rw [if_pos h3]; exact hv.setEnd _ _
  rw [if_neg h3]
  by_cases h4 : rv m 17 = 4
  · rw [if_pos h4]; exact hv.setEnd _ _
  rw [if_neg h4]; exact hv
theorem Vd.flow {m : Mac} (hv : Vd m) (i : Ins) : Vd (flow m i).2.2 ∧ 0 ≤ (flow m i).1 ∧ (flow m i).1 ≤ 4294967295 := by
  unfold Pl.flow
  by_cases h1 : 37 ≤ i.op ∧ i.op ≤ 42
  · rw [if_pos h1]
    refine ⟨hv, ?_⟩
    show 0 ≤ (if _ then _ else _ : Int) ∧ (if _ then _ else _ : Int) ≤ _
    split
    · exact wd_bdd _
    · exact wd_bdd _
  rw [if_neg h1]
  by_cases h2 : i.op = 45
  · rw [if_pos h2]; exact ⟨hv.setR _ _, wd_bdd _⟩
  rw [if_neg h2]
  by_cases h3 : i.op = 33
  · rw [if_pos h3]
    refine ⟨hv.setR _ _, ?_⟩
    have := wd_bdd (rv m i.r1 + i.im)
    dsimp only
    generalize wd (rv m i.r1 + i.im) = y at this
    omega
  rw [if_neg h3]
  exact ⟨hv, wd_bdd _⟩
theorem Vd.act {m : Mac} (hv : Vd m) (hb : ∀ n ∈ m.inp, 0 ≤ n ∧ n ≤ 255) (i : Ins) : Vd (act m i).1 := by
  unfold Pl.act
  by_cases h0 : (Pl.flow m i).2.1 = true
  · rw [if_pos h0]; exact (hv.flow i).1.setPc _ (hv.flow i).2
  rw [if_neg h0]
  by_cases h1 : i.op ≤ 18
  · rw [if_pos h1]; exact (hv.setR _ _).setPc _ (wd_bdd _)
  rw [if_neg h1]
  by_cases h2 : i.op ≤ 27
  · rw [if_pos h2]; exact (hv.setR _ _).setPc _ (wd_bdd _)
  rw [if_neg h2]
  by_cases h3 : i.op ≤ 32
  · rw [if_pos h3]
    by_cases hf : (ldv m (lsk i.op) (wd (rv m i.r1 + i.im))).2 = 0
    · rw [if_pos hf]; exact (hv.setR _ _).setPc _ (wd_bdd _)
    · rw [if_neg hf]; exact hv
  rw [if_neg h3]
  by_cases h4 : i.op ≤ 36
  · rw [if_pos h4]
    by_cases hf : (Pl.stv m (lsk i.op) (wd (rv m i.r1 + i.im)) (rv m i.r2)).2 = 0
    · rw [if_pos hf]; exact (hv.stv _ _ _).setPc _ (wd_bdd _)
    · rw [if_neg hf]; exact hv.stv _ _ _
  rw [if_neg h4]
  by_cases h5 : i.op = 43
  · rw [if_pos h5]; exact (hv.setR _ _).setPc _ (wd_bdd _)
  rw [if_neg h5]
  by_cases h6 : i.op = 44
  · rw [if_pos h6]; exact (hv.setR _ _).setPc _ (wd_bdd _)
  rw [if_neg h6]
  by_cases h7 : i.op = 47
  · rw [if_pos h7]; exact hv
  rw [if_neg h7]
  by_cases hf : (Pl.ecall m).2 = 0 ∧ (Pl.ecall m).1.fin = 0
  · rw [if_pos hf]; exact (hv.ecall hb).setPc _ (wd_bdd _)
  · rw [if_neg hf]; exact hv.ecall hb
theorem Vd.step {m : Mac} (hv : Vd m) (hb : ∀ n ∈ m.inp, 0 ≤ n ∧ n ≤ 255) (hs : m.steps < 1000000) : Vd (Pl.step m) := by
  have h0 := hv.steps
  have h1 := hv.setSteps (m.steps + 1) (by omega)
  unfold Pl.step
  split
  · exact h1.setEnd 2 1
  split
  · exact h1.setEnd 2 2
  have h2 := h1.act hb (insOf (Pl.word m))
  split
  · exact h2
  · exact h2.setEnd 2 _
theorem setR_same (m : Mac) (n : Nat) (x : Int) : (setR m n x).code = m.code ∧ (setR m n x).steps = m.steps := by unfold setR; split <;> exact ⟨rfl, rfl⟩
theorem stv_same (m : Mac) (k a x : Int) : (Pl.stv m k a x).1.code = m.code ∧ (Pl.stv m k a x).1.steps = m.steps := by
  by_cases h1 : (a.tmod (ks k) != 0) = true
  · unfold Pl.stv; rw [if_pos h1]; exact ⟨rfl, rfl⟩
  · by_cases h2 : inD m a (ks k).toNat
    · unfold Pl.stv; rw [if_neg h1, if_pos h2]; exact ⟨rfl, rfl⟩
    · by_cases h3 : inS m a (ks k).toNat
      · unfold Pl.stv; rw [if_neg h1, if_neg h2, if_pos h3]; exact ⟨rfl, rfl⟩
      · unfold Pl.stv; rw [if_neg h1, if_neg h2, if_neg h3]; exact ⟨rfl, rfl⟩
theorem ecall_same (m : Mac) : (Pl.ecall m).1.code = m.code ∧ (Pl.ecall m).1.steps = m.steps := by
  unfold Pl.ecall
  split
  · split <;> exact ⟨rfl, rfl⟩
  · split
    · split <;> exact ⟨rfl, rfl⟩
    · split
      · exact ⟨rfl, rfl⟩
      · split <;> exact ⟨rfl, rfl⟩
theorem flow_same (m : Mac) (i : Ins) : (Pl.flow m i).2.2.code = m.code ∧ (Pl.flow m i).2.2.steps = m.steps := by
  unfold Pl.flow
  split
  · exact ⟨rfl, rfl⟩
  · split
    · exact setR_same _ _ _
    · split
      · exact setR_same _ _ _
      · exact ⟨rfl, rfl⟩
theorem act_same (m : Mac) (i : Ins) : (Pl.act m i).1.code = m.code ∧ (Pl.act m i).1.steps = m.steps := by
  unfold Pl.act
  split
  · exact flow_same m i
  split
  · exact setR_same _ _ _
  split
  · exact setR_same _ _ _
  split
  · split
    · exact setR_same _ _ _
    · exact ⟨rfl, rfl⟩
  split
  · split
    · exact stv_same _ _ _ _
    · exact stv_same _ _ _ _
  split
  · exact setR_same _ _ _
  split
  · exact setR_same _ _ _
  split
  · exact ⟨rfl, rfl⟩
  split
  · exact ecall_same m
  · exact ecall_same m
theorem step_same (m : Mac) : (step m).code = m.code ∧ (step m).steps = m.steps + 1 := by
  unfold Pl.step
  split
  · exact ⟨rfl, rfl⟩
  split
  · exact ⟨rfl, rfl⟩
  have := act_same { m with steps := m.steps + 1 } (insOf (word m))
  split
  · exact this
  · exact this
/-- up to so many steps -/
def run : Nat → Mac → Mac
  | 0, m => m
  | n + 1, m => if m.fin = 0 ∧ m.steps < 1000000 then run n (step m) else m
end Go.Proofs.Ytfcfnbncgadomaa.Pl
namespace Go.Proofs.Ytfcfnbncgadomaa.W
open Go.RowKit
theorem run_append_none' {P : Program} {w : World} (base : Nat) (t ty e : TypeId) (i : TypeInfo) (size c : Nat) (ht : P.underlying t = some (.slice e)) (hi : P.info? e = some i)
    (v : Value) (n : Nat) (xs : List Value) (hown : w.ownsRow base e size v n xs) :
    (Builtin.append_ #[t, t] ty #[v, .slice none 0 c]).run P w = .ok v w := by
  rcases hown.2 with ⟨rfl, rfl⟩ | ⟨g, cap, cur, rfl, _, _, hnc, _⟩
  · simp [Builtin.append_, run_underlying ht, sizeOf, typeInfo, hi, Builtin.lenOf, Builtin.firstCells]
  · simp [Builtin.append_, run_underlying ht, sizeOf, typeInfo, hi, Builtin.lenOf, Builtin.firstCells, hnc, storeCells]
theorem wpList_append_none' {P : Program} {w : World} {ops : Array Oper} {rest : List Oper} {o : Oper} {a : Act} {Q : Exit → Act → World → Prop} (hgd : o.guard = none) (s x : Operand) (t : TypeId)
    (ho : o.op = .call { callee := .builtin .append, args := #[s, x], argTypes := #[t, t] })
    (base : Nat) (e : TypeId) (i : TypeInfo) (size c : Nat) (ht : P.underlying t = some (.slice e)) (hi : P.info? e = some i)
    (v : Value) (n : Nat) (xs : List Value) (hs : a.eval s = v) (hown : w.ownsRow base e size v n xs) (hx : a.eval x = .slice none 0 c)
    (h : wpList P ops Q rest (a.put o.dst v) w) : wpList P ops Q (o :: rest) a w := by
  refine wpList_plain hgd fun K hK => ?_
  have hrun := run_append_none' (P := P) (w := w) base t o.type e i size c ht hi v n xs hown
  unfold Oper.wp
  simp [execOp, ho, resolve, invoke, builtin, hs, hx, hrun, Result.andThen]
  exact hK _ _ h
set_option maxHeartbeats 1000000 in
theorem l3Ints_row {lo : Nat} (a : Option Addr) (len cap : Nat) (zs : List Int) (w : World) (h : Row .i64 lo w a len cap zs) (hsz : len ≤ 1048576) :
    Calls Try.prog 48 #[.slice a len cap] w fun e w' => ∃ a' cap', e = .returned (.slice a' len cap') ∧ Own .i64 3 w.heap.size w' a' len cap' zs ∧ Below w.heap.size w w' := by
  obtain ⟨i0, hi, hz0, hz1, hz2⟩ := info_parts Try.infoi64
  obtain ⟨hl, hlc, hcm, hwf, h5⟩ := h
  have HW : Hid (∀ n ∈ zs, (Lit.int .i64 n).wf = true) := hwf
  clear hwf
  have hE : (w.alloc (.cells #[] 3)).ownsRow w.heap.size 3 1 (.slice (some ⟨w.heap.size, 0, none⟩) 0 0) 0 [] := World.ownsRow_lit w #[] 0 (Nat.le_refl _) (Nat.zero_le _) rfl
  cases a with
  | none =>
    have h0 : len = 0 := by rcases h5 with h | ⟨b, off, hb, _⟩; exact h; cases hb
    subst h0
    have hz : zs = [] := by cases zs with | nil => rfl | cons => simp at hl
    subst hz
    clear hl h5
    go_enter Try.func48, Try.ntmps48
    go_wp2_with (at_builtin; refine wpList_append_none' rfl (.tmp 5) (.tmp 6) 23 rfl w.heap.size 3 i0 1 cap Try.underlying23 hi _ 0 [] rfl hE rfl ?_)
    go_ret
    exact ⟨_, _, rfl, ⟨hE, fun n hn => (by cases hn)⟩, below_alloc _ _⟩
  | some ad =>
    have HN : Hid (∀ j u, (zs.map (Value.int .i64))[j]? = some u → (w.alloc (.cells #[] 3)).cell? (ad.add j) = some u) := fun j u hj => by
      have hjl : j < len := by
        have := (List.getElem?_eq_some_iff.1 hj).1
        rw [List.length_map] at this
        omega
      rcases h5 with h | ⟨b, off, hb, _, hlt, hc⟩
      · omega
      · cases hb
        have e1 : (⟨b, off, none⟩ : Addr).add j = ⟨b, off + j, none⟩ := by
          simp only [Addr.add]
          split <;> simp_all
        rw [e1, (below_alloc w _).cell (p := ⟨b, off + j, none⟩) hlt, hc j hjl, ← hj, List.getElem?_map, List.getElem?_eq_getElem (by omega), List.getD_eq_getElem?_getD, List.getElem?_eq_getElem (by omega)]
        rfl
    clear h5
    go_enter Try.func48, Try.ntmps48
    go_wp2_with (at_builtin; refine wpList_append_own _ rfl (.tmp 5) (.tmp 6) 23 rfl w.heap.size 3 i0 (.int .i64 0) 1 8 Try.underlying23 hi hz0 hz1 hz2 rfl (by decide) _ 0 [] rfl hE ad len cap (zs.map (Value.int .i64)) rfl (by rw [List.length_map, hl, Nat.mul_one]) HN.out (by intro u hu; obtain ⟨n, _, rfl⟩ := List.mem_map.1 hu; rfl) (by unfold maxLen; omega) (by omega) (by simp) ?_)
    intro v' u1 hown' hgr _
    have HO' : Hid (u1.ownsRow w.heap.size 3 1 v' len (zs.map (Value.int .i64))) := by show u1.ownsRow _ _ _ _ _ _; simpa using hown'
    have HB : Hid (Below w.heap.size w u1) := (below_alloc w _).grown hgr (by simp) (fun k hk => by simp [Value.ownBlock] at hk; omega)
    clear hown' hgr hE HN
    obtain ⟨a', c', hv⟩ : ∃ a' c', v' = .slice a' len c' := by
      rcases HO'.out.2 with ⟨q0, q1⟩ | ⟨g', c', _, q0, _⟩
      · subst q1; exact ⟨none, 0, q0⟩
      · exact ⟨_, c', q0⟩
    subst hv
    go_wp2
    go_ret
    exact ⟨a', c', rfl, ⟨HO'.out, HW.out⟩, HB.out⟩
set_option maxHeartbeats 1000000 in
theorem l3Bytes_row {lo : Nat} (a : Option Addr) (len cap : Nat) (zs : List Int) (w : World) (h : Row .u8 lo w a len cap zs) (hsz : len ≤ 1048576) :
    Calls Try.prog 49 #[.slice a len cap] w fun e w' => ∃ a' cap', e = .returned (.slice a' len cap') ∧ Own .u8 5 w.heap.size w' a' len cap' zs ∧ Below w.heap.size w w' := by
  obtain ⟨i0, hi, hz0, hz1, hz2⟩ := info_parts Try.infou8
  obtain ⟨hl, hlc, hcm, hwf, h5⟩ := h
  have HW : Hid (∀ n ∈ zs, (Lit.int .u8 n).wf = true) := hwf
  clear hwf
  have hE : (w.alloc (.cells #[] 5)).ownsRow w.heap.size 5 1 (.slice (some ⟨w.heap.size, 0, none⟩) 0 0) 0 [] := World.ownsRow_lit w #[] 0 (Nat.le_refl _) (Nat.zero_le _) rfl
  cases a with
  | none =>
    have h0 : len = 0 := by rcases h5 with h | ⟨b, off, hb, _⟩; exact h; cases hb
    subst h0
    have hz : zs = [] := by cases zs with | nil => rfl | cons => simp at hl
    subst hz
    clear hl h5
    go_enter Try.func49, Try.ntmps49
    go_wp2_with (at_builtin; refine wpList_append_none' rfl (.tmp 5) (.tmp 6) 22 rfl w.heap.size 5 i0 1 cap Try.underlying22 hi _ 0 [] rfl hE rfl ?_)
    go_ret
    exact ⟨_, _, rfl, ⟨hE, fun n hn => (by cases hn)⟩, below_alloc _ _⟩
  | some ad =>
    have HN : Hid (∀ j u, (zs.map (Value.int .u8))[j]? = some u → (w.alloc (.cells #[] 5)).cell? (ad.add j) = some u) := fun j u hj => by
      have hjl : j < len := by
        have := (List.getElem?_eq_some_iff.1 hj).1
        rw [List.length_map] at this
        omega
      rcases h5 with h | ⟨b, off, hb, _, hlt, hc⟩
      · omega
      · cases hb
        have e1 : (⟨b, off, none⟩ : Addr).add j = ⟨b, off + j, none⟩ := by
          simp only [Addr.add]
          split <;> simp_all
        rw [e1, (below_alloc w _).cell (p := ⟨b, off + j, none⟩) hlt, hc j hjl, ← hj, List.getElem?_map, List.getElem?_eq_getElem (by omega), List.getD_eq_getElem?_getD, List.getElem?_eq_getElem (by omega)]
        rfl
    clear h5
    go_enter Try.func49, Try.ntmps49
    go_wp2_with (at_builtin; refine wpList_append_own _ rfl (.tmp 5) (.tmp 6) 22 rfl w.heap.size 5 i0 (.int .u8 0) 1 1 Try.underlying22 hi hz0 hz1 hz2 rfl (by decide) _ 0 [] rfl hE ad len cap (zs.map (Value.int .u8)) rfl (by rw [List.length_map, hl, Nat.mul_one]) HN.out (by intro u hu; obtain ⟨n, _, rfl⟩ := List.mem_map.1 hu; rfl) (by unfold maxLen; omega) (by omega) (by simp) ?_)
    intro v' u1 hown' hgr _
    have HO' : Hid (u1.ownsRow w.heap.size 5 1 v' len (zs.map (Value.int .u8))) := by show u1.ownsRow _ _ _ _ _ _; simpa using hown'
    have HB : Hid (Below w.heap.size w u1) := (below_alloc w _).grown hgr (by simp) (fun k hk => by simp [Value.ownBlock] at hk; omega)
    clear hown' hgr hE HN
    obtain ⟨a', c', hv⟩ : ∃ a' c', v' = .slice a' len c' := by
      rcases HO'.out.2 with ⟨q0, q1⟩ | ⟨g', c', _, q0, _⟩
      · subst q1; exact ⟨none, 0, q0⟩
      · exact ⟨_, c', q0⟩
    subst hv
    go_wp2
    go_ret
    exact ⟨a', c', rfl, ⟨HO'.out, HW.out⟩, HB.out⟩
set_option maxHeartbeats 4000000 in
theorem l3Copy_row {lo : Nat} (v : MV) (m : Pl.Mac) (w : World) (h : MIs lo w v m) (hsz : Pl.mSize m ≤ 1048576) :
    Calls Try.prog 22 #[.agg #[.slice v.code.a v.code.len v.code.cap, .int .i64 m.pc, .slice v.regs.a v.regs.len v.regs.cap, .slice v.data.a v.data.len v.data.cap, .slice v.stk.a v.stk.len v.stk.cap, .slice v.inp.a v.inp.len v.inp.cap, .slice v.out.a v.out.len v.out.cap, .int .i64 m.steps, .int .i64 m.fin, .int .i64 m.val]] w fun e w' => ∃ v' : MV, e = .returned (.agg #[.slice v'.code.a v'.code.len v'.code.cap, .int .i64 m.pc, .slice v'.regs.a v'.regs.len v'.regs.cap, .slice v'.data.a v'.data.len v'.data.cap, .slice v'.stk.a v'.stk.len v'.stk.cap, .slice v'.inp.a v'.inp.len v'.inp.cap, .slice v'.out.a v'.out.len v'.out.cap, .int .i64 m.steps, .int .i64 m.fin, .int .i64 m.val]) ∧ MOwn w.heap.size w' v' m ∧ MSep v' ∧ Below w.heap.size w w' := by
  obtain ⟨⟨ca, cl, cc⟩, ⟨ra, rl, rc⟩, ⟨da, dl, dc⟩, ⟨sa, sl, sc⟩, ⟨ia, il, ic⟩, ⟨oa, ol, oc⟩⟩ := v
  obtain ⟨code, pc, regs, data, stk, inp, out, steps, fin, val⟩ := m
  unfold Pl.mSize at hsz
  obtain ⟨r1, r2, r3, r4, r5, r6⟩ := h
  dsimp only at r1 r2 r3 r4 r5 r6 hsz ⊢
  have hs : cl ≤ 1048576 ∧ rl ≤ 1048576 ∧ dl ≤ 1048576 ∧ sl ≤ 1048576 ∧ il ≤ 1048576 ∧ ol ≤ 1048576 := by
    rw [r1.1, r2.1, r3.1, r4.1, r5.1, r6.1] at hsz
    omega
  clear hsz
  obtain ⟨s1, s2, s3, s4, s5, s6⟩ := hs
  have R1 : Hid (Row .i64 lo w ca cl cc code) := r1
  have R2 : Hid (Row .i64 lo w ra rl rc regs) := r2
  have R3 : Hid (Row .u8 lo w da dl dc data) := r3
  have R4 : Hid (Row .u8 lo w sa sl sc stk) := r4
  have R5 : Hid (Row .u8 lo w ia il ic inp) := r5
  have R6 : Hid (Row .u8 lo w oa ol oc out) := r6
  clear r1 r2 r3 r4 r5 r6
  have PB : Hid (((w.alloc (.cells #[.slice ca cl cc, .int .i64 pc, .slice ra rl rc, .slice da dl dc, .slice sa sl sc, .slice ia il ic, .slice oa ol oc, .int .i64 steps, .int .i64 fin, .int .i64 val] 25)).alloc (.cells #[.slice none 0 0, .int .i64 0, .slice none 0 0, .slice none 0 0, .slice none 0 0, .slice none 0 0, .slice none 0 0, .int .i64 0, .int .i64 0, .int .i64 0] 25)).heap[w.heap.size]? = some (.cells #[.slice ca cl cc, .int .i64 pc, .slice ra rl rc, .slice da dl dc, .slice sa sl sc, .slice ia il ic, .slice oa ol oc, .int .i64 steps, .int .i64 fin, .int .i64 val] 25)) := (Below.heap_alloc _ _ _ (by simp)).trans (heap_alloc_new w _)
  have hsz2 : ((w.alloc (.cells #[.slice ca cl cc, .int .i64 pc, .slice ra rl rc, .slice da dl dc, .slice sa sl sc, .slice ia il ic, .slice oa ol oc, .int .i64 steps, .int .i64 fin, .int .i64 val] 25)).alloc (.cells #[.slice none 0 0, .int .i64 0, .slice none 0 0, .slice none 0 0, .slice none 0 0, .slice none 0 0, .slice none 0 0, .int .i64 0, .int .i64 0, .int .i64 0] 25)).heap.size = w.heap.size + 1 + 1 := by simp
  have PN : Hid ((((w.alloc (.cells #[.slice ca cl cc, .int .i64 pc, .slice ra rl rc, .slice da dl dc, .slice sa sl sc, .slice ia il ic, .slice oa ol oc, .int .i64 steps, .int .i64 fin, .int .i64 val] 25)).alloc (.cells #[.slice none 0 0, .int .i64 0, .slice none 0 0, .slice none 0 0, .slice none 0 0, .slice none 0 0, .slice none 0 0, .int .i64 0, .int .i64 0, .int .i64 0] 25)).alloc (.cells #[.slice none 0 0, .int .i64 0, .slice none 0 0, .slice none 0 0, .slice none 0 0, .slice none 0 0, .slice none 0 0, .int .i64 0, .int .i64 0, .int .i64 0] 25)).heap[w.heap.size + 1 + 1]? = some (.cells #[.slice none 0 0, .int .i64 0, .slice none 0 0, .slice none 0 0, .slice none 0 0, .slice none 0 0, .slice none 0 0, .int .i64 0, .int .i64 0, .int .i64 0] 25)) := by
    have := heap_alloc_new ((w.alloc (.cells #[.slice ca cl cc, .int .i64 pc, .slice ra rl rc, .slice da dl dc, .slice sa sl sc, .slice ia il ic, .slice oa ol oc, .int .i64 steps, .int .i64 fin, .int .i64 val] 25)).alloc (.cells #[.slice none 0 0, .int .i64 0, .slice none 0 0, .slice none 0 0, .slice none 0 0, .slice none 0 0, .slice none 0 0, .int .i64 0, .int .i64 0, .int .i64 0] 25)) (.cells #[.slice none 0 0, .int .i64 0, .slice none 0 0, .slice none 0 0, .slice none 0 0, .slice none 0 0, .slice none 0 0, .int .i64 0, .int .i64 0, .int .i64 0] 25)
    rw [hsz2] at this
    exact this
  clear hsz2
  go_enter Try.func22, Try.ntmps22
  go_wp2_with (first | (refine wpList_load_row rfl 25 _ rfl (w.heap.size) ?hx 25 #[.slice ca cl cc, .int .i64 pc, .slice ra rl rc, .slice da dl dc, .slice sa sl sc, .slice ia il ic, .slice oa ol oc, .int .i64 steps, .int .i64 fin, .int .i64 val] (0, 0) _ ?hg Try.underlying25 ?hd ?hi ?_; (case hx => rfl); (case hg => exact PB.out); (case hd => rfl); (case hi => kernel_rfl)) | (refine wpList_store_row rfl 25 _ _ rfl (w.heap.size + 1 + 1) #[.slice ca cl cc, .int .i64 pc, .slice ra rl rc, .slice da dl dc, .slice sa sl sc, .slice ia il ic, .slice oa ol oc, .int .i64 steps, .int .i64 fin, .int .i64 val] ?hx ?hy 25 #[.slice none 0 0, .int .i64 0, .slice none 0 0, .slice none 0 0, .slice none 0 0, .slice none 0 0, .slice none 0 0, .int .i64 0, .int .i64 0, .int .i64 0] ?hg ?hi ?ho ?h1 ?_; (case hx => rfl); (case hy => rfl); (case hg => exact PN.out); (case hi => kernel_rfl); (case ho => kernel_rfl); (case h1 => kernel_rfl); refine Hid.out ?_))
  unfold Hid
  refine wpList_at fun V hV => ?_
  have zV : V.heap.size = w.heap.size + 3 := by rw [hV]; simp
  have bxV : V.heap[w.heap.size]? = some (.cells #[.slice ca cl cc, .int .i64 pc, .slice ra rl rc, .slice da dl dc, .slice sa sl sc, .slice ia il ic, .slice oa ol oc, .int .i64 steps, .int .i64 fin, .int .i64 val] 25) := by
    rw [hV, setRow_other _ _ _ _ (by omega), Below.heap_alloc _ _ _ (by simp; omega)]
    exact PB.out
  have reV : V.heap[w.heap.size + 1]? = some (.cells #[.slice none 0 0, .int .i64 0, .slice none 0 0, .slice none 0 0, .slice none 0 0, .slice none 0 0, .slice none 0 0, .int .i64 0, .int .i64 0, .int .i64 0] 25) := by
    rw [hV, setRow_other _ _ _ _ (by omega), Below.heap_alloc _ _ _ (by simp)]
    have := heap_alloc_new (w.alloc (.cells #[.slice ca cl cc, .int .i64 pc, .slice ra rl rc, .slice da dl dc, .slice sa sl sc, .slice ia il ic, .slice oa ol oc, .int .i64 steps, .int .i64 fin, .int .i64 val] 25)) (.cells #[.slice none 0 0, .int .i64 0, .slice none 0 0, .slice none 0 0, .slice none 0 0, .slice none 0 0, .slice none 0 0, .int .i64 0, .int .i64 0, .int .i64 0] 25)
    simpa using this
  have otV : V.heap[w.heap.size + 1 + 1]? = some (.cells #[.slice ca cl cc, .int .i64 pc, .slice ra rl rc, .slice da dl dc, .slice sa sl sc, .slice ia il ic, .slice oa ol oc, .int .i64 steps, .int .i64 fin, .int .i64 val] 25) := by
    rw [hV]
    exact setRow_heap _ _ _ _ _ _ PN.out
  have bV : Below w.heap.size w V := by
    rw [hV]
    exact below_setRow ((((Below.refl _ _).alloc (Nat.le_refl _) _).alloc (by simp) _).alloc (by simp; omega) _) (by omega) _
  have kb : ∀ j, V.cell? ⟨w.heap.size, j, none⟩ = (#[.slice ca cl cc, .int .i64 pc, .slice ra rl rc, .slice da dl dc, .slice sa sl sc, .slice ia il ic, .slice oa ol oc, .int .i64 steps, .int .i64 fin, .int .i64 val] : Array Value)[j]? := fun j => cell_of_row V w.heap.size j _ 25 (0, 0) bxV
  have HBX : Hid _ := bxV
  have HRE : Hid _ := reV
  have HOT : Hid _ := otV
  have HKV : Hid (V.heap.size = w.heap.size + 3 ∧ Below w.heap.size w V) := ⟨zV, bV⟩
  clear hV zV bV bxV reV otV PB PN
  go_wp2_with fail
  clear kb
  refine calls_at fun U1 hU1 => ?_
  have bx1 : U1.heap[w.heap.size]? = some (.cells #[.slice ca cl cc, .int .i64 pc, .slice ra rl rc, .slice da dl dc, .slice sa sl sc, .slice ia il ic, .slice oa ol oc, .int .i64 steps, .int .i64 fin, .int .i64 val] 25) := by rw [hU1]; exact HBX.out
  have ot1 : U1.heap[w.heap.size + 1 + 1]? = some (.cells #[.slice ca cl cc, .int .i64 pc, .slice ra rl rc, .slice da dl dc, .slice sa sl sc, .slice ia il ic, .slice oa ol oc, .int .i64 steps, .int .i64 fin, .int .i64 val] 25) := by rw [hU1]; exact HOT.out
  have re1 : U1.heap[w.heap.size + 1]? = some (.cells #[.slice none 0 0, .int .i64 0, .slice none 0 0, .slice none 0 0, .slice none 0 0, .slice none 0 0, .slice none 0 0, .int .i64 0, .int .i64 0, .int .i64 0] 25) := by rw [hU1]; exact HRE.out
  have HK1 : Hid (U1.heap.size = w.heap.size + 3 ∧ Below w.heap.size w U1) := by rw [hU1]; exact HKV.out
  clear HBX HOT HRE HKV
  refine (l3Ints_row ca cl cc code U1 (R1.out.keep HK1.out.2) s1).mono ?_
  rintro e u1 ⟨a1, c1, rfl, o1, d1⟩
  have zz1 : w.heap.size + 1 + 1 < U1.heap.size := by have := HK1.out.1; omega
  have p1 : u1.heap[w.heap.size]? = some (.cells #[.slice ca cl cc, .int .i64 pc, .slice ra rl rc, .slice da dl dc, .slice sa sl sc, .slice ia il ic, .slice oa ol oc, .int .i64 steps, .int .i64 fin, .int .i64 val] 25) := by rw [d1.block _ (by omega)]; exact bx1
  have P1 : Hid _ := p1
  have q1 : u1.heap[w.heap.size + 1 + 1]? = some (.cells #[.slice ca cl cc, .int .i64 pc, .slice ra rl rc, .slice da dl dc, .slice sa sl sc, .slice ia il ic, .slice oa ol oc, .int .i64 steps, .int .i64 fin, .int .i64 val] 25) := by rw [d1.block _ (by omega)]; exact ot1
  have X1 : Hid (u1.heap[w.heap.size + 1]? = some (.cells #[.slice none 0 0, .int .i64 0, .slice none 0 0, .slice none 0 0, .slice none 0 0, .slice none 0 0, .slice none 0 0, .int .i64 0, .int .i64 0, .int .i64 0] 25)) := by
    show u1.heap[w.heap.size + 1]? = _
    rw [d1.block _ (by omega)]; exact re1
  have Q1 : Hid _ := q1
  have kb : ∀ j, u1.cell? ⟨w.heap.size, j, none⟩ = (#[.slice ca cl cc, .int .i64 pc, .slice ra rl rc, .slice da dl dc, .slice sa sl sc, .slice ia il ic, .slice oa ol oc, .int .i64 steps, .int .i64 fin, .int .i64 val] : Array Value)[j]? := fun j => cell_of_row u1 w.heap.size j _ 25 (0, 0) p1
  have ko : ∀ j, u1.cell? ⟨w.heap.size + 1 + 1, j, none⟩ = (#[.slice ca cl cc, .int .i64 pc, .slice ra rl rc, .slice da dl dc, .slice sa sl sc, .slice ia il ic, .slice oa ol oc, .int .i64 steps, .int .i64 fin, .int .i64 val] : Array Value)[j]? := fun j => cell_of_row u1 (w.heap.size + 1 + 1) j _ 25 (0, 0) q1
  have kf : ∀ j, u1.frozen? ⟨w.heap.size + 1 + 1, j, none⟩ = false := fun j => frozen_of_row u1 (w.heap.size + 1 + 1) j _ 25 q1
  have O1 : Hid (Own .i64 3 U1.heap.size u1 a1 cl c1 code) := o1
  have D1 : Hid (Below U1.heap.size U1 u1) := d1
  have B1 : Hid (Below w.heap.size w u1) := HK1.out.2.trans (d1.mono (by have := zz1; omega))
  have S1 : Hid (U1.heap.size ≤ u1.heap.size) := d1.size
  clear o1 d1 bx1 p1 ot1 re1 hU1 q1
  go_wp2_with fail
  clear kb ko kf
  refine calls_at fun U2 hU2 => ?_
  have bx2 : U2.heap[w.heap.size]? = some (.cells #[.slice ca cl cc, .int .i64 pc, .slice ra rl rc, .slice da dl dc, .slice sa sl sc, .slice ia il ic, .slice oa ol oc, .int .i64 steps, .int .i64 fin, .int .i64 val] 25) := by
    rw [hU2]
    exact keep_oth P1.out (show w.heap.size ≠ w.heap.size + 1 + 1 by omega)
  have ot2 : U2.heap[w.heap.size + 1 + 1]? = some (.cells #[.slice a1 cl c1, .int .i64 pc, .slice ra rl rc, .slice da dl dc, .slice sa sl sc, .slice ia il ic, .slice oa ol oc, .int .i64 steps, .int .i64 fin, .int .i64 val] 25) := by
    rw [hU2]
    exact row_put Q1.out 0 (.slice a1 cl c1) rfl
  have re2 : U2.heap[w.heap.size + 1]? = some (.cells #[.slice none 0 0, .int .i64 0, .slice none 0 0, .slice none 0 0, .slice none 0 0, .slice none 0 0, .slice none 0 0, .int .i64 0, .int .i64 0, .int .i64 0] 25) := by
    rw [hU2]
    exact keep_oth X1.out (show w.heap.size + 1 ≠ w.heap.size + 1 + 1 by omega)
  have HK2 : Hid (U2.heap.size = u1.heap.size ∧ Below w.heap.size w U2) := by
    rw [hU2]
    exact ⟨by simp, B1.out.setCell (show w.heap.size ≤ w.heap.size + 1 + 1 by omega) _⟩
  have A1 : Hid (Above (w.heap.size + 1 + 1 + 1) u1 U2) := by
    rw [hU2]
    exact (Above.refl _ _).setCell (show w.heap.size + 1 + 1 < w.heap.size + 1 + 1 + 1 by omega) _
  refine (l3Ints_row ra rl rc regs U2 (R2.out.keep HK2.out.2) s2).mono ?_
  rintro e u2 ⟨a2, c2, rfl, o2, d2⟩
  have zz2 : w.heap.size + 1 + 1 < U2.heap.size := by have := HK2.out.1; have := zz1; have := S1.out; omega
  have p2 : u2.heap[w.heap.size]? = some (.cells #[.slice ca cl cc, .int .i64 pc, .slice ra rl rc, .slice da dl dc, .slice sa sl sc, .slice ia il ic, .slice oa ol oc, .int .i64 steps, .int .i64 fin, .int .i64 val] 25) := by rw [d2.block _ (by omega)]; exact bx2
  have P2 : Hid _ := p2
  have q2 : u2.heap[w.heap.size + 1 + 1]? = some (.cells #[.slice a1 cl c1, .int .i64 pc, .slice ra rl rc, .slice da dl dc, .slice sa sl sc, .slice ia il ic, .slice oa ol oc, .int .i64 steps, .int .i64 fin, .int .i64 val] 25) := by rw [d2.block _ (by omega)]; exact ot2
  have X2 : Hid (u2.heap[w.heap.size + 1]? = some (.cells #[.slice none 0 0, .int .i64 0, .slice none 0 0, .slice none 0 0, .slice none 0 0, .slice none 0 0, .slice none 0 0, .int .i64 0, .int .i64 0, .int .i64 0] 25)) := by
    show u2.heap[w.heap.size + 1]? = _
    rw [d2.block _ (by omega)]; exact re2
  have Q2 : Hid _ := q2
  have kb : ∀ j, u2.cell? ⟨w.heap.size, j, none⟩ = (#[.slice ca cl cc, .int .i64 pc, .slice ra rl rc, .slice da dl dc, .slice sa sl sc, .slice ia il ic, .slice oa ol oc, .int .i64 steps, .int .i64 fin, .int .i64 val] : Array Value)[j]? := fun j => cell_of_row u2 w.heap.size j _ 25 (0, 0) p2
  have ko : ∀ j, u2.cell? ⟨w.heap.size + 1 + 1, j, none⟩ = (#[.slice a1 cl c1, .int .i64 pc, .slice ra rl rc, .slice da dl dc, .slice sa sl sc, .slice ia il ic, .slice oa ol oc, .int .i64 steps, .int .i64 fin, .int .i64 val] : Array Value)[j]? := fun j => cell_of_row u2 (w.heap.size + 1 + 1) j _ 25 (0, 0) q2
  have kf : ∀ j, u2.frozen? ⟨w.heap.size + 1 + 1, j, none⟩ = false := fun j => frozen_of_row u2 (w.heap.size + 1 + 1) j _ 25 q2
  have O2 : Hid (Own .i64 3 U2.heap.size u2 a2 rl c2 regs) := o2
  have D2 : Hid (Below U2.heap.size U2 u2) := d2
  have B2 : Hid (Below w.heap.size w u2) := HK2.out.2.trans (d2.mono (by have := zz2; omega))
  have S2 : Hid (U2.heap.size ≤ u2.heap.size) := d2.size
  clear o2 d2 bx2 p2 ot2 re2 hU2 q2
  go_wp2_with fail
  clear kb ko kf
  refine calls_at fun U3 hU3 => ?_
  have bx3 : U3.heap[w.heap.size]? = some (.cells #[.slice ca cl cc, .int .i64 pc, .slice ra rl rc, .slice da dl dc, .slice sa sl sc, .slice ia il ic, .slice oa ol oc, .int .i64 steps, .int .i64 fin, .int .i64 val] 25) := by
    rw [hU3]
    exact keep_oth P2.out (show w.heap.size ≠ w.heap.size + 1 + 1 by omega)
  have ot3 : U3.heap[w.heap.size + 1 + 1]? = some (.cells #[.slice a1 cl c1, .int .i64 pc, .slice a2 rl c2, .slice da dl dc, .slice sa sl sc, .slice ia il ic, .slice oa ol oc, .int .i64 steps, .int .i64 fin, .int .i64 val] 25) := by
    rw [hU3]
    exact row_put Q2.out 2 (.slice a2 rl c2) rfl
  have re3 : U3.heap[w.heap.size + 1]? = some (.cells #[.slice none 0 0, .int .i64 0, .slice none 0 0, .slice none 0 0, .slice none 0 0, .slice none 0 0, .slice none 0 0, .int .i64 0, .int .i64 0, .int .i64 0] 25) := by
    rw [hU3]
    exact keep_oth X2.out (show w.heap.size + 1 ≠ w.heap.size + 1 + 1 by omega)
  have HK3 : Hid (U3.heap.size = u2.heap.size ∧ Below w.heap.size w U3) := by
    rw [hU3]
    exact ⟨by simp, B2.out.setCell (show w.heap.size ≤ w.heap.size + 1 + 1 by omega) _⟩
  have A2 : Hid (Above (w.heap.size + 1 + 1 + 1) u2 U3) := by
    rw [hU3]
    exact (Above.refl _ _).setCell (show w.heap.size + 1 + 1 < w.heap.size + 1 + 1 + 1 by omega) _
  refine (l3Bytes_row da dl dc data U3 (R3.out.keep HK3.out.2) s3).mono ?_
  rintro e u3 ⟨a3, c3, rfl, o3, d3⟩
  have zz3 : w.heap.size + 1 + 1 < U3.heap.size := by have := HK3.out.1; have := zz2; have := S2.out; omega
  have p3 : u3.heap[w.heap.size]? = some (.cells #[.slice ca cl cc, .int .i64 pc, .slice ra rl rc, .slice da dl dc, .slice sa sl sc, .slice ia il ic, .slice oa ol oc, .int .i64 steps, .int .i64 fin, .int .i64 val] 25) := by rw [d3.block _ (by omega)]; exact bx3
  have P3 : Hid _ := p3
  have q3 : u3.heap[w.heap.size + 1 + 1]? = some (.cells #[.slice a1 cl c1, .int .i64 pc, .slice a2 rl c2, .slice da dl dc, .slice sa sl sc, .slice ia il ic, .slice oa ol oc, .int .i64 steps, .int .i64 fin, .int .i64 val] 25) := by rw [d3.block _ (by omega)]; exact ot3
  have X3 : Hid (u3.heap[w.heap.size + 1]? = some (.cells #[.slice none 0 0, .int .i64 0, .slice none 0 0, .slice none 0 0, .slice none 0 0, .slice none 0 0, .slice none 0 0, .int .i64 0, .int .i64 0, .int .i64 0] 25)) := by
    show u3.heap[w.heap.size + 1]? = _
    rw [d3.block _ (by omega)]; exact re3
  have Q3 : Hid _ := q3
  have kb : ∀ j, u3.cell? ⟨w.heap.size, j, none⟩ = (#[.slice ca cl cc, .int .i64 pc, .slice ra rl rc, .slice da dl dc, .slice sa sl sc, .slice ia il ic, .slice oa ol oc, .int .i64 steps, .int .i64 fin, .int .i64 val] : Array Value)[j]? := fun j => cell_of_row u3 w.heap.size j _ 25 (0, 0) p3
  have ko : ∀ j, u3.cell? ⟨w.heap.size + 1 + 1, j, none⟩ = (#[.slice a1 cl c1, .int .i64 pc, .slice a2 rl c2, .slice da dl dc, .slice sa sl sc, .slice ia il ic, .slice oa ol oc, .int .i64 steps, .int .i64 fin, .int .i64 val] : Array Value)[j]? := fun j => cell_of_row u3 (w.heap.size + 1 + 1) j _ 25 (0, 0) q3
  have kf : ∀ j, u3.frozen? ⟨w.heap.size + 1 + 1, j, none⟩ = false := fun j => frozen_of_row u3 (w.heap.size + 1 + 1) j _ 25 q3
  have O3 : Hid (Own .u8 5 U3.heap.size u3 a3 dl c3 data) := o3
  have D3 : Hid (Below U3.heap.size U3 u3) := d3
  have B3 : Hid (Below w.heap.size w u3) := HK3.out.2.trans (d3.mono (by have := zz3; omega))
  have S3 : Hid (U3.heap.size ≤ u3.heap.size) := d3.size
  clear o3 d3 bx3 p3 ot3 re3 hU3 q3
  go_wp2_with fail
  clear kb ko kf
  refine calls_at fun U4 hU4 => ?_
  have bx4 : U4.heap[w.heap.size]? = some (.cells #[.slice ca cl cc, .int .i64 pc, .slice ra rl rc, .slice da dl dc, .slice sa sl sc, .slice ia il ic, .slice oa ol oc, .int .i64 steps, .int .i64 fin, .int .i64 val] 25) := by
    rw [hU4]
    exact keep_oth P3.out (show w.heap.size ≠ w.heap.size + 1 + 1 by omega)
  have ot4 : U4.heap[w.heap.size + 1 + 1]? = some (.cells #[.slice a1 cl c1, .int .i64 pc, .slice a2 rl c2, .slice a3 dl c3, .slice sa sl sc, .slice ia il ic, .slice oa ol oc, .int .i64 steps, .int .i64 fin, .int .i64 val] 25) := by
    rw [hU4]
    exact row_put Q3.out 3 (.slice a3 dl c3) rfl
  have re4 : U4.heap[w.heap.size + 1]? = some (.cells #[.slice none 0 0, .int .i64 0, .slice none 0 0, .slice none 0 0, .slice none 0 0, .slice none 0 0, .slice none 0 0, .int .i64 0, .int .i64 0, .int .i64 0] 25) := by
    rw [hU4]
    exact keep_oth X3.out (show w.heap.size + 1 ≠ w.heap.size + 1 + 1 by omega)
  have HK4 : Hid (U4.heap.size = u3.heap.size ∧ Below w.heap.size w U4) := by
    rw [hU4]
    exact ⟨by simp, B3.out.setCell (show w.heap.size ≤ w.heap.size + 1 + 1 by omega) _⟩
  have A3 : Hid (Above (w.heap.size + 1 + 1 + 1) u3 U4) := by
    rw [hU4]
    exact (Above.refl _ _).setCell (show w.heap.size + 1 + 1 < w.heap.size + 1 + 1 + 1 by omega) _
  refine (l3Bytes_row sa sl sc stk U4 (R4.out.keep HK4.out.2) s4).mono ?_
  rintro e u4 ⟨a4, c4, rfl, o4, d4⟩
  have zz4 : w.heap.size + 1 + 1 < U4.heap.size := by have := HK4.out.1; have := zz3; have := S3.out; omega
  have p4 : u4.heap[w.heap.size]? = some (.cells #[.slice ca cl cc, .int .i64 pc, .slice ra rl rc, .slice da dl dc, .slice sa sl sc, .slice ia il ic, .slice oa ol oc, .int .i64 steps, .int .i64 fin, .int .i64 val] 25) := by rw [d4.block _ (by omega)]; exact bx4
  have P4 : Hid _ := p4
  have q4 : u4.heap[w.heap.size + 1 + 1]? = some (.cells #[.slice a1 cl c1, .int .i64 pc, .slice a2 rl c2, .slice a3 dl c3, .slice sa sl sc, .slice ia il ic, .slice oa ol oc, .int .i64 steps, .int .i64 fin, .int .i64 val] 25) := by rw [d4.block _ (by omega)]; exact ot4
  have X4 : Hid (u4.heap[w.heap.size + 1]? = some (.cells #[.slice none 0 0, .int .i64 0, .slice none 0 0, .slice none 0 0, .slice none 0 0, .slice none 0 0, .slice none 0 0, .int .i64 0, .int .i64 0, .int .i64 0] 25)) := by
    show u4.heap[w.heap.size + 1]? = _
    rw [d4.block _ (by omega)]; exact re4
  have Q4 : Hid _ := q4
  have kb : ∀ j, u4.cell? ⟨w.heap.size, j, none⟩ = (#[.slice ca cl cc, .int .i64 pc, .slice ra rl rc, .slice da dl dc, .slice sa sl sc, .slice ia il ic, .slice oa ol oc, .int .i64 steps, .int .i64 fin, .int .i64 val] : Array Value)[j]? := fun j => cell_of_row u4 w.heap.size j _ 25 (0, 0) p4
  have ko : ∀ j, u4.cell? ⟨w.heap.size + 1 + 1, j, none⟩ = (#[.slice a1 cl c1, .int .i64 pc, .slice a2 rl c2, .slice a3 dl c3, .slice sa sl sc, .slice ia il ic, .slice oa ol oc, .int .i64 steps, .int .i64 fin, .int .i64 val] : Array Value)[j]? := fun j => cell_of_row u4 (w.heap.size + 1 + 1) j _ 25 (0, 0) q4
  have kf : ∀ j, u4.frozen? ⟨w.heap.size + 1 + 1, j, none⟩ = false := fun j => frozen_of_row u4 (w.heap.size + 1 + 1) j _ 25 q4
  have O4 : Hid (Own .u8 5 U4.heap.size u4 a4 sl c4 stk) := o4
  have D4 : Hid (Below U4.heap.size U4 u4) := d4
  have B4 : Hid (Below w.heap.size w u4) := HK4.out.2.trans (d4.mono (by have := zz4; omega))
  have S4 : Hid (U4.heap.size ≤ u4.heap.size) := d4.size
  clear o4 d4 bx4 p4 ot4 re4 hU4 q4
  go_wp2_with fail
  clear kb ko kf
  refine calls_at fun U5 hU5 => ?_
  have bx5 : U5.heap[w.heap.size]? = some (.cells #[.slice ca cl cc, .int .i64 pc, .slice ra rl rc, .slice da dl dc, .slice sa sl sc, .slice ia il ic, .slice oa ol oc, .int .i64 steps, .int .i64 fin, .int .i64 val] 25) := by
    rw [hU5]
    exact keep_oth P4.out (show w.heap.size ≠ w.heap.size + 1 + 1 by omega)
  have ot5 : U5.heap[w.heap.size + 1 + 1]? = some (.cells #[.slice a1 cl c1, .int .i64 pc, .slice a2 rl c2, .slice a3 dl c3, .slice a4 sl c4, .slice ia il ic, .slice oa ol oc, .int .i64 steps, .int .i64 fin, .int .i64 val] 25) := by
    rw [hU5]
    exact row_put Q4.out 4 (.slice a4 sl c4) rfl
  have re5 : U5.heap[w.heap.size + 1]? = some (.cells #[.slice none 0 0, .int .i64 0, .slice none 0 0, .slice none 0 0, .slice none 0 0, .slice none 0 0, .slice none 0 0, .int .i64 0, .int .i64 0, .int .i64 0] 25) := by
    rw [hU5]
    exact keep_oth X4.out (show w.heap.size + 1 ≠ w.heap.size + 1 + 1 by omega)
  have HK5 : Hid (U5.heap.size = u4.heap.size ∧ Below w.heap.size w U5) := by
    rw [hU5]
    exact ⟨by simp, B4.out.setCell (show w.heap.size ≤ w.heap.size + 1 + 1 by omega) _⟩
  have A4 : Hid (Above (w.heap.size + 1 + 1 + 1) u4 U5) := by
    rw [hU5]
    exact (Above.refl _ _).setCell (show w.heap.size + 1 + 1 < w.heap.size + 1 + 1 + 1 by omega) _
  refine (l3Bytes_row ia il ic inp U5 (R5.out.keep HK5.out.2) s5).mono ?_
  rintro e u5 ⟨a5, c5, rfl, o5, d5⟩
  have zz5 : w.heap.size + 1 + 1 < U5.heap.size := by have := HK5.out.1; have := zz4; have := S4.out; omega
  have p5 : u5.heap[w.heap.size]? = some (.cells #[.slice ca cl cc, .int .i64 pc, .slice ra rl rc, .slice da dl dc, .slice sa sl sc, .slice ia il ic, .slice oa ol oc, .int .i64 steps, .int .i64 fin, .int .i64 val] 25) := by rw [d5.block _ (by omega)]; exact bx5
  have P5 : Hid _ := p5
  have q5 : u5.heap[w.heap.size + 1 + 1]? = some (.cells #[.slice a1 cl c1, .int .i64 pc, .slice a2 rl c2, .slice a3 dl c3, .slice a4 sl c4, .slice ia il ic, .slice oa ol oc, .int .i64 steps, .int .i64 fin, .int .i64 val] 25) := by rw [d5.block _ (by omega)]; exact ot5
  have X5 : Hid (u5.heap[w.heap.size + 1]? = some (.cells #[.slice none 0 0, .int .i64 0, .slice none 0 0, .slice none 0 0, .slice none 0 0, .slice none 0 0, .slice none 0 0, .int .i64 0, .int .i64 0, .int .i64 0] 25)) := by
    show u5.heap[w.heap.size + 1]? = _
    rw [d5.block _ (by omega)]; exact re5
  have Q5 : Hid _ := q5
  have kb : ∀ j, u5.cell? ⟨w.heap.size, j, none⟩ = (#[.slice ca cl cc, .int .i64 pc, .slice ra rl rc, .slice da dl dc, .slice sa sl sc, .slice ia il ic, .slice oa ol oc, .int .i64 steps, .int .i64 fin, .int .i64 val] : Array Value)[j]? := fun j => cell_of_row u5 w.heap.size j _ 25 (0, 0) p5
  have ko : ∀ j, u5.cell? ⟨w.heap.size + 1 + 1, j, none⟩ = (#[.slice a1 cl c1, .int .i64 pc, .slice a2 rl c2, .slice a3 dl c3, .slice a4 sl c4, .slice ia il ic, .slice oa ol oc, .int .i64 steps, .int .i64 fin, .int .i64 val] : Array Value)[j]? := fun j => cell_of_row u5 (w.heap.size + 1 + 1) j _ 25 (0, 0) q5
  have kf : ∀ j, u5.frozen? ⟨w.heap.size + 1 + 1, j, none⟩ = false := fun j => frozen_of_row u5 (w.heap.size + 1 + 1) j _ 25 q5
  have O5 : Hid (Own .u8 5 U5.heap.size u5 a5 il c5 inp) := o5
  have D5 : Hid (Below U5.heap.size U5 u5) := d5
  have B5 : Hid (Below w.heap.size w u5) := HK5.out.2.trans (d5.mono (by have := zz5; omega))
  have S5 : Hid (U5.heap.size ≤ u5.heap.size) := d5.size
  clear o5 d5 bx5 p5 ot5 re5 hU5 q5
  go_wp2_with fail
  clear kb ko kf
  refine calls_at fun U6 hU6 => ?_
  have bx6 : U6.heap[w.heap.size]? = some (.cells #[.slice ca cl cc, .int .i64 pc, .slice ra rl rc, .slice da dl dc, .slice sa sl sc, .slice ia il ic, .slice oa ol oc, .int .i64 steps, .int .i64 fin, .int .i64 val] 25) := by
    rw [hU6]
    exact keep_oth P5.out (show w.heap.size ≠ w.heap.size + 1 + 1 by omega)
  have ot6 : U6.heap[w.heap.size + 1 + 1]? = some (.cells #[.slice a1 cl c1, .int .i64 pc, .slice a2 rl c2, .slice a3 dl c3, .slice a4 sl c4, .slice a5 il c5, .slice oa ol oc, .int .i64 steps, .int .i64 fin, .int .i64 val] 25) := by
    rw [hU6]
    exact row_put Q5.out 5 (.slice a5 il c5) rfl
  have re6 : U6.heap[w.heap.size + 1]? = some (.cells #[.slice none 0 0, .int .i64 0, .slice none 0 0, .slice none 0 0, .slice none 0 0, .slice none 0 0, .slice none 0 0, .int .i64 0, .int .i64 0, .int .i64 0] 25) := by
    rw [hU6]
    exact keep_oth X5.out (show w.heap.size + 1 ≠ w.heap.size + 1 + 1 by omega)
  have HK6 : Hid (U6.heap.size = u5.heap.size ∧ Below w.heap.size w U6) := by
    rw [hU6]
    exact ⟨by simp, B5.out.setCell (show w.heap.size ≤ w.heap.size + 1 + 1 by omega) _⟩
  have A5 : Hid (Above (w.heap.size + 1 + 1 + 1) u5 U6) := by
    rw [hU6]
    exact (Above.refl _ _).setCell (show w.heap.size + 1 + 1 < w.heap.size + 1 + 1 + 1 by omega) _
  refine (l3Bytes_row oa ol oc out U6 (R6.out.keep HK6.out.2) s6).mono ?_
  rintro e u6 ⟨a6, c6, rfl, o6, d6⟩
  have zz6 : w.heap.size + 1 + 1 < U6.heap.size := by have := HK6.out.1; have := zz5; have := S5.out; omega
  have p6 : u6.heap[w.heap.size]? = some (.cells #[.slice ca cl cc, .int .i64 pc, .slice ra rl rc, .slice da dl dc, .slice sa sl sc, .slice ia il ic, .slice oa ol oc, .int .i64 steps, .int .i64 fin, .int .i64 val] 25) := by rw [d6.block _ (by omega)]; exact bx6
  have P6 : Hid _ := p6
  have q6 : u6.heap[w.heap.size + 1 + 1]? = some (.cells #[.slice a1 cl c1, .int .i64 pc, .slice a2 rl c2, .slice a3 dl c3, .slice a4 sl c4, .slice a5 il c5, .slice oa ol oc, .int .i64 steps, .int .i64 fin, .int .i64 val] 25) := by rw [d6.block _ (by omega)]; exact ot6
  have X6 : Hid (u6.heap[w.heap.size + 1]? = some (.cells #[.slice none 0 0, .int .i64 0, .slice none 0 0, .slice none 0 0, .slice none 0 0, .slice none 0 0, .slice none 0 0, .int .i64 0, .int .i64 0, .int .i64 0] 25)) := by
    show u6.heap[w.heap.size + 1]? = _
    rw [d6.block _ (by omega)]; exact re6
  have Q6 : Hid _ := q6
  have kb : ∀ j, u6.cell? ⟨w.heap.size, j, none⟩ = (#[.slice ca cl cc, .int .i64 pc, .slice ra rl rc, .slice da dl dc, .slice sa sl sc, .slice ia il ic, .slice oa ol oc, .int .i64 steps, .int .i64 fin, .int .i64 val] : Array Value)[j]? := fun j => cell_of_row u6 w.heap.size j _ 25 (0, 0) p6
  have ko : ∀ j, u6.cell? ⟨w.heap.size + 1 + 1, j, none⟩ = (#[.slice a1 cl c1, .int .i64 pc, .slice a2 rl c2, .slice a3 dl c3, .slice a4 sl c4, .slice a5 il c5, .slice oa ol oc, .int .i64 steps, .int .i64 fin, .int .i64 val] : Array Value)[j]? := fun j => cell_of_row u6 (w.heap.size + 1 + 1) j _ 25 (0, 0) q6
  have kf : ∀ j, u6.frozen? ⟨w.heap.size + 1 + 1, j, none⟩ = false := fun j => frozen_of_row u6 (w.heap.size + 1 + 1) j _ 25 q6
  have O6 : Hid (Own .u8 5 U6.heap.size u6 a6 ol c6 out) := o6
  have D6 : Hid (Below U6.heap.size U6 u6) := d6
  have B6 : Hid (Below w.heap.size w u6) := HK6.out.2.trans (d6.mono (by have := zz6; omega))
  have S6 : Hid (U6.heap.size ≤ u6.heap.size) := d6.size
  clear o6 d6 bx6 p6 ot6 re6 hU6 q6
  have hrow : (u6.setCell ⟨w.heap.size + 1 + 1, 6, none⟩ (.slice a6 ol c6)).heap[w.heap.size + 1 + 1]? = some (.cells #[.slice a1 cl c1, .int .i64 pc, .slice a2 rl c2, .slice a3 dl c3, .slice a4 sl c4, .slice a5 il c5, .slice a6 ol c6, .int .i64 steps, .int .i64 fin, .int .i64 val] 25) := row_put Q6.out 6 (.slice a6 ol c6) rfl
  have hres : (u6.setCell ⟨w.heap.size + 1 + 1, 6, none⟩ (.slice a6 ol c6)).heap[w.heap.size + 1]? = some (.cells #[.slice none 0 0, .int .i64 0, .slice none 0 0, .slice none 0 0, .slice none 0 0, .slice none 0 0, .slice none 0 0, .int .i64 0, .int .i64 0, .int .i64 0] 25) := keep_oth X6.out (show w.heap.size + 1 ≠ w.heap.size + 1 + 1 by omega)
  have HRES : Hid _ := hres
  have HROW : Hid _ := hrow
  clear hrow hres
  have HAB : Hid (Above (w.heap.size + 1 + 1 + 1) u6 (u6.setCell ⟨w.heap.size + 1 + 1, 6, none⟩ (.slice a6 ol c6)) ∧ Below w.heap.size w (u6.setCell ⟨w.heap.size + 1 + 1, 6, none⟩ (.slice a6 ol c6))) := ⟨(Above.refl _ _).setCell (show w.heap.size + 1 + 1 < w.heap.size + 1 + 1 + 1 by omega) _, B6.out.setCell (show w.heap.size ≤ w.heap.size + 1 + 1 by omega) _⟩
  go_wp2_with (first | (refine wpList_load_row rfl 25 _ rfl (w.heap.size + 1 + 1) ?hx 25 #[.slice a1 cl c1, .int .i64 pc, .slice a2 rl c2, .slice a3 dl c3, .slice a4 sl c4, .slice a5 il c5, .slice a6 ol c6, .int .i64 steps, .int .i64 fin, .int .i64 val] (0, 0) _ ?hg Try.underlying25 ?hd ?hi ?_; (case hx => rfl); (case hg => exact HROW.out); (case hd => rfl); (case hi => kernel_rfl)) | (refine wpList_store_row rfl 25 _ _ rfl (w.heap.size + 1) #[.slice a1 cl c1, .int .i64 pc, .slice a2 rl c2, .slice a3 dl c3, .slice a4 sl c4, .slice a5 il c5, .slice a6 ol c6, .int .i64 steps, .int .i64 fin, .int .i64 val] ?hx ?hy 25 #[.slice none 0 0, .int .i64 0, .slice none 0 0, .slice none 0 0, .slice none 0 0, .slice none 0 0, .slice none 0 0, .int .i64 0, .int .i64 0, .int .i64 0] ?hg ?hi ?ho ?h1 ?_; (case hx => rfl); (case hy => rfl); (case hg => exact HRES.out); (case hi => kernel_rfl); (case ho => kernel_rfl); (case h1 => kernel_rfl); refine Hid.out ?_))
  unfold Hid
  clear kb ko kf
  go_wp2_with fail
  refine bodyPost_ret (v := .agg #[.slice a1 cl c1, .int .i64 pc, .slice a2 rl c2, .slice a3 dl c3, .slice a4 sl c4, .slice a5 il c5, .slice a6 ol c6, .int .i64 steps, .int .i64 fin, .int .i64 val]) ?hres rfl ⟨⟨⟨a1, cl, c1⟩, ⟨a2, rl, c2⟩, ⟨a3, dl, c3⟩, ⟨a4, sl, c4⟩, ⟨a5, il, c5⟩, ⟨a6, ol, c6⟩⟩, rfl, ⟨((O1.out.same ((A1.out.trans (Above.of_below D2.out)).trans ((A2.out.trans (Above.of_below D3.out)).trans ((A3.out.trans (Above.of_below D4.out)).trans ((A4.out.trans (Above.of_below D5.out)).trans ((A5.out.trans (Above.of_below D6.out)).trans (HAB.out.1.setRow (show w.heap.size + 1 < w.heap.size + 1 + 1 + 1 from by omega) _)))))) (by have := zz1; omega)).lower (by have := zz1; omega)), ((O2.out.same ((A2.out.trans (Above.of_below D3.out)).trans ((A3.out.trans (Above.of_below D4.out)).trans ((A4.out.trans (Above.of_below D5.out)).trans ((A5.out.trans (Above.of_below D6.out)).trans (HAB.out.1.setRow (show w.heap.size + 1 < w.heap.size + 1 + 1 + 1 from by omega) _))))) (by have := zz2; omega)).lower (by have := zz2; omega)), ((O3.out.same ((A3.out.trans (Above.of_below D4.out)).trans ((A4.out.trans (Above.of_below D5.out)).trans ((A5.out.trans (Above.of_below D6.out)).trans (HAB.out.1.setRow (show w.heap.size + 1 < w.heap.size + 1 + 1 + 1 from by omega) _)))) (by have := zz3; omega)).lower (by have := zz3; omega)), ((O4.out.same ((A4.out.trans (Above.of_below D5.out)).trans ((A5.out.trans (Above.of_below D6.out)).trans (HAB.out.1.setRow (show w.heap.size + 1 < w.heap.size + 1 + 1 + 1 from by omega) _))) (by have := zz4; omega)).lower (by have := zz4; omega)), ((O5.out.same ((A5.out.trans (Above.of_below D6.out)).trans (HAB.out.1.setRow (show w.heap.size + 1 < w.heap.size + 1 + 1 + 1 from by omega) _)) (by have := zz5; omega)).lower (by have := zz5; omega)), ((O6.out.same (HAB.out.1.setRow (show w.heap.size + 1 < w.heap.size + 1 + 1 + 1 from by omega) _) (by have := zz6; omega)).lower (by have := zz6; omega))⟩, ⟨U1.heap.size, U2.heap.size, U3.heap.size, U4.heap.size, U5.heap.size, U6.heap.size, u6.heap.size, O1.out.span (by have := HK2.out.1; omega), O2.out.span (by have := HK3.out.1; omega), O3.out.span (by have := HK4.out.1; omega), O4.out.span (by have := HK5.out.1; omega), O5.out.span (by have := HK6.out.1; omega), O6.out.span (by omega), (by have := S1.out; have := HK2.out.1; omega), (by have := S2.out; have := HK3.out.1; omega), (by have := S3.out; have := HK4.out.1; omega), (by have := S4.out; have := HK5.out.1; omega), (by have := S5.out; have := HK6.out.1; omega), (by have := S6.out; omega)⟩, below_setRow HAB.out.2 (show w.heap.size ≤ w.heap.size + 1 from by omega) _⟩
  case hres =>
    refine results_cell_row Try.results22 _ _ (w.heap.size + 1) 25 #[.slice a1 cl c1, .int .i64 pc, .slice a2 rl c2, .slice a3 dl c3, .slice a4 sl c4, .slice a5 il c5, .slice a6 ol c6, .int .i64 steps, .int .i64 fin, .int .i64 val] (0, 0) _ ?hp ?hg Try.underlying25 ?hd ?hi
    case hp => rfl
    case hg => exact setRow_heap _ _ _ _ _ _ HRES.out
    case hd => rfl
    case hi => kernel_rfl
end Go.Proofs.Ytfcfnbncgadomaa.W
namespace Go.Proofs.Ytfcfnbncgadomaa.Pl
def goes (m : Mac) : Bool := mOk m && (m.fin == 0) && decide (m.steps < 1000000)
end Go.Proofs.Ytfcfnbncgadomaa.Pl
namespace Go.Proofs.Ytfcfnbncgadomaa.W
open Go.RowKit
set_option maxHeartbeats 2000000 in
theorem l3Goes_any {lo : Nat} (v : MV) (m : Pl.Mac) (w : World) (h : MIs lo w v m) :
    Calls Try.prog 69 #[.agg #[.slice v.code.a v.code.len v.code.cap, .int .i64 m.pc, .slice v.regs.a v.regs.len v.regs.cap, .slice v.data.a v.data.len v.data.cap, .slice v.stk.a v.stk.len v.stk.cap, .slice v.inp.a v.inp.len v.inp.cap, .slice v.out.a v.out.len v.out.cap, .int .i64 m.steps, .int .i64 m.fin, .int .i64 m.val]] w fun e w' => e = .returned (.bool (Pl.goes m)) ∧ Below w.heap.size w w' := by
  have HI : Hid (MIs lo w v m) := h
  clear h
  have PB : Hid ((w.alloc (.cells #[.slice v.code.a v.code.len v.code.cap, .int .i64 m.pc, .slice v.regs.a v.regs.len v.regs.cap, .slice v.data.a v.data.len v.data.cap, .slice v.stk.a v.stk.len v.stk.cap, .slice v.inp.a v.inp.len v.inp.cap, .slice v.out.a v.out.len v.out.cap, .int .i64 m.steps, .int .i64 m.fin, .int .i64 m.val] 25)).heap[w.heap.size]? = some (.cells #[.slice v.code.a v.code.len v.code.cap, .int .i64 m.pc, .slice v.regs.a v.regs.len v.regs.cap, .slice v.data.a v.data.len v.data.cap, .slice v.stk.a v.stk.len v.stk.cap, .slice v.inp.a v.inp.len v.inp.cap, .slice v.out.a v.out.len v.out.cap, .int .i64 m.steps, .int .i64 m.fin, .int .i64 m.val] 25)) := heap_alloc_new w _
  go_enter Try.func69, Try.ntmps69
  go_wp2_with (refine wpList_load_row rfl 25 _ rfl (w.heap.size) ?hx 25 #[.slice v.code.a v.code.len v.code.cap, .int .i64 m.pc, .slice v.regs.a v.regs.len v.regs.cap, .slice v.data.a v.data.len v.data.cap, .slice v.stk.a v.stk.len v.stk.cap, .slice v.inp.a v.inp.len v.inp.cap, .slice v.out.a v.out.len v.out.cap, .int .i64 m.steps, .int .i64 m.fin, .int .i64 m.val] (0, 0) _ ?hg Try.underlying25 ?hd ?hi ?_; (case hx => rfl); (case hg => exact PB.out); (case hd => rfl); (case hi => kernel_rfl))
  refine (specMachineOk_any v m _ (HI.out.keep (below_alloc w _))).mono ?_
  rintro e u1 ⟨rfl, d1⟩
  have q1 : u1.heap[w.heap.size]? = some (.cells #[.slice v.code.a v.code.len v.code.cap, .int .i64 m.pc, .slice v.regs.a v.regs.len v.regs.cap, .slice v.data.a v.data.len v.data.cap, .slice v.stk.a v.stk.len v.stk.cap, .slice v.inp.a v.inp.len v.inp.cap, .slice v.out.a v.out.len v.out.cap, .int .i64 m.steps, .int .i64 m.fin, .int .i64 m.val] 25) := (d1.block _ (by simp)).trans PB.out
  have c8 : u1.cell? ⟨w.heap.size, 8, none⟩ = some (.int .i64 m.fin) := cell_of_row u1 w.heap.size 8 _ 25 (0, 0) q1
  have c7 : u1.cell? ⟨w.heap.size, 7, none⟩ = some (.int .i64 m.steps) := cell_of_row u1 w.heap.size 7 _ 25 (0, 0) q1
  have B1 : Hid (Below w.heap.size w u1) := (below_alloc w _).trans (d1.mono (by simp))
  clear d1 q1 PB
  have HG : Hid (Pl.goes m = (Pl.mOk m && (m.fin == 0) && decide (m.steps < 1000000))) := rfl
  cases hk : Pl.mOk m
  · go_wp2
    go_ret
    exact ⟨by rw [HG.out, hk]; rfl, B1.out⟩
  · cases hf : (m.fin == 0)
    · go_wp2
      go_ret
      exact ⟨by rw [HG.out, hk, hf]; rfl, B1.out⟩
    · go_wp2
      go_ret
      exact ⟨by rw [HG.out, hk, hf]; simp, B1.out⟩
/-- what a valid machine that goes on is -/
theorem Pl_vd {m : Pl.Mac} (h : Pl.goes m = true) : Pl.Vd m ∧ m.fin = 0 ∧ m.steps < 1000000 := by
  unfold Pl.goes Pl.mOk Pl.cdOk Pl.skOk Pl.isW at h
  simp only [Bool.and_eq_true, decide_eq_true_eq, beq_iff_eq, List.all_eq_true] at h
  obtain ⟨⟨⟨⟨⟨c1, c2⟩, c3⟩, d, ⟨k1, k2, k3⟩, ⟨p1, p2⟩, r32, r0, ra, i, o, s0, s1, f0, f3, val⟩, hf⟩, hs⟩ := h
  refine ⟨⟨c2, d, by omega, ⟨p1, p2⟩, r32, fun n hn => ?_, i, o, ⟨s0, s1⟩⟩, hf, hs⟩
  rw [List.getD_eq_getElem?_getD, List.getElem?_eq_getElem (by omega)]
  exact ra _ (List.getElem_mem _)
theorem own_at_blk {k : IntKind} {e : TypeId} {lo : Nat} {w : World} {a : Option Addr} {len cap : Nat} {zs : List Int} (h : Own k e lo w a len cap zs) {x : Nat} (hx : a.map (·.block) = some x) : lo ≤ x ∧ x < w.heap.size := by
  obtain ⟨ad, had, rfl⟩ := Option.map_eq_some_iff.1 hx
  exact h.span (Nat.le_refl _) ad had
theorem mown_blk {lo : Nat} {u : World} {v : MV} {m : Pl.Mac} (h : MOwn lo u v m) (O j x : Nat) (hj : 1 ≤ j) (hx : (blks O v)[j]? = some (some x)) : lo ≤ x ∧ x < u.heap.size := by
  obtain ⟨h1, h2, h3, h4, h5, h6⟩ := h
  have h7 : j < 7 := (List.getElem?_eq_some_iff.1 hx).1
  rcases (show j = 1 ∨ j = 2 ∨ j = 3 ∨ j = 4 ∨ j = 5 ∨ j = 6 by omega) with rfl | rfl | rfl | rfl | rfl | rfl
  · exact own_at_blk h1 (Option.some.inj hx)
  · exact own_at_blk h2 (Option.some.inj hx)
  · exact own_at_blk h3 (Option.some.inj hx)
  · exact own_at_blk h4 (Option.some.inj hx)
  · exact own_at_blk h5 (Option.some.inj hx)
  · exact own_at_blk h6 (Option.some.inj hx)
theorem span_blk {s : SV} {lo hi x : Nat} (h : Span s lo hi) (hx : s.a.map (·.block) = some x) : lo ≤ x ∧ x < hi := by
  obtain ⟨ad, had, rfl⟩ := Option.map_eq_some_iff.1 hx
  exact h ad had
theorem sep_apart {v : MV} (hs : MSep v) (O : Nat) (hO : ∀ j x, 1 ≤ j → (blks O v)[j]? = some (some x) → x < O) : Apart O v := by
  obtain ⟨t0, t1, t2, t3, t4, t5, t6, s1, s2, s3, s4, s5, s6, o1, o2, o3, o4, o5, o6⟩ := hs
  have key : ∀ j x, 1 ≤ j → j < 7 → (blks O v)[j]? = some (some x) → (j = 1 ∧ t0 ≤ x ∧ x < t1) ∨ (j = 2 ∧ t1 ≤ x ∧ x < t2) ∨ (j = 3 ∧ t2 ≤ x ∧ x < t3) ∨ (j = 4 ∧ t3 ≤ x ∧ x < t4) ∨ (j = 5 ∧ t4 ≤ x ∧ x < t5) ∨ (j = 6 ∧ t5 ≤ x ∧ x < t6) := by
    intro j x hj h7 hx
    rcases (show j = 1 ∨ j = 2 ∨ j = 3 ∨ j = 4 ∨ j = 5 ∨ j = 6 by omega) with rfl | rfl | rfl | rfl | rfl | rfl
    · have := span_blk s1 (Option.some.inj hx); omega
    · have := span_blk s2 (Option.some.inj hx); omega
    · have := span_blk s3 (Option.some.inj hx); omega
    · have := span_blk s4 (Option.some.inj hx); omega
    · have := span_blk s5 (Option.some.inj hx); omega
    · have := span_blk s6 (Option.some.inj hx); omega
  intro i j hi hj hij x hx hy
  by_cases hi0 : i = 0
  · subst hi0
    have e : O = x := Option.some.inj (Option.some.inj hx)
    have := hO j x (by omega) hy
    omega
  by_cases hj0 : j = 0
  · subst hj0
    have e : O = x := Option.some.inj (Option.some.inj hy)
    have := hO i x (by omega) hx
    omega
  have a := key i x (by omega) hi hx
  have b := key j x (by omega) hj hy
  omega
/-- a machine whose slices a call made, in a block behind them: at work -/
theorem run_of_own {D : Nat → Prop} {lo O : Nat} {u u' : World} {v : MV} {m : Pl.Mac} (h0 : MOwn lo u v m) (hs : MSep v) (hO : u.heap.size = O) (hb : Below O u u') (hx : u'.heap[O]? = some (.cells #[.slice v.code.a v.code.len v.code.cap, .int .i64 m.pc, .slice v.regs.a v.regs.len v.regs.cap, .slice v.data.a v.data.len v.data.cap, .slice v.stk.a v.stk.len v.stk.cap, .slice v.inp.a v.inp.len v.inp.cap, .slice v.out.a v.out.len v.out.cap, .int .i64 m.steps, .int .i64 m.fin, .int .i64 m.val] 25)) (hD : ∀ x, D x → x < u'.heap.size ∧ x ≠ O ∧ (x < lo ∨ O ≤ x)) : Run D O u' v m := by
  have hb' : Below u.heap.size u u' := by rw [hO]; exact hb
  have hl : ∀ j x, 1 ≤ j → (blks O v)[j]? = some (some x) → lo ≤ x ∧ x < O := fun j x hj hx => by rw [← hO]; exact mown_blk h0 O j x hj (by rw [← hx])
  have h := h0.keep hb'
  refine ⟨fun x hx => ⟨(hD x hx).1, fun i e => ?_⟩, hx, (h.is.1).lower (Nat.zero_le _), h.2.1.lower (Nat.zero_le _), h.2.2.1.lower (Nat.zero_le _), h.2.2.2.1.lower (Nat.zero_le _), (h.is.2.2.2.2.1).lower (Nat.zero_le _), h.2.2.2.2.2.lower (Nat.zero_le _), sep_apart hs O fun j x hj hx => (hl j x hj hx).2, fun i x hx' => ?_⟩
  · have d := hD x hx
    rcases Nat.eq_zero_or_pos i with rfl | hi
    · exact d.2.1 (Option.some.inj (Option.some.inj e)).symm
    · have := hl i x hi e; omega
  · have hOl : O < u'.heap.size := (Array.getElem?_eq_some_iff.1 hx).1
    rcases Nat.eq_zero_or_pos i with rfl | hi
    · have := Option.some.inj (Option.some.inj hx'); omega
    · have := hl i x hi hx'; omega
theorem Run.is {D : Nat → Prop} {g : Nat} {u : World} {v : MV} {m : Pl.Mac} (h : Run D g u v m) : MIs 0 u v m := ⟨h.code, h.regs.row, h.data.row, h.stk.row, h.inp, h.out.row⟩
end Go.Proofs.Ytfcfnbncgadomaa.W
