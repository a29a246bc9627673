import Derived.Test.YteadglnenaiaaaaGreatDoorK20
import Derived.Test.YteadglnenaiaaaaGreatDoorK16
set_option linter.unusedVariables false
set_option linter.unusedSimpArgs false
namespace Go.Proofs.YteadglnenaiaaaaGreatDoor.W
open Go.RowKit Go.Shelf
attribute [local go_sem] Oper.semAt_some
theorem six_heap (w : World) (o0 o1 o2 o3 o4 o5 : Obj) : ((((((w.alloc o0).alloc o1).alloc o2).alloc o3).alloc o4).alloc o5).heap[w.heap.size + 0]? = some o0 ∧ ((((((w.alloc o0).alloc o1).alloc o2).alloc o3).alloc o4).alloc o5).heap[w.heap.size + 1]? = some o1 ∧ ((((((w.alloc o0).alloc o1).alloc o2).alloc o3).alloc o4).alloc o5).heap[w.heap.size + 2]? = some o2 ∧ ((((((w.alloc o0).alloc o1).alloc o2).alloc o3).alloc o4).alloc o5).heap[w.heap.size + 3]? = some o3 ∧ ((((((w.alloc o0).alloc o1).alloc o2).alloc o3).alloc o4).alloc o5).heap[w.heap.size + 4]? = some o4 ∧ ((((((w.alloc o0).alloc o1).alloc o2).alloc o3).alloc o4).alloc o5).heap[w.heap.size + 5]? = some o5 := by
  refine ⟨?_, ?_, ?_, ?_, ?_, ?_⟩ <;> repeat (first | exact alloc_at _ _ _ (by simp) | refine (Below.heap_alloc _ _ _ (by first | (simp; done) | (simp; omega))).trans ?_)
theorem four_heap (w : World) (o0 o1 o2 o3 : Obj) : ((((w.alloc o0).alloc o1).alloc o2).alloc o3).heap[w.heap.size]? = some o0 ∧ ((((w.alloc o0).alloc o1).alloc o2).alloc o3).heap[w.heap.size + 1]? = some o1 ∧ ((((w.alloc o0).alloc o1).alloc o2).alloc o3).heap[w.heap.size + 1 + 1]? = some o2 ∧ ((((w.alloc o0).alloc o1).alloc o2).alloc o3).heap[w.heap.size + 1 + 1 + 1]? = some o3 := by
  refine ⟨?_, ?_, ?_, ?_⟩ <;> repeat (first | exact alloc_at _ _ _ (by simp) | refine (Below.heap_alloc _ _ _ (by first | (simp; done) | (simp; omega))).trans ?_)
def LxI (w : World) (pre : List Pl.Yd) (W : World) : Prop := Pl.GoOn pre ∧ Below w.heap.size w W ∧ W.heap[w.heap.size]? = some (.cells #[.slice none 0 0] 81 (0, 0)) ∧ W.heap[w.heap.size + 1]? = some (.cells #[.int .i64 0] 3 (0, 0)) ∧ W.heap[w.heap.size + 2]? = some (.cells #[.int .i64 0] 3 (0, 0)) ∧ W.heap[w.heap.size + 3]? = some (.cells #[.int .i64 0] 3 (0, 0)) ∧
  ∃ v, W.heap[w.heap.size + 5]? = some (.cells #[v] 81 (0, 0)) ∧ W.ownsRow (w.heap.size + 4) 56 5 v (Pl.toks pre).length (Pl.Tk.all (Pl.toks pre))
def LxIx (w : World) (xs : List Pl.Yd) (W : World) : Prop := ∃ pre x, xs = pre ++ [x] ∧ Pl.GoOn pre ∧ Pl.cod pre.length x ≠ 0 ∧ Below w.heap.size w W ∧ W.heap[w.heap.size]? = some (.cells #[.slice none 0 0] 81 (0, 0)) ∧ W.heap[w.heap.size + 1]? = some (.cells #[.int .i64 (Pl.cod pre.length x)] 3 (0, 0)) ∧ W.heap[w.heap.size + 2]? = some (.cells #[.int .i64 x.2.2.2.1] 3 (0, 0)) ∧ W.heap[w.heap.size + 3]? = some (.cells #[.int .i64 x.2.2.2.2.1] 3 (0, 0))
theorem LxI.other {w W W' : World} {pre : List Pl.Yd} (h : LxI w pre W) (hb : Below w.heap.size W W') (hk : ∀ (b : Nat) (cs : Array Value) (t : TypeId), W.heap[b]? = some (.cells cs t (0, 0)) → t = 3 ∨ t = 81 ∨ t = 56 → W'.heap[b]? = W.heap[b]?) : LxI w pre W' := by
  obtain ⟨h1, h2, q0, q1, q2, q3, v, q5, hr⟩ := h
  exact ⟨h1, h2.trans (hb.mono (Nat.le_refl _)), (hk _ _ _ q0 (.inr (.inl rfl))).trans q0, (hk _ _ _ q1 (.inl rfl)).trans q1, (hk _ _ _ q2 (.inl rfl)).trans q2, (hk _ _ _ q3 (.inl rfl)).trans q3, v, (hk _ _ _ q5 (.inr (.inl rfl))).trans q5, own_other hr fun b cs _ hc => hk b cs _ hc (.inr (.inr rfl))⟩
theorem LxIx.other {w W W' : World} {xs : List Pl.Yd} (h : LxIx w xs W) (hb : Below w.heap.size W W') (hk : ∀ (b : Nat) (cs : Array Value) (t : TypeId), W.heap[b]? = some (.cells cs t (0, 0)) → t = 3 ∨ t = 81 ∨ t = 56 → W'.heap[b]? = W.heap[b]?) : LxIx w xs W' := by
  obtain ⟨pre, x, e, h1, hc, h2, q0, q1, q2, q3⟩ := h
  exact ⟨pre, x, e, h1, hc, h2.trans (hb.mono (Nat.le_refl _)), (hk _ _ _ q0 (.inr (.inl rfl))).trans q0, (hk _ _ _ q1 (.inl rfl)).trans q1, (hk _ _ _ q2 (.inl rfl)).trans q2, (hk _ _ _ q3 (.inl rfl)).trans q3⟩
def LxJ (w : World) (g bx : Nat) (pre : List Pl.Yd) (W : World) : Prop := LxI w pre W ∧ W.heap[bx]? = some (.cells #[.pointer (some ⟨g, 0, none⟩)] 109 (0, 0))
theorem LxJ.other {w W W' : World} {g bx : Nat} {pre : List Pl.Yd} (h : LxJ w g bx pre W) (hb : Below w.heap.size W W') (hx : W'.heap[bx]? = W.heap[bx]?) (hk : ∀ (b : Nat) (cs : Array Value) (t : TypeId), W.heap[b]? = some (.cells cs t (0, 0)) → t = 3 ∨ t = 81 ∨ t = 56 → W'.heap[b]? = W.heap[b]?) : LxJ w g bx pre W' := ⟨h.1.other hb hk, hx.trans h.2⟩
set_option maxHeartbeats 2000000 in
theorem lex_next (w W0 Wb w6 : World) (D g bx : Nat) (pre : List Pl.Yd) (kd : Int) (S : ByteArray) (N A B : Int) (ra r6 : Option Addr) (rc cp6 : Nat)
    (hi : LxJ w g bx pre W0) {s : ByteArray} (hxx : ∃ k, LxSt g s k W0) (hbk : ∀ b, D ≤ b → b < D + 2 → ∃ o', W0.heap[b]? = some o' ∧ o'.isCells = false)
    (hz0 : D + 2 ≤ W0.heap.size) (hzW : W0.heap.size ≤ Wb.heap.size) (hg : w.heap.size + 6 ≤ g) (hgb : g < bx) (hbD : bx < D)
    (hBW : Below w.heap.size w Wb) (hbxb : Wb.heap[bx]? = some (.cells #[.pointer (some ⟨g, 0, none⟩)] 109 (0, 0)))
    (q0 : Wb.heap[w.heap.size]? = some (.cells #[.slice none 0 0] 81 (0, 0))) (q1 : Wb.heap[w.heap.size + 1]? = some (.cells #[.int .i64 0] 3 (0, 0))) (q2 : Wb.heap[w.heap.size + 1 + 1]? = some (.cells #[.int .i64 0] 3 (0, 0))) (q3 : Wb.heap[w.heap.size + 1 + 1 + 1]? = some (.cells #[.int .i64 0] 3 (0, 0))) (q5 : Wb.heap[w.heap.size + 1 + 1 + 1 + 1 + 1]? = some (.cells #[.slice ra pre.length rc] 81 (0, 0)))
    (hne : ∀ b, some b = (Value.slice ra pre.length rc).ownBlock → w.heap.size + 4 ≤ b ∧ ∃ cs, W0.heap[b]? = some (.cells cs 56 (0, 0)))
    (hgrow : (Wb.alloc (.cells #[.int .i64 kd, .string S, .int .i64 N, .int .i64 A, .int .i64 B] 56)).grownBy w6 (Value.slice ra pre.length rc).ownBlock)
    (hown : w6.ownsRow (w.heap.size + 4) 56 5 (.slice r6 ((Pl.toks pre).length + 1) cp6) ((Pl.toks pre).length + 1) (Pl.Tk.all (Pl.toks pre) ++ [.int .i64 kd, .string S, .int .i64 N, .int .i64 A, .int .i64 B]))
    (hgo : Pl.GoOn pre) (hc : Pl.cod pre.length (kd, S, N, A, B, 0) = 0) {W' : World}
    (hW' : W' = w6.setCell ⟨w.heap.size + 1 + 1 + 1 + 1 + 1, 0, none⟩ (.slice r6 ((Pl.toks pre).length + 1) cp6)) :
    KbX D w.heap.size g bx W0 Wb W' ∧ LxJ w g bx (pre ++ [(kd, S, N, A, B, 0)]) W' := by
  have hz5 : w.heap.size + 5 < Wb.heap.size := (Array.getElem?_eq_some_iff.1 q5).1
  have k6 : ∀ b, b < Wb.heap.size → some b ≠ (Value.slice ra pre.length rc).ownBlock → w6.heap[b]? = Wb.heap[b]? := fun b h1 h2 => (hgrow.block b (by simp; omega) h2).trans (Below.heap_alloc Wb _ b h1)
  have nt : ∀ (b : Nat) (cs : Array Value) (t : TypeId), W0.heap[b]? = some (.cells cs t (0, 0)) → t ≠ 56 → some b ≠ (Value.slice ra pre.length rc).ownBlock := by
    intro b cs t h1 h2 e
    obtain ⟨_, cs', h3⟩ := hne b e
    rw [h1] at h3
    cases h3
    exact h2 rfl
  obtain ⟨⟨_, _, p0, p1, p2, p3, v, p5, _⟩, pbx⟩ := hi
  have s5 : w6.heap[w.heap.size + 5]? = some (.cells #[.slice ra pre.length rc] 81 (0, 0)) := (k6 _ (by omega) (nt _ _ _ p5 (by decide))).trans q5
  have kW : ∀ b, b ≠ w.heap.size + 5 → W'.heap[b]? = w6.heap[b]? := fun b h => by rw [hW']; exact Below.heap_setCell w6 ⟨w.heap.size + 5, 0, none⟩ _ b h
  have kk : ∀ b, b < Wb.heap.size → b ≠ w.heap.size + 5 → some b ≠ (Value.slice ra pre.length rc).ownBlock → W'.heap[b]? = Wb.heap[b]? := fun b h1 h2 h3 => (kW b h2).trans (k6 b h1 h3)
  have hB6 : Below w.heap.size Wb w6 := ((Below.refl w.heap.size Wb).alloc (by omega) _).grown hgrow (by simp; omega) (fun k hk => by have := (hne k hk.symm).1; omega)
  have hBW' : Below w.heap.size Wb W' := by rw [hW']; exact hB6.setCell (p := ⟨w.heap.size + 5, 0, none⟩) (by show w.heap.size ≤ w.heap.size + 5; omega) _
  obtain ⟨k, hk⟩ := hxx
  have gx : some g ≠ (Value.slice ra pre.length rc).ownBlock := nt g _ _ hk (by decide)
  have hbx0 : some bx ≠ (Value.slice ra pre.length rc).ownBlock := nt bx _ _ pbx (by decide)
  refine ⟨⟨fun b h1 h2 => kk b (by omega) (by omega) ?_, hBW', kk g (by omega) (by omega) gx, kk bx (by omega) (by omega) hbx0, fun b h1 h2 => kk b h2 (by omega) ?_⟩, ⟨Pl.GoOn.snoc hgo hc, hBW.trans hBW', ?_, ?_, ?_, ?_, .slice r6 ((Pl.toks pre).length + 1) cp6, ?_, ?_⟩, (kk bx (by omega) (by omega) hbx0).trans hbxb⟩
  · intro e
    obtain ⟨_, cs, h3⟩ := hne b e
    obtain ⟨o', h4, h5⟩ := hbk b h1 h2
    rw [h3] at h4
    cases h4
    cases h5
  · intro e
    obtain ⟨_, cs, h3⟩ := hne b e
    have := (Array.getElem?_eq_some_iff.1 h3).1
    omega
  · exact (kk _ (by omega) (by omega) (nt _ _ _ p0 (by decide))).trans q0
  · exact (kk _ (by omega) (by omega) (nt _ _ _ p1 (by decide))).trans q1
  · exact (kk _ (by omega) (by omega) (nt _ _ _ p2 (by decide))).trans q2
  · exact (kk _ (by omega) (by omega) (nt _ _ _ p3 (by decide))).trans q3
  · rw [hW']; exact one_setCell s5
  · have hx := own_other (w' := W') hown (fun b cs _ hcs => kW b fun e => by
      subst e
      rw [s5] at hcs
      cases hcs)
    have e1 : (Pl.toks (pre ++ [(kd, S, N, A, B, 0)])).length = (Pl.toks pre).length + 1 := by simp [Pl.toks]
    have e2 : Pl.Tk.all (Pl.toks (pre ++ [(kd, S, N, A, B, 0)])) = Pl.Tk.all (Pl.toks pre) ++ [.int .i64 kd, .string S, .int .i64 N, .int .i64 A, .int .i64 B] := by simp [Pl.toks, Pl.Tk.all, Pl.Yd.tk, Pl.Tk.cells]
    rw [e1, e2]
    exact hx
end Go.Proofs.YteadglnenaiaaaaGreatDoor.W
namespace Go.Proofs.YteadglnenaiaaaaGreatDoor.W
open Go.RowKit Go.Shelf
attribute [local go_sem] Oper.semAt_some
set_option maxHeartbeats 8000000 in
set_option maxRecDepth 100000 in
theorem implLex_is (a : Option Addr) (len cap : Nat) (s : ByteArray) (hl : s.size = len) (hmx : len ≤ 1048576) (w : World) (hE : Glo w) (hcv : ∀ u : World, Below w.heap.size w u → (convert 84 9 (.slice a len cap)).run Tryz.prog u = .ok (.string s) u) :
    Calls Tryz.prog 66 #[.slice a len cap] w fun e w' => LexSaid w.heap.size s e w' ∧ Below w.heap.size w w' := by
  have HE : Hid (Glo w) := hE
  have HCV : Hid (∀ u : World, Below w.heap.size w u → (convert 84 9 (.slice a len cap)).run Tryz.prog u = .ok (.string s) u) := hcv
  have HLN : Hid (s.size = len) := hl
  clear hcv hl hE
  refine (callsIn_wide (n := 4)).1 ?_
  refine callsIn_of_wp_marks Tryz.func66 rfl trivial ?_ rfl
  simp only [Tryz.ntmps66, List.size_toArray, List.length_cons, List.length_nil, Nat.reduceAdd, Nat.reduceSub, Array.replicate_succ, Array.replicate_zero, List.push_toArray, List.append_toArray, List.nil_append, List.cons_append]
  by_cases hbig : 20000 < len
  · have e1 : decide ((20000 : Int) < len) = true := by simp; omega
    have HB : Hid (20000 < len) := hbig
    clear hbig
    gi_wp2
    obtain ⟨q0, q1, q2, q3⟩ := four_heap w (.cells #[.slice none 0 0] 81) (.cells #[.int .i64 1] 3) (.cells #[.int .i64 1] 3) (.cells #[.int .i64 1] 3)
    refine ⟨_, results_c4 rfl _ _ w.heap.size (w.heap.size + 1) (w.heap.size + 1 + 1) (w.heap.size + 1 + 1 + 1) (.slice none 0 0) (.int .i64 1) (.int .i64 1) (.int .i64 1) rfl rfl rfl rfl (cell_of_row _ _ 0 _ 81 (0, 0) q0) (cell_of_row _ _ 0 _ 3 (0, 0) q1) (cell_of_row _ _ 0 _ 3 (0, 0) q2) (cell_of_row _ _ 0 _ 3 (0, 0) q3), ⟨[], 1, 1, 1, _, .inl ⟨by rw [HLN.out]; exact HB.out, rfl⟩, rfl, World.ownsRow_nil _ _ _ _⟩, ?_⟩
    repeat (first | exact Below.refl _ _ | refine Below.alloc ?_ (by first | (simp; done) | (simp; omega)) _)
  · have e1 : decide ((20000 : Int) < len) = false := by simp; omega
    have HSM : Hid (len ≤ 20000) := by show len ≤ 20000; omega
    clear hbig
    have BU : Hid (Below w.heap.size w ((((((w.alloc (.cells #[.slice none 0 0] 81)).alloc (.cells #[.int .i64 0] 3)).alloc (.cells #[.int .i64 0] 3)).alloc (.cells #[.int .i64 0] 3)).alloc (.cells #[] 56)).alloc (.cells #[.slice (some ⟨w.heap.size + 1 + 1 + 1 + 1, 0, none⟩) 0 0] 81))) := by
      repeat (first | exact Below.refl _ _ | refine Below.alloc ?_ (by first | (simp; done) | (simp; omega)) _)
    have hcv := HCV.out _ BU.out
    have HGU : Hid (Glo ((((((w.alloc (.cells #[.slice none 0 0] 81)).alloc (.cells #[.int .i64 0] 3)).alloc (.cells #[.int .i64 0] 3)).alloc (.cells #[.int .i64 0] 3)).alloc (.cells #[] 56)).alloc (.cells #[.slice (some ⟨w.heap.size + 1 + 1 + 1 + 1, 0, none⟩) 0 0] 81))) := HE.out.on BU.out
    have HH : Hid (∀ u', Below ((((((w.alloc (.cells #[.slice none 0 0] 81)).alloc (.cells #[.int .i64 0] 3)).alloc (.cells #[.int .i64 0] 3)).alloc (.cells #[.int .i64 0] 3)).alloc (.cells #[] 56)).alloc (.cells #[.slice (some ⟨w.heap.size + 1 + 1 + 1 + 1, 0, none⟩) 0 0] 81)).heap.size ((((((w.alloc (.cells #[.slice none 0 0] 81)).alloc (.cells #[.int .i64 0] 3)).alloc (.cells #[.int .i64 0] 3)).alloc (.cells #[.int .i64 0] 3)).alloc (.cells #[] 56)).alloc (.cells #[.slice (some ⟨w.heap.size + 1 + 1 + 1 + 1, 0, none⟩) 0 0] 81)) u' → u'.heap[w.heap.size]? = some (.cells #[.slice none 0 0] 81 (0, 0)) ∧ u'.heap[w.heap.size + 1]? = some (.cells #[.int .i64 0] 3 (0, 0)) ∧ u'.heap[w.heap.size + 2]? = some (.cells #[.int .i64 0] 3 (0, 0)) ∧ u'.heap[w.heap.size + 3]? = some (.cells #[.int .i64 0] 3 (0, 0)) ∧ u'.heap[w.heap.size + 4]? = some (.cells #[] 56 (0, 0)) ∧ u'.heap[w.heap.size + 5]? = some (.cells #[.slice (some ⟨w.heap.size + 4, 0, none⟩) 0 0] 81 (0, 0))) := by
      intro u' hb
      have key : ∀ k, k < 6 → u'.heap[w.heap.size + k]? = (((((((w.alloc (.cells #[.slice none 0 0] 81)).alloc (.cells #[.int .i64 0] 3)).alloc (.cells #[.int .i64 0] 3)).alloc (.cells #[.int .i64 0] 3)).alloc (.cells #[] 56)).alloc (.cells #[.slice (some ⟨w.heap.size + 1 + 1 + 1 + 1, 0, none⟩) 0 0] 81))).heap[w.heap.size + k]? := fun k hk => hb.block _ (by simp; omega)
      obtain ⟨q0, q1, q2, q3, q4, q5⟩ := six_heap w (.cells #[.slice none 0 0] 81) (.cells #[.int .i64 0] 3) (.cells #[.int .i64 0] 3) (.cells #[.int .i64 0] 3) (.cells #[] 56) (.cells #[.slice (some ⟨w.heap.size + 1 + 1 + 1 + 1, 0, none⟩) 0 0] 81)
      exact ⟨(key 0 (by omega)).trans q0, (key 1 (by omega)).trans q1, (key 2 (by omega)).trans q2, (key 3 (by omega)).trans q3, (key 4 (by omega)).trans q4, (key 5 (by omega)).trans q5⟩
    gi_wp2_with (first | (refine ⟨trivial, ?_⟩; gi_at_call 79; refine (callsIn_wide.2 (newLexer_is s _)).mono ?_; rintro e u1 ⟨g, hg, rfl, hst, hb⟩) | (refine ⟨trivial, ?_⟩; gi_at_call 80; refine (callsIn_wide.2 (tokens_is g _)).mono ?_; rintro e u2 ⟨rfl, hu2⟩))
    obtain ⟨V, hV⟩ : ∃ V, V = u1.alloc (.cells #[.pointer (some ⟨g, 0, none⟩)] 109) := ⟨_, rfl⟩
    have BV1 : Below u1.heap.size u1 V := by rw [hV]; exact below_allocL _ _
    have BV : Below w.heap.size w V := BU.out.trans ((hb.mono BU.out.size).trans (BV1.mono (by have := hb.size; have := BU.out.size; omega)))
    have hz : w.heap.size + 6 ≤ g := by simp at hg; omega
    have hg1 : g < u1.heap.size := (Array.getElem?_eq_some_iff.1 hst).1
    have hVz : V.heap.size = u1.heap.size + 1 := by rw [hV]; simp
    have HEV : Glo V := HE.out.on BV
    have hV6 := HH.out V (hb.trans (BV1.mono hb.size))
    have hbx : V.cell? ⟨u1.heap.size, 0, none⟩ = some (.pointer (some ⟨g, 0, none⟩)) := by rw [hV]; exact cell_of_row _ u1.heap.size 0 _ 109 (0, 0) (heap_alloc_new u1 _)
    have h8 : 4 ≤ g := by have := HE.out.big; omega
    rw [← hV]
    refine range_x 4 w.heap.size g u1.heap.size (by decide) HE.out.big BV.size rfl h8 (by omega) (by omega) (by omega) s (by have := HLN.out; omega) hbx (hst.keep BV1) HEV rfl (LxJ w g u1.heap.size) (LxIx w) ?hI ?hIp ?hIxp (fun x W a' W' => W' = W.alloc (.cells #[.int .i64 x.1, .string x.2.1, .int .i64 x.2.2.1, .int .i64 x.2.2.2.1, .int .i64 x.2.2.2.2.1] 56) ∧ a' = { tmps := #[.slice a len cap, undef, .pointer (some ⟨w.heap.size, 0, none⟩), .pointer (some ⟨w.heap.size + 1, 0, none⟩), .pointer (some ⟨w.heap.size + 1 + 1, 0, none⟩), .pointer (some ⟨w.heap.size + 1 + 1 + 1, 0, none⟩), .pointer (some ⟨w.heap.size + 1 + 1 + 1 + 1 + 1, 0, none⟩), .pointer (some ⟨W.heap.size, 0, none⟩), .int .i64 x.2.2.2.2.2, .slice a len cap, .int .i64 len, .bool false, .slice (some ⟨w.heap.size + 1 + 1 + 1 + 1, 0, none⟩) 0 0, .slice a len cap, .string s, .pointer (some ⟨g, 0, none⟩), .func (.func 94) #[] #[.pointer (some ⟨u1.heap.size, 0, none⟩)], .agg #[.int .i64 x.1, .string x.2.1, .int .i64 x.2.2.1, .int .i64 x.2.2.2.1, .int .i64 x.2.2.2.2.1], .int .i64 x.2.2.2.2.2, undef, undef, undef, undef, undef, undef, undef, undef, undef, undef, undef, undef, undef, undef, undef, undef, undef, undef, undef, undef, undef, undef, undef, undef], defers := [] }) ?hassign ?hbody ?hdone ?hstop
    case hI =>
      intro A hA
      have hA6 := HH.out A ((hb.trans (BV1.mono hb.size)).trans (hA.mono (by have := BV1.size; have := hb.size; omega)))
      exact ⟨⟨Pl.GoOn.nil, BV.trans (hA.mono BV.size), hA6.1, hA6.2.1, hA6.2.2.1, hA6.2.2.2.1, _, hA6.2.2.2.2.2, empty_own hA6.2.2.2.2.1 (Nat.le_refl _)⟩, (hA.block _ (by omega)).trans (by rw [hV]; exact heap_alloc_new u1 _)⟩
    case hIp =>
      intro pre A l o o' hi h1 h2 h3 h4
      refine hi.other (putObj_below (Below.refl _ _) (by have := BV.size; omega) _) (World.putObj_heap_other (by omega)) fun b cs t hc _ => World.putObj_heap_other fun e => ?_
      subst e
      rw [h3] at hc
      cases hc
      cases h4
    case hIxp =>
      intro pre A l o o' hi h1 h2 h3 h4
      refine hi.other (putObj_below (Below.refl _ _) (by have := BV.size; omega) _) fun b cs t hc _ => World.putObj_heap_other fun e => ?_
      subst e
      rw [h3] at hc
      cases hc
      cases h4
    case hassign =>
      intro l kd S N A B f W K hK
      gi_wp2
      exact hK _ _ (below_allocL _ _) ⟨rfl, rfl⟩
    case hbody =>
      rintro l pre kd S N A B f W0 W a' W1 o hl1 hl2 hi hxx hbk hz0 hox hb1 ⟨rfl, rfl⟩
      have hzz := BV.size
      obtain ⟨ol, hol, hol2⟩ := hbk l hl1 hl2
      have holW : W.heap[l]? = some ol := (hox.block l (by omega) (by omega)).trans hol
      have hsz := hox.size
      have hiW : LxI w pre W := hi.1.other (hox.below (by omega) (by omega)) fun b cs t hc ht => hox.block b (Array.getElem?_eq_some_iff.1 hc).1 (by
        rintro rfl
        obtain ⟨k, _, hk⟩ := hxx
        unfold LxSt at hk
        rw [hk] at hc
        cases hc
        revert ht
        decide)
      have hiA : LxI w pre (W.alloc (.cells #[.int .i64 kd, .string S, .int .i64 N, .int .i64 A, .int .i64 B] 56)) := hiW.other ((below_allocL W _).mono (by omega)) fun b cs t hc _ => Below.heap_alloc W _ b (Array.getElem?_eq_some_iff.1 hc).1
      have hiB : LxI w pre ((W.alloc (.cells #[.int .i64 kd, .string S, .int .i64 N, .int .i64 A, .int .i64 B] 56)).putObj l o) := hiA.other (putObj_below (Below.refl _ _) (by omega) _) fun b cs t hc _ => World.putObj_heap_other fun e => by
        subst e
        rw [Below.heap_alloc W _ b (Array.getElem?_eq_some_iff.1 holW).1, holW] at hc
        cases hc
        cases hol2
      have hrow : ((W.alloc (.cells #[.int .i64 kd, .string S, .int .i64 N, .int .i64 A, .int .i64 B] 56)).putObj l o).heap[W.heap.size]? = some (.cells #[.int .i64 kd, .string S, .int .i64 N, .int .i64 A, .int .i64 B] 56 (0, 0)) := (World.putObj_heap_other (by omega)).trans (heap_alloc_new W _)
      have hWbz : W.heap.size < ((W.alloc (.cells #[.int .i64 kd, .string S, .int .i64 N, .int .i64 A, .int .i64 B] 56)).putObj l o).heap.size := by simp
      obtain ⟨Wb, hWb⟩ : ∃ Wb, Wb = ((W.alloc (.cells #[.int .i64 kd, .string S, .int .i64 N, .int .i64 A, .int .i64 B] 56)).putObj l o) := ⟨_, rfl⟩
      rw [← hWb] at hiB hrow hWbz ⊢
      have hWbo : ∀ b, b < W0.heap.size → b ≠ g → b ≠ l → Wb.heap[b]? = W0.heap[b]? := fun b h1 h2 h3 => by
        rw [hWb]
        exact (World.putObj_heap_other h3).trans ((Below.heap_alloc W _ b (by omega)).trans (hox.block b h1 h2))
      have hbxb : Wb.heap[u1.heap.size]? = some (.cells #[.pointer (some ⟨g, 0, none⟩)] 109 (0, 0)) := (hWbo _ (by omega) (by omega) (by omega)).trans hi.2
      clear hWb hiA hiW
      obtain ⟨hgo, hBw, q0, q1, q2, q3, v, q5, hr⟩ := hiB
      have hne : ∀ b, some b = v.ownBlock → w.heap.size + 4 ≤ b ∧ ∃ cs, W0.heap[b]? = some (.cells cs 56 (0, 0)) := by
        obtain ⟨_, _, _, _, _, _, v0, p5, hr0⟩ := hi.1
        have e := (hWbo (w.heap.size + 5) (by omega) (by omega) (by omega)).symm.trans q5
        rw [p5] at e
        cases e
        intro b hb
        rcases hr0.2 with ⟨x, y⟩ | ⟨g', c', cur, x, hlo, hg', _⟩
        · rw [x] at hb
          cases hb
        · rw [x] at hb
          cases hb
          exact ⟨hlo, cur, hg'⟩
      have HGO : Hid (Pl.GoOn pre) := hgo
      have hlen : pre.length ≤ 6000 := by obtain ⟨k, hk, _⟩ := hxx; exact (hk.lx hgo).1
      obtain ⟨i0, hi0, hz0, hz1, hz2⟩ := info_parts infotk
      have HBW : Hid (Below w.heap.size w Wb) := hBw
      have HR : Hid (Wb.ownsRow (w.heap.size + 4) 56 5 v (Pl.toks pre).length (Pl.Tk.all (Pl.toks pre))) := hr
      have hlp : (Pl.toks pre).length = pre.length := by simp [Pl.toks]
      obtain ⟨ra, rc, rfl⟩ : ∃ ra rc, v = .slice ra pre.length rc := by
        rcases hr.2 with ⟨x, y⟩ | ⟨g', c', cur, x, _⟩
        · rw [hlp] at y
          exact ⟨none, 0, by rw [x, y]⟩
        · rw [hlp] at x
          exact ⟨_, _, x⟩
      have c0 : Wb.cell? ⟨W.heap.size, 0, none⟩ = some (.int .i64 kd) := cell_of_row Wb W.heap.size 0 _ 56 (0, 0) hrow
      have c1 : Wb.cell? ⟨W.heap.size, 1, none⟩ = some (.string S) := cell_of_row Wb W.heap.size 1 _ 56 (0, 0) hrow
      have c2 : Wb.cell? ⟨W.heap.size, 2, none⟩ = some (.int .i64 N) := cell_of_row Wb W.heap.size 2 _ 56 (0, 0) hrow
      have c3 : Wb.cell? ⟨W.heap.size, 3, none⟩ = some (.int .i64 A) := cell_of_row Wb W.heap.size 3 _ 56 (0, 0) hrow
      have c4 : Wb.cell? ⟨W.heap.size, 4, none⟩ = some (.int .i64 B) := cell_of_row Wb W.heap.size 4 _ 56 (0, 0) hrow
      have t0 : Wb.cell? ⟨w.heap.size, 0, none⟩ = some (.slice none 0 0) := cell_of_row Wb _ 0 _ 81 (0, 0) q0
      have t1 : Wb.cell? ⟨w.heap.size + 1, 0, none⟩ = some (.int .i64 0) := cell_of_row Wb _ 0 _ 3 (0, 0) q1
      have t2 : Wb.cell? ⟨w.heap.size + 1 + 1, 0, none⟩ = some (.int .i64 0) := cell_of_row Wb _ 0 _ 3 (0, 0) q2
      have t3 : Wb.cell? ⟨w.heap.size + 1 + 1 + 1, 0, none⟩ = some (.int .i64 0) := cell_of_row Wb _ 0 _ 3 (0, 0) q3
      have t5 : Wb.cell? ⟨w.heap.size + 1 + 1 + 1 + 1 + 1, 0, none⟩ = some (.slice ra pre.length rc) := cell_of_row Wb _ 0 _ 81 (0, 0) q5
      have f0 : Wb.frozen? ⟨w.heap.size, 0, none⟩ = false := frozen_of_row Wb _ 0 _ 81 q0
      have f1 : Wb.frozen? ⟨w.heap.size + 1, 0, none⟩ = false := frozen_of_row Wb _ 0 _ 3 q1
      have f2 : Wb.frozen? ⟨w.heap.size + 1 + 1, 0, none⟩ = false := frozen_of_row Wb _ 0 _ 3 q2
      have f3 : Wb.frozen? ⟨w.heap.size + 1 + 1 + 1, 0, none⟩ = false := frozen_of_row Wb _ 0 _ 3 q3
      have f5 : Wb.frozen? ⟨w.heap.size + 1 + 1 + 1 + 1 + 1, 0, none⟩ = false := frozen_of_row Wb _ 0 _ 81 q5
      have HQ : Hid (Wb.heap[w.heap.size]? = some (.cells #[.slice none 0 0] 81 (0, 0)) ∧ Wb.heap[w.heap.size + 1]? = some (.cells #[.int .i64 0] 3 (0, 0)) ∧ Wb.heap[w.heap.size + 1 + 1]? = some (.cells #[.int .i64 0] 3 (0, 0)) ∧ Wb.heap[w.heap.size + 1 + 1 + 1]? = some (.cells #[.int .i64 0] 3 (0, 0)) ∧ Wb.heap[w.heap.size + 1 + 1 + 1 + 1 + 1]? = some (.cells #[.slice ra pre.length rc] 81 (0, 0))) := ⟨q0, q1, q2, q3, q5⟩
      have HROW : Hid _ := hrow
      have HNE : Hid (∀ b, some b = (Value.slice ra pre.length rc).ownBlock → w.heap.size + 4 ≤ b ∧ ∃ cs, W0.heap[b]? = some (.cells cs 56 (0, 0))) := hne
      have HI : Hid (LxJ w g u1.heap.size pre W0) := hi
      have HXX : Hid (∃ k, LxSt g s k W0) := by obtain ⟨k, _, hk⟩ := hxx; exact ⟨k, hk⟩
      have HBK : Hid (∀ b, V.heap.size ≤ b → b < V.heap.size + 2 → ∃ o', W0.heap[b]? = some o' ∧ o'.isCells = false) := hbk
      have HBX : Hid (Wb.heap[u1.heap.size]? = some (.cells #[.pointer (some ⟨g, 0, none⟩)] 109 (0, 0))) := hbxb
      have HSX : Hid (∀ w6 : World, (Wb.alloc (.cells #[.int .i64 kd, .string S, .int .i64 N, .int .i64 A, .int .i64 B] 56)).grownBy w6 (Value.slice ra pre.length rc).ownBlock → w6.heap[w.heap.size + 1 + 1 + 1 + 1 + 1]? = some (.cells #[.slice ra pre.length rc] 81 (0, 0))) := fun w6 hg6 => by
        have h5 := (Array.getElem?_eq_some_iff.1 q5).1
        refine (hg6.block _ (by simp; omega) fun e => ?_).trans ((Below.heap_alloc Wb _ _ h5).trans q5)
        obtain ⟨_, cs, h3⟩ := hne _ e
        obtain ⟨_, _, _, _, _, _, v0, p5, _⟩ := hi.1
        rw [p5] at h3
        cases h3
      clear hgo hBw hr q0 q1 q2 q3 q5 hrow hi hxx hbk hne hbxb hWbo hox hb1 hol holW hV6 hbx HEV hst BV BV1 hb hcv
      by_cases hf : f = 0
      rotate_left
      · have e1 : (f == 0) = false := by simpa using hf
        have e2 : (f != 0) = true := by simpa using hf
        have HF : Hid (f ≠ 0) := hf
        clear hf
        gi_wp2
        refine wpIn_region_any (by kernel_rfl) ?_
        change wpAnyIn _ _ _ _ LzrOps _ 9 (Array.replicate 9 false) _ (World.drew _)
        obtain ⟨X4, hX4⟩ : ∃ X4, X4 = ((((Wb.drew).setCell ⟨w.heap.size, 0, none⟩ (.slice none 0 0)).setCell ⟨w.heap.size + 1, 0, none⟩ (.int .i64 f)).setCell ⟨w.heap.size + 1 + 1, 0, none⟩ (.int .i64 A)).setCell ⟨w.heap.size + 1 + 1 + 1, 0, none⟩ (.int .i64 B) := ⟨_, rfl⟩
        refine lex_reg10 (l := l) rfl w.heap.size W.heap.size f A B _ _ _ _ _ _ _ _ _ _ _ _ _ _ _ _ _ _ _ _ _ _ _ _ _ _ _ _ _ _ _ _ Wb X4 c3 c4 (by omega) t0 t1 t2 t3 f0 f1 f2 f3 hX4 ?_
        obtain ⟨p0, p1, p2, p3, po, pb⟩ := four_set Wb.drew w.heap.size _ _ _ _ _ _ _ _ HQ.out.1 HQ.out.2.1 HQ.out.2.2.1 HQ.out.2.2.2.1 hX4
        have HCD : Hid (Pl.cod pre.length (kd, S, N, A, B, f) = f) := by unfold Hid Pl.cod; exact if_neg fun q => HF.out q.1
        have HP : Hid _ := And.intro p0 (And.intro p1 (And.intro p2 p3))
        have HPO : Hid _ := po
        have HPB : Hid _ := pb
        clear p0 p1 p2 p3 po pb hX4
        gi_wp2
        refine ⟨fun b hb1 hb2 => HPO.out b (.inr (by omega)), pre, _, rfl, HGO.out, ?_, HBW.out.trans ((Below.drew (Below.refl _ _)).trans HPB.out), HP.out.1, ?_, HP.out.2.2.1, HP.out.2.2.2⟩
        · rw [HCD.out]; exact HF.out
        · rw [HCD.out]; exact HP.out.2.1
      · subst hf
        by_cases hk6 : kd ≠ 0 ∧ pre.length = 6000
        · have ek : (kd != 0) = true := by simpa using hk6.1
          have ek' : (kd == 0) = false := by simpa using hk6.1
          have e6 : ((pre.length : Int) == 6000) = true := by rw [hk6.2]; rfl
          have HK6 : Hid (kd ≠ 0 ∧ pre.length = 6000) := hk6
          clear hk6
          gi_wp2
          refine wpIn_region_any (by kernel_rfl) ?_
          change wpAnyIn _ _ _ _ LzrOps _ 9 (Array.replicate 9 false) _ (World.drew _)
          obtain ⟨X4, hX4⟩ : ∃ X4, X4 = ((((Wb.drew).setCell ⟨w.heap.size, 0, none⟩ (.slice none 0 0)).setCell ⟨w.heap.size + 1, 0, none⟩ (.int .i64 9)).setCell ⟨w.heap.size + 1 + 1, 0, none⟩ (.int .i64 A)).setCell ⟨w.heap.size + 1 + 1 + 1, 0, none⟩ (.int .i64 B) := ⟨_, rfl⟩
          refine lex_reg10 (l := l) rfl w.heap.size W.heap.size 9 A B _ _ _ _ _ _ _ _ _ _ _ _ _ _ _ _ _ _ _ _ _ _ _ _ _ _ _ _ _ _ _ _ Wb X4 c3 c4 (by omega) t0 t1 t2 t3 f0 f1 f2 f3 hX4 ?_
          obtain ⟨p0, p1, p2, p3, po, pb⟩ := four_set Wb.drew w.heap.size _ _ _ _ _ _ _ _ HQ.out.1 HQ.out.2.1 HQ.out.2.2.1 HQ.out.2.2.2.1 hX4
          have HCD : Hid (Pl.cod pre.length (kd, S, N, A, B, 0) = 9) := by unfold Hid Pl.cod; exact if_pos ⟨rfl, HK6.out.1, HK6.out.2⟩
          have HP : Hid _ := And.intro p0 (And.intro p1 (And.intro p2 p3))
          have HPO : Hid _ := po
          have HPB : Hid _ := pb
          clear p0 p1 p2 p3 po pb hX4
          gi_wp2
          refine ⟨fun b hb1 hb2 => HPO.out b (.inr (by omega)), pre, _, rfl, HGO.out, ?_, HBW.out.trans ((Below.drew (Below.refl _ _)).trans HPB.out), HP.out.1, ?_, HP.out.2.2.1, HP.out.2.2.2⟩
          · rw [HCD.out]; decide
          · rw [HCD.out]; exact HP.out.2.1
        have HX : Hid ((Wb.alloc (.cells #[.int .i64 kd, .string S, .int .i64 N, .int .i64 A, .int .i64 B] 56)).ownsRow (w.heap.size + 4) 56 5 (.slice ra pre.length rc) (Pl.toks pre).length (Pl.Tk.all (Pl.toks pre))) := HR.out.alloc _
        have NX : Hid _ := row5 Wb (.int .i64 kd) (.string S) (.int .i64 N) (.int .i64 A) (.int .i64 B)
        have HC : Hid (Pl.cod pre.length (kd, S, N, A, B, 0) = 0) := by unfold Hid Pl.cod; exact if_neg fun q => hk6 ⟨q.2.1, q.2.2⟩
        by_cases hk0 : kd = 0
        · have ek : (kd != 0) = false := by simp [hk0]
          clear hk6 hk0
          gi_wp2_with (gi_at_builtin; refine wpListIn_append_own _ rfl (.tmp 38) (.tmp 40) 81 rfl (w.heap.size + 4) 56 i0 (.agg #[.int .i64 0, .string ⟨#[]⟩, .int .i64 0, .int .i64 0, .int .i64 0]) 5 48 Tryz.underlying81 hi0 hz0 hz1 hz2 rfl (by decide) _ _ _ rfl HX.out ⟨Wb.heap.size, 0, none⟩ 1 1 [.int .i64 kd, .string S, .int .i64 N, .int .i64 A, .int .i64 B] rfl rfl NX.out (by intro u hu; simp at hu; rcases hu with rfl | rfl | rfl | rfl | rfl <;> rfl) (by unfold maxLen; rw [hlp]; omega) (by rw [hlp]; omega) (by have := HBW.out.size; simp; omega) ?_; intro v6 w6 hown6 hgrow6 _; obtain ⟨r6, cp6, rfl⟩ := own_formG hown6; have s6 := HSX.out w6 hgrow6; have c6 : w6.cell? ⟨w.heap.size + 1 + 1 + 1 + 1 + 1, 0, none⟩ = some (.slice ra pre.length rc) := cell_of_row w6 _ 0 _ 81 (0, 0) s6; have f6 : w6.frozen? ⟨w.heap.size + 1 + 1 + 1 + 1 + 1, 0, none⟩ = false := frozen_of_row w6 _ 0 _ 81 s6; have HG6 : Hid ((Wb.alloc (.cells #[.int .i64 kd, .string S, .int .i64 N, .int .i64 A, .int .i64 B] 56)).grownBy w6 (Value.slice ra pre.length rc).ownBlock) := hgrow6; have HO6 : Hid _ := hown6; clear s6 hgrow6 hown6)
          exact lex_next w W0 Wb w6 V.heap.size g u1.heap.size pre kd S N A B ra r6 rc cp6 HI.out HXX.out HBK.out (by omega) (by omega) hz (by omega) (by omega) HBW.out HBX.out HQ.out.1 HQ.out.2.1 HQ.out.2.2.1 HQ.out.2.2.2.1 HQ.out.2.2.2.2 HNE.out HG6.out HO6.out HGO.out HC.out (by rw [hlp])
        · have ek : (kd != 0) = true := by simpa using hk0
          have ek' : (kd == 0) = false := by simpa using hk0
          have e6 : ((pre.length : Int) == 6000) = false := by
            have : pre.length ≠ 6000 := fun q => hk6 ⟨hk0, q⟩
            simp
            omega
          clear hk6 hk0
          gi_wp2_with (gi_at_builtin; refine wpListIn_append_own _ rfl (.tmp 38) (.tmp 40) 81 rfl (w.heap.size + 4) 56 i0 (.agg #[.int .i64 0, .string ⟨#[]⟩, .int .i64 0, .int .i64 0, .int .i64 0]) 5 48 Tryz.underlying81 hi0 hz0 hz1 hz2 rfl (by decide) _ _ _ rfl HX.out ⟨Wb.heap.size, 0, none⟩ 1 1 [.int .i64 kd, .string S, .int .i64 N, .int .i64 A, .int .i64 B] rfl rfl NX.out (by intro u hu; simp at hu; rcases hu with rfl | rfl | rfl | rfl | rfl <;> rfl) (by unfold maxLen; rw [hlp]; omega) (by rw [hlp]; omega) (by have := HBW.out.size; simp; omega) ?_; intro v6 w6 hown6 hgrow6 _; obtain ⟨r6, cp6, rfl⟩ := own_formG hown6; have s6 := HSX.out w6 hgrow6; have c6 : w6.cell? ⟨w.heap.size + 1 + 1 + 1 + 1 + 1, 0, none⟩ = some (.slice ra pre.length rc) := cell_of_row w6 _ 0 _ 81 (0, 0) s6; have f6 : w6.frozen? ⟨w.heap.size + 1 + 1 + 1 + 1 + 1, 0, none⟩ = false := frozen_of_row w6 _ 0 _ 81 s6; have HG6 : Hid ((Wb.alloc (.cells #[.int .i64 kd, .string S, .int .i64 N, .int .i64 A, .int .i64 B] 56)).grownBy w6 (Value.slice ra pre.length rc).ownBlock) := hgrow6; have HO6 : Hid _ := hown6; clear s6 hgrow6 hown6)
          exact lex_next w W0 Wb w6 V.heap.size g u1.heap.size pre kd S N A B ra r6 rc cp6 HI.out HXX.out HBK.out (by omega) (by omega) hz (by omega) (by omega) HBW.out HBX.out HQ.out.1 HQ.out.2.1 HQ.out.2.2.1 HQ.out.2.2.2.1 HQ.out.2.2.2.2 HNE.out HG6.out HO6.out HGO.out HC.out (by rw [hlp])
    case hdone =>
      intro pre k x W hp hx hi0' hD
      have hi := hi0'.1
      clear hi0'
      obtain ⟨hgo, hBw, q0, q1, q2, q3, v, q5, hr⟩ := hi
      have t0 : W.cell? ⟨w.heap.size, 0, none⟩ = some (.slice none 0 0) := cell_of_row W _ 0 _ 81 (0, 0) q0
      have t1 : W.cell? ⟨w.heap.size + 1, 0, none⟩ = some (.int .i64 0) := cell_of_row W _ 0 _ 3 (0, 0) q1
      have t2 : W.cell? ⟨w.heap.size + 1 + 1, 0, none⟩ = some (.int .i64 0) := cell_of_row W _ 0 _ 3 (0, 0) q2
      have t3 : W.cell? ⟨w.heap.size + 1 + 1 + 1, 0, none⟩ = some (.int .i64 0) := cell_of_row W _ 0 _ 3 (0, 0) q3
      obtain ⟨ra, rc, rfl⟩ := own_formG hr
      have t5 : W.cell? ⟨w.heap.size + 1 + 1 + 1 + 1 + 1, 0, none⟩ = some (.slice ra (Pl.toks (pre ++ [x])).length rc) := cell_of_row W _ 0 _ 81 (0, 0) q5
      have f0 : W.frozen? ⟨w.heap.size, 0, none⟩ = false := frozen_of_row W _ 0 _ 81 q0
      have f1 : W.frozen? ⟨w.heap.size + 1, 0, none⟩ = false := frozen_of_row W _ 0 _ 3 q1
      have f2 : W.frozen? ⟨w.heap.size + 1 + 1, 0, none⟩ = false := frozen_of_row W _ 0 _ 3 q2
      have f3 : W.frozen? ⟨w.heap.size + 1 + 1 + 1, 0, none⟩ = false := frozen_of_row W _ 0 _ 3 q3
      have HLX : Hid (Pl.Lx s 0 [] (Pl.toks (pre ++ [x]), 0, 0, 0)) := Pl.lx_done hp hx hgo
      have HR : Hid (W.ownsRow (w.heap.size + 4) 56 5 (.slice ra (Pl.toks (pre ++ [x])).length rc) (Pl.toks (pre ++ [x])).length (Pl.Tk.all (Pl.toks (pre ++ [x])))) := hr
      have HBW : Hid (Below w.heap.size w W) := hBw
      have HD : Hid (W.heap[V.heap.size]? = some (.deferred (some []))) := hD
      have HQ : Hid _ := And.intro q0 (And.intro q1 (And.intro q2 q3))
      have HVZ : Hid (w.heap.size + 4 ≤ V.heap.size) := by show w.heap.size + 4 ≤ V.heap.size; omega
      clear hr hBw hD q0 q1 q2 q3 q5 hp hx hgo hV6 hbx HEV hst BV1 hb hcv
      gi_wp2
      obtain ⟨p0, p1, p2, p3, po, pb⟩ := four_set W w.heap.size _ _ _ _ _ _ _ _ HQ.out.1 HQ.out.2.1 HQ.out.2.2.1 HQ.out.2.2.2 rfl
      exact lex_leave 4 s w _ V.heap.size _ (Pl.toks (pre ++ [x])) 0 0 0 _ rfl rfl rfl rfl p0 p1 p2 p3 (own_mono (own_other HR.out fun b cs hb _ => po b (.inr hb)) (by omega)) ((po _ (.inr HVZ.out)).trans HD.out) HVZ.out (HBW.out.trans (pb.mono (Nat.le_refl _))) (.inr ⟨by rw [HLN.out]; exact HSM.out, HLX.out⟩)
    case hstop =>
      intro pre x W hx hi hD
      obtain ⟨pre', x', e, hgo, hc, hBw, q0, q1, q2, q3⟩ := hi
      obtain ⟨e1', e2'⟩ := List.append_inj' e rfl
      subst e1'
      simp only [List.cons.injEq, and_true] at e2'
      subst e2'
      have HLX : Hid (Pl.Lx s 0 [] ([], Pl.cod pre.length x, x.2.2.2.1, x.2.2.2.2.1)) := Pl.lx_stop hx hgo hc
      have HQ : Hid _ := And.intro q0 (And.intro q1 (And.intro q2 q3))
      have HBW : Hid (Below w.heap.size w W) := hBw
      have HD : Hid (W.heap[V.heap.size]? = some (.deferred (some []))) := hD
      have HVZ : Hid (w.heap.size + 4 ≤ V.heap.size) := by show w.heap.size + 4 ≤ V.heap.size; omega
      clear hBw hD q0 q1 q2 q3 hx hgo hc hV6 hbx HEV hst BV1 hb hcv e
      gi_wp2
      exact lex_leave 4 s w _ V.heap.size _ [] _ _ _ _ rfl rfl rfl rfl HQ.out.1 HQ.out.2.1 HQ.out.2.2.1 HQ.out.2.2.2 (World.ownsRow_nil _ _ _ _) HD.out HVZ.out HBW.out (.inr ⟨by rw [HLN.out]; exact HSM.out, HLX.out⟩)
end Go.Proofs.YteadglnenaiaaaaGreatDoor.W
namespace Go.Proofs.YteadglnenaiaaaaGreatDoor.W
open Go.RowKit
end Go.Proofs.YteadglnenaiaaaaGreatDoor.W
namespace Go.Proofs.YteadglnenaiaaaaGreatDoor.W
open Go.RowKit
end Go.Proofs.YteadglnenaiaaaaGreatDoor.W
