import Derived.Test.YtcgfgmlfbgbkfaaGreatDoorL22
set_option linter.unusedVariables false
set_option linter.unusedSimpArgs false
namespace Go.Proofs.YtcgfgmlfbgbkfaaGreatDoor.Pl
/-- the least number of a set, or another -/
def firstW (ws : List Nat) (d : Int) : Int := match allW ws with | [] => d | q :: _ => (q : Int)
end Go.Proofs.YtcgfgmlfbgbkfaaGreatDoor.Pl
namespace Go.Proofs.YtcgfgmlfbgbkfaaGreatDoor.W
open Go.RowKit Go.Shelf
attribute [local go_sem] Oper.semAt_some
/-- first at work -/
structure FI (w : World) (d : Int) (g k c : Nat) (ws : List Nat) (A : World) : Prop where
  bel : Below w.heap.size w A
  res : A.heap[w.heap.size]? = some (.cells #[.int .i64 d] 108 (0, 0))
  st : SetAt A (w.heap.size + 1) g k c ws
theorem FI.put {w : World} {d : Int} {g k c : Nat} {ws : List Nat} {A : World} (h : FI w d g k c ws A) {r : Nat} {o o' : Obj} (hr : w.heap.size ≤ r) (ho : A.heap[r]? = some o') (hc : o'.isCells = false) : FI w d g k c ws (A.putObj r o) :=
  ⟨putObj_belowB h.bel hr _, (World.putObj_heap_other (ne_of_kind h.res ho hc)).trans h.res, h.st.put ho hc⟩
def FX (w : World) (z : Int) (A : World) : Prop := Below w.heap.size w A ∧ A.heap[w.heap.size]? = some (.cells #[.int .i64 z] 108 (0, 0))
theorem FX.put {w : World} {z : Int} {A : World} (h : FX w z A) {r : Nat} {o o' : Obj} (hr : w.heap.size ≤ r) (ho : A.heap[r]? = some o') (hc : o'.isCells = false) : FX w z (A.putObj r o) :=
  ⟨putObj_belowB h.1 hr _, (World.putObj_heap_other (ne_of_kind h.2 ho hc)).trans h.2⟩
theorem shS_below {w W W' : World} (hb : Below w.heap.size w W) (hs : Sh w.heap.size W W') : Below w.heap.size w W' := ⟨hs.os.trans hb.os, hs.tape.trans hb.tape, hs.output.trans hb.output, by rw [hs.size]; exact hb.size, fun k hk => (hs.block k (.inl hk)).trans (hb.block k hk)⟩
theorem load_oneS (w : World) (b : Nat) (v : Value) (h : w.cell? ⟨b, 0, none⟩ = some v) : (loadVar 108 ⟨b, 0, none⟩).run Tryz.prog w = .ok v w := by
  simp [loadVar, go_sem, Tryz.underlying108, h]
theorem results_cellS {fn : Func} {p : Tmp} (h : fn.results = #[.cell p 108]) (tmps : Array Value) (w : World) (b0 : Nat) (v0 : Value)
    (hp : tmps.getD p undef = .pointer (some ⟨b0, 0, none⟩)) (h0 : w.cell? ⟨b0, 0, none⟩ = some v0) :
    (results fn tmps).run Tryz.prog w = .ok v0 w := by
  have hp' : tmps[p]?.getD undef = .pointer (some ⟨b0, 0, none⟩) := by simpa using hp
  simp [results, h, hp', asAddr, load_oneS w b0 v0 h0]
/-- the answer that lies in a cell -/
theorem FX.res {w W W' : World} {fn : Func} {p : Tmp} {tmps : Array Value} {z : Int} (h : FX w z W) (hf : fn.results = #[.cell p 108]) (ht : tmps.getD p undef = .pointer (some ⟨w.heap.size, 0, none⟩)) (hs : Sh w.heap.size W W') : ∃ v, (results fn tmps).run Tryz.prog W' = .ok v W' ∧ Ending.returned v = .returned (.int .i64 z) ∧ Below w.heap.size w W' :=
  ⟨_, results_cellS hf _ _ _ _ ht (cell_of_row W' w.heap.size 0 _ 108 (0, 0) ((hs.block _ (.inr ⟨_, _, _, h.2⟩)).trans h.2)), rfl, shS_below h.1 hs⟩
set_option maxHeartbeats 8000000 in
set_option maxRecDepth 100000 in
theorem first_is {lo : Nat} (g k c : Nat) (ws : List Nat) (hs : Pl.smallW ws) (hk : ws.length = k) (hk2 : k ≤ 1000) (d : Int) (w : World) (ho : w.ownsRow lo 110 1 (.slice (some ⟨g, 0, none⟩) k c) k (Pl.wsV ws)) (hT : TabT w) (hTl : 0 < w.heap.size) :
    Calls Tryz.prog 74 #[.slice (some ⟨g, 0, none⟩) k c, .int .i64 d] w fun e w' => e = .returned (.int .i64 (Pl.firstW ws d)) ∧ Below w.heap.size w w' := by
  have H0 : Hid (Pl.smallW ws ∧ ws.length = k) := ⟨hs, hk⟩
  obtain ⟨V, hV⟩ : ∃ V, V = (w.alloc (.cells #[.int .i64 0] 108)).alloc (.cells #[.slice (some ⟨g, 0, none⟩) k c] 105) := ⟨_, rfl⟩
  have hVz : V.heap.size = w.heap.size + 2 := by rw [hV]; simp
  have HFI : Hid (∀ A, Below V.heap.size V A → FI w 0 g k c ws A) := fun A hA => by
    have hg := (ho.lt g rfl).2
    have b1 : Below w.heap.size w V := by rw [hV]; exact (below_alloc w _).trans ((below_alloc _ _).mono (by simp))
    have b2 : Below w.heap.size w A := b1.trans (hA.mono b1.size)
    refine ⟨b2, ?_, ?_, fun i hi => ?_, hT.keep hTl b2⟩
    · rw [hA.block _ (by omega), hV]
      exact ((below_alloc _ _).block _ (by simp)).trans (heap_alloc_new w _)
    · rw [hA.cell (p := ⟨w.heap.size + 1, 0, none⟩) (show w.heap.size + 1 < V.heap.size by omega), hV]
      have := cell_of_row _ (w.alloc (.cells #[.int .i64 0] 108)).heap.size 0 _ 105 (0, 0) (heap_alloc_new (w.alloc (.cells #[.int .i64 0] 108)) (.cells #[.slice (some ⟨g, 0, none⟩) k c] 105))
      simp at this
      simp
    · rw [b2.cell (p := ⟨g, i, none⟩) hg, ho.cellAt i (by omega)]; exact Pl.wsV_at ws _ (by omega)
  have HVZ : Hid (V.heap.size = w.heap.size + 2) := hVz
  clear hs hk ho hT hTl hVz
  refine (callsIn_wide (n := 4)).1 ?_
  refine callsIn_of_wp_marks Tryz.func74 rfl trivial ?_ rfl
  simp only [Tryz.ntmps74, List.size_toArray, List.length_cons, List.length_nil, Nat.reduceAdd, Nat.reduceSub, Array.replicate_succ, Array.replicate_zero, List.push_toArray, List.append_toArray, List.nil_append, List.cons_append]
  gi_wp2_with (refine ⟨trivial, ?_⟩; gi_at_call 64; refine (callsIn_wide.2 (allS_is _ _ _ _)).mono ?_; rintro e u3 ⟨rfl, hu3⟩; rw [hu3]; clear hu3 u3)
  rw [← hV]
  clear hV
  refine rangeS_is 4 (w.heap.size + 1) (by decide) rfl rfl g k c ws H0.out.1 H0.out.2 (by omega) (fun acc A => acc = [] ∧ FI w 0 g k c ws A) (fun A => ∃ q rest, Pl.allW ws = q :: rest ∧ FX w (q : Int) A) ?hJ ?h0 ?hIp ?hIxp (fun q A a' A' => a' = { tmps := #[.slice (some ⟨g, 0, none⟩) k c, .int .i64 d, undef, undef, .pointer (some ⟨w.heap.size, 0, none⟩), .int .i64 (q : Int), .slice (some ⟨g, 0, none⟩) k c, .func (.func 97) #[] #[.pointer (some ⟨w.heap.size + 1, 0, none⟩)], .int .i64 (q : Int), undef, undef], defers := [] } ∧ A' = A) ?hassign ?hbody ?hdone ?hstop
  case hJ => rintro acc A ⟨_, h⟩; exact h.st
  case h0 => intro A hA _; exact ⟨rfl, HFI.out A hA⟩
  case hIp => rintro acc A r o o' ⟨e, h⟩ h1 h2 h3 h4; exact ⟨e, h.put (by have := HVZ.out; omega) h3 h4⟩
  case hIxp => rintro A r o o' ⟨q, rest, e, h⟩ h1 h2 h3 h4; exact ⟨q, rest, e, h.put (by have := HVZ.out; omega) h3 h4⟩
  case hassign =>
    intro r q A K hK
    gi_wp2
    exact hK _ _ (Below.refl _ _) ⟨rfl, rfl⟩
  case hbody =>
    rintro r acc q rest A a' A1 o hacc hr1 hr2 ⟨rfl, hfi⟩ hbk hb1 ⟨rfl, rfl⟩
    obtain ⟨o', ho', hoc⟩ := hbk r hr1 hr2
    have hU := hfi.put (o := o) (by have := HVZ.out; omega) ho' hoc
    obtain ⟨U, hUU⟩ : ∃ U, U = A1.putObj r o := ⟨_, rfl⟩
    rw [← hUU] at hU ⊢
    have HU : Hid (FI w 0 g k c ws U ∧ Pl.allW ws = q :: rest) := ⟨hU, hacc.symm⟩
    have t4 : U.cell? ⟨w.heap.size, 0, none⟩ = some (.int .i64 0) := cell_of_row U _ 0 _ 108 (0, 0) hU.res
    have f4 : U.frozen? ⟨w.heap.size, 0, none⟩ = false := frozen_of_row U _ 0 _ 108 hU.res
    clear hfi hbk hb1 ho' hU hUU hacc
    gi_wp2
    refine ⟨fun b h1 h2 => heap_setCell_other U ⟨w.heap.size, 0, none⟩ b _ (by have := HVZ.out; show b ≠ w.heap.size; omega), q, rest, HU.out.2, HU.out.1.bel.setCell (Nat.le_refl _) _, ?_⟩
    rw [heap_setCell_same U w.heap.size 0 _ 108 _ HU.out.1.res]; rfl
  case hdone =>
    rintro A ⟨e, hfi⟩ hD
    have HA : Hid (FI w 0 g k c ws A ∧ Pl.allW ws = [] ∧ A.heap[V.heap.size]? = some (.deferred (some []))) := ⟨hfi, e, hD⟩
    have t4 : A.cell? ⟨w.heap.size, 0, none⟩ = some (.int .i64 0) := cell_of_row A _ 0 _ 108 (0, 0) hfi.res
    have f4 : A.frozen? ⟨w.heap.size, 0, none⟩ = false := frozen_of_row A _ 0 _ 108 hfi.res
    have HX : Hid (FX w d (A.setCell ⟨w.heap.size, 0, none⟩ (.int .i64 d))) := ⟨hfi.bel.setCell (Nat.le_refl _) _, by rw [heap_setCell_same A w.heap.size 0 _ 108 _ hfi.res]; rfl⟩
    clear hfi hD e
    gi_wp2
    refine leaves_marks (lo := w.heap.size) [V.heap.size] _ (by simp) (fun D hD => ?_) fun w' hs => ?_
    · rw [List.mem_singleton] at hD; subst hD
      have hz := HVZ.out
      exact ⟨by omega, (heap_setCell_other A ⟨w.heap.size, 0, none⟩ _ _ (show V.heap.size ≠ w.heap.size by omega)).trans HA.out.2.2⟩
    · unfold Pl.firstW
      rw [HA.out.2.1]
      exact HX.out.res (p := 4) rfl rfl hs
  case hstop =>
    rintro A ⟨q, rest, e, hfx⟩ hD
    have HX : Hid (FX w (q : Int) A ∧ Pl.allW ws = q :: rest ∧ A.heap[V.heap.size]? = some (.deferred (some []))) := ⟨hfx, e, hD⟩
    clear hfx hD e
    gi_wp2
    refine leaves_marks (lo := w.heap.size) [V.heap.size] _ (by simp) (fun D hD => ?_) fun w' hs => ?_
    · rw [List.mem_singleton] at hD; subst hD
      have hz := HVZ.out
      exact ⟨by omega, HX.out.2.2⟩
    · unfold Pl.firstW
      rw [HX.out.2.1]
      exact HX.out.1.res (p := 4) rfl rfl hs
end Go.Proofs.YtcgfgmlfbgbkfaaGreatDoor.W
