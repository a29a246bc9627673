import Derived.Test.YtfcfnbncgadomaaQ15
import Derived.Deep.RegionWith
set_option linter.unusedVariables false
namespace Go.Proofs.Ytfcfnbncgadomaa.W
open Go.RowKit
set_option maxHeartbeats 4000000 in
theorem load1_good (v : MV) (m : Pl.Mac) (kind at_ : Int) (gm gk ga gw : Nat) (w : World) (hm : w.heap[gm]? = some (.cells #[.slice v.code.a v.code.len v.code.cap, .int .i64 m.pc, .slice v.regs.a v.regs.len v.regs.cap, .slice v.data.a v.data.len v.data.cap, .slice v.stk.a v.stk.len v.stk.cap, .slice v.inp.a v.inp.len v.inp.cap, .slice v.out.a v.out.len v.out.cap, .int .i64 m.steps, .int .i64 m.fin, .int .i64 m.val] 25)) (hk : w.heap[gk]? = some (.cells #[.int .i64 kind] 3)) (ha : w.heap[ga]? = some (.cells #[.int .i64 at_] 3)) (hw : w.heap[gw]? = some (.cells #[.int .i64 0] 3)) (val : Int)
    (HL : Hid (∀ W, Below w.heap.size w W → Calls Try.prog 36 #[.agg #[.iface 88 (.slice v.data.a v.data.len v.data.cap), .iface 89 (.slice v.stk.a v.stk.len v.stk.cap)], .int .i64 kind, .int .i64 at_] W fun e w' => e = .returned (.int .i64 val) ∧ Below W.heap.size W w')) :
    Calls Try.prog 35 #[.pointer (some ⟨gm, 0, none⟩), .pointer (some ⟨gk, 0, none⟩), .pointer (some ⟨ga, 0, none⟩), .pointer (some ⟨gw, 0, none⟩)] w fun e w' => e = .returned (.tuple #[]) ∧ ∃ u, w' = u.setCell ⟨gw, 0, none⟩ (.int .i64 val) ∧ Below w.heap.size w u := by
  have LM : gm < w.heap.size := (Array.getElem?_eq_some_iff.1 hm).1
  have LK : gk < w.heap.size := (Array.getElem?_eq_some_iff.1 hk).1
  have LA : ga < w.heap.size := (Array.getElem?_eq_some_iff.1 ha).1
  have LW : gw < w.heap.size := (Array.getElem?_eq_some_iff.1 hw).1
  have KK : Hid (∀ u : World, Below w.heap.size w u → u.cell? ⟨gk, 0, none⟩ = some (.int .i64 kind)) := fun u hu => (hu.cell (by exact LK)).trans (cell_of_row w gk 0 _ 3 (0, 0) hk)
  have KA : Hid (∀ u : World, Below w.heap.size w u → u.cell? ⟨ga, 0, none⟩ = some (.int .i64 at_)) := fun u hu => (hu.cell (by exact LA)).trans (cell_of_row w ga 0 _ 3 (0, 0) ha)
  have KW : Hid (∀ u : World, Below w.heap.size w u → u.cell? ⟨gw, 0, none⟩ = some (.int .i64 0)) := fun u hu => (hu.cell (by exact LW)).trans (cell_of_row w gw 0 _ 3 (0, 0) hw)
  have KF : Hid (∀ u : World, Below w.heap.size w u → u.frozen? ⟨gw, 0, none⟩ = false) := fun u hu => (hu.frozen (by exact LW)).trans (frozen_of_row w gw 0 _ 3 hw)
  have km : ∀ j, w.cell? ⟨gm, j, none⟩ = (#[.slice v.code.a v.code.len v.code.cap, .int .i64 m.pc, .slice v.regs.a v.regs.len v.regs.cap, .slice v.data.a v.data.len v.data.cap, .slice v.stk.a v.stk.len v.stk.cap, .slice v.inp.a v.inp.len v.inp.cap, .slice v.out.a v.out.len v.out.cap, .int .i64 m.steps, .int .i64 m.fin, .int .i64 m.val] : Array Value)[j]? := fun j => cell_of_row w gm j _ 25 (0, 0) hm
  have kk := KK.out w (Below.refl _ _)
  have ka := KA.out w (Below.refl _ _)
  clear hm hk ha hw LM LK LA LW
  go_enter Try.func35, Try.ntmps35
  go_wp2_with fail
  go_region_with (first | (go_at_call 30; refine (memoryOf_any v m _).mono ?_; rintro e u1 ⟨rfl, d1⟩; have D1 : Hid (Below w.heap.size w u1) := Below.trans (by repeat (first | exact Below.refl _ _ | refine Below.drew ?_ | refine below_drewN ?_ _)) d1; have kk1 := KK.out u1 D1.out; have ka1 := KA.out u1 D1.out; clear d1) | (go_at_call 36; refine (HL.out _ D1.out).mono ?_; rintro e u2 ⟨rfl, d2⟩; have D2 : Hid (Below w.heap.size w u2) := D1.out.trans (d2.mono D1.out.size); have kw2 := KW.out u2 D2.out; have kf2 := KF.out u2 D2.out; clear d2))
  all_goals
    go_end0
    exact ⟨rfl, u2, rfl, D2.out⟩
set_option maxHeartbeats 4000000 in
theorem load1_bad (v : MV) (m : Pl.Mac) (kind at_ : Int) (gm gk ga gw : Nat) (w : World) (hm : w.heap[gm]? = some (.cells #[.slice v.code.a v.code.len v.code.cap, .int .i64 m.pc, .slice v.regs.a v.regs.len v.regs.cap, .slice v.data.a v.data.len v.data.cap, .slice v.stk.a v.stk.len v.stk.cap, .slice v.inp.a v.inp.len v.inp.cap, .slice v.out.a v.out.len v.out.cap, .int .i64 m.steps, .int .i64 m.fin, .int .i64 m.val] 25)) (hk : w.heap[gk]? = some (.cells #[.int .i64 kind] 3)) (ha : w.heap[ga]? = some (.cells #[.int .i64 at_] 3)) (hw : w.heap[gw]? = some (.cells #[.int .i64 0] 3)) (code : Int)
    (HL : Hid (∀ W, Below w.heap.size w W → Calls Try.prog 36 #[.agg #[.iface 88 (.slice v.data.a v.data.len v.data.cap), .iface 89 (.slice v.stk.a v.stk.len v.stk.cap)], .int .i64 kind, .int .i64 at_] W fun e w' => e = .panicked [{ v := .iface 87 (.int .i64 code), recovered := false }] ∧ Below W.heap.size W w')) :
    Calls Try.prog 35 #[.pointer (some ⟨gm, 0, none⟩), .pointer (some ⟨gk, 0, none⟩), .pointer (some ⟨ga, 0, none⟩), .pointer (some ⟨gw, 0, none⟩)] w fun e w' => e = .panicked [{ v := .iface 87 (.int .i64 code), recovered := false }] ∧ Below w.heap.size w w' := by
  have LM : gm < w.heap.size := (Array.getElem?_eq_some_iff.1 hm).1
  have LK : gk < w.heap.size := (Array.getElem?_eq_some_iff.1 hk).1
  have LA : ga < w.heap.size := (Array.getElem?_eq_some_iff.1 ha).1
  have LW : gw < w.heap.size := (Array.getElem?_eq_some_iff.1 hw).1
  have KK : Hid (∀ u : World, Below w.heap.size w u → u.cell? ⟨gk, 0, none⟩ = some (.int .i64 kind)) := fun u hu => (hu.cell (by exact LK)).trans (cell_of_row w gk 0 _ 3 (0, 0) hk)
  have KA : Hid (∀ u : World, Below w.heap.size w u → u.cell? ⟨ga, 0, none⟩ = some (.int .i64 at_)) := fun u hu => (hu.cell (by exact LA)).trans (cell_of_row w ga 0 _ 3 (0, 0) ha)
  have KW : Hid (∀ u : World, Below w.heap.size w u → u.cell? ⟨gw, 0, none⟩ = some (.int .i64 0)) := fun u hu => (hu.cell (by exact LW)).trans (cell_of_row w gw 0 _ 3 (0, 0) hw)
  have KF : Hid (∀ u : World, Below w.heap.size w u → u.frozen? ⟨gw, 0, none⟩ = false) := fun u hu => (hu.frozen (by exact LW)).trans (frozen_of_row w gw 0 _ 3 hw)
  have km : ∀ j, w.cell? ⟨gm, j, none⟩ = (#[.slice v.code.a v.code.len v.code.cap, .int .i64 m.pc, .slice v.regs.a v.regs.len v.regs.cap, .slice v.data.a v.data.len v.data.cap, .slice v.stk.a v.stk.len v.stk.cap, .slice v.inp.a v.inp.len v.inp.cap, .slice v.out.a v.out.len v.out.cap, .int .i64 m.steps, .int .i64 m.fin, .int .i64 m.val] : Array Value)[j]? := fun j => cell_of_row w gm j _ 25 (0, 0) hm
  have kk := KK.out w (Below.refl _ _)
  have ka := KA.out w (Below.refl _ _)
  clear hm hk ha hw LM LK LA LW
  go_enter Try.func35, Try.ntmps35
  go_wp2_with fail
  refine wp_region_any (by kernel_rfl) ?_
  change wpAny _ _ _ _ _ _ _ (World.drew _)
  refine wpAny_ready (rs := [0, 2, 3]) (by kernel_rfl) (by simp) ?_
  refine AllReady.cons rfl (fun K hK => ?_) ?_
  · go_simp
    refine hK _ _ ?_
    clear hK K
    refine wpAny_ready (rs := [1, 2, 3]) (by kernel_rfl) (by simp) ?_
    refine AllReady.cons rfl (fun K hK => ?_) ?_
    · go_simp
      go_wp2_with (go_at_call 30; refine (memoryOf_any v m _).mono ?_; rintro e u1 ⟨rfl, d1⟩; have D1 : Hid (Below w.heap.size w u1) := Below.trans (by repeat (first | exact Below.refl _ _ | refine Below.drew ?_ | refine below_drewN ?_ _)) d1; have kk1 := KK.out u1 D1.out; have ka1 := KA.out u1 D1.out; clear d1)
      refine wpAny_ready (rs := [2, 3]) (by kernel_rfl) (by simp) ?_
      refine AllReady.cons rfl (fun K hK => ?_) ?_
      · go_simp
        refine hK _ _ ?_
        clear hK K
        refine wpAny_ready (rs := [3]) (by kernel_rfl) (by simp) ?_
        refine AllReady.cons rfl (fun K hK => ?_) ?_
        · go_simp
          refine hK _ _ ?_
          clear hK K
          refine wpAny_ready (rs := [4]) (by kernel_rfl) (by simp) ?_
          refine AllReady.cons rfl (fun K hK => ?_) ?_
          · go_simp
            refine (HL.out _ D1.out).mono ?_
            rintro e u2 ⟨rfl, d2⟩
            exact ⟨rfl, rfl, D1.out.trans (d2.mono D1.out.size)⟩
          exact AllReady.nil
        exact AllReady.nil
      refine AllReady.cons rfl (fun K hK => ?_) ?_
      · go_simp
        refine hK _ _ ?_
        clear hK K
        refine wpAny_ready (rs := [2]) (by kernel_rfl) (by simp) ?_
        refine AllReady.cons rfl (fun K hK => ?_) ?_
        · go_simp
          refine hK _ _ ?_
          clear hK K
          refine wpAny_ready (rs := [4]) (by kernel_rfl) (by simp) ?_
          refine AllReady.cons rfl (fun K hK => ?_) ?_
          · go_simp
            refine (HL.out _ D1.out).mono ?_
            rintro e u2 ⟨rfl, d2⟩
            exact ⟨rfl, rfl, D1.out.trans (d2.mono D1.out.size)⟩
          exact AllReady.nil
        exact AllReady.nil
      exact AllReady.nil
    refine AllReady.cons rfl (fun K hK => ?_) ?_
    · go_simp
      refine hK _ _ ?_
      clear hK K
      refine wpAny_ready (rs := [1, 3]) (by kernel_rfl) (by simp) ?_
      refine AllReady.cons rfl (fun K hK => ?_) ?_
      · go_simp
        go_wp2_with (go_at_call 30; refine (memoryOf_any v m _).mono ?_; rintro e u1 ⟨rfl, d1⟩; have D1 : Hid (Below w.heap.size w u1) := Below.trans (by repeat (first | exact Below.refl _ _ | refine Below.drew ?_ | refine below_drewN ?_ _)) d1; have kk1 := KK.out u1 D1.out; have ka1 := KA.out u1 D1.out; clear d1)
        refine wpAny_ready (rs := [3]) (by kernel_rfl) (by simp) ?_
        refine AllReady.cons rfl (fun K hK => ?_) ?_
        · go_simp
          refine hK _ _ ?_
          clear hK K
          refine wpAny_ready (rs := [4]) (by kernel_rfl) (by simp) ?_
          refine AllReady.cons rfl (fun K hK => ?_) ?_
          · go_simp
            refine (HL.out _ D1.out).mono ?_
            rintro e u2 ⟨rfl, d2⟩
            exact ⟨rfl, rfl, D1.out.trans (d2.mono D1.out.size)⟩
          exact AllReady.nil
        exact AllReady.nil
      refine AllReady.cons rfl (fun K hK => ?_) ?_
      · go_simp
        refine hK _ _ ?_
        clear hK K
        refine wpAny_ready (rs := [1]) (by kernel_rfl) (by simp) ?_
        refine AllReady.cons rfl (fun K hK => ?_) ?_
        · go_simp
          go_wp2_with (go_at_call 30; refine (memoryOf_any v m _).mono ?_; rintro e u1 ⟨rfl, d1⟩; have D1 : Hid (Below w.heap.size w u1) := Below.trans (by repeat (first | exact Below.refl _ _ | refine Below.drew ?_ | refine below_drewN ?_ _)) d1; have kk1 := KK.out u1 D1.out; have ka1 := KA.out u1 D1.out; clear d1)
          refine wpAny_ready (rs := [4]) (by kernel_rfl) (by simp) ?_
          refine AllReady.cons rfl (fun K hK => ?_) ?_
          · go_simp
            refine (HL.out _ D1.out).mono ?_
            rintro e u2 ⟨rfl, d2⟩
            exact ⟨rfl, rfl, D1.out.trans (d2.mono D1.out.size)⟩
          exact AllReady.nil
        exact AllReady.nil
      exact AllReady.nil
    refine AllReady.cons rfl (fun K hK => ?_) ?_
    · go_simp
      refine hK _ _ ?_
      clear hK K
      refine wpAny_ready (rs := [1, 2]) (by kernel_rfl) (by simp) ?_
      refine AllReady.cons rfl (fun K hK => ?_) ?_
      · go_simp
        go_wp2_with (go_at_call 30; refine (memoryOf_any v m _).mono ?_; rintro e u1 ⟨rfl, d1⟩; have D1 : Hid (Below w.heap.size w u1) := Below.trans (by repeat (first | exact Below.refl _ _ | refine Below.drew ?_ | refine below_drewN ?_ _)) d1; have kk1 := KK.out u1 D1.out; have ka1 := KA.out u1 D1.out; clear d1)
        refine wpAny_ready (rs := [2]) (by kernel_rfl) (by simp) ?_
        refine AllReady.cons rfl (fun K hK => ?_) ?_
        · go_simp
          refine hK _ _ ?_
          clear hK K
          refine wpAny_ready (rs := [4]) (by kernel_rfl) (by simp) ?_
          refine AllReady.cons rfl (fun K hK => ?_) ?_
          · go_simp
            refine (HL.out _ D1.out).mono ?_
            rintro e u2 ⟨rfl, d2⟩
            exact ⟨rfl, rfl, D1.out.trans (d2.mono D1.out.size)⟩
          exact AllReady.nil
        exact AllReady.nil
      refine AllReady.cons rfl (fun K hK => ?_) ?_
      · go_simp
        refine hK _ _ ?_
        clear hK K
        refine wpAny_ready (rs := [1]) (by kernel_rfl) (by simp) ?_
        refine AllReady.cons rfl (fun K hK => ?_) ?_
        · go_simp
          go_wp2_with (go_at_call 30; refine (memoryOf_any v m _).mono ?_; rintro e u1 ⟨rfl, d1⟩; have D1 : Hid (Below w.heap.size w u1) := Below.trans (by repeat (first | exact Below.refl _ _ | refine Below.drew ?_ | refine below_drewN ?_ _)) d1; have kk1 := KK.out u1 D1.out; have ka1 := KA.out u1 D1.out; clear d1)
          refine wpAny_ready (rs := [4]) (by kernel_rfl) (by simp) ?_
          refine AllReady.cons rfl (fun K hK => ?_) ?_
          · go_simp
            refine (HL.out _ D1.out).mono ?_
            rintro e u2 ⟨rfl, d2⟩
            exact ⟨rfl, rfl, D1.out.trans (d2.mono D1.out.size)⟩
          exact AllReady.nil
        exact AllReady.nil
      exact AllReady.nil
    exact AllReady.nil
  refine AllReady.cons rfl (fun K hK => ?_) ?_
  · go_simp
    refine hK _ _ ?_
    clear hK K
    refine wpAny_ready (rs := [0, 3]) (by kernel_rfl) (by simp) ?_
    refine AllReady.cons rfl (fun K hK => ?_) ?_
    · go_simp
      refine hK _ _ ?_
      clear hK K
      refine wpAny_ready (rs := [1, 3]) (by kernel_rfl) (by simp) ?_
      refine AllReady.cons rfl (fun K hK => ?_) ?_
      · go_simp
        go_wp2_with (go_at_call 30; refine (memoryOf_any v m _).mono ?_; rintro e u1 ⟨rfl, d1⟩; have D1 : Hid (Below w.heap.size w u1) := Below.trans (by repeat (first | exact Below.refl _ _ | refine Below.drew ?_ | refine below_drewN ?_ _)) d1; have kk1 := KK.out u1 D1.out; have ka1 := KA.out u1 D1.out; clear d1)
        refine wpAny_ready (rs := [3]) (by kernel_rfl) (by simp) ?_
        refine AllReady.cons rfl (fun K hK => ?_) ?_
        · go_simp
          refine hK _ _ ?_
          clear hK K
          refine wpAny_ready (rs := [4]) (by kernel_rfl) (by simp) ?_
          refine AllReady.cons rfl (fun K hK => ?_) ?_
          · go_simp
            refine (HL.out _ D1.out).mono ?_
            rintro e u2 ⟨rfl, d2⟩
            exact ⟨rfl, rfl, D1.out.trans (d2.mono D1.out.size)⟩
          exact AllReady.nil
        exact AllReady.nil
      refine AllReady.cons rfl (fun K hK => ?_) ?_
      · go_simp
        refine hK _ _ ?_
        clear hK K
        refine wpAny_ready (rs := [1]) (by kernel_rfl) (by simp) ?_
        refine AllReady.cons rfl (fun K hK => ?_) ?_
        · go_simp
          go_wp2_with (go_at_call 30; refine (memoryOf_any v m _).mono ?_; rintro e u1 ⟨rfl, d1⟩; have D1 : Hid (Below w.heap.size w u1) := Below.trans (by repeat (first | exact Below.refl _ _ | refine Below.drew ?_ | refine below_drewN ?_ _)) d1; have kk1 := KK.out u1 D1.out; have ka1 := KA.out u1 D1.out; clear d1)
          refine wpAny_ready (rs := [4]) (by kernel_rfl) (by simp) ?_
          refine AllReady.cons rfl (fun K hK => ?_) ?_
          · go_simp
            refine (HL.out _ D1.out).mono ?_
            rintro e u2 ⟨rfl, d2⟩
            exact ⟨rfl, rfl, D1.out.trans (d2.mono D1.out.size)⟩
          exact AllReady.nil
        exact AllReady.nil
      exact AllReady.nil
    refine AllReady.cons rfl (fun K hK => ?_) ?_
    · go_simp
      refine hK _ _ ?_
      clear hK K
      refine wpAny_ready (rs := [0]) (by kernel_rfl) (by simp) ?_
      refine AllReady.cons rfl (fun K hK => ?_) ?_
      · go_simp
        refine hK _ _ ?_
        clear hK K
        refine wpAny_ready (rs := [1]) (by kernel_rfl) (by simp) ?_
        refine AllReady.cons rfl (fun K hK => ?_) ?_
        · go_simp
          go_wp2_with (go_at_call 30; refine (memoryOf_any v m _).mono ?_; rintro e u1 ⟨rfl, d1⟩; have D1 : Hid (Below w.heap.size w u1) := Below.trans (by repeat (first | exact Below.refl _ _ | refine Below.drew ?_ | refine below_drewN ?_ _)) d1; have kk1 := KK.out u1 D1.out; have ka1 := KA.out u1 D1.out; clear d1)
          refine wpAny_ready (rs := [4]) (by kernel_rfl) (by simp) ?_
          refine AllReady.cons rfl (fun K hK => ?_) ?_
          · go_simp
            refine (HL.out _ D1.out).mono ?_
            rintro e u2 ⟨rfl, d2⟩
            exact ⟨rfl, rfl, D1.out.trans (d2.mono D1.out.size)⟩
          exact AllReady.nil
        exact AllReady.nil
      exact AllReady.nil
    exact AllReady.nil
  refine AllReady.cons rfl (fun K hK => ?_) ?_
  · go_simp
    refine hK _ _ ?_
    clear hK K
    refine wpAny_ready (rs := [0, 2]) (by kernel_rfl) (by simp) ?_
    refine AllReady.cons rfl (fun K hK => ?_) ?_
    · go_simp
      refine hK _ _ ?_
      clear hK K
      refine wpAny_ready (rs := [1, 2]) (by kernel_rfl) (by simp) ?_
      refine AllReady.cons rfl (fun K hK => ?_) ?_
      · go_simp
        go_wp2_with (go_at_call 30; refine (memoryOf_any v m _).mono ?_; rintro e u1 ⟨rfl, d1⟩; have D1 : Hid (Below w.heap.size w u1) := Below.trans (by repeat (first | exact Below.refl _ _ | refine Below.drew ?_ | refine below_drewN ?_ _)) d1; have kk1 := KK.out u1 D1.out; have ka1 := KA.out u1 D1.out; clear d1)
        refine wpAny_ready (rs := [2]) (by kernel_rfl) (by simp) ?_
        refine AllReady.cons rfl (fun K hK => ?_) ?_
        · go_simp
          refine hK _ _ ?_
          clear hK K
          refine wpAny_ready (rs := [4]) (by kernel_rfl) (by simp) ?_
          refine AllReady.cons rfl (fun K hK => ?_) ?_
          · go_simp
            refine (HL.out _ D1.out).mono ?_
            rintro e u2 ⟨rfl, d2⟩
            exact ⟨rfl, rfl, D1.out.trans (d2.mono D1.out.size)⟩
          exact AllReady.nil
        exact AllReady.nil
      refine AllReady.cons rfl (fun K hK => ?_) ?_
      · go_simp
        refine hK _ _ ?_
        clear hK K
        refine wpAny_ready (rs := [1]) (by kernel_rfl) (by simp) ?_
        refine AllReady.cons rfl (fun K hK => ?_) ?_
        · go_simp
          go_wp2_with (go_at_call 30; refine (memoryOf_any v m _).mono ?_; rintro e u1 ⟨rfl, d1⟩; have D1 : Hid (Below w.heap.size w u1) := Below.trans (by repeat (first | exact Below.refl _ _ | refine Below.drew ?_ | refine below_drewN ?_ _)) d1; have kk1 := KK.out u1 D1.out; have ka1 := KA.out u1 D1.out; clear d1)
          refine wpAny_ready (rs := [4]) (by kernel_rfl) (by simp) ?_
          refine AllReady.cons rfl (fun K hK => ?_) ?_
          · go_simp
            refine (HL.out _ D1.out).mono ?_
            rintro e u2 ⟨rfl, d2⟩
            exact ⟨rfl, rfl, D1.out.trans (d2.mono D1.out.size)⟩
          exact AllReady.nil
        exact AllReady.nil
      exact AllReady.nil
    refine AllReady.cons rfl (fun K hK => ?_) ?_
    · go_simp
      refine hK _ _ ?_
      clear hK K
      refine wpAny_ready (rs := [0]) (by kernel_rfl) (by simp) ?_
      refine AllReady.cons rfl (fun K hK => ?_) ?_
      · go_simp
        refine hK _ _ ?_
        clear hK K
        refine wpAny_ready (rs := [1]) (by kernel_rfl) (by simp) ?_
        refine AllReady.cons rfl (fun K hK => ?_) ?_
        · go_simp
          go_wp2_with (go_at_call 30; refine (memoryOf_any v m _).mono ?_; rintro e u1 ⟨rfl, d1⟩; have D1 : Hid (Below w.heap.size w u1) := Below.trans (by repeat (first | exact Below.refl _ _ | refine Below.drew ?_ | refine below_drewN ?_ _)) d1; have kk1 := KK.out u1 D1.out; have ka1 := KA.out u1 D1.out; clear d1)
          refine wpAny_ready (rs := [4]) (by kernel_rfl) (by simp) ?_
          refine AllReady.cons rfl (fun K hK => ?_) ?_
          · go_simp
            refine (HL.out _ D1.out).mono ?_
            rintro e u2 ⟨rfl, d2⟩
            exact ⟨rfl, rfl, D1.out.trans (d2.mono D1.out.size)⟩
          exact AllReady.nil
        exact AllReady.nil
      exact AllReady.nil
    exact AllReady.nil
  exact AllReady.nil
end Go.Proofs.Ytfcfnbncgadomaa.W
