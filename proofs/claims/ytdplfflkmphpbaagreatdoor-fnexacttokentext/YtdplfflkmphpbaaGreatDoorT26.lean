import Derived.Test.YtdplfflkmphpbaaGreatDoorT25
set_option linter.unusedVariables false
set_option linter.unusedSimpArgs false
namespace Go.Proofs.YtdplfflkmphpbaaGreatDoor.W
open Go.RowKit
set_option maxHeartbeats 2000000 in
theorem szToken_any (t : Pl.Tk) (hm : (t.S.size : Int) ≤ 9223372036854775807) (w : World) : Calls Tryz.prog 17 #[.agg #[.int .i64 t.k, .string t.S, .int .i64 t.N, .int .i64 t.l, .int .i64 t.c], .int .i64 1048576] w fun e w' => ∃ r : Int, e = .returned (.int .i64 r) ∧ (0 ≤ r → t.S.size ≤ 1048576) ∧ Below w.heap.size w w' := by
  have hw : IntKind.i64.wrap (1048576 - (t.S.size : Int)) = 1048576 - (t.S.size : Int) := by rw [IntKind.wrap_i64]; omega
  by_cases h : (1048576 : Int) - (t.S.size : Int) < 0
  · go_enter Tryz.func17, Tryz.ntmps17
    go_wp2_with fail
    go_ret
    exact ⟨-1, rfl, fun q => absurd q (by decide), below_allocL _ _⟩
  · go_enter Tryz.func17, Tryz.ntmps17
    go_wp2_with fail
    go_ret
    exact ⟨1048576 - (t.S.size : Int), rfl, fun q => by omega, below_allocL _ _⟩
set_option maxRecDepth 8000 in
set_option maxHeartbeats 4000000 in
theorem toToken_any (t : Pl.Tk) (w : World) : Calls Tryz.prog 19 #[.agg #[.int .i64 t.k, .string t.S, .int .i64 t.N, .int .i64 t.l, .int .i64 t.c]] w fun e w' => e = .returned (.agg #[.int .i64 t.k, .string t.S, .int .i64 t.N, .int .i64 t.l, .int .i64 t.c]) ∧ Below w.heap.size w w' := by
  go_enter Tryz.func19, Tryz.ntmps19
  go_wp2_with fail
  exact bodyPost_ret (v := .agg #[.int .i64 t.k, .string t.S, .int .i64 t.N, .int .i64 t.l, .int .i64 t.c]) (by simp [results, Tryz.results19, go_sem]) rfl ⟨rfl, (by repeat (first | exact Below.refl _ _ | refine Below.alloc ?_ (by simp <;> omega) _))⟩
set_option maxRecDepth 8000 in
set_option maxHeartbeats 4000000 in
theorem fnExactTokenText_walk (t : Pl.Tk) (h0 : -9223372036854775808 ≤ t.N) (h1 : t.N ≤ 9223372036854775807) (hm : t.S.size ≤ maxLen) (w : World) (hE : Glo w) (hd : DbLies w) (hp : PowLies w) :
    Calls Tryz.prog 5 #[.agg #[.int .i64 t.k, .string t.S, .int .i64 t.N, .int .i64 t.l, .int .i64 t.c]] w fun e w' => e = .returned (.bool true) ∧ Below w.heap.size w w' := by
  have hm' : (t.S.size : Int) ≤ 9223372036854775807 := by unfold maxLen at hm; omega
  have HR : Hid (∀ u : World, Below (w.alloc (.cells #[.int .i64 t.k, .string t.S, .int .i64 t.N, .int .i64 t.l, .int .i64 t.c] 35)).heap.size (w.alloc (.cells #[.int .i64 t.k, .string t.S, .int .i64 t.N, .int .i64 t.l, .int .i64 t.c] 35)) u → u.heap[w.heap.size]? = some (.cells #[.int .i64 t.k, .string t.S, .int .i64 t.N, .int .i64 t.l, .int .i64 t.c] 35 (0, 0))) := fun u hu => (hu.block _ (by simp)).trans (heap_alloc_new w _)
  have HE : Hid (Glo w) := hE
  have HD : Hid (DbLies w) := hd
  have HP : Hid (PowLies w) := hp
  have HB : Hid (∀ u : World, Below (w.alloc (.cells #[.int .i64 t.k, .string t.S, .int .i64 t.N, .int .i64 t.l, .int .i64 t.c] 35)).heap.size (w.alloc (.cells #[.int .i64 t.k, .string t.S, .int .i64 t.N, .int .i64 t.l, .int .i64 t.c] 35)) u → Below w.heap.size w u) := fun u hu => (below_allocL w _).trans (hu.mono (by simp))
  have D0 : Hid (Below (w.alloc (.cells #[.int .i64 t.k, .string t.S, .int .i64 t.N, .int .i64 t.l, .int .i64 t.c] 35)).heap.size (w.alloc (.cells #[.int .i64 t.k, .string t.S, .int .i64 t.N, .int .i64 t.l, .int .i64 t.c] 35)) (w.alloc (.cells #[.int .i64 t.k, .string t.S, .int .i64 t.N, .int .i64 t.l, .int .i64 t.c] 35))) := Below.refl _ _
  clear hE hd hp
  go_enter Tryz.func5, Tryz.ntmps5
  go_wp2_with (first | (go_at_call 17; refine (szToken_any t hm' _).mono ?_; rintro e u1 ⟨r, rfl, hr, d1⟩; have D1 : Hid (Below (w.alloc (.cells #[.int .i64 t.k, .string t.S, .int .i64 t.N, .int .i64 t.l, .int .i64 t.c] 35)).heap.size (w.alloc (.cells #[.int .i64 t.k, .string t.S, .int .i64 t.N, .int .i64 t.l, .int .i64 t.c] 35)) u1) := d1; have HRR : Hid (0 ≤ r → t.S.size ≤ 1048576) := hr; clear d1 hr) | (go_at_call 18; refine (specTT_is t h1 (HRR.out (by omega)) _).mono ?_; rintro e u3 ⟨rfl, d3⟩; have D3 : Hid (Below (w.alloc (.cells #[.int .i64 t.k, .string t.S, .int .i64 t.N, .int .i64 t.l, .int .i64 t.c] 35)).heap.size (w.alloc (.cells #[.int .i64 t.k, .string t.S, .int .i64 t.N, .int .i64 t.l, .int .i64 t.c] 35)) u3) := D2.out.trans (d3.mono D2.out.size); clear d3) | (go_at_call 16; refine (implTT_is t h0 h1 (HRR.out (by omega)) _ (HE.out.on (HB.out _ D4.out)) (HD.out.below (HB.out _ D4.out)) (HP.out.below (HB.out _ D4.out))).mono ?_; rintro e u5 ⟨rfl, d5⟩; rw [← Pl.tt_all]; have D5 : Hid (Below (w.alloc (.cells #[.int .i64 t.k, .string t.S, .int .i64 t.N, .int .i64 t.l, .int .i64 t.c] 35)).heap.size (w.alloc (.cells #[.int .i64 t.k, .string t.S, .int .i64 t.N, .int .i64 t.l, .int .i64 t.c] 35)) u5) := D4.out.trans (d5.mono D4.out.size); clear d5) | (go_at_call 19; refine (toToken_any t u3).mono ?_; rintro e u4 ⟨rfl, d4⟩; have D4 : Hid (Below (w.alloc (.cells #[.int .i64 t.k, .string t.S, .int .i64 t.N, .int .i64 t.l, .int .i64 t.c] 35)).heap.size (w.alloc (.cells #[.int .i64 t.k, .string t.S, .int .i64 t.N, .int .i64 t.l, .int .i64 t.c] 35)) u4) := D3.out.trans (d4.mono D3.out.size); clear d4) | (go_at_call 19; refine (toToken_any t u1).mono ?_; rintro e u2 ⟨rfl, d2⟩; have D2 : Hid (Below (w.alloc (.cells #[.int .i64 t.k, .string t.S, .int .i64 t.N, .int .i64 t.l, .int .i64 t.c] 35)).heap.size (w.alloc (.cells #[.int .i64 t.k, .string t.S, .int .i64 t.N, .int .i64 t.l, .int .i64 t.c] 35)) u2) := D1.out.trans (d2.mono D1.out.size); clear d2) | (refine wpList_load_row rfl 35 _ rfl w.heap.size ?hx 35 #[.int .i64 t.k, .string t.S, .int .i64 t.N, .int .i64 t.l, .int .i64 t.c] (0, 0) _ ?hg Tryz.underlying35 ?hd ?hi ?_; (case hx => rfl); (case hg => exact HR.out _ D3.out); (case hd => rfl); (case hi => kernel_rfl)) | (refine wpList_load_row rfl 35 _ rfl w.heap.size ?hx 35 #[.int .i64 t.k, .string t.S, .int .i64 t.N, .int .i64 t.l, .int .i64 t.c] (0, 0) _ ?hg Tryz.underlying35 ?hd ?hi ?_; (case hx => rfl); (case hg => exact HR.out _ D1.out); (case hd => rfl); (case hi => kernel_rfl)) | (refine wpList_load_row rfl 35 _ rfl w.heap.size ?hx 35 #[.int .i64 t.k, .string t.S, .int .i64 t.N, .int .i64 t.l, .int .i64 t.c] (0, 0) _ ?hg Tryz.underlying35 ?hd ?hi ?_; (case hx => rfl); (case hg => exact HR.out _ D0.out); (case hd => rfl); (case hi => kernel_rfl)))
  all_goals (go_ret; first | exact ⟨rfl, HB.out _ D5.out⟩ | exact ⟨rfl, HB.out _ D1.out⟩)
end Go.Proofs.YtdplfflkmphpbaaGreatDoor.W
