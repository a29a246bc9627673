import Derived.Test.YtjdfffdeljgenaaGreatDoorS35
import Derived.Test.YtjdfffdeljgenaaGreatDoorS44
import Derived.Test.YtjdfffdeljgenaaGreatDoorS45
import Derived.Test.YtjdfffdeljgenaaGreatDoorS09
set_option linter.unusedVariables false
set_option linter.unusedSimpArgs false
namespace Go.Proofs.YtjdfffdeljgenaaGreatDoor.W
open Go.RowKit
theorem Tabs.within {w u : World} (h : Tabs w) (hB : Below w.heap.size w u) : Tabs u :=
  h.keep (hB.block _ (block_lt_of_cell (h.ali 0 (by decide)))) (hB.block _ (block_lt_of_cell (h.lds 0 (by decide)))) (hB.block _ (block_lt_of_cell (h.sts 0 (by decide))))
theorem inp_in {lo : Nat} {w : World} {v : MV} {m : Pl.Mac} (h : MIs lo w v m) : ∀ n ∈ m.inp, 0 ≤ n ∧ n ≤ 255 := fun n hn => Pl.u8_bd (h.2.2.2.2.1.2.2.2.1 n hn)
def SplMk (a0 a1 : Option Addr) (len0 cap0 len1 cap1 gM gW gG gF k A B T : Nat) (v vw vg vf : MV) (m mm mf : Pl.Mac) (u24 u25 : Value) (vr : MV) (L : Array Bool) : Act := { tmps := #[.slice a0 len0 cap0, .slice a1 len1 cap1, undef, undef, sld (.bool false) L 10 (.bool true), .pointer (some ⟨gM, 0, none⟩), .int .i64 (A : Int), .int .i64 (B : Int), .pointer (some ⟨gW, 0, none⟩), .pointer (some ⟨gG, 0, none⟩), .pointer (some ⟨gF, 0, none⟩), .slice a0 len0 cap0, .int .i64 (len0 : Int), .bool false, .bool false, .slice a1 len1 cap1, .int .i64 (len1 : Int), .bool false, .bool false, .tuple #[.agg #[.slice v.code.a v.code.len v.code.cap, .int .i64 m.pc, .slice v.regs.a v.regs.len v.regs.cap, .slice v.data.a v.data.len v.data.cap, .slice v.stk.a v.stk.len v.stk.cap, .slice v.inp.a v.inp.len v.inp.cap, .slice v.out.a v.out.len v.out.cap, .int .i64 m.steps, .int .i64 m.fin, .int .i64 m.val], .int .i64 ((k : Int) - 2)], .slice a0 len0 cap0, .tuple #[.agg #[.slice v.code.a v.code.len v.code.cap, .int .i64 m.pc, .slice v.regs.a v.regs.len v.regs.cap, .slice v.data.a v.data.len v.data.cap, .slice v.stk.a v.stk.len v.stk.cap, .slice v.inp.a v.inp.len v.inp.cap, .slice v.out.a v.out.len v.out.cap, .int .i64 m.steps, .int .i64 m.fin, .int .i64 m.val], .int .i64 ((k : Int) - 2)], .agg #[.slice v.code.a v.code.len v.code.cap, .int .i64 m.pc, .slice v.regs.a v.regs.len v.regs.cap, .slice v.data.a v.data.len v.data.cap, .slice v.stk.a v.stk.len v.stk.cap, .slice v.inp.a v.inp.len v.inp.cap, .slice v.out.a v.out.len v.out.cap, .int .i64 m.steps, .int .i64 m.fin, .int .i64 m.val], .int .i64 ((k : Int) - 2), u24, u25, .slice a1 len1 cap1, .int .i64 (len1 : Int), .int .i64 (B : Int), .agg #[.slice v.code.a v.code.len v.code.cap, .int .i64 m.pc, .slice v.regs.a v.regs.len v.regs.cap, .slice v.data.a v.data.len v.data.cap, .slice v.stk.a v.stk.len v.stk.cap, .slice v.inp.a v.inp.len v.inp.cap, .slice v.out.a v.out.len v.out.cap, .int .i64 m.steps, .int .i64 m.fin, .int .i64 m.val], .int .i64 (A : Int), .int .i64 (B : Int), .int .i64 (T : Int), .agg #[.slice vw.code.a vw.code.len vw.code.cap, .int .i64 mm.pc, .slice vw.regs.a vw.regs.len vw.regs.cap, .slice vw.data.a vw.data.len vw.data.cap, .slice vw.stk.a vw.stk.len vw.stk.cap, .slice vw.inp.a vw.inp.len vw.inp.cap, .slice vw.out.a vw.out.len vw.out.cap, .int .i64 mm.steps, .int .i64 mm.fin, .int .i64 mm.val], .agg #[.slice v.code.a v.code.len v.code.cap, .int .i64 m.pc, .slice v.regs.a v.regs.len v.regs.cap, .slice v.data.a v.data.len v.data.cap, .slice v.stk.a v.stk.len v.stk.cap, .slice v.inp.a v.inp.len v.inp.cap, .slice v.out.a v.out.len v.out.cap, .int .i64 m.steps, .int .i64 m.fin, .int .i64 m.val], .int .i64 (A : Int), .int .i64 (B : Int), .int .i64 (T : Int), .agg #[.slice vg.code.a vg.code.len vg.code.cap, .int .i64 mm.pc, .slice vg.regs.a vg.regs.len vg.regs.cap, .slice vg.data.a vg.data.len vg.data.cap, .slice vg.stk.a vg.stk.len vg.stk.cap, .slice vg.inp.a vg.inp.len vg.inp.cap, .slice vg.out.a vg.out.len vg.out.cap, .int .i64 mm.steps, .int .i64 mm.fin, .int .i64 mm.val], .agg #[.slice v.code.a v.code.len v.code.cap, .int .i64 m.pc, .slice v.regs.a v.regs.len v.regs.cap, .slice v.data.a v.data.len v.data.cap, .slice v.stk.a v.stk.len v.stk.cap, .slice v.inp.a v.inp.len v.inp.cap, .slice v.out.a v.out.len v.out.cap, .int .i64 m.steps, .int .i64 m.fin, .int .i64 m.val], .int .i64 (A : Int), .agg #[.slice vf.code.a vf.code.len vf.code.cap, .int .i64 mf.pc, .slice vf.regs.a vf.regs.len vf.regs.cap, .slice vf.data.a vf.data.len vf.data.cap, .slice vf.stk.a vf.stk.len vf.stk.cap, .slice vf.inp.a vf.inp.len vf.inp.cap, .slice vf.out.a vf.out.len vf.out.cap, .int .i64 mf.steps, .int .i64 mf.fin, .int .i64 mf.val], sld undef L 0 (.agg #[.slice vg.code.a vg.code.len vg.code.cap, .int .i64 mm.pc, .slice vg.regs.a vg.regs.len vg.regs.cap, .slice vg.data.a vg.data.len vg.data.cap, .slice vg.stk.a vg.stk.len vg.stk.cap, .slice vg.inp.a vg.inp.len vg.inp.cap, .slice vg.out.a vg.out.len vg.out.cap, .int .i64 mm.steps, .int .i64 mm.fin, .int .i64 mm.val]), sld undef L 1 (.agg #[.slice vw.code.a vw.code.len vw.code.cap, .int .i64 mm.pc, .slice vw.regs.a vw.regs.len vw.regs.cap, .slice vw.data.a vw.data.len vw.data.cap, .slice vw.stk.a vw.stk.len vw.stk.cap, .slice vw.inp.a vw.inp.len vw.inp.cap, .slice vw.out.a vw.out.len vw.out.cap, .int .i64 mm.steps, .int .i64 mm.fin, .int .i64 mm.val]), sld undef L 2 (.bool true), sld undef L 3 (.bool true), sld undef L 4 (.agg #[.slice vf.code.a vf.code.len vf.code.cap, .int .i64 mf.pc, .slice vf.regs.a vf.regs.len vf.regs.cap, .slice vf.data.a vf.data.len vf.data.cap, .slice vf.stk.a vf.stk.len vf.stk.cap, .slice vf.inp.a vf.inp.len vf.inp.cap, .slice vf.out.a vf.out.len vf.out.cap, .int .i64 mf.steps, .int .i64 mf.fin, .int .i64 mf.val]), sld undef L 5 (.int .i64 (B : Int)), sld undef L 6 (.agg #[.slice vr.code.a vr.code.len vr.code.cap, .int .i64 mm.pc, .slice vr.regs.a vr.regs.len vr.regs.cap, .slice vr.data.a vr.data.len vr.data.cap, .slice vr.stk.a vr.stk.len vr.stk.cap, .slice vr.inp.a vr.inp.len vr.inp.cap, .slice vr.out.a vr.out.len vr.out.cap, .int .i64 mm.steps, .int .i64 mm.fin, .int .i64 mm.val]), sld undef L 7 (.agg #[.slice vw.code.a vw.code.len vw.code.cap, .int .i64 mm.pc, .slice vw.regs.a vw.regs.len vw.regs.cap, .slice vw.data.a vw.data.len vw.data.cap, .slice vw.stk.a vw.stk.len vw.stk.cap, .slice vw.inp.a vw.inp.len vw.inp.cap, .slice vw.out.a vw.out.len vw.out.cap, .int .i64 mm.steps, .int .i64 mm.fin, .int .i64 mm.val]), sld undef L 8 (.bool true), sld undef L 9 (.bool true)], defers := [] }
def SplW (U : World) (mm : Pl.Mac) (vr : MV) (L : Array Bool) (w : World) : Prop := Below U.heap.size U w ∧ (up L 6 = true → MIs 0 w vr mm)
theorem SplW.keep {U : World} {mm : Pl.Mac} {vr : MV} {L : Array Bool} {w : World} (h : SplW U mm vr L w) {i : Nat} (hi : i < L.size) (n6 : i ≠ 6) {w' : World} (hB : Below w.heap.size w w') : SplW U mm vr (L.setIfInBounds i true) w' :=
  ⟨h.1.trans (hB.mono h.1.size), fun q => by rw [up_set hi, if_neg n6] at q; exact (h.2 q).keep hB⟩
set_option maxRecDepth 8000 in
set_option maxHeartbeats 8000000 in
theorem fnSplit_walk (a0 : Option Addr) (len0 cap0 : Nat) (a1 : Option Addr) (len1 cap1 : Nat) (w : World) (h0 : IsBytes w a0 len0 cap0) (hl1 : len1 ≤ 9223372036854775807) (ht : Tabs w) :
    Calls Tryz.prog 3 #[.slice a0 len0 cap0, .slice a1 len1 cap1] w fun e w' => e = .returned (.bool true) ∧ Below w.heap.size w w' := by
  have HI : Hid (IsBytes w a0 len0 cap0) := h0
  have HT : Hid (Tabs w) := ht
  clear h0 ht
  by_cases hb0 : 1048576 < len0
  · have e0 : decide (1048576 < (len0 : Int)) = true := by simp; omega
    go_enter Tryz.func3, Tryz.ntmps3
    go_wp2
    go_ret
    exact ⟨rfl, Below.refl _ _⟩
  · have e0 : decide (1048576 < (len0 : Int)) = false := by simp; omega
    by_cases hb1 : 1048576 < len1
    · have e1 : decide (1048576 < (len1 : Int)) = true := by simp; omega
      go_enter Tryz.func3, Tryz.ntmps3
      go_wp2
      go_ret
      exact ⟨rfl, Below.refl _ _⟩
    have e1 : decide (1048576 < (len1 : Int)) = false := by simp; omega
    obtain ⟨B, hB, hB4⟩ : ∃ B : Nat, (len1 : Int).tmod 400 = (B : Int) ∧ B < 400 := ⟨len1 % 400, by rw [Int.tmod_eq_emod_of_nonneg (by omega)]; omega, by omega⟩
    clear hb0 hb1
    go_enter Tryz.func3, Tryz.ntmps3
    go_wp2_with fail
    refine (drawRun_any w a0 len0 cap0 HI.out).mono ?_
    rintro e u1 ⟨v, m, k, rfl, hk, om, hsz, d1⟩
    have OM1 : Hid (MOwn w.heap.size u1 v m) := om
    have B1 : Hid (Below w.heap.size w u1) := d1
    have HS : Hid (Pl.mSize m ≤ 1048576) := (by show Pl.mSize m ≤ 1048576; omega)
    clear om d1 hsz
    go_wp2_with (refine wpList_store_row rfl 25 _ _ rfl (u1.heap.size) #[.slice v.code.a v.code.len v.code.cap, .int .i64 m.pc, .slice v.regs.a v.regs.len v.regs.cap, .slice v.data.a v.data.len v.data.cap, .slice v.stk.a v.stk.len v.stk.cap, .slice v.inp.a v.inp.len v.inp.cap, .slice v.out.a v.out.len v.out.cap, .int .i64 m.steps, .int .i64 m.fin, .int .i64 m.val] ?hx ?hy 25 #[.slice none 0 0, .int .i64 0, .slice none 0 0, .slice none 0 0, .slice none 0 0, .slice none 0 0, .slice none 0 0, .int .i64 0, .int .i64 0, .int .i64 0] ?hg ?hi ?ho ?h1 ?_; (case hx => rfl); (case hy => rfl); (case hg => exact heap_alloc_new u1 _); (case hi => kernel_rfl); (case ho => kernel_rfl); (case h1 => kernel_rfl); refine Hid.out ?_)
    unfold Hid
    rw [World.setRow_alloc_new]
    refine wpList_at fun u2 hu2 => ?_
    have d2 : Below u1.heap.size u1 u2 := by rw [hu2]; exact below_alloc u1 _
    have RM2 : Hid (u2.heap[u1.heap.size]? = some (.cells #[.slice v.code.a v.code.len v.code.cap, .int .i64 m.pc, .slice v.regs.a v.regs.len v.regs.cap, .slice v.data.a v.data.len v.data.cap, .slice v.stk.a v.stk.len v.stk.cap, .slice v.inp.a v.inp.len v.inp.cap, .slice v.out.a v.out.len v.out.cap, .int .i64 m.steps, .int .i64 m.fin, .int .i64 m.val] 25)) := by show u2.heap[u1.heap.size]? = _; rw [hu2]; exact heap_alloc_new u1 _
    have ZM2 : Hid (u1.heap.size < u2.heap.size) := by show u1.heap.size < u2.heap.size; rw [hu2]; simp
    clear hu2
    have OM2 : Hid (MOwn w.heap.size u2 v m) := OM1.out.keep d2
    have B2 : Hid (Below w.heap.size w u2) := B1.out.trans (d2.mono B1.out.size)
    clear d2 OM1 B1
    obtain ⟨gM, hgM⟩ : ∃ g, g = u1.heap.size := ⟨_, rfl⟩
    rw [← hgM] at RM2 ZM2 ⊢
    clear hgM
    obtain ⟨A, hA, hA3⟩ : ∃ A : Nat, (A : Int) = (if (k : Int) - 2 < 0 then 0 else (k : Int) - 2) ∧ A ≤ 255 := ⟨k - 2, by split <;> omega, by omega⟩
    go_upto_if 25 with fail
    go_cut [6] from 24 to 25 (fun s6 wx => s6 = .int .i64 (A : Int) ∧ wx = u2)
    case first =>
      by_cases hk2 : (k : Int) - 2 < 0
      · rw [if_pos hk2] at hA
        have t0 : decide ((k : Int) - 2 < 0) = true := by simpa using hk2
        go_wp2_with fail
        all_goals first | (exfalso; omega) | (go_meet; exact ⟨by rw [hA], rfl⟩)
      · rw [if_neg hk2] at hA
        have t0 : decide ((k : Int) - 2 < 0) = false := by simpa using hk2
        go_wp2_with fail
        all_goals first | (exfalso; omega) | (go_meet; exact ⟨by rw [hA], rfl⟩)
    case rest =>
    obtain ⟨rfl, hwc⟩ := hcut
    rw [hwc]
    clear hwc hA hk
    have hab : IntKind.i64.wrap ((A : Int) + (B : Int)) = (A : Int) + (B : Int) := by rw [IntKind.wrap_i64]; omega
    obtain ⟨T, hT, hT6⟩ : ∃ T : Nat, (A : Int) + (B : Int) = (T : Int) ∧ T ≤ 655 := ⟨A + B, by omega, by omega⟩
    have hTn : A + B = T := by omega
    rw [hT] at hab
    go_wp2_with (refine wpList_load_row rfl 25 _ rfl (gM) ?hx 25 #[.slice v.code.a v.code.len v.code.cap, .int .i64 m.pc, .slice v.regs.a v.regs.len v.regs.cap, .slice v.data.a v.data.len v.data.cap, .slice v.stk.a v.stk.len v.stk.cap, .slice v.inp.a v.inp.len v.inp.cap, .slice v.out.a v.out.len v.out.cap, .int .i64 m.steps, .int .i64 m.fin, .int .i64 m.val] (0, 0) _ ?hg Tryz.underlying25 ?hd ?hi ?_; (case hx => rfl); (case hg => exact RM2.out); (case hd => rfl); (case hi => kernel_rfl))
    refine (specRun_any v m u2 OM2.out.is HS.out (T : Int) (by omega)).mono ?_
    rintro e u3 ⟨vw, mm, hmm, rfl, ow, _, d3⟩
    have OW3 : Hid (MOwn u2.heap.size u3 vw mm) := ow
    have HMM : Hid (mm = Pl.runM m (T : Int)) := hmm
    clear ow hmm
    have RM3 : Hid (u3.heap[gM]? = some (.cells #[.slice v.code.a v.code.len v.code.cap, .int .i64 m.pc, .slice v.regs.a v.regs.len v.regs.cap, .slice v.data.a v.data.len v.data.cap, .slice v.stk.a v.stk.len v.stk.cap, .slice v.inp.a v.inp.len v.inp.cap, .slice v.out.a v.out.len v.out.cap, .int .i64 m.steps, .int .i64 m.fin, .int .i64 m.val] 25)) := (d3.block _ ZM2.out).trans RM2.out
    have ZM3 : Hid (gM < u3.heap.size) := Nat.lt_of_lt_of_le ZM2.out d3.size
    have OM3 : Hid (MOwn w.heap.size u3 v m) := OM2.out.keep d3
    have B3 : Hid (Below w.heap.size w u3) := B2.out.trans (d3.mono B2.out.size)
    clear d3 RM2 ZM2 OM2 B2
    go_wp2_with (refine wpList_store_row rfl 25 _ _ rfl (u3.heap.size) #[.slice vw.code.a vw.code.len vw.code.cap, .int .i64 mm.pc, .slice vw.regs.a vw.regs.len vw.regs.cap, .slice vw.data.a vw.data.len vw.data.cap, .slice vw.stk.a vw.stk.len vw.stk.cap, .slice vw.inp.a vw.inp.len vw.inp.cap, .slice vw.out.a vw.out.len vw.out.cap, .int .i64 mm.steps, .int .i64 mm.fin, .int .i64 mm.val] ?hx ?hy 25 #[.slice none 0 0, .int .i64 0, .slice none 0 0, .slice none 0 0, .slice none 0 0, .slice none 0 0, .slice none 0 0, .int .i64 0, .int .i64 0, .int .i64 0] ?hg ?hi ?ho ?h1 ?_; (case hx => rfl); (case hy => rfl); (case hg => exact heap_alloc_new u3 _); (case hi => kernel_rfl); (case ho => kernel_rfl); (case h1 => kernel_rfl); refine Hid.out ?_)
    unfold Hid
    rw [World.setRow_alloc_new]
    refine wpList_at fun u4 hu4 => ?_
    have d4 : Below u3.heap.size u3 u4 := by rw [hu4]; exact below_alloc u3 _
    have RW4 : Hid (u4.heap[u3.heap.size]? = some (.cells #[.slice vw.code.a vw.code.len vw.code.cap, .int .i64 mm.pc, .slice vw.regs.a vw.regs.len vw.regs.cap, .slice vw.data.a vw.data.len vw.data.cap, .slice vw.stk.a vw.stk.len vw.stk.cap, .slice vw.inp.a vw.inp.len vw.inp.cap, .slice vw.out.a vw.out.len vw.out.cap, .int .i64 mm.steps, .int .i64 mm.fin, .int .i64 mm.val] 25)) := by show u4.heap[u3.heap.size]? = _; rw [hu4]; exact heap_alloc_new u3 _
    have ZW4 : Hid (u3.heap.size < u4.heap.size) := by show u3.heap.size < u4.heap.size; rw [hu4]; simp
    clear hu4
    have RM4 : Hid (u4.heap[gM]? = some (.cells #[.slice v.code.a v.code.len v.code.cap, .int .i64 m.pc, .slice v.regs.a v.regs.len v.regs.cap, .slice v.data.a v.data.len v.data.cap, .slice v.stk.a v.stk.len v.stk.cap, .slice v.inp.a v.inp.len v.inp.cap, .slice v.out.a v.out.len v.out.cap, .int .i64 m.steps, .int .i64 m.fin, .int .i64 m.val] 25)) := (d4.block _ ZM3.out).trans RM3.out
    have ZM4 : Hid (gM < u4.heap.size) := Nat.lt_of_lt_of_le ZM3.out d4.size
    have OM4 : Hid (MOwn w.heap.size u4 v m) := OM3.out.keep d4
    have OW4 : Hid (MOwn u2.heap.size u4 vw mm) := OW3.out.keep d4
    have B4 : Hid (Below w.heap.size w u4) := B3.out.trans (d4.mono B3.out.size)
    clear d4 RM3 ZM3 OM3 OW3 B3
    obtain ⟨gW, hgW⟩ : ∃ g, g = u3.heap.size := ⟨_, rfl⟩
    rw [← hgW] at RW4 ZW4 ⊢
    clear hgW
    go_wp2_with (refine wpList_load_row rfl 25 _ rfl (gM) ?hx 25 #[.slice v.code.a v.code.len v.code.cap, .int .i64 m.pc, .slice v.regs.a v.regs.len v.regs.cap, .slice v.data.a v.data.len v.data.cap, .slice v.stk.a v.stk.len v.stk.cap, .slice v.inp.a v.inp.len v.inp.cap, .slice v.out.a v.out.len v.out.cap, .int .i64 m.steps, .int .i64 m.fin, .int .i64 m.val] (0, 0) _ ?hg Tryz.underlying25 ?hd ?hi ?_; (case hx => rfl); (case hg => exact RM4.out); (case hd => rfl); (case hi => kernel_rfl))
    refine (implRun_row v m u4 OM4.out.is HS.out (HT.out.within B4.out) (T : Int) (by omega)).mono ?_
    rintro e u5 ⟨vg, mg, hmg, rfl, og, _, d5⟩
    obtain rfl : mm = mg := HMM.out.trans hmg.symm
    have OG5 : Hid (WrM u4.heap.size u5 vg mm) := og
    clear og hmg
    have RM5 : Hid (u5.heap[gM]? = some (.cells #[.slice v.code.a v.code.len v.code.cap, .int .i64 m.pc, .slice v.regs.a v.regs.len v.regs.cap, .slice v.data.a v.data.len v.data.cap, .slice v.stk.a v.stk.len v.stk.cap, .slice v.inp.a v.inp.len v.inp.cap, .slice v.out.a v.out.len v.out.cap, .int .i64 m.steps, .int .i64 m.fin, .int .i64 m.val] 25)) := (d5.block _ ZM4.out).trans RM4.out
    have ZM5 : Hid (gM < u5.heap.size) := Nat.lt_of_lt_of_le ZM4.out d5.size
    have RW5 : Hid (u5.heap[gW]? = some (.cells #[.slice vw.code.a vw.code.len vw.code.cap, .int .i64 mm.pc, .slice vw.regs.a vw.regs.len vw.regs.cap, .slice vw.data.a vw.data.len vw.data.cap, .slice vw.stk.a vw.stk.len vw.stk.cap, .slice vw.inp.a vw.inp.len vw.inp.cap, .slice vw.out.a vw.out.len vw.out.cap, .int .i64 mm.steps, .int .i64 mm.fin, .int .i64 mm.val] 25)) := (d5.block _ ZW4.out).trans RW4.out
    have ZW5 : Hid (gW < u5.heap.size) := Nat.lt_of_lt_of_le ZW4.out d5.size
    have OM5 : Hid (MOwn w.heap.size u5 v m) := OM4.out.keep d5
    have OW5 : Hid (MOwn u2.heap.size u5 vw mm) := OW4.out.keep d5
    have B5 : Hid (Below w.heap.size w u5) := B4.out.trans (d5.mono B4.out.size)
    clear d5 RM4 ZM4 RW4 ZW4 OM4 OW4 B4
    go_wp2_with (refine wpList_store_row rfl 25 _ _ rfl (u5.heap.size) #[.slice vg.code.a vg.code.len vg.code.cap, .int .i64 mm.pc, .slice vg.regs.a vg.regs.len vg.regs.cap, .slice vg.data.a vg.data.len vg.data.cap, .slice vg.stk.a vg.stk.len vg.stk.cap, .slice vg.inp.a vg.inp.len vg.inp.cap, .slice vg.out.a vg.out.len vg.out.cap, .int .i64 mm.steps, .int .i64 mm.fin, .int .i64 mm.val] ?hx ?hy 25 #[.slice none 0 0, .int .i64 0, .slice none 0 0, .slice none 0 0, .slice none 0 0, .slice none 0 0, .slice none 0 0, .int .i64 0, .int .i64 0, .int .i64 0] ?hg ?hi ?ho ?h1 ?_; (case hx => rfl); (case hy => rfl); (case hg => exact heap_alloc_new u5 _); (case hi => kernel_rfl); (case ho => kernel_rfl); (case h1 => kernel_rfl); refine Hid.out ?_)
    unfold Hid
    rw [World.setRow_alloc_new]
    refine wpList_at fun u6 hu6 => ?_
    have d6 : Below u5.heap.size u5 u6 := by rw [hu6]; exact below_alloc u5 _
    have RG6 : Hid (u6.heap[u5.heap.size]? = some (.cells #[.slice vg.code.a vg.code.len vg.code.cap, .int .i64 mm.pc, .slice vg.regs.a vg.regs.len vg.regs.cap, .slice vg.data.a vg.data.len vg.data.cap, .slice vg.stk.a vg.stk.len vg.stk.cap, .slice vg.inp.a vg.inp.len vg.inp.cap, .slice vg.out.a vg.out.len vg.out.cap, .int .i64 mm.steps, .int .i64 mm.fin, .int .i64 mm.val] 25)) := by show u6.heap[u5.heap.size]? = _; rw [hu6]; exact heap_alloc_new u5 _
    have ZG6 : Hid (u5.heap.size < u6.heap.size) := by show u5.heap.size < u6.heap.size; rw [hu6]; simp
    clear hu6
    have RM6 : Hid (u6.heap[gM]? = some (.cells #[.slice v.code.a v.code.len v.code.cap, .int .i64 m.pc, .slice v.regs.a v.regs.len v.regs.cap, .slice v.data.a v.data.len v.data.cap, .slice v.stk.a v.stk.len v.stk.cap, .slice v.inp.a v.inp.len v.inp.cap, .slice v.out.a v.out.len v.out.cap, .int .i64 m.steps, .int .i64 m.fin, .int .i64 m.val] 25)) := (d6.block _ ZM5.out).trans RM5.out
    have ZM6 : Hid (gM < u6.heap.size) := Nat.lt_of_lt_of_le ZM5.out d6.size
    have RW6 : Hid (u6.heap[gW]? = some (.cells #[.slice vw.code.a vw.code.len vw.code.cap, .int .i64 mm.pc, .slice vw.regs.a vw.regs.len vw.regs.cap, .slice vw.data.a vw.data.len vw.data.cap, .slice vw.stk.a vw.stk.len vw.stk.cap, .slice vw.inp.a vw.inp.len vw.inp.cap, .slice vw.out.a vw.out.len vw.out.cap, .int .i64 mm.steps, .int .i64 mm.fin, .int .i64 mm.val] 25)) := (d6.block _ ZW5.out).trans RW5.out
    have ZW6 : Hid (gW < u6.heap.size) := Nat.lt_of_lt_of_le ZW5.out d6.size
    have OM6 : Hid (MOwn w.heap.size u6 v m) := OM5.out.keep d6
    have OW6 : Hid (MOwn u2.heap.size u6 vw mm) := OW5.out.keep d6
    have OG6 : Hid (WrM u4.heap.size u6 vg mm) := OG5.out.keep d6
    have B6 : Hid (Below w.heap.size w u6) := B5.out.trans (d6.mono B5.out.size)
    clear d6 RM5 ZM5 RW5 ZW5 OM5 OW5 OG5 B5
    obtain ⟨gG, hgG⟩ : ∃ g, g = u5.heap.size := ⟨_, rfl⟩
    rw [← hgG] at RG6 ZG6 ⊢
    clear hgG
    go_wp2_with (refine wpList_load_row rfl 25 _ rfl (gM) ?hx 25 #[.slice v.code.a v.code.len v.code.cap, .int .i64 m.pc, .slice v.regs.a v.regs.len v.regs.cap, .slice v.data.a v.data.len v.data.cap, .slice v.stk.a v.stk.len v.stk.cap, .slice v.inp.a v.inp.len v.inp.cap, .slice v.out.a v.out.len v.out.cap, .int .i64 m.steps, .int .i64 m.fin, .int .i64 m.val] (0, 0) _ ?hg Tryz.underlying25 ?hd ?hi ?_; (case hx => rfl); (case hg => exact RM6.out); (case hd => rfl); (case hi => kernel_rfl))
    refine (implRun_row v m u6 OM6.out.is HS.out (HT.out.within B6.out) (A : Int) (by omega)).mono ?_
    rintro e u7 ⟨vf, mf, hmf, rfl, of, _, d7⟩
    have OF7 : Hid (WrM u6.heap.size u7 vf mf) := of
    have HMF : Hid (mf = Pl.runM m (A : Int)) := hmf
    clear of hmf
    have RM7 : Hid (u7.heap[gM]? = some (.cells #[.slice v.code.a v.code.len v.code.cap, .int .i64 m.pc, .slice v.regs.a v.regs.len v.regs.cap, .slice v.data.a v.data.len v.data.cap, .slice v.stk.a v.stk.len v.stk.cap, .slice v.inp.a v.inp.len v.inp.cap, .slice v.out.a v.out.len v.out.cap, .int .i64 m.steps, .int .i64 m.fin, .int .i64 m.val] 25)) := (d7.block _ ZM6.out).trans RM6.out
    have ZM7 : Hid (gM < u7.heap.size) := Nat.lt_of_lt_of_le ZM6.out d7.size
    have RW7 : Hid (u7.heap[gW]? = some (.cells #[.slice vw.code.a vw.code.len vw.code.cap, .int .i64 mm.pc, .slice vw.regs.a vw.regs.len vw.regs.cap, .slice vw.data.a vw.data.len vw.data.cap, .slice vw.stk.a vw.stk.len vw.stk.cap, .slice vw.inp.a vw.inp.len vw.inp.cap, .slice vw.out.a vw.out.len vw.out.cap, .int .i64 mm.steps, .int .i64 mm.fin, .int .i64 mm.val] 25)) := (d7.block _ ZW6.out).trans RW6.out
    have ZW7 : Hid (gW < u7.heap.size) := Nat.lt_of_lt_of_le ZW6.out d7.size
    have RG7 : Hid (u7.heap[gG]? = some (.cells #[.slice vg.code.a vg.code.len vg.code.cap, .int .i64 mm.pc, .slice vg.regs.a vg.regs.len vg.regs.cap, .slice vg.data.a vg.data.len vg.data.cap, .slice vg.stk.a vg.stk.len vg.stk.cap, .slice vg.inp.a vg.inp.len vg.inp.cap, .slice vg.out.a vg.out.len vg.out.cap, .int .i64 mm.steps, .int .i64 mm.fin, .int .i64 mm.val] 25)) := (d7.block _ ZG6.out).trans RG6.out
    have ZG7 : Hid (gG < u7.heap.size) := Nat.lt_of_lt_of_le ZG6.out d7.size
    have OM7 : Hid (MOwn w.heap.size u7 v m) := OM6.out.keep d7
    have OW7 : Hid (MOwn u2.heap.size u7 vw mm) := OW6.out.keep d7
    have OG7 : Hid (WrM u4.heap.size u7 vg mm) := OG6.out.keep d7
    have B7 : Hid (Below w.heap.size w u7) := B6.out.trans (d7.mono B6.out.size)
    clear d7 RM6 ZM6 RW6 ZW6 RG6 ZG6 OM6 OW6 OG6 B6
    go_wp2_with (refine wpList_store_row rfl 25 _ _ rfl (u7.heap.size) #[.slice vf.code.a vf.code.len vf.code.cap, .int .i64 mf.pc, .slice vf.regs.a vf.regs.len vf.regs.cap, .slice vf.data.a vf.data.len vf.data.cap, .slice vf.stk.a vf.stk.len vf.stk.cap, .slice vf.inp.a vf.inp.len vf.inp.cap, .slice vf.out.a vf.out.len vf.out.cap, .int .i64 mf.steps, .int .i64 mf.fin, .int .i64 mf.val] ?hx ?hy 25 #[.slice none 0 0, .int .i64 0, .slice none 0 0, .slice none 0 0, .slice none 0 0, .slice none 0 0, .slice none 0 0, .int .i64 0, .int .i64 0, .int .i64 0] ?hg ?hi ?ho ?h1 ?_; (case hx => rfl); (case hy => rfl); (case hg => exact heap_alloc_new u7 _); (case hi => kernel_rfl); (case ho => kernel_rfl); (case h1 => kernel_rfl); refine Hid.out ?_)
    unfold Hid
    rw [World.setRow_alloc_new]
    refine wpList_at fun u8 hu8 => ?_
    have d8 : Below u7.heap.size u7 u8 := by rw [hu8]; exact below_alloc u7 _
    have RF8 : Hid (u8.heap[u7.heap.size]? = some (.cells #[.slice vf.code.a vf.code.len vf.code.cap, .int .i64 mf.pc, .slice vf.regs.a vf.regs.len vf.regs.cap, .slice vf.data.a vf.data.len vf.data.cap, .slice vf.stk.a vf.stk.len vf.stk.cap, .slice vf.inp.a vf.inp.len vf.inp.cap, .slice vf.out.a vf.out.len vf.out.cap, .int .i64 mf.steps, .int .i64 mf.fin, .int .i64 mf.val] 25)) := by show u8.heap[u7.heap.size]? = _; rw [hu8]; exact heap_alloc_new u7 _
    have ZF8 : Hid (u7.heap.size < u8.heap.size) := by show u7.heap.size < u8.heap.size; rw [hu8]; simp
    clear hu8
    have RM8 : Hid (u8.heap[gM]? = some (.cells #[.slice v.code.a v.code.len v.code.cap, .int .i64 m.pc, .slice v.regs.a v.regs.len v.regs.cap, .slice v.data.a v.data.len v.data.cap, .slice v.stk.a v.stk.len v.stk.cap, .slice v.inp.a v.inp.len v.inp.cap, .slice v.out.a v.out.len v.out.cap, .int .i64 m.steps, .int .i64 m.fin, .int .i64 m.val] 25)) := (d8.block _ ZM7.out).trans RM7.out
    have ZM8 : Hid (gM < u8.heap.size) := Nat.lt_of_lt_of_le ZM7.out d8.size
    have RW8 : Hid (u8.heap[gW]? = some (.cells #[.slice vw.code.a vw.code.len vw.code.cap, .int .i64 mm.pc, .slice vw.regs.a vw.regs.len vw.regs.cap, .slice vw.data.a vw.data.len vw.data.cap, .slice vw.stk.a vw.stk.len vw.stk.cap, .slice vw.inp.a vw.inp.len vw.inp.cap, .slice vw.out.a vw.out.len vw.out.cap, .int .i64 mm.steps, .int .i64 mm.fin, .int .i64 mm.val] 25)) := (d8.block _ ZW7.out).trans RW7.out
    have ZW8 : Hid (gW < u8.heap.size) := Nat.lt_of_lt_of_le ZW7.out d8.size
    have RG8 : Hid (u8.heap[gG]? = some (.cells #[.slice vg.code.a vg.code.len vg.code.cap, .int .i64 mm.pc, .slice vg.regs.a vg.regs.len vg.regs.cap, .slice vg.data.a vg.data.len vg.data.cap, .slice vg.stk.a vg.stk.len vg.stk.cap, .slice vg.inp.a vg.inp.len vg.inp.cap, .slice vg.out.a vg.out.len vg.out.cap, .int .i64 mm.steps, .int .i64 mm.fin, .int .i64 mm.val] 25)) := (d8.block _ ZG7.out).trans RG7.out
    have ZG8 : Hid (gG < u8.heap.size) := Nat.lt_of_lt_of_le ZG7.out d8.size
    have OM8 : Hid (MOwn w.heap.size u8 v m) := OM7.out.keep d8
    have OW8 : Hid (MOwn u2.heap.size u8 vw mm) := OW7.out.keep d8
    have OG8 : Hid (WrM u4.heap.size u8 vg mm) := OG7.out.keep d8
    have OF8 : Hid (WrM u6.heap.size u8 vf mf) := OF7.out.keep d8
    have B8 : Hid (Below w.heap.size w u8) := B7.out.trans (d8.mono B7.out.size)
    clear d8 RM7 ZM7 RW7 ZW7 RG7 ZG7 OM7 OW7 OG7 OF7 B7
    obtain ⟨gF, hgF⟩ : ∃ g, g = u7.heap.size := ⟨_, rfl⟩
    rw [← hgF] at RF8 ZF8 ⊢
    clear hgF
    have hsf : Pl.mSize mf ≤ 1048576 := by rw [HMF.out]; exact Pl.runM_size HS.out (inp_in OM8.out.is) _
    have hmr : Pl.runM mf (B : Int) = mm := by rw [HMF.out, Pl.runM_add (inp_in OM8.out.is) A B, hTn, ← HMM.out]
    have HRF : Hid (∀ U, Below u8.heap.size u8 U → Calls Tryz.prog 9 #[.agg #[.slice vf.code.a vf.code.len vf.code.cap, .int .i64 mf.pc, .slice vf.regs.a vf.regs.len vf.regs.cap, .slice vf.data.a vf.data.len vf.data.cap, .slice vf.stk.a vf.stk.len vf.stk.cap, .slice vf.inp.a vf.inp.len vf.inp.cap, .slice vf.out.a vf.out.len vf.out.cap, .int .i64 mf.steps, .int .i64 mf.fin, .int .i64 mf.val], .int .i64 (B : Int)] U fun e w' => ∃ vr : MV, e = .returned (.agg #[.slice vr.code.a vr.code.len vr.code.cap, .int .i64 mm.pc, .slice vr.regs.a vr.regs.len vr.regs.cap, .slice vr.data.a vr.data.len vr.data.cap, .slice vr.stk.a vr.stk.len vr.stk.cap, .slice vr.inp.a vr.inp.len vr.inp.cap, .slice vr.out.a vr.out.len vr.out.cap, .int .i64 mm.steps, .int .i64 mm.fin, .int .i64 mm.val]) ∧ MIs 0 w' vr mm ∧ Below U.heap.size U w') := fun U hU => by
      refine (implRun_row vf mf U (OF8.out.is.keep hU) hsf (HT.out.within (B8.out.trans (hU.mono B8.out.size))) (B : Int) (by omega)).mono ?_
      rintro e w' ⟨vr, mr, hr, rfl, o, _, d⟩
      obtain rfl : mm = mr := (hr.trans hmr).symm
      exact ⟨vr, rfl, ⟨o.is.1.lower (Nat.zero_le _), o.is.2.1.lower (Nat.zero_le _), o.is.2.2.1.lower (Nat.zero_le _), o.is.2.2.2.1.lower (Nat.zero_le _), o.is.2.2.2.2.1.lower (Nat.zero_le _), o.is.2.2.2.2.2.lower (Nat.zero_le _)⟩, d⟩
    clear hsf hmr
    go_upto_region 10 with fail
    have kG : ∀ w', Below u8.heap.size u8 w' → ∀ j, w'.cell? ⟨gG, j, none⟩ = (#[.slice vg.code.a vg.code.len vg.code.cap, .int .i64 mm.pc, .slice vg.regs.a vg.regs.len vg.regs.cap, .slice vg.data.a vg.data.len vg.data.cap, .slice vg.stk.a vg.stk.len vg.stk.cap, .slice vg.inp.a vg.inp.len vg.inp.cap, .slice vg.out.a vg.out.len vg.out.cap, .int .i64 mm.steps, .int .i64 mm.fin, .int .i64 mm.val] : Array Value)[j]? := fun w' hw j => cell_of_row w' gG j _ 25 (0, 0) ((hw.block _ ZG8.out).trans RG8.out)
    have kW : ∀ w', Below u8.heap.size u8 w' → ∀ j, w'.cell? ⟨gW, j, none⟩ = (#[.slice vw.code.a vw.code.len vw.code.cap, .int .i64 mm.pc, .slice vw.regs.a vw.regs.len vw.regs.cap, .slice vw.data.a vw.data.len vw.data.cap, .slice vw.stk.a vw.stk.len vw.stk.cap, .slice vw.inp.a vw.inp.len vw.inp.cap, .slice vw.out.a vw.out.len vw.out.cap, .int .i64 mm.steps, .int .i64 mm.fin, .int .i64 mm.val] : Array Value)[j]? := fun w' hw j => cell_of_row w' gW j _ 25 (0, 0) ((hw.block _ ZW8.out).trans RW8.out)
    have kF : ∀ w', Below u8.heap.size u8 w' → ∀ j, w'.cell? ⟨gF, j, none⟩ = (#[.slice vf.code.a vf.code.len vf.code.cap, .int .i64 mf.pc, .slice vf.regs.a vf.regs.len vf.regs.cap, .slice vf.data.a vf.data.len vf.data.cap, .slice vf.stk.a vf.stk.len vf.stk.cap, .slice vf.inp.a vf.inp.len vf.inp.cap, .slice vf.out.a vf.out.len vf.out.cap, .int .i64 mf.steps, .int .i64 mf.fin, .int .i64 mf.val] : Array Value)[j]? := fun w' hw j => cell_of_row w' gF j _ 25 (0, 0) ((hw.block _ ZF8.out).trans RF8.out)
    obtain ⟨U, hU⟩ : ∃ U, U = u8.drew := ⟨_, rfl⟩
    have dU : Below u8.heap.size u8 U := by rw [hU]; exact (Below.refl _ _).drew
    refine wp_region_any (by kernel_rfl) ?_
    change wpAny _ _ _ _ _ _ _ (World.drew _)
    rw [← hU]
    refine wpAny_inw (fun L act w' => ∃ vr, act = SplMk a0 a1 len0 cap0 len1 cap1 gM gW gG gF k A B T v vw vg vf m mm mf u24 u25 vr L ∧ SplW u8 mm vr L w') ?done (by kernel_rfl) ?step _ 11 _ _ (by kernel_rfl) ?init (by decide)
    case init => exact ⟨v, by simp only [SplMk, sld_no (up_init _ _)], dU, fun q => absurd (q.symm.trans (up_init _ _)) (by decide)⟩
    case step =>
      intro L act w i o hI hlt hs nl hC hd ho K hK
      obtain ⟨vr, rfl, hW⟩ := hI
      have hi_lt : i < 11 := (Array.getElem?_eq_some_iff.1 ho).1
      rcases (show i = 0 ∨ i = 1 ∨ i = 2 ∨ i = 3 ∨ i = 4 ∨ i = 5 ∨ i = 6 ∨ i = 7 ∨ i = 8 ∨ i = 9 ∨ i = 10 by omega) with rfl | rfl | rfl | rfl | rfl | rfl | rfl | rfl | rfl | rfl | rfl
      · change some _ = some o at ho
        cases ho
        have kj := kG w hW.1
        simp only [SplMk]
        go_simp
        exact hK _ _ ⟨vr, by simp only [SplMk, sld_set hlt, reduceIte, Nat.reduceEqDiff]; try rfl, (hW.keep hlt (by decide) (Below.refl _ _))⟩
      · change some _ = some o at ho
        cases ho
        have kj := kW w hW.1
        simp only [SplMk]
        go_simp
        exact hK _ _ ⟨vr, by simp only [SplMk, sld_set hlt, reduceIte, Nat.reduceEqDiff]; try rfl, (hW.keep hlt (by decide) (Below.refl _ _))⟩
      · change some _ = some o at ho
        cases ho
        have q0 : up L 0 = true := (by first | exact hd { on := 0, ground := .data } (by simp) rfl | exact hd { on := 0, ground := .chain } (by simp) rfl | exact hd { on := 0, ground := .phase } (by simp) rfl)
        have q1 : up L 1 = true := (by first | exact hd { on := 1, ground := .data } (by simp) rfl | exact hd { on := 1, ground := .chain } (by simp) rfl | exact hd { on := 1, ground := .phase } (by simp) rfl)
        simp only [SplMk, sld_yes q0, sld_yes q1]
        go_simp
        refine (sameMachine_same vg vw mm w (OG8.out.is.keep hW.1) (OW8.out.is.keep hW.1)).mono ?_
        rintro e z ⟨rfl, dz⟩
        go_simp
        exact hK _ _ ⟨vr, by simp only [SplMk, sld_set hlt, sld_yes q0, sld_yes q1, reduceIte, Nat.reduceEqDiff]; try rfl, (hW.keep hlt (by decide) dz)⟩
      · change some _ = some o at ho
        cases ho
        have q2 : up L 2 = true := (by first | exact hd { on := 2, ground := .data } (by simp) rfl | exact hd { on := 2, ground := .chain } (by simp) rfl | exact hd { on := 2, ground := .phase } (by simp) rfl)
        simp only [SplMk, sld_yes q2]
        go_simp
        exact hK _ _ ⟨vr, by simp only [SplMk, sld_set hlt, sld_yes q2, reduceIte, Nat.reduceEqDiff]; try rfl, (hW.keep hlt (by decide) (Below.refl _ _))⟩
      · change some _ = some o at ho
        cases ho
        have q3 : up L 3 = true := (hd { on := 3, ground := .guard } (by simp) rfl)
        have kj := kF w hW.1
        simp only [SplMk, sld_yes q3]
        go_simp
        exact hK _ _ ⟨vr, by simp only [SplMk, sld_set hlt, sld_yes q3, reduceIte, Nat.reduceEqDiff]; try rfl, (hW.keep hlt (by decide) (Below.refl _ _))⟩
      · change some _ = some o at ho
        cases ho
        have q3 : up L 3 = true := (hd { on := 3, ground := .guard } (by simp) rfl)
        simp only [SplMk, sld_yes q3]
        go_simp
        exact hK _ _ ⟨vr, by simp only [SplMk, sld_set hlt, sld_yes q3, reduceIte, Nat.reduceEqDiff]; try rfl, (hW.keep hlt (by decide) (Below.refl _ _))⟩
      · change some _ = some o at ho
        cases ho
        have q3 : up L 3 = true := (hd { on := 3, ground := .guard } (by simp) rfl)
        have q4 : up L 4 = true := (by first | exact hd { on := 4, ground := .data } (by simp) rfl | exact hd { on := 4, ground := .chain } (by simp) rfl | exact hd { on := 4, ground := .phase } (by simp) rfl)
        have q5 : up L 5 = true := (by first | exact hd { on := 5, ground := .data } (by simp) rfl | exact hd { on := 5, ground := .chain } (by simp) rfl | exact hd { on := 5, ground := .phase } (by simp) rfl)
        simp only [SplMk, sld_yes q3, sld_yes q4, sld_yes q5]
        go_simp
        refine (HRF.out w hW.1).mono ?_
        rintro e z ⟨vr', rfl, oz, dz⟩
        go_simp
        exact hK _ _ ⟨vr', by simp only [SplMk, sld_set hlt, sld_yes q3, sld_yes q4, sld_yes q5, reduceIte, Nat.reduceEqDiff]; try rfl, ⟨hW.1.trans (dz.mono hW.1.size), fun _ => oz⟩⟩
      · change some _ = some o at ho
        cases ho
        have q3 : up L 3 = true := (hd { on := 3, ground := .guard } (by simp) rfl)
        have kj := kW w hW.1
        simp only [SplMk, sld_yes q3]
        go_simp
        exact hK _ _ ⟨vr, by simp only [SplMk, sld_set hlt, sld_yes q3, reduceIte, Nat.reduceEqDiff]; try rfl, (hW.keep hlt (by decide) (Below.refl _ _))⟩
      · change some _ = some o at ho
        cases ho
        have q3 : up L 3 = true := (hd { on := 3, ground := .guard } (by simp) rfl)
        have q6 : up L 6 = true := (by first | exact hd { on := 6, ground := .data } (by simp) rfl | exact hd { on := 6, ground := .chain } (by simp) rfl | exact hd { on := 6, ground := .phase } (by simp) rfl)
        have q7 : up L 7 = true := (by first | exact hd { on := 7, ground := .data } (by simp) rfl | exact hd { on := 7, ground := .chain } (by simp) rfl | exact hd { on := 7, ground := .phase } (by simp) rfl)
        simp only [SplMk, sld_yes q3, sld_yes q6, sld_yes q7]
        go_simp
        refine (sameMachine_same vr vw mm w (hW.2 q6) (OW8.out.is.keep hW.1)).mono ?_
        rintro e z ⟨rfl, dz⟩
        go_simp
        exact hK _ _ ⟨vr, by simp only [SplMk, sld_set hlt, sld_yes q3, sld_yes q6, sld_yes q7, reduceIte, Nat.reduceEqDiff]; try rfl, (hW.keep hlt (by decide) dz)⟩
      · change some _ = some o at ho
        cases ho
        have q3 : up L 3 = true := (by first | exact hd { on := 3, ground := .data } (by simp) rfl | exact hd { on := 3, ground := .chain } (by simp) rfl | exact hd { on := 3, ground := .phase } (by simp) rfl)
        have q8 : up L 8 = true := (by first | exact hd { on := 8, ground := .data } (by simp) rfl | exact hd { on := 8, ground := .chain } (by simp) rfl | exact hd { on := 8, ground := .phase } (by simp) rfl)
        simp only [SplMk, sld_yes q3, sld_yes q8]
        go_simp
        exact hK _ _ ⟨vr, by simp only [SplMk, sld_set hlt, sld_yes q3, sld_yes q8, reduceIte, Nat.reduceEqDiff]; try rfl, (hW.keep hlt (by decide) (Below.refl _ _))⟩
      · change some _ = some o at ho
        cases ho
        have q9 : up L 9 = true := (by first | exact hd { on := 9, ground := .data } (by simp) rfl | exact hd { on := 9, ground := .chain } (by simp) rfl | exact hd { on := 9, ground := .phase } (by simp) rfl)
        simp only [SplMk, sld_yes q9]
        go_simp
        exact hK _ _ ⟨vr, by simp only [SplMk, sld_set hlt, sld_yes q9, reduceIte, Nat.reduceEqDiff]; try rfl, (hW.keep hlt (by decide) (Below.refl _ _))⟩
    case done =>
      rintro L act u9 ⟨vr, rfl, hW⟩ hall
      have B9 : Hid (Below u8.heap.size u8 u9) := hW.1
      clear hW
      simp only [SplMk, sld_yes (hall 0 (by decide)), sld_yes (hall 1 (by decide)), sld_yes (hall 2 (by decide)), sld_yes (hall 3 (by decide)), sld_yes (hall 4 (by decide)), sld_yes (hall 5 (by decide)), sld_yes (hall 6 (by decide)), sld_yes (hall 7 (by decide)), sld_yes (hall 8 (by decide)), sld_yes (hall 9 (by decide)), sld_yes (hall 10 (by decide))]
      go_wp2
      go_ret
      exact ⟨rfl, B8.out.trans (B9.out.mono B8.out.size)⟩
end Go.Proofs.YtjdfffdeljgenaaGreatDoor.W
