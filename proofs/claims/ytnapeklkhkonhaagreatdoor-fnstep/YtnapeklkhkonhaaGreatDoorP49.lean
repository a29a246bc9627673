import Derived.Test.YtnapeklkhkonhaaGreatDoorP39
import Derived.Test.YtnapeklkhkonhaaGreatDoorP40
import Derived.Test.YtnapeklkhkonhaaGreatDoorP47
import Derived.Test.YtnapeklkhkonhaaGreatDoorP37
import Derived.Test.YtnapeklkhkonhaaGreatDoorP48
import Derived.Test.YtnapeklkhkonhaaGreatDoorP31
set_option linter.unusedVariables false
set_option linter.unusedSimpArgs false
namespace Go.Proofs.YtnapeklkhkonhaaGreatDoor.W
open Go.RowKit
def StpMk (a0 : Option Addr) (len0 cap0 gM gW gG : Nat) (v vw v5 vg : MV) (m mm : Pl.Mac) (B : Bool)  (L : Array Bool) : Act := { tmps := #[.slice a0 len0 cap0, undef, .bool false, .pointer (some ⟨gM, 0, none⟩), .pointer (some ⟨gW, 0, none⟩), .pointer (some ⟨gG, 0, none⟩), undef, undef, undef, .slice a0 len0 cap0, .int .i64 (len0 : Int), .bool false, .slice a0 len0 cap0, .agg #[.slice v.code.a v.code.len v.code.cap, .int .i64 m.pc, .slice v.regs.a v.regs.len v.regs.cap, .slice v.data.a v.data.len v.data.cap, .slice v.stk.a v.stk.len v.stk.cap, .slice v.inp.a v.inp.len v.inp.cap, .slice v.out.a v.out.len v.out.cap, .int .i64 m.steps, .int .i64 m.fin, .int .i64 m.val], .agg #[.slice v.code.a v.code.len v.code.cap, .int .i64 m.pc, .slice v.regs.a v.regs.len v.regs.cap, .slice v.data.a v.data.len v.data.cap, .slice v.stk.a v.stk.len v.stk.cap, .slice v.inp.a v.inp.len v.inp.cap, .slice v.out.a v.out.len v.out.cap, .int .i64 m.steps, .int .i64 m.fin, .int .i64 m.val], .agg #[.slice vw.code.a vw.code.len vw.code.cap, .int .i64 mm.pc, .slice vw.regs.a vw.regs.len vw.regs.cap, .slice vw.data.a vw.data.len vw.data.cap, .slice vw.stk.a vw.stk.len vw.stk.cap, .slice vw.inp.a vw.inp.len vw.inp.cap, .slice vw.out.a vw.out.len vw.out.cap, .int .i64 mm.steps, .int .i64 mm.fin, .int .i64 mm.val], .slice a0 len0 cap0, .agg #[.slice v5.code.a v5.code.len v5.code.cap, .int .i64 m.pc, .slice v5.regs.a v5.regs.len v5.regs.cap, .slice v5.data.a v5.data.len v5.data.cap, .slice v5.stk.a v5.stk.len v5.stk.cap, .slice v5.inp.a v5.inp.len v5.inp.cap, .slice v5.out.a v5.out.len v5.out.cap, .int .i64 m.steps, .int .i64 m.fin, .int .i64 m.val], .agg #[.slice vg.code.a vg.code.len vg.code.cap, .int .i64 mm.pc, .slice vg.regs.a vg.regs.len vg.regs.cap, .slice vg.data.a vg.data.len vg.data.cap, .slice vg.stk.a vg.stk.len vg.stk.cap, .slice vg.inp.a vg.inp.len vg.inp.cap, .slice vg.out.a vg.out.len vg.out.cap, .int .i64 mm.steps, .int .i64 mm.fin, .int .i64 mm.val], sl L 0 (.agg #[.slice vg.code.a vg.code.len vg.code.cap, .int .i64 mm.pc, .slice vg.regs.a vg.regs.len vg.regs.cap, .slice vg.data.a vg.data.len vg.data.cap, .slice vg.stk.a vg.stk.len vg.stk.cap, .slice vg.inp.a vg.inp.len vg.inp.cap, .slice vg.out.a vg.out.len vg.out.cap, .int .i64 mm.steps, .int .i64 mm.fin, .int .i64 mm.val]), sl L 1 (.agg #[.slice vw.code.a vw.code.len vw.code.cap, .int .i64 mm.pc, .slice vw.regs.a vw.regs.len vw.regs.cap, .slice vw.data.a vw.data.len vw.data.cap, .slice vw.stk.a vw.stk.len vw.stk.cap, .slice vw.inp.a vw.inp.len vw.inp.cap, .slice vw.out.a vw.out.len vw.out.cap, .int .i64 mm.steps, .int .i64 mm.fin, .int .i64 mm.val]), sl L 2 (.bool true), sl L 3 (.bool false), sl L 4 (.bool false), sl L 5 (.agg #[.slice v.code.a v.code.len v.code.cap, .int .i64 m.pc, .slice v.regs.a v.regs.len v.regs.cap, .slice v.data.a v.data.len v.data.cap, .slice v.stk.a v.stk.len v.stk.cap, .slice v.inp.a v.inp.len v.inp.cap, .slice v.out.a v.out.len v.out.cap, .int .i64 m.steps, .int .i64 m.fin, .int .i64 m.val]), sl L 6 (.bool B), sl L 7 (.agg #[.slice v.code.a v.code.len v.code.cap, .int .i64 m.pc, .slice v.regs.a v.regs.len v.regs.cap, .slice v.data.a v.data.len v.data.cap, .slice v.stk.a v.stk.len v.stk.cap, .slice v.inp.a v.inp.len v.inp.cap, .slice v.out.a v.out.len v.out.cap, .int .i64 m.steps, .int .i64 m.fin, .int .i64 m.val]), sl L 8 (.bool B), sl L 9 (.bool false), sl L 10 (.bool false), undef, undef, undef, undef, undef, undef, undef, undef, undef, undef, undef, undef, undef, undef, undef, undef, undef, undef, undef, undef, undef, undef, undef, undef, undef, undef, undef, undef, undef, undef, undef, undef, undef, undef, undef, undef, undef, undef, undef, undef, undef, undef, undef, undef, undef, undef, undef, undef, undef, undef, undef, undef, undef, undef, undef, undef, undef, undef, undef, undef, undef, undef, undef, undef, undef, undef, undef, undef], defers := [] }
set_option maxRecDepth 8000 in
set_option maxHeartbeats 8000000 in
theorem fnStep_walk (a0 : Option Addr) (len0 cap0 : Nat) (w : World) (h0 : IsBytes w a0 len0 cap0) (ht : Tabs w) :
    Calls Tryz.prog 3 #[.slice a0 len0 cap0] w fun e w' => e = .returned (.bool true) ∧ Below w.heap.size w w' := by
  obtain ⟨bs, hbs⟩ := h0.are
  have HI : Hid (BytesAre w a0 len0 cap0 bs) := hbs
  have HT : Hid (Tabs w) := ht
  clear h0 ht hbs
  by_cases hb0 : 1048576 < len0
  · have e0 : decide (1048576 < (len0 : Int)) = true := by simp; omega
    go_enter Tryz.func3, Tryz.ntmps3
    go_wp2
    go_ret
    exact ⟨rfl, Below.refl _ _⟩
  have e0 : decide (1048576 < (len0 : Int)) = false := by simp; omega
  clear hb0
  go_enter Tryz.func3, Tryz.ntmps3
  go_wp2_with fail
  refine (drawStep_f w a0 len0 cap0 bs HI.out).mono ?_
  rintro e wu1 ⟨v, m, hm, rfl, om, hsz, _, d1⟩
  have QM : Hid (m = (Pl.dMach (bs.take 1500)).1) := hm
  have OM1 : Hid (MOwn w.heap.size wu1 v m) := om
  have B1 : Hid (Below w.heap.size w wu1) := d1
  have HS : Hid (Pl.mSize m ≤ 1048576) := (by show Pl.mSize m ≤ 1048576; omega)
  clear om d1 hsz hm
  go_wp2_with (refine wpList_store_row rfl 25 _ _ rfl (wu1.heap.size) #[.slice v.code.a v.code.len v.code.cap, .int .i64 m.pc, .slice v.regs.a v.regs.len v.regs.cap, .slice v.data.a v.data.len v.data.cap, .slice v.stk.a v.stk.len v.stk.cap, .slice v.inp.a v.inp.len v.inp.cap, .slice v.out.a v.out.len v.out.cap, .int .i64 m.steps, .int .i64 m.fin, .int .i64 m.val] ?hx ?hy 25 #[.slice none 0 0, .int .i64 0, .slice none 0 0, .slice none 0 0, .slice none 0 0, .slice none 0 0, .slice none 0 0, .int .i64 0, .int .i64 0, .int .i64 0] ?hg ?hi ?ho ?h1 ?_; (case hx => rfl); (case hy => rfl); (case hg => exact heap_alloc_new wu1 _); (case hi => kernel_rfl); (case ho => kernel_rfl); (case h1 => kernel_rfl); refine Hid.out ?_)
  unfold Hid
  rw [World.setRow_alloc_new]
  refine wpList_at fun wu2 hu2 => ?_
  have d2 : Below wu1.heap.size wu1 wu2 := by rw [hu2]; exact below_alloc wu1 _
  have RM2 : Hid (wu2.heap[wu1.heap.size]? = some (.cells #[.slice v.code.a v.code.len v.code.cap, .int .i64 m.pc, .slice v.regs.a v.regs.len v.regs.cap, .slice v.data.a v.data.len v.data.cap, .slice v.stk.a v.stk.len v.stk.cap, .slice v.inp.a v.inp.len v.inp.cap, .slice v.out.a v.out.len v.out.cap, .int .i64 m.steps, .int .i64 m.fin, .int .i64 m.val] 25)) := by show wu2.heap[wu1.heap.size]? = _; rw [hu2]; exact heap_alloc_new wu1 _
  have ZM2 : Hid (wu1.heap.size < wu2.heap.size) := by show wu1.heap.size < wu2.heap.size; rw [hu2]; simp
  clear hu2
  have OM2 : Hid (MOwn w.heap.size wu2 v m) := OM1.out.keep d2
  have B2 : Hid (Below w.heap.size w wu2) := B1.out.trans (d2.mono B1.out.size)
  clear d2 OM1 B1
  obtain ⟨gM, hgM⟩ : ∃ g, g = wu1.heap.size := ⟨_, rfl⟩
  rw [← hgM] at RM2 ZM2 ⊢
  clear hgM
  go_wp2_with (refine wpList_load_row rfl 25 _ rfl (gM) ?hx 25 #[.slice v.code.a v.code.len v.code.cap, .int .i64 m.pc, .slice v.regs.a v.regs.len v.regs.cap, .slice v.data.a v.data.len v.data.cap, .slice v.stk.a v.stk.len v.stk.cap, .slice v.inp.a v.inp.len v.inp.cap, .slice v.out.a v.out.len v.out.cap, .int .i64 m.steps, .int .i64 m.fin, .int .i64 m.val] (0, 0) _ ?hg Tryz.underlying25 ?hd ?hi ?_; (case hx => rfl); (case hg => exact RM2.out); (case hd => rfl); (case hi => kernel_rfl))
  refine (specStep_any v m wu2 OM2.out.is HS.out).mono ?_
  rintro e wu3 ⟨vw, mm, hmm, rfl, ow, d3⟩
  have OW3 : Hid (MOwn wu2.heap.size wu3 vw mm) := ow
  have HMM : Hid (mm = Pl.runM m 1) := hmm
  clear ow hmm
  have RM3 : Hid (wu3.heap[gM]? = some (.cells #[.slice v.code.a v.code.len v.code.cap, .int .i64 m.pc, .slice v.regs.a v.regs.len v.regs.cap, .slice v.data.a v.data.len v.data.cap, .slice v.stk.a v.stk.len v.stk.cap, .slice v.inp.a v.inp.len v.inp.cap, .slice v.out.a v.out.len v.out.cap, .int .i64 m.steps, .int .i64 m.fin, .int .i64 m.val] 25)) := (d3.block _ ZM2.out).trans RM2.out
  have ZM3 : Hid (gM < wu3.heap.size) := Nat.lt_of_lt_of_le ZM2.out d3.size
  have OM3 : Hid (MOwn w.heap.size wu3 v m) := OM2.out.keep d3
  have B3 : Hid (Below w.heap.size w wu3) := B2.out.trans (d3.mono B2.out.size)
  clear d3 RM2 ZM2 OM2 B2
  go_wp2_with (refine wpList_store_row rfl 25 _ _ rfl (wu3.heap.size) #[.slice vw.code.a vw.code.len vw.code.cap, .int .i64 mm.pc, .slice vw.regs.a vw.regs.len vw.regs.cap, .slice vw.data.a vw.data.len vw.data.cap, .slice vw.stk.a vw.stk.len vw.stk.cap, .slice vw.inp.a vw.inp.len vw.inp.cap, .slice vw.out.a vw.out.len vw.out.cap, .int .i64 mm.steps, .int .i64 mm.fin, .int .i64 mm.val] ?hx ?hy 25 #[.slice none 0 0, .int .i64 0, .slice none 0 0, .slice none 0 0, .slice none 0 0, .slice none 0 0, .slice none 0 0, .int .i64 0, .int .i64 0, .int .i64 0] ?hg ?hi ?ho ?h1 ?_; (case hx => rfl); (case hy => rfl); (case hg => exact heap_alloc_new wu3 _); (case hi => kernel_rfl); (case ho => kernel_rfl); (case h1 => kernel_rfl); refine Hid.out ?_)
  unfold Hid
  rw [World.setRow_alloc_new]
  refine wpList_at fun wu4 hu4 => ?_
  have d4 : Below wu3.heap.size wu3 wu4 := by rw [hu4]; exact below_alloc wu3 _
  have RW4 : Hid (wu4.heap[wu3.heap.size]? = some (.cells #[.slice vw.code.a vw.code.len vw.code.cap, .int .i64 mm.pc, .slice vw.regs.a vw.regs.len vw.regs.cap, .slice vw.data.a vw.data.len vw.data.cap, .slice vw.stk.a vw.stk.len vw.stk.cap, .slice vw.inp.a vw.inp.len vw.inp.cap, .slice vw.out.a vw.out.len vw.out.cap, .int .i64 mm.steps, .int .i64 mm.fin, .int .i64 mm.val] 25)) := by show wu4.heap[wu3.heap.size]? = _; rw [hu4]; exact heap_alloc_new wu3 _
  have ZW4 : Hid (wu3.heap.size < wu4.heap.size) := by show wu3.heap.size < wu4.heap.size; rw [hu4]; simp
  clear hu4
  have RM4 : Hid (wu4.heap[gM]? = some (.cells #[.slice v.code.a v.code.len v.code.cap, .int .i64 m.pc, .slice v.regs.a v.regs.len v.regs.cap, .slice v.data.a v.data.len v.data.cap, .slice v.stk.a v.stk.len v.stk.cap, .slice v.inp.a v.inp.len v.inp.cap, .slice v.out.a v.out.len v.out.cap, .int .i64 m.steps, .int .i64 m.fin, .int .i64 m.val] 25)) := (d4.block _ ZM3.out).trans RM3.out
  have ZM4 : Hid (gM < wu4.heap.size) := Nat.lt_of_lt_of_le ZM3.out d4.size
  have OM4 : Hid (MOwn w.heap.size wu4 v m) := OM3.out.keep d4
  have OW4 : Hid (MOwn wu2.heap.size wu4 vw mm) := OW3.out.keep d4
  have B4 : Hid (Below w.heap.size w wu4) := B3.out.trans (d4.mono B3.out.size)
  clear d4 RM3 ZM3 OM3 OW3 B3
  obtain ⟨gW, hgW⟩ : ∃ g, g = wu3.heap.size := ⟨_, rfl⟩
  rw [← hgW] at RW4 ZW4 ⊢
  clear hgW
  go_wp2_with fail
  refine (drawStep_f wu4 a0 len0 cap0 bs (HI.out.keep B4.out)).mono ?_
  rintro e wu5 ⟨v5, m5, hm5, rfl, o5, _, _, d5⟩
  obtain rfl : m = m5 := QM.out.trans hm5.symm
  have OX5 : Hid (MOwn wu4.heap.size wu5 v5 m) := o5
  clear o5 hm5
  have RM5 : Hid (wu5.heap[gM]? = some (.cells #[.slice v.code.a v.code.len v.code.cap, .int .i64 m.pc, .slice v.regs.a v.regs.len v.regs.cap, .slice v.data.a v.data.len v.data.cap, .slice v.stk.a v.stk.len v.stk.cap, .slice v.inp.a v.inp.len v.inp.cap, .slice v.out.a v.out.len v.out.cap, .int .i64 m.steps, .int .i64 m.fin, .int .i64 m.val] 25)) := (d5.block _ ZM4.out).trans RM4.out
  have ZM5 : Hid (gM < wu5.heap.size) := Nat.lt_of_lt_of_le ZM4.out d5.size
  have RW5 : Hid (wu5.heap[gW]? = some (.cells #[.slice vw.code.a vw.code.len vw.code.cap, .int .i64 mm.pc, .slice vw.regs.a vw.regs.len vw.regs.cap, .slice vw.data.a vw.data.len vw.data.cap, .slice vw.stk.a vw.stk.len vw.stk.cap, .slice vw.inp.a vw.inp.len vw.inp.cap, .slice vw.out.a vw.out.len vw.out.cap, .int .i64 mm.steps, .int .i64 mm.fin, .int .i64 mm.val] 25)) := (d5.block _ ZW4.out).trans RW4.out
  have ZW5 : Hid (gW < wu5.heap.size) := Nat.lt_of_lt_of_le ZW4.out d5.size
  have OM5 : Hid (MOwn w.heap.size wu5 v m) := OM4.out.keep d5
  have OW5 : Hid (MOwn wu2.heap.size wu5 vw mm) := OW4.out.keep d5
  have B5 : Hid (Below w.heap.size w wu5) := B4.out.trans (d5.mono B4.out.size)
  clear d5 RM4 ZM4 RW4 ZW4 OM4 OW4 B4
  go_wp2_with fail
  refine (implStep_any v5 m wu5 OX5.out (HT.out.under B5.out) HS.out).mono ?_
  rintro e wu6 ⟨vg, mg, hmg, rfl, og, _, d6⟩
  obtain rfl : mm = mg := HMM.out.trans hmg.symm
  have OG6 : Hid (WrM wu5.heap.size wu6 vg mm) := og
  clear og hmg
  have RM6 : Hid (wu6.heap[gM]? = some (.cells #[.slice v.code.a v.code.len v.code.cap, .int .i64 m.pc, .slice v.regs.a v.regs.len v.regs.cap, .slice v.data.a v.data.len v.data.cap, .slice v.stk.a v.stk.len v.stk.cap, .slice v.inp.a v.inp.len v.inp.cap, .slice v.out.a v.out.len v.out.cap, .int .i64 m.steps, .int .i64 m.fin, .int .i64 m.val] 25)) := (d6.block _ ZM5.out).trans RM5.out
  have ZM6 : Hid (gM < wu6.heap.size) := Nat.lt_of_lt_of_le ZM5.out d6.size
  have RW6 : Hid (wu6.heap[gW]? = some (.cells #[.slice vw.code.a vw.code.len vw.code.cap, .int .i64 mm.pc, .slice vw.regs.a vw.regs.len vw.regs.cap, .slice vw.data.a vw.data.len vw.data.cap, .slice vw.stk.a vw.stk.len vw.stk.cap, .slice vw.inp.a vw.inp.len vw.inp.cap, .slice vw.out.a vw.out.len vw.out.cap, .int .i64 mm.steps, .int .i64 mm.fin, .int .i64 mm.val] 25)) := (d6.block _ ZW5.out).trans RW5.out
  have ZW6 : Hid (gW < wu6.heap.size) := Nat.lt_of_lt_of_le ZW5.out d6.size
  have OM6 : Hid (MOwn w.heap.size wu6 v m) := OM5.out.keep d6
  have OW6 : Hid (MOwn wu2.heap.size wu6 vw mm) := OW5.out.keep d6
  have OX6 : Hid (MOwn wu4.heap.size wu6 v5 m) := OX5.out.keep d6
  have B6 : Hid (Below w.heap.size w wu6) := B5.out.trans (d6.mono B5.out.size)
  clear d6 RM5 ZM5 RW5 ZW5 OM5 OW5 OX5 B5
  go_wp2_with (refine wpList_store_row rfl 25 _ _ rfl (wu6.heap.size) #[.slice vg.code.a vg.code.len vg.code.cap, .int .i64 mm.pc, .slice vg.regs.a vg.regs.len vg.regs.cap, .slice vg.data.a vg.data.len vg.data.cap, .slice vg.stk.a vg.stk.len vg.stk.cap, .slice vg.inp.a vg.inp.len vg.inp.cap, .slice vg.out.a vg.out.len vg.out.cap, .int .i64 mm.steps, .int .i64 mm.fin, .int .i64 mm.val] ?hx ?hy 25 #[.slice none 0 0, .int .i64 0, .slice none 0 0, .slice none 0 0, .slice none 0 0, .slice none 0 0, .slice none 0 0, .int .i64 0, .int .i64 0, .int .i64 0] ?hg ?hi ?ho ?h1 ?_; (case hx => rfl); (case hy => rfl); (case hg => exact heap_alloc_new wu6 _); (case hi => kernel_rfl); (case ho => kernel_rfl); (case h1 => kernel_rfl); refine Hid.out ?_)
  unfold Hid
  rw [World.setRow_alloc_new]
  refine wpList_at fun wu7 hu7 => ?_
  have d7 : Below wu6.heap.size wu6 wu7 := by rw [hu7]; exact below_alloc wu6 _
  have RG7 : Hid (wu7.heap[wu6.heap.size]? = some (.cells #[.slice vg.code.a vg.code.len vg.code.cap, .int .i64 mm.pc, .slice vg.regs.a vg.regs.len vg.regs.cap, .slice vg.data.a vg.data.len vg.data.cap, .slice vg.stk.a vg.stk.len vg.stk.cap, .slice vg.inp.a vg.inp.len vg.inp.cap, .slice vg.out.a vg.out.len vg.out.cap, .int .i64 mm.steps, .int .i64 mm.fin, .int .i64 mm.val] 25)) := by show wu7.heap[wu6.heap.size]? = _; rw [hu7]; exact heap_alloc_new wu6 _
  have ZG7 : Hid (wu6.heap.size < wu7.heap.size) := by show wu6.heap.size < wu7.heap.size; rw [hu7]; simp
  clear hu7
  have RM7 : Hid (wu7.heap[gM]? = some (.cells #[.slice v.code.a v.code.len v.code.cap, .int .i64 m.pc, .slice v.regs.a v.regs.len v.regs.cap, .slice v.data.a v.data.len v.data.cap, .slice v.stk.a v.stk.len v.stk.cap, .slice v.inp.a v.inp.len v.inp.cap, .slice v.out.a v.out.len v.out.cap, .int .i64 m.steps, .int .i64 m.fin, .int .i64 m.val] 25)) := (d7.block _ ZM6.out).trans RM6.out
  have ZM7 : Hid (gM < wu7.heap.size) := Nat.lt_of_lt_of_le ZM6.out d7.size
  have RW7 : Hid (wu7.heap[gW]? = some (.cells #[.slice vw.code.a vw.code.len vw.code.cap, .int .i64 mm.pc, .slice vw.regs.a vw.regs.len vw.regs.cap, .slice vw.data.a vw.data.len vw.data.cap, .slice vw.stk.a vw.stk.len vw.stk.cap, .slice vw.inp.a vw.inp.len vw.inp.cap, .slice vw.out.a vw.out.len vw.out.cap, .int .i64 mm.steps, .int .i64 mm.fin, .int .i64 mm.val] 25)) := (d7.block _ ZW6.out).trans RW6.out
  have ZW7 : Hid (gW < wu7.heap.size) := Nat.lt_of_lt_of_le ZW6.out d7.size
  have OM7 : Hid (MOwn w.heap.size wu7 v m) := OM6.out.keep d7
  have OW7 : Hid (MOwn wu2.heap.size wu7 vw mm) := OW6.out.keep d7
  have OX7 : Hid (MOwn wu4.heap.size wu7 v5 m) := OX6.out.keep d7
  have OG7 : Hid (WrM wu5.heap.size wu7 vg mm) := OG6.out.keep d7
  have B7 : Hid (Below w.heap.size w wu7) := B6.out.trans (d7.mono B6.out.size)
  clear d7 RM6 ZM6 RW6 ZW6 OM6 OW6 OX6 OG6 B6
  obtain ⟨gG, hgG⟩ : ∃ g, g = wu6.heap.size := ⟨_, rfl⟩
  rw [← hgG] at RG7 ZG7 ⊢
  clear hgG
  obtain ⟨B, hB⟩ : ∃ B, B = Pl.mOk m := ⟨_, rfl⟩
  have QB : Hid (B = Pl.mOk m) := hB
  have HOI : Hid (∀ U, Below wu7.heap.size wu7 U → Calls Tryz.prog 8 #[.agg #[.slice v.code.a v.code.len v.code.cap, .int .i64 m.pc, .slice v.regs.a v.regs.len v.regs.cap, .slice v.data.a v.data.len v.data.cap, .slice v.stk.a v.stk.len v.stk.cap, .slice v.inp.a v.inp.len v.inp.cap, .slice v.out.a v.out.len v.out.cap, .int .i64 m.steps, .int .i64 m.fin, .int .i64 m.val]] U fun e w' => e = .returned (.bool B) ∧ Below U.heap.size U w') := fun U hU => by rw [hB]; exact implMachineOk_any v m U (OM7.out.is.keep hU)
  have HOS : Hid (∀ U, Below wu7.heap.size wu7 U → Calls Tryz.prog 9 #[.agg #[.slice v.code.a v.code.len v.code.cap, .int .i64 m.pc, .slice v.regs.a v.regs.len v.regs.cap, .slice v.data.a v.data.len v.data.cap, .slice v.stk.a v.stk.len v.stk.cap, .slice v.inp.a v.inp.len v.inp.cap, .slice v.out.a v.out.len v.out.cap, .int .i64 m.steps, .int .i64 m.fin, .int .i64 m.val]] U fun e w' => e = .returned (.bool B) ∧ Below U.heap.size U w') := fun U hU => by rw [hB]; exact specMachineOk_any v m U (OM7.out.is.keep hU)
  have HSA : Hid (∀ U, Below wu7.heap.size wu7 U → Calls Tryz.prog 7 #[.agg #[.slice vg.code.a vg.code.len vg.code.cap, .int .i64 mm.pc, .slice vg.regs.a vg.regs.len vg.regs.cap, .slice vg.data.a vg.data.len vg.data.cap, .slice vg.stk.a vg.stk.len vg.stk.cap, .slice vg.inp.a vg.inp.len vg.inp.cap, .slice vg.out.a vg.out.len vg.out.cap, .int .i64 mm.steps, .int .i64 mm.fin, .int .i64 mm.val], .agg #[.slice vw.code.a vw.code.len vw.code.cap, .int .i64 mm.pc, .slice vw.regs.a vw.regs.len vw.regs.cap, .slice vw.data.a vw.data.len vw.data.cap, .slice vw.stk.a vw.stk.len vw.stk.cap, .slice vw.inp.a vw.inp.len vw.inp.cap, .slice vw.out.a vw.out.len vw.out.cap, .int .i64 mm.steps, .int .i64 mm.fin, .int .i64 mm.val]] U fun e w' => e = .returned (.bool true) ∧ Below U.heap.size U w') := fun U hU => sameMachine_same vg vw mm U (OG7.out.is.keep hU) (OW7.out.is.keep hU)
  clear hB
  go_upto_region 6 with fail
  have kG : ∀ w', Below wu7.heap.size wu7 w' → ∀ j, w'.cell? ⟨gG, j, none⟩ = (#[.slice vg.code.a vg.code.len vg.code.cap, .int .i64 mm.pc, .slice vg.regs.a vg.regs.len vg.regs.cap, .slice vg.data.a vg.data.len vg.data.cap, .slice vg.stk.a vg.stk.len vg.stk.cap, .slice vg.inp.a vg.inp.len vg.inp.cap, .slice vg.out.a vg.out.len vg.out.cap, .int .i64 mm.steps, .int .i64 mm.fin, .int .i64 mm.val] : Array Value)[j]? := fun w' hw j => cell_of_row w' gG j _ 25 (0, 0) ((hw.block _ ZG7.out).trans RG7.out)
  have kW : ∀ w', Below wu7.heap.size wu7 w' → ∀ j, w'.cell? ⟨gW, j, none⟩ = (#[.slice vw.code.a vw.code.len vw.code.cap, .int .i64 mm.pc, .slice vw.regs.a vw.regs.len vw.regs.cap, .slice vw.data.a vw.data.len vw.data.cap, .slice vw.stk.a vw.stk.len vw.stk.cap, .slice vw.inp.a vw.inp.len vw.inp.cap, .slice vw.out.a vw.out.len vw.out.cap, .int .i64 mm.steps, .int .i64 mm.fin, .int .i64 mm.val] : Array Value)[j]? := fun w' hw j => cell_of_row w' gW j _ 25 (0, 0) ((hw.block _ ZW7.out).trans RW7.out)
  have kM : ∀ w', Below wu7.heap.size wu7 w' → ∀ j, w'.cell? ⟨gM, j, none⟩ = (#[.slice v.code.a v.code.len v.code.cap, .int .i64 m.pc, .slice v.regs.a v.regs.len v.regs.cap, .slice v.data.a v.data.len v.data.cap, .slice v.stk.a v.stk.len v.stk.cap, .slice v.inp.a v.inp.len v.inp.cap, .slice v.out.a v.out.len v.out.cap, .int .i64 m.steps, .int .i64 m.fin, .int .i64 m.val] : Array Value)[j]? := fun w' hw j => cell_of_row w' gM j _ 25 (0, 0) ((hw.block _ ZM7.out).trans RM7.out)
  obtain ⟨U, hU⟩ : ∃ U, U = wu7.drew := ⟨_, rfl⟩
  have dU : Below wu7.heap.size wu7 U := by rw [hU]; exact (Below.refl _ _).drew
  refine wp_region_any (by kernel_rfl) ?_
  change wpAny _ _ _ _ _ _ _ (World.drew _)
  rw [← hU]
  refine wpAny_inw (fun L act w' => act = StpMk a0 len0 cap0 gM gW gG v vw v5 vg m mm B L ∧ Below wu7.heap.size wu7 w') ?done (by kernel_rfl) ?step _ 11 _ _ (by kernel_rfl) ?init (by decide)
  case init => exact ⟨by simp only [StpMk, sl_no (up_init _ _)], dU⟩
  case step =>
    intro L act wq i o hI hlt hs nl hC hd ho K hK
    obtain ⟨rfl, hW⟩ := hI
    have hi_lt : i < 11 := (Array.getElem?_eq_some_iff.1 ho).1
    rcases (show i = 0 ∨ i = 1 ∨ i = 2 ∨ i = 3 ∨ i = 4 ∨ i = 5 ∨ i = 6 ∨ i = 7 ∨ i = 8 ∨ i = 9 ∨ i = 10 by omega) with rfl | rfl | rfl | rfl | rfl | rfl | rfl | rfl | rfl | rfl | rfl
    · change some _ = some o at ho
      cases ho
      have kj := kG wq hW
      simp only [StpMk]
      go_simp
      exact hK _ _ ⟨by simp only [StpMk, sl_set hlt, reduceIte, Nat.reduceEqDiff]; try rfl, hW⟩
    · change some _ = some o at ho
      cases ho
      have kj := kW wq hW
      simp only [StpMk]
      go_simp
      exact hK _ _ ⟨by simp only [StpMk, sl_set hlt, reduceIte, Nat.reduceEqDiff]; try rfl, hW⟩
    · change some _ = some o at ho
      cases ho
      have q0 : up L 0 = true := (by first | exact hd { on := 0, ground := .data } (by simp) rfl | exact hd { on := 0, ground := .chain } (by simp) rfl | exact hd { on := 0, ground := .phase } (by simp) rfl)
      have q1 : up L 1 = true := (by first | exact hd { on := 1, ground := .data } (by simp) rfl | exact hd { on := 1, ground := .chain } (by simp) rfl | exact hd { on := 1, ground := .phase } (by simp) rfl)
      simp only [StpMk, sl_yes q0, sl_yes q1]
      go_simp
      refine (HSA.out wq hW).mono ?_
      rintro e z ⟨rfl, dz⟩
      go_simp
      exact hK _ _ ⟨by simp only [StpMk, sl_set hlt, sl_yes q0, sl_yes q1, reduceIte, Nat.reduceEqDiff]; try rfl, (hW.trans (dz.mono hW.size))⟩
    · change some _ = some o at ho
      cases ho
      have q2 : up L 2 = true := (by first | exact hd { on := 2, ground := .data } (by simp) rfl | exact hd { on := 2, ground := .chain } (by simp) rfl | exact hd { on := 2, ground := .phase } (by simp) rfl)
      simp only [StpMk, sl_yes q2]
      go_simp
      exact hK _ _ ⟨by simp only [StpMk, sl_set hlt, sl_yes q2, reduceIte, Nat.reduceEqDiff]; try rfl, hW⟩
    · change some _ = some o at ho
      cases ho
      have q3 : up L 3 = true := (by first | exact hd { on := 3, ground := .data } (by simp) rfl | exact hd { on := 3, ground := .chain } (by simp) rfl | exact hd { on := 3, ground := .phase } (by simp) rfl)
      simp only [StpMk, sl_yes q3]
      go_simp
      exact hK _ _ ⟨by simp only [StpMk, sl_set hlt, sl_yes q3, reduceIte, Nat.reduceEqDiff]; try rfl, hW⟩
    · change some _ = some o at ho
      cases ho
      have q4 : up L 4 = true := (hd { on := 4, ground := .guard } (by simp) rfl)
      have kj := kM wq hW
      simp only [StpMk, sl_yes q4]
      go_simp
      exact hK _ _ ⟨by simp only [StpMk, sl_set hlt, sl_yes q4, reduceIte, Nat.reduceEqDiff]; try rfl, hW⟩
    · change some _ = some o at ho
      cases ho
      have q4 : up L 4 = true := (hd { on := 4, ground := .guard } (by simp) rfl)
      have q5 : up L 5 = true := (by first | exact hd { on := 5, ground := .data } (by simp) rfl | exact hd { on := 5, ground := .chain } (by simp) rfl | exact hd { on := 5, ground := .phase } (by simp) rfl)
      simp only [StpMk, sl_yes q4, sl_yes q5]
      go_simp
      refine (HOI.out wq hW).mono ?_
      rintro e z ⟨rfl, dz⟩
      go_simp
      exact hK _ _ ⟨by simp only [StpMk, sl_set hlt, sl_yes q4, sl_yes q5, reduceIte, Nat.reduceEqDiff]; try rfl, (hW.trans (dz.mono hW.size))⟩
    · change some _ = some o at ho
      cases ho
      have q4 : up L 4 = true := (hd { on := 4, ground := .guard } (by simp) rfl)
      have kj := kM wq hW
      simp only [StpMk, sl_yes q4]
      go_simp
      exact hK _ _ ⟨by simp only [StpMk, sl_set hlt, sl_yes q4, reduceIte, Nat.reduceEqDiff]; try rfl, hW⟩
    · change some _ = some o at ho
      cases ho
      have q4 : up L 4 = true := (hd { on := 4, ground := .guard } (by simp) rfl)
      have q7 : up L 7 = true := (by first | exact hd { on := 7, ground := .data } (by simp) rfl | exact hd { on := 7, ground := .chain } (by simp) rfl | exact hd { on := 7, ground := .phase } (by simp) rfl)
      simp only [StpMk, sl_yes q4, sl_yes q7]
      go_simp
      refine (HOS.out wq hW).mono ?_
      rintro e z ⟨rfl, dz⟩
      go_simp
      exact hK _ _ ⟨by simp only [StpMk, sl_set hlt, sl_yes q4, sl_yes q7, reduceIte, Nat.reduceEqDiff]; try rfl, (hW.trans (dz.mono hW.size))⟩
    · change some _ = some o at ho
      cases ho
      have q4 : up L 4 = true := (hd { on := 4, ground := .guard } (by simp) rfl)
      have q6 : up L 6 = true := (by first | exact hd { on := 6, ground := .data } (by simp) rfl | exact hd { on := 6, ground := .chain } (by simp) rfl | exact hd { on := 6, ground := .phase } (by simp) rfl)
      have q8 : up L 8 = true := (by first | exact hd { on := 8, ground := .data } (by simp) rfl | exact hd { on := 8, ground := .chain } (by simp) rfl | exact hd { on := 8, ground := .phase } (by simp) rfl)
      have eB : (B != B) = false := by simp
      simp only [StpMk, sl_yes q4, sl_yes q6, sl_yes q8]
      go_simp
      exact hK _ _ ⟨by simp only [StpMk, sl_set hlt, sl_yes q4, sl_yes q6, sl_yes q8, reduceIte, Nat.reduceEqDiff]; try rfl, hW⟩
    · change some _ = some o at ho
      cases ho
      have q4 : up L 4 = true := (by first | exact hd { on := 4, ground := .data } (by simp) rfl | exact hd { on := 4, ground := .chain } (by simp) rfl | exact hd { on := 4, ground := .phase } (by simp) rfl)
      have q9 : up L 9 = true := (by first | exact hd { on := 9, ground := .data } (by simp) rfl | exact hd { on := 9, ground := .chain } (by simp) rfl | exact hd { on := 9, ground := .phase } (by simp) rfl)
      simp only [StpMk, sl_yes q4, sl_yes q9]
      go_simp
      exact hK _ _ ⟨by simp only [StpMk, sl_set hlt, sl_yes q4, sl_yes q9, reduceIte, Nat.reduceEqDiff]; try rfl, hW⟩
  case done =>
    rintro L act wu8 ⟨rfl, hW⟩ hall
    have hup : ∀ j, j < 11 → up L j = true := fun j hj => hall j (by simpa using hj)
    simp only [StpMk, sl_yes (hup 0 (by decide)), sl_yes (hup 1 (by decide)), sl_yes (hup 2 (by decide)), sl_yes (hup 3 (by decide)), sl_yes (hup 4 (by decide)), sl_yes (hup 5 (by decide)), sl_yes (hup 6 (by decide)), sl_yes (hup 7 (by decide)), sl_yes (hup 8 (by decide)), sl_yes (hup 9 (by decide)), sl_yes (hup 10 (by decide))]
    have D8 : Hid (Below wu7.heap.size wu7 wu8) := hW
    clear hW hall hup kG kW kM dU hU U
    go_wp2_with (refine wpList_load_row rfl 25 _ rfl (gM) ?hx 25 #[.slice v.code.a v.code.len v.code.cap, .int .i64 m.pc, .slice v.regs.a v.regs.len v.regs.cap, .slice v.data.a v.data.len v.data.cap, .slice v.stk.a v.stk.len v.stk.cap, .slice v.inp.a v.inp.len v.inp.cap, .slice v.out.a v.out.len v.out.cap, .int .i64 m.steps, .int .i64 m.fin, .int .i64 m.val] (0, 0) _ ?hg Tryz.underlying25 ?hd ?hi ?_; (case hx => rfl); (case hg => exact (D8.out.block _ ZM7.out).trans RM7.out); (case hd => rfl); (case hi => kernel_rfl))
    refine (HOS.out wu8 D8.out).mono ?_
    rintro e wu9 ⟨rfl, d9⟩
    have D9 : Hid (Below wu7.heap.size wu7 wu9) := D8.out.trans (d9.mono D8.out.size)
    clear d9 D8
    clear HOI HOS HSA
    cases B
    · have em : mm = m := HMM.out.trans (Pl.runM_not QB.out.symm 1)
      subst em
      go_wp2_with (first | (refine wpList_load_row rfl 25 _ rfl (gG) ?hx 25 #[.slice vg.code.a vg.code.len vg.code.cap, .int .i64 mm.pc, .slice vg.regs.a vg.regs.len vg.regs.cap, .slice vg.data.a vg.data.len vg.data.cap, .slice vg.stk.a vg.stk.len vg.stk.cap, .slice vg.inp.a vg.inp.len vg.inp.cap, .slice vg.out.a vg.out.len vg.out.cap, .int .i64 mm.steps, .int .i64 mm.fin, .int .i64 mm.val] (0, 0) _ ?hg Tryz.underlying25 ?hd ?hi ?_; (case hx => rfl); (case hg => exact (D9.out.block _ ZG7.out).trans RG7.out); (case hd => rfl); (case hi => kernel_rfl)) | (refine wpList_load_row rfl 25 _ rfl (gM) ?hx 25 #[.slice v.code.a v.code.len v.code.cap, .int .i64 mm.pc, .slice v.regs.a v.regs.len v.regs.cap, .slice v.data.a v.data.len v.data.cap, .slice v.stk.a v.stk.len v.stk.cap, .slice v.inp.a v.inp.len v.inp.cap, .slice v.out.a v.out.len v.out.cap, .int .i64 mm.steps, .int .i64 mm.fin, .int .i64 mm.val] (0, 0) _ ?hg Tryz.underlying25 ?hd ?hi ?_; (case hx => rfl); (case hg => exact (D9.out.block _ ZM7.out).trans RM7.out); (case hd => rfl); (case hi => kernel_rfl)))
      refine (sameMachine_same vg v mm wu9 (OG7.out.is.keep D9.out) (OM7.out.is.keep D9.out)).mono ?_
      rintro e wu10 ⟨rfl, d10⟩
      go_wp2_with fail
      go_ret
      exact ⟨rfl, B7.out.trans ((D9.out.trans (d10.mono D9.out.size)).mono B7.out.size)⟩
    have LAW := Pl.step_law QB.out.symm (inp_byte OM7.out.is)
    rw [← HMM.out] at LAW
    have LW : Hid (Pl.mOk mm = true ∧ mm.code = m.code ∧ Pl.One m mm ∧ mm.regs.length = 32 ∧ m.regs.length = 32) := LAW
    clear LAW
    go_wp2_with (refine wpList_load_row rfl 25 _ rfl (gG) ?hx 25 #[.slice vg.code.a vg.code.len vg.code.cap, .int .i64 mm.pc, .slice vg.regs.a vg.regs.len vg.regs.cap, .slice vg.data.a vg.data.len vg.data.cap, .slice vg.stk.a vg.stk.len vg.stk.cap, .slice vg.inp.a vg.inp.len vg.inp.cap, .slice vg.out.a vg.out.len vg.out.cap, .int .i64 mm.steps, .int .i64 mm.fin, .int .i64 mm.val] (0, 0) _ ?hg Tryz.underlying25 ?hd ?hi ?_; (case hx => rfl); (case hg => exact (D9.out.block _ ZG7.out).trans RG7.out); (case hd => rfl); (case hi => kernel_rfl))
    refine (implMachineOk_any vg mm wu9 (OG7.out.is.keep D9.out)).mono ?_
    rw [LW.out.1]
    rintro e wu10 ⟨rfl, d10⟩
    have D10 : Hid (Below wu7.heap.size wu7 wu10) := D9.out.trans (d10.mono D9.out.size)
    clear d10 D9
    have kG : ∀ j, wu10.cell? ⟨gG, j, none⟩ = (#[.slice vg.code.a vg.code.len vg.code.cap, .int .i64 mm.pc, .slice vg.regs.a vg.regs.len vg.regs.cap, .slice vg.data.a vg.data.len vg.data.cap, .slice vg.stk.a vg.stk.len vg.stk.cap, .slice vg.inp.a vg.inp.len vg.inp.cap, .slice vg.out.a vg.out.len vg.out.cap, .int .i64 mm.steps, .int .i64 mm.fin, .int .i64 mm.val] : Array Value)[j]? := fun j => cell_of_row wu10 gG j _ 25 (0, 0) ((D10.out.block _ ZG7.out).trans RG7.out)
    have kM : ∀ j, wu10.cell? ⟨gM, j, none⟩ = (#[.slice v.code.a v.code.len v.code.cap, .int .i64 m.pc, .slice v.regs.a v.regs.len v.regs.cap, .slice v.data.a v.data.len v.data.cap, .slice v.stk.a v.stk.len v.stk.cap, .slice v.inp.a v.inp.len v.inp.cap, .slice v.out.a v.out.len v.out.cap, .int .i64 m.steps, .int .i64 m.fin, .int .i64 m.val] : Array Value)[j]? := fun j => cell_of_row wu10 gM j _ 25 (0, 0) ((D10.out.block _ ZM7.out).trans RM7.out)
    go_wp2_with fail
    clear kG kM
    refine (sameInts_same _ _ _ _ _ _ m.code wu10 (LW.out.2.1 ▸ (OG7.out.is.keep D10.out).1) (OM7.out.is.keep D10.out).1).mono ?_
    rintro e wu11 ⟨rfl, d11⟩
    have D11 : Hid (Below wu7.heap.size wu7 wu11) := D10.out.trans (d11.mono D10.out.size)
    clear d11 D10
    go_wp2_with fail
    go_loopw [6, 7] (fun x y wr => ∃ k : Nat, k ≤ 32 ∧ x = .int .i64 ((Pl.cnt mm.regs m.regs k : Nat) : Int) ∧ y = .int .i64 (k : Int) ∧ Hid (Below wu7.heap.size wu7 wr)) (fun _ y _ => 32 - (intOf y).toNat)
    case atStart => exact ⟨0, Nat.zero_le _, rfl, rfl, D11⟩
    case round =>
      obtain ⟨k, hk, rfl, rfl, DR⟩ := hrel
      have hc := Pl.cnt_le mm.regs m.regs k
      obtain ⟨c, ec⟩ : ∃ c, c = Pl.cnt mm.regs m.regs k := ⟨_, rfl⟩
      rw [← ec] at hc ⊢
      have EC : Hid (c = Pl.cnt mm.regs m.regs k) := ec
      clear ec
      have kG : ∀ j, wr.cell? ⟨gG, j, none⟩ = (#[.slice vg.code.a vg.code.len vg.code.cap, .int .i64 mm.pc, .slice vg.regs.a vg.regs.len vg.regs.cap, .slice vg.data.a vg.data.len vg.data.cap, .slice vg.stk.a vg.stk.len vg.stk.cap, .slice vg.inp.a vg.inp.len vg.inp.cap, .slice vg.out.a vg.out.len vg.out.cap, .int .i64 mm.steps, .int .i64 mm.fin, .int .i64 mm.val] : Array Value)[j]? := fun j => cell_of_row wr gG j _ 25 (0, 0) ((DR.out.block _ ZG7.out).trans RG7.out)
      have kM : ∀ j, wr.cell? ⟨gM, j, none⟩ = (#[.slice v.code.a v.code.len v.code.cap, .int .i64 m.pc, .slice v.regs.a v.regs.len v.regs.cap, .slice v.data.a v.data.len v.data.cap, .slice v.stk.a v.stk.len v.stk.cap, .slice v.inp.a v.inp.len v.inp.cap, .slice v.out.a v.out.len v.out.cap, .int .i64 m.steps, .int .i64 m.fin, .int .i64 m.val] : Array Value)[j]? := fun j => cell_of_row wr gM j _ 25 (0, 0) ((DR.out.block _ ZM7.out).trans RM7.out)
      by_cases hlt : k < 32
      · have hi : (k : Int) < 32 := by omega
        obtain ⟨b, off, ha, hc1⟩ : ∃ b off, vg.regs.a = some ⟨b, off, none⟩ ∧ wr.cell? ⟨b, off + k, none⟩ = some (.int .i64 (mm.regs.getD k 0)) := by
          obtain ⟨h1, _, _, _, h5⟩ := (OG7.out.is.keep DR.out).2.1
          have hl := LW.out.2.2.2.1
          rcases h5 with h5 | ⟨b, off, ha, _, _, hc⟩
          · omega
          · exact ⟨b, off, ha, hc k (by omega)⟩
        obtain ⟨b', off', ha', hc2⟩ : ∃ b off, v.regs.a = some ⟨b, off, none⟩ ∧ wr.cell? ⟨b, off + k, none⟩ = some (.int .i64 (m.regs.getD k 0)) := by
          obtain ⟨h1, _, _, _, h5⟩ := (OM7.out.is.keep DR.out).2.1
          have hl := LW.out.2.2.2.2
          rcases h5 with h5 | ⟨b, off, ha, _, _, hc⟩
          · omega
          · exact ⟨b, off, ha, hc k (by omega)⟩
        have hn1 : vg.regs.len = 32 := by rw [← (OG7.out.is).2.1.1]; exact LW.out.2.2.2.1
        have hn2 : v.regs.len = 32 := by rw [← (OM7.out.is).2.1.1]; exact LW.out.2.2.2.2
        rw [ha, hn1] at kG
        rw [ha', hn2] at kM
        clear ha ha' hn1 hn2
        obtain ⟨x, hx⟩ : ∃ x, x = mm.regs.getD k 0 := ⟨_, rfl⟩
        obtain ⟨y, hy⟩ : ∃ y, y = m.regs.getD k 0 := ⟨_, rfl⟩
        rw [← hx] at hc1
        rw [← hy] at hc2
        have HX : Hid (x = mm.regs.getD k 0) := hx
        have HY : Hid (y = m.regs.getD k 0) := hy
        clear hx hy
        by_cases hxy : x = y
        · have hcn : Pl.cnt mm.regs m.regs (k + 1) = c := by
            show Pl.cnt mm.regs m.regs k + _ = c
            rw [← EC.out, ← HX.out, ← HY.out, if_pos hxy]; rfl
          subst hxy
          go_wp2_with fail
          go_quiet (fail)
          go_wp2_with fail
          go_roundw
          case rel => exact ⟨k + 1, by omega, by rw [hcn], by go_num, by first | exact DR | exact below_drewN DR.out _⟩
          case measure => simp [intOf]; omega
        · have hcn : Pl.cnt mm.regs m.regs (k + 1) = c + 1 := by
            show Pl.cnt mm.regs m.regs k + _ = c + 1
            rw [← EC.out, ← HX.out, ← HY.out, if_neg hxy]
          go_wp2_with fail
          go_quiet (fail)
          go_wp2_with fail
          go_roundw
          case rel => exact ⟨k + 1, by omega, by rw [hcn]; go_num, by go_num, by first | exact DR | exact below_drewN DR.out _⟩
          case measure => simp [intOf]; omega
      · have hi : ¬ (k : Int) < 32 := by omega
        obtain rfl : k = 32 := by omega
        have n1 := conv_row _ _ _ _ wr (OG7.out.is.keep DR.out).2.2.1
        have n2 := conv_row _ _ _ _ wr (OM7.out.is.keep DR.out).2.2.1
        have n3 := conv_row _ _ _ _ wr (OG7.out.is.keep DR.out).2.2.2.1
        have n4 := conv_row _ _ _ _ wr (OM7.out.is.keep DR.out).2.2.2.1
        have n5 := conv_row _ _ _ _ wr (OG7.out.is.keep DR.out).2.2.2.2.2
        have n6 := conv_row _ _ _ _ wr (OM7.out.is.keep DR.out).2.2.2.2.2
        have hT : c = 0 ∨ c = 1 ∧ strOfNums mm.data = strOfNums m.data ∧ strOfNums mm.stk = strOfNums m.stk ∧ strOfNums mm.out = strOfNums m.out := by
          rw [EC.out]
          rcases LW.out.2.2.1 with e | ⟨⟨n, y, e⟩, e1, e2, e3⟩
          · left; rw [e]; exact Pl.cnt_same _ _
          · have := Pl.cnt_set m.regs n y 32
            rw [← e] at this
            have h2 : Pl.cnt mm.regs m.regs 32 ≤ 1 := by split at this <;> omega
            rcases Nat.lt_or_ge 0 (Pl.cnt mm.regs m.regs 32) with q | q
            · exact .inr ⟨by omega, by rw [e1], by rw [e2], by rw [e3]⟩
            · exact .inl (by omega)
        generalize strOfNums mm.data = S1 at *
        generalize strOfNums m.data = S2 at *
        generalize strOfNums mm.stk = S3 at *
        generalize strOfNums m.stk = S4 at *
        generalize strOfNums mm.out = S5 at *
        generalize strOfNums m.out = S6 at *
        have FIN : Hid (Below w.heap.size w wr) := B7.out.trans (DR.out.mono B7.out.size)
        rcases hT with h0 | ⟨h1, rfl, rfl, rfl⟩
        · subst h0
          go_wp2_with fail
          all_goals
            go_ret
            exact ⟨rfl, FIN.out⟩
        · subst h1
          go_wp2_with fail
          go_ret
          exact ⟨rfl, FIN.out⟩
end Go.Proofs.YtnapeklkhkonhaaGreatDoor.W
