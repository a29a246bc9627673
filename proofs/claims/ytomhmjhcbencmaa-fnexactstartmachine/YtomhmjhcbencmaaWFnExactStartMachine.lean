import Derived.Test.YtomhmjhcbencmaaStZ
import Derived.Deep.RegionWith
import Derived.Deep.Cut
import Derived.Deep.DeepCutAuto
import Derived.Deep.CutRange
set_option linter.unusedVariables false
set_option linter.unusedSimpArgs false
namespace Go.Proofs.Ytomhmjhcbencmaa.W
open Go.RowKit
theorem Own.outside {k : IntKind} {e : TypeId} {lo l hi t0 t6 : Nat} {w w' : World} {s : SV} {zs : List Int} (h : Own k e lo w s.a s.len s.cap zs) (hs : Span s l hi) (hO : Outside t0 t6 w w') (hd : hi ≤ t0 ∨ t6 ≤ l) : Own k e lo w' s.a s.len s.cap zs := by
  obtain ⟨hown, hwf⟩ := h
  refine ⟨⟨hown.1, ?_⟩, hwf⟩
  rcases hown.2 with h0 | ⟨g, cap', cur, h0, hlo, hg, hr⟩
  · exact .inl h0
  · refine .inr ⟨g, cap', cur, h0, hlo, ?_, hr⟩
    simp only [Value.slice.injEq] at h0
    have a1 : l ≤ g ∧ g < hi := hs ⟨g, 0, none⟩ h0.1
    rw [hO.block g ((Array.getElem?_eq_some_iff.1 hg).1) (by omega), hg]
def MIn (v : MV) (l hi : Nat) : Prop := Span v.code l hi ∧ Span v.regs l hi ∧ Span v.data l hi ∧ Span v.stk l hi ∧ Span v.inp l hi ∧ Span v.out l hi
theorem MOwn.in {lo : Nat} {w : World} {v : MV} {m : Pl.Mac} (h : MOwn lo w v m) : MIn v lo w.heap.size :=
  ⟨h.1.span (Nat.le_refl _), h.2.1.span (Nat.le_refl _), h.2.2.1.span (Nat.le_refl _), h.2.2.2.1.span (Nat.le_refl _), h.2.2.2.2.1.span (Nat.le_refl _), h.2.2.2.2.2.span (Nat.le_refl _)⟩
theorem MOwn.outside {lo l hi t0 t6 : Nat} {w w' : World} {v : MV} {m : Pl.Mac} (h : MOwn lo w v m) (hs : MIn v l hi) (hO : Outside t0 t6 w w') (hd : hi ≤ t0 ∨ t6 ≤ l) : MOwn lo w' v m :=
  ⟨h.1.outside hs.1 hO hd, h.2.1.outside hs.2.1 hO hd, h.2.2.1.outside hs.2.2.1 hO hd, h.2.2.2.1.outside hs.2.2.2.1 hO hd, h.2.2.2.2.1.outside hs.2.2.2.2.1 hO hd, h.2.2.2.2.2.outside hs.2.2.2.2.2 hO hd⟩
theorem belowC {c t0 t6 : Nat} {a b : World} (h : Outside t0 t6 a b) (h0 : c ≤ t0) (hs : c ≤ a.heap.size) : Below c a b := ⟨h.os, h.tape, h.output, h.size, fun i hi => h.block i (by omega) (.inl (by omega))⟩
theorem spanB (nb len : Nat) : Span ⟨some ⟨nb, 0, none⟩, len, len⟩ nb (nb + 1) := by
  intro ad had
  cases had
  exact ⟨Nat.le_refl _, Nat.lt_succ_self _⟩
set_option maxHeartbeats 16000000 in
theorem fnExactStartMachine_walk {lo lo0 : Nat} (v : IV) (m : Pl.Img) (a0 : Option Addr) (len cap : Nat) (inp : List Int) (w : World) (h : IIs lo w v m) (he : -9223372036854775808 ≤ m.entry ∧ m.entry ≤ 9223372036854775807) (hin : Row .u8 lo0 w a0 len cap inp) :
    Calls Try.prog 4 #[.agg #[.slice v.code.a v.code.len v.code.cap, .slice v.data.a v.data.len v.data.cap, .int .i64 m.entry, .int .i64 m.size], .slice a0 len cap] w fun e w' => e = .returned (.bool true) ∧ Below w.heap.size w w' := by
  obtain ⟨m', b, hm', hsp, him⟩ := starts_agree m inp he
  have SP : Hid (StartsS m inp m' b) := hsp
  have IM : Hid (StartsI m inp m' b) := him
  have HS' : Hid (Pl.mSize m' ≤ 1048576) := hm'
  have H : Hid (IIs lo w v m) := h
  have HN : Hid (Row .u8 lo0 w a0 len cap inp) := hin
  have EQ : Hid (∀ (l1 l2 : Nat) (v1 v2 : MV) (u : World), MIs l1 u v1 m' → MIs l2 u v2 m' → Calls Try.prog 11 #[.agg #[.slice v1.code.a v1.code.len v1.code.cap, .int .i64 m'.pc, .slice v1.regs.a v1.regs.len v1.regs.cap, .slice v1.data.a v1.data.len v1.data.cap, .slice v1.stk.a v1.stk.len v1.stk.cap, .slice v1.inp.a v1.inp.len v1.inp.cap, .slice v1.out.a v1.out.len v1.out.cap, .int .i64 m'.steps, .int .i64 m'.fin, .int .i64 m'.val], .agg #[.slice v2.code.a v2.code.len v2.code.cap, .int .i64 m'.pc, .slice v2.regs.a v2.regs.len v2.regs.cap, .slice v2.data.a v2.data.len v2.data.cap, .slice v2.stk.a v2.stk.len v2.stk.cap, .slice v2.inp.a v2.inp.len v2.inp.cap, .slice v2.out.a v2.out.len v2.out.cap, .int .i64 m'.steps, .int .i64 m'.fin, .int .i64 m'.val]] u fun e w' => e = .returned (.bool true) ∧ Below u.heap.size u w') := fun l1 l2 v1 v2 u q1 q2 => eqMachine_same v1 v2 m' u q1 q2
  have HD : Hid (∀ (l : Nat) (v1 : MV) (u u' : World), MOwn l u v1 m' → MIs l u' v1 (marked v1 m' 1) → Calls Try.prog 13 #[.agg #[.slice v1.code.a v1.code.len v1.code.cap, .int .i64 m'.pc, .slice v1.regs.a v1.regs.len v1.regs.cap, .slice v1.data.a v1.data.len v1.data.cap, .slice v1.stk.a v1.stk.len v1.stk.cap, .slice v1.inp.a v1.inp.len v1.inp.cap, .slice v1.out.a v1.out.len v1.out.cap, .int .i64 m'.steps, .int .i64 m'.fin, .int .i64 m'.val], .int .i64 1] u' fun e w' => e = .returned (.int .i64 (1 + (Pl.mSize m' : Int))) ∧ Below u'.heap.size u' w') := fun l v1 u u' q1 q2 => by
    have e0 := q1.1.row.1
    have e1 := q1.2.1.row.1
    have e2 := q1.2.2.1.row.1
    have e3 := q1.2.2.2.1.row.1
    have e4 := q1.2.2.2.2.1.row.1
    have e5 := q1.2.2.2.2.2.row.1
    have hs : Pl.mSize m' = v1.code.len + v1.regs.len + v1.data.len + v1.stk.len + v1.inp.len + v1.out.len := by
      unfold Pl.mSize
      rw [e0, e1, e2, e3, e4, e5]
    have hl := HS'.out
    refine (heldMachine_any v1 m' 1 u' q2 (by decide) (by rw [← hs]; exact hl)).mono ?_
    rintro e w' ⟨rfl, hd⟩
    exact ⟨ret_int (by rw [hs]; omega), hd⟩
  clear hsp him hm' h hin
  have P : Hid ((w.alloc (.cells #[.slice v.code.a v.code.len v.code.cap, .slice v.data.a v.data.len v.data.cap, .int .i64 m.entry, .int .i64 m.size] 35)).heap[w.heap.size]? = some (.cells #[.slice v.code.a v.code.len v.code.cap, .slice v.data.a v.data.len v.data.cap, .int .i64 m.entry, .int .i64 m.size] 35)) := heap_alloc_new w _
  by_cases hbl : 1048576 < len
  · have hb1 : (1048576 : Int) < (len : Int) := by omega
    go_enter Try.func4, Try.ntmps4
    go_wp2
    go_ret
    exact ⟨rfl, below_alloc w _⟩
  have hb1 : (len : Int) ≤ 1048576 := by omega
  have HLEN : Hid (len ≤ 1048576) := by show len ≤ 1048576; omega
  clear hbl
  go_enter Try.func4, Try.ntmps4
  go_wp2_with (refine wpList_load_row rfl 35 _ rfl (w.heap.size) ?hx 35 #[.slice v.code.a v.code.len v.code.cap, .slice v.data.a v.data.len v.data.cap, .int .i64 m.entry, .int .i64 m.size] (0, 0) _ ?hg Try.underlying35 ?hd ?hi ?_; (case hx => rfl); (case hg => exact P.out); (case hd => rfl); (case hi => kernel_rfl))
  refine calls_at fun y0 hy0 => ?_
  have RA0 : Hid (y0.heap[w.heap.size]? = some (.cells #[.slice v.code.a v.code.len v.code.cap, .slice v.data.a v.data.len v.data.cap, .int .i64 m.entry, .int .i64 m.size] 35)) := by show y0.heap[w.heap.size]? = _; rw [hy0]; exact heap_alloc_new w _
  have B0 : Hid (Below w.heap.size w y0) := by show Below w.heap.size w y0; rw [hy0]; exact below_alloc w _
  have ZA0 : Hid (w.heap.size < y0.heap.size) := by show w.heap.size < y0.heap.size; rw [hy0]; simp
  have t0 : Hid (w.heap.size < y0.heap.size) := ZA0.out
  clear hy0 P
  refine (szImage_any v m 1048576 y0 (H.out.keep B0.out) (by decide)).mono ?_
  rintro e y1 ⟨r, rfl, hr, d1⟩
  have RA1 : Hid (y1.heap[w.heap.size]? = some (.cells #[.slice v.code.a v.code.len v.code.cap, .slice v.data.a v.data.len v.data.cap, .int .i64 m.entry, .int .i64 m.size] 35)) := (d1.block _ ZA0.out).trans RA0.out
  have ZA1 : Hid (w.heap.size < y1.heap.size) := Nat.lt_of_lt_of_le ZA0.out d1.size
  have B1 : Hid (Below w.heap.size w y1) := B0.out.trans (d1.mono B0.out.size)
  have s1 : Hid (y0.heap.size ≤ y1.heap.size) := d1.size
  clear d1 RA0 ZA0 B0
  by_cases hbig : (1048576 : Int) < ((m.code.length + m.data.length : Nat) : Int)
  · rw [if_pos hbig] at hr
    clear hbig
    go_wp2
    go_ret
    exact ⟨rfl, B1.out⟩
  rw [if_neg hbig] at hr
  have HS : Hid (m.code.length + m.data.length ≤ 1048576) := by show m.code.length + m.data.length ≤ 1048576; omega
  clear hbig
  go_wp2_with (refine wpList_load_row rfl 35 _ rfl (w.heap.size) ?hx 35 #[.slice v.code.a v.code.len v.code.cap, .slice v.data.a v.data.len v.data.cap, .int .i64 m.entry, .int .i64 m.size] (0, 0) _ ?hg Try.underlying35 ?hd ?hi ?_; (case hx => rfl); (case hg => exact RA1.out); (case hd => rfl); (case hi => kernel_rfl))
  refine (toImage_any v m y1 (H.out.keep B1.out) HS.out).mono ?_
  rintro e y2 ⟨v2, rfl, o2, d2⟩
  have OT2 : Hid (IOwn y1.heap.size y2 v2 m) := o2
  clear o2
  have RA2 : Hid (y2.heap[w.heap.size]? = some (.cells #[.slice v.code.a v.code.len v.code.cap, .slice v.data.a v.data.len v.data.cap, .int .i64 m.entry, .int .i64 m.size] 35)) := (d2.block _ ZA1.out).trans RA1.out
  have ZA2 : Hid (w.heap.size < y2.heap.size) := Nat.lt_of_lt_of_le ZA1.out d2.size
  have B2 : Hid (Below w.heap.size w y2) := B1.out.trans (d2.mono B1.out.size)
  have s2 : Hid (y1.heap.size ≤ y2.heap.size) := d2.size
  clear d2 RA1 ZA1 B1
  go_wp2_with fail
  refine (toByteS_any a0 len cap inp y2 (Row.keep HN.out B2.out) HLEN.out).mono ?_
  rintro e y3 ⟨rfl, o3, d3⟩
  have OS3 : Hid (Own .u8 5 y2.heap.size y3 (some ⟨y2.heap.size, 0, none⟩) len len inp) := o3
  clear o3
  have RA3 : Hid (y3.heap[w.heap.size]? = some (.cells #[.slice v.code.a v.code.len v.code.cap, .slice v.data.a v.data.len v.data.cap, .int .i64 m.entry, .int .i64 m.size] 35)) := (d3.block _ ZA2.out).trans RA2.out
  have ZA3 : Hid (w.heap.size < y3.heap.size) := Nat.lt_of_lt_of_le ZA2.out d3.size
  have OT3 : Hid (IOwn y1.heap.size y3 v2 m) := OT2.out.keep d3
  have B3 : Hid (Below w.heap.size w y3) := B2.out.trans (d3.mono B2.out.size)
  have s3 : Hid (y2.heap.size ≤ y3.heap.size) := d3.size
  clear d3 RA2 ZA2 OT2 B2
  go_wp2_with fail
  refine (SP.out _ _ v2 _ len len y3 OT3.out OS3.out).mono ?_
  rintro e y4 ⟨vw, rfl, ow, d4⟩
  have OW4 : Hid (MOwn y3.heap.size y4 vw m') := ow
  have INW : Hid (MIn vw y3.heap.size y4.heap.size) := MOwn.in ow
  clear ow OT3 OS3 SP
  have RA4 : Hid (y4.heap[w.heap.size]? = some (.cells #[.slice v.code.a v.code.len v.code.cap, .slice v.data.a v.data.len v.data.cap, .int .i64 m.entry, .int .i64 m.size] 35)) := (d4.block _ ZA3.out).trans RA3.out
  have ZA4 : Hid (w.heap.size < y4.heap.size) := Nat.lt_of_lt_of_le ZA3.out d4.size
  have B4 : Hid (Below w.heap.size w y4) := B3.out.trans (d4.mono B3.out.size)
  have s4 : Hid (y3.heap.size ≤ y4.heap.size) := d4.size
  clear d4 RA3 ZA3 B3
  go_wp2_with (refine wpList_store_row rfl 27 _ _ rfl (y4.heap.size) #[.slice vw.code.a vw.code.len vw.code.cap, .int .i64 m'.pc, .slice vw.regs.a vw.regs.len vw.regs.cap, .slice vw.data.a vw.data.len vw.data.cap, .slice vw.stk.a vw.stk.len vw.stk.cap, .slice vw.inp.a vw.inp.len vw.inp.cap, .slice vw.out.a vw.out.len vw.out.cap, .int .i64 m'.steps, .int .i64 m'.fin, .int .i64 m'.val] ?hx ?hy 27 #[.slice none 0 0, .int .i64 0, .slice none 0 0, .slice none 0 0, .slice none 0 0, .slice none 0 0, .slice none 0 0, .int .i64 0, .int .i64 0, .int .i64 0] ?hg ?hi ?ho ?h1 ?_; (case hx => rfl); (case hy => rfl); (case hg => exact heap_alloc_new y4 _); (case hi => kernel_rfl); (case ho => kernel_rfl); (case h1 => kernel_rfl); refine Hid.out ?_)
  unfold Hid
  rw [World.setRow_alloc_new]
  refine wpList_at fun y5 hy5 => ?_
  have d5 : Below y4.heap.size y4 y5 := by rw [hy5]; exact below_alloc y4 _
  have RW5 : Hid (y5.heap[y4.heap.size]? = some (.cells #[.slice vw.code.a vw.code.len vw.code.cap, .int .i64 m'.pc, .slice vw.regs.a vw.regs.len vw.regs.cap, .slice vw.data.a vw.data.len vw.data.cap, .slice vw.stk.a vw.stk.len vw.stk.cap, .slice vw.inp.a vw.inp.len vw.inp.cap, .slice vw.out.a vw.out.len vw.out.cap, .int .i64 m'.steps, .int .i64 m'.fin, .int .i64 m'.val] 27)) := by show y5.heap[y4.heap.size]? = _; rw [hy5]; exact heap_alloc_new y4 _
  have ZW5 : Hid (y4.heap.size < y5.heap.size) := by show y4.heap.size < y5.heap.size; rw [hy5]; simp
  have t5 : Hid (y4.heap.size < y5.heap.size) := ZW5.out
  clear hy5
  have RA5 : Hid (y5.heap[w.heap.size]? = some (.cells #[.slice v.code.a v.code.len v.code.cap, .slice v.data.a v.data.len v.data.cap, .int .i64 m.entry, .int .i64 m.size] 35)) := (d5.block _ ZA4.out).trans RA4.out
  have ZA5 : Hid (w.heap.size < y5.heap.size) := Nat.lt_of_lt_of_le ZA4.out d5.size
  have OW5 : Hid (MOwn y3.heap.size y5 vw m') := OW4.out.keep d5
  have B5 : Hid (Below w.heap.size w y5) := B4.out.trans (d5.mono B4.out.size)
  have s5 : Hid (y4.heap.size ≤ y5.heap.size) := d5.size
  clear d5 RA4 ZA4 OW4 B4
  obtain ⟨gW, hgW⟩ : ∃ g, g = y4.heap.size := ⟨_, rfl⟩
  rw [← hgW] at RW5 ZW5 ⊢
  have HGW : Hid (gW = y4.heap.size) := hgW
  clear hgW
  go_wp2_with (refine wpList_load_row rfl 35 _ rfl (w.heap.size) ?hx 35 #[.slice v.code.a v.code.len v.code.cap, .slice v.data.a v.data.len v.data.cap, .int .i64 m.entry, .int .i64 m.size] (0, 0) _ ?hg Try.underlying35 ?hd ?hi ?_; (case hx => rfl); (case hg => exact RA5.out); (case hd => rfl); (case hi => kernel_rfl))
  refine (toImage_spans v m y5 (H.out.keep B5.out) HS.out).mono ?_
  rintro e y6 ⟨vx, rfl, ox, spx, d6⟩
  have OX6 : Hid (IOwn y5.heap.size y6 vx m) := ox
  have SPX : Hid (∃ t0 t1 t2, Span vx.code t0 t1 ∧ Span vx.data t1 t2 ∧ y5.heap.size ≤ t0 ∧ t0 ≤ t1 ∧ t1 ≤ t2 ∧ t2 ≤ y6.heap.size) := spx
  clear ox spx
  have RA6 : Hid (y6.heap[w.heap.size]? = some (.cells #[.slice v.code.a v.code.len v.code.cap, .slice v.data.a v.data.len v.data.cap, .int .i64 m.entry, .int .i64 m.size] 35)) := (d6.block _ ZA5.out).trans RA5.out
  have ZA6 : Hid (w.heap.size < y6.heap.size) := Nat.lt_of_lt_of_le ZA5.out d6.size
  have RW6 : Hid (y6.heap[gW]? = some (.cells #[.slice vw.code.a vw.code.len vw.code.cap, .int .i64 m'.pc, .slice vw.regs.a vw.regs.len vw.regs.cap, .slice vw.data.a vw.data.len vw.data.cap, .slice vw.stk.a vw.stk.len vw.stk.cap, .slice vw.inp.a vw.inp.len vw.inp.cap, .slice vw.out.a vw.out.len vw.out.cap, .int .i64 m'.steps, .int .i64 m'.fin, .int .i64 m'.val] 27)) := (d6.block _ ZW5.out).trans RW5.out
  have ZW6 : Hid (gW < y6.heap.size) := Nat.lt_of_lt_of_le ZW5.out d6.size
  have OW6 : Hid (MOwn y3.heap.size y6 vw m') := OW5.out.keep d6
  have B6 : Hid (Below w.heap.size w y6) := B5.out.trans (d6.mono B5.out.size)
  have s6 : Hid (y5.heap.size ≤ y6.heap.size) := d6.size
  clear d6 RA5 ZA5 RW5 ZW5 OW5 B5
  go_wp2_with (refine wpList_store_row rfl 39 _ _ rfl (y6.heap.size) #[.slice vx.code.a vx.code.len vx.code.cap, .slice vx.data.a vx.data.len vx.data.cap, .int .i64 m.entry, .int .i64 m.size] ?hx ?hy 39 #[.slice none 0 0, .slice none 0 0, .int .i64 0, .int .i64 0] ?hg ?hi ?ho ?h1 ?_; (case hx => rfl); (case hy => rfl); (case hg => exact heap_alloc_new y6 _); (case hi => kernel_rfl); (case ho => kernel_rfl); (case h1 => kernel_rfl); refine Hid.out ?_)
  unfold Hid
  rw [World.setRow_alloc_new]
  refine wpList_at fun y7 hy7 => ?_
  have d7 : Below y6.heap.size y6 y7 := by rw [hy7]; exact below_alloc y6 _
  have RX7 : Hid (y7.heap[y6.heap.size]? = some (.cells #[.slice vx.code.a vx.code.len vx.code.cap, .slice vx.data.a vx.data.len vx.data.cap, .int .i64 m.entry, .int .i64 m.size] 39)) := by show y7.heap[y6.heap.size]? = _; rw [hy7]; exact heap_alloc_new y6 _
  have ZX7 : Hid (y6.heap.size < y7.heap.size) := by show y6.heap.size < y7.heap.size; rw [hy7]; simp
  have t7 : Hid (y6.heap.size < y7.heap.size) := ZX7.out
  clear hy7
  have RA7 : Hid (y7.heap[w.heap.size]? = some (.cells #[.slice v.code.a v.code.len v.code.cap, .slice v.data.a v.data.len v.data.cap, .int .i64 m.entry, .int .i64 m.size] 35)) := (d7.block _ ZA6.out).trans RA6.out
  have ZA7 : Hid (w.heap.size < y7.heap.size) := Nat.lt_of_lt_of_le ZA6.out d7.size
  have RW7 : Hid (y7.heap[gW]? = some (.cells #[.slice vw.code.a vw.code.len vw.code.cap, .int .i64 m'.pc, .slice vw.regs.a vw.regs.len vw.regs.cap, .slice vw.data.a vw.data.len vw.data.cap, .slice vw.stk.a vw.stk.len vw.stk.cap, .slice vw.inp.a vw.inp.len vw.inp.cap, .slice vw.out.a vw.out.len vw.out.cap, .int .i64 m'.steps, .int .i64 m'.fin, .int .i64 m'.val] 27)) := (d7.block _ ZW6.out).trans RW6.out
  have ZW7 : Hid (gW < y7.heap.size) := Nat.lt_of_lt_of_le ZW6.out d7.size
  have OW7 : Hid (MOwn y3.heap.size y7 vw m') := OW6.out.keep d7
  have OX7 : Hid (IOwn y5.heap.size y7 vx m) := OX6.out.keep d7
  have B7 : Hid (Below w.heap.size w y7) := B6.out.trans (d7.mono B6.out.size)
  have s7 : Hid (y6.heap.size ≤ y7.heap.size) := d7.size
  clear d7 RA6 ZA6 RW6 ZW6 OW6 OX6 B6
  obtain ⟨gX, hgX⟩ : ∃ g, g = y6.heap.size := ⟨_, rfl⟩
  rw [← hgX] at RX7 ZX7 ⊢
  have HGX : Hid (gX = y6.heap.size) := hgX
  clear hgX
  go_wp2_with fail
  refine (toByteS_any a0 len cap inp y7 (Row.keep HN.out B7.out) HLEN.out).mono ?_
  rintro e y8 ⟨rfl, o8, d8⟩
  obtain ⟨nb, hnb⟩ : ∃ n, n = y7.heap.size := ⟨_, rfl⟩
  rw [← hnb] at o8 ⊢
  have OB8 : Hid (Own .u8 5 nb y8 (some ⟨nb, 0, none⟩) len len inp) := o8
  have HNB : Hid (nb = y7.heap.size ∧ nb < y8.heap.size) := ⟨hnb, (o8.span (Nat.le_refl _) ⟨nb, 0, none⟩ rfl).2⟩
  clear o8 hnb
  have RA8 : Hid (y8.heap[w.heap.size]? = some (.cells #[.slice v.code.a v.code.len v.code.cap, .slice v.data.a v.data.len v.data.cap, .int .i64 m.entry, .int .i64 m.size] 35)) := (d8.block _ ZA7.out).trans RA7.out
  have ZA8 : Hid (w.heap.size < y8.heap.size) := Nat.lt_of_lt_of_le ZA7.out d8.size
  have RW8 : Hid (y8.heap[gW]? = some (.cells #[.slice vw.code.a vw.code.len vw.code.cap, .int .i64 m'.pc, .slice vw.regs.a vw.regs.len vw.regs.cap, .slice vw.data.a vw.data.len vw.data.cap, .slice vw.stk.a vw.stk.len vw.stk.cap, .slice vw.inp.a vw.inp.len vw.inp.cap, .slice vw.out.a vw.out.len vw.out.cap, .int .i64 m'.steps, .int .i64 m'.fin, .int .i64 m'.val] 27)) := (d8.block _ ZW7.out).trans RW7.out
  have ZW8 : Hid (gW < y8.heap.size) := Nat.lt_of_lt_of_le ZW7.out d8.size
  have RX8 : Hid (y8.heap[gX]? = some (.cells #[.slice vx.code.a vx.code.len vx.code.cap, .slice vx.data.a vx.data.len vx.data.cap, .int .i64 m.entry, .int .i64 m.size] 39)) := (d8.block _ ZX7.out).trans RX7.out
  have ZX8 : Hid (gX < y8.heap.size) := Nat.lt_of_lt_of_le ZX7.out d8.size
  have OW8 : Hid (MOwn y3.heap.size y8 vw m') := OW7.out.keep d8
  have OX8 : Hid (IOwn y5.heap.size y8 vx m) := OX7.out.keep d8
  have B8 : Hid (Below w.heap.size w y8) := B7.out.trans (d8.mono B7.out.size)
  have s8 : Hid (y7.heap.size ≤ y8.heap.size) := d8.size
  clear d8 RA7 ZA7 RW7 ZW7 RX7 ZX7 OW7 OX7 B7
  go_wp2_with (refine wpList_load_row rfl 39 _ rfl (gX) ?hx 39 #[.slice vx.code.a vx.code.len vx.code.cap, .slice vx.data.a vx.data.len vx.data.cap, .int .i64 m.entry, .int .i64 m.size] (0, 0) _ ?hg Try.underlying39 ?hd ?hi ?_; (case hx => rfl); (case hg => exact RX8.out); (case hd => rfl); (case hi => kernel_rfl))
  refine (IM.out _ _ vx _ len len y8 OX8.out OB8.out).mono ?_
  rintro e y9 ⟨vg, rfl, og, spg, d9⟩
  have OG9 : Hid (MOwn y8.heap.size y9 vg m') := og
  have ING : Hid (MIn vg y8.heap.size y9.heap.size) := MOwn.in og
  have SPG : Hid (∃ t0 t6, MApart t0 t6 vg ∧ y8.heap.size ≤ t0 ∧ t6 ≤ y9.heap.size) := spg
  clear og spg
  have RA9 : Hid (y9.heap[w.heap.size]? = some (.cells #[.slice v.code.a v.code.len v.code.cap, .slice v.data.a v.data.len v.data.cap, .int .i64 m.entry, .int .i64 m.size] 35)) := (d9.block _ ZA8.out).trans RA8.out
  have ZA9 : Hid (w.heap.size < y9.heap.size) := Nat.lt_of_lt_of_le ZA8.out d9.size
  have RW9 : Hid (y9.heap[gW]? = some (.cells #[.slice vw.code.a vw.code.len vw.code.cap, .int .i64 m'.pc, .slice vw.regs.a vw.regs.len vw.regs.cap, .slice vw.data.a vw.data.len vw.data.cap, .slice vw.stk.a vw.stk.len vw.stk.cap, .slice vw.inp.a vw.inp.len vw.inp.cap, .slice vw.out.a vw.out.len vw.out.cap, .int .i64 m'.steps, .int .i64 m'.fin, .int .i64 m'.val] 27)) := (d9.block _ ZW8.out).trans RW8.out
  have ZW9 : Hid (gW < y9.heap.size) := Nat.lt_of_lt_of_le ZW8.out d9.size
  have RX9 : Hid (y9.heap[gX]? = some (.cells #[.slice vx.code.a vx.code.len vx.code.cap, .slice vx.data.a vx.data.len vx.data.cap, .int .i64 m.entry, .int .i64 m.size] 39)) := (d9.block _ ZX8.out).trans RX8.out
  have ZX9 : Hid (gX < y9.heap.size) := Nat.lt_of_lt_of_le ZX8.out d9.size
  have OW9 : Hid (MOwn y3.heap.size y9 vw m') := OW8.out.keep d9
  have OX9 : Hid (IOwn y5.heap.size y9 vx m) := OX8.out.keep d9
  have OB9 : Hid (Own .u8 5 nb y9 (some ⟨nb, 0, none⟩) len len inp) := OB8.out.keep d9
  have B9 : Hid (Below w.heap.size w y9) := B8.out.trans (d9.mono B8.out.size)
  have s9 : Hid (y8.heap.size ≤ y9.heap.size) := d9.size
  clear d9 RA8 ZA8 RW8 ZW8 RX8 ZX8 OW8 OX8 OB8 B8
  go_wp2_with (refine wpList_store_row rfl 27 _ _ rfl (y9.heap.size) #[.slice vg.code.a vg.code.len vg.code.cap, .int .i64 m'.pc, .slice vg.regs.a vg.regs.len vg.regs.cap, .slice vg.data.a vg.data.len vg.data.cap, .slice vg.stk.a vg.stk.len vg.stk.cap, .slice vg.inp.a vg.inp.len vg.inp.cap, .slice vg.out.a vg.out.len vg.out.cap, .int .i64 m'.steps, .int .i64 m'.fin, .int .i64 m'.val] ?hx ?hy 27 #[.slice none 0 0, .int .i64 0, .slice none 0 0, .slice none 0 0, .slice none 0 0, .slice none 0 0, .slice none 0 0, .int .i64 0, .int .i64 0, .int .i64 0] ?hg ?hi ?ho ?h1 ?_; (case hx => rfl); (case hy => rfl); (case hg => exact heap_alloc_new y9 _); (case hi => kernel_rfl); (case ho => kernel_rfl); (case h1 => kernel_rfl); refine Hid.out ?_)
  unfold Hid
  rw [World.setRow_alloc_new]
  refine wpList_at fun y10 hy10 => ?_
  have d10 : Below y9.heap.size y9 y10 := by rw [hy10]; exact below_alloc y9 _
  have RG10 : Hid (y10.heap[y9.heap.size]? = some (.cells #[.slice vg.code.a vg.code.len vg.code.cap, .int .i64 m'.pc, .slice vg.regs.a vg.regs.len vg.regs.cap, .slice vg.data.a vg.data.len vg.data.cap, .slice vg.stk.a vg.stk.len vg.stk.cap, .slice vg.inp.a vg.inp.len vg.inp.cap, .slice vg.out.a vg.out.len vg.out.cap, .int .i64 m'.steps, .int .i64 m'.fin, .int .i64 m'.val] 27)) := by show y10.heap[y9.heap.size]? = _; rw [hy10]; exact heap_alloc_new y9 _
  have ZG10 : Hid (y9.heap.size < y10.heap.size) := by show y9.heap.size < y10.heap.size; rw [hy10]; simp
  have t10 : Hid (y9.heap.size < y10.heap.size) := ZG10.out
  clear hy10
  have RA10 : Hid (y10.heap[w.heap.size]? = some (.cells #[.slice v.code.a v.code.len v.code.cap, .slice v.data.a v.data.len v.data.cap, .int .i64 m.entry, .int .i64 m.size] 35)) := (d10.block _ ZA9.out).trans RA9.out
  have ZA10 : Hid (w.heap.size < y10.heap.size) := Nat.lt_of_lt_of_le ZA9.out d10.size
  have RW10 : Hid (y10.heap[gW]? = some (.cells #[.slice vw.code.a vw.code.len vw.code.cap, .int .i64 m'.pc, .slice vw.regs.a vw.regs.len vw.regs.cap, .slice vw.data.a vw.data.len vw.data.cap, .slice vw.stk.a vw.stk.len vw.stk.cap, .slice vw.inp.a vw.inp.len vw.inp.cap, .slice vw.out.a vw.out.len vw.out.cap, .int .i64 m'.steps, .int .i64 m'.fin, .int .i64 m'.val] 27)) := (d10.block _ ZW9.out).trans RW9.out
  have ZW10 : Hid (gW < y10.heap.size) := Nat.lt_of_lt_of_le ZW9.out d10.size
  have RX10 : Hid (y10.heap[gX]? = some (.cells #[.slice vx.code.a vx.code.len vx.code.cap, .slice vx.data.a vx.data.len vx.data.cap, .int .i64 m.entry, .int .i64 m.size] 39)) := (d10.block _ ZX9.out).trans RX9.out
  have ZX10 : Hid (gX < y10.heap.size) := Nat.lt_of_lt_of_le ZX9.out d10.size
  have OW10 : Hid (MOwn y3.heap.size y10 vw m') := OW9.out.keep d10
  have OX10 : Hid (IOwn y5.heap.size y10 vx m) := OX9.out.keep d10
  have OB10 : Hid (Own .u8 5 nb y10 (some ⟨nb, 0, none⟩) len len inp) := OB9.out.keep d10
  have OG10 : Hid (MOwn y8.heap.size y10 vg m') := OG9.out.keep d10
  have B10 : Hid (Below w.heap.size w y10) := B9.out.trans (d10.mono B9.out.size)
  have s10 : Hid (y9.heap.size ≤ y10.heap.size) := d10.size
  clear d10 RA9 ZA9 RW9 ZW9 RX9 ZX9 OW9 OX9 OB9 OG9 B9
  obtain ⟨gG, hgG⟩ : ∃ g, g = y9.heap.size := ⟨_, rfl⟩
  rw [← hgG] at RG10 ZG10 ⊢
  have HGG : Hid (gG = y9.heap.size) := hgG
  clear hgG
  go_wp2_with (first | (refine wpList_load_row rfl 27 _ rfl (gG) ?hx 27 #[.slice vg.code.a vg.code.len vg.code.cap, .int .i64 m'.pc, .slice vg.regs.a vg.regs.len vg.regs.cap, .slice vg.data.a vg.data.len vg.data.cap, .slice vg.stk.a vg.stk.len vg.stk.cap, .slice vg.inp.a vg.inp.len vg.inp.cap, .slice vg.out.a vg.out.len vg.out.cap, .int .i64 m'.steps, .int .i64 m'.fin, .int .i64 m'.val] (0, 0) _ ?hg Try.underlying27 ?hd ?hi ?_; (case hx => rfl); (case hg => exact RG10.out); (case hd => rfl); (case hi => kernel_rfl)) | (refine wpList_load_row rfl 27 _ rfl (gW) ?hx 27 #[.slice vw.code.a vw.code.len vw.code.cap, .int .i64 m'.pc, .slice vw.regs.a vw.regs.len vw.regs.cap, .slice vw.data.a vw.data.len vw.data.cap, .slice vw.stk.a vw.stk.len vw.stk.cap, .slice vw.inp.a vw.inp.len vw.inp.cap, .slice vw.out.a vw.out.len vw.out.cap, .int .i64 m'.steps, .int .i64 m'.fin, .int .i64 m'.val] (0, 0) _ ?hg Try.underlying27 ?hd ?hi ?_; (case hx => rfl); (case hg => exact RW10.out); (case hd => rfl); (case hi => kernel_rfl)))
  refine (EQ.out _ _ vg vw y10 OG10.out.is OW10.out.is).mono ?_
  rintro e y11 ⟨rfl, d11⟩
  have RA11 : Hid (y11.heap[w.heap.size]? = some (.cells #[.slice v.code.a v.code.len v.code.cap, .slice v.data.a v.data.len v.data.cap, .int .i64 m.entry, .int .i64 m.size] 35)) := (d11.block _ ZA10.out).trans RA10.out
  have ZA11 : Hid (w.heap.size < y11.heap.size) := Nat.lt_of_lt_of_le ZA10.out d11.size
  have RW11 : Hid (y11.heap[gW]? = some (.cells #[.slice vw.code.a vw.code.len vw.code.cap, .int .i64 m'.pc, .slice vw.regs.a vw.regs.len vw.regs.cap, .slice vw.data.a vw.data.len vw.data.cap, .slice vw.stk.a vw.stk.len vw.stk.cap, .slice vw.inp.a vw.inp.len vw.inp.cap, .slice vw.out.a vw.out.len vw.out.cap, .int .i64 m'.steps, .int .i64 m'.fin, .int .i64 m'.val] 27)) := (d11.block _ ZW10.out).trans RW10.out
  have ZW11 : Hid (gW < y11.heap.size) := Nat.lt_of_lt_of_le ZW10.out d11.size
  have RX11 : Hid (y11.heap[gX]? = some (.cells #[.slice vx.code.a vx.code.len vx.code.cap, .slice vx.data.a vx.data.len vx.data.cap, .int .i64 m.entry, .int .i64 m.size] 39)) := (d11.block _ ZX10.out).trans RX10.out
  have ZX11 : Hid (gX < y11.heap.size) := Nat.lt_of_lt_of_le ZX10.out d11.size
  have RG11 : Hid (y11.heap[gG]? = some (.cells #[.slice vg.code.a vg.code.len vg.code.cap, .int .i64 m'.pc, .slice vg.regs.a vg.regs.len vg.regs.cap, .slice vg.data.a vg.data.len vg.data.cap, .slice vg.stk.a vg.stk.len vg.stk.cap, .slice vg.inp.a vg.inp.len vg.inp.cap, .slice vg.out.a vg.out.len vg.out.cap, .int .i64 m'.steps, .int .i64 m'.fin, .int .i64 m'.val] 27)) := (d11.block _ ZG10.out).trans RG10.out
  have ZG11 : Hid (gG < y11.heap.size) := Nat.lt_of_lt_of_le ZG10.out d11.size
  have OW11 : Hid (MOwn y3.heap.size y11 vw m') := OW10.out.keep d11
  have OX11 : Hid (IOwn y5.heap.size y11 vx m) := OX10.out.keep d11
  have OB11 : Hid (Own .u8 5 nb y11 (some ⟨nb, 0, none⟩) len len inp) := OB10.out.keep d11
  have OG11 : Hid (MOwn y8.heap.size y11 vg m') := OG10.out.keep d11
  have B11 : Hid (Below w.heap.size w y11) := B10.out.trans (d11.mono B10.out.size)
  have s11 : Hid (y10.heap.size ≤ y11.heap.size) := d11.size
  clear d11 RA10 ZA10 RW10 ZW10 RX10 ZX10 RG10 ZG10 OW10 OX10 OB10 OG10 B10
  go_upto_region 13 with fail
  go_cut [56] from 52 to 55 (fun v56 wx => v56 = .bool false ∧ Below y11.heap.size y11 wx)
  case first =>
    have kx : ∀ j, y11.cell? ⟨gX, j, none⟩ = (#[.slice vx.code.a vx.code.len vx.code.cap, .slice vx.data.a vx.data.len vx.data.cap, .int .i64 m.entry, .int .i64 m.size] : Array Value)[j]? := fun j => cell_of_row y11 gX j _ 39 (0, 0) RX11.out
    have kp : ∀ j, y11.cell? ⟨w.heap.size, j, none⟩ = (#[.slice v.code.a v.code.len v.code.cap, .slice v.data.a v.data.len v.data.cap, .int .i64 m.entry, .int .i64 m.size] : Array Value)[j]? := fun j => cell_of_row y11 w.heap.size j _ 35 (0, 0) RA11.out
    go_region_with (first | (go_at_call 16; refine (toImage_any v m _ (H.out.keep (by repeat (first | exact B11.out | refine Below.drew ?_ | refine below_drewN ?_ _))) HS.out).mono ?_; rintro e q7 ⟨v7, rfl, o7, d7⟩; have kx7 : ∀ j, q7.cell? ⟨gX, j, none⟩ = (#[.slice vx.code.a vx.code.len vx.code.cap, .slice vx.data.a vx.data.len vx.data.cap, .int .i64 m.entry, .int .i64 m.size] : Array Value)[j]? := (fun j => cell_of_row q7 gX j _ 39 (0, 0) ((d7.block _ ZX11.out).trans RX11.out)); have O7 : Hid (IOwn _ q7 v7 m) := o7; have D7 : Hid (Below y11.heap.size y11 q7) := ((Below.refl y11.heap.size y11).drew).trans d7; clear o7 d7) | (go_at_call 19; refine (eqImage_same vx v7 m _ (OX11.out.is.keep D7.out) O7.out.is).mono ?_; rintro e q8 ⟨rfl, d8⟩; have D8 : Hid (Below q7.heap.size q7 q8) := d8; clear d8))
    all_goals
      go_wp2_with fail
      go_meet
      exact ⟨rfl, D7.out.trans (D8.out.mono D7.out.size)⟩
  case rest =>
  obtain ⟨rfl, d12⟩ := hcut
  obtain ⟨y12, hy12⟩ : ∃ u : World, u = wc := ⟨wc, rfl⟩
  rw [← hy12] at d12 ⊢
  clear hy12
  have RA12 : Hid (y12.heap[w.heap.size]? = some (.cells #[.slice v.code.a v.code.len v.code.cap, .slice v.data.a v.data.len v.data.cap, .int .i64 m.entry, .int .i64 m.size] 35)) := (d12.block _ ZA11.out).trans RA11.out
  have ZA12 : Hid (w.heap.size < y12.heap.size) := Nat.lt_of_lt_of_le ZA11.out d12.size
  have RW12 : Hid (y12.heap[gW]? = some (.cells #[.slice vw.code.a vw.code.len vw.code.cap, .int .i64 m'.pc, .slice vw.regs.a vw.regs.len vw.regs.cap, .slice vw.data.a vw.data.len vw.data.cap, .slice vw.stk.a vw.stk.len vw.stk.cap, .slice vw.inp.a vw.inp.len vw.inp.cap, .slice vw.out.a vw.out.len vw.out.cap, .int .i64 m'.steps, .int .i64 m'.fin, .int .i64 m'.val] 27)) := (d12.block _ ZW11.out).trans RW11.out
  have ZW12 : Hid (gW < y12.heap.size) := Nat.lt_of_lt_of_le ZW11.out d12.size
  have RX12 : Hid (y12.heap[gX]? = some (.cells #[.slice vx.code.a vx.code.len vx.code.cap, .slice vx.data.a vx.data.len vx.data.cap, .int .i64 m.entry, .int .i64 m.size] 39)) := (d12.block _ ZX11.out).trans RX11.out
  have ZX12 : Hid (gX < y12.heap.size) := Nat.lt_of_lt_of_le ZX11.out d12.size
  have RG12 : Hid (y12.heap[gG]? = some (.cells #[.slice vg.code.a vg.code.len vg.code.cap, .int .i64 m'.pc, .slice vg.regs.a vg.regs.len vg.regs.cap, .slice vg.data.a vg.data.len vg.data.cap, .slice vg.stk.a vg.stk.len vg.stk.cap, .slice vg.inp.a vg.inp.len vg.inp.cap, .slice vg.out.a vg.out.len vg.out.cap, .int .i64 m'.steps, .int .i64 m'.fin, .int .i64 m'.val] 27)) := (d12.block _ ZG11.out).trans RG11.out
  have ZG12 : Hid (gG < y12.heap.size) := Nat.lt_of_lt_of_le ZG11.out d12.size
  have OW12 : Hid (MOwn y3.heap.size y12 vw m') := OW11.out.keep d12
  have OX12 : Hid (IOwn y5.heap.size y12 vx m) := OX11.out.keep d12
  have OB12 : Hid (Own .u8 5 nb y12 (some ⟨nb, 0, none⟩) len len inp) := OB11.out.keep d12
  have OG12 : Hid (MOwn y8.heap.size y12 vg m') := OG11.out.keep d12
  have B12 : Hid (Below w.heap.size w y12) := B11.out.trans (d12.mono B11.out.size)
  have s12 : Hid (y11.heap.size ≤ y12.heap.size) := d12.size
  clear d12 RA11 ZA11 RW11 ZW11 RX11 ZX11 RG11 ZG11 OW11 OX11 OB11 OG11 B11
  go_wp2_with fail
  refine (toByteS_any a0 len cap inp y12 (Row.keep HN.out B12.out) HLEN.out).mono ?_
  rintro e y13 ⟨rfl, o13, d13⟩
  have OE13 : Hid (Own .u8 5 y12.heap.size y13 (some ⟨y12.heap.size, 0, none⟩) len len inp) := o13
  clear o13
  have RA13 : Hid (y13.heap[w.heap.size]? = some (.cells #[.slice v.code.a v.code.len v.code.cap, .slice v.data.a v.data.len v.data.cap, .int .i64 m.entry, .int .i64 m.size] 35)) := (d13.block _ ZA12.out).trans RA12.out
  have ZA13 : Hid (w.heap.size < y13.heap.size) := Nat.lt_of_lt_of_le ZA12.out d13.size
  have RW13 : Hid (y13.heap[gW]? = some (.cells #[.slice vw.code.a vw.code.len vw.code.cap, .int .i64 m'.pc, .slice vw.regs.a vw.regs.len vw.regs.cap, .slice vw.data.a vw.data.len vw.data.cap, .slice vw.stk.a vw.stk.len vw.stk.cap, .slice vw.inp.a vw.inp.len vw.inp.cap, .slice vw.out.a vw.out.len vw.out.cap, .int .i64 m'.steps, .int .i64 m'.fin, .int .i64 m'.val] 27)) := (d13.block _ ZW12.out).trans RW12.out
  have ZW13 : Hid (gW < y13.heap.size) := Nat.lt_of_lt_of_le ZW12.out d13.size
  have RX13 : Hid (y13.heap[gX]? = some (.cells #[.slice vx.code.a vx.code.len vx.code.cap, .slice vx.data.a vx.data.len vx.data.cap, .int .i64 m.entry, .int .i64 m.size] 39)) := (d13.block _ ZX12.out).trans RX12.out
  have ZX13 : Hid (gX < y13.heap.size) := Nat.lt_of_lt_of_le ZX12.out d13.size
  have RG13 : Hid (y13.heap[gG]? = some (.cells #[.slice vg.code.a vg.code.len vg.code.cap, .int .i64 m'.pc, .slice vg.regs.a vg.regs.len vg.regs.cap, .slice vg.data.a vg.data.len vg.data.cap, .slice vg.stk.a vg.stk.len vg.stk.cap, .slice vg.inp.a vg.inp.len vg.inp.cap, .slice vg.out.a vg.out.len vg.out.cap, .int .i64 m'.steps, .int .i64 m'.fin, .int .i64 m'.val] 27)) := (d13.block _ ZG12.out).trans RG12.out
  have ZG13 : Hid (gG < y13.heap.size) := Nat.lt_of_lt_of_le ZG12.out d13.size
  have OW13 : Hid (MOwn y3.heap.size y13 vw m') := OW12.out.keep d13
  have OX13 : Hid (IOwn y5.heap.size y13 vx m) := OX12.out.keep d13
  have OB13 : Hid (Own .u8 5 nb y13 (some ⟨nb, 0, none⟩) len len inp) := OB12.out.keep d13
  have OG13 : Hid (MOwn y8.heap.size y13 vg m') := OG12.out.keep d13
  have B13 : Hid (Below w.heap.size w y13) := B12.out.trans (d13.mono B12.out.size)
  have s13 : Hid (y12.heap.size ≤ y13.heap.size) := d13.size
  clear d13 RA12 ZA12 RW12 ZW12 RX12 ZX12 RG12 ZG12 OW12 OX12 OB12 OG12 B12
  go_wp2_with fail
  refine (eqByteS_any (some ⟨nb, 0, none⟩) (some ⟨y12.heap.size, 0, none⟩) len len len len inp inp y13 OB13.out.row OE13.out.row).mono ?_
  rintro e y14 ⟨rfl, d14⟩
  rw [show (inp == inp) = true from by simp]
  clear OE13
  have RA14 : Hid (y14.heap[w.heap.size]? = some (.cells #[.slice v.code.a v.code.len v.code.cap, .slice v.data.a v.data.len v.data.cap, .int .i64 m.entry, .int .i64 m.size] 35)) := (d14.block _ ZA13.out).trans RA13.out
  have ZA14 : Hid (w.heap.size < y14.heap.size) := Nat.lt_of_lt_of_le ZA13.out d14.size
  have RW14 : Hid (y14.heap[gW]? = some (.cells #[.slice vw.code.a vw.code.len vw.code.cap, .int .i64 m'.pc, .slice vw.regs.a vw.regs.len vw.regs.cap, .slice vw.data.a vw.data.len vw.data.cap, .slice vw.stk.a vw.stk.len vw.stk.cap, .slice vw.inp.a vw.inp.len vw.inp.cap, .slice vw.out.a vw.out.len vw.out.cap, .int .i64 m'.steps, .int .i64 m'.fin, .int .i64 m'.val] 27)) := (d14.block _ ZW13.out).trans RW13.out
  have ZW14 : Hid (gW < y14.heap.size) := Nat.lt_of_lt_of_le ZW13.out d14.size
  have RX14 : Hid (y14.heap[gX]? = some (.cells #[.slice vx.code.a vx.code.len vx.code.cap, .slice vx.data.a vx.data.len vx.data.cap, .int .i64 m.entry, .int .i64 m.size] 39)) := (d14.block _ ZX13.out).trans RX13.out
  have ZX14 : Hid (gX < y14.heap.size) := Nat.lt_of_lt_of_le ZX13.out d14.size
  have RG14 : Hid (y14.heap[gG]? = some (.cells #[.slice vg.code.a vg.code.len vg.code.cap, .int .i64 m'.pc, .slice vg.regs.a vg.regs.len vg.regs.cap, .slice vg.data.a vg.data.len vg.data.cap, .slice vg.stk.a vg.stk.len vg.stk.cap, .slice vg.inp.a vg.inp.len vg.inp.cap, .slice vg.out.a vg.out.len vg.out.cap, .int .i64 m'.steps, .int .i64 m'.fin, .int .i64 m'.val] 27)) := (d14.block _ ZG13.out).trans RG13.out
  have ZG14 : Hid (gG < y14.heap.size) := Nat.lt_of_lt_of_le ZG13.out d14.size
  have OW14 : Hid (MOwn y3.heap.size y14 vw m') := OW13.out.keep d14
  have OX14 : Hid (IOwn y5.heap.size y14 vx m) := OX13.out.keep d14
  have OB14 : Hid (Own .u8 5 nb y14 (some ⟨nb, 0, none⟩) len len inp) := OB13.out.keep d14
  have OG14 : Hid (MOwn y8.heap.size y14 vg m') := OG13.out.keep d14
  have B14 : Hid (Below w.heap.size w y14) := B13.out.trans (d14.mono B13.out.size)
  have s14 : Hid (y13.heap.size ≤ y14.heap.size) := d14.size
  clear d14 RA13 ZA13 RW13 ZW13 RX13 ZX13 RG13 ZG13 OW13 OX13 OB13 OG13 B13
  go_wp2_with (refine wpList_load_row rfl 39 _ rfl (gX) ?hx 39 #[.slice vx.code.a vx.code.len vx.code.cap, .slice vx.data.a vx.data.len vx.data.cap, .int .i64 m.entry, .int .i64 m.size] (0, 0) _ ?hg Try.underlying39 ?hd ?hi ?_; (case hx => rfl); (case hg => exact RX14.out); (case hd => rfl); (case hi => kernel_rfl))
  obtain ⟨x0, x1, x2, px0, px1, hx0, hx1, hx2, hx3⟩ := SPX.out
  refine (markImage_out vx m 1 y14 OX14.out px0 px1 ⟨hx1, hx2, by have := t0.out; have := s1.out; have := s2.out; have := s3.out; have := s4.out; have := s5.out; have := t5.out; have := HGW.out; have := s6.out; have := s7.out; have := t7.out; have := HGX.out; have := HNB.out; have := s8.out; have := s9.out; have := s10.out; have := t10.out; have := HGG.out; have := s11.out; have := s12.out; have := s13.out; have := s14.out; omega⟩ (by decide) HS.out).mono ?_
  rintro e y15 ⟨k1, rfl, hk1, hk2, to15⟩
  have T15 := to15
  have RA15 : Hid (y15.heap[w.heap.size]? = some (.cells #[.slice v.code.a v.code.len v.code.cap, .slice v.data.a v.data.len v.data.cap, .int .i64 m.entry, .int .i64 m.size] 35)) := (T15.block _ ZA14.out (by have := t0.out; have := s1.out; have := s2.out; have := s3.out; have := s4.out; have := s5.out; have := t5.out; have := HGW.out; have := s6.out; have := s7.out; have := t7.out; have := HGX.out; have := HNB.out; have := s8.out; have := s9.out; have := s10.out; have := t10.out; have := HGG.out; have := s11.out; have := s12.out; have := s13.out; have := s14.out; omega)).trans RA14.out
  have ZA15 : Hid (w.heap.size < y15.heap.size) := Nat.lt_of_lt_of_le ZA14.out T15.size
  have RW15 : Hid (y15.heap[gW]? = some (.cells #[.slice vw.code.a vw.code.len vw.code.cap, .int .i64 m'.pc, .slice vw.regs.a vw.regs.len vw.regs.cap, .slice vw.data.a vw.data.len vw.data.cap, .slice vw.stk.a vw.stk.len vw.stk.cap, .slice vw.inp.a vw.inp.len vw.inp.cap, .slice vw.out.a vw.out.len vw.out.cap, .int .i64 m'.steps, .int .i64 m'.fin, .int .i64 m'.val] 27)) := (T15.block _ ZW14.out (by have := t0.out; have := s1.out; have := s2.out; have := s3.out; have := s4.out; have := s5.out; have := t5.out; have := HGW.out; have := s6.out; have := s7.out; have := t7.out; have := HGX.out; have := HNB.out; have := s8.out; have := s9.out; have := s10.out; have := t10.out; have := HGG.out; have := s11.out; have := s12.out; have := s13.out; have := s14.out; omega)).trans RW14.out
  have ZW15 : Hid (gW < y15.heap.size) := Nat.lt_of_lt_of_le ZW14.out T15.size
  have RX15 : Hid (y15.heap[gX]? = some (.cells #[.slice vx.code.a vx.code.len vx.code.cap, .slice vx.data.a vx.data.len vx.data.cap, .int .i64 m.entry, .int .i64 m.size] 39)) := (T15.block _ ZX14.out (by have := t0.out; have := s1.out; have := s2.out; have := s3.out; have := s4.out; have := s5.out; have := t5.out; have := HGW.out; have := s6.out; have := s7.out; have := t7.out; have := HGX.out; have := HNB.out; have := s8.out; have := s9.out; have := s10.out; have := t10.out; have := HGG.out; have := s11.out; have := s12.out; have := s13.out; have := s14.out; omega)).trans RX14.out
  have ZX15 : Hid (gX < y15.heap.size) := Nat.lt_of_lt_of_le ZX14.out T15.size
  have RG15 : Hid (y15.heap[gG]? = some (.cells #[.slice vg.code.a vg.code.len vg.code.cap, .int .i64 m'.pc, .slice vg.regs.a vg.regs.len vg.regs.cap, .slice vg.data.a vg.data.len vg.data.cap, .slice vg.stk.a vg.stk.len vg.stk.cap, .slice vg.inp.a vg.inp.len vg.inp.cap, .slice vg.out.a vg.out.len vg.out.cap, .int .i64 m'.steps, .int .i64 m'.fin, .int .i64 m'.val] 27)) := (T15.block _ ZG14.out (by have := t0.out; have := s1.out; have := s2.out; have := s3.out; have := s4.out; have := s5.out; have := t5.out; have := HGW.out; have := s6.out; have := s7.out; have := t7.out; have := HGX.out; have := HNB.out; have := s8.out; have := s9.out; have := s10.out; have := t10.out; have := HGG.out; have := s11.out; have := s12.out; have := s13.out; have := s14.out; omega)).trans RG14.out
  have ZG15 : Hid (gG < y15.heap.size) := Nat.lt_of_lt_of_le ZG14.out T15.size
  have OW15 : Hid (MOwn y3.heap.size y15 vw m') := OW14.out.outside INW.out T15 (by have := t0.out; have := s1.out; have := s2.out; have := s3.out; have := s4.out; have := s5.out; have := t5.out; have := HGW.out; have := s6.out; have := s7.out; have := t7.out; have := HGX.out; have := HNB.out; have := s8.out; have := s9.out; have := s10.out; have := t10.out; have := HGG.out; have := s11.out; have := s12.out; have := s13.out; have := s14.out; omega)
  have OB15 : Hid (Own .u8 5 nb y15 (some ⟨nb, 0, none⟩) len len inp) := OB14.out.outside (spanB nb len) T15 (by have := t0.out; have := s1.out; have := s2.out; have := s3.out; have := s4.out; have := s5.out; have := t5.out; have := HGW.out; have := s6.out; have := s7.out; have := t7.out; have := HGX.out; have := HNB.out; have := s8.out; have := s9.out; have := s10.out; have := t10.out; have := HGG.out; have := s11.out; have := s12.out; have := s13.out; have := s14.out; omega)
  have OG15 : Hid (MOwn y8.heap.size y15 vg m') := OG14.out.outside ING.out T15 (by have := t0.out; have := s1.out; have := s2.out; have := s3.out; have := s4.out; have := s5.out; have := t5.out; have := HGW.out; have := s6.out; have := s7.out; have := t7.out; have := HGX.out; have := HNB.out; have := s8.out; have := s9.out; have := s10.out; have := t10.out; have := HGG.out; have := s11.out; have := s12.out; have := s13.out; have := s14.out; omega)
  have B15 : Hid (Below w.heap.size w y15) := B14.out.trans (belowC T15 (by have := t0.out; have := s1.out; have := s2.out; have := s3.out; have := s4.out; have := s5.out; have := t5.out; have := HGW.out; have := s6.out; have := s7.out; have := t7.out; have := HGX.out; have := HNB.out; have := s8.out; have := s9.out; have := s10.out; have := t10.out; have := HGG.out; have := s11.out; have := s12.out; have := s13.out; have := s14.out; omega) (by have := t0.out; have := s1.out; have := s2.out; have := s3.out; have := s4.out; have := s5.out; have := t5.out; have := HGW.out; have := s6.out; have := s7.out; have := t7.out; have := HGX.out; have := HNB.out; have := s8.out; have := s9.out; have := s10.out; have := t10.out; have := HGG.out; have := s11.out; have := s12.out; have := s13.out; have := s14.out; omega))
  have s15 : Hid (y14.heap.size ≤ y15.heap.size) := T15.size
  clear T15 RA14 ZA14 RW14 ZW14 RX14 ZX14 RG14 ZG14 OW14 OX14 OB14 OG14 B14
  clear hx0 hx1 hx2 hx3 px0 px1 to15
  go_wp2_with fail
  refine (markByteS_any (some ⟨nb, 0, none⟩) len len inp k1 y15 OB15.out (by have := HLEN.out; omega)).mono ?_
  rintro e y16 ⟨rfl, _, tc16⟩
  have to16 : Outside nb (nb + 1) y15 y16 := Outside.of_touch (s := ⟨some ⟨nb, 0, none⟩, len, len⟩) tc16 (spanB nb len) (Nat.le_refl _) (Nat.le_refl _)
  have T16 := to16
  have RA16 : Hid (y16.heap[w.heap.size]? = some (.cells #[.slice v.code.a v.code.len v.code.cap, .slice v.data.a v.data.len v.data.cap, .int .i64 m.entry, .int .i64 m.size] 35)) := (T16.block _ ZA15.out (by have := t0.out; have := s1.out; have := s2.out; have := s3.out; have := s4.out; have := s5.out; have := t5.out; have := HGW.out; have := s6.out; have := s7.out; have := t7.out; have := HGX.out; have := HNB.out; have := s8.out; have := s9.out; have := s10.out; have := t10.out; have := HGG.out; have := s11.out; have := s12.out; have := s13.out; have := s14.out; have := s15.out; omega)).trans RA15.out
  have ZA16 : Hid (w.heap.size < y16.heap.size) := Nat.lt_of_lt_of_le ZA15.out T16.size
  have RW16 : Hid (y16.heap[gW]? = some (.cells #[.slice vw.code.a vw.code.len vw.code.cap, .int .i64 m'.pc, .slice vw.regs.a vw.regs.len vw.regs.cap, .slice vw.data.a vw.data.len vw.data.cap, .slice vw.stk.a vw.stk.len vw.stk.cap, .slice vw.inp.a vw.inp.len vw.inp.cap, .slice vw.out.a vw.out.len vw.out.cap, .int .i64 m'.steps, .int .i64 m'.fin, .int .i64 m'.val] 27)) := (T16.block _ ZW15.out (by have := t0.out; have := s1.out; have := s2.out; have := s3.out; have := s4.out; have := s5.out; have := t5.out; have := HGW.out; have := s6.out; have := s7.out; have := t7.out; have := HGX.out; have := HNB.out; have := s8.out; have := s9.out; have := s10.out; have := t10.out; have := HGG.out; have := s11.out; have := s12.out; have := s13.out; have := s14.out; have := s15.out; omega)).trans RW15.out
  have ZW16 : Hid (gW < y16.heap.size) := Nat.lt_of_lt_of_le ZW15.out T16.size
  have RX16 : Hid (y16.heap[gX]? = some (.cells #[.slice vx.code.a vx.code.len vx.code.cap, .slice vx.data.a vx.data.len vx.data.cap, .int .i64 m.entry, .int .i64 m.size] 39)) := (T16.block _ ZX15.out (by have := t0.out; have := s1.out; have := s2.out; have := s3.out; have := s4.out; have := s5.out; have := t5.out; have := HGW.out; have := s6.out; have := s7.out; have := t7.out; have := HGX.out; have := HNB.out; have := s8.out; have := s9.out; have := s10.out; have := t10.out; have := HGG.out; have := s11.out; have := s12.out; have := s13.out; have := s14.out; have := s15.out; omega)).trans RX15.out
  have ZX16 : Hid (gX < y16.heap.size) := Nat.lt_of_lt_of_le ZX15.out T16.size
  have RG16 : Hid (y16.heap[gG]? = some (.cells #[.slice vg.code.a vg.code.len vg.code.cap, .int .i64 m'.pc, .slice vg.regs.a vg.regs.len vg.regs.cap, .slice vg.data.a vg.data.len vg.data.cap, .slice vg.stk.a vg.stk.len vg.stk.cap, .slice vg.inp.a vg.inp.len vg.inp.cap, .slice vg.out.a vg.out.len vg.out.cap, .int .i64 m'.steps, .int .i64 m'.fin, .int .i64 m'.val] 27)) := (T16.block _ ZG15.out (by have := t0.out; have := s1.out; have := s2.out; have := s3.out; have := s4.out; have := s5.out; have := t5.out; have := HGW.out; have := s6.out; have := s7.out; have := t7.out; have := HGX.out; have := HNB.out; have := s8.out; have := s9.out; have := s10.out; have := t10.out; have := HGG.out; have := s11.out; have := s12.out; have := s13.out; have := s14.out; have := s15.out; omega)).trans RG15.out
  have ZG16 : Hid (gG < y16.heap.size) := Nat.lt_of_lt_of_le ZG15.out T16.size
  have OW16 : Hid (MOwn y3.heap.size y16 vw m') := OW15.out.outside INW.out T16 (by have := t0.out; have := s1.out; have := s2.out; have := s3.out; have := s4.out; have := s5.out; have := t5.out; have := HGW.out; have := s6.out; have := s7.out; have := t7.out; have := HGX.out; have := HNB.out; have := s8.out; have := s9.out; have := s10.out; have := t10.out; have := HGG.out; have := s11.out; have := s12.out; have := s13.out; have := s14.out; have := s15.out; omega)
  have OG16 : Hid (MOwn y8.heap.size y16 vg m') := OG15.out.outside ING.out T16 (by have := t0.out; have := s1.out; have := s2.out; have := s3.out; have := s4.out; have := s5.out; have := t5.out; have := HGW.out; have := s6.out; have := s7.out; have := t7.out; have := HGX.out; have := HNB.out; have := s8.out; have := s9.out; have := s10.out; have := t10.out; have := HGG.out; have := s11.out; have := s12.out; have := s13.out; have := s14.out; have := s15.out; omega)
  have B16 : Hid (Below w.heap.size w y16) := B15.out.trans (belowC T16 (by have := t0.out; have := s1.out; have := s2.out; have := s3.out; have := s4.out; have := s5.out; have := t5.out; have := HGW.out; have := s6.out; have := s7.out; have := t7.out; have := HGX.out; have := HNB.out; have := s8.out; have := s9.out; have := s10.out; have := t10.out; have := HGG.out; have := s11.out; have := s12.out; have := s13.out; have := s14.out; have := s15.out; omega) (by have := t0.out; have := s1.out; have := s2.out; have := s3.out; have := s4.out; have := s5.out; have := t5.out; have := HGW.out; have := s6.out; have := s7.out; have := t7.out; have := HGX.out; have := HNB.out; have := s8.out; have := s9.out; have := s10.out; have := t10.out; have := HGG.out; have := s11.out; have := s12.out; have := s13.out; have := s14.out; have := s15.out; omega))
  have s16 : Hid (y15.heap.size ≤ y16.heap.size) := T16.size
  clear T16 RA15 ZA15 RW15 ZW15 RX15 ZX15 RG15 ZG15 OW15 OB15 OG15 B15
  clear to16 tc16
  obtain ⟨K, hK⟩ : ∃ K : Int, K = k1 + (len : Int) := ⟨_, rfl⟩
  rw [← hK]
  have hk0 : ¬ K < 0 := by omega
  have hdk : decide (K < 0) = false := by simp [hk0]
  clear hK hk1 hk2
  have kg : ∀ j, y16.cell? ⟨gG, j, none⟩ = (#[.slice vg.code.a vg.code.len vg.code.cap, .int .i64 m'.pc, .slice vg.regs.a vg.regs.len vg.regs.cap, .slice vg.data.a vg.data.len vg.data.cap, .slice vg.stk.a vg.stk.len vg.stk.cap, .slice vg.inp.a vg.inp.len vg.inp.cap, .slice vg.out.a vg.out.len vg.out.cap, .int .i64 m'.steps, .int .i64 m'.fin, .int .i64 m'.val] : Array Value)[j]? := fun j => cell_of_row y16 gG j _ 27 (0, 0) RG16.out
  have kw : ∀ j, y16.cell? ⟨gW, j, none⟩ = (#[.slice vw.code.a vw.code.len vw.code.cap, .int .i64 m'.pc, .slice vw.regs.a vw.regs.len vw.regs.cap, .slice vw.data.a vw.data.len vw.data.cap, .slice vw.stk.a vw.stk.len vw.stk.cap, .slice vw.inp.a vw.inp.len vw.inp.cap, .slice vw.out.a vw.out.len vw.out.cap, .int .i64 m'.steps, .int .i64 m'.fin, .int .i64 m'.val] : Array Value)[j]? := fun j => cell_of_row y16 gW j _ 27 (0, 0) RW16.out
  go_wp2_with fail
  clear kg kw hk0 hdk
  refine (EQ.out _ _ vg vw y16 OG16.out.is OW16.out.is).mono ?_
  rintro e y17 ⟨rfl, d17⟩
  have RA17 : Hid (y17.heap[w.heap.size]? = some (.cells #[.slice v.code.a v.code.len v.code.cap, .slice v.data.a v.data.len v.data.cap, .int .i64 m.entry, .int .i64 m.size] 35)) := (d17.block _ ZA16.out).trans RA16.out
  have ZA17 : Hid (w.heap.size < y17.heap.size) := Nat.lt_of_lt_of_le ZA16.out d17.size
  have RW17 : Hid (y17.heap[gW]? = some (.cells #[.slice vw.code.a vw.code.len vw.code.cap, .int .i64 m'.pc, .slice vw.regs.a vw.regs.len vw.regs.cap, .slice vw.data.a vw.data.len vw.data.cap, .slice vw.stk.a vw.stk.len vw.stk.cap, .slice vw.inp.a vw.inp.len vw.inp.cap, .slice vw.out.a vw.out.len vw.out.cap, .int .i64 m'.steps, .int .i64 m'.fin, .int .i64 m'.val] 27)) := (d17.block _ ZW16.out).trans RW16.out
  have ZW17 : Hid (gW < y17.heap.size) := Nat.lt_of_lt_of_le ZW16.out d17.size
  have RX17 : Hid (y17.heap[gX]? = some (.cells #[.slice vx.code.a vx.code.len vx.code.cap, .slice vx.data.a vx.data.len vx.data.cap, .int .i64 m.entry, .int .i64 m.size] 39)) := (d17.block _ ZX16.out).trans RX16.out
  have ZX17 : Hid (gX < y17.heap.size) := Nat.lt_of_lt_of_le ZX16.out d17.size
  have RG17 : Hid (y17.heap[gG]? = some (.cells #[.slice vg.code.a vg.code.len vg.code.cap, .int .i64 m'.pc, .slice vg.regs.a vg.regs.len vg.regs.cap, .slice vg.data.a vg.data.len vg.data.cap, .slice vg.stk.a vg.stk.len vg.stk.cap, .slice vg.inp.a vg.inp.len vg.inp.cap, .slice vg.out.a vg.out.len vg.out.cap, .int .i64 m'.steps, .int .i64 m'.fin, .int .i64 m'.val] 27)) := (d17.block _ ZG16.out).trans RG16.out
  have ZG17 : Hid (gG < y17.heap.size) := Nat.lt_of_lt_of_le ZG16.out d17.size
  have OW17 : Hid (MOwn y3.heap.size y17 vw m') := OW16.out.keep d17
  have OG17 : Hid (MOwn y8.heap.size y17 vg m') := OG16.out.keep d17
  have B17 : Hid (Below w.heap.size w y17) := B16.out.trans (d17.mono B16.out.size)
  have s17 : Hid (y16.heap.size ≤ y17.heap.size) := d17.size
  clear d17 RA16 ZA16 RW16 ZW16 RX16 ZX16 RG16 ZG16 OW16 OG16 B16
  go_wp2_with (refine wpList_load_row rfl 27 _ rfl (gG) ?hx 27 #[.slice vg.code.a vg.code.len vg.code.cap, .int .i64 m'.pc, .slice vg.regs.a vg.regs.len vg.regs.cap, .slice vg.data.a vg.data.len vg.data.cap, .slice vg.stk.a vg.stk.len vg.stk.cap, .slice vg.inp.a vg.inp.len vg.inp.cap, .slice vg.out.a vg.out.len vg.out.cap, .int .i64 m'.steps, .int .i64 m'.fin, .int .i64 m'.val] (0, 0) _ ?hg Try.underlying27 ?hd ?hi ?_; (case hx => rfl); (case hg => exact RG17.out); (case hd => rfl); (case hi => kernel_rfl))
  obtain ⟨q0, q6, sg, z0, z6⟩ := SPG.out
  have hq6 : q6 ≤ y17.heap.size := by have := t0.out; have := s1.out; have := s2.out; have := s3.out; have := s4.out; have := s5.out; have := t5.out; have := HGW.out; have := s6.out; have := s7.out; have := t7.out; have := HGX.out; have := HNB.out; have := s8.out; have := s9.out; have := s10.out; have := t10.out; have := HGG.out; have := s11.out; have := s12.out; have := s13.out; have := s14.out; have := s15.out; have := s16.out; have := s17.out; omega
  refine (markMachine_apart vg m' 1 y17 OG17.out sg hq6 (by decide) HS'.out).mono ?_
  rintro e y18 ⟨rfl, og, to18⟩
  have OM18 : Hid (MOwn y8.heap.size y18 vg (marked vg m' 1)) := og
  have OK17 : Hid (MOwn y8.heap.size y17 vg m') := OG17.out
  have T18 := to18
  have RA18 : Hid (y18.heap[w.heap.size]? = some (.cells #[.slice v.code.a v.code.len v.code.cap, .slice v.data.a v.data.len v.data.cap, .int .i64 m.entry, .int .i64 m.size] 35)) := (T18.block _ ZA17.out (by have := t0.out; have := s1.out; have := s2.out; have := s3.out; have := s4.out; have := s5.out; have := t5.out; have := HGW.out; have := s6.out; have := s7.out; have := t7.out; have := HGX.out; have := HNB.out; have := s8.out; have := s9.out; have := s10.out; have := t10.out; have := HGG.out; have := s11.out; have := s12.out; have := s13.out; have := s14.out; have := s15.out; have := s16.out; have := s17.out; omega)).trans RA17.out
  have ZA18 : Hid (w.heap.size < y18.heap.size) := Nat.lt_of_lt_of_le ZA17.out T18.size
  have RW18 : Hid (y18.heap[gW]? = some (.cells #[.slice vw.code.a vw.code.len vw.code.cap, .int .i64 m'.pc, .slice vw.regs.a vw.regs.len vw.regs.cap, .slice vw.data.a vw.data.len vw.data.cap, .slice vw.stk.a vw.stk.len vw.stk.cap, .slice vw.inp.a vw.inp.len vw.inp.cap, .slice vw.out.a vw.out.len vw.out.cap, .int .i64 m'.steps, .int .i64 m'.fin, .int .i64 m'.val] 27)) := (T18.block _ ZW17.out (by have := t0.out; have := s1.out; have := s2.out; have := s3.out; have := s4.out; have := s5.out; have := t5.out; have := HGW.out; have := s6.out; have := s7.out; have := t7.out; have := HGX.out; have := HNB.out; have := s8.out; have := s9.out; have := s10.out; have := t10.out; have := HGG.out; have := s11.out; have := s12.out; have := s13.out; have := s14.out; have := s15.out; have := s16.out; have := s17.out; omega)).trans RW17.out
  have ZW18 : Hid (gW < y18.heap.size) := Nat.lt_of_lt_of_le ZW17.out T18.size
  have RX18 : Hid (y18.heap[gX]? = some (.cells #[.slice vx.code.a vx.code.len vx.code.cap, .slice vx.data.a vx.data.len vx.data.cap, .int .i64 m.entry, .int .i64 m.size] 39)) := (T18.block _ ZX17.out (by have := t0.out; have := s1.out; have := s2.out; have := s3.out; have := s4.out; have := s5.out; have := t5.out; have := HGW.out; have := s6.out; have := s7.out; have := t7.out; have := HGX.out; have := HNB.out; have := s8.out; have := s9.out; have := s10.out; have := t10.out; have := HGG.out; have := s11.out; have := s12.out; have := s13.out; have := s14.out; have := s15.out; have := s16.out; have := s17.out; omega)).trans RX17.out
  have ZX18 : Hid (gX < y18.heap.size) := Nat.lt_of_lt_of_le ZX17.out T18.size
  have RG18 : Hid (y18.heap[gG]? = some (.cells #[.slice vg.code.a vg.code.len vg.code.cap, .int .i64 m'.pc, .slice vg.regs.a vg.regs.len vg.regs.cap, .slice vg.data.a vg.data.len vg.data.cap, .slice vg.stk.a vg.stk.len vg.stk.cap, .slice vg.inp.a vg.inp.len vg.inp.cap, .slice vg.out.a vg.out.len vg.out.cap, .int .i64 m'.steps, .int .i64 m'.fin, .int .i64 m'.val] 27)) := (T18.block _ ZG17.out (by have := t0.out; have := s1.out; have := s2.out; have := s3.out; have := s4.out; have := s5.out; have := t5.out; have := HGW.out; have := s6.out; have := s7.out; have := t7.out; have := HGX.out; have := HNB.out; have := s8.out; have := s9.out; have := s10.out; have := t10.out; have := HGG.out; have := s11.out; have := s12.out; have := s13.out; have := s14.out; have := s15.out; have := s16.out; have := s17.out; omega)).trans RG17.out
  have ZG18 : Hid (gG < y18.heap.size) := Nat.lt_of_lt_of_le ZG17.out T18.size
  have OW18 : Hid (MOwn y3.heap.size y18 vw m') := OW17.out.outside INW.out T18 (by have := t0.out; have := s1.out; have := s2.out; have := s3.out; have := s4.out; have := s5.out; have := t5.out; have := HGW.out; have := s6.out; have := s7.out; have := t7.out; have := HGX.out; have := HNB.out; have := s8.out; have := s9.out; have := s10.out; have := t10.out; have := HGG.out; have := s11.out; have := s12.out; have := s13.out; have := s14.out; have := s15.out; have := s16.out; have := s17.out; omega)
  have B18 : Hid (Below w.heap.size w y18) := B17.out.trans (belowC T18 (by have := t0.out; have := s1.out; have := s2.out; have := s3.out; have := s4.out; have := s5.out; have := t5.out; have := HGW.out; have := s6.out; have := s7.out; have := t7.out; have := HGX.out; have := HNB.out; have := s8.out; have := s9.out; have := s10.out; have := t10.out; have := HGG.out; have := s11.out; have := s12.out; have := s13.out; have := s14.out; have := s15.out; have := s16.out; have := s17.out; omega) (by have := t0.out; have := s1.out; have := s2.out; have := s3.out; have := s4.out; have := s5.out; have := t5.out; have := HGW.out; have := s6.out; have := s7.out; have := t7.out; have := HGX.out; have := HNB.out; have := s8.out; have := s9.out; have := s10.out; have := t10.out; have := HGG.out; have := s11.out; have := s12.out; have := s13.out; have := s14.out; have := s15.out; have := s16.out; have := s17.out; omega))
  have s18 : Hid (y17.heap.size ≤ y18.heap.size) := T18.size
  clear T18 RA17 ZA17 RW17 ZW17 RX17 ZX17 RG17 ZG17 OW17 OG17 B17
  obtain ⟨K2, hK2⟩ : ∃ K : Int, K = 1 + (Pl.mSize m' : Int) := ⟨_, rfl⟩
  rw [← hK2]
  have HK2 : Hid (K2 = 1 + (Pl.mSize m' : Int)) := hK2
  clear hK2 to18 og z0 z6 sg hq6
  go_wp2_with (refine wpList_load_row rfl 27 _ rfl (gG) ?hx 27 #[.slice vg.code.a vg.code.len vg.code.cap, .int .i64 m'.pc, .slice vg.regs.a vg.regs.len vg.regs.cap, .slice vg.data.a vg.data.len vg.data.cap, .slice vg.stk.a vg.stk.len vg.stk.cap, .slice vg.inp.a vg.inp.len vg.inp.cap, .slice vg.out.a vg.out.len vg.out.cap, .int .i64 m'.steps, .int .i64 m'.fin, .int .i64 m'.val] (0, 0) _ ?hg Try.underlying27 ?hd ?hi ?_; (case hx => rfl); (case hg => exact RG18.out); (case hd => rfl); (case hi => kernel_rfl))
  refine (HD.out _ vg y17 y18 OK17.out OM18.out.is).mono ?_
  rintro e y19 ⟨rfl, d19⟩
  rw [← HK2.out]
  clear OK17 OM18
  have RA19 : Hid (y19.heap[w.heap.size]? = some (.cells #[.slice v.code.a v.code.len v.code.cap, .slice v.data.a v.data.len v.data.cap, .int .i64 m.entry, .int .i64 m.size] 35)) := (d19.block _ ZA18.out).trans RA18.out
  have ZA19 : Hid (w.heap.size < y19.heap.size) := Nat.lt_of_lt_of_le ZA18.out d19.size
  have RW19 : Hid (y19.heap[gW]? = some (.cells #[.slice vw.code.a vw.code.len vw.code.cap, .int .i64 m'.pc, .slice vw.regs.a vw.regs.len vw.regs.cap, .slice vw.data.a vw.data.len vw.data.cap, .slice vw.stk.a vw.stk.len vw.stk.cap, .slice vw.inp.a vw.inp.len vw.inp.cap, .slice vw.out.a vw.out.len vw.out.cap, .int .i64 m'.steps, .int .i64 m'.fin, .int .i64 m'.val] 27)) := (d19.block _ ZW18.out).trans RW18.out
  have ZW19 : Hid (gW < y19.heap.size) := Nat.lt_of_lt_of_le ZW18.out d19.size
  have RX19 : Hid (y19.heap[gX]? = some (.cells #[.slice vx.code.a vx.code.len vx.code.cap, .slice vx.data.a vx.data.len vx.data.cap, .int .i64 m.entry, .int .i64 m.size] 39)) := (d19.block _ ZX18.out).trans RX18.out
  have ZX19 : Hid (gX < y19.heap.size) := Nat.lt_of_lt_of_le ZX18.out d19.size
  have RG19 : Hid (y19.heap[gG]? = some (.cells #[.slice vg.code.a vg.code.len vg.code.cap, .int .i64 m'.pc, .slice vg.regs.a vg.regs.len vg.regs.cap, .slice vg.data.a vg.data.len vg.data.cap, .slice vg.stk.a vg.stk.len vg.stk.cap, .slice vg.inp.a vg.inp.len vg.inp.cap, .slice vg.out.a vg.out.len vg.out.cap, .int .i64 m'.steps, .int .i64 m'.fin, .int .i64 m'.val] 27)) := (d19.block _ ZG18.out).trans RG18.out
  have ZG19 : Hid (gG < y19.heap.size) := Nat.lt_of_lt_of_le ZG18.out d19.size
  have OW19 : Hid (MOwn y3.heap.size y19 vw m') := OW18.out.keep d19
  have B19 : Hid (Below w.heap.size w y19) := B18.out.trans (d19.mono B18.out.size)
  have s19 : Hid (y18.heap.size ≤ y19.heap.size) := d19.size
  clear d19 RA18 ZA18 RW18 ZW18 RX18 ZX18 RG18 ZG18 OW18 B18
  have hk0 : ¬ K2 < 0 := by have := HK2.out; omega
  go_wp2_with (refine wpList_load_row rfl 35 _ rfl (w.heap.size) ?hx 35 #[.slice v.code.a v.code.len v.code.cap, .slice v.data.a v.data.len v.data.cap, .int .i64 m.entry, .int .i64 m.size] (0, 0) _ ?hg Try.underlying35 ?hd ?hi ?_; (case hx => rfl); (case hg => exact RA19.out); (case hd => rfl); (case hi => kernel_rfl))
  refine (toImage_any v m y19 (H.out.keep B19.out) HS.out).mono ?_
  rintro e y20 ⟨v20, rfl, o20, d20⟩
  have OT20 : Hid (IOwn y19.heap.size y20 v20 m) := o20
  clear o20
  have RA20 : Hid (y20.heap[w.heap.size]? = some (.cells #[.slice v.code.a v.code.len v.code.cap, .slice v.data.a v.data.len v.data.cap, .int .i64 m.entry, .int .i64 m.size] 35)) := (d20.block _ ZA19.out).trans RA19.out
  have ZA20 : Hid (w.heap.size < y20.heap.size) := Nat.lt_of_lt_of_le ZA19.out d20.size
  have RW20 : Hid (y20.heap[gW]? = some (.cells #[.slice vw.code.a vw.code.len vw.code.cap, .int .i64 m'.pc, .slice vw.regs.a vw.regs.len vw.regs.cap, .slice vw.data.a vw.data.len vw.data.cap, .slice vw.stk.a vw.stk.len vw.stk.cap, .slice vw.inp.a vw.inp.len vw.inp.cap, .slice vw.out.a vw.out.len vw.out.cap, .int .i64 m'.steps, .int .i64 m'.fin, .int .i64 m'.val] 27)) := (d20.block _ ZW19.out).trans RW19.out
  have ZW20 : Hid (gW < y20.heap.size) := Nat.lt_of_lt_of_le ZW19.out d20.size
  have RX20 : Hid (y20.heap[gX]? = some (.cells #[.slice vx.code.a vx.code.len vx.code.cap, .slice vx.data.a vx.data.len vx.data.cap, .int .i64 m.entry, .int .i64 m.size] 39)) := (d20.block _ ZX19.out).trans RX19.out
  have ZX20 : Hid (gX < y20.heap.size) := Nat.lt_of_lt_of_le ZX19.out d20.size
  have RG20 : Hid (y20.heap[gG]? = some (.cells #[.slice vg.code.a vg.code.len vg.code.cap, .int .i64 m'.pc, .slice vg.regs.a vg.regs.len vg.regs.cap, .slice vg.data.a vg.data.len vg.data.cap, .slice vg.stk.a vg.stk.len vg.stk.cap, .slice vg.inp.a vg.inp.len vg.inp.cap, .slice vg.out.a vg.out.len vg.out.cap, .int .i64 m'.steps, .int .i64 m'.fin, .int .i64 m'.val] 27)) := (d20.block _ ZG19.out).trans RG19.out
  have ZG20 : Hid (gG < y20.heap.size) := Nat.lt_of_lt_of_le ZG19.out d20.size
  have OW20 : Hid (MOwn y3.heap.size y20 vw m') := OW19.out.keep d20
  have B20 : Hid (Below w.heap.size w y20) := B19.out.trans (d20.mono B19.out.size)
  have s20 : Hid (y19.heap.size ≤ y20.heap.size) := d20.size
  clear d20 RA19 ZA19 RW19 ZW19 RX19 ZX19 RG19 ZG19 OW19 B19
  go_wp2_with fail
  refine (toByteS_any a0 len cap inp y20 (Row.keep HN.out B20.out) HLEN.out).mono ?_
  rintro e y21 ⟨rfl, o21, d21⟩
  have OS21 : Hid (Own .u8 5 y20.heap.size y21 (some ⟨y20.heap.size, 0, none⟩) len len inp) := o21
  clear o21
  have RA21 : Hid (y21.heap[w.heap.size]? = some (.cells #[.slice v.code.a v.code.len v.code.cap, .slice v.data.a v.data.len v.data.cap, .int .i64 m.entry, .int .i64 m.size] 35)) := (d21.block _ ZA20.out).trans RA20.out
  have ZA21 : Hid (w.heap.size < y21.heap.size) := Nat.lt_of_lt_of_le ZA20.out d21.size
  have RW21 : Hid (y21.heap[gW]? = some (.cells #[.slice vw.code.a vw.code.len vw.code.cap, .int .i64 m'.pc, .slice vw.regs.a vw.regs.len vw.regs.cap, .slice vw.data.a vw.data.len vw.data.cap, .slice vw.stk.a vw.stk.len vw.stk.cap, .slice vw.inp.a vw.inp.len vw.inp.cap, .slice vw.out.a vw.out.len vw.out.cap, .int .i64 m'.steps, .int .i64 m'.fin, .int .i64 m'.val] 27)) := (d21.block _ ZW20.out).trans RW20.out
  have ZW21 : Hid (gW < y21.heap.size) := Nat.lt_of_lt_of_le ZW20.out d21.size
  have RX21 : Hid (y21.heap[gX]? = some (.cells #[.slice vx.code.a vx.code.len vx.code.cap, .slice vx.data.a vx.data.len vx.data.cap, .int .i64 m.entry, .int .i64 m.size] 39)) := (d21.block _ ZX20.out).trans RX20.out
  have ZX21 : Hid (gX < y21.heap.size) := Nat.lt_of_lt_of_le ZX20.out d21.size
  have RG21 : Hid (y21.heap[gG]? = some (.cells #[.slice vg.code.a vg.code.len vg.code.cap, .int .i64 m'.pc, .slice vg.regs.a vg.regs.len vg.regs.cap, .slice vg.data.a vg.data.len vg.data.cap, .slice vg.stk.a vg.stk.len vg.stk.cap, .slice vg.inp.a vg.inp.len vg.inp.cap, .slice vg.out.a vg.out.len vg.out.cap, .int .i64 m'.steps, .int .i64 m'.fin, .int .i64 m'.val] 27)) := (d21.block _ ZG20.out).trans RG20.out
  have ZG21 : Hid (gG < y21.heap.size) := Nat.lt_of_lt_of_le ZG20.out d21.size
  have OW21 : Hid (MOwn y3.heap.size y21 vw m') := OW20.out.keep d21
  have OT21 : Hid (IOwn y19.heap.size y21 v20 m) := OT20.out.keep d21
  have B21 : Hid (Below w.heap.size w y21) := B20.out.trans (d21.mono B20.out.size)
  have s21 : Hid (y20.heap.size ≤ y21.heap.size) := d21.size
  clear d21 RA20 ZA20 RW20 ZW20 RX20 ZX20 RG20 ZG20 OW20 OT20 B20
  go_wp2_with fail
  refine (IM.out _ _ v20 _ len len y21 OT21.out OS21.out).mono ?_
  rintro e y22 ⟨vh, rfl, oh, _, d22⟩
  have OH22 : Hid (MOwn y21.heap.size y22 vh m') := oh
  clear oh OT21 OS21
  have RA22 : Hid (y22.heap[w.heap.size]? = some (.cells #[.slice v.code.a v.code.len v.code.cap, .slice v.data.a v.data.len v.data.cap, .int .i64 m.entry, .int .i64 m.size] 35)) := (d22.block _ ZA21.out).trans RA21.out
  have ZA22 : Hid (w.heap.size < y22.heap.size) := Nat.lt_of_lt_of_le ZA21.out d22.size
  have RW22 : Hid (y22.heap[gW]? = some (.cells #[.slice vw.code.a vw.code.len vw.code.cap, .int .i64 m'.pc, .slice vw.regs.a vw.regs.len vw.regs.cap, .slice vw.data.a vw.data.len vw.data.cap, .slice vw.stk.a vw.stk.len vw.stk.cap, .slice vw.inp.a vw.inp.len vw.inp.cap, .slice vw.out.a vw.out.len vw.out.cap, .int .i64 m'.steps, .int .i64 m'.fin, .int .i64 m'.val] 27)) := (d22.block _ ZW21.out).trans RW21.out
  have ZW22 : Hid (gW < y22.heap.size) := Nat.lt_of_lt_of_le ZW21.out d22.size
  have RX22 : Hid (y22.heap[gX]? = some (.cells #[.slice vx.code.a vx.code.len vx.code.cap, .slice vx.data.a vx.data.len vx.data.cap, .int .i64 m.entry, .int .i64 m.size] 39)) := (d22.block _ ZX21.out).trans RX21.out
  have ZX22 : Hid (gX < y22.heap.size) := Nat.lt_of_lt_of_le ZX21.out d22.size
  have RG22 : Hid (y22.heap[gG]? = some (.cells #[.slice vg.code.a vg.code.len vg.code.cap, .int .i64 m'.pc, .slice vg.regs.a vg.regs.len vg.regs.cap, .slice vg.data.a vg.data.len vg.data.cap, .slice vg.stk.a vg.stk.len vg.stk.cap, .slice vg.inp.a vg.inp.len vg.inp.cap, .slice vg.out.a vg.out.len vg.out.cap, .int .i64 m'.steps, .int .i64 m'.fin, .int .i64 m'.val] 27)) := (d22.block _ ZG21.out).trans RG21.out
  have ZG22 : Hid (gG < y22.heap.size) := Nat.lt_of_lt_of_le ZG21.out d22.size
  have OW22 : Hid (MOwn y3.heap.size y22 vw m') := OW21.out.keep d22
  have B22 : Hid (Below w.heap.size w y22) := B21.out.trans (d22.mono B21.out.size)
  have s22 : Hid (y21.heap.size ≤ y22.heap.size) := d22.size
  clear d22 RA21 ZA21 RW21 ZW21 RX21 ZX21 RG21 ZG21 OW21 B21
  go_wp2_with (refine wpList_store_row rfl 27 _ _ rfl (y22.heap.size) #[.slice vh.code.a vh.code.len vh.code.cap, .int .i64 m'.pc, .slice vh.regs.a vh.regs.len vh.regs.cap, .slice vh.data.a vh.data.len vh.data.cap, .slice vh.stk.a vh.stk.len vh.stk.cap, .slice vh.inp.a vh.inp.len vh.inp.cap, .slice vh.out.a vh.out.len vh.out.cap, .int .i64 m'.steps, .int .i64 m'.fin, .int .i64 m'.val] ?hx ?hy 27 #[.slice none 0 0, .int .i64 0, .slice none 0 0, .slice none 0 0, .slice none 0 0, .slice none 0 0, .slice none 0 0, .int .i64 0, .int .i64 0, .int .i64 0] ?hg ?hi ?ho ?h1 ?_; (case hx => rfl); (case hy => rfl); (case hg => exact heap_alloc_new y22 _); (case hi => kernel_rfl); (case ho => kernel_rfl); (case h1 => kernel_rfl); refine Hid.out ?_)
  unfold Hid
  rw [World.setRow_alloc_new]
  refine wpList_at fun y23 hy23 => ?_
  have d23 : Below y22.heap.size y22 y23 := by rw [hy23]; exact below_alloc y22 _
  have RH23 : Hid (y23.heap[y22.heap.size]? = some (.cells #[.slice vh.code.a vh.code.len vh.code.cap, .int .i64 m'.pc, .slice vh.regs.a vh.regs.len vh.regs.cap, .slice vh.data.a vh.data.len vh.data.cap, .slice vh.stk.a vh.stk.len vh.stk.cap, .slice vh.inp.a vh.inp.len vh.inp.cap, .slice vh.out.a vh.out.len vh.out.cap, .int .i64 m'.steps, .int .i64 m'.fin, .int .i64 m'.val] 27)) := by show y23.heap[y22.heap.size]? = _; rw [hy23]; exact heap_alloc_new y22 _
  have ZH23 : Hid (y22.heap.size < y23.heap.size) := by show y22.heap.size < y23.heap.size; rw [hy23]; simp
  have t23 : Hid (y22.heap.size < y23.heap.size) := ZH23.out
  clear hy23
  have RA23 : Hid (y23.heap[w.heap.size]? = some (.cells #[.slice v.code.a v.code.len v.code.cap, .slice v.data.a v.data.len v.data.cap, .int .i64 m.entry, .int .i64 m.size] 35)) := (d23.block _ ZA22.out).trans RA22.out
  have ZA23 : Hid (w.heap.size < y23.heap.size) := Nat.lt_of_lt_of_le ZA22.out d23.size
  have RW23 : Hid (y23.heap[gW]? = some (.cells #[.slice vw.code.a vw.code.len vw.code.cap, .int .i64 m'.pc, .slice vw.regs.a vw.regs.len vw.regs.cap, .slice vw.data.a vw.data.len vw.data.cap, .slice vw.stk.a vw.stk.len vw.stk.cap, .slice vw.inp.a vw.inp.len vw.inp.cap, .slice vw.out.a vw.out.len vw.out.cap, .int .i64 m'.steps, .int .i64 m'.fin, .int .i64 m'.val] 27)) := (d23.block _ ZW22.out).trans RW22.out
  have ZW23 : Hid (gW < y23.heap.size) := Nat.lt_of_lt_of_le ZW22.out d23.size
  have RX23 : Hid (y23.heap[gX]? = some (.cells #[.slice vx.code.a vx.code.len vx.code.cap, .slice vx.data.a vx.data.len vx.data.cap, .int .i64 m.entry, .int .i64 m.size] 39)) := (d23.block _ ZX22.out).trans RX22.out
  have ZX23 : Hid (gX < y23.heap.size) := Nat.lt_of_lt_of_le ZX22.out d23.size
  have RG23 : Hid (y23.heap[gG]? = some (.cells #[.slice vg.code.a vg.code.len vg.code.cap, .int .i64 m'.pc, .slice vg.regs.a vg.regs.len vg.regs.cap, .slice vg.data.a vg.data.len vg.data.cap, .slice vg.stk.a vg.stk.len vg.stk.cap, .slice vg.inp.a vg.inp.len vg.inp.cap, .slice vg.out.a vg.out.len vg.out.cap, .int .i64 m'.steps, .int .i64 m'.fin, .int .i64 m'.val] 27)) := (d23.block _ ZG22.out).trans RG22.out
  have ZG23 : Hid (gG < y23.heap.size) := Nat.lt_of_lt_of_le ZG22.out d23.size
  have OW23 : Hid (MOwn y3.heap.size y23 vw m') := OW22.out.keep d23
  have OH23 : Hid (MOwn y21.heap.size y23 vh m') := OH22.out.keep d23
  have B23 : Hid (Below w.heap.size w y23) := B22.out.trans (d23.mono B22.out.size)
  have s23 : Hid (y22.heap.size ≤ y23.heap.size) := d23.size
  clear d23 RA22 ZA22 RW22 ZW22 RX22 ZX22 RG22 ZG22 OW22 OH22 B22
  obtain ⟨gH, hgH⟩ : ∃ g, g = y22.heap.size := ⟨_, rfl⟩
  rw [← hgH] at RH23 ZH23 ⊢
  have HGH : Hid (gH = y22.heap.size) := hgH
  clear hgH
  go_wp2_with (first | (refine wpList_load_row rfl 27 _ rfl (gH) ?hx 27 #[.slice vh.code.a vh.code.len vh.code.cap, .int .i64 m'.pc, .slice vh.regs.a vh.regs.len vh.regs.cap, .slice vh.data.a vh.data.len vh.data.cap, .slice vh.stk.a vh.stk.len vh.stk.cap, .slice vh.inp.a vh.inp.len vh.inp.cap, .slice vh.out.a vh.out.len vh.out.cap, .int .i64 m'.steps, .int .i64 m'.fin, .int .i64 m'.val] (0, 0) _ ?hg Try.underlying27 ?hd ?hi ?_; (case hx => rfl); (case hg => exact RH23.out); (case hd => rfl); (case hi => kernel_rfl)) | (refine wpList_load_row rfl 27 _ rfl (gW) ?hx 27 #[.slice vw.code.a vw.code.len vw.code.cap, .int .i64 m'.pc, .slice vw.regs.a vw.regs.len vw.regs.cap, .slice vw.data.a vw.data.len vw.data.cap, .slice vw.stk.a vw.stk.len vw.stk.cap, .slice vw.inp.a vw.inp.len vw.inp.cap, .slice vw.out.a vw.out.len vw.out.cap, .int .i64 m'.steps, .int .i64 m'.fin, .int .i64 m'.val] (0, 0) _ ?hg Try.underlying27 ?hd ?hi ?_; (case hx => rfl); (case hg => exact RW23.out); (case hd => rfl); (case hi => kernel_rfl)))
  refine (EQ.out _ _ vh vw y23 OH23.out.is OW23.out.is).mono ?_
  rintro e y24 ⟨rfl, d24⟩
  have RA24 : Hid (y24.heap[w.heap.size]? = some (.cells #[.slice v.code.a v.code.len v.code.cap, .slice v.data.a v.data.len v.data.cap, .int .i64 m.entry, .int .i64 m.size] 35)) := (d24.block _ ZA23.out).trans RA23.out
  have ZA24 : Hid (w.heap.size < y24.heap.size) := Nat.lt_of_lt_of_le ZA23.out d24.size
  have RW24 : Hid (y24.heap[gW]? = some (.cells #[.slice vw.code.a vw.code.len vw.code.cap, .int .i64 m'.pc, .slice vw.regs.a vw.regs.len vw.regs.cap, .slice vw.data.a vw.data.len vw.data.cap, .slice vw.stk.a vw.stk.len vw.stk.cap, .slice vw.inp.a vw.inp.len vw.inp.cap, .slice vw.out.a vw.out.len vw.out.cap, .int .i64 m'.steps, .int .i64 m'.fin, .int .i64 m'.val] 27)) := (d24.block _ ZW23.out).trans RW23.out
  have ZW24 : Hid (gW < y24.heap.size) := Nat.lt_of_lt_of_le ZW23.out d24.size
  have RX24 : Hid (y24.heap[gX]? = some (.cells #[.slice vx.code.a vx.code.len vx.code.cap, .slice vx.data.a vx.data.len vx.data.cap, .int .i64 m.entry, .int .i64 m.size] 39)) := (d24.block _ ZX23.out).trans RX23.out
  have ZX24 : Hid (gX < y24.heap.size) := Nat.lt_of_lt_of_le ZX23.out d24.size
  have RG24 : Hid (y24.heap[gG]? = some (.cells #[.slice vg.code.a vg.code.len vg.code.cap, .int .i64 m'.pc, .slice vg.regs.a vg.regs.len vg.regs.cap, .slice vg.data.a vg.data.len vg.data.cap, .slice vg.stk.a vg.stk.len vg.stk.cap, .slice vg.inp.a vg.inp.len vg.inp.cap, .slice vg.out.a vg.out.len vg.out.cap, .int .i64 m'.steps, .int .i64 m'.fin, .int .i64 m'.val] 27)) := (d24.block _ ZG23.out).trans RG23.out
  have ZG24 : Hid (gG < y24.heap.size) := Nat.lt_of_lt_of_le ZG23.out d24.size
  have RH24 : Hid (y24.heap[gH]? = some (.cells #[.slice vh.code.a vh.code.len vh.code.cap, .int .i64 m'.pc, .slice vh.regs.a vh.regs.len vh.regs.cap, .slice vh.data.a vh.data.len vh.data.cap, .slice vh.stk.a vh.stk.len vh.stk.cap, .slice vh.inp.a vh.inp.len vh.inp.cap, .slice vh.out.a vh.out.len vh.out.cap, .int .i64 m'.steps, .int .i64 m'.fin, .int .i64 m'.val] 27)) := (d24.block _ ZH23.out).trans RH23.out
  have ZH24 : Hid (gH < y24.heap.size) := Nat.lt_of_lt_of_le ZH23.out d24.size
  have OW24 : Hid (MOwn y3.heap.size y24 vw m') := OW23.out.keep d24
  have OH24 : Hid (MOwn y21.heap.size y24 vh m') := OH23.out.keep d24
  have B24 : Hid (Below w.heap.size w y24) := B23.out.trans (d24.mono B23.out.size)
  have s24 : Hid (y23.heap.size ≤ y24.heap.size) := d24.size
  clear d24 RA23 ZA23 RW23 ZW23 RX23 ZX23 RG23 ZG23 RH23 ZH23 OW23 OH23 B23
  go_wp2
  go_ret
  exact ⟨rfl, B24.out⟩
end Go.Proofs.Ytomhmjhcbencmaa.W
