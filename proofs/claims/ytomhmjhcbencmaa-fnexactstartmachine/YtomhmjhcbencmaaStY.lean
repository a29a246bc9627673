import Derived.Test.YtomhmjhcbencmaaStX
import Derived.Test.YtomhmjhcbencmaaStV
set_option linter.unusedVariables false
set_option linter.unusedSimpArgs false
namespace Go.Proofs.Ytomhmjhcbencmaa.W
open Go.RowKit
set_option maxRecDepth 100000 in
set_option maxHeartbeats 16000000 in
theorem implStart_yes {lo lo2 : Nat} (v : IV) (m : Pl.Img) (a : Option Addr) (len cap : Nat) (inp : List Int) (w : World) (h : IOwn lo w v m) (hin : Own .u8 5 lo2 w a len cap inp) (he : -9223372036854775808 ≤ m.entry ∧ m.entry ≤ 9223372036854775807) (hyes : (Pl.iOk m && decide (len ≤ 10000)) = true) :
    Calls Try.prog 18 #[.agg #[.slice v.code.a v.code.len v.code.cap, .slice v.data.a v.data.len v.data.cap, .int .i64 m.entry, .int .i64 m.size], .slice a len cap] w fun e w' => ∃ v1 : MV, e = .returned (.tuple #[.agg #[.slice v1.code.a v1.code.len v1.code.cap, .int .i64 m.entry, .slice v1.regs.a v1.regs.len v1.regs.cap, .slice v1.data.a v1.data.len v1.data.cap, .slice v1.stk.a v1.stk.len v1.stk.cap, .slice v1.inp.a v1.inp.len v1.inp.cap, .slice v1.out.a v1.out.len v1.out.cap, .int .i64 0, .int .i64 0, .int .i64 0], .bool true]) ∧ MOwn w.heap.size w' v1 (Pl.mStart m inp) ∧ (∃ t0 t6, MApart t0 t6 v1 ∧ w.heap.size ≤ t0 ∧ t6 ≤ w'.heap.size) ∧ Below w.heap.size w w' := by
  have HI : Hid (IOwn lo w v m) := h
  have HN : Hid (Own .u8 5 lo2 w a len cap inp) := hin
  clear h hin
  go_enter Try.func18, Try.ntmps18
  go_wp2_with fail
  refine calls_at fun u0 hu0 => ?_
  have Q0 : u0.heap[w.heap.size]? = some (.cells #[.slice v.code.a v.code.len v.code.cap, .slice v.data.a v.data.len v.data.cap, .int .i64 m.entry, .int .i64 m.size] 39) := by rw [hu0, Below.heap_alloc _ _ _ (by simp)]; exact heap_alloc_new w _
  have X0 : u0.heap[w.heap.size + 1]? = some (.cells #[.slice none 0 0, .int .i64 0, .slice none 0 0, .slice none 0 0, .slice none 0 0, .slice none 0 0, .slice none 0 0, .int .i64 0, .int .i64 0, .int .i64 0] 27) := by rw [hu0]; exact heap_alloc_at3 _ _ _ (by simp)
  have B0 : Below w.heap.size w u0 := by rw [hu0]; exact ((Below.refl _ _).alloc (Nat.le_refl _) _).alloc (by simp) _
  have Z0 : w.heap.size + 1 < u0.heap.size := by rw [hu0]; simp
  clear hu0
  refine (implImageOk_any v m u0 (HI.out.keep B0).is he).mono ?_
  rintro e u1 ⟨rfl, d1⟩
  have Q1 : Hid (u1.heap[w.heap.size]? = some (.cells #[.slice v.code.a v.code.len v.code.cap, .slice v.data.a v.data.len v.data.cap, .int .i64 m.entry, .int .i64 m.size] 39)) := (d1.block _ (by omega)).trans Q0
  have X1 : Hid (u1.heap[w.heap.size + 1]? = some (.cells #[.slice none 0 0, .int .i64 0, .slice none 0 0, .slice none 0 0, .slice none 0 0, .slice none 0 0, .slice none 0 0, .int .i64 0, .int .i64 0, .int .i64 0] 27)) := (d1.block _ Z0).trans X0
  have B1 : Hid (Below w.heap.size w u1) := B0.trans (d1.mono (by omega))
  have Z1 : Hid (w.heap.size + 1 < u1.heap.size) := Nat.lt_of_lt_of_le Z0 d1.size
  clear d1 Q0 X0 B0 Z0
  have hk : Pl.iOk m = true ∧ len ≤ 10000 := by rw [Bool.and_eq_true, decide_eq_true_eq] at hyes; exact hyes
  have hlen : (len : Int) ≤ 10000 := by omega
  have hsk : 0 ≤ m.size ∧ m.size ≤ 65536 := by
    have := hk.1
    unfold Pl.iOk Pl.skOk at this
    simp only [Bool.and_eq_true, decide_eq_true_eq] at this
    omega
  have hcd : m.code.length ≤ 16384 ∧ m.data.length ≤ 65536 := by
    have := hk.1
    unfold Pl.iOk Pl.cdOk at this
    simp only [Bool.and_eq_true, decide_eq_true_eq] at this
    omega
  have HCD : Hid (m.code.length ≤ 16384 ∧ m.data.length ≤ 65536) := hcd
  clear hcd
  rw [hk.1]
  have HL : Hid (len ≤ 10000) := hk.2
  clear hyes hk
  obtain ⟨i3, hi3, hz3, hz31, hz32⟩ := info_parts Try.infoi64
  obtain ⟨i5, hi5, hz5, hz51, hz52⟩ := info_parts Try.infou8
  have hm1 : ∀ u : World, (Instr.makeSlice 22 (.int .i64 32) (.int .i64 32)).run Try.prog u = .ok (.slice (some ⟨u.heap.size, 0, none⟩) 32 32) (u.alloc (.cells (madeCells (Value.int .i64 0).cells 32) 3)) := fun u => by
    have := run_makeSlice u 22 3 i3 _ Try.underlying22 hi3 hz3 .i64 .i64 32 32 (by decide) (by decide) (by rw [hz31]; decide) (by rw [hz32]; decide) (by decide)
    rw [hz31] at this
    exact this
  have hm2 : ∀ u : World, (Instr.makeSlice 23 (.int .i64 m.size) (.int .i64 m.size)).run Try.prog u = .ok (.slice (some ⟨u.heap.size, 0, none⟩) m.size.toNat m.size.toNat) (u.alloc (.cells (madeCells (Value.int .u8 0).cells m.size.toNat) 5)) := fun u => by
    have := run_makeSlice u 23 5 i5 _ Try.underlying23 hi5 hz5 .i64 .i64 m.size m.size (by omega) (by omega) (by rw [hz51]; omega) (by rw [hz52]; omega) (by omega)
    rw [hz51, Nat.mul_one] at this
    exact this
  have HSK : Hid (0 ≤ m.size ∧ m.size ≤ 65536) := hsk
  clear hi3 hz3 hz31 hz32 hi5 hz5 hz51 hz52 hsk
  go_upto_region 3 with fail
  have ki : ∀ u : World, Below u1.heap.size u1 u → ∀ j, u.cell? ⟨w.heap.size, j, none⟩ = (#[.slice v.code.a v.code.len v.code.cap, .slice v.data.a v.data.len v.data.cap, .int .i64 m.entry, .int .i64 m.size] : Array Value)[j]? := fun u hu j => cell_of_row u w.heap.size j _ 39 (0, 0) ((hu.block _ (by have := Z1.out; omega)).trans Q1.out)
  go_cut [6] from 16 to 30 (fun s6 wx => ∃ (v1 : MV) (g rb : Nat), s6 = .pointer (some ⟨g, 0, none⟩) ∧ wx.heap[g]? = some (.cells #[.slice v1.code.a v1.code.len v1.code.cap, .int .i64 m.entry, .slice v1.regs.a v1.regs.len v1.regs.cap, .slice v1.data.a v1.data.len v1.data.cap, .slice v1.stk.a v1.stk.len v1.stk.cap, .slice v1.inp.a v1.inp.len v1.inp.cap, .slice v1.out.a v1.out.len v1.out.cap, .int .i64 0, .int .i64 0, .int .i64 0] 27) ∧ v1.regs = ⟨some ⟨rb, 0, none⟩, 32, 32⟩ ∧ g ≠ rb ∧ wx.heap[rb]? = some (.cells (madeCells #[Value.int .i64 0] 32) 3) ∧ (Own .i64 3 u1.heap.size wx v1.code.a v1.code.len v1.code.cap m.code ∧ Own .u8 5 u1.heap.size wx v1.data.a v1.data.len v1.data.cap m.data ∧ Own .u8 5 u1.heap.size wx v1.stk.a v1.stk.len v1.stk.cap (List.replicate m.size.toNat 0) ∧ Own .u8 5 u1.heap.size wx v1.inp.a v1.inp.len v1.inp.cap inp ∧ v1.out = ⟨none, 0, 0⟩) ∧ MApart u1.heap.size wx.heap.size v1 ∧ Below u1.heap.size u1 wx)
  case first =>
    refine wp_region_any (by kernel_rfl) ?_
    change wpAny _ _ _ _ _ _ _ (World.drew _)
    refine wpAny_inv (StI v m a len cap inp w.heap.size u1) ?done ?all ?step _ _ _ _ ?init rfl (by decide)
    case init =>
      have z6 : ∀ k, k < 6 → lst (Array.replicate 17 false) (ix k) = false := by decide
      have z16 : ∀ k, k < 17 → lst (Array.replicate 17 false) k = false := by decide
      exact ⟨undef, undef, undef, undef, undef, undef, undef, undef, undef, undef, undef, undef, undef, undef, undef, undef, fun _ => 0, fun _ => 0, rfl, (Below.refl _ _).drew, ⟨fun k hk q => absurd (q.symm.trans (z6 k hk)) (by decide), fun j k hj hk _ q => absurd (q.symm.trans (z6 j hj)) (by decide)⟩, fun q => absurd (q.symm.trans (z16 0 (by decide))) (by decide), fun q => absurd (q.symm.trans (z16 1 (by decide))) (by decide), fun q => absurd (q.symm.trans (z16 2 (by decide))) (by decide), fun q => absurd (q.symm.trans (z16 3 (by decide))) (by decide), fun q => absurd (q.symm.trans (z16 4 (by decide))) (by decide), fun q => absurd (q.symm.trans (z16 5 (by decide))) (by decide), fun q => absurd (q.symm.trans (z16 6 (by decide))) (by decide), fun q => absurd (q.symm.trans (z16 7 (by decide))) (by decide), fun q => absurd (q.symm.trans (z16 8 (by decide))) (by decide), fun q => absurd (q.symm.trans (z16 9 (by decide))) (by decide), fun q => absurd (q.symm.trans (z16 10 (by decide))) (by decide), fun q => absurd (q.symm.trans (z16 11 (by decide))) (by decide), fun q => absurd (q.symm.trans (z16 12 (by decide))) (by decide), fun q => absurd (q.symm.trans (z16 13 (by decide))) (by decide), fun q => absurd (q.symm.trans (z16 14 (by decide))) (by decide), fun q => absurd (q.symm.trans (z16 15 (by decide))) (by decide), fun q => absurd (q.symm.trans (z16 14 (by decide))) (by decide), fun q => absurd (q.symm.trans (z16 16 (by decide))) (by decide)⟩
    case all => exact fun L hs hr => ready_nil_all (by kernel_rfl) hs hr
    case step =>
      intro L act u i o hI hs hi ho K hK
      obtain ⟨x6, x16, x17, x18, x19, x20, x21, x22, x23, x24, x25, x26, x27, x28, x29, x30, l, h, rfl, hB, sp, f0, f1, f2, f3, f4, f5, f6, f7, f8, f9, f10, f11, f12, f13, f14, f15, c14, c16⟩ := hI
      obtain ⟨nl0, o', ho', dep0⟩ := mem_ready.1 hi
      have nl := lst_false nl0
      have hi17 : i < 17 := (Array.getElem?_eq_some_iff.1 ho).1
      have dep : ∀ e ∈ o.after, Region.binds .any e = true → lst L e.on = true := by
        rw [ho] at ho'
        cases ho'
        exact dep0
      have kj := ki u hB
      have hs16 : 16 < L.size := by rw [hs]; decide
      clear dep0 ho' hi hs
      rcases (show i = 0 ∨ i = 1 ∨ i = 2 ∨ i = 3 ∨ i = 4 ∨ i = 5 ∨ i = 6 ∨ i = 7 ∨ i = 8 ∨ i = 9 ∨ i = 10 ∨ i = 11 ∨ i = 12 ∨ i = 13 ∨ i = 14 ∨ i = 15 ∨ i = 16 by omega) with rfl | rfl | rfl | rfl | rfl | rfl | rfl | rfl | rfl | rfl | rfl | rfl | rfl | rfl | rfl | rfl | rfl
      · change some _ = some o at ho
        cases ho
        go_simp
        exact hK _ _ ⟨x6, .pointer (some ⟨w.heap.size, 0, none⟩), x17, x18, x19, x20, x21, x22, x23, x24, x25, x26, x27, x28, x29, x30, l, h, rfl, hB, (sp.pure 0 (by decide) (Nat.le_refl _)), fun _ => rfl, fun q => f1 (lst_of (by decide) q), fun q => f2 (lst_of (by decide) q), fun q => f3 (lst_of (by decide) q), fun q => f4 (lst_of (by decide) q), fun q => f5 (lst_of (by decide) q), fun q => f6 (lst_of (by decide) q), fun q => f7 (lst_of (by decide) q), fun q => f8 (lst_of (by decide) q), fun q => f9 (lst_of (by decide) q), fun q => f10 (lst_of (by decide) q), fun q => f11 (lst_of (by decide) q), fun q => f12 (lst_of (by decide) q), fun q => f13 (lst_of (by decide) q), fun q => f14 (lst_of (by decide) q), fun q => by obtain ⟨e1, e2, e3⟩ := f15 (lst_of (by decide) q); rw [lst_ne (by decide)]; exact ⟨e1, e2, e3⟩, fun q j hj => lst_mono (c14 (lst_of (by decide) q) j hj), fun q => ⟨lst_mono (c16 (lst_of (by decide) q)).1, lst_mono (c16 (lst_of (by decide) q)).2⟩⟩
      · change some _ = some o at ho
        cases ho
        obtain rfl := f0 (by first | exact dep { on := 0, ground := .data } (by simp) rfl | exact dep { on := 0, ground := .chain } (by simp) rfl | exact dep { on := 0, ground := .phase } (by simp) rfl)
        go_simp
        exact hK _ _ ⟨x6, _, _, x18, x19, x20, x21, x22, x23, x24, x25, x26, x27, x28, x29, x30, l, h, rfl, hB, (sp.pure 1 (by decide) (Nat.le_refl _)), fun q => f0 (lst_of (by decide) q), fun _ => rfl, fun q => f2 (lst_of (by decide) q), fun q => f3 (lst_of (by decide) q), fun q => f4 (lst_of (by decide) q), fun q => f5 (lst_of (by decide) q), fun q => f6 (lst_of (by decide) q), fun q => f7 (lst_of (by decide) q), fun q => f8 (lst_of (by decide) q), fun q => f9 (lst_of (by decide) q), fun q => f10 (lst_of (by decide) q), fun q => f11 (lst_of (by decide) q), fun q => f12 (lst_of (by decide) q), fun q => f13 (lst_of (by decide) q), fun q => f14 (lst_of (by decide) q), fun q => by obtain ⟨e1, e2, e3⟩ := f15 (lst_of (by decide) q); rw [lst_ne (by decide)]; exact ⟨e1, e2, e3⟩, fun q j hj => lst_mono (c14 (lst_of (by decide) q) j hj), fun q => ⟨lst_mono (c16 (lst_of (by decide) q)).1, lst_mono (c16 (lst_of (by decide) q)).2⟩⟩
      · change some _ = some o at ho
        cases ho
        have n16 : lst L 16 = false := by
          cases q : lst L 16
          · rfl
          · exact absurd (c14 (c16 q).1 2 (by decide)) (by rw [nl]; decide)
        obtain rfl := f1 (by first | exact dep { on := 1, ground := .data } (by simp) rfl | exact dep { on := 1, ground := .chain } (by simp) rfl | exact dep { on := 1, ground := .phase } (by simp) rfl)
        go_simp
        refine (cloneInts_any _ _ _ m.code u (HI.out.1.keep (B1.out.trans (hB.mono B1.out.size))) (by have := HI.out.1.row.1; have := HCD.out; omega)).mono ?_
        rintro e z ⟨ca, cc, rfl, oz, dz⟩
        exact hK _ _ ⟨x6, x16, _, _, x19, x20, x21, x22, x23, x24, x25, x26, x27, x28, x29, x30, (fun j => if j = 0 then u.heap.size else l j), (fun j => if j = 0 then z.heap.size else h j), rfl, (hB.trans (dz.mono hB.size)), (sp.step 0 (by decide) hB.size dz.size), fun q => f0 (lst_of (by decide) q), fun q => f1 (lst_of (by decide) q), fun _ => ⟨ca, cc, rfl, oz, oz.span (Nat.le_refl _)⟩, fun q => f3 (lst_of (by decide) q), fun q => f4 (lst_of (by decide) q), fun q => by obtain ⟨e1, e2, e3⟩ := f5 (lst_of (by decide) q); exact ⟨e1, ((dz).block _ (blk e2)).trans e2, e3⟩, fun q => f6 (lst_of (by decide) q), fun q => f7 (lst_of (by decide) q), fun q => by obtain ⟨ca, cc, e1, e2, e3⟩ := f8 (lst_of (by decide) q); exact ⟨ca, cc, e1, e2.keep dz, e3⟩, fun q => f9 (lst_of (by decide) q), fun q => f10 (lst_of (by decide) q), fun q => by obtain ⟨e1, e2, e3⟩ := f11 (lst_of (by decide) q); exact ⟨e1, ((dz).block _ (blk e2)).trans e2, e3⟩, fun q => f12 (lst_of (by decide) q), fun q => by obtain ⟨ca, cc, e1, e2, e3⟩ := f13 (lst_of (by decide) q); exact ⟨ca, cc, e1, e2.keep dz, e3⟩, fun q => absurd (c14 (lst_of (by decide) q) 2 (by decide)) (by rw [nl]; decide), fun q => by obtain ⟨e1, e2, e3⟩ := f15 (lst_of (by decide) q); rw [lst_ne (by decide), n16]; rw [n16] at e3; exact ⟨e1, e2, ((dz).block _ (blk e3)).trans e3⟩, fun q j hj => lst_mono (c14 (lst_of (by decide) q) j hj), fun q => ⟨lst_mono (c16 (lst_of (by decide) q)).1, lst_mono (c16 (lst_of (by decide) q)).2⟩⟩
      · change some _ = some o at ho
        cases ho
        go_simp
        exact hK _ _ ⟨x6, x16, x17, x18, .pointer (some ⟨w.heap.size, 2, none⟩), x20, x21, x22, x23, x24, x25, x26, x27, x28, x29, x30, l, h, rfl, hB, (sp.pure 3 (by decide) (Nat.le_refl _)), fun q => f0 (lst_of (by decide) q), fun q => f1 (lst_of (by decide) q), fun q => f2 (lst_of (by decide) q), fun _ => rfl, fun q => f4 (lst_of (by decide) q), fun q => f5 (lst_of (by decide) q), fun q => f6 (lst_of (by decide) q), fun q => f7 (lst_of (by decide) q), fun q => f8 (lst_of (by decide) q), fun q => f9 (lst_of (by decide) q), fun q => f10 (lst_of (by decide) q), fun q => f11 (lst_of (by decide) q), fun q => f12 (lst_of (by decide) q), fun q => f13 (lst_of (by decide) q), fun q => f14 (lst_of (by decide) q), fun q => by obtain ⟨e1, e2, e3⟩ := f15 (lst_of (by decide) q); rw [lst_ne (by decide)]; exact ⟨e1, e2, e3⟩, fun q j hj => lst_mono (c14 (lst_of (by decide) q) j hj), fun q => ⟨lst_mono (c16 (lst_of (by decide) q)).1, lst_mono (c16 (lst_of (by decide) q)).2⟩⟩
      · change some _ = some o at ho
        cases ho
        obtain rfl := f3 (by first | exact dep { on := 3, ground := .data } (by simp) rfl | exact dep { on := 3, ground := .chain } (by simp) rfl | exact dep { on := 3, ground := .phase } (by simp) rfl)
        have n16 : lst L 16 = false := by
          cases q : lst L 16
          · rfl
          · exact absurd (c14 (c16 q).1 4 (by decide)) (by rw [nl]; decide)
        go_simp
        exact hK _ _ ⟨x6, x16, x17, x18, _, _, x21, x22, x23, x24, x25, x26, x27, x28, x29, x30, l, h, rfl, hB, (sp.pure 4 (by decide) (Nat.le_refl _)), fun q => f0 (lst_of (by decide) q), fun q => f1 (lst_of (by decide) q), fun q => f2 (lst_of (by decide) q), fun q => f3 (lst_of (by decide) q), fun _ => rfl, fun q => f5 (lst_of (by decide) q), fun q => f6 (lst_of (by decide) q), fun q => f7 (lst_of (by decide) q), fun q => f8 (lst_of (by decide) q), fun q => f9 (lst_of (by decide) q), fun q => f10 (lst_of (by decide) q), fun q => f11 (lst_of (by decide) q), fun q => f12 (lst_of (by decide) q), fun q => f13 (lst_of (by decide) q), fun q => absurd (c14 (lst_of (by decide) q) 4 (by decide)) (by rw [nl]; decide), fun q => by obtain ⟨e1, e2, e3⟩ := f15 (lst_of (by decide) q); rw [lst_ne (by decide), n16]; rw [n16] at e3; exact ⟨e1, e2, e3⟩, fun q j hj => lst_mono (c14 (lst_of (by decide) q) j hj), fun q => ⟨lst_mono (c16 (lst_of (by decide) q)).1, lst_mono (c16 (lst_of (by decide) q)).2⟩⟩
      · change some _ = some o at ho
        cases ho
        have n16 : lst L 16 = false := by
          cases q : lst L 16
          · rfl
          · exact absurd (c14 (c16 q).1 5 (by decide)) (by rw [nl]; decide)
        go_simp
        exact hK _ _ ⟨x6, x16, x17, x18, x19, x20, _, x22, x23, x24, x25, x26, x27, x28, x29, x30, (fun j => if j = 1 then u.heap.size else l j), (fun j => if j = 1 then (u.alloc _).heap.size else h j), rfl, (hB.trans ((below_alloc u _).mono hB.size)), (sp.step 1 (by decide) hB.size (below_alloc u _).size), fun q => f0 (lst_of (by decide) q), fun q => f1 (lst_of (by decide) q), fun q => by obtain ⟨ca, cc, e1, e2, e3⟩ := f2 (lst_of (by decide) q); exact ⟨ca, cc, e1, e2.keep (below_alloc u _), e3⟩, fun q => f3 (lst_of (by decide) q), fun q => f4 (lst_of (by decide) q), fun _ => ⟨rfl, heap_alloc_new u _, by simp⟩, fun q => f6 (lst_of (by decide) q), fun q => f7 (lst_of (by decide) q), fun q => by obtain ⟨ca, cc, e1, e2, e3⟩ := f8 (lst_of (by decide) q); exact ⟨ca, cc, e1, e2.keep (below_alloc u _), e3⟩, fun q => f9 (lst_of (by decide) q), fun q => f10 (lst_of (by decide) q), fun q => by obtain ⟨e1, e2, e3⟩ := f11 (lst_of (by decide) q); exact ⟨e1, (((below_alloc u _)).block _ (blk e2)).trans e2, e3⟩, fun q => f12 (lst_of (by decide) q), fun q => by obtain ⟨ca, cc, e1, e2, e3⟩ := f13 (lst_of (by decide) q); exact ⟨ca, cc, e1, e2.keep (below_alloc u _), e3⟩, fun q => absurd (c14 (lst_of (by decide) q) 5 (by decide)) (by rw [nl]; decide), fun q => by obtain ⟨e1, e2, e3⟩ := f15 (lst_of (by decide) q); rw [lst_ne (by decide), n16]; rw [n16] at e3; exact ⟨e1, e2, (((below_alloc u _)).block _ (blk e3)).trans e3⟩, fun q j hj => lst_mono (c14 (lst_of (by decide) q) j hj), fun q => ⟨lst_mono (c16 (lst_of (by decide) q)).1, lst_mono (c16 (lst_of (by decide) q)).2⟩⟩
      · change some _ = some o at ho
        cases ho
        go_simp
        exact hK _ _ ⟨x6, x16, x17, x18, x19, x20, x21, .pointer (some ⟨w.heap.size, 1, none⟩), x23, x24, x25, x26, x27, x28, x29, x30, l, h, rfl, hB, (sp.pure 6 (by decide) (Nat.le_refl _)), fun q => f0 (lst_of (by decide) q), fun q => f1 (lst_of (by decide) q), fun q => f2 (lst_of (by decide) q), fun q => f3 (lst_of (by decide) q), fun q => f4 (lst_of (by decide) q), fun q => f5 (lst_of (by decide) q), fun _ => rfl, fun q => f7 (lst_of (by decide) q), fun q => f8 (lst_of (by decide) q), fun q => f9 (lst_of (by decide) q), fun q => f10 (lst_of (by decide) q), fun q => f11 (lst_of (by decide) q), fun q => f12 (lst_of (by decide) q), fun q => f13 (lst_of (by decide) q), fun q => f14 (lst_of (by decide) q), fun q => by obtain ⟨e1, e2, e3⟩ := f15 (lst_of (by decide) q); rw [lst_ne (by decide)]; exact ⟨e1, e2, e3⟩, fun q j hj => lst_mono (c14 (lst_of (by decide) q) j hj), fun q => ⟨lst_mono (c16 (lst_of (by decide) q)).1, lst_mono (c16 (lst_of (by decide) q)).2⟩⟩
      · change some _ = some o at ho
        cases ho
        obtain rfl := f6 (by first | exact dep { on := 6, ground := .data } (by simp) rfl | exact dep { on := 6, ground := .chain } (by simp) rfl | exact dep { on := 6, ground := .phase } (by simp) rfl)
        go_simp
        exact hK _ _ ⟨x6, x16, x17, x18, x19, x20, x21, _, _, x24, x25, x26, x27, x28, x29, x30, l, h, rfl, hB, (sp.pure 7 (by decide) (Nat.le_refl _)), fun q => f0 (lst_of (by decide) q), fun q => f1 (lst_of (by decide) q), fun q => f2 (lst_of (by decide) q), fun q => f3 (lst_of (by decide) q), fun q => f4 (lst_of (by decide) q), fun q => f5 (lst_of (by decide) q), fun q => f6 (lst_of (by decide) q), fun _ => rfl, fun q => f8 (lst_of (by decide) q), fun q => f9 (lst_of (by decide) q), fun q => f10 (lst_of (by decide) q), fun q => f11 (lst_of (by decide) q), fun q => f12 (lst_of (by decide) q), fun q => f13 (lst_of (by decide) q), fun q => f14 (lst_of (by decide) q), fun q => by obtain ⟨e1, e2, e3⟩ := f15 (lst_of (by decide) q); rw [lst_ne (by decide)]; exact ⟨e1, e2, e3⟩, fun q j hj => lst_mono (c14 (lst_of (by decide) q) j hj), fun q => ⟨lst_mono (c16 (lst_of (by decide) q)).1, lst_mono (c16 (lst_of (by decide) q)).2⟩⟩
      · change some _ = some o at ho
        cases ho
        have n16 : lst L 16 = false := by
          cases q : lst L 16
          · rfl
          · exact absurd (c14 (c16 q).1 8 (by decide)) (by rw [nl]; decide)
        obtain rfl := f7 (by first | exact dep { on := 7, ground := .data } (by simp) rfl | exact dep { on := 7, ground := .chain } (by simp) rfl | exact dep { on := 7, ground := .phase } (by simp) rfl)
        go_simp
        refine (cloneBytes_any _ _ _ m.data u (HI.out.2.keep (B1.out.trans (hB.mono B1.out.size))) (by have := HI.out.2.row.1; have := HCD.out; omega)).mono ?_
        rintro e z ⟨ca, cc, rfl, oz, dz⟩
        exact hK _ _ ⟨x6, x16, x17, x18, x19, x20, x21, x22, _, _, x25, x26, x27, x28, x29, x30, (fun j => if j = 2 then u.heap.size else l j), (fun j => if j = 2 then z.heap.size else h j), rfl, (hB.trans (dz.mono hB.size)), (sp.step 2 (by decide) hB.size dz.size), fun q => f0 (lst_of (by decide) q), fun q => f1 (lst_of (by decide) q), fun q => by obtain ⟨ca, cc, e1, e2, e3⟩ := f2 (lst_of (by decide) q); exact ⟨ca, cc, e1, e2.keep dz, e3⟩, fun q => f3 (lst_of (by decide) q), fun q => f4 (lst_of (by decide) q), fun q => by obtain ⟨e1, e2, e3⟩ := f5 (lst_of (by decide) q); exact ⟨e1, ((dz).block _ (blk e2)).trans e2, e3⟩, fun q => f6 (lst_of (by decide) q), fun q => f7 (lst_of (by decide) q), fun _ => ⟨ca, cc, rfl, oz, oz.span (Nat.le_refl _)⟩, fun q => f9 (lst_of (by decide) q), fun q => f10 (lst_of (by decide) q), fun q => by obtain ⟨e1, e2, e3⟩ := f11 (lst_of (by decide) q); exact ⟨e1, ((dz).block _ (blk e2)).trans e2, e3⟩, fun q => f12 (lst_of (by decide) q), fun q => by obtain ⟨ca, cc, e1, e2, e3⟩ := f13 (lst_of (by decide) q); exact ⟨ca, cc, e1, e2.keep dz, e3⟩, fun q => absurd (c14 (lst_of (by decide) q) 8 (by decide)) (by rw [nl]; decide), fun q => by obtain ⟨e1, e2, e3⟩ := f15 (lst_of (by decide) q); rw [lst_ne (by decide), n16]; rw [n16] at e3; exact ⟨e1, e2, ((dz).block _ (blk e3)).trans e3⟩, fun q j hj => lst_mono (c14 (lst_of (by decide) q) j hj), fun q => ⟨lst_mono (c16 (lst_of (by decide) q)).1, lst_mono (c16 (lst_of (by decide) q)).2⟩⟩
      · change some _ = some o at ho
        cases ho
        go_simp
        exact hK _ _ ⟨x6, x16, x17, x18, x19, x20, x21, x22, x23, x24, .pointer (some ⟨w.heap.size, 3, none⟩), x26, x27, x28, x29, x30, l, h, rfl, hB, (sp.pure 9 (by decide) (Nat.le_refl _)), fun q => f0 (lst_of (by decide) q), fun q => f1 (lst_of (by decide) q), fun q => f2 (lst_of (by decide) q), fun q => f3 (lst_of (by decide) q), fun q => f4 (lst_of (by decide) q), fun q => f5 (lst_of (by decide) q), fun q => f6 (lst_of (by decide) q), fun q => f7 (lst_of (by decide) q), fun q => f8 (lst_of (by decide) q), fun _ => rfl, fun q => f10 (lst_of (by decide) q), fun q => f11 (lst_of (by decide) q), fun q => f12 (lst_of (by decide) q), fun q => f13 (lst_of (by decide) q), fun q => f14 (lst_of (by decide) q), fun q => by obtain ⟨e1, e2, e3⟩ := f15 (lst_of (by decide) q); rw [lst_ne (by decide)]; exact ⟨e1, e2, e3⟩, fun q j hj => lst_mono (c14 (lst_of (by decide) q) j hj), fun q => ⟨lst_mono (c16 (lst_of (by decide) q)).1, lst_mono (c16 (lst_of (by decide) q)).2⟩⟩
      · change some _ = some o at ho
        cases ho
        obtain rfl := f9 (by first | exact dep { on := 9, ground := .data } (by simp) rfl | exact dep { on := 9, ground := .chain } (by simp) rfl | exact dep { on := 9, ground := .phase } (by simp) rfl)
        go_simp
        exact hK _ _ ⟨x6, x16, x17, x18, x19, x20, x21, x22, x23, x24, _, _, x27, x28, x29, x30, l, h, rfl, hB, (sp.pure 10 (by decide) (Nat.le_refl _)), fun q => f0 (lst_of (by decide) q), fun q => f1 (lst_of (by decide) q), fun q => f2 (lst_of (by decide) q), fun q => f3 (lst_of (by decide) q), fun q => f4 (lst_of (by decide) q), fun q => f5 (lst_of (by decide) q), fun q => f6 (lst_of (by decide) q), fun q => f7 (lst_of (by decide) q), fun q => f8 (lst_of (by decide) q), fun q => f9 (lst_of (by decide) q), fun _ => rfl, fun q => f11 (lst_of (by decide) q), fun q => f12 (lst_of (by decide) q), fun q => f13 (lst_of (by decide) q), fun q => f14 (lst_of (by decide) q), fun q => by obtain ⟨e1, e2, e3⟩ := f15 (lst_of (by decide) q); rw [lst_ne (by decide)]; exact ⟨e1, e2, e3⟩, fun q j hj => lst_mono (c14 (lst_of (by decide) q) j hj), fun q => ⟨lst_mono (c16 (lst_of (by decide) q)).1, lst_mono (c16 (lst_of (by decide) q)).2⟩⟩
      · change some _ = some o at ho
        cases ho
        have n16 : lst L 16 = false := by
          cases q : lst L 16
          · rfl
          · exact absurd (c14 (c16 q).1 11 (by decide)) (by rw [nl]; decide)
        obtain rfl := f10 (by first | exact dep { on := 10, ground := .data } (by simp) rfl | exact dep { on := 10, ground := .chain } (by simp) rfl | exact dep { on := 10, ground := .phase } (by simp) rfl)
        go_simp
        exact hK _ _ ⟨x6, x16, x17, x18, x19, x20, x21, x22, x23, x24, x25, _, _, x28, x29, x30, (fun j => if j = 3 then u.heap.size else l j), (fun j => if j = 3 then (u.alloc _).heap.size else h j), rfl, (hB.trans ((below_alloc u _).mono hB.size)), (sp.step 3 (by decide) hB.size (below_alloc u _).size), fun q => f0 (lst_of (by decide) q), fun q => f1 (lst_of (by decide) q), fun q => by obtain ⟨ca, cc, e1, e2, e3⟩ := f2 (lst_of (by decide) q); exact ⟨ca, cc, e1, e2.keep (below_alloc u _), e3⟩, fun q => f3 (lst_of (by decide) q), fun q => f4 (lst_of (by decide) q), fun q => by obtain ⟨e1, e2, e3⟩ := f5 (lst_of (by decide) q); exact ⟨e1, (((below_alloc u _)).block _ (blk e2)).trans e2, e3⟩, fun q => f6 (lst_of (by decide) q), fun q => f7 (lst_of (by decide) q), fun q => by obtain ⟨ca, cc, e1, e2, e3⟩ := f8 (lst_of (by decide) q); exact ⟨ca, cc, e1, e2.keep (below_alloc u _), e3⟩, fun q => f9 (lst_of (by decide) q), fun q => f10 (lst_of (by decide) q), fun _ => ⟨rfl, heap_alloc_new u _, by simp⟩, fun q => f12 (lst_of (by decide) q), fun q => by obtain ⟨ca, cc, e1, e2, e3⟩ := f13 (lst_of (by decide) q); exact ⟨ca, cc, e1, e2.keep (below_alloc u _), e3⟩, fun q => absurd (c14 (lst_of (by decide) q) 11 (by decide)) (by rw [nl]; decide), fun q => by obtain ⟨e1, e2, e3⟩ := f15 (lst_of (by decide) q); rw [lst_ne (by decide), n16]; rw [n16] at e3; exact ⟨e1, e2, (((below_alloc u _)).block _ (blk e3)).trans e3⟩, fun q j hj => lst_mono (c14 (lst_of (by decide) q) j hj), fun q => ⟨lst_mono (c16 (lst_of (by decide) q)).1, lst_mono (c16 (lst_of (by decide) q)).2⟩⟩
      · change some _ = some o at ho
        cases ho
        go_simp
        exact hK _ _ ⟨x6, x16, x17, x18, x19, x20, x21, x22, x23, x24, x25, x26, x27, _, x29, x30, l, h, rfl, hB, (sp.pure 12 (by decide) (Nat.le_refl _)), fun q => f0 (lst_of (by decide) q), fun q => f1 (lst_of (by decide) q), fun q => f2 (lst_of (by decide) q), fun q => f3 (lst_of (by decide) q), fun q => f4 (lst_of (by decide) q), fun q => f5 (lst_of (by decide) q), fun q => f6 (lst_of (by decide) q), fun q => f7 (lst_of (by decide) q), fun q => f8 (lst_of (by decide) q), fun q => f9 (lst_of (by decide) q), fun q => f10 (lst_of (by decide) q), fun q => f11 (lst_of (by decide) q), fun _ => rfl, fun q => f13 (lst_of (by decide) q), fun q => f14 (lst_of (by decide) q), fun q => by obtain ⟨e1, e2, e3⟩ := f15 (lst_of (by decide) q); rw [lst_ne (by decide)]; exact ⟨e1, e2, e3⟩, fun q j hj => lst_mono (c14 (lst_of (by decide) q) j hj), fun q => ⟨lst_mono (c16 (lst_of (by decide) q)).1, lst_mono (c16 (lst_of (by decide) q)).2⟩⟩
      · change some _ = some o at ho
        cases ho
        have n16 : lst L 16 = false := by
          cases q : lst L 16
          · rfl
          · exact absurd (c14 (c16 q).1 13 (by decide)) (by rw [nl]; decide)
        obtain rfl := f12 (by first | exact dep { on := 12, ground := .data } (by simp) rfl | exact dep { on := 12, ground := .chain } (by simp) rfl | exact dep { on := 12, ground := .phase } (by simp) rfl)
        go_simp
        refine (cloneBytes_any _ _ _ inp u (HN.out.keep (B1.out.trans (hB.mono B1.out.size))) (by have := HL.out; omega)).mono ?_
        rintro e z ⟨ca, cc, rfl, oz, dz⟩
        exact hK _ _ ⟨x6, x16, x17, x18, x19, x20, x21, x22, x23, x24, x25, x26, x27, _, _, x30, (fun j => if j = 4 then u.heap.size else l j), (fun j => if j = 4 then z.heap.size else h j), rfl, (hB.trans (dz.mono hB.size)), (sp.step 4 (by decide) hB.size dz.size), fun q => f0 (lst_of (by decide) q), fun q => f1 (lst_of (by decide) q), fun q => by obtain ⟨ca, cc, e1, e2, e3⟩ := f2 (lst_of (by decide) q); exact ⟨ca, cc, e1, e2.keep dz, e3⟩, fun q => f3 (lst_of (by decide) q), fun q => f4 (lst_of (by decide) q), fun q => by obtain ⟨e1, e2, e3⟩ := f5 (lst_of (by decide) q); exact ⟨e1, ((dz).block _ (blk e2)).trans e2, e3⟩, fun q => f6 (lst_of (by decide) q), fun q => f7 (lst_of (by decide) q), fun q => by obtain ⟨ca, cc, e1, e2, e3⟩ := f8 (lst_of (by decide) q); exact ⟨ca, cc, e1, e2.keep dz, e3⟩, fun q => f9 (lst_of (by decide) q), fun q => f10 (lst_of (by decide) q), fun q => by obtain ⟨e1, e2, e3⟩ := f11 (lst_of (by decide) q); exact ⟨e1, ((dz).block _ (blk e2)).trans e2, e3⟩, fun q => f12 (lst_of (by decide) q), fun _ => ⟨ca, cc, rfl, oz, oz.span (Nat.le_refl _)⟩, fun q => absurd (c14 (lst_of (by decide) q) 13 (by decide)) (by rw [nl]; decide), fun q => by obtain ⟨e1, e2, e3⟩ := f15 (lst_of (by decide) q); rw [lst_ne (by decide), n16]; rw [n16] at e3; exact ⟨e1, e2, ((dz).block _ (blk e3)).trans e3⟩, fun q j hj => lst_mono (c14 (lst_of (by decide) q) j hj), fun q => ⟨lst_mono (c16 (lst_of (by decide) q)).1, lst_mono (c16 (lst_of (by decide) q)).2⟩⟩
      · change some _ = some o at ho
        cases ho
        have q2 : lst L 2 = true := (by first | exact dep { on := 2, ground := .data } (by simp) rfl | exact dep { on := 2, ground := .chain } (by simp) rfl | exact dep { on := 2, ground := .phase } (by simp) rfl)
        have q4 : lst L 4 = true := (by first | exact dep { on := 4, ground := .data } (by simp) rfl | exact dep { on := 4, ground := .chain } (by simp) rfl | exact dep { on := 4, ground := .phase } (by simp) rfl)
        have q5 : lst L 5 = true := (by first | exact dep { on := 5, ground := .data } (by simp) rfl | exact dep { on := 5, ground := .chain } (by simp) rfl | exact dep { on := 5, ground := .phase } (by simp) rfl)
        have q8 : lst L 8 = true := (by first | exact dep { on := 8, ground := .data } (by simp) rfl | exact dep { on := 8, ground := .chain } (by simp) rfl | exact dep { on := 8, ground := .phase } (by simp) rfl)
        have q11 : lst L 11 = true := (by first | exact dep { on := 11, ground := .data } (by simp) rfl | exact dep { on := 11, ground := .chain } (by simp) rfl | exact dep { on := 11, ground := .phase } (by simp) rfl)
        have q13 : lst L 13 = true := (by first | exact dep { on := 13, ground := .data } (by simp) rfl | exact dep { on := 13, ground := .chain } (by simp) rfl | exact dep { on := 13, ground := .phase } (by simp) rfl)
        have hdeps : ∀ j, j ∈ [2, 4, 5, 8, 11, 13] → lst L j = true := by
          intro j hj
          simp only [List.mem_cons, List.not_mem_nil, or_false] at hj
          rcases hj with rfl | rfl | rfl | rfl | rfl | rfl <;> assumption
        obtain ⟨ca, cc, rfl, o2, s2⟩ := f2 q2
        obtain rfl := f4 q4
        obtain ⟨rfl, r5, t5⟩ := f5 q5
        obtain ⟨da, dc, rfl, o8, s8⟩ := f8 q8
        obtain ⟨rfl, r11, t11⟩ := f11 q11
        obtain ⟨ia, ic, rfl, o13, s13⟩ := f13 q13
        clear o2 s2 r5 t5 o8 s8 r11 t11 o13 s13
        go_simp
        exact hK _ _ ⟨x6, x16, x17, _, x19, _, _, x22, x23, _, x25, x26, _, x28, _, _, l, h, rfl, hB, (sp.pure 14 (by decide) (Nat.le_refl _)), fun q => f0 (lst_of (by decide) q), fun q => f1 (lst_of (by decide) q), fun q => f2 (lst_of (by decide) q), fun q => f3 (lst_of (by decide) q), fun q => f4 (lst_of (by decide) q), fun q => f5 (lst_of (by decide) q), fun q => f6 (lst_of (by decide) q), fun q => f7 (lst_of (by decide) q), fun q => f8 (lst_of (by decide) q), fun q => f9 (lst_of (by decide) q), fun q => f10 (lst_of (by decide) q), fun q => f11 (lst_of (by decide) q), fun q => f12 (lst_of (by decide) q), fun q => f13 (lst_of (by decide) q), fun _ => rfl, fun q => by obtain ⟨e1, e2, e3⟩ := f15 (lst_of (by decide) q); rw [lst_ne (by decide)]; exact ⟨e1, e2, e3⟩, fun _ j hj => lst_mono (hdeps j hj), fun q => ⟨lst_mono (c16 (lst_of (by decide) q)).1, lst_mono (c16 (lst_of (by decide) q)).2⟩⟩
      · change some _ = some o at ho
        cases ho
        have n16 : lst L 16 = false := by
          cases q : lst L 16
          · rfl
          · exact absurd (c16 q).2 (by rw [nl]; decide)
        go_simp
        exact hK _ _ ⟨_, x16, x17, x18, x19, x20, x21, x22, x23, x24, x25, x26, x27, x28, x29, x30, (fun j => if j = 5 then u.heap.size else l j), (fun j => if j = 5 then (u.alloc _).heap.size else h j), rfl, (hB.trans ((below_alloc u _).mono hB.size)), (sp.step 5 (by decide) hB.size (below_alloc u _).size), fun q => f0 (lst_of (by decide) q), fun q => f1 (lst_of (by decide) q), fun q => by obtain ⟨ca, cc, e1, e2, e3⟩ := f2 (lst_of (by decide) q); exact ⟨ca, cc, e1, e2.keep (below_alloc u _), e3⟩, fun q => f3 (lst_of (by decide) q), fun q => f4 (lst_of (by decide) q), fun q => by obtain ⟨e1, e2, e3⟩ := f5 (lst_of (by decide) q); exact ⟨e1, (((below_alloc u _)).block _ (blk e2)).trans e2, e3⟩, fun q => f6 (lst_of (by decide) q), fun q => f7 (lst_of (by decide) q), fun q => by obtain ⟨ca, cc, e1, e2, e3⟩ := f8 (lst_of (by decide) q); exact ⟨ca, cc, e1, e2.keep (below_alloc u _), e3⟩, fun q => f9 (lst_of (by decide) q), fun q => f10 (lst_of (by decide) q), fun q => by obtain ⟨e1, e2, e3⟩ := f11 (lst_of (by decide) q); exact ⟨e1, (((below_alloc u _)).block _ (blk e2)).trans e2, e3⟩, fun q => f12 (lst_of (by decide) q), fun q => by obtain ⟨ca, cc, e1, e2, e3⟩ := f13 (lst_of (by decide) q); exact ⟨ca, cc, e1, e2.keep (below_alloc u _), e3⟩, fun q => f14 (lst_of (by decide) q), fun _ => ⟨rfl, by simp, by rw [lst_ne (by decide), n16]; exact heap_alloc_new u _⟩, fun q j hj => lst_mono (c14 (lst_of (by decide) q) j hj), fun q => ⟨lst_mono (c16 (lst_of (by decide) q)).1, lst_mono (c16 (lst_of (by decide) q)).2⟩⟩
      · change some _ = some o at ho
        cases ho
        have q14 : lst L 14 = true := (by first | exact dep { on := 14, ground := .data } (by simp) rfl | exact dep { on := 14, ground := .chain } (by simp) rfl | exact dep { on := 14, ground := .phase } (by simp) rfl)
        have q15 : lst L 15 = true := (by first | exact dep { on := 15, ground := .data } (by simp) rfl | exact dep { on := 15, ground := .chain } (by simp) rfl | exact dep { on := 15, ground := .phase } (by simp) rfl)
        have hd16 : lst L 14 = true ∧ lst L 15 = true := ⟨q14, q15⟩
        obtain ⟨q2, q4, q5, q8, q11, q13⟩ : lst L 2 = true ∧ lst L 4 = true ∧ lst L 5 = true ∧ lst L 8 = true ∧ lst L 11 = true ∧ lst L 13 = true := ⟨c14 q14 2 (by decide), c14 q14 4 (by decide), c14 q14 5 (by decide), c14 q14 8 (by decide), c14 q14 11 (by decide), c14 q14 13 (by decide)⟩
        have e14 := f14 q14
        obtain ⟨rfl, t15, e15⟩ := f15 q15
        rw [nl] at e15
        have e15 : u.heap[l 5]? = some (.cells #[.slice none 0 0, .int .i64 0, .slice none 0 0, .slice none 0 0, .slice none 0 0, .slice none 0 0, .slice none 0 0, .int .i64 0, .int .i64 0, .int .i64 0] 27) := e15
        obtain ⟨ca, cc, rfl, o2, s2⟩ := f2 q2
        obtain rfl := f4 q4
        obtain ⟨rfl, r5, t5⟩ := f5 q5
        obtain ⟨da, dc, rfl, o8, s8⟩ := f8 q8
        obtain ⟨rfl, r11, t11⟩ := f11 q11
        obtain ⟨ia, ic, rfl, o13, s13⟩ := f13 q13
        subst e14
        have a0 := sp.off 0 5 (by decide) (by decide) (by decide) q2 q15
        have a1 := sp.off 1 5 (by decide) (by decide) (by decide) q5 q15
        have a2 := sp.off 2 5 (by decide) (by decide) (by decide) q8 q15
        have a3 := sp.off 3 5 (by decide) (by decide) (by decide) q11 q15
        have a4 := sp.off 4 5 (by decide) (by decide) (by decide) q13 q15
        replace a0 : h 0 ≤ l 5 ∨ l 5 < l 0 := by omega
        replace a2 : h 2 ≤ l 5 ∨ l 5 < l 2 := by omega
        replace a4 : h 4 ≤ l 5 ∨ l 5 < l 4 := by omega
        have hin := sp.ins 5 (by decide) q15
        rw [if_pos (by kernel_rfl)]
        refine wp_store_row 27 _ _ rfl (l 5) #[.slice ca v.code.len cc, .int .i64 m.entry, .slice (some ⟨l 1, 0, none⟩) 32 32, .slice da v.data.len dc, .slice (some ⟨l 3, 0, none⟩) m.size.toNat m.size.toNat, .slice ia len ic, .slice none 0 0, .int .i64 0, .int .i64 0, .int .i64 0] rfl rfl 27 #[.slice none 0 0, .int .i64 0, .slice none 0 0, .slice none 0 0, .slice none 0 0, .slice none 0 0, .slice none 0 0, .int .i64 0, .int .i64 0, .int .i64 0] e15 (by kernel_rfl) (by kernel_rfl) (by kernel_rfl) ?_
        exact hK _ _ ⟨_, x16, x17, _, x19, _, _, x22, x23, _, x25, x26, _, x28, _, _, l, h, rfl, (below_setRow2 hB hin.1 _), (sp.pure 16 (by decide) (by rw [size_setRow]; exact Nat.le_refl _)), fun q => f0 (lst_of (by decide) q), fun q => f1 (lst_of (by decide) q), fun q => ⟨ca, cc, rfl, o2.setRowNe s2 a0 _, s2⟩, fun q => f3 (lst_of (by decide) q), fun q => f4 (lst_of (by decide) q), fun q => ⟨rfl, (setRow_other u (l 5) (l 1) _ (by omega)).trans r5, t5⟩, fun q => f6 (lst_of (by decide) q), fun q => f7 (lst_of (by decide) q), fun q => ⟨da, dc, rfl, o8.setRowNe s8 a2 _, s8⟩, fun q => f9 (lst_of (by decide) q), fun q => f10 (lst_of (by decide) q), fun q => ⟨rfl, (setRow_other u (l 5) (l 3) _ (by omega)).trans r11, t11⟩, fun q => f12 (lst_of (by decide) q), fun q => ⟨ia, ic, rfl, o13.setRowNe s13 a4 _, s13⟩, fun q => f14 (lst_of (by decide) q), fun q => ⟨rfl, t15, by rw [lst_self hs16]; exact setRow_heap u (l 5) _ _ _ _ e15⟩, fun q j hj => lst_mono (c14 (lst_of (by decide) q) j hj), fun _ => ⟨lst_mono (hd16).1, lst_mono (hd16).2⟩⟩

    case done =>
      intro L act u hI hs hall
      obtain ⟨x6, x16, x17, x18, x19, x20, x21, x22, x23, x24, x25, x26, x27, x28, x29, x30, l, h, rfl, hB, sp, f0, f1, f2, f3, f4, f5, f6, f7, f8, f9, f10, f11, f12, f13, f14, f15, c14, c16⟩ := hI
      have ql : ∀ j, j < 17 → lst L j = true := fun j hj => by
        have h1 := hall j hj
        have h2 : j < L.size := by rw [hs]; exact hj
        unfold lst
        simp [h2] at h1 ⊢
        exact h1
      have q2 := ql 2 (by decide)
      have q4 := ql 4 (by decide)
      have q5 := ql 5 (by decide)
      have q8 := ql 8 (by decide)
      have q11 := ql 11 (by decide)
      have q13 := ql 13 (by decide)
      have q15 := ql 15 (by decide)
      obtain ⟨rfl, t15, e15⟩ := f15 q15
      rw [ql 16 (by decide)] at e15
      obtain ⟨ca, cc, rfl, o2, s2⟩ := f2 q2
      obtain rfl := f4 q4
      obtain ⟨rfl, r5, t5⟩ := f5 q5
      obtain ⟨da, dc, rfl, o8, s8⟩ := f8 q8
      obtain ⟨rfl, r11, t11⟩ := f11 q11
      obtain ⟨ia, ic, rfl, o13, s13⟩ := f13 q13
      have e15 : u.heap[l 5]? = some (.cells #[.slice ca v.code.len cc, .int .i64 m.entry, .slice (some ⟨l 1, 0, none⟩) 32 32, .slice da v.data.len dc, .slice (some ⟨l 3, 0, none⟩) m.size.toNat m.size.toNat, .slice ia len ic, .slice none 0 0, .int .i64 0, .int .i64 0, .int .i64 0] 27) := e15
      have i0 := sp.ins 0 (by decide) q2
      have i1 := sp.ins 1 (by decide) q5
      have i2 := sp.ins 2 (by decide) q8
      have i3' := sp.ins 3 (by decide) q11
      have i4 := sp.ins 4 (by decide) q13
      have n15 := sp.off 1 5 (by decide) (by decide) (by decide) q5 q15
      have hap : MApart u1.heap.size u.heap.size ⟨⟨ca, v.code.len, cc⟩, ⟨some ⟨l 1, 0, none⟩, 32, 32⟩, ⟨da, v.data.len, dc⟩, ⟨some ⟨l 3, 0, none⟩, m.size.toNat, m.size.toNat⟩, ⟨ia, len, ic⟩, ⟨none, 0, 0⟩⟩ := by
        have hl : ∀ k, k < 5 → lst L (ix k) = true := fun k hk => ql _ (by rcases (show k = 0 ∨ k = 1 ∨ k = 2 ∨ k = 3 ∨ k = 4 by omega) with rfl | rfl | rfl | rfl | rfl <;> decide)
        refine ⟨fun j => if j < 5 then l j else u1.heap.size, fun j => if j < 5 then h j else u1.heap.size, ⟨s2, ?_, s8, ?_, s13, ?_⟩, ?_, ?_⟩
        · intro ad had; cases had; exact ⟨Nat.le_refl _, t5⟩
        · intro ad had; cases had; exact ⟨Nat.le_refl _, t11⟩
        · intro ad had; cases had
        · intro j hj
          by_cases e : j < 5
          · simp only [e, if_true]
            have := sp.ins j hj (hl j e)
            omega
          · simp only [e, if_false]
            have := hB.size
            omega
        · intro j k hj hk hjk
          by_cases e : j < 5
          · by_cases e' : k < 5
            · simp only [e, e', if_true]
              exact sp.off j k hj hk hjk (hl j e) (hl k e')
            · simp only [e, e', if_true, if_false]
              have := sp.ins j hj (hl j e)
              omega
          · by_cases e' : k < 5
            · simp only [e, e', if_true, if_false]
              have := sp.ins k hk (hl k e')
              omega
            · omega
      have hz16 : m.size.toNat ≤ maxLen := by have := HSK.out; unfold maxLen; omega
      have os := own_row (lo := u1.heap.size) r11 (by rw [toList_madeCells_one, List.map_replicate]) (by simp) hz16 (fun x hx => by rw [List.eq_of_mem_replicate hx]; decide) i3'.1
      have gne : l 5 ≠ l 1 := by omega
      clear f0 f1 f3 f6 f7 f9 f10 f12 f14 c14 c16 hall ql
      go_wp2_with fail
      go_meet
      exact ⟨⟨⟨ca, v.code.len, cc⟩, ⟨some ⟨l 1, 0, none⟩, 32, 32⟩, ⟨da, v.data.len, dc⟩, ⟨some ⟨l 3, 0, none⟩, m.size.toNat, m.size.toNat⟩, ⟨ia, len, ic⟩, ⟨none, 0, 0⟩⟩, l 5, l 1, rfl, e15, rfl, gne, r5, ⟨o2.weak i0.1, o8.weak i2.1, os, o13.weak i4.1, rfl⟩, hap, hB⟩
  case rest =>
  obtain ⟨⟨vc, vr, vd, vs, vi, vo⟩, g, rb, rfl, hg, hreg, hne, hrb, ⟨oc, od, os, oi, hout⟩, hap, dc⟩ := hcut
  dsimp only at hg hreg oc od os oi hout
  subst hreg hout
  dsimp only at hg
  obtain ⟨y2, hy2⟩ : ∃ u : World, u = wc := ⟨wc, rfl⟩
  rw [← hy2] at hg hrb dc oc od os oi hap ⊢
  clear hy2
  obtain ⟨la, ha, ⟨p0, p1, p2, p3, p4, p5⟩, hin, hoff⟩ := hap
  have hrbs : la 1 ≤ rb ∧ rb < ha 1 := p1 ⟨rb, 0, none⟩ rfl
  have hrb1 : u1.heap.size ≤ rb := by have := hin 1 (by decide); omega
  have kg : ∀ j, y2.cell? ⟨g, j, none⟩ = (#[.slice vc.a vc.len vc.cap, .int .i64 m.entry, .slice (some ⟨rb, 0, none⟩) 32 32, .slice vd.a vd.len vd.cap, .slice vs.a vs.len vs.cap, .slice vi.a vi.len vi.cap, .slice none 0 0, .int .i64 0, .int .i64 0, .int .i64 0] : Array Value)[j]? := fun j => cell_of_row y2 g j _ 27 (0, 0) hg
  have kr : y2.cell? ⟨rb, 2, none⟩ = some (.int .i64 0) := by rw [cell_of_row y2 rb 2 _ 3 (0, 0) hrb]; simp [madeCells]
  have kf : y2.frozen? ⟨rb, 2, none⟩ = false := frozen_of_row y2 rb 2 _ 3 hrb
  go_upto_region 5 with fail
  clear kg kr kf
  refine wp_at2 fun y3 hy3 => ?_
  have hrow3 : y3.heap[rb]? = some (.cells ((madeCells #[Value.int .i64 0] 32).setIfInBounds 2 (.int .i64 2097152)) 3) := by rw [hy3]; exact heap_setCell_same y2 rb 2 _ 3 _ hrb
  have HG3 : Hid (y3.heap[g]? = some (.cells #[.slice vc.a vc.len vc.cap, .int .i64 m.entry, .slice (some ⟨rb, 0, none⟩) 32 32, .slice vd.a vd.len vd.cap, .slice vs.a vs.len vs.cap, .slice vi.a vi.len vi.cap, .slice none 0 0, .int .i64 0, .int .i64 0, .int .i64 0] 27)) := by show y3.heap[g]? = _; rw [hy3, heap_setCell_other y2 _ g _ hne]; exact hg
  have X3 : Hid (y3.heap[w.heap.size + 1]? = some (.cells #[.slice none 0 0, .int .i64 0, .slice none 0 0, .slice none 0 0, .slice none 0 0, .slice none 0 0, .slice none 0 0, .int .i64 0, .int .i64 0, .int .i64 0] 27)) := by show y3.heap[w.heap.size + 1]? = _; rw [hy3, heap_setCell_other y2 _ _ _ (by have := Z1.out; show w.heap.size + 1 ≠ rb; omega), dc.block _ Z1.out]; exact X1.out
  have D3 : Below u1.heap.size u1 y3 := by rw [hy3]; exact dc.setCell hrb1 _
  have S3 : y3.heap.size = y2.heap.size := by rw [hy3]; simp
  have B3 : Hid (Below w.heap.size w y3) := B1.out.trans (D3.mono B1.out.size)
  have oc3 : Own .i64 3 u1.heap.size y3 vc.a vc.len vc.cap m.code := by rw [hy3]; exact Own.setCellNe oc p0 (by have := hoff 0 1 (by decide) (by decide) (by decide); omega) _
  have od3 : Own .u8 5 u1.heap.size y3 vd.a vd.len vd.cap m.data := by rw [hy3]; exact Own.setCellNe od p2 (by have := hoff 2 1 (by decide) (by decide) (by decide); omega) _
  have os3 : Own .u8 5 u1.heap.size y3 vs.a vs.len vs.cap (List.replicate m.size.toNat 0) := by rw [hy3]; exact Own.setCellNe os p3 (by have := hoff 3 1 (by decide) (by decide) (by decide); omega) _
  have oi3 : Own .u8 5 u1.heap.size y3 vi.a vi.len vi.cap inp := by rw [hy3]; exact Own.setCellNe oi p4 (by have := hoff 4 1 (by decide) (by decide) (by decide); omega) _
  have or3 : Own .i64 3 u1.heap.size y3 (some ⟨rb, 0, none⟩) 32 32 Pl.regs0 := own_row hrow3 (by rw [Array.toList_setIfInBounds, toList_madeCells_one]; rfl) (by decide) (by decide) (by decide) hrb1
  have O3 : Hid (MOwn u1.heap.size y3 ⟨vc, ⟨some ⟨rb, 0, none⟩, 32, 32⟩, vd, vs, vi, ⟨none, 0, 0⟩⟩ (Pl.mStart m inp)) := ⟨oc3, or3, od3, os3, oi3, Own.nil _ _ _ _⟩
  have HAP : Hid (MApart u1.heap.size y3.heap.size ⟨vc, ⟨some ⟨rb, 0, none⟩, 32, 32⟩, vd, vs, vi, ⟨none, 0, 0⟩⟩) := by show MApart _ _ _; rw [S3]; exact ⟨la, ha, ⟨p0, p1, p2, p3, p4, p5⟩, hin, hoff⟩
  clear hy3 oc od os oi oc3 od3 os3 oi3 or3 hrow3 hg hrb p0 p1 p2 p3 p4 p5 hin hoff hrbs D3 S3 ki hm1 hm2
  go_wp2_with (first | (refine wpList_load_row rfl 27 _ rfl (g) ?hx 27 #[.slice vc.a vc.len vc.cap, .int .i64 m.entry, .slice (some ⟨rb, 0, none⟩) 32 32, .slice vd.a vd.len vd.cap, .slice vs.a vs.len vs.cap, .slice vi.a vi.len vi.cap, .slice none 0 0, .int .i64 0, .int .i64 0, .int .i64 0] (0, 0) _ ?hg Try.underlying27 ?hd ?hi ?_; (case hx => rfl); (case hg => exact HG3.out); (case hd => rfl); (case hi => kernel_rfl)) | (refine wpList_store_row rfl 27 _ _ rfl (w.heap.size + 1) #[.slice vc.a vc.len vc.cap, .int .i64 m.entry, .slice (some ⟨rb, 0, none⟩) 32 32, .slice vd.a vd.len vd.cap, .slice vs.a vs.len vs.cap, .slice vi.a vi.len vi.cap, .slice none 0 0, .int .i64 0, .int .i64 0, .int .i64 0] ?hx ?hy 27 #[.slice none 0 0, .int .i64 0, .slice none 0 0, .slice none 0 0, .slice none 0 0, .slice none 0 0, .slice none 0 0, .int .i64 0, .int .i64 0, .int .i64 0] ?hg ?hi ?ho ?h1 ?_; (case hx => rfl); (case hy => rfl); (case hg => exact X3.out); (case hi => kernel_rfl); (case ho => kernel_rfl); (case h1 => kernel_rfl); refine Hid.out ?_))
  unfold Hid
  go_wp2
  exact bodyPost_ret (v := .tuple #[.agg #[.slice vc.a vc.len vc.cap, .int .i64 m.entry, .slice (some ⟨rb, 0, none⟩) 32 32, .slice vd.a vd.len vd.cap, .slice vs.a vs.len vs.cap, .slice vi.a vi.len vi.cap, .slice none 0 0, .int .i64 0, .int .i64 0, .int .i64 0], .bool true]) (results_cell_tmp2 Try.results18 _ _ (w.heap.size + 1) 27 #[.slice vc.a vc.len vc.cap, .int .i64 m.entry, .slice (some ⟨rb, 0, none⟩) 32 32, .slice vd.a vd.len vd.cap, .slice vs.a vs.len vs.cap, .slice vi.a vi.len vi.cap, .slice none 0 0, .int .i64 0, .int .i64 0, .int .i64 0] (0, 0) _ _ rfl rfl (setRow_heap _ _ _ _ 27 _ X3.out) Try.underlying27 rfl (by kernel_rfl)) rfl ⟨⟨vc, ⟨some ⟨rb, 0, none⟩, 32, 32⟩, vd, vs, vi, ⟨none, 0, 0⟩⟩, rfl, MOwn.weak (MOwn.setRow2 O3.out Z1.out _) (by have := B1.out.size; omega), ⟨u1.heap.size, y3.heap.size, HAP.out, B1.out.size, by rw [size_setRow]; exact Nat.le_refl _⟩, below_setRow2 B3.out (by omega) _⟩
end Go.Proofs.Ytomhmjhcbencmaa.W
