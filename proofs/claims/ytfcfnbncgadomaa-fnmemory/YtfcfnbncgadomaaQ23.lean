import Derived.Test.YtfcfnbncgadomaaQ22
import Derived.Test.YtfcfnbncgadomaaQ21
set_option linter.unusedVariables false
set_option linter.unusedSimpArgs false
namespace Go.Proofs.Ytfcfnbncgadomaa.Pl
/-- the numbers of a machine, within bounds -/
def Nb (m : Mac) : Prop := (-1099511627776 ≤ m.pc ∧ m.pc ≤ 1099511627776) ∧ (-1099511627776 ≤ m.steps ∧ m.steps ≤ 1099511627776) ∧ (-1099511627776 ≤ m.fin ∧ m.fin ≤ 1099511627776) ∧ (-1099511627776 ≤ m.val ∧ m.val ≤ 1099511627776)
def R32 (m : Mac) : Prop := m.regs.length = 32 ∨ m.regs.length = 0
theorem runM_small {m : Mac} (hb : ∀ n ∈ m.inp, 0 ≤ n ∧ n ≤ 255) (hsz : mSize m ≤ 170000) (hn : Nb m) (hr : R32 m) (f : Int) : mSize (runM m f) ≤ 170000 ∧ Nb (runM m f) ∧ R32 (runM m f) := by
  unfold runM
  by_cases hq : 1 ≤ f ∧ goes m = true
  · rw [if_pos hq]
    have hg := hq.2
    have hv := (W.Pl_vd hg).1
    have hmo : mOk m = true := by
      unfold goes at hg
      simp only [Bool.and_eq_true] at hg
      exact hg.1.1
    obtain ⟨hx, hc, hs⟩ := of_ok hmo hb
    obtain ⟨k1, k2, k3⟩ := run_keeps f.toNat m hv hx
    have e1 := k1.code
    have e2 := k1.regs
    have e3 := k1.data
    have e4 := k1.stk
    have e5 := k1.inp
    have e6 := k1.out
    have e7 := k1.pc
    have e8 := k1.steps
    have e9 := k2.fin
    have ea := k2.val
    refine ⟨by unfold mSize; omega, ?_, .inl e2⟩
    unfold Nb
    omega
  · rw [if_neg hq]; exact ⟨hsz, hn, hr⟩
end Go.Proofs.Ytfcfnbncgadomaa.Pl
namespace Go.Proofs.Ytfcfnbncgadomaa.W
open Go.RowKit
/-- spec.StartMachine of whatever small image: some machine -/
theorem start_any {lo lo2 : Nat} (v : IV) (m : Pl.Img) (a : Option Addr) (len cap : Nat) (inp : List Int) (w : World) (h : IOwn lo w v m) (hin : Own .u8 5 lo2 w a len cap inp) (he : -1000000 ≤ m.entry ∧ m.entry ≤ 1000000) (hl : len ≤ 10001) :
    Calls Try.prog 44 #[.agg #[.slice v.code.a v.code.len v.code.cap, .slice v.data.a v.data.len v.data.cap, .int .i64 m.entry, .int .i64 m.size], .slice a len cap] w fun e w' => ∃ (v1 : MV) (m1 : Pl.Mac) (ok : Bool), e = .returned (.tuple #[.agg #[.slice v1.code.a v1.code.len v1.code.cap, .int .i64 m1.pc, .slice v1.regs.a v1.regs.len v1.regs.cap, .slice v1.data.a v1.data.len v1.data.cap, .slice v1.stk.a v1.stk.len v1.stk.cap, .slice v1.inp.a v1.inp.len v1.inp.cap, .slice v1.out.a v1.out.len v1.out.cap, .int .i64 m1.steps, .int .i64 m1.fin, .int .i64 m1.val], .bool ok]) ∧ MIs 0 w' v1 m1 ∧ Pl.mSize m1 ≤ 170000 ∧ (Pl.Nb m1 ∧ Pl.R32 m1) ∧ Below w.heap.size w w' := by
  cases hy : (Pl.iOk m && decide (len ≤ 10000))
  · refine (specStart_no v m a len cap inp w h hin (by omega) hy).mono fun e w' ⟨he, hb⟩ => ⟨⟨⟨none, 0, 0⟩, ⟨none, 0, 0⟩, ⟨none, 0, 0⟩, ⟨none, 0, 0⟩, ⟨none, 0, 0⟩, ⟨none, 0, 0⟩⟩, ⟨[], 0, [], [], [], [], [], 0, 0, 0⟩, false, he, ?_, by decide, ⟨by unfold Pl.Nb; decide, .inr rfl⟩, hb⟩
    have z : ∀ k, Row k 0 w' none 0 0 [] := fun k => ⟨rfl, Nat.le_refl _, Nat.zero_le _, fun n hn => absurd hn (by simp), .inl rfl⟩
    exact ⟨z _, z _, z _, z _, z _, z _⟩
  · refine (specStart_yes v m a len cap inp w h hin (by omega) hy).mono fun e w' ⟨v1, he, ho, hb⟩ => ⟨v1, Pl.mStart m inp, true, he, ?_, ?_, ?_, hb⟩
    · exact ⟨ho.1.row.lower (Nat.zero_le _), ho.2.1.row.lower (Nat.zero_le _), ho.2.2.1.row.lower (Nat.zero_le _), ho.2.2.2.1.row.lower (Nat.zero_le _), ho.2.2.2.2.1.row.lower (Nat.zero_le _), ho.2.2.2.2.2.row.lower (Nat.zero_le _)⟩
    · rw [Bool.and_eq_true] at hy
      obtain ⟨hi, hlen⟩ := hy
      unfold Pl.iOk Pl.cdOk Pl.skOk at hi
      simp only [Bool.and_eq_true, decide_eq_true_eq] at hi
      have hz := hin.row.1
      have e1 : (Pl.mStart m inp).regs.length = 32 := by show Pl.regs0.length = 32; decide
      unfold Pl.mSize
      rw [e1]
      show m.code.length + 32 + m.data.length + (List.replicate m.size.toNat (0 : Int)).length + inp.length + ([] : List Int).length ≤ 170000
      rw [List.length_replicate]
      simp only [List.length_nil]
      omega
    · refine ⟨?_, .inl (by show Pl.regs0.length = 32; decide)⟩
      unfold Pl.Nb
      show (-1099511627776 ≤ m.entry ∧ m.entry ≤ 1099511627776) ∧ (-1099511627776 ≤ (0 : Int) ∧ (0 : Int) ≤ 1099511627776) ∧ (-1099511627776 ≤ (0 : Int) ∧ (0 : Int) ≤ 1099511627776) ∧ (-1099511627776 ≤ (0 : Int) ∧ (0 : Int) ≤ 1099511627776)
      omega
set_option maxRecDepth 8000 in
set_option maxHeartbeats 8000000 in
theorem l3Machine_any (w : World) (c : Nat) (h : RdOk w c) : Calls Try.prog 21 #[.pointer (some ⟨c, 0, none⟩)] w fun e w' => ∃ (v : MV) (m : Pl.Mac), e = .returned (.agg #[.slice v.code.a v.code.len v.code.cap, .int .i64 m.pc, .slice v.regs.a v.regs.len v.regs.cap, .slice v.data.a v.data.len v.data.cap, .slice v.stk.a v.stk.len v.stk.cap, .slice v.inp.a v.inp.len v.inp.cap, .slice v.out.a v.out.len v.out.cap, .int .i64 m.steps, .int .i64 m.fin, .int .i64 m.val]) ∧ MOwn w.heap.size w' v m ∧ Pl.mSize m ≤ 200000 ∧ Pl.Nb m ∧ RdOk w' c ∧ OnlyB c w w' := by
  obtain ⟨i0, hi0, hz0, hz1, hz2⟩ := info_parts Try.infou8
  obtain ⟨j0, hj0, hy0, hy1, hy2⟩ := info_parts Try.infoi64
  have H0 : Hid (RdOk w c) := h
  have hcw : c < w.heap.size := h.lt
  clear h
  go_enter Try.func21, Try.ntmps21
  go_wp2_with fail
  refine (next_only _ c (H0.out.alloc _)).mono ?_
  rintro e u1 ⟨n, rfl, hn, r1, d1⟩
  have hres1 : u1.heap[w.heap.size]? = some (.cells #[.slice none 0 0, .int .i64 0, .slice none 0 0, .slice none 0 0, .slice none 0 0, .slice none 0 0, .slice none 0 0, .int .i64 0, .int .i64 0, .int .i64 0] 25) := by rw [d1.block _ (by simp) (by omega)]; exact heap_alloc_new w _
  have hs1 : w.heap.size + 1 ≤ u1.heap.size := by have := d1.size; simpa using this
  have H1 : Hid (RdOk u1 c ∧ OnlyB c w u1) := ⟨r1, (OnlyB.of_below (below_alloc w _)).trans d1⟩
  have R1 : Hid (u1.heap[w.heap.size]? = some (.cells #[.slice none 0 0, .int .i64 0, .slice none 0 0, .slice none 0 0, .slice none 0 0, .slice none 0 0, .slice none 0 0, .int .i64 0, .int .i64 0, .int .i64 0] 25)) := hres1
  clear r1 d1 H0 hres1
  go_wp2_with fail
  refine (l3Image_any u1 c H1.out.1).mono ?_
  rintro e u2 ⟨vi, mi, rfl, hio, lc, ld, en, sz, r2, d2⟩
  have hs2 : u1.heap.size ≤ u2.heap.size := d2.size
  have H2 : Hid (RdOk u2 c ∧ OnlyB c w u2 ∧ u2.heap[w.heap.size]? = some (.cells #[.slice none 0 0, .int .i64 0, .slice none 0 0, .slice none 0 0, .slice none 0 0, .slice none 0 0, .slice none 0 0, .int .i64 0, .int .i64 0, .int .i64 0] 25)) := ⟨r2, H1.out.2.trans d2, (d2.block _ (by omega) (by omega)).trans R1.out⟩
  have Iq : Hid (IOwn u1.heap.size u2 vi mi) := hio
  clear r2 d2 hio H1 R1
  go_wp2_with fail
  refine (l3Input_any u2 c H2.out.1).mono ?_
  rintro e u3 ⟨ia, il, ic, rfl, ⟨zs, hown⟩, hil, r3, d3⟩
  have hs3 : u2.heap.size ≤ u3.heap.size := d3.size
  have H3 : Hid (RdOk u3 c ∧ OnlyB c w u3 ∧ u3.heap[w.heap.size]? = some (.cells #[.slice none 0 0, .int .i64 0, .slice none 0 0, .slice none 0 0, .slice none 0 0, .slice none 0 0, .slice none 0 0, .int .i64 0, .int .i64 0, .int .i64 0] 25)) := ⟨r3, H2.out.2.1.trans d3, (d3.block _ (by omega) (by omega)).trans H2.out.2.2⟩
  have IO3 : Hid (IOwn u1.heap.size u3 vi mi) := ⟨Iq.out.1.othr fun i hi => d3.block i (Iq.out.1.at_ hi).2 (by have := Iq.out.1.at_ hi; omega), Iq.out.2.othr fun i hi => d3.block i (Iq.out.2.at_ hi).2 (by have := Iq.out.2.at_ hi; omega)⟩
  have HI : Hid (Own .u8 5 u2.heap.size u3 ia il ic zs) := hown
  clear r3 d3 hown H2 Iq
  go_wp2_with fail
  refine (start_any vi mi ia il ic zs u3 IO3.out HI.out en hil).mono ?_
  rintro e u4 ⟨v1, m1, ok, rfl, hm1, hz1', hnb1, d4⟩
  have hs4 : u3.heap.size ≤ u4.heap.size := d4.size
  have H4 : Hid (RdOk u4 c ∧ OnlyB c w u4 ∧ u4.heap[w.heap.size]? = some (.cells #[.slice none 0 0, .int .i64 0, .slice none 0 0, .slice none 0 0, .slice none 0 0, .slice none 0 0, .slice none 0 0, .int .i64 0, .int .i64 0, .int .i64 0] 25)) := ⟨H3.out.1.keep d4 (by omega), H3.out.2.1.trans (OnlyB.of_below d4), (d4.block _ (by omega)).trans H3.out.2.2⟩
  have M4 : Hid (MIs 0 u4 v1 m1 ∧ Pl.mSize m1 ≤ 170000 ∧ Pl.Nb m1 ∧ Pl.R32 m1) := ⟨hm1, hz1', hnb1⟩
  clear hm1 hz1' hnb1 d4 H3 IO3 HI
  obtain ⟨q16, e16, h16⟩ : ∃ q : Nat, ((n : Int).tmod 16) = (q : Int) ∧ q ≤ 15 := ⟨n % 16, by rw [Int.tmod_eq_emod_of_nonneg (by omega)]; omega, by omega⟩
  go_wp2_with fail
  refine (specRun_any v1 m1 _ (M4.out.1.keep (below_alloc _ _)) (by have := M4.out.2.1; omega) (q16 : Int) (by omega)).mono ?_
  rintro e u5 ⟨v, m, hmm, rfl, hown5, hsep, d5⟩
  have hbm : ∀ x ∈ m1.inp, 0 ≤ x ∧ x ≤ 255 := fun x hx => Pl.u8_bd (M4.out.1.2.2.2.2.1.2.2.2.1 x hx)
  have hsm := Pl.runM_small hbm M4.out.2.1 M4.out.2.2.1 M4.out.2.2.2 (q16 : Int)
  rw [← hmm] at hsm
  have hg5 : u5.heap[u4.heap.size]? = some (.cells #[.slice v1.code.a v1.code.len v1.code.cap, .int .i64 m1.pc, .slice v1.regs.a v1.regs.len v1.regs.cap, .slice v1.data.a v1.data.len v1.data.cap, .slice v1.stk.a v1.stk.len v1.stk.cap, .slice v1.inp.a v1.inp.len v1.inp.cap, .slice v1.out.a v1.out.len v1.out.cap, .int .i64 m1.steps, .int .i64 m1.fin, .int .i64 m1.val] 25) := (d5.block _ (by simp)).trans (heap_alloc_new u4 _)
  have hl5 : u4.heap.size + 1 ≤ u5.heap.size := by have := d5.size; simpa using this
  have D5 : Hid (Below u4.heap.size u4 u5) := (below_alloc u4 _).trans (d5.mono (by simp))
  have HG5 : Hid (u5.heap[u4.heap.size]? = some (.cells #[.slice v1.code.a v1.code.len v1.code.cap, .int .i64 m1.pc, .slice v1.regs.a v1.regs.len v1.regs.cap, .slice v1.data.a v1.data.len v1.data.cap, .slice v1.stk.a v1.stk.len v1.stk.cap, .slice v1.inp.a v1.inp.len v1.inp.cap, .slice v1.out.a v1.out.len v1.out.cap, .int .i64 m1.steps, .int .i64 m1.fin, .int .i64 m1.val] 25)) := hg5
  have Z6 : Hid (ZMid w c u4.heap.size v m (u5.setRow u4.heap.size #[.slice v.code.a v.code.len v.code.cap, .int .i64 m.pc, .slice v.regs.a v.regs.len v.regs.cap, .slice v.data.a v.data.len v.data.cap, .slice v.stk.a v.stk.len v.stk.cap, .slice v.inp.a v.inp.len v.inp.cap, .slice v.out.a v.out.len v.out.cap, .int .i64 m.steps, .int .i64 m.fin, .int .i64 m.val]) ∧ Apart u4.heap.size v ∧ Pl.mSize m ≤ 170000 ∧ Pl.R32 m) := by
    have hO : MOwn (w.heap.size + 1) u5 v m := ⟨hown5.1.lower (by simp; omega), hown5.2.1.lower (by simp; omega), hown5.2.2.1.lower (by simp; omega), hown5.2.2.2.1.lower (by simp; omega), hown5.2.2.2.2.1.lower (by simp; omega), hown5.2.2.2.2.2.lower (by simp; omega)⟩
    have hne : ∀ j x, 1 ≤ j → (blks u4.heap.size v)[j]? = some (some x) → x ≠ u4.heap.size := fun j x hj hx => by have := (mown_blk hown5 u4.heap.size j x hj hx).1; simp at this; omega
    have hap : Apart u4.heap.size v := by
      have h7 := sep_apart hsep u5.heap.size (fun j x hj hx => by
        rcases j with _ | j
        · omega
        · exact (mown_blk hown5 u4.heap.size (j + 1) x (by omega) (by simpa [blks] using hx)).2)
      intro i j hi hj hij x hx hx2
      by_cases i0 : i = 0
      · subst i0
        have : x = u4.heap.size := by simpa [blks] using hx.symm
        exact hne j x (by omega) hx2 this
      · by_cases j0 : j = 0
        · subst j0
          have : x = u4.heap.size := by simpa [blks] using hx2.symm
          exact hne i x (by omega) hx this
        · refine h7 i j hi hj hij x ?_ ?_
          · rcases i with _ | i
            · omega
            · simpa [blks] using hx
          · rcases j with _ | j
            · omega
            · simpa [blks] using hx2
    have hk : ∀ y, y ≠ u4.heap.size → (u5.setRow u4.heap.size #[.slice v.code.a v.code.len v.code.cap, .int .i64 m.pc, .slice v.regs.a v.regs.len v.regs.cap, .slice v.data.a v.data.len v.data.cap, .slice v.stk.a v.stk.len v.stk.cap, .slice v.inp.a v.inp.len v.inp.cap, .slice v.out.a v.out.len v.out.cap, .int .i64 m.steps, .int .i64 m.fin, .int .i64 m.val]).heap[y]? = u5.heap[y]? := fun y hy => setRow_other u5 u4.heap.size y _ hy
    have hb5 : OnlyB c u4 u5 := OnlyB.of_below D5.out
    refine ⟨⟨setRow_heap u5 u4.heap.size _ _ _ (0, 0) HG5.out, (hk _ (by omega)).trans ((D5.out.block _ (by omega)).trans H4.out.2.2), ⟨hO.1.other fun y hy => hk y (hne 1 y (by decide) (by rw [← hy]; rfl)), hO.2.1.other fun y hy => hk y (hne 2 y (by decide) (by rw [← hy]; rfl)), hO.2.2.1.other fun y hy => hk y (hne 3 y (by decide) (by rw [← hy]; rfl)), hO.2.2.2.1.other fun y hy => hk y (hne 4 y (by decide) (by rw [← hy]; rfl)), hO.2.2.2.2.1.other fun y hy => hk y (hne 5 y (by decide) (by rw [← hy]; rfl)), hO.2.2.2.2.2.other fun y hy => hk y (hne 6 y (by decide) (by rw [← hy]; rfl))⟩, ?_, ?_, by omega, hcw, by omega, hsm.2.1.1, hsm.2.1.2.1, hsm.2.1.2.2.1, hsm.2.1.2.2.2⟩, hap, hsm.1, hsm.2.2⟩
    · exact (H4.out.1.keep D5.out (by omega)).setRowOther (r := u4.heap.size) (g := u4.heap.size + 1) (by omega) (by omega) _
    · exact (H4.out.2.1.trans hb5).low (below_setRow' (Below.refl _ _) (by omega) _)
  clear hmm hown5 hsep d5 hbm hsm hg5 H4 M4
  go_upto_region 4 with (refine wpList_store_row rfl 25 _ _ rfl u4.heap.size #[.slice v.code.a v.code.len v.code.cap, .int .i64 m.pc, .slice v.regs.a v.regs.len v.regs.cap, .slice v.data.a v.data.len v.data.cap, .slice v.stk.a v.stk.len v.stk.cap, .slice v.inp.a v.inp.len v.inp.cap, .slice v.out.a v.out.len v.out.cap, .int .i64 m.steps, .int .i64 m.fin, .int .i64 m.val] ?hx ?hy 25 #[.slice v1.code.a v1.code.len v1.code.cap, .int .i64 m1.pc, .slice v1.regs.a v1.regs.len v1.regs.cap, .slice v1.data.a v1.data.len v1.data.cap, .slice v1.stk.a v1.stk.len v1.stk.cap, .slice v1.inp.a v1.inp.len v1.inp.cap, .slice v1.out.a v1.out.len v1.out.cap, .int .i64 m1.steps, .int .i64 m1.fin, .int .i64 m1.val] ?hg ?hi ?ho ?h1 ?_; (case hx => rfl); (case hy => rfl); (case hg => exact HG5.out); (case hi => kernel_rfl); (case ho => kernel_rfl); (case h1 => kernel_rfl))
  obtain ⟨u6, hu6⟩ : ∃ u, u5.setRow u4.heap.size #[.slice v.code.a v.code.len v.code.cap, .int .i64 m.pc, .slice v.regs.a v.regs.len v.regs.cap, .slice v.data.a v.data.len v.data.cap, .slice v.stk.a v.stk.len v.stk.cap, .slice v.inp.a v.inp.len v.inp.cap, .slice v.out.a v.out.len v.out.cap, .int .i64 m.steps, .int .i64 m.fin, .int .i64 m.val] = u := ⟨_, rfl⟩
  rw [hu6] at Z6 ⊢
  clear hu6 HG5 D5
  obtain ⟨g, hg⟩ : ∃ g, g = u4.heap.size := ⟨_, rfl⟩
  rw [← hg] at Z6 ⊢
  clear hg hl5
  have Z : Hid (ZMid w c g v m u6) := Z6.out.1
  have AP : Hid (Apart g v) := Z6.out.2.1
  have HSZ : Hid (Pl.mSize m ≤ 170000) := Z6.out.2.2.1
  have HR32 : Hid (Pl.R32 m) := Z6.out.2.2.2
  clear Z6
  have hnn : (n : Int) ≤ 255 := by omega
  have hrl : (v.regs.len : Int) ≤ 200000 := by have h1 := Z.out.own.2.1.row.1; have h2 := HSZ.out; unfold Pl.mSize at h2; omega
  have kc : ∀ j, u6.cell? ⟨g, j, none⟩ = (#[.slice v.code.a v.code.len v.code.cap, .int .i64 m.pc, .slice v.regs.a v.regs.len v.regs.cap, .slice v.data.a v.data.len v.data.cap, .slice v.stk.a v.stk.len v.stk.cap, .slice v.inp.a v.inp.len v.inp.cap, .slice v.out.a v.out.len v.out.cap, .int .i64 m.steps, .int .i64 m.fin, .int .i64 m.val] : Array Value)[j]? := fun j => Z.out.cell j
  dsimp only [Act.put]
  go_cut [4, 29] from 8 to 109 (fun s4 s29 wx => s4 = .pointer (some ⟨g, 0, none⟩) ∧ (∃ B : Bool, s29 = .bool B ∧ (B = true → 1 ≤ v.regs.len)) ∧ wx = u6)
  case first =>
    by_cases h224 : 224 ≤ n
    · have h224' : (224 : Int) ≤ (n : Int) := by omega
      by_cases hr0 : 0 < v.regs.len
      · have hr0' : (0 : Int) < (v.regs.len : Int) := by omega
        go_wp2_with fail
        go_meet
        exact ⟨rfl, ⟨_, rfl, fun _ => hr0⟩, rfl⟩
      · have hr0' : ¬ (0 : Int) < (v.regs.len : Int) := by omega
        go_wp2_with fail
        go_meet
        exact ⟨rfl, ⟨_, rfl, fun q => absurd q (by simp)⟩, rfl⟩
    · have h224' : ¬ (224 : Int) ≤ (n : Int) := by omega
      go_wp2_with fail
      go_meet
      exact ⟨rfl, ⟨_, rfl, fun q => absurd q (by simp)⟩, rfl⟩
  case rest =>
  obtain ⟨rfl, ⟨B, rfl, hB⟩, hwc⟩ := hcut
  rw [hwc]
  clear hwc kc
  go_upto_if 29 with fail
  go_cut [4] from 6 to 109 (fun s4 wx => s4 = .pointer (some ⟨g, 0, none⟩) ∧ ∃ v m, ZMid w c g v m wx)
  case first =>
    cases B
    · go_wp2_with fail
      go_meet
      exact ⟨rfl, v, m, Z.out⟩
    · have h32 : v.regs.len = 32 := by
        have h1 := Z.out.own.2.1.row.1
        have h2 := hB rfl
        rcases HR32.out with h3 | h3
        · omega
        · omega
      clear hB
      obtain ⟨r, rc, hreg, hrc, hrf⟩ : ∃ r rc, v.regs = ⟨some ⟨r, 0, none⟩, 32, rc⟩ ∧ (∀ u : World, ∀ q, ZMid w c g v m u → q < 32 → ∃ y, u.cell? ⟨r, q, none⟩ = some (.int .i64 y)) ∧ (∀ u : World, ∀ q, ZMid w c g v m u → u.frozen? ⟨r, q, none⟩ = false) := by
        have ho := Z.out.own.2.1.1
        have hl0 := Z.out.own.2.1.row.1
        have key : ∀ u : World, ZMid w c g v m u → u.ownsRow (w.heap.size + 1) 3 1 (.slice v.regs.a v.regs.len v.regs.cap) v.regs.len (m.regs.map (Value.int .i64)) := fun u hu => hu.own.2.1.1
        generalize v.regs = sv at ho h32 hl0 key ⊢
        obtain ⟨a, len, cap⟩ := sv
        dsimp only at ho h32 hl0 key
        subst h32
        rcases ho.2 with ⟨_, h1⟩ | ⟨r, c', cur, h0, _⟩
        · omega
        · simp only [Value.slice.injEq] at h0
          obtain ⟨rfl, _, rfl⟩ := h0
          refine ⟨r, cap, rfl, fun u q hu hq => ?_, fun u q hu => (key u hu).frozenAt q⟩
          have := (key u hu).cellAt q (by omega)
          rw [this, List.getElem?_map, List.getElem?_eq_getElem (by omega)]
          exact ⟨_, rfl⟩
      have HREG : Hid (v.regs = ⟨some ⟨r, 0, none⟩, 32, rc⟩) := hreg
      have HRC : Hid ((∀ u : World, ∀ q, ZMid w c g v m u → q < 32 → ∃ y, u.cell? ⟨r, q, none⟩ = some (.int .i64 y)) ∧ (∀ u : World, ∀ q, ZMid w c g v m u → u.frozen? ⟨r, q, none⟩ = false)) := ⟨hrc, hrf⟩
      clear hreg h32 hrc hrf
      go_wp2_with fail
      refine (next_only u6 c Z.out.rd).mono ?_
      rintro e u7 ⟨x, rfl, hx, r7, d7⟩
      have Z7 : Hid (ZMid w c g v m u7) := Z.out.only r7 d7
      clear r7 d7 Z
      have hx' : (x : Int) ≤ 255 := by omega
      obtain ⟨q9, e9, h9⟩ : ∃ q : Nat, ((x : Int).tmod 9) = (q : Int) ∧ q ≤ 8 := ⟨x % 9, by rw [Int.tmod_eq_emod_of_nonneg (by omega)]; omega, by omega⟩
      obtain ⟨y9, f9, g9⟩ : ∃ y : Nat, ((x : Int).tdiv 9) = (y : Int) ∧ y ≤ 28 := ⟨x / 9, by rw [Int.tdiv_eq_ediv_of_nonneg (by omega)]; omega, by omega⟩
      have kc : ∀ j, u7.cell? ⟨g, j, none⟩ = (#[.slice v.code.a v.code.len v.code.cap, .int .i64 m.pc, .slice v.regs.a v.regs.len v.regs.cap, .slice v.data.a v.data.len v.data.cap, .slice v.stk.a v.stk.len v.stk.cap, .slice v.inp.a v.inp.len v.inp.cap, .slice v.out.a v.out.len v.out.cap, .int .i64 m.steps, .int .i64 m.fin, .int .i64 m.val] : Array Value)[j]? := fun j => Z7.out.cell j
      have kf : ∀ j, u7.frozen? ⟨g, j, none⟩ = false := fun j => Z7.out.frz j
      have kca : ∀ o j, (u7.alloc o).cell? ⟨g, j, none⟩ = (#[.slice v.code.a v.code.len v.code.cap, .int .i64 m.pc, .slice v.regs.a v.regs.len v.regs.cap, .slice v.data.a v.data.len v.data.cap, .slice v.stk.a v.stk.len v.stk.cap, .slice v.inp.a v.inp.len v.inp.cap, .slice v.out.a v.out.len v.out.cap, .int .i64 m.steps, .int .i64 m.fin, .int .i64 m.val] : Array Value)[j]? := fun o j => (Z7.out.alloc o).cell j
      have kfa : ∀ o j, (u7.alloc o).frozen? ⟨g, j, none⟩ = false := fun o j => (Z7.out.alloc o).frz j
      rcases (show q9 = 0 ∨ q9 = 1 ∨ q9 = 2 ∨ q9 = 3 ∨ q9 = 4 ∨ q9 = 5 ∨ q9 = 6 ∨ q9 = 7 ∨ q9 = 8 by omega) with rfl | rfl | rfl | rfl | rfl | rfl | rfl | rfl | rfl
      rotate_left
      · obtain ⟨p4, ep4, hp4⟩ : ∃ q : Nat, ((y9 : Int).tmod 4) = (q : Int) ∧ q ≤ 3 := ⟨y9 % 4, by rw [Int.tmod_eq_emod_of_nonneg (by omega)]; omega, by omega⟩
        rcases (show p4 = 0 ∨ p4 = 1 ∨ p4 = 2 ∨ p4 = 3 by omega) with rfl | rfl | rfl | rfl
        all_goals
          go_wp2_with fail
          go_meet
          exact ⟨rfl, v, _, (Z7.out.alloc _).setPc AP.out _ (by decide)⟩
      · have hlen : v.regs.len ≤ 200000 := by have h1 := Z7.out.own.2.1.row.1; have h2 := HSZ.out; unfold Pl.mSize at h2; omega
        have HLEN : Hid (v.regs.len ≤ 200000) := hlen
        go_wp2_with (at_builtin; refine wpList_append_lies _ rfl (.tmp 59) (.tmp 60) 23 rfl (w.heap.size + 1) 3 j0 (.int .i64 0) 1 8 Try.underlying23 hj0 hy0 hy1 hy2 rfl (by decide) (.slice v.regs.a v.regs.len v.regs.cap) v.regs.len (m.regs.map (Value.int .i64)) rfl (Z7.out.own.2.1.1.alloc _) ⟨u7.heap.size, 0, none⟩ 1 1 [.int .i64 0] rfl rfl (int_news u7 _) (by intro u hu; simp at hu; subst hu; rfl) (by decide) (by have := HLEN.out; unfold maxLen; omega) (by have := HLEN.out; omega) (by have := Z7.out.lt; have := Z7.out.rg; simp; omega) _ rfl ?_; intro G cp w1 hown1 hgrow hat hlt; have hbx := Z7.out.farRegs AP.out (below_alloc _ _) hgrow; have q1 : ∀ j, w1.cell? ⟨g, j, none⟩ = (#[.slice v.code.a v.code.len v.code.cap, .int .i64 m.pc, .slice v.regs.a v.regs.len v.regs.cap, .slice v.data.a v.data.len v.data.cap, .slice v.stk.a v.stk.len v.stk.cap, .slice v.inp.a v.inp.len v.inp.cap, .slice v.out.a v.out.len v.out.cap, .int .i64 m.steps, .int .i64 m.fin, .int .i64 m.val] : Array Value)[j]? := (fun j => cell_of_row w1 g j _ 25 (0, 0) hbx); have qf : ∀ j, w1.frozen? ⟨g, j, none⟩ = false := (fun j => frozen_of_row w1 g j _ 25 hbx); have HG : Hid (ZMid w c g { v with regs := ⟨some ⟨G, 0, none⟩, v.regs.len + 1, cp⟩ } { m with regs := m.regs ++ [0] } (w1.setCell ⟨g, 2, none⟩ (.slice (some ⟨G, 0, none⟩) (v.regs.len + 1) cp))) := Z7.out.grewRegs AP.out (below_alloc _ _) 0 (by decide) hown1 hgrow hat (by have := HSZ.out; omega); clear hown1 hgrow hat hbx)
        go_meet
        exact ⟨rfl, _, _, HG.out⟩
      · obtain ⟨p4, ep4, hp4⟩ : ∃ q : Nat, ((y9 : Int).tmod 4) = (q : Int) ∧ q ≤ 3 := ⟨y9 % 4, by rw [Int.tmod_eq_emod_of_nonneg (by omega)]; omega, by omega⟩
        rcases (show p4 = 0 ∨ p4 = 1 ∨ p4 = 2 ∨ p4 = 3 by omega) with rfl | rfl | rfl | rfl
        all_goals
          go_wp2_with fail
          go_meet
          exact ⟨rfl, v, _, (Z7.out.alloc _).setSteps AP.out _ (by decide)⟩
      · obtain ⟨q6, e6, h6⟩ : ∃ q : Nat, ((y9 : Int).tmod 6) = (q : Int) ∧ q ≤ 5 := ⟨y9 % 6, by rw [Int.tmod_eq_emod_of_nonneg (by omega)]; omega, by omega⟩
        go_wp2_with fail
        go_meet
        exact ⟨rfl, v, _, Z7.out.setFin AP.out _ (by omega)⟩
      · obtain ⟨p3, ep3, hp3⟩ : ∃ q : Nat, ((y9 : Int).tmod 3) = (q : Int) ∧ q ≤ 2 := ⟨y9 % 3, by rw [Int.tmod_eq_emod_of_nonneg (by omega)]; omega, by omega⟩
        rcases (show p3 = 0 ∨ p3 = 1 ∨ p3 = 2 by omega) with rfl | rfl | rfl
        all_goals
          go_wp2_with fail
          go_meet
          exact ⟨rfl, v, _, (Z7.out.alloc _).setVal AP.out _ (by decide)⟩
      · have hlen : v.stk.len ≤ 200000 := by have h1 := Z7.out.own.2.2.2.1.row.1; have h2 := HSZ.out; unfold Pl.mSize at h2; omega
        have HLEN : Hid (v.stk.len ≤ 200000) := hlen
        go_wp2_with (at_builtin; refine wpList_append_lies _ rfl (.tmp 91) (.tmp 92) 22 rfl (w.heap.size + 1) 5 i0 (.int .u8 0) 1 1 Try.underlying22 hi0 hz0 hz1 hz2 rfl (by decide) (.slice v.stk.a v.stk.len v.stk.cap) v.stk.len (m.stk.map (Value.int .u8)) rfl (Z7.out.own.2.2.2.1.1.alloc _) ⟨u7.heap.size, 0, none⟩ 1 1 [.int .u8 0] rfl rfl (byte_news u7 _) (by intro u hu; simp at hu; subst hu; rfl) (by decide) (by have := HLEN.out; unfold maxLen; omega) (by have := HLEN.out; omega) (by have := Z7.out.lt; have := Z7.out.rg; simp; omega) _ rfl ?_; intro G cp w1 hown1 hgrow hat hlt; have hbx := Z7.out.farStk AP.out (below_alloc _ _) hgrow; have q1 : ∀ j, w1.cell? ⟨g, j, none⟩ = (#[.slice v.code.a v.code.len v.code.cap, .int .i64 m.pc, .slice v.regs.a v.regs.len v.regs.cap, .slice v.data.a v.data.len v.data.cap, .slice v.stk.a v.stk.len v.stk.cap, .slice v.inp.a v.inp.len v.inp.cap, .slice v.out.a v.out.len v.out.cap, .int .i64 m.steps, .int .i64 m.fin, .int .i64 m.val] : Array Value)[j]? := (fun j => cell_of_row w1 g j _ 25 (0, 0) hbx); have qf : ∀ j, w1.frozen? ⟨g, j, none⟩ = false := (fun j => frozen_of_row w1 g j _ 25 hbx); have HG : Hid (ZMid w c g { v with stk := ⟨some ⟨G, 0, none⟩, v.stk.len + 1, cp⟩ } { m with stk := m.stk ++ [0] } (w1.setCell ⟨g, 4, none⟩ (.slice (some ⟨G, 0, none⟩) (v.stk.len + 1) cp))) := Z7.out.grewStk AP.out (below_alloc _ _) 0 (by decide) hown1 hgrow hat (by have := HSZ.out; omega); clear hown1 hgrow hat hbx)
        go_meet
        exact ⟨rfl, _, _, HG.out⟩
      · obtain ⟨q2, e2, h2⟩ : ∃ q : Nat, ((y9 : Int).tmod 3) = (q : Int) ∧ q ≤ 2 := ⟨y9 % 3, by rw [Int.tmod_eq_emod_of_nonneg (by omega)]; omega, by omega⟩
        obtain ⟨L, hL, hLe⟩ : ∃ L : Nat, L ≤ 10001 ∧ (9999 : Int) + (q2 : Int) = (L : Int) := ⟨9999 + q2, by omega, by omega⟩
        have hm : ∀ u : World, (Instr.makeSlice 22 (.int .i64 (L : Int)) (.int .i64 (L : Int))).run Try.prog u = .ok (.slice (some ⟨u.heap.size, 0, none⟩) L L) (u.alloc (.cells (madeCells (Value.int .u8 0).cells (L * 1)) 5)) := fun u => by
          have := run_makeSlice u 22 5 i0 _ Try.underlying22 hi0 hz0 .i64 .i64 (L : Int) (L : Int) (by omega) (by omega) (by rw [hz1]; simp; omega) (by rw [hz2]; omega) (by omega)
          rw [hz1, Int.toNat_natCast] at this
          exact this
        have HZ : Hid (Own .u8 5 (w.heap.size + 1) (u7.alloc (.cells (madeCells (Value.int .u8 0).cells (L * 1)) 5)) (some ⟨u7.heap.size, 0, none⟩) L L (List.replicate L 0)) := by
          have hz : (madeCells (Value.int .u8 0).cells (L * 1)).toList = (List.replicate L (0 : Int)).map (Value.int .u8) := by
            rw [show (Value.int .u8 0).cells = #[Value.int .u8 0] from rfl, Nat.mul_one, toList_madeCells_one, List.map_replicate]
          refine ⟨?_, fun x hx => by rw [List.eq_of_mem_replicate hx]; rfl⟩
          rw [← hz]
          exact World.ownsRow_lit u7 _ L (by have := Z7.out.lt; have := Z7.out.rg; omega) (by unfold maxLen; omega) (by rw [← Array.length_toList, hz]; simp)
        generalize madeCells (Value.int .u8 0).cells (L * 1) = Z at *
        go_wp2_with fail
        go_meet
        exact ⟨rfl, _, _, Z7.out.setOut AP.out ⟨some ⟨u7.heap.size, 0, none⟩, L, L⟩ _ HZ.out (fun b hb _ => Below.heap_alloc _ _ _ hb) ((below_alloc u7 _).mono (by have := Z7.out.lt; have := Z7.out.rg; omega)) (fun x hx => .inr (by cases hx; exact Nat.le_refl _)) (by rw [List.length_replicate]; omega) (by have := HSZ.out; omega)⟩
      · obtain ⟨q2, e2, h2⟩ : ∃ q : Nat, ((y9 : Int).tmod 2) = (q : Int) ∧ q ≤ 1 := ⟨y9 % 2, by rw [Int.tmod_eq_emod_of_nonneg (by omega)]; omega, by omega⟩
        obtain ⟨L, hL, hLe⟩ : ∃ L : Nat, L ≤ 10001 ∧ (10000 : Int) + (q2 : Int) = (L : Int) := ⟨10000 + q2, by omega, by omega⟩
        have hm : ∀ u : World, (Instr.makeSlice 22 (.int .i64 (L : Int)) (.int .i64 (L : Int))).run Try.prog u = .ok (.slice (some ⟨u.heap.size, 0, none⟩) L L) (u.alloc (.cells (madeCells (Value.int .u8 0).cells (L * 1)) 5)) := fun u => by
          have := run_makeSlice u 22 5 i0 _ Try.underlying22 hi0 hz0 .i64 .i64 (L : Int) (L : Int) (by omega) (by omega) (by rw [hz1]; simp; omega) (by rw [hz2]; omega) (by omega)
          rw [hz1, Int.toNat_natCast] at this
          exact this
        have HZ : Hid (Own .u8 5 (w.heap.size + 1) (u7.alloc (.cells (madeCells (Value.int .u8 0).cells (L * 1)) 5)) (some ⟨u7.heap.size, 0, none⟩) L L (List.replicate L 0)) := by
          have hz : (madeCells (Value.int .u8 0).cells (L * 1)).toList = (List.replicate L (0 : Int)).map (Value.int .u8) := by
            rw [show (Value.int .u8 0).cells = #[Value.int .u8 0] from rfl, Nat.mul_one, toList_madeCells_one, List.map_replicate]
          refine ⟨?_, fun x hx => by rw [List.eq_of_mem_replicate hx]; rfl⟩
          rw [← hz]
          exact World.ownsRow_lit u7 _ L (by have := Z7.out.lt; have := Z7.out.rg; omega) (by unfold maxLen; omega) (by rw [← Array.length_toList, hz]; simp)
        generalize madeCells (Value.int .u8 0).cells (L * 1) = Z at *
        go_wp2_with fail
        go_meet
        exact ⟨rfl, _, _, Z7.out.setInp AP.out ⟨some ⟨u7.heap.size, 0, none⟩, L, L⟩ _ HZ.out (fun b hb _ => Below.heap_alloc _ _ _ hb) ((below_alloc u7 _).mono (by have := Z7.out.lt; have := Z7.out.rg; omega)) (fun x hx => .inr (by cases hx; exact Nat.le_refl _)) (by rw [List.length_replicate]; omega) (by have := HSZ.out; omega)⟩
      · have k2 : u7.cell? ⟨g, 2, none⟩ = some (.slice (some ⟨r, 0, none⟩) 32 rc) := by have := kc 2; rw [HREG.out] at this; exact this
        have k2a : ∀ o, (u7.alloc o).cell? ⟨g, 2, none⟩ = some (.slice (some ⟨r, 0, none⟩) 32 rc) := fun o => by have := kca o 2; rw [HREG.out] at this; exact this
        obtain ⟨yv, hyv⟩ := HRC.out.1 u7 y9 Z7.out (by omega)
        have kra : ∀ o, (u7.alloc o).cell? ⟨r, y9, none⟩ = some (.int .i64 yv) := fun o => fl_alloc hyv o
        have krf : ∀ o, (u7.alloc o).frozen? ⟨r, y9, none⟩ = false := fun o => HRC.out.2 _ y9 (Z7.out.alloc o)
        have hw9 : IntKind.i64.wrap (y9 : Int) = (y9 : Int) := by rw [IntKind.wrap_i64]; omega
        have l9 : (y9 : Int) < 32 := by omega
        obtain ⟨q3, e3, h3⟩ : ∃ q : Nat, ((y9 : Int).tmod 3) = (q : Int) ∧ q ≤ 2 := ⟨y9 % 3, by rw [Int.tmod_eq_emod_of_nonneg (by omega)]; omega, by omega⟩
        clear kc kf kca kfa
        have hgr : ¬ r = g := AP.out.ne 2 (by decide) (by decide) (show (blks g v)[2]? = some (some r) by simp [blks, HREG.out])
        have hgr2 : ¬ g = r := fun e => hgr e.symm
        have hlg : g < u7.heap.size := Z7.out.lt
        have hnw := World.new_ne u7 ⟨g, 2, none⟩ k2
        rcases (show q3 = 0 ∨ q3 = 1 ∨ q3 = 2 by omega) with rfl | rfl | rfl
        · replace e3 : (y9 : Int).tmod 3 = 0 := e3
          go_wp2_with fail
          go_region_with fail
          all_goals
            go_wp2_with fail
            go_meet
            exact ⟨rfl, v, _, ((Z7.out.alloc _).setReg AP.out (by rw [HREG.out]) y9 _ (i64_wf (by decide))).drew⟩
        · replace e3 : (y9 : Int).tmod 3 = 1 := e3
          go_wp2_with fail
          go_region_with fail
          all_goals
            go_wp2_with fail
            go_meet
            exact ⟨rfl, v, _, ((Z7.out.alloc _).setReg AP.out (by rw [HREG.out]) y9 _ (i64_wf (by decide))).drew⟩
        · replace e3 : (y9 : Int).tmod 3 = 2 := e3
          go_wp2_with fail
          go_region_with fail
          all_goals
            go_wp2_with fail
            go_meet
            exact ⟨rfl, v, _, ((Z7.out.alloc _).setReg AP.out (by rw [HREG.out]) y9 _ (i64_wf (by decide))).drew⟩
  case rest =>
  obtain ⟨rfl, v2, m2, hM2⟩ := hcut
  obtain ⟨u8, hu8⟩ : ∃ u : World, u = wc := ⟨wc, rfl⟩
  rw [← hu8] at hM2 ⊢
  have M8 : Hid (ZMid w c g v2 m2 u8) := hM2
  have BX : Hid (u8.heap[g]? = some (.cells #[.slice v2.code.a v2.code.len v2.code.cap, .int .i64 m2.pc, .slice v2.regs.a v2.regs.len v2.regs.cap, .slice v2.data.a v2.data.len v2.data.cap, .slice v2.stk.a v2.stk.len v2.stk.cap, .slice v2.inp.a v2.inp.len v2.inp.cap, .slice v2.out.a v2.out.len v2.out.cap, .int .i64 m2.steps, .int .i64 m2.fin, .int .i64 m2.val] 25)) := hM2.box
  have RS : Hid (u8.heap[w.heap.size]? = some (.cells #[.slice none 0 0, .int .i64 0, .slice none 0 0, .slice none 0 0, .slice none 0 0, .slice none 0 0, .slice none 0 0, .int .i64 0, .int .i64 0, .int .i64 0] 25)) := hM2.res
  clear hM2 hu8
  go_wp2_with (first | (refine wpList_load_row rfl 25 _ rfl g ?hx 25 #[.slice v2.code.a v2.code.len v2.code.cap, .int .i64 m2.pc, .slice v2.regs.a v2.regs.len v2.regs.cap, .slice v2.data.a v2.data.len v2.data.cap, .slice v2.stk.a v2.stk.len v2.stk.cap, .slice v2.inp.a v2.inp.len v2.inp.cap, .slice v2.out.a v2.out.len v2.out.cap, .int .i64 m2.steps, .int .i64 m2.fin, .int .i64 m2.val] (0, 0) _ ?hg Try.underlying25 ?hd ?hi ?_; (case hx => rfl); (case hg => exact BX.out); (case hd => rfl); (case hi => kernel_rfl)) | (refine wpList_store_row rfl 25 _ _ rfl w.heap.size #[.slice v2.code.a v2.code.len v2.code.cap, .int .i64 m2.pc, .slice v2.regs.a v2.regs.len v2.regs.cap, .slice v2.data.a v2.data.len v2.data.cap, .slice v2.stk.a v2.stk.len v2.stk.cap, .slice v2.inp.a v2.inp.len v2.inp.cap, .slice v2.out.a v2.out.len v2.out.cap, .int .i64 m2.steps, .int .i64 m2.fin, .int .i64 m2.val] ?hx ?hy 25 #[.slice none 0 0, .int .i64 0, .slice none 0 0, .slice none 0 0, .slice none 0 0, .slice none 0 0, .slice none 0 0, .int .i64 0, .int .i64 0, .int .i64 0] ?hg ?hi ?ho ?h1 ?_; (case hx => rfl); (case hy => rfl); (case hg => exact RS.out); (case hi => kernel_rfl); (case ho => kernel_rfl); (case h1 => kernel_rfl)))
  have hA : Above (w.heap.size + 1) u8 (u8.setRow w.heap.size #[.slice v2.code.a v2.code.len v2.code.cap, .int .i64 m2.pc, .slice v2.regs.a v2.regs.len v2.regs.cap, .slice v2.data.a v2.data.len v2.data.cap, .slice v2.stk.a v2.stk.len v2.stk.cap, .slice v2.inp.a v2.inp.len v2.inp.cap, .slice v2.out.a v2.out.len v2.out.cap, .int .i64 m2.steps, .int .i64 m2.fin, .int .i64 m2.val]) := (Above.refl _ _).setRow (by omega) _
  have ho := M8.out.own
  refine bodyPost_ret (v := .agg #[.slice v2.code.a v2.code.len v2.code.cap, .int .i64 m2.pc, .slice v2.regs.a v2.regs.len v2.regs.cap, .slice v2.data.a v2.data.len v2.data.cap, .slice v2.stk.a v2.stk.len v2.stk.cap, .slice v2.inp.a v2.inp.len v2.inp.cap, .slice v2.out.a v2.out.len v2.out.cap, .int .i64 m2.steps, .int .i64 m2.fin, .int .i64 m2.val]) ?_ rfl ⟨v2, m2, rfl, ⟨(ho.1.same hA (Nat.le_refl _)).lower (by omega), (ho.2.1.same hA (Nat.le_refl _)).lower (by omega), (ho.2.2.1.same hA (Nat.le_refl _)).lower (by omega), (ho.2.2.2.1.same hA (Nat.le_refl _)).lower (by omega), (ho.2.2.2.2.1.same hA (Nat.le_refl _)).lower (by omega), (ho.2.2.2.2.2.same hA (Nat.le_refl _)).lower (by omega)⟩, M8.out.sz, ⟨M8.out.pc, M8.out.st, M8.out.fi, M8.out.va⟩, ?_, ?_⟩
  · exact results_cell_row Try.results21 _ _ w.heap.size 25 #[.slice v2.code.a v2.code.len v2.code.cap, .int .i64 m2.pc, .slice v2.regs.a v2.regs.len v2.regs.cap, .slice v2.data.a v2.data.len v2.data.cap, .slice v2.stk.a v2.stk.len v2.stk.cap, .slice v2.inp.a v2.inp.len v2.inp.cap, .slice v2.out.a v2.out.len v2.out.cap, .int .i64 m2.steps, .int .i64 m2.fin, .int .i64 m2.val] (0, 0) _ rfl (setRow_heap u8 w.heap.size _ _ _ (0, 0) RS.out) Try.underlying25 rfl (by kernel_rfl)
  · exact M8.out.rd.setRowOther (r := w.heap.size) (g := w.heap.size + 1) hcw (by omega) _
  · exact M8.out.bel.low (below_setRow' (Below.refl _ _) (Nat.le_refl _) _)
end Go.Proofs.Ytfcfnbncgadomaa.W
