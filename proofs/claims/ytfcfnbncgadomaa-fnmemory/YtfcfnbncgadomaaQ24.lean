import Derived.Test.YtfcfnbncgadomaaQ23
import Derived.Test.YtfcfnbncgadomaaQ09
import Derived.Test.YtfcfnbncgadomaaQ21
import Derived.Deep.QuietTactic
import Derived.BigQuiet
import Derived.Laws.BytesArg
set_option linter.unusedVariables false
set_option linter.unusedSimpArgs false
namespace Go.Proofs.Ytfcfnbncgadomaa.W
open Go.RowKit
theorem results_cell_t3 {P : Program} {fn : Func} {p q r s : Tmp} {ty : TypeId} (h : fn.results = #[.cell p ty, .tmp q, .tmp r, .tmp s]) (tmps : Array Value) (w : World) (g : Nat) (t : TypeId) (cs : Array Value) (fr : Nat × Nat) (d : TypeDesc) (v1 v2 v3 : Value)
    (hp : tmps.getD p undef = .pointer (some ⟨g, 0, none⟩)) (hq : tmps.getD q undef = v1) (hr : tmps.getD r undef = v2) (hs : tmps.getD s undef = v3) (hg : w.heap[g]? = some (.cells cs t fr))
    (hu : P.underlying ty = some d) (hd : (match d with | .struct _ | .array _ _ => true | _ => false) = true) (hi : (P.info? ty).map (·.size) = some cs.size) :
    (results fn tmps).run P w = .ok (.tuple #[.agg cs, v1, v2, v3]) w := by
  have hp' : tmps[p]?.getD undef = .pointer (some ⟨g, 0, none⟩) := by simpa using hp
  have hq' : tmps[q]?.getD undef = v1 := by simpa using hq
  have hr' : tmps[r]?.getD undef = v2 := by simpa using hr
  have hs' : tmps[s]?.getD undef = v3 := by simpa using hs
  simp [results, h, hp', hq', hr', hs', asAddr, run_loadVar_row w g t ty cs fr d hg hu hd hi]
theorem tab12_bd : ∀ j : Nat, j < 12 → ∃ n : Int, tab12[j]? = some (.int .i64 n) ∧ (-2199023255552 ≤ n ∧ n ≤ 2199023255552)
  | 0, _ => ⟨_, rfl, by decide⟩ | 1, _ => ⟨_, rfl, by decide⟩ | 2, _ => ⟨_, rfl, by decide⟩ | 3, _ => ⟨_, rfl, by decide⟩ | 4, _ => ⟨_, rfl, by decide⟩ | 5, _ => ⟨_, rfl, by decide⟩ | 6, _ => ⟨_, rfl, by decide⟩ | 7, _ => ⟨_, rfl, by decide⟩ | 8, _ => ⟨_, rfl, by decide⟩ | 9, _ => ⟨_, rfl, by decide⟩ | 10, _ => ⟨_, rfl, by decide⟩ | 11, _ => ⟨_, rfl, by decide⟩
  | n + 12, h => absurd h (by omega)
theorem tab8_bd (m : Nat) (hm : m ≤ 255) : ∀ j : Nat, j < 8 → ∃ n : Int, (tab8 m)[j]? = some (.int .i64 n) ∧ (-2199023255552 ≤ n ∧ n ≤ 2199023255552)
  | 0, _ => ⟨_, rfl, by omega⟩ | 1, _ => ⟨_, rfl, by omega⟩ | 2, _ => ⟨_, rfl, by omega⟩ | 3, _ => ⟨_, rfl, by omega⟩ | 4, _ => ⟨_, rfl, by omega⟩ | 5, _ => ⟨_, rfl, by omega⟩ | 6, _ => ⟨_, rfl, by omega⟩ | 7, _ => ⟨_, rfl, by omega⟩
  | n + 8, h => absurd h (by omega)
set_option maxHeartbeats 1000000 in
theorem num_only (w : World) (c : Nat) (h : RdOk w c) : Calls Try.prog 20 #[.pointer (some ⟨c, 0, none⟩)] w fun e w' => ∃ n : Int, e = .returned (.int .i64 n) ∧ (-2199023255552 ≤ n ∧ n ≤ 2199023255552) ∧ RdOk w' c ∧ OnlyB c w w' := by
  have H0 : Hid (RdOk w c) := h
  clear h
  go_enter Try.func20, Try.ntmps20
  go_wp2_with fail
  refine (next_only _ c H0.out).mono ?_
  rintro e w1 ⟨k, rfl, hk, R1, B1⟩
  have H1 : Hid (RdOk w1 c) := R1
  clear R1
  go_wp2_with fail
  refine (next_only _ c H1.out).mono ?_
  rintro e w2 ⟨m, rfl, hm, R2, B2⟩
  have H2 : Hid (RdOk w2 c) := R2
  have B02 : Hid (OnlyB c w w2) := B1.trans B2
  clear R2 B1 B2 H0 H1
  have h4 : k % 4 = 0 ∨ k % 4 = 1 ∨ k % 4 = 2 ∨ k % 4 = 3 := by omega
  rcases h4 with h4 | h4 | h4 | h4
  · have t0 : ((k : Int) % 4 == 0) = true := by simp; omega
    clear h4
    go_wp2_with fail
    go_ret
    exact ⟨_, rfl, by omega, H2.out, B02.out⟩
  · have t0 : ((k : Int) % 4 == 0) = false := by simp; omega
    have t1 : ((k : Int) % 4 == 1) = true := by simp; omega
    clear h4
    go_wp2_with fail
    refine (next_only _ c H2.out).mono ?_
    rintro e w3 ⟨x, rfl, hx, R3, B3⟩
    have H3 : Hid (RdOk w3 c) := R3
    have B03 : Hid (OnlyB c w w3) := B02.out.trans B3
    clear R3 B3 H2 B02
    go_wp2_with fail
    refine (next_only _ c H3.out).mono ?_
    rintro e w4 ⟨y, rfl, hy, R4, B4⟩
    have H4 : Hid (RdOk w4 c) := R4
    have B04 : Hid (OnlyB c w w4) := B03.out.trans B4
    clear R4 B4 H3 B03
    go_wp2_with fail
    refine (next_only _ c H4.out).mono ?_
    rintro e w5 ⟨z, rfl, hz, R5, B5⟩
    have H5 : Hid (RdOk w5 c) := R5
    have B05 : Hid (OnlyB c w w5) := B04.out.trans B5
    clear R5 B5 H4 B04
    go_wp2_with fail
    go_ret
    exact ⟨_, rfl, by omega, H5.out, B05.out⟩
  · have t0 : ((k : Int) % 4 == 0) = false := by simp; omega
    have t1 : ((k : Int) % 4 == 1) = false := by simp; omega
    have t2 : ((k : Int) % 4 == 2) = true := by simp; omega
    clear h4
    obtain ⟨n, hn, hbd⟩ := tab12_bd (m % 12) (by omega)
    have hc : (w2.alloc (.cells tab12 3)).cell? ⟨w2.heap.size, m % 12, none⟩ = some (.int .i64 n) := by rw [cell_of_row _ _ _ tab12 3 (0, 0) (heap_alloc_new w2 _)]; exact hn
    clear hn
    go_wp2_with (refine Great.wpList_buildSliceTo rfl 23 3 12 _ rfl w2.heap.size rfl _ rfl Try.underlying23 tab12 (by kernel_rfl) ?_)
    go_ret
    exact ⟨n, rfl, hbd, H2.out.alloc _, B02.out.trans (OnlyB.of_below (below_alloc _ _))⟩
  · have t0 : ((k : Int) % 4 == 0) = false := by simp; omega
    have t1 : ((k : Int) % 4 == 1) = false := by simp; omega
    have t2 : ((k : Int) % 4 == 2) = false := by simp; omega
    clear h4
    obtain ⟨n, hn, hbd⟩ := tab8_bd m hm (k / 4 % 8) (by omega)
    have hc : (w2.alloc (.cells (tab8 m) 3)).cell? ⟨w2.heap.size, k / 4 % 8, none⟩ = some (.int .i64 n) := by rw [cell_of_row _ _ _ (tab8 m) 3 (0, 0) (heap_alloc_new w2 _)]; exact hn
    clear hn
    go_wp2_with (refine Great.wpList_buildSliceTo rfl 23 3 8 _ rfl w2.heap.size rfl _ rfl Try.underlying23 (tab8 m) (by kernel_rfl) ?_)
    go_ret
    exact ⟨n, rfl, hbd, H2.out.alloc _, B02.out.trans (OnlyB.of_below (below_alloc _ _))⟩
set_option maxRecDepth 8000 in
set_option maxHeartbeats 4000000 in
theorem drawStore_any (w : World) (a : Option Addr) (len cap : Nat) (h : IsBytes w a len cap) : Calls Try.prog 5 #[.slice a len cap] w fun e w' => ∃ (v : MV) (m : Pl.Mac) (kind at_ x : Int), e = .returned (.tuple #[.agg #[.slice v.code.a v.code.len v.code.cap, .int .i64 m.pc, .slice v.regs.a v.regs.len v.regs.cap, .slice v.data.a v.data.len v.data.cap, .slice v.stk.a v.stk.len v.stk.cap, .slice v.inp.a v.inp.len v.inp.cap, .slice v.out.a v.out.len v.out.cap, .int .i64 m.steps, .int .i64 m.fin, .int .i64 m.val], .int .i64 kind, .int .i64 at_, .int .i64 x]) ∧ MOwn w.heap.size w' v m ∧ Pl.mSize m ≤ 200000 ∧ (-4000000 ≤ at_ ∧ at_ ≤ 4000000) ∧ (-2199023255552 ≤ x ∧ x ≤ 2199023255552) ∧ Below w.heap.size w w' := by
  have HI : Hid (IsBytes w a len cap) := h
  clear h
  go_enter Try.func5, Try.ntmps5
  go_wp2_with fail
  refine (open_any _ a len cap (HI.out.below (below_alloc _ _))).mono ?_
  rintro e u1 ⟨rfl, R1, B1⟩
  have hres : u1.heap[w.heap.size]? = some (.cells #[.slice none 0 0, .int .i64 0, .slice none 0 0, .slice none 0 0, .slice none 0 0, .slice none 0 0, .slice none 0 0, .int .i64 0, .int .i64 0, .int .i64 0] 25) := (B1.block _ (by simp)).trans (heap_alloc_new w _)
  have hc : (w.alloc (.cells #[.slice none 0 0, .int .i64 0, .slice none 0 0, .slice none 0 0, .slice none 0 0, .slice none 0 0, .slice none 0 0, .int .i64 0, .int .i64 0, .int .i64 0] 25)).heap.size = w.heap.size + 1 := by simp
  rw [hc] at R1 B1 ⊢
  have H1 : Hid (RdOk u1 (w.heap.size + 1) ∧ OnlyB (w.heap.size + 1) w u1 ∧ u1.heap[w.heap.size]? = some (.cells #[.slice none 0 0, .int .i64 0, .slice none 0 0, .slice none 0 0, .slice none 0 0, .slice none 0 0, .slice none 0 0, .int .i64 0, .int .i64 0, .int .i64 0] 25)) := ⟨R1, (OnlyB.of_below (below_alloc w _)).trans ⟨B1.os, B1.tape, B1.output, B1.size, fun b hb hbc => B1.block b (by simp at hb; omega)⟩, hres⟩
  clear R1 B1 HI hres hc
  go_wp2_with fail
  refine (l3Address_any u1 _ H1.out.1).mono ?_
  rintro e u2 ⟨at0, rfl, hat, r2, d2⟩
  have hs1 : w.heap.size + 1 < u1.heap.size := H1.out.1.lt
  have H2 : Hid (RdOk u2 (w.heap.size + 1) ∧ OnlyB (w.heap.size + 1) w u2 ∧ u2.heap[w.heap.size]? = some (.cells #[.slice none 0 0, .int .i64 0, .slice none 0 0, .slice none 0 0, .slice none 0 0, .slice none 0 0, .slice none 0 0, .int .i64 0, .int .i64 0, .int .i64 0] 25)) := ⟨r2, H1.out.2.1.trans d2, (d2.block _ (by omega) (by omega)).trans H1.out.2.2⟩
  clear r2 d2 H1
  go_wp2_with fail
  refine (next_only u2 _ H2.out.1).mono ?_
  rintro e u3 ⟨n, rfl, hn, r3, d3⟩
  have hs2 : w.heap.size + 1 < u2.heap.size := H2.out.1.lt
  have H3 : Hid (RdOk u3 (w.heap.size + 1) ∧ OnlyB (w.heap.size + 1) w u3 ∧ u3.heap[w.heap.size]? = some (.cells #[.slice none 0 0, .int .i64 0, .slice none 0 0, .slice none 0 0, .slice none 0 0, .slice none 0 0, .slice none 0 0, .int .i64 0, .int .i64 0, .int .i64 0] 25)) := ⟨r3, H2.out.2.1.trans d3, (d3.block _ (by omega) (by omega)).trans H2.out.2.2⟩
  clear r3 d3 H2
  obtain ⟨q4, e4, h4⟩ : ∃ q : Nat, ((n : Int).tmod 4) = (q : Int) ∧ q ≤ 3 := ⟨n % 4, by rw [Int.tmod_eq_emod_of_nonneg (by omega)]; omega, by omega⟩
  obtain ⟨q7, e7, h7⟩ : ∃ q : Nat, ((n : Int).tmod 7) = (q : Int) ∧ q ≤ 6 := ⟨n % 7, by rw [Int.tmod_eq_emod_of_nonneg (by omega)]; omega, by omega⟩
  have htm : -4 ≤ at0.tmod 4 ∧ at0.tmod 4 ≤ 4 := by
    have h1 := Int.tmod_lt_of_pos at0 (show (0 : Int) < 4 by decide)
    have h2 := Int.lt_tmod_of_pos at0 (show (0 : Int) < 4 by decide)
    omega
  go_upto_if 18 with fail
  go_cut [7] from 10 to 30 (fun s7 wx => (∃ at_ : Int, s7 = .int .i64 at_ ∧ (-4000000 ≤ at_ ∧ at_ ≤ 4000000)) ∧ wx = u3)
  case first =>
    rcases (show q4 = 0 ∨ q4 = 1 ∨ q4 = 2 ∨ q4 = 3 by omega) with rfl | rfl | rfl | rfl
    all_goals
      go_wp2_with fail
      go_meet
      exact ⟨⟨_, rfl, by first | omega | (simp only [IntKind.wrap_i64]; omega)⟩, rfl⟩
  case rest =>
  obtain ⟨⟨at_, rfl, hat2⟩, hwc⟩ := hcut
  rw [hwc]
  clear hwc
  go_wp2_with fail
  refine (num_only u3 _ H3.out.1).mono ?_
  rintro e u4 ⟨x, rfl, hx, r4, d4⟩
  have hs3 : w.heap.size + 1 < u3.heap.size := H3.out.1.lt
  have H4 : Hid (RdOk u4 (w.heap.size + 1) ∧ OnlyB (w.heap.size + 1) w u4 ∧ u4.heap[w.heap.size]? = some (.cells #[.slice none 0 0, .int .i64 0, .slice none 0 0, .slice none 0 0, .slice none 0 0, .slice none 0 0, .slice none 0 0, .int .i64 0, .int .i64 0, .int .i64 0] 25)) := ⟨r4, H3.out.2.1.trans d4, (d4.block _ (by omega) (by omega)).trans H3.out.2.2⟩
  clear r4 d4 H3
  go_wp2_with fail
  refine (l3Machine_any u4 _ H4.out.1).mono ?_
  rintro e u5 ⟨v, m, rfl, hown, hsz, hnb, r5, d5⟩
  have hs4 : w.heap.size + 1 < u4.heap.size := H4.out.1.lt
  have hw4 := H4.out.2.1.size
  have RS : Hid (u5.heap[w.heap.size]? = some (.cells #[.slice none 0 0, .int .i64 0, .slice none 0 0, .slice none 0 0, .slice none 0 0, .slice none 0 0, .slice none 0 0, .int .i64 0, .int .i64 0, .int .i64 0] 25)) := (d5.block _ (by omega) (by omega)).trans H4.out.2.2
  have OW : Hid (MOwn (w.heap.size + 1) u5 v m) := ⟨hown.1.lower (by omega), hown.2.1.lower (by omega), hown.2.2.1.lower (by omega), hown.2.2.2.1.lower (by omega), hown.2.2.2.2.1.lower (by omega), hown.2.2.2.2.2.lower (by omega)⟩
  have OB : Hid (OnlyB (w.heap.size + 1) w u5) := H4.out.2.1.trans d5
  clear hown r5 d5 H4
  go_wp2_with (refine wpList_store_row rfl 25 _ _ rfl w.heap.size #[.slice v.code.a v.code.len v.code.cap, .int .i64 m.pc, .slice v.regs.a v.regs.len v.regs.cap, .slice v.data.a v.data.len v.data.cap, .slice v.stk.a v.stk.len v.stk.cap, .slice v.inp.a v.inp.len v.inp.cap, .slice v.out.a v.out.len v.out.cap, .int .i64 m.steps, .int .i64 m.fin, .int .i64 m.val] ?hx ?hy 25 #[.slice none 0 0, .int .i64 0, .slice none 0 0, .slice none 0 0, .slice none 0 0, .slice none 0 0, .slice none 0 0, .int .i64 0, .int .i64 0, .int .i64 0] ?hg ?hi ?ho ?h1 ?_; (case hx => rfl); (case hy => rfl); (case hg => exact RS.out); (case hi => kernel_rfl); (case ho => kernel_rfl); (case h1 => kernel_rfl))
  have hA : Above (w.heap.size + 1) u5 (u5.setRow w.heap.size #[.slice v.code.a v.code.len v.code.cap, .int .i64 m.pc, .slice v.regs.a v.regs.len v.regs.cap, .slice v.data.a v.data.len v.data.cap, .slice v.stk.a v.stk.len v.stk.cap, .slice v.inp.a v.inp.len v.inp.cap, .slice v.out.a v.out.len v.out.cap, .int .i64 m.steps, .int .i64 m.fin, .int .i64 m.val]) := (Above.refl _ _).setRow (by omega) _
  have ho := OW.out
  have hob := OB.out
  refine bodyPost_ret (v := .tuple #[.agg #[.slice v.code.a v.code.len v.code.cap, .int .i64 m.pc, .slice v.regs.a v.regs.len v.regs.cap, .slice v.data.a v.data.len v.data.cap, .slice v.stk.a v.stk.len v.stk.cap, .slice v.inp.a v.inp.len v.inp.cap, .slice v.out.a v.out.len v.out.cap, .int .i64 m.steps, .int .i64 m.fin, .int .i64 m.val], .int .i64 (q7 : Int), .int .i64 at_, .int .i64 x]) ?_ rfl ⟨v, m, _, _, _, rfl, ⟨(ho.1.same hA (Nat.le_refl _)).lower (by omega), (ho.2.1.same hA (Nat.le_refl _)).lower (by omega), (ho.2.2.1.same hA (Nat.le_refl _)).lower (by omega), (ho.2.2.2.1.same hA (Nat.le_refl _)).lower (by omega), (ho.2.2.2.2.1.same hA (Nat.le_refl _)).lower (by omega), (ho.2.2.2.2.2.same hA (Nat.le_refl _)).lower (by omega)⟩, hsz, hat2, hx, ?_⟩
  · exact results_cell_t3 Try.results5 _ _ w.heap.size 25 #[.slice v.code.a v.code.len v.code.cap, .int .i64 m.pc, .slice v.regs.a v.regs.len v.regs.cap, .slice v.data.a v.data.len v.data.cap, .slice v.stk.a v.stk.len v.stk.cap, .slice v.inp.a v.inp.len v.inp.cap, .slice v.out.a v.out.len v.out.cap, .int .i64 m.steps, .int .i64 m.fin, .int .i64 m.val] (0, 0) _ _ _ _ rfl rfl rfl rfl (setRow_heap u5 w.heap.size _ _ _ (0, 0) RS.out) Try.underlying25 rfl (by kernel_rfl)
  · exact below_setRow' ⟨hob.os, hob.tape, hob.output, hob.size, fun b hb => hob.block b hb (by omega)⟩ (Nat.le_refl _) _
end Go.Proofs.Ytfcfnbncgadomaa.W
namespace Go.Proofs.Ytfcfnbncgadomaa.W
open Go.RowKit
set_option maxHeartbeats 2000000 in
theorem sameInts_same {lo lo2 : Nat} (a a' : Option Addr) (len cap len' cap' : Nat) (zs : List Int) (w : World) (h : Row .i64 lo w a len cap zs) (h' : Row .i64 lo2 w a' len' cap' zs) :
    Calls Try.prog 32 #[.slice a len cap, .slice a' len' cap'] w fun e w' => e = .returned (.bool true) ∧ Below w.heap.size w w' := by
  have hl : len' = len := by rw [← h'.1, ← h.1]
  subst hl
  have hm : (len' : Int) ≤ 9223372036854775807 := by have := h.small; omega
  have HR : Hid (Row .i64 lo w a len' cap zs) := h
  have HR' : Hid (Row .i64 lo2 w a' len' cap' zs) := h'
  clear h h'
  go_enter Try.func32, Try.ntmps32
  go_wp2_with fail
  go_loopw [5] (fun i wr => ∃ k : Nat, k ≤ len' ∧ i = .int .i64 k ∧ Below w.heap.size w wr) (fun i _ => len' - (intOf i).toNat)
  case atStart => exact ⟨0, Nat.zero_le _, rfl, Below.refl _ _⟩
  case round =>
    obtain ⟨k, hk, rfl, hbel⟩ := hrel
    have HB : Hid (Below w.heap.size w wr) := hbel
    clear hbel
    by_cases hlt : k < len'
    · have hi : (k : Int) < (len' : Int) := by omega
      obtain ⟨b, off, rfl, hc⟩ : ∃ b off, a = some ⟨b, off, none⟩ ∧ wr.cell? ⟨b, off + k, none⟩ = some (.int .i64 (zs.getD k 0)) := by
        obtain ⟨_, _, _, _, h5⟩ := HR.out.keep HB.out
        rcases h5 with h5 | ⟨b, off, ha, _, _, hc⟩
        · omega
        · exact ⟨b, off, ha, hc k hlt⟩
      obtain ⟨b', off', rfl, hc'⟩ : ∃ b off, a' = some ⟨b, off, none⟩ ∧ wr.cell? ⟨b, off + k, none⟩ = some (.int .i64 (zs.getD k 0)) := by
        obtain ⟨_, _, _, _, h5⟩ := HR'.out.keep HB.out
        rcases h5 with h5 | ⟨b, off, ha, _, _, hc⟩
        · omega
        · exact ⟨b, off, ha, hc k hlt⟩
      generalize zs.getD k 0 = x at *
      go_wp2_with fail
      go_quiet (fail)
      go_wp2_with fail
      go_roundw
      case rel => exact ⟨k + 1, by omega, by go_num, by first | exact HB.out | exact below_drewN HB.out _⟩
      case measure => simp [intOf]; omega
    · have hi : ¬ (k : Int) < (len' : Int) := by omega
      go_wp2
      go_ret
      exact ⟨rfl, HB.out⟩
theorem conv_row {lo : Nat} (a : Option Addr) (len cap : Nat) (zs : List Int) (w : World) (h : Row .u8 lo w a len cap zs) : (convert 22 9 (.slice a len cap)).run Try.prog w = .ok (.string (strOfNums zs)) w := by
  obtain ⟨h1, _, _, _, h5⟩ := h
  rcases h5 with h5 | ⟨b, off, rfl, _, _, hc⟩
  · subst h5
    obtain rfl : zs = [] := List.eq_nil_of_length_eq_zero h1
    rw [run_convert_bytes_string w 22 9 5 _ 0 cap Try.underlying22 Try.underlying5 Try.underlying9]
    cases a <;> simp [Conv.bytesToString, loadCells]
    all_goals rfl
  · exact run_convert_bytes_arg w 22 5 Try.underlying22 Try.underlying5 b off len cap zs h1 hc 9 Try.underlying9
theorem sameBytes_same {lo lo2 : Nat} (a a' : Option Addr) (len cap len' cap' : Nat) (zs : List Int) (w : World) (h : Row .u8 lo w a len cap zs) (h' : Row .u8 lo2 w a' len' cap' zs) :
    Calls Try.prog 33 #[.slice a len cap, .slice a' len' cap'] w fun e w' => e = .returned (.bool true) ∧ Below w.heap.size w w' := by
  have k1 := conv_row a len cap zs w h
  have k2 := conv_row a' len' cap' zs w h'
  generalize strOfNums zs = S at *
  clear h h'
  go_enter Try.func33, Try.ntmps33
  go_wp2
  go_ret
  exact ⟨rfl, Below.refl _ _⟩
set_option maxRecDepth 8000 in
set_option maxHeartbeats 4000000 in
theorem sameMachine_same {lo lo2 : Nat} (v v2 : MV) (m : Pl.Mac) (w : World) (h : MIs lo w v m) (h2 : MIs lo2 w v2 m) :
    Calls Try.prog 8 #[.agg #[.slice v.code.a v.code.len v.code.cap, .int .i64 m.pc, .slice v.regs.a v.regs.len v.regs.cap, .slice v.data.a v.data.len v.data.cap, .slice v.stk.a v.stk.len v.stk.cap, .slice v.inp.a v.inp.len v.inp.cap, .slice v.out.a v.out.len v.out.cap, .int .i64 m.steps, .int .i64 m.fin, .int .i64 m.val], .agg #[.slice v2.code.a v2.code.len v2.code.cap, .int .i64 m.pc, .slice v2.regs.a v2.regs.len v2.regs.cap, .slice v2.data.a v2.data.len v2.data.cap, .slice v2.stk.a v2.stk.len v2.stk.cap, .slice v2.inp.a v2.inp.len v2.inp.cap, .slice v2.out.a v2.out.len v2.out.cap, .int .i64 m.steps, .int .i64 m.fin, .int .i64 m.val]] w fun e w' => e = .returned (.bool true) ∧ Below w.heap.size w w' := by
  have HI : Hid (MIs lo w v m) := h
  have HJ : Hid (MIs lo2 w v2 m) := h2
  clear h h2
  go_enter Try.func8, Try.ntmps8
  have QA : Hid (((w.alloc (.cells #[.slice v.code.a v.code.len v.code.cap, .int .i64 m.pc, .slice v.regs.a v.regs.len v.regs.cap, .slice v.data.a v.data.len v.data.cap, .slice v.stk.a v.stk.len v.stk.cap, .slice v.inp.a v.inp.len v.inp.cap, .slice v.out.a v.out.len v.out.cap, .int .i64 m.steps, .int .i64 m.fin, .int .i64 m.val] 25)).alloc (.cells #[.slice v2.code.a v2.code.len v2.code.cap, .int .i64 m.pc, .slice v2.regs.a v2.regs.len v2.regs.cap, .slice v2.data.a v2.data.len v2.data.cap, .slice v2.stk.a v2.stk.len v2.stk.cap, .slice v2.inp.a v2.inp.len v2.inp.cap, .slice v2.out.a v2.out.len v2.out.cap, .int .i64 m.steps, .int .i64 m.fin, .int .i64 m.val] 25)).heap[w.heap.size]? = some (.cells #[.slice v.code.a v.code.len v.code.cap, .int .i64 m.pc, .slice v.regs.a v.regs.len v.regs.cap, .slice v.data.a v.data.len v.data.cap, .slice v.stk.a v.stk.len v.stk.cap, .slice v.inp.a v.inp.len v.inp.cap, .slice v.out.a v.out.len v.out.cap, .int .i64 m.steps, .int .i64 m.fin, .int .i64 m.val] 25)) := (Below.heap_alloc _ _ _ (by simp)).trans (heap_alloc_new w _)
  go_wp2_with fail
  refine calls_at fun u0 hu0 => ?_
  have q0 : u0.heap[w.heap.size]? = some (.cells #[.slice v.code.a v.code.len v.code.cap, .int .i64 m.pc, .slice v.regs.a v.regs.len v.regs.cap, .slice v.data.a v.data.len v.data.cap, .slice v.stk.a v.stk.len v.stk.cap, .slice v.inp.a v.inp.len v.inp.cap, .slice v.out.a v.out.len v.out.cap, .int .i64 m.steps, .int .i64 m.fin, .int .i64 m.val] 25) := by rw [hu0]; exact QA.out
  have p0 : u0.heap[w.heap.size + 1]? = some (.cells #[.slice v2.code.a v2.code.len v2.code.cap, .int .i64 m.pc, .slice v2.regs.a v2.regs.len v2.regs.cap, .slice v2.data.a v2.data.len v2.data.cap, .slice v2.stk.a v2.stk.len v2.stk.cap, .slice v2.inp.a v2.inp.len v2.inp.cap, .slice v2.out.a v2.out.len v2.out.cap, .int .i64 m.steps, .int .i64 m.fin, .int .i64 m.val] 25) := by
    rw [hu0]
    have := heap_alloc_new (w.alloc (.cells #[.slice v.code.a v.code.len v.code.cap, .int .i64 m.pc, .slice v.regs.a v.regs.len v.regs.cap, .slice v.data.a v.data.len v.data.cap, .slice v.stk.a v.stk.len v.stk.cap, .slice v.inp.a v.inp.len v.inp.cap, .slice v.out.a v.out.len v.out.cap, .int .i64 m.steps, .int .i64 m.fin, .int .i64 m.val] 25)) (.cells #[.slice v2.code.a v2.code.len v2.code.cap, .int .i64 m.pc, .slice v2.regs.a v2.regs.len v2.regs.cap, .slice v2.data.a v2.data.len v2.data.cap, .slice v2.stk.a v2.stk.len v2.stk.cap, .slice v2.inp.a v2.inp.len v2.inp.cap, .slice v2.out.a v2.out.len v2.out.cap, .int .i64 m.steps, .int .i64 m.fin, .int .i64 m.val] 25)
    simpa using this
  have B0 : Hid (Below w.heap.size w u0 ∧ w.heap.size + 2 ≤ u0.heap.size) := by
    rw [hu0]; exact ⟨((Below.refl _ _).alloc (Nat.le_refl _) _).alloc (by simp) _, by simp⟩
  clear hu0 QA
  have Q0 : Hid (u0.heap[w.heap.size]? = some (.cells #[.slice v.code.a v.code.len v.code.cap, .int .i64 m.pc, .slice v.regs.a v.regs.len v.regs.cap, .slice v.data.a v.data.len v.data.cap, .slice v.stk.a v.stk.len v.stk.cap, .slice v.inp.a v.inp.len v.inp.cap, .slice v.out.a v.out.len v.out.cap, .int .i64 m.steps, .int .i64 m.fin, .int .i64 m.val] 25)) := q0
  have P0 : Hid (u0.heap[w.heap.size + 1]? = some (.cells #[.slice v2.code.a v2.code.len v2.code.cap, .int .i64 m.pc, .slice v2.regs.a v2.regs.len v2.regs.cap, .slice v2.data.a v2.data.len v2.data.cap, .slice v2.stk.a v2.stk.len v2.stk.cap, .slice v2.inp.a v2.inp.len v2.inp.cap, .slice v2.out.a v2.out.len v2.out.cap, .int .i64 m.steps, .int .i64 m.fin, .int .i64 m.val] 25)) := p0
  clear q0 p0
  refine (sameInts_same _ _ _ _ _ _ m.code u0 (HI.out.keep B0.out.1).1 (HJ.out.keep B0.out.1).1).mono ?_
  rintro e u1 ⟨rfl, d1⟩
  have Q1 : Hid (u1.heap[w.heap.size]? = some (.cells #[.slice v.code.a v.code.len v.code.cap, .int .i64 m.pc, .slice v.regs.a v.regs.len v.regs.cap, .slice v.data.a v.data.len v.data.cap, .slice v.stk.a v.stk.len v.stk.cap, .slice v.inp.a v.inp.len v.inp.cap, .slice v.out.a v.out.len v.out.cap, .int .i64 m.steps, .int .i64 m.fin, .int .i64 m.val] 25)) := (d1.block _ (by have := B0.out.2; omega)).trans Q0.out
  have P1 : Hid (u1.heap[w.heap.size + 1]? = some (.cells #[.slice v2.code.a v2.code.len v2.code.cap, .int .i64 m.pc, .slice v2.regs.a v2.regs.len v2.regs.cap, .slice v2.data.a v2.data.len v2.data.cap, .slice v2.stk.a v2.stk.len v2.stk.cap, .slice v2.inp.a v2.inp.len v2.inp.cap, .slice v2.out.a v2.out.len v2.out.cap, .int .i64 m.steps, .int .i64 m.fin, .int .i64 m.val] 25)) := (d1.block _ (by have := B0.out.2; omega)).trans P0.out
  have B1 : Hid (Below w.heap.size w u1 ∧ w.heap.size + 2 ≤ u1.heap.size) := ⟨B0.out.1.trans (d1.mono (by have := B0.out.2; omega)), Nat.le_trans B0.out.2 d1.size⟩
  clear d1 Q0 P0 B0
  have kq1 : ∀ j, u1.cell? ⟨w.heap.size, j, none⟩ = (#[.slice v.code.a v.code.len v.code.cap, .int .i64 m.pc, .slice v.regs.a v.regs.len v.regs.cap, .slice v.data.a v.data.len v.data.cap, .slice v.stk.a v.stk.len v.stk.cap, .slice v.inp.a v.inp.len v.inp.cap, .slice v.out.a v.out.len v.out.cap, .int .i64 m.steps, .int .i64 m.fin, .int .i64 m.val] : Array Value)[j]? := fun j => cell_of_row u1 w.heap.size j _ 25 (0, 0) Q1.out
  have kp1 : ∀ j, u1.cell? ⟨w.heap.size + 1, j, none⟩ = (#[.slice v2.code.a v2.code.len v2.code.cap, .int .i64 m.pc, .slice v2.regs.a v2.regs.len v2.regs.cap, .slice v2.data.a v2.data.len v2.data.cap, .slice v2.stk.a v2.stk.len v2.stk.cap, .slice v2.inp.a v2.inp.len v2.inp.cap, .slice v2.out.a v2.out.len v2.out.cap, .int .i64 m.steps, .int .i64 m.fin, .int .i64 m.val] : Array Value)[j]? := fun j => cell_of_row u1 (w.heap.size + 1) j _ 25 (0, 0) P1.out
  go_wp2_with fail
  clear kq1 kp1
  refine (sameInts_same _ _ _ _ _ _ m.regs u1 (HI.out.keep B1.out.1).2.1 (HJ.out.keep B1.out.1).2.1).mono ?_
  rintro e u2 ⟨rfl, d2⟩
  have Q2 : Hid (u2.heap[w.heap.size]? = some (.cells #[.slice v.code.a v.code.len v.code.cap, .int .i64 m.pc, .slice v.regs.a v.regs.len v.regs.cap, .slice v.data.a v.data.len v.data.cap, .slice v.stk.a v.stk.len v.stk.cap, .slice v.inp.a v.inp.len v.inp.cap, .slice v.out.a v.out.len v.out.cap, .int .i64 m.steps, .int .i64 m.fin, .int .i64 m.val] 25)) := (d2.block _ (by have := B1.out.2; omega)).trans Q1.out
  have P2 : Hid (u2.heap[w.heap.size + 1]? = some (.cells #[.slice v2.code.a v2.code.len v2.code.cap, .int .i64 m.pc, .slice v2.regs.a v2.regs.len v2.regs.cap, .slice v2.data.a v2.data.len v2.data.cap, .slice v2.stk.a v2.stk.len v2.stk.cap, .slice v2.inp.a v2.inp.len v2.inp.cap, .slice v2.out.a v2.out.len v2.out.cap, .int .i64 m.steps, .int .i64 m.fin, .int .i64 m.val] 25)) := (d2.block _ (by have := B1.out.2; omega)).trans P1.out
  have B2 : Hid (Below w.heap.size w u2 ∧ w.heap.size + 2 ≤ u2.heap.size) := ⟨B1.out.1.trans (d2.mono (by have := B1.out.2; omega)), Nat.le_trans B1.out.2 d2.size⟩
  clear d2 Q1 P1 B1
  have kq2 : ∀ j, u2.cell? ⟨w.heap.size, j, none⟩ = (#[.slice v.code.a v.code.len v.code.cap, .int .i64 m.pc, .slice v.regs.a v.regs.len v.regs.cap, .slice v.data.a v.data.len v.data.cap, .slice v.stk.a v.stk.len v.stk.cap, .slice v.inp.a v.inp.len v.inp.cap, .slice v.out.a v.out.len v.out.cap, .int .i64 m.steps, .int .i64 m.fin, .int .i64 m.val] : Array Value)[j]? := fun j => cell_of_row u2 w.heap.size j _ 25 (0, 0) Q2.out
  have kp2 : ∀ j, u2.cell? ⟨w.heap.size + 1, j, none⟩ = (#[.slice v2.code.a v2.code.len v2.code.cap, .int .i64 m.pc, .slice v2.regs.a v2.regs.len v2.regs.cap, .slice v2.data.a v2.data.len v2.data.cap, .slice v2.stk.a v2.stk.len v2.stk.cap, .slice v2.inp.a v2.inp.len v2.inp.cap, .slice v2.out.a v2.out.len v2.out.cap, .int .i64 m.steps, .int .i64 m.fin, .int .i64 m.val] : Array Value)[j]? := fun j => cell_of_row u2 (w.heap.size + 1) j _ 25 (0, 0) P2.out
  go_wp2_with fail
  clear kq2 kp2
  refine (sameBytes_same _ _ _ _ _ _ m.data u2 (HI.out.keep B2.out.1).2.2.1 (HJ.out.keep B2.out.1).2.2.1).mono ?_
  rintro e u3 ⟨rfl, d3⟩
  have Q3 : Hid (u3.heap[w.heap.size]? = some (.cells #[.slice v.code.a v.code.len v.code.cap, .int .i64 m.pc, .slice v.regs.a v.regs.len v.regs.cap, .slice v.data.a v.data.len v.data.cap, .slice v.stk.a v.stk.len v.stk.cap, .slice v.inp.a v.inp.len v.inp.cap, .slice v.out.a v.out.len v.out.cap, .int .i64 m.steps, .int .i64 m.fin, .int .i64 m.val] 25)) := (d3.block _ (by have := B2.out.2; omega)).trans Q2.out
  have P3 : Hid (u3.heap[w.heap.size + 1]? = some (.cells #[.slice v2.code.a v2.code.len v2.code.cap, .int .i64 m.pc, .slice v2.regs.a v2.regs.len v2.regs.cap, .slice v2.data.a v2.data.len v2.data.cap, .slice v2.stk.a v2.stk.len v2.stk.cap, .slice v2.inp.a v2.inp.len v2.inp.cap, .slice v2.out.a v2.out.len v2.out.cap, .int .i64 m.steps, .int .i64 m.fin, .int .i64 m.val] 25)) := (d3.block _ (by have := B2.out.2; omega)).trans P2.out
  have B3 : Hid (Below w.heap.size w u3 ∧ w.heap.size + 2 ≤ u3.heap.size) := ⟨B2.out.1.trans (d3.mono (by have := B2.out.2; omega)), Nat.le_trans B2.out.2 d3.size⟩
  clear d3 Q2 P2 B2
  have kq3 : ∀ j, u3.cell? ⟨w.heap.size, j, none⟩ = (#[.slice v.code.a v.code.len v.code.cap, .int .i64 m.pc, .slice v.regs.a v.regs.len v.regs.cap, .slice v.data.a v.data.len v.data.cap, .slice v.stk.a v.stk.len v.stk.cap, .slice v.inp.a v.inp.len v.inp.cap, .slice v.out.a v.out.len v.out.cap, .int .i64 m.steps, .int .i64 m.fin, .int .i64 m.val] : Array Value)[j]? := fun j => cell_of_row u3 w.heap.size j _ 25 (0, 0) Q3.out
  have kp3 : ∀ j, u3.cell? ⟨w.heap.size + 1, j, none⟩ = (#[.slice v2.code.a v2.code.len v2.code.cap, .int .i64 m.pc, .slice v2.regs.a v2.regs.len v2.regs.cap, .slice v2.data.a v2.data.len v2.data.cap, .slice v2.stk.a v2.stk.len v2.stk.cap, .slice v2.inp.a v2.inp.len v2.inp.cap, .slice v2.out.a v2.out.len v2.out.cap, .int .i64 m.steps, .int .i64 m.fin, .int .i64 m.val] : Array Value)[j]? := fun j => cell_of_row u3 (w.heap.size + 1) j _ 25 (0, 0) P3.out
  go_wp2_with fail
  clear kq3 kp3
  refine (sameBytes_same _ _ _ _ _ _ m.stk u3 (HI.out.keep B3.out.1).2.2.2.1 (HJ.out.keep B3.out.1).2.2.2.1).mono ?_
  rintro e u4 ⟨rfl, d4⟩
  have Q4 : Hid (u4.heap[w.heap.size]? = some (.cells #[.slice v.code.a v.code.len v.code.cap, .int .i64 m.pc, .slice v.regs.a v.regs.len v.regs.cap, .slice v.data.a v.data.len v.data.cap, .slice v.stk.a v.stk.len v.stk.cap, .slice v.inp.a v.inp.len v.inp.cap, .slice v.out.a v.out.len v.out.cap, .int .i64 m.steps, .int .i64 m.fin, .int .i64 m.val] 25)) := (d4.block _ (by have := B3.out.2; omega)).trans Q3.out
  have P4 : Hid (u4.heap[w.heap.size + 1]? = some (.cells #[.slice v2.code.a v2.code.len v2.code.cap, .int .i64 m.pc, .slice v2.regs.a v2.regs.len v2.regs.cap, .slice v2.data.a v2.data.len v2.data.cap, .slice v2.stk.a v2.stk.len v2.stk.cap, .slice v2.inp.a v2.inp.len v2.inp.cap, .slice v2.out.a v2.out.len v2.out.cap, .int .i64 m.steps, .int .i64 m.fin, .int .i64 m.val] 25)) := (d4.block _ (by have := B3.out.2; omega)).trans P3.out
  have B4 : Hid (Below w.heap.size w u4 ∧ w.heap.size + 2 ≤ u4.heap.size) := ⟨B3.out.1.trans (d4.mono (by have := B3.out.2; omega)), Nat.le_trans B3.out.2 d4.size⟩
  clear d4 Q3 P3 B3
  have kq4 : ∀ j, u4.cell? ⟨w.heap.size, j, none⟩ = (#[.slice v.code.a v.code.len v.code.cap, .int .i64 m.pc, .slice v.regs.a v.regs.len v.regs.cap, .slice v.data.a v.data.len v.data.cap, .slice v.stk.a v.stk.len v.stk.cap, .slice v.inp.a v.inp.len v.inp.cap, .slice v.out.a v.out.len v.out.cap, .int .i64 m.steps, .int .i64 m.fin, .int .i64 m.val] : Array Value)[j]? := fun j => cell_of_row u4 w.heap.size j _ 25 (0, 0) Q4.out
  have kp4 : ∀ j, u4.cell? ⟨w.heap.size + 1, j, none⟩ = (#[.slice v2.code.a v2.code.len v2.code.cap, .int .i64 m.pc, .slice v2.regs.a v2.regs.len v2.regs.cap, .slice v2.data.a v2.data.len v2.data.cap, .slice v2.stk.a v2.stk.len v2.stk.cap, .slice v2.inp.a v2.inp.len v2.inp.cap, .slice v2.out.a v2.out.len v2.out.cap, .int .i64 m.steps, .int .i64 m.fin, .int .i64 m.val] : Array Value)[j]? := fun j => cell_of_row u4 (w.heap.size + 1) j _ 25 (0, 0) P4.out
  go_wp2_with fail
  clear kq4 kp4
  refine (sameBytes_same _ _ _ _ _ _ m.inp u4 (HI.out.keep B4.out.1).2.2.2.2.1 (HJ.out.keep B4.out.1).2.2.2.2.1).mono ?_
  rintro e u5 ⟨rfl, d5⟩
  have Q5 : Hid (u5.heap[w.heap.size]? = some (.cells #[.slice v.code.a v.code.len v.code.cap, .int .i64 m.pc, .slice v.regs.a v.regs.len v.regs.cap, .slice v.data.a v.data.len v.data.cap, .slice v.stk.a v.stk.len v.stk.cap, .slice v.inp.a v.inp.len v.inp.cap, .slice v.out.a v.out.len v.out.cap, .int .i64 m.steps, .int .i64 m.fin, .int .i64 m.val] 25)) := (d5.block _ (by have := B4.out.2; omega)).trans Q4.out
  have P5 : Hid (u5.heap[w.heap.size + 1]? = some (.cells #[.slice v2.code.a v2.code.len v2.code.cap, .int .i64 m.pc, .slice v2.regs.a v2.regs.len v2.regs.cap, .slice v2.data.a v2.data.len v2.data.cap, .slice v2.stk.a v2.stk.len v2.stk.cap, .slice v2.inp.a v2.inp.len v2.inp.cap, .slice v2.out.a v2.out.len v2.out.cap, .int .i64 m.steps, .int .i64 m.fin, .int .i64 m.val] 25)) := (d5.block _ (by have := B4.out.2; omega)).trans P4.out
  have B5 : Hid (Below w.heap.size w u5 ∧ w.heap.size + 2 ≤ u5.heap.size) := ⟨B4.out.1.trans (d5.mono (by have := B4.out.2; omega)), Nat.le_trans B4.out.2 d5.size⟩
  clear d5 Q4 P4 B4
  have kq5 : ∀ j, u5.cell? ⟨w.heap.size, j, none⟩ = (#[.slice v.code.a v.code.len v.code.cap, .int .i64 m.pc, .slice v.regs.a v.regs.len v.regs.cap, .slice v.data.a v.data.len v.data.cap, .slice v.stk.a v.stk.len v.stk.cap, .slice v.inp.a v.inp.len v.inp.cap, .slice v.out.a v.out.len v.out.cap, .int .i64 m.steps, .int .i64 m.fin, .int .i64 m.val] : Array Value)[j]? := fun j => cell_of_row u5 w.heap.size j _ 25 (0, 0) Q5.out
  have kp5 : ∀ j, u5.cell? ⟨w.heap.size + 1, j, none⟩ = (#[.slice v2.code.a v2.code.len v2.code.cap, .int .i64 m.pc, .slice v2.regs.a v2.regs.len v2.regs.cap, .slice v2.data.a v2.data.len v2.data.cap, .slice v2.stk.a v2.stk.len v2.stk.cap, .slice v2.inp.a v2.inp.len v2.inp.cap, .slice v2.out.a v2.out.len v2.out.cap, .int .i64 m.steps, .int .i64 m.fin, .int .i64 m.val] : Array Value)[j]? := fun j => cell_of_row u5 (w.heap.size + 1) j _ 25 (0, 0) P5.out
  go_wp2_with fail
  clear kq5 kp5
  refine (sameBytes_same _ _ _ _ _ _ m.out u5 (HI.out.keep B5.out.1).2.2.2.2.2 (HJ.out.keep B5.out.1).2.2.2.2.2).mono ?_
  rintro e u6 ⟨rfl, d6⟩
  have Q6 : Hid (u6.heap[w.heap.size]? = some (.cells #[.slice v.code.a v.code.len v.code.cap, .int .i64 m.pc, .slice v.regs.a v.regs.len v.regs.cap, .slice v.data.a v.data.len v.data.cap, .slice v.stk.a v.stk.len v.stk.cap, .slice v.inp.a v.inp.len v.inp.cap, .slice v.out.a v.out.len v.out.cap, .int .i64 m.steps, .int .i64 m.fin, .int .i64 m.val] 25)) := (d6.block _ (by have := B5.out.2; omega)).trans Q5.out
  have P6 : Hid (u6.heap[w.heap.size + 1]? = some (.cells #[.slice v2.code.a v2.code.len v2.code.cap, .int .i64 m.pc, .slice v2.regs.a v2.regs.len v2.regs.cap, .slice v2.data.a v2.data.len v2.data.cap, .slice v2.stk.a v2.stk.len v2.stk.cap, .slice v2.inp.a v2.inp.len v2.inp.cap, .slice v2.out.a v2.out.len v2.out.cap, .int .i64 m.steps, .int .i64 m.fin, .int .i64 m.val] 25)) := (d6.block _ (by have := B5.out.2; omega)).trans P5.out
  have B6 : Hid (Below w.heap.size w u6 ∧ w.heap.size + 2 ≤ u6.heap.size) := ⟨B5.out.1.trans (d6.mono (by have := B5.out.2; omega)), Nat.le_trans B5.out.2 d6.size⟩
  clear d6 Q5 P5 B5
  have kq6 : ∀ j, u6.cell? ⟨w.heap.size, j, none⟩ = (#[.slice v.code.a v.code.len v.code.cap, .int .i64 m.pc, .slice v.regs.a v.regs.len v.regs.cap, .slice v.data.a v.data.len v.data.cap, .slice v.stk.a v.stk.len v.stk.cap, .slice v.inp.a v.inp.len v.inp.cap, .slice v.out.a v.out.len v.out.cap, .int .i64 m.steps, .int .i64 m.fin, .int .i64 m.val] : Array Value)[j]? := fun j => cell_of_row u6 w.heap.size j _ 25 (0, 0) Q6.out
  have kp6 : ∀ j, u6.cell? ⟨w.heap.size + 1, j, none⟩ = (#[.slice v2.code.a v2.code.len v2.code.cap, .int .i64 m.pc, .slice v2.regs.a v2.regs.len v2.regs.cap, .slice v2.data.a v2.data.len v2.data.cap, .slice v2.stk.a v2.stk.len v2.stk.cap, .slice v2.inp.a v2.inp.len v2.inp.cap, .slice v2.out.a v2.out.len v2.out.cap, .int .i64 m.steps, .int .i64 m.fin, .int .i64 m.val] : Array Value)[j]? := fun j => cell_of_row u6 (w.heap.size + 1) j _ 25 (0, 0) P6.out
  go_wp2
  go_ret
  exact ⟨rfl, B6.out.1⟩
end Go.Proofs.Ytfcfnbncgadomaa.W
