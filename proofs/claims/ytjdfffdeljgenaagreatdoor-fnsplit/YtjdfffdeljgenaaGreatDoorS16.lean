import Derived.Test.YtjdfffdeljgenaaGreatDoorS14
import Derived.Test.YtjdfffdeljgenaaGreatDoorS15
import Derived.Test.YtjdfffdeljgenaaGreatDoorS05
import Derived.Test.YtjdfffdeljgenaaGreatDoorS09
import Derived.Test.YtjdfffdeljgenaaGreatDoorS17
import Derived.Test.YtjdfffdeljgenaaGreatDoorS28
import Derived.Test.YtjdfffdeljgenaaGreatDoorS01
set_option linter.unusedVariables false
set_option linter.unusedSimpArgs false
namespace Go.Proofs.YtjdfffdeljgenaaGreatDoor.W
open Go.RowKit
def DolMk (p g r c H k : Nat) (a b pc z : Int) (i : Pl.Ins) (v : MV) (X : Int)  (L : Array Bool) : Act := { tmps := #[.pointer (some ⟨p, 0, none⟩), .agg #[.int .i64 i.op, .int .i64 i.rd, .int .i64 i.r1, .int .i64 i.r2, .int .i64 i.im], undef, .pointer (some ⟨H, 0, none⟩), .pointer (some ⟨g, 0, none⟩), .int .i64 (a), .int .i64 (b), .int .i64 (pc + 4), .int .i64 (i.op), .pointer (some ⟨p, 0, none⟩), .pointer (some ⟨p, 0, none⟩), .pointer (some ⟨p, 0, none⟩), .pointer (some ⟨g, 0, none⟩), .pointer (some ⟨g, 0, none⟩), .pointer (some ⟨g, 0, none⟩), .pointer (some ⟨g, 2, none⟩), .slice (some ⟨r, 0, none⟩) 32 c, .pointer (some ⟨H, 2, none⟩), .int .i64 ((i.r1 : Int)), .pointer (some ⟨r, i.r1, none⟩), .int .i64 (a), .pointer (some ⟨g, 0, none⟩), .pointer (some ⟨g, 0, none⟩), .pointer (some ⟨g, 2, none⟩), .slice (some ⟨r, 0, none⟩) 32 c, .pointer (some ⟨H, 3, none⟩), .int .i64 ((i.r2 : Int)), .pointer (some ⟨r, i.r2, none⟩), .int .i64 (b), .pointer (some ⟨g, 0, none⟩), .pointer (some ⟨g, 0, none⟩), .pointer (some ⟨g, 1, none⟩), .int .i64 (pc), .int .i64 (pc + 4), .pointer (some ⟨H, 0, none⟩), .int .i64 (i.op), undef, .bool false, .int .i64 (i.op), .bool false, undef, undef, undef, undef, undef, undef, undef, .bool false, .int .i64 (i.op), .bool false, undef, undef, undef, undef, undef, undef, undef, undef, undef, undef, undef, .bool true, .int .i64 (i.op), .bool true, sl L 0 (.pointer (some ⟨p, 0, none⟩)), sl L 1 (.pointer (some ⟨H, 1, none⟩)), sl L 2 (.int .i64 ((i.rd : Int))), sl L 3 (.pointer (some ⟨p, 0, none⟩)), sl L 4 (.pointer (some ⟨p, 0, none⟩)), sl L 5 (.pointer (some ⟨p, 1, none⟩)), sl L 6 (.agg #[.iface 78 (.slice v.data.a v.data.len v.data.cap), .iface 79 (.slice v.stk.a v.stk.len v.stk.cap)]), sl L 7 (.int .i64 (i.op)), sl L 8 (.int .i64 ((k : Int))), sl L 9 (.pointer (some ⟨1, k, none⟩)), sl L 10 (.int .i64 (z)), sl L 11 (.int .i64 (a)), sl L 12 (.pointer (some ⟨H, 4, none⟩)), sl L 13 (.int .i64 (i.im)), sl L 14 (.int .i64 (a + i.im)), sl L 15 (.int .i64 (X)), sl L 16 (.tuple #[]), undef, undef, undef, undef, undef, undef, undef, undef, undef, undef, undef, undef, undef, undef, undef, undef, undef, undef, undef, undef, undef, undef, undef, undef, undef, undef, undef, undef, undef, undef, undef, undef, undef, undef, undef, undef, undef, undef, undef, undef, undef, undef, undef, undef, undef, undef, undef, undef, undef, undef, undef, undef, undef, undef, undef, undef, undef, undef, undef, undef, undef, undef, undef, undef, undef, undef, undef, undef, undef, undef, undef, undef, undef, undef, undef, undef, undef, undef, undef, undef, undef, undef, undef, undef, undef, undef, undef, undef, undef, undef, undef, undef, undef, undef, undef, undef, undef, undef, undef], defers := [] }
set_option maxRecDepth 8000 in
set_option maxHeartbeats 4000000 in
theorem rdo_load {D : Nat → Prop} {p g : Nat} {u : World} {v : MV} {m : Pl.Mac} (h : Rr D p g u v m) (hv : Pl.Vd m) (hfin : m.fin = 0) (i : Pl.Ins) (hi : Pl.InsOk i) (k : Nat) (hk : k < 5) (h1 : i.op = 28 + k) (ht : u.cell? ⟨1, k, none⟩ = some (.int .i64 (Pl.lsk i.op))) (hc1 : u.cell? ⟨p, 1, none⟩ = some (.iface 78 (.slice v.data.a v.data.len v.data.cap))) (hc2 : u.cell? ⟨p, 2, none⟩ = some (.iface 79 (.slice v.stk.a v.stk.len v.stk.cap))) : Calls Tryz.prog 62 #[.pointer (some ⟨p, 0, none⟩), .agg #[.int .i64 i.op, .int .i64 i.rd, .int .i64 i.r1, .int .i64 i.r2, .int .i64 i.im]] u fun e u' => e = ends (Pl.ldv m (Pl.lsk i.op) (Pl.rv m i.r1 + i.im)).2 ∧ (∃ v', MemS v v' ∧ Run D g u' v' (if (Pl.ldv m (Pl.lsk i.op) (Pl.rv m i.r1 + i.im)).2 = 0 then { Pl.setR m i.rd (Pl.ldv m (Pl.lsk i.op) (Pl.rv m i.r1 + i.im)).1 with pc := Pl.wd (m.pc + 4) } else m)) ∧ St D u u' := by
  obtain ⟨r, c, hr, hc, hf⟩ := h.run.regsAt hv.regs
  have cm := fl_alloc h.ptr
  have cp := fl_alloc (h.run.cell 1 : u.cell? ⟨g, 1, none⟩ = some (.int .i64 m.pc))
  have c8 := fl_alloc (show u.cell? ⟨g, 8, none⟩ = some (.int .i64 0) by rw [h.run.cell 8, ← hfin]; rfl)
  have f1 : ∀ o, (u.alloc o).frozen? ⟨g, 1, none⟩ = false := fun o => (h.run.keep (below_alloc u o)).unfrozen 1
  have cr := fl_alloc (show u.cell? ⟨g, 2, none⟩ = some (.slice (some ⟨r, 0, none⟩) 32 c) by rw [h.run.cell 2, hr]; rfl)
  have ca := fl_alloc (hc i.r1 (by have := hi.r1; omega) : u.cell? ⟨r, i.r1, none⟩ = some (.int .i64 (Pl.rv m i.r1)))
  have cb := fl_alloc (hc i.r2 (by have := hi.r2; omega) : u.cell? ⟨r, i.r2, none⟩ = some (.int .i64 (Pl.rv m i.r2)))
  have l1 : (i.r1 : Int) < 32 := by have := hi.r1; omega
  have l2 : (i.r2 : Int) < 32 := by have := hi.r2; omega
  have hw4 : IntKind.i64.wrap (m.pc + 4) = m.pc + 4 := by have := hv.pc; rw [IntKind.wrap_i64]; omega
  have hwi : IntKind.i64.wrap (m.pc + i.im) = m.pc + i.im := by have := hv.pc; have := hi.im; rw [IntKind.wrap_i64]; omega
  have hwm : IntKind.i64.wrap (i.im * 4096) = i.im * 4096 := by have := hi.im; rw [IntKind.wrap_i64]; omega
  have hwp : IntKind.i64.wrap (m.pc + i.im * 4096) = m.pc + i.im * 4096 := by have := hv.pc; have := hi.im; rw [IntKind.wrap_i64]; omega
  have o18 : decide (i.op ≤ 18) = false := by simp; omega
  have o27 : decide (i.op ≤ 27) = false := by simp; omega
  have o32 : decide (i.op ≤ 32) = true := by simp; omega
  have ct := fl_alloc ht
  have c1 := fl_alloc hc1
  have c2 := fl_alloc hc2
  have hwk : IntKind.i64.wrap (i.op - 28) = (k : Int) := by rw [IntKind.wrap_i64]; omega
  have hwl : wrap64 (i.op - 28) = (k : Int) := by unfold wrap64; omega
  have hk9 : (k : Int) < 5 := by omega
  have hz : 1 ≤ Pl.lsk i.op ∧ Pl.lsk i.op ≤ 5 := by unfold Pl.lsk; omega
  have hab : 0 ≤ Pl.rv m i.r1 ∧ Pl.rv m i.r1 ≤ 4294967295 := hv.word i.r1 (by have := hi.r1; omega)
  have hwa : IntKind.i64.wrap (Pl.rv m i.r1 + i.im) = Pl.rv m i.r1 + i.im := by have := hi.im; rw [IntKind.wrap_i64]; omega
  have hwb : wrap64 (Pl.rv m i.r1 + i.im) = Pl.rv m i.r1 + i.im := by have := hi.im; unfold wrap64; omega
  replace ca : ∀ o, (u.alloc o).cell? ⟨r, i.r1, none⟩ = some (.int .i64 (Pl.rv m i.r1)) := ca
  replace cb : ∀ o, (u.alloc o).cell? ⟨r, i.r2, none⟩ = some (.int .i64 (Pl.rv m i.r2)) := cb
  have HM : Hid (∀ U : World, Below u.heap.size u U → Calls Tryz.prog 81 #[.agg #[.iface 78 (.slice v.data.a v.data.len v.data.cap), .iface 79 (.slice v.stk.a v.stk.len v.stk.cap)], .int .i64 (Pl.lsk i.op), .int .i64 (Pl.rv m i.r1 + i.im)] U fun e u' => e = loadEnd (Pl.ldv m (Pl.lsk i.op) (Pl.rv m i.r1 + i.im)) ∧ Below U.heap.size U u') := fun U hU => rload_run (h.keep hU).run hv (Pl.lsk i.op) (Pl.rv m i.r1 + i.im) hz.1 hz.2 (by have := hi.im; omega)
  have HR : Hid (∀ U, Below u.heap.size u U → Run D g U v m ∧ St D u U) := fun U hU => ⟨h.run.keep hU, h.run.st hU⟩
  generalize hLD : Pl.ldv m (Pl.lsk i.op) (Pl.rv m i.r1 + i.im) = XF at *
  obtain ⟨X, F⟩ := XF
  dsimp only at HM ⊢
  have HS : Hid (∀ U : World, Below u.heap.size u U → U.heap[u.heap.size]? = some (.cells #[.int .i64 i.op, .int .i64 i.rd, .int .i64 i.r1, .int .i64 i.r2, .int .i64 i.im] 74) → Calls Tryz.prog 80 #[.pointer (some ⟨p, 0, none⟩), .int .i64 i.rd, .int .i64 (X)] U fun e u2 => e = .returned (.tuple #[]) ∧ (Run D g u2 v (Pl.setR m i.rd X) ∧ St D u u2) ∧ u2.cell? ⟨g, 1, none⟩ = some (.int .i64 m.pc) ∧ u2.cell? ⟨g, 8, none⟩ = some (.int .i64 0) ∧ u2.frozen? ⟨g, 1, none⟩ = false ∧ u2.cell? ⟨u.heap.size, 4, none⟩ = some (.int .i64 i.im)) := fun U hU hq => h.set hv hfin hi hU hq _
  generalize Pl.setR m i.rd X = m2 at *
  generalize Pl.lsk i.op = z at *
  generalize Pl.rv m i.r1 = a at *
  generalize Pl.rv m i.r2 = b at *
  clear h hc hf hr hfin hv h1 hk ht hz hab hc1 hc2 hLD
  go_enter Tryz.func62, Tryz.ntmps62
  go_wp2_with fail
  go_region
  go_upto_region 11 with fail
  refine wp_region_any (by kernel_rfl) ?_
  change wpAny _ _ _ _ _ _ _ (World.drew _)
  have HI0 : (u.alloc (.cells #[.int .i64 i.op, .int .i64 i.rd, .int .i64 i.r1, .int .i64 i.r2, .int .i64 i.im] 74)).drew.drew.heap[u.heap.size]? = some (.cells #[.int .i64 i.op, .int .i64 i.rd, .int .i64 i.r1, .int .i64 i.r2, .int .i64 i.im] 74) := heap_alloc_new u _
  have j1 : (u.alloc (.cells #[.int .i64 i.op, .int .i64 i.rd, .int .i64 i.r1, .int .i64 i.r2, .int .i64 i.im] 74)).drew.drew.cell? ⟨u.heap.size, 1, none⟩ = some (.int .i64 i.rd) := (ins_cells HI0).2.1
  have j4 : (u.alloc (.cells #[.int .i64 i.op, .int .i64 i.rd, .int .i64 i.r1, .int .i64 i.r2, .int .i64 i.im] 74)).drew.drew.cell? ⟨u.heap.size, 4, none⟩ = some (.int .i64 i.im) := (ins_cells HI0).2.2.2.2
  have d1 : (u.alloc (.cells #[.int .i64 i.op, .int .i64 i.rd, .int .i64 i.r1, .int .i64 i.r2, .int .i64 i.im] 74)).drew.drew.cell? ⟨p, 1, none⟩ = some (.iface 78 (.slice v.data.a v.data.len v.data.cap)) := c1 _
  have d2 : (u.alloc (.cells #[.int .i64 i.op, .int .i64 i.rd, .int .i64 i.r1, .int .i64 i.r2, .int .i64 i.im] 74)).drew.drew.cell? ⟨p, 2, none⟩ = some (.iface 79 (.slice v.stk.a v.stk.len v.stk.cap)) := c2 _
  have dt : (u.alloc (.cells #[.int .i64 i.op, .int .i64 i.rd, .int .i64 i.r1, .int .i64 i.r2, .int .i64 i.im] 74)).drew.drew.cell? ⟨1, k, none⟩ = some (.int .i64 z) := ct _
  refine wpAny_inw (fun L act w => ∃ w1, act = DolMk p g r c u.heap.size k a b m.pc z i v X L ∧ TwoW (u.alloc (.cells #[.int .i64 i.op, .int .i64 i.rd, .int .i64 i.r1, .int .i64 i.r2, .int .i64 i.im] 74)).drew.drew (fun w1 : World => F = 0 ∧ Below u.heap.size u w1 ∧ w1.heap[u.heap.size]? = some (.cells #[.int .i64 i.op, .int .i64 i.rd, .int .i64 i.r1, .int .i64 i.r2, .int .i64 i.im] 74) ∧ Below (u.alloc (.cells #[.int .i64 i.op, .int .i64 i.rd, .int .i64 i.r1, .int .i64 i.r2, .int .i64 i.im] 74)).drew.drew.heap.size (u.alloc (.cells #[.int .i64 i.op, .int .i64 i.rd, .int .i64 i.r1, .int .i64 i.r2, .int .i64 i.im] 74)).drew.drew w1) (fun u2 : World => F = 0 ∧ (Run D g u2 v m2 ∧ St D u u2) ∧ u2.cell? ⟨g, 1, none⟩ = some (.int .i64 m.pc) ∧ u2.cell? ⟨g, 8, none⟩ = some (.int .i64 0) ∧ u2.frozen? ⟨g, 1, none⟩ = false) 15 16 w1 L w) ?done (by kernel_rfl) ?step _ 17 _ _ (by kernel_rfl) ?init (by decide)
  case init => exact ⟨u, by simp only [DolMk, sl_no (up_init _ _)], TwoW.init⟩
  case step =>
    intro L act w i o hI hlt hs nl hC hd ho K hK
    obtain ⟨w1, rfl, hW⟩ := hI
    have hi_lt : i < 17 := (Array.getElem?_eq_some_iff.1 ho).1
    rcases (show i = 0 ∨ i = 1 ∨ i = 2 ∨ i = 3 ∨ i = 4 ∨ i = 5 ∨ i = 6 ∨ i = 7 ∨ i = 8 ∨ i = 9 ∨ i = 10 ∨ i = 11 ∨ i = 12 ∨ i = 13 ∨ i = 14 ∨ i = 15 ∨ i = 16 by omega) with rfl | rfl | rfl | rfl | rfl | rfl | rfl | rfl | rfl | rfl | rfl | rfl | rfl | rfl | rfl | rfl | rfl
    · change some _ = some o at ho
      cases ho
      simp only [DolMk]
      go_simp
      exact hK _ _ ⟨w1, by simp only [DolMk, sl_set hlt, reduceIte, Nat.reduceEqDiff]; try rfl, (hW.keep hlt (by decide) (by decide))⟩
    · change some _ = some o at ho
      cases ho
      simp only [DolMk]
      go_simp
      exact hK _ _ ⟨w1, by simp only [DolMk, sl_set hlt, reduceIte, Nat.reduceEqDiff]; try rfl, (hW.keep hlt (by decide) (by decide))⟩
    · change some _ = some o at ho
      cases ho
      have q1 : up L 1 = true := (by first | exact hd { on := 1, ground := .data } (by simp) rfl | exact hd { on := 1, ground := .chain } (by simp) rfl | exact hd { on := 1, ground := .phase } (by simp) rfl)
      have n16 : up L 16 = false := hC.no nl 16 rfl (by kernel_rfl)
      have xj1 := hW.cell n16 j1 (fun q => below_cell q.2.2.2 j1)
      simp only [DolMk, sl_yes q1]
      go_simp
      exact hK _ _ ⟨w1, by simp only [DolMk, sl_set hlt, sl_yes q1, reduceIte, Nat.reduceEqDiff]; try rfl, (hW.keep hlt (by decide) (by decide))⟩
    · change some _ = some o at ho
      cases ho
      simp only [DolMk]
      go_simp
      exact hK _ _ ⟨w1, by simp only [DolMk, sl_set hlt, reduceIte, Nat.reduceEqDiff]; try rfl, (hW.keep hlt (by decide) (by decide))⟩
    · change some _ = some o at ho
      cases ho
      have q3 : up L 3 = true := (by first | exact hd { on := 3, ground := .data } (by simp) rfl | exact hd { on := 3, ground := .chain } (by simp) rfl | exact hd { on := 3, ground := .phase } (by simp) rfl)
      simp only [DolMk, sl_yes q3]
      go_simp
      exact hK _ _ ⟨w1, by simp only [DolMk, sl_set hlt, sl_yes q3, reduceIte, Nat.reduceEqDiff]; try rfl, (hW.keep hlt (by decide) (by decide))⟩
    · change some _ = some o at ho
      cases ho
      have q4 : up L 4 = true := (by first | exact hd { on := 4, ground := .data } (by simp) rfl | exact hd { on := 4, ground := .chain } (by simp) rfl | exact hd { on := 4, ground := .phase } (by simp) rfl)
      simp only [DolMk, sl_yes q4]
      go_simp
      exact hK _ _ ⟨w1, by simp only [DolMk, sl_set hlt, sl_yes q4, reduceIte, Nat.reduceEqDiff]; try rfl, (hW.keep hlt (by decide) (by decide))⟩
    · change some _ = some o at ho
      cases ho
      have q5 : up L 5 = true := (by first | exact hd { on := 5, ground := .data } (by simp) rfl | exact hd { on := 5, ground := .chain } (by simp) rfl | exact hd { on := 5, ground := .phase } (by simp) rfl)
      have n15 : up L 15 = false := hC.no nl 15 rfl (by kernel_rfl)
      have n16 : up L 16 = false := hC.no n15 16 rfl (by kernel_rfl)
      have xd1 := hW.cell n16 d1 (fun q => below_cell q.2.2.2 d1)
      have xd2 := hW.cell n16 d2 (fun q => below_cell q.2.2.2 d2)
      simp only [DolMk, sl_yes q5]
      go_simp
      exact hK _ _ ⟨w1, by simp only [DolMk, sl_set hlt, sl_yes q5, reduceIte, Nat.reduceEqDiff]; try rfl, (hW.keep hlt (by decide) (by decide))⟩
    · change some _ = some o at ho
      cases ho
      simp only [DolMk]
      go_simp
      exact hK _ _ ⟨w1, by simp only [DolMk, sl_set hlt, reduceIte, Nat.reduceEqDiff]; try rfl, (hW.keep hlt (by decide) (by decide))⟩
    · change some _ = some o at ho
      cases ho
      have q7 : up L 7 = true := (by first | exact hd { on := 7, ground := .data } (by simp) rfl | exact hd { on := 7, ground := .chain } (by simp) rfl | exact hd { on := 7, ground := .phase } (by simp) rfl)
      simp only [DolMk, sl_yes q7]
      go_simp
      exact hK _ _ ⟨w1, by simp only [DolMk, sl_set hlt, sl_yes q7, reduceIte, Nat.reduceEqDiff]; try rfl, (hW.keep hlt (by decide) (by decide))⟩
    · change some _ = some o at ho
      cases ho
      have q8 : up L 8 = true := (by first | exact hd { on := 8, ground := .data } (by simp) rfl | exact hd { on := 8, ground := .chain } (by simp) rfl | exact hd { on := 8, ground := .phase } (by simp) rfl)
      simp only [DolMk, sl_yes q8]
      go_simp
      exact hK _ _ ⟨w1, by simp only [DolMk, sl_set hlt, sl_yes q8, reduceIte, Nat.reduceEqDiff]; try rfl, (hW.keep hlt (by decide) (by decide))⟩
    · change some _ = some o at ho
      cases ho
      have q9 : up L 9 = true := (by first | exact hd { on := 9, ground := .data } (by simp) rfl | exact hd { on := 9, ground := .chain } (by simp) rfl | exact hd { on := 9, ground := .phase } (by simp) rfl)
      have n15 : up L 15 = false := hC.no nl 15 rfl (by kernel_rfl)
      have n16 : up L 16 = false := hC.no n15 16 rfl (by kernel_rfl)
      have xdt := hW.cell n16 dt (fun q => below_cell q.2.2.2 dt)
      simp only [DolMk, sl_yes q9]
      go_simp
      exact hK _ _ ⟨w1, by simp only [DolMk, sl_set hlt, sl_yes q9, reduceIte, Nat.reduceEqDiff]; try rfl, (hW.keep hlt (by decide) (by decide))⟩
    · change some _ = some o at ho
      cases ho
      simp only [DolMk]
      go_simp
      exact hK _ _ ⟨w1, by simp only [DolMk, sl_set hlt, reduceIte, Nat.reduceEqDiff]; try rfl, (hW.keep hlt (by decide) (by decide))⟩
    · change some _ = some o at ho
      cases ho
      simp only [DolMk]
      go_simp
      exact hK _ _ ⟨w1, by simp only [DolMk, sl_set hlt, reduceIte, Nat.reduceEqDiff]; try rfl, (hW.keep hlt (by decide) (by decide))⟩
    · change some _ = some o at ho
      cases ho
      have q12 : up L 12 = true := (by first | exact hd { on := 12, ground := .data } (by simp) rfl | exact hd { on := 12, ground := .chain } (by simp) rfl | exact hd { on := 12, ground := .phase } (by simp) rfl)
      have n14 : up L 14 = false := hC.no nl 14 rfl (by kernel_rfl)
      have n15 : up L 15 = false := hC.no n14 15 rfl (by kernel_rfl)
      have n16 : up L 16 = false := hC.no n15 16 rfl (by kernel_rfl)
      have xj4 := hW.cell n16 j4 (fun q => below_cell q.2.2.2 j4)
      simp only [DolMk, sl_yes q12]
      go_simp
      exact hK _ _ ⟨w1, by simp only [DolMk, sl_set hlt, sl_yes q12, reduceIte, Nat.reduceEqDiff]; try rfl, (hW.keep hlt (by decide) (by decide))⟩
    · change some _ = some o at ho
      cases ho
      have q11 : up L 11 = true := (by first | exact hd { on := 11, ground := .data } (by simp) rfl | exact hd { on := 11, ground := .chain } (by simp) rfl | exact hd { on := 11, ground := .phase } (by simp) rfl)
      have q13 : up L 13 = true := (by first | exact hd { on := 13, ground := .data } (by simp) rfl | exact hd { on := 13, ground := .chain } (by simp) rfl | exact hd { on := 13, ground := .phase } (by simp) rfl)
      simp only [DolMk, sl_yes q11, sl_yes q13]
      go_simp
      exact hK _ _ ⟨w1, by simp only [DolMk, sl_set hlt, sl_yes q11, sl_yes q13, reduceIte, Nat.reduceEqDiff]; try rfl, (hW.keep hlt (by decide) (by decide))⟩
    · change some _ = some o at ho
      cases ho
      have q6 : up L 6 = true := (by first | exact hd { on := 6, ground := .data } (by simp) rfl | exact hd { on := 6, ground := .chain } (by simp) rfl | exact hd { on := 6, ground := .phase } (by simp) rfl)
      have q10 : up L 10 = true := (by first | exact hd { on := 10, ground := .data } (by simp) rfl | exact hd { on := 10, ground := .chain } (by simp) rfl | exact hd { on := 10, ground := .phase } (by simp) rfl)
      have q14 : up L 14 = true := (by first | exact hd { on := 14, ground := .data } (by simp) rfl | exact hd { on := 14, ground := .chain } (by simp) rfl | exact hd { on := 14, ground := .phase } (by simp) rfl)
      have n16 : up L 16 = false := hC.no nl 16 rfl (by kernel_rfl)
      obtain rfl := hW.1 nl
      simp only [DolMk, sl_yes q6, sl_yes q10, sl_yes q14]
      go_simp
      refine (HM.out _ (by repeat (first | exact below_alloc _ _ | refine Below.drew ?_ | refine below_drewN ?_ _))).mono ?_
      rintro e w2 ⟨rfl, d1⟩
      by_cases hF : F = 0
      rotate_left
      · rw [show loadEnd (X, F) = .panicked [{ v := .iface 97 (.int .i64 F), recovered := false }] by unfold loadEnd; rw [if_neg hF]]
        refine panic_exit rfl ?_
        refine ⟨by unfold ends; rw [if_neg hF], ⟨v, MemS.refl v, ?_⟩, ?_⟩
        · rw [if_neg hF]
          exact (HR.out _ (Below.trans (by repeat (first | exact below_alloc _ _ | refine Below.drew ?_ | refine below_drewN ?_ _)) (d1.mono (by simp)))).1
        · exact (HR.out _ (Below.trans (by repeat (first | exact below_alloc _ _ | refine Below.drew ?_ | refine below_drewN ?_ _)) (d1.mono (by simp)))).2
      rw [show loadEnd (X, F) = .returned (.int .i64 X) by unfold loadEnd; rw [if_pos hF]]
      go_simp
      exact hK _ _ ⟨w2, by simp only [DolMk, sl_set hlt, sl_yes q6, sl_yes q10, sl_yes q14, reduceIte, Nat.reduceEqDiff]; try rfl, TwoW.first hlt (by decide) n16 ⟨hF, Below.trans (by repeat (first | exact below_alloc _ _ | refine Below.drew ?_ | refine below_drewN ?_ _)) (d1.mono (by simp)), (d1.block _ (by simp)).trans (heap_alloc_new u _), d1⟩⟩
    · change some _ = some o at ho
      cases ho
      have q0 : up L 0 = true := (by first | exact hd { on := 0, ground := .data } (by simp) rfl | exact hd { on := 0, ground := .chain } (by simp) rfl | exact hd { on := 0, ground := .phase } (by simp) rfl)
      have q2 : up L 2 = true := (by first | exact hd { on := 2, ground := .data } (by simp) rfl | exact hd { on := 2, ground := .chain } (by simp) rfl | exact hd { on := 2, ground := .phase } (by simp) rfl)
      have q15 : up L 15 = true := (by first | exact hd { on := 15, ground := .data } (by simp) rfl | exact hd { on := 15, ground := .chain } (by simp) rfl | exact hd { on := 15, ground := .phase } (by simp) rfl)
      obtain ⟨⟨hF, y1, y2, y3⟩, y4, _⟩ := hW.2 q15
      obtain rfl := y4 nl
      simp only [DolMk, sl_yes q0, sl_yes q2, sl_yes q15]
      go_simp
      refine (HS.out _ y1 y2).mono ?_
      rintro e u2 ⟨rfl, hr2, z1, z8, zf, z4⟩
      go_simp
      exact hK _ _ ⟨w, by simp only [DolMk, sl_set hlt, sl_yes q0, sl_yes q2, sl_yes q15, reduceIte, Nat.reduceEqDiff]; try rfl, hW.second hlt q15 ⟨hF, hr2, z1, z8, zf⟩⟩
  case done =>
    rintro L act w ⟨w1, rfl, hW⟩ hall
    obtain ⟨_, _, y2⟩ := hW.2 (hall 15 (by decide))
    obtain ⟨hF, hr2, z1, z8, zf⟩ := y2 (hall 16 (by decide))
    have H2 : Hid (Run D g w v m2 ∧ St D u w) := hr2
    clear hr2 hW y2
    subst hF
    simp only [DolMk, sl_yes (hall 0 (by decide)), sl_yes (hall 1 (by decide)), sl_yes (hall 2 (by decide)), sl_yes (hall 3 (by decide)), sl_yes (hall 4 (by decide)), sl_yes (hall 5 (by decide)), sl_yes (hall 6 (by decide)), sl_yes (hall 7 (by decide)), sl_yes (hall 8 (by decide)), sl_yes (hall 9 (by decide)), sl_yes (hall 10 (by decide)), sl_yes (hall 11 (by decide)), sl_yes (hall 12 (by decide)), sl_yes (hall 13 (by decide)), sl_yes (hall 14 (by decide)), sl_yes (hall 15 (by decide)), sl_yes (hall 16 (by decide))]
    go_wp2_with (go_at_call 64; refine (implWord_any _ _).mono ?_; rintro e u3 ⟨rfl, rfl⟩)
    go_end0
    exact ⟨rfl, ⟨v, MemS.refl v, by first | exact H2.out.1.setPc _ | (rw [if_pos rfl]; exact H2.out.1.setPc _)⟩, H2.out.2.trans (St.set (H2.out.1.ne 0 rfl))⟩

end Go.Proofs.YtjdfffdeljgenaaGreatDoor.W
namespace Go.Proofs.YtjdfffdeljgenaaGreatDoor.Pl
theorem stv_pc (m : Mac) (k a x : Int) : (stv m k a x).1.pc = m.pc := by
  unfold stv
  split
  · rfl
  · split
    · rfl
    · split <;> rfl
theorem stv_fin (m : Mac) (k a x : Int) : (stv m k a x).1.fin = m.fin := by
  unfold stv
  split
  · rfl
  · split
    · rfl
    · split <;> rfl
end Go.Proofs.YtjdfffdeljgenaaGreatDoor.Pl
namespace Go.Proofs.YtjdfffdeljgenaaGreatDoor.W
open Go.RowKit
def DosMk (p g r c H k : Nat) (a b pc z : Int) (i : Pl.Ins) (v : MV)  (L : Array Bool) : Act := { tmps := #[.pointer (some ⟨p, 0, none⟩), .agg #[.int .i64 i.op, .int .i64 i.rd, .int .i64 i.r1, .int .i64 i.r2, .int .i64 i.im], undef, .pointer (some ⟨H, 0, none⟩), .pointer (some ⟨g, 0, none⟩), .int .i64 (a), .int .i64 (b), .int .i64 (pc + 4), .int .i64 (i.op), .pointer (some ⟨p, 0, none⟩), .pointer (some ⟨p, 0, none⟩), .pointer (some ⟨p, 0, none⟩), .pointer (some ⟨g, 0, none⟩), .pointer (some ⟨g, 0, none⟩), .pointer (some ⟨g, 0, none⟩), .pointer (some ⟨g, 2, none⟩), .slice (some ⟨r, 0, none⟩) 32 c, .pointer (some ⟨H, 2, none⟩), .int .i64 ((i.r1 : Int)), .pointer (some ⟨r, i.r1, none⟩), .int .i64 (a), .pointer (some ⟨g, 0, none⟩), .pointer (some ⟨g, 0, none⟩), .pointer (some ⟨g, 2, none⟩), .slice (some ⟨r, 0, none⟩) 32 c, .pointer (some ⟨H, 3, none⟩), .int .i64 ((i.r2 : Int)), .pointer (some ⟨r, i.r2, none⟩), .int .i64 (b), .pointer (some ⟨g, 0, none⟩), .pointer (some ⟨g, 0, none⟩), .pointer (some ⟨g, 1, none⟩), .int .i64 (pc), .int .i64 (pc + 4), .pointer (some ⟨H, 0, none⟩), .int .i64 (i.op), undef, .bool false, .int .i64 (i.op), .bool false, undef, undef, undef, undef, undef, undef, undef, .bool false, .int .i64 (i.op), .bool false, undef, undef, undef, undef, undef, undef, undef, undef, undef, undef, undef, .bool false, .int .i64 (i.op), .bool false, undef, undef, undef, undef, undef, undef, undef, undef, undef, undef, undef, undef, undef, undef, undef, undef, undef, .bool false, .int .i64 (i.op), .bool false, undef, undef, undef, undef, undef, undef, undef, undef, undef, undef, .bool true, .int .i64 (i.op), .bool true, sl L 0 (.pointer (some ⟨p, 0, none⟩)), sl L 1 (.pointer (some ⟨p, 0, none⟩)), sl L 2 (.pointer (some ⟨p, 1, none⟩)), sl L 3 (.agg #[.iface 78 (.slice v.data.a v.data.len v.data.cap), .iface 79 (.slice v.stk.a v.stk.len v.stk.cap)]), sl L 4 (.int .i64 (i.op)), sl L 5 (.int .i64 ((k : Int))), sl L 6 (.pointer (some ⟨2, k, none⟩)), sl L 7 (.int .i64 (z)), sl L 8 (.int .i64 (a)), sl L 9 (.pointer (some ⟨H, 4, none⟩)), sl L 10 (.int .i64 (i.im)), sl L 11 (.int .i64 (a + i.im)), sl L 12 (.int .i64 (b)), sl L 13 (.tuple #[]), undef, undef, undef, undef, undef, undef, undef, undef, undef, undef, undef, undef, undef, undef, undef, undef, undef, undef, undef, undef, undef, undef, undef, undef, undef, undef, undef, undef, undef, undef, undef, undef, undef, undef, undef, undef, undef, undef, undef, undef, undef, undef, undef, undef, undef, undef, undef, undef, undef, undef, undef, undef, undef, undef, undef, undef, undef, undef, undef, undef, undef, undef, undef, undef, undef, undef, undef, undef, undef], defers := [] }
set_option maxRecDepth 8000 in
set_option maxHeartbeats 4000000 in
theorem rdo_store {D : Nat → Prop} {p g : Nat} {u : World} {v : MV} {m : Pl.Mac} (h : Rr D p g u v m) (hv : Pl.Vd m) (hfin : m.fin = 0) (i : Pl.Ins) (hi : Pl.InsOk i) (k : Nat) (hk : k < 3) (h1 : i.op = 34 + k) (ht : u.cell? ⟨2, k, none⟩ = some (.int .i64 (Pl.lsk i.op))) (hc1 : u.cell? ⟨p, 1, none⟩ = some (.iface 78 (.slice v.data.a v.data.len v.data.cap))) (hc2 : u.cell? ⟨p, 2, none⟩ = some (.iface 79 (.slice v.stk.a v.stk.len v.stk.cap))) : Calls Tryz.prog 62 #[.pointer (some ⟨p, 0, none⟩), .agg #[.int .i64 i.op, .int .i64 i.rd, .int .i64 i.r1, .int .i64 i.r2, .int .i64 i.im]] u fun e u' => e = ends (Pl.stv m (Pl.lsk i.op) (Pl.rv m i.r1 + i.im) (Pl.rv m i.r2)).2 ∧ (∃ v', MemS v v' ∧ Run D g u' v' (if (Pl.stv m (Pl.lsk i.op) (Pl.rv m i.r1 + i.im) (Pl.rv m i.r2)).2 = 0 then { (Pl.stv m (Pl.lsk i.op) (Pl.rv m i.r1 + i.im) (Pl.rv m i.r2)).1 with pc := Pl.wd (m.pc + 4) } else (Pl.stv m (Pl.lsk i.op) (Pl.rv m i.r1 + i.im) (Pl.rv m i.r2)).1)) ∧ St D u u' := by
  obtain ⟨r, c, hr, hc, hf⟩ := h.run.regsAt hv.regs
  have cm := fl_alloc h.ptr
  have cp := fl_alloc (h.run.cell 1 : u.cell? ⟨g, 1, none⟩ = some (.int .i64 m.pc))
  have c8 := fl_alloc (show u.cell? ⟨g, 8, none⟩ = some (.int .i64 0) by rw [h.run.cell 8, ← hfin]; rfl)
  have f1 : ∀ o, (u.alloc o).frozen? ⟨g, 1, none⟩ = false := fun o => (h.run.keep (below_alloc u o)).unfrozen 1
  have cr := fl_alloc (show u.cell? ⟨g, 2, none⟩ = some (.slice (some ⟨r, 0, none⟩) 32 c) by rw [h.run.cell 2, hr]; rfl)
  have ca := fl_alloc (hc i.r1 (by have := hi.r1; omega) : u.cell? ⟨r, i.r1, none⟩ = some (.int .i64 (Pl.rv m i.r1)))
  have cb := fl_alloc (hc i.r2 (by have := hi.r2; omega) : u.cell? ⟨r, i.r2, none⟩ = some (.int .i64 (Pl.rv m i.r2)))
  have l1 : (i.r1 : Int) < 32 := by have := hi.r1; omega
  have l2 : (i.r2 : Int) < 32 := by have := hi.r2; omega
  have hw4 : IntKind.i64.wrap (m.pc + 4) = m.pc + 4 := by have := hv.pc; rw [IntKind.wrap_i64]; omega
  have hwi : IntKind.i64.wrap (m.pc + i.im) = m.pc + i.im := by have := hv.pc; have := hi.im; rw [IntKind.wrap_i64]; omega
  have hwm : IntKind.i64.wrap (i.im * 4096) = i.im * 4096 := by have := hi.im; rw [IntKind.wrap_i64]; omega
  have hwp : IntKind.i64.wrap (m.pc + i.im * 4096) = m.pc + i.im * 4096 := by have := hv.pc; have := hi.im; rw [IntKind.wrap_i64]; omega
  have o18 : decide (i.op ≤ 18) = false := by simp; omega
  have o27 : decide (i.op ≤ 27) = false := by simp; omega
  have o32 : decide (i.op ≤ 32) = false := by simp; omega
  have o33 : (i.op == 33) = false := by simp; omega
  have o36 : decide (i.op ≤ 36) = true := by simp; omega
  have ct := fl_alloc ht
  have c1 := fl_alloc hc1
  have c2 := fl_alloc hc2
  have hwk : IntKind.i64.wrap (i.op - 34) = (k : Int) := by rw [IntKind.wrap_i64]; omega
  have hwl : wrap64 (i.op - 34) = (k : Int) := by unfold wrap64; omega
  have hk9 : (k : Int) < 3 := by omega
  have hz : 1 ≤ Pl.lsk i.op ∧ Pl.lsk i.op ≤ 5 := by unfold Pl.lsk; omega
  have hab : 0 ≤ Pl.rv m i.r1 ∧ Pl.rv m i.r1 ≤ 4294967295 := hv.word i.r1 (by have := hi.r1; omega)
  have hbb : 0 ≤ Pl.rv m i.r2 ∧ Pl.rv m i.r2 ≤ 4294967295 := hv.word i.r2 (by have := hi.r2; omega)
  have hwa : IntKind.i64.wrap (Pl.rv m i.r1 + i.im) = Pl.rv m i.r1 + i.im := by have := hi.im; rw [IntKind.wrap_i64]; omega
  have hwb : wrap64 (Pl.rv m i.r1 + i.im) = Pl.rv m i.r1 + i.im := by have := hi.im; unfold wrap64; omega
  replace ca : ∀ o, (u.alloc o).cell? ⟨r, i.r1, none⟩ = some (.int .i64 (Pl.rv m i.r1)) := ca
  replace cb : ∀ o, (u.alloc o).cell? ⟨r, i.r2, none⟩ = some (.int .i64 (Pl.rv m i.r2)) := cb
  have HM : Hid (∀ U : World, Below u.heap.size u U → Calls Tryz.prog 82 #[.agg #[.iface 78 (.slice v.data.a v.data.len v.data.cap), .iface 79 (.slice v.stk.a v.stk.len v.stk.cap)], .int .i64 (Pl.lsk i.op), .int .i64 (Pl.rv m i.r1 + i.im), .int .i64 (Pl.rv m i.r2)] U fun e u2 => e = (if (Pl.stv m (Pl.lsk i.op) (Pl.rv m i.r1 + i.im) (Pl.rv m i.r2)).2 = 0 then Ending.returned (.tuple #[]) else .panicked [{ v := .iface 97 (.int .i64 (Pl.stv m (Pl.lsk i.op) (Pl.rv m i.r1 + i.im) (Pl.rv m i.r2)).2), recovered := false }]) ∧ (Run D g u2 v (Pl.stv m (Pl.lsk i.op) (Pl.rv m i.r1 + i.im) (Pl.rv m i.r2)).1 ∧ St D u u2) ∧ u2.cell? ⟨g, 1, none⟩ = some (.int .i64 m.pc) ∧ u2.cell? ⟨g, 8, none⟩ = some (.int .i64 0) ∧ u2.frozen? ⟨g, 1, none⟩ = false) := fun U hU => by
    refine (rstore_run (h.keep hU).run hv (Pl.lsk i.op) (Pl.rv m i.r1 + i.im) (Pl.rv m i.r2) hz.1 hz.2 (by have := hi.im; omega) (by omega)).mono fun e u2 ⟨he, hR, hS⟩ => ⟨he, ⟨hR, (h.run.st hU).trans hS⟩, ?_, ?_, hR.unfrozen 1⟩
    · rw [hR.cell 1, Pl.stv_pc]; rfl
    · rw [hR.cell 8, Pl.stv_fin, hfin]; rfl
  generalize hSV : Pl.stv m (Pl.lsk i.op) (Pl.rv m i.r1 + i.im) (Pl.rv m i.r2) = XF at *
  obtain ⟨m2, F⟩ := XF
  dsimp only at HM ⊢
  generalize Pl.lsk i.op = z at *
  generalize Pl.rv m i.r1 = a at *
  generalize Pl.rv m i.r2 = b at *
  clear h hc hf hr hfin hv h1 hk ht hz hab hbb hc1 hc2 hSV
  go_enter Tryz.func62, Tryz.ntmps62
  go_wp2_with fail
  go_region
  go_upto_region 16 with fail
  refine wp_region_any (by kernel_rfl) ?_
  change wpAny _ _ _ _ _ _ _ (World.drew _)
  have HI0 : (u.alloc (.cells #[.int .i64 i.op, .int .i64 i.rd, .int .i64 i.r1, .int .i64 i.r2, .int .i64 i.im] 74)).drew.drew.heap[u.heap.size]? = some (.cells #[.int .i64 i.op, .int .i64 i.rd, .int .i64 i.r1, .int .i64 i.r2, .int .i64 i.im] 74) := heap_alloc_new u _
  have j4 : (u.alloc (.cells #[.int .i64 i.op, .int .i64 i.rd, .int .i64 i.r1, .int .i64 i.r2, .int .i64 i.im] 74)).drew.drew.cell? ⟨u.heap.size, 4, none⟩ = some (.int .i64 i.im) := (ins_cells HI0).2.2.2.2
  have d1 : (u.alloc (.cells #[.int .i64 i.op, .int .i64 i.rd, .int .i64 i.r1, .int .i64 i.r2, .int .i64 i.im] 74)).drew.drew.cell? ⟨p, 1, none⟩ = some (.iface 78 (.slice v.data.a v.data.len v.data.cap)) := c1 _
  have d2 : (u.alloc (.cells #[.int .i64 i.op, .int .i64 i.rd, .int .i64 i.r1, .int .i64 i.r2, .int .i64 i.im] 74)).drew.drew.cell? ⟨p, 2, none⟩ = some (.iface 79 (.slice v.stk.a v.stk.len v.stk.cap)) := c2 _
  have dt : (u.alloc (.cells #[.int .i64 i.op, .int .i64 i.rd, .int .i64 i.r1, .int .i64 i.r2, .int .i64 i.im] 74)).drew.drew.cell? ⟨2, k, none⟩ = some (.int .i64 z) := ct _
  refine wpAny_inw (fun L act w => act = DosMk p g r c u.heap.size k a b m.pc z i v L ∧ OneW (u.alloc (.cells #[.int .i64 i.op, .int .i64 i.rd, .int .i64 i.r1, .int .i64 i.r2, .int .i64 i.im] 74)).drew.drew (fun w1 : World => F = 0 ∧ (Run D g w1 v m2 ∧ St D u w1) ∧ w1.cell? ⟨g, 1, none⟩ = some (.int .i64 m.pc) ∧ w1.cell? ⟨g, 8, none⟩ = some (.int .i64 0) ∧ w1.frozen? ⟨g, 1, none⟩ = false) 13 L w) ?done (by kernel_rfl) ?step _ 14 _ _ (by kernel_rfl) ?init (by decide)
  case init => exact ⟨by simp only [DosMk, sl_no (up_init _ _)], OneW.init⟩
  case step =>
    intro L act w i o hI hlt hs nl hC hd ho K hK
    obtain ⟨rfl, hW⟩ := hI
    have hi_lt : i < 14 := (Array.getElem?_eq_some_iff.1 ho).1
    rcases (show i = 0 ∨ i = 1 ∨ i = 2 ∨ i = 3 ∨ i = 4 ∨ i = 5 ∨ i = 6 ∨ i = 7 ∨ i = 8 ∨ i = 9 ∨ i = 10 ∨ i = 11 ∨ i = 12 ∨ i = 13 by omega) with rfl | rfl | rfl | rfl | rfl | rfl | rfl | rfl | rfl | rfl | rfl | rfl | rfl | rfl
    · change some _ = some o at ho
      cases ho
      simp only [DosMk]
      go_simp
      exact hK _ _ ⟨by simp only [DosMk, sl_set hlt, reduceIte, Nat.reduceEqDiff]; try rfl, (hW.keep hlt (by decide))⟩
    · change some _ = some o at ho
      cases ho
      have q0 : up L 0 = true := (by first | exact hd { on := 0, ground := .data } (by simp) rfl | exact hd { on := 0, ground := .chain } (by simp) rfl | exact hd { on := 0, ground := .phase } (by simp) rfl)
      simp only [DosMk, sl_yes q0]
      go_simp
      exact hK _ _ ⟨by simp only [DosMk, sl_set hlt, sl_yes q0, reduceIte, Nat.reduceEqDiff]; try rfl, (hW.keep hlt (by decide))⟩
    · change some _ = some o at ho
      cases ho
      have q1 : up L 1 = true := (by first | exact hd { on := 1, ground := .data } (by simp) rfl | exact hd { on := 1, ground := .chain } (by simp) rfl | exact hd { on := 1, ground := .phase } (by simp) rfl)
      simp only [DosMk, sl_yes q1]
      go_simp
      exact hK _ _ ⟨by simp only [DosMk, sl_set hlt, sl_yes q1, reduceIte, Nat.reduceEqDiff]; try rfl, (hW.keep hlt (by decide))⟩
    · change some _ = some o at ho
      cases ho
      have q2 : up L 2 = true := (by first | exact hd { on := 2, ground := .data } (by simp) rfl | exact hd { on := 2, ground := .chain } (by simp) rfl | exact hd { on := 2, ground := .phase } (by simp) rfl)
      have n13 : up L 13 = false := hC.no nl 13 rfl (by kernel_rfl)
      obtain rfl := hW.1 n13
      have xd1 := d1
      have xd2 := d2
      simp only [DosMk, sl_yes q2]
      go_simp
      exact hK _ _ ⟨by simp only [DosMk, sl_set hlt, sl_yes q2, reduceIte, Nat.reduceEqDiff]; try rfl, (hW.keep hlt (by decide))⟩
    · change some _ = some o at ho
      cases ho
      simp only [DosMk]
      go_simp
      exact hK _ _ ⟨by simp only [DosMk, sl_set hlt, reduceIte, Nat.reduceEqDiff]; try rfl, (hW.keep hlt (by decide))⟩
    · change some _ = some o at ho
      cases ho
      have q4 : up L 4 = true := (by first | exact hd { on := 4, ground := .data } (by simp) rfl | exact hd { on := 4, ground := .chain } (by simp) rfl | exact hd { on := 4, ground := .phase } (by simp) rfl)
      simp only [DosMk, sl_yes q4]
      go_simp
      exact hK _ _ ⟨by simp only [DosMk, sl_set hlt, sl_yes q4, reduceIte, Nat.reduceEqDiff]; try rfl, (hW.keep hlt (by decide))⟩
    · change some _ = some o at ho
      cases ho
      have q5 : up L 5 = true := (by first | exact hd { on := 5, ground := .data } (by simp) rfl | exact hd { on := 5, ground := .chain } (by simp) rfl | exact hd { on := 5, ground := .phase } (by simp) rfl)
      simp only [DosMk, sl_yes q5]
      go_simp
      exact hK _ _ ⟨by simp only [DosMk, sl_set hlt, sl_yes q5, reduceIte, Nat.reduceEqDiff]; try rfl, (hW.keep hlt (by decide))⟩
    · change some _ = some o at ho
      cases ho
      have q6 : up L 6 = true := (by first | exact hd { on := 6, ground := .data } (by simp) rfl | exact hd { on := 6, ground := .chain } (by simp) rfl | exact hd { on := 6, ground := .phase } (by simp) rfl)
      have n13 : up L 13 = false := hC.no nl 13 rfl (by kernel_rfl)
      obtain rfl := hW.1 n13
      simp only [DosMk, sl_yes q6]
      go_simp
      exact hK _ _ ⟨by simp only [DosMk, sl_set hlt, sl_yes q6, reduceIte, Nat.reduceEqDiff]; try rfl, (hW.keep hlt (by decide))⟩
    · change some _ = some o at ho
      cases ho
      simp only [DosMk]
      go_simp
      exact hK _ _ ⟨by simp only [DosMk, sl_set hlt, reduceIte, Nat.reduceEqDiff]; try rfl, (hW.keep hlt (by decide))⟩
    · change some _ = some o at ho
      cases ho
      simp only [DosMk]
      go_simp
      exact hK _ _ ⟨by simp only [DosMk, sl_set hlt, reduceIte, Nat.reduceEqDiff]; try rfl, (hW.keep hlt (by decide))⟩
    · change some _ = some o at ho
      cases ho
      have q9 : up L 9 = true := (by first | exact hd { on := 9, ground := .data } (by simp) rfl | exact hd { on := 9, ground := .chain } (by simp) rfl | exact hd { on := 9, ground := .phase } (by simp) rfl)
      have n11 : up L 11 = false := hC.no nl 11 rfl (by kernel_rfl)
      have n13 : up L 13 = false := hC.no n11 13 rfl (by kernel_rfl)
      obtain rfl := hW.1 n13
      simp only [DosMk, sl_yes q9]
      go_simp
      exact hK _ _ ⟨by simp only [DosMk, sl_set hlt, sl_yes q9, reduceIte, Nat.reduceEqDiff]; try rfl, (hW.keep hlt (by decide))⟩
    · change some _ = some o at ho
      cases ho
      have q8 : up L 8 = true := (by first | exact hd { on := 8, ground := .data } (by simp) rfl | exact hd { on := 8, ground := .chain } (by simp) rfl | exact hd { on := 8, ground := .phase } (by simp) rfl)
      have q10 : up L 10 = true := (by first | exact hd { on := 10, ground := .data } (by simp) rfl | exact hd { on := 10, ground := .chain } (by simp) rfl | exact hd { on := 10, ground := .phase } (by simp) rfl)
      simp only [DosMk, sl_yes q8, sl_yes q10]
      go_simp
      exact hK _ _ ⟨by simp only [DosMk, sl_set hlt, sl_yes q8, sl_yes q10, reduceIte, Nat.reduceEqDiff]; try rfl, (hW.keep hlt (by decide))⟩
    · change some _ = some o at ho
      cases ho
      simp only [DosMk]
      go_simp
      exact hK _ _ ⟨by simp only [DosMk, sl_set hlt, reduceIte, Nat.reduceEqDiff]; try rfl, (hW.keep hlt (by decide))⟩
    · change some _ = some o at ho
      cases ho
      have q3 : up L 3 = true := (by first | exact hd { on := 3, ground := .data } (by simp) rfl | exact hd { on := 3, ground := .chain } (by simp) rfl | exact hd { on := 3, ground := .phase } (by simp) rfl)
      have q7 : up L 7 = true := (by first | exact hd { on := 7, ground := .data } (by simp) rfl | exact hd { on := 7, ground := .chain } (by simp) rfl | exact hd { on := 7, ground := .phase } (by simp) rfl)
      have q11 : up L 11 = true := (by first | exact hd { on := 11, ground := .data } (by simp) rfl | exact hd { on := 11, ground := .chain } (by simp) rfl | exact hd { on := 11, ground := .phase } (by simp) rfl)
      have q12 : up L 12 = true := (by first | exact hd { on := 12, ground := .data } (by simp) rfl | exact hd { on := 12, ground := .chain } (by simp) rfl | exact hd { on := 12, ground := .phase } (by simp) rfl)
      obtain rfl := hW.1 nl
      simp only [DosMk, sl_yes q3, sl_yes q7, sl_yes q11, sl_yes q12]
      go_simp
      refine (HM.out _ (by repeat (first | exact below_alloc _ _ | refine Below.drew ?_ | refine below_drewN ?_ _))).mono ?_
      rintro e w2 ⟨rfl, hr2, z1, z8, zf⟩
      by_cases hF : F = 0
      rotate_left
      · rw [if_neg hF]
        refine panic_exit rfl ?_
        refine ⟨by unfold ends; rw [if_neg hF], ⟨v, MemS.refl v, ?_⟩, hr2.2⟩
        rw [if_neg hF]
        exact hr2.1
      rw [if_pos hF]
      go_simp
      exact hK _ _ ⟨by simp only [DosMk, sl_set hlt, sl_yes q3, sl_yes q7, sl_yes q11, sl_yes q12, reduceIte, Nat.reduceEqDiff]; try rfl, OneW.first hlt ⟨hF, hr2, z1, z8, zf⟩⟩
  case done =>
    rintro L act w ⟨rfl, hW⟩ hall
    obtain ⟨hF, hr2, z1, z8, zf⟩ := hW.2 (hall 13 (by decide))
    have H2 : Hid (Run D g w v m2 ∧ St D u w) := hr2
    clear hr2 hW
    subst hF
    simp only [DosMk, sl_yes (hall 0 (by decide)), sl_yes (hall 1 (by decide)), sl_yes (hall 2 (by decide)), sl_yes (hall 3 (by decide)), sl_yes (hall 4 (by decide)), sl_yes (hall 5 (by decide)), sl_yes (hall 6 (by decide)), sl_yes (hall 7 (by decide)), sl_yes (hall 8 (by decide)), sl_yes (hall 9 (by decide)), sl_yes (hall 10 (by decide)), sl_yes (hall 11 (by decide)), sl_yes (hall 12 (by decide)), sl_yes (hall 13 (by decide))]
    go_wp2_with (go_at_call 64; refine (implWord_any _ _).mono ?_; rintro e u3 ⟨rfl, rfl⟩)
    go_end0
    exact ⟨rfl, ⟨v, MemS.refl v, by first | exact H2.out.1.setPc _ | (rw [if_pos rfl]; exact H2.out.1.setPc _)⟩, H2.out.2.trans (St.set (H2.out.1.ne 0 rfl))⟩

end Go.Proofs.YtjdfffdeljgenaaGreatDoor.W
namespace Go.Proofs.YtjdfffdeljgenaaGreatDoor.Pl
theorem wd_wd (x : Int) : wd (wd x) = wd x := by unfold wd; omega
theorem setR_wd (m : Mac) (n : Nat) (x : Int) : setR m n (wd x) = setR m n x := by unfold setR; rw [wd_wd]
end Go.Proofs.YtjdfffdeljgenaaGreatDoor.Pl
namespace Go.Proofs.YtjdfffdeljgenaaGreatDoor.W
open Go.RowKit
structure Tabs (u : World) : Prop where
  ali : ∀ k : Nat, k < 9 → u.cell? ⟨0, k, none⟩ = some (.int .i64 (Pl.ali (19 + k)))
  lds : ∀ k : Nat, k < 5 → u.cell? ⟨1, k, none⟩ = some (.int .i64 (Pl.lsk (28 + k)))
  sts : ∀ k : Nat, k < 3 → u.cell? ⟨2, k, none⟩ = some (.int .i64 (Pl.lsk (34 + k)))
set_option maxRecDepth 8000 in
theorem rdo_all {D : Nat → Prop} {p g : Nat} {u : World} {v : MV} {m : Pl.Mac} (h : Rr D p g u v m) (hv : Pl.Vd m) (hfin : m.fin = 0) (i : Pl.Ins) (hi : Pl.InsOk i) (him : 28 ≤ i.op → i.op ≤ 36 → -2048 ≤ i.im ∧ i.im ≤ 2047) (ht : Tabs u) (hc1 : u.cell? ⟨p, 1, none⟩ = some (.iface 78 (.slice v.data.a v.data.len v.data.cap))) (hc2 : u.cell? ⟨p, 2, none⟩ = some (.iface 79 (.slice v.stk.a v.stk.len v.stk.cap))) : Calls Tryz.prog 62 #[.pointer (some ⟨p, 0, none⟩), .agg #[.int .i64 i.op, .int .i64 i.rd, .int .i64 i.r1, .int .i64 i.r2, .int .i64 i.im]] u fun e u' => e = ends (Pl.act m i).2 ∧ (∃ v', MemS v v' ∧ Run D g u' v' (Pl.act m i).1) ∧ St D u u' := by
  have e0 : ends 0 = .returned (.tuple #[]) := rfl
  unfold Pl.act
  by_cases hf : (Pl.flow m i).2.1 = true
  · rw [if_pos hf]
    rw [e0]
    by_cases h1 : 37 ≤ i.op ∧ i.op ≤ 42
    · cases hb : Pl.brt i.op (Pl.rv m i.r1) (Pl.rv m i.r2)
      · have e1 : Pl.flow m i = (Pl.wd (m.pc + 4), true, m) := by unfold Pl.flow; rw [if_pos h1, hb]; rfl
        rw [e1]
        exact rdo_br_no h hv hfin i hi h1 hb
      · have e1 : Pl.flow m i = (Pl.wd (m.pc + i.im), true, m) := by unfold Pl.flow; rw [if_pos h1, hb]; rfl
        rw [e1]
        exact rdo_br_yes h hv hfin i hi h1 hb
    by_cases h2 : i.op = 45
    · have e1 : Pl.flow m i = (Pl.wd (m.pc + i.im), true, Pl.setR m i.rd (m.pc + 4)) := by unfold Pl.flow; rw [if_neg h1, if_pos h2, Pl.setR_wd]
      rw [e1]
      exact rdo_jal h hv hfin i hi h2
    by_cases h3 : i.op = 33
    · have e1 : Pl.flow m i = (Pl.wd (Pl.rv m i.r1 + i.im) - Pl.wd (Pl.rv m i.r1 + i.im) % 2, true, Pl.setR m i.rd (m.pc + 4)) := by unfold Pl.flow; rw [if_neg h1, if_neg h2, if_pos h3, Pl.setR_wd]
      rw [e1]
      exact rdo_jalr h hv hfin i hi h3
    · exfalso
      unfold Pl.flow at hf
      rw [if_neg h1, if_neg h2, if_neg h3] at hf
      cases hf
  rw [if_neg hf]
  have hn := Pl.flow_no hf
  by_cases h1 : i.op ≤ 18
  · rw [if_pos h1, e0]; exact rdo_alu h hv hfin i hi h1
  rw [if_neg h1]
  by_cases h2 : i.op ≤ 27
  · rw [if_pos h2, e0]
    obtain ⟨k, hk⟩ : ∃ k : Nat, i.op = 19 + k := ⟨(i.op - 19).toNat, by omega⟩
    exact rdo_ali h hv hfin i hi k (by omega) hk (by rw [hk]; exact ht.ali k (by omega))
  rw [if_neg h2]
  have hab : 0 ≤ Pl.rv m i.r1 ∧ Pl.rv m i.r1 ≤ 4294967295 := hv.word i.r1 (by have := hi.r1; omega)
  by_cases h3 : i.op ≤ 32
  · rw [if_pos h3]
    obtain ⟨k, hk⟩ : ∃ k : Nat, i.op = 28 + k := ⟨(i.op - 28).toNat, by omega⟩
    have hz : 1 ≤ Pl.lsk i.op ∧ Pl.lsk i.op ≤ 5 := by unfold Pl.lsk; omega
    rw [Pl.ldv_wd m hv.data hv.stk _ _ hz.1 hz.2 (by have := him (by omega) (by omega); omega)]
    refine (rdo_load h hv hfin i hi k (by omega) hk (by rw [hk]; exact ht.lds k (by omega)) hc1 hc2).mono fun e u' ⟨he, hR, hS⟩ => ⟨?_, ?_, hS⟩
    · rw [he]; split
      · rename_i q; rw [q]
      · rfl
    · split
      · rename_i q; rw [if_pos q] at hR; exact hR
      · rename_i q; rw [if_neg q] at hR; exact hR
  rw [if_neg h3]
  by_cases h4 : i.op ≤ 36
  · rw [if_pos h4]
    obtain ⟨k, hk⟩ : ∃ k : Nat, i.op = 34 + k := ⟨(i.op - 34).toNat, by omega⟩
    have hz : 1 ≤ Pl.lsk i.op ∧ Pl.lsk i.op ≤ 5 := by unfold Pl.lsk; omega
    rw [Pl.stv_wd m hv.data hv.stk _ _ _ hz.1 hz.2 (by have := him (by omega) (by omega); omega)]
    refine (rdo_store h hv hfin i hi k (by omega) hk (by rw [hk]; exact ht.sts k (by omega)) hc1 hc2).mono fun e u' ⟨he, hR, hS⟩ => ⟨?_, ?_, hS⟩
    · rw [he]; split
      · rename_i q; rw [q]
      · rfl
    · split
      · rename_i q; rw [if_pos q] at hR; exact hR
      · rename_i q; rw [if_neg q] at hR; exact hR
  rw [if_neg h4]
  by_cases h5 : i.op = 43
  · rw [if_pos h5, e0]; exact rdo_lui h hv hfin i hi h5
  rw [if_neg h5]
  by_cases h6 : i.op = 44
  · rw [if_pos h6, e0]; exact rdo_auipc h hv hfin i hi h6
  rw [if_neg h6]
  by_cases h7 : i.op = 47
  · rw [if_pos h7]; exact rdo_break h hv hfin i hi h7
  rw [if_neg h7]
  have h8 : i.op = 46 := by have := hi.op2; omega
  by_cases he : (Pl.ecall m).2 = 0
  · by_cases hz : (Pl.ecall m).1.fin = 0
    · rw [if_pos ⟨he, hz⟩, e0]; exact rdo_call_on h hv hfin i hi h8 he hz
    · rw [if_neg (fun q => hz q.2), he, e0]; exact rdo_call_end h hv hfin i hi h8 he hz
  · rw [if_neg (fun q => he q.1)]; exact rdo_call_bad h hv hfin i hi h8 he
end Go.Proofs.YtjdfffdeljgenaaGreatDoor.W
namespace Go.Proofs.YtjdfffdeljgenaaGreatDoor.W
open Go.RowKit
theorem cell_setCell_self {w : World} {a : Addr} {x y : Value} (h : w.cell? a = some x) : (w.setCell a y).cell? a = some y := World.cell?_setCell_same _ _ _ h
theorem below_both {B : Nat} {u w : World} (h : Below B u w) (a : Addr) (y : Value) : Below B (u.setCell a y) (w.setCell a y) := by
  refine ⟨h.os, h.tape, h.output, by simpa using h.size, fun b hb => ?_⟩
  by_cases e : b = a.block
  · subst e
    have := h.block _ hb
    simp only [World.setCell, Array.getElem?_modify, if_true]
    rw [this]
  · rw [Below.heap_setCell _ _ _ _ e, Below.heap_setCell _ _ _ _ e]; exact h.block b hb
set_option maxRecDepth 8000 in
set_option maxHeartbeats 4000000 in
theorem rfetch_pc (p g : Nat) (ca : Option Addr) (n ccap : Nat) (pc : Int) (hn : n ≤ 16384) (hpc : 0 ≤ pc ∧ pc ≤ 4294967295) (u : World) (cm : u.cell? ⟨p, 0, none⟩ = some (.pointer (some ⟨g, 0, none⟩))) (cc : u.cell? ⟨g, 0, none⟩ = some (.slice ca n ccap)) (cp : u.cell? ⟨g, 1, none⟩ = some (.int .i64 pc)) (hk : Pl.place n pc = -1) :
    Calls Tryz.prog 63 #[.pointer (some ⟨p, 0, none⟩)] u fun e u' => e = .panicked [{ v := .iface 97 (.int .i64 1), recovered := false }] ∧ Below u.heap.size u u' := by
  have HC : Hid (∀ U, Calls Tryz.prog 85 #[.slice ca n ccap, .int .i64 pc] U fun e U' => e = .returned (.int .i64 (-1)) ∧ U' = U) := fun U => by
    have := implPlace_any ca n ccap pc (by omega) (by omega) U
    rw [hk] at this
    exact this
  have dm := fl_alloc cm
  have dc := fl_alloc cc
  have dp := fl_alloc cp
  clear cm cc cp hk hn hpc
  go_enter Tryz.func63, Tryz.ntmps63
  go_wp2_with fail
  go_region_held3 (fun w2 => w2.cell? ⟨p, 0, none⟩ = some (.pointer (some ⟨g, 0, none⟩)) ∧ w2.cell? ⟨g, 0, none⟩ = some (.slice ca n ccap) ∧ w2.cell? ⟨g, 1, none⟩ = some (.int .i64 pc)) (go_keep) (first | (go_at_call 85; refine (HC.out _).mono ?_; rintro e u1 ⟨rfl, rfl⟩))
  all_goals
    go_wp2
    exact ⟨rfl, rfl, (by repeat (first | exact below_alloc _ _ | refine Below.drew ?_ | refine below_drewN ?_ _))⟩
set_option maxRecDepth 8000 in
set_option maxHeartbeats 4000000 in
theorem rfetch_old (p g : Nat) (ca : Option Addr) (n ccap : Nat) (pc : Int) (hn : n ≤ 16384) (hpc : 0 ≤ pc ∧ pc ≤ 4294967295) (u : World) (cm : u.cell? ⟨p, 0, none⟩ = some (.pointer (some ⟨g, 0, none⟩))) (cc : u.cell? ⟨g, 0, none⟩ = some (.slice ca n ccap)) (cp : u.cell? ⟨g, 1, none⟩ = some (.int .i64 pc)) (k : Nat) (hk : Pl.place n pc = k) (hkn : k < n) (s b : Nat) (cs : u.cell? ⟨p, 3, none⟩ = some (.slice (some ⟨s, 0, none⟩) n n)) (sk : u.cell? ⟨s, k, none⟩ = some (.pointer (some ⟨b, 0, none⟩))) (x0 x1 x2 x3 x4 : Int) (hb : u.heap[b]? = some (.cells #[.int .i64 x0, .int .i64 x1, .int .i64 x2, .int .i64 x3, .int .i64 x4] 74)) :
    Calls Tryz.prog 63 #[.pointer (some ⟨p, 0, none⟩)] u fun e u' => e = .returned (.agg #[.int .i64 x0, .int .i64 x1, .int .i64 x2, .int .i64 x3, .int .i64 x4]) ∧ Below u.heap.size u u' := by
  have HC : Hid (∀ U, Calls Tryz.prog 85 #[.slice ca n ccap, .int .i64 pc] U fun e U' => e = .returned (.int .i64 (k : Int)) ∧ U' = U) := fun U => by
    have := implPlace_any ca n ccap pc (by omega) (by omega) U
    rw [hk] at this
    exact this
  have dm := fl_alloc cm
  have dc := fl_alloc cc
  have dp := fl_alloc cp
  have ds := fl_alloc cs
  have dk := fl_alloc sk
  obtain ⟨b0, b1, b2, b3, b4⟩ := ins_cells hb
  have e0 := fl_alloc b0
  have e1 := fl_alloc b1
  have e2 := fl_alloc b2
  have e3 := fl_alloc b3
  have e4 := fl_alloc b4
  have ik : (k : Int) < (n : Int) := by omega
  have ig : ¬ (k : Int) < 0 := by omega
  have ig' : decide ((k : Int) < 0) = false := by simp
  clear cm cc cp hk hn hpc cs sk hb b0 b1 b2 b3 b4
  go_enter Tryz.func63, Tryz.ntmps63
  go_wp2_with fail
  go_region_held3 (fun w2 => w2.cell? ⟨p, 0, none⟩ = some (.pointer (some ⟨g, 0, none⟩)) ∧ w2.cell? ⟨g, 0, none⟩ = some (.slice ca n ccap) ∧ w2.cell? ⟨g, 1, none⟩ = some (.int .i64 pc)) (go_keep) (first | (go_at_call 85; refine (HC.out _).mono ?_; rintro e u1 ⟨rfl, rfl⟩))
  all_goals
    go_wp2
    refine bodyPost_ret (v := .agg #[.int .i64 x0, .int .i64 x1, .int .i64 x2, .int .i64 x3, .int .i64 x4]) ?hres rfl ⟨rfl, (by repeat (first | exact below_alloc _ _ | refine Below.drew ?_ | refine below_drewN ?_ _))⟩
    refine results_cell_row Tryz.results63 _ _ u.heap.size 74 #[.int .i64 x0, .int .i64 x1, .int .i64 x2, .int .i64 x3, .int .i64 x4] (0, 0) _ ?hp ?hg Tryz.underlying74 ?hd ?hi
    · rfl
    · exact heap_alloc_new u _
    · rfl
    · kernel_rfl
set_option maxRecDepth 8000 in
set_option maxHeartbeats 4000000 in
theorem rfetch_bad (p g : Nat) (cb co : Nat) (n ccap : Nat) (pc : Int) (hn : n ≤ 16384) (hpc : 0 ≤ pc ∧ pc ≤ 4294967295) (u : World) (cm : u.cell? ⟨p, 0, none⟩ = some (.pointer (some ⟨g, 0, none⟩))) (cc : u.cell? ⟨g, 0, none⟩ = some (.slice (some ⟨cb, co, none⟩) n ccap)) (cp : u.cell? ⟨g, 1, none⟩ = some (.int .i64 pc)) (k : Nat) (hk : Pl.place n pc = k) (hkn : k < n) (s : Nat) (cs : u.cell? ⟨p, 3, none⟩ = some (.slice (some ⟨s, 0, none⟩) n n)) (sk : u.cell? ⟨s, k, none⟩ = some (.pointer none)) (z : Int) (cw : u.cell? ⟨cb, co + k, none⟩ = some (.int .i64 z)) (x0 x1 x2 x3 x4 : Int) (hd : ∀ U, Calls Tryz.prog 86 #[.int .i64 z] U fun e U' => e = .returned (.tuple #[.agg #[.int .i64 x0, .int .i64 x1, .int .i64 x2, .int .i64 x3, .int .i64 x4], .bool false]) ∧ Below U.heap.size U U') :
    Calls Tryz.prog 63 #[.pointer (some ⟨p, 0, none⟩)] u fun e u' => e = .panicked [{ v := .iface 97 (.int .i64 2), recovered := false }] ∧ Below u.heap.size u u' := by
  have HC : Hid (∀ U, Calls Tryz.prog 85 #[.slice (some ⟨cb, co, none⟩) n ccap, .int .i64 pc] U fun e U' => e = .returned (.int .i64 (k : Int)) ∧ U' = U) := fun U => by
    have := implPlace_any (some ⟨cb, co, none⟩) n ccap pc (by omega) (by omega) U
    rw [hk] at this
    exact this
  have dm := fl_alloc cm
  have dc := fl_alloc cc
  have dp := fl_alloc cp
  have ds := fl_alloc cs
  have dk := fl_alloc sk
  have dw := fl_alloc cw
  have ik : (k : Int) < (n : Int) := by omega
  have ig : ¬ (k : Int) < 0 := by omega
  have ig' : decide ((k : Int) < 0) = false := by simp
  have HZ : Hid (∀ U w1 : World, Below u.heap.size u U → U.heap[u.heap.size]? = some (.cells #[.int .i64 0, .int .i64 0, .int .i64 0, .int .i64 0, .int .i64 0] 74) → Below U.heap.size U w1 → Below u.heap.size u w1 ∧ u.heap.size < w1.heap.size ∧ w1.heap[u.heap.size]? = some (.cells #[.int .i64 0, .int .i64 0, .int .i64 0, .int .i64 0, .int .i64 0] 74)) := fun U w1 a b c => ⟨a.trans (c.mono a.size), Nat.lt_of_lt_of_le (Array.getElem?_eq_some_iff.1 b).1 c.size, (c.block _ (Array.getElem?_eq_some_iff.1 b).1).trans b⟩
  have HD : Hid (∀ U, Calls Tryz.prog 86 #[.int .i64 z] U fun e U' => e = .returned (.tuple #[.agg #[.int .i64 x0, .int .i64 x1, .int .i64 x2, .int .i64 x3, .int .i64 x4], .bool false]) ∧ Below U.heap.size U U') := hd
  clear cm cc cp hk hn hpc cs sk cw hd
  go_enter Tryz.func63, Tryz.ntmps63
  go_wp2_with fail
  go_region_held3 (fun w2 => w2.cell? ⟨p, 0, none⟩ = some (.pointer (some ⟨g, 0, none⟩)) ∧ w2.cell? ⟨g, 0, none⟩ = some (.slice (some ⟨cb, co, none⟩) n ccap) ∧ w2.cell? ⟨g, 1, none⟩ = some (.int .i64 pc)) (go_keep) (first | (go_at_call 85; refine (HC.out _).mono ?_; rintro e u1 ⟨rfl, rfl⟩))
  all_goals
    go_wp2_with (go_at_call 86; refine (HD.out _).mono ?_; rintro e w1 ⟨rfl, d1⟩; have B1 : Hid (Below u.heap.size u w1) := (HZ.out _ _ (by repeat (first | exact below_alloc _ _ | refine Below.drew ?_ | refine below_drewN ?_ _)) (by exact heap_alloc_new u _) d1).1; clear d1)
    exact ⟨rfl, rfl, by first | exact B1.out.alloc B1.out.size _ | exact (B1.out.alloc B1.out.size _).drew⟩
set_option maxRecDepth 8000 in
set_option maxHeartbeats 4000000 in
theorem rfetch_new (p g : Nat) (cb co : Nat) (n ccap : Nat) (pc : Int) (hn : n ≤ 16384) (hpc : 0 ≤ pc ∧ pc ≤ 4294967295) (u : World) (cm : u.cell? ⟨p, 0, none⟩ = some (.pointer (some ⟨g, 0, none⟩))) (cc : u.cell? ⟨g, 0, none⟩ = some (.slice (some ⟨cb, co, none⟩) n ccap)) (cp : u.cell? ⟨g, 1, none⟩ = some (.int .i64 pc)) (k : Nat) (hk : Pl.place n pc = k) (hkn : k < n) (s : Nat) (cs : u.cell? ⟨p, 3, none⟩ = some (.slice (some ⟨s, 0, none⟩) n n)) (sk : u.cell? ⟨s, k, none⟩ = some (.pointer none)) (z : Int) (cw : u.cell? ⟨cb, co + k, none⟩ = some (.int .i64 z)) (x0 x1 x2 x3 x4 : Int) (hps : p ≠ s) (fs : u.frozen? ⟨s, k, none⟩ = false) (hd : ∀ U, Calls Tryz.prog 86 #[.int .i64 z] U fun e U' => e = .returned (.tuple #[.agg #[.int .i64 x0, .int .i64 x1, .int .i64 x2, .int .i64 x3, .int .i64 x4], .bool true]) ∧ Below U.heap.size U U') :
    Calls Tryz.prog 63 #[.pointer (some ⟨p, 0, none⟩)] u fun e u' => e = .returned (.agg #[.int .i64 x0, .int .i64 x1, .int .i64 x2, .int .i64 x3, .int .i64 x4]) ∧ ∃ b, u.heap.size ≤ b ∧ u'.heap[b]? = some (.cells #[.int .i64 x0, .int .i64 x1, .int .i64 x2, .int .i64 x3, .int .i64 x4] 74) ∧ Below u.heap.size (u.setCell ⟨s, k, none⟩ (.pointer (some ⟨b, 0, none⟩))) u' := by
  have HS : Hid (∀ w1 : World, Below u.heap.size u w1 → (∀ o, (w1.alloc o).cell? ⟨p, 3, none⟩ = some (.slice (some ⟨s, 0, none⟩) n n)) ∧ (∀ o, (w1.alloc o).cell? ⟨s, k, none⟩ = some (.pointer none)) ∧ (∀ o, (w1.alloc o).frozen? ⟨s, k, none⟩ = false)) := fun w1 h => by
    have h1 := below_cell h cs
    have h2 := below_cell h sk
    have h3 : w1.frozen? ⟨s, k, none⟩ = false := (h.frozen (block_lt_of_cell sk)).trans fs
    exact ⟨fl_alloc h1, fl_alloc h2, fun o => ((below_alloc w1 o).frozen (block_lt_of_cell h2)).trans h3⟩
  have HB : Hid (s < u.heap.size ∧ p < u.heap.size) := ⟨block_lt_of_cell sk, block_lt_of_cell cs⟩
  have HC : Hid (∀ U, Calls Tryz.prog 85 #[.slice (some ⟨cb, co, none⟩) n ccap, .int .i64 pc] U fun e U' => e = .returned (.int .i64 (k : Int)) ∧ U' = U) := fun U => by
    have := implPlace_any (some ⟨cb, co, none⟩) n ccap pc (by omega) (by omega) U
    rw [hk] at this
    exact this
  have dm := fl_alloc cm
  have dc := fl_alloc cc
  have dp := fl_alloc cp
  have ds := fl_alloc cs
  have dk := fl_alloc sk
  have dw := fl_alloc cw
  have ik : (k : Int) < (n : Int) := by omega
  have ig : ¬ (k : Int) < 0 := by omega
  have ig' : decide ((k : Int) < 0) = false := by simp
  have HZ : Hid (∀ U w1 : World, Below u.heap.size u U → U.heap[u.heap.size]? = some (.cells #[.int .i64 0, .int .i64 0, .int .i64 0, .int .i64 0, .int .i64 0] 74) → Below U.heap.size U w1 → Below u.heap.size u w1 ∧ u.heap.size < w1.heap.size ∧ w1.heap[u.heap.size]? = some (.cells #[.int .i64 0, .int .i64 0, .int .i64 0, .int .i64 0, .int .i64 0] 74)) := fun U w1 a b c => ⟨a.trans (c.mono a.size), Nat.lt_of_lt_of_le (Array.getElem?_eq_some_iff.1 b).1 c.size, (c.block _ (Array.getElem?_eq_some_iff.1 b).1).trans b⟩
  have HD : Hid (∀ U, Calls Tryz.prog 86 #[.int .i64 z] U fun e U' => e = .returned (.tuple #[.agg #[.int .i64 x0, .int .i64 x1, .int .i64 x2, .int .i64 x3, .int .i64 x4], .bool true]) ∧ Below U.heap.size U U') := hd
  clear cm cc cp hk hn hpc cs sk cw hd fs
  go_enter Tryz.func63, Tryz.ntmps63
  go_wp2_with fail
  go_region_held3 (fun w2 => w2.cell? ⟨p, 0, none⟩ = some (.pointer (some ⟨g, 0, none⟩)) ∧ w2.cell? ⟨g, 0, none⟩ = some (.slice (some ⟨cb, co, none⟩) n ccap) ∧ w2.cell? ⟨g, 1, none⟩ = some (.int .i64 pc)) (go_keep) (first | (go_at_call 85; refine (HC.out _).mono ?_; rintro e u1 ⟨rfl, rfl⟩))
  all_goals
    go_upto_region 9 with (go_at_call 86; refine (HD.out _).mono ?_; rintro e w1 ⟨rfl, d1⟩; have B1 : Hid (Below u.heap.size u w1 ∧ u.heap.size < w1.heap.size ∧ w1.heap[u.heap.size]? = some (.cells #[.int .i64 0, .int .i64 0, .int .i64 0, .int .i64 0, .int .i64 0] 74)) := HZ.out _ _ (by repeat (first | exact below_alloc _ _ | refine Below.drew ?_ | refine below_drewN ?_ _)) (by exact heap_alloc_new u _) d1; clear d1; obtain ⟨v1, v2, v3⟩ := HS.out w1 B1.out.1)
    obtain ⟨W, hW⟩ : ∃ W, W = (w1.alloc (.cells #[.int .i64 x0, .int .i64 x1, .int .i64 x2, .int .i64 x3, .int .i64 x4] 74)).setCell ⟨s, k, none⟩ (.pointer (some ⟨w1.heap.size, 0, none⟩)) := ⟨_, rfl⟩
    have y1 : W.cell? ⟨p, 3, none⟩ = some (.slice (some ⟨s, 0, none⟩) n n) := by rw [hW, World.cell?_setCell_other _ _ _ _ (by intro e; injection e with e1 _; exact hps e1.symm)]; exact v1 _
    have y2 : W.cell? ⟨s, k, none⟩ = some (.pointer (some ⟨w1.heap.size, 0, none⟩)) := by rw [hW]; exact cell_setCell_self (v2 _)
    have hb1 := B1.out
    have hb2 := HB.out
    have y3 : W.heap[w1.heap.size]? = some (.cells #[.int .i64 x0, .int .i64 x1, .int .i64 x2, .int .i64 x3, .int .i64 x4] 74) := by rw [hW, Below.heap_setCell _ ⟨s, k, none⟩ _ _ (by show w1.heap.size ≠ s; omega)]; exact heap_alloc_new w1 _
    have y4 : W.heap[u.heap.size]? = some (.cells #[.int .i64 0, .int .i64 0, .int .i64 0, .int .i64 0, .int .i64 0] 74) := by rw [hW, Below.heap_setCell _ ⟨s, k, none⟩ _ _ (by show u.heap.size ≠ s; omega), Below.heap_alloc _ _ _ hb1.2.1]; exact hb1.2.2
    have y5 : Below u.heap.size (u.setCell ⟨s, k, none⟩ (.pointer (some ⟨w1.heap.size, 0, none⟩))) W := by
      rw [hW]
      exact below_both (hb1.1.alloc hb1.1.size _) _ _
    rw [← hW]
    have Y3 : Hid (W.heap[w1.heap.size]? = some (.cells #[.int .i64 x0, .int .i64 x1, .int .i64 x2, .int .i64 x3, .int .i64 x4] 74)) := y3
    have Y4 : Hid (W.heap[u.heap.size]? = some (.cells #[.int .i64 0, .int .i64 0, .int .i64 0, .int .i64 0, .int .i64 0] 74)) := y4
    have Y5 : Hid (Below u.heap.size (u.setCell ⟨s, k, none⟩ (.pointer (some ⟨w1.heap.size, 0, none⟩))) W) := y5
    have Y6 : Hid (u.heap.size < w1.heap.size) := hb1.2.1
    clear hW y3 y4 y5 hb1 hb2 v1 v2 v3
    go_wp2_with (first | (refine wpList_load_row rfl 74 _ rfl w1.heap.size ?hx 74 #[.int .i64 x0, .int .i64 x1, .int .i64 x2, .int .i64 x3, .int .i64 x4] (0, 0) _ ?hg Tryz.underlying74 ?hd ?hi ?_; (case hx => rfl); (case hg => exact Y3.out); (case hd => rfl); (case hi => kernel_rfl)) | (refine wpList_store_row rfl 74 _ _ rfl u.heap.size #[.int .i64 x0, .int .i64 x1, .int .i64 x2, .int .i64 x3, .int .i64 x4] ?hx ?hy 74 #[.int .i64 0, .int .i64 0, .int .i64 0, .int .i64 0, .int .i64 0] ?hg ?hi ?ho ?h1 ?_; (case hx => rfl); (case hy => rfl); (case hg => exact Y4.out); (case hi => kernel_rfl); (case ho => kernel_rfl); (case h1 => kernel_rfl)))
    refine bodyPost_ret (v := .agg #[.int .i64 x0, .int .i64 x1, .int .i64 x2, .int .i64 x3, .int .i64 x4]) ?hres rfl ⟨rfl, w1.heap.size, Nat.le_of_lt Y6.out, ?_, ?_⟩
    · refine results_cell_row Tryz.results63 _ _ u.heap.size 74 #[.int .i64 x0, .int .i64 x1, .int .i64 x2, .int .i64 x3, .int .i64 x4] (0, 0) _ ?hp ?hg Tryz.underlying74 ?hd ?hi
      · rfl
      · exact setRow_heap _ _ _ _ _ _ Y4.out
      · rfl
      · kernel_rfl
    · exact (setRow_other _ _ _ _ (by have := Y6.out; omega)).trans Y3.out
    · exact below_setRow Y5.out (Nat.le_refl _) _
end Go.Proofs.YtjdfffdeljgenaaGreatDoor.W
