import Derived.Test.YtdplfflkmphpbaaGreatDoorT21
import Derived.Test.YtdplfflkmphpbaaGreatDoorT22
import Derived.Test.YtdplfflkmphpbaaGreatDoorT23
import Derived.Test.YtdplfflkmphpbaaGreatDoorT24
import Derived.Laws.StructEq
set_option linter.unusedVariables false
set_option linter.unusedSimpArgs false
namespace Go.Proofs.YtdplfflkmphpbaaGreatDoor.W
open Go.RowKit
theorem chr_eq (b : Nat) : ((⟨#[39]⟩ : ByteArray) ++ (⟨(Pl.shown b 39).toArray⟩ : ByteArray)) ++ (⟨#[39]⟩ : ByteArray) = Pl.chr b := by
  show ((⟨[39].toArray⟩ : ByteArray) ++ ⟨(Pl.shown b 39).toArray⟩) ++ ⟨[39].toArray⟩ = _
  rw [Pl.app_list, Pl.app_list]
  rfl
theorem specTT_is (t : Pl.Tk) (h1 : t.N ≤ 9223372036854775807) (hS : t.S.size ≤ 1048576) (w : World) : Calls Tryz.prog 18 #[.agg #[.int .i64 t.k, .string t.S, .int .i64 t.N, .int .i64 t.l, .int .i64 t.c]] w fun e w' => e = .returned (.string (Pl.ttS t)) ∧ Below w.heap.size w w' := by
  unfold Pl.ttS
  by_cases h3 : t.k = 3
  · rw [if_pos h3]
    by_cases hN : t.N < 0
    · rw [if_pos (.inl hN)]
      exact specTT_neg t h3 hN w
    by_cases hb : t.S ≠ ⟨#[]⟩ ∧ t.S ≠ ⟨#[117]⟩ ∧ t.S ≠ ⟨#[99]⟩
    · rw [if_pos (.inr hb)]
      exact specTT_bad t h3 hN hb.1 hb.2.1 hb.2.2 w
    rw [if_neg (fun q => q.elim hN hb)]
    obtain ⟨k, S, N, l, c⟩ := t
    simp only at h1 h3 hN hb hS ⊢
    subst h3
    obtain ⟨n, rfl⟩ : ∃ n : Nat, N = (n : Int) := ⟨N.toNat, by omega⟩
    by_cases hc : S = ⟨#[99]⟩
    · subst hc
      rw [if_pos rfl, show ((n : Int) % 256).toNat = n % 256 by omega, ← chr_eq]
      exact specTT_chr n l c h1 w
    · rw [if_neg hc]
      by_cases hu : S = ⟨#[117]⟩
      · subst hu
        exact specTT_intu n l c h1 w
      · obtain rfl : S = ⟨#[]⟩ := Classical.byContradiction fun q => hb ⟨q, hu, hc⟩
        exact specTT_inte n l c h1 w
  · rw [if_neg h3]
    by_cases h4 : t.k = 4
    · rw [if_pos h4]
      by_cases hl : 200 < t.S.size
      · rw [if_pos hl]
        exact specTT_long t h4 hl hS w
      · rw [if_neg hl]
        exact specTT_str t h4 (by omega) w
    · rw [if_neg h4]
      exact specTT_oth t h3 h4 hS w
end Go.Proofs.YtdplfflkmphpbaaGreatDoor.W
namespace Go.Proofs.YtdplfflkmphpbaaGreatDoor.W
open Go.RowKit
theorem part3 (xs : Array Value) (j : Nat) (v : Value) (h : xs[j]? = some v) (w : World) : (part 3 xs j).run Tryz.prog w = .ok v w := by
  have ht : (Tryz.prog.info? 3).map (fun i => i.size) = some 1 := by kernel_rfl
  obtain ⟨i0, hi, hz⟩ := Option.map_eq_some_iff.1 ht
  simp [part, sizeOf, typeInfo, hi, hz, h, Tryz.underlying3, go_sem]
theorem part9 (xs : Array Value) (j : Nat) (v : Value) (h : xs[j]? = some v) (w : World) : (part 9 xs j).run Tryz.prog w = .ok v w := by
  have ht : (Tryz.prog.info? 9).map (fun i => i.size) = some 1 := by kernel_rfl
  obtain ⟨i0, hi, hz⟩ := Option.map_eq_some_iff.1 ht
  simp [part, sizeOf, typeInfo, hi, hz, h, Tryz.underlying9, go_sem]
set_option maxHeartbeats 2000000 in
theorem eqTk (a0 : Int) (a1 : ByteArray) (a2 a3 a4 b0 : Int) (b1 : ByteArray) (b2 b3 b4 : Int) (w : World) : (Op.equalIn 10000 34 (.agg #[.int .i64 a0, .string a1, .int .i64 a2, .int .i64 a3, .int .i64 a4]) (.agg #[.int .i64 b0, .string b1, .int .i64 b2, .int .i64 b3, .int .i64 b4])).run Tryz.prog w = .ok (a0 == b0 && (a1.toList == b1.toList && (a2 == b2 && (a3 == b3 && a4 == b4)))) w := by
  have hp : Tryz.prog.stoodInHeld 34 = false := by kernel_rfl
  have hf : Tryz.prog.underlying 34 = some (.struct (Tryz.prog.fieldsOf 34)) := by simp [Program.fieldsOf, Tryz.underlying34]
  have hnm : (Tryz.prog.fieldsOf 34).toList.map (fun f => (f.name == "_", f.type, f.offset)) = [(false, 3, 0), (false, 9, 1), (false, 3, 2), (false, 3, 3), (false, 3, 4)] := by kernel_rfl
  rw [show (10000 : Nat) = 9998 + 1 + 1 from rfl, run_equalIn_struct w _ _ _ _ hf hp]
  generalize (Tryz.prog.fieldsOf 34).toList = fs at hnm
  obtain ⟨f0, f1, f2, f3, f4, rfl⟩ : ∃ f0 f1 f2 f3 f4, fs = [f0, f1, f2, f3, f4] := by
    have hl : fs.length = 5 := by have := congrArg List.length hnm; simpa using this
    match fs, hl with
    | [f0, f1, f2, f3, f4], _ => exact ⟨f0, f1, f2, f3, f4, rfl⟩
  simp only [List.map_cons, List.map_nil, List.cons.injEq, Prod.mk.injEq, and_true] at hnm
  obtain ⟨⟨n0, t0, o0⟩, ⟨n1, t1, o1⟩, ⟨n2, t2, o2⟩, ⟨n3, t3, o3⟩, n4, t4, o4⟩ := hnm
  have n0' : f0.name ≠ "_" := by simpa using n0
  have n1' : f1.name ≠ "_" := by simpa using n1
  have n2' : f2.name ≠ "_" := by simpa using n2
  have n3' : f3.name ≠ "_" := by simpa using n3
  have n4' : f4.name ≠ "_" := by simpa using n4
  simp only [Op.eqFields, t0, t1, t2, t3, t4, o0, o1, o2, o3, o4, ne_eq, n0', n1', n2', n3', n4', not_false_eq_true, if_true, Sem.run_bind, part3 #[.int .i64 a0, .string a1, .int .i64 a2, .int .i64 a3, .int .i64 a4] 0 (.int .i64 a0) rfl, part3 #[.int .i64 a0, .string a1, .int .i64 a2, .int .i64 a3, .int .i64 a4] 2 (.int .i64 a2) rfl, part3 #[.int .i64 a0, .string a1, .int .i64 a2, .int .i64 a3, .int .i64 a4] 3 (.int .i64 a3) rfl, part3 #[.int .i64 a0, .string a1, .int .i64 a2, .int .i64 a3, .int .i64 a4] 4 (.int .i64 a4) rfl, part9 #[.int .i64 a0, .string a1, .int .i64 a2, .int .i64 a3, .int .i64 a4] 1 (.string a1) rfl, part3 #[.int .i64 b0, .string b1, .int .i64 b2, .int .i64 b3, .int .i64 b4] 0 (.int .i64 b0) rfl, part3 #[.int .i64 b0, .string b1, .int .i64 b2, .int .i64 b3, .int .i64 b4] 2 (.int .i64 b2) rfl, part3 #[.int .i64 b0, .string b1, .int .i64 b2, .int .i64 b3, .int .i64 b4] 3 (.int .i64 b3) rfl, part3 #[.int .i64 b0, .string b1, .int .i64 b2, .int .i64 b3, .int .i64 b4] 4 (.int .i64 b4) rfl, part9 #[.int .i64 b0, .string b1, .int .i64 b2, .int .i64 b3, .int .i64 b4] 1 (.string b1) rfl, Result.andThen_ok, run_equalIn_int _ _ _ _ _ _ _ Tryz.underlying3, run_equalIn_string _ _ _ _ _ Tryz.underlying9]
  cases a0 == b0
  · simp only [Bool.not_false, if_true, Sem.run_pure, Bool.false_and]
  simp only [Bool.not_true, Bool.false_eq_true, if_false, Bool.true_and, Sem.run_bind, part3 #[.int .i64 a0, .string a1, .int .i64 a2, .int .i64 a3, .int .i64 a4] 2 (.int .i64 a2) rfl, part9 #[.int .i64 a0, .string a1, .int .i64 a2, .int .i64 a3, .int .i64 a4] 1 (.string a1) rfl, part9 #[.int .i64 b0, .string b1, .int .i64 b2, .int .i64 b3, .int .i64 b4] 1 (.string b1) rfl, Result.andThen_ok, run_equalIn_string _ _ _ _ _ Tryz.underlying9]
  cases a1.toList == b1.toList
  · simp only [Bool.not_false, if_true, Sem.run_pure, Bool.false_and]
  simp only [Bool.not_true, Bool.false_eq_true, if_false, Bool.true_and, Sem.run_bind, part3 #[.int .i64 a0, .string a1, .int .i64 a2, .int .i64 a3, .int .i64 a4] 2 (.int .i64 a2) rfl, part3 #[.int .i64 b0, .string b1, .int .i64 b2, .int .i64 b3, .int .i64 b4] 2 (.int .i64 b2) rfl, Result.andThen_ok, run_equalIn_int _ _ _ _ _ _ _ Tryz.underlying3]
  cases a2 == b2
  · simp only [Bool.not_false, if_true, Sem.run_pure, Bool.false_and]
  simp only [Bool.not_true, Bool.false_eq_true, if_false, Bool.true_and, Sem.run_bind, part3 #[.int .i64 a0, .string a1, .int .i64 a2, .int .i64 a3, .int .i64 a4] 3 (.int .i64 a3) rfl, part3 #[.int .i64 b0, .string b1, .int .i64 b2, .int .i64 b3, .int .i64 b4] 3 (.int .i64 b3) rfl, Result.andThen_ok, run_equalIn_int _ _ _ _ _ _ _ Tryz.underlying3]
  cases a3 == b3
  · simp only [Bool.not_false, if_true, Sem.run_pure, Bool.false_and]
  simp only [Bool.not_true, Bool.false_eq_true, if_false, Bool.true_and, Sem.run_bind, part3 #[.int .i64 a0, .string a1, .int .i64 a2, .int .i64 a3, .int .i64 a4] 4 (.int .i64 a4) rfl, part3 #[.int .i64 b0, .string b1, .int .i64 b2, .int .i64 b3, .int .i64 b4] 4 (.int .i64 b4) rfl, Result.andThen_ok, run_equalIn_int _ _ _ _ _ _ _ Tryz.underlying3]
  cases a4 == b4 <;> simp only [Bool.not_false, Bool.not_true, Bool.false_eq_true, if_true, if_false, Sem.run_pure]
theorem tk_beq {a b : Pl.Tk} (h : a ≠ b) : (a.k == b.k && (a.S.toList == b.S.toList && (a.N == b.N && (a.l == b.l && a.c == b.c)))) = false := by
  rw [Bool.eq_false_iff]
  intro q
  simp only [Bool.and_eq_true, beq_iff_eq] at q
  obtain ⟨q1, q2, q3, q4, q5⟩ := q
  exact h (tk_eq q1 (Classical.byContradiction fun r => by have := str_ne r; rw [q2] at this; simp at this) q3 q4 q5)
end Go.Proofs.YtdplfflkmphpbaaGreatDoor.W
namespace Go.Proofs.YtdplfflkmphpbaaGreatDoor.W
open Go.RowKit Go.Shelf
section
attribute [local go_sem] Oper.semAt_some
set_option maxHeartbeats 8000000 in
set_option maxRecDepth 100000 in
theorem implLex_big (a : Option Addr) (len cap : Nat) (s : ByteArray) (hl : s.size = len) (hbig : 20000 < len) (w : World) :
    Calls Tryz.prog 9 #[.slice a len cap] w fun e w' => LexSaid w.heap.size s e w' ∧ Below w.heap.size w w' := by
  have HLN : Hid (s.size = len) := hl
  clear hl
  refine (callsIn_wide (n := 4)).1 ?_
  refine callsIn_of_wp_marks Tryz.func9 rfl trivial ?_ rfl
  simp only [Tryz.ntmps9, List.size_toArray, List.length_cons, List.length_nil, Nat.reduceAdd, Nat.reduceSub, Array.replicate_succ, Array.replicate_zero, List.push_toArray, List.append_toArray, List.nil_append, List.cons_append]
  · have e1 : decide ((20000 : Int) < len) = true := by simp; omega
    have HB : Hid (20000 < len) := hbig
    clear hbig
    gi_wp2
    obtain ⟨q0, q1, q2, q3⟩ := four_heap w (.cells #[.slice none 0 0] 23) (.cells #[.int .i64 1] 3) (.cells #[.int .i64 1] 3) (.cells #[.int .i64 1] 3)
    refine ⟨_, results_c4 rfl _ _ w.heap.size (w.heap.size + 1) (w.heap.size + 1 + 1) (w.heap.size + 1 + 1 + 1) (.slice none 0 0) (.int .i64 1) (.int .i64 1) (.int .i64 1) rfl rfl rfl rfl (cell_of_row _ _ 0 _ 23 (0, 0) q0) (cell_of_row _ _ 0 _ 3 (0, 0) q1) (cell_of_row _ _ 0 _ 3 (0, 0) q2) (cell_of_row _ _ 0 _ 3 (0, 0) q3), ⟨[], 1, 1, 1, _, .inl ⟨by rw [HLN.out]; exact HB.out, rfl⟩, rfl, World.ownsRow_nil _ _ _ _⟩, ?_⟩
    repeat (first | exact Below.refl _ _ | refine Below.alloc ?_ (by first | (simp; done) | (simp; omega)) _)
end
theorem implLex_any (a : Option Addr) (len cap : Nat) (s : ByteArray) (hl : s.size = len) (w : World) (hE : Glo w) (hcv : ∀ u : World, Below w.heap.size w u → (convert 22 9 (.slice a len cap)).run Tryz.prog u = .ok (.string s) u) :
    Calls Tryz.prog 9 #[.slice a len cap] w fun e w' => LexSaid w.heap.size s e w' ∧ Below w.heap.size w w' := by
  by_cases h : 20000 < len
  · exact implLex_big a len cap s hl h w
  · exact implLex_is a len cap s hl (by omega) w hE hcv
set_option maxRecDepth 8000 in
set_option maxHeartbeats 8000000 in
theorem implTT_is (t : Pl.Tk) (h0 : -9223372036854775808 ≤ t.N) (h1 : t.N ≤ 9223372036854775807) (hS : t.S.size ≤ 1048576) (w : World) (hE : Glo w) (hd : DbLies w) (hp : PowLies w) : Calls Tryz.prog 16 #[.agg #[.int .i64 t.k, .string t.S, .int .i64 t.N, .int .i64 t.l, .int .i64 t.c]] w fun e w' => e = .returned (.string (Pl.ttI t)) ∧ Below w.heap.size w w' := by
  have hcv : ∀ (u : World) (t : ByteArray), (convert 9 22 (.string t)).run Tryz.prog u = .ok (.slice (some ⟨u.heap.size, 0, none⟩) t.size (grownCap u t.size 0 5)) (Lib.bytesWorld u 5 t) := fun u t => Lib.run_convert_string_bytes u 9 22 5 t Tryz.underlying9 Tryz.underlying22 Tryz.underlying5
  have HTF : Hid (∀ u : World, Below w.heap.size w u → Calls Tryz.prog 34 #[.agg #[.int .i64 t.k, .string t.S, .int .i64 t.N, .int .i64 t.l, .int .i64 t.c]] u fun e w' => e = .returned (.string (Pl.txtI t)) ∧ Below u.heap.size u w') := fun u hu => textFor_is t h0 h1 hS u (hd.below hu) (hp.below hu)
  have HE : Hid (Glo w) := hE
  clear h0 h1 hS hE hd hp
  unfold Pl.ttI
  generalize Pl.txtI t = x at *
  go_enter Tryz.func16, Tryz.ntmps16
  go_upto_region 2 with (first | (go_at_call 34; refine (HTF.out _ (below_allocL _ _)).mono ?_; rintro e u1 ⟨rfl, d1⟩; have D1 : Hid (Below (w.alloc (.cells #[.int .i64 t.k, .string t.S, .int .i64 t.N, .int .i64 t.l, .int .i64 t.c] 34)).heap.size (w.alloc (.cells #[.int .i64 t.k, .string t.S, .int .i64 t.N, .int .i64 t.l, .int .i64 t.c] 34)) u1) := d1; clear d1) | (refine wpList_load_row rfl 34 _ rfl w.heap.size ?hx 34 #[.int .i64 t.k, .string t.S, .int .i64 t.N, .int .i64 t.l, .int .i64 t.c] (0, 0) _ ?hg Tryz.underlying34 ?hd ?hi ?_; (case hx => rfl); (case hg => exact heap_alloc_new w _); (case hd => rfl); (case hi => kernel_rfl)))
  have R1 : u1.heap[w.heap.size]? = some (.cells #[.int .i64 t.k, .string t.S, .int .i64 t.N, .int .i64 t.l, .int .i64 t.c] 34 (0, 0)) := (D1.out.block _ (by simp)).trans (heap_alloc_new w _)
  have c3 : u1.cell? ⟨w.heap.size, 3, none⟩ = some (.int .i64 t.l) := cell_of_row u1 _ 3 _ 34 (0, 0) R1
  have c4 : u1.cell? ⟨w.heap.size, 4, none⟩ = some (.int .i64 t.c) := cell_of_row u1 _ 4 _ 34 (0, 0) R1
  have f3 : u1.frozen? ⟨w.heap.size, 3, none⟩ = false := frozen_of_row u1 _ 3 _ 34 R1
  have f4 : u1.frozen? ⟨w.heap.size, 4, none⟩ = false := frozen_of_row u1 _ 4 _ 34 R1
  have B1 : Below w.heap.size w u1 := (below_allocL w _).trans (D1.out.mono (by simp))
  have HR1 : Hid _ := R1
  have HB1 : Hid (Below w.heap.size w u1) := B1
  clear R1 B1
  go_upto_region 3 with fail
  obtain ⟨U, hU⟩ : ∃ U, U = ((u1.setCell ⟨w.heap.size, 3, none⟩ (.int .i64 1)).setCell ⟨w.heap.size, 4, none⟩ (.int .i64 1)) := ⟨_, rfl⟩
  rw [← hU]
  have R2 : U.heap[w.heap.size]? = some (.cells #[.int .i64 t.k, .string t.S, .int .i64 t.N, .int .i64 1, .int .i64 1] 34 (0, 0)) := by
    rw [hU]
    exact heap_setCell_same _ _ _ _ _ _ (heap_setCell_same _ _ _ _ _ _ HR1.out)
  have B2 : Below w.heap.size w U := by
    rw [hU]
    exact (HB1.out.setCell (p := ⟨w.heap.size, 3, none⟩) (Nat.le_refl _) _).setCell (p := ⟨w.heap.size, 4, none⟩) (Nat.le_refl _) _
  have zU : w.heap.size < U.heap.size := (Array.getElem?_eq_some_iff.1 R2).1
  have HR2 : Hid _ := R2
  have HB2 : Hid (Below w.heap.size w U) := B2
  have BY : Hid (Below w.heap.size w (Lib.bytesWorld U 5 x)) := B2.trans ((Joins.below_bytesWorld _ _ 5 _ (Nat.le_refl _)).mono B2.size)
  clear hU R2 B2 c3 c4 f3 f4
  go_upto_region 4 with (go_at_call 9; refine (implLex_any (some ⟨U.heap.size, 0, none⟩) x.size _ x rfl (Lib.bytesWorld U 5 x) (HE.out.on BY.out) (back_at U x (U.heap.size) rfl _)).mono ?_; rintro e u2 ⟨h2, d2⟩; obtain ⟨ts, c, l, k, a0, c0, hx, rfl, g2⟩ := LexSaid.got h2; have D2 : Hid _ := d2; have HX : Hid (LxAll x (ts, c, l, k)) := hx; have HG : Hid _ := g2; clear h2 g2 d2 hx)
  have R3 : u2.heap[w.heap.size]? = some (.cells #[.int .i64 t.k, .string t.S, .int .i64 t.N, .int .i64 1, .int .i64 1] 34 (0, 0)) := (D2.out.block _ (by rw [Lib.bytesWorld_size]; omega)).trans ((Lib.bytesWorld_at_old _ 5 _ _ (by omega)).trans HR2.out)
  have b0 : u2.cell? ⟨w.heap.size, 0, none⟩ = some (.int .i64 t.k) := cell_of_row u2 _ 0 _ 34 (0, 0) R3
  have b1 : u2.cell? ⟨w.heap.size, 1, none⟩ = some (.string t.S) := cell_of_row u2 _ 1 _ 34 (0, 0) R3
  have b2 : u2.cell? ⟨w.heap.size, 2, none⟩ = some (.int .i64 t.N) := cell_of_row u2 _ 2 _ 34 (0, 0) R3
  have b3 : u2.cell? ⟨w.heap.size, 3, none⟩ = some (.int .i64 1) := cell_of_row u2 _ 3 _ 34 (0, 0) R3
  have b4 : u2.cell? ⟨w.heap.size, 4, none⟩ = some (.int .i64 1) := cell_of_row u2 _ 4 _ 34 (0, 0) R3
  have HB3 : Hid (Below w.heap.size w u2) := BY.out.trans (D2.out.mono BY.out.size)
  clear R3 D2
  by_cases hl : ts.length = 2
  rotate_left
  · have e1 : ((ts.length : Int) != 2) = true := by simp; omega
    have HC : Hid (ts.length ≠ 2) := hl
    clear hl
    go_quiet (fail)
    go_wp2_with fail
    go_ret
    exact ⟨ret_no HX.out (fun t0 t1 q _ => absurd (by rw [q]; rfl) HC.out), by repeat (first | with_reducible exact HB3.out | refine Below.drew ?_ | refine below_drewN ?_ _)⟩
  obtain ⟨t0, t1, rfl⟩ := len_two hl
  obtain ⟨g, rfl, hlo, hg1, x0, hx0, c0', c1', c2', c3', c4'⟩ := tok_at HG.out.1 (k := 0) (by simp)
  obtain rfl : x0 = t0 := hx0
  clear hl hlo
  simp only [Nat.zero_mul, Nat.zero_add] at c0' c1' c2' c3' c4'
  have hU := Tryz.underlying34
  have hg9 : Tryz.prog.eqGuardType Tryz.prog.depth 34 = false := by kernel_rfl
  by_cases he : x0 = ⟨t.k, t.S, t.N, 1, 1⟩
  · have HEQ : Hid (x0 = ⟨t.k, t.S, t.N, 1, 1⟩) := he
    rw [he] at c0' c1' c2' c3' c4'
    dsimp only at c0' c1' c2' c3' c4'
    clear he
    have heq : ∀ u : World, (Op.equalIn 10000 34 (.agg #[.int .i64 t.k, .string t.S, .int .i64 t.N, .int .i64 1, .int .i64 1]) (.agg #[.int .i64 t.k, .string t.S, .int .i64 t.N, .int .i64 1, .int .i64 1])).run Tryz.prog u = .ok true u := fun u => by rw [eqTk]; simp
    go_quiet (fail)
    go_wp2_with fail
    go_ret
    exact ⟨ret_yes HX.out HEQ.out, by repeat (first | with_reducible exact HB3.out | refine Below.drew ?_ | refine below_drewN ?_ _)⟩
  · have HC : Hid (x0 ≠ ⟨t.k, t.S, t.N, 1, 1⟩) := he
    have hb := tk_beq he
    dsimp only at hb
    have heq : ∀ u : World, (Op.equalIn 10000 34 (.agg #[.int .i64 x0.k, .string x0.S, .int .i64 x0.N, .int .i64 x0.l, .int .i64 x0.c]) (.agg #[.int .i64 t.k, .string t.S, .int .i64 t.N, .int .i64 1, .int .i64 1])).run Tryz.prog u = .ok false u := fun u => by rw [eqTk, hb]
    clear he hb
    go_quiet (fail)
    go_wp2_with fail
    go_ret
    exact ⟨ret_no HX.out (fun t0 t1 q _ p => HC.out (by cases q; exact p)), by repeat (first | with_reducible exact HB3.out | refine Below.drew ?_ | refine below_drewN ?_ _)⟩
end Go.Proofs.YtdplfflkmphpbaaGreatDoor.W
