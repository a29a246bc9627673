import Derived.Test.YtfcfnbncgadomaaQ00
import Derived.Laws.ResultCell
import Derived.Laws.Tables
set_option linter.unusedVariables false
set_option linter.unusedSimpArgs false
namespace Go.Proofs.Ytfcfnbncgadomaa.W
open Go.RowKit
theorem wp_at {P : Program} {code : Code} {Q : Exit → Act → World → Prop} {a : Act} {W : World} (h : ∀ U, U = W → code.wp P Q a U) : code.wp P Q a W := h W rfl
theorem below_setRow' {B : Nat} {a w : World} (h : Below B a w) {g : Nat} (hg : B ≤ g) (cs : Array Value) : Below B a (w.setRow g cs) :=
  ⟨h.os, h.tape, h.output, by rw [size_setRow]; exact h.size, fun k hk => (setRow_other w g k cs (by omega)).trans (h.block k hk)⟩
theorem RdOk.setRowOther {u : World} {c r g : Nat} (h : RdOk u c) (hg : c < r) (hg' : r < g) (cs : Array Value) : RdOk (u.setRow r cs) c := by
  obtain ⟨a, len, cap, p, hrow, hl, hp, hb⟩ := h
  refine ⟨a, len, cap, p, by rw [setRow_other u r c cs (by omega)]; exact hrow, hl, hp, ?_⟩
  rcases hb with hb | ⟨b, off, ha, hbc, hby⟩
  · exact .inl hb
  · refine .inr ⟨b, off, ha, hbc, fun j hj => ?_⟩
    obtain ⟨v, hv, hc⟩ := hby j hj
    exact ⟨v, hv, by rw [← hc]; exact World.cell?_of_block (w := u) (setRow_other u r b cs (by omega))⟩
theorem rng : ∀ f : Nat, f < 9 → -1048576 ≤ Pl.lo f ∧ Pl.lo f ≤ 0 ∧ 0 ≤ Pl.hi f ∧ Pl.hi f ≤ 1048575 ∧ 1 ≤ Pl.st f ∧ Pl.st f ≤ 2 := by decide +kernel
def tab6 (L U D : Int) : Array Value := #[.int .i64 L, .int .i64 U, .int .i64 (U + D), .int .i64 (L - D), .int .i64 0, .int .i64 (-D)]
theorem tab6_at (L U D : Int) : ∀ j : Nat, j < 6 → ∃ n : Int, (tab6 L U D)[j]? = some (.int .i64 n)
  | 0, _ => ⟨_, rfl⟩ | 1, _ => ⟨_, rfl⟩ | 2, _ => ⟨_, rfl⟩ | 3, _ => ⟨_, rfl⟩ | 4, _ => ⟨_, rfl⟩ | 5, _ => ⟨_, rfl⟩
  | n + 6, h => absurd h (by omega)
def tabA : Array Value := #[.int .i64 0, .int .i64 48, .int .i64 (-1)]
theorem tabA_at : ∀ j : Nat, j < 3 → ∃ n : Int, tabA[j]? = some (.int .i64 n)
  | 0, _ => ⟨_, rfl⟩ | 1, _ => ⟨_, rfl⟩ | 2, _ => ⟨_, rfl⟩
  | n + 3, h => absurd h (by omega)
def tabB : Array Value := #[.int .i64 32, .int .i64 (-1), .int .i64 1]
theorem tabB_at : ∀ j : Nat, j < 3 → ∃ n : Int, tabB[j]? = some (.int .i64 n)
  | 0, _ => ⟨_, rfl⟩ | 1, _ => ⟨_, rfl⟩ | 2, _ => ⟨_, rfl⟩
  | n + 3, h => absurd h (by omega)
set_option maxRecDepth 20000 in
set_option maxHeartbeats 8000000 in
theorem inst_only (w : World) (c : Nat) (h : RdOk w c) : Calls Try.prog 83 #[.pointer (some ⟨c, 0, none⟩)] w fun e w' => ∃ op rd r1 r2 im : Int, e = .returned (.agg #[.int .i64 op, .int .i64 rd, .int .i64 r1, .int .i64 r2, .int .i64 im]) ∧ RdOk w' c ∧ OnlyB c w w' := by
  have H0 : Hid (RdOk w c) := h
  have hcw := h.lt
  clear h
  go_enter Try.func83, Try.ntmps83
  go_wp2_with fail
  refine (next_only _ c (H0.out.alloc _)).mono ?_
  rintro e w1 ⟨k, rfl, hk, R1, O1⟩
  have hres : w1.heap[w.heap.size]? = some (.cells #[.int .i64 0, .int .i64 0, .int .i64 0, .int .i64 0, .int .i64 0] 105) := by rw [O1.block _ (by simp) (by omega)]; exact heap_alloc_new w _
  have B1 : OnlyB c w w1 := (OnlyB.of_below ((Below.refl _ _).alloc (Nat.le_refl _) _)).trans O1
  have hsz : w.heap.size < w1.heap.size := by have := O1.size; simp at this; omega
  obtain ⟨r, hr⟩ : ∃ r, r = w.heap.size := ⟨_, rfl⟩
  rw [← hr] at hres hsz hcw ⊢
  have hwr : Hid (w.heap.size ≤ r) := by show w.heap.size ≤ r; omega
  clear O1 hr
  go_upto_region 3 with fail
  have hq : (1 + (k : Int) % 47) = ((1 + k % 47 : Nat) : Int) := by omega
  rw [hq]
  obtain ⟨q, hqq⟩ : ∃ q, q = 1 + k % 47 := ⟨_, rfl⟩
  rw [← hqq]
  have q1 : 1 ≤ q := by omega
  have q2 : q ≤ 47 := by omega
  clear hq hqq
  obtain ⟨u2, hu2⟩ : ∃ u, w1.alloc (.cells #[.int .i64 (q : Int), .int .i64 0, .int .i64 0, .int .i64 0, .int .i64 0] 105) = u := ⟨_, rfl⟩
  rw [hu2]
  obtain ⟨g, hg⟩ : ∃ g, g = w1.heap.size := ⟨_, rfl⟩
  rw [← hg]
  have hrow2 : u2.heap[g]? = some (.cells #[.int .i64 (q : Int), .int .i64 0, .int .i64 0, .int .i64 0, .int .i64 0] 105) := by rw [← hu2, hg]; exact heap_alloc_new w1 _
  have S2 : Hid (InSt w c r g u2) := ⟨by rw [← hu2]; exact R1.alloc _, ⟨_, _, _, _, _, hrow2⟩, by rw [← hu2, Below.heap_alloc w1 _ r hsz]; exact hres, by rw [← hu2]; exact B1.trans (OnlyB.of_below ((Below.refl _ _).alloc (Nat.le_refl _) _)), hcw, by omega, hwr.out⟩
  have kc2 : ∀ j, u2.cell? ⟨g, j, none⟩ = (#[.int .i64 (q : Int), .int .i64 0, .int .i64 0, .int .i64 0, .int .i64 0] : Array Value)[j]? := fun j => cell_of_row u2 g j _ 105 (0, 0) hrow2
  clear hrow2 hu2 hg R1 B1 hres hsz H0
  go_wp2_with fail
  refine (form_any q q1 q2 _).mono ?_
  rintro e u3 ⟨rfl, h3⟩
  rw [h3]
  clear h3 u3 kc2
  obtain ⟨f1, f2, _⟩ := Pl.fm_cases q (by omega) q1
  obtain ⟨f, hf⟩ : ∃ f, f = Pl.fmN q := ⟨_, rfl⟩
  rw [← hf] at f1 f2 ⊢
  clear hf
  go_wp2_with fail
  refine (parts_any f f1 f2 _).mono ?_
  rintro e u3 ⟨rfl, h3⟩
  have S3 : Hid (InSt w c r g u3) := by show InSt w c r g u3; rw [h3]; exact S2.out.alloc _
  clear h3 S2
  obtain ⟨p, hp⟩ : ∃ p, p = Pl.pts f := ⟨_, rfl⟩
  have pb : 0 ≤ p ∧ p ≤ 14 := by rw [hp]; exact Pl.pts_bd f (by omega)
  rw [← hp]
  clear hp
  go_wp2_with fail
  refine (next_only _ c S3.out.rd).mono ?_
  rintro e u4 ⟨v, rfl, hv, R4, O4⟩
  have S4 : Hid (InSt w c r g u4) := S3.out.only R4 O4
  clear R4 O4 S3
  go_upto_if 28 with fail
  go_cut [4] from 13 to 142 (fun s4 wx => s4 = .pointer (some ⟨g, 0, none⟩) ∧ InSt w c r g wx)
  case first =>
    obtain ⟨ra99, rb99, rx99, ry99, rz99, hr99⟩ := S4.out.row
    have kc99 : ∀ j, u4.cell? ⟨g, j, none⟩ = (#[.int .i64 ra99, .int .i64 rb99, .int .i64 rx99, .int .i64 ry99, .int .i64 rz99] : Array Value)[j]? := (fun j => cell_of_row u4 g j _ 105 (0, 0) hr99)
    have kf99 : ∀ j, u4.frozen? ⟨g, j, none⟩ = false := (fun j => frozen_of_row u4 g j _ 105 hr99)
    clear hr99
    go_wp2_with fail
    all_goals
      go_meet
      refine ⟨rfl, ?_⟩
      first
        | exact S4.out
        | exact S4.out.set _ (by decide) _
  case rest =>
  obtain ⟨rfl, hst⟩ := hcut
  obtain ⟨y5, hu5⟩ : ∃ u : World, u = wc := ⟨wc, rfl⟩
  rw [← hu5] at hst ⊢
  have S5 : Hid (InSt w c r g y5) := hst
  clear hst hu5 S4
  go_upto_if 35 with fail
  go_cut [4] from 13 to 142 (fun s4 wx => s4 = .pointer (some ⟨g, 0, none⟩) ∧ InSt w c r g wx)
  case first =>
    obtain ⟨ra99, rb99, rx99, ry99, rz99, hr99⟩ := S5.out.row
    have kc99 : ∀ j, y5.cell? ⟨g, j, none⟩ = (#[.int .i64 ra99, .int .i64 rb99, .int .i64 rx99, .int .i64 ry99, .int .i64 rz99] : Array Value)[j]? := (fun j => cell_of_row y5 g j _ 105 (0, 0) hr99)
    have kf99 : ∀ j, y5.frozen? ⟨g, j, none⟩ = false := (fun j => frozen_of_row y5 g j _ 105 hr99)
    clear hr99
    go_wp2_with fail
    · refine (next_only _ c S5.out.rd).mono ?_
      rintro e y61 ⟨m1, rfl, hm1, R61, O61⟩
      have S61 : Hid (InSt w c r g y61) := S5.out.only R61 O61
      clear R61 O61 kc99 kf99
      obtain ⟨ra61, rb61, rx61, ry61, rz61, hr61⟩ := S61.out.row
      have kc61 : ∀ j, y61.cell? ⟨g, j, none⟩ = (#[.int .i64 ra61, .int .i64 rb61, .int .i64 rx61, .int .i64 ry61, .int .i64 rz61] : Array Value)[j]? := (fun j => cell_of_row y61 g j _ 105 (0, 0) hr61)
      have kf61 : ∀ j, y61.frozen? ⟨g, j, none⟩ = false := (fun j => frozen_of_row y61 g j _ 105 hr61)
      clear hr61
      go_wp2_with fail
      go_meet
      exact ⟨rfl, S61.out.set _ (by decide) _⟩
    · go_meet
      exact ⟨rfl, S5.out⟩
  case rest =>
  obtain ⟨rfl, hst⟩ := hcut
  obtain ⟨y6, hu6⟩ : ∃ u : World, u = wc := ⟨wc, rfl⟩
  rw [← hu6] at hst ⊢
  have S6 : Hid (InSt w c r g y6) := hst
  clear hst hu6 S5
  go_upto_if 43 with fail
  go_cut [4] from 13 to 142 (fun s4 wx => s4 = .pointer (some ⟨g, 0, none⟩) ∧ InSt w c r g wx)
  case first =>
    obtain ⟨ra99, rb99, rx99, ry99, rz99, hr99⟩ := S6.out.row
    have kc99 : ∀ j, y6.cell? ⟨g, j, none⟩ = (#[.int .i64 ra99, .int .i64 rb99, .int .i64 rx99, .int .i64 ry99, .int .i64 rz99] : Array Value)[j]? := (fun j => cell_of_row y6 g j _ 105 (0, 0) hr99)
    have kf99 : ∀ j, y6.frozen? ⟨g, j, none⟩ = false := (fun j => frozen_of_row y6 g j _ 105 hr99)
    clear hr99
    go_wp2_with fail
    · refine (next_only _ c S6.out.rd).mono ?_
      rintro e y71 ⟨m2, rfl, hm2, R71, O71⟩
      have S71 : Hid (InSt w c r g y71) := S6.out.only R71 O71
      clear R71 O71 kc99 kf99
      obtain ⟨ra71, rb71, rx71, ry71, rz71, hr71⟩ := S71.out.row
      have kc71 : ∀ j, y71.cell? ⟨g, j, none⟩ = (#[.int .i64 ra71, .int .i64 rb71, .int .i64 rx71, .int .i64 ry71, .int .i64 rz71] : Array Value)[j]? := (fun j => cell_of_row y71 g j _ 105 (0, 0) hr71)
      have kf71 : ∀ j, y71.frozen? ⟨g, j, none⟩ = false := (fun j => frozen_of_row y71 g j _ 105 hr71)
      clear hr71
      go_wp2_with fail
      go_meet
      exact ⟨rfl, S71.out.set _ (by decide) _⟩
    · go_meet
      exact ⟨rfl, S6.out⟩
  case rest =>
  obtain ⟨rfl, hst⟩ := hcut
  obtain ⟨y7, hu7⟩ : ∃ u : World, u = wc := ⟨wc, rfl⟩
  rw [← hu7] at hst ⊢
  have S7 : Hid (InSt w c r g y7) := hst
  clear hst hu7 S6
  go_wp2_with fail
  refine (range_any f f1 f2 _).mono ?_
  rintro e y8 ⟨rfl, h8⟩
  rw [h8]
  clear h8 y8
  obtain ⟨L, hL⟩ : ∃ L, L = Pl.lo f := ⟨_, rfl⟩
  obtain ⟨U, hU⟩ : ∃ U, U = Pl.hi f := ⟨_, rfl⟩
  obtain ⟨D, hD⟩ : ∃ D, D = Pl.st f := ⟨_, rfl⟩
  have rb := rng f (by omega)
  rw [← hL, ← hU, ← hD] at rb
  rw [← hL, ← hU, ← hD]
  clear hL hU hD
  obtain ⟨L1, L2, U1, U2, D1, D2⟩ := rb
  go_wp2_with fail
  refine (next_only _ c S7.out.rd).mono ?_
  rintro e y8 ⟨n1, rfl, hn1, R8, O8⟩
  have S8 : Hid (InSt w c r g y8) := S7.out.only R8 O8
  clear R8 O8 S7
  go_wp2_with fail
  refine (next_only _ c S8.out.rd).mono ?_
  rintro e y9 ⟨n2, rfl, hn2, R9, O9⟩
  have S9 : Hid (InSt w c r g y9) := S8.out.only R9 O9
  clear R9 O9 S8
  go_wp2_with fail
  refine (next_only _ c S9.out.rd).mono ?_
  rintro e y10 ⟨n3, rfl, hn3, R10, O10⟩
  have S10 : Hid (InSt w c r g y10) := S9.out.only R10 O10
  clear R10 O10 S9
  have hne1 : ¬ (U - L + 1 = 0) := by omega
  have hne2 : ¬ (D = 0) := by omega
  go_upto_if 66 with fail
  go_cut [4] from 13 to 142 (fun s4 wx => s4 = .pointer (some ⟨g, 0, none⟩) ∧ InSt w c r g wx)
  case first =>
    obtain ⟨ra99, rb99, rx99, ry99, rz99, hr99⟩ := S10.out.row
    have kc99 : ∀ j, y10.cell? ⟨g, j, none⟩ = (#[.int .i64 ra99, .int .i64 rb99, .int .i64 rx99, .int .i64 ry99, .int .i64 rz99] : Array Value)[j]? := (fun j => cell_of_row y10 g j _ 105 (0, 0) hr99)
    have kf99 : ∀ j, y10.frozen? ⟨g, j, none⟩ = false := (fun j => frozen_of_row y10 g j _ 105 hr99)
    clear hr99
    go_upto_if 81 with fail
    · refine wp_at fun y12 hy12 => ?_
      have S12 : Hid (InSt w c r g y12) := by show InSt w c r g y12; rw [hy12]; exact S10.out.set _ (by decide) _
      clear hy12 kc99 kf99 S10
      obtain ⟨sa12, sb12, sx12, sy12, sz12, hs12⟩ := S12.out.row
      have hl12 := S12.out.lt
      have ac12 : ∀ o j, (y12.alloc o).cell? ⟨g, j, none⟩ = (#[.int .i64 sa12, .int .i64 sb12, .int .i64 sx12, .int .i64 sy12, .int .i64 sz12] : Array Value)[j]? := (fun o j => cell_of_row (y12.alloc o) g j _ 105 (0, 0) ((Below.heap_alloc y12 o g hl12).trans hs12))
      have af12 : ∀ o j, (y12.alloc o).frozen? ⟨g, j, none⟩ = false := (fun o j => frozen_of_row (y12.alloc o) g j _ 105 ((Below.heap_alloc y12 o g hl12).trans hs12))
      clear hs12
      obtain ⟨t, ht⟩ := tab6_at L U D (v % 6) (by omega)
      have hc : (y12.alloc (.cells (tab6 L U D) 3)).cell? ⟨y12.heap.size, v % 6, none⟩ = some (.int .i64 t) := by rw [cell_of_row _ _ _ (tab6 L U D) 3 (0, 0) (heap_alloc_new y12 _)]; exact ht
      clear ht
      go_wp2_with (refine Great.wpList_buildSliceTo rfl 23 3 6 _ rfl y12.heap.size rfl _ rfl Try.underlying23 (tab6 L U D) (by kernel_rfl) ?_)
      · go_meet
        exact ⟨rfl, (S12.out.set 4 (by decide) _).alloc _⟩
      · go_meet
        exact ⟨rfl, S12.out⟩
    · go_wp2_with fail
      go_meet
      exact ⟨rfl, S10.out⟩
  case rest =>
  obtain ⟨rfl, hst⟩ := hcut
  obtain ⟨y11, hu11⟩ : ∃ u : World, u = wc := ⟨wc, rfl⟩
  rw [← hu11] at hst ⊢
  have S11 : Hid (InSt w c r g y11) := hst
  clear hst hu11 S10
  go_upto_if 99 with fail
  go_cut [4] from 13 to 142 (fun s4 wx => s4 = .pointer (some ⟨g, 0, none⟩) ∧ InSt w c r g wx)
  case first =>
    obtain ⟨ra99, rb99, rx99, ry99, rz99, hr99⟩ := S11.out.row
    have kc99 : ∀ j, y11.cell? ⟨g, j, none⟩ = (#[.int .i64 ra99, .int .i64 rb99, .int .i64 rx99, .int .i64 ry99, .int .i64 rz99] : Array Value)[j]? := (fun j => cell_of_row y11 g j _ 105 (0, 0) hr99)
    have kf99 : ∀ j, y11.frozen? ⟨g, j, none⟩ = false := (fun j => frozen_of_row y11 g j _ 105 hr99)
    clear hr99
    obtain ⟨sa11, sb11, sx11, sy11, sz11, hs11⟩ := S11.out.row
    have hl11 := S11.out.lt
    have ac11 : ∀ o j, (y11.alloc o).cell? ⟨g, j, none⟩ = (#[.int .i64 sa11, .int .i64 sb11, .int .i64 sx11, .int .i64 sy11, .int .i64 sz11] : Array Value)[j]? := (fun o j => cell_of_row (y11.alloc o) g j _ 105 (0, 0) ((Below.heap_alloc y11 o g hl11).trans hs11))
    have af11 : ∀ o j, (y11.alloc o).frozen? ⟨g, j, none⟩ = false := (fun o j => frozen_of_row (y11.alloc o) g j _ 105 ((Below.heap_alloc y11 o g hl11).trans hs11))
    clear hs11
    obtain ⟨t, ht⟩ := tabA_at (v / 5 % 3) (by omega)
    have hc : (y11.alloc (.cells tabA 3)).cell? ⟨y11.heap.size, v / 5 % 3, none⟩ = some (.int .i64 t) := by rw [cell_of_row _ _ _ tabA 3 (0, 0) (heap_alloc_new y11 _)]; exact ht
    obtain ⟨t', ht'⟩ := tabB_at (v / 5 % 3) (by omega)
    have hc' : (y11.alloc (.cells tabB 3)).cell? ⟨y11.heap.size, v / 5 % 3, none⟩ = some (.int .i64 t') := by rw [cell_of_row _ _ _ tabB 3 (0, 0) (heap_alloc_new y11 _)]; exact ht'
    clear ht ht'
    by_cases h5 : v % 5 = 0
    · have e5 : ((v : Int) % 5 == 0) = true := by simp; omega
      clear h5 hc'
      go_wp2_with (refine Great.wpList_buildSliceTo rfl 23 3 3 _ rfl y11.heap.size rfl _ rfl Try.underlying23 tabA (by kernel_rfl) ?_)
      all_goals
        go_meet
        refine ⟨rfl, ?_⟩
        first
          | exact S11.out
          | exact (S11.out.set 0 (by decide) _).alloc _
    · have e5 : ((v : Int) % 5 == 0) = false := by simp; omega
      clear h5 hc
      go_wp2_with (refine Great.wpList_buildSliceTo rfl 23 3 3 _ rfl y11.heap.size rfl _ rfl Try.underlying23 tabB (by kernel_rfl) ?_)
      all_goals
        go_meet
        refine ⟨rfl, ?_⟩
        first
          | exact S11.out
          | exact S11.out.set 4 (by decide) _
          | exact (S11.out.set 1 (by decide) _).alloc _
          | exact (S11.out.set 2 (by decide) _).alloc _
          | exact (S11.out.set 3 (by decide) _).alloc _
  case rest =>
  obtain ⟨rfl, hst⟩ := hcut
  obtain ⟨y13, hu13⟩ : ∃ u : World, u = wc := ⟨wc, rfl⟩
  rw [← hu13] at hst ⊢
  have S13 : Hid (InSt w c r g y13) := hst
  clear hst hu13 S11
  obtain ⟨ra, rb, rx, ry, rz, hrow⟩ := S13.out.row
  have hres := S13.out.res
  have hrg := S13.out.rg
  have HB : Hid (OnlyB c w y13 ∧ RdOk y13 c ∧ c < r ∧ r < g) := ⟨S13.out.bel, S13.out.rd, S13.out.cr, hrg⟩
  go_wp2_with (first | (refine wpList_load_row rfl 105 _ rfl g ?hx 105 #[.int .i64 ra, .int .i64 rb, .int .i64 rx, .int .i64 ry, .int .i64 rz] (0, 0) _ ?hg Try.underlying105 ?hd ?hi ?_; (case hx => rfl); (case hg => exact hrow); (case hd => rfl); (case hi => kernel_rfl)) | (refine wpList_store_row rfl 105 _ _ rfl r #[.int .i64 ra, .int .i64 rb, .int .i64 rx, .int .i64 ry, .int .i64 rz] ?hx ?hy 105 #[.int .i64 0, .int .i64 0, .int .i64 0, .int .i64 0, .int .i64 0] ?hg ?hi ?ho ?h1 ?_; (case hx => rfl); (case hy => rfl); (case hg => exact hres); (case hi => kernel_rfl); (case ho => kernel_rfl); (case h1 => kernel_rfl); refine Hid.out ?_))
  unfold Hid
  go_wp2
  obtain ⟨hb1, hb2, hb3, hb4⟩ := HB.out
  exact bodyPost_ret (v := .agg #[.int .i64 ra, .int .i64 rb, .int .i64 rx, .int .i64 ry, .int .i64 rz]) (results_cell_row Try.results83 _ _ r 105 #[.int .i64 ra, .int .i64 rb, .int .i64 rx, .int .i64 ry, .int .i64 rz] (0, 0) _ rfl (setRow_heap _ _ _ _ 105 _ hres) Try.underlying105 rfl (by kernel_rfl)) rfl ⟨ra, rb, rx, ry, rz, rfl, hb2.setRowOther hb3 hb4 _, hb1.low (below_setRow' (Below.refl _ _) hwr.out _)⟩
theorem inst_any (w : World) (c : Nat) (h : RdOk w c) : Calls Try.prog 83 #[.pointer (some ⟨c, 0, none⟩)] w fun e w' => ∃ op rd r1 r2 im : Int, e = .returned (.agg #[.int .i64 op, .int .i64 rd, .int .i64 r1, .int .i64 r2, .int .i64 im]) ∧ RdOk w' c ∧ Below c w w' :=
  (inst_only w c h).mono fun e w' ⟨op, rd, r1, r2, im, he, hr, ho⟩ => ⟨op, rd, r1, r2, im, he, hr, ho.below h.lt⟩
end Go.Proofs.Ytfcfnbncgadomaa.W
