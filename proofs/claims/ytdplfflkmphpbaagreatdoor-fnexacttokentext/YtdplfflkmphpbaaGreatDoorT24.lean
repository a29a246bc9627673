import Derived.Test.YtdplfflkmphpbaaGreatDoorT21
set_option linter.unusedVariables false
set_option linter.unusedSimpArgs false
namespace Go.Proofs.YtdplfflkmphpbaaGreatDoor.W
open Go.RowKit
set_option maxRecDepth 8000 in
set_option maxHeartbeats 8000000 in
theorem specTT_chr (n : Nat) (tl tc : Int) (hn : (n : Int) ≤ 9223372036854775807) (w : World) : Calls Tryz.prog 18 #[.agg #[.int .i64 (3 : Int), .string (⟨#[99]⟩ : ByteArray), .int .i64 (n : Int), .int .i64 tl, .int .i64 tc]] w (TtSaid (⟨3, ⟨#[99]⟩, (n : Int), tl, tc⟩ : Pl.Tk) (((⟨#[39]⟩ : ByteArray) ++ (⟨(Pl.shown (n % 256) 39).toArray⟩ : ByteArray)) ++ (⟨#[39]⟩ : ByteArray)) w) := by
  have hcv : ∀ (u : World) (t : ByteArray), (convert 9 22 (.string t)).run Tryz.prog u = .ok (.slice (some ⟨u.heap.size, 0, none⟩) t.size (grownCap u t.size 0 5)) (Lib.bytesWorld u 5 t) := fun u t => Lib.run_convert_string_bytes u 9 22 5 t Tryz.underlying9 Tryz.underlying22 Tryz.underlying5
  go_enter Tryz.func18, Tryz.ntmps18
  go_upto_region 5 with fail
  have hns : (Pl.num (n : Int)).size ≤ 19 := Pl.num_size19 _ (by omega) hn
  have HNS : Hid ((Pl.num (n : Int)).size ≤ 19) := hns
  have HSH : Hid ((⟨(Pl.shown (n % 256) 39).toArray⟩ : ByteArray).size ≤ 4) := Pl.shown_len (n % 256) 39
  have HMOD : Hid ((n : Int) % 256 = ((n % 256 : Nat) : Int)) := by show (n : Int) % 256 = ((n % 256 : Nat) : Int); omega
  have HMO2 : Hid ((n : Int).tmod 256 = ((n % 256 : Nat) : Int)) := by show (n : Int).tmod 256 = ((n % 256 : Nat) : Int); rw [Int.tmod_eq_emod_of_nonneg (by omega)]; omega
  have hn0 : decide ((n : Int) < 0) = false := decide_eq_false (by omega)
  have hcat2 : ¬ (9223372036854775807 < (Pl.num (n : Int)).size + 1) := by omega
  have hcat3 : ¬ (9223372036854775807 < (Pl.num (n : Int)).size) := by omega
  have hcat : ¬ ((9223372036854775807 : Int) < ((Pl.num (n : Int) ++ (⟨#[99]⟩ : ByteArray)).size : Int)) := by have h1 := HNS.out; have h2 : (⟨#[99]⟩ : ByteArray).size ≤ 1 := (by decide); rw [ByteArray.size_append]; omega
  have hbx : ∀ u : World, Below (w.alloc (.cells #[.int .i64 (3 : Int), .string (⟨#[99]⟩ : ByteArray), .int .i64 (n : Int), .int .i64 tl, .int .i64 tc] 34)).heap.size (w.alloc (.cells #[.int .i64 (3 : Int), .string (⟨#[99]⟩ : ByteArray), .int .i64 (n : Int), .int .i64 tl, .int .i64 tc] 34)) u → u.heap[w.heap.size]? = some (.cells #[.int .i64 (3 : Int), .string (⟨#[99]⟩ : ByteArray), .int .i64 (n : Int), .int .i64 tl, .int .i64 tc] 34 (0, 0)) := fun u hu => (hu.block _ (by simp)).trans (heap_alloc_new w _)
  have HBX : Hid _ := hbx
  clear hbx
  have hb0 : (w.alloc (.cells #[.int .i64 (3 : Int), .string (⟨#[99]⟩ : ByteArray), .int .i64 (n : Int), .int .i64 tl, .int .i64 tc] 34)).cell? ⟨w.heap.size, 1, none⟩ = some (.string (⟨#[99]⟩ : ByteArray)) := cell_of_row _ _ 1 _ 34 (0, 0) (heap_alloc_new w _)
  have hb2 : (w.alloc (.cells #[.int .i64 (3 : Int), .string (⟨#[99]⟩ : ByteArray), .int .i64 (n : Int), .int .i64 tl, .int .i64 tc] 34)).cell? ⟨w.heap.size, 2, none⟩ = some (.int .i64 (n : Int)) := cell_of_row _ _ 2 _ 34 (0, 0) (heap_alloc_new w _)
  go_region_with (go_at_call 35; refine (specDec_is (n : Int) ⟨by omega, hn⟩ _).mono ?_; rintro e u1 ⟨rfl, d1⟩; have D1 : Hid (Below (w.alloc (.cells #[.int .i64 (3 : Int), .string (⟨#[99]⟩ : ByteArray), .int .i64 (n : Int), .int .i64 tl, .int .i64 tc] 34)).heap.size (w.alloc (.cells #[.int .i64 (3 : Int), .string (⟨#[99]⟩ : ByteArray), .int .i64 (n : Int), .int .i64 tl, .int .i64 tc] 34)) u1) := Below.trans (by repeat (first | with_reducible exact Below.refl _ _ | refine Below.drew ?_ | refine below_drewN ?_ _)) d1; have b1' : u1.cell? ⟨w.heap.size, 1, none⟩ = some (.string (⟨#[99]⟩ : ByteArray)) := cell_of_row u1 _ 1 _ 34 (0, 0) (HBX.out u1 D1.out); have b2' : u1.cell? ⟨w.heap.size, 2, none⟩ = some (.int .i64 (n : Int)) := cell_of_row u1 _ 2 _ 34 (0, 0) (HBX.out u1 D1.out); clear d1)
  all_goals
    go_upto_region 12 with (go_at_call 36; (first | (rw [HMOD.out]; refine (l5Shown_any (n % 256) 39 (by omega) (by decide) _).mono ?_) | (rw [HMO2.out]; refine (l5Shown_any (n % 256) 39 (by omega) (by decide) _).mono ?_) | refine (l5Shown_any (n % 256) 39 (by omega) (by decide) _).mono ?_); rintro e u3 ⟨rfl, d3⟩; have D3 : Hid (Below u1.heap.size u1 u3) := d3; clear d3; obtain ⟨sx, hsx, hsl⟩ : ∃ sx : ByteArray, sx = (⟨(Pl.shown (n % 256) 39).toArray⟩ : ByteArray) ∧ sx.size ≤ 4 := ⟨_, rfl, HSH.out⟩; rw [← hsx]; have HSX : Hid (sx = (⟨(Pl.shown (n % 256) 39).toArray⟩ : ByteArray)) := hsx; clear hsx; have hc1 : ¬ (9223372036854775807 < 1 + sx.size) := (by omega); have hc2 : ¬ (9223372036854775807 < 1 + sx.size + 1) := (by omega))
    obtain ⟨x, hx⟩ : ∃ x, x = ((⟨#[39]⟩ : ByteArray) ++ sx) ++ (⟨#[39]⟩ : ByteArray) := ⟨_, rfl⟩
    have hxs : x.size ≤ 1048576 := by rw [hx, ByteArray.size_append, ByteArray.size_append]; have h2 : (⟨#[39]⟩ : ByteArray).size ≤ 1 := (by decide); omega
    rw [← hx]
    have HXE : Hid (x = ((⟨#[39]⟩ : ByteArray) ++ (⟨(Pl.shown (n % 256) 39).toArray⟩ : ByteArray)) ++ (⟨#[39]⟩ : ByteArray)) := by rw [hx, HSX.out]; rfl
    clear hx
    go_upto_region 13 with (first | (go_at_call 7; refine (specLex_is (some ⟨u3.heap.size, 0, none⟩) (x).size _ (x) rfl hxs (Lib.bytesWorld (u3) 5 (x)) (back_at (u3) (x) (u3.heap.size) (by simp) _)).mono ?_; rintro e u2 ⟨h2, d2⟩; obtain ⟨ts, c, l, k, a0, c0, hx, rfl, g2⟩ := LexSaid.got h2; have D2 : Hid _ := d2; have HX : Hid (LxAll (x) (ts, c, l, k)) := hx; have HG : Hid _ := g2; clear h2 g2 d2 hx))
    have B1 : Below w.heap.size w (u3) := ((below_allocL _ _).trans (D1.out.mono (by simp))).trans (D3.out.mono (by have := D1.out.size; simp at this; omega))
    have B2 : Below w.heap.size w u2 := (B1.trans ((Joins.below_bytesWorld _ _ 5 _ (Nat.le_refl _)).mono B1.size)).trans (D2.out.mono (by rw [Lib.bytesWorld_size]; have := B1.size; omega))
    have R0 : u2.heap[w.heap.size]? = some (.cells #[.int .i64 (3 : Int), .string (⟨#[99]⟩ : ByteArray), .int .i64 (n : Int), .int .i64 tl, .int .i64 tc] 34 (0, 0)) := (D2.out.block _ (by rw [Lib.bytesWorld_size]; have := D1.out.size; have := D3.out.size; simp at *; omega)).trans ((Lib.bytesWorld_at_old _ 5 _ _ (by have := D1.out.size; have := D3.out.size; simp at *; omega)).trans ((D3.out.block _ (by have := D1.out.size; simp at this; omega)).trans (HBX.out u1 D1.out)))
    have b0 : u2.cell? ⟨w.heap.size, 0, none⟩ = some (.int .i64 (3 : Int)) := cell_of_row u2 _ 0 _ 34 (0, 0) R0
    obtain ⟨S0, hS0⟩ : ∃ S0, S0 = (⟨#[99]⟩ : ByteArray) := ⟨_, rfl⟩
    have b1 : u2.cell? ⟨w.heap.size, 1, none⟩ = some (.string S0) := by rw [hS0]; exact cell_of_row u2 _ 1 _ 34 (0, 0) R0
    have HS0 : Hid (S0 = (⟨#[99]⟩ : ByteArray)) := hS0
    clear hS0
    have b2 : u2.cell? ⟨w.heap.size, 2, none⟩ = some (.int .i64 (n : Int)) := cell_of_row u2 _ 2 _ 34 (0, 0) R0
    have HB2 : Hid (Below w.heap.size w u2) := B2
    clear B1 B2 R0 D2
    by_cases hc : c = 0
    rotate_left
    · have e1 : (c != 0) = true := by simpa using hc
      have HC : Hid (c ≠ 0) := hc
      clear hc
      go_quiet (fail)
      go_wp2_with fail
      go_ret
      exact ⟨by rw [← HXE.out]; exact ret_no HX.out (fun _ _ _ q => absurd q HC.out), by repeat (first | with_reducible exact HB2.out | refine Below.drew ?_ | refine below_drewN ?_ _)⟩
    subst hc
    by_cases hl : ts.length = 2
    rotate_left
    · have e1 : ((ts.length : Int) != 2) = true := by simp; omega
      have HC : Hid (ts.length ≠ 2) := hl
      clear hl
      go_quiet (fail)
      go_wp2_with fail
      go_ret
      exact ⟨by rw [← HXE.out]; exact ret_no HX.out (fun t0 t1 q _ => absurd (by rw [q]; rfl) HC.out), by repeat (first | with_reducible exact HB2.out | refine Below.drew ?_ | refine below_drewN ?_ _)⟩
    obtain ⟨t0, t1, rfl⟩ := len_two hl
    obtain ⟨g, rfl, hlo, hg1, x0, hx0, c0', c1', c2', c3', c4'⟩ := tok_at HG.out.1 (k := 0) (by simp)
    obtain rfl : x0 = t0 := hx0
    clear hl hlo
    simp only [Nat.zero_mul, Nat.zero_add] at c0' c1' c2'
    by_cases hk : x0.k = (3 : Int)
    rotate_left
    · have e1 : (x0.k != (3 : Int)) = true := by simpa using hk
      have HC : Hid (x0.k ≠ (3 : Int)) := hk
      clear hk
      go_quiet (fail)
      go_wp2_with fail
      go_ret
      exact ⟨by rw [← HXE.out]; exact ret_no HX.out (fun t0 t1 q _ p => HC.out (by cases q; exact p.1)), by repeat (first | with_reducible exact HB2.out | refine Below.drew ?_ | refine below_drewN ?_ _)⟩
    have e1 : (x0.k != (3 : Int)) = false := by simpa using hk
    have HK : Hid (x0.k = (3 : Int)) := hk
    clear hk
    by_cases hS' : x0.S = S0
    rotate_left
    · have e2 : (x0.S.toList == S0.toList) = false := str_ne hS'
      have HC : Hid (x0.S ≠ S0) := hS'
      clear hS'
      go_quiet (fail)
      go_wp2_with fail
      go_ret
      exact ⟨by rw [← HXE.out]; exact ret_no HX.out (fun t0 t1 q _ p => HC.out (by cases q; exact p.2.1.trans HS0.out.symm)), by repeat (first | with_reducible exact HB2.out | refine Below.drew ?_ | refine below_drewN ?_ _)⟩
    have e2 : (x0.S.toList == S0.toList) = true := str_eq hS'
    have HSS : Hid (x0.S = (⟨#[99]⟩ : ByteArray)) := hS'.trans HS0.out
    clear hS'
    by_cases hN' : x0.N = (n : Int)
    rotate_left
    · have e3 : (x0.N != (n : Int)) = true := by simpa using hN'
      have HC : Hid (x0.N ≠ (n : Int)) := hN'
      clear hN'
      go_quiet (fail)
      go_wp2_with fail
      go_ret
      exact ⟨by rw [← HXE.out]; exact ret_no HX.out (fun t0 t1 q _ p => HC.out (by cases q; exact p.2.2)), by repeat (first | with_reducible exact HB2.out | refine Below.drew ?_ | refine below_drewN ?_ _)⟩
    have e3 : (x0.N != (n : Int)) = false := by simpa using hN'
    have HNN : Hid (x0.N = (n : Int)) := hN'
    clear hN'
    go_quiet (fail)
    go_wp2_with fail
    go_ret
    exact ⟨by rw [← HXE.out]; exact ret_yes HX.out ⟨HK.out, HSS.out, HNN.out⟩, by repeat (first | with_reducible exact HB2.out | refine Below.drew ?_ | refine below_drewN ?_ _)⟩
end Go.Proofs.YtdplfflkmphpbaaGreatDoor.W
