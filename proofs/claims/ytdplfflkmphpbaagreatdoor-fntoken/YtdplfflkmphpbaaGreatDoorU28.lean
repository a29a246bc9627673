import Derived.Test.YtdplfflkmphpbaaGreatDoorU22
import Derived.Test.YtdplfflkmphpbaaGreatDoorU27
set_option linter.unusedVariables false
set_option linter.unusedSimpArgs false
namespace Go.Proofs.YtdplfflkmphpbaaGreatDoor.W
open Go.RowKit
theorem IsBytes.keep {w u : World} {a : Option Addr} {len cap : Nat} (h : IsBytes w a len cap) (hb : Below w.heap.size w u) : IsBytes u a len cap := by
  refine ⟨h.1, h.2.1, ?_⟩
  rcases h.2.2 with q | ⟨b, off, e, hl, hc⟩
  · exact .inl q
  · refine .inr ⟨b, off, e, Nat.lt_of_lt_of_le hl hb.size, fun i hi => ?_⟩
    obtain ⟨v, hv, hcl⟩ := hc i hi
    exact ⟨v, hv, by rw [← hcl]; exact World.cell?_of_block (w := w) (hb.block b hl)⟩
theorem specTT_i (t : Pl.Tk) (h1 : t.N ≤ 9223372036854775807) (hS : t.S.size ≤ 1048576) (w : World) : Calls Tryz.prog 18 #[.agg #[.int .i64 t.k, .string t.S, .int .i64 t.N, .int .i64 t.l, .int .i64 t.c]] w fun e w' => e = .returned (.string (Pl.ttI t)) ∧ Below w.heap.size w w' := by
  have := specTT_is t h1 hS w
  rw [Pl.tt_all] at this
  exact this
set_option maxRecDepth 8000 in
set_option maxHeartbeats 8000000 in
theorem fnToken_walk (a : Option Addr) (len cap : Nat) (w : World) (h : IsBytes w a len cap) (hE : Glo w) (hd : DbLies w) (hp : PowLies w) : Calls Tryz.prog 6 #[.slice a len cap] w fun e w' => e = .returned (.bool true) ∧ Below w.heap.size w w' := by
  have HI : Hid (IsBytes w a len cap) := h
  have HE : Hid (Glo w) := hE
  have HDb : Hid (DbLies w) := hd
  have HPw : Hid (PowLies w) := hp
  have hcv : ∀ (u : World) (t : ByteArray), (convert 9 22 (.string t)).run Tryz.prog u = .ok (.slice (some ⟨u.heap.size, 0, none⟩) t.size (grownCap u t.size 0 5)) (Lib.bytesWorld u 5 t) := fun u t => Lib.run_convert_string_bytes u 9 22 5 t Tryz.underlying9 Tryz.underlying22 Tryz.underlying5
  clear h hE hd hp
  by_cases hlen : 1048576 < len
  · go_enter Tryz.func6, Tryz.ntmps6
    go_wp2_with fail
    go_ret
    exact ⟨rfl, Below.refl _ _⟩
  go_enter Tryz.func6, Tryz.ntmps6
  go_wp2_with fail
  refine (drawTT_x w a len cap HI.out).mono ?_
  rintro e u1 ⟨t, ht, rfl, d1⟩
  have HT : Hid (Pl.Dt t) := ht
  have B1 : Hid (Below w.heap.size w u1) := d1
  clear ht d1
  go_wp2_with (refine wpList_store_row rfl 34 _ _ rfl (u1.heap.size) #[.int .i64 t.k, .string t.S, .int .i64 t.N, .int .i64 t.l, .int .i64 t.c] ?hx ?hy 34 #[.int .i64 0, .string ⟨#[]⟩, .int .i64 0, .int .i64 0, .int .i64 0] ?hg ?hi ?ho ?h1 ?_; (case hx => rfl); (case hy => rfl); (case hg => exact heap_alloc_new u1 _); (case hi => kernel_rfl); (case ho => kernel_rfl); (case h1 => kernel_rfl); refine Hid.out ?_)
  unfold Hid
  refine wpList_at fun u2 hu2 => ?_
  have R2 : Hid (u2.heap[u1.heap.size]? = some (.cells #[.int .i64 t.k, .string t.S, .int .i64 t.N, .int .i64 t.l, .int .i64 t.c] 34)) := by show u2.heap[u1.heap.size]? = _; rw [hu2]; exact setRow_heap _ _ _ _ _ _ (heap_alloc_new u1 _)
  have B2 : Hid (Below w.heap.size w u2) := by show Below w.heap.size w u2; rw [hu2]; exact below_setRowT (B1.out.alloc B1.out.size _) B1.out.size _
  have S2 : Hid (u1.heap.size < u2.heap.size) := (Array.getElem?_eq_some_iff.1 R2.out).1
  clear hu2
  have TTI : Hid (∀ u : World, Below w.heap.size w u → Calls Tryz.prog 16 #[.agg #[.int .i64 t.k, .string t.S, .int .i64 t.N, .int .i64 t.l, .int .i64 t.c]] u fun e w' => e = .returned (.string (Pl.ttI t)) ∧ Below u.heap.size u w') := fun u hu => implTT_is t (by have := HT.out.2.1; omega) (by have := HT.out.2.2; omega) HT.out.1 u (HE.out.on hu) (HDb.out.below hu) (HPw.out.below hu)
  have TTS : Hid (∀ u : World, Calls Tryz.prog 18 #[.agg #[.int .i64 t.k, .string t.S, .int .i64 t.N, .int .i64 t.l, .int .i64 t.c]] u fun e w' => e = .returned (.string (Pl.ttI t)) ∧ Below u.heap.size u w') := fun u => specTT_i t (by have := HT.out.2.2; omega) HT.out.1 u
  have TTR : Hid (Pl.ttI t ≠ ⟨#[]⟩ → ∀ ts c l k, LxAll (Pl.ttI t) (ts, c, l, k) → c = 0 ∧ ∃ t0 t1, ts = [t0, t1] ∧ t0.k = t.k ∧ t0.S = t.S ∧ t0.N = t.N ∧ t1.k = 0) := fun q ts c l k hx => Pl.tt_read q hx
  generalize Pl.ttI t = x at *
  go_upto_region 7 with (first | (refine wpList_load_row rfl 34 _ rfl (u1.heap.size) ?hx 34 #[.int .i64 t.k, .string t.S, .int .i64 t.N, .int .i64 t.l, .int .i64 t.c] (0, 0) _ ?hg Tryz.underlying34 ?hd ?hi ?_; (case hx => rfl); (case hg => exact R2.out); (case hd => rfl); (case hi => kernel_rfl)) | (go_at_call 16; refine (TTI.out _ B2.out).mono ?_; rintro e u3 ⟨rfl, d3⟩; have R3 : Hid (u3.heap[u1.heap.size]? = some (.cells #[.int .i64 t.k, .string t.S, .int .i64 t.N, .int .i64 t.l, .int .i64 t.c] 34)) := (d3.block _ S2.out).trans R2.out; have B3 : Hid (Below w.heap.size w u3) := B2.out.trans (d3.mono B2.out.size); have S3 : Hid (u1.heap.size < u3.heap.size) := Nat.lt_of_lt_of_le S2.out d3.size; clear d3) | (refine wpList_load_row rfl 34 _ rfl (u1.heap.size) ?hx 34 #[.int .i64 t.k, .string t.S, .int .i64 t.N, .int .i64 t.l, .int .i64 t.c] (0, 0) _ ?hg Tryz.underlying34 ?hd ?hi ?_; (case hx => rfl); (case hg => exact R3.out); (case hd => rfl); (case hi => kernel_rfl)) | (go_at_call 18; refine (TTS.out _).mono ?_; rintro e u4 ⟨rfl, d4⟩; have R4 : Hid (u4.heap[u1.heap.size]? = some (.cells #[.int .i64 t.k, .string t.S, .int .i64 t.N, .int .i64 t.l, .int .i64 t.c] 34)) := (d4.block _ S3.out).trans R3.out; have B4 : Hid (Below w.heap.size w u4) := B3.out.trans (d4.mono B3.out.size); have S4 : Hid (u1.heap.size < u4.heap.size) := Nat.lt_of_lt_of_le S3.out d4.size; clear d4))
  clear R2 R3 B2 B3 S2 S3 TTI TTS
  by_cases hx : x = ⟨#[]⟩
  · subst hx
    go_upto_region 13 with (first | (go_at_call 21; refine (drawQuote_x _ a len cap (HI.out.keep B4.out)).mono ?_; rintro e v1 ⟨y, rfl, hy, dv1⟩; have BV1 : Hid (Below w.heap.size w v1) := B4.out.trans (dv1.mono B4.out.size); have HYS : Hid (y.size ≤ 19) := hy; clear dv1 hy) | (go_at_call 22; refine (implQuote_any y (by have := HYS.out; omega) _ (HDb.out.below BV1.out)).mono ?_; rintro e v2 ⟨rfl, dv2⟩; have BV2 : Hid (Below w.heap.size w v2) := BV1.out.trans (dv2.mono BV1.out.size); have BY2 : Hid (Below w.heap.size w (Lib.bytesWorld v2 5 (Pl.qt y 34))) := BV2.out.trans ((Joins.below_bytesWorld _ _ 5 _ (Nat.le_refl _)).mono BV2.out.size); clear dv2) | (go_at_call 9; refine (implLex_any (some ⟨v2.heap.size, 0, none⟩) (Pl.qt y 34).size _ (Pl.qt y 34) rfl (Lib.bytesWorld v2 5 (Pl.qt y 34)) (HE.out.on BY2.out) (back_at v2 (Pl.qt y 34) (v2.heap.size) rfl _)).mono ?_; rintro e v3 ⟨hl3, dv3⟩; obtain ⟨ts3, c3, l3, k3, a3, p3, hx3, rfl, g3⟩ := LexSaid.got hl3; have BV3 : Hid (Below w.heap.size w v3) := BY2.out.trans (dv3.mono BY2.out.size); have HX3 : Hid (LxAll (Pl.qt y 34) (ts3, c3, l3, k3)) := hx3; have HG3 : Hid _ := g3; clear hl3 g3 dv3 hx3))
    obtain ⟨rfl, y0, y1, rfl, hk0, hS0⟩ := Pl.qt_read (by have := HYS.out; omega) HX3.out
    obtain ⟨g9, rfl, _, _, z0, hz0, s0, s1, _, _, _⟩ := tok_at HG3.out.1 (k := 0) (by simp)
    obtain rfl : z0 = y0 := hz0
    simp only [Nat.zero_mul, Nat.zero_add] at s0 s1
    rw [hk0] at s0
    rw [hS0] at s1
    clear hk0 hS0
    go_wp2_with fail
    go_ret
    exact ⟨rfl, BV3.out⟩
  have e7 : x.toList.isEmpty = false := by rw [Pl.isE]; exact decide_eq_false fun q => hx (Pl.ba_ext (by rw [q]; rfl) fun j hj => absurd hj (by omega))
  have BY : Hid (Below w.heap.size w (Lib.bytesWorld u4 5 x)) := B4.out.trans ((Joins.below_bytesWorld _ _ 5 _ (Nat.le_refl _)).mono B4.out.size)
  go_upto_region 9 with (go_at_call 9; refine (implLex_any (some ⟨u4.heap.size, 0, none⟩) x.size _ x rfl (Lib.bytesWorld u4 5 x) (HE.out.on BY.out) (back_at u4 x (u4.heap.size) rfl _)).mono ?_; rintro e u5 ⟨hl5, d5⟩; obtain ⟨ts, c5, l5, k5, a5, p5, hx5, rfl, g5⟩ := LexSaid.got hl5; have B5 : Hid (Below w.heap.size w u5) := BY.out.trans (d5.mono BY.out.size); have R5 : Hid (u5.heap[u1.heap.size]? = some (.cells #[.int .i64 t.k, .string t.S, .int .i64 t.N, .int .i64 t.l, .int .i64 t.c] 34)) := (d5.block _ (by rw [Lib.bytesWorld_size]; have := S4.out; omega)).trans ((Lib.bytesWorld_at_old _ 5 _ _ S4.out).trans R4.out); have HX5 : Hid (LxAll x (ts, c5, l5, k5)) := hx5; have HG5 : Hid _ := g5; clear hl5 g5 d5 hx5)
  obtain ⟨rfl, t0, t1, rfl, f0, f1, f2, f3⟩ := TTR.out hx _ _ _ _ HX5.out
  obtain ⟨g9, rfl, _, _, z0, hz0, s0, s1, s2, _, _⟩ := tok_at HG5.out.1 (k := 0) (by simp)
  obtain rfl : z0 = t0 := hz0
  obtain ⟨g8, hg8, _, _, z1, hz1, s5, _, _, _, _⟩ := tok_at HG5.out.1 (k := 1) (by simp)
  obtain rfl : z1 = t1 := hz1
  cases hg8
  simp only [Nat.zero_mul, Nat.zero_add, Nat.one_mul] at s0 s1 s2 s5
  rw [f0] at s0
  rw [f1] at s1
  rw [f2] at s2
  rw [f3] at s5
  have b0 : u5.cell? ⟨u1.heap.size, 0, none⟩ = some (.int .i64 t.k) := cell_of_row u5 _ 0 _ 34 (0, 0) R5.out
  have b1 : u5.cell? ⟨u1.heap.size, 1, none⟩ = some (.string t.S) := cell_of_row u5 _ 1 _ 34 (0, 0) R5.out
  have b2 : u5.cell? ⟨u1.heap.size, 2, none⟩ = some (.int .i64 t.N) := cell_of_row u5 _ 2 _ 34 (0, 0) R5.out
  clear f0 f1 f2 f3 hx e7 R4 R5 HX5 HG5
  go_quiet (fail)
  have B6 : Hid (∀ m, Below w.heap.size w (u5.drewN m)) := fun m => below_drewN B5.out m
  go_upto_region 13 with (first | (go_at_call 21; refine (drawQuote_x _ a len cap (HI.out.keep (B6.out _))).mono ?_; rintro e v1 ⟨y, rfl, hy, dv1⟩; have BV1 : Hid (Below w.heap.size w v1) := (B6.out _).trans (dv1.mono (B6.out _).size); have HYS : Hid (y.size ≤ 19) := hy; clear dv1 hy) | (go_at_call 22; refine (implQuote_any y (by have := HYS.out; omega) _ (HDb.out.below BV1.out)).mono ?_; rintro e v2 ⟨rfl, dv2⟩; have BV2 : Hid (Below w.heap.size w v2) := BV1.out.trans (dv2.mono BV1.out.size); have BY2 : Hid (Below w.heap.size w (Lib.bytesWorld v2 5 (Pl.qt y 34))) := BV2.out.trans ((Joins.below_bytesWorld _ _ 5 _ (Nat.le_refl _)).mono BV2.out.size); clear dv2) | (go_at_call 9; refine (implLex_any (some ⟨v2.heap.size, 0, none⟩) (Pl.qt y 34).size _ (Pl.qt y 34) rfl (Lib.bytesWorld v2 5 (Pl.qt y 34)) (HE.out.on BY2.out) (back_at v2 (Pl.qt y 34) (v2.heap.size) rfl _)).mono ?_; rintro e v3 ⟨hl3, dv3⟩; obtain ⟨ts3, c3, l3, k3, a3, p3, hx3, rfl, g3⟩ := LexSaid.got hl3; have BV3 : Hid (Below w.heap.size w v3) := BY2.out.trans (dv3.mono BY2.out.size); have HX3 : Hid (LxAll (Pl.qt y 34) (ts3, c3, l3, k3)) := hx3; have HG3 : Hid _ := g3; clear hl3 g3 dv3 hx3))
  obtain ⟨rfl, y0, y1, rfl, hk0, hS0⟩ := Pl.qt_read (by have := HYS.out; omega) HX3.out
  obtain ⟨g9, rfl, _, _, z0, hz0, s0, s1, _, _, _⟩ := tok_at HG3.out.1 (k := 0) (by simp)
  obtain rfl : z0 = y0 := hz0
  simp only [Nat.zero_mul, Nat.zero_add] at s0 s1
  rw [hk0] at s0
  rw [hS0] at s1
  clear hk0 hS0
  go_wp2_with fail
  go_ret
  exact ⟨rfl, BV3.out⟩
end Go.Proofs.YtdplfflkmphpbaaGreatDoor.W
