import Derived.Test.YtdplfflkmphpbaaGreatDoorV23
import Derived.Test.YtdplfflkmphpbaaGreatDoorV28
import Derived.Test.YtdplfflkmphpbaaGreatDoorV22
set_option linter.unusedVariables false
set_option linter.unusedSimpArgs false
namespace Go.Proofs.YtdplfflkmphpbaaGreatDoor.W
open Go.RowKit
theorem IsBytes.keep {w u : World} {a : Option Addr} {len cap : Nat} (h : IsBytes w a len cap) (hb : Below w.heap.size w u) : IsBytes u a len cap := by
  refine ⟨h.1, h.2.1, ?_⟩
  rcases h.2.2 with q | ⟨b, off, e, hl, hc⟩
  · exact .inl q
  · refine .inr ⟨b, off, e, Nat.lt_of_lt_of_le hl hb.size, fun i hi => ?_⟩
    obtain ⟨v, hv, hcl⟩ := hc i hi
    exact ⟨v, hv, by rw [← hcl]; exact World.cell?_of_block (w := w) (hb.block b hl)⟩
end Go.Proofs.YtdplfflkmphpbaaGreatDoor.W
namespace Go.Proofs.YtdplfflkmphpbaaGreatDoor.W
open Go.RowKit
theorem cl_nums (zs : List UInt8) : Pl.cl zs = (zs.map fun b => (b.toNat : Int)).map (Value.int .u8) := by
  unfold Pl.cl
  rw [List.map_map]
  rfl
theorem nums_back (zs : List UInt8) : strOfNums (zs.map fun b => (b.toNat : Int)) = ⟨zs.toArray⟩ := by
  unfold strOfNums
  congr 2
  rw [List.map_map]
  exact (List.map_congr_left fun b _ => by simp).trans (List.map_id zs)
theorem own_conv {B : Nat} {w : World} {a : Option Addr} {n cap : Nat} {zs : List UInt8} (h : w.ownsRow B 5 1 (.slice a n cap) n (Pl.cl zs)) : (convert 22 9 (.slice a n cap)).run Tryz.prog w = .ok (.string ⟨zs.toArray⟩) w := by
  have ho : Own .u8 5 B w a n cap (zs.map fun b => (b.toNat : Int)) := by
    refine ⟨by rw [← cl_nums]; exact h, fun x hx => ?_⟩
    obtain ⟨b, _, rfl⟩ := List.mem_map.1 hx
    have := b.toNat_lt
    simp [Lit.wf, IntKind.min, IntKind.max, IntKind.signed, IntKind.bits]
    omega
  rw [conv_row a n cap _ w ho.row, nums_back]
theorem own_convs {B : Nat} {w : World} {a : Option Addr} {n cap : Nat} {zs : List UInt8} (h : w.ownsRow B 5 1 (.slice a n cap) n (Pl.cl zs)) : ∀ u : World, Below w.heap.size w u → (convert 22 9 (.slice a n cap)).run Tryz.prog u = .ok (.string ⟨zs.toArray⟩) u := fun u hu => own_conv (own_keep h hu)
end Go.Proofs.YtdplfflkmphpbaaGreatDoor.W
namespace Go.Proofs.YtdplfflkmphpbaaGreatDoor.Pl
theorem outL_len (us : List Tk) (hv : ∀ t ∈ us, Vt t.k t.S t.N) : (outL us).length ≤ 803 * us.length := by
  induction us with
  | nil => exact Nat.le_refl _
  | cons t us ih =>
    have h1 := ih fun t ht => hv t (List.mem_cons_of_mem _ ht)
    have h2 : (txtI t).size ≤ 802 := (vt_size (hv t (by simp)) t.l t.c).1
    unfold outL at h1 ⊢
    rw [List.flatMap_cons, List.length_append, List.length_append, List.length_cons]
    rw [sz_len] at h2
    simp only [List.length_cons, List.length_nil]
    omega
theorem outL_take (us : List Tk) (k : Nat) (h : k < us.length) : outL (us.take (k + 1)) = (outL (us.take k) ++ (txtI (us.getD k Tk.zero)).data.toList) ++ [32] := by
  rw [List.take_succ_eq_append_getElem h, outL_snoc, List.append_assoc, List.getD_eq_getElem?_getD, List.getElem?_eq_getElem h]
  rfl
end Go.Proofs.YtdplfflkmphpbaaGreatDoor.Pl
namespace Go.Proofs.YtdplfflkmphpbaaGreatDoor.W
open Go.RowKit
set_option maxRecDepth 8000 in
set_option maxHeartbeats 8000000 in
theorem fnTokens_walk (a : Option Addr) (len cap : Nat) (w : World) (h : IsBytes w a len cap) (hE : Glo w) (hd : DbLies w) (hp : PowLies w) : Calls Tryz.prog 4 #[.slice a len cap] w fun e w' => e = .returned (.bool true) ∧ Below w.heap.size w w' := by
  obtain ⟨i0, hi0, hz0, hz1, hz2⟩ := info_parts qinfou8
  have HI : Hid (IsBytes w a len cap) := h
  have HE : Hid (Glo w) := hE
  have HDb : Hid (DbLies w) := hd
  have HPw : Hid (PowLies w) := hp
  have hcv : ∀ (u : World) (t : ByteArray), (convert 9 22 (.string t)).run Tryz.prog u = .ok (.slice (some ⟨u.heap.size, 0, none⟩) t.size (grownCap u t.size 0 5)) (Lib.bytesWorld u 5 t) := fun u t => Lib.run_convert_string_bytes u 9 22 5 t Tryz.underlying9 Tryz.underlying22 Tryz.underlying5
  clear h hE hd hp
  by_cases hlen : 1048576 < len
  · go_enter Tryz.func4, Tryz.ntmps4
    go_wp2_with fail
    go_ret
    exact ⟨rfl, Below.refl _ _⟩
  go_enter Tryz.func4, Tryz.ntmps4
  go_wp2_with fail
  refine (drawLex_x w a len cap HI.out).mono ?_
  rintro e wo1 ⟨v1, m, zs, rfl, o1, hm, d1⟩
  obtain ⟨a1, p1, rfl⟩ := own_formG o1
  have O1 : Hid (wo1.ownsRow (w.heap.size + 1) 5 1 (.slice a1 m p1) m (Pl.cl zs)) := o1
  have B1 : Hid (Below w.heap.size w wo1) := d1
  have L1 : Hid ((⟨zs.toArray⟩ : ByteArray).size = m) := by show (⟨zs.toArray⟩ : ByteArray).size = m; have := o1.1; rw [Pl.cl_len] at this; rw [Pl.mk_size]; omega
  clear o1 d1
  go_wp2_with fail
  refine (specLex_is a1 m p1 ⟨zs.toArray⟩ L1.out (by omega) wo1 (own_convs O1.out)).mono ?_
  rintro e wo2 ⟨h2, d2⟩
  obtain ⟨ts, c, l, k, a2, p2, hx2, rfl, g2⟩ := LexSaid.got h2
  have HX : Hid (LxAll ⟨zs.toArray⟩ (ts, c, l, k)) := hx2
  have O2 : Hid (wo2.ownsRow (w.heap.size + 1) 5 1 (.slice a1 m p1) m (Pl.cl zs)) := own_keep O1.out d2
  have B2 : Hid (Below w.heap.size w wo2) := B1.out.trans (d2.mono B1.out.size)
  clear h2 hx2 g2 d2 O1 B1
  go_wp2_with fail
  refine (implLex_any a1 m p1 ⟨zs.toArray⟩ L1.out wo2 (HE.out.on B2.out) (own_convs O2.out)).mono ?_
  rintro e wo3 ⟨h3, d3⟩
  obtain ⟨ts', c', l', k', a3, p3, hx3, rfl, g3⟩ := LexSaid.got h3
  have e3 := LxAll.fn hx3 HX.out
  cases e3
  have B3 : Hid (Below w.heap.size w wo3) := B2.out.trans (d3.mono B2.out.size)
  have G3 : Hid (wo3.ownsRow wo2.heap.size 34 5 (.slice a3 ts.length p3) ts.length (Pl.Tk.all ts)) := g3.1
  clear h3 hx3 g3 d3 O2 B2
  rcases Pl.LxAll.all HX.out with ⟨hts, hc⟩ | ⟨hc, us, je, hts, hus, hvt⟩
  · have e8 : (c != 0) = true := bne_iff_ne.2 hc
    have e9 : ts.length = 0 := by rw [hts]; rfl
    rw [e9]
    clear hc
    go_wp2_with fail
    go_ret
    exact ⟨rfl, B3.out⟩
  subst hc
  have HVT : Hid (∀ t ∈ us, Pl.Vt t.k t.S t.N) := hvt
  have HTS : Hid (ts = us ++ [Pl.tkEnd ⟨zs.toArray⟩ je]) := hts
  obtain ⟨n, hn⟩ : ∃ n, n = ts.length := ⟨_, rfl⟩
  have hnu : n = us.length + 1 := by rw [hn, hts, List.length_append]; rfl
  have hwn : IntKind.i64.wrap ((n : Int) - 1) = (us.length : Int) := by rw [IntKind.wrap_i64]; omega
  rw [← hn] at G3 ⊢
  clear hvt hts
  go_wp2_with fail
  go_loopw [12, 13] (fun v i wr => ∃ k : Nat, k ≤ us.length ∧ i = .int .i64 k ∧ wr.ownsRow wo3.heap.size 5 1 v (Pl.outL (us.take k)).length (Pl.cl (Pl.outL (us.take k))) ∧ Below wo3.heap.size wo3 wr) (fun _ i _ => us.length - (intOf i).toNat)
  case atStart => exact ⟨0, Nat.zero_le _, rfl, World.ownsRow_lit wo3 #[] 0 (base := wo3.heap.size) (e := 5) (size := 1) (Nat.le_refl _) (Nat.zero_le _) rfl, below_allocL wo3 _⟩
  case round =>
    obtain ⟨j, hj, rfl, hown, hbel⟩ := hrel
    have HO : Hid (wr.ownsRow wo3.heap.size 5 1 _ (Pl.outL (us.take j)).length (Pl.cl (Pl.outL (us.take j)))) := hown
    have HB : Hid (Below wo3.heap.size wo3 wr) := hbel
    have hb0 : wo3.heap.size ≤ wr.heap.size := hbel.size
    have hlenj : (Pl.outL (us.take j)).length ≤ 4818000 := by
      have := Pl.outL_len (us.take j) fun t ht => HVT.out t (List.mem_of_mem_take ht)
      rw [List.length_take] at this
      omega
    clear hown hbel
    by_cases hl : j < us.length
    · have hi : (j : Int) < (us.length : Int) := by omega
      obtain ⟨g, rfl, _, _, x, hx, c0, c1, c2, c3, c4⟩ := tok_at (own_keep G3.out HB.out) (k := j) (by omega)
      have hxu : x = us.getD j Pl.Tk.zero := by
        rw [hx, HTS.out, List.getD_eq_getElem?_getD, List.getD_eq_getElem?_getD, List.getElem?_append_left hl]
      have hvx : Pl.Vt x.k x.S x.N := by
        rw [hxu, List.getD_eq_getElem?_getD, List.getElem?_eq_getElem hl]
        exact HVT.out _ (List.getElem_mem hl)
      have hvs := Pl.vt_size hvx x.l x.c
      have HTT : Hid (∀ u : World, Below w.heap.size w u → Calls Tryz.prog 16 #[.agg #[.int .i64 x.k, .string x.S, .int .i64 x.N, .int .i64 x.l, .int .i64 x.c]] u fun e w' => e = .returned (.string (Pl.txtI x)) ∧ Below u.heap.size u w') := fun u hu => by
        have := implTT_is x (by omega) (by omega) (by omega) u (HE.out.on hu) (HDb.out.below hu) (HPw.out.below hu)
        rw [Pl.vt_tt hvx] at this
        exact this
      have HOT : Hid ((Pl.outL (us.take (j + 1))) = ((Pl.outL (us.take j)) ++ (Pl.txtI x).data.toList) ++ [32]) := by
        show _ = _
        rw [Pl.outL_take us j hl, ← hxu]
      have hU := Tryz.underlying34
      have hq1 := hvs.1
      have hq2 := hvs.2.1
      have hx5 : (Pl.txtI ⟨x.k, x.S, x.N, x.l, x.c⟩) = Pl.txtI x := rfl
      rw [hx5] at hq1 hq2
      clear hvs hvx hxu hx hx5
      generalize Pl.txtI x = t at *
      have e15 : t.toList.isEmpty = false := by rw [Pl.isE]; exact decide_eq_false (by omega)
      go_upto_region 17 with (go_at_call 16; refine (HTT.out _ (B3.out.trans (HB.out.mono B3.out.size))).mono ?_; rintro e wo4 ⟨rfl, d4⟩)
      have HO4 : Hid (wo4.ownsRow wo3.heap.size 5 1 _ (Pl.outL (us.take j)).length (Pl.cl (Pl.outL (us.take j)))) := own_keep HO.out d4
      have HB4 : Hid (Below wo3.heap.size wo3 wo4) := HB.out.trans (d4.mono hb0)
      have hb4 : wo3.heap.size ≤ wo4.heap.size := HB4.out.size
      clear d4 c0 c1 c2 c3 c4 HTT e15 HO HB
      obtain ⟨tl, rfl⟩ := ba_list t
      rw [Pl.mk_size] at hq1 hq2
      go_wp2_with (first | (at_builtin; refine wpList_append_own _ rfl (.tmp 72) (.tmp 74) 22 rfl wo3.heap.size 5 i0 (.int .u8 0) 1 1 Tryz.underlying22 hi0 hz0 hz1 hz2 rfl (by decide) _ _ _ rfl (ow_keep HO4.out (Joins.below_bytesWorld _ _ 5 ⟨tl.toArray⟩ (Nat.le_refl _))) ⟨wo4.heap.size, 0, none⟩ tl.length _ (Pl.cl tl) (by rfl) (by rw [Pl.cl_len, Nat.mul_one]) (bw_cells wo4 _) (by intro u hu; obtain ⟨n, _, rfl⟩ := List.mem_map.1 hu; rfl) (by unfold maxLen; omega) (by omega) (by rw [Lib.bytesWorld_size]; omega) ?_; intro v5 wo5 hown5 hgr5 _; rw [← Pl.cl_app] at hown5; have hb5 : Below wo3.heap.size wo4 wo5 := (Joins.below_bytesWorld _ _ 5 _ (by omega)).grown hgr5 (by rw [Lib.bytesWorld_size]; omega) (fun j hj => (HO4.out.lt j hj).1); have hs5 := hb5.size) | (at_builtin; refine wpList_append_own _ rfl (.tmp 75) (.tmp 76) 22 rfl wo3.heap.size 5 i0 (.int .u8 0) 1 1 Tryz.underlying22 hi0 hz0 hz1 hz2 rfl (by decide) _ _ _ rfl (hown5.alloc _) ⟨wo5.heap.size, 0, none⟩ 1 _ (Pl.cl [32]) rfl rfl (byte_newsX wo5 _) (by intro u hu; simp [Pl.cl] at hu; subst hu; rfl) (by unfold maxLen; omega) (by omega) (by simp; omega) ?_; intro v6 wo6 hown6 hgr6 _; rw [← Pl.cl_app] at hown6))
      have hb6 : Below wo3.heap.size wo5 wo6 := ((Below.refl _ _).alloc (by omega) _).grown hgr6 (by simp; omega) (fun j hj => (hown5.lt j hj).1)
      refine ⟨⟨j + 1, by omega, by go_num, ?_, HB4.out.trans (hb5.trans hb6)⟩, by simp [intOf]; omega⟩
      rw [HOT.out]
      have e6 : (((Pl.outL (us.take j)) ++ tl) ++ [32]).length = (Pl.outL (us.take j)).length + tl.length + 1 := by simp only [List.length_append, List.length_cons, List.length_nil]
      rw [e6]
      exact hown6
    · have hi : ¬ (j : Int) < (us.length : Int) := by omega
      obtain rfl : j = us.length := by omega
      rw [List.take_length] at HO hlenj
      obtain ⟨a7, p7, hv7⟩ := own_formG HO.out
      subst hv7
      have B7 : Hid (Below w.heap.size w wr) := B3.out.trans (HB.out.mono B3.out.size)
      have G7 : Hid (wr.ownsRow wo2.heap.size 34 5 (.slice a3 n p3) n (Pl.Tk.all ts)) := own_keep G3.out HB.out
      have HBR : Hid (∀ ts2 c2 l2 k2, LxAll ⟨(Pl.outL us).toArray⟩ (ts2, c2, l2, k2) → (Pl.outL us).length ≤ 20000 → c2 = 0 ∧ ts2.length = n ∧ ∀ i, Pl.sameT (ts2.getD i Pl.Tk.zero) (ts.getD i Pl.Tk.zero)) := fun ts2 c2 l2 k2 hx hs => by
        have := Pl.back_read (s := ⟨zs.toArray⟩) (j := je) HVT.out hus rfl (by rw [Pl.mk_size]; exact hs) hx
        rw [← HTS.out, ← hn] at this
        exact this
      clear hi hb0
      generalize Pl.outL us = ol at *
      by_cases hbig : 20000 < ol.length
      · have e18 : (20000 : Int) < (ol.length : Int) := by omega
        go_wp2_with fail
        go_ret
        exact ⟨rfl, B7.out⟩
      have e18 : ¬ (20000 : Int) < (ol.length : Int) := by omega
      go_upto_region 21 with (go_at_call 9; refine (implLex_any a7 ol.length p7 ⟨ol.toArray⟩ (Pl.mk_size _) wr (HE.out.on B7.out) (own_convs HO.out)).mono ?_; rintro e wo8 ⟨h8, d8⟩; obtain ⟨ts8, c8, l8, k8, a8, p8, hx8, rfl, g8⟩ := LexSaid.got h8)
      obtain ⟨rfl, hl8, hsm⟩ := HBR.out _ _ _ _ hx8 (by omega)
      have B8 : Hid (Below w.heap.size w wo8) := B7.out.trans (d8.mono B7.out.size)
      have G8 : Hid (wo8.ownsRow wo2.heap.size 34 5 (.slice a3 n p3) n (Pl.Tk.all ts)) := own_keep G7.out d8
      have R8 : Hid (wo8.ownsRow wr.heap.size 34 5 (.slice a8 n p8) n (Pl.Tk.all ts8)) := by
        show _
        have := g8.1
        rw [hl8] at this
        exact this
      have HSM : Hid (∀ i, Pl.sameT (ts8.getD i Pl.Tk.zero) (ts.getD i Pl.Tk.zero)) := hsm
      rw [hl8]
      clear h8 d8 hx8 g8 hsm HO HB B7 G7 HBR e18 hl8
      go_wp2_with fail
      go_loopw [19] (fun i wr => ∃ k : Nat, k ≤ n ∧ i = .int .i64 k ∧ Below wo8.heap.size wo8 wr) (fun i _ => n - (intOf i).toNat)
      case atStart => exact ⟨0, Nat.zero_le _, rfl, Below.refl _ _⟩
      case round =>
        obtain ⟨q, hq, rfl, hbel2⟩ := hrel
        have HB9 : Hid (Below wo8.heap.size wo8 wr) := hbel2
        clear hbel2
        by_cases hl9 : q < n
        · have hi9 : (q : Int) < (n : Int) := by omega
          obtain ⟨f0, f1, f2⟩ := HSM.out q
          obtain ⟨b, rfl, _, _, x, hx, c0, c1, c2, _, _⟩ := tok_at (own_keep R8.out HB9.out) hl9
          obtain ⟨b', rfl, _, _, y, hy, g0, g1, g2, _, _⟩ := tok_at (own_keep G8.out HB9.out) hl9
          rw [← hx, ← hy] at f0 f1 f2
          rw [f0] at c0
          rw [f1] at c1
          rw [f2] at c2
          clear hx hy f0 f1 f2
          go_wp2_with fail
          go_quiet (fail)
          go_wp2_with fail
          go_roundw
          case rel => exact ⟨q + 1, by omega, by go_num, by repeat (first | with_reducible exact HB9.out | refine Below.drew ?_ | refine below_drewN ?_ _)⟩
          case measure => simp [intOf]; omega
        · have hi9 : ¬ (q : Int) < (n : Int) := by omega
          go_wp2_with fail
          go_ret
          exact ⟨rfl, B8.out.trans (HB9.out.mono B8.out.size)⟩
end Go.Proofs.YtdplfflkmphpbaaGreatDoor.W
