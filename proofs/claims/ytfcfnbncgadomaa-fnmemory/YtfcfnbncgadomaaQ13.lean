import Derived.Test.YtfcfnbncgadomaaQ12
import Derived.Deep.RegionHeld3
set_option linter.unusedVariables false
set_option linter.unusedSimpArgs false
namespace Go.Proofs.Ytfcfnbncgadomaa.W
open Go.RowKit
theorem Own.cut0 {k : IntKind} {e : TypeId} {lo : Nat} {w : World} {a : Option Addr} {len cap : Nat} {zs : List Int} (h : Own k e lo w a len cap zs) : Own k e lo w a 0 cap [] := by
  refine ⟨⟨rfl, ?_⟩, fun n hn => (by cases hn)⟩
  rcases h.1.2 with ⟨h0, h1⟩ | ⟨g, cap', cur, h0, hlo, hg, hnc, hcm, hcs, htake⟩
  · simp only [Value.slice.injEq] at h0
    obtain ⟨rfl, rfl, rfl⟩ := h0
    exact .inl ⟨rfl, rfl⟩
  · simp only [Value.slice.injEq] at h0
    obtain ⟨rfl, _, rfl⟩ := h0
    exact .inr ⟨g, cap, cur, rfl, hlo, hg, Nat.zero_le _, hcm, hcs, by simp⟩
theorem ob_len (a : Option Addr) (l l' c : Nat) : (Value.slice a l c).ownBlock = (Value.slice a l' c).ownBlock := by cases a <;> rfl
set_option maxRecDepth 8000 in
set_option maxHeartbeats 8000000 in
theorem l3Image_any (w : World) (c : Nat) (h : RdOk w c) : Calls Try.prog 45 #[.pointer (some ⟨c, 0, none⟩)] w fun e w' => ∃ (v : IV) (m : Pl.Img), e = .returned (.agg #[.slice v.code.a v.code.len v.code.cap, .slice v.data.a v.data.len v.data.cap, .int .i64 m.entry, .int .i64 m.size]) ∧ IOwn w.heap.size w' v m ∧ m.code.length ≤ 16385 ∧ m.data.length ≤ 65537 ∧ (-1000000 ≤ m.entry ∧ m.entry ≤ 1000000) ∧ (-1000000 ≤ m.size ∧ m.size ≤ 1000000) ∧ RdOk w' c ∧ OnlyB c w w' := by
  obtain ⟨i0, hi0, hz0, hz1, hz2⟩ := info_parts Try.infou8
  obtain ⟨j0, hj0, hy0, hy1, hy2⟩ := info_parts Try.infoi64
  have H0 : Hid (RdOk w c) := h
  have hcw : c < w.heap.size := h.lt
  clear h
  go_enter Try.func45, Try.ntmps45
  go_wp2_with fail
  refine (next_only _ c (H0.out.alloc _)).mono ?_
  rintro e u1 ⟨n, rfl, hn, r1, d1⟩
  have hres1 : u1.heap[w.heap.size]? = some (.cells #[.slice none 0 0, .slice none 0 0, .int .i64 0, .int .i64 0] 79) := by rw [d1.block _ (by simp) (by omega)]; exact heap_alloc_new w _
  have hs1 : w.heap.size + 1 ≤ u1.heap.size := by have := d1.size; simpa using this
  have H1 : Hid (RdOk u1 c ∧ OnlyB c w u1) := ⟨r1, (OnlyB.of_below (below_alloc w _)).trans d1⟩
  clear r1 d1 H0
  go_wp2_with fail
  refine (l3Words_any u1 c H1.out.1).mono ?_
  rintro e u2 ⟨g0, len, cap, rfl, ⟨zs, hown⟩, hlen, r2, d2⟩
  obtain ⟨q3, e3, h3⟩ : ∃ q : Nat, ((n : Int).tmod 3) = (q : Int) ∧ q ≤ 2 := ⟨n % 3, by rw [Int.tmod_eq_emod_of_nonneg (by omega)]; omega, by omega⟩
  obtain ⟨y4, f4, g4⟩ : ∃ y : Nat, ((n : Int).tdiv 4) = (y : Int) ∧ y ≤ 255 := ⟨n / 4, by rw [Int.tdiv_eq_ediv_of_nonneg (by omega)]; omega, by omega⟩
  obtain ⟨q4, e4, h4⟩ : ∃ q : Nat, ((y4 : Int).tmod 3) = (q : Int) ∧ q ≤ 2 := ⟨y4 % 3, by rw [Int.tmod_eq_emod_of_nonneg (by omega)]; omega, by omega⟩
  have hs2 : u1.heap.size ≤ u2.heap.size := d2.size
  have M2 : Hid (IMid w c (u2.heap.size + 1) ⟨⟨some ⟨g0, 0, none⟩, len, cap⟩, ⟨some ⟨u2.heap.size, 0, none⟩, 0, 0⟩⟩ ⟨zs, [], 65536, 16 * (1 + (q3 : Int))⟩ ((u2.alloc (.cells #[] 5)).alloc (.cells #[.slice (some ⟨g0, 0, none⟩) len cap, .slice (some ⟨u2.heap.size, 0, none⟩) 0 0, .int .i64 65536, .int .i64 (16 * (1 + (q3 : Int)))] 79))) := by
    have hc2 : Own .i64 3 (w.heap.size + 1) u2 (some ⟨g0, 0, none⟩) len cap zs := hown.lower (by omega)
    have hg0 := hc2.at_ (i := g0) rfl
    have hb := (below_alloc u2 (.cells #[] 5))
    refine ⟨?_, ?_, (hc2.keep hb).keep (below_alloc _ _), ⟨?_, fun x hx => (by cases hx)⟩, ?_, ?_, ?_, (r2.alloc _).alloc _, ((H1.out.2.trans d2).trans (OnlyB.of_below hb)).trans (OnlyB.of_below (below_alloc _ _)), by omega, hcw, by show zs.length ≤ 16385; have := hc2.row.1; omega, Nat.zero_le _, by show (-1000000 : Int) ≤ 65536 ∧ (65536 : Int) ≤ 1000000; omega, by show (-1000000 : Int) ≤ 16 * (1 + (q3 : Int)) ∧ 16 * (1 + (q3 : Int)) ≤ 1000000; omega⟩
    · have := heap_alloc_new (u2.alloc (.cells #[] 5)) (.cells #[.slice (some ⟨g0, 0, none⟩) len cap, .slice (some ⟨u2.heap.size, 0, none⟩) 0 0, .int .i64 65536, .int .i64 (16 * (1 + (q3 : Int)))] 79)
      simpa using this
    · rw [Below.heap_alloc _ _ _ (by simp; omega), Below.heap_alloc _ _ _ (by omega), d2.block _ (by omega) (by omega)]
      exact hres1
    · exact (World.ownsRow_lit u2 #[] 0 (base := w.heap.size + 1) (e := 5) (size := 1) (by omega) (Nat.zero_le _) rfl).alloc _
    · intro i hi; rw [ob_some _ _ _ _ hi]; omega
    · intro i hi; rw [ob_some _ _ _ _ hi]; omega
    · intro i j hi hj; rw [ob_some _ _ _ _ hi, ob_some _ _ _ _ hj]; omega
  clear hown r2 d2 H1 hres1
  have HN : Hid (∀ (u : World) (v : IV) (m : Pl.Img), IMid w c (u2.heap.size + 1) v m u → Calls Try.prog 19 #[.pointer (some ⟨c, 0, none⟩)] u fun e w' => ∃ x : Nat, e = .returned (.int .i64 (x : Int)) ∧ x ≤ 255 ∧ IMid w c (u2.heap.size + 1) v m w') := fun u v m hu => (next_only u c hu.rd).mono fun e w' ⟨x, he, hx, hr, ho⟩ => ⟨x, he, hx, hu.only hr ho⟩
  go_wp2_with fail
  go_loopw [5] (fun i wr => ∃ (k : Nat) (v : IV) (m : Pl.Img), k ≤ q4 * 4 ∧ i = .int .i64 k ∧ m.data.length = k ∧ m.code.length ≤ 12 ∧ (0 ≤ m.entry ∧ m.entry ≤ 65536) ∧ IMid w c (u2.heap.size + 1) v m wr) (fun i _ => q4 * 4 - (intOf i).toNat)
  case atStart => exact ⟨0, _, _, Nat.zero_le _, rfl, rfl, by have := M2.out.code.row.1; show zs.length ≤ 12; dsimp only at this; omega, by show (0 : Int) ≤ 65536 ∧ (65536 : Int) ≤ 65536; omega, M2.out⟩
  case round =>
    obtain ⟨k, v, m, hk, rfl, hkl, hml, hen, hM⟩ := hrel
    have MR : Hid (IMid w c (u2.heap.size + 1) v m wr) := hM
    have hdl : v.data.len = k := by have := hM.data.row.1; omega
    have hcl : v.code.len ≤ 12 := by have := hM.code.row.1; omega
    clear hM M2
    by_cases hl : k < q4 * 4
    · have hi : (k : Int) < (q4 : Int) * 4 := by omega
      have k1 : wr.cell? ⟨(u2.heap.size + 1), 1, none⟩ = some (.slice v.data.a v.data.len v.data.cap) := MR.out.cell 1
      have HDL : Hid (v.data.len = k ∧ m.data.length = k) := ⟨hdl, hkl⟩
      have HDM : Hid (v.data.len ≤ 8) := by show v.data.len ≤ 8; omega
      clear hdl hkl
      go_wp2_with fail
      refine wp_region_any (by kernel_rfl) ?_
      change wpAny _ _ _ _ _ _ _ (World.drew _)
      refine wpAny_ready (rs := [0, 2]) (by kernel_rfl) (by simp) ?_
      refine AllReady.cons rfl (fun K hK => ?_) ?_
      · go_simp
        refine hK _ _ ?_
        clear hK K
        refine wpAny_ready (rs := [1, 2]) (by kernel_rfl) (by simp) ?_
        refine AllReady.cons rfl (fun K hK => ?_) ?_
        · go_simp
          refine hK _ _ ?_
          clear hK K
          refine wpAny_ready (rs := [2]) (by kernel_rfl) (by simp) ?_
          refine AllReady.cons rfl (fun K hK => ?_) ?_
          · go_simp
            refine hK _ _ ?_
            clear hK K
            refine wpAny_ready (rs := [3]) (by kernel_rfl) (by simp) ?_
            refine AllReady.cons rfl (fun K hK => ?_) ?_
            · go_simp
              go_wp2_with (go_at_call 19; refine (HN.out _ v m (MR.out.only (MR.out.rd.drewN 1) ⟨rfl, rfl, rfl, Nat.le_refl _, fun _ _ _ => rfl⟩)).mono ?_; rintro e u5 ⟨x5, rfl, hx5, h5⟩; have M5 : Hid (IMid w c (u2.heap.size + 1) v m u5) := h5; have c5 : u5.cell? ⟨(u2.heap.size + 1), 1, none⟩ = some (.slice v.data.a v.data.len v.data.cap) := M5.out.cell 1; have c5a : ∀ o, (u5.alloc o).cell? ⟨(u2.heap.size + 1), 1, none⟩ = some (.slice v.data.a v.data.len v.data.cap) := fun o => (M5.out.alloc o).cell 1; have w5 : IntKind.u8.wrap (x5 : Int) = (x5 : Int) := (by rw [IntKind.wrap_u8]; omega : IntKind.u8.wrap (x5 : Int) = (x5 : Int)); clear h5)
              refine wpAny_ready (rs := [4]) (by kernel_rfl) (by simp) ?_
              refine AllReady.cons rfl (fun K hK => ?_) ?_
              · go_simp
                refine hK _ _ ?_
                clear hK K
                refine wpAny_ready (rs := [5]) (by kernel_rfl) (by simp) ?_
                refine AllReady.cons rfl (fun K hK => ?_) ?_
                · go_simp
                  refine hK _ _ ?_
                  clear hK K
                  refine wpAny_ready (rs := [6]) (by kernel_rfl) (by simp) ?_
                  refine AllReady.cons rfl (fun K hK => ?_) ?_
                  · refine step_append_lies _ (by rfl) (.tmp 26) (.tmp 30) 22 (by rfl) (w.heap.size + 1) 5 i0 (.int .u8 0) 1 1 Try.underlying22 hi0 hz0 hz1 hz2 rfl (by decide) (.slice v.data.a v.data.len v.data.cap) v.data.len (m.data.map (Value.int .u8)) (by rfl) (M5.out.data.1.alloc _) ⟨u5.heap.size, 0, none⟩ 1 1 [.int .u8 (x5 : Int)] (by rfl) rfl (byte_news u5 _) (by intro z hz; simp at hz; subst hz; rfl) (by decide) (by have := HDM.out; unfold maxLen; omega) (by have := HDM.out; omega) (by have := M5.out.lt; have := M5.out.rg; simp; omega) _ rfl ?_; intro G cp w1 hown1 hgrow hat hlt; have q1 : w1.cell? ⟨(u2.heap.size + 1), 1, none⟩ = some (.slice v.data.a v.data.len v.data.cap) := (World.cell?_of_block (a := ⟨(u2.heap.size + 1), 1, none⟩) (hgrow.block (u2.heap.size + 1) (by have := M5.out.lt; simp; omega) (fun e => M5.out.n2 _ e.symm rfl))).trans ((M5.out.alloc _).cell 1); have qf : w1.frozen? ⟨(u2.heap.size + 1), 1, none⟩ = false := (by have hb := hgrow.block (u2.heap.size + 1) (by have := M5.out.lt; simp; omega) (fun e => M5.out.n2 _ e.symm rfl); exact frozen_of_row w1 (u2.heap.size + 1) 1 _ 79 (hb.trans (M5.out.alloc _).box) : w1.frozen? ⟨(u2.heap.size + 1), 1, none⟩ = false); have HG : Hid (IMid w c (u2.heap.size + 1) { v with data := ⟨some ⟨G, 0, none⟩, v.data.len + 1, cp⟩ } { m with data := m.data ++ [(x5 : Int)] } (w1.setCell ⟨(u2.heap.size + 1), 1, none⟩ (.slice (some ⟨G, 0, none⟩) (v.data.len + 1) cp))) := M5.out.grewData (below_alloc _ _) (x5 : Int) (by omega) hown1 hgrow hat (by have := HDL.out; have := HDM.out; omega); clear hown1 hgrow hat
                    refine hK _ _ ?_
                    clear hK K
                    refine wpAny_ready (rs := [7]) (by kernel_rfl) (by simp) ?_
                    refine AllReady.cons rfl (fun K hK => ?_) ?_
                    · go_simp
                      refine hK _ _ ?_
                      clear hK K
                      refine wpAny_ready (rs := [8]) (by kernel_rfl) (by simp) ?_
                      refine AllReady.cons rfl (fun K hK => ?_) ?_
                      · go_simp
                        refine hK _ _ ?_
                        clear hK K
                        refine wpAny_done (by kernel_rfl) ?_ _
                        go_wp2_with fail
                        go_roundw
                        case rel => exact ⟨k + 1, { v with data := ⟨some ⟨G, 0, none⟩, v.data.len + 1, cp⟩ }, { m with data := m.data ++ [(x5 : Int)] }, by omega, by go_num, by show (m.data ++ [(x5 : Int)]).length = k + 1; have := HDL.out.2; rw [List.length_append]; simp; omega, hml, hen, HG.out⟩
                        case measure => simp [intOf]; omega
                      exact AllReady.nil
                    exact AllReady.nil
                  exact AllReady.nil
                exact AllReady.nil
              exact AllReady.nil
            exact AllReady.nil
          exact AllReady.nil
        refine AllReady.cons rfl (fun K hK => ?_) ?_
        · go_simp
          refine hK _ _ ?_
          clear hK K
          refine wpAny_ready (rs := [1, 3]) (by kernel_rfl) (by simp) ?_
          refine AllReady.cons rfl (fun K hK => ?_) ?_
          · go_simp
            refine hK _ _ ?_
            clear hK K
            refine wpAny_ready (rs := [3]) (by kernel_rfl) (by simp) ?_
            refine AllReady.cons rfl (fun K hK => ?_) ?_
            · go_simp
              go_wp2_with (go_at_call 19; refine (HN.out _ v m (MR.out.only (MR.out.rd.drewN 1) ⟨rfl, rfl, rfl, Nat.le_refl _, fun _ _ _ => rfl⟩)).mono ?_; rintro e u5 ⟨x5, rfl, hx5, h5⟩; have M5 : Hid (IMid w c (u2.heap.size + 1) v m u5) := h5; have c5 : u5.cell? ⟨(u2.heap.size + 1), 1, none⟩ = some (.slice v.data.a v.data.len v.data.cap) := M5.out.cell 1; have c5a : ∀ o, (u5.alloc o).cell? ⟨(u2.heap.size + 1), 1, none⟩ = some (.slice v.data.a v.data.len v.data.cap) := fun o => (M5.out.alloc o).cell 1; have w5 : IntKind.u8.wrap (x5 : Int) = (x5 : Int) := (by rw [IntKind.wrap_u8]; omega : IntKind.u8.wrap (x5 : Int) = (x5 : Int)); clear h5)
              refine wpAny_ready (rs := [4]) (by kernel_rfl) (by simp) ?_
              refine AllReady.cons rfl (fun K hK => ?_) ?_
              · go_simp
                refine hK _ _ ?_
                clear hK K
                refine wpAny_ready (rs := [5]) (by kernel_rfl) (by simp) ?_
                refine AllReady.cons rfl (fun K hK => ?_) ?_
                · go_simp
                  refine hK _ _ ?_
                  clear hK K
                  refine wpAny_ready (rs := [6]) (by kernel_rfl) (by simp) ?_
                  refine AllReady.cons rfl (fun K hK => ?_) ?_
                  · refine step_append_lies _ (by rfl) (.tmp 26) (.tmp 30) 22 (by rfl) (w.heap.size + 1) 5 i0 (.int .u8 0) 1 1 Try.underlying22 hi0 hz0 hz1 hz2 rfl (by decide) (.slice v.data.a v.data.len v.data.cap) v.data.len (m.data.map (Value.int .u8)) (by rfl) (M5.out.data.1.alloc _) ⟨u5.heap.size, 0, none⟩ 1 1 [.int .u8 (x5 : Int)] (by rfl) rfl (byte_news u5 _) (by intro z hz; simp at hz; subst hz; rfl) (by decide) (by have := HDM.out; unfold maxLen; omega) (by have := HDM.out; omega) (by have := M5.out.lt; have := M5.out.rg; simp; omega) _ rfl ?_; intro G cp w1 hown1 hgrow hat hlt; have q1 : w1.cell? ⟨(u2.heap.size + 1), 1, none⟩ = some (.slice v.data.a v.data.len v.data.cap) := (World.cell?_of_block (a := ⟨(u2.heap.size + 1), 1, none⟩) (hgrow.block (u2.heap.size + 1) (by have := M5.out.lt; simp; omega) (fun e => M5.out.n2 _ e.symm rfl))).trans ((M5.out.alloc _).cell 1); have qf : w1.frozen? ⟨(u2.heap.size + 1), 1, none⟩ = false := (by have hb := hgrow.block (u2.heap.size + 1) (by have := M5.out.lt; simp; omega) (fun e => M5.out.n2 _ e.symm rfl); exact frozen_of_row w1 (u2.heap.size + 1) 1 _ 79 (hb.trans (M5.out.alloc _).box) : w1.frozen? ⟨(u2.heap.size + 1), 1, none⟩ = false); have HG : Hid (IMid w c (u2.heap.size + 1) { v with data := ⟨some ⟨G, 0, none⟩, v.data.len + 1, cp⟩ } { m with data := m.data ++ [(x5 : Int)] } (w1.setCell ⟨(u2.heap.size + 1), 1, none⟩ (.slice (some ⟨G, 0, none⟩) (v.data.len + 1) cp))) := M5.out.grewData (below_alloc _ _) (x5 : Int) (by omega) hown1 hgrow hat (by have := HDL.out; have := HDM.out; omega); clear hown1 hgrow hat
                    refine hK _ _ ?_
                    clear hK K
                    refine wpAny_ready (rs := [7]) (by kernel_rfl) (by simp) ?_
                    refine AllReady.cons rfl (fun K hK => ?_) ?_
                    · go_simp
                      refine hK _ _ ?_
                      clear hK K
                      refine wpAny_ready (rs := [8]) (by kernel_rfl) (by simp) ?_
                      refine AllReady.cons rfl (fun K hK => ?_) ?_
                      · go_simp
                        refine hK _ _ ?_
                        clear hK K
                        refine wpAny_done (by kernel_rfl) ?_ _
                        go_wp2_with fail
                        go_roundw
                        case rel => exact ⟨k + 1, { v with data := ⟨some ⟨G, 0, none⟩, v.data.len + 1, cp⟩ }, { m with data := m.data ++ [(x5 : Int)] }, by omega, by go_num, by show (m.data ++ [(x5 : Int)]).length = k + 1; have := HDL.out.2; rw [List.length_append]; simp; omega, hml, hen, HG.out⟩
                        case measure => simp [intOf]; omega
                      exact AllReady.nil
                    exact AllReady.nil
                  exact AllReady.nil
                exact AllReady.nil
              exact AllReady.nil
            exact AllReady.nil
          refine AllReady.cons rfl (fun K hK => ?_) ?_
          · go_simp
            go_wp2_with (go_at_call 19; refine (HN.out _ v m (MR.out.only (MR.out.rd.drewN 1) ⟨rfl, rfl, rfl, Nat.le_refl _, fun _ _ _ => rfl⟩)).mono ?_; rintro e u5 ⟨x5, rfl, hx5, h5⟩; have M5 : Hid (IMid w c (u2.heap.size + 1) v m u5) := h5; have c5 : u5.cell? ⟨(u2.heap.size + 1), 1, none⟩ = some (.slice v.data.a v.data.len v.data.cap) := M5.out.cell 1; have c5a : ∀ o, (u5.alloc o).cell? ⟨(u2.heap.size + 1), 1, none⟩ = some (.slice v.data.a v.data.len v.data.cap) := fun o => (M5.out.alloc o).cell 1; have w5 : IntKind.u8.wrap (x5 : Int) = (x5 : Int) := (by rw [IntKind.wrap_u8]; omega : IntKind.u8.wrap (x5 : Int) = (x5 : Int)); clear h5)
            refine wpAny_ready (rs := [1, 4]) (by kernel_rfl) (by simp) ?_
            refine AllReady.cons rfl (fun K hK => ?_) ?_
            · go_simp
              refine hK _ _ ?_
              clear hK K
              refine wpAny_ready (rs := [4]) (by kernel_rfl) (by simp) ?_
              refine AllReady.cons rfl (fun K hK => ?_) ?_
              · go_simp
                refine hK _ _ ?_
                clear hK K
                refine wpAny_ready (rs := [5]) (by kernel_rfl) (by simp) ?_
                refine AllReady.cons rfl (fun K hK => ?_) ?_
                · go_simp
                  refine hK _ _ ?_
                  clear hK K
                  refine wpAny_ready (rs := [6]) (by kernel_rfl) (by simp) ?_
                  refine AllReady.cons rfl (fun K hK => ?_) ?_
                  · refine step_append_lies _ (by rfl) (.tmp 26) (.tmp 30) 22 (by rfl) (w.heap.size + 1) 5 i0 (.int .u8 0) 1 1 Try.underlying22 hi0 hz0 hz1 hz2 rfl (by decide) (.slice v.data.a v.data.len v.data.cap) v.data.len (m.data.map (Value.int .u8)) (by rfl) (M5.out.data.1.alloc _) ⟨u5.heap.size, 0, none⟩ 1 1 [.int .u8 (x5 : Int)] (by rfl) rfl (byte_news u5 _) (by intro z hz; simp at hz; subst hz; rfl) (by decide) (by have := HDM.out; unfold maxLen; omega) (by have := HDM.out; omega) (by have := M5.out.lt; have := M5.out.rg; simp; omega) _ rfl ?_; intro G cp w1 hown1 hgrow hat hlt; have q1 : w1.cell? ⟨(u2.heap.size + 1), 1, none⟩ = some (.slice v.data.a v.data.len v.data.cap) := (World.cell?_of_block (a := ⟨(u2.heap.size + 1), 1, none⟩) (hgrow.block (u2.heap.size + 1) (by have := M5.out.lt; simp; omega) (fun e => M5.out.n2 _ e.symm rfl))).trans ((M5.out.alloc _).cell 1); have qf : w1.frozen? ⟨(u2.heap.size + 1), 1, none⟩ = false := (by have hb := hgrow.block (u2.heap.size + 1) (by have := M5.out.lt; simp; omega) (fun e => M5.out.n2 _ e.symm rfl); exact frozen_of_row w1 (u2.heap.size + 1) 1 _ 79 (hb.trans (M5.out.alloc _).box) : w1.frozen? ⟨(u2.heap.size + 1), 1, none⟩ = false); have HG : Hid (IMid w c (u2.heap.size + 1) { v with data := ⟨some ⟨G, 0, none⟩, v.data.len + 1, cp⟩ } { m with data := m.data ++ [(x5 : Int)] } (w1.setCell ⟨(u2.heap.size + 1), 1, none⟩ (.slice (some ⟨G, 0, none⟩) (v.data.len + 1) cp))) := M5.out.grewData (below_alloc _ _) (x5 : Int) (by omega) hown1 hgrow hat (by have := HDL.out; have := HDM.out; omega); clear hown1 hgrow hat
                    refine hK _ _ ?_
                    clear hK K
                    refine wpAny_ready (rs := [7]) (by kernel_rfl) (by simp) ?_
                    refine AllReady.cons rfl (fun K hK => ?_) ?_
                    · go_simp
                      refine hK _ _ ?_
                      clear hK K
                      refine wpAny_ready (rs := [8]) (by kernel_rfl) (by simp) ?_
                      refine AllReady.cons rfl (fun K hK => ?_) ?_
                      · go_simp
                        refine hK _ _ ?_
                        clear hK K
                        refine wpAny_done (by kernel_rfl) ?_ _
                        go_wp2_with fail
                        go_roundw
                        case rel => exact ⟨k + 1, { v with data := ⟨some ⟨G, 0, none⟩, v.data.len + 1, cp⟩ }, { m with data := m.data ++ [(x5 : Int)] }, by omega, by go_num, by show (m.data ++ [(x5 : Int)]).length = k + 1; have := HDL.out.2; rw [List.length_append]; simp; omega, hml, hen, HG.out⟩
                        case measure => simp [intOf]; omega
                      exact AllReady.nil
                    exact AllReady.nil
                  exact AllReady.nil
                exact AllReady.nil
              exact AllReady.nil
            refine AllReady.cons rfl (fun K hK => ?_) ?_
            · go_simp
              refine hK _ _ ?_
              clear hK K
              refine wpAny_ready (rs := [1, 5]) (by kernel_rfl) (by simp) ?_
              refine AllReady.cons rfl (fun K hK => ?_) ?_
              · go_simp
                refine hK _ _ ?_
                clear hK K
                refine wpAny_ready (rs := [5]) (by kernel_rfl) (by simp) ?_
                refine AllReady.cons rfl (fun K hK => ?_) ?_
                · go_simp
                  refine hK _ _ ?_
                  clear hK K
                  refine wpAny_ready (rs := [6]) (by kernel_rfl) (by simp) ?_
                  refine AllReady.cons rfl (fun K hK => ?_) ?_
                  · refine step_append_lies _ (by rfl) (.tmp 26) (.tmp 30) 22 (by rfl) (w.heap.size + 1) 5 i0 (.int .u8 0) 1 1 Try.underlying22 hi0 hz0 hz1 hz2 rfl (by decide) (.slice v.data.a v.data.len v.data.cap) v.data.len (m.data.map (Value.int .u8)) (by rfl) (M5.out.data.1.alloc _) ⟨u5.heap.size, 0, none⟩ 1 1 [.int .u8 (x5 : Int)] (by rfl) rfl (byte_news u5 _) (by intro z hz; simp at hz; subst hz; rfl) (by decide) (by have := HDM.out; unfold maxLen; omega) (by have := HDM.out; omega) (by have := M5.out.lt; have := M5.out.rg; simp; omega) _ rfl ?_; intro G cp w1 hown1 hgrow hat hlt; have q1 : w1.cell? ⟨(u2.heap.size + 1), 1, none⟩ = some (.slice v.data.a v.data.len v.data.cap) := (World.cell?_of_block (a := ⟨(u2.heap.size + 1), 1, none⟩) (hgrow.block (u2.heap.size + 1) (by have := M5.out.lt; simp; omega) (fun e => M5.out.n2 _ e.symm rfl))).trans ((M5.out.alloc _).cell 1); have qf : w1.frozen? ⟨(u2.heap.size + 1), 1, none⟩ = false := (by have hb := hgrow.block (u2.heap.size + 1) (by have := M5.out.lt; simp; omega) (fun e => M5.out.n2 _ e.symm rfl); exact frozen_of_row w1 (u2.heap.size + 1) 1 _ 79 (hb.trans (M5.out.alloc _).box) : w1.frozen? ⟨(u2.heap.size + 1), 1, none⟩ = false); have HG : Hid (IMid w c (u2.heap.size + 1) { v with data := ⟨some ⟨G, 0, none⟩, v.data.len + 1, cp⟩ } { m with data := m.data ++ [(x5 : Int)] } (w1.setCell ⟨(u2.heap.size + 1), 1, none⟩ (.slice (some ⟨G, 0, none⟩) (v.data.len + 1) cp))) := M5.out.grewData (below_alloc _ _) (x5 : Int) (by omega) hown1 hgrow hat (by have := HDL.out; have := HDM.out; omega); clear hown1 hgrow hat
                    refine hK _ _ ?_
                    clear hK K
                    refine wpAny_ready (rs := [7]) (by kernel_rfl) (by simp) ?_
                    refine AllReady.cons rfl (fun K hK => ?_) ?_
                    · go_simp
                      refine hK _ _ ?_
                      clear hK K
                      refine wpAny_ready (rs := [8]) (by kernel_rfl) (by simp) ?_
                      refine AllReady.cons rfl (fun K hK => ?_) ?_
                      · go_simp
                        refine hK _ _ ?_
                        clear hK K
                        refine wpAny_done (by kernel_rfl) ?_ _
                        go_wp2_with fail
                        go_roundw
                        case rel => exact ⟨k + 1, { v with data := ⟨some ⟨G, 0, none⟩, v.data.len + 1, cp⟩ }, { m with data := m.data ++ [(x5 : Int)] }, by omega, by go_num, by show (m.data ++ [(x5 : Int)]).length = k + 1; have := HDL.out.2; rw [List.length_append]; simp; omega, hml, hen, HG.out⟩
                        case measure => simp [intOf]; omega
                      exact AllReady.nil
                    exact AllReady.nil
                  exact AllReady.nil
                exact AllReady.nil
              refine AllReady.cons rfl (fun K hK => ?_) ?_
              · go_simp
                refine hK _ _ ?_
                clear hK K
                refine wpAny_ready (rs := [1]) (by kernel_rfl) (by simp) ?_
                refine AllReady.cons rfl (fun K hK => ?_) ?_
                · go_simp
                  refine hK _ _ ?_
                  clear hK K
                  refine wpAny_ready (rs := [6]) (by kernel_rfl) (by simp) ?_
                  refine AllReady.cons rfl (fun K hK => ?_) ?_
                  · refine step_append_lies _ (by rfl) (.tmp 26) (.tmp 30) 22 (by rfl) (w.heap.size + 1) 5 i0 (.int .u8 0) 1 1 Try.underlying22 hi0 hz0 hz1 hz2 rfl (by decide) (.slice v.data.a v.data.len v.data.cap) v.data.len (m.data.map (Value.int .u8)) (by rfl) (M5.out.data.1.alloc _) ⟨u5.heap.size, 0, none⟩ 1 1 [.int .u8 (x5 : Int)] (by rfl) rfl (byte_news u5 _) (by intro z hz; simp at hz; subst hz; rfl) (by decide) (by have := HDM.out; unfold maxLen; omega) (by have := HDM.out; omega) (by have := M5.out.lt; have := M5.out.rg; simp; omega) _ rfl ?_; intro G cp w1 hown1 hgrow hat hlt; have q1 : w1.cell? ⟨(u2.heap.size + 1), 1, none⟩ = some (.slice v.data.a v.data.len v.data.cap) := (World.cell?_of_block (a := ⟨(u2.heap.size + 1), 1, none⟩) (hgrow.block (u2.heap.size + 1) (by have := M5.out.lt; simp; omega) (fun e => M5.out.n2 _ e.symm rfl))).trans ((M5.out.alloc _).cell 1); have qf : w1.frozen? ⟨(u2.heap.size + 1), 1, none⟩ = false := (by have hb := hgrow.block (u2.heap.size + 1) (by have := M5.out.lt; simp; omega) (fun e => M5.out.n2 _ e.symm rfl); exact frozen_of_row w1 (u2.heap.size + 1) 1 _ 79 (hb.trans (M5.out.alloc _).box) : w1.frozen? ⟨(u2.heap.size + 1), 1, none⟩ = false); have HG : Hid (IMid w c (u2.heap.size + 1) { v with data := ⟨some ⟨G, 0, none⟩, v.data.len + 1, cp⟩ } { m with data := m.data ++ [(x5 : Int)] } (w1.setCell ⟨(u2.heap.size + 1), 1, none⟩ (.slice (some ⟨G, 0, none⟩) (v.data.len + 1) cp))) := M5.out.grewData (below_alloc _ _) (x5 : Int) (by omega) hown1 hgrow hat (by have := HDL.out; have := HDM.out; omega); clear hown1 hgrow hat
                    refine hK _ _ ?_
                    clear hK K
                    refine wpAny_ready (rs := [7]) (by kernel_rfl) (by simp) ?_
                    refine AllReady.cons rfl (fun K hK => ?_) ?_
                    · go_simp
                      refine hK _ _ ?_
                      clear hK K
                      refine wpAny_ready (rs := [8]) (by kernel_rfl) (by simp) ?_
                      refine AllReady.cons rfl (fun K hK => ?_) ?_
                      · go_simp
                        refine hK _ _ ?_
                        clear hK K
                        refine wpAny_done (by kernel_rfl) ?_ _
                        go_wp2_with fail
                        go_roundw
                        case rel => exact ⟨k + 1, { v with data := ⟨some ⟨G, 0, none⟩, v.data.len + 1, cp⟩ }, { m with data := m.data ++ [(x5 : Int)] }, by omega, by go_num, by show (m.data ++ [(x5 : Int)]).length = k + 1; have := HDL.out.2; rw [List.length_append]; simp; omega, hml, hen, HG.out⟩
                        case measure => simp [intOf]; omega
                      exact AllReady.nil
                    exact AllReady.nil
                  exact AllReady.nil
                exact AllReady.nil
              exact AllReady.nil
            exact AllReady.nil
          exact AllReady.nil
        exact AllReady.nil
      refine AllReady.cons rfl (fun K hK => ?_) ?_
      · go_simp
        refine hK _ _ ?_
        clear hK K
        refine wpAny_ready (rs := [0, 3]) (by kernel_rfl) (by simp) ?_
        refine AllReady.cons rfl (fun K hK => ?_) ?_
        · go_simp
          refine hK _ _ ?_
          clear hK K
          refine wpAny_ready (rs := [1, 3]) (by kernel_rfl) (by simp) ?_
          refine AllReady.cons rfl (fun K hK => ?_) ?_
          · go_simp
            refine hK _ _ ?_
            clear hK K
            refine wpAny_ready (rs := [3]) (by kernel_rfl) (by simp) ?_
            refine AllReady.cons rfl (fun K hK => ?_) ?_
            · go_simp
              go_wp2_with (go_at_call 19; refine (HN.out _ v m (MR.out.only (MR.out.rd.drewN 1) ⟨rfl, rfl, rfl, Nat.le_refl _, fun _ _ _ => rfl⟩)).mono ?_; rintro e u5 ⟨x5, rfl, hx5, h5⟩; have M5 : Hid (IMid w c (u2.heap.size + 1) v m u5) := h5; have c5 : u5.cell? ⟨(u2.heap.size + 1), 1, none⟩ = some (.slice v.data.a v.data.len v.data.cap) := M5.out.cell 1; have c5a : ∀ o, (u5.alloc o).cell? ⟨(u2.heap.size + 1), 1, none⟩ = some (.slice v.data.a v.data.len v.data.cap) := fun o => (M5.out.alloc o).cell 1; have w5 : IntKind.u8.wrap (x5 : Int) = (x5 : Int) := (by rw [IntKind.wrap_u8]; omega : IntKind.u8.wrap (x5 : Int) = (x5 : Int)); clear h5)
              refine wpAny_ready (rs := [4]) (by kernel_rfl) (by simp) ?_
              refine AllReady.cons rfl (fun K hK => ?_) ?_
              · go_simp
                refine hK _ _ ?_
                clear hK K
                refine wpAny_ready (rs := [5]) (by kernel_rfl) (by simp) ?_
                refine AllReady.cons rfl (fun K hK => ?_) ?_
                · go_simp
                  refine hK _ _ ?_
                  clear hK K
                  refine wpAny_ready (rs := [6]) (by kernel_rfl) (by simp) ?_
                  refine AllReady.cons rfl (fun K hK => ?_) ?_
                  · refine step_append_lies _ (by rfl) (.tmp 26) (.tmp 30) 22 (by rfl) (w.heap.size + 1) 5 i0 (.int .u8 0) 1 1 Try.underlying22 hi0 hz0 hz1 hz2 rfl (by decide) (.slice v.data.a v.data.len v.data.cap) v.data.len (m.data.map (Value.int .u8)) (by rfl) (M5.out.data.1.alloc _) ⟨u5.heap.size, 0, none⟩ 1 1 [.int .u8 (x5 : Int)] (by rfl) rfl (byte_news u5 _) (by intro z hz; simp at hz; subst hz; rfl) (by decide) (by have := HDM.out; unfold maxLen; omega) (by have := HDM.out; omega) (by have := M5.out.lt; have := M5.out.rg; simp; omega) _ rfl ?_; intro G cp w1 hown1 hgrow hat hlt; have q1 : w1.cell? ⟨(u2.heap.size + 1), 1, none⟩ = some (.slice v.data.a v.data.len v.data.cap) := (World.cell?_of_block (a := ⟨(u2.heap.size + 1), 1, none⟩) (hgrow.block (u2.heap.size + 1) (by have := M5.out.lt; simp; omega) (fun e => M5.out.n2 _ e.symm rfl))).trans ((M5.out.alloc _).cell 1); have qf : w1.frozen? ⟨(u2.heap.size + 1), 1, none⟩ = false := (by have hb := hgrow.block (u2.heap.size + 1) (by have := M5.out.lt; simp; omega) (fun e => M5.out.n2 _ e.symm rfl); exact frozen_of_row w1 (u2.heap.size + 1) 1 _ 79 (hb.trans (M5.out.alloc _).box) : w1.frozen? ⟨(u2.heap.size + 1), 1, none⟩ = false); have HG : Hid (IMid w c (u2.heap.size + 1) { v with data := ⟨some ⟨G, 0, none⟩, v.data.len + 1, cp⟩ } { m with data := m.data ++ [(x5 : Int)] } (w1.setCell ⟨(u2.heap.size + 1), 1, none⟩ (.slice (some ⟨G, 0, none⟩) (v.data.len + 1) cp))) := M5.out.grewData (below_alloc _ _) (x5 : Int) (by omega) hown1 hgrow hat (by have := HDL.out; have := HDM.out; omega); clear hown1 hgrow hat
                    refine hK _ _ ?_
                    clear hK K
                    refine wpAny_ready (rs := [7]) (by kernel_rfl) (by simp) ?_
                    refine AllReady.cons rfl (fun K hK => ?_) ?_
                    · go_simp
                      refine hK _ _ ?_
                      clear hK K
                      refine wpAny_ready (rs := [8]) (by kernel_rfl) (by simp) ?_
                      refine AllReady.cons rfl (fun K hK => ?_) ?_
                      · go_simp
                        refine hK _ _ ?_
                        clear hK K
                        refine wpAny_done (by kernel_rfl) ?_ _
                        go_wp2_with fail
                        go_roundw
                        case rel => exact ⟨k + 1, { v with data := ⟨some ⟨G, 0, none⟩, v.data.len + 1, cp⟩ }, { m with data := m.data ++ [(x5 : Int)] }, by omega, by go_num, by show (m.data ++ [(x5 : Int)]).length = k + 1; have := HDL.out.2; rw [List.length_append]; simp; omega, hml, hen, HG.out⟩
                        case measure => simp [intOf]; omega
                      exact AllReady.nil
                    exact AllReady.nil
                  exact AllReady.nil
                exact AllReady.nil
              exact AllReady.nil
            exact AllReady.nil
          refine AllReady.cons rfl (fun K hK => ?_) ?_
          · go_simp
            go_wp2_with (go_at_call 19; refine (HN.out _ v m (MR.out.only (MR.out.rd.drewN 1) ⟨rfl, rfl, rfl, Nat.le_refl _, fun _ _ _ => rfl⟩)).mono ?_; rintro e u5 ⟨x5, rfl, hx5, h5⟩; have M5 : Hid (IMid w c (u2.heap.size + 1) v m u5) := h5; have c5 : u5.cell? ⟨(u2.heap.size + 1), 1, none⟩ = some (.slice v.data.a v.data.len v.data.cap) := M5.out.cell 1; have c5a : ∀ o, (u5.alloc o).cell? ⟨(u2.heap.size + 1), 1, none⟩ = some (.slice v.data.a v.data.len v.data.cap) := fun o => (M5.out.alloc o).cell 1; have w5 : IntKind.u8.wrap (x5 : Int) = (x5 : Int) := (by rw [IntKind.wrap_u8]; omega : IntKind.u8.wrap (x5 : Int) = (x5 : Int)); clear h5)
            refine wpAny_ready (rs := [1, 4]) (by kernel_rfl) (by simp) ?_
            refine AllReady.cons rfl (fun K hK => ?_) ?_
            · go_simp
              refine hK _ _ ?_
              clear hK K
              refine wpAny_ready (rs := [4]) (by kernel_rfl) (by simp) ?_
              refine AllReady.cons rfl (fun K hK => ?_) ?_
              · go_simp
                refine hK _ _ ?_
                clear hK K
                refine wpAny_ready (rs := [5]) (by kernel_rfl) (by simp) ?_
                refine AllReady.cons rfl (fun K hK => ?_) ?_
                · go_simp
                  refine hK _ _ ?_
                  clear hK K
                  refine wpAny_ready (rs := [6]) (by kernel_rfl) (by simp) ?_
                  refine AllReady.cons rfl (fun K hK => ?_) ?_
                  · refine step_append_lies _ (by rfl) (.tmp 26) (.tmp 30) 22 (by rfl) (w.heap.size + 1) 5 i0 (.int .u8 0) 1 1 Try.underlying22 hi0 hz0 hz1 hz2 rfl (by decide) (.slice v.data.a v.data.len v.data.cap) v.data.len (m.data.map (Value.int .u8)) (by rfl) (M5.out.data.1.alloc _) ⟨u5.heap.size, 0, none⟩ 1 1 [.int .u8 (x5 : Int)] (by rfl) rfl (byte_news u5 _) (by intro z hz; simp at hz; subst hz; rfl) (by decide) (by have := HDM.out; unfold maxLen; omega) (by have := HDM.out; omega) (by have := M5.out.lt; have := M5.out.rg; simp; omega) _ rfl ?_; intro G cp w1 hown1 hgrow hat hlt; have q1 : w1.cell? ⟨(u2.heap.size + 1), 1, none⟩ = some (.slice v.data.a v.data.len v.data.cap) := (World.cell?_of_block (a := ⟨(u2.heap.size + 1), 1, none⟩) (hgrow.block (u2.heap.size + 1) (by have := M5.out.lt; simp; omega) (fun e => M5.out.n2 _ e.symm rfl))).trans ((M5.out.alloc _).cell 1); have qf : w1.frozen? ⟨(u2.heap.size + 1), 1, none⟩ = false := (by have hb := hgrow.block (u2.heap.size + 1) (by have := M5.out.lt; simp; omega) (fun e => M5.out.n2 _ e.symm rfl); exact frozen_of_row w1 (u2.heap.size + 1) 1 _ 79 (hb.trans (M5.out.alloc _).box) : w1.frozen? ⟨(u2.heap.size + 1), 1, none⟩ = false); have HG : Hid (IMid w c (u2.heap.size + 1) { v with data := ⟨some ⟨G, 0, none⟩, v.data.len + 1, cp⟩ } { m with data := m.data ++ [(x5 : Int)] } (w1.setCell ⟨(u2.heap.size + 1), 1, none⟩ (.slice (some ⟨G, 0, none⟩) (v.data.len + 1) cp))) := M5.out.grewData (below_alloc _ _) (x5 : Int) (by omega) hown1 hgrow hat (by have := HDL.out; have := HDM.out; omega); clear hown1 hgrow hat
                    refine hK _ _ ?_
                    clear hK K
                    refine wpAny_ready (rs := [7]) (by kernel_rfl) (by simp) ?_
                    refine AllReady.cons rfl (fun K hK => ?_) ?_
                    · go_simp
                      refine hK _ _ ?_
                      clear hK K
                      refine wpAny_ready (rs := [8]) (by kernel_rfl) (by simp) ?_
                      refine AllReady.cons rfl (fun K hK => ?_) ?_
                      · go_simp
                        refine hK _ _ ?_
                        clear hK K
                        refine wpAny_done (by kernel_rfl) ?_ _
                        go_wp2_with fail
                        go_roundw
                        case rel => exact ⟨k + 1, { v with data := ⟨some ⟨G, 0, none⟩, v.data.len + 1, cp⟩ }, { m with data := m.data ++ [(x5 : Int)] }, by omega, by go_num, by show (m.data ++ [(x5 : Int)]).length = k + 1; have := HDL.out.2; rw [List.length_append]; simp; omega, hml, hen, HG.out⟩
                        case measure => simp [intOf]; omega
                      exact AllReady.nil
                    exact AllReady.nil
                  exact AllReady.nil
                exact AllReady.nil
              exact AllReady.nil
            refine AllReady.cons rfl (fun K hK => ?_) ?_
            · go_simp
              refine hK _ _ ?_
              clear hK K
              refine wpAny_ready (rs := [1, 5]) (by kernel_rfl) (by simp) ?_
              refine AllReady.cons rfl (fun K hK => ?_) ?_
              · go_simp
                refine hK _ _ ?_
                clear hK K
                refine wpAny_ready (rs := [5]) (by kernel_rfl) (by simp) ?_
                refine AllReady.cons rfl (fun K hK => ?_) ?_
                · go_simp
                  refine hK _ _ ?_
                  clear hK K
                  refine wpAny_ready (rs := [6]) (by kernel_rfl) (by simp) ?_
                  refine AllReady.cons rfl (fun K hK => ?_) ?_
                  · refine step_append_lies _ (by rfl) (.tmp 26) (.tmp 30) 22 (by rfl) (w.heap.size + 1) 5 i0 (.int .u8 0) 1 1 Try.underlying22 hi0 hz0 hz1 hz2 rfl (by decide) (.slice v.data.a v.data.len v.data.cap) v.data.len (m.data.map (Value.int .u8)) (by rfl) (M5.out.data.1.alloc _) ⟨u5.heap.size, 0, none⟩ 1 1 [.int .u8 (x5 : Int)] (by rfl) rfl (byte_news u5 _) (by intro z hz; simp at hz; subst hz; rfl) (by decide) (by have := HDM.out; unfold maxLen; omega) (by have := HDM.out; omega) (by have := M5.out.lt; have := M5.out.rg; simp; omega) _ rfl ?_; intro G cp w1 hown1 hgrow hat hlt; have q1 : w1.cell? ⟨(u2.heap.size + 1), 1, none⟩ = some (.slice v.data.a v.data.len v.data.cap) := (World.cell?_of_block (a := ⟨(u2.heap.size + 1), 1, none⟩) (hgrow.block (u2.heap.size + 1) (by have := M5.out.lt; simp; omega) (fun e => M5.out.n2 _ e.symm rfl))).trans ((M5.out.alloc _).cell 1); have qf : w1.frozen? ⟨(u2.heap.size + 1), 1, none⟩ = false := (by have hb := hgrow.block (u2.heap.size + 1) (by have := M5.out.lt; simp; omega) (fun e => M5.out.n2 _ e.symm rfl); exact frozen_of_row w1 (u2.heap.size + 1) 1 _ 79 (hb.trans (M5.out.alloc _).box) : w1.frozen? ⟨(u2.heap.size + 1), 1, none⟩ = false); have HG : Hid (IMid w c (u2.heap.size + 1) { v with data := ⟨some ⟨G, 0, none⟩, v.data.len + 1, cp⟩ } { m with data := m.data ++ [(x5 : Int)] } (w1.setCell ⟨(u2.heap.size + 1), 1, none⟩ (.slice (some ⟨G, 0, none⟩) (v.data.len + 1) cp))) := M5.out.grewData (below_alloc _ _) (x5 : Int) (by omega) hown1 hgrow hat (by have := HDL.out; have := HDM.out; omega); clear hown1 hgrow hat
                    refine hK _ _ ?_
                    clear hK K
                    refine wpAny_ready (rs := [7]) (by kernel_rfl) (by simp) ?_
                    refine AllReady.cons rfl (fun K hK => ?_) ?_
                    · go_simp
                      refine hK _ _ ?_
                      clear hK K
                      refine wpAny_ready (rs := [8]) (by kernel_rfl) (by simp) ?_
                      refine AllReady.cons rfl (fun K hK => ?_) ?_
                      · go_simp
                        refine hK _ _ ?_
                        clear hK K
                        refine wpAny_done (by kernel_rfl) ?_ _
                        go_wp2_with fail
                        go_roundw
                        case rel => exact ⟨k + 1, { v with data := ⟨some ⟨G, 0, none⟩, v.data.len + 1, cp⟩ }, { m with data := m.data ++ [(x5 : Int)] }, by omega, by go_num, by show (m.data ++ [(x5 : Int)]).length = k + 1; have := HDL.out.2; rw [List.length_append]; simp; omega, hml, hen, HG.out⟩
                        case measure => simp [intOf]; omega
                      exact AllReady.nil
                    exact AllReady.nil
                  exact AllReady.nil
                exact AllReady.nil
              refine AllReady.cons rfl (fun K hK => ?_) ?_
              · go_simp
                refine hK _ _ ?_
                clear hK K
                refine wpAny_ready (rs := [1]) (by kernel_rfl) (by simp) ?_
                refine AllReady.cons rfl (fun K hK => ?_) ?_
                · go_simp
                  refine hK _ _ ?_
                  clear hK K
                  refine wpAny_ready (rs := [6]) (by kernel_rfl) (by simp) ?_
                  refine AllReady.cons rfl (fun K hK => ?_) ?_
                  · refine step_append_lies _ (by rfl) (.tmp 26) (.tmp 30) 22 (by rfl) (w.heap.size + 1) 5 i0 (.int .u8 0) 1 1 Try.underlying22 hi0 hz0 hz1 hz2 rfl (by decide) (.slice v.data.a v.data.len v.data.cap) v.data.len (m.data.map (Value.int .u8)) (by rfl) (M5.out.data.1.alloc _) ⟨u5.heap.size, 0, none⟩ 1 1 [.int .u8 (x5 : Int)] (by rfl) rfl (byte_news u5 _) (by intro z hz; simp at hz; subst hz; rfl) (by decide) (by have := HDM.out; unfold maxLen; omega) (by have := HDM.out; omega) (by have := M5.out.lt; have := M5.out.rg; simp; omega) _ rfl ?_; intro G cp w1 hown1 hgrow hat hlt; have q1 : w1.cell? ⟨(u2.heap.size + 1), 1, none⟩ = some (.slice v.data.a v.data.len v.data.cap) := (World.cell?_of_block (a := ⟨(u2.heap.size + 1), 1, none⟩) (hgrow.block (u2.heap.size + 1) (by have := M5.out.lt; simp; omega) (fun e => M5.out.n2 _ e.symm rfl))).trans ((M5.out.alloc _).cell 1); have qf : w1.frozen? ⟨(u2.heap.size + 1), 1, none⟩ = false := (by have hb := hgrow.block (u2.heap.size + 1) (by have := M5.out.lt; simp; omega) (fun e => M5.out.n2 _ e.symm rfl); exact frozen_of_row w1 (u2.heap.size + 1) 1 _ 79 (hb.trans (M5.out.alloc _).box) : w1.frozen? ⟨(u2.heap.size + 1), 1, none⟩ = false); have HG : Hid (IMid w c (u2.heap.size + 1) { v with data := ⟨some ⟨G, 0, none⟩, v.data.len + 1, cp⟩ } { m with data := m.data ++ [(x5 : Int)] } (w1.setCell ⟨(u2.heap.size + 1), 1, none⟩ (.slice (some ⟨G, 0, none⟩) (v.data.len + 1) cp))) := M5.out.grewData (below_alloc _ _) (x5 : Int) (by omega) hown1 hgrow hat (by have := HDL.out; have := HDM.out; omega); clear hown1 hgrow hat
                    refine hK _ _ ?_
                    clear hK K
                    refine wpAny_ready (rs := [7]) (by kernel_rfl) (by simp) ?_
                    refine AllReady.cons rfl (fun K hK => ?_) ?_
                    · go_simp
                      refine hK _ _ ?_
                      clear hK K
                      refine wpAny_ready (rs := [8]) (by kernel_rfl) (by simp) ?_
                      refine AllReady.cons rfl (fun K hK => ?_) ?_
                      · go_simp
                        refine hK _ _ ?_
                        clear hK K
                        refine wpAny_done (by kernel_rfl) ?_ _
                        go_wp2_with fail
                        go_roundw
                        case rel => exact ⟨k + 1, { v with data := ⟨some ⟨G, 0, none⟩, v.data.len + 1, cp⟩ }, { m with data := m.data ++ [(x5 : Int)] }, by omega, by go_num, by show (m.data ++ [(x5 : Int)]).length = k + 1; have := HDL.out.2; rw [List.length_append]; simp; omega, hml, hen, HG.out⟩
                        case measure => simp [intOf]; omega
                      exact AllReady.nil
                    exact AllReady.nil
                  exact AllReady.nil
                exact AllReady.nil
              exact AllReady.nil
            exact AllReady.nil
          exact AllReady.nil
        refine AllReady.cons rfl (fun K hK => ?_) ?_
        · go_simp
          go_wp2_with (go_at_call 19; refine (HN.out _ v m (MR.out.only (MR.out.rd.drewN 1) ⟨rfl, rfl, rfl, Nat.le_refl _, fun _ _ _ => rfl⟩)).mono ?_; rintro e u5 ⟨x5, rfl, hx5, h5⟩; have M5 : Hid (IMid w c (u2.heap.size + 1) v m u5) := h5; have c5 : u5.cell? ⟨(u2.heap.size + 1), 1, none⟩ = some (.slice v.data.a v.data.len v.data.cap) := M5.out.cell 1; have c5a : ∀ o, (u5.alloc o).cell? ⟨(u2.heap.size + 1), 1, none⟩ = some (.slice v.data.a v.data.len v.data.cap) := fun o => (M5.out.alloc o).cell 1; have w5 : IntKind.u8.wrap (x5 : Int) = (x5 : Int) := (by rw [IntKind.wrap_u8]; omega : IntKind.u8.wrap (x5 : Int) = (x5 : Int)); clear h5)
          refine wpAny_ready (rs := [0, 4]) (by kernel_rfl) (by simp) ?_
          refine AllReady.cons rfl (fun K hK => ?_) ?_
          · go_simp
            refine hK _ _ ?_
            clear hK K
            refine wpAny_ready (rs := [1, 4]) (by kernel_rfl) (by simp) ?_
            refine AllReady.cons rfl (fun K hK => ?_) ?_
            · go_simp
              refine hK _ _ ?_
              clear hK K
              refine wpAny_ready (rs := [4]) (by kernel_rfl) (by simp) ?_
              refine AllReady.cons rfl (fun K hK => ?_) ?_
              · go_simp
                refine hK _ _ ?_
                clear hK K
                refine wpAny_ready (rs := [5]) (by kernel_rfl) (by simp) ?_
                refine AllReady.cons rfl (fun K hK => ?_) ?_
                · go_simp
                  refine hK _ _ ?_
                  clear hK K
                  refine wpAny_ready (rs := [6]) (by kernel_rfl) (by simp) ?_
                  refine AllReady.cons rfl (fun K hK => ?_) ?_
                  · refine step_append_lies _ (by rfl) (.tmp 26) (.tmp 30) 22 (by rfl) (w.heap.size + 1) 5 i0 (.int .u8 0) 1 1 Try.underlying22 hi0 hz0 hz1 hz2 rfl (by decide) (.slice v.data.a v.data.len v.data.cap) v.data.len (m.data.map (Value.int .u8)) (by rfl) (M5.out.data.1.alloc _) ⟨u5.heap.size, 0, none⟩ 1 1 [.int .u8 (x5 : Int)] (by rfl) rfl (byte_news u5 _) (by intro z hz; simp at hz; subst hz; rfl) (by decide) (by have := HDM.out; unfold maxLen; omega) (by have := HDM.out; omega) (by have := M5.out.lt; have := M5.out.rg; simp; omega) _ rfl ?_; intro G cp w1 hown1 hgrow hat hlt; have q1 : w1.cell? ⟨(u2.heap.size + 1), 1, none⟩ = some (.slice v.data.a v.data.len v.data.cap) := (World.cell?_of_block (a := ⟨(u2.heap.size + 1), 1, none⟩) (hgrow.block (u2.heap.size + 1) (by have := M5.out.lt; simp; omega) (fun e => M5.out.n2 _ e.symm rfl))).trans ((M5.out.alloc _).cell 1); have qf : w1.frozen? ⟨(u2.heap.size + 1), 1, none⟩ = false := (by have hb := hgrow.block (u2.heap.size + 1) (by have := M5.out.lt; simp; omega) (fun e => M5.out.n2 _ e.symm rfl); exact frozen_of_row w1 (u2.heap.size + 1) 1 _ 79 (hb.trans (M5.out.alloc _).box) : w1.frozen? ⟨(u2.heap.size + 1), 1, none⟩ = false); have HG : Hid (IMid w c (u2.heap.size + 1) { v with data := ⟨some ⟨G, 0, none⟩, v.data.len + 1, cp⟩ } { m with data := m.data ++ [(x5 : Int)] } (w1.setCell ⟨(u2.heap.size + 1), 1, none⟩ (.slice (some ⟨G, 0, none⟩) (v.data.len + 1) cp))) := M5.out.grewData (below_alloc _ _) (x5 : Int) (by omega) hown1 hgrow hat (by have := HDL.out; have := HDM.out; omega); clear hown1 hgrow hat
                    refine hK _ _ ?_
                    clear hK K
                    refine wpAny_ready (rs := [7]) (by kernel_rfl) (by simp) ?_
                    refine AllReady.cons rfl (fun K hK => ?_) ?_
                    · go_simp
                      refine hK _ _ ?_
                      clear hK K
                      refine wpAny_ready (rs := [8]) (by kernel_rfl) (by simp) ?_
                      refine AllReady.cons rfl (fun K hK => ?_) ?_
                      · go_simp
                        refine hK _ _ ?_
                        clear hK K
                        refine wpAny_done (by kernel_rfl) ?_ _
                        go_wp2_with fail
                        go_roundw
                        case rel => exact ⟨k + 1, { v with data := ⟨some ⟨G, 0, none⟩, v.data.len + 1, cp⟩ }, { m with data := m.data ++ [(x5 : Int)] }, by omega, by go_num, by show (m.data ++ [(x5 : Int)]).length = k + 1; have := HDL.out.2; rw [List.length_append]; simp; omega, hml, hen, HG.out⟩
                        case measure => simp [intOf]; omega
                      exact AllReady.nil
                    exact AllReady.nil
                  exact AllReady.nil
                exact AllReady.nil
              exact AllReady.nil
            refine AllReady.cons rfl (fun K hK => ?_) ?_
            · go_simp
              refine hK _ _ ?_
              clear hK K
              refine wpAny_ready (rs := [1, 5]) (by kernel_rfl) (by simp) ?_
              refine AllReady.cons rfl (fun K hK => ?_) ?_
              · go_simp
                refine hK _ _ ?_
                clear hK K
                refine wpAny_ready (rs := [5]) (by kernel_rfl) (by simp) ?_
                refine AllReady.cons rfl (fun K hK => ?_) ?_
                · go_simp
                  refine hK _ _ ?_
                  clear hK K
                  refine wpAny_ready (rs := [6]) (by kernel_rfl) (by simp) ?_
                  refine AllReady.cons rfl (fun K hK => ?_) ?_
                  · refine step_append_lies _ (by rfl) (.tmp 26) (.tmp 30) 22 (by rfl) (w.heap.size + 1) 5 i0 (.int .u8 0) 1 1 Try.underlying22 hi0 hz0 hz1 hz2 rfl (by decide) (.slice v.data.a v.data.len v.data.cap) v.data.len (m.data.map (Value.int .u8)) (by rfl) (M5.out.data.1.alloc _) ⟨u5.heap.size, 0, none⟩ 1 1 [.int .u8 (x5 : Int)] (by rfl) rfl (byte_news u5 _) (by intro z hz; simp at hz; subst hz; rfl) (by decide) (by have := HDM.out; unfold maxLen; omega) (by have := HDM.out; omega) (by have := M5.out.lt; have := M5.out.rg; simp; omega) _ rfl ?_; intro G cp w1 hown1 hgrow hat hlt; have q1 : w1.cell? ⟨(u2.heap.size + 1), 1, none⟩ = some (.slice v.data.a v.data.len v.data.cap) := (World.cell?_of_block (a := ⟨(u2.heap.size + 1), 1, none⟩) (hgrow.block (u2.heap.size + 1) (by have := M5.out.lt; simp; omega) (fun e => M5.out.n2 _ e.symm rfl))).trans ((M5.out.alloc _).cell 1); have qf : w1.frozen? ⟨(u2.heap.size + 1), 1, none⟩ = false := (by have hb := hgrow.block (u2.heap.size + 1) (by have := M5.out.lt; simp; omega) (fun e => M5.out.n2 _ e.symm rfl); exact frozen_of_row w1 (u2.heap.size + 1) 1 _ 79 (hb.trans (M5.out.alloc _).box) : w1.frozen? ⟨(u2.heap.size + 1), 1, none⟩ = false); have HG : Hid (IMid w c (u2.heap.size + 1) { v with data := ⟨some ⟨G, 0, none⟩, v.data.len + 1, cp⟩ } { m with data := m.data ++ [(x5 : Int)] } (w1.setCell ⟨(u2.heap.size + 1), 1, none⟩ (.slice (some ⟨G, 0, none⟩) (v.data.len + 1) cp))) := M5.out.grewData (below_alloc _ _) (x5 : Int) (by omega) hown1 hgrow hat (by have := HDL.out; have := HDM.out; omega); clear hown1 hgrow hat
                    refine hK _ _ ?_
                    clear hK K
                    refine wpAny_ready (rs := [7]) (by kernel_rfl) (by simp) ?_
                    refine AllReady.cons rfl (fun K hK => ?_) ?_
                    · go_simp
                      refine hK _ _ ?_
                      clear hK K
                      refine wpAny_ready (rs := [8]) (by kernel_rfl) (by simp) ?_
                      refine AllReady.cons rfl (fun K hK => ?_) ?_
                      · go_simp
                        refine hK _ _ ?_
                        clear hK K
                        refine wpAny_done (by kernel_rfl) ?_ _
                        go_wp2_with fail
                        go_roundw
                        case rel => exact ⟨k + 1, { v with data := ⟨some ⟨G, 0, none⟩, v.data.len + 1, cp⟩ }, { m with data := m.data ++ [(x5 : Int)] }, by omega, by go_num, by show (m.data ++ [(x5 : Int)]).length = k + 1; have := HDL.out.2; rw [List.length_append]; simp; omega, hml, hen, HG.out⟩
                        case measure => simp [intOf]; omega
                      exact AllReady.nil
                    exact AllReady.nil
                  exact AllReady.nil
                exact AllReady.nil
              refine AllReady.cons rfl (fun K hK => ?_) ?_
              · go_simp
                refine hK _ _ ?_
                clear hK K
                refine wpAny_ready (rs := [1]) (by kernel_rfl) (by simp) ?_
                refine AllReady.cons rfl (fun K hK => ?_) ?_
                · go_simp
                  refine hK _ _ ?_
                  clear hK K
                  refine wpAny_ready (rs := [6]) (by kernel_rfl) (by simp) ?_
                  refine AllReady.cons rfl (fun K hK => ?_) ?_
                  · refine step_append_lies _ (by rfl) (.tmp 26) (.tmp 30) 22 (by rfl) (w.heap.size + 1) 5 i0 (.int .u8 0) 1 1 Try.underlying22 hi0 hz0 hz1 hz2 rfl (by decide) (.slice v.data.a v.data.len v.data.cap) v.data.len (m.data.map (Value.int .u8)) (by rfl) (M5.out.data.1.alloc _) ⟨u5.heap.size, 0, none⟩ 1 1 [.int .u8 (x5 : Int)] (by rfl) rfl (byte_news u5 _) (by intro z hz; simp at hz; subst hz; rfl) (by decide) (by have := HDM.out; unfold maxLen; omega) (by have := HDM.out; omega) (by have := M5.out.lt; have := M5.out.rg; simp; omega) _ rfl ?_; intro G cp w1 hown1 hgrow hat hlt; have q1 : w1.cell? ⟨(u2.heap.size + 1), 1, none⟩ = some (.slice v.data.a v.data.len v.data.cap) := (World.cell?_of_block (a := ⟨(u2.heap.size + 1), 1, none⟩) (hgrow.block (u2.heap.size + 1) (by have := M5.out.lt; simp; omega) (fun e => M5.out.n2 _ e.symm rfl))).trans ((M5.out.alloc _).cell 1); have qf : w1.frozen? ⟨(u2.heap.size + 1), 1, none⟩ = false := (by have hb := hgrow.block (u2.heap.size + 1) (by have := M5.out.lt; simp; omega) (fun e => M5.out.n2 _ e.symm rfl); exact frozen_of_row w1 (u2.heap.size + 1) 1 _ 79 (hb.trans (M5.out.alloc _).box) : w1.frozen? ⟨(u2.heap.size + 1), 1, none⟩ = false); have HG : Hid (IMid w c (u2.heap.size + 1) { v with data := ⟨some ⟨G, 0, none⟩, v.data.len + 1, cp⟩ } { m with data := m.data ++ [(x5 : Int)] } (w1.setCell ⟨(u2.heap.size + 1), 1, none⟩ (.slice (some ⟨G, 0, none⟩) (v.data.len + 1) cp))) := M5.out.grewData (below_alloc _ _) (x5 : Int) (by omega) hown1 hgrow hat (by have := HDL.out; have := HDM.out; omega); clear hown1 hgrow hat
                    refine hK _ _ ?_
                    clear hK K
                    refine wpAny_ready (rs := [7]) (by kernel_rfl) (by simp) ?_
                    refine AllReady.cons rfl (fun K hK => ?_) ?_
                    · go_simp
                      refine hK _ _ ?_
                      clear hK K
                      refine wpAny_ready (rs := [8]) (by kernel_rfl) (by simp) ?_
                      refine AllReady.cons rfl (fun K hK => ?_) ?_
                      · go_simp
                        refine hK _ _ ?_
                        clear hK K
                        refine wpAny_done (by kernel_rfl) ?_ _
                        go_wp2_with fail
                        go_roundw
                        case rel => exact ⟨k + 1, { v with data := ⟨some ⟨G, 0, none⟩, v.data.len + 1, cp⟩ }, { m with data := m.data ++ [(x5 : Int)] }, by omega, by go_num, by show (m.data ++ [(x5 : Int)]).length = k + 1; have := HDL.out.2; rw [List.length_append]; simp; omega, hml, hen, HG.out⟩
                        case measure => simp [intOf]; omega
                      exact AllReady.nil
                    exact AllReady.nil
                  exact AllReady.nil
                exact AllReady.nil
              exact AllReady.nil
            exact AllReady.nil
          refine AllReady.cons rfl (fun K hK => ?_) ?_
          · go_simp
            refine hK _ _ ?_
            clear hK K
            refine wpAny_ready (rs := [0, 5]) (by kernel_rfl) (by simp) ?_
            refine AllReady.cons rfl (fun K hK => ?_) ?_
            · go_simp
              refine hK _ _ ?_
              clear hK K
              refine wpAny_ready (rs := [1, 5]) (by kernel_rfl) (by simp) ?_
              refine AllReady.cons rfl (fun K hK => ?_) ?_
              · go_simp
                refine hK _ _ ?_
                clear hK K
                refine wpAny_ready (rs := [5]) (by kernel_rfl) (by simp) ?_
                refine AllReady.cons rfl (fun K hK => ?_) ?_
                · go_simp
                  refine hK _ _ ?_
                  clear hK K
                  refine wpAny_ready (rs := [6]) (by kernel_rfl) (by simp) ?_
                  refine AllReady.cons rfl (fun K hK => ?_) ?_
                  · refine step_append_lies _ (by rfl) (.tmp 26) (.tmp 30) 22 (by rfl) (w.heap.size + 1) 5 i0 (.int .u8 0) 1 1 Try.underlying22 hi0 hz0 hz1 hz2 rfl (by decide) (.slice v.data.a v.data.len v.data.cap) v.data.len (m.data.map (Value.int .u8)) (by rfl) (M5.out.data.1.alloc _) ⟨u5.heap.size, 0, none⟩ 1 1 [.int .u8 (x5 : Int)] (by rfl) rfl (byte_news u5 _) (by intro z hz; simp at hz; subst hz; rfl) (by decide) (by have := HDM.out; unfold maxLen; omega) (by have := HDM.out; omega) (by have := M5.out.lt; have := M5.out.rg; simp; omega) _ rfl ?_; intro G cp w1 hown1 hgrow hat hlt; have q1 : w1.cell? ⟨(u2.heap.size + 1), 1, none⟩ = some (.slice v.data.a v.data.len v.data.cap) := (World.cell?_of_block (a := ⟨(u2.heap.size + 1), 1, none⟩) (hgrow.block (u2.heap.size + 1) (by have := M5.out.lt; simp; omega) (fun e => M5.out.n2 _ e.symm rfl))).trans ((M5.out.alloc _).cell 1); have qf : w1.frozen? ⟨(u2.heap.size + 1), 1, none⟩ = false := (by have hb := hgrow.block (u2.heap.size + 1) (by have := M5.out.lt; simp; omega) (fun e => M5.out.n2 _ e.symm rfl); exact frozen_of_row w1 (u2.heap.size + 1) 1 _ 79 (hb.trans (M5.out.alloc _).box) : w1.frozen? ⟨(u2.heap.size + 1), 1, none⟩ = false); have HG : Hid (IMid w c (u2.heap.size + 1) { v with data := ⟨some ⟨G, 0, none⟩, v.data.len + 1, cp⟩ } { m with data := m.data ++ [(x5 : Int)] } (w1.setCell ⟨(u2.heap.size + 1), 1, none⟩ (.slice (some ⟨G, 0, none⟩) (v.data.len + 1) cp))) := M5.out.grewData (below_alloc _ _) (x5 : Int) (by omega) hown1 hgrow hat (by have := HDL.out; have := HDM.out; omega); clear hown1 hgrow hat
                    refine hK _ _ ?_
                    clear hK K
                    refine wpAny_ready (rs := [7]) (by kernel_rfl) (by simp) ?_
                    refine AllReady.cons rfl (fun K hK => ?_) ?_
                    · go_simp
                      refine hK _ _ ?_
                      clear hK K
                      refine wpAny_ready (rs := [8]) (by kernel_rfl) (by simp) ?_
                      refine AllReady.cons rfl (fun K hK => ?_) ?_
                      · go_simp
                        refine hK _ _ ?_
                        clear hK K
                        refine wpAny_done (by kernel_rfl) ?_ _
                        go_wp2_with fail
                        go_roundw
                        case rel => exact ⟨k + 1, { v with data := ⟨some ⟨G, 0, none⟩, v.data.len + 1, cp⟩ }, { m with data := m.data ++ [(x5 : Int)] }, by omega, by go_num, by show (m.data ++ [(x5 : Int)]).length = k + 1; have := HDL.out.2; rw [List.length_append]; simp; omega, hml, hen, HG.out⟩
                        case measure => simp [intOf]; omega
                      exact AllReady.nil
                    exact AllReady.nil
                  exact AllReady.nil
                exact AllReady.nil
              refine AllReady.cons rfl (fun K hK => ?_) ?_
              · go_simp
                refine hK _ _ ?_
                clear hK K
                refine wpAny_ready (rs := [1]) (by kernel_rfl) (by simp) ?_
                refine AllReady.cons rfl (fun K hK => ?_) ?_
                · go_simp
                  refine hK _ _ ?_
                  clear hK K
                  refine wpAny_ready (rs := [6]) (by kernel_rfl) (by simp) ?_
                  refine AllReady.cons rfl (fun K hK => ?_) ?_
                  · refine step_append_lies _ (by rfl) (.tmp 26) (.tmp 30) 22 (by rfl) (w.heap.size + 1) 5 i0 (.int .u8 0) 1 1 Try.underlying22 hi0 hz0 hz1 hz2 rfl (by decide) (.slice v.data.a v.data.len v.data.cap) v.data.len (m.data.map (Value.int .u8)) (by rfl) (M5.out.data.1.alloc _) ⟨u5.heap.size, 0, none⟩ 1 1 [.int .u8 (x5 : Int)] (by rfl) rfl (byte_news u5 _) (by intro z hz; simp at hz; subst hz; rfl) (by decide) (by have := HDM.out; unfold maxLen; omega) (by have := HDM.out; omega) (by have := M5.out.lt; have := M5.out.rg; simp; omega) _ rfl ?_; intro G cp w1 hown1 hgrow hat hlt; have q1 : w1.cell? ⟨(u2.heap.size + 1), 1, none⟩ = some (.slice v.data.a v.data.len v.data.cap) := (World.cell?_of_block (a := ⟨(u2.heap.size + 1), 1, none⟩) (hgrow.block (u2.heap.size + 1) (by have := M5.out.lt; simp; omega) (fun e => M5.out.n2 _ e.symm rfl))).trans ((M5.out.alloc _).cell 1); have qf : w1.frozen? ⟨(u2.heap.size + 1), 1, none⟩ = false := (by have hb := hgrow.block (u2.heap.size + 1) (by have := M5.out.lt; simp; omega) (fun e => M5.out.n2 _ e.symm rfl); exact frozen_of_row w1 (u2.heap.size + 1) 1 _ 79 (hb.trans (M5.out.alloc _).box) : w1.frozen? ⟨(u2.heap.size + 1), 1, none⟩ = false); have HG : Hid (IMid w c (u2.heap.size + 1) { v with data := ⟨some ⟨G, 0, none⟩, v.data.len + 1, cp⟩ } { m with data := m.data ++ [(x5 : Int)] } (w1.setCell ⟨(u2.heap.size + 1), 1, none⟩ (.slice (some ⟨G, 0, none⟩) (v.data.len + 1) cp))) := M5.out.grewData (below_alloc _ _) (x5 : Int) (by omega) hown1 hgrow hat (by have := HDL.out; have := HDM.out; omega); clear hown1 hgrow hat
                    refine hK _ _ ?_
                    clear hK K
                    refine wpAny_ready (rs := [7]) (by kernel_rfl) (by simp) ?_
                    refine AllReady.cons rfl (fun K hK => ?_) ?_
                    · go_simp
                      refine hK _ _ ?_
                      clear hK K
                      refine wpAny_ready (rs := [8]) (by kernel_rfl) (by simp) ?_
                      refine AllReady.cons rfl (fun K hK => ?_) ?_
                      · go_simp
                        refine hK _ _ ?_
                        clear hK K
                        refine wpAny_done (by kernel_rfl) ?_ _
                        go_wp2_with fail
                        go_roundw
                        case rel => exact ⟨k + 1, { v with data := ⟨some ⟨G, 0, none⟩, v.data.len + 1, cp⟩ }, { m with data := m.data ++ [(x5 : Int)] }, by omega, by go_num, by show (m.data ++ [(x5 : Int)]).length = k + 1; have := HDL.out.2; rw [List.length_append]; simp; omega, hml, hen, HG.out⟩
                        case measure => simp [intOf]; omega
                      exact AllReady.nil
                    exact AllReady.nil
                  exact AllReady.nil
                exact AllReady.nil
              exact AllReady.nil
            refine AllReady.cons rfl (fun K hK => ?_) ?_
            · go_simp
              refine hK _ _ ?_
              clear hK K
              refine wpAny_ready (rs := [0]) (by kernel_rfl) (by simp) ?_
              refine AllReady.cons rfl (fun K hK => ?_) ?_
              · go_simp
                refine hK _ _ ?_
                clear hK K
                refine wpAny_ready (rs := [1]) (by kernel_rfl) (by simp) ?_
                refine AllReady.cons rfl (fun K hK => ?_) ?_
                · go_simp
                  refine hK _ _ ?_
                  clear hK K
                  refine wpAny_ready (rs := [6]) (by kernel_rfl) (by simp) ?_
                  refine AllReady.cons rfl (fun K hK => ?_) ?_
                  · refine step_append_lies _ (by rfl) (.tmp 26) (.tmp 30) 22 (by rfl) (w.heap.size + 1) 5 i0 (.int .u8 0) 1 1 Try.underlying22 hi0 hz0 hz1 hz2 rfl (by decide) (.slice v.data.a v.data.len v.data.cap) v.data.len (m.data.map (Value.int .u8)) (by rfl) (M5.out.data.1.alloc _) ⟨u5.heap.size, 0, none⟩ 1 1 [.int .u8 (x5 : Int)] (by rfl) rfl (byte_news u5 _) (by intro z hz; simp at hz; subst hz; rfl) (by decide) (by have := HDM.out; unfold maxLen; omega) (by have := HDM.out; omega) (by have := M5.out.lt; have := M5.out.rg; simp; omega) _ rfl ?_; intro G cp w1 hown1 hgrow hat hlt; have q1 : w1.cell? ⟨(u2.heap.size + 1), 1, none⟩ = some (.slice v.data.a v.data.len v.data.cap) := (World.cell?_of_block (a := ⟨(u2.heap.size + 1), 1, none⟩) (hgrow.block (u2.heap.size + 1) (by have := M5.out.lt; simp; omega) (fun e => M5.out.n2 _ e.symm rfl))).trans ((M5.out.alloc _).cell 1); have qf : w1.frozen? ⟨(u2.heap.size + 1), 1, none⟩ = false := (by have hb := hgrow.block (u2.heap.size + 1) (by have := M5.out.lt; simp; omega) (fun e => M5.out.n2 _ e.symm rfl); exact frozen_of_row w1 (u2.heap.size + 1) 1 _ 79 (hb.trans (M5.out.alloc _).box) : w1.frozen? ⟨(u2.heap.size + 1), 1, none⟩ = false); have HG : Hid (IMid w c (u2.heap.size + 1) { v with data := ⟨some ⟨G, 0, none⟩, v.data.len + 1, cp⟩ } { m with data := m.data ++ [(x5 : Int)] } (w1.setCell ⟨(u2.heap.size + 1), 1, none⟩ (.slice (some ⟨G, 0, none⟩) (v.data.len + 1) cp))) := M5.out.grewData (below_alloc _ _) (x5 : Int) (by omega) hown1 hgrow hat (by have := HDL.out; have := HDM.out; omega); clear hown1 hgrow hat
                    refine hK _ _ ?_
                    clear hK K
                    refine wpAny_ready (rs := [7]) (by kernel_rfl) (by simp) ?_
                    refine AllReady.cons rfl (fun K hK => ?_) ?_
                    · go_simp
                      refine hK _ _ ?_
                      clear hK K
                      refine wpAny_ready (rs := [8]) (by kernel_rfl) (by simp) ?_
                      refine AllReady.cons rfl (fun K hK => ?_) ?_
                      · go_simp
                        refine hK _ _ ?_
                        clear hK K
                        refine wpAny_done (by kernel_rfl) ?_ _
                        go_wp2_with fail
                        go_roundw
                        case rel => exact ⟨k + 1, { v with data := ⟨some ⟨G, 0, none⟩, v.data.len + 1, cp⟩ }, { m with data := m.data ++ [(x5 : Int)] }, by omega, by go_num, by show (m.data ++ [(x5 : Int)]).length = k + 1; have := HDL.out.2; rw [List.length_append]; simp; omega, hml, hen, HG.out⟩
                        case measure => simp [intOf]; omega
                      exact AllReady.nil
                    exact AllReady.nil
                  exact AllReady.nil
                exact AllReady.nil
              exact AllReady.nil
            exact AllReady.nil
          exact AllReady.nil
        exact AllReady.nil
      exact AllReady.nil
    · have hi : ¬ (k : Int) < (q4 : Int) * 4 := by omega
      have hnn : (n : Int) ≤ 255 := by omega
      have hml' : (m.code.length : Int) ≤ 12 := by omega
      have hcl' : (v.code.len : Int) ≤ 12 := by omega
      have HLC : Hid (m.code.length ≤ 12 ∧ m.data.length ≤ 8 ∧ v.code.len ≤ 12) := ⟨hml, by omega, hcl⟩
      obtain ⟨q7, e7, h7⟩ : ∃ q : Nat, ((n : Int).tmod 7) = (q : Int) ∧ q ≤ 6 := ⟨n % 7, by rw [Int.tmod_eq_emod_of_nonneg (by omega)]; omega, by omega⟩
      obtain ⟨q2, e2, h2⟩ : ∃ q : Nat, ((n : Int).tmod 2) = (q : Int) ∧ q ≤ 1 := ⟨n % 2, by rw [Int.tmod_eq_emod_of_nonneg (by omega)]; omega, by omega⟩
      obtain ⟨y7, f7, g7⟩ : ∃ y : Nat, ((n : Int).tdiv 7) = (y : Int) ∧ y ≤ 255 := ⟨n / 7, by rw [Int.tdiv_eq_ediv_of_nonneg (by omega)]; omega, by omega⟩
      obtain ⟨p4, d4, b4⟩ : ∃ q : Nat, ((y7 : Int).tmod 4) = (q : Int) ∧ q ≤ 3 := ⟨y7 % 4, by rw [Int.tmod_eq_emod_of_nonneg (by omega)]; omega, by omega⟩
      obtain ⟨p3, d3, b3⟩ : ∃ q : Nat, ((y7 : Int).tmod 3) = (q : Int) ∧ q ≤ 2 := ⟨y7 % 3, by rw [Int.tmod_eq_emod_of_nonneg (by omega)]; omega, by omega⟩
      obtain ⟨y250, f250, g250⟩ : ∃ y : Nat, ((n : Int).tdiv 250) = (y : Int) ∧ y ≤ 1 := ⟨n / 250, by rw [Int.tdiv_eq_ediv_of_nonneg (by omega)]; omega, by omega⟩
      clear hkl hml hdl hcl hk
      go_upto_if 34 with fail
      go_cut [4] from 17 to 97 (fun s4 wx => s4 = .pointer (some ⟨(u2.heap.size + 1), 0, none⟩) ∧ ∃ v m, IMid w c (u2.heap.size + 1) v m wx)
      case first =>
        by_cases h236 : 236 ≤ n
        rotate_left
        · have h236' : ¬ (236 : Int) ≤ (n : Int) := by omega
          go_wp2_with fail
          go_meet
          exact ⟨rfl, v, m, MR.out⟩
        have h236' : (236 : Int) ≤ (n : Int) := by omega
        rcases (show q7 = 0 ∨ q7 = 1 ∨ q7 = 2 ∨ q7 = 3 ∨ q7 = 4 ∨ q7 = 5 ∨ q7 = 6 by omega) with rfl | rfl | rfl | rfl | rfl | rfl | rfl
        · have kc : ∀ j, wr.cell? ⟨(u2.heap.size + 1), j, none⟩ = (#[.slice v.code.a v.code.len v.code.cap, .slice v.data.a v.data.len v.data.cap, .int .i64 m.entry, .int .i64 m.size] : Array Value)[j]? := fun j => MR.out.cell j
          have kf : ∀ j, wr.frozen? ⟨(u2.heap.size + 1), j, none⟩ = false := fun j => MR.out.frz j
          have kca : ∀ o j, (wr.alloc o).cell? ⟨(u2.heap.size + 1), j, none⟩ = (#[.slice v.code.a v.code.len v.code.cap, .slice v.data.a v.data.len v.data.cap, .int .i64 m.entry, .int .i64 m.size] : Array Value)[j]? := fun o j => (MR.out.alloc o).cell j
          have kfa : ∀ o j, (wr.alloc o).frozen? ⟨(u2.heap.size + 1), j, none⟩ = false := fun o j => (MR.out.alloc o).frz j
          go_wp2_with fail
          go_meet
          exact ⟨rfl, v, _, MR.out.setEntry _ (by first | omega | (simp only [IntKind.wrap_i64]; omega))⟩
        · have kc : ∀ j, wr.cell? ⟨(u2.heap.size + 1), j, none⟩ = (#[.slice v.code.a v.code.len v.code.cap, .slice v.data.a v.data.len v.data.cap, .int .i64 m.entry, .int .i64 m.size] : Array Value)[j]? := fun j => MR.out.cell j
          have kf : ∀ j, wr.frozen? ⟨(u2.heap.size + 1), j, none⟩ = false := fun j => MR.out.frz j
          have kca : ∀ o j, (wr.alloc o).cell? ⟨(u2.heap.size + 1), j, none⟩ = (#[.slice v.code.a v.code.len v.code.cap, .slice v.data.a v.data.len v.data.cap, .int .i64 m.entry, .int .i64 m.size] : Array Value)[j]? := fun o j => (MR.out.alloc o).cell j
          have kfa : ∀ o j, (wr.alloc o).frozen? ⟨(u2.heap.size + 1), j, none⟩ = false := fun o j => (MR.out.alloc o).frz j
          go_wp2_with fail
          go_meet
          exact ⟨rfl, v, _, MR.out.setEntry _ (by first | omega | (simp only [IntKind.wrap_i64]; omega))⟩
        · have kc : ∀ j, wr.cell? ⟨(u2.heap.size + 1), j, none⟩ = (#[.slice v.code.a v.code.len v.code.cap, .slice v.data.a v.data.len v.data.cap, .int .i64 m.entry, .int .i64 m.size] : Array Value)[j]? := fun j => MR.out.cell j
          have kf : ∀ j, wr.frozen? ⟨(u2.heap.size + 1), j, none⟩ = false := fun j => MR.out.frz j
          have kca : ∀ o j, (wr.alloc o).cell? ⟨(u2.heap.size + 1), j, none⟩ = (#[.slice v.code.a v.code.len v.code.cap, .slice v.data.a v.data.len v.data.cap, .int .i64 m.entry, .int .i64 m.size] : Array Value)[j]? := fun o j => (MR.out.alloc o).cell j
          have kfa : ∀ o j, (wr.alloc o).frozen? ⟨(u2.heap.size + 1), j, none⟩ = false := fun o j => (MR.out.alloc o).frz j
          rcases (show p4 = 0 ∨ p4 = 1 ∨ p4 = 2 ∨ p4 = 3 by omega) with rfl | rfl | rfl | rfl
          all_goals
            go_wp2_with fail
            go_meet
            exact ⟨rfl, v, _, (MR.out.alloc _).setSize _ (by decide)⟩
        · have kc : ∀ j, wr.cell? ⟨(u2.heap.size + 1), j, none⟩ = (#[.slice v.code.a v.code.len v.code.cap, .slice v.data.a v.data.len v.data.cap, .int .i64 m.entry, .int .i64 m.size] : Array Value)[j]? := fun j => MR.out.cell j
          have kf : ∀ j, wr.frozen? ⟨(u2.heap.size + 1), j, none⟩ = false := fun j => MR.out.frz j
          have kca : ∀ o j, (wr.alloc o).cell? ⟨(u2.heap.size + 1), j, none⟩ = (#[.slice v.code.a v.code.len v.code.cap, .slice v.data.a v.data.len v.data.cap, .int .i64 m.entry, .int .i64 m.size] : Array Value)[j]? := fun o j => (MR.out.alloc o).cell j
          have kfa : ∀ o j, (wr.alloc o).frozen? ⟨(u2.heap.size + 1), j, none⟩ = false := fun o j => (MR.out.alloc o).frz j
          obtain ⟨L, hL, hLe⟩ : ∃ L : Nat, L ≤ 65537 ∧ (65536 : Int) + (q2 : Int) = (L : Int) := ⟨65536 + q2, by omega, by omega⟩
          have hm : ∀ u : World, (Instr.makeSlice 22 (.int .i64 (L : Int)) (.int .i64 (L : Int))).run Try.prog u = .ok (.slice (some ⟨u.heap.size, 0, none⟩) L L) (u.alloc (.cells (madeCells (Value.int .u8 0).cells (L * 1)) 5)) := fun u => by
            have := run_makeSlice u 22 5 i0 _ Try.underlying22 hi0 hz0 .i64 .i64 (L : Int) (L : Int) (by omega) (by omega) (by rw [hz1]; simp; omega) (by rw [hz2]; omega) (by omega)
            rw [hz1, Int.toNat_natCast] at this
            exact this
          have HZ : Hid (Own .u8 5 (w.heap.size + 1) (wr.alloc (.cells (madeCells (Value.int .u8 0).cells (L * 1)) 5)) (some ⟨wr.heap.size, 0, none⟩) L L (List.replicate L 0)) := by
            have hz : (madeCells (Value.int .u8 0).cells (L * 1)).toList = (List.replicate L (0 : Int)).map (Value.int .u8) := by
              rw [show (Value.int .u8 0).cells = #[Value.int .u8 0] from rfl, Nat.mul_one, toList_madeCells_one, List.map_replicate]
            refine ⟨?_, fun x hx => by rw [List.eq_of_mem_replicate hx]; rfl⟩
            rw [← hz]
            exact World.ownsRow_lit wr _ L (by have := MR.out.lt; have := MR.out.rg; omega) (by unfold maxLen; omega) (by rw [← Array.length_toList, hz]; simp)
          generalize madeCells (Value.int .u8 0).cells (L * 1) = Z at *
          go_wp2_with fail
          go_meet
          exact ⟨rfl, _, _, MR.out.setData ⟨some ⟨wr.heap.size, 0, none⟩, L, L⟩ _ HZ.out (fun b hb _ => Below.heap_alloc _ _ _ hb) ((below_alloc wr _).mono (by have := MR.out.lt; have := MR.out.rg; omega)) (fun i hi => .inr (by rw [ob_some _ _ _ _ hi]; exact Nat.le_refl _)) (by rw [List.length_replicate]; omega)⟩
        · have kc : ∀ j, wr.cell? ⟨(u2.heap.size + 1), j, none⟩ = (#[.slice v.code.a v.code.len v.code.cap, .slice v.data.a v.data.len v.data.cap, .int .i64 m.entry, .int .i64 m.size] : Array Value)[j]? := fun j => MR.out.cell j
          have kf : ∀ j, wr.frozen? ⟨(u2.heap.size + 1), j, none⟩ = false := fun j => MR.out.frz j
          have kca : ∀ o j, (wr.alloc o).cell? ⟨(u2.heap.size + 1), j, none⟩ = (#[.slice v.code.a v.code.len v.code.cap, .slice v.data.a v.data.len v.data.cap, .int .i64 m.entry, .int .i64 m.size] : Array Value)[j]? := fun o j => (MR.out.alloc o).cell j
          have kfa : ∀ o j, (wr.alloc o).frozen? ⟨(u2.heap.size + 1), j, none⟩ = false := fun o j => (MR.out.alloc o).frz j
          obtain ⟨L, hL, hLe⟩ : ∃ L : Nat, L ≤ 16385 ∧ (16384 : Int) + (q2 : Int) = (L : Int) := ⟨16384 + q2, by omega, by omega⟩
          have hm : ∀ u : World, (Instr.makeSlice 23 (.int .i64 (L : Int)) (.int .i64 (L : Int))).run Try.prog u = .ok (.slice (some ⟨u.heap.size, 0, none⟩) L L) (u.alloc (.cells (madeCells (Value.int .i64 0).cells (L * 1)) 3)) := fun u => by
            have := run_makeSlice u 23 3 j0 _ Try.underlying23 hj0 hy0 .i64 .i64 (L : Int) (L : Int) (by omega) (by omega) (by rw [hy1]; simp; omega) (by rw [hy2]; omega) (by omega)
            rw [hy1, Int.toNat_natCast] at this
            exact this
          have HZ : Hid (Own .i64 3 (w.heap.size + 1) (wr.alloc (.cells (madeCells (Value.int .i64 0).cells (L * 1)) 3)) (some ⟨wr.heap.size, 0, none⟩) L L (List.replicate L 0)) := by
            have hz : (madeCells (Value.int .i64 0).cells (L * 1)).toList = (List.replicate L (0 : Int)).map (Value.int .i64) := by
              rw [show (Value.int .i64 0).cells = #[Value.int .i64 0] from rfl, Nat.mul_one, toList_madeCells_one, List.map_replicate]
            refine ⟨?_, fun x hx => by rw [List.eq_of_mem_replicate hx]; rfl⟩
            rw [← hz]
            exact World.ownsRow_lit wr _ L (by have := MR.out.lt; have := MR.out.rg; omega) (by unfold maxLen; omega) (by rw [← Array.length_toList, hz]; simp)
          generalize madeCells (Value.int .i64 0).cells (L * 1) = Z at *
          go_wp2_with fail
          go_meet
          exact ⟨rfl, _, _, MR.out.setCode ⟨some ⟨wr.heap.size, 0, none⟩, L, L⟩ _ HZ.out (fun b hb _ => Below.heap_alloc _ _ _ hb) ((below_alloc wr _).mono (by have := MR.out.lt; have := MR.out.rg; omega)) (fun i hi => .inr (by rw [ob_some _ _ _ _ hi]; exact Nat.le_refl _)) (by rw [List.length_replicate]; omega)⟩
        · have kc : ∀ j, wr.cell? ⟨(u2.heap.size + 1), j, none⟩ = (#[.slice v.code.a v.code.len v.code.cap, .slice v.data.a v.data.len v.data.cap, .int .i64 m.entry, .int .i64 m.size] : Array Value)[j]? := fun j => MR.out.cell j
          have kf : ∀ j, wr.frozen? ⟨(u2.heap.size + 1), j, none⟩ = false := fun j => MR.out.frz j
          have kca : ∀ o j, (wr.alloc o).cell? ⟨(u2.heap.size + 1), j, none⟩ = (#[.slice v.code.a v.code.len v.code.cap, .slice v.data.a v.data.len v.data.cap, .int .i64 m.entry, .int .i64 m.size] : Array Value)[j]? := fun o j => (MR.out.alloc o).cell j
          have kfa : ∀ o j, (wr.alloc o).frozen? ⟨(u2.heap.size + 1), j, none⟩ = false := fun o j => (MR.out.alloc o).frz j
          have kcb : ∀ o o' j, ((wr.alloc o).alloc o').cell? ⟨(u2.heap.size + 1), j, none⟩ = (#[.slice v.code.a v.code.len v.code.cap, .slice v.data.a v.data.len v.data.cap, .int .i64 m.entry, .int .i64 m.size] : Array Value)[j]? := fun o o' j => ((MR.out.alloc o).alloc o').cell j
          have hw7 : IntKind.i64.wrap (y7 : Int) = (y7 : Int) := by rw [IntKind.wrap_i64]; omega
          rcases (show p3 = 0 ∨ p3 = 1 ∨ p3 = 2 by omega) with rfl | rfl | rfl
          · replace d3 : (y7 : Int).tmod 3 = 0 := d3
            go_wp2_with fail
            go_region_law ((refine step_append_lies _ (by rfl) (.tmp 83) (.tmp 90) 23 (by rfl) (w.heap.size + 1) 3 j0 (.int .i64 0) 1 8 Try.underlying23 hj0 hy0 hy1 hy2 rfl (by decide) (.slice v.code.a v.code.len v.code.cap) v.code.len (m.code.map (Value.int .i64)) (by rfl) (by first | exact (MR.out.code.1.alloc _).alloc _ | exact ((MR.out.code.1.alloc _).alloc _).drew) ⟨wr.heap.size + 1, 0, none⟩ 1 1 [.int .i64 (-1 : Int)] (by rfl) rfl (int_news2 _ _ (by simp) _) (by intro z hz; simp at hz; subst hz; rfl) (by decide) (by have := HLC.out; unfold maxLen; omega) (by have := HLC.out; omega) (by have := MR.out.lt; have := MR.out.rg; simp; omega) _ rfl ?_; intro G cp w1 hown1 hgrow hat hlt; have hbx := (hgrow.block (u2.heap.size + 1) (by have := MR.out.lt; simp; omega) (fun e => MR.out.n1 _ e.symm rfl)).trans ((MR.out.alloc _).alloc _).box; have q1 : ∀ j, w1.cell? ⟨(u2.heap.size + 1), j, none⟩ = (#[.slice v.code.a v.code.len v.code.cap, .slice v.data.a v.data.len v.data.cap, .int .i64 m.entry, .int .i64 m.size] : Array Value)[j]? := (fun j => cell_of_row w1 (u2.heap.size + 1) j _ 79 (0, 0) hbx); have qf : ∀ j, w1.frozen? ⟨(u2.heap.size + 1), j, none⟩ = false := (fun j => frozen_of_row w1 (u2.heap.size + 1) j _ 79 hbx); have HG : Hid (IMid w c (u2.heap.size + 1) { v with code := ⟨some ⟨G, 0, none⟩, v.code.len + 1, cp⟩ } { m with code := m.code ++ [(-1 : Int)] } (w1.setCell ⟨(u2.heap.size + 1), 0, none⟩ (.slice (some ⟨G, 0, none⟩) (v.code.len + 1) cp))) := MR.out.grewCode (by repeat (first | with_reducible exact Below.refl _ _ | refine Below.alloc ?_ (by simp) _ | refine Below.drew ?_ | refine below_drewN ?_ _)) (-1 : Int) (by decide) hown1 hgrow hat (by have := HLC.out; omega); clear hown1 hgrow hat hbx))
            all_goals
              go_wp2_with fail
              go_meet
              exact ⟨rfl, _, _, HG.out⟩
          · replace d3 : (y7 : Int).tmod 3 = 1 := d3
            go_wp2_with fail
            go_region_law ((refine step_append_lies _ (by rfl) (.tmp 83) (.tmp 90) 23 (by rfl) (w.heap.size + 1) 3 j0 (.int .i64 0) 1 8 Try.underlying23 hj0 hy0 hy1 hy2 rfl (by decide) (.slice v.code.a v.code.len v.code.cap) v.code.len (m.code.map (Value.int .i64)) (by rfl) (by first | exact (MR.out.code.1.alloc _).alloc _ | exact ((MR.out.code.1.alloc _).alloc _).drew) ⟨wr.heap.size + 1, 0, none⟩ 1 1 [.int .i64 (4294967296 : Int)] (by rfl) rfl (int_news2 _ _ (by simp) _) (by intro z hz; simp at hz; subst hz; rfl) (by decide) (by have := HLC.out; unfold maxLen; omega) (by have := HLC.out; omega) (by have := MR.out.lt; have := MR.out.rg; simp; omega) _ rfl ?_; intro G cp w1 hown1 hgrow hat hlt; have hbx := (hgrow.block (u2.heap.size + 1) (by have := MR.out.lt; simp; omega) (fun e => MR.out.n1 _ e.symm rfl)).trans ((MR.out.alloc _).alloc _).box; have q1 : ∀ j, w1.cell? ⟨(u2.heap.size + 1), j, none⟩ = (#[.slice v.code.a v.code.len v.code.cap, .slice v.data.a v.data.len v.data.cap, .int .i64 m.entry, .int .i64 m.size] : Array Value)[j]? := (fun j => cell_of_row w1 (u2.heap.size + 1) j _ 79 (0, 0) hbx); have qf : ∀ j, w1.frozen? ⟨(u2.heap.size + 1), j, none⟩ = false := (fun j => frozen_of_row w1 (u2.heap.size + 1) j _ 79 hbx); have HG : Hid (IMid w c (u2.heap.size + 1) { v with code := ⟨some ⟨G, 0, none⟩, v.code.len + 1, cp⟩ } { m with code := m.code ++ [(4294967296 : Int)] } (w1.setCell ⟨(u2.heap.size + 1), 0, none⟩ (.slice (some ⟨G, 0, none⟩) (v.code.len + 1) cp))) := MR.out.grewCode (by repeat (first | with_reducible exact Below.refl _ _ | refine Below.alloc ?_ (by simp) _ | refine Below.drew ?_ | refine below_drewN ?_ _)) (4294967296 : Int) (by decide) hown1 hgrow hat (by have := HLC.out; omega); clear hown1 hgrow hat hbx))
            all_goals
              go_wp2_with fail
              go_meet
              exact ⟨rfl, _, _, HG.out⟩
          · replace d3 : (y7 : Int).tmod 3 = 2 := d3
            go_wp2_with fail
            go_region_law ((refine step_append_lies _ (by rfl) (.tmp 83) (.tmp 90) 23 (by rfl) (w.heap.size + 1) 3 j0 (.int .i64 0) 1 8 Try.underlying23 hj0 hy0 hy1 hy2 rfl (by decide) (.slice v.code.a v.code.len v.code.cap) v.code.len (m.code.map (Value.int .i64)) (by rfl) (by first | exact (MR.out.code.1.alloc _).alloc _ | exact ((MR.out.code.1.alloc _).alloc _).drew) ⟨wr.heap.size + 1, 0, none⟩ 1 1 [.int .i64 (4294967295 : Int)] (by rfl) rfl (int_news2 _ _ (by simp) _) (by intro z hz; simp at hz; subst hz; rfl) (by decide) (by have := HLC.out; unfold maxLen; omega) (by have := HLC.out; omega) (by have := MR.out.lt; have := MR.out.rg; simp; omega) _ rfl ?_; intro G cp w1 hown1 hgrow hat hlt; have hbx := (hgrow.block (u2.heap.size + 1) (by have := MR.out.lt; simp; omega) (fun e => MR.out.n1 _ e.symm rfl)).trans ((MR.out.alloc _).alloc _).box; have q1 : ∀ j, w1.cell? ⟨(u2.heap.size + 1), j, none⟩ = (#[.slice v.code.a v.code.len v.code.cap, .slice v.data.a v.data.len v.data.cap, .int .i64 m.entry, .int .i64 m.size] : Array Value)[j]? := (fun j => cell_of_row w1 (u2.heap.size + 1) j _ 79 (0, 0) hbx); have qf : ∀ j, w1.frozen? ⟨(u2.heap.size + 1), j, none⟩ = false := (fun j => frozen_of_row w1 (u2.heap.size + 1) j _ 79 hbx); have HG : Hid (IMid w c (u2.heap.size + 1) { v with code := ⟨some ⟨G, 0, none⟩, v.code.len + 1, cp⟩ } { m with code := m.code ++ [(4294967295 : Int)] } (w1.setCell ⟨(u2.heap.size + 1), 0, none⟩ (.slice (some ⟨G, 0, none⟩) (v.code.len + 1) cp))) := MR.out.grewCode (by repeat (first | with_reducible exact Below.refl _ _ | refine Below.alloc ?_ (by simp) _ | refine Below.drew ?_ | refine below_drewN ?_ _)) (4294967295 : Int) (by decide) hown1 hgrow hat (by have := HLC.out; omega); clear hown1 hgrow hat hbx))
            all_goals
              go_wp2_with fail
              go_meet
              exact ⟨rfl, _, _, HG.out⟩
        · have kc : ∀ j, wr.cell? ⟨(u2.heap.size + 1), j, none⟩ = (#[.slice v.code.a v.code.len v.code.cap, .slice v.data.a v.data.len v.data.cap, .int .i64 m.entry, .int .i64 m.size] : Array Value)[j]? := fun j => MR.out.cell j
          have kf : ∀ j, wr.frozen? ⟨(u2.heap.size + 1), j, none⟩ = false := fun j => MR.out.frz j
          have kca : ∀ o j, (wr.alloc o).cell? ⟨(u2.heap.size + 1), j, none⟩ = (#[.slice v.code.a v.code.len v.code.cap, .slice v.data.a v.data.len v.data.cap, .int .i64 m.entry, .int .i64 m.size] : Array Value)[j]? := fun o j => (MR.out.alloc o).cell j
          have kfa : ∀ o j, (wr.alloc o).frozen? ⟨(u2.heap.size + 1), j, none⟩ = false := fun o j => (MR.out.alloc o).frz j
          go_wp2_with fail
          go_meet
          exact ⟨rfl, _, _, MR.out.setCode ⟨v.code.a, 0, v.code.cap⟩ [] MR.out.code.cut0 (fun b _ _ => rfl) (Below.refl _ _) (fun i hi => .inl (by rw [ob_len _ _ 0]; exact hi)) (Nat.zero_le _)⟩
      case rest =>
      obtain ⟨rfl, v2, m2, hM2⟩ := hcut
      obtain ⟨u6, hu6⟩ : ∃ u : World, u = wc := ⟨wc, rfl⟩
      rw [← hu6] at hM2 ⊢
      have M6 : Hid (IMid w c (u2.heap.size + 1) v2 m2 u6) := hM2
      clear hM2 hu6 MR
      have kc : ∀ j, u6.cell? ⟨(u2.heap.size + 1), j, none⟩ = (#[.slice v2.code.a v2.code.len v2.code.cap, .slice v2.data.a v2.data.len v2.data.cap, .int .i64 m2.entry, .int .i64 m2.size] : Array Value)[j]? := fun j => M6.out.cell j
      have kr : ∀ j, u6.cell? ⟨w.heap.size, j, none⟩ = (#[.slice none 0 0, .slice none 0 0, .int .i64 0, .int .i64 0] : Array Value)[j]? := fun j => cell_of_row u6 w.heap.size j _ 79 (0, 0) M6.out.res
      have kfr : ∀ j, u6.frozen? ⟨w.heap.size, j, none⟩ = false := fun j => frozen_of_row u6 w.heap.size j _ 79 M6.out.res
      go_wp2_with fail
      have hB : ∀ (i : Nat) (x : Value) (U : World), OnlyB c w U → OnlyB c w (U.setCell ⟨w.heap.size, i, none⟩ x) := fun i x U hU => hU.low ((Below.refl _ _).setCell (p := ⟨w.heap.size, i, none⟩) (Nat.le_refl _) _)
      have hA : ∀ (i : Nat) (x : Value) (U : World), Above (w.heap.size + 1) u6 U → Above (w.heap.size + 1) u6 (U.setCell ⟨w.heap.size, i, none⟩ x) := fun i x U hU => hU.setCell (by simp) _
      have hR : ∀ (i : Nat) (x : Value) (U : World), RdOk U c → RdOk (U.setCell ⟨w.heap.size, i, none⟩ x) c := fun i x U hU => hU.setOther hcw
      refine bodyPost_ret (v := .agg #[.slice v2.code.a v2.code.len v2.code.cap, .slice v2.data.a v2.data.len v2.data.cap, .int .i64 m2.entry, .int .i64 m2.size]) ?_ rfl ⟨v2, m2, rfl, ⟨?_, ?_⟩, M6.out.lc, M6.out.ld, M6.out.en, M6.out.sz, ?_, ?_⟩
      · refine results_cell_row Try.results45 _ _ w.heap.size 79 #[.slice v2.code.a v2.code.len v2.code.cap, .slice v2.data.a v2.data.len v2.data.cap, .int .i64 m2.entry, .int .i64 m2.size] (0, 0) _ ?hp ?hg Try.underlying79 ?hd ?hi
        case hp => rfl
        case hd => rfl
        case hi => kernel_rfl
        case hg =>
          have h0 := row_put M6.out.res 0 (.slice v2.code.a v2.code.len v2.code.cap) (cs' := #[.slice v2.code.a v2.code.len v2.code.cap, .slice none 0 0, .int .i64 0, .int .i64 0]) rfl
          have h1 := row_put h0 1 (.slice v2.data.a v2.data.len v2.data.cap) (cs' := #[.slice v2.code.a v2.code.len v2.code.cap, .slice v2.data.a v2.data.len v2.data.cap, .int .i64 0, .int .i64 0]) rfl
          have h2 := row_put h1 2 (.int .i64 m2.entry) (cs' := #[.slice v2.code.a v2.code.len v2.code.cap, .slice v2.data.a v2.data.len v2.data.cap, .int .i64 m2.entry, .int .i64 0]) rfl
          have h3 := row_put h2 3 (.int .i64 m2.size) (cs' := #[.slice v2.code.a v2.code.len v2.code.cap, .slice v2.data.a v2.data.len v2.data.cap, .int .i64 m2.entry, .int .i64 m2.size]) rfl
          exact h3
      · exact (M6.out.code.same (hA _ _ _ (hA _ _ _ (hA _ _ _ (hA _ _ _ (Above.refl _ _))))) (Nat.le_refl _)).lower (by omega)
      · exact (M6.out.data.same (hA _ _ _ (hA _ _ _ (hA _ _ _ (hA _ _ _ (Above.refl _ _))))) (Nat.le_refl _)).lower (by omega)
      · exact hR _ _ _ (hR _ _ _ (hR _ _ _ (hR _ _ _ M6.out.rd)))
      · exact hB _ _ _ (hB _ _ _ (hB _ _ _ (hB _ _ _ M6.out.bel)))
end Go.Proofs.Ytfcfnbncgadomaa.W
