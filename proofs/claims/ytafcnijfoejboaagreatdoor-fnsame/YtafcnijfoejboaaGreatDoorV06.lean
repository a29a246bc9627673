import Derived.Test.YtafcnijfoejboaaGreatDoorV02
set_option linter.unusedVariables false
set_option linter.unusedSimpArgs false
namespace Go.Proofs.YtafcnijfoejboaaGreatDoor.W
open Go.RowKit
theorem ty_new4 (w : World) (A B C D : Value) (j : Nat) (u : Value) (hj : [A, B, C, D][j]? = some u) : (w.alloc (.cells #[A, B, C, D] 31)).cell? ((⟨w.heap.size, 0, none⟩ : Addr).add j) = some u := by
  have hr := heap_alloc_new w (.cells #[A, B, C, D] 31)
  rcases (show j = 0 ∨ j = 1 ∨ j = 2 ∨ j = 3 ∨ 4 ≤ j by omega) with rfl | rfl | rfl | rfl | h
  · cases hj; exact cell_of_row _ w.heap.size 0 _ 31 (0, 0) hr
  · cases hj; exact cell_of_row _ w.heap.size 1 _ 31 (0, 0) hr
  · cases hj; exact cell_of_row _ w.heap.size 2 _ 31 (0, 0) hr
  · cases hj; exact cell_of_row _ w.heap.size 3 _ 31 (0, 0) hr
  · rw [List.getElem?_eq_none (by simpa using h)] at hj; cases hj
theorem box_grown {w : World} {c nb Y bx : Nat} {v : Value} {n : Nat} {K N : Int} {x y : SV} {u u' : World} {zs : List Int} {o : Obj} (h : BSt w c nb Y bx v n K N x y u) (hx : Own .i64 3 Y (u.alloc o) x.a x.len x.cap zs) (hg : (u.alloc o).grownBy u' x.val.ownBlock) : u'.cell? ⟨bx, 2, none⟩ = some x.val ∧ ∀ j, u'.frozen? ⟨bx, j, none⟩ = false := by
  have hb := ((below_alloc u o).block bx (Array.getElem?_eq_some_iff.1 h.b).1).trans h.b
  have hbx := (hg.block bx (Array.getElem?_eq_some_iff.1 hb).1 (box_ne hx.1 hb (by decide))).trans hb
  exact ⟨by rw [cell_of_row u' _ 2 _ _ _ hbx]; rfl, fun j => frozen_of_row u' _ j _ _ hbx⟩
theorem Nms.cell {nb : Nat} {u : World} (h : Nms nb u) {i : Nat} (hi : i < 4) : ∃ s : ByteArray, u.cell? ⟨nb, i, none⟩ = some (.string s) ∧ s.size ≤ 2 := by
  have hc := fun j => cell_of_row u nb j _ _ _ h
  rcases (show i = 0 ∨ i = 1 ∨ i = 2 ∨ i = 3 by omega) with rfl | rfl | rfl | rfl
  · exact ⟨_, hc 0, by decide⟩
  · exact ⟨_, hc 1, by decide⟩
  · exact ⟨_, hc 2, by decide⟩
  · exact ⟨_, hc 3, by decide⟩
theorem box_grownS {w : World} {c nb Y bx : Nat} {v : Value} {n : Nat} {K N : Int} {x y : SV} {u u' : World} {ss : List ByteArray} {o : Obj} (h : BSt w c nb Y bx v n K N x y u) (hx : OwnS Y (u.alloc o) y ss) (hg : (u.alloc o).grownBy u' y.val.ownBlock) : u'.cell? ⟨bx, 3, none⟩ = some y.val ∧ ∀ j, u'.frozen? ⟨bx, j, none⟩ = false := by
  have hb := ((below_alloc u o).block bx (Array.getElem?_eq_some_iff.1 h.b).1).trans h.b
  have hbx := (hg.block bx (Array.getElem?_eq_some_iff.1 hb).1 (box_ne hx.1 hb (by decide))).trans hb
  exact ⟨by rw [cell_of_row u' _ 3 _ _ _ hbx]; rfl, fun j => frozen_of_row u' _ j _ _ hbx⟩
def lenOf (v : Value) : Nat := match v with | .slice _ n _ => n | _ => 0
theorem own_four {B g : Nat} {u : World} {p q r t : Int} (h : u.heap[g]? = some (.cells #[.int .i64 p, .int .i64 q, .int .i64 r, .int .i64 t] 3 (0, 0))) (hb : B ≤ g) (hw : ∀ x ∈ [p, q, r, t], (Lit.int .i64 x).wf = true) : Own .i64 3 B u (some ⟨g, 0, none⟩) 4 4 [p, q, r, t] :=
  ⟨⟨rfl, .inr ⟨g, 4, _, rfl, hb, h, Nat.le_refl _, by unfold maxLen; decide, rfl, rfl⟩⟩, hw⟩
theorem owns_four {B g : Nat} {u : World} {p q r t : ByteArray} (h : u.heap[g]? = some (.cells #[.string p, .string q, .string r, .string t] 9 (0, 0))) (hb : B ≤ g) (hw : ∀ x ∈ [p, q, r, t], x.size ≤ 1048576) : OwnS B u ⟨some ⟨g, 0, none⟩, 4, 4⟩ [p, q, r, t] :=
  ⟨⟨rfl, .inr ⟨g, 4, _, rfl, hb, h, Nat.le_refl _, by unfold maxLen; decide, rfl, rfl⟩⟩, hw⟩
theorem RdOk.below {c : Nat} {u u' : World} (h : RdOk u c) (hb : Below u.heap.size u u') : RdOk u' c := by
  have hlt := h.lt
  obtain ⟨a, len, cap, p, hrow, h1, h2, h3⟩ := h
  refine ⟨a, len, cap, p, (hb.block c hlt).trans hrow, h1, h2, ?_⟩
  rcases h3 with h3 | ⟨b, off, ha, hbc, hc⟩
  · exact .inl h3
  · refine .inr ⟨b, off, ha, hbc, fun i hi => ?_⟩
    obtain ⟨v, hv, hcell⟩ := hc i hi
    exact ⟨v, hv, (hb.cell (p := ⟨b, off + i, none⟩) (show b < u.heap.size by omega)).trans hcell⟩
theorem add_f (s : ByteArray) (h : s.size ≤ 20) (w : World) : (binOp .add 9 (.string ⟨#[102]⟩) (.string s)).run Tryz.prog w = .ok (.string ((⟨#[102]⟩ : ByteArray) ++ s)) w := by
  have h1 : (⟨#[102]⟩ : ByteArray).size = 1 := rfl
  have h2 : (1 : Nat) + s.size ≤ maxLen := by unfold maxLen; omega
  simp [go_sem, Tryz.underlying9, h1, h2]
  omega
theorem TOwn.made {B X : Nat} {u : World} (hb : B ≤ u.heap.size) : TOwn B X (u.alloc (.cells #[] 31)) (.slice (some ⟨u.heap.size, 0, none⟩) 0 0) 0 :=
  ⟨[], fun _ => ⟨none, 0, 0⟩, fun _ => ⟨none, 0, 0⟩, World.ownsRow_made u #[] 0 hb (Nat.zero_le _) rfl, fun i hi => absurd hi (Nat.not_lt_zero _), fun i hi => absurd hi (Nat.not_lt_zero _), fun i hi => absurd hi (Nat.not_lt_zero _), fun i hi => absurd hi (Nat.not_lt_zero _), fun i hi => absurd hi (Nat.not_lt_zero _), fun i j hi => absurd hi (Nat.not_lt_zero _), fun i j hi => absurd hi (Nat.not_lt_zero _), fun i hi => absurd hi (Nat.not_lt_zero _)⟩
set_option maxHeartbeats 8000000 in
set_option maxRecDepth 8000 in
theorem l7Types_any (w : World) (c : Nat) (h : RdOk w c) (hc : c < w.heap.size) : Calls Tryz.prog 41 #[.pointer (some ⟨c, 0, none⟩)] w fun e w' => ∃ (v : Value) (n : Nat), e = .returned v ∧ 0 < n ∧ n ≤ 2001 ∧ TDrawn w.heap.size w' v n ∧ RdOk w' c ∧ OnlyL c w w' := by
  have hinfo : (Tryz.prog.info? 31).map (fun i => (i.zero, i.size, i.bytes)) = some (some (.agg #[.int .i64 0, .int .i64 0, .slice none 0 0, .slice none 0 0]), 4, 64) := by kernel_rfl
  obtain ⟨i0, hi0, hz0, hz1, hz2⟩ := info_parts hinfo
  have HI : Hid (Tryz.prog.info? 31 = some i0 ∧ i0.zero = some (.agg #[.int .i64 0, .int .i64 0, .slice none 0 0, .slice none 0 0]) ∧ i0.size = 4 ∧ i0.bytes = 64) := ⟨hi0, hz0, hz1, hz2⟩
  clear hinfo hi0 hz0 hz1 hz2
  obtain ⟨i3, hi3, hw0, hw1, hw2⟩ := info_parts Tryz.infoi64
  have HI3 : Hid (Tryz.prog.info? 3 = some i3 ∧ i3.zero = some (.int .i64 0) ∧ i3.size = 1 ∧ i3.bytes = 8) := ⟨hi3, hw0, hw1, hw2⟩
  clear hi3 hw0 hw1 hw2
  have hinfs : (Tryz.prog.info? 9).map (fun i => (i.zero, i.size, i.bytes)) = some (some (.string ByteArray.empty), 1, 16) := by kernel_rfl
  obtain ⟨i9, hi9, hy0, hy1, hy2⟩ := info_parts hinfs
  have HI9 : Hid (Tryz.prog.info? 9 = some i9 ∧ i9.zero = some (.string ByteArray.empty) ∧ i9.size = 1 ∧ i9.bytes = 16) := ⟨hi9, hy0, hy1, hy2⟩
  clear hi9 hy0 hy1 hy2 hinfs
  have H0 : Hid (RdOk w c) := h
  have HC : Hid (c < w.heap.size) := hc
  clear h hc
  go_enter Tryz.func41, Tryz.ntmps41
  go_wp2_with fail
  refine (next_onlyL w c H0.out).mono ?_
  rintro e u1 ⟨kk, rfl, hkk, r1, d1⟩
  have HS1 : Hid (DSt w c (.slice (some ⟨u1.heap.size, 0, none⟩) 0 0) 0 (u1.alloc (.cells #[] 31))) := ⟨TOwn.made d1.size, r1.alloc _, d1.trans (OnlyL.of_below (below_alloc _ _))⟩
  clear r1 d1 H0
  go_wp2_with fail
  go_loopw [4, 5] (fun v i wr => ∃ (n : Nat) (vv : Value), n ≤ 7 ∧ vv = v ∧ i = .int .i64 ((n : Int) + 1) ∧ Hid (DSt w c vv n wr)) (fun _ i _ => 8 - (intOf i).toNat)
  case atStart => exact ⟨0, _, by decide, rfl, rfl, HS1.out⟩
  case round =>
    obtain ⟨n, v, hn, hv9, rfl, S0⟩ := hrel
    subst hv9
    by_cases hlt : n < 7
    · have hi : (n : Int) + 1 ≤ 7 := by omega
      have SA : Hid (DSt w c v n (wr.alloc (.cells #[.int .i64 ((n : Int) + 1), .int .i64 0, .slice none 0 0, .slice none 0 0] 31))) := S0.out.alloc HC.out _
      obtain ⟨cs, V, S, hT⟩ := SA.out.t
      have HT9 : Hid (TyL w.heap.size (wr.alloc (.cells #[.int .i64 ((n : Int) + 1), .int .i64 0, .slice none 0 0, .slice none 0 0] 31)).heap.size (wr.alloc (.cells #[.int .i64 ((n : Int) + 1), .int .i64 0, .slice none 0 0, .slice none 0 0] 31)) v n cs V S) := hT
      have HOWN : Hid ((wr.alloc (.cells #[.int .i64 ((n : Int) + 1), .int .i64 0, .slice none 0 0, .slice none 0 0] 31)).ownsRow w.heap.size 31 4 v n cs) := hT.own
      have HSZ : Hid (w.heap.size ≤ wr.heap.size) := S0.out.o.size
      have NX : Hid (∀ j u, [.int .i64 ((n : Int) + 1), .int .i64 0, .slice none 0 0, .slice none 0 0][j]? = some u → (wr.alloc (.cells #[.int .i64 ((n : Int) + 1), .int .i64 0, .slice none 0 0, .slice none 0 0] 31)).cell? ((⟨wr.heap.size, 0, none⟩ : Addr).add j) = some u) := ty_new4 wr _ _ _ _
      clear hT
      go_wp2_with (at_builtin; refine wpList_append_own _ rfl (.tmp 27) (.tmp 30) 23 rfl w.heap.size 31 i0 (.agg #[.int .i64 0, .int .i64 0, .slice none 0 0, .slice none 0 0]) 4 64 Tryz.underlying23 HI.out.1 HI.out.2.1 HI.out.2.2.1 HI.out.2.2.2 rfl (by decide) v n cs rfl HOWN.out ⟨wr.heap.size, 0, none⟩ 1 1 [.int .i64 ((n : Int) + 1), .int .i64 0, .slice none 0 0, .slice none 0 0] rfl rfl ?n1 (by intro u hu; simp at hu; rcases hu with rfl | rfl | rfl | rfl <;> rfl) (by unfold maxLen; omega) (by omega) (by have := HSZ.out; simp; omega) ?_; (case n1 => exact NX.out); intro v6 w6 hown6 hgrow6 _; refine Hid.out ?_)
      have S7 : Hid (DSt w c v6 (n + 1) w6) := DSt.snoc (x := ⟨none, 0, 0⟩) (y := ⟨none, 0, 0⟩) HC.out SA.out.r SA.out.o ⟨cs, V, S, HT9.out, hown6⟩ hgrow6 (own_noneI _ _) (own_noneS _ _) (Nat.le_refl _) (fun b hb => by cases hb) (fun b hb => by cases hb)
      clear hown6 hgrow6 HOWN NX HT9 SA S0
      unfold Hid
      go_wp2_with fail
      go_roundw
      case rel => exact ⟨n + 1, _, hlt, rfl, by go_num, S7.out⟩
      case measure => simp [intOf]; omega
    · have hi : ¬ ((n : Int) + 1 ≤ 7) := by omega
      have hn7 : n = 7 := by omega
      subst hn7
      have HE0 : Hid (ESt w c wr.heap.size v 7 (wr.alloc (.cells #[.string ⟨#[97]⟩, .string ⟨#[98]⟩, .string ⟨#[99, 99]⟩, .string ⟨#[100]⟩] 9))) := ⟨S0.out.alloc HC.out _, S0.out.o.size, heap_alloc_new wr _⟩
      obtain ⟨nb, hnb⟩ : ∃ nb, nb = wr.heap.size := ⟨_, rfl⟩
      have hkd : ∃ d : Nat, ((kk : Int).tmod 12) = (d : Int) ∧ d ≤ 11 := ⟨kk % 12, by rw [Int.tmod_eq_emod_of_nonneg (by omega)]; omega, by omega⟩
      obtain ⟨d, hd, hd11⟩ := hkd
      go_wp2_with fail
      rw [← hnb] at HE0 ⊢
      clear hnb S0
      go_loopw [4, 7] (fun v i wr => ∃ (n m : Nat) (vv : Value), m ≤ d + 1 ∧ n = 7 + m ∧ vv = v ∧ i = .int .i64 (m : Int) ∧ Hid (ESt w c nb vv n wr)) (fun _ i _ => 13 - (intOf i).toNat)
      case atStart => exact ⟨7, 0, _, by omega, rfl, rfl, rfl, HE0.out⟩
      case round =>
        obtain ⟨n, m, v, hm, hnm, hv9, rfl, S2⟩ := hrel
        subst hv9
        have HNM : Hid (n = 7 + m) := hnm
        have hn0 : 7 ≤ n := by omega
        have hnL : (n : Int) ≤ 30 := by omega
        clear hnm
        by_cases hlt : m < d + 1
        · have hi2 : (m : Int) < 1 + (d : Int) := by omega
          obtain ⟨g, cp, rfl⟩ : ∃ g cp, v = .slice (some ⟨g, 0, none⟩) n cp := by
            obtain ⟨cs, V, S, hT⟩ := S2.out.d.t
            rcases hT.own.2 with ⟨_, q⟩ | ⟨g, cap, cur, q, _⟩
            · omega
            · exact ⟨g, cap, q⟩
          go_wp2_with fail
          refine (next_onlyL _ c S2.out.d.r).mono ?_
          rintro e u3 ⟨vx, rfl, hvx, r3, o3⟩
          have S3 : Hid (ESt w c nb (.slice (some ⟨g, 0, none⟩) n cp) n u3) := S2.out.next HC.out r3 o3
          clear r3 o3 S2
          go_wp2_with fail
          refine (next_onlyL _ c S3.out.d.r).mono ?_
          rintro e u4 ⟨px, rfl, hpx, r4, o4⟩
          have S4 : Hid (ESt w c nb (.slice (some ⟨g, 0, none⟩) n cp) n u4) := S3.out.next HC.out r4 o4
          clear r4 o4 S3
          have hp9 : ∃ p : Nat, ((px : Int).tmod (n : Int)) = (p : Int) ∧ p < n := ⟨px % n, by rw [Int.tmod_eq_emod_of_nonneg (by omega)]; exact (Int.natCast_emod _ _).symm, Nat.mod_lt _ (by omega)⟩
          obtain ⟨p, hp, hpn⟩ := hp9
          have hpe : ((px : Int) % (n : Int)) = (p : Int) := by rw [← hp, Int.tmod_eq_emod_of_nonneg (by omega)]
          have hj9 : ∃ j : Nat, ((vx : Int).tmod 6) = (j : Int) ∧ j ≤ 5 := ⟨vx % 6, by rw [Int.tmod_eq_emod_of_nonneg (by omega)]; omega, by omega⟩
          obtain ⟨j, hj, hj5⟩ := hj9
          have hje : ((vx : Int) % 6) = (j : Int) := by rw [← hj, Int.tmod_eq_emod_of_nonneg (by omega)]
          have hq9 : ∃ q : Nat, ((vx : Int).tdiv 6) = (q : Int) ∧ q ≤ 42 := ⟨vx / 6, by rw [Int.tdiv_eq_ediv_of_nonneg (by omega)]; omega, by omega⟩
          obtain ⟨q, hq, hq42⟩ := hq9
          have hqe : ((vx : Int) / 6) = (q : Int) := by rw [← hq, Int.tdiv_eq_ediv_of_nonneg (by omega)]
          have hnz : ((n : Int) == 0) = false := by rw [beq_eq_false_iff_ne]; omega
          by_cases hj0 : j = 0
          · subst hj0
            have SA : Hid (ESt w c nb (.slice (some ⟨g, 0, none⟩) n cp) n ((u4.alloc (.cells #[.int .i64 (p : Int)] 3)).alloc (.cells #[.int .i64 8, .int .i64 0, .slice (some ⟨u4.heap.size, 0, none⟩) 1 1, .slice none 0 0] 31))) := (S4.out.alloc HC.out _).alloc HC.out _
            obtain ⟨cs, V, S, hT⟩ := (S4.out.d.t.only ((OnlyL.of_below (below_alloc u4 (.cells #[.int .i64 (p : Int)] 3))).trans (OnlyL.of_below (below_alloc (u4.alloc (.cells #[.int .i64 (p : Int)] 3)) (.cells #[.int .i64 8, .int .i64 0, .slice (some ⟨u4.heap.size, 0, none⟩) 1 1, .slice none 0 0] 31)))) HC.out)
            have HT9 : Hid (TyL w.heap.size u4.heap.size ((u4.alloc (.cells #[.int .i64 (p : Int)] 3)).alloc (.cells #[.int .i64 8, .int .i64 0, .slice (some ⟨u4.heap.size, 0, none⟩) 1 1, .slice none 0 0] 31)) (.slice (some ⟨g, 0, none⟩) n cp) n cs V S) := hT
            have HOWN : Hid (((u4.alloc (.cells #[.int .i64 (p : Int)] 3)).alloc (.cells #[.int .i64 8, .int .i64 0, .slice (some ⟨u4.heap.size, 0, none⟩) 1 1, .slice none 0 0] 31)).ownsRow w.heap.size 31 4 (.slice (some ⟨g, 0, none⟩) n cp) n cs) := hT.own
            have HSZ : Hid (w.heap.size ≤ u4.heap.size) := S4.out.d.o.size
            have NX : Hid (∀ j u, [.int .i64 8, .int .i64 0, .slice (some ⟨u4.heap.size, 0, none⟩) 1 1, .slice none 0 0][j]? = some u → ((u4.alloc (.cells #[.int .i64 (p : Int)] 3)).alloc (.cells #[.int .i64 8, .int .i64 0, .slice (some ⟨u4.heap.size, 0, none⟩) 1 1, .slice none 0 0] 31)).cell? ((⟨u4.heap.size + 1, 0, none⟩ : Addr).add j) = some u) := fun j u hj => by have := ty_new4 (u4.alloc (.cells #[.int .i64 (p : Int)] 3)) _ _ _ _ j u hj; rw [show (u4.alloc (.cells #[.int .i64 (p : Int)] 3)).heap.size = u4.heap.size + 1 by simp] at this; exact this
            have HX1 : Hid (Own .i64 3 w.heap.size ((u4.alloc (.cells #[.int .i64 (p : Int)] 3)).alloc (.cells #[.int .i64 8, .int .i64 0, .slice (some ⟨u4.heap.size, 0, none⟩) 1 1, .slice none 0 0] 31)) (some ⟨u4.heap.size, 0, none⟩) 1 1 [(p : Int)]) := own_one (((below_alloc (u4.alloc (.cells #[.int .i64 (p : Int)] 3)) (.cells #[.int .i64 8, .int .i64 0, .slice (some ⟨u4.heap.size, 0, none⟩) 1 1, .slice none 0 0] 31)).block _ (by simp)).trans (heap_alloc_new u4 _)) HSZ.out (small_wf (by omega))
            have HXS : Hid (u4.heap.size ≤ ((u4.alloc (.cells #[.int .i64 (p : Int)] 3)).alloc (.cells #[.int .i64 8, .int .i64 0, .slice (some ⟨u4.heap.size, 0, none⟩) 1 1, .slice none 0 0] 31)).heap.size) := by show u4.heap.size ≤ ((u4.alloc (.cells #[.int .i64 (p : Int)] 3)).alloc (.cells #[.int .i64 8, .int .i64 0, .slice (some ⟨u4.heap.size, 0, none⟩) 1 1, .slice none 0 0] 31)).heap.size; simp; omega
            clear hT
            go_wp2_with (at_builtin; refine wpList_append_own _ rfl (.tmp 51) (.tmp 55) 23 rfl w.heap.size 31 i0 (.agg #[.int .i64 0, .int .i64 0, .slice none 0 0, .slice none 0 0]) 4 64 Tryz.underlying23 HI.out.1 HI.out.2.1 HI.out.2.2.1 HI.out.2.2.2 rfl (by decide) (.slice (some ⟨g, 0, none⟩) n cp) n cs rfl HOWN.out ⟨u4.heap.size + 1, 0, none⟩ 1 1 [.int .i64 8, .int .i64 0, .slice (some ⟨u4.heap.size, 0, none⟩) 1 1, .slice none 0 0] rfl rfl ?n1 (by intro u hu; simp at hu; rcases hu with rfl | rfl | rfl | rfl <;> rfl) (by unfold maxLen; omega) (by omega) (by have := HSZ.out; simp; omega) ?_; (case n1 => exact NX.out); intro v6 w6 hown6 hgrow6 _; refine Hid.out ?_)
            have S7 : Hid (ESt w c nb v6 (n + 1) w6) := ESt.snoc (x := ⟨some ⟨u4.heap.size, 0, none⟩, 1, 1⟩) (y := ⟨none, 0, 0⟩) HC.out SA.out ⟨cs, V, S, HT9.out, hown6⟩ hgrow6 HX1.out (own_noneS _ _) HXS.out (fun b hb => by simp [SV.blk, Value.ownBlock] at hb; omega) (fun b hb => by cases hb)
            clear hown6 hgrow6 HOWN NX HT9 SA S4 HX1 HXS HSZ
            unfold Hid
            go_wp2_with fail
            go_roundw
            case rel => exact ⟨n + 1, m + 1, _, hlt, by have := HNM.out; omega, rfl, by go_num, S7.out⟩
            case measure => simp [intOf]; omega
          by_cases hj1 : j = 1
          · subst hj1
            have hr5 : ∃ r : Nat, ((q : Int).tmod 5) = (r : Int) ∧ r ≤ 4 := ⟨q % 5, by rw [Int.tmod_eq_emod_of_nonneg (by omega)]; omega, by omega⟩
            obtain ⟨r, hr, hr4⟩ := hr5
            have hre : ((q : Int) % 5) = (r : Int) := by rw [← hr, Int.tmod_eq_emod_of_nonneg (by omega)]
            have SA : Hid (ESt w c nb (.slice (some ⟨g, 0, none⟩) n cp) n ((u4.alloc (.cells #[.int .i64 (p : Int)] 3)).alloc (.cells #[.int .i64 9, .int .i64 (1 + (r : Int)), .slice (some ⟨u4.heap.size, 0, none⟩) 1 1, .slice none 0 0] 31))) := (S4.out.alloc HC.out _).alloc HC.out _
            obtain ⟨cs, V, S, hT⟩ := (S4.out.d.t.only ((OnlyL.of_below (below_alloc u4 (.cells #[.int .i64 (p : Int)] 3))).trans (OnlyL.of_below (below_alloc (u4.alloc (.cells #[.int .i64 (p : Int)] 3)) (.cells #[.int .i64 9, .int .i64 (1 + (r : Int)), .slice (some ⟨u4.heap.size, 0, none⟩) 1 1, .slice none 0 0] 31)))) HC.out)
            have HT9 : Hid (TyL w.heap.size u4.heap.size ((u4.alloc (.cells #[.int .i64 (p : Int)] 3)).alloc (.cells #[.int .i64 9, .int .i64 (1 + (r : Int)), .slice (some ⟨u4.heap.size, 0, none⟩) 1 1, .slice none 0 0] 31)) (.slice (some ⟨g, 0, none⟩) n cp) n cs V S) := hT
            have HOWN : Hid (((u4.alloc (.cells #[.int .i64 (p : Int)] 3)).alloc (.cells #[.int .i64 9, .int .i64 (1 + (r : Int)), .slice (some ⟨u4.heap.size, 0, none⟩) 1 1, .slice none 0 0] 31)).ownsRow w.heap.size 31 4 (.slice (some ⟨g, 0, none⟩) n cp) n cs) := hT.own
            have HSZ : Hid (w.heap.size ≤ u4.heap.size) := S4.out.d.o.size
            have NX : Hid (∀ j u, [.int .i64 9, .int .i64 (1 + (r : Int)), .slice (some ⟨u4.heap.size, 0, none⟩) 1 1, .slice none 0 0][j]? = some u → ((u4.alloc (.cells #[.int .i64 (p : Int)] 3)).alloc (.cells #[.int .i64 9, .int .i64 (1 + (r : Int)), .slice (some ⟨u4.heap.size, 0, none⟩) 1 1, .slice none 0 0] 31)).cell? ((⟨u4.heap.size + 1, 0, none⟩ : Addr).add j) = some u) := fun j u hj => by have := ty_new4 (u4.alloc (.cells #[.int .i64 (p : Int)] 3)) _ _ _ _ j u hj; rw [show (u4.alloc (.cells #[.int .i64 (p : Int)] 3)).heap.size = u4.heap.size + 1 by simp] at this; exact this
            have HX1 : Hid (Own .i64 3 w.heap.size ((u4.alloc (.cells #[.int .i64 (p : Int)] 3)).alloc (.cells #[.int .i64 9, .int .i64 (1 + (r : Int)), .slice (some ⟨u4.heap.size, 0, none⟩) 1 1, .slice none 0 0] 31)) (some ⟨u4.heap.size, 0, none⟩) 1 1 [(p : Int)]) := own_one (((below_alloc (u4.alloc (.cells #[.int .i64 (p : Int)] 3)) (.cells #[.int .i64 9, .int .i64 (1 + (r : Int)), .slice (some ⟨u4.heap.size, 0, none⟩) 1 1, .slice none 0 0] 31)).block _ (by simp)).trans (heap_alloc_new u4 _)) HSZ.out (small_wf (by omega))
            have HXS : Hid (u4.heap.size ≤ ((u4.alloc (.cells #[.int .i64 (p : Int)] 3)).alloc (.cells #[.int .i64 9, .int .i64 (1 + (r : Int)), .slice (some ⟨u4.heap.size, 0, none⟩) 1 1, .slice none 0 0] 31)).heap.size) := by show u4.heap.size ≤ ((u4.alloc (.cells #[.int .i64 (p : Int)] 3)).alloc (.cells #[.int .i64 9, .int .i64 (1 + (r : Int)), .slice (some ⟨u4.heap.size, 0, none⟩) 1 1, .slice none 0 0] 31)).heap.size; simp; omega
            clear hT
            go_wp2_with (at_builtin; refine wpList_append_own _ rfl (.tmp 59) (.tmp 67) 23 rfl w.heap.size 31 i0 (.agg #[.int .i64 0, .int .i64 0, .slice none 0 0, .slice none 0 0]) 4 64 Tryz.underlying23 HI.out.1 HI.out.2.1 HI.out.2.2.1 HI.out.2.2.2 rfl (by decide) (.slice (some ⟨g, 0, none⟩) n cp) n cs rfl HOWN.out ⟨u4.heap.size + 1, 0, none⟩ 1 1 [.int .i64 9, .int .i64 (1 + (r : Int)), .slice (some ⟨u4.heap.size, 0, none⟩) 1 1, .slice none 0 0] rfl rfl ?n1 (by intro u hu; simp at hu; rcases hu with rfl | rfl | rfl | rfl <;> rfl) (by unfold maxLen; omega) (by omega) (by have := HSZ.out; simp; omega) ?_; (case n1 => exact NX.out); intro v6 w6 hown6 hgrow6 _; refine Hid.out ?_)
            have S7 : Hid (ESt w c nb v6 (n + 1) w6) := ESt.snoc (x := ⟨some ⟨u4.heap.size, 0, none⟩, 1, 1⟩) (y := ⟨none, 0, 0⟩) HC.out SA.out ⟨cs, V, S, HT9.out, hown6⟩ hgrow6 HX1.out (own_noneS _ _) HXS.out (fun b hb => by simp [SV.blk, Value.ownBlock] at hb; omega) (fun b hb => by cases hb)
            clear hown6 hgrow6 HOWN NX HT9 SA S4 HX1 HXS HSZ
            unfold Hid
            go_wp2_with fail
            go_roundw
            case rel => exact ⟨n + 1, m + 1, _, hlt, by have := HNM.out; omega, rfl, by go_num, S7.out⟩
            case measure => simp [intOf]; omega
          by_cases hj5' : j = 5
          · subst hj5'
            have hr4 : ∃ r : Nat, ((q : Int).tmod 4) = (r : Int) ∧ r ≤ 3 := ⟨q % 4, by rw [Int.tmod_eq_emod_of_nonneg (by omega)]; omega, by omega⟩
            obtain ⟨r, hr, hr3⟩ := hr4
            have hre : ((q : Int) % 4) = (r : Int) := by rw [← hr, Int.tmod_eq_emod_of_nonneg (by omega)]
            have hgY : g < u4.heap.size := by
              obtain ⟨cs, V, S, hT⟩ := S4.out.d.t
              exact (hT.own.lt g rfl).2
            have SB0 : Hid (BSt w c nb u4.heap.size (u4.heap.size + 1) (.slice (some ⟨g, 0, none⟩) n cp) n 12 0 ⟨some ⟨u4.heap.size, 0, none⟩, 1, 1⟩ ⟨none, 0, 0⟩ ((u4.alloc (.cells #[.int .i64 (p : Int)] 3)).alloc (.cells #[.int .i64 12, .int .i64 0, .slice (some ⟨u4.heap.size, 0, none⟩) 1 1, .slice none 0 0] 31))) := by
              have o2 : OnlyL c u4 ((u4.alloc (.cells #[.int .i64 (p : Int)] 3)).alloc (.cells #[.int .i64 12, .int .i64 0, .slice (some ⟨u4.heap.size, 0, none⟩) 1 1, .slice none 0 0] 31)) := (OnlyL.of_below (below_alloc u4 _)).trans (OnlyL.of_below (below_alloc _ _))
              refine ⟨S4.out.d.t.only o2 HC.out, (S4.out.d.r.alloc _).alloc _, S4.out.d.o.trans o2, S4.out.l, S4.out.m.only o2 (by have := S4.out.l; have := HC.out; omega), ⟨S4.out.d.o.size, Nat.le_succ _⟩, fun q hq => by simp [Value.ownBlock] at hq; omega, by have := heap_alloc_new (u4.alloc (.cells #[.int .i64 (p : Int)] 3)) (.cells #[.int .i64 12, .int .i64 0, .slice (some ⟨u4.heap.size, 0, none⟩) 1 1, .slice none 0 0] 31); rw [show (u4.alloc (.cells #[.int .i64 (p : Int)] 3)).heap.size = u4.heap.size + 1 by simp] at this; exact this, ⟨[(p : Int)], own_one (((below_alloc (u4.alloc (.cells #[.int .i64 (p : Int)] 3)) (.cells #[.int .i64 12, .int .i64 0, .slice (some ⟨u4.heap.size, 0, none⟩) 1 1, .slice none 0 0] 31)).block _ (by simp)).trans (heap_alloc_new u4 _)) (Nat.le_refl _) (small_wf (by omega))⟩, ⟨[], own_noneS _ _⟩⟩
            go_wp2_with fail
            go_loopw [12] (fun t wr => ∃ (k : Nat) (x : SV), k ≤ r ∧ t = .int .i64 (k : Int) ∧ Hid (BSt w c nb u4.heap.size (u4.heap.size + 1) (.slice (some ⟨g, 0, none⟩) n cp) n 12 0 x ⟨none, 0, 0⟩ wr ∧ x.len = k + 1)) (fun t _ => r - (intOf t).toNat)
            case atStart => exact ⟨0, _, Nat.zero_le _, rfl, SB0.out, rfl⟩
            case round =>
              obtain ⟨k, x, hk, rfl, S⟩ := hrel
              obtain ⟨xa, xl, xc⟩ := x
              have hb2 : wr.cell? ⟨u4.heap.size + 1, 2, none⟩ = some (.slice xa xl xc) := by rw [cell_of_row wr _ 2 _ _ _ S.out.1.b]; rfl
              have hbf : ∀ j, wr.frozen? ⟨u4.heap.size + 1, j, none⟩ = false := fun j => frozen_of_row wr _ j _ _ S.out.1.b
              have hbz : u4.heap.size + 1 < wr.heap.size := (Array.getElem?_eq_some_iff.1 S.out.1.b).1
              by_cases hkr : k < r
              · have hki : (k : Int) < (r : Int) := by omega
                have hxl : xl ≤ 10 := by have : xl = k + 1 := S.out.2; omega
                go_wp2_with fail
                go_region_law (first | (refine step_append_own rfl (.tmp 82) (.tmp 87) 28 rfl u4.heap.size 3 i3 (.int .i64 0) 1 8 Tryz.underlying28 HI3.out.1 HI3.out.2.1 HI3.out.2.2.1 HI3.out.2.2.2 rfl (by decide) (.slice xa xl xc) xl (zs.map (Value.int .i64)) (by rfl) HOWN5.out ⟨u5.heap.size, 0, none⟩ 1 1 [.int .i64 (1 + (z5 : Int))] (by rfl) rfl NX5.out (by intro u hu; simp at hu; subst hu; rfl) (by unfold maxLen; omega) (by omega) (by have := HS5.out; simp; omega) ?_; intro v6 w6 hown6 hgrow6; obtain ⟨g6, c6, rfl⟩ := own_slice' hown6; have S7 : Hid (BSt w c nb u4.heap.size (u4.heap.size + 1) (.slice (some ⟨g, 0, none⟩) n cp) n 12 0 ⟨some ⟨g6, 0, none⟩, xl + 1, c6⟩ ⟨none, 0, 0⟩ (w6.setCell ⟨u4.heap.size + 1, 2, none⟩ (.slice (some ⟨g6, 0, none⟩) (xl + 1) c6))) := BSt.putI (x := ⟨xa, xl, xc⟩) (x' := ⟨some ⟨g6, 0, none⟩, xl + 1, c6⟩) (zs := zs) (z := 1 + (z5 : Int)) (S5.out.alloc HC.out _) HC.out HZS5.out (small_wf (by omega)) (by rw [List.map_append]; exact hown6) hgrow6; obtain ⟨q6, f6⟩ := box_grown S5.out HZS5.out hgrow6; clear hown6 hgrow6) | (go_simp; go_at_call 35; refine (next_onlyL _ c (by exact S.out.1.r)).mono ?_; rintro e u5 ⟨x5, rfl, hx5, r5, o5⟩; have S5 : Hid (BSt w c nb u4.heap.size (u4.heap.size + 1) (.slice (some ⟨g, 0, none⟩) n cp) n 12 0 ⟨xa, xl, xc⟩ ⟨none, 0, 0⟩ u5) := S.out.1.next HC.out r5 ((OnlyL.of_below (by repeat (first | exact Below.refl _ _ | refine below_drewN ?_ _))).trans o5); obtain ⟨z5, hz5, hz6⟩ : ∃ z : Nat, ((x5 : Int) % 6) = (z : Int) ∧ z ≤ 5 := ⟨x5 % 6, by omega, by omega⟩; have hz7 : (x5 : Int).tmod 6 = (z5 : Int) := (by rw [Int.tmod_eq_emod_of_nonneg (by omega)]; exact hz5); have hz8 : IntKind.i64.wrap (1 + (z5 : Int)) = 1 + (z5 : Int) := (by rw [IntKind.wrap_i64]; omega); have hz9 : IntKind.i64.wrap (1 + (x5 : Int).tmod 6) = 1 + (z5 : Int) := (by rw [hz7]; exact hz8); obtain ⟨zs, hzs⟩ := S5.out.xi; have HZS5 : Hid (Own .i64 3 u4.heap.size (u5.alloc (.cells #[.int .i64 (1 + (z5 : Int))] 3)) xa xl xc zs) := ⟨hzs.1.alloc _, hzs.2⟩; have HOWN5 : Hid ((u5.alloc (.cells #[.int .i64 (1 + (z5 : Int))] 3)).ownsRow u4.heap.size 3 1 (.slice xa xl xc) xl (zs.map (Value.int .i64))) := hzs.1.alloc _; have NX5 : Hid _ := int_new1' u5 (.int .i64 (1 + (z5 : Int))); have HS5 : Hid (u4.heap.size ≤ u5.heap.size) := Nat.le_of_lt (Nat.lt_trans (Nat.lt_succ_self _) (Array.getElem?_eq_some_iff.1 S5.out.b).1); have b5 : u5.cell? ⟨u4.heap.size + 1, 2, none⟩ = some (.slice xa xl xc) := (by rw [cell_of_row u5 _ 2 _ _ _ S5.out.b]; rfl); have z5b : u4.heap.size + 1 < u5.heap.size := (Array.getElem?_eq_some_iff.1 S5.out.b).1; clear r5 o5 hzs))
                all_goals
                  go_wp2_with fail
                  go_roundw
                  case rel => exact ⟨k + 1, _, hkr, by go_num, S7.out, by show xl + 1 = k + 1 + 1; have : xl = k + 1 := S.out.2; omega⟩
                  case measure => simp [intOf]; omega
              · have hki : ¬ ((k : Int) < (r : Int)) := by omega
                have hb0 : wr.cell? ⟨u4.heap.size + 1, 0, none⟩ = some (.int .i64 12) := by rw [cell_of_row wr _ 0 _ _ _ S.out.1.b]; rfl
                have hb1 : wr.cell? ⟨u4.heap.size + 1, 1, none⟩ = some (.int .i64 0) := by rw [cell_of_row wr _ 1 _ _ _ S.out.1.b]; rfl
                have hb3 : wr.cell? ⟨u4.heap.size + 1, 3, none⟩ = some (.slice none 0 0) := by rw [cell_of_row wr _ 3 _ _ _ S.out.1.b]; rfl
                clear SB0 S4
                have HSH : Hid ((xl) ≤ 5000 ∧ (0) ≤ 5000) := ⟨by have : xl = k + 1 := S.out.2; omega, by simp⟩
                have SB := S.out.1.alloc HC.out (.cells #[.int .i64 12, .int .i64 0, .slice xa xl xc, .slice none 0 0] 31)
                have HSB : Hid _ := SB
                obtain ⟨cs, V, S5, hT⟩ := SB.t
                have HT9 : Hid (TyL w.heap.size u4.heap.size (wr.alloc (.cells #[.int .i64 12, .int .i64 0, .slice xa xl xc, .slice none 0 0] 31)) (.slice (some ⟨g, 0, none⟩) n cp) n cs V S5) := hT
                have HOWN : Hid ((wr.alloc (.cells #[.int .i64 12, .int .i64 0, .slice xa xl xc, .slice none 0 0] 31)).ownsRow w.heap.size 31 4 (.slice (some ⟨g, 0, none⟩) n cp) n cs) := hT.own
                have HSZ : Hid (w.heap.size ≤ wr.heap.size) := S.out.1.o.size
                have NX : Hid (∀ j u, [.int .i64 12, .int .i64 0, .slice xa xl xc, .slice none 0 0][j]? = some u → (wr.alloc (.cells #[.int .i64 12, .int .i64 0, .slice xa xl xc, .slice none 0 0] 31)).cell? ((⟨wr.heap.size, 0, none⟩ : Addr).add j) = some u) := ty_new4 wr _ _ _ _
                clear hT SB
                go_wp2_with (at_builtin; refine wpList_append_own _ rfl (.tmp 90) (.tmp 92) 23 rfl w.heap.size 31 i0 (.agg #[.int .i64 0, .int .i64 0, .slice none 0 0, .slice none 0 0]) 4 64 Tryz.underlying23 HI.out.1 HI.out.2.1 HI.out.2.2.1 HI.out.2.2.2 rfl (by decide) (.slice (some ⟨g, 0, none⟩) n cp) n cs rfl HOWN.out ⟨wr.heap.size, 0, none⟩ 1 1 [.int .i64 12, .int .i64 0, .slice xa xl xc, .slice none 0 0] rfl rfl ?n1 (by intro u hu; simp at hu; rcases hu with rfl | rfl | rfl | rfl <;> rfl) (by unfold maxLen; omega) (by omega) (by have := HSZ.out; simp; omega) ?_; (case n1 => exact NX.out); intro v6 w6 hown6 hgrow6 _; refine Hid.out ?_)
                have S7 : Hid (ESt w c nb v6 (n + 1) w6) := BSt.close HSB.out HC.out ⟨cs, V, S5, HT9.out, hown6⟩ hgrow6 HSH.out
                clear hown6 hgrow6 HOWN NX HT9 HSB HSZ S HSH
                unfold Hid
                go_wp2_with fail
                go_roundw
                case rel => exact ⟨n + 1, m + 1, _, hlt, by have := HNM.out; omega, rfl, by go_num, S7.out⟩
                case measure => simp [intOf]; omega
          have e0 : ((j : Int) == 0) = false := by rw [beq_eq_false_iff_ne]; omega
          have e1 : ((j : Int) == 1) = false := by rw [beq_eq_false_iff_ne]; omega
          have e5 : ((j : Int) == 5) = false := by rw [beq_eq_false_iff_ne]; omega
          obtain ⟨r3, hr3, hr32⟩ : ∃ r : Nat, ((q : Int) % 3) = (r : Int) ∧ r ≤ 2 := ⟨q % 3, by omega, by omega⟩
          have hr3t : (q : Int).tmod 3 = (r3 : Int) := by rw [Int.tmod_eq_emod_of_nonneg (by omega)]; exact hr3
          obtain ⟨h5, hh5, hh1⟩ : ∃ r : Nat, ((r3 : Int) / 2) = (r : Int) ∧ r ≤ 1 := ⟨r3 / 2, by omega, by omega⟩
          have hh5t : (r3 : Int).tdiv 2 = (h5 : Int) := by rw [Int.tdiv_eq_ediv_of_nonneg (by omega)]; exact hh5
          obtain ⟨q18, hq18, hq18b⟩ : ∃ r : Nat, ((vx : Int) / 18) = (r : Int) ∧ r ≤ 14 := ⟨vx / 18, by omega, by omega⟩
          have hq18t : (vx : Int).tdiv 18 = (q18 : Int) := by rw [Int.tdiv_eq_ediv_of_nonneg (by omega)]; exact hq18
          obtain ⟨r, hr5, hr54⟩ : ∃ r : Nat, ((q18 : Int) % 5) = (r : Int) ∧ r ≤ 4 := ⟨q18 % 5, by omega, by omega⟩
          have hr5t : (q18 : Int).tmod 5 = (r : Int) := by rw [Int.tmod_eq_emod_of_nonneg (by omega)]; exact hr5
          have hnz2 : ¬ (n = 0) := by omega
          have hnz3 : ¬ ((n : Int) = 0) := by omega
          have hnz4 : (n : Int) ≠ 0 := hnz3
          have hrem : ∀ (a : Int) (w : World), (binOp .rem 3 (.int .i64 a) (.int .i64 (n : Int))).run Tryz.prog w = .ok (.int .i64 (a.tmod (n : Int))) w := fun a w => by simp [go_sem, hnz2, hnz3]
          have hnb4 : nb < u4.heap.size := (Array.getElem?_eq_some_iff.1 S4.out.m).1
          have hgY : g < u4.heap.size := by
            obtain ⟨cs, V, S, hT⟩ := S4.out.d.t
            exact (hT.own.lt g rfl).2
          have SB0 : Hid (BSt w c nb u4.heap.size u4.heap.size (.slice (some ⟨g, 0, none⟩) n cp) n (10 + (h5 : Int)) 0 ⟨none, 0, 0⟩ ⟨none, 0, 0⟩ (u4.alloc (.cells #[.int .i64 (10 + (h5 : Int)), .int .i64 0, .slice none 0 0, .slice none 0 0] 31))) := by
            have o2 : OnlyL c u4 (u4.alloc (.cells #[.int .i64 (10 + (h5 : Int)), .int .i64 0, .slice none 0 0, .slice none 0 0] 31)) := OnlyL.of_below (below_alloc u4 _)
            refine ⟨S4.out.d.t.only o2 HC.out, S4.out.d.r.alloc _, S4.out.d.o.trans o2, S4.out.l, S4.out.m.only o2 (by have := S4.out.l; have := HC.out; omega), ⟨S4.out.d.o.size, Nat.le_refl _⟩, fun q hq => by simp [Value.ownBlock] at hq; omega, heap_alloc_new u4 _, ⟨[], own_noneI _ _⟩, ⟨[], own_noneS _ _⟩⟩
          go_wp2_with fail
          go_loopw [14] (fun t wr => ∃ (k : Nat) (x y : SV), k ≤ r ∧ t = .int .i64 (k : Int) ∧ Hid (BSt w c nb u4.heap.size u4.heap.size (.slice (some ⟨g, 0, none⟩) n cp) n (10 + (h5 : Int)) 0 x y wr ∧ x.len = k ∧ y.len = k)) (fun t _ => r - (intOf t).toNat)
          case atStart => exact ⟨0, _, _, Nat.zero_le _, rfl, SB0.out, rfl, rfl⟩
          case round =>
            obtain ⟨k, x, y, hk, rfl, S⟩ := hrel
            obtain ⟨xa, xl, xc⟩ := x
            obtain ⟨ya, yl, yc⟩ := y
            have hb2 : wr.cell? ⟨u4.heap.size, 2, none⟩ = some (.slice xa xl xc) := by rw [cell_of_row wr _ 2 _ _ _ S.out.1.b]; rfl
            have hbf : ∀ j, wr.frozen? ⟨u4.heap.size, j, none⟩ = false := fun j => frozen_of_row wr _ j _ _ S.out.1.b
            have hbz : u4.heap.size < wr.heap.size := (Array.getElem?_eq_some_iff.1 S.out.1.b).1
            by_cases hkr : k < r
            · have hki : (k : Int) < (r : Int) := by omega
              have hxl : xl ≤ 10 := by have : xl = k := S.out.2.1; omega
              go_wp2_with fail
              go_region_law (first | (refine step_append_own rfl (.tmp 108) (.tmp 114) 28 rfl u4.heap.size 3 i3 (.int .i64 0) 1 8 Tryz.underlying28 HI3.out.1 HI3.out.2.1 HI3.out.2.2.1 HI3.out.2.2.2 rfl (by decide) (.slice xa xl xc) xl (zs.map (Value.int .i64)) (by rfl) HOWN5.out ⟨u5.heap.size, 0, none⟩ 1 1 [.int .i64 (z5 : Int)] (by rfl) rfl NX5.out (by intro u hu; simp at hu; subst hu; rfl) (by unfold maxLen; omega) (by omega) (by have := HS5.out; simp; omega) ?_; intro v6 w6 hown6 hgrow6; obtain ⟨g6, c6, rfl⟩ := own_slice' hown6; have S7 : Hid (BSt w c nb u4.heap.size u4.heap.size (.slice (some ⟨g, 0, none⟩) n cp) n (10 + (h5 : Int)) 0 ⟨some ⟨g6, 0, none⟩, xl + 1, c6⟩ ⟨ya, yl, yc⟩ (w6.setCell ⟨u4.heap.size, 2, none⟩ (.slice (some ⟨g6, 0, none⟩) (xl + 1) c6))) := BSt.putI (x := ⟨xa, xl, xc⟩) (x' := ⟨some ⟨g6, 0, none⟩, xl + 1, c6⟩) (zs := zs) (z := (z5 : Int)) (S5.out.alloc HC.out _) HC.out HZS5.out (small_wf (by omega)) (by rw [List.map_append]; exact hown6) hgrow6; obtain ⟨q6, f6⟩ := box_grown S5.out HZS5.out hgrow6; clear hown6 hgrow6) | (go_simp; go_at_call 35; refine (next_onlyL _ c (by exact S.out.1.r)).mono ?_; rintro e u5 ⟨x5, rfl, hx5, r5, o5⟩; have S5 : Hid (BSt w c nb u4.heap.size u4.heap.size (.slice (some ⟨g, 0, none⟩) n cp) n (10 + (h5 : Int)) 0 ⟨xa, xl, xc⟩ ⟨ya, yl, yc⟩ u5) := S.out.1.next HC.out r5 ((OnlyL.of_below (by repeat (first | exact Below.refl _ _ | refine below_drewN ?_ _))).trans o5); obtain ⟨z5, hz5, hz6⟩ : ∃ z : Nat, ((x5 : Int).tmod (n : Int)) = (z : Int) ∧ z < n := ⟨x5 % n, (by rw [Int.tmod_eq_emod_of_nonneg (by omega)]; exact (Int.natCast_emod _ _).symm), Nat.mod_lt _ (by omega)⟩; obtain ⟨zs, hzs⟩ := S5.out.xi; have HZS5 : Hid (Own .i64 3 u4.heap.size (u5.alloc (.cells #[.int .i64 (z5 : Int)] 3)) xa xl xc zs) := ⟨hzs.1.alloc _, hzs.2⟩; have HOWN5 : Hid ((u5.alloc (.cells #[.int .i64 (z5 : Int)] 3)).ownsRow u4.heap.size 3 1 (.slice xa xl xc) xl (zs.map (Value.int .i64))) := hzs.1.alloc _; have NX5 : Hid _ := int_new1' u5 (.int .i64 (z5 : Int)); have HS5 : Hid (u4.heap.size ≤ u5.heap.size) := Nat.le_of_lt (Array.getElem?_eq_some_iff.1 S5.out.b).1; have b5 : u5.cell? ⟨u4.heap.size, 2, none⟩ = some (.slice xa xl xc) := (by rw [cell_of_row u5 _ 2 _ _ _ S5.out.b]; rfl); have z5b : u4.heap.size < u5.heap.size := (Array.getElem?_eq_some_iff.1 S5.out.b).1; clear r5 o5 hzs))
              all_goals
                have hyl : yl ≤ 10 := by have : yl = k := S.out.2.2; omega
                have HXK : Hid (xl = k ∧ yl = k) := ⟨S.out.2.1, S.out.2.2⟩
                clear S5 HZS5 HOWN5 NX5 HS5 b5 z5b hb2 hbf hbz S q6 f6
                generalize w6.setCell ⟨u4.heap.size, 2, none⟩ (.slice (some ⟨g6, 0, none⟩) (xl + 1) c6) = u7 at S7 ⊢
                have b7 : u7.cell? ⟨u4.heap.size, 3, none⟩ = some (.slice ya yl yc) := by rw [cell_of_row u7 _ 3 _ _ _ S7.out.b]; rfl
                have f7 : ∀ j, u7.frozen? ⟨u4.heap.size, j, none⟩ = false := fun j => frozen_of_row u7 _ j _ _ S7.out.b
                have z7 : u4.heap.size < u7.heap.size := (Array.getElem?_eq_some_iff.1 S7.out.b).1
                obtain ⟨k4, hk4, hk43⟩ : ∃ r : Nat, ((k : Int).tmod 4) = (r : Int) ∧ r < 4 := ⟨k % 4, by rw [Int.tmod_eq_emod_of_nonneg (by omega)]; omega, by omega⟩
                have hk4i : (k4 : Int) < 4 := by omega
                have hk4e : ((k : Int) % 4) = (k4 : Int) := by rw [← hk4, Int.tmod_eq_emod_of_nonneg (by omega)]
                obtain ⟨s7, hs7, hs72⟩ := S7.out.m.cell hk43
                obtain ⟨ss, hss⟩ := S7.out.yi
                have S7d : Hid (BSt w c nb u4.heap.size u4.heap.size (.slice (some ⟨g, 0, none⟩) n cp) n (10 + (h5 : Int)) 0 ⟨some ⟨g6, 0, none⟩, xl + 1, c6⟩ ⟨ya, yl, yc⟩ u7.drew) := S7.out.next HC.out (S7.out.r.drewN 1) (OnlyL.of_below (Below.drew (Below.refl _ _)))
                have HSS7 : Hid (OwnS u4.heap.size (u7.drew.alloc (.cells #[.string s7] 9)) ⟨ya, yl, yc⟩ ss) := ⟨World.ownsRow.alloc (show u7.drew.ownsRow _ _ _ _ _ _ from hss.1) _, hss.2⟩
                have HOWN7 : Hid ((u7.drew.alloc (.cells #[.string s7] 9)).ownsRow u4.heap.size 9 1 (.slice ya yl yc) yl (ss.map Value.string)) := World.ownsRow.alloc (show u7.drew.ownsRow _ _ _ _ _ _ from hss.1) _
                have NX7 : Hid _ := str_new1 u7.drew (.string s7)
                have HNN7 : Hid (some nb ≠ (SV.val ⟨ya, yl, yc⟩).ownBlock) := fun e => by have := blk_ge hss.1 nb e.symm; omega
                have hnb7 : nb < u7.heap.size := by omega
                clear hss
                go_wp2_with fail
                go_region_law (refine step_append_own rfl (.tmp 118) (.tmp 124) 29 rfl u4.heap.size 9 i9 (.string ByteArray.empty) 1 16 Tryz.underlying29 HI9.out.1 HI9.out.2.1 HI9.out.2.2.1 HI9.out.2.2.2 rfl (by decide) (.slice ya yl yc) yl (ss.map Value.string) (by rfl) HOWN7.out ⟨u7.heap.size, 0, none⟩ 1 1 [.string s7] (by rfl) rfl NX7.out (by intro u hu; simp at hu; subst hu; rfl) (by unfold maxLen; omega) (by omega) (by simp; omega) ?_; intro v8 w8 hown8 hgrow8; obtain ⟨g8, c8, rfl⟩ := own_slice' hown8; have S8 : Hid (BSt w c nb u4.heap.size u4.heap.size (.slice (some ⟨g, 0, none⟩) n cp) n (10 + (h5 : Int)) 0 ⟨some ⟨g6, 0, none⟩, xl + 1, c6⟩ ⟨some ⟨g8, 0, none⟩, yl + 1, c8⟩ (w8.setCell ⟨u4.heap.size, 3, none⟩ (.slice (some ⟨g8, 0, none⟩) (yl + 1) c8))) := BSt.putS (y := ⟨ya, yl, yc⟩) (y' := ⟨some ⟨g8, 0, none⟩, yl + 1, c8⟩) (ss := ss) (z := s7) (S7d.out.alloc HC.out _) HC.out HSS7.out HNN7.out (by omega) (by rw [List.map_append]; exact hown8) hgrow8; obtain ⟨q8, f8⟩ := box_grownS S7d.out HSS7.out hgrow8; clear hown8 hgrow8)
                all_goals
                  go_wp2_with fail
                  go_roundw
                  case rel => exact ⟨k + 1, _, _, hkr, by go_num, S8.out, by show xl + 1 = k + 1; have := HXK.out.1; omega, by show yl + 1 = k + 1; have := HXK.out.2; omega⟩
                  case measure => simp [intOf]; omega
            · have hki : ¬ ((k : Int) < (r : Int)) := by omega
              have hb0 : wr.cell? ⟨u4.heap.size, 0, none⟩ = some (.int .i64 (10 + (h5 : Int))) := by rw [cell_of_row wr _ 0 _ _ _ S.out.1.b]; rfl
              have hb1 : wr.cell? ⟨u4.heap.size, 1, none⟩ = some (.int .i64 0) := by rw [cell_of_row wr _ 1 _ _ _ S.out.1.b]; rfl
              have hb3 : wr.cell? ⟨u4.heap.size, 3, none⟩ = some (.slice ya yl yc) := by rw [cell_of_row wr _ 3 _ _ _ S.out.1.b]; rfl
              clear SB0 S4
              have HSH : Hid ((xl) ≤ 5000 ∧ (yl) ≤ 5000) := ⟨by have : xl = k := S.out.2.1; omega, by have : yl = k := S.out.2.2; omega⟩
              have SB := S.out.1.alloc HC.out (.cells #[.int .i64 (10 + (h5 : Int)), .int .i64 0, .slice xa xl xc, .slice ya yl yc] 31)
              have HSB : Hid _ := SB
              obtain ⟨cs, V, S5, hT⟩ := SB.t
              have HT9 : Hid (TyL w.heap.size u4.heap.size (wr.alloc (.cells #[.int .i64 (10 + (h5 : Int)), .int .i64 0, .slice xa xl xc, .slice ya yl yc] 31)) (.slice (some ⟨g, 0, none⟩) n cp) n cs V S5) := hT
              have HOWN : Hid ((wr.alloc (.cells #[.int .i64 (10 + (h5 : Int)), .int .i64 0, .slice xa xl xc, .slice ya yl yc] 31)).ownsRow w.heap.size 31 4 (.slice (some ⟨g, 0, none⟩) n cp) n cs) := hT.own
              have HSZ : Hid (w.heap.size ≤ wr.heap.size) := S.out.1.o.size
              have NX : Hid (∀ j u, [.int .i64 (10 + (h5 : Int)), .int .i64 0, .slice xa xl xc, .slice ya yl yc][j]? = some u → (wr.alloc (.cells #[.int .i64 (10 + (h5 : Int)), .int .i64 0, .slice xa xl xc, .slice ya yl yc] 31)).cell? ((⟨wr.heap.size, 0, none⟩ : Addr).add j) = some u) := ty_new4 wr _ _ _ _
              clear hT SB
              go_wp2_with (at_builtin; refine wpList_append_own _ rfl (.tmp 127) (.tmp 129) 23 rfl w.heap.size 31 i0 (.agg #[.int .i64 0, .int .i64 0, .slice none 0 0, .slice none 0 0]) 4 64 Tryz.underlying23 HI.out.1 HI.out.2.1 HI.out.2.2.1 HI.out.2.2.2 rfl (by decide) (.slice (some ⟨g, 0, none⟩) n cp) n cs rfl HOWN.out ⟨wr.heap.size, 0, none⟩ 1 1 [.int .i64 (10 + (h5 : Int)), .int .i64 0, .slice xa xl xc, .slice ya yl yc] rfl rfl ?n1 (by intro u hu; simp at hu; rcases hu with rfl | rfl | rfl | rfl <;> rfl) (by unfold maxLen; omega) (by omega) (by have := HSZ.out; simp; omega) ?_; (case n1 => exact NX.out); intro v6 w6 hown6 hgrow6 _; refine Hid.out ?_)
              have S7 : Hid (ESt w c nb v6 (n + 1) w6) := BSt.close HSB.out HC.out ⟨cs, V, S5, HT9.out, hown6⟩ hgrow6 HSH.out
              clear hown6 hgrow6 HOWN NX HT9 HSB HSZ S HSH
              unfold Hid
              go_wp2_with fail
              go_roundw
              case rel => exact ⟨n + 1, m + 1, _, hlt, by have := HNM.out; omega, rfl, by go_num, S7.out⟩
              case measure => simp [intOf]; omega
        · have hi2 : ¬ ((m : Int) < 1 + (d : Int)) := by omega
          by_cases h200 : 200 ≤ kk
          · have g200 : (200 : Int) ≤ (kk : Int) := by omega
            have k199 : ((kk : Int) == 199) = false := by rw [beq_eq_false_iff_ne]; omega
            have k198 : ((kk : Int) == 198) = false := by rw [beq_eq_false_iff_ne]; omega
            have k197 : ((kk : Int) == 197) = false := by rw [beq_eq_false_iff_ne]; omega
            have k196 : ((kk : Int) == 196) = false := by rw [beq_eq_false_iff_ne]; omega
            obtain ⟨g, cp, rfl⟩ : ∃ g cp, v = .slice (some ⟨g, 0, none⟩) n cp := by
              obtain ⟨cs, V, S, hT⟩ := S2.out.d.t
              rcases hT.own.2 with ⟨_, q⟩ | ⟨g, cap, cur, q, _⟩
              · omega
              · exact ⟨g, cap, q⟩
            go_wp2_with fail
            refine (l7Spoil_any HC.out (by omega) hnL S2.out).mono ?_
            rintro e u6 ⟨rfl, hD6, hR6, hO6⟩
            have HD6 : Hid (TDrawn w.heap.size u6 (.slice (some ⟨g, 0, none⟩) n cp) n ∧ RdOk u6 c ∧ OnlyL c w u6) := ⟨hD6, hR6, hO6⟩
            clear hD6 hR6 hO6 S2
            go_wp2_with fail
            go_ret
            first | exact ⟨_, rfl, n, by omega, by omega, HD6.out.1, HD6.out.2.1, HD6.out.2.2⟩ | exact ⟨_, n, rfl, by omega, by omega, HD6.out.1, HD6.out.2.1, HD6.out.2.2⟩
          have g200 : ¬ ((200 : Int) ≤ (kk : Int)) := by omega
          by_cases h199 : kk = 199
          · have k199 : ((kk : Int) == 199) = true := by rw [h199]; rfl
            have k198 : ((kk : Int) == 198) = false := by rw [beq_eq_false_iff_ne]; omega
            have k197 : ((kk : Int) == 197) = false := by rw [beq_eq_false_iff_ne]; omega
            have k196 : ((kk : Int) == 196) = false := by rw [beq_eq_false_iff_ne]; omega
            clear h199
            obtain ⟨u4, hu4⟩ : ∃ u4, u4 = wr := ⟨_, rfl⟩
            subst hu4
            obtain ⟨g, cp, rfl⟩ : ∃ g cp, v = .slice (some ⟨g, 0, none⟩) n cp := by
              obtain ⟨cs, V, S, hT⟩ := S2.out.d.t
              rcases hT.own.2 with ⟨_, q⟩ | ⟨g, cap, cur, q, _⟩
              · omega
              · exact ⟨g, cap, q⟩
            have hgY : g < u4.heap.size := by
              obtain ⟨cs, V, S, hT⟩ := S2.out.d.t
              exact (hT.own.lt g rfl).2
            have SB0 : Hid (BSt w c nb u4.heap.size (u4.heap.size + 1) (.slice (some ⟨g, 0, none⟩) n cp) n 12 0 ⟨some ⟨u4.heap.size, 0, none⟩, 1, 1⟩ ⟨none, 0, 0⟩ ((u4.alloc (.cells #[.int .i64 5] 3)).alloc (.cells #[.int .i64 12, .int .i64 0, .slice (some ⟨u4.heap.size, 0, none⟩) 1 1, .slice none 0 0] 31))) := by
              have o2 : OnlyL c u4 ((u4.alloc (.cells #[.int .i64 5] 3)).alloc (.cells #[.int .i64 12, .int .i64 0, .slice (some ⟨u4.heap.size, 0, none⟩) 1 1, .slice none 0 0] 31)) := (OnlyL.of_below (below_alloc u4 _)).trans (OnlyL.of_below (below_alloc _ _))
              refine ⟨S2.out.d.t.only o2 HC.out, (S2.out.d.r.alloc _).alloc _, S2.out.d.o.trans o2, S2.out.l, S2.out.m.only o2 (by have := S2.out.l; have := HC.out; omega), ⟨S2.out.d.o.size, Nat.le_succ _⟩, fun q hq => by simp [Value.ownBlock] at hq; omega, by have := heap_alloc_new (u4.alloc (.cells #[.int .i64 5] 3)) (.cells #[.int .i64 12, .int .i64 0, .slice (some ⟨u4.heap.size, 0, none⟩) 1 1, .slice none 0 0] 31); rw [show (u4.alloc (.cells #[.int .i64 5] 3)).heap.size = u4.heap.size + 1 by simp] at this; exact this, ⟨[5], own_one (((below_alloc (u4.alloc (.cells #[.int .i64 5] 3)) (.cells #[.int .i64 12, .int .i64 0, .slice (some ⟨u4.heap.size, 0, none⟩) 1 1, .slice none 0 0] 31)).block _ (by simp)).trans (heap_alloc_new u4 _)) (Nat.le_refl _) (small_wf (by decide))⟩, ⟨[], own_noneS _ _⟩⟩
            clear S2
            go_wp2_with fail
            go_loopw [16] (fun t wr => ∃ (k : Nat) (x : SV), k ≤ 9 ∧ t = .int .i64 (k : Int) ∧ Hid (BSt w c nb u4.heap.size (u4.heap.size + 1) (.slice (some ⟨g, 0, none⟩) n cp) n 12 0 x ⟨none, 0, 0⟩ wr ∧ x.len = k + 1)) (fun t _ => 10 - (intOf t).toNat)
            case atStart => exact ⟨0, _, Nat.zero_le _, rfl, SB0.out, rfl⟩
            case round =>
              clear SB0
              obtain ⟨k, x, hk, rfl, S0⟩ := hrel
              obtain ⟨xa, xl, xc⟩ := x
              go_wp2_with fail
              refine (next_onlyL _ c S0.out.1.r).mono ?_
              rintro e u5 ⟨px, rfl, hpx, r4, o4⟩
              have S : Hid (BSt w c nb u4.heap.size (u4.heap.size + 1) (.slice (some ⟨g, 0, none⟩) n cp) n 12 0 ⟨xa, xl, xc⟩ ⟨none, 0, 0⟩ u5 ∧ xl = k + 1) := ⟨S0.out.1.next HC.out r4 o4, S0.out.2⟩
              clear r4 o4 S0
              have hxl : xl ≤ 20 := by have : xl = k + 1 := S.out.2; omega
              have hb2 : u5.cell? ⟨u4.heap.size + 1, 2, none⟩ = some (.slice xa xl xc) := by rw [cell_of_row u5 _ 2 _ _ _ S.out.1.b]; rfl
              have hbf : ∀ j, u5.frozen? ⟨u4.heap.size + 1, j, none⟩ = false := fun j => frozen_of_row u5 _ j _ _ S.out.1.b
              have hbz : u4.heap.size + 1 < u5.heap.size := (Array.getElem?_eq_some_iff.1 S.out.1.b).1
              obtain ⟨z, hz, hz1⟩ : ∃ z : Nat, ((px : Int).tmod 2) = (z : Int) ∧ z ≤ 1 := ⟨px % 2, by rw [Int.tmod_eq_emod_of_nonneg (by omega)]; omega, by omega⟩
              have hze : ((px : Int) % 2) = (z : Int) := by rw [← hz, Int.tmod_eq_emod_of_nonneg (by omega)]
              by_cases hlt : k < 8 + z
              · have hli : (k : Int) < 8 + (z : Int) := by omega
                obtain ⟨zs, hzs⟩ := S.out.1.xi
                have HZS5 : Hid (Own .i64 3 u4.heap.size (u5.alloc (.cells #[.int .i64 5] 3)) xa xl xc zs) := ⟨hzs.1.alloc _, hzs.2⟩
                have HOWN5 : Hid ((u5.alloc (.cells #[.int .i64 5] 3)).ownsRow u4.heap.size 3 1 (.slice xa xl xc) xl (zs.map (Value.int .i64))) := hzs.1.alloc _
                have NX5 : Hid _ := int_new1' u5 (.int .i64 5)
                clear hzs
                go_wp2_with (at_builtin; refine wpList_append_own _ rfl (.tmp 149) (.tmp 150) 28 rfl u4.heap.size 3 i3 (.int .i64 0) 1 8 Tryz.underlying28 HI3.out.1 HI3.out.2.1 HI3.out.2.2.1 HI3.out.2.2.2 rfl (by decide) (.slice xa xl xc) xl (zs.map (Value.int .i64)) rfl HOWN5.out ⟨u5.heap.size, 0, none⟩ 1 1 [.int .i64 5] rfl rfl ?n1 (by intro u hu; simp at hu; subst hu; rfl) (by unfold maxLen; omega) (by omega) (by simp; omega) ?_; (case n1 => exact NX5.out); intro v6 w6 hown6 hgrow6 _; refine Hid.out ?_)
                obtain ⟨g6, c6, rfl⟩ := own_slice' hown6
                have S7 : Hid (BSt w c nb u4.heap.size (u4.heap.size + 1) (.slice (some ⟨g, 0, none⟩) n cp) n 12 0 ⟨some ⟨g6, 0, none⟩, xl + 1, c6⟩ ⟨none, 0, 0⟩ (w6.setCell ⟨u4.heap.size + 1, 2, none⟩ (.slice (some ⟨g6, 0, none⟩) (xl + 1) c6))) := BSt.putI (x := ⟨xa, xl, xc⟩) (x' := ⟨some ⟨g6, 0, none⟩, xl + 1, c6⟩) (zs := zs) (z := 5) (S.out.1.alloc HC.out _) HC.out HZS5.out (small_wf (by decide)) (by rw [List.map_append]; exact hown6) hgrow6
                obtain ⟨q6, f6⟩ := box_grown S.out.1 HZS5.out hgrow6
                change w6.cell? _ = some (.slice xa xl xc) at q6
                clear hown6 hgrow6 HOWN5 HZS5 NX5
                unfold Hid
                go_wp2_with fail
                go_roundw
                case rel => exact ⟨k + 1, _, by omega, by go_num, S7.out, by show xl + 1 = k + 1 + 1; have : xl = k + 1 := S.out.2; omega⟩
                case measure => simp [intOf]; omega
              · have hli : ¬ ((k : Int) < 8 + (z : Int)) := by omega
                have hb0 : u5.cell? ⟨u4.heap.size + 1, 0, none⟩ = some (.int .i64 12) := by rw [cell_of_row u5 _ 0 _ _ _ S.out.1.b]; rfl
                have hb1 : u5.cell? ⟨u4.heap.size + 1, 1, none⟩ = some (.int .i64 0) := by rw [cell_of_row u5 _ 1 _ _ _ S.out.1.b]; rfl
                have hb3 : u5.cell? ⟨u4.heap.size + 1, 3, none⟩ = some (.slice none 0 0) := by rw [cell_of_row u5 _ 3 _ _ _ S.out.1.b]; rfl
                have HSH : Hid ((xl) ≤ 5000 ∧ (0) ≤ 5000) := ⟨by have : xl = k + 1 := S.out.2; omega, by simp⟩
                have SB := S.out.1.alloc HC.out (.cells #[.int .i64 12, .int .i64 0, .slice xa xl xc, .slice none 0 0] 31)
                have HSB : Hid _ := SB
                obtain ⟨cs, V, S5, hT⟩ := SB.t
                have HT9 : Hid (TyL w.heap.size u4.heap.size (u5.alloc (.cells #[.int .i64 12, .int .i64 0, .slice xa xl xc, .slice none 0 0] 31)) (.slice (some ⟨g, 0, none⟩) n cp) n cs V S5) := hT
                have HOWN : Hid ((u5.alloc (.cells #[.int .i64 12, .int .i64 0, .slice xa xl xc, .slice none 0 0] 31)).ownsRow w.heap.size 31 4 (.slice (some ⟨g, 0, none⟩) n cp) n cs) := hT.own
                have HSZ : Hid (w.heap.size ≤ u5.heap.size) := S.out.1.o.size
                have NX : Hid (∀ j u, [.int .i64 12, .int .i64 0, .slice xa xl xc, .slice none 0 0][j]? = some u → (u5.alloc (.cells #[.int .i64 12, .int .i64 0, .slice xa xl xc, .slice none 0 0] 31)).cell? ((⟨u5.heap.size, 0, none⟩ : Addr).add j) = some u) := ty_new4 u5 _ _ _ _
                clear hT SB
                go_wp2_with (at_builtin; refine wpList_append_own _ rfl (.tmp 153) (.tmp 155) 23 rfl w.heap.size 31 i0 (.agg #[.int .i64 0, .int .i64 0, .slice none 0 0, .slice none 0 0]) 4 64 Tryz.underlying23 HI.out.1 HI.out.2.1 HI.out.2.2.1 HI.out.2.2.2 rfl (by decide) (.slice (some ⟨g, 0, none⟩) n cp) n cs rfl HOWN.out ⟨u5.heap.size, 0, none⟩ 1 1 [.int .i64 12, .int .i64 0, .slice xa xl xc, .slice none 0 0] rfl rfl ?n1 (by intro u hu; simp at hu; rcases hu with rfl | rfl | rfl | rfl <;> rfl) (by unfold maxLen; omega) (by omega) (by have := HSZ.out; simp; omega) ?_; (case n1 => exact NX.out); intro v6 w6 hown6 hgrow6 _; refine Hid.out ?_)
                have S7 : Hid (ESt w c nb v6 (n + 1) w6) := BSt.close HSB.out HC.out ⟨cs, V, S5, HT9.out, hown6⟩ hgrow6 HSH.out
                clear hown6 hgrow6 HOWN NX HT9 HSB HSZ S HSH
                unfold Hid
                go_wp2_with fail
                go_ret
                first | exact ⟨_, rfl, n + 1, by omega, by omega, S7.out.d.t.drawn, S7.out.d.r, S7.out.d.o⟩ | exact ⟨_, n + 1, rfl, by omega, by omega, S7.out.d.t.drawn, S7.out.d.r, S7.out.d.o⟩
          have n199 : ((kk : Int) == 199) = false := by rw [beq_eq_false_iff_ne]; omega
          by_cases h198 : kk = 198
          · have k198 : ((kk : Int) == 198) = true := by rw [h198]; rfl
            have k197 : ((kk : Int) == 197) = false := by rw [beq_eq_false_iff_ne]; omega
            have k196 : ((kk : Int) == 196) = false := by rw [beq_eq_false_iff_ne]; omega
            clear h198
            obtain ⟨u4, hu4⟩ : ∃ u4, u4 = wr := ⟨_, rfl⟩
            subst hu4
            obtain ⟨g, cp, rfl⟩ : ∃ g cp, v = .slice (some ⟨g, 0, none⟩) n cp := by
              obtain ⟨cs, V, S, hT⟩ := S2.out.d.t
              rcases hT.own.2 with ⟨_, q⟩ | ⟨g, cap, cur, q, _⟩
              · omega
              · exact ⟨g, cap, q⟩
            have hgY : g < u4.heap.size := by
              obtain ⟨cs, V, S, hT⟩ := S2.out.d.t
              exact (hT.own.lt g rfl).2
            have hnb4 : nb < u4.heap.size := (Array.getElem?_eq_some_iff.1 S2.out.m).1
            have SB0 : Hid (BSt w c nb u4.heap.size u4.heap.size (.slice (some ⟨g, 0, none⟩) n cp) n 10 0 ⟨none, 0, 0⟩ ⟨none, 0, 0⟩ (u4.alloc (.cells #[.int .i64 10, .int .i64 0, .slice none 0 0, .slice none 0 0] 31))) := by
              have o2 : OnlyL c u4 (u4.alloc (.cells #[.int .i64 10, .int .i64 0, .slice none 0 0, .slice none 0 0] 31)) := OnlyL.of_below (below_alloc u4 _)
              refine ⟨S2.out.d.t.only o2 HC.out, S2.out.d.r.alloc _, S2.out.d.o.trans o2, S2.out.l, S2.out.m.only o2 (by have := S2.out.l; have := HC.out; omega), ⟨S2.out.d.o.size, Nat.le_refl _⟩, fun q hq => by simp [Value.ownBlock] at hq; omega, heap_alloc_new u4 _, ⟨[], own_noneI _ _⟩, ⟨[], own_noneS _ _⟩⟩
            clear S2
            go_wp2_with fail
            go_loopw [18] (fun t wr => ∃ (k : Nat) (x y : SV), k ≤ 101 ∧ t = .int .i64 (k : Int) ∧ Hid (BSt w c nb u4.heap.size u4.heap.size (.slice (some ⟨g, 0, none⟩) n cp) n 10 0 x y wr ∧ x.len = k ∧ y.len = k)) (fun t _ => 102 - (intOf t).toNat)
            case atStart => exact ⟨0, _, _, Nat.zero_le _, rfl, SB0.out, rfl, rfl⟩
            case round =>
              clear SB0
              obtain ⟨k, x, y, hk, rfl, S0⟩ := hrel
              obtain ⟨xa, xl, xc⟩ := x
              obtain ⟨ya, yl, yc⟩ := y
              go_wp2_with fail
              refine (next_onlyL _ c S0.out.1.r).mono ?_
              rintro e u5 ⟨px, rfl, hpx, r4, o4⟩
              have S : Hid (BSt w c nb u4.heap.size u4.heap.size (.slice (some ⟨g, 0, none⟩) n cp) n 10 0 ⟨xa, xl, xc⟩ ⟨ya, yl, yc⟩ u5 ∧ xl = k ∧ yl = k) := ⟨S0.out.1.next HC.out r4 o4, S0.out.2⟩
              clear r4 o4 S0
              have hxl : xl ≤ 120 := by have : xl = k := S.out.2.1; omega
              have hyl : yl ≤ 120 := by have : yl = k := S.out.2.2; omega
              have hb2 : u5.cell? ⟨u4.heap.size, 2, none⟩ = some (.slice xa xl xc) := by rw [cell_of_row u5 _ 2 _ _ _ S.out.1.b]; rfl
              have hbf : ∀ j, u5.frozen? ⟨u4.heap.size, j, none⟩ = false := fun j => frozen_of_row u5 _ j _ _ S.out.1.b
              have hbz : u4.heap.size < u5.heap.size := (Array.getElem?_eq_some_iff.1 S.out.1.b).1
              obtain ⟨z, hz, hz1⟩ : ∃ z : Nat, ((px : Int).tmod 2) = (z : Int) ∧ z ≤ 1 := ⟨px % 2, by rw [Int.tmod_eq_emod_of_nonneg (by omega)]; omega, by omega⟩
              have hze : ((px : Int) % 2) = (z : Int) := by rw [← hz, Int.tmod_eq_emod_of_nonneg (by omega)]
              by_cases hlt : k < 100 + z
              · have hli : (k : Int) < 100 + (z : Int) := by omega
                obtain ⟨zs, hzs⟩ := S.out.1.xi
                have HZS5 : Hid (Own .i64 3 u4.heap.size (u5.alloc (.cells #[.int .i64 1] 3)) xa xl xc zs) := ⟨hzs.1.alloc _, hzs.2⟩
                have HOWN5 : Hid ((u5.alloc (.cells #[.int .i64 1] 3)).ownsRow u4.heap.size 3 1 (.slice xa xl xc) xl (zs.map (Value.int .i64))) := hzs.1.alloc _
                have NX5 : Hid _ := int_new1' u5 (.int .i64 1)
                clear hzs
                go_wp2_with (at_builtin; refine wpList_append_own _ rfl (.tmp 169) (.tmp 170) 28 rfl u4.heap.size 3 i3 (.int .i64 0) 1 8 Tryz.underlying28 HI3.out.1 HI3.out.2.1 HI3.out.2.2.1 HI3.out.2.2.2 rfl (by decide) (.slice xa xl xc) xl (zs.map (Value.int .i64)) rfl HOWN5.out ⟨u5.heap.size, 0, none⟩ 1 1 [.int .i64 1] rfl rfl ?n1 (by intro u hu; simp at hu; subst hu; rfl) (by unfold maxLen; omega) (by omega) (by simp; omega) ?_; (case n1 => exact NX5.out); intro v6 w6 hown6 hgrow6 _; refine Hid.out ?_)
                obtain ⟨g6, c6, rfl⟩ := own_slice' hown6
                have S7 : Hid (BSt w c nb u4.heap.size u4.heap.size (.slice (some ⟨g, 0, none⟩) n cp) n 10 0 ⟨some ⟨g6, 0, none⟩, xl + 1, c6⟩ ⟨ya, yl, yc⟩ (w6.setCell ⟨u4.heap.size, 2, none⟩ (.slice (some ⟨g6, 0, none⟩) (xl + 1) c6))) := BSt.putI (x := ⟨xa, xl, xc⟩) (x' := ⟨some ⟨g6, 0, none⟩, xl + 1, c6⟩) (zs := zs) (z := 1) (S.out.1.alloc HC.out _) HC.out HZS5.out (small_wf (by decide)) (by rw [List.map_append]; exact hown6) hgrow6
                obtain ⟨q6, f6⟩ := box_grown S.out.1 HZS5.out hgrow6
                change w6.cell? _ = some (.slice xa xl xc) at q6
                have HXK : Hid (xl = k ∧ yl = k) := S.out.2
                clear hown6 hgrow6 HOWN5 HZS5 NX5 S hb2 hbf hbz
                unfold Hid
                go_wp2_with fail
                clear q6 f6
                generalize w6.setCell ⟨u4.heap.size, 2, none⟩ (.slice (some ⟨g6, 0, none⟩) (xl + 1) c6) = u7 at S7 ⊢
                have b7 : u7.cell? ⟨u4.heap.size, 3, none⟩ = some (.slice ya yl yc) := by rw [cell_of_row u7 _ 3 _ _ _ S7.out.b]; rfl
                have f7 : ∀ j, u7.frozen? ⟨u4.heap.size, j, none⟩ = false := fun j => frozen_of_row u7 _ j _ _ S7.out.b
                have z7 : u4.heap.size < u7.heap.size := (Array.getElem?_eq_some_iff.1 S7.out.b).1
                have hkn : (Pl.num (k : Int)).size ≤ 20 := Pl.num_size (by omega)
                go_region_law (first | (refine step_append_own rfl (.tmp 174) (.tmp 178) 29 rfl u4.heap.size 9 i9 (.string ByteArray.empty) 1 16 Tryz.underlying29 HI9.out.1 HI9.out.2.1 HI9.out.2.2.1 HI9.out.2.2.2 rfl (by decide) (.slice ya yl yc) yl (ss.map Value.string) (by rfl) HOWN7.out ⟨u8.heap.size, 0, none⟩ 1 1 [.string s8] (by rfl) rfl NX7.out (by intro u hu; simp at hu; subst hu; rfl) (by unfold maxLen; omega) (by omega) (by simp; omega) ?_; intro v8 w8 hown8 hgrow8; obtain ⟨g8, c8, rfl⟩ := own_slice' hown8; have S9 : Hid (BSt w c nb u4.heap.size u4.heap.size (.slice (some ⟨g, 0, none⟩) n cp) n 10 0 ⟨some ⟨g6, 0, none⟩, xl + 1, c6⟩ ⟨some ⟨g8, 0, none⟩, yl + 1, c8⟩ (w8.setCell ⟨u4.heap.size, 3, none⟩ (.slice (some ⟨g8, 0, none⟩) (yl + 1) c8))) := BSt.putS (y := ⟨ya, yl, yc⟩) (y' := ⟨some ⟨g8, 0, none⟩, yl + 1, c8⟩) (ss := ss) (z := s8) (S8.out.alloc HC.out _) HC.out HSS7.out HNN7.out hsz8 (by rw [List.map_append]; exact hown8) hgrow8; obtain ⟨q8, f8⟩ := box_grownS S8.out HSS7.out hgrow8; clear hown8 hgrow8) | (go_simp; go_at_call 64; refine (specDecN_any _ (by omega) _).mono ?_; rintro e u8 ⟨rfl, d8⟩; have S8 : Hid (BSt w c nb u4.heap.size u4.heap.size (.slice (some ⟨g, 0, none⟩) n cp) n 10 0 ⟨some ⟨g6, 0, none⟩, xl + 1, c6⟩ ⟨ya, yl, yc⟩ u8) := S7.out.next HC.out (RdOk.below S7.out.r ((Below.drew (Below.refl u7.heap.size u7)).trans d8)) (OnlyL.of_below ((Below.drew (Below.refl u7.heap.size u7)).trans d8)); obtain ⟨ss, hss⟩ := S8.out.yi; obtain ⟨s8, hs8⟩ : ∃ s8, s8 = (⟨#[102]⟩ : ByteArray) ++ Pl.num (k : Int) := ⟨_, rfl⟩; have hadd : ∀ w : World, (binOp .add 9 (.string ⟨#[102]⟩) (.string (Pl.num (k : Int)))).run Tryz.prog w = .ok (.string s8) w := (fun w => by rw [hs8]; exact add_f _ hkn w); have hs8r : (⟨#[102]⟩ : ByteArray) ++ Pl.num (k : Int) = s8 := hs8.symm; have hk9 : ¬ 9223372036854775807 < 1 + (Pl.num (k : Int)).size := (by omega); have hf1 : (⟨#[102]⟩ : ByteArray).size = 1 := rfl; have hsz8 : s8.size ≤ 1048576 := (by rw [hs8, ByteArray.size_append]; have : (⟨#[102]⟩ : ByteArray).size = 1 := rfl; omega); have HSS7 : Hid (OwnS u4.heap.size (u8.alloc (.cells #[.string s8] 9)) ⟨ya, yl, yc⟩ ss) := ⟨hss.1.alloc _, hss.2⟩; have HOWN7 : Hid ((u8.alloc (.cells #[.string s8] 9)).ownsRow u4.heap.size 9 1 (.slice ya yl yc) yl (ss.map Value.string)) := hss.1.alloc _; have NX7 : Hid _ := str_new1 u8 (.string s8); have HNN7 : Hid (some nb ≠ (SV.val ⟨ya, yl, yc⟩).ownBlock) := (fun e => by have := blk_ge hss.1 nb e.symm; omega); have b8 : u8.cell? ⟨u4.heap.size, 3, none⟩ = some (.slice ya yl yc) := (by rw [cell_of_row u8 _ 3 _ _ _ S8.out.b]; rfl); have z8 : u4.heap.size < u8.heap.size := (Array.getElem?_eq_some_iff.1 S8.out.b).1; clear hss d8 hs8))
                all_goals
                  go_wp2_with fail
                  go_roundw
                  case rel => exact ⟨k + 1, _, _, by omega, by go_num, S9.out, by show xl + 1 = k + 1; have := HXK.out.1; omega, by show yl + 1 = k + 1; have := HXK.out.2; omega⟩
                  case measure => simp [intOf]; omega
              · have hli : ¬ ((k : Int) < 100 + (z : Int)) := by omega
                have hb0 : u5.cell? ⟨u4.heap.size, 0, none⟩ = some (.int .i64 10) := by rw [cell_of_row u5 _ 0 _ _ _ S.out.1.b]; rfl
                have hb1 : u5.cell? ⟨u4.heap.size, 1, none⟩ = some (.int .i64 0) := by rw [cell_of_row u5 _ 1 _ _ _ S.out.1.b]; rfl
                have hb3 : u5.cell? ⟨u4.heap.size, 3, none⟩ = some (.slice ya yl yc) := by rw [cell_of_row u5 _ 3 _ _ _ S.out.1.b]; rfl
                have HSH : Hid ((xl) ≤ 5000 ∧ (yl) ≤ 5000) := ⟨by have : xl = k := S.out.2.1; omega, by have : yl = k := S.out.2.2; omega⟩
                have SB := S.out.1.alloc HC.out (.cells #[.int .i64 10, .int .i64 0, .slice xa xl xc, .slice ya yl yc] 31)
                have HSB : Hid _ := SB
                obtain ⟨cs, V, S5, hT⟩ := SB.t
                have HT9 : Hid (TyL w.heap.size u4.heap.size (u5.alloc (.cells #[.int .i64 10, .int .i64 0, .slice xa xl xc, .slice ya yl yc] 31)) (.slice (some ⟨g, 0, none⟩) n cp) n cs V S5) := hT
                have HOWN : Hid ((u5.alloc (.cells #[.int .i64 10, .int .i64 0, .slice xa xl xc, .slice ya yl yc] 31)).ownsRow w.heap.size 31 4 (.slice (some ⟨g, 0, none⟩) n cp) n cs) := hT.own
                have HSZ : Hid (w.heap.size ≤ u5.heap.size) := S.out.1.o.size
                have NX : Hid (∀ j u, [.int .i64 10, .int .i64 0, .slice xa xl xc, .slice ya yl yc][j]? = some u → (u5.alloc (.cells #[.int .i64 10, .int .i64 0, .slice xa xl xc, .slice ya yl yc] 31)).cell? ((⟨u5.heap.size, 0, none⟩ : Addr).add j) = some u) := ty_new4 u5 _ _ _ _
                clear hT SB
                go_wp2_with (at_builtin; refine wpList_append_own _ rfl (.tmp 181) (.tmp 183) 23 rfl w.heap.size 31 i0 (.agg #[.int .i64 0, .int .i64 0, .slice none 0 0, .slice none 0 0]) 4 64 Tryz.underlying23 HI.out.1 HI.out.2.1 HI.out.2.2.1 HI.out.2.2.2 rfl (by decide) (.slice (some ⟨g, 0, none⟩) n cp) n cs rfl HOWN.out ⟨u5.heap.size, 0, none⟩ 1 1 [.int .i64 10, .int .i64 0, .slice xa xl xc, .slice ya yl yc] rfl rfl ?n1 (by intro u hu; simp at hu; rcases hu with rfl | rfl | rfl | rfl <;> rfl) (by unfold maxLen; omega) (by omega) (by have := HSZ.out; simp; omega) ?_; (case n1 => exact NX.out); intro v6 w6 hown6 hgrow6 _; refine Hid.out ?_)
                have S7 : Hid (ESt w c nb v6 (n + 1) w6) := BSt.close HSB.out HC.out ⟨cs, V, S5, HT9.out, hown6⟩ hgrow6 HSH.out
                clear hown6 hgrow6 HOWN NX HT9 HSB HSZ S HSH
                unfold Hid
                go_wp2_with fail
                go_ret
                first | exact ⟨_, rfl, n + 1, by omega, by omega, S7.out.d.t.drawn, S7.out.d.r, S7.out.d.o⟩ | exact ⟨_, n + 1, rfl, by omega, by omega, S7.out.d.t.drawn, S7.out.d.r, S7.out.d.o⟩
          have n198 : ((kk : Int) == 198) = false := by rw [beq_eq_false_iff_ne]; omega
          by_cases h197 : kk = 197
          · have k197 : ((kk : Int) == 197) = true := by rw [h197]; rfl
            have k196 : ((kk : Int) == 196) = false := by rw [beq_eq_false_iff_ne]; omega
            clear h197
            obtain ⟨g, cp, rfl⟩ : ∃ g cp, v = .slice (some ⟨g, 0, none⟩) n cp := by
              obtain ⟨cs, V, S, hT⟩ := S2.out.d.t
              rcases hT.own.2 with ⟨_, q⟩ | ⟨g, cap, cur, q, _⟩
              · omega
              · exact ⟨g, cap, q⟩
            go_wp2_with fail
            go_loopw [4] (fun v wr => ∃ (n : Nat) (g cp : Nat), 7 ≤ n ∧ n ≤ 2001 ∧ v = .slice (some ⟨g, 0, none⟩) n cp ∧ Hid (ESt w c nb (.slice (some ⟨g, 0, none⟩) n cp) n wr)) (fun v _ => 2002 - lenOf v)
            case atStart => exact ⟨n, g, cp, hn0, by omega, rfl, S2.out⟩
            case round =>
              clear S2
              obtain ⟨n, g, cp, hn7, hn01, rfl, S2⟩ := hrel
              go_wp2_with fail
              refine (next_onlyL _ c S2.out.d.r).mono ?_
              rintro e u4 ⟨px, rfl, hpx, r4, o4⟩
              have S4 : Hid (ESt w c nb (.slice (some ⟨g, 0, none⟩) n cp) n u4) := S2.out.next HC.out r4 o4
              clear r4 o4 S2
              obtain ⟨z, hz, hz1⟩ : ∃ z : Nat, ((px : Int).tmod 2) = (z : Int) ∧ z ≤ 1 := ⟨px % 2, by rw [Int.tmod_eq_emod_of_nonneg (by omega)]; omega, by omega⟩
              have hze : ((px : Int) % 2) = (z : Int) := by rw [← hz, Int.tmod_eq_emod_of_nonneg (by omega)]
              by_cases hlt : n < 2000 + z
              · have hli : (n : Int) < 2000 + (z : Int) := by omega
                have hwp : IntKind.i64.wrap ((n : Int) - 1) = (n : Int) - 1 := by rw [IntKind.wrap_i64]; omega
                have SA : Hid (ESt w c nb (.slice (some ⟨g, 0, none⟩) n cp) n ((u4.alloc (.cells #[.int .i64 ((n : Int) - 1)] 3)).alloc (.cells #[.int .i64 8, .int .i64 0, .slice (some ⟨u4.heap.size, 0, none⟩) 1 1, .slice none 0 0] 31))) := (S4.out.alloc HC.out _).alloc HC.out _
                obtain ⟨cs, V, S, hT⟩ := (S4.out.d.t.only ((OnlyL.of_below (below_alloc u4 (.cells #[.int .i64 ((n : Int) - 1)] 3))).trans (OnlyL.of_below (below_alloc (u4.alloc (.cells #[.int .i64 ((n : Int) - 1)] 3)) (.cells #[.int .i64 8, .int .i64 0, .slice (some ⟨u4.heap.size, 0, none⟩) 1 1, .slice none 0 0] 31)))) HC.out)
                have HT9 : Hid (TyL w.heap.size u4.heap.size ((u4.alloc (.cells #[.int .i64 ((n : Int) - 1)] 3)).alloc (.cells #[.int .i64 8, .int .i64 0, .slice (some ⟨u4.heap.size, 0, none⟩) 1 1, .slice none 0 0] 31)) (.slice (some ⟨g, 0, none⟩) n cp) n cs V S) := hT
                have HOWN : Hid (((u4.alloc (.cells #[.int .i64 ((n : Int) - 1)] 3)).alloc (.cells #[.int .i64 8, .int .i64 0, .slice (some ⟨u4.heap.size, 0, none⟩) 1 1, .slice none 0 0] 31)).ownsRow w.heap.size 31 4 (.slice (some ⟨g, 0, none⟩) n cp) n cs) := hT.own
                have HSZ : Hid (w.heap.size ≤ u4.heap.size) := S4.out.d.o.size
                have NX : Hid (∀ j u, [.int .i64 8, .int .i64 0, .slice (some ⟨u4.heap.size, 0, none⟩) 1 1, .slice none 0 0][j]? = some u → ((u4.alloc (.cells #[.int .i64 ((n : Int) - 1)] 3)).alloc (.cells #[.int .i64 8, .int .i64 0, .slice (some ⟨u4.heap.size, 0, none⟩) 1 1, .slice none 0 0] 31)).cell? ((⟨u4.heap.size + 1, 0, none⟩ : Addr).add j) = some u) := fun j u hj => by have := ty_new4 (u4.alloc (.cells #[.int .i64 ((n : Int) - 1)] 3)) _ _ _ _ j u hj; rw [show (u4.alloc (.cells #[.int .i64 ((n : Int) - 1)] 3)).heap.size = u4.heap.size + 1 by simp] at this; exact this
                have HX1 : Hid (Own .i64 3 w.heap.size ((u4.alloc (.cells #[.int .i64 ((n : Int) - 1)] 3)).alloc (.cells #[.int .i64 8, .int .i64 0, .slice (some ⟨u4.heap.size, 0, none⟩) 1 1, .slice none 0 0] 31)) (some ⟨u4.heap.size, 0, none⟩) 1 1 [((n : Int) - 1)]) := own_one (((below_alloc (u4.alloc (.cells #[.int .i64 ((n : Int) - 1)] 3)) (.cells #[.int .i64 8, .int .i64 0, .slice (some ⟨u4.heap.size, 0, none⟩) 1 1, .slice none 0 0] 31)).block _ (by simp)).trans (heap_alloc_new u4 _)) HSZ.out (small_wf (by omega))
                have HXS : Hid (u4.heap.size ≤ ((u4.alloc (.cells #[.int .i64 ((n : Int) - 1)] 3)).alloc (.cells #[.int .i64 8, .int .i64 0, .slice (some ⟨u4.heap.size, 0, none⟩) 1 1, .slice none 0 0] 31)).heap.size) := by show u4.heap.size ≤ ((u4.alloc (.cells #[.int .i64 ((n : Int) - 1)] 3)).alloc (.cells #[.int .i64 8, .int .i64 0, .slice (some ⟨u4.heap.size, 0, none⟩) 1 1, .slice none 0 0] 31)).heap.size; simp; omega
                clear hT
                go_wp2_with (at_builtin; refine wpList_append_own _ rfl (.tmp 194) (.tmp 200) 23 rfl w.heap.size 31 i0 (.agg #[.int .i64 0, .int .i64 0, .slice none 0 0, .slice none 0 0]) 4 64 Tryz.underlying23 HI.out.1 HI.out.2.1 HI.out.2.2.1 HI.out.2.2.2 rfl (by decide) (.slice (some ⟨g, 0, none⟩) n cp) n cs rfl HOWN.out ⟨u4.heap.size + 1, 0, none⟩ 1 1 [.int .i64 8, .int .i64 0, .slice (some ⟨u4.heap.size, 0, none⟩) 1 1, .slice none 0 0] rfl rfl ?n1 (by intro u hu; simp at hu; rcases hu with rfl | rfl | rfl | rfl <;> rfl) (by unfold maxLen; omega) (by omega) (by have := HSZ.out; simp; omega) ?_; (case n1 => exact NX.out); intro v6 w6 hown6 hgrow6 _; refine Hid.out ?_)
                have S7 : Hid (ESt w c nb v6 (n + 1) w6) := ESt.snoc (x := ⟨some ⟨u4.heap.size, 0, none⟩, 1, 1⟩) (y := ⟨none, 0, 0⟩) HC.out SA.out ⟨cs, V, S, HT9.out, hown6⟩ hgrow6 HX1.out (own_noneS _ _) HXS.out (fun b hb => by simp [SV.blk, Value.ownBlock] at hb; omega) (fun b hb => by cases hb)
                clear hown6 hgrow6 HOWN NX HT9 SA S4 HX1 HXS HSZ
                unfold Hid
                go_wp2_with fail
                go_roundw
                case rel =>
                  obtain ⟨g7, c7, e7⟩ : ∃ g cp, v6 = .slice (some ⟨g, 0, none⟩) (n + 1) cp := by
                    obtain ⟨cs, V, S, hT⟩ := S7.out.d.t
                    rcases hT.own.2 with ⟨_, q⟩ | ⟨g, cap, cur, q, _⟩
                    · omega
                    · exact ⟨g, cap, q⟩
                  subst e7
                  exact ⟨n + 1, g7, c7, by omega, by omega, rfl, S7.out⟩
                case measure =>
                  obtain ⟨g7, c7, e7⟩ : ∃ g cp, v6 = .slice (some ⟨g, 0, none⟩) (n + 1) cp := by
                    obtain ⟨cs, V, S, hT⟩ := S7.out.d.t
                    rcases hT.own.2 with ⟨_, q⟩ | ⟨g, cap, cur, q, _⟩
                    · omega
                    · exact ⟨g, cap, q⟩
                  subst e7
                  simp [lenOf]
                  omega
              · have hli : ¬ ((n : Int) < 2000 + (z : Int)) := by omega
                go_wp2_with fail
                go_ret
                first | exact ⟨_, rfl, n, by omega, by omega, S4.out.d.t.drawn, S4.out.d.r, S4.out.d.o⟩ | exact ⟨_, n, rfl, by omega, by omega, S4.out.d.t.drawn, S4.out.d.r, S4.out.d.o⟩
          have n197 : ((kk : Int) == 197) = false := by rw [beq_eq_false_iff_ne]; omega
          by_cases h196 : kk = 196
          · have k196 : ((kk : Int) == 196) = true := by rw [h196]; rfl
            clear h196
            obtain ⟨g, cp, rfl⟩ : ∃ g cp, v = .slice (some ⟨g, 0, none⟩) n cp := by
              obtain ⟨cs, V, S, hT⟩ := S2.out.d.t
              rcases hT.own.2 with ⟨_, q⟩ | ⟨g, cap, cur, q, _⟩
              · omega
              · exact ⟨g, cap, q⟩
            have SA : Hid (ESt w c nb (.slice (some ⟨g, 0, none⟩) n cp) n ((wr.alloc (.cells #[.int .i64 1] 3)).alloc (.cells #[.int .i64 9, .int .i64 59999, .slice (some ⟨wr.heap.size, 0, none⟩) 1 1, .slice none 0 0] 31))) := (S2.out.alloc HC.out _).alloc HC.out _
            obtain ⟨cs, V, S, hT⟩ := (S2.out.d.t.only ((OnlyL.of_below (below_alloc wr (.cells #[.int .i64 1] 3))).trans (OnlyL.of_below (below_alloc (wr.alloc (.cells #[.int .i64 1] 3)) (.cells #[.int .i64 9, .int .i64 59999, .slice (some ⟨wr.heap.size, 0, none⟩) 1 1, .slice none 0 0] 31)))) HC.out)
            have HT9 : Hid (TyL w.heap.size wr.heap.size ((wr.alloc (.cells #[.int .i64 1] 3)).alloc (.cells #[.int .i64 9, .int .i64 59999, .slice (some ⟨wr.heap.size, 0, none⟩) 1 1, .slice none 0 0] 31)) (.slice (some ⟨g, 0, none⟩) n cp) n cs V S) := hT
            have HOWN : Hid (((wr.alloc (.cells #[.int .i64 1] 3)).alloc (.cells #[.int .i64 9, .int .i64 59999, .slice (some ⟨wr.heap.size, 0, none⟩) 1 1, .slice none 0 0] 31)).ownsRow w.heap.size 31 4 (.slice (some ⟨g, 0, none⟩) n cp) n cs) := hT.own
            have HSZ : Hid (w.heap.size ≤ wr.heap.size) := S2.out.d.o.size
            have NX : Hid (∀ j u, [.int .i64 9, .int .i64 59999, .slice (some ⟨wr.heap.size, 0, none⟩) 1 1, .slice none 0 0][j]? = some u → ((wr.alloc (.cells #[.int .i64 1] 3)).alloc (.cells #[.int .i64 9, .int .i64 59999, .slice (some ⟨wr.heap.size, 0, none⟩) 1 1, .slice none 0 0] 31)).cell? ((⟨wr.heap.size + 1, 0, none⟩ : Addr).add j) = some u) := fun j u hj => by have := ty_new4 (wr.alloc (.cells #[.int .i64 1] 3)) _ _ _ _ j u hj; rw [show (wr.alloc (.cells #[.int .i64 1] 3)).heap.size = wr.heap.size + 1 by simp] at this; exact this
            have HX1 : Hid (Own .i64 3 w.heap.size ((wr.alloc (.cells #[.int .i64 1] 3)).alloc (.cells #[.int .i64 9, .int .i64 59999, .slice (some ⟨wr.heap.size, 0, none⟩) 1 1, .slice none 0 0] 31)) (some ⟨wr.heap.size, 0, none⟩) 1 1 [1]) := own_one (((below_alloc (wr.alloc (.cells #[.int .i64 1] 3)) (.cells #[.int .i64 9, .int .i64 59999, .slice (some ⟨wr.heap.size, 0, none⟩) 1 1, .slice none 0 0] 31)).block _ (by simp)).trans (heap_alloc_new wr _)) HSZ.out (small_wf (by omega))
            have HXS : Hid (wr.heap.size ≤ ((wr.alloc (.cells #[.int .i64 1] 3)).alloc (.cells #[.int .i64 9, .int .i64 59999, .slice (some ⟨wr.heap.size, 0, none⟩) 1 1, .slice none 0 0] 31)).heap.size) := by show wr.heap.size ≤ ((wr.alloc (.cells #[.int .i64 1] 3)).alloc (.cells #[.int .i64 9, .int .i64 59999, .slice (some ⟨wr.heap.size, 0, none⟩) 1 1, .slice none 0 0] 31)).heap.size; simp; omega
            clear hT
            go_wp2_with (at_builtin; refine wpList_append_own _ rfl (.tmp 204) (.tmp 207) 23 rfl w.heap.size 31 i0 (.agg #[.int .i64 0, .int .i64 0, .slice none 0 0, .slice none 0 0]) 4 64 Tryz.underlying23 HI.out.1 HI.out.2.1 HI.out.2.2.1 HI.out.2.2.2 rfl (by decide) (.slice (some ⟨g, 0, none⟩) n cp) n cs rfl HOWN.out ⟨wr.heap.size + 1, 0, none⟩ 1 1 [.int .i64 9, .int .i64 59999, .slice (some ⟨wr.heap.size, 0, none⟩) 1 1, .slice none 0 0] rfl rfl ?n1 (by intro u hu; simp at hu; rcases hu with rfl | rfl | rfl | rfl <;> rfl) (by unfold maxLen; omega) (by omega) (by have := HSZ.out; simp; omega) ?_; (case n1 => exact NX.out); intro v6 w6 hown6 hgrow6 _; refine Hid.out ?_)
            have S7 : Hid (ESt w c nb v6 (n + 1) w6) := ESt.snoc (x := ⟨some ⟨wr.heap.size, 0, none⟩, 1, 1⟩) (y := ⟨none, 0, 0⟩) HC.out SA.out ⟨cs, V, S, HT9.out, hown6⟩ hgrow6 HX1.out (own_noneS _ _) HXS.out (fun b hb => by simp [SV.blk, Value.ownBlock] at hb; omega) (fun b hb => by cases hb)
            clear hown6 hgrow6 HOWN NX HT9 SA S2 HX1 HXS HSZ
            unfold Hid
            obtain ⟨g7, c7, rfl⟩ : ∃ g cp, v6 = .slice (some ⟨g, 0, none⟩) (n + 1) cp := by
              obtain ⟨cs, V, S, hT⟩ := S7.out.d.t
              rcases hT.own.2 with ⟨_, q⟩ | ⟨g, cap, cur, q, _⟩
              · omega
              · exact ⟨g, cap, q⟩
            have SA : Hid (ESt w c nb (.slice (some ⟨g7, 0, none⟩) (n + 1) c7) (n + 1) (((w6.alloc (.cells #[.int .i64 1, .int .i64 (n : Int), .int .i64 5, .int .i64 1] 3)).alloc (.cells #[.string ⟨#[97]⟩, .string ⟨#[98]⟩, .string ⟨#[99, 99]⟩, .string ⟨#[100]⟩] 9)).alloc (.cells #[.int .i64 10, .int .i64 0, .slice (some ⟨w6.heap.size, 0, none⟩) 4 4, .slice (some ⟨w6.heap.size + 1, 0, none⟩) 4 4] 31))) := ((S7.out.alloc HC.out _).alloc HC.out _).alloc HC.out _
            have z1 : (w6.alloc (.cells #[.int .i64 1, .int .i64 (n : Int), .int .i64 5, .int .i64 1] 3)).heap.size = w6.heap.size + 1 := by simp
            have z2 : ((w6.alloc (.cells #[.int .i64 1, .int .i64 (n : Int), .int .i64 5, .int .i64 1] 3)).alloc (.cells #[.string ⟨#[97]⟩, .string ⟨#[98]⟩, .string ⟨#[99, 99]⟩, .string ⟨#[100]⟩] 9)).heap.size = w6.heap.size + 2 := by simp
            have B1 := below_alloc w6 (.cells #[.int .i64 1, .int .i64 (n : Int), .int .i64 5, .int .i64 1] 3)
            have B2 := below_alloc (w6.alloc (.cells #[.int .i64 1, .int .i64 (n : Int), .int .i64 5, .int .i64 1] 3)) (.cells #[.string ⟨#[97]⟩, .string ⟨#[98]⟩, .string ⟨#[99, 99]⟩, .string ⟨#[100]⟩] 9)
            have B3 := below_alloc ((w6.alloc (.cells #[.int .i64 1, .int .i64 (n : Int), .int .i64 5, .int .i64 1] 3)).alloc (.cells #[.string ⟨#[97]⟩, .string ⟨#[98]⟩, .string ⟨#[99, 99]⟩, .string ⟨#[100]⟩] 9)) (.cells #[.int .i64 10, .int .i64 0, .slice (some ⟨w6.heap.size, 0, none⟩) 4 4, .slice (some ⟨w6.heap.size + 1, 0, none⟩) 4 4] 31)
            rw [z1] at B2
            rw [z2] at B3
            obtain ⟨cs, V, S, hT⟩ := (S7.out.d.t.only ((OnlyL.of_below B1).trans ((OnlyL.of_below (below_alloc (w6.alloc (.cells #[.int .i64 1, .int .i64 (n : Int), .int .i64 5, .int .i64 1] 3)) (.cells #[.string ⟨#[97]⟩, .string ⟨#[98]⟩, .string ⟨#[99, 99]⟩, .string ⟨#[100]⟩] 9))).trans (OnlyL.of_below (below_alloc ((w6.alloc (.cells #[.int .i64 1, .int .i64 (n : Int), .int .i64 5, .int .i64 1] 3)).alloc (.cells #[.string ⟨#[97]⟩, .string ⟨#[98]⟩, .string ⟨#[99, 99]⟩, .string ⟨#[100]⟩] 9)) (.cells #[.int .i64 10, .int .i64 0, .slice (some ⟨w6.heap.size, 0, none⟩) 4 4, .slice (some ⟨w6.heap.size + 1, 0, none⟩) 4 4] 31))))) HC.out)
            have HT9 : Hid (TyL w.heap.size w6.heap.size (((w6.alloc (.cells #[.int .i64 1, .int .i64 (n : Int), .int .i64 5, .int .i64 1] 3)).alloc (.cells #[.string ⟨#[97]⟩, .string ⟨#[98]⟩, .string ⟨#[99, 99]⟩, .string ⟨#[100]⟩] 9)).alloc (.cells #[.int .i64 10, .int .i64 0, .slice (some ⟨w6.heap.size, 0, none⟩) 4 4, .slice (some ⟨w6.heap.size + 1, 0, none⟩) 4 4] 31)) (.slice (some ⟨g7, 0, none⟩) (n + 1) c7) (n + 1) cs V S) := hT
            have HOWN : Hid ((((w6.alloc (.cells #[.int .i64 1, .int .i64 (n : Int), .int .i64 5, .int .i64 1] 3)).alloc (.cells #[.string ⟨#[97]⟩, .string ⟨#[98]⟩, .string ⟨#[99, 99]⟩, .string ⟨#[100]⟩] 9)).alloc (.cells #[.int .i64 10, .int .i64 0, .slice (some ⟨w6.heap.size, 0, none⟩) 4 4, .slice (some ⟨w6.heap.size + 1, 0, none⟩) 4 4] 31)).ownsRow w.heap.size 31 4 (.slice (some ⟨g7, 0, none⟩) (n + 1) c7) (n + 1) cs) := hT.own
            have HSZ : Hid (w.heap.size ≤ w6.heap.size) := S7.out.d.o.size
            have NX : Hid (∀ j u, [.int .i64 10, .int .i64 0, .slice (some ⟨w6.heap.size, 0, none⟩) 4 4, .slice (some ⟨w6.heap.size + 1, 0, none⟩) 4 4][j]? = some u → (((w6.alloc (.cells #[.int .i64 1, .int .i64 (n : Int), .int .i64 5, .int .i64 1] 3)).alloc (.cells #[.string ⟨#[97]⟩, .string ⟨#[98]⟩, .string ⟨#[99, 99]⟩, .string ⟨#[100]⟩] 9)).alloc (.cells #[.int .i64 10, .int .i64 0, .slice (some ⟨w6.heap.size, 0, none⟩) 4 4, .slice (some ⟨w6.heap.size + 1, 0, none⟩) 4 4] 31)).cell? ((⟨w6.heap.size + 2, 0, none⟩ : Addr).add j) = some u) := fun j u hj => by have := ty_new4 ((w6.alloc (.cells #[.int .i64 1, .int .i64 (n : Int), .int .i64 5, .int .i64 1] 3)).alloc (.cells #[.string ⟨#[97]⟩, .string ⟨#[98]⟩, .string ⟨#[99, 99]⟩, .string ⟨#[100]⟩] 9)) _ _ _ _ j u hj; rw [z2] at this; exact this
            have HX1 : Hid (Own .i64 3 w.heap.size (((w6.alloc (.cells #[.int .i64 1, .int .i64 (n : Int), .int .i64 5, .int .i64 1] 3)).alloc (.cells #[.string ⟨#[97]⟩, .string ⟨#[98]⟩, .string ⟨#[99, 99]⟩, .string ⟨#[100]⟩] 9)).alloc (.cells #[.int .i64 10, .int .i64 0, .slice (some ⟨w6.heap.size, 0, none⟩) 4 4, .slice (some ⟨w6.heap.size + 1, 0, none⟩) 4 4] 31)) (some ⟨w6.heap.size, 0, none⟩) 4 4 [1, (n : Int), 5, 1]) := own_four ((B3.block _ (by omega)).trans ((B2.block _ (by omega)).trans (heap_alloc_new w6 _))) HSZ.out (fun x hx => by simp at hx; exact small_wf (by omega))
            have HY1 : Hid (OwnS w.heap.size (((w6.alloc (.cells #[.int .i64 1, .int .i64 (n : Int), .int .i64 5, .int .i64 1] 3)).alloc (.cells #[.string ⟨#[97]⟩, .string ⟨#[98]⟩, .string ⟨#[99, 99]⟩, .string ⟨#[100]⟩] 9)).alloc (.cells #[.int .i64 10, .int .i64 0, .slice (some ⟨w6.heap.size, 0, none⟩) 4 4, .slice (some ⟨w6.heap.size + 1, 0, none⟩) 4 4] 31)) ⟨some ⟨w6.heap.size + 1, 0, none⟩, 4, 4⟩ [⟨#[97]⟩, ⟨#[98]⟩, ⟨#[99, 99]⟩, ⟨#[100]⟩]) := owns_four ((B3.block _ (by omega)).trans (by have := heap_alloc_new (w6.alloc (.cells #[.int .i64 1, .int .i64 (n : Int), .int .i64 5, .int .i64 1] 3)) (.cells #[.string ⟨#[97]⟩, .string ⟨#[98]⟩, .string ⟨#[99, 99]⟩, .string ⟨#[100]⟩] 9); rw [z1] at this; exact this)) (by have := HSZ.out; omega) (fun x hx => by simp at hx; rcases hx with rfl | rfl | rfl | rfl <;> decide)
            have HXS : Hid (w6.heap.size ≤ (((w6.alloc (.cells #[.int .i64 1, .int .i64 (n : Int), .int .i64 5, .int .i64 1] 3)).alloc (.cells #[.string ⟨#[97]⟩, .string ⟨#[98]⟩, .string ⟨#[99, 99]⟩, .string ⟨#[100]⟩] 9)).alloc (.cells #[.int .i64 10, .int .i64 0, .slice (some ⟨w6.heap.size, 0, none⟩) 4 4, .slice (some ⟨w6.heap.size + 1, 0, none⟩) 4 4] 31)).heap.size) := by show w6.heap.size ≤ (((w6.alloc (.cells #[.int .i64 1, .int .i64 (n : Int), .int .i64 5, .int .i64 1] 3)).alloc (.cells #[.string ⟨#[97]⟩, .string ⟨#[98]⟩, .string ⟨#[99, 99]⟩, .string ⟨#[100]⟩] 9)).alloc (.cells #[.int .i64 10, .int .i64 0, .slice (some ⟨w6.heap.size, 0, none⟩) 4 4, .slice (some ⟨w6.heap.size + 1, 0, none⟩) 4 4] 31)).heap.size; simp; omega
            clear hT B1 B2 B3 z1 z2
            go_wp2_with (at_builtin; refine wpList_append_own _ rfl (.tmp 212) (.tmp 217) 23 rfl w.heap.size 31 i0 (.agg #[.int .i64 0, .int .i64 0, .slice none 0 0, .slice none 0 0]) 4 64 Tryz.underlying23 HI.out.1 HI.out.2.1 HI.out.2.2.1 HI.out.2.2.2 rfl (by decide) (.slice (some ⟨g7, 0, none⟩) (n + 1) c7) (n + 1) cs rfl HOWN.out ⟨w6.heap.size + 2, 0, none⟩ 1 1 [.int .i64 10, .int .i64 0, .slice (some ⟨w6.heap.size, 0, none⟩) 4 4, .slice (some ⟨w6.heap.size + 1, 0, none⟩) 4 4] rfl rfl ?n1 (by intro u hu; simp at hu; rcases hu with rfl | rfl | rfl | rfl <;> rfl) (by unfold maxLen; omega) (by omega) (by have := HSZ.out; simp; omega) ?_; (case n1 => exact NX.out); intro v9 w9 hown9 hgrow9 _; refine Hid.out ?_)
            have S9 : Hid (ESt w c nb v9 (n + 1 + 1) w9) := ESt.snoc (x := ⟨some ⟨w6.heap.size, 0, none⟩, 4, 4⟩) (y := ⟨some ⟨w6.heap.size + 1, 0, none⟩, 4, 4⟩) HC.out SA.out ⟨cs, V, S, HT9.out, hown9⟩ hgrow9 HX1.out HY1.out HXS.out (fun b hb => by simp [SV.blk, Value.ownBlock] at hb; omega) (fun b hb => by simp [SV.blk, Value.ownBlock] at hb; omega)
            clear hown9 hgrow9 HOWN NX HT9 SA HX1 HY1 HXS HSZ
            unfold Hid
            go_wp2_with fail
            go_ret
            first | exact ⟨_, rfl, n + 1 + 1, by omega, by omega, S9.out.d.t.drawn, S9.out.d.r, S9.out.d.o⟩ | exact ⟨_, n + 1 + 1, rfl, by omega, by omega, S9.out.d.t.drawn, S9.out.d.r, S9.out.d.o⟩
          have n196 : ((kk : Int) == 196) = false := by rw [beq_eq_false_iff_ne]; omega
          go_wp2_with fail
          go_ret
          first | exact ⟨_, rfl, n, by omega, by omega, S2.out.d.t.drawn, S2.out.d.r, S2.out.d.o⟩ | exact ⟨_, n, rfl, by omega, by omega, S2.out.d.t.drawn, S2.out.d.r, S2.out.d.o⟩
end Go.Proofs.YtafcnijfoejboaaGreatDoor.W
