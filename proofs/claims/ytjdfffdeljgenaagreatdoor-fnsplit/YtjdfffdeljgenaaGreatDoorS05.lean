import Derived.Test.YtjdfffdeljgenaaGreatDoorS02
import Derived.Test.YtjdfffdeljgenaaGreatDoorS06
import Derived.Test.YtjdfffdeljgenaaGreatDoorS08
import Derived.Test.YtjdfffdeljgenaaGreatDoorS09
import Derived.Test.YtjdfffdeljgenaaGreatDoorS13
set_option linter.unusedVariables false
set_option linter.unusedSimpArgs false
namespace Go.Proofs.YtjdfffdeljgenaaGreatDoor.W
open Go.RowKit
theorem branches_any (op a b : Int) (h1 : 37 ≤ op) (h2 : op ≤ 42) (w : World) : Calls Tryz.prog 83 #[.int .i64 op, .int .i64 a, .int .i64 b] w fun e w' => e = .returned (.bool (Pl.brt op a b)) ∧ w' = w := by
  have : op = 37 ∨ op = 38 ∨ op = 39 ∨ op = 40 ∨ op = 41 ∨ op = 42 := by omega
  rcases this with rfl | rfl | rfl | rfl | rfl | rfl
  all_goals
    go_enter Tryz.func83, Tryz.ntmps83
    go_wp2_with (go_at_call 109; refine (implSigned_any _ _).mono ?_; rintro e u1 ⟨rfl, rfl⟩)
    go_ret
    exact ⟨ret_bool (by simp [Pl.brt, bne, Int.not_lt, Bool.decide_eq_false] <;> (try rw [Bool.eq_iff_iff]) <;> simp), rfl⟩
theorem rset_no (p : Value) (x : Int) (w : World) : Calls Tryz.prog 80 #[p, .int .i64 0, .int .i64 x] w fun e w' => e = .returned (.tuple #[]) ∧ w' = w := by
  go_enter Tryz.func80, Tryz.ntmps80
  go_wp2
  go_end0
  exact ⟨rfl, rfl⟩
set_option maxHeartbeats 2000000 in
theorem rset_yes (p g r c n : Nat) (x : Int) (y : Value) (h1 : 1 ≤ n) (h2 : n ≤ 31) (w : World) (cm : w.cell? ⟨p, 0, none⟩ = some (.pointer (some ⟨g, 0, none⟩))) (hc : w.cell? ⟨g, 2, none⟩ = some (.slice (some ⟨r, 0, none⟩) 32 c)) (hr : w.cell? ⟨r, n, none⟩ = some y) (hf : w.frozen? ⟨r, n, none⟩ = false) :
    Calls Tryz.prog 80 #[.pointer (some ⟨p, 0, none⟩), .int .i64 n, .int .i64 x] w fun e w' => e = .returned (.tuple #[]) ∧ ∃ k, w' = (w.setCell ⟨r, n, none⟩ (.int .i64 (Pl.wd x))).drewN k := by
  have e1 : ((n : Int) != 0) = true := by simp; omega
  have e2 : (n : Int) < 32 := by omega
  go_enter Tryz.func80, Tryz.ntmps80
  go_wp2_with fail
  go_region_with (go_at_call 64; refine (implWord_any _ _).mono ?_; rintro e v1 ⟨rfl, rfl⟩)
  all_goals
    go_end0
    exact ⟨rfl, 1, rfl⟩
theorem rget_none (p g : Nat) (ia : Option Addr) (ic : Nat) (u : World) (cm : u.cell? ⟨p, 0, none⟩ = some (.pointer (some ⟨g, 0, none⟩))) (ci : u.cell? ⟨g, 5, none⟩ = some (.slice ia 0 ic)) :
    Calls Tryz.prog 111 #[.pointer (some ⟨p, 0, none⟩)] u fun e u' => e = .returned (.int .i64 (-1)) ∧ u' = u := by
  go_enter Tryz.func111, Tryz.ntmps111
  go_wp2
  go_ret
  exact ⟨rfl, rfl⟩
set_option maxRecDepth 8000 in
set_option maxHeartbeats 4000000 in
theorem rget_yes (p g b off il ic : Nat) (x : Int) (h1 : 1 ≤ il) (h2 : il ≤ ic) (h3 : (ic : Int) ≤ 9223372036854775807) (hx : 0 ≤ x ∧ x ≤ 255) (u : World) (cm : u.cell? ⟨p, 0, none⟩ = some (.pointer (some ⟨g, 0, none⟩))) (ci : u.cell? ⟨g, 5, none⟩ = some (.slice (some ⟨b, off, none⟩) il ic)) (cx : u.cell? ⟨b, off, none⟩ = some (.int .u8 x)) (hg : u.frozen? ⟨g, 5, none⟩ = false) :
    Calls Tryz.prog 111 #[.pointer (some ⟨p, 0, none⟩)] u fun e u' => e = .returned (.int .i64 x) ∧ ∃ k q, (il ≠ 1 → q = some ⟨b, off + 1, none⟩) ∧ (q = some ⟨b, off + 1, none⟩ ∨ q = some ⟨b, off, none⟩) ∧ u' = (u.setCell ⟨g, 5, none⟩ (.slice q (il - 1) (ic - 1))).drewN k := by
  have l0 : ((il : Int) == 0) = false := by simp; omega
  have l1 : (0 : Int) < (il : Int) := by omega
  have l2 : (1 : Int) ≤ (il : Int) := by omega
  have l3 : (il : Int) ≤ (ic : Int) := by omega
  have hX : IntKind.i64.wrap x = x := by rw [IntKind.wrap_i64]; omega
  by_cases hic : ic = 1
  · subst hic
    obtain rfl : il = 1 := by omega
    go_enter Tryz.func111, Tryz.ntmps111
    go_wp2_with fail
    go_region_with (fail)
    all_goals
      go_wp2
      go_ret
      exact ⟨rfl, 1, _, fun h => absurd rfl h, .inr rfl, rfl⟩
  · go_enter Tryz.func111, Tryz.ntmps111
    go_wp2_with fail
    go_region_with (fail)
    all_goals
      go_wp2
      go_ret
      exact ⟨rfl, 1, _, fun _ => rfl, .inl rfl, rfl⟩
theorem rput_full (p g : Nat) (oa : Option Addr) (ol oc : Nat) (hol : 10000 ≤ ol) (hom : ol ≤ 1048576) (u : World) (cm : u.cell? ⟨p, 0, none⟩ = some (.pointer (some ⟨g, 0, none⟩))) (co : u.cell? ⟨g, 6, none⟩ = some (.slice oa ol oc)) :
    Calls Tryz.prog 110 #[.pointer (some ⟨p, 0, none⟩)] u fun e u' => e = .panicked [{ v := .iface 97 (.int .i64 6), recovered := false }] ∧ u' = u := by
  have e1 : decide (10000 ≤ (ol : Int)) = true := by simp; omega
  go_enter Tryz.func110, Tryz.ntmps110
  go_wp2
  exact ⟨rfl, rfl, rfl⟩
end Go.Proofs.YtjdfffdeljgenaaGreatDoor.W
namespace Go.Proofs.YtjdfffdeljgenaaGreatDoor.W
open Go.RowKit
theorem rset_run {D : Nat → Prop} {g : Nat} {u : World} {v : MV} {m : Pl.Mac} (h : Run D g u v m) (hv : m.regs.length = 32) (p : Nat) (cm : u.cell? ⟨p, 0, none⟩ = some (.pointer (some ⟨g, 0, none⟩))) (n : Nat) (hn : n ≤ 31) (x : Int) :
    Calls Tryz.prog 80 #[.pointer (some ⟨p, 0, none⟩), .int .i64 n, .int .i64 x] u fun e u' => e = .returned (.tuple #[]) ∧ Run D g u' v (Pl.setR m n x) ∧ St D u u' ∧ (∀ b, b < u.heap.size → (blks g v)[2]? ≠ some (some b) → u'.heap[b]? = u.heap[b]?) := by
  by_cases h0 : n = 0
  · subst h0
    exact (rset_no _ x u).mono fun e u' ⟨he, hu⟩ => by rw [hu]; exact ⟨he, h, St.refl _ _, fun _ _ _ => rfl⟩
  · obtain ⟨r, c, hr, hc, hf⟩ := h.regsAt hv
    have hcell : u.cell? ⟨g, 2, none⟩ = some (.slice (some ⟨r, 0, none⟩) 32 c) := by rw [h.cell 2, hr]; rfl
    have hb : (blks g v)[2]? = some (some r) := by simp [blks, hr]
    refine (rset_yes p g r c n x _ (by omega) hn u cm hcell (hc n (by omega)) (hf n)).mono fun e u' ⟨he, k, hu⟩ => ?_
    have e1 : Pl.setR m n x = { m with regs := m.regs.set n (Pl.wd x) } := by unfold Pl.setR; rw [if_neg h0]
    have hR := h.setReg (r := r) (by rw [hr]) n (Pl.wd x) (by
      have := Pl.wd_bdd x
      generalize Pl.wd x = y at this
      simp [Lit.wf, IntKind.min, IntKind.max, IntKind.signed, IntKind.bits]
      omega)
    rw [hu, e1]
    refine ⟨he, hR.keep (below_drewN (Below.refl _ _) k), (St.set (h.ne 2 hb)).trans (hR.st (below_drewN (Below.refl _ _) k)), fun b hbl hne => ?_⟩
    show (u.setCell ⟨r, n, none⟩ _).heap[b]? = _
    exact Below.heap_setCell u ⟨r, n, none⟩ _ b (fun e => hne (by rw [hb, e]))
theorem Run.ptr {D : Nat → Prop} {g : Nat} {u u' : World} {v : MV} {m : Pl.Mac} (h : Run D g u v m) {p : Nat} {j : Nat} {x : Value} (hp : D p) (cm : u.cell? ⟨p, j, none⟩ = some x) (hs : St D u u') : u'.cell? ⟨p, j, none⟩ = some x := by
  rw [World.cell?_of_block (a := ⟨p, j, none⟩) (hs.keep p hp)]
  exact cm
theorem roper_run {D : Nat → Prop} {g : Nat} {u : World} {v : MV} {m : Pl.Mac} (h : Run D g u v m) (hv : m.regs.length = 32) (p : Nat) (hp : D p) (cm : u.cell? ⟨p, 0, none⟩ = some (.pointer (some ⟨g, 0, none⟩))) (n : Nat) (hn : n ≤ 31) (op a b : Int) (h1 : 1 ≤ op) (h2 : op ≤ 18) :
    Calls Tryz.prog 79 #[.pointer (some ⟨p, 0, none⟩), .int .i64 n, .int .i64 op, .int .i64 a, .int .i64 b] u fun e u' => e = .returned (.tuple #[]) ∧ Run D g u' v (Pl.setR m n (Pl.al op.toNat (Pl.wd a) (Pl.wd b))) ∧ St D u u' := by
  have HA : Hid (∀ w, Calls Tryz.prog 106 #[.int .i64 op, .int .i64 a, .int .i64 b] w fun e w' => e = .returned (.tuple #[.int .i64 (Pl.al op.toNat (Pl.wd a) (Pl.wd b)), .bool true]) ∧ Below w.heap.size w w') := fun w => implAlu_yes op a b h1 h2 w
  generalize Pl.al op.toNat (Pl.wd a) (Pl.wd b) = X at *
  have HS : Hid (∀ U : World, Below u.heap.size u U → Calls Tryz.prog 80 #[.pointer (some ⟨p, 0, none⟩), .int .i64 n, .int .i64 X] U fun e u' => e = .returned (.tuple #[]) ∧ Run D g u' v (Pl.setR m n X) ∧ St D u u') := fun U hU => by
    refine (rset_run (h.keep hU) hv p (h.ptr hp cm (h.st hU)) n hn X).mono fun e u' ⟨he, hR, hS, _⟩ => ⟨he, hR, (h.st hU).trans hS⟩
  clear h cm
  go_enter Tryz.func79, Tryz.ntmps79
  go_wp2_with (first | (go_at_call 106; refine (HA.out _).mono ?_; rintro e u1 ⟨rfl, hb⟩; have HB : Hid (Below u.heap.size u u1) := hb; clear hb) | (go_at_call 80; refine (HS.out _ HB.out).mono ?_; rintro e u2 ⟨rfl, hr2⟩; have HR2 : Hid (Run D g u2 v (Pl.setR m n X) ∧ St D u u2) := hr2; clear hr2))
  go_end0
  exact ⟨rfl, HR2.out⟩
end Go.Proofs.YtjdfffdeljgenaaGreatDoor.W
namespace Go.Proofs.YtjdfffdeljgenaaGreatDoor.W
open Go.RowKit
def PutMk (p g r c : Nat) (oa : Option Addr) (ol oc : Nat) (x : Int) (H : Nat) (G cap : Nat) (L : Array Bool) : Act := { tmps := #[.pointer (some ⟨p, 0, none⟩), undef, .pointer (some ⟨p, 0, none⟩), .pointer (some ⟨p, 0, none⟩), .pointer (some ⟨p, 0, none⟩), .pointer (some ⟨g, 0, none⟩), .pointer (some ⟨g, 0, none⟩), .pointer (some ⟨g, 6, none⟩), .slice oa ol oc, .int .i64 (ol : Int), .bool false, undef, sl L 0 (.pointer (some ⟨p, 0, none⟩)), sl L 1 (.pointer (some ⟨p, 0, none⟩)), sl L 2 (.pointer (some ⟨p, 0, none⟩)), sl L 3 (.pointer (some ⟨g, 0, none⟩)), sl L 4 (.pointer (some ⟨p, 0, none⟩)), sl L 5 (.pointer (some ⟨p, 0, none⟩)), sl L 6 (.pointer (some ⟨p, 0, none⟩)), sl L 7 (.pointer (some ⟨g, 0, none⟩)), sl L 8 (.pointer (some ⟨g, 0, none⟩)), sl L 9 (.pointer (some ⟨g, 6, none⟩)), sl L 10 (.slice oa ol oc), sl L 11 (.pointer (some ⟨p, 0, none⟩)), sl L 12 (.pointer (some ⟨p, 0, none⟩)), sl L 13 (.pointer (some ⟨p, 0, none⟩)), sl L 14 (.pointer (some ⟨g, 0, none⟩)), sl L 15 (.pointer (some ⟨g, 0, none⟩)), sl L 16 (.pointer (some ⟨g, 2, none⟩)), sl L 17 (.slice (some ⟨r, 0, none⟩) 32 c), sl L 18 (.pointer (some ⟨r, 10, none⟩)), sl L 19 (.int .i64 x), sl L 20 (.int .u8 (x % 256)), sl L 21 (.slice (some ⟨H, 0, none⟩) 1 1), sl L 22 (.slice (some ⟨G, 0, none⟩) (ol + 1) cap), sl L 23 (.pointer (some ⟨g, 0, none⟩)), sl L 24 (.pointer (some ⟨g, 6, none⟩))], defers := [] }
def PutW (g : Nat) (oa : Option Addr) (ol oc : Nat) (x : Int) (zs : List Int) (u : World) (G cap : Nat) (L : Array Bool) (w : World) : Prop :=
  (up L 21 = false → w = u) ∧ (up L 21 = true → up L 22 = false → w = u.alloc (.cells #[.int .u8 (x % 256)] 5)) ∧ (up L 22 = true → ∃ w1 : World, w1.ownsRow 0 5 1 (.slice (some ⟨G, 0, none⟩) (ol + 1) cap) (ol + 1) ((zs ++ [x % 256]).map (Value.int .u8)) ∧ u.grownBy w1 (Value.slice oa ol oc).ownBlock ∧ ((Value.slice oa ol oc).ownBlock = some G ∨ u.heap.size ≤ G) ∧ G < w1.heap.size ∧ (up L 25 = false → w = w1) ∧ (up L 25 = true → w = w1.setCell ⟨g, 6, none⟩ (.slice (some ⟨G, 0, none⟩) (ol + 1) cap)))
theorem PutW.keep {g : Nat} {oa : Option Addr} {ol oc : Nat} {x : Int} {zs : List Int} {u : World} {G cap : Nat} {L : Array Bool} {w : World} (h : PutW g oa ol oc x zs u G cap L w) {i : Nat} (hi : i < L.size) (n1 : i ≠ 21) (n2 : i ≠ 22) (n3 : i ≠ 25) : PutW g oa ol oc x zs u G cap (L.setIfInBounds i true) w := by
  unfold PutW at h ⊢
  rw [up_set hi, up_set hi, up_set hi, if_neg n1, if_neg n2, if_neg n3]
  exact h
theorem PutW.cell {g : Nat} {oa : Option Addr} {ol oc : Nat} {x : Int} {zs : List Int} {u : World} {G cap : Nat} {L : Array Bool} {w : World} (h : PutW g oa ol oc x zs u G cap L w) (n : up L 25 = false) {b k : Nat} {y : Value} (hc : u.cell? ⟨b, k, none⟩ = some y) (hne : ∀ z, (Value.slice oa ol oc).ownBlock = some z → z ≠ b) : w.cell? ⟨b, k, none⟩ = some y := by
  cases q : up L 21
  · rw [h.1 q]; exact hc
  · cases q2 : up L 22
    · rw [h.2.1 q q2]; exact fl_alloc hc _
    · obtain ⟨w1, _, hg, _, _, e, _⟩ := h.2.2 q2
      rw [e n]
      exact grown_cell (u := u) (Below.refl _ _) hg hc hne
theorem PutW.early {g : Nat} {oa : Option Addr} {ol oc : Nat} {x : Int} {zs : List Int} {u : World} {G cap : Nat} {L : Array Bool} {w : World} (h : PutW g oa ol oc x zs u G cap L w) (n : up L 22 = false) {a : Addr} {y : Value} (hc : u.cell? a = some y) : w.cell? a = some y := by
  cases q : up L 21
  · rw [h.1 q]; exact hc
  · rw [h.2.1 q n]; exact fl_alloc hc _
set_option maxRecDepth 8000 in
set_option maxHeartbeats 8000000 in
theorem rput_yes (p g r c : Nat) (oa : Option Addr) (ol oc : Nat) (x : Int) (zs : List Int) (hol : ol < 10000) (hx : 0 ≤ x ∧ x ≤ 4294967295) (u : World) (cm : u.cell? ⟨p, 0, none⟩ = some (.pointer (some ⟨g, 0, none⟩))) (cr : u.cell? ⟨g, 2, none⟩ = some (.slice (some ⟨r, 0, none⟩) 32 c)) (co : u.cell? ⟨g, 6, none⟩ = some (.slice oa ol oc)) (c10 : u.cell? ⟨r, 10, none⟩ = some (.int .i64 x)) (hg : u.frozen? ⟨g, 6, none⟩ = false)
    (ho : u.ownsRow 0 5 1 (.slice oa ol oc) ol (zs.map (Value.int .u8))) (hne : ∀ y, (Value.slice oa ol oc).ownBlock = some y → y ≠ g) (hnp : ∀ y, (Value.slice oa ol oc).ownBlock = some y → y ≠ p) :
    Calls Tryz.prog 110 #[.pointer (some ⟨p, 0, none⟩)] u fun e u' => e = .returned (.tuple #[]) ∧ ∃ (w1 : World) (G cap k : Nat), w1.ownsRow 0 5 1 (.slice (some ⟨G, 0, none⟩) (ol + 1) cap) (ol + 1) ((zs ++ [x % 256]).map (Value.int .u8)) ∧ u.grownBy w1 (Value.slice oa ol oc).ownBlock ∧ ((Value.slice oa ol oc).ownBlock = some G ∨ u.heap.size ≤ G) ∧ G < w1.heap.size ∧ u' = (w1.setCell ⟨g, 6, none⟩ (.slice (some ⟨G, 0, none⟩) (ol + 1) cap)).drewN k := by
  obtain ⟨i0, hi, hz0, hz1, hz2⟩ := info_parts Tryz.infou8
  have HO : Hid (u.ownsRow 0 5 1 (.slice oa ol oc) ol (zs.map (Value.int .u8))) := ho
  have HN : Hid (∀ y, (Value.slice oa ol oc).ownBlock = some y → y ≠ g) := hne
  have HP : Hid (∀ y, (Value.slice oa ol oc).ownBlock = some y → y ≠ p) := hnp
  clear ho hne hnp
  have e1 : decide (10000 ≤ (ol : Int)) = false := by simp; omega
  have hX : IntKind.u8.wrap x = x % 256 := by simp [IntKind.wrap, IntKind.signed, IntKind.bits]
  go_enter Tryz.func110, Tryz.ntmps110
  go_upto_region 2 with fail
  refine wp_region_any (by kernel_rfl) ?_
  change wpAny _ _ _ _ _ _ _ (World.drew _)
  have dm : u.drew.cell? ⟨p, 0, none⟩ = some (.pointer (some ⟨g, 0, none⟩)) := cm
  have dr : u.drew.cell? ⟨g, 2, none⟩ = some (.slice (some ⟨r, 0, none⟩) 32 c) := cr
  have dc : u.drew.cell? ⟨g, 6, none⟩ = some (.slice oa ol oc) := co
  have d10 : u.drew.cell? ⟨r, 10, none⟩ = some (.int .i64 x) := c10
  have dg : u.drew.frozen? ⟨g, 6, none⟩ = false := hg
  refine wpAny_inw (fun L a w => ∃ G cap, a = PutMk p g r c oa ol oc x u.drew.heap.size G cap L ∧ PutW g oa ol oc x zs u.drew G cap L w) ?done (by kernel_rfl) ?step _ 26 _ _ (by kernel_rfl) ?init (by decide)
  case init => exact ⟨0, 0, by simp only [PutMk, sl_no (up_init _ _)], fun _ => rfl, fun q => absurd (q.symm.trans (up_init _ _)) (by decide), fun q => absurd (q.symm.trans (up_init _ _)) (by decide)⟩
  case step =>
    intro L act w i o hI hlt hs nl hC hd ho K hK
    obtain ⟨G, cap, rfl, hW⟩ := hI
    have hi_lt : i < 26 := (Array.getElem?_eq_some_iff.1 ho).1
    rcases (show i = 0 ∨ i = 1 ∨ i = 2 ∨ i = 3 ∨ i = 4 ∨ i = 5 ∨ i = 6 ∨ i = 7 ∨ i = 8 ∨ i = 9 ∨ i = 10 ∨ i = 11 ∨ i = 12 ∨ i = 13 ∨ i = 14 ∨ i = 15 ∨ i = 16 ∨ i = 17 ∨ i = 18 ∨ i = 19 ∨ i = 20 ∨ i = 21 ∨ i = 22 ∨ i = 23 ∨ i = 24 ∨ i = 25 by omega) with rfl | rfl | rfl | rfl | rfl | rfl | rfl | rfl | rfl | rfl | rfl | rfl | rfl | rfl | rfl | rfl | rfl | rfl | rfl | rfl | rfl | rfl | rfl | rfl | rfl | rfl
    · change some _ = some o at ho
      cases ho
      simp only [PutMk]
      go_simp
      exact hK _ _ ⟨G, cap, by simp only [PutMk, sl_set hlt, reduceIte, Nat.reduceEqDiff]; try rfl, (hW.keep hlt (by decide) (by decide) (by decide))⟩
    · change some _ = some o at ho
      cases ho
      have q0 : up L 0 = true := (by first | exact hd { on := 0, ground := .data } (by simp) rfl | exact hd { on := 0, ground := .chain } (by simp) rfl | exact hd { on := 0, ground := .phase } (by simp) rfl)
      simp only [PutMk, sl_yes q0]
      go_simp
      exact hK _ _ ⟨G, cap, by simp only [PutMk, sl_set hlt, sl_yes q0, reduceIte, Nat.reduceEqDiff]; try rfl, (hW.keep hlt (by decide) (by decide) (by decide))⟩
    · change some _ = some o at ho
      cases ho
      have q1 : up L 1 = true := (by first | exact hd { on := 1, ground := .data } (by simp) rfl | exact hd { on := 1, ground := .chain } (by simp) rfl | exact hd { on := 1, ground := .phase } (by simp) rfl)
      simp only [PutMk, sl_yes q1]
      go_simp
      exact hK _ _ ⟨G, cap, by simp only [PutMk, sl_set hlt, sl_yes q1, reduceIte, Nat.reduceEqDiff]; try rfl, (hW.keep hlt (by decide) (by decide) (by decide))⟩
    · change some _ = some o at ho
      cases ho
      have q2 : up L 2 = true := (by first | exact hd { on := 2, ground := .data } (by simp) rfl | exact hd { on := 2, ground := .chain } (by simp) rfl | exact hd { on := 2, ground := .phase } (by simp) rfl)
      have n23 : up L 23 = false := hC.no nl 23 rfl (by kernel_rfl)
      have n24 : up L 24 = false := hC.no n23 24 rfl (by kernel_rfl)
      have n25 : up L 25 = false := hC.no n24 25 rfl (by kernel_rfl)
      have cx := hW.cell n25 dm HP.out
      simp only [PutMk, sl_yes q2]
      go_simp
      exact hK _ _ ⟨G, cap, by simp only [PutMk, sl_set hlt, sl_yes q2, reduceIte, Nat.reduceEqDiff]; try rfl, (hW.keep hlt (by decide) (by decide) (by decide))⟩
    · change some _ = some o at ho
      cases ho
      simp only [PutMk]
      go_simp
      exact hK _ _ ⟨G, cap, by simp only [PutMk, sl_set hlt, reduceIte, Nat.reduceEqDiff]; try rfl, (hW.keep hlt (by decide) (by decide) (by decide))⟩
    · change some _ = some o at ho
      cases ho
      have q4 : up L 4 = true := (by first | exact hd { on := 4, ground := .data } (by simp) rfl | exact hd { on := 4, ground := .chain } (by simp) rfl | exact hd { on := 4, ground := .phase } (by simp) rfl)
      simp only [PutMk, sl_yes q4]
      go_simp
      exact hK _ _ ⟨G, cap, by simp only [PutMk, sl_set hlt, sl_yes q4, reduceIte, Nat.reduceEqDiff]; try rfl, (hW.keep hlt (by decide) (by decide) (by decide))⟩
    · change some _ = some o at ho
      cases ho
      have q5 : up L 5 = true := (by first | exact hd { on := 5, ground := .data } (by simp) rfl | exact hd { on := 5, ground := .chain } (by simp) rfl | exact hd { on := 5, ground := .phase } (by simp) rfl)
      simp only [PutMk, sl_yes q5]
      go_simp
      exact hK _ _ ⟨G, cap, by simp only [PutMk, sl_set hlt, sl_yes q5, reduceIte, Nat.reduceEqDiff]; try rfl, (hW.keep hlt (by decide) (by decide) (by decide))⟩
    · change some _ = some o at ho
      cases ho
      have q6 : up L 6 = true := (by first | exact hd { on := 6, ground := .data } (by simp) rfl | exact hd { on := 6, ground := .chain } (by simp) rfl | exact hd { on := 6, ground := .phase } (by simp) rfl)
      have n8 : up L 8 = false := hC.no nl 8 rfl (by kernel_rfl)
      have n9 : up L 9 = false := hC.no n8 9 rfl (by kernel_rfl)
      have n10 : up L 10 = false := hC.no n9 10 rfl (by kernel_rfl)
      have n22 : up L 22 = false := hC.no n10 22 rfl (by kernel_rfl)
      have cx := hW.early n22 dm
      simp only [PutMk, sl_yes q6]
      go_simp
      exact hK _ _ ⟨G, cap, by simp only [PutMk, sl_set hlt, sl_yes q6, reduceIte, Nat.reduceEqDiff]; try rfl, (hW.keep hlt (by decide) (by decide) (by decide))⟩
    · change some _ = some o at ho
      cases ho
      have q7 : up L 7 = true := (by first | exact hd { on := 7, ground := .data } (by simp) rfl | exact hd { on := 7, ground := .chain } (by simp) rfl | exact hd { on := 7, ground := .phase } (by simp) rfl)
      simp only [PutMk, sl_yes q7]
      go_simp
      exact hK _ _ ⟨G, cap, by simp only [PutMk, sl_set hlt, sl_yes q7, reduceIte, Nat.reduceEqDiff]; try rfl, (hW.keep hlt (by decide) (by decide) (by decide))⟩
    · change some _ = some o at ho
      cases ho
      have q8 : up L 8 = true := (by first | exact hd { on := 8, ground := .data } (by simp) rfl | exact hd { on := 8, ground := .chain } (by simp) rfl | exact hd { on := 8, ground := .phase } (by simp) rfl)
      simp only [PutMk, sl_yes q8]
      go_simp
      exact hK _ _ ⟨G, cap, by simp only [PutMk, sl_set hlt, sl_yes q8, reduceIte, Nat.reduceEqDiff]; try rfl, (hW.keep hlt (by decide) (by decide) (by decide))⟩
    · change some _ = some o at ho
      cases ho
      have q9 : up L 9 = true := (by first | exact hd { on := 9, ground := .data } (by simp) rfl | exact hd { on := 9, ground := .chain } (by simp) rfl | exact hd { on := 9, ground := .phase } (by simp) rfl)
      have n22 : up L 22 = false := hC.no nl 22 rfl (by kernel_rfl)
      have cx := hW.early n22 dc
      simp only [PutMk, sl_yes q9]
      go_simp
      exact hK _ _ ⟨G, cap, by simp only [PutMk, sl_set hlt, sl_yes q9, reduceIte, Nat.reduceEqDiff]; try rfl, (hW.keep hlt (by decide) (by decide) (by decide))⟩
    · change some _ = some o at ho
      cases ho
      simp only [PutMk]
      go_simp
      exact hK _ _ ⟨G, cap, by simp only [PutMk, sl_set hlt, reduceIte, Nat.reduceEqDiff]; try rfl, (hW.keep hlt (by decide) (by decide) (by decide))⟩
    · change some _ = some o at ho
      cases ho
      have q11 : up L 11 = true := (by first | exact hd { on := 11, ground := .data } (by simp) rfl | exact hd { on := 11, ground := .chain } (by simp) rfl | exact hd { on := 11, ground := .phase } (by simp) rfl)
      simp only [PutMk, sl_yes q11]
      go_simp
      exact hK _ _ ⟨G, cap, by simp only [PutMk, sl_set hlt, sl_yes q11, reduceIte, Nat.reduceEqDiff]; try rfl, (hW.keep hlt (by decide) (by decide) (by decide))⟩
    · change some _ = some o at ho
      cases ho
      have q12 : up L 12 = true := (by first | exact hd { on := 12, ground := .data } (by simp) rfl | exact hd { on := 12, ground := .chain } (by simp) rfl | exact hd { on := 12, ground := .phase } (by simp) rfl)
      simp only [PutMk, sl_yes q12]
      go_simp
      exact hK _ _ ⟨G, cap, by simp only [PutMk, sl_set hlt, sl_yes q12, reduceIte, Nat.reduceEqDiff]; try rfl, (hW.keep hlt (by decide) (by decide) (by decide))⟩
    · change some _ = some o at ho
      cases ho
      have q13 : up L 13 = true := (by first | exact hd { on := 13, ground := .data } (by simp) rfl | exact hd { on := 13, ground := .chain } (by simp) rfl | exact hd { on := 13, ground := .phase } (by simp) rfl)
      have n15 : up L 15 = false := hC.no nl 15 rfl (by kernel_rfl)
      have n16 : up L 16 = false := hC.no n15 16 rfl (by kernel_rfl)
      have n17 : up L 17 = false := hC.no n16 17 rfl (by kernel_rfl)
      have n18 : up L 18 = false := hC.no n17 18 rfl (by kernel_rfl)
      have n19 : up L 19 = false := hC.no n18 19 rfl (by kernel_rfl)
      have n20 : up L 20 = false := hC.no n19 20 rfl (by kernel_rfl)
      have n21 : up L 21 = false := hC.no n20 21 rfl (by kernel_rfl)
      have n22 : up L 22 = false := hC.no n21 22 rfl (by kernel_rfl)
      have cx := hW.early n22 dm
      simp only [PutMk, sl_yes q13]
      go_simp
      exact hK _ _ ⟨G, cap, by simp only [PutMk, sl_set hlt, sl_yes q13, reduceIte, Nat.reduceEqDiff]; try rfl, (hW.keep hlt (by decide) (by decide) (by decide))⟩
    · change some _ = some o at ho
      cases ho
      have q14 : up L 14 = true := (by first | exact hd { on := 14, ground := .data } (by simp) rfl | exact hd { on := 14, ground := .chain } (by simp) rfl | exact hd { on := 14, ground := .phase } (by simp) rfl)
      simp only [PutMk, sl_yes q14]
      go_simp
      exact hK _ _ ⟨G, cap, by simp only [PutMk, sl_set hlt, sl_yes q14, reduceIte, Nat.reduceEqDiff]; try rfl, (hW.keep hlt (by decide) (by decide) (by decide))⟩
    · change some _ = some o at ho
      cases ho
      have q15 : up L 15 = true := (by first | exact hd { on := 15, ground := .data } (by simp) rfl | exact hd { on := 15, ground := .chain } (by simp) rfl | exact hd { on := 15, ground := .phase } (by simp) rfl)
      simp only [PutMk, sl_yes q15]
      go_simp
      exact hK _ _ ⟨G, cap, by simp only [PutMk, sl_set hlt, sl_yes q15, reduceIte, Nat.reduceEqDiff]; try rfl, (hW.keep hlt (by decide) (by decide) (by decide))⟩
    · change some _ = some o at ho
      cases ho
      have q16 : up L 16 = true := (by first | exact hd { on := 16, ground := .data } (by simp) rfl | exact hd { on := 16, ground := .chain } (by simp) rfl | exact hd { on := 16, ground := .phase } (by simp) rfl)
      have n18 : up L 18 = false := hC.no nl 18 rfl (by kernel_rfl)
      have n19 : up L 19 = false := hC.no n18 19 rfl (by kernel_rfl)
      have n20 : up L 20 = false := hC.no n19 20 rfl (by kernel_rfl)
      have n21 : up L 21 = false := hC.no n20 21 rfl (by kernel_rfl)
      have n22 : up L 22 = false := hC.no n21 22 rfl (by kernel_rfl)
      have cx := hW.early n22 dr
      simp only [PutMk, sl_yes q16]
      go_simp
      exact hK _ _ ⟨G, cap, by simp only [PutMk, sl_set hlt, sl_yes q16, reduceIte, Nat.reduceEqDiff]; try rfl, (hW.keep hlt (by decide) (by decide) (by decide))⟩
    · change some _ = some o at ho
      cases ho
      have q17 : up L 17 = true := (by first | exact hd { on := 17, ground := .data } (by simp) rfl | exact hd { on := 17, ground := .chain } (by simp) rfl | exact hd { on := 17, ground := .phase } (by simp) rfl)
      simp only [PutMk, sl_yes q17]
      go_simp
      exact hK _ _ ⟨G, cap, by simp only [PutMk, sl_set hlt, sl_yes q17, reduceIte, Nat.reduceEqDiff]; try rfl, (hW.keep hlt (by decide) (by decide) (by decide))⟩
    · change some _ = some o at ho
      cases ho
      have q18 : up L 18 = true := (by first | exact hd { on := 18, ground := .data } (by simp) rfl | exact hd { on := 18, ground := .chain } (by simp) rfl | exact hd { on := 18, ground := .phase } (by simp) rfl)
      have n20 : up L 20 = false := hC.no nl 20 rfl (by kernel_rfl)
      have n21 : up L 21 = false := hC.no n20 21 rfl (by kernel_rfl)
      have n22 : up L 22 = false := hC.no n21 22 rfl (by kernel_rfl)
      have cx := hW.early n22 d10
      simp only [PutMk, sl_yes q18]
      go_simp
      exact hK _ _ ⟨G, cap, by simp only [PutMk, sl_set hlt, sl_yes q18, reduceIte, Nat.reduceEqDiff]; try rfl, (hW.keep hlt (by decide) (by decide) (by decide))⟩
    · change some _ = some o at ho
      cases ho
      have q19 : up L 19 = true := (by first | exact hd { on := 19, ground := .data } (by simp) rfl | exact hd { on := 19, ground := .chain } (by simp) rfl | exact hd { on := 19, ground := .phase } (by simp) rfl)
      simp only [PutMk, sl_yes q19]
      go_simp
      exact hK _ _ ⟨G, cap, by simp only [PutMk, sl_set hlt, sl_yes q19, reduceIte, Nat.reduceEqDiff]; try rfl, (hW.keep hlt (by decide) (by decide) (by decide))⟩
    · change some _ = some o at ho
      cases ho
      have q20 : up L 20 = true := (by first | exact hd { on := 20, ground := .data } (by simp) rfl | exact hd { on := 20, ground := .chain } (by simp) rfl | exact hd { on := 20, ground := .phase } (by simp) rfl)
      have n22 : up L 22 = false := hC.no nl 22 rfl (by kernel_rfl)
      obtain rfl := hW.1 nl
      simp only [PutMk, sl_yes q20]
      go_simp
      exact hK _ _ ⟨G, cap, by simp only [PutMk, sl_set hlt, sl_yes q20, reduceIte, Nat.reduceEqDiff]; try rfl, ⟨fun q => absurd (q.symm.trans ((up_set hlt _).trans (if_pos rfl))) (by decide), fun _ _ => rfl, fun q => absurd (q.symm.trans ((up_set hlt 22).trans n22)) (by decide)⟩⟩
    · change some _ = some o at ho
      cases ho
      have q10 : up L 10 = true := (by first | exact hd { on := 10, ground := .data } (by simp) rfl | exact hd { on := 10, ground := .chain } (by simp) rfl | exact hd { on := 10, ground := .phase } (by simp) rfl)
      have q21 : up L 21 = true := (by first | exact hd { on := 21, ground := .data } (by simp) rfl | exact hd { on := 21, ground := .chain } (by simp) rfl | exact hd { on := 21, ground := .phase } (by simp) rfl)
      have n25 : up L 25 = false := hC.no nl 25 rfl (by kernel_rfl)
      obtain rfl := hW.2.1 q21 nl
      simp only [PutMk, sl_yes q10, sl_yes q21]
      rw [if_pos (by rfl)]
      refine wp_append_lies _ (.tmp 22) (.tmp 33) 22 (by rfl) 0 5 i0 (.int .u8 0) 1 1 Tryz.underlying22 hi hz0 hz1 hz2 rfl (by decide) (.slice oa ol oc) ol (zs.map (Value.int .u8)) (by rfl) (HO.out.drew.alloc _) ⟨u.drew.heap.size, 0, none⟩ 1 1 [.int .u8 (x % 256)] (by rfl) rfl (byte_cell u.drew (x % 256)) (by intro z hz; simp at hz; subst hz; rfl) (by decide) (by unfold maxLen; omega) (by omega) (Nat.zero_le _) _ rfl ?_
      intro G' cap' w1 hown1 hgrow hat hlt1
      exact hK _ _ ⟨G', cap', by simp only [PutMk, sl_set hlt, sl_yes q10, sl_yes q21, reduceIte, Nat.reduceEqDiff]; try rfl, ⟨fun q => absurd (q.symm.trans ((up_set hlt 21).trans q21)) (by decide), fun _ q => absurd (q.symm.trans ((up_set hlt _).trans (if_pos rfl))) (by decide), fun _ => ⟨w1, by rw [List.map_append]; exact hown1, grown_from (below_alloc _ _) hgrow, by rcases hat with h | h; exact .inl h; exact .inr (by rw [h]; simp), hlt1, fun _ => rfl, fun q => absurd (q.symm.trans ((up_set hlt 25).trans n25)) (by decide)⟩⟩⟩
    · change some _ = some o at ho
      cases ho
      have q3 : up L 3 = true := (by first | exact hd { on := 3, ground := .data } (by simp) rfl | exact hd { on := 3, ground := .chain } (by simp) rfl | exact hd { on := 3, ground := .phase } (by simp) rfl)
      simp only [PutMk, sl_yes q3]
      go_simp
      exact hK _ _ ⟨G, cap, by simp only [PutMk, sl_set hlt, sl_yes q3, reduceIte, Nat.reduceEqDiff]; try rfl, (hW.keep hlt (by decide) (by decide) (by decide))⟩
    · change some _ = some o at ho
      cases ho
      have q23 : up L 23 = true := (by first | exact hd { on := 23, ground := .data } (by simp) rfl | exact hd { on := 23, ground := .chain } (by simp) rfl | exact hd { on := 23, ground := .phase } (by simp) rfl)
      simp only [PutMk, sl_yes q23]
      go_simp
      exact hK _ _ ⟨G, cap, by simp only [PutMk, sl_set hlt, sl_yes q23, reduceIte, Nat.reduceEqDiff]; try rfl, (hW.keep hlt (by decide) (by decide) (by decide))⟩
    · change some _ = some o at ho
      cases ho
      have q22 : up L 22 = true := (by first | exact hd { on := 22, ground := .data } (by simp) rfl | exact hd { on := 22, ground := .chain } (by simp) rfl | exact hd { on := 22, ground := .phase } (by simp) rfl)
      have q24 : up L 24 = true := (by first | exact hd { on := 24, ground := .data } (by simp) rfl | exact hd { on := 24, ground := .chain } (by simp) rfl | exact hd { on := 24, ground := .phase } (by simp) rfl)
      have q21 : up L 21 = true := hC 22 _ rfl q22 { on := 21, ground := .data } (by simp) rfl
      obtain ⟨w1, y1, y2, y3, y4, y5, _⟩ := hW.2.2 q22
      obtain rfl := y5 nl
      have qf := grown_frozen (u := u.drew) (Below.refl _ _) y2 (block_lt_of_cell dc) dg HN.out
      have q6 := grown_cell (u := u.drew) (Below.refl _ _) y2 dc HN.out
      simp only [PutMk, sl_yes q22, sl_yes q24]
      go_simp
      exact hK _ _ ⟨G, cap, by simp only [PutMk, sl_set hlt, sl_yes q22, sl_yes q24, reduceIte, Nat.reduceEqDiff]; try rfl, ⟨fun q => absurd (q.symm.trans ((up_set hlt 21).trans q21)) (by decide), fun _ q => absurd (q.symm.trans ((up_set hlt 22).trans q22)) (by decide), fun _ => ⟨w, y1, y2, y3, y4, fun q => absurd (q.symm.trans ((up_set hlt _).trans (if_pos rfl))) (by decide), fun _ => rfl⟩⟩⟩
  case done =>
    rintro L a w ⟨G, cap, rfl, hW⟩ hall
    obtain ⟨w1, y1, y2, y3, y4, _, y5⟩ := hW.2.2 (hall 22 (by decide))
    obtain rfl := y5 (hall 25 (by decide))
    simp only [PutMk, sl_yes (hall 0 (by decide)), sl_yes (hall 1 (by decide)), sl_yes (hall 2 (by decide)), sl_yes (hall 3 (by decide)), sl_yes (hall 4 (by decide)), sl_yes (hall 5 (by decide)), sl_yes (hall 6 (by decide)), sl_yes (hall 7 (by decide)), sl_yes (hall 8 (by decide)), sl_yes (hall 9 (by decide)), sl_yes (hall 10 (by decide)), sl_yes (hall 11 (by decide)), sl_yes (hall 12 (by decide)), sl_yes (hall 13 (by decide)), sl_yes (hall 14 (by decide)), sl_yes (hall 15 (by decide)), sl_yes (hall 16 (by decide)), sl_yes (hall 17 (by decide)), sl_yes (hall 18 (by decide)), sl_yes (hall 19 (by decide)), sl_yes (hall 20 (by decide)), sl_yes (hall 21 (by decide)), sl_yes (hall 22 (by decide)), sl_yes (hall 23 (by decide)), sl_yes (hall 24 (by decide))]
    go_wp2
    go_end0
    exact ⟨rfl, w1, G, cap, by simpa using y1, grown_from (Below.refl _ _).drew y2, y3, y4, 0, rfl⟩
end Go.Proofs.YtjdfffdeljgenaaGreatDoor.W
namespace Go.Proofs.YtjdfffdeljgenaaGreatDoor.W
open Go.RowKit
structure MemS (v v' : MV) : Prop where
  data : v'.data = v.data
  stk : v'.stk = v.stk
  code : v'.code = v.code
theorem MemS.refl (v : MV) : MemS v v := ⟨rfl, rfl, rfl⟩
theorem MemS.trans {a b c : MV} (h : MemS a b) (k : MemS b c) : MemS a c := ⟨k.data.trans h.data, k.stk.trans h.stk, k.code.trans h.code⟩
theorem rput_run {D : Nat → Prop} {g : Nat} {u : World} {v : MV} {m : Pl.Mac} (h : Run D g u v m) (hv : Pl.Vd m) (p : Nat) (hp : D p) (cm : u.cell? ⟨p, 0, none⟩ = some (.pointer (some ⟨g, 0, none⟩))) (hl : ¬ 10000 ≤ m.out.length) :
    Calls Tryz.prog 110 #[.pointer (some ⟨p, 0, none⟩)] u fun e u' => e = .returned (.tuple #[]) ∧ (∃ v', MemS v v' ∧ Run D g u' v' { m with out := m.out ++ [Pl.rv m 10 % 256] }) ∧ St D u u' := by
  obtain ⟨r, c, hr, hc, hf⟩ := h.regsAt hv.regs
  have cr : u.cell? ⟨g, 2, none⟩ = some (.slice (some ⟨r, 0, none⟩) 32 c) := by rw [h.cell 2, hr]; rfl
  have c10 : u.cell? ⟨r, 10, none⟩ = some (.int .i64 (Pl.rv m 10)) := hc 10 (by decide)
  have w10 := hv.word 10 (by decide)
  have hol : m.out.length = v.out.len := h.out.row.1
  have hB6 : (blks g v)[6]? = some (v.out.a.map (·.block)) := rfl
  refine (rput_yes p g r c v.out.a v.out.len v.out.cap (Pl.rv m 10) m.out (by omega) w10 u cm cr (h.cell 6) c10 (h.unfrozen 6) h.out.1 (fun y hy => h.ap.ne 6 (by decide) (by decide) (by rw [own_blk h.out] at hy; rw [← hy]; rfl)) (fun y hy e => (h.av p hp).2 6 (by rw [own_blk h.out] at hy; rw [hB6, hy, e]))).mono fun e u' ⟨he, w1, G, cap, k, ho, hg, hG, hl, hu⟩ => ?_
  rw [own_blk h.out] at hg hG
  have ho' : Own .u8 5 0 w1 (some ⟨G, 0, none⟩) (v.out.len + 1) cap (m.out ++ [Pl.rv m 10 % 256]) := ⟨ho, fun n hn => by
    rcases List.mem_append.1 hn with hn | hn
    · exact h.out.2 n hn
    · simp at hn; rw [hn]; exact byte_wf1 _⟩
  obtain ⟨hR, hS⟩ := h.setOut hg hG hl ho'
  rw [hu]
  refine ⟨he, ⟨_, ?_, hR.keep (below_drewN (Below.refl _ _) k)⟩, hS.trans (hR.st (below_drewN (Below.refl _ _) k))⟩
  exact ⟨rfl, rfl, rfl⟩
theorem rget_run {D : Nat → Prop} {g : Nat} {u : World} {v : MV} {m : Pl.Mac} (h : Run D g u v m) (hv : Pl.Vd m) (p : Nat) (cm : u.cell? ⟨p, 0, none⟩ = some (.pointer (some ⟨g, 0, none⟩))) (x : Int) (xs : List Int) (hin : m.inp = x :: xs) :
    Calls Tryz.prog 111 #[.pointer (some ⟨p, 0, none⟩)] u fun e u' => e = .returned (.int .i64 x) ∧ (∃ v', MemS v v' ∧ Run D g u' v' { m with inp := xs }) ∧ St D u u' := by
  obtain ⟨i1, i2, i3, i4, i5⟩ := h.inp
  rw [hin] at i1 i4 i5
  have hil : v.inp.len = xs.length + 1 := by simpa using i1.symm
  rcases i5 with i5 | ⟨b, off, ia, _, hb, hcc⟩
  · omega
  have ci : u.cell? ⟨g, 5, none⟩ = some (.slice (some ⟨b, off, none⟩) v.inp.len v.inp.cap) := by rw [h.cell 5, ← ia]; rfl
  have cx : u.cell? ⟨b, off, none⟩ = some (.int .u8 x) := hcc 0 (by omega)
  have hx := Pl.u8_bd (i4 x (by simp))
  refine (rget_yes p g b off v.inp.len v.inp.cap x (by omega) i2 (by unfold maxLen at i3; omega) hx u cm ci cx (h.unfrozen 5)).mono fun e u' ⟨he, k, q, hp1, hp2, hu⟩ => ?_
  have hpb : q.map (·.block) = v.inp.a.map (·.block) := by rw [ia]; rcases hp2 with e | e <;> rw [e] <;> rfl
  have hrow : Row .u8 0 u q (v.inp.len - 1) (v.inp.cap - 1) xs := by
    refine ⟨by omega, by omega, by unfold maxLen at i3 ⊢; omega, fun n hn => i4 n (by simp [hn]), ?_⟩
    by_cases hl1 : v.inp.len = 1
    · exact .inl (by omega)
    · refine .inr ⟨b, off + 1, hp1 hl1, Nat.zero_le _, hb, fun i hi => ?_⟩
      have := hcc (i + 1) (by omega)
      rw [show off + 1 + i = off + (i + 1) by omega, this]
      simp
  have hR2 := h.setInp q (v.inp.len - 1) (v.inp.cap - 1) xs hpb hrow
  rw [hu]
  refine ⟨he, ⟨_, ?_, hR2.keep (below_drewN (Below.refl _ _) k)⟩, (St.set (h.ne 0 rfl)).trans (hR2.st (below_drewN (Below.refl _ _) k))⟩
  exact ⟨rfl, rfl, rfl⟩
def ends (n : Int) : Ending := if n = 0 then .returned (.tuple #[]) else .panicked [{ v := .iface 97 (.int .i64 n), recovered := false }]
set_option maxRecDepth 8000 in
set_option maxHeartbeats 4000000 in
theorem rcall_run {D : Nat → Prop} {g : Nat} {u : World} {v : MV} {m : Pl.Mac} (h : Run D g u v m) (hv : Pl.Vd m) (p : Nat) (hp : D p) (cm : u.cell? ⟨p, 0, none⟩ = some (.pointer (some ⟨g, 0, none⟩))) :
    Calls Tryz.prog 84 #[.pointer (some ⟨p, 0, none⟩)] u fun e u' => e = ends (Pl.ecall m).2 ∧ (∃ v', MemS v v' ∧ Run D g u' v' (Pl.ecall m).1) ∧ St D u u' := by
  obtain ⟨r, c, hr, hc, hf⟩ := h.regsAt hv.regs
  have cr : u.cell? ⟨g, 2, none⟩ = some (.slice (some ⟨r, 0, none⟩) 32 c) := by rw [h.cell 2, hr]; rfl
  have c17 : u.cell? ⟨r, 17, none⟩ = some (.int .i64 (Pl.rv m 17)) := hc 17 (by decide)
  have c10 : u.cell? ⟨r, 10, none⟩ = some (.int .i64 (Pl.rv m 10)) := hc 10 (by decide)
  have hB2 : (blks g v)[2]? = some (some r) := by simp [blks, hr]
  have hgr : g ≠ r := (h.ap.ne 2 (by decide) (by decide) hB2).symm
  have HH : Hid (Run D g u v m) := h
  clear hc hf hr
  unfold Pl.ecall
  by_cases h1 : Pl.rv m 17 = 1
  · rw [if_pos h1]
    rw [h1] at c17
    by_cases hfull : 10000 ≤ m.out.length
    · rw [if_pos hfull]
      have HP : Hid (Calls Tryz.prog 110 #[.pointer (some ⟨p, 0, none⟩)] u fun e u' => e = .panicked [{ v := .iface 97 (.int .i64 6), recovered := false }] ∧ u' = u) := rput_full p g v.out.a v.out.len v.out.cap (by have := h.out.row.1; omega) (by have := h.out.row.1; have := hv.out; omega) u cm (h.cell 6)
      clear h hfull hv h1
      go_enter Tryz.func84, Tryz.ntmps84
      go_wp2_with (go_at_call 110; refine Calls.mono HP.out ?_; rintro e u1 ⟨rfl, hu1⟩; rw [hu1]; clear hu1)
      exact ⟨rfl, rfl, ⟨v, MemS.refl v, HH.out⟩, St.refl _ _⟩
    · rw [if_neg hfull]
      have HP : Hid _ := rput_run h hv p hp cm hfull
      generalize { m with out := m.out ++ [Pl.rv m 10 % 256] } = m2 at *
      clear h hfull hv h1
      go_enter Tryz.func84, Tryz.ntmps84
      go_wp2_with (go_at_call 110; refine Calls.mono HP.out ?_; rintro e u1 ⟨rfl, hu1⟩; have H2 : Hid ((∃ v', MemS v v' ∧ Run D g u1 v' m2) ∧ St D u u1) := hu1; clear hu1)
      go_end0
      exact ⟨rfl, H2.out⟩
  rw [if_neg h1]
  by_cases h2 : Pl.rv m 17 = 2
  · rw [if_pos h2]
    rw [h2] at c17
    cases hin : m.inp with
    | nil =>
      have hil : v.inp.len = 0 := by have := h.inp.1; rw [hin] at this; simpa using this.symm
      have ci : u.cell? ⟨g, 5, none⟩ = some (.slice v.inp.a 0 v.inp.cap) := by rw [h.cell 5, ← hil]; rfl
      have HG : Hid _ := rget_none p g v.inp.a v.inp.cap u cm ci
      have e1 : Pl.setR m 10 (-1) = { m with regs := m.regs.set 10 4294967295 } := rfl
      have HS0 := rset_run h hv.regs p cm 10 (by decide) (-1)
      rw [e1] at HS0
      have HS : Hid _ := HS0
      dsimp only
      rw [← hin]
      generalize { m with regs := m.regs.set 10 4294967295 } = m2 at *
      clear h hv h1 h2 hin e1 HS0 hil
      go_enter Tryz.func84, Tryz.ntmps84
      go_wp2_with (first | (go_at_call 111; refine Calls.mono HG.out ?_; rintro e u1 ⟨rfl, hu1⟩; rw [hu1]; clear hu1) | (go_at_call 80; refine Calls.mono HS.out ?_; rintro e u2 ⟨rfl, hr2, hs2, -⟩; have H2 : Hid (Run D g u2 v m2 ∧ St D u u2) := ⟨hr2, hs2⟩; clear hr2 hs2))
      go_end0
      exact ⟨rfl, ⟨v, MemS.refl v, H2.out.1⟩, H2.out.2⟩
    | cons x xs =>
      have hx := Pl.u8_bd (h.inp.2.2.2.1 x (by rw [hin]; simp))
      have e1 : Pl.setR { m with inp := xs } 10 x = { m with regs := m.regs.set 10 x, inp := xs } := by
        have : Pl.wd x = x := by unfold Pl.wd; omega
        unfold Pl.setR
        rw [if_neg (by decide), this]
      have HG : Hid _ := rget_run h hv p cm x xs hin
      have HS : Hid (∀ u1 : World, ((∃ v', MemS v v' ∧ Run D g u1 v' { m with inp := xs }) ∧ St D u u1) → Calls Tryz.prog 80 #[.pointer (some ⟨p, 0, none⟩), .int .i64 10, .int .i64 x] u1 fun e u2 => e = .returned (.tuple #[]) ∧ ((∃ v', MemS v v' ∧ Run D g u2 v' { m with regs := m.regs.set 10 x, inp := xs }) ∧ St D u u2)) := by
        rintro u1 ⟨⟨v', hM, hR⟩, hS⟩
        have := rset_run hR hv.regs p (h.ptr hp cm hS) 10 (by decide) x
        rw [e1] at this
        exact this.mono fun e u2 ⟨he, hR2, hS2, _⟩ => ⟨he, ⟨_, hM, hR2⟩, hS.trans hS2⟩
      dsimp only
      generalize { m with regs := m.regs.set 10 x, inp := xs } = m2 at *
      generalize { m with inp := xs } = m1 at *
      clear h hv h1 h2 hin e1 hx
      go_enter Tryz.func84, Tryz.ntmps84
      go_wp2_with (first | (go_at_call 111; refine Calls.mono HG.out ?_; rintro e u1 ⟨rfl, hu1⟩; have H1 : Hid ((∃ v', MemS v v' ∧ Run D g u1 v' m1) ∧ St D u u1) := hu1; clear hu1) | (go_at_call 80; refine Calls.mono (HS.out _ H1.out) ?_; rintro e u2 ⟨rfl, hr2⟩; have H2 : Hid ((∃ v', MemS v v' ∧ Run D g u2 v' m2) ∧ St D u u2) := hr2; clear hr2))
      go_end0
      exact ⟨rfl, H2.out⟩
  rw [if_neg h2]
  have c8 := h.cell 8
  have c9 := h.cell 9
  have f8 := h.unfrozen 8
  have f9 := h.unfrozen 9
  by_cases h3 : Pl.rv m 17 = 3
  · rw [if_pos h3]
    rw [h3] at c17
    have s1 : ∀ y, (u.setCell ⟨g, 8, none⟩ y).cell? ⟨g, 2, none⟩ = some (.slice (some ⟨r, 0, none⟩) 32 c) := fun y => by rw [World.cell?_setCell_other _ _ _ _ (by intro e; injection e with _ e2; cases e2)]; exact cr
    have s2 : ∀ y, (u.setCell ⟨g, 8, none⟩ y).cell? ⟨r, 10, none⟩ = some (.int .i64 (Pl.rv m 10)) := fun y => by rw [World.cell?_setCell_other _ _ _ _ (by intro e; injection e with e1 _; exact hgr e1)]; exact c10
    have HE : Hid ((∃ v', MemS v v' ∧ Run D g ((u.setCell ⟨g, 8, none⟩ (.int .i64 1)).setCell ⟨g, 9, none⟩ (.int .i64 (Pl.rv m 10))) v' { m with fin := 1, val := Pl.rv m 10 }) ∧ St D u ((u.setCell ⟨g, 8, none⟩ (.int .i64 1)).setCell ⟨g, 9, none⟩ (.int .i64 (Pl.rv m 10)))) := ⟨⟨v, MemS.refl v, (h.setFin 1).setVal (Pl.rv m 10)⟩, (St.set (h.ne 0 rfl)).trans (St.set ((h.setFin 1).ne 0 rfl))⟩
    clear h hv h1 h2 h3
    go_enter Tryz.func84, Tryz.ntmps84
    go_wp2
    go_end0
    exact ⟨rfl, HE.out⟩
  rw [if_neg h3]
  by_cases h4 : Pl.rv m 17 = 4
  · rw [if_pos h4]
    rw [h4] at c17
    have HE : Hid ((∃ v', MemS v v' ∧ Run D g ((u.setCell ⟨g, 8, none⟩ (.int .i64 3)).setCell ⟨g, 9, none⟩ (.int .i64 0)) v' { m with fin := 3, val := 0 }) ∧ St D u ((u.setCell ⟨g, 8, none⟩ (.int .i64 3)).setCell ⟨g, 9, none⟩ (.int .i64 0))) := ⟨⟨v, MemS.refl v, (h.setFin 3).setVal 0⟩, (St.set (h.ne 0 rfl)).trans (St.set ((h.setFin 3).ne 0 rfl))⟩
    clear h hv h1 h2 h3 h4
    go_enter Tryz.func84, Tryz.ntmps84
    go_wp2
    go_end0
    exact ⟨rfl, HE.out⟩
  rw [if_neg h4]
  have e1 : (Pl.rv m 17 == 1) = false := by simpa using h1
  have e2 : (Pl.rv m 17 == 2) = false := by simpa using h2
  have e3 : (Pl.rv m 17 == 3) = false := by simpa using h3
  have e4 : (Pl.rv m 17 == 4) = false := by simpa using h4
  clear h hv h1 h2 h3 h4
  go_enter Tryz.func84, Tryz.ntmps84
  go_wp2
  exact ⟨rfl, rfl, ⟨v, MemS.refl v, HH.out⟩, St.refl _ _⟩
end Go.Proofs.YtjdfffdeljgenaaGreatDoor.W
namespace Go.Proofs.YtjdfffdeljgenaaGreatDoor.W
open Go.RowKit
structure Rr (D : Nat → Prop) (p g : Nat) (u : World) (v : MV) (m : Pl.Mac) : Prop where
  run : Run D g u v m
  pd : D p
  ptr : u.cell? ⟨p, 0, none⟩ = some (.pointer (some ⟨g, 0, none⟩))
theorem Rr.keep {D : Nat → Prop} {p g : Nat} {u U : World} {v : MV} {m : Pl.Mac} (h : Rr D p g u v m) (hb : Below u.heap.size u U) : Rr D p g U v m := ⟨h.run.keep hb, h.pd, h.run.ptr h.pd h.ptr (h.run.st hb)⟩
theorem setR_fin (m : Pl.Mac) (n : Nat) (x : Int) : (Pl.setR m n x).fin = m.fin := by unfold Pl.setR; split <;> rfl
set_option maxRecDepth 8000 in
set_option maxHeartbeats 4000000 in
theorem rdo_alu {D : Nat → Prop} {p g : Nat} {u : World} {v : MV} {m : Pl.Mac} (h : Rr D p g u v m) (hv : Pl.Vd m) (hfin : m.fin = 0) (i : Pl.Ins) (hi : Pl.InsOk i) (h1 : i.op ≤ 18) : Calls Tryz.prog 62 #[.pointer (some ⟨p, 0, none⟩), .agg #[.int .i64 i.op, .int .i64 i.rd, .int .i64 i.r1, .int .i64 i.r2, .int .i64 i.im]] u fun e u' => e = .returned (.tuple #[]) ∧ (∃ v', MemS v v' ∧ Run D g u' v' ({ Pl.setR m i.rd (Pl.al i.op.toNat (Pl.wd (Pl.rv m i.r1)) (Pl.wd (Pl.rv m i.r2))) with pc := Pl.wd (m.pc + 4) })) ∧ St D u u' := by
  have h0 := hi.op1
  have e1 : decide (i.op ≤ 18) = true := by simpa using h1
  obtain ⟨r, c, hr, hc, hf⟩ := h.run.regsAt hv.regs
  have cm := fl_alloc h.ptr
  have cp := fl_alloc (h.run.cell 1 : u.cell? ⟨g, 1, none⟩ = some (.int .i64 m.pc))
  have cr := fl_alloc (show u.cell? ⟨g, 2, none⟩ = some (.slice (some ⟨r, 0, none⟩) 32 c) by rw [h.run.cell 2, hr]; rfl)
  have ca := fl_alloc (hc i.r1 (by have := hi.r1; omega) : u.cell? ⟨r, i.r1, none⟩ = some (.int .i64 (Pl.rv m i.r1)))
  have cb := fl_alloc (hc i.r2 (by have := hi.r2; omega) : u.cell? ⟨r, i.r2, none⟩ = some (.int .i64 (Pl.rv m i.r2)))
  have l1 : (i.r1 : Int) < 32 := by have := hi.r1; omega
  have l2 : (i.r2 : Int) < 32 := by have := hi.r2; omega
  have hw4 : IntKind.i64.wrap (m.pc + 4) = m.pc + 4 := by have := hv.pc; rw [IntKind.wrap_i64]; omega
  have HO : Hid (∀ U : World, Below u.heap.size u U → Calls Tryz.prog 79 #[.pointer (some ⟨p, 0, none⟩), .int .i64 i.rd, .int .i64 i.op, .int .i64 (Pl.rv m i.r1), .int .i64 (Pl.rv m i.r2)] U fun e u2 => e = .returned (.tuple #[]) ∧ (Run D g u2 v (Pl.setR m i.rd (Pl.al i.op.toNat (Pl.wd (Pl.rv m i.r1)) (Pl.wd (Pl.rv m i.r2)))) ∧ St D u u2) ∧ u2.cell? ⟨g, 1, none⟩ = some (.int .i64 m.pc) ∧ u2.cell? ⟨g, 8, none⟩ = some (.int .i64 0) ∧ u2.frozen? ⟨g, 1, none⟩ = false) := fun U hU => by
    refine (roper_run (h.keep hU).run hv.regs p h.pd (h.keep hU).ptr i.rd hi.rd i.op _ _ h0 h1).mono fun e u2 ⟨he, hR, hS⟩ => ⟨he, ⟨hR, (h.run.st hU).trans hS⟩, ?_, ?_, hR.unfrozen 1⟩
    · rw [hR.cell 1, Pl.setR_pc]; rfl
    · rw [hR.cell 8, setR_fin, hfin]; rfl
  generalize Pl.setR m i.rd (Pl.al i.op.toNat (Pl.wd (Pl.rv m i.r1)) (Pl.wd (Pl.rv m i.r2))) = m2 at *
  clear h hc hf hr h0 h1 hfin
  go_enter Tryz.func62, Tryz.ntmps62
  go_wp2_with fail
  go_region
  go_wp2_with (first | (go_at_call 79; refine (HO.out _ (by repeat (first | exact below_alloc _ _ | refine Below.drew ?_ | refine below_drewN ?_ _))).mono ?_; rintro e u2 ⟨rfl, hr2, z1, z8, zf⟩; have H2 : Hid (Run D g u2 v m2 ∧ St D u u2) := hr2; clear hr2) | (go_at_call 64; refine (implWord_any _ _).mono ?_; rintro e u3 ⟨rfl, rfl⟩))
  go_end0
  exact ⟨rfl, ⟨v, MemS.refl v, H2.out.1.setPc _⟩, H2.out.2.trans (St.set (H2.out.1.ne 0 rfl))⟩
end Go.Proofs.YtjdfffdeljgenaaGreatDoor.W
