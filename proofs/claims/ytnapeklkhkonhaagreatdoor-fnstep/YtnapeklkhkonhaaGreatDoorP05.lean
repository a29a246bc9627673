import Derived.Test.YtnapeklkhkonhaaGreatDoorP03
import Derived.Deep.AppendLies
import Derived.Deep.RegionLaw
import Derived.Test.YtnapeklkhkonhaaGreatDoorP11
set_option linter.unusedVariables false
set_option linter.unusedSimpArgs false
namespace Go.Proofs.YtnapeklkhkonhaaGreatDoor.Pl
def ecall (m : Mac) : Mac × Int :=
  if rv m 17 = 1 then (if 10000 ≤ m.out.length then (m, 6) else ({ m with out := m.out ++ [rv m 10 % 256] }, 0))
  else if rv m 17 = 2 then (match m.inp with | [] => ({ m with regs := m.regs.set 10 4294967295 }, 0) | b :: r => ({ m with regs := m.regs.set 10 b, inp := r }, 0))
  else if rv m 17 = 3 then ({ m with fin := 1, val := rv m 10 }, 0)
  else if rv m 17 = 4 then ({ m with fin := 3, val := 0 }, 0)
  else (m, 5)
end Go.Proofs.YtnapeklkhkonhaaGreatDoor.Pl
namespace Go.Proofs.YtnapeklkhkonhaaGreatDoor.W
open Go.RowKit
set_option maxHeartbeats 2000000 in
theorem ec_no (g r c : Nat) (n : Int) (h1 : (n == 1) = false) (h2 : (n == 2) = false) (h3 : (n == 3) = false) (h4 : (n == 4) = false) (u : World) (cr : u.cell? ⟨g, 2, none⟩ = some (.slice (some ⟨r, 0, none⟩) 32 c)) (c17 : u.cell? ⟨r, 17, none⟩ = some (.int .i64 n)) :
    Calls Tryz.prog 61 #[.pointer (some ⟨g, 0, none⟩)] u fun e u' => e = .returned (.int .i64 5) ∧ u' = u := by
  go_enter Tryz.func61, Tryz.ntmps61
  go_wp2
  go_ret
  exact ⟨rfl, rfl⟩
set_option maxHeartbeats 2000000 in
theorem ec_full (g r c : Nat) (oa : Option Addr) (ol oc : Nat) (hol : 10000 ≤ ol) (hom : ol ≤ 1048576) (u : World) (cr : u.cell? ⟨g, 2, none⟩ = some (.slice (some ⟨r, 0, none⟩) 32 c)) (c17 : u.cell? ⟨r, 17, none⟩ = some (.int .i64 1)) (co : u.cell? ⟨g, 6, none⟩ = some (.slice oa ol oc)) :
    Calls Tryz.prog 61 #[.pointer (some ⟨g, 0, none⟩)] u fun e u' => e = .returned (.int .i64 6) ∧ u' = u := by
  have e1 : decide (10000 ≤ (ol : Int)) = true := by simp; omega
  go_enter Tryz.func61, Tryz.ntmps61
  go_wp2
  go_ret
  exact ⟨rfl, rfl⟩
set_option maxHeartbeats 2000000 in
theorem ec_exit (g r c : Nat) (x : Int) (y8 y9 : Value) (u : World) (cr : u.cell? ⟨g, 2, none⟩ = some (.slice (some ⟨r, 0, none⟩) 32 c)) (c17 : u.cell? ⟨r, 17, none⟩ = some (.int .i64 3)) (c10 : u.cell? ⟨r, 10, none⟩ = some (.int .i64 x)) (c8 : u.cell? ⟨g, 8, none⟩ = some y8) (c9 : u.cell? ⟨g, 9, none⟩ = some y9) (hf8 : u.frozen? ⟨g, 8, none⟩ = false) (hf9 : u.frozen? ⟨g, 9, none⟩ = false) (hne : g ≠ r) :
    Calls Tryz.prog 61 #[.pointer (some ⟨g, 0, none⟩)] u fun e u' => e = .returned (.int .i64 0) ∧ u' = (u.setCell ⟨g, 8, none⟩ (.int .i64 1)).setCell ⟨g, 9, none⟩ (.int .i64 x) := by
  have s1 : ∀ y, (u.setCell ⟨g, 8, none⟩ y).cell? ⟨g, 2, none⟩ = some (.slice (some ⟨r, 0, none⟩) 32 c) := fun y => by rw [World.cell?_setCell_other _ _ _ _ (by intro e; injection e with _ e2; cases e2)]; exact cr
  have s2 : ∀ y, (u.setCell ⟨g, 8, none⟩ y).cell? ⟨r, 10, none⟩ = some (.int .i64 x) := fun y => by rw [World.cell?_setCell_other _ _ _ _ (by intro e; injection e with e1 _; exact hne e1)]; exact c10
  go_enter Tryz.func61, Tryz.ntmps61
  go_wp2
  go_ret
  exact ⟨rfl, rfl⟩
set_option maxHeartbeats 2000000 in
theorem ec_over (g r c : Nat) (y8 y9 : Value) (u : World) (cr : u.cell? ⟨g, 2, none⟩ = some (.slice (some ⟨r, 0, none⟩) 32 c)) (c17 : u.cell? ⟨r, 17, none⟩ = some (.int .i64 4)) (c8 : u.cell? ⟨g, 8, none⟩ = some y8) (c9 : u.cell? ⟨g, 9, none⟩ = some y9) (hf8 : u.frozen? ⟨g, 8, none⟩ = false) (hf9 : u.frozen? ⟨g, 9, none⟩ = false) :
    Calls Tryz.prog 61 #[.pointer (some ⟨g, 0, none⟩)] u fun e u' => e = .returned (.int .i64 0) ∧ u' = (u.setCell ⟨g, 8, none⟩ (.int .i64 3)).setCell ⟨g, 9, none⟩ (.int .i64 0) := by
  go_enter Tryz.func61, Tryz.ntmps61
  go_wp2
  go_ret
  exact ⟨rfl, rfl⟩
set_option maxHeartbeats 2000000 in
theorem ec_none (g r c : Nat) (ia : Option Addr) (ic : Nat) (y : Value) (u : World) (cr : u.cell? ⟨g, 2, none⟩ = some (.slice (some ⟨r, 0, none⟩) 32 c)) (c17 : u.cell? ⟨r, 17, none⟩ = some (.int .i64 2)) (ci : u.cell? ⟨g, 5, none⟩ = some (.slice ia 0 ic)) (c10 : u.cell? ⟨r, 10, none⟩ = some y) (hf : u.frozen? ⟨r, 10, none⟩ = false) :
    Calls Tryz.prog 61 #[.pointer (some ⟨g, 0, none⟩)] u fun e u' => e = .returned (.int .i64 0) ∧ u' = u.setCell ⟨r, 10, none⟩ (.int .i64 4294967295) := by
  go_enter Tryz.func61, Tryz.ntmps61
  go_wp2
  go_ret
  exact ⟨rfl, rfl⟩
set_option maxRecDepth 8000 in
set_option maxHeartbeats 4000000 in
theorem ec_get (g r c b off il ic : Nat) (x : Int) (y : Value) (h1 : 1 ≤ il) (h2 : il ≤ ic) (h3 : (ic : Int) ≤ 9223372036854775807) (hx : 0 ≤ x ∧ x ≤ 255) (u : World) (cr : u.cell? ⟨g, 2, none⟩ = some (.slice (some ⟨r, 0, none⟩) 32 c)) (c17 : u.cell? ⟨r, 17, none⟩ = some (.int .i64 2)) (ci : u.cell? ⟨g, 5, none⟩ = some (.slice (some ⟨b, off, none⟩) il ic)) (cx : u.cell? ⟨b, off, none⟩ = some (.int .u8 x)) (c10 : u.cell? ⟨r, 10, none⟩ = some y) (hf : u.frozen? ⟨r, 10, none⟩ = false) (hg : u.frozen? ⟨g, 5, none⟩ = false) (hne : g ≠ r) :
    Calls Tryz.prog 61 #[.pointer (some ⟨g, 0, none⟩)] u fun e u' => e = .returned (.int .i64 0) ∧ ∃ k p, (il ≠ 1 → p = some ⟨b, off + 1, none⟩) ∧ (p = some ⟨b, off + 1, none⟩ ∨ p = some ⟨b, off, none⟩) ∧ u' = ((u.setCell ⟨r, 10, none⟩ (.int .i64 x)).drewN k).setCell ⟨g, 5, none⟩ (.slice p (il - 1) (ic - 1)) := by
  have l0 : ((il : Int) == 0) = false := by simp; omega
  have l1 : (0 : Int) < (il : Int) := by omega
  have l2 : (1 : Int) ≤ (il : Int) := by omega
  have l3 : (il : Int) ≤ (ic : Int) := by omega
  have s1 : ∀ z, (u.setCell ⟨r, 10, none⟩ z).cell? ⟨g, 5, none⟩ = some (.slice (some ⟨b, off, none⟩) il ic) := fun z => by rw [World.cell?_setCell_other _ _ _ _ (by intro e; injection e with e1 _; exact hne e1.symm)]; exact ci
  by_cases hic : ic = 1
  · subst hic
    obtain rfl : il = 1 := by omega
    go_enter Tryz.func61, Tryz.ntmps61
    go_wp2_with fail
    go_region_with (fail)
    all_goals
      go_wp2
      go_ret
      exact ⟨rfl, 1, _, fun h => absurd rfl h, .inr rfl, rfl⟩
  · go_enter Tryz.func61, Tryz.ntmps61
    go_wp2_with fail
    go_region_with (fail)
    all_goals
      go_wp2
      go_ret
      exact ⟨rfl, 1, _, fun _ => rfl, .inl rfl, rfl⟩
theorem grown_cell {u W w1 : World} {row : Option Nat} {g j : Nat} {x : Value} (hb : Below u.heap.size u W) (hg : W.grownBy w1 row) (hx : u.cell? ⟨g, j, none⟩ = some x) (hne : ∀ y, row = some y → y ≠ g) : w1.cell? ⟨g, j, none⟩ = some x := by
  have hl := block_lt_of_cell hx
  rw [World.cell?_of_block (a := ⟨g, j, none⟩) (hg.block g (Nat.lt_of_lt_of_le hl hb.size) (fun e => hne g e.symm rfl)), hb.cell (p := ⟨g, j, none⟩) hl]
  exact hx
theorem grown_frozen {u W w1 : World} {row : Option Nat} {g j : Nat} (hb : Below u.heap.size u W) (hg : W.grownBy w1 row) (hl : g < u.heap.size) (hx : u.frozen? ⟨g, j, none⟩ = false) (hne : ∀ y, row = some y → y ≠ g) : w1.frozen? ⟨g, j, none⟩ = false := by
  rw [World.frozen?_of_block (a := ⟨g, j, none⟩) (hg.block g (Nat.lt_of_lt_of_le hl hb.size) (fun e => hne g e.symm rfl)), hb.frozen (p := ⟨g, j, none⟩) hl]
  exact hx
theorem grown_from {u W w1 : World} {row : Option Nat} (hb : Below u.heap.size u W) (hg : W.grownBy w1 row) : u.grownBy w1 row :=
  ⟨hg.os.trans hb.os, hg.tape.trans hb.tape, hg.output.trans hb.output, Nat.le_trans hb.size hg.size, fun k hk hr => (hg.block k (Nat.lt_of_lt_of_le hk hb.size) hr).trans (hb.block k hk)⟩
theorem byte_cell (w : World) (x : Int) (j : Nat) (z : Value) (hj : [Value.int .u8 x][j]? = some z) : (w.alloc (.cells #[.int .u8 x] 5)).cell? ((⟨w.heap.size, 0, none⟩ : Addr).add j) = some z := by
  rcases j with _ | j
  · cases hj
    exact cell_of_row _ w.heap.size 0 _ 5 (0, 0) (heap_alloc_new w _)
  · simp at hj
set_option maxRecDepth 8000 in
set_option maxHeartbeats 8000000 in
theorem ec_put (g r c : Nat) (oa : Option Addr) (ol oc : Nat) (x : Int) (zs : List Int) (hol : ol < 10000) (hx : 0 ≤ x ∧ x ≤ 4294967295) (u : World) (cr : u.cell? ⟨g, 2, none⟩ = some (.slice (some ⟨r, 0, none⟩) 32 c)) (c17 : u.cell? ⟨r, 17, none⟩ = some (.int .i64 1)) (co : u.cell? ⟨g, 6, none⟩ = some (.slice oa ol oc)) (c10 : u.cell? ⟨r, 10, none⟩ = some (.int .i64 x)) (hg : u.frozen? ⟨g, 6, none⟩ = false)
    (ho : u.ownsRow 0 5 1 (.slice oa ol oc) ol (zs.map (Value.int .u8))) (hne : ∀ y, (Value.slice oa ol oc).ownBlock = some y → y ≠ g) :
    Calls Tryz.prog 61 #[.pointer (some ⟨g, 0, none⟩)] u fun e u' => e = .returned (.int .i64 0) ∧ ∃ (w1 : World) (G cap k : Nat), w1.ownsRow 0 5 1 (.slice (some ⟨G, 0, none⟩) (ol + 1) cap) (ol + 1) ((zs ++ [x % 256]).map (Value.int .u8)) ∧ u.grownBy w1 (Value.slice oa ol oc).ownBlock ∧ ((Value.slice oa ol oc).ownBlock = some G ∨ u.heap.size ≤ G) ∧ G < w1.heap.size ∧ u' = (w1.setCell ⟨g, 6, none⟩ (.slice (some ⟨G, 0, none⟩) (ol + 1) cap)).drewN k := by
  obtain ⟨i0, hi, hz0, hz1, hz2⟩ := info_parts Tryz.infou8
  have HO : Hid (u.ownsRow 0 5 1 (.slice oa ol oc) ol (zs.map (Value.int .u8))) := ho
  have HN : Hid (∀ y, (Value.slice oa ol oc).ownBlock = some y → y ≠ g) := hne
  clear ho hne
  have e1 : decide (10000 ≤ (ol : Int)) = false := by simp; omega
  have hX : IntKind.u8.wrap (x.tmod 256) = x % 256 := by rw [Int.tmod_eq_emod_of_nonneg hx.1]; simp [IntKind.wrap, IntKind.signed, IntKind.bits]
  have co' := fl_alloc co
  have cr' := fl_alloc cr
  have c10' := fl_alloc c10
  go_enter Tryz.func61, Tryz.ntmps61
  go_wp2_with fail
  go_region_law ((refine step_append_lies _ (by rfl) (.tmp 22) (.tmp 31) 22 (by rfl) 0 5 i0 (.int .u8 0) 1 1 Tryz.underlying22 hi hz0 hz1 hz2 rfl (by decide) (.slice oa ol oc) ol (zs.map (Value.int .u8)) (by rfl) (by first | exact HO.out.alloc _ | exact (HO.out.alloc _).drew) ⟨u.heap.size, 0, none⟩ 1 1 [.int .u8 (x % 256)] (by rfl) rfl (byte_cell u (x % 256)) (by intro z hz; simp at hz; subst hz; rfl) (by decide) (by unfold maxLen; omega) (by omega) (Nat.zero_le _) _ rfl ?_; intro G cap w1 hown1 hgrow hat hlt; have q6 : w1.cell? ⟨g, 6, none⟩ = some (.slice oa ol oc) := grown_cell (u := u) (by repeat (first | exact below_alloc _ _ | refine Below.drew ?_ | refine below_drewN ?_ _)) hgrow co HN.out; have qf : w1.frozen? ⟨g, 6, none⟩ = false := grown_frozen (u := u) (by repeat (first | exact below_alloc _ _ | refine Below.drew ?_ | refine below_drewN ?_ _)) hgrow (block_lt_of_cell co) hg HN.out; have HG : Hid (u.grownBy w1 (Value.slice oa ol oc).ownBlock) := grown_from (by repeat (first | exact below_alloc _ _ | refine Below.drew ?_ | refine below_drewN ?_ _)) hgrow; have HA : Hid ((Value.slice oa ol oc).ownBlock = some G ∨ u.heap.size ≤ G) := (by rcases hat with h | h; exact .inl h; exact .inr (by rw [h]; simp) : (Value.slice oa ol oc).ownBlock = some G ∨ u.heap.size ≤ G); have HW : Hid (w1.ownsRow 0 5 1 (.slice (some ⟨G, 0, none⟩) (ol + 1) cap) (ol + 1) ((zs ++ [x % 256]).map (Value.int .u8))) := (by rw [List.map_append]; exact hown1 : w1.ownsRow 0 5 1 (.slice (some ⟨G, 0, none⟩) (ol + 1) cap) (ol + 1) ((zs ++ [x % 256]).map (Value.int .u8))); clear hown1 hgrow hat))
  all_goals
    go_wp2
    go_ret
    first | exact ⟨rfl, w1, G, cap, 0, HW.out, HG.out, HA.out, hlt, rfl⟩ | exact ⟨rfl, w1, G, cap, 1, HW.out, HG.out, HA.out, hlt, rfl⟩
theorem Run.setInp {D : Nat → Prop} {g : Nat} {u : World} {v : MV} {m : Pl.Mac} (h : Run D g u v m) (p : Option Addr) (len cap : Nat) (zs : List Int) (hp : p.map (·.block) = v.inp.a.map (·.block)) (hr : Row .u8 0 u p len cap zs) :
    Run D g (u.setCell ⟨g, 5, none⟩ (.slice p len cap)) { v with inp := ⟨p, len, cap⟩ } { m with inp := zs } := by
  have hs : u.heap.size ≤ (u.setCell ⟨g, 5, none⟩ (.slice p len cap)).heap.size := by simp
  have hk : ∀ y, y ≠ g → (u.setCell ⟨g, 5, none⟩ (.slice p len cap)).heap[y]? = u.heap[y]? := fun y hy => Below.heap_setCell u ⟨g, 5, none⟩ _ y hy
  have hB : blks g { v with inp := ⟨p, len, cap⟩ } = blks g v := by simp [blks, hp]
  refine ⟨fun y hy => ⟨by simpa using (h.av y hy).1, by rw [hB]; exact (h.av y hy).2⟩, row_put h.box 5 _ rfl, h.code.other hs fun y hy => hk y (h.ap.ne 1 (by decide) (by decide) (by rw [← hy]; rfl)), h.regs.other fun y hy => hk y (h.ap.ne 2 (by decide) (by decide) (by rw [← hy]; rfl)), h.data.other fun y hy => hk y (h.ap.ne 3 (by decide) (by decide) (by rw [← hy]; rfl)), h.stk.other fun y hy => hk y (h.ap.ne 4 (by decide) (by decide) (by rw [← hy]; rfl)), hr.other hs fun y hy => hk y (h.ap.ne 5 (by decide) (by decide) (by rw [← hy, hp]; rfl)), h.out.other fun y hy => hk y (h.ap.ne 6 (by decide) (by decide) (by rw [← hy]; rfl)), ?_, fun i y hy => by rw [hB] at hy; simpa using h.lt i y hy, fun i y hy j => by rw [hB] at hy; exact (World.frozen?_setCell _ _ _ _).trans (h.fz i y hy j)⟩
  unfold Apart
  rw [hB]
  exact h.ap
theorem own_blk {k : IntKind} {e : TypeId} {lo : Nat} {u : World} {a : Option Addr} {len cap : Nat} {zs : List Int} (h : Own k e lo u a len cap zs) : (Value.slice a len cap).ownBlock = a.map (·.block) := by
  rcases h.1.2 with ⟨h0, _⟩ | ⟨b, c, cur, h0, _⟩
  · rw [h0]; simp only [Value.slice.injEq] at h0; rw [h0.1]; rfl
  · rw [h0]; simp only [Value.slice.injEq] at h0; rw [h0.1]; rfl
theorem Run.setOut {D : Nat → Prop} {g G n cap : Nat} {u w1 : World} {v : MV} {m : Pl.Mac} {zs : List Int} (h : Run D g u v m) (hg : u.grownBy w1 (v.out.a.map (·.block))) (hG : v.out.a.map (·.block) = some G ∨ u.heap.size ≤ G) (hl : G < w1.heap.size) (ho : Own .u8 5 0 w1 (some ⟨G, 0, none⟩) n cap zs) :
    Run D g (w1.setCell ⟨g, 6, none⟩ (.slice (some ⟨G, 0, none⟩) n cap)) { v with out := ⟨some ⟨G, 0, none⟩, n, cap⟩ } { m with out := zs } ∧ St D u (w1.setCell ⟨g, 6, none⟩ (.slice (some ⟨G, 0, none⟩) n cap)) := by
  have b6 : (blks g v)[6]? = some (v.out.a.map (·.block)) := rfl
  have hk : ∀ (i : Nat) y, i < 6 → (blks g v)[i]? = some (some y) → w1.heap[y]? = u.heap[y]? := fun i y hi hy => hg.block y (h.lt i y hy) (fun e => h.ap i 6 (by omega) (by decide) (by omega) y hy (by rw [b6, ← e]))
  have hGne : ∀ (i : Nat) y, i < 6 → (blks g v)[i]? = some (some y) → y ≠ G := fun i y hi hy e => by
    rcases hG with h1 | h1
    · exact h.ap i 6 (by omega) (by decide) (by omega) y hy (by rw [b6, h1, e])
    · have := h.lt i y hy; omega
  have hgg : (blks g v)[0]? = some (some g) := rfl
  have hs1 : u.heap.size ≤ w1.heap.size := hg.size
  have hs : w1.heap.size ≤ (w1.setCell ⟨g, 6, none⟩ (.slice (some ⟨G, 0, none⟩) n cap)).heap.size := by simp
  have kk : ∀ (i : Nat) y, i < 6 → i ≠ 0 → (blks g v)[i]? = some (some y) → (w1.setCell ⟨g, 6, none⟩ (.slice (some ⟨G, 0, none⟩) n cap)).heap[y]? = u.heap[y]? := fun i y hi h0 hy => (Below.heap_setCell w1 ⟨g, 6, none⟩ _ y (h.ap.ne i (by omega) h0 hy)).trans (hk i y hi hy)
  have hB : ∀ (i : Nat), i < 6 → (blks g { v with out := ⟨some ⟨G, 0, none⟩, n, cap⟩ })[i]? = (blks g v)[i]? := fun i hi => by
    rcases (show i = 0 ∨ i = 1 ∨ i = 2 ∨ i = 3 ∨ i = 4 ∨ i = 5 by omega) with e | e | e | e | e | e <;> subst e <;> rfl
  have hB6 : (blks g { v with out := ⟨some ⟨G, 0, none⟩, n, cap⟩ })[6]? = some (some G) := rfl
  have hB7 : ∀ (i : Nat), 7 ≤ i → (blks g { v with out := ⟨some ⟨G, 0, none⟩, n, cap⟩ })[i]? = none := fun i hi => List.getElem?_eq_none (by simpa [blks] using hi)
  have hDG : ∀ x, D x → x ≠ G := fun x hx e => by
    rcases hG with h1 | h1
    · exact (h.av x hx).2 6 (by rw [b6, h1, e])
    · have := (h.av x hx).1; omega
  refine ⟨⟨fun x hx => ⟨Nat.lt_of_lt_of_le (h.av x hx).1 (Nat.le_trans hs1 hs), fun i => ?_⟩, row_put ((hk 0 g (by decide) hgg).trans h.box) 6 _ rfl, h.code.other (Nat.le_trans hs1 hs) fun y hy => kk 1 y (by decide) (by decide) (by rw [← hy]; rfl), h.regs.other fun y hy => kk 2 y (by decide) (by decide) (by rw [← hy]; rfl), h.data.other fun y hy => kk 3 y (by decide) (by decide) (by rw [← hy]; rfl), h.stk.other fun y hy => kk 4 y (by decide) (by decide) (by rw [← hy]; rfl), h.inp.other (Nat.le_trans hs1 hs) fun y hy => kk 5 y (by decide) (by decide) (by rw [← hy]; rfl), ho.other fun y hy => Below.heap_setCell w1 ⟨g, 6, none⟩ _ y (by cases hy; exact (hGne 0 g (by decide) hgg).symm), fun i j hi hj hij x hx hx2 => ?_, fun i x hx => ?_, fun i x hx j => by
    rcases Nat.lt_or_ge i 6 with h6 | h6
    · rw [hB i h6] at hx
      exact (World.frozen?_setCell _ _ _ _).trans ((World.frozen?_of_block (w := u) (hk i x h6 hx)).trans (h.fz i x hx j))
    · rcases Nat.eq_or_lt_of_le h6 with e | e
      · rw [← e, hB6] at hx
        cases hx
        exact (World.frozen?_setCell _ _ _ _).trans (own_unfrozen ho rfl j)
      · rw [hB7 i e] at hx; cases hx⟩, ⟨hg.os, hg.tape, hg.output, Nat.le_trans hs1 hs, fun x hx => ?_⟩⟩
  · by_cases h6 : i < 6
    · rw [hB i h6]; exact (h.av x hx).2 i
    · by_cases e6 : i = 6
      · subst e6; rw [hB6]; intro e; cases e; exact hDG _ hx rfl
      · rw [hB7 i (by omega)]; intro e; cases e
  · by_cases i6 : i = 6
    · subst i6
      rw [hB6] at hx
      cases hx
      rw [hB j (by omega)] at hx2
      exact hGne j G (by omega) hx2 rfl
    · by_cases j6 : j = 6
      · subst j6
        rw [hB6] at hx2
        cases hx2
        rw [hB i (by omega)] at hx
        exact hGne i G (by omega) hx rfl
      · rw [hB i (by omega)] at hx
        rw [hB j (by omega)] at hx2
        exact h.ap i j hi hj hij x hx hx2
  · by_cases h6 : i < 6
    · rw [hB i h6] at hx; exact Nat.lt_of_lt_of_le (h.lt i x hx) (Nat.le_trans hs1 hs)
    · by_cases e6 : i = 6
      · subst e6; rw [hB6] at hx; cases hx; exact Nat.lt_of_lt_of_le hl hs
      · rw [hB7 i (by omega)] at hx; cases hx
  · rw [Below.heap_setCell w1 ⟨g, 6, none⟩ _ x (h.ne 0 hgg x hx)]
    exact hg.block x (h.av x hx).1 (fun e => (h.av x hx).2 6 (by rw [b6, ← e]))
end Go.Proofs.YtnapeklkhkonhaaGreatDoor.W
namespace Go.Proofs.YtnapeklkhkonhaaGreatDoor.W
open Go.RowKit
theorem Run.unfrozen {D : Nat → Prop} {g : Nat} {u : World} {v : MV} {m : Pl.Mac} (h : Run D g u v m) (j : Nat) : u.frozen? ⟨g, j, none⟩ = false := by
  simp [World.frozen?, h.box]
theorem byte_wf1 (x : Int) : (Lit.int .u8 (x % 256)).wf = true := by
  have h1 : 0 ≤ x % 256 := by omega
  have h2 : x % 256 ≤ 255 := by omega
  generalize x % 256 = y at h1 h2
  simp [Lit.wf, IntKind.min, IntKind.max, IntKind.signed, IntKind.bits]
  omega
theorem word_wf {x : Int} (h : 0 ≤ x ∧ x ≤ 4294967295) : (Lit.int .i64 x).wf = true := by
  simp [Lit.wf, IntKind.min, IntKind.max, IntKind.signed, IntKind.bits]
  omega
theorem l3Ecall_run {D : Nat → Prop} {g : Nat} {u : World} {v : MV} {m : Pl.Mac} (h : Run D g u v m) (hv : Pl.Vd m) :
    Calls Tryz.prog 61 #[.pointer (some ⟨g, 0, none⟩)] u fun e u' => e = .returned (.int .i64 (Pl.ecall m).2) ∧ (∃ v', Run D g u' v' (Pl.ecall m).1) ∧ St D u u' := by
  obtain ⟨r, c, hr, hc, hf⟩ := h.regsAt hv.regs
  have cr : u.cell? ⟨g, 2, none⟩ = some (.slice (some ⟨r, 0, none⟩) 32 c) := by rw [h.cell 2, hr]; rfl
  have c17 : u.cell? ⟨r, 17, none⟩ = some (.int .i64 (Pl.rv m 17)) := hc 17 (by decide)
  have c10 : u.cell? ⟨r, 10, none⟩ = some (.int .i64 (Pl.rv m 10)) := hc 10 (by decide)
  have w10 := hv.word 10 (by decide)
  have hB2 : (blks g v)[2]? = some (some r) := by simp [blks, hr]
  have hgr : g ≠ r := (h.ap.ne 2 (by decide) (by decide) hB2).symm
  have ra : v.regs.a = some ⟨r, 0, none⟩ := by rw [hr]
  unfold Pl.ecall
  by_cases h1 : Pl.rv m 17 = 1
  · rw [if_pos h1]
    rw [h1] at c17
    have hol : m.out.length = v.out.len := h.out.row.1
    by_cases hfull : 10000 ≤ m.out.length
    · rw [if_pos hfull]
      exact (ec_full g r c v.out.a v.out.len v.out.cap (by omega) (by have := hv.out; omega) u cr c17 (h.cell 6)).mono fun e u' ⟨he, hu⟩ => by rw [hu]; exact ⟨he, ⟨v, h⟩, St.refl _ _⟩
    · rw [if_neg hfull]
      refine (ec_put g r c v.out.a v.out.len v.out.cap (Pl.rv m 10) m.out (by omega) w10 u cr c17 (h.cell 6) c10 (h.unfrozen 6) h.out.1 (fun y hy => h.ap.ne 6 (by decide) (by decide) (by rw [own_blk h.out] at hy; rw [← hy]; rfl))).mono fun e u' ⟨he, w1, G, cap, k, ho, hg, hG, hl, hu⟩ => ?_
      rw [own_blk h.out] at hg hG
      have ho' : Own .u8 5 0 w1 (some ⟨G, 0, none⟩) (v.out.len + 1) cap (m.out ++ [Pl.rv m 10 % 256]) := ⟨ho, fun n hn => by
        rcases List.mem_append.1 hn with hn | hn
        · exact h.out.2 n hn
        · simp at hn; rw [hn]; exact byte_wf1 _⟩
      obtain ⟨hR, hS⟩ := h.setOut hg hG hl ho'
      rw [hu]
      exact ⟨he, ⟨_, hR.keep (below_drewN (Below.refl _ _) k)⟩, hS.trans (hR.st (below_drewN (Below.refl _ _) k))⟩
  rw [if_neg h1]
  by_cases h2 : Pl.rv m 17 = 2
  · rw [if_pos h2]
    rw [h2] at c17
    cases hin : m.inp with
    | nil =>
      have hil : v.inp.len = 0 := by have := h.inp.1; rw [hin] at this; simpa using this.symm
      have ci : u.cell? ⟨g, 5, none⟩ = some (.slice v.inp.a 0 v.inp.cap) := by rw [h.cell 5, ← hil]; rfl
      refine (ec_none g r c v.inp.a v.inp.cap _ u cr c17 ci c10 (hf 10)).mono fun e u' ⟨he, hu⟩ => ?_
      have hR := h.setReg ra 10 4294967295 (by decide)
      rw [hin] at hR
      rw [hu]
      exact ⟨he, ⟨v, hR⟩, St.set (h.ne 2 hB2)⟩
    | cons x xs =>
      obtain ⟨i1, i2, i3, i4, i5⟩ := h.inp
      rw [hin] at i1 i4 i5
      have hil : v.inp.len = xs.length + 1 := by simpa using i1.symm
      rcases i5 with i5 | ⟨b, off, ia, _, hb, hcc⟩
      · omega
      have ci : u.cell? ⟨g, 5, none⟩ = some (.slice (some ⟨b, off, none⟩) v.inp.len v.inp.cap) := by rw [h.cell 5, ← ia]; rfl
      have cx : u.cell? ⟨b, off, none⟩ = some (.int .u8 x) := hcc 0 (by omega)
      have hx := Pl.u8_bd (i4 x (by simp))
      refine (ec_get g r c b off v.inp.len v.inp.cap x _ (by omega) i2 (by unfold maxLen at i3; omega) hx u cr c17 ci cx c10 (hf 10) (h.unfrozen 5) hgr).mono fun e u' ⟨he, k, p, hp1, hp2, hu⟩ => ?_
      have hR := (h.setReg ra 10 x (word_wf (by omega))).keep (below_drewN (Below.refl _ _) k)
      have hS : St D u ((u.setCell ⟨r, 10, none⟩ (.int .i64 x)).drewN k) := (St.set (h.ne 2 hB2)).trans ((h.setReg ra 10 x (word_wf (by omega))).st (below_drewN (Below.refl _ _) k))
      have hpb : p.map (·.block) = v.inp.a.map (·.block) := by rw [ia]; rcases hp2 with e | e <;> rw [e] <;> rfl
      have hrow : Row .u8 0 ((u.setCell ⟨r, 10, none⟩ (.int .i64 x)).drewN k) p (v.inp.len - 1) (v.inp.cap - 1) xs := by
        refine ⟨by omega, by omega, by unfold maxLen at i3 ⊢; omega, fun n hn => i4 n (by simp [hn]), ?_⟩
        by_cases hl1 : v.inp.len = 1
        · exact .inl (by omega)
        · refine .inr ⟨b, off + 1, hp1 hl1, Nat.zero_le _, by simpa using hb, fun i hi => ?_⟩
          have hq : b ≠ r := fun e => h.ap 2 5 (by decide) (by decide) (by decide) r hB2 (by simp [blks, ia, e])
          show (u.setCell ⟨r, 10, none⟩ (.int .i64 x)).cell? ⟨b, off + 1 + i, none⟩ = _
          rw [World.cell?_setCell_other _ _ _ _ (by intro e; injection e with e1 _; exact hq e1.symm)]
          have := hcc (i + 1) (by omega)
          rw [show off + 1 + i = off + (i + 1) by omega, this]
          simp
      have hR2 := hR.setInp p (v.inp.len - 1) (v.inp.cap - 1) xs hpb hrow
      rw [hu]
      exact ⟨he, ⟨_, hR2⟩, hS.trans (St.set (hR.ne 0 rfl))⟩
  rw [if_neg h2]
  by_cases h3 : Pl.rv m 17 = 3
  · rw [if_pos h3]
    rw [h3] at c17
    refine (ec_exit g r c (Pl.rv m 10) _ _ u cr c17 c10 (h.cell 8) (h.cell 9) (h.unfrozen 8) (h.unfrozen 9) hgr).mono fun e u' ⟨he, hu⟩ => ?_
    have hR := h.setFin 1
    rw [hu]
    exact ⟨he, ⟨v, hR.setVal (Pl.rv m 10)⟩, (St.set (h.ne 0 rfl)).trans (St.set (hR.ne 0 rfl))⟩
  rw [if_neg h3]
  by_cases h4 : Pl.rv m 17 = 4
  · rw [if_pos h4]
    rw [h4] at c17
    refine (ec_over g r c _ _ u cr c17 (h.cell 8) (h.cell 9) (h.unfrozen 8) (h.unfrozen 9)).mono fun e u' ⟨he, hu⟩ => ?_
    have hR := h.setFin 3
    rw [hu]
    exact ⟨he, ⟨v, hR.setVal 0⟩, (St.set (h.ne 0 rfl)).trans (St.set (hR.ne 0 rfl))⟩
  rw [if_neg h4]
  exact (ec_no g r c (Pl.rv m 17) (by simpa using h1) (by simpa using h2) (by simpa using h3) (by simpa using h4) u cr c17).mono fun e u' ⟨he, hu⟩ => by rw [hu]; exact ⟨he, ⟨v, h⟩, St.refl _ _⟩
end Go.Proofs.YtnapeklkhkonhaaGreatDoor.W
namespace Go.Proofs.YtnapeklkhkonhaaGreatDoor.Pl
def ali (op : Int) : Int := if op = 19 then 1 else if op = 20 then 4 else if op = 21 then 5 else if op = 22 then 6 else if op = 23 then 9 else if op = 24 then 10 else if op = 25 then 3 else if op = 26 then 7 else 8
def act (m : Mac) (i : Ins) : Mac × Int :=
  if (flow m i).2.1 = true then ({ (flow m i).2.2 with pc := (flow m i).1 }, 0)
  else if i.op ≤ 18 then ({ setR m i.rd (al i.op.toNat (wd (rv m i.r1)) (wd (rv m i.r2))) with pc := wd (m.pc + 4) }, 0)
  else if i.op ≤ 27 then ({ setR m i.rd (al (ali i.op).toNat (wd (rv m i.r1)) (wd i.im)) with pc := wd (m.pc + 4) }, 0)
  else if i.op ≤ 32 then (if (ldv m (lsk i.op) (wd (rv m i.r1 + i.im))).2 = 0 then ({ setR m i.rd (ldv m (lsk i.op) (wd (rv m i.r1 + i.im))).1 with pc := wd (m.pc + 4) }, 0) else (m, (ldv m (lsk i.op) (wd (rv m i.r1 + i.im))).2))
  else if i.op ≤ 36 then (if (stv m (lsk i.op) (wd (rv m i.r1 + i.im)) (rv m i.r2)).2 = 0 then ({ (stv m (lsk i.op) (wd (rv m i.r1 + i.im)) (rv m i.r2)).1 with pc := wd (m.pc + 4) }, 0) else ((stv m (lsk i.op) (wd (rv m i.r1 + i.im)) (rv m i.r2)).1, (stv m (lsk i.op) (wd (rv m i.r1 + i.im)) (rv m i.r2)).2))
  else if i.op = 43 then ({ setR m i.rd (i.im * 4096) with pc := wd (m.pc + 4) }, 0)
  else if i.op = 44 then ({ setR m i.rd (m.pc + i.im * 4096) with pc := wd (m.pc + 4) }, 0)
  else if i.op = 47 then (m, 5)
  else (if (ecall m).2 = 0 ∧ (ecall m).1.fin = 0 then ({ (ecall m).1 with pc := wd (m.pc + 4) }, 0) else ecall m)
end Go.Proofs.YtnapeklkhkonhaaGreatDoor.Pl
namespace Go.Proofs.YtnapeklkhkonhaaGreatDoor.W
open Go.RowKit
theorem Run.mono {D D' : Nat → Prop} {g : Nat} {u : World} {v : MV} {m : Pl.Mac} (h : Run D' g u v m) (hd : ∀ x, D x → D' x) : Run D g u v m := ⟨fun x hx => h.av x (hd x hx), h.box, h.code, h.regs, h.data, h.stk, h.inp, h.out, h.ap, h.lt, h.fz⟩
theorem St.mono {D D' : Nat → Prop} {u u' : World} (h : St D' u u') (hd : ∀ x, D x → D' x) : St D u u' := ⟨h.os, h.tape, h.output, h.size, fun x hx => h.keep x (hd x hx)⟩
theorem Run.beside {D : Nat → Prop} {g : Nat} {u : World} {v : MV} {m : Pl.Mac} (h : Run D g u v m) (o : Obj) : Run (fun x => D x ∨ x = u.heap.size) g (u.alloc o) v m := by
  have k := h.keep (below_alloc u o)
  refine ⟨fun x hx => ?_, k.box, k.code, k.regs, k.data, k.stk, k.inp, k.out, k.ap, k.lt, k.fz⟩
  rcases hx with hx | rfl
  · exact k.av x hx
  · exact ⟨by simp, fun i e => Nat.lt_irrefl _ (h.lt i _ e)⟩
theorem ins_cells {u : World} {q : Nat} {op rd r1 r2 im : Int} (h : u.heap[q]? = some (.cells #[.int .i64 op, .int .i64 rd, .int .i64 r1, .int .i64 r2, .int .i64 im] 67)) : u.cell? ⟨q, 0, none⟩ = some (.int .i64 op) ∧ u.cell? ⟨q, 1, none⟩ = some (.int .i64 rd) ∧ u.cell? ⟨q, 2, none⟩ = some (.int .i64 r1) ∧ u.cell? ⟨q, 3, none⟩ = some (.int .i64 r2) ∧ u.cell? ⟨q, 4, none⟩ = some (.int .i64 im) :=
  ⟨cell_of_row u q 0 _ 67 (0, 0) h, cell_of_row u q 1 _ 67 (0, 0) h, cell_of_row u q 2 _ 67 (0, 0) h, cell_of_row u q 3 _ 67 (0, 0) h, cell_of_row u q 4 _ 67 (0, 0) h⟩
set_option maxRecDepth 8000 in
set_option maxHeartbeats 4000000 in
theorem do_flow {D : Nat → Prop} {g : Nat} {u : World} {v : MV} {m : Pl.Mac} (h : Run D g u v m) (hv : Pl.Vd m) (i : Pl.Ins) (hi : Pl.InsOk i) (hf : (Pl.flow m i).2.1 = true) :
    Calls Tryz.prog 41 #[.pointer (some ⟨g, 0, none⟩), .agg #[.int .i64 i.op, .int .i64 i.rd, .int .i64 i.r1, .int .i64 i.r2, .int .i64 i.im]] u fun e u' => e = .returned (.int .i64 0) ∧ (∃ v', Run D g u' v' { (Pl.flow m i).2.2 with pc := (Pl.flow m i).1 }) ∧ St D u u' := by
  have HF : Hid (∀ U : World, Below u.heap.size u U → Calls Tryz.prog 54 #[.pointer (some ⟨g, 0, none⟩), .agg #[.int .i64 i.op, .int .i64 i.rd, .int .i64 i.r1, .int .i64 i.r2, .int .i64 i.im]] U fun e u' => e = .returned (.tuple #[.int .i64 (Pl.flow m i).1, .bool true]) ∧ Run D g u' v (Pl.flow m i).2.2 ∧ St D U u') := fun U hU => by
    have := l3Flow_run (h.keep hU) hv i hi
    rw [hf] at this
    exact this
  have HS : Hid (∀ U : World, Below u.heap.size u U → St D u U) := fun U hU => h.st hU
  generalize (Pl.flow m i).1 = nx at *
  generalize (Pl.flow m i).2.2 = m2 at *
  clear hf
  go_enter Tryz.func41, Tryz.ntmps41
  go_wp2_with (go_at_call 54; refine (HF.out _ (below_alloc u _)).mono ?_; rintro e u1 ⟨rfl, hR1, hS1⟩; have p1 : u1.cell? ⟨g, 1, none⟩ = some (.int .i64 m2.pc) := hR1.cell 1; have p2 := hR1.unfrozen 1; have R1 : Hid (Run D g u1 v m2) := hR1; have S1 : Hid (St D u u1) := (HS.out _ (below_alloc u _)).trans hS1; clear hR1 hS1)
  go_ret
  exact ⟨rfl, ⟨v, R1.out.setPc nx⟩, S1.out.trans (St.set (R1.out.ne 0 rfl))⟩
end Go.Proofs.YtnapeklkhkonhaaGreatDoor.W
