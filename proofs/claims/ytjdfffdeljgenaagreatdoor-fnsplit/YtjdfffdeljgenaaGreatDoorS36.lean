import Derived.Test.YtjdfffdeljgenaaGreatDoorS11
import Derived.Test.YtjdfffdeljgenaaGreatDoorS01
import Derived.OwnWalk
import Derived.Laws.MakeOwn
import Derived.Laws.OwnMore
import Derived.Deep.AppendLies
set_option linter.unusedVariables false
set_option linter.unusedSimpArgs false
namespace Go.Proofs.YtjdfffdeljgenaaGreatDoor.W
open Go.RowKit
theorem RdOk.keep {B c : Nat} {u u' : World} (h : RdOk u c) (hb : Below B u u') (hB : c < B) : RdOk u' c := by
  obtain ⟨a, len, cap, p, hrow, h1, h2, h3⟩ := h
  refine ⟨a, len, cap, p, (hb.block c hB).trans hrow, h1, h2, ?_⟩
  rcases h3 with h3 | ⟨b, off, ha, hbc, hc⟩
  · exact .inl h3
  · refine .inr ⟨b, off, ha, hbc, fun i hi => ?_⟩
    obtain ⟨v, hv, hcell⟩ := hc i hi
    exact ⟨v, hv, (hb.cell (p := ⟨b, off + i, none⟩) (show b < B by omega)).trans hcell⟩
theorem own_only {c base : Nat} {e : TypeId} {k : Nat} {v : Value} {n : Nat} {xs : List Value} {w w' : World} (h : w.ownsRow base e k v n xs) (hb : OnlyB c w w') (hc : c < base) : w'.ownsRow base e k v n xs := by
  refine ⟨h.1, ?_⟩
  rcases h.2 with ⟨a, b⟩ | ⟨g, cap, cur, h0, hlo, hg, r⟩
  · exact .inl ⟨a, b⟩
  · exact .inr ⟨g, cap, cur, h0, hlo, (hb.block g (Array.getElem?_eq_some_iff.1 hg).1 (by omega)).trans hg, r⟩
end Go.Proofs.YtjdfffdeljgenaaGreatDoor.W
namespace Go.Proofs.YtjdfffdeljgenaaGreatDoor.W
open Go.RowKit
theorem byte_news (w : World) (A : Value) (j : Nat) (u : Value) (hj : [A][j]? = some u) : (w.alloc (.cells #[A] 5)).cell? ((⟨w.heap.size, 0, none⟩ : Addr).add j) = some u := by
  rcases j with _ | j
  · cases hj
    exact cell_of_row _ w.heap.size 0 _ 5 (0, 0) (heap_alloc_new w _)
  · simp at hj
set_option maxRecDepth 8000 in
set_option maxHeartbeats 4000000 in
theorem l3Input_any (w : World) (c : Nat) (h : RdOk w c) : Calls Tryz.prog 52 #[.pointer (some ⟨c, 0, none⟩)] w fun e w' => ∃ (a : Option Addr) (len cap : Nat), e = .returned (.slice a len cap) ∧ (∃ zs : List Int, Own .u8 5 w.heap.size w' a len cap zs) ∧ len ≤ 10001 ∧ RdOk w' c ∧ OnlyB c w w' := by
  obtain ⟨i0, hi0, hz0, hz1, hz2⟩ := info_parts Tryz.infou8
  have H0 : Hid (RdOk w c) := h
  clear h
  have hmk : ∀ (L : Nat), L ≤ 10001 → ∀ u : World, (Instr.makeSlice 22 (.int .i64 (L : Int)) (.int .i64 (L : Int))).run Tryz.prog u = .ok (.slice (some ⟨u.heap.size, 0, none⟩) L L) (u.alloc (.cells (madeCells (Value.int .u8 0).cells (L * 1)) 5)) := fun L hL u => by
    have := run_makeSlice u 22 5 i0 _ Tryz.underlying22 hi0 hz0 .i64 .i64 (L : Int) (L : Int) (by omega) (by omega) (by rw [hz1]; simp; omega) (by rw [hz2]; omega) (by omega)
    rw [hz1, Int.toNat_natCast] at this
    exact this
  have HMK : Hid (∀ (L : Nat), L ≤ 10001 → ∀ u : World, (Instr.makeSlice 22 (.int .i64 (L : Int)) (.int .i64 (L : Int))).run Tryz.prog u = .ok (.slice (some ⟨u.heap.size, 0, none⟩) L L) (u.alloc (.cells (madeCells (Value.int .u8 0).cells (L * 1)) 5))) := hmk
  clear hmk
  go_enter Tryz.func52, Tryz.ntmps52
  go_wp2_with fail
  refine (next_only w c H0.out).mono ?_
  rintro e u1 ⟨n, rfl, hn, r1, d1⟩
  have hlt : c < w.heap.size := H0.out.lt
  have hsz1 : w.heap.size ≤ u1.heap.size := d1.size
  have H1 : Hid (RdOk u1 c ∧ OnlyB c w u1) := ⟨r1, d1⟩
  clear r1 d1
  obtain ⟨q, hq, hq4⟩ : ∃ q : Nat, ((n : Int).tmod 5) = (q : Int) ∧ q ≤ 4 := ⟨n % 5, by rw [Int.tmod_eq_emod_of_nonneg (by omega)]; omega, by omega⟩
  obtain ⟨p, hp, hp1⟩ : ∃ p : Nat, ((n : Int).tmod 2) = (p : Int) ∧ p ≤ 1 := ⟨n % 2, by rw [Int.tmod_eq_emod_of_nonneg (by omega)]; omega, by omega⟩
  have hnn : (n : Int) ≤ 255 := by omega
  go_wp2_with fail
  go_loopw [4, 5] (fun v i wr => ∃ k : Nat, k ≤ q ∧ i = .int .i64 k ∧ (∃ g cp, v = .slice (some ⟨g, 0, none⟩) k cp) ∧ (∃ zs : List Int, wr.ownsRow w.heap.size 5 1 v k (zs.map (Value.int .u8)) ∧ (∀ x ∈ zs, (Lit.int .u8 x).wf = true)) ∧ RdOk wr c ∧ OnlyB c w wr) (fun _ i _ => q - (intOf i).toNat)
  case atStart =>
    refine ⟨0, Nat.zero_le _, rfl, ⟨_, _, rfl⟩, ⟨[], ?_, fun x hx => (by cases hx)⟩, H1.out.1.alloc _, H1.out.2.trans (OnlyB.of_below (below_alloc u1 _))⟩
    exact World.ownsRow_lit u1 #[] 0 (base := w.heap.size) (e := 5) (size := 1) hsz1 (Nat.zero_le _) rfl
  case round =>
    obtain ⟨k, hk, rfl, ⟨g, cp, rfl⟩, ⟨zs, hown, hwf⟩, hrd, hon⟩ := hrel
    have HO : Hid (wr.ownsRow w.heap.size 5 1 (.slice (some ⟨g, 0, none⟩) k cp) k (zs.map (Value.int .u8))) := hown
    have HW : Hid (∀ x ∈ zs, (Lit.int .u8 x).wf = true) := hwf
    have HR : Hid (RdOk wr c ∧ OnlyB c w wr) := ⟨hrd, hon⟩
    clear hown hwf hrd hon
    by_cases hl : k < q
    · have hi : (k : Int) < (q : Int) := by omega
      go_wp2_with fail
      refine (next_only wr c HR.out.1).mono ?_
      rintro e u2 ⟨x, rfl, hx, r2, d2⟩
      have hx' : (x : Int) ≤ 255 := by omega
      have hwx : IntKind.u8.wrap (x : Int) = (x : Int) := by rw [IntKind.wrap_u8]; omega
      have hlt2 : w.heap.size ≤ u2.heap.size := Nat.le_trans HR.out.2.size d2.size
      have HO2 : Hid (u2.ownsRow w.heap.size 5 1 (.slice (some ⟨g, 0, none⟩) k cp) k (zs.map (Value.int .u8))) := own_only HO.out d2 (by omega)
      have HR2 : Hid (RdOk u2 c ∧ OnlyB c w u2) := ⟨r2, HR.out.2.trans d2⟩
      clear r2 d2
      go_wp2_with (at_builtin; refine wpList_append_own _ rfl (.tmp 15) (.tmp 19) 22 rfl w.heap.size 5 i0 (.int .u8 0) 1 1 Tryz.underlying22 hi0 hz0 hz1 hz2 rfl (by decide) _ _ _ rfl (HO2.out.alloc _) ⟨u2.heap.size, 0, none⟩ 1 _ [.int .u8 (x : Int)] rfl rfl (byte_news u2 _) (by intro u hu; simp at hu; subst hu; rfl) (by unfold maxLen; omega) (by omega) (by simp; omega) ?_; intro v' u3 hown' hgr _)
      obtain ⟨g', c', hv', _, _⟩ := hown'.form (by omega)
      have hb3 : Below w.heap.size u2 u3 := ((Below.refl _ _).alloc (by omega) _).grown hgr (by simp; omega) (fun j hj => (HO2.out.lt j hj).1)
      refine ⟨⟨k + 1, by omega, by go_num, ⟨g', c', hv'⟩, ⟨zs ++ [(x : Int)], ?_, ?_⟩, HR2.out.1.keep hb3 hlt, ?_⟩, by simp [intOf]; omega⟩
      · rw [List.map_append]; exact hown'
      · intro y hy
        rcases List.mem_append.1 hy with hy | hy
        · exact HW.out y hy
        · simp at hy
          subst hy
          simp [Lit.wf, IntKind.min, IntKind.max, IntKind.signed, IntKind.bits]
          omega
      · exact ⟨hb3.os.trans HR2.out.2.os, hb3.tape.trans HR2.out.2.tape, hb3.output.trans HR2.out.2.output, Nat.le_trans HR2.out.2.size hb3.size, fun b hb hbc => (hb3.block b hb).trans (HR2.out.2.block b hb hbc)⟩
    · have hi : ¬ (k : Int) < (q : Int) := by omega
      by_cases h2 : 252 ≤ n
      · have e2 : (252 : Int) ≤ (n : Int) := by omega
        obtain ⟨L, hL, hLe⟩ : ∃ L : Nat, L ≤ 10001 ∧ (10000 : Int) + (p : Int) = (L : Int) := ⟨10000 + p, by omega, by omega⟩
        have hm := HMK.out L hL
        have HZ : Hid (∀ u : World, w.heap.size ≤ u.heap.size → Own .u8 5 w.heap.size (u.alloc (.cells (madeCells (Value.int .u8 0).cells (L * 1)) 5)) (some ⟨u.heap.size, 0, none⟩) L L (List.replicate L 0)) := fun u hu => by
          have hz : (madeCells (Value.int .u8 0).cells (L * 1)).toList = (List.replicate L (0 : Int)).map (Value.int .u8) := by
            rw [show (Value.int .u8 0).cells = #[Value.int .u8 0] from rfl, Nat.mul_one, toList_madeCells_one, List.map_replicate]
          refine ⟨?_, fun x hx => by rw [List.eq_of_mem_replicate hx]; rfl⟩
          rw [← hz]
          exact World.ownsRow_lit u _ L hu (by unfold maxLen; omega) (by rw [← Array.length_toList, hz]; simp)
        generalize madeCells (Value.int .u8 0).cells (L * 1) = Z at *
        go_wp2
        go_ret
        exact ⟨_, L, L, rfl, ⟨_, HZ.out wr HR.out.2.size⟩, hL, HR.out.1.alloc _, HR.out.2.trans (OnlyB.of_below (below_alloc wr _))⟩
      · have e2 : ¬ (252 : Int) ≤ (n : Int) := by omega
        go_wp2
        go_ret
        exact ⟨_, k, cp, rfl, ⟨zs, HO.out, HW.out⟩, by omega, HR.out⟩
end Go.Proofs.YtjdfffdeljgenaaGreatDoor.W
