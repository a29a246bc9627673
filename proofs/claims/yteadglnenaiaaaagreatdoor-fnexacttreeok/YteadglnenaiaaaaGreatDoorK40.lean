import Derived.Test.YteadglnenaiaaaaGreatDoorK39
import Derived.Maps.OwnOps
import Derived.Maps.OwnSet
import Derived.Maps.Views
import Derived.RangeFuncNested
import Derived.RangeFuncBound
import Derived.RangeFuncCalls
import Derived.RangeFuncLeaves
import Derived.Shelf.Abstract
import Derived.Shelf.RegionOpen
import Derived.WalkKit
import Derived.OwnWalkIn
import Derived.TacticsInMore
import Derived.LoopNIn
import Derived.LoopIn
import Derived.Test.YteadglnenaiaaaaGreatDoorK02
set_option linter.unusedVariables false
set_option linter.unusedSimpArgs false
namespace Go.Proofs.YteadglnenaiaaaaGreatDoor.Pl
noncomputable def wdU (use : Int) (x : Nd) (al : List ByteArray) : Bool :=
  if x.s.size = 0 ∧ use = 3 then true
  else if use = 1 then nmB x.s
  else if use = 2 ∨ use = 3 then nmB x.s && !inS al x.s
  else if use = 4 then inS al x.s
  else if use = 5 then decide (ttI ⟨if x.k = 34 then 4 else 3, x.s, x.n, 0, 0⟩ ≠ ⟨#[]⟩)
  else decide (x.s.size = 0)
theorem wdU_wdB (x : Nd) (al : List ByteArray) : wdU (rl x.k).word x al = wdB x al := rfl
theorem ne_nil {s : ByteArray} : (s ≠ ⟨#[]⟩) ↔ s.size ≠ 0 := by
  constructor
  · intro h e; exact h (by
      have : s.data = #[] := Array.eq_empty_of_size_eq_zero e
      exact ByteArray.ext this)
  · intro h e; exact h (by rw [e]; rfl)
end Go.Proofs.YteadglnenaiaaaaGreatDoor.Pl
namespace Go.Proofs.YteadglnenaiaaaaGreatDoor.W
open Go.RowKit Go.Maps Go.WideMaps
theorem ownsMap_keepT {H : Type} {w w' : World} {P : Program} {k : TypeId} {R : Value → Option (DataW H × List MemPlace)} {b n c : Nat} {D : DataW H} (h : w.ownsMap P k R b n D) (hb : Below c w w') (hc : b < c) : w'.ownsMap P k R b n D := by
  obtain ⟨es, clock, h1, h2⟩ := h
  exact ⟨es, clock, (hb.block b hc).trans h1, h2⟩
theorem strLawT : Keyed Tryz.prog 9 := string_keyed Tryz.underlying9
theorem zeroE (w : World) : (zeroValue 76).run Tryz.prog w = .ok (.agg #[]) w := by kernel_rfl
def KeysT (D : DataW Unit) (ss : List ByteArray) : Prop := IsMap D ∧ ∀ t : ByteArray, Maps.has D (.string t.data.toList) = Pl.inS ss t
theorem lookT {w : World} {gm n : Nat} {D : DataW Unit} {al : List ByteArray} (h : w.ownsMap Tryz.prog 9 unitElem gm n D) (hK : KeysT D al) (s : ByteArray) (hs : s.size ≤ maxLen) : (Instr.lookup 47 (.map (some gm)) (.string s) true).run Tryz.prog w = .ok (.tuple #[.agg #[], .bool (Pl.inS al s)]) w := by
  obtain ⟨v, ps, hr, hv⟩ := h.look_ok (e := 76) strLawT Tryz.underlying47 (zeroE w) unitElem_mk (key := .string s) (kl := .string s.data.toList) (keyOf_string_mk Tryz.underlying9 hs)
  obtain ⟨rfl, _⟩ := unitElem_inv hv
  rw [hr, hK.2]
set_option maxRecDepth 8000 in
set_option maxHeartbeats 8000000 in
theorem wordOk_is (gc gm nm : Nat) (D : DataW Unit) (al : List ByteArray) (x : Pl.Nd) (va : Option Addr) (vl vc : Nat) (use : Int) (w : World) (hc : w.cell? ⟨gc, 1, none⟩ = some (.map (some gm))) (ho : w.ownsMap Tryz.prog 9 unitElem gm nm D) (hgm : gm < w.heap.size) (hK : KeysT D al) (hs : x.s.size ≤ 1048576) (hn : -9223372036854775808 ≤ x.n ∧ x.n ≤ 9223372036854775807) (hE : Glo w) (hd : DbLies w) (hp : PowLies w) :
    Calls Tryz.prog 32 #[.pointer (some ⟨gc, 0, none⟩), .agg #[.int .i64 x.k, .int .i64 x.m, .int .i64 x.n, .string x.s, .slice va vl vc, .int .i64 x.line, .int .i64 x.col], .int .i64 use] w fun e w' => e = .returned (.bool (Pl.wdU use x al)) ∧ Below w.heap.size w w' := by
  obtain ⟨R, hR⟩ : ∃ R, R = Pl.wdU use x al := ⟨_, rfl⟩
  rw [← hR]
  have HR : Hid (R = Pl.wdU use x al) := hR
  clear hR
  have hgc : gc < w.heap.size := block_lt_of_cell hc
  by_cases hA : x.s.size = 0 ∧ use = 3
  · obtain ⟨s0, rfl⟩ := hA
    have s0e : x.s.toList.isEmpty = true := by rw [List.isEmpty_iff, Pl.nil_iff]; exact s0
    have s0b : (x.s.toList == []) = true := by simpa using (Pl.nil_iff _).mpr s0
    have HF : Hid (R = true) := by show R = true; rw [HR.out]; unfold Pl.wdU; rw [if_pos ⟨s0, rfl⟩]
    clear s0
    go_enter Tryz.func32, Tryz.ntmps32
    go_wp2_with fail
    go_ret
    exact ⟨ret_bool HF.out.symm, below_alloc _ _⟩
  have HA : Hid (¬ (x.s.size = 0 ∧ use = 3)) := hA
  obtain ⟨w1, hw1⟩ : ∃ w1 : World, w1 = w.alloc (.cells #[.int .i64 x.k, .int .i64 x.m, .int .i64 x.n, .string x.s, .slice va vl vc, .int .i64 x.line, .int .i64 x.col] 38) := ⟨_, rfl⟩
  have HB1 : Hid (Below w.heap.size w w1) := by rw [hw1]; exact below_alloc _ _
  have x1 : w1.heap[w.heap.size]? = some (.cells #[.int .i64 x.k, .int .i64 x.m, .int .i64 x.n, .string x.s, .slice va vl vc, .int .i64 x.line, .int .i64 x.col] 38 (0, 0)) := by rw [hw1]; exact heap_alloc_new w _
  have hz1 : w.heap.size < w1.heap.size := (Array.getElem?_eq_some_iff.1 x1).1
  have HX1 : Hid (∀ u : World, Below w1.heap.size w1 u → u.cell? ⟨w.heap.size, 0, none⟩ = some (.int .i64 x.k) ∧ u.cell? ⟨w.heap.size, 1, none⟩ = some (.int .i64 x.m) ∧ u.cell? ⟨w.heap.size, 2, none⟩ = some (.int .i64 x.n) ∧ u.cell? ⟨w.heap.size, 3, none⟩ = some (.string x.s) ∧ u.cell? ⟨w.heap.size, 4, none⟩ = some (.slice va vl vc) ∧ u.cell? ⟨w.heap.size, 5, none⟩ = some (.int .i64 x.line) ∧ u.cell? ⟨w.heap.size, 6, none⟩ = some (.int .i64 x.col)) := fun u hu => by
    have f := fun j => cell_of_row u w.heap.size j _ 38 (0, 0) ((hu.block _ hz1).trans x1)
    exact ⟨f 0, f 1, f 2, f 3, f 4, f 5, f 6⟩
  obtain ⟨n0, n1, n2, n3, n4, n5, n6⟩ := HX1.out w1 (Below.refl _ _)
  have g1 : w1.cell? ⟨gc, 1, none⟩ = some (.map (some gm)) := (HB1.out.cell (p := ⟨gc, 1, none⟩) hgc).trans hc
  have hgc' : gc < w1.heap.size := by omega
  have ho1 : w1.ownsMap Tryz.prog 9 unitElem gm nm D := ownsMap_keepT ho HB1.out hgm
  have hgm1 : gm < w1.heap.size := by omega
  have hsm : x.s.size ≤ maxLen := by unfold maxLen; omega
  obtain ⟨IN, hIN⟩ : ∃ IN, IN = Pl.inS al x.s := ⟨_, rfl⟩
  have HIN : Hid (IN = Pl.inS al x.s) := hIN
  have lk : ∀ u : World, Below w1.heap.size w1 u → (Instr.lookup 47 (.map (some gm)) (.string x.s) true).run Tryz.prog u = .ok (.tuple #[.agg #[], .bool IN]) u := fun u hu => by rw [hIN]; exact lookT (ownsMap_keepT ho1 hu hgm1) hK x.s hsm
  have l0 := lk w1 (Below.refl _ _)
  have l1 : ∀ o, (Instr.lookup 47 (.map (some gm)) (.string x.s) true).run Tryz.prog (w1.alloc o) = .ok (.tuple #[.agg #[], .bool IN]) (w1.alloc o) := fun o => lk _ (below_alloc _ _)
  have l2 : (Instr.lookup 47 (.map (some gm)) (.string x.s) true).run Tryz.prog w1.drew = .ok (.tuple #[.agg #[], .bool IN]) w1.drew := lk _ (Below.refl _ _).drew
  have l3 : ∀ o, (Instr.lookup 47 (.map (some gm)) (.string x.s) true).run Tryz.prog (w1.alloc o).drew = .ok (.tuple #[.agg #[], .bool IN]) (w1.alloc o).drew := fun o => lk _ (below_alloc _ _).drew
  have HNW : Hid (∀ u : World, Below w.heap.size w u → Calls Tryz.prog 52 #[.string x.s] u fun e w' => e = .returned (.bool (Pl.nmB x.s)) ∧ Below u.heap.size u w') := fun u hu => isNameWord_is x.s hs u (hE.on hu)
  have HLI : Hid (∀ u : World, Calls Tryz.prog 54 #[.agg #[.int .i64 x.k, .int .i64 x.m, .int .i64 x.n, .string x.s, .slice va vl vc, .int .i64 x.line, .int .i64 x.col]] u fun e w' => e = .returned (.agg #[.int .i64 (if x.k = 34 then 4 else 3), .string x.s, .int .i64 x.n, .int .i64 0, .int .i64 0]) ∧ Below u.heap.size u w') := by
    have key := literalOf_is x ⟨va, vl, vc⟩
    exact key
  have HTT : Hid (∀ u : World, Below w.heap.size w u → Calls Tryz.prog 53 #[.agg #[.int .i64 (if x.k = 34 then 4 else 3), .string x.s, .int .i64 x.n, .int .i64 0, .int .i64 0]] u fun e w' => e = .returned (.string (Pl.ttI ⟨if x.k = 34 then 4 else 3, x.s, x.n, 0, 0⟩)) ∧ Below u.heap.size u w') := fun u hu => implTT_is ⟨if x.k = 34 then 4 else 3, x.s, x.n, 0, 0⟩ hn.1 hn.2 hs u (hE.on hu) (hd.below hu) (hp.below hu)
  have eu3 : ((x.s.toList == []) && (use == 3)) = false := by
    rw [Bool.and_eq_false_iff]
    by_cases s0 : x.s.size = 0
    · right; simpa using fun q => hA ⟨s0, q⟩
    · left; simpa using fun q => s0 ((Pl.nil_iff _).mp q)
  have s01 : (x.s.toList == []) = false ∨ ((x.s.toList == []) = true ∧ (use == 3) = false) := by
    cases hh : (x.s.toList == [])
    · exact .inl rfl
    · rw [hh] at eu3; exact .inr ⟨rfl, by simpa using eu3⟩
  have SE : Hid ((x.s.toList == []) = x.s.toList.isEmpty) := by show (x.s.toList == []) = x.s.toList.isEmpty; cases x.s.toList <;> rfl
  clear hc ho hIN lk x1 hA eu3 hd hp hE ho1
  obtain ⟨T, hT⟩ : ∃ T, T = Pl.ttI ⟨if x.k = 34 then 4 else 3, x.s, x.n, 0, 0⟩ := ⟨_, rfl⟩
  have HT : Hid (T = Pl.ttI ⟨if x.k = 34 then 4 else 3, x.s, x.n, 0, 0⟩) := hT
  rw [← hT] at HTT
  obtain ⟨KD, hKD⟩ : ∃ KD : Int, KD = if x.k = 34 then 4 else 3 := ⟨_, rfl⟩
  rw [← hKD] at HTT HLI
  clear hT hKD
  go_enter Tryz.func32, Tryz.ntmps32
  go_upto_region 1 with fail
  rw [← hw1]
  clear hw1
  rcases s01 with s0 | ⟨s0, u3⟩
  all_goals
    have s0e := SE.out.symm.trans s0
    go_upto_region 3 with fail
    go_cut [7, 8] (fun s7 s8 wx => s8 = .bool IN ∧ Below w1.heap.size w1 wx)
    case first =>
      go_region_with (fail)
      all_goals
        go_wp2_with fail
        go_meet
        exact ⟨rfl, (below_alloc _ _).drew⟩
    case rest =>
    obtain ⟨rfl, hby⟩ := hcut
    obtain ⟨y, rfl⟩ : ∃ y : World, y = wc := ⟨_, rfl⟩
    have HBY : Hid (Below w.heap.size w y) := HB1.out.trans (hby.mono (by omega))
    obtain ⟨m0, m1, m2, m3, m4, m5, m6⟩ := HX1.out y hby
    clear hby n0 n1 n2 n3 n4 n5 n6 l0 l1 l2 l3 g1
    by_cases u1 : use = 1
    · have HF : Hid (R = Pl.nmB x.s) := by show R = _; rw [HR.out]; unfold Pl.wdU; rw [if_neg HA.out, if_pos u1]
      have ub1 : (use == 1) = true := by simpa using u1
      clear u1
      go_wp2_with (go_at_call 52; refine (HNW.out _ HBY.out).mono ?_; rintro e u2 ⟨rfl, d2⟩; have D2 : Hid (Below w.heap.size w u2) := HBY.out.trans (d2.mono HBY.out.size); clear d2)
      go_ret
      exact ⟨ret_bool HF.out.symm, D2.out⟩
    have ub1 : (use == 1) = false := by simpa using u1
    by_cases u2 : use = 2 ∨ use = 3
    · have HF : Hid (R = (Pl.nmB x.s && !IN)) := by show R = _; rw [HR.out, HIN.out]; unfold Pl.wdU; rw [if_neg HA.out, if_neg u1, if_pos u2]
      cases hNB : Pl.nmB x.s
      · rw [hNB] at HF HNW
        rcases u2 with u2 | u2
        · have ub2 : (use == 2) = true := by simpa using u2
          clear u1 u2
          go_wp2_with (go_at_call 52; refine (HNW.out _ HBY.out).mono ?_; rintro e u2 ⟨rfl, d2⟩; have D2 : Hid (Below w.heap.size w u2) := HBY.out.trans (d2.mono HBY.out.size); clear d2)
          go_ret
          exact ⟨ret_bool HF.out.symm, D2.out⟩
        · have ub2 : (use == 2) = false := by simp; omega
          have ub3 : (use == 3) = true := by simpa using u2
          clear u1 u2
          go_wp2_with (go_at_call 52; refine (HNW.out _ HBY.out).mono ?_; rintro e u2 ⟨rfl, d2⟩; have D2 : Hid (Below w.heap.size w u2) := HBY.out.trans (d2.mono HBY.out.size); clear d2)
          all_goals (go_ret; exact ⟨ret_bool HF.out.symm, D2.out⟩)
      · rw [hNB] at HF HNW
        rcases u2 with u2 | u2
        · have ub2 : (use == 2) = true := by simpa using u2
          clear u1 u2
          go_wp2_with (go_at_call 52; refine (HNW.out _ HBY.out).mono ?_; rintro e u2 ⟨rfl, d2⟩; have D2 : Hid (Below w.heap.size w u2) := HBY.out.trans (d2.mono HBY.out.size); clear d2)
          go_ret
          exact ⟨ret_bool HF.out.symm, D2.out⟩
        · have ub2 : (use == 2) = false := by simp; omega
          have ub3 : (use == 3) = true := by simpa using u2
          clear u1 u2
          go_wp2_with (go_at_call 52; refine (HNW.out _ HBY.out).mono ?_; rintro e u2 ⟨rfl, d2⟩; have D2 : Hid (Below w.heap.size w u2) := HBY.out.trans (d2.mono HBY.out.size); clear d2)
          all_goals (go_ret; exact ⟨ret_bool HF.out.symm, D2.out⟩)
    have ub2 : (use == 2) = false := by simp; omega
    have ub3 : (use == 3) = false := by simp; omega
    by_cases u4 : use = 4
    · have HF : Hid (R = IN) := by show R = _; rw [HR.out, HIN.out]; unfold Pl.wdU; rw [if_neg HA.out, if_neg u1, if_neg u2, if_pos u4]
      have ub4 : (use == 4) = true := by simpa using u4
      clear u1 u2 u4
      go_wp2_with fail
      go_ret
      exact ⟨ret_bool HF.out.symm, HBY.out⟩
    have ub4 : (use == 4) = false := by simpa using u4
    by_cases u5 : use = 5
    · have HF : Hid (R = decide (T.size ≠ 0)) := by
        show R = _
        rw [HR.out, HT.out]; unfold Pl.wdU; rw [if_neg HA.out, if_neg u1, if_neg u2, if_neg u4, if_pos u5, Bool.eq_iff_iff]
        simp only [decide_eq_true_eq]
        exact Pl.ne_nil
      have ub5 : (use == 5) = true := by simpa using u5
      have hTn : T.toList = [] ↔ T.size = 0 := Pl.nil_iff T
      have HTN : Hid (T.toList = [] ↔ T.size = 0) := hTn
      clear u1 u2 u4 u5 hTn
      by_cases t0 : T.size = 0
      · have te : T.toList.isEmpty = true := by rw [List.isEmpty_iff]; exact HTN.out.mpr t0
        have tb : (T.toList == []) = true := by simpa using HTN.out.mpr t0
        have HF2 : Hid (R = false) := by show R = false; rw [HF.out]; exact decide_eq_false fun q => q t0
        clear t0
        go_wp2_with (first | (go_at_call 54; refine (HLI.out _).mono ?_; rintro e u2 ⟨rfl, d2⟩; have D2 : Hid (Below w.heap.size w u2) := HBY.out.trans (d2.mono HBY.out.size); clear d2) | (go_at_call 53; refine (HTT.out _ D2.out).mono ?_; rintro e u3 ⟨rfl, d3⟩; have D3 : Hid (Below w.heap.size w u3) := D2.out.trans (d3.mono D2.out.size); clear d3))
        go_ret
        exact ⟨ret_bool HF2.out.symm, D3.out⟩
      · have te : T.toList.isEmpty = false := by rw [← Bool.not_eq_true, List.isEmpty_iff]; exact fun q => t0 (HTN.out.mp q)
        have tb : (T.toList == []) = false := by simpa using fun q => t0 (HTN.out.mp q)
        have HF2 : Hid (R = true) := by show R = true; rw [HF.out]; exact decide_eq_true t0
        clear t0
        go_wp2_with (first | (go_at_call 54; refine (HLI.out _).mono ?_; rintro e u2 ⟨rfl, d2⟩; have D2 : Hid (Below w.heap.size w u2) := HBY.out.trans (d2.mono HBY.out.size); clear d2) | (go_at_call 53; refine (HTT.out _ D2.out).mono ?_; rintro e u3 ⟨rfl, d3⟩; have D3 : Hid (Below w.heap.size w u3) := D2.out.trans (d3.mono D2.out.size); clear d3))
        go_ret
        exact ⟨ret_bool HF2.out.symm, D3.out⟩
    have ub5 : (use == 5) = false := by simpa using u5
    have HF : Hid (R = (x.s.toList == [])) := by
      show R = _
      rw [HR.out]; unfold Pl.wdU; rw [if_neg HA.out, if_neg u1, if_neg u2, if_neg u4, if_neg u5, Bool.eq_iff_iff]
      simp only [decide_eq_true_eq, beq_iff_eq]
      exact (Pl.nil_iff _).symm
    rw [s0] at HF
    clear u1 u2 u4 u5
    go_wp2_with fail
    go_ret
    exact ⟨ret_bool HF.out.symm, HBY.out⟩
end Go.Proofs.YteadglnenaiaaaaGreatDoor.W
namespace Go.Proofs.YteadglnenaiaaaaGreatDoor.W
open Go.RowKit Go.Shelf
attribute [local go_sem] Oper.semAt_some
theorem below_allocB (w : World) (o : Obj) : Below w.heap.size w (w.alloc o) := (Below.refl _ _).alloc (Nat.le_refl _) _
theorem alloc_atB (w : World) (o : Obj) (k : Nat) (h : k = w.heap.size) : (w.alloc o).heap[k]? = some o := by subst h; exact World.alloc_heap_new w o
def NRowV (lo : Nat) (w : World) (a : Option Addr) (len cap : Nat) (xs : List Pl.Nd) (V : Nat → SV) : Prop :=
  (xs.length = len ∧ ∀ x ∈ xs, x.s.size ≤ maxLen) ∧ len ≤ cap ∧ cap ≤ maxLen ∧ (len = 0 ∨ ∃ b off, a = some ⟨b, off, none⟩ ∧ lo ≤ b ∧ b < w.heap.size ∧ ∀ i, i < len → (∀ j, j < 7 → w.cell? ⟨b, off + i * 7 + j, none⟩ = ((xs.getD i Pl.Nd.zero).cells (V i))[j]?) ∧ Row .i64 lo w (V i).a (V i).len (V i).cap (xs.getD i Pl.Nd.zero).kids)
theorem NRowV.row {lo : Nat} {w : World} {a : Option Addr} {len cap : Nat} {xs : List Pl.Nd} {V : Nat → SV} (h : NRowV lo w a len cap xs V) : NRow lo w a len cap xs := by
  obtain ⟨h1, h2, h3, h4⟩ := h
  refine ⟨h1, h2, h3, ?_⟩
  rcases h4 with h4 | ⟨b, off, e, hlo, hb, hc⟩
  · exact .inl h4
  · exact .inr ⟨b, off, e, hlo, hb, fun i hi => ⟨V i, hc i hi⟩⟩
theorem NRow.named {lo : Nat} {w : World} {a : Option Addr} {len cap : Nat} {xs : List Pl.Nd} (h : NRow lo w a len cap xs) : ∃ V, NRowV lo w a len cap xs V := by
  obtain ⟨h1, h2, h3, h4⟩ := h
  rcases h4 with h4 | ⟨b, off, e, hlo, hb, hc⟩
  · exact ⟨fun _ => ⟨none, 0, 0⟩, h1, h2, h3, .inl h4⟩
  · classical
    refine ⟨fun i => if q : i < len then Classical.choose (hc i q) else ⟨none, 0, 0⟩, h1, h2, h3, .inr ⟨b, off, e, hlo, hb, fun i hi => ?_⟩⟩
    simp only [dif_pos hi]
    exact Classical.choose_spec (hc i hi)
theorem NRowV.keep {lo : Nat} {w w' : World} {a : Option Addr} {len cap : Nat} {xs : List Pl.Nd} {V : Nat → SV} (h : NRowV lo w a len cap xs V) (hb : Below w.heap.size w w') : NRowV lo w' a len cap xs V := by
  obtain ⟨h1, h2, h3, h4⟩ := h
  refine ⟨h1, h2, h3, ?_⟩
  rcases h4 with h4 | ⟨b, off, ha, hlo, hlt, hc⟩
  · exact .inl h4
  · refine .inr ⟨b, off, ha, hlo, Nat.lt_of_lt_of_le hlt hb.size, fun i hi => ?_⟩
    obtain ⟨h5, h6⟩ := hc i hi
    exact ⟨fun j hj => (hb.cell (p := ⟨b, off + i * 7 + j, none⟩) hlt).trans (h5 j hj), h6.keep hb⟩
def qPost (D : Nat) (Wb : World) (I : World → Prop) (Ix : World → Prop) : Exit → Act → World → Prop
  | .normal, _, W' => (∀ b, D ≤ b → b < D + 2 → W'.heap[b]? = Wb.heap[b]?) ∧ I W'
  | .ret, _, W' => (∀ b, D ≤ b → b < D + 2 → W'.heap[b]? = Wb.heap[b]?) ∧ Ix W'
  | _, _, _ => False
set_option maxHeartbeats 8000000 in
set_option maxRecDepth 100000 in
theorem back_ints_is (m bx l : Nat) (hm : 1 ≤ m) (a : Option Addr) (len cap : Nat) (zs : List Int) (hlen : (len : Int) ≤ 9223372036854775807) (J : Nat → World → Prop) (Jx : World → Prop)
    (hJ : ∀ j W, J j W → W.cell? ⟨bx, 0, none⟩ = some (.slice a len cap) ∧ Row .i64 0 W a len cap zs)
    (hY : ∀ j W, j < len → J j W → YieldAt Fence.wide (m - 1) Tryz.prog l #[.int .i64 ((len - 1 - j : Nat) : Int), .int .i64 (zs.getD (len - 1 - j) 0)] W fun e W' => (e = .returned (.bool true) ∧ J (j + 1) W') ∨ (e = .returned (.bool false) ∧ Jx W'))
    (W : World) (h0 : J 0 W) : CallsIn Fence.wide m Tryz.prog 46 #[.func (.yield l) #[] #[], .pointer (some ⟨bx, 0, none⟩)] W fun e W' => (∃ v, e = .returned v) ∧ (J len W' ∨ Jx W') := by
  have HY : Hid _ := hY
  have HJ : Hid _ := hJ
  have H0 : Hid (J 0 W) := h0
  have hc0 := (hJ 0 W h0).1
  clear hY hJ h0
  refine callsIn_of_wp Tryz.func46 rfl trivial ?_ rfl
  simp only [Tryz.ntmps46, List.size_toArray, List.length_cons, List.length_nil, Nat.reduceAdd, Nat.reduceSub, Array.replicate_succ, Array.replicate_zero, List.push_toArray, List.append_toArray, List.nil_append, List.cons_append]
  gi_wp2
  gi_loopw [3] (fun v wr => ∃ j : Nat, j ≤ len ∧ v = .int .i64 ((len : Int) - 1 - (j : Int)) ∧ J j wr) (fun v _ => (intOf v + 1).toNat)
  case atStart => exact ⟨0, Nat.zero_le _, by simp, H0.out⟩
  case round =>
    obtain ⟨j, hj, rfl, hjw⟩ := hrel
    have HJW : Hid (J j wr) := hjw
    clear hjw
    by_cases hlt : j < len
    · obtain ⟨q, hq⟩ : ∃ q : Nat, q = len - 1 - j := ⟨_, rfl⟩
      have hq1 : (len : Int) - 1 - (j : Int) = (q : Int) := by omega
      rw [hq1]
      have HQ : Hid ((len : Int) - 1 - (j : Int) = (q : Int)) := hq1
      have hql : q < len := by omega
      have hqi : (q : Int) < (len : Int) := by omega
      have hyy := HY.out j wr hlt HJW.out
      rw [← hq] at hyy
      obtain ⟨hbx, hrow⟩ := HJ.out j wr HJW.out
      obtain ⟨b, off, rfl, _, hb, hcz⟩ := hrow.2.2.2.2.resolve_left (by omega)
      have cz := hcz q hql
      obtain ⟨z, hz⟩ : ∃ z, z = zs.getD q 0 := ⟨_, rfl⟩
      rw [← hz] at cz hyy
      clear hcz hrow hz
      obtain ⟨fn, tmps, assign, body, hy, hR⟩ := hyy
      have HR : Hid _ := hR
      clear hR hq hq1 HY HJ H0 hc0
      gi_wp2
      refine RoundIn.mono HR.out ?_
      rintro e W3 (⟨rfl, hJ3⟩ | ⟨rfl, hJx3⟩)
      · have HJ3 : Hid (J (j + 1) W3) := hJ3
        clear hJ3 hy HR
        gi_wp2
        go_roundw
        case rel => exact ⟨j + 1, by omega, congrArg (Value.int .i64) (by have := HQ.out; omega), HJ3.out⟩
        case measure => simp [intOf]
      · have HJ3 : Hid (Jx W3) := hJx3
        clear hJx3 hy HR
        gi_wp2
        refine bodyPost_ret (results_none rfl _ _ _) rfl ?_
        exact ⟨⟨_, rfl⟩, .inr HJ3.out⟩
    · obtain rfl : len = j := by omega
      obtain ⟨d, hd⟩ : ∃ d : Int, (len : Int) - 1 - (len : Int) = d := ⟨_, rfl⟩
      rw [hd]
      have hdn : ¬ (0 : Int) ≤ d := by omega
      clear hd HY HJ H0 hc0
      gi_wp2
      refine bodyPost_end (results_none rfl _ _ _) rfl ?_
      exact ⟨⟨_, rfl⟩, .inl HJW.out⟩
set_option maxHeartbeats 4000000 in
theorem range_ints {op : Operand} {ps : Array Tmp} {assign body : Code} {Q : Exit → Act → World → Prop} {a : Act} {w : World} (n bx : Nat) (h1 : 2 ≤ n)
    (hop : a.eval op = .func (.func 46) #[] #[.pointer (some ⟨bx, 0, none⟩)]) (hps : ps.size = 2)
    (ad : Option Addr) (len cap : Nat) (zs : List Int) (hlen : (len : Int) ≤ 9223372036854775807)
    (I : Nat → World → Prop) (Ix : World → Prop)
    (hJ : ∀ j W, I j W → W.cell? ⟨bx, 0, none⟩ = some (.slice ad len cap) ∧ Row .i64 0 W ad len cap zs)
    (h0 : ∀ A, Below w.heap.size w A → w.heap.size + 2 ≤ A.heap.size → I 0 A)
    (hIp : ∀ j A l o o', I j A → w.heap.size ≤ l → l < w.heap.size + 2 → A.heap[l]? = some o' → o'.isCells = false → I j (A.putObj l o))
    (hIxp : ∀ A l o o', Ix A → w.heap.size ≤ l → l < w.heap.size + 2 → A.heap[l]? = some o' → o'.isCells = false → Ix (A.putObj l o))
    (Ax : Nat → World → Act → World → Prop)
    (hassign : ∀ (l q : Nat) (W : World) (K : Act → World → Prop), (∀ a' W', Below W.heap.size W W' → Ax q W a' W' → K a' W') →
      assign.wpIn (Fence.wide.inRound l) (n - 1 - 1) Tryz.prog (Exit.then K (fun _ _ _ => False)) { tmps := (ps.zip #[.int .i64 (q : Int), .int .i64 (zs.getD q 0)]).foldl (fun t (p, v) => t.setIfInBounds p v) a.tmps, defers := [] } W)
    (hbody : ∀ (l j : Nat) (W : World) (a' : Act) (W1 : World) (o : Obj), j < len → w.heap.size ≤ l → l < w.heap.size + 2 → I j W → (∀ b, w.heap.size ≤ b → b < w.heap.size + 2 → ∃ o', W.heap[b]? = some o' ∧ o'.isCells = false) → Below W.heap.size W W1 → Ax (len - 1 - j) W a' W1 →
      body.wpIn (Fence.wide.inRound l) (n - 1 - 1) Tryz.prog (qPost w.heap.size (W1.putObj l o) (I (j + 1)) Ix) a' (W1.putObj l o))
    (hdone : ∀ W, I len W → W.heap[w.heap.size]? = some (.deferred (some [])) → Q .normal { a with defers := { target := .collected w.heap.size, args := #[] } :: a.defers } W)
    (hstop : ∀ W, Ix W → W.heap[w.heap.size]? = some (.deferred (some [])) → Code.ret.wpIn Fence.wide n Tryz.prog Q { a with defers := { target := .collected w.heap.size, args := #[] } :: a.defers } W) :
    (Code.rangeFunc op ps assign body).wpIn Fence.wide n Tryz.prog Q a w := by
  refine wpIn_rangeFunc fun fn hfn => ?_
  let r0 : Loop := { state := .ready, pending := none, fn := fn, tmps := a.tmps, params := ps, assign := assign, body := body, defers := w.heap.size }
  obtain ⟨W1, hW1⟩ : ∃ W1, (w.alloc (.deferred (some []))).alloc (.loop r0) = W1 := ⟨_, rfl⟩
  have hL1 : W1.heap[w.heap.size + 1]? = some (.loop r0) := hW1 ▸ alloc_atB _ _ _ (by simp)
  have hD1 : W1.heap[w.heap.size]? = some (.deferred (some [])) := hW1 ▸ (Below.heap_alloc _ _ _ (by simp)).trans (alloc_atB w _ _ rfl)
  have hB1 : Below w.heap.size w W1 := by rw [← hW1]; exact (below_allocB w _).trans ((below_allocB _ _).mono (by simp))
  have hz1 : w.heap.size + 2 ≤ W1.heap.size := by have := (Array.getElem?_eq_some_iff.1 hL1).1; omega
  refine ⟨w.heap.size + 1, [{ target := .collected w.heap.size, args := #[] }], W1, { target := .fn (.func 46) #[.pointer (some ⟨bx, 0, none⟩)], args := #[.func (.yield (w.heap.size + 1)) #[] #[]] }, W1, 46,
    #[.func (.yield (w.heap.size + 1)) #[] #[]] ++ #[.pointer (some ⟨bx, 0, none⟩)], W1, ?_, ?_, ?_, ?_, fun _ => by omega, ?_⟩
  · rw [← hW1]; exact run_enterLoop_outer _ _ _ _ _
  · simp only [resolve, hop]
    simp [go_sem]
  · intro f' _; trivial
  · simp [invoke, go_sem, enters_of Tryz.func46 (by kernel_rfl) rfl]
  refine (back_ints_is (n - 1) bx (w.heap.size + 1) (by omega) ad len cap zs hlen
    (fun j W => I j W ∧ W.heap[w.heap.size + 1]? = some (.loop r0) ∧ W.heap[w.heap.size]? = some (.deferred (some [])))
    (fun W => Ix W ∧ W.heap[w.heap.size + 1]? = some (.loop { r0 with state := .done, pending := some .ret }) ∧ W.heap[w.heap.size]? = some (.deferred (some [])))
    (fun j W h => hJ j W h.1) ?hY W1 ⟨h0 _ hB1 hz1, hL1, hD1⟩).mono ?post
  case hY =>
    rintro j W hj ⟨hi, hl, hd⟩
    have z0 : w.heap.size + 2 ≤ W.heap.size := by have := (Array.getElem?_eq_some_iff.1 hl).1; omega
    refine ⟨_, _, _, _, run_yield hl (by show 2 = ps.size; omega), roundIn_of_wpIn hfn (hassign _ (len - 1 - j) W _ fun a' W' hb ha => ?_)⟩
    have hl' : W'.heap[w.heap.size + 1]? = some (.loop r0) := (hb.block _ (by omega)).trans hl
    have hd' : W'.heap[w.heap.size]? = some (.deferred (some [])) := (hb.block _ (by omega)).trans hd
    refine ⟨_, run_beginRound hl' rfl, wpIn_mono (hbody _ j W a' W' _ hj (by omega) (by omega) hi (fun b hb1 hb2 => by rcases (show b = w.heap.size ∨ b = w.heap.size + 1 by omega) with rfl | rfl; exact ⟨_, hd, rfl⟩; exact ⟨_, hl, rfl⟩) hb ha) ?_⟩
    have zW' : w.heap.size + 2 ≤ W'.heap.size := Nat.le_trans z0 hb.size
    have hl2 : (W'.putObj (w.heap.size + 1) (.loop { r0 with state := .busy })).heap[w.heap.size + 1]? = some (.loop { r0 with state := .busy }) := World.putObj_heap_same (by omega)
    have hd2 : (W'.putObj (w.heap.size + 1) (.loop { r0 with state := .busy })).heap[w.heap.size]? = some (.deferred (some [])) := (World.putObj_heap_other (by omega)).trans hd'
    rintro e a3 W3 hp
    cases e with
    | normal =>
      obtain ⟨k1, hi3⟩ := hp
      have hl3 := (k1 (w.heap.size + 1) (by omega) (by omega)).trans hl2
      have hd3 := (k1 w.heap.size (by omega) (by omega)).trans hd2
      exact ⟨_, _, run_endRound none hl3, .inl ⟨rfl, hIp _ _ _ _ _ hi3 (by omega) (by omega) hl3 rfl, World.putObj_heap_same (Array.getElem?_eq_some_iff.1 hl3).1, (World.putObj_heap_other (by omega)).trans hd3⟩⟩
    | ret =>
      obtain ⟨k1, hi3⟩ := hp
      have hl3 := (k1 (w.heap.size + 1) (by omega) (by omega)).trans hl2
      have hd3 := (k1 w.heap.size (by omega) (by omega)).trans hd2
      exact ⟨_, _, run_endRound (some .ret) hl3, .inr ⟨rfl, hIxp _ _ _ _ hi3 (by omega) (by omega) hl3 rfl, World.putObj_heap_same (Array.getElem?_eq_some_iff.1 hl3).1, (World.putObj_heap_other (by omega)).trans hd3⟩⟩
    | exit id => exact hp.elim
    | goto t => exact hp.elim
    | panic ch => exact hp.elim
    | outgrown => exact hp.elim
  case post =>
    rintro e W2 ⟨⟨v, rfl⟩, (⟨hi, hl, hd⟩ | ⟨hi, hl, hd⟩)⟩
    · exact ⟨_, _, run_endLoop hl (show LoopState.ready ≠ LoopState.busy by decide), hdone _ (hIp _ _ _ _ _ hi (by omega) (by omega) hl rfl) ((World.putObj_heap_other (by omega)).trans hd)⟩
    · exact ⟨_, _, run_endLoop hl (show LoopState.done ≠ LoopState.busy by decide), hstop _ (hIxp _ _ _ _ hi (by omega) (by omega) hl rfl) ((World.putObj_heap_other (by omega)).trans hd)⟩
set_option maxHeartbeats 8000000 in
set_option maxRecDepth 100000 in
theorem back_nodes_is (m bx l : Nat) (hm : 1 ≤ m) (a : Option Addr) (len cap : Nat) (xs : List Pl.Nd) (V : Nat → SV) (hlen : (len : Int) ≤ 9223372036854775807) (J : Nat → World → Prop) (Jx : World → Prop)
    (hJ : ∀ j W, J j W → W.cell? ⟨bx, 0, none⟩ = some (.slice a len cap) ∧ NRowV 0 W a len cap xs V)
    (hY : ∀ j W, j < len → J j W → YieldAt Fence.wide (m - 1) Tryz.prog l #[.int .i64 ((len - 1 - j : Nat) : Int), .agg ((xs.getD (len - 1 - j) Pl.Nd.zero).cells (V (len - 1 - j)))] W fun e W' => (e = .returned (.bool true) ∧ J (j + 1) W') ∨ (e = .returned (.bool false) ∧ Jx W'))
    (W : World) (h0 : J 0 W) : CallsIn Fence.wide m Tryz.prog 47 #[.func (.yield l) #[] #[], .pointer (some ⟨bx, 0, none⟩)] W fun e W' => (∃ v, e = .returned v) ∧ (J len W' ∨ Jx W') := by
  have HY : Hid _ := hY
  have HJ : Hid _ := hJ
  have H0 : Hid (J 0 W) := h0
  have hc0 := (hJ 0 W h0).1
  clear hY hJ h0
  refine callsIn_of_wp Tryz.func47 rfl trivial ?_ rfl
  simp only [Tryz.ntmps47, List.size_toArray, List.length_cons, List.length_nil, Nat.reduceAdd, Nat.reduceSub, Array.replicate_succ, Array.replicate_zero, List.push_toArray, List.append_toArray, List.nil_append, List.cons_append]
  gi_wp2
  gi_loopw [3] (fun v wr => ∃ j : Nat, j ≤ len ∧ v = .int .i64 ((len : Int) - 1 - (j : Int)) ∧ J j wr) (fun v _ => (intOf v + 1).toNat)
  case atStart => exact ⟨0, Nat.zero_le _, by simp, H0.out⟩
  case round =>
    obtain ⟨j, hj, rfl, hjw⟩ := hrel
    have HJW : Hid (J j wr) := hjw
    clear hjw
    by_cases hlt : j < len
    · obtain ⟨q, hq⟩ : ∃ q : Nat, q = len - 1 - j := ⟨_, rfl⟩
      have hq1 : (len : Int) - 1 - (j : Int) = (q : Int) := by omega
      rw [hq1]
      have HQ : Hid ((len : Int) - 1 - (j : Int) = (q : Int)) := hq1
      have hql : q < len := by omega
      have hqi : (q : Int) < (len : Int) := by omega
      have hyy := HY.out j wr hlt HJW.out
      rw [← hq] at hyy
      obtain ⟨hbx, hrow⟩ := HJ.out j wr HJW.out
      obtain ⟨b, off, rfl, _, hb, hcz⟩ := hrow.2.2.2.resolve_left (by omega)
      obtain ⟨c0, c1, c2, c3, c4, c5, c6⟩ := nd_cells (hcz q hql).1
      obtain ⟨x, hx⟩ : ∃ x, x = xs.getD q Pl.Nd.zero := ⟨_, rfl⟩
      obtain ⟨v, hv⟩ : ∃ v, v = V q := ⟨_, rfl⟩
      rw [← hx, ← hv] at hyy
      rw [← hx] at c0 c1 c2 c3 c5 c6
      rw [← hv] at c4
      unfold Pl.Nd.cells at hyy
      clear hcz hrow hx hv
      obtain ⟨fn, tmps, assign, body, hy, hR⟩ := hyy
      have HR : Hid _ := hR
      clear hR hq hq1 HY HJ H0 hc0
      gi_wp2
      refine RoundIn.mono HR.out ?_
      rintro e W3 (⟨rfl, hJ3⟩ | ⟨rfl, hJx3⟩)
      · have HJ3 : Hid (J (j + 1) W3) := hJ3
        clear hJ3 hy HR
        gi_wp2
        go_roundw
        case rel => exact ⟨j + 1, by omega, congrArg (Value.int .i64) (by have := HQ.out; omega), HJ3.out⟩
        case measure => simp [intOf]
      · have HJ3 : Hid (Jx W3) := hJx3
        clear hJx3 hy HR
        gi_wp2
        refine bodyPost_ret (results_none rfl _ _ _) rfl ?_
        exact ⟨⟨_, rfl⟩, .inr HJ3.out⟩
    · obtain rfl : len = j := by omega
      obtain ⟨d, hd⟩ : ∃ d : Int, (len : Int) - 1 - (len : Int) = d := ⟨_, rfl⟩
      rw [hd]
      have hdn : ¬ (0 : Int) ≤ d := by omega
      clear hd HY HJ H0 hc0
      gi_wp2
      refine bodyPost_end (results_none rfl _ _ _) rfl ?_
      exact ⟨⟨_, rfl⟩, .inl HJW.out⟩
set_option maxHeartbeats 4000000 in
theorem range_nodes {op : Operand} {ps : Array Tmp} {assign body : Code} {Q : Exit → Act → World → Prop} {a : Act} {w : World} (n bx : Nat) (h1 : 2 ≤ n)
    (hop : a.eval op = .func (.func 47) #[] #[.pointer (some ⟨bx, 0, none⟩)]) (hps : ps.size = 2)
    (ad : Option Addr) (len cap : Nat) (xs : List Pl.Nd) (V : Nat → SV) (hlen : (len : Int) ≤ 9223372036854775807)
    (I : Nat → World → Prop) (Ix : World → Prop)
    (hJ : ∀ j W, I j W → W.cell? ⟨bx, 0, none⟩ = some (.slice ad len cap) ∧ NRowV 0 W ad len cap xs V)
    (h0 : ∀ A, Below w.heap.size w A → w.heap.size + 2 ≤ A.heap.size → I 0 A)
    (hIp : ∀ j A l o o', I j A → w.heap.size ≤ l → l < w.heap.size + 2 → A.heap[l]? = some o' → o'.isCells = false → I j (A.putObj l o))
    (hIxp : ∀ A l o o', Ix A → w.heap.size ≤ l → l < w.heap.size + 2 → A.heap[l]? = some o' → o'.isCells = false → Ix (A.putObj l o))
    (Ax : Nat → World → Act → World → Prop)
    (hassign : ∀ (l q : Nat) (W : World) (K : Act → World → Prop), (∀ a' W', Below W.heap.size W W' → Ax q W a' W' → K a' W') →
      assign.wpIn (Fence.wide.inRound l) (n - 1 - 1) Tryz.prog (Exit.then K (fun _ _ _ => False)) { tmps := (ps.zip #[.int .i64 (q : Int), .agg ((xs.getD q Pl.Nd.zero).cells (V q))]).foldl (fun t (p, v) => t.setIfInBounds p v) a.tmps, defers := [] } W)
    (hbody : ∀ (l j : Nat) (W : World) (a' : Act) (W1 : World) (o : Obj), j < len → w.heap.size ≤ l → l < w.heap.size + 2 → I j W → (∀ b, w.heap.size ≤ b → b < w.heap.size + 2 → ∃ o', W.heap[b]? = some o' ∧ o'.isCells = false) → Below W.heap.size W W1 → Ax (len - 1 - j) W a' W1 →
      body.wpIn (Fence.wide.inRound l) (n - 1 - 1) Tryz.prog (qPost w.heap.size (W1.putObj l o) (I (j + 1)) Ix) a' (W1.putObj l o))
    (hdone : ∀ W, I len W → W.heap[w.heap.size]? = some (.deferred (some [])) → Q .normal { a with defers := { target := .collected w.heap.size, args := #[] } :: a.defers } W)
    (hstop : ∀ W, Ix W → W.heap[w.heap.size]? = some (.deferred (some [])) → Code.ret.wpIn Fence.wide n Tryz.prog Q { a with defers := { target := .collected w.heap.size, args := #[] } :: a.defers } W) :
    (Code.rangeFunc op ps assign body).wpIn Fence.wide n Tryz.prog Q a w := by
  refine wpIn_rangeFunc fun fn hfn => ?_
  let r0 : Loop := { state := .ready, pending := none, fn := fn, tmps := a.tmps, params := ps, assign := assign, body := body, defers := w.heap.size }
  obtain ⟨W1, hW1⟩ : ∃ W1, (w.alloc (.deferred (some []))).alloc (.loop r0) = W1 := ⟨_, rfl⟩
  have hL1 : W1.heap[w.heap.size + 1]? = some (.loop r0) := hW1 ▸ alloc_atB _ _ _ (by simp)
  have hD1 : W1.heap[w.heap.size]? = some (.deferred (some [])) := hW1 ▸ (Below.heap_alloc _ _ _ (by simp)).trans (alloc_atB w _ _ rfl)
  have hB1 : Below w.heap.size w W1 := by rw [← hW1]; exact (below_allocB w _).trans ((below_allocB _ _).mono (by simp))
  have hz1 : w.heap.size + 2 ≤ W1.heap.size := by have := (Array.getElem?_eq_some_iff.1 hL1).1; omega
  refine ⟨w.heap.size + 1, [{ target := .collected w.heap.size, args := #[] }], W1, { target := .fn (.func 47) #[.pointer (some ⟨bx, 0, none⟩)], args := #[.func (.yield (w.heap.size + 1)) #[] #[]] }, W1, 47,
    #[.func (.yield (w.heap.size + 1)) #[] #[]] ++ #[.pointer (some ⟨bx, 0, none⟩)], W1, ?_, ?_, ?_, ?_, fun _ => by omega, ?_⟩
  · rw [← hW1]; exact run_enterLoop_outer _ _ _ _ _
  · simp only [resolve, hop]
    simp [go_sem]
  · intro f' _; trivial
  · simp [invoke, go_sem, enters_of Tryz.func47 (by kernel_rfl) rfl]
  refine (back_nodes_is (n - 1) bx (w.heap.size + 1) (by omega) ad len cap xs V hlen
    (fun j W => I j W ∧ W.heap[w.heap.size + 1]? = some (.loop r0) ∧ W.heap[w.heap.size]? = some (.deferred (some [])))
    (fun W => Ix W ∧ W.heap[w.heap.size + 1]? = some (.loop { r0 with state := .done, pending := some .ret }) ∧ W.heap[w.heap.size]? = some (.deferred (some [])))
    (fun j W h => hJ j W h.1) ?hY W1 ⟨h0 _ hB1 hz1, hL1, hD1⟩).mono ?post
  case hY =>
    rintro j W hj ⟨hi, hl, hd⟩
    have z0 : w.heap.size + 2 ≤ W.heap.size := by have := (Array.getElem?_eq_some_iff.1 hl).1; omega
    refine ⟨_, _, _, _, run_yield hl (by show 2 = ps.size; omega), roundIn_of_wpIn hfn (hassign _ (len - 1 - j) W _ fun a' W' hb ha => ?_)⟩
    have hl' : W'.heap[w.heap.size + 1]? = some (.loop r0) := (hb.block _ (by omega)).trans hl
    have hd' : W'.heap[w.heap.size]? = some (.deferred (some [])) := (hb.block _ (by omega)).trans hd
    refine ⟨_, run_beginRound hl' rfl, wpIn_mono (hbody _ j W a' W' _ hj (by omega) (by omega) hi (fun b hb1 hb2 => by rcases (show b = w.heap.size ∨ b = w.heap.size + 1 by omega) with rfl | rfl; exact ⟨_, hd, rfl⟩; exact ⟨_, hl, rfl⟩) hb ha) ?_⟩
    have zW' : w.heap.size + 2 ≤ W'.heap.size := Nat.le_trans z0 hb.size
    have hl2 : (W'.putObj (w.heap.size + 1) (.loop { r0 with state := .busy })).heap[w.heap.size + 1]? = some (.loop { r0 with state := .busy }) := World.putObj_heap_same (by omega)
    have hd2 : (W'.putObj (w.heap.size + 1) (.loop { r0 with state := .busy })).heap[w.heap.size]? = some (.deferred (some [])) := (World.putObj_heap_other (by omega)).trans hd'
    rintro e a3 W3 hp
    cases e with
    | normal =>
      obtain ⟨k1, hi3⟩ := hp
      have hl3 := (k1 (w.heap.size + 1) (by omega) (by omega)).trans hl2
      have hd3 := (k1 w.heap.size (by omega) (by omega)).trans hd2
      exact ⟨_, _, run_endRound none hl3, .inl ⟨rfl, hIp _ _ _ _ _ hi3 (by omega) (by omega) hl3 rfl, World.putObj_heap_same (Array.getElem?_eq_some_iff.1 hl3).1, (World.putObj_heap_other (by omega)).trans hd3⟩⟩
    | ret =>
      obtain ⟨k1, hi3⟩ := hp
      have hl3 := (k1 (w.heap.size + 1) (by omega) (by omega)).trans hl2
      have hd3 := (k1 w.heap.size (by omega) (by omega)).trans hd2
      exact ⟨_, _, run_endRound (some .ret) hl3, .inr ⟨rfl, hIxp _ _ _ _ hi3 (by omega) (by omega) hl3 rfl, World.putObj_heap_same (Array.getElem?_eq_some_iff.1 hl3).1, (World.putObj_heap_other (by omega)).trans hd3⟩⟩
    | exit id => exact hp.elim
    | goto t => exact hp.elim
    | panic ch => exact hp.elim
    | outgrown => exact hp.elim
  case post =>
    rintro e W2 ⟨⟨v, rfl⟩, (⟨hi, hl, hd⟩ | ⟨hi, hl, hd⟩)⟩
    · exact ⟨_, _, run_endLoop hl (show LoopState.ready ≠ LoopState.busy by decide), hdone _ (hIp _ _ _ _ _ hi (by omega) (by omega) hl rfl) ((World.putObj_heap_other (by omega)).trans hd)⟩
    · exact ⟨_, _, run_endLoop hl (show LoopState.done ≠ LoopState.busy by decide), hstop _ (hIxp _ _ _ _ hi (by omega) (by omega) hl rfl) ((World.putObj_heap_other (by omega)).trans hd)⟩
end Go.Proofs.YteadglnenaiaaaaGreatDoor.W
