import Derived.RangeFuncNested
import Derived.RangeFuncBound
import Derived.RangeFuncCalls
import Derived.RangeFuncLeaves
import Derived.Shelf.Abstract
import Derived.Shelf.RegionOpen
import Derived.WalkKit
import Derived.OwnWalkIn
import Derived.TacticsInMore
import Derived.LoopNIn
import Derived.LoopIn
import Derived.Test.YtdplfflkmphpbaaGreatDoorT17
import Derived.Test.YtdplfflkmphpbaaGreatDoorT13
import Derived.OrdersIn
import Derived.Test.YtdplfflkmphpbaaGreatDoorT15
import Derived.Laws.BytesArg
import Derived.Test.YtdplfflkmphpbaaGreatDoorT08
import Derived.Test.YtdplfflkmphpbaaGreatDoorT06
import Derived.Laws.BytesString
import Derived.Laws.Cells
set_option linter.unusedVariables false
set_option linter.unusedSimpArgs false
namespace Go.Proofs.YtdplfflkmphpbaaGreatDoor.Pl
abbrev Yd := Int × ByteArray × Int × Int × Int × Int
inductive Pth (s : ByteArray) : List Yd → Nat → Prop
  | nil : Pth s [] 0
  | snoc {pre : List Yd} {k j : Nat} {kd : Int} {S : ByteArray} {N : Int} {n : Nat} : Pth s pre k → Sk s k j true → j < s.size → tokF s j = .ok (kd, S, N, n) → Pth s (pre ++ [(kd, S, N, ln s j, cn s j, 0)]) n
def Lst (s : ByteArray) (k : Nat) (x : Yd) : Prop := ∃ j b f, Sk s k j b ∧ x = (0, ⟨#[]⟩, 0, ln s j, cn s j, f) ∧ ((b = false ∧ f = 3) ∨ (b = true ∧ j = s.size ∧ f = 0) ∨ (b = true ∧ j < s.size ∧ tokF s j = .error f))
end Go.Proofs.YtdplfflkmphpbaaGreatDoor.Pl
namespace Go.Proofs.YtdplfflkmphpbaaGreatDoor.W
open Go.RowKit Go.Shelf
attribute [local go_sem] Oper.semAt_some
def KpX (n0 g bx : Nat) (W0 W1 W' : World) : Prop := Below n0 W1 W' ∧ W'.heap[g]? = W1.heap[g]? ∧ W'.heap[bx]? = W1.heap[bx]? ∧ ∀ b, W0.heap.size ≤ b → b < W1.heap.size → W'.heap[b]? = W1.heap[b]?
theorem nxt_cases {g : Nat} {s : ByteArray} {k : Nat} (hk : k ≤ s.size) {w : World} {e : Ending} {w' : World} (h : NxtI g s k w e w') :
    OnlyX g w w' ∧ ∃ (kd : Int) (S : ByteArray) (N A B f : Int) (n : Nat), e = .returned (.tuple #[.agg #[.int .i64 kd, .string S, .int .i64 N, .int .i64 A, .int .i64 B], .int .i64 f]) ∧ n ≤ s.size ∧ LxSt g s n w' ∧
      ((Pl.Lst s k (kd, S, N, A, B, f) ∧ (f ≠ 0 ∨ (f = 0 ∧ kd = 0))) ∨ (f = 0 ∧ kd ≠ 0 ∧ k < n ∧ ∀ pre, Pl.Pth s pre k → Pl.Pth s (pre ++ [(kd, S, N, A, B, f)]) n)) := by
  obtain ⟨j, b, hsk, hox, h⟩ := h
  have hj : k ≤ j := hsk.le.1
  have hj2 : j ≤ s.size := hsk.le.2.1 hk
  refine ⟨hox, ?_⟩
  rcases h with ⟨rfl, rfl, hst⟩ | ⟨rfl, hjs, rfl, hst⟩ | ⟨rfl, hjs, f, htf, rfl, hst⟩ | ⟨rfl, hjs, kd, S, N, n, htf, rfl, hst⟩
  · exact ⟨_, _, _, _, _, _, j, rfl, hj2, hst, .inl ⟨⟨j, false, 3, hsk, rfl, .inl ⟨rfl, rfl⟩⟩, .inl (by decide)⟩⟩
  · exact ⟨_, _, _, _, _, _, j, rfl, hj2, hst, .inl ⟨⟨j, true, 0, hsk, rfl, .inr (.inl ⟨rfl, hjs, rfl⟩)⟩, .inr ⟨rfl, rfl⟩⟩⟩
  · exact ⟨_, _, _, _, _, _, j, rfl, hj2, hst, .inl ⟨⟨j, true, f, hsk, rfl, .inr (.inr ⟨rfl, hjs, htf⟩)⟩, .inl (Pl.tokF_f htf)⟩⟩
  · obtain ⟨⟨h1, h2⟩, ⟨h3, _⟩, _⟩ := Pl.tokF_n hjs htf
    exact ⟨_, _, _, _, _, _, n, rfl, h2, hst, .inr ⟨rfl, by omega, by omega, fun pre hp => .snoc hp hsk hjs htf⟩⟩
theorem lxAt_of {g k : Nat} {s : ByteArray} {w : World} (h : LxSt g s k w) : lxAt g w = k := by
  unfold lxAt
  rw [cell_of_row w g 1 _ 72 (0, 0) h]
  rfl
set_option maxHeartbeats 8000000 in
set_option maxRecDepth 100000 in
theorem tokens1_is (m g bx n0 l : Nat) (hm : 1 ≤ m) (hg8 : 8 ≤ g) (h8 : 8 ≤ n0) (hne : bx ≠ g) (s : ByteArray) (hs : s.size ≤ 1048576) (J Jx : List Pl.Yd → World → Prop)
    (hY : ∀ pre kd S N A B f W0 W1, J pre W0 → (∃ k, Pl.Pth s pre k ∧ LxSt g s k W0) → OnlyX g W0 W1 → n0 ≤ W0.heap.size → YieldAt Fence.wide (m - 1) Tryz.prog l #[.agg #[.int .i64 kd, .string S, .int .i64 N, .int .i64 A, .int .i64 B], .int .i64 f] W1 fun e W' =>
      (e = .returned (.bool true) ∧ J (pre ++ [(kd, S, N, A, B, f)]) W' ∧ KpX n0 g bx W0 W1 W') ∨ (e = .returned (.bool false) ∧ Jx (pre ++ [(kd, S, N, A, B, f)]) W'))
    (W : World) (hbx : W.cell? ⟨bx, 0, none⟩ = some (.pointer (some ⟨g, 0, none⟩))) (hn0 : n0 ≤ W.heap.size) (hL : LxSt g s 0 W) (hE : Glo W) (h0 : J [] W) :
    CallsIn Fence.wide m Tryz.prog 48 #[.func (.yield l) #[] #[], .pointer (some ⟨bx, 0, none⟩)] W fun e W' => (∃ v, e = .returned v) ∧
      ((∃ pre k x, Pl.Pth s pre k ∧ Pl.Lst s k x ∧ J (pre ++ [x]) W') ∨ (∃ pre x, ((∃ k, Pl.Pth s (pre ++ [x]) k) ∨ ∃ k, Pl.Pth s pre k ∧ Pl.Lst s k x) ∧ Jx (pre ++ [x]) W')) := by
  have HY : Hid _ := hY
  have HL : Hid (LxSt g s 0 W) := hL
  have HE : Hid (Glo W) := hE
  have H0 : Hid (J [] W) := h0
  have HBX : Hid (W.cell? ⟨bx, 0, none⟩ = some (.pointer (some ⟨g, 0, none⟩))) := hbx
  clear hY hL hE h0 hbx
  refine callsIn_of_wp Tryz.func48 rfl trivial ?_ rfl
  simp only [Tryz.ntmps48, List.size_toArray, List.length_cons, List.length_nil, Nat.reduceAdd, Nat.reduceSub, Array.replicate_succ, Array.replicate_zero, List.push_toArray, List.append_toArray, List.nil_append, List.cons_append]
  gi_wp2
  gi_loopw [] (fun wr => ∃ pre k, Pl.Pth s pre k ∧ k ≤ s.size ∧ J pre wr ∧ LxSt g s k wr ∧ Glo wr ∧ wr.cell? ⟨bx, 0, none⟩ = some (.pointer (some ⟨g, 0, none⟩)) ∧ n0 ≤ wr.heap.size) (fun wr => s.size - lxAt g wr)
  case atStart => exact ⟨[], 0, .nil, Nat.zero_le _, H0.out, HL.out, HE.out, HBX.out, hn0⟩
  case round =>
    obtain ⟨pre, k, hp, hk, hj, hst, hgl, hb, hn⟩ := hrel
    have HN : Hid (CallsIn Fence.wide (m - 1) Tryz.prog 49 #[.pointer (some ⟨g, 0, none⟩)] wr fun e w' => NxtI g s k wr e w') := callsIn_wide.2 (next_is g hg8 s hs k hk wr hst hgl)
    have HP : Hid (Pl.Pth s pre k) := hp
    have HJ0 : Hid (J pre wr) := hj
    have HM : Hid (lxAt g wr = k) := lxAt_of hst
    have HXX : Hid (∃ k, Pl.Pth s pre k ∧ LxSt g s k wr) := ⟨k, hp, hst⟩
    have HG : Hid (Glo wr) := hgl
    have HB : Hid (wr.cell? ⟨bx, 0, none⟩ = some (.pointer (some ⟨g, 0, none⟩))) := hb
    clear hp hj hst hgl
    gi_wp2_with (refine ⟨trivial, ?_⟩; gi_at_call 49; refine HN.out.mono ?_; rintro e u1 hu1; obtain ⟨hox, kd, S, N, A, B, f, n, rfl, hn2, hst, hcs⟩ := nxt_cases hk hu1; clear hu1; have HOX : Hid (OnlyX g wr u1) := hox; have HST : Hid (LxSt g s n u1) := hst; have HCS : Hid _ := hcs; clear hst hcs hox; obtain ⟨fn, tmps, assign, body, hy, hR⟩ := HY.out pre kd S N A B f wr (u1.alloc (.cells #[.int .i64 kd, .string S, .int .i64 N, .int .i64 A, .int .i64 B] 34)) HJ0.out HXX.out (HOX.out.trans (OnlyX.of_below (below_allocL _ _))) hn; have HR : Hid _ := hR; clear hR)
    refine RoundIn.mono HR.out ?_
    rintro e W3 (⟨rfl, hJ3, hk3⟩ | ⟨rfl, hJx3⟩)
    · have hs1 := HOX.out.size
      have c0 : W3.cell? ⟨u1.heap.size, 0, none⟩ = some (.int .i64 kd) := cell_of_row W3 u1.heap.size 0 _ 34 (0, 0) ((hk3.2.2.2 _ hs1 (by simp)).trans (heap_alloc_new u1 _))
      have HJ3 : Hid (J (pre ++ [(kd, S, N, A, B, f)]) W3) := hJ3
      have B3 : Hid (Below n0 (u1.alloc (.cells #[.int .i64 kd, .string S, .int .i64 N, .int .i64 A, .int .i64 B] 34)) W3) := hk3.1
      have KG : Hid (W3.heap[g]? = (u1.alloc (.cells #[.int .i64 kd, .string S, .int .i64 N, .int .i64 A, .int .i64 B] 34)).heap[g]?) := hk3.2.1
      have KB : Hid (W3.heap[bx]? = (u1.alloc (.cells #[.int .i64 kd, .string S, .int .i64 N, .int .i64 A, .int .i64 B] 34)).heap[bx]?) := hk3.2.2.1
      clear hJ3 hk3 hy HR HY
      rcases HCS.out with ⟨hl, hf | ⟨rfl, rfl⟩⟩ | ⟨rfl, hkd, hkn, hpt⟩
      · have ef : (f != 0) = true := by simpa using hf
        have HLS : Hid (Pl.Lst s k (kd, S, N, A, B, f)) := hl
        clear HCS hf hl
        gi_wp2
        refine bodyPost_ret (results_none rfl _ _ _) rfl ?_
        exact ⟨⟨_, rfl⟩, .inl ⟨pre, k, _, HP.out, HLS.out, HJ3.out⟩⟩
      · have HLS : Hid (Pl.Lst s k (0, S, N, A, B, 0)) := hl
        clear HCS hl
        gi_wp2
        refine bodyPost_ret (results_none rfl _ _ _) rfl ?_
        exact ⟨⟨_, rfl⟩, .inl ⟨pre, k, _, HP.out, HLS.out, HJ3.out⟩⟩
      · have ek : (kd == 0) = false := by simpa using hkd
        have HPT : Hid (Pl.Pth s (pre ++ [(kd, S, N, A, B, 0)]) n) := hpt pre HP.out
        have HKN : Hid (k < n) := hkn
        clear HCS hkd hpt hkn
        gi_wp2
        have hgu : g < u1.heap.size := (Array.getElem?_eq_some_iff.1 HST.out).1
        have hST3 : LxSt g s n W3 := (KG.out.trans (Below.heap_alloc u1 _ g hgu)).trans HST.out
        have hbw : bx < wr.heap.size := block_lt_of_cell HB.out
        have hbu : bx < u1.heap.size := by omega
        go_roundw
        case rel =>
          refine ⟨_, n, HPT.out, hn2, HJ3.out, hST3, ?_, ?_, ?_⟩
          · exact ((HG.out.onX hg8 HOX.out).on (below_allocL _ _)).keep (n := n0) (by omega) B3.out
          · refine (World.cell?_of_block (w := wr) ?_).trans HB.out
            exact (KB.out.trans (Below.heap_alloc u1 _ bx hbu)).trans (HOX.out.block bx hbw hne)
          · have := B3.out.size; simp at this; omega
        case measure => rw [lxAt_of hST3, HM.out]; have := HKN.out; omega
    · have HJX : Hid (Jx (pre ++ [(kd, S, N, A, B, f)]) W3) := hJx3
      clear hJx3 hy HR HY
      gi_wp2
      refine bodyPost_ret (results_none rfl _ _ _) rfl ?_
      refine ⟨⟨_, rfl⟩, .inr ⟨pre, _, ?_, HJX.out⟩⟩
      rcases HCS.out with ⟨hl, _⟩ | ⟨rfl, hkd, hkn, hpt⟩
      · exact .inr ⟨k, HP.out, hl⟩
      · exact .inl ⟨n, hpt pre HP.out⟩
end Go.Proofs.YtdplfflkmphpbaaGreatDoor.W
namespace Go.Proofs.YtdplfflkmphpbaaGreatDoor.W
open Go.RowKit Go.Shelf
theorem alloc_at (w : World) (o : Obj) (k : Nat) (h : k = w.heap.size) : (w.alloc o).heap[k]? = some o := by subst h; exact World.alloc_heap_new w o
def KbX (D z g bx : Nat) (W0 Wb W' : World) : Prop := (∀ b, D ≤ b → b < D + 2 → W'.heap[b]? = Wb.heap[b]?) ∧ Below z Wb W' ∧ W'.heap[g]? = Wb.heap[g]? ∧ W'.heap[bx]? = Wb.heap[bx]? ∧ ∀ b, W0.heap.size ≤ b → b < Wb.heap.size → W'.heap[b]? = Wb.heap[b]?
def xPost (D z g bx : Nat) (W0 Wb : World) (I Ix : List Pl.Yd → World → Prop) (xs : List Pl.Yd) : Exit → Act → World → Prop
  | .normal, _, W' => KbX D z g bx W0 Wb W' ∧ I xs W'
  | .ret, _, W' => (∀ b, D ≤ b → b < D + 2 → W'.heap[b]? = Wb.heap[b]?) ∧ Ix xs W'
  | _, _, _ => False
theorem putObj_below {D l : Nat} {A B : World} (h : Below D A B) (hl : D ≤ l) (o : Obj) : Below D A (B.putObj l o) :=
  ⟨h.os, h.tape, h.output, by simpa using h.size, fun b hb => (World.putObj_heap_other (by omega)).trans (h.block b hb)⟩
set_option maxHeartbeats 4000000 in
theorem range_x {op : Operand} {ps : Array Tmp} {assign body : Code} {Q : Exit → Act → World → Prop} {a : Act} {w : World} (n z g bx : Nat) (h1 : 2 ≤ n) (hz8 : 8 ≤ z) (hzw : z ≤ w.heap.size)
    (hop : a.eval op = .func (.func 48) #[] #[.pointer (some ⟨bx, 0, none⟩)])
    (hg8 : 8 ≤ g) (hgn : g < w.heap.size) (hbn : bx < w.heap.size) (hne : bx ≠ g) (s : ByteArray) (hs : s.size ≤ 1048576)
    (hbx : w.cell? ⟨bx, 0, none⟩ = some (.pointer (some ⟨g, 0, none⟩))) (hL : LxSt g s 0 w) (hE : Glo w) (hps : ps.size = 2)
    (I Ix : List Pl.Yd → World → Prop) (hI : ∀ A, Below w.heap.size w A → I [] A)
    (hIp : ∀ pre A l o o', I pre A → w.heap.size ≤ l → l < w.heap.size + 2 → A.heap[l]? = some o' → o'.isCells = false → I pre (A.putObj l o))
    (hIxp : ∀ pre A l o o', Ix pre A → w.heap.size ≤ l → l < w.heap.size + 2 → A.heap[l]? = some o' → o'.isCells = false → Ix pre (A.putObj l o))
    (Ax : Pl.Yd → World → Act → World → Prop)
    (hassign : ∀ (l : Nat) (kd : Int) (S : ByteArray) (N A B f : Int) (W : World) (K : Act → World → Prop), (∀ a' W', Below W.heap.size W W' → Ax (kd, S, N, A, B, f) W a' W' → K a' W') →
      assign.wpIn (Fence.wide.inRound l) (n - 1 - 1) Tryz.prog (Exit.then K (fun _ _ _ => False)) { tmps := (ps.zip #[.agg #[.int .i64 kd, .string S, .int .i64 N, .int .i64 A, .int .i64 B], .int .i64 f]).foldl (fun t (p, v) => t.setIfInBounds p v) a.tmps, defers := [] } W)
    (hbody : ∀ (l : Nat) (pre : List Pl.Yd) (kd : Int) (S : ByteArray) (N A B f : Int) (W0 W : World) (a' : Act) (W1 : World) (o : Obj), w.heap.size ≤ l → l < w.heap.size + 2 → I pre W0 → (∃ k, Pl.Pth s pre k ∧ LxSt g s k W0) → (∀ b, w.heap.size ≤ b → b < w.heap.size + 2 → ∃ o', W0.heap[b]? = some o' ∧ o'.isCells = false) → w.heap.size + 2 ≤ W0.heap.size → OnlyX g W0 W → Below W.heap.size W W1 → Ax (kd, S, N, A, B, f) W a' W1 →
      body.wpIn (Fence.wide.inRound l) (n - 1 - 1) Tryz.prog (xPost w.heap.size z g bx W0 (W1.putObj l o) I Ix (pre ++ [(kd, S, N, A, B, f)])) a' (W1.putObj l o))
    (hdone : ∀ pre k x W, Pl.Pth s pre k → Pl.Lst s k x → I (pre ++ [x]) W → W.heap[w.heap.size]? = some (.deferred (some [])) → Q .normal { a with defers := { target := .collected w.heap.size, args := #[] } :: a.defers } W)
    (hstop : ∀ pre x W, ((∃ k, Pl.Pth s (pre ++ [x]) k) ∨ ∃ k, Pl.Pth s pre k ∧ Pl.Lst s k x) → Ix (pre ++ [x]) W → W.heap[w.heap.size]? = some (.deferred (some [])) → Code.ret.wpIn Fence.wide n Tryz.prog Q { a with defers := { target := .collected w.heap.size, args := #[] } :: a.defers } W) :
    (Code.rangeFunc op ps assign body).wpIn Fence.wide n Tryz.prog Q a w := by
  refine wpIn_rangeFunc fun fn hfn => ?_
  let r0 : Loop := { state := .ready, pending := none, fn := fn, tmps := a.tmps, params := ps, assign := assign, body := body, defers := w.heap.size }
  obtain ⟨W1, hW1⟩ : ∃ W1, (w.alloc (.deferred (some []))).alloc (.loop r0) = W1 := ⟨_, rfl⟩
  have hL1 : W1.heap[w.heap.size + 1]? = some (.loop r0) := hW1 ▸ alloc_at _ _ _ (by simp)
  have hD1 : W1.heap[w.heap.size]? = some (.deferred (some [])) := hW1 ▸ (Below.heap_alloc _ _ _ (by simp)).trans (alloc_at w _ _ rfl)
  have hB1 : Below w.heap.size w W1 := by rw [← hW1]; exact (below_allocL w _).trans ((below_allocL _ _).mono (by simp))
  have hz1 : w.heap.size + 2 ≤ W1.heap.size := by have := (Array.getElem?_eq_some_iff.1 hL1).1; omega
  refine ⟨w.heap.size + 1, [{ target := .collected w.heap.size, args := #[] }], W1, { target := .fn (.func 48) #[.pointer (some ⟨bx, 0, none⟩)], args := #[.func (.yield (w.heap.size + 1)) #[] #[]] }, W1, 48,
    #[.func (.yield (w.heap.size + 1)) #[] #[]] ++ #[.pointer (some ⟨bx, 0, none⟩)], W1, ?_, ?_, ?_, ?_, fun _ => by omega, ?_⟩
  · rw [← hW1]; exact run_enterLoop_outer _ _ _ _ _
  · simp only [resolve, hop]
    simp [go_sem]
  · intro f' _; trivial
  · simp [invoke, go_sem, enters_of Tryz.func48 (by kernel_rfl) rfl]
  refine (tokens1_is (n - 1) g bx z (w.heap.size + 1) (by omega) hg8 hz8 hne s hs
    (fun pre W => I pre W ∧ W.heap[w.heap.size + 1]? = some (.loop r0) ∧ W.heap[w.heap.size]? = some (.deferred (some [])))
    (fun pre W => Ix pre W ∧ W.heap[w.heap.size + 1]? = some (.loop { r0 with state := .done, pending := some .ret }) ∧ W.heap[w.heap.size]? = some (.deferred (some [])))
    ?hY W1 ((hB1.cell (p := ⟨bx, 0, none⟩) hbn).trans hbx) (by omega) (hL.keep hB1) (hE.on hB1) ⟨hI _ hB1, hL1, hD1⟩).mono ?post
  case hY =>
    rintro pre kd S N A B f W0 W ⟨hi, hl, hd⟩ hxx hx hn
    have z0 : w.heap.size + 2 ≤ W0.heap.size := by have := (Array.getElem?_eq_some_iff.1 hl).1; omega
    have hlW : W.heap[w.heap.size + 1]? = some (.loop r0) := (hx.block _ (by omega) (by omega)).trans hl
    have hdW : W.heap[w.heap.size]? = some (.deferred (some [])) := (hx.block _ (by omega) (by omega)).trans hd
    have zW : w.heap.size + 2 ≤ W.heap.size := Nat.le_trans z0 hx.size
    refine ⟨_, _, _, _, run_yield hlW (by show 2 = ps.size; omega), roundIn_of_wpIn hfn (hassign _ kd S N A B f W _ fun a' W' hb ha => ?_)⟩
    have hl' : W'.heap[w.heap.size + 1]? = some (.loop r0) := (hb.block _ (by omega)).trans hlW
    have hd' : W'.heap[w.heap.size]? = some (.deferred (some [])) := (hb.block _ (by omega)).trans hdW
    refine ⟨_, run_beginRound hl' rfl, wpIn_mono (hbody _ pre kd S N A B f W0 W a' W' _ (by omega) (by omega) hi hxx (fun b hb1 hb2 => by rcases (show b = w.heap.size ∨ b = w.heap.size + 1 by omega) with rfl | rfl; exact ⟨_, hd, rfl⟩; exact ⟨_, hl, rfl⟩) z0 hx hb ha) ?_⟩
    have zW' : w.heap.size + 2 ≤ W'.heap.size := Nat.le_trans zW hb.size
    have hl2 : (W'.putObj (w.heap.size + 1) (.loop { r0 with state := .busy })).heap[w.heap.size + 1]? = some (.loop { r0 with state := .busy }) := World.putObj_heap_same (by omega)
    have hd2 : (W'.putObj (w.heap.size + 1) (.loop { r0 with state := .busy })).heap[w.heap.size]? = some (.deferred (some [])) := (World.putObj_heap_other (by omega)).trans hd'
    rintro e a3 W3 hp
    cases e with
    | normal =>
      obtain ⟨⟨k1, k2, kg, kb, k3⟩, hi3⟩ := hp
      have hl3 := (k1 (w.heap.size + 1) (by omega) (by omega)).trans hl2
      have hd3 := (k1 w.heap.size (by omega) (by omega)).trans hd2
      refine ⟨_, _, run_endRound none hl3, .inl ⟨rfl, ⟨hIp _ _ _ _ _ hi3 (by omega) (by omega) hl3 rfl, World.putObj_heap_same (Array.getElem?_eq_some_iff.1 hl3).1, (World.putObj_heap_other (by omega)).trans hd3⟩, ?_, ?_, ?_, fun b hb1 hb2 => ?_⟩⟩
      · exact putObj_below ((putObj_below (hb.mono (by omega)) (by omega) _).trans k2) (by omega) _
      · rw [World.putObj_heap_other (by omega), kg, World.putObj_heap_other (by omega)]
        exact hb.block g (by omega)
      · rw [World.putObj_heap_other (by omega), kb, World.putObj_heap_other (by omega)]
        exact hb.block bx (by omega)
      · rw [World.putObj_heap_other (by omega), k3 b hb1 (by have := hb.size; simp; omega), World.putObj_heap_other (by omega)]
        exact hb.block b hb2
    | ret =>
      obtain ⟨k1, hi3⟩ := hp
      have hl3 := (k1 (w.heap.size + 1) (by omega) (by omega)).trans hl2
      have hd3 := (k1 w.heap.size (by omega) (by omega)).trans hd2
      exact ⟨_, _, run_endRound (some .ret) hl3, .inr ⟨rfl, hIxp _ _ _ _ _ hi3 (by omega) (by omega) hl3 rfl, World.putObj_heap_same (Array.getElem?_eq_some_iff.1 hl3).1, (World.putObj_heap_other (by omega)).trans hd3⟩⟩
    | exit id => exact hp.elim
    | goto t => exact hp.elim
    | panic ch => exact hp.elim
    | outgrown => exact hp.elim
  case post =>
    rintro e W2 ⟨⟨v, rfl⟩, (⟨pre, k, x, hp, hx, hi, hl, hd⟩ | ⟨pre, x, hx, hi, hl, hd⟩)⟩
    · exact ⟨_, _, run_endLoop hl (show LoopState.ready ≠ LoopState.busy by decide), hdone pre k x _ hp hx (hIp _ _ _ _ _ hi (by omega) (by omega) hl rfl) ((World.putObj_heap_other (by omega)).trans hd)⟩
    · exact ⟨_, _, run_endLoop hl (show LoopState.done ≠ LoopState.busy by decide), hstop pre x _ hx (hIxp _ _ _ _ _ hi (by omega) (by omega) hl rfl) ((World.putObj_heap_other (by omega)).trans hd)⟩
end Go.Proofs.YtdplfflkmphpbaaGreatDoor.W
namespace Go.Proofs.YtdplfflkmphpbaaGreatDoor.Pl
def Yd.tk (x : Yd) : Tk := ⟨x.1, x.2.1, x.2.2.1, x.2.2.2.1, x.2.2.2.2.1⟩
def toks (xs : List Yd) : List Tk := xs.map Yd.tk
def GoOn (xs : List Yd) : Prop := ∀ (i : Nat) (x : Yd), xs[i]? = some x → x.2.2.2.2.2 = (0 : Int) ∧ (x.1 = (0 : Int) ∨ i ≠ 6000)
def cod (n : Nat) (x : Yd) : Int := if x.2.2.2.2.2 = 0 ∧ x.1 ≠ 0 ∧ n = 6000 then 9 else x.2.2.2.2.2
theorem GoOn.nil : GoOn [] := fun i x h => by simp at h
theorem GoOn.snoc {pre : List Yd} {x : Yd} (h : GoOn pre) (hc : cod pre.length x = 0) : GoOn (pre ++ [x]) := by
  intro i y hy
  rcases Nat.lt_or_ge i pre.length with q | q
  · rw [List.getElem?_append_left q] at hy
    exact h i y hy
  · rw [List.getElem?_append_right q] at hy
    have hi : i = pre.length := by
      have := (List.getElem?_eq_some_iff.1 hy).1
      simp at this
      omega
    subst hi
    simp at hy
    subst hy
    unfold cod at hc
    split at hc
    · cases hc
    · next hn =>
      refine ⟨hc, ?_⟩
      by_cases hk : x.1 = 0
      · exact .inl hk
      · exact .inr fun e => hn ⟨hc, hk, e⟩
theorem GoOn.init {pre : List Yd} {x : Yd} (h : GoOn (pre ++ [x])) : GoOn pre := fun i y hy => h i y (by
  rw [List.getElem?_append_left (List.getElem?_eq_some_iff.1 hy).1]; exact hy)
theorem GoOn.last {pre : List Yd} {x : Yd} (h : GoOn (pre ++ [x])) : x.2.2.2.2.2 = 0 ∧ (x.1 = 0 ∨ pre.length ≠ 6000) := h pre.length x (by simp)
theorem Pth.lx {s : ByteArray} {pre : List Yd} {k : Nat} (h : Pth s pre k) : GoOn pre → pre.length ≤ 6000 ∧ ∀ r, Lx s k (toks pre) r → Lx s 0 [] r := by
  induction h with
  | nil => exact fun _ => ⟨Nat.zero_le _, fun r h => h⟩
  | @snoc pre k j kd S N n hp hsk hj htf ih =>
    intro hg
    obtain ⟨h1, h2⟩ := ih hg.init
    have hl := hg.last
    have hk := (tokF_n hj htf).2.1
    have hlt : pre.length < 6000 := by
      rcases hl.2 with q | q
      · exact absurd q (by show kd ≠ 0; omega)
      · omega
    refine ⟨by simp; omega, fun r hr => h2 r (.go hsk hj htf (by simpa [toks] using hlt) ?_)⟩
    simpa [toks, Yd.tk] using hr
theorem lx_done {s : ByteArray} {pre : List Yd} {k : Nat} {x : Yd} (hp : Pth s pre k) (hx : Lst s k x) (hg : GoOn (pre ++ [x])) : Lx s 0 [] (toks (pre ++ [x]), 0, 0, 0) := by
  obtain ⟨h1, h2⟩ := hp.lx hg.init
  obtain ⟨j, b, f, hsk, rfl, hc⟩ := hx
  have hf : f = 0 := hg.last.1
  rcases hc with ⟨_, q⟩ | ⟨rfl, hj, _⟩ | ⟨_, _, q⟩
  · omega
  · have := h2 _ (.fin (acc := toks pre) hsk hj)
    simpa [toks, Yd.tk, tkEnd] using this
  · exact absurd hf (tokF_f q)
theorem lx_stop {s : ByteArray} {pre : List Yd} {x : Yd} (h : (∃ k, Pth s (pre ++ [x]) k) ∨ ∃ k, Pth s pre k ∧ Lst s k x) (hg : GoOn pre) (hc : cod pre.length x ≠ 0) : Lx s 0 [] ([], cod pre.length x, x.2.2.2.1, x.2.2.2.2.1) := by
  rcases h with ⟨k, h⟩ | ⟨k, hp, hx⟩
  · generalize hq : pre ++ [x] = xs at h
    cases h with
    | nil => simp at hq
    | @snoc pre' k' j kd S N n hp hsk hj htf =>
      obtain ⟨e1, e2⟩ := List.append_inj' hq rfl
      subst e1
      simp at e2
      subst e2
      obtain ⟨h1, h2⟩ := hp.lx hg
      have h6 : cod pre.length (kd, S, N, ln s j, cn s j, 0) = 9 ∧ pre.length = 6000 := by
        unfold cod at hc ⊢
        split at hc
        · next q => exact ⟨if_pos q, q.2.2⟩
        · exact absurd rfl hc
      rw [h6.1]
      exact h2 _ (.many hsk hj htf (by simp [toks, h6.2]))
  · obtain ⟨h1, h2⟩ := hp.lx hg
    obtain ⟨j, b, f, hsk, rfl, hcs⟩ := hx
    have e : cod pre.length (0, ⟨#[]⟩, 0, ln s j, cn s j, f) = f := by
      unfold cod
      split
      · next q => exact absurd rfl q.2.1
      · rfl
    rw [e] at hc ⊢
    rcases hcs with ⟨rfl, rfl⟩ | ⟨rfl, _, rfl⟩ | ⟨rfl, hj, htf⟩
    · exact h2 _ (.opn hsk)
    · exact absurd rfl hc
    · exact h2 _ (.bad hsk hj htf)
end Go.Proofs.YtdplfflkmphpbaaGreatDoor.Pl
namespace Go.Proofs.YtdplfflkmphpbaaGreatDoor.W
open Go.RowKit
set_option maxHeartbeats 4000000 in
theorem newLexer_is (s : ByteArray) (w : World) : Calls Tryz.prog 26 #[.string s] w fun e w' => ∃ g, w.heap.size ≤ g ∧ e = .returned (.pointer (some ⟨g, 0, none⟩)) ∧ LxSt g s 0 w' ∧ Below w.heap.size w w' := by
  have e1 : Pl.ln s 0 = 1 := by unfold Pl.ln; simp
  have e2 : Pl.cn s 0 = 1 := by unfold Pl.cn; simp
  have HL : Hid (∀ (g : Nat) (u : World), u.heap[g]? = some (.cells #[.string s, .int .i64 0, .int .i64 1, .int .i64 0] 72 (0, 0)) → LxSt g s 0 u) := fun g u h => by
    unfold LxSt; rw [h, e1, e2]; rfl
  clear e1 e2
  go_enter Tryz.func26, Tryz.ntmps26
  go_wp2_with fail
  go_ret
  exact ⟨w.heap.size, Nat.le_refl _, rfl, HL.out _ _ (heap_alloc_new w _), below_allocL w _⟩
set_option maxHeartbeats 4000000 in
theorem tokens_is (g : Nat) (w : World) : Calls Tryz.prog 27 #[.pointer (some ⟨g, 0, none⟩)] w fun e w' => e = .returned (.func (.func 48) #[] #[.pointer (some ⟨w.heap.size, 0, none⟩)]) ∧ w' = w.alloc (.cells #[.pointer (some ⟨g, 0, none⟩)] 49) := by
  go_enter Tryz.func27, Tryz.ntmps27
  go_wp2_with fail
  go_ret
  exact ⟨rfl, rfl⟩
end Go.Proofs.YtdplfflkmphpbaaGreatDoor.W
namespace Go.Proofs.YtdplfflkmphpbaaGreatDoor.W
open Go.RowKit
theorem load_one23 (w : World) (b : Nat) (v : Value) (h : w.cell? ⟨b, 0, none⟩ = some v) : (loadVar 23 ⟨b, 0, none⟩).run Tryz.prog w = .ok v w := by
  simp [loadVar, go_sem, Tryz.underlying23, h]
theorem load_one3 (w : World) (b : Nat) (v : Value) (h : w.cell? ⟨b, 0, none⟩ = some v) : (loadVar 3 ⟨b, 0, none⟩).run Tryz.prog w = .ok v w := by
  simp [loadVar, go_sem, Tryz.underlying3, h]
theorem results_c4 {fn : Func} {p q r s : Tmp} (h : fn.results = #[.cell p 23, .cell q 3, .cell r 3, .cell s 3]) (tmps : Array Value) (w : World) (b0 b1 b2 b3 : Nat) (v0 v1 v2 v3 : Value)
    (hp : tmps.getD p undef = .pointer (some ⟨b0, 0, none⟩)) (hq : tmps.getD q undef = .pointer (some ⟨b1, 0, none⟩)) (hr : tmps.getD r undef = .pointer (some ⟨b2, 0, none⟩)) (hs : tmps.getD s undef = .pointer (some ⟨b3, 0, none⟩))
    (h0 : w.cell? ⟨b0, 0, none⟩ = some v0) (h1 : w.cell? ⟨b1, 0, none⟩ = some v1) (h2 : w.cell? ⟨b2, 0, none⟩ = some v2) (h3 : w.cell? ⟨b3, 0, none⟩ = some v3) :
    (results fn tmps).run Tryz.prog w = .ok (.tuple #[v0, v1, v2, v3]) w := by
  have hp' : tmps[p]?.getD undef = .pointer (some ⟨b0, 0, none⟩) := by simpa using hp
  have hq' : tmps[q]?.getD undef = .pointer (some ⟨b1, 0, none⟩) := by simpa using hq
  have hr' : tmps[r]?.getD undef = .pointer (some ⟨b2, 0, none⟩) := by simpa using hr
  have hs' : tmps[s]?.getD undef = .pointer (some ⟨b3, 0, none⟩) := by simpa using hs
  simp [results, h, hp', hq', hr', hs', asAddr, load_one23 w b0 v0 h0, load_one3 w b1 v1 h1, load_one3 w b2 v2 h2, load_one3 w b3 v3 h3]
theorem own_other {w w' : World} {B k n : Nat} {e : TypeId} {v : Value} {xs : List Value} (h : w.ownsRow B e k v n xs) (hk : ∀ (b : Nat) (cs : Array Value), B ≤ b → w.heap[b]? = some (.cells cs e (0, 0)) → w'.heap[b]? = w.heap[b]?) : w'.ownsRow B e k v n xs := by
  refine ⟨h.1, ?_⟩
  rcases h.2 with ⟨a, c⟩ | ⟨g, cap, cur, h0, hlo, hg, r⟩
  · exact .inl ⟨a, c⟩
  · exact .inr ⟨g, cap, cur, h0, hlo, (hk g _ hlo hg).trans hg, r⟩
theorem four_set (W : World) (z : Nat) (v0 v1 v2 v3 a0 a1 a2 a3 : Value) (q0 : W.heap[z]? = some (.cells #[a0] 23 (0, 0))) (q1 : W.heap[z + 1]? = some (.cells #[a1] 3 (0, 0))) (q2 : W.heap[z + 1 + 1]? = some (.cells #[a2] 3 (0, 0))) (q3 : W.heap[z + 1 + 1 + 1]? = some (.cells #[a3] 3 (0, 0))) {X : World}
    (hX : X = (((W.setCell ⟨z, 0, none⟩ v0).setCell ⟨z + 1, 0, none⟩ v1).setCell ⟨z + 1 + 1, 0, none⟩ v2).setCell ⟨z + 1 + 1 + 1, 0, none⟩ v3) :
    X.heap[z]? = some (.cells #[v0] 23 (0, 0)) ∧ X.heap[z + 1]? = some (.cells #[v1] 3 (0, 0)) ∧ X.heap[z + 1 + 1]? = some (.cells #[v2] 3 (0, 0)) ∧ X.heap[z + 1 + 1 + 1]? = some (.cells #[v3] 3 (0, 0)) ∧ (∀ b, b < z ∨ z + 4 ≤ b → X.heap[b]? = W.heap[b]?) ∧ Below z W X := by
  subst hX
  have o : ∀ (u : World) (c : Nat) (v : Value) (b : Nat), b ≠ c → (u.setCell ⟨c, 0, none⟩ v).heap[b]? = u.heap[b]? := fun u c v b h => Below.heap_setCell u ⟨c, 0, none⟩ v b h
  refine ⟨?_, ?_, ?_, ?_, fun b hb => ?_, ?_⟩
  · rw [o _ _ _ _ (by omega), o _ _ _ _ (by omega), o _ _ _ _ (by omega)]; exact one_setCell q0
  · rw [o _ _ _ _ (by omega), o _ _ _ _ (by omega)]; exact one_setCell (by rw [o _ _ _ _ (by omega)]; exact q1)
  · rw [o _ _ _ _ (by omega)]; exact one_setCell (by rw [o _ _ _ _ (by omega), o _ _ _ _ (by omega)]; exact q2)
  · exact one_setCell (by rw [o _ _ _ _ (by omega), o _ _ _ _ (by omega), o _ _ _ _ (by omega)]; exact q3)
  · rw [o _ _ _ _ (by omega), o _ _ _ _ (by omega), o _ _ _ _ (by omega), o _ _ _ _ (by omega)]
  · exact ((((Below.refl z W).setCell (p := ⟨z, 0, none⟩) (Nat.le_refl _) _).setCell (p := ⟨z + 1, 0, none⟩) (by show z ≤ z + 1; omega) _).setCell (p := ⟨z + 1 + 1, 0, none⟩) (by show z ≤ z + 1 + 1; omega) _).setCell (p := ⟨z + 1 + 1 + 1, 0, none⟩) (by show z ≤ z + 1 + 1 + 1; omega) _
theorem lex_leave (m : Nat) (s : ByteArray) (w W : World) (D : Nat) (tmps : Array Value) (ts : List Pl.Tk) (c l k : Int) (v : Value) (hp : tmps.getD 2 undef = .pointer (some ⟨w.heap.size, 0, none⟩)) (hq : tmps.getD 3 undef = .pointer (some ⟨w.heap.size + 1, 0, none⟩)) (hr : tmps.getD 4 undef = .pointer (some ⟨w.heap.size + 1 + 1, 0, none⟩)) (hs : tmps.getD 5 undef = .pointer (some ⟨w.heap.size + 1 + 1 + 1, 0, none⟩))
    (q0 : W.heap[w.heap.size]? = some (.cells #[v] 23 (0, 0))) (q1 : W.heap[w.heap.size + 1]? = some (.cells #[.int .i64 c] 3 (0, 0))) (q2 : W.heap[w.heap.size + 1 + 1]? = some (.cells #[.int .i64 l] 3 (0, 0))) (q3 : W.heap[w.heap.size + 1 + 1 + 1]? = some (.cells #[.int .i64 k] 3 (0, 0)))
    (ho : W.ownsRow w.heap.size 34 5 v ts.length (Pl.Tk.all ts)) (hD : W.heap[D]? = some (.deferred (some []))) (hDz : w.heap.size + 4 ≤ D) (hB : Below w.heap.size w W) (hx : LxAll s (ts, c, l, k)) :
    bodyPostM Fence.wide m Tryz.prog Tryz.f9 (fun e w' => LexSaid w.heap.size s e w' ∧ Below w.heap.size w w') .ret { tmps := tmps, defers := [{ target := .collected D, args := #[] }] } W := by
  have o : ∀ b, b ≠ D → (W.putObj D (.deferred none)).heap[b]? = W.heap[b]? := fun b h => World.putObj_heap_other h
  refine ⟨by simp, .inl ⟨_, _, rfl, run_takeDeferred hD, ?_⟩⟩
  refine ⟨_, results_c4 rfl tmps _ w.heap.size (w.heap.size + 1) (w.heap.size + 1 + 1) (w.heap.size + 1 + 1 + 1) v (.int .i64 c) (.int .i64 l) (.int .i64 k) hp hq hr hs (cell_of_row _ _ 0 _ 23 (0, 0) ((o _ (by omega)).trans q0)) (cell_of_row _ _ 0 _ 3 (0, 0) ((o _ (by omega)).trans q1)) (cell_of_row _ _ 0 _ 3 (0, 0) ((o _ (by omega)).trans q2)) (cell_of_row _ _ 0 _ 3 (0, 0) ((o _ (by omega)).trans q3)), ⟨ts, c, l, k, v, hx, rfl, own_other ho fun b cs _ hc => o b fun e => ?_⟩, putObj_below hB (by omega) _⟩
  subst e
  rw [hD] at hc
  cases hc
end Go.Proofs.YtdplfflkmphpbaaGreatDoor.W
namespace Go.Proofs.YtdplfflkmphpbaaGreatDoor.W
open Go.RowKit
section
variable {F : Fence} {n : Nat} {P : Program} {ops : Array Oper} {Q : Exit → Act → World → Prop} {md : Region.Mode}
theorem wpAnyIn_inn (I : Array Bool → Act → World → Prop)
    (hdone : ∀ L a w, I L a w → (∀ i, i < ops.size → up L i = true) → Q .normal a w)
    (hac : acycM md ops = true)
    (hstep : ∀ (L : Array Bool) (a : Act) (w : World) (i : Nat) (o : Oper), I L a w → i < L.size → L.size = ops.size → up L i = false → Clo md ops L → (∀ e ∈ o.after, Region.binds md e = true → up L e.on = true) → ops[i]? = some o → ∀ K : Act → World → Prop, (∀ a w, I (L.setIfInBounds i true) a w → K a w) → wpOpIn F n P ops Q i K a w) :
    ∀ (fuel : Nat) (L : Array Bool) (a : Act) (w : World), I L a w → Clo md ops L → L.size = ops.size → unl L.toList ≤ fuel → wpAnyIn F n P md ops Q fuel L a w := by
  intro fuel
  induction fuel with
  | zero =>
    intro L a w hI hC hs hu
    have hr : Region.ready md ops L = [] := by
      cases hrr : Region.ready md ops L with
      | nil => rfl
      | cons i rs =>
        have := ready_false hs (i := i) (md := md) (by rw [hrr]; exact List.mem_cons_self)
        exact absurd this (unl_zero _ (by omega) i)
    exact ⟨hr, hdone L a w hI fun i hi => up_of (ready_nil_allM hac hs hr i hi) (by omega)⟩
  | succ fuel ih =>
    intro L a w hI hC hs hu
    refine ⟨fun hr => hdone L a w hI fun i hi => up_of (ready_nil_allM hac hs hr i hi) (by omega), fun i hi => ?_⟩
    obtain ⟨h0, o, ho, hd⟩ := mem_ready.1 hi
    have hlt : i < L.size := by rw [hs]; exact (Array.getElem?_eq_some_iff.1 ho).1
    have hd' : ∀ e ∈ o.after, Region.binds md e = true → up L e.on = true := hd
    refine hstep L a w i o hI hlt hs (up_false h0) hC hd' ho _ fun a' w' h' => ih _ a' w' h' (fun j oj hoj hj e he hb => ?_) (by simpa using hs) ?_
    · rw [up_set hlt] at hj
      by_cases q : i = j
      · subst q
        rw [ho] at hoj
        cases hoj
        exact up_mono hlt (hd' e he hb)
      · rw [if_neg q] at hj
        exact up_mono hlt (hC j oj hoj hj e he hb)
    · have h1 := unl_set L.toList i (ready_false hs hi)
      rw [Array.toList_setIfInBounds]
      omega
theorem unl_replicate (k : Nat) : unl (Array.replicate k false).toList = k := by
  rw [Array.toList_replicate]
  induction k with
  | zero => rfl
  | succ k ih => show unl (false :: List.replicate k false) = k + 1; unfold unl at ih ⊢; rw [List.map_cons, List.sum_cons, ih]; simp; omega
theorem clo_init (k : Nat) : Clo md ops (Array.replicate k false) := fun j o ho hj => by
  rw [up_init] at hj
  cases hj
end
end Go.Proofs.YtdplfflkmphpbaaGreatDoor.W
namespace Go.Proofs.YtdplfflkmphpbaaGreatDoor.W
open Go.RowKit Go.Shelf
attribute [local go_sem] Oper.semAt_some
theorem wpOpIn_of {F : Fence} {n : Nat} {P : Program} {ops : Array Oper} {Q : Exit → Act → World → Prop} {i : Nat} {o : Oper} {K : Act → World → Prop} {a : Act} {w : World} (h : ops[i]? = some o) (hh : if Region.wanted o (yielded ops a.tmps) then o.wpIn F n P a w K Q else (∀ f, o.about P w a.eval = some f → F.fn f) ∧ K (a.put o.dst undef) w) : wpOpIn F n P ops Q i K a w := by
  unfold wpOpIn
  rw [h]
  exact hh
def LzrW (X0 X1 X2 X3 X4 : World) (L : Array Bool) : World := bif up L 8 then X4 else bif up L 7 then X3 else bif up L 6 then X2 else bif up L 5 then X1 else X0
theorem LzrW.keep {X0 X1 X2 X3 X4 : World} {L : Array Bool} {i : Nat} (hi : i < L.size) (n5 : i ≠ 5) (n6 : i ≠ 6) (n7 : i ≠ 7) (n8 : i ≠ 8) : LzrW X0 X1 X2 X3 X4 (L.setIfInBounds i true) = LzrW X0 X1 X2 X3 X4 L := by
  unfold LzrW
  rw [up_set hi, up_set hi, up_set hi, up_set hi, if_neg n5, if_neg n6, if_neg n7, if_neg n8]
theorem LzrW.all {P : World → Prop} {X0 X1 X2 X3 X4 : World} (h0 : P X0) (h1 : P X1) (h2 : P X2) (h3 : P X3) (h4 : P X4) (L : Array Bool) : P (LzrW X0 X1 X2 X3 X4 L) := by
  unfold LzrW
  cases up L 8 <;> cases up L 7 <;> cases up L 6 <;> cases up L 5 <;> assumption
def LzrMk (z p : Nat) (f A B : Int) (u0 u1 u6 u9 u10 u11 u12 u13 u14 u15 u16 u17 u18 u19 u20 u21 u22 u23 u24 u25 u26 u27 u28 u29 u30 u31 u32 u38 u39 u40 u41 u42 : Value)  (L : Array Bool) : Act := { tmps := #[u0, u1, .pointer (some ⟨z, 0, none⟩), .pointer (some ⟨z + 1, 0, none⟩), .pointer (some ⟨z + 1 + 1, 0, none⟩), .pointer (some ⟨z + 1 + 1 + 1, 0, none⟩), u6, .pointer (some ⟨p, 0, none⟩), .int .i64 f, u9, u10, u11, u12, u13, u14, u15, u16, u17, u18, u19, u20, u21, u22, u23, u24, u25, u26, u27, u28, u29, u30, u31, u32, sl L 0 (.int .i64 f), sl L 1 (.pointer (some ⟨p, 3, none⟩)), sl L 2 (.int .i64 A), sl L 3 (.pointer (some ⟨p, 4, none⟩)), sl L 4 (.int .i64 B), u38, u39, u40, u41, u42], defers := [] }
def LzrOps : Array Oper := #[{ dst := some 33, op := Op.move (Operand.tmp 8), type := 3, pos := "l5_lex.go:68", after := #[{ on := 5, ground := Ground.gcOnly Departure.lateStores }], guard := none }, { dst := some 34, op := Op.fieldAddr 34 (Operand.tmp 7) 3, type := 0, pos := "l5_lex.go:68", after := #[{ on := 6, ground := Ground.gcOnly Departure.lateStores }], guard := none }, { dst := some 35, op := Op.load 3 (Operand.tmp 34), type := 3, pos := "l5_lex.go:68", after := #[{ on := 1, ground := Ground.data }, { on := 6, ground := Ground.gcOnly Departure.lateStores }], guard := none }, { dst := some 36, op := Op.fieldAddr 34 (Operand.tmp 7) 4, type := 0, pos := "l5_lex.go:68", after := #[{ on := 7, ground := Ground.gcOnly Departure.lateStores }], guard := none }, { dst := some 37, op := Op.load 3 (Operand.tmp 36), type := 3, pos := "l5_lex.go:68", after := #[{ on := 3, ground := Ground.data }, { on := 7, ground := Ground.gcOnly Departure.lateStores }], guard := none }, { dst := none, op := Op.store 23 (Operand.tmp 2) (Operand.const (Value.slice none 0 0)), type := 0, pos := "l5_lex.go:68", after := #[{ on := 0, ground := Ground.textOnly Departure.lateStores }, { on := 1, ground := Ground.textOnly Departure.lateStores }, { on := 2, ground := Ground.textOnly Departure.lateStores }, { on := 3, ground := Ground.textOnly Departure.lateStores }, { on := 4, ground := Ground.textOnly Departure.lateStores }], guard := none }, { dst := none, op := Op.store 3 (Operand.tmp 3) (Operand.tmp 33), type := 0, pos := "l5_lex.go:68", after := #[{ on := 0, ground := Ground.data }, { on := 5, ground := Ground.chain }, { on := 0, ground := Ground.phase }, { on := 1, ground := Ground.textOnly Departure.lateStores }, { on := 2, ground := Ground.textOnly Departure.lateStores }, { on := 3, ground := Ground.textOnly Departure.lateStores }, { on := 4, ground := Ground.textOnly Departure.lateStores }, { on := 5, ground := Ground.phase }], guard := none }, { dst := none, op := Op.store 3 (Operand.tmp 4) (Operand.tmp 35), type := 0, pos := "l5_lex.go:68", after := #[{ on := 2, ground := Ground.data }, { on := 6, ground := Ground.chain }, { on := 0, ground := Ground.phase }, { on := 1, ground := Ground.phase }, { on := 2, ground := Ground.phase }, { on := 3, ground := Ground.textOnly Departure.lateStores }, { on := 4, ground := Ground.textOnly Departure.lateStores }, { on := 5, ground := Ground.phase }, { on := 6, ground := Ground.phase }], guard := none }, { dst := none, op := Op.store 3 (Operand.tmp 5) (Operand.tmp 37), type := 0, pos := "l5_lex.go:68", after := #[{ on := 4, ground := Ground.data }, { on := 7, ground := Ground.chain }, { on := 0, ground := Ground.phase }, { on := 1, ground := Ground.phase }, { on := 2, ground := Ground.phase }, { on := 3, ground := Ground.phase }, { on := 4, ground := Ground.phase }, { on := 5, ground := Ground.phase }, { on := 6, ground := Ground.phase }, { on := 7, ground := Ground.phase }], guard := none }]
set_option maxHeartbeats 4000000 in
set_option maxRecDepth 100000 in
theorem lex_reg10 {F : Fence} {n : Nat} {Q : Exit → Act → World → Prop} {l : Nat} (hF : F = Fence.wide.inRound l) (z p : Nat) (f A B : Int) (u0 u1 u6 u9 u10 u11 u12 u13 u14 u15 u16 u17 u18 u19 u20 u21 u22 u23 u24 u25 u26 u27 u28 u29 u30 u31 u32 u38 u39 u40 u41 u42 : Value) (Wb X4 : World)
    (k3 : Wb.cell? ⟨p, 3, none⟩ = some (.int .i64 A)) (k4 : Wb.cell? ⟨p, 4, none⟩ = some (.int .i64 B)) (hp : z + 4 ≤ p)
    (t0 : Wb.cell? ⟨z, 0, none⟩ = some (.slice none 0 0)) (t1 : Wb.cell? ⟨z + 1, 0, none⟩ = some (.int .i64 0)) (t2 : Wb.cell? ⟨z + 1 + 1, 0, none⟩ = some (.int .i64 0)) (t3 : Wb.cell? ⟨z + 1 + 1 + 1, 0, none⟩ = some (.int .i64 0))
    (f0 : Wb.frozen? ⟨z, 0, none⟩ = false) (f1 : Wb.frozen? ⟨z + 1, 0, none⟩ = false) (f2 : Wb.frozen? ⟨z + 1 + 1, 0, none⟩ = false) (f3 : Wb.frozen? ⟨z + 1 + 1 + 1, 0, none⟩ = false)
    (hX4 : X4 = ((((Wb.drew).setCell ⟨z, 0, none⟩ (.slice none 0 0)).setCell ⟨z + 1, 0, none⟩ (.int .i64 f)).setCell ⟨z + 1 + 1, 0, none⟩ (.int .i64 A)).setCell ⟨z + 1 + 1 + 1, 0, none⟩ (.int .i64 B))
    (hQ : Q .normal { tmps := #[u0, u1, .pointer (some ⟨z, 0, none⟩), .pointer (some ⟨z + 1, 0, none⟩), .pointer (some ⟨z + 1 + 1, 0, none⟩), .pointer (some ⟨z + 1 + 1 + 1, 0, none⟩), u6, .pointer (some ⟨p, 0, none⟩), .int .i64 f, u9, u10, u11, u12, u13, u14, u15, u16, u17, u18, u19, u20, u21, u22, u23, u24, u25, u26, u27, u28, u29, u30, u31, u32, .int .i64 f, .pointer (some ⟨p, 3, none⟩), .int .i64 A, .pointer (some ⟨p, 4, none⟩), .int .i64 B, u38, u39, u40, u41, u42], defers := [] } X4) :
    wpAnyIn F n Tryz.prog .any LzrOps Q 9 (Array.replicate 9 false) { tmps := #[u0, u1, .pointer (some ⟨z, 0, none⟩), .pointer (some ⟨z + 1, 0, none⟩), .pointer (some ⟨z + 1 + 1, 0, none⟩), .pointer (some ⟨z + 1 + 1 + 1, 0, none⟩), u6, .pointer (some ⟨p, 0, none⟩), .int .i64 f, u9, u10, u11, u12, u13, u14, u15, u16, u17, u18, u19, u20, u21, u22, u23, u24, u25, u26, u27, u28, u29, u30, u31, u32, undef, undef, undef, undef, undef, u38, u39, u40, u41, u42], defers := [] } (Wb.drew) := by
  subst hF
  unfold LzrOps
  obtain ⟨X0, hX0⟩ : ∃ X0, X0 = Wb.drew := ⟨_, rfl⟩
  have e0 : ∀ a, X0.cell? a = Wb.cell? a := fun a => by rw [hX0]; rfl
  have e0' : ∀ a, X0.frozen? a = Wb.frozen? a := fun a => by rw [hX0]; rfl
  rw [← hX0] at hX4 ⊢
  obtain ⟨X1, hX1⟩ : ∃ X1, X1 = X0.setCell ⟨z, 0, none⟩ (.slice none 0 0) := ⟨_, rfl⟩
  rw [← hX1] at hX4
  obtain ⟨X2, hX2⟩ : ∃ X2, X2 = X1.setCell ⟨z + 1, 0, none⟩ (.int .i64 f) := ⟨_, rfl⟩
  rw [← hX2] at hX4
  obtain ⟨X3, hX3⟩ : ∃ X3, X3 = X2.setCell ⟨z + 1 + 1, 0, none⟩ (.int .i64 A) := ⟨_, rfl⟩
  rw [← hX3] at hX4
  have o : ∀ (u : World) (c b j : Nat) (v : Value), b ≠ c → (u.setCell ⟨c, 0, none⟩ v).cell? ⟨b, j, none⟩ = u.cell? ⟨b, j, none⟩ := fun u c b j v h => World.cell?_setCell_other u _ _ v (by intro e; cases e; exact h rfl)
  have r1 : ∀ b j, b ≠ z → X1.cell? ⟨b, j, none⟩ = Wb.cell? ⟨b, j, none⟩ := fun b j h => by rw [hX1, o _ _ _ _ _ h, e0]
  have r2 : ∀ b j, b ≠ z → b ≠ z + 1 → X2.cell? ⟨b, j, none⟩ = Wb.cell? ⟨b, j, none⟩ := fun b j h h' => by rw [hX2, o _ _ _ _ _ h', r1 _ _ h]
  have r3 : ∀ b j, b ≠ z → b ≠ z + 1 → b ≠ z + 1 + 1 → X3.cell? ⟨b, j, none⟩ = Wb.cell? ⟨b, j, none⟩ := fun b j h h' h'' => by rw [hX3, o _ _ _ _ _ h'', r2 _ _ h h']
  have r4 : ∀ b j, b ≠ z → b ≠ z + 1 → b ≠ z + 1 + 1 → b ≠ z + 1 + 1 + 1 → X4.cell? ⟨b, j, none⟩ = Wb.cell? ⟨b, j, none⟩ := fun b j h h' h'' h3 => by rw [hX4, o _ _ _ _ _ h3, r3 _ _ h h' h'']
  have g1 : ∀ a, X1.frozen? a = Wb.frozen? a := fun a => by rw [hX1, World.frozen?_setCell, e0']
  have g2 : ∀ a, X2.frozen? a = Wb.frozen? a := fun a => by rw [hX2, World.frozen?_setCell, g1]
  have g3 : ∀ a, X3.frozen? a = Wb.frozen? a := fun a => by rw [hX3, World.frozen?_setCell, g2]
  have K3 : Hid (∀ L, (LzrW X0 X1 X2 X3 X4 L).cell? ⟨p, 3, none⟩ = some (.int .i64 A)) := LzrW.all (P := fun X => X.cell? ⟨p, 3, none⟩ = some (.int .i64 A)) ((e0 _).trans k3) ((r1 _ _ (by omega)).trans k3) ((r2 _ _ (by omega) (by omega)).trans k3) ((r3 _ _ (by omega) (by omega) (by omega)).trans k3) ((r4 _ _ (by omega) (by omega) (by omega) (by omega)).trans k3)
  have K4 : Hid (∀ L, (LzrW X0 X1 X2 X3 X4 L).cell? ⟨p, 4, none⟩ = some (.int .i64 B)) := LzrW.all (P := fun X => X.cell? ⟨p, 4, none⟩ = some (.int .i64 B)) ((e0 _).trans k4) ((r1 _ _ (by omega)).trans k4) ((r2 _ _ (by omega) (by omega)).trans k4) ((r3 _ _ (by omega) (by omega) (by omega)).trans k4) ((r4 _ _ (by omega) (by omega) (by omega) (by omega)).trans k4)
  have C0 : Hid (X0.cell? ⟨z, 0, none⟩ = some (.slice none 0 0)) := (e0 _).trans t0
  have C1 : Hid (X1.cell? ⟨z + 1, 0, none⟩ = some (.int .i64 0)) := (r1 _ _ (by omega)).trans t1
  have C2 : Hid (X2.cell? ⟨z + 1 + 1, 0, none⟩ = some (.int .i64 0)) := (r2 _ _ (by omega) (by omega)).trans t2
  have C3 : Hid (X3.cell? ⟨z + 1 + 1 + 1, 0, none⟩ = some (.int .i64 0)) := (r3 _ _ (by omega) (by omega) (by omega)).trans t3
  have F0 : Hid (X0.frozen? ⟨z, 0, none⟩ = false) := (e0' _).trans f0
  have F1 : Hid (X1.frozen? ⟨z + 1, 0, none⟩ = false) := (g1 _).trans f1
  have F2 : Hid (X2.frozen? ⟨z + 1 + 1, 0, none⟩ = false) := (g2 _).trans f2
  have F3 : Hid (X3.frozen? ⟨z + 1 + 1 + 1, 0, none⟩ = false) := (g3 _).trans f3
  have HX1 : Hid _ := hX1
  have HX2 : Hid _ := hX2
  have HX3 : Hid _ := hX3
  have HX4 : Hid _ := hX4
  clear hX0 hX1 hX2 hX3 hX4 r1 r2 r3 r4 g1 g2 g3 o e0 e0' t0 t1 t2 t3 f0 f1 f2 f3 k3 k4
  refine wpAnyIn_inn (fun L act w' => act = LzrMk z p f A B u0 u1 u6 u9 u10 u11 u12 u13 u14 u15 u16 u17 u18 u19 u20 u21 u22 u23 u24 u25 u26 u27 u28 u29 u30 u31 u32 u38 u39 u40 u41 u42 L ∧ w' = LzrW X0 X1 X2 X3 X4 L) ?done (by kernel_rfl) ?step 9 _ _ _ ?init (clo_init _) (by kernel_rfl) (by rw [unl_replicate]; exact Nat.le_refl _)
  case init => exact ⟨by simp only [LzrMk, sl_no (up_init _ _)], by unfold LzrW; simp only [up_init]; rfl⟩
  case done =>
    rintro L act w' ⟨rfl, rfl⟩ hall
    have eW : LzrW X0 X1 X2 X3 X4 L = X4 := by unfold LzrW; rw [hall 8 (by decide)]; rfl
    rw [eW]
    simp only [LzrMk, sl_yes (hall 0 (by decide)), sl_yes (hall 1 (by decide)), sl_yes (hall 2 (by decide)), sl_yes (hall 3 (by decide)), sl_yes (hall 4 (by decide))]
    exact hQ
  case step =>
      intro L act w i o hI hlt hs nl hC hd ho K hK
      obtain ⟨rfl, hW⟩ := hI
      have hi_lt : i < 9 := (Array.getElem?_eq_some_iff.1 ho).1
      rcases (show i = 0 ∨ i = 1 ∨ i = 2 ∨ i = 3 ∨ i = 4 ∨ i = 5 ∨ i = 6 ∨ i = 7 ∨ i = 8 by omega) with rfl | rfl | rfl | rfl | rfl | rfl | rfl | rfl | rfl
      · change some _ = some o at ho
        cases ho
        subst hW
        simp only [LzrMk]
        refine wpOpIn_of rfl ?_
        go_simp
        exact hK _ _ ⟨by simp only [LzrMk, sl_set hlt, reduceIte, Nat.reduceEqDiff]; try rfl, (LzrW.keep hlt (by decide) (by decide) (by decide) (by decide)).symm⟩
      · change some _ = some o at ho
        cases ho
        subst hW
        simp only [LzrMk]
        refine wpOpIn_of rfl ?_
        go_simp
        exact hK _ _ ⟨by simp only [LzrMk, sl_set hlt, reduceIte, Nat.reduceEqDiff]; try rfl, (LzrW.keep hlt (by decide) (by decide) (by decide) (by decide)).symm⟩
      · change some _ = some o at ho
        cases ho
        have q1 : up L 1 = true := (by first | exact hd { on := 1, ground := .data } (by simp) rfl | exact hd { on := 1, ground := .chain } (by simp) rfl | exact hd { on := 1, ground := .phase } (by simp) rfl)
        subst hW
        have kj := K3.out L
        simp only [LzrMk, sl_yes q1]
        refine wpOpIn_of rfl ?_
        go_simp
        exact hK _ _ ⟨by simp only [LzrMk, sl_set hlt, sl_yes q1, reduceIte, Nat.reduceEqDiff]; try rfl, (LzrW.keep hlt (by decide) (by decide) (by decide) (by decide)).symm⟩
      · change some _ = some o at ho
        cases ho
        subst hW
        simp only [LzrMk]
        refine wpOpIn_of rfl ?_
        go_simp
        exact hK _ _ ⟨by simp only [LzrMk, sl_set hlt, reduceIte, Nat.reduceEqDiff]; try rfl, (LzrW.keep hlt (by decide) (by decide) (by decide) (by decide)).symm⟩
      · change some _ = some o at ho
        cases ho
        have q3 : up L 3 = true := (by first | exact hd { on := 3, ground := .data } (by simp) rfl | exact hd { on := 3, ground := .chain } (by simp) rfl | exact hd { on := 3, ground := .phase } (by simp) rfl)
        subst hW
        have kj := K4.out L
        simp only [LzrMk, sl_yes q3]
        refine wpOpIn_of rfl ?_
        go_simp
        exact hK _ _ ⟨by simp only [LzrMk, sl_set hlt, sl_yes q3, reduceIte, Nat.reduceEqDiff]; try rfl, (LzrW.keep hlt (by decide) (by decide) (by decide) (by decide)).symm⟩
      · change some _ = some o at ho
        cases ho
        subst hW
        have n6 : up L 6 = false := hC.no nl 6 rfl (by kernel_rfl)
        have n7 : up L 7 = false := hC.no n6 7 rfl (by kernel_rfl)
        have n8 : up L 8 = false := hC.no n7 8 rfl (by kernel_rfl)
        have eW : LzrW X0 X1 X2 X3 X4 L = X0 := by unfold LzrW; simp [n6, n7, n8, nl]
        rw [eW]
        have cj := C0.out
        have fj := F0.out
        simp only [LzrMk]
        refine wpOpIn_of rfl ?_
        go_simp
        exact hK _ _ ⟨by simp only [LzrMk, sl_set hlt, reduceIte, Nat.reduceEqDiff]; try rfl, (HX1.out.symm.trans (by unfold LzrW; simp [up_set hlt, n6, n7, n8])).symm.symm⟩
      · change some _ = some o at ho
        cases ho
        have q0 : up L 0 = true := (by first | exact hd { on := 0, ground := .data } (by simp) rfl | exact hd { on := 0, ground := .chain } (by simp) rfl | exact hd { on := 0, ground := .phase } (by simp) rfl)
        subst hW
        have n7 : up L 7 = false := hC.no nl 7 rfl (by kernel_rfl)
        have n8 : up L 8 = false := hC.no n7 8 rfl (by kernel_rfl)
        have qq : up L 5 = true := hd { on := 5, ground := .chain } (by simp) rfl
        have eW : LzrW X0 X1 X2 X3 X4 L = X1 := by unfold LzrW; simp [n7, n8, nl, qq]
        rw [eW]
        have cj := C1.out
        have fj := F1.out
        simp only [LzrMk, sl_yes q0]
        refine wpOpIn_of rfl ?_
        go_simp
        exact hK _ _ ⟨by simp only [LzrMk, sl_set hlt, sl_yes q0, reduceIte, Nat.reduceEqDiff]; try rfl, (HX2.out.symm.trans (by unfold LzrW; simp [up_set hlt, n7, n8])).symm.symm⟩
      · change some _ = some o at ho
        cases ho
        have q2 : up L 2 = true := (by first | exact hd { on := 2, ground := .data } (by simp) rfl | exact hd { on := 2, ground := .chain } (by simp) rfl | exact hd { on := 2, ground := .phase } (by simp) rfl)
        subst hW
        have n8 : up L 8 = false := hC.no nl 8 rfl (by kernel_rfl)
        have qq : up L 6 = true := hd { on := 6, ground := .chain } (by simp) rfl
        have eW : LzrW X0 X1 X2 X3 X4 L = X2 := by unfold LzrW; simp [n8, nl, qq]
        rw [eW]
        have cj := C2.out
        have fj := F2.out
        simp only [LzrMk, sl_yes q2]
        refine wpOpIn_of rfl ?_
        go_simp
        exact hK _ _ ⟨by simp only [LzrMk, sl_set hlt, sl_yes q2, reduceIte, Nat.reduceEqDiff]; try rfl, (HX3.out.symm.trans (by unfold LzrW; simp [up_set hlt, n8])).symm.symm⟩
      · change some _ = some o at ho
        cases ho
        have q4 : up L 4 = true := (by first | exact hd { on := 4, ground := .data } (by simp) rfl | exact hd { on := 4, ground := .chain } (by simp) rfl | exact hd { on := 4, ground := .phase } (by simp) rfl)
        subst hW
        have qq : up L 7 = true := hd { on := 7, ground := .chain } (by simp) rfl
        have eW : LzrW X0 X1 X2 X3 X4 L = X3 := by unfold LzrW; simp [nl, qq]
        rw [eW]
        have cj := C3.out
        have fj := F3.out
        simp only [LzrMk, sl_yes q4]
        refine wpOpIn_of rfl ?_
        go_simp
        exact hK _ _ ⟨by simp only [LzrMk, sl_set hlt, sl_yes q4, reduceIte, Nat.reduceEqDiff]; try rfl, (HX4.out.symm.trans (by unfold LzrW; simp [up_set hlt]))⟩
end Go.Proofs.YtdplfflkmphpbaaGreatDoor.W
namespace Go.Proofs.YtdplfflkmphpbaaGreatDoor.W
open Go.RowKit Go.Shelf
attribute [local go_sem] Oper.semAt_some
theorem six_heap (w : World) (o0 o1 o2 o3 o4 o5 : Obj) : ((((((w.alloc o0).alloc o1).alloc o2).alloc o3).alloc o4).alloc o5).heap[w.heap.size + 0]? = some o0 ∧ ((((((w.alloc o0).alloc o1).alloc o2).alloc o3).alloc o4).alloc o5).heap[w.heap.size + 1]? = some o1 ∧ ((((((w.alloc o0).alloc o1).alloc o2).alloc o3).alloc o4).alloc o5).heap[w.heap.size + 2]? = some o2 ∧ ((((((w.alloc o0).alloc o1).alloc o2).alloc o3).alloc o4).alloc o5).heap[w.heap.size + 3]? = some o3 ∧ ((((((w.alloc o0).alloc o1).alloc o2).alloc o3).alloc o4).alloc o5).heap[w.heap.size + 4]? = some o4 ∧ ((((((w.alloc o0).alloc o1).alloc o2).alloc o3).alloc o4).alloc o5).heap[w.heap.size + 5]? = some o5 := by
  refine ⟨?_, ?_, ?_, ?_, ?_, ?_⟩ <;> repeat (first | exact alloc_at _ _ _ (by simp) | refine (Below.heap_alloc _ _ _ (by first | (simp; done) | (simp; omega))).trans ?_)
theorem four_heap (w : World) (o0 o1 o2 o3 : Obj) : ((((w.alloc o0).alloc o1).alloc o2).alloc o3).heap[w.heap.size]? = some o0 ∧ ((((w.alloc o0).alloc o1).alloc o2).alloc o3).heap[w.heap.size + 1]? = some o1 ∧ ((((w.alloc o0).alloc o1).alloc o2).alloc o3).heap[w.heap.size + 1 + 1]? = some o2 ∧ ((((w.alloc o0).alloc o1).alloc o2).alloc o3).heap[w.heap.size + 1 + 1 + 1]? = some o3 := by
  refine ⟨?_, ?_, ?_, ?_⟩ <;> repeat (first | exact alloc_at _ _ _ (by simp) | refine (Below.heap_alloc _ _ _ (by first | (simp; done) | (simp; omega))).trans ?_)
def LxI (w : World) (pre : List Pl.Yd) (W : World) : Prop := Pl.GoOn pre ∧ Below w.heap.size w W ∧ W.heap[w.heap.size]? = some (.cells #[.slice none 0 0] 23 (0, 0)) ∧ W.heap[w.heap.size + 1]? = some (.cells #[.int .i64 0] 3 (0, 0)) ∧ W.heap[w.heap.size + 2]? = some (.cells #[.int .i64 0] 3 (0, 0)) ∧ W.heap[w.heap.size + 3]? = some (.cells #[.int .i64 0] 3 (0, 0)) ∧
  ∃ v, W.heap[w.heap.size + 5]? = some (.cells #[v] 23 (0, 0)) ∧ W.ownsRow (w.heap.size + 4) 34 5 v (Pl.toks pre).length (Pl.Tk.all (Pl.toks pre))
def LxIx (w : World) (xs : List Pl.Yd) (W : World) : Prop := ∃ pre x, xs = pre ++ [x] ∧ Pl.GoOn pre ∧ Pl.cod pre.length x ≠ 0 ∧ Below w.heap.size w W ∧ W.heap[w.heap.size]? = some (.cells #[.slice none 0 0] 23 (0, 0)) ∧ W.heap[w.heap.size + 1]? = some (.cells #[.int .i64 (Pl.cod pre.length x)] 3 (0, 0)) ∧ W.heap[w.heap.size + 2]? = some (.cells #[.int .i64 x.2.2.2.1] 3 (0, 0)) ∧ W.heap[w.heap.size + 3]? = some (.cells #[.int .i64 x.2.2.2.2.1] 3 (0, 0))
theorem LxI.other {w W W' : World} {pre : List Pl.Yd} (h : LxI w pre W) (hb : Below w.heap.size W W') (hk : ∀ (b : Nat) (cs : Array Value) (t : TypeId), W.heap[b]? = some (.cells cs t (0, 0)) → t = 3 ∨ t = 23 ∨ t = 34 → W'.heap[b]? = W.heap[b]?) : LxI w pre W' := by
  obtain ⟨h1, h2, q0, q1, q2, q3, v, q5, hr⟩ := h
  exact ⟨h1, h2.trans (hb.mono (Nat.le_refl _)), (hk _ _ _ q0 (.inr (.inl rfl))).trans q0, (hk _ _ _ q1 (.inl rfl)).trans q1, (hk _ _ _ q2 (.inl rfl)).trans q2, (hk _ _ _ q3 (.inl rfl)).trans q3, v, (hk _ _ _ q5 (.inr (.inl rfl))).trans q5, own_other hr fun b cs _ hc => hk b cs _ hc (.inr (.inr rfl))⟩
theorem LxIx.other {w W W' : World} {xs : List Pl.Yd} (h : LxIx w xs W) (hb : Below w.heap.size W W') (hk : ∀ (b : Nat) (cs : Array Value) (t : TypeId), W.heap[b]? = some (.cells cs t (0, 0)) → t = 3 ∨ t = 23 ∨ t = 34 → W'.heap[b]? = W.heap[b]?) : LxIx w xs W' := by
  obtain ⟨pre, x, e, h1, hc, h2, q0, q1, q2, q3⟩ := h
  exact ⟨pre, x, e, h1, hc, h2.trans (hb.mono (Nat.le_refl _)), (hk _ _ _ q0 (.inr (.inl rfl))).trans q0, (hk _ _ _ q1 (.inl rfl)).trans q1, (hk _ _ _ q2 (.inl rfl)).trans q2, (hk _ _ _ q3 (.inl rfl)).trans q3⟩
def LxJ (w : World) (g bx : Nat) (pre : List Pl.Yd) (W : World) : Prop := LxI w pre W ∧ W.heap[bx]? = some (.cells #[.pointer (some ⟨g, 0, none⟩)] 49 (0, 0))
theorem LxJ.other {w W W' : World} {g bx : Nat} {pre : List Pl.Yd} (h : LxJ w g bx pre W) (hb : Below w.heap.size W W') (hx : W'.heap[bx]? = W.heap[bx]?) (hk : ∀ (b : Nat) (cs : Array Value) (t : TypeId), W.heap[b]? = some (.cells cs t (0, 0)) → t = 3 ∨ t = 23 ∨ t = 34 → W'.heap[b]? = W.heap[b]?) : LxJ w g bx pre W' := ⟨h.1.other hb hk, hx.trans h.2⟩
set_option maxHeartbeats 2000000 in
theorem lex_next (w W0 Wb w6 : World) (D g bx : Nat) (pre : List Pl.Yd) (kd : Int) (S : ByteArray) (N A B : Int) (ra r6 : Option Addr) (rc cp6 : Nat)
    (hi : LxJ w g bx pre W0) {s : ByteArray} (hxx : ∃ k, LxSt g s k W0) (hbk : ∀ b, D ≤ b → b < D + 2 → ∃ o', W0.heap[b]? = some o' ∧ o'.isCells = false)
    (hz0 : D + 2 ≤ W0.heap.size) (hzW : W0.heap.size ≤ Wb.heap.size) (hg : w.heap.size + 6 ≤ g) (hgb : g < bx) (hbD : bx < D)
    (hBW : Below w.heap.size w Wb) (hbxb : Wb.heap[bx]? = some (.cells #[.pointer (some ⟨g, 0, none⟩)] 49 (0, 0)))
    (q0 : Wb.heap[w.heap.size]? = some (.cells #[.slice none 0 0] 23 (0, 0))) (q1 : Wb.heap[w.heap.size + 1]? = some (.cells #[.int .i64 0] 3 (0, 0))) (q2 : Wb.heap[w.heap.size + 1 + 1]? = some (.cells #[.int .i64 0] 3 (0, 0))) (q3 : Wb.heap[w.heap.size + 1 + 1 + 1]? = some (.cells #[.int .i64 0] 3 (0, 0))) (q5 : Wb.heap[w.heap.size + 1 + 1 + 1 + 1 + 1]? = some (.cells #[.slice ra pre.length rc] 23 (0, 0)))
    (hne : ∀ b, some b = (Value.slice ra pre.length rc).ownBlock → w.heap.size + 4 ≤ b ∧ ∃ cs, W0.heap[b]? = some (.cells cs 34 (0, 0)))
    (hgrow : (Wb.alloc (.cells #[.int .i64 kd, .string S, .int .i64 N, .int .i64 A, .int .i64 B] 34)).grownBy w6 (Value.slice ra pre.length rc).ownBlock)
    (hown : w6.ownsRow (w.heap.size + 4) 34 5 (.slice r6 ((Pl.toks pre).length + 1) cp6) ((Pl.toks pre).length + 1) (Pl.Tk.all (Pl.toks pre) ++ [.int .i64 kd, .string S, .int .i64 N, .int .i64 A, .int .i64 B]))
    (hgo : Pl.GoOn pre) (hc : Pl.cod pre.length (kd, S, N, A, B, 0) = 0) {W' : World}
    (hW' : W' = w6.setCell ⟨w.heap.size + 1 + 1 + 1 + 1 + 1, 0, none⟩ (.slice r6 ((Pl.toks pre).length + 1) cp6)) :
    KbX D w.heap.size g bx W0 Wb W' ∧ LxJ w g bx (pre ++ [(kd, S, N, A, B, 0)]) W' := by
  have hz5 : w.heap.size + 5 < Wb.heap.size := (Array.getElem?_eq_some_iff.1 q5).1
  have k6 : ∀ b, b < Wb.heap.size → some b ≠ (Value.slice ra pre.length rc).ownBlock → w6.heap[b]? = Wb.heap[b]? := fun b h1 h2 => (hgrow.block b (by simp; omega) h2).trans (Below.heap_alloc Wb _ b h1)
  have nt : ∀ (b : Nat) (cs : Array Value) (t : TypeId), W0.heap[b]? = some (.cells cs t (0, 0)) → t ≠ 34 → some b ≠ (Value.slice ra pre.length rc).ownBlock := by
    intro b cs t h1 h2 e
    obtain ⟨_, cs', h3⟩ := hne b e
    rw [h1] at h3
    cases h3
    exact h2 rfl
  obtain ⟨⟨_, _, p0, p1, p2, p3, v, p5, _⟩, pbx⟩ := hi
  have s5 : w6.heap[w.heap.size + 5]? = some (.cells #[.slice ra pre.length rc] 23 (0, 0)) := (k6 _ (by omega) (nt _ _ _ p5 (by decide))).trans q5
  have kW : ∀ b, b ≠ w.heap.size + 5 → W'.heap[b]? = w6.heap[b]? := fun b h => by rw [hW']; exact Below.heap_setCell w6 ⟨w.heap.size + 5, 0, none⟩ _ b h
  have kk : ∀ b, b < Wb.heap.size → b ≠ w.heap.size + 5 → some b ≠ (Value.slice ra pre.length rc).ownBlock → W'.heap[b]? = Wb.heap[b]? := fun b h1 h2 h3 => (kW b h2).trans (k6 b h1 h3)
  have hB6 : Below w.heap.size Wb w6 := ((Below.refl w.heap.size Wb).alloc (by omega) _).grown hgrow (by simp; omega) (fun k hk => by have := (hne k hk.symm).1; omega)
  have hBW' : Below w.heap.size Wb W' := by rw [hW']; exact hB6.setCell (p := ⟨w.heap.size + 5, 0, none⟩) (by show w.heap.size ≤ w.heap.size + 5; omega) _
  obtain ⟨k, hk⟩ := hxx
  have gx : some g ≠ (Value.slice ra pre.length rc).ownBlock := nt g _ _ hk (by decide)
  have hbx0 : some bx ≠ (Value.slice ra pre.length rc).ownBlock := nt bx _ _ pbx (by decide)
  refine ⟨⟨fun b h1 h2 => kk b (by omega) (by omega) ?_, hBW', kk g (by omega) (by omega) gx, kk bx (by omega) (by omega) hbx0, fun b h1 h2 => kk b h2 (by omega) ?_⟩, ⟨Pl.GoOn.snoc hgo hc, hBW.trans hBW', ?_, ?_, ?_, ?_, .slice r6 ((Pl.toks pre).length + 1) cp6, ?_, ?_⟩, (kk bx (by omega) (by omega) hbx0).trans hbxb⟩
  · intro e
    obtain ⟨_, cs, h3⟩ := hne b e
    obtain ⟨o', h4, h5⟩ := hbk b h1 h2
    rw [h3] at h4
    cases h4
    cases h5
  · intro e
    obtain ⟨_, cs, h3⟩ := hne b e
    have := (Array.getElem?_eq_some_iff.1 h3).1
    omega
  · exact (kk _ (by omega) (by omega) (nt _ _ _ p0 (by decide))).trans q0
  · exact (kk _ (by omega) (by omega) (nt _ _ _ p1 (by decide))).trans q1
  · exact (kk _ (by omega) (by omega) (nt _ _ _ p2 (by decide))).trans q2
  · exact (kk _ (by omega) (by omega) (nt _ _ _ p3 (by decide))).trans q3
  · rw [hW']; exact one_setCell s5
  · have hx := own_other (w' := W') hown (fun b cs _ hcs => kW b fun e => by
      subst e
      rw [s5] at hcs
      cases hcs)
    have e1 : (Pl.toks (pre ++ [(kd, S, N, A, B, 0)])).length = (Pl.toks pre).length + 1 := by simp [Pl.toks]
    have e2 : Pl.Tk.all (Pl.toks (pre ++ [(kd, S, N, A, B, 0)])) = Pl.Tk.all (Pl.toks pre) ++ [.int .i64 kd, .string S, .int .i64 N, .int .i64 A, .int .i64 B] := by simp [Pl.toks, Pl.Tk.all, Pl.Yd.tk, Pl.Tk.cells]
    rw [e1, e2]
    exact hx
end Go.Proofs.YtdplfflkmphpbaaGreatDoor.W
namespace Go.Proofs.YtdplfflkmphpbaaGreatDoor.W
open Go.RowKit Go.Shelf
attribute [local go_sem] Oper.semAt_some
set_option maxHeartbeats 8000000 in
set_option maxRecDepth 100000 in
theorem implLex_is (a : Option Addr) (len cap : Nat) (s : ByteArray) (hl : s.size = len) (hmx : len ≤ 1048576) (w : World) (hE : Glo w) (hcv : ∀ u : World, Below w.heap.size w u → (convert 22 9 (.slice a len cap)).run Tryz.prog u = .ok (.string s) u) :
    Calls Tryz.prog 9 #[.slice a len cap] w fun e w' => LexSaid w.heap.size s e w' ∧ Below w.heap.size w w' := by
  have HE : Hid (Glo w) := hE
  have HCV : Hid (∀ u : World, Below w.heap.size w u → (convert 22 9 (.slice a len cap)).run Tryz.prog u = .ok (.string s) u) := hcv
  have HLN : Hid (s.size = len) := hl
  clear hcv hl hE
  refine (callsIn_wide (n := 4)).1 ?_
  refine callsIn_of_wp_marks Tryz.func9 rfl trivial ?_ rfl
  simp only [Tryz.ntmps9, List.size_toArray, List.length_cons, List.length_nil, Nat.reduceAdd, Nat.reduceSub, Array.replicate_succ, Array.replicate_zero, List.push_toArray, List.append_toArray, List.nil_append, List.cons_append]
  by_cases hbig : 20000 < len
  · have e1 : decide ((20000 : Int) < len) = true := by simp; omega
    have HB : Hid (20000 < len) := hbig
    clear hbig
    gi_wp2
    obtain ⟨q0, q1, q2, q3⟩ := four_heap w (.cells #[.slice none 0 0] 23) (.cells #[.int .i64 1] 3) (.cells #[.int .i64 1] 3) (.cells #[.int .i64 1] 3)
    refine ⟨_, results_c4 rfl _ _ w.heap.size (w.heap.size + 1) (w.heap.size + 1 + 1) (w.heap.size + 1 + 1 + 1) (.slice none 0 0) (.int .i64 1) (.int .i64 1) (.int .i64 1) rfl rfl rfl rfl (cell_of_row _ _ 0 _ 23 (0, 0) q0) (cell_of_row _ _ 0 _ 3 (0, 0) q1) (cell_of_row _ _ 0 _ 3 (0, 0) q2) (cell_of_row _ _ 0 _ 3 (0, 0) q3), ⟨[], 1, 1, 1, _, .inl ⟨by rw [HLN.out]; exact HB.out, rfl⟩, rfl, World.ownsRow_nil _ _ _ _⟩, ?_⟩
    repeat (first | exact Below.refl _ _ | refine Below.alloc ?_ (by first | (simp; done) | (simp; omega)) _)
  · have e1 : decide ((20000 : Int) < len) = false := by simp; omega
    have HSM : Hid (len ≤ 20000) := by show len ≤ 20000; omega
    clear hbig
    have BU : Hid (Below w.heap.size w ((((((w.alloc (.cells #[.slice none 0 0] 23)).alloc (.cells #[.int .i64 0] 3)).alloc (.cells #[.int .i64 0] 3)).alloc (.cells #[.int .i64 0] 3)).alloc (.cells #[] 34)).alloc (.cells #[.slice (some ⟨w.heap.size + 1 + 1 + 1 + 1, 0, none⟩) 0 0] 23))) := by
      repeat (first | exact Below.refl _ _ | refine Below.alloc ?_ (by first | (simp; done) | (simp; omega)) _)
    have hcv := HCV.out _ BU.out
    have HGU : Hid (Glo ((((((w.alloc (.cells #[.slice none 0 0] 23)).alloc (.cells #[.int .i64 0] 3)).alloc (.cells #[.int .i64 0] 3)).alloc (.cells #[.int .i64 0] 3)).alloc (.cells #[] 34)).alloc (.cells #[.slice (some ⟨w.heap.size + 1 + 1 + 1 + 1, 0, none⟩) 0 0] 23))) := HE.out.on BU.out
    have HH : Hid (∀ u', Below ((((((w.alloc (.cells #[.slice none 0 0] 23)).alloc (.cells #[.int .i64 0] 3)).alloc (.cells #[.int .i64 0] 3)).alloc (.cells #[.int .i64 0] 3)).alloc (.cells #[] 34)).alloc (.cells #[.slice (some ⟨w.heap.size + 1 + 1 + 1 + 1, 0, none⟩) 0 0] 23)).heap.size ((((((w.alloc (.cells #[.slice none 0 0] 23)).alloc (.cells #[.int .i64 0] 3)).alloc (.cells #[.int .i64 0] 3)).alloc (.cells #[.int .i64 0] 3)).alloc (.cells #[] 34)).alloc (.cells #[.slice (some ⟨w.heap.size + 1 + 1 + 1 + 1, 0, none⟩) 0 0] 23)) u' → u'.heap[w.heap.size]? = some (.cells #[.slice none 0 0] 23 (0, 0)) ∧ u'.heap[w.heap.size + 1]? = some (.cells #[.int .i64 0] 3 (0, 0)) ∧ u'.heap[w.heap.size + 2]? = some (.cells #[.int .i64 0] 3 (0, 0)) ∧ u'.heap[w.heap.size + 3]? = some (.cells #[.int .i64 0] 3 (0, 0)) ∧ u'.heap[w.heap.size + 4]? = some (.cells #[] 34 (0, 0)) ∧ u'.heap[w.heap.size + 5]? = some (.cells #[.slice (some ⟨w.heap.size + 4, 0, none⟩) 0 0] 23 (0, 0))) := by
      intro u' hb
      have key : ∀ k, k < 6 → u'.heap[w.heap.size + k]? = (((((((w.alloc (.cells #[.slice none 0 0] 23)).alloc (.cells #[.int .i64 0] 3)).alloc (.cells #[.int .i64 0] 3)).alloc (.cells #[.int .i64 0] 3)).alloc (.cells #[] 34)).alloc (.cells #[.slice (some ⟨w.heap.size + 1 + 1 + 1 + 1, 0, none⟩) 0 0] 23))).heap[w.heap.size + k]? := fun k hk => hb.block _ (by simp; omega)
      obtain ⟨q0, q1, q2, q3, q4, q5⟩ := six_heap w (.cells #[.slice none 0 0] 23) (.cells #[.int .i64 0] 3) (.cells #[.int .i64 0] 3) (.cells #[.int .i64 0] 3) (.cells #[] 34) (.cells #[.slice (some ⟨w.heap.size + 1 + 1 + 1 + 1, 0, none⟩) 0 0] 23)
      exact ⟨(key 0 (by omega)).trans q0, (key 1 (by omega)).trans q1, (key 2 (by omega)).trans q2, (key 3 (by omega)).trans q3, (key 4 (by omega)).trans q4, (key 5 (by omega)).trans q5⟩
    gi_wp2_with (first | (refine ⟨trivial, ?_⟩; gi_at_call 26; refine (callsIn_wide.2 (newLexer_is s _)).mono ?_; rintro e u1 ⟨g, hg, rfl, hst, hb⟩) | (refine ⟨trivial, ?_⟩; gi_at_call 27; refine (callsIn_wide.2 (tokens_is g _)).mono ?_; rintro e u2 ⟨rfl, hu2⟩))
    obtain ⟨V, hV⟩ : ∃ V, V = u1.alloc (.cells #[.pointer (some ⟨g, 0, none⟩)] 49) := ⟨_, rfl⟩
    have BV1 : Below u1.heap.size u1 V := by rw [hV]; exact below_allocL _ _
    have BV : Below w.heap.size w V := BU.out.trans ((hb.mono BU.out.size).trans (BV1.mono (by have := hb.size; have := BU.out.size; omega)))
    have hz : w.heap.size + 6 ≤ g := by simp at hg; omega
    have hg1 : g < u1.heap.size := (Array.getElem?_eq_some_iff.1 hst).1
    have hVz : V.heap.size = u1.heap.size + 1 := by rw [hV]; simp
    have HEV : Glo V := HE.out.on BV
    have hV6 := HH.out V (hb.trans (BV1.mono hb.size))
    have hbx : V.cell? ⟨u1.heap.size, 0, none⟩ = some (.pointer (some ⟨g, 0, none⟩)) := by rw [hV]; exact cell_of_row _ u1.heap.size 0 _ 49 (0, 0) (heap_alloc_new u1 _)
    have h8 : 8 ≤ g := by have := HE.out.big; omega
    rw [← hV]
    refine range_x 4 w.heap.size g u1.heap.size (by decide) HE.out.big BV.size rfl h8 (by omega) (by omega) (by omega) s (by have := HLN.out; omega) hbx (hst.keep BV1) HEV rfl (LxJ w g u1.heap.size) (LxIx w) ?hI ?hIp ?hIxp (fun x W a' W' => W' = W.alloc (.cells #[.int .i64 x.1, .string x.2.1, .int .i64 x.2.2.1, .int .i64 x.2.2.2.1, .int .i64 x.2.2.2.2.1] 34) ∧ a' = { tmps := #[.slice a len cap, undef, .pointer (some ⟨w.heap.size, 0, none⟩), .pointer (some ⟨w.heap.size + 1, 0, none⟩), .pointer (some ⟨w.heap.size + 1 + 1, 0, none⟩), .pointer (some ⟨w.heap.size + 1 + 1 + 1, 0, none⟩), .pointer (some ⟨w.heap.size + 1 + 1 + 1 + 1 + 1, 0, none⟩), .pointer (some ⟨W.heap.size, 0, none⟩), .int .i64 x.2.2.2.2.2, .slice a len cap, .int .i64 len, .bool false, .slice (some ⟨w.heap.size + 1 + 1 + 1 + 1, 0, none⟩) 0 0, .slice a len cap, .string s, .pointer (some ⟨g, 0, none⟩), .func (.func 48) #[] #[.pointer (some ⟨u1.heap.size, 0, none⟩)], .agg #[.int .i64 x.1, .string x.2.1, .int .i64 x.2.2.1, .int .i64 x.2.2.2.1, .int .i64 x.2.2.2.2.1], .int .i64 x.2.2.2.2.2, undef, undef, undef, undef, undef, undef, undef, undef, undef, undef, undef, undef, undef, undef, undef, undef, undef, undef, undef, undef, undef, undef, undef, undef], defers := [] }) ?hassign ?hbody ?hdone ?hstop
    case hI =>
      intro A hA
      have hA6 := HH.out A ((hb.trans (BV1.mono hb.size)).trans (hA.mono (by have := BV1.size; have := hb.size; omega)))
      exact ⟨⟨Pl.GoOn.nil, BV.trans (hA.mono BV.size), hA6.1, hA6.2.1, hA6.2.2.1, hA6.2.2.2.1, _, hA6.2.2.2.2.2, empty_own hA6.2.2.2.2.1 (Nat.le_refl _)⟩, (hA.block _ (by omega)).trans (by rw [hV]; exact heap_alloc_new u1 _)⟩
    case hIp =>
      intro pre A l o o' hi h1 h2 h3 h4
      refine hi.other (putObj_below (Below.refl _ _) (by have := BV.size; omega) _) (World.putObj_heap_other (by omega)) fun b cs t hc _ => World.putObj_heap_other fun e => ?_
      subst e
      rw [h3] at hc
      cases hc
      cases h4
    case hIxp =>
      intro pre A l o o' hi h1 h2 h3 h4
      refine hi.other (putObj_below (Below.refl _ _) (by have := BV.size; omega) _) fun b cs t hc _ => World.putObj_heap_other fun e => ?_
      subst e
      rw [h3] at hc
      cases hc
      cases h4
    case hassign =>
      intro l kd S N A B f W K hK
      gi_wp2
      exact hK _ _ (below_allocL _ _) ⟨rfl, rfl⟩
    case hbody =>
      rintro l pre kd S N A B f W0 W a' W1 o hl1 hl2 hi hxx hbk hz0 hox hb1 ⟨rfl, rfl⟩
      have hzz := BV.size
      obtain ⟨ol, hol, hol2⟩ := hbk l hl1 hl2
      have holW : W.heap[l]? = some ol := (hox.block l (by omega) (by omega)).trans hol
      have hsz := hox.size
      have hiW : LxI w pre W := hi.1.other (hox.below (by omega) (by omega)) fun b cs t hc ht => hox.block b (Array.getElem?_eq_some_iff.1 hc).1 (by
        rintro rfl
        obtain ⟨k, _, hk⟩ := hxx
        unfold LxSt at hk
        rw [hk] at hc
        cases hc
        revert ht
        decide)
      have hiA : LxI w pre (W.alloc (.cells #[.int .i64 kd, .string S, .int .i64 N, .int .i64 A, .int .i64 B] 34)) := hiW.other ((below_allocL W _).mono (by omega)) fun b cs t hc _ => Below.heap_alloc W _ b (Array.getElem?_eq_some_iff.1 hc).1
      have hiB : LxI w pre ((W.alloc (.cells #[.int .i64 kd, .string S, .int .i64 N, .int .i64 A, .int .i64 B] 34)).putObj l o) := hiA.other (putObj_below (Below.refl _ _) (by omega) _) fun b cs t hc _ => World.putObj_heap_other fun e => by
        subst e
        rw [Below.heap_alloc W _ b (Array.getElem?_eq_some_iff.1 holW).1, holW] at hc
        cases hc
        cases hol2
      have hrow : ((W.alloc (.cells #[.int .i64 kd, .string S, .int .i64 N, .int .i64 A, .int .i64 B] 34)).putObj l o).heap[W.heap.size]? = some (.cells #[.int .i64 kd, .string S, .int .i64 N, .int .i64 A, .int .i64 B] 34 (0, 0)) := (World.putObj_heap_other (by omega)).trans (heap_alloc_new W _)
      have hWbz : W.heap.size < ((W.alloc (.cells #[.int .i64 kd, .string S, .int .i64 N, .int .i64 A, .int .i64 B] 34)).putObj l o).heap.size := by simp
      obtain ⟨Wb, hWb⟩ : ∃ Wb, Wb = ((W.alloc (.cells #[.int .i64 kd, .string S, .int .i64 N, .int .i64 A, .int .i64 B] 34)).putObj l o) := ⟨_, rfl⟩
      rw [← hWb] at hiB hrow hWbz ⊢
      have hWbo : ∀ b, b < W0.heap.size → b ≠ g → b ≠ l → Wb.heap[b]? = W0.heap[b]? := fun b h1 h2 h3 => by
        rw [hWb]
        exact (World.putObj_heap_other h3).trans ((Below.heap_alloc W _ b (by omega)).trans (hox.block b h1 h2))
      have hbxb : Wb.heap[u1.heap.size]? = some (.cells #[.pointer (some ⟨g, 0, none⟩)] 49 (0, 0)) := (hWbo _ (by omega) (by omega) (by omega)).trans hi.2
      clear hWb hiA hiW
      obtain ⟨hgo, hBw, q0, q1, q2, q3, v, q5, hr⟩ := hiB
      have hne : ∀ b, some b = v.ownBlock → w.heap.size + 4 ≤ b ∧ ∃ cs, W0.heap[b]? = some (.cells cs 34 (0, 0)) := by
        obtain ⟨_, _, _, _, _, _, v0, p5, hr0⟩ := hi.1
        have e := (hWbo (w.heap.size + 5) (by omega) (by omega) (by omega)).symm.trans q5
        rw [p5] at e
        cases e
        intro b hb
        rcases hr0.2 with ⟨x, y⟩ | ⟨g', c', cur, x, hlo, hg', _⟩
        · rw [x] at hb
          cases hb
        · rw [x] at hb
          cases hb
          exact ⟨hlo, cur, hg'⟩
      have HGO : Hid (Pl.GoOn pre) := hgo
      have hlen : pre.length ≤ 6000 := by obtain ⟨k, hk, _⟩ := hxx; exact (hk.lx hgo).1
      obtain ⟨i0, hi0, hz0, hz1, hz2⟩ := info_parts infotk
      have HBW : Hid (Below w.heap.size w Wb) := hBw
      have HR : Hid (Wb.ownsRow (w.heap.size + 4) 34 5 v (Pl.toks pre).length (Pl.Tk.all (Pl.toks pre))) := hr
      have hlp : (Pl.toks pre).length = pre.length := by simp [Pl.toks]
      obtain ⟨ra, rc, rfl⟩ : ∃ ra rc, v = .slice ra pre.length rc := by
        rcases hr.2 with ⟨x, y⟩ | ⟨g', c', cur, x, _⟩
        · rw [hlp] at y
          exact ⟨none, 0, by rw [x, y]⟩
        · rw [hlp] at x
          exact ⟨_, _, x⟩
      have c0 : Wb.cell? ⟨W.heap.size, 0, none⟩ = some (.int .i64 kd) := cell_of_row Wb W.heap.size 0 _ 34 (0, 0) hrow
      have c1 : Wb.cell? ⟨W.heap.size, 1, none⟩ = some (.string S) := cell_of_row Wb W.heap.size 1 _ 34 (0, 0) hrow
      have c2 : Wb.cell? ⟨W.heap.size, 2, none⟩ = some (.int .i64 N) := cell_of_row Wb W.heap.size 2 _ 34 (0, 0) hrow
      have c3 : Wb.cell? ⟨W.heap.size, 3, none⟩ = some (.int .i64 A) := cell_of_row Wb W.heap.size 3 _ 34 (0, 0) hrow
      have c4 : Wb.cell? ⟨W.heap.size, 4, none⟩ = some (.int .i64 B) := cell_of_row Wb W.heap.size 4 _ 34 (0, 0) hrow
      have t0 : Wb.cell? ⟨w.heap.size, 0, none⟩ = some (.slice none 0 0) := cell_of_row Wb _ 0 _ 23 (0, 0) q0
      have t1 : Wb.cell? ⟨w.heap.size + 1, 0, none⟩ = some (.int .i64 0) := cell_of_row Wb _ 0 _ 3 (0, 0) q1
      have t2 : Wb.cell? ⟨w.heap.size + 1 + 1, 0, none⟩ = some (.int .i64 0) := cell_of_row Wb _ 0 _ 3 (0, 0) q2
      have t3 : Wb.cell? ⟨w.heap.size + 1 + 1 + 1, 0, none⟩ = some (.int .i64 0) := cell_of_row Wb _ 0 _ 3 (0, 0) q3
      have t5 : Wb.cell? ⟨w.heap.size + 1 + 1 + 1 + 1 + 1, 0, none⟩ = some (.slice ra pre.length rc) := cell_of_row Wb _ 0 _ 23 (0, 0) q5
      have f0 : Wb.frozen? ⟨w.heap.size, 0, none⟩ = false := frozen_of_row Wb _ 0 _ 23 q0
      have f1 : Wb.frozen? ⟨w.heap.size + 1, 0, none⟩ = false := frozen_of_row Wb _ 0 _ 3 q1
      have f2 : Wb.frozen? ⟨w.heap.size + 1 + 1, 0, none⟩ = false := frozen_of_row Wb _ 0 _ 3 q2
      have f3 : Wb.frozen? ⟨w.heap.size + 1 + 1 + 1, 0, none⟩ = false := frozen_of_row Wb _ 0 _ 3 q3
      have f5 : Wb.frozen? ⟨w.heap.size + 1 + 1 + 1 + 1 + 1, 0, none⟩ = false := frozen_of_row Wb _ 0 _ 23 q5
      have HQ : Hid (Wb.heap[w.heap.size]? = some (.cells #[.slice none 0 0] 23 (0, 0)) ∧ Wb.heap[w.heap.size + 1]? = some (.cells #[.int .i64 0] 3 (0, 0)) ∧ Wb.heap[w.heap.size + 1 + 1]? = some (.cells #[.int .i64 0] 3 (0, 0)) ∧ Wb.heap[w.heap.size + 1 + 1 + 1]? = some (.cells #[.int .i64 0] 3 (0, 0)) ∧ Wb.heap[w.heap.size + 1 + 1 + 1 + 1 + 1]? = some (.cells #[.slice ra pre.length rc] 23 (0, 0))) := ⟨q0, q1, q2, q3, q5⟩
      have HROW : Hid _ := hrow
      have HNE : Hid (∀ b, some b = (Value.slice ra pre.length rc).ownBlock → w.heap.size + 4 ≤ b ∧ ∃ cs, W0.heap[b]? = some (.cells cs 34 (0, 0))) := hne
      have HI : Hid (LxJ w g u1.heap.size pre W0) := hi
      have HXX : Hid (∃ k, LxSt g s k W0) := by obtain ⟨k, _, hk⟩ := hxx; exact ⟨k, hk⟩
      have HBK : Hid (∀ b, V.heap.size ≤ b → b < V.heap.size + 2 → ∃ o', W0.heap[b]? = some o' ∧ o'.isCells = false) := hbk
      have HBX : Hid (Wb.heap[u1.heap.size]? = some (.cells #[.pointer (some ⟨g, 0, none⟩)] 49 (0, 0))) := hbxb
      have HSX : Hid (∀ w6 : World, (Wb.alloc (.cells #[.int .i64 kd, .string S, .int .i64 N, .int .i64 A, .int .i64 B] 34)).grownBy w6 (Value.slice ra pre.length rc).ownBlock → w6.heap[w.heap.size + 1 + 1 + 1 + 1 + 1]? = some (.cells #[.slice ra pre.length rc] 23 (0, 0))) := fun w6 hg6 => by
        have h5 := (Array.getElem?_eq_some_iff.1 q5).1
        refine (hg6.block _ (by simp; omega) fun e => ?_).trans ((Below.heap_alloc Wb _ _ h5).trans q5)
        obtain ⟨_, cs, h3⟩ := hne _ e
        obtain ⟨_, _, _, _, _, _, v0, p5, _⟩ := hi.1
        rw [p5] at h3
        cases h3
      clear hgo hBw hr q0 q1 q2 q3 q5 hrow hi hxx hbk hne hbxb hWbo hox hb1 hol holW hV6 hbx HEV hst BV BV1 hb hcv
      by_cases hf : f = 0
      rotate_left
      · have e1 : (f == 0) = false := by simpa using hf
        have e2 : (f != 0) = true := by simpa using hf
        have HF : Hid (f ≠ 0) := hf
        clear hf
        gi_wp2
        refine wpIn_region_any (by kernel_rfl) ?_
        change wpAnyIn _ _ _ _ LzrOps _ 9 (Array.replicate 9 false) _ (World.drew _)
        obtain ⟨X4, hX4⟩ : ∃ X4, X4 = ((((Wb.drew).setCell ⟨w.heap.size, 0, none⟩ (.slice none 0 0)).setCell ⟨w.heap.size + 1, 0, none⟩ (.int .i64 f)).setCell ⟨w.heap.size + 1 + 1, 0, none⟩ (.int .i64 A)).setCell ⟨w.heap.size + 1 + 1 + 1, 0, none⟩ (.int .i64 B) := ⟨_, rfl⟩
        refine lex_reg10 (l := l) rfl w.heap.size W.heap.size f A B _ _ _ _ _ _ _ _ _ _ _ _ _ _ _ _ _ _ _ _ _ _ _ _ _ _ _ _ _ _ _ _ Wb X4 c3 c4 (by omega) t0 t1 t2 t3 f0 f1 f2 f3 hX4 ?_
        obtain ⟨p0, p1, p2, p3, po, pb⟩ := four_set Wb.drew w.heap.size _ _ _ _ _ _ _ _ HQ.out.1 HQ.out.2.1 HQ.out.2.2.1 HQ.out.2.2.2.1 hX4
        have HCD : Hid (Pl.cod pre.length (kd, S, N, A, B, f) = f) := by unfold Hid Pl.cod; exact if_neg fun q => HF.out q.1
        have HP : Hid _ := And.intro p0 (And.intro p1 (And.intro p2 p3))
        have HPO : Hid _ := po
        have HPB : Hid _ := pb
        clear p0 p1 p2 p3 po pb hX4
        gi_wp2
        refine ⟨fun b hb1 hb2 => HPO.out b (.inr (by omega)), pre, _, rfl, HGO.out, ?_, HBW.out.trans ((Below.drew (Below.refl _ _)).trans HPB.out), HP.out.1, ?_, HP.out.2.2.1, HP.out.2.2.2⟩
        · rw [HCD.out]; exact HF.out
        · rw [HCD.out]; exact HP.out.2.1
      · subst hf
        by_cases hk6 : kd ≠ 0 ∧ pre.length = 6000
        · have ek : (kd != 0) = true := by simpa using hk6.1
          have ek' : (kd == 0) = false := by simpa using hk6.1
          have e6 : ((pre.length : Int) == 6000) = true := by rw [hk6.2]; rfl
          have HK6 : Hid (kd ≠ 0 ∧ pre.length = 6000) := hk6
          clear hk6
          gi_wp2
          refine wpIn_region_any (by kernel_rfl) ?_
          change wpAnyIn _ _ _ _ LzrOps _ 9 (Array.replicate 9 false) _ (World.drew _)
          obtain ⟨X4, hX4⟩ : ∃ X4, X4 = ((((Wb.drew).setCell ⟨w.heap.size, 0, none⟩ (.slice none 0 0)).setCell ⟨w.heap.size + 1, 0, none⟩ (.int .i64 9)).setCell ⟨w.heap.size + 1 + 1, 0, none⟩ (.int .i64 A)).setCell ⟨w.heap.size + 1 + 1 + 1, 0, none⟩ (.int .i64 B) := ⟨_, rfl⟩
          refine lex_reg10 (l := l) rfl w.heap.size W.heap.size 9 A B _ _ _ _ _ _ _ _ _ _ _ _ _ _ _ _ _ _ _ _ _ _ _ _ _ _ _ _ _ _ _ _ Wb X4 c3 c4 (by omega) t0 t1 t2 t3 f0 f1 f2 f3 hX4 ?_
          obtain ⟨p0, p1, p2, p3, po, pb⟩ := four_set Wb.drew w.heap.size _ _ _ _ _ _ _ _ HQ.out.1 HQ.out.2.1 HQ.out.2.2.1 HQ.out.2.2.2.1 hX4
          have HCD : Hid (Pl.cod pre.length (kd, S, N, A, B, 0) = 9) := by unfold Hid Pl.cod; exact if_pos ⟨rfl, HK6.out.1, HK6.out.2⟩
          have HP : Hid _ := And.intro p0 (And.intro p1 (And.intro p2 p3))
          have HPO : Hid _ := po
          have HPB : Hid _ := pb
          clear p0 p1 p2 p3 po pb hX4
          gi_wp2
          refine ⟨fun b hb1 hb2 => HPO.out b (.inr (by omega)), pre, _, rfl, HGO.out, ?_, HBW.out.trans ((Below.drew (Below.refl _ _)).trans HPB.out), HP.out.1, ?_, HP.out.2.2.1, HP.out.2.2.2⟩
          · rw [HCD.out]; decide
          · rw [HCD.out]; exact HP.out.2.1
        have HX : Hid ((Wb.alloc (.cells #[.int .i64 kd, .string S, .int .i64 N, .int .i64 A, .int .i64 B] 34)).ownsRow (w.heap.size + 4) 34 5 (.slice ra pre.length rc) (Pl.toks pre).length (Pl.Tk.all (Pl.toks pre))) := HR.out.alloc _
        have NX : Hid _ := row5 Wb (.int .i64 kd) (.string S) (.int .i64 N) (.int .i64 A) (.int .i64 B)
        have HC : Hid (Pl.cod pre.length (kd, S, N, A, B, 0) = 0) := by unfold Hid Pl.cod; exact if_neg fun q => hk6 ⟨q.2.1, q.2.2⟩
        by_cases hk0 : kd = 0
        · have ek : (kd != 0) = false := by simp [hk0]
          clear hk6 hk0
          gi_wp2_with (gi_at_builtin; refine wpListIn_append_own _ rfl (.tmp 38) (.tmp 40) 23 rfl (w.heap.size + 4) 34 i0 (.agg #[.int .i64 0, .string ⟨#[]⟩, .int .i64 0, .int .i64 0, .int .i64 0]) 5 48 Tryz.underlying23 hi0 hz0 hz1 hz2 rfl (by decide) _ _ _ rfl HX.out ⟨Wb.heap.size, 0, none⟩ 1 1 [.int .i64 kd, .string S, .int .i64 N, .int .i64 A, .int .i64 B] rfl rfl NX.out (by intro u hu; simp at hu; rcases hu with rfl | rfl | rfl | rfl | rfl <;> rfl) (by unfold maxLen; rw [hlp]; omega) (by rw [hlp]; omega) (by have := HBW.out.size; simp; omega) ?_; intro v6 w6 hown6 hgrow6 _; obtain ⟨r6, cp6, rfl⟩ := own_formG hown6; have s6 := HSX.out w6 hgrow6; have c6 : w6.cell? ⟨w.heap.size + 1 + 1 + 1 + 1 + 1, 0, none⟩ = some (.slice ra pre.length rc) := cell_of_row w6 _ 0 _ 23 (0, 0) s6; have f6 : w6.frozen? ⟨w.heap.size + 1 + 1 + 1 + 1 + 1, 0, none⟩ = false := frozen_of_row w6 _ 0 _ 23 s6; have HG6 : Hid ((Wb.alloc (.cells #[.int .i64 kd, .string S, .int .i64 N, .int .i64 A, .int .i64 B] 34)).grownBy w6 (Value.slice ra pre.length rc).ownBlock) := hgrow6; have HO6 : Hid _ := hown6; clear s6 hgrow6 hown6)
          exact lex_next w W0 Wb w6 V.heap.size g u1.heap.size pre kd S N A B ra r6 rc cp6 HI.out HXX.out HBK.out (by omega) (by omega) hz (by omega) (by omega) HBW.out HBX.out HQ.out.1 HQ.out.2.1 HQ.out.2.2.1 HQ.out.2.2.2.1 HQ.out.2.2.2.2 HNE.out HG6.out HO6.out HGO.out HC.out (by rw [hlp])
        · have ek : (kd != 0) = true := by simpa using hk0
          have ek' : (kd == 0) = false := by simpa using hk0
          have e6 : ((pre.length : Int) == 6000) = false := by
            have : pre.length ≠ 6000 := fun q => hk6 ⟨hk0, q⟩
            simp
            omega
          clear hk6 hk0
          gi_wp2_with (gi_at_builtin; refine wpListIn_append_own _ rfl (.tmp 38) (.tmp 40) 23 rfl (w.heap.size + 4) 34 i0 (.agg #[.int .i64 0, .string ⟨#[]⟩, .int .i64 0, .int .i64 0, .int .i64 0]) 5 48 Tryz.underlying23 hi0 hz0 hz1 hz2 rfl (by decide) _ _ _ rfl HX.out ⟨Wb.heap.size, 0, none⟩ 1 1 [.int .i64 kd, .string S, .int .i64 N, .int .i64 A, .int .i64 B] rfl rfl NX.out (by intro u hu; simp at hu; rcases hu with rfl | rfl | rfl | rfl | rfl <;> rfl) (by unfold maxLen; rw [hlp]; omega) (by rw [hlp]; omega) (by have := HBW.out.size; simp; omega) ?_; intro v6 w6 hown6 hgrow6 _; obtain ⟨r6, cp6, rfl⟩ := own_formG hown6; have s6 := HSX.out w6 hgrow6; have c6 : w6.cell? ⟨w.heap.size + 1 + 1 + 1 + 1 + 1, 0, none⟩ = some (.slice ra pre.length rc) := cell_of_row w6 _ 0 _ 23 (0, 0) s6; have f6 : w6.frozen? ⟨w.heap.size + 1 + 1 + 1 + 1 + 1, 0, none⟩ = false := frozen_of_row w6 _ 0 _ 23 s6; have HG6 : Hid ((Wb.alloc (.cells #[.int .i64 kd, .string S, .int .i64 N, .int .i64 A, .int .i64 B] 34)).grownBy w6 (Value.slice ra pre.length rc).ownBlock) := hgrow6; have HO6 : Hid _ := hown6; clear s6 hgrow6 hown6)
          exact lex_next w W0 Wb w6 V.heap.size g u1.heap.size pre kd S N A B ra r6 rc cp6 HI.out HXX.out HBK.out (by omega) (by omega) hz (by omega) (by omega) HBW.out HBX.out HQ.out.1 HQ.out.2.1 HQ.out.2.2.1 HQ.out.2.2.2.1 HQ.out.2.2.2.2 HNE.out HG6.out HO6.out HGO.out HC.out (by rw [hlp])
    case hdone =>
      intro pre k x W hp hx hi0' hD
      have hi := hi0'.1
      clear hi0'
      obtain ⟨hgo, hBw, q0, q1, q2, q3, v, q5, hr⟩ := hi
      have t0 : W.cell? ⟨w.heap.size, 0, none⟩ = some (.slice none 0 0) := cell_of_row W _ 0 _ 23 (0, 0) q0
      have t1 : W.cell? ⟨w.heap.size + 1, 0, none⟩ = some (.int .i64 0) := cell_of_row W _ 0 _ 3 (0, 0) q1
      have t2 : W.cell? ⟨w.heap.size + 1 + 1, 0, none⟩ = some (.int .i64 0) := cell_of_row W _ 0 _ 3 (0, 0) q2
      have t3 : W.cell? ⟨w.heap.size + 1 + 1 + 1, 0, none⟩ = some (.int .i64 0) := cell_of_row W _ 0 _ 3 (0, 0) q3
      obtain ⟨ra, rc, rfl⟩ := own_formG hr
      have t5 : W.cell? ⟨w.heap.size + 1 + 1 + 1 + 1 + 1, 0, none⟩ = some (.slice ra (Pl.toks (pre ++ [x])).length rc) := cell_of_row W _ 0 _ 23 (0, 0) q5
      have f0 : W.frozen? ⟨w.heap.size, 0, none⟩ = false := frozen_of_row W _ 0 _ 23 q0
      have f1 : W.frozen? ⟨w.heap.size + 1, 0, none⟩ = false := frozen_of_row W _ 0 _ 3 q1
      have f2 : W.frozen? ⟨w.heap.size + 1 + 1, 0, none⟩ = false := frozen_of_row W _ 0 _ 3 q2
      have f3 : W.frozen? ⟨w.heap.size + 1 + 1 + 1, 0, none⟩ = false := frozen_of_row W _ 0 _ 3 q3
      have HLX : Hid (Pl.Lx s 0 [] (Pl.toks (pre ++ [x]), 0, 0, 0)) := Pl.lx_done hp hx hgo
      have HR : Hid (W.ownsRow (w.heap.size + 4) 34 5 (.slice ra (Pl.toks (pre ++ [x])).length rc) (Pl.toks (pre ++ [x])).length (Pl.Tk.all (Pl.toks (pre ++ [x])))) := hr
      have HBW : Hid (Below w.heap.size w W) := hBw
      have HD : Hid (W.heap[V.heap.size]? = some (.deferred (some []))) := hD
      have HQ : Hid _ := And.intro q0 (And.intro q1 (And.intro q2 q3))
      have HVZ : Hid (w.heap.size + 4 ≤ V.heap.size) := by show w.heap.size + 4 ≤ V.heap.size; omega
      clear hr hBw hD q0 q1 q2 q3 q5 hp hx hgo hV6 hbx HEV hst BV1 hb hcv
      gi_wp2
      obtain ⟨p0, p1, p2, p3, po, pb⟩ := four_set W w.heap.size _ _ _ _ _ _ _ _ HQ.out.1 HQ.out.2.1 HQ.out.2.2.1 HQ.out.2.2.2 rfl
      exact lex_leave 4 s w _ V.heap.size _ (Pl.toks (pre ++ [x])) 0 0 0 _ rfl rfl rfl rfl p0 p1 p2 p3 (own_mono (own_other HR.out fun b cs hb _ => po b (.inr hb)) (by omega)) ((po _ (.inr HVZ.out)).trans HD.out) HVZ.out (HBW.out.trans (pb.mono (Nat.le_refl _))) (.inr ⟨by rw [HLN.out]; exact HSM.out, HLX.out⟩)
    case hstop =>
      intro pre x W hx hi hD
      obtain ⟨pre', x', e, hgo, hc, hBw, q0, q1, q2, q3⟩ := hi
      obtain ⟨e1', e2'⟩ := List.append_inj' e rfl
      subst e1'
      simp only [List.cons.injEq, and_true] at e2'
      subst e2'
      have HLX : Hid (Pl.Lx s 0 [] ([], Pl.cod pre.length x, x.2.2.2.1, x.2.2.2.2.1)) := Pl.lx_stop hx hgo hc
      have HQ : Hid _ := And.intro q0 (And.intro q1 (And.intro q2 q3))
      have HBW : Hid (Below w.heap.size w W) := hBw
      have HD : Hid (W.heap[V.heap.size]? = some (.deferred (some []))) := hD
      have HVZ : Hid (w.heap.size + 4 ≤ V.heap.size) := by show w.heap.size + 4 ≤ V.heap.size; omega
      clear hBw hD q0 q1 q2 q3 hx hgo hc hV6 hbx HEV hst BV1 hb hcv e
      gi_wp2
      exact lex_leave 4 s w _ V.heap.size _ [] _ _ _ _ rfl rfl rfl rfl HQ.out.1 HQ.out.2.1 HQ.out.2.2.1 HQ.out.2.2.2 (World.ownsRow_nil _ _ _ _) HD.out HVZ.out HBW.out (.inr ⟨by rw [HLN.out]; exact HSM.out, HLX.out⟩)
end Go.Proofs.YtdplfflkmphpbaaGreatDoor.W
namespace Go.Proofs.YtdplfflkmphpbaaGreatDoor.W
open Go.RowKit
end Go.Proofs.YtdplfflkmphpbaaGreatDoor.W
namespace Go.Proofs.YtdplfflkmphpbaaGreatDoor.Pl
end Go.Proofs.YtdplfflkmphpbaaGreatDoor.Pl
namespace Go.Proofs.YtdplfflkmphpbaaGreatDoor.W
open Go.RowKit
structure Touch (a : Option Addr) (w w' : World) : Prop where
  os : w'.os = w.os
  tape : w'.tape = w.tape
  output : w'.output = w.output
  size : w'.heap.size = w.heap.size
  block : ∀ k, (∀ ad, a = some ad → k ≠ ad.block) → w'.heap[k]? = w.heap[k]?
theorem Touch.refl (a : Option Addr) (w : World) : Touch a w w := ⟨rfl, rfl, rfl, rfl, fun _ _ => rfl⟩
theorem Touch.setCell {a : Option Addr} {w u : World} (h : Touch a w u) {g : Nat} (hp : a = some ⟨g, 0, none⟩) (x : Value) {i : Nat} : Touch a w (u.setCell ⟨g, i, none⟩ x) :=
  ⟨h.os, h.tape, h.output, by simpa using h.size, fun k hk => (Below.heap_setCell u ⟨g, i, none⟩ x k (show k ≠ g from hk ⟨g, 0, none⟩ hp)).trans (h.block k hk)⟩
end Go.Proofs.YtdplfflkmphpbaaGreatDoor.W
namespace Go.Proofs.YtdplfflkmphpbaaGreatDoor.Pl
def tk (zs : List Int) (k : Nat) : List Int := zs.take k ++ List.replicate (zs.length - k) 0
end Go.Proofs.YtdplfflkmphpbaaGreatDoor.Pl
namespace Go.Proofs.YtdplfflkmphpbaaGreatDoor.W
open Go.RowKit
end Go.Proofs.YtdplfflkmphpbaaGreatDoor.W
namespace Go.Proofs.YtdplfflkmphpbaaGreatDoor.Pl
end Go.Proofs.YtdplfflkmphpbaaGreatDoor.Pl
namespace Go.Proofs.YtdplfflkmphpbaaGreatDoor.W
open Go.RowKit
theorem conv_oneH (w : World) (c : Int) : (convert 22 9 (.slice (some ⟨w.heap.size, 0, none⟩) 1 1)).run Tryz.prog (w.alloc (.cells #[.int .u8 c] 5)) = .ok (.string (ByteArray.empty.push (UInt8.ofNat c.toNat))) (w.alloc (.cells #[.int .u8 c] 5)) := by
  rw [run_convert_bytes_string _ 22 9 5 _ _ _ Tryz.underlying22 Tryz.underlying5 Tryz.underlying9]
  refine run_bytesToString _ _ 1 1 [c] ?_
  refine (run_loadCells_list _ _ [.int .u8 c] ?_).trans rfl
  intro j v hj
  rcases j with _ | j
  · cases hj
    exact cell_of_row _ w.heap.size 0 _ 5 (0, 0) (heap_alloc_new w _)
  · simp at hj
end Go.Proofs.YtdplfflkmphpbaaGreatDoor.W
