import Derived.Test.YtcgfgmlfbgbkfaaGreatDoorL01
import Derived.Deep.Cut
import Derived.Deep.DeepCutAuto
import Derived.Deep.CutRange
import Derived.Laws.MakeOwn
import Derived.Laws.OwnMore
import Derived.RangeFuncNested
import Derived.RangeFuncBound
import Derived.RangeFuncCalls
import Derived.RangeFuncLeaves
import Derived.Shelf.Abstract
import Derived.Shelf.RegionOpen
import Derived.WalkKit
import Derived.OwnWalkIn
import Derived.TacticsInMore
import Derived.LoopNIn
import Derived.LoopIn
import Derived.Test.YtcgfgmlfbgbkfaaGreatDoorL17
import Derived.Deep.AppendLies
import Derived.Test.YtcgfgmlfbgbkfaaGreatDoorL06
import Derived.Test.YtcgfgmlfbgbkfaaGreatDoorL05
import Derived.OrdersIn
import Derived.Test.YtcgfgmlfbgbkfaaGreatDoorL08
set_option linter.unusedVariables false
set_option linter.unusedSimpArgs false
namespace Go.Proofs.YtcgfgmlfbgbkfaaGreatDoor.Pl
structure Nd where
  k : Int
  m : Int
  n : Int
  s : ByteArray
  kids : List Int
  line : Int
  col : Int
def Nd.cells (x : Nd) (v : W.SV) : Array Value := #[.int .i64 x.k, .int .i64 x.m, .int .i64 x.n, .string x.s, .slice v.a v.len v.cap, .int .i64 x.line, .int .i64 x.col]
def Nd.zero : Nd := ⟨0, 0, 0, ⟨#[]⟩, [], 0, 0⟩
end Go.Proofs.YtcgfgmlfbgbkfaaGreatDoor.Pl
namespace Go.Proofs.YtcgfgmlfbgbkfaaGreatDoor.W
open Go.RowKit
def NRow (lo : Nat) (w : World) (a : Option Addr) (len cap : Nat) (xs : List Pl.Nd) : Prop :=
  (xs.length = len ∧ ∀ x ∈ xs, x.s.size ≤ maxLen) ∧ len ≤ cap ∧ cap ≤ maxLen ∧ (len = 0 ∨ ∃ b off, a = some ⟨b, off, none⟩ ∧ lo ≤ b ∧ b < w.heap.size ∧ ∀ i, i < len → ∃ v : SV, (∀ j, j < 7 → w.cell? ⟨b, off + i * 7 + j, none⟩ = ((xs.getD i Pl.Nd.zero).cells v)[j]?) ∧ Row .i64 lo w v.a v.len v.cap (xs.getD i Pl.Nd.zero).kids)
theorem NRow.keep {lo : Nat} {w w' : World} {a : Option Addr} {len cap : Nat} {xs : List Pl.Nd} (h : NRow lo w a len cap xs) (hb : Below w.heap.size w w') : NRow lo w' a len cap xs := by
  obtain ⟨h1, h2, h3, h4⟩ := h
  refine ⟨h1, h2, h3, ?_⟩
  rcases h4 with h4 | ⟨b, off, ha, hlo, hlt, hc⟩
  · exact .inl h4
  · refine .inr ⟨b, off, ha, hlo, Nat.lt_of_lt_of_le hlt hb.size, fun i hi => ?_⟩
    obtain ⟨v, h5, h6⟩ := hc i hi
    exact ⟨v, fun j hj => (hb.cell (p := ⟨b, off + i * 7 + j, none⟩) hlt).trans (h5 j hj), h6.keep hb⟩
theorem NRow.at {lo : Nat} {w : World} {a : Option Addr} {len cap : Nat} {xs : List Pl.Nd} (h : NRow lo w a len cap xs) {k : Nat} (hk : k < len) :
    ∃ (b off : Nat) (v : SV), a = some ⟨b, off, none⟩ ∧ lo ≤ b ∧ b < w.heap.size ∧ (∀ j, j < 7 → w.cell? ⟨b, off + k * 7 + j, none⟩ = ((xs.getD k Pl.Nd.zero).cells v)[j]?) ∧ Row .i64 lo w v.a v.len v.cap (xs.getD k Pl.Nd.zero).kids ∧ (xs.getD k Pl.Nd.zero).s.size ≤ maxLen := by
  obtain ⟨h1, h2, h3, h4⟩ := h
  rcases h4 with h4 | ⟨b, off, ha, hlo, hlt, hc⟩
  · omega
  · obtain ⟨v, h5, h6⟩ := hc k hk
    refine ⟨b, off, v, ha, hlo, hlt, h5, h6, ?_⟩
    rw [List.getD_eq_getElem?_getD, List.getElem?_eq_getElem (by rw [h1.1]; exact hk)]
    exact h1.2 _ (List.getElem_mem _)
end Go.Proofs.YtcgfgmlfbgbkfaaGreatDoor.W
namespace Go.Proofs.YtcgfgmlfbgbkfaaGreatDoor.W
open Go.RowKit Go.Shelf
attribute [local go_sem] Oper.semAt_some
theorem below_allocB (w : World) (o : Obj) : Below w.heap.size w (w.alloc o) := (Below.refl _ _).alloc (Nat.le_refl _) _
theorem alloc_atB (w : World) (o : Obj) (k : Nat) (h : k = w.heap.size) : (w.alloc o).heap[k]? = some o := by subst h; exact World.alloc_heap_new w o
def NRowV (lo : Nat) (w : World) (a : Option Addr) (len cap : Nat) (xs : List Pl.Nd) (V : Nat → SV) : Prop :=
  (xs.length = len ∧ ∀ x ∈ xs, x.s.size ≤ maxLen) ∧ len ≤ cap ∧ cap ≤ maxLen ∧ (len = 0 ∨ ∃ b off, a = some ⟨b, off, none⟩ ∧ lo ≤ b ∧ b < w.heap.size ∧ ∀ i, i < len → (∀ j, j < 7 → w.cell? ⟨b, off + i * 7 + j, none⟩ = ((xs.getD i Pl.Nd.zero).cells (V i))[j]?) ∧ Row .i64 lo w (V i).a (V i).len (V i).cap (xs.getD i Pl.Nd.zero).kids)
theorem NRowV.row {lo : Nat} {w : World} {a : Option Addr} {len cap : Nat} {xs : List Pl.Nd} {V : Nat → SV} (h : NRowV lo w a len cap xs V) : NRow lo w a len cap xs := by
  obtain ⟨h1, h2, h3, h4⟩ := h
  refine ⟨h1, h2, h3, ?_⟩
  rcases h4 with h4 | ⟨b, off, e, hlo, hb, hc⟩
  · exact .inl h4
  · exact .inr ⟨b, off, e, hlo, hb, fun i hi => ⟨V i, hc i hi⟩⟩
theorem NRow.named {lo : Nat} {w : World} {a : Option Addr} {len cap : Nat} {xs : List Pl.Nd} (h : NRow lo w a len cap xs) : ∃ V, NRowV lo w a len cap xs V := by
  obtain ⟨h1, h2, h3, h4⟩ := h
  rcases h4 with h4 | ⟨b, off, e, hlo, hb, hc⟩
  · exact ⟨fun _ => ⟨none, 0, 0⟩, h1, h2, h3, .inl h4⟩
  · classical
    refine ⟨fun i => if q : i < len then Classical.choose (hc i q) else ⟨none, 0, 0⟩, h1, h2, h3, .inr ⟨b, off, e, hlo, hb, fun i hi => ?_⟩⟩
    simp only [dif_pos hi]
    exact Classical.choose_spec (hc i hi)
theorem NRowV.keep {lo : Nat} {w w' : World} {a : Option Addr} {len cap : Nat} {xs : List Pl.Nd} {V : Nat → SV} (h : NRowV lo w a len cap xs V) (hb : Below w.heap.size w w') : NRowV lo w' a len cap xs V := by
  obtain ⟨h1, h2, h3, h4⟩ := h
  refine ⟨h1, h2, h3, ?_⟩
  rcases h4 with h4 | ⟨b, off, ha, hlo, hlt, hc⟩
  · exact .inl h4
  · refine .inr ⟨b, off, ha, hlo, Nat.lt_of_lt_of_le hlt hb.size, fun i hi => ?_⟩
    obtain ⟨h5, h6⟩ := hc i hi
    exact ⟨fun j hj => (hb.cell (p := ⟨b, off + i * 7 + j, none⟩) hlt).trans (h5 j hj), h6.keep hb⟩
def qPost (D : Nat) (Wb : World) (I : World → Prop) (Ix : World → Prop) : Exit → Act → World → Prop
  | .normal, _, W' => (∀ b, D ≤ b → b < D + 2 → W'.heap[b]? = Wb.heap[b]?) ∧ I W'
  | .ret, _, W' => (∀ b, D ≤ b → b < D + 2 → W'.heap[b]? = Wb.heap[b]?) ∧ Ix W'
  | _, _, _ => False
end Go.Proofs.YtcgfgmlfbgbkfaaGreatDoor.W
namespace Go.Proofs.YtcgfgmlfbgbkfaaGreatDoor.W
open Go.RowKit Go.Shelf
attribute [local go_sem] Oper.semAt_some
def SetAt (W : World) (bx g k c : Nat) (ws : List Nat) : Prop := W.cell? ⟨bx, 0, none⟩ = some (.slice (some ⟨g, 0, none⟩) k c) ∧ (∀ i, i < k → W.cell? ⟨g, i, none⟩ = some (.int .u64 ((ws.getD i 0 : Nat) : Int))) ∧ TabT W
set_option maxHeartbeats 8000000 in
set_option maxRecDepth 100000 in
theorem runI_is (m bx l : Nat) (hm : 1 ≤ m) (g k c : Nat) (ws : List Nat) (hs : Pl.smallW ws) (hk : ws.length = k) (hk2 : k ≤ 100000) (J : List Nat → World → Prop) (Jx : World → Prop)
    (hJ : ∀ acc W, J acc W → SetAt W bx g k c ws)
    (hY : ∀ acc n rest W, acc ++ n :: rest = Pl.allW ws → J acc W → YieldAt Fence.wide (m - 1) Tryz.prog l #[.int .i64 ((n : Nat) : Int)] W fun e W' => (e = .returned (.bool true) ∧ J (acc ++ [n]) W') ∨ (e = .returned (.bool false) ∧ Jx W'))
    (W : World) (h0 : J [] W) : CallsIn Fence.wide m Tryz.prog 99 #[.func (.yield l) #[] #[], .pointer (some ⟨bx, 0, none⟩)] W fun e W' => (∃ v, e = .returned v) ∧ (J (Pl.allW ws) W' ∨ Jx W') := by
  have HY : Hid _ := hY
  have HJ : Hid _ := hJ
  have H0 : Hid (J [] W) := h0
  have hc0 := (hJ [] W h0).1
  have HS : Hid (Pl.smallW ws ∧ ws.length = k) := ⟨hs, hk⟩
  have hkm : (k : Int) ≤ 100000 := by omega
  clear hY hJ h0 hs hk
  refine callsIn_of_wp Tryz.func99 rfl trivial ?_ rfl
  simp only [Tryz.ntmps99, List.size_toArray, List.length_cons, List.length_nil, Nat.reduceAdd, Nat.reduceSub, Array.replicate_succ, Array.replicate_zero, List.push_toArray, List.append_toArray, List.nil_append, List.cons_append]
  gi_wp2
  gi_loopw [7] (fun v wr => ∃ (i : Nat) (acc : List Nat), i ≤ k ∧ v = .int .i64 (i : Int) ∧ Hid (J acc wr ∧ acc ++ Pl.restW ws i = Pl.allW ws)) (fun v _ => k - (intOf v).toNat)
  case atStart => exact ⟨0, [], Nat.zero_le _, rfl, H0.out, by rw [Pl.restW_all]; rfl⟩
  case round =>
    obtain ⟨i, acc, hi, rfl, HA⟩ := hrel
    by_cases hlt : i < k
    rotate_left
    · have hii : ¬ ((i : Int) < (k : Int)) := by omega
      have HE : Hid (J (Pl.allW ws) wr) := by
        have := HA.out.2
        rw [Pl.restW_end ws i (by have := HS.out.2; omega), List.append_nil] at this
        rw [← this]; exact HA.out.1
      clear HY HJ H0 hc0
      gi_wp2
      refine bodyPost_end (results_none rfl _ _ _) rfl ?_
      exact ⟨⟨_, rfl⟩, .inl HE.out⟩
    have hii : (i : Int) < (k : Int) := by omega
    have cz := (HJ.out acc wr HA.out.1).2.1 i hlt
    obtain ⟨x0, hx0⟩ : ∃ x : Nat, x = ws.getD i 0 := ⟨_, rfl⟩
    have HX : Hid (x0 < 18446744073709551616 ∧ J acc wr ∧ acc ++ (Pl.oneW i x0 ++ Pl.restW ws (i + 1)) = Pl.allW ws) := by
      refine ⟨by rw [hx0]; exact HS.out.1 i, HA.out.1, ?_⟩
      rw [hx0, ← Pl.restW_step ws i (by have := HS.out.2; omega)]
      exact HA.out.2
    rw [← hx0] at cz
    clear hx0 HA
    gi_wp2
    gi_loopw [4] (fun v wr => ∃ (x : Nat) (acc : List Nat), v = .int .u64 (x : Int) ∧ Hid (x < 18446744073709551616 ∧ J acc wr ∧ acc ++ (Pl.oneW i x ++ Pl.restW ws (i + 1)) = Pl.allW ws)) (fun v _ => (intOf v).toNat)
    case atStart => exact ⟨x0, acc, rfl, HX⟩
    case round =>
      obtain ⟨x, ac, rfl, HB⟩ := hrel
      by_cases hxz : x = 0
      · subst hxz
        have HE : Hid (J ac wr ∧ ac ++ Pl.restW ws (i + 1) = Pl.allW ws) := by
          have := HB.out.2
          rw [Pl.oneW_zero, List.nil_append] at this
          exact this
        clear HY HJ H0 hc0 HB HX
        gi_wp2
        go_roundw
        case rel => exact ⟨i + 1, ac, by omega, by go_num, HE⟩
        case measure => simp [intOf]; omega
      have hxn : ((x : Int) != 0) = true := by simp; omega
      have hx64 : x < 18446744073709551616 := HB.out.1
      obtain ⟨b1, b2, b3, hct⟩ := Pl.ctz_bits x hxz hx64
      have HTZ : Hid (∀ u : World, TabT u → Calls Tryz.prog 98 #[.int .u64 (x : Int)] u fun e w' => e = .returned (.int .i64 ((Lib.ctz 64 x : Nat) : Int)) ∧ w' = u) := fun u hu => tz_is x hx64 hxz u hu
      have HOS := Pl.oneW_step i x hxz hx64
      obtain ⟨z, hz⟩ : ∃ z : Nat, z = Lib.ctz 64 x := ⟨_, rfl⟩
      rw [← hz] at HTZ HOS hct
      obtain ⟨n, hn⟩ : ∃ n : Nat, n = 64 * i + z := ⟨_, rfl⟩
      have hni : (i : Int) * 64 + (z : Int) = (n : Int) := by omega
      have hnm : (n : Int) ≤ 10000000 := by omega
      obtain ⟨y, hy0⟩ : ∃ y : Nat, y = x &&& (x - 1) := ⟨_, rfl⟩
      have hyx : y < x := by rw [hy0]; exact Pl.ctz_and_lt x hxz
      have hsub : IntKind.u64.wrap ((x : Int) - 1) = ((x - 1 : Nat) : Int) := by rw [IntKind.wrap_u64]; omega
      have hand : bits BinOp.and IntKind.u64 (x : Int) ((x - 1 : Nat) : Int) = (y : Int) := by rw [hy0]; exact bits_and_u64_nat x (x - 1) hx64 (by omega)
      rw [← hn, ← hy0] at HOS
      have hyy := HY.out ac n (Pl.oneW i y ++ Pl.restW ws (i + 1)) wr (by have := HB.out.2.2; rw [HOS] at this; exact this) HB.out.2.1
      have HN : Hid ((ac ++ [n]) ++ (Pl.oneW i y ++ Pl.restW ws (i + 1)) = Pl.allW ws) := by
        have := HB.out.2.2; rw [HOS] at this
        show (ac ++ [n]) ++ _ = _
        rw [List.append_assoc]; exact this
      have htab := (HJ.out ac wr HB.out.2.1).2.2
      have HT : Hid (TabT wr) := htab
      obtain ⟨fn, tmps, assign, body, hy, hR⟩ := hyy
      have HR : Hid _ := hR
      have HNI : Hid ((i : Int) * 64 + (z : Int) = (n : Int)) := hni
      clear hR HY HJ H0 hc0 HX hn hz hy0 htab b1 b2 b3 HOS
      gi_wp2_with (refine ⟨trivial, ?_⟩; gi_at_call 98; refine (callsIn_wide.2 (HTZ.out _ HT.out)).mono ?_; rintro e u1 ⟨rfl, hu1⟩; rw [hu1]; clear hu1 u1)
      refine RoundIn.mono HR.out ?_
      rintro e W3 (⟨rfl, hJ3⟩ | ⟨rfl, hJx3⟩)
      · have HJ3 : Hid (J (ac ++ [n]) W3) := hJ3
        clear hJ3 hy HR
        gi_wp2
        go_roundw
        case rel => exact ⟨y, ac ++ [n], rfl, by omega, HJ3.out, HN.out⟩
        case measure => simp [intOf]; omega
      · have HJ3 : Hid (Jx W3) := hJx3
        clear hJx3 hy HR
        gi_wp2
        refine bodyPost_ret (results_none rfl _ _ _) rfl ?_
        exact ⟨⟨_, rfl⟩, .inr HJ3.out⟩
set_option maxHeartbeats 4000000 in
theorem rangeI_is {op : Operand} {ps : Array Tmp} {assign body : Code} {Q : Exit → Act → World → Prop} {a : Act} {w : World} (n bx : Nat) (h1 : 2 ≤ n)
    (hop : a.eval op = .func (.func 99) #[] #[.pointer (some ⟨bx, 0, none⟩)]) (hps : ps.size = 1)
    (g k c : Nat) (ws : List Nat) (hs : Pl.smallW ws) (hk : ws.length = k) (hk2 : k ≤ 100000)
    (I : List Nat → World → Prop) (Ix : World → Prop)
    (hJ : ∀ j W, I j W → SetAt W bx g k c ws)
    (h0 : ∀ A, Below w.heap.size w A → w.heap.size + 2 ≤ A.heap.size → I [] A)
    (hIp : ∀ j A l o o', I j A → w.heap.size ≤ l → l < w.heap.size + 2 → A.heap[l]? = some o' → o'.isCells = false → I j (A.putObj l o))
    (hIxp : ∀ A l o o', Ix A → w.heap.size ≤ l → l < w.heap.size + 2 → A.heap[l]? = some o' → o'.isCells = false → Ix (A.putObj l o))
    (Ax : Nat → World → Act → World → Prop)
    (hassign : ∀ (l q : Nat) (W : World) (K : Act → World → Prop), (∀ a' W', Below W.heap.size W W' → Ax q W a' W' → K a' W') →
      assign.wpIn (Fence.wide.inRound l) (n - 1 - 1) Tryz.prog (Exit.then K (fun _ _ _ => False)) { tmps := (ps.zip #[.int .i64 (q : Int)]).foldl (fun t (p, v) => t.setIfInBounds p v) a.tmps, defers := [] } W)
    (hbody : ∀ (l : Nat) (acc : List Nat) (q : Nat) (rest : List Nat) (W : World) (a' : Act) (W1 : World) (o : Obj), acc ++ q :: rest = Pl.allW ws → w.heap.size ≤ l → l < w.heap.size + 2 → I acc W → (∀ b, w.heap.size ≤ b → b < w.heap.size + 2 → ∃ o', W.heap[b]? = some o' ∧ o'.isCells = false) → Below W.heap.size W W1 → Ax q W a' W1 →
      body.wpIn (Fence.wide.inRound l) (n - 1 - 1) Tryz.prog (qPost w.heap.size (W1.putObj l o) (I (acc ++ [q])) Ix) a' (W1.putObj l o))
    (hdone : ∀ W, I (Pl.allW ws) W → W.heap[w.heap.size]? = some (.deferred (some [])) → Q .normal { a with defers := { target := .collected w.heap.size, args := #[] } :: a.defers } W)
    (hstop : ∀ W, Ix W → W.heap[w.heap.size]? = some (.deferred (some [])) → Code.ret.wpIn Fence.wide n Tryz.prog Q { a with defers := { target := .collected w.heap.size, args := #[] } :: a.defers } W) :
    (Code.rangeFunc op ps assign body).wpIn Fence.wide n Tryz.prog Q a w := by
  refine wpIn_rangeFunc fun fn hfn => ?_
  let r0 : Loop := { state := .ready, pending := none, fn := fn, tmps := a.tmps, params := ps, assign := assign, body := body, defers := w.heap.size }
  obtain ⟨W1, hW1⟩ : ∃ W1, (w.alloc (.deferred (some []))).alloc (.loop r0) = W1 := ⟨_, rfl⟩
  have hL1 : W1.heap[w.heap.size + 1]? = some (.loop r0) := hW1 ▸ alloc_atB _ _ _ (by simp)
  have hD1 : W1.heap[w.heap.size]? = some (.deferred (some [])) := hW1 ▸ (Below.heap_alloc _ _ _ (by simp)).trans (alloc_atB w _ _ rfl)
  have hB1 : Below w.heap.size w W1 := by rw [← hW1]; exact (below_allocB w _).trans ((below_allocB _ _).mono (by simp))
  have hz1 : w.heap.size + 2 ≤ W1.heap.size := by have := (Array.getElem?_eq_some_iff.1 hL1).1; omega
  refine ⟨w.heap.size + 1, [{ target := .collected w.heap.size, args := #[] }], W1, { target := .fn (.func 99) #[.pointer (some ⟨bx, 0, none⟩)], args := #[.func (.yield (w.heap.size + 1)) #[] #[]] }, W1, 99,
    #[.func (.yield (w.heap.size + 1)) #[] #[]] ++ #[.pointer (some ⟨bx, 0, none⟩)], W1, ?_, ?_, ?_, ?_, fun _ => by omega, ?_⟩
  · rw [← hW1]; exact run_enterLoop_outer _ _ _ _ _
  · simp only [resolve, hop]
    simp [go_sem]
  · intro f' _; trivial
  · simp [invoke, go_sem, enters_of Tryz.func99 (by kernel_rfl) rfl]
  refine (runI_is (n - 1) bx (w.heap.size + 1) (by omega) g k c ws hs hk hk2
    (fun j W => I j W ∧ W.heap[w.heap.size + 1]? = some (.loop r0) ∧ W.heap[w.heap.size]? = some (.deferred (some [])))
    (fun W => Ix W ∧ W.heap[w.heap.size + 1]? = some (.loop { r0 with state := .done, pending := some .ret }) ∧ W.heap[w.heap.size]? = some (.deferred (some [])))
    (fun j W h => hJ j W h.1) ?hY W1 ⟨h0 _ hB1 hz1, hL1, hD1⟩).mono ?post
  case hY =>
    rintro acc q rest W hq ⟨hi, hl, hd⟩
    have z0 : w.heap.size + 2 ≤ W.heap.size := by have := (Array.getElem?_eq_some_iff.1 hl).1; omega
    refine ⟨_, _, _, _, run_yield hl (by show 1 = ps.size; omega), roundIn_of_wpIn hfn (hassign _ q W _ fun a' W' hb ha => ?_)⟩
    have hl' : W'.heap[w.heap.size + 1]? = some (.loop r0) := (hb.block _ (by omega)).trans hl
    have hd' : W'.heap[w.heap.size]? = some (.deferred (some [])) := (hb.block _ (by omega)).trans hd
    refine ⟨_, run_beginRound hl' rfl, wpIn_mono (hbody _ acc q rest W a' W' _ hq (by omega) (by omega) hi (fun b hb1 hb2 => by rcases (show b = w.heap.size ∨ b = w.heap.size + 1 by omega) with rfl | rfl; exact ⟨_, hd, rfl⟩; exact ⟨_, hl, rfl⟩) hb ha) ?_⟩
    have zW' : w.heap.size + 2 ≤ W'.heap.size := Nat.le_trans z0 hb.size
    have hl2 : (W'.putObj (w.heap.size + 1) (.loop { r0 with state := .busy })).heap[w.heap.size + 1]? = some (.loop { r0 with state := .busy }) := World.putObj_heap_same (by omega)
    have hd2 : (W'.putObj (w.heap.size + 1) (.loop { r0 with state := .busy })).heap[w.heap.size]? = some (.deferred (some [])) := (World.putObj_heap_other (by omega)).trans hd'
    rintro e a3 W3 hp
    cases e with
    | normal =>
      obtain ⟨k1, hi3⟩ := hp
      have hl3 := (k1 (w.heap.size + 1) (by omega) (by omega)).trans hl2
      have hd3 := (k1 w.heap.size (by omega) (by omega)).trans hd2
      exact ⟨_, _, run_endRound none hl3, .inl ⟨rfl, hIp _ _ _ _ _ hi3 (by omega) (by omega) hl3 rfl, World.putObj_heap_same (Array.getElem?_eq_some_iff.1 hl3).1, (World.putObj_heap_other (by omega)).trans hd3⟩⟩
    | ret =>
      obtain ⟨k1, hi3⟩ := hp
      have hl3 := (k1 (w.heap.size + 1) (by omega) (by omega)).trans hl2
      have hd3 := (k1 w.heap.size (by omega) (by omega)).trans hd2
      exact ⟨_, _, run_endRound (some .ret) hl3, .inr ⟨rfl, hIxp _ _ _ _ hi3 (by omega) (by omega) hl3 rfl, World.putObj_heap_same (Array.getElem?_eq_some_iff.1 hl3).1, (World.putObj_heap_other (by omega)).trans hd3⟩⟩
    | exit id => exact hp.elim
    | goto t => exact hp.elim
    | panic ch => exact hp.elim
    | outgrown => exact hp.elim
  case post =>
    rintro e W2 ⟨⟨v, rfl⟩, (⟨hi, hl, hd⟩ | ⟨hi, hl, hd⟩)⟩
    · exact ⟨_, _, run_endLoop hl (show LoopState.ready ≠ LoopState.busy by decide), hdone _ (hIp _ _ _ _ _ hi (by omega) (by omega) hl rfl) ((World.putObj_heap_other (by omega)).trans hd)⟩
    · exact ⟨_, _, run_endLoop hl (show LoopState.done ≠ LoopState.busy by decide), hstop _ (hIxp _ _ _ _ hi (by omega) (by omega) hl rfl) ((World.putObj_heap_other (by omega)).trans hd)⟩
set_option maxHeartbeats 8000000 in
set_option maxRecDepth 100000 in
theorem runS_is (m bx l : Nat) (hm : 1 ≤ m) (g k c : Nat) (ws : List Nat) (hs : Pl.smallW ws) (hk : ws.length = k) (hk2 : k ≤ 100000) (J : List Nat → World → Prop) (Jx : World → Prop)
    (hJ : ∀ acc W, J acc W → SetAt W bx g k c ws)
    (hY : ∀ acc n rest W, acc ++ n :: rest = Pl.allW ws → J acc W → YieldAt Fence.wide (m - 1) Tryz.prog l #[.int .i64 ((n : Nat) : Int)] W fun e W' => (e = .returned (.bool true) ∧ J (acc ++ [n]) W') ∨ (e = .returned (.bool false) ∧ Jx W'))
    (W : World) (h0 : J [] W) : CallsIn Fence.wide m Tryz.prog 97 #[.func (.yield l) #[] #[], .pointer (some ⟨bx, 0, none⟩)] W fun e W' => (∃ v, e = .returned v) ∧ (J (Pl.allW ws) W' ∨ Jx W') := by
  have HY : Hid _ := hY
  have HJ : Hid _ := hJ
  have H0 : Hid (J [] W) := h0
  have hc0 := (hJ [] W h0).1
  have HS : Hid (Pl.smallW ws ∧ ws.length = k) := ⟨hs, hk⟩
  have hkm : (k : Int) ≤ 100000 := by omega
  clear hY hJ h0 hs hk
  refine callsIn_of_wp Tryz.func97 rfl trivial ?_ rfl
  simp only [Tryz.ntmps97, List.size_toArray, List.length_cons, List.length_nil, Nat.reduceAdd, Nat.reduceSub, Array.replicate_succ, Array.replicate_zero, List.push_toArray, List.append_toArray, List.nil_append, List.cons_append]
  gi_wp2
  gi_loopw [7] (fun v wr => ∃ (i : Nat) (acc : List Nat), i ≤ k ∧ v = .int .i64 (i : Int) ∧ Hid (J acc wr ∧ acc ++ Pl.restW ws i = Pl.allW ws)) (fun v _ => k - (intOf v).toNat)
  case atStart => exact ⟨0, [], Nat.zero_le _, rfl, H0.out, by rw [Pl.restW_all]; rfl⟩
  case round =>
    obtain ⟨i, acc, hi, rfl, HA⟩ := hrel
    by_cases hlt : i < k
    rotate_left
    · have hii : ¬ ((i : Int) < (k : Int)) := by omega
      have HE : Hid (J (Pl.allW ws) wr) := by
        have := HA.out.2
        rw [Pl.restW_end ws i (by have := HS.out.2; omega), List.append_nil] at this
        rw [← this]; exact HA.out.1
      clear HY HJ H0 hc0
      gi_wp2
      refine bodyPost_end (results_none rfl _ _ _) rfl ?_
      exact ⟨⟨_, rfl⟩, .inl HE.out⟩
    have hii : (i : Int) < (k : Int) := by omega
    have cz := (HJ.out acc wr HA.out.1).2.1 i hlt
    obtain ⟨x0, hx0⟩ : ∃ x : Nat, x = ws.getD i 0 := ⟨_, rfl⟩
    have HX : Hid (x0 < 18446744073709551616 ∧ J acc wr ∧ acc ++ (Pl.oneW i x0 ++ Pl.restW ws (i + 1)) = Pl.allW ws) := by
      refine ⟨by rw [hx0]; exact HS.out.1 i, HA.out.1, ?_⟩
      rw [hx0, ← Pl.restW_step ws i (by have := HS.out.2; omega)]
      exact HA.out.2
    rw [← hx0] at cz
    clear hx0 HA
    gi_wp2
    gi_loopw [4] (fun v wr => ∃ (x : Nat) (acc : List Nat), v = .int .u64 (x : Int) ∧ Hid (x < 18446744073709551616 ∧ J acc wr ∧ acc ++ (Pl.oneW i x ++ Pl.restW ws (i + 1)) = Pl.allW ws)) (fun v _ => (intOf v).toNat)
    case atStart => exact ⟨x0, acc, rfl, HX⟩
    case round =>
      obtain ⟨x, ac, rfl, HB⟩ := hrel
      by_cases hxz : x = 0
      · subst hxz
        have HE : Hid (J ac wr ∧ ac ++ Pl.restW ws (i + 1) = Pl.allW ws) := by
          have := HB.out.2
          rw [Pl.oneW_zero, List.nil_append] at this
          exact this
        clear HY HJ H0 hc0 HB HX
        gi_wp2
        go_roundw
        case rel => exact ⟨i + 1, ac, by omega, by go_num, HE⟩
        case measure => simp [intOf]; omega
      have hxn : ((x : Int) != 0) = true := by simp; omega
      have hx64 : x < 18446744073709551616 := HB.out.1
      obtain ⟨b1, b2, b3, hct⟩ := Pl.ctz_bits x hxz hx64
      have HTZ : Hid (∀ u : World, TabT u → Calls Tryz.prog 98 #[.int .u64 (x : Int)] u fun e w' => e = .returned (.int .i64 ((Lib.ctz 64 x : Nat) : Int)) ∧ w' = u) := fun u hu => tz_is x hx64 hxz u hu
      have HOS := Pl.oneW_step i x hxz hx64
      obtain ⟨z, hz⟩ : ∃ z : Nat, z = Lib.ctz 64 x := ⟨_, rfl⟩
      rw [← hz] at HTZ HOS hct
      obtain ⟨n, hn⟩ : ∃ n : Nat, n = 64 * i + z := ⟨_, rfl⟩
      have hni : (i : Int) * 64 + (z : Int) = (n : Int) := by omega
      have hnm : (n : Int) ≤ 10000000 := by omega
      obtain ⟨y, hy0⟩ : ∃ y : Nat, y = x &&& (x - 1) := ⟨_, rfl⟩
      have hyx : y < x := by rw [hy0]; exact Pl.ctz_and_lt x hxz
      have hsub : IntKind.u64.wrap ((x : Int) - 1) = ((x - 1 : Nat) : Int) := by rw [IntKind.wrap_u64]; omega
      have hand : bits BinOp.and IntKind.u64 (x : Int) ((x - 1 : Nat) : Int) = (y : Int) := by rw [hy0]; exact bits_and_u64_nat x (x - 1) hx64 (by omega)
      rw [← hn, ← hy0] at HOS
      have hyy := HY.out ac n (Pl.oneW i y ++ Pl.restW ws (i + 1)) wr (by have := HB.out.2.2; rw [HOS] at this; exact this) HB.out.2.1
      have HN : Hid ((ac ++ [n]) ++ (Pl.oneW i y ++ Pl.restW ws (i + 1)) = Pl.allW ws) := by
        have := HB.out.2.2; rw [HOS] at this
        show (ac ++ [n]) ++ _ = _
        rw [List.append_assoc]; exact this
      have htab := (HJ.out ac wr HB.out.2.1).2.2
      have HT : Hid (TabT wr) := htab
      obtain ⟨fn, tmps, assign, body, hy, hR⟩ := hyy
      have HR : Hid _ := hR
      have HNI : Hid ((i : Int) * 64 + (z : Int) = (n : Int)) := hni
      clear hR HY HJ H0 hc0 HX hn hz hy0 htab b1 b2 b3 HOS
      gi_wp2_with (refine ⟨trivial, ?_⟩; gi_at_call 98; refine (callsIn_wide.2 (HTZ.out _ HT.out)).mono ?_; rintro e u1 ⟨rfl, hu1⟩; rw [hu1]; clear hu1 u1)
      refine RoundIn.mono HR.out ?_
      rintro e W3 (⟨rfl, hJ3⟩ | ⟨rfl, hJx3⟩)
      · have HJ3 : Hid (J (ac ++ [n]) W3) := hJ3
        clear hJ3 hy HR
        gi_wp2
        go_roundw
        case rel => exact ⟨y, ac ++ [n], rfl, by omega, HJ3.out, HN.out⟩
        case measure => simp [intOf]; omega
      · have HJ3 : Hid (Jx W3) := hJx3
        clear hJx3 hy HR
        gi_wp2
        refine bodyPost_ret (results_none rfl _ _ _) rfl ?_
        exact ⟨⟨_, rfl⟩, .inr HJ3.out⟩
set_option maxHeartbeats 4000000 in
theorem rangeS_is {op : Operand} {ps : Array Tmp} {assign body : Code} {Q : Exit → Act → World → Prop} {a : Act} {w : World} (n bx : Nat) (h1 : 2 ≤ n)
    (hop : a.eval op = .func (.func 97) #[] #[.pointer (some ⟨bx, 0, none⟩)]) (hps : ps.size = 1)
    (g k c : Nat) (ws : List Nat) (hs : Pl.smallW ws) (hk : ws.length = k) (hk2 : k ≤ 100000)
    (I : List Nat → World → Prop) (Ix : World → Prop)
    (hJ : ∀ j W, I j W → SetAt W bx g k c ws)
    (h0 : ∀ A, Below w.heap.size w A → w.heap.size + 2 ≤ A.heap.size → I [] A)
    (hIp : ∀ j A l o o', I j A → w.heap.size ≤ l → l < w.heap.size + 2 → A.heap[l]? = some o' → o'.isCells = false → I j (A.putObj l o))
    (hIxp : ∀ A l o o', Ix A → w.heap.size ≤ l → l < w.heap.size + 2 → A.heap[l]? = some o' → o'.isCells = false → Ix (A.putObj l o))
    (Ax : Nat → World → Act → World → Prop)
    (hassign : ∀ (l q : Nat) (W : World) (K : Act → World → Prop), (∀ a' W', Below W.heap.size W W' → Ax q W a' W' → K a' W') →
      assign.wpIn (Fence.wide.inRound l) (n - 1 - 1) Tryz.prog (Exit.then K (fun _ _ _ => False)) { tmps := (ps.zip #[.int .i64 (q : Int)]).foldl (fun t (p, v) => t.setIfInBounds p v) a.tmps, defers := [] } W)
    (hbody : ∀ (l : Nat) (acc : List Nat) (q : Nat) (rest : List Nat) (W : World) (a' : Act) (W1 : World) (o : Obj), acc ++ q :: rest = Pl.allW ws → w.heap.size ≤ l → l < w.heap.size + 2 → I acc W → (∀ b, w.heap.size ≤ b → b < w.heap.size + 2 → ∃ o', W.heap[b]? = some o' ∧ o'.isCells = false) → Below W.heap.size W W1 → Ax q W a' W1 →
      body.wpIn (Fence.wide.inRound l) (n - 1 - 1) Tryz.prog (qPost w.heap.size (W1.putObj l o) (I (acc ++ [q])) Ix) a' (W1.putObj l o))
    (hdone : ∀ W, I (Pl.allW ws) W → W.heap[w.heap.size]? = some (.deferred (some [])) → Q .normal { a with defers := { target := .collected w.heap.size, args := #[] } :: a.defers } W)
    (hstop : ∀ W, Ix W → W.heap[w.heap.size]? = some (.deferred (some [])) → Code.ret.wpIn Fence.wide n Tryz.prog Q { a with defers := { target := .collected w.heap.size, args := #[] } :: a.defers } W) :
    (Code.rangeFunc op ps assign body).wpIn Fence.wide n Tryz.prog Q a w := by
  refine wpIn_rangeFunc fun fn hfn => ?_
  let r0 : Loop := { state := .ready, pending := none, fn := fn, tmps := a.tmps, params := ps, assign := assign, body := body, defers := w.heap.size }
  obtain ⟨W1, hW1⟩ : ∃ W1, (w.alloc (.deferred (some []))).alloc (.loop r0) = W1 := ⟨_, rfl⟩
  have hL1 : W1.heap[w.heap.size + 1]? = some (.loop r0) := hW1 ▸ alloc_atB _ _ _ (by simp)
  have hD1 : W1.heap[w.heap.size]? = some (.deferred (some [])) := hW1 ▸ (Below.heap_alloc _ _ _ (by simp)).trans (alloc_atB w _ _ rfl)
  have hB1 : Below w.heap.size w W1 := by rw [← hW1]; exact (below_allocB w _).trans ((below_allocB _ _).mono (by simp))
  have hz1 : w.heap.size + 2 ≤ W1.heap.size := by have := (Array.getElem?_eq_some_iff.1 hL1).1; omega
  refine ⟨w.heap.size + 1, [{ target := .collected w.heap.size, args := #[] }], W1, { target := .fn (.func 97) #[.pointer (some ⟨bx, 0, none⟩)], args := #[.func (.yield (w.heap.size + 1)) #[] #[]] }, W1, 97,
    #[.func (.yield (w.heap.size + 1)) #[] #[]] ++ #[.pointer (some ⟨bx, 0, none⟩)], W1, ?_, ?_, ?_, ?_, fun _ => by omega, ?_⟩
  · rw [← hW1]; exact run_enterLoop_outer _ _ _ _ _
  · simp only [resolve, hop]
    simp [go_sem]
  · intro f' _; trivial
  · simp [invoke, go_sem, enters_of Tryz.func97 (by kernel_rfl) rfl]
  refine (runS_is (n - 1) bx (w.heap.size + 1) (by omega) g k c ws hs hk hk2
    (fun j W => I j W ∧ W.heap[w.heap.size + 1]? = some (.loop r0) ∧ W.heap[w.heap.size]? = some (.deferred (some [])))
    (fun W => Ix W ∧ W.heap[w.heap.size + 1]? = some (.loop { r0 with state := .done, pending := some .ret }) ∧ W.heap[w.heap.size]? = some (.deferred (some [])))
    (fun j W h => hJ j W h.1) ?hY W1 ⟨h0 _ hB1 hz1, hL1, hD1⟩).mono ?post
  case hY =>
    rintro acc q rest W hq ⟨hi, hl, hd⟩
    have z0 : w.heap.size + 2 ≤ W.heap.size := by have := (Array.getElem?_eq_some_iff.1 hl).1; omega
    refine ⟨_, _, _, _, run_yield hl (by show 1 = ps.size; omega), roundIn_of_wpIn hfn (hassign _ q W _ fun a' W' hb ha => ?_)⟩
    have hl' : W'.heap[w.heap.size + 1]? = some (.loop r0) := (hb.block _ (by omega)).trans hl
    have hd' : W'.heap[w.heap.size]? = some (.deferred (some [])) := (hb.block _ (by omega)).trans hd
    refine ⟨_, run_beginRound hl' rfl, wpIn_mono (hbody _ acc q rest W a' W' _ hq (by omega) (by omega) hi (fun b hb1 hb2 => by rcases (show b = w.heap.size ∨ b = w.heap.size + 1 by omega) with rfl | rfl; exact ⟨_, hd, rfl⟩; exact ⟨_, hl, rfl⟩) hb ha) ?_⟩
    have zW' : w.heap.size + 2 ≤ W'.heap.size := Nat.le_trans z0 hb.size
    have hl2 : (W'.putObj (w.heap.size + 1) (.loop { r0 with state := .busy })).heap[w.heap.size + 1]? = some (.loop { r0 with state := .busy }) := World.putObj_heap_same (by omega)
    have hd2 : (W'.putObj (w.heap.size + 1) (.loop { r0 with state := .busy })).heap[w.heap.size]? = some (.deferred (some [])) := (World.putObj_heap_other (by omega)).trans hd'
    rintro e a3 W3 hp
    cases e with
    | normal =>
      obtain ⟨k1, hi3⟩ := hp
      have hl3 := (k1 (w.heap.size + 1) (by omega) (by omega)).trans hl2
      have hd3 := (k1 w.heap.size (by omega) (by omega)).trans hd2
      exact ⟨_, _, run_endRound none hl3, .inl ⟨rfl, hIp _ _ _ _ _ hi3 (by omega) (by omega) hl3 rfl, World.putObj_heap_same (Array.getElem?_eq_some_iff.1 hl3).1, (World.putObj_heap_other (by omega)).trans hd3⟩⟩
    | ret =>
      obtain ⟨k1, hi3⟩ := hp
      have hl3 := (k1 (w.heap.size + 1) (by omega) (by omega)).trans hl2
      have hd3 := (k1 w.heap.size (by omega) (by omega)).trans hd2
      exact ⟨_, _, run_endRound (some .ret) hl3, .inr ⟨rfl, hIxp _ _ _ _ hi3 (by omega) (by omega) hl3 rfl, World.putObj_heap_same (Array.getElem?_eq_some_iff.1 hl3).1, (World.putObj_heap_other (by omega)).trans hd3⟩⟩
    | exit id => exact hp.elim
    | goto t => exact hp.elim
    | panic ch => exact hp.elim
    | outgrown => exact hp.elim
  case post =>
    rintro e W2 ⟨⟨v, rfl⟩, (⟨hi, hl, hd⟩ | ⟨hi, hl, hd⟩)⟩
    · exact ⟨_, _, run_endLoop hl (show LoopState.ready ≠ LoopState.busy by decide), hdone _ (hIp _ _ _ _ _ hi (by omega) (by omega) hl rfl) ((World.putObj_heap_other (by omega)).trans hd)⟩
    · exact ⟨_, _, run_endLoop hl (show LoopState.done ≠ LoopState.busy by decide), hstop _ (hIxp _ _ _ _ hi (by omega) (by omega) hl rfl) ((World.putObj_heap_other (by omega)).trans hd)⟩
end Go.Proofs.YtcgfgmlfbgbkfaaGreatDoor.W
namespace Go.Proofs.YtcgfgmlfbgbkfaaGreatDoor.W
open Go.RowKit Go.Shelf
attribute [local go_sem] Oper.semAt_some
def mark (D : Nat) : Deferred := { target := .collected D, args := #[] }
structure Sh (lo : Nat) (w w' : World) : Prop where
  os : w'.os = w.os
  tape : w'.tape = w.tape
  output : w'.output = w.output
  size : w'.heap.size = w.heap.size
  block : ∀ b, (b < lo ∨ ∃ cs t fr, w.heap[b]? = some (.cells cs t fr)) → w'.heap[b]? = w.heap[b]?
theorem Sh.refl (lo : Nat) (w : World) : Sh lo w w := ⟨rfl, rfl, rfl, rfl, fun _ _ => rfl⟩
theorem leaves_marks {F : Fence} {n : Nat} {P : Program} {fn : Func} {tmps : Array Value} {R : Ending → World → Prop} {lo : Nat} : ∀ (Ds : List Nat) (w : World), Ds.Nodup → (∀ D ∈ Ds, lo ≤ D ∧ w.heap[D]? = some (.deferred (some []))) → (∀ w', Sh lo w w' → ∃ v, (results fn tmps).run P w' = .ok v w' ∧ R (.returned v) w') → LeavesInM F n P fn tmps R (Ds.map mark) .returning w
  | [], w, _, _, h => h w (Sh.refl _ _)
  | D :: Ds, w, hn, hd, h => by
    obtain ⟨hn1, hn2⟩ := List.nodup_cons.1 hn
    have hD := hd D (List.mem_cons_self)
    refine ⟨by simp, .inl ⟨D, _, rfl, run_takeDeferred hD.2, ?_⟩⟩
    refine leaves_marks Ds _ hn2 (fun E hE => ⟨(hd E (List.mem_cons_of_mem _ hE)).1, ?_⟩) fun w' hs => h w' ?_
    · rw [World.putObj_heap_other (by rintro rfl; exact hn1 hE)]
      exact (hd E (List.mem_cons_of_mem _ hE)).2
    · have hz : (w.putObj D (.deferred none)).heap.size = w.heap.size := by simp [World.putObj]
      refine ⟨hs.os, hs.tape, hs.output, hs.size.trans hz, fun b hb => ?_⟩
      have hbD : b ≠ D := by
        rintro rfl
        rcases hb with q | ⟨cs, t, fr, q⟩
        · omega
        · rw [hD.2] at q; cases q
      rw [hs.block b, World.putObj_heap_other hbD]
      rcases hb with q | ⟨cs, t, fr, q⟩
      · exact .inl q
      · exact .inr ⟨cs, t, fr, by rw [World.putObj_heap_other hbD]; exact q⟩
theorem putObj_belowB {D l : Nat} {A B : World} (h : Below D A B) (hl : D ≤ l) (o : Obj) : Below D A (B.putObj l o) :=
  ⟨h.os, h.tape, h.output, by simpa [World.putObj] using h.size, fun b hb => (World.putObj_heap_other (by omega)).trans (h.block b hb)⟩
theorem own_block_row {base : Nat} {e : TypeId} {k : Nat} {g n cap : Nat} {xs : List Value} {w : World} (h : w.ownsRow base e k (.slice (some ⟨g, 0, none⟩) n cap) n xs) : ∃ cur, w.heap[g]? = some (.cells cur e (0, 0)) := by
  rcases h.2 with ⟨h', _⟩ | ⟨g', cap', cur, h', hb, hg, _⟩
  · simp at h'
  · simp only [Value.slice.injEq, Option.some.injEq, Addr.mk.injEq, and_true, true_and] at h'
    obtain ⟨rfl, _⟩ := h'
    exact ⟨cur, hg⟩
theorem own_otherB {base : Nat} {e : TypeId} {k : Nat} {g n cap : Nat} {xs : List Value} {w w' : World} (h : w.ownsRow base e k (.slice (some ⟨g, 0, none⟩) n cap) n xs) (hb : w'.heap[g]? = w.heap[g]?) : w'.ownsRow base e k (.slice (some ⟨g, 0, none⟩) n cap) n xs := by
  refine ⟨h.1, ?_⟩
  rcases h.2 with ⟨a, b⟩ | ⟨g', cap', cur, h0, hlo, hg, r⟩
  · exact .inl ⟨a, b⟩
  · have h1 := h0
    simp only [Value.slice.injEq, Option.some.injEq, Addr.mk.injEq, and_true, true_and] at h1
    obtain ⟨rfl, _⟩ := h1
    exact .inr ⟨g, cap', cur, h0, hlo, hb.trans hg, r⟩
theorem ne_of_kind {W : World} {b l : Nat} {cs : Array Value} {t : TypeId} {fr : Nat × Nat} {o' : Obj} (h : W.heap[b]? = some (.cells cs t fr)) (ho : W.heap[l]? = some o') (hc : o'.isCells = false) : b ≠ l := by
  rintro rfl
  rw [h] at ho; cases ho; cases hc
theorem one_newsB (w : World) (A : Value) (t : TypeId) (j : Nat) (u : Value) (hj : [A][j]? = some u) : (w.alloc (.cells #[A] t)).cell? ((⟨w.heap.size, 0, none⟩ : Addr).add j) = some u := by
  rcases j with _ | j
  · cases hj
    exact cell_of_row _ w.heap.size 0 _ t (0, 0) (heap_alloc_new w _)
  · simp at hj
theorem wpListIn_append_liesL {F : Fence} {n : Nat} {P : Program} (w : World) {ops : Array Oper} {rest : List Oper} {o : Oper} {a : Act} {Q : Exit → Act → World → Prop}
    (hg : o.guard = none) (s x : Operand) (t : TypeId) (hop : o.op = Op.call { callee := Callee.builtin Builtin.append, args := #[s, x], argTypes := #[t, t] })
    (base : Nat) (e : TypeId) (i : TypeInfo) (z : Value) (size bytes : Nat) (h1 : P.underlying t = some (.slice e)) (h2 : P.info? e = some i) (h3 : i.zero = some z) (h4 : i.size = size) (h5 : i.bytes = bytes) (h6 : z.cells.size = size) (h7 : 0 < size)
    (v : Value) (k : Nat) (xs : List Value) (hs : a.eval s = v) (hown : w.ownsRow base e size v k xs) (ad : Addr) (m c : Nat) (news : List Value) (hx : a.eval x = .slice (some ad) m c) (hn : news.length = m * size)
    (hc : ∀ j u, news[j]? = some u → w.cell? (ad.add j) = some u) (h1c : ∀ u ∈ news, u.oneCell' = true) (hm : 0 < m) (b1 : k + m ≤ maxLen) (b2 : (k + m) * bytes ≤ 140737488355328) (b3 : base ≤ w.heap.size) (H : Nat) (hH : w.heap.size = H)
    (hK : ∀ g cap w', w'.ownsRow base e size (.slice (some ⟨g, 0, none⟩) (k + m) cap) (k + m) (xs ++ news) → w.grownBy w' v.ownBlock → (v.ownBlock = some g ∨ g = H) → g < w'.heap.size → wpListIn F n P ops Q rest (a.put o.dst (.slice (some ⟨g, 0, none⟩) (k + m) cap)) w') :
    wpListIn F n P ops Q (o :: rest) a w := by
  refine wpListIn_plain hg fun K hK' => ?_
  obtain ⟨g, cap, w', hrun, r1, r2, r3, r4⟩ := run_append_lies (P := P) w t o.type base e i z size bytes h1 h2 h3 h4 h5 h6 h7 v k xs hown ad m c news hn hc h1c hm b1 b2 b3 H hH
  unfold Oper.wpIn
  refine ⟨?_, ?_⟩
  · simp [Oper.about, hop, resolve, Target.leads, Sem.run_pure]
  · rw [Oper.semAt_plain F _ _ (by rw [hop]; intro c hc'; cases hc')]
    simp [execOp, hop, resolve, invoke, builtin, hs, hx, hrun, Result.andThen]
    exact hK' _ _ (hK g cap w' r1 r2 r3 r4)
theorem SetAt.keep {W W' : World} {bx g k c : Nat} {ws : List Nat} (h : SetAt W bx g k c ws) (hb : ∀ (p : Addr) (v : Value), W.cell? p = some v → (p.block = bx ∨ p.block = g ∨ p.block = 0) → W'.cell? p = some v) : SetAt W' bx g k c ws :=
  ⟨hb _ _ h.1 (.inl rfl), fun i hi => hb _ _ (h.2.1 i hi) (.inr (.inl rfl)), fun j hj => hb _ _ (h.2.2 j hj) (.inr (.inr rfl))⟩
theorem cell_putObj {W : World} {p : Addr} {v : Value} {r : Nat} {o o' : Obj} (h : W.cell? p = some v) (ho : W.heap[r]? = some o') (hc : o'.isCells = false) : (W.putObj r o).cell? p = some v := by
  obtain ⟨ob, h1, h2⟩ := cells_of_cell h
  have hne : p.block ≠ r := fun e => by rw [e, ho] at h1; cases h1; rw [hc] at h2; cases h2
  rw [← h]
  simp only [World.cell?, World.putObj_heap_other hne]
theorem SetAt.put {W : World} {bx g k c : Nat} {ws : List Nat} (h : SetAt W bx g k c ws) {r : Nat} {o o' : Obj} (ho : W.heap[r]? = some o') (hc : o'.isCells = false) : SetAt (W.putObj r o) bx g k c ws := h.keep fun p v hp _ => cell_putObj hp ho hc
theorem SetAt.later {W W' : World} {bx g k c : Nat} {ws : List Nat} (h : SetAt W bx g k c ws) (hb : Below W.heap.size W W') : SetAt W' bx g k c ws := h.keep fun p v hp _ => (hb.cell (block_lt_of_cell hp)).trans hp
end Go.Proofs.YtcgfgmlfbgbkfaaGreatDoor.W
namespace Go.Proofs.YtcgfgmlfbgbkfaaGreatDoor.W
open Go.RowKit Go.Shelf
attribute [local go_sem] Oper.semAt_some
def natV (l : List Nat) : List Value := l.map fun n : Nat => Value.int .i64 (n : Int)
structure AS (lo : Nat) (w : World) (bs bx g k c : Nat) (ws : List Nat) (acc : List Nat) (gq cq : Nat) (W : World) : Prop where
  bel : Below lo w W
  st : SetAt W bx g k c ws
  box : W.heap[bs]? = some (.cells #[.slice (some ⟨gq, 0, none⟩) acc.length cq] 22 (0, 0))
  own : W.ownsRow lo 3 1 (.slice (some ⟨gq, 0, none⟩) acc.length cq) acc.length (natV acc)
  n1 : gq ≠ bs ∧ gq ≠ bx ∧ gq ≠ g ∧ gq ≠ 0
  n2 : bs ≠ bx ∧ bs ≠ g ∧ bs ≠ 0
  lt : bs < W.heap.size ∧ bx < W.heap.size ∧ g < W.heap.size ∧ 0 < W.heap.size
  los : lo ≤ bs
theorem AS.put {lo : Nat} {w : World} {bs bx g k c : Nat} {ws acc : List Nat} {gq cq : Nat} {W : World} (h : AS lo w bs bx g k c ws acc gq cq W) {r : Nat} {o o' : Obj} (hr : lo ≤ r) (ho : W.heap[r]? = some o') (hc : o'.isCells = false) : AS lo w bs bx g k c ws acc gq cq (W.putObj r o) := by
  obtain ⟨cur, hcur⟩ := own_block_row h.own
  refine ⟨putObj_belowB h.bel hr _, h.st.put ho hc, (World.putObj_heap_other (ne_of_kind h.box ho hc)).trans h.box, own_otherB h.own (World.putObj_heap_other (ne_of_kind hcur ho hc)), h.n1, h.n2, ?_, h.los⟩
  have hz : (W.putObj r o).heap.size = W.heap.size := by simp [World.putObj]
  rw [hz]; exact h.lt
theorem AS.keep {lo : Nat} {w : World} {bs bx g k c : Nat} {ws acc : List Nat} {gq cq : Nat} {W W' : World} (h : AS lo w bs bx g k c ws acc gq cq W) (hlo : lo ≤ W.heap.size) (hb : Below W.heap.size W W') : AS lo w bs bx g k c ws acc gq cq W' := by
  obtain ⟨cur, hcur⟩ := own_block_row h.own
  have := h.lt
  have := hb.size
  exact ⟨h.bel.trans (hb.mono hlo), h.st.later hb, (hb.block _ h.lt.1).trans h.box, own_otherB h.own (hb.block _ (Array.getElem?_eq_some_iff.1 hcur).1), h.n1, h.n2, by omega, h.los⟩
theorem AS.grow {lo : Nat} {w : World} {bs bx g k c : Nat} {ws acc : List Nat} {gq cq : Nat} {W W1 y : World} {q g2 c2 : Nat} (h : AS lo w bs bx g k c ws acc gq cq W) (hlo : lo ≤ W.heap.size) (hb : Below W.heap.size W W1) (hown : y.ownsRow lo 3 1 (.slice (some ⟨g2, 0, none⟩) (acc.length + 1) c2) (acc.length + 1) (natV acc ++ [.int .i64 (q : Int)])) (hgr : W1.grownBy y (some gq)) (hli : gq = g2 ∨ g2 = W1.heap.size) : AS lo w bs bx g k c ws (acc ++ [q]) g2 c2 (y.setCell ⟨bs, 0, none⟩ (.slice (some ⟨g2, 0, none⟩) (acc.length + 1) c2)) := by
  have h1 := h.keep hlo hb
  have hlo1 : lo ≤ W1.heap.size := Nat.le_trans hlo hb.size
  have hsz := hgr.size
  have hl := h1.lt
  have hgq := (h1.own.lt gq rfl).2
  have hbx : y.heap[bs]? = some (.cells #[.slice (some ⟨gq, 0, none⟩) acc.length cq] 22 (0, 0)) := (hgr.block bs h1.lt.1 (by have := h1.n1.1; simp; omega)).trans h1.box
  have hlen : (acc ++ [q]).length = acc.length + 1 := by simp
  have hn1 := h1.n1
  have hn2 := h1.n2
  have hg2 : g2 ≠ bs ∧ g2 ≠ bx ∧ g2 ≠ g ∧ g2 ≠ 0 := by rcases hli with e | e <;> omega
  refine ⟨(h1.bel.grown hgr hlo1 (fun k hk => by simp at hk; have := (h1.own.lt gq rfl).1; omega)).setCell h.los _, ?_, ?_, ?_, hg2, hn2, ?_, h.los⟩
  · refine h1.st.keep fun p v hp hpb => ?_
    have hne : p.block ≠ bs := by rcases hpb with e | e | e <;> rw [e] <;> omega
    have hne2 : p.block ≠ gq := by rcases hpb with e | e | e <;> rw [e] <;> omega
    have hlt := block_lt_of_cell hp
    rw [← hp]
    simp only [World.cell?]
    rw [heap_setCell_other y ⟨bs, 0, none⟩ p.block _ hne, hgr.block p.block hlt (by simp; exact hne2)]
  · rw [heap_setCell_same y bs 0 _ 22 _ hbx, hlen]; rfl
  · rw [hlen, show natV (acc ++ [q]) = natV acc ++ [.int .i64 (q : Int)] from by simp [natV]]
    exact own_otherB hown (heap_setCell_other y ⟨bs, 0, none⟩ g2 _ hg2.1)
  · have e : (y.setCell ⟨bs, 0, none⟩ (.slice (some ⟨g2, 0, none⟩) (acc.length + 1) c2)).heap.size = y.heap.size := by simp
    rw [e]; omega
def AsSaid (lo : Nat) (w : World) (ws : List Nat) (e : Ending) (w' : World) : Prop := ∃ gq cq, e = .returned (.slice (some ⟨gq, 0, none⟩) (Pl.allW ws).length cq) ∧ w'.ownsRow lo 3 1 (.slice (some ⟨gq, 0, none⟩) (Pl.allW ws).length cq) (Pl.allW ws).length (natV (Pl.allW ws)) ∧ Below lo w w'
set_option maxHeartbeats 8000000 in
set_option maxRecDepth 100000 in
theorem appendSeq_is {lo : Nat} (bx g k c gd cd : Nat) (ws : List Nat) (hs : Pl.smallW ws) (hk : ws.length = k) (hk2 : k ≤ 1000) (w : World) (hst : SetAt w bx g k c ws) (hlo : lo ≤ w.heap.size) (hd : w.ownsRow lo 3 1 (.slice (some ⟨gd, 0, none⟩) 0 cd) 0 []) (hn : gd ≠ bx ∧ gd ≠ g ∧ gd ≠ 0) (hlt : bx < w.heap.size ∧ g < w.heap.size ∧ 0 < w.heap.size) :
    Calls Tryz.prog 67 #[.slice (some ⟨gd, 0, none⟩) 0 cd, .func (.func 99) #[] #[.pointer (some ⟨bx, 0, none⟩)]] w fun e w' => AsSaid lo w ws e w' := by
  have H0 : Hid (Pl.smallW ws ∧ ws.length = k) := ⟨hs, hk⟩
  have hla : (Pl.allW ws).length ≤ 64000 := by
    unfold Pl.allW
    exact Nat.le_trans (List.length_filter_le _ _) (by rw [List.length_range]; omega)
  have HAL : Hid ((Pl.allW ws).length ≤ 64000) := hla
  obtain ⟨V, hV⟩ : ∃ V, V = w.alloc (.cells #[.slice (some ⟨gd, 0, none⟩) 0 cd] 22) := ⟨_, rfl⟩
  have hBV : Below w.heap.size w V := by rw [hV]; exact below_alloc _ _
  have hVz : V.heap.size = w.heap.size + 1 := by rw [hV]; simp
  have HAS : Hid (∀ A, Below V.heap.size V A → AS lo w w.heap.size bx g k c ws [] gd cd A) := fun A hA => by
    have hg : gd < w.heap.size := (hd.lt gd rfl).2
    have h0 : AS lo w w.heap.size bx g k c ws [] gd cd V := by
      refine ⟨hBV.mono hlo, hst.later hBV, by rw [hV]; exact heap_alloc_new w _, ?_, by omega, by omega, by omega, hlo⟩
      exact own_otherB hd (hBV.block _ hg)
    exact h0.keep (by omega) hA
  have HVZ : Hid (V.heap.size = w.heap.size + 1 ∧ lo ≤ w.heap.size) := ⟨hVz, hlo⟩
  clear hst hd hn hlt hs hk hla
  refine (callsIn_wide (n := 4)).1 ?_
  refine callsIn_of_wp_marks Tryz.func67 rfl trivial ?_ rfl
  simp only [Tryz.ntmps67, List.size_toArray, List.length_cons, List.length_nil, Nat.reduceAdd, Nat.reduceSub, Array.replicate_succ, Array.replicate_zero, List.push_toArray, List.append_toArray, List.nil_append, List.cons_append]
  gi_wp2
  rw [← hV]
  clear hV hBV hVz
  refine rangeI_is 4 bx (by decide) rfl rfl g k c ws H0.out.1 H0.out.2 (by omega) (fun acc A => ∃ gq cq, AS lo w w.heap.size bx g k c ws acc gq cq A) (fun _ => False) ?hJ ?h0 ?hIp ?hIxp (fun q A a' A' => a' = { tmps := #[.slice (some ⟨gd, 0, none⟩) 0 cd, .func (.func 99) #[] #[.pointer (some ⟨bx, 0, none⟩)], .pointer (some ⟨w.heap.size, 0, none⟩), undef, .slice none 0 0, .int .i64 (q : Int), .func (.func 99) #[] #[.pointer (some ⟨bx, 0, none⟩)], .int .i64 (q : Int), undef, undef, undef, undef, undef], defers := [] } ∧ A' = A) ?hassign ?hbody ?hdone ?hstop
  case hJ => rintro acc A ⟨gq, cq, h⟩; exact h.st
  case h0 => intro A hA _; exact ⟨gd, cd, HAS.out A hA⟩
  case hIp => rintro acc A r o o' ⟨gq, cq, h⟩ h1 h2 h3 h4; exact ⟨gq, cq, h.put (by have := HVZ.out; omega) h3 h4⟩
  case hIxp => intro A r o o' h; exact h.elim
  case hassign =>
    intro r q A K hK
    gi_wp2
    exact hK _ _ (Below.refl _ _) ⟨rfl, rfl⟩
  case hbody =>
    rintro r acc q rest A a' A1 o hacc hr1 hr2 ⟨gq, cq, has⟩ hbk hb1 ⟨rfl, rfl⟩
    obtain ⟨o', ho', hoc⟩ := hbk r hr1 hr2
    have hasU := has.put (o := o) (by have := HVZ.out; omega) ho' hoc
    have HBK : Hid (∀ b, V.heap.size ≤ b → b < V.heap.size + 2 → ∃ o', (A1.putObj r o).heap[b]? = some o' ∧ b ≠ gq ∧ b ≠ w.heap.size) := fun b h1 h2 => by
      obtain ⟨o2, q1, q2⟩ := hbk b h1 h2
      obtain ⟨cur, hcur⟩ := own_block_row has.own
      have e1 : b ≠ gq := (ne_of_kind hcur q1 q2).symm
      have e2 : b ≠ w.heap.size := by have := HVZ.out; omega
      by_cases e : b = r
      · subst e; exact ⟨o, World.putObj_heap_same (Array.getElem?_eq_some_iff.1 q1).1, e1, e2⟩
      · exact ⟨o2, (World.putObj_heap_other e).trans q1, e1, e2⟩
    obtain ⟨U, hU⟩ : ∃ U, U = A1.putObj r o := ⟨_, rfl⟩
    rw [← hU] at hasU HBK ⊢
    have HU : Hid (AS lo w w.heap.size bx g k c ws acc gq cq U) := hasU
    have t2 : U.cell? ⟨w.heap.size, 0, none⟩ = some (.slice (some ⟨gq, 0, none⟩) acc.length cq) := cell_of_row U _ 0 _ 22 (0, 0) hasU.box
    have hbU : w.heap.size < U.heap.size := hasU.lt.1
    have hal : acc.length < 64000 := by
      have := HAL.out
      rw [← hacc] at this
      simp only [List.length_append, List.length_cons] at this
      omega
    obtain ⟨m, hm⟩ : ∃ m, m = acc.length := ⟨_, rfl⟩
    have HM : Hid (m = acc.length) := hm
    have HOW0 : Hid (U.ownsRow lo 3 1 (.slice (some ⟨gq, 0, none⟩) m cq) m (natV acc)) := by rw [hm]; exact hasU.own
    rw [← hm] at t2 hal
    obtain ⟨i0, hi0, hz0, hz1, hz2⟩ := info_parts Tryz.infoi64
    have HI : Hid (Tryz.prog.info? 3 = some i0 ∧ i0.zero = some (.int .i64 0) ∧ i0.size = 1 ∧ i0.bytes = 8) := ⟨hi0, hz0, hz1, hz2⟩
    clear has hasU hU hbk hb1 ho' hm hi0 hz0 hz1 hz2 hacc HAS HAL
    gi_wp2_with (gi_at_builtin; refine wpListIn_append_liesL _ rfl (.tmp 8) (.tmp 10) 22 rfl lo 3 i0 (.int .i64 0) 1 8 Tryz.underlying22 HI.out.1 HI.out.2.1 HI.out.2.2.1 HI.out.2.2.2 rfl (by decide) (.slice (some ⟨gq, 0, none⟩) m cq) m (natV acc) rfl (World.ownsRow.alloc HOW0.out _) ⟨U.heap.size, 0, none⟩ 1 1 [.int .i64 (q : Int)] rfl rfl (one_newsB U _ _) (by intro u hu; simp at hu; subst hu; rfl) (by decide) (by unfold maxLen; omega) (by omega) (by have := HVZ.out; simp; omega) (U.heap.size + 1) (by simp) ?_; intro g2 c2 y2 hown hgr hli hlt2; have HOW : Hid _ := hown; have HGR : Hid _ := hgr; have HLI : Hid _ := hli; have t2' : y2.cell? ⟨w.heap.size, 0, none⟩ = some (.slice (some ⟨gq, 0, none⟩) m cq) := by { have b := (hgr.block w.heap.size (by simp; omega) (by simp only [Value.ownBlock, ne_eq, Option.some.injEq]; exact fun e => HU.out.n1.1 e.symm)); simp only [World.cell?] at t2 ⊢; rw [b]; rw [Below.heap_alloc _ _ _ hbU]; exact t2 }; have f2' : y2.frozen? ⟨w.heap.size, 0, none⟩ = false := by { have b := (hgr.block w.heap.size (by simp; omega) (by simp only [Value.ownBlock, ne_eq, Option.some.injEq]; exact fun e => HU.out.n1.1 e.symm)); rw [Below.heap_alloc _ _ _ hbU, HU.out.box] at b; exact frozen_of_row y2 _ 0 _ 22 b }; clear hown hgr hli hlt2)
    refine ⟨fun b h1 h2 => ?_, g2, c2, ?_⟩
    · obtain ⟨o2, q1, q2, q3⟩ := HBK.out b h1 h2
      have hb := (Array.getElem?_eq_some_iff.1 q1).1
      rw [heap_setCell_other y2 ⟨w.heap.size, 0, none⟩ b _ q3, HGR.out.block b (by simp; omega) (by simp only [Value.ownBlock, ne_eq, Option.some.injEq]; exact q2), Below.heap_alloc _ _ _ hb]
    · have hm := HM.out
      subst hm
      exact HU.out.grow (by have := HVZ.out; omega) (below_alloc U _) HOW.out HGR.out (by rcases HLI.out with e | e; exact .inl (by simpa [Value.ownBlock] using e); exact .inr (by simpa using e))
  case hdone =>
    rintro A ⟨gq, cq, has⟩ hD
    have t2 : A.cell? ⟨w.heap.size, 0, none⟩ = some (.slice (some ⟨gq, 0, none⟩) (Pl.allW ws).length cq) := cell_of_row A _ 0 _ 22 (0, 0) has.box
    have HA : Hid (AS lo w w.heap.size bx g k c ws (Pl.allW ws) gq cq A) := has
    have HD : Hid (A.heap[V.heap.size]? = some (.deferred (some []))) := hD
    clear has hD HAS
    gi_wp2
    refine leaves_marks (lo := w.heap.size) [V.heap.size] A (by simp) (fun D hD => ?_) fun w' hs => ?_
    · rw [List.mem_singleton] at hD; subst hD; exact ⟨by have := HVZ.out; omega, HD.out⟩
    · refine ⟨_, results_tmp rfl _ _ _, gq, cq, rfl, ?_, ?_⟩
      · obtain ⟨cur, hcur⟩ := own_block_row HA.out.own
        exact own_otherB HA.out.own (hs.block _ (.inr ⟨_, _, _, hcur⟩))
      · have hb := HA.out.bel
        exact ⟨hs.os.trans hb.os, hs.tape.trans hb.tape, hs.output.trans hb.output, by rw [hs.size]; exact hb.size, fun b h => (hs.block b (.inl (by omega))).trans (hb.block b h)⟩
  case hstop => intro A h; exact h.elim
end Go.Proofs.YtcgfgmlfbgbkfaaGreatDoor.W
namespace Go.Proofs.YtcgfgmlfbgbkfaaGreatDoor.W
open Go.RowKit
def LstMk (g k c m j n : Nat) (u5 u10 u11 u12 u13 u14 u15 u16 : Value) (H B G cp : Nat) (L : Array Bool) : Act := { tmps := #[.slice (some ⟨g, 0, none⟩) k c, undef, sld (.slice none 0 0) L 5 (.slice (some ⟨G, 0, none⟩) n cp), .int .i64 (m : Int), undef, u5, .slice (some ⟨g, 0, none⟩) k c, .int .i64 (k : Int), .int .i64 (j : Int), .bool false, u10, u11, u12, u13, u14, u15, u16, sld undef L 0 (.int .i64 (m : Int)), sld undef L 1 (.slice (some ⟨H, 0, none⟩) 0 m), sld undef L 2 (.slice (some ⟨g, 0, none⟩) k c), sld undef L 3 (.func (.func 99) #[] #[.pointer (some ⟨B, 0, none⟩)]), sld undef L 4 (.slice (some ⟨G, 0, none⟩) n cp)], defers := [] }
def LstW (y : World) (ws : List Nat) (g k c m n H B G cp : Nat) (L : Array Bool) (w : World) : Prop :=
  (up L 4 = false → Below y.heap.size y w ∧ (up L 1 = true → y.heap.size ≤ H ∧ w.ownsRow y.heap.size 3 1 (.slice (some ⟨H, 0, none⟩) 0 m) 0 []) ∧ (up L 3 = true → y.heap.size ≤ B ∧ B < w.heap.size ∧ w.cell? ⟨B, 0, none⟩ = some (.slice (some ⟨g, 0, none⟩) k c)) ∧ (up L 1 = true → up L 3 = true → H ≠ B)) ∧ (up L 4 = true → w.ownsRow y.heap.size 3 1 (.slice (some ⟨G, 0, none⟩) n cp) n (natV (Pl.allW ws)) ∧ Below y.heap.size y w)
theorem LstW.keep {y : World} {ws : List Nat} {g k c m n H B G cp : Nat} {L : Array Bool} {w : World} (h : LstW y ws g k c m n H B G cp L w) {i : Nat} (hi : i < L.size) (n1 : i ≠ 1) (n3 : i ≠ 3) (n4 : i ≠ 4) : LstW y ws g k c m n H B G cp (L.setIfInBounds i true) w := by
  unfold LstW at h ⊢
  rw [up_set hi, up_set hi, up_set hi, if_neg n1, if_neg n3, if_neg n4]
  exact h
theorem LstW.make {y : World} {ws : List Nat} {g k c m n H B G cp : Nat} {L : Array Bool} {w : World} {cs : Array Value} (hi : 1 < L.size) (n4 : up L 4 = false) (h : LstW y ws g k c m n H B G cp L w) (hm : m ≤ 1000000) (hcs : cs.size = m * 1) (hz : True) : LstW y ws g k c m n w.heap.size B G cp (L.setIfInBounds 1 true) (w.alloc (.cells cs 3)) := by
  obtain ⟨hb, _, h3, _⟩ := h.1 n4
  unfold LstW
  rw [show up (L.setIfInBounds 1 true) 4 = up L 4 from (up_set hi 4).trans (if_neg (by decide)), show up (L.setIfInBounds 1 true) 3 = up L 3 from (up_set hi 3).trans (if_neg (by decide)), show up (L.setIfInBounds 1 true) 1 = true from (up_set hi 1).trans (if_pos rfl)]
  refine ⟨fun _ => ⟨hb.alloc hb.size _, fun _ => ⟨hb.size, World.ownsRow_made w cs m hb.size (by unfold maxLen; omega) hcs⟩, fun q => ?_, fun _ q => by have := (h3 q).2.1; omega⟩, fun q => absurd (q.symm.trans n4) (by decide)⟩
  obtain ⟨a1, a2, a3⟩ := h3 q
  exact ⟨a1, by simp; omega, ((below_alloc w _).cell (p := ⟨B, 0, none⟩) a2).trans a3⟩
theorem LstW.all {y : World} {ws : List Nat} {g k c m n H B G cp : Nat} {L : Array Bool} {w : World} (hi : 3 < L.size) (n4 : up L 4 = false) (h : LstW y ws g k c m n H B G cp L w) : LstW y ws g k c m n H w.heap.size G cp (L.setIfInBounds 3 true) (w.alloc (.cells #[.slice (some ⟨g, 0, none⟩) k c] 65)) := by
  obtain ⟨hb, h1, _, _⟩ := h.1 n4
  unfold LstW
  rw [show up (L.setIfInBounds 3 true) 4 = up L 4 from (up_set hi 4).trans (if_neg (by decide)), show up (L.setIfInBounds 3 true) 1 = up L 1 from (up_set hi 1).trans (if_neg (by decide)), show up (L.setIfInBounds 3 true) 3 = true from (up_set hi 3).trans (if_pos rfl)]
  refine ⟨fun _ => ⟨hb.alloc hb.size _, fun q => ⟨(h1 q).1, (h1 q).2.alloc _⟩, fun _ => ⟨hb.size, by simp, ?_⟩, fun q _ => by have := ((h1 q).2.lt H rfl).2; omega⟩, fun q => absurd (q.symm.trans n4) (by decide)⟩
  exact cell_of_row _ w.heap.size 0 _ 65 (0, 0) (heap_alloc_new w _)
set_option maxHeartbeats 8000000 in
set_option maxRecDepth 100000 in
theorem list_is {lo : Nat} (g k c : Nat) (ws : List Nat) (hs : Pl.smallW ws) (hk : ws.length = k) (hk2 : k ≤ 1000) (w : World) (ho : w.ownsRow lo 110 1 (.slice (some ⟨g, 0, none⟩) k c) k (Pl.wsV ws)) (hT : TabT w) : Calls Tryz.prog 34 #[.slice (some ⟨g, 0, none⟩) k c] w fun e w' => AsSaid w.heap.size w ws e w' := by
  have H0 : Hid (Pl.smallW ws ∧ ws.length = k ∧ w.ownsRow lo 110 1 (.slice (some ⟨g, 0, none⟩) k c) k (Pl.wsV ws) ∧ TabT w) := ⟨hs, hk, ho, hT⟩
  clear hs hk ho hT
  have hkm : (k : Int) ≤ 1000 := by omega
  go_enter Tryz.func34, Tryz.ntmps34
  go_wp2_with fail
  go_loopw [3, 8] (fun z t wr => wr = w ∧ ∃ (j m : Nat), j ≤ k ∧ t = .int .i64 (j : Int) ∧ z = .int .i64 (m : Int) ∧ m ≤ 127 * j) (fun _ t _ => k - (intOf t).toNat)
  case atStart => exact ⟨rfl, 0, 0, Nat.zero_le _, rfl, rfl, Nat.zero_le _⟩
  case round =>
    obtain ⟨rfl, j, m, hj, rfl, rfl, hm⟩ := hrel
    have hmm : (m : Int) ≤ 127000 := by omega
    by_cases hlt : j < k
    · have hji : (j : Int) < (k : Int) := by omega
      have cz : wr.cell? ⟨g, j, none⟩ = some (.int .u64 ((ws.getD j 0 : Nat) : Int)) := by rw [H0.out.2.2.1.cellAt j (by omega)]; exact Pl.wsV_at ws _ (by have := H0.out.2.1; omega)
      generalize ws.getD j 0 = x at cz
      go_wp2_with (go_at_call 66; refine (onesCount_is _ _).mono ?_; rintro e z1 ⟨⟨q, hq, rfl⟩, g1⟩; rw [g1]; clear g1 z1)
      go_roundw
      case rel => exact ⟨by trivial, j + 1, m + q, by omega, by go_num, by go_num, by omega⟩
      case measure => simp [intOf]; omega
    · have hji : ¬ ((j : Int) < (k : Int)) := by omega
      obtain ⟨i0, hi0, hz0, hz1, hz2⟩ := info_parts Tryz.infoi64
      have hmk : ∀ u : World, (Instr.makeSlice 22 (.int .i64 0) (.int .i64 (m : Int))).run Tryz.prog u = .ok (.slice (some ⟨u.heap.size, 0, none⟩) 0 m) (u.alloc (.cells (madeCells (Value.int .i64 0).cells (m * 1)) 3)) := fun u => by
        have := run_makeSlice u 22 3 i0 _ Tryz.underlying22 hi0 hz0 .i64 .i64 0 (m : Int) (by omega) (by omega) (by rw [hz1]; simp; omega) (by rw [hz2]; omega) (by omega)
        rw [hz1] at this
        simpa using this
      obtain ⟨cs, hcs0⟩ : ∃ cs, cs = madeCells (Value.int .i64 0).cells (m * 1) := ⟨_, rfl⟩
      have hcs : cs.size = m * 1 := by rw [hcs0]; simp [madeCells, Value.cells]
      rw [← hcs0] at hmk
      obtain ⟨n, hn⟩ : ∃ n, n = (Pl.allW ws).length := ⟨_, rfl⟩
      have HN : Hid (n = (Pl.allW ws).length) := hn
      have hm2 : m ≤ 1000000 := by omega
      have HLT : Hid (g < wr.drew.heap.size ∧ 0 < wr.drew.heap.size) := ⟨(H0.out.2.2.1.lt g rfl).2, block_lt_of_cell (H0.out.2.2.2 0 (by decide))⟩
      have HSA : Hid (∀ (u : World) (B : Nat), Below wr.drew.heap.size wr.drew u → u.cell? ⟨B, 0, none⟩ = some (.slice (some ⟨g, 0, none⟩) k c) → SetAt u B g k c ws) := fun u B hb hB => by
        refine ⟨hB, fun i hi => ?_, H0.out.2.2.2.keep HLT.out.2 ((Below.drew (Below.refl _ _)).trans hb)⟩
        have := (((Below.drew (Below.refl wr.heap.size wr)).trans hb).cell (p := ⟨g, i, none⟩) HLT.out.1)
        rw [this, H0.out.2.2.1.cellAt i (by omega)]
        exact Pl.wsV_at ws _ (by have := H0.out.2.1; omega)
      clear hcs0 hn hi0 hz0 hz1 hz2
      go_upto_region 7 with fail
      refine wp_region_any (by kernel_rfl) ?_
      change wpAny _ _ _ _ _ _ _ (World.drew _)
      refine wpAny_inw (fun L a w => ∃ H B G cp, a = LstMk g k c m j n u5 u10 u11 u12 u13 u14 u15 u16 H B G cp L ∧ LstW wr.drew ws g k c m n H B G cp L w) ?done (by kernel_rfl) ?step _ 6 _ _ (by kernel_rfl) ?init (by decide)
      case init => exact ⟨0, 0, 0, 0, by simp only [LstMk, sld_no (up_init _ _)], fun _ => ⟨Below.refl _ _, fun q => absurd (q.symm.trans (up_init _ _)) (by decide), fun q => absurd (q.symm.trans (up_init _ _)) (by decide), fun q => absurd (q.symm.trans (up_init _ _)) (by decide)⟩, fun q => absurd (q.symm.trans (up_init _ _)) (by decide)⟩
      case step =>
        intro L act w i o hI hlt hs nl hC hd ho K hK
        obtain ⟨H, B, G, cp, rfl, hW⟩ := hI
        have hi_lt : i < 6 := (Array.getElem?_eq_some_iff.1 ho).1
        rcases (show i = 0 ∨ i = 1 ∨ i = 2 ∨ i = 3 ∨ i = 4 ∨ i = 5 by omega) with rfl | rfl | rfl | rfl | rfl | rfl
        · change some _ = some o at ho
          cases ho
          simp only [LstMk]
          go_simp
          exact hK _ _ ⟨H, B, G, cp, by simp only [LstMk, sld_set hlt, reduceIte, Nat.reduceEqDiff]; try rfl, (hW.keep hlt (by decide) (by decide) (by decide))⟩
        · change some _ = some o at ho
          cases ho
          have q0 : up L 0 = true := (by first | exact hd { on := 0, ground := .data } (by simp) rfl | exact hd { on := 0, ground := .chain } (by simp) rfl | exact hd { on := 0, ground := .phase } (by simp) rfl)
          have n4 : up L 4 = false := hC.no nl 4 rfl (by kernel_rfl)
          obtain ⟨hb, _, h3, _⟩ := hW.1 n4
          simp only [LstMk, sld_yes q0]
          go_simp
          exact hK _ _ ⟨w.heap.size, B, G, cp, by simp only [LstMk, sld_set hlt, sld_yes q0, reduceIte, Nat.reduceEqDiff]; try rfl, LstW.make hlt n4 hW hm2 hcs trivial⟩
        · change some _ = some o at ho
          cases ho
          simp only [LstMk]
          go_simp
          exact hK _ _ ⟨H, B, G, cp, by simp only [LstMk, sld_set hlt, reduceIte, Nat.reduceEqDiff]; try rfl, (hW.keep hlt (by decide) (by decide) (by decide))⟩
        · change some _ = some o at ho
          cases ho
          have q2 : up L 2 = true := (by first | exact hd { on := 2, ground := .data } (by simp) rfl | exact hd { on := 2, ground := .chain } (by simp) rfl | exact hd { on := 2, ground := .phase } (by simp) rfl)
          have n4 : up L 4 = false := hC.no nl 4 rfl (by kernel_rfl)
          simp only [LstMk, sld_yes q2]
          go_simp
          refine (allI_is _ _ _ _).mono ?_
          rintro e z1 ⟨rfl, g1⟩
          rw [g1]
          clear g1 z1
          go_simp
          exact hK _ _ ⟨H, w.heap.size, G, cp, by simp only [LstMk, sld_set hlt, sld_yes q2, reduceIte, Nat.reduceEqDiff]; try rfl, LstW.all hlt n4 hW⟩
        · change some _ = some o at ho
          cases ho
          have q1 : up L 1 = true := (by first | exact hd { on := 1, ground := .data } (by simp) rfl | exact hd { on := 1, ground := .chain } (by simp) rfl | exact hd { on := 1, ground := .phase } (by simp) rfl)
          have q3 : up L 3 = true := (by first | exact hd { on := 3, ground := .data } (by simp) rfl | exact hd { on := 3, ground := .chain } (by simp) rfl | exact hd { on := 3, ground := .phase } (by simp) rfl)
          have n5 : up L 5 = false := hC.no nl 5 rfl (by kernel_rfl)
          obtain ⟨hb, h1, h3, hne⟩ := hW.1 nl
          obtain ⟨hH1, hH2⟩ := h1 q1
          obtain ⟨hB1, hB2, hB3⟩ := h3 q3
          have hHB := hne q1 q3
          have hst := HSA.out w B hb hB3
          have hnn := HLT.out
          have hsz := hb.size
          simp only [LstMk, sld_yes q1, sld_yes q3]
          go_simp
          refine (appendSeq_is B g k c H m ws H0.out.1 H0.out.2.1 (by omega) w hst hsz hH2 ⟨hHB, by omega, by omega⟩ ⟨hB2, by omega, by omega⟩).mono ?_
          rintro e z1 ⟨gq, cq, rfl, hz1, hz2⟩
          rw [← HN.out] at hz1 ⊢
          go_simp
          exact hK _ _ ⟨H, B, gq, cq, by simp only [LstMk, sld_set hlt, sld_yes q1, sld_yes q3, sld_no n5, reduceIte, Nat.reduceEqDiff]; try rfl, ⟨fun q => absurd (q.symm.trans ((up_set hlt _).trans (if_pos rfl))) (by decide), fun _ => ⟨hz1, hb.trans hz2⟩⟩⟩
        · change some _ = some o at ho
          cases ho
          have q4 : up L 4 = true := (by first | exact hd { on := 4, ground := .data } (by simp) rfl | exact hd { on := 4, ground := .chain } (by simp) rfl | exact hd { on := 4, ground := .phase } (by simp) rfl)
          simp only [LstMk, sld_yes q4]
          go_simp
          exact hK _ _ ⟨H, B, G, cp, by simp only [LstMk, sld_set hlt, sld_yes q4, reduceIte, Nat.reduceEqDiff]; try rfl, (hW.keep hlt (by decide) (by decide) (by decide))⟩
      case done =>
        rintro L a w ⟨H, B, G, cp, rfl, hW⟩ hall
        obtain ⟨h1, h2⟩ := hW.2 (hall 4 (by decide))
        simp only [LstMk, sld_yes (hall 0 (by decide)), sld_yes (hall 1 (by decide)), sld_yes (hall 2 (by decide)), sld_yes (hall 3 (by decide)), sld_yes (hall 4 (by decide)), sld_yes (hall 5 (by decide))]
        have HE : Hid (AsSaid wr.heap.size wr ws (.returned (.slice (some ⟨G, 0, none⟩) n cp)) w) := ⟨G, cp, by rw [HN.out], by rw [← HN.out]; exact h1, (Below.drew (Below.refl _ _)).trans h2⟩
        clear h1 h2 hW hall
        go_wp2_with fail
        go_ret
        exact HE.out
end Go.Proofs.YtcgfgmlfbgbkfaaGreatDoor.W
namespace Go.Proofs.YtcgfgmlfbgbkfaaGreatDoor.W
open Go.RowKit
section
variable {F : Fence} {n : Nat} {P : Program} {ops : Array Oper} {Q : Exit → Act → World → Prop} {md : Region.Mode}
theorem wpAnyIn_inn (I : Array Bool → Act → World → Prop)
    (hdone : ∀ L a w, I L a w → (∀ i, i < ops.size → up L i = true) → Q .normal a w)
    (hac : acycM md ops = true)
    (hstep : ∀ (L : Array Bool) (a : Act) (w : World) (i : Nat) (o : Oper), I L a w → i < L.size → L.size = ops.size → up L i = false → Clo md ops L → (∀ e ∈ o.after, Region.binds md e = true → up L e.on = true) → ops[i]? = some o → ∀ K : Act → World → Prop, (∀ a w, I (L.setIfInBounds i true) a w → K a w) → wpOpIn F n P ops Q i K a w) :
    ∀ (fuel : Nat) (L : Array Bool) (a : Act) (w : World), I L a w → Clo md ops L → L.size = ops.size → unl L.toList ≤ fuel → wpAnyIn F n P md ops Q fuel L a w := by
  intro fuel
  induction fuel with
  | zero =>
    intro L a w hI hC hs hu
    have hr : Region.ready md ops L = [] := by
      cases hrr : Region.ready md ops L with
      | nil => rfl
      | cons i rs =>
        have := ready_false hs (i := i) (md := md) (by rw [hrr]; exact List.mem_cons_self)
        exact absurd this (unl_zero _ (by omega) i)
    exact ⟨hr, hdone L a w hI fun i hi => up_of (ready_nil_allM hac hs hr i hi) (by omega)⟩
  | succ fuel ih =>
    intro L a w hI hC hs hu
    refine ⟨fun hr => hdone L a w hI fun i hi => up_of (ready_nil_allM hac hs hr i hi) (by omega), fun i hi => ?_⟩
    obtain ⟨h0, o, ho, hd⟩ := mem_ready.1 hi
    have hlt : i < L.size := by rw [hs]; exact (Array.getElem?_eq_some_iff.1 ho).1
    have hd' : ∀ e ∈ o.after, Region.binds md e = true → up L e.on = true := hd
    refine hstep L a w i o hI hlt hs (up_false h0) hC hd' ho _ fun a' w' h' => ih _ a' w' h' (fun j oj hoj hj e he hb => ?_) (by simpa using hs) ?_
    · rw [up_set hlt] at hj
      by_cases q : i = j
      · subst q
        rw [ho] at hoj
        cases hoj
        exact up_mono hlt (hd' e he hb)
      · rw [if_neg q] at hj
        exact up_mono hlt (hC j oj hoj hj e he hb)
    · have h1 := unl_set L.toList i (ready_false hs hi)
      rw [Array.toList_setIfInBounds]
      omega
theorem unl_replicate (k : Nat) : unl (Array.replicate k false).toList = k := by
  rw [Array.toList_replicate]
  induction k with
  | zero => rfl
  | succ k ih => show unl (false :: List.replicate k false) = k + 1; unfold unl at ih ⊢; rw [List.map_cons, List.sum_cons, ih]; simp; omega
theorem clo_init (k : Nat) : Clo md ops (Array.replicate k false) := fun j o ho hj => by
  rw [up_init] at hj
  cases hj
end
end Go.Proofs.YtcgfgmlfbgbkfaaGreatDoor.W
namespace Go.Proofs.YtcgfgmlfbgbkfaaGreatDoor.W
open Go.RowKit Go.Shelf
attribute [local go_sem] Oper.semAt_some
theorem wpOpIn_of {F : Fence} {n : Nat} {P : Program} {ops : Array Oper} {Q : Exit → Act → World → Prop} {i : Nat} {o : Oper} {K : Act → World → Prop} {a : Act} {w : World} (h : ops[i]? = some o) (hh : if Region.wanted o (yielded ops a.tmps) then o.wpIn F n P a w K Q else (∀ f, o.about P w a.eval = some f → F.fn f) ∧ K (a.put o.dst undef) w) : wpOpIn F n P ops Q i K a w := by
  unfold wpOpIn
  rw [h]
  exact hh
def codeAtG (n : Nat) : Code → Option Code
  | .region m ops d => if m == n then some (.region m ops d) else none
  | .seq a b => match codeAtG n a with
    | some c => some c
    | none => codeAtG n b
  | .block _ c => codeAtG n c
  | .loop c => codeAtG n c
  | .scope c => codeAtG n c
  | .rangeFunc _ _ _ c => codeAtG n c
  | _ => none
noncomputable def lbC (n : Nat) : Code := ((Tryz.f33.body.bind (codeAtG n)).getD .skip)
def Lb5Mk (gr go bs n i R kw : Nat) (c1 c2 c5 c6 c7 c8 c9 c10 c11 c12 c13 c14 c15 c16 c17 c18 c19 c20 c21 c22 c23 c24 c25 c26 c27 c28 c29 c30 c31 c32 c33 c34 c35 c36 c37 c38 c39 c40 c41 c42 c43 c44 c45 c46 c47 c48 c49 c50 c51 c52 : Value) (G : Nat) (L : Array Bool) : Act := { tmps := #[.pointer (some ⟨gr, 0, none⟩), c1, c2, .pointer (some ⟨bs, 0, none⟩), .int .i64 (i : Int), c5, c6, c7, c8, c9, c10, c11, c12, c13, c14, c15, c16, c17, c18, sld c19 L 0 (.slice (some ⟨go, 0, none⟩) n n), sld c20 L 1 (.int .i64 (i : Int)), sld c21 L 2 (.pointer (some ⟨gr, 0, none⟩)), sld c22 L 3 (.pointer (some ⟨gr, 0, none⟩)), sld c23 L 4 (.pointer (some ⟨gr, 0, none⟩)), sld c24 L 5 (.pointer (some ⟨gr, 2, none⟩)), sld c25 L 6 (.int .i64 (R : Int)), sld c26 L 7 (.slice (some ⟨G, 0, none⟩) kw kw), sld c27 L 8 (.pointer (some ⟨go, i, none⟩)), c28, c29, c30, c31, c32, c33, c34, c35, c36, c37, c38, c39, c40, c41, c42, c43, c44, c45, c46, c47, c48, c49, c50, c51, c52], defers := [] }
def Lb5W (y : World) (go i kw G : Nat) (L : Array Bool) (w : World) : Prop := (up L 7 = false → w = y) ∧ (up L 7 = true → ∃ w2 : World, w2.ownsRow y.heap.size 110 1 (.slice (some ⟨G, 0, none⟩) kw kw) kw (Pl.wsV (List.replicate kw 0)) ∧ Below y.heap.size y w2 ∧ (up L 9 = false → w = w2) ∧ (up L 9 = true → w = w2.setCell ⟨go, i, none⟩ (.slice (some ⟨G, 0, none⟩) kw kw)))
theorem Lb5W.keep {y : World} {go i kw G : Nat} {L : Array Bool} {w : World} (h : Lb5W y go i kw G L w) {q : Nat} (hq : q < L.size) (n1 : q ≠ 7) (n2 : q ≠ 9) : Lb5W y go i kw G (L.setIfInBounds q true) w := by
  unfold Lb5W at h ⊢
  rw [up_set hq, up_set hq, if_neg n1, if_neg n2]
  exact h
theorem Lb5W.any {y : World} {go i kw G : Nat} {L : Array Bool} {w : World} (h : Lb5W y go i kw G L w) (nn : up L 9 = false) {p : Addr} {v : Value} (hc : y.cell? p = some v) : w.cell? p = some v := by
  cases e : up L 7
  · rw [h.1 e]; exact hc
  · obtain ⟨w2, _, h2, h3, _⟩ := h.2 e
    rw [h3 nn, h2.cell (block_lt_of_cell hc)]; exact hc
set_option maxRecDepth 100000 in
set_option maxHeartbeats 8000000 in
theorem lb5_is (gr go bs n i R kw : Nat) (y : World) (t3 : y.cell? ⟨bs, 0, none⟩ = some (.slice (some ⟨go, 0, none⟩) n n)) (t2 : y.cell? ⟨gr, 2, none⟩ = some (.int .i64 (R : Int))) {V0 : Value} (ci : y.cell? ⟨go, i, none⟩ = some V0) (fz : ∀ u, Below y.heap.size y u → u.frozen? ⟨go, i, none⟩ = false) (hi : i < n) (hn : n ≤ 8000)
    (HNS : Hid (∀ u : World, Calls Tryz.prog 61 #[.int .i64 (R : Int)] u fun e w' => e = .returned (.slice (some ⟨u.heap.size, 0, none⟩) kw kw) ∧ w'.ownsRow u.heap.size 110 1 (.slice (some ⟨u.heap.size, 0, none⟩) kw kw) kw (Pl.wsV (List.replicate kw 0)) ∧ Below u.heap.size u w')) (c1 c2 c5 c6 c7 c8 c9 c10 c11 c12 c13 c14 c15 c16 c17 c18 c19 c20 c21 c22 c23 c24 c25 c26 c27 c28 c29 c30 c31 c32 c33 c34 c35 c36 c37 c38 c39 c40 c41 c42 c43 c44 c45 c46 c47 c48 c49 c50 c51 c52 : Value) (Q : Exit → Act → World → Prop)
    (hK : ∀ (s19 s20 s21 s22 s23 s24 s25 s26 s27 : Value) (G : Nat) (y' : World), y'.ownsRow y.heap.size 110 1 (.slice (some ⟨G, 0, none⟩) kw kw) kw (Pl.wsV (List.replicate kw 0)) → Below y.heap.size y y' → Q .normal { tmps := #[.pointer (some ⟨gr, 0, none⟩), c1, c2, .pointer (some ⟨bs, 0, none⟩), .int .i64 (i : Int), c5, c6, c7, c8, c9, c10, c11, c12, c13, c14, c15, c16, c17, c18, s19, s20, s21, s22, s23, s24, s25, s26, s27, c28, c29, c30, c31, c32, c33, c34, c35, c36, c37, c38, c39, c40, c41, c42, c43, c44, c45, c46, c47, c48, c49, c50, c51, c52], defers := [] } (y'.setCell ⟨go, i, none⟩ (.slice (some ⟨G, 0, none⟩) kw kw))) :
    (lbC 5).wpIn Fence.wide 4 Tryz.prog Q { tmps := #[.pointer (some ⟨gr, 0, none⟩), c1, c2, .pointer (some ⟨bs, 0, none⟩), .int .i64 (i : Int), c5, c6, c7, c8, c9, c10, c11, c12, c13, c14, c15, c16, c17, c18, c19, c20, c21, c22, c23, c24, c25, c26, c27, c28, c29, c30, c31, c32, c33, c34, c35, c36, c37, c38, c39, c40, c41, c42, c43, c44, c45, c46, c47, c48, c49, c50, c51, c52], defers := [] } y := by
  have HKt : Hid _ := hK
  clear hK
  conv => arg 4; whnf
  have e3 : y.drew.cell? ⟨bs, 0, none⟩ = some (.slice (some ⟨go, 0, none⟩) n n) := t3
  have e2 : y.drew.cell? ⟨gr, 2, none⟩ = some (.int .i64 (R : Int)) := t2
  have ei : y.drew.cell? ⟨go, i, none⟩ = some V0 := ci
  have HFZ : Hid (∀ u, Below y.drew.heap.size y.drew u → u.frozen? ⟨go, i, none⟩ = false) := fun u hu => fz u ((Below.drew (Below.refl _ _)).trans hu)
  clear t3 t2 ci fz
  rename y.drew.cell? ⟨bs, 0, none⟩ = some (.slice (some ⟨go, 0, none⟩) n n) => t3
  rename y.drew.cell? ⟨gr, 2, none⟩ = some (.int .i64 (R : Int)) => t2
  rename y.drew.cell? ⟨go, i, none⟩ = some V0 => ci
  have hii : (i : Int) < (n : Int) := by omega
  have hi8 : (i : Int) ≤ 8000 := by omega
  refine wpIn_region_any (by kernel_rfl) ?_
  change wpAnyIn _ _ _ _ _ _ _ _ _ (World.drew _)
  refine wpAnyIn_inn (fun L ac w => ∃ G, ac = Lb5Mk gr go bs n i R kw c1 c2 c5 c6 c7 c8 c9 c10 c11 c12 c13 c14 c15 c16 c17 c18 c19 c20 c21 c22 c23 c24 c25 c26 c27 c28 c29 c30 c31 c32 c33 c34 c35 c36 c37 c38 c39 c40 c41 c42 c43 c44 c45 c46 c47 c48 c49 c50 c51 c52 G L ∧ Lb5W y.drew go i kw G L w) ?done (by kernel_rfl) ?step 10 _ _ _ ?init (clo_init _) (by kernel_rfl) (by rw [unl_replicate]; exact Nat.le_refl _)
  case init => exact ⟨0, by simp only [Lb5Mk, sld_no (up_init _ _)], fun _ => rfl, fun z => absurd (z.symm.trans (up_init _ _)) (by decide)⟩
  case step =>
    intro L act w i o hI hlt hs nl hC hd ho K hK
    obtain ⟨G, rfl, hW⟩ := hI
    have hi_lt : i < 10 := (Array.getElem?_eq_some_iff.1 ho).1
    rcases (show i = 0 ∨ i = 1 ∨ i = 2 ∨ i = 3 ∨ i = 4 ∨ i = 5 ∨ i = 6 ∨ i = 7 ∨ i = 8 ∨ i = 9 by omega) with rfl | rfl | rfl | rfl | rfl | rfl | rfl | rfl | rfl | rfl
    · change some _ = some o at ho
      cases ho
      have n9 : up L 9 = false := hC.no (hC.no nl 8 rfl (by kernel_rfl)) 9 rfl (by kernel_rfl)
      have cx := hW.any n9 t3
      simp only [Lb5Mk]
      refine wpOpIn_of rfl ?_
      go_simp
      exact hK _ _ ⟨G, by simp only [Lb5Mk, sld_set hlt, reduceIte, Nat.reduceEqDiff]; try rfl, (hW.keep hlt (by decide) (by decide))⟩
    · change some _ = some o at ho
      cases ho
      simp only [Lb5Mk]
      refine wpOpIn_of rfl ?_
      go_simp
      exact hK _ _ ⟨G, by simp only [Lb5Mk, sld_set hlt, reduceIte, Nat.reduceEqDiff]; try rfl, (hW.keep hlt (by decide) (by decide))⟩
    · change some _ = some o at ho
      cases ho
      simp only [Lb5Mk]
      refine wpOpIn_of rfl ?_
      go_simp
      exact hK _ _ ⟨G, by simp only [Lb5Mk, sld_set hlt, reduceIte, Nat.reduceEqDiff]; try rfl, (hW.keep hlt (by decide) (by decide))⟩
    · change some _ = some o at ho
      cases ho
      have q2 : up L 2 = true := (by first | exact hd { on := 2, ground := .data } (by simp) rfl | exact hd { on := 2, ground := .chain } (by simp) rfl | exact hd { on := 2, ground := .phase } (by simp) rfl)
      simp only [Lb5Mk, sld_yes q2]
      refine wpOpIn_of rfl ?_
      go_simp
      exact hK _ _ ⟨G, by simp only [Lb5Mk, sld_set hlt, sld_yes q2, reduceIte, Nat.reduceEqDiff]; try rfl, (hW.keep hlt (by decide) (by decide))⟩
    · change some _ = some o at ho
      cases ho
      have q3 : up L 3 = true := (by first | exact hd { on := 3, ground := .data } (by simp) rfl | exact hd { on := 3, ground := .chain } (by simp) rfl | exact hd { on := 3, ground := .phase } (by simp) rfl)
      simp only [Lb5Mk, sld_yes q3]
      refine wpOpIn_of rfl ?_
      go_simp
      exact hK _ _ ⟨G, by simp only [Lb5Mk, sld_set hlt, sld_yes q3, reduceIte, Nat.reduceEqDiff]; try rfl, (hW.keep hlt (by decide) (by decide))⟩
    · change some _ = some o at ho
      cases ho
      have q4 : up L 4 = true := (by first | exact hd { on := 4, ground := .data } (by simp) rfl | exact hd { on := 4, ground := .chain } (by simp) rfl | exact hd { on := 4, ground := .phase } (by simp) rfl)
      simp only [Lb5Mk, sld_yes q4]
      refine wpOpIn_of rfl ?_
      go_simp
      exact hK _ _ ⟨G, by simp only [Lb5Mk, sld_set hlt, sld_yes q4, reduceIte, Nat.reduceEqDiff]; try rfl, (hW.keep hlt (by decide) (by decide))⟩
    · change some _ = some o at ho
      cases ho
      have q5 : up L 5 = true := (by first | exact hd { on := 5, ground := .data } (by simp) rfl | exact hd { on := 5, ground := .chain } (by simp) rfl | exact hd { on := 5, ground := .phase } (by simp) rfl)
      have n7 : up L 7 = false := hC.no nl 7 rfl (by kernel_rfl)
      obtain rfl := hW.1 n7
      simp only [Lb5Mk, sld_yes q5]
      refine wpOpIn_of rfl ?_
      go_simp
      exact hK _ _ ⟨G, by simp only [Lb5Mk, sld_set hlt, sld_yes q5, reduceIte, Nat.reduceEqDiff]; try rfl, (hW.keep hlt (by decide) (by decide))⟩
    · change some _ = some o at ho
      cases ho
      have q6 : up L 6 = true := (by first | exact hd { on := 6, ground := .data } (by simp) rfl | exact hd { on := 6, ground := .chain } (by simp) rfl | exact hd { on := 6, ground := .phase } (by simp) rfl)
      have n9 : up L 9 = false := hC.no nl 9 rfl (by kernel_rfl)
      obtain rfl := hW.1 nl
      simp only [Lb5Mk, sld_yes q6]
      refine wpOpIn_of rfl ?_
      go_simp
      refine ⟨trivial, ?_⟩
      refine (callsIn_wide.2 (HNS.out _)).mono ?_
      rintro e u1 ⟨rfl, o1, b1⟩
      go_simp
      exact hK _ _ ⟨y.drew.heap.size, by simp only [Lb5Mk, sld_set hlt, sld_yes q6, reduceIte, Nat.reduceEqDiff]; try rfl, ⟨fun z => absurd (z.symm.trans ((up_set hlt _).trans (if_pos rfl))) (by decide), fun _ => ⟨u1, o1, b1, fun _ => rfl, fun z => absurd (z.symm.trans ((up_set hlt 9).trans n9)) (by decide)⟩⟩⟩
    · change some _ = some o at ho
      cases ho
      have q0 : up L 0 = true := (by first | exact hd { on := 0, ground := .data } (by simp) rfl | exact hd { on := 0, ground := .chain } (by simp) rfl | exact hd { on := 0, ground := .phase } (by simp) rfl)
      have q1 : up L 1 = true := (by first | exact hd { on := 1, ground := .data } (by simp) rfl | exact hd { on := 1, ground := .chain } (by simp) rfl | exact hd { on := 1, ground := .phase } (by simp) rfl)
      simp only [Lb5Mk, sld_yes q0, sld_yes q1]
      refine wpOpIn_of rfl ?_
      go_simp
      exact hK _ _ ⟨G, by simp only [Lb5Mk, sld_set hlt, sld_yes q0, sld_yes q1, reduceIte, Nat.reduceEqDiff]; try rfl, (hW.keep hlt (by decide) (by decide))⟩
    · change some _ = some o at ho
      cases ho
      have q7 : up L 7 = true := (by first | exact hd { on := 7, ground := .data } (by simp) rfl | exact hd { on := 7, ground := .chain } (by simp) rfl | exact hd { on := 7, ground := .phase } (by simp) rfl)
      have q8 : up L 8 = true := (by first | exact hd { on := 8, ground := .data } (by simp) rfl | exact hd { on := 8, ground := .chain } (by simp) rfl | exact hd { on := 8, ground := .phase } (by simp) rfl)
      have cx := hW.any nl ci
      obtain ⟨w2, y1, y2, y3, _⟩ := hW.2 q7
      obtain rfl := y3 nl
      have fx := HFZ.out w y2
      simp only [Lb5Mk, sld_yes q7, sld_yes q8]
      refine wpOpIn_of rfl ?_
      go_simp
      exact hK _ _ ⟨G, by simp only [Lb5Mk, sld_set hlt, sld_yes q7, sld_yes q8, reduceIte, Nat.reduceEqDiff]; try rfl, ⟨fun z => absurd (z.symm.trans ((up_set hlt 7).trans q7)) (by decide), fun _ => ⟨w, y1, y2, fun z => absurd (z.symm.trans ((up_set hlt _).trans (if_pos rfl))) (by decide), fun _ => rfl⟩⟩⟩
  case done =>
    rintro L ac w ⟨G, rfl, hW⟩ hall
    obtain ⟨w2, y1, y2, _, y5⟩ := hW.2 (hall 7 (by decide))
    obtain rfl := y5 (hall 9 (by decide))
    simp only [Lb5Mk, sld_yes (hall 0 (by decide)), sld_yes (hall 1 (by decide)), sld_yes (hall 2 (by decide)), sld_yes (hall 3 (by decide)), sld_yes (hall 4 (by decide)), sld_yes (hall 5 (by decide)), sld_yes (hall 6 (by decide)), sld_yes (hall 7 (by decide)), sld_yes (hall 8 (by decide))]
    exact HKt.out _ _ _ _ _ _ _ _ _ G w2 y1 ((Below.drew (Below.refl _ _)).trans y2)
def Lb13Mk (go bs rb n a gx kw c r : Nat) (c0 c1 c2 c4 c5 c8 c9 c10 c11 c12 c13 c14 c15 c16 c17 c18 c19 c20 c21 c22 c23 c24 c25 c26 c27 c28 c29 c30 c31 c32 c33 c34 c35 c36 c37 c38 c39 c40 c41 c42 c43 c44 c45 c46 c47 c48 c49 c50 c51 c52 : Value) (H : Nat) (v : Value) (L : Array Bool) : Act := { tmps := #[c0, c1, c2, .pointer (some ⟨bs, 0, none⟩), c4, c5, .pointer (some ⟨rb, 0, none⟩), .int .i64 (a : Int), c8, c9, c10, c11, c12, c13, c14, c15, c16, c17, c18, c19, c20, c21, c22, c23, c24, c25, c26, c27, c28, c29, c30, c31, c32, c33, c34, c35, c36, c37, c38, c39, c40, c41, c42, c43, sld c44 L 0 (.slice (some ⟨go, 0, none⟩) n n), sld c45 L 1 (.int .i64 (a : Int)), sld c46 L 2 (.pointer (some ⟨go, a, none⟩)), sld c47 L 3 (.slice (some ⟨gx, 0, none⟩) kw c), sld c48 L 4 (.int .i64 (r : Int)), sld c49 L 5 (.slice (some ⟨H, 0, none⟩) 1 1), sld c50 L 6 (v), c51, c52], defers := [] }
def Lb13W (y : World) (lo gx kw c r : Nat) (ws : List Nat) (H : Nat) (L : Array Bool) (w : World) : Prop := (up L 5 = false → w = y) ∧ (up L 5 = true → up L 6 = false → H = y.heap.size ∧ w = (y.alloc (.cells #[.int .i64 (r : Int)] 3))) ∧ (up L 6 = true → w.ownsRow lo 110 1 (.slice (some ⟨gx, 0, none⟩) kw c) kw (Pl.wsV (Pl.putsW ws [r])) ∧ OnlyG gx (y.alloc (.cells #[.int .i64 (r : Int)] 3)) w)
theorem Lb13W.keep {y : World} {lo gx kw c r : Nat} {ws : List Nat} {H : Nat} {L : Array Bool} {w : World} (h : Lb13W y lo gx kw c r ws H L w) {q : Nat} (hq : q < L.size) (n1 : q ≠ 5) (n2 : q ≠ 6) : Lb13W y lo gx kw c r ws H (L.setIfInBounds q true) w := by
  unfold Lb13W at h ⊢
  rw [up_set hq, up_set hq, if_neg n1, if_neg n2]
  exact h
theorem Lb13W.early {y : World} {lo gx kw c r : Nat} {ws : List Nat} {H : Nat} {L : Array Bool} {w : World} (h : Lb13W y lo gx kw c r ws H L w) (nn : up L 6 = false) {p : Addr} {v : Value} (hc : y.cell? p = some v) : w.cell? p = some v := by
  cases e : up L 5
  · rw [h.1 e]; exact hc
  · rw [(h.2.1 e nn).2, (below_alloc y _).cell (block_lt_of_cell hc)]; exact hc
theorem row_oneI (u : World) (z : Nat) (hz : z ≤ 100000) (b : Nat) (hb : b = u.heap.size) : Row .i64 0 (u.alloc (.cells #[.int .i64 (z : Int)] 3)) (some ⟨b, 0, none⟩) 1 1 (([z] : List Nat).map fun n : Nat => (n : Int)) := by
  subst hb
  refine ⟨rfl, Nat.le_refl _, by decide, fun n hn => ?_, .inr ⟨u.heap.size, 0, rfl, Nat.zero_le _, by simp, fun i hi => ?_⟩⟩
  · simp at hn; subst hn; simp [Lit.wf, IntKind.min, IntKind.max, IntKind.signed, IntKind.bits]; omega
  · obtain rfl : i = 0 := by omega
    exact cell_of_row _ u.heap.size 0 _ 3 (0, 0) (heap_alloc_new u _)
set_option maxRecDepth 100000 in
set_option maxHeartbeats 8000000 in
theorem lb13_is (l go bs rb n a gx kw c r lo : Nat) (ws : List Nat) (y : World) (t3 : y.cell? ⟨bs, 0, none⟩ = some (.slice (some ⟨go, 0, none⟩) n n)) (ca : y.cell? ⟨go, a, none⟩ = some (.slice (some ⟨gx, 0, none⟩) kw c)) (cr : y.cell? ⟨rb, 0, none⟩ = some (.int .i64 (r : Int))) (ha : a < n) (hn : n ≤ 8000) (ho : y.ownsRow lo 110 1 (.slice (some ⟨gx, 0, none⟩) kw c) kw (Pl.wsV ws)) (hs : Pl.smallW ws) (hk : ws.length = kw) (hr : r / 64 < kw) (hk2 : kw ≤ 1000) (c0 c1 c2 c4 c5 c8 c9 c10 c11 c12 c13 c14 c15 c16 c17 c18 c19 c20 c21 c22 c23 c24 c25 c26 c27 c28 c29 c30 c31 c32 c33 c34 c35 c36 c37 c38 c39 c40 c41 c42 c43 c44 c45 c46 c47 c48 c49 c50 c51 c52 : Value) (Q : Exit → Act → World → Prop)
    (hK : ∀ (s44 s45 s46 s47 s48 s49 s50 : Value) (y' : World), y'.ownsRow lo 110 1 (.slice (some ⟨gx, 0, none⟩) kw c) kw (Pl.wsV (Pl.putsW ws [r])) → OnlyG gx (y.alloc (.cells #[.int .i64 (r : Int)] 3)) y' → Q .normal { tmps := #[c0, c1, c2, .pointer (some ⟨bs, 0, none⟩), c4, c5, .pointer (some ⟨rb, 0, none⟩), .int .i64 (a : Int), c8, c9, c10, c11, c12, c13, c14, c15, c16, c17, c18, c19, c20, c21, c22, c23, c24, c25, c26, c27, c28, c29, c30, c31, c32, c33, c34, c35, c36, c37, c38, c39, c40, c41, c42, c43, s44, s45, s46, s47, s48, s49, s50, c51, c52], defers := [] } y') :
    (lbC 13).wpIn (Fence.wide.inRound l) 2 Tryz.prog Q { tmps := #[c0, c1, c2, .pointer (some ⟨bs, 0, none⟩), c4, c5, .pointer (some ⟨rb, 0, none⟩), .int .i64 (a : Int), c8, c9, c10, c11, c12, c13, c14, c15, c16, c17, c18, c19, c20, c21, c22, c23, c24, c25, c26, c27, c28, c29, c30, c31, c32, c33, c34, c35, c36, c37, c38, c39, c40, c41, c42, c43, c44, c45, c46, c47, c48, c49, c50, c51, c52], defers := [] } y := by
  have HKt : Hid _ := hK
  clear hK
  conv => arg 4; whnf
  have HPU : Hid (Calls Tryz.prog 65 #[.slice (some ⟨gx, 0, none⟩) kw c, .slice (some ⟨y.drew.heap.size, 0, none⟩) 1 1] (y.drew.alloc (.cells #[.int .i64 (r : Int)] 3)) fun e w' => (∃ v, e = .returned v) ∧ w'.ownsRow lo 110 1 (.slice (some ⟨gx, 0, none⟩) kw c) kw (Pl.wsV (Pl.putsW ws [r])) ∧ OnlyG gx (y.drew.alloc (.cells #[.int .i64 (r : Int)] 3)) w') := by
    have hlt := (ho.lt gx rfl).2
    have ho2 : (y.drew.alloc (.cells #[.int .i64 (r : Int)] 3)).ownsRow lo 110 1 (.slice (some ⟨gx, 0, none⟩) kw c) kw (Pl.wsV ws) := own_eqL ho fun q hq => ((Below.drew (Below.refl y.heap.size y)).trans (below_alloc y.drew _)).block q (ho.lt q hq).2
    refine putI_is gx kw c ws _ 1 1 [r] _ ho2 hs hk (fun q hq => by simp at hq; subst hq; exact hr) (by omega) (row_oneI y.drew r (by omega) _ rfl) (fun b off e => ?_)
    injection e with e
    injection e with e1 e2
    have : y.drew.heap.size = y.heap.size := rfl
    omega
  have e3 : y.drew.cell? ⟨bs, 0, none⟩ = some (.slice (some ⟨go, 0, none⟩) n n) := t3
  have ea : y.drew.cell? ⟨go, a, none⟩ = some (.slice (some ⟨gx, 0, none⟩) kw c) := ca
  have er : y.drew.cell? ⟨rb, 0, none⟩ = some (.int .i64 (r : Int)) := cr
  have HDR : Hid (OnlyG gx (y.alloc (.cells #[.int .i64 (r : Int)] 3)) (y.drew.alloc (.cells #[.int .i64 (r : Int)] 3))) := by
    have b := Below.drew (Below.refl y.heap.size y)
    exact ⟨b.os, b.tape, b.output, rfl, fun _ _ => rfl⟩
  clear t3 ca cr ho
  rename y.drew.cell? ⟨bs, 0, none⟩ = some (.slice (some ⟨go, 0, none⟩) n n) => t3
  rename y.drew.cell? ⟨go, a, none⟩ = some (.slice (some ⟨gx, 0, none⟩) kw c) => ca
  rename y.drew.cell? ⟨rb, 0, none⟩ = some (.int .i64 (r : Int)) => cr
  have hai : (a : Int) < (n : Int) := by omega
  have ha8 : (a : Int) ≤ 8000 := by omega
  refine wpIn_region_any (by kernel_rfl) ?_
  change wpAnyIn _ _ _ _ _ _ _ _ _ (World.drew _)
  refine wpAnyIn_inn (fun L ac w => ∃ H v, ac = Lb13Mk go bs rb n a gx kw c r c0 c1 c2 c4 c5 c8 c9 c10 c11 c12 c13 c14 c15 c16 c17 c18 c19 c20 c21 c22 c23 c24 c25 c26 c27 c28 c29 c30 c31 c32 c33 c34 c35 c36 c37 c38 c39 c40 c41 c42 c43 c44 c45 c46 c47 c48 c49 c50 c51 c52 H v L ∧ Lb13W y.drew lo gx kw c r ws H L w) ?done (by kernel_rfl) ?step 7 _ _ _ ?init (clo_init _) (by kernel_rfl) (by rw [unl_replicate]; exact Nat.le_refl _)
  case init => exact ⟨0, undef, by simp only [Lb13Mk, sld_no (up_init _ _)], fun _ => rfl, fun z => absurd (z.symm.trans (up_init _ _)) (by decide), fun z => absurd (z.symm.trans (up_init _ _)) (by decide)⟩
  case step =>
    intro L act w i o hI hlt hs nl hC hd ho K hK
    obtain ⟨H, v, rfl, hW⟩ := hI
    have hi_lt : i < 7 := (Array.getElem?_eq_some_iff.1 ho).1
    rcases (show i = 0 ∨ i = 1 ∨ i = 2 ∨ i = 3 ∨ i = 4 ∨ i = 5 ∨ i = 6 by omega) with rfl | rfl | rfl | rfl | rfl | rfl | rfl
    · change some _ = some o at ho
      cases ho
      have n2 : up L 2 = false := hC.no nl 2 rfl (by kernel_rfl)
      have n3 : up L 3 = false := hC.no n2 3 rfl (by kernel_rfl)
      have n6 : up L 6 = false := hC.no n3 6 rfl (by kernel_rfl)
      have cx := hW.early n6 t3
      simp only [Lb13Mk]
      refine wpOpIn_of rfl ?_
      go_simp
      exact hK _ _ ⟨H, v, by simp only [Lb13Mk, sld_set hlt, reduceIte, Nat.reduceEqDiff]; try rfl, (hW.keep hlt (by decide) (by decide))⟩
    · change some _ = some o at ho
      cases ho
      simp only [Lb13Mk]
      refine wpOpIn_of rfl ?_
      go_simp
      exact hK _ _ ⟨H, v, by simp only [Lb13Mk, sld_set hlt, reduceIte, Nat.reduceEqDiff]; try rfl, (hW.keep hlt (by decide) (by decide))⟩
    · change some _ = some o at ho
      cases ho
      have q0 : up L 0 = true := (by first | exact hd { on := 0, ground := .data } (by simp) rfl | exact hd { on := 0, ground := .chain } (by simp) rfl | exact hd { on := 0, ground := .phase } (by simp) rfl)
      have q1 : up L 1 = true := (by first | exact hd { on := 1, ground := .data } (by simp) rfl | exact hd { on := 1, ground := .chain } (by simp) rfl | exact hd { on := 1, ground := .phase } (by simp) rfl)
      simp only [Lb13Mk, sld_yes q0, sld_yes q1]
      refine wpOpIn_of rfl ?_
      go_simp
      exact hK _ _ ⟨H, v, by simp only [Lb13Mk, sld_set hlt, sld_yes q0, sld_yes q1, reduceIte, Nat.reduceEqDiff]; try rfl, (hW.keep hlt (by decide) (by decide))⟩
    · change some _ = some o at ho
      cases ho
      have q2 : up L 2 = true := (by first | exact hd { on := 2, ground := .data } (by simp) rfl | exact hd { on := 2, ground := .chain } (by simp) rfl | exact hd { on := 2, ground := .phase } (by simp) rfl)
      have n6 : up L 6 = false := hC.no nl 6 rfl (by kernel_rfl)
      have cx := hW.early n6 ca
      simp only [Lb13Mk, sld_yes q2]
      refine wpOpIn_of rfl ?_
      go_simp
      exact hK _ _ ⟨H, v, by simp only [Lb13Mk, sld_set hlt, sld_yes q2, reduceIte, Nat.reduceEqDiff]; try rfl, (hW.keep hlt (by decide) (by decide))⟩
    · change some _ = some o at ho
      cases ho
      have n5 : up L 5 = false := hC.no nl 5 rfl (by kernel_rfl)
      obtain rfl := hW.1 n5
      simp only [Lb13Mk]
      refine wpOpIn_of rfl ?_
      go_simp
      exact hK _ _ ⟨H, v, by simp only [Lb13Mk, sld_set hlt, reduceIte, Nat.reduceEqDiff]; try rfl, (hW.keep hlt (by decide) (by decide))⟩
    · change some _ = some o at ho
      cases ho
      have q4 : up L 4 = true := (by first | exact hd { on := 4, ground := .data } (by simp) rfl | exact hd { on := 4, ground := .chain } (by simp) rfl | exact hd { on := 4, ground := .phase } (by simp) rfl)
      have n6 : up L 6 = false := hC.no nl 6 rfl (by kernel_rfl)
      obtain rfl := hW.1 nl
      simp only [Lb13Mk, sld_yes q4]
      refine wpOpIn_of rfl ?_
      go_simp
      exact hK _ _ ⟨y.drew.heap.size, v, by simp only [Lb13Mk, sld_set hlt, sld_yes q4, reduceIte, Nat.reduceEqDiff]; try rfl, ⟨fun z => absurd (z.symm.trans ((up_set hlt _).trans (if_pos rfl))) (by decide), fun _ _ => ⟨rfl, rfl⟩, fun z => absurd (z.symm.trans ((up_set hlt 6).trans n6)) (by decide)⟩⟩
    · change some _ = some o at ho
      cases ho
      have q3 : up L 3 = true := (by first | exact hd { on := 3, ground := .data } (by simp) rfl | exact hd { on := 3, ground := .chain } (by simp) rfl | exact hd { on := 3, ground := .phase } (by simp) rfl)
      have q5 : up L 5 = true := (by first | exact hd { on := 5, ground := .data } (by simp) rfl | exact hd { on := 5, ground := .chain } (by simp) rfl | exact hd { on := 5, ground := .phase } (by simp) rfl)
      obtain ⟨rfl, rfl⟩ := hW.2.1 q5 nl
      simp only [Lb13Mk, sld_yes q3, sld_yes q5]
      refine wpOpIn_of rfl ?_
      go_simp
      refine ⟨trivial, ?_⟩
      refine (((callsIn_wide (n := 1)).2 HPU.out).inRound l).mono ?_
      rintro e u1 ⟨⟨v1, rfl⟩, o1, b1⟩
      go_simp
      exact hK _ _ ⟨y.drew.heap.size, v1, by simp only [Lb13Mk, sld_set hlt, sld_yes q3, sld_yes q5, reduceIte, Nat.reduceEqDiff]; try rfl, ⟨fun z => absurd (z.symm.trans ((up_set hlt 5).trans q5)) (by decide), fun _ z => absurd (z.symm.trans ((up_set hlt _).trans (if_pos rfl))) (by decide), fun _ => ⟨o1, b1⟩⟩⟩
  case done =>
    rintro L ac w ⟨H, v, rfl, hW⟩ hall
    obtain ⟨y1, y2⟩ := hW.2.2 (hall 6 (by decide))
    simp only [Lb13Mk, sld_yes (hall 0 (by decide)), sld_yes (hall 1 (by decide)), sld_yes (hall 2 (by decide)), sld_yes (hall 3 (by decide)), sld_yes (hall 4 (by decide)), sld_yes (hall 5 (by decide)), sld_yes (hall 6 (by decide))]
    exact HKt.out _ _ _ _ _ _ _ w y1 (HDR.out.trans y2)
end Go.Proofs.YtcgfgmlfbgbkfaaGreatDoor.W
namespace Go.Proofs.YtcgfgmlfbgbkfaaGreatDoor.W
open Go.RowKit Go.Shelf
attribute [local go_sem] Oper.semAt_some
theorem Tryz.infonsL : (Tryz.prog.info? 65).map (fun i => (i.zero, i.size, i.bytes)) = some (some (.slice none 0 0), 1, 24) := by kernel_rfl
structure St (w wr : World) (go bs n : Nat) (A : Nat → Option Addr) (C : Nat → Nat) (WS : Nat → List Nat) (T : Nat → Nat) : Prop where
  bel : Below w.heap.size w wr
  los : w.heap.size ≤ bs
  box : wr.heap[bs]? = some (.cells #[.slice (some ⟨go, 0, none⟩) n n] 62 (0, 0))
  tb : T bs = 0
  rw_ : Rw 65 110 w.heap.size wr go n n A C (fun j => Pl.wsV (WS j)) T 1
theorem St.later {w wr wr' : World} {go bs n : Nat} {A : Nat → Option Addr} {C : Nat → Nat} {WS : Nat → List Nat} {T : Nat → Nat} (h : St w wr go bs n A C WS T) (hb : Below wr.heap.size wr wr') : St w wr' go bs n A C WS T :=
  ⟨h.bel.trans (hb.mono h.bel.size), h.los, (hb.block _ (Array.getElem?_eq_some_iff.1 h.box).1).trans h.box, h.tb, h.rw_.later hb⟩
theorem St.lay {w wr y : World} {go bs n : Nat} {A : Nat → Option Addr} {C : Nat → Nat} {WS : Nat → List Nat} {T : Nat → Nat} (h : St w wr go bs n A C WS T) {i : Nat} (hi : i < n) (hb : Below wr.heap.size wr y) {g c : Nat} {ws : List Nat} (hg : wr.heap.size ≤ g) (hown : y.ownsRow w.heap.size 110 1 (.slice (some ⟨g, 0, none⟩) ws.length c) ws.length (Pl.wsV ws)) : St w (y.setCell ⟨go, i, none⟩ (.slice (some ⟨g, 0, none⟩) ws.length c)) go bs n (upd A i (some ⟨g, 0, none⟩)) (upd C i c) (upd WS i ws) (newT T wr.heap.size 2) := by
  have hl : (Pl.wsV ws).length = ws.length := Pl.wsV_len ws
  have hgo := h.rw_.oo.lt go rfl
  have hbs := (Array.getElem?_eq_some_iff.1 h.box).1
  have hne : bs ≠ go := fun e => by have h1 := h.tb; have h2 := h.rw_.tt; rw [e, h2] at h1; omega
  have hnew : ∀ q, (Value.slice (some ⟨g, 0, none⟩) (Pl.wsV ws).length c).ownBlock = some q → wr.heap.size ≤ q := fun q hq => by
    have e : g = q := by simpa [Value.ownBlock] using hq
    omega
  have key := h.rw_.repl hi (a := some ⟨g, 0, none⟩) (c := c) (l := Pl.wsV ws) (fun q hq _ => hb.block q hq) (by rw [hl]; exact hown) (fun q hq => .inr (hnew q hq)) (T' := newT T wr.heap.size 2) (fun q hq => newT_old hq) (fun q hq => newT_new hq)
  rw [hl] at key
  refine ⟨(h.bel.trans (hb.mono h.bel.size)).setCell hgo.1 _, h.los, ?_, (newT_old hbs).trans h.tb, ?_⟩
  · rw [heap_setCell_other y ⟨go, i, none⟩ bs _ hne]; exact (hb.block bs hbs).trans h.box
  · have e : (fun j => Pl.wsV (upd WS i ws j)) = upd (fun j => Pl.wsV (WS j)) i (Pl.wsV ws) := by
      funext j
      by_cases q : j = i
      · subst q; rw [upd_at, upd_at]
      · rw [upd_ne q, upd_ne q]
    rw [e]; exact key
theorem own_is_cells {lo : Nat} {e : TypeId} {k : Nat} {v : Value} {n : Nat} {xs : List Value} {w : World} (h : w.ownsRow lo e k v n xs) {g : Nat} (hg : v.ownBlock = some g) : ∃ cs, w.heap[g]? = some (.cells cs e (0, 0)) := by
  rcases h.2 with ⟨q, _⟩ | ⟨g', cap, cur, q, _, hgg, _⟩
  · rw [q] at hg; cases hg
  · rw [q] at hg
    simp only [Value.ownBlock, Option.some.injEq] at hg
    subst hg
    exact ⟨cur, hgg⟩
def KeepC (lo : Nat) (w w' : World) : Prop := ∀ g, lo ≤ g → ∀ cs t, w.heap[g]? = some (.cells cs t (0, 0)) → w'.heap[g]? = some (.cells cs t (0, 0))
theorem KeepC.own {lo b : Nat} {w w' : World} (h : KeepC lo w w') (hb : lo ≤ b) {e : TypeId} {k : Nat} {v : Value} {n : Nat} {xs : List Value} (ho : w.ownsRow b e k v n xs) : w'.ownsRow b e k v n xs := own_eqL ho fun g hg => by
  obtain ⟨cs, hc⟩ := own_is_cells ho hg
  rw [h g (Nat.le_trans hb (ho.lt g hg).1) cs e hc, hc]
theorem KeepC.below {lo : Nat} {w w' : World} (hb : Below w.heap.size w w') : KeepC lo w w' := fun g _ cs t hg => (hb.block g (Array.getElem?_eq_some_iff.1 hg).1).trans hg
theorem KeepC.put {lo : Nat} {w : World} {r : Nat} {o o' : Obj} (ho : w.heap[r]? = some o') (hc : o'.isCells = false) : KeepC lo w (w.putObj r o) := fun g _ cs t hg => (World.putObj_heap_other (ne_of_kind hg ho hc)).trans hg
theorem KeepC.only {lo : Nat} {w w' : World} {gx : Nat} (h : OnlyG gx w w') (hg : gx < lo) : KeepC lo w w' := fun g hl cs t hc => (h.block g (by omega)).trans hc
theorem KeepC.trans {lo : Nat} {a b c : World} (h : KeepC lo a b) (k : KeepC lo b c) : KeepC lo a c := fun g hl cs t hg => k g hl cs t (h g hl cs t hg)
theorem Rw.keepC {eo ei : TypeId} {lo : Nat} {w w' : World} {go k co : Nat} {A : Nat → Option Addr} {C : Nat → Nat} {L : Nat → List Value} {T : Nat → Nat} {t : Nat} (h : Rw eo ei lo w go k co A C L T t) {b : Nat} (hb : b ≤ lo) (hk : KeepC b w w') : Rw eo ei lo w' go k co A C L T t :=
  ⟨hk.own hb h.oo, h.tt, fun i hi => hk.own hb (h.nr i hi), h.tn, h.dA⟩
def cutW (w : World) (z : Nat) : World := { w with heap := w.heap.extract 0 z }
theorem cutW_size {w : World} {z : Nat} (h : z ≤ w.heap.size) : (cutW w z).heap.size = z := by simp [cutW]; omega
theorem cutW_below {w : World} {z : Nat} (h : z ≤ w.heap.size) : Below (cutW w z).heap.size (cutW w z) w := by
  have hz := cutW_size h
  refine ⟨rfl, rfl, rfl, by omega, fun k hk => ?_⟩
  rw [hz] at hk
  show w.heap[k]? = (w.heap.extract 0 z)[k]?
  rw [Array.getElem?_extract]
  simp
  omega
theorem Lv.moved {W0 w w' : World} {gl gb gs gu gt n R : Nat} {B U S : Gd} {ss : List Int} {T : Nat → Nat} (h : Lv W0 w gl gb gs gu gt n R B U S ss T) (hk : KeepC W0.heap.size w w') (hz : w.heap.size ≤ w'.heap.size) : ∃ V : World, V.heap.size = W0.heap.size ∧ Lv V w' gl gb gs gu gt n R B U S ss T := by
  have hle : W0.heap.size ≤ w'.heap.size := Nat.le_trans h.bel.size hz
  have e := cutW_size hle
  refine ⟨cutW w' W0.heap.size, e, cutW_below hle, by rw [e]; exact h.glo, hk gl h.glo _ _ h.box, h.tb, ?_, ?_, ?_, ?_, h.ts, h.sn⟩
  · rw [e]; exact h.rb.keepC (Nat.le_refl _) hk
  · rw [e]; exact h.ru.keepC (Nat.le_refl _) hk
  · rw [e]; exact h.rt.keepC (Nat.le_refl _) hk
  · rw [e]; exact hk.own (Nat.le_refl _) h.sl
theorem St.keepC {w wr wr' : World} {go bs n : Nat} {A : Nat → Option Addr} {C : Nat → Nat} {WS : Nat → List Nat} {T : Nat → Nat} (h : St w wr go bs n A C WS T) (hb : Below w.heap.size w wr') (hk : KeepC w.heap.size wr wr') : St w wr' go bs n A C WS T :=
  ⟨hb, h.los, hk bs h.los _ _ h.box, h.tb, h.rw_.keepC (Nat.le_refl _) hk⟩
theorem St.putR {w wr y : World} {go bs n : Nat} {A : Nat → Option Addr} {C : Nat → Nat} {WS : Nat → List Nat} {T : Nat → Nat} (h : St w wr go bs n A C WS T) {a g : Nat} (ha : a < n) (hg : A a = some ⟨g, 0, none⟩) {r : Nat} (hown : y.ownsRow w.heap.size 110 1 (.slice (A a) (WS a).length (C a)) (WS a).length (Pl.wsV (Pl.putsW (WS a) [r]))) (hO : OnlyG g wr y) : St w y go bs n A C (upd WS a (Pl.putsW (WS a) [r])) T := by
  have hl : ∀ l, (Pl.wsV l).length = l.length := Pl.wsV_len
  have hlo := ((h.rw_.nr a ha).lt g (by rw [hg]; rfl)).1
  have hne : bs ≠ g := fun e => by
    have h1 := h.rw_.tn a ha g (by rw [hg]; rfl)
    rw [← e, h.tb] at h1
    omega
  refine ⟨h.bel.trans (hO.below hlo), h.los, (hO.block bs hne).trans h.box, h.tb, ?_⟩
  have e : (fun j => Pl.wsV (upd WS a (Pl.putsW (WS a) [r]) j)) = upd (fun j => Pl.wsV (WS j)) a (Pl.wsV (Pl.putsW (WS a) [r])) := by
    funext j
    by_cases q : j = a
    · subst q; rw [upd_at, upd_at]
    · rw [upd_ne q, upd_ne q]
  rw [e]
  refine h.rw_.turned ha hg (by rw [hl, hl, Pl.putsW_len]) hO ?_
  rw [hl, Pl.putsW_len]; exact hown
structure IB (w : World) (go bs n R kw : Nat) (code : List Pl.IrI) (zl gl gb gs gu gt : Nat) (B U S : Gd) (ss : List Int) (TL : Nat → Nat) (r : Nat) (acc : List Nat) (Ds : List Nat) (X : World) : Prop where
  st : ∃ A C WS T, St w X go bs n A C WS T ∧ ∀ j, j < n → (∃ g, A j = some ⟨g, 0, none⟩ ∧ g < zl) ∧ Pl.smallW (WS j) ∧ (WS j).length = kw ∧ ∀ q : Nat, Pl.inW (WS j) q = true ↔ (q < r ∧ Pl.Live code (q : Int) j) ∨ (q = r ∧ j ∈ acc)
  lv : ∃ V : World, V.heap.size = zl ∧ Lv V X gl gb gs gu gt n R B U S ss TL
  dn : Ds.Nodup
  dd : ∀ D ∈ Ds, w.heap.size ≤ D ∧ X.heap[D]? = some (.deferred (some []))
  zb : w.heap.size ≤ zl ∧ zl ≤ X.heap.size
  tab : TabT X
  tlo : 0 < w.heap.size
section
variable {w X X' : World} {go bs n R kw : Nat} {code : List Pl.IrI} {zl gl gb gs gu gt : Nat} {B U S : Gd} {ss : List Int} {TL : Nat → Nat} {r : Nat} {acc : List Nat} {Ds : List Nat}
theorem IB.later (h : IB w go bs n R kw code zl gl gb gs gu gt B U S ss TL r acc Ds X) (hb : Below X.heap.size X X') : IB w go bs n R kw code zl gl gb gs gu gt B U S ss TL r acc Ds X' := by
  obtain ⟨A, C, WS, T, h1, h2⟩ := h.st
  obtain ⟨V, e, h3⟩ := h.lv
  exact ⟨⟨A, C, WS, T, h1.later hb, h2⟩, ⟨V, e, h3.later hb⟩, h.dn, fun D hD => ⟨(h.dd D hD).1, (hb.block D (Array.getElem?_eq_some_iff.1 (h.dd D hD).2).1).trans (h.dd D hD).2⟩, ⟨h.zb.1, Nat.le_trans h.zb.2 hb.size⟩, fun j hj => (hb.cell (block_lt_of_cell (h.tab j hj))).trans (h.tab j hj), h.tlo⟩
theorem IB.put (h : IB w go bs n R kw code zl gl gb gs gu gt B U S ss TL r acc Ds X) {l : Nat} {o o' : Obj} (hl : w.heap.size ≤ l) (ho : X.heap[l]? = some o') (hc : o'.isCells = false) (hD : l ∉ Ds) : IB w go bs n R kw code zl gl gb gs gu gt B U S ss TL r acc Ds (X.putObj l o) := by
  obtain ⟨A, C, WS, T, h1, h2⟩ := h.st
  obtain ⟨V, e, h3⟩ := h.lv
  have hz : (X.putObj l o).heap.size = X.heap.size := by simp [World.putObj]
  obtain ⟨V2, e2, h4⟩ := h3.moved (KeepC.put (o := o) ho hc) (by omega)
  refine ⟨⟨A, C, WS, T, h1.keepC (putObj_belowB h1.bel hl _) (KeepC.put ho hc), h2⟩, ⟨V2, e2.trans e, h4⟩, h.dn, fun D hd => ⟨(h.dd D hd).1, ?_⟩, by rw [hz]; exact h.zb, fun j hj => cell_putObj (h.tab j hj) ho hc, h.tlo⟩
  rw [World.putObj_heap_other (by rintro rfl; exact hD hd)]
  exact (h.dd D hd).2
theorem IB.step {a g : Nat} {A : Nat → Option Addr} {C : Nat → Nat} {WS : Nat → List Nat} {T : Nat → Nat} (h : IB w go bs n R kw code zl gl gb gs gu gt B U S ss TL r acc Ds X) (h1 : St w X go bs n A C WS T) (h2 : ∀ j, j < n → (∃ g, A j = some ⟨g, 0, none⟩ ∧ g < zl) ∧ Pl.smallW (WS j) ∧ (WS j).length = kw ∧ ∀ q : Nat, Pl.inW (WS j) q = true ↔ (q < r ∧ Pl.Live code (q : Int) j) ∨ (q = r ∧ j ∈ acc)) (ha : a < n) (hg : A a = some ⟨g, 0, none⟩) (hr : r / 64 < kw) (hown : X'.ownsRow w.heap.size 110 1 (.slice (A a) (WS a).length (C a)) (WS a).length (Pl.wsV (Pl.putsW (WS a) [r]))) (hO : OnlyG g X X') : IB w go bs n R kw code zl gl gb gs gu gt B U S ss TL r (acc ++ [a]) Ds X' := by
  obtain ⟨V, e, h3⟩ := h.lv
  obtain ⟨⟨g', hg', hgz⟩, hsm, hln, hin⟩ := h2 a ha
  have hgg : g' = g := by rw [hg] at hg'; injection hg' with hg'; injection hg' with q; exact q.symm
  subst hgg
  obtain ⟨V2, e2, h4⟩ := h3.moved (KeepC.only hO (by omega)) (Nat.le_of_eq hO.size.symm)
  have hlo := ((h1.rw_.nr a ha).lt g' (by rw [hg]; rfl)).1
  obtain ⟨cur, hcur⟩ := own_is_cells (h1.rw_.nr a ha) (g := g') (by rw [hg]; rfl)
  refine ⟨⟨A, C, _, T, h1.putR ha hg hown hO, fun j hj => ?_⟩, ⟨V2, e2.trans e, h4⟩, h.dn, fun D hd => ⟨(h.dd D hd).1, ?_⟩, by rw [hO.size]; exact h.zb, ?_, h.tlo⟩
  · by_cases q : j = a
    · subst q
      rw [upd_at]
      refine ⟨⟨g', hg, hgz⟩, hsm.puts _, (Pl.putsW_len _ _).trans hln, fun q => ?_⟩
      rw [Pl.inW_puts _ _ _ (fun z hz => by simp at hz; subst hz; omega), hin, List.mem_singleton, List.mem_append, List.mem_singleton]
      constructor
      · rintro ((z | ⟨z1, z2⟩) | z)
        · exact .inl z
        · exact .inr ⟨z1, .inl z2⟩
        · exact .inr ⟨z, .inr rfl⟩
      · rintro (z | ⟨z, _⟩)
        · exact .inl (.inl z)
        · exact .inr z
    · rw [upd_ne q]
      obtain ⟨b1, b2, b3, b4⟩ := h2 j hj
      refine ⟨b1, b2, b3, fun z => ?_⟩
      rw [b4, List.mem_append, List.mem_singleton]
      simp [q]
  · have h5 := (h.dd D hd).2
    rw [hO.block D (fun e => by rw [e, hcur] at h5; cases h5)]
    exact h5
  · intro j hj
    rw [hO.cell (p := ⟨0, j, none⟩) (fun e => by
      have e : 0 = g' := e
      have := block_lt_of_cell (h.tab j hj)
      have h6 := h.tlo
      omega)]
    exact h.tab j hj
theorem IB.next (h : IB w go bs n R kw code zl gl gb gs gu gt B U S ss TL r acc Ds X) (ha : ∀ j, j < n → (j ∈ acc ↔ Pl.Live code (r : Int) j)) {D : Nat} (hD : D ∉ Ds) (hw : w.heap.size ≤ D) (hX : X.heap[D]? = some (.deferred (some []))) : IB w go bs n R kw code zl gl gb gs gu gt B U S ss TL (r + 1) [] (D :: Ds) X := by
  obtain ⟨A, C, WS, T, h1, h2⟩ := h.st
  refine ⟨⟨A, C, WS, T, h1, fun j hj => ?_⟩, h.lv, List.nodup_cons.2 ⟨hD, h.dn⟩, fun E hE => ?_, h.zb, h.tab, h.tlo⟩
  · obtain ⟨b1, b2, b3, b4⟩ := h2 j hj
    refine ⟨b1, b2, b3, fun q => ?_⟩
    rw [b4]
    constructor
    · rintro (⟨z1, z2⟩ | ⟨z1, z2⟩)
      · exact .inl ⟨by omega, z2⟩
      · subst z1; exact .inl ⟨by omega, (ha j hj).1 z2⟩
    · rintro (⟨z1, z2⟩ | ⟨_, z⟩)
      · by_cases e : q = r
        · subst e; exact .inr ⟨rfl, (ha j hj).2 z2⟩
        · exact .inl ⟨by omega, z2⟩
      · cases z
  · rcases List.mem_cons.1 hE with e | e
    · subst e; exact ⟨hw, hX⟩
    · exact h.dd E e
end
def LbS (w : World) (code : List Pl.IrI) (R n : Nat) (e : Ending) (w' : World) : Prop := ∃ (go bs : Nat) (A : Nat → Option Addr) (C : Nat → Nat) (WS : Nat → List Nat) (T : Nat → Nat), e = .returned (.slice (some ⟨go, 0, none⟩) n n) ∧ St w w' go bs n A C WS T ∧ ∀ j, j < n → ((∃ g, A j = some ⟨g, 0, none⟩) ∧ Pl.smallW (WS j) ∧ (WS j).length = (R + 63) / 64 ∧ ∀ q : Nat, Pl.inW (WS j) q = true ↔ q < R ∧ Pl.Live code (q : Int) j)
set_option maxRecDepth 100000 in
set_option maxHeartbeats 16000000 in
theorem liveBefore_is (w : World) (gr g n c R : Nat) (code : List Pl.IrI) (hlen : code.length = n) (c5 : w.cell? ⟨gr, 5, none⟩ = some (.slice (some ⟨g, 0, none⟩) n c)) (c2 : w.cell? ⟨gr, 2, none⟩ = some (.int .i64 (R : Int))) (hn : 1 ≤ n ∧ n ≤ 8000) (hR : R ≤ 2000) (hT : TabT w)
    (hNL : ∀ u, Below w.heap.size w u → Calls Tryz.prog 62 #[.pointer (some ⟨gr, 0, none⟩)] u fun e u' => ∃ (gl gb gs gu gt : Nat) (B U S : Gd) (ss : List Int) (T : Nat → Nat), e = .returned (.pointer (some ⟨gl, 0, none⟩)) ∧ Lv u u' gl gb gs gu gt n R B U S ss T ∧ LvF code n B U S ss) :
    Calls Tryz.prog 33 #[.pointer (some ⟨gr, 0, none⟩)] w fun e w' => LbS w code R n e w' := by
  have HNL : Hid _ := hNL
  have HT : Hid (TabT w ∧ code.length = n) := ⟨hT, hlen⟩
  have HC : Hid (∀ u, Below w.heap.size w u → u.cell? ⟨gr, 2, none⟩ = some (.int .i64 (R : Int))) := fun u hu => (hu.cell (p := ⟨gr, 2, none⟩) (block_lt_of_cell c2)).trans c2
  obtain ⟨i0, hi0, hz0, hz1, hz2⟩ := info_parts Tryz.infonsL
  have hmk : ∀ u : World, (Instr.makeSlice 62 (.int .i64 (n : Int)) (.int .i64 (n : Int))).run Tryz.prog u = .ok (.slice (some ⟨u.heap.size, 0, none⟩) n n) (u.alloc (.cells (madeCells (Value.slice none 0 0).cells (n * 1)) 65)) := fun u => by
    have := run_makeSlice u 62 65 i0 _ Tryz.underlying62 hi0 hz0 .i64 .i64 (n : Int) (n : Int) (by omega) (by omega) (by rw [hz1]; simp; omega) (by rw [hz2]; omega) (by omega)
    rw [hz1] at this
    simpa using this
  have hcl : (madeCells (Value.slice none 0 0).cells (n * 1)).toList = List.replicate n (.slice none 0 0) := by rw [Nat.mul_one]; exact toList_madeCells_one _ _
  have hcs : (madeCells (Value.slice none 0 0).cells (n * 1)).size = n * 1 := by simp [madeCells, Value.cells]
  obtain ⟨cs, hcs0⟩ : ∃ cs, cs = madeCells (Value.slice none 0 0).cells (n * 1) := ⟨_, rfl⟩
  rw [← hcs0] at hmk hcl hcs
  have HS0 : Hid (St w ((w.alloc (.cells cs 65)).alloc (.cells #[.slice (some ⟨w.heap.size, 0, none⟩) n n] 62)) w.heap.size (w.heap.size + 1) n (fun _ => none) (fun _ => 0) (fun _ => []) (fun q => if q = w.heap.size then 1 else 0)) := by
    have ho := World.ownsRow_lit w cs n (base := w.heap.size) (e := 65) (size := 1) (Nat.le_refl _) (by unfold maxLen; omega) hcs
    rw [hcl] at ho
    have hx := heap_alloc_new (w.alloc (.cells cs 65)) (.cells #[.slice (some ⟨w.heap.size, 0, none⟩) n n] 62)
    have hzz : (w.alloc (.cells cs 65)).heap.size = w.heap.size + 1 := by simp
    rw [hzz] at hx
    refine ⟨(below_alloc w _).trans ((below_alloc _ _).mono (by omega)), by omega, hx, if_neg (by omega), ?_⟩
    exact Rw.nil (ho.alloc _) (if_pos rfl)
  obtain ⟨kw, hkw⟩ : ∃ kw, kw = (R + 63) / 64 := ⟨_, rfl⟩
  have HKW : Hid (kw = (R + 63) / 64) := hkw
  have hkw2 : kw ≤ 100 := by omega
  have HNS : Hid (∀ u : World, Calls Tryz.prog 61 #[.int .i64 (R : Int)] u fun e w' => e = .returned (.slice (some ⟨u.heap.size, 0, none⟩) kw kw) ∧ w'.ownsRow u.heap.size 110 1 (.slice (some ⟨u.heap.size, 0, none⟩) kw kw) kw (Pl.wsV (List.replicate kw 0)) ∧ Below u.heap.size u w') := fun u => by rw [hkw]; exact newSetI_is R (by omega) u
  clear hcs0 hcl hcs hi0 hz0 hz1 hz2 hNL hT hlen hkw
  refine (callsIn_wide (n := 4)).1 ?_
  refine callsIn_of_wp_marks Tryz.func33 rfl trivial ?_ rfl
  simp only [Tryz.ntmps33, List.size_toArray, List.length_cons, List.length_nil, Nat.reduceAdd, Nat.reduceSub, Array.replicate_succ, Array.replicate_zero, List.push_toArray, List.append_toArray, List.nil_append, List.cons_append]
  gi_wp2
  gi_loopw [16] (fun v wr => ∃ (i : Nat), i ≤ n ∧ v = .int .i64 (i : Int) ∧ Hid (∃ A C WS T, St w wr w.heap.size (w.heap.size + 1) n A C WS T ∧ ∀ j, j < i → (∃ q, A j = some ⟨q, 0, none⟩) ∧ WS j = List.replicate kw 0)) (fun v _ => n - (intOf v).toNat)
  case atStart => exact ⟨0, Nat.zero_le _, rfl, _, _, _, _, HS0.out, fun j hj => absurd hj (Nat.not_lt_zero _)⟩
  case round =>
    obtain ⟨i, hi, rfl, HA⟩ := hrel
    obtain ⟨A, C, WS, T, hst, hj⟩ := HA.out
    have HA2 : Hid (St w wr w.heap.size (w.heap.size + 1) n A C WS T ∧ ∀ j, j < i → (∃ q, A j = some ⟨q, 0, none⟩) ∧ WS j = List.replicate kw 0) := ⟨hst, hj⟩
    have t3 : wr.cell? ⟨w.heap.size + 1, 0, none⟩ = some (.slice (some ⟨w.heap.size, 0, none⟩) n n) := cell_of_row wr _ 0 _ 62 (0, 0) hst.box
    have t2 := HC.out wr hst.bel
    clear HA hj
    by_cases hlt : i < n
    · have hii : (i : Int) < (n : Int) := by omega
      have ci := hst.rw_.cell hlt
      have hbs : w.heap.size + 1 < wr.heap.size := (Array.getElem?_eq_some_iff.1 hst.box).1
      have hgr : gr < wr.heap.size := block_lt_of_cell t2
      have HFZ : Hid (∀ u, Below wr.heap.size wr u → u.frozen? ⟨w.heap.size, i, none⟩ = false) := fun u hu => (hst.rw_.later hu).oo.frozenAt i
      generalize hcv : (Value.slice (A i) (Pl.wsV (WS i)).length (C i)) = V0 at ci
      clear hst hcv
      gi_wp2
      refine lb5_is gr w.heap.size (w.heap.size + 1) n i R kw wr t3 t2 ci HFZ.out hlt hn.2 HNS _ _ _ _ _ _ _ _ _ _ _ _ _ _ _ _ _ _ _ _ _ _ _ _ _ _ _ _ _ _ _ _ _ _ _ _ _ _ _ _ _ _ _ _ _ _ _ _ _ _ _ ?_
      intro s19 s20 s21 s22 s23 s24 s25 s26 s27 G y1 o1 b1
      have HN : Hid (∃ A C WS T, St w (y1.setCell ⟨w.heap.size, i, none⟩ (.slice (some ⟨G, 0, none⟩) kw kw)) w.heap.size (w.heap.size + 1) n A C WS T ∧ ∀ j, j < i + 1 → (∃ q, A j = some ⟨q, 0, none⟩) ∧ WS j = List.replicate kw 0) := by
        have hl : (List.replicate kw 0).length = kw := by simp
        have key := HA2.out.1.lay hlt b1 (g := G) (c := kw) (ws := List.replicate kw 0) (o1.lt G rfl).1 (by rw [hl]; exact own_lowL o1 HA2.out.1.bel.size)
        rw [hl] at key
        refine ⟨_, _, _, _, key, fun j hj => ?_⟩
        by_cases e : j = i
        · subst e; rw [upd_at, upd_at]; exact ⟨⟨G, rfl⟩, rfl⟩
        · rw [upd_ne e, upd_ne e]; exact HA2.out.2 j (by omega)
      clear o1 b1
      gi_wp2
      go_roundw
      case rel => exact ⟨i + 1, by omega, by go_num, HN⟩
      case measure => simp [intOf]; omega
    have hii : ¬ ((i : Int) < (n : Int)) := by omega
    have hie : i = n := by omega
    have H2 : Hid (St w wr w.heap.size (w.heap.size + 1) n A C WS T ∧ ∀ j, j < n → (∃ q, A j = some ⟨q, 0, none⟩) ∧ WS j = List.replicate kw 0) := by rw [← hie]; exact ⟨hie ▸ HA2.out.1, HA2.out.2⟩
    clear hie hst HA2 t2
    gi_wp2_with (refine ⟨trivial, ?_⟩; gi_at_call 62; refine (callsIn_wide.2 (HNL.out _ H2.out.1.bel)).mono ?_; rintro e u1 ⟨gl, gb, gs, gu, gt, B, U, S, ss, TL, rfl, hLv, hLF⟩; have HLv : Hid (Lv wr u1 gl gb gs gu gt n R B U S ss TL ∧ LvF code n B U S ss) := ⟨hLv, hLF⟩; have t2 := HC.out u1 (H2.out.1.bel.trans (hLv.bel.mono H2.out.1.bel.size)); clear hLv hLF)
    have HIB0 : Hid (IB w w.heap.size (w.heap.size + 1) n R kw code wr.heap.size gl gb gs gu gt B U S ss TL 0 [] [] u1) := by
      obtain ⟨h1, h2⟩ := HLv.out
      have hb := h1.bel
      refine ⟨⟨A, C, WS, T, H2.out.1.later hb, fun j hj => ?_⟩, ⟨wr, rfl, h1⟩, List.nodup_nil, fun D hD => (by cases hD), ⟨H2.out.1.bel.size, hb.size⟩, HT.out.1.keep (block_lt_of_cell (HT.out.1 0 (by decide))) (H2.out.1.bel.trans (hb.mono H2.out.1.bel.size)), block_lt_of_cell (HT.out.1 0 (by decide))⟩
      obtain ⟨⟨q, hq⟩, hws⟩ := H2.out.2 j hj
      refine ⟨⟨q, hq, ((H2.out.1.rw_.nr j hj).lt q (by rw [hq]; rfl)).2⟩, by rw [hws]; exact Pl.smallW_nil kw, by rw [hws]; simp, fun z => ?_⟩
      rw [hws, Pl.inW_nil]
      simp
    have HLF : Hid (LvF code n B U S ss) := HLv.out.2
    have hRi : (R : Int) ≤ 2000 := by omega
    clear HLv H2 t3 t2 HNL HNS hmk HS0
    refine wpIn_loop (fun a' W => ∃ (r : Nat) (Ds : List Nat) (v6 v37 v38 v39 v40 v41 v42 v51 : Value), r ≤ R ∧ a' = { tmps := #[.pointer (some ⟨gr, 0, none⟩), undef, .slice none 0 0, .pointer (some ⟨w.heap.size + 1, 0, none⟩), u4, .pointer (some ⟨gl, 0, none⟩), v6, undef, .pointer (some ⟨gr, 0, none⟩), .pointer (some ⟨gr, 0, none⟩), .pointer (some ⟨gr, 5, none⟩), .slice (some ⟨g, 0, none⟩) n c, .int .i64 (n : Int), .slice (some ⟨w.heap.size, 0, none⟩) n n, .slice (some ⟨w.heap.size, 0, none⟩) n n, .int .i64 (n : Int), .int .i64 (i : Int), .bool false, u18, u19, u20, u21, u22, u23, u24, u25, u26, u27, u28, .pointer (some ⟨gr, 0, none⟩), .pointer (some ⟨gl, 0, none⟩), .pointer (some ⟨gr, 0, none⟩), .pointer (some ⟨gr, 0, none⟩), .pointer (some ⟨gr, 0, none⟩), .pointer (some ⟨gr, 2, none⟩), .int .i64 (R : Int), .int .i64 (r : Int), v37, v38, v39, v40, v41, v42, undef, undef, undef, undef, undef, undef, undef, undef, v51, undef], defers := Ds.map mark } ∧ IB w w.heap.size (w.heap.size + 1) n R kw code wr.heap.size gl gb gs gu gt B U S ss TL r [] Ds W) (fun a' _ => R - (intOf (a'.tmps.getD 36 undef)).toNat) ?start ?round
    case start => exact ⟨0, [], undef, undef, undef, undef, undef, undef, undef, undef, Nat.zero_le _, rfl, HIB0.out⟩
    case round =>
      rintro a' W ⟨r, Ds, v6, v37, v38, v39, v40, v41, v42, v51, hrR, rfl, hib⟩
      have HIB : Hid (IB w w.heap.size (w.heap.size + 1) n R kw code wr.heap.size gl gb gs gu gt B U S ss TL r [] Ds W) := hib
      obtain ⟨A2, C2, WS2, T2, hst2, _⟩ := hib.st
      have t3 : W.cell? ⟨w.heap.size + 1, 0, none⟩ = some (.slice (some ⟨w.heap.size, 0, none⟩) n n) := cell_of_row W _ 0 _ 62 (0, 0) hst2.box
      clear hib hst2
      by_cases hlt : r < R
      rotate_left
      · have hri : ¬ ((r : Int) < (R : Int)) := by omega
        have hre : r = R := by omega
        have HE : Hid (IB w w.heap.size (w.heap.size + 1) n R kw code wr.heap.size gl gb gs gu gt B U S ss TL R [] Ds W) := by have h := HIB.out; rw [hre] at h; exact h
        clear hre HIB
        gi_wp2
        refine leaves_marks (lo := w.heap.size) Ds W HE.out.dn HE.out.dd fun w' hs => ?_
        obtain ⟨A3, C3, WS3, T3, h1, h2⟩ := HE.out.st
        have hb' : Below w.heap.size w w' := ⟨hs.os.trans h1.bel.os, hs.tape.trans h1.bel.tape, hs.output.trans h1.bel.output, by rw [hs.size]; exact h1.bel.size, fun q hq => (hs.block q (.inl hq)).trans (h1.bel.block q hq)⟩
        refine ⟨_, results_tmp rfl _ _ _, w.heap.size, w.heap.size + 1, A3, C3, WS3, T3, rfl, h1.keepC hb' (fun q _ cs t hq => (hs.block q (.inr ⟨_, _, _, hq⟩)).trans hq), fun j hj => ?_⟩
        obtain ⟨⟨q, hq, _⟩, b2, b3, b4⟩ := h2 j hj
        refine ⟨⟨q, hq⟩, b2, b3.trans HKW.out, fun z => ?_⟩
        rw [b4]
        simp
      have hri : (r : Int) < (R : Int) := by omega
      have hr2 : (r : Int) ≤ 2000 := by omega
      obtain ⟨kk, hkk⟩ : ∃ kk, kk = (n + 63) / 64 := ⟨_, rfl⟩
      have hkk2 : kk ≤ 200 := by omega
      obtain ⟨W1, hW1⟩ : ∃ W1, W1 = W.alloc (.cells #[.int .i64 (r : Int)] 3) := ⟨_, rfl⟩
      have hbW1 : Below W.heap.size W W1 := by rw [hW1]; exact below_alloc _ _
      have hzW1 : W1.heap.size = W.heap.size + 1 := by rw [hW1]; simp
      have HLA : Hid (Calls Tryz.prog 63 #[.pointer (some ⟨gl, 0, none⟩), .int .i64 (r : Int)] W1 fun e w' => ∃ ws, e = .returned (.slice (some ⟨W.heap.size + 1, 0, none⟩) kk kk) ∧ w'.ownsRow (W.heap.size + 1) 110 1 (.slice (some ⟨W.heap.size + 1, 0, none⟩) kk kk) kk (Pl.wsV ws) ∧ Pl.smallW ws ∧ ws.length = kk ∧ (∀ q, Pl.inW ws q = true ↔ Pl.Live code (r : Int) q) ∧ Below W1.heap.size W1 w') := by
        obtain ⟨V, e, h3⟩ := (HIB.out.later hbW1).lv
        have := liveAt_is h3 code HT.out.2 HLF.out hn r hlt hR
        unfold LaSaid at this
        rw [hzW1, ← hkk] at this
        rw [hzW1]; exact this
      have HW1 : Hid (IB w w.heap.size (w.heap.size + 1) n R kw code wr.heap.size gl gb gs gu gt B U S ss TL r [] Ds W1 ∧ W1.heap[W.heap.size]? = some (.cells #[.int .i64 (r : Int)] 3 (0, 0)) ∧ W1.heap.size = W.heap.size + 1) := ⟨HIB.out.later hbW1, by rw [hW1]; exact heap_alloc_new W _, hzW1⟩
      have c6 : W1.cell? ⟨W.heap.size, 0, none⟩ = some (.int .i64 (r : Int)) := cell_of_row W1 _ 0 _ 3 (0, 0) HW1.out.2.1
      have HWE : Hid (W.alloc (.cells #[.int .i64 (r : Int)] 3) = W1) := hW1.symm
      clear hkk hbW1 hzW1 hW1
      gi_wp2_with (refine ⟨trivial, ?_⟩; gi_at_call 63; rw [HWE.out]; refine (callsIn_wide.2 HLA.out).mono ?_; rintro e u2 ⟨ws, rfl, o2, sm2, ln2, lv2, b2⟩; have H3 : Hid (u2.ownsRow (W.heap.size + 1) 110 1 (.slice (some ⟨W.heap.size + 1, 0, none⟩) kk kk) kk (Pl.wsV ws) ∧ Pl.smallW ws ∧ ws.length = kk ∧ (∀ q, Pl.inW ws q = true ↔ Pl.Live code (r : Int) q) ∧ Below W1.heap.size W1 u2) := ⟨o2, sm2, ln2, lv2, b2⟩; clear o2 sm2 ln2 lv2 b2)
      gi_wp2_with (refine ⟨trivial, ?_⟩; gi_at_call 64; refine (callsIn_wide.2 (allS_is _ _ _ _)).mono ?_; rintro e u3 ⟨rfl, hu3⟩; rw [hu3]; clear hu3 u3)
      obtain ⟨V, hV⟩ : ∃ V, V = u2.alloc (.cells #[.slice (some ⟨W.heap.size + 1, 0, none⟩) kk kk] 105) := ⟨_, rfl⟩
      have hBV : Below u2.heap.size u2 V := by rw [hV]; exact below_alloc _ _
      have hVz : V.heap.size = u2.heap.size + 1 := by rw [hV]; simp
      have hVx : V.heap[u2.heap.size]? = some (.cells #[.slice (some ⟨W.heap.size + 1, 0, none⟩) kk kk] 105 (0, 0)) := by rw [hV]; exact heap_alloc_new u2 _
      have hbu := H3.out.2.2.2.2
      have hu2z := hbu.size
      have hW1z := HW1.out.2.2
      have HI0 : Hid (∀ X, Below V.heap.size V X → IB w w.heap.size (w.heap.size + 1) n R kw code wr.heap.size gl gb gs gu gt B U S ss TL r [] Ds X ∧ SetAt X u2.heap.size (W.heap.size + 1) kk kk ws ∧ X.heap[W.heap.size]? = some (.cells #[.int .i64 (r : Int)] 3 (0, 0))) := fun X hX => by
        have i1 := ((HW1.out.1.later hbu).later hBV).later hX
        refine ⟨i1, ⟨?_, fun j hj => ?_, i1.tab⟩, ?_⟩
        · exact cell_of_row X _ 0 _ 105 (0, 0) ((hX.block _ (by omega)).trans hVx)
        · have o2 := H3.out.1
          have hg := (o2.lt (W.heap.size + 1) rfl).2
          rw [hX.cell (p := ⟨W.heap.size + 1, j, none⟩) (by show W.heap.size + 1 < _; omega), hBV.cell (p := ⟨W.heap.size + 1, j, none⟩) hg, o2.cellAt j (by omega)]
          exact Pl.wsV_at ws j (by have := H3.out.2.2.1; omega)
        · rw [hX.block _ (by omega), hBV.block _ (by omega), hbu.block _ (by omega)]
          exact HW1.out.2.1
      have HZW : Hid (wr.heap.size ≤ W.heap.size) := HIB.out.zb.2
      have HDS : Hid (∀ D ∈ Ds, D < W.heap.size) := fun D hD => (Array.getElem?_eq_some_iff.1 (HIB.out.dd D hD).2).1
      have HZ : Hid (V.heap.size = u2.heap.size + 1 ∧ W.heap.size + 1 ≤ u2.heap.size ∧ w.heap.size ≤ W.heap.size) := ⟨hVz, by omega, Nat.le_trans HIB.out.zb.1 HIB.out.zb.2⟩
      have HWS : Hid (Pl.smallW ws ∧ ws.length = kk ∧ ∀ q, Pl.inW ws q = true ↔ Pl.Live code (r : Int) q) := ⟨H3.out.2.1, H3.out.2.2.1, H3.out.2.2.2.1⟩
      rw [← hV]
      clear hV hBV hVz hVx hbu hu2z hW1z c6 t3
      refine rangeS_is 4 u2.heap.size (by decide) rfl rfl (W.heap.size + 1) kk kk ws HWS.out.1 HWS.out.2.1 (by omega) (fun acc X => IB w w.heap.size (w.heap.size + 1) n R kw code wr.heap.size gl gb gs gu gt B U S ss TL r acc Ds X ∧ SetAt X u2.heap.size (W.heap.size + 1) kk kk ws ∧ X.heap[W.heap.size]? = some (.cells #[.int .i64 (r : Int)] 3 (0, 0))) (fun _ => False) ?hJ ?h0 ?hIp ?hIxp (fun q X a' X' => a' = { tmps := #[.pointer (some ⟨gr, 0, none⟩), undef, .slice none 0 0, .pointer (some ⟨w.heap.size + 1, 0, none⟩), u4, .pointer (some ⟨gl, 0, none⟩), .pointer (some ⟨W.heap.size, 0, none⟩), .int .i64 (q : Int), .pointer (some ⟨gr, 0, none⟩), .pointer (some ⟨gr, 0, none⟩), .pointer (some ⟨gr, 5, none⟩), .slice (some ⟨g, 0, none⟩) n c, .int .i64 (n : Int), .slice (some ⟨w.heap.size, 0, none⟩) n n, .slice (some ⟨w.heap.size, 0, none⟩) n n, .int .i64 (n : Int), .int .i64 (i : Int), .bool false, u18, u19, u20, u21, u22, u23, u24, u25, u26, u27, u28, .pointer (some ⟨gr, 0, none⟩), .pointer (some ⟨gl, 0, none⟩), .pointer (some ⟨gr, 0, none⟩), .pointer (some ⟨gr, 0, none⟩), .pointer (some ⟨gr, 0, none⟩), .pointer (some ⟨gr, 2, none⟩), .int .i64 (R : Int), .int .i64 (r : Int), .bool true, .int .i64 (r : Int), .pointer (some ⟨gl, 0, none⟩), .int .i64 (r : Int), .slice (some ⟨W.heap.size + 1, 0, none⟩) kk kk, .func (.func 97) #[] #[.pointer (some ⟨u2.heap.size, 0, none⟩)], .int .i64 (q : Int), undef, undef, undef, undef, undef, undef, undef, v51, undef], defers := [] } ∧ X' = X) ?hassign ?hbody ?hdone ?hstop
      case hJ => rintro acc X ⟨_, h, _⟩; exact h
      case h0 => intro X hX _; exact HI0.out X hX
      case hIp =>
        rintro acc X l o o' ⟨h1, h2, h3⟩ hl1 hl2 ho hc
        exact ⟨h1.put (by have := HZ.out; omega) ho hc (fun q => by have := HDS.out l q; have := HZ.out; omega), h2.put ho hc, (World.putObj_heap_other (ne_of_kind h3 ho hc)).trans h3⟩
      case hIxp => intro X l o o' h; exact h.elim
      case hassign =>
        intro l q X K hK
        gi_wp2
        exact hK _ _ (Below.refl _ _) ⟨rfl, rfl⟩
      case hbody =>
        rintro l acc q rest X a' X1 o hacc hl1 hl2 ⟨h1, h2, h3⟩ hbk hb1 ⟨rfl, rfl⟩
        obtain ⟨o', ho', hoc⟩ := hbk l hl1 hl2
        have k1 := h1.put (o := o) (by have := HZ.out; omega) ho' hoc (fun z => by have := HDS.out l z; have := HZ.out; omega)
        have k2 := h2.put (o := o) ho' hoc
        have k3 : (X1.putObj l o).heap[W.heap.size]? = some (.cells #[.int .i64 (r : Int)] 3 (0, 0)) := (World.putObj_heap_other (ne_of_kind h3 ho' hoc)).trans h3
        have HBK : Hid (∀ b, V.heap.size ≤ b → b < V.heap.size + 2 → b < (X1.putObj l o).heap.size) := fun b c1 c2 => by
          obtain ⟨ob, q1, q2⟩ := hbk b c1 c2
          have hz : (X1.putObj l o).heap.size = X1.heap.size := by simp [World.putObj]
          rw [hz]; exact (Array.getElem?_eq_some_iff.1 q1).1
        have HGL : Hid (∀ gx cs t, X1.heap[gx]? = some (.cells cs t (0, 0)) → ∀ b, V.heap.size ≤ b → b < V.heap.size + 2 → b ≠ gx) := fun gx cs t hg b c1 c2 => by
          obtain ⟨ob, q1, q2⟩ := hbk b c1 c2
          exact (ne_of_kind hg q1 q2).symm
        obtain ⟨A3, C3, WS3, T3, s0, s2⟩ := h1.st
        have s1 := s0.keepC (putObj_belowB s0.bel (show w.heap.size ≤ l by have := HZ.out; omega) o) (KeepC.put ho' hoc)
        have hlq : Pl.Live code (r : Int) q := (HWS.out.2.2 q).1 ((Pl.mem_allW ws q).1 (by rw [← hacc]; simp))
        have hqn : q < n := by have := hlq.lt; have := HT.out.2; omega
        obtain ⟨⟨gx, hgx, hgz⟩, b2, b3, b4⟩ := s2 q hqn
        obtain ⟨cur, hcur⟩ := own_is_cells (s0.rw_.nr q hqn) (g := gx) (by rw [hgx]; rfl)
        have HNB : Hid (∀ b, V.heap.size ≤ b → b < V.heap.size + 2 → b ≠ gx) := HGL.out gx _ _ hcur
        obtain ⟨U2, hU2⟩ : ∃ U2, U2 = X1.putObj l o := ⟨_, rfl⟩
        rw [← hU2] at k1 k2 k3 HBK s1 ⊢
        have t3 : U2.cell? ⟨w.heap.size + 1, 0, none⟩ = some (.slice (some ⟨w.heap.size, 0, none⟩) n n) := cell_of_row U2 _ 0 _ 62 (0, 0) s1.box
        have hcl := s1.rw_.cell hqn
        rw [Pl.wsV_len, b3, hgx] at hcl
        have hnr := s1.rw_.nr q hqn
        rw [Pl.wsV_len, b3, hgx] at hnr
        have cr : U2.cell? ⟨W.heap.size, 0, none⟩ = some (.int .i64 (r : Int)) := cell_of_row U2 _ 0 _ 3 (0, 0) k3
        have K1 : Hid (IB w w.heap.size (w.heap.size + 1) n R kw code wr.heap.size gl gb gs gu gt B U S ss TL r acc Ds U2 ∧ SetAt U2 u2.heap.size (W.heap.size + 1) kk kk ws ∧ U2.heap[W.heap.size]? = some (.cells #[.int .i64 (r : Int)] 3 (0, 0)) ∧ St w U2 w.heap.size (w.heap.size + 1) n A3 C3 WS3 T3) := ⟨k1, k2, k3, s1⟩
        have HS2 : Hid _ := s2
        have HGX : Hid (A3 q = some ⟨gx, 0, none⟩ ∧ (WS3 q).length = kw ∧ gx < wr.heap.size ∧ w.heap.size ≤ gx) := ⟨hgx, b3, hgz, (hnr.lt gx rfl).1⟩
        clear hU2 k1 k2 k3 s1 s0 s2 h1 h2 h3 hbk hb1 ho' hoc hacc HGL hcur b4
        gi_wp2
        refine lb13_is l w.heap.size (w.heap.size + 1) W.heap.size n q gx kw (C3 q) r w.heap.size (WS3 q) U2 t3 hcl cr hqn hn.2 hnr b2 b3 (by have := HKW.out; omega) (by omega) _ _ _ _ _ _ _ _ _ _ _ _ _ _ _ _ _ _ _ _ _ _ _ _ _ _ _ _ _ _ _ _ _ _ _ _ _ _ _ _ _ _ _ _ _ _ _ _ _ _ _ ?_
        intro s44 s45 s46 s47 s48 s49 s50 y' o1 hO
        have hb2 := below_alloc U2 (.cells #[.int .i64 (r : Int)] 3)
        have j1 := K1.out.1.later hb2
        have j4 := K1.out.2.2.2.later hb2
        obtain ⟨e1, e2, e3, e4⟩ := HGX.out
        have HQ : Hid (qPost V.heap.size U2 (fun X => IB w w.heap.size (w.heap.size + 1) n R kw code wr.heap.size gl gb gs gu gt B U S ss TL r (acc ++ [q]) Ds X ∧ SetAt X u2.heap.size (W.heap.size + 1) kk kk ws ∧ X.heap[W.heap.size]? = some (.cells #[.int .i64 (r : Int)] 3 (0, 0))) (fun _ => False) .normal { tmps := #[], defers := [] } y') := by
          have hz2 := K1.out.1.zb
          have hz3 := HZ.out
          have hW0 := HZW.out
          have hu2 : U2.heap.size ≤ (U2.alloc (.cells #[.int .i64 (r : Int)] 3)).heap.size := hb2.size
          refine ⟨fun b c1 c2 => ?_, j1.step j4 HS2.out hqn e1 (by have := HKW.out; omega) (by rw [e2, e1]; exact o1) hO, ?_, ?_⟩
          · rw [hO.block b (HNB.out b c1 c2)]
            exact hb2.block b (HBK.out b c1 c2)
          · refine (K1.out.2.1.later hb2).keep fun p v hp hpb => ?_
            rw [hO.cell (fun e => ?_)]
            · exact hp
            · rcases hpb with z | z | z
              · omega
              · omega
              · have := K1.out.1.tlo; omega
          · rw [hO.block _ (by omega)]
            exact (hb2.block _ (Array.getElem?_eq_some_iff.1 K1.out.2.2.1).1).trans K1.out.2.2.1
        exact HQ.out
      case hdone =>
        rintro X ⟨h1, h2, h3⟩ hD
        have HN : Hid (IB w w.heap.size (w.heap.size + 1) n R kw code wr.heap.size gl gb gs gu gt B U S ss TL (r + 1) [] (V.heap.size :: Ds) X) := by
          refine h1.next (fun j hj => ?_) (fun q => by have := HDS.out _ q; have := HZ.out; omega) (by have := HZ.out; omega) hD
          rw [Pl.mem_allW, HWS.out.2.2]
        clear h1 h2 h3 hD HI0
        gi_wp2
        refine ⟨⟨r + 1, V.heap.size :: Ds, _, _, _, _, _, _, _, _, by omega, rfl, HN.out⟩, ?_⟩
        simp [intOf]; omega
      case hstop => intro X h; exact h.elim
end Go.Proofs.YtcgfgmlfbgbkfaaGreatDoor.W
namespace Go.Proofs.YtcgfgmlfbgbkfaaGreatDoor.W
open Go.RowKit
def sumN (n : Nat) (g : Nat → Nat) : Nat := match n with
  | 0 => 0
  | n + 1 => sumN n g + g n
theorem sumN_same {n : Nat} {g h : Nat → Nat} (e : ∀ i, i < n → g i = h i) : sumN n g = sumN n h := by
  induction n with
  | zero => rfl
  | succ n ih => rw [sumN, sumN, ih (fun i hi => e i (by omega)), e n (by omega)]
theorem sumN_one {n : Nat} {g h : Nat → Nat} {i0 : Nat} (h0 : i0 < n) (e : ∀ i, i < n → i ≠ i0 → g i = h i) (e0 : g i0 + 1 = h i0) : sumN n g + 1 = sumN n h := by
  induction n with
  | zero => omega
  | succ n ih =>
    rw [sumN, sumN]
    by_cases q : i0 = n
    · subst q
      rw [sumN_same (fun i hi => e i (by omega) (by omega))]; omega
    · have := ih (by omega) (fun i hi hn => e i (by omega) hn)
      rw [e n (by omega) (fun c => q c.symm)]; omega
def un (n R : Nat) (m : Nat → Nat → Bool) : Nat := sumN n fun i => sumN R fun r => if m i r = true then 0 else 1
theorem un_set {n R : Nat} {m : Nat → Nat → Bool} {i r : Nat} (hi : i < n) (hr : r < R) (h : m i r = false) : un n R (setM m i r) + 1 = un n R m := by
  unfold un
  refine sumN_one hi (fun j _ hj => ?_) ?_
  · rw [setM_other hj]
  · refine sumN_one hr (fun q _ hq => ?_) ?_
    · simp [setM, hq]
    · simp [setM, h]
theorem un_same {n R : Nat} {m m' : Nat → Nat → Bool} (h : ∀ i r, i < n → r < R → m i r = m' i r) : un n R m = un n R m' := by
  unfold un
  exact sumN_same fun i hi => sumN_same fun r hr => by rw [h i r hi hr]
noncomputable def unW (n R : Nat) (G : Nat → Nat) (w : World) : Nat := un n R fun i r => @decide (w.cell? ⟨G i, r, none⟩ = some (.bool true)) (Classical.propDecidable _)
structure Ps (f : Pl.IrF) (n R : Nat) (NS : Nat → List Int) (m0 m : Nat → Nat → Bool) (b : Bool) (done : Nat → Nat → Nat → Prop) : Prop where
  no : b = false → (∀ i r, i < n → r < R → m i r = m0 i r) ∧ ∀ i q r (j : Nat), i < n → q < (NS i).length → r < R → done i q r → (NS i).getD q 0 = (j : Int) → m j r = true → ¬ Pl.Se f.code i r → m i r = true
  yes : b = true → un n R m < un n R m0
  le : un n R m ≤ un n R m0
  live : ∀ i r, i < n → r < R → m i r = true → Pl.Live f.code (r : Int) i
  use : ∀ i r, i < n → r < R → Pl.Us f.code i (r : Int) → m i r = true
theorem Ps.keep {f : Pl.IrF} {n R : Nat} {NS : Nat → List Int} {m0 m : Nat → Nat → Bool} {b : Bool} {done done' : Nat → Nat → Nat → Prop} (h : Ps f n R NS m0 m b done) (hd : ∀ i q r, i < n → q < (NS i).length → r < R → done' i q r → done i q r) : Ps f n R NS m0 m b done' :=
  ⟨fun hb => ⟨(h.no hb).1, fun i q r j hi hq hr d e1 e2 e3 => (h.no hb).2 i q r j hi hq hr (hd i q r hi hq hr d) e1 e2 e3⟩, h.yes, h.le, h.live, h.use⟩
theorem Ps.pass {f : Pl.IrF} {n R : Nat} {NS : Nat → List Int} {m0 m : Nat → Nat → Bool} {b : Bool} {done done' : Nat → Nat → Nat → Prop} (h : Ps f n R NS m0 m b done) {i0 q0 r0 j0 : Nat} (hj : (NS i0).getD q0 0 = (j0 : Int)) (hd : ∀ i q r, i < n → q < (NS i).length → r < R → done' i q r → done i q r ∨ (i = i0 ∧ q = q0 ∧ r = r0)) (hn : m j0 r0 = true → ¬ Pl.Se f.code i0 r0 → m i0 r0 = true) : Ps f n R NS m0 m b done' :=
  ⟨fun hb => ⟨(h.no hb).1, fun i q r j hi hq hr d e1 e2 e3 => by
    rcases hd i q r hi hq hr d with d | ⟨rfl, rfl, rfl⟩
    · exact (h.no hb).2 i q r j hi hq hr d e1 e2 e3
    · have : j = j0 := by omega
      subst this
      exact hn e2 e3⟩, h.yes, h.le, h.live, h.use⟩
theorem Ps.hit {f : Pl.IrF} {n R : Nat} {NS : Nat → List Int} {m0 m : Nat → Nat → Bool} {b : Bool} {done done' : Nat → Nat → Nat → Prop} (h : Ps f n R NS m0 m b done) {i0 r0 : Nat} (hi : i0 < n) (hr : r0 < R) (hm : m i0 r0 = false) (hl : Pl.Live f.code (r0 : Int) i0) : Ps f n R NS m0 (setM m i0 r0) true done' := by
  have hu := un_set hi hr hm
  refine ⟨(fun c => (by cases c)), fun _ => (by have := h.le; omega), (by have := h.le; omega), fun i r h1 h2 h3 => ?_, fun i r h1 h2 h3 => ?_⟩
  · by_cases e : i = i0 ∧ r = r0
    · rw [e.1, e.2]; exact hl
    · simp [setM, e] at h3; exact h.live i r h1 h2 h3
  · by_cases e : i = i0 ∧ r = r0
    · simp [setM, e]
    · simp [setM]; exact .inr (h.use i r h1 h2 h3)
theorem Ps.end_ {f : Pl.IrF} (hf : Pl.funOk f) {R : Nat} {NS : Nat → List Int} (hns : ∀ i, i < f.code.length → Pl.NxL f.code i (NS i)) {m0 m : Nat → Nat → Bool} {done : Nat → Nat → Nat → Prop} (h : Ps f f.code.length R NS m0 m false done) (hd : ∀ i q r, i < f.code.length → q < (NS i).length → r < R → done i q r) : ∀ i r, i < f.code.length → r < R → (m i r = true ↔ Pl.Live f.code (r : Int) i) := by
  intro i r hi hr
  refine ⟨h.live i r hi hr, fun hl => ?_⟩
  refine Pl.live_least (fun i => m i r = true) (fun i hi hu => h.use i r hi hr hu) (fun i j hi hj hn hs hm => ?_) hl
  have hj : ((j : Int)) ∈ NS i := ((hns i hi).2 j).2 ⟨j, rfl, hn⟩
  obtain ⟨q, hq, hq2⟩ := List.getElem_of_mem hj
  exact (h.no rfl).2 i q r j hi hq hr (hd i q r hi hq hr) (by rw [List.getD_eq_getElem?_getD, List.getElem?_eq_getElem hq]; exact hq2) hm hs
end Go.Proofs.YtcgfgmlfbgbkfaaGreatDoor.W
