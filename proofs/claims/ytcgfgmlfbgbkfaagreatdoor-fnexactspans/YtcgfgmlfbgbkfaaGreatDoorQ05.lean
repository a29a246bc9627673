import Derived.Test.YtcgfgmlfbgbkfaaGreatDoorQ04
import Derived.Test.YtcgfgmlfbgbkfaaGreatDoorQ01
set_option linter.unusedVariables false
set_option linter.unusedSimpArgs false
namespace Go.Proofs.YtcgfgmlfbgbkfaaGreatDoor.Pl
/-- the greatest number of a set, or another -/
def LastW (ws : List Nat) (d z : Int) : Prop := (z = d ∧ ∀ n, inW ws n = false) ∨ ∃ n : Nat, z = (n : Int) ∧ inW ws n = true ∧ ∀ m, inW ws m = true → m ≤ n
theorem LastW.none {ws : List Nat} (d : Int) (h : ∀ i, i < ws.length → ws.getD i 0 = 0) : LastW ws d d := by
  refine .inl ⟨rfl, fun n => ?_⟩
  unfold inW
  have : ws.getD (n / 64) 0 = 0 := by
    by_cases e : n / 64 < ws.length
    · exact h _ e
    · rw [List.getD_eq_getElem?_getD, List.getElem?_eq_none (by omega)]; rfl
  rw [this, Nat.zero_testBit]
theorem LastW.at {ws : List Nat} (d : Int) {i k : Nat} (hi : i < ws.length) (hab : ∀ j, i < j → j < ws.length → ws.getD j 0 = 0) (hsm : ws.getD i 0 < 18446744073709551616) (hl : Ln (ws.getD i 0) k) : LastW ws d ((i : Int) * 64 + (k : Int) - 1) := by
  obtain ⟨h0, h1, h2⟩ := hl
  have hk : k ≤ 64 := Nat.le_of_not_lt fun c => by
    have : 2 ^ 64 ≤ 2 ^ (k - 1) := Nat.pow_le_pow_right (by decide) (by omega)
    have e : (2 : Nat) ^ 64 = 18446744073709551616 := by decide
    omega
  refine .inr ⟨i * 64 + (k - 1), by omega, ?_, fun m hm => ?_⟩
  · unfold inW
    rw [show (i * 64 + (k - 1)) / 64 = i by omega, show (i * 64 + (k - 1)) % 64 = k - 1 by omega]
    exact Nat.testBit_of_two_pow_le_and_two_pow_add_one_gt h1 (by rw [show k - 1 + 1 = k by omega]; exact h2)
  · unfold inW at hm
    by_cases e1 : m / 64 < i
    · omega
    · by_cases e2 : m / 64 = i
      · rw [e2] at hm
        have h3 := Nat.ge_two_pow_of_testBit hm
        have h4 : m % 64 < k := Nat.le_of_not_lt fun c => by
          have : 2 ^ k ≤ 2 ^ (m % 64) := Nat.pow_le_pow_right (by decide) (by omega)
          omega
        omega
      · exfalso
        have : ws.getD (m / 64) 0 = 0 := by
          by_cases e : m / 64 < ws.length
          · exact hab _ (by omega) e
          · rw [List.getD_eq_getElem?_getD, List.getElem?_eq_none (by omega)]; rfl
        rw [this, Nat.zero_testBit] at hm
        cases hm
end Go.Proofs.YtcgfgmlfbgbkfaaGreatDoor.Pl
namespace Go.Proofs.YtcgfgmlfbgbkfaaGreatDoor.W
open Go.RowKit Go.Shelf
attribute [local go_sem] Oper.semAt_some
/-- words that can be read -/
def RowU (W : World) (a : Option Addr) (len cap : Nat) (zs : List Nat) : Prop := ∃ gb, a = some ⟨gb, 0, none⟩ ∧ ∀ i, i < len → W.cell? ⟨gb, i, none⟩ = some (.int .u64 ((zs.getD i 0 : Nat) : Int))
set_option maxHeartbeats 8000000 in
set_option maxRecDepth 100000 in
theorem back_words_is (m bx l : Nat) (hm : 1 ≤ m) (a : Option Addr) (len cap : Nat) (zs : List Nat) (hlen : (len : Int) ≤ 9223372036854775807) (J : Nat → World → Prop) (Jx : World → Prop)
    (hJ : ∀ j W, J j W → W.cell? ⟨bx, 0, none⟩ = some (.slice a len cap) ∧ RowU W a len cap zs)
    (hY : ∀ j W, j < len → J j W → YieldAt Fence.wide (m - 1) Tryz.prog l #[.int .i64 ((len - 1 - j : Nat) : Int), .int .u64 ((zs.getD (len - 1 - j) 0 : Nat) : Int)] W fun e W' => (e = .returned (.bool true) ∧ J (j + 1) W') ∨ (e = .returned (.bool false) ∧ Jx W'))
    (W : World) (h0 : J 0 W) : CallsIn Fence.wide m Tryz.prog 115 #[.func (.yield l) #[] #[], .pointer (some ⟨bx, 0, none⟩)] W fun e W' => (∃ v, e = .returned v) ∧ (J len W' ∨ Jx W') := by
  have HY : Hid _ := hY
  have HJ : Hid _ := hJ
  have H0 : Hid (J 0 W) := h0
  have hc0 := (hJ 0 W h0).1
  clear hY hJ h0
  refine callsIn_of_wp Tryz.func115 rfl trivial ?_ rfl
  simp only [Tryz.ntmps115, List.size_toArray, List.length_cons, List.length_nil, Nat.reduceAdd, Nat.reduceSub, Array.replicate_succ, Array.replicate_zero, List.push_toArray, List.append_toArray, List.nil_append, List.cons_append]
  gi_wp2
  gi_loopw [3] (fun v wr => ∃ j : Nat, j ≤ len ∧ v = .int .i64 ((len : Int) - 1 - (j : Int)) ∧ J j wr) (fun v _ => (intOf v + 1).toNat)
  case atStart => exact ⟨0, Nat.zero_le _, by simp, H0.out⟩
  case round =>
    obtain ⟨j, hj, rfl, hjw⟩ := hrel
    have HJW : Hid (J j wr) := hjw
    clear hjw
    by_cases hlt : j < len
    · obtain ⟨q, hq⟩ : ∃ q : Nat, q = len - 1 - j := ⟨_, rfl⟩
      have hq1 : (len : Int) - 1 - (j : Int) = (q : Int) := by omega
      rw [hq1]
      have HQ : Hid ((len : Int) - 1 - (j : Int) = (q : Int)) := hq1
      have hql : q < len := by omega
      have hqi : (q : Int) < (len : Int) := by omega
      have hyy := HY.out j wr hlt HJW.out
      rw [← hq] at hyy
      obtain ⟨hbx, hrow⟩ := HJ.out j wr HJW.out
      obtain ⟨gb, rfl, hcz⟩ := hrow
      have cz := hcz q hql
      obtain ⟨z, hz⟩ : ∃ z, z = zs.getD q 0 := ⟨_, rfl⟩
      rw [← hz] at cz hyy
      clear hcz hz
      obtain ⟨fn, tmps, assign, body, hy, hR⟩ := hyy
      have HR : Hid _ := hR
      clear hR hq hq1 HY HJ H0 hc0
      gi_wp2
      refine RoundIn.mono HR.out ?_
      rintro e W3 (⟨rfl, hJ3⟩ | ⟨rfl, hJx3⟩)
      · have HJ3 : Hid (J (j + 1) W3) := hJ3
        clear hJ3 hy HR
        gi_wp2
        go_roundw
        case rel => exact ⟨j + 1, by omega, congrArg (Value.int .i64) (by have := HQ.out; omega), HJ3.out⟩
        case measure => simp [intOf]
      · have HJ3 : Hid (Jx W3) := hJx3
        clear hJx3 hy HR
        gi_wp2
        refine bodyPost_ret (results_none rfl _ _ _) rfl ?_
        exact ⟨⟨_, rfl⟩, .inr HJ3.out⟩
    · obtain rfl : len = j := by omega
      obtain ⟨d, hd⟩ : ∃ d : Int, (len : Int) - 1 - (len : Int) = d := ⟨_, rfl⟩
      rw [hd]
      have hdn : ¬ (0 : Int) ≤ d := by omega
      clear hd HY HJ H0 hc0
      gi_wp2
      refine bodyPost_end (results_none rfl _ _ _) rfl ?_
      exact ⟨⟨_, rfl⟩, .inl HJW.out⟩
set_option maxHeartbeats 4000000 in
/-- a range over slices.Backward of words -/
theorem range_words {op : Operand} {ps : Array Tmp} {assign body : Code} {Q : Exit → Act → World → Prop} {a : Act} {w : World} (n bx : Nat) (h1 : 2 ≤ n)
    (hop : a.eval op = .func (.func 115) #[] #[.pointer (some ⟨bx, 0, none⟩)]) (hps : ps.size = 2)
    (ad : Option Addr) (len cap : Nat) (zs : List Nat) (hlen : (len : Int) ≤ 9223372036854775807)
    (I : Nat → World → Prop) (Ix : World → Prop)
    (hJ : ∀ j W, I j W → W.cell? ⟨bx, 0, none⟩ = some (.slice ad len cap) ∧ RowU W ad len cap zs)
    (h0 : ∀ A, Below w.heap.size w A → w.heap.size + 2 ≤ A.heap.size → I 0 A)
    (hIp : ∀ j A l o o', I j A → w.heap.size ≤ l → l < w.heap.size + 2 → A.heap[l]? = some o' → o'.isCells = false → I j (A.putObj l o))
    (hIxp : ∀ A l o o', Ix A → w.heap.size ≤ l → l < w.heap.size + 2 → A.heap[l]? = some o' → o'.isCells = false → Ix (A.putObj l o))
    (Ax : Nat → World → Act → World → Prop)
    (hassign : ∀ (l q : Nat) (W : World) (K : Act → World → Prop), (∀ a' W', Below W.heap.size W W' → Ax q W a' W' → K a' W') →
      assign.wpIn (Fence.wide.inRound l) (n - 1 - 1) Tryz.prog (Exit.then K (fun _ _ _ => False)) { tmps := (ps.zip #[.int .i64 (q : Int), .int .u64 ((zs.getD q 0 : Nat) : Int)]).foldl (fun t (p, v) => t.setIfInBounds p v) a.tmps, defers := [] } W)
    (hbody : ∀ (l j : Nat) (W : World) (a' : Act) (W1 : World) (o : Obj), j < len → w.heap.size ≤ l → l < w.heap.size + 2 → I j W → (∀ b, w.heap.size ≤ b → b < w.heap.size + 2 → ∃ o', W.heap[b]? = some o' ∧ o'.isCells = false) → Below W.heap.size W W1 → Ax (len - 1 - j) W a' W1 →
      body.wpIn (Fence.wide.inRound l) (n - 1 - 1) Tryz.prog (qPost w.heap.size (W1.putObj l o) (I (j + 1)) Ix) a' (W1.putObj l o))
    (hdone : ∀ W, I len W → W.heap[w.heap.size]? = some (.deferred (some [])) → Q .normal { a with defers := { target := .collected w.heap.size, args := #[] } :: a.defers } W)
    (hstop : ∀ W, Ix W → W.heap[w.heap.size]? = some (.deferred (some [])) → Code.ret.wpIn Fence.wide n Tryz.prog Q { a with defers := { target := .collected w.heap.size, args := #[] } :: a.defers } W) :
    (Code.rangeFunc op ps assign body).wpIn Fence.wide n Tryz.prog Q a w := by
  refine wpIn_rangeFunc fun fn hfn => ?_
  let r0 : Loop := { state := .ready, pending := none, fn := fn, tmps := a.tmps, params := ps, assign := assign, body := body, defers := w.heap.size }
  obtain ⟨W1, hW1⟩ : ∃ W1, (w.alloc (.deferred (some []))).alloc (.loop r0) = W1 := ⟨_, rfl⟩
  have hL1 : W1.heap[w.heap.size + 1]? = some (.loop r0) := hW1 ▸ alloc_atB _ _ _ (by simp)
  have hD1 : W1.heap[w.heap.size]? = some (.deferred (some [])) := hW1 ▸ (Below.heap_alloc _ _ _ (by simp)).trans (alloc_atB w _ _ rfl)
  have hB1 : Below w.heap.size w W1 := by rw [← hW1]; exact (below_allocB w _).trans ((below_allocB _ _).mono (by simp))
  have hz1 : w.heap.size + 2 ≤ W1.heap.size := by have := (Array.getElem?_eq_some_iff.1 hL1).1; omega
  refine ⟨w.heap.size + 1, [{ target := .collected w.heap.size, args := #[] }], W1, { target := .fn (.func 115) #[.pointer (some ⟨bx, 0, none⟩)], args := #[.func (.yield (w.heap.size + 1)) #[] #[]] }, W1, 115,
    #[.func (.yield (w.heap.size + 1)) #[] #[]] ++ #[.pointer (some ⟨bx, 0, none⟩)], W1, ?_, ?_, ?_, ?_, fun _ => by omega, ?_⟩
  · rw [← hW1]; exact run_enterLoop_outer _ _ _ _ _
  · simp only [resolve, hop]
    simp [go_sem]
  · intro f' _; trivial
  · simp [invoke, go_sem, enters_of Tryz.func115 (by kernel_rfl) rfl]
  refine (back_words_is (n - 1) bx (w.heap.size + 1) (by omega) ad len cap zs hlen
    (fun j W => I j W ∧ W.heap[w.heap.size + 1]? = some (.loop r0) ∧ W.heap[w.heap.size]? = some (.deferred (some [])))
    (fun W => Ix W ∧ W.heap[w.heap.size + 1]? = some (.loop { r0 with state := .done, pending := some .ret }) ∧ W.heap[w.heap.size]? = some (.deferred (some [])))
    (fun j W h => hJ j W h.1) ?hY W1 ⟨h0 _ hB1 hz1, hL1, hD1⟩).mono ?post
  case hY =>
    rintro j W hj ⟨hi, hl, hd⟩
    have z0 : w.heap.size + 2 ≤ W.heap.size := by have := (Array.getElem?_eq_some_iff.1 hl).1; omega
    refine ⟨_, _, _, _, run_yield hl (by show 2 = ps.size; omega), roundIn_of_wpIn hfn (hassign _ (len - 1 - j) W _ fun a' W' hb ha => ?_)⟩
    have hl' : W'.heap[w.heap.size + 1]? = some (.loop r0) := (hb.block _ (by omega)).trans hl
    have hd' : W'.heap[w.heap.size]? = some (.deferred (some [])) := (hb.block _ (by omega)).trans hd
    refine ⟨_, run_beginRound hl' rfl, wpIn_mono (hbody _ j W a' W' _ hj (by omega) (by omega) hi (fun b hb1 hb2 => by rcases (show b = w.heap.size ∨ b = w.heap.size + 1 by omega) with rfl | rfl; exact ⟨_, hd, rfl⟩; exact ⟨_, hl, rfl⟩) hb ha) ?_⟩
    have zW' : w.heap.size + 2 ≤ W'.heap.size := Nat.le_trans z0 hb.size
    have hl2 : (W'.putObj (w.heap.size + 1) (.loop { r0 with state := .busy })).heap[w.heap.size + 1]? = some (.loop { r0 with state := .busy }) := World.putObj_heap_same (by omega)
    have hd2 : (W'.putObj (w.heap.size + 1) (.loop { r0 with state := .busy })).heap[w.heap.size]? = some (.deferred (some [])) := (World.putObj_heap_other (by omega)).trans hd'
    rintro e a3 W3 hp
    cases e with
    | normal =>
      obtain ⟨k1, hi3⟩ := hp
      have hl3 := (k1 (w.heap.size + 1) (by omega) (by omega)).trans hl2
      have hd3 := (k1 w.heap.size (by omega) (by omega)).trans hd2
      exact ⟨_, _, run_endRound none hl3, .inl ⟨rfl, hIp _ _ _ _ _ hi3 (by omega) (by omega) hl3 rfl, World.putObj_heap_same (Array.getElem?_eq_some_iff.1 hl3).1, (World.putObj_heap_other (by omega)).trans hd3⟩⟩
    | ret =>
      obtain ⟨k1, hi3⟩ := hp
      have hl3 := (k1 (w.heap.size + 1) (by omega) (by omega)).trans hl2
      have hd3 := (k1 w.heap.size (by omega) (by omega)).trans hd2
      exact ⟨_, _, run_endRound (some .ret) hl3, .inr ⟨rfl, hIxp _ _ _ _ hi3 (by omega) (by omega) hl3 rfl, World.putObj_heap_same (Array.getElem?_eq_some_iff.1 hl3).1, (World.putObj_heap_other (by omega)).trans hd3⟩⟩
    | exit id => exact hp.elim
    | goto t => exact hp.elim
    | panic ch => exact hp.elim
    | outgrown => exact hp.elim
  case post =>
    rintro e W2 ⟨⟨v, rfl⟩, (⟨hi, hl, hd⟩ | ⟨hi, hl, hd⟩)⟩
    · exact ⟨_, _, run_endLoop hl (show LoopState.ready ≠ LoopState.busy by decide), hdone _ (hIp _ _ _ _ _ hi (by omega) (by omega) hl rfl) ((World.putObj_heap_other (by omega)).trans hd)⟩
    · exact ⟨_, _, run_endLoop hl (show LoopState.done ≠ LoopState.busy by decide), hstop _ (hIxp _ _ _ _ hi (by omega) (by omega) hl rfl) ((World.putObj_heap_other (by omega)).trans hd)⟩
theorem fx_end {X : Value → Prop} {z : Int} {Y : Prop} {L : Int → Prop} (h : ∃ v, X v ∧ Ending.returned v = .returned (.int .i64 z) ∧ Y) (hL : L z) : ∃ v, X v ∧ ∃ z, Ending.returned v = .returned (.int .i64 z) ∧ L z ∧ Y := by
  obtain ⟨v, h1, h2, h3⟩ := h
  exact ⟨v, h1, z, h2, hL, h3⟩
theorem backS_is (a : Option Addr) (n c : Nat) (w : World) : Calls Tryz.prog 100 #[.slice a n c] w fun e w' => e = .returned (.func (.func 115) #[] #[.pointer (some ⟨w.heap.size, 0, none⟩)]) ∧ w' = w.alloc (.cells #[.slice a n c] 105) := by
  go_enter Tryz.func100, Tryz.ntmps100
  go_wp2
  go_ret
  exact ⟨rfl, rfl⟩
set_option maxHeartbeats 8000000 in
set_option maxRecDepth 100000 in
theorem last_is {lo : Nat} (g k c : Nat) (ws : List Nat) (hs : Pl.smallW ws) (hk : ws.length = k) (hk2 : k ≤ 1000) (d : Int) (w : World) (ho : w.ownsRow lo 110 1 (.slice (some ⟨g, 0, none⟩) k c) k (Pl.wsV ws)) (hT : TabT w) (hTl : 0 < w.heap.size) :
    Calls Tryz.prog 75 #[.slice (some ⟨g, 0, none⟩) k c, .int .i64 d] w fun e w' => ∃ z, e = .returned (.int .i64 z) ∧ Pl.LastW ws d z ∧ Below w.heap.size w w' := by
  have H0 : Hid (Pl.smallW ws ∧ ws.length = k) := ⟨hs, hk⟩
  obtain ⟨V, hV⟩ : ∃ V, V = (w.alloc (.cells #[.int .i64 0] 108)).alloc (.cells #[.slice (some ⟨g, 0, none⟩) k c] 105) := ⟨_, rfl⟩
  have hVz : V.heap.size = w.heap.size + 2 := by rw [hV]; simp
  have HFI : Hid (∀ A, Below V.heap.size V A → FI w 0 g k c ws A) := fun A hA => by
    have hg := (ho.lt g rfl).2
    have b1 : Below w.heap.size w V := by rw [hV]; exact (below_alloc w _).trans ((below_alloc _ _).mono (by simp))
    have b2 : Below w.heap.size w A := b1.trans (hA.mono b1.size)
    refine ⟨b2, ?_, ?_, fun i hi => ?_, hT.keep hTl b2⟩
    · rw [hA.block _ (by omega), hV]
      exact ((below_alloc _ _).block _ (by simp)).trans (heap_alloc_new w _)
    · rw [hA.cell (p := ⟨w.heap.size + 1, 0, none⟩) (show w.heap.size + 1 < V.heap.size by omega), hV]
      simp
    · rw [b2.cell (p := ⟨g, i, none⟩) hg, ho.cellAt i (by omega)]; exact Pl.wsV_at ws _ (by omega)
  have HVZ : Hid (V.heap.size = w.heap.size + 2) := hVz
  clear hs hk ho hT hTl hVz
  refine (callsIn_wide (n := 4)).1 ?_
  refine callsIn_of_wp_marks Tryz.func75 rfl trivial ?_ rfl
  simp only [Tryz.ntmps75, List.size_toArray, List.length_cons, List.length_nil, Nat.reduceAdd, Nat.reduceSub, Array.replicate_succ, Array.replicate_zero, List.push_toArray, List.append_toArray, List.nil_append, List.cons_append]
  gi_wp2_with (refine ⟨trivial, ?_⟩; gi_at_call 100; refine (callsIn_wide.2 (backS_is _ _ _ _)).mono ?_; rintro e u3 ⟨rfl, hu3⟩; rw [hu3]; clear hu3 u3)
  rw [← hV]
  clear hV
  refine range_words 4 (w.heap.size + 1) (by decide) rfl rfl (some ⟨g, 0, none⟩) k c ws (by omega) (fun j A => (∀ i, k - j ≤ i → i < k → ws.getD i 0 = 0) ∧ FI w 0 g k c ws A) (fun A => ∃ z, Pl.LastW ws d z ∧ FX w z A) ?hJ ?h0 ?hIp ?hIxp (fun q A a' A' => a' = { tmps := #[.slice (some ⟨g, 0, none⟩) k c, .int .i64 d, undef, undef, .pointer (some ⟨w.heap.size, 0, none⟩), .int .i64 (q : Int), .int .u64 ((ws.getD q 0 : Nat) : Int), .slice (some ⟨g, 0, none⟩) k c, .func (.func 115) #[] #[.pointer (some ⟨w.heap.size + 1, 0, none⟩)], .int .i64 (q : Int), .int .u64 ((ws.getD q 0 : Nat) : Int), undef, undef, undef, undef, undef, undef, undef, undef, undef], defers := [] } ∧ A' = A) ?hassign ?hbody ?hdone ?hstop
  case hJ => rintro j A ⟨_, h⟩; exact ⟨h.st.1, g, rfl, h.st.2.1⟩
  case h0 => intro A hA _; exact ⟨fun i h1 h2 => by omega, HFI.out A hA⟩
  case hIp => rintro acc A r o o' ⟨e, h⟩ h1 h2 h3 h4; exact ⟨e, h.put (by have := HVZ.out; omega) h3 h4⟩
  case hIxp => rintro A r o o' ⟨z, e, h⟩ h1 h2 h3 h4; exact ⟨z, e, h.put (by have := HVZ.out; omega) h3 h4⟩
  case hassign =>
    intro r q A K hK
    generalize ws.getD q 0 = x at hK ⊢
    gi_wp2
    exact hK _ _ (Below.refl _ _) ⟨rfl, rfl⟩
  case hbody =>
    rintro r j A a' A1 o hjk hr1 hr2 ⟨hzz, hfi⟩ hbk hb1 ⟨rfl, rfl⟩
    obtain ⟨o', ho', hoc⟩ := hbk r hr1 hr2
    have hU := hfi.put (o := o) (by have := HVZ.out; omega) ho' hoc
    obtain ⟨U, hUU⟩ : ∃ U, U = A1.putObj r o := ⟨_, rfl⟩
    rw [← hUU] at hU ⊢
    obtain ⟨q, hq⟩ : ∃ q, q = k - 1 - j := ⟨_, rfl⟩
    rw [← hq]
    obtain ⟨x, hx⟩ : ∃ x, x = ws.getD q 0 := ⟨_, rfl⟩
    rw [← hx]
    have HU : Hid (FI w 0 g k c ws U ∧ (∀ i, q < i → i < k → ws.getD i 0 = 0) ∧ x = ws.getD q 0) := ⟨hU, fun i h1 h2 => hzz i (by omega) h2, hx⟩
    have t4 : U.cell? ⟨w.heap.size, 0, none⟩ = some (.int .i64 0) := cell_of_row U _ 0 _ 108 (0, 0) hU.res
    have f4 : U.frozen? ⟨w.heap.size, 0, none⟩ = false := frozen_of_row U _ 0 _ 108 hU.res
    have hqk : q < k := by omega
    have hq9 : (q : Int) ≤ 1000 := by omega
    have HQJ : Hid (k - (j + 1) = q) := by show _ = _; omega
    have hxs : x < 18446744073709551616 := by rw [hx]; exact H0.out.1 q
    clear hfi hbk hb1 ho' hU hUU hzz hq hx
    by_cases hx0 : x = 0
    · have hxb : ((x : Int) != 0) = false := by simp [hx0]
      have HE : Hid (∀ b : Nat, (∀ i, k - (j + 1) ≤ i → i < k → ws.getD i 0 = 0) ∧ FI w 0 g k c ws U) := fun _ => ⟨fun i h1 h2 => by
        have := HQJ.out
        by_cases e : i = q
        · rw [e, ← HU.out.2.2, hx0]
        · exact HU.out.2.1 i (by omega) h2, HU.out.1⟩
      clear hx0
      gi_wp2
      exact ⟨fun b h1 h2 => rfl, HE.out 0⟩
    · have hxb : ((x : Int) != 0) = true := by simp [hx0]
      have HLN : Hid (∀ u : World, Calls Tryz.prog 101 #[.int .u64 (x : Int)] u fun e w' => (∃ k : Nat, e = .returned (.int .i64 (k : Int)) ∧ Pl.Ln x k ∧ k ≤ 64) ∧ w' = u) := fun u => (len64_is x hxs hx0 u).mono fun e w' h => ⟨by
        obtain ⟨⟨k, e1, e2⟩, _⟩ := h
        refine ⟨k, e1, e2, Nat.le_of_not_lt fun c => ?_⟩
        have : 2 ^ 64 ≤ 2 ^ (k - 1) := Nat.pow_le_pow_right (by decide) (by omega)
        have e : (2 : Nat) ^ 64 = 18446744073709551616 := by decide
        have := e2.2.1
        omega, h.2⟩
      clear hx0
      gi_wp2
      refine ⟨trivial, ?_⟩
      refine (((callsIn_wide (n := 1)).2 (HLN.out _)).inRound r).mono ?_
      rintro e u3 ⟨⟨kk, rfl, hkk, hk64⟩, hu3⟩
      rw [hu3]
      clear hu3 u3
      have HKK : Hid (Pl.Ln x kk) := hkk
      have hk65 : (kk : Int) ≤ 64 := by omega
      clear hkk
      gi_wp2
      refine ⟨fun b h1 h2 => heap_setCell_other U ⟨w.heap.size, 0, none⟩ b _ (by have := HVZ.out; show b ≠ w.heap.size; omega), (q : Int) * 64 + (kk : Int) - 1, ?_, HU.out.1.bel.setCell (Nat.le_refl _) _, ?_⟩
      rotate_left
      · rw [heap_setCell_same U w.heap.size 0 _ 108 _ HU.out.1.res]; rfl
      · have e := HU.out.2.2
        exact Pl.LastW.at d (by have := H0.out.2; omega) (fun i h1 h2 => HU.out.2.1 i h1 (by have := H0.out.2; omega)) (by rw [← e]; exact hxs) (by rw [← e]; exact HKK.out)
  case hdone =>
    rintro A ⟨e, hfi⟩ hD
    have HA : Hid (FI w 0 g k c ws A ∧ Pl.LastW ws d d ∧ A.heap[V.heap.size]? = some (.deferred (some []))) := ⟨hfi, Pl.LastW.none d (fun i hi => e i (by omega) (by have := H0.out.2; omega)), hD⟩
    have t4 : A.cell? ⟨w.heap.size, 0, none⟩ = some (.int .i64 0) := cell_of_row A _ 0 _ 108 (0, 0) hfi.res
    have f4 : A.frozen? ⟨w.heap.size, 0, none⟩ = false := frozen_of_row A _ 0 _ 108 hfi.res
    have HX : Hid (FX w d (A.setCell ⟨w.heap.size, 0, none⟩ (.int .i64 d))) := ⟨hfi.bel.setCell (Nat.le_refl _) _, by rw [heap_setCell_same A w.heap.size 0 _ 108 _ hfi.res]; rfl⟩
    clear hfi hD e
    gi_wp2
    refine leaves_marks (lo := w.heap.size) [V.heap.size] _ (by simp) (fun D hD => ?_) fun w' hs => ?_
    · rw [List.mem_singleton] at hD; subst hD
      have hz := HVZ.out
      exact ⟨by omega, (heap_setCell_other A ⟨w.heap.size, 0, none⟩ _ _ (show V.heap.size ≠ w.heap.size by omega)).trans HA.out.2.2⟩
    · exact fx_end (HX.out.res (p := 4) rfl rfl hs) HA.out.2.1
  case hstop =>
    rintro A ⟨z, e, hfx⟩ hD
    have HX : Hid (FX w z A ∧ Pl.LastW ws d z ∧ A.heap[V.heap.size]? = some (.deferred (some []))) := ⟨hfx, e, hD⟩
    clear hfx hD e
    gi_wp2
    refine leaves_marks (lo := w.heap.size) [V.heap.size] _ (by simp) (fun D hD => ?_) fun w' hs => ?_
    · rw [List.mem_singleton] at hD; subst hD
      have hz := HVZ.out
      exact ⟨by omega, HX.out.2.2⟩
    · exact fx_end (HX.out.1.res (p := 4) rfl rfl hs) HX.out.2.1
end Go.Proofs.YtcgfgmlfbgbkfaaGreatDoor.W
