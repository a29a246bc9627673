import Derived.Test.YtcgfgmlfbgbkfaaGreatDoorL22
import Derived.Test.YtcgfgmlfbgbkfaaGreatDoorQ03
import Derived.Deep.AppendLies
set_option linter.unusedVariables false
set_option linter.unusedSimpArgs false
namespace Go.Proofs.YtcgfgmlfbgbkfaaGreatDoor.Pl
/-- the places of the calls among the first -/
def CallU (code : List IrI) (i : Nat) (xs : List Int) : Prop := (∀ a b, a < b → b < xs.length → xs.getD a 0 < xs.getD b 0) ∧ ∀ p : Int, p ∈ xs ↔ ∃ k : Nat, p = (k : Int) ∧ k < i ∧ isCall code k
theorem CallU.nil (code : List IrI) : CallU code 0 [] := ⟨fun a b _ h => absurd h (Nat.not_lt_zero _), fun p => ⟨(fun h => nomatch h), fun ⟨k, _, h, _⟩ => absurd h (Nat.not_lt_zero _)⟩⟩
theorem CallU.no {code : List IrI} {i : Nat} {xs : List Int} (h : CallU code i xs) (hc : ¬ isCall code i) : CallU code (i + 1) xs := by
  refine ⟨h.1, fun p => (h.2 p).trans ⟨fun ⟨k, e, hk, q⟩ => ⟨k, e, by omega, q⟩, fun ⟨k, e, hk, q⟩ => ⟨k, e, if g : k = i then absurd (g ▸ q) hc else by omega, q⟩⟩⟩
theorem CallU.yes {code : List IrI} {i : Nat} {xs : List Int} (h : CallU code i xs) (hc : isCall code i) : CallU code (i + 1) (xs ++ [(i : Int)]) := by
  have hlt : ∀ a, a < xs.length → xs.getD a 0 < (i : Int) := fun a ha => by
    have hm : xs.getD a 0 ∈ xs := by rw [List.getD_eq_getElem?_getD, List.getElem?_eq_getElem ha]; exact List.getElem_mem _
    obtain ⟨k, e, hk, _⟩ := (h.2 _).1 hm
    omega
  have hg1 : ∀ a, a < xs.length → (xs ++ [(i : Int)]).getD a 0 = xs.getD a 0 := fun a ha => by
    rw [List.getD_eq_getElem?_getD, List.getD_eq_getElem?_getD, List.getElem?_append_left ha]
  have hg2 : (xs ++ [(i : Int)]).getD xs.length 0 = (i : Int) := by
    rw [List.getD_eq_getElem?_getD, List.getElem?_append_right (Nat.le_refl _), Nat.sub_self]; rfl
  refine ⟨fun a b hab hb => ?_, fun p => ?_⟩
  · simp at hb
    by_cases e : b = xs.length
    · subst e; rw [hg2, hg1 a hab]; exact hlt a hab
    · rw [hg1 a (by omega), hg1 b (by omega)]; exact h.1 a b hab (by omega)
  · rw [List.mem_append, List.mem_singleton, h.2 p]
    constructor
    · rintro (⟨k, e, hk, q⟩ | e)
      · exact ⟨k, e, by omega, q⟩
      · exact ⟨i, e, by omega, hc⟩
    · rintro ⟨k, e, hk, q⟩
      by_cases g : k = i
      · exact .inr (by omega)
      · exact .inl ⟨k, e, by omega, q⟩
theorem CallU.all {code : List IrI} {xs : List Int} (h : CallU code code.length xs) : CallL code xs := ⟨h.1, h.2⟩
end Go.Proofs.YtcgfgmlfbgbkfaaGreatDoor.Pl
namespace Go.Proofs.YtcgfgmlfbgbkfaaGreatDoor.W
open Go.RowKit
theorem ta_9 (k : Nat) (hk : 1 ≤ k ∧ k ≤ 16) (x : Pl.IrI) (y : SV) : ∃ A : Value, ∀ w : World, (Instr.typeAssert (stV k x y) 93 168 true).run Tryz.prog w = .ok (.tuple #[A, .bool (decide (k = 9))]) w := by
  have e : k = 1 ∨ k = 2 ∨ k = 3 ∨ k = 4 ∨ k = 5 ∨ k = 6 ∨ k = 7 ∨ k = 8 ∨ k = 9 ∨ k = 10 ∨ k = 11 ∨ k = 12 ∨ k = 13 ∨ k = 14 ∨ k = 15 ∨ k = 16 := by omega
  rcases e with rfl | rfl | rfl | rfl | rfl | rfl | rfl | rfl | rfl | rfl | rfl | rfl | rfl | rfl | rfl | rfl
  · exact ⟨.agg #[.int .i64 0, .string ⟨#[]⟩, .slice none 0 0], fun w => by kernel_rfl⟩
  · exact ⟨.agg #[.int .i64 0, .string ⟨#[]⟩, .slice none 0 0], fun w => by kernel_rfl⟩
  · exact ⟨.agg #[.int .i64 0, .string ⟨#[]⟩, .slice none 0 0], fun w => by kernel_rfl⟩
  · exact ⟨.agg #[.int .i64 0, .string ⟨#[]⟩, .slice none 0 0], fun w => by kernel_rfl⟩
  · exact ⟨.agg #[.int .i64 0, .string ⟨#[]⟩, .slice none 0 0], fun w => by kernel_rfl⟩
  · exact ⟨.agg #[.int .i64 0, .string ⟨#[]⟩, .slice none 0 0], fun w => by kernel_rfl⟩
  · exact ⟨.agg #[.int .i64 0, .string ⟨#[]⟩, .slice none 0 0], fun w => by kernel_rfl⟩
  · exact ⟨.agg #[.int .i64 0, .string ⟨#[]⟩, .slice none 0 0], fun w => by kernel_rfl⟩
  · exact ⟨.agg #[.int .i64 x.d, .string x.sym, .slice y.a y.len y.cap], fun w => by kernel_rfl⟩
  · exact ⟨.agg #[.int .i64 0, .string ⟨#[]⟩, .slice none 0 0], fun w => by kernel_rfl⟩
  · exact ⟨.agg #[.int .i64 0, .string ⟨#[]⟩, .slice none 0 0], fun w => by kernel_rfl⟩
  · exact ⟨.agg #[.int .i64 0, .string ⟨#[]⟩, .slice none 0 0], fun w => by kernel_rfl⟩
  · exact ⟨.agg #[.int .i64 0, .string ⟨#[]⟩, .slice none 0 0], fun w => by kernel_rfl⟩
  · exact ⟨.agg #[.int .i64 0, .string ⟨#[]⟩, .slice none 0 0], fun w => by kernel_rfl⟩
  · exact ⟨.agg #[.int .i64 0, .string ⟨#[]⟩, .slice none 0 0], fun w => by kernel_rfl⟩
  · exact ⟨.agg #[.int .i64 0, .string ⟨#[]⟩, .slice none 0 0], fun w => by kernel_rfl⟩
theorem ta_10 (k : Nat) (hk : 1 ≤ k ∧ k ≤ 16) (x : Pl.IrI) (y : SV) : ∃ A : Value, ∀ w : World, (Instr.typeAssert (stV k x y) 93 170 true).run Tryz.prog w = .ok (.tuple #[A, .bool (decide (k = 10))]) w := by
  have e : k = 1 ∨ k = 2 ∨ k = 3 ∨ k = 4 ∨ k = 5 ∨ k = 6 ∨ k = 7 ∨ k = 8 ∨ k = 9 ∨ k = 10 ∨ k = 11 ∨ k = 12 ∨ k = 13 ∨ k = 14 ∨ k = 15 ∨ k = 16 := by omega
  rcases e with rfl | rfl | rfl | rfl | rfl | rfl | rfl | rfl | rfl | rfl | rfl | rfl | rfl | rfl | rfl | rfl
  · exact ⟨.agg #[.int .i64 0, .int .i64 0, .slice none 0 0], fun w => by kernel_rfl⟩
  · exact ⟨.agg #[.int .i64 0, .int .i64 0, .slice none 0 0], fun w => by kernel_rfl⟩
  · exact ⟨.agg #[.int .i64 0, .int .i64 0, .slice none 0 0], fun w => by kernel_rfl⟩
  · exact ⟨.agg #[.int .i64 0, .int .i64 0, .slice none 0 0], fun w => by kernel_rfl⟩
  · exact ⟨.agg #[.int .i64 0, .int .i64 0, .slice none 0 0], fun w => by kernel_rfl⟩
  · exact ⟨.agg #[.int .i64 0, .int .i64 0, .slice none 0 0], fun w => by kernel_rfl⟩
  · exact ⟨.agg #[.int .i64 0, .int .i64 0, .slice none 0 0], fun w => by kernel_rfl⟩
  · exact ⟨.agg #[.int .i64 0, .int .i64 0, .slice none 0 0], fun w => by kernel_rfl⟩
  · exact ⟨.agg #[.int .i64 0, .int .i64 0, .slice none 0 0], fun w => by kernel_rfl⟩
  · exact ⟨.agg #[.int .i64 x.d, .int .i64 x.a, .slice y.a y.len y.cap], fun w => by kernel_rfl⟩
  · exact ⟨.agg #[.int .i64 0, .int .i64 0, .slice none 0 0], fun w => by kernel_rfl⟩
  · exact ⟨.agg #[.int .i64 0, .int .i64 0, .slice none 0 0], fun w => by kernel_rfl⟩
  · exact ⟨.agg #[.int .i64 0, .int .i64 0, .slice none 0 0], fun w => by kernel_rfl⟩
  · exact ⟨.agg #[.int .i64 0, .int .i64 0, .slice none 0 0], fun w => by kernel_rfl⟩
  · exact ⟨.agg #[.int .i64 0, .int .i64 0, .slice none 0 0], fun w => by kernel_rfl⟩
  · exact ⟨.agg #[.int .i64 0, .int .i64 0, .slice none 0 0], fun w => by kernel_rfl⟩

/-- what callPlaces says -/
def CpSaid (w : World) (code : List Pl.IrI) (e : Ending) (w' : World) : Prop := ∃ (xs : List Int) (g m c : Nat), e = .returned (.slice (some ⟨g, 0, none⟩) m c) ∧ m = xs.length ∧ m ≤ code.length ∧ w'.ownsRow w.heap.size 3 1 (.slice (some ⟨g, 0, none⟩) m c) m (xs.map (Value.int .i64)) ∧ Pl.CallL code xs ∧ Below w.heap.size w w'
set_option maxHeartbeats 8000000 in
set_option maxRecDepth 100000 in
theorem callPlaces_is (gr g n c : Nat) (code : List Pl.IrI) (Y : Nat → SV) (w : World) (hn : n = code.length) (hn8 : n ≤ 8000) (hgr : gr < w.heap.size) (hg : g < w.heap.size) (c5 : w.cell? ⟨gr, 5, none⟩ = some (.slice (some ⟨g, 0, none⟩) n c)) (cz : ∀ i, i < n → w.cell? ⟨g, i, none⟩ = some (stV (code.getD i Pl.IrI.zero).op.toNat (code.getD i Pl.IrI.zero) (Y i))) (ho : ∀ i, i < n → 1 ≤ (code.getD i Pl.IrI.zero).op ∧ (code.getD i Pl.IrI.zero).op ≤ 16) : Calls Tryz.prog 71 #[.pointer (some ⟨gr, 0, none⟩)] w fun e w' => CpSaid w code e w' := by
  have HZ : Hid (∀ u, Below w.heap.size w u → ∀ i, i < n → u.cell? ⟨g, i, none⟩ = some (stV (code.getD i Pl.IrI.zero).op.toNat (code.getD i Pl.IrI.zero) (Y i))) := fun u hu i hi => (hu.cell (p := ⟨g, i, none⟩) hg).trans (cz i hi)
  have HO : Hid ((∀ i, i < n → 1 ≤ (code.getD i Pl.IrI.zero).op ∧ (code.getD i Pl.IrI.zero).op ≤ 16) ∧ n = code.length) := ⟨ho, hn⟩
  obtain ⟨i0, hi0, hz0, hz1, hz2⟩ := info_parts Tryz.infoi64
  have HI : Hid (_ ∧ _ ∧ _ ∧ _) := ⟨hi0, hz0, hz1, hz2⟩
  clear hi0 hz0 hz1 hz2 cz ho hn
  go_enter Tryz.func71, Tryz.ntmps71
  go_wp2_with fail
  go_loopw [3, 12] (fun o t wr => ∃ (i gq m cq : Nat), i ≤ n ∧ t = .int .i64 (i : Int) ∧ o = .slice (some ⟨gq, 0, none⟩) m cq ∧ m ≤ i ∧ Hid (∃ xs : List Int, m = xs.length ∧ wr.ownsRow w.heap.size 3 1 (.slice (some ⟨gq, 0, none⟩) m cq) m (xs.map (Value.int .i64)) ∧ Pl.CallU code i xs ∧ Below w.heap.size w wr)) (fun _ t _ => n - (intOf t).toNat)
  case atStart =>
    refine ⟨0, _, _, _, Nat.zero_le _, rfl, rfl, Nat.zero_le _, [], rfl, World.ownsRow_lit w #[] 0 (Nat.le_refl _) (Nat.zero_le _) rfl, Pl.CallU.nil _, below_alloc w _⟩
  case round =>
    obtain ⟨i, gq, m, cq, hin, rfl, rfl, hmi, SX⟩ := hrel
    obtain ⟨xs, hm, own, hU, bw⟩ := SX.out
    have HX : Hid (m = xs.length ∧ wr.ownsRow w.heap.size 3 1 (.slice (some ⟨gq, 0, none⟩) m cq) m (xs.map (Value.int .i64)) ∧ Pl.CallU code i xs ∧ Below w.heap.size w wr) := ⟨hm, own, hU, bw⟩
    have hwz := bw.size
    clear SX own hU bw hm
    by_cases hlt : i < n
    rotate_left
    · have hni : ¬ (i : Int) < (n : Int) := by omega
      have HE : Hid (CpSaid w code (.returned (.slice (some ⟨gq, 0, none⟩) m cq)) wr) := by
        obtain ⟨q1, q2, q3, q4⟩ := HX.out
        have hnn := HO.out.2
        exact ⟨xs, gq, m, cq, rfl, q1, by omega, q2, Pl.CallU.all (by rw [show code.length = i by omega]; exact q3), q4⟩
      go_wp2_with fail
      go_ret
      exact HE.out
    have hni : (i : Int) < (n : Int) := by omega
    have z1 := HZ.out wr HX.out.2.2.2 i hlt
    obtain ⟨x, hx⟩ : ∃ x, x = code.getD i Pl.IrI.zero := ⟨_, rfl⟩
    rw [← hx] at z1
    have hop := HO.out.1 i hlt
    rw [← hx] at hop
    obtain ⟨A1, ha1⟩ := ta_9 x.op.toNat (by omega) x (Y i)
    obtain ⟨A2, ha2⟩ := ta_10 x.op.toNat (by omega) x (Y i)
    obtain ⟨V, hV⟩ : ∃ V, V = stV x.op.toNat x (Y i) := ⟨_, rfl⟩
    rw [← hV] at z1 ha1 ha2
    obtain ⟨b1, hb1⟩ : ∃ b1, b1 = decide (x.op.toNat = 9) := ⟨_, rfl⟩
    obtain ⟨b2, hb2⟩ : ∃ b2, b2 = decide (x.op.toNat = 10) := ⟨_, rfl⟩
    rw [← hb1] at ha1
    rw [← hb2] at ha2
    have HB : Hid ((b1 = true ∨ b2 = true) ↔ Pl.isCall code i) := by
      unfold Pl.isCall
      rw [hb1, hb2, ← hx]
      simp only [decide_eq_true_eq]
      constructor
      · rintro (e | e)
        · exact .inl (by omega)
        · exact .inr (by omega)
      · rintro (e | e)
        · exact .inl (by omega)
        · exact .inr (by omega)
    clear hV hb1 hb2 hx hop
    by_cases hc : b1 = true ∨ b2 = true
    · have HC : Hid (Pl.isCall code i) := HB.out.1 hc
      clear HB
      have hbb : (b1 = true ∧ b2 = true) ∨ (b1 = true ∧ b2 = false) ∨ (b1 = false ∧ b2 = true) := by
        cases b1 <;> cases b2 <;> simp_all
      clear hc
      rcases hbb with ⟨rfl, rfl⟩ | ⟨rfl, rfl⟩ | ⟨rfl, rfl⟩
      all_goals
        go_wp2_with (at_builtin; refine wpList_append_lies _ rfl (.tmp 25) (.tmp 27) 22 rfl w.heap.size 3 i0 (.int .i64 0) 1 8 Tryz.underlying22 HI.out.1 HI.out.2.1 HI.out.2.2.1 HI.out.2.2.2 rfl (by decide) (.slice (some ⟨gq, 0, none⟩) m cq) m (xs.map (Value.int .i64)) rfl (World.ownsRow.alloc HX.out.2.1 _) ⟨wr.heap.size, 0, none⟩ 1 1 [.int .i64 (i : Int)] rfl rfl (one_newsM _ _ _ _ rfl) (by intro u hu; simp at hu; subst hu; rfl) (by decide) (by unfold maxLen; omega) (by omega) (by simp; omega) (wr.heap.size + 1) (by simp) ?_; intro g4 c4 y4 hown hgr hli hlt2; have H5 : Hid (y4.ownsRow w.heap.size 3 1 (.slice (some ⟨g4, 0, none⟩) (m + 1) c4) (m + 1) (xs.map (Value.int .i64) ++ [.int .i64 (i : Int)]) ∧ (wr.alloc (.cells #[.int .i64 (i : Int)] 3)).grownBy y4 (some gq)) := ⟨hown, hgr⟩; clear hown hgr hli hlt2)
        refine ⟨⟨i + 1, g4, m + 1, c4, by omega, by go_num, rfl, by omega, xs ++ [(i : Int)], by simp; exact HX.out.1, by rw [List.map_append]; exact H5.out.1, HX.out.2.2.1.yes HC.out, ?_⟩, by simp [intOf]; omega⟩
        refine (HX.out.2.2.2.trans ((below_alloc wr _).mono hwz)).grown H5.out.2 (by simp; omega) (fun q hq => ?_)
        simp only [Option.some.injEq] at hq
        subst hq
        exact (HX.out.2.1.lt _ rfl).1
    · have HC : Hid (¬ Pl.isCall code i) := fun q => hc (HB.out.2 q)
      clear HB
      obtain ⟨rfl, rfl⟩ : b1 = false ∧ b2 = false := by cases b1 <;> cases b2 <;> simp_all
      clear hc
      go_wp2_with fail
      exact ⟨⟨i + 1, gq, m, cq, by omega, by go_num, rfl, by omega, xs, HX.out.1, HX.out.2.1, HX.out.2.2.1.no HC.out, HX.out.2.2.2⟩, by simp [intOf]; omega⟩
end Go.Proofs.YtcgfgmlfbgbkfaaGreatDoor.W
