import Derived.Test.YtgpmplcamdophaaDoorIpD
import Derived.Test.YtgpmplcamdophaaDoorLnDx
import Derived.Test.YtgpmplcamdophaaDoorLnEx
import Derived.Test.YtgpmplcamdophaaDoorLnE3
import Derived.Test.YtgpmplcamdophaaDoorLnE4
import Derived.Test.YtgpmplcamdophaaDoorLnE5
set_option linter.unusedVariables false
set_option linter.unusedSimpArgs false
namespace Go.Proofs.YtgpmplcamdophaaDoor.Pl
theorem mem_form : ∀ k : Nat, k < 48 → 28 ≤ k ∧ k ≤ 33 → fmN k = 2 := by decide +kernel
theorem insW_size (f k : Nat) (a d r1 r2 n s : ByteArray) (ha : a.size ≤ 16) (hd : d.size ≤ 16) (h1 : r1.size ≤ 16) (h2 : r2.size ≤ 16) (hn : n.size ≤ 20) (hs : s.size ≤ 48) : (insW f k a d r1 r2 n s).size ≤ 400 := by
  have e1 : (⟨#[32]⟩ : ByteArray).size = 1 := rfl
  have e2 : (⟨#[44, 32]⟩ : ByteArray).size = 2 := rfl
  have e3 : (⟨#[40]⟩ : ByteArray).size = 1 := rfl
  have e4 : (⟨#[41]⟩ : ByteArray).size = 1 := rfl
  unfold insW
  repeat' split
  all_goals first | (simp only [ByteArray.size_append, e1, e2, e3, e4]; omega) | omega
theorem sz1 {a : ByteArray} (ha : a.size ≤ 100) : a.size ≤ 16777216 := by omega
theorem sz2 {a b : ByteArray} (ha : a.size ≤ 100) (hb : b.size ≤ 100) : (a ++ ⟨#[44, 32]⟩ ++ b).size ≤ 16777216 := by
  have e2 : (⟨#[44, 32]⟩ : ByteArray).size = 2 := rfl
  simp only [ByteArray.size_append, e2]; omega
theorem sz3 {a b c : ByteArray} (ha : a.size ≤ 100) (hb : b.size ≤ 100) (hc : c.size ≤ 100) : (a ++ ⟨#[44, 32]⟩ ++ b ++ ⟨#[44, 32]⟩ ++ c).size ≤ 16777216 := by
  have e2 : (⟨#[44, 32]⟩ : ByteArray).size = 2 := rfl
  simp only [ByteArray.size_append, e2]; omega
theorem szm {a b : ByteArray} (ha : a.size ≤ 20) (hb : b.size ≤ 16) : (a ++ ⟨#[40]⟩ ++ b ++ ⟨#[41]⟩).size ≤ 100 := by
  have e3 : (⟨#[40]⟩ : ByteArray).size = 1 := rfl
  have e4 : (⟨#[41]⟩ : ByteArray).size = 1 := rfl
  simp only [ByteArray.size_append, e3, e4]; omega
theorem le_big {a : Nat} (h : a ≤ 16) : a ≤ 1048576 := Nat.le_trans h (by decide)
end Go.Proofs.YtgpmplcamdophaaDoor.Pl
namespace Go.Proofs.YtgpmplcamdophaaDoor.W
open Go.RowKit
theorem lg0 (x : Pl.Ln) (hk : ¬ x.k = 1) (Wd : ByteArray) (sW : Wd.size ≤ 16)
    (hO : ∀ w, AsmLies w → Calls Tryd.prog 44 #[.agg #[.int .i64 x.k, .int .i64 x.op, .int .i64 x.rd, .int .i64 x.r1, .int .i64 x.r2, .int .i64 x.im, .string x.s, .int .i64 x.n]] w fun e w' => ∃ oa cap, e = .returned (.slice oa (([] : List Int)).length cap) ∧ Lst w' oa ([] : List Int) ∧ Below w.heap.size w w')
    (hW : ∀ w, AsmLies w → Calls Tryd.prog 46 #[.agg #[.int .i64 x.k, .int .i64 x.op, .int .i64 x.rd, .int .i64 x.r1, .int .i64 x.r2, .int .i64 x.im, .string x.s, .int .i64 x.n]] w fun e w' => e = .returned (.string Wd) ∧ Below w.heap.size w w') (w : World) (h : AsmLies w) :
    Calls Tryd.prog 23 #[.agg #[.int .i64 x.k, .int .i64 x.op, .int .i64 x.rd, .int .i64 x.r1, .int .i64 x.r2, .int .i64 x.im, .string x.s, .int .i64 x.n]] w fun e w' => e = .returned (.string (Pl.rowT x.k (Wd))) ∧ Below w.heap.size w w' := by
  have key := lineText_gen x (by simpa using hk) ([] : List Int) (by simp) (fl []) Wd (Pl.le_big sW) (by decide) hO (fun j hj => absurd hj (Nat.not_lt_zero j)) hW w h
  rw [show (([] : List Int)).length = 0 from rfl, Pl.asm_bare (k := x.k) hk] at key
  exact key
theorem lg1 (x : Pl.Ln) (hk : ¬ x.k = 1) (a : Int) (t0 : ByteArray) (z0 : t0.size ≤ 100) (Wd : ByteArray) (sW : Wd.size ≤ 16)
    (hO : ∀ w, AsmLies w → Calls Tryd.prog 44 #[.agg #[.int .i64 x.k, .int .i64 x.op, .int .i64 x.rd, .int .i64 x.r1, .int .i64 x.r2, .int .i64 x.im, .string x.s, .int .i64 x.n]] w fun e w' => ∃ oa cap, e = .returned (.slice oa ([a]).length cap) ∧ Lst w' oa [a] ∧ Below w.heap.size w w') (hT0 : ∀ w, AsmLies w → Calls Tryd.prog 45 #[.int .i64 a, .agg #[.int .i64 x.k, .int .i64 x.op, .int .i64 x.rd, .int .i64 x.r1, .int .i64 x.r2, .int .i64 x.im, .string x.s, .int .i64 x.n]] w fun e w' => e = .returned (.string t0) ∧ Below w.heap.size w w')
    (hW : ∀ w, AsmLies w → Calls Tryd.prog 46 #[.agg #[.int .i64 x.k, .int .i64 x.op, .int .i64 x.rd, .int .i64 x.r1, .int .i64 x.r2, .int .i64 x.im, .string x.s, .int .i64 x.n]] w fun e w' => e = .returned (.string Wd) ∧ Below w.heap.size w w') (w : World) (h : AsmLies w) :
    Calls Tryd.prog 23 #[.agg #[.int .i64 x.k, .int .i64 x.op, .int .i64 x.rd, .int .i64 x.r1, .int .i64 x.r2, .int .i64 x.im, .string x.s, .int .i64 x.n]] w fun e w' => e = .returned (.string (Pl.rowT x.k (Wd ++ ⟨#[32]⟩ ++ t0))) ∧ Below w.heap.size w w' := by
  have hjn : Pl.jn 1 (fl [t0]) = t0 := Pl.jn_1 _
  have key := lineText_gen x (by simpa using hk) [a] (by simp) (fl [t0]) Wd (Pl.le_big sW) (by rw [show ([a]).length = 1 from rfl, hjn]; exact Pl.sz1 z0) hO (fun j hj w h => by
    match j, hj with
    | 0, _ => exact hT0 w h
    | j + 1, hj => exact absurd hj (by simp)) hW w h
  rw [show ([a]).length = 1 from rfl, Pl.asm_row (k := x.k) (T := Wd ++ ⟨#[32]⟩ ++ t0) hk (by decide) hjn (by simp only [Pl.ba_assoc])] at key
  exact key
theorem lg2 (x : Pl.Ln) (hk : ¬ x.k = 1) (a b : Int) (t0 t1 : ByteArray) (z0 : t0.size ≤ 100) (z1 : t1.size ≤ 100) (Wd : ByteArray) (sW : Wd.size ≤ 16)
    (hO : ∀ w, AsmLies w → Calls Tryd.prog 44 #[.agg #[.int .i64 x.k, .int .i64 x.op, .int .i64 x.rd, .int .i64 x.r1, .int .i64 x.r2, .int .i64 x.im, .string x.s, .int .i64 x.n]] w fun e w' => ∃ oa cap, e = .returned (.slice oa ([a, b]).length cap) ∧ Lst w' oa [a, b] ∧ Below w.heap.size w w') (hT0 : ∀ w, AsmLies w → Calls Tryd.prog 45 #[.int .i64 a, .agg #[.int .i64 x.k, .int .i64 x.op, .int .i64 x.rd, .int .i64 x.r1, .int .i64 x.r2, .int .i64 x.im, .string x.s, .int .i64 x.n]] w fun e w' => e = .returned (.string t0) ∧ Below w.heap.size w w') (hT1 : ∀ w, AsmLies w → Calls Tryd.prog 45 #[.int .i64 b, .agg #[.int .i64 x.k, .int .i64 x.op, .int .i64 x.rd, .int .i64 x.r1, .int .i64 x.r2, .int .i64 x.im, .string x.s, .int .i64 x.n]] w fun e w' => e = .returned (.string t1) ∧ Below w.heap.size w w')
    (hW : ∀ w, AsmLies w → Calls Tryd.prog 46 #[.agg #[.int .i64 x.k, .int .i64 x.op, .int .i64 x.rd, .int .i64 x.r1, .int .i64 x.r2, .int .i64 x.im, .string x.s, .int .i64 x.n]] w fun e w' => e = .returned (.string Wd) ∧ Below w.heap.size w w') (w : World) (h : AsmLies w) :
    Calls Tryd.prog 23 #[.agg #[.int .i64 x.k, .int .i64 x.op, .int .i64 x.rd, .int .i64 x.r1, .int .i64 x.r2, .int .i64 x.im, .string x.s, .int .i64 x.n]] w fun e w' => e = .returned (.string (Pl.rowT x.k (Wd ++ ⟨#[32]⟩ ++ t0 ++ ⟨#[44, 32]⟩ ++ t1))) ∧ Below w.heap.size w w' := by
  have hjn : Pl.jn 2 (fl [t0, t1]) = t0 ++ ⟨#[44, 32]⟩ ++ t1 := Pl.jn_2 _
  have key := lineText_gen x (by simpa using hk) [a, b] (by simp) (fl [t0, t1]) Wd (Pl.le_big sW) (by rw [show ([a, b]).length = 2 from rfl, hjn]; exact Pl.sz2 z0 z1) hO (fun j hj w h => by
    match j, hj with
    | 0, _ => exact hT0 w h
    | 1, _ => exact hT1 w h
    | j + 2, hj => exact absurd hj (by simp)) hW w h
  rw [show ([a, b]).length = 2 from rfl, Pl.asm_row (k := x.k) (T := Wd ++ ⟨#[32]⟩ ++ t0 ++ ⟨#[44, 32]⟩ ++ t1) hk (by decide) hjn (by simp only [Pl.ba_assoc])] at key
  exact key
theorem lg3 (x : Pl.Ln) (hk : ¬ x.k = 1) (a b c : Int) (t0 t1 t2 : ByteArray) (z0 : t0.size ≤ 100) (z1 : t1.size ≤ 100) (z2 : t2.size ≤ 100) (Wd : ByteArray) (sW : Wd.size ≤ 16)
    (hO : ∀ w, AsmLies w → Calls Tryd.prog 44 #[.agg #[.int .i64 x.k, .int .i64 x.op, .int .i64 x.rd, .int .i64 x.r1, .int .i64 x.r2, .int .i64 x.im, .string x.s, .int .i64 x.n]] w fun e w' => ∃ oa cap, e = .returned (.slice oa ([a, b, c]).length cap) ∧ Lst w' oa [a, b, c] ∧ Below w.heap.size w w') (hT0 : ∀ w, AsmLies w → Calls Tryd.prog 45 #[.int .i64 a, .agg #[.int .i64 x.k, .int .i64 x.op, .int .i64 x.rd, .int .i64 x.r1, .int .i64 x.r2, .int .i64 x.im, .string x.s, .int .i64 x.n]] w fun e w' => e = .returned (.string t0) ∧ Below w.heap.size w w') (hT1 : ∀ w, AsmLies w → Calls Tryd.prog 45 #[.int .i64 b, .agg #[.int .i64 x.k, .int .i64 x.op, .int .i64 x.rd, .int .i64 x.r1, .int .i64 x.r2, .int .i64 x.im, .string x.s, .int .i64 x.n]] w fun e w' => e = .returned (.string t1) ∧ Below w.heap.size w w') (hT2 : ∀ w, AsmLies w → Calls Tryd.prog 45 #[.int .i64 c, .agg #[.int .i64 x.k, .int .i64 x.op, .int .i64 x.rd, .int .i64 x.r1, .int .i64 x.r2, .int .i64 x.im, .string x.s, .int .i64 x.n]] w fun e w' => e = .returned (.string t2) ∧ Below w.heap.size w w')
    (hW : ∀ w, AsmLies w → Calls Tryd.prog 46 #[.agg #[.int .i64 x.k, .int .i64 x.op, .int .i64 x.rd, .int .i64 x.r1, .int .i64 x.r2, .int .i64 x.im, .string x.s, .int .i64 x.n]] w fun e w' => e = .returned (.string Wd) ∧ Below w.heap.size w w') (w : World) (h : AsmLies w) :
    Calls Tryd.prog 23 #[.agg #[.int .i64 x.k, .int .i64 x.op, .int .i64 x.rd, .int .i64 x.r1, .int .i64 x.r2, .int .i64 x.im, .string x.s, .int .i64 x.n]] w fun e w' => e = .returned (.string (Pl.rowT x.k (Wd ++ ⟨#[32]⟩ ++ t0 ++ ⟨#[44, 32]⟩ ++ t1 ++ ⟨#[44, 32]⟩ ++ t2))) ∧ Below w.heap.size w w' := by
  have hjn : Pl.jn 3 (fl [t0, t1, t2]) = t0 ++ ⟨#[44, 32]⟩ ++ t1 ++ ⟨#[44, 32]⟩ ++ t2 := Pl.jn_3 _
  have key := lineText_gen x (by simpa using hk) [a, b, c] (by simp) (fl [t0, t1, t2]) Wd (Pl.le_big sW) (by rw [show ([a, b, c]).length = 3 from rfl, hjn]; exact Pl.sz3 z0 z1 z2) hO (fun j hj w h => by
    match j, hj with
    | 0, _ => exact hT0 w h
    | 1, _ => exact hT1 w h
    | 2, _ => exact hT2 w h
    | j + 3, hj => exact absurd hj (by simp)) hW w h
  rw [show ([a, b, c]).length = 3 from rfl, Pl.asm_row (k := x.k) (T := Wd ++ ⟨#[32]⟩ ++ t0 ++ ⟨#[44, 32]⟩ ++ t1 ++ ⟨#[44, 32]⟩ ++ t2) hk (by decide) hjn (by simp only [Pl.ba_assoc])] at key
  exact key
set_option maxHeartbeats 400000 in
theorem both_2 (k rd r1 r2 : Nat) (im n : Int) (s : ByteArray) (h1 : 1 ≤ k) (h2 : k ≤ 47) (hd : rd ≤ 31) (ha : r1 ≤ 31) (hb : r2 ≤ 31) (him : -4611686018427387904 ≤ im ∧ im ≤ 4611686018427387904) (hs : s.size ≤ 48) : Both ⟨2, k, rd, r1, r2, im, s, n⟩ (Pl.insText k rd r1 r2 im s) := by
  have h48 : k < 48 := by omega
  have hd32 : rd < 32 := by omega
  have ha32 : r1 < 32 := by omega
  have hb32 : r2 < 32 := by omega
  have sW := Pl.nm_size k h48
  have sD := Pl.rn_size rd hd32
  have s1 := Pl.rn_size r1 ha32
  have s2 := Pl.rn_size r2 hb32
  have sN := Pl.num_size him
  refine ⟨Pl.insW_size _ _ _ _ _ _ _ _ sW sD s1 s2 sN hs, fun w => lt_2 k rd r1 r2 im n s h1 h2 hd ha hb him (Nat.le_trans hs (by decide)) w, fun w h => ?_⟩
  have bD : (Pl.rn rd).size ≤ 100 := Nat.le_trans sD (by decide)
  have b1 : (Pl.rn r1).size ≤ 100 := Nat.le_trans s1 (by decide)
  have b2 : (Pl.rn r2).size ≤ 100 := Nat.le_trans s2 (by decide)
  have bN : (Pl.num im).size ≤ 100 := Nat.le_trans sN (by decide)
  have bS : s.size ≤ 100 := Nat.le_trans hs (by decide)
  have bM : (Pl.num im ++ ⟨#[40]⟩ ++ Pl.rn r1 ++ ⟨#[41]⟩).size ≤ 100 := Pl.szm sN s1
  have hc : Pl.fmN k = 1 ∨ Pl.fmN k = 2 ∨ Pl.fmN k = 3 ∨ Pl.fmN k = 4 ∨ Pl.fmN k = 5 ∨ Pl.fmN k = 6 ∨ Pl.fmN k = 7 ∨ Pl.fmN k = 8 := Pl.form_cases _ (fm_at k h1 h2).1 (fm_at k h1 h2).2.1
  by_cases hm : 28 ≤ k ∧ k ≤ 33
  · have e := Pl.mem_form k h48 hm
    have eo : Pl.opsF (Pl.fmN k) k = ([0, 4] : List Int) := by simp [Pl.opsF, e, hm]
    have eT : Pl.insText k rd r1 r2 im s = Pl.nm k ++ ⟨#[32]⟩ ++ Pl.rn rd ++ ⟨#[44, 32]⟩ ++ (Pl.num im ++ ⟨#[40]⟩ ++ Pl.rn r1 ++ ⟨#[41]⟩) := by simp [Pl.insText, Pl.insW, e, hm, Pl.ba_assoc]
    rw [eT]
    have key := lg2 ⟨2, (k : Int), (rd : Int), (r1 : Int), (r2 : Int), im, s, n⟩ (show ¬ (2 : Int) = 1 by decide) 0 4 (Pl.rn rd) (Pl.num im ++ ⟨#[40]⟩ ++ Pl.rn r1 ++ ⟨#[41]⟩) bD bM (Pl.nm k) sW (fun w _ => by have q := od_2 k h1 h2 rd r1 r2 im n s w; rw [eo] at q; exact q) (ot_0 ⟨2, (k : Int), (rd : Int), (r1 : Int), (r2 : Int), im, s, n⟩ rd rfl hd) (ot_4 ⟨2, (k : Int), (rd : Int), (r1 : Int), (r2 : Int), im, s, n⟩ r1 rfl ha him) (fun w h => wo_2 k h1 h2 rd r1 r2 im n s w)
    exact key w h
  rcases hc with e | e | e | e | e | e | e | e
  · have eo : Pl.opsF (Pl.fmN k) k = ([0, 1, 2] : List Int) := by simp [Pl.opsF, e, hm]
    have eT : Pl.insText k rd r1 r2 im s = Pl.nm k ++ ⟨#[32]⟩ ++ Pl.rn rd ++ ⟨#[44, 32]⟩ ++ Pl.rn r1 ++ ⟨#[44, 32]⟩ ++ Pl.rn r2 := by simp [Pl.insText, Pl.insW, e, hm, Pl.ba_assoc]
    rw [eT]
    have key := lg3 ⟨2, (k : Int), (rd : Int), (r1 : Int), (r2 : Int), im, s, n⟩ (show ¬ (2 : Int) = 1 by decide) 0 1 2 (Pl.rn rd) (Pl.rn r1) (Pl.rn r2) bD b1 b2 (Pl.nm k) sW (fun w _ => by have q := od_2 k h1 h2 rd r1 r2 im n s w; rw [eo] at q; exact q) (ot_0 ⟨2, (k : Int), (rd : Int), (r1 : Int), (r2 : Int), im, s, n⟩ rd rfl hd) (ot_1 ⟨2, (k : Int), (rd : Int), (r1 : Int), (r2 : Int), im, s, n⟩ r1 rfl ha) (ot_2 ⟨2, (k : Int), (rd : Int), (r1 : Int), (r2 : Int), im, s, n⟩ r2 rfl hb) (fun w h => wo_2 k h1 h2 rd r1 r2 im n s w)
    exact key w h
  · have eo : Pl.opsF (Pl.fmN k) k = ([0, 1, 3] : List Int) := by simp [Pl.opsF, e, hm]
    have eT : Pl.insText k rd r1 r2 im s = Pl.nm k ++ ⟨#[32]⟩ ++ Pl.rn rd ++ ⟨#[44, 32]⟩ ++ Pl.rn r1 ++ ⟨#[44, 32]⟩ ++ Pl.num im := by simp [Pl.insText, Pl.insW, e, hm, Pl.ba_assoc]
    rw [eT]
    have key := lg3 ⟨2, (k : Int), (rd : Int), (r1 : Int), (r2 : Int), im, s, n⟩ (show ¬ (2 : Int) = 1 by decide) 0 1 3 (Pl.rn rd) (Pl.rn r1) (Pl.num im) bD b1 bN (Pl.nm k) sW (fun w _ => by have q := od_2 k h1 h2 rd r1 r2 im n s w; rw [eo] at q; exact q) (ot_0 ⟨2, (k : Int), (rd : Int), (r1 : Int), (r2 : Int), im, s, n⟩ rd rfl hd) (ot_1 ⟨2, (k : Int), (rd : Int), (r1 : Int), (r2 : Int), im, s, n⟩ r1 rfl ha) (ot_3 ⟨2, (k : Int), (rd : Int), (r1 : Int), (r2 : Int), im, s, n⟩ him) (fun w h => wo_2 k h1 h2 rd r1 r2 im n s w)
    exact key w h
  · have eo : Pl.opsF (Pl.fmN k) k = ([0, 1, 3] : List Int) := by simp [Pl.opsF, e, hm]
    have eT : Pl.insText k rd r1 r2 im s = Pl.nm k ++ ⟨#[32]⟩ ++ Pl.rn rd ++ ⟨#[44, 32]⟩ ++ Pl.rn r1 ++ ⟨#[44, 32]⟩ ++ Pl.num im := by simp [Pl.insText, Pl.insW, e, hm, Pl.ba_assoc]
    rw [eT]
    have key := lg3 ⟨2, (k : Int), (rd : Int), (r1 : Int), (r2 : Int), im, s, n⟩ (show ¬ (2 : Int) = 1 by decide) 0 1 3 (Pl.rn rd) (Pl.rn r1) (Pl.num im) bD b1 bN (Pl.nm k) sW (fun w _ => by have q := od_2 k h1 h2 rd r1 r2 im n s w; rw [eo] at q; exact q) (ot_0 ⟨2, (k : Int), (rd : Int), (r1 : Int), (r2 : Int), im, s, n⟩ rd rfl hd) (ot_1 ⟨2, (k : Int), (rd : Int), (r1 : Int), (r2 : Int), im, s, n⟩ r1 rfl ha) (ot_3 ⟨2, (k : Int), (rd : Int), (r1 : Int), (r2 : Int), im, s, n⟩ him) (fun w h => wo_2 k h1 h2 rd r1 r2 im n s w)
    exact key w h
  · have eo : Pl.opsF (Pl.fmN k) k = ([2, 4] : List Int) := by simp [Pl.opsF, e, hm]
    have eT : Pl.insText k rd r1 r2 im s = Pl.nm k ++ ⟨#[32]⟩ ++ Pl.rn r2 ++ ⟨#[44, 32]⟩ ++ (Pl.num im ++ ⟨#[40]⟩ ++ Pl.rn r1 ++ ⟨#[41]⟩) := by simp [Pl.insText, Pl.insW, e, hm, Pl.ba_assoc]
    rw [eT]
    have key := lg2 ⟨2, (k : Int), (rd : Int), (r1 : Int), (r2 : Int), im, s, n⟩ (show ¬ (2 : Int) = 1 by decide) 2 4 (Pl.rn r2) (Pl.num im ++ ⟨#[40]⟩ ++ Pl.rn r1 ++ ⟨#[41]⟩) b2 bM (Pl.nm k) sW (fun w _ => by have q := od_2 k h1 h2 rd r1 r2 im n s w; rw [eo] at q; exact q) (ot_2 ⟨2, (k : Int), (rd : Int), (r1 : Int), (r2 : Int), im, s, n⟩ r2 rfl hb) (ot_4 ⟨2, (k : Int), (rd : Int), (r1 : Int), (r2 : Int), im, s, n⟩ r1 rfl ha him) (fun w h => wo_2 k h1 h2 rd r1 r2 im n s w)
    exact key w h
  · have eo : Pl.opsF (Pl.fmN k) k = ([1, 2, 5] : List Int) := by simp [Pl.opsF, e, hm]
    have eT : Pl.insText k rd r1 r2 im s = Pl.nm k ++ ⟨#[32]⟩ ++ Pl.rn r1 ++ ⟨#[44, 32]⟩ ++ Pl.rn r2 ++ ⟨#[44, 32]⟩ ++ s := by simp [Pl.insText, Pl.insW, e, hm, Pl.ba_assoc]
    rw [eT]
    have key := lg3 ⟨2, (k : Int), (rd : Int), (r1 : Int), (r2 : Int), im, s, n⟩ (show ¬ (2 : Int) = 1 by decide) 1 2 5 (Pl.rn r1) (Pl.rn r2) (s) b1 b2 bS (Pl.nm k) sW (fun w _ => by have q := od_2 k h1 h2 rd r1 r2 im n s w; rw [eo] at q; exact q) (ot_1 ⟨2, (k : Int), (rd : Int), (r1 : Int), (r2 : Int), im, s, n⟩ r1 rfl ha) (ot_2 ⟨2, (k : Int), (rd : Int), (r1 : Int), (r2 : Int), im, s, n⟩ r2 rfl hb) (ot_5 ⟨2, (k : Int), (rd : Int), (r1 : Int), (r2 : Int), im, s, n⟩) (fun w h => wo_2 k h1 h2 rd r1 r2 im n s w)
    exact key w h
  · have eo : Pl.opsF (Pl.fmN k) k = ([0, 3] : List Int) := by simp [Pl.opsF, e, hm]
    have eT : Pl.insText k rd r1 r2 im s = Pl.nm k ++ ⟨#[32]⟩ ++ Pl.rn rd ++ ⟨#[44, 32]⟩ ++ Pl.num im := by simp [Pl.insText, Pl.insW, e, hm, Pl.ba_assoc]
    rw [eT]
    have key := lg2 ⟨2, (k : Int), (rd : Int), (r1 : Int), (r2 : Int), im, s, n⟩ (show ¬ (2 : Int) = 1 by decide) 0 3 (Pl.rn rd) (Pl.num im) bD bN (Pl.nm k) sW (fun w _ => by have q := od_2 k h1 h2 rd r1 r2 im n s w; rw [eo] at q; exact q) (ot_0 ⟨2, (k : Int), (rd : Int), (r1 : Int), (r2 : Int), im, s, n⟩ rd rfl hd) (ot_3 ⟨2, (k : Int), (rd : Int), (r1 : Int), (r2 : Int), im, s, n⟩ him) (fun w h => wo_2 k h1 h2 rd r1 r2 im n s w)
    exact key w h
  · have eo : Pl.opsF (Pl.fmN k) k = ([0, 5] : List Int) := by simp [Pl.opsF, e, hm]
    have eT : Pl.insText k rd r1 r2 im s = Pl.nm k ++ ⟨#[32]⟩ ++ Pl.rn rd ++ ⟨#[44, 32]⟩ ++ s := by simp [Pl.insText, Pl.insW, e, hm, Pl.ba_assoc]
    rw [eT]
    have key := lg2 ⟨2, (k : Int), (rd : Int), (r1 : Int), (r2 : Int), im, s, n⟩ (show ¬ (2 : Int) = 1 by decide) 0 5 (Pl.rn rd) (s) bD bS (Pl.nm k) sW (fun w _ => by have q := od_2 k h1 h2 rd r1 r2 im n s w; rw [eo] at q; exact q) (ot_0 ⟨2, (k : Int), (rd : Int), (r1 : Int), (r2 : Int), im, s, n⟩ rd rfl hd) (ot_5 ⟨2, (k : Int), (rd : Int), (r1 : Int), (r2 : Int), im, s, n⟩) (fun w h => wo_2 k h1 h2 rd r1 r2 im n s w)
    exact key w h
  · have eo : Pl.opsF (Pl.fmN k) k = ([] : List Int) := by simp [Pl.opsF, e, hm]
    have eT : Pl.insText k rd r1 r2 im s = Pl.nm k := by simp [Pl.insText, Pl.insW, e, hm, Pl.ba_assoc]
    rw [eT]
    have key := lg0 ⟨2, (k : Int), (rd : Int), (r1 : Int), (r2 : Int), im, s, n⟩ (show ¬ (2 : Int) = 1 by decide)    (Pl.nm k) sW (fun w _ => by have q := od_2 k h1 h2 rd r1 r2 im n s w; rw [eo] at q; exact q)  (fun w h => wo_2 k h1 h2 rd r1 r2 im n s w)
    exact key w h
set_option maxHeartbeats 400000 in
theorem both_3 (k rd r1 r2 : Nat) (im n : Int) (s : ByteArray) (h1 : 1 ≤ k) (h2 : k ≤ 47) (hd : rd ≤ 31) (ha : r1 ≤ 31) (hb : r2 ≤ 31) (him : -4611686018427387904 ≤ im ∧ im ≤ 4611686018427387904) (hs : s.size ≤ 48) : Both ⟨3, k, rd, r1, r2, im, s, n⟩ (Pl.insText k rd r1 r2 im s) := by
  have h48 : k < 48 := by omega
  have hd32 : rd < 32 := by omega
  have ha32 : r1 < 32 := by omega
  have hb32 : r2 < 32 := by omega
  have sW := Pl.nm_size k h48
  have sD := Pl.rn_size rd hd32
  have s1 := Pl.rn_size r1 ha32
  have s2 := Pl.rn_size r2 hb32
  have sN := Pl.num_size him
  refine ⟨Pl.insW_size _ _ _ _ _ _ _ _ sW sD s1 s2 sN hs, fun w => lt_3 k rd r1 r2 im n s h1 h2 hd ha hb him (Nat.le_trans hs (by decide)) w, fun w h => ?_⟩
  have bD : (Pl.rn rd).size ≤ 100 := Nat.le_trans sD (by decide)
  have b1 : (Pl.rn r1).size ≤ 100 := Nat.le_trans s1 (by decide)
  have b2 : (Pl.rn r2).size ≤ 100 := Nat.le_trans s2 (by decide)
  have bN : (Pl.num im).size ≤ 100 := Nat.le_trans sN (by decide)
  have bS : s.size ≤ 100 := Nat.le_trans hs (by decide)
  have bM : (Pl.num im ++ ⟨#[40]⟩ ++ Pl.rn r1 ++ ⟨#[41]⟩).size ≤ 100 := Pl.szm sN s1
  have hc : Pl.fmN k = 1 ∨ Pl.fmN k = 2 ∨ Pl.fmN k = 3 ∨ Pl.fmN k = 4 ∨ Pl.fmN k = 5 ∨ Pl.fmN k = 6 ∨ Pl.fmN k = 7 ∨ Pl.fmN k = 8 := Pl.form_cases _ (fm_at k h1 h2).1 (fm_at k h1 h2).2.1
  by_cases hm : 28 ≤ k ∧ k ≤ 33
  · have e := Pl.mem_form k h48 hm
    have eo : Pl.opsF (Pl.fmN k) k = ([0, 4] : List Int) := by simp [Pl.opsF, e, hm]
    have eT : Pl.insText k rd r1 r2 im s = Pl.nm k ++ ⟨#[32]⟩ ++ Pl.rn rd ++ ⟨#[44, 32]⟩ ++ (Pl.num im ++ ⟨#[40]⟩ ++ Pl.rn r1 ++ ⟨#[41]⟩) := by simp [Pl.insText, Pl.insW, e, hm, Pl.ba_assoc]
    rw [eT]
    have key := lg2 ⟨3, (k : Int), (rd : Int), (r1 : Int), (r2 : Int), im, s, n⟩ (show ¬ (3 : Int) = 1 by decide) 0 4 (Pl.rn rd) (Pl.num im ++ ⟨#[40]⟩ ++ Pl.rn r1 ++ ⟨#[41]⟩) bD bM (Pl.nm k) sW (fun w _ => by have q := od_3 k h1 h2 rd r1 r2 im n s w; rw [eo] at q; exact q) (ot_0 ⟨3, (k : Int), (rd : Int), (r1 : Int), (r2 : Int), im, s, n⟩ rd rfl hd) (ot_4 ⟨3, (k : Int), (rd : Int), (r1 : Int), (r2 : Int), im, s, n⟩ r1 rfl ha him) (fun w h => wo_3 k h1 h2 rd r1 r2 im n s w)
    exact key w h
  rcases hc with e | e | e | e | e | e | e | e
  · have eo : Pl.opsF (Pl.fmN k) k = ([0, 1, 2] : List Int) := by simp [Pl.opsF, e, hm]
    have eT : Pl.insText k rd r1 r2 im s = Pl.nm k ++ ⟨#[32]⟩ ++ Pl.rn rd ++ ⟨#[44, 32]⟩ ++ Pl.rn r1 ++ ⟨#[44, 32]⟩ ++ Pl.rn r2 := by simp [Pl.insText, Pl.insW, e, hm, Pl.ba_assoc]
    rw [eT]
    have key := lg3 ⟨3, (k : Int), (rd : Int), (r1 : Int), (r2 : Int), im, s, n⟩ (show ¬ (3 : Int) = 1 by decide) 0 1 2 (Pl.rn rd) (Pl.rn r1) (Pl.rn r2) bD b1 b2 (Pl.nm k) sW (fun w _ => by have q := od_3 k h1 h2 rd r1 r2 im n s w; rw [eo] at q; exact q) (ot_0 ⟨3, (k : Int), (rd : Int), (r1 : Int), (r2 : Int), im, s, n⟩ rd rfl hd) (ot_1 ⟨3, (k : Int), (rd : Int), (r1 : Int), (r2 : Int), im, s, n⟩ r1 rfl ha) (ot_2 ⟨3, (k : Int), (rd : Int), (r1 : Int), (r2 : Int), im, s, n⟩ r2 rfl hb) (fun w h => wo_3 k h1 h2 rd r1 r2 im n s w)
    exact key w h
  · have eo : Pl.opsF (Pl.fmN k) k = ([0, 1, 3] : List Int) := by simp [Pl.opsF, e, hm]
    have eT : Pl.insText k rd r1 r2 im s = Pl.nm k ++ ⟨#[32]⟩ ++ Pl.rn rd ++ ⟨#[44, 32]⟩ ++ Pl.rn r1 ++ ⟨#[44, 32]⟩ ++ Pl.num im := by simp [Pl.insText, Pl.insW, e, hm, Pl.ba_assoc]
    rw [eT]
    have key := lg3 ⟨3, (k : Int), (rd : Int), (r1 : Int), (r2 : Int), im, s, n⟩ (show ¬ (3 : Int) = 1 by decide) 0 1 3 (Pl.rn rd) (Pl.rn r1) (Pl.num im) bD b1 bN (Pl.nm k) sW (fun w _ => by have q := od_3 k h1 h2 rd r1 r2 im n s w; rw [eo] at q; exact q) (ot_0 ⟨3, (k : Int), (rd : Int), (r1 : Int), (r2 : Int), im, s, n⟩ rd rfl hd) (ot_1 ⟨3, (k : Int), (rd : Int), (r1 : Int), (r2 : Int), im, s, n⟩ r1 rfl ha) (ot_3 ⟨3, (k : Int), (rd : Int), (r1 : Int), (r2 : Int), im, s, n⟩ him) (fun w h => wo_3 k h1 h2 rd r1 r2 im n s w)
    exact key w h
  · have eo : Pl.opsF (Pl.fmN k) k = ([0, 1, 3] : List Int) := by simp [Pl.opsF, e, hm]
    have eT : Pl.insText k rd r1 r2 im s = Pl.nm k ++ ⟨#[32]⟩ ++ Pl.rn rd ++ ⟨#[44, 32]⟩ ++ Pl.rn r1 ++ ⟨#[44, 32]⟩ ++ Pl.num im := by simp [Pl.insText, Pl.insW, e, hm, Pl.ba_assoc]
    rw [eT]
    have key := lg3 ⟨3, (k : Int), (rd : Int), (r1 : Int), (r2 : Int), im, s, n⟩ (show ¬ (3 : Int) = 1 by decide) 0 1 3 (Pl.rn rd) (Pl.rn r1) (Pl.num im) bD b1 bN (Pl.nm k) sW (fun w _ => by have q := od_3 k h1 h2 rd r1 r2 im n s w; rw [eo] at q; exact q) (ot_0 ⟨3, (k : Int), (rd : Int), (r1 : Int), (r2 : Int), im, s, n⟩ rd rfl hd) (ot_1 ⟨3, (k : Int), (rd : Int), (r1 : Int), (r2 : Int), im, s, n⟩ r1 rfl ha) (ot_3 ⟨3, (k : Int), (rd : Int), (r1 : Int), (r2 : Int), im, s, n⟩ him) (fun w h => wo_3 k h1 h2 rd r1 r2 im n s w)
    exact key w h
  · have eo : Pl.opsF (Pl.fmN k) k = ([2, 4] : List Int) := by simp [Pl.opsF, e, hm]
    have eT : Pl.insText k rd r1 r2 im s = Pl.nm k ++ ⟨#[32]⟩ ++ Pl.rn r2 ++ ⟨#[44, 32]⟩ ++ (Pl.num im ++ ⟨#[40]⟩ ++ Pl.rn r1 ++ ⟨#[41]⟩) := by simp [Pl.insText, Pl.insW, e, hm, Pl.ba_assoc]
    rw [eT]
    have key := lg2 ⟨3, (k : Int), (rd : Int), (r1 : Int), (r2 : Int), im, s, n⟩ (show ¬ (3 : Int) = 1 by decide) 2 4 (Pl.rn r2) (Pl.num im ++ ⟨#[40]⟩ ++ Pl.rn r1 ++ ⟨#[41]⟩) b2 bM (Pl.nm k) sW (fun w _ => by have q := od_3 k h1 h2 rd r1 r2 im n s w; rw [eo] at q; exact q) (ot_2 ⟨3, (k : Int), (rd : Int), (r1 : Int), (r2 : Int), im, s, n⟩ r2 rfl hb) (ot_4 ⟨3, (k : Int), (rd : Int), (r1 : Int), (r2 : Int), im, s, n⟩ r1 rfl ha him) (fun w h => wo_3 k h1 h2 rd r1 r2 im n s w)
    exact key w h
  · have eo : Pl.opsF (Pl.fmN k) k = ([1, 2, 5] : List Int) := by simp [Pl.opsF, e, hm]
    have eT : Pl.insText k rd r1 r2 im s = Pl.nm k ++ ⟨#[32]⟩ ++ Pl.rn r1 ++ ⟨#[44, 32]⟩ ++ Pl.rn r2 ++ ⟨#[44, 32]⟩ ++ s := by simp [Pl.insText, Pl.insW, e, hm, Pl.ba_assoc]
    rw [eT]
    have key := lg3 ⟨3, (k : Int), (rd : Int), (r1 : Int), (r2 : Int), im, s, n⟩ (show ¬ (3 : Int) = 1 by decide) 1 2 5 (Pl.rn r1) (Pl.rn r2) (s) b1 b2 bS (Pl.nm k) sW (fun w _ => by have q := od_3 k h1 h2 rd r1 r2 im n s w; rw [eo] at q; exact q) (ot_1 ⟨3, (k : Int), (rd : Int), (r1 : Int), (r2 : Int), im, s, n⟩ r1 rfl ha) (ot_2 ⟨3, (k : Int), (rd : Int), (r1 : Int), (r2 : Int), im, s, n⟩ r2 rfl hb) (ot_5 ⟨3, (k : Int), (rd : Int), (r1 : Int), (r2 : Int), im, s, n⟩) (fun w h => wo_3 k h1 h2 rd r1 r2 im n s w)
    exact key w h
  · have eo : Pl.opsF (Pl.fmN k) k = ([0, 3] : List Int) := by simp [Pl.opsF, e, hm]
    have eT : Pl.insText k rd r1 r2 im s = Pl.nm k ++ ⟨#[32]⟩ ++ Pl.rn rd ++ ⟨#[44, 32]⟩ ++ Pl.num im := by simp [Pl.insText, Pl.insW, e, hm, Pl.ba_assoc]
    rw [eT]
    have key := lg2 ⟨3, (k : Int), (rd : Int), (r1 : Int), (r2 : Int), im, s, n⟩ (show ¬ (3 : Int) = 1 by decide) 0 3 (Pl.rn rd) (Pl.num im) bD bN (Pl.nm k) sW (fun w _ => by have q := od_3 k h1 h2 rd r1 r2 im n s w; rw [eo] at q; exact q) (ot_0 ⟨3, (k : Int), (rd : Int), (r1 : Int), (r2 : Int), im, s, n⟩ rd rfl hd) (ot_3 ⟨3, (k : Int), (rd : Int), (r1 : Int), (r2 : Int), im, s, n⟩ him) (fun w h => wo_3 k h1 h2 rd r1 r2 im n s w)
    exact key w h
  · have eo : Pl.opsF (Pl.fmN k) k = ([0, 5] : List Int) := by simp [Pl.opsF, e, hm]
    have eT : Pl.insText k rd r1 r2 im s = Pl.nm k ++ ⟨#[32]⟩ ++ Pl.rn rd ++ ⟨#[44, 32]⟩ ++ s := by simp [Pl.insText, Pl.insW, e, hm, Pl.ba_assoc]
    rw [eT]
    have key := lg2 ⟨3, (k : Int), (rd : Int), (r1 : Int), (r2 : Int), im, s, n⟩ (show ¬ (3 : Int) = 1 by decide) 0 5 (Pl.rn rd) (s) bD bS (Pl.nm k) sW (fun w _ => by have q := od_3 k h1 h2 rd r1 r2 im n s w; rw [eo] at q; exact q) (ot_0 ⟨3, (k : Int), (rd : Int), (r1 : Int), (r2 : Int), im, s, n⟩ rd rfl hd) (ot_5 ⟨3, (k : Int), (rd : Int), (r1 : Int), (r2 : Int), im, s, n⟩) (fun w h => wo_3 k h1 h2 rd r1 r2 im n s w)
    exact key w h
  · have eo : Pl.opsF (Pl.fmN k) k = ([] : List Int) := by simp [Pl.opsF, e, hm]
    have eT : Pl.insText k rd r1 r2 im s = Pl.nm k := by simp [Pl.insText, Pl.insW, e, hm, Pl.ba_assoc]
    rw [eT]
    have key := lg0 ⟨3, (k : Int), (rd : Int), (r1 : Int), (r2 : Int), im, s, n⟩ (show ¬ (3 : Int) = 1 by decide)    (Pl.nm k) sW (fun w _ => by have q := od_3 k h1 h2 rd r1 r2 im n s w; rw [eo] at q; exact q)  (fun w h => wo_3 k h1 h2 rd r1 r2 im n s w)
    exact key w h
/-- of every line: both say the same of it; where it is well formed, both write the same row -/
theorem line_same (k op rd r1 r2 im n : Int) (s : ByteArray) : ∃ r : Bool, (∀ w : World, Calls Tryd.prog 19 #[.agg #[.int .i64 k, .int .i64 op, .int .i64 rd, .int .i64 r1, .int .i64 r2, .int .i64 im, .string s, .int .i64 n]] w fun e w' => e = .returned (.bool r) ∧ Below w.heap.size w w') ∧ (∀ w : World, Calls Tryd.prog 22 #[.agg #[.int .i64 k, .int .i64 op, .int .i64 rd, .int .i64 r1, .int .i64 r2, .int .i64 im, .string s, .int .i64 n]] w fun e w' => e = .returned (.bool r) ∧ Below w.heap.size w w') ∧ (r = true → ∃ T, Both ⟨k, op, rd, r1, r2, im, s, n⟩ T) := by
  by_cases h : k < 1 ∨ 16 < k
  · exact ⟨false, specLine_no k h op rd r1 r2 im n s, implLine_no k h op rd r1 r2 im n s, fun h => nomatch h⟩
  have hk : k = 1 ∨ k = 2 ∨ k = 3 ∨ k = 4 ∨ k = 5 ∨ k = 6 ∨ k = 7 ∨ k = 8 ∨ k = 9 ∨ k = 10 ∨ k = 11 ∨ k = 12 ∨ k = 13 ∨ k = 14 ∨ k = 15 ∨ k = 16 := by omega
  clear h
  rcases hk with rfl | rfl | rfl | rfl | rfl | rfl | rfl | rfl | rfl | rfl | rfl | rfl | rfl | rfl | rfl | rfl
  · refine ⟨_, specLine_1 op rd r1 r2 im n s, implLine_1 op rd r1 r2 im n s, fun h => ?_⟩
    simp only [Bool.and_eq_true, decide_eq_true_eq] at h
    obtain ⟨⟨hsy, hn⟩, hio⟩ := h
    exact ⟨_, both_1 op rd r1 r2 im n s (Pl.lab_size hsy).2⟩
  · refine ⟨_, specLine_2 op rd r1 r2 im n s, implLine_2 op rd r1 r2 im n s, fun h => ?_⟩
    simp only [Bool.and_eq_true, decide_eq_true_eq] at h
    obtain ⟨⟨hsy, _⟩, hio⟩ := h
    have hsz : s.size ≤ 48 := by rw [Pl.emp_size hsy]; decide
    have hi : iok op rd r1 r2 im = true := by exact hio.1
    unfold iok at hi
    rw [Bool.and_eq_true, decide_eq_true_eq] at hi
    obtain ⟨ho, hf⟩ := hi
    obtain ⟨q, rfl⟩ : ∃ q : Nat, op = q := ⟨op.toNat, by omega⟩
    rw [Int.toNat_natCast] at hf
    have hb := Pl.okF_bd (by have := fm_at q (by omega) (by omega); omega) hf
    obtain ⟨a, rfl⟩ : ∃ a : Nat, rd = a := ⟨rd.toNat, by omega⟩
    obtain ⟨b, rfl⟩ : ∃ b : Nat, r1 = b := ⟨r1.toNat, by omega⟩
    obtain ⟨c, rfl⟩ : ∃ c : Nat, r2 = c := ⟨r2.toNat, by omega⟩
    exact ⟨_, both_2 q a b c im n s (by omega) (by omega) (by omega) (by omega) (by omega) (by omega) hsz⟩
  · refine ⟨_, specLine_3 op rd r1 r2 im n s, implLine_3 op rd r1 r2 im n s, fun h => ?_⟩
    simp only [Bool.and_eq_true, decide_eq_true_eq] at h
    obtain ⟨⟨hsy, _⟩, hio⟩ := h
    have hsz : s.size ≤ 48 := by exact (Pl.lab_size hsy).2
    have hi : iok op rd r1 r2 im = true := by exact hio.1.1
    unfold iok at hi
    rw [Bool.and_eq_true, decide_eq_true_eq] at hi
    obtain ⟨ho, hf⟩ := hi
    obtain ⟨q, rfl⟩ : ∃ q : Nat, op = q := ⟨op.toNat, by omega⟩
    rw [Int.toNat_natCast] at hf
    have hb := Pl.okF_bd (by have := fm_at q (by omega) (by omega); omega) hf
    obtain ⟨a, rfl⟩ : ∃ a : Nat, rd = a := ⟨rd.toNat, by omega⟩
    obtain ⟨b, rfl⟩ : ∃ b : Nat, r1 = b := ⟨r1.toNat, by omega⟩
    obtain ⟨c, rfl⟩ : ∃ c : Nat, r2 = c := ⟨r2.toNat, by omega⟩
    exact ⟨_, both_3 q a b c im n s (by omega) (by omega) (by omega) (by omega) (by omega) (by omega) hsz⟩
  · refine ⟨_, specLine_4 op rd r1 r2 im n s, implLine_4 op rd r1 r2 im n s, fun h => ?_⟩
    simp only [Bool.and_eq_true, decide_eq_true_eq] at h
    obtain ⟨⟨hsy, hn⟩, hio⟩ := h
    have hb := Pl.only_bd hio
    obtain ⟨a, rfl⟩ : ∃ a : Nat, rd = a := ⟨rd.toNat, by omega⟩
    exact ⟨_, both_4 op a r1 r2 im n s (by omega) (by omega)⟩
  · refine ⟨_, specLine_5 op rd r1 r2 im n s, implLine_5 op rd r1 r2 im n s, fun h => ?_⟩
    simp only [Bool.and_eq_true, decide_eq_true_eq] at h
    obtain ⟨⟨hsy, hn⟩, hio⟩ := h
    have hb := Pl.only_bd hio
    obtain ⟨a, rfl⟩ : ∃ a : Nat, rd = a := ⟨rd.toNat, by omega⟩
    exact ⟨_, both_5 op a r1 r2 im n s (by omega) (Pl.lab_size hsy).2 (by omega)⟩
  · refine ⟨_, specLine_6 op rd r1 r2 im n s, implLine_6 op rd r1 r2 im n s, fun h => ?_⟩
    simp only [Bool.and_eq_true, decide_eq_true_eq] at h
    obtain ⟨⟨hsy, hn⟩, hio⟩ := h
    have hb := Pl.only_bd hio
    obtain ⟨a, rfl⟩ : ∃ a : Nat, rd = a := ⟨rd.toNat, by omega⟩
    obtain ⟨b, rfl⟩ : ∃ b : Nat, r1 = b := ⟨r1.toNat, by omega⟩
    exact ⟨_, both_6 op a b r2 im n s (by omega) (by omega)⟩
  · refine ⟨_, specLine_7 op rd r1 r2 im n s, implLine_7 op rd r1 r2 im n s, fun h => ?_⟩
    simp only [Bool.and_eq_true, decide_eq_true_eq] at h
    obtain ⟨⟨hsy, hn⟩, hio⟩ := h
    exact ⟨_, both_7 op rd r1 r2 im n s (Pl.lab_size hsy).2⟩
  · refine ⟨_, specLine_8 op rd r1 r2 im n s, implLine_8 op rd r1 r2 im n s, fun h => ?_⟩
    simp only [Bool.and_eq_true, decide_eq_true_eq] at h
    obtain ⟨⟨hsy, hn⟩, hio⟩ := h
    exact ⟨_, both_8 op rd r1 r2 im n s (Pl.lab_size hsy).2⟩
  · refine ⟨_, specLine_9 op rd r1 r2 im n s, implLine_9 op rd r1 r2 im n s, fun h => ?_⟩
    exact ⟨_, both_9 op rd r1 r2 im n s⟩
  · refine ⟨_, specLine_10 op rd r1 r2 im n s, implLine_10 op rd r1 r2 im n s, fun h => ?_⟩
    exact ⟨_, both_10 op rd r1 r2 im n s⟩
  · refine ⟨_, specLine_11 op rd r1 r2 im n s, implLine_11 op rd r1 r2 im n s, fun h => ?_⟩
    exact ⟨_, both_11 op rd r1 r2 im n s⟩
  · refine ⟨_, specLine_12 op rd r1 r2 im n s, implLine_12 op rd r1 r2 im n s, fun h => ?_⟩
    simp only [Bool.and_eq_true, decide_eq_true_eq] at h
    obtain ⟨⟨hsy, hn⟩, hio⟩ := h
    have := Pl.emp_size hsy
    subst this
    exact ⟨_, both_12 op rd r1 r2 im n (by omega)⟩
  · refine ⟨_, specLine_13 op rd r1 r2 im n s, implLine_13 op rd r1 r2 im n s, fun h => ?_⟩
    simp only [Bool.and_eq_true, decide_eq_true_eq] at h
    obtain ⟨⟨hsy, hn⟩, hio⟩ := h
    have := Pl.emp_size hsy
    subst this
    exact ⟨_, both_13 op rd r1 r2 im n (by omega)⟩
  · by_cases he : s.size = 0
    · refine ⟨_, specLine_14e op rd r1 r2 im n s he, implLine_14e op rd r1 r2 im n s he, fun h => ?_⟩
      simp only [Bool.and_eq_true, decide_eq_true_eq] at h
      obtain ⟨⟨hsy, hn⟩, hio⟩ := h
      have := Pl.emp_size hsy
      subst this
      exact ⟨_, both_14 op rd r1 r2 im n (by omega)⟩
    · refine ⟨_, specLine_14n op rd r1 r2 im n s he, implLine_14n op rd r1 r2 im n s he, fun h => ?_⟩
      simp only [Bool.and_eq_true, decide_eq_true_eq] at h
      obtain ⟨⟨hsy, hn⟩, hio⟩ := h
      exact ⟨_, both_14n op rd r1 r2 im n s he (Pl.lab_size hsy).2 (by omega)⟩
  · refine ⟨_, specLine_15 op rd r1 r2 im n s, implLine_15 op rd r1 r2 im n s, fun h => ?_⟩
    simp only [Bool.and_eq_true, decide_eq_true_eq] at h
    obtain ⟨⟨hsy, hn⟩, hio⟩ := h
    have := Pl.emp_size hsy
    subst this
    exact ⟨_, both_15 op rd r1 r2 im n (by omega)⟩
  · refine ⟨_, specLine_16 op rd r1 r2 im n s, implLine_16 op rd r1 r2 im n s, fun h => ?_⟩
    simp only [Bool.and_eq_true, decide_eq_true_eq] at h
    obtain ⟨⟨hsy, hn⟩, hio, _⟩ := h
    have := Pl.emp_size hsy
    subst this
    exact ⟨_, both_16 op rd r1 r2 im n (by omega)⟩
end Go.Proofs.YtgpmplcamdophaaDoor.W
