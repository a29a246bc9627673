import Derived.Test.YteadglnenaiaaaaGreatDoorK11
import Derived.Test.YteadglnenaiaaaaGreatDoorK09
import Derived.Deep.QuietTactic
import Derived.BigQuiet
import Derived.Great.Walk
import Derived.Test.YteadglnenaiaaaaGreatDoorK15
import Derived.Test.YteadglnenaiaaaaGreatDoorK01
import Derived.Test.YteadglnenaiaaaaGreatDoorK00
import Derived.Laws.BytesArg
import Derived.Laws.BytesString
import Derived.Laws.Cells
import Derived.Deep.RegionWith
import Derived.Deep.Cut
import Derived.Deep.DeepCutAuto
import Derived.Deep.CutRange
import Derived.Laws.MakeOwn
import Derived.Laws.OwnMore
import Derived.Test.YteadglnenaiaaaaGreatDoorK02
set_option linter.unusedVariables false
set_option linter.unusedSimpArgs false
namespace Go.Proofs.YteadglnenaiaaaaGreatDoor.Pl
theorem ext_list (s : ByteArray) (a b : Nat) : (s.extract a b).data.toList = (s.data.toList.drop a).take (b - a) := by
  rw [ByteArray.data_extract, Array.toList_extract]
theorem ln_count (s : ByteArray) (k : Nat) : ∀ n, k + n ≤ s.size → ln s (k + n) = ln s k + (((s.data.toList.drop k).take n).count 10 : Nat)
  | 0, _ => by simp
  | n + 1, h => by
    have ih := ln_count s k n (by omega)
    have hl : k + n < s.data.toList.length := by simp; omega
    have e1 : ln s (k + n + 1) = if byt s (k + n) = 10 then ln s (k + n) + 1 else ln s (k + n) := rfl
    rw [show k + (n + 1) = k + n + 1 by omega, e1, ih, List.take_add_one, List.count_append]
    have hx : (s.data.toList.drop k)[n]? = some (s.data.toList.getD (k + n) 0) := by
      rw [List.getElem?_drop, List.getD_eq_getElem?_getD, List.getElem?_eq_getElem hl]; rfl
    rw [hx]
    unfold byt
    generalize s.data.toList.getD (k + n) 0 = x
    by_cases hq : x = 10
    · subst hq
      rw [if_pos (by decide)]
      simp
      omega
    · rw [if_neg (fun e => hq (UInt8.toNat_inj.1 (by show x.toNat = 10; omega)))]
      simp [List.count_singleton, hq]
theorem pass_pos (s : ByteArray) (k n : Nat) (h : k + n ≤ s.size) :
    (Lib.lastIndexByte (s.extract k (k + n)) 10 = -1 ∧ ln s (k + n) = ln s k ∧ cn s (k + n) = cn s k + n) ∨
    (∃ i : Nat, i < n ∧ Lib.lastIndexByte (s.extract k (k + n)) 10 = i ∧ ln s (k + n) = ln s k + (Lib.countByte (s.extract k (k + n)).data.toList 10 : Nat) ∧ cn s (k + n) = (n : Int) - i) := by
  have hsz : (s.extract k (k + n)).size = n := by rw [ext_size]; omega
  have hb : ∀ j, j < n → (((s.extract k (k + n)).data[j]!).toNat : Int) = byt s (k + j) := fun j hj => by
    rw [← byt_ext s k (k + n) j (by omega) h]
    unfold byt
    have hj' : j < (s.extract k (k + n)).data.size := by show j < (s.extract k (k + n)).size; omega
    have e : (s.extract k (k + n)).data[j]! = (s.extract k (k + n)).data.toList.getD j 0 := by
      generalize (s.extract k (k + n)).data = D at hj' ⊢
      rw [List.getD_eq_getElem?_getD, Array.getElem?_toList, Array.getElem?_eq_getElem hj']
      simp [hj']
    rw [e]
  rcases Lib.lastIndexByte_spec (s.extract k (k + n)) 10 with ⟨h1, h2⟩ | ⟨i, h1, h2, h3, h4⟩
  · left
    obtain ⟨q1, q2⟩ := ln_same s k n (fun j hj1 hj2 => by
      have := h2 (j - k) (by omega)
      rw [hb (j - k) (by omega), show k + (j - k) = j by omega] at this
      exact this)
    exact ⟨h1, q1, q2⟩
  · right
    rw [hsz] at h1 h4
    refine ⟨i, h1, h2, ?_, ?_⟩
    · unfold Lib.countByte
      rw [ext_list, show k + n - k = n by omega]
      exact ln_count s k n h
    · have hi : byt s (k + i) = 10 := by rw [← hb i h1]; exact h3
      have c1 : cn s (k + i + 1) = 1 := by
        have e1 : cn s (k + i + 1) = if byt s (k + i) = 10 then 1 else cn s (k + i) + 1 := rfl
        rw [e1, if_pos hi]
      obtain ⟨_, q2⟩ := ln_same s (k + i + 1) (n - i - 1) (fun j hj1 hj2 => by
        have := h4 (j - k) (by omega) (by omega)
        rw [hb (j - k) (by omega), show k + (j - k) = j by omega] at this
        exact this)
      rw [show k + i + 1 + (n - i - 1) = k + n by omega, c1] at q2
      rw [q2]
      omega
end Go.Proofs.YteadglnenaiaaaaGreatDoor.Pl
namespace Go.Proofs.YteadglnenaiaaaaGreatDoor.W
open Go.RowKit
structure OnlyX (c : Nat) (w w' : World) : Prop where
  os : w'.os = w.os
  tape : w'.tape = w.tape
  output : w'.output = w.output
  size : w.heap.size ≤ w'.heap.size
  block : ∀ b, b < w.heap.size → b ≠ c → w'.heap[b]? = w.heap[b]?
theorem OnlyX.refl (c : Nat) (w : World) : OnlyX c w w := ⟨rfl, rfl, rfl, Nat.le_refl _, fun _ _ _ => rfl⟩
theorem OnlyX.trans {c : Nat} {a b d : World} (h : OnlyX c a b) (k : OnlyX c b d) : OnlyX c a d := ⟨k.os.trans h.os, k.tape.trans h.tape, k.output.trans h.output, Nat.le_trans h.size k.size, fun x hx hc => (k.block x (Nat.lt_of_lt_of_le hx h.size) hc).trans (h.block x hx hc)⟩
theorem OnlyX.of_below {c : Nat} {a b : World} (h : Below a.heap.size a b) : OnlyX c a b := ⟨h.os, h.tape, h.output, h.size, fun x hx _ => h.block x hx⟩
theorem OnlyX.below {c n : Nat} {w w' : World} (h : OnlyX c w w') (hn : n ≤ c) (hn2 : n ≤ w.heap.size) : Below n w w' := ⟨h.os, h.tape, h.output, h.size, fun b hb => h.block b (by omega) (by omega)⟩
theorem OnlyX.setCell {c : Nat} {w u : World} (h : OnlyX c w u) (q : Nat) (x : Value) : OnlyX c w (u.setCell ⟨c, q, none⟩ x) := by
  refine ⟨?_, ?_, ?_, ?_, fun b hb hc => (Below.heap_setCell u ⟨c, q, none⟩ x b hc).trans (h.block b hb hc)⟩
  · have := (Below.refl 0 u).setCell (p := ⟨c, q, none⟩) (Nat.zero_le _) x; exact this.os.trans h.os
  · have := (Below.refl 0 u).setCell (p := ⟨c, q, none⟩) (Nat.zero_le _) x; exact this.tape.trans h.tape
  · have := (Below.refl 0 u).setCell (p := ⟨c, q, none⟩) (Nat.zero_le _) x; exact this.output.trans h.output
  · rw [World.size_setCell]; exact h.size
theorem OnlyX.drewN {c : Nat} {w u : World} (h : OnlyX c w u) (m : Nat) : OnlyX c w (u.drewN m) := ⟨h.os, h.tape, h.output, h.size, h.block⟩
theorem OnlyX.drew {c : Nat} {w u : World} (h : OnlyX c w u) : OnlyX c w u.drew := ⟨h.os, h.tape, h.output, h.size, h.block⟩
def LxSt (g : Nat) (s : ByteArray) (k : Nat) (w : World) : Prop := w.heap[g]? = some (.cells #[.string s, .int .i64 k, .int .i64 (Pl.ln s k), .int .i64 ((k : Int) + 1 - Pl.cn s k)] 123 (0, 0))
theorem LxSt.keep {g k : Nat} {s : ByteArray} {w w' : World} (h : LxSt g s k w) (hb : Below w.heap.size w w') : LxSt g s k w' := (hb.block g (Array.getElem?_eq_some_iff.1 h).1).trans h
set_option maxHeartbeats 4000000 in
set_option maxRecDepth 100000 in
theorem pass_is (g : Nat) (s : ByteArray) (hs : s.size ≤ 1048576) (k n : Nat) (h : k + n ≤ s.size) (w : World) (hL : LxSt g s k w) : Calls Tryz.prog 109 #[.pointer (some ⟨g, 0, none⟩), .int .i64 n] w fun e w' => (∃ v, e = .returned v) ∧ LxSt g s (k + n) w' ∧ OnlyX g w w' := by
  have HP := Pl.pass_pos s k n h
  obtain ⟨l0, l1⟩ := Pl.ln_b s k
  obtain ⟨c0, c1⟩ := Pl.cn_b s k
  have HL : Hid (w.heap[g]? = some (.cells #[.string s, .int .i64 k, .int .i64 (Pl.ln s k), .int .i64 ((k : Int) + 1 - Pl.cn s k)] 123 (0, 0))) := hL
  have HG : Hid (∀ (u : World) (x y z : Int), u.heap[g]? = some (.cells #[.string s, .int .i64 x, .int .i64 y, .int .i64 z] 123 (0, 0)) → x = ((k + n : Nat) : Int) → y = Pl.ln s (k + n) → z = ((k + n : Nat) : Int) + 1 - Pl.cn s (k + n) → LxSt g s (k + n) u) := fun u x y z hu hx hy hz => by
    unfold LxSt; rw [hu, hx, hy, hz]
  obtain ⟨A, hA⟩ : ∃ A, A = Pl.ln s k := ⟨_, rfl⟩
  obtain ⟨B, hB⟩ : ∃ B, B = Pl.cn s k := ⟨_, rfl⟩
  rw [← hA] at HP HL l0 l1
  rw [← hB] at HP HL c0 c1
  clear hA hB hL
  have hc0 : w.cell? ⟨g, 0, none⟩ = some (.string s) := cell_of_row w g 0 _ 123 (0, 0) HL.out
  have hc1 : w.cell? ⟨g, 1, none⟩ = some (.int .i64 k) := cell_of_row w g 1 _ 123 (0, 0) HL.out
  have hc2 : w.cell? ⟨g, 2, none⟩ = some (.int .i64 A) := cell_of_row w g 2 _ 123 (0, 0) HL.out
  have hwr : IntKind.i64.wrap ((k : Int) + (n : Int)) = (k : Int) + (n : Int) := by rw [IntKind.wrap_i64]; omega
  have hle1 : (k : Int) ≤ (k : Int) + (n : Int) := by omega
  have hle2 : (k : Int) + (n : Int) ≤ s.size := by omega
  have htn : ((k : Int) + (n : Int)).toNat = k + n := by omega
  have hPs : (s.extract k (k + n)).size = n := by rw [Pl.ext_size]; omega
  have HLI : Hid (∀ u : World, Calls Tryz.prog 127 #[.string (s.extract k (k + n)), .int .u8 10] u fun e w' => e = .returned (.int .i64 (Lib.lastIndexByte (s.extract k (k + n)) 10)) ∧ w' = u) := fun u => Tryz.strings_LastIndexByte (s.extract k (k + n)) 10 (by omega) u
  have HCO : Hid (∀ u : World, Calls Tryz.prog 128 #[.string (s.extract k (k + n)), .string ⟨#[10]⟩] u fun e w' => e = .returned (.int .i64 (Lib.countByte (s.extract k (k + n)).data.toList 10 : Nat)) ∧ w' = u) := fun u => Tryz.strings_Count_one (s.extract k (k + n)) 10 u
  have HP' : Hid _ := HP
  clear HP
  go_enter Tryz.func109, Tryz.ntmps109
  go_wp2_with fail
  go_quiet (fail)
  go_wp2_with fail
  obtain ⟨U, hU⟩ : ∃ U, U = w.drewN nq := ⟨_, rfl⟩
  rw [← hU]
  have HLU : Hid (U.heap[g]? = some (.cells #[.string s, .int .i64 k, .int .i64 A, .int .i64 ((k : Int) + 1 - B)] 123 (0, 0))) := by rw [hU]; exact HL.out
  have OX : Hid (OnlyX g w U) := by rw [hU]; exact (OnlyX.refl _ _).drewN _
  have hn0 := HL.out
  clear hU hc0 hc1 hc2 hn0
  have d1 : U.cell? ⟨g, 1, none⟩ = some (.int .i64 k) := cell_of_row U g 1 _ 123 (0, 0) HLU.out
  have d2 : U.cell? ⟨g, 2, none⟩ = some (.int .i64 A) := cell_of_row U g 2 _ 123 (0, 0) HLU.out
  have d3 : U.cell? ⟨g, 3, none⟩ = some (.int .i64 ((k : Int) + 1 - B)) := cell_of_row U g 3 _ 123 (0, 0) HLU.out
  have f1 : U.frozen? ⟨g, 1, none⟩ = false := frozen_of_row U g 1 _ 123 HLU.out
  have f2 : U.frozen? ⟨g, 2, none⟩ = false := frozen_of_row U g 2 _ 123 HLU.out
  have f3 : U.frozen? ⟨g, 3, none⟩ = false := frozen_of_row U g 3 _ 123 HLU.out
  have hcb : Lib.countByte (s.extract k (k + n)).data.toList 10 ≤ n := by
    unfold Lib.countByte
    refine Nat.le_trans List.count_le_length ?_
    simp
    omega
  obtain ⟨cnt, hcnt⟩ : ∃ cnt, cnt = Lib.countByte (s.extract k (k + n)).data.toList 10 := ⟨_, rfl⟩
  rw [← hcnt] at hcb HCO HP'
  obtain ⟨D, hD⟩ : ∃ D, D = s.extract k (k + n) := ⟨_, rfl⟩
  rw [← hD] at HCO HP' HLI ⊢
  obtain ⟨last, hlast⟩ : ∃ last, last = Lib.lastIndexByte D 10 := ⟨_, rfl⟩
  rw [← hlast] at HP' HLI
  clear hcnt hD hlast hPs
  refine (HLI.out _).mono ?_
  rintro e u1 ⟨rfl, hu1⟩
  rw [hu1]
  clear hu1 HLI
  rcases HP'.out with ⟨rfl, q1, q2⟩ | ⟨i, hin, rfl, q1, q2⟩
  · have K1 : Hid (Pl.ln s (k + n) = A) := q1
    have K2 : Hid (Pl.cn s (k + n) = B + n) := q2
    clear q1 q2 HP'
    go_wp2_with fail
    go_end0
    exact ⟨⟨_, rfl⟩, HG.out _ _ _ _ (heap_setCell_same U g 1 _ 123 _ HLU.out) (by omega) K1.out.symm (by rw [K2.out]; omega), OX.out.setCell 1 _⟩
  · have K1 : Hid (Pl.ln s (k + n) = A + cnt) := q1
    have K2 : Hid (Pl.cn s (k + n) = (n : Int) - i) := q2
    have hcb' : (cnt : Int) ≤ n := by omega
    have hii : (i : Int) < n := by omega
    clear q1 q2 HP'
    have hwr2 : IntKind.i64.wrap (A + (cnt : Int)) = A + (cnt : Int) := by rw [IntKind.wrap_i64]; omega
    go_wp2_with fail
    go_region_with (go_at_call 128; refine (HCO.out _).mono ?_; rintro e u2 ⟨rfl, rfl⟩)
    all_goals go_wp2_with fail
    all_goals
      go_end0
      refine ⟨⟨_, rfl⟩, HG.out _ _ _ _ (heap_setCell_same _ g 1 _ 123 _ (heap_setCell_same _ g 3 _ 123 _ (heap_setCell_same _ g 2 _ 123 _ HLU.out))) (by omega) K1.out.symm (by rw [K2.out]; omega), ?_⟩
      repeat (first | exact OX.out | refine OnlyX.setCell ?_ _ _ | refine OnlyX.drewN ?_ _ | refine OnlyX.drew ?_)
end Go.Proofs.YteadglnenaiaaaaGreatDoor.W
namespace Go.Proofs.YteadglnenaiaaaaGreatDoor.Pl
/-! A token's text read back, wherever it stands -/
def Dr (s : ByteArray) (i : Nat) (l : List UInt8) : Prop := s.data.toList.drop i = l
theorem sz_len (s : ByteArray) : s.size = s.data.toList.length := by rw [Array.length_toList]; rfl
theorem Dr.lt {s : ByteArray} {i : Nat} {c : UInt8} {l : List UInt8} (h : Dr s i (c :: l)) : i < s.size := by
  rw [sz_len]
  rcases Nat.lt_or_ge i s.data.toList.length with q | q
  · exact q
  · unfold Dr at h
    rw [List.drop_eq_nil_of_le q] at h
    cases h
theorem Dr.len {s : ByteArray} {i : Nat} {l : List UInt8} (h : Dr s i l) : l.length = s.size - i := by
  unfold Dr at h
  rw [← h, List.length_drop, sz_len]
theorem Dr.at {s : ByteArray} {i : Nat} {l : List UInt8} (h : Dr s i l) (j : Nat) : byt s (i + j) = ((l.getD j 0).toNat : Int) := by
  unfold Dr at h
  unfold byt
  rw [← h, List.getD_eq_getElem?_getD, List.getD_eq_getElem?_getD, List.getElem?_drop]
theorem Dr.b0 {s : ByteArray} {i : Nat} {c : UInt8} {l : List UInt8} (h : Dr s i (c :: l)) : byt s i = (c.toNat : Int) := h.at 0
theorem Dr.b1 {s : ByteArray} {i : Nat} {c d : UInt8} {l : List UInt8} (h : Dr s i (c :: d :: l)) : byt s (i + 1) = (d.toNat : Int) := h.at 1
theorem Dr.app {s : ByteArray} {i : Nat} {a b : List UInt8} (h : Dr s i (a ++ b)) : Dr s (i + a.length) b := by
  unfold Dr at *
  rw [← List.drop_drop, h, List.drop_left]
theorem Dr.tl {s : ByteArray} {i : Nat} {c : UInt8} {l : List UInt8} (h : Dr s i (c :: l)) : Dr s (i + 1) l := Dr.app (a := [c]) h
theorem Dr.nil {s : ByteArray} {i : Nat} (h : Dr s i []) : s.size ≤ i := by
  have := h.len
  simp at this
  omega
theorem Dr.ext {s : ByteArray} {i : Nat} {a b : List UInt8} (h : Dr s i (a ++ b)) : s.extract i (i + a.length) = ⟨a.toArray⟩ := by
  apply ByteArray.ext
  apply Array.toList_inj.1
  rw [ext_list, Nat.add_sub_cancel_left, show s.data.toList.drop i = a ++ b from h, List.take_left]
theorem Dr.rest {s : ByteArray} {i : Nat} {l : List UInt8} (h : Dr s i l) : (s.extract i s.size).data.toList = l := by
  rw [ext_list, show s.data.toList.drop i = l from h, List.take_of_length_le (by rw [h.len]; exact Nat.le_refl _)]
theorem dr_self (s : ByteArray) : Dr s 0 s.data.toList := by unfold Dr; rw [List.drop_zero]
def Ends (r : List UInt8) : Prop := r = [] ∨ ∃ q, r = 32 :: q
theorem run_at {s : ByteArray} {i : Nat} {a r : List UInt8} (h : Dr s i (a ++ r)) (hr : Ends r) (ha : ∀ c ∈ a, wch (c.toNat : Int) = true) : run wch (s.extract i s.size) = a.length := by
  have hd := h.rest
  have hs : (s.extract i s.size).size = a.length + r.length := by rw [sz_len, hd, List.length_append]
  refine run_eq ⟨by omega, fun j hj => ?_, ?_⟩
  · unfold byt
    rw [hd, List.getD_eq_getElem?_getD, List.getElem?_append_left hj, List.getElem?_eq_getElem hj]
    exact ha _ (List.getElem_mem _)
  · rcases hr with e | ⟨q, e⟩
    · left; rw [hs, e]; rfl
    · right
      unfold byt
      rw [hd, e, List.getD_eq_getElem?_getD, List.getElem?_append_right (Nat.le_refl _), Nat.sub_self]
      show wch ((32 : UInt8).toNat : Int) = false
      decide
theorem word_back {s : ByteArray} {i : Nat} {a r : List UInt8} (h : Dr s i (a ++ r)) (hr : Ends r) (ha : ∀ c ∈ a, wch (c.toNat : Int) = true) (h0 : a ≠ []) {k N : Int} {S : ByteArray} (hw : wrdR ⟨a.toArray⟩ = .ok (k, S, N)) : tokF s i = .ok (k, S, N, i + a.length) := by
  obtain ⟨c, a', rfl⟩ : ∃ c a', a = c :: a' := by
    cases a with
    | nil => exact absurd rfl h0
    | cons c a' => exact ⟨c, a', rfl⟩
  have hb : wch (byt s i) = true := by rw [Dr.b0 h]; exact ha c (by simp)
  unfold tokF
  rw [if_pos hb, run_at h hr ha, h.ext, hw]
theorem esc1 {s : ByteArray} {i : Nat} {c : UInt8} {l : List UInt8} (h : Dr s i (c :: l)) {v : Int} (hp : plainE (c.toNat : Int) = v) (hv : 0 ≤ v) : escF s i = .ok (v, 1) := by
  have hb := h.b0
  have hlt := h.lt
  unfold escF
  have h10 : (c.toNat : Int) ≠ 10 := fun e => by rw [e] at hp; rw [← hp] at hv; exact absurd hv (by decide)
  have h120 : (c.toNat : Int) ≠ 120 := fun e => by rw [e] at hp; rw [← hp] at hv; exact absurd hv (by decide)
  have ho : ¬ 0 ≤ oc s i := by
    unfold oc
    rw [hb]
    split
    · rename_i q
      generalize (c.toNat : Int) = x at *
      have : x = 48 ∨ x = 49 ∨ x = 50 ∨ x = 51 ∨ x = 52 ∨ x = 53 ∨ x = 54 ∨ x = 55 := by omega
      rcases this with rfl | rfl | rfl | rfl | rfl | rfl | rfl | rfl <;> (rw [← hp] at hv; exact absurd hv (by decide))
    · omega
  rw [hb, if_neg (by rintro (e | e); omega; exact h10 e), if_neg h120, if_neg ho, hp, if_neg (by omega)]
theorem oc_at {s : ByteArray} {i : Nat} {d : Nat} {l : List UInt8} (hd : d < 8) (h : Dr s i (UInt8.ofNat (48 + d) :: l)) : oc s i = d := by
  have hb := h.b0
  have hlt := h.lt
  have e : ((UInt8.ofNat (48 + d)).toNat : Int) = 48 + d := by
    rw [UInt8.toNat_ofNat']
    omega
  unfold oc
  rw [hb, e, if_pos ⟨hlt, by omega, by omega⟩]
  omega
theorem esc_o {s : ByteArray} {i : Nat} {c : Nat} {l : List UInt8} (hc : c < 256) (h : Dr s i (UInt8.ofNat (48 + c / 64) :: UInt8.ofNat (48 + c / 8 % 8) :: UInt8.ofNat (48 + c % 8) :: l)) : escF s i = .ok ((c : Int), 3) := by
  have o0 := oc_at (d := c / 64) (by omega) h
  have o1 := oc_at (d := c / 8 % 8) (by omega) h.tl
  have o2 := oc_at (d := c % 8) (by omega) h.tl.tl
  have hb := h.b0
  have hlt := h.lt
  have e : ((UInt8.ofNat (48 + c / 64)).toNat : Int) = 48 + (c / 64 : Nat) := by
    rw [UInt8.toNat_ofNat']
    omega
  rw [e] at hb
  unfold escF
  rw [hb, if_neg (by rintro (e | e) <;> omega), if_neg (by omega), o0, o1, show i + 2 = i + 1 + 1 from rfl, o2, if_pos (by omega), if_neg (by omega), if_neg (by omega), if_neg (by omega)]
  congr 2
  omega
theorem quo_one {s : ByteArray} {m : Nat} (hm : m = 34 ∨ m = 39) {i : Nat} {b : UInt8} {l acc : List UInt8} {r : Except Int (List UInt8 × Nat)} (h : Dr s i (shown b.toNat m ++ l)) (hq : Quo s m (i + (shown b.toNat m).length) (acc ++ [b]) r) : Quo s m i acc r := by
  have hb := b.toNat_lt
  have eb : UInt8.ofNat ((b.toNat : Int)).toNat = b := by simp
  have esc : ∀ x : UInt8, shown b.toNat m = [92, x] → plainE (x.toNat : Int) = b.toNat → Quo s m i acc r := by
    intro x e hp
    rw [e] at h hq
    have h92 : byt s i = 92 := h.b0
    refine .esc h.lt h92 (by rw [h92]; omega) (esc1 (h.tl : Dr s (i + 1) (x :: l)) hp (by omega)) ?_
    rw [eb]
    exact hq
  by_cases h10 : b.toNat = 10
  · refine esc 110 (by unfold shown; rw [if_pos h10]) (by rw [h10]; decide)
  by_cases h9 : b.toNat = 9
  · refine esc 116 (by unfold shown; rw [if_neg h10, if_pos h9]) (by rw [h9]; decide)
  by_cases h13 : b.toNat = 13
  · refine esc 114 (by unfold shown; rw [if_neg h10, if_neg h9, if_pos h13]) (by rw [h13]; decide)
  by_cases hmk : b.toNat = m ∨ b.toNat = 92
  · refine esc b (by rw [shown_m hmk hm]; simp) ?_
    have : b.toNat = 34 ∨ b.toNat = 39 ∨ b.toNat = 92 := by omega
    rcases this with e | e | e <;> (rw [e]; decide)
  by_cases hp : 32 ≤ b.toNat ∧ b.toNat ≤ 126
  · rw [shown_p hmk hp] at h hq
    have hb0 : byt s i = b.toNat := by
      have := Dr.b0 (c := UInt8.ofNat b.toNat) h
      simpa using this
    refine .one (Dr.lt (c := UInt8.ofNat b.toNat) h) (by rw [hb0]; omega) (by rw [hb0]; omega) (by rw [hb0]; omega) ?_
    rw [hb0, eb]
    exact hq
  · have e := shown_o hmk hp h10 h9 h13
    rw [e] at h hq
    unfold oct at h hq
    have h92 : byt s i = 92 := Dr.b0 h
    refine .esc (Dr.lt h) h92 (by rw [h92]; omega) (esc_o hb (Dr.tl h)) ?_
    rw [eb]
    exact hq
theorem quo_list {s : ByteArray} {m : Nat} (hm : m = 34 ∨ m = 39) : ∀ (bs : List UInt8) (i : Nat) (acc r : List UInt8), Dr s i (bs.flatMap (fun b => shown b.toNat m) ++ UInt8.ofNat m :: r) → Quo s m i acc (.ok (acc ++ bs, i + (bs.flatMap fun b => shown b.toNat m).length + 1)) := by
  intro bs
  induction bs with
  | nil =>
    intro i acc r h
    have hb : byt s i = m := by
      have : byt s i = ((UInt8.ofNat m).toNat : Int) := Dr.b0 h
      rw [this, UInt8.toNat_ofNat']
      omega
    rw [List.append_nil]
    exact .fin (Dr.lt h) hb (by rw [hb]; omega)
  | cons b bs ih =>
    intro i acc r h
    rw [List.flatMap_cons, List.append_assoc] at h
    refine quo_one hm h ?_
    have := ih (i + (shown b.toNat m).length) (acc ++ [b]) r h.app
    rw [List.append_assoc, List.singleton_append] at this
    rw [List.flatMap_cons, List.length_append, ← Nat.add_assoc]
    exact this
theorem str_back {s : ByteArray} {i : Nat} {S : ByteArray} {r : List UInt8} (hS : S.size ≤ 200) (h : Dr s i ((qt S 34).data.toList ++ r)) : tokF s i = .ok (4, S, 0, i + (qt S 34).size) := by
  have e : (qt S 34).data.toList = 34 :: (S.data.toList.flatMap (fun b => shown b.toNat 34) ++ [34]) := by
    unfold qt qc
    rw [sz_len S, List.take_length]
    rfl
  rw [sz_len, e]
  rw [e, List.cons_append, List.append_assoc] at h
  have hb : byt s i = 34 := Dr.b0 h
  have hq := quoV_eq (quo_list (.inl rfl) S.data.toList (i + 1) [] r (Dr.tl h))
  unfold tokF
  rw [hb, if_neg (by decide), if_neg (by decide), if_pos rfl, show ((34 : Nat) : Int) = 34 from rfl] at *
  rw [hq]
  simp only [List.nil_append]
  rw [if_neg (by rw [← sz_len]; omega)]
  congr 4
  simp
  omega
theorem chr_back {s : ByteArray} {i : Nat} {b : UInt8} {r : List UInt8} (h : Dr s i ((chr b.toNat).data.toList ++ r)) : tokF s i = .ok (3, ⟨#[99]⟩, nr 1 (b.toNat : Int), i + (chr b.toNat).size) := by
  have e : (chr b.toNat).data.toList = 39 :: ([b].flatMap (fun b => shown b.toNat 39) ++ [39]) := by
    unfold chr
    simp
  rw [sz_len, e]
  rw [e, List.cons_append, List.append_assoc] at h
  have hb : byt s i = 39 := Dr.b0 h
  have hq := quoV_eq (quo_list (.inr rfl) [b] (i + 1) [] r (Dr.tl h))
  unfold tokF
  rw [hb, if_neg (by decide), if_pos rfl, show ((39 : Nat) : Int) = 39 from rfl] at *
  rw [hq]
  simp only [List.nil_append]
  rw [if_pos (show [b].length = 1 from rfl)]
  congr 4
  simp
  omega
end Go.Proofs.YteadglnenaiaaaaGreatDoor.Pl
namespace Go.Proofs.YteadglnenaiaaaaGreatDoor.Pl
/-! integers and signs read back -/
theorem dig_all : ∀ (d u : Nat), u ≤ d → ∀ c ∈ Lib.decDigits u, 48 ≤ c.toNat ∧ c.toNat ≤ 57 := by
  intro d
  induction d with
  | zero =>
    intro u hu c hc
    obtain rfl : u = 0 := by omega
    rw [dig_small (by omega)] at hc
    rw [List.mem_singleton.1 hc]
    decide
  | succ d ih =>
    intro u hu c hc
    by_cases h : u < 10
    · rw [dig_small h] at hc
      rw [List.mem_singleton.1 hc, UInt8.toNat_ofNat']
      omega
    · rw [dig_big h, List.mem_append] at hc
      rcases hc with q | q
      · exact ih (u / 10) (by omega) c q
      · rw [List.mem_singleton.1 q, UInt8.toNat_ofNat']
        omega
theorem dig_first : ∀ (d u : Nat), u ≤ d → 0 < u → ∃ c r, Lib.decDigits u = c :: r ∧ c.toNat ≠ 48 := by
  intro d
  induction d with
  | zero => intro u hu h0; omega
  | succ d ih =>
    intro u hu h0
    by_cases h : u < 10
    · refine ⟨_, [], dig_small h, ?_⟩
      rw [UInt8.toNat_ofNat']
      omega
    · obtain ⟨c, r, h1, h2⟩ := ih (u / 10) (by omega) (by omega)
      exact ⟨c, r ++ [UInt8.ofNat (48 + u % 10)], by rw [dig_big h, h1]; rfl, h2⟩
theorem dig_len : ∀ (k u : Nat), u < 10 ^ (k + 1) → (Lib.decDigits u).length ≤ k + 1 := by
  intro k
  induction k with
  | zero => intro u h; rw [dig_small (by simpa using h)]; simp
  | succ k ih =>
    intro u h
    by_cases q : u < 10
    · rw [dig_small q]; simp
    · rw [dig_big q, List.length_append, List.length_singleton]
      have := ih (u / 10) (by rw [Nat.pow_succ] at h; omega)
      omega
def vL (b : Int) (l : List UInt8) : Int := l.foldl (fun a c => a * b + hx (c.toNat : Int)) 0
theorem vL_snoc (b : Int) (l : List UInt8) (c : UInt8) : vL b (l ++ [c]) = vL b l * b + hx (c.toNat : Int) := by
  unfold vL
  rw [List.foldl_append]
  rfl
theorem val_list (b : Int) (l : List UInt8) : ∀ k, k ≤ l.length → val ⟨l.toArray⟩ b k = vL b (l.take k) := by
  intro k
  induction k with
  | zero => intro _; rfl
  | succ k ih =>
    intro hk
    have e : byt ⟨l.toArray⟩ k = ((l[k]'(by omega)).toNat : Int) := by
      unfold byt
      rw [List.getD_eq_getElem?_getD]
      simp [List.getElem?_eq_getElem (show k < l.length by omega)]
    rw [List.take_succ_eq_append_getElem (by omega), vL_snoc, ← ih (by omega), ← e]
    rfl
theorem vL_dig : ∀ (d u : Nat), u ≤ d → vL 10 (Lib.decDigits u) = u := by
  intro d
  induction d with
  | zero =>
    intro u hu
    obtain rfl : u = 0 := by omega
    rw [dig_small (by omega)]
    decide
  | succ d ih =>
    intro u hu
    have hd : ∀ n : Nat, n < 10 → hx ((UInt8.ofNat (48 + n)).toNat : Int) = n := fun n hn => by
      rw [UInt8.toNat_ofNat', hx_dig _ (by omega) (by omega)]
      omega
    by_cases h : u < 10
    · rw [dig_small h]
      show 0 * 10 + hx _ = _
      rw [hd u h]
      omega
    · rw [dig_big h, vL_snoc, ih (u / 10) (by omega), hd (u % 10) (by omega)]
      omega
theorem digw {c : UInt8} (h : 48 ≤ c.toNat ∧ c.toNat ≤ 57) : wch (c.toNat : Int) = true := by
  unfold wch dg
  rw [decide_eq_true (by omega)]
  rfl
theorem int_read (u : Nat) (T : List UInt8) (hT : T = [117] ∨ (T = [] ∧ u ≤ 2147483647)) (hu : u ≤ 4294967295) : intR ⟨(Lib.decDigits u ++ T).toArray⟩ = .ok (⟨T.toArray⟩, (u : Int)) := by
  obtain ⟨c, r, hd, hc1, hc2⟩ := dig_head _ u (Nat.le_refl _)
  have hall := dig_all _ u (Nat.le_refl _)
  have hlen : 0 < (Lib.decDigits u).length := by rw [hd]; simp
  generalize hx' : (⟨(Lib.decDigits u ++ T).toArray⟩ : ByteArray) = x
  have hxl : x.data.toList = Lib.decDigits u ++ T := by rw [← hx']
  have hxs : x.size = (Lib.decDigits u).length + T.length := by rw [sz_len, hxl, List.length_append]
  have hb : ∀ j, byt x j = (((Lib.decDigits u ++ T).getD j 0).toNat : Int) := fun j => by unfold byt; rw [hxl]
  have hb0 : byt x 0 = (c.toNat : Int) := by rw [hb, hd]; rfl
  have hD : ∀ j (h : j < (Lib.decDigits u).length), byt x j = (((Lib.decDigits u)[j]'h).toNat : Int) := fun j h => by
    rw [hb, List.getD_eq_getElem?_getD, List.getElem?_append_left h, List.getElem?_eq_getElem h]
    rfl
  have hlast : (uu (byt x (x.size - 1)) = true ↔ T = [117]) ∧ iend x = (Lib.decDigits u).length := by
    rcases hT with e | ⟨e, _⟩
    · have e1 : byt x (x.size - 1) = 117 := by
        rw [hb, hxs, e, List.getD_eq_getElem?_getD]
        simp
      unfold iend
      rw [e1]
      refine ⟨⟨fun _ => e, fun _ => rfl⟩, ?_⟩
      rw [if_pos (by decide), hxs, e]
      simp
    · have e1 : uu (byt x (x.size - 1)) = false := by
        have hj : x.size - 1 < (Lib.decDigits u).length := by rw [hxs, e]; simp; omega
        rw [hD _ hj]
        have := hall _ (List.getElem_mem hj)
        unfold uu
        simp only [Bool.or_eq_false_iff, beq_eq_false_iff_ne, ne_eq]
        omega
      unfold iend
      rw [e1]
      refine ⟨⟨fun q => (by cases q), fun q => by rw [e] at q; cases q⟩, ?_⟩
      rw [if_neg (by decide), hxs, e]
      simp
  have hisx : isx x = false := by
    by_cases h0 : u = 0
    · have h1 : byt x 1 ≠ 120 ∧ byt x 1 ≠ 88 := by
        rw [hb, h0, dig_small (by omega)]
        rcases hT with e | ⟨e, _⟩ <;> rw [e] <;> decide
      unfold isx
      simp only [Bool.and_eq_false_iff, Bool.or_eq_false_iff, beq_eq_false_iff_ne]
      exact .inr h1
    · obtain ⟨c', r', hd', hn⟩ := dig_first _ u (Nat.le_refl _) (by omega)
      rw [hd] at hd'
      cases hd'
      unfold isx
      simp only [Bool.and_eq_false_iff, Bool.or_eq_false_iff, beq_eq_false_iff_ne]
      exact .inl (.inr (by rw [hb0]; omega))
  have hoff : ioff x = 0 := by unfold ioff; rw [hisx, if_neg (by decide)]
  have hig : idig x = ⟨(Lib.decDigits u).toArray⟩ := by
    unfold idig
    rw [hoff, hlast.2]
    have := Dr.ext (s := x) (i := 0) (a := Lib.decDigits u) (b := T) (by unfold Dr; rw [List.drop_zero, hxl])
    rw [Nat.zero_add] at this
    exact this
  have higs : (idig x).size = (Lib.decDigits u).length := by rw [hig, sz_len]
  have higb : ∀ j, j < (idig x).size → 48 ≤ byt (idig x) j ∧ byt (idig x) j ≤ 57 := fun j hj => by
    rw [higs] at hj
    have : byt (idig x) j = (((Lib.decDigits u)[j]'hj).toNat : Int) := by
      rw [hig]
      unfold byt
      rw [List.getD_eq_getElem?_getD]
      simp [List.getElem?_eq_getElem hj]
    rw [this]
    have := hall _ (List.getElem_mem hj)
    omega
  have hv : val (idig x) (ibase x) (idig x).size = u ∧ ∀ j, j < (idig x).size → hx (byt (idig x) j) < ibase x := by
    by_cases h0 : u = 0
    · have e8 : ibase x = 8 := by
        unfold ibase
        rw [hisx, if_neg (by decide), hb0]
        rw [h0, dig_small (by omega)] at hd
        cases hd
        rfl
      rw [e8]
      refine ⟨?_, fun j hj => ?_⟩
      · rw [higs, hig, val_list 8 _ _ (Nat.le_refl _), List.take_length, h0, dig_small (by omega)]
        decide
      · have hj0 : j = 0 := by rw [higs, h0, dig_small (by omega)] at hj; simp at hj; omega
        subst hj0
        rw [hig, h0, dig_small (by omega)]
        decide
    · obtain ⟨c', r', hd', hn⟩ := dig_first _ u (Nat.le_refl _) (by omega)
      rw [hd] at hd'
      cases hd'
      have e10 : ibase x = 10 := by
        unfold ibase
        rw [hisx, if_neg (by decide), hb0, if_neg (by omega)]
      rw [e10]
      refine ⟨?_, fun j hj => ?_⟩
      · rw [higs, hig, val_list 10 _ _ (Nat.le_refl _), List.take_length, vL_dig _ u (Nat.le_refl _)]
      · have := higb j hj
        rw [hx_dig _ this.1 this.2]
        omega
  rw [intR_ok (by rw [hoff, hlast.2]; omega) (fun j hj => ?_) hv.2 (by rw [hv.1]; omega), hv.1]
  · congr 2
    rcases hT with e | ⟨e, h⟩
    · rw [if_pos (.inl (hlast.1.2 e)), e]
    · rw [if_neg (by rintro (q | q); have := hlast.1.1 q; rw [e] at this; cases this; omega), e]
  · have := higb j hj
    unfold badD
    rw [hx_dig _ this.1 this.2, decide_eq_false (by omega), decide_eq_false (by omega)]
    simp
theorem int_back {s : ByteArray} {i : Nat} {r : List UInt8} (u : Nat) (T : List UInt8) (hT : T = [117] ∨ (T = [] ∧ u ≤ 2147483647)) (hu : u ≤ 4294967295) (hr : Ends r) (h : Dr s i ((Lib.decDigits u ++ T) ++ r)) : tokF s i = .ok (3, ⟨T.toArray⟩, (u : Int), i + (Lib.decDigits u ++ T).length) := by
  obtain ⟨c, q, hd, hc1, hc2⟩ := dig_head _ u (Nat.le_refl _)
  refine word_back h hr (fun x hx => ?_) (by rw [hd]; simp) ?_
  · rw [List.mem_append] at hx
    rcases hx with p | p
    · exact digw (dig_all _ u (Nat.le_refl _) x p)
    · rcases hT with e | ⟨e, _⟩
      · rw [e] at p
        rw [List.mem_singleton.1 p]
        decide
      · rw [e] at p
        cases p
  · unfold wrdR
    have : byt ⟨(Lib.decDigits u ++ T).toArray⟩ 0 = (c.toNat : Int) := by rw [hd, List.cons_append]; exact byt_mk _ _
    rw [this, if_pos (by unfold dg; rw [decide_eq_true (by omega)]), int_read u T hT hu]
theorem isS_mem {t : ByteArray} : isS t = true ↔ t.data.toList ∈ sgB := by
  unfold isS
  rw [List.any_eq_true, ByteArray.toList_eq]
  constructor
  · rintro ⟨r, hr, he⟩
    rw [eq_of_beq he]
    exact hr
  · intro h
    exact ⟨_, h, by simp⟩
theorem sgm_len : ∀ l ∈ sgB, 1 ≤ l.length ∧ l.length ≤ 3 := by decide
theorem sg_32 : ∀ l ∈ sgB, ∀ c ∈ l, c ≠ 32 := by decide
theorem sg_first : ∀ l ∈ sgB, wch ((l.getD 0 0).toNat : Int) = false ∧ ((l.getD 0 0).toNat : Int) ≠ 39 ∧ ((l.getD 0 0).toNat : Int) ≠ 34 ∧ blk ((l.getD 0 0).toNat : Int) = false ∧ (l.getD 0 0 = 47 → l = [47] ∨ l = [47, 61]) := by decide
theorem sgn_at {t : ByteArray} {l r : List UInt8} (hl : l ∈ sgB) (hr : Ends r) (h : t.data.toList = l ++ r) : sgn t = l.length := by
  have hn := sgm_len l hl
  have hs : t.size = l.length + r.length := by rw [sz_len, h, List.length_append]
  have big : ∀ n, l.length < n → ¬ (n ≤ t.size ∧ isS (t.extract 0 n) = true) := by
    rintro n hn ⟨h1, h2⟩
    rcases hr with e | ⟨q, e⟩
    · rw [hs, e] at h1
      simp at h1
      omega
    · rw [isS_mem, ext_list, List.drop_zero, h, e] at h2
      refine sg_32 _ h2 32 ?_ rfl
      rw [Nat.sub_zero, List.take_append, List.mem_append]
      right
      obtain ⟨m, hm⟩ : ∃ m, n - l.length = m + 1 := ⟨n - l.length - 1, by omega⟩
      rw [hm]
      simp
  have fit : ∀ n, n = l.length → n ≤ t.size ∧ isS (t.extract 0 n) = true := by
    rintro n rfl
    refine ⟨by omega, ?_⟩
    rw [isS_mem, ext_list, List.drop_zero, h, Nat.sub_zero, List.take_left]
    exact hl
  unfold sgn
  have : l.length = 1 ∨ l.length = 2 ∨ l.length = 3 := by omega
  rcases this with e | e | e
  · rw [if_neg (big 3 (by omega)), if_neg (big 2 (by omega)), if_pos (fit 1 e.symm), e]
  · rw [if_neg (big 3 (by omega)), if_pos (fit 2 e.symm), e]
  · rw [if_pos (fit 3 e.symm), e]
theorem sgn_back {s : ByteArray} {i : Nat} {l r : List UInt8} (hl : l ∈ sgB) (hr : Ends r) (h : Dr s i (l ++ r)) : tokF s i = .ok (5, ⟨l.toArray⟩, 0, i + l.length) := by
  have hn := sgm_len l hl
  obtain ⟨f1, f2, f3, _, _⟩ := sg_first l hl
  have hb : byt s i = ((l.getD 0 0).toNat : Int) := by
    obtain ⟨c, l', rfl⟩ : ∃ c l', l = c :: l' := by
      cases l with
      | nil => simp at hn
      | cons c l' => exact ⟨c, l', rfl⟩
    exact Dr.b0 h
  have hsg : sgn (s.extract i s.size) = l.length := sgn_at hl hr h.rest
  unfold tokF
  rw [hb, if_neg (by rw [f1]; decide), if_neg f2, if_neg f3, hsg, if_neg (by omega), h.ext]
end Go.Proofs.YteadglnenaiaaaaGreatDoor.Pl
namespace Go.Proofs.YteadglnenaiaaaaGreatDoor.Pl
inductive Vt : Int → ByteArray → Int → Prop
  | wrd {k : Int} {S : ByteArray} {N : Int} : k = 1 ∨ k = 2 → 0 < S.size → S.size ≤ 40 → (∀ c ∈ S.data.toList, wch (c.toNat : Int) = true) → wrdR S = .ok (k, S, N) → N = 0 → Vt k S N
  | int {S : ByteArray} {N : Int} : 0 ≤ N → N ≤ 4294967295 → (S = ⟨#[117]⟩ ∨ (S = ⟨#[]⟩ ∧ N ≤ 2147483647)) → Vt 3 S N
  | chr (b : UInt8) : Vt 3 ⟨#[99]⟩ (nr 1 (b.toNat : Int))
  | str {S : ByteArray} : S.size ≤ 200 → Vt 4 S 0
  | sgn {S : ByteArray} : S.data.toList ∈ sgB → Vt 5 S 0
theorem val_nn {s : ByteArray} {b : Int} (hb : 0 ≤ b) : ∀ k, (∀ j, j < k → 0 ≤ hx (byt s j)) → 0 ≤ val s b k := by
  intro k
  induction k with
  | zero => intro _; exact Int.le_refl _
  | succ k ih =>
    intro h
    have h1 := ih fun j hj => h j (by omega)
    have h2 := h k (by omega)
    have h3 := Int.mul_nonneg h1 hb
    show 0 ≤ val s b k * b + hx (byt s k)
    omega
theorem intR_vt {s S : ByteArray} {N : Int} (h : intR s = .ok (S, N)) : 0 ≤ N ∧ N ≤ 4294967295 ∧ (S = ⟨#[117]⟩ ∨ (S = ⟨#[]⟩ ∧ N ≤ 2147483647)) := by
  unfold intR at h
  split at h
  · cases h
  rename_i h1
  split at h
  · cases h
  rename_i h2
  have hi := Except.ok.inj h
  have e1 := congrArg Prod.fst hi
  have e2 := congrArg Prod.snd hi
  simp only at e1 e2
  have hn : 0 ≤ val (idig s) (ibase s) (idig s).size := by
    refine val_nn (by rcases ibase_is s with e | e | e <;> omega) _ fun j hj => ?_
    rcases Int.lt_or_le (hx (byt (idig s) j)) 0 with q | q
    · refine absurd (.inr ⟨j, hj, ?_⟩) h1
      unfold badD
      rw [decide_eq_true q]
      rfl
    · exact q
  have hm : val (idig s) (ibase s) (idig s).size ≤ 4294967295 := by
    rcases Int.lt_or_le 4294967295 (val (idig s) (ibase s) (idig s).size) with q | q
    · exact absurd (.inr q) h2
    · exact q
  rw [← e2]
  refine ⟨hn, hm, ?_⟩
  rw [← e1]
  split
  · exact .inl rfl
  · rename_i q
    refine .inr ⟨rfl, ?_⟩
    rcases Int.lt_or_le 2147483647 (val (idig s) (ibase s) (idig s).size) with p | p
    · exact absurd (.inr p) q
    · exact p
theorem byt_mem {s : ByteArray} {c : UInt8} (h : c ∈ s.data.toList) : ∃ j, j < s.size ∧ byt s j = (c.toNat : Int) := by
  obtain ⟨j, hj, e⟩ := List.getElem_of_mem h
  refine ⟨j, by rw [sz_len]; exact hj, ?_⟩
  unfold byt
  rw [List.getD_eq_getElem?_getD, List.getElem?_eq_getElem hj, e]
  rfl
theorem tokF_vt {s : ByteArray} {i : Nat} (hi : i < s.size) {k N : Int} {S : ByteArray} {n : Nat} (h : tokF s i = .ok (k, S, N, n)) : Vt k S N := by
  have hsz := ext_sz s i
  unfold tokF at h
  split at h
  · rename_i hw
    have hr := run_run wch (s.extract i s.size)
    split at h
    · cases h
    · rename_i k' S' N' hk
      cases h
      generalize hW : s.extract i (i + run wch (s.extract i s.size)) = Wd at hk
      have hb0 : byt (s.extract i s.size) 0 = byt s i := by rw [ext_byt s i 0 (by omega), Nat.add_zero]
      have hp : 0 < run wch (s.extract i s.size) := run_pos (by omega) (by rw [hb0]; exact hw)
      have hWs : Wd.size = run wch (s.extract i s.size) := by rw [← hW, ext_size]; have := hr.1; omega
      have hall : ∀ c ∈ Wd.data.toList, wch (c.toNat : Int) = true := by
        intro c hc
        obtain ⟨j, hj, e⟩ := byt_mem hc
        rw [← e, ← hW, byt_ext s i _ j (by omega) (by have := hr.1; omega)]
        have := hr.2.1 j (by omega)
        rw [ext_byt s i j (by have := hr.1; omega)] at this
        exact this
      have hk0 := hk
      unfold wrdR at hk
      split at hk
      · split at hk
        · cases hk
        · rename_i hi'
          cases hk
          obtain ⟨q1, q2, q3⟩ := intR_vt hi'
          exact .int q1 q2 q3
      · split at hk
        · cases hk
        · rename_i h40
          split at hk
          · cases hk
            exact .wrd (.inr rfl) (by omega) (by omega) hall hk0 rfl
          · cases hk
            exact .wrd (.inl rfl) (by omega) (by omega) hall hk0 rfl
  · split at h
    · split at h
      · cases h
      · split at h
        · cases h
          exact .chr _
        · cases h
    · split at h
      · split at h
        · cases h
        · split at h
          · cases h
          · rename_i hb
            cases h
            refine .str ?_
            simp [ByteArray.size]
            omega
      · split at h
        · cases h
        · rename_i hz
          cases h
          refine .sgn ?_
          have := sgn_is _ hz
          have hle := (sgn_le (s.extract i s.size)).1
          rw [ext_ext s i s.size 0 _ (by omega) (Nat.le_refl _) (Nat.zero_le _), Nat.add_zero] at this
          exact isS_mem.1 this
theorem nr1 : ∀ n : Nat, n < 256 → (nr 1 (n : Int) % 256).toNat = n ∧ 0 ≤ nr 1 (n : Int) ∧ nr 1 (n : Int) ≤ 4294967295 := by decide +kernel
theorem txt_num {N : Int} {S : ByteArray} {T : List UInt8} (hN : 0 ≤ N) (hS : S = ⟨T.toArray⟩) (hT : T = [117] ∨ T = []) (l c : Int) : (txtI ⟨3, S, N, l, c⟩).data.toList = Lib.decDigits N.toNat ++ T := by
  unfold txtI
  dsimp only
  rw [if_neg (by omega), if_pos rfl]
  rcases hT with e | e
  · rw [hS, e, if_neg (by decide), if_pos rfl, num_nat hN]
    show ((⟨(Lib.decDigits N.toNat).toArray⟩ : ByteArray) ++ ⟨[117].toArray⟩).data.toList = _
    rw [app_list]
  · rw [hS, e, if_neg (by decide), if_neg (by decide), num_nat hN, List.append_nil]
theorem wch_first {c : Int} (h : wch c = true) : blk c = false ∧ c ≠ 47 := by
  unfold wch dg lt at h
  simp only [Bool.or_eq_true, decide_eq_true_eq, beq_iff_eq] at h
  unfold blk
  simp only [Bool.or_eq_false_iff, beq_eq_false_iff_ne, Bool.and_eq_false_iff, decide_eq_false_iff_not]
  omega
theorem vt_back {k : Int} {S : ByteArray} {N : Int} (hv : Vt k S N) (l c : Int) {s : ByteArray} {i : Nat} {r : List UInt8} (hr : Ends r) (h : Dr s i ((txtI ⟨k, S, N, l, c⟩).data.toList ++ r)) : tokF s i = .ok (k, S, N, i + (txtI ⟨k, S, N, l, c⟩).size) ∧ i < s.size ∧ blk (byt s i) = false ∧ ¬ lc s i ∧ ¬ bc s i := by
  have nocom : byt s i ≠ 47 → ¬ lc s i ∧ ¬ bc s i := fun q => ⟨fun e => q e.2.1, fun e => q e.2.1⟩
  cases hv with
  | wrd hk h0 h40 hall hw hN =>
    have e : txtI ⟨k, S, N, l, c⟩ = S := by unfold txtI; dsimp only; rw [if_pos (by omega)]
    rw [e] at h ⊢
    obtain ⟨b, t, hb⟩ : ∃ b t, S.data.toList = b :: t := by
      cases q : S.data.toList with
      | nil => rw [sz_len, q] at h0; simp at h0
      | cons b t => exact ⟨b, t, rfl⟩
    have hS : (⟨S.data.toList.toArray⟩ : ByteArray) = S := by simp
    have := word_back h hr hall (by rw [hb]; simp) (by rw [hS]; exact hw)
    rw [hb] at h
    have hw0 : wch (byt s i) = true := by rw [Dr.b0 h]; exact hall b (by rw [hb]; simp)
    obtain ⟨q1, q2⟩ := wch_first hw0
    exact ⟨by rw [sz_len]; exact this, Dr.lt h, q1, nocom q2⟩
  | int h0 h1 hS =>
    obtain ⟨T, rfl, hT⟩ : ∃ T : List UInt8, S = ⟨T.toArray⟩ ∧ (T = [117] ∨ (T = [] ∧ N.toNat ≤ 2147483647)) := by
      rcases hS with e | ⟨e, h⟩
      · exact ⟨[117], e, .inl rfl⟩
      · exact ⟨[], e, .inr ⟨rfl, by omega⟩⟩
    have e := txt_num h0 rfl (T := T) (by rcases hT with e | ⟨e, _⟩; exact .inl e; exact .inr e) l c
    rw [e] at h
    have := int_back N.toNat T hT (by omega) hr h
    rw [show ((N.toNat : Nat) : Int) = N by omega] at this
    obtain ⟨b, t, hd, hc1, hc2⟩ := dig_head _ N.toNat (Nat.le_refl _)
    rw [hd] at h
    have hb : byt s i = (b.toNat : Int) := Dr.b0 h
    obtain ⟨q1, q2⟩ := wch_first (digw ⟨hc1, hc2⟩)
    refine ⟨by rw [sz_len, e]; exact this, Dr.lt h, by rw [hb]; exact q1, nocom (by rw [hb]; exact q2)⟩
  | chr b =>
    have e : txtI ⟨3, ⟨#[99]⟩, nr 1 (b.toNat : Int), l, c⟩ = Pl.chr b.toNat := by
      unfold txtI
      dsimp only
      rw [if_neg (by omega), if_pos rfl, if_pos rfl, (nr1 b.toNat b.toNat_lt).1]
    rw [e] at h ⊢
    have hb : byt s i = 39 := by
      have : Dr s i (39 :: (shown b.toNat 39 ++ [39] ++ r)) := by
        have e2 : (Pl.chr b.toNat).data.toList ++ r = 39 :: (shown b.toNat 39 ++ [39] ++ r) := by
          unfold Pl.chr
          simp
        rw [e2] at h
        exact h
      exact this.b0
    have hlt : i < s.size := by
      rcases Nat.lt_or_ge i s.size with q | q
      · exact q
      · rw [byt_out s i q] at hb; cases hb
    exact ⟨chr_back h, hlt, by rw [hb]; decide, nocom (by rw [hb]; decide)⟩
  | str hS =>
    have e : txtI ⟨4, S, 0, l, c⟩ = qt S 34 := by
      unfold txtI
      dsimp only
      rw [if_neg (by omega), if_neg (by omega), if_pos rfl]
    rw [e] at h ⊢
    have hb : byt s i = 34 := by
      have e2 : (qt S 34).data.toList ++ r = 34 :: ((S.data.toList.take S.size).flatMap (fun b => shown b.toNat 34) ++ [34] ++ r) := by
        unfold qt qc
        simp
      rw [e2] at h
      exact h.b0
    have hlt : i < s.size := by
      rcases Nat.lt_or_ge i s.size with q | q
      · exact q
      · rw [byt_out s i q] at hb; cases hb
    exact ⟨str_back hS h, hlt, by rw [hb]; decide, nocom (by rw [hb]; decide)⟩
  | sgn hS =>
    have e : txtI ⟨5, S, 0, l, c⟩ = S := by unfold txtI; dsimp only; rw [if_pos (by omega)]
    rw [e] at h ⊢
    have hSS : (⟨S.data.toList.toArray⟩ : ByteArray) = S := by simp
    have := sgn_back hS hr h
    rw [hSS] at this
    obtain ⟨_, _, _, f4, f5⟩ := sg_first _ hS
    have hn := sgm_len _ hS
    obtain ⟨b, t, hbt⟩ : ∃ b t, S.data.toList = b :: t := by
      cases q : S.data.toList with
      | nil => rw [q] at hn; simp at hn
      | cons b t => exact ⟨b, t, rfl⟩
    rw [hbt] at h f4 f5
    have hb : byt s i = (b.toNat : Int) := Dr.b0 h
    refine ⟨by rw [sz_len]; exact this, Dr.lt h, by rw [hb]; exact f4, ?_⟩
    by_cases h47 : b = 47
    · have nb : byt s (i + 1) ≠ 47 ∧ byt s (i + 1) ≠ 42 := by
        rcases f5 h47 with q | q
        · cases q
          rcases hr with e | ⟨p, e⟩
          · rw [e] at h
            have := (Dr.tl h).nil
            rw [byt_out s _ this]
            decide
          · rw [e] at h
            rw [show byt s (i + 1) = 32 from Dr.b1 h]
            decide
        · cases q
          rw [show byt s (i + 1) = 61 from Dr.b1 h]
          decide
      exact ⟨fun q => nb.1 q.2.2, fun q => nb.2 q.2.2⟩
    · refine nocom fun q => h47 ?_
      rw [hb] at q
      exact UInt8.toNat_inj.1 (by show b.toNat = 47; omega)
theorem vt_size {k : Int} {S : ByteArray} {N : Int} (hv : Vt k S N) (l c : Int) : (txtI ⟨k, S, N, l, c⟩).size ≤ 802 ∧ 0 < (txtI ⟨k, S, N, l, c⟩).size ∧ S.size ≤ 200 ∧ 0 ≤ N ∧ N ≤ 4294967295 ∧ 1 ≤ k ∧ k ≤ 5 := by
  cases hv with
  | wrd hk h0 h40 hall hw hN =>
    have e : txtI ⟨k, S, N, l, c⟩ = S := by unfold txtI; dsimp only; rw [if_pos (by omega)]
    rw [e]
    omega
  | int h0 h1 hS =>
    obtain ⟨T, rfl, hT⟩ : ∃ T : List UInt8, S = ⟨T.toArray⟩ ∧ (T = [117] ∨ T = []) := by
      rcases hS with e | ⟨e, h⟩
      · exact ⟨[117], e, .inl rfl⟩
      · exact ⟨[], e, .inr rfl⟩
    have e := txt_num h0 rfl hT l c
    have hl := dig_len 9 N.toNat (by omega)
    obtain ⟨b, t, hd, _⟩ := dig_head _ N.toNat (Nat.le_refl _)
    have hTl : T.length ≤ 1 := by rcases hT with e | e <;> rw [e] <;> simp
    have hd1 : 0 < (Lib.decDigits N.toNat).length := by rw [hd]; simp
    rw [sz_len, e, List.length_append, sz_len]
    show _ ∧ _ ∧ T.length ≤ 200 ∧ _
    omega
  | chr b =>
    have e : txtI ⟨3, ⟨#[99]⟩, nr 1 (b.toNat : Int), l, c⟩ = Pl.chr b.toNat := by
      unfold txtI
      dsimp only
      rw [if_neg (by omega), if_pos rfl, if_pos rfl, (nr1 b.toNat b.toNat_lt).1]
    have h1 := shown_len b.toNat 39
    have h2 : (Pl.chr b.toNat).size = (shown b.toNat 39).length + 2 := by
      rw [sz_len]
      unfold Pl.chr
      simp
    have h3 := nr1 b.toNat b.toNat_lt
    rw [e, h2]
    show _ ∧ _ ∧ 1 ≤ 200 ∧ _
    omega
  | str hS =>
    have e : txtI ⟨4, S, 0, l, c⟩ = qt S 34 := by
      unfold txtI
      dsimp only
      rw [if_neg (by omega), if_neg (by omega), if_pos rfl]
    have hf : ∀ a : List UInt8, (a.flatMap fun b => shown b.toNat 34).length ≤ 4 * a.length := by
      intro a
      induction a with
      | nil => simp
      | cons x a ih =>
        rw [List.flatMap_cons, List.length_append, List.length_cons]
        have := shown_len x.toNat 34
        omega
    have h2 : (qt S 34).size = (S.data.toList.flatMap fun b => shown b.toNat 34).length + 2 := by
      rw [sz_len]
      unfold qt qc
      rw [sz_len S, List.take_length]
      simp
    have := hf S.data.toList
    rw [← sz_len] at this
    rw [e, h2]
    omega
  | sgn hS =>
    have e : txtI ⟨5, S, 0, l, c⟩ = S := by unfold txtI; dsimp only; rw [if_pos (by omega)]
    have hn := sgm_len _ hS
    rw [← sz_len] at hn
    rw [e]
    omega
end Go.Proofs.YteadglnenaiaaaaGreatDoor.Pl
namespace Go.Proofs.YteadglnenaiaaaaGreatDoor.Pl
end Go.Proofs.YteadglnenaiaaaaGreatDoor.Pl
namespace Go.Proofs.YteadglnenaiaaaaGreatDoor.W
open Go.RowKit
structure Touch (a : Option Addr) (w w' : World) : Prop where
  os : w'.os = w.os
  tape : w'.tape = w.tape
  output : w'.output = w.output
  size : w'.heap.size = w.heap.size
  block : ∀ k, (∀ ad, a = some ad → k ≠ ad.block) → w'.heap[k]? = w.heap[k]?
theorem Touch.refl (a : Option Addr) (w : World) : Touch a w w := ⟨rfl, rfl, rfl, rfl, fun _ _ => rfl⟩
theorem Touch.setCell {a : Option Addr} {w u : World} (h : Touch a w u) {g : Nat} (hp : a = some ⟨g, 0, none⟩) (x : Value) {i : Nat} : Touch a w (u.setCell ⟨g, i, none⟩ x) :=
  ⟨h.os, h.tape, h.output, by simpa using h.size, fun k hk => (Below.heap_setCell u ⟨g, i, none⟩ x k (show k ≠ g from hk ⟨g, 0, none⟩ hp)).trans (h.block k hk)⟩
end Go.Proofs.YteadglnenaiaaaaGreatDoor.W
namespace Go.Proofs.YteadglnenaiaaaaGreatDoor.Pl
end Go.Proofs.YteadglnenaiaaaaGreatDoor.Pl
namespace Go.Proofs.YteadglnenaiaaaaGreatDoor.W
open Go.RowKit
end Go.Proofs.YteadglnenaiaaaaGreatDoor.W
namespace Go.Proofs.YteadglnenaiaaaaGreatDoor.Pl
end Go.Proofs.YteadglnenaiaaaaGreatDoor.Pl
namespace Go.Proofs.YteadglnenaiaaaaGreatDoor.W
open Go.RowKit
theorem conv_oneH (w : World) (c : Int) : (convert 84 9 (.slice (some ⟨w.heap.size, 0, none⟩) 1 1)).run Tryz.prog (w.alloc (.cells #[.int .u8 c] 5)) = .ok (.string (ByteArray.empty.push (UInt8.ofNat c.toNat))) (w.alloc (.cells #[.int .u8 c] 5)) := by
  rw [run_convert_bytes_string _ 84 9 5 _ _ _ Tryz.underlying84 Tryz.underlying5 Tryz.underlying9]
  refine run_bytesToString _ _ 1 1 [c] ?_
  refine (run_loadCells_list _ _ [.int .u8 c] ?_).trans rfl
  intro j v hj
  rcases j with _ | j
  · cases hj
    exact cell_of_row _ w.heap.size 0 _ 5 (0, 0) (heap_alloc_new w _)
  · simp at hj
end Go.Proofs.YteadglnenaiaaaaGreatDoor.W
namespace Go.Proofs.YteadglnenaiaaaaGreatDoor.Pl
def Tk.zero : Tk := ⟨0, ⟨#[]⟩, 0, 0, 0⟩
theorem Tk.all_cons (t : Tk) (ts : List Tk) : Tk.all (t :: ts) = .int .i64 t.k :: .string t.S :: .int .i64 t.N :: .int .i64 t.l :: .int .i64 t.c :: Tk.all ts := rfl
theorem Tk.all_length (ts : List Tk) : (Tk.all ts).length = ts.length * 5 := by
  induction ts with
  | nil => rfl
  | cons t ts ih => rw [Tk.all_cons]; simp [ih]; omega
theorem Tk.all_get : ∀ (ts : List Tk) (k j : Nat), k < ts.length → j < 5 → (Tk.all ts)[k * 5 + j]? = (ts.getD k Tk.zero).cells[j]?
  | [], k, j, hk, hj => by simp at hk
  | t :: ts, 0, j, hk, hj => by
    rw [Tk.all_cons]
    rcases j with _ | _ | _ | _ | _ | j
    · rfl
    · rfl
    · rfl
    · rfl
    · rfl
    · omega
  | t :: ts, k + 1, j, hk, hj => by
    rw [Tk.all_cons, show (k + 1) * 5 + j = (k * 5 + j) + 1 + 1 + 1 + 1 + 1 by omega]
    simp only [List.getElem?_cons_succ, List.getD_cons_succ]
    exact Tk.all_get ts k j (by simpa using hk) hj
end Go.Proofs.YteadglnenaiaaaaGreatDoor.Pl
namespace Go.Proofs.YteadglnenaiaaaaGreatDoor.W
open Go.RowKit
theorem tok_len {w : World} {lo len cap : Nat} {a : Option Addr} {ts : List Pl.Tk} (h : w.ownsRow lo 56 5 (.slice a len cap) len (Pl.Tk.all ts)) : ts.length = len ∧ len ≤ 9223372036854775807 := by
  have h1 := h.1
  rw [Pl.Tk.all_length] at h1
  refine ⟨by omega, ?_⟩
  rcases h.2 with ⟨h0, h2⟩ | ⟨g, c, cur, h0, _, _, hn, hc, _⟩
  · omega
  · unfold maxLen at hc; omega
theorem tok_at {w : World} {lo len cap : Nat} {a : Option Addr} {ts : List Pl.Tk} (h : w.ownsRow lo 56 5 (.slice a len cap) len (Pl.Tk.all ts)) {k : Nat} (hk : k < len) : ∃ g, a = some ⟨g, 0, none⟩ ∧ lo ≤ g ∧ g < w.heap.size ∧ ∃ x, x = ts.getD k Pl.Tk.zero ∧ w.cell? ⟨g, k * 5, none⟩ = some (.int .i64 x.k) ∧ w.cell? ⟨g, k * 5 + 1, none⟩ = some (.string x.S) ∧ w.cell? ⟨g, k * 5 + 2, none⟩ = some (.int .i64 x.N) ∧ w.cell? ⟨g, k * 5 + 3, none⟩ = some (.int .i64 x.l) ∧ w.cell? ⟨g, k * 5 + 4, none⟩ = some (.int .i64 x.c) := by
  have hl := (tok_len h).1
  obtain ⟨g, rfl, hlo, hg⟩ : ∃ g, a = some ⟨g, 0, none⟩ ∧ lo ≤ g ∧ g < w.heap.size := by
    rcases h.2 with ⟨h0, h2⟩ | ⟨g, c, cur, h0, hlo, hg, _⟩
    · omega
    · simp only [Value.slice.injEq] at h0
      exact ⟨g, h0.1, hlo, (Array.getElem?_eq_some_iff.1 hg).1⟩
  have c := fun j (hj : j < 5) => (h.cellAt (k * 5 + j) (by omega)).trans (Pl.Tk.all_get ts k j (by omega) hj)
  exact ⟨g, rfl, hlo, hg, _, rfl, c 0 (by omega), c 1 (by omega), c 2 (by omega), c 3 (by omega), c 4 (by omega)⟩
end Go.Proofs.YteadglnenaiaaaaGreatDoor.W
namespace Go.Proofs.YteadglnenaiaaaaGreatDoor.Pl
theorem Lx.last {s : ByteArray} {i : Nat} {acc : List Tk} {r : List Tk × Int × Int × Int} (h : Lx s i acc r) : r.1 = [] ∨ (r.2.1 = 0 ∧ ∃ l j, r.1 = l ++ [tkEnd s j]) := by
  induction h with
  | opn _ => exact .inl rfl
  | fin _ _ => exact .inr ⟨rfl, _, _, rfl⟩
  | bad _ _ _ => exact .inl rfl
  | many _ _ _ _ => exact .inl rfl
  | go _ _ _ _ _ ih => exact ih
theorem Lx.all {s : ByteArray} {i : Nat} {acc : List Tk} {r : List Tk × Int × Int × Int} (h : Lx s i acc r) (ha : ∀ t ∈ acc, Vt t.k t.S t.N) (hl : acc.length ≤ 6000) : (r.1 = [] ∧ r.2.1 ≠ 0) ∨ (r.2.1 = 0 ∧ ∃ l j, r.1 = l ++ [tkEnd s j] ∧ l.length ≤ 6000 ∧ ∀ t ∈ l, Vt t.k t.S t.N) := by
  induction h with
  | opn _ => exact .inl ⟨rfl, fun q => absurd (show (3 : Int) = 0 from q) (by decide)⟩
  | fin _ _ => exact .inr ⟨rfl, _, _, rfl, hl, ha⟩
  | bad _ _ h => exact .inl ⟨rfl, tokF_f h⟩
  | many _ _ _ _ => exact .inl ⟨rfl, fun q => absurd (show (9 : Int) = 0 from q) (by decide)⟩
  | go hsk hj htf hn _ ih =>
    refine ih (fun t ht => ?_) (by rw [List.length_append, List.length_singleton]; omega)
    rcases List.mem_append.1 ht with q | q
    · exact ha t q
    · rw [List.mem_singleton.1 q]
      exact tokF_vt hj htf
theorem LxAll.all {s : ByteArray} {ts : List Tk} {c l k : Int} (h : W.LxAll s (ts, c, l, k)) : (ts = [] ∧ c ≠ 0) ∨ (c = 0 ∧ ∃ us j, ts = us ++ [tkEnd s j] ∧ us.length ≤ 6000 ∧ ∀ t ∈ us, Vt t.k t.S t.N) := by
  rcases h with ⟨_, h⟩ | ⟨_, h⟩
  · cases h
    exact .inl ⟨rfl, by decide⟩
  · exact h.all (fun t ht => (by cases ht)) (Nat.zero_le _)
theorem vt_two {k : Int} {S : ByteArray} {N : Int} (hv : Vt k S N) (l c : Int) : W.LxAll (txtI ⟨k, S, N, l, c⟩) ([⟨k, S, N, 1, 1⟩, tkEnd (txtI ⟨k, S, N, l, c⟩) (txtI ⟨k, S, N, l, c⟩).size], 0, 0, 0) := by
  obtain ⟨z1, z2, _⟩ := vt_size hv l c
  generalize hx : txtI ⟨k, S, N, l, c⟩ = x at *
  obtain ⟨h1, h2, h3, h4, h5⟩ := vt_back hv l c (s := x) (i := 0) (r := []) (.inl rfl) (by rw [hx, List.append_nil]; exact dr_self x)
  rw [hx, Nat.zero_add] at h1
  refine .inr ⟨by omega, ?_⟩
  exact .go (.stop (.inr ⟨h3, h4, h5⟩)) h2 h1 (by decide) (.fin (acc := [⟨k, S, N, ln x 0, cn x 0⟩]) (.stop (.inl (Nat.le_refl _))) rfl)
theorem vt_tt {t : Tk} (hv : Vt t.k t.S t.N) : ttI t = txtI t := by
  refine ttx_yes ?_
  obtain ⟨k, S, N, l, c⟩ := t
  exact ⟨_, _, 0, 0, 0, vt_two hv l c, rfl⟩
def sameT (a b : Tk) : Prop := a.k = b.k ∧ a.S = b.S ∧ a.N = b.N
inductive SameL : List Tk → List Tk → Prop
  | nil : SameL [] []
  | cons {a b : Tk} {x y : List Tk} : sameT a b → SameL x y → SameL (a :: x) (b :: y)
theorem SameL.snoc {x y : List Tk} {a b : Tk} (h : SameL x y) (hab : sameT a b) : SameL (x ++ [a]) (y ++ [b]) := by
  induction h with
  | nil => exact .cons hab .nil
  | cons h _ ih => exact .cons h ih
theorem SameL.len {x y : List Tk} (h : SameL x y) : x.length = y.length := by
  induction h with
  | nil => rfl
  | cons _ _ ih => simp [ih]
theorem SameL.at {x y : List Tk} (h : SameL x y) : ∀ j, sameT (x.getD j Tk.zero) (y.getD j Tk.zero) := by
  induction h with
  | nil => intro j; exact ⟨rfl, rfl, rfl⟩
  | cons h _ ih =>
    intro j
    cases j with
    | zero => exact h
    | succ j => exact ih j
end Go.Proofs.YteadglnenaiaaaaGreatDoor.Pl
namespace Go.Proofs.YteadglnenaiaaaaGreatDoor.W
open Go.RowKit
def SRow (lo : Nat) (w : World) (a : Option Addr) (len cap : Nat) (ss : List ByteArray) : Prop :=
  (ss.length = len ∧ ∀ x ∈ ss, x.size ≤ maxLen) ∧ len ≤ cap ∧ cap ≤ maxLen ∧ (len = 0 ∨ ∃ b off, a = some ⟨b, off, none⟩ ∧ lo ≤ b ∧ b < w.heap.size ∧ ∀ i, i < len → w.cell? ⟨b, off + i, none⟩ = some (.string (ss.getD i ⟨#[]⟩)))
theorem SRow.keep {lo : Nat} {w w' : World} {a : Option Addr} {len cap : Nat} {ss : List ByteArray} (h : SRow lo w a len cap ss) (hb : Below w.heap.size w w') : SRow lo w' a len cap ss := by
  obtain ⟨h1, h2, h3, h4⟩ := h
  refine ⟨h1, h2, h3, ?_⟩
  rcases h4 with h4 | ⟨b, off, ha, hlo, hlt, hc⟩
  · exact .inl h4
  · exact .inr ⟨b, off, ha, hlo, Nat.lt_of_lt_of_le hlt hb.size, fun i hi => (hb.cell (p := ⟨b, off + i, none⟩) hlt).trans (hc i hi)⟩
theorem SRow.at {lo : Nat} {w : World} {a : Option Addr} {len cap : Nat} {ss : List ByteArray} (h : SRow lo w a len cap ss) {k : Nat} (hk : k < len) :
    ∃ (b off : Nat), a = some ⟨b, off, none⟩ ∧ lo ≤ b ∧ b < w.heap.size ∧ w.cell? ⟨b, off + k, none⟩ = some (.string (ss.getD k ⟨#[]⟩)) ∧ (ss.getD k ⟨#[]⟩).size ≤ maxLen := by
  obtain ⟨h1, h2, h3, h4⟩ := h
  rcases h4 with h4 | ⟨b, off, ha, hlo, hlt, hc⟩
  · omega
  · refine ⟨b, off, ha, hlo, hlt, hc k hk, ?_⟩
    rw [List.getD_eq_getElem?_getD, List.getElem?_eq_getElem (by rw [h1.1]; exact hk)]
    exact h1.2 _ (List.getElem_mem _)
theorem SRow.small {lo : Nat} {w : World} {a : Option Addr} {len cap : Nat} {ss : List ByteArray} (h : SRow lo w a len cap ss) : len ≤ 9223372036854775807 := by
  have := h.2.1; have h3 := h.2.2.1; unfold maxLen at h3; omega
end Go.Proofs.YteadglnenaiaaaaGreatDoor.W
namespace Go.Proofs.YteadglnenaiaaaaGreatDoor.W
open Go.RowKit
end Go.Proofs.YteadglnenaiaaaaGreatDoor.W
namespace Go.Proofs.YteadglnenaiaaaaGreatDoor.Pl
def inS (ss : List ByteArray) (s : ByteArray) : Bool := ss.any fun x => x.toList == s.toList
theorem inS_yes {ss : List ByteArray} {s : ByteArray} {k : Nat} (hk : k < ss.length) (h : (ss.getD k ⟨#[]⟩).toList = s.toList) : inS ss s = true := by
  unfold inS
  rw [List.any_eq_true]
  refine ⟨ss.getD k ⟨#[]⟩, ?_, by rw [h]; exact beq_self_eq_true _⟩
  rw [List.getD_eq_getElem?_getD, List.getElem?_eq_getElem hk]
  exact List.getElem_mem _
theorem inS_no {ss : List ByteArray} {s : ByteArray} (h : ∀ k, k < ss.length → (ss.getD k ⟨#[]⟩).toList ≠ s.toList) : inS ss s = false := by
  unfold inS
  rw [List.any_eq_false]
  intro x hx
  obtain ⟨k, hk, rfl⟩ := List.mem_iff_getElem.1 hx
  have := h k hk
  rw [List.getD_eq_getElem?_getD, List.getElem?_eq_getElem hk] at this
  simpa using this
end Go.Proofs.YteadglnenaiaaaaGreatDoor.Pl
namespace Go.Proofs.YteadglnenaiaaaaGreatDoor.W
open Go.RowKit
set_option maxHeartbeats 2000000 in
theorem l5In_any {lo : Nat} (a : Option Addr) (len cap : Nat) (ss : List ByteArray) (t : ByteArray) (w : World) (h : SRow lo w a len cap ss) :
    Calls Tryz.prog 26 #[.slice a len cap, .string t] w fun e w' => e = .returned (.bool (Pl.inS ss t)) ∧ Below w.heap.size w w' := by
  have hs1 : (len : Int) ≤ 9223372036854775807 := by have := h.small; omega
  have H : Hid (SRow lo w a len cap ss) := h
  clear h
  go_enter Tryz.func26, Tryz.ntmps26
  go_wp2_with fail
  go_loopw [5] (fun i wr => ∃ k : Nat, k ≤ len ∧ i = .int .i64 k ∧ (∀ j, j < k → (ss.getD j ⟨#[]⟩).toList ≠ t.toList) ∧ Below w.heap.size w wr) (fun i _ => len - (intOf i).toNat)
  case atStart => exact ⟨0, Nat.zero_le _, rfl, fun j hj => absurd hj (Nat.not_lt_zero _), Below.refl _ _⟩
  case round =>
    obtain ⟨k, hk, rfl, hall, hb⟩ := hrel
    have HA : Hid (∀ j, j < k → (ss.getD j ⟨#[]⟩).toList ≠ t.toList) := hall
    have HB : Hid (Below w.heap.size w wr) := hb
    clear hb hall
    by_cases hlt : k < len
    · obtain ⟨b1, o1, rfl, _, _, hc1, _⟩ := (H.out.keep HB.out).at hlt
      obtain ⟨x, hx⟩ : ∃ x, x = ss.getD k ⟨#[]⟩ := ⟨_, rfl⟩
      rw [← hx] at hc1
      have HX : Hid (x = ss.getD k ⟨#[]⟩) := hx
      clear hx
      have hi : (k : Int) < (len : Int) := by omega
      cases he : (x.toList == t.toList)
      rotate_left
      · go_wp2_with fail
        go_ret
        exact ⟨ret_bool (Pl.inS_yes (k := k) (by rw [H.out.1.1]; exact hlt) (by rw [← HX.out]; exact eq_of_beq he)).symm, HB.out⟩
      · go_wp2_with fail
        go_roundw
        case rel => exact ⟨k + 1, by omega, by go_num, fun j hj => by
          by_cases e : j = k
          · rw [e, ← HX.out]; exact ne_of_beq_false he
          · exact HA.out j (by omega), HB.out⟩
        case measure => simp [intOf]; omega
    · have hke : k = len := by omega
      have hi : ¬ ((k : Int) < (len : Int)) := by omega
      go_wp2
      go_ret
      exact ⟨ret_bool (Pl.inS_no (fun j hj => HA.out j (by rw [H.out.1.1] at hj; omega))).symm, HB.out⟩
end Go.Proofs.YteadglnenaiaaaaGreatDoor.W
namespace Go.Proofs.YteadglnenaiaaaaGreatDoor.Pl
def nmB (s : ByteArray) : Bool := decide (1 ≤ s.size) && decide (s.size ≤ 40) && !dg (byt s 0) && !isK s && (List.range s.size).all fun i => wch (byt s i)
def nam (k : Int) : Int :=
  if k = 5 ∨ k = 10 ∨ k = 11 ∨ k = 38 ∨ k = 39 then 2 else if k = 6 then 3 else if k = 7 then 4 else if k = 8 ∨ k = 9 ∨ (12 ≤ k ∧ k ≤ 14) ∨ k = 28 ∨ k = 29 ∨ k = 35 then 1 else if k = 33 ∨ k = 34 then 5 else 0
def mkB (x : Nd) : Bool :=
  if x.k = 5 then decide (1 ≤ x.m ∧ x.m ≤ 3) else if x.k = 10 ∨ x.k = 40 ∨ x.k = 41 then decide (x.m = 1 ∨ x.m = 2) else if x.k = 42 then decide (1 ≤ x.m ∧ x.m ≤ 6) else if x.k = 46 then decide (1 ≤ x.m ∧ x.m ≤ 18) else if x.k = 48 then decide ((0 ≤ x.m ∧ x.m ≤ 7) ∨ (14 ≤ x.m ∧ x.m ≤ 16)) else decide (x.m = 0)
open Classical in
noncomputable def txB (x : Nd) (al : List ByteArray) : Bool :=
  if nam x.k = 5 then (if x.k = 33 then decide (ttS ⟨3, x.s, x.n, 0, 0⟩ ≠ ⟨#[]⟩) else decide (x.n = 0 ∧ x.s.size ≤ 200))
  else if x.k = 1 then decide (1 ≤ x.n ∧ x.n ≤ 7 ∧ x.s.size = 0)
  else if x.n ≠ 0 then false
  else if nam x.k = 0 ∨ (nam x.k = 4 ∧ x.s.size = 0) then decide (x.s.size = 0)
  else nmB x.s && (decide (nam x.k = 2) || (inS al x.s == decide (nam x.k = 3)))
open Classical in
noncomputable def wdB (x : Nd) (al : List ByteArray) : Bool :=
  if x.s.size = 0 ∧ (rl x.k).word = 3 then true
  else if (rl x.k).word = 1 then nmB x.s
  else if (rl x.k).word = 2 ∨ (rl x.k).word = 3 then nmB x.s && !inS al x.s
  else if (rl x.k).word = 4 then inS al x.s
  else if (rl x.k).word = 5 then decide (ttI ⟨if x.k = 34 then 4 else 3, x.s, x.n, 0, 0⟩ ≠ ⟨#[]⟩)
  else decide (x.s.size = 0)
theorem toList_nil {s : ByteArray} (h : s.size ≠ 0) : s ≠ ⟨#[]⟩ := fun e => h (by rw [e]; rfl)
theorem tt_vt {t : Tk} (h : ttI t ≠ ⟨#[]⟩) : Vt t.k t.S t.N := by
  unfold ttI at h
  by_cases q : Two (txtI t) (Pi t)
  · obtain ⟨j, n, h1, _, h3⟩ := two_tok (two_i q)
    exact tokF_vt h1 h3
  · exact absurd (ttx_no q) h
theorem tt_int_n {s : ByteArray} {n : Int} (h : ttI ⟨3, s, n, 0, 0⟩ ≠ ⟨#[]⟩) : 0 ≤ n ∧ n ≤ 4294967295 := by
  obtain ⟨_, _, _, h1, h2, _⟩ := vt_size (tt_vt h) 0 0
  exact ⟨h1, h2⟩
theorem tt_str_iff {s : ByteArray} : ttI ⟨4, s, 0, 0, 0⟩ ≠ ⟨#[]⟩ ↔ s.size ≤ 200 := by
  constructor
  · intro h
    obtain ⟨_, _, h1, _⟩ := vt_size (tt_vt h) 0 0
    exact h1
  · intro h
    have hv : Vt 4 s 0 := .str h
    rw [vt_tt (t := ⟨4, s, 0, 0, 0⟩) hv]
    obtain ⟨_, h1, _⟩ := vt_size hv 0 0
    exact toList_nil (by omega)
set_option synthInstance.maxHeartbeats 400000 in
set_option synthInstance.maxSize 2000 in
theorem tab_word : ∀ k : Fin 50, k.val ≠ 0 → k.val ≠ 18 → let r := rlT.getD k.val Rl.zero; let a := nam ((k.val : Nat) : Int)
    (k.val ≠ 1 → k.val ≠ 33 → r.lowN = 0 ∧ r.highN = 0) ∧ (k.val = 1 → r.lowN = 1 ∧ r.highN = 7 ∧ r.word = 0) ∧ (k.val = 33 → r.lowN = 0 ∧ r.highN = 4294967295) ∧
    ((r.word = 0 ∧ a = 0) ∨ (r.word = 1 ∧ a = 2) ∨ (r.word = 2 ∧ a = 1) ∨ (r.word = 3 ∧ a = 4) ∨ (r.word = 4 ∧ a = 3) ∨ (r.word = 5 ∧ a = 5 ∧ (k.val = 33 ∨ k.val = 34))) ∧
    (k.val = 1 → a = 0) ∧ ((k.val = 33 ∨ k.val = 34) → a = 5) := by decide +kernel
theorem tab_sort : ∀ k : Fin 50, (srtS ((k.val : Nat) : Int) ≠ 0 ↔ (k.val ≠ 0 ∧ k.val ≠ 18)) ∧ ((rlT.getD k.val Rl.zero).srt ≠ 0 ↔ (k.val ≠ 0 ∧ k.val ≠ 18 ∧ k.val ≠ 15)) := by decide +kernel
set_option synthInstance.maxHeartbeats 400000 in
set_option synthInstance.maxSize 2000 in
theorem tab_mark : ∀ k : Fin 50, let r := rlT.getD k.val Rl.zero
    (k.val = 5 → r.lowM = 1 ∧ r.highM = 3) ∧ ((k.val = 10 ∨ k.val = 40 ∨ k.val = 41) → r.lowM = 1 ∧ r.highM = 2) ∧ (k.val = 42 → r.lowM = 1 ∧ r.highM = 6) ∧ (k.val = 46 → r.lowM = 1 ∧ r.highM = 18) ∧ (k.val = 48 → r.lowM = 0 ∧ r.highM = 16) ∧
    (k.val ≠ 5 → k.val ≠ 10 → k.val ≠ 40 → k.val ≠ 41 → k.val ≠ 42 → k.val ≠ 46 → k.val ≠ 48 → r.lowM = 0 ∧ r.highM = 0) := by decide +kernel
def asgn (m : Int) : Bool := decide ((0 ≤ m ∧ m ≤ 7) ∨ (14 ≤ m ∧ m ≤ 16))
theorem mark_same {x : Nd} {k : Nat} (hk : k < 50) (he : x.k = k) : mkB x = true ↔ ((rl x.k).lowM ≤ x.m ∧ x.m ≤ (rl x.k).highM) ∧ (x.k = 48 → asgn x.m = true) := by
  obtain ⟨h5, h10, h42, h46, h48, h0⟩ := tab_mark ⟨k, hk⟩
  simp only at h5 h10 h42 h46 h48 h0
  rw [he, rl_in hk]
  unfold mkB asgn
  rw [he]
  by_cases c5 : k = 5
  · obtain ⟨a, b⟩ := h5 c5
    rw [a, b, if_pos (by omega)]; simp; omega
  rw [if_neg (by omega)]
  by_cases c10 : k = 10 ∨ k = 40 ∨ k = 41
  · obtain ⟨a, b⟩ := h10 c10
    rw [a, b, if_pos (by omega)]; simp; omega
  rw [if_neg (by omega)]
  by_cases c42 : k = 42
  · obtain ⟨a, b⟩ := h42 c42
    rw [a, b, if_pos (by omega)]; simp; omega
  rw [if_neg (by omega)]
  by_cases c46 : k = 46
  · obtain ⟨a, b⟩ := h46 c46
    rw [a, b, if_pos (by omega)]; simp; omega
  rw [if_neg (by omega)]
  by_cases c48 : k = 48
  · obtain ⟨a, b⟩ := h48 c48
    rw [a, b, if_pos (by omega)]
    simp only [decide_eq_true_eq]
    constructor
    · intro h; exact ⟨by omega, fun _ => h⟩
    · intro h; exact h.2 (by omega)
  rw [if_neg (by omega)]
  obtain ⟨a, b⟩ := h0 c5 (by omega) (by omega) (by omega) c42 c46 c48
  rw [a, b]; simp; omega
theorem text_same {x : Nd} {k : Nat} (hk : k < 50) (h0 : k ≠ 0) (h18 : k ≠ 18) (he : x.k = k) {al : List ByteArray} (hal : ∀ s ∈ al, nmB s = true) : txB x al = true ↔ ((rl x.k).lowN ≤ x.n ∧ x.n ≤ (rl x.k).highN) ∧ wdB x al = true := by
  obtain ⟨t1, t2, t3, t4, t5, t6⟩ := tab_word ⟨k, hk⟩ h0 h18
  simp only at t1 t2 t3 t4 t5 t6
  have hin : inS al x.s = true → nmB x.s = true := by
    intro h
    unfold inS at h
    rw [List.any_eq_true] at h
    obtain ⟨s, hs, e⟩ := h
    have : s = x.s := by
      have e2 : s.toList = x.s.toList := by simpa using e
      rw [ByteArray.toList_eq, ByteArray.toList_eq] at e2
      apply ByteArray.ext
      exact Array.toList_inj.mp e2
    rw [← this]; exact hal s hs
  unfold txB wdB
  rw [he, rl_in hk]
  by_cases c33 : k = 33
  · obtain ⟨a, b⟩ := t3 c33
    have e5 := t6 (.inl c33)
    have w5 : (rlT.getD k Rl.zero).word = 5 := by rcases t4 with q | q | q | q | q | q <;> omega
    rw [e5, if_pos rfl, if_pos (by omega), a, b, w5]
    simp only [decide_eq_true_eq]
    rw [if_neg (by omega), if_neg (by omega), if_neg (by omega), if_neg (by omega), if_pos trivial, if_neg (by omega)]
    simp only [decide_eq_true_eq]
    rw [tt_all]
    exact ⟨fun h => ⟨tt_int_n h, h⟩, fun h => h.2⟩
  by_cases c34 : k = 34
  · obtain ⟨a, b⟩ := t1 (by omega) (by omega)
    have e5 := t6 (.inr c34)
    have w5 : (rlT.getD k Rl.zero).word = 5 := by rcases t4 with q | q | q | q | q | q <;> omega
    rw [e5, if_pos rfl, if_neg (by omega), a, b, w5]
    simp only [decide_eq_true_eq]
    rw [if_neg (by omega), if_neg (by omega), if_neg (by omega), if_neg (by omega), if_pos trivial, if_pos (by omega)]
    simp only [decide_eq_true_eq]
    constructor
    · rintro ⟨h1, h2⟩
      refine ⟨by omega, ?_⟩
      rw [h1]; exact tt_str_iff.mpr h2
    · rintro ⟨h1, h2⟩
      have : x.n = 0 := by omega
      rw [this] at h2
      exact ⟨this, tt_str_iff.mp h2⟩
  have n5 : nam (k : Int) ≠ 5 := by rcases t4 with q | q | q | q | q | q <;> omega
  rw [if_neg n5]
  by_cases c1 : k = 1
  · obtain ⟨a, b, w⟩ := t2 c1
    rw [if_pos (by omega), a, b, w]
    simp only [decide_eq_true_eq]
    rw [if_neg (by omega), if_neg (by omega), if_neg (by omega), if_neg (by omega), if_neg (by omega)]
    simp only [decide_eq_true_eq]
    omega
  rw [if_neg (by omega)]
  obtain ⟨a, b⟩ := t1 c1 c33
  rw [a, b]
  by_cases hn : x.n = 0
  · rw [if_neg (by omega)]
    have hnn : ((0 : Int) ≤ x.n ∧ x.n ≤ 0) := by omega
    rcases t4 with ⟨q1, q2⟩ | ⟨q1, q2⟩ | ⟨q1, q2⟩ | ⟨q1, q2⟩ | ⟨q1, q2⟩ | ⟨q1, q2, q3⟩
    · rw [q1, q2, if_pos (.inl rfl), if_neg (by omega), if_neg (by omega), if_neg (by omega), if_neg (by omega), if_neg (by omega)]
      simp [hnn]
    · rw [q1, q2, if_neg (by omega), if_neg (by omega), if_pos rfl]
      simp [hnn]
    · rw [q1, q2, if_neg (by omega), if_neg (by omega), if_neg (by omega), if_pos (by omega)]
      simp [hnn]
    · rw [q1, q2]
      by_cases hs : x.s.size = 0
      · rw [if_pos (.inr ⟨rfl, hs⟩), if_pos ⟨hs, rfl⟩]
        simp [hnn, hs]
      · rw [if_neg (by omega), if_neg (by omega), if_neg (by omega), if_pos (by omega)]
        simp [hnn]
    · rw [q1, q2, if_neg (by omega), if_neg (by omega), if_neg (by omega), if_neg (by omega), if_pos rfl]
      simp [hnn]
      exact hin
    · omega
  · rw [if_pos hn]
    constructor
    · intro h; cases h
    · rintro ⟨h, _⟩; omega
end Go.Proofs.YteadglnenaiaaaaGreatDoor.Pl
namespace Go.Proofs.YteadglnenaiaaaaGreatDoor.Pl
def plB (n : Int) : Bool := decide (0 ≤ n ∧ n ≤ 1000000)
def opN (o : List Bool) (x : Nd) : Bool := (decide (x.k = 21) && decide (x.kids.length = 2)) || (decide (x.k = 21 ∨ x.k = 22 ∨ (24 ≤ x.k ∧ x.k ≤ 28)) && o.getD (x.kids.getD (x.kids.length - 1) 0).toNat false)
def opF (xs : List Nd) : Nat → List Bool
  | 0 => []
  | i + 1 => opF xs i ++ [opN (opF xs i) (nd xs i)]
def alF (xs : List Nd) : Nat → List ByteArray
  | 0 => []
  | i + 1 => if (nd xs i).k = 12 then alF xs i ++ [(nd xs i).s] else alF xs i
def kinds (xs : List Nd) (i : Nat) : List Int := (nd xs i).kids.map fun c => (nd xs c.toNat).k
theorem kinds_len (xs : List Nd) (i : Nat) : (kinds xs i).length = (nd xs i).kids.length := by unfold kinds; rw [List.length_map]
theorem kinds_at (xs : List Nd) {i q : Nat} (h : q < (nd xs i).kids.length) : (kinds xs i).getD q 0 = (nd xs ((nd xs i).kids.getD q 0).toNat).k := by
  unfold kinds
  rw [List.getD_eq_getElem?_getD, List.getElem?_map, List.getElem?_eq_getElem h]
  have : (nd xs i).kids.getD q 0 = (nd xs i).kids[q] := by rw [List.getD_eq_getElem?_getD, List.getElem?_eq_getElem h]; rfl
  rw [this]; rfl
def voidP (xs : List Nd) (p : Nat) : Prop := (nd xs p).s.size = 0 ∧ (nd xs ((nd xs p).kids.getD 0 0).toNat).k = 1 ∧ (nd xs ((nd xs p).kids.getD 0 0).toNat).n = 1
structure NdS (xs : List Nd) (n i : Nat) : Prop where
  sort : srtS (nd xs i).k ≠ 0
  kids : kS (shpT.getD (nd xs i).k.toNat []) (kinds xs i) false = true
  mark : mkB (nd xs i) = true
  text : txB (nd xs i) (alF xs i) = true
  line : plB (nd xs i).line = true
  col : plB (nd xs i).col = true
  tall : hij (tlF xs i) (nd xs i).kids (nd xs i).kids.length ≤ 200
  els : ¬ ((nd xs i).k = 21 ∧ (nd xs i).kids.length = 3 ∧ (opF xs i).getD ((nd xs i).kids.getD 1 0).toNat false = true)
  void : ¬ ((nd xs i).k = 4 ∧ (nd xs i).kids.length = 2 ∧ voidP xs (i - 1))
  unit : (nd xs i).k = 15 ↔ i + 1 = n
def SpecOk (xs : List Nd) : Prop := 1 ≤ xs.length ∧ xs.length ≤ 4000 ∧ ∃ l, bgF xs xs.length = some l ∧ l.getD (xs.length - 1) 0 = 0 ∧ ∀ i, i < xs.length → NdS xs xs.length i
structure NdI (xs : List Nd) (i : Nat) : Prop where
  mark : (rl (nd xs i).k).lowM ≤ (nd xs i).m ∧ (nd xs i).m ≤ (rl (nd xs i).k).highM
  num : (rl (nd xs i).k).lowN ≤ (nd xs i).n ∧ (nd xs i).n ≤ (rl (nd xs i).k).highN
  line : plB (nd xs i).line = true
  col : plB (nd xs i).col = true
  word : wdB (nd xs i) (alF xs i) = true
  kids : kI (rl (nd xs i).k) (kinds xs i)
  asn : (nd xs i).k = 48 → asgn (nd xs i).m = true
  void : (nd xs i).k = 4 → (nd xs i).kids.length = 2 → ¬ voidP xs ((nd xs i).kids.getD 1 0).toNat
  els : (nd xs i).k = 21 → (nd xs i).kids.length = 3 → ¬ (opF xs i).getD ((nd xs i).kids.getD 1 0).toNat false = true
def ImplOk (xs : List Nd) : Prop := 1 ≤ xs.length ∧ xs.length ≤ 4000 ∧ (nd xs (xs.length - 1)).k = 15 ∧ (∃ l, bgF xs xs.length = some l ∧ l.getD (xs.length - 1) 0 = 0) ∧ (¬ ∃ c d, Dep xs xs.length c d ∧ 200 < d) ∧ ∀ i, i < xs.length → NdI xs i
theorem al_nm {xs : List Nd} : ∀ {i : Nat}, (∀ j, j < i → (nd xs j).k = 12 → nmB (nd xs j).s = true) → ∀ s ∈ alF xs i, nmB s = true
  | 0, _, s, hs => by cases hs
  | i + 1, h, s, hs => by
    unfold alF at hs
    split at hs
    · rename_i h12
      rcases List.mem_append.mp hs with q | q
      · exact al_nm (fun j hj => h j (by omega)) s q
      · rw [List.mem_singleton.mp q]; exact h i (by omega) h12
    · exact al_nm (fun j hj => h j (by omega)) s hs
theorem nam12 : nam 12 = 1 := by decide
theorem word12 : (rl 12).word = 2 := by decide
theorem nm_S {x : Nd} {al : List ByteArray} (hk : x.k = 12) (h : txB x al = true) : nmB x.s = true := by
  unfold txB at h
  rw [hk, nam12, if_neg (by decide), if_neg (by decide)] at h
  split at h
  · cases h
  · rw [if_neg (by omega)] at h
    simp only [Bool.and_eq_true] at h
    exact h.1
theorem nm_I {x : Nd} {al : List ByteArray} (hk : x.k = 12) (h : wdB x al = true) : nmB x.s = true := by
  unfold wdB at h
  rw [hk, word12, if_neg (by omega), if_neg (by decide), if_pos (.inl rfl)] at h
  simp only [Bool.and_eq_true] at h
  exact h.1
theorem two_last {xs : List Nd} {n i : Nat} {l : List Nat} (O : Ordd xs n l) (hi : i < n) (h2 : (nd xs i).kids.length = 2) : ((nd xs i).kids.getD 1 0).toNat = i - 1 := by
  obtain ⟨h1, h3⟩ := O.last i hi (by intro e; rw [e] at h2; cases h2)
  rw [h2] at h3
  have h4 : (nd xs i).kids.getD 1 0 = (i : Int) - 1 := h3
  omega
theorem ok_same (xs : List Nd) : SpecOk xs ↔ ImplOk xs := by
  unfold SpecOk ImplOk
  constructor
  · rintro ⟨h1, h2, l, hb, hl, hn⟩
    have O := ordd hb
    refine ⟨h1, h2, (hn _ (by omega)).unit.mpr (by omega), ⟨l, hb, hl⟩, ?_, fun i hi => ?_⟩
    · rw [tall_iff O 200]
      rintro ⟨i, hi, h3⟩
      rw [tlF_at xs hi] at h3
      have := (hn i hi).tall
      omega
    · have S := hn i hi
      have hk : 0 ≤ (nd xs i).k ∧ (nd xs i).k ≤ 49 := by
        by_cases q : (nd xs i).k < 0 ∨ 49 < (nd xs i).k
        · exact absurd (srt_out q) S.sort
        · omega
      obtain ⟨k, ek⟩ : ∃ k : Nat, (nd xs i).k = k := ⟨(nd xs i).k.toNat, by omega⟩
      have hk50 : k < 50 := by omega
      have hz := (tab_sort ⟨k, hk50⟩).1.mp (by rw [← ek]; exact S.sort)
      simp only at hz
      have hal := al_nm (xs := xs) (i := i) fun j hj e => nm_S e (hn j (by omega)).text
      obtain ⟨m1, m2⟩ := (mark_same hk50 ek).mp S.mark
      obtain ⟨t1, t2⟩ := (text_same hk50 hz.1 hz.2 ek hal).mp S.text
      have hf := O.few i hi
      refine ⟨m1, t1, S.line, S.col, t2, ?_, m2, fun e4 e2 hv => ?_, fun e21 e3 ho => ?_⟩
      · have := S.kids
        rw [ek, Int.toNat_natCast] at this
        rw [ek]
        exact (kids_same hk50 (by rw [kinds_len]; omega)).mp this
      · rw [two_last O hi e2] at hv
        exact S.void ⟨e4, e2, hv⟩
      · exact S.els ⟨e21, e3, ho⟩
  · rintro ⟨h1, h2, hu, ⟨l, hb, hl⟩, ht, hn⟩
    have O := ordd hb
    refine ⟨h1, h2, l, hb, hl, fun i hi => ?_⟩
    have I := hn i hi
    have hsrt : 0 ≤ (nd xs i).k ∧ (nd xs i).k ≤ 49 ∧ (nd xs i).k ≠ 0 ∧ (nd xs i).k ≠ 18 ∧ ((nd xs i).k = 15 ↔ i + 1 = xs.length) := by
      by_cases e : i + 1 = xs.length
      · have : i = xs.length - 1 := by omega
        subst this
        rw [hu]
        exact ⟨by decide, by decide, by decide, by decide, ⟨fun _ => e, fun _ => rfl⟩⟩
      · obtain ⟨p, hp, hk⟩ := O.cover (xs.length - 1) (by omega) i (by rw [hl]; omega) (by omega)
        obtain ⟨q, hq, eq⟩ := mem_getD hk
        have h3 := (hn p (by omega)).kids.2.2 q (by rw [kinds_len]; exact hq)
        rw [kinds_at xs hq, eq, Int.toNat_natCast] at h3
        have hs : (rl (nd xs i).k).srt ≠ 0 := by
          intro z
          rw [z] at h3
          simp at h3
        have hr : 0 ≤ (nd xs i).k ∧ (nd xs i).k ≤ 49 := by
          by_cases q : (nd xs i).k < 0 ∨ 49 < (nd xs i).k
          · rw [rl_out q] at hs; exact absurd rfl hs
          · omega
        obtain ⟨k, ek⟩ : ∃ k : Nat, (nd xs i).k = k := ⟨(nd xs i).k.toNat, by omega⟩
        have hk50 : k < 50 := by omega
        rw [ek, rl_in hk50] at hs
        have := (tab_sort ⟨k, hk50⟩).2.mp hs
        simp only at this
        exact ⟨hr.1, hr.2, by omega, by omega, by omega⟩
    obtain ⟨r1, r2, r3, r4, r5⟩ := hsrt
    obtain ⟨k, ek⟩ : ∃ k : Nat, (nd xs i).k = k := ⟨(nd xs i).k.toNat, by omega⟩
    have hk50 : k < 50 := by omega
    have hal := al_nm (xs := xs) (i := i) fun j hj e => nm_I e (hn j (by omega)).word
    have hf := O.few i hi
    refine ⟨?_, ?_, (mark_same hk50 ek).mpr ⟨I.mark, I.asn⟩, (text_same hk50 (by omega) (by omega) ek hal).mpr ⟨I.num, I.word⟩, I.line, I.col, ?_, ?_, ?_, r5⟩
    · rw [ek]; exact (tab_sort ⟨k, hk50⟩).1.mpr ⟨by show k ≠ 0; omega, by show k ≠ 18; omega⟩
    · have := I.kids
      rw [ek] at this ⊢
      rw [Int.toNat_natCast]
      exact (kids_same hk50 (by rw [kinds_len]; omega)).mpr this
    · rw [tall_iff O 200] at ht
      rcases Nat.lt_or_ge 200 (hij (tlF xs i) (nd xs i).kids (nd xs i).kids.length) with q | q
      · exact absurd ⟨i, hi, by rw [tlF_at xs hi]; exact q⟩ ht
      · exact q
    · rintro ⟨a, b, c⟩
      exact I.els a b c
    · rintro ⟨a, b, c⟩
      refine I.void a b ?_
      rw [two_last O hi b]; exact c
end Go.Proofs.YteadglnenaiaaaaGreatDoor.Pl
