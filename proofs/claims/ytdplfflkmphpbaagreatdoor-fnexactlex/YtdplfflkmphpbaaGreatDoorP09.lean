import Derived.Test.YtdplfflkmphpbaaGreatDoorP08
import Derived.Test.YtdplfflkmphpbaaGreatDoorP06
import Derived.Deep.QuietTactic
import Derived.BigQuiet
import Derived.Great.Walk
import Derived.Deep.WholeRow
set_option linter.unusedVariables false
set_option linter.unusedSimpArgs false
namespace Go.Proofs.YtdplfflkmphpbaaGreatDoor.Pl
theorem ext_list (s : ByteArray) (a b : Nat) : (s.extract a b).data.toList = (s.data.toList.drop a).take (b - a) := by
  rw [ByteArray.data_extract, Array.toList_extract]
theorem ln_count (s : ByteArray) (k : Nat) : ∀ n, k + n ≤ s.size → ln s (k + n) = ln s k + (((s.data.toList.drop k).take n).count 10 : Nat)
  | 0, _ => by simp
  | n + 1, h => by
    have ih := ln_count s k n (by omega)
    have hl : k + n < s.data.toList.length := by simp; omega
    have e1 : ln s (k + n + 1) = if byt s (k + n) = 10 then ln s (k + n) + 1 else ln s (k + n) := rfl
    rw [show k + (n + 1) = k + n + 1 by omega, e1, ih, List.take_add_one, List.count_append]
    have hx : (s.data.toList.drop k)[n]? = some (s.data.toList.getD (k + n) 0) := by
      rw [List.getElem?_drop, List.getD_eq_getElem?_getD, List.getElem?_eq_getElem hl]; rfl
    rw [hx]
    unfold byt
    generalize s.data.toList.getD (k + n) 0 = x
    by_cases hq : x = 10
    · subst hq
      rw [if_pos (by decide)]
      simp
      omega
    · rw [if_neg (fun e => hq (UInt8.toNat_inj.1 (by show x.toNat = 10; omega)))]
      simp [List.count_singleton, hq]
theorem pass_pos (s : ByteArray) (k n : Nat) (h : k + n ≤ s.size) :
    (Lib.lastIndexByte (s.extract k (k + n)) 10 = -1 ∧ ln s (k + n) = ln s k ∧ cn s (k + n) = cn s k + n) ∨
    (∃ i : Nat, i < n ∧ Lib.lastIndexByte (s.extract k (k + n)) 10 = i ∧ ln s (k + n) = ln s k + (Lib.countByte (s.extract k (k + n)).data.toList 10 : Nat) ∧ cn s (k + n) = (n : Int) - i) := by
  have hsz : (s.extract k (k + n)).size = n := by rw [ext_size]; omega
  have hb : ∀ j, j < n → (((s.extract k (k + n)).data[j]!).toNat : Int) = byt s (k + j) := fun j hj => by
    rw [← byt_ext s k (k + n) j (by omega) h]
    unfold byt
    have hj' : j < (s.extract k (k + n)).data.size := by show j < (s.extract k (k + n)).size; omega
    have e : (s.extract k (k + n)).data[j]! = (s.extract k (k + n)).data.toList.getD j 0 := by
      generalize (s.extract k (k + n)).data = D at hj' ⊢
      rw [List.getD_eq_getElem?_getD, Array.getElem?_toList, Array.getElem?_eq_getElem hj']
      simp [hj']
    rw [e]
  rcases Lib.lastIndexByte_spec (s.extract k (k + n)) 10 with ⟨h1, h2⟩ | ⟨i, h1, h2, h3, h4⟩
  · left
    obtain ⟨q1, q2⟩ := ln_same s k n (fun j hj1 hj2 => by
      have := h2 (j - k) (by omega)
      rw [hb (j - k) (by omega), show k + (j - k) = j by omega] at this
      exact this)
    exact ⟨h1, q1, q2⟩
  · right
    rw [hsz] at h1 h4
    refine ⟨i, h1, h2, ?_, ?_⟩
    · unfold Lib.countByte
      rw [ext_list, show k + n - k = n by omega]
      exact ln_count s k n h
    · have hi : byt s (k + i) = 10 := by rw [← hb i h1]; exact h3
      have c1 : cn s (k + i + 1) = 1 := by
        have e1 : cn s (k + i + 1) = if byt s (k + i) = 10 then 1 else cn s (k + i) + 1 := rfl
        rw [e1, if_pos hi]
      obtain ⟨_, q2⟩ := ln_same s (k + i + 1) (n - i - 1) (fun j hj1 hj2 => by
        have := h4 (j - k) (by omega) (by omega)
        rw [hb (j - k) (by omega), show k + (j - k) = j by omega] at this
        exact this)
      rw [show k + i + 1 + (n - i - 1) = k + n by omega, c1] at q2
      rw [q2]
      omega
end Go.Proofs.YtdplfflkmphpbaaGreatDoor.Pl
namespace Go.Proofs.YtdplfflkmphpbaaGreatDoor.W
open Go.RowKit
structure OnlyX (c : Nat) (w w' : World) : Prop where
  os : w'.os = w.os
  tape : w'.tape = w.tape
  output : w'.output = w.output
  size : w.heap.size ≤ w'.heap.size
  block : ∀ b, b < w.heap.size → b ≠ c → w'.heap[b]? = w.heap[b]?
theorem OnlyX.refl (c : Nat) (w : World) : OnlyX c w w := ⟨rfl, rfl, rfl, Nat.le_refl _, fun _ _ _ => rfl⟩
theorem OnlyX.trans {c : Nat} {a b d : World} (h : OnlyX c a b) (k : OnlyX c b d) : OnlyX c a d := ⟨k.os.trans h.os, k.tape.trans h.tape, k.output.trans h.output, Nat.le_trans h.size k.size, fun x hx hc => (k.block x (Nat.lt_of_lt_of_le hx h.size) hc).trans (h.block x hx hc)⟩
theorem OnlyX.of_below {c : Nat} {a b : World} (h : Below a.heap.size a b) : OnlyX c a b := ⟨h.os, h.tape, h.output, h.size, fun x hx _ => h.block x hx⟩
theorem OnlyX.below {c n : Nat} {w w' : World} (h : OnlyX c w w') (hn : n ≤ c) (hn2 : n ≤ w.heap.size) : Below n w w' := ⟨h.os, h.tape, h.output, h.size, fun b hb => h.block b (by omega) (by omega)⟩
theorem OnlyX.setCell {c : Nat} {w u : World} (h : OnlyX c w u) (q : Nat) (x : Value) : OnlyX c w (u.setCell ⟨c, q, none⟩ x) := by
  refine ⟨?_, ?_, ?_, ?_, fun b hb hc => (Below.heap_setCell u ⟨c, q, none⟩ x b hc).trans (h.block b hb hc)⟩
  · have := (Below.refl 0 u).setCell (p := ⟨c, q, none⟩) (Nat.zero_le _) x; exact this.os.trans h.os
  · have := (Below.refl 0 u).setCell (p := ⟨c, q, none⟩) (Nat.zero_le _) x; exact this.tape.trans h.tape
  · have := (Below.refl 0 u).setCell (p := ⟨c, q, none⟩) (Nat.zero_le _) x; exact this.output.trans h.output
  · rw [World.size_setCell]; exact h.size
theorem OnlyX.drewN {c : Nat} {w u : World} (h : OnlyX c w u) (m : Nat) : OnlyX c w (u.drewN m) := ⟨h.os, h.tape, h.output, h.size, h.block⟩
theorem OnlyX.drew {c : Nat} {w u : World} (h : OnlyX c w u) : OnlyX c w u.drew := ⟨h.os, h.tape, h.output, h.size, h.block⟩
def LxSt (g : Nat) (s : ByteArray) (k : Nat) (w : World) : Prop := w.heap[g]? = some (.cells #[.string s, .int .i64 k, .int .i64 (Pl.ln s k), .int .i64 ((k : Int) + 1 - Pl.cn s k)] 72 (0, 0))
theorem LxSt.keep {g k : Nat} {s : ByteArray} {w w' : World} (h : LxSt g s k w) (hb : Below w.heap.size w w') : LxSt g s k w' := (hb.block g (Array.getElem?_eq_some_iff.1 h).1).trans h
set_option maxHeartbeats 4000000 in
set_option maxRecDepth 100000 in
theorem pass_is (g : Nat) (s : ByteArray) (hs : s.size ≤ 1048576) (k n : Nat) (h : k + n ≤ s.size) (w : World) (hL : LxSt g s k w) : Calls Tryz.prog 62 #[.pointer (some ⟨g, 0, none⟩), .int .i64 n] w fun e w' => (∃ v, e = .returned v) ∧ LxSt g s (k + n) w' ∧ OnlyX g w w' := by
  have HP := Pl.pass_pos s k n h
  obtain ⟨l0, l1⟩ := Pl.ln_b s k
  obtain ⟨c0, c1⟩ := Pl.cn_b s k
  have HL : Hid (w.heap[g]? = some (.cells #[.string s, .int .i64 k, .int .i64 (Pl.ln s k), .int .i64 ((k : Int) + 1 - Pl.cn s k)] 72 (0, 0))) := hL
  have HG : Hid (∀ (u : World) (x y z : Int), u.heap[g]? = some (.cells #[.string s, .int .i64 x, .int .i64 y, .int .i64 z] 72 (0, 0)) → x = ((k + n : Nat) : Int) → y = Pl.ln s (k + n) → z = ((k + n : Nat) : Int) + 1 - Pl.cn s (k + n) → LxSt g s (k + n) u) := fun u x y z hu hx hy hz => by
    unfold LxSt; rw [hu, hx, hy, hz]
  obtain ⟨A, hA⟩ : ∃ A, A = Pl.ln s k := ⟨_, rfl⟩
  obtain ⟨B, hB⟩ : ∃ B, B = Pl.cn s k := ⟨_, rfl⟩
  rw [← hA] at HP HL l0 l1
  rw [← hB] at HP HL c0 c1
  clear hA hB hL
  have hc0 : w.cell? ⟨g, 0, none⟩ = some (.string s) := cell_of_row w g 0 _ 72 (0, 0) HL.out
  have hc1 : w.cell? ⟨g, 1, none⟩ = some (.int .i64 k) := cell_of_row w g 1 _ 72 (0, 0) HL.out
  have hc2 : w.cell? ⟨g, 2, none⟩ = some (.int .i64 A) := cell_of_row w g 2 _ 72 (0, 0) HL.out
  have hwr : IntKind.i64.wrap ((k : Int) + (n : Int)) = (k : Int) + (n : Int) := by rw [IntKind.wrap_i64]; omega
  have hle1 : (k : Int) ≤ (k : Int) + (n : Int) := by omega
  have hle2 : (k : Int) + (n : Int) ≤ s.size := by omega
  have htn : ((k : Int) + (n : Int)).toNat = k + n := by omega
  have hPs : (s.extract k (k + n)).size = n := by rw [Pl.ext_size]; omega
  have HLI : Hid (∀ u : World, Calls Tryz.prog 74 #[.string (s.extract k (k + n)), .int .u8 10] u fun e w' => e = .returned (.int .i64 (Lib.lastIndexByte (s.extract k (k + n)) 10)) ∧ w' = u) := fun u => Tryz.strings_LastIndexByte (s.extract k (k + n)) 10 (by omega) u
  have HCO : Hid (∀ u : World, Calls Tryz.prog 75 #[.string (s.extract k (k + n)), .string ⟨#[10]⟩] u fun e w' => e = .returned (.int .i64 (Lib.countByte (s.extract k (k + n)).data.toList 10 : Nat)) ∧ w' = u) := fun u => Tryz.strings_Count_one (s.extract k (k + n)) 10 u
  have HP' : Hid _ := HP
  clear HP
  go_enter Tryz.func62, Tryz.ntmps62
  go_wp2_with fail
  go_quiet (fail)
  go_wp2_with fail
  obtain ⟨U, hU⟩ : ∃ U, U = w.drewN nq := ⟨_, rfl⟩
  rw [← hU]
  have HLU : Hid (U.heap[g]? = some (.cells #[.string s, .int .i64 k, .int .i64 A, .int .i64 ((k : Int) + 1 - B)] 72 (0, 0))) := by rw [hU]; exact HL.out
  have OX : Hid (OnlyX g w U) := by rw [hU]; exact (OnlyX.refl _ _).drewN _
  have hn0 := HL.out
  clear hU hc0 hc1 hc2 hn0
  have d1 : U.cell? ⟨g, 1, none⟩ = some (.int .i64 k) := cell_of_row U g 1 _ 72 (0, 0) HLU.out
  have d2 : U.cell? ⟨g, 2, none⟩ = some (.int .i64 A) := cell_of_row U g 2 _ 72 (0, 0) HLU.out
  have d3 : U.cell? ⟨g, 3, none⟩ = some (.int .i64 ((k : Int) + 1 - B)) := cell_of_row U g 3 _ 72 (0, 0) HLU.out
  have f1 : U.frozen? ⟨g, 1, none⟩ = false := frozen_of_row U g 1 _ 72 HLU.out
  have f2 : U.frozen? ⟨g, 2, none⟩ = false := frozen_of_row U g 2 _ 72 HLU.out
  have f3 : U.frozen? ⟨g, 3, none⟩ = false := frozen_of_row U g 3 _ 72 HLU.out
  have hcb : Lib.countByte (s.extract k (k + n)).data.toList 10 ≤ n := by
    unfold Lib.countByte
    refine Nat.le_trans List.count_le_length ?_
    simp
    omega
  obtain ⟨cnt, hcnt⟩ : ∃ cnt, cnt = Lib.countByte (s.extract k (k + n)).data.toList 10 := ⟨_, rfl⟩
  rw [← hcnt] at hcb HCO HP'
  obtain ⟨D, hD⟩ : ∃ D, D = s.extract k (k + n) := ⟨_, rfl⟩
  rw [← hD] at HCO HP' HLI ⊢
  obtain ⟨last, hlast⟩ : ∃ last, last = Lib.lastIndexByte D 10 := ⟨_, rfl⟩
  rw [← hlast] at HP' HLI
  clear hcnt hD hlast hPs
  refine (HLI.out _).mono ?_
  rintro e u1 ⟨rfl, hu1⟩
  rw [hu1]
  clear hu1 HLI
  rcases HP'.out with ⟨rfl, q1, q2⟩ | ⟨i, hin, rfl, q1, q2⟩
  · have K1 : Hid (Pl.ln s (k + n) = A) := q1
    have K2 : Hid (Pl.cn s (k + n) = B + n) := q2
    clear q1 q2 HP'
    go_wp2_with fail
    go_end0
    exact ⟨⟨_, rfl⟩, HG.out _ _ _ _ (heap_setCell_same U g 1 _ 72 _ HLU.out) (by omega) K1.out.symm (by rw [K2.out]; omega), OX.out.setCell 1 _⟩
  · have K1 : Hid (Pl.ln s (k + n) = A + cnt) := q1
    have K2 : Hid (Pl.cn s (k + n) = (n : Int) - i) := q2
    have hcb' : (cnt : Int) ≤ n := by omega
    have hii : (i : Int) < n := by omega
    clear q1 q2 HP'
    have hwr2 : IntKind.i64.wrap (A + (cnt : Int)) = A + (cnt : Int) := by rw [IntKind.wrap_i64]; omega
    go_wp2_with fail
    go_region_with (go_at_call 75; refine (HCO.out _).mono ?_; rintro e u2 ⟨rfl, rfl⟩)
    all_goals go_wp2_with fail
    all_goals
      go_end0
      refine ⟨⟨_, rfl⟩, HG.out _ _ _ _ (heap_setCell_same _ g 1 _ 72 _ (heap_setCell_same _ g 3 _ 72 _ (heap_setCell_same _ g 2 _ 72 _ HLU.out))) (by omega) K1.out.symm (by rw [K2.out]; omega), ?_⟩
      repeat (first | exact OX.out | refine OnlyX.setCell ?_ _ _ | refine OnlyX.drewN ?_ _ | refine OnlyX.drew ?_)
end Go.Proofs.YtdplfflkmphpbaaGreatDoor.W
namespace Go.Proofs.YtdplfflkmphpbaaGreatDoor.Pl
theorem Sk.blanks {s : ByteArray} {j : Nat} {c : Bool} : ∀ n k, k + n ≤ s.size → (∀ x, k ≤ x → x < k + n → blk (byt s x) = true) → Sk s (k + n) j c → Sk s k j c
  | 0, k, _, _, h => h
  | n + 1, k, h1, h2, h => .blank (by omega) (h2 k (Nat.le_refl _) (by omega)) (Sk.blanks n (k + 1) (by omega) (fun x a b => h2 x (by omega) (by omega)) (by rw [show k + 1 + n = k + (n + 1) by omega]; exact h))
end Go.Proofs.YtdplfflkmphpbaaGreatDoor.Pl
namespace Go.Proofs.YtdplfflkmphpbaaGreatDoor.W
open Go.RowKit
theorem BlkI.to {s : ByteArray} {k n : Nat} {b : Bool} (hk : k ≤ s.size) (h : BlkI (s.extract k s.size) n b) : (n = 0 ∧ Pl.Sk s k k b) ∨ (0 < n ∧ k + n ≤ s.size ∧ ∀ j c, Pl.Sk s (k + n) j c → Pl.Sk s k j c) := by
  have hsz := Pl.ext_sz s k
  have hb : ∀ j, k + j < s.size → Pl.byt (s.extract k s.size) j = Pl.byt s (k + j) := fun j hj => Pl.ext_byt s k j hj
  have hlc : Pl.lc (s.extract k s.size) 0 ↔ Pl.lc s k := by
    unfold Pl.lc
    rw [hsz]
    constructor
    · rintro ⟨h1, h2, h3⟩
      rw [hb 0 (by omega)] at h2
      rw [hb (0 + 1) (by omega)] at h3
      exact ⟨by omega, h2, by rw [← h3]⟩
    · rintro ⟨h1, h2, h3⟩
      refine ⟨by omega, ?_, ?_⟩
      · rw [hb 0 (by omega)]; exact h2
      · rw [hb (0 + 1) (by omega), ← h3]
  have hbc : Pl.bc (s.extract k s.size) 0 ↔ Pl.bc s k := by
    unfold Pl.bc
    rw [hsz]
    constructor
    · rintro ⟨h1, h2, h3⟩
      rw [hb 0 (by omega)] at h2
      rw [hb (0 + 1) (by omega)] at h3
      exact ⟨by omega, h2, by rw [← h3]⟩
    · rintro ⟨h1, h2, h3⟩
      refine ⟨by omega, ?_, ?_⟩
      · rw [hb 0 (by omega)]; exact h2
      · rw [hb (0 + 1) (by omega), ← h3]
  rcases h with ⟨h1, h2, rfl⟩ | ⟨h1, ⟨m, h2, rfl⟩, rfl⟩ | ⟨h1, h2, rfl, rfl⟩ | ⟨h1, h2, rfl, rfl⟩
  · right
    have hl := hlc.1 h1
    obtain ⟨_, e2, e3, e4⟩ := h2
    rw [hsz] at e2 e4
    have hn2 : 2 ≤ n := by
      have a1 := h1.1
      have a2 := h1.2.1
      have a3 := h1.2.2
      rw [hsz] at a1
      rcases e4 with e | e
      · omega
      · rcases Nat.lt_or_ge n 2 with q | q
        · have : n = 0 ∨ n = 1 := by omega
          rcases this with rfl | rfl
          · rw [a2] at e; exact absurd e (by decide)
          · rw [a3] at e; exact absurd e (by decide)
        · exact q
    refine ⟨by omega, by omega, fun j c hj => .line hl ⟨by omega, by omega, fun x hx1 hx2 => ?_, ?_⟩ hj⟩
    · have := e3 (x - k) (Nat.zero_le _) (by omega)
      rw [hb (x - k) (by omega), show k + (x - k) = x by omega] at this
      exact this
    · rcases e4 with e | e
      · left; omega
      · rcases Nat.lt_or_ge (k + n) s.size with q | q
        · right; rw [← hb n q]; exact e
        · left; omega
  · right
    have hl := hbc.1 h1
    obtain ⟨e1, e2, e3, e4⟩ := h2
    rw [hsz] at e2
    rw [hb m (by omega), hb (m + 1) (by omega)] at e3
    refine ⟨by omega, by omega, fun j c hj => .blok hl (k := k + m) ⟨by omega, by omega, e3, fun x hx1 hx2 e => ?_⟩ (by rw [show k + m + 2 = k + (m + 2) by omega]; exact hj)⟩
    have := e4 (x - k) (by omega) (by omega)
    rw [hb (x - k) (by omega), hb (x - k + 1) (by omega), show k + (x - k + 1) = x + 1 by omega, show k + (x - k) = x by omega] at this
    exact this e
  · left
    refine ⟨rfl, .opn (hbc.1 h1) fun x hx1 hx2 e => ?_⟩
    have := h2 (x - k) (by omega) (by rw [hsz]; omega)
    rw [hb (x - k) (by omega), hb (x - k + 1) (by omega), show k + (x - k + 1) = x + 1 by omega, show k + (x - k) = x by omega] at this
    exact this e
  · have hr := Pl.run_run Pl.blk (s.extract k s.size)
    have hr1 := hr.1
    rw [hsz] at hr1
    rcases Nat.eq_zero_or_pos (Pl.run Pl.blk (s.extract k s.size)) with e | e
    · left
      refine ⟨e, .stop ?_⟩
      rcases Nat.lt_or_ge k s.size with q | q
      · right
        refine ⟨?_, fun h => h1 (hlc.2 h), fun h => h2 (hbc.2 h)⟩
        have := hr.2.2
        rw [e, hsz] at this
        rcases this with x | x
        · omega
        · rw [hb 0 (by omega)] at x; exact x
      · exact .inl q
    · right
      refine ⟨e, by omega, fun j c hj => Pl.Sk.blanks _ k (by omega) (fun x hx1 hx2 => ?_) hj⟩
      have := hr.2.1 (x - k) (by omega)
      rw [hb (x - k) (by omega), show k + (x - k) = x by omega] at this
      exact this
theorem Glo.onX {g : Nat} {w w' : World} (h : Glo w) (hg : 8 ≤ g) (hx : OnlyX g w w') : Glo w' := h.keep (n := 8) (Nat.le_refl _) (hx.below hg h.big)
def lxAt (g : Nat) (w : World) : Nat := match w.cell? ⟨g, 1, none⟩ with | some (.int _ n) => n.toNat | _ => 0
theorem LxSt.at {g k : Nat} {s : ByteArray} {w : World} (h : LxSt g s k w) : lxAt g w = k := by
  unfold lxAt
  rw [cell_of_row w g 1 _ 72 (0, 0) h]
  simp
set_option maxHeartbeats 4000000 in
set_option maxRecDepth 100000 in
theorem skipBlanks_is (g : Nat) (hg8 : 8 ≤ g) (s : ByteArray) (hs : s.size ≤ 1048576) (k : Nat) (hk : k ≤ s.size) (w : World) (hL : LxSt g s k w) (hE : Glo w) : Calls Tryz.prog 60 #[.pointer (some ⟨g, 0, none⟩)] w fun e w' => ∃ j b, Pl.Sk s k j b ∧ e = .returned (.bool b) ∧ LxSt g s j w' ∧ OnlyX g w w' := by
  have HL : Hid (LxSt g s k w) := hL
  have HE : Hid (Glo w) := hE
  clear hL hE
  go_enter Tryz.func60, Tryz.ntmps60
  go_wp2_with fail
  go_loopw [3] (fun _ wr => ∃ m : Nat, m ≤ s.size ∧ LxSt g s m wr ∧ OnlyX g w wr ∧ ∀ j b, Pl.Sk s m j b → Pl.Sk s k j b) (fun _ wr => s.size - lxAt g wr)
  case atStart => exact ⟨k, hk, HL.out, OnlyX.refl _ _, fun j b h => h⟩
  case round =>
    obtain ⟨m, hm, hst, hox, hsk⟩ := hrel
    have HST : Hid (LxSt g s m wr) := hst
    have HOX : Hid (OnlyX g w wr) := hox
    have HSK : Hid (∀ j b, Pl.Sk s m j b → Pl.Sk s k j b) := hsk
    have HEr : Hid (Glo wr) := HE.out.onX hg8 hox
    have hc0 : wr.cell? ⟨g, 0, none⟩ = some (.string s) := cell_of_row wr g 0 _ 72 (0, 0) hst
    have hc1 : wr.cell? ⟨g, 1, none⟩ = some (.int .i64 m) := cell_of_row wr g 1 _ 72 (0, 0) hst
    have hm' : (m : Int) ≤ s.size := by omega
    have HBS : Hid (∀ u : World, Glo u → Calls Tryz.prog 67 #[.string (s.extract m s.size)] u fun e w' => (∃ n b, BlkI (s.extract m s.size) n b ∧ e = .returned (.tuple #[.int .i64 n, .bool b])) ∧ Below u.heap.size u w') := fun u hu => blankSize_is (s.extract m s.size) (by rw [Pl.ext_sz]; omega) u hu
    have HGD : Hid (∀ i, Glo (wr.drewN i)) := fun i => HEr.out.on (below_drewV (Below.refl _ _) i)
    clear hst hox hsk
    go_wp2_with fail
    go_region_with (go_at_call 67; refine (HBS.out _ (by first | exact HEr.out | exact HGD.out _)).mono ?_; rintro e u2 ⟨⟨n, b, hblk, rfl⟩, g2⟩)
    all_goals
      have G2 : Hid (OnlyX g w u2) := HOX.out.trans (OnlyX.of_below (by first | exact g2 | exact (below_drewV (Below.refl _ _) _).trans g2))
      have HST2 : Hid (LxSt g s m u2) := (HST.out.keep (below_drewV (Below.refl _ _) _)).keep g2
      have hto := hblk.to hm
      clear hblk g2
      rcases hto with ⟨rfl, hst⟩ | ⟨hn, hmn, hst⟩
      · have HF : Hid (Pl.Sk s k m b) := HSK.out _ _ hst
        clear hst
        go_wp2_with fail
        go_ret
        exact ⟨m, b, HF.out, rfl, HST2.out, G2.out⟩
      · have HF : Hid (∀ j b, Pl.Sk s (m + n) j b → Pl.Sk s k j b) := fun j b h => HSK.out j b (hst j b h)
        have en : ((n : Int) == 0) = false := by simp; omega
        have HPA : Hid (∀ u : World, LxSt g s m u → Calls Tryz.prog 62 #[.pointer (some ⟨g, 0, none⟩), .int .i64 n] u fun e w' => (∃ v, e = .returned v) ∧ LxSt g s (m + n) w' ∧ OnlyX g u w') := fun u hu => pass_is g s hs m n hmn u hu
        clear hst
        go_wp2_with (go_at_call 62; refine (HPA.out _ HST2.out).mono ?_; rintro e u3 ⟨⟨v, rfl⟩, hl3, ho3⟩)
        go_roundw
        case rel => exact ⟨m + n, hmn, hl3, G2.out.trans ho3, HF.out⟩
        case measure => rw [hl3.at, HST.out.at]; omega
end Go.Proofs.YtdplfflkmphpbaaGreatDoor.W
namespace Go.Proofs.YtdplfflkmphpbaaGreatDoor.Pl
def place (len : Nat) (at_ : Int) : Int := if 65536 ≤ at_ ∧ at_ % 4 = 0 ∧ (at_ - 65536) / 4 < len then (at_ - 65536) / 4 else -1
end Go.Proofs.YtdplfflkmphpbaaGreatDoor.Pl
namespace Go.Proofs.YtdplfflkmphpbaaGreatDoor.W
open Go.RowKit
theorem below_drewN {B : Nat} {a w : World} (h : Below B a w) (m : Nat) : Below B a (w.drewN m) := ⟨h.os, h.tape, h.output, h.size, h.block⟩
def Row (k : IntKind) (lo : Nat) (w : World) (a : Option Addr) (len cap : Nat) (zs : List Int) : Prop :=
  zs.length = len ∧ len ≤ cap ∧ cap ≤ maxLen ∧ (∀ n ∈ zs, (Lit.int k n).wf = true) ∧
  (len = 0 ∨ ∃ b off, a = some ⟨b, off, none⟩ ∧ lo ≤ b ∧ b < w.heap.size ∧ ∀ i, i < len → w.cell? ⟨b, off + i, none⟩ = some (.int k (zs.getD i 0)))
theorem Row.keep {k : IntKind} {lo : Nat} {w w' : World} {a : Option Addr} {len cap : Nat} {zs : List Int} (h : Row k lo w a len cap zs) (hb : Below w.heap.size w w') : Row k lo w' a len cap zs := by
  obtain ⟨h1, h2, h3, h4, h5⟩ := h
  refine ⟨h1, h2, h3, h4, ?_⟩
  rcases h5 with h5 | ⟨b, off, rfl, hlo, hlt, hc⟩
  · exact .inl h5
  · exact .inr ⟨b, off, rfl, hlo, Nat.lt_of_lt_of_le hlt hb.size, fun i hi => (hb.cell (by exact hlt)).trans (hc i hi)⟩
theorem Row.small {k : IntKind} {lo : Nat} {w : World} {a : Option Addr} {len cap : Nat} {zs : List Int} (h : Row k lo w a len cap zs) : len ≤ 9223372036854775807 := by
  have h1 := h.2.1
  have h2 := h.2.2.1
  unfold maxLen at h2
  omega
structure Above (B : Nat) (w w' : World) : Prop where
  size : w.heap.size ≤ w'.heap.size
  block : ∀ k, B ≤ k → k < w.heap.size → w'.heap[k]? = w.heap[k]?
theorem Above.refl (B : Nat) (w : World) : Above B w w := ⟨Nat.le_refl _, fun _ _ _ => rfl⟩
theorem Above.trans {B : Nat} {a b c : World} (h : Above B a b) (k : Above B b c) : Above B a c := ⟨Nat.le_trans h.size k.size, fun i h1 h2 => (k.block i h1 (Nat.lt_of_lt_of_le h2 h.size)).trans (h.block i h1 h2)⟩
theorem Above.of_below {B : Nat} {a b : World} (h : Below a.heap.size a b) : Above B a b := ⟨h.size, fun i _ h2 => h.block i h2⟩
theorem Above.setCell {B : Nat} {a b : World} (h : Above B a b) {p : Addr} (hp : p.block < B) (u : Value) : Above B a (b.setCell p u) :=
  ⟨by simpa using h.size, fun i h1 h2 => (Below.heap_setCell b p u i (by omega)).trans (h.block i h1 h2)⟩
theorem Above.setRow {B : Nat} {a b : World} (h : Above B a b) {g : Nat} (hp : g < B) (cs : Array Value) : Above B a (b.setRow g cs) :=
  ⟨by simpa using h.size, fun i h1 h2 => (setRow_other b g i cs (by omega)).trans (h.block i h1 h2)⟩
def Own (k : IntKind) (e : TypeId) (lo : Nat) (w : World) (a : Option Addr) (len cap : Nat) (zs : List Int) : Prop :=
  w.ownsRow lo e 1 (.slice a len cap) len (zs.map (Value.int k)) ∧ (∀ n ∈ zs, (Lit.int k n).wf = true)
theorem Own.row {k : IntKind} {e : TypeId} {lo : Nat} {w : World} {a : Option Addr} {len cap : Nat} {zs : List Int} (h : Own k e lo w a len cap zs) : Row k lo w a len cap zs := by
  obtain ⟨hown, hwf⟩ := h
  have hl : zs.length = len := by have := hown.1; simpa using this
  rcases hown.2 with ⟨h0, h1⟩ | ⟨g, cap', cur, h0, hlo, hg, hnc, hcm, hcs, htake⟩
  · simp only [Value.slice.injEq] at h0
    obtain ⟨rfl, rfl, rfl⟩ := h0
    exact ⟨hl, Nat.le_refl _, Nat.zero_le _, hwf, .inl rfl⟩
  · simp only [Value.slice.injEq] at h0
    obtain ⟨rfl, _, rfl⟩ := h0
    refine ⟨hl, hnc, hcm, hwf, ?_⟩
    refine .inr ⟨g, 0, rfl, hlo, ?_, fun i hi => ?_⟩
    · exact (Array.getElem?_eq_some_iff.1 hg).1
    · have := hown.cellAt i (by omega)
      rw [Nat.zero_add, this, List.getElem?_map, List.getD_eq_getElem?_getD, List.getElem?_eq_getElem (by omega)]
      rfl
theorem Own.keep {k : IntKind} {e : TypeId} {lo : Nat} {w w' : World} {a : Option Addr} {len cap : Nat} {zs : List Int} (h : Own k e lo w a len cap zs) (hb : Below w.heap.size w w') : Own k e lo w' a len cap zs := by
  obtain ⟨hown, hwf⟩ := h
  refine ⟨⟨hown.1, ?_⟩, hwf⟩
  rcases hown.2 with h0 | ⟨g, cap', cur, h0, hlo, hg, hr⟩
  · exact .inl h0
  · refine .inr ⟨g, cap', cur, h0, hlo, ?_, hr⟩
    rw [hb.block g ((Array.getElem?_eq_some_iff.1 hg).1), hg]
end Go.Proofs.YtdplfflkmphpbaaGreatDoor.W
