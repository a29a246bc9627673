import Derived.Test.YtgpmplcamdophaaDoorIpA
import Derived.Lib.SmallJoins
import Derived.Lib.OwnKind
import Derived.OwnWalk
set_option linter.unusedVariables false
set_option linter.unusedSimpArgs false
namespace Go.Proofs.YtgpmplcamdophaaDoor.Pl
/-- the texts of m operands, commas between them -/
def jn (m : Nat) (F : Nat → ByteArray) : ByteArray := ⟨(Lib.join (((List.range m).map F).map (·.data.toList)) (⟨#[44, 32]⟩ : ByteArray).data.toList).toArray⟩
/-- a line that is no label -/
def asm (Wd : ByteArray) (m : Nat) (F : Nat → ByteArray) : ByteArray :=
  if m = 0 then ((⟨#[32, 32]⟩ : ByteArray) ++ Wd) ++ ⟨#[10]⟩ else (((⟨#[32, 32]⟩ : ByteArray) ++ Wd) ++ ((⟨#[32]⟩ : ByteArray) ++ jn m F)) ++ ⟨#[10]⟩
theorem asm_zero {m : Nat} (Wd : ByteArray) (F : Nat → ByteArray) (h : m = 0) : asm Wd m F = ((⟨#[32, 32]⟩ : ByteArray) ++ Wd) ++ ⟨#[10]⟩ := by unfold asm; rw [if_pos h]
theorem asm_pos {m : Nat} (Wd : ByteArray) (F : Nat → ByteArray) (h : ¬ m = 0) : asm Wd m F = (((⟨#[32, 32]⟩ : ByteArray) ++ Wd) ++ ((⟨#[32]⟩ : ByteArray) ++ jn m F)) ++ ⟨#[10]⟩ := by unfold asm; rw [if_neg h]
def ops (os : List Int) : Array Value := (os.map (Value.int .i64)).toArray
theorem ops_at (os : List Int) (j : Nat) (h : j < os.length) : (ops os)[j]? = some (.int .i64 os[j]) := by simp [ops, h]
end Go.Proofs.YtgpmplcamdophaaDoor.Pl
namespace Go.Proofs.YtgpmplcamdophaaDoor.W
open Go.RowKit
theorem rets {a b : ByteArray} (h : a = b) : Ending.returned (.string a) = .returned (.string b) := by rw [h]
theorem info9 : (Tryd.prog.info? 9).map (fun i => (i.zero, i.size, i.bytes)) = some (some (.string ⟨#[]⟩), 1, 16) := by kernel_rfl
/-- a list of operands that the call made -/
def Lst (w : World) (a : Option Addr) (os : List Int) : Prop := os = [] ∨ ∃ g, a = some ⟨g, 0, none⟩ ∧ w.heap[g]? = some (.cells (Pl.ops os) 68 (0, 0))
theorem ow_keep' {B : Nat} {e : TypeId} {k : Nat} {v : Value} {n : Nat} {xs : List Value} {w w' : World} (h : w.ownsRow B e k v n xs) (hb : Below w.heap.size w w') : w'.ownsRow B e k v n xs := by
  refine ⟨h.1, ?_⟩
  rcases h.2 with ⟨a, b⟩ | ⟨g, cap, cur, h0, hlo, hg, r⟩
  · exact .inl ⟨a, b⟩
  · exact .inr ⟨g, cap, cur, h0, hlo, (hb.block g (Array.getElem?_eq_some_iff.1 hg).1).trans hg, r⟩
theorem str_cell (w : World) (T : ByteArray) (j : Nat) (u : Value) (hj : [Value.string T][j]? = some u) : (w.alloc (.cells #[.string T] 9)).cell? ((⟨w.heap.size, 0, none⟩ : Addr).add j) = some u := by
  rcases j with _ | j
  · cases hj
    exact cell_of_row _ w.heap.size 0 _ 9 (0, 0) (heap_alloc_new w _)
  · simp at hj
def txs (F : Nat → ByteArray) (k : Nat) : List Value := (List.range k).map fun j => .string (F j)
theorem txs_succ (F : Nat → ByteArray) (k : Nat) : txs F (k + 1) = txs F k ++ [.string (F k)] := by simp [txs, List.range_succ]
set_option maxRecDepth 8000 in
set_option maxHeartbeats 4000000 in
theorem lineText_gen (x : Pl.Ln) (hk : (x.k == 1) = false) (os : List Int) (hm : os.length ≤ 3) (F : Nat → ByteArray) (Wd : ByteArray) (hWs : Wd.size ≤ 1048576) (hJ : (Pl.jn os.length F).size ≤ 16777216)
    (hO : ∀ w, AsmLies w → Calls Tryd.prog 44 #[.agg #[.int .i64 x.k, .int .i64 x.op, .int .i64 x.rd, .int .i64 x.r1, .int .i64 x.r2, .int .i64 x.im, .string x.s, .int .i64 x.n]] w fun e w' => ∃ a cap, e = .returned (.slice a os.length cap) ∧ Lst w' a os ∧ Below w.heap.size w w')
    (hT : ∀ j (hj : j < os.length) w, AsmLies w → Calls Tryd.prog 45 #[.int .i64 os[j], .agg #[.int .i64 x.k, .int .i64 x.op, .int .i64 x.rd, .int .i64 x.r1, .int .i64 x.r2, .int .i64 x.im, .string x.s, .int .i64 x.n]] w fun e w' => e = .returned (.string (F j)) ∧ Below w.heap.size w w')
    (hW : ∀ w, AsmLies w → Calls Tryd.prog 46 #[.agg #[.int .i64 x.k, .int .i64 x.op, .int .i64 x.rd, .int .i64 x.r1, .int .i64 x.r2, .int .i64 x.im, .string x.s, .int .i64 x.n]] w fun e w' => e = .returned (.string Wd) ∧ Below w.heap.size w w')
    (w : World) (h : AsmLies w) : Calls Tryd.prog 23 #[.agg #[.int .i64 x.k, .int .i64 x.op, .int .i64 x.rd, .int .i64 x.r1, .int .i64 x.r2, .int .i64 x.im, .string x.s, .int .i64 x.n]] w fun e w' => e = .returned (.string (Pl.asm Wd os.length F)) ∧ Below w.heap.size w w' := by
  obtain ⟨i0, hi, hz0, hz1, hz2⟩ := info_parts info9
  have HL : Hid (AsmLies w) := h
  have HO : Hid (∀ w, AsmLies w → Calls Tryd.prog 44 #[.agg #[.int .i64 x.k, .int .i64 x.op, .int .i64 x.rd, .int .i64 x.r1, .int .i64 x.r2, .int .i64 x.im, .string x.s, .int .i64 x.n]] w fun e w' => ∃ a cap, e = .returned (.slice a os.length cap) ∧ Lst w' a os ∧ Below w.heap.size w w') := hO
  have HT : Hid (∀ j (hj : j < os.length) w, AsmLies w → Calls Tryd.prog 45 #[.int .i64 os[j], .agg #[.int .i64 x.k, .int .i64 x.op, .int .i64 x.rd, .int .i64 x.r1, .int .i64 x.r2, .int .i64 x.im, .string x.s, .int .i64 x.n]] w fun e w' => e = .returned (.string (F j)) ∧ Below w.heap.size w w') := hT
  have HW : Hid (∀ w, AsmLies w → Calls Tryd.prog 46 #[.agg #[.int .i64 x.k, .int .i64 x.op, .int .i64 x.rd, .int .i64 x.r1, .int .i64 x.r2, .int .i64 x.im, .string x.s, .int .i64 x.n]] w fun e w' => e = .returned (.string Wd) ∧ Below w.heap.size w w') := hW
  clear h hO hT hW
  go_enter Tryd.func23, Tryd.ntmps23
  go_wp2_with (go_at_call 44; refine (HO.out _ (HL.out.below (below_then (below_alloc2 _ _) (below_alloc2 w _)))).mono ?_; rintro e u1 ⟨oa, ocap, rfl, hl, d1⟩)
  have HX : Hid (u1.heap[w.heap.size]? = some (.cells #[.int .i64 x.k, .int .i64 x.op, .int .i64 x.rd, .int .i64 x.r1, .int .i64 x.r2, .int .i64 x.im, .string x.s, .int .i64 x.n] 46) ∧ Below w.heap.size w u1) := ⟨keep_row d1 (keep_row (below_alloc2 _ _) (heap_alloc_new w _)), below_then d1 (below_then (below_alloc2 _ _) (below_alloc2 w _))⟩
  have HE : Hid (u1.ownsRow (w.heap.size + 1) 9 1 (.slice (some ⟨w.heap.size + 1, 0, none⟩) 0 0) 0 (txs F 0)) := by
    have e1 : (w.alloc (.cells #[.int .i64 x.k, .int .i64 x.op, .int .i64 x.rd, .int .i64 x.r1, .int .i64 x.r2, .int .i64 x.im, .string x.s, .int .i64 x.n] 46)).heap.size = w.heap.size + 1 := by simp
    have := World.ownsRow_lit (w.alloc (.cells #[.int .i64 x.k, .int .i64 x.op, .int .i64 x.rd, .int .i64 x.r1, .int .i64 x.r2, .int .i64 x.im, .string x.s, .int .i64 x.n] 46)) #[] 0 (base := w.heap.size + 1) (e := 9) (size := 1) (by rw [e1]; exact Nat.le_refl _) (Nat.zero_le _) rfl
    rw [e1] at this
    exact ow_keep' this d1
  have HS : Hid (Lst u1 oa os) := hl
  have hsz : w.heap.size + 1 ≤ u1.heap.size := by have := d1.size; simp at this; omega
  clear hl d1
  have hml : (os.length : Int) ≤ 3 := by omega
  go_loopw [3, 17] (fun v i wr => ∃ k : Nat, k ≤ os.length ∧ i = .int .i64 k ∧ wr.ownsRow (w.heap.size + 1) 9 1 v k (txs F k) ∧ Lst wr oa os ∧ Below (w.heap.size + 1) u1 wr) (fun _ i _ => os.length - (intOf i).toNat)
  case atStart => exact ⟨0, Nat.zero_le _, rfl, HE.out, HS.out, Below.refl _ _⟩
  case round =>
    obtain ⟨k, hkk, rfl, hown, hls, hbel⟩ := hrel
    have HR : Hid (wr.ownsRow (w.heap.size + 1) 9 1 _ k (txs F k)) := hown
    have HQ : Hid (Lst wr oa os) := hls
    have HB : Hid (Below (w.heap.size + 1) u1 wr) := hbel
    clear hown hls hbel HE HS
    have HY : Hid (wr.heap[w.heap.size]? = some (.cells #[.int .i64 x.k, .int .i64 x.op, .int .i64 x.rd, .int .i64 x.r1, .int .i64 x.r2, .int .i64 x.im, .string x.s, .int .i64 x.n] 46) ∧ Below w.heap.size w wr) := ⟨(HB.out.block _ (Nat.lt_succ_self _)).trans HX.out.1, HX.out.2.trans (HB.out.mono (Nat.le_succ _))⟩
    have c0 : wr.cell? ⟨w.heap.size, 0, none⟩ = some (.int .i64 x.k) := cell_of_row wr _ 0 _ 46 (0, 0) HY.out.1
    have c1 : wr.cell? ⟨w.heap.size, 1, none⟩ = some (.int .i64 x.op) := cell_of_row wr _ 1 _ 46 (0, 0) HY.out.1
    have c2 : wr.cell? ⟨w.heap.size, 2, none⟩ = some (.int .i64 x.rd) := cell_of_row wr _ 2 _ 46 (0, 0) HY.out.1
    have c3 : wr.cell? ⟨w.heap.size, 3, none⟩ = some (.int .i64 x.r1) := cell_of_row wr _ 3 _ 46 (0, 0) HY.out.1
    have c4 : wr.cell? ⟨w.heap.size, 4, none⟩ = some (.int .i64 x.r2) := cell_of_row wr _ 4 _ 46 (0, 0) HY.out.1
    have c5 : wr.cell? ⟨w.heap.size, 5, none⟩ = some (.int .i64 x.im) := cell_of_row wr _ 5 _ 46 (0, 0) HY.out.1
    have c6 : wr.cell? ⟨w.heap.size, 6, none⟩ = some (.string x.s) := cell_of_row wr _ 6 _ 46 (0, 0) HY.out.1
    have c7 : wr.cell? ⟨w.heap.size, 7, none⟩ = some (.int .i64 x.n) := cell_of_row wr _ 7 _ 46 (0, 0) HY.out.1
    by_cases hlt : k < os.length
    · have hi' : (k : Int) < (os.length : Int) := by omega
      obtain ⟨g, rfl, hg⟩ : ∃ g, oa = some ⟨g, 0, none⟩ ∧ wr.heap[g]? = some (.cells (Pl.ops os) 68 (0, 0)) := by
        rcases HQ.out with e | e
        · rw [e] at hlt; simp at hlt
        · exact e
      have hc : wr.cell? ⟨g, k, none⟩ = some (.int .i64 os[k]) := (cell_of_row wr g k _ 68 (0, 0) hg).trans (Pl.ops_at os k hlt)
      have HG : Hid (wr.heap[g]? = some (.cells (Pl.ops os) 68 (0, 0))) := hg
      clear hg
      go_wp2_with (first | (go_at_call 45; refine (HT.out k hlt _ (HL.out.below HY.out.2)).mono ?_; rintro e u2 ⟨rfl, d2⟩) | (at_builtin; refine wpList_append_own _ rfl (.tmp 21) (.tmp 25) 58 rfl (w.heap.size + 1) 9 i0 (.string ⟨#[]⟩) 1 16 Tryd.underlying58 hi hz0 hz1 hz2 rfl (by decide) _ _ _ rfl (ow_keep' HR.out (below_then (below_alloc2 u2 _) d2)) ⟨u2.heap.size, 0, none⟩ 1 _ [.string (F k)] rfl rfl (str_cell u2 (F k)) (by intro u hu; simp at hu; subst hu; rfl) (by unfold maxLen; omega) (by omega) (by have := d2.size; have := HB.out.size; simp; omega) ?_; intro v' u3 hown' hgr _))
      have D2 : Below wr.heap.size wr (u2.alloc (.cells #[.string (F k)] 9)) := below_then (below_alloc2 u2 _) d2
      have hU := keep_row D2 HG.out
      have hR := ow_keep' HR.out D2
      have hw1 : w.heap.size + 1 ≤ wr.heap.size := Nat.le_trans hsz HB.out.size
      refine ⟨⟨k + 1, by omega, by go_num, ?_, .inr ⟨g, rfl, ?_⟩, ?_⟩, by simp [intOf]; omega⟩
      · rw [txs_succ]; exact hown'
      · rw [hgr.block g (Array.getElem?_eq_some_iff.1 hU).1 ?_]
        · exact hU
        · intro e
          obtain ⟨c, fz, hc9⟩ := Lib.ownsRow_kind hR g e.symm
          rw [hU] at hc9
          simp at hc9
      · exact (HB.out.trans (D2.mono hw1)).grown hgr (Nat.le_trans hw1 D2.size) (fun j hj => (hR.lt j hj).1)
    · have hi' : ¬ (k : Int) < (os.length : Int) := by omega
      obtain rfl : os.length = k := by omega
      have g1 : ¬ 9223372036854775807 < 2 + Wd.size := by omega
      have g2 : ¬ 9223372036854775807 < 2 + Wd.size + 1 := by omega
      by_cases hm0 : os.length = 0
      · rcases Joins.ownsRow_forms HR.out with ⟨rfl, _⟩ | ⟨g, cap, rfl⟩
        · go_wp2_with (go_at_call 46; refine (HW.out _ (HL.out.below HY.out.2)).mono ?_; rintro e u2 ⟨rfl, d2⟩)
          go_ret
          exact ⟨rets (Pl.asm_zero Wd F hm0).symm, below_then d2 HY.out.2⟩
        · have hz : (os.length : Int) = 0 := by omega
          go_wp2_with (go_at_call 46; refine (HW.out _ (HL.out.below HY.out.2)).mono ?_; rintro e u2 ⟨rfl, d2⟩)
          go_ret
          exact ⟨rets (Pl.asm_zero Wd F hm0).symm, below_then d2 HY.out.2⟩
      · rcases HR.out.2 with ⟨h0, h1⟩ | ⟨g, cap, cur, h0, hlo, hg, hnc, hcm, hcs, htake⟩
        · exact absurd h1 hm0
        · subst h0
          have hpos : (0 : Int) < (os.length : Int) := by omega
          have HJ : Hid (∀ u : World, Below wr.heap.size wr u → Calls Tryd.prog 47 #[.slice (some ⟨g, 0, none⟩) os.length cap, .string ⟨#[44, 32]⟩] u fun e w' => e = .returned (.string (Pl.jn os.length F)) ∧ Below u.heap.size u w') := fun u hu => by
            have hjl : ((List.range os.length).map F).length = os.length := by simp
            have key := Tryd.strings_Join g 0 cap ((List.range os.length).map F) ⟨#[44, 32]⟩ u (fun j y hj => by
              have hcell := (ow_keep' HR.out hu).cells (g := g) rfl j (.string y) (by
                have hj2 : j < os.length := by have := (List.getElem?_eq_some_iff.1 hj).1; simpa using this
                simp [hj2] at hj
                simp [txs, hj2, hj])
              rw [show (⟨g, 0, none⟩ : Addr).add j = ⟨g, 0 + j, none⟩ by simp [Addr.add]; omega] at hcell; exact hcell) ((Array.getElem?_eq_some_iff.1 (keep_row hu hg)).1) (by rw [hjl]; omega) (by rw [hjl]; exact hnc) (by
                have : (Pl.jn os.length F).size = (Lib.join (((List.range os.length).map F).map (·.data.toList)) (⟨#[44, 32]⟩ : ByteArray).data.toList).length := by simp [Pl.jn, ByteArray.size]
                omega)
            rw [hjl] at key
            exact key
          clear hg hcs htake hcm hnc
          obtain ⟨J, hJJ⟩ : ∃ J, J = Pl.jn os.length F := ⟨_, rfl⟩
          rw [← hJJ] at HJ hJ
          have HJJ : Hid (J = Pl.jn os.length F) := hJJ
          clear hJJ
          have g3 : ¬ 9223372036854775807 < 1 + J.size := by omega
          have g4 : ¬ 9223372036854775807 < 2 + Wd.size + (1 + J.size) := by omega
          have g5 : ¬ 9223372036854775807 < 2 + Wd.size + (1 + J.size) + 1 := by omega
          go_wp2_with (first | (go_at_call 46; refine (HW.out _ (HL.out.below HY.out.2)).mono ?_; rintro e u2 ⟨rfl, d2⟩) | (go_at_call 47; refine (HJ.out _ d2).mono ?_; rintro e u3 ⟨rfl, d3⟩))
          go_ret
          exact ⟨rets (by rw [Pl.asm_pos Wd F hm0, ← HJJ.out]), below_then d3 (below_then d2 HY.out.2)⟩
end Go.Proofs.YtgpmplcamdophaaDoor.W
