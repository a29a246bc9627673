import Derived.Test.YtdplfflkmphpbaaGreatDoorP18
set_option linter.unusedVariables false
set_option linter.unusedSimpArgs false
namespace Go.Proofs.YtdplfflkmphpbaaGreatDoor.W
open Go.RowKit
theorem grown_trans {a b c : World} {row : Option Nat} (h : a.grownBy b row) (k : b.grownBy c row) : a.grownBy c row := ⟨k.os.trans h.os, k.tape.trans h.tape, k.output.trans h.output, Nat.le_trans h.size k.size, fun x hx hr => (k.block x (Nat.lt_of_lt_of_le hx h.size) hr).trans (h.block x hx hr)⟩
theorem grown_below {a b : World} {row : Option Nat} (h : Below a.heap.size a b) : a.grownBy b row := ⟨h.os, h.tape, h.output, h.size, fun x hx _ => h.block x hx⟩
set_option maxRecDepth 4000 in
set_option maxHeartbeats 4000000 in
theorem markTokenS_any {lo : Nat} (a : Option Addr) (len cap : Nat) (ts : List Pl.Tk) (k : Int) (w : World) (h : w.ownsRow lo 34 5 (.slice a len cap) len (Pl.Tk.all ts)) (hk : 1 ≤ k ∧ k + 5 * len ≤ 1000000000) :
    Calls Tryz.prog 13 #[.slice a len cap, .int .i64 k] w fun e w' => e = .returned (.int .i64 (k + 5 * len)) ∧ w.grownBy w' (Value.slice a len cap).ownBlock ∧ ∃ ts', ts'.length = len ∧ (∀ i, i < len → ts'[i]? = some (Pl.mkTk k i)) ∧ w'.ownsRow lo 34 5 (.slice a len cap) len (Pl.Tk.all ts') := by
  have hm : (len : Int) ≤ 9223372036854775807 := by have := (tok_len h).2; omega
  have HR : Hid (w.ownsRow lo 34 5 (.slice a len cap) len (Pl.Tk.all ts)) := h
  clear h
  go_enter Tryz.func13, Tryz.ntmps13
  go_wp2_with fail
  go_loopw [1, 5] (fun x i wr => ∃ (j : Nat) (n : Int), j ≤ len ∧ i = .int .i64 j ∧ x = .int .i64 n ∧ n = k + 5 * j ∧ w.grownBy wr (Value.slice a len cap).ownBlock ∧ ∃ ts', ts'.length = len ∧ (∀ i, i < j → ts'[i]? = some (Pl.mkTk k i)) ∧ wr.ownsRow lo 34 5 (.slice a len cap) len (Pl.Tk.all ts')) (fun _ i _ => len - (intOf i).toNat)
  case atStart => exact ⟨0, k, Nat.zero_le _, rfl, rfl, by omega, World.grownBy.refl _ _, ts, (tok_len HR.out).1, fun i hi => absurd hi (Nat.not_lt_zero _), HR.out⟩
  case round =>
    obtain ⟨j, n, hj, rfl, rfl, hn, hg, ts', hl, ha, ho⟩ := hrel
    have HG : Hid (w.grownBy wr (Value.slice a len cap).ownBlock) := hg
    have HA : Hid (∀ i, i < j → ts'[i]? = some (Pl.mkTk k i)) := ha
    have HO : Hid (wr.ownsRow lo 34 5 (.slice a len cap) len (Pl.Tk.all ts')) := ho
    have HL : Hid (ts'.length = len) := hl
    have HN : Hid (n = k + 5 * j) := hn
    have hn1 : 1 ≤ n := by omega
    have hn2 : n ≤ 1000000000 := by omega
    clear hg ha ho hl hn HR
    by_cases hlt : j < len
    · have hi : (j : Int) < (len : Int) := by omega
      obtain ⟨g, rfl, hlo, hg1, x, hx, c0, c1, c2, c3, c4⟩ := tok_at HO.out hlt
      clear hx
      have hfz : ∀ i, wr.frozen? ⟨g, i, none⟩ = false := fun i => HO.out.frozenAt i
      have S1 : Hid ((wr.setCell ⟨g, j * 5, none⟩ (.int .i64 n)).ownsRow lo 34 5 (.slice (some ⟨g, 0, none⟩) len cap) len ((Pl.Tk.all ts').set (j * 5) (.int .i64 n))) := (HO.out.stored (j * 5) (.int .i64 n)).1
      have hw1 : n + 1 ≤ 1000000001 := by omega
      have k1 : (wr.setCell ⟨g, j * 5, none⟩ (.int .i64 n)).cell? ⟨g, j * 5 + 1, none⟩ = some (.string x.S) := (World.cell?_setCell_other _ _ _ _ (by intro e; simp at e)).trans c1
      have k2 : (wr.setCell ⟨g, j * 5, none⟩ (.int .i64 n)).cell? ⟨g, j * 5 + 2, none⟩ = some (.int .i64 x.N) := (World.cell?_setCell_other _ _ _ _ (by intro e; simp at e)).trans c2
      have k3 : (wr.setCell ⟨g, j * 5, none⟩ (.int .i64 n)).cell? ⟨g, j * 5 + 3, none⟩ = some (.int .i64 x.l) := (World.cell?_setCell_other _ _ _ _ (by intro e; simp at e)).trans c3
      have k4 : (wr.setCell ⟨g, j * 5, none⟩ (.int .i64 n)).cell? ⟨g, j * 5 + 4, none⟩ = some (.int .i64 x.c) := (World.cell?_setCell_other _ _ _ _ (by intro e; simp at e)).trans c4
      have hz1 : (wr.setCell ⟨g, j * 5, none⟩ (.int .i64 n)).heap.size = wr.heap.size := by simp
      go_wp2_with (go_at_call 29; refine (markText_is _ ⟨by omega, by omega⟩ _).mono ?_; rintro e u1 ⟨rfl, d1⟩; have b1 := (d1.cell (p := ⟨g, j * 5 + 1, none⟩) (by show g < _; rw [hz1]; exact hg1)).trans k1; have b2 := (d1.cell (p := ⟨g, j * 5 + 2, none⟩) (by show g < _; rw [hz1]; exact hg1)).trans k2; have b3 := (d1.cell (p := ⟨g, j * 5 + 3, none⟩) (by show g < _; rw [hz1]; exact hg1)).trans k3; have b4 := (d1.cell (p := ⟨g, j * 5 + 4, none⟩) (by show g < _; rw [hz1]; exact hg1)).trans k4; have HU : Hid (u1.ownsRow lo 34 5 (.slice (some ⟨g, 0, none⟩) len cap) len ((Pl.Tk.all ts').set (j * 5) (.int .i64 n))) := own_keep S1.out d1; have fu : ∀ i, u1.frozen? ⟨g, i, none⟩ = false := fun i => HU.out.frozenAt i; have D1 : Hid (Below (wr.setCell ⟨g, j * 5, none⟩ (.int .i64 n)).heap.size (wr.setCell ⟨g, j * 5, none⟩ (.int .i64 n)) u1) := d1; clear d1 k1 k2 k3 k4 hfz c0 c1 c2 c3 c4)
      go_roundw
      case rel =>
        have s1 := HU.out.stored (j * 5 + 1) (.string (Pl.mText (n + 1)))
        have s2 := s1.1.stored (j * 5 + 2) (.int .i64 (n + 1 + 1))
        have s3 := s2.1.stored (j * 5 + 3) (.int .i64 (n + 1 + 1 + 1))
        have s4 := s3.1.stored (j * 5 + 4) (.int .i64 (n + 1 + 1 + 1 + 1))
        refine ⟨j + 1, n + 1 + 1 + 1 + 1 + 1, by omega, by go_num, rfl, by have := HN.out; omega, ?_, ts'.set j ⟨n, Pl.mText (n + 1), n + 1 + 1, n + 1 + 1 + 1, n + 1 + 1 + 1 + 1⟩, by simpa using HL.out, ?_, ?_⟩
        · exact grown_trans HG.out (grown_trans (HO.out.stored (j * 5) (.int .i64 n)).2 (grown_trans (grown_below D1.out) (grown_trans s1.2 (grown_trans s2.2 (grown_trans s3.2 s4.2)))))
        · intro i hi'
          rw [List.getElem?_set]
          by_cases q : j = i
          · subst q
            rw [if_pos rfl, if_pos (by have := HL.out; omega), HN.out]
            rfl
          · rw [if_neg q]
            exact HA.out i (by omega)
        · rw [← Pl.Tk.all_set ts' j ⟨n, Pl.mText (n + 1), n + 1 + 1, n + 1 + 1 + 1, n + 1 + 1 + 1 + 1⟩ (by have := HL.out; omega)]
          exact s4.1
      case measure => simp [intOf]; omega
    · have hje : j = len := by omega
      subst hje
      go_wp2
      go_ret
      exact ⟨by rw [HN.out]; rfl, HG.out, ts', HL.out, HA.out, HO.out⟩
end Go.Proofs.YtdplfflkmphpbaaGreatDoor.W
namespace Go.Proofs.YtdplfflkmphpbaaGreatDoor.W
open Go.RowKit
set_option maxRecDepth 4000 in
set_option maxHeartbeats 4000000 in
theorem heldTokenS_any {lo : Nat} (a : Option Addr) (len cap : Nat) (ts : List Pl.Tk) (k : Int) (w : World) (h : w.ownsRow lo 34 5 (.slice a len cap) len (Pl.Tk.all ts)) (ht : ∀ i, i < len → ts[i]? = some (Pl.mkTk k i)) (hk : 1 ≤ k ∧ k + 5 * len ≤ 1000000000) :
    Calls Tryz.prog 14 #[.slice a len cap, .int .i64 k] w fun e w' => e = .returned (.int .i64 (k + 5 * len)) ∧ Below w.heap.size w w' := by
  have hm : (len : Int) ≤ 9223372036854775807 := by have := (tok_len h).2; omega
  have HR : Hid (w.ownsRow lo 34 5 (.slice a len cap) len (Pl.Tk.all ts)) := h
  have HT : Hid (∀ i, i < len → ts[i]? = some (Pl.mkTk k i)) := ht
  clear h ht
  go_enter Tryz.func14, Tryz.ntmps14
  go_wp2_with fail
  go_loopw [1, 5] (fun x i wr => ∃ (j : Nat) (n : Int), j ≤ len ∧ i = .int .i64 j ∧ x = .int .i64 n ∧ n = k + 5 * j ∧ Below w.heap.size w wr) (fun _ i _ => len - (intOf i).toNat)
  case atStart => exact ⟨0, k, Nat.zero_le _, rfl, rfl, by omega, Below.refl _ _⟩
  case round =>
    obtain ⟨j, n, hj, rfl, rfl, hn, hbel⟩ := hrel
    have HB : Hid (Below w.heap.size w wr) := hbel
    have HN : Hid (n = k + 5 * j) := hn
    have hn1 : 1 ≤ n := by omega
    have hn2 : n ≤ 1000000000 := by omega
    clear hbel hn
    by_cases hlt : j < len
    · have hi : (j : Int) < (len : Int) := by omega
      obtain ⟨g, rfl, hlo, hg1, x, hx, c0, c1, c2, c3, c4⟩ := tok_at (own_keep HR.out HB.out) hlt
      obtain rfl : x = ⟨n, Pl.mText (n + 1), n + 1 + 1, n + 1 + 1 + 1, n + 1 + 1 + 1 + 1⟩ := by
        rw [hx, List.getD_eq_getElem?_getD, HT.out j hlt, HN.out]
        rfl
      clear hx
      dsimp only at c0 c1 c2 c3 c4
      go_wp2_with fail
      go_region_with (go_at_call 29; refine (markText_is _ ⟨by omega, by omega⟩ _).mono ?_; rintro e u1 ⟨rfl, d1⟩; have b1 : u1.cell? ⟨g, j * 5 + 1, none⟩ = some (.string (Pl.mText (n + 1))) := (d1.cell (p := ⟨g, j * 5 + 1, none⟩) (by exact hg1)).trans c1)
      all_goals
        have B1 : Hid (Below w.heap.size w u1) := Below.trans (by repeat (first | with_reducible exact HB.out | refine Below.drew ?_ | refine below_drewN ?_ _)) (d1.mono HB.out.size)
        have b2 : u1.cell? ⟨g, j * 5 + 2, none⟩ = some (.int .i64 (n + 1 + 1)) := (d1.cell (p := ⟨g, j * 5 + 2, none⟩) (by exact hg1)).trans c2
        have b3 : u1.cell? ⟨g, j * 5 + 3, none⟩ = some (.int .i64 (n + 1 + 1 + 1)) := (d1.cell (p := ⟨g, j * 5 + 3, none⟩) (by exact hg1)).trans c3
        have b4 : u1.cell? ⟨g, j * 5 + 4, none⟩ = some (.int .i64 (n + 1 + 1 + 1 + 1)) := (d1.cell (p := ⟨g, j * 5 + 4, none⟩) (by exact hg1)).trans c4
        clear d1 c0 c1 c2 c3 c4
        go_wp2_with fail
        go_roundw
        case rel => exact ⟨j + 1, n + 1 + 1 + 1 + 1 + 1, by omega, by go_num, rfl, by have := HN.out; omega, B1.out⟩
        case measure => simp [intOf]; omega
    · have hje : j = len := by omega
      subst hje
      go_wp2
      go_ret
      exact ⟨by rw [HN.out]; rfl, HB.out⟩
end Go.Proofs.YtdplfflkmphpbaaGreatDoor.W
