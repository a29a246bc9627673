import Derived.Test.YtjdfffdeljgenaaGreatDoorS04
import Derived.Test.YtjdfffdeljgenaaGreatDoorS32
import Derived.Laws.MakeOwn
import Derived.Laws.OwnMore
set_option linter.unusedVariables false
set_option linter.unusedSimpArgs false
namespace Go.Proofs.YtjdfffdeljgenaaGreatDoor.W
open Go.RowKit
theorem wp_at2 {P : Program} {code : Code} {Q : Exit → Act → World → Prop} {a : Act} {W : World} (h : ∀ U, U = W → code.wp P Q a U) : code.wp P Q a W := h W rfl
theorem MOwn.weak {lo lo' : Nat} {w : World} {v : MV} {m : Pl.Mac} (h : MOwn lo w v m) (hl : lo' ≤ lo) : MOwn lo' w v m := ⟨h.1.weak hl, h.2.1.weak hl, h.2.2.1.weak hl, h.2.2.2.1.weak hl, h.2.2.2.2.1.weak hl, h.2.2.2.2.2.weak hl⟩
theorem Own.setRow2 {k : IntKind} {e : TypeId} {lo b : Nat} {w : World} {a : Option Addr} {len cap : Nat} {zs : List Int} (h : Own k e lo w a len cap zs) (hb : b < lo) (cs : Array Value) : Own k e lo (w.setRow b cs) a len cap zs := by
  obtain ⟨hown, hwf⟩ := h
  refine ⟨⟨hown.1, ?_⟩, hwf⟩
  rcases hown.2 with h0 | ⟨g, cap', cur, h0, hlo, hg, hr⟩
  · exact .inl h0
  · exact .inr ⟨g, cap', cur, h0, hlo, (setRow_other w b g cs (by omega)).trans hg, hr⟩
theorem MOwn.setRow2 {lo b : Nat} {w : World} {v : MV} {m : Pl.Mac} (h : MOwn lo w v m) (hb : b < lo) (cs : Array Value) : MOwn lo (w.setRow b cs) v m := ⟨h.1.setRow2 hb cs, h.2.1.setRow2 hb cs, h.2.2.1.setRow2 hb cs, h.2.2.2.1.setRow2 hb cs, h.2.2.2.2.1.setRow2 hb cs, h.2.2.2.2.2.setRow2 hb cs⟩
theorem keepA {b : Nat} {cs : Array Value} {u : World} (h : (∀ j, u.cell? ⟨b, j, none⟩ = cs[j]?) ∧ b < u.heap.size) (o : Obj) : (∀ j, (u.alloc o).cell? ⟨b, j, none⟩ = cs[j]?) ∧ b < (u.alloc o).heap.size :=
  ⟨fun j => (((Below.refl u.heap.size u).alloc (Nat.le_refl _) o).cell (p := ⟨b, j, none⟩) h.2).trans (h.1 j), by simp; exact Nat.lt_succ_of_lt h.2⟩
set_option maxHeartbeats 4000000 in
theorem specStart_yes {lo lo2 : Nat} (v : IV) (m : Pl.Img) (a : Option Addr) (len cap : Nat) (inp : List Int) (w : World) (h : IOwn lo w v m) (hin : Own .u8 5 lo2 w a len cap inp) (he : -9223372036854775808 ≤ m.entry ∧ m.entry ≤ 9223372036854775807) (hyes : (Pl.iOk m && decide (len ≤ 10000)) = true) :
    Calls Tryz.prog 50 #[.agg #[.slice v.code.a v.code.len v.code.cap, .slice v.data.a v.data.len v.data.cap, .int .i64 m.entry, .int .i64 m.size], .slice a len cap] w fun e w' => ∃ v1 : MV, e = .returned (.tuple #[.agg #[.slice v1.code.a v1.code.len v1.code.cap, .int .i64 m.entry, .slice v1.regs.a v1.regs.len v1.regs.cap, .slice v1.data.a v1.data.len v1.data.cap, .slice v1.stk.a v1.stk.len v1.stk.cap, .slice v1.inp.a v1.inp.len v1.inp.cap, .slice v1.out.a v1.out.len v1.out.cap, .int .i64 0, .int .i64 0, .int .i64 0], .bool true]) ∧ MOwn w.heap.size w' v1 (Pl.mStart m inp) ∧ Below w.heap.size w w' := by
  have HI : Hid (IOwn lo w v m) := h
  have HN : Hid (Own .u8 5 lo2 w a len cap inp) := hin
  clear h hin
  go_enter Tryz.func50, Tryz.ntmps50
  go_wp2_with fail
  refine calls_at fun u0 hu0 => ?_
  have Q0 : u0.heap[w.heap.size]? = some (.cells #[.slice v.code.a v.code.len v.code.cap, .slice v.data.a v.data.len v.data.cap, .int .i64 m.entry, .int .i64 m.size] 70) := by rw [hu0, Below.heap_alloc _ _ _ (by simp)]; exact heap_alloc_new w _
  have X0 : u0.heap[w.heap.size + 1]? = some (.cells #[.slice none 0 0, .int .i64 0, .slice none 0 0, .slice none 0 0, .slice none 0 0, .slice none 0 0, .slice none 0 0, .int .i64 0, .int .i64 0, .int .i64 0] 25) := by rw [hu0]; exact heap_alloc_at3 _ _ _ (by simp)
  have B0 : Below w.heap.size w u0 := by rw [hu0]; exact ((Below.refl _ _).alloc (Nat.le_refl _) _).alloc (by simp) _
  have Z0 : w.heap.size + 1 < u0.heap.size := by rw [hu0]; simp
  clear hu0
  refine (specImageOk_any v m u0 (HI.out.keep B0).is he).mono ?_
  rintro e u1 ⟨rfl, d1⟩
  have Q1 : Hid (u1.heap[w.heap.size]? = some (.cells #[.slice v.code.a v.code.len v.code.cap, .slice v.data.a v.data.len v.data.cap, .int .i64 m.entry, .int .i64 m.size] 70)) := (d1.block _ (by omega)).trans Q0
  have X1 : Hid (u1.heap[w.heap.size + 1]? = some (.cells #[.slice none 0 0, .int .i64 0, .slice none 0 0, .slice none 0 0, .slice none 0 0, .slice none 0 0, .slice none 0 0, .int .i64 0, .int .i64 0, .int .i64 0] 25)) := (d1.block _ Z0).trans X0
  have B1 : Hid (Below w.heap.size w u1) := B0.trans (d1.mono (by omega))
  have Z1 : Hid (w.heap.size + 1 < u1.heap.size) := Nat.lt_of_lt_of_le Z0 d1.size
  clear d1 Q0 X0 B0 Z0
  have hk : Pl.iOk m = true ∧ len ≤ 10000 := by rw [Bool.and_eq_true, decide_eq_true_eq] at hyes; exact hyes
  have hlen : (len : Int) ≤ 10000 := by omega
  have hsk : 0 ≤ m.size ∧ m.size ≤ 65536 := by
    have := hk.1
    unfold Pl.iOk Pl.skOk at this
    simp only [Bool.and_eq_true, decide_eq_true_eq] at this
    omega
  have hcd : m.code.length ≤ 16384 ∧ m.data.length ≤ 65536 := by
    have := hk.1
    unfold Pl.iOk Pl.cdOk at this
    simp only [Bool.and_eq_true, decide_eq_true_eq] at this
    omega
  have HCD : Hid (m.code.length ≤ 16384 ∧ m.data.length ≤ 65536) := hcd
  clear hcd
  rw [hk.1]
  have HL : Hid (len ≤ 10000) := hk.2
  clear hyes hk
  obtain ⟨i3, hi3, hz3, hz31, hz32⟩ := info_parts Tryz.infoi64
  obtain ⟨i5, hi5, hz5, hz51, hz52⟩ := info_parts Tryz.infou8
  have hm1 : ∀ u : World, (Instr.makeSlice 23 (.int .i64 32) (.int .i64 32)).run Tryz.prog u = .ok (.slice (some ⟨u.heap.size, 0, none⟩) 32 32) (u.alloc (.cells (madeCells (Value.int .i64 0).cells 32) 3)) := fun u => by
    have := run_makeSlice u 23 3 i3 _ Tryz.underlying23 hi3 hz3 .i64 .i64 32 32 (by decide) (by decide) (by rw [hz31]; decide) (by rw [hz32]; decide) (by decide)
    rw [hz31] at this
    exact this
  have hm2 : ∀ u : World, (Instr.makeSlice 22 (.int .i64 m.size) (.int .i64 m.size)).run Tryz.prog u = .ok (.slice (some ⟨u.heap.size, 0, none⟩) m.size.toNat m.size.toNat) (u.alloc (.cells (madeCells (Value.int .u8 0).cells m.size.toNat) 5)) := fun u => by
    have := run_makeSlice u 22 5 i5 _ Tryz.underlying22 hi5 hz5 .i64 .i64 m.size m.size (by omega) (by omega) (by rw [hz51]; omega) (by rw [hz52]; omega) (by omega)
    rw [hz51, Nat.mul_one] at this
    exact this
  have HSK : Hid (0 ≤ m.size ∧ m.size ≤ 65536) := hsk
  clear hi3 hz3 hz31 hz32 hi5 hz5 hz51 hz52 hsk
  go_upto_region 3 with fail
  have hS0 : (∀ j, u1.cell? ⟨w.heap.size, j, none⟩ = (#[.slice v.code.a v.code.len v.code.cap, .slice v.data.a v.data.len v.data.cap, .int .i64 m.entry, .int .i64 m.size] : Array Value)[j]?) ∧ w.heap.size < u1.heap.size := ⟨fun j => cell_of_row u1 w.heap.size j _ 70 (0, 0) Q1.out, by have := Z1.out; omega⟩
  go_cut [6] from 16 to 27 (fun s6 wx => ∃ g rb sb : Nat, s6 = .pointer (some ⟨g, 0, none⟩) ∧ wx.heap[g]? = some (.cells #[.slice v.code.a v.code.len v.code.cap, .int .i64 m.entry, .slice (some ⟨rb, 0, none⟩) 32 32, .slice v.data.a v.data.len v.data.cap, .slice (some ⟨sb, 0, none⟩) m.size.toNat m.size.toNat, .slice a len cap, .slice none 0 0, .int .i64 0, .int .i64 0, .int .i64 0] 25) ∧ wx.heap[rb]? = some (.cells (madeCells #[Value.int .i64 0] 32) 3) ∧ wx.heap[sb]? = some (.cells (madeCells #[Value.int .u8 0] m.size.toNat) 5) ∧ (u1.heap.size ≤ g ∧ u1.heap.size ≤ rb ∧ u1.heap.size ≤ sb ∧ g ≠ rb ∧ g ≠ sb ∧ rb ≠ sb) ∧ Below u1.heap.size u1 wx)
  case first =>
    go_region_held (fun u => (∀ j, u.cell? ⟨w.heap.size, j, none⟩ = (#[.slice v.code.a v.code.len v.code.cap, .slice v.data.a v.data.len v.data.cap, .int .i64 m.entry, .int .i64 m.size] : Array Value)[j]?) ∧ w.heap.size < u.heap.size) (first | exact hS0 | exact keepA hS0 _ | exact keepA (keepA hS0 _) _ | exact keepA (keepA (keepA hS0 _) _) _) (fail)
    all_goals
      go_wp2_with fail
      go_meet
      first
        | exact ⟨_, u1.heap.size, u1.heap.size + 1, rfl, (by first | exact heap_alloc_at3 _ _ _ (by simp <;> omega) | exact (Below.heap_alloc _ _ _ (by simp <;> omega)).trans (heap_alloc_at3 _ _ _ (by simp <;> omega)) | exact (Below.heap_alloc _ _ _ (by simp <;> omega)).trans ((Below.heap_alloc _ _ _ (by simp <;> omega)).trans (heap_alloc_at3 _ _ _ (by simp <;> omega)))), (by first | exact heap_alloc_at3 _ _ _ (by simp <;> omega) | exact (Below.heap_alloc _ _ _ (by simp <;> omega)).trans (heap_alloc_at3 _ _ _ (by simp <;> omega)) | exact (Below.heap_alloc _ _ _ (by simp <;> omega)).trans ((Below.heap_alloc _ _ _ (by simp <;> omega)).trans (heap_alloc_at3 _ _ _ (by simp <;> omega)))), (by first | exact heap_alloc_at3 _ _ _ (by simp <;> omega) | exact (Below.heap_alloc _ _ _ (by simp <;> omega)).trans (heap_alloc_at3 _ _ _ (by simp <;> omega)) | exact (Below.heap_alloc _ _ _ (by simp <;> omega)).trans ((Below.heap_alloc _ _ _ (by simp <;> omega)).trans (heap_alloc_at3 _ _ _ (by simp <;> omega)))), by omega, by repeat (first | exact Below.refl _ _ | refine Below.drew ?_ | refine Below.alloc ?_ (by simp <;> omega) _)⟩
        | exact ⟨_, u1.heap.size, u1.heap.size + 1 + 1, rfl, (by first | exact heap_alloc_at3 _ _ _ (by simp <;> omega) | exact (Below.heap_alloc _ _ _ (by simp <;> omega)).trans (heap_alloc_at3 _ _ _ (by simp <;> omega)) | exact (Below.heap_alloc _ _ _ (by simp <;> omega)).trans ((Below.heap_alloc _ _ _ (by simp <;> omega)).trans (heap_alloc_at3 _ _ _ (by simp <;> omega)))), (by first | exact heap_alloc_at3 _ _ _ (by simp <;> omega) | exact (Below.heap_alloc _ _ _ (by simp <;> omega)).trans (heap_alloc_at3 _ _ _ (by simp <;> omega)) | exact (Below.heap_alloc _ _ _ (by simp <;> omega)).trans ((Below.heap_alloc _ _ _ (by simp <;> omega)).trans (heap_alloc_at3 _ _ _ (by simp <;> omega)))), (by first | exact heap_alloc_at3 _ _ _ (by simp <;> omega) | exact (Below.heap_alloc _ _ _ (by simp <;> omega)).trans (heap_alloc_at3 _ _ _ (by simp <;> omega)) | exact (Below.heap_alloc _ _ _ (by simp <;> omega)).trans ((Below.heap_alloc _ _ _ (by simp <;> omega)).trans (heap_alloc_at3 _ _ _ (by simp <;> omega)))), by omega, by repeat (first | exact Below.refl _ _ | refine Below.drew ?_ | refine Below.alloc ?_ (by simp <;> omega) _)⟩
        | exact ⟨_, u1.heap.size + 1, u1.heap.size, rfl, (by first | exact heap_alloc_at3 _ _ _ (by simp <;> omega) | exact (Below.heap_alloc _ _ _ (by simp <;> omega)).trans (heap_alloc_at3 _ _ _ (by simp <;> omega)) | exact (Below.heap_alloc _ _ _ (by simp <;> omega)).trans ((Below.heap_alloc _ _ _ (by simp <;> omega)).trans (heap_alloc_at3 _ _ _ (by simp <;> omega)))), (by first | exact heap_alloc_at3 _ _ _ (by simp <;> omega) | exact (Below.heap_alloc _ _ _ (by simp <;> omega)).trans (heap_alloc_at3 _ _ _ (by simp <;> omega)) | exact (Below.heap_alloc _ _ _ (by simp <;> omega)).trans ((Below.heap_alloc _ _ _ (by simp <;> omega)).trans (heap_alloc_at3 _ _ _ (by simp <;> omega)))), (by first | exact heap_alloc_at3 _ _ _ (by simp <;> omega) | exact (Below.heap_alloc _ _ _ (by simp <;> omega)).trans (heap_alloc_at3 _ _ _ (by simp <;> omega)) | exact (Below.heap_alloc _ _ _ (by simp <;> omega)).trans ((Below.heap_alloc _ _ _ (by simp <;> omega)).trans (heap_alloc_at3 _ _ _ (by simp <;> omega)))), by omega, by repeat (first | exact Below.refl _ _ | refine Below.drew ?_ | refine Below.alloc ?_ (by simp <;> omega) _)⟩
        | exact ⟨_, u1.heap.size + 1, u1.heap.size + 1 + 1, rfl, (by first | exact heap_alloc_at3 _ _ _ (by simp <;> omega) | exact (Below.heap_alloc _ _ _ (by simp <;> omega)).trans (heap_alloc_at3 _ _ _ (by simp <;> omega)) | exact (Below.heap_alloc _ _ _ (by simp <;> omega)).trans ((Below.heap_alloc _ _ _ (by simp <;> omega)).trans (heap_alloc_at3 _ _ _ (by simp <;> omega)))), (by first | exact heap_alloc_at3 _ _ _ (by simp <;> omega) | exact (Below.heap_alloc _ _ _ (by simp <;> omega)).trans (heap_alloc_at3 _ _ _ (by simp <;> omega)) | exact (Below.heap_alloc _ _ _ (by simp <;> omega)).trans ((Below.heap_alloc _ _ _ (by simp <;> omega)).trans (heap_alloc_at3 _ _ _ (by simp <;> omega)))), (by first | exact heap_alloc_at3 _ _ _ (by simp <;> omega) | exact (Below.heap_alloc _ _ _ (by simp <;> omega)).trans (heap_alloc_at3 _ _ _ (by simp <;> omega)) | exact (Below.heap_alloc _ _ _ (by simp <;> omega)).trans ((Below.heap_alloc _ _ _ (by simp <;> omega)).trans (heap_alloc_at3 _ _ _ (by simp <;> omega)))), by omega, by repeat (first | exact Below.refl _ _ | refine Below.drew ?_ | refine Below.alloc ?_ (by simp <;> omega) _)⟩
        | exact ⟨_, u1.heap.size + 1 + 1, u1.heap.size, rfl, (by first | exact heap_alloc_at3 _ _ _ (by simp <;> omega) | exact (Below.heap_alloc _ _ _ (by simp <;> omega)).trans (heap_alloc_at3 _ _ _ (by simp <;> omega)) | exact (Below.heap_alloc _ _ _ (by simp <;> omega)).trans ((Below.heap_alloc _ _ _ (by simp <;> omega)).trans (heap_alloc_at3 _ _ _ (by simp <;> omega)))), (by first | exact heap_alloc_at3 _ _ _ (by simp <;> omega) | exact (Below.heap_alloc _ _ _ (by simp <;> omega)).trans (heap_alloc_at3 _ _ _ (by simp <;> omega)) | exact (Below.heap_alloc _ _ _ (by simp <;> omega)).trans ((Below.heap_alloc _ _ _ (by simp <;> omega)).trans (heap_alloc_at3 _ _ _ (by simp <;> omega)))), (by first | exact heap_alloc_at3 _ _ _ (by simp <;> omega) | exact (Below.heap_alloc _ _ _ (by simp <;> omega)).trans (heap_alloc_at3 _ _ _ (by simp <;> omega)) | exact (Below.heap_alloc _ _ _ (by simp <;> omega)).trans ((Below.heap_alloc _ _ _ (by simp <;> omega)).trans (heap_alloc_at3 _ _ _ (by simp <;> omega)))), by omega, by repeat (first | exact Below.refl _ _ | refine Below.drew ?_ | refine Below.alloc ?_ (by simp <;> omega) _)⟩
        | exact ⟨_, u1.heap.size + 1 + 1, u1.heap.size + 1, rfl, (by first | exact heap_alloc_at3 _ _ _ (by simp <;> omega) | exact (Below.heap_alloc _ _ _ (by simp <;> omega)).trans (heap_alloc_at3 _ _ _ (by simp <;> omega)) | exact (Below.heap_alloc _ _ _ (by simp <;> omega)).trans ((Below.heap_alloc _ _ _ (by simp <;> omega)).trans (heap_alloc_at3 _ _ _ (by simp <;> omega)))), (by first | exact heap_alloc_at3 _ _ _ (by simp <;> omega) | exact (Below.heap_alloc _ _ _ (by simp <;> omega)).trans (heap_alloc_at3 _ _ _ (by simp <;> omega)) | exact (Below.heap_alloc _ _ _ (by simp <;> omega)).trans ((Below.heap_alloc _ _ _ (by simp <;> omega)).trans (heap_alloc_at3 _ _ _ (by simp <;> omega)))), (by first | exact heap_alloc_at3 _ _ _ (by simp <;> omega) | exact (Below.heap_alloc _ _ _ (by simp <;> omega)).trans (heap_alloc_at3 _ _ _ (by simp <;> omega)) | exact (Below.heap_alloc _ _ _ (by simp <;> omega)).trans ((Below.heap_alloc _ _ _ (by simp <;> omega)).trans (heap_alloc_at3 _ _ _ (by simp <;> omega)))), by omega, by repeat (first | exact Below.refl _ _ | refine Below.drew ?_ | refine Below.alloc ?_ (by simp <;> omega) _)⟩
  case rest =>
  obtain ⟨g, rb, sb, rfl, hg, hrb, hsb, hne, dc⟩ := hcut
  have B2 : Below w.heap.size w wc := B1.out.trans (dc.mono B1.out.size)
  have X2 : Hid (wc.heap[w.heap.size + 1]? = some (.cells #[.slice none 0 0, .int .i64 0, .slice none 0 0, .slice none 0 0, .slice none 0 0, .slice none 0 0, .slice none 0 0, .int .i64 0, .int .i64 0, .int .i64 0] 25)) := (dc.block _ Z1.out).trans X1.out
  obtain ⟨n1, n2, n3, n4, n5, n6⟩ := hne
  obtain ⟨y2, hy2⟩ : ∃ u : World, u = wc := ⟨wc, rfl⟩
  rw [← hy2] at hg hrb hsb dc B2 X2 ⊢
  clear hy2
  have kg : ∀ j, y2.cell? ⟨g, j, none⟩ = (#[.slice v.code.a v.code.len v.code.cap, .int .i64 m.entry, .slice (some ⟨rb, 0, none⟩) 32 32, .slice v.data.a v.data.len v.data.cap, .slice (some ⟨sb, 0, none⟩) m.size.toNat m.size.toNat, .slice a len cap, .slice none 0 0, .int .i64 0, .int .i64 0, .int .i64 0] : Array Value)[j]? := fun j => cell_of_row y2 g j _ 25 (0, 0) hg
  have kr : y2.cell? ⟨rb, 2, none⟩ = some (.int .i64 0) := by rw [cell_of_row y2 rb 2 _ 3 (0, 0) hrb]; simp [madeCells]
  have kf : y2.frozen? ⟨rb, 2, none⟩ = false := frozen_of_row y2 rb 2 _ 3 hrb
  have HG : Hid (y2.heap[g]? = some (.cells #[.slice v.code.a v.code.len v.code.cap, .int .i64 m.entry, .slice (some ⟨rb, 0, none⟩) 32 32, .slice v.data.a v.data.len v.data.cap, .slice (some ⟨sb, 0, none⟩) m.size.toNat m.size.toNat, .slice a len cap, .slice none 0 0, .int .i64 0, .int .i64 0, .int .i64 0] 25)) := hg
  have HRB : Hid (y2.heap[rb]? = some (.cells (madeCells #[Value.int .i64 0] 32) 3)) := hrb
  have HSB : Hid (y2.heap[sb]? = some (.cells (madeCells #[Value.int .u8 0] m.size.toNat) 5)) := hsb
  have HB2 : Hid (Below w.heap.size w y2) := B2
  have HDC : Hid (Below u1.heap.size u1 y2) := dc
  clear hg hrb hsb B2 dc
  go_upto_region 5 with fail
  clear kg kr kf
  refine wp_at2 fun y3 hy3 => ?_
  have hrow3 : y3.heap[rb]? = some (.cells ((madeCells #[Value.int .i64 0] 32).setIfInBounds 2 (.int .i64 2097152)) 3) := by rw [hy3]; exact heap_setCell_same y2 rb 2 _ 3 _ HRB.out
  have HG3 : Hid (y3.heap[g]? = some (.cells #[.slice v.code.a v.code.len v.code.cap, .int .i64 m.entry, .slice (some ⟨rb, 0, none⟩) 32 32, .slice v.data.a v.data.len v.data.cap, .slice (some ⟨sb, 0, none⟩) m.size.toNat m.size.toNat, .slice a len cap, .slice none 0 0, .int .i64 0, .int .i64 0, .int .i64 0] 25)) := by show y3.heap[g]? = _; rw [hy3, heap_setCell_other y2 _ g _ n4]; exact HG.out
  have HSB3 : y3.heap[sb]? = some (.cells (madeCells #[Value.int .u8 0] m.size.toNat) 5) := by rw [hy3, heap_setCell_other y2 _ sb _ (Ne.symm n6)]; exact HSB.out
  have X3 : Hid (y3.heap[w.heap.size + 1]? = some (.cells #[.slice none 0 0, .int .i64 0, .slice none 0 0, .slice none 0 0, .slice none 0 0, .slice none 0 0, .slice none 0 0, .int .i64 0, .int .i64 0, .int .i64 0] 25)) := by show y3.heap[w.heap.size + 1]? = _; rw [hy3, heap_setCell_other y2 _ _ _ (by have := Z1.out; show w.heap.size + 1 ≠ rb; omega)]; exact X2.out
  have D3 : Below u1.heap.size u1 y3 := by rw [hy3]; exact HDC.out.setCell n2 _
  have B3 : Hid (Below w.heap.size w y3) := B1.out.trans (D3.mono B1.out.size)
  have Z3 : Hid (w.heap.size + 1 < y3.heap.size) := Nat.lt_of_lt_of_le Z1.out D3.size
  have hn16 : m.size.toNat ≤ maxLen := by have := HSK.out; unfold maxLen; omega
  have O3 : Hid (MOwn 0 y3 ⟨v.code, ⟨some ⟨rb, 0, none⟩, 32, 32⟩, v.data, ⟨some ⟨sb, 0, none⟩, m.size.toNat, m.size.toNat⟩, ⟨a, len, cap⟩, ⟨none, 0, 0⟩⟩ (Pl.mStart m inp)) := by
    have hio := HI.out.keep (w' := y3) B3.out
    refine ⟨hio.1.weak (Nat.zero_le _), ?_, hio.2.weak (Nat.zero_le _), ?_, (HN.out.keep B3.out).weak (Nat.zero_le _), Own.nil _ _ _ _⟩
    · show Own .i64 3 0 y3 (some ⟨rb, 0, none⟩) 32 32 Pl.regs0
      exact own_row hrow3 (by rw [Array.toList_setIfInBounds, toList_madeCells_one]; rfl) (by decide) (by decide) (by decide) (Nat.zero_le _)
    · show Own .u8 5 0 y3 (some ⟨sb, 0, none⟩) m.size.toNat m.size.toNat (List.replicate m.size.toNat 0)
      exact own_row HSB3 (by rw [toList_madeCells_one, List.map_replicate]) (by simp) hn16 (fun x hx => by rw [List.eq_of_mem_replicate hx]; decide) (Nat.zero_le _)
  have HSZ : Hid (Pl.mSize (Pl.mStart m inp) ≤ 1048576) := by
    have h1 := HSK.out
    have h2 := HL.out
    have h3 := HN.out.row.1
    have h4 := HCD.out
    show Pl.mSize (Pl.mStart m inp) ≤ 1048576
    unfold Pl.mSize Pl.mStart Pl.regs0
    simp
    omega
  clear hy3 HG HSB HRB HB2 HDC X2 D3 hrow3 HSB3 hn16 Q1 X1 B1 hS0
  go_wp2_with (refine wpList_load_row rfl 25 _ rfl (g) ?hx 25 #[.slice v.code.a v.code.len v.code.cap, .int .i64 m.entry, .slice (some ⟨rb, 0, none⟩) 32 32, .slice v.data.a v.data.len v.data.cap, .slice (some ⟨sb, 0, none⟩) m.size.toNat m.size.toNat, .slice a len cap, .slice none 0 0, .int .i64 0, .int .i64 0, .int .i64 0] (0, 0) _ ?hg Tryz.underlying25 ?hd ?hi ?_; (case hx => rfl); (case hg => exact HG3.out); (case hd => rfl); (case hi => kernel_rfl))
  refine (l3Copy_row ⟨v.code, ⟨some ⟨rb, 0, none⟩, 32, 32⟩, v.data, ⟨some ⟨sb, 0, none⟩, m.size.toNat, m.size.toNat⟩, ⟨a, len, cap⟩, ⟨none, 0, 0⟩⟩ (Pl.mStart m inp) y3 O3.out.is HSZ.out).mono ?_
  rintro e y4 ⟨v1, rfl, o4, _, d4⟩
  have X4 : Hid (y4.heap[w.heap.size + 1]? = some (.cells #[.slice none 0 0, .int .i64 0, .slice none 0 0, .slice none 0 0, .slice none 0 0, .slice none 0 0, .slice none 0 0, .int .i64 0, .int .i64 0, .int .i64 0] 25)) := (d4.block _ Z3.out).trans X3.out
  have B4 : Hid (Below w.heap.size w y4) := B3.out.trans (d4.mono B3.out.size)
  have O4 : Hid (MOwn (w.heap.size + 2) y4 v1 (Pl.mStart m inp)) := MOwn.weak o4 (by have := Z3.out; omega)
  have Z4 : Hid (w.heap.size + 1 < y3.heap.size) := Z3.out
  clear d4 HG3 X3 B3 O3 HSZ
  go_wp2_with (refine wpList_store_row rfl 25 _ _ rfl (w.heap.size + 1) #[.slice v1.code.a v1.code.len v1.code.cap, .int .i64 m.entry, .slice v1.regs.a v1.regs.len v1.regs.cap, .slice v1.data.a v1.data.len v1.data.cap, .slice v1.stk.a v1.stk.len v1.stk.cap, .slice v1.inp.a v1.inp.len v1.inp.cap, .slice v1.out.a v1.out.len v1.out.cap, .int .i64 0, .int .i64 0, .int .i64 0] ?hx ?hy 25 #[.slice none 0 0, .int .i64 0, .slice none 0 0, .slice none 0 0, .slice none 0 0, .slice none 0 0, .slice none 0 0, .int .i64 0, .int .i64 0, .int .i64 0] ?hg ?hi ?ho ?h1 ?_; (case hx => rfl); (case hy => rfl); (case hg => exact X4.out); (case hi => kernel_rfl); (case ho => kernel_rfl); (case h1 => kernel_rfl); refine Hid.out ?_)
  unfold Hid
  go_wp2
  exact bodyPost_ret (v := .tuple #[.agg #[.slice v1.code.a v1.code.len v1.code.cap, .int .i64 m.entry, .slice v1.regs.a v1.regs.len v1.regs.cap, .slice v1.data.a v1.data.len v1.data.cap, .slice v1.stk.a v1.stk.len v1.stk.cap, .slice v1.inp.a v1.inp.len v1.inp.cap, .slice v1.out.a v1.out.len v1.out.cap, .int .i64 0, .int .i64 0, .int .i64 0], .bool true]) (results_cell_tmp2 Tryz.results50 _ _ (w.heap.size + 1) 25 #[.slice v1.code.a v1.code.len v1.code.cap, .int .i64 m.entry, .slice v1.regs.a v1.regs.len v1.regs.cap, .slice v1.data.a v1.data.len v1.data.cap, .slice v1.stk.a v1.stk.len v1.stk.cap, .slice v1.inp.a v1.inp.len v1.inp.cap, .slice v1.out.a v1.out.len v1.out.cap, .int .i64 0, .int .i64 0, .int .i64 0] (0, 0) _ _ rfl rfl (setRow_heap _ _ _ _ 25 _ X4.out) Tryz.underlying25 rfl (by kernel_rfl)) rfl ⟨v1, rfl, MOwn.weak (MOwn.setRow2 O4.out (by omega) _) (by omega), below_setRow2 B4.out (by omega) _⟩
end Go.Proofs.YtjdfffdeljgenaaGreatDoor.W
