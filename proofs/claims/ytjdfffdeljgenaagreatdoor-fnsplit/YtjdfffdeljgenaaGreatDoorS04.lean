import Derived.Test.YtjdfffdeljgenaaGreatDoorS01
import Derived.Laws.AppendOwnNone
import Derived.Lib.SliceRun
import Derived.Test.YtjdfffdeljgenaaGreatDoorS03
import Derived.Test.YtjdfffdeljgenaaGreatDoorS40
import Derived.Deep.RegionHeld
import Derived.Deep.Cut
import Derived.Deep.DeepCutAuto
import Derived.Deep.CutRange
import Derived.Laws.ResultCell
import Derived.Laws.Tables
set_option linter.unusedVariables false
set_option linter.unusedSimpArgs false
namespace Go.Proofs.YtjdfffdeljgenaaGreatDoor.W
open Go.RowKit
end Go.Proofs.YtjdfffdeljgenaaGreatDoor.W
namespace Go.Proofs.YtjdfffdeljgenaaGreatDoor.W
open Go.RowKit
theorem keep_oth {U : World} {g b i : Nat} {o : Obj} {v : Value} (h : U.heap[g]? = some o) (hg : g ≠ b) : (U.setCell ⟨b, i, none⟩ v).heap[g]? = some o := (Below.heap_setCell U ⟨b, i, none⟩ v g hg).trans h
def Span (s : SV) (lo hi : Nat) : Prop := ∀ ad, s.a = some ad → lo ≤ ad.block ∧ ad.block < hi
theorem Own.span {k : IntKind} {e : TypeId} {lo hi : Nat} {w : World} {a : Option Addr} {len cap : Nat} {zs : List Int} (h : Own k e lo w a len cap zs) (hh : w.heap.size ≤ hi) : Span ⟨a, len, cap⟩ lo hi := by
  intro ad had
  have had' : a = some ad := had
  subst had'
  have := h.1.lt ad.block rfl
  omega
def MSep (v : MV) : Prop := ∃ t0 t1 t2 t3 t4 t5 t6 : Nat, Span v.code t0 t1 ∧ Span v.regs t1 t2 ∧ Span v.data t2 t3 ∧ Span v.stk t3 t4 ∧ Span v.inp t4 t5 ∧ Span v.out t5 t6 ∧ t0 ≤ t1 ∧ t1 ≤ t2 ∧ t2 ≤ t3 ∧ t3 ≤ t4 ∧ t4 ≤ t5 ∧ t5 ≤ t6
end Go.Proofs.YtjdfffdeljgenaaGreatDoor.W
namespace Go.Proofs.YtjdfffdeljgenaaGreatDoor.W
open Go.RowKit
structure Touch (a : Option Addr) (w w' : World) : Prop where
  os : w'.os = w.os
  tape : w'.tape = w.tape
  output : w'.output = w.output
  size : w'.heap.size = w.heap.size
  block : ∀ k, (∀ ad, a = some ad → k ≠ ad.block) → w'.heap[k]? = w.heap[k]?
theorem Touch.refl (a : Option Addr) (w : World) : Touch a w w := ⟨rfl, rfl, rfl, rfl, fun _ _ => rfl⟩
theorem Touch.setCell {a : Option Addr} {w u : World} (h : Touch a w u) {g : Nat} (hp : a = some ⟨g, 0, none⟩) (x : Value) {i : Nat} : Touch a w (u.setCell ⟨g, i, none⟩ x) :=
  ⟨h.os, h.tape, h.output, by simpa using h.size, fun k hk => (Below.heap_setCell u ⟨g, i, none⟩ x k (show k ≠ g from hk ⟨g, 0, none⟩ hp)).trans (h.block k hk)⟩
end Go.Proofs.YtjdfffdeljgenaaGreatDoor.W
namespace Go.Proofs.YtjdfffdeljgenaaGreatDoor.W
open Go.RowKit
structure Outside (t0 t6 : Nat) (w w' : World) : Prop where
  os : w'.os = w.os
  tape : w'.tape = w.tape
  output : w'.output = w.output
  size : w.heap.size ≤ w'.heap.size
  block : ∀ b, b < w.heap.size → b < t0 ∨ t6 ≤ b → w'.heap[b]? = w.heap[b]?
theorem Outside.trans {t0 t6 : Nat} {a b c : World} (h : Outside t0 t6 a b) (k : Outside t0 t6 b c) : Outside t0 t6 a c :=
  ⟨k.os.trans h.os, k.tape.trans h.tape, k.output.trans h.output, Nat.le_trans h.size k.size, fun i h1 h2 => (k.block i (Nat.lt_of_lt_of_le h1 h.size) h2).trans (h.block i h1 h2)⟩
theorem Outside.of_below {t0 t6 : Nat} {a b : World} (h : Below a.heap.size a b) : Outside t0 t6 a b := ⟨h.os, h.tape, h.output, h.size, fun i h1 _ => h.block i h1⟩
theorem Outside.below {t0 t6 : Nat} {a b : World} (h : Outside t0 t6 a b) (hs : t0 ≤ a.heap.size) : Below t0 a b := ⟨h.os, h.tape, h.output, h.size, fun i hi => h.block i (by omega) (.inl hi)⟩
def MSepAt (t0 t6 : Nat) (v : MV) : Prop := ∃ t1 t2 t3 t4 t5 : Nat, Span v.code t0 t1 ∧ Span v.regs t1 t2 ∧ Span v.data t2 t3 ∧ Span v.stk t3 t4 ∧ Span v.inp t4 t5 ∧ Span v.out t5 t6 ∧ t0 ≤ t1 ∧ t1 ≤ t2 ∧ t2 ≤ t3 ∧ t3 ≤ t4 ∧ t4 ≤ t5 ∧ t5 ≤ t6
theorem MSep.at {v : MV} (h : MSep v) : ∃ t0 t6, MSepAt t0 t6 v := by
  obtain ⟨t0, t1, t2, t3, t4, t5, t6, h⟩ := h
  exact ⟨t0, t6, t1, t2, t3, t4, t5, h⟩
end Go.Proofs.YtjdfffdeljgenaaGreatDoor.W
namespace Go.Proofs.YtjdfffdeljgenaaGreatDoor.Pl
def stk_ (zs : List Int) (p : Nat) (x : Int) : Nat → List Int
  | 0 => zs
  | k + 1 => (stk_ zs p x k).set (p + k) (x / pw (8 * k) % 256)
theorem stk_length (zs : List Int) (p : Nat) (x : Int) : ∀ k, (stk_ zs p x k).length = zs.length
  | 0 => rfl
  | k + 1 => by unfold stk_; rw [List.length_set]; exact stk_length zs p x k
theorem stk_bytes {zs : List Int} (hz : ∀ n ∈ zs, 0 ≤ n ∧ n ≤ 255) (p : Nat) (x : Int) : ∀ k, ∀ n ∈ stk_ zs p x k, 0 ≤ n ∧ n ≤ 255
  | 0 => hz
  | k + 1 => by
    intro n hn
    unfold stk_ at hn
    rcases List.mem_or_eq_of_mem_set hn with h | h
    · exact stk_bytes hz p x k n h
    · subst h; omega
end Go.Proofs.YtjdfffdeljgenaaGreatDoor.Pl
namespace Go.Proofs.YtjdfffdeljgenaaGreatDoor.W
open Go.RowKit
set_option maxHeartbeats 1000000 in
theorem store_bad (da sa : Option Addr) (dl dc sl sc : Nat) (kind at_ x code : Int) (w : World)
    (HF : Hid (∀ W, Calls Tryz.prog 107 #[.agg #[.iface 78 (.slice da dl dc), .iface 79 (.slice sa sl sc)], .int .i64 kind, .int .i64 at_] W fun e w' => e = .panicked [{ v := .iface 97 (.int .i64 code), recovered := false }] ∧ Below W.heap.size W w')) :
    Calls Tryz.prog 82 #[.agg #[.iface 78 (.slice da dl dc), .iface 79 (.slice sa sl sc)], .int .i64 kind, .int .i64 at_, .int .i64 x] w fun e w' => e = .panicked [{ v := .iface 97 (.int .i64 code), recovered := false }] ∧ Below w.heap.size w w' := by
  have P0 : Hid ((w.alloc (.cells #[.iface 78 (.slice da dl dc), .iface 79 (.slice sa sl sc)] 53)).heap[w.heap.size]? = some (.cells #[.iface 78 (.slice da dl dc), .iface 79 (.slice sa sl sc)] 53)) := heap_alloc_new w _
  go_enter Tryz.func82, Tryz.ntmps82
  go_wp2_with (refine wpList_load_row rfl 53 _ rfl (w.heap.size) ?hx 53 #[.iface 78 (.slice da dl dc), .iface 79 (.slice sa sl sc)] (0, 0) _ ?hg Tryz.underlying53 ?hd ?hi ?_; (case hx => rfl); (case hg => exact P0.out); (case hd => rfl); (case hi => kernel_rfl))
  refine (HF.out _).mono ?_
  rintro e u1 ⟨rfl, d1⟩
  go_wp2_with fail
  exact ⟨rfl, rfl, (below_alloc w _).trans (d1.mono (by simp))⟩
theorem wf_u8 {n : Int} (h : 0 ≤ n ∧ n ≤ 255) : (Lit.int .u8 n).wf = true := by
  simp [Lit.wf, IntKind.min, IntKind.max, IntKind.signed, IntKind.bits]
  omega
set_option maxHeartbeats 4000000 in
theorem store_good {lo : Nat} (da sa : Option Addr) (dl dc sl sc : Nat) (kind at_ x : Int) (g p size cap c0 len : Nat) (zs : List Int) (hs : 1 ≤ size ∧ size ≤ 4) (hx : -9223372036854775808 ≤ x ∧ x ≤ 9223372036854775807) (hp : p + size ≤ len) (hcap : c0 ≤ 9223372036854775807) (w : World) (hz : ∀ n ∈ zs, 0 ≤ n ∧ n ≤ 255)
    (ho : Own .u8 5 lo w (some ⟨g, 0, none⟩) len cap zs)
    (HF : Hid (∀ W, Calls Tryz.prog 107 #[.agg #[.iface 78 (.slice da dl dc), .iface 79 (.slice sa sl sc)], .int .i64 kind, .int .i64 at_] W fun e w' => e = .returned (.slice (some ⟨g, 0 + p, none⟩) size c0) ∧ Below W.heap.size W w')) :
    Calls Tryz.prog 82 #[.agg #[.iface 78 (.slice da dl dc), .iface 79 (.slice sa sl sc)], .int .i64 kind, .int .i64 at_, .int .i64 x] w fun e w' => e = .returned (.tuple #[]) ∧ ∃ u, Below w.heap.size w u ∧ Touch (some ⟨g, 0, none⟩) u w' ∧ Own .u8 5 lo w' (some ⟨g, 0, none⟩) len cap (Pl.stk_ zs p x size) := by
  have P0 : Hid ((w.alloc (.cells #[.iface 78 (.slice da dl dc), .iface 79 (.slice sa sl sc)] 53)).heap[w.heap.size]? = some (.cells #[.iface 78 (.slice da dl dc), .iface 79 (.slice sa sl sc)] 53)) := heap_alloc_new w _
  have HO : Hid (Own .u8 5 lo w (some ⟨g, 0, none⟩) len cap zs) := ho
  have HZ : Hid (∀ n ∈ zs, 0 ≤ n ∧ n ≤ 255) := hz
  have HL : Hid (zs.length = len) := ho.row.1
  clear ho hz
  go_enter Tryz.func82, Tryz.ntmps82
  go_wp2_with (refine wpList_load_row rfl 53 _ rfl (w.heap.size) ?hx 53 #[.iface 78 (.slice da dl dc), .iface 79 (.slice sa sl sc)] (0, 0) _ ?hg Tryz.underlying53 ?hd ?hi ?_; (case hx => rfl); (case hg => exact P0.out); (case hd => rfl); (case hi => kernel_rfl))
  refine (HF.out _).mono ?_
  rintro e u1 ⟨rfl, d1⟩
  have B1 : Hid (Below w.heap.size w u1) := (below_alloc w _).trans (d1.mono (by simp))
  clear d1 P0 HF
  have HO1 : Hid (u1.ownsRow lo 5 1 (.slice (some ⟨g, 0, none⟩) len cap) len (zs.map (Value.int .u8))) := (HO.out.keep B1.out).1
  clear HO
  rw [Nat.zero_add]
  go_wp2_with fail
  go_loopw [16] (fun i wr => ∃ j : Nat, j ≤ size ∧ i = .int .i64 j ∧ wr.ownsRow lo 5 1 (.slice (some ⟨g, 0, none⟩) len cap) len ((Pl.stk_ zs p x j).map (Value.int .u8)) ∧ Touch (some ⟨g, 0, none⟩) u1 wr) (fun i _ => size - (intOf i).toNat)
  case atStart => exact ⟨0, Nat.zero_le _, rfl, HO1.out, Touch.refl _ _⟩
  case round =>
    obtain ⟨j, hj, rfl, hw, ht⟩ := hrel
    clear HO1
    have HW : Hid (wr.ownsRow lo 5 1 (.slice (some ⟨g, 0, none⟩) len cap) len ((Pl.stk_ zs p x j).map (Value.int .u8))) := hw
    have HT : Hid (Touch (some ⟨g, 0, none⟩) u1 wr) := ht
    clear hw ht
    by_cases hlt : j < size
    · have hfz : wr.frozen? ⟨g, p + j, none⟩ = false := HW.out.frozenAt (p + j)
      obtain ⟨y, hy⟩ : ∃ y, wr.cell? ⟨g, p + j, none⟩ = some (.int .u8 y) := by
        have := HW.out.cellAt (p + j) (by omega)
        rw [List.getElem?_map, List.getElem?_eq_getElem (by rw [Pl.stk_length]; have := HL.out; omega)] at this
        exact ⟨_, this⟩
      have HS := HW.out.stored (p + j) (.int .u8 (x / Pl.pw (8 * j) % 256))
      have HS' : Hid ((wr.setCell ⟨g, p + j, none⟩ (.int .u8 (x / Pl.pw (8 * j) % 256))).ownsRow lo 5 1 (.slice (some ⟨g, 0, none⟩) len cap) len ((Pl.stk_ zs p x (j + 1)).map (Value.int .u8))) := by
        have h := HS.1
        rw [← List.map_set] at h
        exact h
      clear HS
      rcases (show j = 0 ∨ j = 1 ∨ j = 2 ∨ j = 3 by omega) with rfl | rfl | rfl | rfl
      · rw [show Pl.pw (8 * 0) = 1 from by decide] at HS'
        rw [Nat.add_zero] at hfz hy HS'
        rw [Int.ediv_one] at HS'
        go_wp2
        go_roundw
        case rel => exact ⟨1, by omega, rfl, HS'.out, HT.out.setCell rfl _⟩
        case measure => simp [intOf]; omega
      · rw [show Pl.pw (8 * 1) = 256 from by decide] at HS'
        go_wp2
        go_roundw
        case rel => exact ⟨2, by omega, rfl, HS'.out, HT.out.setCell rfl _⟩
        case measure => simp [intOf]; omega
      · rw [show Pl.pw (8 * 2) = 65536 from by decide] at HS'
        go_wp2
        go_roundw
        case rel => exact ⟨3, by omega, rfl, HS'.out, HT.out.setCell rfl _⟩
        case measure => simp [intOf]; omega
      · rw [show Pl.pw (8 * 3) = 16777216 from by decide] at HS'
        go_wp2
        go_roundw
        case rel => exact ⟨4, by omega, rfl, HS'.out, HT.out.setCell rfl _⟩
        case measure => simp [intOf]; omega
    · have hje : j = size := by omega
      subst hje
      go_wp2
      go_end0
      exact ⟨rfl, u1, B1.out, HT.out, HW.out, fun n hn => wf_u8 (Pl.stk_bytes HZ.out p x _ n hn)⟩
end Go.Proofs.YtjdfffdeljgenaaGreatDoor.W
namespace Go.Proofs.YtjdfffdeljgenaaGreatDoor.Pl
theorem pw_eight (j : Nat) : pw (8 * (j + 1)) = pw (8 * j) * 256 := by
  have : 8 * (j + 1) = 8 * j + 8 := by omega
  rw [this]
  simp only [pw, Int.pow_add]
  rfl
theorem stk_wd (zs : List Int) (p : Nat) (x : Int) : ∀ k, k ≤ 4 → stk_ zs p (wd x) k = stk_ zs p x k
  | 0, _ => rfl
  | k + 1, h => by
    unfold stk_
    rw [stk_wd zs p x k (by omega)]
    have e : wd x / pw (8 * k) % 256 = x / pw (8 * k) % 256 := by
      have e0 : wd x = x % 4294967296 := rfl
      rcases (show k = 0 ∨ k = 1 ∨ k = 2 ∨ k = 3 by omega) with rfl | rfl | rfl | rfl
      · rw [show pw (8 * 0) = 1 from by decide, e0]; omega
      · rw [show pw (8 * 1) = 256 from by decide, e0]; omega
      · rw [show pw (8 * 2) = 65536 from by decide, e0]; omega
      · rw [show pw (8 * 3) = 16777216 from by decide, e0]; omega
    rw [e]
end Go.Proofs.YtjdfffdeljgenaaGreatDoor.Pl
namespace Go.Proofs.YtjdfffdeljgenaaGreatDoor.W
open Go.RowKit
set_option maxHeartbeats 1000000 in
theorem l3Store_align (gm : Nat) (kind at_ x : Int) (size : Nat) (hs : 1 ≤ size ∧ size ≤ 4) (hk : Pl.ks kind = size) (ha : (at_.tmod (size : Int) != 0) = true) (w : World) :
    Calls Tryz.prog 76 #[.pointer (some ⟨gm, 0, none⟩), .int .i64 kind, .int .i64 at_, .int .i64 x] w fun e w' => e = .returned (.int .i64 3) ∧ w' = w := by
  go_enter Tryz.func76, Tryz.ntmps76
  go_wp2_with (go_at_call 103; refine (specKindSize_any _ _).mono ?_; rintro e w' ⟨rfl, rfl⟩; rw [hk])
  go_ret
  exact ⟨rfl, rfl⟩
set_option maxHeartbeats 1000000 in
theorem l3Store_none (v : MV) (m : Pl.Mac) (gm : Nat) (kind at_ x : Int) (size : Nat) (w : World) (hm : w.heap[gm]? = some (.cells #[.slice v.code.a v.code.len v.code.cap, .int .i64 m.pc, .slice v.regs.a v.regs.len v.regs.cap, .slice v.data.a v.data.len v.data.cap, .slice v.stk.a v.stk.len v.stk.cap, .slice v.inp.a v.inp.len v.inp.cap, .slice v.out.a v.out.len v.out.cap, .int .i64 m.steps, .int .i64 m.fin, .int .i64 m.val] 25)) (hb : -9223372036854775808 ≤ at_ ∧ at_ ≤ 9223372036854775807) (hl : v.data.len ≤ 65536) (hl' : v.stk.len ≤ 65536) (hs : 1 ≤ size ∧ size ≤ 4) (hk : Pl.ks kind = size) (ha : (at_.tmod (size : Int) != 0) = false) (hd0 : Hid (at_ < 1048576 ∨ (v.data.len : Int) - size < at_ - 1048576)) (hd1 : Hid (at_ < 2097152 - (v.stk.len : Int) ∨ (v.stk.len : Int) - size < at_ - (2097152 - (v.stk.len : Int)))) :
    Calls Tryz.prog 76 #[.pointer (some ⟨gm, 0, none⟩), .int .i64 kind, .int .i64 at_, .int .i64 x] w fun e w' => e = .returned (.int .i64 4) ∧ w' = w := by
  have HM : Hid (w.heap[gm]? = some (.cells #[.slice v.code.a v.code.len v.code.cap, .int .i64 m.pc, .slice v.regs.a v.regs.len v.regs.cap, .slice v.data.a v.data.len v.data.cap, .slice v.stk.a v.stk.len v.stk.cap, .slice v.inp.a v.inp.len v.inp.cap, .slice v.out.a v.out.len v.out.cap, .int .i64 m.steps, .int .i64 m.fin, .int .i64 m.val] 25)) := hm
  have hs0 : ((size : Int) == 0) = false := by simp; omega
  clear hm
  go_enter Tryz.func76, Tryz.ntmps76
  go_wp2_with (first | (go_at_call 103; refine (specKindSize_any _ _).mono ?_; rintro e w' ⟨rfl, rfl⟩; rw [hk]) | (go_at_call 104; refine (spot_none v m gm _ size _ HM.out hb hl hl' hs hd0.out hd1.out).mono ?_; rintro e w' ⟨rfl, rfl⟩))
  go_ret
  exact ⟨rfl, rfl⟩
set_option maxHeartbeats 4000000 in
theorem l3Store_data {lo : Nat} (v : MV) (m : Pl.Mac) (gm : Nat) (kind at_ x : Int) (g p size : Nat) (zs : List Int) (w : World) (hm : w.heap[gm]? = some (.cells #[.slice v.code.a v.code.len v.code.cap, .int .i64 m.pc, .slice v.regs.a v.regs.len v.regs.cap, .slice v.data.a v.data.len v.data.cap, .slice v.stk.a v.stk.len v.stk.cap, .slice v.inp.a v.inp.len v.inp.cap, .slice v.out.a v.out.len v.out.cap, .int .i64 m.steps, .int .i64 m.fin, .int .i64 m.val] 25)) (hb : -9223372036854775808 ≤ at_ ∧ at_ ≤ 9223372036854775807) (hl : v.data.len ≤ 65536) (hl' : v.stk.len ≤ 65536) (hs : 1 ≤ size ∧ size ≤ 4) (hk : Pl.ks kind = size) (ha : (at_.tmod (size : Int) != 0) = false)  (hp : Hid (at_ = 1048576 + p)) (h2 : p + size ≤ v.data.len) (hadr : v.data.a = some ⟨g, 0, none⟩) (hne : gm ≠ g)
    (HZ : Hid (∀ n ∈ zs, 0 ≤ n ∧ n ≤ 255)) (ho : Own .u8 5 lo w v.data.a v.data.len v.data.cap zs) :
    Calls Tryz.prog 76 #[.pointer (some ⟨gm, 0, none⟩), .int .i64 kind, .int .i64 at_, .int .i64 x] w fun e w' => e = .returned (.int .i64 0) ∧ Own .u8 5 lo w' v.data.a v.data.len v.data.cap (Pl.stk_ zs p x size) ∧ Touch v.data.a w w' := by
  have HL : Hid (zs.length = v.data.len) := ho.row.1
  rw [hadr] at ho ⊢
  have HO : Hid (w.ownsRow lo 5 1 (.slice (some ⟨g, 0, none⟩) v.data.len v.data.cap) v.data.len (zs.map (Value.int .u8))) := ho.1
  have HM : Hid (w.heap[gm]? = some (.cells #[.slice v.code.a v.code.len v.code.cap, .int .i64 m.pc, .slice v.regs.a v.regs.len v.regs.cap, .slice v.data.a v.data.len v.data.cap, .slice v.stk.a v.stk.len v.stk.cap, .slice v.inp.a v.inp.len v.inp.cap, .slice v.out.a v.out.len v.out.cap, .int .i64 m.steps, .int .i64 m.fin, .int .i64 m.val] 25)) := hm
  have HA : Hid (v.data.a = some ⟨g, 0, none⟩) := hadr
  have hs0 : ((size : Int) == 0) = false := by simp; omega
  have HNE : Hid (gm ≠ g) := hne
  clear ho hm hne
  rw [← Pl.stk_wd zs p x size hs.2]
  obtain ⟨z, hz⟩ : ∃ z, z = Pl.wd x := ⟨_, rfl⟩
  have hzb := Pl.wd_bd x
  rw [← hz] at hzb ⊢
  have HX : Hid (z = Pl.wd x) := hz
  clear hz hadr
  have w0n : ∃ w0, w0 = w := ⟨w, rfl⟩
  obtain ⟨w0, hw0⟩ := w0n
  rw [← hw0] at HO HM ⊢
  clear hw0
  go_enter Tryz.func76, Tryz.ntmps76
  go_wp2_with (first | (go_at_call 103; refine (specKindSize_any _ _).mono ?_; rintro e w' ⟨rfl, hw'⟩; rw [hw', hk]; clear hw') | (go_at_call 104; refine (spot_data v m gm _ p size _ HM.out hb hl hl' hs hp.out h2).mono ?_; rintro e w' ⟨rfl, hw'⟩; rw [hw']; clear hw') | (go_at_call 75; refine (specWord_any _ _).mono ?_; rintro e w' ⟨rfl, hw'⟩; rw [hw', ← HX.out]; clear hw'))
  go_loopw [3, 12] (fun y i wr => ∃ j : Nat, j ≤ size ∧ i = .int .i64 j ∧ y = .int .i64 (z / Pl.pw (8 * j)) ∧ wr.ownsRow lo 5 1 (.slice (some ⟨g, 0, none⟩) v.data.len v.data.cap) v.data.len ((Pl.stk_ zs p z j).map (Value.int .u8)) ∧ Touch (some ⟨g, 0, none⟩) w0 wr) (fun _ i _ => size - (intOf i).toNat)
  case atStart => exact ⟨0, Nat.zero_le _, rfl, by rw [show Pl.pw (8 * 0) = 1 from by decide, Int.ediv_one], HO.out, Touch.refl _ _⟩
  case round =>
    obtain ⟨j, hj, rfl, rfl, hw, ht⟩ := hrel
    have HW : Hid (wr.ownsRow lo 5 1 (.slice (some ⟨g, 0, none⟩) v.data.len v.data.cap) v.data.len ((Pl.stk_ zs p z j).map (Value.int .u8))) := hw
    have HT : Hid (Touch (some ⟨g, 0, none⟩) w0 wr) := ht
    have km : ∀ j, wr.cell? ⟨gm, j, none⟩ = (#[.slice v.code.a v.code.len v.code.cap, .int .i64 m.pc, .slice v.regs.a v.regs.len v.regs.cap, .slice v.data.a v.data.len v.data.cap, .slice v.stk.a v.stk.len v.stk.cap, .slice v.inp.a v.inp.len v.inp.cap, .slice v.out.a v.out.len v.out.cap, .int .i64 m.steps, .int .i64 m.fin, .int .i64 m.val] : Array Value)[j]? := fun j => cell_of_row wr gm j _ 25 (0, 0) ((ht.block gm (fun ad had => by simp at had; subst had; exact HNE.out)).trans HM.out)
    rw [HA.out] at km
    clear hw ht HO
    obtain ⟨y, hy⟩ : ∃ y, y = z / Pl.pw (8 * j) := ⟨_, rfl⟩
    have hyb : 0 ≤ y ∧ y ≤ 4294967295 := by
      have p1 := Pl.pw_pos (8 * j)
      have a1 : 0 ≤ z / Pl.pw (8 * j) := Int.ediv_nonneg hzb.1 (by omega)
      have a2 := Int.ediv_le_self (Pl.pw (8 * j)) hzb.1
      rw [hy]; omega
    have HN : Hid (z / Pl.pw (8 * (j + 1)) = y / 256) := by
      show z / Pl.pw (8 * (j + 1)) = y / 256
      rw [hy, Pl.pw_eight, Int.ediv_ediv_of_nonneg (Int.le_of_lt (Pl.pw_pos _))]
    rw [← hy]
    by_cases hlt : j < size
    · have hfz : wr.frozen? ⟨g, p + j, none⟩ = false := HW.out.frozenAt (p + j)
      obtain ⟨c, hc⟩ : ∃ c, wr.cell? ⟨g, p + j, none⟩ = some (.int .u8 c) := by
        have := HW.out.cellAt (p + j) (by omega)
        rw [List.getElem?_map, List.getElem?_eq_getElem (by rw [Pl.stk_length]; have := HL.out; omega)] at this
        exact ⟨_, this⟩
      have HS : Hid ((wr.setCell ⟨g, p + j, none⟩ (.int .u8 (y % 256))).ownsRow lo 5 1 (.slice (some ⟨g, 0, none⟩) v.data.len v.data.cap) v.data.len ((Pl.stk_ zs p z (j + 1)).map (Value.int .u8))) := by
        have h := (HW.out.stored (p + j) (.int .u8 (z / Pl.pw (8 * j) % 256))).1
        rw [← List.map_set, ← hy] at h
        show World.ownsRow _ _ _ _ _ _ _
        unfold Pl.stk_
        rw [← hy]
        exact h
      clear hy
      go_wp2
      go_roundw
      case rel => exact ⟨j + 1, by omega, by go_num, congrArg (Value.int .i64) HN.out.symm, HS.out, HT.out.setCell rfl _⟩
      case measure => simp [intOf]; omega
    · have hje : j = size := by omega
      subst hje
      go_wp2
      go_ret
      exact ⟨rfl, ⟨HW.out, fun n hn => wf_u8 (Pl.stk_bytes HZ.out p z _ n hn)⟩, HT.out⟩
set_option maxHeartbeats 4000000 in
theorem l3Store_stack {lo : Nat} (v : MV) (m : Pl.Mac) (gm : Nat) (kind at_ x : Int) (g p size : Nat) (zs : List Int) (w : World) (hm : w.heap[gm]? = some (.cells #[.slice v.code.a v.code.len v.code.cap, .int .i64 m.pc, .slice v.regs.a v.regs.len v.regs.cap, .slice v.data.a v.data.len v.data.cap, .slice v.stk.a v.stk.len v.stk.cap, .slice v.inp.a v.inp.len v.inp.cap, .slice v.out.a v.out.len v.out.cap, .int .i64 m.steps, .int .i64 m.fin, .int .i64 m.val] 25)) (hb : -9223372036854775808 ≤ at_ ∧ at_ ≤ 9223372036854775807) (hl : v.data.len ≤ 65536) (hl' : v.stk.len ≤ 65536) (hs : 1 ≤ size ∧ size ≤ 4) (hk : Pl.ks kind = size) (ha : (at_.tmod (size : Int) != 0) = false) (hd0 : Hid (at_ < 1048576 ∨ (v.data.len : Int) - size < at_ - 1048576)) (hp : Hid (at_ = 2097152 - (v.stk.len : Int) + p)) (h2 : p + size ≤ v.stk.len) (hadr : v.stk.a = some ⟨g, 0, none⟩) (hne : gm ≠ g)
    (HZ : Hid (∀ n ∈ zs, 0 ≤ n ∧ n ≤ 255)) (ho : Own .u8 5 lo w v.stk.a v.stk.len v.stk.cap zs) :
    Calls Tryz.prog 76 #[.pointer (some ⟨gm, 0, none⟩), .int .i64 kind, .int .i64 at_, .int .i64 x] w fun e w' => e = .returned (.int .i64 0) ∧ Own .u8 5 lo w' v.stk.a v.stk.len v.stk.cap (Pl.stk_ zs p x size) ∧ Touch v.stk.a w w' := by
  have HL : Hid (zs.length = v.stk.len) := ho.row.1
  rw [hadr] at ho ⊢
  have HO : Hid (w.ownsRow lo 5 1 (.slice (some ⟨g, 0, none⟩) v.stk.len v.stk.cap) v.stk.len (zs.map (Value.int .u8))) := ho.1
  have HM : Hid (w.heap[gm]? = some (.cells #[.slice v.code.a v.code.len v.code.cap, .int .i64 m.pc, .slice v.regs.a v.regs.len v.regs.cap, .slice v.data.a v.data.len v.data.cap, .slice v.stk.a v.stk.len v.stk.cap, .slice v.inp.a v.inp.len v.inp.cap, .slice v.out.a v.out.len v.out.cap, .int .i64 m.steps, .int .i64 m.fin, .int .i64 m.val] 25)) := hm
  have HA : Hid (v.stk.a = some ⟨g, 0, none⟩) := hadr
  have hs0 : ((size : Int) == 0) = false := by simp; omega
  have HNE : Hid (gm ≠ g) := hne
  clear ho hm hne
  rw [← Pl.stk_wd zs p x size hs.2]
  obtain ⟨z, hz⟩ : ∃ z, z = Pl.wd x := ⟨_, rfl⟩
  have hzb := Pl.wd_bd x
  rw [← hz] at hzb ⊢
  have HX : Hid (z = Pl.wd x) := hz
  clear hz hadr
  have w0n : ∃ w0, w0 = w := ⟨w, rfl⟩
  obtain ⟨w0, hw0⟩ := w0n
  rw [← hw0] at HO HM ⊢
  clear hw0
  go_enter Tryz.func76, Tryz.ntmps76
  go_wp2_with (first | (go_at_call 103; refine (specKindSize_any _ _).mono ?_; rintro e w' ⟨rfl, hw'⟩; rw [hw', hk]; clear hw') | (go_at_call 104; refine (spot_stack v m gm _ p size _ HM.out hb hl hl' hs hd0.out hp.out h2).mono ?_; rintro e w' ⟨rfl, hw'⟩; rw [hw']; clear hw') | (go_at_call 75; refine (specWord_any _ _).mono ?_; rintro e w' ⟨rfl, hw'⟩; rw [hw', ← HX.out]; clear hw'))
  go_loopw [3, 12] (fun y i wr => ∃ j : Nat, j ≤ size ∧ i = .int .i64 j ∧ y = .int .i64 (z / Pl.pw (8 * j)) ∧ wr.ownsRow lo 5 1 (.slice (some ⟨g, 0, none⟩) v.stk.len v.stk.cap) v.stk.len ((Pl.stk_ zs p z j).map (Value.int .u8)) ∧ Touch (some ⟨g, 0, none⟩) w0 wr) (fun _ i _ => size - (intOf i).toNat)
  case atStart => exact ⟨0, Nat.zero_le _, rfl, by rw [show Pl.pw (8 * 0) = 1 from by decide, Int.ediv_one], HO.out, Touch.refl _ _⟩
  case round =>
    obtain ⟨j, hj, rfl, rfl, hw, ht⟩ := hrel
    have HW : Hid (wr.ownsRow lo 5 1 (.slice (some ⟨g, 0, none⟩) v.stk.len v.stk.cap) v.stk.len ((Pl.stk_ zs p z j).map (Value.int .u8))) := hw
    have HT : Hid (Touch (some ⟨g, 0, none⟩) w0 wr) := ht
    have km : ∀ j, wr.cell? ⟨gm, j, none⟩ = (#[.slice v.code.a v.code.len v.code.cap, .int .i64 m.pc, .slice v.regs.a v.regs.len v.regs.cap, .slice v.data.a v.data.len v.data.cap, .slice v.stk.a v.stk.len v.stk.cap, .slice v.inp.a v.inp.len v.inp.cap, .slice v.out.a v.out.len v.out.cap, .int .i64 m.steps, .int .i64 m.fin, .int .i64 m.val] : Array Value)[j]? := fun j => cell_of_row wr gm j _ 25 (0, 0) ((ht.block gm (fun ad had => by simp at had; subst had; exact HNE.out)).trans HM.out)
    rw [HA.out] at km
    clear hw ht HO
    obtain ⟨y, hy⟩ : ∃ y, y = z / Pl.pw (8 * j) := ⟨_, rfl⟩
    have hyb : 0 ≤ y ∧ y ≤ 4294967295 := by
      have p1 := Pl.pw_pos (8 * j)
      have a1 : 0 ≤ z / Pl.pw (8 * j) := Int.ediv_nonneg hzb.1 (by omega)
      have a2 := Int.ediv_le_self (Pl.pw (8 * j)) hzb.1
      rw [hy]; omega
    have HN : Hid (z / Pl.pw (8 * (j + 1)) = y / 256) := by
      show z / Pl.pw (8 * (j + 1)) = y / 256
      rw [hy, Pl.pw_eight, Int.ediv_ediv_of_nonneg (Int.le_of_lt (Pl.pw_pos _))]
    rw [← hy]
    by_cases hlt : j < size
    · have hfz : wr.frozen? ⟨g, p + j, none⟩ = false := HW.out.frozenAt (p + j)
      obtain ⟨c, hc⟩ : ∃ c, wr.cell? ⟨g, p + j, none⟩ = some (.int .u8 c) := by
        have := HW.out.cellAt (p + j) (by omega)
        rw [List.getElem?_map, List.getElem?_eq_getElem (by rw [Pl.stk_length]; have := HL.out; omega)] at this
        exact ⟨_, this⟩
      have HS : Hid ((wr.setCell ⟨g, p + j, none⟩ (.int .u8 (y % 256))).ownsRow lo 5 1 (.slice (some ⟨g, 0, none⟩) v.stk.len v.stk.cap) v.stk.len ((Pl.stk_ zs p z (j + 1)).map (Value.int .u8))) := by
        have h := (HW.out.stored (p + j) (.int .u8 (z / Pl.pw (8 * j) % 256))).1
        rw [← List.map_set, ← hy] at h
        show World.ownsRow _ _ _ _ _ _ _
        unfold Pl.stk_
        rw [← hy]
        exact h
      clear hy
      go_wp2
      go_roundw
      case rel => exact ⟨j + 1, by omega, by go_num, congrArg (Value.int .i64) HN.out.symm, HS.out, HT.out.setCell rfl _⟩
      case measure => simp [intOf]; omega
    · have hje : j = size := by omega
      subst hje
      go_wp2
      go_ret
      exact ⟨rfl, ⟨HW.out, fun n hn => wf_u8 (Pl.stk_bytes HZ.out p z _ n hn)⟩, HT.out⟩
end Go.Proofs.YtjdfffdeljgenaaGreatDoor.W
namespace Go.Proofs.YtjdfffdeljgenaaGreatDoor.W
open Go.RowKit
def MApart (t0 t6 : Nat) (v : MV) : Prop := ∃ l h : Nat → Nat, (Span v.code (l 0) (h 0) ∧ Span v.regs (l 1) (h 1) ∧ Span v.data (l 2) (h 2) ∧ Span v.stk (l 3) (h 3) ∧ Span v.inp (l 4) (h 4) ∧ Span v.out (l 5) (h 5)) ∧ (∀ i, i < 6 → t0 ≤ l i ∧ h i ≤ t6) ∧ ∀ i j, i < 6 → j < 6 → i ≠ j → h i ≤ l j ∨ h j ≤ l i
theorem MSepAt.apart {t0 t6 : Nat} {v : MV} (hs : MSepAt t0 t6 v) : MApart t0 t6 v := by
  obtain ⟨t1, t2, t3, t4, t5, p0, p1, p2, p3, p4, p5, q0, q1, q2, q3, q4, q5⟩ := hs
  refine ⟨fun | 0 => t0 | 1 => t1 | 2 => t2 | 3 => t3 | 4 => t4 | _ => t5, fun | 0 => t1 | 1 => t2 | 2 => t3 | 3 => t4 | 4 => t5 | _ => t6, ⟨p0, p1, p2, p3, p4, p5⟩, ?_, ?_⟩
  · intro i hi
    rcases (show i = 0 ∨ i = 1 ∨ i = 2 ∨ i = 3 ∨ i = 4 ∨ i = 5 by omega) with rfl | rfl | rfl | rfl | rfl | rfl <;> simp <;> omega
  · intro i j hi hj hij
    rcases (show i = 0 ∨ i = 1 ∨ i = 2 ∨ i = 3 ∨ i = 4 ∨ i = 5 by omega) with rfl | rfl | rfl | rfl | rfl | rfl <;> rcases (show j = 0 ∨ j = 1 ∨ j = 2 ∨ j = 3 ∨ j = 4 ∨ j = 5 by omega) with rfl | rfl | rfl | rfl | rfl | rfl <;> simp <;> omega
end Go.Proofs.YtjdfffdeljgenaaGreatDoor.W
namespace Go.Proofs.YtjdfffdeljgenaaGreatDoor.Pl
def regs0 : List Int := (List.replicate 32 0).set 2 2097152
def mStart (im : Img) (inp : List Int) : Mac := ⟨im.code, im.entry, regs0, im.data, List.replicate im.size.toNat 0, inp, [], 0, 0, 0⟩
end Go.Proofs.YtjdfffdeljgenaaGreatDoor.Pl
namespace Go.Proofs.YtjdfffdeljgenaaGreatDoor.W
open Go.RowKit
theorem Own.nil (k : IntKind) (e : TypeId) (lo : Nat) (w : World) : Own k e lo w none 0 0 [] := ⟨World.ownsRow_nil _ _ _ _, fun n hn => absurd hn List.not_mem_nil⟩
theorem Own.weak {k : IntKind} {e : TypeId} {lo lo' : Nat} {w : World} {a : Option Addr} {len cap : Nat} {zs : List Int} (h : Own k e lo w a len cap zs) (hl : lo' ≤ lo) : Own k e lo' w a len cap zs := by
  obtain ⟨hown, hwf⟩ := h
  refine ⟨⟨hown.1, ?_⟩, hwf⟩
  rcases hown.2 with h0 | ⟨g, cap', cur, h0, hlo, hg, hr⟩
  · exact .inl h0
  · exact .inr ⟨g, cap', cur, h0, Nat.le_trans hl hlo, hg, hr⟩
theorem own_row {k : IntKind} {e : TypeId} {lo b n : Nat} {u : World} {cs : Array Value} {zs : List Int} (hg : u.heap[b]? = some (.cells cs e)) (hcs : cs.toList = zs.map (Value.int k)) (hn : zs.length = n) (hm : n ≤ maxLen) (hwf : ∀ x ∈ zs, (Lit.int k x).wf = true) (hlo : lo ≤ b) : Own k e lo u (some ⟨b, 0, none⟩) n n zs := by
  have hsz : cs.size = n := by rw [← Array.length_toList, hcs, List.length_map, hn]
  refine ⟨⟨by simp [hn], .inr ⟨b, n, cs, rfl, hlo, hg, Nat.le_refl _, hm, by rw [hsz, Nat.mul_one], ?_⟩⟩, hwf⟩
  rw [Nat.mul_one, hcs, List.take_of_length_le (by simp [hn])]
end Go.Proofs.YtjdfffdeljgenaaGreatDoor.W
namespace Go.Proofs.YtjdfffdeljgenaaGreatDoor.W
open Go.RowKit
theorem heap_alloc_at3 (w : World) (o : Obj) (g : Nat) (h : w.heap.size = g) : (w.alloc o).heap[g]? = some o := by subst h; exact heap_alloc_new w o
theorem below_setRow2 {B : Nat} {a w : World} (h : Below B a w) {g : Nat} (hg : B ≤ g) (cs : Array Value) : Below B a (w.setRow g cs) :=
  ⟨h.os, h.tape, h.output, by rw [size_setRow]; exact h.size, fun k hk => (setRow_other w g k cs (by omega)).trans (h.block k hk)⟩
theorem results_cell_tmp2 {P : Program} {fn : Func} {p q : Tmp} {ty : TypeId} (h : fn.results = #[.cell p ty, .tmp q]) (tmps : Array Value) (w : World) (g : Nat) (t : TypeId) (cs : Array Value) (fr : Nat × Nat) (d : TypeDesc) (v : Value)
    (hp : tmps.getD p undef = .pointer (some ⟨g, 0, none⟩)) (hq : tmps.getD q undef = v) (hg : w.heap[g]? = some (.cells cs t fr))
    (hu : P.underlying ty = some d) (hd : (match d with | .struct _ | .array _ _ => true | _ => false) = true) (hi : (P.info? ty).map (·.size) = some cs.size) :
    (results fn tmps).run P w = .ok (.tuple #[.agg cs, v]) w := by
  have hp' : tmps[p]?.getD undef = .pointer (some ⟨g, 0, none⟩) := by simpa using hp
  have hq' : tmps[q]?.getD undef = v := by simpa using hq
  simp [results, h, hp', hq', asAddr, run_loadVar_row w g t ty cs fr d hg hu hd hi]
set_option maxHeartbeats 2000000 in
theorem specStart_no {lo lo2 : Nat} (v : IV) (m : Pl.Img) (a : Option Addr) (len cap : Nat) (inp : List Int) (w : World) (h : IOwn lo w v m) (hin : Own .u8 5 lo2 w a len cap inp) (he : -9223372036854775808 ≤ m.entry ∧ m.entry ≤ 9223372036854775807) (hno : (Pl.iOk m && decide (len ≤ 10000)) = false) :
    Calls Tryz.prog 50 #[.agg #[.slice v.code.a v.code.len v.code.cap, .slice v.data.a v.data.len v.data.cap, .int .i64 m.entry, .int .i64 m.size], .slice a len cap] w fun e w' => e = .returned (.tuple #[.agg #[.slice none 0 0, .int .i64 0, .slice none 0 0, .slice none 0 0, .slice none 0 0, .slice none 0 0, .slice none 0 0, .int .i64 0, .int .i64 0, .int .i64 0], .bool false]) ∧ Below w.heap.size w w' := by
  have HI : Hid (IOwn lo w v m) := h
  have HN : Hid (Own .u8 5 lo2 w a len cap inp) := hin
  clear h hin
  go_enter Tryz.func50, Tryz.ntmps50
  go_wp2_with fail
  refine calls_at fun u0 hu0 => ?_
  have Q0 : u0.heap[w.heap.size]? = some (.cells #[.slice v.code.a v.code.len v.code.cap, .slice v.data.a v.data.len v.data.cap, .int .i64 m.entry, .int .i64 m.size] 70) := by rw [hu0, Below.heap_alloc _ _ _ (by simp)]; exact heap_alloc_new w _
  have X0 : u0.heap[w.heap.size + 1]? = some (.cells #[.slice none 0 0, .int .i64 0, .slice none 0 0, .slice none 0 0, .slice none 0 0, .slice none 0 0, .slice none 0 0, .int .i64 0, .int .i64 0, .int .i64 0] 25) := by rw [hu0]; exact heap_alloc_at3 _ _ _ (by simp)
  have B0 : Below w.heap.size w u0 := by rw [hu0]; exact ((Below.refl _ _).alloc (Nat.le_refl _) _).alloc (by simp) _
  have Z0 : w.heap.size + 1 < u0.heap.size := by rw [hu0]; simp
  clear hu0
  refine (specImageOk_any v m u0 (HI.out.keep B0).is he).mono ?_
  rintro e u1 ⟨rfl, d1⟩
  have Q1 : Hid (u1.heap[w.heap.size]? = some (.cells #[.slice v.code.a v.code.len v.code.cap, .slice v.data.a v.data.len v.data.cap, .int .i64 m.entry, .int .i64 m.size] 70)) := (d1.block _ (by omega)).trans Q0
  have X1 : Hid (u1.heap[w.heap.size + 1]? = some (.cells #[.slice none 0 0, .int .i64 0, .slice none 0 0, .slice none 0 0, .slice none 0 0, .slice none 0 0, .slice none 0 0, .int .i64 0, .int .i64 0, .int .i64 0] 25)) := (d1.block _ Z0).trans X0
  have B1 : Hid (Below w.heap.size w u1) := B0.trans (d1.mono (by omega))
  have Z1 : Hid (w.heap.size + 1 < u1.heap.size) := Nat.lt_of_lt_of_le Z0 d1.size
  clear d1 Q0 X0 B0 Z0
  cases hk : Pl.iOk m
  · clear hno
    go_wp2_with (refine wpList_store_row rfl 25 _ _ rfl (w.heap.size + 1) #[.slice none 0 0, .int .i64 0, .slice none 0 0, .slice none 0 0, .slice none 0 0, .slice none 0 0, .slice none 0 0, .int .i64 0, .int .i64 0, .int .i64 0] ?hx ?hy 25 #[.slice none 0 0, .int .i64 0, .slice none 0 0, .slice none 0 0, .slice none 0 0, .slice none 0 0, .slice none 0 0, .int .i64 0, .int .i64 0, .int .i64 0] ?hg ?hi ?ho ?h1 ?_; (case hx => rfl); (case hy => rfl); (case hg => exact X1.out); (case hi => kernel_rfl); (case ho => kernel_rfl); (case h1 => kernel_rfl); refine Hid.out ?_)
    unfold Hid
    go_wp2
    exact bodyPost_ret (v := .tuple #[.agg #[.slice none 0 0, .int .i64 0, .slice none 0 0, .slice none 0 0, .slice none 0 0, .slice none 0 0, .slice none 0 0, .int .i64 0, .int .i64 0, .int .i64 0], .bool false]) (results_cell_tmp2 Tryz.results50 _ _ (w.heap.size + 1) 25 #[.slice none 0 0, .int .i64 0, .slice none 0 0, .slice none 0 0, .slice none 0 0, .slice none 0 0, .slice none 0 0, .int .i64 0, .int .i64 0, .int .i64 0] (0, 0) _ _ rfl rfl (setRow_heap _ _ _ _ 25 _ X1.out) Tryz.underlying25 rfl (by kernel_rfl)) rfl ⟨rfl, below_setRow2 B1.out (by omega) _⟩
  · have hlen : (10000 : Int) < (len : Int) := by rw [hk, Bool.true_and, decide_eq_false_iff_not] at hno; omega
    clear hno
    go_wp2_with (refine wpList_store_row rfl 25 _ _ rfl (w.heap.size + 1) #[.slice none 0 0, .int .i64 0, .slice none 0 0, .slice none 0 0, .slice none 0 0, .slice none 0 0, .slice none 0 0, .int .i64 0, .int .i64 0, .int .i64 0] ?hx ?hy 25 #[.slice none 0 0, .int .i64 0, .slice none 0 0, .slice none 0 0, .slice none 0 0, .slice none 0 0, .slice none 0 0, .int .i64 0, .int .i64 0, .int .i64 0] ?hg ?hi ?ho ?h1 ?_; (case hx => rfl); (case hy => rfl); (case hg => exact X1.out); (case hi => kernel_rfl); (case ho => kernel_rfl); (case h1 => kernel_rfl); refine Hid.out ?_)
    unfold Hid
    go_wp2
    exact bodyPost_ret (v := .tuple #[.agg #[.slice none 0 0, .int .i64 0, .slice none 0 0, .slice none 0 0, .slice none 0 0, .slice none 0 0, .slice none 0 0, .int .i64 0, .int .i64 0, .int .i64 0], .bool false]) (results_cell_tmp2 Tryz.results50 _ _ (w.heap.size + 1) 25 #[.slice none 0 0, .int .i64 0, .slice none 0 0, .slice none 0 0, .slice none 0 0, .slice none 0 0, .slice none 0 0, .int .i64 0, .int .i64 0, .int .i64 0] (0, 0) _ _ rfl rfl (setRow_heap _ _ _ _ 25 _ X1.out) Tryz.underlying25 rfl (by kernel_rfl)) rfl ⟨rfl, below_setRow2 B1.out (by omega) _⟩
end Go.Proofs.YtjdfffdeljgenaaGreatDoor.W
