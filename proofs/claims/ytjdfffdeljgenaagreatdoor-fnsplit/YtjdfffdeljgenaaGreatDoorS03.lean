import Derived.Test.YtjdfffdeljgenaaGreatDoorS01
import Derived.WalkSpells
import Derived.WalkLawsBesides
import Derived.Defers
import Derived.Recover
set_option linter.unusedVariables false
namespace Go.Proofs.YtjdfffdeljgenaaGreatDoor.W
open Go.RowKit
set_option maxHeartbeats 1000000 in
theorem cutAt_in (b off len cap : Nat) (base at_ : Int) (p size : Nat) (hl : len ≤ 65536) (hc : len ≤ cap) (hm : cap ≤ 9223372036854775807) (hb : 0 ≤ base ∧ base ≤ 2097152) (hp : at_ = base + p) (h1 : 1 ≤ size) (h2 : p + size ≤ len) (w : World) :
    Calls Tryz.prog 173 #[.slice (some ⟨b, off, none⟩) len cap, .int .i64 base, .int .i64 at_, .int .i64 (size : Int)] w fun e w' => e = .returned (.slice (some ⟨b, off + p, none⟩) size (cap - p)) ∧ w' = w := by
  subst hp
  go_enter Tryz.func173, Tryz.ntmps173
  go_wp2
  go_ret
  have e1 : (base + (p : Int) - base).toNat = p := by omega
  have e2 : (base + (p : Int) - base + (size : Int)).toNat - p = size := by omega
  exact ⟨by rw [e1, e2]; rfl, rfl⟩
theorem cutAt_out (a : Option Addr) (len cap : Nat) (base at_ : Int) (size : Nat) (hl : len ≤ 65536) (hb : 0 ≤ base ∧ base ≤ 2097152) (ha : -9223372036854775808 ≤ at_ ∧ at_ ≤ 9223372036854775807) (h1 : 1 ≤ size ∧ size ≤ 4) (h2 : at_ < base ∨ (len : Int) - size < at_ - base) (w : World) :
    Calls Tryz.prog 173 #[.slice a len cap, .int .i64 base, .int .i64 at_, .int .i64 (size : Int)] w fun e w' => e = .returned (.slice none 0 0) ∧ w' = w := by
  by_cases h : at_ < base
  · go_enter Tryz.func173, Tryz.ntmps173
    go_wp2
    go_ret
    exact ⟨rfl, rfl⟩
  · have h3 : (len : Int) - size < at_ - base := by omega
    clear h2
    go_enter Tryz.func173, Tryz.ntmps173
    go_wp2
    go_ret
    exact ⟨rfl, rfl⟩
theorem data_in (b off len cap : Nat) (at_ : Int) (p size : Nat) (hl : len ≤ 65536) (hc : len ≤ cap) (hm : cap ≤ 9223372036854775807) (hp : at_ = 1048576 + p) (h1 : 1 ≤ size) (h2 : p + size ≤ len) (w : World) :
    Calls Tryz.prog 172 #[.slice (some ⟨b, off, none⟩) len cap, .int .i64 at_, .int .i64 (size : Int)] w fun e w' => e = .returned (.slice (some ⟨b, off + p, none⟩) size (cap - p)) ∧ w' = w := by
  go_enter Tryz.func172, Tryz.ntmps172
  go_wp2_with (go_at_call 173; refine (cutAt_in b off len cap _ _ p size hl hc hm (by omega) (by omega) h1 h2 _).mono ?_; rintro e w' ⟨rfl, rfl⟩)
  go_ret
  exact ⟨rfl, rfl⟩
theorem data_out (a : Option Addr) (len cap : Nat) (at_ : Int) (size : Nat) (hl : len ≤ 65536) (ha : -9223372036854775808 ≤ at_ ∧ at_ ≤ 9223372036854775807) (h1 : 1 ≤ size ∧ size ≤ 4) (h2 : at_ < 1048576 ∨ (len : Int) - size < at_ - (1048576)) (w : World) :
    Calls Tryz.prog 172 #[.slice a len cap, .int .i64 at_, .int .i64 (size : Int)] w fun e w' => e = .returned (.slice none 0 0) ∧ w' = w := by
  go_enter Tryz.func172, Tryz.ntmps172
  go_wp2_with (go_at_call 173; refine (cutAt_out a len cap _ _ size hl (by omega) ha h1 (by omega) _).mono ?_; rintro e w' ⟨rfl, rfl⟩)
  go_ret
  exact ⟨rfl, rfl⟩
theorem stack_in (b off len cap : Nat) (at_ : Int) (p size : Nat) (hl : len ≤ 65536) (hc : len ≤ cap) (hm : cap ≤ 9223372036854775807) (hp : at_ = 2097152 - (len : Int) + p) (h1 : 1 ≤ size) (h2 : p + size ≤ len) (w : World) :
    Calls Tryz.prog 174 #[.slice (some ⟨b, off, none⟩) len cap, .int .i64 at_, .int .i64 (size : Int)] w fun e w' => e = .returned (.slice (some ⟨b, off + p, none⟩) size (cap - p)) ∧ w' = w := by
  go_enter Tryz.func174, Tryz.ntmps174
  go_wp2_with (go_at_call 173; refine (cutAt_in b off len cap _ _ p size hl hc hm (by omega) (by omega) h1 h2 _).mono ?_; rintro e w' ⟨rfl, rfl⟩)
  go_ret
  exact ⟨rfl, rfl⟩
theorem stack_out (a : Option Addr) (len cap : Nat) (at_ : Int) (size : Nat) (hl : len ≤ 65536) (ha : -9223372036854775808 ≤ at_ ∧ at_ ≤ 9223372036854775807) (h1 : 1 ≤ size ∧ size ≤ 4) (h2 : at_ < 2097152 - (len : Int) ∨ (len : Int) - size < at_ - (2097152 - (len : Int))) (w : World) :
    Calls Tryz.prog 174 #[.slice a len cap, .int .i64 at_, .int .i64 (size : Int)] w fun e w' => e = .returned (.slice none 0 0) ∧ w' = w := by
  go_enter Tryz.func174, Tryz.ntmps174
  go_wp2_with (go_at_call 173; refine (cutAt_out a len cap _ _ size hl (by omega) ha h1 (by omega) _).mono ?_; rintro e w' ⟨rfl, rfl⟩)
  go_ret
  exact ⟨rfl, rfl⟩
set_option maxHeartbeats 1000000 in
theorem memoryOf_any (v : MV) (m : Pl.Mac) (w : World) :
    Calls Tryz.prog 30 #[.agg #[.slice v.code.a v.code.len v.code.cap, .int .i64 m.pc, .slice v.regs.a v.regs.len v.regs.cap, .slice v.data.a v.data.len v.data.cap, .slice v.stk.a v.stk.len v.stk.cap, .slice v.inp.a v.inp.len v.inp.cap, .slice v.out.a v.out.len v.out.cap, .int .i64 m.steps, .int .i64 m.fin, .int .i64 m.val]] w fun e w' => e = .returned (.agg #[.iface 78 (.slice v.data.a v.data.len v.data.cap), .iface 79 (.slice v.stk.a v.stk.len v.stk.cap)]) ∧ Below w.heap.size w w' := by
  go_enter Tryz.func30, Tryz.ntmps30
  go_wp2
  refine bodyPost_ret (v := .agg #[.iface 78 (.slice v.data.a v.data.len v.data.cap), .iface 79 (.slice v.stk.a v.stk.len v.stk.cap)]) ?_ rfl ⟨rfl, by repeat (first | exact Below.refl _ _ | refine Below.setCell ?_ (by simp) _ | refine Below.alloc ?_ (by simp) _)⟩
  simp [results, Tryz.results30, go_sem]
set_option maxHeartbeats 1000000 in
theorem find_align (da sa : Option Addr) (dl dc sl sc : Nat) (kind at_ : Int) (size : Nat) (hs : 1 ≤ size ∧ size ≤ 4) (hk : Pl.ks kind = size) (ha : (at_.tmod (size : Int) != 0) = true) (hb : -9223372036854775808 ≤ at_ ∧ at_ ≤ 9223372036854775807) (w : World) :
    Calls Tryz.prog 107 #[.agg #[.iface 78 (.slice da dl dc), .iface 79 (.slice sa sl sc)], .int .i64 kind, .int .i64 at_] w fun e w' => e = .panicked [{ v := .iface 97 (.int .i64 3), recovered := false }] ∧ Below w.heap.size w w' := by
  go_enter Tryz.func107, Tryz.ntmps107
  go_wp2_with (go_at_call 122; refine (implKindSize_any _ _).mono ?_; rintro e w' ⟨rfl, rfl⟩; rw [hk])
  exact ⟨rfl, rfl, below_alloc _ _⟩
set_option maxRecDepth 100000 in
set_option maxHeartbeats 2000000 in
theorem find_data (b off : Nat) (sa : Option Addr) (dl dc sl sc : Nat) (kind at_ : Int) (p size : Nat) (hs : 1 ≤ size ∧ size ≤ 4) (hk : Pl.ks kind = size) (ha : at_.tmod (size : Int) = 0) (hl : dl ≤ 65536) (hc : dl ≤ dc) (hm : dc ≤ 9223372036854775807) (hp : at_ = 1048576 + p) (h2 : p + size ≤ dl) (w : World) :
    Calls Tryz.prog 107 #[.agg #[.iface 78 (.slice (some ⟨b, off, none⟩) dl dc), .iface 79 (.slice sa sl sc)], .int .i64 kind, .int .i64 at_] w fun e w' => e = .returned (.slice (some ⟨b, off + p, none⟩) size (dc - p)) ∧ Below w.heap.size w w' := by
  have HP : Hid (at_ = 1048576 + p) := hp
  have ha' : (at_.tmod (size : Int) != 0) = false := by rw [ha]; rfl
  have hs0 : ((size : Int) == 0) = false := by simp; omega
  clear hp ha
  have P0 : Hid ((w.alloc (.cells #[.iface 78 (.slice (some ⟨b, off, none⟩) dl dc), .iface 79 (.slice sa sl sc)] 53)).heap[w.heap.size]? = some (.cells #[.iface 78 (.slice (some ⟨b, off, none⟩) dl dc), .iface 79 (.slice sa sl sc)] 53)) := heap_alloc_new w _
  have hi0 : ∀ w, (Instr.index 53 (.agg #[.iface 78 (.slice (some ⟨b, off, none⟩) dl dc), .iface 79 (.slice sa sl sc)]) (.int .i64 0)).run Tryz.prog w = .ok (.iface 78 (.slice (some ⟨b, off, none⟩) dl dc)) w := fun _ => by kernel_rfl
  have hm0 : ∀ w : World, (method 260 78 (.slice (some ⟨b, off, none⟩) dl dc) "loop.example/s01681/impl.reach").run Tryz.prog w = .ok (172, .slice (some ⟨b, off, none⟩) dl dc) w := fun _ => by kernel_rfl
  have hq : ∀ (w : World) (a : Option Addr) (n c n' c' : Nat), (binOp .neq 22 (.slice a n c) (.slice none n' c')).run Tryz.prog w = .ok (.bool (!a.isNone)) w := fun w a n c n' c' => run_neq_slice_nil_any w _ _ a n c n' c' Tryz.underlying22
  go_enter Tryz.func107, Tryz.ntmps107
  go_wp2_with (first | (go_at_call 122; refine (implKindSize_any _ _).mono ?_; rintro e w' ⟨rfl, rfl⟩; rw [hk]) | (refine wpList_load_row rfl 53 _ rfl (w.heap.size) ?hx 53 #[.iface 78 (.slice (some ⟨b, off, none⟩) dl dc), .iface 79 (.slice sa sl sc)] (0, 0) _ ?hg Tryz.underlying53 ?hd ?hi ?_; (case hx => rfl); (case hg => exact P0.out); (case hd => rfl); (case hi => kernel_rfl)))
  go_loop [22] (fun i => i = .int .i64 0) (fun i => 0)
  case atStart => rfl
  case round =>
    subst hrel
    go_wp2_with (go_at_call 172; refine (data_in b off dl dc _ p size hl hc hm HP.out hs.1 h2 _).mono ?_; rintro e w' ⟨rfl, rfl⟩)
    go_ret
    exact ⟨rfl, below_alloc _ _⟩
set_option maxRecDepth 100000 in
set_option maxHeartbeats 2000000 in
theorem find_stack (da : Option Addr) (b off : Nat) (dl dc sl sc : Nat) (kind at_ : Int) (p size : Nat) (hs : 1 ≤ size ∧ size ≤ 4) (hk : Pl.ks kind = size) (ha : at_.tmod (size : Int) = 0) (hb : -9223372036854775808 ≤ at_ ∧ at_ ≤ 9223372036854775807) (hl : dl ≤ 65536) (hl' : sl ≤ 65536) (hc : sl ≤ sc) (hm : sc ≤ 9223372036854775807)
    (hd0 : Hid (at_ < 1048576 ∨ (dl : Int) - size < at_ - 1048576)) (hp : Hid (at_ = 2097152 - (sl : Int) + p)) (h2 : p + size ≤ sl) (w : World) :
    Calls Tryz.prog 107 #[.agg #[.iface 78 (.slice da dl dc), .iface 79 (.slice (some ⟨b, off, none⟩) sl sc)], .int .i64 kind, .int .i64 at_] w fun e w' => e = .returned (.slice (some ⟨b, off + p, none⟩) size (sc - p)) ∧ Below w.heap.size w w' := by
  have P0 : Hid ((w.alloc (.cells #[.iface 78 (.slice da dl dc), .iface 79 (.slice (some ⟨b, off, none⟩) sl sc)] 53)).heap[w.heap.size]? = some (.cells #[.iface 78 (.slice da dl dc), .iface 79 (.slice (some ⟨b, off, none⟩) sl sc)] 53)) := heap_alloc_new w _
  have hi0 : ∀ w, (Instr.index 53 (.agg #[.iface 78 (.slice da dl dc), .iface 79 (.slice (some ⟨b, off, none⟩) sl sc)]) (.int .i64 0)).run Tryz.prog w = .ok (.iface 78 (.slice da dl dc)) w := fun _ => by kernel_rfl
  have hi1 : ∀ w, (Instr.index 53 (.agg #[.iface 78 (.slice da dl dc), .iface 79 (.slice (some ⟨b, off, none⟩) sl sc)]) (.int .i64 1)).run Tryz.prog w = .ok (.iface 79 (.slice (some ⟨b, off, none⟩) sl sc)) w := fun _ => by kernel_rfl
  have hm0 : ∀ w : World, (method 260 78 (.slice da dl dc) "loop.example/s01681/impl.reach").run Tryz.prog w = .ok (172, .slice da dl dc) w := fun _ => by kernel_rfl
  have hm1 : ∀ w : World, (method 260 79 (.slice (some ⟨b, off, none⟩) sl sc) "loop.example/s01681/impl.reach").run Tryz.prog w = .ok (174, .slice (some ⟨b, off, none⟩) sl sc) w := fun _ => by kernel_rfl
  have hq : ∀ (w : World) (a : Option Addr) (n c n' c' : Nat), (binOp .neq 22 (.slice a n c) (.slice none n' c')).run Tryz.prog w = .ok (.bool (!a.isNone)) w := fun w a n c n' c' => run_neq_slice_nil_any w _ _ a n c n' c' Tryz.underlying22
  have ha' : (at_.tmod (size : Int) != 0) = false := by rw [ha]; rfl
  have hs0 : ((size : Int) == 0) = false := by simp; omega
  clear ha
  go_enter Tryz.func107, Tryz.ntmps107
  go_wp2_with (first | (go_at_call 122; refine (implKindSize_any _ _).mono ?_; rintro e w' ⟨rfl, rfl⟩; rw [hk]) | (refine wpList_load_row rfl 53 _ rfl (w.heap.size) ?hx 53 #[.iface 78 (.slice da dl dc), .iface 79 (.slice (some ⟨b, off, none⟩) sl sc)] (0, 0) _ ?hg Tryz.underlying53 ?hd ?hi ?_; (case hx => rfl); (case hg => exact P0.out); (case hd => rfl); (case hi => kernel_rfl)))
  go_loop [22] (fun i => i = .int .i64 0 ∨ i = .int .i64 1) (fun i => 2 - (intOf i).toNat)
  case atStart => exact .inl rfl
  case round =>
    rcases hrel with rfl | rfl
    · go_wp2_with (go_at_call 172; refine (data_out da dl dc _ size hl hb hs hd0.out _).mono ?_; rintro e w' ⟨rfl, rfl⟩)
      go_round
      case rel => exact .inr rfl
      case measure => simp [intOf]
    · go_wp2_with (go_at_call 174; refine (stack_in b off sl sc _ p size hl' hc hm hp.out hs.1 h2 _).mono ?_; rintro e w' ⟨rfl, rfl⟩)
      go_ret
      exact ⟨rfl, below_alloc _ _⟩
set_option maxRecDepth 100000 in
set_option maxHeartbeats 2000000 in
theorem find_none (da sa : Option Addr) (dl dc sl sc : Nat) (kind at_ : Int) (size : Nat) (hs : 1 ≤ size ∧ size ≤ 4) (hk : Pl.ks kind = size) (ha : at_.tmod (size : Int) = 0) (hb : -9223372036854775808 ≤ at_ ∧ at_ ≤ 9223372036854775807) (hl : dl ≤ 65536) (hl' : sl ≤ 65536)
    (hd0 : Hid (at_ < 1048576 ∨ (dl : Int) - size < at_ - 1048576)) (hd1 : Hid (at_ < 2097152 - (sl : Int) ∨ (sl : Int) - size < at_ - (2097152 - (sl : Int)))) (w : World) :
    Calls Tryz.prog 107 #[.agg #[.iface 78 (.slice da dl dc), .iface 79 (.slice sa sl sc)], .int .i64 kind, .int .i64 at_] w fun e w' => e = .panicked [{ v := .iface 97 (.int .i64 4), recovered := false }] ∧ Below w.heap.size w w' := by
  have P0 : Hid ((w.alloc (.cells #[.iface 78 (.slice da dl dc), .iface 79 (.slice sa sl sc)] 53)).heap[w.heap.size]? = some (.cells #[.iface 78 (.slice da dl dc), .iface 79 (.slice sa sl sc)] 53)) := heap_alloc_new w _
  have hi0 : ∀ w, (Instr.index 53 (.agg #[.iface 78 (.slice da dl dc), .iface 79 (.slice sa sl sc)]) (.int .i64 0)).run Tryz.prog w = .ok (.iface 78 (.slice da dl dc)) w := fun _ => by kernel_rfl
  have hi1 : ∀ w, (Instr.index 53 (.agg #[.iface 78 (.slice da dl dc), .iface 79 (.slice sa sl sc)]) (.int .i64 1)).run Tryz.prog w = .ok (.iface 79 (.slice sa sl sc)) w := fun _ => by kernel_rfl
  have hm0 : ∀ w : World, (method 260 78 (.slice da dl dc) "loop.example/s01681/impl.reach").run Tryz.prog w = .ok (172, .slice da dl dc) w := fun _ => by kernel_rfl
  have hm1 : ∀ w : World, (method 260 79 (.slice sa sl sc) "loop.example/s01681/impl.reach").run Tryz.prog w = .ok (174, .slice sa sl sc) w := fun _ => by kernel_rfl
  have hq : ∀ (w : World) (a : Option Addr) (n c n' c' : Nat), (binOp .neq 22 (.slice a n c) (.slice none n' c')).run Tryz.prog w = .ok (.bool (!a.isNone)) w := fun w a n c n' c' => run_neq_slice_nil_any w _ _ a n c n' c' Tryz.underlying22
  have ha' : (at_.tmod (size : Int) != 0) = false := by rw [ha]; rfl
  have hs0 : ((size : Int) == 0) = false := by simp; omega
  clear ha
  go_enter Tryz.func107, Tryz.ntmps107
  go_wp2_with (first | (go_at_call 122; refine (implKindSize_any _ _).mono ?_; rintro e w' ⟨rfl, rfl⟩; rw [hk]) | (refine wpList_load_row rfl 53 _ rfl (w.heap.size) ?hx 53 #[.iface 78 (.slice da dl dc), .iface 79 (.slice sa sl sc)] (0, 0) _ ?hg Tryz.underlying53 ?hd ?hi ?_; (case hx => rfl); (case hg => exact P0.out); (case hd => rfl); (case hi => kernel_rfl)))
  go_loop [22] (fun i => i = .int .i64 0 ∨ i = .int .i64 1 ∨ i = .int .i64 2) (fun i => 2 - (intOf i).toNat)
  case atStart => exact .inl rfl
  case round =>
    rcases hrel with rfl | rfl | rfl
    · go_wp2_with (go_at_call 172; refine (data_out da dl dc _ size hl hb hs hd0.out _).mono ?_; rintro e w' ⟨rfl, rfl⟩)
      go_round
      case rel => exact .inr (.inl rfl)
      case measure => simp [intOf]
    · go_wp2_with (go_at_call 174; refine (stack_out sa sl sc _ size hl' hb hs hd1.out _).mono ?_; rintro e w' ⟨rfl, rfl⟩)
      go_round
      case rel => exact .inr (.inr rfl)
      case measure => simp [intOf]
    · go_wp2_with fail
      exact ⟨rfl, rfl, below_alloc _ _⟩
end Go.Proofs.YtjdfffdeljgenaaGreatDoor.W
namespace Go.Proofs.YtjdfffdeljgenaaGreatDoor.Pl
def ldk (zs : List Int) (p : Nat) : Nat → Int
  | 0 => 0
  | k + 1 => ldk zs p k + zs.getD (p + k) 0 * pw (8 * k)
theorem ldk_bd {zs : List Int} (hz : ∀ n ∈ zs, 0 ≤ n ∧ n ≤ 255) (p : Nat) : ∀ k, 0 ≤ ldk zs p k ∧ ldk zs p k < pw (8 * k) := by
  intro k
  induction k with
  | zero => exact ⟨Int.le_refl 0, by show (0 : Int) < pw 0; decide⟩
  | succ k ih =>
    have hx : 0 ≤ zs.getD (p + k) 0 ∧ zs.getD (p + k) 0 ≤ 255 := by
      rw [List.getD_eq_getElem?_getD]
      cases h : zs[p + k]? with
      | none => exact ⟨by decide, by decide⟩
      | some x => exact hz x (List.mem_of_getElem? h)
    have e : pw (8 * (k + 1)) = pw (8 * k) * 256 := by
      have : 8 * (k + 1) = 8 * k + 8 := by omega
      rw [this]
      simp only [pw, Int.pow_add]
      rfl
    have hp := pw_pos (8 * k)
    unfold ldk
    rw [e]
    generalize zs.getD (p + k) 0 = x at hx
    generalize pw (8 * k) = q at ih hp
    obtain ⟨h1, h2⟩ := hx
    refine ⟨Int.add_nonneg ih.1 (Int.mul_nonneg h1 (by omega)), ?_⟩
    have : x * q ≤ 255 * q := Int.mul_le_mul_of_nonneg_right h2 (by omega)
    omega
end Go.Proofs.YtjdfffdeljgenaaGreatDoor.Pl
namespace Go.Proofs.YtjdfffdeljgenaaGreatDoor.W
open Go.RowKit
set_option maxHeartbeats 1000000 in
theorem load_bad (da sa : Option Addr) (dl dc sl sc : Nat) (kind at_ code : Int) (w : World)
    (HF : Hid (∀ W, Calls Tryz.prog 107 #[.agg #[.iface 78 (.slice da dl dc), .iface 79 (.slice sa sl sc)], .int .i64 kind, .int .i64 at_] W fun e w' => e = .panicked [{ v := .iface 97 (.int .i64 code), recovered := false }] ∧ Below W.heap.size W w')) :
    Calls Tryz.prog 81 #[.agg #[.iface 78 (.slice da dl dc), .iface 79 (.slice sa sl sc)], .int .i64 kind, .int .i64 at_] w fun e w' => e = .panicked [{ v := .iface 97 (.int .i64 code), recovered := false }] ∧ Below w.heap.size w w' := by
  have P0 : Hid ((w.alloc (.cells #[.iface 78 (.slice da dl dc), .iface 79 (.slice sa sl sc)] 53)).heap[w.heap.size]? = some (.cells #[.iface 78 (.slice da dl dc), .iface 79 (.slice sa sl sc)] 53)) := heap_alloc_new w _
  go_enter Tryz.func81, Tryz.ntmps81
  go_wp2_with (refine wpList_load_row rfl 53 _ rfl (w.heap.size) ?hx 53 #[.iface 78 (.slice da dl dc), .iface 79 (.slice sa sl sc)] (0, 0) _ ?hg Tryz.underlying53 ?hd ?hi ?_; (case hx => rfl); (case hg => exact P0.out); (case hd => rfl); (case hi => kernel_rfl))
  refine (HF.out _).mono ?_
  rintro e u1 ⟨rfl, d1⟩
  go_wp2_with fail
  exact ⟨rfl, rfl, (below_alloc w _).trans (d1.mono (by simp))⟩
set_option maxHeartbeats 4000000 in
theorem load_good (da sa : Option Addr) (dl dc sl sc : Nat) (kind at_ : Int) (b off p size cap lo len0 : Nat) (zs : List Int) (hs : 1 ≤ size ∧ size ≤ 4) (w : World) (hbl : b < w.heap.size) (hz : ∀ n ∈ zs, 0 ≤ n ∧ n ≤ 255)
    (hc : ∀ i, i < size → w.cell? ⟨b, off + p + i, none⟩ = some (.int .u8 (zs.getD (p + i) 0)))
    (HF : Hid (∀ W, Calls Tryz.prog 107 #[.agg #[.iface 78 (.slice da dl dc), .iface 79 (.slice sa sl sc)], .int .i64 kind, .int .i64 at_] W fun e w' => e = .returned (.slice (some ⟨b, off + p, none⟩) size cap) ∧ Below W.heap.size W w')) :
    Calls Tryz.prog 81 #[.agg #[.iface 78 (.slice da dl dc), .iface 79 (.slice sa sl sc)], .int .i64 kind, .int .i64 at_] w fun e w' => e = .returned (.int .i64 (Pl.nr kind (Pl.ldk zs p size))) ∧ Below w.heap.size w w' := by
  have P0 : Hid ((w.alloc (.cells #[.iface 78 (.slice da dl dc), .iface 79 (.slice sa sl sc)] 53)).heap[w.heap.size]? = some (.cells #[.iface 78 (.slice da dl dc), .iface 79 (.slice sa sl sc)] 53)) := heap_alloc_new w _
  have HC : Hid (∀ i, i < size → w.cell? ⟨b, off + p + i, none⟩ = some (.int .u8 (zs.getD (p + i) 0))) := hc
  have HZ : Hid (∀ n ∈ zs, 0 ≤ n ∧ n ≤ 255) := hz
  clear hc hz
  go_enter Tryz.func81, Tryz.ntmps81
  go_wp2_with (refine wpList_load_row rfl 53 _ rfl (w.heap.size) ?hx 53 #[.iface 78 (.slice da dl dc), .iface 79 (.slice sa sl sc)] (0, 0) _ ?hg Tryz.underlying53 ?hd ?hi ?_; (case hx => rfl); (case hg => exact P0.out); (case hd => rfl); (case hi => kernel_rfl))
  refine (HF.out _).mono ?_
  rintro e u1 ⟨rfl, d1⟩
  have B1 : Hid (Below w.heap.size w u1) := (below_alloc w _).trans (d1.mono (by simp))
  clear d1 P0 HF
  go_wp2_with fail
  go_loop [7, 17] (fun v i => ∃ k : Nat, k ≤ size ∧ i = .int .i64 k ∧ v = .int .i64 (Pl.ldk zs p k)) (fun _ i => size - (intOf i).toNat)
  case atStart => exact ⟨0, Nat.zero_le _, rfl, rfl⟩
  case round =>
    obtain ⟨k, hk, rfl, rfl⟩ := hrel
    by_cases hlt : k < size
    · obtain ⟨x, hx⟩ : ∃ x, x = zs.getD (p + k) 0 := ⟨_, rfl⟩
      have hcell : u1.cell? ⟨b, off + p + k, none⟩ = some (.int .u8 x) := by rw [hx, B1.out.cell (by exact hbl)]; exact HC.out k hlt
      have hxb : 0 ≤ x ∧ x ≤ 255 := by
        rw [hx, List.getD_eq_getElem?_getD]
        cases h : zs[p + k]? with
        | none => exact ⟨by decide, by decide⟩
        | some y => exact HZ.out y (List.mem_of_getElem? h)
      obtain ⟨v, hv⟩ : ∃ v, v = Pl.ldk zs p k := ⟨_, rfl⟩
      have hvb := Pl.ldk_bd HZ.out p k
      have HS : Hid (Pl.ldk zs p (k + 1) = v + x * Pl.pw (8 * k)) := by show Pl.ldk zs p (k + 1) = _; rw [hv, hx]; rfl
      rw [← hv] at hvb ⊢
      clear hx hv
      rcases (show k = 0 ∨ k = 1 ∨ k = 2 ∨ k = 3 by omega) with rfl | rfl | rfl | rfl
      · have hq : Pl.pw (8 * 0) = 1 := by decide
        rw [hq] at hvb HS
        clear hq
        rw [Nat.add_zero] at hcell
        have HT : Hid (Pl.ldk zs p 1 = v + x * 1) := HS.out
        clear HS
        go_wp2
        go_round
        case rel => exact ⟨1, by omega, rfl, congrArg (Value.int .i64) (by have h := HT.out; omega)⟩
        case measure => simp [intOf]; omega
      · have hq : Pl.pw (8 * 1) = 256 := by decide
        rw [hq] at hvb HS
        clear hq
        have HT : Hid (Pl.ldk zs p 2 = v + x * 256) := HS.out
        clear HS
        go_wp2
        go_round
        case rel => exact ⟨2, by omega, rfl, congrArg (Value.int .i64) (by have h := HT.out; omega)⟩
        case measure => simp [intOf]; omega
      · have hq : Pl.pw (8 * 2) = 65536 := by decide
        rw [hq] at hvb HS
        clear hq
        have HT : Hid (Pl.ldk zs p 3 = v + x * 65536) := HS.out
        clear HS
        go_wp2
        go_round
        case rel => exact ⟨3, by omega, rfl, congrArg (Value.int .i64) (by have h := HT.out; omega)⟩
        case measure => simp [intOf]; omega
      · have hq : Pl.pw (8 * 3) = 16777216 := by decide
        rw [hq] at hvb HS
        clear hq
        have HT : Hid (Pl.ldk zs p 4 = v + x * 16777216) := HS.out
        clear HS
        go_wp2
        go_round
        case rel => exact ⟨4, by omega, rfl, congrArg (Value.int .i64) (by have h := HT.out; omega)⟩
        case measure => simp [intOf]; omega
    · have hke : k = size := by omega
      subst hke
      go_wp2_with (go_at_call 108; refine (implNarrow_any _ _ _).mono ?_; rintro e w' ⟨rfl, rfl⟩)
      go_ret
      exact ⟨rfl, B1.out⟩
end Go.Proofs.YtjdfffdeljgenaaGreatDoor.W
namespace Go.Proofs.YtjdfffdeljgenaaGreatDoor.Pl
def upc (zs : List Int) (p size : Nat) : Nat → Int
  | 0 => 0
  | c + 1 => upc zs p size c * 256 + zs.getD (p + (size - 1 - c)) 0
theorem byte_at {zs : List Int} (hz : ∀ n ∈ zs, 0 ≤ n ∧ n ≤ 255) (i : Nat) : 0 ≤ zs.getD i 0 ∧ zs.getD i 0 ≤ 255 := by
  rw [List.getD_eq_getElem?_getD]
  cases h : zs[i]? with
  | none => exact ⟨by decide, by decide⟩
  | some x => exact hz x (List.mem_of_getElem? h)
theorem upc_bd {zs : List Int} (hz : ∀ n ∈ zs, 0 ≤ n ∧ n ≤ 255) (p size : Nat) : ∀ c, c ≤ 4 → 0 ≤ upc zs p size c ∧ upc zs p size c ≤ 4294967295 := by
  have h0 := byte_at hz (p + (size - 1 - 0))
  have h1 := byte_at hz (p + (size - 1 - 1))
  have h2 := byte_at hz (p + (size - 1 - 2))
  have h3 := byte_at hz (p + (size - 1 - 3))
  intro c hc
  rcases (show c = 0 ∨ c = 1 ∨ c = 2 ∨ c = 3 ∨ c = 4 by omega) with rfl | rfl | rfl | rfl | rfl
  all_goals simp only [upc]; omega
theorem upc_ldk {zs : List Int} (p size : Nat) (hs : size = 1 ∨ size = 2 ∨ size = 4) : upc zs p size size = ldk zs p size := by
  have e0 : pw (8 * 0) = 1 := by decide
  have e1 : pw (8 * 1) = 256 := by decide
  have e2 : pw (8 * 2) = 65536 := by decide
  have e3 : pw (8 * 3) = 16777216 := by decide
  rcases hs with rfl | rfl | rfl
  all_goals simp only [upc, ldk, e0, e1, e2, e3, Nat.reduceSub]; omega
end Go.Proofs.YtjdfffdeljgenaaGreatDoor.Pl
namespace Go.Proofs.YtjdfffdeljgenaaGreatDoor.W
open Go.RowKit
theorem retp {a b c d : Int} (h1 : a = b) (h2 : c = d) : Ending.returned (.tuple #[.int .i64 a, .int .i64 c]) = .returned (.tuple #[.int .i64 b, .int .i64 d]) := by rw [h1, h2]
set_option maxHeartbeats 1000000 in
theorem spot_data (v : MV) (m : Pl.Mac) (gm : Nat) (at_ : Int) (p size : Nat) (w : World) (hm : w.heap[gm]? = some (.cells #[.slice v.code.a v.code.len v.code.cap, .int .i64 m.pc, .slice v.regs.a v.regs.len v.regs.cap, .slice v.data.a v.data.len v.data.cap, .slice v.stk.a v.stk.len v.stk.cap, .slice v.inp.a v.inp.len v.inp.cap, .slice v.out.a v.out.len v.out.cap, .int .i64 m.steps, .int .i64 m.fin, .int .i64 m.val] 25)) (hb : -9223372036854775808 ≤ at_ ∧ at_ ≤ 9223372036854775807) (hl : v.data.len ≤ 65536) (hl' : v.stk.len ≤ 65536) (hs : 1 ≤ size ∧ size ≤ 4) (hp : at_ = 1048576 + p) (h2 : p + size ≤ v.data.len) :
    Calls Tryz.prog 104 #[.pointer (some ⟨gm, 0, none⟩), .int .i64 at_, .int .i64 (size : Int)] w fun e w' => e = .returned (.tuple #[.int .i64 1, .int .i64 (p : Int)]) ∧ w' = w := by
  have km : ∀ j, w.cell? ⟨gm, j, none⟩ = (#[.slice v.code.a v.code.len v.code.cap, .int .i64 m.pc, .slice v.regs.a v.regs.len v.regs.cap, .slice v.data.a v.data.len v.data.cap, .slice v.stk.a v.stk.len v.stk.cap, .slice v.inp.a v.inp.len v.inp.cap, .slice v.out.a v.out.len v.out.cap, .int .i64 m.steps, .int .i64 m.fin, .int .i64 m.val] : Array Value)[j]? := fun j => cell_of_row w gm j _ 25 (0, 0) hm
  clear hm
  subst hp
  go_enter Tryz.func104, Tryz.ntmps104
  go_wp2
  go_ret2
  exact ⟨retp rfl (by omega), rfl⟩
set_option maxHeartbeats 1000000 in
theorem spot_stack (v : MV) (m : Pl.Mac) (gm : Nat) (at_ : Int) (p size : Nat) (w : World) (hm : w.heap[gm]? = some (.cells #[.slice v.code.a v.code.len v.code.cap, .int .i64 m.pc, .slice v.regs.a v.regs.len v.regs.cap, .slice v.data.a v.data.len v.data.cap, .slice v.stk.a v.stk.len v.stk.cap, .slice v.inp.a v.inp.len v.inp.cap, .slice v.out.a v.out.len v.out.cap, .int .i64 m.steps, .int .i64 m.fin, .int .i64 m.val] 25)) (hb : -9223372036854775808 ≤ at_ ∧ at_ ≤ 9223372036854775807) (hl : v.data.len ≤ 65536) (hl' : v.stk.len ≤ 65536) (hs : 1 ≤ size ∧ size ≤ 4) (hd0 : at_ < 1048576 ∨ (v.data.len : Int) - size < at_ - 1048576) (hp : at_ = 2097152 - (v.stk.len : Int) + p) (h2 : p + size ≤ v.stk.len) :
    Calls Tryz.prog 104 #[.pointer (some ⟨gm, 0, none⟩), .int .i64 at_, .int .i64 (size : Int)] w fun e w' => e = .returned (.tuple #[.int .i64 2, .int .i64 (p : Int)]) ∧ w' = w := by
  have km : ∀ j, w.cell? ⟨gm, j, none⟩ = (#[.slice v.code.a v.code.len v.code.cap, .int .i64 m.pc, .slice v.regs.a v.regs.len v.regs.cap, .slice v.data.a v.data.len v.data.cap, .slice v.stk.a v.stk.len v.stk.cap, .slice v.inp.a v.inp.len v.inp.cap, .slice v.out.a v.out.len v.out.cap, .int .i64 m.steps, .int .i64 m.fin, .int .i64 m.val] : Array Value)[j]? := fun j => cell_of_row w gm j _ 25 (0, 0) hm
  clear hm
  have hd : ¬ at_ - 1048576 ≤ (v.data.len : Int) - size := by omega
  clear hd0
  go_enter Tryz.func104, Tryz.ntmps104
  go_wp2
  go_ret2
  exact ⟨retp rfl (by omega), rfl⟩
set_option maxHeartbeats 2000000 in
theorem spot_none (v : MV) (m : Pl.Mac) (gm : Nat) (at_ : Int) (size : Nat) (w : World) (hm : w.heap[gm]? = some (.cells #[.slice v.code.a v.code.len v.code.cap, .int .i64 m.pc, .slice v.regs.a v.regs.len v.regs.cap, .slice v.data.a v.data.len v.data.cap, .slice v.stk.a v.stk.len v.stk.cap, .slice v.inp.a v.inp.len v.inp.cap, .slice v.out.a v.out.len v.out.cap, .int .i64 m.steps, .int .i64 m.fin, .int .i64 m.val] 25)) (hb : -9223372036854775808 ≤ at_ ∧ at_ ≤ 9223372036854775807) (hl : v.data.len ≤ 65536) (hl' : v.stk.len ≤ 65536) (hs : 1 ≤ size ∧ size ≤ 4) (hd0 : at_ < 1048576 ∨ (v.data.len : Int) - size < at_ - 1048576) (hd1 : at_ < 2097152 - (v.stk.len : Int) ∨ (v.stk.len : Int) - size < at_ - (2097152 - (v.stk.len : Int))) :
    Calls Tryz.prog 104 #[.pointer (some ⟨gm, 0, none⟩), .int .i64 at_, .int .i64 (size : Int)] w fun e w' => e = .returned (.tuple #[.int .i64 0, .int .i64 0]) ∧ w' = w := by
  have km : ∀ j, w.cell? ⟨gm, j, none⟩ = (#[.slice v.code.a v.code.len v.code.cap, .int .i64 m.pc, .slice v.regs.a v.regs.len v.regs.cap, .slice v.data.a v.data.len v.data.cap, .slice v.stk.a v.stk.len v.stk.cap, .slice v.inp.a v.inp.len v.inp.cap, .slice v.out.a v.out.len v.out.cap, .int .i64 m.steps, .int .i64 m.fin, .int .i64 m.val] : Array Value)[j]? := fun j => cell_of_row w gm j _ 25 (0, 0) hm
  clear hm
  by_cases w1 : at_ - 1048576 < -9223372036854775808
  · have e1 : wrap64 (at_ - 1048576) = at_ - 1048576 + 18446744073709551616 := by simp only [wrap64]; omega
    have e2 : wrap64 (at_ - (2097152 - (v.stk.len : Int))) = at_ - (2097152 - (v.stk.len : Int)) + 18446744073709551616 := by simp only [wrap64]; omega
    clear hd0 hd1
    go_enter Tryz.func104, Tryz.ntmps104
    go_wp2
    go_ret2
    exact ⟨rfl, rfl⟩
  by_cases w2 : at_ - (2097152 - (v.stk.len : Int)) < -9223372036854775808
  · have e2 : wrap64 (at_ - (2097152 - (v.stk.len : Int))) = at_ - (2097152 - (v.stk.len : Int)) + 18446744073709551616 := by simp only [wrap64]; omega
    clear hd0 hd1
    go_enter Tryz.func104, Tryz.ntmps104
    go_wp2
    go_ret2
    exact ⟨rfl, rfl⟩
  rcases (show at_ < 1048576 ∨ (1048576 ≤ at_ ∧ (v.data.len : Int) - size < at_ - 1048576 ∧ at_ < 2097152 - (v.stk.len : Int)) ∨ (2097152 - (v.stk.len : Int) ≤ at_ ∧ (v.stk.len : Int) - size < at_ - (2097152 - (v.stk.len : Int))) by omega) with h0 | ⟨h0, h1, h2⟩ | ⟨h0, h1⟩
  all_goals
    clear hd0 hd1
    go_enter Tryz.func104, Tryz.ntmps104
    go_wp2
    go_ret2
    exact ⟨rfl, rfl⟩
set_option maxHeartbeats 1000000 in
theorem l3Load_align (gm : Nat) (kind at_ : Int) (size : Nat) (hs : 1 ≤ size ∧ size ≤ 4) (hk : Pl.ks kind = size) (ha : (at_.tmod (size : Int) != 0) = true) (w : World) :
    Calls Tryz.prog 73 #[.pointer (some ⟨gm, 0, none⟩), .int .i64 kind, .int .i64 at_] w fun e w' => e = .returned (.tuple #[.int .i64 0, .int .i64 3]) ∧ w' = w := by
  go_enter Tryz.func73, Tryz.ntmps73
  go_wp2_with (go_at_call 103; refine (specKindSize_any _ _).mono ?_; rintro e w' ⟨rfl, rfl⟩; rw [hk])
  go_ret2
  exact ⟨rfl, rfl⟩
set_option maxHeartbeats 1000000 in
theorem l3Load_none (v : MV) (m : Pl.Mac) (gm : Nat) (kind at_ : Int) (size : Nat) (w : World) (hm : w.heap[gm]? = some (.cells #[.slice v.code.a v.code.len v.code.cap, .int .i64 m.pc, .slice v.regs.a v.regs.len v.regs.cap, .slice v.data.a v.data.len v.data.cap, .slice v.stk.a v.stk.len v.stk.cap, .slice v.inp.a v.inp.len v.inp.cap, .slice v.out.a v.out.len v.out.cap, .int .i64 m.steps, .int .i64 m.fin, .int .i64 m.val] 25)) (hb : -9223372036854775808 ≤ at_ ∧ at_ ≤ 9223372036854775807) (hl : v.data.len ≤ 65536) (hl' : v.stk.len ≤ 65536) (hs : 1 ≤ size ∧ size ≤ 4) (hk : Pl.ks kind = size) (ha : (at_.tmod (size : Int) != 0) = false) (hd0 : Hid (at_ < 1048576 ∨ (v.data.len : Int) - size < at_ - 1048576)) (hd1 : Hid (at_ < 2097152 - (v.stk.len : Int) ∨ (v.stk.len : Int) - size < at_ - (2097152 - (v.stk.len : Int)))) :
    Calls Tryz.prog 73 #[.pointer (some ⟨gm, 0, none⟩), .int .i64 kind, .int .i64 at_] w fun e w' => e = .returned (.tuple #[.int .i64 0, .int .i64 4]) ∧ w' = w := by
  have HM : Hid (w.heap[gm]? = some (.cells #[.slice v.code.a v.code.len v.code.cap, .int .i64 m.pc, .slice v.regs.a v.regs.len v.regs.cap, .slice v.data.a v.data.len v.data.cap, .slice v.stk.a v.stk.len v.stk.cap, .slice v.inp.a v.inp.len v.inp.cap, .slice v.out.a v.out.len v.out.cap, .int .i64 m.steps, .int .i64 m.fin, .int .i64 m.val] 25)) := hm
  have hs0 : ((size : Int) == 0) = false := by simp; omega
  clear hm
  go_enter Tryz.func73, Tryz.ntmps73
  go_wp2_with (first | (go_at_call 103; refine (specKindSize_any _ _).mono ?_; rintro e w' ⟨rfl, rfl⟩; rw [hk]) | (go_at_call 104; refine (spot_none v m gm _ size _ HM.out hb hl hl' hs hd0.out hd1.out).mono ?_; rintro e w' ⟨rfl, rfl⟩))
  go_ret2
  exact ⟨rfl, rfl⟩
set_option maxHeartbeats 4000000 in
theorem l3Load_data (v : MV) (m : Pl.Mac) (gm : Nat) (kind at_ : Int) (b off p size : Nat) (zs : List Int) (w : World) (hm : w.heap[gm]? = some (.cells #[.slice v.code.a v.code.len v.code.cap, .int .i64 m.pc, .slice v.regs.a v.regs.len v.regs.cap, .slice v.data.a v.data.len v.data.cap, .slice v.stk.a v.stk.len v.stk.cap, .slice v.inp.a v.inp.len v.inp.cap, .slice v.out.a v.out.len v.out.cap, .int .i64 m.steps, .int .i64 m.fin, .int .i64 m.val] 25)) (hb : -9223372036854775808 ≤ at_ ∧ at_ ≤ 9223372036854775807) (hl : v.data.len ≤ 65536) (hl' : v.stk.len ≤ 65536) (hs : 1 ≤ size ∧ size ≤ 4) (hs4 : size = 1 ∨ size = 2 ∨ size = 4) (hk : Pl.ks kind = size) (ha : (at_.tmod (size : Int) != 0) = false)  (hp : Hid (at_ = 1048576 + p)) (h2 : p + size ≤ v.data.len) (hadr : v.data.a = some ⟨b, off, none⟩)
    (HZ : Hid (∀ n ∈ zs, 0 ≤ n ∧ n ≤ 255)) (HC : Hid (∀ i, i < size → w.cell? ⟨b, off + (p + i), none⟩ = some (.int .u8 (zs.getD (p + i) 0)))) :
    Calls Tryz.prog 73 #[.pointer (some ⟨gm, 0, none⟩), .int .i64 kind, .int .i64 at_] w fun e w' => e = .returned (.tuple #[.int .i64 (Pl.nr kind (Pl.ldk zs p size)), .int .i64 0]) ∧ w' = w := by
  have HM : Hid (w.heap[gm]? = some (.cells #[.slice v.code.a v.code.len v.code.cap, .int .i64 m.pc, .slice v.regs.a v.regs.len v.regs.cap, .slice v.data.a v.data.len v.data.cap, .slice v.stk.a v.stk.len v.stk.cap, .slice v.inp.a v.inp.len v.inp.cap, .slice v.out.a v.out.len v.out.cap, .int .i64 m.steps, .int .i64 m.fin, .int .i64 m.val] 25)) := hm
  have hs0 : ((size : Int) == 0) = false := by simp; omega
  have km : ∀ j, w.cell? ⟨gm, j, none⟩ = (#[.slice v.code.a v.code.len v.code.cap, .int .i64 m.pc, .slice v.regs.a v.regs.len v.regs.cap, .slice v.data.a v.data.len v.data.cap, .slice v.stk.a v.stk.len v.stk.cap, .slice v.inp.a v.inp.len v.inp.cap, .slice v.out.a v.out.len v.out.cap, .int .i64 m.steps, .int .i64 m.fin, .int .i64 m.val] : Array Value)[j]? := fun j => cell_of_row w gm j _ 25 (0, 0) hm
  rw [hadr] at km
  clear hm
  rw [← Pl.upc_ldk p size hs4]
  go_enter Tryz.func73, Tryz.ntmps73
  go_wp2_with (first | (go_at_call 103; refine (specKindSize_any _ _).mono ?_; rintro e w' ⟨rfl, hw'⟩; rw [hw', hk]; clear hw') | (go_at_call 104; refine (spot_data v m gm _ p size _ HM.out hb hl hl' hs hp.out h2).mono ?_; rintro e w' ⟨rfl, hw'⟩; rw [hw']; clear hw'))
  go_loop [12, 13] (fun x i => ∃ c : Nat, c ≤ size ∧ i = .int .i64 ((size : Int) - 1 - c) ∧ x = .int .i64 (Pl.upc zs p size c)) (fun _ i => (intOf i + 1).toNat)
  case atStart => exact ⟨0, Nat.zero_le _, by simp, rfl⟩
  case round =>
    obtain ⟨c, hc, rfl, rfl⟩ := hrel
    obtain ⟨x, hx⟩ : ∃ x, x = Pl.upc zs p size c := ⟨_, rfl⟩
    have hxb := Pl.upc_bd HZ.out p size c (by omega)
    rw [← hx] at hxb ⊢
    have HX : Hid (x = Pl.upc zs p size c) := hx
    clear hx
    by_cases hlt : c < size
    · obtain ⟨q, hq⟩ : ∃ q : Nat, q = size - 1 - c := ⟨_, rfl⟩
      have hqi : (size : Int) - 1 - c = (q : Int) := by omega
      obtain ⟨y, hy⟩ : ∃ y, y = zs.getD (p + q) 0 := ⟨_, rfl⟩
      have hcell : w.cell? ⟨b, off + (p + q), none⟩ = some (.int .u8 y) := by rw [hy]; exact HC.out q (by omega)
      have hyb := Pl.byte_at HZ.out (p + q)
      rw [← hy] at hyb
      have HS : Hid (Pl.upc zs p size (c + 1) = x * 256 + y) := by show Pl.upc zs p size (c + 1) = _; rw [HX.out, hy, hq]; rfl
      have HQ : Hid (q = size - 1 - c) := hq
      have hqb : q < size := by omega
      rw [hqi]
      clear hy hq hqi
      go_wp2
      go_round
      case rel => exact ⟨c + 1, by omega, congrArg (Value.int .i64) (by have := HQ.out; omega), congrArg (Value.int .i64) HS.out.symm⟩
      case measure => simp [intOf]
    · have hce : c = size := by omega
      subst hce
      have hx' : (c : Int) - 1 - c = -1 := by omega
      rw [hx']
      rw [HX.out]
      go_wp2_with (go_at_call 105; refine (specNarrow_any _ _ _).mono ?_; rintro e w' ⟨rfl, rfl⟩)
      go_ret2
      exact ⟨rfl, rfl⟩
set_option maxHeartbeats 4000000 in
theorem l3Load_stack (v : MV) (m : Pl.Mac) (gm : Nat) (kind at_ : Int) (b off p size : Nat) (zs : List Int) (w : World) (hm : w.heap[gm]? = some (.cells #[.slice v.code.a v.code.len v.code.cap, .int .i64 m.pc, .slice v.regs.a v.regs.len v.regs.cap, .slice v.data.a v.data.len v.data.cap, .slice v.stk.a v.stk.len v.stk.cap, .slice v.inp.a v.inp.len v.inp.cap, .slice v.out.a v.out.len v.out.cap, .int .i64 m.steps, .int .i64 m.fin, .int .i64 m.val] 25)) (hb : -9223372036854775808 ≤ at_ ∧ at_ ≤ 9223372036854775807) (hl : v.data.len ≤ 65536) (hl' : v.stk.len ≤ 65536) (hs : 1 ≤ size ∧ size ≤ 4) (hs4 : size = 1 ∨ size = 2 ∨ size = 4) (hk : Pl.ks kind = size) (ha : (at_.tmod (size : Int) != 0) = false) (hd0 : Hid (at_ < 1048576 ∨ (v.data.len : Int) - size < at_ - 1048576)) (hp : Hid (at_ = 2097152 - (v.stk.len : Int) + p)) (h2 : p + size ≤ v.stk.len) (hadr : v.stk.a = some ⟨b, off, none⟩)
    (HZ : Hid (∀ n ∈ zs, 0 ≤ n ∧ n ≤ 255)) (HC : Hid (∀ i, i < size → w.cell? ⟨b, off + (p + i), none⟩ = some (.int .u8 (zs.getD (p + i) 0)))) :
    Calls Tryz.prog 73 #[.pointer (some ⟨gm, 0, none⟩), .int .i64 kind, .int .i64 at_] w fun e w' => e = .returned (.tuple #[.int .i64 (Pl.nr kind (Pl.ldk zs p size)), .int .i64 0]) ∧ w' = w := by
  have HM : Hid (w.heap[gm]? = some (.cells #[.slice v.code.a v.code.len v.code.cap, .int .i64 m.pc, .slice v.regs.a v.regs.len v.regs.cap, .slice v.data.a v.data.len v.data.cap, .slice v.stk.a v.stk.len v.stk.cap, .slice v.inp.a v.inp.len v.inp.cap, .slice v.out.a v.out.len v.out.cap, .int .i64 m.steps, .int .i64 m.fin, .int .i64 m.val] 25)) := hm
  have hs0 : ((size : Int) == 0) = false := by simp; omega
  have km : ∀ j, w.cell? ⟨gm, j, none⟩ = (#[.slice v.code.a v.code.len v.code.cap, .int .i64 m.pc, .slice v.regs.a v.regs.len v.regs.cap, .slice v.data.a v.data.len v.data.cap, .slice v.stk.a v.stk.len v.stk.cap, .slice v.inp.a v.inp.len v.inp.cap, .slice v.out.a v.out.len v.out.cap, .int .i64 m.steps, .int .i64 m.fin, .int .i64 m.val] : Array Value)[j]? := fun j => cell_of_row w gm j _ 25 (0, 0) hm
  rw [hadr] at km
  clear hm
  rw [← Pl.upc_ldk p size hs4]
  go_enter Tryz.func73, Tryz.ntmps73
  go_wp2_with (first | (go_at_call 103; refine (specKindSize_any _ _).mono ?_; rintro e w' ⟨rfl, hw'⟩; rw [hw', hk]; clear hw') | (go_at_call 104; refine (spot_stack v m gm _ p size _ HM.out hb hl hl' hs hd0.out hp.out h2).mono ?_; rintro e w' ⟨rfl, hw'⟩; rw [hw']; clear hw'))
  go_loop [12, 13] (fun x i => ∃ c : Nat, c ≤ size ∧ i = .int .i64 ((size : Int) - 1 - c) ∧ x = .int .i64 (Pl.upc zs p size c)) (fun _ i => (intOf i + 1).toNat)
  case atStart => exact ⟨0, Nat.zero_le _, by simp, rfl⟩
  case round =>
    obtain ⟨c, hc, rfl, rfl⟩ := hrel
    obtain ⟨x, hx⟩ : ∃ x, x = Pl.upc zs p size c := ⟨_, rfl⟩
    have hxb := Pl.upc_bd HZ.out p size c (by omega)
    rw [← hx] at hxb ⊢
    have HX : Hid (x = Pl.upc zs p size c) := hx
    clear hx
    by_cases hlt : c < size
    · obtain ⟨q, hq⟩ : ∃ q : Nat, q = size - 1 - c := ⟨_, rfl⟩
      have hqi : (size : Int) - 1 - c = (q : Int) := by omega
      obtain ⟨y, hy⟩ : ∃ y, y = zs.getD (p + q) 0 := ⟨_, rfl⟩
      have hcell : w.cell? ⟨b, off + (p + q), none⟩ = some (.int .u8 y) := by rw [hy]; exact HC.out q (by omega)
      have hyb := Pl.byte_at HZ.out (p + q)
      rw [← hy] at hyb
      have HS : Hid (Pl.upc zs p size (c + 1) = x * 256 + y) := by show Pl.upc zs p size (c + 1) = _; rw [HX.out, hy, hq]; rfl
      have HQ : Hid (q = size - 1 - c) := hq
      have hqb : q < size := by omega
      rw [hqi]
      clear hy hq hqi
      go_wp2
      go_round
      case rel => exact ⟨c + 1, by omega, congrArg (Value.int .i64) (by have := HQ.out; omega), congrArg (Value.int .i64) HS.out.symm⟩
      case measure => simp [intOf]
    · have hce : c = size := by omega
      subst hce
      have hx' : (c : Int) - 1 - c = -1 := by omega
      rw [hx']
      rw [HX.out]
      go_wp2_with (go_at_call 105; refine (specNarrow_any _ _ _).mono ?_; rintro e w' ⟨rfl, rfl⟩)
      go_ret2
      exact ⟨rfl, rfl⟩
end Go.Proofs.YtjdfffdeljgenaaGreatDoor.W
