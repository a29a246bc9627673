import Derived.Test.YtfcfnbncgadomaaQ01
import Derived.WalkSpells
import Derived.WalkLawsBesides
import Derived.Defers
import Derived.Recover
set_option linter.unusedVariables false
namespace Go.Proofs.Ytfcfnbncgadomaa.W
open Go.RowKit
set_option maxHeartbeats 1000000 in
theorem cutAt_in (b off len cap : Nat) (base at_ : Int) (p size : Nat) (hl : len ≤ 65536) (hc : len ≤ cap) (hm : cap ≤ 9223372036854775807) (hb : 0 ≤ base ∧ base ≤ 2097152) (hp : at_ = base + p) (h1 : 1 ≤ size) (h2 : p + size ≤ len) (w : World) :
    Calls Try.prog 128 #[.slice (some ⟨b, off, none⟩) len cap, .int .i64 base, .int .i64 at_, .int .i64 (size : Int)] w fun e w' => e = .returned (.slice (some ⟨b, off + p, none⟩) size (cap - p)) ∧ w' = w := by
  subst hp
  go_enter Try.func128, Try.ntmps128
  go_wp2
  go_ret
  have e1 : (base + (p : Int) - base).toNat = p := by omega
  have e2 : (base + (p : Int) - base + (size : Int)).toNat - p = size := by omega
  exact ⟨by rw [e1, e2]; rfl, rfl⟩
theorem cutAt_out (a : Option Addr) (len cap : Nat) (base at_ : Int) (size : Nat) (hl : len ≤ 65536) (hb : 0 ≤ base ∧ base ≤ 2097152) (ha : -9223372036854775808 ≤ at_ ∧ at_ ≤ 9223372036854775807) (h1 : 1 ≤ size ∧ size ≤ 4) (h2 : at_ < base ∨ (len : Int) - size < at_ - base) (w : World) :
    Calls Try.prog 128 #[.slice a len cap, .int .i64 base, .int .i64 at_, .int .i64 (size : Int)] w fun e w' => e = .returned (.slice none 0 0) ∧ w' = w := by
  by_cases h : at_ < base
  · go_enter Try.func128, Try.ntmps128
    go_wp2
    go_ret
    exact ⟨rfl, rfl⟩
  · have h3 : (len : Int) - size < at_ - base := by omega
    clear h2
    go_enter Try.func128, Try.ntmps128
    go_wp2
    go_ret
    exact ⟨rfl, rfl⟩
theorem data_in (b off len cap : Nat) (at_ : Int) (p size : Nat) (hl : len ≤ 65536) (hc : len ≤ cap) (hm : cap ≤ 9223372036854775807) (hp : at_ = 1048576 + p) (h1 : 1 ≤ size) (h2 : p + size ≤ len) (w : World) :
    Calls Try.prog 127 #[.slice (some ⟨b, off, none⟩) len cap, .int .i64 at_, .int .i64 (size : Int)] w fun e w' => e = .returned (.slice (some ⟨b, off + p, none⟩) size (cap - p)) ∧ w' = w := by
  go_enter Try.func127, Try.ntmps127
  go_wp2_with (go_at_call 128; refine (cutAt_in b off len cap _ _ p size hl hc hm (by omega) (by omega) h1 h2 _).mono ?_; rintro e w' ⟨rfl, rfl⟩)
  go_ret
  exact ⟨rfl, rfl⟩
theorem data_out (a : Option Addr) (len cap : Nat) (at_ : Int) (size : Nat) (hl : len ≤ 65536) (ha : -9223372036854775808 ≤ at_ ∧ at_ ≤ 9223372036854775807) (h1 : 1 ≤ size ∧ size ≤ 4) (h2 : at_ < 1048576 ∨ (len : Int) - size < at_ - (1048576)) (w : World) :
    Calls Try.prog 127 #[.slice a len cap, .int .i64 at_, .int .i64 (size : Int)] w fun e w' => e = .returned (.slice none 0 0) ∧ w' = w := by
  go_enter Try.func127, Try.ntmps127
  go_wp2_with (go_at_call 128; refine (cutAt_out a len cap _ _ size hl (by omega) ha h1 (by omega) _).mono ?_; rintro e w' ⟨rfl, rfl⟩)
  go_ret
  exact ⟨rfl, rfl⟩
theorem stack_in (b off len cap : Nat) (at_ : Int) (p size : Nat) (hl : len ≤ 65536) (hc : len ≤ cap) (hm : cap ≤ 9223372036854775807) (hp : at_ = 2097152 - (len : Int) + p) (h1 : 1 ≤ size) (h2 : p + size ≤ len) (w : World) :
    Calls Try.prog 129 #[.slice (some ⟨b, off, none⟩) len cap, .int .i64 at_, .int .i64 (size : Int)] w fun e w' => e = .returned (.slice (some ⟨b, off + p, none⟩) size (cap - p)) ∧ w' = w := by
  go_enter Try.func129, Try.ntmps129
  go_wp2_with (go_at_call 128; refine (cutAt_in b off len cap _ _ p size hl hc hm (by omega) (by omega) h1 h2 _).mono ?_; rintro e w' ⟨rfl, rfl⟩)
  go_ret
  exact ⟨rfl, rfl⟩
theorem stack_out (a : Option Addr) (len cap : Nat) (at_ : Int) (size : Nat) (hl : len ≤ 65536) (ha : -9223372036854775808 ≤ at_ ∧ at_ ≤ 9223372036854775807) (h1 : 1 ≤ size ∧ size ≤ 4) (h2 : at_ < 2097152 - (len : Int) ∨ (len : Int) - size < at_ - (2097152 - (len : Int))) (w : World) :
    Calls Try.prog 129 #[.slice a len cap, .int .i64 at_, .int .i64 (size : Int)] w fun e w' => e = .returned (.slice none 0 0) ∧ w' = w := by
  go_enter Try.func129, Try.ntmps129
  go_wp2_with (go_at_call 128; refine (cutAt_out a len cap _ _ size hl (by omega) ha h1 (by omega) _).mono ?_; rintro e w' ⟨rfl, rfl⟩)
  go_ret
  exact ⟨rfl, rfl⟩
set_option maxHeartbeats 1000000 in
theorem memoryOf_any (v : MV) (m : Pl.Mac) (w : World) :
    Calls Try.prog 30 #[.agg #[.slice v.code.a v.code.len v.code.cap, .int .i64 m.pc, .slice v.regs.a v.regs.len v.regs.cap, .slice v.data.a v.data.len v.data.cap, .slice v.stk.a v.stk.len v.stk.cap, .slice v.inp.a v.inp.len v.inp.cap, .slice v.out.a v.out.len v.out.cap, .int .i64 m.steps, .int .i64 m.fin, .int .i64 m.val]] w fun e w' => e = .returned (.agg #[.iface 88 (.slice v.data.a v.data.len v.data.cap), .iface 89 (.slice v.stk.a v.stk.len v.stk.cap)]) ∧ Below w.heap.size w w' := by
  go_enter Try.func30, Try.ntmps30
  go_wp2
  refine bodyPost_ret (v := .agg #[.iface 88 (.slice v.data.a v.data.len v.data.cap), .iface 89 (.slice v.stk.a v.stk.len v.stk.cap)]) ?_ rfl ⟨rfl, by repeat (first | exact Below.refl _ _ | refine Below.setCell ?_ (by simp) _ | refine Below.alloc ?_ (by simp) _)⟩
  simp [results, Try.results30, go_sem]
set_option maxHeartbeats 1000000 in
theorem find_kind (da sa : Option Addr) (dl dc sl sc : Nat) (kind at_ : Int) (hk : Pl.ks kind = 0) (w : World) :
    Calls Try.prog 61 #[.agg #[.iface 88 (.slice da dl dc), .iface 89 (.slice sa sl sc)], .int .i64 kind, .int .i64 at_] w fun e w' => e = .panicked [{ v := .iface 87 (.int .i64 4), recovered := false }] ∧ Below w.heap.size w w' := by
  go_enter Try.func61, Try.ntmps61
  go_wp2_with (go_at_call 73; refine (implKindSize_any _ _).mono ?_; rintro e w' ⟨rfl, rfl⟩; rw [hk])
  exact ⟨rfl, rfl, below_alloc _ _⟩
set_option maxHeartbeats 1000000 in
theorem find_align (da sa : Option Addr) (dl dc sl sc : Nat) (kind at_ : Int) (size : Nat) (hs : 1 ≤ size ∧ size ≤ 4) (hk : Pl.ks kind = size) (ha : (at_.tmod (size : Int) != 0) = true) (hb : -9223372036854775808 ≤ at_ ∧ at_ ≤ 9223372036854775807) (w : World) :
    Calls Try.prog 61 #[.agg #[.iface 88 (.slice da dl dc), .iface 89 (.slice sa sl sc)], .int .i64 kind, .int .i64 at_] w fun e w' => e = .panicked [{ v := .iface 87 (.int .i64 3), recovered := false }] ∧ Below w.heap.size w w' := by
  go_enter Try.func61, Try.ntmps61
  go_wp2_with (go_at_call 73; refine (implKindSize_any _ _).mono ?_; rintro e w' ⟨rfl, rfl⟩; rw [hk])
  exact ⟨rfl, rfl, below_alloc _ _⟩
set_option maxRecDepth 100000 in
set_option maxHeartbeats 2000000 in
theorem find_data (b off : Nat) (sa : Option Addr) (dl dc sl sc : Nat) (kind at_ : Int) (p size : Nat) (hs : 1 ≤ size ∧ size ≤ 4) (hk : Pl.ks kind = size) (ha : at_.tmod (size : Int) = 0) (hl : dl ≤ 65536) (hc : dl ≤ dc) (hm : dc ≤ 9223372036854775807) (hp : at_ = 1048576 + p) (h2 : p + size ≤ dl) (w : World) :
    Calls Try.prog 61 #[.agg #[.iface 88 (.slice (some ⟨b, off, none⟩) dl dc), .iface 89 (.slice sa sl sc)], .int .i64 kind, .int .i64 at_] w fun e w' => e = .returned (.slice (some ⟨b, off + p, none⟩) size (dc - p)) ∧ Below w.heap.size w w' := by
  have HP : Hid (at_ = 1048576 + p) := hp
  have ha' : (at_.tmod (size : Int) != 0) = false := by rw [ha]; rfl
  have hs0 : ((size : Int) == 0) = false := by simp; omega
  clear hp ha
  have P0 : Hid ((w.alloc (.cells #[.iface 88 (.slice (some ⟨b, off, none⟩) dl dc), .iface 89 (.slice sa sl sc)] 60)).heap[w.heap.size]? = some (.cells #[.iface 88 (.slice (some ⟨b, off, none⟩) dl dc), .iface 89 (.slice sa sl sc)] 60)) := heap_alloc_new w _
  have hi0 : ∀ w, (Instr.index 60 (.agg #[.iface 88 (.slice (some ⟨b, off, none⟩) dl dc), .iface 89 (.slice sa sl sc)]) (.int .i64 0)).run Try.prog w = .ok (.iface 88 (.slice (some ⟨b, off, none⟩) dl dc)) w := fun _ => by kernel_rfl
  have hm0 : ∀ w : World, (method 238 88 (.slice (some ⟨b, off, none⟩) dl dc) "loop.example/s01681/impl.reach").run Try.prog w = .ok (127, .slice (some ⟨b, off, none⟩) dl dc) w := fun _ => by kernel_rfl
  have hq : ∀ (w : World) (a : Option Addr) (n c n' c' : Nat), (binOp .neq 22 (.slice a n c) (.slice none n' c')).run Try.prog w = .ok (.bool (!a.isNone)) w := fun w a n c n' c' => run_neq_slice_nil_any w _ _ a n c n' c' Try.underlying22
  go_enter Try.func61, Try.ntmps61
  go_wp2_with (first | (go_at_call 73; refine (implKindSize_any _ _).mono ?_; rintro e w' ⟨rfl, rfl⟩; rw [hk]) | (refine wpList_load_row rfl 60 _ rfl (w.heap.size) ?hx 60 #[.iface 88 (.slice (some ⟨b, off, none⟩) dl dc), .iface 89 (.slice sa sl sc)] (0, 0) _ ?hg Try.underlying60 ?hd ?hi ?_; (case hx => rfl); (case hg => exact P0.out); (case hd => rfl); (case hi => kernel_rfl)))
  go_loop [22] (fun i => i = .int .i64 0) (fun i => 0)
  case atStart => rfl
  case round =>
    subst hrel
    go_wp2_with (go_at_call 127; refine (data_in b off dl dc _ p size hl hc hm HP.out hs.1 h2 _).mono ?_; rintro e w' ⟨rfl, rfl⟩)
    go_ret
    exact ⟨rfl, below_alloc _ _⟩
set_option maxRecDepth 100000 in
set_option maxHeartbeats 2000000 in
theorem find_stack (da : Option Addr) (b off : Nat) (dl dc sl sc : Nat) (kind at_ : Int) (p size : Nat) (hs : 1 ≤ size ∧ size ≤ 4) (hk : Pl.ks kind = size) (ha : at_.tmod (size : Int) = 0) (hb : -9223372036854775808 ≤ at_ ∧ at_ ≤ 9223372036854775807) (hl : dl ≤ 65536) (hl' : sl ≤ 65536) (hc : sl ≤ sc) (hm : sc ≤ 9223372036854775807)
    (hd0 : Hid (at_ < 1048576 ∨ (dl : Int) - size < at_ - 1048576)) (hp : Hid (at_ = 2097152 - (sl : Int) + p)) (h2 : p + size ≤ sl) (w : World) :
    Calls Try.prog 61 #[.agg #[.iface 88 (.slice da dl dc), .iface 89 (.slice (some ⟨b, off, none⟩) sl sc)], .int .i64 kind, .int .i64 at_] w fun e w' => e = .returned (.slice (some ⟨b, off + p, none⟩) size (sc - p)) ∧ Below w.heap.size w w' := by
  have P0 : Hid ((w.alloc (.cells #[.iface 88 (.slice da dl dc), .iface 89 (.slice (some ⟨b, off, none⟩) sl sc)] 60)).heap[w.heap.size]? = some (.cells #[.iface 88 (.slice da dl dc), .iface 89 (.slice (some ⟨b, off, none⟩) sl sc)] 60)) := heap_alloc_new w _
  have hi0 : ∀ w, (Instr.index 60 (.agg #[.iface 88 (.slice da dl dc), .iface 89 (.slice (some ⟨b, off, none⟩) sl sc)]) (.int .i64 0)).run Try.prog w = .ok (.iface 88 (.slice da dl dc)) w := fun _ => by kernel_rfl
  have hi1 : ∀ w, (Instr.index 60 (.agg #[.iface 88 (.slice da dl dc), .iface 89 (.slice (some ⟨b, off, none⟩) sl sc)]) (.int .i64 1)).run Try.prog w = .ok (.iface 89 (.slice (some ⟨b, off, none⟩) sl sc)) w := fun _ => by kernel_rfl
  have hm0 : ∀ w : World, (method 238 88 (.slice da dl dc) "loop.example/s01681/impl.reach").run Try.prog w = .ok (127, .slice da dl dc) w := fun _ => by kernel_rfl
  have hm1 : ∀ w : World, (method 238 89 (.slice (some ⟨b, off, none⟩) sl sc) "loop.example/s01681/impl.reach").run Try.prog w = .ok (129, .slice (some ⟨b, off, none⟩) sl sc) w := fun _ => by kernel_rfl
  have hq : ∀ (w : World) (a : Option Addr) (n c n' c' : Nat), (binOp .neq 22 (.slice a n c) (.slice none n' c')).run Try.prog w = .ok (.bool (!a.isNone)) w := fun w a n c n' c' => run_neq_slice_nil_any w _ _ a n c n' c' Try.underlying22
  have ha' : (at_.tmod (size : Int) != 0) = false := by rw [ha]; rfl
  have hs0 : ((size : Int) == 0) = false := by simp; omega
  clear ha
  go_enter Try.func61, Try.ntmps61
  go_wp2_with (first | (go_at_call 73; refine (implKindSize_any _ _).mono ?_; rintro e w' ⟨rfl, rfl⟩; rw [hk]) | (refine wpList_load_row rfl 60 _ rfl (w.heap.size) ?hx 60 #[.iface 88 (.slice da dl dc), .iface 89 (.slice (some ⟨b, off, none⟩) sl sc)] (0, 0) _ ?hg Try.underlying60 ?hd ?hi ?_; (case hx => rfl); (case hg => exact P0.out); (case hd => rfl); (case hi => kernel_rfl)))
  go_loop [22] (fun i => i = .int .i64 0 ∨ i = .int .i64 1) (fun i => 2 - (intOf i).toNat)
  case atStart => exact .inl rfl
  case round =>
    rcases hrel with rfl | rfl
    · go_wp2_with (go_at_call 127; refine (data_out da dl dc _ size hl hb hs hd0.out _).mono ?_; rintro e w' ⟨rfl, rfl⟩)
      go_round
      case rel => exact .inr rfl
      case measure => simp [intOf]
    · go_wp2_with (go_at_call 129; refine (stack_in b off sl sc _ p size hl' hc hm hp.out hs.1 h2 _).mono ?_; rintro e w' ⟨rfl, rfl⟩)
      go_ret
      exact ⟨rfl, below_alloc _ _⟩
set_option maxRecDepth 100000 in
set_option maxHeartbeats 2000000 in
theorem find_none (da sa : Option Addr) (dl dc sl sc : Nat) (kind at_ : Int) (size : Nat) (hs : 1 ≤ size ∧ size ≤ 4) (hk : Pl.ks kind = size) (ha : at_.tmod (size : Int) = 0) (hb : -9223372036854775808 ≤ at_ ∧ at_ ≤ 9223372036854775807) (hl : dl ≤ 65536) (hl' : sl ≤ 65536)
    (hd0 : Hid (at_ < 1048576 ∨ (dl : Int) - size < at_ - 1048576)) (hd1 : Hid (at_ < 2097152 - (sl : Int) ∨ (sl : Int) - size < at_ - (2097152 - (sl : Int)))) (w : World) :
    Calls Try.prog 61 #[.agg #[.iface 88 (.slice da dl dc), .iface 89 (.slice sa sl sc)], .int .i64 kind, .int .i64 at_] w fun e w' => e = .panicked [{ v := .iface 87 (.int .i64 4), recovered := false }] ∧ Below w.heap.size w w' := by
  have P0 : Hid ((w.alloc (.cells #[.iface 88 (.slice da dl dc), .iface 89 (.slice sa sl sc)] 60)).heap[w.heap.size]? = some (.cells #[.iface 88 (.slice da dl dc), .iface 89 (.slice sa sl sc)] 60)) := heap_alloc_new w _
  have hi0 : ∀ w, (Instr.index 60 (.agg #[.iface 88 (.slice da dl dc), .iface 89 (.slice sa sl sc)]) (.int .i64 0)).run Try.prog w = .ok (.iface 88 (.slice da dl dc)) w := fun _ => by kernel_rfl
  have hi1 : ∀ w, (Instr.index 60 (.agg #[.iface 88 (.slice da dl dc), .iface 89 (.slice sa sl sc)]) (.int .i64 1)).run Try.prog w = .ok (.iface 89 (.slice sa sl sc)) w := fun _ => by kernel_rfl
  have hm0 : ∀ w : World, (method 238 88 (.slice da dl dc) "loop.example/s01681/impl.reach").run Try.prog w = .ok (127, .slice da dl dc) w := fun _ => by kernel_rfl
  have hm1 : ∀ w : World, (method 238 89 (.slice sa sl sc) "loop.example/s01681/impl.reach").run Try.prog w = .ok (129, .slice sa sl sc) w := fun _ => by kernel_rfl
  have hq : ∀ (w : World) (a : Option Addr) (n c n' c' : Nat), (binOp .neq 22 (.slice a n c) (.slice none n' c')).run Try.prog w = .ok (.bool (!a.isNone)) w := fun w a n c n' c' => run_neq_slice_nil_any w _ _ a n c n' c' Try.underlying22
  have ha' : (at_.tmod (size : Int) != 0) = false := by rw [ha]; rfl
  have hs0 : ((size : Int) == 0) = false := by simp; omega
  clear ha
  go_enter Try.func61, Try.ntmps61
  go_wp2_with (first | (go_at_call 73; refine (implKindSize_any _ _).mono ?_; rintro e w' ⟨rfl, rfl⟩; rw [hk]) | (refine wpList_load_row rfl 60 _ rfl (w.heap.size) ?hx 60 #[.iface 88 (.slice da dl dc), .iface 89 (.slice sa sl sc)] (0, 0) _ ?hg Try.underlying60 ?hd ?hi ?_; (case hx => rfl); (case hg => exact P0.out); (case hd => rfl); (case hi => kernel_rfl)))
  go_loop [22] (fun i => i = .int .i64 0 ∨ i = .int .i64 1 ∨ i = .int .i64 2) (fun i => 2 - (intOf i).toNat)
  case atStart => exact .inl rfl
  case round =>
    rcases hrel with rfl | rfl | rfl
    · go_wp2_with (go_at_call 127; refine (data_out da dl dc _ size hl hb hs hd0.out _).mono ?_; rintro e w' ⟨rfl, rfl⟩)
      go_round
      case rel => exact .inr (.inl rfl)
      case measure => simp [intOf]
    · go_wp2_with (go_at_call 129; refine (stack_out sa sl sc _ size hl' hb hs hd1.out _).mono ?_; rintro e w' ⟨rfl, rfl⟩)
      go_round
      case rel => exact .inr (.inr rfl)
      case measure => simp [intOf]
    · go_wp2_with fail
      exact ⟨rfl, rfl, below_alloc _ _⟩
end Go.Proofs.Ytfcfnbncgadomaa.W
namespace Go.Proofs.Ytfcfnbncgadomaa.Pl
/-- the first k bytes from a place on, the low one first -/
def ldk (zs : List Int) (p : Nat) : Nat → Int
  | 0 => 0
  | k + 1 => ldk zs p k + zs.getD (p + k) 0 * pw (8 * k)
theorem ldk_bd {zs : List Int} (hz : ∀ n ∈ zs, 0 ≤ n ∧ n ≤ 255) (p : Nat) : ∀ k, 0 ≤ ldk zs p k ∧ ldk zs p k < pw (8 * k) := by
  intro k
  induction k with
  | zero => exact ⟨Int.le_refl 0, by show (0 : Int) < pw 0; decide⟩
  | succ k ih =>
    have hx : 0 ≤ zs.getD (p + k) 0 ∧ zs.getD (p + k) 0 ≤ 255 := by
      rw [List.getD_eq_getElem?_getD]
      cases h : zs[p + k]? with
      | none => exact ⟨by decide, by decide⟩
      | some x => exact hz x (List.mem_of_getElem? h)
    have e : pw (8 * (k + 1)) = pw (8 * k) * 256 := by
      have : 8 * (k + 1) = 8 * k + 8 := by omega
      rw [this]
      simp only [pw, Int.pow_add]
      rfl
    have hp := pw_pos (8 * k)
    unfold ldk
    rw [e]
    generalize zs.getD (p + k) 0 = x at hx
    generalize pw (8 * k) = q at ih hp
    obtain ⟨h1, h2⟩ := hx
    refine ⟨Int.add_nonneg ih.1 (Int.mul_nonneg h1 (by omega)), ?_⟩
    have : x * q ≤ 255 * q := Int.mul_le_mul_of_nonneg_right h2 (by omega)
    omega
end Go.Proofs.Ytfcfnbncgadomaa.Pl
namespace Go.Proofs.Ytfcfnbncgadomaa.W
open Go.RowKit
set_option maxHeartbeats 1000000 in
/-- a load that faults -/
theorem load_bad (da sa : Option Addr) (dl dc sl sc : Nat) (kind at_ code : Int) (w : World)
    (HF : Hid (∀ W, Calls Try.prog 61 #[.agg #[.iface 88 (.slice da dl dc), .iface 89 (.slice sa sl sc)], .int .i64 kind, .int .i64 at_] W fun e w' => e = .panicked [{ v := .iface 87 (.int .i64 code), recovered := false }] ∧ Below W.heap.size W w')) :
    Calls Try.prog 36 #[.agg #[.iface 88 (.slice da dl dc), .iface 89 (.slice sa sl sc)], .int .i64 kind, .int .i64 at_] w fun e w' => e = .panicked [{ v := .iface 87 (.int .i64 code), recovered := false }] ∧ Below w.heap.size w w' := by
  have P0 : Hid ((w.alloc (.cells #[.iface 88 (.slice da dl dc), .iface 89 (.slice sa sl sc)] 60)).heap[w.heap.size]? = some (.cells #[.iface 88 (.slice da dl dc), .iface 89 (.slice sa sl sc)] 60)) := heap_alloc_new w _
  go_enter Try.func36, Try.ntmps36
  go_wp2_with (refine wpList_load_row rfl 60 _ rfl (w.heap.size) ?hx 60 #[.iface 88 (.slice da dl dc), .iface 89 (.slice sa sl sc)] (0, 0) _ ?hg Try.underlying60 ?hd ?hi ?_; (case hx => rfl); (case hg => exact P0.out); (case hd => rfl); (case hi => kernel_rfl))
  refine (HF.out _).mono ?_
  rintro e u1 ⟨rfl, d1⟩
  go_wp2_with fail
  exact ⟨rfl, rfl, (below_alloc w _).trans (d1.mono (by simp))⟩
set_option maxHeartbeats 4000000 in
/-- a load that reads -/
theorem load_good (da sa : Option Addr) (dl dc sl sc : Nat) (kind at_ : Int) (b off p size cap lo len0 : Nat) (zs : List Int) (hs : 1 ≤ size ∧ size ≤ 4) (w : World) (hbl : b < w.heap.size) (hz : ∀ n ∈ zs, 0 ≤ n ∧ n ≤ 255)
    (hc : ∀ i, i < size → w.cell? ⟨b, off + p + i, none⟩ = some (.int .u8 (zs.getD (p + i) 0)))
    (HF : Hid (∀ W, Calls Try.prog 61 #[.agg #[.iface 88 (.slice da dl dc), .iface 89 (.slice sa sl sc)], .int .i64 kind, .int .i64 at_] W fun e w' => e = .returned (.slice (some ⟨b, off + p, none⟩) size cap) ∧ Below W.heap.size W w')) :
    Calls Try.prog 36 #[.agg #[.iface 88 (.slice da dl dc), .iface 89 (.slice sa sl sc)], .int .i64 kind, .int .i64 at_] w fun e w' => e = .returned (.int .i64 (Pl.nr kind (Pl.ldk zs p size))) ∧ Below w.heap.size w w' := by
  have P0 : Hid ((w.alloc (.cells #[.iface 88 (.slice da dl dc), .iface 89 (.slice sa sl sc)] 60)).heap[w.heap.size]? = some (.cells #[.iface 88 (.slice da dl dc), .iface 89 (.slice sa sl sc)] 60)) := heap_alloc_new w _
  have HC : Hid (∀ i, i < size → w.cell? ⟨b, off + p + i, none⟩ = some (.int .u8 (zs.getD (p + i) 0))) := hc
  have HZ : Hid (∀ n ∈ zs, 0 ≤ n ∧ n ≤ 255) := hz
  clear hc hz
  go_enter Try.func36, Try.ntmps36
  go_wp2_with (refine wpList_load_row rfl 60 _ rfl (w.heap.size) ?hx 60 #[.iface 88 (.slice da dl dc), .iface 89 (.slice sa sl sc)] (0, 0) _ ?hg Try.underlying60 ?hd ?hi ?_; (case hx => rfl); (case hg => exact P0.out); (case hd => rfl); (case hi => kernel_rfl))
  refine (HF.out _).mono ?_
  rintro e u1 ⟨rfl, d1⟩
  have B1 : Hid (Below w.heap.size w u1) := (below_alloc w _).trans (d1.mono (by simp))
  clear d1 P0 HF
  go_wp2_with fail
  go_loop [7, 17] (fun v i => ∃ k : Nat, k ≤ size ∧ i = .int .i64 k ∧ v = .int .i64 (Pl.ldk zs p k)) (fun _ i => size - (intOf i).toNat)
  case atStart => exact ⟨0, Nat.zero_le _, rfl, rfl⟩
  case round =>
    obtain ⟨k, hk, rfl, rfl⟩ := hrel
    by_cases hlt : k < size
    · obtain ⟨x, hx⟩ : ∃ x, x = zs.getD (p + k) 0 := ⟨_, rfl⟩
      have hcell : u1.cell? ⟨b, off + p + k, none⟩ = some (.int .u8 x) := by rw [hx, B1.out.cell (by exact hbl)]; exact HC.out k hlt
      have hxb : 0 ≤ x ∧ x ≤ 255 := by
        rw [hx, List.getD_eq_getElem?_getD]
        cases h : zs[p + k]? with
        | none => exact ⟨by decide, by decide⟩
        | some y => exact HZ.out y (List.mem_of_getElem? h)
      obtain ⟨v, hv⟩ : ∃ v, v = Pl.ldk zs p k := ⟨_, rfl⟩
      have hvb := Pl.ldk_bd HZ.out p k
      have HS : Hid (Pl.ldk zs p (k + 1) = v + x * Pl.pw (8 * k)) := by show Pl.ldk zs p (k + 1) = _; rw [hv, hx]; rfl
      rw [← hv] at hvb ⊢
      clear hx hv
      rcases (show k = 0 ∨ k = 1 ∨ k = 2 ∨ k = 3 by omega) with rfl | rfl | rfl | rfl
      · have hq : Pl.pw (8 * 0) = 1 := by decide
        rw [hq] at hvb HS
        clear hq
        rw [Nat.add_zero] at hcell
        have HT : Hid (Pl.ldk zs p 1 = v + x * 1) := HS.out
        clear HS
        go_wp2
        go_round
        case rel => exact ⟨1, by omega, rfl, congrArg (Value.int .i64) (by have h := HT.out; omega)⟩
        case measure => simp [intOf]; omega
      · have hq : Pl.pw (8 * 1) = 256 := by decide
        rw [hq] at hvb HS
        clear hq
        have HT : Hid (Pl.ldk zs p 2 = v + x * 256) := HS.out
        clear HS
        go_wp2
        go_round
        case rel => exact ⟨2, by omega, rfl, congrArg (Value.int .i64) (by have h := HT.out; omega)⟩
        case measure => simp [intOf]; omega
      · have hq : Pl.pw (8 * 2) = 65536 := by decide
        rw [hq] at hvb HS
        clear hq
        have HT : Hid (Pl.ldk zs p 3 = v + x * 65536) := HS.out
        clear HS
        go_wp2
        go_round
        case rel => exact ⟨3, by omega, rfl, congrArg (Value.int .i64) (by have h := HT.out; omega)⟩
        case measure => simp [intOf]; omega
      · have hq : Pl.pw (8 * 3) = 16777216 := by decide
        rw [hq] at hvb HS
        clear hq
        have HT : Hid (Pl.ldk zs p 4 = v + x * 16777216) := HS.out
        clear HS
        go_wp2
        go_round
        case rel => exact ⟨4, by omega, rfl, congrArg (Value.int .i64) (by have h := HT.out; omega)⟩
        case measure => simp [intOf]; omega
    · have hke : k = size := by omega
      subst hke
      go_wp2_with (go_at_call 62; refine (implNarrow_any _ _ _).mono ?_; rintro e w' ⟨rfl, rfl⟩)
      go_ret
      exact ⟨rfl, B1.out⟩
end Go.Proofs.Ytfcfnbncgadomaa.W
namespace Go.Proofs.Ytfcfnbncgadomaa.W
open Go.RowKit
set_option maxHeartbeats 4000000 in
theorem specMachineOk_any {lo : Nat} (v : MV) (m : Pl.Mac) (w : World) (h : MIs lo w v m) :
    Calls Try.prog 23 #[.agg #[.slice v.code.a v.code.len v.code.cap, .int .i64 m.pc, .slice v.regs.a v.regs.len v.regs.cap, .slice v.data.a v.data.len v.data.cap, .slice v.stk.a v.stk.len v.stk.cap, .slice v.inp.a v.inp.len v.inp.cap, .slice v.out.a v.out.len v.out.cap, .int .i64 m.steps, .int .i64 m.fin, .int .i64 m.val]] w fun e w' => e = .returned (.bool (Pl.mOk m)) ∧ Below w.heap.size w w' := by
  obtain ⟨⟨ca, cl, cc⟩, ⟨ra, rl, rc⟩, ⟨da, dl, dc⟩, ⟨sa, sl, sc⟩, ⟨ia, il, ic⟩, ⟨oa, ol, oc⟩⟩ := v
  obtain ⟨code, pc, regs, data, stk, inp, out, steps, fin, val⟩ := m
  have h' := h.keep (below_alloc w (.cells #[.slice ca cl cc, .int .i64 pc, .slice ra rl rc, .slice da dl dc, .slice sa sl sc, .slice ia il ic, .slice oa ol oc, .int .i64 steps, .int .i64 fin, .int .i64 val] 25))
  obtain ⟨r1, r2, r3, r4, r5, r6⟩ := h'
  dsimp only at r1 r2 r3 r4 r5 r6 ⊢
  have l2 := r2.small
  have l3 := r3.small
  have l4 := r4.small
  have l5 := r5.small
  have l6 := r6.small
  have E2 : Hid (regs.length = rl) := r2.1
  have E3 : Hid (data.length = dl) := r3.1
  have E4 : Hid (stk.length = sl) := r4.1
  have E5 : Hid (inp.length = il) := r5.1
  have E6 : Hid (out.length = ol) := r6.1
  have R1 : Hid _ := r1
  have R2 : Hid _ := r2
  clear r1 r2 r3 r4 r5 r6 h
  unfold Pl.mOk
  dsimp only
  rw [E2.out, E3.out, E4.out, E5.out, E6.out]
  cases c1 : Pl.cdOk code
  · go_enter Try.func23, Try.ntmps23
    go_wp2_with (first | (go_at_call 50; refine (specCodeOk_any _ _ _ code _ R1.out).mono ?_; rintro e w' ⟨rfl, rfl⟩; simp only [c1]))
    go_ret
    exact ⟨rfl, below_alloc _ _⟩
  rw [Bool.true_and]
  by_cases c2 : dl ≤ 65536
  rotate_left
  · rw [decide_eq_false c2, Bool.false_and]
    go_enter Try.func23, Try.ntmps23
    go_wp2_with (first | (go_at_call 50; refine (specCodeOk_any _ _ _ code _ R1.out).mono ?_; rintro e w' ⟨rfl, rfl⟩; simp only [c1]))
    go_ret
    exact ⟨rfl, below_alloc _ _⟩
  rw [decide_eq_true c2, Bool.true_and]
  have c2i : decide ((65536 : Int) < (dl : Int)) = false := by rw [decide_eq_false_iff_not]; omega
  cases c3 : Pl.skOk (sl : Int)
  · go_enter Try.func23, Try.ntmps23
    go_wp2_with (first | (go_at_call 50; refine (specCodeOk_any _ _ _ code _ R1.out).mono ?_; rintro e w' ⟨rfl, rfl⟩; simp only [c1]) | (go_at_call 51; refine (specStackOk_any _ _).mono ?_; rintro e w' ⟨rfl, rfl⟩; simp only [c3]))
    go_ret
    exact ⟨rfl, below_alloc _ _⟩
  rw [Bool.true_and]
  cases c4 : Pl.isW pc
  · go_enter Try.func23, Try.ntmps23
    go_wp2_with (first | (go_at_call 50; refine (specCodeOk_any _ _ _ code _ R1.out).mono ?_; rintro e w' ⟨rfl, rfl⟩; simp only [c1]) | (go_at_call 51; refine (specStackOk_any _ _).mono ?_; rintro e w' ⟨rfl, rfl⟩; simp only [c3]) | (go_at_call 52; refine (wordOk_any _ _).mono ?_; rintro e w' ⟨rfl, rfl⟩; simp only [c4]))
    go_ret
    exact ⟨rfl, below_alloc _ _⟩
  rw [Bool.true_and]
  by_cases c5 : rl = 32
  rotate_left
  · rw [decide_eq_false c5, Bool.false_and]
    go_enter Try.func23, Try.ntmps23
    go_wp2_with (first | (go_at_call 50; refine (specCodeOk_any _ _ _ code _ R1.out).mono ?_; rintro e w' ⟨rfl, rfl⟩; simp only [c1]) | (go_at_call 51; refine (specStackOk_any _ _).mono ?_; rintro e w' ⟨rfl, rfl⟩; simp only [c3]) | (go_at_call 52; refine (wordOk_any _ _).mono ?_; rintro e w' ⟨rfl, rfl⟩; simp only [c4]))
    go_ret
    exact ⟨rfl, below_alloc _ _⟩
  rw [decide_eq_true c5, Bool.true_and]
  subst c5
  obtain ⟨b, off, hra, _, _, hc⟩ := R2.out.2.2.2.2.resolve_left (by omega)
  subst hra
  obtain ⟨x, hx⟩ : ∃ x, x = regs.getD 0 0 := ⟨_, rfl⟩
  have hcell : (w.alloc (.cells #[.slice ca cl cc, .int .i64 pc, .slice (some ⟨b, off, none⟩) 32 rc, .slice da dl dc, .slice sa sl sc, .slice ia il ic, .slice oa ol oc, .int .i64 steps, .int .i64 fin, .int .i64 val] 25)).cell? ⟨b, off, none⟩ = some (.int .i64 x) := by rw [hx]; exact hc 0 (by omega)
  have HC : Hid (∀ i, i < 32 → (w.alloc (.cells #[.slice ca cl cc, .int .i64 pc, .slice (some ⟨b, off, none⟩) 32 rc, .slice da dl dc, .slice sa sl sc, .slice ia il ic, .slice oa ol oc, .int .i64 steps, .int .i64 fin, .int .i64 val] 25)).cell? ⟨b, off + i, none⟩ = some (.int .i64 (regs.getD i 0))) := hc
  clear hc
  rw [← hx]
  clear hx
  by_cases c6 : x = 0
  rotate_left
  · rw [decide_eq_false c6, Bool.false_and]
    have c6b : (x != 0) = true := by simpa using c6
    go_enter Try.func23, Try.ntmps23
    go_wp2_with (first | (go_at_call 50; refine (specCodeOk_any _ _ _ code _ R1.out).mono ?_; rintro e w' ⟨rfl, rfl⟩; simp only [c1]) | (go_at_call 51; refine (specStackOk_any _ _).mono ?_; rintro e w' ⟨rfl, rfl⟩; simp only [c3]) | (go_at_call 52; refine (wordOk_any _ _).mono ?_; rintro e w' ⟨rfl, rfl⟩; simp only [c4]))
    go_ret
    exact ⟨rfl, below_alloc _ _⟩
  rw [decide_eq_true c6, Bool.true_and]
  subst c6
  obtain ⟨R, hR⟩ : ∃ R : Bool, R = (regs.all Pl.isW && (decide (il ≤ 10000) && (decide (ol ≤ 10000) && (decide (0 ≤ steps) && (decide (steps ≤ 1000000) && (decide (0 ≤ fin) && (decide (fin ≤ 3) && Pl.isW val))))))) := ⟨_, rfl⟩
  rw [← hR]
  have HRes : Hid (R = (regs.all Pl.isW && (decide (il ≤ 10000) && (decide (ol ≤ 10000) && (decide (0 ≤ steps) && (decide (steps ≤ 1000000) && (decide (0 ≤ fin) && (decide (fin ≤ 3) && Pl.isW val)))))))) := hR
  clear hR
  go_enter Try.func23, Try.ntmps23
  go_wp2_with (first | (go_at_call 50; refine (specCodeOk_any _ _ _ code _ R1.out).mono ?_; rintro e w' ⟨rfl, rfl⟩; simp only [c1]) | (go_at_call 51; refine (specStackOk_any _ _).mono ?_; rintro e w' ⟨rfl, rfl⟩; simp only [c3]) | (go_at_call 52; refine (wordOk_any _ _).mono ?_; rintro e w' ⟨rfl, rfl⟩; simp only [c4]))
  go_loop [3] (fun i => ∃ k : Nat, k ≤ 32 ∧ i = .int .i64 k ∧ ∀ j, j < k → Pl.isW (regs.getD j 0) = true) (fun i => 32 - (intOf i).toNat)
  case atStart => exact ⟨0, Nat.zero_le _, rfl, fun j hj => absurd hj (Nat.not_lt_zero _)⟩
  case round =>
    obtain ⟨k, hk, rfl, hall⟩ := hrel
    have HA : Hid (∀ j, j < k → Pl.isW (regs.getD j 0) = true) := hall
    clear hall hcell
    by_cases hlt : k < 32
    · obtain ⟨y, hy⟩ : ∃ y, y = regs.getD k 0 := ⟨_, rfl⟩
      have hcell : (w.alloc (.cells #[.slice ca cl cc, .int .i64 pc, .slice (some ⟨b, off, none⟩) 32 rc, .slice da dl dc, .slice sa sl sc, .slice ia il ic, .slice oa ol oc, .int .i64 steps, .int .i64 fin, .int .i64 val] 25)).cell? ⟨b, off + k, none⟩ = some (.int .i64 y) := by rw [hy]; exact HC.out k hlt
      have HX : Hid (y = regs.getD k 0) := hy
      clear hy
      cases hb : Pl.isW y
      · have HF : Hid (regs.all Pl.isW = false) := Pl.not_all_of_getD (k := k) (by have := E2.out; omega) (by rw [← HX.out]; exact hb)
        go_wp2_with (go_at_call 52; refine (wordOk_any _ _).mono ?_; rintro e w' ⟨rfl, rfl⟩; simp only [hb])
        go_ret
        exact ⟨ret_bool (by rw [HRes.out, HF.out]; rfl), below_alloc _ _⟩
      · go_wp2_with (go_at_call 52; refine (wordOk_any _ _).mono ?_; rintro e w' ⟨rfl, rfl⟩; simp only [hb])
        go_round
        case rel =>
          refine ⟨k + 1, by omega, by go_num, fun j hj => ?_⟩
          by_cases hjk : j < k
          · exact HA.out j hjk
          · have : j = k := by omega
            subst this; rw [← HX.out]; exact hb
        case measure => simp [intOf]; omega
    · have hke : k = 32 := by omega
      subst hke
      have HT : Hid (regs.all Pl.isW = true) := Pl.all_of_getD (fun j hj => HA.out j (by have := E2.out; omega))
      clear HA HC hlt hk
      by_cases c8 : il ≤ 10000
      rotate_left
      · have F8 : Hid (decide (il ≤ 10000) = false) := decide_eq_false c8
        go_wp2
        go_ret
        exact ⟨ret_bool (by rw [HRes.out, HT.out, F8.out]; rfl), below_alloc _ _⟩
      have F8 : Hid (decide (il ≤ 10000) = true) := decide_eq_true c8
      by_cases c9 : ol ≤ 10000
      rotate_left
      · have F9 : Hid (decide (ol ≤ 10000) = false) := decide_eq_false c9
        go_wp2
        go_ret
        exact ⟨ret_bool (by rw [HRes.out, HT.out, F8.out, F9.out]; rfl), below_alloc _ _⟩
      have F9 : Hid (decide (ol ≤ 10000) = true) := decide_eq_true c9
      by_cases c10 : 0 ≤ steps
      rotate_left
      · have F10 : Hid (decide (0 ≤ steps) = false) := decide_eq_false c10
        go_wp2
        go_ret
        exact ⟨ret_bool (by rw [HRes.out, HT.out, F8.out, F9.out, F10.out]; rfl), below_alloc _ _⟩
      have F10 : Hid (decide (0 ≤ steps) = true) := decide_eq_true c10
      by_cases c11 : steps ≤ 1000000
      rotate_left
      · have F11 : Hid (decide (steps ≤ 1000000) = false) := decide_eq_false c11
        go_wp2
        go_ret
        exact ⟨ret_bool (by rw [HRes.out, HT.out, F8.out, F9.out, F10.out, F11.out]; rfl), below_alloc _ _⟩
      have F11 : Hid (decide (steps ≤ 1000000) = true) := decide_eq_true c11
      by_cases c12 : 0 ≤ fin
      rotate_left
      · have F12 : Hid (decide (0 ≤ fin) = false) := decide_eq_false c12
        go_wp2
        go_ret
        exact ⟨ret_bool (by rw [HRes.out, HT.out, F8.out, F9.out, F10.out, F11.out, F12.out]; rfl), below_alloc _ _⟩
      have F12 : Hid (decide (0 ≤ fin) = true) := decide_eq_true c12
      by_cases c13 : fin ≤ 3
      rotate_left
      · have F13 : Hid (decide (fin ≤ 3) = false) := decide_eq_false c13
        go_wp2
        go_ret
        exact ⟨ret_bool (by rw [HRes.out, HT.out, F8.out, F9.out, F10.out, F11.out, F12.out, F13.out]; rfl), below_alloc _ _⟩
      have F13 : Hid (decide (fin ≤ 3) = true) := decide_eq_true c13
      cases c14 : Pl.isW val
      all_goals
        go_wp2_with (go_at_call 52; refine (wordOk_any _ _).mono ?_; rintro e w' ⟨rfl, rfl⟩; simp only [c14])
        go_ret
        exact ⟨ret_bool (by rw [HRes.out, HT.out, F8.out, F9.out, F10.out, F11.out, F12.out, F13.out, c14]; rfl), below_alloc _ _⟩
end Go.Proofs.Ytfcfnbncgadomaa.W
