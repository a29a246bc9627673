import Derived.Test.YtgopdicmmglakaaMacM
import Derived.WalkSpells
import Derived.WalkLawsBesides
set_option linter.unusedVariables false
namespace Go.Proofs.Ytgopdicmmglakaa.W
open Go.RowKit
set_option maxHeartbeats 1000000 in
theorem cutAt_in (b off len cap : Nat) (base at_ : Int) (p size : Nat) (hl : len ≤ 65536) (hc : len ≤ cap) (hm : cap ≤ 9223372036854775807) (hb : 0 ≤ base ∧ base ≤ 2097152) (hp : at_ = base + p) (h1 : 1 ≤ size) (h2 : p + size ≤ len) (w : World) :
    Calls Try.prog 99 #[.slice (some ⟨b, off, none⟩) len cap, .int .i64 base, .int .i64 at_, .int .i64 (size : Int)] w fun e w' => e = .returned (.slice (some ⟨b, off + p, none⟩) size (cap - p)) ∧ w' = w := by
  subst hp
  go_enter Try.func99, Try.ntmps99
  go_wp2
  go_ret
  have e1 : (base + (p : Int) - base).toNat = p := by omega
  have e2 : (base + (p : Int) - base + (size : Int)).toNat - p = size := by omega
  exact ⟨by rw [e1, e2]; rfl, rfl⟩
theorem cutAt_out (a : Option Addr) (len cap : Nat) (base at_ : Int) (size : Nat) (hl : len ≤ 65536) (hb : 0 ≤ base ∧ base ≤ 2097152) (ha : -9223372036854775808 ≤ at_ ∧ at_ ≤ 9223372036854775807) (h1 : 1 ≤ size ∧ size ≤ 4) (h2 : at_ < base ∨ (len : Int) - size < at_ - base) (w : World) :
    Calls Try.prog 99 #[.slice a len cap, .int .i64 base, .int .i64 at_, .int .i64 (size : Int)] w fun e w' => e = .returned (.slice none 0 0) ∧ w' = w := by
  by_cases h : at_ < base
  · go_enter Try.func99, Try.ntmps99
    go_wp2
    go_ret
    exact ⟨rfl, rfl⟩
  · have h3 : (len : Int) - size < at_ - base := by omega
    clear h2
    go_enter Try.func99, Try.ntmps99
    go_wp2
    go_ret
    exact ⟨rfl, rfl⟩
theorem data_in (b off len cap : Nat) (at_ : Int) (p size : Nat) (hl : len ≤ 65536) (hc : len ≤ cap) (hm : cap ≤ 9223372036854775807) (hp : at_ = 1048576 + p) (h1 : 1 ≤ size) (h2 : p + size ≤ len) (w : World) :
    Calls Try.prog 98 #[.slice (some ⟨b, off, none⟩) len cap, .int .i64 at_, .int .i64 (size : Int)] w fun e w' => e = .returned (.slice (some ⟨b, off + p, none⟩) size (cap - p)) ∧ w' = w := by
  go_enter Try.func98, Try.ntmps98
  go_wp2_with (go_at_call 99; refine (cutAt_in b off len cap _ _ p size hl hc hm (by omega) (by omega) h1 h2 _).mono ?_; rintro e w' ⟨rfl, rfl⟩)
  go_ret
  exact ⟨rfl, rfl⟩
theorem data_out (a : Option Addr) (len cap : Nat) (at_ : Int) (size : Nat) (hl : len ≤ 65536) (ha : -9223372036854775808 ≤ at_ ∧ at_ ≤ 9223372036854775807) (h1 : 1 ≤ size ∧ size ≤ 4) (h2 : at_ < 1048576 ∨ (len : Int) - size < at_ - (1048576)) (w : World) :
    Calls Try.prog 98 #[.slice a len cap, .int .i64 at_, .int .i64 (size : Int)] w fun e w' => e = .returned (.slice none 0 0) ∧ w' = w := by
  go_enter Try.func98, Try.ntmps98
  go_wp2_with (go_at_call 99; refine (cutAt_out a len cap _ _ size hl (by omega) ha h1 (by omega) _).mono ?_; rintro e w' ⟨rfl, rfl⟩)
  go_ret
  exact ⟨rfl, rfl⟩
theorem stack_in (b off len cap : Nat) (at_ : Int) (p size : Nat) (hl : len ≤ 65536) (hc : len ≤ cap) (hm : cap ≤ 9223372036854775807) (hp : at_ = 2097152 - (len : Int) + p) (h1 : 1 ≤ size) (h2 : p + size ≤ len) (w : World) :
    Calls Try.prog 100 #[.slice (some ⟨b, off, none⟩) len cap, .int .i64 at_, .int .i64 (size : Int)] w fun e w' => e = .returned (.slice (some ⟨b, off + p, none⟩) size (cap - p)) ∧ w' = w := by
  go_enter Try.func100, Try.ntmps100
  go_wp2_with (go_at_call 99; refine (cutAt_in b off len cap _ _ p size hl hc hm (by omega) (by omega) h1 h2 _).mono ?_; rintro e w' ⟨rfl, rfl⟩)
  go_ret
  exact ⟨rfl, rfl⟩
theorem stack_out (a : Option Addr) (len cap : Nat) (at_ : Int) (size : Nat) (hl : len ≤ 65536) (ha : -9223372036854775808 ≤ at_ ∧ at_ ≤ 9223372036854775807) (h1 : 1 ≤ size ∧ size ≤ 4) (h2 : at_ < 2097152 - (len : Int) ∨ (len : Int) - size < at_ - (2097152 - (len : Int))) (w : World) :
    Calls Try.prog 100 #[.slice a len cap, .int .i64 at_, .int .i64 (size : Int)] w fun e w' => e = .returned (.slice none 0 0) ∧ w' = w := by
  go_enter Try.func100, Try.ntmps100
  go_wp2_with (go_at_call 99; refine (cutAt_out a len cap _ _ size hl (by omega) ha h1 (by omega) _).mono ?_; rintro e w' ⟨rfl, rfl⟩)
  go_ret
  exact ⟨rfl, rfl⟩
set_option maxHeartbeats 1000000 in
theorem memoryOf_any (v : MV) (m : Pl.Mac) (w : World) :
    Calls Try.prog 49 #[.agg #[.slice v.code.a v.code.len v.code.cap, .int .i64 m.pc, .slice v.regs.a v.regs.len v.regs.cap, .slice v.data.a v.data.len v.data.cap, .slice v.stk.a v.stk.len v.stk.cap, .slice v.inp.a v.inp.len v.inp.cap, .slice v.out.a v.out.len v.out.cap, .int .i64 m.steps, .int .i64 m.fin, .int .i64 m.val]] w fun e w' => e = .returned (.agg #[.iface 92 (.slice v.data.a v.data.len v.data.cap), .iface 93 (.slice v.stk.a v.stk.len v.stk.cap)]) ∧ Below w.heap.size w w' := by
  go_enter Try.func49, Try.ntmps49
  go_wp2
  refine bodyPost_ret (v := .agg #[.iface 92 (.slice v.data.a v.data.len v.data.cap), .iface 93 (.slice v.stk.a v.stk.len v.stk.cap)]) ?_ rfl ⟨rfl, by repeat (first | exact Below.refl _ _ | refine Below.setCell ?_ (by simp) _ | refine Below.alloc ?_ (by simp) _)⟩
  simp [results, Try.results49, go_sem]
set_option maxHeartbeats 1000000 in
theorem find_kind (da sa : Option Addr) (dl dc sl sc : Nat) (kind at_ : Int) (hk : Pl.ks kind = 0) (w : World) :
    Calls Try.prog 70 #[.agg #[.iface 92 (.slice da dl dc), .iface 93 (.slice sa sl sc)], .int .i64 kind, .int .i64 at_] w fun e w' => e = .panicked [{ v := .iface 91 (.int .i64 4), recovered := false }] ∧ Below w.heap.size w w' := by
  go_enter Try.func70, Try.ntmps70
  go_wp2_with (go_at_call 78; refine (implKindSize_any _ _).mono ?_; rintro e w' ⟨rfl, rfl⟩; rw [hk])
  exact ⟨rfl, rfl, below_alloc _ _⟩
set_option maxHeartbeats 1000000 in
theorem find_align (da sa : Option Addr) (dl dc sl sc : Nat) (kind at_ : Int) (size : Nat) (hs : 1 ≤ size ∧ size ≤ 4) (hk : Pl.ks kind = size) (ha : (at_.tmod (size : Int) != 0) = true) (hb : -9223372036854775808 ≤ at_ ∧ at_ ≤ 9223372036854775807) (w : World) :
    Calls Try.prog 70 #[.agg #[.iface 92 (.slice da dl dc), .iface 93 (.slice sa sl sc)], .int .i64 kind, .int .i64 at_] w fun e w' => e = .panicked [{ v := .iface 91 (.int .i64 3), recovered := false }] ∧ Below w.heap.size w w' := by
  go_enter Try.func70, Try.ntmps70
  go_wp2_with (go_at_call 78; refine (implKindSize_any _ _).mono ?_; rintro e w' ⟨rfl, rfl⟩; rw [hk])
  exact ⟨rfl, rfl, below_alloc _ _⟩
set_option maxRecDepth 100000 in
set_option maxHeartbeats 2000000 in
theorem find_data (b off : Nat) (sa : Option Addr) (dl dc sl sc : Nat) (kind at_ : Int) (p size : Nat) (hs : 1 ≤ size ∧ size ≤ 4) (hk : Pl.ks kind = size) (ha : at_.tmod (size : Int) = 0) (hl : dl ≤ 65536) (hc : dl ≤ dc) (hm : dc ≤ 9223372036854775807) (hp : at_ = 1048576 + p) (h2 : p + size ≤ dl) (w : World) :
    Calls Try.prog 70 #[.agg #[.iface 92 (.slice (some ⟨b, off, none⟩) dl dc), .iface 93 (.slice sa sl sc)], .int .i64 kind, .int .i64 at_] w fun e w' => e = .returned (.slice (some ⟨b, off + p, none⟩) size (dc - p)) ∧ Below w.heap.size w w' := by
  have HP : Hid (at_ = 1048576 + p) := hp
  have ha' : (at_.tmod (size : Int) != 0) = false := by rw [ha]; rfl
  have hs0 : ((size : Int) == 0) = false := by simp; omega
  clear hp ha
  have P0 : Hid ((w.alloc (.cells #[.iface 92 (.slice (some ⟨b, off, none⟩) dl dc), .iface 93 (.slice sa sl sc)] 79)).heap[w.heap.size]? = some (.cells #[.iface 92 (.slice (some ⟨b, off, none⟩) dl dc), .iface 93 (.slice sa sl sc)] 79)) := heap_alloc_new w _
  have hi0 : ∀ w, (Instr.index 79 (.agg #[.iface 92 (.slice (some ⟨b, off, none⟩) dl dc), .iface 93 (.slice sa sl sc)]) (.int .i64 0)).run Try.prog w = .ok (.iface 92 (.slice (some ⟨b, off, none⟩) dl dc)) w := fun _ => by kernel_rfl
  have hm0 : ∀ w : World, (method 220 92 (.slice (some ⟨b, off, none⟩) dl dc) "loop.example/s01681/impl.reach").run Try.prog w = .ok (98, .slice (some ⟨b, off, none⟩) dl dc) w := fun _ => by kernel_rfl
  have hq : ∀ (w : World) (a : Option Addr) (n c n' c' : Nat), (binOp .neq 23 (.slice a n c) (.slice none n' c')).run Try.prog w = .ok (.bool (!a.isNone)) w := fun w a n c n' c' => run_neq_slice_nil_any w _ _ a n c n' c' Try.underlying23
  go_enter Try.func70, Try.ntmps70
  go_wp2_with (first | (go_at_call 78; refine (implKindSize_any _ _).mono ?_; rintro e w' ⟨rfl, rfl⟩; rw [hk]) | (refine wpList_load_row rfl 79 _ rfl (w.heap.size) ?hx 79 #[.iface 92 (.slice (some ⟨b, off, none⟩) dl dc), .iface 93 (.slice sa sl sc)] (0, 0) _ ?hg Try.underlying79 ?hd ?hi ?_; (case hx => rfl); (case hg => exact P0.out); (case hd => rfl); (case hi => kernel_rfl)))
  go_loop [22] (fun i => i = .int .i64 0) (fun i => 0)
  case atStart => rfl
  case round =>
    subst hrel
    go_wp2_with (go_at_call 98; refine (data_in b off dl dc _ p size hl hc hm HP.out hs.1 h2 _).mono ?_; rintro e w' ⟨rfl, rfl⟩)
    go_ret
    exact ⟨rfl, below_alloc _ _⟩
set_option maxRecDepth 100000 in
set_option maxHeartbeats 2000000 in
theorem find_stack (da : Option Addr) (b off : Nat) (dl dc sl sc : Nat) (kind at_ : Int) (p size : Nat) (hs : 1 ≤ size ∧ size ≤ 4) (hk : Pl.ks kind = size) (ha : at_.tmod (size : Int) = 0) (hb : -9223372036854775808 ≤ at_ ∧ at_ ≤ 9223372036854775807) (hl : dl ≤ 65536) (hl' : sl ≤ 65536) (hc : sl ≤ sc) (hm : sc ≤ 9223372036854775807)
    (hd0 : Hid (at_ < 1048576 ∨ (dl : Int) - size < at_ - 1048576)) (hp : Hid (at_ = 2097152 - (sl : Int) + p)) (h2 : p + size ≤ sl) (w : World) :
    Calls Try.prog 70 #[.agg #[.iface 92 (.slice da dl dc), .iface 93 (.slice (some ⟨b, off, none⟩) sl sc)], .int .i64 kind, .int .i64 at_] w fun e w' => e = .returned (.slice (some ⟨b, off + p, none⟩) size (sc - p)) ∧ Below w.heap.size w w' := by
  have P0 : Hid ((w.alloc (.cells #[.iface 92 (.slice da dl dc), .iface 93 (.slice (some ⟨b, off, none⟩) sl sc)] 79)).heap[w.heap.size]? = some (.cells #[.iface 92 (.slice da dl dc), .iface 93 (.slice (some ⟨b, off, none⟩) sl sc)] 79)) := heap_alloc_new w _
  have hi0 : ∀ w, (Instr.index 79 (.agg #[.iface 92 (.slice da dl dc), .iface 93 (.slice (some ⟨b, off, none⟩) sl sc)]) (.int .i64 0)).run Try.prog w = .ok (.iface 92 (.slice da dl dc)) w := fun _ => by kernel_rfl
  have hi1 : ∀ w, (Instr.index 79 (.agg #[.iface 92 (.slice da dl dc), .iface 93 (.slice (some ⟨b, off, none⟩) sl sc)]) (.int .i64 1)).run Try.prog w = .ok (.iface 93 (.slice (some ⟨b, off, none⟩) sl sc)) w := fun _ => by kernel_rfl
  have hm0 : ∀ w : World, (method 220 92 (.slice da dl dc) "loop.example/s01681/impl.reach").run Try.prog w = .ok (98, .slice da dl dc) w := fun _ => by kernel_rfl
  have hm1 : ∀ w : World, (method 220 93 (.slice (some ⟨b, off, none⟩) sl sc) "loop.example/s01681/impl.reach").run Try.prog w = .ok (100, .slice (some ⟨b, off, none⟩) sl sc) w := fun _ => by kernel_rfl
  have hq : ∀ (w : World) (a : Option Addr) (n c n' c' : Nat), (binOp .neq 23 (.slice a n c) (.slice none n' c')).run Try.prog w = .ok (.bool (!a.isNone)) w := fun w a n c n' c' => run_neq_slice_nil_any w _ _ a n c n' c' Try.underlying23
  have ha' : (at_.tmod (size : Int) != 0) = false := by rw [ha]; rfl
  have hs0 : ((size : Int) == 0) = false := by simp; omega
  clear ha
  go_enter Try.func70, Try.ntmps70
  go_wp2_with (first | (go_at_call 78; refine (implKindSize_any _ _).mono ?_; rintro e w' ⟨rfl, rfl⟩; rw [hk]) | (refine wpList_load_row rfl 79 _ rfl (w.heap.size) ?hx 79 #[.iface 92 (.slice da dl dc), .iface 93 (.slice (some ⟨b, off, none⟩) sl sc)] (0, 0) _ ?hg Try.underlying79 ?hd ?hi ?_; (case hx => rfl); (case hg => exact P0.out); (case hd => rfl); (case hi => kernel_rfl)))
  go_loop [22] (fun i => i = .int .i64 0 ∨ i = .int .i64 1) (fun i => 2 - (intOf i).toNat)
  case atStart => exact .inl rfl
  case round =>
    rcases hrel with rfl | rfl
    · go_wp2_with (go_at_call 98; refine (data_out da dl dc _ size hl hb hs hd0.out _).mono ?_; rintro e w' ⟨rfl, rfl⟩)
      go_round
      case rel => exact .inr rfl
      case measure => simp [intOf]
    · go_wp2_with (go_at_call 100; refine (stack_in b off sl sc _ p size hl' hc hm hp.out hs.1 h2 _).mono ?_; rintro e w' ⟨rfl, rfl⟩)
      go_ret
      exact ⟨rfl, below_alloc _ _⟩
set_option maxRecDepth 100000 in
set_option maxHeartbeats 2000000 in
theorem find_none (da sa : Option Addr) (dl dc sl sc : Nat) (kind at_ : Int) (size : Nat) (hs : 1 ≤ size ∧ size ≤ 4) (hk : Pl.ks kind = size) (ha : at_.tmod (size : Int) = 0) (hb : -9223372036854775808 ≤ at_ ∧ at_ ≤ 9223372036854775807) (hl : dl ≤ 65536) (hl' : sl ≤ 65536)
    (hd0 : Hid (at_ < 1048576 ∨ (dl : Int) - size < at_ - 1048576)) (hd1 : Hid (at_ < 2097152 - (sl : Int) ∨ (sl : Int) - size < at_ - (2097152 - (sl : Int)))) (w : World) :
    Calls Try.prog 70 #[.agg #[.iface 92 (.slice da dl dc), .iface 93 (.slice sa sl sc)], .int .i64 kind, .int .i64 at_] w fun e w' => e = .panicked [{ v := .iface 91 (.int .i64 4), recovered := false }] ∧ Below w.heap.size w w' := by
  have P0 : Hid ((w.alloc (.cells #[.iface 92 (.slice da dl dc), .iface 93 (.slice sa sl sc)] 79)).heap[w.heap.size]? = some (.cells #[.iface 92 (.slice da dl dc), .iface 93 (.slice sa sl sc)] 79)) := heap_alloc_new w _
  have hi0 : ∀ w, (Instr.index 79 (.agg #[.iface 92 (.slice da dl dc), .iface 93 (.slice sa sl sc)]) (.int .i64 0)).run Try.prog w = .ok (.iface 92 (.slice da dl dc)) w := fun _ => by kernel_rfl
  have hi1 : ∀ w, (Instr.index 79 (.agg #[.iface 92 (.slice da dl dc), .iface 93 (.slice sa sl sc)]) (.int .i64 1)).run Try.prog w = .ok (.iface 93 (.slice sa sl sc)) w := fun _ => by kernel_rfl
  have hm0 : ∀ w : World, (method 220 92 (.slice da dl dc) "loop.example/s01681/impl.reach").run Try.prog w = .ok (98, .slice da dl dc) w := fun _ => by kernel_rfl
  have hm1 : ∀ w : World, (method 220 93 (.slice sa sl sc) "loop.example/s01681/impl.reach").run Try.prog w = .ok (100, .slice sa sl sc) w := fun _ => by kernel_rfl
  have hq : ∀ (w : World) (a : Option Addr) (n c n' c' : Nat), (binOp .neq 23 (.slice a n c) (.slice none n' c')).run Try.prog w = .ok (.bool (!a.isNone)) w := fun w a n c n' c' => run_neq_slice_nil_any w _ _ a n c n' c' Try.underlying23
  have ha' : (at_.tmod (size : Int) != 0) = false := by rw [ha]; rfl
  have hs0 : ((size : Int) == 0) = false := by simp; omega
  clear ha
  go_enter Try.func70, Try.ntmps70
  go_wp2_with (first | (go_at_call 78; refine (implKindSize_any _ _).mono ?_; rintro e w' ⟨rfl, rfl⟩; rw [hk]) | (refine wpList_load_row rfl 79 _ rfl (w.heap.size) ?hx 79 #[.iface 92 (.slice da dl dc), .iface 93 (.slice sa sl sc)] (0, 0) _ ?hg Try.underlying79 ?hd ?hi ?_; (case hx => rfl); (case hg => exact P0.out); (case hd => rfl); (case hi => kernel_rfl)))
  go_loop [22] (fun i => i = .int .i64 0 ∨ i = .int .i64 1 ∨ i = .int .i64 2) (fun i => 2 - (intOf i).toNat)
  case atStart => exact .inl rfl
  case round =>
    rcases hrel with rfl | rfl | rfl
    · go_wp2_with (go_at_call 98; refine (data_out da dl dc _ size hl hb hs hd0.out _).mono ?_; rintro e w' ⟨rfl, rfl⟩)
      go_round
      case rel => exact .inr (.inl rfl)
      case measure => simp [intOf]
    · go_wp2_with (go_at_call 100; refine (stack_out sa sl sc _ size hl' hb hs hd1.out _).mono ?_; rintro e w' ⟨rfl, rfl⟩)
      go_round
      case rel => exact .inr (.inr rfl)
      case measure => simp [intOf]
    · go_wp2_with fail
      exact ⟨rfl, rfl, below_alloc _ _⟩
end Go.Proofs.Ytgopdicmmglakaa.W
