import Derived.Test.YtdplfflkmphpbaaGreatDoorP15
import Derived.Test.YtdplfflkmphpbaaGreatDoorP11
set_option linter.unusedVariables false
set_option linter.unusedSimpArgs false
namespace Go.Proofs.YtdplfflkmphpbaaGreatDoor.W
open Go.RowKit
theorem own_set {w : World} {B b j k n : Nat} {e : TypeId} {v x : Value} {xs : List Value} (h : w.ownsRow B e k v n xs) (hb : b < B) : (w.setCell ⟨b, j, none⟩ x).ownsRow B e k v n xs := by
  refine ⟨h.1, ?_⟩
  rcases h.2 with ⟨a, c⟩ | ⟨g, cap, cur, h0, hlo, hg, r⟩
  · exact .inl ⟨a, c⟩
  · exact .inr ⟨g, cap, cur, h0, hlo, (heap_setCell_other w _ g _ (by show g ≠ b; omega)).trans hg, r⟩
set_option maxHeartbeats 8000000 in
set_option maxRecDepth 100000 in
theorem l5Token_chr (s : ByteArray) (hs : s.size ≤ 1048576) (i : Nat) (hi : i < s.size) (hm : Pl.byt s i = 39) (w : World) : Calls Tryz.prog 25 #[.string s, .int .i64 i] w fun e w' => GotQ s i e ∧ Below w.heap.size w w' := by
  have hii : (i : Int) < s.size := by omega
  have hg := Pl.byt_get s i hi
  have hwq : ¬ Pl.wch (Pl.byt s i) = true := by rw [hm]; decide
  have HT : Hid (Pl.tokF s i = (match Pl.quoV s 39 (i + 1) with | .error f => .error f | .ok (bs, n) => if bs.length = 1 then .ok (3, ⟨#[99]⟩, Pl.nr 1 ((bs.headD 0).toNat : Int), n) else .error 7)) := by
    show Pl.tokF s i = _
    unfold Pl.tokF
    rw [if_neg hwq, if_pos hm]
    rfl
  have HQ : Hid (∀ u : World, Calls Tryz.prog 45 #[.string s, .int .i64 i] u fun e w' => (∃ r, Pl.Quo s 39 (i + 1) [] r ∧ QuoS u.heap.size r e w') ∧ Below u.heap.size u w') := fun u => by
    have := l5Quoted_is s hs i hi (.inr hm) u
    rw [hm] at this
    exact this
  have hw : Pl.wch 39 = false := by decide
  rw [hm] at hg
  clear hwq hm
  go_enter Tryz.func25, Tryz.ntmps25
  go_wp2_with (go_at_call 40; refine (l5Word_any _ _).mono ?_; rintro e u1 ⟨rfl, hu1⟩; rw [hu1]; clear hu1; rw [hw])
  refine (HQ.out _).mono ?_
  rintro e u2 ⟨⟨r, hr, hsd⟩, g2⟩
  have hz : ((w.alloc (.cells #[.int .i64 0, .string ⟨#[]⟩, .int .i64 0, .int .i64 0, .int .i64 0, .int .i64 0, .int .i64 0, .int .i64 0] 45)).alloc (.cells #[.int .i64 0, .string ⟨#[]⟩, .int .i64 0, .int .i64 0, .int .i64 0, .int .i64 0, .int .i64 2, .int .i64 i] 45)).heap.size = w.heap.size + 2 := by simp
  rw [hz] at hsd g2
  have Q5 : Hid (u2.heap[w.heap.size + 1]? = some (.cells #[.int .i64 0, .string ⟨#[]⟩, .int .i64 0, .int .i64 0, .int .i64 0, .int .i64 0, .int .i64 2, .int .i64 i] 45 (0, 0))) := (g2.block _ (by omega)).trans (by have := heap_alloc_new (w.alloc (.cells #[.int .i64 0, .string ⟨#[]⟩, .int .i64 0, .int .i64 0, .int .i64 0, .int .i64 0, .int .i64 0, .int .i64 0] 45)) (.cells #[.int .i64 0, .string ⟨#[]⟩, .int .i64 0, .int .i64 0, .int .i64 0, .int .i64 0, .int .i64 2, .int .i64 i] 45); simpa using this)
  have Q4 : Hid (u2.heap[w.heap.size]? = some (.cells #[.int .i64 0, .string ⟨#[]⟩, .int .i64 0, .int .i64 0, .int .i64 0, .int .i64 0, .int .i64 0, .int .i64 0] 45 (0, 0))) := (g2.block _ (by omega)).trans ((Below.heap_alloc _ _ _ (by simp)).trans (heap_alloc_new w _))
  have BW : Hid (Below w.heap.size w u2) := ((below_allocL _ _).trans ((below_allocL _ _).mono (by simp))).trans (g2.mono (by omega))
  have hc6 : u2.cell? ⟨w.heap.size + 1, 6, none⟩ = some (.int .i64 2) := cell_of_row u2 (w.heap.size + 1) 6 _ 45 (0, 0) Q5.out
  have hf6 : u2.frozen? ⟨w.heap.size + 1, 6, none⟩ = false := frozen_of_row u2 (w.heap.size + 1) 6 _ 45 Q5.out
  have hqv := Pl.quoV_eq hr
  have hf0 := hr.f0
  have hT := HT.out
  rw [hqv] at hT
  clear g2 HQ HT hqv hr hz
  cases r with
  | error f =>
    have HT : Hid (Pl.tokF s i = .error f) := hT
    have hf : f ≠ 0 := hf0 f rfl
    have e1 : (f == 0) = false := by simp [hf]
    have e2 : (f != 0) = true := by simp [hf]
    obtain ⟨v, q, bs, rfl, ho, hl, _⟩ := hsd
    clear hT hf0 hf ho
    obtain ⟨U3, hU3⟩ : ∃ U3, u2.setCell ⟨w.heap.size + 1, 6, none⟩ (.int .i64 f) = U3 := ⟨_, rfl⟩
    have R5 : Hid (U3.heap[w.heap.size + 1]? = some (.cells #[.int .i64 0, .string ⟨#[]⟩, .int .i64 0, .int .i64 0, .int .i64 0, .int .i64 0, .int .i64 f, .int .i64 i] 45 (0, 0))) := by rw [← hU3]; exact heap_setCell_same u2 (w.heap.size + 1) 6 _ 45 _ Q5.out
    have R4 : Hid (U3.heap[w.heap.size]? = some (.cells #[.int .i64 0, .string ⟨#[]⟩, .int .i64 0, .int .i64 0, .int .i64 0, .int .i64 0, .int .i64 0, .int .i64 0] 45 (0, 0))) := by rw [← hU3]; exact (heap_setCell_other u2 _ w.heap.size _ (by show w.heap.size ≠ w.heap.size + 1; omega)).trans Q4.out
    have BW3 : Hid (Below w.heap.size w U3) := by rw [← hU3]; exact BW.out.setCell (p := ⟨w.heap.size + 1, 6, none⟩) (by show w.heap.size ≤ w.heap.size + 1; omega) _
    go_wp2_with (first | (refine wpList_load_row rfl 45 _ rfl (w.heap.size + 1) ?hx 45 #[.int .i64 0, .string ⟨#[]⟩, .int .i64 0, .int .i64 0, .int .i64 0, .int .i64 0, .int .i64 f, .int .i64 i] (0, 0) _ ?hg Tryz.underlying45 ?hd ?hi ?_; (case hx => rfl); (case hg => exact R5.out); (case hd => rfl); (case hi => kernel_rfl)) | (refine wpList_store_row rfl 45 _ _ rfl w.heap.size #[.int .i64 0, .string ⟨#[]⟩, .int .i64 0, .int .i64 0, .int .i64 0, .int .i64 0, .int .i64 f, .int .i64 i] ?hx ?hy 45 #[.int .i64 0, .string ⟨#[]⟩, .int .i64 0, .int .i64 0, .int .i64 0, .int .i64 0, .int .i64 0, .int .i64 0] ?hg ?hi ?ho ?h1 ?_; (case hx => rfl); (case hy => rfl); (case hg => exact R4.out); (case hi => kernel_rfl); (case ho => kernel_rfl); (case h1 => kernel_rfl)))
    refine bodyPost_ret (v := .agg #[.int .i64 0, .string ⟨#[]⟩, .int .i64 0, .int .i64 0, .int .i64 0, .int .i64 0, .int .i64 f, .int .i64 i]) ?hr ?hdf ?hQQ
    case hr =>
      refine results_cell_row Tryz.results25 _ _ (w.heap.size) 45 #[.int .i64 0, .string ⟨#[]⟩, .int .i64 0, .int .i64 0, .int .i64 0, .int .i64 0, .int .i64 f, .int .i64 i] (0, 0) _ ?hp ?hg Tryz.underlying45 ?hd ?hi
      case hp => rfl
      case hg => exact setRow_heap _ _ _ _ _ _ R4.out
      case hd => rfl
      case hi => kernel_rfl
    case hdf => rfl
    case hQQ => exact ⟨gotq_no HT.out, below_setRow BW3.out (Nat.le_refl _) _⟩
  | ok q =>
    obtain ⟨bs, n⟩ := q
    obtain ⟨v, rfl, ho, hl⟩ := hsd
    obtain ⟨a, cap, rfl⟩ := own_form ho
    have hT' : Pl.tokF s i = if bs.length = 1 then .ok (3, ⟨#[99]⟩, Pl.nr 1 ((bs.headD 0).toNat : Int), n) else .error 7 := hT
    clear hT hf0
    by_cases hl1 : bs.length = 1
    · rw [if_pos hl1] at hT'
      obtain ⟨b, rfl⟩ : ∃ b, bs = [b] := by
        rcases bs with _ | ⟨b, _ | ⟨c, l⟩⟩
        · cases hl1
        · exact ⟨b, rfl⟩
        · simp at hl1
      have HT : Hid (Pl.tokF s i = .ok (3, ⟨#[99]⟩, Pl.nr 1 ((b.toNat : Nat) : Int), n)) := hT'
      obtain ⟨U3, hU3⟩ : ∃ U3, u2.setCell ⟨w.heap.size + 1, 6, none⟩ (.int .i64 0) = U3 := ⟨_, rfl⟩
      have R5 : Hid (U3.heap[w.heap.size + 1]? = some (.cells #[.int .i64 0, .string ⟨#[]⟩, .int .i64 0, .int .i64 0, .int .i64 0, .int .i64 0, .int .i64 0, .int .i64 i] 45 (0, 0))) := by rw [← hU3]; exact heap_setCell_same u2 (w.heap.size + 1) 6 _ 45 _ Q5.out
      have R4 : Hid (U3.heap[w.heap.size]? = some (.cells #[.int .i64 0, .string ⟨#[]⟩, .int .i64 0, .int .i64 0, .int .i64 0, .int .i64 0, .int .i64 0, .int .i64 0] 45 (0, 0))) := by rw [← hU3]; exact (heap_setCell_other u2 _ w.heap.size _ (by show w.heap.size ≠ w.heap.size + 1; omega)).trans Q4.out
      have BW3 : Hid (Below w.heap.size w U3) := by rw [← hU3]; exact BW.out.setCell (p := ⟨w.heap.size + 1, 6, none⟩) (by show w.heap.size ≤ w.heap.size + 1; omega) _
      obtain ⟨g, rfl, hc⟩ := own_first (own_set (j := 6) (x := .int .i64 0) ho (show w.heap.size + 1 < w.heap.size + 2 by omega))
      rw [hU3] at hc
      obtain ⟨c, hcc⟩ : ∃ c : Int, c = ((b.toNat : Nat) : Int) := ⟨_, rfl⟩
      rw [← hcc] at hc HT
      have HN : Hid (∀ u : World, Calls Tryz.prog 46 #[.int .i64 1, .int .i64 c] u fun e w' => e = .returned (.tuple #[.int .i64 (Pl.nr 1 c), .bool true]) ∧ w' = u) := fun u => specNarrow_any 1 c u
      have c0 : 0 ≤ c := by omega
      have c1 : c < 256 := by rw [hcc]; have := b.toNat_lt; omega
      obtain ⟨N, hN⟩ : ∃ N, N = Pl.nr 1 c := ⟨_, rfl⟩
      rw [← hN] at HT HN
      clear hcc hT' hl1 ho hN hl
      go_wp2_with (first | (go_at_call 46; refine (HN.out _).mono ?_; rintro e u3 ⟨rfl, hu3⟩; rw [hu3]; clear hu3) | (refine wpList_store_row rfl 45 _ _ rfl w.heap.size #[.int .i64 3, .string ⟨#[99]⟩, .int .i64 N, .int .i64 0, .int .i64 0, .int .i64 n, .int .i64 0, .int .i64 0] ?hx ?hy 45 #[.int .i64 0, .string ⟨#[]⟩, .int .i64 0, .int .i64 0, .int .i64 0, .int .i64 0, .int .i64 0, .int .i64 0] ?hg ?hi ?ho ?h1 ?_; (case hx => rfl); (case hy => rfl); (case hg => exact R4.out); (case hi => kernel_rfl); (case ho => kernel_rfl); (case h1 => kernel_rfl)))
      refine bodyPost_ret (v := .agg #[.int .i64 3, .string ⟨#[99]⟩, .int .i64 N, .int .i64 0, .int .i64 0, .int .i64 n, .int .i64 0, .int .i64 0]) ?hr ?hdf ?hQQ
      case hr =>
        refine results_cell_row Tryz.results25 _ _ (w.heap.size) 45 #[.int .i64 3, .string ⟨#[99]⟩, .int .i64 N, .int .i64 0, .int .i64 0, .int .i64 n, .int .i64 0, .int .i64 0] (0, 0) _ ?hp ?hg Tryz.underlying45 ?hd ?hi
        case hp => rfl
        case hg => exact setRow_heap _ _ _ _ _ _ R4.out
        case hd => rfl
        case hi => kernel_rfl
      case hdf => rfl
      case hQQ => exact ⟨gotq_ok HT.out rfl, below_setRow BW3.out (Nat.le_refl _) _⟩
    · rw [if_neg hl1] at hT'
      have HT : Hid (Pl.tokF s i = .error 7) := hT'
      have hl2 : ¬ ((bs.length : Int) = 1) := by omega
      have e1 : ((bs.length : Int) == 1) = false := by simp; omega
      have e2 : ((bs.length : Int) != 1) = true := by simp; omega
      clear hT' hl1 ho
      obtain ⟨U3, hU3⟩ : ∃ U3, u2.setCell ⟨w.heap.size + 1, 6, none⟩ (.int .i64 7) = U3 := ⟨_, rfl⟩
      have R5 : Hid (U3.heap[w.heap.size + 1]? = some (.cells #[.int .i64 0, .string ⟨#[]⟩, .int .i64 0, .int .i64 0, .int .i64 0, .int .i64 0, .int .i64 7, .int .i64 i] 45 (0, 0))) := by rw [← hU3]; exact heap_setCell_same u2 (w.heap.size + 1) 6 _ 45 _ Q5.out
      have R4 : Hid (U3.heap[w.heap.size]? = some (.cells #[.int .i64 0, .string ⟨#[]⟩, .int .i64 0, .int .i64 0, .int .i64 0, .int .i64 0, .int .i64 0, .int .i64 0] 45 (0, 0))) := by rw [← hU3]; exact (heap_setCell_other u2 _ w.heap.size _ (by show w.heap.size ≠ w.heap.size + 1; omega)).trans Q4.out
      have BW3 : Hid (Below w.heap.size w U3) := by rw [← hU3]; exact BW.out.setCell (p := ⟨w.heap.size + 1, 6, none⟩) (by show w.heap.size ≤ w.heap.size + 1; omega) _
      go_wp2_with (first | (refine wpList_load_row rfl 45 _ rfl (w.heap.size + 1) ?hx 45 #[.int .i64 0, .string ⟨#[]⟩, .int .i64 0, .int .i64 0, .int .i64 0, .int .i64 0, .int .i64 7, .int .i64 i] (0, 0) _ ?hg Tryz.underlying45 ?hd ?hi ?_; (case hx => rfl); (case hg => exact R5.out); (case hd => rfl); (case hi => kernel_rfl)) | (refine wpList_store_row rfl 45 _ _ rfl w.heap.size #[.int .i64 0, .string ⟨#[]⟩, .int .i64 0, .int .i64 0, .int .i64 0, .int .i64 0, .int .i64 7, .int .i64 i] ?hx ?hy 45 #[.int .i64 0, .string ⟨#[]⟩, .int .i64 0, .int .i64 0, .int .i64 0, .int .i64 0, .int .i64 0, .int .i64 0] ?hg ?hi ?ho ?h1 ?_; (case hx => rfl); (case hy => rfl); (case hg => exact R4.out); (case hi => kernel_rfl); (case ho => kernel_rfl); (case h1 => kernel_rfl)))
      refine bodyPost_ret (v := .agg #[.int .i64 0, .string ⟨#[]⟩, .int .i64 0, .int .i64 0, .int .i64 0, .int .i64 0, .int .i64 7, .int .i64 i]) ?hr ?hdf ?hQQ
      case hr =>
        refine results_cell_row Tryz.results25 _ _ (w.heap.size) 45 #[.int .i64 0, .string ⟨#[]⟩, .int .i64 0, .int .i64 0, .int .i64 0, .int .i64 0, .int .i64 7, .int .i64 i] (0, 0) _ ?hp ?hg Tryz.underlying45 ?hd ?hi
        case hp => rfl
        case hg => exact setRow_heap _ _ _ _ _ _ R4.out
        case hd => rfl
        case hi => kernel_rfl
      case hdf => rfl
      case hQQ => exact ⟨gotq_no HT.out, below_setRow BW3.out (Nat.le_refl _) _⟩
set_option maxHeartbeats 8000000 in
set_option maxRecDepth 100000 in
theorem l5Token_str (s : ByteArray) (hs : s.size ≤ 1048576) (i : Nat) (hi : i < s.size) (hm : Pl.byt s i = 34) (w : World) : Calls Tryz.prog 25 #[.string s, .int .i64 i] w fun e w' => GotQ s i e ∧ Below w.heap.size w w' := by
  have hii : (i : Int) < s.size := by omega
  have hg := Pl.byt_get s i hi
  have hwq : ¬ Pl.wch (Pl.byt s i) = true := by rw [hm]; decide
  have HT : Hid (Pl.tokF s i = (match Pl.quoV s 34 (i + 1) with | .error f => .error f | .ok (bs, n) => if 200 < bs.length then .error 8 else .ok (4, ⟨bs.toArray⟩, 0, n))) := by
    show Pl.tokF s i = _
    unfold Pl.tokF
    rw [if_neg hwq, if_neg (by rw [hm]; decide), if_pos hm]
    rfl
  have HQ : Hid (∀ u : World, Calls Tryz.prog 45 #[.string s, .int .i64 i] u fun e w' => (∃ r, Pl.Quo s 34 (i + 1) [] r ∧ QuoS u.heap.size r e w') ∧ Below u.heap.size u w') := fun u => by
    have := l5Quoted_is s hs i hi (.inl hm) u
    rw [hm] at this
    exact this
  have hw : Pl.wch 34 = false := by decide
  rw [hm] at hg
  clear hwq hm
  go_enter Tryz.func25, Tryz.ntmps25
  go_wp2_with (go_at_call 40; refine (l5Word_any _ _).mono ?_; rintro e u1 ⟨rfl, hu1⟩; rw [hu1]; clear hu1; rw [hw])
  refine (HQ.out _).mono ?_
  rintro e u2 ⟨⟨r, hr, hsd⟩, g2⟩
  have hz : ((w.alloc (.cells #[.int .i64 0, .string ⟨#[]⟩, .int .i64 0, .int .i64 0, .int .i64 0, .int .i64 0, .int .i64 0, .int .i64 0] 45)).alloc (.cells #[.int .i64 0, .string ⟨#[]⟩, .int .i64 0, .int .i64 0, .int .i64 0, .int .i64 0, .int .i64 2, .int .i64 i] 45)).heap.size = w.heap.size + 2 := by simp
  rw [hz] at hsd g2
  have Q5 : Hid (u2.heap[w.heap.size + 1]? = some (.cells #[.int .i64 0, .string ⟨#[]⟩, .int .i64 0, .int .i64 0, .int .i64 0, .int .i64 0, .int .i64 2, .int .i64 i] 45 (0, 0))) := (g2.block _ (by omega)).trans (by have := heap_alloc_new (w.alloc (.cells #[.int .i64 0, .string ⟨#[]⟩, .int .i64 0, .int .i64 0, .int .i64 0, .int .i64 0, .int .i64 0, .int .i64 0] 45)) (.cells #[.int .i64 0, .string ⟨#[]⟩, .int .i64 0, .int .i64 0, .int .i64 0, .int .i64 0, .int .i64 2, .int .i64 i] 45); simpa using this)
  have Q4 : Hid (u2.heap[w.heap.size]? = some (.cells #[.int .i64 0, .string ⟨#[]⟩, .int .i64 0, .int .i64 0, .int .i64 0, .int .i64 0, .int .i64 0, .int .i64 0] 45 (0, 0))) := (g2.block _ (by omega)).trans ((Below.heap_alloc _ _ _ (by simp)).trans (heap_alloc_new w _))
  have BW : Hid (Below w.heap.size w u2) := ((below_allocL _ _).trans ((below_allocL _ _).mono (by simp))).trans (g2.mono (by omega))
  have hc6 : u2.cell? ⟨w.heap.size + 1, 6, none⟩ = some (.int .i64 2) := cell_of_row u2 (w.heap.size + 1) 6 _ 45 (0, 0) Q5.out
  have hf6 : u2.frozen? ⟨w.heap.size + 1, 6, none⟩ = false := frozen_of_row u2 (w.heap.size + 1) 6 _ 45 Q5.out
  have hqv := Pl.quoV_eq hr
  have hf0 := hr.f0
  have hT := HT.out
  rw [hqv] at hT
  clear g2 HQ HT hqv hr hz
  cases r with
  | error f =>
    have HT : Hid (Pl.tokF s i = .error f) := hT
    have hf : f ≠ 0 := hf0 f rfl
    have e1 : (f == 0) = false := by simp [hf]
    have e2 : (f != 0) = true := by simp [hf]
    obtain ⟨v, q, bs, rfl, ho, hl, _⟩ := hsd
    clear hT hf0 hf ho
    obtain ⟨U3, hU3⟩ : ∃ U3, u2.setCell ⟨w.heap.size + 1, 6, none⟩ (.int .i64 f) = U3 := ⟨_, rfl⟩
    have R5 : Hid (U3.heap[w.heap.size + 1]? = some (.cells #[.int .i64 0, .string ⟨#[]⟩, .int .i64 0, .int .i64 0, .int .i64 0, .int .i64 0, .int .i64 f, .int .i64 i] 45 (0, 0))) := by rw [← hU3]; exact heap_setCell_same u2 (w.heap.size + 1) 6 _ 45 _ Q5.out
    have R4 : Hid (U3.heap[w.heap.size]? = some (.cells #[.int .i64 0, .string ⟨#[]⟩, .int .i64 0, .int .i64 0, .int .i64 0, .int .i64 0, .int .i64 0, .int .i64 0] 45 (0, 0))) := by rw [← hU3]; exact (heap_setCell_other u2 _ w.heap.size _ (by show w.heap.size ≠ w.heap.size + 1; omega)).trans Q4.out
    have BW3 : Hid (Below w.heap.size w U3) := by rw [← hU3]; exact BW.out.setCell (p := ⟨w.heap.size + 1, 6, none⟩) (by show w.heap.size ≤ w.heap.size + 1; omega) _
    go_wp2_with (first | (refine wpList_load_row rfl 45 _ rfl (w.heap.size + 1) ?hx 45 #[.int .i64 0, .string ⟨#[]⟩, .int .i64 0, .int .i64 0, .int .i64 0, .int .i64 0, .int .i64 f, .int .i64 i] (0, 0) _ ?hg Tryz.underlying45 ?hd ?hi ?_; (case hx => rfl); (case hg => exact R5.out); (case hd => rfl); (case hi => kernel_rfl)) | (refine wpList_store_row rfl 45 _ _ rfl w.heap.size #[.int .i64 0, .string ⟨#[]⟩, .int .i64 0, .int .i64 0, .int .i64 0, .int .i64 0, .int .i64 f, .int .i64 i] ?hx ?hy 45 #[.int .i64 0, .string ⟨#[]⟩, .int .i64 0, .int .i64 0, .int .i64 0, .int .i64 0, .int .i64 0, .int .i64 0] ?hg ?hi ?ho ?h1 ?_; (case hx => rfl); (case hy => rfl); (case hg => exact R4.out); (case hi => kernel_rfl); (case ho => kernel_rfl); (case h1 => kernel_rfl)))
    refine bodyPost_ret (v := .agg #[.int .i64 0, .string ⟨#[]⟩, .int .i64 0, .int .i64 0, .int .i64 0, .int .i64 0, .int .i64 f, .int .i64 i]) ?hr ?hdf ?hQQ
    case hr =>
      refine results_cell_row Tryz.results25 _ _ (w.heap.size) 45 #[.int .i64 0, .string ⟨#[]⟩, .int .i64 0, .int .i64 0, .int .i64 0, .int .i64 0, .int .i64 f, .int .i64 i] (0, 0) _ ?hp ?hg Tryz.underlying45 ?hd ?hi
      case hp => rfl
      case hg => exact setRow_heap _ _ _ _ _ _ R4.out
      case hd => rfl
      case hi => kernel_rfl
    case hdf => rfl
    case hQQ => exact ⟨gotq_no HT.out, below_setRow BW3.out (Nat.le_refl _) _⟩
  | ok q =>
    obtain ⟨bs, n⟩ := q
    obtain ⟨v, rfl, ho, hl⟩ := hsd
    obtain ⟨a, cap, rfl⟩ := own_form ho
    have hT' : Pl.tokF s i = if 200 < bs.length then .error 8 else .ok (4, ⟨bs.toArray⟩, 0, n) := hT
    clear hT hf0
    by_cases hl1 : 200 < bs.length
    · rw [if_pos hl1] at hT'
      have HT : Hid (Pl.tokF s i = .error 8) := hT'
      have hl2 : (200 : Int) < bs.length := by omega
      clear hT' hl1 ho
      obtain ⟨U3, hU3⟩ : ∃ U3, u2.setCell ⟨w.heap.size + 1, 6, none⟩ (.int .i64 8) = U3 := ⟨_, rfl⟩
      have R5 : Hid (U3.heap[w.heap.size + 1]? = some (.cells #[.int .i64 0, .string ⟨#[]⟩, .int .i64 0, .int .i64 0, .int .i64 0, .int .i64 0, .int .i64 8, .int .i64 i] 45 (0, 0))) := by rw [← hU3]; exact heap_setCell_same u2 (w.heap.size + 1) 6 _ 45 _ Q5.out
      have R4 : Hid (U3.heap[w.heap.size]? = some (.cells #[.int .i64 0, .string ⟨#[]⟩, .int .i64 0, .int .i64 0, .int .i64 0, .int .i64 0, .int .i64 0, .int .i64 0] 45 (0, 0))) := by rw [← hU3]; exact (heap_setCell_other u2 _ w.heap.size _ (by show w.heap.size ≠ w.heap.size + 1; omega)).trans Q4.out
      have BW3 : Hid (Below w.heap.size w U3) := by rw [← hU3]; exact BW.out.setCell (p := ⟨w.heap.size + 1, 6, none⟩) (by show w.heap.size ≤ w.heap.size + 1; omega) _
      go_wp2_with (first | (refine wpList_load_row rfl 45 _ rfl (w.heap.size + 1) ?hx 45 #[.int .i64 0, .string ⟨#[]⟩, .int .i64 0, .int .i64 0, .int .i64 0, .int .i64 0, .int .i64 8, .int .i64 i] (0, 0) _ ?hg Tryz.underlying45 ?hd ?hi ?_; (case hx => rfl); (case hg => exact R5.out); (case hd => rfl); (case hi => kernel_rfl)) | (refine wpList_store_row rfl 45 _ _ rfl w.heap.size #[.int .i64 0, .string ⟨#[]⟩, .int .i64 0, .int .i64 0, .int .i64 0, .int .i64 0, .int .i64 8, .int .i64 i] ?hx ?hy 45 #[.int .i64 0, .string ⟨#[]⟩, .int .i64 0, .int .i64 0, .int .i64 0, .int .i64 0, .int .i64 0, .int .i64 0] ?hg ?hi ?ho ?h1 ?_; (case hx => rfl); (case hy => rfl); (case hg => exact R4.out); (case hi => kernel_rfl); (case ho => kernel_rfl); (case h1 => kernel_rfl)))
      refine bodyPost_ret (v := .agg #[.int .i64 0, .string ⟨#[]⟩, .int .i64 0, .int .i64 0, .int .i64 0, .int .i64 0, .int .i64 8, .int .i64 i]) ?hr ?hdf ?hQQ
      case hr =>
        refine results_cell_row Tryz.results25 _ _ (w.heap.size) 45 #[.int .i64 0, .string ⟨#[]⟩, .int .i64 0, .int .i64 0, .int .i64 0, .int .i64 0, .int .i64 8, .int .i64 i] (0, 0) _ ?hp ?hg Tryz.underlying45 ?hd ?hi
        case hp => rfl
        case hg => exact setRow_heap _ _ _ _ _ _ R4.out
        case hd => rfl
        case hi => kernel_rfl
      case hdf => rfl
      case hQQ => exact ⟨gotq_no HT.out, below_setRow BW3.out (Nat.le_refl _) _⟩
    · rw [if_neg hl1] at hT'
      have HT : Hid (Pl.tokF s i = .ok (4, ⟨bs.toArray⟩, 0, n)) := hT'
      have hl2 : ¬ (200 : Int) < bs.length := by omega
      obtain ⟨U3, hU3⟩ : ∃ U3, u2.setCell ⟨w.heap.size + 1, 6, none⟩ (.int .i64 0) = U3 := ⟨_, rfl⟩
      have R5 : Hid (U3.heap[w.heap.size + 1]? = some (.cells #[.int .i64 0, .string ⟨#[]⟩, .int .i64 0, .int .i64 0, .int .i64 0, .int .i64 0, .int .i64 0, .int .i64 i] 45 (0, 0))) := by rw [← hU3]; exact heap_setCell_same u2 (w.heap.size + 1) 6 _ 45 _ Q5.out
      have R4 : Hid (U3.heap[w.heap.size]? = some (.cells #[.int .i64 0, .string ⟨#[]⟩, .int .i64 0, .int .i64 0, .int .i64 0, .int .i64 0, .int .i64 0, .int .i64 0] 45 (0, 0))) := by rw [← hU3]; exact (heap_setCell_other u2 _ w.heap.size _ (by show w.heap.size ≠ w.heap.size + 1; omega)).trans Q4.out
      have BW3 : Hid (Below w.heap.size w U3) := by rw [← hU3]; exact BW.out.setCell (p := ⟨w.heap.size + 1, 6, none⟩) (by show w.heap.size ≤ w.heap.size + 1; omega) _
      have hcv := own_str (own_set (j := 6) (x := .int .i64 0) ho (show w.heap.size + 1 < w.heap.size + 2 by omega))
      rw [hU3] at hcv
      obtain ⟨S, hS⟩ : ∃ S : ByteArray, S = ⟨bs.toArray⟩ := ⟨_, rfl⟩
      rw [← hS] at hcv HT
      clear hT' hl1 hS ho
      go_wp2_with (refine wpList_store_row rfl 45 _ _ rfl w.heap.size #[.int .i64 4, .string S, .int .i64 0, .int .i64 0, .int .i64 0, .int .i64 n, .int .i64 0, .int .i64 0] ?hx ?hy 45 #[.int .i64 0, .string ⟨#[]⟩, .int .i64 0, .int .i64 0, .int .i64 0, .int .i64 0, .int .i64 0, .int .i64 0] ?hg ?hi ?ho ?h1 ?_; (case hx => rfl); (case hy => rfl); (case hg => exact R4.out); (case hi => kernel_rfl); (case ho => kernel_rfl); (case h1 => kernel_rfl))
      refine bodyPost_ret (v := .agg #[.int .i64 4, .string S, .int .i64 0, .int .i64 0, .int .i64 0, .int .i64 n, .int .i64 0, .int .i64 0]) ?hr ?hdf ?hQQ
      case hr =>
        refine results_cell_row Tryz.results25 _ _ (w.heap.size) 45 #[.int .i64 4, .string S, .int .i64 0, .int .i64 0, .int .i64 0, .int .i64 n, .int .i64 0, .int .i64 0] (0, 0) _ ?hp ?hg Tryz.underlying45 ?hd ?hi
        case hp => rfl
        case hg => exact setRow_heap _ _ _ _ _ _ R4.out
        case hd => rfl
        case hi => kernel_rfl
      case hdf => rfl
      case hQQ => exact ⟨gotq_ok HT.out rfl, below_setRow BW3.out (Nat.le_refl _) _⟩
end Go.Proofs.YtdplfflkmphpbaaGreatDoor.W
