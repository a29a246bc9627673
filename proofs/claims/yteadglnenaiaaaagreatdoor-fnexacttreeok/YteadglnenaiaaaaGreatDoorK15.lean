import Derived.Test.YteadglnenaiaaaaGreatDoorK14
import Derived.Test.YteadglnenaiaaaaGreatDoorK11
import Derived.Test.YteadglnenaiaaaaGreatDoorK13
import Derived.Deep.QuietTactic
import Derived.BigQuiet
import Derived.Test.YteadglnenaiaaaaGreatDoorK09
import Derived.Lib.ItoaNum
set_option linter.unusedVariables false
set_option linter.unusedSimpArgs false
namespace Go.Proofs.YteadglnenaiaaaaGreatDoor.W
open Go.RowKit
theorem own_set {w : World} {B b j k n : Nat} {e : TypeId} {v x : Value} {xs : List Value} (h : w.ownsRow B e k v n xs) (hb : b < B) : (w.setCell ⟨b, j, none⟩ x).ownsRow B e k v n xs := by
  refine ⟨h.1, ?_⟩
  rcases h.2 with ⟨a, c⟩ | ⟨g, cap, cur, h0, hlo, hg, r⟩
  · exact .inl ⟨a, c⟩
  · exact .inr ⟨g, cap, cur, h0, hlo, (heap_setCell_other w _ g _ (by show g ≠ b; omega)).trans hg, r⟩
set_option maxHeartbeats 8000000 in
set_option maxRecDepth 100000 in
theorem l5Token_chr (s : ByteArray) (hs : s.size ≤ 1048576) (i : Nat) (hi : i < s.size) (hm : Pl.byt s i = 39) (w : World) : Calls Tryz.prog 61 #[.string s, .int .i64 i] w fun e w' => GotQ s i e ∧ Below w.heap.size w w' := by
  have hii : (i : Int) < s.size := by omega
  have hg := Pl.byt_get s i hi
  have hwq : ¬ Pl.wch (Pl.byt s i) = true := by rw [hm]; decide
  have HT : Hid (Pl.tokF s i = (match Pl.quoV s 39 (i + 1) with | .error f => .error f | .ok (bs, n) => if bs.length = 1 then .ok (3, ⟨#[99]⟩, Pl.nr 1 ((bs.headD 0).toNat : Int), n) else .error 7)) := by
    show Pl.tokF s i = _
    unfold Pl.tokF
    rw [if_neg hwq, if_pos hm]
    rfl
  have HQ : Hid (∀ u : World, Calls Tryz.prog 69 #[.string s, .int .i64 i] u fun e w' => (∃ r, Pl.Quo s 39 (i + 1) [] r ∧ QuoS u.heap.size r e w') ∧ Below u.heap.size u w') := fun u => by
    have := l5Quoted_is s hs i hi (.inr hm) u
    rw [hm] at this
    exact this
  have hw : Pl.wch 39 = false := by decide
  rw [hm] at hg
  clear hwq hm
  go_enter Tryz.func61, Tryz.ntmps61
  go_wp2_with (go_at_call 44; refine (l5Word_any _ _).mono ?_; rintro e u1 ⟨rfl, hu1⟩; rw [hu1]; clear hu1; rw [hw])
  refine (HQ.out _).mono ?_
  rintro e u2 ⟨⟨r, hr, hsd⟩, g2⟩
  have hz : ((w.alloc (.cells #[.int .i64 0, .string ⟨#[]⟩, .int .i64 0, .int .i64 0, .int .i64 0, .int .i64 0, .int .i64 0, .int .i64 0] 96)).alloc (.cells #[.int .i64 0, .string ⟨#[]⟩, .int .i64 0, .int .i64 0, .int .i64 0, .int .i64 0, .int .i64 2, .int .i64 i] 96)).heap.size = w.heap.size + 2 := by simp
  rw [hz] at hsd g2
  have Q5 : Hid (u2.heap[w.heap.size + 1]? = some (.cells #[.int .i64 0, .string ⟨#[]⟩, .int .i64 0, .int .i64 0, .int .i64 0, .int .i64 0, .int .i64 2, .int .i64 i] 96 (0, 0))) := (g2.block _ (by omega)).trans (by have := heap_alloc_new (w.alloc (.cells #[.int .i64 0, .string ⟨#[]⟩, .int .i64 0, .int .i64 0, .int .i64 0, .int .i64 0, .int .i64 0, .int .i64 0] 96)) (.cells #[.int .i64 0, .string ⟨#[]⟩, .int .i64 0, .int .i64 0, .int .i64 0, .int .i64 0, .int .i64 2, .int .i64 i] 96); simpa using this)
  have Q4 : Hid (u2.heap[w.heap.size]? = some (.cells #[.int .i64 0, .string ⟨#[]⟩, .int .i64 0, .int .i64 0, .int .i64 0, .int .i64 0, .int .i64 0, .int .i64 0] 96 (0, 0))) := (g2.block _ (by omega)).trans ((Below.heap_alloc _ _ _ (by simp)).trans (heap_alloc_new w _))
  have BW : Hid (Below w.heap.size w u2) := ((below_allocL _ _).trans ((below_allocL _ _).mono (by simp))).trans (g2.mono (by omega))
  have hc6 : u2.cell? ⟨w.heap.size + 1, 6, none⟩ = some (.int .i64 2) := cell_of_row u2 (w.heap.size + 1) 6 _ 96 (0, 0) Q5.out
  have hf6 : u2.frozen? ⟨w.heap.size + 1, 6, none⟩ = false := frozen_of_row u2 (w.heap.size + 1) 6 _ 96 Q5.out
  have hqv := Pl.quoV_eq hr
  have hf0 := hr.f0
  have hT := HT.out
  rw [hqv] at hT
  clear g2 HQ HT hqv hr hz
  cases r with
  | error f =>
    have HT : Hid (Pl.tokF s i = .error f) := hT
    have hf : f ≠ 0 := hf0 f rfl
    have e1 : (f == 0) = false := by simp [hf]
    have e2 : (f != 0) = true := by simp [hf]
    obtain ⟨v, q, bs, rfl, ho, hl, _⟩ := hsd
    clear hT hf0 hf ho
    obtain ⟨U3, hU3⟩ : ∃ U3, u2.setCell ⟨w.heap.size + 1, 6, none⟩ (.int .i64 f) = U3 := ⟨_, rfl⟩
    have R5 : Hid (U3.heap[w.heap.size + 1]? = some (.cells #[.int .i64 0, .string ⟨#[]⟩, .int .i64 0, .int .i64 0, .int .i64 0, .int .i64 0, .int .i64 f, .int .i64 i] 96 (0, 0))) := by rw [← hU3]; exact heap_setCell_same u2 (w.heap.size + 1) 6 _ 96 _ Q5.out
    have R4 : Hid (U3.heap[w.heap.size]? = some (.cells #[.int .i64 0, .string ⟨#[]⟩, .int .i64 0, .int .i64 0, .int .i64 0, .int .i64 0, .int .i64 0, .int .i64 0] 96 (0, 0))) := by rw [← hU3]; exact (heap_setCell_other u2 _ w.heap.size _ (by show w.heap.size ≠ w.heap.size + 1; omega)).trans Q4.out
    have BW3 : Hid (Below w.heap.size w U3) := by rw [← hU3]; exact BW.out.setCell (p := ⟨w.heap.size + 1, 6, none⟩) (by show w.heap.size ≤ w.heap.size + 1; omega) _
    go_wp2_with (first | (refine wpList_load_row rfl 96 _ rfl (w.heap.size + 1) ?hx 96 #[.int .i64 0, .string ⟨#[]⟩, .int .i64 0, .int .i64 0, .int .i64 0, .int .i64 0, .int .i64 f, .int .i64 i] (0, 0) _ ?hg Tryz.underlying96 ?hd ?hi ?_; (case hx => rfl); (case hg => exact R5.out); (case hd => rfl); (case hi => kernel_rfl)) | (refine wpList_store_row rfl 96 _ _ rfl w.heap.size #[.int .i64 0, .string ⟨#[]⟩, .int .i64 0, .int .i64 0, .int .i64 0, .int .i64 0, .int .i64 f, .int .i64 i] ?hx ?hy 96 #[.int .i64 0, .string ⟨#[]⟩, .int .i64 0, .int .i64 0, .int .i64 0, .int .i64 0, .int .i64 0, .int .i64 0] ?hg ?hi ?ho ?h1 ?_; (case hx => rfl); (case hy => rfl); (case hg => exact R4.out); (case hi => kernel_rfl); (case ho => kernel_rfl); (case h1 => kernel_rfl)))
    refine bodyPost_ret (v := .agg #[.int .i64 0, .string ⟨#[]⟩, .int .i64 0, .int .i64 0, .int .i64 0, .int .i64 0, .int .i64 f, .int .i64 i]) ?hr ?hdf ?hQQ
    case hr =>
      refine results_cell_row Tryz.results61 _ _ (w.heap.size) 96 #[.int .i64 0, .string ⟨#[]⟩, .int .i64 0, .int .i64 0, .int .i64 0, .int .i64 0, .int .i64 f, .int .i64 i] (0, 0) _ ?hp ?hg Tryz.underlying96 ?hd ?hi
      case hp => rfl
      case hg => exact setRow_heap _ _ _ _ _ _ R4.out
      case hd => rfl
      case hi => kernel_rfl
    case hdf => rfl
    case hQQ => exact ⟨gotq_no HT.out, below_setRow BW3.out (Nat.le_refl _) _⟩
  | ok q =>
    obtain ⟨bs, n⟩ := q
    obtain ⟨v, rfl, ho, hl⟩ := hsd
    obtain ⟨a, cap, rfl⟩ := own_form ho
    have hT' : Pl.tokF s i = if bs.length = 1 then .ok (3, ⟨#[99]⟩, Pl.nr 1 ((bs.headD 0).toNat : Int), n) else .error 7 := hT
    clear hT hf0
    by_cases hl1 : bs.length = 1
    · rw [if_pos hl1] at hT'
      obtain ⟨b, rfl⟩ : ∃ b, bs = [b] := by
        rcases bs with _ | ⟨b, _ | ⟨c, l⟩⟩
        · cases hl1
        · exact ⟨b, rfl⟩
        · simp at hl1
      have HT : Hid (Pl.tokF s i = .ok (3, ⟨#[99]⟩, Pl.nr 1 ((b.toNat : Nat) : Int), n)) := hT'
      obtain ⟨U3, hU3⟩ : ∃ U3, u2.setCell ⟨w.heap.size + 1, 6, none⟩ (.int .i64 0) = U3 := ⟨_, rfl⟩
      have R5 : Hid (U3.heap[w.heap.size + 1]? = some (.cells #[.int .i64 0, .string ⟨#[]⟩, .int .i64 0, .int .i64 0, .int .i64 0, .int .i64 0, .int .i64 0, .int .i64 i] 96 (0, 0))) := by rw [← hU3]; exact heap_setCell_same u2 (w.heap.size + 1) 6 _ 96 _ Q5.out
      have R4 : Hid (U3.heap[w.heap.size]? = some (.cells #[.int .i64 0, .string ⟨#[]⟩, .int .i64 0, .int .i64 0, .int .i64 0, .int .i64 0, .int .i64 0, .int .i64 0] 96 (0, 0))) := by rw [← hU3]; exact (heap_setCell_other u2 _ w.heap.size _ (by show w.heap.size ≠ w.heap.size + 1; omega)).trans Q4.out
      have BW3 : Hid (Below w.heap.size w U3) := by rw [← hU3]; exact BW.out.setCell (p := ⟨w.heap.size + 1, 6, none⟩) (by show w.heap.size ≤ w.heap.size + 1; omega) _
      obtain ⟨g, rfl, hc⟩ := own_first (own_set (j := 6) (x := .int .i64 0) ho (show w.heap.size + 1 < w.heap.size + 2 by omega))
      rw [hU3] at hc
      obtain ⟨c, hcc⟩ : ∃ c : Int, c = ((b.toNat : Nat) : Int) := ⟨_, rfl⟩
      rw [← hcc] at hc HT
      have HN : Hid (∀ u : World, Calls Tryz.prog 70 #[.int .i64 1, .int .i64 c] u fun e w' => e = .returned (.tuple #[.int .i64 (Pl.nr 1 c), .bool true]) ∧ w' = u) := fun u => specNarrow_any 1 c u
      have c0 : 0 ≤ c := by omega
      have c1 : c < 256 := by rw [hcc]; have := b.toNat_lt; omega
      obtain ⟨N, hN⟩ : ∃ N, N = Pl.nr 1 c := ⟨_, rfl⟩
      rw [← hN] at HT HN
      clear hcc hT' hl1 ho hN hl
      go_wp2_with (first | (go_at_call 70; refine (HN.out _).mono ?_; rintro e u3 ⟨rfl, hu3⟩; rw [hu3]; clear hu3) | (refine wpList_store_row rfl 96 _ _ rfl w.heap.size #[.int .i64 3, .string ⟨#[99]⟩, .int .i64 N, .int .i64 0, .int .i64 0, .int .i64 n, .int .i64 0, .int .i64 0] ?hx ?hy 96 #[.int .i64 0, .string ⟨#[]⟩, .int .i64 0, .int .i64 0, .int .i64 0, .int .i64 0, .int .i64 0, .int .i64 0] ?hg ?hi ?ho ?h1 ?_; (case hx => rfl); (case hy => rfl); (case hg => exact R4.out); (case hi => kernel_rfl); (case ho => kernel_rfl); (case h1 => kernel_rfl)))
      refine bodyPost_ret (v := .agg #[.int .i64 3, .string ⟨#[99]⟩, .int .i64 N, .int .i64 0, .int .i64 0, .int .i64 n, .int .i64 0, .int .i64 0]) ?hr ?hdf ?hQQ
      case hr =>
        refine results_cell_row Tryz.results61 _ _ (w.heap.size) 96 #[.int .i64 3, .string ⟨#[99]⟩, .int .i64 N, .int .i64 0, .int .i64 0, .int .i64 n, .int .i64 0, .int .i64 0] (0, 0) _ ?hp ?hg Tryz.underlying96 ?hd ?hi
        case hp => rfl
        case hg => exact setRow_heap _ _ _ _ _ _ R4.out
        case hd => rfl
        case hi => kernel_rfl
      case hdf => rfl
      case hQQ => exact ⟨gotq_ok HT.out rfl, below_setRow BW3.out (Nat.le_refl _) _⟩
    · rw [if_neg hl1] at hT'
      have HT : Hid (Pl.tokF s i = .error 7) := hT'
      have hl2 : ¬ ((bs.length : Int) = 1) := by omega
      have e1 : ((bs.length : Int) == 1) = false := by simp; omega
      have e2 : ((bs.length : Int) != 1) = true := by simp; omega
      clear hT' hl1 ho
      obtain ⟨U3, hU3⟩ : ∃ U3, u2.setCell ⟨w.heap.size + 1, 6, none⟩ (.int .i64 7) = U3 := ⟨_, rfl⟩
      have R5 : Hid (U3.heap[w.heap.size + 1]? = some (.cells #[.int .i64 0, .string ⟨#[]⟩, .int .i64 0, .int .i64 0, .int .i64 0, .int .i64 0, .int .i64 7, .int .i64 i] 96 (0, 0))) := by rw [← hU3]; exact heap_setCell_same u2 (w.heap.size + 1) 6 _ 96 _ Q5.out
      have R4 : Hid (U3.heap[w.heap.size]? = some (.cells #[.int .i64 0, .string ⟨#[]⟩, .int .i64 0, .int .i64 0, .int .i64 0, .int .i64 0, .int .i64 0, .int .i64 0] 96 (0, 0))) := by rw [← hU3]; exact (heap_setCell_other u2 _ w.heap.size _ (by show w.heap.size ≠ w.heap.size + 1; omega)).trans Q4.out
      have BW3 : Hid (Below w.heap.size w U3) := by rw [← hU3]; exact BW.out.setCell (p := ⟨w.heap.size + 1, 6, none⟩) (by show w.heap.size ≤ w.heap.size + 1; omega) _
      go_wp2_with (first | (refine wpList_load_row rfl 96 _ rfl (w.heap.size + 1) ?hx 96 #[.int .i64 0, .string ⟨#[]⟩, .int .i64 0, .int .i64 0, .int .i64 0, .int .i64 0, .int .i64 7, .int .i64 i] (0, 0) _ ?hg Tryz.underlying96 ?hd ?hi ?_; (case hx => rfl); (case hg => exact R5.out); (case hd => rfl); (case hi => kernel_rfl)) | (refine wpList_store_row rfl 96 _ _ rfl w.heap.size #[.int .i64 0, .string ⟨#[]⟩, .int .i64 0, .int .i64 0, .int .i64 0, .int .i64 0, .int .i64 7, .int .i64 i] ?hx ?hy 96 #[.int .i64 0, .string ⟨#[]⟩, .int .i64 0, .int .i64 0, .int .i64 0, .int .i64 0, .int .i64 0, .int .i64 0] ?hg ?hi ?ho ?h1 ?_; (case hx => rfl); (case hy => rfl); (case hg => exact R4.out); (case hi => kernel_rfl); (case ho => kernel_rfl); (case h1 => kernel_rfl)))
      refine bodyPost_ret (v := .agg #[.int .i64 0, .string ⟨#[]⟩, .int .i64 0, .int .i64 0, .int .i64 0, .int .i64 0, .int .i64 7, .int .i64 i]) ?hr ?hdf ?hQQ
      case hr =>
        refine results_cell_row Tryz.results61 _ _ (w.heap.size) 96 #[.int .i64 0, .string ⟨#[]⟩, .int .i64 0, .int .i64 0, .int .i64 0, .int .i64 0, .int .i64 7, .int .i64 i] (0, 0) _ ?hp ?hg Tryz.underlying96 ?hd ?hi
        case hp => rfl
        case hg => exact setRow_heap _ _ _ _ _ _ R4.out
        case hd => rfl
        case hi => kernel_rfl
      case hdf => rfl
      case hQQ => exact ⟨gotq_no HT.out, below_setRow BW3.out (Nat.le_refl _) _⟩
set_option maxHeartbeats 8000000 in
set_option maxRecDepth 100000 in
theorem l5Token_str (s : ByteArray) (hs : s.size ≤ 1048576) (i : Nat) (hi : i < s.size) (hm : Pl.byt s i = 34) (w : World) : Calls Tryz.prog 61 #[.string s, .int .i64 i] w fun e w' => GotQ s i e ∧ Below w.heap.size w w' := by
  have hii : (i : Int) < s.size := by omega
  have hg := Pl.byt_get s i hi
  have hwq : ¬ Pl.wch (Pl.byt s i) = true := by rw [hm]; decide
  have HT : Hid (Pl.tokF s i = (match Pl.quoV s 34 (i + 1) with | .error f => .error f | .ok (bs, n) => if 200 < bs.length then .error 8 else .ok (4, ⟨bs.toArray⟩, 0, n))) := by
    show Pl.tokF s i = _
    unfold Pl.tokF
    rw [if_neg hwq, if_neg (by rw [hm]; decide), if_pos hm]
    rfl
  have HQ : Hid (∀ u : World, Calls Tryz.prog 69 #[.string s, .int .i64 i] u fun e w' => (∃ r, Pl.Quo s 34 (i + 1) [] r ∧ QuoS u.heap.size r e w') ∧ Below u.heap.size u w') := fun u => by
    have := l5Quoted_is s hs i hi (.inl hm) u
    rw [hm] at this
    exact this
  have hw : Pl.wch 34 = false := by decide
  rw [hm] at hg
  clear hwq hm
  go_enter Tryz.func61, Tryz.ntmps61
  go_wp2_with (go_at_call 44; refine (l5Word_any _ _).mono ?_; rintro e u1 ⟨rfl, hu1⟩; rw [hu1]; clear hu1; rw [hw])
  refine (HQ.out _).mono ?_
  rintro e u2 ⟨⟨r, hr, hsd⟩, g2⟩
  have hz : ((w.alloc (.cells #[.int .i64 0, .string ⟨#[]⟩, .int .i64 0, .int .i64 0, .int .i64 0, .int .i64 0, .int .i64 0, .int .i64 0] 96)).alloc (.cells #[.int .i64 0, .string ⟨#[]⟩, .int .i64 0, .int .i64 0, .int .i64 0, .int .i64 0, .int .i64 2, .int .i64 i] 96)).heap.size = w.heap.size + 2 := by simp
  rw [hz] at hsd g2
  have Q5 : Hid (u2.heap[w.heap.size + 1]? = some (.cells #[.int .i64 0, .string ⟨#[]⟩, .int .i64 0, .int .i64 0, .int .i64 0, .int .i64 0, .int .i64 2, .int .i64 i] 96 (0, 0))) := (g2.block _ (by omega)).trans (by have := heap_alloc_new (w.alloc (.cells #[.int .i64 0, .string ⟨#[]⟩, .int .i64 0, .int .i64 0, .int .i64 0, .int .i64 0, .int .i64 0, .int .i64 0] 96)) (.cells #[.int .i64 0, .string ⟨#[]⟩, .int .i64 0, .int .i64 0, .int .i64 0, .int .i64 0, .int .i64 2, .int .i64 i] 96); simpa using this)
  have Q4 : Hid (u2.heap[w.heap.size]? = some (.cells #[.int .i64 0, .string ⟨#[]⟩, .int .i64 0, .int .i64 0, .int .i64 0, .int .i64 0, .int .i64 0, .int .i64 0] 96 (0, 0))) := (g2.block _ (by omega)).trans ((Below.heap_alloc _ _ _ (by simp)).trans (heap_alloc_new w _))
  have BW : Hid (Below w.heap.size w u2) := ((below_allocL _ _).trans ((below_allocL _ _).mono (by simp))).trans (g2.mono (by omega))
  have hc6 : u2.cell? ⟨w.heap.size + 1, 6, none⟩ = some (.int .i64 2) := cell_of_row u2 (w.heap.size + 1) 6 _ 96 (0, 0) Q5.out
  have hf6 : u2.frozen? ⟨w.heap.size + 1, 6, none⟩ = false := frozen_of_row u2 (w.heap.size + 1) 6 _ 96 Q5.out
  have hqv := Pl.quoV_eq hr
  have hf0 := hr.f0
  have hT := HT.out
  rw [hqv] at hT
  clear g2 HQ HT hqv hr hz
  cases r with
  | error f =>
    have HT : Hid (Pl.tokF s i = .error f) := hT
    have hf : f ≠ 0 := hf0 f rfl
    have e1 : (f == 0) = false := by simp [hf]
    have e2 : (f != 0) = true := by simp [hf]
    obtain ⟨v, q, bs, rfl, ho, hl, _⟩ := hsd
    clear hT hf0 hf ho
    obtain ⟨U3, hU3⟩ : ∃ U3, u2.setCell ⟨w.heap.size + 1, 6, none⟩ (.int .i64 f) = U3 := ⟨_, rfl⟩
    have R5 : Hid (U3.heap[w.heap.size + 1]? = some (.cells #[.int .i64 0, .string ⟨#[]⟩, .int .i64 0, .int .i64 0, .int .i64 0, .int .i64 0, .int .i64 f, .int .i64 i] 96 (0, 0))) := by rw [← hU3]; exact heap_setCell_same u2 (w.heap.size + 1) 6 _ 96 _ Q5.out
    have R4 : Hid (U3.heap[w.heap.size]? = some (.cells #[.int .i64 0, .string ⟨#[]⟩, .int .i64 0, .int .i64 0, .int .i64 0, .int .i64 0, .int .i64 0, .int .i64 0] 96 (0, 0))) := by rw [← hU3]; exact (heap_setCell_other u2 _ w.heap.size _ (by show w.heap.size ≠ w.heap.size + 1; omega)).trans Q4.out
    have BW3 : Hid (Below w.heap.size w U3) := by rw [← hU3]; exact BW.out.setCell (p := ⟨w.heap.size + 1, 6, none⟩) (by show w.heap.size ≤ w.heap.size + 1; omega) _
    go_wp2_with (first | (refine wpList_load_row rfl 96 _ rfl (w.heap.size + 1) ?hx 96 #[.int .i64 0, .string ⟨#[]⟩, .int .i64 0, .int .i64 0, .int .i64 0, .int .i64 0, .int .i64 f, .int .i64 i] (0, 0) _ ?hg Tryz.underlying96 ?hd ?hi ?_; (case hx => rfl); (case hg => exact R5.out); (case hd => rfl); (case hi => kernel_rfl)) | (refine wpList_store_row rfl 96 _ _ rfl w.heap.size #[.int .i64 0, .string ⟨#[]⟩, .int .i64 0, .int .i64 0, .int .i64 0, .int .i64 0, .int .i64 f, .int .i64 i] ?hx ?hy 96 #[.int .i64 0, .string ⟨#[]⟩, .int .i64 0, .int .i64 0, .int .i64 0, .int .i64 0, .int .i64 0, .int .i64 0] ?hg ?hi ?ho ?h1 ?_; (case hx => rfl); (case hy => rfl); (case hg => exact R4.out); (case hi => kernel_rfl); (case ho => kernel_rfl); (case h1 => kernel_rfl)))
    refine bodyPost_ret (v := .agg #[.int .i64 0, .string ⟨#[]⟩, .int .i64 0, .int .i64 0, .int .i64 0, .int .i64 0, .int .i64 f, .int .i64 i]) ?hr ?hdf ?hQQ
    case hr =>
      refine results_cell_row Tryz.results61 _ _ (w.heap.size) 96 #[.int .i64 0, .string ⟨#[]⟩, .int .i64 0, .int .i64 0, .int .i64 0, .int .i64 0, .int .i64 f, .int .i64 i] (0, 0) _ ?hp ?hg Tryz.underlying96 ?hd ?hi
      case hp => rfl
      case hg => exact setRow_heap _ _ _ _ _ _ R4.out
      case hd => rfl
      case hi => kernel_rfl
    case hdf => rfl
    case hQQ => exact ⟨gotq_no HT.out, below_setRow BW3.out (Nat.le_refl _) _⟩
  | ok q =>
    obtain ⟨bs, n⟩ := q
    obtain ⟨v, rfl, ho, hl⟩ := hsd
    obtain ⟨a, cap, rfl⟩ := own_form ho
    have hT' : Pl.tokF s i = if 200 < bs.length then .error 8 else .ok (4, ⟨bs.toArray⟩, 0, n) := hT
    clear hT hf0
    by_cases hl1 : 200 < bs.length
    · rw [if_pos hl1] at hT'
      have HT : Hid (Pl.tokF s i = .error 8) := hT'
      have hl2 : (200 : Int) < bs.length := by omega
      clear hT' hl1 ho
      obtain ⟨U3, hU3⟩ : ∃ U3, u2.setCell ⟨w.heap.size + 1, 6, none⟩ (.int .i64 8) = U3 := ⟨_, rfl⟩
      have R5 : Hid (U3.heap[w.heap.size + 1]? = some (.cells #[.int .i64 0, .string ⟨#[]⟩, .int .i64 0, .int .i64 0, .int .i64 0, .int .i64 0, .int .i64 8, .int .i64 i] 96 (0, 0))) := by rw [← hU3]; exact heap_setCell_same u2 (w.heap.size + 1) 6 _ 96 _ Q5.out
      have R4 : Hid (U3.heap[w.heap.size]? = some (.cells #[.int .i64 0, .string ⟨#[]⟩, .int .i64 0, .int .i64 0, .int .i64 0, .int .i64 0, .int .i64 0, .int .i64 0] 96 (0, 0))) := by rw [← hU3]; exact (heap_setCell_other u2 _ w.heap.size _ (by show w.heap.size ≠ w.heap.size + 1; omega)).trans Q4.out
      have BW3 : Hid (Below w.heap.size w U3) := by rw [← hU3]; exact BW.out.setCell (p := ⟨w.heap.size + 1, 6, none⟩) (by show w.heap.size ≤ w.heap.size + 1; omega) _
      go_wp2_with (first | (refine wpList_load_row rfl 96 _ rfl (w.heap.size + 1) ?hx 96 #[.int .i64 0, .string ⟨#[]⟩, .int .i64 0, .int .i64 0, .int .i64 0, .int .i64 0, .int .i64 8, .int .i64 i] (0, 0) _ ?hg Tryz.underlying96 ?hd ?hi ?_; (case hx => rfl); (case hg => exact R5.out); (case hd => rfl); (case hi => kernel_rfl)) | (refine wpList_store_row rfl 96 _ _ rfl w.heap.size #[.int .i64 0, .string ⟨#[]⟩, .int .i64 0, .int .i64 0, .int .i64 0, .int .i64 0, .int .i64 8, .int .i64 i] ?hx ?hy 96 #[.int .i64 0, .string ⟨#[]⟩, .int .i64 0, .int .i64 0, .int .i64 0, .int .i64 0, .int .i64 0, .int .i64 0] ?hg ?hi ?ho ?h1 ?_; (case hx => rfl); (case hy => rfl); (case hg => exact R4.out); (case hi => kernel_rfl); (case ho => kernel_rfl); (case h1 => kernel_rfl)))
      refine bodyPost_ret (v := .agg #[.int .i64 0, .string ⟨#[]⟩, .int .i64 0, .int .i64 0, .int .i64 0, .int .i64 0, .int .i64 8, .int .i64 i]) ?hr ?hdf ?hQQ
      case hr =>
        refine results_cell_row Tryz.results61 _ _ (w.heap.size) 96 #[.int .i64 0, .string ⟨#[]⟩, .int .i64 0, .int .i64 0, .int .i64 0, .int .i64 0, .int .i64 8, .int .i64 i] (0, 0) _ ?hp ?hg Tryz.underlying96 ?hd ?hi
        case hp => rfl
        case hg => exact setRow_heap _ _ _ _ _ _ R4.out
        case hd => rfl
        case hi => kernel_rfl
      case hdf => rfl
      case hQQ => exact ⟨gotq_no HT.out, below_setRow BW3.out (Nat.le_refl _) _⟩
    · rw [if_neg hl1] at hT'
      have HT : Hid (Pl.tokF s i = .ok (4, ⟨bs.toArray⟩, 0, n)) := hT'
      have hl2 : ¬ (200 : Int) < bs.length := by omega
      obtain ⟨U3, hU3⟩ : ∃ U3, u2.setCell ⟨w.heap.size + 1, 6, none⟩ (.int .i64 0) = U3 := ⟨_, rfl⟩
      have R5 : Hid (U3.heap[w.heap.size + 1]? = some (.cells #[.int .i64 0, .string ⟨#[]⟩, .int .i64 0, .int .i64 0, .int .i64 0, .int .i64 0, .int .i64 0, .int .i64 i] 96 (0, 0))) := by rw [← hU3]; exact heap_setCell_same u2 (w.heap.size + 1) 6 _ 96 _ Q5.out
      have R4 : Hid (U3.heap[w.heap.size]? = some (.cells #[.int .i64 0, .string ⟨#[]⟩, .int .i64 0, .int .i64 0, .int .i64 0, .int .i64 0, .int .i64 0, .int .i64 0] 96 (0, 0))) := by rw [← hU3]; exact (heap_setCell_other u2 _ w.heap.size _ (by show w.heap.size ≠ w.heap.size + 1; omega)).trans Q4.out
      have BW3 : Hid (Below w.heap.size w U3) := by rw [← hU3]; exact BW.out.setCell (p := ⟨w.heap.size + 1, 6, none⟩) (by show w.heap.size ≤ w.heap.size + 1; omega) _
      have hcv := own_str (own_set (j := 6) (x := .int .i64 0) ho (show w.heap.size + 1 < w.heap.size + 2 by omega))
      rw [hU3] at hcv
      obtain ⟨S, hS⟩ : ∃ S : ByteArray, S = ⟨bs.toArray⟩ := ⟨_, rfl⟩
      rw [← hS] at hcv HT
      clear hT' hl1 hS ho
      go_wp2_with (refine wpList_store_row rfl 96 _ _ rfl w.heap.size #[.int .i64 4, .string S, .int .i64 0, .int .i64 0, .int .i64 0, .int .i64 n, .int .i64 0, .int .i64 0] ?hx ?hy 96 #[.int .i64 0, .string ⟨#[]⟩, .int .i64 0, .int .i64 0, .int .i64 0, .int .i64 0, .int .i64 0, .int .i64 0] ?hg ?hi ?ho ?h1 ?_; (case hx => rfl); (case hy => rfl); (case hg => exact R4.out); (case hi => kernel_rfl); (case ho => kernel_rfl); (case h1 => kernel_rfl))
      refine bodyPost_ret (v := .agg #[.int .i64 4, .string S, .int .i64 0, .int .i64 0, .int .i64 0, .int .i64 n, .int .i64 0, .int .i64 0]) ?hr ?hdf ?hQQ
      case hr =>
        refine results_cell_row Tryz.results61 _ _ (w.heap.size) 96 #[.int .i64 4, .string S, .int .i64 0, .int .i64 0, .int .i64 0, .int .i64 n, .int .i64 0, .int .i64 0] (0, 0) _ ?hp ?hg Tryz.underlying96 ?hd ?hi
        case hp => rfl
        case hg => exact setRow_heap _ _ _ _ _ _ R4.out
        case hd => rfl
        case hi => kernel_rfl
      case hdf => rfl
      case hQQ => exact ⟨gotq_ok HT.out rfl, below_setRow BW3.out (Nat.le_refl _) _⟩
end Go.Proofs.YteadglnenaiaaaaGreatDoor.W
namespace Go.Proofs.YteadglnenaiaaaaGreatDoor.W
open Go.RowKit
theorem l5Token_is (s : ByteArray) (hs : s.size ≤ 1048576) (i : Nat) (hi : i < s.size) (w : World) : Calls Tryz.prog 61 #[.string s, .int .i64 i] w fun e w' => GotQ s i e ∧ Below w.heap.size w w' := by
  cases hw : Pl.wch (Pl.byt s i)
  · by_cases h39 : Pl.byt s i = 39
    · exact l5Token_chr s hs i hi h39 w
    · by_cases h34 : Pl.byt s i = 34
      · exact l5Token_str s hs i hi h34 w
      · exact l5Token_sign s hs i hi hw h39 h34 w
  · exact l5Token_word s hs i hi hw w
theorem infotk : (Tryz.prog.info? 56).map (fun i => (i.zero, i.size, i.bytes)) = some (some (.agg #[.int .i64 0, .string ⟨#[]⟩, .int .i64 0, .int .i64 0, .int .i64 0]), 5, 48) := by kernel_rfl
theorem tk_app (ts : List Pl.Tk) (t : Pl.Tk) : Pl.Tk.all (ts ++ [t]) = Pl.Tk.all ts ++ t.cells := by simp [Pl.Tk.all]
def LxAll (s : ByteArray) (r : List Pl.Tk × Int × Int × Int) : Prop := (20000 < s.size ∧ r = ([], 1, 1, 1)) ∨ (s.size ≤ 20000 ∧ Pl.Lx s 0 [] r)
theorem LxAll.fn {s : ByteArray} {r r' : List Pl.Tk × Int × Int × Int} (h : LxAll s r) (h' : LxAll s r') : r = r' := by
  rcases h with ⟨a, b⟩ | ⟨a, b⟩ <;> rcases h' with ⟨a', b'⟩ | ⟨a', b'⟩
  · rw [b, b']
  · omega
  · omega
  · exact b.fn b'
def LexSaid (base : Nat) (s : ByteArray) (e : Ending) (w : World) : Prop := ∃ ts c l k v, LxAll s (ts, c, l, k) ∧ e = .returned (.tuple #[v, .int .i64 c, .int .i64 l, .int .i64 k]) ∧ w.ownsRow base 56 5 v ts.length (Pl.Tk.all ts)
theorem empty_own {w : World} {B g : Nat} (hg : w.heap[g]? = some (.cells #[] 56 (0, 0))) (hb : B ≤ g) : w.ownsRow B 56 5 (.slice (some ⟨g, 0, none⟩) 0 0) 0 (Pl.Tk.all []) := ⟨rfl, .inr ⟨g, 0, #[], rfl, hb, hg, Nat.le_refl _, Nat.zero_le _, rfl, rfl⟩⟩
theorem own_mono {w : World} {B B' k n : Nat} {e : TypeId} {v : Value} {xs : List Value} (h : w.ownsRow B e k v n xs) (hb : B' ≤ B) : w.ownsRow B' e k v n xs := by
  refine ⟨h.1, ?_⟩
  rcases h.2 with ⟨a, c⟩ | ⟨g, cap, cur, h0, hlo, hg, r⟩
  · exact .inl ⟨a, c⟩
  · exact .inr ⟨g, cap, cur, h0, by omega, hg, r⟩
theorem row5 (w : World) (a b c d f : Value) : ∀ j u, [a, b, c, d, f][j]? = some u → (w.alloc (.cells #[a, b, c, d, f] 56)).cell? ((⟨w.heap.size, 0, none⟩ : Addr).add j) = some u := by
  intro j u hj
  have hj5 : j < 5 := by
    rcases Nat.lt_or_ge j 5 with q | q
    · exact q
    · rw [List.getElem?_eq_none (by simpa using q)] at hj; cases hj
  have : (⟨w.heap.size, 0, none⟩ : Addr).add j = ⟨w.heap.size, j, none⟩ := by simp [Addr.add]; omega
  rw [this, cell_of_row _ _ j _ 56 (0, 0) (heap_alloc_new w _)]
  have h5 : j = 0 ∨ j = 1 ∨ j = 2 ∨ j = 3 ∨ j = 4 := by omega
  rcases h5 with rfl | rfl | rfl | rfl | rfl <;> exact hj
theorem own_formG {w : World} {B k n : Nat} {e : TypeId} {v : Value} {xs : List Value} (h : w.ownsRow B e k v n xs) : ∃ a cap, v = .slice a n cap := by
  rcases h.2 with ⟨rfl, e⟩ | ⟨g, cap, _, rfl, _⟩
  · exact ⟨none, 0, by rw [e]⟩
  · exact ⟨_, _, rfl⟩
theorem ret_lex {base : Nat} {s : ByteArray} {w : World} {ts : List Pl.Tk} {c l k c' l' k' : Int} {v : Value} (h : LxAll s (ts, c, l, k)) (hc : c' = c) (hl : l' = l) (hk : k' = k) (ho : w.ownsRow base 56 5 v ts.length (Pl.Tk.all ts)) : LexSaid base s (.returned (.tuple #[v, .int .i64 c', .int .i64 l', .int .i64 k'])) w := ⟨ts, c, l, k, v, h, by rw [hc, hl, hk], ho⟩
theorem results_tmp4 {fn : Func} {t u v x : Tmp} (h : fn.results = #[.tmp t, .tmp u, .tmp v, .tmp x]) (tmps : Array Value) (P : Program) (w : World) :
    (results fn tmps).run P w = .ok (.tuple #[tmps.getD t undef, tmps.getD u undef, tmps.getD v undef, tmps.getD x undef]) w := by
  simp [results, h]
set_option maxHeartbeats 16000000 in
set_option maxRecDepth 100000 in
theorem specLex_is (a : Option Addr) (len cap : Nat) (s : ByteArray) (hl : s.size = len) (hmx : len ≤ 1048576) (w : World) (hcv : ∀ u : World, Below w.heap.size w u → (convert 84 9 (.slice a len cap)).run Tryz.prog u = .ok (.string s) u) :
    Calls Tryz.prog 41 #[.slice a len cap] w fun e w' => LexSaid w.heap.size s e w' ∧ Below w.heap.size w w' := by
  obtain ⟨i0, hi, hz0, hz1, hz2⟩ := info_parts infotk
  have HCV : Hid (∀ u : World, Below w.heap.size w u → (convert 84 9 (.slice a len cap)).run Tryz.prog u = .ok (.string s) u) := hcv
  have HLN : Hid (s.size = len) := hl
  clear hcv hl
  by_cases hbig : 20000 < len
  · have hbig' : (20000 : Int) < len := by omega
    have HE : Hid ((w.alloc (.cells #[] 56)).ownsRow w.heap.size 56 5 (.slice (some ⟨w.heap.size, 0, none⟩) 0 0) 0 (Pl.Tk.all [])) := empty_own (heap_alloc_new w _) (Nat.le_refl _)
    go_enter Tryz.func41, Tryz.ntmps41
    go_wp2_with fail
    refine bodyPost_ret (results_tmp4 rfl _ _ _) rfl ?_
    exact ⟨ret_lex (.inl ⟨by rw [HLN.out]; exact hbig, rfl⟩) rfl rfl rfl HE.out, below_allocL _ _⟩
  have hbig' : ¬ (20000 : Int) < len := by omega
  have hsz : s.size ≤ 20000 := by rw [HLN.out]; omega
  have hcv1 := HCV.out _ (below_allocL w (.cells #[] 56))
  have HLX : Hid (∀ r, Pl.Lx s 0 [] r → LxAll s r) := fun r h => .inr ⟨hsz, h⟩
  go_enter Tryz.func41, Tryz.ntmps41
  go_wp2_with fail
  obtain ⟨W1, hW1⟩ : ∃ W1, W1 = (w.alloc (.cells #[] 56)).alloc (.cells #[] 56) := ⟨_, rfl⟩
  rw [← hW1]
  have HO0 : Hid (W1.ownsRow (w.heap.size + 1) 56 5 (.slice (some ⟨w.heap.size + 1, 0, none⟩) 0 0) 0 (Pl.Tk.all [])) := by rw [hW1]; exact empty_own (by have := heap_alloc_new (w.alloc (.cells #[] 56)) (.cells #[] 56); simpa using this) (Nat.le_refl _)
  have HN0 : Hid (W1.heap[w.heap.size]? = some (.cells #[] 56 (0, 0))) := by rw [hW1]; exact (Below.heap_alloc _ _ _ (by simp)).trans (heap_alloc_new w _)
  have HW1 : Hid (Below w.heap.size w W1) := by rw [hW1]; exact (below_allocL _ _).trans ((below_allocL _ _).mono (by simp))
  have hW1z : W1.heap.size = w.heap.size + 2 := by rw [hW1]; simp
  have HZ1 : Hid (W1.heap.size = w.heap.size + 2) := hW1z
  clear hW1 hW1z hcv1
  go_loopw [8, 9, 10, 11] (fun v x9 x10 x11 wr => ∃ (k : Nat) (acc : List Pl.Tk), k ≤ s.size ∧ x11 = .int .i64 k ∧ x9 = .int .i64 (Pl.ln s k) ∧ x10 = .int .i64 (Pl.cn s k) ∧ acc.length ≤ 6000 ∧ wr.ownsRow (w.heap.size + 1) 56 5 v acc.length (Pl.Tk.all acc) ∧ Below (w.heap.size + 1) W1 wr ∧ ∀ r, Pl.Lx s k acc r → Pl.Lx s 0 [] r) (fun _ _ _ x _ => s.size - (intOf x).toNat)
  case atStart => exact ⟨0, [], Nat.zero_le _, rfl, rfl, rfl, by simp, HO0.out, Below.refl _ _, fun r h => h⟩
  case round =>
    obtain ⟨k, acc, hk, rfl, rfl, rfl, hacc, hown, hbel, hq⟩ := hrel
    obtain ⟨ra, rc, rfl⟩ := own_formG hown
    have HO : Hid (wr.ownsRow (w.heap.size + 1) 56 5 _ acc.length (Pl.Tk.all acc)) := hown
    have HB1 : Hid (Below (w.heap.size + 1) W1 wr) := hbel
    have HB : Hid (Below w.heap.size w wr) := HW1.out.trans (hbel.mono (by omega))
    have HQ : Hid (∀ r, Pl.Lx s k acc r → Pl.Lx s 0 [] r) := hq
    have HNN : Hid (wr.heap[w.heap.size]? = some (.cells #[] 56 (0, 0))) := (hbel.block _ (by omega)).trans HN0.out
    have HSZ : Hid (w.heap.size + 2 ≤ wr.heap.size) := by have := hbel.size; have := HZ1.out; show _ ≤ _; omega
    clear hown hbel hq HO0
    have HSK : Hid (∀ u : World, Calls Tryz.prog 59 #[.string s, .int .i64 k] u fun e w' => SkS s k e ∧ w' = u) := fun u => l5Skip_is s (by omega) k hk u
    obtain ⟨a0, a1⟩ := Pl.ln_b s k
    obtain ⟨b0, b1⟩ := Pl.cn_b s k
    go_wp2_with fail
    refine (HSK.out _).mono ?_
    rintro e u1 ⟨⟨j, b, hsk, hb⟩, hu1⟩
    rw [hu1]
    clear hu1 HSK
    obtain ⟨hkj, hjs, hop⟩ := hsk.le
    have hj : j ≤ s.size := hjs hk
    rcases hb with ⟨rfl, rfl⟩ | ⟨rfl, q, rfl⟩
    rotate_left
    · have HF : Hid (Pl.Lx s 0 [] ([], 3, Pl.ln s j, Pl.cn s j)) := HQ.out _ (.opn hsk)
      have HPL : Hid (∀ u : World, Calls Tryz.prog 60 #[.string s, .int .i64 j] u fun e w' => e = .returned (.tuple #[.int .i64 (Pl.ln s j), .int .i64 (Pl.cn s j)]) ∧ w' = u) := fun u => l5Place_is s (by omega) j hj u
      clear hsk hop hjs
      go_wp2_with (go_at_call 60; refine (HPL.out _).mono ?_; rintro e u1 ⟨rfl, hu1⟩; rw [hu1]; clear hu1)
      refine bodyPost_ret (results_tmp4 rfl _ _ _) rfl ?_
      exact ⟨ret_lex (HLX.out _ HF.out) rfl rfl rfl (empty_own HNN.out (Nat.le_refl _)), HB.out⟩
    have HS : Hid (Pl.Sk s k j true) := hsk
    clear hsk hop hjs
    go_wp2_with fail
    go_loop [9, 10, 11] (fun x9 x10 x11 => ∃ m : Nat, k ≤ m ∧ m ≤ j ∧ x11 = .int .i64 m ∧ x9 = .int .i64 (Pl.ln s m) ∧ x10 = .int .i64 (Pl.cn s m)) (fun _ _ x => j - (intOf x).toNat)
    case atStart => exact ⟨k, Nat.le_refl _, hkj, rfl, rfl, rfl⟩
    case round =>
      obtain ⟨m, hm1, hm2, rfl, rfl, rfl⟩ := hrel
      obtain ⟨l0, l1⟩ := Pl.ln_b s m
      obtain ⟨d0, d1⟩ := Pl.cn_b s m
      by_cases hlt : m < j
      · have hlt' : (m : Int) < j := by omega
        have hms : (m : Int) < s.size := by omega
        have hg := Pl.byt_get s m (by omega)
        have H1 : Hid (Pl.ln s (m + 1) = if Pl.byt s m = 10 then Pl.ln s m + 1 else Pl.ln s m) := rfl
        have H2 : Hid (Pl.cn s (m + 1) = if Pl.byt s m = 10 then 1 else Pl.cn s m + 1) := rfl
        obtain ⟨c, hc⟩ : ∃ c, c = Pl.byt s m := ⟨_, rfl⟩
        obtain ⟨A, hA⟩ : ∃ A, A = Pl.ln s m := ⟨_, rfl⟩
        obtain ⟨B, hB⟩ : ∃ B, B = Pl.cn s m := ⟨_, rfl⟩
        rw [← hc] at hg H1 H2
        rw [← hA] at H1 l0 l1 ⊢
        rw [← hB] at H2 d0 d1 ⊢
        clear hc hA hB
        by_cases h10 : c = 10
        · have e1 : (c == 10) = true := by simp [h10]
          have K1 : Hid (Pl.ln s (m + 1) = A + 1) := H1.out.trans (if_pos h10)
          have K2 : Hid (Pl.cn s (m + 1) = 1) := H2.out.trans (if_pos h10)
          clear h10 H1 H2
          go_wp2_with fail
          go_round
          case rel => exact ⟨m + 1, by omega, by omega, by go_num, by rw [K1.out], by rw [K2.out]⟩
          case measure => simp [intOf]; omega
        · have e1 : (c == 10) = false := by simp [h10]
          have K1 : Hid (Pl.ln s (m + 1) = A) := H1.out.trans (if_neg h10)
          have K2 : Hid (Pl.cn s (m + 1) = B + 1) := H2.out.trans (if_neg h10)
          clear h10 H1 H2
          go_wp2_with fail
          go_round
          case rel => exact ⟨m + 1, by omega, by omega, by go_num, by rw [K1.out], by rw [K2.out]⟩
          case measure => simp [intOf]; omega
      · have hmj : m = j := by omega
        subst hmj
        have hlt' : ¬ (m : Int) < m := by omega
        by_cases hend : m = s.size
        · have HF : Hid (Pl.Lx s 0 [] (acc ++ [Pl.tkEnd s m], 0, 0, 0)) := HQ.out _ (.fin HS.out hend)
          have eend : ((m : Int) == (s.size : Int)) = true := by simp [hend]
          have HTE : Hid ((Pl.tkEnd s m).cells = [.int .i64 0, .string ⟨#[]⟩, .int .i64 0, .int .i64 (Pl.ln s m), .int .i64 (Pl.cn s m)]) := rfl
          obtain ⟨A, hA⟩ : ∃ A, A = Pl.ln s m := ⟨_, rfl⟩
          obtain ⟨B, hB⟩ : ∃ B, B = Pl.cn s m := ⟨_, rfl⟩
          rw [← hA] at HTE l0 l1 ⊢
          rw [← hB] at HTE d0 d1 ⊢
          clear hend hA hB
          have HX : Hid ((wr.alloc (.cells #[.int .i64 0, .string ⟨#[]⟩, .int .i64 0, .int .i64 A, .int .i64 B] 56)).ownsRow (w.heap.size + 1) 56 5 _ acc.length (Pl.Tk.all acc)) := HO.out.alloc _
          have NX : Hid _ := row5 wr (.int .i64 0) (.string ⟨#[]⟩) (.int .i64 0) (.int .i64 A) (.int .i64 B)
          go_wp2_with (at_builtin; refine wpList_append_own _ rfl (.tmp 59) (.tmp 63) 81 rfl (w.heap.size + 1) 56 i0 (.agg #[.int .i64 0, .string ⟨#[]⟩, .int .i64 0, .int .i64 0, .int .i64 0]) 5 48 Tryz.underlying81 hi hz0 hz1 hz2 rfl (by decide) _ _ _ rfl HX.out ⟨wr.heap.size, 0, none⟩ 1 1 [.int .i64 0, .string ⟨#[]⟩, .int .i64 0, .int .i64 A, .int .i64 B] rfl rfl NX.out (by intro u hu; simp at hu; rcases hu with rfl | rfl | rfl | rfl | rfl <;> rfl) (by unfold maxLen; omega) (by omega) (by have := HSZ.out; simp; omega) ?_; intro v6 w6 hown6 hgrow6 _)
          refine bodyPost_ret (results_tmp4 rfl _ _ _) rfl ?_
          refine ⟨ret_lex (HLX.out _ HF.out) rfl rfl rfl ?_, ?_⟩
          · rw [tk_app, List.length_append, HTE.out]; exact own_mono hown6 (by omega)
          · exact (HB.out.alloc HB.out.size _).grown hgrow6 (Nat.le_trans HB.out.size (by simp)) (fun x hx => by have := (HX.out.lt x hx).1; omega)
        · have eend : ((m : Int) == (s.size : Int)) = false := by simp; omega
          have hms : m < s.size := by omega
          have HTK : Hid (∀ u : World, Calls Tryz.prog 61 #[.string s, .int .i64 m] u fun e w' => GotQ s m e ∧ Below u.heap.size u w') := fun u => l5Token_is s (by omega) m hms u
          obtain ⟨A, hA⟩ : ∃ A, A = Pl.ln s m := ⟨_, rfl⟩
          obtain ⟨B, hB⟩ : ∃ B, B = Pl.cn s m := ⟨_, rfl⟩
          have HAA : Hid (A = Pl.ln s m) := hA
          have HBB : Hid (B = Pl.cn s m) := hB
          rw [← hA] at l0 l1 ⊢
          rw [← hB] at d0 d1 ⊢
          clear hA hB hend
          go_wp2_with fail
          refine (HTK.out _).mono ?_
          rintro e u2 ⟨hgot, g2⟩
          have G2 : Hid (Below wr.heap.size wr u2) := g2
          have hzw : wr.heap.size ≤ u2.heap.size := g2.size
          have HN2 : Hid (∀ x, (u2.alloc x).heap[w.heap.size]? = some (.cells #[] 56 (0, 0))) := fun x => ((below_allocL u2 x).block w.heap.size (by have := HSZ.out; omega)).trans ((g2.block _ (by have := HSZ.out; omega)).trans HNN.out)
          have BB2 : Hid (∀ x, Below w.heap.size w (u2.alloc x)) := fun x => (HB.out.trans (g2.mono HB.out.size)).trans ((below_allocL u2 x).mono (Nat.le_trans HB.out.size hzw))
          have BW2 : Hid (Below (w.heap.size + 1) W1 u2) := HB1.out.trans (g2.mono (by have := HSZ.out; omega))
          clear g2 HTK
          unfold GotQ at hgot
          cases htk : Pl.tokF s m with
          | error f =>
            rw [htk] at hgot
            subst hgot
            have HF : Hid (Pl.Lx s 0 [] ([], f, Pl.ln s m, Pl.cn s m)) := HQ.out _ (.bad HS.out hms htk)
            have hf0 : f ≠ 0 := Pl.tokF_f htk
            have e1 : (f != 0) = true := by simp [hf0]
            have e2 : (f == 0) = false := by simp [hf0]
            clear hf0 htk
            go_wp2_with fail
            go_quiet (fail)
            go_wp2_with fail
            refine bodyPost_ret (results_tmp4 rfl _ _ _) rfl ?_
            refine ⟨ret_lex (HLX.out _ HF.out) rfl HAA.out HBB.out (empty_own ?_ (Nat.le_refl _)), ?_⟩
            · exact HN2.out _
            · repeat (first | exact BB2.out _ | refine below_drewQ ?_ _)
          | ok r =>
            obtain ⟨kd, S, N, n⟩ := r
            rw [htk] at hgot
            subst hgot
            obtain ⟨⟨n1, n2⟩, ⟨k1, k2⟩, n3⟩ := Pl.tokF_n hms htk
            by_cases hmany : 6000 ≤ acc.length
            · have HF : Hid (Pl.Lx s 0 [] ([], 9, Pl.ln s m, Pl.cn s m)) := HQ.out _ (.many HS.out hms htk hmany)
              have hmany' : (6000 : Int) ≤ acc.length := by omega
              clear htk n3
              go_wp2_with fail
              refine bodyPost_ret (results_tmp4 rfl _ _ _) rfl ?_
              exact ⟨ret_lex (HLX.out _ HF.out) rfl HAA.out HBB.out (empty_own (HN2.out _) (Nat.le_refl _)), BB2.out _⟩
            · have HF : Hid (∀ r, Pl.Lx s n (acc ++ [⟨kd, S, N, Pl.ln s m, Pl.cn s m⟩]) r → Pl.Lx s 0 [] r) := fun r hr => HQ.out _ (.go HS.out hms htk (by omega) hr)
              have hmany' : ¬ (6000 : Int) ≤ acc.length := by omega
              obtain ⟨q1, q2⟩ := Pl.ln_same s m (n - m) (fun x h1 h2 => n3 x h1 (by omega))
              rw [show m + (n - m) = n by omega, ← HAA.out] at q1
              rw [show m + (n - m) = n by omega, ← HBB.out] at q2
              have K1 : Hid (Pl.ln s n = A) := q1
              have K2 : Hid (Pl.cn s n = B + ((n : Int) - (m : Int))) := by show Pl.cn s n = _; rw [q2]; omega
              rw [← HAA.out, ← HBB.out] at HF
              clear htk n3 q1 q2
              have HX : Hid (((u2.alloc (.cells #[.int .i64 kd, .string S, .int .i64 N, .int .i64 A, .int .i64 B, .int .i64 n, .int .i64 0, .int .i64 0] 96)).alloc (.cells #[.int .i64 kd, .string S, .int .i64 N, .int .i64 A, .int .i64 B] 56)).ownsRow (w.heap.size + 1) 56 5 _ acc.length (Pl.Tk.all acc)) := ((ow_keep HO.out G2.out).alloc _).alloc _
              have NX : Hid (∀ j u, [Value.int .i64 kd, .string S, .int .i64 N, .int .i64 A, .int .i64 B][j]? = some u → ((u2.alloc (.cells #[.int .i64 kd, .string S, .int .i64 N, .int .i64 A, .int .i64 B, .int .i64 n, .int .i64 0, .int .i64 0] 96)).alloc (.cells #[.int .i64 kd, .string S, .int .i64 N, .int .i64 A, .int .i64 B] 56)).cell? ((⟨u2.heap.size + 1, 0, none⟩ : Addr).add j) = some u) := by
                have := row5 (u2.alloc (.cells #[.int .i64 kd, .string S, .int .i64 N, .int .i64 A, .int .i64 B, .int .i64 n, .int .i64 0, .int .i64 0] 96)) (.int .i64 kd) (.string S) (.int .i64 N) (.int .i64 A) (.int .i64 B)
                rw [World.size_alloc] at this
                exact this
              have hnm : (n : Int) ≤ s.size := by omega
              have CE : Hid (∀ w6 : World, ((u2.alloc (.cells #[.int .i64 kd, .string S, .int .i64 N, .int .i64 A, .int .i64 B, .int .i64 n, .int .i64 0, .int .i64 0] 96)).alloc (.cells #[.int .i64 kd, .string S, .int .i64 N, .int .i64 A, .int .i64 B] 56)).grownBy w6 (Value.slice ra acc.length rc).ownBlock → w6.cell? ⟨u2.heap.size, 5, none⟩ = some (.int .i64 n)) := fun w6 hg => by
                have hb := hg.block u2.heap.size (by simp; omega) (fun e => by have := (HO.out.lt _ e.symm).2; omega)
                exact cell_of_row w6 u2.heap.size 5 _ 96 (0, 0) (hb.trans ((Below.heap_alloc _ _ _ (by simp)).trans (heap_alloc_new u2 _)))
              go_wp2_with (at_builtin; refine wpList_append_own _ rfl (.tmp 88) (.tmp 91) 81 rfl (w.heap.size + 1) 56 i0 (.agg #[.int .i64 0, .string ⟨#[]⟩, .int .i64 0, .int .i64 0, .int .i64 0]) 5 48 Tryz.underlying81 hi hz0 hz1 hz2 rfl (by decide) _ _ _ rfl HX.out ⟨u2.heap.size + 1, 0, none⟩ 1 1 [.int .i64 kd, .string S, .int .i64 N, .int .i64 A, .int .i64 B] rfl rfl NX.out (by intro u hu; simp at hu; rcases hu with rfl | rfl | rfl | rfl | rfl <;> rfl) (by unfold maxLen; omega) (by omega) (by have := HSZ.out; simp; omega) ?_; intro v6 w6 hown6 hgrow6 _; have hc5 := CE.out w6 hgrow6)
              go_roundw
              case rel =>
                refine ⟨n, acc ++ [⟨kd, S, N, A, B⟩], n2, rfl, by rw [K1.out], by rw [K2.out], by rw [List.length_append]; simp; omega, ?_, ?_, HF.out⟩
                · rw [tk_app, List.length_append]; exact hown6
                · exact ((BW2.out.alloc (by have := HSZ.out; omega) _).alloc (by have := HSZ.out; simp; omega) _).grown hgrow6 (by have := HSZ.out; simp; omega) (fun x hx => (HX.out.lt x hx).1)
              case measure => simp [intOf]; omega
end Go.Proofs.YteadglnenaiaaaaGreatDoor.W
namespace Go.Proofs.YteadglnenaiaaaaGreatDoor.W
open Go.RowKit
theorem one_cell_m (m : Nat) (hm : m < 256) (w : World) (j : Nat) (u : Value) (hj : (Pl.cl [UInt8.ofNat m])[j]? = some u) : (w.alloc (.cells #[.int .u8 (m : Int)] 5)).cell? ((⟨w.heap.size, 0, none⟩ : Addr).add j) = some u := by
  rcases j with _ | j
  · have e : ((UInt8.ofNat m).toNat : Int) = (m : Int) := by simp; omega
    simp only [Pl.cl, List.map_cons, List.map_nil, List.getElem?_cons_zero, Option.some.injEq, e] at hj
    subst hj
    exact cell_of_row _ w.heap.size 0 _ 5 (0, 0) (heap_alloc_new w _)
  · simp [Pl.cl] at hj
set_option maxHeartbeats 2000000 in
theorem quote_any (s : ByteArray) (hs : s.size ≤ 1048576) (m : Nat) (hm : m = 34 ∨ m = 39) (b cap : Nat) (w : World) (hd : DbLies w) (hb : b < w.heap.size) (hcs : ∀ j (h : j < s.size), w.cell? ⟨b, j, none⟩ = some (.int .u8 ((s[j]'h).toNat : Int))) :
    Calls Tryz.prog 92 #[.slice (some ⟨b, 0, none⟩) s.size cap, .int .u8 m] w fun e w' => e = .returned (.string (Pl.qt s m)) ∧ Below w.heap.size w w' := by
  obtain ⟨i0, hi, hz0, hz1, hz2⟩ := info_parts qinfou8
  have hm' : m < 256 := by omega
  have em : ((UInt8.ofNat m).toNat : Int) = (m : Int) := by simp; omega
  have H0 : Hid ((w.alloc (.cells #[.int .u8 (m : Int)] 5)).ownsRow w.heap.size 5 1 (.slice (some ⟨w.heap.size, 0, none⟩) 1 1) 1 (Pl.cl (Pl.qc s m 0))) := by
    show (w.alloc _).ownsRow _ _ _ _ _ _
    rw [Pl.qc_zero]
    have := World.ownsRow_lit w #[.int .u8 (m : Int)] 1 (base := w.heap.size) (e := 5) (size := 1) (Nat.le_refl _) (by decide) rfl
    rw [show Pl.cl [UInt8.ofNat m] = [.int .u8 (m : Int)] by rw [← em]; rfl]
    exact this
  have HC : Hid (∀ j (h : j < s.size), w.cell? ⟨b, j, none⟩ = some (.int .u8 ((s[j]'h).toNat : Int))) := hcs
  have HD : Hid (DbLies w) := hd
  clear hcs hd em
  go_enter Tryz.func92, Tryz.ntmps92
  go_wp2_with fail
  go_loopw [5, 12] (fun v i wr => ∃ k : Nat, k ≤ s.size ∧ i = .int .i64 k ∧ wr.ownsRow w.heap.size 5 1 v (Pl.qc s m k).length (Pl.cl (Pl.qc s m k)) ∧ Below w.heap.size w wr) (fun _ i _ => s.size - (intOf i).toNat)
  case atStart => exact ⟨0, Nat.zero_le _, rfl, by rw [show (Pl.qc s m 0).length = 1 from rfl]; exact H0.out, (Below.refl _ _).alloc (Nat.le_refl _) _⟩
  case round =>
    obtain ⟨k, hk, rfl, hown, hbel⟩ := hrel
    have HO : Hid (wr.ownsRow w.heap.size 5 1 _ (Pl.qc s m k).length (Pl.cl (Pl.qc s m k))) := hown
    have HB : Hid (Below w.heap.size w wr) := hbel
    clear hown hbel H0
    by_cases hlt : k < s.size
    · have hi' : (k : Int) < (s.size : Int) := by omega
      have hc256 : (s[k]'hlt).toNat < 256 := (s[k]'hlt).toNat_lt
      have hcell : wr.cell? ⟨b, k, none⟩ = some (.int .u8 ((s[k]'hlt).toNat : Int)) := (HB.out.cell (p := ⟨b, k, none⟩) hb).trans (HC.out k hlt)
      have HDr : Hid (DbLies wr) := HD.out.below HB.out
      go_wp2_with (first | (go_at_call 105; refine (byteText_any (s[k]'hlt).toNat m hc256 hm _ HDr.out).mono ?_; rintro e u1 ⟨rfl, hb1⟩) | (at_builtin; refine Lib.wpList_append_own_string _ rfl (.tmp 16) (.tmp 19) 84 9 rfl w.heap.size 5 i0 Tryz.underlying84 Tryz.underlying9 hi hz0 hz1 hz2 _ _ _ rfl (ow_keep HO.out hb1) _ rfl (by have := Pl.qc_len s m k hk; have := Pl.shown_len (s[k]'hlt).toNat m; show _ + (Pl.shown (s[k]'hlt).toNat m).length ≤ _; unfold maxLen; omega) (by have := Pl.qc_len s m k hk; have := Pl.shown_len (s[k]'hlt).toNat m; show _ + (Pl.shown (s[k]'hlt).toNat m).length ≤ _; omega) (Nat.le_trans HB.out.size hb1.size) ?_; intro v' u2 hown' hgr _; rw [Pl.cl_str, ← Pl.cl_app] at hown'))
      refine ⟨⟨k + 1, by omega, by go_num, ?_, ?_⟩, by simp [intOf]; omega⟩
      · rw [Pl.qc_succ s m k hlt, List.length_append]; exact hown'
      · exact (HB.out.trans (hb1.mono HB.out.size)).grown hgr (Nat.le_trans HB.out.size hb1.size) (fun j hj => (HO.out.lt j hj).1)
    · have hi' : ¬ (k : Int) < (s.size : Int) := by omega
      obtain rfl : s.size = k := by omega
      have HE : Hid ((wr.alloc (.cells #[.int .u8 (m : Int)] 5)).ownsRow w.heap.size 5 1 _ (Pl.qc s m s.size).length (Pl.cl (Pl.qc s m s.size))) := HO.out.alloc _
      go_wp2_with (first | (at_builtin; refine wpList_append_own _ rfl (.tmp 22) (.tmp 24) 84 rfl w.heap.size 5 i0 (.int .u8 0) 1 1 Tryz.underlying84 hi hz0 hz1 hz2 rfl (by decide) _ _ _ rfl HE.out ⟨wr.heap.size, 0, none⟩ 1 _ (Pl.cl [UInt8.ofNat m]) rfl rfl (one_cell_m m hm' wr) (by intro u hu; obtain ⟨n, _, rfl⟩ := List.mem_map.1 hu; rfl) (by have := Pl.qc_len s m s.size (Nat.le_refl _); unfold maxLen; omega) (by have := Pl.qc_len s m s.size (Nat.le_refl _); omega) (Nat.le_trans HB.out.size (by simp)) ?_; intro v' u2 hown' hgr _; rw [← Pl.cl_app] at hown'; have hst := own_string hown' (Nat.succ_pos _)))
      go_ret
      refine ⟨rfl, ?_⟩
      exact (HB.out.trans (((Below.refl _ _).alloc (Nat.le_refl _) _).mono HB.out.size)).grown hgr (Nat.le_trans HB.out.size (by simp)) (fun j hj => (HO.out.lt j hj).1)
theorem quote_34 (s : ByteArray) (hs : s.size ≤ 1048576) (b cap : Nat) (w : World) (hd : DbLies w) (hb : b < w.heap.size) (hcs : ∀ j (h : j < s.size), w.cell? ⟨b, j, none⟩ = some (.int .u8 ((s[j]'h).toNat : Int))) :
    Calls Tryz.prog 92 #[.slice (some ⟨b, 0, none⟩) s.size cap, .int .u8 34] w fun e w' => e = .returned (.string (Pl.qt s 34)) ∧ Below w.heap.size w w' := quote_any s hs 34 (.inl rfl) b cap w hd hb hcs
theorem bw_byte (w : World) (s : ByteArray) (j : Nat) (h : j < s.size) : (Lib.bytesWorld w 5 s).cell? ⟨w.heap.size, j, none⟩ = some (.int .u8 ((s[j]'h).toNat : Int)) := by
  rw [Lib.bytesWorld_cell w 5 s j h]
  obtain ⟨⟨l⟩⟩ := s
  have hl : j < l.length := h
  simp [List.getD, List.getElem?_eq_getElem hl]
  rfl
theorem implQuote_any (s : ByteArray) (hs : s.size ≤ 1048576) (w : World) (hd : DbLies w) : Calls Tryz.prog 78 #[.string s] w fun e w' => e = .returned (.string (Pl.qt s 34)) ∧ Below w.heap.size w w' := by
  have hcv : ∀ (u : World) (t : ByteArray), (convert 9 84 (.string t)).run Tryz.prog u = .ok (.slice (some ⟨u.heap.size, 0, none⟩) t.size (grownCap u t.size 0 5)) (Lib.bytesWorld u 5 t) := fun u t => Lib.run_convert_string_bytes u 9 84 5 t Tryz.underlying9 Tryz.underlying84 Tryz.underlying5
  have HD : Hid (DbLies w) := hd
  clear hd
  have HW : Hid (Below w.heap.size w (Lib.bytesWorld w 5 s)) := Joins.below_bytesWorld _ _ 5 _ (Nat.le_refl _)
  go_enter Tryz.func78, Tryz.ntmps78
  go_wp2_with (go_at_call 92; refine (quote_34 s hs w.heap.size _ _ (HD.out.below HW.out) (by rw [Lib.bytesWorld_size]; omega) (bw_byte w s)).mono ?_; rintro e u1 ⟨rfl, hb1⟩)
  go_ret
  exact ⟨rfl, HW.out.trans (hb1.mono HW.out.size)⟩
end Go.Proofs.YteadglnenaiaaaaGreatDoor.W
namespace Go.Proofs.YteadglnenaiaaaaGreatDoor.Pl
def num (n : Int) : ByteArray := ⟨(Lib.itoa n).toArray⟩
theorem dig_small {u : Nat} (h : u < 10) : Lib.decDigits u = [UInt8.ofNat (48 + u)] := by rw [Lib.decDigits, dif_pos h]
theorem dig_big {u : Nat} (h : ¬ u < 10) : Lib.decDigits u = Lib.decDigits (u / 10) ++ [UInt8.ofNat (48 + u % 10)] := by rw [Lib.decDigits, dif_neg h]
theorem num_nat {n : Int} (h : 0 ≤ n) : num n = ⟨(Lib.decDigits n.toNat).toArray⟩ := by
  unfold num Lib.itoa
  rw [if_neg (by omega)]
theorem num_neg {n : Int} (h : n < 0) : num n = ⟨(45 :: Lib.decDigits n.natAbs).toArray⟩ := by
  unfold num Lib.itoa
  rw [if_pos h]
theorem dig_head : ∀ (d u : Nat), u ≤ d → ∃ c r, Lib.decDigits u = c :: r ∧ 48 ≤ c.toNat ∧ c.toNat ≤ 57 := by
  intro d
  induction d with
  | zero =>
    intro u hu
    obtain rfl : u = 0 := by omega
    exact ⟨_, [], dig_small (by omega), by decide, by decide⟩
  | succ d ih =>
    intro u hu
    by_cases h : u < 10
    · refine ⟨_, [], dig_small h, ?_, ?_⟩ <;> simp <;> omega
    · obtain ⟨c, r, h1, h2⟩ := ih (u / 10) (by omega)
      exact ⟨c, r ++ [UInt8.ofNat (48 + u % 10)], by rw [dig_big h, h1]; rfl, h2⟩
theorem wrdR_S {s : ByteArray} {k N : Int} {S : ByteArray} (h : wrdR s = .ok (k, S, N)) : (k = 3 ∧ (S = ⟨#[117]⟩ ∨ S = ⟨#[]⟩)) ∨ ((k = 1 ∨ k = 2) ∧ S = s) := by
  unfold wrdR at h
  split at h
  · split at h
    · cases h
    · rename_i S' N' hi
      cases h
      refine .inl ⟨rfl, ?_⟩
      unfold intR at hi
      split at hi
      · cases hi
      · split at hi
        · cases hi
        · have hi2 := (Except.ok.inj hi)
          have e1 := congrArg Prod.fst hi2
          simp only at e1
          rw [← e1]
          split
          · exact .inl rfl
          · exact .inr rfl
  · split at h
    · cases h
    · split at h
      · cases h; exact .inr ⟨.inr rfl, rfl⟩
      · cases h; exact .inr ⟨.inl rfl, rfl⟩
theorem tokF_S {s : ByteArray} {i : Nat} (hi : i < s.size) {k N : Int} {S : ByteArray} {n : Nat} (h : tokF s i = .ok (k, S, N, n)) : (k = 3 ∧ (S = ⟨#[117]⟩ ∨ S = ⟨#[]⟩)) ∨ (k = 3 ∧ S = ⟨#[99]⟩ ∧ 0 ≤ N) ∨ (k = 4 ∧ S.size ≤ 200) ∨ ((k = 1 ∨ k = 2 ∨ k = 5) ∧ S.size + i ≤ s.size) := by
  have hsz := ext_sz s i
  have hn := (tokF_n hi h).1
  unfold tokF at h
  split at h
  · have hr := run_run wch (s.extract i s.size)
    split at h
    · cases h
    · rename_i k' S' N' hk
      cases h
      rcases wrdR_S hk with ⟨a, b⟩ | ⟨a, b⟩
      · exact .inl ⟨a, b⟩
      · refine .inr (.inr (.inr ⟨by omega, ?_⟩))
        rw [b, ext_size]
        omega
  · split at h
    · split at h
      · cases h
      · split at h
        · cases h
          refine .inr (.inl ⟨rfl, rfl, ?_⟩)
          show 0 ≤ wd _
          unfold wd
          omega
        · cases h
    · split at h
      · split at h
        · cases h
        · split at h
          · cases h
          · rename_i hb
            cases h
            refine .inr (.inr (.inl ⟨rfl, ?_⟩))
            simp [ByteArray.size]
            omega
      · split at h
        · cases h
        · cases h
          refine .inr (.inr (.inr ⟨by omega, ?_⟩))
          rw [ext_size]
          omega
theorem Sk.at0 {s : ByteArray} {j : Nat} {b : Bool} (h : Sk s 0 j b) (h1 : blk (byt s 0) = false) (h2 : byt s 0 ≠ 47) : j = 0 := by
  cases h with
  | stop _ => rfl
  | opn h _ => exact absurd h.2.1 h2
  | blank _ h _ => rw [h1] at h; cases h
  | line h _ _ => exact absurd h.2.1 h2
  | blok h _ _ => exact absurd h.2.1 h2
theorem Lx.pre {s : ByteArray} {i : Nat} {acc : List Tk} {r : List Tk × Int × Int × Int} (h : Lx s i acc r) : r.1 = [] ∨ (r.2.1 = 0 ∧ ∃ l, r.1 = acc ++ l ∧ l ≠ []) := by
  induction h with
  | opn _ => exact .inl rfl
  | fin _ _ => exact .inr ⟨rfl, _, rfl, by simp⟩
  | bad _ _ _ => exact .inl rfl
  | many _ _ _ _ => exact .inl rfl
  | go _ _ _ _ _ ih =>
    rcases ih with q | ⟨q, l, e, _⟩
    · exact .inl q
    · exact .inr ⟨q, _, by rw [e, List.append_assoc], by simp⟩
theorem lx_two {s : ByteArray} {t0 t1 : Tk} {c l k : Int} (h : W.LxAll s ([t0, t1], c, l, k)) : c = 0 ∧ ∃ j n, j < s.size ∧ Sk s 0 j true ∧ tokF s j = .ok (t0.k, t0.S, t0.N, n) ∧ t0.l = ln s j ∧ t0.c = cn s j := by
  rcases h with ⟨_, h⟩ | ⟨_, h⟩
  · cases h
  cases h with
  | go hsk hj htf hl hr =>
    rcases hr.pre with q | ⟨q, l', e, _⟩
    · cases q
    · have e' := congrArg (fun x => x.head?) e
      simp at e'
      subst e'
      exact ⟨q, _, _, hj, hsk, htf, rfl, rfl⟩
end Go.Proofs.YteadglnenaiaaaaGreatDoor.Pl
namespace Go.Proofs.YteadglnenaiaaaaGreatDoor.Pl
def Two (x : ByteArray) (P : Tk → Prop) : Prop := ∃ t0 t1 c l k, W.LxAll x ([t0, t1], c, l, k) ∧ P t0
open Classical in
noncomputable def ttx (x : ByteArray) (P : Tk → Prop) : ByteArray := if Two x P then x else ⟨#[]⟩
theorem ttx_yes {x : ByteArray} {P : Tk → Prop} (h : Two x P) : ttx x P = x := if_pos h
theorem ttx_no {x : ByteArray} {P : Tk → Prop} (h : ¬ Two x P) : ttx x P = ⟨#[]⟩ := if_neg h
theorem ttx_same {x : ByteArray} {P Q : Tk → Prop} (h : Two x P ↔ Two x Q) : ttx x P = ttx x Q := by
  by_cases q : Two x P
  · rw [ttx_yes q, ttx_yes (h.1 q)]
  · rw [ttx_no q, ttx_no fun r => q (h.2 r)]
def Ps (t t0 : Tk) : Prop := t0.k = t.k ∧ t0.S = t.S ∧ t0.N = t.N
def Pi (t t0 : Tk) : Prop := t0 = ⟨t.k, t.S, t.N, 1, 1⟩
def chr (b : Nat) : ByteArray := ⟨((UInt8.ofNat 39 :: shown b 39) ++ [UInt8.ofNat 39]).toArray⟩
open Classical in
noncomputable def ttS (t : Tk) : ByteArray :=
  if t.k = 3 then (if t.N < 0 ∨ (t.S ≠ ⟨#[]⟩ ∧ t.S ≠ ⟨#[117]⟩ ∧ t.S ≠ ⟨#[99]⟩) then ⟨#[]⟩ else ttx (if t.S = ⟨#[99]⟩ then chr (t.N % 256).toNat else num t.N ++ t.S) (Ps t))
  else if t.k = 4 then (if 200 < t.S.size then ⟨#[]⟩ else ttx (qt t.S 34) (Ps t)) else ttx t.S (Ps t)
open Classical in
noncomputable def txtI (t : Tk) : ByteArray :=
  if t.k = 1 ∨ t.k = 2 ∨ t.k = 5 then t.S else if t.k = 3 then (if t.S = ⟨#[99]⟩ then chr (t.N % 256).toNat else if t.S = ⟨#[117]⟩ then num t.N ++ ⟨#[117]⟩ else num t.N) else if t.k = 4 then qt t.S 34 else ⟨#[]⟩
noncomputable def ttI (t : Tk) : ByteArray := ttx (txtI t) (Pi t)
theorem two_i {x : ByteArray} {t : Tk} (h : Two x (Pi t)) : Two x (Ps t) := by
  obtain ⟨t0, t1, c, l, k, h1, h2⟩ := h
  unfold Pi at h2
  subst h2
  exact ⟨_, t1, c, l, k, h1, rfl, rfl, rfl⟩
theorem two_s {x : ByteArray} {t : Tk} (hj : ∀ j n, Sk x 0 j true → tokF x j = .ok (t.k, t.S, t.N, n) → j < x.size → j = 0) (h : Two x (Ps t)) : Two x (Pi t) := by
  obtain ⟨t0, t1, c, l, k, h1, h2, h3, h4⟩ := h
  obtain ⟨_, j, n, hj1, hsk, htf, hl, hc⟩ := lx_two h1
  rw [h2, h3, h4] at htf
  have e := hj j n hsk htf hj1
  subst e
  refine ⟨t0, t1, c, l, k, h1, ?_⟩
  obtain ⟨a0, a1, a2, a3, a4⟩ := t0
  simp only at h2 h3 h4 hl hc
  subst h2 h3 h4 hl hc
  rfl
theorem two_first {x : ByteArray} {t : Tk} (h1 : blk (byt x 0) = false) (h2 : byt x 0 ≠ 47) : Two x (Ps t) ↔ Two x (Pi t) := ⟨two_s fun j n h _ _ => h.at0 h1 h2, two_i⟩
theorem two_tok {x : ByteArray} {t : Tk} (h : Two x (Ps t)) : ∃ j n, j < x.size ∧ Sk x 0 j true ∧ tokF x j = .ok (t.k, t.S, t.N, n) := by
  obtain ⟨t0, t1, c, l, k, h1, h2, h3, h4⟩ := h
  obtain ⟨_, j, n, hj1, hsk, htf, hl, hc⟩ := lx_two h1
  rw [h2, h3, h4] at htf
  exact ⟨j, n, hj1, hsk, htf⟩
theorem byt_mk (l : List UInt8) (b : UInt8) : byt ⟨(b :: l).toArray⟩ 0 = (b.toNat : Int) := by simp [byt, ByteArray.size]
theorem app_list (a b : List UInt8) : (⟨a.toArray⟩ : ByteArray) ++ ⟨b.toArray⟩ = ⟨(a ++ b).toArray⟩ := by
  apply ByteArray.ext
  simp [ByteArray.data_append]
theorem app_nil' (a : ByteArray) : a ++ (⟨#[]⟩ : ByteArray) = a := by
  apply ByteArray.ext
  simp [ByteArray.data_append]
theorem tok45 {x : ByteArray} {k N : Int} {S : ByteArray} {n : Nat} (h : byt x 0 = 45) (htf : tokF x 0 = .ok (k, S, N, n)) : k = 5 := by
  have e : tokF x 0 = if sgn (x.extract 0 x.size) = 0 then .error 2 else .ok (5, x.extract 0 (0 + sgn (x.extract 0 x.size)), 0, 0 + sgn (x.extract 0 x.size)) := by
    unfold tokF
    rw [h, if_neg (show ¬ wch 45 = true by decide), if_neg (show ¬ (45 : Int) = 39 by decide), if_neg (show ¬ (45 : Int) = 34 by decide)]
  rw [e] at htf
  by_cases q : sgn (x.extract 0 x.size) = 0
  · rw [if_pos q] at htf
    cases htf
  · rw [if_neg q] at htf
    have := congrArg Prod.fst (Except.ok.inj htf)
    exact this.symm
theorem tt_int {t : Tk} (hk : t.k = 3) : ttS t = ttI t := by
  unfold ttS ttI txtI
  rw [if_pos hk, if_neg (show ¬ (t.k = 1 ∨ t.k = 2 ∨ t.k = 5) by omega), if_pos hk]
  by_cases hbad : t.N < 0 ∨ (t.S ≠ ⟨#[]⟩ ∧ t.S ≠ ⟨#[117]⟩ ∧ t.S ≠ ⟨#[99]⟩)
  · rw [if_pos hbad, ttx_no]
    intro h
    obtain ⟨j, n, hj, hsk, htf⟩ := two_tok (two_i h)
    rcases tokF_S hj htf with ⟨_, q⟩ | ⟨_, q, q'⟩ | ⟨q, _⟩ | ⟨q, _⟩
    · rcases hbad with hN | ⟨b1, b2, b3⟩
      · have key : ∀ x : ByteArray, byt x 0 = 45 → ∀ j, j < x.size → Sk x 0 j true → tokF x j = .ok (t.k, t.S, t.N, n) → False := by
          intro x hx j hj hsk htf
          have e := hsk.at0 (by rw [hx]; decide) (by rw [hx]; decide)
          subst e
          have := tok45 hx htf
          omega
        have hne : t.S ≠ ⟨#[99]⟩ := by
          rcases q with q | q <;> rw [q] <;> decide
        rw [if_neg hne] at hj hsk htf
        by_cases hu : t.S = ⟨#[117]⟩
        · rw [if_pos hu] at hj hsk htf
          refine key _ ?_ j hj hsk htf
          rw [num_neg hN]
          show byt ((⟨(45 :: Lib.decDigits t.N.natAbs).toArray⟩ : ByteArray) ++ ⟨[117].toArray⟩) 0 = 45
          rw [app_list]
          exact byt_mk _ _
        · rw [if_neg hu] at hj hsk htf
          refine key _ ?_ j hj hsk htf
          rw [num_neg hN]
          exact byt_mk _ _
      · rcases q with q | q
        · exact b2 q
        · exact b1 q
    · rcases hbad with hN | ⟨b1, b2, b3⟩
      · omega
      · exact b3 q
    · omega
    · omega
  · rw [if_neg hbad]
    have hN : 0 ≤ t.N := by
      rcases Int.lt_or_le t.N 0 with q | q
      · exact absurd (.inl q) hbad
      · exact q
    obtain ⟨c, r, hd, h1, h2⟩ := dig_head _ t.N.toNat (Nat.le_refl _)
    have hdb : ∀ b : Int, 48 ≤ b → b ≤ 57 → blk b = false ∧ b ≠ 47 := by
      intro b q1 q2
      refine ⟨?_, by omega⟩
      unfold blk
      simp
      omega
    have dgt : ∀ x : ByteArray, 48 ≤ byt x 0 → byt x 0 ≤ 57 → ttx x (Ps t) = ttx x (Pi t) := fun x q1 q2 => ttx_same (two_first (hdb _ q1 q2).1 (hdb _ q1 q2).2)
    by_cases hc : t.S = ⟨#[99]⟩
    · rw [if_pos hc, if_pos hc]
      refine ttx_same (two_first ?_ ?_)
      · unfold chr; rw [List.cons_append, byt_mk]; decide
      · unfold chr; rw [List.cons_append, byt_mk]; decide
    · rw [if_neg hc, if_neg hc]
      by_cases hu : t.S = ⟨#[117]⟩
      · rw [if_pos hu, hu]
        have e : byt (num t.N ++ (⟨#[117]⟩ : ByteArray)) 0 = (c.toNat : Int) := by
          rw [num_nat hN, hd]
          show byt ((⟨(c :: r).toArray⟩ : ByteArray) ++ ⟨[117].toArray⟩) 0 = _
          rw [app_list]
          exact byt_mk _ _
        exact dgt _ (by rw [e]; omega) (by rw [e]; omega)
      · rw [if_neg hu]
        have he : t.S = ⟨#[]⟩ := Classical.byContradiction fun q => hbad (.inr ⟨q, hu, hc⟩)
        have e : byt (num t.N) 0 = (c.toNat : Int) := by
          rw [num_nat hN, hd]
          exact byt_mk _ _
        rw [he, app_nil']
        exact dgt _ (by rw [e]; omega) (by rw [e]; omega)
theorem tt_str {t : Tk} (hk : t.k = 4) : ttS t = ttI t := by
  unfold ttS ttI txtI
  rw [if_neg (show ¬ t.k = 3 by omega), if_pos hk, if_neg (show ¬ (t.k = 1 ∨ t.k = 2 ∨ t.k = 5) by omega), if_neg (show ¬ t.k = 3 by omega), if_pos hk]
  by_cases hb : 200 < t.S.size
  · rw [if_pos hb, ttx_no]
    intro h
    obtain ⟨j, n, hj, hsk, htf⟩ := two_tok (two_i h)
    rcases tokF_S hj htf with ⟨q, _⟩ | ⟨q, _⟩ | ⟨_, q⟩ | ⟨q, _⟩ <;> omega
  · rw [if_neg hb]
    have e : byt (qt t.S 34) 0 = 34 := by
      unfold qt qc
      rw [List.cons_append, byt_mk]
      rfl
    exact ttx_same (two_first (by rw [e]; decide) (by rw [e]; decide))
theorem tt_all (t : Tk) : ttS t = ttI t := by
  by_cases h3 : t.k = 3
  · exact tt_int h3
  by_cases h4 : t.k = 4
  · exact tt_str h4
  unfold ttS ttI txtI
  rw [if_neg h3, if_neg h4, if_neg h3, if_neg h4]
  by_cases h : t.k = 1 ∨ t.k = 2 ∨ t.k = 5
  · rw [if_pos h]
    refine ttx_same ⟨two_s fun j n hsk htf hj => ?_, two_i⟩
    rcases tokF_S hj htf with ⟨q, _⟩ | ⟨q, _⟩ | ⟨q, _⟩ | ⟨_, q⟩ <;> omega
  · rw [if_neg h, ttx_no, ttx_no]
    · intro q
      obtain ⟨j, n, hj, _⟩ := two_tok (two_i q)
      exact absurd hj (Nat.not_lt_zero _)
    · intro q
      obtain ⟨j, n, hj, hsk, htf⟩ := two_tok q
      have := (tokF_n hj htf).2.1
      rcases tokF_S hj htf with ⟨q, _⟩ | ⟨q, _⟩ | ⟨q, _⟩ | ⟨q, _⟩ <;> omega
end Go.Proofs.YteadglnenaiaaaaGreatDoor.Pl
