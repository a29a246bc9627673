import Derived.Test.YtgopdicmmglakaaDecP
import Derived.Test.YtgopdicmmglakaaDecO
set_option linter.unusedVariables false
namespace Go.Proofs.Ytgopdicmmglakaa.W
open Go.RowKit
theorem rowOf_b (k : Nat) (h1 : 1 ≤ k) (h2 : k ≤ 47) (w : World) : Calls Try.prog 41 #[.int .i64 k] w fun e w' => e = .returned (.tuple #[.agg #[.string (Pl.nm k), .int .i64 (Pl.fm k), .int .u8 (Pl.cc k 0), .int .u8 (Pl.cc k 1), .int .u8 (Pl.cc k 2), .int .u8 (Pl.cc k 3)], .bool true]) ∧ Below w.heap.size w w' := by
  refine (rowOf_at k h1 h2 w).mono ?_
  rintro e w' ⟨rfl, rfl⟩
  exact ⟨rfl, ((Below.refl _ _).alloc (Nat.le_refl _) _).alloc (by simp) _⟩
theorem ruleOf_b (n : Int) (f : Nat) (hn : n = f) (h1 : 1 ≤ f) (h2 : f ≤ 8) (w : World) : Calls Try.prog 43 #[.int .i64 n] w fun e w' => e = .returned (.agg (Pl.ruleV f)) ∧ Below w.heap.size w w' := by
  refine (ruleOf_any n f hn h1 h2 w).mono ?_
  rintro e w' ⟨rfl, rfl⟩
  exact ⟨rfl, below_alloc _ _⟩
theorem ret_dec {n : Int} {cs : Array Value} {b : Bool} (h : Pl.decV n = cs) (hb : (Pl.dec n != 0) = b) : Ending.returned (.tuple #[.agg cs, .bool b]) = Ending.returned (.tuple #[.agg (Pl.decV n), .bool (Pl.dec n != 0)]) := by rw [h, hb]
set_option maxHeartbeats 4000000 in
theorem implDec_any (n : Int) (w : World) :
    Calls Try.prog 18 #[.int .i64 n] w fun e w' => e = .returned (.tuple #[.agg (Pl.decV n), .bool (Pl.dec n != 0)]) ∧ Below w.heap.size w w' := by
  go_enter Try.func18, Try.ntmps18
  go_wp2_with fail
  refine calls_at5 fun u0 hu0 => ?_
  have X0 : Hid (u0.heap[w.heap.size]? = some (.cells #[.int .i64 0, .int .i64 0, .int .i64 0, .int .i64 0, .int .i64 0] 41)) := by show u0.heap[w.heap.size]? = _; rw [hu0]; exact heap_alloc_new w _
  have B0 : Hid (Below w.heap.size w u0) := by show Below w.heap.size w u0; rw [hu0]; exact below_alloc w _
  have Z0 : Hid (w.heap.size < u0.heap.size) := by show w.heap.size < u0.heap.size; rw [hu0]; simp
  clear hu0
  refine (opOfWord_any n u0).mono ?_
  rintro e u1 ⟨⟨k, hk, rfl, hz, hf⟩, d1⟩
  have X1 : Hid (u1.heap[w.heap.size]? = some (.cells #[.int .i64 0, .int .i64 0, .int .i64 0, .int .i64 0, .int .i64 0] 41)) := (d1.block _ Z0.out).trans X0.out
  have B1 : Hid (Below w.heap.size w u1) := B0.out.trans (d1.mono (Nat.le_of_lt Z0.out))
  have Z1 : Hid (w.heap.size < u1.heap.size) := Nat.lt_of_lt_of_le Z0.out d1.size
  clear d1 X0 B0 Z0
  by_cases hk0 : k = 0
  · have HD : Hid (Pl.dec n = 0) := Pl.dec_none (fun j h1 h2 => by
      cases hh : Pl.hit j n
      · rfl
      · have := (Pl.hit_fits h1 h2 hh).1
        rw [hz hk0 j h1 h2] at this
        cases this)
    subst hk0
    clear hz hf
    go_wp2_with (refine wpList_store_row rfl 41 _ _ rfl (w.heap.size) #[.int .i64 0, .int .i64 0, .int .i64 0, .int .i64 0, .int .i64 0] ?hx ?hy 41 #[.int .i64 0, .int .i64 0, .int .i64 0, .int .i64 0, .int .i64 0] ?hg ?hi ?ho ?h1 ?_; (case hx => rfl); (case hy => rfl); (case hg => exact X1.out); (case hi => kernel_rfl); (case ho => kernel_rfl); (case h1 => kernel_rfl); refine Hid.out ?_)
    unfold Hid
    go_wp2_with fail
    refine bodyPost_ret (v := .tuple #[.agg #[.int .i64 0, .int .i64 0, .int .i64 0, .int .i64 0, .int .i64 0], .bool false]) ?_ rfl ⟨ret_dec (Pl.decV_none HD.out) (by rw [HD.out]; rfl), below_setRow5 B1.out (Nat.le_refl _) _⟩
    refine results_cell_tmp Try.results18 _ _ (w.heap.size) 41 #[.int .i64 0, .int .i64 0, .int .i64 0, .int .i64 0, .int .i64 0] (0, 0) _ (.bool false) ?hp ?hq ?hg Try.underlying41 ?hd ?hi
    case hp => rfl
    case hq => rfl
    case hg => exact setRow_heap _ _ _ _ _ _ X1.out
    case hd => rfl
    case hi => kernel_rfl
  have h1 : 1 ≤ k := by omega
  have HF : Hid (Pl.fits k n = true) := hf h1
  obtain ⟨f1, f2, f3⟩ := fm_at k h1 hk
  have HM : Hid (Pl.fm k = (Pl.fmN k : Int)) := f3
  clear hz hf f3
  go_wp2_with fail
  refine (rowOf_b k h1 hk u1).mono ?_
  rintro e u2 ⟨rfl, d2⟩
  have X2 : Hid (u2.heap[w.heap.size]? = some (.cells #[.int .i64 0, .int .i64 0, .int .i64 0, .int .i64 0, .int .i64 0] 41)) := (d2.block _ Z1.out).trans X1.out
  have B2 : Hid (Below w.heap.size w u2) := B1.out.trans (d2.mono (Nat.le_of_lt Z1.out))
  have Z2 : Hid (w.heap.size < u2.heap.size) := Nat.lt_of_lt_of_le Z1.out d2.size
  clear d2 X1 B1 Z1
  go_wp2_with (refine wpList_store_row rfl 63 _ _ rfl (u2.heap.size) #[.string (Pl.nm k), .int .i64 (Pl.fm k), .int .u8 (Pl.cc k 0), .int .u8 (Pl.cc k 1), .int .u8 (Pl.cc k 2), .int .u8 (Pl.cc k 3)] ?hx ?hy 63 #[.string ByteArray.empty, .int .i64 0, .int .u8 0, .int .u8 0, .int .u8 0, .int .u8 0] ?hg ?hi ?ho ?h1 ?_; (case hx => rfl); (case hy => rfl); (case hg => exact heap_alloc_new u2 _); (case hi => kernel_rfl); (case ho => kernel_rfl); (case h1 => kernel_rfl); refine Hid.out ?_)
  unfold Hid
  rw [World.setRow_alloc_new]
  refine wpList_at fun u3 hu3 => ?_
  have d3 : Below u2.heap.size u2 u3 := by rw [hu3]; exact below_alloc u2 _
  have Y3 : Hid (u3.heap[u2.heap.size]? = some (.cells #[.string (Pl.nm k), .int .i64 (Pl.fm k), .int .u8 (Pl.cc k 0), .int .u8 (Pl.cc k 1), .int .u8 (Pl.cc k 2), .int .u8 (Pl.cc k 3)] 63)) := by show u3.heap[u2.heap.size]? = _; rw [hu3]; exact heap_alloc_new u2 _
  have X3 : Hid (u3.heap[w.heap.size]? = some (.cells #[.int .i64 0, .int .i64 0, .int .i64 0, .int .i64 0, .int .i64 0] 41)) := (d3.block _ Z2.out).trans X2.out
  have B3 : Hid (Below w.heap.size w u3) := B2.out.trans (d3.mono (Nat.le_of_lt Z2.out))
  have Z3 : Hid (w.heap.size < u3.heap.size) := Nat.lt_of_lt_of_le Z2.out d3.size
  clear d3 hu3 X2 B2 Z2
  have ky : ∀ j, u3.cell? ⟨u2.heap.size, j, none⟩ = (#[.string (Pl.nm k), .int .i64 (Pl.fm k), .int .u8 (Pl.cc k 0), .int .u8 (Pl.cc k 1), .int .u8 (Pl.cc k 2), .int .u8 (Pl.cc k 3)] : Array Value)[j]? := fun j => cell_of_row u3 u2.heap.size j _ 63 (0, 0) Y3.out
  go_wp2_with fail
  refine (ruleOf_b _ (Pl.fmN k) HM.out f1 f2 u3).mono ?_
  rintro e u4 ⟨rfl, d4⟩
  have X4 : Hid (u4.heap[w.heap.size]? = some (.cells #[.int .i64 0, .int .i64 0, .int .i64 0, .int .i64 0, .int .i64 0] 41)) := (d4.block _ Z3.out).trans X3.out
  have B4 : Hid (Below w.heap.size w u4) := B3.out.trans (d4.mono (Nat.le_of_lt Z3.out))
  have Z4 : Hid (w.heap.size < u4.heap.size) := Nat.lt_of_lt_of_le Z3.out d4.size
  clear d4 X3 B3 Z3 ky
  go_wp2_with fail
  refine (readFields_any n (Pl.fmN k) f1 f2 u4).mono ?_
  rintro e u5 ⟨rfl, d5⟩
  have X5 : Hid (u5.heap[w.heap.size]? = some (.cells #[.int .i64 0, .int .i64 0, .int .i64 0, .int .i64 0, .int .i64 0] 41)) := (d5.block _ Z4.out).trans X4.out
  have B5 : Hid (Below w.heap.size w u5) := B4.out.trans (d5.mono (Nat.le_of_lt Z4.out))
  have Z5 : Hid (w.heap.size < u5.heap.size) := Nat.lt_of_lt_of_le Z4.out d5.size
  clear d5 X4 B4 Z4
  obtain ⟨a, ha⟩ : ∃ a, a = Pl.fRd (Pl.fmN k) n := ⟨_, rfl⟩
  obtain ⟨b, hb⟩ : ∃ a, a = Pl.fR1 (Pl.fmN k) n := ⟨_, rfl⟩
  obtain ⟨c, hc⟩ : ∃ a, a = Pl.fR2 (Pl.fmN k) n := ⟨_, rfl⟩
  obtain ⟨d, hd⟩ : ∃ a, a = Pl.gIm (Pl.fmN k) n := ⟨_, rfl⟩
  rw [← ha, ← hb, ← hc, ← hd]
  have HV : Hid (a = Pl.fRd (Pl.fmN k) n ∧ b = Pl.fR1 (Pl.fmN k) n ∧ c = Pl.fR2 (Pl.fmN k) n ∧ d = Pl.gIm (Pl.fmN k) n) := ⟨ha, hb, hc, hd⟩
  clear ha hb hc hd
  go_wp2_with (refine wpList_store_row rfl 41 _ _ rfl (u5.heap.size) #[.int .i64 0, .int .i64 a, .int .i64 b, .int .i64 c, .int .i64 d] ?hx ?hy 41 #[.int .i64 0, .int .i64 0, .int .i64 0, .int .i64 0, .int .i64 0] ?hg ?hi ?ho ?h1 ?_; (case hx => rfl); (case hy => rfl); (case hg => exact heap_alloc_new u5 _); (case hi => kernel_rfl); (case ho => kernel_rfl); (case h1 => kernel_rfl); refine Hid.out ?_)
  unfold Hid
  rw [World.setRow_alloc_new]
  refine wpList_at fun u6 hu6 => ?_
  have d6 : Below u5.heap.size u5 u6 := by rw [hu6]; exact below_alloc u5 _
  have Y6 : Hid (u6.heap[u5.heap.size]? = some (.cells #[.int .i64 0, .int .i64 a, .int .i64 b, .int .i64 c, .int .i64 d] 41)) := by show u6.heap[u5.heap.size]? = _; rw [hu6]; exact heap_alloc_new u5 _
  have G6 : Hid (w.heap.size < u5.heap.size ∧ u5.heap.size < u6.heap.size) := ⟨Z5.out, by rw [hu6]; simp⟩
  have X6 : Hid (u6.heap[w.heap.size]? = some (.cells #[.int .i64 0, .int .i64 0, .int .i64 0, .int .i64 0, .int .i64 0] 41)) := (d6.block _ Z5.out).trans X5.out
  have B6 : Hid (Below w.heap.size w u6) := B5.out.trans (d6.mono (Nat.le_of_lt Z5.out))
  have Z6 : Hid (w.heap.size < u6.heap.size) := Nat.lt_of_lt_of_le Z5.out d6.size
  clear d6 hu6 X5 B5 Z5
  obtain ⟨g, hg⟩ : ∃ g, g = u5.heap.size := ⟨_, rfl⟩
  rw [← hg] at Y6 G6 ⊢
  clear hg
  have kf : ∀ j, u6.frozen? ⟨g, j, none⟩ = false := fun j => frozen_of_row u6 g j _ 41 Y6.out
  have ky : ∀ j, u6.cell? ⟨g, j, none⟩ = (#[.int .i64 0, .int .i64 a, .int .i64 b, .int .i64 c, .int .i64 d] : Array Value)[j]? := fun j => cell_of_row u6 g j _ 41 (0, 0) Y6.out
  have Y7 : Hid ((u6.setCell ⟨g, 0, none⟩ (.int .i64 (k : Int))).heap[g]? = some (.cells #[.int .i64 (k : Int), .int .i64 a, .int .i64 b, .int .i64 c, .int .i64 d] 41)) := row_put5 Y6.out 0 (.int .i64 (k : Int)) rfl
  go_wp2_with (refine wpList_load_row rfl 41 _ rfl (g) ?hx 41 #[.int .i64 (k : Int), .int .i64 a, .int .i64 b, .int .i64 c, .int .i64 d] (0, 0) _ ?hg Try.underlying41 ?hd ?hi ?_; (case hx => rfl); (case hg => exact Y7.out); (case hd => rfl); (case hi => kernel_rfl))
  refine calls_at5 fun u7 hu7 => ?_
  have X7 : Hid (u7.heap[w.heap.size]? = some (.cells #[.int .i64 0, .int .i64 0, .int .i64 0, .int .i64 0, .int .i64 0] 41)) := by show u7.heap[w.heap.size]? = _; rw [hu7]; exact keep_other X6.out (Nat.ne_of_lt G6.out.1)
  have B7 : Hid (Below w.heap.size w u7) := by show Below w.heap.size w u7; rw [hu7]; exact B6.out.setCell (Nat.le_of_lt G6.out.1) _
  have Z7 : Hid (w.heap.size < u7.heap.size ∧ g < u7.heap.size) := by show w.heap.size < u7.heap.size ∧ g < u7.heap.size; rw [hu7]; have := G6.out; simp; omega
  rw [← hu7] at Y7
  clear hu7 X6 B6 Z6 Y6 G6 kf ky
  cases hit : Pl.hit k n
  · have HD : Hid (Pl.dec n = 0) := Pl.dec_none (fun j j1 j2 => by
      cases hh : Pl.hit j n
      · rfl
      · have := (Pl.hit_fits j1 j2 hh).1
        have e := Pl.fits_one j1 j2 h1 hk this HF.out
        subst e
        rw [hit] at hh
        cases hh)
    cases hok : iok (k : Int) a b c d
    · refine (implEnc_no _ _ _ _ _ hok u7).mono ?_
      rintro e u8 ⟨rfl, d8⟩
      have X8 : Hid (u8.heap[w.heap.size]? = some (.cells #[.int .i64 0, .int .i64 0, .int .i64 0, .int .i64 0, .int .i64 0] 41)) := (d8.block _ Z7.out.1).trans X7.out
      have B8 : Hid (Below w.heap.size w u8) := B7.out.trans (d8.mono (Nat.le_of_lt Z7.out.1))
      clear d8
      go_wp2_with (refine wpList_store_row rfl 41 _ _ rfl (w.heap.size) #[.int .i64 0, .int .i64 0, .int .i64 0, .int .i64 0, .int .i64 0] ?hx ?hy 41 #[.int .i64 0, .int .i64 0, .int .i64 0, .int .i64 0, .int .i64 0] ?hg ?hi ?ho ?h1 ?_; (case hx => rfl); (case hy => rfl); (case hg => exact X8.out); (case hi => kernel_rfl); (case ho => kernel_rfl); (case h1 => kernel_rfl); refine Hid.out ?_)
      unfold Hid
      go_wp2_with fail
      refine bodyPost_ret (v := .tuple #[.agg #[.int .i64 0, .int .i64 0, .int .i64 0, .int .i64 0, .int .i64 0], .bool false]) ?_ rfl ⟨ret_dec (Pl.decV_none HD.out) (by rw [HD.out]; rfl), below_setRow5 B8.out (Nat.le_refl _) _⟩
      refine results_cell_tmp Try.results18 _ _ (w.heap.size) 41 #[.int .i64 0, .int .i64 0, .int .i64 0, .int .i64 0, .int .i64 0] (0, 0) _ (.bool false) ?hp ?hq ?hg Try.underlying41 ?hd ?hi
      case hp => rfl
      case hq => rfl
      case hg => exact setRow_heap _ _ _ _ _ _ X8.out
      case hd => rfl
      case hi => kernel_rfl
    · have hne : Pl.enc k a b c d ≠ n := by
        intro he
        obtain ⟨ea, eb, ec, ed⟩ := HV.out
        rw [iok_eq k h1 hk, ea, eb, ec, ed] at hok
        rw [ea, eb, ec, ed] at he
        rw [(Pl.hit_iff k n).2 ⟨hok, he⟩] at hit
        cases hit
      refine (implEnc_at k h1 hk _ _ _ _ hok u7).mono ?_
      rintro e u8 ⟨rfl, d8⟩
      have X8 : Hid (u8.heap[w.heap.size]? = some (.cells #[.int .i64 0, .int .i64 0, .int .i64 0, .int .i64 0, .int .i64 0] 41)) := (d8.block _ Z7.out.1).trans X7.out
      have B8 : Hid (Below w.heap.size w u8) := B7.out.trans (d8.mono (Nat.le_of_lt Z7.out.1))
      clear d8
      obtain ⟨m, hm⟩ : ∃ m, m = Pl.enc k a b c d := ⟨_, rfl⟩
      rw [← hm] at hne ⊢
      have hne' : (m != n) = true := by simpa using hne
      clear hm
      go_wp2_with (refine wpList_store_row rfl 41 _ _ rfl (w.heap.size) #[.int .i64 0, .int .i64 0, .int .i64 0, .int .i64 0, .int .i64 0] ?hx ?hy 41 #[.int .i64 0, .int .i64 0, .int .i64 0, .int .i64 0, .int .i64 0] ?hg ?hi ?ho ?h1 ?_; (case hx => rfl); (case hy => rfl); (case hg => exact X8.out); (case hi => kernel_rfl); (case ho => kernel_rfl); (case h1 => kernel_rfl); refine Hid.out ?_)
      unfold Hid
      go_wp2_with fail
      refine bodyPost_ret (v := .tuple #[.agg #[.int .i64 0, .int .i64 0, .int .i64 0, .int .i64 0, .int .i64 0], .bool false]) ?_ rfl ⟨ret_dec (Pl.decV_none HD.out) (by rw [HD.out]; rfl), below_setRow5 B8.out (Nat.le_refl _) _⟩
      refine results_cell_tmp Try.results18 _ _ (w.heap.size) 41 #[.int .i64 0, .int .i64 0, .int .i64 0, .int .i64 0, .int .i64 0] (0, 0) _ (.bool false) ?hp ?hq ?hg Try.underlying41 ?hd ?hi
      case hp => rfl
      case hq => rfl
      case hg => exact setRow_heap _ _ _ _ _ _ X8.out
      case hd => rfl
      case hi => kernel_rfl
  · have HD : Hid (Pl.dec n = k) := Pl.dec_hit h1 hk hit
    obtain ⟨q1, q2⟩ := (Pl.hit_iff k n).1 hit
    obtain ⟨ea, eb, ec, ed⟩ := HV.out
    rw [← ea, ← eb, ← ec, ← ed] at q1 q2
    have hok : iok (k : Int) a b c d = true := by rw [iok_eq k h1 hk]; exact q1
    refine (implEnc_at k h1 hk _ _ _ _ hok u7).mono ?_
    rintro e u8 ⟨rfl, d8⟩
    have X8 : Hid (u8.heap[w.heap.size]? = some (.cells #[.int .i64 0, .int .i64 0, .int .i64 0, .int .i64 0, .int .i64 0] 41)) := (d8.block _ Z7.out.1).trans X7.out
    have Y8 : Hid (u8.heap[g]? = some (.cells #[.int .i64 (k : Int), .int .i64 a, .int .i64 b, .int .i64 c, .int .i64 d] 41)) := (d8.block _ Z7.out.2).trans Y7.out
    have B8 : Hid (Below w.heap.size w u8) := B7.out.trans (d8.mono (Nat.le_of_lt Z7.out.1))
    have HE : Hid (Pl.decV n = #[.int .i64 (k : Int), .int .i64 a, .int .i64 b, .int .i64 c, .int .i64 d]) := by
      show Pl.decV n = #[.int .i64 (k : Int), .int .i64 a, .int .i64 b, .int .i64 c, .int .i64 d]
      rw [Pl.decV_hit h1 HD.out, ea, eb, ec, ed]
    clear d8 q1 ea eb ec ed
    rw [q2]
    clear q2
    go_wp2_with (first | (refine wpList_load_row rfl 41 _ rfl (g) ?hx 41 #[.int .i64 (k : Int), .int .i64 a, .int .i64 b, .int .i64 c, .int .i64 d] (0, 0) _ ?hg Try.underlying41 ?hd ?hi ?_; (case hx => rfl); (case hg => exact Y8.out); (case hd => rfl); (case hi => kernel_rfl)) | (refine wpList_store_row rfl 41 _ _ rfl (w.heap.size) #[.int .i64 (k : Int), .int .i64 a, .int .i64 b, .int .i64 c, .int .i64 d] ?hx ?hy 41 #[.int .i64 0, .int .i64 0, .int .i64 0, .int .i64 0, .int .i64 0] ?hg ?hi ?ho ?h1 ?_; (case hx => rfl); (case hy => rfl); (case hg => exact X8.out); (case hi => kernel_rfl); (case ho => kernel_rfl); (case h1 => kernel_rfl); refine Hid.out ?_))
    unfold Hid
    go_wp2_with fail
    refine bodyPost_ret (v := .tuple #[.agg #[.int .i64 (k : Int), .int .i64 a, .int .i64 b, .int .i64 c, .int .i64 d], .bool true]) ?_ rfl ⟨ret_dec HE.out (by rw [HD.out]; simp; omega), below_setRow5 B8.out (Nat.le_refl _) _⟩
    refine results_cell_tmp Try.results18 _ _ (w.heap.size) 41 #[.int .i64 (k : Int), .int .i64 a, .int .i64 b, .int .i64 c, .int .i64 d] (0, 0) _ (.bool true) ?hp ?hq ?hg Try.underlying41 ?hd ?hi
    case hp => rfl
    case hq => rfl
    case hg => exact setRow_heap _ _ _ _ _ _ X8.out
    case hd => rfl
    case hi => kernel_rfl
end Go.Proofs.Ytgopdicmmglakaa.W
