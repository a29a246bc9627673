import Derived.Test.YtgpmplcamdophaaDoorLsJ
import Derived.Test.YtgpmplcamdophaaDoorShelf
import Derived.Lib.AppendIntMem
set_option linter.unusedVariables false
set_option linter.unusedSimpArgs false
namespace Go.Proofs.YtgpmplcamdophaaDoor.Pl
/-- the words of the kinds of lines that have one -/
def lws : List (List UInt8) := [[], [], [], [], [108, 105], [108, 97], [109, 118], [106], [99, 97, 108, 108], [114, 101, 116], [46, 116, 101, 120, 116], [46, 100, 97, 116, 97], [46, 98, 121, 116, 101], [46, 104, 97, 108, 102], [46, 119, 111, 114, 100], [46, 122, 101, 114, 111], [46, 97, 108, 105, 103, 110]]
def lw (k : Nat) : ByteArray := ⟨(lws.getD k []).toArray⟩
end Go.Proofs.YtgpmplcamdophaaDoor.Pl
namespace Go.Proofs.YtgpmplcamdophaaDoor.W
open Go.RowKit
/-- what the program's tables hold -/
structure AsmLies (w : World) : Prop where
  regs : RegsLie w
  here : 0 < w.heap.size
  words : ∀ k, k < 17 → w.cell? ⟨0, k, none⟩ = some (.string (Pl.lw k))
  pow : Lib.TabIs Tryd.prog w "internal/strconv.uint64pow10" .u64 Lib.pow10Tab
theorem tab_below {n : String} {g : Nat} {k : IntKind} {zs : List Int} {w w' : World} (hg : Tryd.prog.globalNamed n = some g) (h : Lib.TabIs Tryd.prog w n k zs) (hb : Below w.heap.size w w') : Lib.TabIs Tryd.prog w' n k zs := by
  unfold Lib.TabIs World.var? at h ⊢
  rw [hg] at h ⊢
  simp only [Option.bind_some] at h ⊢
  have hlt : g < w.heap.size := by
    rcases Nat.lt_or_ge g w.heap.size with h' | h'
    · exact h'
    · rw [Array.getElem?_eq_none h'] at h; cases h
  rw [hb.block g hlt]
  exact h
theorem AsmLies.below {w w' : World} (h : AsmLies w) (hb : Below w.heap.size w w') : AsmLies w' :=
  ⟨h.regs.below hb, Nat.lt_of_lt_of_le h.here hb.size, fun k hk => (hb.cell (p := ⟨0, k, none⟩) h.here).trans (h.words k hk), tab_below (g := 2) (by kernel_rfl) h.pow hb⟩
theorem itoa_num (n : Int) (hn : -4611686018427387904 ≤ n ∧ n ≤ 4611686018427387904) (w : World) (h : AsmLies w) : Calls Tryd.prog 63 #[.int .i64 n] w fun e w' => e = .returned (.string (Pl.num n)) ∧ Below w.heap.size w w' :=
  (Tryd.strconv_Itoa n (by omega) (by omega) w h.pow).mono fun e w' ⟨he, k, os, hw⟩ => ⟨he, hw ▸ Lib.below_grow _ w (Nat.le_refl _) k os⟩
theorem distanceText_any (n : Int) (hn : -4611686018427387904 ≤ n ∧ n ≤ 4611686018427387904) (w : World) (h : AsmLies w) : Calls Tryd.prog 64 #[.int .i64 n] w fun e w' => e = .returned (.string (Pl.dist n)) ∧ Below w.heap.size w w' := by
  have sN := Pl.num_size hn
  have HN : Hid (∀ w, AsmLies w → Calls Tryd.prog 63 #[.int .i64 n] w fun e w' => e = .returned (.string (Pl.num n)) ∧ Below w.heap.size w w') := fun w h => itoa_num n hn w h
  have HL : Hid (AsmLies w) := h
  clear h
  unfold Pl.dist
  by_cases h0 : n = 0
  · subst h0
    go_enter Tryd.func64, Tryd.ntmps64
    go_wp2
    go_ret
    exact ⟨rfl, Below.refl _ _⟩
  have e0 : (n == 0) = false := by simpa using h0
  by_cases hp : 0 < n
  · rw [if_pos hp]
    generalize Pl.num n = N at *
    have e1 : decide (0 < n) = true := by simpa using hp
    clear h0
    go_enter Tryd.func64, Tryd.ntmps64
    go_wp2_with (go_at_call 63; refine (HN.out _ HL.out).mono ?_; rintro e u1 ⟨rfl, d1⟩)
    go_ret
    exact ⟨rfl, d1⟩
  · rw [if_neg hp, if_pos (by omega)]
    generalize Pl.num n = N at *
    have e1 : decide (0 < n) = false := by simpa using hp
    clear h0
    go_enter Tryd.func64, Tryd.ntmps64
    go_wp2_with (go_at_call 63; refine (HN.out _ HL.out).mono ?_; rintro e u1 ⟨rfl, d1⟩)
    go_ret
    exact ⟨rfl, d1⟩
set_option maxRecDepth 8000 in
set_option maxHeartbeats 8000000 in
theorem ot_0 (x : Pl.Ln) (q : Nat) (hq : x.rd = q) (hd : q ≤ 31) (w : World) (h : AsmLies w) : Calls Tryd.prog 45 #[.int .i64 0, .agg #[.int .i64 x.k, .int .i64 x.op, .int .i64 x.rd, .int .i64 x.r1, .int .i64 x.r2, .int .i64 x.im, .string x.s, .int .i64 x.n]] w fun e w' => e = .returned (.string (Pl.rn q)) ∧ Below w.heap.size w w' := by
  have HL : Hid (AsmLies w) := h
  clear h
  rw [hq]
  have HR : Hid (∀ w, AsmLies w → Calls Tryd.prog 62 #[.int .i64 q] w fun e w' => e = .returned (.string (Pl.rn q)) ∧ Below w.heap.size w w') := fun w h => implRegName_yes q hd w h.regs
  clear hq
  generalize Pl.rn q = D at *
  go_enter Tryd.func45, Tryd.ntmps45
  go_wp2_with (go_at_call 62; refine (HR.out _ (HL.out.below (below_alloc2 w _))).mono ?_; rintro e u1 ⟨rfl, d1⟩)
  go_ret
  exact ⟨rfl, below_then d1 (below_alloc2 w _)⟩
set_option maxRecDepth 8000 in
set_option maxHeartbeats 8000000 in
theorem ot_1 (x : Pl.Ln) (q : Nat) (hq : x.r1 = q) (hd : q ≤ 31) (w : World) (h : AsmLies w) : Calls Tryd.prog 45 #[.int .i64 1, .agg #[.int .i64 x.k, .int .i64 x.op, .int .i64 x.rd, .int .i64 x.r1, .int .i64 x.r2, .int .i64 x.im, .string x.s, .int .i64 x.n]] w fun e w' => e = .returned (.string (Pl.rn q)) ∧ Below w.heap.size w w' := by
  have HL : Hid (AsmLies w) := h
  clear h
  rw [hq]
  have HR : Hid (∀ w, AsmLies w → Calls Tryd.prog 62 #[.int .i64 q] w fun e w' => e = .returned (.string (Pl.rn q)) ∧ Below w.heap.size w w') := fun w h => implRegName_yes q hd w h.regs
  clear hq
  generalize Pl.rn q = D at *
  go_enter Tryd.func45, Tryd.ntmps45
  go_wp2_with (go_at_call 62; refine (HR.out _ (HL.out.below (below_alloc2 w _))).mono ?_; rintro e u1 ⟨rfl, d1⟩)
  go_ret
  exact ⟨rfl, below_then d1 (below_alloc2 w _)⟩
set_option maxRecDepth 8000 in
set_option maxHeartbeats 8000000 in
theorem ot_2 (x : Pl.Ln) (q : Nat) (hq : x.r2 = q) (hd : q ≤ 31) (w : World) (h : AsmLies w) : Calls Tryd.prog 45 #[.int .i64 2, .agg #[.int .i64 x.k, .int .i64 x.op, .int .i64 x.rd, .int .i64 x.r1, .int .i64 x.r2, .int .i64 x.im, .string x.s, .int .i64 x.n]] w fun e w' => e = .returned (.string (Pl.rn q)) ∧ Below w.heap.size w w' := by
  have HL : Hid (AsmLies w) := h
  clear h
  rw [hq]
  have HR : Hid (∀ w, AsmLies w → Calls Tryd.prog 62 #[.int .i64 q] w fun e w' => e = .returned (.string (Pl.rn q)) ∧ Below w.heap.size w w') := fun w h => implRegName_yes q hd w h.regs
  clear hq
  generalize Pl.rn q = D at *
  go_enter Tryd.func45, Tryd.ntmps45
  go_wp2_with (go_at_call 62; refine (HR.out _ (HL.out.below (below_alloc2 w _))).mono ?_; rintro e u1 ⟨rfl, d1⟩)
  go_ret
  exact ⟨rfl, below_then d1 (below_alloc2 w _)⟩
set_option maxRecDepth 8000 in
set_option maxHeartbeats 8000000 in
theorem ot_3 (x : Pl.Ln) (hn : -4611686018427387904 ≤ x.im ∧ x.im ≤ 4611686018427387904) (w : World) (h : AsmLies w) : Calls Tryd.prog 45 #[.int .i64 3, .agg #[.int .i64 x.k, .int .i64 x.op, .int .i64 x.rd, .int .i64 x.r1, .int .i64 x.r2, .int .i64 x.im, .string x.s, .int .i64 x.n]] w fun e w' => e = .returned (.string (Pl.num x.im)) ∧ Below w.heap.size w w' := by
  have HL : Hid (AsmLies w) := h
  clear h
  have HN : Hid (∀ w, AsmLies w → Calls Tryd.prog 63 #[.int .i64 x.im] w fun e w' => e = .returned (.string (Pl.num x.im)) ∧ Below w.heap.size w w') := fun w h => itoa_num x.im hn w h
  generalize Pl.num x.im = N at *
  go_enter Tryd.func45, Tryd.ntmps45
  go_wp2_with (go_at_call 63; refine (HN.out _ (HL.out.below (below_alloc2 w _))).mono ?_; rintro e u1 ⟨rfl, d1⟩)
  go_ret
  exact ⟨rfl, below_then d1 (below_alloc2 w _)⟩
set_option maxRecDepth 8000 in
set_option maxHeartbeats 8000000 in
theorem ot_7 (x : Pl.Ln) (hn : -4611686018427387904 ≤ x.n ∧ x.n ≤ 4611686018427387904) (w : World) (h : AsmLies w) : Calls Tryd.prog 45 #[.int .i64 7, .agg #[.int .i64 x.k, .int .i64 x.op, .int .i64 x.rd, .int .i64 x.r1, .int .i64 x.r2, .int .i64 x.im, .string x.s, .int .i64 x.n]] w fun e w' => e = .returned (.string (Pl.num x.n)) ∧ Below w.heap.size w w' := by
  have HL : Hid (AsmLies w) := h
  clear h
  have HN : Hid (∀ w, AsmLies w → Calls Tryd.prog 63 #[.int .i64 x.n] w fun e w' => e = .returned (.string (Pl.num x.n)) ∧ Below w.heap.size w w') := fun w h => itoa_num x.n hn w h
  generalize Pl.num x.n = N at *
  go_enter Tryd.func45, Tryd.ntmps45
  go_wp2_with (go_at_call 63; refine (HN.out _ (HL.out.below (below_alloc2 w _))).mono ?_; rintro e u1 ⟨rfl, d1⟩)
  go_ret
  exact ⟨rfl, below_then d1 (below_alloc2 w _)⟩
set_option maxRecDepth 8000 in
set_option maxHeartbeats 8000000 in
theorem ot_8 (x : Pl.Ln) (hn : -4611686018427387904 ≤ x.n ∧ x.n ≤ 4611686018427387904) (w : World) (h : AsmLies w) : Calls Tryd.prog 45 #[.int .i64 8, .agg #[.int .i64 x.k, .int .i64 x.op, .int .i64 x.rd, .int .i64 x.r1, .int .i64 x.r2, .int .i64 x.im, .string x.s, .int .i64 x.n]] w fun e w' => e = .returned (.string (Pl.num x.n)) ∧ Below w.heap.size w w' := by
  have HL : Hid (AsmLies w) := h
  clear h
  have HN : Hid (∀ w, AsmLies w → Calls Tryd.prog 63 #[.int .i64 x.n] w fun e w' => e = .returned (.string (Pl.num x.n)) ∧ Below w.heap.size w w') := fun w h => itoa_num x.n hn w h
  generalize Pl.num x.n = N at *
  go_enter Tryd.func45, Tryd.ntmps45
  go_wp2_with (go_at_call 63; refine (HN.out _ (HL.out.below (below_alloc2 w _))).mono ?_; rintro e u1 ⟨rfl, d1⟩)
  go_ret
  exact ⟨rfl, below_then d1 (below_alloc2 w _)⟩
set_option maxRecDepth 8000 in
set_option maxHeartbeats 8000000 in
theorem ot_9e (x : Pl.Ln) (he : x.s.size = 0) (hn : -4611686018427387904 ≤ x.n ∧ x.n ≤ 4611686018427387904) (w : World) (h : AsmLies w) : Calls Tryd.prog 45 #[.int .i64 9, .agg #[.int .i64 x.k, .int .i64 x.op, .int .i64 x.rd, .int .i64 x.r1, .int .i64 x.r2, .int .i64 x.im, .string x.s, .int .i64 x.n]] w fun e w' => e = .returned (.string (Pl.num x.n)) ∧ Below w.heap.size w w' := by
  have HL : Hid (AsmLies w) := h
  clear h
  have HN : Hid (∀ w, AsmLies w → Calls Tryd.prog 63 #[.int .i64 x.n] w fun e w' => e = .returned (.string (Pl.num x.n)) ∧ Below w.heap.size w w') := fun w h => itoa_num x.n hn w h
  generalize Pl.num x.n = N at *
  have hie : x.s.toList.isEmpty = true := by simpa using (Pl.nil_iff x.s).2 he
  have hnl : x.s.toList = [] := (Pl.nil_iff x.s).2 he
  go_enter Tryd.func45, Tryd.ntmps45
  go_wp2_with (go_at_call 63; refine (HN.out _ (HL.out.below (below_alloc2 w _))).mono ?_; rintro e u1 ⟨rfl, d1⟩)
  go_ret
  exact ⟨rfl, below_then d1 (below_alloc2 w _)⟩
set_option maxRecDepth 8000 in
set_option maxHeartbeats 8000000 in
theorem ot_5 (x : Pl.Ln)  (w : World) (h : AsmLies w) : Calls Tryd.prog 45 #[.int .i64 5, .agg #[.int .i64 x.k, .int .i64 x.op, .int .i64 x.rd, .int .i64 x.r1, .int .i64 x.r2, .int .i64 x.im, .string x.s, .int .i64 x.n]] w fun e w' => e = .returned (.string (x.s)) ∧ Below w.heap.size w w' := by
  have HL : Hid (AsmLies w) := h
  clear h
  go_enter Tryd.func45, Tryd.ntmps45
  go_wp2
  go_ret
  exact ⟨rfl, below_alloc2 w _⟩
set_option maxRecDepth 8000 in
set_option maxHeartbeats 8000000 in
theorem ot_6 (x : Pl.Ln) (hs : x.s.size ≤ 1048576) (hn : -4611686018427387904 ≤ x.n ∧ x.n ≤ 4611686018427387904) (w : World) (h : AsmLies w) : Calls Tryd.prog 45 #[.int .i64 6, .agg #[.int .i64 x.k, .int .i64 x.op, .int .i64 x.rd, .int .i64 x.r1, .int .i64 x.r2, .int .i64 x.im, .string x.s, .int .i64 x.n]] w fun e w' => e = .returned (.string (x.s ++ Pl.dist x.n)) ∧ Below w.heap.size w w' := by
  have HL : Hid (AsmLies w) := h
  clear h
  have sT := Pl.dist_size hn
  have HT : Hid (∀ w, AsmLies w → Calls Tryd.prog 64 #[.int .i64 x.n] w fun e w' => e = .returned (.string (Pl.dist x.n)) ∧ Below w.heap.size w w') := fun w h => distanceText_any x.n hn w h
  generalize Pl.dist x.n = T at *
  have g1 : ¬ 9223372036854775807 < x.s.size + T.size := by omega
  go_enter Tryd.func45, Tryd.ntmps45
  go_wp2_with fail
  go_region_held3 (fun w2 => w2.cell? ⟨w.heap.size, 6, none⟩ = some (.string x.s) ∧ w2.cell? ⟨w.heap.size, 7, none⟩ = some (.int .i64 x.n)) (go_keep) ((go_at_call 64; refine (HT.out _ (HL.out.below (by repeat (first | exact below_alloc2 w _ | refine Below.drew ?_ | refine below_drewN ?_ _)))).mono ?_; rintro e v1 ⟨rfl, d1⟩; have X1 : Hid (v1.heap[w.heap.size]? = some (.cells #[.int .i64 x.k, .int .i64 x.op, .int .i64 x.rd, .int .i64 x.r1, .int .i64 x.r2, .int .i64 x.im, .string x.s, .int .i64 x.n] 46) ∧ Below w.heap.size w v1) := ⟨keep_row d1 (by first | exact heap_alloc_new w _), below_then d1 (by repeat (first | exact below_alloc2 w _ | refine Below.drew ?_ | refine below_drewN ?_ _))⟩; clear d1; have k16 : v1.cell? ⟨w.heap.size, 6, none⟩ = some (.string x.s) := cell_of_row v1 w.heap.size 6 _ 46 (0, 0) X1.out.1; have k17 : v1.cell? ⟨w.heap.size, 7, none⟩ = some (.int .i64 x.n) := cell_of_row v1 w.heap.size 7 _ 46 (0, 0) X1.out.1))
  all_goals
    go_wp2_with fail
    go_ret
    exact ⟨rfl, X1.out.2⟩
set_option maxRecDepth 8000 in
set_option maxHeartbeats 8000000 in
theorem ot_9n (x : Pl.Ln) (he : ¬ x.s.size = 0) (hs : x.s.size ≤ 1048576) (hn : -4611686018427387904 ≤ x.n ∧ x.n ≤ 4611686018427387904) (w : World) (h : AsmLies w) : Calls Tryd.prog 45 #[.int .i64 9, .agg #[.int .i64 x.k, .int .i64 x.op, .int .i64 x.rd, .int .i64 x.r1, .int .i64 x.r2, .int .i64 x.im, .string x.s, .int .i64 x.n]] w fun e w' => e = .returned (.string (x.s ++ Pl.dist x.n)) ∧ Below w.heap.size w w' := by
  have HL : Hid (AsmLies w) := h
  clear h
  have sT := Pl.dist_size hn
  have HT : Hid (∀ w, AsmLies w → Calls Tryd.prog 64 #[.int .i64 x.n] w fun e w' => e = .returned (.string (Pl.dist x.n)) ∧ Below w.heap.size w w') := fun w h => distanceText_any x.n hn w h
  generalize Pl.dist x.n = T at *
  have g1 : ¬ 9223372036854775807 < x.s.size + T.size := by omega
  have hie : x.s.toList.isEmpty = false := by simpa using fun h => he ((Pl.nil_iff x.s).1 h)
  have hnl : ¬ x.s.toList = [] := fun h => he ((Pl.nil_iff x.s).1 h)
  go_enter Tryd.func45, Tryd.ntmps45
  go_wp2_with fail
  go_region_held3 (fun w2 => w2.cell? ⟨w.heap.size, 6, none⟩ = some (.string x.s) ∧ w2.cell? ⟨w.heap.size, 7, none⟩ = some (.int .i64 x.n)) (go_keep) ((go_at_call 64; refine (HT.out _ (HL.out.below (by repeat (first | exact below_alloc2 w _ | refine Below.drew ?_ | refine below_drewN ?_ _)))).mono ?_; rintro e v1 ⟨rfl, d1⟩; have X1 : Hid (v1.heap[w.heap.size]? = some (.cells #[.int .i64 x.k, .int .i64 x.op, .int .i64 x.rd, .int .i64 x.r1, .int .i64 x.r2, .int .i64 x.im, .string x.s, .int .i64 x.n] 46) ∧ Below w.heap.size w v1) := ⟨keep_row d1 (by first | exact heap_alloc_new w _), below_then d1 (by repeat (first | exact below_alloc2 w _ | refine Below.drew ?_ | refine below_drewN ?_ _))⟩; clear d1; have k16 : v1.cell? ⟨w.heap.size, 6, none⟩ = some (.string x.s) := cell_of_row v1 w.heap.size 6 _ 46 (0, 0) X1.out.1; have k17 : v1.cell? ⟨w.heap.size, 7, none⟩ = some (.int .i64 x.n) := cell_of_row v1 w.heap.size 7 _ 46 (0, 0) X1.out.1))
  all_goals
    go_wp2_with fail
    go_ret
    exact ⟨rfl, X1.out.2⟩
set_option maxRecDepth 8000 in
set_option maxHeartbeats 8000000 in
theorem ot_4 (x : Pl.Ln) (q : Nat) (hq : x.r1 = q) (hd : q ≤ 31) (hn : -4611686018427387904 ≤ x.im ∧ x.im ≤ 4611686018427387904) (w : World) (h : AsmLies w) : Calls Tryd.prog 45 #[.int .i64 4, .agg #[.int .i64 x.k, .int .i64 x.op, .int .i64 x.rd, .int .i64 x.r1, .int .i64 x.r2, .int .i64 x.im, .string x.s, .int .i64 x.n]] w fun e w' => e = .returned (.string (Pl.num x.im ++ ⟨#[40]⟩ ++ Pl.rn q ++ ⟨#[41]⟩)) ∧ Below w.heap.size w w' := by
  have HL : Hid (AsmLies w) := h
  clear h
  rw [hq]
  have sN := Pl.num_size hn
  have sD := Pl.rn_size q (by omega)
  have HR : Hid (∀ w, AsmLies w → Calls Tryd.prog 62 #[.int .i64 q] w fun e w' => e = .returned (.string (Pl.rn q)) ∧ Below w.heap.size w w') := fun w h => implRegName_yes q hd w h.regs
  have HN : Hid (∀ w, AsmLies w → Calls Tryd.prog 63 #[.int .i64 x.im] w fun e w' => e = .returned (.string (Pl.num x.im)) ∧ Below w.heap.size w w') := fun w h => itoa_num x.im hn w h
  clear hq
  generalize Pl.rn q = D at *
  generalize Pl.num x.im = N at *
  have g1 : ¬ 9223372036854775807 < N.size + 1 := by omega
  have g2 : ¬ 9223372036854775807 < N.size + 1 + D.size := by omega
  have g3 : ¬ 9223372036854775807 < N.size + 1 + D.size + 1 := by omega
  go_enter Tryd.func45, Tryd.ntmps45
  go_wp2_with fail
  go_region_held3 (fun w2 => w2.cell? ⟨w.heap.size, 3, none⟩ = some (.int .i64 q) ∧ w2.cell? ⟨w.heap.size, 5, none⟩ = some (.int .i64 x.im)) (go_keep) (first | (go_at_call 62; refine (HR.out _ (HL.out.below (by repeat (first | exact X2.out.2 | exact below_alloc2 w _ | refine Below.drew ?_ | refine below_drewN ?_ _)))).mono ?_; rintro e v1 ⟨rfl, d1⟩; have X1 : Hid (v1.heap[w.heap.size]? = some (.cells #[.int .i64 x.k, .int .i64 x.op, .int .i64 x.rd, .int .i64 q, .int .i64 x.r2, .int .i64 x.im, .string x.s, .int .i64 x.n] 46) ∧ Below w.heap.size w v1) := ⟨keep_row d1 (by first | exact X2.out.1 | exact heap_alloc_new w _), below_then d1 (by repeat (first | exact X2.out.2 | exact below_alloc2 w _ | refine Below.drew ?_ | refine below_drewN ?_ _))⟩; clear d1; have k13 : v1.cell? ⟨w.heap.size, 3, none⟩ = some (.int .i64 q) := cell_of_row v1 w.heap.size 3 _ 46 (0, 0) X1.out.1; have k15 : v1.cell? ⟨w.heap.size, 5, none⟩ = some (.int .i64 x.im) := cell_of_row v1 w.heap.size 5 _ 46 (0, 0) X1.out.1) | (go_at_call 63; refine (HN.out _ (HL.out.below (by repeat (first | exact X1.out.2 | exact below_alloc2 w _ | refine Below.drew ?_ | refine below_drewN ?_ _)))).mono ?_; rintro e v2 ⟨rfl, d2⟩; have X2 : Hid (v2.heap[w.heap.size]? = some (.cells #[.int .i64 x.k, .int .i64 x.op, .int .i64 x.rd, .int .i64 q, .int .i64 x.r2, .int .i64 x.im, .string x.s, .int .i64 x.n] 46) ∧ Below w.heap.size w v2) := ⟨keep_row d2 (by first | exact X1.out.1 | exact heap_alloc_new w _), below_then d2 (by repeat (first | exact X1.out.2 | exact below_alloc2 w _ | refine Below.drew ?_ | refine below_drewN ?_ _))⟩; clear d2; have k23 : v2.cell? ⟨w.heap.size, 3, none⟩ = some (.int .i64 q) := cell_of_row v2 w.heap.size 3 _ 46 (0, 0) X2.out.1; have k25 : v2.cell? ⟨w.heap.size, 5, none⟩ = some (.int .i64 x.im) := cell_of_row v2 w.heap.size 5 _ 46 (0, 0) X2.out.1))
  all_goals
    go_wp2_with fail
    go_ret
    first | exact ⟨rfl, X2.out.2⟩ | exact ⟨rfl, X1.out.2⟩
end Go.Proofs.YtgpmplcamdophaaDoor.W
