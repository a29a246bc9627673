import Derived.Test.YtdplfflkmphpbaaGreatDoorV22
import Derived.Test.YtdplfflkmphpbaaGreatDoorV20
import Derived.Test.YtdplfflkmphpbaaGreatDoorV11
import Derived.Test.YtdplfflkmphpbaaGreatDoorV21
import Derived.Test.YtdplfflkmphpbaaGreatDoorV12
import Derived.Lib.LaidTab
import Derived.Lib.AppendIntMem
set_option linter.unusedVariables false
set_option linter.unusedSimpArgs false
namespace Go.Proofs.YtdplfflkmphpbaaGreatDoor.Pl
theorem Lx.last {s : ByteArray} {i : Nat} {acc : List Tk} {r : List Tk × Int × Int × Int} (h : Lx s i acc r) : r.1 = [] ∨ (r.2.1 = 0 ∧ ∃ l j, r.1 = l ++ [tkEnd s j]) := by
  induction h with
  | opn _ => exact .inl rfl
  | fin _ _ => exact .inr ⟨rfl, _, _, rfl⟩
  | bad _ _ _ => exact .inl rfl
  | many _ _ _ _ => exact .inl rfl
  | go _ _ _ _ _ ih => exact ih
theorem Lx.all {s : ByteArray} {i : Nat} {acc : List Tk} {r : List Tk × Int × Int × Int} (h : Lx s i acc r) (ha : ∀ t ∈ acc, Vt t.k t.S t.N) (hl : acc.length ≤ 6000) : (r.1 = [] ∧ r.2.1 ≠ 0) ∨ (r.2.1 = 0 ∧ ∃ l j, r.1 = l ++ [tkEnd s j] ∧ l.length ≤ 6000 ∧ ∀ t ∈ l, Vt t.k t.S t.N) := by
  induction h with
  | opn _ => exact .inl ⟨rfl, fun q => absurd (show (3 : Int) = 0 from q) (by decide)⟩
  | fin _ _ => exact .inr ⟨rfl, _, _, rfl, hl, ha⟩
  | bad _ _ h => exact .inl ⟨rfl, tokF_f h⟩
  | many _ _ _ _ => exact .inl ⟨rfl, fun q => absurd (show (9 : Int) = 0 from q) (by decide)⟩
  | go hsk hj htf hn _ ih =>
    refine ih (fun t ht => ?_) (by rw [List.length_append, List.length_singleton]; omega)
    rcases List.mem_append.1 ht with q | q
    · exact ha t q
    · rw [List.mem_singleton.1 q]
      exact tokF_vt hj htf
theorem LxAll.all {s : ByteArray} {ts : List Tk} {c l k : Int} (h : W.LxAll s (ts, c, l, k)) : (ts = [] ∧ c ≠ 0) ∨ (c = 0 ∧ ∃ us j, ts = us ++ [tkEnd s j] ∧ us.length ≤ 6000 ∧ ∀ t ∈ us, Vt t.k t.S t.N) := by
  rcases h with ⟨_, h⟩ | ⟨_, h⟩
  · cases h
    exact .inl ⟨rfl, by decide⟩
  · exact h.all (fun t ht => nomatch ht) (Nat.zero_le _)
theorem vt_two {k : Int} {S : ByteArray} {N : Int} (hv : Vt k S N) (l c : Int) : W.LxAll (txtI ⟨k, S, N, l, c⟩) ([⟨k, S, N, 1, 1⟩, tkEnd (txtI ⟨k, S, N, l, c⟩) (txtI ⟨k, S, N, l, c⟩).size], 0, 0, 0) := by
  obtain ⟨z1, z2, _⟩ := vt_size hv l c
  generalize hx : txtI ⟨k, S, N, l, c⟩ = x at *
  obtain ⟨h1, h2, h3, h4, h5⟩ := vt_back hv l c (s := x) (i := 0) (r := []) (.inl rfl) (by rw [hx, List.append_nil]; exact dr_self x)
  rw [hx, Nat.zero_add] at h1
  refine .inr ⟨by omega, ?_⟩
  exact .go (.stop (.inr ⟨h3, h4, h5⟩)) h2 h1 (by decide) (.fin (acc := [⟨k, S, N, ln x 0, cn x 0⟩]) (.stop (.inl (Nat.le_refl _))) rfl)
theorem vt_tt {t : Tk} (hv : Vt t.k t.S t.N) : ttI t = txtI t := by
  refine ttx_yes ?_
  obtain ⟨k, S, N, l, c⟩ := t
  exact ⟨_, _, 0, 0, 0, vt_two hv l c, rfl⟩
noncomputable def outL (ts : List Tk) : List UInt8 := ts.flatMap fun t => (txtI t).data.toList ++ [32]
theorem outL_snoc (ts : List Tk) (t : Tk) : outL (ts ++ [t]) = outL ts ++ ((txtI t).data.toList ++ [32]) := by
  unfold outL
  rw [List.flatMap_append, List.flatMap_singleton]
theorem lx_blank {s : ByteArray} {i : Nat} {acc : List Tk} {r : List Tk × Int × Int × Int} (hi : i < s.size) (hb : blk (byt s i) = true) (h : Lx s (i + 1) acc r) : Lx s i acc r := by
  cases h with
  | opn a => exact .opn (.blank hi hb a)
  | fin a b => exact .fin (.blank hi hb a) b
  | bad a b c => exact .bad (.blank hi hb a) b c
  | many a b c d => exact .many (.blank hi hb a) b c d
  | go a b c d e => exact .go (.blank hi hb a) b c d e
def sameT (a b : Tk) : Prop := a.k = b.k ∧ a.S = b.S ∧ a.N = b.N
inductive SameL : List Tk → List Tk → Prop
  | nil : SameL [] []
  | cons {a b : Tk} {x y : List Tk} : sameT a b → SameL x y → SameL (a :: x) (b :: y)
theorem SameL.snoc {x y : List Tk} {a b : Tk} (h : SameL x y) (hab : sameT a b) : SameL (x ++ [a]) (y ++ [b]) := by
  induction h with
  | nil => exact .cons hab .nil
  | cons h _ ih => exact .cons h ih
theorem SameL.len {x y : List Tk} (h : SameL x y) : x.length = y.length := by
  induction h with
  | nil => rfl
  | cons _ _ ih => simp [ih]
theorem SameL.at {x y : List Tk} (h : SameL x y) : ∀ j, sameT (x.getD j Tk.zero) (y.getD j Tk.zero) := by
  induction h with
  | nil => intro j; exact ⟨rfl, rfl, rfl⟩
  | cons h _ ih =>
    intro j
    cases j with
    | zero => exact h
    | succ j => exact ih j
theorem lx_chain {s : ByteArray} : ∀ (ts : List Tk) (i : Nat) (acc : List Tk), (∀ t ∈ ts, Vt t.k t.S t.N) → acc.length + ts.length ≤ 6000 → i ≤ s.size → Dr s i (outL ts) → ∃ us j, SameL us ts ∧ Lx s i acc (acc ++ us ++ [tkEnd s j], 0, 0, 0) := by
  intro ts
  induction ts with
  | nil =>
    intro i acc _ _ hi h
    refine ⟨[], i, .nil, ?_⟩
    rw [List.append_nil]
    have : s.size ≤ i := Dr.nil h
    exact .fin (.stop (.inl this)) (by omega)
  | cons t ts ih =>
    intro i acc hv hn hi h
    have hvt := hv t (by simp)
    obtain ⟨k, S, N, l, c⟩ := t
    unfold outL at h
    rw [List.flatMap_cons, List.append_assoc] at h
    obtain ⟨h1, h2, h3, h4, h5⟩ := vt_back hvt l c (.inr ⟨_, rfl⟩) h
    have h6 := Dr.app h
    rw [← sz_len] at h6
    have h7 : Dr s (i + (txtI ⟨k, S, N, l, c⟩).size + 1) (outL ts) := Dr.tl h6
    have h8 : i + (txtI ⟨k, S, N, l, c⟩).size < s.size := Dr.lt h6
    rw [List.length_cons] at hn
    obtain ⟨us, j, hs, hL⟩ := ih _ (acc ++ [⟨k, S, N, ln s i, cn s i⟩]) (fun t ht => hv t (List.mem_cons_of_mem _ ht)) (by rw [List.length_append, List.length_singleton]; omega) (by omega) h7
    refine ⟨⟨k, S, N, ln s i, cn s i⟩ :: us, j, .cons ⟨rfl, rfl, rfl⟩ hs, ?_⟩
    refine .go (.stop (.inr ⟨h3, h4, h5⟩)) h2 h1 (by omega) (lx_blank h8 (by rw [show byt s (i + (txtI ⟨k, S, N, l, c⟩).size) = 32 from Dr.b0 h6]; decide) ?_)
    rw [List.append_assoc, List.append_assoc] at hL
    rw [List.append_assoc]
    exact hL
theorem back_read {s s' : ByteArray} {us : List Tk} {j : Nat} (hv : ∀ t ∈ us, Vt t.k t.S t.N) (hl : us.length ≤ 6000) (hs : s' = ⟨(outL us).toArray⟩) (hsz : s'.size ≤ 20000) {ts : List Tk} {c l k : Int} (hx : W.LxAll s' (ts, c, l, k)) : c = 0 ∧ ts.length = (us ++ [tkEnd s j]).length ∧ ∀ i, sameT (ts.getD i Tk.zero) ((us ++ [tkEnd s j]).getD i Tk.zero) := by
  have hd : Dr s' 0 (outL us) := by rw [hs]; unfold Dr; rw [List.drop_zero]
  obtain ⟨vs, j', hS, hL⟩ := lx_chain us 0 [] hv (by simpa using hl) (Nat.zero_le _) hd
  have e := W.LxAll.fn hx (.inr ⟨hsz, hL⟩)
  cases e
  rw [List.nil_append]
  have hS2 : SameL (vs ++ [tkEnd s' j']) (us ++ [tkEnd s j]) := hS.snoc ⟨rfl, rfl, rfl⟩
  exact ⟨rfl, hS2.len, hS2.at⟩
end Go.Proofs.YtdplfflkmphpbaaGreatDoor.Pl
namespace Go.Proofs.YtdplfflkmphpbaaGreatDoor.Pl
def dsL : List (List UInt8) := [[], [117], [97, 32, 98], [48], [105, 110, 116], [10], [120, 34], [99]]
def diL : List Int := [1, 0, 16909060, 65536]
def m8 (m : Nat) : Nat := m % 8
def d7 (k : Nat) : Nat := k / 7
def q4 (k : Nat) : Nat := k / 7 % 4
def dS (m : Nat) : ByteArray := ⟨(dsL.getD (m8 m) []).toArray⟩
def dI (k : Nat) : Int := diL.getD (q4 k) 0
end Go.Proofs.YtdplfflkmphpbaaGreatDoor.Pl
namespace Go.Proofs.YtdplfflkmphpbaaGreatDoor.W
open Go.RowKit
def DtW (c : Nat) (u3 : World) (k sb ib pb m1 m2 : Nat) (L : Array Bool) (w : World) : Prop := (OnlyX c u3 w ∧ RdOk w c) ∧ (up L 2 = true → up L 19 = false → u3.heap.size ≤ sb ∧ w.heap[sb]? = some (.cells #[.string ⟨#[]⟩, .string ⟨#[117]⟩, .string ⟨#[97, 32, 98]⟩, .string ⟨#[48]⟩, .string ⟨#[105, 110, 116]⟩, .string ⟨#[10]⟩, .string ⟨#[120, 34]⟩, .string ⟨#[99]⟩] 9)) ∧ (up L 10 = true → up L 19 = false → u3.heap.size ≤ ib ∧ w.heap[ib]? = some (.cells #[.int .i64 1, .int .i64 0, .int .i64 16909060, .int .i64 65536] 3)) ∧ (up L 18 = true → u3.heap.size ≤ pb ∧ w.heap[pb]? = some (.cells (bif up L 19 then #[.int .i64 ((k : Int) % 7), .string (Pl.dS m1), .int .i64 ((m2 : Int) * Pl.dI k), .int .i64 0, .int .i64 0] else #[.int .i64 0, .string ⟨#[]⟩, .int .i64 0, .int .i64 0, .int .i64 0]) 34)) ∧ (up L 4 = true → m1 ≤ 255) ∧ (up L 9 = true → m2 ≤ 255)
theorem DtW.keep {c : Nat} {u3 : World} {k sb ib pb m1 m2 : Nat} {L : Array Bool} {w : World} (h : DtW c u3 k sb ib pb m1 m2 L w) {i : Nat} (hi : i < L.size) (n2 : i ≠ 2) (n10 : i ≠ 10) (n18 : i ≠ 18) (n19 : i ≠ 19) (n4 : i ≠ 4) (n9 : i ≠ 9) : DtW c u3 k sb ib pb m1 m2 (L.setIfInBounds i true) w := by
  unfold DtW at h ⊢
  rw [up_set hi, up_set hi, up_set hi, up_set hi, up_set hi, up_set hi, if_neg n2, if_neg n10, if_neg n18, if_neg n19, if_neg n4, if_neg n9]
  exact h
theorem DtW.m1 {c : Nat} {u3 : World} {k sb ib pb m1 m2 x : Nat} {L : Array Bool} {w : World} (h : DtW c u3 k sb ib pb m1 m2 L w) (hi : 4 < L.size) (n19 : up L 19 = false) (hx : x ≤ 255) : DtW c u3 k sb ib pb x m2 (L.setIfInBounds 4 true) w := by
  unfold DtW at h ⊢
  rw [up_set hi, up_set hi, up_set hi, up_set hi, up_set hi, up_set hi, if_neg (by decide), if_neg (by decide), if_neg (by decide), if_neg (by decide), if_pos rfl, if_neg (by decide)]
  rw [n19] at h ⊢
  exact ⟨h.1, h.2.1, h.2.2.1, h.2.2.2.1, fun _ => hx, h.2.2.2.2.2⟩
theorem DtW.m2 {c : Nat} {u3 : World} {k sb ib pb m1 m2 x : Nat} {L : Array Bool} {w : World} (h : DtW c u3 k sb ib pb m1 m2 L w) (hi : 9 < L.size) (n19 : up L 19 = false) (hx : x ≤ 255) : DtW c u3 k sb ib pb m1 x (L.setIfInBounds 9 true) w := by
  unfold DtW at h ⊢
  rw [up_set hi, up_set hi, up_set hi, up_set hi, up_set hi, up_set hi, if_neg (by decide), if_neg (by decide), if_neg (by decide), if_neg (by decide), if_neg (by decide), if_pos rfl]
  rw [n19] at h ⊢
  exact ⟨h.1, h.2.1, h.2.2.1, h.2.2.2.1, h.2.2.2.2.1, fun _ => hx⟩
theorem DtW.sb {c : Nat} {u3 : World} {k sb ib pb m1 m2 x : Nat} {L : Array Bool} {w : World} (h : DtW c u3 k sb ib pb m1 m2 L w) (hi : 2 < L.size) (hx : u3.heap.size ≤ x) (hr : w.heap[x]? = some (.cells #[.string ⟨#[]⟩, .string ⟨#[117]⟩, .string ⟨#[97, 32, 98]⟩, .string ⟨#[48]⟩, .string ⟨#[105, 110, 116]⟩, .string ⟨#[10]⟩, .string ⟨#[120, 34]⟩, .string ⟨#[99]⟩] 9)) : DtW c u3 k x ib pb m1 m2 (L.setIfInBounds 2 true) w := by
  unfold DtW at h ⊢
  rw [up_set hi, up_set hi, up_set hi, up_set hi, up_set hi, up_set hi, if_pos rfl, if_neg (by decide), if_neg (by decide), if_neg (by decide), if_neg (by decide), if_neg (by decide)]
  exact ⟨h.1, fun _ _ => ⟨hx, hr⟩, h.2.2⟩
theorem DtW.ib {c : Nat} {u3 : World} {k sb ib pb m1 m2 x : Nat} {L : Array Bool} {w : World} (h : DtW c u3 k sb ib pb m1 m2 L w) (hi : 10 < L.size) (hx : u3.heap.size ≤ x) (hr : w.heap[x]? = some (.cells #[.int .i64 1, .int .i64 0, .int .i64 16909060, .int .i64 65536] 3)) : DtW c u3 k sb x pb m1 m2 (L.setIfInBounds 10 true) w := by
  unfold DtW at h ⊢
  rw [up_set hi, up_set hi, up_set hi, up_set hi, up_set hi, up_set hi, if_neg (by decide), if_neg (by decide), if_pos rfl, if_neg (by decide), if_neg (by decide), if_neg (by decide)]
  exact ⟨h.1, h.2.1, fun _ _ => ⟨hx, hr⟩, h.2.2.2⟩
theorem DtW.pb {c : Nat} {u3 : World} {k sb ib pb m1 m2 x : Nat} {L : Array Bool} {w : World} (h : DtW c u3 k sb ib pb m1 m2 L w) (hi : 18 < L.size) (n19 : up L 19 = false) (hx : u3.heap.size ≤ x) (hr : w.heap[x]? = some (.cells #[.int .i64 0, .string ⟨#[]⟩, .int .i64 0, .int .i64 0, .int .i64 0] 34)) : DtW c u3 k sb ib x m1 m2 (L.setIfInBounds 18 true) w := by
  unfold DtW at h ⊢
  rw [up_set hi, up_set hi, up_set hi, up_set hi, up_set hi, up_set hi, if_neg (by decide), if_neg (by decide), if_neg (by decide), if_pos rfl, if_neg (by decide), if_neg (by decide), n19]
  rw [n19] at h
  exact ⟨h.1, h.2.1, h.2.2.1, fun _ => ⟨hx, hr⟩, h.2.2.2.2⟩
theorem DtW.done {c : Nat} {u3 : World} {k sb ib pb m1 m2 : Nat} {L : Array Bool} {w w' : World} (h : DtW c u3 k sb ib pb m1 m2 L w) (hi : 19 < L.size) (hb : OnlyX c u3 w') (hrd : RdOk w' c) (h4 : up L 4 = true) (h9 : up L 9 = true) (hx : u3.heap.size ≤ pb) (hr : w'.heap[pb]? = some (.cells #[.int .i64 ((k : Int) % 7), .string (Pl.dS m1), .int .i64 ((m2 : Int) * Pl.dI k), .int .i64 0, .int .i64 0] 34)) : DtW c u3 k sb ib pb m1 m2 (L.setIfInBounds 19 true) w' := by
  unfold DtW at h ⊢
  rw [up_set hi, up_set hi, up_set hi, up_set hi, up_set hi, up_set hi, if_neg (by decide), if_pos rfl, if_neg (by decide), if_neg (by decide), if_neg (by decide), if_neg (by decide)]
  exact ⟨⟨hb, hrd⟩, fun _ q => (by cases q), fun _ q => (by cases q), fun _ => ⟨hx, hr⟩, h.2.2.2.2⟩
end Go.Proofs.YtdplfflkmphpbaaGreatDoor.W
namespace Go.Proofs.YtdplfflkmphpbaaGreatDoor.W
open Go.RowKit
def PowLies (w : World) : Prop := Lib.TabIs Tryz.prog w "internal/strconv.uint64pow10" .u64 Lib.pow10Tab
theorem tab_belowT {n : String} {g : Nat} {k : IntKind} {zs : List Int} {w w' : World} (hg : Tryz.prog.globalNamed n = some g) (h : Lib.TabIs Tryz.prog w n k zs) (hb : Below w.heap.size w w') : Lib.TabIs Tryz.prog w' n k zs := by
  unfold Lib.TabIs World.var? at h ⊢
  rw [hg] at h ⊢
  simp only [Option.bind_some] at h ⊢
  have hlt : g < w.heap.size := by
    rcases Nat.lt_or_ge g w.heap.size with h' | h'
    · exact h'
    · rw [Array.getElem?_eq_none h'] at h; cases h
  rw [hb.block g hlt]
  exact h
theorem PowLies.below {w w' : World} (h : PowLies w) (hb : Below w.heap.size w w') : PowLies w' := tab_belowT (g := 1) (by kernel_rfl) h hb
theorem itoa_is (n : Int) (h0 : -9223372036854775808 ≤ n) (h1 : n ≤ 9223372036854775807) (w : World) (h : PowLies w) : Calls Tryz.prog 64 #[.int .i64 n] w fun e w' => e = .returned (.string (Pl.num n)) ∧ Below w.heap.size w w' :=
  (Tryz.strconv_Itoa n h0 h1 w h).mono fun e w' ⟨he, k, os, hw⟩ => ⟨he, hw ▸ Lib.below_grow _ w (Nat.le_refl _) k os⟩
theorem clone_is (s : ByteArray) (hs : s.size ≤ 1048576) (w : World) : Calls Tryz.prog 50 #[.string s] w fun e w' => e = .returned (.string s) ∧ Below w.heap.size w w' := by
  go_enter Tryz.func50, Tryz.ntmps50
  go_wp2_with (go_at_call 63; refine (Tryz.stringslite_Clone s _ (by omega)).mono ?_; rintro e u1 ⟨rfl, d1⟩)
  go_ret
  exact ⟨rfl, d1⟩
theorem qt_one (b : Nat) (hb : b < 256) : Pl.qt ⟨#[UInt8.ofNat b]⟩ 39 = Pl.chr b := by
  have e : (UInt8.ofNat b).toNat = b := by simp; omega
  unfold Pl.qt Pl.qc Pl.chr
  show (⟨((UInt8.ofNat 39 :: (List.take 1 [UInt8.ofNat b]).flatMap _) ++ [UInt8.ofNat 39]).toArray⟩ : ByteArray) = _
  simp [e]
theorem str_lit {a : ByteArray} {l : List UInt8} (h : a = ⟨l.toArray⟩) : (a.toList == l) = true := by rw [h, ByteArray.toList_eq]; exact beq_self_eq_true _
theorem str_nlit {a : ByteArray} {l : List UInt8} (h : a ≠ ⟨l.toArray⟩) : (a.toList == l) = false := by
  rw [ByteArray.toList_eq, Bool.eq_false_iff]
  intro q
  exact h (Go.WideShapes.bytes_inj (by simpa using q))
theorem num_size20 (n : Int) (h0 : -9223372036854775808 ≤ n) (h1 : n ≤ 9223372036854775807) : (Pl.num n).size ≤ 20 := by
  rcases Int.lt_or_le n 0 with q | q
  · have key : ∀ (m u : Nat), u < 10 ^ (m + 1) → (Lib.decDigits u).length ≤ m + 1 := by
      intro m
      induction m with
      | zero => intro u h; rw [Pl.dig_small (by simpa using h)]; simp
      | succ m ih =>
        intro u h
        by_cases h' : u < 10
        · rw [Pl.dig_small h']; simp
        · rw [Pl.dig_big h']
          rw [Nat.pow_succ] at h
          have := ih (u / 10) (by omega)
          simp
          omega
    rw [Pl.num_neg q]
    have := key 18 n.natAbs (by omega)
    simp [ByteArray.size]
    omega
  · have := Pl.num_size19 n q h1
    omega
theorem one_byte {w : World} {b : Nat} {n : Int} {o : Obj} (hb : (b : Int) = n % 256) (h2 : b < 256) (j : Nat) (h : j < (⟨#[UInt8.ofNat b]⟩ : ByteArray).size) : ((w.alloc o).alloc (.cells #[.int .u8 (n % 256)] 5)).cell? ⟨w.heap.size + 1, j, none⟩ = some (.int .u8 (((⟨#[UInt8.ofNat b]⟩ : ByteArray)[j]'h).toNat : Int)) := by
  obtain rfl : j = 0 := by
    have : (⟨#[UInt8.ofNat b]⟩ : ByteArray).size = 1 := rfl
    omega
  have e : (((⟨#[UInt8.ofNat b]⟩ : ByteArray)[0]'h).toNat : Int) = n % 256 := by
    show ((UInt8.ofNat b).toNat : Int) = _
    simp
    omega
  rw [e]
  simp
set_option maxRecDepth 8000 in
set_option maxHeartbeats 4000000 in
theorem integerText_is (t : Pl.Tk) (h0 : -9223372036854775808 ≤ t.N) (h1 : t.N ≤ 9223372036854775807) (w : World) (hd : DbLies w) (hp : PowLies w) : Calls Tryz.prog 51 #[.agg #[.int .i64 t.k, .string t.S, .int .i64 t.N, .int .i64 t.l, .int .i64 t.c]] w fun e w' => e = .returned (.string (if t.S = ⟨#[99]⟩ then Pl.chr (t.N % 256).toNat else if t.S = ⟨#[117]⟩ then Pl.num t.N ++ ⟨#[117]⟩ else Pl.num t.N)) ∧ Below w.heap.size w w' := by
  have HD : Hid (DbLies w) := hd
  have HP : Hid (PowLies w) := hp
  clear hd hp
  by_cases hc : t.S = ⟨#[99]⟩
  · rw [if_pos hc]
    have e1 : (t.S.toList == [99]) = true := str_lit hc
    obtain ⟨b, hb⟩ : ∃ b : Nat, (b : Int) = t.N % 256 := ⟨(t.N % 256).toNat, by omega⟩
    have hb2 : b < 256 := by omega
    have HB : Hid ((b : Int) = t.N % 256) := hb
    have eb : (t.N % 256).toNat = b := by omega
    rw [eb]
    clear hc hb eb
    have B1 : Hid (Below w.heap.size w ((w.alloc (.cells #[.int .i64 t.k, .string t.S, .int .i64 t.N, .int .i64 t.l, .int .i64 t.c] 34)).alloc (.cells #[.int .u8 (t.N % 256)] 5))) := ((below_allocL w _).trans ((below_allocL _ _).mono (by simp)))
    go_enter Tryz.func51, Tryz.ntmps51
    go_wp2_with (go_at_call 38; (refine (quote_any ⟨#[UInt8.ofNat b]⟩ (by show 1 ≤ 1048576; decide) 39 (.inr rfl) (w.heap.size + 1) 1 ((w.alloc (.cells #[.int .i64 t.k, .string t.S, .int .i64 t.N, .int .i64 t.l, .int .i64 t.c] 34)).alloc (.cells #[.int .u8 (t.N % 256)] 5)) (HD.out.below B1.out) (by simp) (fun j h => one_byte HB.out hb2 j h)).mono ?_); rintro e u1 ⟨rfl, d1⟩)
    go_ret
    exact ⟨by rw [qt_one b hb2]; rfl, B1.out.trans (d1.mono B1.out.size)⟩
  rw [if_neg hc]
  have e1 : (t.S.toList == [99]) = false := str_nlit hc
  have hns := num_size20 t.N h0 h1
  have hcat2 : ¬ (9223372036854775807 < (Pl.num t.N).size + 1) := by omega
  have HNB : Hid (-9223372036854775808 ≤ t.N ∧ t.N ≤ 9223372036854775807) := ⟨h0, h1⟩
  clear hc h0 h1
  by_cases hu : t.S = ⟨#[117]⟩
  · rw [if_pos hu]
    have e2 : (t.S.toList == [117]) = true := str_lit hu
    clear hu
    go_enter Tryz.func51, Tryz.ntmps51
    go_wp2_with (go_at_call 64; refine (itoa_is t.N HNB.out.1 HNB.out.2 _ (HP.out.below (below_allocL _ _))).mono ?_; rintro e u1 ⟨rfl, d1⟩)
    go_ret
    exact ⟨rfl, (below_allocL w _).trans (d1.mono (by simp))⟩
  · rw [if_neg hu]
    have e2 : (t.S.toList == [117]) = false := str_nlit hu
    clear hu
    go_enter Tryz.func51, Tryz.ntmps51
    go_wp2_with (go_at_call 64; refine (itoa_is t.N HNB.out.1 HNB.out.2 _ (HP.out.below (below_allocL _ _))).mono ?_; rintro e u1 ⟨rfl, d1⟩)
    go_ret
    exact ⟨rfl, (below_allocL w _).trans (d1.mono (by simp))⟩
set_option maxRecDepth 8000 in
set_option maxHeartbeats 4000000 in
theorem textFor_is (t : Pl.Tk) (h0 : -9223372036854775808 ≤ t.N) (h1 : t.N ≤ 9223372036854775807) (hS : t.S.size ≤ 1048576) (w : World) (hd : DbLies w) (hp : PowLies w) : Calls Tryz.prog 34 #[.agg #[.int .i64 t.k, .string t.S, .int .i64 t.N, .int .i64 t.l, .int .i64 t.c]] w fun e w' => e = .returned (.string (Pl.txtI t)) ∧ Below w.heap.size w w' := by
  have HD : Hid (DbLies w) := hd
  have HP : Hid (PowLies w) := hp
  have HNB : Hid (-9223372036854775808 ≤ t.N ∧ t.N ≤ 9223372036854775807) := ⟨h0, h1⟩
  have c0 : (w.alloc (.cells #[.int .i64 t.k, .string t.S, .int .i64 t.N, .int .i64 t.l, .int .i64 t.c] 34)).cell? ⟨w.heap.size, 0, none⟩ = some (.int .i64 t.k) := cell_of_row _ _ 0 _ 34 (0, 0) (heap_alloc_new w _)
  clear hd hp h0 h1
  unfold Pl.txtI
  have fin : ∀ (k1 k2 k5 k3 k4 : Bool), (t.k == 1) = k1 → (t.k == 2) = k2 → (t.k == 5) = k5 → (t.k == 3) = k3 → (t.k == 4) = k4 → True := fun _ _ _ _ _ _ _ _ _ _ => trivial
  clear fin
  by_cases hw : t.k = 1 ∨ t.k = 2 ∨ t.k = 5
  · rw [if_pos hw]
    rcases hw with hk | hk | hk
    · have hk' := hk
      have k1 : (t.k == 1) = true := by simp [hk]
      have k2 : (t.k == 2) = false := by simp [hk]
      have k5 : (t.k == 5) = false := by simp [hk]
      clear hk hk'
      go_enter Tryz.func34, Tryz.ntmps34
      go_wp2_with (go_at_call 50; refine (clone_is t.S hS _).mono ?_; rintro e u1 ⟨rfl, d1⟩)
      go_ret
      exact ⟨rfl, (below_allocL w _).trans (d1.mono (by simp))⟩
    · have hk' := hk
      have k1 : (t.k == 1) = false := by simp [hk]
      have k2 : (t.k == 2) = true := by simp [hk]
      have k5 : (t.k == 5) = false := by simp [hk]
      clear hk hk'
      go_enter Tryz.func34, Tryz.ntmps34
      go_wp2_with (go_at_call 50; refine (clone_is t.S hS _).mono ?_; rintro e u1 ⟨rfl, d1⟩)
      go_ret
      exact ⟨rfl, (below_allocL w _).trans (d1.mono (by simp))⟩
    · have hk' := hk
      have k1 : (t.k == 1) = false := by simp [hk]
      have k2 : (t.k == 2) = false := by simp [hk]
      have k5 : (t.k == 5) = true := by simp [hk]
      clear hk hk'
      go_enter Tryz.func34, Tryz.ntmps34
      go_wp2_with (go_at_call 50; refine (clone_is t.S hS _).mono ?_; rintro e u1 ⟨rfl, d1⟩)
      go_ret
      exact ⟨rfl, (below_allocL w _).trans (d1.mono (by simp))⟩
  rw [if_neg hw]
  have k1 : (t.k == 1) = false := by simp; omega
  have k2 : (t.k == 2) = false := by simp; omega
  have k5 : (t.k == 5) = false := by simp; omega
  clear hw
  by_cases h3 : t.k = 3
  · rw [if_pos h3]
    have k3 : (t.k == 3) = true := by simp [h3]
    clear h3
    have HI : Hid (∀ u : World, Below w.heap.size w u → Calls Tryz.prog 51 #[.agg #[.int .i64 t.k, .string t.S, .int .i64 t.N, .int .i64 t.l, .int .i64 t.c]] u fun e w' => e = .returned (.string (if t.S = ⟨#[99]⟩ then Pl.chr (t.N % 256).toNat else if t.S = ⟨#[117]⟩ then Pl.num t.N ++ ⟨#[117]⟩ else Pl.num t.N)) ∧ Below u.heap.size u w') := fun u hu => integerText_is t HNB.out.1 HNB.out.2 u (HD.out.below hu) (HP.out.below hu)
    generalize (if t.S = ⟨#[99]⟩ then Pl.chr (t.N % 256).toNat else if t.S = ⟨#[117]⟩ then Pl.num t.N ++ ⟨#[117]⟩ else Pl.num t.N) = X at *
    go_enter Tryz.func34, Tryz.ntmps34
    go_wp2_with (first | (go_at_call 51; refine (HI.out _ (below_allocL _ _)).mono ?_; rintro e u1 ⟨rfl, d1⟩) | (refine wpList_load_row rfl 34 _ rfl w.heap.size ?hx 34 #[.int .i64 t.k, .string t.S, .int .i64 t.N, .int .i64 t.l, .int .i64 t.c] (0, 0) _ ?hg Tryz.underlying34 ?hd ?hi ?_; (case hx => rfl); (case hg => exact heap_alloc_new w _); (case hd => rfl); (case hi => kernel_rfl)))
    go_ret
    exact ⟨rfl, (below_allocL w _).trans (d1.mono (by simp))⟩
  rw [if_neg h3]
  have k3 : (t.k == 3) = false := by simpa using h3
  clear h3
  by_cases h4 : t.k = 4
  · rw [if_pos h4]
    have k4 : (t.k == 4) = true := by simp [h4]
    clear h4
    go_enter Tryz.func34, Tryz.ntmps34
    go_wp2_with (go_at_call 22; refine (implQuote_any t.S hS _ (HD.out.below (below_allocL _ _))).mono ?_; rintro e u1 ⟨rfl, d1⟩)
    go_ret
    exact ⟨rfl, (below_allocL w _).trans (d1.mono (by simp))⟩
  · rw [if_neg h4]
    have k4 : (t.k == 4) = false := by simpa using h4
    clear h4
    go_enter Tryz.func34, Tryz.ntmps34
    go_wp2_with fail
    go_ret
    exact ⟨rfl, below_allocL w _⟩
end Go.Proofs.YtdplfflkmphpbaaGreatDoor.W
namespace Go.Proofs.YtdplfflkmphpbaaGreatDoor.W
open Go.RowKit
end Go.Proofs.YtdplfflkmphpbaaGreatDoor.W
