import Derived.Test.YtdplfflkmphpbaaGreatDoorU20
import Derived.Test.YtdplfflkmphpbaaGreatDoorU21
import Derived.Test.YtdplfflkmphpbaaGreatDoorU09
import Derived.Test.YtdplfflkmphpbaaGreatDoorU11
import Derived.Test.YtdplfflkmphpbaaGreatDoorU12
import Derived.Lib.LaidTab
import Derived.Lib.AppendIntMem
set_option linter.unusedVariables false
set_option linter.unusedSimpArgs false
namespace Go.Proofs.YtdplfflkmphpbaaGreatDoor.Pl
theorem num_size19 (n : Int) (h0 : 0 ≤ n) (h : n ≤ 9223372036854775807) : (num n).size ≤ 19 := by
  have key : ∀ (m u : Nat), u < 10 ^ (m + 1) → (Lib.decDigits u).length ≤ m + 1 := by
    intro m
    induction m with
    | zero => intro u h; rw [dig_small (by simpa using h)]; simp
    | succ m ih =>
      intro u h
      by_cases h' : u < 10
      · rw [dig_small h']; simp
      · rw [dig_big h']
        rw [Nat.pow_succ] at h
        have := ih (u / 10) (by omega)
        simp
        omega
  rw [num_nat h0]
  have := key 18 n.toNat (by omega)
  simpa [ByteArray.size] using this
end Go.Proofs.YtdplfflkmphpbaaGreatDoor.Pl
namespace Go.Proofs.YtdplfflkmphpbaaGreatDoor.W
open Go.RowKit
theorem str_ne {a b : ByteArray} (h : a ≠ b) : (a.toList == b.toList) = false := by
  rw [ByteArray.toList_eq, ByteArray.toList_eq, Bool.eq_false_iff]
  intro q
  exact h (Go.WideShapes.bytes_inj (by simpa using q))
theorem str_eq {a b : ByteArray} (h : a = b) : (a.toList == b.toList) = true := by rw [h]; exact beq_self_eq_true _
theorem str_back (x : ByteArray) : strOfNums (x.data.toList.map fun b => (b.toNat : Int)) = x := by
  apply ByteArray.ext
  show (List.map _ _).toArray = _
  rw [List.map_map]
  have : (fun n : Int => UInt8.ofNat n.toNat) ∘ (fun b : UInt8 => (b.toNat : Int)) = id := by
    funext b
    simp
  rw [this]
  simp
theorem back_bytes (u : World) (x : ByteArray) (cap : Nat) : ∀ u' : World, Below (Lib.bytesWorld u 5 x).heap.size (Lib.bytesWorld u 5 x) u' → (convert 22 9 (.slice (some ⟨u.heap.size, 0, none⟩) x.size cap)).run Tryz.prog u' = .ok (.string x) u' := by
  intro u' hb
  have h := run_convert_bytes_arg (P := Tryz.prog) u' 22 5 Tryz.underlying22 Tryz.underlying5 u.heap.size 0 x.size cap (x.data.toList.map fun b => (b.toNat : Int)) (by rw [List.length_map, Array.length_toList]; rfl) (fun i hi => by
    rw [Nat.zero_add, hb.cell (p := ⟨u.heap.size, i, none⟩) (by show u.heap.size < _; rw [Lib.bytesWorld_size]; omega), Lib.bytesWorld_cell u 5 x i hi]
    have hl : i < x.data.toList.length := by rw [Array.length_toList]; exact hi
    simp [List.getD, List.getElem?_eq_getElem hl]) 9 Tryz.underlying9
  rw [str_back] at h
  exact h
theorem back_at (u : World) (x : ByteArray) (g : Nat) (hg : g = u.heap.size) (cap : Nat) : ∀ u' : World, Below (Lib.bytesWorld u 5 x).heap.size (Lib.bytesWorld u 5 x) u' → (convert 22 9 (.slice (some ⟨g, 0, none⟩) x.size cap)).run Tryz.prog u' = .ok (.string x) u' := by
  subst hg
  exact back_bytes u x cap
theorem two_no {x : ByteArray} {P : Pl.Tk → Prop} {ts : List Pl.Tk} {c l k : Int} (h : LxAll x (ts, c, l, k)) (hn : ∀ t0 t1, ts = [t0, t1] → c = 0 → ¬ P t0) : Pl.ttx x P = ⟨#[]⟩ := Pl.ttx_no fun ⟨t0, t1, c', l', k', h', hp⟩ => by
  have e := h.fn h'
  cases e
  exact hn t0 t1 rfl (Pl.lx_two h').1 hp
theorem two_yes {x : ByteArray} {P : Pl.Tk → Prop} {t0 t1 : Pl.Tk} {c l k : Int} (h : LxAll x ([t0, t1], c, l, k)) (hp : P t0) : Pl.ttx x P = x := Pl.ttx_yes ⟨t0, t1, c, l, k, h, hp⟩
theorem len_two {ts : List Pl.Tk} (h : ts.length = 2) : ∃ t0 t1, ts = [t0, t1] := by
  match ts, h with
  | [a, b], _ => exact ⟨a, b, rfl⟩
theorem tk_eq {a b : Pl.Tk} (h1 : a.k = b.k) (h2 : a.S = b.S) (h3 : a.N = b.N) (h4 : a.l = b.l) (h5 : a.c = b.c) : a = b := by
  cases a; cases b; simp only at h1 h2 h3 h4 h5; subst h1 h2 h3 h4 h5; rfl
set_option maxRecDepth 8000 in
set_option maxHeartbeats 2000000 in
theorem specDec_is (k : Int) (hk : 0 ≤ k ∧ k ≤ 9223372036854775807) (w : World) : Calls Tryz.prog 35 #[.int .i64 k] w fun e w' => e = .returned (.string (Pl.num k)) ∧ Below w.heap.size w w' := by
  have hneg : ¬ k < 0 := by omega
  go_enter Tryz.func35, Tryz.ntmps35
  go_wp2_with fail
  go_loopw [0, 3] (fun x v wr => ∃ (n : Int) (s : ByteArray) (m : Nat), x = .int .i64 n ∧ v = .string s ∧ 0 ≤ n ∧ n ≤ 9223372036854775807 ∧ n < 10 ^ m ∧ s.size + m ≤ 19 ∧ Lib.decDigits n.toNat ++ s.data.toList = Lib.decDigits k.toNat ∧ Below w.heap.size w wr) (fun x _ _ => (intOf x).toNat)
  case atStart => exact ⟨k, ⟨#[]⟩, 19, rfl, rfl, hk.1, hk.2, by omega, by decide, by simp, Below.refl _ _⟩
  case round =>
    obtain ⟨n, s, m, rfl, rfl, hn0, hn1, hnm, hsm, hdg, hbel⟩ := hrel
    have HB : Hid (Below w.heap.size w wr) := hbel
    have HM : Hid (n < 10 ^ m) := hnm
    have HD : Hid (Lib.decDigits n.toNat ++ s.data.toList = Lib.decDigits k.toNat) := hdg
    clear hbel hnm hdg
    have hcv := conv_oneH wr
    by_cases hp : 10 ≤ n
    · go_wp2
      go_roundw
      case rel =>
        obtain ⟨m, rfl⟩ : ∃ m', m = m' + 1 := by
          rcases m with _ | m
          · have := HM.out; simp at this; omega
          · exact ⟨m, rfl⟩
        have hq : n / 10 < 10 ^ m := by
          have := HM.out
          rw [Int.pow_succ] at this
          omega
        refine ⟨n / 10, _, m, by go_num, rfl, by omega, by omega, hq, by simp; omega, ?_, HB.out.trans ((below_allocL wr _).mono HB.out.size)⟩
        have h1 := HD.out
        rw [Pl.dig_big (by omega)] at h1
        rw [← h1]
        have e1 : (n / 10).toNat = n.toNat / 10 := by omega
        have e2 : (48 + n % 10).toNat = 48 + n.toNat % 10 := by omega
        rw [e1]
        simp [ByteArray.data_append, e2]
      case measure => simp [intOf]; omega
    · go_wp2
      go_ret
      refine ⟨?_, HB.out.trans ((below_allocL wr _).mono HB.out.size)⟩
      have h1 := HD.out
      rw [Pl.dig_small (by omega)] at h1
      rw [Pl.num_nat hk.1, ← h1]
      have e2 : (48 + n).toNat = 48 + n.toNat := by omega
      rw [e2]
      congr 2
def TtSaid (t : Pl.Tk) (x : ByteArray) (w : World) (e : Ending) (w' : World) : Prop := e = .returned (.string (Pl.ttx x (Pl.Ps t))) ∧ Below w.heap.size w w'
theorem ret_no {x : ByteArray} {P : Pl.Tk → Prop} {ts : List Pl.Tk} {c l k : Int} (h : LxAll x (ts, c, l, k)) (hn : ∀ t0 t1, ts = [t0, t1] → c = 0 → ¬ P t0) : Ending.returned (.string ⟨#[]⟩) = .returned (.string (Pl.ttx x P)) := by rw [two_no h hn]
theorem ret_yes {x : ByteArray} {P : Pl.Tk → Prop} {t0 t1 : Pl.Tk} {c l k : Int} (h : LxAll x ([t0, t1], c, l, k)) (hp : P t0) : Ending.returned (.string x) = .returned (.string (Pl.ttx x P)) := by rw [two_yes h hp]
end Go.Proofs.YtdplfflkmphpbaaGreatDoor.W
namespace Go.Proofs.YtdplfflkmphpbaaGreatDoor.Pl
/-! A token's text read back, wherever it stands -/
def Dr (s : ByteArray) (i : Nat) (l : List UInt8) : Prop := s.data.toList.drop i = l
theorem sz_len (s : ByteArray) : s.size = s.data.toList.length := by rw [Array.length_toList]; rfl
theorem Dr.lt {s : ByteArray} {i : Nat} {c : UInt8} {l : List UInt8} (h : Dr s i (c :: l)) : i < s.size := by
  rw [sz_len]
  rcases Nat.lt_or_ge i s.data.toList.length with q | q
  · exact q
  · unfold Dr at h
    rw [List.drop_eq_nil_of_le q] at h
    cases h
theorem Dr.len {s : ByteArray} {i : Nat} {l : List UInt8} (h : Dr s i l) : l.length = s.size - i := by
  unfold Dr at h
  rw [← h, List.length_drop, sz_len]
theorem Dr.at {s : ByteArray} {i : Nat} {l : List UInt8} (h : Dr s i l) (j : Nat) : byt s (i + j) = ((l.getD j 0).toNat : Int) := by
  unfold Dr at h
  unfold byt
  rw [← h, List.getD_eq_getElem?_getD, List.getD_eq_getElem?_getD, List.getElem?_drop]
theorem Dr.b0 {s : ByteArray} {i : Nat} {c : UInt8} {l : List UInt8} (h : Dr s i (c :: l)) : byt s i = (c.toNat : Int) := h.at 0
theorem Dr.b1 {s : ByteArray} {i : Nat} {c d : UInt8} {l : List UInt8} (h : Dr s i (c :: d :: l)) : byt s (i + 1) = (d.toNat : Int) := h.at 1
theorem Dr.app {s : ByteArray} {i : Nat} {a b : List UInt8} (h : Dr s i (a ++ b)) : Dr s (i + a.length) b := by
  unfold Dr at *
  rw [← List.drop_drop, h, List.drop_left]
theorem Dr.tl {s : ByteArray} {i : Nat} {c : UInt8} {l : List UInt8} (h : Dr s i (c :: l)) : Dr s (i + 1) l := Dr.app (a := [c]) h
theorem Dr.nil {s : ByteArray} {i : Nat} (h : Dr s i []) : s.size ≤ i := by
  have := h.len
  simp at this
  omega
theorem Dr.ext {s : ByteArray} {i : Nat} {a b : List UInt8} (h : Dr s i (a ++ b)) : s.extract i (i + a.length) = ⟨a.toArray⟩ := by
  apply ByteArray.ext
  apply Array.toList_inj.1
  rw [ext_list, Nat.add_sub_cancel_left, show s.data.toList.drop i = a ++ b from h, List.take_left]
theorem Dr.rest {s : ByteArray} {i : Nat} {l : List UInt8} (h : Dr s i l) : (s.extract i s.size).data.toList = l := by
  rw [ext_list, show s.data.toList.drop i = l from h, List.take_of_length_le (by rw [h.len]; exact Nat.le_refl _)]
theorem dr_self (s : ByteArray) : Dr s 0 s.data.toList := by unfold Dr; rw [List.drop_zero]
def Ends (r : List UInt8) : Prop := r = [] ∨ ∃ q, r = 32 :: q
theorem run_at {s : ByteArray} {i : Nat} {a r : List UInt8} (h : Dr s i (a ++ r)) (hr : Ends r) (ha : ∀ c ∈ a, wch (c.toNat : Int) = true) : run wch (s.extract i s.size) = a.length := by
  have hd := h.rest
  have hs : (s.extract i s.size).size = a.length + r.length := by rw [sz_len, hd, List.length_append]
  refine run_eq ⟨by omega, fun j hj => ?_, ?_⟩
  · unfold byt
    rw [hd, List.getD_eq_getElem?_getD, List.getElem?_append_left hj, List.getElem?_eq_getElem hj]
    exact ha _ (List.getElem_mem _)
  · rcases hr with e | ⟨q, e⟩
    · left; rw [hs, e]; rfl
    · right
      unfold byt
      rw [hd, e, List.getD_eq_getElem?_getD, List.getElem?_append_right (Nat.le_refl _), Nat.sub_self]
      show wch ((32 : UInt8).toNat : Int) = false
      decide
theorem word_back {s : ByteArray} {i : Nat} {a r : List UInt8} (h : Dr s i (a ++ r)) (hr : Ends r) (ha : ∀ c ∈ a, wch (c.toNat : Int) = true) (h0 : a ≠ []) {k N : Int} {S : ByteArray} (hw : wrdR ⟨a.toArray⟩ = .ok (k, S, N)) : tokF s i = .ok (k, S, N, i + a.length) := by
  obtain ⟨c, a', rfl⟩ : ∃ c a', a = c :: a' := by
    cases a with
    | nil => exact absurd rfl h0
    | cons c a' => exact ⟨c, a', rfl⟩
  have hb : wch (byt s i) = true := by rw [Dr.b0 h]; exact ha c (by simp)
  unfold tokF
  rw [if_pos hb, run_at h hr ha, h.ext, hw]
theorem esc1 {s : ByteArray} {i : Nat} {c : UInt8} {l : List UInt8} (h : Dr s i (c :: l)) {v : Int} (hp : plainE (c.toNat : Int) = v) (hv : 0 ≤ v) : escF s i = .ok (v, 1) := by
  have hb := h.b0
  have hlt := h.lt
  unfold escF
  have h10 : (c.toNat : Int) ≠ 10 := fun e => by rw [e] at hp; rw [← hp] at hv; exact absurd hv (by decide)
  have h120 : (c.toNat : Int) ≠ 120 := fun e => by rw [e] at hp; rw [← hp] at hv; exact absurd hv (by decide)
  have ho : ¬ 0 ≤ oc s i := by
    unfold oc
    rw [hb]
    split
    · rename_i q
      generalize (c.toNat : Int) = x at *
      have : x = 48 ∨ x = 49 ∨ x = 50 ∨ x = 51 ∨ x = 52 ∨ x = 53 ∨ x = 54 ∨ x = 55 := by omega
      rcases this with rfl | rfl | rfl | rfl | rfl | rfl | rfl | rfl <;> (rw [← hp] at hv; exact absurd hv (by decide))
    · omega
  rw [hb, if_neg (by rintro (e | e); omega; exact h10 e), if_neg h120, if_neg ho, hp, if_neg (by omega)]
theorem oc_at {s : ByteArray} {i : Nat} {d : Nat} {l : List UInt8} (hd : d < 8) (h : Dr s i (UInt8.ofNat (48 + d) :: l)) : oc s i = d := by
  have hb := h.b0
  have hlt := h.lt
  have e : ((UInt8.ofNat (48 + d)).toNat : Int) = 48 + d := by
    rw [UInt8.toNat_ofNat']
    omega
  unfold oc
  rw [hb, e, if_pos ⟨hlt, by omega, by omega⟩]
  omega
theorem esc_o {s : ByteArray} {i : Nat} {c : Nat} {l : List UInt8} (hc : c < 256) (h : Dr s i (UInt8.ofNat (48 + c / 64) :: UInt8.ofNat (48 + c / 8 % 8) :: UInt8.ofNat (48 + c % 8) :: l)) : escF s i = .ok ((c : Int), 3) := by
  have o0 := oc_at (d := c / 64) (by omega) h
  have o1 := oc_at (d := c / 8 % 8) (by omega) h.tl
  have o2 := oc_at (d := c % 8) (by omega) h.tl.tl
  have hb := h.b0
  have hlt := h.lt
  have e : ((UInt8.ofNat (48 + c / 64)).toNat : Int) = 48 + (c / 64 : Nat) := by
    rw [UInt8.toNat_ofNat']
    omega
  rw [e] at hb
  unfold escF
  rw [hb, if_neg (by rintro (e | e) <;> omega), if_neg (by omega), o0, o1, show i + 2 = i + 1 + 1 from rfl, o2, if_pos (by omega), if_neg (by omega), if_neg (by omega), if_neg (by omega)]
  congr 2
  omega
theorem quo_one {s : ByteArray} {m : Nat} (hm : m = 34 ∨ m = 39) {i : Nat} {b : UInt8} {l acc : List UInt8} {r : Except Int (List UInt8 × Nat)} (h : Dr s i (shown b.toNat m ++ l)) (hq : Quo s m (i + (shown b.toNat m).length) (acc ++ [b]) r) : Quo s m i acc r := by
  have hb := b.toNat_lt
  have eb : UInt8.ofNat ((b.toNat : Int)).toNat = b := by simp
  have esc : ∀ x : UInt8, shown b.toNat m = [92, x] → plainE (x.toNat : Int) = b.toNat → Quo s m i acc r := by
    intro x e hp
    rw [e] at h hq
    have h92 : byt s i = 92 := h.b0
    refine .esc h.lt h92 (by rw [h92]; omega) (esc1 (h.tl : Dr s (i + 1) (x :: l)) hp (by omega)) ?_
    rw [eb]
    exact hq
  by_cases h10 : b.toNat = 10
  · refine esc 110 (by unfold shown; rw [if_pos h10]) (by rw [h10]; decide)
  by_cases h9 : b.toNat = 9
  · refine esc 116 (by unfold shown; rw [if_neg h10, if_pos h9]) (by rw [h9]; decide)
  by_cases h13 : b.toNat = 13
  · refine esc 114 (by unfold shown; rw [if_neg h10, if_neg h9, if_pos h13]) (by rw [h13]; decide)
  by_cases hmk : b.toNat = m ∨ b.toNat = 92
  · refine esc b (by rw [shown_m hmk hm]; simp) ?_
    have : b.toNat = 34 ∨ b.toNat = 39 ∨ b.toNat = 92 := by omega
    rcases this with e | e | e <;> (rw [e]; decide)
  by_cases hp : 32 ≤ b.toNat ∧ b.toNat ≤ 126
  · rw [shown_p hmk hp] at h hq
    have hb0 : byt s i = b.toNat := by
      have := Dr.b0 (c := UInt8.ofNat b.toNat) h
      simpa using this
    refine .one (Dr.lt (c := UInt8.ofNat b.toNat) h) (by rw [hb0]; omega) (by rw [hb0]; omega) (by rw [hb0]; omega) ?_
    rw [hb0, eb]
    exact hq
  · have e := shown_o hmk hp h10 h9 h13
    rw [e] at h hq
    unfold oct at h hq
    have h92 : byt s i = 92 := Dr.b0 h
    refine .esc (Dr.lt h) h92 (by rw [h92]; omega) (esc_o hb (Dr.tl h)) ?_
    rw [eb]
    exact hq
theorem quo_list {s : ByteArray} {m : Nat} (hm : m = 34 ∨ m = 39) : ∀ (bs : List UInt8) (i : Nat) (acc r : List UInt8), Dr s i (bs.flatMap (fun b => shown b.toNat m) ++ UInt8.ofNat m :: r) → Quo s m i acc (.ok (acc ++ bs, i + (bs.flatMap fun b => shown b.toNat m).length + 1)) := by
  intro bs
  induction bs with
  | nil =>
    intro i acc r h
    have hb : byt s i = m := by
      have : byt s i = ((UInt8.ofNat m).toNat : Int) := Dr.b0 h
      rw [this, UInt8.toNat_ofNat']
      omega
    rw [List.append_nil]
    exact .fin (Dr.lt h) hb (by rw [hb]; omega)
  | cons b bs ih =>
    intro i acc r h
    rw [List.flatMap_cons, List.append_assoc] at h
    refine quo_one hm h ?_
    have := ih (i + (shown b.toNat m).length) (acc ++ [b]) r h.app
    rw [List.append_assoc, List.singleton_append] at this
    rw [List.flatMap_cons, List.length_append, ← Nat.add_assoc]
    exact this
theorem str_back {s : ByteArray} {i : Nat} {S : ByteArray} {r : List UInt8} (hS : S.size ≤ 200) (h : Dr s i ((qt S 34).data.toList ++ r)) : tokF s i = .ok (4, S, 0, i + (qt S 34).size) := by
  have e : (qt S 34).data.toList = 34 :: (S.data.toList.flatMap (fun b => shown b.toNat 34) ++ [34]) := by
    unfold qt qc
    rw [sz_len S, List.take_length]
    rfl
  rw [sz_len, e]
  rw [e, List.cons_append, List.append_assoc] at h
  have hb : byt s i = 34 := Dr.b0 h
  have hq := quoV_eq (quo_list (.inl rfl) S.data.toList (i + 1) [] r (Dr.tl h))
  unfold tokF
  rw [hb, if_neg (by decide), if_neg (by decide), if_pos rfl, show ((34 : Nat) : Int) = 34 from rfl] at *
  rw [hq]
  simp only [List.nil_append]
  rw [if_neg (by rw [← sz_len]; omega)]
  congr 4
  simp
  omega
theorem chr_back {s : ByteArray} {i : Nat} {b : UInt8} {r : List UInt8} (h : Dr s i ((chr b.toNat).data.toList ++ r)) : tokF s i = .ok (3, ⟨#[99]⟩, nr 1 (b.toNat : Int), i + (chr b.toNat).size) := by
  have e : (chr b.toNat).data.toList = 39 :: ([b].flatMap (fun b => shown b.toNat 39) ++ [39]) := by
    unfold chr
    simp
  rw [sz_len, e]
  rw [e, List.cons_append, List.append_assoc] at h
  have hb : byt s i = 39 := Dr.b0 h
  have hq := quoV_eq (quo_list (.inr rfl) [b] (i + 1) [] r (Dr.tl h))
  unfold tokF
  rw [hb, if_neg (by decide), if_pos rfl, show ((39 : Nat) : Int) = 39 from rfl] at *
  rw [hq]
  simp only [List.nil_append]
  rw [if_pos (show [b].length = 1 from rfl)]
  congr 4
  simp
  omega
end Go.Proofs.YtdplfflkmphpbaaGreatDoor.Pl
namespace Go.Proofs.YtdplfflkmphpbaaGreatDoor.Pl
/-! integers and signs read back -/
theorem dig_all : ∀ (d u : Nat), u ≤ d → ∀ c ∈ Lib.decDigits u, 48 ≤ c.toNat ∧ c.toNat ≤ 57 := by
  intro d
  induction d with
  | zero =>
    intro u hu c hc
    obtain rfl : u = 0 := by omega
    rw [dig_small (by omega)] at hc
    rw [List.mem_singleton.1 hc]
    decide
  | succ d ih =>
    intro u hu c hc
    by_cases h : u < 10
    · rw [dig_small h] at hc
      rw [List.mem_singleton.1 hc, UInt8.toNat_ofNat']
      omega
    · rw [dig_big h, List.mem_append] at hc
      rcases hc with q | q
      · exact ih (u / 10) (by omega) c q
      · rw [List.mem_singleton.1 q, UInt8.toNat_ofNat']
        omega
theorem dig_first : ∀ (d u : Nat), u ≤ d → 0 < u → ∃ c r, Lib.decDigits u = c :: r ∧ c.toNat ≠ 48 := by
  intro d
  induction d with
  | zero => intro u hu h0; omega
  | succ d ih =>
    intro u hu h0
    by_cases h : u < 10
    · refine ⟨_, [], dig_small h, ?_⟩
      rw [UInt8.toNat_ofNat']
      omega
    · obtain ⟨c, r, h1, h2⟩ := ih (u / 10) (by omega) (by omega)
      exact ⟨c, r ++ [UInt8.ofNat (48 + u % 10)], by rw [dig_big h, h1]; rfl, h2⟩
theorem dig_len : ∀ (k u : Nat), u < 10 ^ (k + 1) → (Lib.decDigits u).length ≤ k + 1 := by
  intro k
  induction k with
  | zero => intro u h; rw [dig_small (by simpa using h)]; simp
  | succ k ih =>
    intro u h
    by_cases q : u < 10
    · rw [dig_small q]; simp
    · rw [dig_big q, List.length_append, List.length_singleton]
      have := ih (u / 10) (by rw [Nat.pow_succ] at h; omega)
      omega
def vL (b : Int) (l : List UInt8) : Int := l.foldl (fun a c => a * b + hx (c.toNat : Int)) 0
theorem vL_snoc (b : Int) (l : List UInt8) (c : UInt8) : vL b (l ++ [c]) = vL b l * b + hx (c.toNat : Int) := by
  unfold vL
  rw [List.foldl_append]
  rfl
theorem val_list (b : Int) (l : List UInt8) : ∀ k, k ≤ l.length → val ⟨l.toArray⟩ b k = vL b (l.take k) := by
  intro k
  induction k with
  | zero => intro _; rfl
  | succ k ih =>
    intro hk
    have e : byt ⟨l.toArray⟩ k = ((l[k]'(by omega)).toNat : Int) := by
      unfold byt
      rw [List.getD_eq_getElem?_getD]
      simp [List.getElem?_eq_getElem (show k < l.length by omega)]
    rw [List.take_succ_eq_append_getElem (by omega), vL_snoc, ← ih (by omega), ← e]
    rfl
theorem vL_dig : ∀ (d u : Nat), u ≤ d → vL 10 (Lib.decDigits u) = u := by
  intro d
  induction d with
  | zero =>
    intro u hu
    obtain rfl : u = 0 := by omega
    rw [dig_small (by omega)]
    decide
  | succ d ih =>
    intro u hu
    have hd : ∀ n : Nat, n < 10 → hx ((UInt8.ofNat (48 + n)).toNat : Int) = n := fun n hn => by
      rw [UInt8.toNat_ofNat', hx_dig _ (by omega) (by omega)]
      omega
    by_cases h : u < 10
    · rw [dig_small h]
      show 0 * 10 + hx _ = _
      rw [hd u h]
      omega
    · rw [dig_big h, vL_snoc, ih (u / 10) (by omega), hd (u % 10) (by omega)]
      omega
theorem digw {c : UInt8} (h : 48 ≤ c.toNat ∧ c.toNat ≤ 57) : wch (c.toNat : Int) = true := by
  unfold wch dg
  rw [decide_eq_true (by omega)]
  rfl
theorem int_read (u : Nat) (T : List UInt8) (hT : T = [117] ∨ (T = [] ∧ u ≤ 2147483647)) (hu : u ≤ 4294967295) : intR ⟨(Lib.decDigits u ++ T).toArray⟩ = .ok (⟨T.toArray⟩, (u : Int)) := by
  obtain ⟨c, r, hd, hc1, hc2⟩ := dig_head _ u (Nat.le_refl _)
  have hall := dig_all _ u (Nat.le_refl _)
  have hlen : 0 < (Lib.decDigits u).length := by rw [hd]; simp
  generalize hx' : (⟨(Lib.decDigits u ++ T).toArray⟩ : ByteArray) = x
  have hxl : x.data.toList = Lib.decDigits u ++ T := by rw [← hx']
  have hxs : x.size = (Lib.decDigits u).length + T.length := by rw [sz_len, hxl, List.length_append]
  have hb : ∀ j, byt x j = (((Lib.decDigits u ++ T).getD j 0).toNat : Int) := fun j => by unfold byt; rw [hxl]
  have hb0 : byt x 0 = (c.toNat : Int) := by rw [hb, hd]; rfl
  have hD : ∀ j (h : j < (Lib.decDigits u).length), byt x j = (((Lib.decDigits u)[j]'h).toNat : Int) := fun j h => by
    rw [hb, List.getD_eq_getElem?_getD, List.getElem?_append_left h, List.getElem?_eq_getElem h]
    rfl
  have hlast : (uu (byt x (x.size - 1)) = true ↔ T = [117]) ∧ iend x = (Lib.decDigits u).length := by
    rcases hT with e | ⟨e, _⟩
    · have e1 : byt x (x.size - 1) = 117 := by
        rw [hb, hxs, e, List.getD_eq_getElem?_getD]
        simp
      unfold iend
      rw [e1]
      refine ⟨⟨fun _ => e, fun _ => rfl⟩, ?_⟩
      rw [if_pos (by decide), hxs, e]
      simp
    · have e1 : uu (byt x (x.size - 1)) = false := by
        have hj : x.size - 1 < (Lib.decDigits u).length := by rw [hxs, e]; simp; omega
        rw [hD _ hj]
        have := hall _ (List.getElem_mem hj)
        unfold uu
        simp only [Bool.or_eq_false_iff, beq_eq_false_iff_ne, ne_eq]
        omega
      unfold iend
      rw [e1]
      refine ⟨⟨fun q => (by cases q), fun q => by rw [e] at q; cases q⟩, ?_⟩
      rw [if_neg (by decide), hxs, e]
      simp
  have hisx : isx x = false := by
    by_cases h0 : u = 0
    · have h1 : byt x 1 ≠ 120 ∧ byt x 1 ≠ 88 := by
        rw [hb, h0, dig_small (by omega)]
        rcases hT with e | ⟨e, _⟩ <;> rw [e] <;> decide
      unfold isx
      simp only [Bool.and_eq_false_iff, Bool.or_eq_false_iff, beq_eq_false_iff_ne]
      exact .inr h1
    · obtain ⟨c', r', hd', hn⟩ := dig_first _ u (Nat.le_refl _) (by omega)
      rw [hd] at hd'
      cases hd'
      unfold isx
      simp only [Bool.and_eq_false_iff, Bool.or_eq_false_iff, beq_eq_false_iff_ne]
      exact .inl (.inr (by rw [hb0]; omega))
  have hoff : ioff x = 0 := by unfold ioff; rw [hisx, if_neg (by decide)]
  have hig : idig x = ⟨(Lib.decDigits u).toArray⟩ := by
    unfold idig
    rw [hoff, hlast.2]
    have := Dr.ext (s := x) (i := 0) (a := Lib.decDigits u) (b := T) (by unfold Dr; rw [List.drop_zero, hxl])
    rw [Nat.zero_add] at this
    exact this
  have higs : (idig x).size = (Lib.decDigits u).length := by rw [hig, sz_len]
  have higb : ∀ j, j < (idig x).size → 48 ≤ byt (idig x) j ∧ byt (idig x) j ≤ 57 := fun j hj => by
    rw [higs] at hj
    have : byt (idig x) j = (((Lib.decDigits u)[j]'hj).toNat : Int) := by
      rw [hig]
      unfold byt
      rw [List.getD_eq_getElem?_getD]
      simp [List.getElem?_eq_getElem hj]
    rw [this]
    have := hall _ (List.getElem_mem hj)
    omega
  have hv : val (idig x) (ibase x) (idig x).size = u ∧ ∀ j, j < (idig x).size → hx (byt (idig x) j) < ibase x := by
    by_cases h0 : u = 0
    · have e8 : ibase x = 8 := by
        unfold ibase
        rw [hisx, if_neg (by decide), hb0]
        rw [h0, dig_small (by omega)] at hd
        cases hd
        rfl
      rw [e8]
      refine ⟨?_, fun j hj => ?_⟩
      · rw [higs, hig, val_list 8 _ _ (Nat.le_refl _), List.take_length, h0, dig_small (by omega)]
        decide
      · have hj0 : j = 0 := by rw [higs, h0, dig_small (by omega)] at hj; simp at hj; omega
        subst hj0
        rw [hig, h0, dig_small (by omega)]
        decide
    · obtain ⟨c', r', hd', hn⟩ := dig_first _ u (Nat.le_refl _) (by omega)
      rw [hd] at hd'
      cases hd'
      have e10 : ibase x = 10 := by
        unfold ibase
        rw [hisx, if_neg (by decide), hb0, if_neg (by omega)]
      rw [e10]
      refine ⟨?_, fun j hj => ?_⟩
      · rw [higs, hig, val_list 10 _ _ (Nat.le_refl _), List.take_length, vL_dig _ u (Nat.le_refl _)]
      · have := higb j hj
        rw [hx_dig _ this.1 this.2]
        omega
  rw [intR_ok (by rw [hoff, hlast.2]; omega) (fun j hj => ?_) hv.2 (by rw [hv.1]; omega), hv.1]
  · congr 2
    rcases hT with e | ⟨e, h⟩
    · rw [if_pos (.inl (hlast.1.2 e)), e]
    · rw [if_neg (by rintro (q | q); have := hlast.1.1 q; rw [e] at this; cases this; omega), e]
  · have := higb j hj
    unfold badD
    rw [hx_dig _ this.1 this.2, decide_eq_false (by omega), decide_eq_false (by omega)]
    simp
theorem int_back {s : ByteArray} {i : Nat} {r : List UInt8} (u : Nat) (T : List UInt8) (hT : T = [117] ∨ (T = [] ∧ u ≤ 2147483647)) (hu : u ≤ 4294967295) (hr : Ends r) (h : Dr s i ((Lib.decDigits u ++ T) ++ r)) : tokF s i = .ok (3, ⟨T.toArray⟩, (u : Int), i + (Lib.decDigits u ++ T).length) := by
  obtain ⟨c, q, hd, hc1, hc2⟩ := dig_head _ u (Nat.le_refl _)
  refine word_back h hr (fun x hx => ?_) (by rw [hd]; simp) ?_
  · rw [List.mem_append] at hx
    rcases hx with p | p
    · exact digw (dig_all _ u (Nat.le_refl _) x p)
    · rcases hT with e | ⟨e, _⟩
      · rw [e] at p
        rw [List.mem_singleton.1 p]
        decide
      · rw [e] at p
        cases p
  · unfold wrdR
    have : byt ⟨(Lib.decDigits u ++ T).toArray⟩ 0 = (c.toNat : Int) := by rw [hd, List.cons_append]; exact byt_mk _ _
    rw [this, if_pos (by unfold dg; rw [decide_eq_true (by omega)]), int_read u T hT hu]
theorem isS_mem {t : ByteArray} : isS t = true ↔ t.data.toList ∈ sgB := by
  unfold isS
  rw [List.any_eq_true, ByteArray.toList_eq]
  constructor
  · rintro ⟨r, hr, he⟩
    rw [eq_of_beq he]
    exact hr
  · intro h
    exact ⟨_, h, by simp⟩
theorem sgm_len : ∀ l ∈ sgB, 1 ≤ l.length ∧ l.length ≤ 3 := by decide
theorem sg_32 : ∀ l ∈ sgB, ∀ c ∈ l, c ≠ 32 := by decide
theorem sg_first : ∀ l ∈ sgB, wch ((l.getD 0 0).toNat : Int) = false ∧ ((l.getD 0 0).toNat : Int) ≠ 39 ∧ ((l.getD 0 0).toNat : Int) ≠ 34 ∧ blk ((l.getD 0 0).toNat : Int) = false ∧ (l.getD 0 0 = 47 → l = [47] ∨ l = [47, 61]) := by decide
theorem sgn_at {t : ByteArray} {l r : List UInt8} (hl : l ∈ sgB) (hr : Ends r) (h : t.data.toList = l ++ r) : sgn t = l.length := by
  have hn := sgm_len l hl
  have hs : t.size = l.length + r.length := by rw [sz_len, h, List.length_append]
  have big : ∀ n, l.length < n → ¬ (n ≤ t.size ∧ isS (t.extract 0 n) = true) := by
    rintro n hn ⟨h1, h2⟩
    rcases hr with e | ⟨q, e⟩
    · rw [hs, e] at h1
      simp at h1
      omega
    · rw [isS_mem, ext_list, List.drop_zero, h, e] at h2
      refine sg_32 _ h2 32 ?_ rfl
      rw [Nat.sub_zero, List.take_append, List.mem_append]
      right
      obtain ⟨m, hm⟩ : ∃ m, n - l.length = m + 1 := ⟨n - l.length - 1, by omega⟩
      rw [hm]
      simp
  have fit : ∀ n, n = l.length → n ≤ t.size ∧ isS (t.extract 0 n) = true := by
    rintro n rfl
    refine ⟨by omega, ?_⟩
    rw [isS_mem, ext_list, List.drop_zero, h, Nat.sub_zero, List.take_left]
    exact hl
  unfold sgn
  have : l.length = 1 ∨ l.length = 2 ∨ l.length = 3 := by omega
  rcases this with e | e | e
  · rw [if_neg (big 3 (by omega)), if_neg (big 2 (by omega)), if_pos (fit 1 e.symm), e]
  · rw [if_neg (big 3 (by omega)), if_pos (fit 2 e.symm), e]
  · rw [if_pos (fit 3 e.symm), e]
theorem sgn_back {s : ByteArray} {i : Nat} {l r : List UInt8} (hl : l ∈ sgB) (hr : Ends r) (h : Dr s i (l ++ r)) : tokF s i = .ok (5, ⟨l.toArray⟩, 0, i + l.length) := by
  have hn := sgm_len l hl
  obtain ⟨f1, f2, f3, _, _⟩ := sg_first l hl
  have hb : byt s i = ((l.getD 0 0).toNat : Int) := by
    obtain ⟨c, l', rfl⟩ : ∃ c l', l = c :: l' := by
      cases l with
      | nil => simp at hn
      | cons c l' => exact ⟨c, l', rfl⟩
    exact Dr.b0 h
  have hsg : sgn (s.extract i s.size) = l.length := sgn_at hl hr h.rest
  unfold tokF
  rw [hb, if_neg (by rw [f1]; decide), if_neg f2, if_neg f3, hsg, if_neg (by omega), h.ext]
end Go.Proofs.YtdplfflkmphpbaaGreatDoor.Pl
namespace Go.Proofs.YtdplfflkmphpbaaGreatDoor.Pl
inductive Vt : Int → ByteArray → Int → Prop
  | wrd {k : Int} {S : ByteArray} {N : Int} : k = 1 ∨ k = 2 → 0 < S.size → S.size ≤ 40 → (∀ c ∈ S.data.toList, wch (c.toNat : Int) = true) → wrdR S = .ok (k, S, N) → N = 0 → Vt k S N
  | int {S : ByteArray} {N : Int} : 0 ≤ N → N ≤ 4294967295 → (S = ⟨#[117]⟩ ∨ (S = ⟨#[]⟩ ∧ N ≤ 2147483647)) → Vt 3 S N
  | chr (b : UInt8) : Vt 3 ⟨#[99]⟩ (nr 1 (b.toNat : Int))
  | str {S : ByteArray} : S.size ≤ 200 → Vt 4 S 0
  | sgn {S : ByteArray} : S.data.toList ∈ sgB → Vt 5 S 0
theorem val_nn {s : ByteArray} {b : Int} (hb : 0 ≤ b) : ∀ k, (∀ j, j < k → 0 ≤ hx (byt s j)) → 0 ≤ val s b k := by
  intro k
  induction k with
  | zero => intro _; exact Int.le_refl _
  | succ k ih =>
    intro h
    have h1 := ih fun j hj => h j (by omega)
    have h2 := h k (by omega)
    have h3 := Int.mul_nonneg h1 hb
    show 0 ≤ val s b k * b + hx (byt s k)
    omega
theorem intR_vt {s S : ByteArray} {N : Int} (h : intR s = .ok (S, N)) : 0 ≤ N ∧ N ≤ 4294967295 ∧ (S = ⟨#[117]⟩ ∨ (S = ⟨#[]⟩ ∧ N ≤ 2147483647)) := by
  unfold intR at h
  split at h
  · cases h
  rename_i h1
  split at h
  · cases h
  rename_i h2
  have hi := Except.ok.inj h
  have e1 := congrArg Prod.fst hi
  have e2 := congrArg Prod.snd hi
  simp only at e1 e2
  have hn : 0 ≤ val (idig s) (ibase s) (idig s).size := by
    refine val_nn (by rcases ibase_is s with e | e | e <;> omega) _ fun j hj => ?_
    rcases Int.lt_or_le (hx (byt (idig s) j)) 0 with q | q
    · refine absurd (.inr ⟨j, hj, ?_⟩) h1
      unfold badD
      rw [decide_eq_true q]
      rfl
    · exact q
  have hm : val (idig s) (ibase s) (idig s).size ≤ 4294967295 := by
    rcases Int.lt_or_le 4294967295 (val (idig s) (ibase s) (idig s).size) with q | q
    · exact absurd (.inr q) h2
    · exact q
  rw [← e2]
  refine ⟨hn, hm, ?_⟩
  rw [← e1]
  split
  · exact .inl rfl
  · rename_i q
    refine .inr ⟨rfl, ?_⟩
    rcases Int.lt_or_le 2147483647 (val (idig s) (ibase s) (idig s).size) with p | p
    · exact absurd (.inr p) q
    · exact p
theorem byt_mem {s : ByteArray} {c : UInt8} (h : c ∈ s.data.toList) : ∃ j, j < s.size ∧ byt s j = (c.toNat : Int) := by
  obtain ⟨j, hj, e⟩ := List.getElem_of_mem h
  refine ⟨j, by rw [sz_len]; exact hj, ?_⟩
  unfold byt
  rw [List.getD_eq_getElem?_getD, List.getElem?_eq_getElem hj, e]
  rfl
theorem tokF_vt {s : ByteArray} {i : Nat} (hi : i < s.size) {k N : Int} {S : ByteArray} {n : Nat} (h : tokF s i = .ok (k, S, N, n)) : Vt k S N := by
  have hsz := ext_sz s i
  unfold tokF at h
  split at h
  · rename_i hw
    have hr := run_run wch (s.extract i s.size)
    split at h
    · cases h
    · rename_i k' S' N' hk
      cases h
      generalize hW : s.extract i (i + run wch (s.extract i s.size)) = Wd at hk
      have hb0 : byt (s.extract i s.size) 0 = byt s i := by rw [ext_byt s i 0 (by omega), Nat.add_zero]
      have hp : 0 < run wch (s.extract i s.size) := run_pos (by omega) (by rw [hb0]; exact hw)
      have hWs : Wd.size = run wch (s.extract i s.size) := by rw [← hW, ext_size]; have := hr.1; omega
      have hall : ∀ c ∈ Wd.data.toList, wch (c.toNat : Int) = true := by
        intro c hc
        obtain ⟨j, hj, e⟩ := byt_mem hc
        rw [← e, ← hW, byt_ext s i _ j (by omega) (by have := hr.1; omega)]
        have := hr.2.1 j (by omega)
        rw [ext_byt s i j (by have := hr.1; omega)] at this
        exact this
      have hk0 := hk
      unfold wrdR at hk
      split at hk
      · split at hk
        · cases hk
        · rename_i hi'
          cases hk
          obtain ⟨q1, q2, q3⟩ := intR_vt hi'
          exact .int q1 q2 q3
      · split at hk
        · cases hk
        · rename_i h40
          split at hk
          · cases hk
            exact .wrd (.inr rfl) (by omega) (by omega) hall hk0 rfl
          · cases hk
            exact .wrd (.inl rfl) (by omega) (by omega) hall hk0 rfl
  · split at h
    · split at h
      · cases h
      · split at h
        · cases h
          exact .chr _
        · cases h
    · split at h
      · split at h
        · cases h
        · split at h
          · cases h
          · rename_i hb
            cases h
            refine .str ?_
            simp [ByteArray.size]
            omega
      · split at h
        · cases h
        · rename_i hz
          cases h
          refine .sgn ?_
          have := sgn_is _ hz
          have hle := (sgn_le (s.extract i s.size)).1
          rw [ext_ext s i s.size 0 _ (by omega) (Nat.le_refl _) (Nat.zero_le _), Nat.add_zero] at this
          exact isS_mem.1 this
theorem nr1 : ∀ n : Nat, n < 256 → (nr 1 (n : Int) % 256).toNat = n ∧ 0 ≤ nr 1 (n : Int) ∧ nr 1 (n : Int) ≤ 4294967295 := by decide +kernel
theorem txt_num {N : Int} {S : ByteArray} {T : List UInt8} (hN : 0 ≤ N) (hS : S = ⟨T.toArray⟩) (hT : T = [117] ∨ T = []) (l c : Int) : (txtI ⟨3, S, N, l, c⟩).data.toList = Lib.decDigits N.toNat ++ T := by
  unfold txtI
  dsimp only
  rw [if_neg (by omega), if_pos rfl]
  rcases hT with e | e
  · rw [hS, e, if_neg (by decide), if_pos rfl, num_nat hN]
    show ((⟨(Lib.decDigits N.toNat).toArray⟩ : ByteArray) ++ ⟨[117].toArray⟩).data.toList = _
    rw [app_list]
  · rw [hS, e, if_neg (by decide), if_neg (by decide), num_nat hN, List.append_nil]
theorem wch_first {c : Int} (h : wch c = true) : blk c = false ∧ c ≠ 47 := by
  unfold wch dg lt at h
  simp only [Bool.or_eq_true, decide_eq_true_eq, beq_iff_eq] at h
  unfold blk
  simp only [Bool.or_eq_false_iff, beq_eq_false_iff_ne, Bool.and_eq_false_iff, decide_eq_false_iff_not]
  omega
theorem vt_back {k : Int} {S : ByteArray} {N : Int} (hv : Vt k S N) (l c : Int) {s : ByteArray} {i : Nat} {r : List UInt8} (hr : Ends r) (h : Dr s i ((txtI ⟨k, S, N, l, c⟩).data.toList ++ r)) : tokF s i = .ok (k, S, N, i + (txtI ⟨k, S, N, l, c⟩).size) ∧ i < s.size ∧ blk (byt s i) = false ∧ ¬ lc s i ∧ ¬ bc s i := by
  have nocom : byt s i ≠ 47 → ¬ lc s i ∧ ¬ bc s i := fun q => ⟨fun e => q e.2.1, fun e => q e.2.1⟩
  cases hv with
  | wrd hk h0 h40 hall hw hN =>
    have e : txtI ⟨k, S, N, l, c⟩ = S := by unfold txtI; dsimp only; rw [if_pos (by omega)]
    rw [e] at h ⊢
    obtain ⟨b, t, hb⟩ : ∃ b t, S.data.toList = b :: t := by
      cases q : S.data.toList with
      | nil => rw [sz_len, q] at h0; simp at h0
      | cons b t => exact ⟨b, t, rfl⟩
    have hS : (⟨S.data.toList.toArray⟩ : ByteArray) = S := by simp
    have := word_back h hr hall (by rw [hb]; simp) (by rw [hS]; exact hw)
    rw [hb] at h
    have hw0 : wch (byt s i) = true := by rw [Dr.b0 h]; exact hall b (by rw [hb]; simp)
    obtain ⟨q1, q2⟩ := wch_first hw0
    exact ⟨by rw [sz_len]; exact this, Dr.lt h, q1, nocom q2⟩
  | int h0 h1 hS =>
    obtain ⟨T, rfl, hT⟩ : ∃ T : List UInt8, S = ⟨T.toArray⟩ ∧ (T = [117] ∨ (T = [] ∧ N.toNat ≤ 2147483647)) := by
      rcases hS with e | ⟨e, h⟩
      · exact ⟨[117], e, .inl rfl⟩
      · exact ⟨[], e, .inr ⟨rfl, by omega⟩⟩
    have e := txt_num h0 rfl (T := T) (by rcases hT with e | ⟨e, _⟩; exact .inl e; exact .inr e) l c
    rw [e] at h
    have := int_back N.toNat T hT (by omega) hr h
    rw [show ((N.toNat : Nat) : Int) = N by omega] at this
    obtain ⟨b, t, hd, hc1, hc2⟩ := dig_head _ N.toNat (Nat.le_refl _)
    rw [hd] at h
    have hb : byt s i = (b.toNat : Int) := Dr.b0 h
    obtain ⟨q1, q2⟩ := wch_first (digw ⟨hc1, hc2⟩)
    refine ⟨by rw [sz_len, e]; exact this, Dr.lt h, by rw [hb]; exact q1, nocom (by rw [hb]; exact q2)⟩
  | chr b =>
    have e : txtI ⟨3, ⟨#[99]⟩, nr 1 (b.toNat : Int), l, c⟩ = Pl.chr b.toNat := by
      unfold txtI
      dsimp only
      rw [if_neg (by omega), if_pos rfl, if_pos rfl, (nr1 b.toNat b.toNat_lt).1]
    rw [e] at h ⊢
    have hb : byt s i = 39 := by
      have : Dr s i (39 :: (shown b.toNat 39 ++ [39] ++ r)) := by
        have e2 : (Pl.chr b.toNat).data.toList ++ r = 39 :: (shown b.toNat 39 ++ [39] ++ r) := by
          unfold Pl.chr
          simp
        rw [e2] at h
        exact h
      exact this.b0
    have hlt : i < s.size := by
      rcases Nat.lt_or_ge i s.size with q | q
      · exact q
      · rw [byt_out s i q] at hb; cases hb
    exact ⟨chr_back h, hlt, by rw [hb]; decide, nocom (by rw [hb]; decide)⟩
  | str hS =>
    have e : txtI ⟨4, S, 0, l, c⟩ = qt S 34 := by
      unfold txtI
      dsimp only
      rw [if_neg (by omega), if_neg (by omega), if_pos rfl]
    rw [e] at h ⊢
    have hb : byt s i = 34 := by
      have e2 : (qt S 34).data.toList ++ r = 34 :: ((S.data.toList.take S.size).flatMap (fun b => shown b.toNat 34) ++ [34] ++ r) := by
        unfold qt qc
        simp
      rw [e2] at h
      exact h.b0
    have hlt : i < s.size := by
      rcases Nat.lt_or_ge i s.size with q | q
      · exact q
      · rw [byt_out s i q] at hb; cases hb
    exact ⟨str_back hS h, hlt, by rw [hb]; decide, nocom (by rw [hb]; decide)⟩
  | sgn hS =>
    have e : txtI ⟨5, S, 0, l, c⟩ = S := by unfold txtI; dsimp only; rw [if_pos (by omega)]
    rw [e] at h ⊢
    have hSS : (⟨S.data.toList.toArray⟩ : ByteArray) = S := by simp
    have := sgn_back hS hr h
    rw [hSS] at this
    obtain ⟨_, _, _, f4, f5⟩ := sg_first _ hS
    have hn := sgm_len _ hS
    obtain ⟨b, t, hbt⟩ : ∃ b t, S.data.toList = b :: t := by
      cases q : S.data.toList with
      | nil => rw [q] at hn; simp at hn
      | cons b t => exact ⟨b, t, rfl⟩
    rw [hbt] at h f4 f5
    have hb : byt s i = (b.toNat : Int) := Dr.b0 h
    refine ⟨by rw [sz_len]; exact this, Dr.lt h, by rw [hb]; exact f4, ?_⟩
    by_cases h47 : b = 47
    · have nb : byt s (i + 1) ≠ 47 ∧ byt s (i + 1) ≠ 42 := by
        rcases f5 h47 with q | q
        · cases q
          rcases hr with e | ⟨p, e⟩
          · rw [e] at h
            have := (Dr.tl h).nil
            rw [byt_out s _ this]
            decide
          · rw [e] at h
            rw [show byt s (i + 1) = 32 from Dr.b1 h]
            decide
        · cases q
          rw [show byt s (i + 1) = 61 from Dr.b1 h]
          decide
      exact ⟨fun q => nb.1 q.2.2, fun q => nb.2 q.2.2⟩
    · refine nocom fun q => h47 ?_
      rw [hb] at q
      exact UInt8.toNat_inj.1 (by show b.toNat = 47; omega)
theorem vt_size {k : Int} {S : ByteArray} {N : Int} (hv : Vt k S N) (l c : Int) : (txtI ⟨k, S, N, l, c⟩).size ≤ 802 ∧ 0 < (txtI ⟨k, S, N, l, c⟩).size ∧ S.size ≤ 200 ∧ 0 ≤ N ∧ N ≤ 4294967295 ∧ 1 ≤ k ∧ k ≤ 5 := by
  cases hv with
  | wrd hk h0 h40 hall hw hN =>
    have e : txtI ⟨k, S, N, l, c⟩ = S := by unfold txtI; dsimp only; rw [if_pos (by omega)]
    rw [e]
    omega
  | int h0 h1 hS =>
    obtain ⟨T, rfl, hT⟩ : ∃ T : List UInt8, S = ⟨T.toArray⟩ ∧ (T = [117] ∨ T = []) := by
      rcases hS with e | ⟨e, h⟩
      · exact ⟨[117], e, .inl rfl⟩
      · exact ⟨[], e, .inr rfl⟩
    have e := txt_num h0 rfl hT l c
    have hl := dig_len 9 N.toNat (by omega)
    obtain ⟨b, t, hd, _⟩ := dig_head _ N.toNat (Nat.le_refl _)
    have hTl : T.length ≤ 1 := by rcases hT with e | e <;> rw [e] <;> simp
    have hd1 : 0 < (Lib.decDigits N.toNat).length := by rw [hd]; simp
    rw [sz_len, e, List.length_append, sz_len]
    show _ ∧ _ ∧ T.length ≤ 200 ∧ _
    omega
  | chr b =>
    have e : txtI ⟨3, ⟨#[99]⟩, nr 1 (b.toNat : Int), l, c⟩ = Pl.chr b.toNat := by
      unfold txtI
      dsimp only
      rw [if_neg (by omega), if_pos rfl, if_pos rfl, (nr1 b.toNat b.toNat_lt).1]
    have h1 := shown_len b.toNat 39
    have h2 : (Pl.chr b.toNat).size = (shown b.toNat 39).length + 2 := by
      rw [sz_len]
      unfold Pl.chr
      simp
    have h3 := nr1 b.toNat b.toNat_lt
    rw [e, h2]
    show _ ∧ _ ∧ 1 ≤ 200 ∧ _
    omega
  | str hS =>
    have e : txtI ⟨4, S, 0, l, c⟩ = qt S 34 := by
      unfold txtI
      dsimp only
      rw [if_neg (by omega), if_neg (by omega), if_pos rfl]
    have hf : ∀ a : List UInt8, (a.flatMap fun b => shown b.toNat 34).length ≤ 4 * a.length := by
      intro a
      induction a with
      | nil => simp
      | cons x a ih =>
        rw [List.flatMap_cons, List.length_append, List.length_cons]
        have := shown_len x.toNat 34
        omega
    have h2 : (qt S 34).size = (S.data.toList.flatMap fun b => shown b.toNat 34).length + 2 := by
      rw [sz_len]
      unfold qt qc
      rw [sz_len S, List.take_length]
      simp
    have := hf S.data.toList
    rw [← sz_len] at this
    rw [e, h2]
    omega
  | sgn hS =>
    have e : txtI ⟨5, S, 0, l, c⟩ = S := by unfold txtI; dsimp only; rw [if_pos (by omega)]
    have hn := sgm_len _ hS
    rw [← sz_len] at hn
    rw [e]
    omega
end Go.Proofs.YtdplfflkmphpbaaGreatDoor.Pl
namespace Go.Proofs.YtdplfflkmphpbaaGreatDoor.Pl
theorem Lx.last {s : ByteArray} {i : Nat} {acc : List Tk} {r : List Tk × Int × Int × Int} (h : Lx s i acc r) : r.1 = [] ∨ (r.2.1 = 0 ∧ ∃ l j, r.1 = l ++ [tkEnd s j]) := by
  induction h with
  | opn _ => exact .inl rfl
  | fin _ _ => exact .inr ⟨rfl, _, _, rfl⟩
  | bad _ _ _ => exact .inl rfl
  | many _ _ _ _ => exact .inl rfl
  | go _ _ _ _ _ ih => exact ih
theorem Lx.all {s : ByteArray} {i : Nat} {acc : List Tk} {r : List Tk × Int × Int × Int} (h : Lx s i acc r) (ha : ∀ t ∈ acc, Vt t.k t.S t.N) (hl : acc.length ≤ 6000) : (r.1 = [] ∧ r.2.1 ≠ 0) ∨ (r.2.1 = 0 ∧ ∃ l j, r.1 = l ++ [tkEnd s j] ∧ l.length ≤ 6000 ∧ ∀ t ∈ l, Vt t.k t.S t.N) := by
  induction h with
  | opn _ => exact .inl ⟨rfl, fun q => absurd (show (3 : Int) = 0 from q) (by decide)⟩
  | fin _ _ => exact .inr ⟨rfl, _, _, rfl, hl, ha⟩
  | bad _ _ h => exact .inl ⟨rfl, tokF_f h⟩
  | many _ _ _ _ => exact .inl ⟨rfl, fun q => absurd (show (9 : Int) = 0 from q) (by decide)⟩
  | go hsk hj htf hn _ ih =>
    refine ih (fun t ht => ?_) (by rw [List.length_append, List.length_singleton]; omega)
    rcases List.mem_append.1 ht with q | q
    · exact ha t q
    · rw [List.mem_singleton.1 q]
      exact tokF_vt hj htf
theorem LxAll.all {s : ByteArray} {ts : List Tk} {c l k : Int} (h : W.LxAll s (ts, c, l, k)) : (ts = [] ∧ c ≠ 0) ∨ (c = 0 ∧ ∃ us j, ts = us ++ [tkEnd s j] ∧ us.length ≤ 6000 ∧ ∀ t ∈ us, Vt t.k t.S t.N) := by
  rcases h with ⟨_, h⟩ | ⟨_, h⟩
  · cases h
    exact .inl ⟨rfl, by decide⟩
  · exact h.all (fun t ht => nomatch ht) (Nat.zero_le _)
theorem vt_two {k : Int} {S : ByteArray} {N : Int} (hv : Vt k S N) (l c : Int) : W.LxAll (txtI ⟨k, S, N, l, c⟩) ([⟨k, S, N, 1, 1⟩, tkEnd (txtI ⟨k, S, N, l, c⟩) (txtI ⟨k, S, N, l, c⟩).size], 0, 0, 0) := by
  obtain ⟨z1, z2, _⟩ := vt_size hv l c
  generalize hx : txtI ⟨k, S, N, l, c⟩ = x at *
  obtain ⟨h1, h2, h3, h4, h5⟩ := vt_back hv l c (s := x) (i := 0) (r := []) (.inl rfl) (by rw [hx, List.append_nil]; exact dr_self x)
  rw [hx, Nat.zero_add] at h1
  refine .inr ⟨by omega, ?_⟩
  exact .go (.stop (.inr ⟨h3, h4, h5⟩)) h2 h1 (by decide) (.fin (acc := [⟨k, S, N, ln x 0, cn x 0⟩]) (.stop (.inl (Nat.le_refl _))) rfl)
theorem tt_read {t : Tk} (h : ttI t ≠ ⟨#[]⟩) {ts : List Tk} {c l k : Int} (hx : W.LxAll (ttI t) (ts, c, l, k)) : c = 0 ∧ ∃ t0 t1, ts = [t0, t1] ∧ t0.k = t.k ∧ t0.S = t.S ∧ t0.N = t.N ∧ t1.k = 0 := by
  by_cases q : Two (txtI t) (Pi t)
  · have e : ttI t = txtI t := ttx_yes q
    rw [e] at hx
    obtain ⟨t0, t1, c', l', k', h1, h2⟩ := q
    have e1 := W.LxAll.fn hx h1
    cases e1
    rw [h2] at h1
    refine ⟨(lx_two h1).1, t0, t1, rfl, by rw [h2], by rw [h2], by rw [h2], ?_⟩
    rcases h1 with ⟨_, h1⟩ | ⟨_, h1⟩
    · cases h1
    · rcases h1.last with q | ⟨_, l2, j, q⟩
      · cases q
      · have := congrArg List.getLast? q
        simp at this
        rw [this]
        rfl
  · exact absurd (ttx_no q) h
theorem qt_read {S : ByteArray} (hS : S.size ≤ 200) {ts : List Tk} {c l k : Int} (hx : W.LxAll (qt S 34) (ts, c, l, k)) : c = 0 ∧ ∃ t0 t1, ts = [t0, t1] ∧ t0.k = 4 ∧ t0.S = S := by
  have e : txtI ⟨4, S, 0, 0, 0⟩ = qt S 34 := by
    unfold txtI
    dsimp only
    rw [if_neg (by omega), if_neg (by omega), if_pos rfl]
  have h := vt_two (.str hS) 0 0
  rw [e] at h
  have e1 := W.LxAll.fn hx h
  cases e1
  exact ⟨rfl, _, _, rfl, rfl, rfl⟩
/-! many tokens, a blank behind each -/
def sameT (a b : Tk) : Prop := a.k = b.k ∧ a.S = b.S ∧ a.N = b.N
inductive SameL : List Tk → List Tk → Prop
  | nil : SameL [] []
  | cons {a b : Tk} {x y : List Tk} : sameT a b → SameL x y → SameL (a :: x) (b :: y)
theorem SameL.snoc {x y : List Tk} {a b : Tk} (h : SameL x y) (hab : sameT a b) : SameL (x ++ [a]) (y ++ [b]) := by
  induction h with
  | nil => exact .cons hab .nil
  | cons h _ ih => exact .cons h ih
theorem SameL.len {x y : List Tk} (h : SameL x y) : x.length = y.length := by
  induction h with
  | nil => rfl
  | cons _ _ ih => simp [ih]
theorem SameL.at {x y : List Tk} (h : SameL x y) : ∀ j, sameT (x.getD j Tk.zero) (y.getD j Tk.zero) := by
  induction h with
  | nil => intro j; exact ⟨rfl, rfl, rfl⟩
  | cons h _ ih =>
    intro j
    cases j with
    | zero => exact h
    | succ j => exact ih j
end Go.Proofs.YtdplfflkmphpbaaGreatDoor.Pl
namespace Go.Proofs.YtdplfflkmphpbaaGreatDoor.Pl
def dsL : List (List UInt8) := [[], [117], [97, 32, 98], [48], [105, 110, 116], [10], [120, 34], [99]]
def diL : List Int := [1, 0, 16909060, 65536]
theorem ds_len : ∀ j, j < 8 → (dsL.getD j []).length ≤ 3 := by decide
theorem di_b : ∀ j, j < 4 → 0 ≤ diL.getD j 0 ∧ diL.getD j 0 ≤ 16909060 := by decide
def m8 (m : Nat) : Nat := m % 8
def d7 (k : Nat) : Nat := k / 7
def q4 (k : Nat) : Nat := k / 7 % 4
def dS (m : Nat) : ByteArray := ⟨(dsL.getD (m8 m) []).toArray⟩
def dI (k : Nat) : Int := diL.getD (q4 k) 0
theorem m8_lt (m : Nat) : m8 m < 8 := by unfold m8; omega
theorem q4_lt (k : Nat) : q4 k < 4 := by unfold q4; omega
theorem dI_b (k : Nat) : 0 ≤ dI k ∧ dI k ≤ 16909060 := di_b _ (q4_lt k)
theorem dS_sz (m : Nat) : (dS m).size ≤ 3 := by unfold dS; rw [mk_size]; exact ds_len _ (m8_lt m)
theorem m8_is (m : Nat) : (m : Int) % 8 = (m8 m : Int) := by unfold m8; omega
theorem q4_is (k : Nat) : (d7 k : Int) % 4 = (q4 k : Int) := by unfold d7 q4; omega
theorem dsT_at (m : Nat) : (#[.string ⟨#[]⟩, .string ⟨#[117]⟩, .string ⟨#[97, 32, 98]⟩, .string ⟨#[48]⟩, .string ⟨#[105, 110, 116]⟩, .string ⟨#[10]⟩, .string ⟨#[120, 34]⟩, .string ⟨#[99]⟩] : Array Value)[m8 m]? = some (.string (dS m)) := by
  have h := m8_lt m
  unfold dS
  rcases (show m8 m = 0 ∨ m8 m = 1 ∨ m8 m = 2 ∨ m8 m = 3 ∨ m8 m = 4 ∨ m8 m = 5 ∨ m8 m = 6 ∨ m8 m = 7 by omega) with e | e | e | e | e | e | e | e <;> rw [e] <;> rfl
theorem diT_at (k : Nat) : (#[.int .i64 1, .int .i64 0, .int .i64 16909060, .int .i64 65536] : Array Value)[q4 k]? = some (.int .i64 (dI k)) := by
  have h := q4_lt k
  unfold dI
  rcases (show q4 k = 0 ∨ q4 k = 1 ∨ q4 k = 2 ∨ q4 k = 3 by omega) with e | e | e | e <;> rw [e] <;> rfl
def Dt (t : Tk) : Prop := t.S.size ≤ 1048576 ∧ 0 ≤ t.N ∧ t.N ≤ 5000000000
end Go.Proofs.YtdplfflkmphpbaaGreatDoor.Pl
namespace Go.Proofs.YtdplfflkmphpbaaGreatDoor.W
open Go.RowKit
theorem lx_dt {s : ByteArray} {ts : List Pl.Tk} {c l k : Int} (h : LxAll s (ts, c, l, k)) (j : Nat) (hj : j < ts.length) : (ts.getD j Pl.Tk.zero).S.size ≤ 200 ∧ 0 ≤ (ts.getD j Pl.Tk.zero).N ∧ (ts.getD j Pl.Tk.zero).N ≤ 4294967295 := by
  rcases Pl.LxAll.all h with ⟨rfl, _⟩ | ⟨_, us, j', rfl, _, hv⟩
  · exact absurd hj (Nat.not_lt_zero _)
  · by_cases q : j < us.length
    · rw [List.getD_eq_getElem?_getD, List.getElem?_append_left q, List.getElem?_eq_getElem q]
      have := Pl.vt_size (hv _ (List.getElem_mem q)) 0 0
      exact ⟨this.2.2.1, this.2.2.2.1, this.2.2.2.2.1⟩
    · have e : j - us.length = 0 := by rw [List.length_append, List.length_singleton] at hj; omega
      rw [List.getD_eq_getElem?_getD, List.getElem?_append_right (by omega), e]
      exact ⟨Nat.zero_le _, Int.le_refl _, by show (0 : Int) ≤ _; decide⟩
theorem dinfo9 : (Tryz.prog.info? 9).map (fun i => (i.zero, i.size, i.bytes)) = some (some (.string ⟨#[]⟩), 1, 16) := by kernel_rfl
theorem dinfo3 : (Tryz.prog.info? 3).map (fun i => (i.zero, i.size, i.bytes)) = some (some (.int .i64 0), 1, 8) := by kernel_rfl
theorem below_setRowT {B : Nat} {a b : World} (h : Below B a b) {g : Nat} (hp : B ≤ g) (cs : Array Value) : Below B a (b.setRow g cs) :=
  ⟨h.os, h.tape, h.output, by simpa using h.size, fun k hk => (setRow_other b g k cs (by omega)).trans (h.block k hk)⟩
theorem setRow_onlyX {c : Nat} {u3 w : World} (h : OnlyX c u3 w) (hc : c < u3.heap.size) {g : Nat} (hg : u3.heap.size ≤ g) (cs : Array Value) : OnlyX c u3 (w.setRow g cs) := by
  have := below_setRowT (B := u3.heap.size) (Below.refl u3.heap.size w) hg cs
  exact ⟨this.os.trans h.os, this.tape.trans h.tape, this.output.trans h.output, Nat.le_trans h.size this.size, fun b hb hbc => (this.block b hb).trans (h.block b hb hbc)⟩
theorem setRow_rd {c : Nat} {w : World} (h : RdOk w c) {g : Nat} (hg : c < g) (cs : Array Value) : RdOk (w.setRow g cs) c := h.keepX (below_setRowT (B := g) (Below.refl _ _) (Nat.le_refl _) cs) hg
def DtMk (a : Option Addr) (len cap r k : Nat) (a0 : Option Addr) (tn c0 : Nat) (cc ll kk : Int) (s : ByteArray) (x17 : Value) (sb ib pb m1 m2 : Nat) (L : Array Bool) : Act := { tmps := #[.slice a len cap, undef, .pointer (some ⟨r, 0, none⟩), .pointer (some ⟨r + 1, 0, none⟩), .int .i64 (k : Int), .slice a0 tn c0, .int .i64 cc, .int .i64 ll, .int .i64 kk, sl L 18 (.pointer (some ⟨pb, 0, none⟩)), .slice a len cap, .pointer (some ⟨r + 1, 0, none⟩), .pointer (some ⟨r + 1, 0, none⟩), .int .i64 (k : Int), .tuple #[.slice a0 tn c0, .int .i64 cc, .int .i64 ll, .int .i64 kk], .pointer (some ⟨r + 1, 0, none⟩), .string s, x17, .tuple #[.slice a0 tn c0, .int .i64 cc, .int .i64 ll, .int .i64 kk], .slice a0 tn c0, .int .i64 cc, .int .i64 ll, .int .i64 kk, sl L 0 (.int .i64 (k : Int)), sl L 1 (.int .i64 ((k : Int) % 7)), sl L 2 (.slice (some ⟨sb, 0, none⟩) 8 8), sl L 3 (.pointer (some ⟨r + 1, 0, none⟩)), sl L 4 (.int .i64 (m1 : Int)), sl L 5 (.int .i64 (Pl.m8 m1 : Int)), sl L 6 (.pointer (some ⟨sb, Pl.m8 m1, none⟩)), sl L 7 (.string (Pl.dS m1)), sl L 8 (.pointer (some ⟨r + 1, 0, none⟩)), sl L 9 (.int .i64 (m2 : Int)), sl L 10 (.slice (some ⟨ib, 0, none⟩) 4 4), sl L 11 (.int .i64 (k : Int)), sl L 12 (.int .i64 (Pl.d7 k : Int)), sl L 13 (.int .i64 (Pl.q4 k : Int)), sl L 14 (.pointer (some ⟨ib, Pl.q4 k, none⟩)), sl L 15 (.int .i64 (Pl.dI k)), sl L 16 (.int .i64 ((m2 : Int) * Pl.dI k)), sl L 17 (.agg #[.int .i64 ((k : Int) % 7), .string (Pl.dS m1), .int .i64 ((m2 : Int) * Pl.dI k), .int .i64 0, .int .i64 0]), undef, undef, undef, undef, undef, undef, undef, undef, undef, undef, undef, undef, undef, undef, undef, undef, undef, undef], defers := [] }
def DtW (c : Nat) (u3 : World) (k sb ib pb m1 m2 : Nat) (L : Array Bool) (w : World) : Prop := (OnlyX c u3 w ∧ RdOk w c) ∧ (up L 2 = true → up L 19 = false → u3.heap.size ≤ sb ∧ w.heap[sb]? = some (.cells #[.string ⟨#[]⟩, .string ⟨#[117]⟩, .string ⟨#[97, 32, 98]⟩, .string ⟨#[48]⟩, .string ⟨#[105, 110, 116]⟩, .string ⟨#[10]⟩, .string ⟨#[120, 34]⟩, .string ⟨#[99]⟩] 9)) ∧ (up L 10 = true → up L 19 = false → u3.heap.size ≤ ib ∧ w.heap[ib]? = some (.cells #[.int .i64 1, .int .i64 0, .int .i64 16909060, .int .i64 65536] 3)) ∧ (up L 18 = true → u3.heap.size ≤ pb ∧ w.heap[pb]? = some (.cells (bif up L 19 then #[.int .i64 ((k : Int) % 7), .string (Pl.dS m1), .int .i64 ((m2 : Int) * Pl.dI k), .int .i64 0, .int .i64 0] else #[.int .i64 0, .string ⟨#[]⟩, .int .i64 0, .int .i64 0, .int .i64 0]) 34)) ∧ (up L 4 = true → m1 ≤ 255) ∧ (up L 9 = true → m2 ≤ 255)
theorem DtW.keep {c : Nat} {u3 : World} {k sb ib pb m1 m2 : Nat} {L : Array Bool} {w : World} (h : DtW c u3 k sb ib pb m1 m2 L w) {i : Nat} (hi : i < L.size) (n2 : i ≠ 2) (n10 : i ≠ 10) (n18 : i ≠ 18) (n19 : i ≠ 19) (n4 : i ≠ 4) (n9 : i ≠ 9) : DtW c u3 k sb ib pb m1 m2 (L.setIfInBounds i true) w := by
  unfold DtW at h ⊢
  rw [up_set hi, up_set hi, up_set hi, up_set hi, up_set hi, up_set hi, if_neg n2, if_neg n10, if_neg n18, if_neg n19, if_neg n4, if_neg n9]
  exact h
theorem DtW.turn {c : Nat} {u3 : World} {k sb ib pb m1 m2 : Nat} {L : Array Bool} {w w' : World} (h : DtW c u3 k sb ib pb m1 m2 L w) (hc : c < u3.heap.size) (hb : OnlyX c w w') (hr : RdOk w' c) : DtW c u3 k sb ib pb m1 m2 L w' := by
  have kp : ∀ b o, u3.heap.size ≤ b → w.heap[b]? = some o → w'.heap[b]? = some o := fun b o h1 h2 => (hb.block b (Array.getElem?_eq_some_iff.1 h2).1 (by omega)).trans h2
  exact ⟨⟨h.1.1.trans hb, hr⟩, fun q p => ⟨(h.2.1 q p).1, kp _ _ (h.2.1 q p).1 (h.2.1 q p).2⟩, fun q p => ⟨(h.2.2.1 q p).1, kp _ _ (h.2.2.1 q p).1 (h.2.2.1 q p).2⟩, fun q => ⟨(h.2.2.2.1 q).1, kp _ _ (h.2.2.2.1 q).1 (h.2.2.2.1 q).2⟩, h.2.2.2.2⟩
theorem DtW.m1 {c : Nat} {u3 : World} {k sb ib pb m1 m2 x : Nat} {L : Array Bool} {w : World} (h : DtW c u3 k sb ib pb m1 m2 L w) (hi : 4 < L.size) (n19 : up L 19 = false) (hx : x ≤ 255) : DtW c u3 k sb ib pb x m2 (L.setIfInBounds 4 true) w := by
  unfold DtW at h ⊢
  rw [up_set hi, up_set hi, up_set hi, up_set hi, up_set hi, up_set hi, if_neg (by decide), if_neg (by decide), if_neg (by decide), if_neg (by decide), if_pos rfl, if_neg (by decide)]
  rw [n19] at h ⊢
  exact ⟨h.1, h.2.1, h.2.2.1, h.2.2.2.1, fun _ => hx, h.2.2.2.2.2⟩
theorem DtW.m2 {c : Nat} {u3 : World} {k sb ib pb m1 m2 x : Nat} {L : Array Bool} {w : World} (h : DtW c u3 k sb ib pb m1 m2 L w) (hi : 9 < L.size) (n19 : up L 19 = false) (hx : x ≤ 255) : DtW c u3 k sb ib pb m1 x (L.setIfInBounds 9 true) w := by
  unfold DtW at h ⊢
  rw [up_set hi, up_set hi, up_set hi, up_set hi, up_set hi, up_set hi, if_neg (by decide), if_neg (by decide), if_neg (by decide), if_neg (by decide), if_neg (by decide), if_pos rfl]
  rw [n19] at h ⊢
  exact ⟨h.1, h.2.1, h.2.2.1, h.2.2.2.1, h.2.2.2.2.1, fun _ => hx⟩
theorem DtW.sb {c : Nat} {u3 : World} {k sb ib pb m1 m2 x : Nat} {L : Array Bool} {w : World} (h : DtW c u3 k sb ib pb m1 m2 L w) (hi : 2 < L.size) (hx : u3.heap.size ≤ x) (hr : w.heap[x]? = some (.cells #[.string ⟨#[]⟩, .string ⟨#[117]⟩, .string ⟨#[97, 32, 98]⟩, .string ⟨#[48]⟩, .string ⟨#[105, 110, 116]⟩, .string ⟨#[10]⟩, .string ⟨#[120, 34]⟩, .string ⟨#[99]⟩] 9)) : DtW c u3 k x ib pb m1 m2 (L.setIfInBounds 2 true) w := by
  unfold DtW at h ⊢
  rw [up_set hi, up_set hi, up_set hi, up_set hi, up_set hi, up_set hi, if_pos rfl, if_neg (by decide), if_neg (by decide), if_neg (by decide), if_neg (by decide), if_neg (by decide)]
  exact ⟨h.1, fun _ _ => ⟨hx, hr⟩, h.2.2⟩
theorem DtW.ib {c : Nat} {u3 : World} {k sb ib pb m1 m2 x : Nat} {L : Array Bool} {w : World} (h : DtW c u3 k sb ib pb m1 m2 L w) (hi : 10 < L.size) (hx : u3.heap.size ≤ x) (hr : w.heap[x]? = some (.cells #[.int .i64 1, .int .i64 0, .int .i64 16909060, .int .i64 65536] 3)) : DtW c u3 k sb x pb m1 m2 (L.setIfInBounds 10 true) w := by
  unfold DtW at h ⊢
  rw [up_set hi, up_set hi, up_set hi, up_set hi, up_set hi, up_set hi, if_neg (by decide), if_neg (by decide), if_pos rfl, if_neg (by decide), if_neg (by decide), if_neg (by decide)]
  exact ⟨h.1, h.2.1, fun _ _ => ⟨hx, hr⟩, h.2.2.2⟩
theorem DtW.pb {c : Nat} {u3 : World} {k sb ib pb m1 m2 x : Nat} {L : Array Bool} {w : World} (h : DtW c u3 k sb ib pb m1 m2 L w) (hi : 18 < L.size) (n19 : up L 19 = false) (hx : u3.heap.size ≤ x) (hr : w.heap[x]? = some (.cells #[.int .i64 0, .string ⟨#[]⟩, .int .i64 0, .int .i64 0, .int .i64 0] 34)) : DtW c u3 k sb ib x m1 m2 (L.setIfInBounds 18 true) w := by
  unfold DtW at h ⊢
  rw [up_set hi, up_set hi, up_set hi, up_set hi, up_set hi, up_set hi, if_neg (by decide), if_neg (by decide), if_neg (by decide), if_pos rfl, if_neg (by decide), if_neg (by decide), n19]
  rw [n19] at h
  exact ⟨h.1, h.2.1, h.2.2.1, fun _ => ⟨hx, hr⟩, h.2.2.2.2⟩
theorem DtW.done {c : Nat} {u3 : World} {k sb ib pb m1 m2 : Nat} {L : Array Bool} {w w' : World} (h : DtW c u3 k sb ib pb m1 m2 L w) (hi : 19 < L.size) (hb : OnlyX c u3 w') (hrd : RdOk w' c) (h4 : up L 4 = true) (h9 : up L 9 = true) (hx : u3.heap.size ≤ pb) (hr : w'.heap[pb]? = some (.cells #[.int .i64 ((k : Int) % 7), .string (Pl.dS m1), .int .i64 ((m2 : Int) * Pl.dI k), .int .i64 0, .int .i64 0] 34)) : DtW c u3 k sb ib pb m1 m2 (L.setIfInBounds 19 true) w' := by
  unfold DtW at h ⊢
  rw [up_set hi, up_set hi, up_set hi, up_set hi, up_set hi, up_set hi, if_neg (by decide), if_pos rfl, if_neg (by decide), if_neg (by decide), if_neg (by decide), if_neg (by decide)]
  exact ⟨⟨hb, hrd⟩, fun _ q => (by cases q), fun _ q => (by cases q), fun _ => ⟨hx, hr⟩, h.2.2.2.2⟩
set_option maxRecDepth 8000 in
set_option maxHeartbeats 8000000 in
theorem drawTT_x (w : World) (a : Option Addr) (len cap : Nat) (h : IsBytes w a len cap) : Calls Tryz.prog 20 #[.slice a len cap] w fun e w' => ∃ t : Pl.Tk, Pl.Dt t ∧ e = .returned (.agg #[.int .i64 t.k, .string t.S, .int .i64 t.N, .int .i64 t.l, .int .i64 t.c]) ∧ Below w.heap.size w w' := by
  have H : Hid (IsBytes (w.alloc (.cells #[.int .i64 0, .string ⟨#[]⟩, .int .i64 0, .int .i64 0, .int .i64 0] 34)) a len cap) := by
    refine ⟨h.1, h.2.1, ?_⟩
    rcases h.2.2 with q | ⟨b, off, e, hb, hc⟩
    · exact .inl q
    · refine .inr ⟨b, off, e, by simp; omega, fun i hi => ?_⟩
      obtain ⟨v, hv, hcl⟩ := hc i hi
      exact ⟨v, hv, by rw [← hcl]; exact World.cell?_of_block (w := w) (Below.heap_alloc w _ b hb)⟩
  clear h
  go_enter Tryz.func20, Tryz.ntmps20
  go_wp2_with fail
  refine (open_any _ a len cap H.out).mono ?_
  rintro e u0 ⟨rfl, r0, b0⟩
  have H0 : Hid (RdOk u0 (w.heap.size + 1)) := by show RdOk u0 (w.heap.size + 1); simpa using r0
  have Z0 : u0.heap[w.heap.size]? = some (.cells #[.int .i64 0, .string ⟨#[]⟩, .int .i64 0, .int .i64 0, .int .i64 0] 34) := (b0.block _ (by simp)).trans (heap_alloc_new w _)
  have B0 : Below w.heap.size w u0 := (below_allocL w _).trans (b0.mono (by simp))
  have hs0 : w.heap.size + 1 < u0.heap.size := H0.out.lt
  simp only [World.size_alloc]
  clear r0 b0 H
  go_wp2_with fail
  refine (next_x u0 _ H0.out).mono ?_
  rintro e u1 ⟨k, rfl, hk, r1, d1⟩
  have Z1 : u1.heap[w.heap.size]? = some (.cells #[.int .i64 0, .string ⟨#[]⟩, .int .i64 0, .int .i64 0, .int .i64 0] 34) := (d1.block _ (by omega) (by omega)).trans Z0
  have B1 : Below w.heap.size w u1 := B0.trans (d1.below (by omega) (by omega))
  have H1 : Hid (RdOk u1 (w.heap.size + 1)) := r1
  have hs1 : w.heap.size + 1 < u1.heap.size := r1.lt
  clear r1 d1 Z0 B0 H0
  go_wp2_with fail
  refine (l5Piece_x u1 _ H1.out).mono ?_
  rintro e u2 ⟨s, rfl, hsz, r2, d2⟩
  have Z2 : u2.heap[w.heap.size]? = some (.cells #[.int .i64 0, .string ⟨#[]⟩, .int .i64 0, .int .i64 0, .int .i64 0] 34) := (d2.block _ (by omega) (by omega)).trans Z1
  have B2 : Below w.heap.size w u2 := B1.trans (d2.below (by omega) (by omega))
  have H2 : Hid (RdOk u2 (w.heap.size + 1)) := r2
  have hs2 : w.heap.size + 1 < u2.heap.size := r2.lt
  clear r2 d2 Z1 B1 H1
  have hcv : ∀ (u : World) (t : ByteArray), (convert 9 22 (.string t)).run Tryz.prog u = .ok (.slice (some ⟨u.heap.size, 0, none⟩) t.size (grownCap u t.size 0 5)) (Lib.bytesWorld u 5 t) := fun u t => Lib.run_convert_string_bytes u 9 22 5 t Tryz.underlying9 Tryz.underlying22 Tryz.underlying5
  have BY : Below u2.heap.size u2 (Lib.bytesWorld u2 5 s) := Joins.below_bytesWorld _ _ 5 _ (Nat.le_refl _)
  have Z3 : (Lib.bytesWorld u2 5 s).heap[w.heap.size]? = some (.cells #[.int .i64 0, .string ⟨#[]⟩, .int .i64 0, .int .i64 0, .int .i64 0] 34) := (BY.block _ (by omega)).trans Z2
  have B3 : Below w.heap.size w (Lib.bytesWorld u2 5 s) := B2.trans (BY.mono (by omega))
  have H3 : Hid (RdOk (Lib.bytesWorld u2 5 s) (w.heap.size + 1)) := H2.out.x BY
  have hs3 : w.heap.size + 1 < (Lib.bytesWorld u2 5 s).heap.size := H3.out.lt
  have HZ3 : Hid _ := Z3
  have HB3 : Hid (Below w.heap.size w (Lib.bytesWorld u2 5 s)) := B3
  clear BY Z2 B2 H2 Z3 B3
  go_upto_region 4 with (go_at_call 7; refine (specLex_is (some ⟨u2.heap.size, 0, none⟩) s.size _ s rfl (by omega) (Lib.bytesWorld u2 5 s) (back_at u2 s (u2.heap.size) rfl _)).mono ?_; rintro e u3 ⟨h2, d3⟩; obtain ⟨ts, cc, ll, kk, a0, c0, hx, rfl, g2⟩ := LexSaid.got h2; have D3 : Hid _ := d3; have HX : Hid (LxAll s (ts, cc, ll, kk)) := hx; have HG : Hid _ := g2; clear h2 g2 d3 hx)
  obtain ⟨U, hU⟩ : ∃ U, U = u3.drew := ⟨_, rfl⟩
  have hc3 : w.heap.size + 1 < u3.heap.size := by have := D3.out.size; omega
  have R3 : RdOk u3 (w.heap.size + 1) := H3.out.x D3.out
  have dU : OnlyX (w.heap.size + 1) u3 U := by rw [hU]; exact OnlyX.of_below (Below.refl _ _).drew
  have rU : RdOk U (w.heap.size + 1) := by rw [hU]; exact R3
  obtain ⟨i9, hi9, hz9, hs9, _⟩ := info_parts dinfo9
  obtain ⟨i3, hi3, hz3, hs3', _⟩ := info_parts dinfo3
  have hs3i : i3.size = 1 := hs3'
  refine wp_region_any (by kernel_rfl) ?_
  change wpAny _ _ _ _ _ _ _ (World.drew _)
  rw [← hU]
  refine wpAny_inw (fun L act w' => ∃ sb ib pb m1 m2, act = DtMk a len cap w.heap.size k a0 ts.length c0 cc ll kk s (.slice (some ⟨u2.heap.size, 0, none⟩) s.size (grownCap u2 s.size 0 5)) sb ib pb m1 m2 L ∧ DtW (w.heap.size + 1) u3 k sb ib pb m1 m2 L w') ?done (by kernel_rfl) ?step _ 20 _ _ (by kernel_rfl) ?init (by decide)
  case init => exact ⟨0, 0, 0, 0, 0, by simp only [DtMk, sl_no (up_init _ _)], ⟨dU, rU⟩, fun q => absurd (q.symm.trans (up_init _ _)) (by decide), fun q => absurd (q.symm.trans (up_init _ _)) (by decide), fun q => absurd (q.symm.trans (up_init _ _)) (by decide), fun q => absurd (q.symm.trans (up_init _ _)) (by decide), fun q => absurd (q.symm.trans (up_init _ _)) (by decide)⟩
  case step =>
    intro L act w i o hI hlt hs nl hC hd ho K hK
    obtain ⟨sb, ib, pb, m1, m2, rfl, hW⟩ := hI
    have hi_lt : i < 20 := (Array.getElem?_eq_some_iff.1 ho).1
    rcases (show i = 0 ∨ i = 1 ∨ i = 2 ∨ i = 3 ∨ i = 4 ∨ i = 5 ∨ i = 6 ∨ i = 7 ∨ i = 8 ∨ i = 9 ∨ i = 10 ∨ i = 11 ∨ i = 12 ∨ i = 13 ∨ i = 14 ∨ i = 15 ∨ i = 16 ∨ i = 17 ∨ i = 18 ∨ i = 19 by omega) with rfl | rfl | rfl | rfl | rfl | rfl | rfl | rfl | rfl | rfl | rfl | rfl | rfl | rfl | rfl | rfl | rfl | rfl | rfl | rfl
    · change some _ = some o at ho
      cases ho
      simp only [DtMk]
      go_simp
      exact hK _ _ ⟨sb, ib, pb, m1, m2, by simp only [DtMk, sl_set hlt, reduceIte, Nat.reduceEqDiff]; try rfl, (hW.keep hlt (by decide) (by decide) (by decide) (by decide) (by decide) (by decide))⟩
    · change some _ = some o at ho
      cases ho
      have q0 : up L 0 = true := (by first | exact hd { on := 0, ground := .data } (by simp) rfl | exact hd { on := 0, ground := .chain } (by simp) rfl | exact hd { on := 0, ground := .phase } (by simp) rfl)
      simp only [DtMk, sl_yes q0]
      go_simp
      exact hK _ _ ⟨sb, ib, pb, m1, m2, by simp only [DtMk, sl_set hlt, sl_yes q0, reduceIte, Nat.reduceEqDiff]; try rfl, (hW.keep hlt (by decide) (by decide) (by decide) (by decide) (by decide) (by decide))⟩
    · change some _ = some o at ho
      cases ho
      have n6 : up L 6 = false := hC.no nl 6 rfl (by kernel_rfl)
      have n7 : up L 7 = false := hC.no n6 7 rfl (by kernel_rfl)
      simp only [DtMk]
      simp only [sl_no n6]
      refine Eq.mpr (if_pos (by rfl)) ?_
      refine wp_buildSlice 59 9 8 _ rfl #[.string ⟨#[]⟩, .string ⟨#[117]⟩, .string ⟨#[97, 32, 98]⟩, .string ⟨#[48]⟩, .string ⟨#[105, 110, 116]⟩, .string ⟨#[10]⟩, .string ⟨#[120, 34]⟩, .string ⟨#[99]⟩] i9 _ Tryz.underlying59 hi9 hz9 (by rw [hs9]; decide) (by rw [hs9]; decide) (by rw [hs9]; kernel_rfl) ?_
      exact hK _ _ ⟨w.heap.size, ib, pb, m1, m2, by simp only [DtMk, sl_set hlt, sl_no n6, reduceIte, Nat.reduceEqDiff]; try rfl, (DtW.sb (hW.turn hc3 (OnlyX.of_below (below_alloc w _)) (hW.1.2.alloc _)) hlt hW.1.1.size (heap_alloc_new w _))⟩
    · change some _ = some o at ho
      cases ho
      simp only [DtMk]
      go_simp
      exact hK _ _ ⟨sb, ib, pb, m1, m2, by simp only [DtMk, sl_set hlt, reduceIte, Nat.reduceEqDiff]; try rfl, (hW.keep hlt (by decide) (by decide) (by decide) (by decide) (by decide) (by decide))⟩
    · change some _ = some o at ho
      cases ho
      have q3 : up L 3 = true := (by first | exact hd { on := 3, ground := .data } (by simp) rfl | exact hd { on := 3, ground := .chain } (by simp) rfl | exact hd { on := 3, ground := .phase } (by simp) rfl)
      have n5 : up L 5 = false := hC.no nl 5 rfl (by kernel_rfl)
      have n6 : up L 6 = false := hC.no n5 6 rfl (by kernel_rfl)
      have n7 : up L 7 = false := hC.no n6 7 rfl (by kernel_rfl)
      have n17 : up L 17 = false := hC.no n7 17 rfl (by kernel_rfl)
      have n19 : up L 19 = false := hC.no n17 19 rfl (by kernel_rfl)
      simp only [DtMk, sl_yes q3]
      simp only [sl_no n5, sl_no n6, sl_no n7, sl_no n17]
      go_simp
      refine (next_x w _ hW.1.2).mono ?_
      rintro e z ⟨x, rfl, hx, rz, dz⟩
      go_simp
      exact hK _ _ ⟨sb, ib, pb, x, m2, by simp only [DtMk, sl_set hlt, sl_yes q3, sl_no n5, sl_no n6, sl_no n7, sl_no n17, reduceIte, Nat.reduceEqDiff]; try rfl, (DtW.m1 (hW.turn hc3 dz rz) hlt n19 hx)⟩
    · change some _ = some o at ho
      cases ho
      have q4 : up L 4 = true := (by first | exact hd { on := 4, ground := .data } (by simp) rfl | exact hd { on := 4, ground := .chain } (by simp) rfl | exact hd { on := 4, ground := .phase } (by simp) rfl)
      simp only [DtMk, sl_yes q4]
      go_simp
      try simp only [Pl.m8_is]
      exact hK _ _ ⟨sb, ib, pb, m1, m2, by simp only [DtMk, sl_set hlt, sl_yes q4, reduceIte, Nat.reduceEqDiff]; try rfl, (hW.keep hlt (by decide) (by decide) (by decide) (by decide) (by decide) (by decide))⟩
    · change some _ = some o at ho
      cases ho
      have q2 : up L 2 = true := (by first | exact hd { on := 2, ground := .data } (by simp) rfl | exact hd { on := 2, ground := .chain } (by simp) rfl | exact hd { on := 2, ground := .phase } (by simp) rfl)
      have q5 : up L 5 = true := (by first | exact hd { on := 5, ground := .data } (by simp) rfl | exact hd { on := 5, ground := .chain } (by simp) rfl | exact hd { on := 5, ground := .phase } (by simp) rfl)
      have i1 : (Pl.m8 m1 : Int) < 8 := by have := Pl.m8_lt m1; omega
      simp only [DtMk, sl_yes q2, sl_yes q5]
      go_simp
      exact hK _ _ ⟨sb, ib, pb, m1, m2, by simp only [DtMk, sl_set hlt, sl_yes q2, sl_yes q5, reduceIte, Nat.reduceEqDiff]; try rfl, (hW.keep hlt (by decide) (by decide) (by decide) (by decide) (by decide) (by decide))⟩
    · change some _ = some o at ho
      cases ho
      have q6 : up L 6 = true := (by first | exact hd { on := 6, ground := .data } (by simp) rfl | exact hd { on := 6, ground := .chain } (by simp) rfl | exact hd { on := 6, ground := .phase } (by simp) rfl)
      have n17 : up L 17 = false := hC.no nl 17 rfl (by kernel_rfl)
      have n19 : up L 19 = false := hC.no n17 19 rfl (by kernel_rfl)
      have q2 : up L 2 = true := hC 6 _ rfl q6 { on := 2, ground := .data } (by simp) rfl
      have q5 : up L 5 = true := hC 6 _ rfl q6 { on := 5, ground := .data } (by simp) rfl
      have hcl : w.cell? ⟨sb, Pl.m8 m1, none⟩ = some (.string (Pl.dS m1)) := by rw [cell_of_row _ _ _ _ 9 (0, 0) (hW.2.1 q2 n19).2]; exact Pl.dsT_at m1
      simp only [DtMk, sl_yes q6]
      go_simp
      exact hK _ _ ⟨sb, ib, pb, m1, m2, by simp only [DtMk, sl_set hlt, sl_yes q6, reduceIte, Nat.reduceEqDiff]; try rfl, (hW.keep hlt (by decide) (by decide) (by decide) (by decide) (by decide) (by decide))⟩
    · change some _ = some o at ho
      cases ho
      simp only [DtMk]
      go_simp
      exact hK _ _ ⟨sb, ib, pb, m1, m2, by simp only [DtMk, sl_set hlt, reduceIte, Nat.reduceEqDiff]; try rfl, (hW.keep hlt (by decide) (by decide) (by decide) (by decide) (by decide) (by decide))⟩
    · change some _ = some o at ho
      cases ho
      have q8 : up L 8 = true := (by first | exact hd { on := 8, ground := .data } (by simp) rfl | exact hd { on := 8, ground := .chain } (by simp) rfl | exact hd { on := 8, ground := .phase } (by simp) rfl)
      have n16 : up L 16 = false := hC.no nl 16 rfl (by kernel_rfl)
      have n17 : up L 17 = false := hC.no n16 17 rfl (by kernel_rfl)
      have n19 : up L 19 = false := hC.no n17 19 rfl (by kernel_rfl)
      simp only [DtMk, sl_yes q8]
      simp only [sl_no n16, sl_no n17]
      go_simp
      refine (next_x w _ hW.1.2).mono ?_
      rintro e z ⟨x, rfl, hx, rz, dz⟩
      go_simp
      exact hK _ _ ⟨sb, ib, pb, m1, x, by simp only [DtMk, sl_set hlt, sl_yes q8, sl_no n16, sl_no n17, reduceIte, Nat.reduceEqDiff]; try rfl, (DtW.m2 (hW.turn hc3 dz rz) hlt n19 hx)⟩
    · change some _ = some o at ho
      cases ho
      have n14 : up L 14 = false := hC.no nl 14 rfl (by kernel_rfl)
      have n15 : up L 15 = false := hC.no n14 15 rfl (by kernel_rfl)
      simp only [DtMk]
      simp only [sl_no n14]
      refine Eq.mpr (if_pos (by rfl)) ?_
      refine wp_buildSlice 60 3 4 _ rfl #[.int .i64 1, .int .i64 0, .int .i64 16909060, .int .i64 65536] i3 _ Tryz.underlying60 hi3 hz3 (by rw [hs3i]; decide) (by rw [hs3i]; decide) (by rw [hs3i]; kernel_rfl) ?_
      exact hK _ _ ⟨sb, w.heap.size, pb, m1, m2, by simp only [DtMk, sl_set hlt, sl_no n14, reduceIte, Nat.reduceEqDiff]; try rfl, (DtW.ib (hW.turn hc3 (OnlyX.of_below (below_alloc w _)) (hW.1.2.alloc _)) hlt hW.1.1.size (heap_alloc_new w _))⟩
    · change some _ = some o at ho
      cases ho
      simp only [DtMk]
      go_simp
      exact hK _ _ ⟨sb, ib, pb, m1, m2, by simp only [DtMk, sl_set hlt, reduceIte, Nat.reduceEqDiff]; try rfl, (hW.keep hlt (by decide) (by decide) (by decide) (by decide) (by decide) (by decide))⟩
    · change some _ = some o at ho
      cases ho
      have q11 : up L 11 = true := (by first | exact hd { on := 11, ground := .data } (by simp) rfl | exact hd { on := 11, ground := .chain } (by simp) rfl | exact hd { on := 11, ground := .phase } (by simp) rfl)
      have e12 : IntKind.i64.wrap ((k : Int) / 7) = (Pl.d7 k : Int) := by rw [IntKind.wrap_i64]; unfold Pl.d7; omega
      simp only [DtMk, sl_yes q11]
      go_simp
      try simp only [e12]
      exact hK _ _ ⟨sb, ib, pb, m1, m2, by simp only [DtMk, sl_set hlt, sl_yes q11, reduceIte, Nat.reduceEqDiff]; try rfl, (hW.keep hlt (by decide) (by decide) (by decide) (by decide) (by decide) (by decide))⟩
    · change some _ = some o at ho
      cases ho
      have q12 : up L 12 = true := (by first | exact hd { on := 12, ground := .data } (by simp) rfl | exact hd { on := 12, ground := .chain } (by simp) rfl | exact hd { on := 12, ground := .phase } (by simp) rfl)
      simp only [DtMk, sl_yes q12]
      go_simp
      try simp only [Pl.q4_is]
      exact hK _ _ ⟨sb, ib, pb, m1, m2, by simp only [DtMk, sl_set hlt, sl_yes q12, reduceIte, Nat.reduceEqDiff]; try rfl, (hW.keep hlt (by decide) (by decide) (by decide) (by decide) (by decide) (by decide))⟩
    · change some _ = some o at ho
      cases ho
      have q10 : up L 10 = true := (by first | exact hd { on := 10, ground := .data } (by simp) rfl | exact hd { on := 10, ground := .chain } (by simp) rfl | exact hd { on := 10, ground := .phase } (by simp) rfl)
      have q13 : up L 13 = true := (by first | exact hd { on := 13, ground := .data } (by simp) rfl | exact hd { on := 13, ground := .chain } (by simp) rfl | exact hd { on := 13, ground := .phase } (by simp) rfl)
      have i2 : (Pl.q4 k : Int) < 4 := by have := Pl.q4_lt k; omega
      simp only [DtMk, sl_yes q10, sl_yes q13]
      go_simp
      exact hK _ _ ⟨sb, ib, pb, m1, m2, by simp only [DtMk, sl_set hlt, sl_yes q10, sl_yes q13, reduceIte, Nat.reduceEqDiff]; try rfl, (hW.keep hlt (by decide) (by decide) (by decide) (by decide) (by decide) (by decide))⟩
    · change some _ = some o at ho
      cases ho
      have q14 : up L 14 = true := (by first | exact hd { on := 14, ground := .data } (by simp) rfl | exact hd { on := 14, ground := .chain } (by simp) rfl | exact hd { on := 14, ground := .phase } (by simp) rfl)
      have n16 : up L 16 = false := hC.no nl 16 rfl (by kernel_rfl)
      have n17 : up L 17 = false := hC.no n16 17 rfl (by kernel_rfl)
      have n19 : up L 19 = false := hC.no n17 19 rfl (by kernel_rfl)
      have q10 : up L 10 = true := hC 14 _ rfl q14 { on := 10, ground := .data } (by simp) rfl
      have hcl : w.cell? ⟨ib, Pl.q4 k, none⟩ = some (.int .i64 (Pl.dI k)) := by rw [cell_of_row _ _ _ _ 3 (0, 0) (hW.2.2.1 q10 n19).2]; exact Pl.diT_at k
      simp only [DtMk, sl_yes q14]
      go_simp
      exact hK _ _ ⟨sb, ib, pb, m1, m2, by simp only [DtMk, sl_set hlt, sl_yes q14, reduceIte, Nat.reduceEqDiff]; try rfl, (hW.keep hlt (by decide) (by decide) (by decide) (by decide) (by decide) (by decide))⟩
    · change some _ = some o at ho
      cases ho
      have q9 : up L 9 = true := (by first | exact hd { on := 9, ground := .data } (by simp) rfl | exact hd { on := 9, ground := .chain } (by simp) rfl | exact hd { on := 9, ground := .phase } (by simp) rfl)
      have q15 : up L 15 = true := (by first | exact hd { on := 15, ground := .data } (by simp) rfl | exact hd { on := 15, ground := .chain } (by simp) rfl | exact hd { on := 15, ground := .phase } (by simp) rfl)
      have hm2 := hW.2.2.2.2.2 q9
      have hmul := Int.mul_le_mul (show (m2 : Int) ≤ 255 by omega) (Pl.dI_b k).2 (Pl.dI_b k).1 (by decide)
      have hmn := Int.mul_nonneg (show 0 ≤ (m2 : Int) by omega) (Pl.dI_b k).1
      have hwr : IntKind.i64.wrap ((m2 : Int) * Pl.dI k) = (m2 : Int) * Pl.dI k := by rw [IntKind.wrap_i64]; omega
      simp only [DtMk, sl_yes q9, sl_yes q15]
      go_simp
      try simp only [hwr]
      exact hK _ _ ⟨sb, ib, pb, m1, m2, by simp only [DtMk, sl_set hlt, sl_yes q9, sl_yes q15, reduceIte, Nat.reduceEqDiff]; try rfl, (hW.keep hlt (by decide) (by decide) (by decide) (by decide) (by decide) (by decide))⟩
    · change some _ = some o at ho
      cases ho
      have q1 : up L 1 = true := (by first | exact hd { on := 1, ground := .data } (by simp) rfl | exact hd { on := 1, ground := .chain } (by simp) rfl | exact hd { on := 1, ground := .phase } (by simp) rfl)
      have q7 : up L 7 = true := (by first | exact hd { on := 7, ground := .data } (by simp) rfl | exact hd { on := 7, ground := .chain } (by simp) rfl | exact hd { on := 7, ground := .phase } (by simp) rfl)
      have q16 : up L 16 = true := (by first | exact hd { on := 16, ground := .data } (by simp) rfl | exact hd { on := 16, ground := .chain } (by simp) rfl | exact hd { on := 16, ground := .phase } (by simp) rfl)
      simp only [DtMk, sl_yes q1, sl_yes q7, sl_yes q16]
      go_simp
      exact hK _ _ ⟨sb, ib, pb, m1, m2, by simp only [DtMk, sl_set hlt, sl_yes q1, sl_yes q7, sl_yes q16, reduceIte, Nat.reduceEqDiff]; try rfl, (hW.keep hlt (by decide) (by decide) (by decide) (by decide) (by decide) (by decide))⟩
    · change some _ = some o at ho
      cases ho
      have n19 : up L 19 = false := hC.no nl 19 rfl (by kernel_rfl)
      simp only [DtMk]
      go_simp
      exact hK _ _ ⟨sb, ib, w.heap.size, m1, m2, by simp only [DtMk, sl_set hlt, reduceIte, Nat.reduceEqDiff]; try rfl, (DtW.pb (hW.turn hc3 (OnlyX.of_below (below_alloc w _)) (hW.1.2.alloc _)) hlt n19 hW.1.1.size (heap_alloc_new w _))⟩
    · change some _ = some o at ho
      cases ho
      have q17 : up L 17 = true := (by first | exact hd { on := 17, ground := .data } (by simp) rfl | exact hd { on := 17, ground := .chain } (by simp) rfl | exact hd { on := 17, ground := .phase } (by simp) rfl)
      have q18 : up L 18 = true := (by first | exact hd { on := 18, ground := .data } (by simp) rfl | exact hd { on := 18, ground := .chain } (by simp) rfl | exact hd { on := 18, ground := .phase } (by simp) rfl)
      have q9 : up L 9 = true := hC 16 _ rfl (hC 17 _ rfl q17 { on := 16, ground := .data } (by simp) rfl) { on := 9, ground := .data } (by simp) rfl
      have q7 : up L 7 = true := hC 17 _ rfl q17 { on := 7, ground := .data } (by simp) rfl
      have q6 : up L 6 = true := hC 7 _ rfl q7 { on := 6, ground := .data } (by simp) rfl
      have q5 : up L 5 = true := hC 6 _ rfl q6 { on := 5, ground := .data } (by simp) rfl
      have q4 : up L 4 = true := hC 5 _ rfl q5 { on := 4, ground := .data } (by simp) rfl
      have hp := hW.2.2.2.1 q18
      rw [nl] at hp
      simp only [DtMk, sl_yes q17, sl_yes q18]
      rw [if_pos (by rfl)]
      refine wp_store_row 34 _ _ rfl pb _ rfl rfl 34 #[.int .i64 0, .string ⟨#[]⟩, .int .i64 0, .int .i64 0, .int .i64 0] hp.2 (by kernel_rfl) rfl (by kernel_rfl) ?_
      exact hK _ _ ⟨sb, ib, pb, m1, m2, by simp only [DtMk, sl_set hlt, sl_yes q17, sl_yes q18, reduceIte, Nat.reduceEqDiff]; try rfl, (hW.done hlt (setRow_onlyX hW.1.1 hc3 hp.1 _) (setRow_rd hW.1.2 (by have := hp.1; omega) _) q4 q9 hp.1 (setRow_heap _ _ _ _ _ _ hp.2))⟩
  case done =>
    rintro L act u4 ⟨sb, ib, pb, m1, m2, rfl, hW⟩ hall
    have hup : ∀ j, j < 20 → up L j = true := fun j hj => hall j (by simpa using hj)
    have hp := hW.2.2.2.1 (hup 18 (by decide))
    rw [hup 19 (by decide)] at hp
    have hm1 := hW.2.2.2.2.1 (hup 4 (by decide))
    have hm2 := hW.2.2.2.2.2 (hup 9 (by decide))
    simp only [DtMk, sl_yes (hup 0 (by decide)), sl_yes (hup 1 (by decide)), sl_yes (hup 2 (by decide)), sl_yes (hup 3 (by decide)), sl_yes (hup 4 (by decide)), sl_yes (hup 5 (by decide)), sl_yes (hup 6 (by decide)), sl_yes (hup 7 (by decide)), sl_yes (hup 8 (by decide)), sl_yes (hup 9 (by decide)), sl_yes (hup 10 (by decide)), sl_yes (hup 11 (by decide)), sl_yes (hup 12 (by decide)), sl_yes (hup 13 (by decide)), sl_yes (hup 14 (by decide)), sl_yes (hup 15 (by decide)), sl_yes (hup 16 (by decide)), sl_yes (hup 17 (by decide)), sl_yes (hup 18 (by decide))]
    have hs4 := hW.1.1.size
    have hs3' := D3.out.size
    have Z4 : Hid (u4.heap[w.heap.size]? = some (.cells #[.int .i64 0, .string ⟨#[]⟩, .int .i64 0, .int .i64 0, .int .i64 0] 34)) := (hW.1.1.block _ (by omega) (by omega)).trans ((D3.out.block _ (by omega)).trans HZ3.out)
    have B4 : Hid (Below w.heap.size w u4) := HB3.out.trans ((D3.out.mono (by omega)).trans (hW.1.1.below (by omega) (by omega)))
    have P4 : Hid (u4.heap[pb]? = some (.cells #[.int .i64 ((k : Int) % 7), .string (Pl.dS m1), .int .i64 ((m2 : Int) * Pl.dI k), .int .i64 0, .int .i64 0] 34)) := hp.2
    have hpb : u3.heap.size ≤ pb := hp.1
    have hmul := Int.mul_le_mul (show (m2 : Int) ≤ 255 by omega) (Pl.dI_b k).2 (Pl.dI_b k).1 (by decide)
    have hmn := Int.mul_nonneg (show 0 ≤ (m2 : Int) by omega) (Pl.dI_b k).1
    have HD : Hid (Pl.Dt ⟨(k : Int) % 7, Pl.dS m1, (m2 : Int) * Pl.dI k, 0, 0⟩) := ⟨by have := Pl.dS_sz m1; show (Pl.dS m1).size ≤ _; omega, hmn, by show (m2 : Int) * Pl.dI k ≤ _; omega⟩
    have G4 : Hid (u4.ownsRow (Lib.bytesWorld u2 5 s).heap.size 34 5 (.slice a0 ts.length c0) ts.length (Pl.Tk.all ts)) := own_onlyX HG.out.1 hW.1.1 (by omega)
    clear hW hp hall hup HG HZ3 HB3 D3 dU rU R3 H3 hmul hmn
    by_cases h1 : 1 < ts.length
    rotate_left
    · have e1 : decide ((1 : Int) < (ts.length : Int)) = false := by simp; omega
      go_wp2_with (first | (refine wpList_load_row rfl 34 _ rfl (pb) ?hx 34 #[.int .i64 ((k : Int) % 7), .string (Pl.dS m1), .int .i64 ((m2 : Int) * Pl.dI k), .int .i64 0, .int .i64 0] (0, 0) _ ?hg Tryz.underlying34 ?hd ?hi ?_; (case hx => rfl); (case hg => exact P4.out); (case hd => rfl); (case hi => kernel_rfl)) | (refine wpList_store_row rfl 34 _ _ rfl (w.heap.size) #[.int .i64 ((k : Int) % 7), .string (Pl.dS m1), .int .i64 ((m2 : Int) * Pl.dI k), .int .i64 0, .int .i64 0] ?hx ?hy 34 #[.int .i64 0, .string ⟨#[]⟩, .int .i64 0, .int .i64 0, .int .i64 0] ?hg ?hi ?ho ?h1 ?_; (case hx => rfl); (case hy => rfl); (case hg => exact Z4.out); (case hi => kernel_rfl); (case ho => kernel_rfl); (case h1 => kernel_rfl); refine Hid.out ?_))
      unfold Hid
      go_wp2_with fail
      exact bodyPost_ret (v := .agg #[.int .i64 ((k : Int) % 7), .string (Pl.dS m1), .int .i64 ((m2 : Int) * Pl.dI k), .int .i64 0, .int .i64 0]) (results_cell_row Tryz.results20 _ _ (w.heap.size) 34 #[.int .i64 ((k : Int) % 7), .string (Pl.dS m1), .int .i64 ((m2 : Int) * Pl.dI k), .int .i64 0, .int .i64 0] (0, 0) _ rfl (setRow_heap _ _ _ _ _ _ Z4.out) Tryz.underlying34 rfl (by kernel_rfl)) rfl ⟨_, HD.out, rfl, below_setRowT B4.out (Nat.le_refl _) _⟩
    have e1 : decide ((1 : Int) < (ts.length : Int)) = true := by simp; omega
    by_cases h2 : k < 180
    rotate_left
    · have e2 : decide ((k : Int) < 180) = false := by simp; omega
      go_wp2_with (first | (refine wpList_load_row rfl 34 _ rfl (pb) ?hx 34 #[.int .i64 ((k : Int) % 7), .string (Pl.dS m1), .int .i64 ((m2 : Int) * Pl.dI k), .int .i64 0, .int .i64 0] (0, 0) _ ?hg Tryz.underlying34 ?hd ?hi ?_; (case hx => rfl); (case hg => exact P4.out); (case hd => rfl); (case hi => kernel_rfl)) | (refine wpList_store_row rfl 34 _ _ rfl (w.heap.size) #[.int .i64 ((k : Int) % 7), .string (Pl.dS m1), .int .i64 ((m2 : Int) * Pl.dI k), .int .i64 0, .int .i64 0] ?hx ?hy 34 #[.int .i64 0, .string ⟨#[]⟩, .int .i64 0, .int .i64 0, .int .i64 0] ?hg ?hi ?ho ?h1 ?_; (case hx => rfl); (case hy => rfl); (case hg => exact Z4.out); (case hi => kernel_rfl); (case ho => kernel_rfl); (case h1 => kernel_rfl); refine Hid.out ?_))
      unfold Hid
      go_wp2_with fail
      exact bodyPost_ret (v := .agg #[.int .i64 ((k : Int) % 7), .string (Pl.dS m1), .int .i64 ((m2 : Int) * Pl.dI k), .int .i64 0, .int .i64 0]) (results_cell_row Tryz.results20 _ _ (w.heap.size) 34 #[.int .i64 ((k : Int) % 7), .string (Pl.dS m1), .int .i64 ((m2 : Int) * Pl.dI k), .int .i64 0, .int .i64 0] (0, 0) _ rfl (setRow_heap _ _ _ _ _ _ Z4.out) Tryz.underlying34 rfl (by kernel_rfl)) rfl ⟨_, HD.out, rfl, below_setRowT B4.out (Nat.le_refl _) _⟩
    have e2 : decide ((k : Int) < 180) = true := by simp; omega
    have HY := lx_dt HX.out 0 (by omega)
    obtain ⟨g, rfl, hlo, hg1, x0, hx0, c0', c1', c2', c3', c4'⟩ := tok_at G4.out (k := 0) (by omega)
    rw [← hx0] at HY
    simp only [Nat.zero_mul, Nat.zero_add] at c0' c1' c2' c3' c4'
    have hU9 := Tryz.underlying34
    clear hx0 hlo
    go_wp2_with (first | (refine wpList_store_row rfl 34 _ _ rfl (pb) #[.int .i64 x0.k, .string x0.S, .int .i64 x0.N, .int .i64 x0.l, .int .i64 x0.c] ?hx ?hy 34 #[.int .i64 ((k : Int) % 7), .string (Pl.dS m1), .int .i64 ((m2 : Int) * Pl.dI k), .int .i64 0, .int .i64 0] ?hg ?hi ?ho ?h1 ?_; (case hx => rfl); (case hy => rfl); (case hg => exact P4.out); (case hi => kernel_rfl); (case ho => kernel_rfl); (case h1 => kernel_rfl); refine Hid.out ?_))
    unfold Hid
    refine wpList_at fun u5 hu5 => ?_
    have P5 : Hid (u5.heap[pb]? = some (.cells #[.int .i64 x0.k, .string x0.S, .int .i64 x0.N, .int .i64 x0.l, .int .i64 x0.c] 34)) := by show u5.heap[pb]? = _; rw [hu5]; exact setRow_heap _ _ _ _ _ _ P4.out
    have Z5 : Hid (u5.heap[w.heap.size]? = some (.cells #[.int .i64 0, .string ⟨#[]⟩, .int .i64 0, .int .i64 0, .int .i64 0] 34)) := by show u5.heap[w.heap.size]? = _; rw [hu5]; exact (setRow_other _ _ _ _ (by omega)).trans Z4.out
    have B5 : Hid (Below w.heap.size w u5) := by show Below w.heap.size w u5; rw [hu5]; exact below_setRowT B4.out (by omega) _
    clear hu5 Z4 B4 P4 HD G4 c0' c1' c2' c3' c4'
    by_cases h7 : k % 8 = 7
    rotate_left
    · have e7 : ((k : Int) % 8 == 7) = false := by simp; omega
      go_wp2_with (first | (refine wpList_load_row rfl 34 _ rfl (pb) ?hx 34 #[.int .i64 x0.k, .string x0.S, .int .i64 x0.N, .int .i64 x0.l, .int .i64 x0.c] (0, 0) _ ?hg Tryz.underlying34 ?hd ?hi ?_; (case hx => rfl); (case hg => exact P5.out); (case hd => rfl); (case hi => kernel_rfl)) | (refine wpList_store_row rfl 34 _ _ rfl (w.heap.size) #[.int .i64 x0.k, .string x0.S, .int .i64 x0.N, .int .i64 x0.l, .int .i64 x0.c] ?hx ?hy 34 #[.int .i64 0, .string ⟨#[]⟩, .int .i64 0, .int .i64 0, .int .i64 0] ?hg ?hi ?ho ?h1 ?_; (case hx => rfl); (case hy => rfl); (case hg => exact Z5.out); (case hi => kernel_rfl); (case ho => kernel_rfl); (case h1 => kernel_rfl); refine Hid.out ?_))
      unfold Hid
      go_wp2_with fail
      exact bodyPost_ret (v := .agg #[.int .i64 x0.k, .string x0.S, .int .i64 x0.N, .int .i64 x0.l, .int .i64 x0.c]) (results_cell_row Tryz.results20 _ _ (w.heap.size) 34 #[.int .i64 x0.k, .string x0.S, .int .i64 x0.N, .int .i64 x0.l, .int .i64 x0.c] (0, 0) _ rfl (setRow_heap _ _ _ _ _ _ Z5.out) Tryz.underlying34 rfl (by kernel_rfl)) rfl ⟨_, (show Pl.Dt x0 from ⟨by omega, HY.2.1, by omega⟩), rfl, below_setRowT B5.out (Nat.le_refl _) _⟩
    have e7 : ((k : Int) % 8 == 7) = true := by simp; omega
    have hwr : IntKind.i64.wrap (x0.N + 1) = x0.N + 1 := by rw [IntKind.wrap_i64]; omega
    have q2 : u5.cell? ⟨pb, 2, none⟩ = some (.int .i64 x0.N) := cell_of_row u5 _ 2 _ 34 (0, 0) P5.out
    have f2 : u5.frozen? ⟨pb, 2, none⟩ = false := frozen_of_row u5 _ 2 _ 34 P5.out
    have P6 : Hid ((u5.setCell ⟨pb, 2, none⟩ (.int .i64 (x0.N + 1))).heap[pb]? = some (.cells #[.int .i64 x0.k, .string x0.S, .int .i64 (x0.N + 1), .int .i64 x0.l, .int .i64 x0.c] 34)) := heap_setCell_same _ _ _ _ _ _ P5.out
    have Z6 : Hid ((u5.setCell ⟨pb, 2, none⟩ (.int .i64 (x0.N + 1))).heap[w.heap.size]? = some (.cells #[.int .i64 0, .string ⟨#[]⟩, .int .i64 0, .int .i64 0, .int .i64 0] 34)) := (heap_setCell_other u5 ⟨pb, 2, none⟩ _ _ (by show w.heap.size ≠ pb; omega)).trans Z5.out
    have B6 : Hid (Below w.heap.size w (u5.setCell ⟨pb, 2, none⟩ (.int .i64 (x0.N + 1)))) := B5.out.setCell (p := ⟨pb, 2, none⟩) (by show w.heap.size ≤ pb; omega) _
    go_wp2_with (first | (refine wpList_load_row rfl 34 _ rfl (pb) ?hx 34 #[.int .i64 x0.k, .string x0.S, .int .i64 (x0.N + 1), .int .i64 x0.l, .int .i64 x0.c] (0, 0) _ ?hg Tryz.underlying34 ?hd ?hi ?_; (case hx => rfl); (case hg => exact P6.out); (case hd => rfl); (case hi => kernel_rfl)) | (refine wpList_store_row rfl 34 _ _ rfl (w.heap.size) #[.int .i64 x0.k, .string x0.S, .int .i64 (x0.N + 1), .int .i64 x0.l, .int .i64 x0.c] ?hx ?hy 34 #[.int .i64 0, .string ⟨#[]⟩, .int .i64 0, .int .i64 0, .int .i64 0] ?hg ?hi ?ho ?h1 ?_; (case hx => rfl); (case hy => rfl); (case hg => exact Z6.out); (case hi => kernel_rfl); (case ho => kernel_rfl); (case h1 => kernel_rfl); refine Hid.out ?_))
    unfold Hid
    go_wp2_with fail
    exact bodyPost_ret (v := .agg #[.int .i64 x0.k, .string x0.S, .int .i64 (x0.N + 1), .int .i64 x0.l, .int .i64 x0.c]) (results_cell_row Tryz.results20 _ _ (w.heap.size) 34 #[.int .i64 x0.k, .string x0.S, .int .i64 (x0.N + 1), .int .i64 x0.l, .int .i64 x0.c] (0, 0) _ rfl (setRow_heap _ _ _ _ _ _ Z6.out) Tryz.underlying34 rfl (by kernel_rfl)) rfl ⟨_, (show Pl.Dt ⟨x0.k, x0.S, x0.N + 1, x0.l, x0.c⟩ from ⟨by show x0.S.size ≤ _; omega, by show 0 ≤ x0.N + 1; omega, by show x0.N + 1 ≤ _; omega⟩), rfl, below_setRowT B6.out (Nat.le_refl _) _⟩
end Go.Proofs.YtdplfflkmphpbaaGreatDoor.W
namespace Go.Proofs.YtdplfflkmphpbaaGreatDoor.W
open Go.RowKit
def PowLies (w : World) : Prop := Lib.TabIs Tryz.prog w "internal/strconv.uint64pow10" .u64 Lib.pow10Tab
theorem tab_belowT {n : String} {g : Nat} {k : IntKind} {zs : List Int} {w w' : World} (hg : Tryz.prog.globalNamed n = some g) (h : Lib.TabIs Tryz.prog w n k zs) (hb : Below w.heap.size w w') : Lib.TabIs Tryz.prog w' n k zs := by
  unfold Lib.TabIs World.var? at h ⊢
  rw [hg] at h ⊢
  simp only [Option.bind_some] at h ⊢
  have hlt : g < w.heap.size := by
    rcases Nat.lt_or_ge g w.heap.size with h' | h'
    · exact h'
    · rw [Array.getElem?_eq_none h'] at h; cases h
  rw [hb.block g hlt]
  exact h
theorem PowLies.below {w w' : World} (h : PowLies w) (hb : Below w.heap.size w w') : PowLies w' := tab_belowT (g := 1) (by kernel_rfl) h hb
theorem itoa_is (n : Int) (h0 : -9223372036854775808 ≤ n) (h1 : n ≤ 9223372036854775807) (w : World) (h : PowLies w) : Calls Tryz.prog 64 #[.int .i64 n] w fun e w' => e = .returned (.string (Pl.num n)) ∧ Below w.heap.size w w' :=
  (Tryz.strconv_Itoa n h0 h1 w h).mono fun e w' ⟨he, k, os, hw⟩ => ⟨he, hw ▸ Lib.below_grow _ w (Nat.le_refl _) k os⟩
theorem clone_is (s : ByteArray) (hs : s.size ≤ 1048576) (w : World) : Calls Tryz.prog 50 #[.string s] w fun e w' => e = .returned (.string s) ∧ Below w.heap.size w w' := by
  go_enter Tryz.func50, Tryz.ntmps50
  go_wp2_with (go_at_call 63; refine (Tryz.stringslite_Clone s _ (by omega)).mono ?_; rintro e u1 ⟨rfl, d1⟩)
  go_ret
  exact ⟨rfl, d1⟩
theorem qt_one (b : Nat) (hb : b < 256) : Pl.qt ⟨#[UInt8.ofNat b]⟩ 39 = Pl.chr b := by
  have e : (UInt8.ofNat b).toNat = b := by simp; omega
  unfold Pl.qt Pl.qc Pl.chr
  show (⟨((UInt8.ofNat 39 :: (List.take 1 [UInt8.ofNat b]).flatMap _) ++ [UInt8.ofNat 39]).toArray⟩ : ByteArray) = _
  simp [e]
theorem str_lit {a : ByteArray} {l : List UInt8} (h : a = ⟨l.toArray⟩) : (a.toList == l) = true := by rw [h, ByteArray.toList_eq]; exact beq_self_eq_true _
theorem str_nlit {a : ByteArray} {l : List UInt8} (h : a ≠ ⟨l.toArray⟩) : (a.toList == l) = false := by
  rw [ByteArray.toList_eq, Bool.eq_false_iff]
  intro q
  exact h (Go.WideShapes.bytes_inj (by simpa using q))
theorem num_size20 (n : Int) (h0 : -9223372036854775808 ≤ n) (h1 : n ≤ 9223372036854775807) : (Pl.num n).size ≤ 20 := by
  rcases Int.lt_or_le n 0 with q | q
  · have key : ∀ (m u : Nat), u < 10 ^ (m + 1) → (Lib.decDigits u).length ≤ m + 1 := by
      intro m
      induction m with
      | zero => intro u h; rw [Pl.dig_small (by simpa using h)]; simp
      | succ m ih =>
        intro u h
        by_cases h' : u < 10
        · rw [Pl.dig_small h']; simp
        · rw [Pl.dig_big h']
          rw [Nat.pow_succ] at h
          have := ih (u / 10) (by omega)
          simp
          omega
    rw [Pl.num_neg q]
    have := key 18 n.natAbs (by omega)
    simp [ByteArray.size]
    omega
  · have := Pl.num_size19 n q h1
    omega
theorem one_byte {w : World} {b : Nat} {n : Int} {o : Obj} (hb : (b : Int) = n % 256) (h2 : b < 256) (j : Nat) (h : j < (⟨#[UInt8.ofNat b]⟩ : ByteArray).size) : ((w.alloc o).alloc (.cells #[.int .u8 (n % 256)] 5)).cell? ⟨w.heap.size + 1, j, none⟩ = some (.int .u8 (((⟨#[UInt8.ofNat b]⟩ : ByteArray)[j]'h).toNat : Int)) := by
  obtain rfl : j = 0 := by
    have : (⟨#[UInt8.ofNat b]⟩ : ByteArray).size = 1 := rfl
    omega
  have e : (((⟨#[UInt8.ofNat b]⟩ : ByteArray)[0]'h).toNat : Int) = n % 256 := by
    show ((UInt8.ofNat b).toNat : Int) = _
    simp
    omega
  rw [e]
  simp
set_option maxRecDepth 8000 in
set_option maxHeartbeats 4000000 in
theorem integerText_is (t : Pl.Tk) (h0 : -9223372036854775808 ≤ t.N) (h1 : t.N ≤ 9223372036854775807) (w : World) (hd : DbLies w) (hp : PowLies w) : Calls Tryz.prog 51 #[.agg #[.int .i64 t.k, .string t.S, .int .i64 t.N, .int .i64 t.l, .int .i64 t.c]] w fun e w' => e = .returned (.string (if t.S = ⟨#[99]⟩ then Pl.chr (t.N % 256).toNat else if t.S = ⟨#[117]⟩ then Pl.num t.N ++ ⟨#[117]⟩ else Pl.num t.N)) ∧ Below w.heap.size w w' := by
  have HD : Hid (DbLies w) := hd
  have HP : Hid (PowLies w) := hp
  clear hd hp
  by_cases hc : t.S = ⟨#[99]⟩
  · rw [if_pos hc]
    have e1 : (t.S.toList == [99]) = true := str_lit hc
    obtain ⟨b, hb⟩ : ∃ b : Nat, (b : Int) = t.N % 256 := ⟨(t.N % 256).toNat, by omega⟩
    have hb2 : b < 256 := by omega
    have HB : Hid ((b : Int) = t.N % 256) := hb
    have eb : (t.N % 256).toNat = b := by omega
    rw [eb]
    clear hc hb eb
    have B1 : Hid (Below w.heap.size w ((w.alloc (.cells #[.int .i64 t.k, .string t.S, .int .i64 t.N, .int .i64 t.l, .int .i64 t.c] 34)).alloc (.cells #[.int .u8 (t.N % 256)] 5))) := ((below_allocL w _).trans ((below_allocL _ _).mono (by simp)))
    go_enter Tryz.func51, Tryz.ntmps51
    go_wp2_with (go_at_call 38; (refine (quote_any ⟨#[UInt8.ofNat b]⟩ (by show 1 ≤ 1048576; decide) 39 (.inr rfl) (w.heap.size + 1) 1 ((w.alloc (.cells #[.int .i64 t.k, .string t.S, .int .i64 t.N, .int .i64 t.l, .int .i64 t.c] 34)).alloc (.cells #[.int .u8 (t.N % 256)] 5)) (HD.out.below B1.out) (by simp) (fun j h => one_byte HB.out hb2 j h)).mono ?_); rintro e u1 ⟨rfl, d1⟩)
    go_ret
    exact ⟨by rw [qt_one b hb2]; rfl, B1.out.trans (d1.mono B1.out.size)⟩
  rw [if_neg hc]
  have e1 : (t.S.toList == [99]) = false := str_nlit hc
  have hns := num_size20 t.N h0 h1
  have hcat2 : ¬ (9223372036854775807 < (Pl.num t.N).size + 1) := by omega
  have HNB : Hid (-9223372036854775808 ≤ t.N ∧ t.N ≤ 9223372036854775807) := ⟨h0, h1⟩
  clear hc h0 h1
  by_cases hu : t.S = ⟨#[117]⟩
  · rw [if_pos hu]
    have e2 : (t.S.toList == [117]) = true := str_lit hu
    clear hu
    go_enter Tryz.func51, Tryz.ntmps51
    go_wp2_with (go_at_call 64; refine (itoa_is t.N HNB.out.1 HNB.out.2 _ (HP.out.below (below_allocL _ _))).mono ?_; rintro e u1 ⟨rfl, d1⟩)
    go_ret
    exact ⟨rfl, (below_allocL w _).trans (d1.mono (by simp))⟩
  · rw [if_neg hu]
    have e2 : (t.S.toList == [117]) = false := str_nlit hu
    clear hu
    go_enter Tryz.func51, Tryz.ntmps51
    go_wp2_with (go_at_call 64; refine (itoa_is t.N HNB.out.1 HNB.out.2 _ (HP.out.below (below_allocL _ _))).mono ?_; rintro e u1 ⟨rfl, d1⟩)
    go_ret
    exact ⟨rfl, (below_allocL w _).trans (d1.mono (by simp))⟩
set_option maxRecDepth 8000 in
set_option maxHeartbeats 4000000 in
theorem textFor_is (t : Pl.Tk) (h0 : -9223372036854775808 ≤ t.N) (h1 : t.N ≤ 9223372036854775807) (hS : t.S.size ≤ 1048576) (w : World) (hd : DbLies w) (hp : PowLies w) : Calls Tryz.prog 34 #[.agg #[.int .i64 t.k, .string t.S, .int .i64 t.N, .int .i64 t.l, .int .i64 t.c]] w fun e w' => e = .returned (.string (Pl.txtI t)) ∧ Below w.heap.size w w' := by
  have HD : Hid (DbLies w) := hd
  have HP : Hid (PowLies w) := hp
  have HNB : Hid (-9223372036854775808 ≤ t.N ∧ t.N ≤ 9223372036854775807) := ⟨h0, h1⟩
  have c0 : (w.alloc (.cells #[.int .i64 t.k, .string t.S, .int .i64 t.N, .int .i64 t.l, .int .i64 t.c] 34)).cell? ⟨w.heap.size, 0, none⟩ = some (.int .i64 t.k) := cell_of_row _ _ 0 _ 34 (0, 0) (heap_alloc_new w _)
  clear hd hp h0 h1
  unfold Pl.txtI
  have fin : ∀ (k1 k2 k5 k3 k4 : Bool), (t.k == 1) = k1 → (t.k == 2) = k2 → (t.k == 5) = k5 → (t.k == 3) = k3 → (t.k == 4) = k4 → True := fun _ _ _ _ _ _ _ _ _ _ => trivial
  clear fin
  by_cases hw : t.k = 1 ∨ t.k = 2 ∨ t.k = 5
  · rw [if_pos hw]
    rcases hw with hk | hk | hk
    · have hk' := hk
      have k1 : (t.k == 1) = true := by simp [hk]
      have k2 : (t.k == 2) = false := by simp [hk]
      have k5 : (t.k == 5) = false := by simp [hk]
      clear hk hk'
      go_enter Tryz.func34, Tryz.ntmps34
      go_wp2_with (go_at_call 50; refine (clone_is t.S hS _).mono ?_; rintro e u1 ⟨rfl, d1⟩)
      go_ret
      exact ⟨rfl, (below_allocL w _).trans (d1.mono (by simp))⟩
    · have hk' := hk
      have k1 : (t.k == 1) = false := by simp [hk]
      have k2 : (t.k == 2) = true := by simp [hk]
      have k5 : (t.k == 5) = false := by simp [hk]
      clear hk hk'
      go_enter Tryz.func34, Tryz.ntmps34
      go_wp2_with (go_at_call 50; refine (clone_is t.S hS _).mono ?_; rintro e u1 ⟨rfl, d1⟩)
      go_ret
      exact ⟨rfl, (below_allocL w _).trans (d1.mono (by simp))⟩
    · have hk' := hk
      have k1 : (t.k == 1) = false := by simp [hk]
      have k2 : (t.k == 2) = false := by simp [hk]
      have k5 : (t.k == 5) = true := by simp [hk]
      clear hk hk'
      go_enter Tryz.func34, Tryz.ntmps34
      go_wp2_with (go_at_call 50; refine (clone_is t.S hS _).mono ?_; rintro e u1 ⟨rfl, d1⟩)
      go_ret
      exact ⟨rfl, (below_allocL w _).trans (d1.mono (by simp))⟩
  rw [if_neg hw]
  have k1 : (t.k == 1) = false := by simp; omega
  have k2 : (t.k == 2) = false := by simp; omega
  have k5 : (t.k == 5) = false := by simp; omega
  clear hw
  by_cases h3 : t.k = 3
  · rw [if_pos h3]
    have k3 : (t.k == 3) = true := by simp [h3]
    clear h3
    have HI : Hid (∀ u : World, Below w.heap.size w u → Calls Tryz.prog 51 #[.agg #[.int .i64 t.k, .string t.S, .int .i64 t.N, .int .i64 t.l, .int .i64 t.c]] u fun e w' => e = .returned (.string (if t.S = ⟨#[99]⟩ then Pl.chr (t.N % 256).toNat else if t.S = ⟨#[117]⟩ then Pl.num t.N ++ ⟨#[117]⟩ else Pl.num t.N)) ∧ Below u.heap.size u w') := fun u hu => integerText_is t HNB.out.1 HNB.out.2 u (HD.out.below hu) (HP.out.below hu)
    generalize (if t.S = ⟨#[99]⟩ then Pl.chr (t.N % 256).toNat else if t.S = ⟨#[117]⟩ then Pl.num t.N ++ ⟨#[117]⟩ else Pl.num t.N) = X at *
    go_enter Tryz.func34, Tryz.ntmps34
    go_wp2_with (first | (go_at_call 51; refine (HI.out _ (below_allocL _ _)).mono ?_; rintro e u1 ⟨rfl, d1⟩) | (refine wpList_load_row rfl 34 _ rfl w.heap.size ?hx 34 #[.int .i64 t.k, .string t.S, .int .i64 t.N, .int .i64 t.l, .int .i64 t.c] (0, 0) _ ?hg Tryz.underlying34 ?hd ?hi ?_; (case hx => rfl); (case hg => exact heap_alloc_new w _); (case hd => rfl); (case hi => kernel_rfl)))
    go_ret
    exact ⟨rfl, (below_allocL w _).trans (d1.mono (by simp))⟩
  rw [if_neg h3]
  have k3 : (t.k == 3) = false := by simpa using h3
  clear h3
  by_cases h4 : t.k = 4
  · rw [if_pos h4]
    have k4 : (t.k == 4) = true := by simp [h4]
    clear h4
    go_enter Tryz.func34, Tryz.ntmps34
    go_wp2_with (go_at_call 22; refine (implQuote_any t.S hS _ (HD.out.below (below_allocL _ _))).mono ?_; rintro e u1 ⟨rfl, d1⟩)
    go_ret
    exact ⟨rfl, (below_allocL w _).trans (d1.mono (by simp))⟩
  · rw [if_neg h4]
    have k4 : (t.k == 4) = false := by simpa using h4
    clear h4
    go_enter Tryz.func34, Tryz.ntmps34
    go_wp2_with fail
    go_ret
    exact ⟨rfl, below_allocL w _⟩
end Go.Proofs.YtdplfflkmphpbaaGreatDoor.W
