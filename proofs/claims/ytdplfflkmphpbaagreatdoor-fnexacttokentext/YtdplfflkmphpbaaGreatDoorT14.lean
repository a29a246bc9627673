import Derived.Test.YtdplfflkmphpbaaGreatDoorT06
import Derived.Test.YtdplfflkmphpbaaGreatDoorT13
import Derived.Lib.ItoaNum
import Derived.Test.YtdplfflkmphpbaaGreatDoorT08
import Derived.Shelf.Strings.SlTrimAscii
import Derived.Deep.QuietTactic
import Derived.BigQuiet
import Derived.Great.Walk
set_option linter.unusedVariables false
set_option linter.unusedSimpArgs false
namespace Go.Proofs.YtdplfflkmphpbaaGreatDoor.W
open Go.RowKit
theorem one_cell_m (m : Nat) (hm : m < 256) (w : World) (j : Nat) (u : Value) (hj : (Pl.cl [UInt8.ofNat m])[j]? = some u) : (w.alloc (.cells #[.int .u8 (m : Int)] 5)).cell? ((⟨w.heap.size, 0, none⟩ : Addr).add j) = some u := by
  rcases j with _ | j
  · have e : ((UInt8.ofNat m).toNat : Int) = (m : Int) := by simp; omega
    simp only [Pl.cl, List.map_cons, List.map_nil, List.getElem?_cons_zero, Option.some.injEq, e] at hj
    subst hj
    exact cell_of_row _ w.heap.size 0 _ 5 (0, 0) (heap_alloc_new w _)
  · simp [Pl.cl] at hj
set_option maxHeartbeats 2000000 in
theorem quote_any (s : ByteArray) (hs : s.size ≤ 1048576) (m : Nat) (hm : m = 34 ∨ m = 39) (b cap : Nat) (w : World) (hd : DbLies w) (hb : b < w.heap.size) (hcs : ∀ j (h : j < s.size), w.cell? ⟨b, j, none⟩ = some (.int .u8 ((s[j]'h).toNat : Int))) :
    Calls Tryz.prog 38 #[.slice (some ⟨b, 0, none⟩) s.size cap, .int .u8 m] w fun e w' => e = .returned (.string (Pl.qt s m)) ∧ Below w.heap.size w w' := by
  obtain ⟨i0, hi, hz0, hz1, hz2⟩ := info_parts qinfou8
  have hm' : m < 256 := by omega
  have em : ((UInt8.ofNat m).toNat : Int) = (m : Int) := by simp; omega
  have H0 : Hid ((w.alloc (.cells #[.int .u8 (m : Int)] 5)).ownsRow w.heap.size 5 1 (.slice (some ⟨w.heap.size, 0, none⟩) 1 1) 1 (Pl.cl (Pl.qc s m 0))) := by
    show (w.alloc _).ownsRow _ _ _ _ _ _
    rw [Pl.qc_zero]
    have := World.ownsRow_lit w #[.int .u8 (m : Int)] 1 (base := w.heap.size) (e := 5) (size := 1) (Nat.le_refl _) (by decide) rfl
    rw [show Pl.cl [UInt8.ofNat m] = [.int .u8 (m : Int)] by rw [← em]; rfl]
    exact this
  have HC : Hid (∀ j (h : j < s.size), w.cell? ⟨b, j, none⟩ = some (.int .u8 ((s[j]'h).toNat : Int))) := hcs
  have HD : Hid (DbLies w) := hd
  clear hcs hd em
  go_enter Tryz.func38, Tryz.ntmps38
  go_wp2_with fail
  go_loopw [5, 12] (fun v i wr => ∃ k : Nat, k ≤ s.size ∧ i = .int .i64 k ∧ wr.ownsRow w.heap.size 5 1 v (Pl.qc s m k).length (Pl.cl (Pl.qc s m k)) ∧ Below w.heap.size w wr) (fun _ i _ => s.size - (intOf i).toNat)
  case atStart => exact ⟨0, Nat.zero_le _, rfl, by rw [show (Pl.qc s m 0).length = 1 from rfl]; exact H0.out, (Below.refl _ _).alloc (Nat.le_refl _) _⟩
  case round =>
    obtain ⟨k, hk, rfl, hown, hbel⟩ := hrel
    have HO : Hid (wr.ownsRow w.heap.size 5 1 _ (Pl.qc s m k).length (Pl.cl (Pl.qc s m k))) := hown
    have HB : Hid (Below w.heap.size w wr) := hbel
    clear hown hbel H0
    by_cases hlt : k < s.size
    · have hi' : (k : Int) < (s.size : Int) := by omega
      have hc256 : (s[k]'hlt).toNat < 256 := (s[k]'hlt).toNat_lt
      have hcell : wr.cell? ⟨b, k, none⟩ = some (.int .u8 ((s[k]'hlt).toNat : Int)) := (HB.out.cell (p := ⟨b, k, none⟩) hb).trans (HC.out k hlt)
      have HDr : Hid (DbLies wr) := HD.out.below HB.out
      go_wp2_with (first | (go_at_call 53; refine (byteText_any (s[k]'hlt).toNat m hc256 hm _ HDr.out).mono ?_; rintro e u1 ⟨rfl, hb1⟩) | (at_builtin; refine Lib.wpList_append_own_string _ rfl (.tmp 16) (.tmp 19) 22 9 rfl w.heap.size 5 i0 Tryz.underlying22 Tryz.underlying9 hi hz0 hz1 hz2 _ _ _ rfl (ow_keep HO.out hb1) _ rfl (by have := Pl.qc_len s m k hk; have := Pl.shown_len (s[k]'hlt).toNat m; show _ + (Pl.shown (s[k]'hlt).toNat m).length ≤ _; unfold maxLen; omega) (by have := Pl.qc_len s m k hk; have := Pl.shown_len (s[k]'hlt).toNat m; show _ + (Pl.shown (s[k]'hlt).toNat m).length ≤ _; omega) (Nat.le_trans HB.out.size hb1.size) ?_; intro v' u2 hown' hgr _; rw [Pl.cl_str, ← Pl.cl_app] at hown'))
      refine ⟨⟨k + 1, by omega, by go_num, ?_, ?_⟩, by simp [intOf]; omega⟩
      · rw [Pl.qc_succ s m k hlt, List.length_append]; exact hown'
      · exact (HB.out.trans (hb1.mono HB.out.size)).grown hgr (Nat.le_trans HB.out.size hb1.size) (fun j hj => (HO.out.lt j hj).1)
    · have hi' : ¬ (k : Int) < (s.size : Int) := by omega
      obtain rfl : s.size = k := by omega
      have HE : Hid ((wr.alloc (.cells #[.int .u8 (m : Int)] 5)).ownsRow w.heap.size 5 1 _ (Pl.qc s m s.size).length (Pl.cl (Pl.qc s m s.size))) := HO.out.alloc _
      go_wp2_with (first | (at_builtin; refine wpList_append_own _ rfl (.tmp 22) (.tmp 24) 22 rfl w.heap.size 5 i0 (.int .u8 0) 1 1 Tryz.underlying22 hi hz0 hz1 hz2 rfl (by decide) _ _ _ rfl HE.out ⟨wr.heap.size, 0, none⟩ 1 _ (Pl.cl [UInt8.ofNat m]) rfl rfl (one_cell_m m hm' wr) (by intro u hu; obtain ⟨n, _, rfl⟩ := List.mem_map.1 hu; rfl) (by have := Pl.qc_len s m s.size (Nat.le_refl _); unfold maxLen; omega) (by have := Pl.qc_len s m s.size (Nat.le_refl _); omega) (Nat.le_trans HB.out.size (by simp)) ?_; intro v' u2 hown' hgr _; rw [← Pl.cl_app] at hown'; have hst := own_string hown' (Nat.succ_pos _)))
      go_ret
      refine ⟨rfl, ?_⟩
      exact (HB.out.trans (((Below.refl _ _).alloc (Nat.le_refl _) _).mono HB.out.size)).grown hgr (Nat.le_trans HB.out.size (by simp)) (fun j hj => (HO.out.lt j hj).1)
theorem quote_34 (s : ByteArray) (hs : s.size ≤ 1048576) (b cap : Nat) (w : World) (hd : DbLies w) (hb : b < w.heap.size) (hcs : ∀ j (h : j < s.size), w.cell? ⟨b, j, none⟩ = some (.int .u8 ((s[j]'h).toNat : Int))) :
    Calls Tryz.prog 38 #[.slice (some ⟨b, 0, none⟩) s.size cap, .int .u8 34] w fun e w' => e = .returned (.string (Pl.qt s 34)) ∧ Below w.heap.size w w' := quote_any s hs 34 (.inl rfl) b cap w hd hb hcs
theorem bw_byte (w : World) (s : ByteArray) (j : Nat) (h : j < s.size) : (Lib.bytesWorld w 5 s).cell? ⟨w.heap.size, j, none⟩ = some (.int .u8 ((s[j]'h).toNat : Int)) := by
  rw [Lib.bytesWorld_cell w 5 s j h]
  obtain ⟨⟨l⟩⟩ := s
  have hl : j < l.length := h
  simp [List.getD, List.getElem?_eq_getElem hl]
  rfl
theorem implQuote_any (s : ByteArray) (hs : s.size ≤ 1048576) (w : World) (hd : DbLies w) : Calls Tryz.prog 22 #[.string s] w fun e w' => e = .returned (.string (Pl.qt s 34)) ∧ Below w.heap.size w w' := by
  have hcv : ∀ (u : World) (t : ByteArray), (convert 9 22 (.string t)).run Tryz.prog u = .ok (.slice (some ⟨u.heap.size, 0, none⟩) t.size (grownCap u t.size 0 5)) (Lib.bytesWorld u 5 t) := fun u t => Lib.run_convert_string_bytes u 9 22 5 t Tryz.underlying9 Tryz.underlying22 Tryz.underlying5
  have HD : Hid (DbLies w) := hd
  clear hd
  have HW : Hid (Below w.heap.size w (Lib.bytesWorld w 5 s)) := Joins.below_bytesWorld _ _ 5 _ (Nat.le_refl _)
  go_enter Tryz.func22, Tryz.ntmps22
  go_wp2_with (go_at_call 38; refine (quote_34 s hs w.heap.size _ _ (HD.out.below HW.out) (by rw [Lib.bytesWorld_size]; omega) (bw_byte w s)).mono ?_; rintro e u1 ⟨rfl, hb1⟩)
  go_ret
  exact ⟨rfl, HW.out.trans (hb1.mono HW.out.size)⟩
end Go.Proofs.YtdplfflkmphpbaaGreatDoor.W
namespace Go.Proofs.YtdplfflkmphpbaaGreatDoor.Pl
def num (n : Int) : ByteArray := ⟨(Lib.itoa n).toArray⟩
theorem dig_small {u : Nat} (h : u < 10) : Lib.decDigits u = [UInt8.ofNat (48 + u)] := by rw [Lib.decDigits, dif_pos h]
theorem dig_big {u : Nat} (h : ¬ u < 10) : Lib.decDigits u = Lib.decDigits (u / 10) ++ [UInt8.ofNat (48 + u % 10)] := by rw [Lib.decDigits, dif_neg h]
theorem num_nat {n : Int} (h : 0 ≤ n) : num n = ⟨(Lib.decDigits n.toNat).toArray⟩ := by
  unfold num Lib.itoa
  rw [if_neg (by omega)]
theorem num_neg {n : Int} (h : n < 0) : num n = ⟨(45 :: Lib.decDigits n.natAbs).toArray⟩ := by
  unfold num Lib.itoa
  rw [if_pos h]
theorem dig_head : ∀ (d u : Nat), u ≤ d → ∃ c r, Lib.decDigits u = c :: r ∧ 48 ≤ c.toNat ∧ c.toNat ≤ 57 := by
  intro d
  induction d with
  | zero =>
    intro u hu
    obtain rfl : u = 0 := by omega
    exact ⟨_, [], dig_small (by omega), by decide, by decide⟩
  | succ d ih =>
    intro u hu
    by_cases h : u < 10
    · refine ⟨_, [], dig_small h, ?_, ?_⟩ <;> simp <;> omega
    · obtain ⟨c, r, h1, h2⟩ := ih (u / 10) (by omega)
      exact ⟨c, r ++ [UInt8.ofNat (48 + u % 10)], by rw [dig_big h, h1]; rfl, h2⟩
theorem wrdR_S {s : ByteArray} {k N : Int} {S : ByteArray} (h : wrdR s = .ok (k, S, N)) : (k = 3 ∧ (S = ⟨#[117]⟩ ∨ S = ⟨#[]⟩)) ∨ ((k = 1 ∨ k = 2) ∧ S = s) := by
  unfold wrdR at h
  split at h
  · split at h
    · cases h
    · rename_i S' N' hi
      cases h
      refine .inl ⟨rfl, ?_⟩
      unfold intR at hi
      split at hi
      · cases hi
      · split at hi
        · cases hi
        · have hi2 := (Except.ok.inj hi)
          have e1 := congrArg Prod.fst hi2
          simp only at e1
          rw [← e1]
          split
          · exact .inl rfl
          · exact .inr rfl
  · split at h
    · cases h
    · split at h
      · cases h; exact .inr ⟨.inr rfl, rfl⟩
      · cases h; exact .inr ⟨.inl rfl, rfl⟩
theorem tokF_S {s : ByteArray} {i : Nat} (hi : i < s.size) {k N : Int} {S : ByteArray} {n : Nat} (h : tokF s i = .ok (k, S, N, n)) : (k = 3 ∧ (S = ⟨#[117]⟩ ∨ S = ⟨#[]⟩)) ∨ (k = 3 ∧ S = ⟨#[99]⟩ ∧ 0 ≤ N) ∨ (k = 4 ∧ S.size ≤ 200) ∨ ((k = 1 ∨ k = 2 ∨ k = 5) ∧ S.size + i ≤ s.size) := by
  have hsz := ext_sz s i
  have hn := (tokF_n hi h).1
  unfold tokF at h
  split at h
  · have hr := run_run wch (s.extract i s.size)
    split at h
    · cases h
    · rename_i k' S' N' hk
      cases h
      rcases wrdR_S hk with ⟨a, b⟩ | ⟨a, b⟩
      · exact .inl ⟨a, b⟩
      · refine .inr (.inr (.inr ⟨by omega, ?_⟩))
        rw [b, ext_size]
        omega
  · split at h
    · split at h
      · cases h
      · split at h
        · cases h
          refine .inr (.inl ⟨rfl, rfl, ?_⟩)
          show 0 ≤ wd _
          unfold wd
          omega
        · cases h
    · split at h
      · split at h
        · cases h
        · split at h
          · cases h
          · rename_i hb
            cases h
            refine .inr (.inr (.inl ⟨rfl, ?_⟩))
            simp [ByteArray.size]
            omega
      · split at h
        · cases h
        · cases h
          refine .inr (.inr (.inr ⟨by omega, ?_⟩))
          rw [ext_size]
          omega
theorem Sk.at0 {s : ByteArray} {j : Nat} {b : Bool} (h : Sk s 0 j b) (h1 : blk (byt s 0) = false) (h2 : byt s 0 ≠ 47) : j = 0 := by
  cases h with
  | stop _ => rfl
  | opn h _ => exact absurd h.2.1 h2
  | blank _ h _ => rw [h1] at h; cases h
  | line h _ _ => exact absurd h.2.1 h2
  | blok h _ _ => exact absurd h.2.1 h2
theorem Lx.pre {s : ByteArray} {i : Nat} {acc : List Tk} {r : List Tk × Int × Int × Int} (h : Lx s i acc r) : r.1 = [] ∨ (r.2.1 = 0 ∧ ∃ l, r.1 = acc ++ l ∧ l ≠ []) := by
  induction h with
  | opn _ => exact .inl rfl
  | fin _ _ => exact .inr ⟨rfl, _, rfl, by simp⟩
  | bad _ _ _ => exact .inl rfl
  | many _ _ _ _ => exact .inl rfl
  | go _ _ _ _ _ ih =>
    rcases ih with q | ⟨q, l, e, _⟩
    · exact .inl q
    · exact .inr ⟨q, _, by rw [e, List.append_assoc], by simp⟩
theorem lx_two {s : ByteArray} {t0 t1 : Tk} {c l k : Int} (h : W.LxAll s ([t0, t1], c, l, k)) : c = 0 ∧ ∃ j n, j < s.size ∧ Sk s 0 j true ∧ tokF s j = .ok (t0.k, t0.S, t0.N, n) ∧ t0.l = ln s j ∧ t0.c = cn s j := by
  rcases h with ⟨_, h⟩ | ⟨_, h⟩
  · cases h
  cases h with
  | go hsk hj htf hl hr =>
    rcases hr.pre with q | ⟨q, l', e, _⟩
    · cases q
    · have e' := congrArg (fun x => x.head?) e
      simp at e'
      subst e'
      exact ⟨q, _, _, hj, hsk, htf, rfl, rfl⟩
end Go.Proofs.YtdplfflkmphpbaaGreatDoor.Pl
namespace Go.Proofs.YtdplfflkmphpbaaGreatDoor.Pl
def Two (x : ByteArray) (P : Tk → Prop) : Prop := ∃ t0 t1 c l k, W.LxAll x ([t0, t1], c, l, k) ∧ P t0
open Classical in
noncomputable def ttx (x : ByteArray) (P : Tk → Prop) : ByteArray := if Two x P then x else ⟨#[]⟩
theorem ttx_yes {x : ByteArray} {P : Tk → Prop} (h : Two x P) : ttx x P = x := if_pos h
theorem ttx_no {x : ByteArray} {P : Tk → Prop} (h : ¬ Two x P) : ttx x P = ⟨#[]⟩ := if_neg h
theorem ttx_same {x : ByteArray} {P Q : Tk → Prop} (h : Two x P ↔ Two x Q) : ttx x P = ttx x Q := by
  by_cases q : Two x P
  · rw [ttx_yes q, ttx_yes (h.1 q)]
  · rw [ttx_no q, ttx_no fun r => q (h.2 r)]
def Ps (t t0 : Tk) : Prop := t0.k = t.k ∧ t0.S = t.S ∧ t0.N = t.N
def Pi (t t0 : Tk) : Prop := t0 = ⟨t.k, t.S, t.N, 1, 1⟩
def chr (b : Nat) : ByteArray := ⟨((UInt8.ofNat 39 :: shown b 39) ++ [UInt8.ofNat 39]).toArray⟩
open Classical in
noncomputable def ttS (t : Tk) : ByteArray :=
  if t.k = 3 then (if t.N < 0 ∨ (t.S ≠ ⟨#[]⟩ ∧ t.S ≠ ⟨#[117]⟩ ∧ t.S ≠ ⟨#[99]⟩) then ⟨#[]⟩ else ttx (if t.S = ⟨#[99]⟩ then chr (t.N % 256).toNat else num t.N ++ t.S) (Ps t))
  else if t.k = 4 then (if 200 < t.S.size then ⟨#[]⟩ else ttx (qt t.S 34) (Ps t)) else ttx t.S (Ps t)
open Classical in
noncomputable def txtI (t : Tk) : ByteArray :=
  if t.k = 1 ∨ t.k = 2 ∨ t.k = 5 then t.S else if t.k = 3 then (if t.S = ⟨#[99]⟩ then chr (t.N % 256).toNat else if t.S = ⟨#[117]⟩ then num t.N ++ ⟨#[117]⟩ else num t.N) else if t.k = 4 then qt t.S 34 else ⟨#[]⟩
noncomputable def ttI (t : Tk) : ByteArray := ttx (txtI t) (Pi t)
theorem two_i {x : ByteArray} {t : Tk} (h : Two x (Pi t)) : Two x (Ps t) := by
  obtain ⟨t0, t1, c, l, k, h1, h2⟩ := h
  unfold Pi at h2
  subst h2
  exact ⟨_, t1, c, l, k, h1, rfl, rfl, rfl⟩
theorem two_s {x : ByteArray} {t : Tk} (hj : ∀ j n, Sk x 0 j true → tokF x j = .ok (t.k, t.S, t.N, n) → j < x.size → j = 0) (h : Two x (Ps t)) : Two x (Pi t) := by
  obtain ⟨t0, t1, c, l, k, h1, h2, h3, h4⟩ := h
  obtain ⟨_, j, n, hj1, hsk, htf, hl, hc⟩ := lx_two h1
  rw [h2, h3, h4] at htf
  have e := hj j n hsk htf hj1
  subst e
  refine ⟨t0, t1, c, l, k, h1, ?_⟩
  obtain ⟨a0, a1, a2, a3, a4⟩ := t0
  simp only at h2 h3 h4 hl hc
  subst h2 h3 h4 hl hc
  rfl
theorem two_first {x : ByteArray} {t : Tk} (h1 : blk (byt x 0) = false) (h2 : byt x 0 ≠ 47) : Two x (Ps t) ↔ Two x (Pi t) := ⟨two_s fun j n h _ _ => h.at0 h1 h2, two_i⟩
theorem two_tok {x : ByteArray} {t : Tk} (h : Two x (Ps t)) : ∃ j n, j < x.size ∧ Sk x 0 j true ∧ tokF x j = .ok (t.k, t.S, t.N, n) := by
  obtain ⟨t0, t1, c, l, k, h1, h2, h3, h4⟩ := h
  obtain ⟨_, j, n, hj1, hsk, htf, hl, hc⟩ := lx_two h1
  rw [h2, h3, h4] at htf
  exact ⟨j, n, hj1, hsk, htf⟩
theorem byt_mk (l : List UInt8) (b : UInt8) : byt ⟨(b :: l).toArray⟩ 0 = (b.toNat : Int) := by simp [byt, ByteArray.size]
theorem app_list (a b : List UInt8) : (⟨a.toArray⟩ : ByteArray) ++ ⟨b.toArray⟩ = ⟨(a ++ b).toArray⟩ := by
  apply ByteArray.ext
  simp [ByteArray.data_append]
theorem app_nil' (a : ByteArray) : a ++ (⟨#[]⟩ : ByteArray) = a := by
  apply ByteArray.ext
  simp [ByteArray.data_append]
theorem tok45 {x : ByteArray} {k N : Int} {S : ByteArray} {n : Nat} (h : byt x 0 = 45) (htf : tokF x 0 = .ok (k, S, N, n)) : k = 5 := by
  have e : tokF x 0 = if sgn (x.extract 0 x.size) = 0 then .error 2 else .ok (5, x.extract 0 (0 + sgn (x.extract 0 x.size)), 0, 0 + sgn (x.extract 0 x.size)) := by
    unfold tokF
    rw [h, if_neg (show ¬ wch 45 = true by decide), if_neg (show ¬ (45 : Int) = 39 by decide), if_neg (show ¬ (45 : Int) = 34 by decide)]
  rw [e] at htf
  by_cases q : sgn (x.extract 0 x.size) = 0
  · rw [if_pos q] at htf
    cases htf
  · rw [if_neg q] at htf
    have := congrArg Prod.fst (Except.ok.inj htf)
    exact this.symm
theorem tt_int {t : Tk} (hk : t.k = 3) : ttS t = ttI t := by
  unfold ttS ttI txtI
  rw [if_pos hk, if_neg (show ¬ (t.k = 1 ∨ t.k = 2 ∨ t.k = 5) by omega), if_pos hk]
  by_cases hbad : t.N < 0 ∨ (t.S ≠ ⟨#[]⟩ ∧ t.S ≠ ⟨#[117]⟩ ∧ t.S ≠ ⟨#[99]⟩)
  · rw [if_pos hbad, ttx_no]
    intro h
    obtain ⟨j, n, hj, hsk, htf⟩ := two_tok (two_i h)
    rcases tokF_S hj htf with ⟨_, q⟩ | ⟨_, q, q'⟩ | ⟨q, _⟩ | ⟨q, _⟩
    · rcases hbad with hN | ⟨b1, b2, b3⟩
      · have key : ∀ x : ByteArray, byt x 0 = 45 → ∀ j, j < x.size → Sk x 0 j true → tokF x j = .ok (t.k, t.S, t.N, n) → False := by
          intro x hx j hj hsk htf
          have e := hsk.at0 (by rw [hx]; decide) (by rw [hx]; decide)
          subst e
          have := tok45 hx htf
          omega
        have hne : t.S ≠ ⟨#[99]⟩ := by
          rcases q with q | q <;> rw [q] <;> decide
        rw [if_neg hne] at hj hsk htf
        by_cases hu : t.S = ⟨#[117]⟩
        · rw [if_pos hu] at hj hsk htf
          refine key _ ?_ j hj hsk htf
          rw [num_neg hN]
          show byt ((⟨(45 :: Lib.decDigits t.N.natAbs).toArray⟩ : ByteArray) ++ ⟨[117].toArray⟩) 0 = 45
          rw [app_list]
          exact byt_mk _ _
        · rw [if_neg hu] at hj hsk htf
          refine key _ ?_ j hj hsk htf
          rw [num_neg hN]
          exact byt_mk _ _
      · rcases q with q | q
        · exact b2 q
        · exact b1 q
    · rcases hbad with hN | ⟨b1, b2, b3⟩
      · omega
      · exact b3 q
    · omega
    · omega
  · rw [if_neg hbad]
    have hN : 0 ≤ t.N := by
      rcases Int.lt_or_le t.N 0 with q | q
      · exact absurd (.inl q) hbad
      · exact q
    obtain ⟨c, r, hd, h1, h2⟩ := dig_head _ t.N.toNat (Nat.le_refl _)
    have hdb : ∀ b : Int, 48 ≤ b → b ≤ 57 → blk b = false ∧ b ≠ 47 := by
      intro b q1 q2
      refine ⟨?_, by omega⟩
      unfold blk
      simp
      omega
    have dgt : ∀ x : ByteArray, 48 ≤ byt x 0 → byt x 0 ≤ 57 → ttx x (Ps t) = ttx x (Pi t) := fun x q1 q2 => ttx_same (two_first (hdb _ q1 q2).1 (hdb _ q1 q2).2)
    by_cases hc : t.S = ⟨#[99]⟩
    · rw [if_pos hc, if_pos hc]
      refine ttx_same (two_first ?_ ?_)
      · unfold chr; rw [List.cons_append, byt_mk]; decide
      · unfold chr; rw [List.cons_append, byt_mk]; decide
    · rw [if_neg hc, if_neg hc]
      by_cases hu : t.S = ⟨#[117]⟩
      · rw [if_pos hu, hu]
        have e : byt (num t.N ++ (⟨#[117]⟩ : ByteArray)) 0 = (c.toNat : Int) := by
          rw [num_nat hN, hd]
          show byt ((⟨(c :: r).toArray⟩ : ByteArray) ++ ⟨[117].toArray⟩) 0 = _
          rw [app_list]
          exact byt_mk _ _
        exact dgt _ (by rw [e]; omega) (by rw [e]; omega)
      · rw [if_neg hu]
        have he : t.S = ⟨#[]⟩ := Classical.byContradiction fun q => hbad (.inr ⟨q, hu, hc⟩)
        have e : byt (num t.N) 0 = (c.toNat : Int) := by
          rw [num_nat hN, hd]
          exact byt_mk _ _
        rw [he, app_nil']
        exact dgt _ (by rw [e]; omega) (by rw [e]; omega)
theorem tt_str {t : Tk} (hk : t.k = 4) : ttS t = ttI t := by
  unfold ttS ttI txtI
  rw [if_neg (show ¬ t.k = 3 by omega), if_pos hk, if_neg (show ¬ (t.k = 1 ∨ t.k = 2 ∨ t.k = 5) by omega), if_neg (show ¬ t.k = 3 by omega), if_pos hk]
  by_cases hb : 200 < t.S.size
  · rw [if_pos hb, ttx_no]
    intro h
    obtain ⟨j, n, hj, hsk, htf⟩ := two_tok (two_i h)
    rcases tokF_S hj htf with ⟨q, _⟩ | ⟨q, _⟩ | ⟨_, q⟩ | ⟨q, _⟩ <;> omega
  · rw [if_neg hb]
    have e : byt (qt t.S 34) 0 = 34 := by
      unfold qt qc
      rw [List.cons_append, byt_mk]
      rfl
    exact ttx_same (two_first (by rw [e]; decide) (by rw [e]; decide))
theorem tt_all (t : Tk) : ttS t = ttI t := by
  by_cases h3 : t.k = 3
  · exact tt_int h3
  by_cases h4 : t.k = 4
  · exact tt_str h4
  unfold ttS ttI txtI
  rw [if_neg h3, if_neg h4, if_neg h3, if_neg h4]
  by_cases h : t.k = 1 ∨ t.k = 2 ∨ t.k = 5
  · rw [if_pos h]
    refine ttx_same ⟨two_s fun j n hsk htf hj => ?_, two_i⟩
    rcases tokF_S hj htf with ⟨q, _⟩ | ⟨q, _⟩ | ⟨q, _⟩ | ⟨_, q⟩ <;> omega
  · rw [if_neg h, ttx_no, ttx_no]
    · intro q
      obtain ⟨j, n, hj, _⟩ := two_tok (two_i q)
      exact absurd hj (Nat.not_lt_zero _)
    · intro q
      obtain ⟨j, n, hj, hsk, htf⟩ := two_tok q
      have := (tokF_n hj htf).2.1
      rcases tokF_S hj htf with ⟨q, _⟩ | ⟨q, _⟩ | ⟨q, _⟩ | ⟨q, _⟩ <;> omega
end Go.Proofs.YtdplfflkmphpbaaGreatDoor.Pl
namespace Go.Proofs.YtdplfflkmphpbaaGreatDoor.Pl
theorem at_byt (D : ByteArray) (j : Nat) (x : UInt8) : D.data.toList[j]? = some x ↔ (j < D.size ∧ byt D j = ((x.toNat : Nat) : Int)) := by
  obtain ⟨⟨l⟩⟩ := D
  show l[j]? = some x ↔ (j < l.length ∧ (((l.getD j 0).toNat : Nat) : Int) = ((x.toNat : Nat) : Int))
  rcases Nat.lt_or_ge j l.length with q | q
  · rw [List.getElem?_eq_getElem q, List.getD_eq_getElem?_getD, List.getElem?_eq_getElem q]
    simp only [Option.some.injEq, Option.getD_some]
    exact ⟨fun h => ⟨q, by rw [h]⟩, fun h => UInt8.toNat_inj.1 (by have := h.2; omega)⟩
  · rw [List.getElem?_eq_none q]
    exact ⟨fun h => (by cases h), fun h => by omega⟩
theorem occ1 (l : List UInt8) (a : UInt8) (j : Nat) : Lib.occAt l [a] j = true ↔ l[j]? = some a := by
  unfold Lib.occAt
  rw [← List.head?_drop]
  cases l.drop j with
  | nil => simp [List.isPrefixOf]
  | cons x t => simp [List.isPrefixOf]; exact eq_comm
theorem occ2 (l : List UInt8) (a b : UInt8) (j : Nat) : Lib.occAt l [a, b] j = true ↔ (l[j]? = some a ∧ l[j + 1]? = some b) := by
  unfold Lib.occAt
  have h1 : l[j]? = (l.drop j)[0]? := by simp
  have h2 : l[j + 1]? = (l.drop j)[1]? := by simp
  rw [h1, h2]
  rcases l.drop j with _ | ⟨x, _ | ⟨y, t⟩⟩
  · simp [List.isPrefixOf]
  · simp [List.isPrefixOf]
  · simp [List.isPrefixOf]; exact ⟨fun h => ⟨h.1.symm, h.2.symm⟩, fun h => ⟨h.1.symm, h.2.symm⟩⟩
theorem cut1 (t : ByteArray) : ∃ k, LEnd t 0 k ∧ (Lib.cut t.data.toList [10]).1.length = k := by
  have hsz : t.data.toList.length = t.size := by simp
  rcases Lib.index_spec t.data.toList [10] with ⟨h1, h2⟩ | ⟨i, h1, h2, h3, h4⟩
  · refine ⟨t.size, ⟨Nat.zero_le _, Nat.le_refl _, fun m _ hm e => ?_, .inl rfl⟩, ?_⟩
    · have := h2 m (by omega)
      have q : Lib.occAt t.data.toList [10] m = true := (occ1 _ _ _).2 ((at_byt t m 10).2 ⟨hm, e⟩)
      rw [this] at q
      cases q
    · unfold Lib.cut
      rw [h1, if_neg (by decide)]
      exact hsz
  · have hi := (at_byt t i 10).1 ((occ1 _ _ _).1 h3)
    refine ⟨i, ⟨Nat.zero_le _, by omega, fun m _ hm e => ?_, .inr hi.2⟩, ?_⟩
    · have := h4 m hm
      have q : Lib.occAt t.data.toList [10] m = true := (occ1 _ _ _).2 ((at_byt t m 10).2 ⟨by omega, e⟩)
      rw [this] at q
      cases q
    · unfold Lib.cut
      rw [h1, if_pos (by omega)]
      simp
      omega
theorem cut2 (t : ByteArray) : (∃ k, BEnd t 0 k ∧ (Lib.cut t.data.toList [42, 47]).2.2 = true ∧ (Lib.cut t.data.toList [42, 47]).1.length = k) ∨ (NEnd t 0 ∧ (Lib.cut t.data.toList [42, 47]).2.2 = false) := by
  have hsz : t.data.toList.length = t.size := by simp
  have key : ∀ m, m + 1 < t.size → (byt t m = 42 ∧ byt t (m + 1) = 47) → Lib.occAt t.data.toList [42, 47] m = true := fun m hm e =>
    (occ2 _ _ _ _).2 ⟨(at_byt t m 42).2 ⟨by omega, e.1⟩, (at_byt t (m + 1) 47).2 ⟨hm, e.2⟩⟩
  rcases Lib.index_spec t.data.toList [42, 47] with ⟨h1, h2⟩ | ⟨i, h1, h2, h3, h4⟩
  · right
    refine ⟨fun m _ hm e => ?_, ?_⟩
    · have q := key m hm e
      rw [h2 m (by omega)] at q
      cases q
    · unfold Lib.cut
      rw [h1, if_neg (by decide)]
  · left
    obtain ⟨q1, q2⟩ := (occ2 _ _ _ _).1 h3
    have a1 := (at_byt t i 42).1 q1
    have a2 := (at_byt t (i + 1) 47).1 q2
    refine ⟨i, ⟨Nat.zero_le _, a2.1, ⟨a1.2, a2.2⟩, fun m _ hm e => ?_⟩, ?_, ?_⟩
    · have q := key m (by omega) e
      rw [h4 m hm] at q
      cases q
    · unfold Lib.cut
      rw [h1, if_pos (by omega)]
    · unfold Lib.cut
      rw [h1, if_pos (by omega)]
      simp
      omega
theorem blk_con (x : UInt8) : List.contains [32, 9, 10, 11, 12, 13] x = blk ((x.toNat : Nat) : Int) := by
  have : ∀ n : Nat, n < 256 → List.contains [32, 9, 10, 11, 12, 13] (UInt8.ofNat n) = blk (n : Int) := by decide +kernel
  have h := this x.toNat x.toNat_lt
  rwa [UInt8.ofNat_toNat] at h
theorem tw_run (p : UInt8 → Bool) : ∀ l : List UInt8, (l.takeWhile p).length + (l.dropWhile p).length = l.length ∧ (∀ j, j < (l.takeWhile p).length → p (l.getD j 0) = true) ∧ ((l.takeWhile p).length = l.length ∨ p (l.getD (l.takeWhile p).length 0) = false)
  | [] => ⟨rfl, fun j hj => absurd hj (Nat.not_lt_zero _), .inl rfl⟩
  | x :: l => by
    obtain ⟨h1, h2, h3⟩ := tw_run p l
    cases hp : p x
    · rw [List.takeWhile_cons_of_neg (by simp [hp]), List.dropWhile_cons_of_neg (by simp [hp])]
      exact ⟨by simp, fun j hj => absurd hj (Nat.not_lt_zero _), .inr (by simpa using hp)⟩
    · rw [List.takeWhile_cons_of_pos hp, List.dropWhile_cons_of_pos hp]
      refine ⟨by simp; omega, fun j hj => ?_, ?_⟩
      · rcases j with _ | j
        · simpa using hp
        · simp at hj ⊢
          have := h2 j hj
          simpa using this
      · rcases h3 with e | e
        · left; simp; exact e
        · right; simpa using e
theorem trimL (t : ByteArray) : (⟨(Lib.trimLeftS t.data.toList [32, 9, 10, 11, 12, 13]).toArray⟩ : ByteArray).size = t.size - run blk t := by
  obtain ⟨h1, h2, h3⟩ := tw_run (fun x => List.contains [32, 9, 10, 11, 12, 13] x) t.data.toList
  have hsz : t.data.toList.length = t.size := by simp
  have hr : run blk t = (t.data.toList.takeWhile (fun x => List.contains [32, 9, 10, 11, 12, 13] x)).length := run_eq ⟨by omega, fun j hj => by
    have := h2 j hj
    rw [blk_con] at this
    exact this, by
    rcases h3 with e | e
    · left; omega
    · right; rw [blk_con] at e; exact e⟩
  show (Lib.trimLeftS t.data.toList [32, 9, 10, 11, 12, 13]).toArray.size = _
  rw [List.size_toArray]
  unfold Lib.trimLeftS
  omega
theorem pre2L (D : ByteArray) (a b : UInt8) : Lib.hasPrefix D.data.toList (⟨#[a, b]⟩ : ByteArray).data.toList = true ↔ (0 + 1 < D.size ∧ byt D 0 = ((a.toNat : Nat) : Int) ∧ byt D (0 + 1) = ((b.toNat : Nat) : Int)) := by
  have : Lib.hasPrefix D.data.toList (⟨#[a, b]⟩ : ByteArray).data.toList = Lib.occAt D.data.toList [a, b] 0 := by unfold Lib.occAt; rfl
  rw [this, occ2, at_byt, at_byt]
  constructor
  · rintro ⟨⟨_, h1⟩, h2, h3⟩; exact ⟨h2, h1, h3⟩
  · rintro ⟨h1, h2, h3⟩; exact ⟨⟨by omega, h2⟩, h1, h3⟩
end Go.Proofs.YtdplfflkmphpbaaGreatDoor.Pl
namespace Go.Proofs.YtdplfflkmphpbaaGreatDoor.W
open Go.RowKit
def BlkI (t : ByteArray) (n : Nat) (b : Bool) : Prop := (Pl.lc t 0 ∧ Pl.LEnd t 0 n ∧ b = true) ∨ (Pl.bc t 0 ∧ (∃ k, Pl.BEnd t 2 k ∧ n = k + 2) ∧ b = true) ∨ (Pl.bc t 0 ∧ Pl.NEnd t 2 ∧ n = 0 ∧ b = false) ∨ (¬ Pl.lc t 0 ∧ ¬ Pl.bc t 0 ∧ n = Pl.run Pl.blk t ∧ b = true)
theorem below_drewV {B : Nat} {a w : World} (h : Below B a w) (m : Nat) : Below B a (w.drewN m) := ⟨h.os, h.tape, h.output, h.size, h.block⟩
set_option maxRecDepth 100000 in
set_option maxHeartbeats 4000000 in
theorem blankSize_is (t : ByteArray) (ht : t.size ≤ 1048576) (w : World) (hE : Glo w) : Calls Tryz.prog 67 #[.string t] w fun e w' => (∃ n b, BlkI t n b ∧ e = .returned (.tuple #[.int .i64 n, .bool b])) ∧ Below w.heap.size w w' := by
  have hp1 := Pl.pre2L t 47 47
  have hp2 := Pl.pre2L t 47 42
  have HP1 : Hid (∀ u : World, Calls Tryz.prog 78 #[.string t, .string ⟨#[47, 47]⟩] u fun e w' => e = .returned (.bool (Lib.hasPrefix t.data.toList (⟨#[47, 47]⟩ : ByteArray).data.toList)) ∧ w' = u) := fun u => Tryz.strings_HasPrefix t ⟨#[47, 47]⟩ u
  have HP2 : Hid (∀ u : World, Calls Tryz.prog 78 #[.string t, .string ⟨#[47, 42]⟩] u fun e w' => e = .returned (.bool (Lib.hasPrefix t.data.toList (⟨#[47, 42]⟩ : ByteArray).data.toList)) ∧ w' = u) := fun u => Tryz.strings_HasPrefix t ⟨#[47, 42]⟩ u
  obtain ⟨_, _, m, hm⟩ := hE
  obtain ⟨P1, hP1⟩ : ∃ P1, P1 = Lib.hasPrefix t.data.toList (⟨#[47, 47]⟩ : ByteArray).data.toList := ⟨_, rfl⟩
  obtain ⟨P2, hP2⟩ : ∃ P2, P2 = Lib.hasPrefix t.data.toList (⟨#[47, 42]⟩ : ByteArray).data.toList := ⟨_, rfl⟩
  rw [← hP1] at hp1 HP1
  rw [← hP2] at hp2 HP2
  clear hP1 hP2
  have HM : Hid (w.cell? ⟨0, 0, none⟩ = some (.int .i64 m)) := hm
  clear hm
  cases P1
  · have hnl : ¬ Pl.lc t 0 := fun h => absurd (hp1.2 h) (by decide)
    cases P2
    · have hnb : ¬ Pl.bc t 0 := fun h => absurd (hp2.2 h) (by decide)
      have HB : Hid (BlkI t (Pl.run Pl.blk t) true) := .inr (.inr (.inr ⟨hnl, hnb, rfl, rfl⟩))
      have hr := Pl.run_le Pl.blk t
      have HTL : Hid (∀ u : World, Calls Tryz.prog 80 #[.string t, .string ⟨#[32, 9, 10, 11, 12, 13]⟩] u fun e w' => e = .returned (.string ⟨(Lib.trimLeftS t.data.toList [32, 9, 10, 11, 12, 13]).toArray⟩) ∧ Below u.heap.size u w') := fun u => Any.strings_TrimLeft_laid Tryz.lays161 (by kernel_rfl) t ⟨#[32, 9, 10, 11, 12, 13]⟩ u (by decide) (ascii_of_all (by decide))
      have hsz := Pl.trimL t
      obtain ⟨D, hD⟩ : ∃ D : ByteArray, D = ⟨(Lib.trimLeftS t.data.toList [32, 9, 10, 11, 12, 13]).toArray⟩ := ⟨_, rfl⟩
      rw [← hD] at HTL hsz
      obtain ⟨n, hn⟩ : ∃ n, n = Pl.run Pl.blk t := ⟨_, rfl⟩
      rw [← hn] at HB hr hsz
      have HSZ : Hid (D.size = t.size - n) := hsz
      have hDt : (D.size : Int) ≤ t.size := by omega
      clear hD hn hp1 hp2 hnl hnb hsz
      go_enter Tryz.func67, Tryz.ntmps67
      go_wp2_with (first | (go_at_call 78; first | (refine (HP1.out _).mono ?_; rintro e uu ⟨rfl, rfl⟩) | (refine (HP2.out _).mono ?_; rintro e uu ⟨rfl, rfl⟩)) | (go_at_call 80; refine (HTL.out _).mono ?_; rintro e u2 ⟨rfl, g2⟩; have G2 : Hid _ := g2; clear g2))
      go_ret2
      exact ⟨⟨n, true, HB.out, by have := HSZ.out; show Ending.returned (.tuple #[.int .i64 ((t.size : Int) - (D.size : Int)), .bool true]) = _; rw [show (t.size : Int) - (D.size : Int) = (n : Int) by omega]⟩, G2.out⟩
    · have hb : Pl.bc t 0 := hp2.1 rfl
      have h2 : 2 ≤ t.size := by have := hb.1; omega
      have h2' : (2 : Int) ≤ t.size := by omega
      have hc2 := Pl.cut2 (t.extract 2 t.size)
      have HCT : Hid (∀ u : World, u.cell? ⟨0, 0, none⟩ = some (.int .i64 m) → Calls Tryz.prog 79 #[.string (t.extract 2 t.size), .string ⟨#[42, 47]⟩] u _) := fun u hu => Tryz.strings_Cut (t.extract 2 t.size) ⟨#[42, 47]⟩ m u (by rw [Pl.ext_sz]; omega) hu
      have HBE : Hid (∀ k, Pl.BEnd (t.extract 2 t.size) 0 k → Pl.BEnd t 2 (k + 2)) := fun k h => by
        obtain ⟨h1, h3, h4, h5⟩ := h
        rw [Pl.ext_sz] at h3
        rw [Pl.ext_byt t 2 k (by omega), Pl.ext_byt t 2 (k + 1) (by omega), show 2 + (k + 1) = 2 + k + 1 by omega, show 2 + k = k + 2 by omega] at h4
        refine ⟨by omega, by omega, h4, fun x hx1 hx2 e => ?_⟩
        have := h5 (x - 2) (Nat.zero_le _) (by omega)
        rw [Pl.ext_byt t 2 (x - 2) (by omega), Pl.ext_byt t 2 (x - 2 + 1) (by omega), show 2 + (x - 2 + 1) = x + 1 by omega, show 2 + (x - 2) = x by omega] at this
        exact this e
      have HNE : Hid (Pl.NEnd (t.extract 2 t.size) 0 → Pl.NEnd t 2) := fun h x hx1 hx2 e => by
        have := h (x - 2) (Nat.zero_le _) (by rw [Pl.ext_sz]; omega)
        rw [Pl.ext_byt t 2 (x - 2) (by omega), Pl.ext_byt t 2 (x - 2 + 1) (by omega), show 2 + (x - 2 + 1) = x + 1 by omega, show 2 + (x - 2) = x by omega] at this
        exact this e
      obtain ⟨c1, hc1⟩ : ∃ c1 : ByteArray, c1 = ⟨(Lib.cut (t.extract 2 t.size).data.toList (⟨#[42, 47]⟩ : ByteArray).data.toList).1.toArray⟩ := ⟨_, rfl⟩
      have hc1s : c1.size = (Lib.cut (t.extract 2 t.size).data.toList [42, 47]).1.length := by rw [hc1]; exact List.size_toArray
      obtain ⟨c2, hc2'⟩ : ∃ c2, c2 = (Lib.cut (t.extract 2 t.size).data.toList (⟨#[42, 47]⟩ : ByteArray).data.toList).2.2 := ⟨_, rfl⟩
      rw [← hc1, ← hc2'] at HCT
      have hc22 : (Lib.cut (t.extract 2 t.size).data.toList [42, 47]).2.2 = c2 := hc2'.symm
      rw [hc22, ← hc1s] at hc2
      clear hc1 hc2' hc1s hc22 hp1 hp2 hnl
      rcases hc2 with ⟨k, hbe, rfl, hcs⟩ | ⟨hne, rfl⟩
      · have HB : Hid (BlkI t (k + 2 + 2) true) := .inr (.inl ⟨hb, ⟨k + 2, HBE.out k hbe, rfl⟩, rfl⟩)
        have hkt : k ≤ 1048576 := by have := hbe.2.1; rw [Pl.ext_sz] at this; omega
        have HKS : Hid (c1.size = k) := hcs
        clear hbe hb HBE HNE hcs
        go_enter Tryz.func67, Tryz.ntmps67
        go_wp2_with (first | (go_at_call 78; first | (refine (HP1.out _).mono ?_; rintro e uu ⟨rfl, rfl⟩) | (refine (HP2.out _).mono ?_; rintro e uu ⟨rfl, rfl⟩)) | (go_at_call 79; refine (HCT.out _ HM.out).mono ?_; rintro e u2 ⟨rfl, dn, hu2⟩; rw [hu2]; clear hu2; have hc1b : (c1.size : Int) ≤ 1048576 := (by have := HKS.out; omega)))
        go_ret2
        exact ⟨⟨k + 2 + 2, true, HB.out, by have := HKS.out; show Ending.returned (.tuple #[.int .i64 (4 + (c1.size : Int)), .bool true]) = _; rw [show (4 : Int) + (c1.size : Int) = ((k + 2 + 2 : Nat) : Int) by omega]⟩, below_drewV (Below.refl _ _) _⟩
      · have HB : Hid (BlkI t 0 false) := .inr (.inr (.inl ⟨hb, HNE.out hne, rfl, rfl⟩))
        clear hne hb HBE HNE
        go_enter Tryz.func67, Tryz.ntmps67
        go_wp2_with (first | (go_at_call 78; first | (refine (HP1.out _).mono ?_; rintro e uu ⟨rfl, rfl⟩) | (refine (HP2.out _).mono ?_; rintro e uu ⟨rfl, rfl⟩)) | (go_at_call 79; refine (HCT.out _ HM.out).mono ?_; rintro e u2 ⟨rfl, dn, hu2⟩; rw [hu2]; clear hu2))
        go_ret2
        exact ⟨⟨0, false, HB.out, rfl⟩, below_drewV (Below.refl _ _) _⟩
  · have hl : Pl.lc t 0 := hp1.1 rfl
    obtain ⟨k, hle, hck⟩ := Pl.cut1 t
    have HCT : Hid (∀ u : World, u.cell? ⟨0, 0, none⟩ = some (.int .i64 m) → Calls Tryz.prog 79 #[.string t, .string ⟨#[10]⟩] u _) := fun u hu => Tryz.strings_Cut t ⟨#[10]⟩ m u (by omega) hu
    obtain ⟨c1, hc1⟩ : ∃ c1 : ByteArray, c1 = ⟨(Lib.cut t.data.toList (⟨#[10]⟩ : ByteArray).data.toList).1.toArray⟩ := ⟨_, rfl⟩
    have hc1s : c1.size = (Lib.cut t.data.toList [10]).1.length := by rw [hc1]; exact List.size_toArray
    rw [← hc1] at HCT
    rw [← hc1s] at hck
    have HKS : Hid (c1.size = k) := hck
    have HB : Hid (BlkI t k true) := .inl ⟨hl, hle, rfl⟩
    clear hc1 hc1s hck hp1 hp2 hl hle
    go_enter Tryz.func67, Tryz.ntmps67
    go_wp2_with (first | (go_at_call 78; first | (refine (HP1.out _).mono ?_; rintro e uu ⟨rfl, rfl⟩) | (refine (HP2.out _).mono ?_; rintro e uu ⟨rfl, rfl⟩)) | (go_at_call 79; refine (HCT.out _ HM.out).mono ?_; rintro e u2 ⟨rfl, dn, hu2⟩; rw [hu2]; clear hu2))
    go_ret2
    exact ⟨⟨k, true, HB.out, by rw [← HKS.out]; rfl⟩, below_drewV (Below.refl _ _) _⟩
end Go.Proofs.YtdplfflkmphpbaaGreatDoor.W
namespace Go.Proofs.YtdplfflkmphpbaaGreatDoor.Pl
theorem ext_list (s : ByteArray) (a b : Nat) : (s.extract a b).data.toList = (s.data.toList.drop a).take (b - a) := by
  rw [ByteArray.data_extract, Array.toList_extract]
theorem ln_count (s : ByteArray) (k : Nat) : ∀ n, k + n ≤ s.size → ln s (k + n) = ln s k + (((s.data.toList.drop k).take n).count 10 : Nat)
  | 0, _ => by simp
  | n + 1, h => by
    have ih := ln_count s k n (by omega)
    have hl : k + n < s.data.toList.length := by simp; omega
    have e1 : ln s (k + n + 1) = if byt s (k + n) = 10 then ln s (k + n) + 1 else ln s (k + n) := rfl
    rw [show k + (n + 1) = k + n + 1 by omega, e1, ih, List.take_add_one, List.count_append]
    have hx : (s.data.toList.drop k)[n]? = some (s.data.toList.getD (k + n) 0) := by
      rw [List.getElem?_drop, List.getD_eq_getElem?_getD, List.getElem?_eq_getElem hl]; rfl
    rw [hx]
    unfold byt
    generalize s.data.toList.getD (k + n) 0 = x
    by_cases hq : x = 10
    · subst hq
      rw [if_pos (by decide)]
      simp
      omega
    · rw [if_neg (fun e => hq (UInt8.toNat_inj.1 (by show x.toNat = 10; omega)))]
      simp [List.count_singleton, hq]
theorem pass_pos (s : ByteArray) (k n : Nat) (h : k + n ≤ s.size) :
    (Lib.lastIndexByte (s.extract k (k + n)) 10 = -1 ∧ ln s (k + n) = ln s k ∧ cn s (k + n) = cn s k + n) ∨
    (∃ i : Nat, i < n ∧ Lib.lastIndexByte (s.extract k (k + n)) 10 = i ∧ ln s (k + n) = ln s k + (Lib.countByte (s.extract k (k + n)).data.toList 10 : Nat) ∧ cn s (k + n) = (n : Int) - i) := by
  have hsz : (s.extract k (k + n)).size = n := by rw [ext_size]; omega
  have hb : ∀ j, j < n → (((s.extract k (k + n)).data[j]!).toNat : Int) = byt s (k + j) := fun j hj => by
    rw [← byt_ext s k (k + n) j (by omega) h]
    unfold byt
    have hj' : j < (s.extract k (k + n)).data.size := by show j < (s.extract k (k + n)).size; omega
    have e : (s.extract k (k + n)).data[j]! = (s.extract k (k + n)).data.toList.getD j 0 := by
      generalize (s.extract k (k + n)).data = D at hj' ⊢
      rw [List.getD_eq_getElem?_getD, Array.getElem?_toList, Array.getElem?_eq_getElem hj']
      simp [hj']
    rw [e]
  rcases Lib.lastIndexByte_spec (s.extract k (k + n)) 10 with ⟨h1, h2⟩ | ⟨i, h1, h2, h3, h4⟩
  · left
    obtain ⟨q1, q2⟩ := ln_same s k n (fun j hj1 hj2 => by
      have := h2 (j - k) (by omega)
      rw [hb (j - k) (by omega), show k + (j - k) = j by omega] at this
      exact this)
    exact ⟨h1, q1, q2⟩
  · right
    rw [hsz] at h1 h4
    refine ⟨i, h1, h2, ?_, ?_⟩
    · unfold Lib.countByte
      rw [ext_list, show k + n - k = n by omega]
      exact ln_count s k n h
    · have hi : byt s (k + i) = 10 := by rw [← hb i h1]; exact h3
      have c1 : cn s (k + i + 1) = 1 := by
        have e1 : cn s (k + i + 1) = if byt s (k + i) = 10 then 1 else cn s (k + i) + 1 := rfl
        rw [e1, if_pos hi]
      obtain ⟨_, q2⟩ := ln_same s (k + i + 1) (n - i - 1) (fun j hj1 hj2 => by
        have := h4 (j - k) (by omega) (by omega)
        rw [hb (j - k) (by omega), show k + (j - k) = j by omega] at this
        exact this)
      rw [show k + i + 1 + (n - i - 1) = k + n by omega, c1] at q2
      rw [q2]
      omega
end Go.Proofs.YtdplfflkmphpbaaGreatDoor.Pl
namespace Go.Proofs.YtdplfflkmphpbaaGreatDoor.W
open Go.RowKit
structure OnlyX (c : Nat) (w w' : World) : Prop where
  os : w'.os = w.os
  tape : w'.tape = w.tape
  output : w'.output = w.output
  size : w.heap.size ≤ w'.heap.size
  block : ∀ b, b < w.heap.size → b ≠ c → w'.heap[b]? = w.heap[b]?
theorem OnlyX.refl (c : Nat) (w : World) : OnlyX c w w := ⟨rfl, rfl, rfl, Nat.le_refl _, fun _ _ _ => rfl⟩
theorem OnlyX.trans {c : Nat} {a b d : World} (h : OnlyX c a b) (k : OnlyX c b d) : OnlyX c a d := ⟨k.os.trans h.os, k.tape.trans h.tape, k.output.trans h.output, Nat.le_trans h.size k.size, fun x hx hc => (k.block x (Nat.lt_of_lt_of_le hx h.size) hc).trans (h.block x hx hc)⟩
theorem OnlyX.of_below {c : Nat} {a b : World} (h : Below a.heap.size a b) : OnlyX c a b := ⟨h.os, h.tape, h.output, h.size, fun x hx _ => h.block x hx⟩
theorem OnlyX.below {c n : Nat} {w w' : World} (h : OnlyX c w w') (hn : n ≤ c) (hn2 : n ≤ w.heap.size) : Below n w w' := ⟨h.os, h.tape, h.output, h.size, fun b hb => h.block b (by omega) (by omega)⟩
theorem OnlyX.setCell {c : Nat} {w u : World} (h : OnlyX c w u) (q : Nat) (x : Value) : OnlyX c w (u.setCell ⟨c, q, none⟩ x) := by
  refine ⟨?_, ?_, ?_, ?_, fun b hb hc => (Below.heap_setCell u ⟨c, q, none⟩ x b hc).trans (h.block b hb hc)⟩
  · have := (Below.refl 0 u).setCell (p := ⟨c, q, none⟩) (Nat.zero_le _) x; exact this.os.trans h.os
  · have := (Below.refl 0 u).setCell (p := ⟨c, q, none⟩) (Nat.zero_le _) x; exact this.tape.trans h.tape
  · have := (Below.refl 0 u).setCell (p := ⟨c, q, none⟩) (Nat.zero_le _) x; exact this.output.trans h.output
  · rw [World.size_setCell]; exact h.size
theorem OnlyX.drewN {c : Nat} {w u : World} (h : OnlyX c w u) (m : Nat) : OnlyX c w (u.drewN m) := ⟨h.os, h.tape, h.output, h.size, h.block⟩
theorem OnlyX.drew {c : Nat} {w u : World} (h : OnlyX c w u) : OnlyX c w u.drew := ⟨h.os, h.tape, h.output, h.size, h.block⟩
def LxSt (g : Nat) (s : ByteArray) (k : Nat) (w : World) : Prop := w.heap[g]? = some (.cells #[.string s, .int .i64 k, .int .i64 (Pl.ln s k), .int .i64 ((k : Int) + 1 - Pl.cn s k)] 72 (0, 0))
theorem LxSt.keep {g k : Nat} {s : ByteArray} {w w' : World} (h : LxSt g s k w) (hb : Below w.heap.size w w') : LxSt g s k w' := (hb.block g (Array.getElem?_eq_some_iff.1 h).1).trans h
set_option maxHeartbeats 4000000 in
set_option maxRecDepth 100000 in
theorem pass_is (g : Nat) (s : ByteArray) (hs : s.size ≤ 1048576) (k n : Nat) (h : k + n ≤ s.size) (w : World) (hL : LxSt g s k w) : Calls Tryz.prog 62 #[.pointer (some ⟨g, 0, none⟩), .int .i64 n] w fun e w' => (∃ v, e = .returned v) ∧ LxSt g s (k + n) w' ∧ OnlyX g w w' := by
  have HP := Pl.pass_pos s k n h
  obtain ⟨l0, l1⟩ := Pl.ln_b s k
  obtain ⟨c0, c1⟩ := Pl.cn_b s k
  have HL : Hid (w.heap[g]? = some (.cells #[.string s, .int .i64 k, .int .i64 (Pl.ln s k), .int .i64 ((k : Int) + 1 - Pl.cn s k)] 72 (0, 0))) := hL
  have HG : Hid (∀ (u : World) (x y z : Int), u.heap[g]? = some (.cells #[.string s, .int .i64 x, .int .i64 y, .int .i64 z] 72 (0, 0)) → x = ((k + n : Nat) : Int) → y = Pl.ln s (k + n) → z = ((k + n : Nat) : Int) + 1 - Pl.cn s (k + n) → LxSt g s (k + n) u) := fun u x y z hu hx hy hz => by
    unfold LxSt; rw [hu, hx, hy, hz]
  obtain ⟨A, hA⟩ : ∃ A, A = Pl.ln s k := ⟨_, rfl⟩
  obtain ⟨B, hB⟩ : ∃ B, B = Pl.cn s k := ⟨_, rfl⟩
  rw [← hA] at HP HL l0 l1
  rw [← hB] at HP HL c0 c1
  clear hA hB hL
  have hc0 : w.cell? ⟨g, 0, none⟩ = some (.string s) := cell_of_row w g 0 _ 72 (0, 0) HL.out
  have hc1 : w.cell? ⟨g, 1, none⟩ = some (.int .i64 k) := cell_of_row w g 1 _ 72 (0, 0) HL.out
  have hc2 : w.cell? ⟨g, 2, none⟩ = some (.int .i64 A) := cell_of_row w g 2 _ 72 (0, 0) HL.out
  have hwr : IntKind.i64.wrap ((k : Int) + (n : Int)) = (k : Int) + (n : Int) := by rw [IntKind.wrap_i64]; omega
  have hle1 : (k : Int) ≤ (k : Int) + (n : Int) := by omega
  have hle2 : (k : Int) + (n : Int) ≤ s.size := by omega
  have htn : ((k : Int) + (n : Int)).toNat = k + n := by omega
  have hPs : (s.extract k (k + n)).size = n := by rw [Pl.ext_size]; omega
  have HLI : Hid (∀ u : World, Calls Tryz.prog 74 #[.string (s.extract k (k + n)), .int .u8 10] u fun e w' => e = .returned (.int .i64 (Lib.lastIndexByte (s.extract k (k + n)) 10)) ∧ w' = u) := fun u => Tryz.strings_LastIndexByte (s.extract k (k + n)) 10 (by omega) u
  have HCO : Hid (∀ u : World, Calls Tryz.prog 75 #[.string (s.extract k (k + n)), .string ⟨#[10]⟩] u fun e w' => e = .returned (.int .i64 (Lib.countByte (s.extract k (k + n)).data.toList 10 : Nat)) ∧ w' = u) := fun u => Tryz.strings_Count_one (s.extract k (k + n)) 10 u
  have HP' : Hid _ := HP
  clear HP
  go_enter Tryz.func62, Tryz.ntmps62
  go_wp2_with fail
  go_quiet (fail)
  go_wp2_with fail
  obtain ⟨U, hU⟩ : ∃ U, U = w.drewN nq := ⟨_, rfl⟩
  rw [← hU]
  have HLU : Hid (U.heap[g]? = some (.cells #[.string s, .int .i64 k, .int .i64 A, .int .i64 ((k : Int) + 1 - B)] 72 (0, 0))) := by rw [hU]; exact HL.out
  have OX : Hid (OnlyX g w U) := by rw [hU]; exact (OnlyX.refl _ _).drewN _
  have hn0 := HL.out
  clear hU hc0 hc1 hc2 hn0
  have d1 : U.cell? ⟨g, 1, none⟩ = some (.int .i64 k) := cell_of_row U g 1 _ 72 (0, 0) HLU.out
  have d2 : U.cell? ⟨g, 2, none⟩ = some (.int .i64 A) := cell_of_row U g 2 _ 72 (0, 0) HLU.out
  have d3 : U.cell? ⟨g, 3, none⟩ = some (.int .i64 ((k : Int) + 1 - B)) := cell_of_row U g 3 _ 72 (0, 0) HLU.out
  have f1 : U.frozen? ⟨g, 1, none⟩ = false := frozen_of_row U g 1 _ 72 HLU.out
  have f2 : U.frozen? ⟨g, 2, none⟩ = false := frozen_of_row U g 2 _ 72 HLU.out
  have f3 : U.frozen? ⟨g, 3, none⟩ = false := frozen_of_row U g 3 _ 72 HLU.out
  have hcb : Lib.countByte (s.extract k (k + n)).data.toList 10 ≤ n := by
    unfold Lib.countByte
    refine Nat.le_trans List.count_le_length ?_
    simp
    omega
  obtain ⟨cnt, hcnt⟩ : ∃ cnt, cnt = Lib.countByte (s.extract k (k + n)).data.toList 10 := ⟨_, rfl⟩
  rw [← hcnt] at hcb HCO HP'
  obtain ⟨D, hD⟩ : ∃ D, D = s.extract k (k + n) := ⟨_, rfl⟩
  rw [← hD] at HCO HP' HLI ⊢
  obtain ⟨last, hlast⟩ : ∃ last, last = Lib.lastIndexByte D 10 := ⟨_, rfl⟩
  rw [← hlast] at HP' HLI
  clear hcnt hD hlast hPs
  refine (HLI.out _).mono ?_
  rintro e u1 ⟨rfl, hu1⟩
  rw [hu1]
  clear hu1 HLI
  rcases HP'.out with ⟨rfl, q1, q2⟩ | ⟨i, hin, rfl, q1, q2⟩
  · have K1 : Hid (Pl.ln s (k + n) = A) := q1
    have K2 : Hid (Pl.cn s (k + n) = B + n) := q2
    clear q1 q2 HP'
    go_wp2_with fail
    go_end0
    exact ⟨⟨_, rfl⟩, HG.out _ _ _ _ (heap_setCell_same U g 1 _ 72 _ HLU.out) (by omega) K1.out.symm (by rw [K2.out]; omega), OX.out.setCell 1 _⟩
  · have K1 : Hid (Pl.ln s (k + n) = A + cnt) := q1
    have K2 : Hid (Pl.cn s (k + n) = (n : Int) - i) := q2
    have hcb' : (cnt : Int) ≤ n := by omega
    have hii : (i : Int) < n := by omega
    clear q1 q2 HP'
    have hwr2 : IntKind.i64.wrap (A + (cnt : Int)) = A + (cnt : Int) := by rw [IntKind.wrap_i64]; omega
    go_wp2_with fail
    go_region_with (go_at_call 75; refine (HCO.out _).mono ?_; rintro e u2 ⟨rfl, rfl⟩)
    all_goals go_wp2_with fail
    all_goals
      go_end0
      refine ⟨⟨_, rfl⟩, HG.out _ _ _ _ (heap_setCell_same _ g 1 _ 72 _ (heap_setCell_same _ g 3 _ 72 _ (heap_setCell_same _ g 2 _ 72 _ HLU.out))) (by omega) K1.out.symm (by rw [K2.out]; omega), ?_⟩
      repeat (first | exact OX.out | refine OnlyX.setCell ?_ _ _ | refine OnlyX.drewN ?_ _ | refine OnlyX.drew ?_)
end Go.Proofs.YtdplfflkmphpbaaGreatDoor.W
