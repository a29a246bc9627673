import Derived.Test.YtdplfflkmphpbaaGreatDoorU09
import Derived.Laws.BytesArg
import Derived.Test.YtdplfflkmphpbaaGreatDoorU08
import Derived.Test.YtdplfflkmphpbaaGreatDoorU06
import Derived.Laws.BytesString
import Derived.Laws.Cells
import Derived.Test.YtdplfflkmphpbaaGreatDoorU19
import Derived.Deep.RegionWith
import Derived.Test.YtdplfflkmphpbaaGreatDoorU11
import Derived.Lib.ItoaNum
set_option linter.unusedVariables false
set_option linter.unusedSimpArgs false
namespace Go.Proofs.YtdplfflkmphpbaaGreatDoor.W
open Go.RowKit
theorem wpList_at {P : Program} {ops : Array Oper} {Q : Exit → Act → World → Prop} {rest : List Oper} {a : Act} {W : World} (h : ∀ U, U = W → wpList P ops Q rest a U) : wpList P ops Q rest a W := h W rfl
theorem below_alloc (w : World) (o : Obj) : Below w.heap.size w (w.alloc o) := (Below.refl _ _).alloc (Nat.le_refl _) _
end Go.Proofs.YtdplfflkmphpbaaGreatDoor.W
namespace Go.Proofs.YtdplfflkmphpbaaGreatDoor.Pl
end Go.Proofs.YtdplfflkmphpbaaGreatDoor.Pl
namespace Go.Proofs.YtdplfflkmphpbaaGreatDoor.W
open Go.RowKit
structure Touch (a : Option Addr) (w w' : World) : Prop where
  os : w'.os = w.os
  tape : w'.tape = w.tape
  output : w'.output = w.output
  size : w'.heap.size = w.heap.size
  block : ∀ k, (∀ ad, a = some ad → k ≠ ad.block) → w'.heap[k]? = w.heap[k]?
theorem Touch.refl (a : Option Addr) (w : World) : Touch a w w := ⟨rfl, rfl, rfl, rfl, fun _ _ => rfl⟩
theorem Touch.setCell {a : Option Addr} {w u : World} (h : Touch a w u) {g : Nat} (hp : a = some ⟨g, 0, none⟩) (x : Value) {i : Nat} : Touch a w (u.setCell ⟨g, i, none⟩ x) :=
  ⟨h.os, h.tape, h.output, by simpa using h.size, fun k hk => (Below.heap_setCell u ⟨g, i, none⟩ x k (show k ≠ g from hk ⟨g, 0, none⟩ hp)).trans (h.block k hk)⟩
end Go.Proofs.YtdplfflkmphpbaaGreatDoor.W
namespace Go.Proofs.YtdplfflkmphpbaaGreatDoor.Pl
def tk (zs : List Int) (k : Nat) : List Int := zs.take k ++ List.replicate (zs.length - k) 0
end Go.Proofs.YtdplfflkmphpbaaGreatDoor.Pl
namespace Go.Proofs.YtdplfflkmphpbaaGreatDoor.W
open Go.RowKit
end Go.Proofs.YtdplfflkmphpbaaGreatDoor.W
namespace Go.Proofs.YtdplfflkmphpbaaGreatDoor.Pl
end Go.Proofs.YtdplfflkmphpbaaGreatDoor.Pl
namespace Go.Proofs.YtdplfflkmphpbaaGreatDoor.W
open Go.RowKit
theorem conv_oneH (w : World) (c : Int) : (convert 22 9 (.slice (some ⟨w.heap.size, 0, none⟩) 1 1)).run Tryz.prog (w.alloc (.cells #[.int .u8 c] 5)) = .ok (.string (ByteArray.empty.push (UInt8.ofNat c.toNat))) (w.alloc (.cells #[.int .u8 c] 5)) := by
  rw [run_convert_bytes_string _ 22 9 5 _ _ _ Tryz.underlying22 Tryz.underlying5 Tryz.underlying9]
  refine run_bytesToString _ _ 1 1 [c] ?_
  refine (run_loadCells_list _ _ [.int .u8 c] ?_).trans rfl
  intro j v hj
  rcases j with _ | j
  · cases hj
    exact cell_of_row _ w.heap.size 0 _ 5 (0, 0) (heap_alloc_new w _)
  · simp at hj
end Go.Proofs.YtdplfflkmphpbaaGreatDoor.W
namespace Go.Proofs.YtdplfflkmphpbaaGreatDoor.Pl
def Tk.zero : Tk := ⟨0, ⟨#[]⟩, 0, 0, 0⟩
theorem Tk.all_cons (t : Tk) (ts : List Tk) : Tk.all (t :: ts) = .int .i64 t.k :: .string t.S :: .int .i64 t.N :: .int .i64 t.l :: .int .i64 t.c :: Tk.all ts := rfl
theorem Tk.all_length (ts : List Tk) : (Tk.all ts).length = ts.length * 5 := by
  induction ts with
  | nil => rfl
  | cons t ts ih => rw [Tk.all_cons]; simp [ih]; omega
theorem Tk.all_get : ∀ (ts : List Tk) (k j : Nat), k < ts.length → j < 5 → (Tk.all ts)[k * 5 + j]? = (ts.getD k Tk.zero).cells[j]?
  | [], k, j, hk, hj => by simp at hk
  | t :: ts, 0, j, hk, hj => by
    rw [Tk.all_cons]
    rcases j with _ | _ | _ | _ | _ | j
    · rfl
    · rfl
    · rfl
    · rfl
    · rfl
    · omega
  | t :: ts, k + 1, j, hk, hj => by
    rw [Tk.all_cons, show (k + 1) * 5 + j = (k * 5 + j) + 1 + 1 + 1 + 1 + 1 by omega]
    simp only [List.getElem?_cons_succ, List.getD_cons_succ]
    exact Tk.all_get ts k j (by simpa using hk) hj
end Go.Proofs.YtdplfflkmphpbaaGreatDoor.Pl
namespace Go.Proofs.YtdplfflkmphpbaaGreatDoor.W
open Go.RowKit
theorem tok_len {w : World} {lo len cap : Nat} {a : Option Addr} {ts : List Pl.Tk} (h : w.ownsRow lo 34 5 (.slice a len cap) len (Pl.Tk.all ts)) : ts.length = len ∧ len ≤ 9223372036854775807 := by
  have h1 := h.1
  rw [Pl.Tk.all_length] at h1
  refine ⟨by omega, ?_⟩
  rcases h.2 with ⟨h0, h2⟩ | ⟨g, c, cur, h0, _, _, hn, hc, _⟩
  · omega
  · unfold maxLen at hc; omega
theorem tok_at {w : World} {lo len cap : Nat} {a : Option Addr} {ts : List Pl.Tk} (h : w.ownsRow lo 34 5 (.slice a len cap) len (Pl.Tk.all ts)) {k : Nat} (hk : k < len) : ∃ g, a = some ⟨g, 0, none⟩ ∧ lo ≤ g ∧ g < w.heap.size ∧ ∃ x, x = ts.getD k Pl.Tk.zero ∧ w.cell? ⟨g, k * 5, none⟩ = some (.int .i64 x.k) ∧ w.cell? ⟨g, k * 5 + 1, none⟩ = some (.string x.S) ∧ w.cell? ⟨g, k * 5 + 2, none⟩ = some (.int .i64 x.N) ∧ w.cell? ⟨g, k * 5 + 3, none⟩ = some (.int .i64 x.l) ∧ w.cell? ⟨g, k * 5 + 4, none⟩ = some (.int .i64 x.c) := by
  have hl := (tok_len h).1
  obtain ⟨g, rfl, hlo, hg⟩ : ∃ g, a = some ⟨g, 0, none⟩ ∧ lo ≤ g ∧ g < w.heap.size := by
    rcases h.2 with ⟨h0, h2⟩ | ⟨g, c, cur, h0, hlo, hg, _⟩
    · omega
    · simp only [Value.slice.injEq] at h0
      exact ⟨g, h0.1, hlo, (Array.getElem?_eq_some_iff.1 hg).1⟩
  have c := fun j (hj : j < 5) => (h.cellAt (k * 5 + j) (by omega)).trans (Pl.Tk.all_get ts k j (by omega) hj)
  exact ⟨g, rfl, hlo, hg, _, rfl, c 0 (by omega), c 1 (by omega), c 2 (by omega), c 3 (by omega), c 4 (by omega)⟩
end Go.Proofs.YtdplfflkmphpbaaGreatDoor.W
namespace Go.Proofs.YtdplfflkmphpbaaGreatDoor.W
open Go.RowKit
end Go.Proofs.YtdplfflkmphpbaaGreatDoor.W
namespace Go.Proofs.YtdplfflkmphpbaaGreatDoor.W
open Go.RowKit
end Go.Proofs.YtdplfflkmphpbaaGreatDoor.W
namespace Go.Proofs.YtdplfflkmphpbaaGreatDoor.Pl
def num (n : Int) : ByteArray := ⟨(Lib.itoa n).toArray⟩
theorem dig_small {u : Nat} (h : u < 10) : Lib.decDigits u = [UInt8.ofNat (48 + u)] := by rw [Lib.decDigits, dif_pos h]
theorem dig_big {u : Nat} (h : ¬ u < 10) : Lib.decDigits u = Lib.decDigits (u / 10) ++ [UInt8.ofNat (48 + u % 10)] := by rw [Lib.decDigits, dif_neg h]
theorem num_nat {n : Int} (h : 0 ≤ n) : num n = ⟨(Lib.decDigits n.toNat).toArray⟩ := by
  unfold num Lib.itoa
  rw [if_neg (by omega)]
theorem num_neg {n : Int} (h : n < 0) : num n = ⟨(45 :: Lib.decDigits n.natAbs).toArray⟩ := by
  unfold num Lib.itoa
  rw [if_pos h]
theorem dig_head : ∀ (d u : Nat), u ≤ d → ∃ c r, Lib.decDigits u = c :: r ∧ 48 ≤ c.toNat ∧ c.toNat ≤ 57 := by
  intro d
  induction d with
  | zero =>
    intro u hu
    obtain rfl : u = 0 := by omega
    exact ⟨_, [], dig_small (by omega), by decide, by decide⟩
  | succ d ih =>
    intro u hu
    by_cases h : u < 10
    · refine ⟨_, [], dig_small h, ?_, ?_⟩ <;> simp <;> omega
    · obtain ⟨c, r, h1, h2⟩ := ih (u / 10) (by omega)
      exact ⟨c, r ++ [UInt8.ofNat (48 + u % 10)], by rw [dig_big h, h1]; rfl, h2⟩
theorem wrdR_S {s : ByteArray} {k N : Int} {S : ByteArray} (h : wrdR s = .ok (k, S, N)) : (k = 3 ∧ (S = ⟨#[117]⟩ ∨ S = ⟨#[]⟩)) ∨ ((k = 1 ∨ k = 2) ∧ S = s) := by
  unfold wrdR at h
  split at h
  · split at h
    · cases h
    · rename_i S' N' hi
      cases h
      refine .inl ⟨rfl, ?_⟩
      unfold intR at hi
      split at hi
      · cases hi
      · split at hi
        · cases hi
        · have hi2 := (Except.ok.inj hi)
          have e1 := congrArg Prod.fst hi2
          simp only at e1
          rw [← e1]
          split
          · exact .inl rfl
          · exact .inr rfl
  · split at h
    · cases h
    · split at h
      · cases h; exact .inr ⟨.inr rfl, rfl⟩
      · cases h; exact .inr ⟨.inl rfl, rfl⟩
theorem tokF_S {s : ByteArray} {i : Nat} (hi : i < s.size) {k N : Int} {S : ByteArray} {n : Nat} (h : tokF s i = .ok (k, S, N, n)) : (k = 3 ∧ (S = ⟨#[117]⟩ ∨ S = ⟨#[]⟩)) ∨ (k = 3 ∧ S = ⟨#[99]⟩ ∧ 0 ≤ N) ∨ (k = 4 ∧ S.size ≤ 200) ∨ ((k = 1 ∨ k = 2 ∨ k = 5) ∧ S.size + i ≤ s.size) := by
  have hsz := ext_sz s i
  have hn := (tokF_n hi h).1
  unfold tokF at h
  split at h
  · have hr := run_run wch (s.extract i s.size)
    split at h
    · cases h
    · rename_i k' S' N' hk
      cases h
      rcases wrdR_S hk with ⟨a, b⟩ | ⟨a, b⟩
      · exact .inl ⟨a, b⟩
      · refine .inr (.inr (.inr ⟨by omega, ?_⟩))
        rw [b, ext_size]
        omega
  · split at h
    · split at h
      · cases h
      · split at h
        · cases h
          refine .inr (.inl ⟨rfl, rfl, ?_⟩)
          show 0 ≤ wd _
          unfold wd
          omega
        · cases h
    · split at h
      · split at h
        · cases h
        · split at h
          · cases h
          · rename_i hb
            cases h
            refine .inr (.inr (.inl ⟨rfl, ?_⟩))
            simp [ByteArray.size]
            omega
      · split at h
        · cases h
        · cases h
          refine .inr (.inr (.inr ⟨by omega, ?_⟩))
          rw [ext_size]
          omega
theorem Sk.at0 {s : ByteArray} {j : Nat} {b : Bool} (h : Sk s 0 j b) (h1 : blk (byt s 0) = false) (h2 : byt s 0 ≠ 47) : j = 0 := by
  cases h with
  | stop _ => rfl
  | opn h _ => exact absurd h.2.1 h2
  | blank _ h _ => rw [h1] at h; cases h
  | line h _ _ => exact absurd h.2.1 h2
  | blok h _ _ => exact absurd h.2.1 h2
theorem Lx.pre {s : ByteArray} {i : Nat} {acc : List Tk} {r : List Tk × Int × Int × Int} (h : Lx s i acc r) : r.1 = [] ∨ (r.2.1 = 0 ∧ ∃ l, r.1 = acc ++ l ∧ l ≠ []) := by
  induction h with
  | opn _ => exact .inl rfl
  | fin _ _ => exact .inr ⟨rfl, _, rfl, by simp⟩
  | bad _ _ _ => exact .inl rfl
  | many _ _ _ _ => exact .inl rfl
  | go _ _ _ _ _ ih =>
    rcases ih with q | ⟨q, l, e, _⟩
    · exact .inl q
    · exact .inr ⟨q, _, by rw [e, List.append_assoc], by simp⟩
theorem lx_two {s : ByteArray} {t0 t1 : Tk} {c l k : Int} (h : W.LxAll s ([t0, t1], c, l, k)) : c = 0 ∧ ∃ j n, j < s.size ∧ Sk s 0 j true ∧ tokF s j = .ok (t0.k, t0.S, t0.N, n) ∧ t0.l = ln s j ∧ t0.c = cn s j := by
  rcases h with ⟨_, h⟩ | ⟨_, h⟩
  · cases h
  cases h with
  | go hsk hj htf hl hr =>
    rcases hr.pre with q | ⟨q, l', e, _⟩
    · cases q
    · have e' := congrArg (fun x => x.head?) e
      simp at e'
      subst e'
      exact ⟨q, _, _, hj, hsk, htf, rfl, rfl⟩
end Go.Proofs.YtdplfflkmphpbaaGreatDoor.Pl
namespace Go.Proofs.YtdplfflkmphpbaaGreatDoor.Pl
def Two (x : ByteArray) (P : Tk → Prop) : Prop := ∃ t0 t1 c l k, W.LxAll x ([t0, t1], c, l, k) ∧ P t0
open Classical in
noncomputable def ttx (x : ByteArray) (P : Tk → Prop) : ByteArray := if Two x P then x else ⟨#[]⟩
theorem ttx_yes {x : ByteArray} {P : Tk → Prop} (h : Two x P) : ttx x P = x := if_pos h
theorem ttx_no {x : ByteArray} {P : Tk → Prop} (h : ¬ Two x P) : ttx x P = ⟨#[]⟩ := if_neg h
theorem ttx_same {x : ByteArray} {P Q : Tk → Prop} (h : Two x P ↔ Two x Q) : ttx x P = ttx x Q := by
  by_cases q : Two x P
  · rw [ttx_yes q, ttx_yes (h.1 q)]
  · rw [ttx_no q, ttx_no fun r => q (h.2 r)]
def Ps (t t0 : Tk) : Prop := t0.k = t.k ∧ t0.S = t.S ∧ t0.N = t.N
def Pi (t t0 : Tk) : Prop := t0 = ⟨t.k, t.S, t.N, 1, 1⟩
def chr (b : Nat) : ByteArray := ⟨((UInt8.ofNat 39 :: shown b 39) ++ [UInt8.ofNat 39]).toArray⟩
open Classical in
noncomputable def ttS (t : Tk) : ByteArray :=
  if t.k = 3 then (if t.N < 0 ∨ (t.S ≠ ⟨#[]⟩ ∧ t.S ≠ ⟨#[117]⟩ ∧ t.S ≠ ⟨#[99]⟩) then ⟨#[]⟩ else ttx (if t.S = ⟨#[99]⟩ then chr (t.N % 256).toNat else num t.N ++ t.S) (Ps t))
  else if t.k = 4 then (if 200 < t.S.size then ⟨#[]⟩ else ttx (qt t.S 34) (Ps t)) else ttx t.S (Ps t)
open Classical in
noncomputable def txtI (t : Tk) : ByteArray :=
  if t.k = 1 ∨ t.k = 2 ∨ t.k = 5 then t.S else if t.k = 3 then (if t.S = ⟨#[99]⟩ then chr (t.N % 256).toNat else if t.S = ⟨#[117]⟩ then num t.N ++ ⟨#[117]⟩ else num t.N) else if t.k = 4 then qt t.S 34 else ⟨#[]⟩
noncomputable def ttI (t : Tk) : ByteArray := ttx (txtI t) (Pi t)
theorem two_i {x : ByteArray} {t : Tk} (h : Two x (Pi t)) : Two x (Ps t) := by
  obtain ⟨t0, t1, c, l, k, h1, h2⟩ := h
  unfold Pi at h2
  subst h2
  exact ⟨_, t1, c, l, k, h1, rfl, rfl, rfl⟩
theorem two_s {x : ByteArray} {t : Tk} (hj : ∀ j n, Sk x 0 j true → tokF x j = .ok (t.k, t.S, t.N, n) → j < x.size → j = 0) (h : Two x (Ps t)) : Two x (Pi t) := by
  obtain ⟨t0, t1, c, l, k, h1, h2, h3, h4⟩ := h
  obtain ⟨_, j, n, hj1, hsk, htf, hl, hc⟩ := lx_two h1
  rw [h2, h3, h4] at htf
  have e := hj j n hsk htf hj1
  subst e
  refine ⟨t0, t1, c, l, k, h1, ?_⟩
  obtain ⟨a0, a1, a2, a3, a4⟩ := t0
  simp only at h2 h3 h4 hl hc
  subst h2 h3 h4 hl hc
  rfl
theorem two_first {x : ByteArray} {t : Tk} (h1 : blk (byt x 0) = false) (h2 : byt x 0 ≠ 47) : Two x (Ps t) ↔ Two x (Pi t) := ⟨two_s fun j n h _ _ => h.at0 h1 h2, two_i⟩
theorem two_tok {x : ByteArray} {t : Tk} (h : Two x (Ps t)) : ∃ j n, j < x.size ∧ Sk x 0 j true ∧ tokF x j = .ok (t.k, t.S, t.N, n) := by
  obtain ⟨t0, t1, c, l, k, h1, h2, h3, h4⟩ := h
  obtain ⟨_, j, n, hj1, hsk, htf, hl, hc⟩ := lx_two h1
  rw [h2, h3, h4] at htf
  exact ⟨j, n, hj1, hsk, htf⟩
theorem byt_mk (l : List UInt8) (b : UInt8) : byt ⟨(b :: l).toArray⟩ 0 = (b.toNat : Int) := by simp [byt, ByteArray.size]
theorem app_list (a b : List UInt8) : (⟨a.toArray⟩ : ByteArray) ++ ⟨b.toArray⟩ = ⟨(a ++ b).toArray⟩ := by
  apply ByteArray.ext
  simp [ByteArray.data_append]
theorem app_nil' (a : ByteArray) : a ++ (⟨#[]⟩ : ByteArray) = a := by
  apply ByteArray.ext
  simp [ByteArray.data_append]
theorem tok45 {x : ByteArray} {k N : Int} {S : ByteArray} {n : Nat} (h : byt x 0 = 45) (htf : tokF x 0 = .ok (k, S, N, n)) : k = 5 := by
  have e : tokF x 0 = if sgn (x.extract 0 x.size) = 0 then .error 2 else .ok (5, x.extract 0 (0 + sgn (x.extract 0 x.size)), 0, 0 + sgn (x.extract 0 x.size)) := by
    unfold tokF
    rw [h, if_neg (show ¬ wch 45 = true by decide), if_neg (show ¬ (45 : Int) = 39 by decide), if_neg (show ¬ (45 : Int) = 34 by decide)]
  rw [e] at htf
  by_cases q : sgn (x.extract 0 x.size) = 0
  · rw [if_pos q] at htf
    cases htf
  · rw [if_neg q] at htf
    have := congrArg Prod.fst (Except.ok.inj htf)
    exact this.symm
theorem tt_int {t : Tk} (hk : t.k = 3) : ttS t = ttI t := by
  unfold ttS ttI txtI
  rw [if_pos hk, if_neg (show ¬ (t.k = 1 ∨ t.k = 2 ∨ t.k = 5) by omega), if_pos hk]
  by_cases hbad : t.N < 0 ∨ (t.S ≠ ⟨#[]⟩ ∧ t.S ≠ ⟨#[117]⟩ ∧ t.S ≠ ⟨#[99]⟩)
  · rw [if_pos hbad, ttx_no]
    intro h
    obtain ⟨j, n, hj, hsk, htf⟩ := two_tok (two_i h)
    rcases tokF_S hj htf with ⟨_, q⟩ | ⟨_, q, q'⟩ | ⟨q, _⟩ | ⟨q, _⟩
    · rcases hbad with hN | ⟨b1, b2, b3⟩
      · have key : ∀ x : ByteArray, byt x 0 = 45 → ∀ j, j < x.size → Sk x 0 j true → tokF x j = .ok (t.k, t.S, t.N, n) → False := by
          intro x hx j hj hsk htf
          have e := hsk.at0 (by rw [hx]; decide) (by rw [hx]; decide)
          subst e
          have := tok45 hx htf
          omega
        have hne : t.S ≠ ⟨#[99]⟩ := by
          rcases q with q | q <;> rw [q] <;> decide
        rw [if_neg hne] at hj hsk htf
        by_cases hu : t.S = ⟨#[117]⟩
        · rw [if_pos hu] at hj hsk htf
          refine key _ ?_ j hj hsk htf
          rw [num_neg hN]
          show byt ((⟨(45 :: Lib.decDigits t.N.natAbs).toArray⟩ : ByteArray) ++ ⟨[117].toArray⟩) 0 = 45
          rw [app_list]
          exact byt_mk _ _
        · rw [if_neg hu] at hj hsk htf
          refine key _ ?_ j hj hsk htf
          rw [num_neg hN]
          exact byt_mk _ _
      · rcases q with q | q
        · exact b2 q
        · exact b1 q
    · rcases hbad with hN | ⟨b1, b2, b3⟩
      · omega
      · exact b3 q
    · omega
    · omega
  · rw [if_neg hbad]
    have hN : 0 ≤ t.N := by
      rcases Int.lt_or_le t.N 0 with q | q
      · exact absurd (.inl q) hbad
      · exact q
    obtain ⟨c, r, hd, h1, h2⟩ := dig_head _ t.N.toNat (Nat.le_refl _)
    have hdb : ∀ b : Int, 48 ≤ b → b ≤ 57 → blk b = false ∧ b ≠ 47 := by
      intro b q1 q2
      refine ⟨?_, by omega⟩
      unfold blk
      simp
      omega
    have dgt : ∀ x : ByteArray, 48 ≤ byt x 0 → byt x 0 ≤ 57 → ttx x (Ps t) = ttx x (Pi t) := fun x q1 q2 => ttx_same (two_first (hdb _ q1 q2).1 (hdb _ q1 q2).2)
    by_cases hc : t.S = ⟨#[99]⟩
    · rw [if_pos hc, if_pos hc]
      refine ttx_same (two_first ?_ ?_)
      · unfold chr; rw [List.cons_append, byt_mk]; decide
      · unfold chr; rw [List.cons_append, byt_mk]; decide
    · rw [if_neg hc, if_neg hc]
      by_cases hu : t.S = ⟨#[117]⟩
      · rw [if_pos hu, hu]
        have e : byt (num t.N ++ (⟨#[117]⟩ : ByteArray)) 0 = (c.toNat : Int) := by
          rw [num_nat hN, hd]
          show byt ((⟨(c :: r).toArray⟩ : ByteArray) ++ ⟨[117].toArray⟩) 0 = _
          rw [app_list]
          exact byt_mk _ _
        exact dgt _ (by rw [e]; omega) (by rw [e]; omega)
      · rw [if_neg hu]
        have he : t.S = ⟨#[]⟩ := Classical.byContradiction fun q => hbad (.inr ⟨q, hu, hc⟩)
        have e : byt (num t.N) 0 = (c.toNat : Int) := by
          rw [num_nat hN, hd]
          exact byt_mk _ _
        rw [he, app_nil']
        exact dgt _ (by rw [e]; omega) (by rw [e]; omega)
theorem tt_str {t : Tk} (hk : t.k = 4) : ttS t = ttI t := by
  unfold ttS ttI txtI
  rw [if_neg (show ¬ t.k = 3 by omega), if_pos hk, if_neg (show ¬ (t.k = 1 ∨ t.k = 2 ∨ t.k = 5) by omega), if_neg (show ¬ t.k = 3 by omega), if_pos hk]
  by_cases hb : 200 < t.S.size
  · rw [if_pos hb, ttx_no]
    intro h
    obtain ⟨j, n, hj, hsk, htf⟩ := two_tok (two_i h)
    rcases tokF_S hj htf with ⟨q, _⟩ | ⟨q, _⟩ | ⟨_, q⟩ | ⟨q, _⟩ <;> omega
  · rw [if_neg hb]
    have e : byt (qt t.S 34) 0 = 34 := by
      unfold qt qc
      rw [List.cons_append, byt_mk]
      rfl
    exact ttx_same (two_first (by rw [e]; decide) (by rw [e]; decide))
theorem tt_all (t : Tk) : ttS t = ttI t := by
  by_cases h3 : t.k = 3
  · exact tt_int h3
  by_cases h4 : t.k = 4
  · exact tt_str h4
  unfold ttS ttI txtI
  rw [if_neg h3, if_neg h4, if_neg h3, if_neg h4]
  by_cases h : t.k = 1 ∨ t.k = 2 ∨ t.k = 5
  · rw [if_pos h]
    refine ttx_same ⟨two_s fun j n hsk htf hj => ?_, two_i⟩
    rcases tokF_S hj htf with ⟨q, _⟩ | ⟨q, _⟩ | ⟨q, _⟩ | ⟨_, q⟩ <;> omega
  · rw [if_neg h, ttx_no, ttx_no]
    · intro q
      obtain ⟨j, n, hj, _⟩ := two_tok (two_i q)
      exact absurd hj (Nat.not_lt_zero _)
    · intro q
      obtain ⟨j, n, hj, hsk, htf⟩ := two_tok q
      have := (tokF_n hj htf).2.1
      rcases tokF_S hj htf with ⟨q, _⟩ | ⟨q, _⟩ | ⟨q, _⟩ | ⟨q, _⟩ <;> omega
end Go.Proofs.YtdplfflkmphpbaaGreatDoor.Pl
