import Derived.Test.YtdplfflkmphpbaaGreatDoorP18
import Derived.Test.YtdplfflkmphpbaaGreatDoorP19
set_option linter.unusedVariables false
set_option linter.unusedSimpArgs false
namespace Go.Proofs.YtdplfflkmphpbaaGreatDoor.Pl
theorem Lx.len {s : ByteArray} {i : Nat} {acc : List Tk} {r : List Tk × Int × Int × Int} (h : Lx s i acc r) : acc.length ≤ 6000 → r.1.length ≤ 6001 := by
  induction h with
  | opn _ => exact fun _ => Nat.zero_le _
  | fin _ _ => intro q; simp; exact q
  | bad _ _ _ => exact fun _ => Nat.zero_le _
  | many _ _ _ _ => exact fun _ => Nat.zero_le _
  | go _ _ _ hl _ ih => exact fun _ => ih (by simp; omega)
end Go.Proofs.YtdplfflkmphpbaaGreatDoor.Pl
namespace Go.Proofs.YtdplfflkmphpbaaGreatDoor.W
open Go.RowKit
theorem LxAll.len {s : ByteArray} {r : List Pl.Tk × Int × Int × Int} (h : LxAll s r) : r.1.length ≤ 6001 := by
  rcases h with ⟨_, rfl⟩ | ⟨_, h⟩
  · exact Nat.zero_le _
  · exact h.len (Nat.zero_le _)
def TR (lo hi : Nat) (u : World) (a : Option Addr) (n cap : Nat) (ts : List Pl.Tk) : Prop := u.ownsRow lo 34 5 (.slice a n cap) n (Pl.Tk.all ts) ∧ ∀ g, (Value.slice a n cap).ownBlock = some g → lo ≤ g ∧ g < hi
theorem tr_other {B : Nat} {e : TypeId} {k : Nat} {v : Value} {n : Nat} {xs : List Value} {w w' : World} (h : w.ownsRow B e k v n xs) (hb : ∀ g, v.ownBlock = some g → w'.heap[g]? = w.heap[g]?) : w'.ownsRow B e k v n xs := by
  refine ⟨h.1, ?_⟩
  rcases h.2 with ⟨a, b⟩ | ⟨g, cap, cur, h0, hlo, hg, r⟩
  · exact .inl ⟨a, b⟩
  · exact .inr ⟨g, cap, cur, h0, hlo, (hb g (by rw [h0]; rfl)).trans hg, r⟩
theorem TR.keep {lo hi : Nat} {u u' : World} {a : Option Addr} {n cap : Nat} {ts : List Pl.Tk} (h : TR lo hi u a n cap ts) (hi' : hi ≤ u.heap.size) (d : Below u.heap.size u u') : TR lo hi u' a n cap ts :=
  ⟨tr_other h.1 fun g hg => d.block g (Nat.lt_of_lt_of_le (h.2 g hg).2 hi'), h.2⟩
theorem TR.touch {lo hi x : Nat} {u u' : World} {a : Option Addr} {n cap : Nat} {ts : List Pl.Tk} (h : TR lo hi u a n cap ts) (d : Touch (some ⟨x, 0, none⟩) u u') (hx : x < lo ∨ hi ≤ x) : TR lo hi u' a n cap ts :=
  ⟨tr_other h.1 fun g hg => d.block g (fun ad had => by cases had; have := h.2 g hg; show g ≠ x; omega), h.2⟩
theorem TR.grown {lo hi : Nat} {u u' : World} {a : Option Addr} {n cap : Nat} {ts : List Pl.Tk} {row : Option Nat} (h : TR lo hi u a n cap ts) (hi' : hi ≤ u.heap.size) (d : u.grownBy u' row) (hx : ∀ g, row = some g → hi ≤ g) : TR lo hi u' a n cap ts :=
  ⟨tr_other h.1 fun g hg => d.block g (Nat.lt_of_lt_of_le (h.2 g hg).2 hi') (fun e => by have := hx g e.symm; have := h.2 g hg; omega), h.2⟩
theorem LexSaid.got {base : Nat} {s : ByteArray} {e : Ending} {w : World} (h : LexSaid base s e w) : ∃ ts c l k a cap, LxAll s (ts, c, l, k) ∧ e = .returned (.tuple #[.slice a ts.length cap, .int .i64 c, .int .i64 l, .int .i64 k]) ∧ TR base w.heap.size w a ts.length cap ts := by
  obtain ⟨ts, c, l, k, v, hx, he, ho⟩ := h
  obtain ⟨a, cap, rfl⟩ := own_formG ho
  refine ⟨ts, c, l, k, a, cap, hx, he, ho, fun g hg => ?_⟩
  rcases ho.2 with ⟨x, y⟩ | ⟨g', c', cur, x, hlo, hg', _⟩
  · rw [x] at hg
    cases hg
  · rw [x] at hg
    cases hg
    exact ⟨hlo, (Array.getElem?_eq_some_iff.1 hg').1⟩
theorem own_lt {k : IntKind} {e : TypeId} {lo g len cap : Nat} {w : World} {zs : List Int} (h : Own k e lo w (some ⟨g, 0, none⟩) len cap zs) : g < w.heap.size := by
  rcases h.1.2 with ⟨x, _⟩ | ⟨g', c', cur, x, _, hg', _⟩
  · cases x
  · cases x
    exact (Array.getElem?_eq_some_iff.1 hg').1
theorem below_touchX {B x : Nat} {w u v : World} (h : Below B w u) (d : Touch (some ⟨x, 0, none⟩) u v) (hb : B ≤ x) : Below B w v :=
  ⟨d.os.trans h.os, d.tape.trans h.tape, d.output.trans h.output, by rw [d.size]; exact h.size, fun k hk => (d.block k (fun ad had => by cases had; show k ≠ x; omega)).trans (h.block k hk)⟩
theorem below_next {B : Nat} {w u v : World} (d : Below u.heap.size u v) (h : Below B w u) (hB : B ≤ u.heap.size) : Below B w v := h.trans (d.mono hB)
set_option maxRecDepth 8000 in
set_option maxHeartbeats 8000000 in
theorem fnExactLex_walk {lo : Nat} (a : Option Addr) (len cap : Nat) (zs : List Int) (w : World) (h : Row .u8 lo w a len cap zs) (hE : Glo w) :
    Calls Tryz.prog 3 #[.slice a len cap] w fun e w' => e = .returned (.bool true) ∧ Below w.heap.size w w' := by
  have hm : (len : Int) ≤ 9223372036854775807 := by have := h.small; omega
  have HS : Hid ((strOfNums zs).size = len) := (strOfNums_size zs).trans h.1
  have HR : Hid (Row .u8 lo w a len cap zs) := h
  have HE : Hid (Glo w) := hE
  have D0 : Hid (Below w.heap.size w w) := Below.refl _ _
  clear h hE
  go_enter Tryz.func3, Tryz.ntmps3
  by_cases hsm : len ≤ 1048576
  rotate_left
  · have e1 : (1048576 : Int) < len := by omega
    go_wp2_with fail
    go_ret
    exact ⟨rfl, D0.out⟩
  have e1 : ¬ ((1048576 : Int) < len) := by omega
  go_wp2_with (first | (go_at_call 8; refine (toByteS_any a len cap zs _ (HR.out.keep D11.out) hsm).mono ?_; rintro e u12 ⟨rfl, o12, d12⟩; have O12 : Hid (Own .u8 5 u11.heap.size u12 (some ⟨u11.heap.size, 0, none⟩) len len zs) := o12; have D12 : Hid (Below w.heap.size w u12) := below_next d12 D11.out (by omega); have z12 : u11.heap.size ≤ u12.heap.size := d12.size; have G12 : Hid (TR u1.heap.size u2.heap.size u12 a0 ts.length c0 ts) := G11.out.keep (by omega) d12; clear o12 d12) | (go_at_call 8; refine (toByteS_any a len cap zs _ (HR.out.keep D5.out) hsm).mono ?_; rintro e u6 ⟨rfl, o6, d6⟩; have L6 : Hid (Own .u8 5 u5.heap.size u6 (some ⟨u5.heap.size, 0, none⟩) len len zs) := o6; have D6 : Hid (Below w.heap.size w u6) := below_next d6 D5.out (by omega); have z6 : u5.heap.size ≤ u6.heap.size := d6.size; have G6 : Hid (TR u1.heap.size u2.heap.size u6 a0 ts.length c0 ts) := G5.out.keep (by omega) d6; have I6 : Hid (TR u3.heap.size u4.heap.size u6 a1 ts.length c1 ts) := I5.out.keep (by omega) d6; have X6 : Hid (Own .u8 5 u2.heap.size u6 (some ⟨u2.heap.size, 0, none⟩) len len zs) := X5.out.keep d6; clear o6 d6) | (go_at_call 8; refine (toByteS_any a len cap zs _ (HR.out.keep D2.out) hsm).mono ?_; rintro e u3 ⟨rfl, o3, d3⟩; have X3 : Hid (Own .u8 5 u2.heap.size u3 (some ⟨u2.heap.size, 0, none⟩) len len zs) := o3; have D3 : Hid (Below w.heap.size w u3) := below_next d3 D2.out (by omega); have z3 : u2.heap.size ≤ u3.heap.size := d3.size; have G3 : Hid (TR u1.heap.size u2.heap.size u3 a0 ts.length c0 ts) := G2.out.keep (by omega) d3; have z23 : u2.heap.size < u3.heap.size := own_lt o3; clear o3 d3) | (go_at_call 8; refine (toByteS_any a len cap zs _ HR.out hsm).mono ?_; rintro e u1 ⟨rfl, o1, d1⟩; have O1 : Hid (Own .u8 5 w.heap.size u1 (some ⟨w.heap.size, 0, none⟩) len len zs) := o1; have D1 : Hid (Below w.heap.size w u1) := d1; have z1 : w.heap.size ≤ u1.heap.size := d1.size; clear o1 d1) | (go_at_call 7; refine (specLex_is _ len len (strOfNums zs) HS.out hsm u1 (fun u hu => conv_row _ _ _ _ _ (O1.out.row.keep hu))).mono ?_; rintro e u2 ⟨h2, d2⟩; obtain ⟨ts, c, l, k, a0, c0, hx, rfl, g2⟩ := LexSaid.got h2; have D2 : Hid (Below w.heap.size w u2) := below_next d2 D1.out (by omega); have z2 : u1.heap.size ≤ u2.heap.size := d2.size; have G2 : Hid (TR u1.heap.size u2.heap.size u2 a0 ts.length c0 ts) := g2; have HX : Hid (LxAll (strOfNums zs) (ts, c, l, k)) := hx; have hln : ts.length ≤ 6001 := hx.len; clear h2 g2 d2 hx) | (go_at_call 9; refine (implLex_is _ len len (strOfNums zs) HS.out hsm u12 (HE.out.on D12.out) (fun u hu => conv_row _ _ _ _ _ (O12.out.row.keep hu))).mono ?_; rintro e u13 ⟨h13, d13⟩; obtain ⟨ts', c', l', k', a2, c2, hx', rfl, i13⟩ := LexSaid.got h13; obtain ⟨rfl, rfl, rfl, rfl⟩ : ts = ts' ∧ c = c' ∧ l = l' ∧ k = k' := (by have := HX.out.fn hx'; simp only [Prod.mk.injEq] at this; exact this); have D13 : Hid (Below w.heap.size w u13) := below_next d13 D12.out (by omega); have z13 : u12.heap.size ≤ u13.heap.size := d13.size; have K13 : Hid (TR u12.heap.size u13.heap.size u13 a2 ts.length c2 ts) := i13; have G13 : Hid (TR u1.heap.size u2.heap.size u13 a0 ts.length c0 ts) := G12.out.keep (by omega) d13; clear h13 i13 d13 hx') | (go_at_call 9; refine (implLex_is _ len len (strOfNums zs) HS.out hsm u3 (HE.out.on D3.out) (fun u hu => conv_row _ _ _ _ _ (X3.out.row.keep hu))).mono ?_; rintro e u4 ⟨h4, d4⟩; obtain ⟨ts', c', l', k', a1, c1, hx', rfl, i4⟩ := LexSaid.got h4; obtain ⟨rfl, rfl, rfl, rfl⟩ : ts = ts' ∧ c = c' ∧ l = l' ∧ k = k' := (by have := HX.out.fn hx'; simp only [Prod.mk.injEq] at this; exact this); have D4 : Hid (Below w.heap.size w u4) := below_next d4 D3.out (by omega); have z4 : u3.heap.size ≤ u4.heap.size := d4.size; have I4 : Hid (TR u3.heap.size u4.heap.size u4 a1 ts.length c1 ts) := i4; have G4 : Hid (TR u1.heap.size u2.heap.size u4 a0 ts.length c0 ts) := G3.out.keep (by omega) d4; have X4 : Hid (Own .u8 5 u2.heap.size u4 (some ⟨u2.heap.size, 0, none⟩) len len zs) := X3.out.keep d4; clear h4 i4 d4 hx') | (go_at_call 10; refine (eqTokenS_same _ _ ts.length _ _ ts _ K13.out.1 G13.out.1).mono ?_; rintro e u14 ⟨rfl, d14⟩; have D14 : Hid (Below w.heap.size w u14) := below_next d14 D13.out (by omega); have z14 : u13.heap.size ≤ u14.heap.size := d14.size; clear d14) | (go_at_call 10; refine (eqTokenS_same _ _ ts.length _ _ ts _ I8.out.1 G8.out.1).mono ?_; rintro e u9 ⟨rfl, d9⟩; have D9 : Hid (Below w.heap.size w u9) := below_next d9 D8.out (by omega); have z9 : u8.heap.size ≤ u9.heap.size := d9.size; have G9 : Hid (TR u1.heap.size u2.heap.size u9 a0 ts.length c0 ts) := G8.out.keep (by omega) d9; have I9 : Hid (TR u3.heap.size u4.heap.size u9 a1 ts.length c1 ts) := I8.out.keep (by omega) d9; clear d9) | (go_at_call 10; refine (eqTokenS_same _ _ ts.length _ _ ts _ I4.out.1 G4.out.1).mono ?_; rintro e u5 ⟨rfl, d5⟩; have D5 : Hid (Below w.heap.size w u5) := below_next d5 D4.out (by omega); have z5 : u4.heap.size ≤ u5.heap.size := d5.size; have G5 : Hid (TR u1.heap.size u2.heap.size u5 a0 ts.length c0 ts) := G4.out.keep (by omega) d5; have I5 : Hid (TR u3.heap.size u4.heap.size u5 a1 ts.length c1 ts) := I4.out.keep (by omega) d5; have X5 : Hid (Own .u8 5 u2.heap.size u5 (some ⟨u2.heap.size, 0, none⟩) len len zs) := X4.out.keep d5; clear d5) | (go_at_call 11; refine (eqByteS_any _ _ _ _ _ _ _ _ _ X6.out.row L6.out.row).mono ?_; rintro e u7 ⟨rfl, d7⟩; rw [beq_self_eq_true zs]; have D7 : Hid (Below w.heap.size w u7) := below_next d7 D6.out (by omega); have z7 : u6.heap.size ≤ u7.heap.size := d7.size; have G7 : Hid (TR u1.heap.size u2.heap.size u7 a0 ts.length c0 ts) := G6.out.keep (by omega) d7; have I7 : Hid (TR u3.heap.size u4.heap.size u7 a1 ts.length c1 ts) := I6.out.keep (by omega) d7; have X7 : Hid (Own .u8 5 u2.heap.size u7 (some ⟨u2.heap.size, 0, none⟩) len len zs) := X6.out.keep d7; clear d7) | (go_at_call 12; refine (markByteS_any _ len len zs 1 _ X7.out ⟨by omega, by omega⟩).mono ?_; rintro e u8 ⟨rfl, x8, t8⟩; have D8 : Hid (Below w.heap.size w u8) := below_touchX D7.out t8 (by omega); have z8 : u7.heap.size ≤ u8.heap.size := Nat.le_of_eq t8.size.symm; have G8 : Hid (TR u1.heap.size u2.heap.size u8 a0 ts.length c0 ts) := G7.out.touch t8 (.inr (Nat.le_refl _)); have I8 : Hid (TR u3.heap.size u4.heap.size u8 a1 ts.length c1 ts) := I7.out.touch t8 (.inl (by omega)); have hk8 : ¬ (1 + (len : Int) < 0) := (by omega); clear x8 t8) | (go_at_call 13; refine (markTokenS_any _ ts.length _ ts 1 _ I9.out.1 ⟨by omega, by omega⟩).mono ?_; rintro e u10 ⟨rfl, g10, tm, hl10, hm10, ho10⟩; have D10 : Hid (Below w.heap.size w u10) := D9.out.grown g10 (by omega) (fun q hq => by have := (I9.out.2 q hq).1; omega); have z10 : u9.heap.size ≤ u10.heap.size := g10.size; have G10 : Hid (TR u1.heap.size u2.heap.size u10 a0 ts.length c0 ts) := G9.out.grown (by omega) g10 (fun q hq => by have := (I9.out.2 q hq).1; omega); have M10 : Hid (u10.ownsRow u3.heap.size 34 5 (.slice a1 ts.length c1) ts.length (Pl.Tk.all tm)) := ho10; have HM : Hid (∀ i, i < ts.length → tm[i]? = some (Pl.mkTk 1 i)) := hm10; clear g10 hl10 hm10 ho10) | (go_at_call 14; refine (heldTokenS_any _ ts.length _ tm 1 _ M10.out HM.out ⟨by omega, by omega⟩).mono ?_; rintro e u11 ⟨rfl, d11⟩; have D11 : Hid (Below w.heap.size w u11) := below_next d11 D10.out (by omega); have z11 : u10.heap.size ≤ u11.heap.size := d11.size; have G11 : Hid (TR u1.heap.size u2.heap.size u11 a0 ts.length c0 ts) := G10.out.keep (by omega) d11; have hk11 : ¬ (1 + 5 * (ts.length : Int) < 0) := (by omega); clear d11))
  all_goals (go_ret; exact ⟨rfl, D14.out⟩)
end Go.Proofs.YtdplfflkmphpbaaGreatDoor.W
