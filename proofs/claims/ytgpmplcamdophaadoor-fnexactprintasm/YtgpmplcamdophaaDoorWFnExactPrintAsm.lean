import Derived.Test.YtgpmplcamdophaaDoorIpX
import Derived.Test.YtgpmplcamdophaaDoorByS
import Derived.Test.YtgpmplcamdophaaDoorLsE
set_option linter.unusedVariables false
set_option linter.unusedSimpArgs false
namespace Go.Proofs.YtgpmplcamdophaaDoor.W
open Go.RowKit
theorem bcl_ints (l : List UInt8) : Pl.bcl l = (l.map fun b => (b.toNat : Int)).map (Value.int .u8) := by simp [Pl.bcl]
theorem byte_wf (l : List UInt8) : ∀ n ∈ (l.map fun b => (b.toNat : Int)), (Lit.int .u8 n).wf = true := by
  intro n hn
  obtain ⟨b, _, rfl⟩ := List.mem_map.1 hn
  have := b.toNat_lt
  exact WalkArith.wf_u8 ⟨by omega, by omega⟩
/-- an answer, as a slice of its own -/
structure Got (lo hi : Nat) (u : World) (a : Option Addr) (len cap : Nat) (xs : List Pl.Ln) : Prop where
  own : Own .u8 5 lo u a len cap ((ans xs).1.map fun b => (b.toNat : Int))
  at_ : ∀ g, (Value.slice a len cap).ownBlock = some g → lo ≤ g ∧ g < hi
  small : len ≤ 400000
theorem ans_small (xs : List Pl.Ln) : (ans xs).1.length ≤ 400000 := by
  unfold ans
  split
  · rename_i h; exact h.2.2
  · exact Nat.zero_le _
theorem AnsIs.got {w w' : World} {e : Ending} {xs : List Pl.Ln} (h : AnsIs w w' e xs) : ∃ a len cap, e = .returned (.tuple #[.slice a len cap, .bool (ans xs).2]) ∧ Got w.heap.size w'.heap.size w' a len cap xs ∧ Below w.heap.size w w' := by
  obtain ⟨a, len, cap, he, hl, ho, hb⟩ := h
  refine ⟨a, len, cap, he, ⟨⟨?_, byte_wf _⟩, fun g hg => ho.lt g hg, by rw [hl]; exact ans_small xs⟩, hb⟩
  rw [← bcl_ints]
  exact ho
theorem ow_other {B : Nat} {e : TypeId} {k : Nat} {v : Value} {n : Nat} {xs : List Value} {w w' : World} (h : w.ownsRow B e k v n xs) (hb : ∀ g, v.ownBlock = some g → w'.heap[g]? = w.heap[g]?) : w'.ownsRow B e k v n xs := by
  refine ⟨h.1, ?_⟩
  rcases h.2 with ⟨a, b⟩ | ⟨g, cap, cur, h0, hlo, hg, r⟩
  · exact .inl ⟨a, b⟩
  · exact .inr ⟨g, cap, cur, h0, hlo, (hb g (by rw [h0]; rfl)).trans hg, r⟩
theorem Got.keep {lo hi : Nat} {u u' : World} {a : Option Addr} {len cap : Nat} {xs : List Pl.Ln} (h : Got lo hi u a len cap xs) (hi' : hi ≤ u.heap.size) (d : Below u.heap.size u u') : Got lo hi u' a len cap xs :=
  ⟨⟨ow_other h.own.1 fun g hg => d.block g (Nat.lt_of_lt_of_le (h.at_ g hg).2 hi'), h.own.2⟩, h.at_, h.small⟩
theorem Got.besides {lo hi g0 : Nat} {u u' : World} {a : Option Addr} {len cap : Nat} {xs : List Pl.Ln} (h : Got lo hi u a len cap xs) (hi' : hi ≤ u.heap.size) (d : Besides g0 u u') (hg : g0 < lo ∨ hi ≤ g0) : Got lo hi u' a len cap xs :=
  ⟨⟨ow_other h.own.1 fun g hgg => d.block g (Nat.lt_of_lt_of_le (h.at_ g hgg).2 hi') (by have := h.at_ g hgg; omega), h.own.2⟩, h.at_, h.small⟩
theorem Got.touch {lo hi : Nat} {u u' : World} {a b : Option Addr} {len cap : Nat} {xs : List Pl.Ln} (h : Got lo hi u a len cap xs) (d : Touch b u u') (hb : ∀ ad, b = some ad → hi ≤ ad.block) : Got lo hi u' a len cap xs :=
  ⟨⟨ow_other h.own.1 fun g hgg => d.block g (fun ad had => by have := hb ad had; have := h.at_ g hgg; omega), h.own.2⟩, h.at_, h.small⟩
theorem Got.addr {lo hi : Nat} {u : World} {a : Option Addr} {len cap : Nat} {xs : List Pl.Ln} (h : Got lo hi u a len cap xs) : ∀ ad, a = some ad → lo ≤ ad.block := by
  intro ad had
  rcases h.own.1.2 with ⟨h0, h1⟩ | ⟨g, c, cur, h0, hlo, r⟩
  · simp only [Value.slice.injEq] at h0; rw [h0.1] at had; cases had
  · simp only [Value.slice.injEq] at h0
    rw [h0.1] at had
    cases had
    exact hlo
theorem below_besides {B g : Nat} {w u v : World} (h : Below B w u) (d : Besides g u v) (hg : B ≤ g) (hB : B ≤ u.heap.size) : Below B w v :=
  ⟨d.os.trans h.os, d.tape.trans h.tape, d.output.trans h.output, Nat.le_trans h.size d.size, fun k hk => (d.block k (Nat.lt_of_lt_of_le hk hB) (by omega)).trans (h.block k hk)⟩
theorem below_touch {B : Nat} {b : Option Addr} {w u v : World} (h : Below B w u) (d : Touch b u v) (hb : ∀ ad, b = some ad → B ≤ ad.block) : Below B w v :=
  ⟨d.os.trans h.os, d.tape.trans h.tape, d.output.trans h.output, by rw [d.size]; exact h.size, fun k hk => (d.block k (fun ad had => by have := hb ad had; omega)).trans (h.block k hk)⟩
theorem LOwn.keep {lo : Nat} {w w' : World} {a : Option Addr} {len : Nat} {xs : List Pl.Ln} (h : LOwn lo w a len xs) (d : Below w.heap.size w w') : LOwn lo w' a len xs := by
  obtain ⟨h1, h2, b, ha, hlo, hlt, hf, hc⟩ := h
  exact ⟨h1, h2, b, ha, hlo, Nat.lt_of_lt_of_le hlt d.size, fun i => (d.frozen (p := ⟨b, i, none⟩) hlt).trans (hf i), fun i hi j hj => (d.cell (p := ⟨b, i * 8 + j, none⟩) hlt).trans (hc i hi j hj)⟩
theorem xfree {lo g : Nat} {w : World} {len : Nat} {xs : List Pl.Ln} (h : LOwn lo w (some ⟨g, 0, none⟩) len xs) : Free g (len * 8) w := by
  obtain ⟨g', e, _, hf⟩ := h.free
  cases e
  exact hf
set_option maxRecDepth 8000 in
set_option maxHeartbeats 4000000 in
theorem fnExactPrintAsm_walk {lo : Nat} (a : Option Addr) (len cap : Nat) (xs : List Pl.Ln) (w : World) (h : LRow lo w a len cap xs) (hp : AsmLies w) :
    Calls Tryd.prog 4 #[.slice a len cap] w fun e w' => e = .returned (.bool true) ∧ Below w.heap.size w w' := by
  have HRow : Hid (LRow lo w a len cap xs) := h
  have HP : Hid (AsmLies w) := hp
  clear h hp
  go_enter Tryd.func4, Tryd.ntmps4
  go_wp2_with (first | (go_at_call 9; refine (toLineS_any a len cap xs _ (HRow.out.keep Db.out) hln.out).mono ?_; rintro e u10 ⟨rfl, l10, d10⟩; have D10 : Hid (Below w.heap.size w u10) := below_then d10 Db.out; have L10 : Hid (LOwn ub.heap.size u10 (some ⟨ub.heap.size, 0, none⟩) len xs) := l10; have G10 : Hid (Got u1.heap.size u2.heap.size u10 a0 n0 c0 xs) := Gb.out.keep s2b d10; have s210 : u2.heap.size ≤ u10.heap.size := Nat.le_trans s2b d10.size; clear l10 d10) | (go_at_call 9; refine (toLineS_any a len cap xs _ (HRow.out.keep D5.out) hln.out).mono ?_; rintro e u6 ⟨rfl, l6, d6⟩; have D6 : Hid (Below w.heap.size w u6) := below_then d6 D5.out; have L6 : Hid (LOwn u5.heap.size u6 (some ⟨u5.heap.size, 0, none⟩) len xs) := l6; have X6 : Hid (LOwn u2.heap.size u6 (some ⟨u2.heap.size, 0, none⟩) len xs) := X5.out.keep d6; have G6 : Hid (Got u1.heap.size u2.heap.size u6 a0 n0 c0 xs) := G5.out.keep s25 d6; have I6 : Hid (Got u3.heap.size u4.heap.size u6 a1 n1 c1 xs) := I5.out.keep s45 d6; have s26 : u2.heap.size ≤ u6.heap.size := Nat.le_trans s25 d6.size; have s46 : u4.heap.size ≤ u6.heap.size := Nat.le_trans s45 d6.size; clear l6 d6) | (go_at_call 9; refine (toLineS_any a len cap xs _ (HRow.out.keep D2.out) hln.out).mono ?_; rintro e u3 ⟨rfl, l3, d3⟩; have D3 : Hid (Below w.heap.size w u3) := below_then d3 D2.out; have X3 : Hid (LOwn u2.heap.size u3 (some ⟨u2.heap.size, 0, none⟩) len xs) := l3; have G3 : Hid (Got u1.heap.size u2.heap.size u3 a0 n0 c0 xs) := G2.out.keep (Nat.le_refl _) d3; have s23 : u2.heap.size + 1 ≤ u3.heap.size := (by obtain ⟨_, _, b, hb, _, hlt, _⟩ := l3; cases hb; exact hlt); clear l3 d3) | (go_at_call 9; have hln : Hid (len ≤ 1048576) := (hr.out (by omega)).1; refine (toLineS_any a len cap xs _ (HRow.out.keep D0.out) hln.out).mono ?_; rintro e u1 ⟨rfl, l1, d1⟩; have D1 : Hid (Below w.heap.size w u1) := below_then d1 D0.out; have L1 : Hid (LOwn u0.heap.size u1 (some ⟨u0.heap.size, 0, none⟩) len xs) := l1; clear l1 d1) | (go_at_call 8; refine (specPrint_any _ _ _ xs _ L1.out.row).mono ?_; intro e u2 h2; obtain ⟨a0, n0, c0, rfl, g2, d2⟩ := AnsIs.got h2; have D2 : Hid (Below w.heap.size w u2) := below_then d2 D1.out; have G2 : Hid (Got u1.heap.size u2.heap.size u2 a0 n0 c0 xs) := g2; clear h2 g2 d2) | (go_at_call 10; refine (implPrint_any _ _ _ xs _ L10.out.row (HP.out.below D10.out)).mono ?_; intro e u11 h11; obtain ⟨a2, n2, c2, rfl, g11, d11⟩ := AnsIs.got h11; have D11 : Hid (Below w.heap.size w u11) := below_then d11 D10.out; have K11 : Hid (Got u10.heap.size u11.heap.size u11 a2 n2 c2 xs) := g11; have G11 : Hid (Got u1.heap.size u2.heap.size u11 a0 n0 c0 xs) := G10.out.keep s210 d11; clear h11 g11 d11) | (go_at_call 10; refine (implPrint_any _ _ _ xs _ X3.out.row (HP.out.below D3.out)).mono ?_; intro e u4 h4; obtain ⟨a1, n1, c1, rfl, g4, d4⟩ := AnsIs.got h4; have D4 : Hid (Below w.heap.size w u4) := below_then d4 D3.out; have I4 : Hid (Got u3.heap.size u4.heap.size u4 a1 n1 c1 xs) := g4; have G4 : Hid (Got u1.heap.size u2.heap.size u4 a0 n0 c0 xs) := G3.out.keep (by omega) d4; have X4 : Hid (LOwn u2.heap.size u4 (some ⟨u2.heap.size, 0, none⟩) len xs) := X3.out.keep d4; have s24 : u2.heap.size + 1 ≤ u4.heap.size := Nat.le_trans s23 d4.size; clear h4 g4 d4) | (go_at_call 11; refine (eqByteS_any _ _ _ _ _ _ _ _ _ K11.out.own.row G11.out.own.row).mono ?_; rintro e u12 ⟨rfl, d12⟩; rw [show (((ans xs).1.map fun b => (b.toNat : Int)) == ((ans xs).1.map fun b => (b.toNat : Int))) = true from beq_self_eq_true _]; have D12 : Hid (Below w.heap.size w u12) := below_then d12 D11.out) | (go_at_call 11; refine (eqByteS_any _ _ _ _ _ _ _ _ _ I8.out.own.row G8.out.own.row).mono ?_; rintro e u9 ⟨rfl, d9⟩; rw [show (((ans xs).1.map fun b => (b.toNat : Int)) == ((ans xs).1.map fun b => (b.toNat : Int))) = true from beq_self_eq_true _]; have D9 : Hid (Below w.heap.size w u9) := below_then d9 D8.out; have G9 : Hid (Got u1.heap.size u2.heap.size u9 a0 n0 c0 xs) := G8.out.keep s28 d9; have I9 : Hid (Got u3.heap.size u4.heap.size u9 a1 n1 c1 xs) := I8.out.keep s48 d9; have s29 : u2.heap.size ≤ u9.heap.size := Nat.le_trans s28 d9.size; have s49 : u4.heap.size ≤ u9.heap.size := Nat.le_trans s48 d9.size; clear d9) | (go_at_call 11; refine (eqByteS_any _ _ _ _ _ _ _ _ _ I4.out.own.row G4.out.own.row).mono ?_; rintro e u5 ⟨rfl, d5⟩; rw [show (((ans xs).1.map fun b => (b.toNat : Int)) == ((ans xs).1.map fun b => (b.toNat : Int))) = true from beq_self_eq_true _]; have D5 : Hid (Below w.heap.size w u5) := below_then d5 D4.out; have X5 : Hid (LOwn u2.heap.size u5 (some ⟨u2.heap.size, 0, none⟩) len xs) := X4.out.keep d5; have G5 : Hid (Got u1.heap.size u2.heap.size u5 a0 n0 c0 xs) := G4.out.keep (by omega) d5; have I5 : Hid (Got u3.heap.size u4.heap.size u5 a1 n1 c1 xs) := I4.out.keep (Nat.le_refl _) d5; have s25 : u2.heap.size ≤ u5.heap.size := Nat.le_trans (by omega) d5.size; have s45 : u4.heap.size ≤ u5.heap.size := d5.size; clear d5) | (go_at_call 7; refine (szLineS_any a len cap xs _ HRow.out).mono ?_; rintro e u0 ⟨r, rfl, hr0, d0⟩; have D0 : Hid (Below w.heap.size w u0) := d0; have hr : Hid (0 ≤ r → len ≤ 1048576 ∧ ∀ i, i < len → (xs.getD i Pl.Ln.zero).s.size ≤ 1048576) := hr0; clear hr0 d0) | (go_at_call 12; refine (eqLineS_same _ _ _ _ _ xs _ X6.out.row L6.out.row).mono ?_; rintro e u7 ⟨rfl, d7⟩; have D7 : Hid (Below w.heap.size w u7) := below_then d7 D6.out; have X7 : Hid (LOwn u2.heap.size u7 (some ⟨u2.heap.size, 0, none⟩) len xs) := X6.out.keep d7; have G7 : Hid (Got u1.heap.size u2.heap.size u7 a0 n0 c0 xs) := G6.out.keep s26 d7; have I7 : Hid (Got u3.heap.size u4.heap.size u7 a1 n1 c1 xs) := I6.out.keep s46 d7; have s27 : u2.heap.size ≤ u7.heap.size := Nat.le_trans s26 d7.size; have s47 : u4.heap.size ≤ u7.heap.size := Nat.le_trans s46 d7.size; clear d7) | (go_at_call 13; refine (markLineS_any u2.heap.size len 1 _ (xfree X7.out) hln.out (by decide)).mono ?_; rintro e u8 ⟨q, rfl, hq0, hq1, _, d8⟩; have D8 : Hid (Below w.heap.size w u8) := below_besides D7.out d8 D2.out.size D7.out.size; have G8 : Hid (Got u1.heap.size u2.heap.size u8 a0 n0 c0 xs) := G7.out.besides s27 d8 (.inr (Nat.le_refl _)); have I8 : Hid (Got u3.heap.size u4.heap.size u8 a1 n1 c1 xs) := I7.out.besides s47 d8 (.inl (by omega)); have s28 : u2.heap.size ≤ u8.heap.size := Nat.le_trans s27 d8.size; have s48 : u4.heap.size ≤ u8.heap.size := Nat.le_trans s47 d8.size; clear d8) | (go_at_call 14; have hsm := I9.out.small; refine (markByteS_any _ _ _ _ 1 _ I9.out.own (by omega)).mono ?_; rintro e ua ⟨rfl, oa, da⟩; have Da : Hid (Below w.heap.size w ua) := below_touch D9.out da (fun ad had => Nat.le_trans D3.out.size (I9.out.addr ad had)); have Oa : Hid (Own .u8 5 u3.heap.size ua a1 n1 c1 (mkByteS 1 n1)) := oa; have Ga : Hid (Got u1.heap.size u2.heap.size ua a0 n0 c0 xs) := G9.out.touch da (fun ad had => Nat.le_trans (by omega) (I9.out.addr ad had)); have s2a : u2.heap.size ≤ ua.heap.size := (by rw [da.size]; exact s29); clear oa da) | (go_at_call 15; have hsm := I9.out.small; refine (heldByteS_any _ _ _ 1 _ Oa.out.row (by omega)).mono ?_; rintro e ub ⟨rfl, db⟩; have Db : Hid (Below w.heap.size w ub) := below_then db Da.out; have Gb : Hid (Got u1.heap.size u2.heap.size ub a0 n0 c0 xs) := Ga.out.keep s2a db; have s2b : u2.heap.size ≤ ub.heap.size := Nat.le_trans s2a db.size; clear db))
  all_goals (go_ret; first | exact ⟨rfl, D12.out⟩ | exact ⟨rfl, D0.out⟩)
end Go.Proofs.YtgpmplcamdophaaDoor.W
