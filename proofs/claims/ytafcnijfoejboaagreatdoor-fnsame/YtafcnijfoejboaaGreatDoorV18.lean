import Derived.Test.YtafcnijfoejboaaGreatDoorV17
import Derived.Test.YtafcnijfoejboaaGreatDoorV15
set_option linter.unusedVariables false
set_option linter.unusedSimpArgs false
namespace Go.Proofs.YtafcnijfoejboaaGreatDoor.Pl
def dep (xs : List Ty) (a : Nat) : Nat := if tagd (xs.getD a Ty.zero).k = true then 0 else a + 1
theorem idx_inj {len a b c d : Nat} (hb : b < len) (hd : d < len) (h : a * len + b = c * len + d) : a = c ∧ b = d := by
  have h1 : (a * len + b) / len = (c * len + d) / len := by rw [h]
  rw [Nat.mul_comm a, Nat.mul_comm c, Nat.mul_add_div (by omega), Nat.mul_add_div (by omega), Nat.div_eq_of_lt hb, Nat.div_eq_of_lt hd] at h1
  have h2 : a = c := by omega
  subst h2
  exact ⟨rfl, by omega⟩
theorem idx_lt {len a b : Nat} (ha : a < len) (hb : b < len) : a * len + b < len * len := by
  have : (a + 1) * len ≤ len * len := Nat.mul_le_mul_right len (by omega)
  rw [Nat.succ_mul] at this
  omega
theorem kid_of {len : Nat} {xs : List Ty} {a : Nat} (hxl : xs.length = len) (h : fit xs a = true) (ht : tagd (xs.getD a Ty.zero).k = false) : ∀ p, p < (xs.getD a Ty.zero).of.length → ∃ z : Nat, ofAt xs a p = z ∧ z < len ∧ (tagd (xs.getD z Ty.zero).k = true ∨ z < a) := fun p hp => by
  rcases W.kpre_of hxl h with q | ⟨_, q⟩
  · rw [ht] at q; cases q
  · obtain ⟨q1, q2, q3⟩ := q p hp
    refine ⟨((xs.getD a Ty.zero).of.getD p 0).toNat, (Int.toNat_of_nonneg q1).symm, by omega, ?_⟩
    rcases q3 with q3 | q3
    · exact .inl q3
    · exact .inr (by omega)
theorem dep_kid {xs : List Ty} {a z : Nat} (ht : tagd (xs.getD a Ty.zero).k = false) (h : tagd (xs.getD z Ty.zero).k = true ∨ z < a) : dep xs z < dep xs a := by
  unfold dep
  rw [ht]
  simp only [Bool.false_eq_true, if_false]
  split
  · omega
  · rcases h with h | h
    · contradiction
    · omega
end Go.Proofs.YtafcnijfoejboaaGreatDoor.Pl
namespace Go.Proofs.YtafcnijfoejboaaGreatDoor.W
open Go.RowKit
structure PSt (w : World) (xs : List Pl.Ty) (g sb : Nat) (a : Option Addr) (len cap : Nat) (u : World) : Prop where
  b : Below w.heap.size w u
  lg : w.heap.size ≤ g
  ls : w.heap.size ≤ sb
  ne : g ≠ sb
  zg : g < u.heap.size
  zs : sb < u.heap.size
  c0 : u.cell? ⟨g, 0, none⟩ = some (.slice a len cap)
  c1 : u.cell? ⟨g, 1, none⟩ = some (.slice (some ⟨sb, 0, none⟩) (len * len) (len * len))
  s : ∀ i j, i < len → j < len → ∃ v : Int, (v = 0 ∨ v = 1 ∨ v = 2) ∧ u.cell? ⟨sb, i * len + j, none⟩ = some (.int .u8 v) ∧ (v = 1 → Pl.kyP xs len i = Pl.kyP xs len j) ∧ (v = 2 → Pl.kyP xs len i ≠ Pl.kyP xs len j)
  f : ∀ i, u.frozen? ⟨sb, i, none⟩ = false
theorem PSt.keep {w : World} {xs : List Pl.Ty} {g sb : Nat} {a : Option Addr} {len cap : Nat} {u u' : World} (h : PSt w xs g sb a len cap u) (hb : Below u.heap.size u u') : PSt w xs g sb a len cap u' := by
  refine ⟨h.b.trans (hb.mono h.b.size), h.lg, h.ls, h.ne, Nat.lt_of_lt_of_le h.zg hb.size, Nat.lt_of_lt_of_le h.zs hb.size, (hb.cell (p := ⟨g, 0, none⟩) h.zg).trans h.c0, (hb.cell (p := ⟨g, 1, none⟩) h.zg).trans h.c1, fun i j hi hj => ?_, fun i => (hb.frozen (p := ⟨sb, i, none⟩) h.zs).trans (h.f i)⟩
  obtain ⟨v, h1, h2, h3⟩ := h.s i j hi hj
  exact ⟨v, h1, (hb.cell (p := ⟨sb, i * len + j, none⟩) h.zs).trans h2, h3⟩
theorem PSt.turn {w : World} {xs : List Pl.Ty} {g sb : Nat} {a : Option Addr} {len cap : Nat} {u u' : World} (h : PSt w xs g sb a len cap u) {i j : Nat} (hi : i < len) (hj : j < len) (v : Int) (hv : v = 1 ∧ Pl.kyP xs len i = Pl.kyP xs len j ∨ v = 2 ∧ (Pl.kyP xs len i ≠ Pl.kyP xs len j)) (hb : Below w.heap.size w u') (hz : u'.heap.size = u.heap.size) (hc : ∀ p, (⟨sb, i * len + j, none⟩ : Addr) ≠ p → u'.cell? p = u.cell? p) (hf : ∀ p, u'.frozen? p = u.frozen? p) (hat : u'.cell? ⟨sb, i * len + j, none⟩ = some (.int .u8 v)) : PSt w xs g sb a len cap u' := by
  have hne : ∀ q r, (⟨sb, r, none⟩ : Addr) ≠ ⟨g, q, none⟩ := fun q r hc => by injection hc with hc; exact h.ne hc.symm
  refine ⟨hb, h.lg, h.ls, h.ne, by rw [hz]; exact h.zg, by rw [hz]; exact h.zs, by rw [hc _ (hne _ _)]; exact h.c0, by rw [hc _ (hne _ _)]; exact h.c1, fun p q hp hq => ?_, fun p => by rw [hf]; exact h.f p⟩
  by_cases e : p = i ∧ q = j
  · obtain ⟨rfl, rfl⟩ := e
    refine ⟨v, by omega, hat, fun hc => ?_, fun hc => ?_⟩
    · rcases hv with hv | hv
      · exact hv.2
      · omega
    · rcases hv with hv | hv
      · omega
      · exact hv.2
  · obtain ⟨v0, h1, h2, h3⟩ := h.s p q hp hq
    refine ⟨v0, h1, ?_, h3⟩
    rw [hc _ (ty_ne (fun hc => e ?_))]
    · exact h2
    · obtain ⟨r1, r2⟩ := Pl.idx_inj hj hq hc
      exact ⟨r1.symm, r2.symm⟩
theorem PSt.put {w : World} {xs : List Pl.Ty} {g sb : Nat} {a : Option Addr} {len cap : Nat} {u : World} (h : PSt w xs g sb a len cap u) {i j : Nat} (hi : i < len) (hj : j < len) (hv : Pl.kyP xs len i ≠ Pl.kyP xs len j) : PSt w xs g sb a len cap (u.setCell ⟨sb, i * len + j, none⟩ (.int .u8 2)) := by
  obtain ⟨v0, _, h2, _⟩ := h.s i j hi hj
  exact h.turn hi hj 2 (.inr ⟨rfl, hv⟩) (h.b.setCell (p := ⟨sb, i * len + j, none⟩) h.ls _) (World.size_setCell _ _ _) (fun p hp => World.cell?_setCell_other _ _ _ _ hp) (fun p => World.frozen?_setCell _ _ _ _) (World.cell?_setCell_same' _ _ _ (by rw [h2]; rfl))
theorem PSt.put2 {w : World} {xs : List Pl.Ty} {g sb : Nat} {a : Option Addr} {len cap : Nat} {u : World} (h : PSt w xs g sb a len cap u) {i j : Nat} (hi : i < len) (hj : j < len) (hv : Pl.kyP xs len i = Pl.kyP xs len j) : PSt w xs g sb a len cap ((u.setCell ⟨sb, i * len + j, none⟩ (.int .u8 2)).setCell ⟨sb, i * len + j, none⟩ (.int .u8 1)) := by
  obtain ⟨v0, _, h2, _⟩ := h.s i j hi hj
  have h3 : (u.setCell ⟨sb, i * len + j, none⟩ (.int .u8 2)).cell? ⟨sb, i * len + j, none⟩ = some (.int .u8 2) := World.cell?_setCell_same' _ _ _ (by rw [h2]; rfl)
  exact h.turn hi hj 1 (.inl ⟨rfl, hv⟩) ((h.b.setCell (p := ⟨sb, i * len + j, none⟩) h.ls _).setCell (p := ⟨sb, i * len + j, none⟩) h.ls _) ((World.size_setCell _ _ _).trans (World.size_setCell _ _ _)) (fun p hp => (World.cell?_setCell_other _ _ _ _ hp).trans (World.cell?_setCell_other _ _ _ _ hp)) (fun p => (World.frozen?_setCell _ _ _ _).trans (World.frozen?_setCell _ _ _ _)) (World.cell?_setCell_same' _ _ _ (by rw [h3]; rfl))
open Classical in
theorem of_dec {p : Prop} (h : Pl.dec p = true) : p := of_decide_eq_true h
theorem key_same {len : Nat} {xs : List Pl.Ty} (hxl : xs.length = len) (hok : TOk len xs) {i j : Nat} (hi : i < len) (hj : j < len) (hne : i ≠ j) : Pl.kyP xs len i = Pl.kyP xs len j ↔ (xs.getD i Pl.Ty.zero).k = (xs.getD j Pl.Ty.zero).k ∧ (xs.getD i Pl.Ty.zero).n = (xs.getD j Pl.Ty.zero).n ∧ (xs.getD i Pl.Ty.zero).of.length = (xs.getD j Pl.Ty.zero).of.length ∧ Pl.tagd (xs.getD i Pl.Ty.zero).k = false ∧ ∀ p, p < (xs.getD i Pl.Ty.zero).of.length → Pl.kyP xs len (Pl.ofAt xs i p).toNat = Pl.kyP xs len (Pl.ofAt xs j p).toNat :=
  Pl.key_rec hi hj hne (fun ht => Pl.kid_of hxl (hok.2.1 i hi) ht) (fun ht => Pl.kid_of hxl (hok.2.1 j hj) ht)
set_option maxHeartbeats 8000000 in
set_option maxRecDepth 8000 in
theorem lsame_step {lo : Nat} {w : World} {xs : List Pl.Ty} {g sb : Nat} {a : Option Addr} {len cap : Nat} (hT : TRow lo w a len cap xs) (hok : TOk len xs) (i j : Nat) (u : World) (hi : i < len) (hj : j < len) (hP : PSt w xs g sb a len cap u)
    (ih : ∀ (z y : Nat) (u : World), z < len → y < len → Pl.dep xs z < Pl.dep xs i → PSt w xs g sb a len cap u → Calls Tryz.prog 36 #[.pointer (some ⟨g, 0, none⟩), .int .i64 z, .int .i64 y] u fun e u' => e = .returned (.bool (Pl.dec (Pl.kyP xs len z = Pl.kyP xs len y))) ∧ PSt w xs g sb a len cap u' ∧ OnlyL sb u u') :
    Calls Tryz.prog 36 #[.pointer (some ⟨g, 0, none⟩), .int .i64 i, .int .i64 j] u fun e u' => e = .returned (.bool (Pl.dec (Pl.kyP xs len i = Pl.kyP xs len j))) ∧ PSt w xs g sb a len cap u' ∧ OnlyL sb u u' := by
  have hm : (len : Int) ≤ 2000 := by have := hok.1; omega
  have hat : i * len + j < len * len := Pl.idx_lt hi hj
  have hmm : len * len ≤ 4000000 := Nat.le_trans (Nat.mul_le_mul hok.1 hok.1) (by decide)
  have hat2 : ((i * len + j : Nat) : Int) < ((len * len : Nat) : Int) := by omega
  have hmul : (i : Int) * (len : Int) = ((i * len : Nat) : Int) := by rw [Int.natCast_mul]
  have hil : i * len ≤ 4000000 := by omega
  have hw1 : IntKind.i64.wrap ((i : Int) * (len : Int)) = ((i * len : Nat) : Int) := by rw [hmul, IntKind.wrap_i64]; omega
  have hw2 : IntKind.i64.wrap (((i * len : Nat) : Int) + (j : Int)) = ((i * len + j : Nat) : Int) := by rw [IntKind.wrap_i64]; omega
  have hw3 : wrap64 ((i : Int) * (len : Int)) = ((i * len : Nat) : Int) := by rw [hmul]; unfold wrap64; omega
  have hw4 : wrap64 (((i * len : Nat) : Int) + (j : Int)) = ((i * len + j : Nat) : Int) := by unfold wrap64; omega
  have hii : (i : Int) < (len : Int) := by omega
  have hjj : (j : Int) < (len : Int) := by omega
  have hll : ((len * len : Nat) : Int) ≤ 4000000 := by omega
  obtain ⟨q, hq⟩ : ∃ q, q = i * len + j := ⟨_, rfl⟩
  have HQ : Hid (q = i * len + j) := hq
  have g0 := hP.c0
  have g1 := hP.c1
  have hgz := hP.zg
  have hsz := hP.zs
  have hgs : g ≠ sb := hP.ne
  have hsg : sb ≠ g := fun e => hP.ne e.symm
  obtain ⟨v, hv, gs, hv1, hv2⟩ := hP.s i j hi hj
  rw [← hq] at gs hw2 hw4 hat hat2
  clear hq
  obtain ⟨il, hil2⟩ : ∃ il, il = i * len := ⟨_, rfl⟩
  rw [← hil2] at hw1 hw2 hw3 hw4 hil
  clear hmul hil2
  obtain ⟨nn2, hnn⟩ : ∃ nn2, nn2 = len * len := ⟨_, rfl⟩
  have HNN : Hid (nn2 = len * len) := hnn
  rw [← hnn] at g1 hat hat2 hll hmm
  clear hnn
  have HPS : Hid (PSt w xs g sb a len cap u) := hP
  have HV : Hid ((v = 1 → Pl.kyP xs len i = Pl.kyP xs len j) ∧ (v = 2 → Pl.kyP xs len i ≠ Pl.kyP xs len j)) := ⟨hv1, hv2⟩
  clear hv1 hv2
  by_cases hij : i = j
  · have HE : Hid (Pl.dec (Pl.kyP xs len i = Pl.kyP xs len j) = true) := Pl.dec_yes (by rw [hij])
    have hij2 : ((i : Int) == (j : Int)) = true := by rw [hij]; exact beq_self_eq_true _
    clear hij hP ih
    go_enter Tryz.func36, Tryz.ntmps36
    go_wp2_with fail
    go_ret
    exact ⟨by rw [HE.out]; rfl, HPS.out, OnlyL.refl _ _⟩
  have hij2 : ((i : Int) == (j : Int)) = false := by rw [beq_eq_false_iff_ne]; omega
  by_cases h1 : v = 1
  · have HE : Hid (Pl.dec (Pl.kyP xs len i = Pl.kyP xs len j) = true) := Pl.dec_yes (HV.out.1 h1)
    subst h1
    clear hij hP ih hv
    go_enter Tryz.func36, Tryz.ntmps36
    go_wp2_with fail
    go_ret
    exact ⟨by rw [HE.out]; rfl, HPS.out, OnlyL.refl _ _⟩
  have hv1 : (v == 1) = false := by rw [beq_eq_false_iff_ne]; exact h1
  have HKS : Hid _ := key_same hT.1 hok hi hj hij
  have hKI := fun ht => Pl.kid_of hT.1 (hok.2.1 i hi) ht
  have hKJ := fun ht => Pl.kid_of hT.1 (hok.2.1 j hj) ht
  have HIH : Hid (Pl.tagd (xs.getD i Pl.Ty.zero).k = false → (xs.getD i Pl.Ty.zero).k = (xs.getD j Pl.Ty.zero).k → (xs.getD i Pl.Ty.zero).of.length = (xs.getD j Pl.Ty.zero).of.length → ∀ p, p < (xs.getD i Pl.Ty.zero).of.length → ∀ u, PSt w xs g sb a len cap u → Calls Tryz.prog 36 #[.pointer (some ⟨g, 0, none⟩), .int .i64 ((xs.getD i Pl.Ty.zero).of.getD p 0), .int .i64 ((xs.getD j Pl.Ty.zero).of.getD p 0)] u fun e u' => e = .returned (.bool (Pl.dec (Pl.kyP xs len (Pl.ofAt xs i p).toNat = Pl.kyP xs len (Pl.ofAt xs j p).toNat))) ∧ PSt w xs g sb a len cap u' ∧ OnlyL sb u u') := fun ht hk hl p hp u hu => by
    obtain ⟨z, e1, e2, e3⟩ := hKI ht p hp
    obtain ⟨y, f1, f2, f3⟩ := hKJ (by rw [← hk]; exact ht) p (by omega)
    have e4 : (xs.getD i Pl.Ty.zero).of.getD p 0 = (z : Int) := e1
    have f4 : (xs.getD j Pl.Ty.zero).of.getD p 0 = (y : Int) := f1
    rw [e4, f4, e1, f1, Int.toNat_natCast, Int.toNat_natCast]
    exact ih z y u e2 f2 (Pl.dep_kid ht e3) hu
  obtain ⟨b1, o1, v1, s1, rfl, _, hb1, hc1, hr1, hs1⟩ := hT.at hi
  obtain ⟨b2, o2, v2, s2, eb, _, _, hc2, hr2, hs2⟩ := hT.at hj
  injection eb with eb
  injection eb with eb1 eb2
  subst eb1 eb2
  replace hc1 : ∀ k, k < 4 → u.cell? ⟨b1, o1 + i * 4 + k, none⟩ = ((xs.getD i Pl.Ty.zero).cells v1 s1)[k]? := fun k hk => (hP.b.cell (p := ⟨b1, o1 + i * 4 + k, none⟩) hb1).trans (hc1 k hk)
  replace hc2 : ∀ k, k < 4 → u.cell? ⟨b1, o1 + j * 4 + k, none⟩ = ((xs.getD j Pl.Ty.zero).cells v2 s2)[k]? := fun k hk => (hP.b.cell (p := ⟨b1, o1 + j * 4 + k, none⟩) hb1).trans (hc2 k hk)
  have hbu : b1 < u.heap.size := Nat.lt_of_lt_of_le hb1 hP.b.size
  obtain ⟨zi, hzi⟩ : ∃ zi, zi = Pl.ofAt xs i := ⟨_, rfl⟩
  obtain ⟨zj, hzj⟩ : ∃ zj, zj = Pl.ofAt xs j := ⟨_, rfl⟩
  rw [← hzi, ← hzj] at HKS HIH
  clear hzi hzj hKI hKJ ih hij
  generalize xs.getD i Pl.Ty.zero = x at *
  generalize xs.getD j Pl.Ty.zero = y at *
  obtain ⟨ki, ni, zs1, ns1⟩ := x
  obtain ⟨kj, nj, zs2, ns2⟩ := y
  obtain ⟨va, vl, vc⟩ := v1
  obtain ⟨sa, sl, sc⟩ := s1
  obtain ⟨ya, yl, yc⟩ := v2
  obtain ⟨ra, rl, rc⟩ := s2
  simp only at HKS HIH hr1 hr2
  obtain ⟨c0, c1, c2, c3⟩ := ty_cells hc1
  obtain ⟨d0, d1, d2, d3⟩ := ty_cells hc2
  simp only at c0 c1 c2 c3 d0 d1 d2 d3
  have hl1 : zs1.length = vl := hr1.1
  have hl2 : zs2.length = yl := hr2.1
  rw [hl1, hl2] at HKS HIH
  have hvl : (vl : Int) ≤ 9223372036854775807 := by have := hr1.small; omega
  have hyl : (yl : Int) ≤ 9223372036854775807 := by have := hr2.small; omega
  have HR1 : Hid (Row .i64 lo w va vl vc zs1) := hr1
  have HR2 : Hid (Row .i64 lo w ya yl yc zs2) := hr2
  clear hc1 hc2 hr1 hr2 hs1 hs2 hl1 hl2 hP hb1
  go_enter Tryz.func36, Tryz.ntmps36
  by_cases h2 : v = 2
  · subst h2
    have HN2 : Hid (Pl.kyP xs len i ≠ Pl.kyP xs len j) := HV.out.2 rfl
    clear hv
    go_wp2_with fail
    go_loopw [10, 11] (fun m t wr => ∃ (p : Nat) (bb : Bool), p ≤ vl ∧ t = .int .i64 p ∧ m = .bool bb ∧ Hid (PSt w xs g sb (some ⟨b1, o1, none⟩) len cap wr ∧ OnlyL sb u wr ∧ wr.heap[u.heap.size]? = some (.cells #[.int .i64 ki, .int .i64 ni, .slice va vl vc, .slice sa sl sc] 31) ∧ wr.heap[u.heap.size + 1]? = some (.cells #[.int .i64 kj, .int .i64 nj, .slice ya yl yc, .slice ra rl rc] 31)) ∧ Hid (bb = true → (Pl.tagd ki = false ∧ ki = kj ∧ ni = nj ∧ vl = yl) ∧ ∀ r, r < p → Pl.kyP xs len (zi r).toNat = Pl.kyP xs len (zj r).toNat) ∧ Hid (bb = false → Pl.kyP xs len i ≠ Pl.kyP xs len j)) (fun _ t _ => vl - (intOf t).toNat)
    case atStart =>
      exact ⟨0, false, Nat.zero_le _, rfl, rfl, ⟨(HPS.out.keep (below_alloc _ _)).keep (below_alloc _ _), (OnlyL.of_below (below_alloc _ _)).trans (OnlyL.of_below (below_alloc _ _)), ((below_alloc _ _).block _ (by simp)).trans (heap_alloc_new u _), by have := heap_alloc_new (u.alloc (.cells #[.int .i64 ki, .int .i64 ni, .slice va vl vc, .slice sa sl sc] 31)) (.cells #[.int .i64 kj, .int .i64 nj, .slice ya yl yc, .slice ra rl rc] 31); simpa using this⟩, fun h => (by cases h), fun _ hc => HN2.out hc⟩
    case round =>
      obtain ⟨p, bb, hp, rfl, rfl, S, R1, R0⟩ := hrel
      have zc : ∀ k, wr.cell? ⟨u.heap.size, k, none⟩ = (#[.int .i64 ki, .int .i64 ni, .slice va vl vc, .slice sa sl sc] : Array Value)[k]? := fun k => cell_of_row wr _ k _ _ (0, 0) S.out.2.2.1
      have yc2 : ∀ k, wr.cell? ⟨u.heap.size + 1, k, none⟩ = (#[.int .i64 kj, .int .i64 nj, .slice ya yl yc, .slice ra rl rc] : Array Value)[k]? := fun k => cell_of_row wr _ k _ _ (0, 0) S.out.2.2.2
      have z2 : wr.cell? ⟨u.heap.size, 2, none⟩ = some (.slice va vl vc) := zc 2
      have y2 : wr.cell? ⟨u.heap.size + 1, 2, none⟩ = some (.slice ya yl yc) := yc2 2
      have w0 := S.out.1.c0
      have w1 := S.out.1.c1
      rw [← HNN.out] at w1
      have hwg := S.out.1.zg
      have hws := S.out.1.zs
      have hwf := S.out.1.f
      obtain ⟨v9, _, w9, _, _⟩ := S.out.1.s i j hi hj
      rw [← HQ.out] at w9
      clear zc yc2
      by_cases hgo : p < vl ∧ bb = true
      · obtain ⟨hlt, rfl⟩ := hgo
        have hpi : (p : Int) < (vl : Int) := by omega
        obtain ⟨⟨ht, hkk, hnn, hle⟩, hall⟩ := R1.out rfl
        subst hle
        have HCALL : Hid (∀ U, Below wr.heap.size wr U → Calls Tryz.prog 36 #[.pointer (some ⟨g, 0, none⟩), .int .i64 (zs1.getD p 0), .int .i64 (zs2.getD p 0)] U fun e u' => e = .returned (.bool (Pl.dec (Pl.kyP xs len (zi p).toNat = Pl.kyP xs len (zj p).toNat))) ∧ PSt w xs g sb (some ⟨b1, o1, none⟩) len cap u' ∧ OnlyL sb U u') := fun U hU => HIH.out ht (by first | exact hkk | trivial) (by first | rfl | trivial) p hlt U (S.out.1.keep hU)
        have hkk2 : Hid (Pl.kyP xs len i = Pl.kyP xs len j → Pl.kyP xs len (zi p).toNat = Pl.kyP xs len (zj p).toNat) := fun q => (HKS.out.1 q).2.2.2.2 p hlt
        have HALL : Hid ((Pl.tagd ki = false ∧ ki = kj ∧ ni = nj) ∧ ∀ r, r < p → Pl.kyP xs len (zi r).toNat = Pl.kyP xs len (zj r).toNat) := ⟨⟨ht, hkk, hnn⟩, hall⟩
        obtain ⟨b7, o7, rfl, _, hb7, k7⟩ := (((HR1.out.keep S.out.1.b).2.2.2.2).resolve_left (by omega))
        obtain ⟨b8, o8, rfl, _, hb8, k8⟩ := (((HR2.out.keep S.out.1.b).2.2.2.2).resolve_left (by omega))
        have m7 := k7 p hlt
        have m8 := k8 p hlt
        clear k7 k8 ht hkk hnn hall
        generalize zs1.getD p 0 = zz1 at *
        generalize zs2.getD p 0 = zz2 at *
        go_wp2_with fail
        go_region_with (go_at_call 36; refine (HCALL.out _ (by repeat (first | exact Below.refl _ _ | refine below_drewN ?_ _))).mono ?_; rintro e u5 ⟨rfl, hp5, ho5⟩; have H5 : Hid (PSt w xs g sb (some ⟨b1, o1, none⟩) len cap u5 ∧ OnlyL sb wr u5) := ⟨hp5, (OnlyL.of_below (by repeat (first | exact Below.refl _ _ | refine below_drewN ?_ _))).trans ho5⟩; clear hp5 ho5)
        all_goals
          go_wp2_with fail
          go_roundw
          case rel =>
            refine ⟨p + 1, Pl.dec (Pl.kyP xs len (zi p).toNat = Pl.kyP xs len (zj p).toNat), hlt, by go_num, rfl, ⟨H5.out.1, S.out.2.1.trans H5.out.2, ?_, ?_⟩, fun hb => ?_, fun hb hc => ?_⟩
            · exact (H5.out.2.block _ (by have := S.out.2.2.2; have := (Array.getElem?_eq_some_iff.1 this).1; omega) (by have := S.out.2.1.size; omega)).trans S.out.2.2.1
            · exact (H5.out.2.block _ (by have := S.out.2.2.2; exact (Array.getElem?_eq_some_iff.1 this).1) (by omega)).trans S.out.2.2.2
            · refine ⟨⟨HALL.out.1.1, HALL.out.1.2.1, HALL.out.1.2.2, by first | rfl | trivial⟩, fun r hr => ?_⟩
              by_cases e : r = p
              · rw [e]; exact of_dec hb
              · exact HALL.out.2 r (by omega)
            · rw [Pl.dec_yes (hkk2.out hc)] at hb; cases hb
          case measure => simp [intOf]; omega
      · have HE : Hid (bb = Pl.dec (Pl.kyP xs len i = Pl.kyP xs len j)) := by
          cases bb
          · exact (Pl.dec_no (R0.out rfl)).symm
          · obtain ⟨⟨ht, hkk, hnn, hle⟩, hall⟩ := R1.out rfl
            have hpe : p = vl := by
              apply Nat.le_antisymm hp
              apply Nat.le_of_not_lt
              intro hc
              exact hgo ⟨hc, rfl⟩
            exact (Pl.dec_yes (HKS.out.2 ⟨(by first | exact hkk | trivial), (by first | exact hnn | trivial), (by first | exact hle | trivial), ht, fun r hr => hall r (by omega)⟩)).symm
        cases bb
        · have HN : Hid (Pl.kyP xs len i ≠ Pl.kyP xs len j) := fun hc => by have := HE.out; rw [Pl.dec_yes hc] at this; cases this
          by_cases hlt : (p : Int) < (vl : Int)
          · clear hgo
            go_wp2_with fail
            go_ret
            exact ⟨by rw [← HE.out]; rfl, by rw [HQ.out]; exact S.out.1.put hi hj HN.out, S.out.2.1.setCell _ _⟩
          · clear hgo
            go_wp2_with fail
            go_ret
            exact ⟨by rw [← HE.out]; rfl, by rw [HQ.out]; exact S.out.1.put hi hj HN.out, S.out.2.1.setCell _ _⟩
        · have HY : Hid (Pl.kyP xs len i = Pl.kyP xs len j) := of_dec HE.out.symm
          have hlt : ¬ ((p : Int) < (vl : Int)) := fun hc => hgo ⟨by omega, rfl⟩
          clear hgo
          go_wp2_with fail
          all_goals go_ret
          all_goals exact ⟨by rw [← HE.out]; rfl, by rw [HQ.out]; exact S.out.1.put2 hi hj HY.out, (S.out.2.1.setCell _ _).setCell _ _⟩
  have h0 : v = 0 := by omega
  subst h0
  clear hv h2 hv1 h1
  by_cases hk : ki = kj
  rotate_left
  · have hkb : (ki == kj) = false := by rw [beq_eq_false_iff_ne]; exact hk
    go_wp2_with fail
    go_loopw [10, 11] (fun m t wr => ∃ (p : Nat) (bb : Bool), p ≤ vl ∧ t = .int .i64 p ∧ m = .bool bb ∧ Hid (PSt w xs g sb (some ⟨b1, o1, none⟩) len cap wr ∧ OnlyL sb u wr ∧ wr.heap[u.heap.size]? = some (.cells #[.int .i64 ki, .int .i64 ni, .slice va vl vc, .slice sa sl sc] 31) ∧ wr.heap[u.heap.size + 1]? = some (.cells #[.int .i64 kj, .int .i64 nj, .slice ya yl yc, .slice ra rl rc] 31)) ∧ Hid (bb = true → (Pl.tagd ki = false ∧ ki = kj ∧ ni = nj ∧ vl = yl) ∧ ∀ r, r < p → Pl.kyP xs len (zi r).toNat = Pl.kyP xs len (zj r).toNat) ∧ Hid (bb = false → Pl.kyP xs len i ≠ Pl.kyP xs len j)) (fun _ t _ => vl - (intOf t).toNat)
    case atStart =>
      exact ⟨0, false, Nat.zero_le _, rfl, rfl, ⟨(HPS.out.keep (below_alloc _ _)).keep (below_alloc _ _), (OnlyL.of_below (below_alloc _ _)).trans (OnlyL.of_below (below_alloc _ _)), ((below_alloc _ _).block _ (by simp)).trans (heap_alloc_new u _), by have := heap_alloc_new (u.alloc (.cells #[.int .i64 ki, .int .i64 ni, .slice va vl vc, .slice sa sl sc] 31)) (.cells #[.int .i64 kj, .int .i64 nj, .slice ya yl yc, .slice ra rl rc] 31); simpa using this⟩, fun h => (by cases h), fun _ hc => hk (HKS.out.1 hc).1⟩
    case round =>
      obtain ⟨p, bb, hp, rfl, rfl, S, R1, R0⟩ := hrel
      have zc : ∀ k, wr.cell? ⟨u.heap.size, k, none⟩ = (#[.int .i64 ki, .int .i64 ni, .slice va vl vc, .slice sa sl sc] : Array Value)[k]? := fun k => cell_of_row wr _ k _ _ (0, 0) S.out.2.2.1
      have yc2 : ∀ k, wr.cell? ⟨u.heap.size + 1, k, none⟩ = (#[.int .i64 kj, .int .i64 nj, .slice ya yl yc, .slice ra rl rc] : Array Value)[k]? := fun k => cell_of_row wr _ k _ _ (0, 0) S.out.2.2.2
      have z2 : wr.cell? ⟨u.heap.size, 2, none⟩ = some (.slice va vl vc) := zc 2
      have y2 : wr.cell? ⟨u.heap.size + 1, 2, none⟩ = some (.slice ya yl yc) := yc2 2
      have w0 := S.out.1.c0
      have w1 := S.out.1.c1
      rw [← HNN.out] at w1
      have hwg := S.out.1.zg
      have hws := S.out.1.zs
      have hwf := S.out.1.f
      obtain ⟨v9, _, w9, _, _⟩ := S.out.1.s i j hi hj
      rw [← HQ.out] at w9
      clear zc yc2
      by_cases hgo : p < vl ∧ bb = true
      · obtain ⟨hlt, rfl⟩ := hgo
        have hpi : (p : Int) < (vl : Int) := by omega
        obtain ⟨⟨ht, hkk, hnn, hle⟩, hall⟩ := R1.out rfl
        subst hle
        have HCALL : Hid (∀ U, Below wr.heap.size wr U → Calls Tryz.prog 36 #[.pointer (some ⟨g, 0, none⟩), .int .i64 (zs1.getD p 0), .int .i64 (zs2.getD p 0)] U fun e u' => e = .returned (.bool (Pl.dec (Pl.kyP xs len (zi p).toNat = Pl.kyP xs len (zj p).toNat))) ∧ PSt w xs g sb (some ⟨b1, o1, none⟩) len cap u' ∧ OnlyL sb U u') := fun U hU => HIH.out ht (by first | exact hkk | trivial) (by first | rfl | trivial) p hlt U (S.out.1.keep hU)
        have hkk2 : Hid (Pl.kyP xs len i = Pl.kyP xs len j → Pl.kyP xs len (zi p).toNat = Pl.kyP xs len (zj p).toNat) := fun q => (HKS.out.1 q).2.2.2.2 p hlt
        have HALL : Hid ((Pl.tagd ki = false ∧ ki = kj ∧ ni = nj) ∧ ∀ r, r < p → Pl.kyP xs len (zi r).toNat = Pl.kyP xs len (zj r).toNat) := ⟨⟨ht, hkk, hnn⟩, hall⟩
        obtain ⟨b7, o7, rfl, _, hb7, k7⟩ := (((HR1.out.keep S.out.1.b).2.2.2.2).resolve_left (by omega))
        obtain ⟨b8, o8, rfl, _, hb8, k8⟩ := (((HR2.out.keep S.out.1.b).2.2.2.2).resolve_left (by omega))
        have m7 := k7 p hlt
        have m8 := k8 p hlt
        clear k7 k8 ht hkk hnn hall
        generalize zs1.getD p 0 = zz1 at *
        generalize zs2.getD p 0 = zz2 at *
        go_wp2_with fail
        go_region_with (go_at_call 36; refine (HCALL.out _ (by repeat (first | exact Below.refl _ _ | refine below_drewN ?_ _))).mono ?_; rintro e u5 ⟨rfl, hp5, ho5⟩; have H5 : Hid (PSt w xs g sb (some ⟨b1, o1, none⟩) len cap u5 ∧ OnlyL sb wr u5) := ⟨hp5, (OnlyL.of_below (by repeat (first | exact Below.refl _ _ | refine below_drewN ?_ _))).trans ho5⟩; clear hp5 ho5)
        all_goals
          go_wp2_with fail
          go_roundw
          case rel =>
            refine ⟨p + 1, Pl.dec (Pl.kyP xs len (zi p).toNat = Pl.kyP xs len (zj p).toNat), hlt, by go_num, rfl, ⟨H5.out.1, S.out.2.1.trans H5.out.2, ?_, ?_⟩, fun hb => ?_, fun hb hc => ?_⟩
            · exact (H5.out.2.block _ (by have := S.out.2.2.2; have := (Array.getElem?_eq_some_iff.1 this).1; omega) (by have := S.out.2.1.size; omega)).trans S.out.2.2.1
            · exact (H5.out.2.block _ (by have := S.out.2.2.2; exact (Array.getElem?_eq_some_iff.1 this).1) (by omega)).trans S.out.2.2.2
            · refine ⟨⟨HALL.out.1.1, HALL.out.1.2.1, HALL.out.1.2.2, by first | rfl | trivial⟩, fun r hr => ?_⟩
              by_cases e : r = p
              · rw [e]; exact of_dec hb
              · exact HALL.out.2 r (by omega)
            · rw [Pl.dec_yes (hkk2.out hc)] at hb; cases hb
          case measure => simp [intOf]; omega
      · have HE : Hid (bb = Pl.dec (Pl.kyP xs len i = Pl.kyP xs len j)) := by
          cases bb
          · exact (Pl.dec_no (R0.out rfl)).symm
          · obtain ⟨⟨ht, hkk, hnn, hle⟩, hall⟩ := R1.out rfl
            have hpe : p = vl := by
              apply Nat.le_antisymm hp
              apply Nat.le_of_not_lt
              intro hc
              exact hgo ⟨hc, rfl⟩
            exact (Pl.dec_yes (HKS.out.2 ⟨(by first | exact hkk | trivial), (by first | exact hnn | trivial), (by first | exact hle | trivial), ht, fun r hr => hall r (by omega)⟩)).symm
        cases bb
        · have HN : Hid (Pl.kyP xs len i ≠ Pl.kyP xs len j) := fun hc => by have := HE.out; rw [Pl.dec_yes hc] at this; cases this
          by_cases hlt : (p : Int) < (vl : Int)
          · clear hgo
            go_wp2_with fail
            go_ret
            exact ⟨by rw [← HE.out]; rfl, by rw [HQ.out]; exact S.out.1.put hi hj HN.out, S.out.2.1.setCell _ _⟩
          · clear hgo
            go_wp2_with fail
            go_ret
            exact ⟨by rw [← HE.out]; rfl, by rw [HQ.out]; exact S.out.1.put hi hj HN.out, S.out.2.1.setCell _ _⟩
        · have HY : Hid (Pl.kyP xs len i = Pl.kyP xs len j) := of_dec HE.out.symm
          have hlt : ¬ ((p : Int) < (vl : Int)) := fun hc => hgo ⟨by omega, rfl⟩
          clear hgo
          go_wp2_with fail
          all_goals go_ret
          all_goals exact ⟨by rw [← HE.out]; rfl, by rw [HQ.out]; exact S.out.1.put2 hi hj HY.out, (S.out.2.1.setCell _ _).setCell _ _⟩
  subst hk
  by_cases hn : ni = nj
  rotate_left
  · have hnb : (ni == nj) = false := by rw [beq_eq_false_iff_ne]; exact hn
    go_wp2_with fail
    go_loopw [10, 11] (fun m t wr => ∃ (p : Nat) (bb : Bool), p ≤ vl ∧ t = .int .i64 p ∧ m = .bool bb ∧ Hid (PSt w xs g sb (some ⟨b1, o1, none⟩) len cap wr ∧ OnlyL sb u wr ∧ wr.heap[u.heap.size]? = some (.cells #[.int .i64 ki, .int .i64 ni, .slice va vl vc, .slice sa sl sc] 31) ∧ wr.heap[u.heap.size + 1]? = some (.cells #[.int .i64 ki, .int .i64 nj, .slice ya yl yc, .slice ra rl rc] 31)) ∧ Hid (bb = true → (Pl.tagd ki = false ∧ ki = ki ∧ ni = nj ∧ vl = yl) ∧ ∀ r, r < p → Pl.kyP xs len (zi r).toNat = Pl.kyP xs len (zj r).toNat) ∧ Hid (bb = false → Pl.kyP xs len i ≠ Pl.kyP xs len j)) (fun _ t _ => vl - (intOf t).toNat)
    case atStart =>
      exact ⟨0, false, Nat.zero_le _, rfl, rfl, ⟨(HPS.out.keep (below_alloc _ _)).keep (below_alloc _ _), (OnlyL.of_below (below_alloc _ _)).trans (OnlyL.of_below (below_alloc _ _)), ((below_alloc _ _).block _ (by simp)).trans (heap_alloc_new u _), by have := heap_alloc_new (u.alloc (.cells #[.int .i64 ki, .int .i64 ni, .slice va vl vc, .slice sa sl sc] 31)) (.cells #[.int .i64 ki, .int .i64 nj, .slice ya yl yc, .slice ra rl rc] 31); simpa using this⟩, fun h => (by cases h), fun _ hc => hn (HKS.out.1 hc).2.1⟩
    case round =>
      obtain ⟨p, bb, hp, rfl, rfl, S, R1, R0⟩ := hrel
      have zc : ∀ k, wr.cell? ⟨u.heap.size, k, none⟩ = (#[.int .i64 ki, .int .i64 ni, .slice va vl vc, .slice sa sl sc] : Array Value)[k]? := fun k => cell_of_row wr _ k _ _ (0, 0) S.out.2.2.1
      have yc2 : ∀ k, wr.cell? ⟨u.heap.size + 1, k, none⟩ = (#[.int .i64 ki, .int .i64 nj, .slice ya yl yc, .slice ra rl rc] : Array Value)[k]? := fun k => cell_of_row wr _ k _ _ (0, 0) S.out.2.2.2
      have z2 : wr.cell? ⟨u.heap.size, 2, none⟩ = some (.slice va vl vc) := zc 2
      have y2 : wr.cell? ⟨u.heap.size + 1, 2, none⟩ = some (.slice ya yl yc) := yc2 2
      have w0 := S.out.1.c0
      have w1 := S.out.1.c1
      rw [← HNN.out] at w1
      have hwg := S.out.1.zg
      have hws := S.out.1.zs
      have hwf := S.out.1.f
      obtain ⟨v9, _, w9, _, _⟩ := S.out.1.s i j hi hj
      rw [← HQ.out] at w9
      clear zc yc2
      by_cases hgo : p < vl ∧ bb = true
      · obtain ⟨hlt, rfl⟩ := hgo
        have hpi : (p : Int) < (vl : Int) := by omega
        obtain ⟨⟨ht, hkk, hnn, hle⟩, hall⟩ := R1.out rfl
        subst hle
        have HCALL : Hid (∀ U, Below wr.heap.size wr U → Calls Tryz.prog 36 #[.pointer (some ⟨g, 0, none⟩), .int .i64 (zs1.getD p 0), .int .i64 (zs2.getD p 0)] U fun e u' => e = .returned (.bool (Pl.dec (Pl.kyP xs len (zi p).toNat = Pl.kyP xs len (zj p).toNat))) ∧ PSt w xs g sb (some ⟨b1, o1, none⟩) len cap u' ∧ OnlyL sb U u') := fun U hU => HIH.out ht (by first | exact hkk | trivial) (by first | rfl | trivial) p hlt U (S.out.1.keep hU)
        have hkk2 : Hid (Pl.kyP xs len i = Pl.kyP xs len j → Pl.kyP xs len (zi p).toNat = Pl.kyP xs len (zj p).toNat) := fun q => (HKS.out.1 q).2.2.2.2 p hlt
        have HALL : Hid ((Pl.tagd ki = false ∧ ki = ki ∧ ni = nj) ∧ ∀ r, r < p → Pl.kyP xs len (zi r).toNat = Pl.kyP xs len (zj r).toNat) := ⟨⟨ht, hkk, hnn⟩, hall⟩
        obtain ⟨b7, o7, rfl, _, hb7, k7⟩ := (((HR1.out.keep S.out.1.b).2.2.2.2).resolve_left (by omega))
        obtain ⟨b8, o8, rfl, _, hb8, k8⟩ := (((HR2.out.keep S.out.1.b).2.2.2.2).resolve_left (by omega))
        have m7 := k7 p hlt
        have m8 := k8 p hlt
        clear k7 k8 ht hkk hnn hall
        generalize zs1.getD p 0 = zz1 at *
        generalize zs2.getD p 0 = zz2 at *
        go_wp2_with fail
        go_region_with (go_at_call 36; refine (HCALL.out _ (by repeat (first | exact Below.refl _ _ | refine below_drewN ?_ _))).mono ?_; rintro e u5 ⟨rfl, hp5, ho5⟩; have H5 : Hid (PSt w xs g sb (some ⟨b1, o1, none⟩) len cap u5 ∧ OnlyL sb wr u5) := ⟨hp5, (OnlyL.of_below (by repeat (first | exact Below.refl _ _ | refine below_drewN ?_ _))).trans ho5⟩; clear hp5 ho5)
        all_goals
          go_wp2_with fail
          go_roundw
          case rel =>
            refine ⟨p + 1, Pl.dec (Pl.kyP xs len (zi p).toNat = Pl.kyP xs len (zj p).toNat), hlt, by go_num, rfl, ⟨H5.out.1, S.out.2.1.trans H5.out.2, ?_, ?_⟩, fun hb => ?_, fun hb hc => ?_⟩
            · exact (H5.out.2.block _ (by have := S.out.2.2.2; have := (Array.getElem?_eq_some_iff.1 this).1; omega) (by have := S.out.2.1.size; omega)).trans S.out.2.2.1
            · exact (H5.out.2.block _ (by have := S.out.2.2.2; exact (Array.getElem?_eq_some_iff.1 this).1) (by omega)).trans S.out.2.2.2
            · refine ⟨⟨HALL.out.1.1, HALL.out.1.2.1, HALL.out.1.2.2, by first | rfl | trivial⟩, fun r hr => ?_⟩
              by_cases e : r = p
              · rw [e]; exact of_dec hb
              · exact HALL.out.2 r (by omega)
            · rw [Pl.dec_yes (hkk2.out hc)] at hb; cases hb
          case measure => simp [intOf]; omega
      · have HE : Hid (bb = Pl.dec (Pl.kyP xs len i = Pl.kyP xs len j)) := by
          cases bb
          · exact (Pl.dec_no (R0.out rfl)).symm
          · obtain ⟨⟨ht, hkk, hnn, hle⟩, hall⟩ := R1.out rfl
            have hpe : p = vl := by
              apply Nat.le_antisymm hp
              apply Nat.le_of_not_lt
              intro hc
              exact hgo ⟨hc, rfl⟩
            exact (Pl.dec_yes (HKS.out.2 ⟨(by first | exact hkk | trivial), (by first | exact hnn | trivial), (by first | exact hle | trivial), ht, fun r hr => hall r (by omega)⟩)).symm
        cases bb
        · have HN : Hid (Pl.kyP xs len i ≠ Pl.kyP xs len j) := fun hc => by have := HE.out; rw [Pl.dec_yes hc] at this; cases this
          by_cases hlt : (p : Int) < (vl : Int)
          · clear hgo
            go_wp2_with fail
            go_ret
            exact ⟨by rw [← HE.out]; rfl, by rw [HQ.out]; exact S.out.1.put hi hj HN.out, S.out.2.1.setCell _ _⟩
          · clear hgo
            go_wp2_with fail
            go_ret
            exact ⟨by rw [← HE.out]; rfl, by rw [HQ.out]; exact S.out.1.put hi hj HN.out, S.out.2.1.setCell _ _⟩
        · have HY : Hid (Pl.kyP xs len i = Pl.kyP xs len j) := of_dec HE.out.symm
          have hlt : ¬ ((p : Int) < (vl : Int)) := fun hc => hgo ⟨by omega, rfl⟩
          clear hgo
          go_wp2_with fail
          all_goals go_ret
          all_goals exact ⟨by rw [← HE.out]; rfl, by rw [HQ.out]; exact S.out.1.put2 hi hj HY.out, (S.out.2.1.setCell _ _).setCell _ _⟩
  subst hn
  by_cases hl : vl = yl
  rotate_left
  · have hlb : ((vl : Int) == (yl : Int)) = false := by rw [beq_eq_false_iff_ne]; omega
    go_wp2_with fail
    go_loopw [10, 11] (fun m t wr => ∃ (p : Nat) (bb : Bool), p ≤ vl ∧ t = .int .i64 p ∧ m = .bool bb ∧ Hid (PSt w xs g sb (some ⟨b1, o1, none⟩) len cap wr ∧ OnlyL sb u wr ∧ wr.heap[u.heap.size]? = some (.cells #[.int .i64 ki, .int .i64 ni, .slice va vl vc, .slice sa sl sc] 31) ∧ wr.heap[u.heap.size + 1]? = some (.cells #[.int .i64 ki, .int .i64 ni, .slice ya yl yc, .slice ra rl rc] 31)) ∧ Hid (bb = true → (Pl.tagd ki = false ∧ ki = ki ∧ ni = ni ∧ vl = yl) ∧ ∀ r, r < p → Pl.kyP xs len (zi r).toNat = Pl.kyP xs len (zj r).toNat) ∧ Hid (bb = false → Pl.kyP xs len i ≠ Pl.kyP xs len j)) (fun _ t _ => vl - (intOf t).toNat)
    case atStart =>
      exact ⟨0, false, Nat.zero_le _, rfl, rfl, ⟨(HPS.out.keep (below_alloc _ _)).keep (below_alloc _ _), (OnlyL.of_below (below_alloc _ _)).trans (OnlyL.of_below (below_alloc _ _)), ((below_alloc _ _).block _ (by simp)).trans (heap_alloc_new u _), by have := heap_alloc_new (u.alloc (.cells #[.int .i64 ki, .int .i64 ni, .slice va vl vc, .slice sa sl sc] 31)) (.cells #[.int .i64 ki, .int .i64 ni, .slice ya yl yc, .slice ra rl rc] 31); simpa using this⟩, fun h => (by cases h), fun _ hc => hl (HKS.out.1 hc).2.2.1⟩
    case round =>
      obtain ⟨p, bb, hp, rfl, rfl, S, R1, R0⟩ := hrel
      have zc : ∀ k, wr.cell? ⟨u.heap.size, k, none⟩ = (#[.int .i64 ki, .int .i64 ni, .slice va vl vc, .slice sa sl sc] : Array Value)[k]? := fun k => cell_of_row wr _ k _ _ (0, 0) S.out.2.2.1
      have yc2 : ∀ k, wr.cell? ⟨u.heap.size + 1, k, none⟩ = (#[.int .i64 ki, .int .i64 ni, .slice ya yl yc, .slice ra rl rc] : Array Value)[k]? := fun k => cell_of_row wr _ k _ _ (0, 0) S.out.2.2.2
      have z2 : wr.cell? ⟨u.heap.size, 2, none⟩ = some (.slice va vl vc) := zc 2
      have y2 : wr.cell? ⟨u.heap.size + 1, 2, none⟩ = some (.slice ya yl yc) := yc2 2
      have w0 := S.out.1.c0
      have w1 := S.out.1.c1
      rw [← HNN.out] at w1
      have hwg := S.out.1.zg
      have hws := S.out.1.zs
      have hwf := S.out.1.f
      obtain ⟨v9, _, w9, _, _⟩ := S.out.1.s i j hi hj
      rw [← HQ.out] at w9
      clear zc yc2
      by_cases hgo : p < vl ∧ bb = true
      · obtain ⟨hlt, rfl⟩ := hgo
        have hpi : (p : Int) < (vl : Int) := by omega
        obtain ⟨⟨ht, hkk, hnn, hle⟩, hall⟩ := R1.out rfl
        exact absurd hle hl
      · have HE : Hid (bb = Pl.dec (Pl.kyP xs len i = Pl.kyP xs len j)) := by
          cases bb
          · exact (Pl.dec_no (R0.out rfl)).symm
          · obtain ⟨⟨ht, hkk, hnn, hle⟩, hall⟩ := R1.out rfl
            have hpe : p = vl := by
              apply Nat.le_antisymm hp
              apply Nat.le_of_not_lt
              intro hc
              exact hgo ⟨hc, rfl⟩
            exact (Pl.dec_yes (HKS.out.2 ⟨(by first | exact hkk | trivial), (by first | exact hnn | trivial), (by first | exact hle | trivial), ht, fun r hr => hall r (by omega)⟩)).symm
        cases bb
        · have HN : Hid (Pl.kyP xs len i ≠ Pl.kyP xs len j) := fun hc => by have := HE.out; rw [Pl.dec_yes hc] at this; cases this
          by_cases hlt : (p : Int) < (vl : Int)
          · clear hgo
            go_wp2_with fail
            go_ret
            exact ⟨by rw [← HE.out]; rfl, by rw [HQ.out]; exact S.out.1.put hi hj HN.out, S.out.2.1.setCell _ _⟩
          · clear hgo
            go_wp2_with fail
            go_ret
            exact ⟨by rw [← HE.out]; rfl, by rw [HQ.out]; exact S.out.1.put hi hj HN.out, S.out.2.1.setCell _ _⟩
        · have HY : Hid (Pl.kyP xs len i = Pl.kyP xs len j) := of_dec HE.out.symm
          have hlt : ¬ ((p : Int) < (vl : Int)) := fun hc => hgo ⟨by omega, rfl⟩
          clear hgo
          go_wp2_with fail
          all_goals go_ret
          all_goals exact ⟨by rw [← HE.out]; rfl, by rw [HQ.out]; exact S.out.1.put2 hi hj HY.out, (S.out.2.1.setCell _ _).setCell _ _⟩
  subst hl
  cases htg : Pl.tagd ki
  rotate_left
  · have htg2 := htg
    go_wp2_with (go_at_call 31; refine (l7Tagged_any _ _).mono ?_; rintro e uu ⟨rfl, ek⟩; rw [ek]; clear ek; rw [htg])
    go_loopw [10, 11] (fun m t wr => ∃ (p : Nat) (bb : Bool), p ≤ vl ∧ t = .int .i64 p ∧ m = .bool bb ∧ Hid (PSt w xs g sb (some ⟨b1, o1, none⟩) len cap wr ∧ OnlyL sb u wr ∧ wr.heap[u.heap.size]? = some (.cells #[.int .i64 ki, .int .i64 ni, .slice va vl vc, .slice sa sl sc] 31) ∧ wr.heap[u.heap.size + 1]? = some (.cells #[.int .i64 ki, .int .i64 ni, .slice ya vl yc, .slice ra rl rc] 31)) ∧ Hid (bb = true → (Pl.tagd ki = false ∧ ki = ki ∧ ni = ni ∧ vl = vl) ∧ ∀ r, r < p → Pl.kyP xs len (zi r).toNat = Pl.kyP xs len (zj r).toNat) ∧ Hid (bb = false → Pl.kyP xs len i ≠ Pl.kyP xs len j)) (fun _ t _ => vl - (intOf t).toNat)
    case atStart =>
      exact ⟨0, false, Nat.zero_le _, rfl, rfl, ⟨(HPS.out.keep (below_alloc _ _)).keep (below_alloc _ _), (OnlyL.of_below (below_alloc _ _)).trans (OnlyL.of_below (below_alloc _ _)), ((below_alloc _ _).block _ (by simp)).trans (heap_alloc_new u _), by have := heap_alloc_new (u.alloc (.cells #[.int .i64 ki, .int .i64 ni, .slice va vl vc, .slice sa sl sc] 31)) (.cells #[.int .i64 ki, .int .i64 ni, .slice ya vl yc, .slice ra rl rc] 31); simpa using this⟩, fun h => (by cases h), fun _ hc => (by have := (HKS.out.1 hc).2.2.2.1; rw [htg2] at this; cases this)⟩
    case round =>
      obtain ⟨p, bb, hp, rfl, rfl, S, R1, R0⟩ := hrel
      have zc : ∀ k, wr.cell? ⟨u.heap.size, k, none⟩ = (#[.int .i64 ki, .int .i64 ni, .slice va vl vc, .slice sa sl sc] : Array Value)[k]? := fun k => cell_of_row wr _ k _ _ (0, 0) S.out.2.2.1
      have yc2 : ∀ k, wr.cell? ⟨u.heap.size + 1, k, none⟩ = (#[.int .i64 ki, .int .i64 ni, .slice ya vl yc, .slice ra rl rc] : Array Value)[k]? := fun k => cell_of_row wr _ k _ _ (0, 0) S.out.2.2.2
      have z2 : wr.cell? ⟨u.heap.size, 2, none⟩ = some (.slice va vl vc) := zc 2
      have y2 : wr.cell? ⟨u.heap.size + 1, 2, none⟩ = some (.slice ya vl yc) := yc2 2
      have w0 := S.out.1.c0
      have w1 := S.out.1.c1
      rw [← HNN.out] at w1
      have hwg := S.out.1.zg
      have hws := S.out.1.zs
      have hwf := S.out.1.f
      obtain ⟨v9, _, w9, _, _⟩ := S.out.1.s i j hi hj
      rw [← HQ.out] at w9
      clear zc yc2
      by_cases hgo : p < vl ∧ bb = true
      · obtain ⟨hlt, rfl⟩ := hgo
        have hpi : (p : Int) < (vl : Int) := by omega
        obtain ⟨⟨ht, hkk, hnn, hle⟩, hall⟩ := R1.out rfl
        have HCALL : Hid (∀ U, Below wr.heap.size wr U → Calls Tryz.prog 36 #[.pointer (some ⟨g, 0, none⟩), .int .i64 (zs1.getD p 0), .int .i64 (zs2.getD p 0)] U fun e u' => e = .returned (.bool (Pl.dec (Pl.kyP xs len (zi p).toNat = Pl.kyP xs len (zj p).toNat))) ∧ PSt w xs g sb (some ⟨b1, o1, none⟩) len cap u' ∧ OnlyL sb U u') := fun U hU => HIH.out ht (by first | exact hkk | trivial) (by first | rfl | trivial) p hlt U (S.out.1.keep hU)
        have hkk2 : Hid (Pl.kyP xs len i = Pl.kyP xs len j → Pl.kyP xs len (zi p).toNat = Pl.kyP xs len (zj p).toNat) := fun q => (HKS.out.1 q).2.2.2.2 p hlt
        have HALL : Hid ((Pl.tagd ki = false ∧ ki = ki ∧ ni = ni) ∧ ∀ r, r < p → Pl.kyP xs len (zi r).toNat = Pl.kyP xs len (zj r).toNat) := ⟨⟨ht, hkk, hnn⟩, hall⟩
        obtain ⟨b7, o7, rfl, _, hb7, k7⟩ := (((HR1.out.keep S.out.1.b).2.2.2.2).resolve_left (by omega))
        obtain ⟨b8, o8, rfl, _, hb8, k8⟩ := (((HR2.out.keep S.out.1.b).2.2.2.2).resolve_left (by omega))
        have m7 := k7 p hlt
        have m8 := k8 p hlt
        clear k7 k8 ht hkk hnn hall
        generalize zs1.getD p 0 = zz1 at *
        generalize zs2.getD p 0 = zz2 at *
        go_wp2_with fail
        go_region_with (go_at_call 36; refine (HCALL.out _ (by repeat (first | exact Below.refl _ _ | refine below_drewN ?_ _))).mono ?_; rintro e u5 ⟨rfl, hp5, ho5⟩; have H5 : Hid (PSt w xs g sb (some ⟨b1, o1, none⟩) len cap u5 ∧ OnlyL sb wr u5) := ⟨hp5, (OnlyL.of_below (by repeat (first | exact Below.refl _ _ | refine below_drewN ?_ _))).trans ho5⟩; clear hp5 ho5)
        all_goals
          go_wp2_with fail
          go_roundw
          case rel =>
            refine ⟨p + 1, Pl.dec (Pl.kyP xs len (zi p).toNat = Pl.kyP xs len (zj p).toNat), hlt, by go_num, rfl, ⟨H5.out.1, S.out.2.1.trans H5.out.2, ?_, ?_⟩, fun hb => ?_, fun hb hc => ?_⟩
            · exact (H5.out.2.block _ (by have := S.out.2.2.2; have := (Array.getElem?_eq_some_iff.1 this).1; omega) (by have := S.out.2.1.size; omega)).trans S.out.2.2.1
            · exact (H5.out.2.block _ (by have := S.out.2.2.2; exact (Array.getElem?_eq_some_iff.1 this).1) (by omega)).trans S.out.2.2.2
            · refine ⟨⟨HALL.out.1.1, HALL.out.1.2.1, HALL.out.1.2.2, by first | rfl | trivial⟩, fun r hr => ?_⟩
              by_cases e : r = p
              · rw [e]; exact of_dec hb
              · exact HALL.out.2 r (by omega)
            · rw [Pl.dec_yes (hkk2.out hc)] at hb; cases hb
          case measure => simp [intOf]; omega
      · have HE : Hid (bb = Pl.dec (Pl.kyP xs len i = Pl.kyP xs len j)) := by
          cases bb
          · exact (Pl.dec_no (R0.out rfl)).symm
          · obtain ⟨⟨ht, hkk, hnn, hle⟩, hall⟩ := R1.out rfl
            have hpe : p = vl := by
              apply Nat.le_antisymm hp
              apply Nat.le_of_not_lt
              intro hc
              exact hgo ⟨hc, rfl⟩
            exact (Pl.dec_yes (HKS.out.2 ⟨(by first | exact hkk | trivial), (by first | exact hnn | trivial), (by first | exact hle | trivial), ht, fun r hr => hall r (by omega)⟩)).symm
        cases bb
        · have HN : Hid (Pl.kyP xs len i ≠ Pl.kyP xs len j) := fun hc => by have := HE.out; rw [Pl.dec_yes hc] at this; cases this
          by_cases hlt : (p : Int) < (vl : Int)
          · clear hgo
            go_wp2_with fail
            go_ret
            exact ⟨by rw [← HE.out]; rfl, by rw [HQ.out]; exact S.out.1.put hi hj HN.out, S.out.2.1.setCell _ _⟩
          · clear hgo
            go_wp2_with fail
            go_ret
            exact ⟨by rw [← HE.out]; rfl, by rw [HQ.out]; exact S.out.1.put hi hj HN.out, S.out.2.1.setCell _ _⟩
        · have HY : Hid (Pl.kyP xs len i = Pl.kyP xs len j) := of_dec HE.out.symm
          have hlt : ¬ ((p : Int) < (vl : Int)) := fun hc => hgo ⟨by omega, rfl⟩
          clear hgo
          go_wp2_with fail
          all_goals go_ret
          all_goals exact ⟨by rw [← HE.out]; rfl, by rw [HQ.out]; exact S.out.1.put2 hi hj HY.out, (S.out.2.1.setCell _ _).setCell _ _⟩
  · have htg2 := htg
    go_wp2_with (go_at_call 31; refine (l7Tagged_any _ _).mono ?_; rintro e uu ⟨rfl, ek⟩; rw [ek]; clear ek; rw [htg])
    go_loopw [10, 11] (fun m t wr => ∃ (p : Nat) (bb : Bool), p ≤ vl ∧ t = .int .i64 p ∧ m = .bool bb ∧ Hid (PSt w xs g sb (some ⟨b1, o1, none⟩) len cap wr ∧ OnlyL sb u wr ∧ wr.heap[u.heap.size]? = some (.cells #[.int .i64 ki, .int .i64 ni, .slice va vl vc, .slice sa sl sc] 31) ∧ wr.heap[u.heap.size + 1]? = some (.cells #[.int .i64 ki, .int .i64 ni, .slice ya vl yc, .slice ra rl rc] 31)) ∧ Hid (bb = true → (Pl.tagd ki = false ∧ ki = ki ∧ ni = ni ∧ vl = vl) ∧ ∀ r, r < p → Pl.kyP xs len (zi r).toNat = Pl.kyP xs len (zj r).toNat) ∧ Hid (bb = false → Pl.kyP xs len i ≠ Pl.kyP xs len j)) (fun _ t _ => vl - (intOf t).toNat)
    case atStart =>
      exact ⟨0, true, Nat.zero_le _, rfl, rfl, ⟨(HPS.out.keep (below_alloc _ _)).keep (below_alloc _ _), (OnlyL.of_below (below_alloc _ _)).trans (OnlyL.of_below (below_alloc _ _)), ((below_alloc _ _).block _ (by simp)).trans (heap_alloc_new u _), by have := heap_alloc_new (u.alloc (.cells #[.int .i64 ki, .int .i64 ni, .slice va vl vc, .slice sa sl sc] 31)) (.cells #[.int .i64 ki, .int .i64 ni, .slice ya vl yc, .slice ra rl rc] 31); simpa using this⟩, fun _ => ⟨⟨htg2, rfl, rfl, rfl⟩, fun r hr => absurd hr (Nat.not_lt_zero _)⟩, fun h => (by cases h)⟩
    case round =>
      obtain ⟨p, bb, hp, rfl, rfl, S, R1, R0⟩ := hrel
      have zc : ∀ k, wr.cell? ⟨u.heap.size, k, none⟩ = (#[.int .i64 ki, .int .i64 ni, .slice va vl vc, .slice sa sl sc] : Array Value)[k]? := fun k => cell_of_row wr _ k _ _ (0, 0) S.out.2.2.1
      have yc2 : ∀ k, wr.cell? ⟨u.heap.size + 1, k, none⟩ = (#[.int .i64 ki, .int .i64 ni, .slice ya vl yc, .slice ra rl rc] : Array Value)[k]? := fun k => cell_of_row wr _ k _ _ (0, 0) S.out.2.2.2
      have z2 : wr.cell? ⟨u.heap.size, 2, none⟩ = some (.slice va vl vc) := zc 2
      have y2 : wr.cell? ⟨u.heap.size + 1, 2, none⟩ = some (.slice ya vl yc) := yc2 2
      have w0 := S.out.1.c0
      have w1 := S.out.1.c1
      rw [← HNN.out] at w1
      have hwg := S.out.1.zg
      have hws := S.out.1.zs
      have hwf := S.out.1.f
      obtain ⟨v9, _, w9, _, _⟩ := S.out.1.s i j hi hj
      rw [← HQ.out] at w9
      clear zc yc2
      by_cases hgo : p < vl ∧ bb = true
      · obtain ⟨hlt, rfl⟩ := hgo
        have hpi : (p : Int) < (vl : Int) := by omega
        obtain ⟨⟨ht, hkk, hnn, hle⟩, hall⟩ := R1.out rfl
        have HCALL : Hid (∀ U, Below wr.heap.size wr U → Calls Tryz.prog 36 #[.pointer (some ⟨g, 0, none⟩), .int .i64 (zs1.getD p 0), .int .i64 (zs2.getD p 0)] U fun e u' => e = .returned (.bool (Pl.dec (Pl.kyP xs len (zi p).toNat = Pl.kyP xs len (zj p).toNat))) ∧ PSt w xs g sb (some ⟨b1, o1, none⟩) len cap u' ∧ OnlyL sb U u') := fun U hU => HIH.out ht (by first | exact hkk | trivial) (by first | rfl | trivial) p hlt U (S.out.1.keep hU)
        have hkk2 : Hid (Pl.kyP xs len i = Pl.kyP xs len j → Pl.kyP xs len (zi p).toNat = Pl.kyP xs len (zj p).toNat) := fun q => (HKS.out.1 q).2.2.2.2 p hlt
        have HALL : Hid ((Pl.tagd ki = false ∧ ki = ki ∧ ni = ni) ∧ ∀ r, r < p → Pl.kyP xs len (zi r).toNat = Pl.kyP xs len (zj r).toNat) := ⟨⟨ht, hkk, hnn⟩, hall⟩
        obtain ⟨b7, o7, rfl, _, hb7, k7⟩ := (((HR1.out.keep S.out.1.b).2.2.2.2).resolve_left (by omega))
        obtain ⟨b8, o8, rfl, _, hb8, k8⟩ := (((HR2.out.keep S.out.1.b).2.2.2.2).resolve_left (by omega))
        have m7 := k7 p hlt
        have m8 := k8 p hlt
        clear k7 k8 ht hkk hnn hall
        generalize zs1.getD p 0 = zz1 at *
        generalize zs2.getD p 0 = zz2 at *
        go_wp2_with fail
        go_region_with (go_at_call 36; refine (HCALL.out _ (by repeat (first | exact Below.refl _ _ | refine below_drewN ?_ _))).mono ?_; rintro e u5 ⟨rfl, hp5, ho5⟩; have H5 : Hid (PSt w xs g sb (some ⟨b1, o1, none⟩) len cap u5 ∧ OnlyL sb wr u5) := ⟨hp5, (OnlyL.of_below (by repeat (first | exact Below.refl _ _ | refine below_drewN ?_ _))).trans ho5⟩; clear hp5 ho5)
        all_goals
          go_wp2_with fail
          go_roundw
          case rel =>
            refine ⟨p + 1, Pl.dec (Pl.kyP xs len (zi p).toNat = Pl.kyP xs len (zj p).toNat), hlt, by go_num, rfl, ⟨H5.out.1, S.out.2.1.trans H5.out.2, ?_, ?_⟩, fun hb => ?_, fun hb hc => ?_⟩
            · exact (H5.out.2.block _ (by have := S.out.2.2.2; have := (Array.getElem?_eq_some_iff.1 this).1; omega) (by have := S.out.2.1.size; omega)).trans S.out.2.2.1
            · exact (H5.out.2.block _ (by have := S.out.2.2.2; exact (Array.getElem?_eq_some_iff.1 this).1) (by omega)).trans S.out.2.2.2
            · refine ⟨⟨HALL.out.1.1, HALL.out.1.2.1, HALL.out.1.2.2, by first | rfl | trivial⟩, fun r hr => ?_⟩
              by_cases e : r = p
              · rw [e]; exact of_dec hb
              · exact HALL.out.2 r (by omega)
            · rw [Pl.dec_yes (hkk2.out hc)] at hb; cases hb
          case measure => simp [intOf]; omega
      · have HE : Hid (bb = Pl.dec (Pl.kyP xs len i = Pl.kyP xs len j)) := by
          cases bb
          · exact (Pl.dec_no (R0.out rfl)).symm
          · obtain ⟨⟨ht, hkk, hnn, hle⟩, hall⟩ := R1.out rfl
            have hpe : p = vl := by
              apply Nat.le_antisymm hp
              apply Nat.le_of_not_lt
              intro hc
              exact hgo ⟨hc, rfl⟩
            exact (Pl.dec_yes (HKS.out.2 ⟨(by first | exact hkk | trivial), (by first | exact hnn | trivial), (by first | exact hle | trivial), ht, fun r hr => hall r (by omega)⟩)).symm
        cases bb
        · have HN : Hid (Pl.kyP xs len i ≠ Pl.kyP xs len j) := fun hc => by have := HE.out; rw [Pl.dec_yes hc] at this; cases this
          by_cases hlt : (p : Int) < (vl : Int)
          · clear hgo
            go_wp2_with fail
            go_ret
            exact ⟨by rw [← HE.out]; rfl, by rw [HQ.out]; exact S.out.1.put hi hj HN.out, S.out.2.1.setCell _ _⟩
          · clear hgo
            go_wp2_with fail
            go_ret
            exact ⟨by rw [← HE.out]; rfl, by rw [HQ.out]; exact S.out.1.put hi hj HN.out, S.out.2.1.setCell _ _⟩
        · have HY : Hid (Pl.kyP xs len i = Pl.kyP xs len j) := of_dec HE.out.symm
          have hlt : ¬ ((p : Int) < (vl : Int)) := fun hc => hgo ⟨by omega, rfl⟩
          clear hgo
          go_wp2_with fail
          all_goals go_ret
          all_goals exact ⟨by rw [← HE.out]; rfl, by rw [HQ.out]; exact S.out.1.put2 hi hj HY.out, (S.out.2.1.setCell _ _).setCell _ _⟩
set_option maxHeartbeats 8000000 in
set_option maxRecDepth 8000 in
theorem lsame_any {lo : Nat} {w : World} {xs : List Pl.Ty} {g sb : Nat} {a : Option Addr} {len cap : Nat} (hT : TRow lo w a len cap xs) (hok : TOk len xs) : ∀ (d i j : Nat) (u : World), i < len → j < len → Pl.dep xs i ≤ d → PSt w xs g sb a len cap u →
    Calls Tryz.prog 36 #[.pointer (some ⟨g, 0, none⟩), .int .i64 i, .int .i64 j] u fun e u' => e = .returned (.bool (Pl.dec (Pl.kyP xs len i = Pl.kyP xs len j))) ∧ PSt w xs g sb a len cap u' ∧ OnlyL sb u u' := by
  intro d
  induction d with
  | zero => intro i j u hi hj hd hP; exact lsame_step hT hok i j u hi hj hP (fun z y u hz hy hlt _ => absurd hlt (by omega))
  | succ d ih => intro i j u hi hj hd hP; exact lsame_step hT hok i j u hi hj hP (fun z y u hz hy hlt hP' => ih z y u hz hy (by omega) hP')
end Go.Proofs.YtafcnijfoejboaaGreatDoor.W
