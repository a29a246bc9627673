import Derived.Test.YteadglnenaiaaaaGreatDoorK40
import Derived.Test.YteadglnenaiaaaaGreatDoorK02
import Derived.Deep.AppendLies
import Derived.Test.YteadglnenaiaaaaGreatDoorK28
import Derived.Test.YteadglnenaiaaaaGreatDoorK19
set_option linter.unusedVariables false
set_option linter.unusedSimpArgs false
namespace Go.Proofs.YteadglnenaiaaaaGreatDoor.W
open Go.RowKit Go.Shelf
attribute [local go_sem] Oper.semAt_some
def mark (D : Nat) : Deferred := { target := .collected D, args := #[] }
structure Sh (lo : Nat) (w w' : World) : Prop where
  os : w'.os = w.os
  tape : w'.tape = w.tape
  output : w'.output = w.output
  size : w'.heap.size = w.heap.size
  block : ∀ b, (b < lo ∨ ∃ cs t fr, w.heap[b]? = some (.cells cs t fr)) → w'.heap[b]? = w.heap[b]?
theorem Sh.refl (lo : Nat) (w : World) : Sh lo w w := ⟨rfl, rfl, rfl, rfl, fun _ _ => rfl⟩
theorem leaves_marks {F : Fence} {n : Nat} {P : Program} {fn : Func} {tmps : Array Value} {R : Ending → World → Prop} {lo : Nat} : ∀ (Ds : List Nat) (w : World), Ds.Nodup → (∀ D ∈ Ds, lo ≤ D ∧ w.heap[D]? = some (.deferred (some []))) → (∀ w', Sh lo w w' → ∃ v, (results fn tmps).run P w' = .ok v w' ∧ R (.returned v) w') → LeavesInM F n P fn tmps R (Ds.map mark) .returning w
  | [], w, _, _, h => h w (Sh.refl _ _)
  | D :: Ds, w, hn, hd, h => by
    obtain ⟨hn1, hn2⟩ := List.nodup_cons.1 hn
    have hD := hd D (List.mem_cons_self)
    refine ⟨by simp, .inl ⟨D, _, rfl, run_takeDeferred hD.2, ?_⟩⟩
    refine leaves_marks Ds _ hn2 (fun E hE => ⟨(hd E (List.mem_cons_of_mem _ hE)).1, ?_⟩) fun w' hs => h w' ?_
    · rw [World.putObj_heap_other (by rintro rfl; exact hn1 hE)]
      exact (hd E (List.mem_cons_of_mem _ hE)).2
    · have hz : (w.putObj D (.deferred none)).heap.size = w.heap.size := by simp [World.putObj]
      refine ⟨hs.os, hs.tape, hs.output, hs.size.trans hz, fun b hb => ?_⟩
      have hbD : b ≠ D := by
        rintro rfl
        rcases hb with q | ⟨cs, t, fr, q⟩
        · omega
        · rw [hD.2] at q; cases q
      rw [hs.block b, World.putObj_heap_other hbD]
      rcases hb with q | ⟨cs, t, fr, q⟩
      · exact .inl q
      · exact .inr ⟨cs, t, fr, by rw [World.putObj_heap_other hbD]; exact q⟩
structure Iq (w : World) (xs : List Pl.Nd) (i : Nat) (l : List Nat) (g2 g3 gb cb : Nat) (Ds : List Nat) (W : World) : Prop where
  bel : Below w.heap.size w W
  res : W.heap[g2]? = some (.cells #[.bool false] 4 (0, 0))
  box : W.heap[g3]? = some (.cells #[.slice (some ⟨gb, 0, none⟩) i cb] 34 (0, 0))
  own : W.ownsRow w.heap.size 3 1 (.slice (some ⟨gb, 0, none⟩) i cb) i (l.map fun n : Nat => Value.int .i64 (n : Int))
  dn : Ds.Nodup
  dd : ∀ D ∈ Ds, w.heap.size ≤ D ∧ W.heap[D]? = some (.deferred (some []))
  bg : Pl.bgF xs i = some l
theorem putObj_belowB {D l : Nat} {A B : World} (h : Below D A B) (hl : D ≤ l) (o : Obj) : Below D A (B.putObj l o) :=
  ⟨h.os, h.tape, h.output, by simpa [World.putObj] using h.size, fun b hb => (World.putObj_heap_other (by omega)).trans (h.block b hb)⟩
theorem own_block_row {base : Nat} {e : TypeId} {k : Nat} {g n cap : Nat} {xs : List Value} {w : World} (h : w.ownsRow base e k (.slice (some ⟨g, 0, none⟩) n cap) n xs) : ∃ cur, w.heap[g]? = some (.cells cur e (0, 0)) := by
  rcases h.2 with ⟨h', _⟩ | ⟨g', cap', cur, h', hb, hg, _⟩
  · simp at h'
  · simp only [Value.slice.injEq, Option.some.injEq, Addr.mk.injEq, and_true, true_and] at h'
    obtain ⟨rfl, _⟩ := h'
    exact ⟨cur, hg⟩
theorem own_otherB {base : Nat} {e : TypeId} {k : Nat} {g n cap : Nat} {xs : List Value} {w w' : World} (h : w.ownsRow base e k (.slice (some ⟨g, 0, none⟩) n cap) n xs) (hb : w'.heap[g]? = w.heap[g]?) : w'.ownsRow base e k (.slice (some ⟨g, 0, none⟩) n cap) n xs := by
  refine ⟨h.1, ?_⟩
  rcases h.2 with ⟨a, b⟩ | ⟨g', cap', cur, h0, hlo, hg, r⟩
  · exact .inl ⟨a, b⟩
  · have h1 := h0
    simp only [Value.slice.injEq, Option.some.injEq, Addr.mk.injEq, and_true, true_and] at h1
    obtain ⟨rfl, _⟩ := h1
    exact .inr ⟨g, cap', cur, h0, hlo, hb.trans hg, r⟩
theorem ne_of_kind {W : World} {b l : Nat} {cs : Array Value} {t : TypeId} {fr : Nat × Nat} {o' : Obj} (h : W.heap[b]? = some (.cells cs t fr)) (ho : W.heap[l]? = some o') (hc : o'.isCells = false) : b ≠ l := by
  rintro rfl
  rw [h] at ho; cases ho; cases hc
theorem Iq.put {w : World} {xs : List Pl.Nd} {i : Nat} {l : List Nat} {g2 g3 gb cb : Nat} {Ds : List Nat} {W : World} (h : Iq w xs i l g2 g3 gb cb Ds W) {r : Nat} {o o' : Obj} (hr : w.heap.size ≤ r) (ho : W.heap[r]? = some o') (hc : o'.isCells = false) (hD : r ∉ Ds) : Iq w xs i l g2 g3 gb cb Ds (W.putObj r o) := by
  obtain ⟨cur, hcur⟩ := own_block_row h.own
  refine ⟨putObj_belowB h.bel hr _, (World.putObj_heap_other (ne_of_kind h.res ho hc)).trans h.res, (World.putObj_heap_other (ne_of_kind h.box ho hc)).trans h.box, own_otherB h.own (World.putObj_heap_other (ne_of_kind hcur ho hc)), h.dn, fun D hd => ⟨(h.dd D hd).1, ?_⟩, h.bg⟩
  rw [World.putObj_heap_other (by rintro rfl; exact hD hd)]
  exact (h.dd D hd).2
theorem Iq.keep {w : World} {xs : List Pl.Nd} {i : Nat} {l : List Nat} {g2 g3 gb cb : Nat} {Ds : List Nat} {W W' : World} (h : Iq w xs i l g2 g3 gb cb Ds W) (hb : Below W.heap.size W W') : Iq w xs i l g2 g3 gb cb Ds W' := by
  obtain ⟨cur, hcur⟩ := own_block_row h.own
  have lt : ∀ {b : Nat} {o : Obj}, W.heap[b]? = some o → b < W.heap.size := fun q => (Array.getElem?_eq_some_iff.1 q).1
  refine ⟨h.bel.trans (hb.mono h.bel.size), (hb.block _ (lt h.res)).trans h.res, (hb.block _ (lt h.box)).trans h.box, own_otherB h.own (hb.block _ (lt hcur)), h.dn, fun D hd => ⟨(h.dd D hd).1, ?_⟩, h.bg⟩
  exact (hb.block _ (lt (h.dd D hd).2)).trans (h.dd D hd).2
def bgNo (xs : List Pl.Nd) (n : Nat) : Prop := Pl.bgF xs n = none
theorem backInts_is (a : Option Addr) (len cap : Nat) (w : World) : Calls Tryz.prog 28 #[.slice a len cap] w fun e w' => e = .returned (.func (.func 46) #[] #[.pointer (some ⟨w.heap.size, 0, none⟩)]) ∧ w' = w.alloc (.cells #[.slice a len cap] 34) := by
  go_enter Tryz.func28, Tryz.ntmps28
  go_wp2_with fail
  go_ret
  exact ⟨rfl, rfl⟩
theorem backNodes_is (a : Option Addr) (len cap : Nat) (w : World) : Calls Tryz.prog 29 #[.slice a len cap] w fun e w' => e = .returned (.func (.func 47) #[] #[.pointer (some ⟨w.heap.size, 0, none⟩)]) ∧ w' = w.alloc (.cells #[.slice a len cap] 27) := by
  go_enter Tryz.func29, Tryz.ntmps29
  go_wp2_with fail
  go_ret
  exact ⟨rfl, rfl⟩
end Go.Proofs.YteadglnenaiaaaaGreatDoor.W
namespace Go.Proofs.YteadglnenaiaaaaGreatDoor.Pl
theorem inS_snoc (al : List ByteArray) (s t : ByteArray) : inS (al ++ [s]) t = (inS al t || (s.toList == t.toList)) := by
  unfold inS; rw [List.any_append]; simp
theorem par_tab : ∀ k : Fin 50, (rlT.getD k.val Rl.zero).srt.toNat &&& 4 ≠ 0 → k.val = 7 := by decide +kernel
theorem par_seven {k : Int} (h : (rl k).srt.toNat &&& 4 ≠ 0) : k = 7 := by
  by_cases q : 0 ≤ k ∧ k ≤ 49
  · obtain ⟨n, rfl⟩ : ∃ n : Nat, k = n := ⟨k.toNat, by omega⟩
    have hn : n < 50 := by omega
    rw [rl_in hn] at h
    have := par_tab ⟨n, hn⟩ h
    simp only at this
    omega
  · rw [rl_out (by omega)] at h
    exact absurd rfl h
theorem last_tab : ∀ k : Fin 50, lastB ((k.val : Nat) : Int) = true → 1 ≤ (rlT.getD k.val Rl.zero).kids.length := by decide +kernel
theorem last_one {k : Int} (h : lastB k = true) : 1 ≤ (rl k).kids.length := by
  have hk : k = 21 ∨ k = 22 ∨ (24 ≤ k ∧ k ≤ 28) := of_decide_eq_true h
  obtain ⟨n, rfl⟩ : ∃ n : Nat, k = n := ⟨k.toNat, by omega⟩
  have hn : n < 50 := by omega
  rw [rl_in hn]
  exact last_tab ⟨n, hn⟩ h
theorem rl4 : (rl 4).kids = [1] ∧ (rl 4).more = 4 := by decide
theorem rl7 : (rl 7).kids = [1] := by decide
structure PI (xs : List Nd) (len i : Nat) (l : List Nat) : Prop where
  hi : i < len
  l4 : len ≤ 4000
  xl : xs.length = len
  ord : Ordd xs len l
  pre : ∀ j, j < i → NdI xs j
  wf : NWf xs
  sl : (nd xs i).s.size ≤ 1048576
theorem PI.kid {xs : List Nd} {len i : Nat} {l : List Nat} (h : PI xs len i l) {q : Nat} (hq : q < (nd xs i).kids.length) : ∃ c : Nat, (nd xs i).kids.getD q 0 = (c : Int) ∧ c < i := by
  obtain ⟨c, h1, h2, _⟩ := h.ord.kid i h.hi _ (getD_mem (ks := (nd xs i).kids) (q := q) hq)
  exact ⟨c, h1, h2⟩
theorem PI.par {xs : List Nd} {len i : Nat} {l : List Nat} (h : PI xs len i l) (hk : kI (rl (nd xs i).k) (kinds xs i)) (k4 : (nd xs i).k = 4) (j2 : (nd xs i).kids.length = 2) : ∃ c : Nat, (nd xs i).kids.getD 1 0 = (c : Int) ∧ c < len ∧ 1 ≤ (nd xs c).kids.length ∧ ∃ d : Nat, (nd xs c).kids.getD 0 0 = (d : Int) ∧ d < len := by
  obtain ⟨c, h1, h2⟩ := h.kid (q := 1) (by omega)
  have hi := h.hi
  have h3 := hk.2.2 1 (by rw [kinds_len]; omega)
  rw [kinds_at xs (by omega), h1, Int.toNat_natCast, k4, rl4.1, rl4.2, if_neg (by simp)] at h3
  have h7 := par_seven h3
  have h5 := (h.pre c h2).kids.1
  rw [h7, rl7, kinds_len] at h5
  have h6 : 1 ≤ (nd xs c).kids.length := by have h8 : ((1 : Nat) : Int) ≤ ((nd xs c).kids.length : Int) := h5; omega
  obtain ⟨d, d1, d2, _⟩ := h.ord.kid c (by omega) _ (getD_mem (ks := (nd xs c).kids) (q := 0) (by omega))
  exact ⟨c, h1, by omega, h6, d, d1, by omega⟩
theorem PI.last {xs : List Nd} {len i : Nat} {l : List Nat} (h : PI xs len i l) (hk : kI (rl (nd xs i).k) (kinds xs i)) (hl : lastB (nd xs i).k = true) : 1 ≤ (nd xs i).kids.length := by
  have h1 := hk.1
  have := last_one hl
  rw [kinds_len] at h1
  omega
end Go.Proofs.YteadglnenaiaaaaGreatDoor.Pl
namespace Go.Proofs.YteadglnenaiaaaaGreatDoor.W
open Go.RowKit Go.Maps Go.WideMaps
theorem KeysT.nil : KeysT (.map []) [] := ⟨isMap_empty, fun t => rfl⟩
theorem KeysT.put {D : DataW Unit} {al : List ByteArray} (h : KeysT D al) (s : ByteArray) (d : DataW Unit) : KeysT (D.put (.string s.data.toList) d) (al ++ [s]) := by
  refine ⟨h.1.put _ _, fun t => ?_⟩
  rw [Pl.inS_snoc]
  by_cases e : s.data.toList = t.data.toList
  · rw [e, has_put_same h.1 (by trivial)]
    have : (s.toList == t.toList) = true := by
      rw [ByteArray.toList_eq, ByteArray.toList_eq, e]; exact beq_self_eq_true _
    rw [this, Bool.or_true]
  · rw [has_put_other (fun hc => e (by injection hc with hc; exact hc.symm)), h.2]
    have : (s.toList == t.toList) = false := by
      rw [ByteArray.toList_eq, ByteArray.toList_eq]; exact beq_false_of_ne e
    rw [this, Bool.or_false]
structure Chk (W0 : World) (a : Option Addr) (len cap gc gm nm : Nat) (al : List ByteArray) (ob : Option Addr) (oc i : Nat) (o : List Bool) (w : World) : Prop where
  bel : Below W0.heap.size W0 w
  gcb : W0.heap.size ≤ gc
  gmb : W0.heap.size ≤ gm
  blk : w.heap[gc]? = some (.cells #[.slice a len cap, .map (some gm), .slice ob i oc] 49 (0, 0))
  map : ∃ D : DataW Unit, w.ownsMap Tryz.prog 9 unitElem gm nm D ∧ KeysT D al
  own : w.ownsRow W0.heap.size 4 1 (.slice ob i oc) i (o.map Value.bool)
theorem own_keepC {base : Nat} {e : TypeId} {k : Nat} {v : Value} {n : Nat} {xs : List Value} {w w' : World} (h : w.ownsRow base e k v n xs) (hb : Below w.heap.size w w') : w'.ownsRow base e k v n xs := by
  refine ⟨h.1, ?_⟩
  rcases h.2 with q | ⟨g, cap, cur, h0, hlo, hg, r⟩
  · exact .inl q
  · exact .inr ⟨g, cap, cur, h0, hlo, (hb.block g (Array.getElem?_eq_some_iff.1 hg).1).trans hg, r⟩
theorem Chk.keep {W0 : World} {a : Option Addr} {len cap gc gm nm : Nat} {al : List ByteArray} {ob : Option Addr} {oc i : Nat} {o : List Bool} {w w' : World} (h : Chk W0 a len cap gc gm nm al ob oc i o w) (hb : Below w.heap.size w w') : Chk W0 a len cap gc gm nm al ob oc i o w' := by
  obtain ⟨D, h1, h2⟩ := h.map
  have hlt : gm < w.heap.size := by
    obtain ⟨es, cl, q1, _⟩ := h1
    exact (Array.getElem?_eq_some_iff.1 q1).1
  exact ⟨h.bel.trans (hb.mono h.bel.size), h.gcb, h.gmb, (hb.block _ (Array.getElem?_eq_some_iff.1 h.blk).1).trans h.blk, ⟨D, ownsMap_keepT h1 hb hlt, h2⟩, own_keepC h.own hb⟩
theorem Chk.cells {W0 : World} {a : Option Addr} {len cap gc gm nm : Nat} {al : List ByteArray} {ob : Option Addr} {oc i : Nat} {o : List Bool} {w : World} (h : Chk W0 a len cap gc gm nm al ob oc i o w) : w.cell? ⟨gc, 0, none⟩ = some (.slice a len cap) ∧ w.cell? ⟨gc, 1, none⟩ = some (.map (some gm)) ∧ w.cell? ⟨gc, 2, none⟩ = some (.slice ob i oc) := by
  have f := fun j => cell_of_row w gc j _ 49 (0, 0) h.blk
  exact ⟨f 0, f 1, f 2⟩
theorem Chk.open {W0 : World} {a : Option Addr} {len cap gc gm nm : Nat} {al : List ByteArray} {ob : Option Addr} {oc i : Nat} {o : List Bool} {w : World} (h : Chk W0 a len cap gc gm nm al ob oc i o w) {c : Nat} (hc : c < i) : ∃ g, ob = some ⟨g, 0, none⟩ ∧ g < w.heap.size ∧ w.cell? ⟨g, c, none⟩ = some (.bool (o.getD c false)) := by
  obtain ⟨g, cp, hv, hlo, hg⟩ := h.own.form (by omega)
  simp only [Value.slice.injEq, true_and] at hv
  obtain ⟨rfl, rfl⟩ := hv
  exact ⟨g, rfl, hg, own_bool h.own hc⟩
structure PC (lo : Nat) (W0 y : World) (xs : List Pl.Nd) (a : Option Addr) (len cap gc gm nm : Nat) (al : List ByteArray) (ob : Option Addr) (oc i nb : Nat) (va : Option Addr) (vl vc : Nat) : Prop where
  chk : Chk W0 a len cap gc gm nm al ob oc i (Pl.opF xs i) y
  nd : y.heap[nb]? = some (.cells ((Pl.nd xs i).cells ⟨va, vl, vc⟩) 38 (0, 0))
  nbb : W0.heap.size ≤ nb
  row : Row .i64 lo W0 va vl vc (Pl.nd xs i).kids
  nrow : NRow lo W0 a len cap xs
  glo : Glo W0
  db : DbLies W0
  pw : PowLies W0
theorem PC.keep {lo : Nat} {W0 y y' : World} {xs : List Pl.Nd} {a : Option Addr} {len cap gc gm nm : Nat} {al : List ByteArray} {ob : Option Addr} {oc i nb : Nat} {va : Option Addr} {vl vc : Nat} (h : PC lo W0 y xs a len cap gc gm nm al ob oc i nb va vl vc) (hb : Below y.heap.size y y') : PC lo W0 y' xs a len cap gc gm nm al ob oc i nb va vl vc :=
  ⟨h.chk.keep hb, (hb.block _ (Array.getElem?_eq_some_iff.1 h.nd).1).trans h.nd, h.nbb, h.row, h.nrow, h.glo, h.db, h.pw⟩
theorem PC.cells {lo : Nat} {W0 y : World} {xs : List Pl.Nd} {a : Option Addr} {len cap gc gm nm : Nat} {al : List ByteArray} {ob : Option Addr} {oc i nb : Nat} {va : Option Addr} {vl vc : Nat} (h : PC lo W0 y xs a len cap gc gm nm al ob oc i nb va vl vc) {x : Pl.Nd} (hx : x = Pl.nd xs i) : y.cell? ⟨nb, 0, none⟩ = some (.int .i64 x.k) ∧ y.cell? ⟨nb, 1, none⟩ = some (.int .i64 x.m) ∧ y.cell? ⟨nb, 2, none⟩ = some (.int .i64 x.n) ∧ y.cell? ⟨nb, 3, none⟩ = some (.string x.s) ∧ y.cell? ⟨nb, 4, none⟩ = some (.slice va vl vc) ∧ y.cell? ⟨nb, 5, none⟩ = some (.int .i64 x.line) ∧ y.cell? ⟨nb, 6, none⟩ = some (.int .i64 x.col) := by
  subst hx
  have f := fun j => cell_of_row y nb j _ 38 (0, 0) h.nd
  exact ⟨f 0, f 1, f 2, f 3, f 4, f 5, f 6⟩
def NCells (y : World) (nb : Nat) (x : Pl.Nd) (va : Option Addr) (vl vc : Nat) : Prop := ∀ u : World, Below y.heap.size y u → u.cell? ⟨nb, 0, none⟩ = some (.int .i64 x.k) ∧ u.cell? ⟨nb, 1, none⟩ = some (.int .i64 x.m) ∧ u.cell? ⟨nb, 2, none⟩ = some (.int .i64 x.n) ∧ u.cell? ⟨nb, 3, none⟩ = some (.string x.s) ∧ u.cell? ⟨nb, 4, none⟩ = some (.slice va vl vc) ∧ u.cell? ⟨nb, 5, none⟩ = some (.int .i64 x.line) ∧ u.cell? ⟨nb, 6, none⟩ = some (.int .i64 x.col)
def RCells (y : World) (rb : Nat) (rs rw1 rlm rhm rln rhn : Int) (fa : Option Addr) (fl fc : Nat) (rmo rms : Int) : Prop := ∀ u : World, Below y.heap.size y u → u.cell? ⟨rb, 0, none⟩ = some (.int .i64 rs) ∧ u.cell? ⟨rb, 1, none⟩ = some (.int .i64 rw1) ∧ u.cell? ⟨rb, 2, none⟩ = some (.int .i64 rlm) ∧ u.cell? ⟨rb, 3, none⟩ = some (.int .i64 rhm) ∧ u.cell? ⟨rb, 4, none⟩ = some (.int .i64 rln) ∧ u.cell? ⟨rb, 5, none⟩ = some (.int .i64 rhn) ∧ u.cell? ⟨rb, 6, none⟩ = some (.slice fa fl fc) ∧ u.cell? ⟨rb, 7, none⟩ = some (.int .i64 rmo) ∧ u.cell? ⟨rb, 8, none⟩ = some (.int .i64 rms)
noncomputable def passC (n : Nat) : Code := ((Tryz.f19.body.bind (codeAt n)).getD .skip)
end Go.Proofs.YteadglnenaiaaaaGreatDoor.W
namespace Go.Proofs.YteadglnenaiaaaaGreatDoor.W
open Go.RowKit Go.Maps Go.WideMaps
set_option maxRecDepth 100000 in
set_option maxHeartbeats 8000000 in
theorem p2_w1 {y : World} {gc nb rb : Nat} {x : Pl.Nd} {va : Option Addr} {vl vc : Nat} {rs rw1 rlm rhm rln rhn rmo rms : Int} {fa : Option Addr} {fl fc : Nat} (hcn : (NCells y nb x va vl vc)) (hcr : (RCells y rb rs rw1 rlm rhm rln rhn fa fl fc rmo rms)) (hE1 : decide (rlm ≤ x.m ∧ x.m ≤ rhm) = false) (c1 c2 c6 c7 c8 c9 c10 c11 c12 c13 c14 c15 c16 c17 c18 c19 c20 c21 c22 c23 c24 c25 c26 c27 c28 c29 c30 c31 c32 c33 c34 c35 c36 c37 c38 c39 c40 c41 c42 c43 c44 c45 c46 c47 c48 c49 c50 c51 c52 c53 c54 c55 c56 c57 c58 c59 c60 c61 c62 c63 c64 c65 c66 c67 c68 c69 c70 c71 c72 c73 c74 c75 c76 c77 c78 c79 c80 c81 c82 : Value) (K : Act → World → Prop) (Q : Exit → Act → World → Prop)
    (hR : ∀ (tmps : Array Value) (y' : World), tmps.getD 4 undef = .bool false → Below y.heap.size y y' → Q .ret { tmps := tmps, defers := [] } y') :
    (passC 2).wp Tryz.prog (Exit.then K Q) { tmps := #[.pointer (some ⟨gc, 0, none⟩), c1, c2, .pointer (some ⟨nb, 0, none⟩), .bool false, .pointer (some ⟨rb, 0, none⟩), c6, c7, c8, c9, c10, c11, c12, c13, c14, c15, c16, c17, c18, c19, c20, c21, c22, c23, c24, c25, c26, c27, c28, c29, c30, c31, c32, c33, c34, c35, c36, c37, c38, c39, c40, c41, c42, c43, c44, c45, c46, c47, c48, c49, c50, c51, c52, c53, c54, c55, c56, c57, c58, c59, c60, c61, c62, c63, c64, c65, c66, c67, c68, c69, c70, c71, c72, c73, c74, c75, c76, c77, c78, c79, c80, c81, c82], defers := [] } y := by
  have HRt : Hid _ := hR
  have HCN : Hid _ := hcn
  have HCR : Hid _ := hcr
  have E1 : Hid _ := hE1
  have HWI : Hid (∀ (n a b : Int) (u : World), Calls Tryz.prog 31 #[.int .i64 n, .int .i64 a, .int .i64 b] u fun e w' => e = .returned (.bool (decide (a ≤ n ∧ n ≤ b))) ∧ w' = u) := fun n a b u => isWithin_is n a b u
  clear hR hE1 hcn hcr
  conv => arg 2; whnf
  obtain ⟨cn0, cn1, cn2, cn3, cn4, cn5, cn6⟩ := HCN.out y (Below.refl _ _)
  obtain ⟨cr0, cr1, cr2, cr3, cr4, cr5, cr6, cr7, cr8⟩ := HCR.out y (Below.refl _ _)
  go_wp2_with (first | (go_at_call 31; refine (HWI.out _ _ _ _).mono ?_; rintro e z1 ⟨rfl, g1⟩; rw [g1]; clear g1 z1; (first | rw [E1.out])))
  exact HRt.out _ _ rfl (Below.refl _ _)
end Go.Proofs.YteadglnenaiaaaaGreatDoor.W
namespace Go.Proofs.YteadglnenaiaaaaGreatDoor.W
open Go.RowKit Go.Maps Go.WideMaps
set_option maxRecDepth 100000 in
set_option maxHeartbeats 8000000 in
theorem p2_w2 {y : World} {gc nb rb : Nat} {x : Pl.Nd} {va : Option Addr} {vl vc : Nat} {rs rw1 rlm rhm rln rhn rmo rms : Int} {fa : Option Addr} {fl fc : Nat} (hcn : (NCells y nb x va vl vc)) (hcr : (RCells y rb rs rw1 rlm rhm rln rhn fa fl fc rmo rms)) (hE1 : decide (rlm ≤ x.m ∧ x.m ≤ rhm) = true) (hE2 : decide (rln ≤ x.n ∧ x.n ≤ rhn) = false) (c1 c2 c6 c7 c8 c9 c10 c11 c12 c13 c14 c15 c16 c17 c18 c19 c20 c21 c22 c23 c24 c25 c26 c27 c28 c29 c30 c31 c32 c33 c34 c35 c36 c37 c38 c39 c40 c41 c42 c43 c44 c45 c46 c47 c48 c49 c50 c51 c52 c53 c54 c55 c56 c57 c58 c59 c60 c61 c62 c63 c64 c65 c66 c67 c68 c69 c70 c71 c72 c73 c74 c75 c76 c77 c78 c79 c80 c81 c82 : Value) (K : Act → World → Prop) (Q : Exit → Act → World → Prop)
    (hR : ∀ (tmps : Array Value) (y' : World), tmps.getD 4 undef = .bool false → Below y.heap.size y y' → Q .ret { tmps := tmps, defers := [] } y') :
    (passC 2).wp Tryz.prog (Exit.then K Q) { tmps := #[.pointer (some ⟨gc, 0, none⟩), c1, c2, .pointer (some ⟨nb, 0, none⟩), .bool false, .pointer (some ⟨rb, 0, none⟩), c6, c7, c8, c9, c10, c11, c12, c13, c14, c15, c16, c17, c18, c19, c20, c21, c22, c23, c24, c25, c26, c27, c28, c29, c30, c31, c32, c33, c34, c35, c36, c37, c38, c39, c40, c41, c42, c43, c44, c45, c46, c47, c48, c49, c50, c51, c52, c53, c54, c55, c56, c57, c58, c59, c60, c61, c62, c63, c64, c65, c66, c67, c68, c69, c70, c71, c72, c73, c74, c75, c76, c77, c78, c79, c80, c81, c82], defers := [] } y := by
  have HRt : Hid _ := hR
  have HCN : Hid _ := hcn
  have HCR : Hid _ := hcr
  have E1 : Hid _ := hE1
  have E2 : Hid _ := hE2
  have HWI : Hid (∀ (n a b : Int) (u : World), Calls Tryz.prog 31 #[.int .i64 n, .int .i64 a, .int .i64 b] u fun e w' => e = .returned (.bool (decide (a ≤ n ∧ n ≤ b))) ∧ w' = u) := fun n a b u => isWithin_is n a b u
  clear hR hE1 hE2 hcn hcr
  conv => arg 2; whnf
  obtain ⟨cn0, cn1, cn2, cn3, cn4, cn5, cn6⟩ := HCN.out y (Below.refl _ _)
  obtain ⟨cr0, cr1, cr2, cr3, cr4, cr5, cr6, cr7, cr8⟩ := HCR.out y (Below.refl _ _)
  go_wp2_with (first | (go_at_call 31; refine (HWI.out _ _ _ _).mono ?_; rintro e z1 ⟨rfl, g1⟩; rw [g1]; clear g1 z1; (first | rw [E1.out] | rw [E2.out])))
  exact HRt.out _ _ rfl (Below.refl _ _)
end Go.Proofs.YteadglnenaiaaaaGreatDoor.W
namespace Go.Proofs.YteadglnenaiaaaaGreatDoor.W
open Go.RowKit Go.Maps Go.WideMaps
set_option maxRecDepth 100000 in
set_option maxHeartbeats 8000000 in
theorem p2_w3 {y : World} {gc nb rb : Nat} {x : Pl.Nd} {va : Option Addr} {vl vc : Nat} {rs rw1 rlm rhm rln rhn rmo rms : Int} {fa : Option Addr} {fl fc : Nat} (hcn : (NCells y nb x va vl vc)) (hcr : (RCells y rb rs rw1 rlm rhm rln rhn fa fl fc rmo rms)) (hE1 : decide (rlm ≤ x.m ∧ x.m ≤ rhm) = true) (hE2 : decide (rln ≤ x.n ∧ x.n ≤ rhn) = true) (hE3 : decide (0 ≤ x.line ∧ x.line ≤ 1000000) = false) (c1 c2 c6 c7 c8 c9 c10 c11 c12 c13 c14 c15 c16 c17 c18 c19 c20 c21 c22 c23 c24 c25 c26 c27 c28 c29 c30 c31 c32 c33 c34 c35 c36 c37 c38 c39 c40 c41 c42 c43 c44 c45 c46 c47 c48 c49 c50 c51 c52 c53 c54 c55 c56 c57 c58 c59 c60 c61 c62 c63 c64 c65 c66 c67 c68 c69 c70 c71 c72 c73 c74 c75 c76 c77 c78 c79 c80 c81 c82 : Value) (K : Act → World → Prop) (Q : Exit → Act → World → Prop)
    (hR : ∀ (tmps : Array Value) (y' : World), tmps.getD 4 undef = .bool false → Below y.heap.size y y' → Q .ret { tmps := tmps, defers := [] } y') :
    (passC 2).wp Tryz.prog (Exit.then K Q) { tmps := #[.pointer (some ⟨gc, 0, none⟩), c1, c2, .pointer (some ⟨nb, 0, none⟩), .bool false, .pointer (some ⟨rb, 0, none⟩), c6, c7, c8, c9, c10, c11, c12, c13, c14, c15, c16, c17, c18, c19, c20, c21, c22, c23, c24, c25, c26, c27, c28, c29, c30, c31, c32, c33, c34, c35, c36, c37, c38, c39, c40, c41, c42, c43, c44, c45, c46, c47, c48, c49, c50, c51, c52, c53, c54, c55, c56, c57, c58, c59, c60, c61, c62, c63, c64, c65, c66, c67, c68, c69, c70, c71, c72, c73, c74, c75, c76, c77, c78, c79, c80, c81, c82], defers := [] } y := by
  have HRt : Hid _ := hR
  have HCN : Hid _ := hcn
  have HCR : Hid _ := hcr
  have E1 : Hid _ := hE1
  have E2 : Hid _ := hE2
  have E3 : Hid _ := hE3
  have HWI : Hid (∀ (n a b : Int) (u : World), Calls Tryz.prog 31 #[.int .i64 n, .int .i64 a, .int .i64 b] u fun e w' => e = .returned (.bool (decide (a ≤ n ∧ n ≤ b))) ∧ w' = u) := fun n a b u => isWithin_is n a b u
  clear hR hE1 hE2 hE3 hcn hcr
  conv => arg 2; whnf
  obtain ⟨cn0, cn1, cn2, cn3, cn4, cn5, cn6⟩ := HCN.out y (Below.refl _ _)
  obtain ⟨cr0, cr1, cr2, cr3, cr4, cr5, cr6, cr7, cr8⟩ := HCR.out y (Below.refl _ _)
  go_wp2_with (first | (go_at_call 31; refine (HWI.out _ _ _ _).mono ?_; rintro e z1 ⟨rfl, g1⟩; rw [g1]; clear g1 z1; (first | rw [E1.out] | rw [E2.out] | rw [E3.out])))
  exact HRt.out _ _ rfl (Below.refl _ _)
end Go.Proofs.YteadglnenaiaaaaGreatDoor.W
namespace Go.Proofs.YteadglnenaiaaaaGreatDoor.W
open Go.RowKit Go.Maps Go.WideMaps
set_option maxRecDepth 100000 in
set_option maxHeartbeats 8000000 in
theorem p2_w4 {y : World} {gc nb rb : Nat} {x : Pl.Nd} {va : Option Addr} {vl vc : Nat} {rs rw1 rlm rhm rln rhn rmo rms : Int} {fa : Option Addr} {fl fc : Nat} (hcn : (NCells y nb x va vl vc)) (hcr : (RCells y rb rs rw1 rlm rhm rln rhn fa fl fc rmo rms)) (hE1 : decide (rlm ≤ x.m ∧ x.m ≤ rhm) = true) (hE2 : decide (rln ≤ x.n ∧ x.n ≤ rhn) = true) (hE3 : decide (0 ≤ x.line ∧ x.line ≤ 1000000) = true) (hE4 : decide (0 ≤ x.col ∧ x.col ≤ 1000000) = false) (c1 c2 c6 c7 c8 c9 c10 c11 c12 c13 c14 c15 c16 c17 c18 c19 c20 c21 c22 c23 c24 c25 c26 c27 c28 c29 c30 c31 c32 c33 c34 c35 c36 c37 c38 c39 c40 c41 c42 c43 c44 c45 c46 c47 c48 c49 c50 c51 c52 c53 c54 c55 c56 c57 c58 c59 c60 c61 c62 c63 c64 c65 c66 c67 c68 c69 c70 c71 c72 c73 c74 c75 c76 c77 c78 c79 c80 c81 c82 : Value) (K : Act → World → Prop) (Q : Exit → Act → World → Prop)
    (hR : ∀ (tmps : Array Value) (y' : World), tmps.getD 4 undef = .bool false → Below y.heap.size y y' → Q .ret { tmps := tmps, defers := [] } y') :
    (passC 2).wp Tryz.prog (Exit.then K Q) { tmps := #[.pointer (some ⟨gc, 0, none⟩), c1, c2, .pointer (some ⟨nb, 0, none⟩), .bool false, .pointer (some ⟨rb, 0, none⟩), c6, c7, c8, c9, c10, c11, c12, c13, c14, c15, c16, c17, c18, c19, c20, c21, c22, c23, c24, c25, c26, c27, c28, c29, c30, c31, c32, c33, c34, c35, c36, c37, c38, c39, c40, c41, c42, c43, c44, c45, c46, c47, c48, c49, c50, c51, c52, c53, c54, c55, c56, c57, c58, c59, c60, c61, c62, c63, c64, c65, c66, c67, c68, c69, c70, c71, c72, c73, c74, c75, c76, c77, c78, c79, c80, c81, c82], defers := [] } y := by
  have HRt : Hid _ := hR
  have HCN : Hid _ := hcn
  have HCR : Hid _ := hcr
  have E1 : Hid _ := hE1
  have E2 : Hid _ := hE2
  have E3 : Hid _ := hE3
  have E4 : Hid _ := hE4
  have HWI : Hid (∀ (n a b : Int) (u : World), Calls Tryz.prog 31 #[.int .i64 n, .int .i64 a, .int .i64 b] u fun e w' => e = .returned (.bool (decide (a ≤ n ∧ n ≤ b))) ∧ w' = u) := fun n a b u => isWithin_is n a b u
  clear hR hE1 hE2 hE3 hE4 hcn hcr
  conv => arg 2; whnf
  obtain ⟨cn0, cn1, cn2, cn3, cn4, cn5, cn6⟩ := HCN.out y (Below.refl _ _)
  obtain ⟨cr0, cr1, cr2, cr3, cr4, cr5, cr6, cr7, cr8⟩ := HCR.out y (Below.refl _ _)
  go_wp2_with (first | (go_at_call 31; refine (HWI.out _ _ _ _).mono ?_; rintro e z1 ⟨rfl, g1⟩; rw [g1]; clear g1 z1; (first | rw [E1.out] | rw [E2.out] | rw [E3.out] | rw [E4.out])))
  exact HRt.out _ _ rfl (Below.refl _ _)
end Go.Proofs.YteadglnenaiaaaaGreatDoor.W
namespace Go.Proofs.YteadglnenaiaaaaGreatDoor.W
open Go.RowKit Go.Maps Go.WideMaps
set_option maxRecDepth 100000 in
set_option maxHeartbeats 8000000 in
theorem p2_w5 {y : World} {gc nb rb : Nat} {x : Pl.Nd} {va : Option Addr} {vl vc : Nat} {rs rw1 rlm rhm rln rhn rmo rms : Int} {fa : Option Addr} {fl fc : Nat} (hcn : (NCells y nb x va vl vc)) (hcr : (RCells y rb rs rw1 rlm rhm rln rhn fa fl fc rmo rms)) (hE1 : decide (rlm ≤ x.m ∧ x.m ≤ rhm) = true) (hE2 : decide (rln ≤ x.n ∧ x.n ≤ rhn) = true) (hE3 : decide (0 ≤ x.line ∧ x.line ≤ 1000000) = true) (hE4 : decide (0 ≤ x.col ∧ x.col ≤ 1000000) = true) (hHWO : ∀ u : World, Below y.heap.size y u → Calls Tryz.prog 32 #[.pointer (some ⟨gc, 0, none⟩), .agg #[.int .i64 x.k, .int .i64 x.m, .int .i64 x.n, .string x.s, .slice va vl vc, .int .i64 x.line, .int .i64 x.col], .int .i64 rw1] u fun e w' => e = .returned (.bool false) ∧ Below u.heap.size u w') (c1 c2 c6 c7 c8 c9 c10 c11 c12 c13 c14 c15 c16 c17 c18 c19 c20 c21 c22 c23 c24 c25 c26 c27 c28 c29 c30 c31 c32 c33 c34 c35 c36 c37 c38 c39 c40 c41 c42 c43 c44 c45 c46 c47 c48 c49 c50 c51 c52 c53 c54 c55 c56 c57 c58 c59 c60 c61 c62 c63 c64 c65 c66 c67 c68 c69 c70 c71 c72 c73 c74 c75 c76 c77 c78 c79 c80 c81 c82 : Value) (K : Act → World → Prop) (Q : Exit → Act → World → Prop)
    (hR : ∀ (tmps : Array Value) (y' : World), tmps.getD 4 undef = .bool false → Below y.heap.size y y' → Q .ret { tmps := tmps, defers := [] } y') :
    (passC 2).wp Tryz.prog (Exit.then K Q) { tmps := #[.pointer (some ⟨gc, 0, none⟩), c1, c2, .pointer (some ⟨nb, 0, none⟩), .bool false, .pointer (some ⟨rb, 0, none⟩), c6, c7, c8, c9, c10, c11, c12, c13, c14, c15, c16, c17, c18, c19, c20, c21, c22, c23, c24, c25, c26, c27, c28, c29, c30, c31, c32, c33, c34, c35, c36, c37, c38, c39, c40, c41, c42, c43, c44, c45, c46, c47, c48, c49, c50, c51, c52, c53, c54, c55, c56, c57, c58, c59, c60, c61, c62, c63, c64, c65, c66, c67, c68, c69, c70, c71, c72, c73, c74, c75, c76, c77, c78, c79, c80, c81, c82], defers := [] } y := by
  have HRt : Hid _ := hR
  have HCN : Hid _ := hcn
  have HCR : Hid _ := hcr
  have E1 : Hid _ := hE1
  have E2 : Hid _ := hE2
  have E3 : Hid _ := hE3
  have E4 : Hid _ := hE4
  have HWO : Hid _ := hHWO
  have HWI : Hid (∀ (n a b : Int) (u : World), Calls Tryz.prog 31 #[.int .i64 n, .int .i64 a, .int .i64 b] u fun e w' => e = .returned (.bool (decide (a ≤ n ∧ n ≤ b))) ∧ w' = u) := fun n a b u => isWithin_is n a b u
  clear hR hE1 hE2 hE3 hE4 hHWO hcn hcr
  conv => arg 2; whnf
  obtain ⟨cn0, cn1, cn2, cn3, cn4, cn5, cn6⟩ := HCN.out y (Below.refl _ _)
  obtain ⟨cr0, cr1, cr2, cr3, cr4, cr5, cr6, cr7, cr8⟩ := HCR.out y (Below.refl _ _)
  go_wp2_with (first | (go_at_call 32; refine (HWO.out _ (Below.refl _ _)).mono ?_; rintro e z5 ⟨rfl, d5⟩; have D5 : Hid (Below y.heap.size y z5) := d5; clear d5; obtain ⟨cn0, cn1, cn2, cn3, cn4, cn5, cn6⟩ := HCN.out _ D5.out; obtain ⟨cr0, cr1, cr2, cr3, cr4, cr5, cr6, cr7, cr8⟩ := HCR.out _ D5.out) | (go_at_call 31; refine (HWI.out _ _ _ _).mono ?_; rintro e z1 ⟨rfl, g1⟩; rw [g1]; clear g1 z1; (first | rw [E1.out] | rw [E2.out] | rw [E3.out] | rw [E4.out])))
  exact HRt.out _ _ rfl D5.out
end Go.Proofs.YteadglnenaiaaaaGreatDoor.W
namespace Go.Proofs.YteadglnenaiaaaaGreatDoor.W
open Go.RowKit Go.Maps Go.WideMaps
set_option maxRecDepth 100000 in
set_option maxHeartbeats 8000000 in
theorem p2_w6 {y : World} {gc nb rb : Nat} {x : Pl.Nd} {va : Option Addr} {vl vc : Nat} {rs rw1 rlm rhm rln rhn rmo rms : Int} {fa : Option Addr} {fl fc : Nat} (hcn : (NCells y nb x va vl vc)) (hcr : (RCells y rb rs rw1 rlm rhm rln rhn fa fl fc rmo rms)) (hE1 : decide (rlm ≤ x.m ∧ x.m ≤ rhm) = true) (hE2 : decide (rln ≤ x.n ∧ x.n ≤ rhn) = true) (hE3 : decide (0 ≤ x.line ∧ x.line ≤ 1000000) = true) (hE4 : decide (0 ≤ x.col ∧ x.col ≤ 1000000) = true) (hHWO : ∀ u : World, Below y.heap.size y u → Calls Tryz.prog 32 #[.pointer (some ⟨gc, 0, none⟩), .agg #[.int .i64 x.k, .int .i64 x.m, .int .i64 x.n, .string x.s, .slice va vl vc, .int .i64 x.line, .int .i64 x.col], .int .i64 rw1] u fun e w' => e = .returned (.bool true) ∧ Below u.heap.size u w') (hHKO : ∀ u : World, Below y.heap.size y u → Calls Tryz.prog 33 #[.pointer (some ⟨gc, 0, none⟩), .slice va vl vc, .agg #[.int .i64 rs, .int .i64 rw1, .int .i64 rlm, .int .i64 rhm, .int .i64 rln, .int .i64 rhn, .slice fa fl fc, .int .i64 rmo, .int .i64 rms]] u fun e w' => e = .returned (.bool false) ∧ Below u.heap.size u w') (c1 c2 c6 c7 c8 c9 c10 c11 c12 c13 c14 c15 c16 c17 c18 c19 c20 c21 c22 c23 c24 c25 c26 c27 c28 c29 c30 c31 c32 c33 c34 c35 c36 c37 c38 c39 c40 c41 c42 c43 c44 c45 c46 c47 c48 c49 c50 c51 c52 c53 c54 c55 c56 c57 c58 c59 c60 c61 c62 c63 c64 c65 c66 c67 c68 c69 c70 c71 c72 c73 c74 c75 c76 c77 c78 c79 c80 c81 c82 : Value) (K : Act → World → Prop) (Q : Exit → Act → World → Prop)
    (hR : ∀ (tmps : Array Value) (y' : World), tmps.getD 4 undef = .bool false → Below y.heap.size y y' → Q .ret { tmps := tmps, defers := [] } y') :
    (passC 2).wp Tryz.prog (Exit.then K Q) { tmps := #[.pointer (some ⟨gc, 0, none⟩), c1, c2, .pointer (some ⟨nb, 0, none⟩), .bool false, .pointer (some ⟨rb, 0, none⟩), c6, c7, c8, c9, c10, c11, c12, c13, c14, c15, c16, c17, c18, c19, c20, c21, c22, c23, c24, c25, c26, c27, c28, c29, c30, c31, c32, c33, c34, c35, c36, c37, c38, c39, c40, c41, c42, c43, c44, c45, c46, c47, c48, c49, c50, c51, c52, c53, c54, c55, c56, c57, c58, c59, c60, c61, c62, c63, c64, c65, c66, c67, c68, c69, c70, c71, c72, c73, c74, c75, c76, c77, c78, c79, c80, c81, c82], defers := [] } y := by
  have HRt : Hid _ := hR
  have HCN : Hid _ := hcn
  have HCR : Hid _ := hcr
  have E1 : Hid _ := hE1
  have E2 : Hid _ := hE2
  have E3 : Hid _ := hE3
  have E4 : Hid _ := hE4
  have HWO : Hid _ := hHWO
  have HKO : Hid _ := hHKO
  have HWI : Hid (∀ (n a b : Int) (u : World), Calls Tryz.prog 31 #[.int .i64 n, .int .i64 a, .int .i64 b] u fun e w' => e = .returned (.bool (decide (a ≤ n ∧ n ≤ b))) ∧ w' = u) := fun n a b u => isWithin_is n a b u
  clear hR hE1 hE2 hE3 hE4 hHWO hHKO hcn hcr
  conv => arg 2; whnf
  obtain ⟨cn0, cn1, cn2, cn3, cn4, cn5, cn6⟩ := HCN.out y (Below.refl _ _)
  obtain ⟨cr0, cr1, cr2, cr3, cr4, cr5, cr6, cr7, cr8⟩ := HCR.out y (Below.refl _ _)
  go_wp2_with (first | (go_at_call 33; refine (HKO.out _ D5.out).mono ?_; rintro e z6 ⟨rfl, d6⟩; have D6 : Hid (Below y.heap.size y z6) := D5.out.trans (d6.mono D5.out.size); clear d6; obtain ⟨cn0, cn1, cn2, cn3, cn4, cn5, cn6⟩ := HCN.out _ D6.out) | (go_at_call 32; refine (HWO.out _ (Below.refl _ _)).mono ?_; rintro e z5 ⟨rfl, d5⟩; have D5 : Hid (Below y.heap.size y z5) := d5; clear d5; obtain ⟨cn0, cn1, cn2, cn3, cn4, cn5, cn6⟩ := HCN.out _ D5.out; obtain ⟨cr0, cr1, cr2, cr3, cr4, cr5, cr6, cr7, cr8⟩ := HCR.out _ D5.out) | (go_at_call 31; refine (HWI.out _ _ _ _).mono ?_; rintro e z1 ⟨rfl, g1⟩; rw [g1]; clear g1 z1; (first | rw [E1.out] | rw [E2.out] | rw [E3.out] | rw [E4.out])))
  exact HRt.out _ _ rfl D6.out
end Go.Proofs.YteadglnenaiaaaaGreatDoor.W
namespace Go.Proofs.YteadglnenaiaaaaGreatDoor.W
open Go.RowKit Go.Maps Go.WideMaps
set_option maxRecDepth 100000 in
set_option maxHeartbeats 8000000 in
theorem p2_w7 {y : World} {gc nb rb : Nat} {x : Pl.Nd} {va : Option Addr} {vl vc : Nat} {rs rw1 rlm rhm rln rhn rmo rms : Int} {fa : Option Addr} {fl fc : Nat} (hcn : (NCells y nb x va vl vc)) (hcr : (RCells y rb rs rw1 rlm rhm rln rhn fa fl fc rmo rms)) (hE1 : decide (rlm ≤ x.m ∧ x.m ≤ rhm) = true) (hE2 : decide (rln ≤ x.n ∧ x.n ≤ rhn) = true) (hE3 : decide (0 ≤ x.line ∧ x.line ≤ 1000000) = true) (hE4 : decide (0 ≤ x.col ∧ x.col ≤ 1000000) = true) (hHWO : ∀ u : World, Below y.heap.size y u → Calls Tryz.prog 32 #[.pointer (some ⟨gc, 0, none⟩), .agg #[.int .i64 x.k, .int .i64 x.m, .int .i64 x.n, .string x.s, .slice va vl vc, .int .i64 x.line, .int .i64 x.col], .int .i64 rw1] u fun e w' => e = .returned (.bool true) ∧ Below u.heap.size u w') (hHKO : ∀ u : World, Below y.heap.size y u → Calls Tryz.prog 33 #[.pointer (some ⟨gc, 0, none⟩), .slice va vl vc, .agg #[.int .i64 rs, .int .i64 rw1, .int .i64 rlm, .int .i64 rhm, .int .i64 rln, .int .i64 rhn, .slice fa fl fc, .int .i64 rmo, .int .i64 rms]] u fun e w' => e = .returned (.bool true) ∧ Below u.heap.size u w') (hHMI : ∀ u : World, Below y.heap.size y u → Calls Tryz.prog 34 #[.pointer (some ⟨gc, 0, none⟩), .agg #[.int .i64 x.k, .int .i64 x.m, .int .i64 x.n, .string x.s, .slice va vl vc, .int .i64 x.line, .int .i64 x.col]] u fun e w' => e = .returned (.bool false) ∧ Below u.heap.size u w') (c1 c2 c6 c7 c8 c9 c10 c11 c12 c13 c14 c15 c16 c17 c18 c19 c20 c21 c22 c23 c24 c25 c26 c27 c28 c29 c30 c31 c32 c33 c34 c35 c36 c37 c38 c39 c40 c41 c42 c43 c44 c45 c46 c47 c48 c49 c50 c51 c52 c53 c54 c55 c56 c57 c58 c59 c60 c61 c62 c63 c64 c65 c66 c67 c68 c69 c70 c71 c72 c73 c74 c75 c76 c77 c78 c79 c80 c81 c82 : Value) (K : Act → World → Prop) (Q : Exit → Act → World → Prop)
    (hR : ∀ (tmps : Array Value) (y' : World), tmps.getD 4 undef = .bool false → Below y.heap.size y y' → Q .ret { tmps := tmps, defers := [] } y') :
    (passC 2).wp Tryz.prog (Exit.then K Q) { tmps := #[.pointer (some ⟨gc, 0, none⟩), c1, c2, .pointer (some ⟨nb, 0, none⟩), .bool false, .pointer (some ⟨rb, 0, none⟩), c6, c7, c8, c9, c10, c11, c12, c13, c14, c15, c16, c17, c18, c19, c20, c21, c22, c23, c24, c25, c26, c27, c28, c29, c30, c31, c32, c33, c34, c35, c36, c37, c38, c39, c40, c41, c42, c43, c44, c45, c46, c47, c48, c49, c50, c51, c52, c53, c54, c55, c56, c57, c58, c59, c60, c61, c62, c63, c64, c65, c66, c67, c68, c69, c70, c71, c72, c73, c74, c75, c76, c77, c78, c79, c80, c81, c82], defers := [] } y := by
  have HRt : Hid _ := hR
  have HCN : Hid _ := hcn
  have HCR : Hid _ := hcr
  have E1 : Hid _ := hE1
  have E2 : Hid _ := hE2
  have E3 : Hid _ := hE3
  have E4 : Hid _ := hE4
  have HWO : Hid _ := hHWO
  have HKO : Hid _ := hHKO
  have HMI : Hid _ := hHMI
  have HWI : Hid (∀ (n a b : Int) (u : World), Calls Tryz.prog 31 #[.int .i64 n, .int .i64 a, .int .i64 b] u fun e w' => e = .returned (.bool (decide (a ≤ n ∧ n ≤ b))) ∧ w' = u) := fun n a b u => isWithin_is n a b u
  clear hR hE1 hE2 hE3 hE4 hHWO hHKO hHMI hcn hcr
  conv => arg 2; whnf
  obtain ⟨cn0, cn1, cn2, cn3, cn4, cn5, cn6⟩ := HCN.out y (Below.refl _ _)
  obtain ⟨cr0, cr1, cr2, cr3, cr4, cr5, cr6, cr7, cr8⟩ := HCR.out y (Below.refl _ _)
  go_wp2_with (first | (go_at_call 34; refine (HMI.out _ D6.out).mono ?_; rintro e z7 ⟨rfl, d7⟩; have D7 : Hid (Below y.heap.size y z7) := D6.out.trans (d7.mono D6.out.size); clear d7) | (go_at_call 33; refine (HKO.out _ D5.out).mono ?_; rintro e z6 ⟨rfl, d6⟩; have D6 : Hid (Below y.heap.size y z6) := D5.out.trans (d6.mono D5.out.size); clear d6; obtain ⟨cn0, cn1, cn2, cn3, cn4, cn5, cn6⟩ := HCN.out _ D6.out) | (go_at_call 32; refine (HWO.out _ (Below.refl _ _)).mono ?_; rintro e z5 ⟨rfl, d5⟩; have D5 : Hid (Below y.heap.size y z5) := d5; clear d5; obtain ⟨cn0, cn1, cn2, cn3, cn4, cn5, cn6⟩ := HCN.out _ D5.out; obtain ⟨cr0, cr1, cr2, cr3, cr4, cr5, cr6, cr7, cr8⟩ := HCR.out _ D5.out) | (go_at_call 31; refine (HWI.out _ _ _ _).mono ?_; rintro e z1 ⟨rfl, g1⟩; rw [g1]; clear g1 z1; (first | rw [E1.out] | rw [E2.out] | rw [E3.out] | rw [E4.out])))
  exact HRt.out _ _ rfl D7.out
end Go.Proofs.YteadglnenaiaaaaGreatDoor.W
namespace Go.Proofs.YteadglnenaiaaaaGreatDoor.W
open Go.RowKit Go.Maps Go.WideMaps
set_option maxRecDepth 100000 in
set_option maxHeartbeats 8000000 in
theorem p2_w8 {y : World} {gc nb rb : Nat} {x : Pl.Nd} {va : Option Addr} {vl vc : Nat} {rs rw1 rlm rhm rln rhn rmo rms : Int} {fa : Option Addr} {fl fc : Nat} (hcn : (NCells y nb x va vl vc)) (hcr : (RCells y rb rs rw1 rlm rhm rln rhn fa fl fc rmo rms)) (hE1 : decide (rlm ≤ x.m ∧ x.m ≤ rhm) = true) (hE2 : decide (rln ≤ x.n ∧ x.n ≤ rhn) = true) (hE3 : decide (0 ≤ x.line ∧ x.line ≤ 1000000) = true) (hE4 : decide (0 ≤ x.col ∧ x.col ≤ 1000000) = true) (hHWO : ∀ u : World, Below y.heap.size y u → Calls Tryz.prog 32 #[.pointer (some ⟨gc, 0, none⟩), .agg #[.int .i64 x.k, .int .i64 x.m, .int .i64 x.n, .string x.s, .slice va vl vc, .int .i64 x.line, .int .i64 x.col], .int .i64 rw1] u fun e w' => e = .returned (.bool true) ∧ Below u.heap.size u w') (hHKO : ∀ u : World, Below y.heap.size y u → Calls Tryz.prog 33 #[.pointer (some ⟨gc, 0, none⟩), .slice va vl vc, .agg #[.int .i64 rs, .int .i64 rw1, .int .i64 rlm, .int .i64 rhm, .int .i64 rln, .int .i64 rhn, .slice fa fl fc, .int .i64 rmo, .int .i64 rms]] u fun e w' => e = .returned (.bool true) ∧ Below u.heap.size u w') (hHMI : ∀ u : World, Below y.heap.size y u → Calls Tryz.prog 34 #[.pointer (some ⟨gc, 0, none⟩), .agg #[.int .i64 x.k, .int .i64 x.m, .int .i64 x.n, .string x.s, .slice va vl vc, .int .i64 x.line, .int .i64 x.col]] u fun e w' => e = .returned (.bool true) ∧ Below u.heap.size u w') (c1 c2 c6 c7 c8 c9 c10 c11 c12 c13 c14 c15 c16 c17 c18 c19 c20 c21 c22 c23 c24 c25 c26 c27 c28 c29 c30 c31 c32 c33 c34 c35 c36 c37 c38 c39 c40 c41 c42 c43 c44 c45 c46 c47 c48 c49 c50 c51 c52 c53 c54 c55 c56 c57 c58 c59 c60 c61 c62 c63 c64 c65 c66 c67 c68 c69 c70 c71 c72 c73 c74 c75 c76 c77 c78 c79 c80 c81 c82 : Value) (K : Act → World → Prop) (Q : Exit → Act → World → Prop)
    (hR : ∀ (s9 s10 s11 s12 s13 s14 s15 s16 s17 s18 s19 s20 s21 s22 s23 s24 s25 s26 s27 s28 s29 s30 s31 s32 s33 s34 s35 s36 s37 s38 s39 s40 s41 s42 s43 s44 s45 s46 s47 s48 s49 s50 s51 s52 s53 s54 s55 s56 s57 s58 s59 s60 : Value) (y' : World), Below y.heap.size y y' → K { tmps := #[.pointer (some ⟨gc, 0, none⟩), c1, c2, .pointer (some ⟨nb, 0, none⟩), .bool false, .pointer (some ⟨rb, 0, none⟩), c6, c7, c8, s9, s10, s11, s12, s13, s14, s15, s16, s17, s18, s19, s20, s21, s22, s23, s24, s25, s26, s27, s28, s29, s30, s31, s32, s33, s34, s35, s36, s37, s38, s39, s40, s41, s42, s43, s44, s45, s46, s47, s48, s49, s50, s51, s52, s53, s54, s55, s56, s57, s58, s59, s60, c61, c62, c63, c64, c65, c66, c67, c68, c69, c70, c71, c72, c73, c74, c75, c76, c77, c78, c79, c80, c81, c82], defers := [] } y') :
    (passC 2).wp Tryz.prog (Exit.then K Q) { tmps := #[.pointer (some ⟨gc, 0, none⟩), c1, c2, .pointer (some ⟨nb, 0, none⟩), .bool false, .pointer (some ⟨rb, 0, none⟩), c6, c7, c8, c9, c10, c11, c12, c13, c14, c15, c16, c17, c18, c19, c20, c21, c22, c23, c24, c25, c26, c27, c28, c29, c30, c31, c32, c33, c34, c35, c36, c37, c38, c39, c40, c41, c42, c43, c44, c45, c46, c47, c48, c49, c50, c51, c52, c53, c54, c55, c56, c57, c58, c59, c60, c61, c62, c63, c64, c65, c66, c67, c68, c69, c70, c71, c72, c73, c74, c75, c76, c77, c78, c79, c80, c81, c82], defers := [] } y := by
  have HRt : Hid _ := hR
  have HCN : Hid _ := hcn
  have HCR : Hid _ := hcr
  have E1 : Hid _ := hE1
  have E2 : Hid _ := hE2
  have E3 : Hid _ := hE3
  have E4 : Hid _ := hE4
  have HWO : Hid _ := hHWO
  have HKO : Hid _ := hHKO
  have HMI : Hid _ := hHMI
  have HWI : Hid (∀ (n a b : Int) (u : World), Calls Tryz.prog 31 #[.int .i64 n, .int .i64 a, .int .i64 b] u fun e w' => e = .returned (.bool (decide (a ≤ n ∧ n ≤ b))) ∧ w' = u) := fun n a b u => isWithin_is n a b u
  clear hR hE1 hE2 hE3 hE4 hHWO hHKO hHMI hcn hcr
  conv => arg 2; whnf
  obtain ⟨cn0, cn1, cn2, cn3, cn4, cn5, cn6⟩ := HCN.out y (Below.refl _ _)
  obtain ⟨cr0, cr1, cr2, cr3, cr4, cr5, cr6, cr7, cr8⟩ := HCR.out y (Below.refl _ _)
  go_wp2_with (first | (go_at_call 34; refine (HMI.out _ D6.out).mono ?_; rintro e z7 ⟨rfl, d7⟩; have D7 : Hid (Below y.heap.size y z7) := D6.out.trans (d7.mono D6.out.size); clear d7) | (go_at_call 33; refine (HKO.out _ D5.out).mono ?_; rintro e z6 ⟨rfl, d6⟩; have D6 : Hid (Below y.heap.size y z6) := D5.out.trans (d6.mono D5.out.size); clear d6; obtain ⟨cn0, cn1, cn2, cn3, cn4, cn5, cn6⟩ := HCN.out _ D6.out) | (go_at_call 32; refine (HWO.out _ (Below.refl _ _)).mono ?_; rintro e z5 ⟨rfl, d5⟩; have D5 : Hid (Below y.heap.size y z5) := d5; clear d5; obtain ⟨cn0, cn1, cn2, cn3, cn4, cn5, cn6⟩ := HCN.out _ D5.out; obtain ⟨cr0, cr1, cr2, cr3, cr4, cr5, cr6, cr7, cr8⟩ := HCR.out _ D5.out) | (go_at_call 31; refine (HWI.out _ _ _ _).mono ?_; rintro e z1 ⟨rfl, g1⟩; rw [g1]; clear g1 z1; (first | rw [E1.out] | rw [E2.out] | rw [E3.out] | rw [E4.out])))
  exact HRt.out _ _ _ _ _ _ _ _ _ _ _ _ _ _ _ _ _ _ _ _ _ _ _ _ _ _ _ _ _ _ _ _ _ _ _ _ _ _ _ _ _ _ _ _ _ _ _ _ _ _ _ _ _ D7.out
end Go.Proofs.YteadglnenaiaaaaGreatDoor.W
namespace Go.Proofs.YteadglnenaiaaaaGreatDoor.W
open Go.RowKit Go.Maps Go.WideMaps
set_option maxRecDepth 100000 in
set_option maxHeartbeats 8000000 in
theorem p2_is {lo : Nat} {W0 y : World} {xs : List Pl.Nd} {a : Option Addr} {len cap gc gm nm : Nat} {ob : Option Addr} {oc i nb : Nat} {va : Option Addr} {vl vc : Nat} {l : List Nat} {rb : Nat} {fa : Option Addr} {fl fc lo2 : Nat} (hp : Pl.PI xs len i l) (hc : PC lo W0 y xs a len cap gc gm nm (Pl.alF xs i) ob oc i nb va vl vc) (hr : y.heap[rb]? = some (.cells #[.int .i64 (Pl.rl (Pl.nd xs i).k).srt, .int .i64 (Pl.rl (Pl.nd xs i).k).word, .int .i64 (Pl.rl (Pl.nd xs i).k).lowM, .int .i64 (Pl.rl (Pl.nd xs i).k).highM, .int .i64 (Pl.rl (Pl.nd xs i).k).lowN, .int .i64 (Pl.rl (Pl.nd xs i).k).highN, .slice fa fl fc, .int .i64 (Pl.rl (Pl.nd xs i).k).more, .int .i64 (Pl.rl (Pl.nd xs i).k).most] 71 (0, 0))) (hrr : Row .i64 lo2 y fa fl fc (Pl.rl (Pl.nd xs i).k).kids) (c1 c2 c6 c7 c8 c9 c10 c11 c12 c13 c14 c15 c16 c17 c18 c19 c20 c21 c22 c23 c24 c25 c26 c27 c28 c29 c30 c31 c32 c33 c34 c35 c36 c37 c38 c39 c40 c41 c42 c43 c44 c45 c46 c47 c48 c49 c50 c51 c52 c53 c54 c55 c56 c57 c58 c59 c60 c61 c62 c63 c64 c65 c66 c67 c68 c69 c70 c71 c72 c73 c74 c75 c76 c77 c78 c79 c80 c81 c82 : Value) (K : Act → World → Prop) (Q : Exit → Act → World → Prop)
    (hR : ∀ (tmps : Array Value) (y' : World), tmps.getD 4 undef = .bool false → ¬ Pl.NdI xs i → Below y.heap.size y y' → Q .ret { tmps := tmps, defers := [] } y')
    (hK : ∀ (s9 s10 s11 s12 s13 s14 s15 s16 s17 s18 s19 s20 s21 s22 s23 s24 s25 s26 s27 s28 s29 s30 s31 s32 s33 s34 s35 s36 s37 s38 s39 s40 s41 s42 s43 s44 s45 s46 s47 s48 s49 s50 s51 s52 s53 s54 s55 s56 s57 s58 s59 s60 : Value) (y' : World), Below y.heap.size y y' → Pl.NdI xs i → K { tmps := #[.pointer (some ⟨gc, 0, none⟩), c1, c2, .pointer (some ⟨nb, 0, none⟩), .bool false, .pointer (some ⟨rb, 0, none⟩), c6, c7, c8, s9, s10, s11, s12, s13, s14, s15, s16, s17, s18, s19, s20, s21, s22, s23, s24, s25, s26, s27, s28, s29, s30, s31, s32, s33, s34, s35, s36, s37, s38, s39, s40, s41, s42, s43, s44, s45, s46, s47, s48, s49, s50, s51, s52, s53, s54, s55, s56, s57, s58, s59, s60, c61, c62, c63, c64, c65, c66, c67, c68, c69, c70, c71, c72, c73, c74, c75, c76, c77, c78, c79, c80, c81, c82], defers := [] } y') :
    (passC 2).wp Tryz.prog (Exit.then K Q) { tmps := #[.pointer (some ⟨gc, 0, none⟩), c1, c2, .pointer (some ⟨nb, 0, none⟩), .bool false, .pointer (some ⟨rb, 0, none⟩), c6, c7, c8, c9, c10, c11, c12, c13, c14, c15, c16, c17, c18, c19, c20, c21, c22, c23, c24, c25, c26, c27, c28, c29, c30, c31, c32, c33, c34, c35, c36, c37, c38, c39, c40, c41, c42, c43, c44, c45, c46, c47, c48, c49, c50, c51, c52, c53, c54, c55, c56, c57, c58, c59, c60, c61, c62, c63, c64, c65, c66, c67, c68, c69, c70, c71, c72, c73, c74, c75, c76, c77, c78, c79, c80, c81, c82], defers := [] } y := by
  have HP : Hid (Pl.PI xs len i l) := hp
  have HC : Hid (PC lo W0 y xs a len cap gc gm nm (Pl.alF xs i) ob oc i nb va vl vc) := hc
  obtain ⟨x, hx⟩ : ∃ x, x = Pl.nd xs i := ⟨_, rfl⟩
  have HX : Hid (x = Pl.nd xs i) := hx
  obtain ⟨r, hrl⟩ : ∃ r, r = Pl.rl (Pl.nd xs i).k := ⟨_, rfl⟩
  have HRL : Hid (r = Pl.rl (Pl.nd xs i).k) := hrl
  have HRS : Hid (Pl.RlS r) := by show Pl.RlS r; rw [hrl]; exact Pl.rl_small _
  rw [← hrl] at hr hrr
  have HCN : Hid (NCells y nb x va vl vc) := fun u hu => (hc.keep hu).cells hx
  obtain ⟨hxk, hxm, hxn, hxl, hxc⟩ := hp.wf.at (i := i) (by rw [hp.xl]; exact hp.hi)
  have hsx := hp.sl
  rw [← hx] at hxn hsx
  have HVL : Hid (x.kids.length = vl) := by show x.kids.length = vl; rw [hx]; exact hc.row.1
  obtain ⟨D, hD1, hD2⟩ := hc.chk.map
  have hgm : gm < y.heap.size := by
    obtain ⟨es, cl, q1, _⟩ := hD1
    exact (Array.getElem?_eq_some_iff.1 q1).1
  have HG : Hid (∀ u : World, Below y.heap.size y u → Below W0.heap.size W0 u) := fun u hu => hc.chk.bel.trans (hu.mono hc.chk.bel.size)
  have HWO0 : Hid (∀ u : World, Below y.heap.size y u → Calls Tryz.prog 32 #[.pointer (some ⟨gc, 0, none⟩), .agg #[.int .i64 x.k, .int .i64 x.m, .int .i64 x.n, .string x.s, .slice va vl vc, .int .i64 x.line, .int .i64 x.col], .int .i64 r.word] u fun e w' => e = .returned (.bool (Pl.wdU r.word x (Pl.alF xs i))) ∧ Below u.heap.size u w') := fun u hu =>
    wordOk_is gc gm nm D (Pl.alF xs i) x va vl vc r.word u (hc.chk.keep hu).cells.2.1 (ownsMap_keepT hD1 hu hgm) (Nat.lt_of_lt_of_le hgm hu.size) hD2 hsx hxn (hc.glo.on (HG.out u hu)) (hc.db.below (HG.out u hu)) (hc.pw.below (HG.out u hu))
  have HIN : Hid (∀ q, q < vl → ∃ c : Nat, x.kids.getD q 0 = (c : Int) ∧ c < len) := fun q hq => by
    rw [HX.out]
    obtain ⟨c, h1, h2⟩ := HP.out.kid (q := q) (by rw [← HX.out, HVL.out]; exact hq)
    exact ⟨c, h1, by have := HP.out.hi; omega⟩
  have HKO0 : Hid (∀ u : World, Below y.heap.size y u → Calls Tryz.prog 33 #[.pointer (some ⟨gc, 0, none⟩), .slice va vl vc, .agg #[.int .i64 r.srt, .int .i64 r.word, .int .i64 r.lowM, .int .i64 r.highM, .int .i64 r.lowN, .int .i64 r.highN, .slice fa fl fc, .int .i64 r.more, .int .i64 r.most]] u fun e w' => e = .returned (.bool (Pl.isP (Pl.kI r (x.kids.map fun c => (Pl.nd xs c.toNat).k)))) ∧ Below u.heap.size u w') := by
    have key := fun (u : World) (hu : Below y.heap.size y u) => kidsOk_is gc a len cap xs va vl vc x.kids r ⟨fa, fl, fc⟩ u (hc.chk.keep hu).cells.1 (hc.nrow.keep (HG.out u hu)) (by rw [hx]; exact hc.row.keep (HG.out u hu)) (hrr.keep hu) HIN.out HRS.out
    exact key
  have HMI0 : Hid (Pl.kI (Pl.rl (Pl.nd xs i).k) (Pl.kinds xs i) → ∀ u : World, Below y.heap.size y u → Calls Tryz.prog 34 #[.pointer (some ⟨gc, 0, none⟩), .agg #[.int .i64 x.k, .int .i64 x.m, .int .i64 x.n, .string x.s, .slice va vl vc, .int .i64 x.line, .int .i64 x.col]] u fun e w' => e = .returned (.bool (Pl.isP (Pl.MI xs (Pl.opF xs i) x))) ∧ Below u.heap.size u w') := fun hk u hu =>
    meansItself_is gc a len cap xs ob i oc (Pl.opF xs i) x va vl vc u (hc.chk.keep hu).cells.1 (hc.chk.keep hu).cells.2.2 (hc.nrow.keep (HG.out u hu)) (by rw [hx]; exact hc.row.keep (HG.out u hu))
      (fun k4 j2 => by rw [hx] at k4 ⊢; exact hp.par hk k4 (by rw [← HX.out, HVL.out]; exact j2))
      (fun k21 j3 => by
        obtain ⟨c, h1, h2⟩ := hp.kid (q := 1) (by rw [← HX.out, HVL.out]; omega)
        rw [← HX.out] at h1
        exact ⟨c, h1, h2, (hc.chk.keep hu).open h2⟩)
  have HR0 : Hid (y.heap[rb]? = some (.cells #[.int .i64 r.srt, .int .i64 r.word, .int .i64 r.lowM, .int .i64 r.highM, .int .i64 r.lowN, .int .i64 r.highN, .slice fa fl fc, .int .i64 r.more, .int .i64 r.most] 71 (0, 0))) := hr
  obtain ⟨B5, hB5⟩ : ∃ B5, B5 = Pl.wdU r.word x (Pl.alF xs i) := ⟨_, rfl⟩
  obtain ⟨B6, hB6⟩ : ∃ B6, B6 = Pl.isP (Pl.kI r (x.kids.map fun c => (Pl.nd xs c.toNat).k)) := ⟨_, rfl⟩
  obtain ⟨B7, hB7⟩ : ∃ B7, B7 = Pl.isP (Pl.MI xs (Pl.opF xs i) x) := ⟨_, rfl⟩
  rw [← hB5] at HWO0
  rw [← hB6] at HKO0
  rw [← hB7] at HMI0
  have HB5 : Hid (B5 = Pl.wdB (Pl.nd xs i) (Pl.alF xs i)) := by show B5 = _; rw [hB5, hrl, hx]; exact Pl.wdU_wdB _ _
  have HB6 : Hid (B6 = Pl.isP (Pl.kI (Pl.rl (Pl.nd xs i).k) (Pl.kinds xs i))) := by show B6 = _; rw [hB6, hrl, hx]; rfl
  have HB7 : Hid (B7 = Pl.isP (Pl.MI xs (Pl.opF xs i) (Pl.nd xs i))) := by show B7 = _; rw [hB7, hx]
  have HB1 : Hid (decide (r.lowM ≤ x.m ∧ x.m ≤ r.highM) = decide ((Pl.rl (Pl.nd xs i).k).lowM ≤ (Pl.nd xs i).m ∧ (Pl.nd xs i).m ≤ (Pl.rl (Pl.nd xs i).k).highM)) := by show decide _ = decide _; rw [hrl, hx]
  have HB2 : Hid (decide (r.lowN ≤ x.n ∧ x.n ≤ r.highN) = decide ((Pl.rl (Pl.nd xs i).k).lowN ≤ (Pl.nd xs i).n ∧ (Pl.nd xs i).n ≤ (Pl.rl (Pl.nd xs i).k).highN)) := by show decide _ = decide _; rw [hrl, hx]
  have HB3 : Hid (decide (0 ≤ x.line ∧ x.line ≤ 1000000) = Pl.plB (Pl.nd xs i).line) := by show decide _ = Pl.plB _; rw [hx]; rfl
  have HB4 : Hid (decide (0 ≤ x.col ∧ x.col ≤ 1000000) = Pl.plB (Pl.nd xs i).col) := by show decide _ = Pl.plB _; rw [hx]; rfl
  clear hB5 hB6 hB7 hrl hr hrr hp hc hD1 hD2 hgm hx hxk hxm hxn hxl hxc hsx HIN HRL HRS HG
  obtain ⟨rs, rw1, rlm, rhm, rln, rhn, rk, rmo, rms⟩ := r
  have HCR : Hid (RCells y rb rs rw1 rlm rhm rln rhn fa fl fc rmo rms) := fun u hu => by
    have f := fun j => cell_of_row u rb j _ 71 (0, 0) ((hu.block _ (Array.getElem?_eq_some_iff.1 HR0.out).1).trans HR0.out)
    exact ⟨f 0, f 1, f 2, f 3, f 4, f 5, f 6, f 7, f 8⟩
  have HWO : Hid (∀ u : World, Below y.heap.size y u → Calls Tryz.prog 32 #[.pointer (some ⟨gc, 0, none⟩), .agg #[.int .i64 x.k, .int .i64 x.m, .int .i64 x.n, .string x.s, .slice va vl vc, .int .i64 x.line, .int .i64 x.col], .int .i64 rw1] u fun e w' => e = .returned (.bool B5) ∧ Below u.heap.size u w') := HWO0.out
  have HKO : Hid (∀ u : World, Below y.heap.size y u → Calls Tryz.prog 33 #[.pointer (some ⟨gc, 0, none⟩), .slice va vl vc, .agg #[.int .i64 rs, .int .i64 rw1, .int .i64 rlm, .int .i64 rhm, .int .i64 rln, .int .i64 rhn, .slice fa fl fc, .int .i64 rmo, .int .i64 rms]] u fun e w' => e = .returned (.bool B6) ∧ Below u.heap.size u w') := HKO0.out
  simp only at HB1 HB2
  obtain ⟨B1, hB1⟩ : ∃ B1, B1 = decide (rlm ≤ x.m ∧ x.m ≤ rhm) := ⟨_, rfl⟩
  obtain ⟨B2, hB2⟩ : ∃ B2, B2 = decide (rln ≤ x.n ∧ x.n ≤ rhn) := ⟨_, rfl⟩
  obtain ⟨B3, hB3⟩ : ∃ B3, B3 = decide (0 ≤ x.line ∧ x.line ≤ 1000000) := ⟨_, rfl⟩
  obtain ⟨B4, hB4⟩ : ∃ B4, B4 = decide (0 ≤ x.col ∧ x.col ≤ 1000000) := ⟨_, rfl⟩
  have E1 : Hid (decide (rlm ≤ x.m ∧ x.m ≤ rhm) = B1) := hB1.symm
  have E2 : Hid (decide (rln ≤ x.n ∧ x.n ≤ rhn) = B2) := hB2.symm
  have E3 : Hid (decide (0 ≤ x.line ∧ x.line ≤ 1000000) = B3) := hB3.symm
  have E4 : Hid (decide (0 ≤ x.col ∧ x.col ≤ 1000000) = B4) := hB4.symm
  rw [← hB1] at HB1
  rw [← hB2] at HB2
  rw [← hB3] at HB3
  rw [← hB4] at HB4
  clear hB1 hB2 hB3 hB4 HWO0 HKO0 HR0
  cases B1
  · exact p2_w1 HCN.out HCR.out E1.out c1 c2 c6 c7 c8 c9 c10 c11 c12 c13 c14 c15 c16 c17 c18 c19 c20 c21 c22 c23 c24 c25 c26 c27 c28 c29 c30 c31 c32 c33 c34 c35 c36 c37 c38 c39 c40 c41 c42 c43 c44 c45 c46 c47 c48 c49 c50 c51 c52 c53 c54 c55 c56 c57 c58 c59 c60 c61 c62 c63 c64 c65 c66 c67 c68 c69 c70 c71 c72 c73 c74 c75 c76 c77 c78 c79 c80 c81 c82 K Q (fun tmps y' h1 h2 => hR tmps y' h1 (fun S => by exact absurd (HB1.out.trans (decide_eq_true S.mark)) (by decide)) h2)
  cases B2
  · exact p2_w2 HCN.out HCR.out E1.out E2.out c1 c2 c6 c7 c8 c9 c10 c11 c12 c13 c14 c15 c16 c17 c18 c19 c20 c21 c22 c23 c24 c25 c26 c27 c28 c29 c30 c31 c32 c33 c34 c35 c36 c37 c38 c39 c40 c41 c42 c43 c44 c45 c46 c47 c48 c49 c50 c51 c52 c53 c54 c55 c56 c57 c58 c59 c60 c61 c62 c63 c64 c65 c66 c67 c68 c69 c70 c71 c72 c73 c74 c75 c76 c77 c78 c79 c80 c81 c82 K Q (fun tmps y' h1 h2 => hR tmps y' h1 (fun S => by exact absurd (HB2.out.trans (decide_eq_true S.num)) (by decide)) h2)
  cases B3
  · exact p2_w3 HCN.out HCR.out E1.out E2.out E3.out c1 c2 c6 c7 c8 c9 c10 c11 c12 c13 c14 c15 c16 c17 c18 c19 c20 c21 c22 c23 c24 c25 c26 c27 c28 c29 c30 c31 c32 c33 c34 c35 c36 c37 c38 c39 c40 c41 c42 c43 c44 c45 c46 c47 c48 c49 c50 c51 c52 c53 c54 c55 c56 c57 c58 c59 c60 c61 c62 c63 c64 c65 c66 c67 c68 c69 c70 c71 c72 c73 c74 c75 c76 c77 c78 c79 c80 c81 c82 K Q (fun tmps y' h1 h2 => hR tmps y' h1 (fun S => by exact absurd (HB3.out.trans S.line) (by decide)) h2)
  cases B4
  · exact p2_w4 HCN.out HCR.out E1.out E2.out E3.out E4.out c1 c2 c6 c7 c8 c9 c10 c11 c12 c13 c14 c15 c16 c17 c18 c19 c20 c21 c22 c23 c24 c25 c26 c27 c28 c29 c30 c31 c32 c33 c34 c35 c36 c37 c38 c39 c40 c41 c42 c43 c44 c45 c46 c47 c48 c49 c50 c51 c52 c53 c54 c55 c56 c57 c58 c59 c60 c61 c62 c63 c64 c65 c66 c67 c68 c69 c70 c71 c72 c73 c74 c75 c76 c77 c78 c79 c80 c81 c82 K Q (fun tmps y' h1 h2 => hR tmps y' h1 (fun S => by exact absurd (HB4.out.trans S.col) (by decide)) h2)
  cases B5
  · exact p2_w5 HCN.out HCR.out E1.out E2.out E3.out E4.out HWO.out c1 c2 c6 c7 c8 c9 c10 c11 c12 c13 c14 c15 c16 c17 c18 c19 c20 c21 c22 c23 c24 c25 c26 c27 c28 c29 c30 c31 c32 c33 c34 c35 c36 c37 c38 c39 c40 c41 c42 c43 c44 c45 c46 c47 c48 c49 c50 c51 c52 c53 c54 c55 c56 c57 c58 c59 c60 c61 c62 c63 c64 c65 c66 c67 c68 c69 c70 c71 c72 c73 c74 c75 c76 c77 c78 c79 c80 c81 c82 K Q (fun tmps y' h1 h2 => hR tmps y' h1 (fun S => by exact absurd (HB5.out.trans S.word) (by decide)) h2)
  cases B6
  · exact p2_w6 HCN.out HCR.out E1.out E2.out E3.out E4.out HWO.out HKO.out c1 c2 c6 c7 c8 c9 c10 c11 c12 c13 c14 c15 c16 c17 c18 c19 c20 c21 c22 c23 c24 c25 c26 c27 c28 c29 c30 c31 c32 c33 c34 c35 c36 c37 c38 c39 c40 c41 c42 c43 c44 c45 c46 c47 c48 c49 c50 c51 c52 c53 c54 c55 c56 c57 c58 c59 c60 c61 c62 c63 c64 c65 c66 c67 c68 c69 c70 c71 c72 c73 c74 c75 c76 c77 c78 c79 c80 c81 c82 K Q (fun tmps y' h1 h2 => hR tmps y' h1 (fun S => by exact absurd S.kids (Pl.isP_false HB6.out.symm)) h2)
  have HKI : Hid (Pl.kI (Pl.rl (Pl.nd xs i).k) (Pl.kinds xs i)) := Pl.isP_true HB6.out.symm
  have HMI : Hid (∀ u : World, Below y.heap.size y u → Calls Tryz.prog 34 #[.pointer (some ⟨gc, 0, none⟩), .agg #[.int .i64 x.k, .int .i64 x.m, .int .i64 x.n, .string x.s, .slice va vl vc, .int .i64 x.line, .int .i64 x.col]] u fun e w' => e = .returned (.bool B7) ∧ Below u.heap.size u w') := HMI0.out HKI.out
  clear HMI0
  cases B7
  · exact p2_w7 HCN.out HCR.out E1.out E2.out E3.out E4.out HWO.out HKO.out HMI.out c1 c2 c6 c7 c8 c9 c10 c11 c12 c13 c14 c15 c16 c17 c18 c19 c20 c21 c22 c23 c24 c25 c26 c27 c28 c29 c30 c31 c32 c33 c34 c35 c36 c37 c38 c39 c40 c41 c42 c43 c44 c45 c46 c47 c48 c49 c50 c51 c52 c53 c54 c55 c56 c57 c58 c59 c60 c61 c62 c63 c64 c65 c66 c67 c68 c69 c70 c71 c72 c73 c74 c75 c76 c77 c78 c79 c80 c81 c82 K Q (fun tmps y' h1 h2 => hR tmps y' h1 (fun S => by exact Pl.isP_false HB7.out.symm ⟨S.asn, S.void, S.els⟩) h2)
  have HY : Hid (Pl.NdI xs i) := by
    have m := Pl.isP_true HB7.out.symm
    exact ⟨of_decide_eq_true HB1.out.symm, of_decide_eq_true HB2.out.symm, HB3.out.symm, HB4.out.symm, HB5.out.symm, HKI.out, m.asn, m.void, m.els⟩
  exact p2_w8 HCN.out HCR.out E1.out E2.out E3.out E4.out HWO.out HKO.out HMI.out c1 c2 c6 c7 c8 c9 c10 c11 c12 c13 c14 c15 c16 c17 c18 c19 c20 c21 c22 c23 c24 c25 c26 c27 c28 c29 c30 c31 c32 c33 c34 c35 c36 c37 c38 c39 c40 c41 c42 c43 c44 c45 c46 c47 c48 c49 c50 c51 c52 c53 c54 c55 c56 c57 c58 c59 c60 c61 c62 c63 c64 c65 c66 c67 c68 c69 c70 c71 c72 c73 c74 c75 c76 c77 c78 c79 c80 c81 c82 K Q (fun s9 s10 s11 s12 s13 s14 s15 s16 s17 s18 s19 s20 s21 s22 s23 s24 s25 s26 s27 s28 s29 s30 s31 s32 s33 s34 s35 s36 s37 s38 s39 s40 s41 s42 s43 s44 s45 s46 s47 s48 s49 s50 s51 s52 s53 s54 s55 s56 s57 s58 s59 s60 y' h2 => hK s9 s10 s11 s12 s13 s14 s15 s16 s17 s18 s19 s20 s21 s22 s23 s24 s25 s26 s27 s28 s29 s30 s31 s32 s33 s34 s35 s36 s37 s38 s39 s40 s41 s42 s43 s44 s45 s46 s47 s48 s49 s50 s51 s52 s53 s54 s55 s56 s57 s58 s59 s60 y' h2 HY.out)
end Go.Proofs.YteadglnenaiaaaaGreatDoor.W
namespace Go.Proofs.YteadglnenaiaaaaGreatDoor.W
open Go.RowKit Go.Maps Go.WideMaps
theorem PC.alias {lo : Nat} {W0 y Y2 : World} {xs : List Pl.Nd} {a : Option Addr} {len cap gc gm nm nm2 : Nat} {al al2 : List ByteArray} {ob : Option Addr} {oc i nb : Nat} {va : Option Addr} {vl vc : Nat} {D : DataW Unit} (h : PC lo W0 y xs a len cap gc gm nm al ob oc i nb va vl vc) (hgr : y.grownBy Y2 (some gm)) (hm : Y2.ownsMap Tryz.prog 9 unitElem gm nm2 D) (hK : KeysT D al2) : PC lo W0 Y2 xs a len cap gc gm nm2 al2 ob oc i nb va vl vc := by
  obtain ⟨D0, ⟨es, cl, q1, q2⟩, _⟩ := h.chk.map
  have ot : ∀ {b : Nat} {cs : Array Value} {t : TypeId} {fr : Nat × Nat}, y.heap[b]? = some (.cells cs t fr) → Y2.heap[b]? = some (.cells cs t fr) := fun {b cs t fr} hb => by
    rw [hgr.block b (Array.getElem?_eq_some_iff.1 hb).1 (by
      intro e
      simp only [Option.some.injEq] at e
      rw [e, q1] at hb
      cases hb)]
    exact hb
  refine ⟨⟨h.chk.bel.grown hgr h.chk.bel.size (fun k hk => by cases hk; exact h.chk.gmb), h.chk.gcb, h.chk.gmb, ot h.chk.blk, ⟨D, hm, hK⟩, ?_⟩, ot h.nd, h.nbb, h.row, h.nrow, h.glo, h.db, h.pw⟩
  refine ⟨h.chk.own.1, ?_⟩
  rcases h.chk.own.2 with q | ⟨g, cp, cur, h0, hlo, hg, r⟩
  · exact .inl q
  · exact .inr ⟨g, cp, cur, h0, hlo, ot hg, r⟩
theorem PC.gm_lt {lo : Nat} {W0 y : World} {xs : List Pl.Nd} {a : Option Addr} {len cap gc gm nm : Nat} {al : List ByteArray} {ob : Option Addr} {oc i nb : Nat} {va : Option Addr} {vl vc : Nat} (h : PC lo W0 y xs a len cap gc gm nm al ob oc i nb va vl vc) : gm < y.heap.size := by
  obtain ⟨D0, ⟨es, cl, q1, q2⟩, _⟩ := h.chk.map
  exact (Array.getElem?_eq_some_iff.1 q1).1
set_option maxRecDepth 100000 in
set_option maxHeartbeats 8000000 in
theorem p4_is {lo : Nat} {W0 y : World} {xs : List Pl.Nd} {a : Option Addr} {len cap gc gm nm : Nat} {ob : Option Addr} {oc i nb : Nat} {va : Option Addr} {vl vc : Nat} {l : List Nat} {rb : Nat} (hp : Pl.PI xs len i l) (hc : PC lo W0 y xs a len cap gc gm nm (Pl.alF xs i) ob oc i nb va vl vc) (hnm : nm ≤ 4000) (c1 c2 c6 c7 c8 c9 c10 c11 c12 c13 c14 c15 c16 c17 c18 c19 c20 c21 c22 c23 c24 c25 c26 c27 c28 c29 c30 c31 c32 c33 c34 c35 c36 c37 c38 c39 c40 c41 c42 c43 c44 c45 c46 c47 c48 c49 c50 c51 c52 c53 c54 c55 c56 c57 c58 c59 c60 c61 c62 c63 c64 c65 c66 c67 c68 c69 c70 c71 c72 c73 c74 c75 c76 c77 c78 c79 c80 c81 c82 : Value) (K : Act → World → Prop) (Q : Exit → Act → World → Prop)
    (hK : ∀ (s61 s62 s63 s64 s65 s66 s67 s68 s69 s70 : Value) (nm2 : Nat) (y' : World), nm2 ≤ nm + 1 → PC lo W0 y' xs a len cap gc gm nm2 (Pl.alF xs (i + 1)) ob oc i nb va vl vc → K { tmps := #[.pointer (some ⟨gc, 0, none⟩), c1, c2, .pointer (some ⟨nb, 0, none⟩), .bool false, .pointer (some ⟨rb, 0, none⟩), c6, c7, c8, c9, c10, c11, c12, c13, c14, c15, c16, c17, c18, c19, c20, c21, c22, c23, c24, c25, c26, c27, c28, c29, c30, c31, c32, c33, c34, c35, c36, c37, c38, c39, c40, c41, c42, c43, c44, c45, c46, c47, c48, c49, c50, c51, c52, c53, c54, c55, c56, c57, c58, c59, c60, s61, s62, s63, s64, s65, s66, s67, s68, s69, s70, c71, c72, c73, c74, c75, c76, c77, c78, c79, c80, c81, c82], defers := [] } y') :
    (passC 4).wp Tryz.prog (Exit.then K Q) { tmps := #[.pointer (some ⟨gc, 0, none⟩), c1, c2, .pointer (some ⟨nb, 0, none⟩), .bool false, .pointer (some ⟨rb, 0, none⟩), c6, c7, c8, c9, c10, c11, c12, c13, c14, c15, c16, c17, c18, c19, c20, c21, c22, c23, c24, c25, c26, c27, c28, c29, c30, c31, c32, c33, c34, c35, c36, c37, c38, c39, c40, c41, c42, c43, c44, c45, c46, c47, c48, c49, c50, c51, c52, c53, c54, c55, c56, c57, c58, c59, c60, c61, c62, c63, c64, c65, c66, c67, c68, c69, c70, c71, c72, c73, c74, c75, c76, c77, c78, c79, c80, c81, c82], defers := [] } y := by
  have HKt : Hid _ := hK
  have HC : Hid (PC lo W0 y xs a len cap gc gm nm (Pl.alF xs i) ob oc i nb va vl vc) := hc
  clear hK
  conv => arg 2; whnf
  obtain ⟨x, hx⟩ : ∃ x, x = Pl.nd xs i := ⟨_, rfl⟩
  have HX : Hid (x = Pl.nd xs i) := hx
  obtain ⟨cn0, cn1, cn2, cn3, cn4, cn5, cn6⟩ := hc.cells hx
  by_cases k12 : x.k = 12
  rotate_left
  · have k12b : (x.k == 12) = false := by simpa using k12
    have HF : Hid (PC lo W0 y xs a len cap gc gm nm (Pl.alF xs (i + 1)) ob oc i nb va vl vc) := by
      have e : Pl.alF xs (i + 1) = Pl.alF xs i := by
        show (if (Pl.nd xs i).k = 12 then Pl.alF xs i ++ [(Pl.nd xs i).s] else Pl.alF xs i) = _
        rw [if_neg (by rw [← hx]; exact k12)]
      show PC _ _ _ _ _ _ _ _ _ _ (Pl.alF xs (i + 1)) _ _ _ _ _ _ _
      rw [e]; exact hc
    clear k12 hp hc hx
    go_wp2_with fail
    exact HKt.out _ _ _ _ _ _ _ _ _ _ nm _ (by omega) HF.out
  have k12b : (x.k == 12) = true := by simpa using k12
  have hsx := hp.sl
  rw [← hx] at hsx
  have hsm : x.s.size ≤ maxLen := by unfold maxLen; omega
  obtain ⟨cc0, cc1, cc2⟩ := hc.chk.cells
  obtain ⟨D, hD1, hD2⟩ := hc.chk.map
  obtain ⟨Y2, hup, hown2, hgr2⟩ := (ownsMap_keepT hD1 (Below.drew (Below.refl y.heap.size y)) hc.gm_lt).update strLawT Tryz.underlying47 (by unfold maxLen; omega) (keyOf_string_mk Tryz.underlying9 hsm) (unitElem_mk)
  change (Instr.mapUpdate 47 (.map (some gm)) (.string x.s) (.agg #[])).run Tryz.prog y.drew = _ at hup
  have HF : Hid (PC lo W0 Y2 xs a len cap gc gm (nm + 1) (Pl.alF xs (i + 1)) ob oc i nb va vl vc) := by
    have e : Pl.alF xs (i + 1) = Pl.alF xs i ++ [x.s] := by
      show (if (Pl.nd xs i).k = 12 then Pl.alF xs i ++ [(Pl.nd xs i).s] else Pl.alF xs i) = _
      rw [if_pos (by rw [← hx]; exact k12), ← hx]
    show PC _ _ _ _ _ _ _ _ _ _ (Pl.alF xs (i + 1)) _ _ _ _ _ _ _
    rw [e]
    exact (hc.keep (Below.drew (Below.refl y.heap.size y))).alias hgr2 hown2 (hD2.put _ _)
  clear k12 hp hc hx hsx hsm hD1 hD2 hown2 hgr2
  go_upto_region 5 with fail
  go_region
  all_goals
    go_wp2_with fail
    exact HKt.out _ _ _ _ _ _ _ _ _ _ (nm + 1) _ (Nat.le_refl _) HF.out
end Go.Proofs.YteadglnenaiaaaaGreatDoor.W
