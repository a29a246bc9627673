import Derived.Test.YteadglnenaiaaaaGreatDoorK27
import Derived.Deep.AppendLies
import Derived.Deep.QuietTactic
import Derived.Deep.Cut
import Derived.Deep.DeepCutAuto
import Derived.Deep.CutRange
import Derived.BigQuiet
set_option linter.unusedVariables false
set_option linter.unusedSimpArgs false
namespace Go.Proofs.YteadglnenaiaaaaGreatDoor.Pl
open Classical in
noncomputable def isP (p : Prop) : Bool := decide p
theorem isP_yes {p : Prop} (h : p) : isP p = true := by unfold isP; simp [h]
theorem isP_no {p : Prop} (h : ¬ p) : isP p = false := by unfold isP; simp [h]
theorem isP_true {p : Prop} (h : isP p = true) : p := by
  by_cases q : p
  · exact q
  · rw [isP_no q] at h; cases h
theorem isP_false {p : Prop} (h : isP p = false) : ¬ p := fun q => by rw [isP_yes q] at h; cases h
def NWf (xs : List Nd) : Prop := ∀ x ∈ xs, (-9223372036854775808 ≤ x.k ∧ x.k ≤ 9223372036854775807) ∧ (-9223372036854775808 ≤ x.m ∧ x.m ≤ 9223372036854775807) ∧ (-9223372036854775808 ≤ x.n ∧ x.n ≤ 9223372036854775807) ∧ (-9223372036854775808 ≤ x.line ∧ x.line ≤ 9223372036854775807) ∧ (-9223372036854775808 ≤ x.col ∧ x.col ≤ 9223372036854775807)
theorem NWf.at {xs : List Nd} (h : NWf xs) {i : Nat} (hi : i < xs.length) : (-9223372036854775808 ≤ (nd xs i).k ∧ (nd xs i).k ≤ 9223372036854775807) ∧ (-9223372036854775808 ≤ (nd xs i).m ∧ (nd xs i).m ≤ 9223372036854775807) ∧ (-9223372036854775808 ≤ (nd xs i).n ∧ (nd xs i).n ≤ 9223372036854775807) ∧ (-9223372036854775808 ≤ (nd xs i).line ∧ (nd xs i).line ≤ 9223372036854775807) ∧ (-9223372036854775808 ≤ (nd xs i).col ∧ (nd xs i).col ≤ 9223372036854775807) := by
  refine h _ ?_
  unfold nd
  rw [List.getD_eq_getElem?_getD, List.getElem?_eq_getElem hi]
  exact List.getElem_mem _
theorem spec_bg {xs : List Nd} {i : Nat} (hi : i < xs.length) {l : List Nat} (h : bgF xs i = some l) (hb : wkj l (nd xs i).kids i (nd xs i).kids.length = none) : ¬ SpecOk xs := by
  rintro ⟨_, _, l', h', _⟩
  have := bgF_none (bgF_bad h hb) xs.length hi
  rw [this] at h'; cases h'
theorem wkj_no {bg : List Nat} {ks : List Int} {i j a : Nat} (h : wkj bg ks i j = some a) (hn : ¬ (1 ≤ a ∧ ks.getD (ks.length - 1 - j) 0 = (a : Int) - 1)) : wkj bg ks i (j + 1) = none := by rw [wkj_succ h, if_neg hn]
theorem spec_wk {xs : List Nd} {i : Nat} (hi : i < xs.length) {l : List Nat} (h : bgF xs i = some l) {j a : Nat} (hj : j < (nd xs i).kids.length) (hw : wkj l (nd xs i).kids i j = some a) (hn : ¬ (1 ≤ a ∧ (nd xs i).kids.getD ((nd xs i).kids.length - 1 - j) 0 = (a : Int) - 1)) : ¬ SpecOk xs :=
  spec_bg hi h (wkj_none (wkj_no hw hn) _ (by omega))
theorem spec_nd {xs : List Nd} {i : Nat} (hi : i < xs.length) (h : ¬ NdS xs xs.length i) : ¬ SpecOk xs := fun ⟨_, _, _, _, _, hn⟩ => h (hn i hi)
theorem spec_end {xs : List Nd} {l : List Nat} (h1 : 1 ≤ xs.length) (h2 : xs.length ≤ 4000) (hb : bgF xs xs.length = some l) (hn : ∀ i, i < xs.length → NdS xs xs.length i) : isP (SpecOk xs) = decide ((l.getD (xs.length - 1) 0 : Int) = 0) := by
  by_cases e : l.getD (xs.length - 1) 0 = 0
  · rw [isP_yes ⟨h1, h2, l, hb, e, hn⟩, decide_eq_true (by rw [e]; rfl)]
  · rw [isP_no, decide_eq_false (by omega)]
    rintro ⟨_, _, l', hb', e', _⟩
    rw [hb] at hb'; cases hb'; exact e e'
def knj (K : List Int) (j : Nat) : List Int := List.replicate (K.length - j) 0 ++ K.drop (K.length - j)
theorem knj_len (K : List Int) (j : Nat) : (knj K j).length = K.length := by unfold knj; rw [List.length_append, List.length_replicate, List.length_drop]; omega
theorem knj_zero (K : List Int) : knj K 0 = List.replicate K.length 0 := by unfold knj; simp
theorem knj_full (K : List Int) : knj K K.length = K := by unfold knj; simp
theorem knj_set (K : List Int) {j : Nat} (h : j < K.length) : (knj K j).set (K.length - 1 - j) (K.getD (K.length - 1 - j) 0) = knj K (j + 1) := by
  apply List.ext_getElem?
  intro p
  have e : K.length - (j + 1) = K.length - 1 - j := by omega
  by_cases hp : p = K.length - 1 - j
  · subst hp
    rw [List.getElem?_set_self (by rw [knj_len]; omega)]
    unfold knj
    rw [List.getElem?_append_right (by rw [List.length_replicate]; omega), List.length_replicate, List.getElem?_drop, e]
    rw [show K.length - 1 - j + (K.length - 1 - j - (K.length - 1 - j)) = K.length - 1 - j by omega, List.getD_eq_getElem?_getD, List.getElem?_eq_getElem (by omega)]
    rfl
  · rw [List.getElem?_set_ne (fun q => hp q.symm)]
    unfold knj
    by_cases h1 : p < K.length - 1 - j
    · rw [List.getElem?_append_left (by rw [List.length_replicate]; omega), List.getElem?_append_left (by rw [List.length_replicate]; omega), List.getElem?_replicate, List.getElem?_replicate, if_pos (by omega), if_pos (by omega)]
    · rw [List.getElem?_append_right (by rw [List.length_replicate]; omega), List.getElem?_append_right (by rw [List.length_replicate]; omega), List.length_replicate, List.length_replicate, List.getElem?_drop, List.getElem?_drop]
      congr 1
      omega
end Go.Proofs.YteadglnenaiaaaaGreatDoor.Pl
namespace Go.Proofs.YteadglnenaiaaaaGreatDoor.W
open Go.RowKit
theorem own_keepT {base : Nat} {e : TypeId} {k : Nat} {v : Value} {n : Nat} {xs : List Value} {w w' : World} (h : w.ownsRow base e k v n xs) (hb : Below w.heap.size w w') : w'.ownsRow base e k v n xs := by
  refine ⟨h.1, ?_⟩
  rcases h.2 with ⟨a, b⟩ | ⟨g, cap, cur, h0, hlo, hg, r⟩
  · exact .inl ⟨a, b⟩
  · exact .inr ⟨g, cap, cur, h0, hlo, (hb.block g (Array.getElem?_eq_some_iff.1 hg).1).trans hg, r⟩
structure TB (B : Nat) (u : World) (xs : List Pl.Nd) (i : Nat) (l : List Nat) (gb cb gt ct go co ga m ca : Nat) : Prop where
  ob : u.ownsRow B 3 1 (.slice (some ⟨gb, 0, none⟩) i cb) i (l.map fun n : Nat => Value.int .i64 (n : Int))
  ot : u.ownsRow B 3 1 (.slice (some ⟨gt, 0, none⟩) i ct) i ((Pl.tlF xs i).map fun n : Nat => Value.int .i64 (n : Int))
  oo : u.ownsRow B 4 1 (.slice (some ⟨go, 0, none⟩) i co) i ((Pl.opF xs i).map Value.bool)
  oa : u.ownsRow B 9 1 (.slice (some ⟨ga, 0, none⟩) m ca) m ((Pl.alF xs i).map Value.string)
  ne : gb ≠ gt
theorem TB.keep {B : Nat} {u u' : World} {xs : List Pl.Nd} {i : Nat} {l : List Nat} {gb cb gt ct go co ga m ca : Nat} (h : TB B u xs i l gb cb gt ct go co ga m ca) (hb : Below u.heap.size u u') : TB B u' xs i l gb cb gt ct go co ga m ca :=
  ⟨own_keepT h.ob hb, own_keepT h.ot hb, own_keepT h.oo hb, own_keepT h.oa hb, h.ne⟩
theorem own_nat {B : Nat} {u : World} {g n cap : Nat} {l : List Nat} (h : u.ownsRow B 3 1 (.slice (some ⟨g, 0, none⟩) n cap) n (l.map fun n : Nat => Value.int .i64 (n : Int))) {p : Nat} (hp : p < n) : u.cell? ⟨g, p, none⟩ = some (.int .i64 ((l.getD p 0 : Nat) : Int)) := by
  have hl : l.length = n := by have := h.1; simpa using this
  rw [h.cellAt p (by omega), List.getElem?_map, List.getD_eq_getElem?_getD, List.getElem?_eq_getElem (by omega)]
  rfl
theorem own_bool {B : Nat} {u : World} {g n cap : Nat} {l : List Bool} (h : u.ownsRow B 4 1 (.slice (some ⟨g, 0, none⟩) n cap) n (l.map Value.bool)) {p : Nat} (hp : p < n) : u.cell? ⟨g, p, none⟩ = some (.bool (l.getD p false)) := by
  have hl : l.length = n := by have := h.1; simpa using this
  rw [h.cellAt p (by omega), List.getElem?_map, List.getD_eq_getElem?_getD, List.getElem?_eq_getElem (by omega)]
  rfl
theorem own_block {B : Nat} {e : TypeId} {k : Nat} {u : World} {g n cap : Nat} {xs : List Value} (h : u.ownsRow B e k (.slice (some ⟨g, 0, none⟩) n cap) n xs) : B ≤ g ∧ g < u.heap.size := h.lt g rfl
theorem own_caps {B : Nat} {e : TypeId} {k : Nat} {u : World} {g n cap : Nat} {xs : List Value} (h : u.ownsRow B e k (.slice (some ⟨g, 0, none⟩) n cap) n xs) : n ≤ cap ∧ cap ≤ maxLen := by
  rcases h.2 with ⟨h', _⟩ | ⟨g', cap', cur, h', hb, hg, hnc, hcm, hcs, htake⟩
  · simp at h'
  · simp only [Value.slice.injEq] at h'
    obtain ⟨_, _, rfl⟩ := h'
    exact ⟨hnc, hcm⟩
theorem own_srow {B : Nat} {u : World} {g n cap : Nat} {ss : List ByteArray} (h : u.ownsRow B 9 1 (.slice (some ⟨g, 0, none⟩) n cap) n (ss.map Value.string)) (hs : ∀ s ∈ ss, s.size ≤ maxLen) : SRow B u (some ⟨g, 0, none⟩) n cap ss := by
  have hl : ss.length = n := by have := h.1; simpa using this
  have hc := own_caps h
  have hb := own_block h
  refine ⟨⟨hl, hs⟩, hc.1, hc.2, ?_⟩
  refine .inr ⟨g, 0, rfl, hb.1, hb.2, fun i hi => ?_⟩
  rw [Nat.zero_add, h.cellAt i (by omega), List.getElem?_map, List.getD_eq_getElem?_getD, List.getElem?_eq_getElem (by omega)]
  rfl
end Go.Proofs.YteadglnenaiaaaaGreatDoor.W
namespace Go.Proofs.YteadglnenaiaaaaGreatDoor.Pl
theorem tl_le {xs : List Nd} {n i : Nat} (hn : ∀ j, j < i → NdS xs n j) {c : Nat} (hc : c < i) : (tlF xs i).getD c 0 ≤ 200 := by
  rw [tlF_at xs hc]; exact (hn c hc).tall
theorem wkj_step {bg : List Nat} {ks : List Int} {i j c : Nat} (h : wkj bg ks i j = some (c + 1)) (h2 : ks.getD (ks.length - 1 - j) 0 = (c : Int)) : wkj bg ks i (j + 1) = some (bg.getD c 0) := by
  have := wkj_yes h (by omega) (by rw [h2]; omega)
  simpa using this
theorem hij_step (tl : List Nat) (ks : List Int) {j c : Nat} (h2 : ks.getD (ks.length - 1 - j) 0 = (c : Int)) : hij tl ks (j + 1) = if hij tl ks j < tl.getD c 0 + 1 then tl.getD c 0 + 1 else hij tl ks j := by
  show Nat.max (hij tl ks j) _ = _
  rw [h2, Int.toNat_natCast]
  split
  · exact Nat.max_eq_right (by omega)
  · exact Nat.max_eq_left (by omega)
theorem hij_le (tl : List Nat) (ks : List Int) (ht : ∀ c, tl.getD c 0 ≤ 200) : ∀ j, hij tl ks j ≤ 201
  | 0 => by show 0 ≤ 201; omega
  | j + 1 => by
    show Nat.max (hij tl ks j) _ ≤ 201
    exact Nat.max_le.mpr ⟨hij_le tl ks ht j, by have := ht (ks.getD (ks.length - 1 - j) 0).toNat; omega⟩
theorem tl_le' {xs : List Nd} {n i : Nat} (hn : ∀ j, j < i → NdS xs n j) (c : Nat) : (tlF xs i).getD c 0 ≤ 200 := by
  by_cases hc : c < i
  · exact tl_le hn hc
  · rw [List.getD_eq_getElem?_getD, List.getElem?_eq_none (by rw [tlF_len]; omega)]; decide
theorem kinds_wf {xs : List Nd} (h : NWf xs) (i : Nat) : ∀ n ∈ kinds xs i, (Lit.int .i64 n).wf = true := by
  intro n hn
  unfold kinds at hn
  obtain ⟨c, _, rfl⟩ := List.mem_map.1 hn
  have : -9223372036854775808 ≤ (nd xs c.toNat).k ∧ (nd xs c.toNat).k ≤ 9223372036854775807 := by
    by_cases hc : c.toNat < xs.length
    · exact (h.at hc).1
    · have : nd xs c.toNat = Nd.zero := by unfold nd; rw [List.getD_eq_getElem?_getD, List.getElem?_eq_none (by omega)]; rfl
      rw [this]; decide
  change (Lit.int .i64 (nd xs c.toNat).k).wf = true
  generalize (nd xs c.toNat).k = q at *
  simp [Lit.wf, IntKind.min, IntKind.max, IntKind.signed, IntKind.bits]
  omega
theorem kin_in {k : Int} (h : srtS k ≠ 0) : 0 ≤ k ∧ k ≤ 49 := by
  by_cases q : k < 0 ∨ 49 < k
  · exact absurd (srt_out q) h
  · omega
theorem shp_ne {k : Int} (h : k = 21 ∨ k = 22 ∨ (24 ≤ k ∧ k ≤ 28)) : kS (shpT.getD k.toNat []) [] false = false := by
  have : k = 21 ∨ k = 22 ∨ k = 24 ∨ k = 25 ∨ k = 26 ∨ k = 27 ∨ k = 28 := by omega
  rcases this with rfl | rfl | rfl | rfl | rfl | rfl | rfl <;> decide
theorem last_pos {xs : List Nd} {i : Nat} (h : (nd xs i).k = 21 ∨ (nd xs i).k = 22 ∨ (24 ≤ (nd xs i).k ∧ (nd xs i).k ≤ 28)) (hk : kS (shpT.getD (nd xs i).k.toNat []) (kinds xs i) false = true) : 1 ≤ (nd xs i).kids.length := by
  rcases Nat.eq_zero_or_pos (nd xs i).kids.length with q | q
  · have : kinds xs i = [] := List.eq_nil_of_length_eq_zero (by rw [kinds_len]; exact q)
    rw [this, shp_ne h] at hk; cases hk
  · exact q
theorem srt7 {k : Int} (h : srtS k = 2) : k = 7 := by
  have hr := kin_in (k := k) (by omega)
  obtain ⟨n, rfl⟩ : ∃ n : Nat, k = n := ⟨k.toNat, by omega⟩
  have key : ∀ n : Fin 50, srtS ((n.val : Nat) : Int) = 2 → n.val = 7 := by decide +kernel
  have := key ⟨n, by omega⟩ h
  simp only at this
  omega
theorem param_kid {xs : List Nd} {n i : Nat} {l : List Nat} (O : Ordd xs (i + 1) l) (h4 : (nd xs i).k = 4) (h2 : (nd xs i).kids.length = 2) (hk : kS (shpT.getD (nd xs i).k.toNat []) (kinds xs i) false = true) (hn : ∀ j, j < i → NdS xs n j) : 1 ≤ i ∧ 1 ≤ (nd xs (i - 1)).kids.length := by
  have hl := kinds_len xs i
  rw [h2] at hl
  obtain ⟨hi1, _⟩ := O.last i (by omega) (by intro e; rw [e] at h2; cases h2)
  have h3 := two_last O (by omega) h2
  have e1 := kinds_at xs (i := i) (q := 1) (by omega)
  rw [h3] at e1
  rw [h4] at hk
  match hK : kinds xs i, hl with
  | [k0, k1], _ =>
    rw [hK] at hk e1
    have e1' : k1 = (nd xs (i - 1)).k := e1
    have hs : shpT.getD (Int.toNat 4) [] = [116, 112] := rfl
    rw [hs] at hk
    have hf : fitS 112 k1 = true := by
      rw [kS, if_neg (by decide), if_neg (by decide)] at hk
      change (if fitS 116 k0 = true then kS [112] [k1] false else false) = true at hk
      split at hk
      · rw [kS, if_neg (by decide), if_pos (by decide), if_neg (by rintro ⟨_, q⟩; cases q)] at hk
        split at hk
        · rename_i q; simpa using q
        · cases hk
      · cases hk
    have h7 : k1 = 7 := srt7 (by unfold fitS at hf; simpa using hf)
    refine ⟨hi1, ?_⟩
    rcases Nat.eq_zero_or_pos (nd xs (i - 1)).kids.length with q | q
    · have hz : kinds xs (i - 1) = [] := List.eq_nil_of_length_eq_zero (by rw [kinds_len]; exact q)
      have := (hn (i - 1) (by omega)).kids
      rw [hz, ← e1', h7] at this
      exact absurd this (by decide)
    · exact q
theorem al_size {xs : List Nd} : ∀ {i : Nat}, (∀ k, k < i → (nd xs k).s.size ≤ 1048576) → ∀ s ∈ alF xs i, s.size ≤ 1048576
  | 0, _, s, hs => by cases hs
  | i + 1, h, s, hs => by
    unfold alF at hs
    split at hs
    · rcases List.mem_append.mp hs with q | q
      · exact al_size (fun j hj => h j (by omega)) s q
      · rw [List.mem_singleton.mp q]; exact h i (by omega)
    · exact al_size (fun j hj => h j (by omega)) s hs
end Go.Proofs.YteadglnenaiaaaaGreatDoor.Pl
namespace Go.Proofs.YteadglnenaiaaaaGreatDoor.W
open Go.RowKit
theorem made_zerosT (k : IntKind) (n : Nat) : (madeCells (Value.int k 0).cells n).toList = (List.replicate n (0 : Int)).map (Value.int k) := by
  rw [show (Value.int k 0).cells = #[Value.int k 0] from rfl, toList_madeCells_one, List.map_replicate]
theorem code_at {P : Program} {c : Code} {Q : Exit → Act → World → Prop} {a : Act} {W : World} (h : ∀ U, U = W → c.wp P Q a U) : c.wp P Q a W := h W rfl
structure TRw (w0 : World) (wr : World) (xs : List Pl.Nd) (i : Nat) (l : List Nat) (gb cb gt ct go co ga m ca : Nat) : Prop where
  tb : TB w0.heap.size wr xs i l gb cb gt ct go co ga m ca
  bg : Pl.bgF xs i = some l
  nd : ∀ j, j < i → Pl.NdS xs xs.length j
  bel : Below w0.heap.size w0 wr
structure TK (u1 : World) (wr : World) (xs : List Pl.Nd) (i : Nat) (l : List Nat) (vl j a gk : Nat) : Prop where
  wk : Pl.wkj l (Pl.nd xs i).kids i j = some a
  own : wr.ownsRow u1.heap.size 3 1 (.slice (some ⟨gk, 0, none⟩) vl vl) vl ((Pl.knj (Pl.kinds xs i) j).map (Value.int .i64))
  bel : Below u1.heap.size u1 wr
theorem sh_small {kn : Nat} (h : kn < 50) : (⟨(Pl.shB.getD kn []).toArray⟩ : ByteArray).size ≤ 1048576 := by
  have e := Pl.sh_ltr ⟨kn, h⟩
  have e2 := congrArg List.length e
  rw [Pl.ltr_len] at e2
  have key : ∀ k : Fin 50, (Pl.shpT.getD k.val []).length ≤ 100 := by decide +kernel
  have e3 := key ⟨kn, h⟩
  have e4 : (⟨(Pl.shB.getD kn []).toArray⟩ : ByteArray).size = (Pl.shpT.getD kn []).length := e2
  have e5 : (Pl.shpT.getD kn []).length ≤ 100 := e3
  omega
theorem shape_kids {lo : Nat} {kn : Nat} (h50 : kn < 50) {g j : Nat} {K : List Int} {u : World} (h : Row .i64 lo u (some ⟨g, 0, none⟩) j j K) : Calls Tryz.prog 11 #[.string ⟨(Pl.shB.getD kn []).toArray⟩, .slice (some ⟨g, 0, none⟩) j j] u fun e w' => e = .returned (.bool (Pl.kS (Pl.shpT.getD kn []) K false)) ∧ w' = u := by
  have key := l6KidsOk_is ⟨(Pl.shB.getD kn []).toArray⟩ (sh_small h50) (some ⟨g, 0, none⟩) j j K u h
  have e : Pl.ltr ⟨(Pl.shB.getD kn []).toArray⟩ = Pl.shpT.getD kn [] := Pl.sh_ltr ⟨kn, h50⟩
  rw [e] at key
  exact key
theorem kid_row {u1 y2 : World} {xs : List Pl.Nd} {i : Nat} {l : List Nat} {j a gk : Nat} (h : TK u1 y2 xs i l j j a gk) (hw : Pl.NWf xs) (hj : (Pl.nd xs i).kids.length = j) : Row .i64 u1.heap.size y2 (some ⟨gk, 0, none⟩) j j (Pl.kinds xs i) := by
  have o := h.own
  have e1 : (Pl.kinds xs i).length = j := by rw [Pl.kinds_len, hj]
  have e2 : Pl.knj (Pl.kinds xs i) j = Pl.kinds xs i := by have := Pl.knj_full (Pl.kinds xs i); rwa [e1] at this
  rw [e2] at o
  exact Own.row (e := 3) ⟨o, Pl.kinds_wf hw i⟩
end Go.Proofs.YteadglnenaiaaaaGreatDoor.W
namespace Go.Proofs.YteadglnenaiaaaaGreatDoor.W
open Go.RowKit
def startsAt (n : Nat) : Code → Bool
  | .region m _ _ => m == n
  | .seq a _ => startsAt n a
  | _ => false
def codeAt (n : Nat) : Code → Option Code
  | .seq a b => if startsAt n a then some a else match codeAt n a with
    | some c => some c
    | none => codeAt n b
  | .block _ c => codeAt n c
  | .loop c => codeAt n c
  | .scope c => codeAt n c
  | _ => none
def restAt (n : Nat) : Code → Option Code
  | .seq a b => if startsAt n a then some (.seq a b) else match restAt n a with
    | some c => some c
    | none => restAt n b
  | .block _ c => restAt n c
  | .loop c => restAt n c
  | .scope c => restAt n c
  | _ => none
noncomputable def tokC (n : Nat) : Code := ((Tryz.f5.body.bind (codeAt n)).getD .skip)
structure TP (xs : List Pl.Nd) (len i : Nat) (l : List Nat) (vl a : Nat) : Prop where
  hi : i < len
  l4 : len ≤ 4000
  xl : xs.length = len
  wf : Pl.NWf xs
  kl : ∀ i, i < len → (Pl.nd xs i).kids.length ≤ 1048576
  sl : ∀ i, i < len → (Pl.nd xs i).s.size ≤ 1048576
  bg : Pl.bgF xs i = some l
  nd : ∀ j, j < i → Pl.NdS xs xs.length j
  vk : (Pl.nd xs i).kids.length = vl
  wk : Pl.wkj l (Pl.nd xs i).kids i vl = some a
theorem TP.ord {xs : List Pl.Nd} {len i : Nat} {l : List Nat} {vl a : Nat} (h : TP xs len i l vl a) : Pl.bgF xs (i + 1) = some (l ++ [a]) ∧ Pl.Ordd xs (i + 1) (l ++ [a]) := by
  have e : Pl.bgF xs (i + 1) = some (l ++ [a]) := Pl.bgF_succ h.bg (by rw [h.vk]; exact h.wk)
  exact ⟨e, Pl.ordd e⟩
theorem TP.kid {xs : List Pl.Nd} {len i : Nat} {l : List Nat} {vl a : Nat} (h : TP xs len i l vl a) {q : Nat} (hq : q < vl) : ∃ c : Nat, (Pl.nd xs i).kids.getD q 0 = (c : Int) ∧ c < i := by
  obtain ⟨c, h1, h2, _⟩ := h.ord.2.kid i (by omega) _ (Pl.getD_mem (ks := (Pl.nd xs i).kids) (q := q) (by rw [h.vk]; exact hq))
  exact ⟨c, h1, h2⟩
structure TC (lo : Nat) (w w0 y : World) (xs : List Pl.Nd) (len cap i : Nat) (l : List Nat) (gb cb gt ct go co ga m ca gn : Nat) (va : Option Addr) (vl vc b off : Nat) : Prop where
  bel : Below w0.heap.size w0 y
  tb : TB w0.heap.size y xs i l gb cb gt ct go co ga m ca
  nd : y.heap[gn]? = some (.cells ((Pl.nd xs i).cells ⟨va, vl, vc⟩) 38 (0, 0))
  row : Row .i64 lo y va vl vc (Pl.nd xs i).kids
  nrow : NRow lo y (some ⟨b, off, none⟩) len cap xs
  box : y.heap[w.heap.size]? = some (.cells #[.slice (some ⟨b, off, none⟩) len cap] 29 (0, 0))
theorem TC.keep {lo : Nat} {w w0 y y' : World} {xs : List Pl.Nd} {len cap i : Nat} {l : List Nat} {gb cb gt ct go co ga m ca gn : Nat} {va : Option Addr} {vl vc b off : Nat} (h : TC lo w w0 y xs len cap i l gb cb gt ct go co ga m ca gn va vl vc b off) (hb : Below y.heap.size y y') : TC lo w w0 y' xs len cap i l gb cb gt ct go co ga m ca gn va vl vc b off := by
  have lt : ∀ {b : Nat} {o : Obj}, y.heap[b]? = some o → b < y.heap.size := fun q => (Array.getElem?_eq_some_iff.1 q).1
  exact ⟨h.bel.trans (hb.mono h.bel.size), h.tb.keep hb, (hb.block _ (lt h.nd)).trans h.nd, h.row.keep hb, h.nrow.keep hb, (hb.block _ (lt h.box)).trans h.box⟩
theorem TC.cells {lo : Nat} {w w0 y : World} {xs : List Pl.Nd} {len cap i : Nat} {l : List Nat} {gb cb gt ct go co ga m ca gn : Nat} {va : Option Addr} {vl vc b off : Nat} (h : TC lo w w0 y xs len cap i l gb cb gt ct go co ga m ca gn va vl vc b off) {x : Pl.Nd} (hx : x = Pl.nd xs i) : y.cell? ⟨gn, 0, none⟩ = some (.int .i64 x.k) ∧ y.cell? ⟨gn, 1, none⟩ = some (.int .i64 x.m) ∧ y.cell? ⟨gn, 2, none⟩ = some (.int .i64 x.n) ∧ y.cell? ⟨gn, 3, none⟩ = some (.string x.s) ∧ y.cell? ⟨gn, 4, none⟩ = some (.slice va vl vc) ∧ y.cell? ⟨gn, 5, none⟩ = some (.int .i64 x.line) ∧ y.cell? ⟨gn, 6, none⟩ = some (.int .i64 x.col) := by
  subst hx
  have f := fun j => cell_of_row y gn j _ 38 (0, 0) h.nd
  exact ⟨f 0, f 1, f 2, f 3, f 4, f 5, f 6⟩
structure F24 (xs : List Pl.Nd) (i : Nat) : Prop where
  sort : Pl.srtS (Pl.nd xs i).k ≠ 0
  kids : Pl.kS (Pl.shpT.getD (Pl.nd xs i).k.toNat []) (Pl.kinds xs i) false = true
  mark : Pl.mkB (Pl.nd xs i) = true
  text : Pl.txB (Pl.nd xs i) (Pl.alF xs i) = true
  line : Pl.plB (Pl.nd xs i).line = true
  col : Pl.plB (Pl.nd xs i).col = true
  tall : Pl.hij (Pl.tlF xs i) (Pl.nd xs i).kids (Pl.nd xs i).kids.length ≤ 200
set_option maxRecDepth 1000000 in
set_option maxHeartbeats 8000000 in
theorem t24_is {lo : Nat} {w w0 y : World} {xs : List Pl.Nd} {len cap i : Nat} {l : List Nat} {gb cb gt ct go co ga m ca gn : Nat} {va : Option Addr} {vl vc b off a hi gk : Nat} (hp : TP xs len i l vl a) (hc : TC lo w w0 y xs len cap i l gb cb gt ct go co ga m ca gn va vl vc b off) {kb : Nat} (hkr : Row .i64 kb y (some ⟨gk, 0, none⟩) vl vl (Pl.kinds xs i)) (hh : hi = Pl.hij (Pl.tlF xs i) (Pl.nd xs i).kids vl) (c0 c12 c13 c14 c15 c16 c17 c18 c19 c20 c21 c22 c23 c24 c25 c26 c27 c28 c29 c30 c31 c32 c33 c34 c35 c36 c37 c38 c39 c40 c41 c42 c43 c44 c45 c46 c47 c48 c49 c50 c51 c52 c53 c54 c55 c56 c57 c58 c59 c60 c61 c62 c63 c64 c65 c66 c67 c68 c69 c70 c71 c72 c73 c74 c75 c76 c77 c78 c79 c80 c81 c82 c83 c84 c85 c86 c87 c88 c89 c90 c91 c92 c93 c94 c95 c96 c97 c98 c99 c100 c101 c102 c103 c104 c105 c106 c107 c108 c109 c110 c111 c112 c113 c114 c115 c116 c117 c118 c119 c120 c121 c122 c123 c124 c125 c126 c127 c128 c129 c130 c131 c132 c133 c134 c135 c136 c137 c138 c139 c140 c141 c142 c143 c144 c145 c146 c147 c148 c149 c150 c151 c152 c153 c154 c155 c156 c157 c158 c159 c160 c161 c162 c163 c164 c165 c166 c167 c168 c169 c170 c171 c172 c173 c174 c175 c176 c177 c178 c179 c180 c181 c182 c183 c184 c185 c186 c187 c188 c189 c190 c191 c192 c193 c194 c195 c196 c197 c198 c199 c200 c201 c202 c203 c204 c205 c206 c207 c208 c209 c210 c211 c212 c213 c214 c215 c216 c217 c218 c219 c220 c221 c222 c223 c224 c225 c226 c227 c228 c229 c230 c231 c232 c233 c234 c235 c236 c237 c238 c239 c240 c241 c242 c243 c244 c245 c246 c247 c248 c249 c250 c251 c252 c253 c254 c255 c256 c257 c258 c259 c260 c261 c262 c263 c264 c265 c266 c267 c268 c269 c270 c271 c272 c273 c274 c275 c276 c277 c278 c279 c280 : Value) (K : Act → World → Prop) (Q : Exit → Act → World → Prop)
    (hR : ∀ (tmps : Array Value) (y' : World), tmps.getD 2 undef = .bool false → ¬ Pl.NdS xs xs.length i → Below y.heap.size y y' → Q .ret { tmps := tmps, defers := [] } y')
    (hK : ∀ (s92 s93 s94 s95 s96 s97 s98 s99 s100 s101 s102 s103 s104 s105 s106 s107 s108 s109 s110 s111 s112 s113 s114 s115 s116 s117 s118 s119 s120 s121 s122 s123 s124 s125 s126 s127 s128 s129 s130 : Value)  (y' : World), Below y.heap.size y y' → F24 xs i → K { tmps := #[c0, .pointer (some ⟨w.heap.size, 0, none⟩), .bool false, .slice (some ⟨gb, 0, none⟩) i cb, .slice (some ⟨gt, 0, none⟩) i ct, .slice (some ⟨go, 0, none⟩) i co, .slice (some ⟨ga, 0, none⟩) m ca, .int .i64 (i : Int), .pointer (some ⟨gn, 0, none⟩), .int .i64 (a : Int), .int .i64 (hi : Int), .slice (some ⟨gk, 0, none⟩) vl vl, c12, c13, c14, c15, c16, c17, c18, c19, c20, c21, c22, c23, c24, c25, c26, c27, c28, c29, c30, c31, c32, c33, c34, c35, c36, c37, c38, c39, c40, c41, c42, c43, c44, c45, c46, c47, c48, c49, c50, c51, c52, c53, c54, c55, c56, c57, c58, c59, c60, c61, c62, c63, c64, c65, c66, c67, c68, c69, c70, c71, c72, c73, c74, c75, c76, c77, c78, c79, c80, c81, c82, c83, c84, c85, c86, c87, c88, c89, c90, c91, s92, s93, s94, s95, s96, s97, s98, s99, s100, s101, s102, s103, s104, s105, s106, s107, s108, s109, s110, s111, s112, s113, s114, s115, s116, s117, s118, s119, s120, s121, s122, s123, s124, s125, s126, s127, s128, s129, s130, c131, c132, c133, c134, c135, c136, c137, c138, c139, c140, c141, c142, c143, c144, c145, c146, c147, c148, c149, c150, c151, c152, c153, c154, c155, c156, c157, c158, c159, c160, c161, c162, c163, c164, c165, c166, c167, c168, c169, c170, c171, c172, c173, c174, c175, c176, c177, c178, c179, c180, c181, c182, c183, c184, c185, c186, c187, c188, c189, c190, c191, c192, c193, c194, c195, c196, c197, c198, c199, c200, c201, c202, c203, c204, c205, c206, c207, c208, c209, c210, c211, c212, c213, c214, c215, c216, c217, c218, c219, c220, c221, c222, c223, c224, c225, c226, c227, c228, c229, c230, c231, c232, c233, c234, c235, c236, c237, c238, c239, c240, c241, c242, c243, c244, c245, c246, c247, c248, c249, c250, c251, c252, c253, c254, c255, c256, c257, c258, c259, c260, c261, c262, c263, c264, c265, c266, c267, c268, c269, c270, c271, c272, c273, c274, c275, c276, c277, c278, c279, c280], defers := [] } y') :
    (tokC 24).wp Tryz.prog (Exit.then K Q) { tmps := #[c0, .pointer (some ⟨w.heap.size, 0, none⟩), .bool false, .slice (some ⟨gb, 0, none⟩) i cb, .slice (some ⟨gt, 0, none⟩) i ct, .slice (some ⟨go, 0, none⟩) i co, .slice (some ⟨ga, 0, none⟩) m ca, .int .i64 (i : Int), .pointer (some ⟨gn, 0, none⟩), .int .i64 (a : Int), .int .i64 (hi : Int), .slice (some ⟨gk, 0, none⟩) vl vl, c12, c13, c14, c15, c16, c17, c18, c19, c20, c21, c22, c23, c24, c25, c26, c27, c28, c29, c30, c31, c32, c33, c34, c35, c36, c37, c38, c39, c40, c41, c42, c43, c44, c45, c46, c47, c48, c49, c50, c51, c52, c53, c54, c55, c56, c57, c58, c59, c60, c61, c62, c63, c64, c65, c66, c67, c68, c69, c70, c71, c72, c73, c74, c75, c76, c77, c78, c79, c80, c81, c82, c83, c84, c85, c86, c87, c88, c89, c90, c91, c92, c93, c94, c95, c96, c97, c98, c99, c100, c101, c102, c103, c104, c105, c106, c107, c108, c109, c110, c111, c112, c113, c114, c115, c116, c117, c118, c119, c120, c121, c122, c123, c124, c125, c126, c127, c128, c129, c130, c131, c132, c133, c134, c135, c136, c137, c138, c139, c140, c141, c142, c143, c144, c145, c146, c147, c148, c149, c150, c151, c152, c153, c154, c155, c156, c157, c158, c159, c160, c161, c162, c163, c164, c165, c166, c167, c168, c169, c170, c171, c172, c173, c174, c175, c176, c177, c178, c179, c180, c181, c182, c183, c184, c185, c186, c187, c188, c189, c190, c191, c192, c193, c194, c195, c196, c197, c198, c199, c200, c201, c202, c203, c204, c205, c206, c207, c208, c209, c210, c211, c212, c213, c214, c215, c216, c217, c218, c219, c220, c221, c222, c223, c224, c225, c226, c227, c228, c229, c230, c231, c232, c233, c234, c235, c236, c237, c238, c239, c240, c241, c242, c243, c244, c245, c246, c247, c248, c249, c250, c251, c252, c253, c254, c255, c256, c257, c258, c259, c260, c261, c262, c263, c264, c265, c266, c267, c268, c269, c270, c271, c272, c273, c274, c275, c276, c277, c278, c279, c280], defers := [] } y := by
  have HRt : Hid (∀ (tmps : Array Value) (y' : World), tmps.getD 2 undef = .bool false → ¬ Pl.NdS xs xs.length i → Below y.heap.size y y' → Q .ret { tmps := tmps, defers := [] } y') := hR
  have HKt : Hid _ := hK
  have HP : Hid (TP xs len i l vl a) := hp
  have HC : Hid (TC lo w w0 y xs len cap i l gb cb gt ct go co ga m ca gn va vl vc b off) := hc
  clear hR hK
  conv => arg 2; whnf
  obtain ⟨x, hx⟩ : ∃ x, x = Pl.nd xs i := ⟨_, rfl⟩
  have HX : Hid (x = Pl.nd xs i) := hx
  have hxw := hp.wf.at (i := i) (by rw [hp.xl]; exact hp.hi)
  rw [← hx] at hxw
  obtain ⟨hxk, hxm, hxn, hxl, hxc⟩ := hxw
  have hxs : x.s.size ≤ 1048576 := by rw [hx]; exact hp.sl i hp.hi
  have hvl : vl ≤ 1048576 := by rw [← hp.vk]; exact hp.kl i hp.hi
  have hhi : hi ≤ 201 := by rw [hh]; exact Pl.hij_le _ _ (Pl.tl_le' hp.nd) _
  have HHI : Hid (hi = Pl.hij (Pl.tlF xs i) (Pl.nd xs i).kids (Pl.nd xs i).kids.length) := by show hi = _; rw [hh, hp.vk]
  have HSO : Hid (∀ u : World, Calls Tryz.prog 10 #[.int .i64 x.k] u fun e w' => e = .returned (.int .i64 (Pl.srtS x.k)) ∧ w' = u) := fun u => l6Sort_is x.k hxk u
  have HKR : Hid (Row .i64 kb y (some ⟨gk, 0, none⟩) vl vl (Pl.kinds xs i)) := hkr
  obtain ⟨cn0, cn1, cn2, cn3, cn4, cn5, cn6⟩ := hc.cells hx
  have HAL : Hid (∀ s ∈ Pl.alF xs i, s.size ≤ maxLen) := fun s hs => by
    have := Pl.al_size (xs := xs) (i := i) (fun k hk => hp.sl k (by have := hp.hi; omega)) s hs
    unfold maxLen; omega
  have HTO0 : Hid (∀ u : World, Below y.heap.size y u → Calls Tryz.prog 14 #[.agg #[.int .i64 x.k, .int .i64 x.m, .int .i64 x.n, .string x.s, .slice va vl vc, .int .i64 x.line, .int .i64 x.col], .slice (some ⟨ga, 0, none⟩) m ca] u fun e w' => e = .returned (.bool (Pl.txB x (Pl.alF xs i))) ∧ Below u.heap.size u w') := by
    have key := fun (u : World) (hu : Below y.heap.size y u) => l6TextOk_is x ⟨va, vl, vc⟩ (some ⟨ga, 0, none⟩) m ca (Pl.alF xs i) u (own_srow (hc.keep hu).tb.oa HAL.out) hxs hxn.2
    exact key
  have HMO0 : Hid (∀ u : World, Calls Tryz.prog 13 #[.agg #[.int .i64 x.k, .int .i64 x.m, .int .i64 x.n, .string x.s, .slice va vl vc, .int .i64 x.line, .int .i64 x.col]] u fun e w' => e = .returned (.bool (Pl.mkB x)) ∧ Below u.heap.size u w') := by
    have key := l6MarkOk_is x ⟨va, vl, vc⟩
    exact key
  have HPO : Hid (∀ (n : Int) (u : World), Calls Tryz.prog 15 #[.int .i64 n] u fun e w' => e = .returned (.bool (Pl.plB n)) ∧ w' = u) := fun n u => l6PlaceOk_is n u
  clear hp hc hh hkr hxm hxn hxl hxc hxs hxk hvl HAL
  by_cases t1 : Pl.srtS x.k = 0
  · have HN : Hid (¬ Pl.NdS xs xs.length i) := fun S => S.sort (by rw [← hx]; exact t1)
    clear hx HKt HTO0 HMO0
    go_wp2_with (go_at_call 10; refine (HSO.out _).mono ?_; rintro e z1 ⟨rfl, g1⟩; rw [g1, t1]; clear g1 z1)
    exact HRt.out _ _ rfl HN.out (Below.refl _ _)
  obtain ⟨kn, hkn⟩ : ∃ kn : Nat, x.k = kn := ⟨x.k.toNat, by have := Pl.kin_in t1; omega⟩
  have hkn50 : kn < 50 := by have := Pl.kin_in t1; omega
  have HKN : Hid (x.k = (kn : Int)) := hkn
  have HSH0 : Hid (∀ u : World, Calls Tryz.prog 12 #[.int .i64 x.k] u fun e w' => e = .returned (.string ⟨(Pl.shB.getD kn []).toArray⟩) ∧ Below u.heap.size u w') := fun u => by rw [HKN.out]; exact l6Shape_is kn hkn50 u
  obtain ⟨KB, hKB⟩ : ∃ KB, KB = Pl.kS (Pl.shpT.getD (Pl.nd xs i).k.toNat []) (Pl.kinds xs i) false := ⟨_, rfl⟩
  have HKB : Hid (KB = Pl.kS (Pl.shpT.getD (Pl.nd xs i).k.toNat []) (Pl.kinds xs i) false) := hKB
  have ekn : (Pl.nd xs i).k.toNat = kn := by rw [← HX.out, HKN.out, Int.toNat_natCast]
  rw [ekn] at hKB
  have HKO0 : Hid (∀ u : World, Below y.heap.size y u → Calls Tryz.prog 11 #[.string ⟨(Pl.shB.getD kn []).toArray⟩, .slice (some ⟨gk, 0, none⟩) vl vl] u fun e w' => e = .returned (.bool KB) ∧ w' = u) := fun u hu => (shape_kids hkn50 (HKR.out.keep hu)).mono fun e w' ⟨h1, h2⟩ => ⟨by rw [h1, hKB], h2⟩
  obtain ⟨S0, hS0⟩ : ∃ S0 : ByteArray, S0 = ⟨(Pl.shB.getD kn []).toArray⟩ := ⟨_, rfl⟩
  have HSH : Hid (∀ u : World, Calls Tryz.prog 12 #[.int .i64 x.k] u fun e w' => e = .returned (.string S0) ∧ Below u.heap.size u w') := by rw [hS0]; exact HSH0
  have HKO : Hid (∀ u : World, Below y.heap.size y u → Calls Tryz.prog 11 #[.string S0, .slice (some ⟨gk, 0, none⟩) vl vl] u fun e w' => e = .returned (.bool KB) ∧ w' = u) := by rw [hS0]; exact HKO0
  have HN1 : Hid (¬ Pl.srtS x.k = 0) := t1
  have t1b : (Pl.srtS x.k == 0) = false := by simpa using t1
  obtain ⟨MB, hMB⟩ : ∃ MB, MB = Pl.mkB x := ⟨_, rfl⟩
  have HMB : Hid (MB = Pl.mkB x) := hMB
  have HMO : Hid (∀ u : World, Calls Tryz.prog 13 #[.agg #[.int .i64 x.k, .int .i64 x.m, .int .i64 x.n, .string x.s, .slice va vl vc, .int .i64 x.line, .int .i64 x.col]] u fun e w' => e = .returned (.bool MB) ∧ Below u.heap.size u w') := by rw [hMB]; exact HMO0
  obtain ⟨TX, hTX⟩ : ∃ TX, TX = Pl.txB x (Pl.alF xs i) := ⟨_, rfl⟩
  have HTX : Hid (TX = Pl.txB x (Pl.alF xs i)) := hTX
  have HTO : Hid (∀ u : World, Below y.heap.size y u → Calls Tryz.prog 14 #[.agg #[.int .i64 x.k, .int .i64 x.m, .int .i64 x.n, .string x.s, .slice va vl vc, .int .i64 x.line, .int .i64 x.col], .slice (some ⟨ga, 0, none⟩) m ca] u fun e w' => e = .returned (.bool TX) ∧ Below u.heap.size u w') := by rw [hTX]; exact HTO0
  clear hKB hS0 hMB hTX hkn t1 HKN hx ekn HSH0 HKO0 HMO0 HTO0 HKR
  cases KB
  · have HN : Hid (¬ Pl.NdS xs xs.length i) := fun S => by have := S.kids; rw [← HKB.out] at this; cases this
    clear HKt
    go_wp2_with (first | (go_at_call 10; refine (HSO.out _).mono ?_; rintro e z1 ⟨rfl, g1⟩; rw [g1]; clear g1 z1) | (go_at_call 12; refine (HSH.out _).mono ?_; rintro e z2 ⟨rfl, d2⟩; have D2 : Hid (Below y.heap.size y z2) := d2; clear d2; obtain ⟨cn0, cn1, cn2, cn3, cn4, cn5, cn6⟩ := (HC.out.keep D2.out).cells HX.out) | (go_at_call 11; refine (HKO.out _ D2.out).mono ?_; rintro e z3 ⟨rfl, g3⟩; rw [g3]; clear g3 z3) | (go_at_call 13; refine (HMO.out _).mono ?_; rintro e z4 ⟨rfl, d4⟩; have D4 : Hid (Below y.heap.size y z4) := D2.out.trans (d4.mono D2.out.size); clear d4; obtain ⟨cn0, cn1, cn2, cn3, cn4, cn5, cn6⟩ := (HC.out.keep D4.out).cells HX.out) | (go_at_call 14; refine (HTO.out _ D4.out).mono ?_; rintro e z5 ⟨rfl, d5⟩; have D5 : Hid (Below y.heap.size y z5) := D4.out.trans (d5.mono D4.out.size); clear d5; obtain ⟨cn0, cn1, cn2, cn3, cn4, cn5, cn6⟩ := (HC.out.keep D5.out).cells HX.out) | (go_at_call 15; refine (HPO.out _ _).mono ?_; rintro e z6 ⟨rfl, g6⟩; rw [g6]; clear g6 z6))
    exact HRt.out _ _ rfl HN.out D2.out
  cases MB
  · have HN : Hid (¬ Pl.NdS xs xs.length i) := fun S => by have := S.mark; rw [← HX.out, ← HMB.out] at this; cases this
    clear HKt
    go_wp2_with (first | (go_at_call 10; refine (HSO.out _).mono ?_; rintro e z1 ⟨rfl, g1⟩; rw [g1]; clear g1 z1) | (go_at_call 12; refine (HSH.out _).mono ?_; rintro e z2 ⟨rfl, d2⟩; have D2 : Hid (Below y.heap.size y z2) := d2; clear d2; obtain ⟨cn0, cn1, cn2, cn3, cn4, cn5, cn6⟩ := (HC.out.keep D2.out).cells HX.out) | (go_at_call 11; refine (HKO.out _ D2.out).mono ?_; rintro e z3 ⟨rfl, g3⟩; rw [g3]; clear g3 z3) | (go_at_call 13; refine (HMO.out _).mono ?_; rintro e z4 ⟨rfl, d4⟩; have D4 : Hid (Below y.heap.size y z4) := D2.out.trans (d4.mono D2.out.size); clear d4; obtain ⟨cn0, cn1, cn2, cn3, cn4, cn5, cn6⟩ := (HC.out.keep D4.out).cells HX.out) | (go_at_call 14; refine (HTO.out _ D4.out).mono ?_; rintro e z5 ⟨rfl, d5⟩; have D5 : Hid (Below y.heap.size y z5) := D4.out.trans (d5.mono D4.out.size); clear d5; obtain ⟨cn0, cn1, cn2, cn3, cn4, cn5, cn6⟩ := (HC.out.keep D5.out).cells HX.out) | (go_at_call 15; refine (HPO.out _ _).mono ?_; rintro e z6 ⟨rfl, g6⟩; rw [g6]; clear g6 z6))
    exact HRt.out _ _ rfl HN.out D4.out
  cases TX
  · have HN : Hid (¬ Pl.NdS xs xs.length i) := fun S => by have := S.text; rw [← HX.out, ← HTX.out] at this; cases this
    clear HKt
    go_wp2_with (first | (go_at_call 10; refine (HSO.out _).mono ?_; rintro e z1 ⟨rfl, g1⟩; rw [g1]; clear g1 z1) | (go_at_call 12; refine (HSH.out _).mono ?_; rintro e z2 ⟨rfl, d2⟩; have D2 : Hid (Below y.heap.size y z2) := d2; clear d2; obtain ⟨cn0, cn1, cn2, cn3, cn4, cn5, cn6⟩ := (HC.out.keep D2.out).cells HX.out) | (go_at_call 11; refine (HKO.out _ D2.out).mono ?_; rintro e z3 ⟨rfl, g3⟩; rw [g3]; clear g3 z3) | (go_at_call 13; refine (HMO.out _).mono ?_; rintro e z4 ⟨rfl, d4⟩; have D4 : Hid (Below y.heap.size y z4) := D2.out.trans (d4.mono D2.out.size); clear d4; obtain ⟨cn0, cn1, cn2, cn3, cn4, cn5, cn6⟩ := (HC.out.keep D4.out).cells HX.out) | (go_at_call 14; refine (HTO.out _ D4.out).mono ?_; rintro e z5 ⟨rfl, d5⟩; have D5 : Hid (Below y.heap.size y z5) := D4.out.trans (d5.mono D4.out.size); clear d5; obtain ⟨cn0, cn1, cn2, cn3, cn4, cn5, cn6⟩ := (HC.out.keep D5.out).cells HX.out) | (go_at_call 15; refine (HPO.out _ _).mono ?_; rintro e z6 ⟨rfl, g6⟩; rw [g6]; clear g6 z6))
    exact HRt.out _ _ rfl HN.out D5.out
  cases hL : Pl.plB x.line
  · have HN : Hid (¬ Pl.NdS xs xs.length i) := fun S => by have := S.line; rw [← HX.out, hL] at this; cases this
    clear HKt
    go_wp2_with (first | (go_at_call 10; refine (HSO.out _).mono ?_; rintro e z1 ⟨rfl, g1⟩; rw [g1]; clear g1 z1) | (go_at_call 12; refine (HSH.out _).mono ?_; rintro e z2 ⟨rfl, d2⟩; have D2 : Hid (Below y.heap.size y z2) := d2; clear d2; obtain ⟨cn0, cn1, cn2, cn3, cn4, cn5, cn6⟩ := (HC.out.keep D2.out).cells HX.out) | (go_at_call 11; refine (HKO.out _ D2.out).mono ?_; rintro e z3 ⟨rfl, g3⟩; rw [g3]; clear g3 z3) | (go_at_call 13; refine (HMO.out _).mono ?_; rintro e z4 ⟨rfl, d4⟩; have D4 : Hid (Below y.heap.size y z4) := D2.out.trans (d4.mono D2.out.size); clear d4; obtain ⟨cn0, cn1, cn2, cn3, cn4, cn5, cn6⟩ := (HC.out.keep D4.out).cells HX.out) | (go_at_call 14; refine (HTO.out _ D4.out).mono ?_; rintro e z5 ⟨rfl, d5⟩; have D5 : Hid (Below y.heap.size y z5) := D4.out.trans (d5.mono D4.out.size); clear d5; obtain ⟨cn0, cn1, cn2, cn3, cn4, cn5, cn6⟩ := (HC.out.keep D5.out).cells HX.out) | (go_at_call 15; refine (HPO.out _ _).mono ?_; rintro e z6 ⟨rfl, g6⟩; rw [g6]; clear g6 z6))
    exact HRt.out _ _ rfl HN.out D5.out
  cases hC : Pl.plB x.col
  · have HN : Hid (¬ Pl.NdS xs xs.length i) := fun S => by have := S.col; rw [← HX.out, hC] at this; cases this
    clear HKt
    go_wp2_with (first | (go_at_call 10; refine (HSO.out _).mono ?_; rintro e z1 ⟨rfl, g1⟩; rw [g1]; clear g1 z1) | (go_at_call 12; refine (HSH.out _).mono ?_; rintro e z2 ⟨rfl, d2⟩; have D2 : Hid (Below y.heap.size y z2) := d2; clear d2; obtain ⟨cn0, cn1, cn2, cn3, cn4, cn5, cn6⟩ := (HC.out.keep D2.out).cells HX.out) | (go_at_call 11; refine (HKO.out _ D2.out).mono ?_; rintro e z3 ⟨rfl, g3⟩; rw [g3]; clear g3 z3) | (go_at_call 13; refine (HMO.out _).mono ?_; rintro e z4 ⟨rfl, d4⟩; have D4 : Hid (Below y.heap.size y z4) := D2.out.trans (d4.mono D2.out.size); clear d4; obtain ⟨cn0, cn1, cn2, cn3, cn4, cn5, cn6⟩ := (HC.out.keep D4.out).cells HX.out) | (go_at_call 14; refine (HTO.out _ D4.out).mono ?_; rintro e z5 ⟨rfl, d5⟩; have D5 : Hid (Below y.heap.size y z5) := D4.out.trans (d5.mono D4.out.size); clear d5; obtain ⟨cn0, cn1, cn2, cn3, cn4, cn5, cn6⟩ := (HC.out.keep D5.out).cells HX.out) | (go_at_call 15; refine (HPO.out _ _).mono ?_; rintro e z6 ⟨rfl, g6⟩; rw [g6]; clear g6 z6))
    exact HRt.out _ _ rfl HN.out D5.out
  by_cases hta : 200 < hi
  · have HN : Hid (¬ Pl.NdS xs xs.length i) := fun S => by have := S.tall; rw [← HHI.out] at this; omega
    have htai : (200 : Int) < (hi : Int) := by omega
    clear HKt
    go_wp2_with (first | (go_at_call 10; refine (HSO.out _).mono ?_; rintro e z1 ⟨rfl, g1⟩; rw [g1]; clear g1 z1) | (go_at_call 12; refine (HSH.out _).mono ?_; rintro e z2 ⟨rfl, d2⟩; have D2 : Hid (Below y.heap.size y z2) := d2; clear d2; obtain ⟨cn0, cn1, cn2, cn3, cn4, cn5, cn6⟩ := (HC.out.keep D2.out).cells HX.out) | (go_at_call 11; refine (HKO.out _ D2.out).mono ?_; rintro e z3 ⟨rfl, g3⟩; rw [g3]; clear g3 z3) | (go_at_call 13; refine (HMO.out _).mono ?_; rintro e z4 ⟨rfl, d4⟩; have D4 : Hid (Below y.heap.size y z4) := D2.out.trans (d4.mono D2.out.size); clear d4; obtain ⟨cn0, cn1, cn2, cn3, cn4, cn5, cn6⟩ := (HC.out.keep D4.out).cells HX.out) | (go_at_call 14; refine (HTO.out _ D4.out).mono ?_; rintro e z5 ⟨rfl, d5⟩; have D5 : Hid (Below y.heap.size y z5) := D4.out.trans (d5.mono D4.out.size); clear d5; obtain ⟨cn0, cn1, cn2, cn3, cn4, cn5, cn6⟩ := (HC.out.keep D5.out).cells HX.out) | (go_at_call 15; refine (HPO.out _ _).mono ?_; rintro e z6 ⟨rfl, g6⟩; rw [g6]; clear g6 z6))
    exact HRt.out _ _ rfl HN.out D5.out
  have htai : ¬ (200 : Int) < (hi : Int) := by omega
  have HF : Hid (F24 xs i) := ⟨by rw [← HX.out]; exact HN1.out, HKB.out.symm, by rw [← HX.out]; exact HMB.out.symm, by rw [← HX.out]; exact HTX.out.symm, by rw [← HX.out]; exact hL, by rw [← HX.out]; exact hC, by rw [← HHI.out]; omega⟩
  clear HRt
  go_wp2_with (first | (go_at_call 10; refine (HSO.out _).mono ?_; rintro e z1 ⟨rfl, g1⟩; rw [g1]; clear g1 z1) | (go_at_call 12; refine (HSH.out _).mono ?_; rintro e z2 ⟨rfl, d2⟩; have D2 : Hid (Below y.heap.size y z2) := d2; clear d2; obtain ⟨cn0, cn1, cn2, cn3, cn4, cn5, cn6⟩ := (HC.out.keep D2.out).cells HX.out) | (go_at_call 11; refine (HKO.out _ D2.out).mono ?_; rintro e z3 ⟨rfl, g3⟩; rw [g3]; clear g3 z3) | (go_at_call 13; refine (HMO.out _).mono ?_; rintro e z4 ⟨rfl, d4⟩; have D4 : Hid (Below y.heap.size y z4) := D2.out.trans (d4.mono D2.out.size); clear d4; obtain ⟨cn0, cn1, cn2, cn3, cn4, cn5, cn6⟩ := (HC.out.keep D4.out).cells HX.out) | (go_at_call 14; refine (HTO.out _ D4.out).mono ?_; rintro e z5 ⟨rfl, d5⟩; have D5 : Hid (Below y.heap.size y z5) := D4.out.trans (d5.mono D4.out.size); clear d5; obtain ⟨cn0, cn1, cn2, cn3, cn4, cn5, cn6⟩ := (HC.out.keep D5.out).cells HX.out) | (go_at_call 15; refine (HPO.out _ _).mono ?_; rintro e z6 ⟨rfl, g6⟩; rw [g6]; clear g6 z6))
  exact HKt.out _ _ _ _ _ _ _ _ _ _ _ _ _ _ _ _ _ _ _ _ _ _ _ _ _ _ _ _ _ _ _ _ _ _ _ _ _ _ _ _ D5.out HF.out
end Go.Proofs.YteadglnenaiaaaaGreatDoor.W
namespace Go.Proofs.YteadglnenaiaaaaGreatDoor.W
open Go.RowKit
structure F26 (xs : List Pl.Nd) (i : Nat) : Prop where
  els : ¬ ((Pl.nd xs i).k = 21 ∧ (Pl.nd xs i).kids.length = 3 ∧ (Pl.opF xs i).getD ((Pl.nd xs i).kids.getD 1 0).toNat false = true)
structure F28 (xs : List Pl.Nd) (i : Nat) : Prop where
  void : ¬ ((Pl.nd xs i).k = 4 ∧ (Pl.nd xs i).kids.length = 2 ∧ Pl.voidP xs (i - 1))
set_option maxRecDepth 1000000 in
set_option maxHeartbeats 8000000 in
theorem t26_is {lo : Nat} {w w0 y : World} {xs : List Pl.Nd} {len cap i : Nat} {l : List Nat} {gb cb gt ct go co ga m ca gn : Nat} {va : Option Addr} {vl vc b off a hi gk : Nat} (hp : TP xs len i l vl a) (hc : TC lo w w0 y xs len cap i l gb cb gt ct go co ga m ca gn va vl vc b off)  (c0 c12 c13 c14 c15 c16 c17 c18 c19 c20 c21 c22 c23 c24 c25 c26 c27 c28 c29 c30 c31 c32 c33 c34 c35 c36 c37 c38 c39 c40 c41 c42 c43 c44 c45 c46 c47 c48 c49 c50 c51 c52 c53 c54 c55 c56 c57 c58 c59 c60 c61 c62 c63 c64 c65 c66 c67 c68 c69 c70 c71 c72 c73 c74 c75 c76 c77 c78 c79 c80 c81 c82 c83 c84 c85 c86 c87 c88 c89 c90 c91 c92 c93 c94 c95 c96 c97 c98 c99 c100 c101 c102 c103 c104 c105 c106 c107 c108 c109 c110 c111 c112 c113 c114 c115 c116 c117 c118 c119 c120 c121 c122 c123 c124 c125 c126 c127 c128 c129 c130 c131 c132 c133 c134 c135 c136 c137 c138 c139 c140 c141 c142 c143 c144 c145 c146 c147 c148 c149 c150 c151 c152 c153 c154 c155 c156 c157 c158 c159 c160 c161 c162 c163 c164 c165 c166 c167 c168 c169 c170 c171 c172 c173 c174 c175 c176 c177 c178 c179 c180 c181 c182 c183 c184 c185 c186 c187 c188 c189 c190 c191 c192 c193 c194 c195 c196 c197 c198 c199 c200 c201 c202 c203 c204 c205 c206 c207 c208 c209 c210 c211 c212 c213 c214 c215 c216 c217 c218 c219 c220 c221 c222 c223 c224 c225 c226 c227 c228 c229 c230 c231 c232 c233 c234 c235 c236 c237 c238 c239 c240 c241 c242 c243 c244 c245 c246 c247 c248 c249 c250 c251 c252 c253 c254 c255 c256 c257 c258 c259 c260 c261 c262 c263 c264 c265 c266 c267 c268 c269 c270 c271 c272 c273 c274 c275 c276 c277 c278 c279 c280 : Value) (K : Act → World → Prop) (Q : Exit → Act → World → Prop)
    (hR : ∀ (tmps : Array Value) (y' : World), tmps.getD 2 undef = .bool false → ¬ Pl.NdS xs xs.length i → Below y.heap.size y y' → Q .ret { tmps := tmps, defers := [] } y')
    (hK : ∀ (s131 s132 s133 s134 s135 s136 s137 s138 s139 s140 s141 s142 s143 s144 s145 s146 s147 s148 : Value)  (y' : World), Below y.heap.size y y' → F26 xs i → K { tmps := #[c0, .pointer (some ⟨w.heap.size, 0, none⟩), .bool false, .slice (some ⟨gb, 0, none⟩) i cb, .slice (some ⟨gt, 0, none⟩) i ct, .slice (some ⟨go, 0, none⟩) i co, .slice (some ⟨ga, 0, none⟩) m ca, .int .i64 (i : Int), .pointer (some ⟨gn, 0, none⟩), .int .i64 (a : Int), .int .i64 (hi : Int), .slice (some ⟨gk, 0, none⟩) vl vl, c12, c13, c14, c15, c16, c17, c18, c19, c20, c21, c22, c23, c24, c25, c26, c27, c28, c29, c30, c31, c32, c33, c34, c35, c36, c37, c38, c39, c40, c41, c42, c43, c44, c45, c46, c47, c48, c49, c50, c51, c52, c53, c54, c55, c56, c57, c58, c59, c60, c61, c62, c63, c64, c65, c66, c67, c68, c69, c70, c71, c72, c73, c74, c75, c76, c77, c78, c79, c80, c81, c82, c83, c84, c85, c86, c87, c88, c89, c90, c91, c92, c93, c94, c95, c96, c97, c98, c99, c100, c101, c102, c103, c104, c105, c106, c107, c108, c109, c110, c111, c112, c113, c114, c115, c116, c117, c118, c119, c120, c121, c122, c123, c124, c125, c126, c127, c128, c129, c130, s131, s132, s133, s134, s135, s136, s137, s138, s139, s140, s141, s142, s143, s144, s145, s146, s147, s148, c149, c150, c151, c152, c153, c154, c155, c156, c157, c158, c159, c160, c161, c162, c163, c164, c165, c166, c167, c168, c169, c170, c171, c172, c173, c174, c175, c176, c177, c178, c179, c180, c181, c182, c183, c184, c185, c186, c187, c188, c189, c190, c191, c192, c193, c194, c195, c196, c197, c198, c199, c200, c201, c202, c203, c204, c205, c206, c207, c208, c209, c210, c211, c212, c213, c214, c215, c216, c217, c218, c219, c220, c221, c222, c223, c224, c225, c226, c227, c228, c229, c230, c231, c232, c233, c234, c235, c236, c237, c238, c239, c240, c241, c242, c243, c244, c245, c246, c247, c248, c249, c250, c251, c252, c253, c254, c255, c256, c257, c258, c259, c260, c261, c262, c263, c264, c265, c266, c267, c268, c269, c270, c271, c272, c273, c274, c275, c276, c277, c278, c279, c280], defers := [] } y') :
    (tokC 26).wp Tryz.prog (Exit.then K Q) { tmps := #[c0, .pointer (some ⟨w.heap.size, 0, none⟩), .bool false, .slice (some ⟨gb, 0, none⟩) i cb, .slice (some ⟨gt, 0, none⟩) i ct, .slice (some ⟨go, 0, none⟩) i co, .slice (some ⟨ga, 0, none⟩) m ca, .int .i64 (i : Int), .pointer (some ⟨gn, 0, none⟩), .int .i64 (a : Int), .int .i64 (hi : Int), .slice (some ⟨gk, 0, none⟩) vl vl, c12, c13, c14, c15, c16, c17, c18, c19, c20, c21, c22, c23, c24, c25, c26, c27, c28, c29, c30, c31, c32, c33, c34, c35, c36, c37, c38, c39, c40, c41, c42, c43, c44, c45, c46, c47, c48, c49, c50, c51, c52, c53, c54, c55, c56, c57, c58, c59, c60, c61, c62, c63, c64, c65, c66, c67, c68, c69, c70, c71, c72, c73, c74, c75, c76, c77, c78, c79, c80, c81, c82, c83, c84, c85, c86, c87, c88, c89, c90, c91, c92, c93, c94, c95, c96, c97, c98, c99, c100, c101, c102, c103, c104, c105, c106, c107, c108, c109, c110, c111, c112, c113, c114, c115, c116, c117, c118, c119, c120, c121, c122, c123, c124, c125, c126, c127, c128, c129, c130, c131, c132, c133, c134, c135, c136, c137, c138, c139, c140, c141, c142, c143, c144, c145, c146, c147, c148, c149, c150, c151, c152, c153, c154, c155, c156, c157, c158, c159, c160, c161, c162, c163, c164, c165, c166, c167, c168, c169, c170, c171, c172, c173, c174, c175, c176, c177, c178, c179, c180, c181, c182, c183, c184, c185, c186, c187, c188, c189, c190, c191, c192, c193, c194, c195, c196, c197, c198, c199, c200, c201, c202, c203, c204, c205, c206, c207, c208, c209, c210, c211, c212, c213, c214, c215, c216, c217, c218, c219, c220, c221, c222, c223, c224, c225, c226, c227, c228, c229, c230, c231, c232, c233, c234, c235, c236, c237, c238, c239, c240, c241, c242, c243, c244, c245, c246, c247, c248, c249, c250, c251, c252, c253, c254, c255, c256, c257, c258, c259, c260, c261, c262, c263, c264, c265, c266, c267, c268, c269, c270, c271, c272, c273, c274, c275, c276, c277, c278, c279, c280], defers := [] } y := by
  have HRt : Hid (∀ (tmps : Array Value) (y' : World), tmps.getD 2 undef = .bool false → ¬ Pl.NdS xs xs.length i → Below y.heap.size y y' → Q .ret { tmps := tmps, defers := [] } y') := hR
  have HKt : Hid _ := hK
  have HP : Hid (TP xs len i l vl a) := hp
  have HC : Hid (TC lo w w0 y xs len cap i l gb cb gt ct go co ga m ca gn va vl vc b off) := hc
  clear hR hK
  conv => arg 2; whnf
  obtain ⟨x, hx⟩ : ∃ x, x = Pl.nd xs i := ⟨_, rfl⟩
  have HX : Hid (x = Pl.nd xs i) := hx
  obtain ⟨cn0, cn1, cn2, cn3, cn4, cn5, cn6⟩ := hc.cells hx
  have HVK : Hid (x.kids.length = vl) := by show x.kids.length = vl; rw [hx]; exact hp.vk
  have hvl : vl ≤ 1048576 := by rw [← hp.vk]; exact hp.kl i hp.hi
  have hvl2 : (vl : Int) ≤ 9223372036854775807 := by omega
  clear hp hc hx hvl
  have HFF : Hid (¬ ((Pl.nd xs i).k = 21 ∧ (Pl.nd xs i).kids.length = 3 ∧ (Pl.opF xs i).getD ((Pl.nd xs i).kids.getD 1 0).toNat false = true) → F26 xs i) := fun q => ⟨q⟩
  by_cases k21 : x.k = 21
  rotate_left
  · have HF : Hid (F26 xs i) := HFF.out fun q => k21 (by rw [HX.out]; exact q.1)
    have k21b : (x.k == 21) = false := by simpa using k21
    clear k21 HRt
    go_wp2_with fail
    exact HKt.out _ _ _ _ _ _ _ _ _ _ _ _ _ _ _ _ _ _ _ (Below.refl _ _) HF.out
  have k21b : (x.k == 21) = true := by simpa using k21
  have K21 : Hid (x.k = 21) := k21
  clear k21
  by_cases j3 : vl = 3
  rotate_left
  · have HF : Hid (F26 xs i) := HFF.out fun q => j3 (by rw [← HVK.out, HX.out]; exact q.2.1)
    have j3b : ((vl : Int) == 3) = false := by simp; omega
    clear j3 HRt
    go_wp2_with fail
    exact HKt.out _ _ _ _ _ _ _ _ _ _ _ _ _ _ _ _ _ _ _ (Below.refl _ _) HF.out
  have j3b : ((vl : Int) == 3) = true := by simp; omega
  have j1 : (1 : Int) < (vl : Int) := by omega
  have J3 : Hid (vl = 3) := j3
  obtain ⟨c, hc, hci⟩ := HP.out.kid (q := 1) (by omega)
  rw [← HX.out] at hc
  have hrow := HC.out.row
  rw [← HX.out] at hrow
  obtain ⟨b2, o2, hva, hb2, hcz⟩ := row_cell hrow (i := 1) (by omega)
  have HVA : Hid (va = some ⟨b2, o2, none⟩) := hva
  rw [hva] at cn4
  clear j3 hrow hva
  rw [hc] at hcz
  have hcii : (c : Int) < (i : Int) := by omega
  have cop := own_bool HC.out.tb.oo hci
  obtain ⟨ob, hob⟩ : ∃ ob, ob = (Pl.opF xs i).getD c false := ⟨_, rfl⟩
  rw [← hob] at cop
  have q3 : ((Pl.nd xs i).kids.getD 1 0).toNat = c := by rw [← HX.out, hc, Int.toNat_natCast]
  have HOB : Hid ((Pl.opF xs i).getD ((Pl.nd xs i).kids.getD 1 0).toNat false = ob) := by show (Pl.opF xs i).getD ((Pl.nd xs i).kids.getD 1 0).toNat false = ob; rw [q3, hob]
  clear hob hc q3
  cases ob
  · have HF : Hid (F26 xs i) := HFF.out fun q => by rw [HOB.out] at q; cases q.2.2
    clear HRt
    go_wp2_with fail
    exact HKt.out _ _ _ _ _ _ _ _ _ _ _ _ _ _ _ _ _ _ _ (Below.refl _ _) HF.out
  · have HN : Hid (¬ Pl.NdS xs xs.length i) := fun S => S.els ⟨by rw [← HX.out]; exact K21.out, by rw [← HX.out, HVK.out]; exact J3.out, HOB.out⟩
    clear HKt
    go_wp2_with fail
    exact HRt.out _ _ rfl HN.out (Below.refl _ _)
end Go.Proofs.YteadglnenaiaaaaGreatDoor.W
