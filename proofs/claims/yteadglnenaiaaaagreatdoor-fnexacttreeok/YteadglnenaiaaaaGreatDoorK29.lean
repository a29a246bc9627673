import Derived.Test.YteadglnenaiaaaaGreatDoorK28
import Derived.Deep.QuietTactic
import Derived.BigQuiet
import Derived.Test.YteadglnenaiaaaaGreatDoorK16
set_option linter.unusedVariables false
set_option linter.unusedSimpArgs false
namespace Go.Proofs.YteadglnenaiaaaaGreatDoor.W
open Go.RowKit
set_option maxRecDepth 1000000 in
set_option maxHeartbeats 8000000 in
theorem t28_is {lo : Nat} {w w0 y : World} {xs : List Pl.Nd} {len cap i : Nat} {l : List Nat} {gb cb gt ct go co ga m ca gn : Nat} {va : Option Addr} {vl vc b off a hi gk : Nat} (hp : TP xs len i l vl a) (hc : TC lo w w0 y xs len cap i l gb cb gt ct go co ga m ca gn va vl vc b off) (hf : F24 xs i) (c0 c12 c13 c14 c15 c16 c17 c18 c19 c20 c21 c22 c23 c24 c25 c26 c27 c28 c29 c30 c31 c32 c33 c34 c35 c36 c37 c38 c39 c40 c41 c42 c43 c44 c45 c46 c47 c48 c49 c50 c51 c52 c53 c54 c55 c56 c57 c58 c59 c60 c61 c62 c63 c64 c65 c66 c67 c68 c69 c70 c71 c72 c73 c74 c75 c76 c77 c78 c79 c80 c81 c82 c83 c84 c85 c86 c87 c88 c89 c90 c91 c92 c93 c94 c95 c96 c97 c98 c99 c100 c101 c102 c103 c104 c105 c106 c107 c108 c109 c110 c111 c112 c113 c114 c115 c116 c117 c118 c119 c120 c121 c122 c123 c124 c125 c126 c127 c128 c129 c130 c131 c132 c133 c134 c135 c136 c137 c138 c139 c140 c141 c142 c143 c144 c145 c146 c147 c148 c149 c150 c151 c152 c153 c154 c155 c156 c157 c158 c159 c160 c161 c162 c163 c164 c165 c166 c167 c168 c169 c170 c171 c172 c173 c174 c175 c176 c177 c178 c179 c180 c181 c182 c183 c184 c185 c186 c187 c188 c189 c190 c191 c192 c193 c194 c195 c196 c197 c198 c199 c200 c201 c202 c203 c204 c205 c206 c207 c208 c209 c210 c211 c212 c213 c214 c215 c216 c217 c218 c219 c220 c221 c222 c223 c224 c225 c226 c227 c228 c229 c230 c231 c232 c233 c234 c235 c236 c237 c238 c239 c240 c241 c242 c243 c244 c245 c246 c247 c248 c249 c250 c251 c252 c253 c254 c255 c256 c257 c258 c259 c260 c261 c262 c263 c264 c265 c266 c267 c268 c269 c270 c271 c272 c273 c274 c275 c276 c277 c278 c279 c280 : Value) (K : Act → World → Prop) (Q : Exit → Act → World → Prop)
    (hR : ∀ (tmps : Array Value) (y' : World), tmps.getD 2 undef = .bool false → ¬ Pl.NdS xs xs.length i → Below y.heap.size y y' → Q .ret { tmps := tmps, defers := [] } y')
    (hK : ∀ (s149 s150 s151 s152 s153 s154 s155 s156 s157 s158 s159 s160 s161 s162 s163 s164 s165 s166 s167 s168 s169 s170 s171 s172 s173 s174 s175 s176 s177 s178 s179 s180 s181 s182 s183 s184 s185 s186 s187 s188 s189 s190 s191 s192 s193 s194 s195 s196 s197 s198 s199 s200 s201 : Value)  (y' : World), Below y.heap.size y y' → F28 xs i → K { tmps := #[c0, .pointer (some ⟨w.heap.size, 0, none⟩), .bool false, .slice (some ⟨gb, 0, none⟩) i cb, .slice (some ⟨gt, 0, none⟩) i ct, .slice (some ⟨go, 0, none⟩) i co, .slice (some ⟨ga, 0, none⟩) m ca, .int .i64 (i : Int), .pointer (some ⟨gn, 0, none⟩), .int .i64 (a : Int), .int .i64 (hi : Int), .slice (some ⟨gk, 0, none⟩) vl vl, c12, c13, c14, c15, c16, c17, c18, c19, c20, c21, c22, c23, c24, c25, c26, c27, c28, c29, c30, c31, c32, c33, c34, c35, c36, c37, c38, c39, c40, c41, c42, c43, c44, c45, c46, c47, c48, c49, c50, c51, c52, c53, c54, c55, c56, c57, c58, c59, c60, c61, c62, c63, c64, c65, c66, c67, c68, c69, c70, c71, c72, c73, c74, c75, c76, c77, c78, c79, c80, c81, c82, c83, c84, c85, c86, c87, c88, c89, c90, c91, c92, c93, c94, c95, c96, c97, c98, c99, c100, c101, c102, c103, c104, c105, c106, c107, c108, c109, c110, c111, c112, c113, c114, c115, c116, c117, c118, c119, c120, c121, c122, c123, c124, c125, c126, c127, c128, c129, c130, c131, c132, c133, c134, c135, c136, c137, c138, c139, c140, c141, c142, c143, c144, c145, c146, c147, c148, s149, s150, s151, s152, s153, s154, s155, s156, s157, s158, s159, s160, s161, s162, s163, s164, s165, s166, s167, s168, s169, s170, s171, s172, s173, s174, s175, s176, s177, s178, s179, s180, s181, s182, s183, s184, s185, s186, s187, s188, s189, s190, s191, s192, s193, s194, s195, s196, s197, s198, s199, s200, s201, c202, c203, c204, c205, c206, c207, c208, c209, c210, c211, c212, c213, c214, c215, c216, c217, c218, c219, c220, c221, c222, c223, c224, c225, c226, c227, c228, c229, c230, c231, c232, c233, c234, c235, c236, c237, c238, c239, c240, c241, c242, c243, c244, c245, c246, c247, c248, c249, c250, c251, c252, c253, c254, c255, c256, c257, c258, c259, c260, c261, c262, c263, c264, c265, c266, c267, c268, c269, c270, c271, c272, c273, c274, c275, c276, c277, c278, c279, c280], defers := [] } y') :
    (tokC 28).wp Tryz.prog (Exit.then K Q) { tmps := #[c0, .pointer (some ⟨w.heap.size, 0, none⟩), .bool false, .slice (some ⟨gb, 0, none⟩) i cb, .slice (some ⟨gt, 0, none⟩) i ct, .slice (some ⟨go, 0, none⟩) i co, .slice (some ⟨ga, 0, none⟩) m ca, .int .i64 (i : Int), .pointer (some ⟨gn, 0, none⟩), .int .i64 (a : Int), .int .i64 (hi : Int), .slice (some ⟨gk, 0, none⟩) vl vl, c12, c13, c14, c15, c16, c17, c18, c19, c20, c21, c22, c23, c24, c25, c26, c27, c28, c29, c30, c31, c32, c33, c34, c35, c36, c37, c38, c39, c40, c41, c42, c43, c44, c45, c46, c47, c48, c49, c50, c51, c52, c53, c54, c55, c56, c57, c58, c59, c60, c61, c62, c63, c64, c65, c66, c67, c68, c69, c70, c71, c72, c73, c74, c75, c76, c77, c78, c79, c80, c81, c82, c83, c84, c85, c86, c87, c88, c89, c90, c91, c92, c93, c94, c95, c96, c97, c98, c99, c100, c101, c102, c103, c104, c105, c106, c107, c108, c109, c110, c111, c112, c113, c114, c115, c116, c117, c118, c119, c120, c121, c122, c123, c124, c125, c126, c127, c128, c129, c130, c131, c132, c133, c134, c135, c136, c137, c138, c139, c140, c141, c142, c143, c144, c145, c146, c147, c148, c149, c150, c151, c152, c153, c154, c155, c156, c157, c158, c159, c160, c161, c162, c163, c164, c165, c166, c167, c168, c169, c170, c171, c172, c173, c174, c175, c176, c177, c178, c179, c180, c181, c182, c183, c184, c185, c186, c187, c188, c189, c190, c191, c192, c193, c194, c195, c196, c197, c198, c199, c200, c201, c202, c203, c204, c205, c206, c207, c208, c209, c210, c211, c212, c213, c214, c215, c216, c217, c218, c219, c220, c221, c222, c223, c224, c225, c226, c227, c228, c229, c230, c231, c232, c233, c234, c235, c236, c237, c238, c239, c240, c241, c242, c243, c244, c245, c246, c247, c248, c249, c250, c251, c252, c253, c254, c255, c256, c257, c258, c259, c260, c261, c262, c263, c264, c265, c266, c267, c268, c269, c270, c271, c272, c273, c274, c275, c276, c277, c278, c279, c280], defers := [] } y := by
  have HRt : Hid (∀ (tmps : Array Value) (y' : World), tmps.getD 2 undef = .bool false → ¬ Pl.NdS xs xs.length i → Below y.heap.size y y' → Q .ret { tmps := tmps, defers := [] } y') := hR
  have HKt : Hid _ := hK
  have HP : Hid (TP xs len i l vl a) := hp
  have HC : Hid (TC lo w w0 y xs len cap i l gb cb gt ct go co ga m ca gn va vl vc b off) := hc
  clear hR hK
  conv => arg 2; whnf
  obtain ⟨x, hx⟩ : ∃ x, x = Pl.nd xs i := ⟨_, rfl⟩
  have HX : Hid (x = Pl.nd xs i) := hx
  obtain ⟨cn0, cn1, cn2, cn3, cn4, cn5, cn6⟩ := hc.cells hx
  have HVK : Hid (x.kids.length = vl) := by show x.kids.length = vl; rw [hx]; exact hp.vk
  have hvl : vl ≤ 1048576 := by rw [← hp.vk]; exact hp.kl i hp.hi
  have hvl2 : (vl : Int) ≤ 9223372036854775807 := by omega
  have hilt := hp.hi
  have hl4 := hp.l4
  have HFF : Hid (¬ ((Pl.nd xs i).k = 4 ∧ (Pl.nd xs i).kids.length = 2 ∧ Pl.voidP xs (i - 1)) → F28 xs i) := fun q => ⟨q⟩
  have k0 : y.cell? ⟨w.heap.size, 0, none⟩ = some (.slice (some ⟨b, off, none⟩) len cap) := cell_of_row y _ 0 _ 29 (0, 0) hc.box
  have DN : Hid (∀ n, Below y.heap.size y (y.drewN n)) := fun n => below_drewN (Below.refl _ _) n
  clear hp hc hx hvl
  by_cases k4 : x.k = 4
  rotate_left
  · have HF : Hid (F28 xs i) := HFF.out fun q => k4 (by rw [HX.out]; exact q.1)
    have k4b : (x.k == 4) = false := by simpa using k4
    clear k4 HRt
    go_upto_region 28 with fail
    dsimp only
    go_big_quiet (fail)
    go_wp2_with fail
    exact HKt.out _ _ _ _ _ _ _ _ _ _ _ _ _ _ _ _ _ _ _ _ _ _ _ _ _ _ _ _ _ _ _ _ _ _ _ _ _ _ _ _ _ _ _ _ _ _ _ _ _ _ _ _ _ _ (DN.out _) HF.out
  have k4b : (x.k == 4) = true := by simpa using k4
  have K4 : Hid (x.k = 4) := k4
  clear k4
  by_cases j2 : vl = 2
  rotate_left
  · have HF : Hid (F28 xs i) := HFF.out fun q => j2 (by rw [← HVK.out, HX.out]; exact q.2.1)
    have j2b : ((vl : Int) == 2) = false := by simp; omega
    clear j2 HRt
    go_upto_region 28 with fail
    dsimp only
    go_big_quiet (fail)
    go_wp2_with fail
    exact HKt.out _ _ _ _ _ _ _ _ _ _ _ _ _ _ _ _ _ _ _ _ _ _ _ _ _ _ _ _ _ _ _ _ _ _ _ _ _ _ _ _ _ _ _ _ _ _ _ _ _ _ _ _ _ _ (DN.out _) HF.out
  have j2b : ((vl : Int) == 2) = true := by simp; omega
  have J2 : Hid (vl = 2) := j2
  obtain ⟨hi1, hpk⟩ := Pl.param_kid (l := l ++ [a]) HP.out.ord.2 (by rw [← HX.out]; exact K4.out) (by rw [HP.out.vk]; exact J2.out) hf.kids HP.out.nd
  obtain ⟨p, hpi⟩ : ∃ p, i = p + 1 := ⟨i - 1, by omega⟩
  have hip : (i : Int) - 1 = (p : Int) := by omega
  have hipw : IntKind.i64.wrap ((i : Int) - 1) = (p : Int) := by rw [IntKind.wrap_i64]; omega
  have hpl : p < len := by omega
  have hpll : (p : Int) < (len : Int) := by omega
  have hpii : i - 1 = p := by omega
  rw [hpii] at hpk
  obtain ⟨b', off', v', eb, _, hb3, hcp, hrp, _⟩ := HC.out.nrow.at hpl
  simp only [Option.some.injEq, Addr.mk.injEq, and_true] at eb
  obtain ⟨rfl, rfl⟩ := eb
  obtain ⟨va', vl', vc'⟩ := v'
  obtain ⟨xp, hxp⟩ : ∃ xp, xp = xs.getD p Pl.Nd.zero := ⟨_, rfl⟩
  have HXP : Hid (xp = Pl.nd xs p) := hxp
  rw [← hxp] at hcp hrp
  obtain ⟨_, _, _, d3, d4, _, _⟩ := nd_cells hcp
  have hvl' : xp.kids.length = vl' := hrp.1
  have hkp : 1 ≤ vl' := by rw [← hvl', HXP.out]; exact hpk
  have hkpi : (0 : Int) < (vl' : Int) := by omega
  obtain ⟨b2, o2, hva, hb2, hcz⟩ := row_cell hrp (i := 0) (by show 0 < vl'; omega)
  obtain ⟨c, hc1, hc2, _⟩ := HP.out.ord.2.kid p (by omega) (xp.kids.getD 0 0) (by rw [HXP.out] at hvl' ⊢; exact Pl.getD_mem (by rw [hvl']; exact hkp))
  rw [hc1] at hcz
  change va' = _ at hva
  subst hva
  rw [Nat.add_zero] at hcz
  have hcl : c < len := by omega
  have hcll : (c : Int) < (len : Int) := by omega
  obtain ⟨b'', off'', v'', eb, _, hb4, hcq, _, _⟩ := HC.out.nrow.at hcl
  simp only [Option.some.injEq, Addr.mk.injEq, and_true] at eb
  obtain ⟨rfl, rfl⟩ := eb
  obtain ⟨xq, hxq⟩ : ∃ xq, xq = xs.getD c Pl.Nd.zero := ⟨_, rfl⟩
  have HXQ : Hid (xq = Pl.nd xs c) := hxq
  rw [← hxq] at hcq
  obtain ⟨f0, _, f2, _, _, _, _⟩ := nd_cells hcq
  have HVD : Hid (Pl.voidP xs (i - 1) ↔ xp.s.size = 0 ∧ xq.k = 1 ∧ xq.n = 1) := by
    show Pl.voidP xs (i - 1) ↔ _
    unfold Pl.voidP
    rw [hpii, ← HXP.out, hc1, Int.toNat_natCast, ← HXQ.out]
  have HPI : Hid (i = p + 1) := hpi
  clear hpi hpii hpk hcp hrp hxp hvl' hc1 hcq hxq j2 hf hi1
  by_cases s0 : xp.s.size = 0
  rotate_left
  · have HF : Hid (F28 xs i) := HFF.out fun q => s0 (HVD.out.mp q.2.2).1
    have s0e : xp.s.toList.isEmpty = false := by rw [← Bool.not_eq_true]; intro q; exact s0 (by rw [List.isEmpty_iff, Pl.nil_iff] at q; exact q)
    have s0b : (xp.s.toList == []) = false := by simpa using fun q => s0 (by rw [Pl.nil_iff] at q; exact q)
    clear s0 HRt
    go_upto_region 28 with fail
    dsimp only
    go_big_quiet (fail)
    go_wp2_with fail
    exact HKt.out _ _ _ _ _ _ _ _ _ _ _ _ _ _ _ _ _ _ _ _ _ _ _ _ _ _ _ _ _ _ _ _ _ _ _ _ _ _ _ _ _ _ _ _ _ _ _ _ _ _ _ _ _ _ (DN.out _) HF.out
  have s0e : xp.s.toList.isEmpty = true := by rw [List.isEmpty_iff, Pl.nil_iff]; exact s0
  have s0b : (xp.s.toList == []) = true := by simpa using (Pl.nil_iff _).mpr s0
  by_cases q1 : xq.k = 1
  rotate_left
  · have HF : Hid (F28 xs i) := HFF.out fun q => q1 (HVD.out.mp q.2.2).2.1
    have q1b : (xq.k == 1) = false := by simpa using q1
    clear q1 HRt
    go_upto_region 28 with fail
    dsimp only
    go_big_quiet (fail)
    go_wp2_with fail
    exact HKt.out _ _ _ _ _ _ _ _ _ _ _ _ _ _ _ _ _ _ _ _ _ _ _ _ _ _ _ _ _ _ _ _ _ _ _ _ _ _ _ _ _ _ _ _ _ _ _ _ _ _ _ _ _ _ (DN.out _) HF.out
  have q1b : (xq.k == 1) = true := by simpa using q1
  have Q1 : Hid (xq.k = 1) := q1
  have S0 : Hid (xp.s.size = 0) := s0
  clear q1 s0
  by_cases q2 : xq.n = 1
  rotate_left
  · have HF : Hid (F28 xs i) := HFF.out fun q => q2 (HVD.out.mp q.2.2).2.2
    have q2b : (xq.n == 1) = false := by simpa using q2
    clear q2 HRt
    go_upto_region 28 with fail
    dsimp only
    go_big_quiet (fail)
    go_wp2_with fail
    exact HKt.out _ _ _ _ _ _ _ _ _ _ _ _ _ _ _ _ _ _ _ _ _ _ _ _ _ _ _ _ _ _ _ _ _ _ _ _ _ _ _ _ _ _ _ _ _ _ _ _ _ _ _ _ _ _ (DN.out _) HF.out
  have q2b : (xq.n == 1) = true := by simpa using q2
  have HN : Hid (¬ Pl.NdS xs xs.length i) := fun S => S.void ⟨by rw [← HX.out]; exact K4.out, by rw [← HX.out, HVK.out]; exact J2.out, HVD.out.mpr ⟨S0.out, Q1.out, q2⟩⟩
  clear q2 HKt
  go_upto_region 28 with fail
  dsimp only
  go_big_quiet (fail)
  go_wp2_with fail
  exact HRt.out _ _ rfl HN.out (DN.out _)
end Go.Proofs.YteadglnenaiaaaaGreatDoor.W
namespace Go.Proofs.YteadglnenaiaaaaGreatDoor.W
open Go.RowKit
theorem block_ne {y : World} {p q : Nat} {c1 c2 : Array Value} {t1 t2 : TypeId} {f1 f2 : Nat × Nat} (h1 : y.heap[p]? = some (.cells c1 t1 f1)) (h2 : y.heap[q]? = some (.cells c2 t2 f2)) (hne : t1 ≠ t2) : p ≠ q := by
  rintro rfl
  rw [h1] at h2
  simp only [Option.some.injEq, Obj.cells.injEq] at h2
  exact hne h2.2.1
theorem own_rowI {base : Nat} {e : TypeId} {k : Nat} {g n cap : Nat} {xs : List Value} {w : World} (h : w.ownsRow base e k (.slice (some ⟨g, 0, none⟩) n cap) n xs) : ∃ cur, w.heap[g]? = some (.cells cur e (0, 0)) := by
  rcases h.2 with ⟨h', _⟩ | ⟨g', cap', cur, h', hb, hg, _⟩
  · simp at h'
  · simp only [Value.slice.injEq, Option.some.injEq, Addr.mk.injEq, and_true, true_and] at h'
    obtain ⟨rfl, _⟩ := h'
    exact ⟨cur, hg⟩
theorem own_keptI {base : Nat} {e : TypeId} {k : Nat} {g n cap : Nat} {xs : List Value} {w w' : World} {g' : Nat} (h : w.ownsRow base e k (.slice (some ⟨g, 0, none⟩) n cap) n xs) (hg : w.grownBy w' (some g')) (hne : g ≠ g') : w'.ownsRow base e k (.slice (some ⟨g, 0, none⟩) n cap) n xs :=
  h.kept hg (.inr (by show some g ≠ some g'; simpa using hne))
theorem blk_keptI {w w' : World} {p g' : Nat} {o : Obj} (h : w.heap[p]? = some o) (hg : w.grownBy w' (some g')) (hne : p ≠ g') : w'.heap[p]? = some o :=
  (hg.block p (Array.getElem?_eq_some_iff.1 h).1 (by simpa using hne)).trans h
theorem one_news (w : World) (A : Value) (t : TypeId) (j : Nat) (u : Value) (hj : [A][j]? = some u) : (w.alloc (.cells #[A] t)).cell? ((⟨w.heap.size, 0, none⟩ : Addr).add j) = some u := by
  rcases j with _ | j
  · cases hj
    exact cell_of_row _ w.heap.size 0 _ t (0, 0) (heap_alloc_new w _)
  · simp at hj
theorem Tryz.infobool : (Tryz.prog.info? 4).map (fun i => (i.zero, i.size, i.bytes)) = some (some (.bool false), 1, 1) := by kernel_rfl
theorem Tryz.infostring : (Tryz.prog.info? 9).map (fun i => (i.zero, i.size, i.bytes)) = some (some (.string ⟨#[]⟩), 1, 16) := by kernel_rfl
structure TD (lo : Nat) (w w0 y : World) (xs : List Pl.Nd) (len cap i : Nat) (gb nb cb : Nat) (LB : List Nat) (gt nt ct : Nat) (LT : List Nat) (go no co : Nat) (LO : List Bool) (ga na ca : Nat) (AL : List ByteArray) (gn : Nat) (va : Option Addr) (vl vc b off : Nat) : Prop where
  bel : Below w0.heap.size w0 y
  ob : y.ownsRow w0.heap.size 3 1 (.slice (some ⟨gb, 0, none⟩) nb cb) nb (LB.map fun n : Nat => Value.int .i64 (n : Int))
  ot : y.ownsRow w0.heap.size 3 1 (.slice (some ⟨gt, 0, none⟩) nt ct) nt (LT.map fun n : Nat => Value.int .i64 (n : Int))
  oo : y.ownsRow w0.heap.size 4 1 (.slice (some ⟨go, 0, none⟩) no co) no (LO.map Value.bool)
  oa : y.ownsRow w0.heap.size 9 1 (.slice (some ⟨ga, 0, none⟩) na ca) na (AL.map Value.string)
  ne : gb ≠ gt
  nd : y.heap[gn]? = some (.cells ((Pl.nd xs i).cells ⟨va, vl, vc⟩) 38 (0, 0))
  box : y.heap[w.heap.size]? = some (.cells #[.slice (some ⟨b, off, none⟩) len cap] 29 (0, 0))
  bw : w.heap.size < w0.heap.size
theorem TD.cells {lo : Nat} {w w0 y : World} {xs : List Pl.Nd} {len cap i : Nat} {gb nb cb : Nat} {LB : List Nat} {gt nt ct : Nat} {LT : List Nat} {go no co : Nat} {LO : List Bool} {ga na ca : Nat} {AL : List ByteArray} {gn : Nat} {va : Option Addr} {vl vc b off : Nat} (h : TD lo w w0 y xs len cap i gb nb cb LB gt nt ct LT go no co LO ga na ca AL gn va vl vc b off) {x : Pl.Nd} (hx : x = Pl.nd xs i) : y.cell? ⟨gn, 0, none⟩ = some (.int .i64 x.k) ∧ y.cell? ⟨gn, 3, none⟩ = some (.string x.s) := by
  subst hx
  have f := fun j => cell_of_row y gn j _ 38 (0, 0) h.nd
  exact ⟨f 0, f 3⟩
theorem TD.grow_b {lo : Nat} {w w0 y : World} {xs : List Pl.Nd} {len cap i : Nat} {gb nb cb : Nat} {LB : List Nat} {gt nt ct : Nat} {LT : List Nat} {go no co : Nat} {LO : List Bool} {ga na ca : Nat} {AL : List ByteArray} {gn : Nat} {va : Option Addr} {vl vc b off : Nat} (h : TD lo w w0 y xs len cap i gb nb cb LB gt nt ct LT go no co LO ga na ca AL gn va vl vc b off) {y1 y2 : World} {g2 c2 : Nat} {L2 : List Nat} (hb : Below y.heap.size y y1) (hg : y1.grownBy y2 (some gb)) (hown : y2.ownsRow w0.heap.size 3 1 (.slice (some ⟨g2, 0, none⟩) (nb + 1) c2) (nb + 1) (L2.map fun n : Nat => Value.int .i64 (n : Int))) (hl : g2 = gb ∨ g2 = y1.heap.size) : TD lo w w0 y2 xs len cap i g2 (nb + 1) c2 L2 gt nt ct LT go no co LO ga na ca AL gn va vl vc b off := by
  have lt : ∀ {b : Nat} {o : Obj}, y.heap[b]? = some o → b < y.heap.size := fun q => (Array.getElem?_eq_some_iff.1 q).1
  have hnd : y1.heap[gn]? = some (.cells ((Pl.nd xs i).cells ⟨va, vl, vc⟩) 38 (0, 0)) := (hb.block _ (lt h.nd)).trans h.nd
  have hbx : y1.heap[w.heap.size]? = some (.cells #[.slice (some ⟨b, off, none⟩) len cap] 29 (0, 0)) := (hb.block _ (lt h.box)).trans h.box
  obtain ⟨cur, hcur⟩ := own_rowI (own_keepT h.ob hb)
  have hB := own_block h.ob
  refine ⟨(h.bel.trans (hb.mono h.bel.size)).grown hg (Nat.le_trans h.bel.size hb.size) (fun k hk => by cases hk; exact hB.1), hown, own_keptI (own_keepT h.ot hb) hg h.ne.symm, own_keptI (own_keepT h.oo hb) hg (block_ne (own_rowI (own_keepT h.oo hb)).choose_spec (own_rowI (own_keepT h.ob hb)).choose_spec (by decide)), own_keptI (own_keepT h.oa hb) hg (block_ne (own_rowI (own_keepT h.oa hb)).choose_spec (own_rowI (own_keepT h.ob hb)).choose_spec (by decide)), ?_, blk_keptI hnd hg (block_ne hnd hcur (by decide)), blk_keptI hbx hg (block_ne hbx hcur (by decide)), h.bw⟩
  rcases hl with q | q
  · rw [q]; exact h.ne
  · have h1 := (own_block h.ot).2
    have h2 := hb.size
    omega
theorem TD.grow_t {lo : Nat} {w w0 y : World} {xs : List Pl.Nd} {len cap i : Nat} {gb nb cb : Nat} {LB : List Nat} {gt nt ct : Nat} {LT : List Nat} {go no co : Nat} {LO : List Bool} {ga na ca : Nat} {AL : List ByteArray} {gn : Nat} {va : Option Addr} {vl vc b off : Nat} (h : TD lo w w0 y xs len cap i gb nb cb LB gt nt ct LT go no co LO ga na ca AL gn va vl vc b off) {y1 y2 : World} {g2 c2 : Nat} {L2 : List Nat} (hb : Below y.heap.size y y1) (hg : y1.grownBy y2 (some gt)) (hown : y2.ownsRow w0.heap.size 3 1 (.slice (some ⟨g2, 0, none⟩) (nt + 1) c2) (nt + 1) (L2.map fun n : Nat => Value.int .i64 (n : Int))) (hl : g2 = gt ∨ g2 = y1.heap.size) : TD lo w w0 y2 xs len cap i gb nb cb LB g2 (nt + 1) c2 L2 go no co LO ga na ca AL gn va vl vc b off := by
  have lt : ∀ {b : Nat} {o : Obj}, y.heap[b]? = some o → b < y.heap.size := fun q => (Array.getElem?_eq_some_iff.1 q).1
  have hnd : y1.heap[gn]? = some (.cells ((Pl.nd xs i).cells ⟨va, vl, vc⟩) 38 (0, 0)) := (hb.block _ (lt h.nd)).trans h.nd
  have hbx : y1.heap[w.heap.size]? = some (.cells #[.slice (some ⟨b, off, none⟩) len cap] 29 (0, 0)) := (hb.block _ (lt h.box)).trans h.box
  obtain ⟨cur, hcur⟩ := own_rowI (own_keepT h.ot hb)
  have hB := own_block h.ot
  refine ⟨(h.bel.trans (hb.mono h.bel.size)).grown hg (Nat.le_trans h.bel.size hb.size) (fun k hk => by cases hk; exact hB.1), own_keptI (own_keepT h.ob hb) hg h.ne, hown, own_keptI (own_keepT h.oo hb) hg (block_ne (own_rowI (own_keepT h.oo hb)).choose_spec (own_rowI (own_keepT h.ot hb)).choose_spec (by decide)), own_keptI (own_keepT h.oa hb) hg (block_ne (own_rowI (own_keepT h.oa hb)).choose_spec (own_rowI (own_keepT h.ot hb)).choose_spec (by decide)), ?_, blk_keptI hnd hg (block_ne hnd hcur (by decide)), blk_keptI hbx hg (block_ne hbx hcur (by decide)), h.bw⟩
  rcases hl with q | q
  · rw [q]; exact h.ne
  · have h1 := (own_block h.ob).2
    have h2 := hb.size
    omega
theorem TD.grow_o {lo : Nat} {w w0 y : World} {xs : List Pl.Nd} {len cap i : Nat} {gb nb cb : Nat} {LB : List Nat} {gt nt ct : Nat} {LT : List Nat} {go no co : Nat} {LO : List Bool} {ga na ca : Nat} {AL : List ByteArray} {gn : Nat} {va : Option Addr} {vl vc b off : Nat} (h : TD lo w w0 y xs len cap i gb nb cb LB gt nt ct LT go no co LO ga na ca AL gn va vl vc b off) {y1 y2 : World} {g2 c2 : Nat} {L2 : List Bool} (hb : Below y.heap.size y y1) (hg : y1.grownBy y2 (some go)) (hown : y2.ownsRow w0.heap.size 4 1 (.slice (some ⟨g2, 0, none⟩) (no + 1) c2) (no + 1) (L2.map Value.bool)) (hl : g2 = go ∨ g2 = y1.heap.size) : TD lo w w0 y2 xs len cap i gb nb cb LB gt nt ct LT g2 (no + 1) c2 L2 ga na ca AL gn va vl vc b off := by
  have lt : ∀ {b : Nat} {o : Obj}, y.heap[b]? = some o → b < y.heap.size := fun q => (Array.getElem?_eq_some_iff.1 q).1
  have hnd : y1.heap[gn]? = some (.cells ((Pl.nd xs i).cells ⟨va, vl, vc⟩) 38 (0, 0)) := (hb.block _ (lt h.nd)).trans h.nd
  have hbx : y1.heap[w.heap.size]? = some (.cells #[.slice (some ⟨b, off, none⟩) len cap] 29 (0, 0)) := (hb.block _ (lt h.box)).trans h.box
  obtain ⟨cur, hcur⟩ := own_rowI (own_keepT h.oo hb)
  have hB := own_block h.oo
  refine ⟨(h.bel.trans (hb.mono h.bel.size)).grown hg (Nat.le_trans h.bel.size hb.size) (fun k hk => by cases hk; exact hB.1), own_keptI (own_keepT h.ob hb) hg (block_ne (own_rowI (own_keepT h.ob hb)).choose_spec (own_rowI (own_keepT h.oo hb)).choose_spec (by decide)), own_keptI (own_keepT h.ot hb) hg (block_ne (own_rowI (own_keepT h.ot hb)).choose_spec (own_rowI (own_keepT h.oo hb)).choose_spec (by decide)), hown, own_keptI (own_keepT h.oa hb) hg (block_ne (own_rowI (own_keepT h.oa hb)).choose_spec (own_rowI (own_keepT h.oo hb)).choose_spec (by decide)), ?_, blk_keptI hnd hg (block_ne hnd hcur (by decide)), blk_keptI hbx hg (block_ne hbx hcur (by decide)), h.bw⟩
  exact h.ne
theorem TD.grow_a {lo : Nat} {w w0 y : World} {xs : List Pl.Nd} {len cap i : Nat} {gb nb cb : Nat} {LB : List Nat} {gt nt ct : Nat} {LT : List Nat} {go no co : Nat} {LO : List Bool} {ga na ca : Nat} {AL : List ByteArray} {gn : Nat} {va : Option Addr} {vl vc b off : Nat} (h : TD lo w w0 y xs len cap i gb nb cb LB gt nt ct LT go no co LO ga na ca AL gn va vl vc b off) {y1 y2 : World} {g2 c2 : Nat} {L2 : List ByteArray} (hb : Below y.heap.size y y1) (hg : y1.grownBy y2 (some ga)) (hown : y2.ownsRow w0.heap.size 9 1 (.slice (some ⟨g2, 0, none⟩) (na + 1) c2) (na + 1) (L2.map Value.string)) (hl : g2 = ga ∨ g2 = y1.heap.size) : TD lo w w0 y2 xs len cap i gb nb cb LB gt nt ct LT go no co LO g2 (na + 1) c2 L2 gn va vl vc b off := by
  have lt : ∀ {b : Nat} {o : Obj}, y.heap[b]? = some o → b < y.heap.size := fun q => (Array.getElem?_eq_some_iff.1 q).1
  have hnd : y1.heap[gn]? = some (.cells ((Pl.nd xs i).cells ⟨va, vl, vc⟩) 38 (0, 0)) := (hb.block _ (lt h.nd)).trans h.nd
  have hbx : y1.heap[w.heap.size]? = some (.cells #[.slice (some ⟨b, off, none⟩) len cap] 29 (0, 0)) := (hb.block _ (lt h.box)).trans h.box
  obtain ⟨cur, hcur⟩ := own_rowI (own_keepT h.oa hb)
  have hB := own_block h.oa
  refine ⟨(h.bel.trans (hb.mono h.bel.size)).grown hg (Nat.le_trans h.bel.size hb.size) (fun k hk => by cases hk; exact hB.1), own_keptI (own_keepT h.ob hb) hg (block_ne (own_rowI (own_keepT h.ob hb)).choose_spec (own_rowI (own_keepT h.oa hb)).choose_spec (by decide)), own_keptI (own_keepT h.ot hb) hg (block_ne (own_rowI (own_keepT h.ot hb)).choose_spec (own_rowI (own_keepT h.oa hb)).choose_spec (by decide)), own_keptI (own_keepT h.oo hb) hg (block_ne (own_rowI (own_keepT h.oo hb)).choose_spec (own_rowI (own_keepT h.oa hb)).choose_spec (by decide)), hown, ?_, blk_keptI hnd hg (block_ne hnd hcur (by decide)), blk_keptI hbx hg (block_ne hbx hcur (by decide)), h.bw⟩
  exact h.ne
end Go.Proofs.YteadglnenaiaaaaGreatDoor.W
namespace Go.Proofs.YteadglnenaiaaaaGreatDoor.Pl
def lastB (k : Int) : Bool := decide (k = 21 ∨ k = 22 ∨ (24 ≤ k ∧ k ≤ 28))
end Go.Proofs.YteadglnenaiaaaaGreatDoor.Pl
