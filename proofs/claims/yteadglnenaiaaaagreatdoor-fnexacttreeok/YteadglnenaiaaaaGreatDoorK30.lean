import Derived.Test.YteadglnenaiaaaaGreatDoorK29
import Derived.Deep.QuietTactic
import Derived.BigQuiet
set_option linter.unusedVariables false
set_option linter.unusedSimpArgs false
namespace Go.Proofs.YteadglnenaiaaaaGreatDoor.W
open Go.RowKit
set_option maxRecDepth 1000000 in
set_option maxHeartbeats 8000000 in
theorem t30_is {lo : Nat} {w w0 y : World} {xs : List Pl.Nd} {len cap i : Nat} {l : List Nat} {gb cb gt ct go co ga m ca gn : Nat} {va : Option Addr} {vl vc b off a hi gk : Nat} (hp : TP xs len i l vl a) (hc : TC lo w w0 y xs len cap i l gb cb gt ct go co ga m ca gn va vl vc b off) (la : Bool) (hla : la = Pl.lastB (Pl.nd xs i).k) (c0 c12 c13 c14 c15 c16 c17 c18 c19 c20 c21 c22 c23 c24 c25 c26 c27 c28 c29 c30 c31 c32 c33 c34 c35 c36 c37 c38 c39 c40 c41 c42 c43 c44 c45 c46 c47 c48 c49 c50 c51 c52 c53 c54 c55 c56 c57 c58 c59 c60 c61 c62 c63 c64 c65 c66 c67 c68 c69 c70 c71 c72 c73 c74 c75 c76 c77 c78 c79 c80 c81 c82 c83 c84 c85 c86 c87 c88 c89 c90 c91 c92 c93 c94 c95 c96 c97 c98 c99 c100 c101 c102 c103 c104 c105 c106 c107 c108 c109 c110 c111 c112 c113 c114 c115 c116 c117 c118 c119 c120 c121 c122 c123 c124 c125 c126 c127 c128 c129 c130 c131 c132 c133 c134 c135 c136 c137 c138 c139 c140 c141 c142 c143 c144 c145 c146 c147 c148 c149 c150 c151 c152 c153 c154 c155 c156 c157 c158 c159 c160 c161 c162 c163 c164 c165 c166 c167 c168 c169 c170 c171 c172 c173 c174 c175 c176 c177 c178 c179 c180 c181 c182 c183 c184 c185 c186 c187 c188 c189 c190 c191 c192 c193 c194 c195 c196 c197 c198 c199 c200 c201 c202 c203 c204 c205 c206 c207 c208 c209 c210 c211 c212 c213 c214 c215 c216 c217 c218 c219 c220 c221 c222 c223 c224 c225 c226 c227 c228 c229 c230 c231 c232 c233 c234 c235 c236 c237 c238 c239 c240 c241 c242 c243 c244 c245 c246 c247 c248 c249 c250 c251 c252 c253 c254 c255 c256 c257 c258 c259 c260 c261 c262 c263 c264 c265 c266 c267 c268 c269 c270 c271 c272 c273 c274 c275 c276 c277 c278 c279 c280 : Value) (K : Act → World → Prop) (Q : Exit → Act → World → Prop)
    (hR : ∀ (tmps : Array Value) (y' : World), tmps.getD 2 undef = .bool false → ¬ Pl.NdS xs xs.length i → Below y.heap.size y y' → Q .ret { tmps := tmps, defers := [] } y')
    (hK : ∀ (s202 s203 s204 s205 s206 s207 s208 s209 s210 s211 s212 s213 s214 s215 s216 s217 s218 s219 : Value)  (y' : World), Below y.heap.size y y' → True → K { tmps := #[c0, .pointer (some ⟨w.heap.size, 0, none⟩), .bool false, .slice (some ⟨gb, 0, none⟩) i cb, .slice (some ⟨gt, 0, none⟩) i ct, .slice (some ⟨go, 0, none⟩) i co, .slice (some ⟨ga, 0, none⟩) m ca, .int .i64 (i : Int), .pointer (some ⟨gn, 0, none⟩), .int .i64 (a : Int), .int .i64 (hi : Int), .slice (some ⟨gk, 0, none⟩) vl vl, c12, c13, .bool la, c15, c16, c17, c18, c19, c20, c21, c22, c23, c24, c25, c26, c27, c28, c29, c30, c31, c32, c33, c34, c35, c36, c37, c38, c39, c40, c41, c42, c43, c44, c45, c46, c47, c48, c49, c50, c51, c52, c53, c54, c55, c56, c57, c58, c59, c60, c61, c62, c63, c64, c65, c66, c67, c68, c69, c70, c71, c72, c73, c74, c75, c76, c77, c78, c79, c80, c81, c82, c83, c84, c85, c86, c87, c88, c89, c90, c91, c92, c93, c94, c95, c96, c97, c98, c99, c100, c101, c102, c103, c104, c105, c106, c107, c108, c109, c110, c111, c112, c113, c114, c115, c116, c117, c118, c119, c120, c121, c122, c123, c124, c125, c126, c127, c128, c129, c130, c131, c132, c133, c134, c135, c136, c137, c138, c139, c140, c141, c142, c143, c144, c145, c146, c147, c148, c149, c150, c151, c152, c153, c154, c155, c156, c157, c158, c159, c160, c161, c162, c163, c164, c165, c166, c167, c168, c169, c170, c171, c172, c173, c174, c175, c176, c177, c178, c179, c180, c181, c182, c183, c184, c185, c186, c187, c188, c189, c190, c191, c192, c193, c194, c195, c196, c197, c198, c199, c200, c201, s202, s203, s204, s205, s206, s207, s208, s209, s210, s211, s212, s213, s214, s215, s216, s217, s218, s219, c220, c221, c222, c223, c224, c225, c226, c227, c228, c229, c230, c231, c232, c233, c234, c235, c236, c237, c238, c239, c240, c241, c242, c243, c244, c245, c246, c247, c248, c249, c250, c251, c252, c253, c254, c255, c256, c257, c258, c259, c260, c261, c262, c263, c264, c265, c266, c267, c268, c269, c270, c271, c272, c273, c274, c275, c276, c277, c278, c279, c280], defers := [] } y') :
    (tokC 30).wp Tryz.prog (Exit.then K Q) { tmps := #[c0, .pointer (some ⟨w.heap.size, 0, none⟩), .bool false, .slice (some ⟨gb, 0, none⟩) i cb, .slice (some ⟨gt, 0, none⟩) i ct, .slice (some ⟨go, 0, none⟩) i co, .slice (some ⟨ga, 0, none⟩) m ca, .int .i64 (i : Int), .pointer (some ⟨gn, 0, none⟩), .int .i64 (a : Int), .int .i64 (hi : Int), .slice (some ⟨gk, 0, none⟩) vl vl, c12, c13, c14, c15, c16, c17, c18, c19, c20, c21, c22, c23, c24, c25, c26, c27, c28, c29, c30, c31, c32, c33, c34, c35, c36, c37, c38, c39, c40, c41, c42, c43, c44, c45, c46, c47, c48, c49, c50, c51, c52, c53, c54, c55, c56, c57, c58, c59, c60, c61, c62, c63, c64, c65, c66, c67, c68, c69, c70, c71, c72, c73, c74, c75, c76, c77, c78, c79, c80, c81, c82, c83, c84, c85, c86, c87, c88, c89, c90, c91, c92, c93, c94, c95, c96, c97, c98, c99, c100, c101, c102, c103, c104, c105, c106, c107, c108, c109, c110, c111, c112, c113, c114, c115, c116, c117, c118, c119, c120, c121, c122, c123, c124, c125, c126, c127, c128, c129, c130, c131, c132, c133, c134, c135, c136, c137, c138, c139, c140, c141, c142, c143, c144, c145, c146, c147, c148, c149, c150, c151, c152, c153, c154, c155, c156, c157, c158, c159, c160, c161, c162, c163, c164, c165, c166, c167, c168, c169, c170, c171, c172, c173, c174, c175, c176, c177, c178, c179, c180, c181, c182, c183, c184, c185, c186, c187, c188, c189, c190, c191, c192, c193, c194, c195, c196, c197, c198, c199, c200, c201, c202, c203, c204, c205, c206, c207, c208, c209, c210, c211, c212, c213, c214, c215, c216, c217, c218, c219, c220, c221, c222, c223, c224, c225, c226, c227, c228, c229, c230, c231, c232, c233, c234, c235, c236, c237, c238, c239, c240, c241, c242, c243, c244, c245, c246, c247, c248, c249, c250, c251, c252, c253, c254, c255, c256, c257, c258, c259, c260, c261, c262, c263, c264, c265, c266, c267, c268, c269, c270, c271, c272, c273, c274, c275, c276, c277, c278, c279, c280], defers := [] } y := by
  have HRt : Hid (∀ (tmps : Array Value) (y' : World), tmps.getD 2 undef = .bool false → ¬ Pl.NdS xs xs.length i → Below y.heap.size y y' → Q .ret { tmps := tmps, defers := [] } y') := hR
  have HKt : Hid _ := hK
  have HP : Hid (TP xs len i l vl a) := hp
  have HC : Hid (TC lo w w0 y xs len cap i l gb cb gt ct go co ga m ca gn va vl vc b off) := hc
  clear hR hK
  conv => arg 2; whnf
  obtain ⟨x, hx⟩ : ∃ x, x = Pl.nd xs i := ⟨_, rfl⟩
  have HX : Hid (x = Pl.nd xs i) := hx
  obtain ⟨cn0, cn1, cn2, cn3, cn4, cn5, cn6⟩ := hc.cells hx
  have HVK : Hid (x.kids.length = vl) := by show x.kids.length = vl; rw [hx]; exact hp.vk
  have hvl : vl ≤ 1048576 := by rw [← hp.vk]; exact hp.kl i hp.hi
  have hvl2 : (vl : Int) ≤ 9223372036854775807 := by omega
  have HLA : Hid (la = Pl.lastB x.k) := by show la = _; rw [hx]; exact hla
  clear hp hc hx hvl hla HRt
  by_cases k21 : x.k = 21
  · have k21b : (x.k == 21) = true := by simpa using k21
    obtain rfl : la = true := by rw [HLA.out, k21]; rfl
    clear k21
    go_wp2_with fail
    exact HKt.out _ _ _ _ _ _ _ _ _ _ _ _ _ _ _ _ _ _ _ (Below.refl _ _) trivial
  have k21b : (x.k == 21) = false := by simpa using k21
  by_cases k22 : x.k = 22
  · have k22b : (x.k == 22) = true := by simpa using k22
    obtain rfl : la = true := by rw [HLA.out, k22]; rfl
    clear k22
    go_wp2_with fail
    exact HKt.out _ _ _ _ _ _ _ _ _ _ _ _ _ _ _ _ _ _ _ (Below.refl _ _) trivial
  have k22b : (x.k == 22) = false := by simpa using k22
  by_cases g24 : 24 ≤ x.k
  · by_cases l28 : x.k ≤ 28
    · obtain rfl : la = true := by rw [HLA.out]; unfold Pl.lastB; exact decide_eq_true (by omega)
      go_wp2_with fail
      exact HKt.out _ _ _ _ _ _ _ _ _ _ _ _ _ _ _ _ _ _ _ (Below.refl _ _) trivial
    · obtain rfl : la = false := by rw [HLA.out]; unfold Pl.lastB; exact decide_eq_false (by omega)
      go_wp2_with fail
      exact HKt.out _ _ _ _ _ _ _ _ _ _ _ _ _ _ _ _ _ _ _ (Below.refl _ _) trivial
  · obtain rfl : la = false := by rw [HLA.out]; unfold Pl.lastB; exact decide_eq_false (by omega)
    go_wp2_with fail
    exact HKt.out _ _ _ _ _ _ _ _ _ _ _ _ _ _ _ _ _ _ _ (Below.refl _ _) trivial
set_option maxRecDepth 1000000 in
set_option maxHeartbeats 8000000 in
theorem t31_is {lo : Nat} {w w0 y : World} {xs : List Pl.Nd} {len cap i : Nat} {gb nb cb : Nat} {LB : List Nat} {gt nt ct : Nat} {LT : List Nat} {go no co : Nat} {LO : List Bool} {ga na ca : Nat} {AL : List ByteArray} {gn : Nat} {va : Option Addr} {vl vc b off : Nat} {l : List Nat} {a hi gk : Nat} (hp : TP xs len i l vl a) (hd : TD lo w w0 y xs len cap i gb nb cb LB gt nt ct LT go no co LO ga na ca AL gn va vl vc b off) (la : Bool) (hla : la = Pl.lastB (Pl.nd xs i).k) (hf : F24 xs i) (hrow : Row .i64 lo y va vl vc (Pl.nd xs i).kids) (hno : no = i) (hLO : LO = Pl.opF xs i) (c0 c12 c13 c15 c16 c17 c18 c19 c20 c21 c22 c23 c24 c25 c26 c27 c28 c29 c30 c31 c32 c33 c34 c35 c36 c37 c38 c39 c40 c41 c42 c43 c44 c45 c46 c47 c48 c49 c50 c51 c52 c53 c54 c55 c56 c57 c58 c59 c60 c61 c62 c63 c64 c65 c66 c67 c68 c69 c70 c71 c72 c73 c74 c75 c76 c77 c78 c79 c80 c81 c82 c83 c84 c85 c86 c87 c88 c89 c90 c91 c92 c93 c94 c95 c96 c97 c98 c99 c100 c101 c102 c103 c104 c105 c106 c107 c108 c109 c110 c111 c112 c113 c114 c115 c116 c117 c118 c119 c120 c121 c122 c123 c124 c125 c126 c127 c128 c129 c130 c131 c132 c133 c134 c135 c136 c137 c138 c139 c140 c141 c142 c143 c144 c145 c146 c147 c148 c149 c150 c151 c152 c153 c154 c155 c156 c157 c158 c159 c160 c161 c162 c163 c164 c165 c166 c167 c168 c169 c170 c171 c172 c173 c174 c175 c176 c177 c178 c179 c180 c181 c182 c183 c184 c185 c186 c187 c188 c189 c190 c191 c192 c193 c194 c195 c196 c197 c198 c199 c200 c201 c202 c203 c204 c205 c206 c207 c208 c209 c210 c211 c212 c213 c214 c215 c216 c217 c218 c219 c220 c221 c222 c223 c224 c225 c226 c227 c228 c229 c230 c231 c232 c233 c234 c235 c236 c237 c238 c239 c240 c241 c242 c243 c244 c245 c246 c247 c248 c249 c250 c251 c252 c253 c254 c255 c256 c257 c258 c259 c260 c261 c262 c263 c264 c265 c266 c267 c268 c269 c270 c271 c272 c273 c274 c275 c276 c277 c278 c279 c280 : Value) (K : Act → World → Prop) (Q : Exit → Act → World → Prop)
    (hK : ∀ (s220 s221 s222 s223 s224 s225 s226 s227 s228 s229 s230 s231 s232 s233 s234 s235 s236 s237 s238 s239 s240 s241 s242 s243 s244 s245 s246 s247 : Value) (g2 c2 : Nat) (y' : World), TD lo w w0 y' xs len cap i gb nb cb LB gt nt ct LT g2 (no + 1) c2 (Pl.opF xs (i + 1)) ga na ca AL gn va vl vc b off → K { tmps := #[c0, .pointer (some ⟨w.heap.size, 0, none⟩), .bool false, .slice (some ⟨gb, 0, none⟩) nb cb, .slice (some ⟨gt, 0, none⟩) nt ct, .slice (some ⟨g2, 0, none⟩) (no + 1) c2, .slice (some ⟨ga, 0, none⟩) na ca, .int .i64 (i : Int), .pointer (some ⟨gn, 0, none⟩), .int .i64 (a : Int), .int .i64 (hi : Int), .slice (some ⟨gk, 0, none⟩) vl vl, c12, c13, .bool la, c15, c16, c17, c18, c19, c20, c21, c22, c23, c24, c25, c26, c27, c28, c29, c30, c31, c32, c33, c34, c35, c36, c37, c38, c39, c40, c41, c42, c43, c44, c45, c46, c47, c48, c49, c50, c51, c52, c53, c54, c55, c56, c57, c58, c59, c60, c61, c62, c63, c64, c65, c66, c67, c68, c69, c70, c71, c72, c73, c74, c75, c76, c77, c78, c79, c80, c81, c82, c83, c84, c85, c86, c87, c88, c89, c90, c91, c92, c93, c94, c95, c96, c97, c98, c99, c100, c101, c102, c103, c104, c105, c106, c107, c108, c109, c110, c111, c112, c113, c114, c115, c116, c117, c118, c119, c120, c121, c122, c123, c124, c125, c126, c127, c128, c129, c130, c131, c132, c133, c134, c135, c136, c137, c138, c139, c140, c141, c142, c143, c144, c145, c146, c147, c148, c149, c150, c151, c152, c153, c154, c155, c156, c157, c158, c159, c160, c161, c162, c163, c164, c165, c166, c167, c168, c169, c170, c171, c172, c173, c174, c175, c176, c177, c178, c179, c180, c181, c182, c183, c184, c185, c186, c187, c188, c189, c190, c191, c192, c193, c194, c195, c196, c197, c198, c199, c200, c201, c202, c203, c204, c205, c206, c207, c208, c209, c210, c211, c212, c213, c214, c215, c216, c217, c218, c219, s220, s221, s222, s223, s224, s225, s226, s227, s228, s229, s230, s231, s232, s233, s234, s235, s236, s237, s238, s239, s240, s241, s242, s243, s244, s245, s246, s247, c248, c249, c250, c251, c252, c253, c254, c255, c256, c257, c258, c259, c260, c261, c262, c263, c264, c265, c266, c267, c268, c269, c270, c271, c272, c273, c274, c275, c276, c277, c278, c279, c280], defers := [] } y') :
    (tokC 31).wp Tryz.prog (Exit.then K Q) { tmps := #[c0, .pointer (some ⟨w.heap.size, 0, none⟩), .bool false, .slice (some ⟨gb, 0, none⟩) nb cb, .slice (some ⟨gt, 0, none⟩) nt ct, .slice (some ⟨go, 0, none⟩) no co, .slice (some ⟨ga, 0, none⟩) na ca, .int .i64 (i : Int), .pointer (some ⟨gn, 0, none⟩), .int .i64 (a : Int), .int .i64 (hi : Int), .slice (some ⟨gk, 0, none⟩) vl vl, c12, c13, .bool la, c15, c16, c17, c18, c19, c20, c21, c22, c23, c24, c25, c26, c27, c28, c29, c30, c31, c32, c33, c34, c35, c36, c37, c38, c39, c40, c41, c42, c43, c44, c45, c46, c47, c48, c49, c50, c51, c52, c53, c54, c55, c56, c57, c58, c59, c60, c61, c62, c63, c64, c65, c66, c67, c68, c69, c70, c71, c72, c73, c74, c75, c76, c77, c78, c79, c80, c81, c82, c83, c84, c85, c86, c87, c88, c89, c90, c91, c92, c93, c94, c95, c96, c97, c98, c99, c100, c101, c102, c103, c104, c105, c106, c107, c108, c109, c110, c111, c112, c113, c114, c115, c116, c117, c118, c119, c120, c121, c122, c123, c124, c125, c126, c127, c128, c129, c130, c131, c132, c133, c134, c135, c136, c137, c138, c139, c140, c141, c142, c143, c144, c145, c146, c147, c148, c149, c150, c151, c152, c153, c154, c155, c156, c157, c158, c159, c160, c161, c162, c163, c164, c165, c166, c167, c168, c169, c170, c171, c172, c173, c174, c175, c176, c177, c178, c179, c180, c181, c182, c183, c184, c185, c186, c187, c188, c189, c190, c191, c192, c193, c194, c195, c196, c197, c198, c199, c200, c201, c202, c203, c204, c205, c206, c207, c208, c209, c210, c211, c212, c213, c214, c215, c216, c217, c218, c219, c220, c221, c222, c223, c224, c225, c226, c227, c228, c229, c230, c231, c232, c233, c234, c235, c236, c237, c238, c239, c240, c241, c242, c243, c244, c245, c246, c247, c248, c249, c250, c251, c252, c253, c254, c255, c256, c257, c258, c259, c260, c261, c262, c263, c264, c265, c266, c267, c268, c269, c270, c271, c272, c273, c274, c275, c276, c277, c278, c279, c280], defers := [] } y := by
  have HKt : Hid _ := hK
  have HP : Hid (TP xs len i l vl a) := hp
  have HD : Hid (TD lo w w0 y xs len cap i gb nb cb LB gt nt ct LT go no co LO ga na ca AL gn va vl vc b off) := hd
  clear hK
  conv => arg 2; whnf
  obtain ⟨x, hx⟩ : ∃ x, x = Pl.nd xs i := ⟨_, rfl⟩
  have HX : Hid (x = Pl.nd xs i) := hx
  have hfc := fun j => cell_of_row y gn j _ 38 (0, 0) hd.nd
  have cn0 : y.cell? ⟨gn, 0, none⟩ = some (.int .i64 x.k) := by rw [hx]; exact hfc 0
  have cn3 : y.cell? ⟨gn, 3, none⟩ = some (.string x.s) := by rw [hx]; exact hfc 3
  have cn4 : y.cell? ⟨gn, 4, none⟩ = some (.slice va vl vc) := hfc 4
  have HVK : Hid (x.kids.length = vl) := by show x.kids.length = vl; rw [hx]; exact hp.vk
  have hvl : vl ≤ 1048576 := by rw [← hp.vk]; exact hp.kl i hp.hi
  have hvl2 : (vl : Int) ≤ 9223372036854775807 := by omega
  have hi4 : i ≤ 4000 := by have := hp.hi; have := hp.l4; omega
  have hgn : gn < y.heap.size := (Array.getElem?_eq_some_iff.1 hd.nd).1
  have ka0 : ∀ o, (y.alloc o).cell? ⟨gn, 0, none⟩ = some (.int .i64 x.k) := fun o => ((below_alloc y o).cell (p := ⟨gn, 0, none⟩) hgn).trans cn0
  clear hfc
  obtain ⟨i0, hi0, hz0, hz1, hz2⟩ := info_parts Tryz.infobool
  have HI : Hid (Tryz.prog.info? 4 = some i0 ∧ i0.zero = some (.bool false) ∧ i0.size = 1 ∧ i0.bytes = 1) := ⟨hi0, hz0, hz1, hz2⟩
  clear hi0 hz0 hz1 hz2
  subst hno
  subst hLO
  have HLA : Hid (la = Pl.lastB x.k) := by show la = _; rw [hx]; exact hla
  have HOP : Hid ((Pl.opF xs (no + 1)).map Value.bool = (Pl.opF xs no).map Value.bool ++ [.bool (Pl.opN (Pl.opF xs no) x)]) := by
    show (Pl.opF xs (no + 1)).map Value.bool = _
    rw [hx]
    show ((Pl.opF xs no) ++ [_]).map Value.bool = _
    rw [List.map_append]; rfl
  have HRW : Hid (Row .i64 lo y va vl vc x.kids) := by show Row .i64 lo y va vl vc x.kids; rw [hx]; exact hrow
  have HKD : Hid (Pl.kS (Pl.shpT.getD (Pl.nd xs no).k.toNat []) (Pl.kinds xs no) false = true) := hf.kids
  clear hx hla hrow hf hd hp
  by_cases k21 : x.k = 21
  · have k21b : (x.k == 21) = true := by simpa using k21
    by_cases j2 : vl = 2
    · have j2b : ((vl : Int) == 2) = true := by simp; omega
      have HON : Hid (Pl.opN (Pl.opF xs no) x = true) := by
        show Pl.opN (Pl.opF xs no) x = true
        unfold Pl.opN
        rw [decide_eq_true k21, decide_eq_true (by rw [HVK.out]; exact j2)]; rfl
      clear k21 j2
      go_wp2_with (at_builtin; refine wpList_append_lies _ rfl (.tmp 220) (.tmp 246) 35 rfl w0.heap.size 4 i0 (.bool false) 1 1 Tryz.underlying35 HI.out.1 HI.out.2.1 HI.out.2.2.1 HI.out.2.2.2 rfl (by decide) (.slice (some ⟨go, 0, none⟩) no co) no ((Pl.opF xs no).map Value.bool) rfl (World.ownsRow.alloc HD.out.oo _) ⟨y.heap.size, 0, none⟩ 1 1 [_] rfl rfl (one_news y _ _) (by intro u hu; simp at hu; subst hu; rfl) (by decide) (by unfold maxLen; omega) (by omega) (by simp; exact Nat.le_succ_of_le HD.out.bel.size) (y.heap.size + 1) (by simp) ?_; intro g2 c2 y2 hown hgr hli hlt)
      exact HKt.out _ _ _ _ _ _ _ _ _ _ _ _ _ _ _ _ _ _ _ _ _ _ _ _ _ _ _ _ g2 c2 y2 (HD.out.grow_o (below_alloc _ _) hgr (by rw [HOP.out, HON.out]; exact hown) (hli.elim (fun q => .inl (by simpa [Value.ownBlock] using q.symm)) (fun q => .inr (by simpa using q))))
    have j2b : ((vl : Int) == 2) = false := by simp; omega
    obtain rfl : la = true := by rw [HLA.out, k21]; rfl
    have HLT : Hid (Pl.lastB x.k = true) := HLA.out.symm
    have HNA : Hid ((decide (x.k = 21) && decide (x.kids.length = 2)) = false) := by show (decide (x.k = 21) && decide (x.kids.length = 2)) = false; rw [decide_eq_false (p := x.kids.length = 2) (by rw [HVK.out]; exact j2)]; simp
    clear k21 j2
    have hv1 : 1 ≤ vl := by rw [← HVK.out, HX.out]; exact Pl.last_pos (by rw [← HX.out]; have := HLT.out; unfold Pl.lastB at this; exact of_decide_eq_true this) HKD.out
    obtain ⟨q, hq⟩ : ∃ q : Nat, (vl : Int) - 1 = (q : Int) := ⟨vl - 1, by omega⟩
    have hqv : q < vl := by omega
    have hqv2 : (q : Int) < (vl : Int) := by omega
    obtain ⟨c, hc, hci⟩ := HP.out.kid (q := q) hqv
    rw [← HX.out] at hc
    obtain ⟨b2, o2, hva, hb2, hcz⟩ := row_cell HRW.out hqv
    have HVA : Hid (va = some ⟨b2, o2, none⟩) := hva
    rw [hva] at cn4
    rw [hc] at hcz
    have hcii : (c : Int) < (no : Int) := by omega
    have cop := own_bool HD.out.oo hci
    obtain ⟨ob, hob⟩ : ∃ ob, ob = (Pl.opF xs no).getD c false := ⟨_, rfl⟩
    rw [← hob] at cop
    have HON : Hid (Pl.opN (Pl.opF xs no) x = ob) := by
      show Pl.opN (Pl.opF xs no) x = ob
      unfold Pl.opN
      have e1 : x.kids.length - 1 = q := by have := HVK.out; omega
      have e2 : decide (x.k = 21 ∨ x.k = 22 ∨ (24 ≤ x.k ∧ x.k ≤ 28)) = true := HLT.out
      rw [HNA.out, e1, hc, Int.toNat_natCast, e2, hob]; simp
    clear hob hc hva hv1
    go_wp2_with (at_builtin; refine wpList_append_lies _ rfl (.tmp 220) (.tmp 246) 35 rfl w0.heap.size 4 i0 (.bool false) 1 1 Tryz.underlying35 HI.out.1 HI.out.2.1 HI.out.2.2.1 HI.out.2.2.2 rfl (by decide) (.slice (some ⟨go, 0, none⟩) no co) no ((Pl.opF xs no).map Value.bool) rfl (World.ownsRow.alloc HD.out.oo _) ⟨y.heap.size, 0, none⟩ 1 1 [_] rfl rfl (one_news y _ _) (by intro u hu; simp at hu; subst hu; rfl) (by decide) (by unfold maxLen; omega) (by omega) (by simp; exact Nat.le_succ_of_le HD.out.bel.size) (y.heap.size + 1) (by simp) ?_; intro g2 c2 y2 hown hgr hli hlt)
    exact HKt.out _ _ _ _ _ _ _ _ _ _ _ _ _ _ _ _ _ _ _ _ _ _ _ _ _ _ _ _ g2 c2 y2 (HD.out.grow_o (below_alloc _ _) hgr (by rw [HOP.out, HON.out]; exact hown) (hli.elim (fun q => .inl (by simpa [Value.ownBlock] using q.symm)) (fun q => .inr (by simpa using q))))
  have k21b : (x.k == 21) = false := by simpa using k21
  have HNA : Hid ((decide (x.k = 21) && decide (x.kids.length = 2)) = false) := by show (decide (x.k = 21) && decide (x.kids.length = 2)) = false; rw [decide_eq_false k21]; rfl
  clear k21
  cases la
  · have HON : Hid (Pl.opN (Pl.opF xs no) x = false) := by
      show Pl.opN (Pl.opF xs no) x = false
      unfold Pl.opN
      have e2 : decide (x.k = 21 ∨ x.k = 22 ∨ (24 ≤ x.k ∧ x.k ≤ 28)) = false := HLA.out.symm
      rw [HNA.out, e2]; rfl
    go_wp2_with (at_builtin; refine wpList_append_lies _ rfl (.tmp 220) (.tmp 246) 35 rfl w0.heap.size 4 i0 (.bool false) 1 1 Tryz.underlying35 HI.out.1 HI.out.2.1 HI.out.2.2.1 HI.out.2.2.2 rfl (by decide) (.slice (some ⟨go, 0, none⟩) no co) no ((Pl.opF xs no).map Value.bool) rfl (World.ownsRow.alloc HD.out.oo _) ⟨y.heap.size, 0, none⟩ 1 1 [_] rfl rfl (one_news y _ _) (by intro u hu; simp at hu; subst hu; rfl) (by decide) (by unfold maxLen; omega) (by omega) (by simp; exact Nat.le_succ_of_le HD.out.bel.size) (y.heap.size + 1) (by simp) ?_; intro g2 c2 y2 hown hgr hli hlt)
    exact HKt.out _ _ _ _ _ _ _ _ _ _ _ _ _ _ _ _ _ _ _ _ _ _ _ _ _ _ _ _ g2 c2 y2 (HD.out.grow_o (below_alloc _ _) hgr (by rw [HOP.out, HON.out]; exact hown) (hli.elim (fun q => .inl (by simpa [Value.ownBlock] using q.symm)) (fun q => .inr (by simpa using q))))
  · have HLT : Hid (Pl.lastB x.k = true) := HLA.out.symm
    have hv1 : 1 ≤ vl := by rw [← HVK.out, HX.out]; exact Pl.last_pos (by rw [← HX.out]; have := HLT.out; unfold Pl.lastB at this; exact of_decide_eq_true this) HKD.out
    obtain ⟨q, hq⟩ : ∃ q : Nat, (vl : Int) - 1 = (q : Int) := ⟨vl - 1, by omega⟩
    have hqv : q < vl := by omega
    have hqv2 : (q : Int) < (vl : Int) := by omega
    obtain ⟨c, hc, hci⟩ := HP.out.kid (q := q) hqv
    rw [← HX.out] at hc
    obtain ⟨b2, o2, hva, hb2, hcz⟩ := row_cell HRW.out hqv
    have HVA : Hid (va = some ⟨b2, o2, none⟩) := hva
    rw [hva] at cn4
    rw [hc] at hcz
    have hcii : (c : Int) < (no : Int) := by omega
    have cop := own_bool HD.out.oo hci
    obtain ⟨ob, hob⟩ : ∃ ob, ob = (Pl.opF xs no).getD c false := ⟨_, rfl⟩
    rw [← hob] at cop
    have HON : Hid (Pl.opN (Pl.opF xs no) x = ob) := by
      show Pl.opN (Pl.opF xs no) x = ob
      unfold Pl.opN
      have e1 : x.kids.length - 1 = q := by have := HVK.out; omega
      have e2 : decide (x.k = 21 ∨ x.k = 22 ∨ (24 ≤ x.k ∧ x.k ≤ 28)) = true := HLT.out
      rw [HNA.out, e1, hc, Int.toNat_natCast, e2, hob]; simp
    clear hob hc hva hv1
    go_wp2_with (at_builtin; refine wpList_append_lies _ rfl (.tmp 220) (.tmp 246) 35 rfl w0.heap.size 4 i0 (.bool false) 1 1 Tryz.underlying35 HI.out.1 HI.out.2.1 HI.out.2.2.1 HI.out.2.2.2 rfl (by decide) (.slice (some ⟨go, 0, none⟩) no co) no ((Pl.opF xs no).map Value.bool) rfl (World.ownsRow.alloc HD.out.oo _) ⟨y.heap.size, 0, none⟩ 1 1 [_] rfl rfl (one_news y _ _) (by intro u hu; simp at hu; subst hu; rfl) (by decide) (by unfold maxLen; omega) (by omega) (by simp; exact Nat.le_succ_of_le HD.out.bel.size) (y.heap.size + 1) (by simp) ?_; intro g2 c2 y2 hown hgr hli hlt)
    exact HKt.out _ _ _ _ _ _ _ _ _ _ _ _ _ _ _ _ _ _ _ _ _ _ _ _ _ _ _ _ g2 c2 y2 (HD.out.grow_o (below_alloc _ _) hgr (by rw [HOP.out, HON.out]; exact hown) (hli.elim (fun q => .inl (by simpa [Value.ownBlock] using q.symm)) (fun q => .inr (by simpa using q))))
end Go.Proofs.YteadglnenaiaaaaGreatDoor.W
namespace Go.Proofs.YteadglnenaiaaaaGreatDoor.W
open Go.RowKit
set_option maxRecDepth 1000000 in
set_option maxHeartbeats 8000000 in
theorem t32_is {lo : Nat} {w w0 y : World} {xs : List Pl.Nd} {len cap i : Nat} {gb nb cb : Nat} {LB : List Nat} {gt nt ct : Nat} {LT : List Nat} {go no co : Nat} {LO : List Bool} {ga na ca : Nat} {AL : List ByteArray} {gn : Nat} {va : Option Addr} {vl vc b off : Nat} {l : List Nat} {a hi gk : Nat} (hp : TP xs len i l vl a) (hd : TD lo w w0 y xs len cap i gb nb cb LB gt nt ct LT go no co LO ga na ca AL gn va vl vc b off) (hnb : nb ≤ 4000) (c0 c12 c13 c14 c15 c16 c17 c18 c19 c20 c21 c22 c23 c24 c25 c26 c27 c28 c29 c30 c31 c32 c33 c34 c35 c36 c37 c38 c39 c40 c41 c42 c43 c44 c45 c46 c47 c48 c49 c50 c51 c52 c53 c54 c55 c56 c57 c58 c59 c60 c61 c62 c63 c64 c65 c66 c67 c68 c69 c70 c71 c72 c73 c74 c75 c76 c77 c78 c79 c80 c81 c82 c83 c84 c85 c86 c87 c88 c89 c90 c91 c92 c93 c94 c95 c96 c97 c98 c99 c100 c101 c102 c103 c104 c105 c106 c107 c108 c109 c110 c111 c112 c113 c114 c115 c116 c117 c118 c119 c120 c121 c122 c123 c124 c125 c126 c127 c128 c129 c130 c131 c132 c133 c134 c135 c136 c137 c138 c139 c140 c141 c142 c143 c144 c145 c146 c147 c148 c149 c150 c151 c152 c153 c154 c155 c156 c157 c158 c159 c160 c161 c162 c163 c164 c165 c166 c167 c168 c169 c170 c171 c172 c173 c174 c175 c176 c177 c178 c179 c180 c181 c182 c183 c184 c185 c186 c187 c188 c189 c190 c191 c192 c193 c194 c195 c196 c197 c198 c199 c200 c201 c202 c203 c204 c205 c206 c207 c208 c209 c210 c211 c212 c213 c214 c215 c216 c217 c218 c219 c220 c221 c222 c223 c224 c225 c226 c227 c228 c229 c230 c231 c232 c233 c234 c235 c236 c237 c238 c239 c240 c241 c242 c243 c244 c245 c246 c247 c248 c249 c250 c251 c252 c253 c254 c255 c256 c257 c258 c259 c260 c261 c262 c263 c264 c265 c266 c267 c268 c269 c270 c271 c272 c273 c274 c275 c276 c277 c278 c279 c280 : Value) (K : Act → World → Prop) (Q : Exit → Act → World → Prop)
    (hK : ∀ (s248 s249 s250 s251 : Value) (g2 c2 : Nat) (y' : World), TD lo w w0 y' xs len cap i g2 (nb + 1) c2 (LB ++ [a]) gt nt ct LT go no co LO ga na ca AL gn va vl vc b off → K { tmps := #[c0, .pointer (some ⟨w.heap.size, 0, none⟩), .bool false, .slice (some ⟨g2, 0, none⟩) (nb + 1) c2, .slice (some ⟨gt, 0, none⟩) nt ct, .slice (some ⟨go, 0, none⟩) no co, .slice (some ⟨ga, 0, none⟩) na ca, .int .i64 (i : Int), .pointer (some ⟨gn, 0, none⟩), .int .i64 (a : Int), .int .i64 (hi : Int), .slice (some ⟨gk, 0, none⟩) vl vl, c12, c13, c14, c15, c16, c17, c18, c19, c20, c21, c22, c23, c24, c25, c26, c27, c28, c29, c30, c31, c32, c33, c34, c35, c36, c37, c38, c39, c40, c41, c42, c43, c44, c45, c46, c47, c48, c49, c50, c51, c52, c53, c54, c55, c56, c57, c58, c59, c60, c61, c62, c63, c64, c65, c66, c67, c68, c69, c70, c71, c72, c73, c74, c75, c76, c77, c78, c79, c80, c81, c82, c83, c84, c85, c86, c87, c88, c89, c90, c91, c92, c93, c94, c95, c96, c97, c98, c99, c100, c101, c102, c103, c104, c105, c106, c107, c108, c109, c110, c111, c112, c113, c114, c115, c116, c117, c118, c119, c120, c121, c122, c123, c124, c125, c126, c127, c128, c129, c130, c131, c132, c133, c134, c135, c136, c137, c138, c139, c140, c141, c142, c143, c144, c145, c146, c147, c148, c149, c150, c151, c152, c153, c154, c155, c156, c157, c158, c159, c160, c161, c162, c163, c164, c165, c166, c167, c168, c169, c170, c171, c172, c173, c174, c175, c176, c177, c178, c179, c180, c181, c182, c183, c184, c185, c186, c187, c188, c189, c190, c191, c192, c193, c194, c195, c196, c197, c198, c199, c200, c201, c202, c203, c204, c205, c206, c207, c208, c209, c210, c211, c212, c213, c214, c215, c216, c217, c218, c219, c220, c221, c222, c223, c224, c225, c226, c227, c228, c229, c230, c231, c232, c233, c234, c235, c236, c237, c238, c239, c240, c241, c242, c243, c244, c245, c246, c247, s248, s249, s250, s251, c252, c253, c254, c255, c256, c257, c258, c259, c260, c261, c262, c263, c264, c265, c266, c267, c268, c269, c270, c271, c272, c273, c274, c275, c276, c277, c278, c279, c280], defers := [] } y') :
    (tokC 32).wp Tryz.prog (Exit.then K Q) { tmps := #[c0, .pointer (some ⟨w.heap.size, 0, none⟩), .bool false, .slice (some ⟨gb, 0, none⟩) nb cb, .slice (some ⟨gt, 0, none⟩) nt ct, .slice (some ⟨go, 0, none⟩) no co, .slice (some ⟨ga, 0, none⟩) na ca, .int .i64 (i : Int), .pointer (some ⟨gn, 0, none⟩), .int .i64 (a : Int), .int .i64 (hi : Int), .slice (some ⟨gk, 0, none⟩) vl vl, c12, c13, c14, c15, c16, c17, c18, c19, c20, c21, c22, c23, c24, c25, c26, c27, c28, c29, c30, c31, c32, c33, c34, c35, c36, c37, c38, c39, c40, c41, c42, c43, c44, c45, c46, c47, c48, c49, c50, c51, c52, c53, c54, c55, c56, c57, c58, c59, c60, c61, c62, c63, c64, c65, c66, c67, c68, c69, c70, c71, c72, c73, c74, c75, c76, c77, c78, c79, c80, c81, c82, c83, c84, c85, c86, c87, c88, c89, c90, c91, c92, c93, c94, c95, c96, c97, c98, c99, c100, c101, c102, c103, c104, c105, c106, c107, c108, c109, c110, c111, c112, c113, c114, c115, c116, c117, c118, c119, c120, c121, c122, c123, c124, c125, c126, c127, c128, c129, c130, c131, c132, c133, c134, c135, c136, c137, c138, c139, c140, c141, c142, c143, c144, c145, c146, c147, c148, c149, c150, c151, c152, c153, c154, c155, c156, c157, c158, c159, c160, c161, c162, c163, c164, c165, c166, c167, c168, c169, c170, c171, c172, c173, c174, c175, c176, c177, c178, c179, c180, c181, c182, c183, c184, c185, c186, c187, c188, c189, c190, c191, c192, c193, c194, c195, c196, c197, c198, c199, c200, c201, c202, c203, c204, c205, c206, c207, c208, c209, c210, c211, c212, c213, c214, c215, c216, c217, c218, c219, c220, c221, c222, c223, c224, c225, c226, c227, c228, c229, c230, c231, c232, c233, c234, c235, c236, c237, c238, c239, c240, c241, c242, c243, c244, c245, c246, c247, c248, c249, c250, c251, c252, c253, c254, c255, c256, c257, c258, c259, c260, c261, c262, c263, c264, c265, c266, c267, c268, c269, c270, c271, c272, c273, c274, c275, c276, c277, c278, c279, c280], defers := [] } y := by
  have HKt : Hid _ := hK
  have HP : Hid (TP xs len i l vl a) := hp
  have HD : Hid (TD lo w w0 y xs len cap i gb nb cb LB gt nt ct LT go no co LO ga na ca AL gn va vl vc b off) := hd
  clear hK
  conv => arg 2; whnf
  obtain ⟨i0, hi0, hz0, hz1, hz2⟩ := info_parts Tryz.infoi64
  have HI : Hid (Tryz.prog.info? 3 = some i0 ∧ i0.zero = some (.int .i64 0) ∧ i0.size = 1 ∧ i0.bytes = 8) := ⟨hi0, hz0, hz1, hz2⟩
  clear hi0 hz0 hz1 hz2
  clear hd hp
  go_wp2_with (at_builtin; refine wpList_append_lies _ rfl (.tmp 248) (.tmp 250) 34 rfl w0.heap.size 3 i0 (.int .i64 0) 1 8 Tryz.underlying34 HI.out.1 HI.out.2.1 HI.out.2.2.1 HI.out.2.2.2 rfl (by decide) (.slice (some ⟨gb, 0, none⟩) nb cb) nb (LB.map fun n : Nat => Value.int .i64 (n : Int)) rfl (World.ownsRow.alloc HD.out.ob _) ⟨y.heap.size, 0, none⟩ 1 1 [_] rfl rfl (one_news y _ _) (by intro u hu; simp at hu; subst hu; rfl) (by decide) (by unfold maxLen; omega) (by omega) (by simp; exact Nat.le_succ_of_le HD.out.bel.size) (y.heap.size + 1) (by simp) ?_; intro g2 c2 y2 hown hgr hli hlt)
  exact HKt.out _ _ _ _ g2 c2 y2 (HD.out.grow_b (below_alloc _ _) hgr (by rw [List.map_append]; exact hown) (hli.elim (fun q => .inl (by simpa [Value.ownBlock] using q.symm)) (fun q => .inr (by simpa using q))))
set_option maxRecDepth 1000000 in
set_option maxHeartbeats 8000000 in
theorem t33_is {lo : Nat} {w w0 y : World} {xs : List Pl.Nd} {len cap i : Nat} {gb nb cb : Nat} {LB : List Nat} {gt nt ct : Nat} {LT : List Nat} {go no co : Nat} {LO : List Bool} {ga na ca : Nat} {AL : List ByteArray} {gn : Nat} {va : Option Addr} {vl vc b off : Nat} {l : List Nat} {a hi gk : Nat} (hp : TP xs len i l vl a) (hd : TD lo w w0 y xs len cap i gb nb cb LB gt nt ct LT go no co LO ga na ca AL gn va vl vc b off) (hnt : nt ≤ 4000) (c0 c12 c13 c14 c15 c16 c17 c18 c19 c20 c21 c22 c23 c24 c25 c26 c27 c28 c29 c30 c31 c32 c33 c34 c35 c36 c37 c38 c39 c40 c41 c42 c43 c44 c45 c46 c47 c48 c49 c50 c51 c52 c53 c54 c55 c56 c57 c58 c59 c60 c61 c62 c63 c64 c65 c66 c67 c68 c69 c70 c71 c72 c73 c74 c75 c76 c77 c78 c79 c80 c81 c82 c83 c84 c85 c86 c87 c88 c89 c90 c91 c92 c93 c94 c95 c96 c97 c98 c99 c100 c101 c102 c103 c104 c105 c106 c107 c108 c109 c110 c111 c112 c113 c114 c115 c116 c117 c118 c119 c120 c121 c122 c123 c124 c125 c126 c127 c128 c129 c130 c131 c132 c133 c134 c135 c136 c137 c138 c139 c140 c141 c142 c143 c144 c145 c146 c147 c148 c149 c150 c151 c152 c153 c154 c155 c156 c157 c158 c159 c160 c161 c162 c163 c164 c165 c166 c167 c168 c169 c170 c171 c172 c173 c174 c175 c176 c177 c178 c179 c180 c181 c182 c183 c184 c185 c186 c187 c188 c189 c190 c191 c192 c193 c194 c195 c196 c197 c198 c199 c200 c201 c202 c203 c204 c205 c206 c207 c208 c209 c210 c211 c212 c213 c214 c215 c216 c217 c218 c219 c220 c221 c222 c223 c224 c225 c226 c227 c228 c229 c230 c231 c232 c233 c234 c235 c236 c237 c238 c239 c240 c241 c242 c243 c244 c245 c246 c247 c248 c249 c250 c251 c252 c253 c254 c255 c256 c257 c258 c259 c260 c261 c262 c263 c264 c265 c266 c267 c268 c269 c270 c271 c272 c273 c274 c275 c276 c277 c278 c279 c280 : Value) (K : Act → World → Prop) (Q : Exit → Act → World → Prop)
    (hK : ∀ (s252 s253 s254 s255 : Value) (g2 c2 : Nat) (y' : World), TD lo w w0 y' xs len cap i gb nb cb LB g2 (nt + 1) c2 (LT ++ [hi]) go no co LO ga na ca AL gn va vl vc b off → K { tmps := #[c0, .pointer (some ⟨w.heap.size, 0, none⟩), .bool false, .slice (some ⟨gb, 0, none⟩) nb cb, .slice (some ⟨g2, 0, none⟩) (nt + 1) c2, .slice (some ⟨go, 0, none⟩) no co, .slice (some ⟨ga, 0, none⟩) na ca, .int .i64 (i : Int), .pointer (some ⟨gn, 0, none⟩), .int .i64 (a : Int), .int .i64 (hi : Int), .slice (some ⟨gk, 0, none⟩) vl vl, c12, c13, c14, c15, c16, c17, c18, c19, c20, c21, c22, c23, c24, c25, c26, c27, c28, c29, c30, c31, c32, c33, c34, c35, c36, c37, c38, c39, c40, c41, c42, c43, c44, c45, c46, c47, c48, c49, c50, c51, c52, c53, c54, c55, c56, c57, c58, c59, c60, c61, c62, c63, c64, c65, c66, c67, c68, c69, c70, c71, c72, c73, c74, c75, c76, c77, c78, c79, c80, c81, c82, c83, c84, c85, c86, c87, c88, c89, c90, c91, c92, c93, c94, c95, c96, c97, c98, c99, c100, c101, c102, c103, c104, c105, c106, c107, c108, c109, c110, c111, c112, c113, c114, c115, c116, c117, c118, c119, c120, c121, c122, c123, c124, c125, c126, c127, c128, c129, c130, c131, c132, c133, c134, c135, c136, c137, c138, c139, c140, c141, c142, c143, c144, c145, c146, c147, c148, c149, c150, c151, c152, c153, c154, c155, c156, c157, c158, c159, c160, c161, c162, c163, c164, c165, c166, c167, c168, c169, c170, c171, c172, c173, c174, c175, c176, c177, c178, c179, c180, c181, c182, c183, c184, c185, c186, c187, c188, c189, c190, c191, c192, c193, c194, c195, c196, c197, c198, c199, c200, c201, c202, c203, c204, c205, c206, c207, c208, c209, c210, c211, c212, c213, c214, c215, c216, c217, c218, c219, c220, c221, c222, c223, c224, c225, c226, c227, c228, c229, c230, c231, c232, c233, c234, c235, c236, c237, c238, c239, c240, c241, c242, c243, c244, c245, c246, c247, c248, c249, c250, c251, s252, s253, s254, s255, c256, c257, c258, c259, c260, c261, c262, c263, c264, c265, c266, c267, c268, c269, c270, c271, c272, c273, c274, c275, c276, c277, c278, c279, c280], defers := [] } y') :
    (tokC 33).wp Tryz.prog (Exit.then K Q) { tmps := #[c0, .pointer (some ⟨w.heap.size, 0, none⟩), .bool false, .slice (some ⟨gb, 0, none⟩) nb cb, .slice (some ⟨gt, 0, none⟩) nt ct, .slice (some ⟨go, 0, none⟩) no co, .slice (some ⟨ga, 0, none⟩) na ca, .int .i64 (i : Int), .pointer (some ⟨gn, 0, none⟩), .int .i64 (a : Int), .int .i64 (hi : Int), .slice (some ⟨gk, 0, none⟩) vl vl, c12, c13, c14, c15, c16, c17, c18, c19, c20, c21, c22, c23, c24, c25, c26, c27, c28, c29, c30, c31, c32, c33, c34, c35, c36, c37, c38, c39, c40, c41, c42, c43, c44, c45, c46, c47, c48, c49, c50, c51, c52, c53, c54, c55, c56, c57, c58, c59, c60, c61, c62, c63, c64, c65, c66, c67, c68, c69, c70, c71, c72, c73, c74, c75, c76, c77, c78, c79, c80, c81, c82, c83, c84, c85, c86, c87, c88, c89, c90, c91, c92, c93, c94, c95, c96, c97, c98, c99, c100, c101, c102, c103, c104, c105, c106, c107, c108, c109, c110, c111, c112, c113, c114, c115, c116, c117, c118, c119, c120, c121, c122, c123, c124, c125, c126, c127, c128, c129, c130, c131, c132, c133, c134, c135, c136, c137, c138, c139, c140, c141, c142, c143, c144, c145, c146, c147, c148, c149, c150, c151, c152, c153, c154, c155, c156, c157, c158, c159, c160, c161, c162, c163, c164, c165, c166, c167, c168, c169, c170, c171, c172, c173, c174, c175, c176, c177, c178, c179, c180, c181, c182, c183, c184, c185, c186, c187, c188, c189, c190, c191, c192, c193, c194, c195, c196, c197, c198, c199, c200, c201, c202, c203, c204, c205, c206, c207, c208, c209, c210, c211, c212, c213, c214, c215, c216, c217, c218, c219, c220, c221, c222, c223, c224, c225, c226, c227, c228, c229, c230, c231, c232, c233, c234, c235, c236, c237, c238, c239, c240, c241, c242, c243, c244, c245, c246, c247, c248, c249, c250, c251, c252, c253, c254, c255, c256, c257, c258, c259, c260, c261, c262, c263, c264, c265, c266, c267, c268, c269, c270, c271, c272, c273, c274, c275, c276, c277, c278, c279, c280], defers := [] } y := by
  have HKt : Hid _ := hK
  have HP : Hid (TP xs len i l vl a) := hp
  have HD : Hid (TD lo w w0 y xs len cap i gb nb cb LB gt nt ct LT go no co LO ga na ca AL gn va vl vc b off) := hd
  clear hK
  conv => arg 2; whnf
  obtain ⟨i0, hi0, hz0, hz1, hz2⟩ := info_parts Tryz.infoi64
  have HI : Hid (Tryz.prog.info? 3 = some i0 ∧ i0.zero = some (.int .i64 0) ∧ i0.size = 1 ∧ i0.bytes = 8) := ⟨hi0, hz0, hz1, hz2⟩
  clear hi0 hz0 hz1 hz2
  clear hd hp
  go_wp2_with (at_builtin; refine wpList_append_lies _ rfl (.tmp 252) (.tmp 254) 34 rfl w0.heap.size 3 i0 (.int .i64 0) 1 8 Tryz.underlying34 HI.out.1 HI.out.2.1 HI.out.2.2.1 HI.out.2.2.2 rfl (by decide) (.slice (some ⟨gt, 0, none⟩) nt ct) nt (LT.map fun n : Nat => Value.int .i64 (n : Int)) rfl (World.ownsRow.alloc HD.out.ot _) ⟨y.heap.size, 0, none⟩ 1 1 [_] rfl rfl (one_news y _ _) (by intro u hu; simp at hu; subst hu; rfl) (by decide) (by unfold maxLen; omega) (by omega) (by simp; exact Nat.le_succ_of_le HD.out.bel.size) (y.heap.size + 1) (by simp) ?_; intro g2 c2 y2 hown hgr hli hlt)
  exact HKt.out _ _ _ _ g2 c2 y2 (HD.out.grow_t (below_alloc _ _) hgr (by rw [List.map_append]; exact hown) (hli.elim (fun q => .inl (by simpa [Value.ownBlock] using q.symm)) (fun q => .inr (by simpa using q))))
set_option maxRecDepth 1000000 in
set_option maxHeartbeats 8000000 in
theorem t34_is {lo : Nat} {w w0 y : World} {xs : List Pl.Nd} {len cap i : Nat} {gb nb cb : Nat} {LB : List Nat} {gt nt ct : Nat} {LT : List Nat} {go no co : Nat} {LO : List Bool} {ga na ca : Nat} {AL : List ByteArray} {gn : Nat} {va : Option Addr} {vl vc b off : Nat} {l : List Nat} {a hi gk : Nat} (hp : TP xs len i l vl a) (hd : TD lo w w0 y xs len cap i gb nb cb LB gt nt ct LT go no co LO ga na ca AL gn va vl vc b off) (hna : na ≤ 4000) (c0 c12 c13 c14 c15 c16 c17 c18 c19 c20 c21 c22 c23 c24 c25 c26 c27 c28 c29 c30 c31 c32 c33 c34 c35 c36 c37 c38 c39 c40 c41 c42 c43 c44 c45 c46 c47 c48 c49 c50 c51 c52 c53 c54 c55 c56 c57 c58 c59 c60 c61 c62 c63 c64 c65 c66 c67 c68 c69 c70 c71 c72 c73 c74 c75 c76 c77 c78 c79 c80 c81 c82 c83 c84 c85 c86 c87 c88 c89 c90 c91 c92 c93 c94 c95 c96 c97 c98 c99 c100 c101 c102 c103 c104 c105 c106 c107 c108 c109 c110 c111 c112 c113 c114 c115 c116 c117 c118 c119 c120 c121 c122 c123 c124 c125 c126 c127 c128 c129 c130 c131 c132 c133 c134 c135 c136 c137 c138 c139 c140 c141 c142 c143 c144 c145 c146 c147 c148 c149 c150 c151 c152 c153 c154 c155 c156 c157 c158 c159 c160 c161 c162 c163 c164 c165 c166 c167 c168 c169 c170 c171 c172 c173 c174 c175 c176 c177 c178 c179 c180 c181 c182 c183 c184 c185 c186 c187 c188 c189 c190 c191 c192 c193 c194 c195 c196 c197 c198 c199 c200 c201 c202 c203 c204 c205 c206 c207 c208 c209 c210 c211 c212 c213 c214 c215 c216 c217 c218 c219 c220 c221 c222 c223 c224 c225 c226 c227 c228 c229 c230 c231 c232 c233 c234 c235 c236 c237 c238 c239 c240 c241 c242 c243 c244 c245 c246 c247 c248 c249 c250 c251 c252 c253 c254 c255 c256 c257 c258 c259 c260 c261 c262 c263 c264 c265 c266 c267 c268 c269 c270 c271 c272 c273 c274 c275 c276 c277 c278 c279 c280 : Value) (K : Act → World → Prop) (Q : Exit → Act → World → Prop)
    (hK : ∀ (s256 s257 s258 s259 s260 s261 s262 s263 : Value) (g2 n2 c2 : Nat) (A2 : List ByteArray) (y' : World), A2 = (if (Pl.nd xs i).k = 12 then AL ++ [(Pl.nd xs i).s] else AL) → n2 ≤ na + 1 → TD lo w w0 y' xs len cap i gb nb cb LB gt nt ct LT go no co LO g2 n2 c2 A2 gn va vl vc b off → K { tmps := #[c0, .pointer (some ⟨w.heap.size, 0, none⟩), .bool false, .slice (some ⟨gb, 0, none⟩) nb cb, .slice (some ⟨gt, 0, none⟩) nt ct, .slice (some ⟨go, 0, none⟩) no co, .slice (some ⟨g2, 0, none⟩) n2 c2, .int .i64 (i : Int), .pointer (some ⟨gn, 0, none⟩), .int .i64 (a : Int), .int .i64 (hi : Int), .slice (some ⟨gk, 0, none⟩) vl vl, c12, c13, c14, c15, c16, c17, c18, c19, c20, c21, c22, c23, c24, c25, c26, c27, c28, c29, c30, c31, c32, c33, c34, c35, c36, c37, c38, c39, c40, c41, c42, c43, c44, c45, c46, c47, c48, c49, c50, c51, c52, c53, c54, c55, c56, c57, c58, c59, c60, c61, c62, c63, c64, c65, c66, c67, c68, c69, c70, c71, c72, c73, c74, c75, c76, c77, c78, c79, c80, c81, c82, c83, c84, c85, c86, c87, c88, c89, c90, c91, c92, c93, c94, c95, c96, c97, c98, c99, c100, c101, c102, c103, c104, c105, c106, c107, c108, c109, c110, c111, c112, c113, c114, c115, c116, c117, c118, c119, c120, c121, c122, c123, c124, c125, c126, c127, c128, c129, c130, c131, c132, c133, c134, c135, c136, c137, c138, c139, c140, c141, c142, c143, c144, c145, c146, c147, c148, c149, c150, c151, c152, c153, c154, c155, c156, c157, c158, c159, c160, c161, c162, c163, c164, c165, c166, c167, c168, c169, c170, c171, c172, c173, c174, c175, c176, c177, c178, c179, c180, c181, c182, c183, c184, c185, c186, c187, c188, c189, c190, c191, c192, c193, c194, c195, c196, c197, c198, c199, c200, c201, c202, c203, c204, c205, c206, c207, c208, c209, c210, c211, c212, c213, c214, c215, c216, c217, c218, c219, c220, c221, c222, c223, c224, c225, c226, c227, c228, c229, c230, c231, c232, c233, c234, c235, c236, c237, c238, c239, c240, c241, c242, c243, c244, c245, c246, c247, c248, c249, c250, c251, c252, c253, c254, c255, s256, s257, s258, s259, s260, s261, s262, s263, c264, c265, c266, c267, c268, c269, c270, c271, c272, c273, c274, c275, c276, c277, c278, c279, c280], defers := [] } y') :
    (tokC 34).wp Tryz.prog (Exit.then K Q) { tmps := #[c0, .pointer (some ⟨w.heap.size, 0, none⟩), .bool false, .slice (some ⟨gb, 0, none⟩) nb cb, .slice (some ⟨gt, 0, none⟩) nt ct, .slice (some ⟨go, 0, none⟩) no co, .slice (some ⟨ga, 0, none⟩) na ca, .int .i64 (i : Int), .pointer (some ⟨gn, 0, none⟩), .int .i64 (a : Int), .int .i64 (hi : Int), .slice (some ⟨gk, 0, none⟩) vl vl, c12, c13, c14, c15, c16, c17, c18, c19, c20, c21, c22, c23, c24, c25, c26, c27, c28, c29, c30, c31, c32, c33, c34, c35, c36, c37, c38, c39, c40, c41, c42, c43, c44, c45, c46, c47, c48, c49, c50, c51, c52, c53, c54, c55, c56, c57, c58, c59, c60, c61, c62, c63, c64, c65, c66, c67, c68, c69, c70, c71, c72, c73, c74, c75, c76, c77, c78, c79, c80, c81, c82, c83, c84, c85, c86, c87, c88, c89, c90, c91, c92, c93, c94, c95, c96, c97, c98, c99, c100, c101, c102, c103, c104, c105, c106, c107, c108, c109, c110, c111, c112, c113, c114, c115, c116, c117, c118, c119, c120, c121, c122, c123, c124, c125, c126, c127, c128, c129, c130, c131, c132, c133, c134, c135, c136, c137, c138, c139, c140, c141, c142, c143, c144, c145, c146, c147, c148, c149, c150, c151, c152, c153, c154, c155, c156, c157, c158, c159, c160, c161, c162, c163, c164, c165, c166, c167, c168, c169, c170, c171, c172, c173, c174, c175, c176, c177, c178, c179, c180, c181, c182, c183, c184, c185, c186, c187, c188, c189, c190, c191, c192, c193, c194, c195, c196, c197, c198, c199, c200, c201, c202, c203, c204, c205, c206, c207, c208, c209, c210, c211, c212, c213, c214, c215, c216, c217, c218, c219, c220, c221, c222, c223, c224, c225, c226, c227, c228, c229, c230, c231, c232, c233, c234, c235, c236, c237, c238, c239, c240, c241, c242, c243, c244, c245, c246, c247, c248, c249, c250, c251, c252, c253, c254, c255, c256, c257, c258, c259, c260, c261, c262, c263, c264, c265, c266, c267, c268, c269, c270, c271, c272, c273, c274, c275, c276, c277, c278, c279, c280], defers := [] } y := by
  have HKt : Hid _ := hK
  have HP : Hid (TP xs len i l vl a) := hp
  have HD : Hid (TD lo w w0 y xs len cap i gb nb cb LB gt nt ct LT go no co LO ga na ca AL gn va vl vc b off) := hd
  clear hK
  conv => arg 2; whnf
  obtain ⟨x, hx⟩ : ∃ x, x = Pl.nd xs i := ⟨_, rfl⟩
  have HX : Hid (x = Pl.nd xs i) := hx
  have hfc := fun j => cell_of_row y gn j _ 38 (0, 0) hd.nd
  have cn0 : y.cell? ⟨gn, 0, none⟩ = some (.int .i64 x.k) := by rw [hx]; exact hfc 0
  have cn3 : y.cell? ⟨gn, 3, none⟩ = some (.string x.s) := by rw [hx]; exact hfc 3
  have cn4 : y.cell? ⟨gn, 4, none⟩ = some (.slice va vl vc) := hfc 4
  have HVK : Hid (x.kids.length = vl) := by show x.kids.length = vl; rw [hx]; exact hp.vk
  have hvl : vl ≤ 1048576 := by rw [← hp.vk]; exact hp.kl i hp.hi
  have hvl2 : (vl : Int) ≤ 9223372036854775807 := by omega
  have hi4 : i ≤ 4000 := by have := hp.hi; have := hp.l4; omega
  have hgn : gn < y.heap.size := (Array.getElem?_eq_some_iff.1 hd.nd).1
  have ka0 : ∀ o, (y.alloc o).cell? ⟨gn, 0, none⟩ = some (.int .i64 x.k) := fun o => ((below_alloc y o).cell (p := ⟨gn, 0, none⟩) hgn).trans cn0
  clear hfc
  obtain ⟨i0, hi0, hz0, hz1, hz2⟩ := info_parts Tryz.infostring
  have HI : Hid (Tryz.prog.info? 9 = some i0 ∧ i0.zero = some (.string ⟨#[]⟩) ∧ i0.size = 1 ∧ i0.bytes = 16) := ⟨hi0, hz0, hz1, hz2⟩
  clear hi0 hz0 hz1 hz2
  clear hx hd hp
  by_cases k12 : x.k = 12
  · have k12b : (x.k == 12) = true := by simpa using k12
    have HA2 : Hid (AL ++ [x.s] = if (Pl.nd xs i).k = 12 then AL ++ [(Pl.nd xs i).s] else AL) := by show AL ++ [x.s] = _; rw [← HX.out, if_pos k12]
    clear k12
    go_wp2_with (at_builtin; refine wpList_append_lies _ rfl (.tmp 259) (.tmp 262) 36 rfl w0.heap.size 9 i0 (.string ⟨#[]⟩) 1 16 Tryz.underlying36 HI.out.1 HI.out.2.1 HI.out.2.2.1 HI.out.2.2.2 rfl (by decide) (.slice (some ⟨ga, 0, none⟩) na ca) na (AL.map Value.string) rfl (World.ownsRow.alloc HD.out.oa _) ⟨y.heap.size, 0, none⟩ 1 1 [_] rfl rfl (one_news y _ _) (by intro u hu; simp at hu; subst hu; rfl) (by decide) (by unfold maxLen; omega) (by omega) (by simp; exact Nat.le_succ_of_le HD.out.bel.size) (y.heap.size + 1) (by simp) ?_; intro g2 c2 y2 hown hgr hli hlt)
    exact HKt.out _ _ _ _ _ _ _ _ g2 (na + 1) c2 (AL ++ [x.s]) y2 HA2.out (by omega) (HD.out.grow_a (below_alloc _ _) hgr (by rw [List.map_append]; exact hown) (hli.elim (fun q => .inl (by simpa [Value.ownBlock] using q.symm)) (fun q => .inr (by simpa using q))))
  · have k12b : (x.k == 12) = false := by simpa using k12
    have HA2 : Hid (AL = if (Pl.nd xs i).k = 12 then AL ++ [(Pl.nd xs i).s] else AL) := by show AL = _; rw [← HX.out, if_neg k12]
    clear k12
    go_wp2_with fail
    exact HKt.out _ _ _ _ _ _ _ _ ga na ca AL y HA2.out (by omega) HD.out
noncomputable def tokL : Code := ((Tryz.f5.body.bind (restAt 36)).getD .skip)
set_option maxRecDepth 1000000 in
set_option maxHeartbeats 8000000 in
theorem t36_is {lo : Nat} {w w0 y : World} {xs : List Pl.Nd} {len cap i : Nat} {gb nb cb : Nat} {LB : List Nat} {gt nt ct : Nat} {LT : List Nat} {go no co : Nat} {LO : List Bool} {ga na ca : Nat} {AL : List ByteArray} {gn : Nat} {va : Option Addr} {vl vc b off : Nat} {l : List Nat} {a hi gk : Nat} (hp : TP xs len i l vl a) (hd : TD lo w w0 y xs len cap i gb nb cb LB gt nt ct LT go no co LO ga na ca AL gn va vl vc b off)  (c0 c12 c13 c14 c15 c16 c17 c18 c19 c20 c21 c22 c23 c24 c25 c26 c27 c28 c29 c30 c31 c32 c33 c34 c35 c36 c37 c38 c39 c40 c41 c42 c43 c44 c45 c46 c47 c48 c49 c50 c51 c52 c53 c54 c55 c56 c57 c58 c59 c60 c61 c62 c63 c64 c65 c66 c67 c68 c69 c70 c71 c72 c73 c74 c75 c76 c77 c78 c79 c80 c81 c82 c83 c84 c85 c86 c87 c88 c89 c90 c91 c92 c93 c94 c95 c96 c97 c98 c99 c100 c101 c102 c103 c104 c105 c106 c107 c108 c109 c110 c111 c112 c113 c114 c115 c116 c117 c118 c119 c120 c121 c122 c123 c124 c125 c126 c127 c128 c129 c130 c131 c132 c133 c134 c135 c136 c137 c138 c139 c140 c141 c142 c143 c144 c145 c146 c147 c148 c149 c150 c151 c152 c153 c154 c155 c156 c157 c158 c159 c160 c161 c162 c163 c164 c165 c166 c167 c168 c169 c170 c171 c172 c173 c174 c175 c176 c177 c178 c179 c180 c181 c182 c183 c184 c185 c186 c187 c188 c189 c190 c191 c192 c193 c194 c195 c196 c197 c198 c199 c200 c201 c202 c203 c204 c205 c206 c207 c208 c209 c210 c211 c212 c213 c214 c215 c216 c217 c218 c219 c220 c221 c222 c223 c224 c225 c226 c227 c228 c229 c230 c231 c232 c233 c234 c235 c236 c237 c238 c239 c240 c241 c242 c243 c244 c245 c246 c247 c248 c249 c250 c251 c252 c253 c254 c255 c256 c257 c258 c259 c260 c261 c262 c263 c264 c265 c266 c267 c268 c269 c270 c271 c272 c273 c274 c275 c276 c277 c278 c279 c280 : Value) (K : Act → World → Prop) (Q : Exit → Act → World → Prop)
    (hR : ∀ (tmps : Array Value) (y' : World), tmps.getD 2 undef = .bool false → ¬ Pl.NdS xs xs.length i → Below w0.heap.size w0 y' → Q .ret { tmps := tmps, defers := [] } y')
    (hK : ∀ (s264 s265 s266 s267 s268 s269 s270 s271 s272 s273 : Value)  (y' : World), ((Pl.nd xs i).k = 15 ↔ i + 1 = xs.length) → TD lo w w0 y' xs len cap i gb nb cb LB gt nt ct LT go no co LO ga na ca AL gn va vl vc b off → K { tmps := #[c0, .pointer (some ⟨w.heap.size, 0, none⟩), .bool false, .slice (some ⟨gb, 0, none⟩) nb cb, .slice (some ⟨gt, 0, none⟩) nt ct, .slice (some ⟨go, 0, none⟩) no co, .slice (some ⟨ga, 0, none⟩) na ca, .int .i64 (i : Int), .pointer (some ⟨gn, 0, none⟩), .int .i64 (a : Int), .int .i64 (hi : Int), .slice (some ⟨gk, 0, none⟩) vl vl, c12, c13, c14, c15, c16, c17, c18, c19, c20, c21, c22, c23, c24, c25, c26, c27, c28, c29, c30, c31, c32, c33, c34, c35, c36, c37, c38, c39, c40, c41, c42, c43, c44, c45, c46, c47, c48, c49, c50, c51, c52, c53, c54, c55, c56, c57, c58, c59, c60, c61, c62, c63, c64, c65, c66, c67, c68, c69, c70, c71, c72, c73, c74, c75, c76, c77, c78, c79, c80, c81, c82, c83, c84, c85, c86, c87, c88, c89, c90, c91, c92, c93, c94, c95, c96, c97, c98, c99, c100, c101, c102, c103, c104, c105, c106, c107, c108, c109, c110, c111, c112, c113, c114, c115, c116, c117, c118, c119, c120, c121, c122, c123, c124, c125, c126, c127, c128, c129, c130, c131, c132, c133, c134, c135, c136, c137, c138, c139, c140, c141, c142, c143, c144, c145, c146, c147, c148, c149, c150, c151, c152, c153, c154, c155, c156, c157, c158, c159, c160, c161, c162, c163, c164, c165, c166, c167, c168, c169, c170, c171, c172, c173, c174, c175, c176, c177, c178, c179, c180, c181, c182, c183, c184, c185, c186, c187, c188, c189, c190, c191, c192, c193, c194, c195, c196, c197, c198, c199, c200, c201, c202, c203, c204, c205, c206, c207, c208, c209, c210, c211, c212, c213, c214, c215, c216, c217, c218, c219, c220, c221, c222, c223, c224, c225, c226, c227, c228, c229, c230, c231, c232, c233, c234, c235, c236, c237, c238, c239, c240, c241, c242, c243, c244, c245, c246, c247, c248, c249, c250, c251, c252, c253, c254, c255, c256, c257, c258, c259, c260, c261, c262, c263, s264, s265, s266, s267, s268, s269, s270, s271, s272, s273, c274, c275, c276, c277, c278, c279, c280], defers := [] } y') :
    tokL.wp Tryz.prog (Exit.then K Q) { tmps := #[c0, .pointer (some ⟨w.heap.size, 0, none⟩), .bool false, .slice (some ⟨gb, 0, none⟩) nb cb, .slice (some ⟨gt, 0, none⟩) nt ct, .slice (some ⟨go, 0, none⟩) no co, .slice (some ⟨ga, 0, none⟩) na ca, .int .i64 (i : Int), .pointer (some ⟨gn, 0, none⟩), .int .i64 (a : Int), .int .i64 (hi : Int), .slice (some ⟨gk, 0, none⟩) vl vl, c12, c13, c14, c15, c16, c17, c18, c19, c20, c21, c22, c23, c24, c25, c26, c27, c28, c29, c30, c31, c32, c33, c34, c35, c36, c37, c38, c39, c40, c41, c42, c43, c44, c45, c46, c47, c48, c49, c50, c51, c52, c53, c54, c55, c56, c57, c58, c59, c60, c61, c62, c63, c64, c65, c66, c67, c68, c69, c70, c71, c72, c73, c74, c75, c76, c77, c78, c79, c80, c81, c82, c83, c84, c85, c86, c87, c88, c89, c90, c91, c92, c93, c94, c95, c96, c97, c98, c99, c100, c101, c102, c103, c104, c105, c106, c107, c108, c109, c110, c111, c112, c113, c114, c115, c116, c117, c118, c119, c120, c121, c122, c123, c124, c125, c126, c127, c128, c129, c130, c131, c132, c133, c134, c135, c136, c137, c138, c139, c140, c141, c142, c143, c144, c145, c146, c147, c148, c149, c150, c151, c152, c153, c154, c155, c156, c157, c158, c159, c160, c161, c162, c163, c164, c165, c166, c167, c168, c169, c170, c171, c172, c173, c174, c175, c176, c177, c178, c179, c180, c181, c182, c183, c184, c185, c186, c187, c188, c189, c190, c191, c192, c193, c194, c195, c196, c197, c198, c199, c200, c201, c202, c203, c204, c205, c206, c207, c208, c209, c210, c211, c212, c213, c214, c215, c216, c217, c218, c219, c220, c221, c222, c223, c224, c225, c226, c227, c228, c229, c230, c231, c232, c233, c234, c235, c236, c237, c238, c239, c240, c241, c242, c243, c244, c245, c246, c247, c248, c249, c250, c251, c252, c253, c254, c255, c256, c257, c258, c259, c260, c261, c262, c263, c264, c265, c266, c267, c268, c269, c270, c271, c272, c273, c274, c275, c276, c277, c278, c279, c280], defers := [] } y := by
  have HRt : Hid (∀ (tmps : Array Value) (y' : World), tmps.getD 2 undef = .bool false → ¬ Pl.NdS xs xs.length i → Below w0.heap.size w0 y' → Q .ret { tmps := tmps, defers := [] } y') := hR
  clear hR
  have HKt : Hid _ := hK
  have HP : Hid (TP xs len i l vl a) := hp
  have HD : Hid (TD lo w w0 y xs len cap i gb nb cb LB gt nt ct LT go no co LO ga na ca AL gn va vl vc b off) := hd
  clear hK
  conv => arg 2; whnf
  obtain ⟨x, hx⟩ : ∃ x, x = Pl.nd xs i := ⟨_, rfl⟩
  have HX : Hid (x = Pl.nd xs i) := hx
  have hfc := fun j => cell_of_row y gn j _ 38 (0, 0) hd.nd
  have cn0 : y.cell? ⟨gn, 0, none⟩ = some (.int .i64 x.k) := by rw [hx]; exact hfc 0
  have cn3 : y.cell? ⟨gn, 3, none⟩ = some (.string x.s) := by rw [hx]; exact hfc 3
  have cn4 : y.cell? ⟨gn, 4, none⟩ = some (.slice va vl vc) := hfc 4
  have HVK : Hid (x.kids.length = vl) := by show x.kids.length = vl; rw [hx]; exact hp.vk
  have hvl : vl ≤ 1048576 := by rw [← hp.vk]; exact hp.kl i hp.hi
  have hvl2 : (vl : Int) ≤ 9223372036854775807 := by omega
  have hi4 : i ≤ 4000 := by have := hp.hi; have := hp.l4; omega
  have hgn : gn < y.heap.size := (Array.getElem?_eq_some_iff.1 hd.nd).1
  have ka0 : ∀ o, (y.alloc o).cell? ⟨gn, 0, none⟩ = some (.int .i64 x.k) := fun o => ((below_alloc y o).cell (p := ⟨gn, 0, none⟩) hgn).trans cn0
  clear hfc
  have hl4 := hp.l4
  have hii := hp.hi
  have hxl := hp.xl
  have k0 : y.cell? ⟨w.heap.size, 0, none⟩ = some (.slice (some ⟨b, off, none⟩) len cap) := cell_of_row y _ 0 _ 29 (0, 0) hd.box
  have hlm : (len : Int) ≤ 9223372036854775807 := by omega
  have HU : Hid (((Pl.nd xs i).k = 15 ↔ i + 1 = xs.length) ↔ (x.k = 15 ↔ i + 1 = len)) := by show ((Pl.nd xs i).k = 15 ↔ i + 1 = xs.length) ↔ (x.k = 15 ↔ i + 1 = len); rw [hx, hxl]
  clear hx hd hp hxl
  by_cases k15 : x.k = 15
  · have k15b : (x.k == 15) = true := by simpa using k15
    by_cases e : i + 1 = len
    · have eb : ((i : Int) == (len : Int) - 1) = true := by simp; omega
      have HF : Hid ((Pl.nd xs i).k = 15 ↔ i + 1 = xs.length) := HU.out.mpr ⟨fun _ => e, fun _ => k15⟩
      clear k15 e HRt
      go_wp2_with fail
      exact HKt.out _ _ _ _ _ _ _ _ _ _ y HF.out HD.out
    · have eb : ((i : Int) == (len : Int) - 1) = false := by simp; omega
      have HN : Hid (¬ Pl.NdS xs xs.length i) := fun S => e ((HU.out.mp S.unit).mp k15)
      clear k15 e HKt
      go_wp2_with fail
      exact HRt.out _ _ rfl HN.out HD.out.bel
  · have k15b : (x.k == 15) = false := by simpa using k15
    by_cases e : i + 1 = len
    · have eb : ((i : Int) == (len : Int) - 1) = true := by simp; omega
      have HN : Hid (¬ Pl.NdS xs xs.length i) := fun S => k15 ((HU.out.mp S.unit).mpr e)
      clear k15 e HKt
      go_wp2_with fail
      exact HRt.out _ _ rfl HN.out HD.out.bel
    · have eb : ((i : Int) == (len : Int) - 1) = false := by simp; omega
      have HF : Hid ((Pl.nd xs i).k = 15 ↔ i + 1 = xs.length) := HU.out.mpr ⟨fun q => absurd q k15, fun q => absurd q e⟩
      clear k15 e HRt
      go_wp2_with fail
      exact HKt.out _ _ _ _ _ _ _ _ _ _ y HF.out HD.out
end Go.Proofs.YteadglnenaiaaaaGreatDoor.W
