import Derived.Test.YtcgfgmlfbgbkfaaGreatDoorM04
import Derived.Test.YtcgfgmlfbgbkfaaGreatDoorM05
import Derived.Test.YtcgfgmlfbgbkfaaGreatDoorM08
set_option linter.unusedVariables false
set_option linter.unusedSimpArgs false
set_option maxHeartbeats 16000000
namespace Go.Proofs.YtcgfgmlfbgbkfaaGreatDoor.W
open Go.RowKit
def FodMk (g1 g6:Nat) (f:Pl.IrF) (v s:SV) (x:Pl.IrI) (y2:SV) (c0 c2 c3 c4 c5 c7 c8 c9 c10 c11 c12 c13 c14 c15 c16 c17 c18 c19 c20 c21 c22 c23 c24 c25 c26 c27 c28 c29 c30 c31 c32 c33 c34 c35 c36 c37 c38 c39 c40 c41 c42 c43 c44 c45 c46 c47 c48 c49 c50 c51 c52 c53 c54 c55 c56 c57 c58 c59 c60 c61 c62 c63 c64 c65 c66 c67 c68 c69 c70 c71 c72 c73 c74 c75 c76 c77 c78 c79 c80 c81 c82 c83 c84 c85 c86 c87 c88 c89 c90 c91 c92 c93 c94 c95 c96 c97 c98 c99 c100 c101 c102 c103 c104 c105 c106 c107 c108 c109 c110 c111 c112 c113 c114 c115 c116 c117 c118 c119 c120 c121 c122 c123 c124 c125 c126 c127 c128 c129 c130 c131 c132 c133 c134 c135 c136 c137 c138 c139 c140 c141 c142 c143 c144 c145 c146 c147 c148 c149 c150 c151 c152 c153 c154 c155 c156 c157 c158 c159 c160 c161:Value) (gt:Nat) (L:Array Bool):Act:={ tmps:=#[c0,.pointer (some ⟨g1,0,none⟩),c2,c3,c4,c5,.pointer (some ⟨g6,0,none⟩),c7,c8,c9,c10,c11,c12,c13,c14,c15,c16,c17,c18,c19,c20,c21,c22,c23,c24,c25,c26,c27,c28,c29,c30,c31,c32,c33,c34,c35,c36,c37,c38,c39,c40,c41,c42,c43,c44,c45,c46,c47,c48,c49,c50,c51,c52,c53,c54,c55,c56,c57,c58,c59,c60,c61,c62,c63,c64,c65,c66,c67,c68,c69,c70,c71,c72,c73,c74,c75,c76,c77,c78,c79,c80,c81,c82,c83,c84,c85,c86,sld c87 L 0 (.agg #[.string f.name,.int .i64 f.params,.int .i64 f.regs,.slice v.a v.len v.cap,.slice s.a s.len s.cap]),sld c88 L 1 (.agg #[.int .i64 x.op,.int .i64 x.d,.int .i64 x.a,.int .i64 x.b,.int .i64 x.n,.string x.sym,.slice y2.a y2.len y2.cap]),sld c89 L 2 (.bool true),sld c90 L 3 (.bool false),sld c91 L 4 (.bool false),sld c92 L 5 (.pointer (some ⟨g6,0,none⟩)),sld c93 L 6 (.int .i64 x.op),sld c94 L 7 (.bool true),sld c95 L 8 (.bool true),sld c96 L 9 (.slice (some ⟨gt,0,none⟩) 6 6),sld c97 L 10 (.pointer (some ⟨g6,5,none⟩)),sld c98 L 11 (.string x.sym),sld c99 L 12 (.bool true),sld c100 L 13 (.bool false),sld c101 L 14 (.bool false),sld c102 L 15 (.bool false),c103,c104,c105,c106,c107,c108,c109,c110,c111,c112,c113,c114,c115,c116,c117,c118,c119,c120,c121,c122,c123,c124,c125,c126,c127,c128,c129,c130,c131,c132,c133,c134,c135,c136,c137,c138,c139,c140,c141,c142,c143,c144,c145,c146,c147,c148,c149,c150,c151,c152,c153,c154,c155,c156,c157,c158,c159,c160,c161],defers:=[] }
def FodW (y:World) (gt:Nat) (L:Array Bool) (w:World):Prop:=Below y.heap.size y w/\(up L 9=true->SRow 0 w (some ⟨gt,0,none⟩) 6 6 Pl.irTests)
theorem FodW.keep {y:World} {gt:Nat} {L:Array Bool} {w:World} (h:FodW y gt L w) {i:Nat} (hi:i<L.size) (n:i≠9) {w':World} (hB:Below w.heap.size w w'):FodW y gt (L.setIfInBounds i true) w':=
 ⟨h.1.trans (hB.mono h.1.size),fun q=>by rw[up_set hi,if_neg n]at q;exact (h.2 q).keep hB⟩
set_option maxRecDepth 100000 in
theorem fo13_d {y:World} {g1 g6:Nat} {f:Pl.IrF} {v s:SV} {x:Pl.IrI} {y2:SV} (hbf:y.heap[g1]?=some (.cells #[.string f.name,.int .i64 f.params,.int .i64 f.regs,.slice v.a v.len v.cap,.slice s.a s.len s.cap] 31 (0,0))) (hbx:y.heap[g6]?=some (.cells #[.int .i64 x.op,.int .i64 x.d,.int .i64 x.a,.int .i64 x.b,.int .i64 x.n,.string x.sym,.slice y2.a y2.len y2.cap] 81 (0,0))) (hOK:∀ u:World,Below y.heap.size y u->Calls Tryz.prog 47 #[.agg #[.string f.name,.int .i64 f.params,.int .i64 f.regs,.slice v.a v.len v.cap,.slice s.a s.len s.cap],.agg #[.int .i64 x.op,.int .i64 x.d,.int .i64 x.a,.int .i64 x.b,.int .i64 x.n,.string x.sym,.slice y2.a y2.len y2.cap]] u fun e u'=>e=.returned (.bool true)/\Below u.heap.size u u') (h13:(x.op == 13)=true) (hIN:∀ (u:World) (gt:Nat),SRow 0 u (some ⟨gt,0,none⟩) 6 6 Pl.irTests->Calls Tryz.prog 48 #[.slice (some ⟨gt,0,none⟩) 6 6,.string x.sym] u fun e u'=>e=.returned (.bool true)/\Below u.heap.size u u') (c0 c2 c3 c4 c5 c7 c8 c9 c10 c11 c12 c13 c14 c15 c16 c17 c18 c19 c20 c21 c22 c23 c24 c25 c26 c27 c28 c29 c30 c31 c32 c33 c34 c35 c36 c37 c38 c39 c40 c41 c42 c43 c44 c45 c46 c47 c48 c49 c50 c51 c52 c53 c54 c55 c56 c57 c58 c59 c60 c61 c62 c63 c64 c65 c66 c67 c68 c69 c70 c71 c72 c73 c74 c75 c76 c77 c78 c79 c80 c81 c82 c83 c84 c85 c86 c87 c88 c89 c90 c91 c92 c93 c94 c95 c96 c97 c98 c99 c100 c101 c102 c103 c104 c105 c106 c107 c108 c109 c110 c111 c112 c113 c114 c115 c116 c117 c118 c119 c120 c121 c122 c123 c124 c125 c126 c127 c128 c129 c130 c131 c132 c133 c134 c135 c136 c137 c138 c139 c140 c141 c142 c143 c144 c145 c146 c147 c148 c149 c150 c151 c152 c153 c154 c155 c156 c157 c158 c159 c160 c161:Value) (Q:Exit->Act->World->Prop)
  (hK:∀ (s87 s88 s89 s90 s91 s92 s93 s94 s95 s96 s97 s98 s99 s100 s101:Value) (y':World),Below y.heap.size y y'->Q .normal { tmps:=#[c0,.pointer (some ⟨g1,0,none⟩),c2,c3,c4,c5,.pointer (some ⟨g6,0,none⟩),c7,c8,c9,c10,c11,c12,c13,c14,c15,c16,c17,c18,c19,c20,c21,c22,c23,c24,c25,c26,c27,c28,c29,c30,c31,c32,c33,c34,c35,c36,c37,c38,c39,c40,c41,c42,c43,c44,c45,c46,c47,c48,c49,c50,c51,c52,c53,c54,c55,c56,c57,c58,c59,c60,c61,c62,c63,c64,c65,c66,c67,c68,c69,c70,c71,c72,c73,c74,c75,c76,c77,c78,c79,c80,c81,c82,c83,c84,c85,c86,s87,s88,s89,s90,s91,s92,s93,s94,s95,s96,s97,s98,s99,s100,s101,.bool false,c103,c104,c105,c106,c107,c108,c109,c110,c111,c112,c113,c114,c115,c116,c117,c118,c119,c120,c121,c122,c123,c124,c125,c126,c127,c128,c129,c130,c131,c132,c133,c134,c135,c136,c137,c138,c139,c140,c141,c142,c143,c144,c145,c146,c147,c148,c149,c150,c151,c152,c153,c154,c155,c156,c157,c158,c159,c160,c161],defers:=[] } y') :
  (foC 13).wp Tryz.prog Q { tmps:=#[c0,.pointer (some ⟨g1,0,none⟩),c2,c3,c4,c5,.pointer (some ⟨g6,0,none⟩),c7,c8,c9,c10,c11,c12,c13,c14,c15,c16,c17,c18,c19,c20,c21,c22,c23,c24,c25,c26,c27,c28,c29,c30,c31,c32,c33,c34,c35,c36,c37,c38,c39,c40,c41,c42,c43,c44,c45,c46,c47,c48,c49,c50,c51,c52,c53,c54,c55,c56,c57,c58,c59,c60,c61,c62,c63,c64,c65,c66,c67,c68,c69,c70,c71,c72,c73,c74,c75,c76,c77,c78,c79,c80,c81,c82,c83,c84,c85,c86,c87,c88,c89,c90,c91,c92,c93,c94,c95,c96,c97,c98,c99,c100,c101,c102,c103,c104,c105,c106,c107,c108,c109,c110,c111,c112,c113,c114,c115,c116,c117,c118,c119,c120,c121,c122,c123,c124,c125,c126,c127,c128,c129,c130,c131,c132,c133,c134,c135,c136,c137,c138,c139,c140,c141,c142,c143,c144,c145,c146,c147,c148,c149,c150,c151,c152,c153,c154,c155,c156,c157,c158,c159,c160,c161],defers:=[] } y:=by
 have HKt:Hid _:=hK
 clear hK
 have HOK:Hid _:=hOK
 clear hOK
 have HIN:Hid _:=hIN
 clear hIN
 have HTS:Hid (∀ u:World,Calls Tryz.prog 49 #[] u fun e w'=>e=.returned (.slice (some ⟨u.heap.size,0,none⟩) 6 6)/\SRow 0 w' (some ⟨u.heap.size,0,none⟩) 6 6 Pl.irTests/\Below u.heap.size u w'):=fun u=>(l10Tests_ir u).mono fun e w' ⟨h1,h2,h3⟩=>⟨h1,h2.lower (Nat.zero_le _),h3⟩
 conv=>arg 2;whnf
 have e0:=cell_of_row y g1 0 _ 31 (0,0) hbf
 have e1:=cell_of_row y g1 1 _ 31 (0,0) hbf
 have e2:=cell_of_row y g1 2 _ 31 (0,0) hbf
 have e3:=cell_of_row y g1 3 _ 31 (0,0) hbf
 have e4:=cell_of_row y g1 4 _ 31 (0,0) hbf
 have d0:=cell_of_row y g6 0 _ 81 (0,0) hbx
 have d1:=cell_of_row y g6 1 _ 81 (0,0) hbx
 have d2:=cell_of_row y g6 2 _ 81 (0,0) hbx
 have d3:=cell_of_row y g6 3 _ 81 (0,0) hbx
 have d4:=cell_of_row y g6 4 _ 81 (0,0) hbx
 have d5:=cell_of_row y g6 5 _ 81 (0,0) hbx
 have d6:=cell_of_row y g6 6 _ 81 (0,0) hbx
 simp only[List.getElem?_toArray,List.getElem?_cons_zero,List.getElem?_cons_succ]at e0 e1 e2 e3 e4 d0 d1 d2 d3 d4 d5 d6
 clear hbx hbf
 have hund:yielded.match_1 (motive:=fun _=>Option Bool) (some undef) (fun b=>some b) (fun _=>none)=none:=rfl
 refine wp_region_any (by kernel_rfl) ?_
 change wpAny _ _ _ _ _ _ _ (World.drew _)
 refine wpAny_inw (fun L a w=>∃ gt,a=FodMk g1 g6 f v s x y2 c0 c2 c3 c4 c5 c7 c8 c9 c10 c11 c12 c13 c14 c15 c16 c17 c18 c19 c20 c21 c22 c23 c24 c25 c26 c27 c28 c29 c30 c31 c32 c33 c34 c35 c36 c37 c38 c39 c40 c41 c42 c43 c44 c45 c46 c47 c48 c49 c50 c51 c52 c53 c54 c55 c56 c57 c58 c59 c60 c61 c62 c63 c64 c65 c66 c67 c68 c69 c70 c71 c72 c73 c74 c75 c76 c77 c78 c79 c80 c81 c82 c83 c84 c85 c86 c87 c88 c89 c90 c91 c92 c93 c94 c95 c96 c97 c98 c99 c100 c101 c102 c103 c104 c105 c106 c107 c108 c109 c110 c111 c112 c113 c114 c115 c116 c117 c118 c119 c120 c121 c122 c123 c124 c125 c126 c127 c128 c129 c130 c131 c132 c133 c134 c135 c136 c137 c138 c139 c140 c141 c142 c143 c144 c145 c146 c147 c148 c149 c150 c151 c152 c153 c154 c155 c156 c157 c158 c159 c160 c161 gt L/\FodW y gt L w) ?done (by kernel_rfl) ?step _ 16 _ _ (by kernel_rfl) ?init (by decide)
 case init=>exact⟨0,by simp only[FodMk,sld_no (up_init _ _)],Below.drew (Below.refl _ _),fun q=>absurd (q.symm.trans (up_init _ _)) (by decide)⟩
 case step=>
  intro L act w i o hI hlt hs nl hC hd ho K hK
  obtain⟨gt,rfl,hW⟩:=hI
  have hi_lt:i<16:=(Array.getElem?_eq_some_iff.1 ho).1
  rcases (show i=0\/i=1\/i=2\/i=3\/i=4\/i=5\/i=6\/i=7\/i=8\/i=9\/i=10\/i=11\/i=12\/i=13\/i=14\/i=15 by omega) with rfl | rfl | rfl | rfl | rfl | rfl | rfl | rfl | rfl | rfl | rfl | rfl | rfl | rfl | rfl | rfl
  ·change some _=some o at ho
   cases ho
   have k0:=below_cell hW.1 e0
   have k1:=below_cell hW.1 e1
   have k2:=below_cell hW.1 e2
   have k3:=below_cell hW.1 e3
   have k4:=below_cell hW.1 e4
   simp only[FodMk]
   go_simp
   exact hK _ _ ⟨gt,by simp only[FodMk,sld_set hlt,reduceIte,Nat.reduceEqDiff];try rfl,(hW.keep hlt (by decide) (Below.refl _ _))⟩
  ·change some _=some o at ho
   cases ho
   have k0:=below_cell hW.1 d0
   have k1:=below_cell hW.1 d1
   have k2:=below_cell hW.1 d2
   have k3:=below_cell hW.1 d3
   have k4:=below_cell hW.1 d4
   have k5:=below_cell hW.1 d5
   have k6:=below_cell hW.1 d6
   simp only[FodMk]
   go_simp
   exact hK _ _ ⟨gt,by simp only[FodMk,sld_set hlt,reduceIte,Nat.reduceEqDiff];try rfl,(hW.keep hlt (by decide) (Below.refl _ _))⟩
  ·change some _=some o at ho
   cases ho
   have q0:up L 0=true:=hd { on:=0,ground:=.data } (by simp) rfl
   have q1:up L 1=true:=hd { on:=1,ground:=.data } (by simp) rfl
   simp only[FodMk,sld_yes q0,sld_yes q1]
   go_simp
   refine (HOK.out w hW.1).mono ?_
   rintro e z ⟨rfl,dz⟩
   go_simp
   exact hK _ _ ⟨gt,by simp only[FodMk,sld_set hlt,sld_yes q0,sld_yes q1,reduceIte,Nat.reduceEqDiff];try rfl,(hW.keep hlt (by decide) dz)⟩
  ·change some _=some o at ho
   cases ho
   have q2:up L 2=true:=hd { on:=2,ground:=.data } (by simp) rfl
   simp only[FodMk,sld_yes q2]
   go_simp
   exact hK _ _ ⟨gt,by simp only[FodMk,sld_set hlt,sld_yes q2,reduceIte,Nat.reduceEqDiff];try rfl,(hW.keep hlt (by decide) (Below.refl _ _))⟩
  ·change some _=some o at ho
   cases ho
   have q3:up L 3=true:=hd { on:=3,ground:=.data } (by simp) rfl
   simp only[FodMk,sld_yes q3]
   go_simp
   exact hK _ _ ⟨gt,by simp only[FodMk,sld_set hlt,sld_yes q3,reduceIte,Nat.reduceEqDiff];try rfl,(hW.keep hlt (by decide) (Below.refl _ _))⟩
  ·change some _=some o at ho
   cases ho
   have q4:up L 4=true:=(hd { on:=4,ground:=.guard } (by simp) rfl)
   simp only[FodMk,sld_yes q4]
   go_simp
   exact hK _ _ ⟨gt,by simp only[FodMk,sld_set hlt,sld_yes q4,reduceIte,Nat.reduceEqDiff];try rfl,(hW.keep hlt (by decide) (Below.refl _ _))⟩
  ·change some _=some o at ho
   cases ho
   have q4:up L 4=true:=(hd { on:=4,ground:=.guard } (by simp) rfl)
   have q5:up L 5=true:=hd { on:=5,ground:=.data } (by simp) rfl
   have k0:=below_cell hW.1 d0
   simp only[FodMk,sld_yes q4,sld_yes q5]
   go_simp
   exact hK _ _ ⟨gt,by simp only[FodMk,sld_set hlt,sld_yes q4,sld_yes q5,reduceIte,Nat.reduceEqDiff];try rfl,(hW.keep hlt (by decide) (Below.refl _ _))⟩
  ·change some _=some o at ho
   cases ho
   have q4:up L 4=true:=(hd { on:=4,ground:=.guard } (by simp) rfl)
   have q6:up L 6=true:=hd { on:=6,ground:=.data } (by simp) rfl
   simp only[FodMk,sld_yes q4,sld_yes q6]
   go_simp
   exact hK _ _ ⟨gt,by simp only[FodMk,sld_set hlt,sld_yes q4,sld_yes q6,reduceIte,Nat.reduceEqDiff];try rfl,(hW.keep hlt (by decide) (Below.refl _ _))⟩
  ·change some _=some o at ho
   cases ho
   have q4:up L 4=true:=(hd { on:=4,ground:=.guard } (by simp) rfl)
   have q7:up L 7=true:=hd { on:=7,ground:=.data } (by simp) rfl
   simp only[FodMk,sld_yes q4,sld_yes q7]
   go_simp
   exact hK _ _ ⟨gt,by simp only[FodMk,sld_set hlt,sld_yes q4,sld_yes q7,reduceIte,Nat.reduceEqDiff];try rfl,(hW.keep hlt (by decide) (Below.refl _ _))⟩
  ·change some _=some o at ho
   cases ho
   have q8:up L 8=true:=(hd { on:=8,ground:=.guard } (by simp) rfl)
   have n12:up L 12=false:=hC.no nl 12 rfl (by kernel_rfl)
   simp only[FodMk,sld_yes q8]
   go_simp
   refine (HTS.out w).mono ?_
   rintro e z ⟨rfl,sz,dz⟩
   go_simp
   exact hK _ _ ⟨w.heap.size,by simp only[FodMk,sld_set hlt,sld_yes q8,reduceIte,Nat.reduceEqDiff];try rfl,⟨hW.1.trans (dz.mono hW.1.size),fun _=>sz⟩⟩
  ·change some _=some o at ho
   cases ho
   have q8:up L 8=true:=(hd { on:=8,ground:=.guard } (by simp) rfl)
   simp only[FodMk,sld_yes q8]
   go_simp
   exact hK _ _ ⟨gt,by simp only[FodMk,sld_set hlt,sld_yes q8,reduceIte,Nat.reduceEqDiff];try rfl,(hW.keep hlt (by decide) (Below.refl _ _))⟩
  ·change some _=some o at ho
   cases ho
   have q8:up L 8=true:=(hd { on:=8,ground:=.guard } (by simp) rfl)
   have q10:up L 10=true:=hd { on:=10,ground:=.data } (by simp) rfl
   have k5:=below_cell hW.1 d5
   simp only[FodMk,sld_yes q8,sld_yes q10]
   go_simp
   exact hK _ _ ⟨gt,by simp only[FodMk,sld_set hlt,sld_yes q8,sld_yes q10,reduceIte,Nat.reduceEqDiff];try rfl,(hW.keep hlt (by decide) (Below.refl _ _))⟩
  ·change some _=some o at ho
   cases ho
   have q8:up L 8=true:=(hd { on:=8,ground:=.guard } (by simp) rfl)
   have q9:up L 9=true:=hd { on:=9,ground:=.data } (by simp) rfl
   have q11:up L 11=true:=hd { on:=11,ground:=.data } (by simp) rfl
   simp only[FodMk,sld_yes q8,sld_yes q9,sld_yes q11]
   go_simp
   refine (HIN.out w gt (hW.2 q9)).mono ?_
   rintro e z ⟨rfl,dz⟩
   go_simp
   exact hK _ _ ⟨gt,by simp only[FodMk,sld_set hlt,sld_yes q8,sld_yes q9,sld_yes q11,reduceIte,Nat.reduceEqDiff];try rfl,(hW.keep hlt (by decide) dz)⟩
  ·change some _=some o at ho
   cases ho
   have q8:up L 8=true:=(hd { on:=8,ground:=.guard } (by simp) rfl)
   have q12:up L 12=true:=hd { on:=12,ground:=.data } (by simp) rfl
   simp only[FodMk,sld_yes q8,sld_yes q12]
   go_simp
   exact hK _ _ ⟨gt,by simp only[FodMk,sld_set hlt,sld_yes q8,sld_yes q12,reduceIte,Nat.reduceEqDiff];try rfl,(hW.keep hlt (by decide) (Below.refl _ _))⟩
  ·change some _=some o at ho
   cases ho
   have q4:up L 4=true:=(hd { on:=4,ground:=.guard } (by simp) rfl)
   have q8:up L 8=true:=hd { on:=8,ground:=.data } (by simp) rfl
   have q13:up L 13=true:=hd { on:=13,ground:=.data } (by simp) rfl
   simp only[FodMk,sld_yes q4,sld_yes q8,sld_yes q13]
   go_simp
   exact hK _ _ ⟨gt,by simp only[FodMk,sld_set hlt,sld_yes q4,sld_yes q8,sld_yes q13,reduceIte,Nat.reduceEqDiff];try rfl,(hW.keep hlt (by decide) (Below.refl _ _))⟩
  ·change some _=some o at ho
   cases ho
   have q4:up L 4=true:=hd { on:=4,ground:=.data } (by simp) rfl
   have q14:up L 14=true:=hd { on:=14,ground:=.data } (by simp) rfl
   simp only[FodMk,sld_yes q4,sld_yes q14]
   go_simp
   exact hK _ _ ⟨gt,by simp only[FodMk,sld_set hlt,sld_yes q4,sld_yes q14,reduceIte,Nat.reduceEqDiff];try rfl,(hW.keep hlt (by decide) (Below.refl _ _))⟩
 case done=>
  rintro L a w ⟨gt,rfl,hW⟩ hall
  simp only[FodMk,sld_yes (hall 0 (by decide)),sld_yes (hall 1 (by decide)),sld_yes (hall 2 (by decide)),sld_yes (hall 3 (by decide)),sld_yes (hall 4 (by decide)),sld_yes (hall 5 (by decide)),sld_yes (hall 6 (by decide)),sld_yes (hall 7 (by decide)),sld_yes (hall 8 (by decide)),sld_yes (hall 9 (by decide)),sld_yes (hall 10 (by decide)),sld_yes (hall 11 (by decide)),sld_yes (hall 12 (by decide)),sld_yes (hall 13 (by decide)),sld_yes (hall 14 (by decide)),sld_yes (hall 15 (by decide))]
  exact HKt.out _ _ _ _ _ _ _ _ _ _ _ _ _ _ _ w hW.1
end Go.Proofs.YtcgfgmlfbgbkfaaGreatDoor.W
