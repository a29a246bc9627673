import Derived.Test.YtlbomnnldkeocaaGreatA33
import Derived.Deep.CutBlock
set_option linter.unusedVariables false
set_option linter.unusedSimpArgs false
set_option maxHeartbeats 16000000
namespace Go.Proofs.YtlbomnnldkeocaaGreat.W
open Go.RowKit
noncomputable def filC (n:Nat):Code:=((Tryz.f25.body.bind (codeR n)).getD .skip)
def fil12Mk (F h k ba oa len ac:Nat) (x:Pl.Ln) (at' la:Int)  (c0 c1 c2 c4 c5 c6 c10 c11 c13 c14 c15 c16 c17 c18 c19 c20 c21 c22 c23 c24 c25 c26 c27 c28 c29 c30 c31 c32 c33 c34 c35 c36 c37 c38 c39 c40 c41 c42 c43 c44 c45 c46 c47 c48 c49 c58 c59 c60 c61 c62 c63 c64 c65 c66 c67 c68 c69 c70 c71 c72 c73 c74 c75 c76 c77 c78 c79 c80 c81 c82 c83 c84 c85 c86 c87 c88 c89 c90 c91 c92 c93 c94 c95 c96 c97 c98 c99 c100 c101 c102 c103 c104 c105 c106 c107 c108 c109 c110 c111 c112 c113 c114 c115 c116 c117 c118 c119 c120 c121 c122 c123 c124 c125 c126 c127 c128 c129 c130 c131 c132 c133 c134 c135 c136 c137 c138 c139 c140 c141 c142 c143 c144 d12 d50 d51 d52 d53 d54 d55 d56 d57:Value) (a2:Option Addr) (n2 y2:Nat) (L:Array Bool):Act:={ tmps:=#[c0,c1,c2,.pointer (some ⟨F,0,none⟩),c4,c5,c6,.int .i64 (k:Nat),.pointer (some ⟨h,0,none⟩),.int .i64 la,c10,c11,sld d12 L 8 (.slice a2 n2 y2),c13,c14,c15,c16,c17,c18,c19,c20,c21,c22,c23,c24,c25,c26,c27,c28,c29,c30,c31,c32,c33,c34,c35,c36,c37,c38,c39,c40,c41,c42,c43,c44,c45,c46,c47,c48,c49,sld d50 L 0 (.agg #[.int .i64 x.k,.int .i64 x.op,.int .i64 x.rd,.int .i64 x.r1,.int .i64 x.r2,.int .i64 x.im,.string x.s,.int .i64 x.n]),sld d51 L 1 (.pointer (some ⟨F,1,none⟩)),sld d52 L 2 (.slice (some ⟨ba,oa,none⟩) len ac),sld d53 L 3 (.int .i64 (k:Nat)),sld d54 L 4 (.pointer (some ⟨ba,oa+k,none⟩)),sld d55 L 5 (.int .i64 at'),sld d56 L 6 (.int .i64 la),sld d57 L 7 (.slice a2 n2 y2),c58,c59,c60,c61,c62,c63,c64,c65,c66,c67,c68,c69,c70,c71,c72,c73,c74,c75,c76,c77,c78,c79,c80,c81,c82,c83,c84,c85,c86,c87,c88,c89,c90,c91,c92,c93,c94,c95,c96,c97,c98,c99,c100,c101,c102,c103,c104,c105,c106,c107,c108,c109,c110,c111,c112,c113,c114,c115,c116,c117,c118,c119,c120,c121,c122,c123,c124,c125,c126,c127,c128,c129,c130,c131,c132,c133,c134,c135,c136,c137,c138,c139,c140,c141,c142,c143,c144],defers:=[] }
set_option maxRecDepth 100000 in
theorem fil12 (F h k ba oa len ac:Nat) (x:Pl.Ln) (at' la:Int) {c0 c1 c2 c4 c5 c6 c10 c11 c13 c14 c15 c16 c17 c18 c19 c20 c21 c22 c23 c24 c25 c26 c27 c28 c29 c30 c31 c32 c33 c34 c35 c36 c37 c38 c39 c40 c41 c42 c43 c44 c45 c46 c47 c48 c49 c58 c59 c60 c61 c62 c63 c64 c65 c66 c67 c68 c69 c70 c71 c72 c73 c74 c75 c76 c77 c78 c79 c80 c81 c82 c83 c84 c85 c86 c87 c88 c89 c90 c91 c92 c93 c94 c95 c96 c97 c98 c99 c100 c101 c102 c103 c104 c105 c106 c107 c108 c109 c110 c111 c112 c113 c114 c115 c116 c117 c118 c119 c120 c121 c122 c123 c124 c125 c126 c127 c128 c129 c130 c131 c132 c133 c134 c135 c136 c137 c138 c139 c140 c141 c142 c143 c144 d12 d50 d51 d52 d53 d54 d55 d56 d57:Value} (Y:World) (f1:Y.cell? ⟨F,1,none⟩=some (.slice (some ⟨ba,oa,none⟩) len ac)) (hk:k<len) (hlen:len<=20000) (hat:Y.cell? ⟨ba,oa+k,none⟩=some (.int .i64 at')) (b0:Y.cell? ⟨h,0,none⟩=some (.int .i64 x.k)) (b1:Y.cell? ⟨h,1,none⟩=some (.int .i64 x.op)) (b2:Y.cell? ⟨h,2,none⟩=some (.int .i64 x.rd)) (b3:Y.cell? ⟨h,3,none⟩=some (.int .i64 x.r1)) (b4:Y.cell? ⟨h,4,none⟩=some (.int .i64 x.r2)) (b5:Y.cell? ⟨h,5,none⟩=some (.int .i64 x.im)) (b6:Y.cell? ⟨h,6,none⟩=some (.string x.s)) (b7:Y.cell? ⟨h,7,none⟩=some (.int .i64 x.n)) (hT:InsSaid x at' la Y.drew) {Q:Exit->Act->World->Prop}
  (hK:∀ (a2:Option Addr) (n2 y2:Nat) (w1:World),InsRow Y.heap.size w1 a2 n2 (Pl.insA x at' la)->Below Y.heap.size Y w1->Q .normal { tmps:=#[c0,c1,c2,.pointer (some ⟨F,0,none⟩),c4,c5,c6,.int .i64 (k:Nat),.pointer (some ⟨h,0,none⟩),.int .i64 la,c10,c11,.slice a2 n2 y2,c13,c14,c15,c16,c17,c18,c19,c20,c21,c22,c23,c24,c25,c26,c27,c28,c29,c30,c31,c32,c33,c34,c35,c36,c37,c38,c39,c40,c41,c42,c43,c44,c45,c46,c47,c48,c49,.agg #[.int .i64 x.k,.int .i64 x.op,.int .i64 x.rd,.int .i64 x.r1,.int .i64 x.r2,.int .i64 x.im,.string x.s,.int .i64 x.n],.pointer (some ⟨F,1,none⟩),.slice (some ⟨ba,oa,none⟩) len ac,.int .i64 (k:Nat),.pointer (some ⟨ba,oa+k,none⟩),.int .i64 at',.int .i64 la,.slice a2 n2 y2,c58,c59,c60,c61,c62,c63,c64,c65,c66,c67,c68,c69,c70,c71,c72,c73,c74,c75,c76,c77,c78,c79,c80,c81,c82,c83,c84,c85,c86,c87,c88,c89,c90,c91,c92,c93,c94,c95,c96,c97,c98,c99,c100,c101,c102,c103,c104,c105,c106,c107,c108,c109,c110,c111,c112,c113,c114,c115,c116,c117,c118,c119,c120,c121,c122,c123,c124,c125,c126,c127,c128,c129,c130,c131,c132,c133,c134,c135,c136,c137,c138,c139,c140,c141,c142,c143,c144],defers:=[] } w1) :
  (filC 12).wp Tryz.prog Q { tmps:=#[c0,c1,c2,.pointer (some ⟨F,0,none⟩),c4,c5,c6,.int .i64 (k:Nat),.pointer (some ⟨h,0,none⟩),.int .i64 la,c10,c11,d12,c13,c14,c15,c16,c17,c18,c19,c20,c21,c22,c23,c24,c25,c26,c27,c28,c29,c30,c31,c32,c33,c34,c35,c36,c37,c38,c39,c40,c41,c42,c43,c44,c45,c46,c47,c48,c49,d50,d51,d52,d53,d54,d55,d56,d57,c58,c59,c60,c61,c62,c63,c64,c65,c66,c67,c68,c69,c70,c71,c72,c73,c74,c75,c76,c77,c78,c79,c80,c81,c82,c83,c84,c85,c86,c87,c88,c89,c90,c91,c92,c93,c94,c95,c96,c97,c98,c99,c100,c101,c102,c103,c104,c105,c106,c107,c108,c109,c110,c111,c112,c113,c114,c115,c116,c117,c118,c119,c120,c121,c122,c123,c124,c125,c126,c127,c128,c129,c130,c131,c132,c133,c134,c135,c136,c137,c138,c139,c140,c141,c142,c143,c144],defers:=[] } Y:=by
 have HKt:Hid _:=hK
 clear hK
 have HT:Hid (InsSaid x at' la Y.drew):=hT
 unfold InsSaid at HT
 have j1:Y.drew.cell? ⟨F,1,none⟩=some (.slice (some ⟨ba,oa,none⟩) len ac):=f1
 have j2:Y.drew.cell? ⟨ba,oa+k,none⟩=some (.int .i64 at'):=hat
 have hki:(k:Int)<(len:Int):=by omega
 have k0:Y.drew.cell? ⟨h,0,none⟩=some (.int .i64 x.k):=b0
 have k1:Y.drew.cell? ⟨h,1,none⟩=some (.int .i64 x.op):=b1
 have k2:Y.drew.cell? ⟨h,2,none⟩=some (.int .i64 x.rd):=b2
 have k3:Y.drew.cell? ⟨h,3,none⟩=some (.int .i64 x.r1):=b3
 have k4:Y.drew.cell? ⟨h,4,none⟩=some (.int .i64 x.r2):=b4
 have k5:Y.drew.cell? ⟨h,5,none⟩=some (.int .i64 x.im):=b5
 have k6:Y.drew.cell? ⟨h,6,none⟩=some (.string x.s):=b6
 have k7:Y.drew.cell? ⟨h,7,none⟩=some (.int .i64 x.n):=b7
 clear b0 b1 b2 b3 b4 b5 b6 b7
 clear hT f1 hat hk
 conv=>arg 2;whnf
 dsimp only
 refine wp_region_any (by kernel_rfl) ?_
 change wpAny _ _ _ _ _ _ _ (World.drew _)
 refine wpAny_inw (fun L a u=>∃ a2 n2 y2,a=fil12Mk F h k ba oa len ac x at' la  c0 c1 c2 c4 c5 c6 c10 c11 c13 c14 c15 c16 c17 c18 c19 c20 c21 c22 c23 c24 c25 c26 c27 c28 c29 c30 c31 c32 c33 c34 c35 c36 c37 c38 c39 c40 c41 c42 c43 c44 c45 c46 c47 c48 c49 c58 c59 c60 c61 c62 c63 c64 c65 c66 c67 c68 c69 c70 c71 c72 c73 c74 c75 c76 c77 c78 c79 c80 c81 c82 c83 c84 c85 c86 c87 c88 c89 c90 c91 c92 c93 c94 c95 c96 c97 c98 c99 c100 c101 c102 c103 c104 c105 c106 c107 c108 c109 c110 c111 c112 c113 c114 c115 c116 c117 c118 c119 c120 c121 c122 c123 c124 c125 c126 c127 c128 c129 c130 c131 c132 c133 c134 c135 c136 c137 c138 c139 c140 c141 c142 c143 c144 d12 d50 d51 d52 d53 d54 d55 d56 d57 a2 n2 y2 L/\OneW Y.drew (fun u=>InsRow Y.drew.heap.size u a2 n2 (Pl.insA x at' la)/\Below Y.drew.heap.size Y.drew u) 7 L u) ?done (by kernel_rfl) ?step _ 9 _ _ (by kernel_rfl) ?init (by decide)
 case init=>exact⟨none,0,0,by simp only[fil12Mk,sld_no (up_init _ _)],OneW.init⟩
 case step=>
  intro L act w i o hI hlt hs nl hC hd ho K hK
  obtain⟨a2,n2,y2,rfl,hW⟩:=hI
  have hi_lt:i<9:=(Array.getElem?_eq_some_iff.1 ho).1
  rcases (show i=0\/i=1\/i=2\/i=3\/i=4\/i=5\/i=6\/i=7\/i=8 by omega) with rfl | rfl | rfl | rfl | rfl | rfl | rfl | rfl | rfl
  ·change some _=some o at ho
   cases ho
   have n7:up L 7=false:=hC.no nl 7 rfl (by kernel_rfl)
   obtain rfl:=hW.1 n7
   simp only[fil12Mk]
   go_simp
   exact hK _ _ ⟨a2,n2,y2,by simp only[fil12Mk,sld_set hlt,reduceIte,Nat.reduceEqDiff];try rfl,(hW.keep hlt (by decide))⟩
  ·change some _=some o at ho
   cases ho
   simp only[fil12Mk]
   go_simp
   exact hK _ _ ⟨a2,n2,y2,by simp only[fil12Mk,sld_set hlt,reduceIte,Nat.reduceEqDiff];try rfl,(hW.keep hlt (by decide))⟩
  ·change some _=some o at ho
   cases ho
   have q1:up L 1=true:=hd { on:=1,ground:=.data } (by simp) rfl
   have n4:up L 4=false:=hC.no nl 4 rfl (by kernel_rfl)
   have n5:up L 5=false:=hC.no n4 5 rfl (by kernel_rfl)
   have n7:up L 7=false:=hC.no n5 7 rfl (by kernel_rfl)
   obtain rfl:=hW.1 n7
   simp only[fil12Mk,sld_yes q1]
   go_simp
   exact hK _ _ ⟨a2,n2,y2,by simp only[fil12Mk,sld_set hlt,sld_yes q1,reduceIte,Nat.reduceEqDiff];try rfl,(hW.keep hlt (by decide))⟩
  ·change some _=some o at ho
   cases ho
   simp only[fil12Mk]
   go_simp
   exact hK _ _ ⟨a2,n2,y2,by simp only[fil12Mk,sld_set hlt,reduceIte,Nat.reduceEqDiff];try rfl,(hW.keep hlt (by decide))⟩
  ·change some _=some o at ho
   cases ho
   have q2:up L 2=true:=hd { on:=2,ground:=.data } (by simp) rfl
   have q3:up L 3=true:=hd { on:=3,ground:=.data } (by simp) rfl
   simp only[fil12Mk,sld_yes q2,sld_yes q3]
   go_simp
   exact hK _ _ ⟨a2,n2,y2,by simp only[fil12Mk,sld_set hlt,sld_yes q2,sld_yes q3,reduceIte,Nat.reduceEqDiff];try rfl,(hW.keep hlt (by decide))⟩
  ·change some _=some o at ho
   cases ho
   have q4:up L 4=true:=hd { on:=4,ground:=.data } (by simp) rfl
   have n7:up L 7=false:=hC.no nl 7 rfl (by kernel_rfl)
   obtain rfl:=hW.1 n7
   simp only[fil12Mk,sld_yes q4]
   go_simp
   exact hK _ _ ⟨a2,n2,y2,by simp only[fil12Mk,sld_set hlt,sld_yes q4,reduceIte,Nat.reduceEqDiff];try rfl,(hW.keep hlt (by decide))⟩
  ·change some _=some o at ho
   cases ho
   simp only[fil12Mk]
   go_simp
   exact hK _ _ ⟨a2,n2,y2,by simp only[fil12Mk,sld_set hlt,reduceIte,Nat.reduceEqDiff];try rfl,(hW.keep hlt (by decide))⟩
  ·change some _=some o at ho
   cases ho
   have q0:up L 0=true:=hd { on:=0,ground:=.data } (by simp) rfl
   have q5:up L 5=true:=hd { on:=5,ground:=.data } (by simp) rfl
   have q6:up L 6=true:=hd { on:=6,ground:=.data } (by simp) rfl
   have n8:up L 8=false:=hC.no nl 8 rfl (by kernel_rfl)
   obtain rfl:=hW.1 nl
   simp only[fil12Mk,sld_yes q0,sld_yes q5,sld_yes q6]
   go_simp
   refine HT.out.mono ?_
   rintro e w2 ⟨a3,n3,y3,rfl,hR,hB⟩
   go_simp
   exact hK _ _ ⟨a3,n3,y3,by simp only[fil12Mk,sld_set hlt,sld_yes q0,sld_yes q5,sld_yes q6,sld_no n8,reduceIte,Nat.reduceEqDiff];try rfl,OneW.first hlt ⟨hR,hB⟩⟩
  ·change some _=some o at ho
   cases ho
   have q7:up L 7=true:=hd { on:=7,ground:=.data } (by simp) rfl
   simp only[fil12Mk,sld_yes q7]
   go_simp
   exact hK _ _ ⟨a2,n2,y2,by simp only[fil12Mk,sld_set hlt,sld_yes q7,reduceIte,Nat.reduceEqDiff];try rfl,(hW.keep hlt (by decide))⟩
 case done=>
  rintro L a u ⟨a2,n2,y2,rfl,hW⟩ hall
  simp only[fil12Mk,sld_yes (hall 0 (by decide)),sld_yes (hall 1 (by decide)),sld_yes (hall 2 (by decide)),sld_yes (hall 3 (by decide)),sld_yes (hall 4 (by decide)),sld_yes (hall 5 (by decide)),sld_yes (hall 6 (by decide)),sld_yes (hall 7 (by decide)),sld_yes (hall 8 (by decide))]
  obtain⟨hR,hB⟩:=hW.2 (hall 7 (by decide))
  exact HKt.out a2 n2 y2 _ hR (Below.trans (Below.drew (Below.refl _ _)) hB)
def fil22Mk (g h m2:Nat) (x:Pl.Ln) (la z:Int) (vd:Value) (A:Option Addr->Nat->World->Prop)  (c0 c1 c2 c3 c4 c5 c7 c10 c11 c12 c13 c14 c15 c16 c17 c18 c19 c20 c21 c22 c23 c24 c25 c26 c27 c28 c29 c30 c31 c32 c33 c34 c35 c36 c37 c38 c39 c40 c41 c42 c43 c44 c45 c46 c47 c48 c49 c50 c51 c52 c53 c54 c55 c56 c57 c58 c59 c60 c61 c62 c63 c64 c65 c66 c67 c68 c69 c70 c71 c72 c73 c74 c75 c76 c77 c78 c79 c80 c81 c82 c83 c84 c85 c86 c87 c88 c89 c90 c91 c92 c93 c94 c95 c96 c97 c98 c99 c100 c101 c102 c103 c104 c105 c106 c107 c108 c109 c119 c120 c121 c122 c123 c124 c125 c126 c127 c128 c129 c130 c131 c132 c133 c134 c135 c136 c137 c138 c139 c140 c141 c142 c143 c144 d110 d111 d112 d113 d114 d115 d116 d117 d118:Value) (a2:Option Addr) (y2:Nat) (L:Array Bool):Act:={ tmps:=#[c0,c1,c2,c3,c4,c5,.pointer (some ⟨g,0,none⟩),c7,.pointer (some ⟨h,0,none⟩),.int .i64 la,c10,c11,c12,c13,c14,c15,c16,c17,c18,c19,c20,c21,c22,c23,c24,c25,c26,c27,c28,c29,c30,c31,c32,c33,c34,c35,c36,c37,c38,c39,c40,c41,c42,c43,c44,c45,c46,c47,c48,c49,c50,c51,c52,c53,c54,c55,c56,c57,c58,c59,c60,c61,c62,c63,c64,c65,c66,c67,c68,c69,c70,c71,c72,c73,c74,c75,c76,c77,c78,c79,c80,c81,c82,c83,c84,c85,c86,c87,c88,c89,c90,c91,c92,c93,c94,c95,c96,c97,c98,c99,c100,c101,c102,c103,c104,c105,c106,c107,c108,c109,sld d110 L 0 (.pointer (some ⟨g,1,none⟩)),sld d111 L 1 (vd),sld d112 L 2 (.int .i64 la),sld d113 L 3 (.pointer (some ⟨h,7,none⟩)),sld d114 L 4 (.int .i64 x.n),sld d115 L 5 (.int .i64 (la+x.n)),sld d116 L 6 (.int .i64 z),sld d117 L 7 (.slice a2 m2 y2),sld d118 L 8 (.pointer (some ⟨g,1,none⟩)),c119,c120,c121,c122,c123,c124,c125,c126,c127,c128,c129,c130,c131,c132,c133,c134,c135,c136,c137,c138,c139,c140,c141,c142,c143,c144],defers:=[] }
set_option maxRecDepth 100000 in
theorem fil22 (g h m2:Nat) (x:Pl.Ln) (la z:Int) (vd:Value) (A:Option Addr->Nat->World->Prop) {c0 c1 c2 c3 c4 c5 c7 c10 c11 c12 c13 c14 c15 c16 c17 c18 c19 c20 c21 c22 c23 c24 c25 c26 c27 c28 c29 c30 c31 c32 c33 c34 c35 c36 c37 c38 c39 c40 c41 c42 c43 c44 c45 c46 c47 c48 c49 c50 c51 c52 c53 c54 c55 c56 c57 c58 c59 c60 c61 c62 c63 c64 c65 c66 c67 c68 c69 c70 c71 c72 c73 c74 c75 c76 c77 c78 c79 c80 c81 c82 c83 c84 c85 c86 c87 c88 c89 c90 c91 c92 c93 c94 c95 c96 c97 c98 c99 c100 c101 c102 c103 c104 c105 c106 c107 c108 c109 c119 c120 c121 c122 c123 c124 c125 c126 c127 c128 c129 c130 c131 c132 c133 c134 c135 c136 c137 c138 c139 c140 c141 c142 c143 c144 d110 d111 d112 d113 d114 d115 d116 d117 d118:Value} (Y:World) (ho:Y.cell? ⟨g,1,none⟩=some vd) (hn:Y.cell? ⟨h,7,none⟩=some (.int .i64 x.n)) (hA:∀ a2 y2 u,A a2 y2 u->u.cell? ⟨g,1,none⟩=some vd/\u.frozen? ⟨g,1,none⟩=false) (hw:∀ u:World,Calls Tryz.prog 70 #[.int .i64 (la+x.n)] u fun e w'=>e=.returned (.int .i64 z)/\w'=u) (hT:Calls Tryz.prog 69 #[vd,.int .i64 z,.int .i64 4] Y.drew fun e w'=>∃ a2 y2,e=.returned (.slice a2 m2 y2)/\A a2 y2 w') (hb:0<=la/\la<=1311768576/\-4294967296<=x.n/\x.n<=4294967296) {Q:Exit->Act->World->Prop}
  (hK:∀ (a2:Option Addr) (y2:Nat) (w1:World),A a2 y2 w1->Q .normal { tmps:=#[c0,c1,c2,c3,c4,c5,.pointer (some ⟨g,0,none⟩),c7,.pointer (some ⟨h,0,none⟩),.int .i64 la,c10,c11,c12,c13,c14,c15,c16,c17,c18,c19,c20,c21,c22,c23,c24,c25,c26,c27,c28,c29,c30,c31,c32,c33,c34,c35,c36,c37,c38,c39,c40,c41,c42,c43,c44,c45,c46,c47,c48,c49,c50,c51,c52,c53,c54,c55,c56,c57,c58,c59,c60,c61,c62,c63,c64,c65,c66,c67,c68,c69,c70,c71,c72,c73,c74,c75,c76,c77,c78,c79,c80,c81,c82,c83,c84,c85,c86,c87,c88,c89,c90,c91,c92,c93,c94,c95,c96,c97,c98,c99,c100,c101,c102,c103,c104,c105,c106,c107,c108,c109,.pointer (some ⟨g,1,none⟩),vd,.int .i64 la,.pointer (some ⟨h,7,none⟩),.int .i64 x.n,.int .i64 (la+x.n),.int .i64 z,.slice a2 m2 y2,.pointer (some ⟨g,1,none⟩),c119,c120,c121,c122,c123,c124,c125,c126,c127,c128,c129,c130,c131,c132,c133,c134,c135,c136,c137,c138,c139,c140,c141,c142,c143,c144],defers:=[] } (w1.setCell ⟨g,1,none⟩ (.slice a2 m2 y2))) :
  (filC 22).wp Tryz.prog Q { tmps:=#[c0,c1,c2,c3,c4,c5,.pointer (some ⟨g,0,none⟩),c7,.pointer (some ⟨h,0,none⟩),.int .i64 la,c10,c11,c12,c13,c14,c15,c16,c17,c18,c19,c20,c21,c22,c23,c24,c25,c26,c27,c28,c29,c30,c31,c32,c33,c34,c35,c36,c37,c38,c39,c40,c41,c42,c43,c44,c45,c46,c47,c48,c49,c50,c51,c52,c53,c54,c55,c56,c57,c58,c59,c60,c61,c62,c63,c64,c65,c66,c67,c68,c69,c70,c71,c72,c73,c74,c75,c76,c77,c78,c79,c80,c81,c82,c83,c84,c85,c86,c87,c88,c89,c90,c91,c92,c93,c94,c95,c96,c97,c98,c99,c100,c101,c102,c103,c104,c105,c106,c107,c108,c109,d110,d111,d112,d113,d114,d115,d116,d117,d118,c119,c120,c121,c122,c123,c124,c125,c126,c127,c128,c129,c130,c131,c132,c133,c134,c135,c136,c137,c138,c139,c140,c141,c142,c143,c144],defers:=[] } Y:=by
 have HKt:Hid _:=hK
 clear hK
 have HT:Hid _:=hT
 have HWd:Hid _:=hw
 have HA:Hid _:=hA
 have j1:Y.drew.cell? ⟨g,1,none⟩=some vd:=ho
 have j2:Y.drew.cell? ⟨h,7,none⟩=some (.int .i64 x.n):=hn
 have hw1:IntKind.i64.wrap (la+x.n)=la+x.n:=by rw[IntKind.wrap_i64];omega
 have hw2:wrap64 (la+x.n)=la+x.n:=by unfold wrap64;omega
 clear hT hw hA ho hn
 conv=>arg 2;whnf
 dsimp only
 refine wp_region_any (by kernel_rfl) ?_
 change wpAny _ _ _ _ _ _ _ (World.drew _)
 refine wpAny_inw (fun L a u=>∃ a2 y2 w1,a=fil22Mk g h m2 x la z vd A  c0 c1 c2 c3 c4 c5 c7 c10 c11 c12 c13 c14 c15 c16 c17 c18 c19 c20 c21 c22 c23 c24 c25 c26 c27 c28 c29 c30 c31 c32 c33 c34 c35 c36 c37 c38 c39 c40 c41 c42 c43 c44 c45 c46 c47 c48 c49 c50 c51 c52 c53 c54 c55 c56 c57 c58 c59 c60 c61 c62 c63 c64 c65 c66 c67 c68 c69 c70 c71 c72 c73 c74 c75 c76 c77 c78 c79 c80 c81 c82 c83 c84 c85 c86 c87 c88 c89 c90 c91 c92 c93 c94 c95 c96 c97 c98 c99 c100 c101 c102 c103 c104 c105 c106 c107 c108 c109 c119 c120 c121 c122 c123 c124 c125 c126 c127 c128 c129 c130 c131 c132 c133 c134 c135 c136 c137 c138 c139 c140 c141 c142 c143 c144 d110 d111 d112 d113 d114 d115 d116 d117 d118 a2 y2 L/\TwoW Y.drew (A a2 y2) (fun u=>u=w1.setCell ⟨g,1,none⟩ (.slice a2 m2 y2)) 7 9 w1 L u) ?done (by kernel_rfl) ?step _ 10 _ _ (by kernel_rfl) ?init (by decide)
 case init=>exact⟨none,0,Y,by simp only[fil22Mk,sld_no (up_init _ _)],TwoW.init⟩
 case step=>
  intro L act w i o hI hlt hs nl hC hd ho K hK
  obtain⟨a2,y2,w1,rfl,hW⟩:=hI
  have hi_lt:i<10:=(Array.getElem?_eq_some_iff.1 ho).1
  rcases (show i=0\/i=1\/i=2\/i=3\/i=4\/i=5\/i=6\/i=7\/i=8\/i=9 by omega) with rfl | rfl | rfl | rfl | rfl | rfl | rfl | rfl | rfl | rfl
  ·change some _=some o at ho
   cases ho
   simp only[fil22Mk]
   go_simp
   exact hK _ _ ⟨a2,y2,w1,by simp only[fil22Mk,sld_set hlt,reduceIte,Nat.reduceEqDiff];try rfl,(hW.keep hlt (by decide) (by decide))⟩
  ·change some _=some o at ho
   cases ho
   have q0:up L 0=true:=hd { on:=0,ground:=.data } (by simp) rfl
   have n7:up L 7=false:=hC.no nl 7 rfl (by kernel_rfl)
   obtain rfl:=hW.1 n7
   simp only[fil22Mk,sld_yes q0]
   go_simp
   exact hK _ _ ⟨a2,y2,w1,by simp only[fil22Mk,sld_set hlt,sld_yes q0,reduceIte,Nat.reduceEqDiff];try rfl,(hW.keep hlt (by decide) (by decide))⟩
  ·change some _=some o at ho
   cases ho
   simp only[fil22Mk]
   go_simp
   exact hK _ _ ⟨a2,y2,w1,by simp only[fil22Mk,sld_set hlt,reduceIte,Nat.reduceEqDiff];try rfl,(hW.keep hlt (by decide) (by decide))⟩
  ·change some _=some o at ho
   cases ho
   simp only[fil22Mk]
   go_simp
   exact hK _ _ ⟨a2,y2,w1,by simp only[fil22Mk,sld_set hlt,reduceIte,Nat.reduceEqDiff];try rfl,(hW.keep hlt (by decide) (by decide))⟩
  ·change some _=some o at ho
   cases ho
   have q3:up L 3=true:=hd { on:=3,ground:=.data } (by simp) rfl
   have n5:up L 5=false:=hC.no nl 5 rfl (by kernel_rfl)
   have n6:up L 6=false:=hC.no n5 6 rfl (by kernel_rfl)
   have n7:up L 7=false:=hC.no n6 7 rfl (by kernel_rfl)
   obtain rfl:=hW.1 n7
   simp only[fil22Mk,sld_yes q3]
   go_simp
   exact hK _ _ ⟨a2,y2,w1,by simp only[fil22Mk,sld_set hlt,sld_yes q3,reduceIte,Nat.reduceEqDiff];try rfl,(hW.keep hlt (by decide) (by decide))⟩
  ·change some _=some o at ho
   cases ho
   have q2:up L 2=true:=hd { on:=2,ground:=.data } (by simp) rfl
   have q4:up L 4=true:=hd { on:=4,ground:=.data } (by simp) rfl
   simp only[fil22Mk,sld_yes q2,sld_yes q4]
   go_simp
   exact hK _ _ ⟨a2,y2,w1,by simp only[fil22Mk,sld_set hlt,sld_yes q2,sld_yes q4,reduceIte,Nat.reduceEqDiff];try rfl,(hW.keep hlt (by decide) (by decide))⟩
  ·change some _=some o at ho
   cases ho
   have q5:up L 5=true:=hd { on:=5,ground:=.data } (by simp) rfl
   have n7:up L 7=false:=hC.no nl 7 rfl (by kernel_rfl)
   obtain rfl:=hW.1 n7
   simp only[fil22Mk,sld_yes q5]
   go_simp
   refine (HWd.out _).mono ?_
   rintro e w3 ⟨rfl,rfl⟩
   go_simp
   exact hK _ _ ⟨a2,y2,w1,by simp only[fil22Mk,sld_set hlt,sld_yes q5,reduceIte,Nat.reduceEqDiff];try rfl,(hW.keep hlt (by decide) (by decide))⟩
  ·change some _=some o at ho
   cases ho
   have q1:up L 1=true:=hd { on:=1,ground:=.data } (by simp) rfl
   have q6:up L 6=true:=hd { on:=6,ground:=.data } (by simp) rfl
   have n9:up L 9=false:=hC.no nl 9 rfl (by kernel_rfl)
   obtain rfl:=hW.1 nl
   simp only[fil22Mk,sld_yes q1,sld_yes q6]
   go_simp
   refine Calls.mono HT.out ?_
   rintro e w3 ⟨a3,y3,rfl,hR⟩
   go_simp
   exact hK _ _ ⟨a3,y3,w3,by simp only[fil22Mk,sld_set hlt,sld_yes q1,sld_yes q6,reduceIte,Nat.reduceEqDiff];try rfl,TwoW.first hlt (by decide) n9 hR⟩
  ·change some _=some o at ho
   cases ho
   simp only[fil22Mk]
   go_simp
   exact hK _ _ ⟨a2,y2,w1,by simp only[fil22Mk,sld_set hlt,reduceIte,Nat.reduceEqDiff];try rfl,(hW.keep hlt (by decide) (by decide))⟩
  ·change some _=some o at ho
   cases ho
   have q7:up L 7=true:=hd { on:=7,ground:=.data } (by simp) rfl
   have q8:up L 8=true:=hd { on:=8,ground:=.data } (by simp) rfl
   obtain⟨d1,y4,_⟩:=hW.2 q7
   obtain rfl:=y4 nl
   obtain⟨e1,e2⟩:=HA.out _ _ _ d1
   simp only[fil22Mk,sld_yes q7,sld_yes q8]
   go_simp
   exact hK _ _ ⟨a2,y2,w,by simp only[fil22Mk,sld_set hlt,sld_yes q7,sld_yes q8,reduceIte,Nat.reduceEqDiff];try rfl,hW.second hlt q7 rfl⟩
 case done=>
  rintro L a u ⟨a2,y2,w1,rfl,hW⟩ hall
  simp only[fil22Mk,sld_yes (hall 0 (by decide)),sld_yes (hall 1 (by decide)),sld_yes (hall 2 (by decide)),sld_yes (hall 3 (by decide)),sld_yes (hall 4 (by decide)),sld_yes (hall 5 (by decide)),sld_yes (hall 6 (by decide)),sld_yes (hall 7 (by decide)),sld_yes (hall 8 (by decide)),sld_yes (hall 9 (by decide))]
  obtain⟨d1,_,hB⟩:=hW.2 (hall 7 (by decide))
  obtain rfl:=hB (hall 9 (by decide))
  exact HKt.out a2 y2 w1 d1
def fil24Mk (g h m2 n0:Nat) (x:Pl.Ln) (z:Int) (a0:Option Addr) (y0:Nat) (A:World->Option Addr->Nat->World->Prop)  (c0 c1 c2 c3 c4 c5 c7 c9 c10 c11 c12 c13 c14 c15 c16 c17 c18 c19 c20 c21 c22 c23 c24 c25 c26 c27 c28 c29 c30 c31 c32 c33 c34 c35 c36 c37 c38 c39 c40 c41 c42 c43 c44 c45 c46 c47 c48 c49 c50 c51 c52 c53 c54 c55 c56 c57 c58 c59 c60 c61 c62 c63 c64 c65 c66 c67 c68 c69 c70 c71 c72 c73 c74 c75 c76 c77 c78 c79 c80 c81 c82 c83 c84 c85 c86 c87 c88 c89 c90 c91 c92 c93 c94 c95 c96 c97 c98 c99 c100 c101 c102 c103 c104 c105 c106 c107 c108 c109 c110 c111 c112 c113 c114 c115 c116 c117 c118 c119 c120 c121 c122 c123 c124 c125 c126 c136 c137 c138 c139 c140 c141 c142 c143 c144 d127 d128 d129 d130 d131 d132 d133 d134 d135:Value) (a2:Option Addr) (y2:Nat) (L:Array Bool):Act:={ tmps:=#[c0,c1,c2,c3,c4,c5,.pointer (some ⟨g,0,none⟩),c7,.pointer (some ⟨h,0,none⟩),c9,c10,c11,c12,c13,c14,c15,c16,c17,c18,c19,c20,c21,c22,c23,c24,c25,c26,c27,c28,c29,c30,c31,c32,c33,c34,c35,c36,c37,c38,c39,c40,c41,c42,c43,c44,c45,c46,c47,c48,c49,c50,c51,c52,c53,c54,c55,c56,c57,c58,c59,c60,c61,c62,c63,c64,c65,c66,c67,c68,c69,c70,c71,c72,c73,c74,c75,c76,c77,c78,c79,c80,c81,c82,c83,c84,c85,c86,c87,c88,c89,c90,c91,c92,c93,c94,c95,c96,c97,c98,c99,c100,c101,c102,c103,c104,c105,c106,c107,c108,c109,c110,c111,c112,c113,c114,c115,c116,c117,c118,c119,c120,c121,c122,c123,c124,c125,c126,sld d127 L 0 (.pointer (some ⟨g,1,none⟩)),sld d128 L 1 (.slice a0 n0 y0),sld d129 L 2 (.agg #[.int .i64 x.k,.int .i64 x.op,.int .i64 x.rd,.int .i64 x.r1,.int .i64 x.r2,.int .i64 x.im,.string x.s,.int .i64 x.n]),sld d130 L 3 (.pointer (some ⟨g,1,none⟩)),sld d131 L 4 (.slice a0 n0 y0),sld d132 L 5 (.int .i64 (n0:Nat)),sld d133 L 6 (.int .i64 z),sld d134 L 7 (.slice a2 m2 y2),sld d135 L 8 (.pointer (some ⟨g,1,none⟩)),c136,c137,c138,c139,c140,c141,c142,c143,c144],defers:=[] }
set_option maxRecDepth 100000 in
theorem fil24 (g h m2 n0:Nat) (x:Pl.Ln) (z:Int) (a0:Option Addr) (y0:Nat) (A:World->Option Addr->Nat->World->Prop) {c0 c1 c2 c3 c4 c5 c7 c9 c10 c11 c12 c13 c14 c15 c16 c17 c18 c19 c20 c21 c22 c23 c24 c25 c26 c27 c28 c29 c30 c31 c32 c33 c34 c35 c36 c37 c38 c39 c40 c41 c42 c43 c44 c45 c46 c47 c48 c49 c50 c51 c52 c53 c54 c55 c56 c57 c58 c59 c60 c61 c62 c63 c64 c65 c66 c67 c68 c69 c70 c71 c72 c73 c74 c75 c76 c77 c78 c79 c80 c81 c82 c83 c84 c85 c86 c87 c88 c89 c90 c91 c92 c93 c94 c95 c96 c97 c98 c99 c100 c101 c102 c103 c104 c105 c106 c107 c108 c109 c110 c111 c112 c113 c114 c115 c116 c117 c118 c119 c120 c121 c122 c123 c124 c125 c126 c136 c137 c138 c139 c140 c141 c142 c143 c144 d127 d128 d129 d130 d131 d132 d133 d134 d135:Value} (Y:World) (ho:Y.cell? ⟨g,1,none⟩=some (.slice a0 n0 y0)) (b0:Y.cell? ⟨h,0,none⟩=some (.int .i64 x.k)) (b1:Y.cell? ⟨h,1,none⟩=some (.int .i64 x.op)) (b2:Y.cell? ⟨h,2,none⟩=some (.int .i64 x.rd)) (b3:Y.cell? ⟨h,3,none⟩=some (.int .i64 x.r1)) (b4:Y.cell? ⟨h,4,none⟩=some (.int .i64 x.r2)) (b5:Y.cell? ⟨h,5,none⟩=some (.int .i64 x.im)) (b6:Y.cell? ⟨h,6,none⟩=some (.string x.s)) (b7:Y.cell? ⟨h,7,none⟩=some (.int .i64 x.n)) (hA:∀ a2 y2 u1 u,Below Y.heap.size Y u1->A u1 a2 y2 u->u.cell? ⟨g,1,none⟩=some (.slice a0 n0 y0)/\u.frozen? ⟨g,1,none⟩=false) (hc:∀ u:World,Calls Tryz.prog 66 #[.agg #[.int .i64 x.k,.int .i64 x.op,.int .i64 x.rd,.int .i64 x.r1,.int .i64 x.r2,.int .i64 x.im,.string x.s,.int .i64 x.n],.int .i64 (n0:Nat)] u fun e w'=>e=.returned (.int .i64 z)/\Below u.heap.size u w') (hT:∀ u1,Below Y.heap.size Y u1->∃ a2 y2 u2,(Builtin.append_ #[22,3] 22 #[.slice a0 n0 y0,.int .i64 z]).run Tryz.prog u1=.ok (.slice a2 m2 y2) u2/\A u1 a2 y2 u2) {Q:Exit->Act->World->Prop}
  (hK:∀ (a2:Option Addr) (y2:Nat) (w1 w2:World),Below Y.heap.size Y w1->A w1 a2 y2 w2->Q .normal { tmps:=#[c0,c1,c2,c3,c4,c5,.pointer (some ⟨g,0,none⟩),c7,.pointer (some ⟨h,0,none⟩),c9,c10,c11,c12,c13,c14,c15,c16,c17,c18,c19,c20,c21,c22,c23,c24,c25,c26,c27,c28,c29,c30,c31,c32,c33,c34,c35,c36,c37,c38,c39,c40,c41,c42,c43,c44,c45,c46,c47,c48,c49,c50,c51,c52,c53,c54,c55,c56,c57,c58,c59,c60,c61,c62,c63,c64,c65,c66,c67,c68,c69,c70,c71,c72,c73,c74,c75,c76,c77,c78,c79,c80,c81,c82,c83,c84,c85,c86,c87,c88,c89,c90,c91,c92,c93,c94,c95,c96,c97,c98,c99,c100,c101,c102,c103,c104,c105,c106,c107,c108,c109,c110,c111,c112,c113,c114,c115,c116,c117,c118,c119,c120,c121,c122,c123,c124,c125,c126,.pointer (some ⟨g,1,none⟩),.slice a0 n0 y0,.agg #[.int .i64 x.k,.int .i64 x.op,.int .i64 x.rd,.int .i64 x.r1,.int .i64 x.r2,.int .i64 x.im,.string x.s,.int .i64 x.n],.pointer (some ⟨g,1,none⟩),.slice a0 n0 y0,.int .i64 (n0:Nat),.int .i64 z,.slice a2 m2 y2,.pointer (some ⟨g,1,none⟩),c136,c137,c138,c139,c140,c141,c142,c143,c144],defers:=[] } (w2.setCell ⟨g,1,none⟩ (.slice a2 m2 y2))) :
  (filC 24).wp Tryz.prog Q { tmps:=#[c0,c1,c2,c3,c4,c5,.pointer (some ⟨g,0,none⟩),c7,.pointer (some ⟨h,0,none⟩),c9,c10,c11,c12,c13,c14,c15,c16,c17,c18,c19,c20,c21,c22,c23,c24,c25,c26,c27,c28,c29,c30,c31,c32,c33,c34,c35,c36,c37,c38,c39,c40,c41,c42,c43,c44,c45,c46,c47,c48,c49,c50,c51,c52,c53,c54,c55,c56,c57,c58,c59,c60,c61,c62,c63,c64,c65,c66,c67,c68,c69,c70,c71,c72,c73,c74,c75,c76,c77,c78,c79,c80,c81,c82,c83,c84,c85,c86,c87,c88,c89,c90,c91,c92,c93,c94,c95,c96,c97,c98,c99,c100,c101,c102,c103,c104,c105,c106,c107,c108,c109,c110,c111,c112,c113,c114,c115,c116,c117,c118,c119,c120,c121,c122,c123,c124,c125,c126,d127,d128,d129,d130,d131,d132,d133,d134,d135,c136,c137,c138,c139,c140,c141,c142,c143,c144],defers:=[] } Y:=by
 have HKt:Hid _:=hK
 clear hK
 have HT:Hid _:=hT
 have HCn:Hid _:=hc
 have HA:Hid _:=hA
 have j1:Y.drew.cell? ⟨g,1,none⟩=some (.slice a0 n0 y0):=ho
 have k0:Y.drew.cell? ⟨h,0,none⟩=some (.int .i64 x.k):=b0
 have k1:Y.drew.cell? ⟨h,1,none⟩=some (.int .i64 x.op):=b1
 have k2:Y.drew.cell? ⟨h,2,none⟩=some (.int .i64 x.rd):=b2
 have k3:Y.drew.cell? ⟨h,3,none⟩=some (.int .i64 x.r1):=b3
 have k4:Y.drew.cell? ⟨h,4,none⟩=some (.int .i64 x.r2):=b4
 have k5:Y.drew.cell? ⟨h,5,none⟩=some (.int .i64 x.im):=b5
 have k6:Y.drew.cell? ⟨h,6,none⟩=some (.string x.s):=b6
 have k7:Y.drew.cell? ⟨h,7,none⟩=some (.int .i64 x.n):=b7
 clear b0 b1 b2 b3 b4 b5 b6 b7
 clear hT hc hA ho
 conv=>arg 2;whnf
 dsimp only
 refine wp_region_any (by kernel_rfl) ?_
 change wpAny _ _ _ _ _ _ _ (World.drew _)
 refine wpAny_inw (fun L a u=>∃ a2 y2 w1 w2,a=fil24Mk g h m2 n0 x z a0 y0 A  c0 c1 c2 c3 c4 c5 c7 c9 c10 c11 c12 c13 c14 c15 c16 c17 c18 c19 c20 c21 c22 c23 c24 c25 c26 c27 c28 c29 c30 c31 c32 c33 c34 c35 c36 c37 c38 c39 c40 c41 c42 c43 c44 c45 c46 c47 c48 c49 c50 c51 c52 c53 c54 c55 c56 c57 c58 c59 c60 c61 c62 c63 c64 c65 c66 c67 c68 c69 c70 c71 c72 c73 c74 c75 c76 c77 c78 c79 c80 c81 c82 c83 c84 c85 c86 c87 c88 c89 c90 c91 c92 c93 c94 c95 c96 c97 c98 c99 c100 c101 c102 c103 c104 c105 c106 c107 c108 c109 c110 c111 c112 c113 c114 c115 c116 c117 c118 c119 c120 c121 c122 c123 c124 c125 c126 c136 c137 c138 c139 c140 c141 c142 c143 c144 d127 d128 d129 d130 d131 d132 d133 d134 d135 a2 y2 L/\ThrW Y.drew (fun u=>Below Y.drew.heap.size Y.drew u) (fun u=>A w1 a2 y2 u) (fun u=>u=w2.setCell ⟨g,1,none⟩ (.slice a2 m2 y2)) 6 7 9 w1 w2 L u) ?done (by kernel_rfl) ?step _ 10 _ _ (by kernel_rfl) ?init (by decide)
 case init=>exact⟨none,0,Y,Y,by simp only[fil24Mk,sld_no (up_init _ _)],ThrW.init⟩
 case step=>
  intro L act w i o hI hlt hs nl hC hd ho K hK
  obtain⟨a2,y2,w1,w2,rfl,hW⟩:=hI
  have hi_lt:i<10:=(Array.getElem?_eq_some_iff.1 ho).1
  rcases (show i=0\/i=1\/i=2\/i=3\/i=4\/i=5\/i=6\/i=7\/i=8\/i=9 by omega) with rfl | rfl | rfl | rfl | rfl | rfl | rfl | rfl | rfl | rfl
  ·change some _=some o at ho
   cases ho
   simp only[fil24Mk]
   go_simp
   exact hK _ _ ⟨a2,y2,w1,w2,by simp only[fil24Mk,sld_set hlt,reduceIte,Nat.reduceEqDiff];try rfl,(hW.keep hlt (by decide) (by decide) (by decide))⟩
  ·change some _=some o at ho
   cases ho
   have q0:up L 0=true:=hd { on:=0,ground:=.data } (by simp) rfl
   have n7:up L 7=false:=hC.no nl 7 rfl (by kernel_rfl)
   have xo:=hW.cell n7 j1 (fun q=>below_cell q j1)
   simp only[fil24Mk,sld_yes q0]
   go_simp
   exact hK _ _ ⟨a2,y2,w1,w2,by simp only[fil24Mk,sld_set hlt,sld_yes q0,reduceIte,Nat.reduceEqDiff];try rfl,(hW.keep hlt (by decide) (by decide) (by decide))⟩
  ·change some _=some o at ho
   cases ho
   have n6:up L 6=false:=hC.no nl 6 rfl (by kernel_rfl)
   obtain rfl:=hW.1 n6
   simp only[fil24Mk]
   go_simp
   exact hK _ _ ⟨a2,y2,w1,w2,by simp only[fil24Mk,sld_set hlt,reduceIte,Nat.reduceEqDiff];try rfl,(hW.keep hlt (by decide) (by decide) (by decide))⟩
  ·change some _=some o at ho
   cases ho
   simp only[fil24Mk]
   go_simp
   exact hK _ _ ⟨a2,y2,w1,w2,by simp only[fil24Mk,sld_set hlt,reduceIte,Nat.reduceEqDiff];try rfl,(hW.keep hlt (by decide) (by decide) (by decide))⟩
  ·change some _=some o at ho
   cases ho
   have q3:up L 3=true:=hd { on:=3,ground:=.data } (by simp) rfl
   have n5:up L 5=false:=hC.no nl 5 rfl (by kernel_rfl)
   have n6:up L 6=false:=hC.no n5 6 rfl (by kernel_rfl)
   obtain rfl:=hW.1 n6
   simp only[fil24Mk,sld_yes q3]
   go_simp
   exact hK _ _ ⟨a2,y2,w1,w2,by simp only[fil24Mk,sld_set hlt,sld_yes q3,reduceIte,Nat.reduceEqDiff];try rfl,(hW.keep hlt (by decide) (by decide) (by decide))⟩
  ·change some _=some o at ho
   cases ho
   have q4:up L 4=true:=hd { on:=4,ground:=.data } (by simp) rfl
   simp only[fil24Mk,sld_yes q4]
   go_simp
   exact hK _ _ ⟨a2,y2,w1,w2,by simp only[fil24Mk,sld_set hlt,sld_yes q4,reduceIte,Nat.reduceEqDiff];try rfl,(hW.keep hlt (by decide) (by decide) (by decide))⟩
  ·change some _=some o at ho
   cases ho
   have q2:up L 2=true:=hd { on:=2,ground:=.data } (by simp) rfl
   have q5:up L 5=true:=hd { on:=5,ground:=.data } (by simp) rfl
   have n7:up L 7=false:=hC.no nl 7 rfl (by kernel_rfl)
   have n9:up L 9=false:=hC.no n7 9 rfl (by kernel_rfl)
   obtain rfl:=hW.1 nl
   simp only[fil24Mk,sld_yes q2,sld_yes q5]
   go_simp
   refine (HCn.out _).mono ?_
   rintro e w3 ⟨rfl,d1⟩
   go_simp
   exact hK _ _ ⟨a2,y2,w3,w2,by simp only[fil24Mk,sld_set hlt,sld_yes q2,sld_yes q5,reduceIte,Nat.reduceEqDiff];try rfl,ThrW.first hlt (by decide) n7 d1⟩
  ·change some _=some o at ho
   cases ho
   have q1:up L 1=true:=hd { on:=1,ground:=.data } (by simp) rfl
   have q6:up L 6=true:=hd { on:=6,ground:=.data } (by simp) rfl
   have n9:up L 9=false:=hC.no nl 9 rfl (by kernel_rfl)
   obtain⟨d1,y4,_⟩:=hW.2 q6
   obtain rfl:=y4 nl
   obtain⟨a3,y3,u3,hr3,hA3⟩:=HT.out _ (Below.trans (Below.drew (Below.refl _ _)) d1)
   simp only[fil24Mk,sld_yes q1,sld_yes q6]
   rw[if_pos (by rfl)]
   refine Lib.wp_append_run _ (.tmp 128) (.tmp 133) 22 3 rfl _ _ rfl rfl _ _ hr3 ?_
   go_simp
   exact hK _ _ ⟨a3,y3,w,u3,by simp only[fil24Mk,sld_set hlt,sld_yes q1,sld_yes q6,reduceIte,Nat.reduceEqDiff];try rfl,hW.second hlt (by decide) n9 q6 hA3⟩
  ·change some _=some o at ho
   cases ho
   simp only[fil24Mk]
   go_simp
   exact hK _ _ ⟨a2,y2,w1,w2,by simp only[fil24Mk,sld_set hlt,reduceIte,Nat.reduceEqDiff];try rfl,(hW.keep hlt (by decide) (by decide) (by decide))⟩
  ·change some _=some o at ho
   cases ho
   have q7:up L 7=true:=hd { on:=7,ground:=.data } (by simp) rfl
   have q8:up L 8=true:=hd { on:=8,ground:=.data } (by simp) rfl
   have q6:up L 6=true:=hC 7 _ rfl q7 { on:=6,ground:=.data } (by simp) rfl
   obtain⟨d1,_,d2⟩:=hW.2 q6
   obtain⟨d3,y4,_⟩:=d2 q7
   obtain rfl:=y4 nl
   obtain⟨e1,e2⟩:=HA.out _ _ _ _ (Below.trans (Below.drew (Below.refl _ _)) d1) d3
   simp only[fil24Mk,sld_yes q7,sld_yes q8]
   go_simp
   exact hK _ _ ⟨a2,y2,w1,w,by simp only[fil24Mk,sld_set hlt,sld_yes q7,sld_yes q8,reduceIte,Nat.reduceEqDiff];try rfl,hW.third hlt q6 q7 rfl⟩
 case done=>
  rintro L a u ⟨a2,y2,w1,w2,rfl,hW⟩ hall
  simp only[fil24Mk,sld_yes (hall 0 (by decide)),sld_yes (hall 1 (by decide)),sld_yes (hall 2 (by decide)),sld_yes (hall 3 (by decide)),sld_yes (hall 4 (by decide)),sld_yes (hall 5 (by decide)),sld_yes (hall 6 (by decide)),sld_yes (hall 7 (by decide)),sld_yes (hall 8 (by decide)),sld_yes (hall 9 (by decide))]
  obtain⟨d1,_,d2⟩:=hW.2 (hall 6 (by decide))
  obtain⟨d3,_,d4⟩:=d2 (hall 7 (by decide))
  obtain rfl:=d4 (hall 9 (by decide))
  exact HKt.out a2 y2 w1 w2 (Below.trans (Below.drew (Below.refl _ _)) d1) d3
def fil25Mk (g h m2 n0:Nat) (x:Pl.Ln) (z:Int) (a0:Option Addr) (y0:Nat) (A:World->Option Addr->Nat->World->Prop)  (c0 c1 c2 c3 c4 c5 c7 c9 c10 c11 c12 c13 c14 c15 c16 c17 c18 c19 c20 c21 c22 c23 c24 c25 c26 c27 c28 c29 c30 c31 c32 c33 c34 c35 c36 c37 c38 c39 c40 c41 c42 c43 c44 c45 c46 c47 c48 c49 c50 c51 c52 c53 c54 c55 c56 c57 c58 c59 c60 c61 c62 c63 c64 c65 c66 c67 c68 c69 c70 c71 c72 c73 c74 c75 c76 c77 c78 c79 c80 c81 c82 c83 c84 c85 c86 c87 c88 c89 c90 c91 c92 c93 c94 c95 c96 c97 c98 c99 c100 c101 c102 c103 c104 c105 c106 c107 c108 c109 c110 c111 c112 c113 c114 c115 c116 c117 c118 c119 c120 c121 c122 c123 c124 c125 c126 c127 c128 c129 c130 c131 c132 c133 c134 c135 c144 d136 d137 d138 d139 d140 d141 d142 d143:Value) (a2:Option Addr) (y2:Nat) (L:Array Bool):Act:={ tmps:=#[c0,c1,c2,c3,c4,c5,.pointer (some ⟨g,0,none⟩),c7,.pointer (some ⟨h,0,none⟩),c9,c10,c11,c12,c13,c14,c15,c16,c17,c18,c19,c20,c21,c22,c23,c24,c25,c26,c27,c28,c29,c30,c31,c32,c33,c34,c35,c36,c37,c38,c39,c40,c41,c42,c43,c44,c45,c46,c47,c48,c49,c50,c51,c52,c53,c54,c55,c56,c57,c58,c59,c60,c61,c62,c63,c64,c65,c66,c67,c68,c69,c70,c71,c72,c73,c74,c75,c76,c77,c78,c79,c80,c81,c82,c83,c84,c85,c86,c87,c88,c89,c90,c91,c92,c93,c94,c95,c96,c97,c98,c99,c100,c101,c102,c103,c104,c105,c106,c107,c108,c109,c110,c111,c112,c113,c114,c115,c116,c117,c118,c119,c120,c121,c122,c123,c124,c125,c126,c127,c128,c129,c130,c131,c132,c133,c134,c135,sld d136 L 0 (.pointer (some ⟨g,1,none⟩)),sld d137 L 1 (.slice a0 n0 y0),sld d138 L 2 (.pointer (some ⟨h,7,none⟩)),sld d139 L 3 (.int .i64 x.n),sld d140 L 4 (.agg #[.int .i64 x.k,.int .i64 x.op,.int .i64 x.rd,.int .i64 x.r1,.int .i64 x.r2,.int .i64 x.im,.string x.s,.int .i64 x.n]),sld d141 L 5 (.int .i64 z),sld d142 L 6 (.slice a2 m2 y2),sld d143 L 7 (.pointer (some ⟨g,1,none⟩)),c144],defers:=[] }
set_option maxRecDepth 100000 in
theorem fil25 (g h m2 n0:Nat) (x:Pl.Ln) (z:Int) (a0:Option Addr) (y0:Nat) (A:World->Option Addr->Nat->World->Prop) {c0 c1 c2 c3 c4 c5 c7 c9 c10 c11 c12 c13 c14 c15 c16 c17 c18 c19 c20 c21 c22 c23 c24 c25 c26 c27 c28 c29 c30 c31 c32 c33 c34 c35 c36 c37 c38 c39 c40 c41 c42 c43 c44 c45 c46 c47 c48 c49 c50 c51 c52 c53 c54 c55 c56 c57 c58 c59 c60 c61 c62 c63 c64 c65 c66 c67 c68 c69 c70 c71 c72 c73 c74 c75 c76 c77 c78 c79 c80 c81 c82 c83 c84 c85 c86 c87 c88 c89 c90 c91 c92 c93 c94 c95 c96 c97 c98 c99 c100 c101 c102 c103 c104 c105 c106 c107 c108 c109 c110 c111 c112 c113 c114 c115 c116 c117 c118 c119 c120 c121 c122 c123 c124 c125 c126 c127 c128 c129 c130 c131 c132 c133 c134 c135 c144 d136 d137 d138 d139 d140 d141 d142 d143:Value} (Y:World) (ho:Y.cell? ⟨g,1,none⟩=some (.slice a0 n0 y0)) (b0:Y.cell? ⟨h,0,none⟩=some (.int .i64 x.k)) (b1:Y.cell? ⟨h,1,none⟩=some (.int .i64 x.op)) (b2:Y.cell? ⟨h,2,none⟩=some (.int .i64 x.rd)) (b3:Y.cell? ⟨h,3,none⟩=some (.int .i64 x.r1)) (b4:Y.cell? ⟨h,4,none⟩=some (.int .i64 x.r2)) (b5:Y.cell? ⟨h,5,none⟩=some (.int .i64 x.im)) (b6:Y.cell? ⟨h,6,none⟩=some (.string x.s)) (b7:Y.cell? ⟨h,7,none⟩=some (.int .i64 x.n)) (hA:∀ a2 y2 u1 u,Below Y.heap.size Y u1->A u1 a2 y2 u->u.cell? ⟨g,1,none⟩=some (.slice a0 n0 y0)/\u.frozen? ⟨g,1,none⟩=false) (hc:∀ u:World,Calls Tryz.prog 66 #[.agg #[.int .i64 x.k,.int .i64 x.op,.int .i64 x.rd,.int .i64 x.r1,.int .i64 x.r2,.int .i64 x.im,.string x.s,.int .i64 x.n],.int .i64 0] u fun e w'=>e=.returned (.int .i64 z)/\Below u.heap.size u w') (hT:∀ u1,Below Y.heap.size Y u1->Calls Tryz.prog 69 #[.slice a0 n0 y0,.int .i64 x.n,.int .i64 z] u1 fun e w'=>∃ a2 y2,e=.returned (.slice a2 m2 y2)/\A u1 a2 y2 w') {Q:Exit->Act->World->Prop}
  (hK:∀ (a2:Option Addr) (y2:Nat) (w1 w2:World),Below Y.heap.size Y w1->A w1 a2 y2 w2->Q .normal { tmps:=#[c0,c1,c2,c3,c4,c5,.pointer (some ⟨g,0,none⟩),c7,.pointer (some ⟨h,0,none⟩),c9,c10,c11,c12,c13,c14,c15,c16,c17,c18,c19,c20,c21,c22,c23,c24,c25,c26,c27,c28,c29,c30,c31,c32,c33,c34,c35,c36,c37,c38,c39,c40,c41,c42,c43,c44,c45,c46,c47,c48,c49,c50,c51,c52,c53,c54,c55,c56,c57,c58,c59,c60,c61,c62,c63,c64,c65,c66,c67,c68,c69,c70,c71,c72,c73,c74,c75,c76,c77,c78,c79,c80,c81,c82,c83,c84,c85,c86,c87,c88,c89,c90,c91,c92,c93,c94,c95,c96,c97,c98,c99,c100,c101,c102,c103,c104,c105,c106,c107,c108,c109,c110,c111,c112,c113,c114,c115,c116,c117,c118,c119,c120,c121,c122,c123,c124,c125,c126,c127,c128,c129,c130,c131,c132,c133,c134,c135,.pointer (some ⟨g,1,none⟩),.slice a0 n0 y0,.pointer (some ⟨h,7,none⟩),.int .i64 x.n,.agg #[.int .i64 x.k,.int .i64 x.op,.int .i64 x.rd,.int .i64 x.r1,.int .i64 x.r2,.int .i64 x.im,.string x.s,.int .i64 x.n],.int .i64 z,.slice a2 m2 y2,.pointer (some ⟨g,1,none⟩),c144],defers:=[] } (w2.setCell ⟨g,1,none⟩ (.slice a2 m2 y2))) :
  (filC 25).wp Tryz.prog Q { tmps:=#[c0,c1,c2,c3,c4,c5,.pointer (some ⟨g,0,none⟩),c7,.pointer (some ⟨h,0,none⟩),c9,c10,c11,c12,c13,c14,c15,c16,c17,c18,c19,c20,c21,c22,c23,c24,c25,c26,c27,c28,c29,c30,c31,c32,c33,c34,c35,c36,c37,c38,c39,c40,c41,c42,c43,c44,c45,c46,c47,c48,c49,c50,c51,c52,c53,c54,c55,c56,c57,c58,c59,c60,c61,c62,c63,c64,c65,c66,c67,c68,c69,c70,c71,c72,c73,c74,c75,c76,c77,c78,c79,c80,c81,c82,c83,c84,c85,c86,c87,c88,c89,c90,c91,c92,c93,c94,c95,c96,c97,c98,c99,c100,c101,c102,c103,c104,c105,c106,c107,c108,c109,c110,c111,c112,c113,c114,c115,c116,c117,c118,c119,c120,c121,c122,c123,c124,c125,c126,c127,c128,c129,c130,c131,c132,c133,c134,c135,d136,d137,d138,d139,d140,d141,d142,d143,c144],defers:=[] } Y:=by
 have HKt:Hid _:=hK
 clear hK
 have HT:Hid _:=hT
 have HCn:Hid _:=hc
 have HA:Hid _:=hA
 have j1:Y.drew.cell? ⟨g,1,none⟩=some (.slice a0 n0 y0):=ho
 have k0:Y.drew.cell? ⟨h,0,none⟩=some (.int .i64 x.k):=b0
 have k1:Y.drew.cell? ⟨h,1,none⟩=some (.int .i64 x.op):=b1
 have k2:Y.drew.cell? ⟨h,2,none⟩=some (.int .i64 x.rd):=b2
 have k3:Y.drew.cell? ⟨h,3,none⟩=some (.int .i64 x.r1):=b3
 have k4:Y.drew.cell? ⟨h,4,none⟩=some (.int .i64 x.r2):=b4
 have k5:Y.drew.cell? ⟨h,5,none⟩=some (.int .i64 x.im):=b5
 have k6:Y.drew.cell? ⟨h,6,none⟩=some (.string x.s):=b6
 have k7:Y.drew.cell? ⟨h,7,none⟩=some (.int .i64 x.n):=b7
 clear b0 b1 b2 b3 b4 b5 b6 b7
 clear hT hc hA ho
 conv=>arg 2;whnf
 dsimp only
 refine wp_region_any (by kernel_rfl) ?_
 change wpAny _ _ _ _ _ _ _ (World.drew _)
 refine wpAny_inw (fun L a u=>∃ a2 y2 w1 w2,a=fil25Mk g h m2 n0 x z a0 y0 A  c0 c1 c2 c3 c4 c5 c7 c9 c10 c11 c12 c13 c14 c15 c16 c17 c18 c19 c20 c21 c22 c23 c24 c25 c26 c27 c28 c29 c30 c31 c32 c33 c34 c35 c36 c37 c38 c39 c40 c41 c42 c43 c44 c45 c46 c47 c48 c49 c50 c51 c52 c53 c54 c55 c56 c57 c58 c59 c60 c61 c62 c63 c64 c65 c66 c67 c68 c69 c70 c71 c72 c73 c74 c75 c76 c77 c78 c79 c80 c81 c82 c83 c84 c85 c86 c87 c88 c89 c90 c91 c92 c93 c94 c95 c96 c97 c98 c99 c100 c101 c102 c103 c104 c105 c106 c107 c108 c109 c110 c111 c112 c113 c114 c115 c116 c117 c118 c119 c120 c121 c122 c123 c124 c125 c126 c127 c128 c129 c130 c131 c132 c133 c134 c135 c144 d136 d137 d138 d139 d140 d141 d142 d143 a2 y2 L/\ThrW Y.drew (fun u=>Below Y.drew.heap.size Y.drew u) (fun u=>A w1 a2 y2 u) (fun u=>u=w2.setCell ⟨g,1,none⟩ (.slice a2 m2 y2)) 5 6 8 w1 w2 L u) ?done (by kernel_rfl) ?step _ 9 _ _ (by kernel_rfl) ?init (by decide)
 case init=>exact⟨none,0,Y,Y,by simp only[fil25Mk,sld_no (up_init _ _)],ThrW.init⟩
 case step=>
  intro L act w i o hI hlt hs nl hC hd ho K hK
  obtain⟨a2,y2,w1,w2,rfl,hW⟩:=hI
  have hi_lt:i<9:=(Array.getElem?_eq_some_iff.1 ho).1
  rcases (show i=0\/i=1\/i=2\/i=3\/i=4\/i=5\/i=6\/i=7\/i=8 by omega) with rfl | rfl | rfl | rfl | rfl | rfl | rfl | rfl | rfl
  ·change some _=some o at ho
   cases ho
   simp only[fil25Mk]
   go_simp
   exact hK _ _ ⟨a2,y2,w1,w2,by simp only[fil25Mk,sld_set hlt,reduceIte,Nat.reduceEqDiff];try rfl,(hW.keep hlt (by decide) (by decide) (by decide))⟩
  ·change some _=some o at ho
   cases ho
   have q0:up L 0=true:=hd { on:=0,ground:=.data } (by simp) rfl
   have n6:up L 6=false:=hC.no nl 6 rfl (by kernel_rfl)
   have xo:=hW.cell n6 j1 (fun q=>below_cell q j1)
   simp only[fil25Mk,sld_yes q0]
   go_simp
   exact hK _ _ ⟨a2,y2,w1,w2,by simp only[fil25Mk,sld_set hlt,sld_yes q0,reduceIte,Nat.reduceEqDiff];try rfl,(hW.keep hlt (by decide) (by decide) (by decide))⟩
  ·change some _=some o at ho
   cases ho
   simp only[fil25Mk]
   go_simp
   exact hK _ _ ⟨a2,y2,w1,w2,by simp only[fil25Mk,sld_set hlt,reduceIte,Nat.reduceEqDiff];try rfl,(hW.keep hlt (by decide) (by decide) (by decide))⟩
  ·change some _=some o at ho
   cases ho
   have q2:up L 2=true:=hd { on:=2,ground:=.data } (by simp) rfl
   have n6:up L 6=false:=hC.no nl 6 rfl (by kernel_rfl)
   have xo:=hW.cell n6 k7 (fun q=>below_cell q k7)
   simp only[fil25Mk,sld_yes q2]
   go_simp
   exact hK _ _ ⟨a2,y2,w1,w2,by simp only[fil25Mk,sld_set hlt,sld_yes q2,reduceIte,Nat.reduceEqDiff];try rfl,(hW.keep hlt (by decide) (by decide) (by decide))⟩
  ·change some _=some o at ho
   cases ho
   have n5:up L 5=false:=hC.no nl 5 rfl (by kernel_rfl)
   obtain rfl:=hW.1 n5
   simp only[fil25Mk]
   go_simp
   exact hK _ _ ⟨a2,y2,w1,w2,by simp only[fil25Mk,sld_set hlt,reduceIte,Nat.reduceEqDiff];try rfl,(hW.keep hlt (by decide) (by decide) (by decide))⟩
  ·change some _=some o at ho
   cases ho
   have q4:up L 4=true:=hd { on:=4,ground:=.data } (by simp) rfl
   have n6:up L 6=false:=hC.no nl 6 rfl (by kernel_rfl)
   have n8:up L 8=false:=hC.no n6 8 rfl (by kernel_rfl)
   obtain rfl:=hW.1 nl
   simp only[fil25Mk,sld_yes q4]
   go_simp
   refine (HCn.out _).mono ?_
   rintro e w3 ⟨rfl,d1⟩
   go_simp
   exact hK _ _ ⟨a2,y2,w3,w2,by simp only[fil25Mk,sld_set hlt,sld_yes q4,reduceIte,Nat.reduceEqDiff];try rfl,ThrW.first hlt (by decide) n6 d1⟩
  ·change some _=some o at ho
   cases ho
   have q1:up L 1=true:=hd { on:=1,ground:=.data } (by simp) rfl
   have q3:up L 3=true:=hd { on:=3,ground:=.data } (by simp) rfl
   have q5:up L 5=true:=hd { on:=5,ground:=.data } (by simp) rfl
   have n8:up L 8=false:=hC.no nl 8 rfl (by kernel_rfl)
   obtain⟨d1,y4,_⟩:=hW.2 q5
   obtain rfl:=y4 nl
   simp only[fil25Mk,sld_yes q1,sld_yes q3,sld_yes q5]
   go_simp
   refine (HT.out _ (Below.trans (Below.drew (Below.refl _ _)) d1)).mono ?_
   rintro e w3 ⟨a3,y3,rfl,hR⟩
   go_simp
   exact hK _ _ ⟨a3,y3,w,w3,by simp only[fil25Mk,sld_set hlt,sld_yes q1,sld_yes q3,sld_yes q5,reduceIte,Nat.reduceEqDiff];try rfl,hW.second hlt (by decide) n8 q5 hR⟩
  ·change some _=some o at ho
   cases ho
   simp only[fil25Mk]
   go_simp
   exact hK _ _ ⟨a2,y2,w1,w2,by simp only[fil25Mk,sld_set hlt,reduceIte,Nat.reduceEqDiff];try rfl,(hW.keep hlt (by decide) (by decide) (by decide))⟩
  ·change some _=some o at ho
   cases ho
   have q6:up L 6=true:=hd { on:=6,ground:=.data } (by simp) rfl
   have q7:up L 7=true:=hd { on:=7,ground:=.data } (by simp) rfl
   have q5:up L 5=true:=hC 6 _ rfl q6 { on:=5,ground:=.data } (by simp) rfl
   obtain⟨d1,_,d2⟩:=hW.2 q5
   obtain⟨d3,y4,_⟩:=d2 q6
   obtain rfl:=y4 nl
   obtain⟨e1,e2⟩:=HA.out _ _ _ _ (Below.trans (Below.drew (Below.refl _ _)) d1) d3
   simp only[fil25Mk,sld_yes q6,sld_yes q7]
   go_simp
   exact hK _ _ ⟨a2,y2,w1,w,by simp only[fil25Mk,sld_set hlt,sld_yes q6,sld_yes q7,reduceIte,Nat.reduceEqDiff];try rfl,hW.third hlt q5 q6 rfl⟩
 case done=>
  rintro L a u ⟨a2,y2,w1,w2,rfl,hW⟩ hall
  simp only[fil25Mk,sld_yes (hall 0 (by decide)),sld_yes (hall 1 (by decide)),sld_yes (hall 2 (by decide)),sld_yes (hall 3 (by decide)),sld_yes (hall 4 (by decide)),sld_yes (hall 5 (by decide)),sld_yes (hall 6 (by decide)),sld_yes (hall 7 (by decide)),sld_yes (hall 8 (by decide))]
  obtain⟨d1,_,d2⟩:=hW.2 (hall 5 (by decide))
  obtain⟨d3,_,d4⟩:=d2 (hall 6 (by decide))
  obtain rfl:=d4 (hall 8 (by decide))
  exact HKt.out a2 y2 w1 w2 (Below.trans (Below.drew (Below.refl _ _)) d1) d3
def codeB (n:Nat):Code->Option Code
 | .block m c=>if m == n then some (.block m c) else codeB n c
 | .seq a b=>match codeB n a with
  | some c=>some c
  | none=>codeB n b
 | .cond _ a b=>match codeB n a with
  | some c=>some c
  | none=>codeB n b
 | .rangeFunc _ _ a b=>match codeB n a with
  | some c=>some c
  | none=>codeB n b
 | .loop c=>codeB n c
 | .scope c=>codeB n c
 | _=>none
noncomputable def filB (n:Nat):Code:=((Tryz.f25.body.bind (codeB n)).getD .skip)
structure ByX (e:TypeId) (g:Nat) (w w':World):Prop where
 size:w.heap.size<=w'.heap.size
 block:∀ (k:Nat) (o:Obj),k≠g->w.heap[k]?=some o->(∀ cur,o≠.cells cur e (0,0))->w'.heap[k]?=some o
theorem ByX.refl (e:TypeId) (g:Nat) (w:World):ByX e g w w:=⟨Nat.le_refl _,fun _ _ _ h _=>h⟩
theorem ByX.trans {e:TypeId} {g:Nat} {a b c:World} (h:ByX e g a b) (k:ByX e g b c):ByX e g a c:=⟨Nat.le_trans h.size k.size,fun i o hi ho hn=>k.block i o hi (h.block i o hi ho hn) hn⟩
theorem ByX.of {e:TypeId} {g:Nat} {w w':World} (h:ByF e w w'):ByX e g w w':=⟨h.size,fun k o _ ho hn=>h.block k o ho hn⟩
theorem ByX.set (e:TypeId) (g j:Nat) (u:World) (v:Value):ByX e g u (u.setCell ⟨g,j,none⟩ v):=⟨(OnlyC.set g j u v).size,fun k o hk ho _=>((OnlyC.set g j u v).block k (Array.getElem?_eq_some_iff.1 ho).1 hk).trans ho⟩
theorem ByX.cell {e:TypeId} {g:Nat} {w w':World} (h:ByX e g w w') {k j:Nat} {cur:Array Value} {t:TypeId} {f:Nat × Nat} {v:Value} (hk:k≠g) (ho:w.heap[k]?=some (.cells cur t f)) (ht:t≠e) (hc:w.cell? ⟨k,j,none⟩=some v):w'.cell? ⟨k,j,none⟩=some v:=
 (World.cell?_of_block ((h.block k _ hk ho (fun c q=>ht (by injection q))).trans ho.symm)).trans hc
theorem InsRow.byX {lo g:Nat} {w w':World} {a:Option Addr} {n:Nat} {is:List Pl.Ins} (h:InsRow lo w a n is) (hb:ByX 3 g w w') (hg:g<lo):InsRow lo w' a n is:=by
 obtain⟨h1,h2,h3⟩:=h
 refine⟨h1,h2,?_⟩
 rcases h3 with h3 | ⟨b,ha,hlo,hlt,⟨cur,t,f,t3,t5,hh⟩,hc⟩
 ·exact .inl h3
 ·have hh':=hb.block b _ (by omega) hh (fun c q=>by injection q with _ q2 _;exact t3 q2)
  exact .inr ⟨b,ha,hlo,Nat.lt_of_lt_of_le hlt hb.size,⟨cur,t,f,t3,t5,hh'⟩,fun i hi j hj=>(World.cell?_of_block (hh'.trans hh.symm)).trans (hc i hi j hj)⟩
set_option maxRecDepth 100000 in
theorem fil_loop {lo:Nat} (k g R:Nat) (jump near:Bool) (is:List Pl.Ins) (ai:Option Addr) (ni ci:Nat) (vc vd:Value) (cs ds:List Int) {c0 c1 c2 c3 c5 c8 c9 c11 c15 c16 c17 c18 c19 c20 c21 c22 c23 c24 c25 c26 c27 c28 c29 c30 c31 c32 c33 c34 c35 c36 c37 c38 c39 c40 c41 c42 c43 c44 c45 c46 c47 c48 c49 c50 c51 c52 c53 c54 c55 c56 c57 c58 c59 c60 c61 c62 c63 c64 c65 c66 c67 c68 c69 c70 c71 c72 c73 c74 c75 c76 c77 c78 c79 c80 c81 c82 c83 c84 c85 c86 c87 c88 c89 c90 c91 c92 c93 c94 c95 c96 c97 c98 c99 c100 c101 c102 c103 c104 c105 c106 c107 c108 c109 c110 c111 c112 c113 c114 c115 c116 c117 c118 c119 c120 c121 c122 c123 c124 c125 c126 c127 c128 c129 c130 c131 c132 c133 c134 c135 c136 c137 c138 c139 c140 c141 c142 c143 c144:Value} (w0 Y:World) (hF:FilS w0 Y g vc vd cs ds) (hI:InsRow lo Y ai ni is) (hR:Y.heap[R]?=some (.cells #[.slice none 0 0,.slice none 0 0,.int .i64 0,.int .i64 0] 28 (0,0))) (hRlt:R<w0.heap.size) (hgl:g<lo) (hcs:cs.length<=100000) {Q:Exit->Act->World->Prop}
  (hN:∀ (s5 s14 s15 s16 s71 s72 s73 s74 s75 s76 s77 s78 s79 s80 s81 s82 s83 s84 s85 s86 s87 s88 s89 s90 s91 s92 s93 s94 s95 s96 s97 s98 s99 s100 s101:Value) (u:World) (vc':Value),(is.any fun y=>!y.ok || (jump && !near))=false->FilS w0 u g vc' vd (cs ++ is.map ewI) ds->ByX 3 g Y u->Q .normal { tmps:=#[c0,c1,c2,c3,.pointer (some ⟨R,0,none⟩),s5,.pointer (some ⟨g,0,none⟩),.int .i64 (k:Nat),c8,c9,.bool near,c11,.slice ai ni ci,.bool jump,s14,s15,s16,c17,c18,c19,c20,c21,c22,c23,c24,c25,c26,c27,c28,c29,c30,c31,c32,c33,c34,c35,c36,c37,c38,c39,c40,c41,c42,c43,c44,c45,c46,c47,c48,c49,c50,c51,c52,c53,c54,c55,c56,c57,c58,c59,c60,c61,c62,c63,c64,c65,c66,c67,c68,c69,c70,s71,s72,s73,s74,s75,s76,s77,s78,s79,s80,s81,s82,s83,s84,s85,s86,s87,s88,s89,s90,s91,s92,s93,s94,s95,s96,s97,s98,s99,s100,s101,c102,c103,c104,c105,c106,c107,c108,c109,c110,c111,c112,c113,c114,c115,c116,c117,c118,c119,c120,c121,c122,c123,c124,c125,c126,c127,c128,c129,c130,c131,c132,c133,c134,c135,c136,c137,c138,c139,c140,c141,c142,c143,c144],defers:=[] } u)
  (hX:∀ (s14 s15 s16 s71 s72 s73 s74 s75 s76 s77 s78 s79 s80 s81 s82 s83 s84 s85 s86 s87 s88 s89 s90 s91 s92 s93 s94 s95 s96 s97 s98 s99 s100 s101:Value) (u:World) (a9:Option Addr) (n9 y9:Nat),(is.any fun y=>!y.ok || (jump && !near))=true->u.heap[R]?=some (.cells #[.slice a9 n9 y9,vd,.int .i64 0,.int .i64 0] 28 (0,0))->Below R w0 u->Q .ret { tmps:=#[c0,c1,c2,c3,.pointer (some ⟨R,0,none⟩),.int .i64 (k:Nat),.pointer (some ⟨g,0,none⟩),.int .i64 (k:Nat),c8,c9,.bool near,c11,.slice ai ni ci,.bool jump,s14,s15,s16,c17,c18,c19,c20,c21,c22,c23,c24,c25,c26,c27,c28,c29,c30,c31,c32,c33,c34,c35,c36,c37,c38,c39,c40,c41,c42,c43,c44,c45,c46,c47,c48,c49,c50,c51,c52,c53,c54,c55,c56,c57,c58,c59,c60,c61,c62,c63,c64,c65,c66,c67,c68,c69,c70,s71,s72,s73,s74,s75,s76,s77,s78,s79,s80,s81,s82,s83,s84,s85,s86,s87,s88,s89,s90,s91,s92,s93,s94,s95,s96,s97,s98,s99,s100,s101,c102,c103,c104,c105,c106,c107,c108,c109,c110,c111,c112,c113,c114,c115,c116,c117,c118,c119,c120,c121,c122,c123,c124,c125,c126,c127,c128,c129,c130,c131,c132,c133,c134,c135,c136,c137,c138,c139,c140,c141,c142,c143,c144],defers:=[] } u) :
  (filB 2).wp Tryz.prog Q { tmps:=#[c0,c1,c2,c3,.pointer (some ⟨R,0,none⟩),c5,.pointer (some ⟨g,0,none⟩),.int .i64 (k:Nat),c8,c9,.bool near,c11,.slice ai ni ci,.bool jump,.int .i64 0,c15,c16,c17,c18,c19,c20,c21,c22,c23,c24,c25,c26,c27,c28,c29,c30,c31,c32,c33,c34,c35,c36,c37,c38,c39,c40,c41,c42,c43,c44,c45,c46,c47,c48,c49,c50,c51,c52,c53,c54,c55,c56,c57,c58,c59,c60,c61,c62,c63,c64,c65,c66,c67,c68,c69,c70,c71,c72,c73,c74,c75,c76,c77,c78,c79,c80,c81,c82,c83,c84,c85,c86,c87,c88,c89,c90,c91,c92,c93,c94,c95,c96,c97,c98,c99,c100,c101,c102,c103,c104,c105,c106,c107,c108,c109,c110,c111,c112,c113,c114,c115,c116,c117,c118,c119,c120,c121,c122,c123,c124,c125,c126,c127,c128,c129,c130,c131,c132,c133,c134,c135,c136,c137,c138,c139,c140,c141,c142,c143,c144],defers:=[] } Y:=by
 obtain⟨a6,y6,hv6⟩:=own_slice hF.od
 subst hv6
 have HNt:Hid (∀ (s5 s14 s15 s16 s71 s72 s73 s74 s75 s76 s77 s78 s79 s80 s81 s82 s83 s84 s85 s86 s87 s88 s89 s90 s91 s92 s93 s94 s95 s96 s97 s98 s99 s100 s101:Value) (u:World) (vc':Value),(is.any fun y=>!y.ok || (jump && !near))=false->FilS w0 u g vc' (.slice a6 ds.length y6) (cs ++ is.map ewI) ds->ByX 3 g Y u->Q .normal { tmps:=#[c0,c1,c2,c3,.pointer (some ⟨R,0,none⟩),s5,.pointer (some ⟨g,0,none⟩),.int .i64 (k:Nat),c8,c9,.bool near,c11,.slice ai ni ci,.bool jump,s14,s15,s16,c17,c18,c19,c20,c21,c22,c23,c24,c25,c26,c27,c28,c29,c30,c31,c32,c33,c34,c35,c36,c37,c38,c39,c40,c41,c42,c43,c44,c45,c46,c47,c48,c49,c50,c51,c52,c53,c54,c55,c56,c57,c58,c59,c60,c61,c62,c63,c64,c65,c66,c67,c68,c69,c70,s71,s72,s73,s74,s75,s76,s77,s78,s79,s80,s81,s82,s83,s84,s85,s86,s87,s88,s89,s90,s91,s92,s93,s94,s95,s96,s97,s98,s99,s100,s101,c102,c103,c104,c105,c106,c107,c108,c109,c110,c111,c112,c113,c114,c115,c116,c117,c118,c119,c120,c121,c122,c123,c124,c125,c126,c127,c128,c129,c130,c131,c132,c133,c134,c135,c136,c137,c138,c139,c140,c141,c142,c143,c144],defers:=[] } u):=hN
 have HXt:Hid (∀ (s14 s15 s16 s71 s72 s73 s74 s75 s76 s77 s78 s79 s80 s81 s82 s83 s84 s85 s86 s87 s88 s89 s90 s91 s92 s93 s94 s95 s96 s97 s98 s99 s100 s101:Value) (u:World) (a9:Option Addr) (n9 y9:Nat),(is.any fun y=>!y.ok || (jump && !near))=true->u.heap[R]?=some (.cells #[.slice a9 n9 y9,.slice a6 ds.length y6,.int .i64 0,.int .i64 0] 28 (0,0))->Below R w0 u->Q .ret { tmps:=#[c0,c1,c2,c3,.pointer (some ⟨R,0,none⟩),.int .i64 (k:Nat),.pointer (some ⟨g,0,none⟩),.int .i64 (k:Nat),c8,c9,.bool near,c11,.slice ai ni ci,.bool jump,s14,s15,s16,c17,c18,c19,c20,c21,c22,c23,c24,c25,c26,c27,c28,c29,c30,c31,c32,c33,c34,c35,c36,c37,c38,c39,c40,c41,c42,c43,c44,c45,c46,c47,c48,c49,c50,c51,c52,c53,c54,c55,c56,c57,c58,c59,c60,c61,c62,c63,c64,c65,c66,c67,c68,c69,c70,s71,s72,s73,s74,s75,s76,s77,s78,s79,s80,s81,s82,s83,s84,s85,s86,s87,s88,s89,s90,s91,s92,s93,s94,s95,s96,s97,s98,s99,s100,s101,c102,c103,c104,c105,c106,c107,c108,c109,c110,c111,c112,c113,c114,c115,c116,c117,c118,c119,c120,c121,c122,c123,c124,c125,c126,c127,c128,c129,c130,c131,c132,c133,c134,c135,c136,c137,c138,c139,c140,c141,c142,c143,c144],defers:=[] } u):=hX
 have HF:Hid (FilS w0 Y g vc (.slice a6 ds.length y6) cs ds):=hF
 have HI:Hid (InsRow lo Y ai ni is):=hI
 have HR:Hid (Y.heap[R]?=some (.cells #[.slice none 0 0,.slice none 0 0,.int .i64 0,.int .i64 0] 28 (0,0))):=hR
 have hni:ni<=2:=hI.2.1
 have hnl:is.length=ni:=hI.1
 have HNL:Hid (is.length=ni):=hnl
 obtain⟨i0,hi0,hz0,hz1,hz2⟩:=info_parts infoint
 clear hN hX hF hI hR hnl
 conv=>arg 2;whnf
 dsimp only
 go_wp2_with fail
 go_loopw [14] (fun i wr=>∃ j:Nat,j<=ni/\i=.int .i64 (j:Nat)/\(∀ i,i<j->(!(is.getD i Pl.Ins.zero).ok || (jump && !near))=false)/\∃ vc',FilS w0 wr g vc' (.slice a6 ds.length y6) (cs ++ (is.take j).map ewI) ds/\ByX 3 g Y wr) (fun i _=>ni-(intOf i).toNat)
 case atStart=>exact⟨0,Nat.zero_le _,rfl,fun i hi=>absurd hi (Nat.not_lt_zero _),vc,by simpa using HF.out,ByX.refl _ _ _⟩
 case round=>
  obtain⟨j,hj,rfl,hall,vc',hs,hb⟩:=hrel
  have HA:Hid (∀ i,i<j->(!(is.getD i Pl.Ins.zero).ok || (jump && !near))=false):=hall
  have HB:Hid (ByX 3 g Y wr):=hb
  have HRr:Hid (wr.heap[R]?=some (.cells #[.slice none 0 0,.slice none 0 0,.int .i64 0,.int .i64 0] 28 (0,0))):=hb.block R _ (by have:=hs.hg;omega) HR.out (fun c q=>by injection q with _ q2 _;exact absurd q2 (by decide))
  have hRs:R<wr.heap.size:=(Array.getElem?_eq_some_iff.1 HRr.out).1
  have HII:Hid (InsRow lo wr ai ni is):=HI.out.byX hb hgl
  obtain⟨a5,y5,hv5⟩:=own_slice hs.oc
  subst hv5
  have hRg:R≠g:=by have:=hs.hg;omega
  have HCl:Hid ((cs ++ (is.take j).map ewI).length<=100000+2):=by show _<=_;rw[List.length_append,List.length_map,List.length_take];omega
  have HT1:Hid (j<ni->cs ++ (is.take (j+1)).map ewI=(cs ++ (is.take j).map ewI) ++ [ewI (is.getD j Pl.Ins.zero)]):=fun q=>by
   rw[List.take_add_one,List.map_append,List.append_assoc]
   rw[List.getD_eq_getElem?_getD,List.getElem?_eq_getElem (by rw[HNL.out];exact q)]
   rfl
  by_cases hlt:j<ni
  ·have hi:(j:Int)<(ni:Int):=by omega
   have HT1:Hid (cs ++ (is.take (j+1)).map ewI=(cs ++ (is.take j).map ewI) ++ [ewI (is.getD j Pl.Ins.zero)]):=HT1.out hlt
   obtain⟨b,hai,hlo,hblt,_,hc⟩:=HII.out.2.2.resolve_left (by omega)
   have d0:=hc j hlt 0 (by decide);have d1:=hc j hlt 1 (by decide);have d2:=hc j hlt 2 (by decide);have d3:=hc j hlt 3 (by decide);have d4:=hc j hlt 4 (by decide)
   have HYM:Hid (is.getD j Pl.Ins.zero∈is):=by show _∈_;rw[List.getD_eq_getElem?_getD,List.getElem?_eq_getElem (by rw[HNL.out];exact hlt)];exact List.getElem_mem _
   clear hc
   subst hai
   generalize hC:cs ++ (is.take j).map ewI=C at *
   clear hC
   have HS:Hid (FilS w0 wr g (.slice a5 C.length y5) (.slice a6 ds.length y6) C ds):=hs
   have hcl:C.length<=100002:=HCl.out
   generalize hyy:is.getD j Pl.Ins.zero=y at *
   have HYG:Hid (is.getD j Pl.Ins.zero=y):=hyy
   have HY:Hid (y∈is):=HYM.out
   clear hyy hs hall hb
   simp only[Pl.Ins.cells,Nat.add_zero,List.getElem?_toArray,List.getElem?_cons_zero,List.getElem?_cons_succ]at d0 d1 d2 d3 d4
   have HE:Hid (∀ u:World,Calls Tryz.prog 68 #[.agg #[.int .i64 y.op,.int .i64 y.rd,.int .i64 y.r1,.int .i64 y.r2,.int .i64 y.im]] u fun e w'=>e=.returned (.tuple #[.int .i64 (ewI y),.bool y.ok])/\Below u.heap.size u w'):=fun u=>specEncI y u
   cases hok:y.ok
   ·have HOK:Hid (y.ok=false):=hok
    rw[hok]at HE
    clear hok
    go_wp2_with (go_at_call 68;refine (HE.out _).mono ?_;rintro e u1 ⟨rfl,d1⟩; have HS2:Hid (FilS w0 u1 g (.slice a5 C.length y5) (.slice a6 ds.length y6) C ds):=HS.out.keep d1;have m0:=HS2.out.c0;have m1:=HS2.out.c1;have m2:=HS2.out.c2;have m3:=HS2.out.c3;have HD:Hid (Below wr.heap.size wr u1):=d1;have r0:=cell_of_row _ _ 0 _ 28 (0,0) ((d1.block R hRs).trans HRr.out);have r1:=cell_of_row _ _ 1 _ 28 (0,0) ((d1.block R hRs).trans HRr.out);have r2:=cell_of_row _ _ 2 _ 28 (0,0) ((d1.block R hRs).trans HRr.out);have r3:=cell_of_row _ _ 3 _ 28 (0,0) ((d1.block R hRs).trans HRr.out);have rf:∀ j,u1.frozen? ⟨R,j,none⟩=false:=(fun j=>frozen_of_row _ _ j _ 28 ((d1.block R hRs).trans HRr.out));have HRu:Hid (u1.heap[R]?=some (.cells #[.slice none 0 0,.slice none 0 0,.int .i64 0,.int .i64 0] 28 (0,0))):=(d1.block R hRs).trans HRr.out;clear d1)
    refine HXt.out _ _ _ _ _ _ _ _ _ _ _ _ _ _ _ _ _ _ _ _ _ _ _ _ _ _ _ _ _ _ _ _ _ _ _ a5 C.length y5 ?_ (row4L HRu.out) ?_
    ·rw[List.any_eq_true]
     exact⟨y,HY.out,by rw[HOK.out];simp⟩
    ·refine Below.setCell (Below.setCell (Below.setCell (Below.setCell ?_ (p:=⟨R,0,none⟩) (Nat.le_refl _) _) (p:=⟨R,1,none⟩) (Nat.le_refl _) _) (p:=⟨R,2,none⟩) (Nat.le_refl _) _) (p:=⟨R,3,none⟩) (Nat.le_refl _) _
     exact HS2.out.bel.mono (show R<=w0.heap.size by omega)
   ·have HOK:Hid (y.ok=true):=hok
    rw[hok]at HE
    clear hok
    cases jump
    ·go_wp2_with (first | (at_builtin;refine wpList_append_own _ rfl (.tmp 97) (.tmp 99) 26 rfl w0.heap.size 3 i0 (.int .i64 0) 1 8 Tryz.underlying26 hi0 hz0 hz1 hz2 rfl (by decide) (.slice a5 C.length y5) C.length (Pl.ics C) rfl (HS2.out.oc.alloc _) ⟨u1.heap.size,0,none⟩ 1 1 [.int .i64 (ewI y)] rfl rfl (news1 _ _ _ (by simp)) (by intro u hu;simp at hu;subst hu;rfl) (by unfold maxLen;omega) (by omega) (by have:=HS2.out.size;simp;omega) ?_;intro v' u2 hown1 hgr1 _;obtain⟨a8,y8,hv8⟩:=own_slice hown1;subst hv8;have hby:ByF 3 u1 u2:=(ByF.below (below_alloc u1 _)).trans (ByF.grown (HS2.out.oc.alloc _) hgr1);have hbe:Below w0.heap.size u1 u2:=Below.grown (Below.alloc (Below.refl _ _) HS2.out.size _) hgr1 (by have:=HS2.out.size;simp;omega) (fun k hk=>(HS2.out.oc.lt k hk).1);have HG:Hid (FilS w0 (u2.setCell ⟨g,0,none⟩ (.slice a8 (C.length+1) y8)) g (.slice a8 (C.length+1) y8) (.slice a6 ds.length y6) (C ++ [ewI y]) ds/\ByF 3 u1 u2):=⟨HS2.out.appC (by rw[Pl.ics_app,List.length_append];exact hown1) hby hbe,hby⟩; have hrow:u2.heap[g]?=some (.cells #[.slice a5 C.length y5,.slice a6 ds.length y6,.int .i64 0,.int .i64 0] 28 (0,0)):=hby.block g _ HS2.out.row (fun c q=>by injection q with _ q2 _;exact absurd q2 (by decide));have y1:u2.cell? ⟨g,0,none⟩=some (.slice a5 C.length y5):=cell_of_row _ _ 0 _ 28 (0,0) hrow;have y2:u2.frozen? ⟨g,0,none⟩=false:=frozen_of_row _ _ 0 _ 28 hrow;clear hown1 hgr1 hby hbe hrow) | (go_at_call 68;refine (HE.out _).mono ?_;rintro e u1 ⟨rfl,d1⟩; have HS2:Hid (FilS w0 u1 g (.slice a5 C.length y5) (.slice a6 ds.length y6) C ds):=HS.out.keep d1;have m0:=HS2.out.c0;have m1:=HS2.out.c1;have m2:=HS2.out.c2;have m3:=HS2.out.c3;have HD:Hid (Below wr.heap.size wr u1):=d1;have r0:=cell_of_row _ _ 0 _ 28 (0,0) ((d1.block R hRs).trans HRr.out);have r1:=cell_of_row _ _ 1 _ 28 (0,0) ((d1.block R hRs).trans HRr.out);have r2:=cell_of_row _ _ 2 _ 28 (0,0) ((d1.block R hRs).trans HRr.out);have r3:=cell_of_row _ _ 3 _ 28 (0,0) ((d1.block R hRs).trans HRr.out);have rf:∀ j,u1.frozen? ⟨R,j,none⟩=false:=(fun j=>frozen_of_row _ _ j _ 28 ((d1.block R hRs).trans HRr.out));have HRu:Hid (u1.heap[R]?=some (.cells #[.slice none 0 0,.slice none 0 0,.int .i64 0,.int .i64 0] 28 (0,0))):=(d1.block R hRs).trans HRr.out;clear d1))
     obtain⟨hg1,hg2⟩:=HG.out
     refine⟨⟨j+1,by omega,by go_num,?_,.slice a8 (C.length+1) y8,?_,?_⟩,by simp[intOf];omega⟩
     ·intro i hi
      rcases Nat.lt_or_ge i j with q | q
      ·exact HA.out i q
      ·have:i=j:=by omega
       rw[this,HYG.out,HOK.out];rfl
     ·rw[HT1.out];exact hg1
     ·exact HB.out.trans ((ByX.of (ByF.below HD.out)).trans ((ByX.of hg2).trans (ByX.set _ _ _ _ _)))
    ·cases near
     ·go_wp2_with (go_at_call 68;refine (HE.out _).mono ?_;rintro e u1 ⟨rfl,d1⟩; have HS2:Hid (FilS w0 u1 g (.slice a5 C.length y5) (.slice a6 ds.length y6) C ds):=HS.out.keep d1;have m0:=HS2.out.c0;have m1:=HS2.out.c1;have m2:=HS2.out.c2;have m3:=HS2.out.c3;have HD:Hid (Below wr.heap.size wr u1):=d1;have r0:=cell_of_row _ _ 0 _ 28 (0,0) ((d1.block R hRs).trans HRr.out);have r1:=cell_of_row _ _ 1 _ 28 (0,0) ((d1.block R hRs).trans HRr.out);have r2:=cell_of_row _ _ 2 _ 28 (0,0) ((d1.block R hRs).trans HRr.out);have r3:=cell_of_row _ _ 3 _ 28 (0,0) ((d1.block R hRs).trans HRr.out);have rf:∀ j,u1.frozen? ⟨R,j,none⟩=false:=(fun j=>frozen_of_row _ _ j _ 28 ((d1.block R hRs).trans HRr.out));have HRu:Hid (u1.heap[R]?=some (.cells #[.slice none 0 0,.slice none 0 0,.int .i64 0,.int .i64 0] 28 (0,0))):=(d1.block R hRs).trans HRr.out;clear d1)
      refine HXt.out _ _ _ _ _ _ _ _ _ _ _ _ _ _ _ _ _ _ _ _ _ _ _ _ _ _ _ _ _ _ _ _ _ _ _ a5 C.length y5 ?_ (row4L HRu.out) ?_
      ·rw[List.any_eq_true]
       exact⟨y,HY.out,by rw[HOK.out];simp⟩
      ·refine Below.setCell (Below.setCell (Below.setCell (Below.setCell ?_ (p:=⟨R,0,none⟩) (Nat.le_refl _) _) (p:=⟨R,1,none⟩) (Nat.le_refl _) _) (p:=⟨R,2,none⟩) (Nat.le_refl _) _) (p:=⟨R,3,none⟩) (Nat.le_refl _) _
       exact HS2.out.bel.mono (show R<=w0.heap.size by omega)
     ·go_wp2_with (first | (at_builtin;refine wpList_append_own _ rfl (.tmp 97) (.tmp 99) 26 rfl w0.heap.size 3 i0 (.int .i64 0) 1 8 Tryz.underlying26 hi0 hz0 hz1 hz2 rfl (by decide) (.slice a5 C.length y5) C.length (Pl.ics C) rfl (HS2.out.oc.alloc _) ⟨u1.heap.size,0,none⟩ 1 1 [.int .i64 (ewI y)] rfl rfl (news1 _ _ _ (by simp)) (by intro u hu;simp at hu;subst hu;rfl) (by unfold maxLen;omega) (by omega) (by have:=HS2.out.size;simp;omega) ?_;intro v' u2 hown1 hgr1 _;obtain⟨a8,y8,hv8⟩:=own_slice hown1;subst hv8;have hby:ByF 3 u1 u2:=(ByF.below (below_alloc u1 _)).trans (ByF.grown (HS2.out.oc.alloc _) hgr1);have hbe:Below w0.heap.size u1 u2:=Below.grown (Below.alloc (Below.refl _ _) HS2.out.size _) hgr1 (by have:=HS2.out.size;simp;omega) (fun k hk=>(HS2.out.oc.lt k hk).1);have HG:Hid (FilS w0 (u2.setCell ⟨g,0,none⟩ (.slice a8 (C.length+1) y8)) g (.slice a8 (C.length+1) y8) (.slice a6 ds.length y6) (C ++ [ewI y]) ds/\ByF 3 u1 u2):=⟨HS2.out.appC (by rw[Pl.ics_app,List.length_append];exact hown1) hby hbe,hby⟩; have hrow:u2.heap[g]?=some (.cells #[.slice a5 C.length y5,.slice a6 ds.length y6,.int .i64 0,.int .i64 0] 28 (0,0)):=hby.block g _ HS2.out.row (fun c q=>by injection q with _ q2 _;exact absurd q2 (by decide));have y1:u2.cell? ⟨g,0,none⟩=some (.slice a5 C.length y5):=cell_of_row _ _ 0 _ 28 (0,0) hrow;have y2:u2.frozen? ⟨g,0,none⟩=false:=frozen_of_row _ _ 0 _ 28 hrow;clear hown1 hgr1 hby hbe hrow) | (go_at_call 68;refine (HE.out _).mono ?_;rintro e u1 ⟨rfl,d1⟩; have HS2:Hid (FilS w0 u1 g (.slice a5 C.length y5) (.slice a6 ds.length y6) C ds):=HS.out.keep d1;have m0:=HS2.out.c0;have m1:=HS2.out.c1;have m2:=HS2.out.c2;have m3:=HS2.out.c3;have HD:Hid (Below wr.heap.size wr u1):=d1;have r0:=cell_of_row _ _ 0 _ 28 (0,0) ((d1.block R hRs).trans HRr.out);have r1:=cell_of_row _ _ 1 _ 28 (0,0) ((d1.block R hRs).trans HRr.out);have r2:=cell_of_row _ _ 2 _ 28 (0,0) ((d1.block R hRs).trans HRr.out);have r3:=cell_of_row _ _ 3 _ 28 (0,0) ((d1.block R hRs).trans HRr.out);have rf:∀ j,u1.frozen? ⟨R,j,none⟩=false:=(fun j=>frozen_of_row _ _ j _ 28 ((d1.block R hRs).trans HRr.out));have HRu:Hid (u1.heap[R]?=some (.cells #[.slice none 0 0,.slice none 0 0,.int .i64 0,.int .i64 0] 28 (0,0))):=(d1.block R hRs).trans HRr.out;clear d1))
      obtain⟨hg1,hg2⟩:=HG.out
      refine⟨⟨j+1,by omega,by go_num,?_,.slice a8 (C.length+1) y8,?_,?_⟩,by simp[intOf];omega⟩
      ·intro i hi
       rcases Nat.lt_or_ge i j with q | q
       ·exact HA.out i q
       ·have:i=j:=by omega
        rw[this,HYG.out,HOK.out];rfl
      ·rw[HT1.out];exact hg1
      ·exact HB.out.trans ((ByX.of (ByF.below HD.out)).trans ((ByX.of hg2).trans (ByX.set _ _ _ _ _)))
  ·have hjj:j=ni:=by omega
   have hi:¬ ((j:Int)<(ni:Int)):=by omega
   have HJ:Hid (j=ni):=hjj
   have HS:Hid (FilS w0 wr g (.slice a5 (cs ++ (is.take j).map ewI).length y5) (.slice a6 ds.length y6) (cs ++ (is.take j).map ewI) ds):=hs
   clear hs hall hb hjj
   go_wp2
   refine HNt.out _ _ _ _ _ _ _ _ _ _ _ _ _ _ _ _ _ _ _ _ _ _ _ _ _ _ _ _ _ _ _ _ _ _ _ _ (.slice a5 (cs ++ (is.take j).map ewI).length y5) ?_ ?_ HB.out
   ·rw[List.any_eq_false]
    intro y hy
    obtain⟨i,hi2,rfl⟩:=List.mem_iff_getElem.1 hy
    have hq:=HA.out i (by rw[HJ.out,<- HNL.out];exact hi2)
    rw[List.getD_eq_getElem?_getD,List.getElem?_eq_getElem hi2]at hq
    simpa using hq
   ·have hs:=HS.out
    rw[HJ.out,<- HNL.out,List.take_length]at hs ⊢
    exact hs
def DatA (w0:World) (D:List Int) (u1:World) (a2:Option Addr) (y2:Nat) (u2:World):Prop:=
 u2.ownsRow w0.heap.size 5 1 (.slice a2 D.length y2) D.length (Pl.bcs D)/\Below w0.heap.size u1 u2/\ByF 5 u1 u2
variable {w0 u u1 u2:World} {g:Nat} {vc:Value} {a0 a2:Option Addr} {n0 y0 y2:Nat} {cs ds:List Int}
theorem put_A (h:FilS w0 u1 g vc (.slice a0 n0 y0) cs ds) (v:Int) (m:Nat) (hv:0<=v/\v<=4611686018427387904) (hm:m<=4) (hl:ds.length<=4294967296):Calls Tryz.prog 69 #[.slice a0 n0 y0,.int .i64 v,.int .i64 m] u1 fun e w'=>∃ a2 y2,e=.returned (.slice a2 (ds ++ Pl.bys v m).length y2)/\DatA w0 (ds ++ Pl.bys v m) u1 a2 y2 w':=by
 refine (l4Put_is w0.heap.size _ ds v m u1 h.size h.od hv hm hl).mono ?_
 rintro e w' ⟨vb,rfl,ho,hb,hy⟩
 obtain⟨a2,y2,rfl⟩:=own_slice ho
 exact⟨a2,y2,rfl,ho,hb,hy⟩
theorem put_no (h:FilS w0 u1 g vc (.slice a0 n0 y0) cs ds) (v:Int):Calls Tryz.prog 69 #[.slice a0 n0 y0,.int .i64 v,.int .i64 0] u1 fun e w'=>∃ a2 y2,e=.returned (.slice a2 ds.length y2)/\DatA w0 ds u1 a2 y2 w':=by
 obtain⟨a2,y2,hv⟩:=own_slice h.od
 rw[hv]
 refine (l4Put_none _ v u1).mono ?_
 rintro e w' ⟨rfl,rfl⟩
 refine⟨a2,y2,rfl,?_,Below.refl _ _,ByF.refl _ _⟩
 rw[<- hv];exact h.od
theorem infobyte:(Tryz.prog.info? 5).map (fun i=>(i.zero,i.size,i.bytes))=some (some (.int .u8 0),1,1):=by kernel_rfl
theorem zer_A (h:FilS w0 u1 g vc (.slice a0 n0 y0) cs ds) (m:Nat) (hl:ds.length+m<=70368744177664):∃ a2 y2 u2,(Builtin.append_ #[22,3] 22 #[.slice a0 n0 y0,.int .i64 m]).run Tryz.prog u1=.ok (.slice a2 (ds ++ List.replicate m 0).length y2) u2/\DatA w0 (ds ++ List.replicate m 0) u1 a2 y2 u2:=by
 obtain⟨i0,hi0,hz0,hz1,hz2⟩:=info_parts infobyte
 obtain⟨v',w',hr,ho,hg⟩:=run_append_zeros (P:=Tryz.prog) u1 w0.heap.size 22 3 22 5 i0 .i64 .i64 Tryz.underlying22 Tryz.underlying3 hi0 hz0 hz1 hz2 _ ds h.od m hl h.size
 obtain⟨a2,y2,rfl⟩:=own_slice ho
 exact⟨a2,y2,w',hr,ho,Below.grown (Below.refl _ _) hg h.size (fun k hk=>(h.od.lt k hk).1),ByF.grown h.od hg⟩
theorem DatA.old (h:FilS w0 u g vc (.slice a0 n0 y0) cs ds) {D:List Int} (hb:Below u.heap.size u u1) (hd:DatA w0 D u1 a2 y2 u2):u2.cell? ⟨g,1,none⟩=some (.slice a0 n0 y0)/\u2.frozen? ⟨g,1,none⟩=false:=by
 have hr:=hd.2.2.block g _ (h.keep hb).row (fun c q=>by injection q with _ q2 _;exact absurd q2 (by decide))
 exact⟨cell_of_row _ _ 1 _ 28 (0,0) hr,frozen_of_row _ _ 1 _ 28 hr⟩
theorem DatA.fin (h:FilS w0 u g vc (.slice a0 n0 y0) cs ds) {D:List Int} (hb:Below u.heap.size u u1) (hd:DatA w0 D u1 a2 y2 u2):FilS w0 (u2.setCell ⟨g,1,none⟩ (.slice a2 D.length y2)) g vc (.slice a2 D.length y2) cs D:=
 (h.keep hb).appD hd.1 hd.2.2 hd.2.1
theorem size_nil {s:ByteArray} (h:s.size=0):s=⟨#[]⟩:=by
 obtain⟨⟨l⟩⟩:=s
 have:l=[]:=List.eq_nil_of_length_eq_zero h
 rw[this]
end Go.Proofs.YtlbomnnldkeocaaGreat.W
namespace Go.Proofs.YtlbomnnldkeocaaGreat.Pl
theorem dat_text (xs:List Ln) (k:Nat) (h:(gl xs k).k<12):dat xs k=[]:=by
 unfold dat isD
 rw[if_neg (by omega),if_neg (by simp;omega)]
theorem dat_num (xs:List Ln) (k:Nat) (h:(gl xs k).k=12\/(gl xs k).k=13\/(gl xs k).k=14) (hs:(gl xs k).s=⟨#[]⟩):dat xs k=bys (gl xs k).n (dsz (gl xs k) 0).toNat:=by
 unfold dat isD valL
 rw[if_neg (by omega),if_pos (by simp;omega),if_pos hs]
 congr 2
 unfold dsz
 rcases h with h | h | h <;> simp[h]
theorem dat_sym (xs:List Ln) (k:Nat) (h:(gl xs k).k=14) (hs:¬ (gl xs k).s=⟨#[]⟩):dat xs k=bys (wd (adr xs (gl xs k).s+(gl xs k).n)) 4:=by
 unfold dat isD valL
 rw[if_neg (by omega),if_pos (by simp;omega),if_neg hs]
 congr 1
 unfold dsz
 simp[h]
theorem dat_zero (xs:List Ln) (k:Nat) (h:(gl xs k).k=15\/(gl xs k).k=16):dat xs k=List.replicate (dsz (gl xs k) (cu xs k).b).toNat 0:=by
 unfold dat;rw[if_pos h]
theorem wd_rng (v:Int):0<=wd v/\wd v<=4294967295:=wd_bd v
end Go.Proofs.YtlbomnnldkeocaaGreat.Pl
