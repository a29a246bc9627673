import Derived.Test.YtlbomnnldkeocaaGreatA40
set_option linter.unusedVariables false
set_option linter.unusedSimpArgs false
set_option maxHeartbeats 16000000
namespace Go.Proofs.YtlbomnnldkeocaaGreat.W
open Go.RowKit Go.Shelf Go.Maps Go.WideMaps Go.Sort
section
variable {w0 u u1 u2:World} {g:Nat} {en sk:Int} {vc:Value} {a0 a2 a3:Option Addr} {n0 y0 n2 y2 y3:Nat} {cs ds:List Int}
theorem app_A (h:ImS w0 u1 g en sk vc (.slice a0 n0 y0) cs ds) {lo:Nat} {vs:List Int} (hr:ByR lo u1 a2 n2 vs) (hl:ds.length<=4294967296) (hv:vs.length<=65536):∃ a3 y3 u2,(Builtin.append_ #[22,22] 22 #[.slice a0 n0 y0,.slice a2 n2 y2]).run Tryz.prog u1=.ok (.slice a3 (ds ++ vs).length y3) u2/\DatA w0 (ds ++ vs) u1 a3 y3 u2:=by
 obtain⟨i0,hi0,hz0,hz1,hz2⟩:=info_parts infobyte
 obtain⟨hn,b,rfl,hlo,hrow⟩:=hr
 obtain⟨v',w',hr,ho,hg,_⟩:=run_append_own (P:=Tryz.prog) u1 w0.heap.size 22 22 5 i0 _ 1 1 Tryz.underlying22 hi0 hz0 hz1 hz2 rfl (by decide) _ ds.length (Pl.bcs ds) h.od ⟨b,0,none⟩ n2 y2 (Pl.bcs vs) (by rw[Pl.bcs_len,hn,Nat.mul_one])
  (fun j x hj=>by
   have:=cell_of_row u1 b j _ _ _ hrow
   rw[List.getElem?_toArray]at this
   rw[show (⟨b,0,none⟩:Addr).add j=⟨b,j,none⟩ from by simp[Addr.add];exact fun e=>e.symm,this]
   exact hj)
  (fun x hx=>by
   obtain⟨z,_,rfl⟩:=List.mem_map.1 hx
   rfl) (by unfold maxLen;omega) (by omega) h.size
 rw[show ds.length+n2=(ds ++ vs).length by rw[List.length_append,hn],<- Pl.bcs_app]at ho
 obtain⟨a3,y3,rfl⟩:=own_slice ho
 exact⟨a3,y3,w',hr,ho,Below.grown (Below.refl _ _) hg h.size (fun k hk=>(h.od.lt k hk).1),ByF.grown h.od hg⟩
theorem DatA.oldI (h:ImS w0 u g en sk vc (.slice a0 n0 y0) cs ds) {D:List Int} (hb:Below u.heap.size u u1) (hd:DatA w0 D u1 a2 y2 u2):u2.cell? ⟨g,1,none⟩=some (.slice a0 n0 y0)/\u2.frozen? ⟨g,1,none⟩=false:=by
 have hr:=hd.2.2.block g _ (h.keep hb).row (fun c q=>by injection q with _ q2 _;exact absurd q2 (by decide))
 exact⟨cell_of_row _ _ 1 _ 28 (0,0) hr,frozen_of_row _ _ 1 _ 28 hr⟩
theorem DatA.finI (h:ImS w0 u g en sk vc (.slice a0 n0 y0) cs ds) {D:List Int} (hb:Below u.heap.size u u1) (hd:DatA w0 D u1 a2 y2 u2):ImS w0 (u2.setCell ⟨g,1,none⟩ (.slice a2 D.length y2)) g en sk vc (.slice a2 D.length y2) cs D:=
 (h.keep hb).appD hd.1 hd.2.2 hd.2.1
end
def img14Mk (ga h3 h4 h6 M:Nat) (x:Pl.Ln) (b:Int) (vs:List Int) (a0:Option Addr) (n0 y0:Nat) (A:World->Option Addr->Nat->World->Prop)  (c1 c2 c5 c7 c8 c9 c10 c11 c12 c13 c14 c15 c16 c17 c18 c19 c20 c21 c22 c23 c24 c25 c26 c27 c28 c29 c30 c31 c32 c33 c34 c35 c36 c37 c38 c39 c40 c41 c42 c43 c44 c45 c46 c47 c48 c49 c50 c51 c52 c53 c54 c55 c56 c57 c58 c59 c60 c61 c62 c72 c73 c74 c75 d63 d64 d65 d66 d67 d68 d69 d70 d71:Value) (a2:Option Addr) (n2 y2:Nat) (a3:Option Addr) (y3:Nat) (L:Array Bool):Act:={ tmps:=#[.pointer (some ⟨ga,0,none⟩),c1,c2,.pointer (some ⟨h3,0,none⟩),.pointer (some ⟨h4,0,none⟩),c5,.pointer (some ⟨h6,0,none⟩),c7,c8,c9,c10,c11,c12,c13,c14,c15,c16,c17,c18,c19,c20,c21,c22,c23,c24,c25,c26,c27,c28,c29,c30,c31,c32,c33,c34,c35,c36,c37,c38,c39,c40,c41,c42,c43,c44,c45,c46,c47,c48,c49,c50,c51,c52,c53,c54,c55,c56,c57,c58,c59,c60,c61,c62,sld d63 L 0 (.pointer (some ⟨h3,1,none⟩)),sld d64 L 1 (.slice a0 n0 y0),sld d65 L 2 (.pointer (some ⟨ga,0,none⟩)),sld d66 L 3 (.agg #[.int .i64 x.k,.int .i64 x.op,.int .i64 x.rd,.int .i64 x.r1,.int .i64 x.r2,.int .i64 x.im,.string x.s,.int .i64 x.n]),sld d67 L 4 (.pointer (some ⟨h4,2,none⟩)),sld d68 L 5 (.int .i64 b),sld d69 L 6 (.slice a2 n2 y2),sld d70 L 7 (.slice a3 M y3),sld d71 L 8 (.pointer (some ⟨h3,1,none⟩)),c72,c73,c74,c75],defers:=[] }
set_option maxRecDepth 100000 in
theorem img14 (ga h3 h4 h6 M:Nat) (x:Pl.Ln) (b:Int) (vs:List Int) (a0:Option Addr) (n0 y0:Nat) (A:World->Option Addr->Nat->World->Prop) {c1 c2 c5 c7 c8 c9 c10 c11 c12 c13 c14 c15 c16 c17 c18 c19 c20 c21 c22 c23 c24 c25 c26 c27 c28 c29 c30 c31 c32 c33 c34 c35 c36 c37 c38 c39 c40 c41 c42 c43 c44 c45 c46 c47 c48 c49 c50 c51 c52 c53 c54 c55 c56 c57 c58 c59 c60 c61 c62 c72 c73 c74 c75 d63 d64 d65 d66 d67 d68 d69 d70 d71:Value} (Y:World) (ho:Y.cell? ⟨h3,1,none⟩=some (.slice a0 n0 y0)) (r6:Y.heap[h6]?=some (.cells #[.int .i64 x.k,.int .i64 x.op,.int .i64 x.rd,.int .i64 x.r1,.int .i64 x.r2,.int .i64 x.im,.string x.s,.int .i64 x.n] 51 (0,0))) (hb:Y.cell? ⟨h4,2,none⟩=some (.int .i64 b)) (hBT:BytI x b vs ga Y.drew) (hT:∀ u1 a2 n2 y2,Below Y.drew.heap.size Y.drew u1->ByR Y.drew.heap.size u1 a2 n2 vs->∃ a3 y3 u2,(Builtin.append_ #[22,22] 22 #[.slice a0 n0 y0,.slice a2 n2 y2]).run Tryz.prog u1=.ok (.slice a3 M y3) u2/\A u1 a3 y3 u2) (hA:∀ u1 a3 y3 u,Below Y.drew.heap.size Y.drew u1->A u1 a3 y3 u->u.cell? ⟨h3,1,none⟩=some (.slice a0 n0 y0)/\u.frozen? ⟨h3,1,none⟩=false) {Q:Exit->Act->World->Prop}
  (hK:∀ (a2:Option Addr) (n2 y2:Nat) (a3:Option Addr) (y3:Nat) (w1 w2:World),Below Y.heap.size Y w1->A w1 a3 y3 w2->Q .normal { tmps:=#[.pointer (some ⟨ga,0,none⟩),c1,c2,.pointer (some ⟨h3,0,none⟩),.pointer (some ⟨h4,0,none⟩),c5,.pointer (some ⟨h6,0,none⟩),c7,c8,c9,c10,c11,c12,c13,c14,c15,c16,c17,c18,c19,c20,c21,c22,c23,c24,c25,c26,c27,c28,c29,c30,c31,c32,c33,c34,c35,c36,c37,c38,c39,c40,c41,c42,c43,c44,c45,c46,c47,c48,c49,c50,c51,c52,c53,c54,c55,c56,c57,c58,c59,c60,c61,c62,.pointer (some ⟨h3,1,none⟩),.slice a0 n0 y0,.pointer (some ⟨ga,0,none⟩),.agg #[.int .i64 x.k,.int .i64 x.op,.int .i64 x.rd,.int .i64 x.r1,.int .i64 x.r2,.int .i64 x.im,.string x.s,.int .i64 x.n],.pointer (some ⟨h4,2,none⟩),.int .i64 b,.slice a2 n2 y2,.slice a3 M y3,.pointer (some ⟨h3,1,none⟩),c72,c73,c74,c75],defers:=[] } (w2.setCell ⟨h3,1,none⟩ (.slice a3 M y3))) :
  (imgC 14).wp Tryz.prog Q { tmps:=#[.pointer (some ⟨ga,0,none⟩),c1,c2,.pointer (some ⟨h3,0,none⟩),.pointer (some ⟨h4,0,none⟩),c5,.pointer (some ⟨h6,0,none⟩),c7,c8,c9,c10,c11,c12,c13,c14,c15,c16,c17,c18,c19,c20,c21,c22,c23,c24,c25,c26,c27,c28,c29,c30,c31,c32,c33,c34,c35,c36,c37,c38,c39,c40,c41,c42,c43,c44,c45,c46,c47,c48,c49,c50,c51,c52,c53,c54,c55,c56,c57,c58,c59,c60,c61,c62,d63,d64,d65,d66,d67,d68,d69,d70,d71,c72,c73,c74,c75],defers:=[] } Y:=by
 have HKt:Hid _:=hK
 clear hK
 have HA:Hid _:=hA
 have HT:Hid _:=hT
 unfold BytI at hBT
 have HBT:Hid _:=hBT
 have j1:Y.drew.cell? ⟨h3,1,none⟩=some (.slice a0 n0 y0):=ho
 have j2:Y.drew.cell? ⟨h4,2,none⟩=some (.int .i64 b):=hb
 have l0:Y.drew.cell? ⟨h6,0,none⟩=some (.int .i64 x.k):=cell_of_row Y.drew h6 0 _ 51 (0,0) r6
 have l1:Y.drew.cell? ⟨h6,1,none⟩=some (.int .i64 x.op):=cell_of_row Y.drew h6 1 _ 51 (0,0) r6
 have l2:Y.drew.cell? ⟨h6,2,none⟩=some (.int .i64 x.rd):=cell_of_row Y.drew h6 2 _ 51 (0,0) r6
 have l3:Y.drew.cell? ⟨h6,3,none⟩=some (.int .i64 x.r1):=cell_of_row Y.drew h6 3 _ 51 (0,0) r6
 have l4:Y.drew.cell? ⟨h6,4,none⟩=some (.int .i64 x.r2):=cell_of_row Y.drew h6 4 _ 51 (0,0) r6
 have l5:Y.drew.cell? ⟨h6,5,none⟩=some (.int .i64 x.im):=cell_of_row Y.drew h6 5 _ 51 (0,0) r6
 have l6:Y.drew.cell? ⟨h6,6,none⟩=some (.string x.s):=cell_of_row Y.drew h6 6 _ 51 (0,0) r6
 have l7:Y.drew.cell? ⟨h6,7,none⟩=some (.int .i64 x.n):=cell_of_row Y.drew h6 7 _ 51 (0,0) r6
 clear hA hT hBT ho hb r6
 conv=>arg 2;whnf
 dsimp only
 refine wp_region_any (by kernel_rfl) ?_
 change wpAny _ _ _ _ _ _ _ (World.drew _)
 refine wpAny_inw (fun L act0 u=>∃ a2 n2 y2 a3 y3 w1 w2,act0=img14Mk ga h3 h4 h6 M x b vs a0 n0 y0 A  c1 c2 c5 c7 c8 c9 c10 c11 c12 c13 c14 c15 c16 c17 c18 c19 c20 c21 c22 c23 c24 c25 c26 c27 c28 c29 c30 c31 c32 c33 c34 c35 c36 c37 c38 c39 c40 c41 c42 c43 c44 c45 c46 c47 c48 c49 c50 c51 c52 c53 c54 c55 c56 c57 c58 c59 c60 c61 c62 c72 c73 c74 c75 d63 d64 d65 d66 d67 d68 d69 d70 d71 a2 n2 y2 a3 y3 L/\ThrW Y.drew (fun u=>ByR Y.drew.heap.size u a2 n2 vs/\Below Y.drew.heap.size Y.drew u) (A w1 a3 y3) (fun u=>u=w2.setCell ⟨h3,1,none⟩ (.slice a3 M y3)) 6 7 9 w1 w2 L u) ?done (by kernel_rfl) ?step _ 10 _ _ (by kernel_rfl) ?init (by decide)
 case init=>exact⟨none,0,0,none,0,Y,Y,by simp only[img14Mk,sld_no (up_init _ _)],ThrW.init⟩
 case step=>
  intro L act w i o hI hlt hs nl hC hd ho K hK
  obtain⟨a2,n2,y2,a3,y3,w1,w2,rfl,hW⟩:=hI
  have hi_lt:i<10:=(Array.getElem?_eq_some_iff.1 ho).1
  rcases (show i=0\/i=1\/i=2\/i=3\/i=4\/i=5\/i=6\/i=7\/i=8\/i=9 by omega) with rfl | rfl | rfl | rfl | rfl | rfl | rfl | rfl | rfl | rfl
  ·change some _=some o at ho
   cases ho
   simp only[img14Mk]
   go_simp
   exact hK _ _ ⟨a2,n2,y2,a3,y3,w1,w2,by simp only[img14Mk,sld_set hlt,reduceIte,Nat.reduceEqDiff];try rfl,(hW.keep hlt (by decide) (by decide) (by decide))⟩
  ·change some _=some o at ho
   cases ho
   have q0:up L 0=true:=hd { on:=0,ground:=.data } (by simp) rfl
   have n7:up L 7=false:=hC.no nl 7 rfl (by kernel_rfl)
   have xo:=hW.cell n7 j1 (fun q=>below_cell q.2 j1)
   simp only[img14Mk,sld_yes q0]
   go_simp
   exact hK _ _ ⟨a2,n2,y2,a3,y3,w1,w2,by simp only[img14Mk,sld_set hlt,sld_yes q0,reduceIte,Nat.reduceEqDiff];try rfl,(hW.keep hlt (by decide) (by decide) (by decide))⟩
  ·change some _=some o at ho
   cases ho
   simp only[img14Mk]
   go_simp
   exact hK _ _ ⟨a2,n2,y2,a3,y3,w1,w2,by simp only[img14Mk,sld_set hlt,reduceIte,Nat.reduceEqDiff];try rfl,(hW.keep hlt (by decide) (by decide) (by decide))⟩
  ·change some _=some o at ho
   cases ho
   have n6:up L 6=false:=hC.no nl 6 rfl (by kernel_rfl)
   obtain rfl:=hW.1 n6
   simp only[img14Mk]
   go_simp
   exact hK _ _ ⟨a2,n2,y2,a3,y3,w1,w2,by simp only[img14Mk,sld_set hlt,reduceIte,Nat.reduceEqDiff];try rfl,(hW.keep hlt (by decide) (by decide) (by decide))⟩
  ·change some _=some o at ho
   cases ho
   simp only[img14Mk]
   go_simp
   exact hK _ _ ⟨a2,n2,y2,a3,y3,w1,w2,by simp only[img14Mk,sld_set hlt,reduceIte,Nat.reduceEqDiff];try rfl,(hW.keep hlt (by decide) (by decide) (by decide))⟩
  ·change some _=some o at ho
   cases ho
   have q4:up L 4=true:=hd { on:=4,ground:=.data } (by simp) rfl
   have n6:up L 6=false:=hC.no nl 6 rfl (by kernel_rfl)
   obtain rfl:=hW.1 n6
   simp only[img14Mk,sld_yes q4]
   go_simp
   exact hK _ _ ⟨a2,n2,y2,a3,y3,w1,w2,by simp only[img14Mk,sld_set hlt,sld_yes q4,reduceIte,Nat.reduceEqDiff];try rfl,(hW.keep hlt (by decide) (by decide) (by decide))⟩
  ·change some _=some o at ho
   cases ho
   have q2:up L 2=true:=hd { on:=2,ground:=.data } (by simp) rfl
   have q3:up L 3=true:=hd { on:=3,ground:=.data } (by simp) rfl
   have q5:up L 5=true:=hd { on:=5,ground:=.data } (by simp) rfl
   have n7:up L 7=false:=hC.no nl 7 rfl (by kernel_rfl)
   obtain rfl:=hW.1 nl
   simp only[img14Mk,sld_yes q2,sld_yes q3,sld_yes q5]
   go_simp
   refine Calls.mono HBT.out ?_
   rintro e w3 ⟨a4,n4,y4,rfl,_,_,d1,d2⟩
   go_simp
   exact hK _ _ ⟨a4,n4,y4,a3,y3,w3,w2,by simp only[img14Mk,sld_set hlt,sld_yes q2,sld_yes q3,sld_yes q5,reduceIte,Nat.reduceEqDiff];try rfl,ThrW.first hlt (by decide) n7 ⟨d1,d2⟩⟩
  ·change some _=some o at ho
   cases ho
   have q1:up L 1=true:=hd { on:=1,ground:=.data } (by simp) rfl
   have q6:up L 6=true:=hd { on:=6,ground:=.data } (by simp) rfl
   have n9:up L 9=false:=hC.no nl 9 rfl (by kernel_rfl)
   obtain⟨d1,y4,_⟩:=hW.2 q6
   obtain rfl:=y4 nl
   obtain⟨a4,y5,u3,hr3,hA3⟩:=HT.out _ a2 n2 y2 d1.2 d1.1
   simp only[img14Mk,sld_yes q1,sld_yes q6]
   rw[if_pos (by rfl)]
   refine Lib.wp_append_run _ (.tmp 64) (.tmp 69) 22 22 rfl _ _ rfl rfl _ _ hr3 ?_
   go_simp
   exact hK _ _ ⟨a2,n2,y2,a4,y5,w,u3,by simp only[img14Mk,sld_set hlt,sld_yes q1,sld_yes q6,reduceIte,Nat.reduceEqDiff];try rfl,hW.second hlt (by decide) n9 q6 hA3⟩
  ·change some _=some o at ho
   cases ho
   simp only[img14Mk]
   go_simp
   exact hK _ _ ⟨a2,n2,y2,a3,y3,w1,w2,by simp only[img14Mk,sld_set hlt,reduceIte,Nat.reduceEqDiff];try rfl,(hW.keep hlt (by decide) (by decide) (by decide))⟩
  ·change some _=some o at ho
   cases ho
   have q7:up L 7=true:=hd { on:=7,ground:=.data } (by simp) rfl
   have q8:up L 8=true:=hd { on:=8,ground:=.data } (by simp) rfl
   have q6:up L 6=true:=hC 7 _ rfl q7 { on:=6,ground:=.data } (by simp) rfl
   obtain⟨d1,_,d2⟩:=hW.2 q6
   obtain⟨d3,y4,_⟩:=d2 q7
   obtain rfl:=y4 nl
   obtain⟨e1,e2⟩:=HA.out _ _ _ _ d1.2 d3
   simp only[img14Mk,sld_yes q7,sld_yes q8]
   go_simp
   exact hK _ _ ⟨a2,n2,y2,a3,y3,w1,w,by simp only[img14Mk,sld_set hlt,sld_yes q7,sld_yes q8,reduceIte,Nat.reduceEqDiff];try rfl,hW.third hlt q6 q7 rfl⟩
 case done=>
  rintro L a u ⟨a2,n2,y2,a3,y3,w1,w2,rfl,hW⟩ hall
  simp only[img14Mk,sld_yes (hall 0 (by decide)),sld_yes (hall 1 (by decide)),sld_yes (hall 2 (by decide)),sld_yes (hall 3 (by decide)),sld_yes (hall 4 (by decide)),sld_yes (hall 5 (by decide)),sld_yes (hall 6 (by decide)),sld_yes (hall 7 (by decide)),sld_yes (hall 8 (by decide)),sld_yes (hall 9 (by decide))]
  obtain⟨d1,_,d2⟩:=hW.2 (hall 6 (by decide))
  obtain⟨d3,_,d4⟩:=d2 (hall 7 (by decide))
  obtain rfl:=d4 (hall 9 (by decide))
  exact HKt.out a2 n2 y2 a3 y3 w1 w2 (Below.trans (Below.drew (Below.refl _ _)) d1.2) d3
noncomputable def imgB (n:Nat):Code:=((Tryz.f38.body.bind (codeB n)).getD .skip)
set_option maxRecDepth 100000 in
theorem img_loop {lo:Nat} (g:Nat) (en sk:Int) (is:List Pl.Ins) (ai:Option Addr) (ni ci:Nat) (vc vd:Value) (cs ds:List Int) {c0 c1 c2 c4 c5 c6 c7 c8 c9 c10 c11 c12 c13 c14 c15 c16 c17 c18 c19 c20 c21 c22 c23 c24 c25 c26 c27 c28 c29 c30 c31 c32 c33 c34 c35 c36 c37 c38 c39 c40 c44 c45 c46 c47 c48 c49 c50 c51 c52 c53 c54 c55 c56 c57 c58 c59 c60 c61 c62 c63 c64 c65 c66 c67 c68 c69 c70 c71 c72 c73 c74 c75:Value} (w0 Y:World) (hF:ImS w0 Y g en sk vc vd cs ds) (hI:InsRow lo Y ai ni is) (hgl:g<lo) (hcs:cs.length<=100000) {Q:Exit->Act->World->Prop}
  (hN:∀ (s8 s9 s10 s43 s44 s45 s46 s47 s48 s49 s50 s51 s52 s53 s54 s55 s56 s57 s58:Value) (u:World) (vc':Value),ImS w0 u g en sk vc' vd (cs ++ is.map ewI) ds->ByX 3 g Y u->Q .normal { tmps:=#[c0,c1,c2,.pointer (some ⟨g,0,none⟩),c4,c5,c6,c7,s8,s9,s10,c11,c12,c13,c14,c15,c16,c17,c18,c19,c20,c21,c22,c23,c24,c25,c26,c27,c28,c29,c30,c31,c32,c33,c34,c35,c36,c37,c38,c39,c40,.slice ai ni ci,.int .i64 (ni:Nat),s43,s44,s45,s46,s47,s48,s49,s50,s51,s52,s53,s54,s55,s56,s57,s58,c59,c60,c61,c62,c63,c64,c65,c66,c67,c68,c69,c70,c71,c72,c73,c74,c75],defers:=[] } u) :
  (imgB 3).wp Tryz.prog Q { tmps:=#[c0,c1,c2,.pointer (some ⟨g,0,none⟩),c4,c5,c6,c7,c8,c9,c10,c11,c12,c13,c14,c15,c16,c17,c18,c19,c20,c21,c22,c23,c24,c25,c26,c27,c28,c29,c30,c31,c32,c33,c34,c35,c36,c37,c38,c39,c40,.slice ai ni ci,.int .i64 (ni:Nat),.int .i64 0,c44,c45,c46,c47,c48,c49,c50,c51,c52,c53,c54,c55,c56,c57,c58,c59,c60,c61,c62,c63,c64,c65,c66,c67,c68,c69,c70,c71,c72,c73,c74,c75],defers:=[] } Y:=by
 obtain⟨a6,y6,hv6⟩:=own_slice hF.od
 subst hv6
 have HNt:Hid (∀ (s8 s9 s10 s43 s44 s45 s46 s47 s48 s49 s50 s51 s52 s53 s54 s55 s56 s57 s58:Value) (u:World) (vc':Value),ImS w0 u g en sk vc' (.slice a6 ds.length y6) (cs ++ is.map ewI) ds->ByX 3 g Y u->Q .normal { tmps:=#[c0,c1,c2,.pointer (some ⟨g,0,none⟩),c4,c5,c6,c7,s8,s9,s10,c11,c12,c13,c14,c15,c16,c17,c18,c19,c20,c21,c22,c23,c24,c25,c26,c27,c28,c29,c30,c31,c32,c33,c34,c35,c36,c37,c38,c39,c40,.slice ai ni ci,.int .i64 (ni:Nat),s43,s44,s45,s46,s47,s48,s49,s50,s51,s52,s53,s54,s55,s56,s57,s58,c59,c60,c61,c62,c63,c64,c65,c66,c67,c68,c69,c70,c71,c72,c73,c74,c75],defers:=[] } u):=hN
 have HF:Hid (ImS w0 Y g en sk vc (.slice a6 ds.length y6) cs ds):=hF
 have HI:Hid (InsRow lo Y ai ni is):=hI
 have hni:ni<=2:=hI.2.1
 have HNL:Hid (is.length=ni):=hI.1
 obtain⟨i0,hi0,hz0,hz1,hz2⟩:=info_parts infoint
 clear hN hF hI
 conv=>arg 2;whnf
 dsimp only
 go_wp2_with fail
 go_loopw [43] (fun i wr=>∃ j:Nat,j<=ni/\i=.int .i64 (j:Nat)/\∃ vc',ImS w0 wr g en sk vc' (.slice a6 ds.length y6) (cs ++ (is.take j).map ewI) ds/\ByX 3 g Y wr) (fun i _=>ni-(intOf i).toNat)
 case atStart=>exact⟨0,Nat.zero_le _,rfl,vc,by simpa using HF.out,ByX.refl _ _ _⟩
 case round=>
  obtain⟨j,hj,rfl,vc',hs,hb⟩:=hrel
  have HB:Hid (ByX 3 g Y wr):=hb
  have HII:Hid (InsRow lo wr ai ni is):=HI.out.byX hb hgl
  obtain⟨a5,y5,hv5⟩:=own_slice hs.oc
  subst hv5
  have HCl:Hid ((cs ++ (is.take j).map ewI).length<=100000+2):=by show _<=_;rw[List.length_append,List.length_map,List.length_take];omega
  by_cases hlt:j<ni
  ·have hi:(j:Int)<(ni:Int):=by omega
   have HT1:Hid (cs ++ (is.take (j+1)).map ewI=(cs ++ (is.take j).map ewI) ++ [ewI (is.getD j Pl.Ins.zero)]):=by
    show _=_
    rw[List.take_add_one,List.map_append,List.append_assoc]
    rw[List.getD_eq_getElem?_getD,List.getElem?_eq_getElem (by rw[HNL.out];exact hlt)]
    rfl
   obtain⟨b,hai,hlo,hblt,_,hc⟩:=HII.out.2.2.resolve_left (by omega)
   have d0:=hc j hlt 0 (by decide);have d1:=hc j hlt 1 (by decide);have d2:=hc j hlt 2 (by decide);have d3:=hc j hlt 3 (by decide);have d4:=hc j hlt 4 (by decide)
   clear hc
   subst hai
   generalize hC:cs ++ (is.take j).map ewI=C at *
   clear hC
   have HS:Hid (ImS w0 wr g en sk (.slice a5 C.length y5) (.slice a6 ds.length y6) C ds):=hs
   have hcl:C.length<=100002:=HCl.out
   generalize is.getD j Pl.Ins.zero=y at *
   clear hs hb
   simp only[Pl.Ins.cells,Nat.add_zero,List.getElem?_toArray,List.getElem?_cons_zero,List.getElem?_cons_succ]at d0 d1 d2 d3 d4
   have HE:Hid (∀ u:World,Calls Tryz.prog 43 #[.agg #[.int .i64 y.op,.int .i64 y.rd,.int .i64 y.r1,.int .i64 y.r2,.int .i64 y.im]] u fun e w'=>e=.returned (.tuple #[.int .i64 (ewI y),.bool y.ok])/\Below u.heap.size u w'):=fun u=>implEncI y u
   go_wp2_with (first | (at_builtin;refine wpList_append_own _ rfl (.tmp 53) (.tmp 55) 26 rfl w0.heap.size 3 i0 (.int .i64 0) 1 8 Tryz.underlying26 hi0 hz0 hz1 hz2 rfl (by decide) (.slice a5 C.length y5) C.length (Pl.ics C) rfl (HS2.out.oc.alloc _) ⟨u1.heap.size,0,none⟩ 1 1 [.int .i64 (ewI y)] rfl rfl (news1 _ _ _ (by simp)) (by intro u hu;simp at hu;subst hu;rfl) (by unfold maxLen;omega) (by omega) (by have:=HS2.out.size;simp;omega) ?_;intro v' u2 hown1 hgr1 _;obtain⟨a8,y8,hv8⟩:=own_slice hown1;subst hv8;have hby:ByF 3 u1 u2:=(ByF.below (below_alloc u1 _)).trans (ByF.grown (HS2.out.oc.alloc _) hgr1);have hbe:Below w0.heap.size u1 u2:=Below.grown (Below.alloc (Below.refl _ _) HS2.out.size _) hgr1 (by have:=HS2.out.size;simp;omega) (fun k hk=>(HS2.out.oc.lt k hk).1);have HG:Hid (ImS w0 (u2.setCell ⟨g,0,none⟩ (.slice a8 (C.length+1) y8)) g en sk (.slice a8 (C.length+1) y8) (.slice a6 ds.length y6) (C ++ [ewI y]) ds/\ByF 3 u1 u2):=⟨HS2.out.appC (by rw[Pl.ics_app,List.length_append];exact hown1) hby hbe,hby⟩; have hrow:u2.heap[g]?=some (.cells #[.slice a5 C.length y5,.slice a6 ds.length y6,.int .i64 en,.int .i64 sk] 28 (0,0)):=hby.block g _ HS2.out.row (fun c q=>by injection q with _ q2 _;exact absurd q2 (by decide));have y1:u2.cell? ⟨g,0,none⟩=some (.slice a5 C.length y5):=cell_of_row _ _ 0 _ 28 (0,0) hrow;have y2:u2.frozen? ⟨g,0,none⟩=false:=frozen_of_row _ _ 0 _ 28 hrow;clear hown1 hgr1 hby hbe hrow) | (go_at_call 43;refine (HE.out _).mono ?_;rintro e u1 ⟨rfl,d1⟩; have HD:Hid (Below wr.heap.size wr u1):=(below_alloc wr _).trans (d1.mono (by simp));have HS2:Hid (ImS w0 u1 g en sk (.slice a5 C.length y5) (.slice a6 ds.length y6) C ds):=HS.out.keep HD.out;have m0:u1.cell? ⟨g,0,none⟩=some (.slice a5 C.length y5):=cell_of_row _ _ 0 _ 28 (0,0) HS2.out.row;clear d1))
   obtain⟨hg1,hg2⟩:=HG.out
   refine⟨⟨j+1,by omega,by go_num,.slice a8 (C.length+1) y8,?_,?_⟩,by simp[intOf];omega⟩
   ·rw[HT1.out];exact hg1
   ·exact HB.out.trans ((ByX.of (ByF.below HD.out)).trans ((ByX.of hg2).trans (ByX.set _ _ _ _ _)))
  ·have hjj:j=ni:=by omega
   have hi:¬ ((j:Int)<(ni:Int)):=by omega
   have HJ:Hid (j=ni):=hjj
   have HS:Hid (ImS w0 wr g en sk (.slice a5 (cs ++ (is.take j).map ewI).length y5) (.slice a6 ds.length y6) (cs ++ (is.take j).map ewI) ds):=hs
   clear hs hb hjj
   go_wp2
   refine HNt.out _ _ _ _ _ _ _ _ _ _ _ _ _ _ _ _ _ _ _ _ (.slice a5 (cs ++ (is.take j).map ewI).length y5) ?_ HB.out
   have hs:=HS.out
   rw[HJ.out,<- HNL.out,List.take_length]at hs ⊢
   exact hs
variable {lo:Nat} {xs:List Pl.Ln} {w u u':World} {ga gm:Nat} {a:Option Addr} {len cap:Nat} {stack:Int} {B:Nat} {mb:Nat->Nat}
theorem adr_of {s:ByteArray} {j:Nat} (h:Pl.lb xs s=some j):Pl.adr xs s=(Pl.cu xs j).at:=by unfold Pl.adr;rw[h]
theorem value_at (k:Nat) (hk:k<xs.length) (h:Amz lo xs w u ga gm a len cap stack B mb) (hK:∀ i,i<xs.length->LnK (Pl.gl xs i)) (hlo:∀ i,i<xs.length->Pl.lost xs i=false) (hsz:(Pl.gl xs k).s.size<=maxLen) (hs:¬ (Pl.gl xs k).s.size=0->-2147483648<=(Pl.gl xs k).n/\(Pl.gl xs k).n<=2147483647) (W:World) (hW:Below u.heap.size u W):Calls Tryz.prog 120 #[.pointer (some ⟨ga,0,none⟩),.agg #[.int .i64 (Pl.gl xs k).k,.int .i64 (Pl.gl xs k).op,.int .i64 (Pl.gl xs k).rd,.int .i64 (Pl.gl xs k).r1,.int .i64 (Pl.gl xs k).r2,.int .i64 (Pl.gl xs k).im,.string (Pl.gl xs k).s,.int .i64 (Pl.gl xs k).n]] W fun e w'=>e=.returned (.int .i64 (Pl.valL xs (Pl.gl xs k)))/\Below W.heap.size W w':=by
 refine valueOf_is (Pl.gl xs k) (h.keep hW) hsz (fun q=>?_)
 obtain⟨j,hj,hl⟩:=lb_of hK hlo hk q
 have hb:=at_bd hK (by rw[Aml.lenq h];exact Aml.n h) (k:=j) (by omega)
 have:=hs q
 exact⟨j,hl,by omega,by omega⟩
theorem insts_at (k:Nat) (hk:k<xs.length) (h:Amz lo xs w u ga gm a len cap stack B mb) (hK:∀ i,i<xs.length->LnK (Pl.gl xs i)) (hlo:∀ i,i<xs.length->Pl.lost xs i=false) (hsz:(Pl.gl xs k).s.size<=maxLen) (hT:Pl.isT (Pl.gl xs k).k=true):InsI (Pl.gl xs k) (Pl.adr xs (Pl.gl xs k).s) (Pl.cu xs k).at ga u:=by
 have hn:xs.length<=20000:=by rw[Aml.lenq h];exact Aml.n h
 unfold Pl.isT at hT
 have hT':=of_decide_eq_true hT
 have hx:=hK k hk
 have hbk:=at_bd hK hn (k:=k) (by omega)
 by_cases hj:Pl.isJ (Pl.gl xs k).k=true
 ·obtain⟨j,hjl,hl⟩:=lb_of hK hlo hk (hx.sym (by unfold Pl.isJ at hj;have:=of_decide_eq_true hj;omega))
  have hb:=at_bd hK hn (k:=j) (by omega)
  refine insts_j _ _ _ ga u hj _ rfl ?_
  rw[adr_of hl]
  exact jump_yes (Pl.gl xs k) (Pl.cu xs k).at j (h.keep (below_alloc u _)) hsz hj hl (by omega)
 have hj':¬ ((Pl.gl xs k).k=3\/(Pl.gl xs k).k=7\/(Pl.gl xs k).k=8):=fun q=>hj (by unfold Pl.isJ;exact decide_eq_true q)
 rcases (show (Pl.gl xs k).k=2\/(Pl.gl xs k).k=4\/(Pl.gl xs k).k=5\/(Pl.gl xs k).k=6\/(Pl.gl xs k).k=9 by omega) with q | q | q | q | q
 ·exact insts_2 _ _ _ ga u q
 ·cases hs:Pl.shr (Pl.gl xs k).n
  ·exact insts_4l _ _ _ ga u q hs (hx.i.w4 q)
  ·exact insts_4s _ _ _ ga u q hs
 ·have hsy:=hx.sym (.inr (.inr (.inl q)))
  have hne:¬ (Pl.gl xs k).s=⟨#[]⟩:=fun e=>hsy (by rw[e];rfl)
  have hv:Pl.valL xs (Pl.gl xs k)=Pl.wd (Pl.adr xs (Pl.gl xs k).s+(Pl.gl xs k).n):=by unfold Pl.valL;rw[if_neg hne]
  exact insts_5 _ _ _ ga u q (Pl.valL xs (Pl.gl xs k)) (by rw[hv];exact Pl.wd_bd _) hv (fun W hW=>value_at k hk h hK hlo hsz (fun _=>hx.far (.inl q)) W hW)
 ·exact insts_6 _ _ _ ga u q
 ·exact insts_9 _ _ _ ga u q
theorem bytes_at (k:Nat) (hk:k<xs.length) (h:Amz lo xs w u ga gm a len cap stack B mb) (hK:∀ i,i<xs.length->LnK (Pl.gl xs i)) (hlo:∀ i,i<xs.length->Pl.lost xs i=false) (hsz:(Pl.gl xs k).s.size<=maxLen) (hD:Pl.isD (Pl.gl xs k).k=true):BytI (Pl.gl xs k) (Pl.cu xs k).b (Pl.dat xs k) ga u/\(Pl.dat xs k).length<=65536:=by
 have hn:xs.length<=20000:=by rw[Aml.lenq h];exact Aml.n h
 have hD':12<=(Pl.gl xs k).k:=by unfold Pl.isD at hD;exact of_decide_eq_true hD
 have hx:=hK k hk
 have hcb:=Pl.cu_bd xs (fun i hi=>(hK i hi).b) k (by omega)
 have hcb1:0<=(Pl.cu xs k).b:=by omega
 have hdz:=Pl.dsz_bd hx.b (Pl.cu xs k).b hcb1
 have hDS:∀ W:World,Calls Tryz.prog 113 #[.agg #[.int .i64 (Pl.gl xs k).k,.int .i64 (Pl.gl xs k).op,.int .i64 (Pl.gl xs k).rd,.int .i64 (Pl.gl xs k).r1,.int .i64 (Pl.gl xs k).r2,.int .i64 (Pl.gl xs k).im,.string (Pl.gl xs k).s,.int .i64 (Pl.gl xs k).n],.int .i64 (Pl.cu xs k).b] W fun e w'=>e=.returned (.int .i64 (Pl.dsz (Pl.gl xs k) (Pl.cu xs k).b))/\Below W.heap.size W w':=fun W=>dataSize_is (Pl.gl xs k) (Pl.cu xs k).b hx.b (by omega) W
 have hlen:((Pl.dat xs k).length:Int)=Pl.dsz (Pl.gl xs k) (Pl.cu xs k).b:=Pl.dat_len xs k hx.b hcb1 hD
 refine⟨?_,by omega⟩
 by_cases hz:(Pl.gl xs k).k=15\/(Pl.gl xs k).k=16
 ·rw[Pl.dat_zero xs k hz]
  refine bytes_z _ _ ga u _ (by omega) hz ?_
  have:=hDS (u.alloc (.cells #[.int .i64 (Pl.gl xs k).k,.int .i64 (Pl.gl xs k).op,.int .i64 (Pl.gl xs k).rd,.int .i64 (Pl.gl xs k).r1,.int .i64 (Pl.gl xs k).r2,.int .i64 (Pl.gl xs k).im,.string (Pl.gl xs k).s,.int .i64 (Pl.gl xs k).n] 51))
  rw[show ((Pl.dsz (Pl.gl xs k) (Pl.cu xs k).b).toNat:Int)=Pl.dsz (Pl.gl xs k) (Pl.cu xs k).b by omega]
  exact this
 have hdat:Pl.dat xs k=Pl.bys (Pl.valL xs (Pl.gl xs k)) (Pl.dsz (Pl.gl xs k) (Pl.cu xs k).b).toNat:=by unfold Pl.dat;rw[if_neg hz,if_pos hD]
 have hk16:=hx.b.k
 have hVO:=value_at k hk h hK hlo hsz (fun q=>hx.far (.inr ⟨by
  rcases (show (Pl.gl xs k).k=12\/(Pl.gl xs k).k=13\/(Pl.gl xs k).k=14 by omega) with e | e | e
  ·exact absurd (hx.nos (by omega) (by omega) (by omega) (by omega) (by omega) (by omega)) q
  ·exact absurd (hx.nos (by omega) (by omega) (by omega) (by omega) (by omega) (by omega)) q
  ·exact e,q⟩))
 have hvb:0<=Pl.valL xs (Pl.gl xs k)/\Pl.valL xs (Pl.gl xs k)<=4294967295:=by
  unfold Pl.valL
  by_cases hs:(Pl.gl xs k).s=⟨#[]⟩
  ·rw[if_pos hs]
   rcases (show (Pl.gl xs k).k=12\/(Pl.gl xs k).k=13\/(Pl.gl xs k).k=14 by omega) with e | e | e
   ·have:=hx.n12 e;omega
   ·have:=hx.n13 e;omega
   ·exact hx.w14 e (by rw[hs];rfl)
  ·rw[if_neg hs];exact Pl.wd_bd _
 rcases (show (Pl.gl xs k).k=12\/(Pl.gl xs k).k=13\/(Pl.gl xs k).k=14 by omega) with e | e | e
 ·have hd:Pl.dsz (Pl.gl xs k) (Pl.cu xs k).b=1:=by unfold Pl.dsz;rw[if_pos e]
  rw[hdat,hd]
  rw[hd]at hDS
  exact bytes_1 _ _ _ ga u hvb ⟨by omega,by omega⟩ (hDS _) hVO
 ·have hd:Pl.dsz (Pl.gl xs k) (Pl.cu xs k).b=2:=by unfold Pl.dsz;rw[if_neg (by omega),if_pos e]
  rw[hdat,hd]
  rw[hd]at hDS
  exact bytes_2 _ _ _ ga u hvb ⟨by omega,by omega⟩ (hDS _) hVO
 ·have hd:Pl.dsz (Pl.gl xs k) (Pl.cu xs k).b=4:=by unfold Pl.dsz;rw[if_neg (by omega),if_neg (by omega),if_pos e]
  rw[hdat,hd]
  rw[hd]at hDS
  exact bytes_4 _ _ _ ga u hvb ⟨by omega,by omega⟩ (hDS _) hVO
theorem owns_onlyT {u u':World} {B:Nat} {e t:TypeId} {s n:Nat} {v:Value} {ys:List Value} {g:Nat} {cur:Array Value} {f:Nat × Nat} (h:u.ownsRow B e s v n ys) (hg:u.heap[g]?=some (.cells cur t f)) (ht:t≠e) (ho:OnlyC g u u'):u'.ownsRow B e s v n ys:=
 h.kept ho.grown (by
  rcases h.2 with ⟨rfl,_⟩ | ⟨g',cap,cur',rfl,_,hg',_⟩
  ·exact .inl rfl
  ·right
   intro c
   have:g'=g:=by simpa [Value.ownBlock] using c
   subst this
   rw[hg]at hg'
   injection hg' with q
   injection q with _ q2 _
   exact ht q2)
structure ImP (u:World) (j:Nat) (stack:Int) (xs:List Pl.Ln) (cs ds:List Int) (A:World):Prop where
 im:∃ vc vd,ImS u A (u.heap.size+1) (Pl.cu xs j).at stack vc vd cs ds
 r:A.heap[u.heap.size]?=some (.cells #[.slice none 0 0,.slice none 0 0,.int .i64 0,.int .i64 0] 28 (0,0))
structure ImI (u:World) (j:Nat) (stack:Int) (xs:List Pl.Ln) (k:Nat) (A:World):Prop where
 p:ImP u j stack xs (Pl.codeL ewI xs k) (Pl.dataL xs k) A
 c:CurAt A (u.heap.size+2) (Pl.cu xs k)
theorem ImP.bel {u A:World} {j:Nat} {stack:Int} {xs:List Pl.Ln} {cs ds:List Int} (h:ImP u j stack xs cs ds A):Below u.heap.size u A:=by
 obtain⟨_,_,h1⟩:=h.im;exact h1.bel
theorem ImP.keep {u A A':World} {j:Nat} {stack:Int} {xs:List Pl.Ln} {cs ds:List Int} (h:ImP u j stack xs cs ds A) (hb:Below A.heap.size A A'):ImP u j stack xs cs ds A':=by
 obtain⟨vc,vd,h1⟩:=h.im
 exact⟨⟨vc,vd,h1.keep hb⟩,(hb.block _ (Array.getElem?_eq_some_iff.1 h.r).1).trans h.r⟩
theorem ImI.pass {u A A':World} {j k:Nat} {stack:Int} {xs:List Pl.Ln} {c:Pl.Cur} (h:ImP u j stack xs (Pl.codeL ewI xs (k+1)) (Pl.dataL xs (k+1)) A) (hc:CurAt A (u.heap.size+2) c) (hc':CurAt A' (u.heap.size+2) (Pl.cu xs (k+1))) (ho:OnlyC (u.heap.size+2) A A'):ImI u j stack xs (k+1) A':=by
 obtain⟨vc,vd,h1⟩:=h.im
 obtain⟨cur,hr⟩:=hc.row
 refine⟨⟨⟨vc,vd,(ho.block _ h1.lt (by omega)).trans h1.row,owns_onlyT h1.oc hr (by decide) ho,owns_onlyT h1.od hr (by decide) ho,h1.bel.trans (ho.low (by omega) h1.size),h1.hg⟩,(ho.block _ (Array.getElem?_eq_some_iff.1 h.r).1 (by omega)).trans h.r⟩,hc'⟩
theorem insA_no {x:Pl.Ln} {t la:Int} (h:Pl.isT x.k=false):Pl.insA x t la=[]:=by
 unfold Pl.isT at h
 have h':=of_decide_eq_false h
 unfold Pl.insA Pl.isJ
 rw[if_neg (by rw[decide_eq_true_eq];omega),if_neg (by omega),if_neg (by omega),if_neg (by omega),if_neg (by omega),if_neg (by omega)]
variable {lo:Nat} {xs:List Pl.Ln} {w u u':World} {ga gm:Nat} {a:Option Addr} {len cap:Nat} {stack:Int} {B:Nat} {mb:Nat->Nat}
set_option maxRecDepth 100000 in
theorem image_is (j:Nat) (h:Amz lo xs w u ga gm a len cap stack B mb) (hK:∀ i,i<xs.length->LnK (Pl.gl xs i)) (hlo:∀ i,i<xs.length->Pl.lost xs i=false) (hS:∀ i,i<xs.length->Pl.stray xs i=false) (hl:Pl.lb xs Pl.startS=some j):Calls Tryz.prog 38 #[.pointer (some ⟨ga,0,none⟩)] u fun e u'=>∃ vc vd,e=.returned (.agg #[vc,vd,.int .i64 (Pl.cu xs j).at,.int .i64 stack])/\u'.ownsRow u.heap.size 3 1 vc (Pl.codeL ewI xs xs.length).length (Pl.ics (Pl.codeL ewI xs xs.length))/\u'.ownsRow u.heap.size 5 1 vd (Pl.dataL xs xs.length).length (Pl.bcs (Pl.dataL xs xs.length))/\Below u.heap.size u u':=by
 have HXL:Hid (xs.length=len/\len<=20000):=⟨Aml.lenq h,Aml.n h⟩
 have HH:Hid _:=h
 have HK:Hid _:=hK
 have HLO:Hid _:=hlo
 have HLL:Hid (∀ k,k<=xs.length->(Pl.codeL ewI xs k).length<=100000/\(Pl.dataL xs k).length<=4294967296):=fun k hk=>by
  have h1:=Pl.laid_len ewI xs (fun i hi=>(hK i hi).b) hS k hk
  have h2:=Pl.cu_bd xs (fun i hi=>(hK i hi).b) k hk
  have:=HXL.out
  omega
 obtain⟨V1,hV1⟩:∃ V1,V1=u.alloc (.cells #[.slice none 0 0,.slice none 0 0,.int .i64 0,.int .i64 0] 28):=⟨_,rfl⟩
 have hB1:Below u.heap.size u V1:=by rw[hV1];exact below_alloc u _
 have hz1:V1.heap.size=u.heap.size+1:=by rw[hV1];simp
 have r0:V1.heap[u.heap.size]?=some (.cells #[.slice none 0 0,.slice none 0 0,.int .i64 0,.int .i64 0] 28 (0,0)):=by rw[hV1];exact heap_alloc_new u _
 obtain⟨V2,hV2⟩:∃ V2,V2=V1.drew.alloc (.cells #[.slice none 0 0,.slice none 0 0,.int .i64 (Pl.cu xs j).at,.int .i64 stack] 28):=⟨_,rfl⟩
 have hz2:V2.heap.size=u.heap.size+2:=by rw[hV2];simp;omega
 have hB2:Below u.heap.size u V2:=by rw[hV2];exact Below.trans (Below.drew hB1) ((below_alloc _ _).mono (by show u.heap.size<=V1.heap.size;omega))
 have r0':V2.heap[u.heap.size]?=some (.cells #[.slice none 0 0,.slice none 0 0,.int .i64 0,.int .i64 0] 28 (0,0)):=by rw[hV2,Below.heap_alloc _ _ _ (by show u.heap.size<V1.heap.size;omega)];exact r0
 have r1:V2.heap[u.heap.size+1]?=some (.cells #[.slice none 0 0,.slice none 0 0,.int .i64 (Pl.cu xs j).at,.int .i64 stack] 28 (0,0)):=by rw[hV2];exact new_at (by show u.heap.size+1=V1.heap.size;omega)
 have HI0:Hid (ImI u j stack xs 0 (V2.alloc (.cells #[.bool false,.int .i64 0,.int .i64 0] 69))):=by
  have hbc:=below_alloc V2 (.cells #[.bool false,.int .i64 0,.int .i64 0] 69)
  have q1:(V2.alloc (.cells #[.bool false,.int .i64 0,.int .i64 0] 69)).heap[u.heap.size+2]?=some (.cells #[.bool false,.int .i64 0,.int .i64 0] 69 (0,0)):=new_at (by omega)
  refine⟨⟨⟨.slice none 0 0,.slice none 0 0,(hbc.block _ (by omega)).trans r1,World.ownsRow_nil _ _ _ _,World.ownsRow_nil _ _ _ _,hB2.trans (hbc.mono (by omega)),by omega⟩,(hbc.block _ (by omega)).trans r0'⟩,⟨cell_of_row _ _ 0 _ 69 (0,0) q1,cell_of_row _ _ 1 _ 69 (0,0) q1,cell_of_row _ _ 2 _ 69 (0,0) q1,fun j=>frozen_of_row _ _ j _ 69 q1,by simp;omega,⟨_,q1⟩⟩⟩
 have hm0:(V2.alloc (.cells #[.bool false,.int .i64 0,.int .i64 0] 69)).cell? ⟨ga,0,none⟩=some (.slice a len cap):=(Aml.am ((h.keep hB2).keep (below_alloc V2 _))).cell 0
 have HR1:Hid (V1.cell? ⟨ga,1,none⟩=some (.int .i64 stack)/\V1.cell? ⟨ga,2,none⟩=some (.map (some gm))/\V1.cell? ⟨mb j,2,none⟩=some (.int .i64 (Pl.cu xs j).at)/\∀ v:World,Below V1.drew.heap.size V1.drew v->(Instr.lookup 67 (.map (some gm)) (.string ⟨#[95,115,116,97,114,116]⟩) false).run Tryz.prog v=.ok (.pointer (some ⟨mb j,0,none⟩)) v):=by
  have hA:=h.keep hB1
  refine⟨(Aml.am hA).cell 1,(Aml.am hA).cell 2,(hA.mark hl).2.2,fun v hv=>?_⟩
  have:=Aml.look ((hA.keep (Below.drew (Below.refl _ _))).keep hv) (s:=Pl.startS) (by unfold Pl.startS maxLen;decide)
  rw[hl]at this
  exact this
 have HZ1:Hid (u.heap.size+1=V1.heap.size):=hz1.symm
 have HZ2:Hid (V2.heap.size=u.heap.size+2):=hz2
 have HV1:Hid _:=hV1.symm
 have HV2:Hid _:=hV2.symm
 have hlen:(len:Int)<=20000:=by have:=HXL.out;omega
 clear h hK hlo hS hl hB1 hz1 r0 hB2 hz2 r0' r1 hV1 hV2
 go_enter Tryz.func38,Tryz.ntmps38
 go_upto_region 1 with fail
 rw[HV1.out]
 refine img1 ga gm (mb j) (u.heap.size+1) (Pl.cu xs j).at stack V1 HZ1.out HR1.out.1 HR1.out.2.1 HR1.out.2.2.1 HR1.out.2.2.2 ?_
 rw[HV2.out]
 go_wp2_with fail
 rw[HZ2.out]
 go_loopw [30] (fun i wr=>∃ k:Nat,k<=len/\i=.int .i64 (k:Nat)/\ImI u j stack xs k wr) (fun i _=>len-(intOf i).toNat)
 case atStart=>exact⟨0,Nat.zero_le _,rfl,HI0.out⟩
 case round=>
  obtain⟨k,hk,rfl,hI⟩:=hrel
  have HI:Hid _:=hI
  clear hI hm0
  by_cases hlt:k<len
  ·have hi:(k:Int)<(len:Int):=by omega
   have HKX:Hid (k<xs.length):=by show k<xs.length;rw[HXL.out.1];exact hlt
   obtain⟨b,off,ha,hlo,hb1,hsz,c0,c1,c2,c3,c4,c5,c6,c7⟩:=(Aml.am (Amz.keep HH.out HI.out.p.bel)).lines.at k hlt
   have HSZ:Hid _:=hsz
   have HPA:Hid (∀ W,CurAt W (u.heap.size+2) (Pl.cu xs k)->Calls Tryz.prog 75 #[.pointer (some ⟨u.heap.size+2,0,none⟩),.agg #[.int .i64 (Pl.gl xs k).k,.int .i64 (Pl.gl xs k).op,.int .i64 (Pl.gl xs k).rd,.int .i64 (Pl.gl xs k).r1,.int .i64 (Pl.gl xs k).r2,.int .i64 (Pl.gl xs k).im,.string (Pl.gl xs k).s,.int .i64 (Pl.gl xs k).n]] W fun e w'=>e=.returned (.tuple #[])/\CurAt w' (u.heap.size+2) (Pl.cu xs (k+1))/\OnlyC (u.heap.size+2) W w'):=fun W hW=>pass_at k HKX.out (fun i hi=>(HK.out i hi).b) (by rw[HXL.out.1];exact HXL.out.2) _ W hW
   have HAD:Hid (∀ W,CurAt W (u.heap.size+2) (Pl.cu xs k)->Calls Tryz.prog 83 #[.pointer (some ⟨u.heap.size+2,0,none⟩)] W fun e w'=>e=.returned (.int .i64 (Pl.cu xs k).at)/\w'=W):=fun W hW=>address_is _ _ W hW (by have hb:=Pl.cu_bd xs (fun i hi=>(HK.out i hi).b) k (Nat.le_of_lt HKX.out);have:=HXL.out;omega)
   have HIN:Hid (Pl.isT (Pl.gl xs k).k=true->∀ v,Below u.heap.size u v->InsI (Pl.gl xs k) (Pl.adr xs (Pl.gl xs k).s) (Pl.cu xs k).at ga v):=fun q v hv=>insts_at k HKX.out (Amz.keep HH.out hv) HK.out HLO.out HSZ.out q
   have HBY:Hid (Pl.isD (Pl.gl xs k).k=true->(Pl.dat xs k).length<=65536/\∀ v,Below u.heap.size u v->BytI (Pl.gl xs k) (Pl.cu xs k).b (Pl.dat xs k) ga v):=fun q=>⟨(bytes_at k HKX.out HH.out HK.out HLO.out HSZ.out q).2,fun v hv=>(bytes_at k HKX.out (Amz.keep HH.out hv) HK.out HLO.out HSZ.out q).1⟩
   have HCD:Hid (Pl.codeL ewI xs (k+1)=Pl.codeL ewI xs k ++ (Pl.insA (Pl.gl xs k) (Pl.cu xs k).at (Pl.adr xs (Pl.gl xs k).s)).map ewI):=Pl.codeL_succ ewI xs k
   have HDD:Hid (Pl.dataL xs (k+1)=Pl.dataL xs k ++ Pl.dat xs k):=Pl.dataL_succ xs k
   have HD0:Hid (Pl.isD (Pl.gl xs k).k=false->Pl.dat xs k=[]):=fun q=>Pl.dat_text xs k (by unfold Pl.isD at q;have:=of_decide_eq_false q;omega)
   have hwz:u.heap.size+2<wr.heap.size:=HI.out.c.lt
   have HBL:Hid (Below u.heap.size u wr):=HI.out.p.bel
   have HRL:Hid (∀ o,(wr.alloc o).heap[wr.heap.size]?=some o):=fun o=>heap_alloc_new wr o
   subst ha
   clear hlo hb1 hsz
   generalize Pl.gl xs k=x at *
   cases hot:Pl.isT x.k
   rotate_left
   ·have HOT:Hid _:=hot
    have HT0:Hid (Pl.dat xs k=[]):=HD0.out (by unfold Pl.isD;unfold Pl.isT at hot;have:=of_decide_eq_true hot;exact decide_eq_false (by omega))
    clear hot
    go_upto_region 7 with (go_at_call 76;refine (ofText_is _ _).mono ?_;rintro e u1 ⟨rfl,rfl⟩; rw[HOT.out])
    have HBV:Hid (Below u.heap.size u (wr.alloc (.cells #[.int .i64 x.k,.int .i64 x.op,.int .i64 x.rd,.int .i64 x.r1,.int .i64 x.r2,.int .i64 x.im,.string x.s,.int .i64 x.n] 51)).drew):=Below.drew (HBL.out.trans ((below_alloc wr _).mono HBL.out.size))
    refine img7 ga (u.heap.size+2) wr.heap.size x (Pl.cu xs k).at (Pl.adr xs x.s) (wr.alloc (.cells #[.int .i64 x.k,.int .i64 x.op,.int .i64 x.rd,.int .i64 x.r1,.int .i64 x.r2,.int .i64 x.im,.string x.s,.int .i64 x.n] 51)) (HRL.out _) (HAD.out _ ((HI.out.c.keep (below_alloc wr _)).keep (Below.drew (Below.refl _ _)))) (HIN.out HOT.out _ HBV.out) ?_
    intro a2 n2 y2 w1 hR hB
    have HRr:Hid (InsRow (wr.alloc (.cells #[.int .i64 x.k,.int .i64 x.op,.int .i64 x.rd,.int .i64 x.r1,.int .i64 x.r2,.int .i64 x.im,.string x.s,.int .i64 x.n] 51)).heap.size w1 a2 n2 (Pl.insA x (Pl.cu xs k).at (Pl.adr xs x.s))):=hR
    have HB:Hid (Below (wr.alloc (.cells #[.int .i64 x.k,.int .i64 x.op,.int .i64 x.rd,.int .i64 x.r1,.int .i64 x.r2,.int .i64 x.im,.string x.s,.int .i64 x.n] 51)).heap.size (wr.alloc (.cells #[.int .i64 x.k,.int .i64 x.op,.int .i64 x.rd,.int .i64 x.r1,.int .i64 x.r2,.int .i64 x.im,.string x.s,.int .i64 x.n] 51)) w1):=hB
    clear hR hB c0 c1 c2 c3 c4 c5 c6 c7
    go_upto_block 3 with fail
    have HBw:Hid (Below wr.heap.size wr w1):=(below_alloc wr _).trans (HB.out.mono (by simp))
    obtain⟨vc,vd,him⟩:=(HI.out.p.keep HBw.out).im
    have HIM:Hid _:=him
    clear him
    refine img_loop (u.heap.size+1) (Pl.cu xs j).at stack (Pl.insA x (Pl.cu xs k).at (Pl.adr xs x.s)) a2 n2 y2 vc vd (Pl.codeL ewI xs k) (Pl.dataL xs k) u w1 HIM.out HRr.out (by simp;omega) (HLL.out k (Nat.le_of_lt HKX.out)).1 ?_
    intro v8 v9 v10 v43 v44 v45 v46 v47 v48 v49 v50 v51 v52 v53 v54 v55 v56 v57 v58 u9 vc9 hs9 hby9
    have HIt:Hid (ImP u j stack xs (Pl.codeL ewI xs (k+1)) (Pl.dataL xs (k+1)) u9):=by
     refine⟨⟨vc9,vd,?_⟩,hby9.block _ _ (by omega) (HI.out.p.keep HBw.out).r (fun c q=>by injection q with _ q2 _;exact absurd q2 (by decide))⟩
     rw[HCD.out,HDD.out,HT0.out,List.append_nil]
     exact hs9
    have HCt:Hid (CurAt u9 (u.heap.size+2) (Pl.cu xs k)):=(HI.out.c.keep HBw.out).byX hby9 (by decide) (by omega)
    have HRt:Hid (u9.heap[wr.heap.size]?=some (.cells #[.int .i64 x.k,.int .i64 x.op,.int .i64 x.rd,.int .i64 x.r1,.int .i64 x.r2,.int .i64 x.im,.string x.s,.int .i64 x.n] 51 (0,0))):=hby9.block _ _ (by omega) ((HB.out.block _ (by simp)).trans (HRL.out _)) (fun c q=>by injection q with _ q2 _;exact absurd q2 (by decide))
    clear hs9 hby9
    have l0:=cell_of_row u9 wr.heap.size 0 _ 51 (0,0) HRt.out
    have l1:=cell_of_row u9 wr.heap.size 1 _ 51 (0,0) HRt.out
    have l2:=cell_of_row u9 wr.heap.size 2 _ 51 (0,0) HRt.out
    have l3:=cell_of_row u9 wr.heap.size 3 _ 51 (0,0) HRt.out
    have l4:=cell_of_row u9 wr.heap.size 4 _ 51 (0,0) HRt.out
    have l5:=cell_of_row u9 wr.heap.size 5 _ 51 (0,0) HRt.out
    have l6:=cell_of_row u9 wr.heap.size 6 _ 51 (0,0) HRt.out
    have l7:=cell_of_row u9 wr.heap.size 7 _ 51 (0,0) HRt.out
    simp only[List.getElem?_toArray,List.getElem?_cons_zero,List.getElem?_cons_succ]at l0 l1 l2 l3 l4 l5 l6 l7
    have HPS:Hid _:=HPA.out u9 HCt.out
    go_wp2_with (first | (go_at_call 75;refine Calls.mono HPS.out ?_;rintro e w9 ⟨rfl,hc9,ho9⟩; have HN:Hid (ImI u j stack xs (k+1) w9):=ImI.pass HIt.out HCt.out hc9 ho9;clear hc9 ho9))
    exact⟨⟨k+1,by omega,by go_num,HN.out⟩,by simp[intOf];omega⟩
   have HOT:Hid _:=hot
   clear hot
   cases hod:Pl.isD x.k
   ·have HOD:Hid _:=hod
    have HT0:Hid (Pl.dat xs k=[]):=HD0.out hod
    have HI1:Hid (Pl.insA x (Pl.cu xs k).at (Pl.adr xs x.s)=[]):=insA_no HOT.out
    clear hod
    have HIt:Hid (ImP u j stack xs (Pl.codeL ewI xs (k+1)) (Pl.dataL xs (k+1)) (wr.alloc (.cells #[.int .i64 x.k,.int .i64 x.op,.int .i64 x.rd,.int .i64 x.r1,.int .i64 x.r2,.int .i64 x.im,.string x.s,.int .i64 x.n] 51))):=by
     show ImP _ _ _ _ _ _ _
     rw[HCD.out,HDD.out,HT0.out,HI1.out,List.map_nil,List.append_nil,List.append_nil]
     exact HI.out.p.keep (below_alloc wr _)
    have HCt:Hid (CurAt (wr.alloc (.cells #[.int .i64 x.k,.int .i64 x.op,.int .i64 x.rd,.int .i64 x.r1,.int .i64 x.r2,.int .i64 x.im,.string x.s,.int .i64 x.n] 51)) (u.heap.size+2) (Pl.cu xs k)):=HI.out.c.keep (below_alloc wr _)
    have HRt:Hid ((wr.alloc (.cells #[.int .i64 x.k,.int .i64 x.op,.int .i64 x.rd,.int .i64 x.r1,.int .i64 x.r2,.int .i64 x.im,.string x.s,.int .i64 x.n] 51)).heap[wr.heap.size]?=some (.cells #[.int .i64 x.k,.int .i64 x.op,.int .i64 x.rd,.int .i64 x.r1,.int .i64 x.r2,.int .i64 x.im,.string x.s,.int .i64 x.n] 51 (0,0))):=HRL.out _
    have l0:=cell_of_row (wr.alloc (.cells #[.int .i64 x.k,.int .i64 x.op,.int .i64 x.rd,.int .i64 x.r1,.int .i64 x.r2,.int .i64 x.im,.string x.s,.int .i64 x.n] 51)) wr.heap.size 0 _ 51 (0,0) HRt.out
    have l1:=cell_of_row (wr.alloc (.cells #[.int .i64 x.k,.int .i64 x.op,.int .i64 x.rd,.int .i64 x.r1,.int .i64 x.r2,.int .i64 x.im,.string x.s,.int .i64 x.n] 51)) wr.heap.size 1 _ 51 (0,0) HRt.out
    have l2:=cell_of_row (wr.alloc (.cells #[.int .i64 x.k,.int .i64 x.op,.int .i64 x.rd,.int .i64 x.r1,.int .i64 x.r2,.int .i64 x.im,.string x.s,.int .i64 x.n] 51)) wr.heap.size 2 _ 51 (0,0) HRt.out
    have l3:=cell_of_row (wr.alloc (.cells #[.int .i64 x.k,.int .i64 x.op,.int .i64 x.rd,.int .i64 x.r1,.int .i64 x.r2,.int .i64 x.im,.string x.s,.int .i64 x.n] 51)) wr.heap.size 3 _ 51 (0,0) HRt.out
    have l4:=cell_of_row (wr.alloc (.cells #[.int .i64 x.k,.int .i64 x.op,.int .i64 x.rd,.int .i64 x.r1,.int .i64 x.r2,.int .i64 x.im,.string x.s,.int .i64 x.n] 51)) wr.heap.size 4 _ 51 (0,0) HRt.out
    have l5:=cell_of_row (wr.alloc (.cells #[.int .i64 x.k,.int .i64 x.op,.int .i64 x.rd,.int .i64 x.r1,.int .i64 x.r2,.int .i64 x.im,.string x.s,.int .i64 x.n] 51)) wr.heap.size 5 _ 51 (0,0) HRt.out
    have l6:=cell_of_row (wr.alloc (.cells #[.int .i64 x.k,.int .i64 x.op,.int .i64 x.rd,.int .i64 x.r1,.int .i64 x.r2,.int .i64 x.im,.string x.s,.int .i64 x.n] 51)) wr.heap.size 6 _ 51 (0,0) HRt.out
    have l7:=cell_of_row (wr.alloc (.cells #[.int .i64 x.k,.int .i64 x.op,.int .i64 x.rd,.int .i64 x.r1,.int .i64 x.r2,.int .i64 x.im,.string x.s,.int .i64 x.n] 51)) wr.heap.size 7 _ 51 (0,0) HRt.out
    simp only[List.getElem?_toArray,List.getElem?_cons_zero,List.getElem?_cons_succ]at l0 l1 l2 l3 l4 l5 l6 l7
    have HPS:Hid _:=HPA.out (wr.alloc (.cells #[.int .i64 x.k,.int .i64 x.op,.int .i64 x.rd,.int .i64 x.r1,.int .i64 x.r2,.int .i64 x.im,.string x.s,.int .i64 x.n] 51)) HCt.out
    go_wp2_with (first | (go_at_call 76;refine (ofText_is _ _).mono ?_;rintro e u1 ⟨rfl,rfl⟩; rw[HOT.out]) | (go_at_call 77;refine (ofData_is _ _).mono ?_;rintro e u1 ⟨rfl,rfl⟩; rw[HOD.out]) | (go_at_call 75;refine Calls.mono HPS.out ?_;rintro e w9 ⟨rfl,hc9,ho9⟩; have HN:Hid (ImI u j stack xs (k+1) w9):=ImI.pass HIt.out HCt.out hc9 ho9;clear hc9 ho9))
    exact⟨⟨k+1,by omega,by go_num,HN.out⟩,by simp[intOf];omega⟩
   ·have HOD:Hid _:=hod
    have HI1:Hid (Pl.insA x (Pl.cu xs k).at (Pl.adr xs x.s)=[]):=insA_no HOT.out
    clear hod
    go_upto_region 14 with (first | (go_at_call 76;refine (ofText_is _ _).mono ?_;rintro e u1 ⟨rfl,rfl⟩; rw[HOT.out]) | (go_at_call 77;refine (ofData_is _ _).mono ?_;rintro e u1 ⟨rfl,rfl⟩; rw[HOD.out]))
    have HBV:Hid (Below u.heap.size u (wr.alloc (.cells #[.int .i64 x.k,.int .i64 x.op,.int .i64 x.rd,.int .i64 x.r1,.int .i64 x.r2,.int .i64 x.im,.string x.s,.int .i64 x.n] 51)).drew):=Below.drew (HBL.out.trans ((below_alloc wr _).mono HBL.out.size))
    obtain⟨vc,vd,him⟩:=(HI.out.p.keep (below_alloc wr (.cells #[.int .i64 x.k,.int .i64 x.op,.int .i64 x.rd,.int .i64 x.r1,.int .i64 x.r2,.int .i64 x.im,.string x.s,.int .i64 x.n] 51))).im
    obtain⟨a6,y6,hv6⟩:=own_slice him.od
    subst hv6
    have HIM:Hid _:=him
    clear him c0 c1 c2 c3 c4 c5 c6 c7
    have HDR:Hid (∀ v:World,Below (wr.alloc (.cells #[.int .i64 x.k,.int .i64 x.op,.int .i64 x.rd,.int .i64 x.r1,.int .i64 x.r2,.int .i64 x.im,.string x.s,.int .i64 x.n] 51)).drew.heap.size (wr.alloc (.cells #[.int .i64 x.k,.int .i64 x.op,.int .i64 x.rd,.int .i64 x.r1,.int .i64 x.r2,.int .i64 x.im,.string x.s,.int .i64 x.n] 51)).drew v->Below (wr.alloc (.cells #[.int .i64 x.k,.int .i64 x.op,.int .i64 x.rd,.int .i64 x.r1,.int .i64 x.r2,.int .i64 x.im,.string x.s,.int .i64 x.n] 51)).heap.size (wr.alloc (.cells #[.int .i64 x.k,.int .i64 x.op,.int .i64 x.rd,.int .i64 x.r1,.int .i64 x.r2,.int .i64 x.im,.string x.s,.int .i64 x.n] 51)) v):=fun v hv=>Below.trans (Below.drew (Below.refl _ _)) hv
    refine img14 ga (u.heap.size+1) (u.heap.size+2) wr.heap.size (Pl.dataL xs k ++ Pl.dat xs k).length x (Pl.cu xs k).b (Pl.dat xs k) a6 _ y6 (fun u1 a3 y3 u2=>DatA u (Pl.dataL xs k ++ Pl.dat xs k) u1 a3 y3 u2) (wr.alloc (.cells #[.int .i64 x.k,.int .i64 x.op,.int .i64 x.rd,.int .i64 x.r1,.int .i64 x.r2,.int .i64 x.im,.string x.s,.int .i64 x.n] 51)) (cell_of_row _ _ 1 _ 28 (0,0) HIM.out.row) (HRL.out _) ((HI.out.c.keep (below_alloc wr _)).b) ((HBY.out HOD.out).2 _ HBV.out) (fun u1 a2 n2 y2 hu1 hr1=>app_A (HIM.out.keep (HDR.out u1 hu1)) hr1 (HLL.out k (Nat.le_of_lt HKX.out)).2 (HBY.out HOD.out).1) (fun u1 a3 y3 u2 hu1 hd=>DatA.oldI HIM.out (HDR.out u1 hu1) hd) ?_
    intro a2 n2 y2 a3 y3 w1 w2 hB hA2
    have him2:=DatA.finI HIM.out hB hA2
    have hbx:ByX 5 (u.heap.size+1) w1 (w2.setCell ⟨u.heap.size+1,1,none⟩ (.slice a3 (Pl.dataL xs k ++ Pl.dat xs k).length y3)):=(ByX.of hA2.2.2).trans (ByX.set _ _ _ _ _)
    obtain⟨u9,hu9⟩:∃ u9,u9=w2.setCell ⟨u.heap.size+1,1,none⟩ (.slice a3 (Pl.dataL xs k ++ Pl.dat xs k).length y3):=⟨_,rfl⟩
    rw[<- hu9]at him2 hbx ⊢
    have hBw:Below wr.heap.size wr w1:=(below_alloc wr _).trans (hB.mono (by simp))
    have HIt:Hid (ImP u j stack xs (Pl.codeL ewI xs (k+1)) (Pl.dataL xs (k+1)) u9):=by
     refine⟨⟨vc,.slice a3 (Pl.dataL xs k ++ Pl.dat xs k).length y3,?_⟩,hbx.block _ _ (by omega) (HI.out.p.keep hBw).r (fun c q=>by injection q with _ q2 _;exact absurd q2 (by decide))⟩
     rw[HCD.out,HDD.out,HI1.out,List.map_nil,List.append_nil]
     exact him2
    have HCt:Hid (CurAt u9 (u.heap.size+2) (Pl.cu xs k)):=(HI.out.c.keep hBw).byX hbx (by decide) (by omega)
    have HRt:Hid (u9.heap[wr.heap.size]?=some (.cells #[.int .i64 x.k,.int .i64 x.op,.int .i64 x.rd,.int .i64 x.r1,.int .i64 x.r2,.int .i64 x.im,.string x.s,.int .i64 x.n] 51 (0,0))):=hbx.block _ _ (by omega) ((hB.block _ (by simp)).trans (HRL.out _)) (fun c q=>by injection q with _ q2 _;exact absurd q2 (by decide))
    clear him2 hbx hu9 hB hA2 hBw
    have l0:=cell_of_row u9 wr.heap.size 0 _ 51 (0,0) HRt.out
    have l1:=cell_of_row u9 wr.heap.size 1 _ 51 (0,0) HRt.out
    have l2:=cell_of_row u9 wr.heap.size 2 _ 51 (0,0) HRt.out
    have l3:=cell_of_row u9 wr.heap.size 3 _ 51 (0,0) HRt.out
    have l4:=cell_of_row u9 wr.heap.size 4 _ 51 (0,0) HRt.out
    have l5:=cell_of_row u9 wr.heap.size 5 _ 51 (0,0) HRt.out
    have l6:=cell_of_row u9 wr.heap.size 6 _ 51 (0,0) HRt.out
    have l7:=cell_of_row u9 wr.heap.size 7 _ 51 (0,0) HRt.out
    simp only[List.getElem?_toArray,List.getElem?_cons_zero,List.getElem?_cons_succ]at l0 l1 l2 l3 l4 l5 l6 l7
    have HPS:Hid _:=HPA.out u9 HCt.out
    go_wp2_with (first | (go_at_call 75;refine Calls.mono HPS.out ?_;rintro e w9 ⟨rfl,hc9,ho9⟩; have HN:Hid (ImI u j stack xs (k+1) w9):=ImI.pass HIt.out HCt.out hc9 ho9;clear hc9 ho9))
    exact⟨⟨k+1,by omega,by go_num,HN.out⟩,by simp[intOf];omega⟩
  ·have hi:¬ ((k:Int)<(len:Int)):=by omega
   have hkk:k=xs.length:=by have:=HXL.out.1;omega
   obtain⟨vc,vd,him⟩:=HI.out.p.im
   obtain⟨a5,y5,hv5⟩:=own_slice him.oc
   obtain⟨a6,y6,hv6⟩:=own_slice him.od
   subst hv5 hv6
   have HIM:Hid _:=him
   have HRr:Hid _:=HI.out.p.r
   have HKK:Hid (k=xs.length):=hkk
   have e0:=cell_of_row wr (u.heap.size+1) 0 _ 28 (0,0) him.row
   have e1:=cell_of_row wr (u.heap.size+1) 1 _ 28 (0,0) him.row
   have e2:=cell_of_row wr (u.heap.size+1) 2 _ 28 (0,0) him.row
   have e3:=cell_of_row wr (u.heap.size+1) 3 _ 28 (0,0) him.row
   have f0:=cell_of_row wr u.heap.size 0 _ 28 (0,0) HRr.out
   have f1:=cell_of_row wr u.heap.size 1 _ 28 (0,0) HRr.out
   have f2:=cell_of_row wr u.heap.size 2 _ 28 (0,0) HRr.out
   have f3:=cell_of_row wr u.heap.size 3 _ 28 (0,0) HRr.out
   have ff:=fun i=>frozen_of_row wr u.heap.size i _ 28 HRr.out
   simp only[List.getElem?_toArray,List.getElem?_cons_zero,List.getElem?_cons_succ]at e0 e1 e2 e3 f0 f1 f2 f3
   clear him hkk
   go_wp2
   have g1:=heap_setCell_same wr u.heap.size 0 _ _ (.slice a5 (Pl.codeL ewI xs k).length y5) HRr.out
   have g2:=heap_setCell_same _ u.heap.size 1 _ _ (.slice a6 (Pl.dataL xs k).length y6) g1
   have g3:=heap_setCell_same _ u.heap.size 2 _ _ (.int .i64 (Pl.cu xs j).at) g2
   have g4:=heap_setCell_same _ u.heap.size 3 _ _ (.int .i64 stack) g3
   have o4:=(((OnlyC.set u.heap.size 0 wr (.slice a5 (Pl.codeL ewI xs k).length y5)).trans (OnlyC.set u.heap.size 1 _ (.slice a6 (Pl.dataL xs k).length y6))).trans (OnlyC.set u.heap.size 2 _ (.int .i64 (Pl.cu xs j).at))).trans (OnlyC.set u.heap.size 3 _ (.int .i64 stack))
   refine bodyPost_ret (v:=.agg #[.slice a5 (Pl.codeL ewI xs k).length y5,.slice a6 (Pl.dataL xs k).length y6,.int .i64 (Pl.cu xs j).at,.int .i64 stack]) (results_cell_row Tryz.results38 _ _ u.heap.size 28 _ (0,0) _ rfl g4 Tryz.underlying28 rfl (by kernel_rfl)) rfl ⟨_,_,rfl,?_,?_,HIM.out.bel.trans (o4.low (Nat.le_refl _) HIM.out.size)⟩
   ·have:=owns_onlyT HIM.out.oc HRr.out (by decide) o4
    rw[HKK.out]at this ⊢
    exact this
   ·have:=owns_onlyT HIM.out.od HRr.out (by decide) o4
    rw[HKK.out]at this ⊢
    exact this
structure Rr (w v:World):Prop where
 r:v.heap[w.heap.size]?=some (.cells #[.slice none 0 0,.slice none 0 0,.int .i64 0,.int .i64 0] 28 (0,0))
 low:Below w.heap.size w v
theorem Rr.keep {w v v':World} (h:Rr w v) (hb:Below v.heap.size v v'):Rr w v':=⟨(hb.block _ (Array.getElem?_eq_some_iff.1 h.r).1).trans h.r,h.low.trans (hb.mono h.low.size)⟩
structure StA (lo:Nat) (xs:List Pl.Ln) (w v:World) (ga gm:Nat) (a:Option Addr) (len cap:Nat) (stack:Int):Prop where
 am:Amb lo xs w v ga gm a len cap stack ⟨false,0,0⟩
 lm:∀ B,Lbm xs B v gm 0 (fun _=>0) (fun _=>false) (fun _=>0)
 rr:Rr w v
 ga:w.heap.size<ga
 gm:w.heap.size<gm
structure StB (lo:Nat) (xs:List Pl.Ln) (w v:World) (ga gm:Nat) (a:Option Addr) (len cap:Nat) (stack:Int):Prop where
 am:∃ B mb,Aml lo xs w v ga gm a len cap stack ⟨false,0,0⟩ B mb (fun _=>false) (fun _=>0)/\B<=v.heap.size/\w.heap.size<B
 rr:Rr w v
 ga:w.heap.size<ga
structure StC (lo:Nat) (xs:List Pl.Ln) (w v:World) (ga gm:Nat) (a:Option Addr) (len cap:Nat) (stack:Int):Prop where
 am:∃ B mb,Amz lo xs w v ga gm a len cap stack B mb
 rr:Rr w v
variable {lo:Nat} {xs:List Pl.Ln} {w v v':World} {ga gm:Nat} {a:Option Addr} {len cap:Nat} {stack:Int}
theorem StA.keep (h:StA lo xs w v ga gm a len cap stack) (hb:Below v.heap.size v v'):StA lo xs w v' ga gm a len cap stack:=⟨h.am.keep hb,fun B=>(h.lm B).keep hb,h.rr.keep hb,h.ga,h.gm⟩
theorem StB.keep (h:StB lo xs w v ga gm a len cap stack) (hb:Below v.heap.size v v'):StB lo xs w v' ga gm a len cap stack:=by
 obtain⟨B,mb,h1,h2,h3⟩:=h.am
 exact⟨⟨B,mb,h1.keep hb,Nat.le_trans h2 hb.size,h3⟩,h.rr.keep hb,h.ga⟩
theorem StC.keep (h:StC lo xs w v ga gm a len cap stack) (hb:Below v.heap.size v v'):StC lo xs w v' ga gm a len cap stack:=by
 obtain⟨B,mb,h1⟩:=h.am
 exact⟨⟨B,mb,h1.keep hb⟩,h.rr.keep hb⟩
theorem lnK_of (h:∀ i,i<xs.length->(!okL (Pl.gl xs i))=false):∀ i,i<xs.length->LnK (Pl.gl xs i):=fun i hi=>okL_known (by simpa using h i hi)
theorem chk1 (h:StA lo xs w v ga gm a len cap stack):Calls Tryz.prog 29 #[.pointer (some ⟨ga,0,none⟩)] v fun e v'=>e=.returned (.int .i64 (if 20000<len then 20000 else Pl.fst1 (fun i=>!okL (Pl.gl xs i)) len))/\Rr w v'/\(¬ 0<=(if 20000<len then 20000 else Pl.fst1 (fun i=>!okL (Pl.gl xs i)) len:Int)->StA lo xs w v' ga gm a len cap stack):=by
 refine (badLine_is ga a len cap xs v h.am.lines (h.am.cell 0)).mono ?_
 rintro e v' ⟨rfl,hb⟩
 exact⟨rfl,h.rr.keep hb,fun _=>h.keep hb⟩
theorem chk2 (h:StA lo xs w v ga gm a len cap stack) (hn:len<=20000) (hK:∀ i,i<xs.length->LnK (Pl.gl xs i)):Calls Tryz.prog 30 #[.pointer (some ⟨ga,0,none⟩)] v fun e v'=>e=.returned (.int .i64 (Pl.fst1 (Pl.stray xs) len))/\Rr w v'/\(¬ 0<=(Pl.fst1 (Pl.stray xs) len:Int)->StA lo xs w v' ga gm a len cap stack):=by
 refine (strayLine_is ga a len cap xs v h.am.lines (h.am.cell 0) (fun i hi=>(hK i hi).b) hn).mono ?_
 rintro e v' ⟨rfl,hb⟩
 exact⟨rfl,h.rr.keep hb,fun _=>h.keep hb⟩
theorem chk3 (h:StA lo xs w v ga gm a len cap stack) (hn:len<=20000):Calls Tryz.prog 31 #[.pointer (some ⟨ga,0,none⟩)] v fun e v'=>e=.returned (.int .i64 (Pl.fst1 (Pl.twice xs) len))/\Rr w v'/\(¬ 0<=(Pl.fst1 (Pl.twice xs) len:Int)->StB lo xs w v' ga gm a len cap stack):=by
 refine (secondLabel_is h.am (h.lm _) hn).mono ?_
 rintro e v' ⟨rfl,ho,hx⟩
 have hr:Rr w v':=⟨(ho.block _ (Array.getElem?_eq_some_iff.1 h.rr.r).1 (by have:=h.gm;omega)).trans h.rr.r,h.rr.low.trans (ho.low h.am.hgm h.rr.low.size)⟩
 refine⟨rfl,hr,fun q=>?_⟩
 obtain⟨mb,hl⟩:=hx (by rcases Pl.fst1_cases (Pl.twice xs) len with q2 | ⟨k,_,q2,_⟩; exact q2.1;rw[q2]at q;omega)
 exact⟨⟨v.heap.size,mb,⟨h.am.only ho h.am.hgm h.am.ne,hl,h.rr.low.size,h.am.lt,hn⟩,ho.size,Nat.lt_trans h.ga h.am.lt⟩,hr,h.ga⟩
theorem chk4 (h:StB lo xs w v ga gm a len cap stack):Calls Tryz.prog 32 #[.pointer (some ⟨ga,0,none⟩)] v fun e v'=>e=.returned (.int .i64 (Pl.fst1 (Pl.lost xs) len))/\Rr w v'/\(¬ 0<=(Pl.fst1 (Pl.lost xs) len:Int)->StB lo xs w v' ga gm a len cap stack):=by
 obtain⟨B,mb,h1,h2,h3⟩:=h.am
 refine (unknownSym_is h1).mono ?_
 rintro e v' ⟨rfl,hb⟩
 exact⟨rfl,h.rr.keep hb,fun _=>h.keep hb⟩
theorem chk5 (h:StB lo xs w v ga gm a len cap stack) (hK:∀ i,i<xs.length->LnK (Pl.gl xs i)) (htw:∀ i,i<xs.length->Pl.twice xs i=false):Calls Tryz.prog 33 #[.pointer (some ⟨ga,0,none⟩)] v fun e v'=>e=.returned (.int .i64 (Pl.cdA xs))/\Rr w v'/\(¬ 0<=(Pl.cdA xs:Int)->StC lo xs w v' ga gm a len cap stack):=by
 obtain⟨B,mb,h1,h2,h3⟩:=h.am
 refine (badCode_is h1 h2 htw (fun i hi=>(hK i hi).b)).mono ?_
 rintro e v' ⟨rfl,ha,hf,hs⟩
 have hr:Rr w v':=⟨(hf _ h3 (by have:=h.ga;omega)).trans h.rr.r,(Aml.am ha).low⟩
 exact⟨rfl,hr,fun _=>⟨⟨B,mb,ha⟩,hr⟩⟩
theorem chk6 (h:StC lo xs w v ga gm a len cap stack):Calls Tryz.prog 34 #[.pointer (some ⟨ga,0,none⟩)] v fun e v'=>e=.returned (.int .i64 (if 65536<(Pl.cu xs len).b then 0 else -1))/\Rr w v'/\(¬ 0<=(if 65536<(Pl.cu xs len).b then 0 else -1:Int)->StC lo xs w v' ga gm a len cap stack):=by
 obtain⟨B,mb,h1⟩:=h.am
 refine (badData_is ga (Pl.cu xs len).b v ((Aml.am h1).cell 5)).mono ?_
 rintro e v' ⟨rfl,rfl⟩
 exact⟨rfl,h.rr,fun _=>h⟩
theorem chk7 (h:StC lo xs w v ga gm a len cap stack) (hK:∀ i,i<xs.length->LnK (Pl.gl xs i)) (hlo:∀ i,i<xs.length->Pl.lost xs i=false):Calls Tryz.prog 35 #[.pointer (some ⟨ga,0,none⟩)] v fun e v'=>e=.returned (.int .i64 (Pl.fst1 (Pl.badJ xs) len))/\Rr w v'/\(¬ 0<=(Pl.fst1 (Pl.badJ xs) len:Int)->StC lo xs w v' ga gm a len cap stack):=by
 obtain⟨B,mb,h1⟩:=h.am
 refine (badJump_is h1 hK hlo).mono ?_
 rintro e v' ⟨rfl,hb⟩
 exact⟨rfl,h.rr.keep hb,fun _=>h.keep hb⟩
theorem chk8 (h:StC lo xs w v ga gm a len cap stack) (hT:0<=(Pl.cu xs len).t/\(Pl.cu xs len).t<=1099511627776):Calls Tryz.prog 36 #[.pointer (some ⟨ga,0,none⟩)] v fun e v'=>e=.returned (.int .i64 (Pl.stA xs))/\Rr w v'/\(¬ 0<=(Pl.stA xs:Int)->StC lo xs w v' ga gm a len cap stack):=by
 obtain⟨B,mb,h1⟩:=h.am
 refine (badStart_is h1 hT).mono ?_
 rintro e v' ⟨rfl,hb⟩
 exact⟨rfl,h.rr.keep hb,fun _=>h.keep hb⟩
theorem chk9 (h:StC lo xs w v ga gm a len cap stack):Calls Tryz.prog 37 #[.pointer (some ⟨ga,0,none⟩)] v fun e v'=>e=.returned (.int .i64 (if 0<=stack/\stack<=65536/\stack % 16=0 then -1 else 0))/\Rr w v'/\(¬ 0<=(if 0<=stack/\stack<=65536/\stack % 16=0 then -1 else 0:Int)->StC lo xs w v' ga gm a len cap stack):=by
 obtain⟨B,mb,h1⟩:=h.am
 refine (badStack_is ga stack v ((Aml.am h1).cell 1)).mono ?_
 rintro e v' ⟨rfl,rfl⟩
 exact⟨rfl,h.rr,fun _=>h⟩
end Go.Proofs.YtlbomnnldkeocaaGreat.W
