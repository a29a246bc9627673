import Derived.Test.YtlbomnnldkeocaaGreatI46
set_option linter.unusedVariables false
set_option linter.unusedSimpArgs false
set_option maxHeartbeats 16000000
namespace Go.Proofs.YtlbomnnldkeocaaGreat.W
open Go.RowKit Go.Shelf Go.Maps Go.WideMaps Go.Sort
section
variable {w0 u u1 u2:World} {g:Nat} {en sk:Int} {vc:Value} {a0 a2 a3:Option Addr} {n0 y0 n2 y2 y3:Nat} {cs ds:List Int}
theorem Ov (h:vO w0 u1 g en sk vc (.slice a0 n0 y0) cs ds) {lo:Nat} {vs:List Int} (hr:Rj lo u1 a2 n2 vs) (hl:ds.length<=4294967296) (hv:vs.length<=65536):∃ a3 y3 u2,(Builtin.append_ #[22,22] 22 #[.slice a0 n0 y0,.slice a2 n2 y2]).run Tryz.prog u1=.ok (.slice a3 (ds ++ vs).length y3) u2/\iD w0 (ds ++ vs) u1 a3 y3 u2:=by
 obtain⟨i0,hi0,hz0,hz1,hz2⟩:=info_parts GD
 obtain⟨hn,b,rfl,hlo,hrow⟩:=hr
 obtain⟨v',w',hr,ho,hg,_⟩:=run_append_own (P:=Tryz.prog) u1 w0.heap.size 22 22 5 i0 _ 1 1 Tryz.underlying22 hi0 hz0 hz1 hz2 rfl (by decide) _ ds.length (Pl.rY ds) h.od ⟨b,0,none⟩ n2 y2 (Pl.rY vs) (by rw[Pl.BV,hn,Nat.mul_one])
  (fun j x hj=>by
   have:=cell_of_row u1 b j _ _ _ hrow
   rw[List.getElem?_toArray]at this
   rw[show (⟨b,0,none⟩:Addr).add j=⟨b,j,none⟩ from by simp[Addr.add];exact fun e=>e.symm,this]
   exact hj)
  (fun x hx=>by
   obtain⟨z,_,rfl⟩:=List.mem_map.1 hx
   rfl) (by unfold maxLen;omega) (by omega) h.size
 rw[show ds.length+n2=(ds ++ vs).length by rw[List.length_append,hn],<- Pl.BX]at ho
 obtain⟨a3,y3,rfl⟩:=aT ho
 exact⟨a3,y3,w',hr,ho,Below.grown (Below.refl _ _) hg h.size (fun k hk=>(h.od.lt k hk).1),oZ.grown h.od hg⟩
theorem iD.Za (h:vO w0 u g en sk vc (.slice a0 n0 y0) cs ds) {D:List Int} (hb:Below u.heap.size u u1) (hd:iD w0 D u1 a2 y2 u2):u2.cell? ⟨g,1,none⟩=some (.slice a0 n0 y0)/\u2.frozen? ⟨g,1,none⟩=false:=by
 have hr:=hd.2.2.block g _ (h.keep hb).row (fun c q=>by injection q with _ q2 _;exact absurd q2 (by decide))
 exact⟨cell_of_row _ _ 1 _ 28 (0,0) hr,frozen_of_row _ _ 1 _ 28 hr⟩
theorem iD.Zb (h:vO w0 u g en sk vc (.slice a0 n0 y0) cs ds) {D:List Int} (hb:Below u.heap.size u u1) (hd:iD w0 D u1 a2 y2 u2):vO w0 (u2.setCell ⟨g,1,none⟩ (.slice a2 D.length y2)) g en sk vc (.slice a2 D.length y2) cs D:=
 (h.keep hb).Ed hd.1 hd.2.2 hd.2.1
end
def eG (ga h3 h4 h6 M:Nat) (x:Pl.Ln) (b:Int) (vs:List Int) (a0:Option Addr) (n0 y0:Nat) (A:World->Option Addr->Nat->World->Prop)  (c1 c2 c5 c7 c8 c9 c10 c11 c12 c13 c14 c15 c16 c17 c18 c19 c20 c21 dW c23 c24 dP eP fO c28 eQ eT c31 c32 eU c34 eX eY c37 fP fQ c40 gQ iP iQ iF iG c46 iY iH c49 iI c51 iJ c53 iZ iK iL iM fH c59 fU fV fZ c72 jJ kJ c75 XF XG XH XI XJ XK XL XM XN:Value) (a2:Option Addr) (n2 y2:Nat) (a3:Option Addr) (y3:Nat) (L:Array Bool):Act:={ tmps:=#[.pointer (some ⟨ga,0,none⟩),c1,c2,.pointer (some ⟨h3,0,none⟩),.pointer (some ⟨h4,0,none⟩),c5,.pointer (some ⟨h6,0,none⟩),c7,c8,c9,c10,c11,c12,c13,c14,c15,c16,c17,c18,c19,c20,c21,dW,c23,c24,dP,eP,fO,c28,eQ,eT,c31,c32,eU,c34,eX,eY,c37,fP,fQ,c40,gQ,iP,iQ,iF,iG,c46,iY,iH,c49,iI,c51,iJ,c53,iZ,iK,iL,iM,fH,c59,fU,fV,fZ,aR XF L 0 (.pointer (some ⟨h3,1,none⟩)),aR XG L 1 (.slice a0 n0 y0),aR XH L 2 (.pointer (some ⟨ga,0,none⟩)),aR XI L 3 (.agg #[.int .i64 x.k,.int .i64 x.op,.int .i64 x.rd,.int .i64 x.r1,.int .i64 x.r2,.int .i64 x.im,.string x.s,.int .i64 x.n]),aR XJ L 4 (.pointer (some ⟨h4,2,none⟩)),aR XK L 5 (.int .i64 b),aR XL L 6 (.slice a2 n2 y2),aR XM L 7 (.slice a3 M y3),aR XN L 8 (.pointer (some ⟨h3,1,none⟩)),c72,jJ,kJ,c75],defers:=[] }
set_option maxRecDepth 100000 in
theorem Ow (ga h3 h4 h6 M:Nat) (x:Pl.Ln) (b:Int) (vs:List Int) (a0:Option Addr) (n0 y0:Nat) (A:World->Option Addr->Nat->World->Prop) {c1 c2 c5 c7 c8 c9 c10 c11 c12 c13 c14 c15 c16 c17 c18 c19 c20 c21 dW c23 c24 dP eP fO c28 eQ eT c31 c32 eU c34 eX eY c37 fP fQ c40 gQ iP iQ iF iG c46 iY iH c49 iI c51 iJ c53 iZ iK iL iM fH c59 fU fV fZ c72 jJ kJ c75 XF XG XH XI XJ XK XL XM XN:Value} (Y:World) (ho:Y.cell? ⟨h3,1,none⟩=some (.slice a0 n0 y0)) (r6:Y.heap[h6]?=some (.cells #[.int .i64 x.k,.int .i64 x.op,.int .i64 x.rd,.int .i64 x.r1,.int .i64 x.r2,.int .i64 x.im,.string x.s,.int .i64 x.n] 51 (0,0))) (hb:Y.cell? ⟨h4,2,none⟩=some (.int .i64 b)) (Zc:xH x b vs ga Y.drew) (hT:∀ u1 a2 n2 y2,Below Y.drew.heap.size Y.drew u1->Rj Y.drew.heap.size u1 a2 n2 vs->∃ a3 y3 u2,(Builtin.append_ #[22,22] 22 #[.slice a0 n0 y0,.slice a2 n2 y2]).run Tryz.prog u1=.ok (.slice a3 M y3) u2/\A u1 a3 y3 u2) (hA:∀ u1 a3 y3 u,Below Y.drew.heap.size Y.drew u1->A u1 a3 y3 u->u.cell? ⟨h3,1,none⟩=some (.slice a0 n0 y0)/\u.frozen? ⟨h3,1,none⟩=false) {Q:Exit->Act->World->Prop}
  (hK:∀ (a2:Option Addr) (n2 y2:Nat) (a3:Option Addr) (y3:Nat) (w1 w2:World),Below Y.heap.size Y w1->A w1 a3 y3 w2->Q .normal { tmps:=#[.pointer (some ⟨ga,0,none⟩),c1,c2,.pointer (some ⟨h3,0,none⟩),.pointer (some ⟨h4,0,none⟩),c5,.pointer (some ⟨h6,0,none⟩),c7,c8,c9,c10,c11,c12,c13,c14,c15,c16,c17,c18,c19,c20,c21,dW,c23,c24,dP,eP,fO,c28,eQ,eT,c31,c32,eU,c34,eX,eY,c37,fP,fQ,c40,gQ,iP,iQ,iF,iG,c46,iY,iH,c49,iI,c51,iJ,c53,iZ,iK,iL,iM,fH,c59,fU,fV,fZ,.pointer (some ⟨h3,1,none⟩),.slice a0 n0 y0,.pointer (some ⟨ga,0,none⟩),.agg #[.int .i64 x.k,.int .i64 x.op,.int .i64 x.rd,.int .i64 x.r1,.int .i64 x.r2,.int .i64 x.im,.string x.s,.int .i64 x.n],.pointer (some ⟨h4,2,none⟩),.int .i64 b,.slice a2 n2 y2,.slice a3 M y3,.pointer (some ⟨h3,1,none⟩),c72,jJ,kJ,c75],defers:=[] } (w2.setCell ⟨h3,1,none⟩ (.slice a3 M y3))) :
  (Jb 14).wp Tryz.prog Q { tmps:=#[.pointer (some ⟨ga,0,none⟩),c1,c2,.pointer (some ⟨h3,0,none⟩),.pointer (some ⟨h4,0,none⟩),c5,.pointer (some ⟨h6,0,none⟩),c7,c8,c9,c10,c11,c12,c13,c14,c15,c16,c17,c18,c19,c20,c21,dW,c23,c24,dP,eP,fO,c28,eQ,eT,c31,c32,eU,c34,eX,eY,c37,fP,fQ,c40,gQ,iP,iQ,iF,iG,c46,iY,iH,c49,iI,c51,iJ,c53,iZ,iK,iL,iM,fH,c59,fU,fV,fZ,XF,XG,XH,XI,XJ,XK,XL,XM,XN,c72,jJ,kJ,c75],defers:=[] } Y:=by
 have nI:Hid _:=hK
 clear hK
 have HA:Hid _:=hA
 have HT:Hid _:=hT
 unfold xH at Zc
 have HBT:Hid _:=Zc
 have j1:Y.drew.cell? ⟨h3,1,none⟩=some (.slice a0 n0 y0):=ho
 have j2:Y.drew.cell? ⟨h4,2,none⟩=some (.int .i64 b):=hb
 have l0:Y.drew.cell? ⟨h6,0,none⟩=some (.int .i64 x.k):=cell_of_row Y.drew h6 0 _ 51 (0,0) r6
 have l1:Y.drew.cell? ⟨h6,1,none⟩=some (.int .i64 x.op):=cell_of_row Y.drew h6 1 _ 51 (0,0) r6
 have l2:Y.drew.cell? ⟨h6,2,none⟩=some (.int .i64 x.rd):=cell_of_row Y.drew h6 2 _ 51 (0,0) r6
 have l3:Y.drew.cell? ⟨h6,3,none⟩=some (.int .i64 x.r1):=cell_of_row Y.drew h6 3 _ 51 (0,0) r6
 have l4:Y.drew.cell? ⟨h6,4,none⟩=some (.int .i64 x.r2):=cell_of_row Y.drew h6 4 _ 51 (0,0) r6
 have l5:Y.drew.cell? ⟨h6,5,none⟩=some (.int .i64 x.im):=cell_of_row Y.drew h6 5 _ 51 (0,0) r6
 have l6:Y.drew.cell? ⟨h6,6,none⟩=some (.string x.s):=cell_of_row Y.drew h6 6 _ 51 (0,0) r6
 have l7:Y.drew.cell? ⟨h6,7,none⟩=some (.int .i64 x.n):=cell_of_row Y.drew h6 7 _ 51 (0,0) r6
 clear hA hT Zc ho hb r6
 conv=>arg 2;whnf
 dsimp only
 refine wp_region_any (by kernel_rfl) ?_
 change wpAny _ _ _ _ _ _ _ (World.drew _)
 refine bQ (fun L jD u=>∃ a2 n2 y2 a3 y3 w1 w2,jD=eG ga h3 h4 h6 M x b vs a0 n0 y0 A  c1 c2 c5 c7 c8 c9 c10 c11 c12 c13 c14 c15 c16 c17 c18 c19 c20 c21 dW c23 c24 dP eP fO c28 eQ eT c31 c32 eU c34 eX eY c37 fP fQ c40 gQ iP iQ iF iG c46 iY iH c49 iI c51 iJ c53 iZ iK iL iM fH c59 fU fV fZ c72 jJ kJ c75 XF XG XH XI XJ XK XL XM XN a2 n2 y2 a3 y3 L/\oH Y.drew (fun u=>Rj Y.drew.heap.size u a2 n2 vs/\Below Y.drew.heap.size Y.drew u) (A w1 a3 y3) (fun u=>u=w2.setCell ⟨h3,1,none⟩ (.slice a3 M y3)) 6 7 9 w1 w2 L u) ?done (by kernel_rfl) ?step _ 10 _ _ (by kernel_rfl) ?init (by decide)
 case init=>exact⟨none,0,0,none,0,Y,Y,by simp only[eG,dG (bR _ _)],oH.init⟩
 case step=>
  intro L act w i o hI hlt hs nl hC hd ho K hK
  obtain⟨a2,n2,y2,a3,y3,w1,w2,rfl,hW⟩:=hI
  have jB:i<10:=(Array.getElem?_eq_some_iff.1 ho).1
  have hD:=fun k m=>hd {on:=k,ground:=.data} m rfl
  rcases (show i=0\/i=1\/i=2\/i=3\/i=4\/i=5\/i=6\/i=7\/i=8\/i=9 by omega) with rfl|rfl|rfl|rfl|rfl|rfl|rfl|rfl|rfl|rfl<;>(change some _=some o at ho;cases ho)
  ·simp only[eG]
   go_simp
   exact hK _ _ ⟨a2,n2,y2,a3,y3,w1,w2,by simp only[eG,aD hlt,reduceIte,Nat.reduceEqDiff];try rfl,(hW.keep hlt (by decide) (by decide) (by decide))⟩
  ·have q0:up L 0=true:=hD 0 (by simp)
   have n7:up L 7=false:=hC.no nl 7 rfl (by kernel_rfl)
   have xo:=hW.cell n7 j1 (fun q=>aF q.2 j1)
   simp only[eG,aA q0]
   go_simp
   exact hK _ _ ⟨a2,n2,y2,a3,y3,w1,w2,by simp only[eG,aD hlt,aA q0,reduceIte,Nat.reduceEqDiff];try rfl,(hW.keep hlt (by decide) (by decide) (by decide))⟩
  ·simp only[eG]
   go_simp
   exact hK _ _ ⟨a2,n2,y2,a3,y3,w1,w2,by simp only[eG,aD hlt,reduceIte,Nat.reduceEqDiff];try rfl,(hW.keep hlt (by decide) (by decide) (by decide))⟩
  ·have n6:up L 6=false:=hC.no nl 6 rfl (by kernel_rfl)
   obtain rfl:=hW.1 n6
   simp only[eG]
   go_simp
   exact hK _ _ ⟨a2,n2,y2,a3,y3,w1,w2,by simp only[eG,aD hlt,reduceIte,Nat.reduceEqDiff];try rfl,(hW.keep hlt (by decide) (by decide) (by decide))⟩
  ·simp only[eG]
   go_simp
   exact hK _ _ ⟨a2,n2,y2,a3,y3,w1,w2,by simp only[eG,aD hlt,reduceIte,Nat.reduceEqDiff];try rfl,(hW.keep hlt (by decide) (by decide) (by decide))⟩
  ·have q4:up L 4=true:=hD 4 (by simp)
   have n6:up L 6=false:=hC.no nl 6 rfl (by kernel_rfl)
   obtain rfl:=hW.1 n6
   simp only[eG,aA q4]
   go_simp
   exact hK _ _ ⟨a2,n2,y2,a3,y3,w1,w2,by simp only[eG,aD hlt,aA q4,reduceIte,Nat.reduceEqDiff];try rfl,(hW.keep hlt (by decide) (by decide) (by decide))⟩
  ·have q2:up L 2=true:=hD 2 (by simp)
   have q3:up L 3=true:=hD 3 (by simp)
   have q5:up L 5=true:=hD 5 (by simp)
   have n7:up L 7=false:=hC.no nl 7 rfl (by kernel_rfl)
   obtain rfl:=hW.1 nl
   simp only[eG,aA q2,aA q3,aA q5]
   go_simp
   refine Calls.mono HBT.out ?_
   rintro e w3 ⟨a4,n4,y4,rfl,_,_,d1,d2⟩
   go_simp
   exact hK _ _ ⟨a4,n4,y4,a3,y3,w3,w2,by simp only[eG,aD hlt,aA q2,aA q3,aA q5,reduceIte,Nat.reduceEqDiff];try rfl,oH.first hlt (by decide) n7 ⟨d1,d2⟩⟩
  ·have q1:up L 1=true:=hD 1 (by simp)
   have q6:up L 6=true:=hD 6 (by simp)
   have n9:up L 9=false:=hC.no nl 9 rfl (by kernel_rfl)
   obtain⟨d1,y4,_⟩:=hW.2 q6
   obtain rfl:=y4 nl
   obtain⟨a4,y5,u3,hr3,hA3⟩:=HT.out _ a2 n2 y2 d1.2 d1.1
   simp only[eG,aA q1,aA q6]
   rw[if_pos (by rfl)]
   refine Lib.wp_append_run _ (.tmp 64) (.tmp 69) 22 22 rfl _ _ rfl rfl _ _ hr3 ?_
   go_simp
   exact hK _ _ ⟨a2,n2,y2,a4,y5,w,u3,by simp only[eG,aD hlt,aA q1,aA q6,reduceIte,Nat.reduceEqDiff];try rfl,hW.second hlt (by decide) n9 q6 hA3⟩
  ·simp only[eG]
   go_simp
   exact hK _ _ ⟨a2,n2,y2,a3,y3,w1,w2,by simp only[eG,aD hlt,reduceIte,Nat.reduceEqDiff];try rfl,(hW.keep hlt (by decide) (by decide) (by decide))⟩
  ·have q7:up L 7=true:=hD 7 (by simp)
   have q8:up L 8=true:=hD 8 (by simp)
   have q6:up L 6=true:=hC 7 _ rfl q7 { on:=6,ground:=.data } (by simp) rfl
   obtain⟨d1,_,d2⟩:=hW.2 q6
   obtain⟨d3,y4,_⟩:=d2 q7
   obtain rfl:=y4 nl
   obtain⟨e1,e2⟩:=HA.out _ _ _ _ d1.2 d3
   simp only[eG,aA q7,aA q8]
   go_simp
   exact hK _ _ ⟨a2,n2,y2,a3,y3,w1,w,by simp only[eG,aD hlt,aA q7,aA q8,reduceIte,Nat.reduceEqDiff];try rfl,hW.third hlt q6 q7 rfl⟩
 case done=>
  rintro L a u ⟨a2,n2,y2,a3,y3,w1,w2,rfl,hW⟩ hall
  simp only[eG,aA (hall 0 (by decide)),aA (hall 1 (by decide)),aA (hall 2 (by decide)),aA (hall 3 (by decide)),aA (hall 4 (by decide)),aA (hall 5 (by decide)),aA (hall 6 (by decide)),aA (hall 7 (by decide)),aA (hall 8 (by decide)),aA (hall 9 (by decide))]
  obtain⟨d1,_,d2⟩:=hW.2 (hall 6 (by decide))
  obtain⟨d3,_,d4⟩:=d2 (hall 7 (by decide))
  obtain rfl:=d4 (hall 9 (by decide))
  exact nI.out a2 n2 y2 a3 y3 w1 w2 (Below.trans (Below.drew (Below.refl _ _)) d1.2) d3
noncomputable def Zd (n:Nat):Code:=((Tryz.f38.body.bind (sV n)).getD .skip)
set_option maxRecDepth 100000 in
theorem UL {lo:Nat} (g:Nat) (en sk:Int) (is:List Pl.Ins) (ai:Option Addr) (ni ci:Nat) (vc vd:Value) (cs ds:List Int) {c0 c1 c2 c4 c5 c6 c7 c8 c9 c10 c11 c12 c13 c14 c15 c16 c17 c18 c19 c20 c21 dW c23 c24 dP eP fO c28 eQ eT c31 c32 eU c34 eX eY c37 fP fQ c40 iF iG c46 iY iH c49 iI c51 iJ c53 iZ iK iL iM fH c59 fU fV fZ gU c64 jC jX jY jZ kC c70 kI c72 jJ kJ c75:Value} (w0 Y:World) (hF:vO w0 Y g en sk vc vd cs ds) (hI:aY lo Y ai ni is) (hgl:g<lo) (hcs:cs.length<=100000) {Q:Exit->Act->World->Prop}
  (hN:∀ (s8 s9 s10 s43 s44 Eh Ei Ej El s49 Em En Eo s53 Ep Er Es Et Eu:Value) (u:World) (KP:Value),vO w0 u g en sk KP vd (cs ++ is.map bI) ds->sJ 3 g Y u->Q .normal { tmps:=#[c0,c1,c2,.pointer (some ⟨g,0,none⟩),c4,c5,c6,c7,s8,s9,s10,c11,c12,c13,c14,c15,c16,c17,c18,c19,c20,c21,dW,c23,c24,dP,eP,fO,c28,eQ,eT,c31,c32,eU,c34,eX,eY,c37,fP,fQ,c40,.slice ai ni ci,.int .i64 (ni:Nat),s43,s44,Eh,Ei,Ej,El,s49,Em,En,Eo,s53,Ep,Er,Es,Et,Eu,c59,fU,fV,fZ,gU,c64,jC,jX,jY,jZ,kC,c70,kI,c72,jJ,kJ,c75],defers:=[] } u) :
  (Zd 3).wp Tryz.prog Q { tmps:=#[c0,c1,c2,.pointer (some ⟨g,0,none⟩),c4,c5,c6,c7,c8,c9,c10,c11,c12,c13,c14,c15,c16,c17,c18,c19,c20,c21,dW,c23,c24,dP,eP,fO,c28,eQ,eT,c31,c32,eU,c34,eX,eY,c37,fP,fQ,c40,.slice ai ni ci,.int .i64 (ni:Nat),.int .i64 0,iF,iG,c46,iY,iH,c49,iI,c51,iJ,c53,iZ,iK,iL,iM,fH,c59,fU,fV,fZ,gU,c64,jC,jX,jY,jZ,kC,c70,kI,c72,jJ,kJ,c75],defers:=[] } Y:=by
 obtain⟨a6,y6,hv6⟩:=aT hF.od
 subst hv6
 have wE:Hid (∀ (s8 s9 s10 s43 s44 Eh Ei Ej El s49 Em En Eo s53 Ep Er Es Et Eu:Value) (u:World) (KP:Value),vO w0 u g en sk KP (.slice a6 ds.length y6) (cs ++ is.map bI) ds->sJ 3 g Y u->Q .normal { tmps:=#[c0,c1,c2,.pointer (some ⟨g,0,none⟩),c4,c5,c6,c7,s8,s9,s10,c11,c12,c13,c14,c15,c16,c17,c18,c19,c20,c21,dW,c23,c24,dP,eP,fO,c28,eQ,eT,c31,c32,eU,c34,eX,eY,c37,fP,fQ,c40,.slice ai ni ci,.int .i64 (ni:Nat),s43,s44,Eh,Ei,Ej,El,s49,Em,En,Eo,s53,Ep,Er,Es,Et,Eu,c59,fU,fV,fZ,gU,c64,jC,jX,jY,jZ,kC,c70,kI,c72,jJ,kJ,c75],defers:=[] } u):=hN
 have HF:Hid (vO w0 Y g en sk vc (.slice a6 ds.length y6) cs ds):=hF
 have HI:Hid (aY lo Y ai ni is):=hI
 have hni:ni<=2:=hI.2.1
 have Ef:Hid (is.length=ni):=hI.1
 obtain⟨i0,hi0,hz0,hz1,hz2⟩:=info_parts CL
 clear hN hF hI
 conv=>arg 2;whnf
 dsimp only
 go_wp2_with fail
 go_loopw [43] (fun i wr=>∃ j:Nat,j<=ni/\i=.int .i64 (j:Nat)/\∃ KP,vO w0 wr g en sk KP (.slice a6 ds.length y6) (cs ++ (is.take j).map bI) ds/\sJ 3 g Y wr) (fun i _=>ni-(intOf i).toNat)
 case atStart=>exact⟨0,Nat.zero_le _,rfl,vc,by simpa using HF.out,sJ.refl _ _ _⟩
 case round=>
  obtain⟨j,hj,rfl,KP,hs,hb⟩:=hrel
  have HB:Hid (sJ 3 g Y wr):=hb
  have Uq:Hid (aY lo wr ai ni is):=HI.out.Ma hb hgl
  obtain⟨a5,y5,hv5⟩:=aT hs.oc
  subst hv5
  have Ur:Hid ((cs ++ (is.take j).map bI).length<=100000+2):=by show _<=_;rw[List.length_append,List.length_map,List.length_take];omega
  by_cases hlt:j<ni
  ·have hi:(j:Int)<(ni:Int):=by omega
   have HT1:Hid (cs ++ (is.take (j+1)).map bI=(cs ++ (is.take j).map bI) ++ [bI (is.getD j Pl.Ins.zero)]):=by
    show _=_
    rw[List.take_add_one,List.map_append,List.append_assoc]
    rw[List.getD_eq_getElem?_getD,List.getElem?_eq_getElem (by rw[Ef.out];exact hlt)]
    rfl
   obtain⟨b,hai,hlo,hblt,_,hc⟩:=Uq.out.2.2.resolve_left (by omega)
   have d0:=hc j hlt 0 (by decide);have d1:=hc j hlt 1 (by decide);have d2:=hc j hlt 2 (by decide);have d3:=hc j hlt 3 (by decide);have d4:=hc j hlt 4 (by decide)
   clear hc
   subst hai
   generalize hC:cs ++ (is.take j).map bI=C at *
   clear hC
   have HS:Hid (vO w0 wr g en sk (.slice a5 C.length y5) (.slice a6 ds.length y6) C ds):=hs
   have hcl:C.length<=100002:=Ur.out
   generalize is.getD j Pl.Ins.zero=y at *
   clear hs hb
   simp only[Pl.Ins.cells,Nat.add_zero,List.getElem?_toArray,List.getElem?_cons_zero,List.getElem?_cons_succ]at d0 d1 d2 d3 d4
   have HE:Hid (∀ u:World,Calls Tryz.prog 43 #[.agg #[.int .i64 y.op,.int .i64 y.rd,.int .i64 y.r1,.int .i64 y.r2,.int .i64 y.im]] u fun e w'=>e=.returned (.tuple #[.int .i64 (bI y),.bool y.ok])/\Below u.heap.size u w'):=fun u=>SI y u
   go_wp2_with (first | (at_builtin;refine wpList_append_own _ rfl (.tmp 53) (.tmp 55) 26 rfl w0.heap.size 3 i0 (.int .i64 0) 1 8 Tryz.underlying26 hi0 hz0 hz1 hz2 rfl (by decide) (.slice a5 C.length y5) C.length (Pl.IW C) rfl (HS2.out.oc.alloc _) ⟨u1.heap.size,0,none⟩ 1 1 [.int .i64 (bI y)] rfl rfl (rU _ _ _ (by simp)) (by intro u hu;simp at hu;subst hu;rfl) (by unfold maxLen;omega) (by omega) (by have:=HS2.out.size;simp;omega) ?_;intro v' u2 hown1 bG _;obtain⟨a8,y8,zY⟩:=aT hown1;subst zY;have hby:oZ 3 u1 u2:=(oZ.below (aB u1 _)).trans (oZ.grown (HS2.out.oc.alloc _) bG);have hbe:Below w0.heap.size u1 u2:=Below.grown (Below.alloc (Below.refl _ _) HS2.out.size _) bG (by have:=HS2.out.size;simp;omega) (fun k hk=>(HS2.out.oc.lt k hk).1);have HG:Hid (vO w0 (u2.setCell ⟨g,0,none⟩ (.slice a8 (C.length+1) y8)) g en sk (.slice a8 (C.length+1) y8) (.slice a6 ds.length y6) (C ++ [bI y]) ds/\oZ 3 u1 u2):=⟨HS2.out.XP (by rw[Pl.CQ,List.length_append];exact hown1) hby hbe,hby⟩; have hrow:u2.heap[g]?=some (.cells #[.slice a5 C.length y5,.slice a6 ds.length y6,.int .i64 en,.int .i64 sk] 28 (0,0)):=hby.block g _ HS2.out.row (fun c q=>by injection q with _ q2 _;exact absurd q2 (by decide));have y1:u2.cell? ⟨g,0,none⟩=some (.slice a5 C.length y5):=cell_of_row _ _ 0 _ 28 (0,0) hrow;have y2:u2.frozen? ⟨g,0,none⟩=false:=frozen_of_row _ _ 0 _ 28 hrow;clear hown1 bG hby hbe hrow) | (go_at_call 43;refine (HE.out _).mono ?_;rintro e u1 ⟨rfl,d1⟩; have HD:Hid (Below wr.heap.size wr u1):=(aB wr _).trans (d1.mono (by simp));have HS2:Hid (vO w0 u1 g en sk (.slice a5 C.length y5) (.slice a6 ds.length y6) C ds):=HS.out.keep HD.out;have m0:u1.cell? ⟨g,0,none⟩=some (.slice a5 C.length y5):=cell_of_row _ _ 0 _ 28 (0,0) HS2.out.row;clear d1))
   obtain⟨hg1,hg2⟩:=HG.out
   refine⟨⟨j+1,by omega,by go_num,.slice a8 (C.length+1) y8,?_,?_⟩,by simp[intOf];omega⟩
   ·rw[HT1.out];exact hg1
   ·exact HB.out.trans ((sJ.of (oZ.below HD.out)).trans ((sJ.of hg2).trans (sJ.set _ _ _ _ _)))
  ·have hjj:j=ni:=by omega
   have hi:¬ ((j:Int)<(ni:Int)):=by omega
   have HJ:Hid (j=ni):=hjj
   have HS:Hid (vO w0 wr g en sk (.slice a5 (cs ++ (is.take j).map bI).length y5) (.slice a6 ds.length y6) (cs ++ (is.take j).map bI) ds):=hs
   clear hs hb hjj
   go_wp2
   refine wE.out _ _ _ _ _ _ _ _ _ _ _ _ _ _ _ _ _ _ _ _ (.slice a5 (cs ++ (is.take j).map bI).length y5) ?_ HB.out
   have hs:=HS.out
   rw[HJ.out,<- Ef.out,List.take_length]at hs ⊢
   exact hs
variable {lo:Nat} {xs:List Pl.Ln} {w u u':World} {ga gm:Nat} {a:Option Addr} {len cap:Nat} {stack:Int} {B:Nat} {mb:Nat->Nat}
theorem UM {s:ByteArray} {j:Nat} (h:Pl.lb xs s=some j):Pl.gT xs s=(Pl.cu xs j).at:=by unfold Pl.gT;rw[h]
theorem IC (k:Nat) (hk:k<xs.length) (h:sZ lo xs w u ga gm a len cap stack B mb) (hK:∀ i,i<xs.length->nA (Pl.gl xs i)) (hlo:∀ i,i<xs.length->Pl.lost xs i=false) (hsz:(Pl.gl xs k).s.size<=maxLen) (hs:¬ (Pl.gl xs k).s.size=0->-2147483648<=(Pl.gl xs k).n/\(Pl.gl xs k).n<=2147483647) (W:World) (hW:Below u.heap.size u W):Calls Tryz.prog 120 #[.pointer (some ⟨ga,0,none⟩),.agg #[.int .i64 (Pl.gl xs k).k,.int .i64 (Pl.gl xs k).op,.int .i64 (Pl.gl xs k).rd,.int .i64 (Pl.gl xs k).r1,.int .i64 (Pl.gl xs k).r2,.int .i64 (Pl.gl xs k).im,.string (Pl.gl xs k).s,.int .i64 (Pl.gl xs k).n]] W fun e w'=>e=.returned (.int .i64 (Pl.uC xs (Pl.gl xs k)))/\Below W.heap.size W w':=by
 refine KX (Pl.gl xs k) (h.keep hW) hsz (fun q=>?_)
 obtain⟨j,hj,hl⟩:=UI hK hlo hk q
 have hb:=oJ hK (by rw[kH.sD h];exact kH.n h) (k:=j) (by omega)
 have:=hs q
 exact⟨j,hl,by omega,by omega⟩
theorem UN (k:Nat) (hk:k<xs.length) (h:sZ lo xs w u ga gm a len cap stack B mb) (hK:∀ i,i<xs.length->nA (Pl.gl xs i)) (hlo:∀ i,i<xs.length->Pl.lost xs i=false) (hsz:(Pl.gl xs k).s.size<=maxLen) (hT:Pl.wN (Pl.gl xs k).k=true):sF (Pl.gl xs k) (Pl.gT xs (Pl.gl xs k).s) (Pl.cu xs k).at ga u:=by
 have hn:xs.length<=20000:=by rw[kH.sD h];exact kH.n h
 unfold Pl.wN at hT
 have hT':=of_decide_eq_true hT
 have hx:=hK k hk
 have hbk:=oJ hK hn (k:=k) (by omega)
 by_cases hj:Pl.jT (Pl.gl xs k).k=true
 ·obtain⟨j,hjl,hl⟩:=UI hK hlo hk (hx.sym (by unfold Pl.jT at hj;have:=of_decide_eq_true hj;omega))
  have hb:=oJ hK hn (k:=j) (by omega)
  refine Ag _ _ _ ga u hj _ rfl ?_
  rw[UM hl]
  exact IA (Pl.gl xs k) (Pl.cu xs k).at j (h.keep (aB u _)) hsz hj hl (by omega)
 have hj':¬ ((Pl.gl xs k).k=3\/(Pl.gl xs k).k=7\/(Pl.gl xs k).k=8):=fun q=>hj (by unfold Pl.jT;exact decide_eq_true q)
 rcases (show (Pl.gl xs k).k=2\/(Pl.gl xs k).k=4\/(Pl.gl xs k).k=5\/(Pl.gl xs k).k=6\/(Pl.gl xs k).k=9 by omega) with q | q | q | q | q
 ·exact Ah _ _ _ ga u q
 ·cases hs:Pl.shr (Pl.gl xs k).n
  ·exact UK _ _ _ ga u q hs (hx.i.w4 q)
  ·exact UJ _ _ _ ga u q hs
 ·have hsy:=hx.sym (.inr (.inr (.inl q)))
  have hne:¬ (Pl.gl xs k).s=⟨#[]⟩:=fun e=>hsy (by rw[e];rfl)
  have hv:Pl.uC xs (Pl.gl xs k)=Pl.wd (Pl.gT xs (Pl.gl xs k).s+(Pl.gl xs k).n):=by unfold Pl.uC;rw[if_neg hne]
  exact Ak _ _ _ ga u q (Pl.uC xs (Pl.gl xs k)) (by rw[hv];exact Pl.uD _) hv (fun W hW=>IC k hk h hK hlo hsz (fun _=>hx.far (.inl q)) W hW)
 ·exact Ai _ _ _ ga u q
 ·exact Aj _ _ _ ga u q
theorem bytes_at (k:Nat) (hk:k<xs.length) (h:sZ lo xs w u ga gm a len cap stack B mb) (hK:∀ i,i<xs.length->nA (Pl.gl xs i)) (hlo:∀ i,i<xs.length->Pl.lost xs i=false) (hsz:(Pl.gl xs k).s.size<=maxLen) (hD:Pl.vR (Pl.gl xs k).k=true):xH (Pl.gl xs k) (Pl.cu xs k).b (Pl.dat xs k) ga u/\(Pl.dat xs k).length<=65536:=by
 have hn:xs.length<=20000:=by rw[kH.sD h];exact kH.n h
 have hD':12<=(Pl.gl xs k).k:=by unfold Pl.vR at hD;exact of_decide_eq_true hD
 have hx:=hK k hk
 have hcb:=Pl.jO xs (fun i hi=>(hK i hi).b) k (by omega)
 have Ox:0<=(Pl.cu xs k).b:=by omega
 have hdz:=Pl.uN hx.b (Pl.cu xs k).b Ox
 have CX:∀ W:World,Calls Tryz.prog 113 #[.agg #[.int .i64 (Pl.gl xs k).k,.int .i64 (Pl.gl xs k).op,.int .i64 (Pl.gl xs k).rd,.int .i64 (Pl.gl xs k).r1,.int .i64 (Pl.gl xs k).r2,.int .i64 (Pl.gl xs k).im,.string (Pl.gl xs k).s,.int .i64 (Pl.gl xs k).n],.int .i64 (Pl.cu xs k).b] W fun e w'=>e=.returned (.int .i64 (Pl.fK (Pl.gl xs k) (Pl.cu xs k).b))/\Below W.heap.size W w':=fun W=>wQ (Pl.gl xs k) (Pl.cu xs k).b hx.b (by omega) W
 have hlen:((Pl.dat xs k).length:Int)=Pl.fK (Pl.gl xs k) (Pl.cu xs k).b:=Pl.MM xs k hx.b Ox hD
 refine⟨?_,by omega⟩
 by_cases hz:(Pl.gl xs k).k=15\/(Pl.gl xs k).k=16
 ·rw[Pl.yR xs k hz]
  refine Al _ _ ga u _ (by omega) hz ?_
  have:=CX (u.alloc (.cells #[.int .i64 (Pl.gl xs k).k,.int .i64 (Pl.gl xs k).op,.int .i64 (Pl.gl xs k).rd,.int .i64 (Pl.gl xs k).r1,.int .i64 (Pl.gl xs k).r2,.int .i64 (Pl.gl xs k).im,.string (Pl.gl xs k).s,.int .i64 (Pl.gl xs k).n] 51))
  rw[show ((Pl.fK (Pl.gl xs k) (Pl.cu xs k).b).toNat:Int)=Pl.fK (Pl.gl xs k) (Pl.cu xs k).b by omega]
  exact this
 have hdat:Pl.dat xs k=Pl.nD (Pl.uC xs (Pl.gl xs k)) (Pl.fK (Pl.gl xs k) (Pl.cu xs k).b).toNat:=by unfold Pl.dat;rw[if_neg hz,if_pos hD]
 have aAe:=hx.b.k
 have DI:=IC k hk h hK hlo hsz (fun q=>hx.far (.inr ⟨by
  rcases (show (Pl.gl xs k).k=12\/(Pl.gl xs k).k=13\/(Pl.gl xs k).k=14 by omega) with e | e | e
  ·exact absurd (hx.XD (by omega) (by omega) (by omega) (by omega) (by omega) (by omega)) q
  ·exact absurd (hx.XD (by omega) (by omega) (by omega) (by omega) (by omega) (by omega)) q
  ·exact e,q⟩))
 have hvb:0<=Pl.uC xs (Pl.gl xs k)/\Pl.uC xs (Pl.gl xs k)<=4294967295:=by
  unfold Pl.uC
  by_cases hs:(Pl.gl xs k).s=⟨#[]⟩
  ·rw[if_pos hs]
   rcases (show (Pl.gl xs k).k=12\/(Pl.gl xs k).k=13\/(Pl.gl xs k).k=14 by omega) with e | e | e
   ·have:=hx.n12 e;omega
   ·have:=hx.n13 e;omega
   ·exact hx.Kc e (by rw[hs];rfl)
  ·rw[if_neg hs];exact Pl.uD _
 rcases (show (Pl.gl xs k).k=12\/(Pl.gl xs k).k=13\/(Pl.gl xs k).k=14 by omega) with e | e | e
 ·have hd:Pl.fK (Pl.gl xs k) (Pl.cu xs k).b=1:=by unfold Pl.fK;rw[if_pos e]
  rw[hdat,hd]
  rw[hd]at CX
  exact Am _ _ _ ga u hvb ⟨by omega,by omega⟩ (CX _) DI
 ·have hd:Pl.fK (Pl.gl xs k) (Pl.cu xs k).b=2:=by unfold Pl.fK;rw[if_neg (by omega),if_pos e]
  rw[hdat,hd]
  rw[hd]at CX
  exact Ao _ _ _ ga u hvb ⟨by omega,by omega⟩ (CX _) DI
 ·have hd:Pl.fK (Pl.gl xs k) (Pl.cu xs k).b=4:=by unfold Pl.fK;rw[if_neg (by omega),if_neg (by omega),if_pos e]
  rw[hdat,hd]
  rw[hd]at CX
  exact Ap _ _ _ ga u hvb ⟨by omega,by omega⟩ (CX _) DI
theorem mU {u u':World} {B:Nat} {e t:TypeId} {s n:Nat} {v:Value} {ys:List Value} {g:Nat} {cur:Array Value} {f:Nat × Nat} (h:u.ownsRow B e s v n ys) (hg:u.heap[g]?=some (.cells cur t f)) (ht:t≠e) (ho:OnlyC g u u'):u'.ownsRow B e s v n ys:=
 h.kept ho.grown (by
  rcases h.2 with ⟨rfl,_⟩ | ⟨g',cap,cur',rfl,_,hg',_⟩
  ·exact .inl rfl
  ·right
   intro c
   have:g'=g:=by simpa [Value.ownBlock] using c
   subst this
   rw[hg]at hg'
   injection hg' with q
   injection q with _ q2 _
   exact ht q2)
structure UO (u:World) (j:Nat) (stack:Int) (xs:List Pl.Ln) (cs ds:List Int) (A:World):Prop where
 im:∃ vc vd,vO u A (u.heap.size+1) (Pl.cu xs j).at stack vc vd cs ds
 r:A.heap[u.heap.size]?=some (.cells #[.slice none 0 0,.slice none 0 0,.int .i64 0,.int .i64 0] 28 (0,0))
structure VH (u:World) (j:Nat) (stack:Int) (xs:List Pl.Ln) (k:Nat) (A:World):Prop where
 p:UO u j stack xs (Pl.aL bI xs k) (Pl.aH xs k) A
 c:bF A (u.heap.size+2) (Pl.cu xs k)
theorem UO.gP {u A:World} {j:Nat} {stack:Int} {xs:List Pl.Ln} {cs ds:List Int} (h:UO u j stack xs cs ds A):Below u.heap.size u A:=by
 obtain⟨_,_,h1⟩:=h.im;exact h1.gP
theorem UO.keep {u A A':World} {j:Nat} {stack:Int} {xs:List Pl.Ln} {cs ds:List Int} (h:UO u j stack xs cs ds A) (hb:Below A.heap.size A A'):UO u j stack xs cs ds A':=by
 obtain⟨vc,vd,h1⟩:=h.im
 exact⟨⟨vc,vd,h1.keep hb⟩,(hb.block _ (Array.getElem?_eq_some_iff.1 h.r).1).trans h.r⟩
theorem VH.pass {u A A':World} {j k:Nat} {stack:Int} {xs:List Pl.Ln} {c:Pl.kV} (h:UO u j stack xs (Pl.aL bI xs (k+1)) (Pl.aH xs (k+1)) A) (hc:bF A (u.heap.size+2) c) (hc':bF A' (u.heap.size+2) (Pl.cu xs (k+1))) (ho:OnlyC (u.heap.size+2) A A'):VH u j stack xs (k+1) A':=by
 obtain⟨vc,vd,h1⟩:=h.im
 obtain⟨cur,hr⟩:=hc.row
 refine⟨⟨⟨vc,vd,(ho.block _ h1.lt (by omega)).trans h1.row,mU h1.oc hr (by decide) ho,mU h1.od hr (by decide) ho,h1.gP.trans (ho.low (by omega) h1.size),h1.hg⟩,(ho.block _ (Array.getElem?_eq_some_iff.1 h.r).1 (by omega)).trans h.r⟩,hc'⟩
theorem NF {x:Pl.Ln} {t la:Int} (h:Pl.wN x.k=false):Pl.bM x t la=[]:=by
 unfold Pl.wN at h
 have h':=of_decide_eq_false h
 unfold Pl.bM Pl.jT
 rw[if_neg (by rw[decide_eq_true_eq];omega),if_neg (by omega),if_neg (by omega),if_neg (by omega),if_neg (by omega),if_neg (by omega)]
variable {lo:Nat} {xs:List Pl.Ln} {w u u':World} {ga gm:Nat} {a:Option Addr} {len cap:Nat} {stack:Int} {B:Nat} {mb:Nat->Nat}
set_option maxRecDepth 100000 in
theorem UQ (j:Nat) (h:sZ lo xs w u ga gm a len cap stack B mb) (hK:∀ i,i<xs.length->nA (Pl.gl xs i)) (hlo:∀ i,i<xs.length->Pl.lost xs i=false) (hS:∀ i,i<xs.length->Pl.dU xs i=false) (hl:Pl.lb xs Pl.dB=some j):Calls Tryz.prog 38 #[.pointer (some ⟨ga,0,none⟩)] u fun e u'=>∃ vc vd,e=.returned (.agg #[vc,vd,.int .i64 (Pl.cu xs j).at,.int .i64 stack])/\u'.ownsRow u.heap.size 3 1 vc (Pl.aL bI xs xs.length).length (Pl.IW (Pl.aL bI xs xs.length))/\u'.ownsRow u.heap.size 5 1 vd (Pl.aH xs xs.length).length (Pl.rY (Pl.aH xs xs.length))/\Below u.heap.size u u':=by
 have lM:Hid (xs.length=len/\len<=20000):=⟨kH.sD h,kH.n h⟩
 have HH:Hid _:=h
 have HK:Hid _:=hK
 have Aq:Hid _:=hlo
 have UR:Hid (∀ k,k<=xs.length->(Pl.aL bI xs k).length<=100000/\(Pl.aH xs k).length<=4294967296):=fun k hk=>by
  have h1:=Pl.eB bI xs (fun i hi=>(hK i hi).b) hS k hk
  have h2:=Pl.jO xs (fun i hi=>(hK i hi).b) k hk
  have:=lM.out
  omega
 obtain⟨V1,hV1⟩:∃ V1,V1=u.alloc (.cells #[.slice none 0 0,.slice none 0 0,.int .i64 0,.int .i64 0] 28):=⟨_,rfl⟩
 have hB1:Below u.heap.size u V1:=by rw[hV1];exact aB u _
 have hz1:V1.heap.size=u.heap.size+1:=by rw[hV1];simp
 have r0:V1.heap[u.heap.size]?=some (.cells #[.slice none 0 0,.slice none 0 0,.int .i64 0,.int .i64 0] 28 (0,0)):=by rw[hV1];exact heap_alloc_new u _
 obtain⟨V2,hV2⟩:∃ V2,V2=V1.drew.alloc (.cells #[.slice none 0 0,.slice none 0 0,.int .i64 (Pl.cu xs j).at,.int .i64 stack] 28):=⟨_,rfl⟩
 have hz2:V2.heap.size=u.heap.size+2:=by rw[hV2];simp;omega
 have hB2:Below u.heap.size u V2:=by rw[hV2];exact Below.trans (Below.drew hB1) ((aB _ _).mono (by show u.heap.size<=V1.heap.size;omega))
 have r0':V2.heap[u.heap.size]?=some (.cells #[.slice none 0 0,.slice none 0 0,.int .i64 0,.int .i64 0] 28 (0,0)):=by rw[hV2,Below.heap_alloc _ _ _ (by show u.heap.size<V1.heap.size;omega)];exact r0
 have r1:V2.heap[u.heap.size+1]?=some (.cells #[.slice none 0 0,.slice none 0 0,.int .i64 (Pl.cu xs j).at,.int .i64 stack] 28 (0,0)):=by rw[hV2];exact bL (by show u.heap.size+1=V1.heap.size;omega)
 have HI0:Hid (VH u j stack xs 0 (V2.alloc (.cells #[.bool false,.int .i64 0,.int .i64 0] 69))):=by
  have hbc:=aB V2 (.cells #[.bool false,.int .i64 0,.int .i64 0] 69)
  have q1:(V2.alloc (.cells #[.bool false,.int .i64 0,.int .i64 0] 69)).heap[u.heap.size+2]?=some (.cells #[.bool false,.int .i64 0,.int .i64 0] 69 (0,0)):=bL (by omega)
  refine⟨⟨⟨.slice none 0 0,.slice none 0 0,(hbc.block _ (by omega)).trans r1,World.ownsRow_nil _ _ _ _,World.ownsRow_nil _ _ _ _,hB2.trans (hbc.mono (by omega)),by omega⟩,(hbc.block _ (by omega)).trans r0'⟩,⟨cell_of_row _ _ 0 _ 69 (0,0) q1,cell_of_row _ _ 1 _ 69 (0,0) q1,cell_of_row _ _ 2 _ 69 (0,0) q1,fun j=>frozen_of_row _ _ j _ 69 q1,by simp;omega,⟨_,q1⟩⟩⟩
 have hm0:(V2.alloc (.cells #[.bool false,.int .i64 0,.int .i64 0] 69)).cell? ⟨ga,0,none⟩=some (.slice a len cap):=(kH.am ((h.keep hB2).keep (aB V2 _))).cell 0
 have HR1:Hid (V1.cell? ⟨ga,1,none⟩=some (.int .i64 stack)/\V1.cell? ⟨ga,2,none⟩=some (.map (some gm))/\V1.cell? ⟨mb j,2,none⟩=some (.int .i64 (Pl.cu xs j).at)/\∀ v:World,Below V1.drew.heap.size V1.drew v->(Instr.lookup 67 (.map (some gm)) (.string ⟨#[95,115,116,97,114,116]⟩) false).run Tryz.prog v=.ok (.pointer (some ⟨mb j,0,none⟩)) v):=by
  have hA:=h.keep hB1
  refine⟨(kH.am hA).cell 1,(kH.am hA).cell 2,(hA.mark hl).2.2,fun v hv=>?_⟩
  have:=kH.look ((hA.keep (Below.drew (Below.refl _ _))).keep hv) (s:=Pl.dB) (by unfold Pl.dB maxLen;decide)
  rw[hl]at this
  exact this
 have HZ1:Hid (u.heap.size+1=V1.heap.size):=hz1.symm
 have HZ2:Hid (V2.heap.size=u.heap.size+2):=hz2
 have HV1:Hid _:=hV1.symm
 have Kh:Hid _:=hV2.symm
 have hlen:(len:Int)<=20000:=by have:=lM.out;omega
 clear h hK hlo hS hl hB1 hz1 r0 hB2 hz2 r0' r1 hV1 hV2
 go_enter Tryz.func38,Tryz.ntmps38
 go_upto_region 1 with fail
 rw[HV1.out]
 refine Yy ga gm (mb j) (u.heap.size+1) (Pl.cu xs j).at stack V1 HZ1.out HR1.out.1 HR1.out.2.1 HR1.out.2.2.1 HR1.out.2.2.2 ?_
 rw[Kh.out]
 go_wp2_with fail
 rw[HZ2.out]
 go_loopw [30] (fun i wr=>∃ k:Nat,k<=len/\i=.int .i64 (k:Nat)/\VH u j stack xs k wr) (fun i _=>len-(intOf i).toNat)
 case atStart=>exact⟨0,Nat.zero_le _,rfl,HI0.out⟩
 case round=>
  obtain⟨k,hk,rfl,hI⟩:=hrel
  have HI:Hid _:=hI
  clear hI hm0
  by_cases hlt:k<len
  ·have hi:(k:Int)<(len:Int):=by omega
   have Ab:Hid (k<xs.length):=by show k<xs.length;rw[lM.out.1];exact hlt
   obtain⟨b,off,ha,hlo,hb1,hsz,c0,c1,c2,c3,c4,c5,c6,c7⟩:=(kH.am (sZ.keep HH.out HI.out.p.gP)).lines.at k hlt
   have VF:Hid _:=hsz
   have Iw:Hid (∀ W,bF W (u.heap.size+2) (Pl.cu xs k)->Calls Tryz.prog 75 #[.pointer (some ⟨u.heap.size+2,0,none⟩),.agg #[.int .i64 (Pl.gl xs k).k,.int .i64 (Pl.gl xs k).op,.int .i64 (Pl.gl xs k).rd,.int .i64 (Pl.gl xs k).r1,.int .i64 (Pl.gl xs k).r2,.int .i64 (Pl.gl xs k).im,.string (Pl.gl xs k).s,.int .i64 (Pl.gl xs k).n]] W fun e w'=>e=.returned (.tuple #[])/\bF w' (u.heap.size+2) (Pl.cu xs (k+1))/\OnlyC (u.heap.size+2) W w'):=fun W hW=>xQ k Ab.out (fun i hi=>(HK.out i hi).b) (by rw[lM.out.1];exact lM.out.2) _ W hW
   have HAD:Hid (∀ W,bF W (u.heap.size+2) (Pl.cu xs k)->Calls Tryz.prog 83 #[.pointer (some ⟨u.heap.size+2,0,none⟩)] W fun e w'=>e=.returned (.int .i64 (Pl.cu xs k).at)/\w'=W):=fun W hW=>uR _ _ W hW (by have hb:=Pl.jO xs (fun i hi=>(HK.out i hi).b) k (Nat.le_of_lt Ab.out);have:=lM.out;omega)
   have mR:Hid (Pl.wN (Pl.gl xs k).k=true->∀ v,Below u.heap.size u v->sF (Pl.gl xs k) (Pl.gT xs (Pl.gl xs k).s) (Pl.cu xs k).at ga v):=fun q v hv=>UN k Ab.out (sZ.keep HH.out hv) HK.out Aq.out VF.out q
   have Xp:Hid (Pl.vR (Pl.gl xs k).k=true->(Pl.dat xs k).length<=65536/\∀ v,Below u.heap.size u v->xH (Pl.gl xs k) (Pl.cu xs k).b (Pl.dat xs k) ga v):=fun q=>⟨(bytes_at k Ab.out HH.out HK.out Aq.out VF.out q).2,fun v hv=>(bytes_at k Ab.out (sZ.keep HH.out hv) HK.out Aq.out VF.out q).1⟩
   have Bz:Hid (Pl.aL bI xs (k+1)=Pl.aL bI xs k ++ (Pl.bM (Pl.gl xs k) (Pl.cu xs k).at (Pl.gT xs (Pl.gl xs k).s)).map bI):=Pl.dH bI xs k
   have wG:Hid (Pl.aH xs (k+1)=Pl.aH xs k ++ Pl.dat xs k):=Pl.dZ xs k
   have HD0:Hid (Pl.vR (Pl.gl xs k).k=false->Pl.dat xs k=[]):=fun q=>Pl.pQ xs k (by unfold Pl.vR at q;have:=of_decide_eq_false q;omega)
   have hwz:u.heap.size+2<wr.heap.size:=HI.out.c.lt
   have VI:Hid (Below u.heap.size u wr):=HI.out.p.gP
   have Oy:Hid (∀ o,(wr.alloc o).heap[wr.heap.size]?=some o):=fun o=>heap_alloc_new wr o
   subst ha
   clear hlo hb1 hsz
   generalize Pl.gl xs k=x at *
   cases hot:Pl.wN x.k
   rotate_left
   ·have Jc:Hid _:=hot
    have HT0:Hid (Pl.dat xs k=[]):=HD0.out (by unfold Pl.vR;unfold Pl.wN at hot;have:=of_decide_eq_true hot;exact decide_eq_false (by omega))
    clear hot
    go_upto_region 7 with (go_at_call 76;refine (tO _ _).mono ?_;rintro e u1 ⟨rfl,rfl⟩; rw[Jc.out])
    have Ou:Hid (Below u.heap.size u (wr.alloc (.cells #[.int .i64 x.k,.int .i64 x.op,.int .i64 x.rd,.int .i64 x.r1,.int .i64 x.r2,.int .i64 x.im,.string x.s,.int .i64 x.n] 51)).drew):=Below.drew (VI.out.trans ((aB wr _).mono VI.out.size))
    refine Yz ga (u.heap.size+2) wr.heap.size x (Pl.cu xs k).at (Pl.gT xs x.s) (wr.alloc (.cells #[.int .i64 x.k,.int .i64 x.op,.int .i64 x.rd,.int .i64 x.r1,.int .i64 x.r2,.int .i64 x.im,.string x.s,.int .i64 x.n] 51)) (Oy.out _) (HAD.out _ ((HI.out.c.keep (aB wr _)).keep (Below.drew (Below.refl _ _)))) (mR.out Jc.out _ Ou.out) ?_
    intro a2 n2 y2 w1 hR hB
    have sK:Hid (aY (wr.alloc (.cells #[.int .i64 x.k,.int .i64 x.op,.int .i64 x.rd,.int .i64 x.r1,.int .i64 x.r2,.int .i64 x.im,.string x.s,.int .i64 x.n] 51)).heap.size w1 a2 n2 (Pl.bM x (Pl.cu xs k).at (Pl.gT xs x.s))):=hR
    have HB:Hid (Below (wr.alloc (.cells #[.int .i64 x.k,.int .i64 x.op,.int .i64 x.rd,.int .i64 x.r1,.int .i64 x.r2,.int .i64 x.im,.string x.s,.int .i64 x.n] 51)).heap.size (wr.alloc (.cells #[.int .i64 x.k,.int .i64 x.op,.int .i64 x.rd,.int .i64 x.r1,.int .i64 x.r2,.int .i64 x.im,.string x.s,.int .i64 x.n] 51)) w1):=hB
    clear hR hB c0 c1 c2 c3 c4 c5 c6 c7
    go_upto_block 3 with fail
    have Ze:Hid (Below wr.heap.size wr w1):=(aB wr _).trans (HB.out.mono (by simp))
    obtain⟨vc,vd,him⟩:=(HI.out.p.keep Ze.out).im
    have PV:Hid _:=him
    clear him
    refine UL (u.heap.size+1) (Pl.cu xs j).at stack (Pl.bM x (Pl.cu xs k).at (Pl.gT xs x.s)) a2 n2 y2 vc vd (Pl.aL bI xs k) (Pl.aH xs k) u w1 PV.out sK.out (by simp;omega) (UR.out k (Nat.le_of_lt Ab.out)).1 ?_
    intro v8 v9 v10 v43 v44 v45 v46 v47 v48 v49 v50 v51 v52 v53 v54 v55 v56 v57 v58 u9 vc9 Jv Ar
    have Oz:Hid (UO u j stack xs (Pl.aL bI xs (k+1)) (Pl.aH xs (k+1)) u9):=by
     refine⟨⟨vc9,vd,?_⟩,Ar.block _ _ (by omega) (HI.out.p.keep Ze.out).r (fun c q=>by injection q with _ q2 _;exact absurd q2 (by decide))⟩
     rw[Bz.out,wG.out,HT0.out,List.append_nil]
     exact Jv
    have Cm:Hid (bF u9 (u.heap.size+2) (Pl.cu xs k)):=(HI.out.c.keep Ze.out).Ma Ar (by decide) (by omega)
    have wY:Hid (u9.heap[wr.heap.size]?=some (.cells #[.int .i64 x.k,.int .i64 x.op,.int .i64 x.rd,.int .i64 x.r1,.int .i64 x.r2,.int .i64 x.im,.string x.s,.int .i64 x.n] 51 (0,0))):=Ar.block _ _ (by omega) ((HB.out.block _ (by simp)).trans (Oy.out _)) (fun c q=>by injection q with _ q2 _;exact absurd q2 (by decide))
    clear Jv Ar
    have l0:=cell_of_row u9 wr.heap.size 0 _ 51 (0,0) wY.out
    have l1:=cell_of_row u9 wr.heap.size 1 _ 51 (0,0) wY.out
    have l2:=cell_of_row u9 wr.heap.size 2 _ 51 (0,0) wY.out
    have l3:=cell_of_row u9 wr.heap.size 3 _ 51 (0,0) wY.out
    have l4:=cell_of_row u9 wr.heap.size 4 _ 51 (0,0) wY.out
    have l5:=cell_of_row u9 wr.heap.size 5 _ 51 (0,0) wY.out
    have l6:=cell_of_row u9 wr.heap.size 6 _ 51 (0,0) wY.out
    have l7:=cell_of_row u9 wr.heap.size 7 _ 51 (0,0) wY.out
    simp only[List.getElem?_toArray,List.getElem?_cons_zero,List.getElem?_cons_succ]at l0 l1 l2 l3 l4 l5 l6 l7
    have KU:Hid _:=Iw.out u9 Cm.out
    go_wp2_with (first | (go_at_call 75;refine Calls.mono KU.out ?_;rintro e w9 ⟨rfl,Cn,Co⟩; have HN:Hid (VH u j stack xs (k+1) w9):=VH.pass Oz.out Cm.out Cn Co;clear Cn Co))
    exact⟨⟨k+1,by omega,by go_num,HN.out⟩,by simp[intOf];omega⟩
   have Jc:Hid _:=hot
   clear hot
   cases hod:Pl.vR x.k
   ·have Jd:Hid _:=hod
    have HT0:Hid (Pl.dat xs k=[]):=HD0.out hod
    have HI1:Hid (Pl.bM x (Pl.cu xs k).at (Pl.gT xs x.s)=[]):=NF Jc.out
    clear hod
    have Oz:Hid (UO u j stack xs (Pl.aL bI xs (k+1)) (Pl.aH xs (k+1)) (wr.alloc (.cells #[.int .i64 x.k,.int .i64 x.op,.int .i64 x.rd,.int .i64 x.r1,.int .i64 x.r2,.int .i64 x.im,.string x.s,.int .i64 x.n] 51))):=by
     show UO _ _ _ _ _ _ _
     rw[Bz.out,wG.out,HT0.out,HI1.out,List.map_nil,List.append_nil,List.append_nil]
     exact HI.out.p.keep (aB wr _)
    have Cm:Hid (bF (wr.alloc (.cells #[.int .i64 x.k,.int .i64 x.op,.int .i64 x.rd,.int .i64 x.r1,.int .i64 x.r2,.int .i64 x.im,.string x.s,.int .i64 x.n] 51)) (u.heap.size+2) (Pl.cu xs k)):=HI.out.c.keep (aB wr _)
    have wY:Hid ((wr.alloc (.cells #[.int .i64 x.k,.int .i64 x.op,.int .i64 x.rd,.int .i64 x.r1,.int .i64 x.r2,.int .i64 x.im,.string x.s,.int .i64 x.n] 51)).heap[wr.heap.size]?=some (.cells #[.int .i64 x.k,.int .i64 x.op,.int .i64 x.rd,.int .i64 x.r1,.int .i64 x.r2,.int .i64 x.im,.string x.s,.int .i64 x.n] 51 (0,0))):=Oy.out _
    have l0:=cell_of_row (wr.alloc (.cells #[.int .i64 x.k,.int .i64 x.op,.int .i64 x.rd,.int .i64 x.r1,.int .i64 x.r2,.int .i64 x.im,.string x.s,.int .i64 x.n] 51)) wr.heap.size 0 _ 51 (0,0) wY.out
    have l1:=cell_of_row (wr.alloc (.cells #[.int .i64 x.k,.int .i64 x.op,.int .i64 x.rd,.int .i64 x.r1,.int .i64 x.r2,.int .i64 x.im,.string x.s,.int .i64 x.n] 51)) wr.heap.size 1 _ 51 (0,0) wY.out
    have l2:=cell_of_row (wr.alloc (.cells #[.int .i64 x.k,.int .i64 x.op,.int .i64 x.rd,.int .i64 x.r1,.int .i64 x.r2,.int .i64 x.im,.string x.s,.int .i64 x.n] 51)) wr.heap.size 2 _ 51 (0,0) wY.out
    have l3:=cell_of_row (wr.alloc (.cells #[.int .i64 x.k,.int .i64 x.op,.int .i64 x.rd,.int .i64 x.r1,.int .i64 x.r2,.int .i64 x.im,.string x.s,.int .i64 x.n] 51)) wr.heap.size 3 _ 51 (0,0) wY.out
    have l4:=cell_of_row (wr.alloc (.cells #[.int .i64 x.k,.int .i64 x.op,.int .i64 x.rd,.int .i64 x.r1,.int .i64 x.r2,.int .i64 x.im,.string x.s,.int .i64 x.n] 51)) wr.heap.size 4 _ 51 (0,0) wY.out
    have l5:=cell_of_row (wr.alloc (.cells #[.int .i64 x.k,.int .i64 x.op,.int .i64 x.rd,.int .i64 x.r1,.int .i64 x.r2,.int .i64 x.im,.string x.s,.int .i64 x.n] 51)) wr.heap.size 5 _ 51 (0,0) wY.out
    have l6:=cell_of_row (wr.alloc (.cells #[.int .i64 x.k,.int .i64 x.op,.int .i64 x.rd,.int .i64 x.r1,.int .i64 x.r2,.int .i64 x.im,.string x.s,.int .i64 x.n] 51)) wr.heap.size 6 _ 51 (0,0) wY.out
    have l7:=cell_of_row (wr.alloc (.cells #[.int .i64 x.k,.int .i64 x.op,.int .i64 x.rd,.int .i64 x.r1,.int .i64 x.r2,.int .i64 x.im,.string x.s,.int .i64 x.n] 51)) wr.heap.size 7 _ 51 (0,0) wY.out
    simp only[List.getElem?_toArray,List.getElem?_cons_zero,List.getElem?_cons_succ]at l0 l1 l2 l3 l4 l5 l6 l7
    have KU:Hid _:=Iw.out (wr.alloc (.cells #[.int .i64 x.k,.int .i64 x.op,.int .i64 x.rd,.int .i64 x.r1,.int .i64 x.r2,.int .i64 x.im,.string x.s,.int .i64 x.n] 51)) Cm.out
    go_wp2_with (first | (go_at_call 76;refine (tO _ _).mono ?_;rintro e u1 ⟨rfl,rfl⟩; rw[Jc.out]) | (go_at_call 77;refine (vZ _ _).mono ?_;rintro e u1 ⟨rfl,rfl⟩; rw[Jd.out]) | (go_at_call 75;refine Calls.mono KU.out ?_;rintro e w9 ⟨rfl,Cn,Co⟩; have HN:Hid (VH u j stack xs (k+1) w9):=VH.pass Oz.out Cm.out Cn Co;clear Cn Co))
    exact⟨⟨k+1,by omega,by go_num,HN.out⟩,by simp[intOf];omega⟩
   ·have Jd:Hid _:=hod
    have HI1:Hid (Pl.bM x (Pl.cu xs k).at (Pl.gT xs x.s)=[]):=NF Jc.out
    clear hod
    go_upto_region 14 with (first | (go_at_call 76;refine (tO _ _).mono ?_;rintro e u1 ⟨rfl,rfl⟩; rw[Jc.out]) | (go_at_call 77;refine (vZ _ _).mono ?_;rintro e u1 ⟨rfl,rfl⟩; rw[Jd.out]))
    have Ou:Hid (Below u.heap.size u (wr.alloc (.cells #[.int .i64 x.k,.int .i64 x.op,.int .i64 x.rd,.int .i64 x.r1,.int .i64 x.r2,.int .i64 x.im,.string x.s,.int .i64 x.n] 51)).drew):=Below.drew (VI.out.trans ((aB wr _).mono VI.out.size))
    obtain⟨vc,vd,him⟩:=(HI.out.p.keep (aB wr (.cells #[.int .i64 x.k,.int .i64 x.op,.int .i64 x.rd,.int .i64 x.r1,.int .i64 x.r2,.int .i64 x.im,.string x.s,.int .i64 x.n] 51))).im
    obtain⟨a6,y6,hv6⟩:=aT him.od
    subst hv6
    have PV:Hid _:=him
    clear him c0 c1 c2 c3 c4 c5 c6 c7
    have HDR:Hid (∀ v:World,Below (wr.alloc (.cells #[.int .i64 x.k,.int .i64 x.op,.int .i64 x.rd,.int .i64 x.r1,.int .i64 x.r2,.int .i64 x.im,.string x.s,.int .i64 x.n] 51)).drew.heap.size (wr.alloc (.cells #[.int .i64 x.k,.int .i64 x.op,.int .i64 x.rd,.int .i64 x.r1,.int .i64 x.r2,.int .i64 x.im,.string x.s,.int .i64 x.n] 51)).drew v->Below (wr.alloc (.cells #[.int .i64 x.k,.int .i64 x.op,.int .i64 x.rd,.int .i64 x.r1,.int .i64 x.r2,.int .i64 x.im,.string x.s,.int .i64 x.n] 51)).heap.size (wr.alloc (.cells #[.int .i64 x.k,.int .i64 x.op,.int .i64 x.rd,.int .i64 x.r1,.int .i64 x.r2,.int .i64 x.im,.string x.s,.int .i64 x.n] 51)) v):=fun v hv=>Below.trans (Below.drew (Below.refl _ _)) hv
    refine Ow ga (u.heap.size+1) (u.heap.size+2) wr.heap.size (Pl.aH xs k ++ Pl.dat xs k).length x (Pl.cu xs k).b (Pl.dat xs k) a6 _ y6 (fun u1 a3 y3 u2=>iD u (Pl.aH xs k ++ Pl.dat xs k) u1 a3 y3 u2) (wr.alloc (.cells #[.int .i64 x.k,.int .i64 x.op,.int .i64 x.rd,.int .i64 x.r1,.int .i64 x.r2,.int .i64 x.im,.string x.s,.int .i64 x.n] 51)) (cell_of_row _ _ 1 _ 28 (0,0) PV.out.row) (Oy.out _) ((HI.out.c.keep (aB wr _)).b) ((Xp.out Jd.out).2 _ Ou.out) (fun u1 a2 n2 y2 hu1 hr1=>Ov (PV.out.keep (HDR.out u1 hu1)) hr1 (UR.out k (Nat.le_of_lt Ab.out)).2 (Xp.out Jd.out).1) (fun u1 a3 y3 u2 hu1 hd=>iD.Za PV.out (HDR.out u1 hu1) hd) ?_
    intro a2 n2 y2 a3 y3 w1 w2 hB hA2
    have Je:=iD.Zb PV.out hB hA2
    have hbx:sJ 5 (u.heap.size+1) w1 (w2.setCell ⟨u.heap.size+1,1,none⟩ (.slice a3 (Pl.aH xs k ++ Pl.dat xs k).length y3)):=(sJ.of hA2.2.2).trans (sJ.set _ _ _ _ _)
    obtain⟨u9,L6⟩:∃ u9,u9=w2.setCell ⟨u.heap.size+1,1,none⟩ (.slice a3 (Pl.aH xs k ++ Pl.dat xs k).length y3):=⟨_,rfl⟩
    rw[<- L6]at Je hbx ⊢
    have hBw:Below wr.heap.size wr w1:=(aB wr _).trans (hB.mono (by simp))
    have Oz:Hid (UO u j stack xs (Pl.aL bI xs (k+1)) (Pl.aH xs (k+1)) u9):=by
     refine⟨⟨vc,.slice a3 (Pl.aH xs k ++ Pl.dat xs k).length y3,?_⟩,hbx.block _ _ (by omega) (HI.out.p.keep hBw).r (fun c q=>by injection q with _ q2 _;exact absurd q2 (by decide))⟩
     rw[Bz.out,wG.out,HI1.out,List.map_nil,List.append_nil]
     exact Je
    have Cm:Hid (bF u9 (u.heap.size+2) (Pl.cu xs k)):=(HI.out.c.keep hBw).Ma hbx (by decide) (by omega)
    have wY:Hid (u9.heap[wr.heap.size]?=some (.cells #[.int .i64 x.k,.int .i64 x.op,.int .i64 x.rd,.int .i64 x.r1,.int .i64 x.r2,.int .i64 x.im,.string x.s,.int .i64 x.n] 51 (0,0))):=hbx.block _ _ (by omega) ((hB.block _ (by simp)).trans (Oy.out _)) (fun c q=>by injection q with _ q2 _;exact absurd q2 (by decide))
    clear Je hbx L6 hB hA2 hBw
    have l0:=cell_of_row u9 wr.heap.size 0 _ 51 (0,0) wY.out
    have l1:=cell_of_row u9 wr.heap.size 1 _ 51 (0,0) wY.out
    have l2:=cell_of_row u9 wr.heap.size 2 _ 51 (0,0) wY.out
    have l3:=cell_of_row u9 wr.heap.size 3 _ 51 (0,0) wY.out
    have l4:=cell_of_row u9 wr.heap.size 4 _ 51 (0,0) wY.out
    have l5:=cell_of_row u9 wr.heap.size 5 _ 51 (0,0) wY.out
    have l6:=cell_of_row u9 wr.heap.size 6 _ 51 (0,0) wY.out
    have l7:=cell_of_row u9 wr.heap.size 7 _ 51 (0,0) wY.out
    simp only[List.getElem?_toArray,List.getElem?_cons_zero,List.getElem?_cons_succ]at l0 l1 l2 l3 l4 l5 l6 l7
    have KU:Hid _:=Iw.out u9 Cm.out
    go_wp2_with (first | (go_at_call 75;refine Calls.mono KU.out ?_;rintro e w9 ⟨rfl,Cn,Co⟩; have HN:Hid (VH u j stack xs (k+1) w9):=VH.pass Oz.out Cm.out Cn Co;clear Cn Co))
    exact⟨⟨k+1,by omega,by go_num,HN.out⟩,by simp[intOf];omega⟩
  ·have hi:¬ ((k:Int)<(len:Int)):=by omega
   have hkk:k=xs.length:=by have:=lM.out.1;omega
   obtain⟨vc,vd,him⟩:=HI.out.p.im
   obtain⟨a5,y5,hv5⟩:=aT him.oc
   obtain⟨a6,y6,hv6⟩:=aT him.od
   subst hv5 hv6
   have PV:Hid _:=him
   have sK:Hid _:=HI.out.p.r
   have HKK:Hid (k=xs.length):=hkk
   have e0:=cell_of_row wr (u.heap.size+1) 0 _ 28 (0,0) him.row
   have e1:=cell_of_row wr (u.heap.size+1) 1 _ 28 (0,0) him.row
   have e2:=cell_of_row wr (u.heap.size+1) 2 _ 28 (0,0) him.row
   have e3:=cell_of_row wr (u.heap.size+1) 3 _ 28 (0,0) him.row
   have f0:=cell_of_row wr u.heap.size 0 _ 28 (0,0) sK.out
   have f1:=cell_of_row wr u.heap.size 1 _ 28 (0,0) sK.out
   have f2:=cell_of_row wr u.heap.size 2 _ 28 (0,0) sK.out
   have f3:=cell_of_row wr u.heap.size 3 _ 28 (0,0) sK.out
   have ff:=fun i=>frozen_of_row wr u.heap.size i _ 28 sK.out
   simp only[List.getElem?_toArray,List.getElem?_cons_zero,List.getElem?_cons_succ]at e0 e1 e2 e3 f0 f1 f2 f3
   clear him hkk
   go_wp2
   have g1:=heap_setCell_same wr u.heap.size 0 _ _ (.slice a5 (Pl.aL bI xs k).length y5) sK.out
   have g2:=heap_setCell_same _ u.heap.size 1 _ _ (.slice a6 (Pl.aH xs k).length y6) g1
   have g3:=heap_setCell_same _ u.heap.size 2 _ _ (.int .i64 (Pl.cu xs j).at) g2
   have g4:=heap_setCell_same _ u.heap.size 3 _ _ (.int .i64 stack) g3
   have o4:=(((OnlyC.set u.heap.size 0 wr (.slice a5 (Pl.aL bI xs k).length y5)).trans (OnlyC.set u.heap.size 1 _ (.slice a6 (Pl.aH xs k).length y6))).trans (OnlyC.set u.heap.size 2 _ (.int .i64 (Pl.cu xs j).at))).trans (OnlyC.set u.heap.size 3 _ (.int .i64 stack))
   refine bodyPost_ret (v:=.agg #[.slice a5 (Pl.aL bI xs k).length y5,.slice a6 (Pl.aH xs k).length y6,.int .i64 (Pl.cu xs j).at,.int .i64 stack]) (results_cell_row Tryz.results38 _ _ u.heap.size 28 _ (0,0) _ rfl g4 Tryz.underlying28 rfl (by kernel_rfl)) rfl ⟨_,_,rfl,?_,?_,PV.out.gP.trans (o4.low (Nat.le_refl _) PV.out.size)⟩
   ·have:=mU PV.out.oc sK.out (by decide) o4
    rw[HKK.out]at this ⊢
    exact this
   ·have:=mU PV.out.od sK.out (by decide) o4
    rw[HKK.out]at this ⊢
    exact this
structure Rr (w v:World):Prop where
 r:v.heap[w.heap.size]?=some (.cells #[.slice none 0 0,.slice none 0 0,.int .i64 0,.int .i64 0] 28 (0,0))
 low:Below w.heap.size w v
theorem Rr.keep {w v v':World} (h:Rr w v) (hb:Below v.heap.size v v'):Rr w v':=⟨(hb.block _ (Array.getElem?_eq_some_iff.1 h.r).1).trans h.r,h.low.trans (hb.mono h.low.size)⟩
structure Au (lo:Nat) (xs:List Pl.Ln) (w v:World) (ga gm:Nat) (a:Option Addr) (len cap:Nat) (stack:Int):Prop where
 am:xG lo xs w v ga gm a len cap stack ⟨false,0,0⟩
 lm:∀ B,rX xs B v gm 0 (fun _=>0) (fun _=>false) (fun _=>0)
 rr:Rr w v
 ga:w.heap.size<ga
 gm:w.heap.size<gm
structure Jf (lo:Nat) (xs:List Pl.Ln) (w v:World) (ga gm:Nat) (a:Option Addr) (len cap:Nat) (stack:Int):Prop where
 am:∃ B mb,kH lo xs w v ga gm a len cap stack ⟨false,0,0⟩ B mb (fun _=>false) (fun _=>0)/\B<=v.heap.size/\w.heap.size<B
 rr:Rr w v
 ga:w.heap.size<ga
structure QD (lo:Nat) (xs:List Pl.Ln) (w v:World) (ga gm:Nat) (a:Option Addr) (len cap:Nat) (stack:Int):Prop where
 am:∃ B mb,sZ lo xs w v ga gm a len cap stack B mb
 rr:Rr w v
variable {lo:Nat} {xs:List Pl.Ln} {w v v':World} {ga gm:Nat} {a:Option Addr} {len cap:Nat} {stack:Int}
theorem Au.keep (h:Au lo xs w v ga gm a len cap stack) (hb:Below v.heap.size v v'):Au lo xs w v' ga gm a len cap stack:=⟨h.am.keep hb,fun B=>(h.lm B).keep hb,h.rr.keep hb,h.ga,h.gm⟩
theorem Jf.keep (h:Jf lo xs w v ga gm a len cap stack) (hb:Below v.heap.size v v'):Jf lo xs w v' ga gm a len cap stack:=by
 obtain⟨B,mb,h1,h2,h3⟩:=h.am
 exact⟨⟨B,mb,h1.keep hb,Nat.le_trans h2 hb.size,h3⟩,h.rr.keep hb,h.ga⟩
theorem QD.keep (h:QD lo xs w v ga gm a len cap stack) (hb:Below v.heap.size v v'):QD lo xs w v' ga gm a len cap stack:=by
 obtain⟨B,mb,h1⟩:=h.am
 exact⟨⟨B,mb,h1.keep hb⟩,h.rr.keep hb⟩
theorem Jg (h:∀ i,i<xs.length->(!lF (Pl.gl xs i))=false):∀ i,i<xs.length->nA (Pl.gl xs i):=fun i hi=>pF (by simpa using h i hi)
theorem Zf (h:Au lo xs w v ga gm a len cap stack):Calls Tryz.prog 29 #[.pointer (some ⟨ga,0,none⟩)] v fun e v'=>e=.returned (.int .i64 (if 20000<len then 20000 else Pl.aV (fun i=>!lF (Pl.gl xs i)) len))/\Rr w v'/\(¬ 0<=(if 20000<len then 20000 else Pl.aV (fun i=>!lF (Pl.gl xs i)) len:Int)->Au lo xs w v' ga gm a len cap stack):=by
 refine (KH ga a len cap xs v h.am.lines (h.am.cell 0)).mono ?_
 rintro e v' ⟨rfl,hb⟩
 exact⟨rfl,h.rr.keep hb,fun _=>h.keep hb⟩
theorem Zg (h:Au lo xs w v ga gm a len cap stack) (hn:len<=20000) (hK:∀ i,i<xs.length->nA (Pl.gl xs i)):Calls Tryz.prog 30 #[.pointer (some ⟨ga,0,none⟩)] v fun e v'=>e=.returned (.int .i64 (Pl.aV (Pl.dU xs) len))/\Rr w v'/\(¬ 0<=(Pl.aV (Pl.dU xs) len:Int)->Au lo xs w v' ga gm a len cap stack):=by
 refine (CK ga a len cap xs v h.am.lines (h.am.cell 0) (fun i hi=>(hK i hi).b) hn).mono ?_
 rintro e v' ⟨rfl,hb⟩
 exact⟨rfl,h.rr.keep hb,fun _=>h.keep hb⟩
theorem Zh (h:Au lo xs w v ga gm a len cap stack) (hn:len<=20000):Calls Tryz.prog 31 #[.pointer (some ⟨ga,0,none⟩)] v fun e v'=>e=.returned (.int .i64 (Pl.aV (Pl.twice xs) len))/\Rr w v'/\(¬ 0<=(Pl.aV (Pl.twice xs) len:Int)->Jf lo xs w v' ga gm a len cap stack):=by
 refine (yV h.am (h.lm _) hn).mono ?_
 rintro e v' ⟨rfl,ho,hx⟩
 have hr:Rr w v':=⟨(ho.block _ (Array.getElem?_eq_some_iff.1 h.rr.r).1 (by have:=h.gm;omega)).trans h.rr.r,h.rr.low.trans (ho.low h.am.hgm h.rr.low.size)⟩
 refine⟨rfl,hr,fun q=>?_⟩
 obtain⟨mb,hl⟩:=hx (by rcases Pl.mE (Pl.twice xs) len with q2 | ⟨k,_,q2,_⟩; exact q2.1;rw[q2]at q;omega)
 exact⟨⟨v.heap.size,mb,⟨h.am.only ho h.am.hgm h.am.ne,hl,h.rr.low.size,h.am.lt,hn⟩,ho.size,Nat.lt_trans h.ga h.am.lt⟩,hr,h.ga⟩
theorem Zi (h:Jf lo xs w v ga gm a len cap stack):Calls Tryz.prog 32 #[.pointer (some ⟨ga,0,none⟩)] v fun e v'=>e=.returned (.int .i64 (Pl.aV (Pl.lost xs) len))/\Rr w v'/\(¬ 0<=(Pl.aV (Pl.lost xs) len:Int)->Jf lo xs w v' ga gm a len cap stack):=by
 obtain⟨B,mb,h1,h2,h3⟩:=h.am
 refine (AA h1).mono ?_
 rintro e v' ⟨rfl,hb⟩
 exact⟨rfl,h.rr.keep hb,fun _=>h.keep hb⟩
theorem Zj (h:Jf lo xs w v ga gm a len cap stack) (hK:∀ i,i<xs.length->nA (Pl.gl xs i)) (wP:∀ i,i<xs.length->Pl.twice xs i=false):Calls Tryz.prog 33 #[.pointer (some ⟨ga,0,none⟩)] v fun e v'=>e=.returned (.int .i64 (Pl.CW xs))/\Rr w v'/\(¬ 0<=(Pl.CW xs:Int)->QD lo xs w v' ga gm a len cap stack):=by
 obtain⟨B,mb,h1,h2,h3⟩:=h.am
 refine (KV h1 h2 wP (fun i hi=>(hK i hi).b)).mono ?_
 rintro e v' ⟨rfl,ha,hf,hs⟩
 have hr:Rr w v':=⟨(hf _ h3 (by have:=h.ga;omega)).trans h.rr.r,(kH.am ha).low⟩
 exact⟨rfl,hr,fun _=>⟨⟨B,mb,ha⟩,hr⟩⟩
theorem Zk (h:QD lo xs w v ga gm a len cap stack):Calls Tryz.prog 34 #[.pointer (some ⟨ga,0,none⟩)] v fun e v'=>e=.returned (.int .i64 (if 65536<(Pl.cu xs len).b then 0 else -1))/\Rr w v'/\(¬ 0<=(if 65536<(Pl.cu xs len).b then 0 else -1:Int)->QD lo xs w v' ga gm a len cap stack):=by
 obtain⟨B,mb,h1⟩:=h.am
 refine (KI ga (Pl.cu xs len).b v ((kH.am h1).cell 5)).mono ?_
 rintro e v' ⟨rfl,rfl⟩
 exact⟨rfl,h.rr,fun _=>h⟩
theorem Zl (h:QD lo xs w v ga gm a len cap stack) (hK:∀ i,i<xs.length->nA (Pl.gl xs i)) (hlo:∀ i,i<xs.length->Pl.lost xs i=false):Calls Tryz.prog 35 #[.pointer (some ⟨ga,0,none⟩)] v fun e v'=>e=.returned (.int .i64 (Pl.aV (Pl.dQ xs) len))/\Rr w v'/\(¬ 0<=(Pl.aV (Pl.dQ xs) len:Int)->QD lo xs w v' ga gm a len cap stack):=by
 obtain⟨B,mb,h1⟩:=h.am
 refine (KW h1 hK hlo).mono ?_
 rintro e v' ⟨rfl,hb⟩
 exact⟨rfl,h.rr.keep hb,fun _=>h.keep hb⟩
theorem Zm (h:QD lo xs w v ga gm a len cap stack) (hT:0<=(Pl.cu xs len).t/\(Pl.cu xs len).t<=1099511627776):Calls Tryz.prog 36 #[.pointer (some ⟨ga,0,none⟩)] v fun e v'=>e=.returned (.int .i64 (Pl.stA xs))/\Rr w v'/\(¬ 0<=(Pl.stA xs:Int)->QD lo xs w v' ga gm a len cap stack):=by
 obtain⟨B,mb,h1⟩:=h.am
 refine (GY h1 hT).mono ?_
 rintro e v' ⟨rfl,hb⟩
 exact⟨rfl,h.rr.keep hb,fun _=>h.keep hb⟩
theorem Zn (h:QD lo xs w v ga gm a len cap stack):Calls Tryz.prog 37 #[.pointer (some ⟨ga,0,none⟩)] v fun e v'=>e=.returned (.int .i64 (if 0<=stack/\stack<=65536/\stack % 16=0 then -1 else 0))/\Rr w v'/\(¬ 0<=(if 0<=stack/\stack<=65536/\stack % 16=0 then -1 else 0:Int)->QD lo xs w v' ga gm a len cap stack):=by
 obtain⟨B,mb,h1⟩:=h.am
 refine (GA ga stack v ((kH.am h1).cell 1)).mono ?_
 rintro e v' ⟨rfl,rfl⟩
 exact⟨rfl,h.rr,fun _=>h⟩
end Go.Proofs.YtlbomnnldkeocaaGreat.W
