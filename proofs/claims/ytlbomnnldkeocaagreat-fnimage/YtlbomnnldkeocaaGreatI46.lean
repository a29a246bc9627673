import Derived.Test.YtlbomnnldkeocaaGreatI45
set_option linter.unusedVariables false
set_option linter.unusedSimpArgs false
set_option maxHeartbeats 16000000
namespace Go.Proofs.YtlbomnnldkeocaaGreat.W
open Go.RowKit Go.Shelf Go.Maps Go.WideMaps Go.Sort
noncomputable def Yt (n:Nat):Code:=((Tryz.f120.body.bind (lG n)).getD .skip)
noncomputable def Ck (n:Nat):Code:=((Tryz.f85.body.bind (lG n)).getD .skip)
def dK (ga gm h3 q:Nat) (s:ByteArray) (z n:Int)  (c1 c2 c5 c6 c7 c8 c9 d4 vK tZ tT vM xR xS qJ qK qL qM qN qO oO oP:Value)  (L:Array Bool):Act:={ tmps:=#[.pointer (some ⟨ga,0,none⟩),c1,c2,.pointer (some ⟨h3,0,none⟩),aR d4 L 14 (.int .i64 (Pl.wd (z+n))),c5,c6,c7,c8,c9,aR vK L 0 (.pointer (some ⟨ga,0,none⟩)),aR tZ L 1 (.pointer (some ⟨ga,0,none⟩)),aR tT L 2 (.pointer (some ⟨ga,2,none⟩)),aR vM L 3 (.map (some gm)),aR xR L 4 (.pointer (some ⟨h3,6,none⟩)),aR xS L 5 (.string s),aR qJ L 6 (.pointer (some ⟨q,0,none⟩)),aR qK L 7 (.pointer (some ⟨q,0,none⟩)),aR qL L 8 (.pointer (some ⟨q,2,none⟩)),aR qM L 9 (.int .i64 z),aR qN L 10 (.pointer (some ⟨h3,7,none⟩)),aR qO L 11 (.int .i64 n),aR oO L 12 (.int .i64 (z+n)),aR oP L 13 (.int .i64 (Pl.wd (z+n)))],defers:=[] }
set_option maxRecDepth 100000 in
theorem Yu (ga gm h3 q:Nat) (s:ByteArray) (z n:Int) {c1 c2 c5 c6 c7 c8 c9 d4 vK tZ tT vM xR xS qJ qK qL qM qN qO oO oP:Value} (Y:World) (m2:Y.cell? ⟨ga,2,none⟩=some (.map (some gm))) (m6:Y.cell? ⟨h3,6,none⟩=some (.string s)) (m7:Y.cell? ⟨h3,7,none⟩=some (.int .i64 n)) (mq:Y.cell? ⟨q,2,none⟩=some (.int .i64 z)) (hlk:(Instr.lookup 67 (.map (some gm)) (.string s) false).run Tryz.prog Y.drew=.ok (.pointer (some ⟨q,0,none⟩)) Y.drew) (hz : -1099511627776<=z+n/\z+n<=1099511627776) {Q:Exit->Act->World->Prop}
  (hK:Q .normal { tmps:=#[.pointer (some ⟨ga,0,none⟩),c1,c2,.pointer (some ⟨h3,0,none⟩),.int .i64 (Pl.wd (z+n)),c5,c6,c7,c8,c9,.pointer (some ⟨ga,0,none⟩),.pointer (some ⟨ga,0,none⟩),.pointer (some ⟨ga,2,none⟩),.map (some gm),.pointer (some ⟨h3,6,none⟩),.string s,.pointer (some ⟨q,0,none⟩),.pointer (some ⟨q,0,none⟩),.pointer (some ⟨q,2,none⟩),.int .i64 z,.pointer (some ⟨h3,7,none⟩),.int .i64 n,.int .i64 (z+n),.int .i64 (Pl.wd (z+n))],defers:=[] } Y.drew) :
  (Yt 3).wp Tryz.prog Q { tmps:=#[.pointer (some ⟨ga,0,none⟩),c1,c2,.pointer (some ⟨h3,0,none⟩),d4,c5,c6,c7,c8,c9,vK,tZ,tT,vM,xR,xS,qJ,qK,qL,qM,qN,qO,oO,oP],defers:=[] } Y:=by
 have nI:Hid _:=hK
 clear hK
 have j2:Y.drew.cell? ⟨ga,2,none⟩=some (.map (some gm)):=m2
 have j6:Y.drew.cell? ⟨h3,6,none⟩=some (.string s):=m6
 have j7:Y.drew.cell? ⟨h3,7,none⟩=some (.int .i64 n):=m7
 have jq:Y.drew.cell? ⟨q,2,none⟩=some (.int .i64 z):=mq
 have hw:wrap64 (z+n)=z+n:=by unfold wrap64;omega
 have hw1:IntKind.i64.wrap (z+n)=z+n:=by rw[IntKind.wrap_i64];omega
 have HWo:Hid (∀ (n:Int) (u:World),Calls Tryz.prog 133 #[.int .i64 n] u fun e w'=>e=.returned (.int .i64 (Pl.wd n))/\w'=u):=rE
 clear m2 m6 mq m7
 conv=>arg 2;whnf
 refine wp_region_any (by kernel_rfl) ?_
 change wpAny _ _ _ _ _ _ _ (World.drew _)
 refine bQ (fun L jD u=>jD=dK ga gm h3 q s z n  c1 c2 c5 c6 c7 c8 c9 d4 vK tZ tT vM xR xS qJ qK qL qM qN qO oO oP  L/\u=Y.drew) ?done (by kernel_rfl) ?step _ 15 _ _ (by kernel_rfl) ?init (by decide)
 case init=>exact⟨by simp only[dK,dG (bR _ _)],rfl⟩
 case step=>
  intro L act w i o hI hlt hs nl hC hd ho K hK
  obtain⟨rfl,hW⟩:=hI
  have jB:i<15:=(Array.getElem?_eq_some_iff.1 ho).1
  have hD:=fun k m=>hd {on:=k,ground:=.data} m rfl
  rcases (show i=0\/i=1\/i=2\/i=3\/i=4\/i=5\/i=6\/i=7\/i=8\/i=9\/i=10\/i=11\/i=12\/i=13\/i=14 by omega) with rfl|rfl|rfl|rfl|rfl|rfl|rfl|rfl|rfl|rfl|rfl|rfl|rfl|rfl|rfl<;>(change some _=some o at ho;cases ho)
  ·subst hW
   simp only[dK]
   go_simp
   exact hK _ _ ⟨by simp only[dK,aD hlt,reduceIte,Nat.reduceEqDiff];try rfl,rfl⟩
  ·have q0:up L 0=true:=hD 0 (by simp)
   subst hW
   simp only[dK,aA q0]
   go_simp
   exact hK _ _ ⟨by simp only[dK,aD hlt,aA q0,reduceIte,Nat.reduceEqDiff];try rfl,rfl⟩
  ·have q1:up L 1=true:=hD 1 (by simp)
   subst hW
   simp only[dK,aA q1]
   go_simp
   exact hK _ _ ⟨by simp only[dK,aD hlt,aA q1,reduceIte,Nat.reduceEqDiff];try rfl,rfl⟩
  ·have q2:up L 2=true:=hD 2 (by simp)
   subst hW
   simp only[dK,aA q2]
   go_simp
   exact hK _ _ ⟨by simp only[dK,aD hlt,aA q2,reduceIte,Nat.reduceEqDiff];try rfl,rfl⟩
  ·subst hW
   simp only[dK]
   go_simp
   exact hK _ _ ⟨by simp only[dK,aD hlt,reduceIte,Nat.reduceEqDiff];try rfl,rfl⟩
  ·have q4:up L 4=true:=hD 4 (by simp)
   subst hW
   simp only[dK,aA q4]
   go_simp
   exact hK _ _ ⟨by simp only[dK,aD hlt,aA q4,reduceIte,Nat.reduceEqDiff];try rfl,rfl⟩
  ·have q3:up L 3=true:=hD 3 (by simp)
   have q5:up L 5=true:=hD 5 (by simp)
   subst hW
   simp only[dK,aA q3,aA q5]
   go_simp
   exact hK _ _ ⟨by simp only[dK,aD hlt,aA q3,aA q5,reduceIte,Nat.reduceEqDiff];try rfl,rfl⟩
  ·have q6:up L 6=true:=hD 6 (by simp)
   subst hW
   simp only[dK,aA q6]
   go_simp
   exact hK _ _ ⟨by simp only[dK,aD hlt,aA q6,reduceIte,Nat.reduceEqDiff];try rfl,rfl⟩
  ·have q7:up L 7=true:=hD 7 (by simp)
   subst hW
   simp only[dK,aA q7]
   go_simp
   exact hK _ _ ⟨by simp only[dK,aD hlt,aA q7,reduceIte,Nat.reduceEqDiff];try rfl,rfl⟩
  ·have q8:up L 8=true:=hD 8 (by simp)
   subst hW
   simp only[dK,aA q8]
   go_simp
   exact hK _ _ ⟨by simp only[dK,aD hlt,aA q8,reduceIte,Nat.reduceEqDiff];try rfl,rfl⟩
  ·subst hW
   simp only[dK]
   go_simp
   exact hK _ _ ⟨by simp only[dK,aD hlt,reduceIte,Nat.reduceEqDiff];try rfl,rfl⟩
  ·have rZ:up L 10=true:=hD 10 (by simp)
   subst hW
   simp only[dK,aA rZ]
   go_simp
   exact hK _ _ ⟨by simp only[dK,aD hlt,aA rZ,reduceIte,Nat.reduceEqDiff];try rfl,rfl⟩
  ·have q9:up L 9=true:=hD 9 (by simp)
   have sH:up L 11=true:=hD 11 (by simp)
   subst hW
   simp only[dK,aA q9,aA sH]
   go_simp
   exact hK _ _ ⟨by simp only[dK,aD hlt,aA q9,aA sH,reduceIte,Nat.reduceEqDiff];try rfl,rfl⟩
  ·have lV:up L 12=true:=hD 12 (by simp)
   subst hW
   simp only[dK,aA lV]
   go_simp
   refine (HWo.out _ _).mono ?_
   rintro e w3 ⟨rfl,rfl⟩
   go_simp
   exact hK _ _ ⟨by simp only[dK,aD hlt,aA lV,reduceIte,Nat.reduceEqDiff];try rfl,rfl⟩
  ·have wR:up L 13=true:=hD 13 (by simp)
   subst hW
   simp only[dK,aA wR]
   go_simp
   exact hK _ _ ⟨by simp only[dK,aD hlt,aA wR,reduceIte,Nat.reduceEqDiff];try rfl,rfl⟩
 case done=>
  rintro L a u ⟨rfl,hW⟩ hall
  simp only[dK,aA (hall 0 (by decide)),aA (hall 1 (by decide)),aA (hall 2 (by decide)),aA (hall 3 (by decide)),aA (hall 4 (by decide)),aA (hall 5 (by decide)),aA (hall 6 (by decide)),aA (hall 7 (by decide)),aA (hall 8 (by decide)),aA (hall 9 (by decide)),aA (hall 10 (by decide)),aA (hall 11 (by decide)),aA (hall 12 (by decide)),aA (hall 13 (by decide)),aA (hall 14 (by decide))]
  subst hW
  exact nI.out
def jL (h4 hz:Nat) (x:Pl.Ln)  (c0 c1 c2 c3 c5 c7 c8 c9 c10 c11 c12 c13 c14 c15 c16 c17 c18 c19 c20 c21 dW c23 c24 dP c34 eX eY c37 fP fQ c40 gQ iP iQ iF iG c46 iY iH c49 iI c51 iJ c53 iZ iK iL iM fH c59 fU fV fZ gU c64 jC d6 qP oN qF qG qH vF vG vH:Value)  (L:Array Bool):Act:={ tmps:=#[c0,c1,c2,c3,.pointer (some ⟨h4,0,none⟩),c5,aR d6 L 8 (.slice (some ⟨hz,0,none⟩) 1 1),c7,c8,c9,c10,c11,c12,c13,c14,c15,c16,c17,c18,c19,c20,c21,dW,c23,c24,dP,aR qP L 0 (.pointer (some ⟨h4,1,none⟩)),aR oN L 1 (.pointer (some ⟨h4,2,none⟩)),aR qF L 2 (.int .i64 x.rd),aR qG L 3 (.pointer (some ⟨h4,7,none⟩)),aR qH L 4 (.int .i64 x.n),aR vF L 5 (.int .i64 (Pl.sg x.n)),aR vG L 6 (.agg #[.int .i64 19,.int .i64 x.rd,.int .i64 0,.int .i64 0,.int .i64 (Pl.sg x.n)]),aR vH L 7 (.slice (some ⟨hz,0,none⟩) 1 1),c34,eX,eY,c37,fP,fQ,c40,gQ,iP,iQ,iF,iG,c46,iY,iH,c49,iI,c51,iJ,c53,iZ,iK,iL,iM,fH,c59,fU,fV,fZ,gU,c64,jC],defers:=[] }
set_option maxRecDepth 100000 in
theorem Yv (h4 hz:Nat) (x:Pl.Ln) {c0 c1 c2 c3 c5 c7 c8 c9 c10 c11 c12 c13 c14 c15 c16 c17 c18 c19 c20 c21 dW c23 c24 dP c34 eX eY c37 fP fQ c40 gQ iP iQ iF iG c46 iY iH c49 iI c51 iJ c53 iZ iK iL iM fH c59 fU fV fZ gU c64 jC d6 qP oN qF qG qH vF vG vH:Value} (Y:World) (hh:hz=Y.heap.size) (r4:Y.heap[h4]?=some (.cells #[.int .i64 x.k,.int .i64 x.op,.int .i64 x.rd,.int .i64 x.r1,.int .i64 x.r2,.int .i64 x.im,.string x.s,.int .i64 x.n] 51 (0,0))) {Q:Exit->Act->World->Prop}
  (hK:∀ ty:TypeId,ty≠3/\ty≠5->Q .normal { tmps:=#[c0,c1,c2,c3,.pointer (some ⟨h4,0,none⟩),c5,.slice (some ⟨hz,0,none⟩) 1 1,c7,c8,c9,c10,c11,c12,c13,c14,c15,c16,c17,c18,c19,c20,c21,dW,c23,c24,dP,.pointer (some ⟨h4,1,none⟩),.pointer (some ⟨h4,2,none⟩),.int .i64 x.rd,.pointer (some ⟨h4,7,none⟩),.int .i64 x.n,.int .i64 (Pl.sg x.n),.agg #[.int .i64 19,.int .i64 x.rd,.int .i64 0,.int .i64 0,.int .i64 (Pl.sg x.n)],.slice (some ⟨hz,0,none⟩) 1 1,c34,eX,eY,c37,fP,fQ,c40,gQ,iP,iQ,iF,iG,c46,iY,iH,c49,iI,c51,iJ,c53,iZ,iK,iL,iM,fH,c59,fU,fV,fZ,gU,c64,jC],defers:=[] } (Y.drew.alloc (.cells #[.int .i64 19,.int .i64 x.rd,.int .i64 0,.int .i64 0,.int .i64 (Pl.sg x.n)] ty))) :
  (Ck 7).wp Tryz.prog Q { tmps:=#[c0,c1,c2,c3,.pointer (some ⟨h4,0,none⟩),c5,d6,c7,c8,c9,c10,c11,c12,c13,c14,c15,c16,c17,c18,c19,c20,c21,dW,c23,c24,dP,qP,oN,qF,qG,qH,vF,vG,vH,c34,eX,eY,c37,fP,fQ,c40,gQ,iP,iQ,iF,iG,c46,iY,iH,c49,iI,c51,iJ,c53,iZ,iK,iL,iM,fH,c59,fU,fV,fZ,gU,c64,jC],defers:=[] } Y:=by
 have nI:Hid _:=hK
 clear hK
 have j2:Y.drew.cell? ⟨h4,2,none⟩=some (.int .i64 x.rd):=cell_of_row Y.drew h4 2 _ 51 (0,0) r4
 have j7:Y.drew.cell? ⟨h4,7,none⟩=some (.int .i64 x.n):=cell_of_row Y.drew h4 7 _ 51 (0,0) r4
 have HSg:Hid (∀ (n:Int) (u:World),Calls Tryz.prog 118 #[.int .i64 n] u fun e w'=>e=.returned (.int .i64 (Pl.sg n))/\w'=u):=sM
 subst hh
 clear r4
 conv=>arg 2;whnf
 dsimp only
 refine wp_region_any (by kernel_rfl) ?_
 change wpAny _ _ _ _ _ _ _ (World.drew _)
 refine bQ (fun L jD u=>jD=jL h4 Y.heap.size x  c0 c1 c2 c3 c5 c7 c8 c9 c10 c11 c12 c13 c14 c15 c16 c17 c18 c19 c20 c21 dW c23 c24 dP c34 eX eY c37 fP fQ c40 gQ iP iQ iF iG c46 iY iH c49 iI c51 iJ c53 iZ iK iL iM fH c59 fU fV fZ gU c64 jC d6 qP oN qF qG qH vF vG vH  L/\nC Y.drew (fun u=>∃ ty:TypeId,(ty≠3/\ty≠5)/\u=Y.drew.alloc (.cells #[.int .i64 19,.int .i64 x.rd,.int .i64 0,.int .i64 0,.int .i64 (Pl.sg x.n)] ty)) 7 L u) ?done (by kernel_rfl) ?step _ 9 _ _ (by kernel_rfl) ?init (by decide)
 case init=>exact⟨by simp only[jL,dG (bR _ _)],nC.init⟩
 case step=>
  intro L act w i o hI hlt hs nl hC hd ho K hK
  obtain⟨rfl,hW⟩:=hI
  have jB:i<9:=(Array.getElem?_eq_some_iff.1 ho).1
  have hD:=fun k m=>hd {on:=k,ground:=.data} m rfl
  rcases (show i=0\/i=1\/i=2\/i=3\/i=4\/i=5\/i=6\/i=7\/i=8 by omega) with rfl|rfl|rfl|rfl|rfl|rfl|rfl|rfl|rfl<;>(change some _=some o at ho;cases ho)
  ·simp only[jL]
   go_simp
   exact hK _ _ ⟨by simp only[jL,aD hlt,reduceIte,Nat.reduceEqDiff];try rfl,(hW.keep hlt (by decide))⟩
  ·have q0:up L 0=true:=hD 0 (by simp)
   simp only[jL,aA q0]
   go_simp
   exact hK _ _ ⟨by simp only[jL,aD hlt,aA q0,reduceIte,Nat.reduceEqDiff];try rfl,(hW.keep hlt (by decide))⟩
  ·have q1:up L 1=true:=hD 1 (by simp)
   have n6:up L 6=false:=hC.no nl 6 rfl (by kernel_rfl)
   have n7:up L 7=false:=hC.no n6 7 rfl (by kernel_rfl)
   obtain rfl:=hW.1 n7
   simp only[jL,aA q1]
   go_simp
   exact hK _ _ ⟨by simp only[jL,aD hlt,aA q1,reduceIte,Nat.reduceEqDiff];try rfl,(hW.keep hlt (by decide))⟩
  ·simp only[jL]
   go_simp
   exact hK _ _ ⟨by simp only[jL,aD hlt,reduceIte,Nat.reduceEqDiff];try rfl,(hW.keep hlt (by decide))⟩
  ·have q3:up L 3=true:=hD 3 (by simp)
   have n5:up L 5=false:=hC.no nl 5 rfl (by kernel_rfl)
   have n6:up L 6=false:=hC.no n5 6 rfl (by kernel_rfl)
   have n7:up L 7=false:=hC.no n6 7 rfl (by kernel_rfl)
   obtain rfl:=hW.1 n7
   simp only[jL,aA q3]
   go_simp
   exact hK _ _ ⟨by simp only[jL,aD hlt,aA q3,reduceIte,Nat.reduceEqDiff];try rfl,(hW.keep hlt (by decide))⟩
  ·have q4:up L 4=true:=hD 4 (by simp)
   have n6:up L 6=false:=hC.no nl 6 rfl (by kernel_rfl)
   have n7:up L 7=false:=hC.no n6 7 rfl (by kernel_rfl)
   obtain rfl:=hW.1 n7
   simp only[jL,aA q4]
   go_simp
   refine (HSg.out _ _).mono ?_
   rintro e w3 ⟨rfl,rfl⟩
   go_simp
   exact hK _ _ ⟨by simp only[jL,aD hlt,aA q4,reduceIte,Nat.reduceEqDiff];try rfl,(hW.keep hlt (by decide))⟩
  ·have q2:up L 2=true:=hD 2 (by simp)
   have q5:up L 5=true:=hD 5 (by simp)
   simp only[jL,aA q2,aA q5]
   go_simp
   exact hK _ _ ⟨by simp only[jL,aD hlt,aA q2,aA q5,reduceIte,Nat.reduceEqDiff];try rfl,(hW.keep hlt (by decide))⟩
  ·have q6:up L 6=true:=hD 6 (by simp)
   obtain rfl:=hW.1 nl
   simp only[jL,aA q6]
   go_simp
   exact hK _ _ ⟨by simp only[jL,aD hlt,aA q6,reduceIte,Nat.reduceEqDiff];try rfl,nC.first hlt ⟨_,by decide,rfl⟩⟩
  ·have q7:up L 7=true:=hD 7 (by simp)
   simp only[jL,aA q7]
   go_simp
   exact hK _ _ ⟨by simp only[jL,aD hlt,aA q7,reduceIte,Nat.reduceEqDiff];try rfl,(hW.keep hlt (by decide))⟩
 case done=>
  rintro L a u ⟨rfl,hW⟩ hall
  simp only[jL,aA (hall 0 (by decide)),aA (hall 1 (by decide)),aA (hall 2 (by decide)),aA (hall 3 (by decide)),aA (hall 4 (by decide)),aA (hall 5 (by decide)),aA (hall 6 (by decide)),aA (hall 7 (by decide)),aA (hall 8 (by decide))]
  obtain⟨ty,ht,rfl⟩:=hW.2 (hall 7 (by decide))
  exact nI.out ty ht
def iU (ga h4:Nat) (x:Pl.Ln) (v:Int)  (c1 c2 c3 c5 c7 c8 c9 c10 c11 c12 c13 c14 c15 c16 c17 c18 c19 c20 c21 dW c23 c24 dP eP fO c28 eQ eT c31 c32 eU c34 eX eY c37 fP fQ c40 gQ c49 iI c51 iJ c53 iZ iK iL iM fH c59 fU fV fZ gU c64 jC d6 Ad Ae ZF ZH ZI MZ ZT:Value) (a2:Option Addr) (L:Array Bool):Act:={ tmps:=#[.pointer (some ⟨ga,0,none⟩),c1,c2,c3,.pointer (some ⟨h4,0,none⟩),c5,aR d6 L 7 (.slice a2 2 2),c7,c8,c9,c10,c11,c12,c13,c14,c15,c16,c17,c18,c19,c20,c21,dW,c23,c24,dP,eP,fO,c28,eQ,eT,c31,c32,eU,c34,eX,eY,c37,fP,fQ,c40,gQ,aR Ad L 0 (.pointer (some ⟨h4,1,none⟩)),aR Ae L 1 (.pointer (some ⟨h4,2,none⟩)),aR ZF L 2 (.int .i64 x.rd),aR ZH L 3 (.pointer (some ⟨ga,0,none⟩)),aR ZI L 4 (.agg #[.int .i64 x.k,.int .i64 x.op,.int .i64 x.rd,.int .i64 x.r1,.int .i64 x.r2,.int .i64 x.im,.string x.s,.int .i64 x.n]),aR MZ L 5 (.int .i64 v),aR ZT L 6 (.slice a2 2 2),c49,iI,c51,iJ,c53,iZ,iK,iL,iM,fH,c59,fU,fV,fZ,gU,c64,jC],defers:=[] }
set_option maxRecDepth 100000 in
theorem Ot (ga h4:Nat) (x:Pl.Ln) (v:Int) {c1 c2 c3 c5 c7 c8 c9 c10 c11 c12 c13 c14 c15 c16 c17 c18 c19 c20 c21 dW c23 c24 dP eP fO c28 eQ eT c31 c32 eU c34 eX eY c37 fP fQ c40 gQ c49 iI c51 iJ c53 iZ iK iL iM fH c59 fU fV fZ gU c64 jC d6 Ad Ae ZF ZH ZI MZ ZT:Value} (Y:World) (r4:Y.heap[h4]?=some (.cells #[.int .i64 x.k,.int .i64 x.op,.int .i64 x.rd,.int .i64 x.r1,.int .i64 x.r2,.int .i64 x.im,.string x.s,.int .i64 x.n] 51 (0,0))) (hv:0<=v/\v<=4294967295) (DI:Calls Tryz.prog 120 #[.pointer (some ⟨ga,0,none⟩),.agg #[.int .i64 x.k,.int .i64 x.op,.int .i64 x.rd,.int .i64 x.r1,.int .i64 x.r2,.int .i64 x.im,.string x.s,.int .i64 x.n]] Y.drew fun e w'=>e=.returned (.int .i64 v)/\Below Y.drew.heap.size Y.drew w') {Q:Exit->Act->World->Prop}
  (hK:∀ (a2:Option Addr) (w1:World),aY Y.heap.size w1 a2 2 (Pl.pair x.rd v)->Below Y.heap.size Y w1->Q .normal { tmps:=#[.pointer (some ⟨ga,0,none⟩),c1,c2,c3,.pointer (some ⟨h4,0,none⟩),c5,.slice a2 2 2,c7,c8,c9,c10,c11,c12,c13,c14,c15,c16,c17,c18,c19,c20,c21,dW,c23,c24,dP,eP,fO,c28,eQ,eT,c31,c32,eU,c34,eX,eY,c37,fP,fQ,c40,gQ,.pointer (some ⟨h4,1,none⟩),.pointer (some ⟨h4,2,none⟩),.int .i64 x.rd,.pointer (some ⟨ga,0,none⟩),.agg #[.int .i64 x.k,.int .i64 x.op,.int .i64 x.rd,.int .i64 x.r1,.int .i64 x.r2,.int .i64 x.im,.string x.s,.int .i64 x.n],.int .i64 v,.slice a2 2 2,c49,iI,c51,iJ,c53,iZ,iK,iL,iM,fH,c59,fU,fV,fZ,gU,c64,jC],defers:=[] } w1) :
  (Ck 10).wp Tryz.prog Q { tmps:=#[.pointer (some ⟨ga,0,none⟩),c1,c2,c3,.pointer (some ⟨h4,0,none⟩),c5,d6,c7,c8,c9,c10,c11,c12,c13,c14,c15,c16,c17,c18,c19,c20,c21,dW,c23,c24,dP,eP,fO,c28,eQ,eT,c31,c32,eU,c34,eX,eY,c37,fP,fQ,c40,gQ,Ad,Ae,ZF,ZH,ZI,MZ,ZT,c49,iI,c51,iJ,c53,iZ,iK,iL,iM,fH,c59,fU,fV,fZ,gU,c64,jC],defers:=[] } Y:=by
 have nI:Hid _:=hK
 clear hK
 have l0:Y.drew.cell? ⟨h4,0,none⟩=some (.int .i64 x.k):=cell_of_row Y.drew h4 0 _ 51 (0,0) r4
 have l1:Y.drew.cell? ⟨h4,1,none⟩=some (.int .i64 x.op):=cell_of_row Y.drew h4 1 _ 51 (0,0) r4
 have l2:Y.drew.cell? ⟨h4,2,none⟩=some (.int .i64 x.rd):=cell_of_row Y.drew h4 2 _ 51 (0,0) r4
 have l3:Y.drew.cell? ⟨h4,3,none⟩=some (.int .i64 x.r1):=cell_of_row Y.drew h4 3 _ 51 (0,0) r4
 have l4:Y.drew.cell? ⟨h4,4,none⟩=some (.int .i64 x.r2):=cell_of_row Y.drew h4 4 _ 51 (0,0) r4
 have l5:Y.drew.cell? ⟨h4,5,none⟩=some (.int .i64 x.im):=cell_of_row Y.drew h4 5 _ 51 (0,0) r4
 have l6:Y.drew.cell? ⟨h4,6,none⟩=some (.string x.s):=cell_of_row Y.drew h4 6 _ 51 (0,0) r4
 have l7:Y.drew.cell? ⟨h4,7,none⟩=some (.int .i64 x.n):=cell_of_row Y.drew h4 7 _ 51 (0,0) r4
 have Af:Hid _:=DI
 have GK:Hid (∀ u:World,Calls Tryz.prog 119 #[.int .i64 x.rd,.int .i64 v] u fun e w'=>∃ a,e=.returned (.slice a 2 2)/\aY u.heap.size w' a 2 (Pl.pair x.rd v)/\Below u.heap.size u w'):=fun u=>wS x.rd v hv u
 clear DI r4
 conv=>arg 2;whnf
 dsimp only
 refine wp_region_any (by kernel_rfl) ?_
 change wpAny _ _ _ _ _ _ _ (World.drew _)
 refine bQ (fun L jD u=>∃ a2 w1,jD=iU ga h4 x v  c1 c2 c3 c5 c7 c8 c9 c10 c11 c12 c13 c14 c15 c16 c17 c18 c19 c20 c21 dW c23 c24 dP eP fO c28 eQ eT c31 c32 eU c34 eX eY c37 fP fQ c40 gQ c49 iI c51 iJ c53 iZ iK iL iM fH c59 fU fV fZ gU c64 jC d6 Ad Ae ZF ZH ZI MZ ZT a2 L/\iO Y.drew (fun u=>Below Y.drew.heap.size Y.drew u) (fun u=>aY w1.heap.size u a2 2 (Pl.pair x.rd v)/\Below w1.heap.size w1 u) 5 6 w1 L u) ?done (by kernel_rfl) ?step _ 8 _ _ (by kernel_rfl) ?init (by decide)
 case init=>exact⟨none,Y,by simp only[iU,dG (bR _ _)],iO.init⟩
 case step=>
  intro L act w i o hI hlt hs nl hC hd ho K hK
  obtain⟨a2,w1,rfl,hW⟩:=hI
  have jB:i<8:=(Array.getElem?_eq_some_iff.1 ho).1
  have hD:=fun k m=>hd {on:=k,ground:=.data} m rfl
  rcases (show i=0\/i=1\/i=2\/i=3\/i=4\/i=5\/i=6\/i=7 by omega) with rfl|rfl|rfl|rfl|rfl|rfl|rfl|rfl<;>(change some _=some o at ho;cases ho)
  ·simp only[iU]
   go_simp
   exact hK _ _ ⟨a2,w1,by simp only[iU,aD hlt,reduceIte,Nat.reduceEqDiff];try rfl,(hW.keep hlt (by decide) (by decide))⟩
  ·have q0:up L 0=true:=hD 0 (by simp)
   simp only[iU,aA q0]
   go_simp
   exact hK _ _ ⟨a2,w1,by simp only[iU,aD hlt,aA q0,reduceIte,Nat.reduceEqDiff];try rfl,(hW.keep hlt (by decide) (by decide))⟩
  ·have q1:up L 1=true:=hD 1 (by simp)
   have n6:up L 6=false:=hC.no nl 6 rfl (by kernel_rfl)
   have xo:=hW.cell n6 l2 (fun q=>aF q l2)
   simp only[iU,aA q1]
   go_simp
   exact hK _ _ ⟨a2,w1,by simp only[iU,aD hlt,aA q1,reduceIte,Nat.reduceEqDiff];try rfl,(hW.keep hlt (by decide) (by decide))⟩
  ·simp only[iU]
   go_simp
   exact hK _ _ ⟨a2,w1,by simp only[iU,aD hlt,reduceIte,Nat.reduceEqDiff];try rfl,(hW.keep hlt (by decide) (by decide))⟩
  ·have n5:up L 5=false:=hC.no nl 5 rfl (by kernel_rfl)
   obtain rfl:=hW.1 n5
   simp only[iU]
   go_simp
   exact hK _ _ ⟨a2,w1,by simp only[iU,aD hlt,reduceIte,Nat.reduceEqDiff];try rfl,(hW.keep hlt (by decide) (by decide))⟩
  ·have q3:up L 3=true:=hD 3 (by simp)
   have q4:up L 4=true:=hD 4 (by simp)
   have n6:up L 6=false:=hC.no nl 6 rfl (by kernel_rfl)
   obtain rfl:=hW.1 nl
   simp only[iU,aA q3,aA q4]
   go_simp
   refine Calls.mono Af.out ?_
   rintro e w3 ⟨rfl,hb3⟩
   go_simp
   exact hK _ _ ⟨a2,w3,by simp only[iU,aD hlt,aA q3,aA q4,reduceIte,Nat.reduceEqDiff];try rfl,iO.first hlt (by decide) n6 hb3⟩
  ·have q2:up L 2=true:=hD 2 (by simp)
   have q5:up L 5=true:=hD 5 (by simp)
   have n7:up L 7=false:=hC.no nl 7 rfl (by kernel_rfl)
   obtain⟨d1,y4,_⟩:=hW.2 q5
   obtain rfl:=y4 nl
   have D1:Hid _:=d1
   clear d1
   simp only[iU,aA q2,aA q5]
   go_simp
   refine (GK.out _).mono ?_
   rintro e w3 ⟨a3,rfl,hr3,hb3⟩
   go_simp
   exact hK _ _ ⟨a3,w,by simp only[iU,aD hlt,aA q2,aA q5,dG n7,reduceIte,Nat.reduceEqDiff];try rfl,⟨fun z=>absurd (z.symm.trans ((dY hlt 5).trans ((if_neg (by decide)).trans q5))) (by decide),fun _=>⟨D1.out,fun z=>absurd (z.symm.trans ((dY hlt _).trans (if_pos rfl))) (by decide),fun _=>⟨hr3,hb3⟩⟩⟩⟩
  ·have q6:up L 6=true:=hD 6 (by simp)
   simp only[iU,aA q6]
   go_simp
   exact hK _ _ ⟨a2,w1,by simp only[iU,aD hlt,aA q6,reduceIte,Nat.reduceEqDiff];try rfl,(hW.keep hlt (by decide) (by decide))⟩
 case done=>
  rintro L a u ⟨a2,w1,rfl,hW⟩ hall
  simp only[iU,aA (hall 0 (by decide)),aA (hall 1 (by decide)),aA (hall 2 (by decide)),aA (hall 3 (by decide)),aA (hall 4 (by decide)),aA (hall 5 (by decide)),aA (hall 6 (by decide)),aA (hall 7 (by decide))]
  obtain⟨d1,_,hB⟩:=hW.2 (hall 5 (by decide))
  obtain⟨hr,hb⟩:=hB (hall 6 (by decide))
  exact nI.out a2 u (hr.mono d1.size) (Below.trans (Below.drew (Below.refl _ _)) (d1.trans (hb.mono d1.size)))
variable {lo:Nat} {xs:List Pl.Ln} {w u u':World} {ga gm:Nat} {a:Option Addr} {len cap:Nat} {stack:Int} {B:Nat} {mb:Nat->Nat}
theorem Iy:∀ s:ByteArray,s.size=0->s=⟨#[]⟩:=fun ⟨⟨l⟩⟩ e=>by
 have h:l.length=0:=e
 rw[List.length_eq_zero_iff.1 h]
theorem KX (x:Pl.Ln) (h:sZ lo xs w u ga gm a len cap stack B mb) (hs:x.s.size<=maxLen) (hl:¬ x.s.size=0->∃ j,Pl.lb xs x.s=some j/\-1099511627776<=(Pl.cu xs j).at+x.n/\(Pl.cu xs j).at+x.n<=1099511627776):Calls Tryz.prog 120 #[.pointer (some ⟨ga,0,none⟩),.agg #[.int .i64 x.k,.int .i64 x.op,.int .i64 x.rd,.int .i64 x.r1,.int .i64 x.r2,.int .i64 x.im,.string x.s,.int .i64 x.n]] u fun e u'=>e=.returned (.int .i64 (Pl.uC xs x))/\Below u.heap.size u u':=by
 have Ng:Hid (decide (x.s=⟨#[]⟩)=x.s.toList.isEmpty):=Pl.jU x.s
 obtain⟨V,hV⟩:∃ V,V=u.alloc (.cells #[.int .i64 x.k,.int .i64 x.op,.int .i64 x.rd,.int .i64 x.r1,.int .i64 x.r2,.int .i64 x.im,.string x.s,.int .i64 x.n] 51):=⟨_,rfl⟩
 have yZ:Below u.heap.size u V:=by rw[hV];exact aB u _
 have Ou:Hid _:=yZ
 have HR3:Hid (V.heap[u.heap.size]?=some (.cells #[.int .i64 x.k,.int .i64 x.op,.int .i64 x.rd,.int .i64 x.r1,.int .i64 x.r2,.int .i64 x.im,.string x.s,.int .i64 x.n] 51 (0,0))):=by show _=_;rw[hV];exact heap_alloc_new u _
 have HV:Hid _:=hV.symm
 have HA:Hid _:=h.keep yZ
 have HL:Hid _:=hl
 have HS:Hid _:=hs
 clear h hl hs hV yZ
 cases se:x.s.toList.isEmpty
 ·have hne:¬ x.s=⟨#[]⟩:=of_decide_eq_false (Ng.out.trans se)
  have hsz:¬ x.s.size=0:=fun e=>hne (Iy _ e)
  obtain⟨j,hlb,hb1,hb2⟩:=HL.out hsz
  have Yw:Hid (Pl.uC xs x=Pl.wd ((Pl.cu xs j).at+x.n)):=by show _=_;unfold Pl.uC Pl.gT;rw[if_neg hne,hlb]
  have Ir:Hid ((Instr.lookup 67 (.map (some gm)) (.string x.s) false).run Tryz.prog V.drew=.ok (.pointer (some ⟨mb j,0,none⟩)) V.drew):=by
   have:=kH.look (HA.out.keep (Below.drew (Below.refl _ _))) HS.out
   rw[hlb]at this
   exact this
  have HMK:Hid _:=(HA.out.mark hlb).2.2
  have HBN:Hid (-1099511627776<=(Pl.cu xs j).at+x.n/\(Pl.cu xs j).at+x.n<=1099511627776):=⟨hb1,hb2⟩
  clear hne hsz hlb hb1 hb2
  go_enter Tryz.func120,Tryz.ntmps120
  go_upto_region 3 with fail
  rw[HV.out]
  refine Yu ga gm u.heap.size (mb j) x.s (Pl.cu xs j).at x.n V ((kH.am HA.out).cell 2) (cell_of_row _ _ 6 _ 51 (0,0) HR3.out) (cell_of_row _ _ 7 _ 51 (0,0) HR3.out) HMK.out Ir.out HBN.out ?_
  go_wp2
  go_ret
  exact⟨aO Yw.out.symm,Below.drew Ou.out⟩
 ·have hne:x.s=⟨#[]⟩:=of_decide_eq_true (Ng.out.trans se)
  have Yw:Hid (Pl.uC xs x=x.n):=by show _=_;unfold Pl.uC;rw[if_pos hne]
  clear hne
  go_enter Tryz.func120,Tryz.ntmps120
  go_wp2
  go_ret
  exact⟨aO Yw.out.symm,aB _ _⟩
variable {lo:Nat} {xs:List Pl.Ln} {w u u':World} {ga gm:Nat} {a:Option Addr} {len cap:Nat} {stack:Int} {B:Nat} {mb:Nat->Nat}
def sF (x:Pl.Ln) (la t:Int) (ga:Nat) (u:World):Prop:=
 Calls Tryz.prog 85 #[.pointer (some ⟨ga,0,none⟩),.agg #[.int .i64 x.k,.int .i64 x.op,.int .i64 x.rd,.int .i64 x.r1,.int .i64 x.r2,.int .i64 x.im,.string x.s,.int .i64 x.n],.int .i64 t] u fun e u'=>∃ a n c,e=.returned (.slice a n c)/\aY u.heap.size u' a n (Pl.bM x t la)/\Below u.heap.size u u'
theorem bU {u w1:World} {o:Obj} (h:Below (u.heap.size+1) (u.alloc o) w1):Below u.heap.size u w1:=(aB u o).trans (h.mono (by omega))
theorem Ag (x:Pl.Ln) (t la:Int) (ga:Nat) (u:World) (hj:Pl.jT x.k=true) (y:Pl.Ins) (hy:y=Pl.zD x (la-t)) (Ol:Calls Tryz.prog 82 #[.pointer (some ⟨ga,0,none⟩),.agg #[.int .i64 x.k,.int .i64 x.op,.int .i64 x.rd,.int .i64 x.r1,.int .i64 x.r2,.int .i64 x.im,.string x.s,.int .i64 x.n],.int .i64 t] (u.alloc (.cells #[.int .i64 x.k,.int .i64 x.op,.int .i64 x.rd,.int .i64 x.r1,.int .i64 x.r2,.int .i64 x.im,.string x.s,.int .i64 x.n] 51)) fun e w'=>e=.returned (.tuple #[.agg #[.int .i64 y.op,.int .i64 y.rd,.int .i64 y.r1,.int .i64 y.r2,.int .i64 y.im],.bool true])/\Below (u.alloc (.cells #[.int .i64 x.k,.int .i64 x.op,.int .i64 x.rd,.int .i64 x.r1,.int .i64 x.r2,.int .i64 x.im,.string x.s,.int .i64 x.n] 51)).heap.size (u.alloc (.cells #[.int .i64 x.k,.int .i64 x.op,.int .i64 x.rd,.int .i64 x.r1,.int .i64 x.r2,.int .i64 x.im,.string x.s,.int .i64 x.n] 51)) w'):sF x la t ga u:=by
 have HI:Hid (Pl.bM x t la=[y]):=by show _=_;unfold Pl.bM;rw[if_pos hj,hy]
 have BA:Hid _:=Ol
 unfold sF
 clear hj hy Ol
 go_enter Tryz.func85,Tryz.ntmps85
 go_wp2_with (go_at_call 82;refine Calls.mono BA.out ?_;rintro e w1 ⟨rfl,hb1⟩; have HB1:Hid (Below (u.heap.size+1) (u.alloc (.cells #[.int .i64 x.k,.int .i64 x.op,.int .i64 x.rd,.int .i64 x.r1,.int .i64 x.r2,.int .i64 x.im,.string x.s,.int .i64 x.n] 51)) w1):=hb1.mono (by simp);clear hb1)
 go_ret
 have hb:=bU HB1.out
 rw[HI.out]
 refine⟨_,_,_,rfl,aY.one (t:=32) (f:=(0,0)) y ?_ (bL (by simp)) (by decide),?_⟩
 ·have:=hb.size;simp;omega
 ·exact (hb.trans ((aB _ _).mono hb.size)).trans ((aB _ _).mono (by have:=hb.size;simp;omega))
theorem Ah (x:Pl.Ln) (t la:Int) (ga:Nat) (u:World) (hk:x.k=2):sF x la t ga u:=by
 have HI:Hid (Pl.bM x t la=[⟨x.op,x.rd,x.r1,x.r2,x.im⟩]):=by show _=_;unfold Pl.bM Pl.jT;simp[hk]
 have BA:Hid (Calls Tryz.prog 82 #[.pointer (some ⟨ga,0,none⟩),.agg #[.int .i64 x.k,.int .i64 x.op,.int .i64 x.rd,.int .i64 x.r1,.int .i64 x.r2,.int .i64 x.im,.string x.s,.int .i64 x.n],.int .i64 t] (u.alloc (.cells #[.int .i64 x.k,.int .i64 x.op,.int .i64 x.rd,.int .i64 x.r1,.int .i64 x.r2,.int .i64 x.im,.string x.s,.int .i64 x.n] 51)) fun e w'=>e=.returned (.tuple #[.agg #[.int .i64 0,.int .i64 0,.int .i64 0,.int .i64 0,.int .i64 0],.bool false])/\Below (u.alloc (.cells #[.int .i64 x.k,.int .i64 x.op,.int .i64 x.rd,.int .i64 x.r1,.int .i64 x.r2,.int .i64 x.im,.string x.s,.int .i64 x.n] 51)).heap.size (u.alloc (.cells #[.int .i64 x.k,.int .i64 x.op,.int .i64 x.rd,.int .i64 x.r1,.int .i64 x.r2,.int .i64 x.im,.string x.s,.int .i64 x.n] 51)) w'):=rR x t (by unfold Pl.jT;simp[hk]) ga _
 have q4:(x.k == 4)=false:=by simp[hk]
 have q5:(x.k == 5)=false:=by simp[hk]
 have q6:(x.k == 6)=false:=by simp[hk]
 have q9:(x.k == 9)=false:=by simp[hk]
 unfold sF
 clear hk
 go_enter Tryz.func85,Tryz.ntmps85
 go_wp2_with (go_at_call 82;refine Calls.mono BA.out ?_;rintro e w1 ⟨rfl,hb1⟩; have HB1:Hid (Below (u.heap.size+1) (u.alloc (.cells #[.int .i64 x.k,.int .i64 x.op,.int .i64 x.rd,.int .i64 x.r1,.int .i64 x.r2,.int .i64 x.im,.string x.s,.int .i64 x.n] 51)) w1):=hb1.mono (by simp);clear hb1;have HR4:Hid ((w1.alloc (.cells #[.int .i64 0,.int .i64 0,.int .i64 0,.int .i64 0,.int .i64 0] 32)).heap[u.heap.size]?=some (.cells #[.int .i64 x.k,.int .i64 x.op,.int .i64 x.rd,.int .i64 x.r1,.int .i64 x.r2,.int .i64 x.im,.string x.s,.int .i64 x.n] 51 (0,0))):=(Below.heap_alloc _ _ _ (by have:=HB1.out.size;simp at this;omega)).trans ((HB1.out.block _ (by omega)).trans (heap_alloc_new u _));have k0:=cell_of_row (w1.alloc (.cells #[.int .i64 0,.int .i64 0,.int .i64 0,.int .i64 0,.int .i64 0] 32)) u.heap.size 0 _ 51 (0,0) HR4.out;have k1:=cell_of_row (w1.alloc (.cells #[.int .i64 0,.int .i64 0,.int .i64 0,.int .i64 0,.int .i64 0] 32)) u.heap.size 1 _ 51 (0,0) HR4.out;have k2:=cell_of_row (w1.alloc (.cells #[.int .i64 0,.int .i64 0,.int .i64 0,.int .i64 0,.int .i64 0] 32)) u.heap.size 2 _ 51 (0,0) HR4.out;have k3:=cell_of_row (w1.alloc (.cells #[.int .i64 0,.int .i64 0,.int .i64 0,.int .i64 0,.int .i64 0] 32)) u.heap.size 3 _ 51 (0,0) HR4.out;have k4:=cell_of_row (w1.alloc (.cells #[.int .i64 0,.int .i64 0,.int .i64 0,.int .i64 0,.int .i64 0] 32)) u.heap.size 4 _ 51 (0,0) HR4.out;have k5:=cell_of_row (w1.alloc (.cells #[.int .i64 0,.int .i64 0,.int .i64 0,.int .i64 0,.int .i64 0] 32)) u.heap.size 5 _ 51 (0,0) HR4.out;have k6:=cell_of_row (w1.alloc (.cells #[.int .i64 0,.int .i64 0,.int .i64 0,.int .i64 0,.int .i64 0] 32)) u.heap.size 6 _ 51 (0,0) HR4.out;have k7:=cell_of_row (w1.alloc (.cells #[.int .i64 0,.int .i64 0,.int .i64 0,.int .i64 0,.int .i64 0] 32)) u.heap.size 7 _ 51 (0,0) HR4.out;simp only[List.getElem?_toArray,List.getElem?_cons_zero,List.getElem?_cons_succ]at k0 k1 k2 k3 k4 k5 k6 k7)
 go_ret
 have hb:=bU HB1.out
 rw[HI.out]
 refine⟨_,_,_,rfl,aY.one (t:=32) (f:=(0,0)) ⟨x.op,x.rd,x.r1,x.r2,x.im⟩ ?_ (bL (by simp)) (by decide),?_⟩
 ·have:=hb.size;simp;omega
 ·exact (hb.trans ((aB _ _).mono hb.size)).trans ((aB _ _).mono (by have:=hb.size;simp;omega))
theorem Ai (x:Pl.Ln) (t la:Int) (ga:Nat) (u:World) (hk:x.k=6):sF x la t ga u:=by
 have HI:Hid (Pl.bM x t la=[⟨19,x.rd,x.r1,0,0⟩]):=by show _=_;unfold Pl.bM Pl.jT;simp[hk]
 have BA:Hid (Calls Tryz.prog 82 #[.pointer (some ⟨ga,0,none⟩),.agg #[.int .i64 x.k,.int .i64 x.op,.int .i64 x.rd,.int .i64 x.r1,.int .i64 x.r2,.int .i64 x.im,.string x.s,.int .i64 x.n],.int .i64 t] (u.alloc (.cells #[.int .i64 x.k,.int .i64 x.op,.int .i64 x.rd,.int .i64 x.r1,.int .i64 x.r2,.int .i64 x.im,.string x.s,.int .i64 x.n] 51)) fun e w'=>e=.returned (.tuple #[.agg #[.int .i64 0,.int .i64 0,.int .i64 0,.int .i64 0,.int .i64 0],.bool false])/\Below (u.alloc (.cells #[.int .i64 x.k,.int .i64 x.op,.int .i64 x.rd,.int .i64 x.r1,.int .i64 x.r2,.int .i64 x.im,.string x.s,.int .i64 x.n] 51)).heap.size (u.alloc (.cells #[.int .i64 x.k,.int .i64 x.op,.int .i64 x.rd,.int .i64 x.r1,.int .i64 x.r2,.int .i64 x.im,.string x.s,.int .i64 x.n] 51)) w'):=rR x t (by unfold Pl.jT;simp[hk]) ga _
 have q4:(x.k == 4)=false:=by simp[hk]
 have q5:(x.k == 5)=false:=by simp[hk]
 have q6:(x.k == 6)=true:=by simp[hk]
 have q9:(x.k == 9)=false:=by simp[hk]
 unfold sF
 clear hk
 go_enter Tryz.func85,Tryz.ntmps85
 go_wp2_with (go_at_call 82;refine Calls.mono BA.out ?_;rintro e w1 ⟨rfl,hb1⟩; have HB1:Hid (Below (u.heap.size+1) (u.alloc (.cells #[.int .i64 x.k,.int .i64 x.op,.int .i64 x.rd,.int .i64 x.r1,.int .i64 x.r2,.int .i64 x.im,.string x.s,.int .i64 x.n] 51)) w1):=hb1.mono (by simp);clear hb1;have HR4:Hid ((w1.alloc (.cells #[.int .i64 0,.int .i64 0,.int .i64 0,.int .i64 0,.int .i64 0] 32)).heap[u.heap.size]?=some (.cells #[.int .i64 x.k,.int .i64 x.op,.int .i64 x.rd,.int .i64 x.r1,.int .i64 x.r2,.int .i64 x.im,.string x.s,.int .i64 x.n] 51 (0,0))):=(Below.heap_alloc _ _ _ (by have:=HB1.out.size;simp at this;omega)).trans ((HB1.out.block _ (by omega)).trans (heap_alloc_new u _));have k0:=cell_of_row (w1.alloc (.cells #[.int .i64 0,.int .i64 0,.int .i64 0,.int .i64 0,.int .i64 0] 32)) u.heap.size 0 _ 51 (0,0) HR4.out;have k1:=cell_of_row (w1.alloc (.cells #[.int .i64 0,.int .i64 0,.int .i64 0,.int .i64 0,.int .i64 0] 32)) u.heap.size 1 _ 51 (0,0) HR4.out;have k2:=cell_of_row (w1.alloc (.cells #[.int .i64 0,.int .i64 0,.int .i64 0,.int .i64 0,.int .i64 0] 32)) u.heap.size 2 _ 51 (0,0) HR4.out;have k3:=cell_of_row (w1.alloc (.cells #[.int .i64 0,.int .i64 0,.int .i64 0,.int .i64 0,.int .i64 0] 32)) u.heap.size 3 _ 51 (0,0) HR4.out;have k4:=cell_of_row (w1.alloc (.cells #[.int .i64 0,.int .i64 0,.int .i64 0,.int .i64 0,.int .i64 0] 32)) u.heap.size 4 _ 51 (0,0) HR4.out;have k5:=cell_of_row (w1.alloc (.cells #[.int .i64 0,.int .i64 0,.int .i64 0,.int .i64 0,.int .i64 0] 32)) u.heap.size 5 _ 51 (0,0) HR4.out;have k6:=cell_of_row (w1.alloc (.cells #[.int .i64 0,.int .i64 0,.int .i64 0,.int .i64 0,.int .i64 0] 32)) u.heap.size 6 _ 51 (0,0) HR4.out;have k7:=cell_of_row (w1.alloc (.cells #[.int .i64 0,.int .i64 0,.int .i64 0,.int .i64 0,.int .i64 0] 32)) u.heap.size 7 _ 51 (0,0) HR4.out;simp only[List.getElem?_toArray,List.getElem?_cons_zero,List.getElem?_cons_succ]at k0 k1 k2 k3 k4 k5 k6 k7)
 go_ret
 have hb:=bU HB1.out
 rw[HI.out]
 refine⟨_,_,_,rfl,aY.one (t:=32) (f:=(0,0)) ⟨19,x.rd,x.r1,0,0⟩ ?_ (bL (by simp)) (by decide),?_⟩
 ·have:=hb.size;simp;omega
 ·exact (hb.trans ((aB _ _).mono hb.size)).trans ((aB _ _).mono (by have:=hb.size;simp;omega))
theorem Aj (x:Pl.Ln) (t la:Int) (ga:Nat) (u:World) (hk:x.k=9):sF x la t ga u:=by
 have HI:Hid (Pl.bM x t la=[⟨33,0,1,0,0⟩]):=by show _=_;unfold Pl.bM Pl.jT;simp[hk]
 have BA:Hid (Calls Tryz.prog 82 #[.pointer (some ⟨ga,0,none⟩),.agg #[.int .i64 x.k,.int .i64 x.op,.int .i64 x.rd,.int .i64 x.r1,.int .i64 x.r2,.int .i64 x.im,.string x.s,.int .i64 x.n],.int .i64 t] (u.alloc (.cells #[.int .i64 x.k,.int .i64 x.op,.int .i64 x.rd,.int .i64 x.r1,.int .i64 x.r2,.int .i64 x.im,.string x.s,.int .i64 x.n] 51)) fun e w'=>e=.returned (.tuple #[.agg #[.int .i64 0,.int .i64 0,.int .i64 0,.int .i64 0,.int .i64 0],.bool false])/\Below (u.alloc (.cells #[.int .i64 x.k,.int .i64 x.op,.int .i64 x.rd,.int .i64 x.r1,.int .i64 x.r2,.int .i64 x.im,.string x.s,.int .i64 x.n] 51)).heap.size (u.alloc (.cells #[.int .i64 x.k,.int .i64 x.op,.int .i64 x.rd,.int .i64 x.r1,.int .i64 x.r2,.int .i64 x.im,.string x.s,.int .i64 x.n] 51)) w'):=rR x t (by unfold Pl.jT;simp[hk]) ga _
 have q4:(x.k == 4)=false:=by simp[hk]
 have q5:(x.k == 5)=false:=by simp[hk]
 have q6:(x.k == 6)=false:=by simp[hk]
 have q9:(x.k == 9)=true:=by simp[hk]
 unfold sF
 clear hk
 go_enter Tryz.func85,Tryz.ntmps85
 go_wp2_with (go_at_call 82;refine Calls.mono BA.out ?_;rintro e w1 ⟨rfl,hb1⟩; have HB1:Hid (Below (u.heap.size+1) (u.alloc (.cells #[.int .i64 x.k,.int .i64 x.op,.int .i64 x.rd,.int .i64 x.r1,.int .i64 x.r2,.int .i64 x.im,.string x.s,.int .i64 x.n] 51)) w1):=hb1.mono (by simp);clear hb1;have HR4:Hid ((w1.alloc (.cells #[.int .i64 0,.int .i64 0,.int .i64 0,.int .i64 0,.int .i64 0] 32)).heap[u.heap.size]?=some (.cells #[.int .i64 x.k,.int .i64 x.op,.int .i64 x.rd,.int .i64 x.r1,.int .i64 x.r2,.int .i64 x.im,.string x.s,.int .i64 x.n] 51 (0,0))):=(Below.heap_alloc _ _ _ (by have:=HB1.out.size;simp at this;omega)).trans ((HB1.out.block _ (by omega)).trans (heap_alloc_new u _));have k0:=cell_of_row (w1.alloc (.cells #[.int .i64 0,.int .i64 0,.int .i64 0,.int .i64 0,.int .i64 0] 32)) u.heap.size 0 _ 51 (0,0) HR4.out;have k1:=cell_of_row (w1.alloc (.cells #[.int .i64 0,.int .i64 0,.int .i64 0,.int .i64 0,.int .i64 0] 32)) u.heap.size 1 _ 51 (0,0) HR4.out;have k2:=cell_of_row (w1.alloc (.cells #[.int .i64 0,.int .i64 0,.int .i64 0,.int .i64 0,.int .i64 0] 32)) u.heap.size 2 _ 51 (0,0) HR4.out;have k3:=cell_of_row (w1.alloc (.cells #[.int .i64 0,.int .i64 0,.int .i64 0,.int .i64 0,.int .i64 0] 32)) u.heap.size 3 _ 51 (0,0) HR4.out;have k4:=cell_of_row (w1.alloc (.cells #[.int .i64 0,.int .i64 0,.int .i64 0,.int .i64 0,.int .i64 0] 32)) u.heap.size 4 _ 51 (0,0) HR4.out;have k5:=cell_of_row (w1.alloc (.cells #[.int .i64 0,.int .i64 0,.int .i64 0,.int .i64 0,.int .i64 0] 32)) u.heap.size 5 _ 51 (0,0) HR4.out;have k6:=cell_of_row (w1.alloc (.cells #[.int .i64 0,.int .i64 0,.int .i64 0,.int .i64 0,.int .i64 0] 32)) u.heap.size 6 _ 51 (0,0) HR4.out;have k7:=cell_of_row (w1.alloc (.cells #[.int .i64 0,.int .i64 0,.int .i64 0,.int .i64 0,.int .i64 0] 32)) u.heap.size 7 _ 51 (0,0) HR4.out;simp only[List.getElem?_toArray,List.getElem?_cons_zero,List.getElem?_cons_succ]at k0 k1 k2 k3 k4 k5 k6 k7)
 go_ret
 have hb:=bU HB1.out
 rw[HI.out]
 refine⟨_,_,_,rfl,aY.one (t:=32) (f:=(0,0)) ⟨33,0,1,0,0⟩ ?_ (bL (by simp)) (by decide),?_⟩
 ·have:=hb.size;simp;omega
 ·exact (hb.trans ((aB _ _).mono hb.size)).trans ((aB _ _).mono (by have:=hb.size;simp;omega))
theorem UJ (x:Pl.Ln) (t la:Int) (ga:Nat) (u:World) (hk:x.k=4) (Iz:Pl.shr x.n=true):sF x la t ga u:=by
 have HI:Hid (Pl.bM x t la=[⟨19,x.rd,0,0,Pl.sg x.n⟩]):=by show _=_;unfold Pl.bM Pl.jT;simp[hk,Iz]
 have BA:Hid (Calls Tryz.prog 82 #[.pointer (some ⟨ga,0,none⟩),.agg #[.int .i64 x.k,.int .i64 x.op,.int .i64 x.rd,.int .i64 x.r1,.int .i64 x.r2,.int .i64 x.im,.string x.s,.int .i64 x.n],.int .i64 t] (u.alloc (.cells #[.int .i64 x.k,.int .i64 x.op,.int .i64 x.rd,.int .i64 x.r1,.int .i64 x.r2,.int .i64 x.im,.string x.s,.int .i64 x.n] 51)) fun e w'=>e=.returned (.tuple #[.agg #[.int .i64 0,.int .i64 0,.int .i64 0,.int .i64 0,.int .i64 0],.bool false])/\Below (u.alloc (.cells #[.int .i64 x.k,.int .i64 x.op,.int .i64 x.rd,.int .i64 x.r1,.int .i64 x.r2,.int .i64 x.im,.string x.s,.int .i64 x.n] 51)).heap.size (u.alloc (.cells #[.int .i64 x.k,.int .i64 x.op,.int .i64 x.rd,.int .i64 x.r1,.int .i64 x.r2,.int .i64 x.im,.string x.s,.int .i64 x.n] 51)) w'):=rR x t (by unfold Pl.jT;simp[hk]) ga _
 have q4:(x.k == 4)=true:=by simp[hk]
 have q5:(x.k == 5)=false:=by simp[hk]
 have q6:(x.k == 6)=false:=by simp[hk]
 have q9:(x.k == 9)=false:=by simp[hk]
 have Yx:Hid _:=Iz
 clear Iz
 unfold sF
 clear hk
 go_enter Tryz.func85,Tryz.ntmps85
 go_upto_region 7 with (first | (go_at_call 82;refine Calls.mono BA.out ?_;rintro e w1 ⟨rfl,hb1⟩; have HB1:Hid (Below (u.heap.size+1) (u.alloc (.cells #[.int .i64 x.k,.int .i64 x.op,.int .i64 x.rd,.int .i64 x.r1,.int .i64 x.r2,.int .i64 x.im,.string x.s,.int .i64 x.n] 51)) w1):=hb1.mono (by simp);clear hb1;have HR4:Hid ((w1.alloc (.cells #[.int .i64 0,.int .i64 0,.int .i64 0,.int .i64 0,.int .i64 0] 32)).heap[u.heap.size]?=some (.cells #[.int .i64 x.k,.int .i64 x.op,.int .i64 x.rd,.int .i64 x.r1,.int .i64 x.r2,.int .i64 x.im,.string x.s,.int .i64 x.n] 51 (0,0))):=(Below.heap_alloc _ _ _ (by have:=HB1.out.size;simp at this;omega)).trans ((HB1.out.block _ (by omega)).trans (heap_alloc_new u _));have k0:=cell_of_row (w1.alloc (.cells #[.int .i64 0,.int .i64 0,.int .i64 0,.int .i64 0,.int .i64 0] 32)) u.heap.size 0 _ 51 (0,0) HR4.out;have k1:=cell_of_row (w1.alloc (.cells #[.int .i64 0,.int .i64 0,.int .i64 0,.int .i64 0,.int .i64 0] 32)) u.heap.size 1 _ 51 (0,0) HR4.out;have k2:=cell_of_row (w1.alloc (.cells #[.int .i64 0,.int .i64 0,.int .i64 0,.int .i64 0,.int .i64 0] 32)) u.heap.size 2 _ 51 (0,0) HR4.out;have k3:=cell_of_row (w1.alloc (.cells #[.int .i64 0,.int .i64 0,.int .i64 0,.int .i64 0,.int .i64 0] 32)) u.heap.size 3 _ 51 (0,0) HR4.out;have k4:=cell_of_row (w1.alloc (.cells #[.int .i64 0,.int .i64 0,.int .i64 0,.int .i64 0,.int .i64 0] 32)) u.heap.size 4 _ 51 (0,0) HR4.out;have k5:=cell_of_row (w1.alloc (.cells #[.int .i64 0,.int .i64 0,.int .i64 0,.int .i64 0,.int .i64 0] 32)) u.heap.size 5 _ 51 (0,0) HR4.out;have k6:=cell_of_row (w1.alloc (.cells #[.int .i64 0,.int .i64 0,.int .i64 0,.int .i64 0,.int .i64 0] 32)) u.heap.size 6 _ 51 (0,0) HR4.out;have k7:=cell_of_row (w1.alloc (.cells #[.int .i64 0,.int .i64 0,.int .i64 0,.int .i64 0,.int .i64 0] 32)) u.heap.size 7 _ 51 (0,0) HR4.out;simp only[List.getElem?_toArray,List.getElem?_cons_zero,List.getElem?_cons_succ]at k0 k1 k2 k3 k4 k5 k6 k7) | (go_at_call 117;refine (uQ _ _).mono ?_;rintro e u1 ⟨rfl,rfl⟩; rw[Yx.out]))
 refine Yv u.heap.size (w1.alloc (.cells #[.int .i64 0,.int .i64 0,.int .i64 0,.int .i64 0,.int .i64 0] 32)).heap.size x (w1.alloc (.cells #[.int .i64 0,.int .i64 0,.int .i64 0,.int .i64 0,.int .i64 0] 32)) rfl HR4.out ?_
 intro ty hty
 clear k0 k1 k2 k3 k4 k5 k6 k7
 go_wp2
 go_ret
 have hb:=bU HB1.out
 rw[HI.out]
 refine⟨_,_,_,rfl,aY.one (t:=ty) (f:=(0,0)) ⟨19,x.rd,0,0,Pl.sg x.n⟩ ?_ (bL (by simp)) hty,?_⟩
 ·have:=hb.size;simp;omega
 ·exact Below.trans (Below.drew (hb.trans ((aB _ _).mono hb.size))) ((aB _ _).mono (by have:=hb.size;simp;omega))
theorem UK (x:Pl.Ln) (t la:Int) (ga:Nat) (u:World) (hk:x.k=4) (Iz:Pl.shr x.n=false) (hv:0<=x.n/\x.n<=4294967295):sF x la t ga u:=by
 have HI:Hid (Pl.bM x t la=Pl.pair x.rd x.n):=by show _=_;unfold Pl.bM Pl.jT;simp[hk,Iz]
 have BA:Hid (Calls Tryz.prog 82 #[.pointer (some ⟨ga,0,none⟩),.agg #[.int .i64 x.k,.int .i64 x.op,.int .i64 x.rd,.int .i64 x.r1,.int .i64 x.r2,.int .i64 x.im,.string x.s,.int .i64 x.n],.int .i64 t] (u.alloc (.cells #[.int .i64 x.k,.int .i64 x.op,.int .i64 x.rd,.int .i64 x.r1,.int .i64 x.r2,.int .i64 x.im,.string x.s,.int .i64 x.n] 51)) fun e w'=>e=.returned (.tuple #[.agg #[.int .i64 0,.int .i64 0,.int .i64 0,.int .i64 0,.int .i64 0],.bool false])/\Below (u.alloc (.cells #[.int .i64 x.k,.int .i64 x.op,.int .i64 x.rd,.int .i64 x.r1,.int .i64 x.r2,.int .i64 x.im,.string x.s,.int .i64 x.n] 51)).heap.size (u.alloc (.cells #[.int .i64 x.k,.int .i64 x.op,.int .i64 x.rd,.int .i64 x.r1,.int .i64 x.r2,.int .i64 x.im,.string x.s,.int .i64 x.n] 51)) w'):=rR x t (by unfold Pl.jT;simp[hk]) ga _
 have q4:(x.k == 4)=true:=by simp[hk]
 have q5:(x.k == 5)=false:=by simp[hk]
 have q6:(x.k == 6)=false:=by simp[hk]
 have q9:(x.k == 9)=false:=by simp[hk]
 have Yx:Hid _:=Iz
 have GK:Hid (∀ v:World,Calls Tryz.prog 119 #[.int .i64 x.rd,.int .i64 x.n] v fun e w'=>∃ a,e=.returned (.slice a 2 2)/\aY v.heap.size w' a 2 (Pl.pair x.rd x.n)/\Below v.heap.size v w'):=fun v=>wS x.rd x.n hv v
 clear Iz hv
 unfold sF
 clear hk
 go_enter Tryz.func85,Tryz.ntmps85
 go_wp2_with (first | (go_at_call 82;refine Calls.mono BA.out ?_;rintro e w1 ⟨rfl,hb1⟩; have HB1:Hid (Below (u.heap.size+1) (u.alloc (.cells #[.int .i64 x.k,.int .i64 x.op,.int .i64 x.rd,.int .i64 x.r1,.int .i64 x.r2,.int .i64 x.im,.string x.s,.int .i64 x.n] 51)) w1):=hb1.mono (by simp);clear hb1;have HR4:Hid ((w1.alloc (.cells #[.int .i64 0,.int .i64 0,.int .i64 0,.int .i64 0,.int .i64 0] 32)).heap[u.heap.size]?=some (.cells #[.int .i64 x.k,.int .i64 x.op,.int .i64 x.rd,.int .i64 x.r1,.int .i64 x.r2,.int .i64 x.im,.string x.s,.int .i64 x.n] 51 (0,0))):=(Below.heap_alloc _ _ _ (by have:=HB1.out.size;simp at this;omega)).trans ((HB1.out.block _ (by omega)).trans (heap_alloc_new u _));have k0:=cell_of_row (w1.alloc (.cells #[.int .i64 0,.int .i64 0,.int .i64 0,.int .i64 0,.int .i64 0] 32)) u.heap.size 0 _ 51 (0,0) HR4.out;have k1:=cell_of_row (w1.alloc (.cells #[.int .i64 0,.int .i64 0,.int .i64 0,.int .i64 0,.int .i64 0] 32)) u.heap.size 1 _ 51 (0,0) HR4.out;have k2:=cell_of_row (w1.alloc (.cells #[.int .i64 0,.int .i64 0,.int .i64 0,.int .i64 0,.int .i64 0] 32)) u.heap.size 2 _ 51 (0,0) HR4.out;have k3:=cell_of_row (w1.alloc (.cells #[.int .i64 0,.int .i64 0,.int .i64 0,.int .i64 0,.int .i64 0] 32)) u.heap.size 3 _ 51 (0,0) HR4.out;have k4:=cell_of_row (w1.alloc (.cells #[.int .i64 0,.int .i64 0,.int .i64 0,.int .i64 0,.int .i64 0] 32)) u.heap.size 4 _ 51 (0,0) HR4.out;have k5:=cell_of_row (w1.alloc (.cells #[.int .i64 0,.int .i64 0,.int .i64 0,.int .i64 0,.int .i64 0] 32)) u.heap.size 5 _ 51 (0,0) HR4.out;have k6:=cell_of_row (w1.alloc (.cells #[.int .i64 0,.int .i64 0,.int .i64 0,.int .i64 0,.int .i64 0] 32)) u.heap.size 6 _ 51 (0,0) HR4.out;have k7:=cell_of_row (w1.alloc (.cells #[.int .i64 0,.int .i64 0,.int .i64 0,.int .i64 0,.int .i64 0] 32)) u.heap.size 7 _ 51 (0,0) HR4.out;simp only[List.getElem?_toArray,List.getElem?_cons_zero,List.getElem?_cons_succ]at k0 k1 k2 k3 k4 k5 k6 k7) | (go_at_call 117;refine (uQ _ _).mono ?_;rintro e u1 ⟨rfl,rfl⟩; rw[Yx.out]) | (go_at_call 119;refine (GK.out _).mono ?_;rintro e u2 ⟨a2,rfl,hr2,hb2⟩))
 go_ret
 have hb:=bU HB1.out
 rw[HI.out]
 have hb3:Below u.heap.size u (w1.alloc (.cells #[.int .i64 0,.int .i64 0,.int .i64 0,.int .i64 0,.int .i64 0] 32)):=hb.trans ((aB _ _).mono hb.size)
 exact⟨_,_,_,rfl,hr2.mono hb3.size,hb3.trans (hb2.mono hb3.size)⟩
theorem Ak (x:Pl.Ln) (t la:Int) (ga:Nat) (u:World) (hk:x.k=5) (v:Int) (hv:0<=v/\v<=4294967295) (hvl:v=Pl.wd (la+x.n)) (DI:∀ W,Below u.heap.size u W->Calls Tryz.prog 120 #[.pointer (some ⟨ga,0,none⟩),.agg #[.int .i64 x.k,.int .i64 x.op,.int .i64 x.rd,.int .i64 x.r1,.int .i64 x.r2,.int .i64 x.im,.string x.s,.int .i64 x.n]] W fun e w'=>e=.returned (.int .i64 v)/\Below W.heap.size W w'):sF x la t ga u:=by
 have HI:Hid (Pl.bM x t la=Pl.pair x.rd (Pl.wd (la+x.n))):=by show _=_;unfold Pl.bM Pl.jT;simp[hk]
 have BA:Hid (Calls Tryz.prog 82 #[.pointer (some ⟨ga,0,none⟩),.agg #[.int .i64 x.k,.int .i64 x.op,.int .i64 x.rd,.int .i64 x.r1,.int .i64 x.r2,.int .i64 x.im,.string x.s,.int .i64 x.n],.int .i64 t] (u.alloc (.cells #[.int .i64 x.k,.int .i64 x.op,.int .i64 x.rd,.int .i64 x.r1,.int .i64 x.r2,.int .i64 x.im,.string x.s,.int .i64 x.n] 51)) fun e w'=>e=.returned (.tuple #[.agg #[.int .i64 0,.int .i64 0,.int .i64 0,.int .i64 0,.int .i64 0],.bool false])/\Below (u.alloc (.cells #[.int .i64 x.k,.int .i64 x.op,.int .i64 x.rd,.int .i64 x.r1,.int .i64 x.r2,.int .i64 x.im,.string x.s,.int .i64 x.n] 51)).heap.size (u.alloc (.cells #[.int .i64 x.k,.int .i64 x.op,.int .i64 x.rd,.int .i64 x.r1,.int .i64 x.r2,.int .i64 x.im,.string x.s,.int .i64 x.n] 51)) w'):=rR x t (by unfold Pl.jT;simp[hk]) ga _
 have q4:(x.k == 4)=false:=by simp[hk]
 have q5:(x.k == 5)=true:=by simp[hk]
 have q6:(x.k == 6)=false:=by simp[hk]
 have q9:(x.k == 9)=false:=by simp[hk]
 have Af:Hid _:=DI
 have HVB:Hid _:=hv
 have HI:Hid (Pl.bM x t la=Pl.pair x.rd v):=by show _=_;rw[HI.out,hvl]
 clear DI hv hvl
 unfold sF
 clear hk
 go_enter Tryz.func85,Tryz.ntmps85
 go_upto_region 10 with (go_at_call 82;refine Calls.mono BA.out ?_;rintro e w1 ⟨rfl,hb1⟩; have HB1:Hid (Below (u.heap.size+1) (u.alloc (.cells #[.int .i64 x.k,.int .i64 x.op,.int .i64 x.rd,.int .i64 x.r1,.int .i64 x.r2,.int .i64 x.im,.string x.s,.int .i64 x.n] 51)) w1):=hb1.mono (by simp);clear hb1;have HR4:Hid ((w1.alloc (.cells #[.int .i64 0,.int .i64 0,.int .i64 0,.int .i64 0,.int .i64 0] 32)).heap[u.heap.size]?=some (.cells #[.int .i64 x.k,.int .i64 x.op,.int .i64 x.rd,.int .i64 x.r1,.int .i64 x.r2,.int .i64 x.im,.string x.s,.int .i64 x.n] 51 (0,0))):=(Below.heap_alloc _ _ _ (by have:=HB1.out.size;simp at this;omega)).trans ((HB1.out.block _ (by omega)).trans (heap_alloc_new u _));have k0:=cell_of_row (w1.alloc (.cells #[.int .i64 0,.int .i64 0,.int .i64 0,.int .i64 0,.int .i64 0] 32)) u.heap.size 0 _ 51 (0,0) HR4.out;have k1:=cell_of_row (w1.alloc (.cells #[.int .i64 0,.int .i64 0,.int .i64 0,.int .i64 0,.int .i64 0] 32)) u.heap.size 1 _ 51 (0,0) HR4.out;have k2:=cell_of_row (w1.alloc (.cells #[.int .i64 0,.int .i64 0,.int .i64 0,.int .i64 0,.int .i64 0] 32)) u.heap.size 2 _ 51 (0,0) HR4.out;have k3:=cell_of_row (w1.alloc (.cells #[.int .i64 0,.int .i64 0,.int .i64 0,.int .i64 0,.int .i64 0] 32)) u.heap.size 3 _ 51 (0,0) HR4.out;have k4:=cell_of_row (w1.alloc (.cells #[.int .i64 0,.int .i64 0,.int .i64 0,.int .i64 0,.int .i64 0] 32)) u.heap.size 4 _ 51 (0,0) HR4.out;have k5:=cell_of_row (w1.alloc (.cells #[.int .i64 0,.int .i64 0,.int .i64 0,.int .i64 0,.int .i64 0] 32)) u.heap.size 5 _ 51 (0,0) HR4.out;have k6:=cell_of_row (w1.alloc (.cells #[.int .i64 0,.int .i64 0,.int .i64 0,.int .i64 0,.int .i64 0] 32)) u.heap.size 6 _ 51 (0,0) HR4.out;have k7:=cell_of_row (w1.alloc (.cells #[.int .i64 0,.int .i64 0,.int .i64 0,.int .i64 0,.int .i64 0] 32)) u.heap.size 7 _ 51 (0,0) HR4.out;simp only[List.getElem?_toArray,List.getElem?_cons_zero,List.getElem?_cons_succ]at k0 k1 k2 k3 k4 k5 k6 k7)
 have HB3:Hid (Below u.heap.size u (w1.alloc (.cells #[.int .i64 0,.int .i64 0,.int .i64 0,.int .i64 0,.int .i64 0] 32))):=(bU HB1.out).trans ((aB _ _).mono (bU HB1.out).size)
 refine Ot ga u.heap.size x v (w1.alloc (.cells #[.int .i64 0,.int .i64 0,.int .i64 0,.int .i64 0,.int .i64 0] 32)) HR4.out HVB.out (Af.out _ (Below.drew HB3.out)) ?_
 intro a2 w3 hr3 hb3
 clear k0 k1 k2 k3 k4 k5 k6 k7
 go_wp2
 go_ret
 rw[HI.out]
 exact⟨_,_,_,rfl,hr3.mono HB3.out.size,HB3.out.trans (hb3.mono HB3.out.size)⟩
def Rj (lo:Nat) (w:World) (a:Option Addr) (n:Nat) (vs:List Int):Prop:=vs.length=n/\∃ b,a=some ⟨b,0,none⟩/\lo<=b/\w.heap[b]?=some (.cells (vs.map (Value.int .u8)).toArray 5 (0,0))
def xH (x:Pl.Ln) (b:Int) (vs:List Int) (ga:Nat) (u:World):Prop:=
 Calls Tryz.prog 86 #[.pointer (some ⟨ga,0,none⟩),.agg #[.int .i64 x.k,.int .i64 x.op,.int .i64 x.rd,.int .i64 x.r1,.int .i64 x.r2,.int .i64 x.im,.string x.s,.int .i64 x.n],.int .i64 b] u fun e u'=>∃ a n c,e=.returned (.slice a n c)/\n<=c/\c<=65536/\Rj u.heap.size u' a n vs/\Below u.heap.size u u'
theorem Ja:(Tryz.prog.info? 5).map (fun i=>(i.zero,i.size,i.bytes))=some (some (.int .u8 0),1,1):=by kernel_rfl
theorem KY (n:Nat):madeCells (Value.int .u8 0).cells n=((List.replicate n (0:Int)).map (Value.int .u8)).toArray:=by
 apply Array.ext'
 refine (toList_madeCells_one (Value.int .u8 0) n).trans ?_
 simp
theorem vN (n:Nat) (hn:n<=65536) (u:World):(Instr.makeSlice 22 (.int .i64 (n:Int)) (.int .i64 (n:Int))).run Tryz.prog u=.ok (.slice (some ⟨u.heap.size,0,none⟩) n n) (u.alloc (.cells ((List.replicate n (0:Int)).map (Value.int .u8)).toArray 5)):=by
 obtain⟨i0,hi0,hz0,hz1,hz2⟩:=info_parts Ja
 have:=run_makeSlice u 22 5 i0 _ Tryz.underlying22 hi0 hz0 .i64 .i64 (n:Int) (n:Int) (by omega) (by omega) (by rw[hz1];simp;omega) (by rw[hz2];omega) (by omega)
 rw[hz1]at this
 rw[<- KY]
 simpa using this
theorem Al (x:Pl.Ln) (b:Int) (ga:Nat) (u:World) (n:Nat) (hn:n<=65536) (hk:x.k=15\/x.k=16) (CX:Calls Tryz.prog 113 #[.agg #[.int .i64 x.k,.int .i64 x.op,.int .i64 x.rd,.int .i64 x.r1,.int .i64 x.r2,.int .i64 x.im,.string x.s,.int .i64 x.n],.int .i64 b] (u.alloc (.cells #[.int .i64 x.k,.int .i64 x.op,.int .i64 x.rd,.int .i64 x.r1,.int .i64 x.r2,.int .i64 x.im,.string x.s,.int .i64 x.n] 51)) fun e w'=>e=.returned (.int .i64 (n:Int))/\Below (u.alloc (.cells #[.int .i64 x.k,.int .i64 x.op,.int .i64 x.rd,.int .i64 x.r1,.int .i64 x.r2,.int .i64 x.im,.string x.s,.int .i64 x.n] 51)).heap.size (u.alloc (.cells #[.int .i64 x.k,.int .i64 x.op,.int .i64 x.rd,.int .i64 x.r1,.int .i64 x.r2,.int .i64 x.im,.string x.s,.int .i64 x.n] 51)) w'):xH x b (List.replicate n 0) ga u:=by
 have uI:Hid _:=CX
 have hmk:=vN n hn
 obtain⟨cs,hcs⟩:∃ cs,cs=((List.replicate n (0:Int)).map (Value.int .u8)).toArray:=⟨_,rfl⟩
 have vS:Hid _:=hcs
 rw[<- hcs]at hmk
 have HN:Hid _:=hn
 clear CX hcs hn
 unfold xH
 rcases hk with hk | hk
 ·have yI:(x.k == 15)=true:=by simp[hk]
  clear hk
  go_enter Tryz.func86,Tryz.ntmps86
  go_wp2_with (go_at_call 113;refine Calls.mono uI.out ?_;rintro e w1 ⟨rfl,hb1⟩; have HB1:Hid (Below (u.heap.size+1) (u.alloc (.cells #[.int .i64 x.k,.int .i64 x.op,.int .i64 x.rd,.int .i64 x.r1,.int .i64 x.r2,.int .i64 x.im,.string x.s,.int .i64 x.n] 51)) w1):=hb1.mono (by simp);clear hb1;have k0:(w1.alloc (.cells cs 5)).cell? ⟨u.heap.size,0,none⟩=some (.int .i64 x.k):=aF (aB w1 _) (cell_of_row w1 u.heap.size 0 #[.int .i64 x.k,.int .i64 x.op,.int .i64 x.rd,.int .i64 x.r1,.int .i64 x.r2,.int .i64 x.im,.string x.s,.int .i64 x.n] 51 (0,0) ((HB1.out.block _ (by omega)).trans (heap_alloc_new u _))))
  go_ret
  have hb:=bU HB1.out
  exact⟨_,_,_,rfl,Nat.le_refl _,HN.out,⟨by simp,w1.heap.size,rfl,hb.size,by rw[<- vS.out];exact heap_alloc_new w1 _⟩,hb.trans ((aB _ _).mono hb.size)⟩
 ·have yI:(x.k == 15)=false:=by simp[hk]
  have q16:(x.k == 16)=true:=by simp[hk]
  clear hk
  go_enter Tryz.func86,Tryz.ntmps86
  go_wp2_with (go_at_call 113;refine Calls.mono uI.out ?_;rintro e w1 ⟨rfl,hb1⟩; have HB1:Hid (Below (u.heap.size+1) (u.alloc (.cells #[.int .i64 x.k,.int .i64 x.op,.int .i64 x.rd,.int .i64 x.r1,.int .i64 x.r2,.int .i64 x.im,.string x.s,.int .i64 x.n] 51)) w1):=hb1.mono (by simp);clear hb1;have k0:(w1.alloc (.cells cs 5)).cell? ⟨u.heap.size,0,none⟩=some (.int .i64 x.k):=aF (aB w1 _) (cell_of_row w1 u.heap.size 0 #[.int .i64 x.k,.int .i64 x.op,.int .i64 x.rd,.int .i64 x.r1,.int .i64 x.r2,.int .i64 x.im,.string x.s,.int .i64 x.n] 51 (0,0) ((HB1.out.block _ (by omega)).trans (heap_alloc_new u _))))
  go_ret
  have hb:=bU HB1.out
  exact⟨_,_,_,rfl,Nat.le_refl _,HN.out,⟨by simp,w1.heap.size,rfl,hb.size,by rw[<- vS.out];exact heap_alloc_new w1 _⟩,hb.trans ((aB _ _).mono hb.size)⟩
theorem Am (x:Pl.Ln) (b v:Int) (ga:Nat) (u:World) (hv:0<=v/\v<=4294967295) (hk:x.k≠15/\x.k≠16) (CX:Calls Tryz.prog 113 #[.agg #[.int .i64 x.k,.int .i64 x.op,.int .i64 x.rd,.int .i64 x.r1,.int .i64 x.r2,.int .i64 x.im,.string x.s,.int .i64 x.n],.int .i64 b] (u.alloc (.cells #[.int .i64 x.k,.int .i64 x.op,.int .i64 x.rd,.int .i64 x.r1,.int .i64 x.r2,.int .i64 x.im,.string x.s,.int .i64 x.n] 51)) fun e w'=>e=.returned (.int .i64 1)/\Below (u.alloc (.cells #[.int .i64 x.k,.int .i64 x.op,.int .i64 x.rd,.int .i64 x.r1,.int .i64 x.r2,.int .i64 x.im,.string x.s,.int .i64 x.n] 51)).heap.size (u.alloc (.cells #[.int .i64 x.k,.int .i64 x.op,.int .i64 x.rd,.int .i64 x.r1,.int .i64 x.r2,.int .i64 x.im,.string x.s,.int .i64 x.n] 51)) w')
  (DI:∀ W,Below u.heap.size u W->Calls Tryz.prog 120 #[.pointer (some ⟨ga,0,none⟩),.agg #[.int .i64 x.k,.int .i64 x.op,.int .i64 x.rd,.int .i64 x.r1,.int .i64 x.r2,.int .i64 x.im,.string x.s,.int .i64 x.n]] W fun e w'=>e=.returned (.int .i64 v)/\Below W.heap.size W w'):xH x b (Pl.nD v 1) ga u:=by
 have uI:Hid _:=CX
 have Af:Hid _:=DI
 have hmk:∀ u:World,(Instr.makeSlice 22 (.int .i64 1) (.int .i64 1)).run Tryz.prog u=.ok (.slice (some ⟨u.heap.size,0,none⟩) 1 1) (u.alloc (.cells #[.int .u8 0] 5)):=fun u=>vN 1 (by decide) u
 have yI:(x.k == 15)=false:=by simp[hk.1]
 have q16:(x.k == 16)=false:=by simp[hk.2]
 clear CX DI hk
 unfold xH
 go_enter Tryz.func86,Tryz.ntmps86
 go_wp2_with (first | (go_at_call 113;refine Calls.mono uI.out ?_;rintro e w1 ⟨rfl,hb1⟩; have HB1:Hid (Below (u.heap.size+1) (u.alloc (.cells #[.int .i64 x.k,.int .i64 x.op,.int .i64 x.rd,.int .i64 x.r1,.int .i64 x.r2,.int .i64 x.im,.string x.s,.int .i64 x.n] 51)) w1):=hb1.mono (by simp);clear hb1;have HR4:Hid ((w1.alloc (.cells #[.int .u8 0] 5)).heap[u.heap.size]?=some (.cells #[.int .i64 x.k,.int .i64 x.op,.int .i64 x.rd,.int .i64 x.r1,.int .i64 x.r2,.int .i64 x.im,.string x.s,.int .i64 x.n] 51 (0,0))):=(Below.heap_alloc _ _ _ (by have:=HB1.out.size;simp at this;omega)).trans ((HB1.out.block _ (by omega)).trans (heap_alloc_new u _));have k0:=cell_of_row (w1.alloc (.cells #[.int .u8 0] 5)) u.heap.size 0 _ 51 (0,0) HR4.out;have k1:=cell_of_row (w1.alloc (.cells #[.int .u8 0] 5)) u.heap.size 1 _ 51 (0,0) HR4.out;have k2:=cell_of_row (w1.alloc (.cells #[.int .u8 0] 5)) u.heap.size 2 _ 51 (0,0) HR4.out;have k3:=cell_of_row (w1.alloc (.cells #[.int .u8 0] 5)) u.heap.size 3 _ 51 (0,0) HR4.out;have k4:=cell_of_row (w1.alloc (.cells #[.int .u8 0] 5)) u.heap.size 4 _ 51 (0,0) HR4.out;have k5:=cell_of_row (w1.alloc (.cells #[.int .u8 0] 5)) u.heap.size 5 _ 51 (0,0) HR4.out;have k6:=cell_of_row (w1.alloc (.cells #[.int .u8 0] 5)) u.heap.size 6 _ 51 (0,0) HR4.out;have k7:=cell_of_row (w1.alloc (.cells #[.int .u8 0] 5)) u.heap.size 7 _ 51 (0,0) HR4.out;simp only[List.getElem?_toArray,List.getElem?_cons_zero,List.getElem?_cons_succ]at k0 k1 k2 k3 k4 k5 k6 k7) | (go_at_call 120;have HB3:Hid (Below u.heap.size u (w1.alloc (.cells #[.int .u8 0] 5))):=(bU HB1.out).trans ((aB _ _).mono (bU HB1.out).size);refine Calls.mono (Af.out _ HB3.out) ?_;rintro e w2 ⟨rfl,hb2⟩; have HB2:Hid (Below u.heap.size u w2):=HB3.out.trans (hb2.mono HB3.out.size);have HRW:Hid (w2.heap[w1.heap.size]?=some (.cells #[.int .u8 0] 5 (0,0))):=(hb2.block _ (by simp)).trans (heap_alloc_new w1 _);clear hb2 k0 k1 k2 k3 k4 k5 k6 k7;have c0:w2.cell? ⟨w1.heap.size,0,none⟩=some (.int .u8 0):=cell_of_row w2 w1.heap.size 0 _ 5 (0,0) HRW.out;have cf:=fun i=>frozen_of_row w2 w1.heap.size i _ 5 HRW.out))
 refine wp_loop_rounds 2 ?_
 rw[rounds_succ]
 go_wp2_with fail
 rw[rounds_succ]
 go_wp2_with fail
 go_ret
 have g1:=heap_setCell_same w2 w1.heap.size 0 _ _ (.int .u8 (v % 256)) HRW.out
 refine⟨_,_,_,rfl,by decide,by decide,⟨by simp[Pl.nD],w1.heap.size,rfl,(bU HB1.out).size,?_⟩,?_⟩
 ·have e:Pl.nD v 1=[v % 256]:=by
   have e0:v / 1=v:=Int.ediv_one v
   show [v / 256 ^ 0 % 256]=_
   simp only[Int.reducePow,e0]
  rw[e]
  exact g1
 ·exact (HB2.out).setCell (p:=⟨w1.heap.size,0,none⟩) (bU HB1.out).size _
theorem Ao (x:Pl.Ln) (b v:Int) (ga:Nat) (u:World) (hv:0<=v/\v<=4294967295) (hk:x.k≠15/\x.k≠16) (CX:Calls Tryz.prog 113 #[.agg #[.int .i64 x.k,.int .i64 x.op,.int .i64 x.rd,.int .i64 x.r1,.int .i64 x.r2,.int .i64 x.im,.string x.s,.int .i64 x.n],.int .i64 b] (u.alloc (.cells #[.int .i64 x.k,.int .i64 x.op,.int .i64 x.rd,.int .i64 x.r1,.int .i64 x.r2,.int .i64 x.im,.string x.s,.int .i64 x.n] 51)) fun e w'=>e=.returned (.int .i64 2)/\Below (u.alloc (.cells #[.int .i64 x.k,.int .i64 x.op,.int .i64 x.rd,.int .i64 x.r1,.int .i64 x.r2,.int .i64 x.im,.string x.s,.int .i64 x.n] 51)).heap.size (u.alloc (.cells #[.int .i64 x.k,.int .i64 x.op,.int .i64 x.rd,.int .i64 x.r1,.int .i64 x.r2,.int .i64 x.im,.string x.s,.int .i64 x.n] 51)) w')
  (DI:∀ W,Below u.heap.size u W->Calls Tryz.prog 120 #[.pointer (some ⟨ga,0,none⟩),.agg #[.int .i64 x.k,.int .i64 x.op,.int .i64 x.rd,.int .i64 x.r1,.int .i64 x.r2,.int .i64 x.im,.string x.s,.int .i64 x.n]] W fun e w'=>e=.returned (.int .i64 v)/\Below W.heap.size W w'):xH x b (Pl.nD v 2) ga u:=by
 have uI:Hid _:=CX
 have Af:Hid _:=DI
 have hmk:∀ u:World,(Instr.makeSlice 22 (.int .i64 2) (.int .i64 2)).run Tryz.prog u=.ok (.slice (some ⟨u.heap.size,0,none⟩) 2 2) (u.alloc (.cells #[.int .u8 0,.int .u8 0] 5)):=fun u=>vN 2 (by decide) u
 have yI:(x.k == 15)=false:=by simp[hk.1]
 have q16:(x.k == 16)=false:=by simp[hk.2]
 clear CX DI hk
 unfold xH
 go_enter Tryz.func86,Tryz.ntmps86
 go_wp2_with (first | (go_at_call 113;refine Calls.mono uI.out ?_;rintro e w1 ⟨rfl,hb1⟩; have HB1:Hid (Below (u.heap.size+1) (u.alloc (.cells #[.int .i64 x.k,.int .i64 x.op,.int .i64 x.rd,.int .i64 x.r1,.int .i64 x.r2,.int .i64 x.im,.string x.s,.int .i64 x.n] 51)) w1):=hb1.mono (by simp);clear hb1;have HR4:Hid ((w1.alloc (.cells #[.int .u8 0,.int .u8 0] 5)).heap[u.heap.size]?=some (.cells #[.int .i64 x.k,.int .i64 x.op,.int .i64 x.rd,.int .i64 x.r1,.int .i64 x.r2,.int .i64 x.im,.string x.s,.int .i64 x.n] 51 (0,0))):=(Below.heap_alloc _ _ _ (by have:=HB1.out.size;simp at this;omega)).trans ((HB1.out.block _ (by omega)).trans (heap_alloc_new u _));have k0:=cell_of_row (w1.alloc (.cells #[.int .u8 0,.int .u8 0] 5)) u.heap.size 0 _ 51 (0,0) HR4.out;have k1:=cell_of_row (w1.alloc (.cells #[.int .u8 0,.int .u8 0] 5)) u.heap.size 1 _ 51 (0,0) HR4.out;have k2:=cell_of_row (w1.alloc (.cells #[.int .u8 0,.int .u8 0] 5)) u.heap.size 2 _ 51 (0,0) HR4.out;have k3:=cell_of_row (w1.alloc (.cells #[.int .u8 0,.int .u8 0] 5)) u.heap.size 3 _ 51 (0,0) HR4.out;have k4:=cell_of_row (w1.alloc (.cells #[.int .u8 0,.int .u8 0] 5)) u.heap.size 4 _ 51 (0,0) HR4.out;have k5:=cell_of_row (w1.alloc (.cells #[.int .u8 0,.int .u8 0] 5)) u.heap.size 5 _ 51 (0,0) HR4.out;have k6:=cell_of_row (w1.alloc (.cells #[.int .u8 0,.int .u8 0] 5)) u.heap.size 6 _ 51 (0,0) HR4.out;have k7:=cell_of_row (w1.alloc (.cells #[.int .u8 0,.int .u8 0] 5)) u.heap.size 7 _ 51 (0,0) HR4.out;simp only[List.getElem?_toArray,List.getElem?_cons_zero,List.getElem?_cons_succ]at k0 k1 k2 k3 k4 k5 k6 k7) | (go_at_call 120;have HB3:Hid (Below u.heap.size u (w1.alloc (.cells #[.int .u8 0,.int .u8 0] 5))):=(bU HB1.out).trans ((aB _ _).mono (bU HB1.out).size);refine Calls.mono (Af.out _ HB3.out) ?_;rintro e w2 ⟨rfl,hb2⟩; have HB2:Hid (Below u.heap.size u w2):=HB3.out.trans (hb2.mono HB3.out.size);have HRW:Hid (w2.heap[w1.heap.size]?=some (.cells #[.int .u8 0,.int .u8 0] 5 (0,0))):=(hb2.block _ (by simp)).trans (heap_alloc_new w1 _);clear hb2 k0 k1 k2 k3 k4 k5 k6 k7;have c0:w2.cell? ⟨w1.heap.size,0,none⟩=some (.int .u8 0):=cell_of_row w2 w1.heap.size 0 _ 5 (0,0) HRW.out;have c1:w2.cell? ⟨w1.heap.size,1,none⟩=some (.int .u8 0):=cell_of_row w2 w1.heap.size 1 _ 5 (0,0) HRW.out;have cf:=fun i=>frozen_of_row w2 w1.heap.size i _ 5 HRW.out))
 refine wp_loop_rounds 3 ?_
 rw[rounds_succ]
 go_wp2_with fail
 rw[rounds_succ]
 go_wp2_with fail
 rw[rounds_succ]
 go_wp2_with fail
 go_ret
 have g1:=heap_setCell_same w2 w1.heap.size 0 _ _ (.int .u8 (v % 256)) HRW.out
 have g2:=heap_setCell_same _ w1.heap.size 1 _ _ (.int .u8 (v / 256 % 256)) g1
 refine⟨_,_,_,rfl,by decide,by decide,⟨by simp[Pl.nD],w1.heap.size,rfl,(bU HB1.out).size,?_⟩,?_⟩
 ·have e:Pl.nD v 2=[v % 256,v / 256 % 256]:=by
   have e0:v / 1=v:=Int.ediv_one v
   show [v / 256 ^ 0 % 256,v / 256 ^ 1 % 256]=_
   simp only[Int.reducePow,e0]
  rw[e]
  exact g2
 ·exact ((HB2.out).setCell (p:=⟨w1.heap.size,0,none⟩) (bU HB1.out).size _).setCell (p:=⟨w1.heap.size,1,none⟩) (bU HB1.out).size _
theorem Ap (x:Pl.Ln) (b v:Int) (ga:Nat) (u:World) (hv:0<=v/\v<=4294967295) (hk:x.k≠15/\x.k≠16) (CX:Calls Tryz.prog 113 #[.agg #[.int .i64 x.k,.int .i64 x.op,.int .i64 x.rd,.int .i64 x.r1,.int .i64 x.r2,.int .i64 x.im,.string x.s,.int .i64 x.n],.int .i64 b] (u.alloc (.cells #[.int .i64 x.k,.int .i64 x.op,.int .i64 x.rd,.int .i64 x.r1,.int .i64 x.r2,.int .i64 x.im,.string x.s,.int .i64 x.n] 51)) fun e w'=>e=.returned (.int .i64 4)/\Below (u.alloc (.cells #[.int .i64 x.k,.int .i64 x.op,.int .i64 x.rd,.int .i64 x.r1,.int .i64 x.r2,.int .i64 x.im,.string x.s,.int .i64 x.n] 51)).heap.size (u.alloc (.cells #[.int .i64 x.k,.int .i64 x.op,.int .i64 x.rd,.int .i64 x.r1,.int .i64 x.r2,.int .i64 x.im,.string x.s,.int .i64 x.n] 51)) w')
  (DI:∀ W,Below u.heap.size u W->Calls Tryz.prog 120 #[.pointer (some ⟨ga,0,none⟩),.agg #[.int .i64 x.k,.int .i64 x.op,.int .i64 x.rd,.int .i64 x.r1,.int .i64 x.r2,.int .i64 x.im,.string x.s,.int .i64 x.n]] W fun e w'=>e=.returned (.int .i64 v)/\Below W.heap.size W w'):xH x b (Pl.nD v 4) ga u:=by
 have uI:Hid _:=CX
 have Af:Hid _:=DI
 have hmk:∀ u:World,(Instr.makeSlice 22 (.int .i64 4) (.int .i64 4)).run Tryz.prog u=.ok (.slice (some ⟨u.heap.size,0,none⟩) 4 4) (u.alloc (.cells #[.int .u8 0,.int .u8 0,.int .u8 0,.int .u8 0] 5)):=fun u=>vN 4 (by decide) u
 have yI:(x.k == 15)=false:=by simp[hk.1]
 have q16:(x.k == 16)=false:=by simp[hk.2]
 clear CX DI hk
 unfold xH
 go_enter Tryz.func86,Tryz.ntmps86
 go_wp2_with (first | (go_at_call 113;refine Calls.mono uI.out ?_;rintro e w1 ⟨rfl,hb1⟩; have HB1:Hid (Below (u.heap.size+1) (u.alloc (.cells #[.int .i64 x.k,.int .i64 x.op,.int .i64 x.rd,.int .i64 x.r1,.int .i64 x.r2,.int .i64 x.im,.string x.s,.int .i64 x.n] 51)) w1):=hb1.mono (by simp);clear hb1;have HR4:Hid ((w1.alloc (.cells #[.int .u8 0,.int .u8 0,.int .u8 0,.int .u8 0] 5)).heap[u.heap.size]?=some (.cells #[.int .i64 x.k,.int .i64 x.op,.int .i64 x.rd,.int .i64 x.r1,.int .i64 x.r2,.int .i64 x.im,.string x.s,.int .i64 x.n] 51 (0,0))):=(Below.heap_alloc _ _ _ (by have:=HB1.out.size;simp at this;omega)).trans ((HB1.out.block _ (by omega)).trans (heap_alloc_new u _));have k0:=cell_of_row (w1.alloc (.cells #[.int .u8 0,.int .u8 0,.int .u8 0,.int .u8 0] 5)) u.heap.size 0 _ 51 (0,0) HR4.out;have k1:=cell_of_row (w1.alloc (.cells #[.int .u8 0,.int .u8 0,.int .u8 0,.int .u8 0] 5)) u.heap.size 1 _ 51 (0,0) HR4.out;have k2:=cell_of_row (w1.alloc (.cells #[.int .u8 0,.int .u8 0,.int .u8 0,.int .u8 0] 5)) u.heap.size 2 _ 51 (0,0) HR4.out;have k3:=cell_of_row (w1.alloc (.cells #[.int .u8 0,.int .u8 0,.int .u8 0,.int .u8 0] 5)) u.heap.size 3 _ 51 (0,0) HR4.out;have k4:=cell_of_row (w1.alloc (.cells #[.int .u8 0,.int .u8 0,.int .u8 0,.int .u8 0] 5)) u.heap.size 4 _ 51 (0,0) HR4.out;have k5:=cell_of_row (w1.alloc (.cells #[.int .u8 0,.int .u8 0,.int .u8 0,.int .u8 0] 5)) u.heap.size 5 _ 51 (0,0) HR4.out;have k6:=cell_of_row (w1.alloc (.cells #[.int .u8 0,.int .u8 0,.int .u8 0,.int .u8 0] 5)) u.heap.size 6 _ 51 (0,0) HR4.out;have k7:=cell_of_row (w1.alloc (.cells #[.int .u8 0,.int .u8 0,.int .u8 0,.int .u8 0] 5)) u.heap.size 7 _ 51 (0,0) HR4.out;simp only[List.getElem?_toArray,List.getElem?_cons_zero,List.getElem?_cons_succ]at k0 k1 k2 k3 k4 k5 k6 k7) | (go_at_call 120;have HB3:Hid (Below u.heap.size u (w1.alloc (.cells #[.int .u8 0,.int .u8 0,.int .u8 0,.int .u8 0] 5))):=(bU HB1.out).trans ((aB _ _).mono (bU HB1.out).size);refine Calls.mono (Af.out _ HB3.out) ?_;rintro e w2 ⟨rfl,hb2⟩; have HB2:Hid (Below u.heap.size u w2):=HB3.out.trans (hb2.mono HB3.out.size);have HRW:Hid (w2.heap[w1.heap.size]?=some (.cells #[.int .u8 0,.int .u8 0,.int .u8 0,.int .u8 0] 5 (0,0))):=(hb2.block _ (by simp)).trans (heap_alloc_new w1 _);clear hb2 k0 k1 k2 k3 k4 k5 k6 k7;have c0:w2.cell? ⟨w1.heap.size,0,none⟩=some (.int .u8 0):=cell_of_row w2 w1.heap.size 0 _ 5 (0,0) HRW.out;have c1:w2.cell? ⟨w1.heap.size,1,none⟩=some (.int .u8 0):=cell_of_row w2 w1.heap.size 1 _ 5 (0,0) HRW.out;have c2:w2.cell? ⟨w1.heap.size,2,none⟩=some (.int .u8 0):=cell_of_row w2 w1.heap.size 2 _ 5 (0,0) HRW.out;have c3:w2.cell? ⟨w1.heap.size,3,none⟩=some (.int .u8 0):=cell_of_row w2 w1.heap.size 3 _ 5 (0,0) HRW.out;have cf:=fun i=>frozen_of_row w2 w1.heap.size i _ 5 HRW.out))
 refine wp_loop_rounds 5 ?_
 rw[rounds_succ]
 go_wp2_with fail
 rw[rounds_succ]
 go_wp2_with fail
 rw[rounds_succ]
 go_wp2_with fail
 rw[rounds_succ]
 go_wp2_with fail
 rw[rounds_succ]
 go_wp2_with fail
 go_ret
 have g1:=heap_setCell_same w2 w1.heap.size 0 _ _ (.int .u8 (v % 256)) HRW.out
 have g2:=heap_setCell_same _ w1.heap.size 1 _ _ (.int .u8 (v / 256 % 256)) g1
 have g3:=heap_setCell_same _ w1.heap.size 2 _ _ (.int .u8 (v / 65536 % 256)) g2
 have g4:=heap_setCell_same _ w1.heap.size 3 _ _ (.int .u8 (v / 16777216)) g3
 refine⟨_,_,_,rfl,by decide,by decide,⟨by simp[Pl.nD],w1.heap.size,rfl,(bU HB1.out).size,?_⟩,?_⟩
 ·have e:Pl.nD v 4=[v % 256,v / 256 % 256,v / 65536 % 256,v / 16777216]:=by
   have e0:v / 1=v:=Int.ediv_one v
   show [v / 256 ^ 0 % 256,v / 256 ^ 1 % 256,v / 256 ^ 2 % 256,v / 256 ^ 3 % 256]=_
   simp only[Int.reducePow,e0]
   rw[show v / 16777216 % 256=v / 16777216 by omega]
  rw[e]
  exact g4
 ·exact ((((HB2.out).setCell (p:=⟨w1.heap.size,0,none⟩) (bU HB1.out).size _).setCell (p:=⟨w1.heap.size,1,none⟩) (bU HB1.out).size _).setCell (p:=⟨w1.heap.size,2,none⟩) (bU HB1.out).size _).setCell (p:=⟨w1.heap.size,3,none⟩) (bU HB1.out).size _
noncomputable def Jb (n:Nat):Code:=((Tryz.f38.body.bind (lG n)).getD .skip)
structure vO (w0 u:World) (g:Nat) (en sk:Int) (vc vd:Value) (cs ds:List Int):Prop where
 row:u.heap[g]?=some (.cells #[vc,vd,.int .i64 en,.int .i64 sk] 28 (0,0))
 oc:u.ownsRow w0.heap.size 3 1 vc cs.length (Pl.IW cs)
 od:u.ownsRow w0.heap.size 5 1 vd ds.length (Pl.rY ds)
 gP:Below w0.heap.size w0 u
 hg:w0.heap.size<=g
section
variable {w0 u u':World} {g:Nat} {en sk:Int} {vc vd:Value} {cs ds:List Int}
theorem vO.lt (h:vO w0 u g en sk vc vd cs ds):g<u.heap.size:=(Array.getElem?_eq_some_iff.1 h.row).1
theorem vO.size (h:vO w0 u g en sk vc vd cs ds):w0.heap.size<=u.heap.size:=h.gP.size
theorem vO.fz (h:vO w0 u g en sk vc vd cs ds) (j:Nat):u.frozen? ⟨g,j,none⟩=false:=frozen_of_row _ _ j _ 28 h.row
theorem vO.keep (h:vO w0 u g en sk vc vd cs ds) (hb:Below u.heap.size u u'):vO w0 u' g en sk vc vd cs ds:=
 ⟨(hb.block g h.lt).trans h.row,pG h.oc hb,pG h.od hb,h.gP.trans (hb.mono h.size),h.hg⟩
theorem vO.XP (h:vO w0 u g en sk vc vd cs ds) {v':Value} {cs':List Int} (ho:u'.ownsRow w0.heap.size 3 1 v' cs'.length (Pl.IW cs')) (hy:oZ 3 u u') (hb:Below w0.heap.size u u'):vO w0 (u'.setCell ⟨g,0,none⟩ v') g en sk v' vd cs' ds:=by
 have hr:=hy.block g _ h.row (fun c q=>by injection q with _ q2 _;exact absurd q2 (by decide))
 exact⟨heap_setCell_same _ _ _ _ _ _ hr,dD ho hr (by decide),dD (hy.owns (by decide) h.od) hr (by decide),(h.gP.trans hb).setCell (p:=⟨g,0,none⟩) h.hg _,h.hg⟩
theorem vO.Ed (h:vO w0 u g en sk vc vd cs ds) {v':Value} {ds':List Int} (ho:u'.ownsRow w0.heap.size 5 1 v' ds'.length (Pl.rY ds')) (hy:oZ 5 u u') (hb:Below w0.heap.size u u'):vO w0 (u'.setCell ⟨g,1,none⟩ v') g en sk vc v' cs ds':=by
 have hr:=hy.block g _ h.row (fun c q=>by injection q with _ q2 _;exact absurd q2 (by decide))
 exact⟨heap_setCell_same _ _ _ _ _ _ hr,dD (hy.owns (by decide) h.oc) hr (by decide),dD ho hr (by decide),(h.gP.trans hb).setCell (p:=⟨g,1,none⟩) h.hg _,h.hg⟩
theorem bF.Ma {e:TypeId} {gc:Nat} {c:Pl.kV} (h:bF u gc c) (hb:sJ e g u u') (he:e≠69) (hg:gc≠g):bF u' gc c:=by
 obtain⟨cur,hr⟩:=h.row
 have hr':=hb.block gc _ hg hr (fun c q=>by injection q with _ q2 _;exact he q2.symm)
 exact h.block (hr'.trans hr.symm) (Array.getElem?_eq_some_iff.1 hr').1
end
def dL (ga gm q h3:Nat) (z sk:Int)  (c1 c2 c4 c5 c6 c7 c8 c9 c10 c24 dP eP fO c28 eQ eT c31 c32 eU c34 eX eY c37 fP fQ c40 gQ iP iQ iF iG c46 iY iH c49 iI c51 iJ c53 iZ iK iL iM fH c59 fU fV fZ gU c64 jC jX jY jZ kC c70 kI c72 jJ kJ c75 d3 tZ tT vM xR xS qJ qK qL qM qN qO oO oP:Value)  (L:Array Bool):Act:={ tmps:=#[.pointer (some ⟨ga,0,none⟩),c1,c2,aR d3 L 13 (.pointer (some ⟨h3,0,none⟩)),c4,c5,c6,c7,c8,c9,c10,aR tZ L 0 (.pointer (some ⟨ga,0,none⟩)),aR tT L 1 (.pointer (some ⟨ga,0,none⟩)),aR vM L 2 (.pointer (some ⟨ga,2,none⟩)),aR xR L 3 (.map (some gm)),aR xS L 4 (.pointer (some ⟨q,0,none⟩)),aR qJ L 5 (.pointer (some ⟨q,0,none⟩)),aR qK L 6 (.pointer (some ⟨q,2,none⟩)),aR qL L 7 (.int .i64 z),aR qM L 8 (.pointer (some ⟨ga,0,none⟩)),aR qN L 9 (.pointer (some ⟨ga,0,none⟩)),aR qO L 10 (.pointer (some ⟨ga,1,none⟩)),aR oO L 11 (.int .i64 sk),aR oP L 12 (.agg #[.slice none 0 0,.slice none 0 0,.int .i64 z,.int .i64 sk]),c24,dP,eP,fO,c28,eQ,eT,c31,c32,eU,c34,eX,eY,c37,fP,fQ,c40,gQ,iP,iQ,iF,iG,c46,iY,iH,c49,iI,c51,iJ,c53,iZ,iK,iL,iM,fH,c59,fU,fV,fZ,gU,c64,jC,jX,jY,jZ,kC,c70,kI,c72,jJ,kJ,c75],defers:=[] }
set_option maxRecDepth 100000 in
theorem Yy (ga gm q h3:Nat) (z sk:Int) {c1 c2 c4 c5 c6 c7 c8 c9 c10 c24 dP eP fO c28 eQ eT c31 c32 eU c34 eX eY c37 fP fQ c40 gQ iP iQ iF iG c46 iY iH c49 iI c51 iJ c53 iZ iK iL iM fH c59 fU fV fZ gU c64 jC jX jY jZ kC c70 kI c72 jJ kJ c75 d3 tZ tT vM xR xS qJ qK qL qM qN qO oO oP:Value} (Y:World) (hh:h3=Y.heap.size) (m1:Y.cell? ⟨ga,1,none⟩=some (.int .i64 sk)) (m2:Y.cell? ⟨ga,2,none⟩=some (.map (some gm))) (mq:Y.cell? ⟨q,2,none⟩=some (.int .i64 z)) (Ch:∀ v:World,Below Y.drew.heap.size Y.drew v->(Instr.lookup 67 (.map (some gm)) (.string ⟨#[95,115,116,97,114,116]⟩) false).run Tryz.prog v=.ok (.pointer (some ⟨q,0,none⟩)) v) {Q:Exit->Act->World->Prop}
  (hK:Q .normal { tmps:=#[.pointer (some ⟨ga,0,none⟩),c1,c2,.pointer (some ⟨h3,0,none⟩),c4,c5,c6,c7,c8,c9,c10,.pointer (some ⟨ga,0,none⟩),.pointer (some ⟨ga,0,none⟩),.pointer (some ⟨ga,2,none⟩),.map (some gm),.pointer (some ⟨q,0,none⟩),.pointer (some ⟨q,0,none⟩),.pointer (some ⟨q,2,none⟩),.int .i64 z,.pointer (some ⟨ga,0,none⟩),.pointer (some ⟨ga,0,none⟩),.pointer (some ⟨ga,1,none⟩),.int .i64 sk,.agg #[.slice none 0 0,.slice none 0 0,.int .i64 z,.int .i64 sk],c24,dP,eP,fO,c28,eQ,eT,c31,c32,eU,c34,eX,eY,c37,fP,fQ,c40,gQ,iP,iQ,iF,iG,c46,iY,iH,c49,iI,c51,iJ,c53,iZ,iK,iL,iM,fH,c59,fU,fV,fZ,gU,c64,jC,jX,jY,jZ,kC,c70,kI,c72,jJ,kJ,c75],defers:=[] } (Y.drew.alloc (.cells #[.slice none 0 0,.slice none 0 0,.int .i64 z,.int .i64 sk] 28))) :
  (Jb 1).wp Tryz.prog Q { tmps:=#[.pointer (some ⟨ga,0,none⟩),c1,c2,d3,c4,c5,c6,c7,c8,c9,c10,tZ,tT,vM,xR,xS,qJ,qK,qL,qM,qN,qO,oO,oP,c24,dP,eP,fO,c28,eQ,eT,c31,c32,eU,c34,eX,eY,c37,fP,fQ,c40,gQ,iP,iQ,iF,iG,c46,iY,iH,c49,iI,c51,iJ,c53,iZ,iK,iL,iM,fH,c59,fU,fV,fZ,gU,c64,jC,jX,jY,jZ,kC,c70,kI,c72,jJ,kJ,c75],defers:=[] } Y:=by
 have nI:Hid _:=hK
 clear hK
 have Ir:Hid _:=Ch
 have j1:Y.drew.cell? ⟨ga,1,none⟩=some (.int .i64 sk):=m1
 have j2:Y.drew.cell? ⟨ga,2,none⟩=some (.map (some gm)):=m2
 have jq:Y.drew.cell? ⟨q,2,none⟩=some (.int .i64 z):=mq
 subst hh
 clear Ch m1 m2 mq
 conv=>arg 2;whnf
 dsimp only
 refine wp_region_any (by kernel_rfl) ?_
 change wpAny _ _ _ _ _ _ _ (World.drew _)
 refine bQ (fun L jD u=>∃ w1,jD=dL ga gm q Y.heap.size z sk  c1 c2 c4 c5 c6 c7 c8 c9 c10 c24 dP eP fO c28 eQ eT c31 c32 eU c34 eX eY c37 fP fQ c40 gQ iP iQ iF iG c46 iY iH c49 iI c51 iJ c53 iZ iK iL iM fH c59 fU fV fZ gU c64 jC jX jY jZ kC c70 kI c72 jJ kJ c75 d3 tZ tT vM xR xS qJ qK qL qM qN qO oO oP  L/\iO Y.drew (fun u=>u=Y.drew.alloc (.cells #[.slice none 0 0,.slice none 0 0,.int .i64 0,.int .i64 0] 28)) (fun u=>u=Y.drew.alloc (.cells #[.slice none 0 0,.slice none 0 0,.int .i64 z,.int .i64 sk] 28)) 13 14 w1 L u) ?done (by kernel_rfl) ?step _ 15 _ _ (by kernel_rfl) ?init (by decide)
 case init=>exact⟨Y,by simp only[dL,dG (bR _ _)],iO.init⟩
 case step=>
  intro L act w i o hI hlt hs nl hC hd ho K hK
  obtain⟨w1,rfl,hW⟩:=hI
  have jB:i<15:=(Array.getElem?_eq_some_iff.1 ho).1
  have hD:=fun k m=>hd {on:=k,ground:=.data} m rfl
  rcases (show i=0\/i=1\/i=2\/i=3\/i=4\/i=5\/i=6\/i=7\/i=8\/i=9\/i=10\/i=11\/i=12\/i=13\/i=14 by omega) with rfl|rfl|rfl|rfl|rfl|rfl|rfl|rfl|rfl|rfl|rfl|rfl|rfl|rfl|rfl<;>(change some _=some o at ho;cases ho)
  ·simp only[dL]
   go_simp
   exact hK _ _ ⟨w1,by simp only[dL,aD hlt,reduceIte,Nat.reduceEqDiff];try rfl,(hW.keep hlt (by decide) (by decide))⟩
  ·have q0:up L 0=true:=hD 0 (by simp)
   simp only[dL,aA q0]
   go_simp
   exact hK _ _ ⟨w1,by simp only[dL,aD hlt,aA q0,reduceIte,Nat.reduceEqDiff];try rfl,(hW.keep hlt (by decide) (by decide))⟩
  ·have q1:up L 1=true:=hD 1 (by simp)
   simp only[dL,aA q1]
   go_simp
   exact hK _ _ ⟨w1,by simp only[dL,aD hlt,aA q1,reduceIte,Nat.reduceEqDiff];try rfl,(hW.keep hlt (by decide) (by decide))⟩
  ·have q2:up L 2=true:=hD 2 (by simp)
   have n14:up L 14=false:=hC.no nl 14 rfl (by kernel_rfl)
   have xo:=hW.cell n14 j2 (fun q=>by rw[q];exact aF (aB _ _) j2)
   simp only[dL,aA q2]
   go_simp
   exact hK _ _ ⟨w1,by simp only[dL,aD hlt,aA q2,reduceIte,Nat.reduceEqDiff];try rfl,(hW.keep hlt (by decide) (by decide))⟩
  ·have q3:up L 3=true:=hD 3 (by simp)
   have n14:up L 14=false:=hC.no nl 14 rfl (by kernel_rfl)
   have kb:Below Y.drew.heap.size Y.drew w:=by
    cases q:up L 13
    ·rw[hW.1 q];exact Below.refl _ _
    ·obtain⟨d1,y4,_⟩:=hW.2 q;rw[y4 n14,d1];exact aB _ _
   have klk:=Ir.out w kb
   clear kb
   simp only[dL,aA q3]
   go_simp
   exact hK _ _ ⟨w1,by simp only[dL,aD hlt,aA q3,reduceIte,Nat.reduceEqDiff];try rfl,(hW.keep hlt (by decide) (by decide))⟩
  ·have q4:up L 4=true:=hD 4 (by simp)
   simp only[dL,aA q4]
   go_simp
   exact hK _ _ ⟨w1,by simp only[dL,aD hlt,aA q4,reduceIte,Nat.reduceEqDiff];try rfl,(hW.keep hlt (by decide) (by decide))⟩
  ·have q5:up L 5=true:=hD 5 (by simp)
   simp only[dL,aA q5]
   go_simp
   exact hK _ _ ⟨w1,by simp only[dL,aD hlt,aA q5,reduceIte,Nat.reduceEqDiff];try rfl,(hW.keep hlt (by decide) (by decide))⟩
  ·have q6:up L 6=true:=hD 6 (by simp)
   have n14:up L 14=false:=hC.no nl 14 rfl (by kernel_rfl)
   have xo:=hW.cell n14 jq (fun q=>by rw[q];exact aF (aB _ _) jq)
   simp only[dL,aA q6]
   go_simp
   exact hK _ _ ⟨w1,by simp only[dL,aD hlt,aA q6,reduceIte,Nat.reduceEqDiff];try rfl,(hW.keep hlt (by decide) (by decide))⟩
  ·simp only[dL]
   go_simp
   exact hK _ _ ⟨w1,by simp only[dL,aD hlt,reduceIte,Nat.reduceEqDiff];try rfl,(hW.keep hlt (by decide) (by decide))⟩
  ·have q8:up L 8=true:=hD 8 (by simp)
   simp only[dL,aA q8]
   go_simp
   exact hK _ _ ⟨w1,by simp only[dL,aD hlt,aA q8,reduceIte,Nat.reduceEqDiff];try rfl,(hW.keep hlt (by decide) (by decide))⟩
  ·have q9:up L 9=true:=hD 9 (by simp)
   simp only[dL,aA q9]
   go_simp
   exact hK _ _ ⟨w1,by simp only[dL,aD hlt,aA q9,reduceIte,Nat.reduceEqDiff];try rfl,(hW.keep hlt (by decide) (by decide))⟩
  ·have rZ:up L 10=true:=hD 10 (by simp)
   have n14:up L 14=false:=hC.no nl 14 rfl (by kernel_rfl)
   have xo:=hW.cell n14 j1 (fun q=>by rw[q];exact aF (aB _ _) j1)
   simp only[dL,aA rZ]
   go_simp
   exact hK _ _ ⟨w1,by simp only[dL,aD hlt,aA rZ,reduceIte,Nat.reduceEqDiff];try rfl,(hW.keep hlt (by decide) (by decide))⟩
  ·have q7:up L 7=true:=hD 7 (by simp)
   have sH:up L 11=true:=hD 11 (by simp)
   simp only[dL,aA q7,aA sH]
   go_simp
   exact hK _ _ ⟨w1,by simp only[dL,aD hlt,aA q7,aA sH,reduceIte,Nat.reduceEqDiff];try rfl,(hW.keep hlt (by decide) (by decide))⟩
  ·have n14:up L 14=false:=hC.no nl 14 rfl (by kernel_rfl)
   obtain rfl:=hW.1 nl
   simp only[dL]
   go_simp
   exact hK _ _ ⟨_,by simp only[dL,aD hlt,reduceIte,Nat.reduceEqDiff];try rfl,iO.first hlt (by decide) n14 rfl⟩
  ·have lV:up L 12=true:=hD 12 (by simp)
   have wR:up L 13=true:=hD 13 (by simp)
   obtain⟨d1,y4,_⟩:=hW.2 wR
   obtain rfl:=y4 nl
   subst d1
   simp only[dL,aA lV,aA wR]
   go_simp
   exact hK _ _ ⟨_,by simp only[dL,aD hlt,aA lV,aA wR,reduceIte,Nat.reduceEqDiff];try rfl,hW.second hlt wR rfl⟩
 case done=>
  rintro L a u ⟨w1,rfl,hW⟩ hall
  simp only[dL,aA (hall 0 (by decide)),aA (hall 1 (by decide)),aA (hall 2 (by decide)),aA (hall 3 (by decide)),aA (hall 4 (by decide)),aA (hall 5 (by decide)),aA (hall 6 (by decide)),aA (hall 7 (by decide)),aA (hall 8 (by decide)),aA (hall 9 (by decide)),aA (hall 10 (by decide)),aA (hall 11 (by decide)),aA (hall 12 (by decide)),aA (hall 13 (by decide)),aA (hall 14 (by decide))]
  obtain⟨d1,_,hB⟩:=hW.2 (hall 13 (by decide))
  obtain rfl:=hB (hall 14 (by decide))
  exact nI.out
def lL (ga h4 h6:Nat) (x:Pl.Ln) (t la:Int)  (c1 c2 c3 c5 c7 c8 c9 c10 c11 c12 c13 c14 c15 c16 c17 c18 c19 c20 c21 dW c23 c24 dP eP fO c28 eQ eT c31 c32 eU c34 eX eY c37 iF iG c46 iY iH c49 iI c51 iJ c53 iZ iK iL iM fH c59 fU fV fZ gU c64 jC jX jY jZ kC c70 kI c72 jJ kJ c75 Rk Rl Rm Rn Ad Ae:Value) (a2:Option Addr) (n2 y2:Nat) (L:Array Bool):Act:={ tmps:=#[.pointer (some ⟨ga,0,none⟩),c1,c2,c3,.pointer (some ⟨h4,0,none⟩),c5,.pointer (some ⟨h6,0,none⟩),c7,c8,c9,c10,c11,c12,c13,c14,c15,c16,c17,c18,c19,c20,c21,dW,c23,c24,dP,eP,fO,c28,eQ,eT,c31,c32,eU,c34,eX,eY,c37,aR Rk L 0 (.pointer (some ⟨ga,0,none⟩)),aR Rl L 1 (.agg #[.int .i64 x.k,.int .i64 x.op,.int .i64 x.rd,.int .i64 x.r1,.int .i64 x.r2,.int .i64 x.im,.string x.s,.int .i64 x.n]),aR Rm L 2 (.int .i64 t),aR Rn L 3 (.slice a2 n2 y2),aR Ad L 4 (.int .i64 (n2:Nat)),aR Ae L 5 (.int .i64 0),iF,iG,c46,iY,iH,c49,iI,c51,iJ,c53,iZ,iK,iL,iM,fH,c59,fU,fV,fZ,gU,c64,jC,jX,jY,jZ,kC,c70,kI,c72,jJ,kJ,c75],defers:=[] }
set_option maxRecDepth 100000 in
theorem Yz (ga h4 h6:Nat) (x:Pl.Ln) (t la:Int) {c1 c2 c3 c5 c7 c8 c9 c10 c11 c12 c13 c14 c15 c16 c17 c18 c19 c20 c21 dW c23 c24 dP eP fO c28 eQ eT c31 c32 eU c34 eX eY c37 iF iG c46 iY iH c49 iI c51 iJ c53 iZ iK iL iM fH c59 fU fV fZ gU c64 jC jX jY jZ kC c70 kI c72 jJ kJ c75 Rk Rl Rm Rn Ad Ae:Value} (Y:World) (r6:Y.heap[h6]?=some (.cells #[.int .i64 x.k,.int .i64 x.op,.int .i64 x.rd,.int .i64 x.r1,.int .i64 x.r2,.int .i64 x.im,.string x.s,.int .i64 x.n] 51 (0,0))) (Oj:Calls Tryz.prog 83 #[.pointer (some ⟨h4,0,none⟩)] Y.drew fun e w'=>e=.returned (.int .i64 t)/\w'=Y.drew) (hT:sF x la t ga Y.drew) {Q:Exit->Act->World->Prop}
  (hK:∀ (a2:Option Addr) (n2 y2:Nat) (w1:World),aY Y.heap.size w1 a2 n2 (Pl.bM x t la)->Below Y.heap.size Y w1->Q .normal { tmps:=#[.pointer (some ⟨ga,0,none⟩),c1,c2,c3,.pointer (some ⟨h4,0,none⟩),c5,.pointer (some ⟨h6,0,none⟩),c7,c8,c9,c10,c11,c12,c13,c14,c15,c16,c17,c18,c19,c20,c21,dW,c23,c24,dP,eP,fO,c28,eQ,eT,c31,c32,eU,c34,eX,eY,c37,.pointer (some ⟨ga,0,none⟩),.agg #[.int .i64 x.k,.int .i64 x.op,.int .i64 x.rd,.int .i64 x.r1,.int .i64 x.r2,.int .i64 x.im,.string x.s,.int .i64 x.n],.int .i64 t,.slice a2 n2 y2,.int .i64 (n2:Nat),.int .i64 0,iF,iG,c46,iY,iH,c49,iI,c51,iJ,c53,iZ,iK,iL,iM,fH,c59,fU,fV,fZ,gU,c64,jC,jX,jY,jZ,kC,c70,kI,c72,jJ,kJ,c75],defers:=[] } w1) :
  (Jb 7).wp Tryz.prog Q { tmps:=#[.pointer (some ⟨ga,0,none⟩),c1,c2,c3,.pointer (some ⟨h4,0,none⟩),c5,.pointer (some ⟨h6,0,none⟩),c7,c8,c9,c10,c11,c12,c13,c14,c15,c16,c17,c18,c19,c20,c21,dW,c23,c24,dP,eP,fO,c28,eQ,eT,c31,c32,eU,c34,eX,eY,c37,Rk,Rl,Rm,Rn,Ad,Ae,iF,iG,c46,iY,iH,c49,iI,c51,iJ,c53,iZ,iK,iL,iM,fH,c59,fU,fV,fZ,gU,c64,jC,jX,jY,jZ,kC,c70,kI,c72,jJ,kJ,c75],defers:=[] } Y:=by
 have nI:Hid _:=hK
 clear hK
 have HAD:Hid _:=Oj
 unfold sF at hT
 have HT:Hid _:=hT
 have l0:Y.drew.cell? ⟨h6,0,none⟩=some (.int .i64 x.k):=cell_of_row Y.drew h6 0 _ 51 (0,0) r6
 have l1:Y.drew.cell? ⟨h6,1,none⟩=some (.int .i64 x.op):=cell_of_row Y.drew h6 1 _ 51 (0,0) r6
 have l2:Y.drew.cell? ⟨h6,2,none⟩=some (.int .i64 x.rd):=cell_of_row Y.drew h6 2 _ 51 (0,0) r6
 have l3:Y.drew.cell? ⟨h6,3,none⟩=some (.int .i64 x.r1):=cell_of_row Y.drew h6 3 _ 51 (0,0) r6
 have l4:Y.drew.cell? ⟨h6,4,none⟩=some (.int .i64 x.r2):=cell_of_row Y.drew h6 4 _ 51 (0,0) r6
 have l5:Y.drew.cell? ⟨h6,5,none⟩=some (.int .i64 x.im):=cell_of_row Y.drew h6 5 _ 51 (0,0) r6
 have l6:Y.drew.cell? ⟨h6,6,none⟩=some (.string x.s):=cell_of_row Y.drew h6 6 _ 51 (0,0) r6
 have l7:Y.drew.cell? ⟨h6,7,none⟩=some (.int .i64 x.n):=cell_of_row Y.drew h6 7 _ 51 (0,0) r6
 clear Oj hT r6
 conv=>arg 2;whnf
 dsimp only
 refine wp_region_any (by kernel_rfl) ?_
 change wpAny _ _ _ _ _ _ _ (World.drew _)
 refine bQ (fun L jD u=>∃ a2 n2 y2,jD=lL ga h4 h6 x t la  c1 c2 c3 c5 c7 c8 c9 c10 c11 c12 c13 c14 c15 c16 c17 c18 c19 c20 c21 dW c23 c24 dP eP fO c28 eQ eT c31 c32 eU c34 eX eY c37 iF iG c46 iY iH c49 iI c51 iJ c53 iZ iK iL iM fH c59 fU fV fZ gU c64 jC jX jY jZ kC c70 kI c72 jJ kJ c75 Rk Rl Rm Rn Ad Ae a2 n2 y2 L/\nC Y.drew (fun u=>aY Y.drew.heap.size u a2 n2 (Pl.bM x t la)/\Below Y.drew.heap.size Y.drew u) 3 L u) ?done (by kernel_rfl) ?step _ 6 _ _ (by kernel_rfl) ?init (by decide)
 case init=>exact⟨none,0,0,by simp only[lL,dG (bR _ _)],nC.init⟩
 case step=>
  intro L act w i o hI hlt hs nl hC hd ho K hK
  obtain⟨a2,n2,y2,rfl,hW⟩:=hI
  have jB:i<6:=(Array.getElem?_eq_some_iff.1 ho).1
  have hD:=fun k m=>hd {on:=k,ground:=.data} m rfl
  rcases (show i=0\/i=1\/i=2\/i=3\/i=4\/i=5 by omega) with rfl|rfl|rfl|rfl|rfl|rfl<;>(change some _=some o at ho;cases ho)
  ·simp only[lL]
   go_simp
   exact hK _ _ ⟨a2,n2,y2,by simp only[lL,aD hlt,reduceIte,Nat.reduceEqDiff];try rfl,(hW.keep hlt (by decide))⟩
  ·have n3:up L 3=false:=hC.no nl 3 rfl (by kernel_rfl)
   obtain rfl:=hW.1 n3
   simp only[lL]
   go_simp
   exact hK _ _ ⟨a2,n2,y2,by simp only[lL,aD hlt,reduceIte,Nat.reduceEqDiff];try rfl,(hW.keep hlt (by decide))⟩
  ·have n3:up L 3=false:=hC.no nl 3 rfl (by kernel_rfl)
   obtain rfl:=hW.1 n3
   simp only[lL]
   go_simp
   refine Calls.mono HAD.out ?_
   rintro e w3 ⟨rfl,rfl⟩
   go_simp
   exact hK _ _ ⟨a2,n2,y2,by simp only[lL,aD hlt,reduceIte,Nat.reduceEqDiff];try rfl,(hW.keep hlt (by decide))⟩
  ·have q0:up L 0=true:=hD 0 (by simp)
   have q1:up L 1=true:=hD 1 (by simp)
   have q2:up L 2=true:=hD 2 (by simp)
   have n4:up L 4=false:=hC.no nl 4 rfl (by kernel_rfl)
   obtain rfl:=hW.1 nl
   simp only[lL,aA q0,aA q1,aA q2]
   go_simp
   refine Calls.mono HT.out ?_
   rintro e w2 ⟨a3,n3,y3,rfl,hR,hB⟩
   go_simp
   exact hK _ _ ⟨a3,n3,y3,by simp only[lL,aD hlt,aA q0,aA q1,aA q2,dG n4,reduceIte,Nat.reduceEqDiff];try rfl,nC.first hlt ⟨hR,hB⟩⟩
  ·have q3:up L 3=true:=hD 3 (by simp)
   have hR:=(hW.2 q3).1.2.1
   have hR2:(n2:Int)<=2:=by omega
   simp only[lL,aA q3]
   go_simp
   exact hK _ _ ⟨a2,n2,y2,by simp only[lL,aD hlt,aA q3,reduceIte,Nat.reduceEqDiff];try rfl,(hW.keep hlt (by decide))⟩
  ·simp only[lL]
   go_simp
   exact hK _ _ ⟨a2,n2,y2,by simp only[lL,aD hlt,reduceIte,Nat.reduceEqDiff];try rfl,(hW.keep hlt (by decide))⟩
 case done=>
  rintro L a u ⟨a2,n2,y2,rfl,hW⟩ hall
  simp only[lL,aA (hall 0 (by decide)),aA (hall 1 (by decide)),aA (hall 2 (by decide)),aA (hall 3 (by decide)),aA (hall 4 (by decide)),aA (hall 5 (by decide))]
  obtain⟨hR,hB⟩:=hW.2 (hall 3 (by decide))
  exact nI.out a2 n2 y2 _ hR (Below.trans (Below.drew (Below.refl _ _)) hB)
end Go.Proofs.YtlbomnnldkeocaaGreat.W
