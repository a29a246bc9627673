import Derived.Test.YtlbomnnldkeocaaGreatI39
import Derived.Deep.CutBlock
set_option linter.unusedVariables false
set_option linter.unusedSimpArgs false
set_option maxHeartbeats 16000000
namespace Go.Proofs.YtlbomnnldkeocaaGreat.W
open Go.RowKit
noncomputable def XQ (n:Nat):Code:=((Tryz.f25.body.bind (lG n)).getD .skip)
def gB (F h k ba oa len ac:Nat) (x:Pl.Ln) (at' la:Int)  (c0 c1 c2 c4 c5 c6 c10 c11 c13 c14 c15 c16 c17 c18 c19 c20 c21 dW c23 c24 dP eP fO c28 eQ eT c31 c32 eU c34 eX eY c37 fP fQ c40 gQ iP iQ iF iG c46 iY iH c49 fH c59 fU fV fZ gU c64 jC jX jY jZ kC c70 kI c72 jJ kJ c75 c76 nJ nK nL c80 nM nN nO nP c85 nQ c87 nR nS nT c91 nU c93 nV nW nX nY nZ oC gK gL eZ fA fB c105 fC c107 fD c109 gW gX gY gZ iA iB c116 c117 iC c119 fE fF kW kX c124 kY kZ c127 mF mG c130 c131 mH mI mJ mK mM mO c138 c139 mP c141 mQ c143 jR tT XR XT XU MR MS XV XW XX:Value) (a2:Option Addr) (n2 y2:Nat) (L:Array Bool):Act:={ tmps:=#[c0,c1,c2,.pointer (some ⟨F,0,none⟩),c4,c5,c6,.int .i64 (k:Nat),.pointer (some ⟨h,0,none⟩),.int .i64 la,c10,c11,aR tT L 8 (.slice a2 n2 y2),c13,c14,c15,c16,c17,c18,c19,c20,c21,dW,c23,c24,dP,eP,fO,c28,eQ,eT,c31,c32,eU,c34,eX,eY,c37,fP,fQ,c40,gQ,iP,iQ,iF,iG,c46,iY,iH,c49,aR XR L 0 (.agg #[.int .i64 x.k,.int .i64 x.op,.int .i64 x.rd,.int .i64 x.r1,.int .i64 x.r2,.int .i64 x.im,.string x.s,.int .i64 x.n]),aR XT L 1 (.pointer (some ⟨F,1,none⟩)),aR XU L 2 (.slice (some ⟨ba,oa,none⟩) len ac),aR MR L 3 (.int .i64 (k:Nat)),aR MS L 4 (.pointer (some ⟨ba,oa+k,none⟩)),aR XV L 5 (.int .i64 at'),aR XW L 6 (.int .i64 la),aR XX L 7 (.slice a2 n2 y2),fH,c59,fU,fV,fZ,gU,c64,jC,jX,jY,jZ,kC,c70,kI,c72,jJ,kJ,c75,c76,nJ,nK,nL,c80,nM,nN,nO,nP,c85,nQ,c87,nR,nS,nT,c91,nU,c93,nV,nW,nX,nY,nZ,oC,gK,gL,eZ,fA,fB,c105,fC,c107,fD,c109,gW,gX,gY,gZ,iA,iB,c116,c117,iC,c119,fE,fF,kW,kX,c124,kY,kZ,c127,mF,mG,c130,c131,mH,mI,mJ,mK,mM,mO,c138,c139,mP,c141,mQ,c143,jR],defers:=[] }
set_option maxRecDepth 100000 in
theorem rV (F h k ba oa len ac:Nat) (x:Pl.Ln) (at' la:Int) {c0 c1 c2 c4 c5 c6 c10 c11 c13 c14 c15 c16 c17 c18 c19 c20 c21 dW c23 c24 dP eP fO c28 eQ eT c31 c32 eU c34 eX eY c37 fP fQ c40 gQ iP iQ iF iG c46 iY iH c49 fH c59 fU fV fZ gU c64 jC jX jY jZ kC c70 kI c72 jJ kJ c75 c76 nJ nK nL c80 nM nN nO nP c85 nQ c87 nR nS nT c91 nU c93 nV nW nX nY nZ oC gK gL eZ fA fB c105 fC c107 fD c109 gW gX gY gZ iA iB c116 c117 iC c119 fE fF kW kX c124 kY kZ c127 mF mG c130 c131 mH mI mJ mK mM mO c138 c139 mP c141 mQ c143 jR tT XR XT XU MR MS XV XW XX:Value} (Y:World) (f1:Y.cell? ⟨F,1,none⟩=some (.slice (some ⟨ba,oa,none⟩) len ac)) (hk:k<len) (hlen:len<=20000) (hat:Y.cell? ⟨ba,oa+k,none⟩=some (.int .i64 at')) (b0:Y.cell? ⟨h,0,none⟩=some (.int .i64 x.k)) (b1:Y.cell? ⟨h,1,none⟩=some (.int .i64 x.op)) (b2:Y.cell? ⟨h,2,none⟩=some (.int .i64 x.rd)) (b3:Y.cell? ⟨h,3,none⟩=some (.int .i64 x.r1)) (b4:Y.cell? ⟨h,4,none⟩=some (.int .i64 x.r2)) (b5:Y.cell? ⟨h,5,none⟩=some (.int .i64 x.im)) (b6:Y.cell? ⟨h,6,none⟩=some (.string x.s)) (b7:Y.cell? ⟨h,7,none⟩=some (.int .i64 x.n)) (hT:bV x at' la Y.drew) {Q:Exit->Act->World->Prop}
  (hK:∀ (a2:Option Addr) (n2 y2:Nat) (w1:World),aY Y.heap.size w1 a2 n2 (Pl.bM x at' la)->Below Y.heap.size Y w1->Q .normal { tmps:=#[c0,c1,c2,.pointer (some ⟨F,0,none⟩),c4,c5,c6,.int .i64 (k:Nat),.pointer (some ⟨h,0,none⟩),.int .i64 la,c10,c11,.slice a2 n2 y2,c13,c14,c15,c16,c17,c18,c19,c20,c21,dW,c23,c24,dP,eP,fO,c28,eQ,eT,c31,c32,eU,c34,eX,eY,c37,fP,fQ,c40,gQ,iP,iQ,iF,iG,c46,iY,iH,c49,.agg #[.int .i64 x.k,.int .i64 x.op,.int .i64 x.rd,.int .i64 x.r1,.int .i64 x.r2,.int .i64 x.im,.string x.s,.int .i64 x.n],.pointer (some ⟨F,1,none⟩),.slice (some ⟨ba,oa,none⟩) len ac,.int .i64 (k:Nat),.pointer (some ⟨ba,oa+k,none⟩),.int .i64 at',.int .i64 la,.slice a2 n2 y2,fH,c59,fU,fV,fZ,gU,c64,jC,jX,jY,jZ,kC,c70,kI,c72,jJ,kJ,c75,c76,nJ,nK,nL,c80,nM,nN,nO,nP,c85,nQ,c87,nR,nS,nT,c91,nU,c93,nV,nW,nX,nY,nZ,oC,gK,gL,eZ,fA,fB,c105,fC,c107,fD,c109,gW,gX,gY,gZ,iA,iB,c116,c117,iC,c119,fE,fF,kW,kX,c124,kY,kZ,c127,mF,mG,c130,c131,mH,mI,mJ,mK,mM,mO,c138,c139,mP,c141,mQ,c143,jR],defers:=[] } w1) :
  (XQ 12).wp Tryz.prog Q { tmps:=#[c0,c1,c2,.pointer (some ⟨F,0,none⟩),c4,c5,c6,.int .i64 (k:Nat),.pointer (some ⟨h,0,none⟩),.int .i64 la,c10,c11,tT,c13,c14,c15,c16,c17,c18,c19,c20,c21,dW,c23,c24,dP,eP,fO,c28,eQ,eT,c31,c32,eU,c34,eX,eY,c37,fP,fQ,c40,gQ,iP,iQ,iF,iG,c46,iY,iH,c49,XR,XT,XU,MR,MS,XV,XW,XX,fH,c59,fU,fV,fZ,gU,c64,jC,jX,jY,jZ,kC,c70,kI,c72,jJ,kJ,c75,c76,nJ,nK,nL,c80,nM,nN,nO,nP,c85,nQ,c87,nR,nS,nT,c91,nU,c93,nV,nW,nX,nY,nZ,oC,gK,gL,eZ,fA,fB,c105,fC,c107,fD,c109,gW,gX,gY,gZ,iA,iB,c116,c117,iC,c119,fE,fF,kW,kX,c124,kY,kZ,c127,mF,mG,c130,c131,mH,mI,mJ,mK,mM,mO,c138,c139,mP,c141,mQ,c143,jR],defers:=[] } Y:=by
 have nI:Hid _:=hK
 clear hK
 have HT:Hid (bV x at' la Y.drew):=hT
 unfold bV at HT
 have j1:Y.drew.cell? ⟨F,1,none⟩=some (.slice (some ⟨ba,oa,none⟩) len ac):=f1
 have j2:Y.drew.cell? ⟨ba,oa+k,none⟩=some (.int .i64 at'):=hat
 have hki:(k:Int)<(len:Int):=by omega
 have k0:Y.drew.cell? ⟨h,0,none⟩=some (.int .i64 x.k):=b0
 have k1:Y.drew.cell? ⟨h,1,none⟩=some (.int .i64 x.op):=b1
 have k2:Y.drew.cell? ⟨h,2,none⟩=some (.int .i64 x.rd):=b2
 have k3:Y.drew.cell? ⟨h,3,none⟩=some (.int .i64 x.r1):=b3
 have k4:Y.drew.cell? ⟨h,4,none⟩=some (.int .i64 x.r2):=b4
 have k5:Y.drew.cell? ⟨h,5,none⟩=some (.int .i64 x.im):=b5
 have k6:Y.drew.cell? ⟨h,6,none⟩=some (.string x.s):=b6
 have k7:Y.drew.cell? ⟨h,7,none⟩=some (.int .i64 x.n):=b7
 clear b0 b1 b2 b3 b4 b5 b6 b7
 clear hT f1 hat hk
 conv=>arg 2;whnf
 dsimp only
 refine wp_region_any (by kernel_rfl) ?_
 change wpAny _ _ _ _ _ _ _ (World.drew _)
 refine bQ (fun L a u=>∃ a2 n2 y2,a=gB F h k ba oa len ac x at' la  c0 c1 c2 c4 c5 c6 c10 c11 c13 c14 c15 c16 c17 c18 c19 c20 c21 dW c23 c24 dP eP fO c28 eQ eT c31 c32 eU c34 eX eY c37 fP fQ c40 gQ iP iQ iF iG c46 iY iH c49 fH c59 fU fV fZ gU c64 jC jX jY jZ kC c70 kI c72 jJ kJ c75 c76 nJ nK nL c80 nM nN nO nP c85 nQ c87 nR nS nT c91 nU c93 nV nW nX nY nZ oC gK gL eZ fA fB c105 fC c107 fD c109 gW gX gY gZ iA iB c116 c117 iC c119 fE fF kW kX c124 kY kZ c127 mF mG c130 c131 mH mI mJ mK mM mO c138 c139 mP c141 mQ c143 jR tT XR XT XU MR MS XV XW XX a2 n2 y2 L/\nC Y.drew (fun u=>aY Y.drew.heap.size u a2 n2 (Pl.bM x at' la)/\Below Y.drew.heap.size Y.drew u) 7 L u) ?done (by kernel_rfl) ?step _ 9 _ _ (by kernel_rfl) ?init (by decide)
 case init=>exact⟨none,0,0,by simp only[gB,dG (bR _ _)],nC.init⟩
 case step=>
  intro L act w i o hI hlt hs nl hC hd ho K hK
  obtain⟨a2,n2,y2,rfl,hW⟩:=hI
  have jB:i<9:=(Array.getElem?_eq_some_iff.1 ho).1
  have hD:=fun k m=>hd {on:=k,ground:=.data} m rfl
  rcases (show i=0\/i=1\/i=2\/i=3\/i=4\/i=5\/i=6\/i=7\/i=8 by omega) with rfl|rfl|rfl|rfl|rfl|rfl|rfl|rfl|rfl<;>(change some _=some o at ho;cases ho)
  ·have n7:up L 7=false:=hC.no nl 7 rfl (by kernel_rfl)
   obtain rfl:=hW.1 n7
   simp only[gB]
   go_simp
   exact hK _ _ ⟨a2,n2,y2,by simp only[gB,aD hlt,reduceIte,Nat.reduceEqDiff];try rfl,(hW.keep hlt (by decide))⟩
  ·simp only[gB]
   go_simp
   exact hK _ _ ⟨a2,n2,y2,by simp only[gB,aD hlt,reduceIte,Nat.reduceEqDiff];try rfl,(hW.keep hlt (by decide))⟩
  ·have q1:up L 1=true:=hD 1 (by simp)
   have n4:up L 4=false:=hC.no nl 4 rfl (by kernel_rfl)
   have n5:up L 5=false:=hC.no n4 5 rfl (by kernel_rfl)
   have n7:up L 7=false:=hC.no n5 7 rfl (by kernel_rfl)
   obtain rfl:=hW.1 n7
   simp only[gB,aA q1]
   go_simp
   exact hK _ _ ⟨a2,n2,y2,by simp only[gB,aD hlt,aA q1,reduceIte,Nat.reduceEqDiff];try rfl,(hW.keep hlt (by decide))⟩
  ·simp only[gB]
   go_simp
   exact hK _ _ ⟨a2,n2,y2,by simp only[gB,aD hlt,reduceIte,Nat.reduceEqDiff];try rfl,(hW.keep hlt (by decide))⟩
  ·have q2:up L 2=true:=hD 2 (by simp)
   have q3:up L 3=true:=hD 3 (by simp)
   simp only[gB,aA q2,aA q3]
   go_simp
   exact hK _ _ ⟨a2,n2,y2,by simp only[gB,aD hlt,aA q2,aA q3,reduceIte,Nat.reduceEqDiff];try rfl,(hW.keep hlt (by decide))⟩
  ·have q4:up L 4=true:=hD 4 (by simp)
   have n7:up L 7=false:=hC.no nl 7 rfl (by kernel_rfl)
   obtain rfl:=hW.1 n7
   simp only[gB,aA q4]
   go_simp
   exact hK _ _ ⟨a2,n2,y2,by simp only[gB,aD hlt,aA q4,reduceIte,Nat.reduceEqDiff];try rfl,(hW.keep hlt (by decide))⟩
  ·simp only[gB]
   go_simp
   exact hK _ _ ⟨a2,n2,y2,by simp only[gB,aD hlt,reduceIte,Nat.reduceEqDiff];try rfl,(hW.keep hlt (by decide))⟩
  ·have q0:up L 0=true:=hD 0 (by simp)
   have q5:up L 5=true:=hD 5 (by simp)
   have q6:up L 6=true:=hD 6 (by simp)
   have n8:up L 8=false:=hC.no nl 8 rfl (by kernel_rfl)
   obtain rfl:=hW.1 nl
   simp only[gB,aA q0,aA q5,aA q6]
   go_simp
   refine HT.out.mono ?_
   rintro e w2 ⟨a3,n3,y3,rfl,hR,hB⟩
   go_simp
   exact hK _ _ ⟨a3,n3,y3,by simp only[gB,aD hlt,aA q0,aA q5,aA q6,dG n8,reduceIte,Nat.reduceEqDiff];try rfl,nC.first hlt ⟨hR,hB⟩⟩
  ·have q7:up L 7=true:=hD 7 (by simp)
   simp only[gB,aA q7]
   go_simp
   exact hK _ _ ⟨a2,n2,y2,by simp only[gB,aD hlt,aA q7,reduceIte,Nat.reduceEqDiff];try rfl,(hW.keep hlt (by decide))⟩
 case done=>
  rintro L a u ⟨a2,n2,y2,rfl,hW⟩ hall
  simp only[gB,aA (hall 0 (by decide)),aA (hall 1 (by decide)),aA (hall 2 (by decide)),aA (hall 3 (by decide)),aA (hall 4 (by decide)),aA (hall 5 (by decide)),aA (hall 6 (by decide)),aA (hall 7 (by decide)),aA (hall 8 (by decide))]
  obtain⟨hR,hB⟩:=hW.2 (hall 7 (by decide))
  exact nI.out a2 n2 y2 _ hR (Below.trans (Below.drew (Below.refl _ _)) hB)
def eD (g h m2:Nat) (x:Pl.Ln) (la z:Int) (vd:Value) (A:Option Addr->Nat->World->Prop)  (c0 c1 c2 c3 c4 c5 c7 c10 c11 c12 c13 c14 c15 c16 c17 c18 c19 c20 c21 dW c23 c24 dP eP fO c28 eQ eT c31 c32 eU c34 eX eY c37 fP fQ c40 gQ iP iQ iF iG c46 iY iH c49 iI c51 iJ c53 iZ iK iL iM fH c59 fU fV fZ gU c64 jC jX jY jZ kC c70 kI c72 jJ kJ c75 c76 nJ nK nL c80 nM nN nO nP c85 nQ c87 nR nS nT c91 nU c93 nV nW nX nY nZ oC gK gL eZ fA fB c105 fC c107 fD c109 c119 fE fF kW kX c124 kY kZ c127 mF mG c130 c131 mH mI mJ mK mM mO c138 c139 mP c141 mQ c143 jR XY XZ YA YB YC YD YE YF YG:Value) (a2:Option Addr) (y2:Nat) (L:Array Bool):Act:={ tmps:=#[c0,c1,c2,c3,c4,c5,.pointer (some ⟨g,0,none⟩),c7,.pointer (some ⟨h,0,none⟩),.int .i64 la,c10,c11,c12,c13,c14,c15,c16,c17,c18,c19,c20,c21,dW,c23,c24,dP,eP,fO,c28,eQ,eT,c31,c32,eU,c34,eX,eY,c37,fP,fQ,c40,gQ,iP,iQ,iF,iG,c46,iY,iH,c49,iI,c51,iJ,c53,iZ,iK,iL,iM,fH,c59,fU,fV,fZ,gU,c64,jC,jX,jY,jZ,kC,c70,kI,c72,jJ,kJ,c75,c76,nJ,nK,nL,c80,nM,nN,nO,nP,c85,nQ,c87,nR,nS,nT,c91,nU,c93,nV,nW,nX,nY,nZ,oC,gK,gL,eZ,fA,fB,c105,fC,c107,fD,c109,aR XY L 0 (.pointer (some ⟨g,1,none⟩)),aR XZ L 1 (vd),aR YA L 2 (.int .i64 la),aR YB L 3 (.pointer (some ⟨h,7,none⟩)),aR YC L 4 (.int .i64 x.n),aR YD L 5 (.int .i64 (la+x.n)),aR YE L 6 (.int .i64 z),aR YF L 7 (.slice a2 m2 y2),aR YG L 8 (.pointer (some ⟨g,1,none⟩)),c119,fE,fF,kW,kX,c124,kY,kZ,c127,mF,mG,c130,c131,mH,mI,mJ,mK,mM,mO,c138,c139,mP,c141,mQ,c143,jR],defers:=[] }
set_option maxRecDepth 100000 in
theorem Lx (g h m2:Nat) (x:Pl.Ln) (la z:Int) (vd:Value) (A:Option Addr->Nat->World->Prop) {c0 c1 c2 c3 c4 c5 c7 c10 c11 c12 c13 c14 c15 c16 c17 c18 c19 c20 c21 dW c23 c24 dP eP fO c28 eQ eT c31 c32 eU c34 eX eY c37 fP fQ c40 gQ iP iQ iF iG c46 iY iH c49 iI c51 iJ c53 iZ iK iL iM fH c59 fU fV fZ gU c64 jC jX jY jZ kC c70 kI c72 jJ kJ c75 c76 nJ nK nL c80 nM nN nO nP c85 nQ c87 nR nS nT c91 nU c93 nV nW nX nY nZ oC gK gL eZ fA fB c105 fC c107 fD c109 c119 fE fF kW kX c124 kY kZ c127 mF mG c130 c131 mH mI mJ mK mM mO c138 c139 mP c141 mQ c143 jR XY XZ YA YB YC YD YE YF YG:Value} (Y:World) (ho:Y.cell? ⟨g,1,none⟩=some vd) (hn:Y.cell? ⟨h,7,none⟩=some (.int .i64 x.n)) (hA:∀ a2 y2 u,A a2 y2 u->u.cell? ⟨g,1,none⟩=some vd/\u.frozen? ⟨g,1,none⟩=false) (hw:∀ u:World,Calls Tryz.prog 70 #[.int .i64 (la+x.n)] u fun e w'=>e=.returned (.int .i64 z)/\w'=u) (hT:Calls Tryz.prog 69 #[vd,.int .i64 z,.int .i64 4] Y.drew fun e w'=>∃ a2 y2,e=.returned (.slice a2 m2 y2)/\A a2 y2 w') (hb:0<=la/\la<=1311768576/\-4294967296<=x.n/\x.n<=4294967296) {Q:Exit->Act->World->Prop}
  (hK:∀ (a2:Option Addr) (y2:Nat) (w1:World),A a2 y2 w1->Q .normal { tmps:=#[c0,c1,c2,c3,c4,c5,.pointer (some ⟨g,0,none⟩),c7,.pointer (some ⟨h,0,none⟩),.int .i64 la,c10,c11,c12,c13,c14,c15,c16,c17,c18,c19,c20,c21,dW,c23,c24,dP,eP,fO,c28,eQ,eT,c31,c32,eU,c34,eX,eY,c37,fP,fQ,c40,gQ,iP,iQ,iF,iG,c46,iY,iH,c49,iI,c51,iJ,c53,iZ,iK,iL,iM,fH,c59,fU,fV,fZ,gU,c64,jC,jX,jY,jZ,kC,c70,kI,c72,jJ,kJ,c75,c76,nJ,nK,nL,c80,nM,nN,nO,nP,c85,nQ,c87,nR,nS,nT,c91,nU,c93,nV,nW,nX,nY,nZ,oC,gK,gL,eZ,fA,fB,c105,fC,c107,fD,c109,.pointer (some ⟨g,1,none⟩),vd,.int .i64 la,.pointer (some ⟨h,7,none⟩),.int .i64 x.n,.int .i64 (la+x.n),.int .i64 z,.slice a2 m2 y2,.pointer (some ⟨g,1,none⟩),c119,fE,fF,kW,kX,c124,kY,kZ,c127,mF,mG,c130,c131,mH,mI,mJ,mK,mM,mO,c138,c139,mP,c141,mQ,c143,jR],defers:=[] } (w1.setCell ⟨g,1,none⟩ (.slice a2 m2 y2))) :
  (XQ 22).wp Tryz.prog Q { tmps:=#[c0,c1,c2,c3,c4,c5,.pointer (some ⟨g,0,none⟩),c7,.pointer (some ⟨h,0,none⟩),.int .i64 la,c10,c11,c12,c13,c14,c15,c16,c17,c18,c19,c20,c21,dW,c23,c24,dP,eP,fO,c28,eQ,eT,c31,c32,eU,c34,eX,eY,c37,fP,fQ,c40,gQ,iP,iQ,iF,iG,c46,iY,iH,c49,iI,c51,iJ,c53,iZ,iK,iL,iM,fH,c59,fU,fV,fZ,gU,c64,jC,jX,jY,jZ,kC,c70,kI,c72,jJ,kJ,c75,c76,nJ,nK,nL,c80,nM,nN,nO,nP,c85,nQ,c87,nR,nS,nT,c91,nU,c93,nV,nW,nX,nY,nZ,oC,gK,gL,eZ,fA,fB,c105,fC,c107,fD,c109,XY,XZ,YA,YB,YC,YD,YE,YF,YG,c119,fE,fF,kW,kX,c124,kY,kZ,c127,mF,mG,c130,c131,mH,mI,mJ,mK,mM,mO,c138,c139,mP,c141,mQ,c143,jR],defers:=[] } Y:=by
 have nI:Hid _:=hK
 clear hK
 have HT:Hid _:=hT
 have HWd:Hid _:=hw
 have HA:Hid _:=hA
 have j1:Y.drew.cell? ⟨g,1,none⟩=some vd:=ho
 have j2:Y.drew.cell? ⟨h,7,none⟩=some (.int .i64 x.n):=hn
 have hw1:IntKind.i64.wrap (la+x.n)=la+x.n:=by rw[IntKind.wrap_i64];omega
 have hw2:wrap64 (la+x.n)=la+x.n:=by unfold wrap64;omega
 clear hT hw hA ho hn
 conv=>arg 2;whnf
 dsimp only
 refine wp_region_any (by kernel_rfl) ?_
 change wpAny _ _ _ _ _ _ _ (World.drew _)
 refine bQ (fun L a u=>∃ a2 y2 w1,a=eD g h m2 x la z vd A  c0 c1 c2 c3 c4 c5 c7 c10 c11 c12 c13 c14 c15 c16 c17 c18 c19 c20 c21 dW c23 c24 dP eP fO c28 eQ eT c31 c32 eU c34 eX eY c37 fP fQ c40 gQ iP iQ iF iG c46 iY iH c49 iI c51 iJ c53 iZ iK iL iM fH c59 fU fV fZ gU c64 jC jX jY jZ kC c70 kI c72 jJ kJ c75 c76 nJ nK nL c80 nM nN nO nP c85 nQ c87 nR nS nT c91 nU c93 nV nW nX nY nZ oC gK gL eZ fA fB c105 fC c107 fD c109 c119 fE fF kW kX c124 kY kZ c127 mF mG c130 c131 mH mI mJ mK mM mO c138 c139 mP c141 mQ c143 jR XY XZ YA YB YC YD YE YF YG a2 y2 L/\iO Y.drew (A a2 y2) (fun u=>u=w1.setCell ⟨g,1,none⟩ (.slice a2 m2 y2)) 7 9 w1 L u) ?done (by kernel_rfl) ?step _ 10 _ _ (by kernel_rfl) ?init (by decide)
 case init=>exact⟨none,0,Y,by simp only[eD,dG (bR _ _)],iO.init⟩
 case step=>
  intro L act w i o hI hlt hs nl hC hd ho K hK
  obtain⟨a2,y2,w1,rfl,hW⟩:=hI
  have jB:i<10:=(Array.getElem?_eq_some_iff.1 ho).1
  have hD:=fun k m=>hd {on:=k,ground:=.data} m rfl
  rcases (show i=0\/i=1\/i=2\/i=3\/i=4\/i=5\/i=6\/i=7\/i=8\/i=9 by omega) with rfl|rfl|rfl|rfl|rfl|rfl|rfl|rfl|rfl|rfl<;>(change some _=some o at ho;cases ho)
  ·simp only[eD]
   go_simp
   exact hK _ _ ⟨a2,y2,w1,by simp only[eD,aD hlt,reduceIte,Nat.reduceEqDiff];try rfl,(hW.keep hlt (by decide) (by decide))⟩
  ·have q0:up L 0=true:=hD 0 (by simp)
   have n7:up L 7=false:=hC.no nl 7 rfl (by kernel_rfl)
   obtain rfl:=hW.1 n7
   simp only[eD,aA q0]
   go_simp
   exact hK _ _ ⟨a2,y2,w1,by simp only[eD,aD hlt,aA q0,reduceIte,Nat.reduceEqDiff];try rfl,(hW.keep hlt (by decide) (by decide))⟩
  ·simp only[eD]
   go_simp
   exact hK _ _ ⟨a2,y2,w1,by simp only[eD,aD hlt,reduceIte,Nat.reduceEqDiff];try rfl,(hW.keep hlt (by decide) (by decide))⟩
  ·simp only[eD]
   go_simp
   exact hK _ _ ⟨a2,y2,w1,by simp only[eD,aD hlt,reduceIte,Nat.reduceEqDiff];try rfl,(hW.keep hlt (by decide) (by decide))⟩
  ·have q3:up L 3=true:=hD 3 (by simp)
   have n5:up L 5=false:=hC.no nl 5 rfl (by kernel_rfl)
   have n6:up L 6=false:=hC.no n5 6 rfl (by kernel_rfl)
   have n7:up L 7=false:=hC.no n6 7 rfl (by kernel_rfl)
   obtain rfl:=hW.1 n7
   simp only[eD,aA q3]
   go_simp
   exact hK _ _ ⟨a2,y2,w1,by simp only[eD,aD hlt,aA q3,reduceIte,Nat.reduceEqDiff];try rfl,(hW.keep hlt (by decide) (by decide))⟩
  ·have q2:up L 2=true:=hD 2 (by simp)
   have q4:up L 4=true:=hD 4 (by simp)
   simp only[eD,aA q2,aA q4]
   go_simp
   exact hK _ _ ⟨a2,y2,w1,by simp only[eD,aD hlt,aA q2,aA q4,reduceIte,Nat.reduceEqDiff];try rfl,(hW.keep hlt (by decide) (by decide))⟩
  ·have q5:up L 5=true:=hD 5 (by simp)
   have n7:up L 7=false:=hC.no nl 7 rfl (by kernel_rfl)
   obtain rfl:=hW.1 n7
   simp only[eD,aA q5]
   go_simp
   refine (HWd.out _).mono ?_
   rintro e w3 ⟨rfl,rfl⟩
   go_simp
   exact hK _ _ ⟨a2,y2,w1,by simp only[eD,aD hlt,aA q5,reduceIte,Nat.reduceEqDiff];try rfl,(hW.keep hlt (by decide) (by decide))⟩
  ·have q1:up L 1=true:=hD 1 (by simp)
   have q6:up L 6=true:=hD 6 (by simp)
   have n9:up L 9=false:=hC.no nl 9 rfl (by kernel_rfl)
   obtain rfl:=hW.1 nl
   simp only[eD,aA q1,aA q6]
   go_simp
   refine Calls.mono HT.out ?_
   rintro e w3 ⟨a3,y3,rfl,hR⟩
   go_simp
   exact hK _ _ ⟨a3,y3,w3,by simp only[eD,aD hlt,aA q1,aA q6,reduceIte,Nat.reduceEqDiff];try rfl,iO.first hlt (by decide) n9 hR⟩
  ·simp only[eD]
   go_simp
   exact hK _ _ ⟨a2,y2,w1,by simp only[eD,aD hlt,reduceIte,Nat.reduceEqDiff];try rfl,(hW.keep hlt (by decide) (by decide))⟩
  ·have q7:up L 7=true:=hD 7 (by simp)
   have q8:up L 8=true:=hD 8 (by simp)
   obtain⟨d1,y4,_⟩:=hW.2 q7
   obtain rfl:=y4 nl
   obtain⟨e1,e2⟩:=HA.out _ _ _ d1
   simp only[eD,aA q7,aA q8]
   go_simp
   exact hK _ _ ⟨a2,y2,w,by simp only[eD,aD hlt,aA q7,aA q8,reduceIte,Nat.reduceEqDiff];try rfl,hW.second hlt q7 rfl⟩
 case done=>
  rintro L a u ⟨a2,y2,w1,rfl,hW⟩ hall
  simp only[eD,aA (hall 0 (by decide)),aA (hall 1 (by decide)),aA (hall 2 (by decide)),aA (hall 3 (by decide)),aA (hall 4 (by decide)),aA (hall 5 (by decide)),aA (hall 6 (by decide)),aA (hall 7 (by decide)),aA (hall 8 (by decide)),aA (hall 9 (by decide))]
  obtain⟨d1,_,hB⟩:=hW.2 (hall 7 (by decide))
  obtain rfl:=hB (hall 9 (by decide))
  exact nI.out a2 y2 w1 d1
def eF (g h m2 n0:Nat) (x:Pl.Ln) (z:Int) (a0:Option Addr) (y0:Nat) (A:World->Option Addr->Nat->World->Prop)  (c0 c1 c2 c3 c4 c5 c7 c9 c10 c11 c12 c13 c14 c15 c16 c17 c18 c19 c20 c21 dW c23 c24 dP eP fO c28 eQ eT c31 c32 eU c34 eX eY c37 fP fQ c40 gQ iP iQ iF iG c46 iY iH c49 iI c51 iJ c53 iZ iK iL iM fH c59 fU fV fZ gU c64 jC jX jY jZ kC c70 kI c72 jJ kJ c75 c76 nJ nK nL c80 nM nN nO nP c85 nQ c87 nR nS nT c91 nU c93 nV nW nX nY nZ oC gK gL eZ fA fB c105 fC c107 fD c109 gW gX gY gZ iA iB c116 c117 iC c119 fE fF kW kX c124 kY kZ mM mO c138 c139 mP c141 mQ c143 jR YH YI YJ YK YL YM YN YO YP:Value) (a2:Option Addr) (y2:Nat) (L:Array Bool):Act:={ tmps:=#[c0,c1,c2,c3,c4,c5,.pointer (some ⟨g,0,none⟩),c7,.pointer (some ⟨h,0,none⟩),c9,c10,c11,c12,c13,c14,c15,c16,c17,c18,c19,c20,c21,dW,c23,c24,dP,eP,fO,c28,eQ,eT,c31,c32,eU,c34,eX,eY,c37,fP,fQ,c40,gQ,iP,iQ,iF,iG,c46,iY,iH,c49,iI,c51,iJ,c53,iZ,iK,iL,iM,fH,c59,fU,fV,fZ,gU,c64,jC,jX,jY,jZ,kC,c70,kI,c72,jJ,kJ,c75,c76,nJ,nK,nL,c80,nM,nN,nO,nP,c85,nQ,c87,nR,nS,nT,c91,nU,c93,nV,nW,nX,nY,nZ,oC,gK,gL,eZ,fA,fB,c105,fC,c107,fD,c109,gW,gX,gY,gZ,iA,iB,c116,c117,iC,c119,fE,fF,kW,kX,c124,kY,kZ,aR YH L 0 (.pointer (some ⟨g,1,none⟩)),aR YI L 1 (.slice a0 n0 y0),aR YJ L 2 (.agg #[.int .i64 x.k,.int .i64 x.op,.int .i64 x.rd,.int .i64 x.r1,.int .i64 x.r2,.int .i64 x.im,.string x.s,.int .i64 x.n]),aR YK L 3 (.pointer (some ⟨g,1,none⟩)),aR YL L 4 (.slice a0 n0 y0),aR YM L 5 (.int .i64 (n0:Nat)),aR YN L 6 (.int .i64 z),aR YO L 7 (.slice a2 m2 y2),aR YP L 8 (.pointer (some ⟨g,1,none⟩)),mM,mO,c138,c139,mP,c141,mQ,c143,jR],defers:=[] }
set_option maxRecDepth 100000 in
theorem Bn (g h m2 n0:Nat) (x:Pl.Ln) (z:Int) (a0:Option Addr) (y0:Nat) (A:World->Option Addr->Nat->World->Prop) {c0 c1 c2 c3 c4 c5 c7 c9 c10 c11 c12 c13 c14 c15 c16 c17 c18 c19 c20 c21 dW c23 c24 dP eP fO c28 eQ eT c31 c32 eU c34 eX eY c37 fP fQ c40 gQ iP iQ iF iG c46 iY iH c49 iI c51 iJ c53 iZ iK iL iM fH c59 fU fV fZ gU c64 jC jX jY jZ kC c70 kI c72 jJ kJ c75 c76 nJ nK nL c80 nM nN nO nP c85 nQ c87 nR nS nT c91 nU c93 nV nW nX nY nZ oC gK gL eZ fA fB c105 fC c107 fD c109 gW gX gY gZ iA iB c116 c117 iC c119 fE fF kW kX c124 kY kZ mM mO c138 c139 mP c141 mQ c143 jR YH YI YJ YK YL YM YN YO YP:Value} (Y:World) (ho:Y.cell? ⟨g,1,none⟩=some (.slice a0 n0 y0)) (b0:Y.cell? ⟨h,0,none⟩=some (.int .i64 x.k)) (b1:Y.cell? ⟨h,1,none⟩=some (.int .i64 x.op)) (b2:Y.cell? ⟨h,2,none⟩=some (.int .i64 x.rd)) (b3:Y.cell? ⟨h,3,none⟩=some (.int .i64 x.r1)) (b4:Y.cell? ⟨h,4,none⟩=some (.int .i64 x.r2)) (b5:Y.cell? ⟨h,5,none⟩=some (.int .i64 x.im)) (b6:Y.cell? ⟨h,6,none⟩=some (.string x.s)) (b7:Y.cell? ⟨h,7,none⟩=some (.int .i64 x.n)) (hA:∀ a2 y2 u1 u,Below Y.heap.size Y u1->A u1 a2 y2 u->u.cell? ⟨g,1,none⟩=some (.slice a0 n0 y0)/\u.frozen? ⟨g,1,none⟩=false) (hc:∀ u:World,Calls Tryz.prog 66 #[.agg #[.int .i64 x.k,.int .i64 x.op,.int .i64 x.rd,.int .i64 x.r1,.int .i64 x.r2,.int .i64 x.im,.string x.s,.int .i64 x.n],.int .i64 (n0:Nat)] u fun e w'=>e=.returned (.int .i64 z)/\Below u.heap.size u w') (hT:∀ u1,Below Y.heap.size Y u1->∃ a2 y2 u2,(Builtin.append_ #[22,3] 22 #[.slice a0 n0 y0,.int .i64 z]).run Tryz.prog u1=.ok (.slice a2 m2 y2) u2/\A u1 a2 y2 u2) {Q:Exit->Act->World->Prop}
  (hK:∀ (a2:Option Addr) (y2:Nat) (w1 w2:World),Below Y.heap.size Y w1->A w1 a2 y2 w2->Q .normal { tmps:=#[c0,c1,c2,c3,c4,c5,.pointer (some ⟨g,0,none⟩),c7,.pointer (some ⟨h,0,none⟩),c9,c10,c11,c12,c13,c14,c15,c16,c17,c18,c19,c20,c21,dW,c23,c24,dP,eP,fO,c28,eQ,eT,c31,c32,eU,c34,eX,eY,c37,fP,fQ,c40,gQ,iP,iQ,iF,iG,c46,iY,iH,c49,iI,c51,iJ,c53,iZ,iK,iL,iM,fH,c59,fU,fV,fZ,gU,c64,jC,jX,jY,jZ,kC,c70,kI,c72,jJ,kJ,c75,c76,nJ,nK,nL,c80,nM,nN,nO,nP,c85,nQ,c87,nR,nS,nT,c91,nU,c93,nV,nW,nX,nY,nZ,oC,gK,gL,eZ,fA,fB,c105,fC,c107,fD,c109,gW,gX,gY,gZ,iA,iB,c116,c117,iC,c119,fE,fF,kW,kX,c124,kY,kZ,.pointer (some ⟨g,1,none⟩),.slice a0 n0 y0,.agg #[.int .i64 x.k,.int .i64 x.op,.int .i64 x.rd,.int .i64 x.r1,.int .i64 x.r2,.int .i64 x.im,.string x.s,.int .i64 x.n],.pointer (some ⟨g,1,none⟩),.slice a0 n0 y0,.int .i64 (n0:Nat),.int .i64 z,.slice a2 m2 y2,.pointer (some ⟨g,1,none⟩),mM,mO,c138,c139,mP,c141,mQ,c143,jR],defers:=[] } (w2.setCell ⟨g,1,none⟩ (.slice a2 m2 y2))) :
  (XQ 24).wp Tryz.prog Q { tmps:=#[c0,c1,c2,c3,c4,c5,.pointer (some ⟨g,0,none⟩),c7,.pointer (some ⟨h,0,none⟩),c9,c10,c11,c12,c13,c14,c15,c16,c17,c18,c19,c20,c21,dW,c23,c24,dP,eP,fO,c28,eQ,eT,c31,c32,eU,c34,eX,eY,c37,fP,fQ,c40,gQ,iP,iQ,iF,iG,c46,iY,iH,c49,iI,c51,iJ,c53,iZ,iK,iL,iM,fH,c59,fU,fV,fZ,gU,c64,jC,jX,jY,jZ,kC,c70,kI,c72,jJ,kJ,c75,c76,nJ,nK,nL,c80,nM,nN,nO,nP,c85,nQ,c87,nR,nS,nT,c91,nU,c93,nV,nW,nX,nY,nZ,oC,gK,gL,eZ,fA,fB,c105,fC,c107,fD,c109,gW,gX,gY,gZ,iA,iB,c116,c117,iC,c119,fE,fF,kW,kX,c124,kY,kZ,YH,YI,YJ,YK,YL,YM,YN,YO,YP,mM,mO,c138,c139,mP,c141,mQ,c143,jR],defers:=[] } Y:=by
 have nI:Hid _:=hK
 clear hK
 have HT:Hid _:=hT
 have Uo:Hid _:=hc
 have HA:Hid _:=hA
 have j1:Y.drew.cell? ⟨g,1,none⟩=some (.slice a0 n0 y0):=ho
 have k0:Y.drew.cell? ⟨h,0,none⟩=some (.int .i64 x.k):=b0
 have k1:Y.drew.cell? ⟨h,1,none⟩=some (.int .i64 x.op):=b1
 have k2:Y.drew.cell? ⟨h,2,none⟩=some (.int .i64 x.rd):=b2
 have k3:Y.drew.cell? ⟨h,3,none⟩=some (.int .i64 x.r1):=b3
 have k4:Y.drew.cell? ⟨h,4,none⟩=some (.int .i64 x.r2):=b4
 have k5:Y.drew.cell? ⟨h,5,none⟩=some (.int .i64 x.im):=b5
 have k6:Y.drew.cell? ⟨h,6,none⟩=some (.string x.s):=b6
 have k7:Y.drew.cell? ⟨h,7,none⟩=some (.int .i64 x.n):=b7
 clear b0 b1 b2 b3 b4 b5 b6 b7
 clear hT hc hA ho
 conv=>arg 2;whnf
 dsimp only
 refine wp_region_any (by kernel_rfl) ?_
 change wpAny _ _ _ _ _ _ _ (World.drew _)
 refine bQ (fun L a u=>∃ a2 y2 w1 w2,a=eF g h m2 n0 x z a0 y0 A  c0 c1 c2 c3 c4 c5 c7 c9 c10 c11 c12 c13 c14 c15 c16 c17 c18 c19 c20 c21 dW c23 c24 dP eP fO c28 eQ eT c31 c32 eU c34 eX eY c37 fP fQ c40 gQ iP iQ iF iG c46 iY iH c49 iI c51 iJ c53 iZ iK iL iM fH c59 fU fV fZ gU c64 jC jX jY jZ kC c70 kI c72 jJ kJ c75 c76 nJ nK nL c80 nM nN nO nP c85 nQ c87 nR nS nT c91 nU c93 nV nW nX nY nZ oC gK gL eZ fA fB c105 fC c107 fD c109 gW gX gY gZ iA iB c116 c117 iC c119 fE fF kW kX c124 kY kZ mM mO c138 c139 mP c141 mQ c143 jR YH YI YJ YK YL YM YN YO YP a2 y2 L/\oH Y.drew (fun u=>Below Y.drew.heap.size Y.drew u) (fun u=>A w1 a2 y2 u) (fun u=>u=w2.setCell ⟨g,1,none⟩ (.slice a2 m2 y2)) 6 7 9 w1 w2 L u) ?done (by kernel_rfl) ?step _ 10 _ _ (by kernel_rfl) ?init (by decide)
 case init=>exact⟨none,0,Y,Y,by simp only[eF,dG (bR _ _)],oH.init⟩
 case step=>
  intro L act w i o hI hlt hs nl hC hd ho K hK
  obtain⟨a2,y2,w1,w2,rfl,hW⟩:=hI
  have jB:i<10:=(Array.getElem?_eq_some_iff.1 ho).1
  have hD:=fun k m=>hd {on:=k,ground:=.data} m rfl
  rcases (show i=0\/i=1\/i=2\/i=3\/i=4\/i=5\/i=6\/i=7\/i=8\/i=9 by omega) with rfl|rfl|rfl|rfl|rfl|rfl|rfl|rfl|rfl|rfl<;>(change some _=some o at ho;cases ho)
  ·simp only[eF]
   go_simp
   exact hK _ _ ⟨a2,y2,w1,w2,by simp only[eF,aD hlt,reduceIte,Nat.reduceEqDiff];try rfl,(hW.keep hlt (by decide) (by decide) (by decide))⟩
  ·have q0:up L 0=true:=hD 0 (by simp)
   have n7:up L 7=false:=hC.no nl 7 rfl (by kernel_rfl)
   have xo:=hW.cell n7 j1 (fun q=>aF q j1)
   simp only[eF,aA q0]
   go_simp
   exact hK _ _ ⟨a2,y2,w1,w2,by simp only[eF,aD hlt,aA q0,reduceIte,Nat.reduceEqDiff];try rfl,(hW.keep hlt (by decide) (by decide) (by decide))⟩
  ·have n6:up L 6=false:=hC.no nl 6 rfl (by kernel_rfl)
   obtain rfl:=hW.1 n6
   simp only[eF]
   go_simp
   exact hK _ _ ⟨a2,y2,w1,w2,by simp only[eF,aD hlt,reduceIte,Nat.reduceEqDiff];try rfl,(hW.keep hlt (by decide) (by decide) (by decide))⟩
  ·simp only[eF]
   go_simp
   exact hK _ _ ⟨a2,y2,w1,w2,by simp only[eF,aD hlt,reduceIte,Nat.reduceEqDiff];try rfl,(hW.keep hlt (by decide) (by decide) (by decide))⟩
  ·have q3:up L 3=true:=hD 3 (by simp)
   have n5:up L 5=false:=hC.no nl 5 rfl (by kernel_rfl)
   have n6:up L 6=false:=hC.no n5 6 rfl (by kernel_rfl)
   obtain rfl:=hW.1 n6
   simp only[eF,aA q3]
   go_simp
   exact hK _ _ ⟨a2,y2,w1,w2,by simp only[eF,aD hlt,aA q3,reduceIte,Nat.reduceEqDiff];try rfl,(hW.keep hlt (by decide) (by decide) (by decide))⟩
  ·have q4:up L 4=true:=hD 4 (by simp)
   simp only[eF,aA q4]
   go_simp
   exact hK _ _ ⟨a2,y2,w1,w2,by simp only[eF,aD hlt,aA q4,reduceIte,Nat.reduceEqDiff];try rfl,(hW.keep hlt (by decide) (by decide) (by decide))⟩
  ·have q2:up L 2=true:=hD 2 (by simp)
   have q5:up L 5=true:=hD 5 (by simp)
   have n7:up L 7=false:=hC.no nl 7 rfl (by kernel_rfl)
   have n9:up L 9=false:=hC.no n7 9 rfl (by kernel_rfl)
   obtain rfl:=hW.1 nl
   simp only[eF,aA q2,aA q5]
   go_simp
   refine (Uo.out _).mono ?_
   rintro e w3 ⟨rfl,d1⟩
   go_simp
   exact hK _ _ ⟨a2,y2,w3,w2,by simp only[eF,aD hlt,aA q2,aA q5,reduceIte,Nat.reduceEqDiff];try rfl,oH.first hlt (by decide) n7 d1⟩
  ·have q1:up L 1=true:=hD 1 (by simp)
   have q6:up L 6=true:=hD 6 (by simp)
   have n9:up L 9=false:=hC.no nl 9 rfl (by kernel_rfl)
   obtain⟨d1,y4,_⟩:=hW.2 q6
   obtain rfl:=y4 nl
   obtain⟨a3,y3,u3,hr3,hA3⟩:=HT.out _ (Below.trans (Below.drew (Below.refl _ _)) d1)
   simp only[eF,aA q1,aA q6]
   rw[if_pos (by rfl)]
   refine Lib.wp_append_run _ (.tmp 128) (.tmp 133) 22 3 rfl _ _ rfl rfl _ _ hr3 ?_
   go_simp
   exact hK _ _ ⟨a3,y3,w,u3,by simp only[eF,aD hlt,aA q1,aA q6,reduceIte,Nat.reduceEqDiff];try rfl,hW.second hlt (by decide) n9 q6 hA3⟩
  ·simp only[eF]
   go_simp
   exact hK _ _ ⟨a2,y2,w1,w2,by simp only[eF,aD hlt,reduceIte,Nat.reduceEqDiff];try rfl,(hW.keep hlt (by decide) (by decide) (by decide))⟩
  ·have q7:up L 7=true:=hD 7 (by simp)
   have q8:up L 8=true:=hD 8 (by simp)
   have q6:up L 6=true:=hC 7 _ rfl q7 { on:=6,ground:=.data } (by simp) rfl
   obtain⟨d1,_,d2⟩:=hW.2 q6
   obtain⟨d3,y4,_⟩:=d2 q7
   obtain rfl:=y4 nl
   obtain⟨e1,e2⟩:=HA.out _ _ _ _ (Below.trans (Below.drew (Below.refl _ _)) d1) d3
   simp only[eF,aA q7,aA q8]
   go_simp
   exact hK _ _ ⟨a2,y2,w1,w,by simp only[eF,aD hlt,aA q7,aA q8,reduceIte,Nat.reduceEqDiff];try rfl,hW.third hlt q6 q7 rfl⟩
 case done=>
  rintro L a u ⟨a2,y2,w1,w2,rfl,hW⟩ hall
  simp only[eF,aA (hall 0 (by decide)),aA (hall 1 (by decide)),aA (hall 2 (by decide)),aA (hall 3 (by decide)),aA (hall 4 (by decide)),aA (hall 5 (by decide)),aA (hall 6 (by decide)),aA (hall 7 (by decide)),aA (hall 8 (by decide)),aA (hall 9 (by decide))]
  obtain⟨d1,_,d2⟩:=hW.2 (hall 6 (by decide))
  obtain⟨d3,_,d4⟩:=d2 (hall 7 (by decide))
  obtain rfl:=d4 (hall 9 (by decide))
  exact nI.out a2 y2 w1 w2 (Below.trans (Below.drew (Below.refl _ _)) d1) d3
def gD (g h m2 n0:Nat) (x:Pl.Ln) (z:Int) (a0:Option Addr) (y0:Nat) (A:World->Option Addr->Nat->World->Prop)  (c0 c1 c2 c3 c4 c5 c7 c9 c10 c11 c12 c13 c14 c15 c16 c17 c18 c19 c20 c21 dW c23 c24 dP eP fO c28 eQ eT c31 c32 eU c34 eX eY c37 fP fQ c40 gQ iP iQ iF iG c46 iY iH c49 iI c51 iJ c53 iZ iK iL iM fH c59 fU fV fZ gU c64 jC jX jY jZ kC c70 kI c72 jJ kJ c75 c76 nJ nK nL c80 nM nN nO nP c85 nQ c87 nR nS nT c91 nU c93 nV nW nX nY nZ oC gK gL eZ fA fB c105 fC c107 fD c109 gW gX gY gZ iA iB c116 c117 iC c119 fE fF kW kX c124 kY kZ c127 mF mG c130 c131 mH mI mJ mK jR YQ YR YS YT YU YV YW YX:Value) (a2:Option Addr) (y2:Nat) (L:Array Bool):Act:={ tmps:=#[c0,c1,c2,c3,c4,c5,.pointer (some ⟨g,0,none⟩),c7,.pointer (some ⟨h,0,none⟩),c9,c10,c11,c12,c13,c14,c15,c16,c17,c18,c19,c20,c21,dW,c23,c24,dP,eP,fO,c28,eQ,eT,c31,c32,eU,c34,eX,eY,c37,fP,fQ,c40,gQ,iP,iQ,iF,iG,c46,iY,iH,c49,iI,c51,iJ,c53,iZ,iK,iL,iM,fH,c59,fU,fV,fZ,gU,c64,jC,jX,jY,jZ,kC,c70,kI,c72,jJ,kJ,c75,c76,nJ,nK,nL,c80,nM,nN,nO,nP,c85,nQ,c87,nR,nS,nT,c91,nU,c93,nV,nW,nX,nY,nZ,oC,gK,gL,eZ,fA,fB,c105,fC,c107,fD,c109,gW,gX,gY,gZ,iA,iB,c116,c117,iC,c119,fE,fF,kW,kX,c124,kY,kZ,c127,mF,mG,c130,c131,mH,mI,mJ,mK,aR YQ L 0 (.pointer (some ⟨g,1,none⟩)),aR YR L 1 (.slice a0 n0 y0),aR YS L 2 (.pointer (some ⟨h,7,none⟩)),aR YT L 3 (.int .i64 x.n),aR YU L 4 (.agg #[.int .i64 x.k,.int .i64 x.op,.int .i64 x.rd,.int .i64 x.r1,.int .i64 x.r2,.int .i64 x.im,.string x.s,.int .i64 x.n]),aR YV L 5 (.int .i64 z),aR YW L 6 (.slice a2 m2 y2),aR YX L 7 (.pointer (some ⟨g,1,none⟩)),jR],defers:=[] }
set_option maxRecDepth 100000 in
theorem vD (g h m2 n0:Nat) (x:Pl.Ln) (z:Int) (a0:Option Addr) (y0:Nat) (A:World->Option Addr->Nat->World->Prop) {c0 c1 c2 c3 c4 c5 c7 c9 c10 c11 c12 c13 c14 c15 c16 c17 c18 c19 c20 c21 dW c23 c24 dP eP fO c28 eQ eT c31 c32 eU c34 eX eY c37 fP fQ c40 gQ iP iQ iF iG c46 iY iH c49 iI c51 iJ c53 iZ iK iL iM fH c59 fU fV fZ gU c64 jC jX jY jZ kC c70 kI c72 jJ kJ c75 c76 nJ nK nL c80 nM nN nO nP c85 nQ c87 nR nS nT c91 nU c93 nV nW nX nY nZ oC gK gL eZ fA fB c105 fC c107 fD c109 gW gX gY gZ iA iB c116 c117 iC c119 fE fF kW kX c124 kY kZ c127 mF mG c130 c131 mH mI mJ mK jR YQ YR YS YT YU YV YW YX:Value} (Y:World) (ho:Y.cell? ⟨g,1,none⟩=some (.slice a0 n0 y0)) (b0:Y.cell? ⟨h,0,none⟩=some (.int .i64 x.k)) (b1:Y.cell? ⟨h,1,none⟩=some (.int .i64 x.op)) (b2:Y.cell? ⟨h,2,none⟩=some (.int .i64 x.rd)) (b3:Y.cell? ⟨h,3,none⟩=some (.int .i64 x.r1)) (b4:Y.cell? ⟨h,4,none⟩=some (.int .i64 x.r2)) (b5:Y.cell? ⟨h,5,none⟩=some (.int .i64 x.im)) (b6:Y.cell? ⟨h,6,none⟩=some (.string x.s)) (b7:Y.cell? ⟨h,7,none⟩=some (.int .i64 x.n)) (hA:∀ a2 y2 u1 u,Below Y.heap.size Y u1->A u1 a2 y2 u->u.cell? ⟨g,1,none⟩=some (.slice a0 n0 y0)/\u.frozen? ⟨g,1,none⟩=false) (hc:∀ u:World,Calls Tryz.prog 66 #[.agg #[.int .i64 x.k,.int .i64 x.op,.int .i64 x.rd,.int .i64 x.r1,.int .i64 x.r2,.int .i64 x.im,.string x.s,.int .i64 x.n],.int .i64 0] u fun e w'=>e=.returned (.int .i64 z)/\Below u.heap.size u w') (hT:∀ u1,Below Y.heap.size Y u1->Calls Tryz.prog 69 #[.slice a0 n0 y0,.int .i64 x.n,.int .i64 z] u1 fun e w'=>∃ a2 y2,e=.returned (.slice a2 m2 y2)/\A u1 a2 y2 w') {Q:Exit->Act->World->Prop}
  (hK:∀ (a2:Option Addr) (y2:Nat) (w1 w2:World),Below Y.heap.size Y w1->A w1 a2 y2 w2->Q .normal { tmps:=#[c0,c1,c2,c3,c4,c5,.pointer (some ⟨g,0,none⟩),c7,.pointer (some ⟨h,0,none⟩),c9,c10,c11,c12,c13,c14,c15,c16,c17,c18,c19,c20,c21,dW,c23,c24,dP,eP,fO,c28,eQ,eT,c31,c32,eU,c34,eX,eY,c37,fP,fQ,c40,gQ,iP,iQ,iF,iG,c46,iY,iH,c49,iI,c51,iJ,c53,iZ,iK,iL,iM,fH,c59,fU,fV,fZ,gU,c64,jC,jX,jY,jZ,kC,c70,kI,c72,jJ,kJ,c75,c76,nJ,nK,nL,c80,nM,nN,nO,nP,c85,nQ,c87,nR,nS,nT,c91,nU,c93,nV,nW,nX,nY,nZ,oC,gK,gL,eZ,fA,fB,c105,fC,c107,fD,c109,gW,gX,gY,gZ,iA,iB,c116,c117,iC,c119,fE,fF,kW,kX,c124,kY,kZ,c127,mF,mG,c130,c131,mH,mI,mJ,mK,.pointer (some ⟨g,1,none⟩),.slice a0 n0 y0,.pointer (some ⟨h,7,none⟩),.int .i64 x.n,.agg #[.int .i64 x.k,.int .i64 x.op,.int .i64 x.rd,.int .i64 x.r1,.int .i64 x.r2,.int .i64 x.im,.string x.s,.int .i64 x.n],.int .i64 z,.slice a2 m2 y2,.pointer (some ⟨g,1,none⟩),jR],defers:=[] } (w2.setCell ⟨g,1,none⟩ (.slice a2 m2 y2))) :
  (XQ 25).wp Tryz.prog Q { tmps:=#[c0,c1,c2,c3,c4,c5,.pointer (some ⟨g,0,none⟩),c7,.pointer (some ⟨h,0,none⟩),c9,c10,c11,c12,c13,c14,c15,c16,c17,c18,c19,c20,c21,dW,c23,c24,dP,eP,fO,c28,eQ,eT,c31,c32,eU,c34,eX,eY,c37,fP,fQ,c40,gQ,iP,iQ,iF,iG,c46,iY,iH,c49,iI,c51,iJ,c53,iZ,iK,iL,iM,fH,c59,fU,fV,fZ,gU,c64,jC,jX,jY,jZ,kC,c70,kI,c72,jJ,kJ,c75,c76,nJ,nK,nL,c80,nM,nN,nO,nP,c85,nQ,c87,nR,nS,nT,c91,nU,c93,nV,nW,nX,nY,nZ,oC,gK,gL,eZ,fA,fB,c105,fC,c107,fD,c109,gW,gX,gY,gZ,iA,iB,c116,c117,iC,c119,fE,fF,kW,kX,c124,kY,kZ,c127,mF,mG,c130,c131,mH,mI,mJ,mK,YQ,YR,YS,YT,YU,YV,YW,YX,jR],defers:=[] } Y:=by
 have nI:Hid _:=hK
 clear hK
 have HT:Hid _:=hT
 have Uo:Hid _:=hc
 have HA:Hid _:=hA
 have j1:Y.drew.cell? ⟨g,1,none⟩=some (.slice a0 n0 y0):=ho
 have k0:Y.drew.cell? ⟨h,0,none⟩=some (.int .i64 x.k):=b0
 have k1:Y.drew.cell? ⟨h,1,none⟩=some (.int .i64 x.op):=b1
 have k2:Y.drew.cell? ⟨h,2,none⟩=some (.int .i64 x.rd):=b2
 have k3:Y.drew.cell? ⟨h,3,none⟩=some (.int .i64 x.r1):=b3
 have k4:Y.drew.cell? ⟨h,4,none⟩=some (.int .i64 x.r2):=b4
 have k5:Y.drew.cell? ⟨h,5,none⟩=some (.int .i64 x.im):=b5
 have k6:Y.drew.cell? ⟨h,6,none⟩=some (.string x.s):=b6
 have k7:Y.drew.cell? ⟨h,7,none⟩=some (.int .i64 x.n):=b7
 clear b0 b1 b2 b3 b4 b5 b6 b7
 clear hT hc hA ho
 conv=>arg 2;whnf
 dsimp only
 refine wp_region_any (by kernel_rfl) ?_
 change wpAny _ _ _ _ _ _ _ (World.drew _)
 refine bQ (fun L a u=>∃ a2 y2 w1 w2,a=gD g h m2 n0 x z a0 y0 A  c0 c1 c2 c3 c4 c5 c7 c9 c10 c11 c12 c13 c14 c15 c16 c17 c18 c19 c20 c21 dW c23 c24 dP eP fO c28 eQ eT c31 c32 eU c34 eX eY c37 fP fQ c40 gQ iP iQ iF iG c46 iY iH c49 iI c51 iJ c53 iZ iK iL iM fH c59 fU fV fZ gU c64 jC jX jY jZ kC c70 kI c72 jJ kJ c75 c76 nJ nK nL c80 nM nN nO nP c85 nQ c87 nR nS nT c91 nU c93 nV nW nX nY nZ oC gK gL eZ fA fB c105 fC c107 fD c109 gW gX gY gZ iA iB c116 c117 iC c119 fE fF kW kX c124 kY kZ c127 mF mG c130 c131 mH mI mJ mK jR YQ YR YS YT YU YV YW YX a2 y2 L/\oH Y.drew (fun u=>Below Y.drew.heap.size Y.drew u) (fun u=>A w1 a2 y2 u) (fun u=>u=w2.setCell ⟨g,1,none⟩ (.slice a2 m2 y2)) 5 6 8 w1 w2 L u) ?done (by kernel_rfl) ?step _ 9 _ _ (by kernel_rfl) ?init (by decide)
 case init=>exact⟨none,0,Y,Y,by simp only[gD,dG (bR _ _)],oH.init⟩
 case step=>
  intro L act w i o hI hlt hs nl hC hd ho K hK
  obtain⟨a2,y2,w1,w2,rfl,hW⟩:=hI
  have jB:i<9:=(Array.getElem?_eq_some_iff.1 ho).1
  have hD:=fun k m=>hd {on:=k,ground:=.data} m rfl
  rcases (show i=0\/i=1\/i=2\/i=3\/i=4\/i=5\/i=6\/i=7\/i=8 by omega) with rfl|rfl|rfl|rfl|rfl|rfl|rfl|rfl|rfl<;>(change some _=some o at ho;cases ho)
  ·simp only[gD]
   go_simp
   exact hK _ _ ⟨a2,y2,w1,w2,by simp only[gD,aD hlt,reduceIte,Nat.reduceEqDiff];try rfl,(hW.keep hlt (by decide) (by decide) (by decide))⟩
  ·have q0:up L 0=true:=hD 0 (by simp)
   have n6:up L 6=false:=hC.no nl 6 rfl (by kernel_rfl)
   have xo:=hW.cell n6 j1 (fun q=>aF q j1)
   simp only[gD,aA q0]
   go_simp
   exact hK _ _ ⟨a2,y2,w1,w2,by simp only[gD,aD hlt,aA q0,reduceIte,Nat.reduceEqDiff];try rfl,(hW.keep hlt (by decide) (by decide) (by decide))⟩
  ·simp only[gD]
   go_simp
   exact hK _ _ ⟨a2,y2,w1,w2,by simp only[gD,aD hlt,reduceIte,Nat.reduceEqDiff];try rfl,(hW.keep hlt (by decide) (by decide) (by decide))⟩
  ·have q2:up L 2=true:=hD 2 (by simp)
   have n6:up L 6=false:=hC.no nl 6 rfl (by kernel_rfl)
   have xo:=hW.cell n6 k7 (fun q=>aF q k7)
   simp only[gD,aA q2]
   go_simp
   exact hK _ _ ⟨a2,y2,w1,w2,by simp only[gD,aD hlt,aA q2,reduceIte,Nat.reduceEqDiff];try rfl,(hW.keep hlt (by decide) (by decide) (by decide))⟩
  ·have n5:up L 5=false:=hC.no nl 5 rfl (by kernel_rfl)
   obtain rfl:=hW.1 n5
   simp only[gD]
   go_simp
   exact hK _ _ ⟨a2,y2,w1,w2,by simp only[gD,aD hlt,reduceIte,Nat.reduceEqDiff];try rfl,(hW.keep hlt (by decide) (by decide) (by decide))⟩
  ·have q4:up L 4=true:=hD 4 (by simp)
   have n6:up L 6=false:=hC.no nl 6 rfl (by kernel_rfl)
   have n8:up L 8=false:=hC.no n6 8 rfl (by kernel_rfl)
   obtain rfl:=hW.1 nl
   simp only[gD,aA q4]
   go_simp
   refine (Uo.out _).mono ?_
   rintro e w3 ⟨rfl,d1⟩
   go_simp
   exact hK _ _ ⟨a2,y2,w3,w2,by simp only[gD,aD hlt,aA q4,reduceIte,Nat.reduceEqDiff];try rfl,oH.first hlt (by decide) n6 d1⟩
  ·have q1:up L 1=true:=hD 1 (by simp)
   have q3:up L 3=true:=hD 3 (by simp)
   have q5:up L 5=true:=hD 5 (by simp)
   have n8:up L 8=false:=hC.no nl 8 rfl (by kernel_rfl)
   obtain⟨d1,y4,_⟩:=hW.2 q5
   obtain rfl:=y4 nl
   simp only[gD,aA q1,aA q3,aA q5]
   go_simp
   refine (HT.out _ (Below.trans (Below.drew (Below.refl _ _)) d1)).mono ?_
   rintro e w3 ⟨a3,y3,rfl,hR⟩
   go_simp
   exact hK _ _ ⟨a3,y3,w,w3,by simp only[gD,aD hlt,aA q1,aA q3,aA q5,reduceIte,Nat.reduceEqDiff];try rfl,hW.second hlt (by decide) n8 q5 hR⟩
  ·simp only[gD]
   go_simp
   exact hK _ _ ⟨a2,y2,w1,w2,by simp only[gD,aD hlt,reduceIte,Nat.reduceEqDiff];try rfl,(hW.keep hlt (by decide) (by decide) (by decide))⟩
  ·have q6:up L 6=true:=hD 6 (by simp)
   have q7:up L 7=true:=hD 7 (by simp)
   have q5:up L 5=true:=hC 6 _ rfl q6 { on:=5,ground:=.data } (by simp) rfl
   obtain⟨d1,_,d2⟩:=hW.2 q5
   obtain⟨d3,y4,_⟩:=d2 q6
   obtain rfl:=y4 nl
   obtain⟨e1,e2⟩:=HA.out _ _ _ _ (Below.trans (Below.drew (Below.refl _ _)) d1) d3
   simp only[gD,aA q6,aA q7]
   go_simp
   exact hK _ _ ⟨a2,y2,w1,w,by simp only[gD,aD hlt,aA q6,aA q7,reduceIte,Nat.reduceEqDiff];try rfl,hW.third hlt q5 q6 rfl⟩
 case done=>
  rintro L a u ⟨a2,y2,w1,w2,rfl,hW⟩ hall
  simp only[gD,aA (hall 0 (by decide)),aA (hall 1 (by decide)),aA (hall 2 (by decide)),aA (hall 3 (by decide)),aA (hall 4 (by decide)),aA (hall 5 (by decide)),aA (hall 6 (by decide)),aA (hall 7 (by decide)),aA (hall 8 (by decide))]
  obtain⟨d1,_,d2⟩:=hW.2 (hall 5 (by decide))
  obtain⟨d3,_,d4⟩:=d2 (hall 6 (by decide))
  obtain rfl:=d4 (hall 8 (by decide))
  exact nI.out a2 y2 w1 w2 (Below.trans (Below.drew (Below.refl _ _)) d1) d3
def sV (n:Nat):Code->Option Code
 | .block m c=>if m == n then some (.block m c) else sV n c
 | .seq a b=>match sV n a with
  | some c=>some c
  | none=>sV n b
 | .cond _ a b=>match sV n a with
  | some c=>some c
  | none=>sV n b
 | .rangeFunc _ _ a b=>match sV n a with
  | some c=>some c
  | none=>sV n b
 | .loop c=>sV n c
 | .scope c=>sV n c
 | _=>none
noncomputable def Ee (n:Nat):Code:=((Tryz.f25.body.bind (sV n)).getD .skip)
structure sJ (e:TypeId) (g:Nat) (w w':World):Prop where
 size:w.heap.size<=w'.heap.size
 block:∀ (k:Nat) (o:Obj),k≠g->w.heap[k]?=some o->(∀ cur,o≠.cells cur e (0,0))->w'.heap[k]?=some o
theorem sJ.refl (e:TypeId) (g:Nat) (w:World):sJ e g w w:=⟨Nat.le_refl _,fun _ _ _ h _=>h⟩
theorem sJ.trans {e:TypeId} {g:Nat} {a b c:World} (h:sJ e g a b) (k:sJ e g b c):sJ e g a c:=⟨Nat.le_trans h.size k.size,fun i o hi ho hn=>k.block i o hi (h.block i o hi ho hn) hn⟩
theorem sJ.of {e:TypeId} {g:Nat} {w w':World} (h:oZ e w w'):sJ e g w w':=⟨h.size,fun k o _ ho hn=>h.block k o ho hn⟩
theorem sJ.set (e:TypeId) (g j:Nat) (u:World) (v:Value):sJ e g u (u.setCell ⟨g,j,none⟩ v):=⟨(OnlyC.set g j u v).size,fun k o hk ho _=>((OnlyC.set g j u v).block k (Array.getElem?_eq_some_iff.1 ho).1 hk).trans ho⟩
theorem sJ.cell {e:TypeId} {g:Nat} {w w':World} (h:sJ e g w w') {k j:Nat} {cur:Array Value} {t:TypeId} {f:Nat × Nat} {v:Value} (hk:k≠g) (ho:w.heap[k]?=some (.cells cur t f)) (ht:t≠e) (hc:w.cell? ⟨k,j,none⟩=some v):w'.cell? ⟨k,j,none⟩=some v:=
 (World.cell?_of_block ((h.block k _ hk ho (fun c q=>ht (by injection q))).trans ho.symm)).trans hc
theorem aY.Ma {lo g:Nat} {w w':World} {a:Option Addr} {n:Nat} {is:List Pl.Ins} (h:aY lo w a n is) (hb:sJ 3 g w w') (hg:g<lo):aY lo w' a n is:=by
 obtain⟨h1,h2,h3⟩:=h
 refine⟨h1,h2,?_⟩
 rcases h3 with h3 | ⟨b,ha,hlo,hlt,⟨cur,t,f,t3,t5,hh⟩,hc⟩
 ·exact .inl h3
 ·have hh':=hb.block b _ (by omega) hh (fun c q=>by injection q with _ q2 _;exact t3 q2)
  exact .inr ⟨b,ha,hlo,Nat.lt_of_lt_of_le hlt hb.size,⟨cur,t,f,t3,t5,hh'⟩,fun i hi j hj=>(World.cell?_of_block (hh'.trans hh.symm)).trans (hc i hi j hj)⟩
set_option maxRecDepth 100000 in
theorem kG {lo:Nat} (k g R:Nat) (jump near:Bool) (is:List Pl.Ins) (ai:Option Addr) (ni ci:Nat) (vc vd:Value) (cs ds:List Int) {c0 c1 c2 c3 c5 c8 c9 c11 c15 c16 c17 c18 c19 c20 c21 dW c23 c24 dP eP fO c28 eQ eT c31 c32 eU c34 eX eY c37 fP fQ c40 gQ iP iQ iF iG c46 iY iH c49 iI c51 iJ c53 iZ iK iL iM fH c59 fU fV fZ gU c64 jC jX jY jZ kC c70 kI c72 jJ kJ c75 c76 nJ nK nL c80 nM nN nO nP c85 nQ c87 nR nS nT c91 nU c93 nV nW nX nY nZ oC gK gL eZ fA fB c105 fC c107 fD c109 gW gX gY gZ iA iB c116 c117 iC c119 fE fF kW kX c124 kY kZ c127 mF mG c130 c131 mH mI mJ mK mM mO c138 c139 mP c141 mQ c143 jR:Value} (w0 Y:World) (hF:aZ w0 Y g vc vd cs ds) (hI:aY lo Y ai ni is) (hR:Y.heap[R]?=some (.cells #[.slice none 0 0,.slice none 0 0,.int .i64 0,.int .i64 0] 28 (0,0))) (aAb:R<w0.heap.size) (hgl:g<lo) (hcs:cs.length<=100000) {Q:Exit->Act->World->Prop}
  (hN:∀ (s5 SQ s15 s16 SS s72 SX SY TA TB TC TD TE TF TG s82 s83 TH TI TJ s87 TK TL TM TN TP TQ TR TS TT TU TV TW yP yQ:Value) (u:World) (KP:Value),(is.any fun y=>!y.ok || (jump && !near))=false->aZ w0 u g KP vd (cs ++ is.map bI) ds->sJ 3 g Y u->Q .normal { tmps:=#[c0,c1,c2,c3,.pointer (some ⟨R,0,none⟩),s5,.pointer (some ⟨g,0,none⟩),.int .i64 (k:Nat),c8,c9,.bool near,c11,.slice ai ni ci,.bool jump,SQ,s15,s16,c17,c18,c19,c20,c21,dW,c23,c24,dP,eP,fO,c28,eQ,eT,c31,c32,eU,c34,eX,eY,c37,fP,fQ,c40,gQ,iP,iQ,iF,iG,c46,iY,iH,c49,iI,c51,iJ,c53,iZ,iK,iL,iM,fH,c59,fU,fV,fZ,gU,c64,jC,jX,jY,jZ,kC,c70,SS,s72,SX,SY,TA,TB,TC,TD,TE,TF,TG,s82,s83,TH,TI,TJ,s87,TK,TL,TM,TN,TP,TQ,TR,TS,TT,TU,TV,TW,yP,yQ,eZ,fA,fB,c105,fC,c107,fD,c109,gW,gX,gY,gZ,iA,iB,c116,c117,iC,c119,fE,fF,kW,kX,c124,kY,kZ,c127,mF,mG,c130,c131,mH,mI,mJ,mK,mM,mO,c138,c139,mP,c141,mQ,c143,jR],defers:=[] } u)
  (hX:∀ (SQ s15 s16 SS s72 SX SY TA TB TC TD TE TF TG s82 s83 TH TI TJ s87 TK TL TM TN TP TQ TR TS TT TU TV TW yP yQ:Value) (u:World) (a9:Option Addr) (n9 y9:Nat),(is.any fun y=>!y.ok || (jump && !near))=true->u.heap[R]?=some (.cells #[.slice a9 n9 y9,vd,.int .i64 0,.int .i64 0] 28 (0,0))->Below R w0 u->Q .ret { tmps:=#[c0,c1,c2,c3,.pointer (some ⟨R,0,none⟩),.int .i64 (k:Nat),.pointer (some ⟨g,0,none⟩),.int .i64 (k:Nat),c8,c9,.bool near,c11,.slice ai ni ci,.bool jump,SQ,s15,s16,c17,c18,c19,c20,c21,dW,c23,c24,dP,eP,fO,c28,eQ,eT,c31,c32,eU,c34,eX,eY,c37,fP,fQ,c40,gQ,iP,iQ,iF,iG,c46,iY,iH,c49,iI,c51,iJ,c53,iZ,iK,iL,iM,fH,c59,fU,fV,fZ,gU,c64,jC,jX,jY,jZ,kC,c70,SS,s72,SX,SY,TA,TB,TC,TD,TE,TF,TG,s82,s83,TH,TI,TJ,s87,TK,TL,TM,TN,TP,TQ,TR,TS,TT,TU,TV,TW,yP,yQ,eZ,fA,fB,c105,fC,c107,fD,c109,gW,gX,gY,gZ,iA,iB,c116,c117,iC,c119,fE,fF,kW,kX,c124,kY,kZ,c127,mF,mG,c130,c131,mH,mI,mJ,mK,mM,mO,c138,c139,mP,c141,mQ,c143,jR],defers:=[] } u) :
  (Ee 2).wp Tryz.prog Q { tmps:=#[c0,c1,c2,c3,.pointer (some ⟨R,0,none⟩),c5,.pointer (some ⟨g,0,none⟩),.int .i64 (k:Nat),c8,c9,.bool near,c11,.slice ai ni ci,.bool jump,.int .i64 0,c15,c16,c17,c18,c19,c20,c21,dW,c23,c24,dP,eP,fO,c28,eQ,eT,c31,c32,eU,c34,eX,eY,c37,fP,fQ,c40,gQ,iP,iQ,iF,iG,c46,iY,iH,c49,iI,c51,iJ,c53,iZ,iK,iL,iM,fH,c59,fU,fV,fZ,gU,c64,jC,jX,jY,jZ,kC,c70,kI,c72,jJ,kJ,c75,c76,nJ,nK,nL,c80,nM,nN,nO,nP,c85,nQ,c87,nR,nS,nT,c91,nU,c93,nV,nW,nX,nY,nZ,oC,gK,gL,eZ,fA,fB,c105,fC,c107,fD,c109,gW,gX,gY,gZ,iA,iB,c116,c117,iC,c119,fE,fF,kW,kX,c124,kY,kZ,c127,mF,mG,c130,c131,mH,mI,mJ,mK,mM,mO,c138,c139,mP,c141,mQ,c143,jR],defers:=[] } Y:=by
 obtain⟨a6,y6,hv6⟩:=aT hF.od
 subst hv6
 have wE:Hid (∀ (s5 SQ s15 s16 SS s72 SX SY TA TB TC TD TE TF TG s82 s83 TH TI TJ s87 TK TL TM TN TP TQ TR TS TT TU TV TW yP yQ:Value) (u:World) (KP:Value),(is.any fun y=>!y.ok || (jump && !near))=false->aZ w0 u g KP (.slice a6 ds.length y6) (cs ++ is.map bI) ds->sJ 3 g Y u->Q .normal { tmps:=#[c0,c1,c2,c3,.pointer (some ⟨R,0,none⟩),s5,.pointer (some ⟨g,0,none⟩),.int .i64 (k:Nat),c8,c9,.bool near,c11,.slice ai ni ci,.bool jump,SQ,s15,s16,c17,c18,c19,c20,c21,dW,c23,c24,dP,eP,fO,c28,eQ,eT,c31,c32,eU,c34,eX,eY,c37,fP,fQ,c40,gQ,iP,iQ,iF,iG,c46,iY,iH,c49,iI,c51,iJ,c53,iZ,iK,iL,iM,fH,c59,fU,fV,fZ,gU,c64,jC,jX,jY,jZ,kC,c70,SS,s72,SX,SY,TA,TB,TC,TD,TE,TF,TG,s82,s83,TH,TI,TJ,s87,TK,TL,TM,TN,TP,TQ,TR,TS,TT,TU,TV,TW,yP,yQ,eZ,fA,fB,c105,fC,c107,fD,c109,gW,gX,gY,gZ,iA,iB,c116,c117,iC,c119,fE,fF,kW,kX,c124,kY,kZ,c127,mF,mG,c130,c131,mH,mI,mJ,mK,mM,mO,c138,c139,mP,c141,mQ,c143,jR],defers:=[] } u):=hN
 have wW:Hid (∀ (SQ s15 s16 SS s72 SX SY TA TB TC TD TE TF TG s82 s83 TH TI TJ s87 TK TL TM TN TP TQ TR TS TT TU TV TW yP yQ:Value) (u:World) (a9:Option Addr) (n9 y9:Nat),(is.any fun y=>!y.ok || (jump && !near))=true->u.heap[R]?=some (.cells #[.slice a9 n9 y9,.slice a6 ds.length y6,.int .i64 0,.int .i64 0] 28 (0,0))->Below R w0 u->Q .ret { tmps:=#[c0,c1,c2,c3,.pointer (some ⟨R,0,none⟩),.int .i64 (k:Nat),.pointer (some ⟨g,0,none⟩),.int .i64 (k:Nat),c8,c9,.bool near,c11,.slice ai ni ci,.bool jump,SQ,s15,s16,c17,c18,c19,c20,c21,dW,c23,c24,dP,eP,fO,c28,eQ,eT,c31,c32,eU,c34,eX,eY,c37,fP,fQ,c40,gQ,iP,iQ,iF,iG,c46,iY,iH,c49,iI,c51,iJ,c53,iZ,iK,iL,iM,fH,c59,fU,fV,fZ,gU,c64,jC,jX,jY,jZ,kC,c70,SS,s72,SX,SY,TA,TB,TC,TD,TE,TF,TG,s82,s83,TH,TI,TJ,s87,TK,TL,TM,TN,TP,TQ,TR,TS,TT,TU,TV,TW,yP,yQ,eZ,fA,fB,c105,fC,c107,fD,c109,gW,gX,gY,gZ,iA,iB,c116,c117,iC,c119,fE,fF,kW,kX,c124,kY,kZ,c127,mF,mG,c130,c131,mH,mI,mJ,mK,mM,mO,c138,c139,mP,c141,mQ,c143,jR],defers:=[] } u):=hX
 have HF:Hid (aZ w0 Y g vc (.slice a6 ds.length y6) cs ds):=hF
 have HI:Hid (aY lo Y ai ni is):=hI
 have HR:Hid (Y.heap[R]?=some (.cells #[.slice none 0 0,.slice none 0 0,.int .i64 0,.int .i64 0] 28 (0,0))):=hR
 have hni:ni<=2:=hI.2.1
 have hnl:is.length=ni:=hI.1
 have Ef:Hid (is.length=ni):=hnl
 obtain⟨i0,hi0,hz0,hz1,hz2⟩:=info_parts CL
 clear hN hX hF hI hR hnl
 conv=>arg 2;whnf
 dsimp only
 go_wp2_with fail
 go_loopw [14] (fun i wr=>∃ j:Nat,j<=ni/\i=.int .i64 (j:Nat)/\(∀ i,i<j->(!(is.getD i Pl.Ins.zero).ok || (jump && !near))=false)/\∃ KP,aZ w0 wr g KP (.slice a6 ds.length y6) (cs ++ (is.take j).map bI) ds/\sJ 3 g Y wr) (fun i _=>ni-(intOf i).toNat)
 case atStart=>exact⟨0,Nat.zero_le _,rfl,fun i hi=>absurd hi (Nat.not_lt_zero _),vc,by simpa using HF.out,sJ.refl _ _ _⟩
 case round=>
  obtain⟨j,hj,rfl,hall,KP,hs,hb⟩:=hrel
  have HA:Hid (∀ i,i<j->(!(is.getD i Pl.Ins.zero).ok || (jump && !near))=false):=hall
  have HB:Hid (sJ 3 g Y wr):=hb
  have sK:Hid (wr.heap[R]?=some (.cells #[.slice none 0 0,.slice none 0 0,.int .i64 0,.int .i64 0] 28 (0,0))):=hb.block R _ (by have:=hs.hg;omega) HR.out (fun c q=>by injection q with _ q2 _;exact absurd q2 (by decide))
  have hRs:R<wr.heap.size:=(Array.getElem?_eq_some_iff.1 sK.out).1
  have Uq:Hid (aY lo wr ai ni is):=HI.out.Ma hb hgl
  obtain⟨a5,y5,hv5⟩:=aT hs.oc
  subst hv5
  have hRg:R≠g:=by have:=hs.hg;omega
  have Ur:Hid ((cs ++ (is.take j).map bI).length<=100000+2):=by show _<=_;rw[List.length_append,List.length_map,List.length_take];omega
  have HT1:Hid (j<ni->cs ++ (is.take (j+1)).map bI=(cs ++ (is.take j).map bI) ++ [bI (is.getD j Pl.Ins.zero)]):=fun q=>by
   rw[List.take_add_one,List.map_append,List.append_assoc]
   rw[List.getD_eq_getElem?_getD,List.getElem?_eq_getElem (by rw[Ef.out];exact q)]
   rfl
  by_cases hlt:j<ni
  ·have hi:(j:Int)<(ni:Int):=by omega
   have HT1:Hid (cs ++ (is.take (j+1)).map bI=(cs ++ (is.take j).map bI) ++ [bI (is.getD j Pl.Ins.zero)]):=HT1.out hlt
   obtain⟨b,hai,hlo,hblt,_,hc⟩:=Uq.out.2.2.resolve_left (by omega)
   have d0:=hc j hlt 0 (by decide);have d1:=hc j hlt 1 (by decide);have d2:=hc j hlt 2 (by decide);have d3:=hc j hlt 3 (by decide);have d4:=hc j hlt 4 (by decide)
   have HYM:Hid (is.getD j Pl.Ins.zero∈is):=by show _∈_;rw[List.getD_eq_getElem?_getD,List.getElem?_eq_getElem (by rw[Ef.out];exact hlt)];exact List.getElem_mem _
   clear hc
   subst hai
   generalize hC:cs ++ (is.take j).map bI=C at *
   clear hC
   have HS:Hid (aZ w0 wr g (.slice a5 C.length y5) (.slice a6 ds.length y6) C ds):=hs
   have hcl:C.length<=100002:=Ur.out
   generalize Ke:is.getD j Pl.Ins.zero=y at *
   have I1:Hid (is.getD j Pl.Ins.zero=y):=Ke
   have HY:Hid (y∈is):=HYM.out
   clear Ke hs hall hb
   simp only[Pl.Ins.cells,Nat.add_zero,List.getElem?_toArray,List.getElem?_cons_zero,List.getElem?_cons_succ]at d0 d1 d2 d3 d4
   have HE:Hid (∀ u:World,Calls Tryz.prog 68 #[.agg #[.int .i64 y.op,.int .i64 y.rd,.int .i64 y.r1,.int .i64 y.r2,.int .i64 y.im]] u fun e w'=>e=.returned (.tuple #[.int .i64 (bI y),.bool y.ok])/\Below u.heap.size u w'):=fun u=>SH y u
   cases hok:y.ok
   ·have VD:Hid (y.ok=false):=hok
    rw[hok]at HE
    clear hok
    go_wp2_with (go_at_call 68;refine (HE.out _).mono ?_;rintro e u1 ⟨rfl,d1⟩; have HS2:Hid (aZ w0 u1 g (.slice a5 C.length y5) (.slice a6 ds.length y6) C ds):=HS.out.keep d1;have m0:=HS2.out.c0;have m1:=HS2.out.c1;have m2:=HS2.out.c2;have m3:=HS2.out.c3;have HD:Hid (Below wr.heap.size wr u1):=d1;have r0:=cell_of_row _ _ 0 _ 28 (0,0) ((d1.block R hRs).trans sK.out);have r1:=cell_of_row _ _ 1 _ 28 (0,0) ((d1.block R hRs).trans sK.out);have r2:=cell_of_row _ _ 2 _ 28 (0,0) ((d1.block R hRs).trans sK.out);have r3:=cell_of_row _ _ 3 _ 28 (0,0) ((d1.block R hRs).trans sK.out);have rf:∀ j,u1.frozen? ⟨R,j,none⟩=false:=(fun j=>frozen_of_row _ _ j _ 28 ((d1.block R hRs).trans sK.out));have Mc:Hid (u1.heap[R]?=some (.cells #[.slice none 0 0,.slice none 0 0,.int .i64 0,.int .i64 0] 28 (0,0))):=(d1.block R hRs).trans sK.out;clear d1)
    refine wW.out _ _ _ _ _ _ _ _ _ _ _ _ _ _ _ _ _ _ _ _ _ _ _ _ _ _ _ _ _ _ _ _ _ _ _ a5 C.length y5 ?_ (AY Mc.out) ?_
    ·rw[List.any_eq_true]
     exact⟨y,HY.out,by rw[VD.out];simp⟩
    ·refine Below.setCell (Below.setCell (Below.setCell (Below.setCell ?_ (p:=⟨R,0,none⟩) (Nat.le_refl _) _) (p:=⟨R,1,none⟩) (Nat.le_refl _) _) (p:=⟨R,2,none⟩) (Nat.le_refl _) _) (p:=⟨R,3,none⟩) (Nat.le_refl _) _
     exact HS2.out.gP.mono (show R<=w0.heap.size by omega)
   ·have VD:Hid (y.ok=true):=hok
    rw[hok]at HE
    clear hok
    cases jump
    ·go_wp2_with (first | (at_builtin;refine wpList_append_own _ rfl (.tmp 97) (.tmp 99) 26 rfl w0.heap.size 3 i0 (.int .i64 0) 1 8 Tryz.underlying26 hi0 hz0 hz1 hz2 rfl (by decide) (.slice a5 C.length y5) C.length (Pl.IW C) rfl (HS2.out.oc.alloc _) ⟨u1.heap.size,0,none⟩ 1 1 [.int .i64 (bI y)] rfl rfl (rU _ _ _ (by simp)) (by intro u hu;simp at hu;subst hu;rfl) (by unfold maxLen;omega) (by omega) (by have:=HS2.out.size;simp;omega) ?_;intro v' u2 hown1 bG _;obtain⟨a8,y8,zY⟩:=aT hown1;subst zY;have hby:oZ 3 u1 u2:=(oZ.below (aB u1 _)).trans (oZ.grown (HS2.out.oc.alloc _) bG);have hbe:Below w0.heap.size u1 u2:=Below.grown (Below.alloc (Below.refl _ _) HS2.out.size _) bG (by have:=HS2.out.size;simp;omega) (fun k hk=>(HS2.out.oc.lt k hk).1);have HG:Hid (aZ w0 (u2.setCell ⟨g,0,none⟩ (.slice a8 (C.length+1) y8)) g (.slice a8 (C.length+1) y8) (.slice a6 ds.length y6) (C ++ [bI y]) ds/\oZ 3 u1 u2):=⟨HS2.out.XP (by rw[Pl.CQ,List.length_append];exact hown1) hby hbe,hby⟩; have hrow:u2.heap[g]?=some (.cells #[.slice a5 C.length y5,.slice a6 ds.length y6,.int .i64 0,.int .i64 0] 28 (0,0)):=hby.block g _ HS2.out.row (fun c q=>by injection q with _ q2 _;exact absurd q2 (by decide));have y1:u2.cell? ⟨g,0,none⟩=some (.slice a5 C.length y5):=cell_of_row _ _ 0 _ 28 (0,0) hrow;have y2:u2.frozen? ⟨g,0,none⟩=false:=frozen_of_row _ _ 0 _ 28 hrow;clear hown1 bG hby hbe hrow) | (go_at_call 68;refine (HE.out _).mono ?_;rintro e u1 ⟨rfl,d1⟩; have HS2:Hid (aZ w0 u1 g (.slice a5 C.length y5) (.slice a6 ds.length y6) C ds):=HS.out.keep d1;have m0:=HS2.out.c0;have m1:=HS2.out.c1;have m2:=HS2.out.c2;have m3:=HS2.out.c3;have HD:Hid (Below wr.heap.size wr u1):=d1;have r0:=cell_of_row _ _ 0 _ 28 (0,0) ((d1.block R hRs).trans sK.out);have r1:=cell_of_row _ _ 1 _ 28 (0,0) ((d1.block R hRs).trans sK.out);have r2:=cell_of_row _ _ 2 _ 28 (0,0) ((d1.block R hRs).trans sK.out);have r3:=cell_of_row _ _ 3 _ 28 (0,0) ((d1.block R hRs).trans sK.out);have rf:∀ j,u1.frozen? ⟨R,j,none⟩=false:=(fun j=>frozen_of_row _ _ j _ 28 ((d1.block R hRs).trans sK.out));have Mc:Hid (u1.heap[R]?=some (.cells #[.slice none 0 0,.slice none 0 0,.int .i64 0,.int .i64 0] 28 (0,0))):=(d1.block R hRs).trans sK.out;clear d1))
     obtain⟨hg1,hg2⟩:=HG.out
     refine⟨⟨j+1,by omega,by go_num,?_,.slice a8 (C.length+1) y8,?_,?_⟩,by simp[intOf];omega⟩
     ·intro i hi
      rcases Nat.lt_or_ge i j with q | q
      ·exact HA.out i q
      ·have:i=j:=by omega
       rw[this,I1.out,VD.out];rfl
     ·rw[HT1.out];exact hg1
     ·exact HB.out.trans ((sJ.of (oZ.below HD.out)).trans ((sJ.of hg2).trans (sJ.set _ _ _ _ _)))
    ·cases near
     ·go_wp2_with (go_at_call 68;refine (HE.out _).mono ?_;rintro e u1 ⟨rfl,d1⟩; have HS2:Hid (aZ w0 u1 g (.slice a5 C.length y5) (.slice a6 ds.length y6) C ds):=HS.out.keep d1;have m0:=HS2.out.c0;have m1:=HS2.out.c1;have m2:=HS2.out.c2;have m3:=HS2.out.c3;have HD:Hid (Below wr.heap.size wr u1):=d1;have r0:=cell_of_row _ _ 0 _ 28 (0,0) ((d1.block R hRs).trans sK.out);have r1:=cell_of_row _ _ 1 _ 28 (0,0) ((d1.block R hRs).trans sK.out);have r2:=cell_of_row _ _ 2 _ 28 (0,0) ((d1.block R hRs).trans sK.out);have r3:=cell_of_row _ _ 3 _ 28 (0,0) ((d1.block R hRs).trans sK.out);have rf:∀ j,u1.frozen? ⟨R,j,none⟩=false:=(fun j=>frozen_of_row _ _ j _ 28 ((d1.block R hRs).trans sK.out));have Mc:Hid (u1.heap[R]?=some (.cells #[.slice none 0 0,.slice none 0 0,.int .i64 0,.int .i64 0] 28 (0,0))):=(d1.block R hRs).trans sK.out;clear d1)
      refine wW.out _ _ _ _ _ _ _ _ _ _ _ _ _ _ _ _ _ _ _ _ _ _ _ _ _ _ _ _ _ _ _ _ _ _ _ a5 C.length y5 ?_ (AY Mc.out) ?_
      ·rw[List.any_eq_true]
       exact⟨y,HY.out,by rw[VD.out];simp⟩
      ·refine Below.setCell (Below.setCell (Below.setCell (Below.setCell ?_ (p:=⟨R,0,none⟩) (Nat.le_refl _) _) (p:=⟨R,1,none⟩) (Nat.le_refl _) _) (p:=⟨R,2,none⟩) (Nat.le_refl _) _) (p:=⟨R,3,none⟩) (Nat.le_refl _) _
       exact HS2.out.gP.mono (show R<=w0.heap.size by omega)
     ·go_wp2_with (first | (at_builtin;refine wpList_append_own _ rfl (.tmp 97) (.tmp 99) 26 rfl w0.heap.size 3 i0 (.int .i64 0) 1 8 Tryz.underlying26 hi0 hz0 hz1 hz2 rfl (by decide) (.slice a5 C.length y5) C.length (Pl.IW C) rfl (HS2.out.oc.alloc _) ⟨u1.heap.size,0,none⟩ 1 1 [.int .i64 (bI y)] rfl rfl (rU _ _ _ (by simp)) (by intro u hu;simp at hu;subst hu;rfl) (by unfold maxLen;omega) (by omega) (by have:=HS2.out.size;simp;omega) ?_;intro v' u2 hown1 bG _;obtain⟨a8,y8,zY⟩:=aT hown1;subst zY;have hby:oZ 3 u1 u2:=(oZ.below (aB u1 _)).trans (oZ.grown (HS2.out.oc.alloc _) bG);have hbe:Below w0.heap.size u1 u2:=Below.grown (Below.alloc (Below.refl _ _) HS2.out.size _) bG (by have:=HS2.out.size;simp;omega) (fun k hk=>(HS2.out.oc.lt k hk).1);have HG:Hid (aZ w0 (u2.setCell ⟨g,0,none⟩ (.slice a8 (C.length+1) y8)) g (.slice a8 (C.length+1) y8) (.slice a6 ds.length y6) (C ++ [bI y]) ds/\oZ 3 u1 u2):=⟨HS2.out.XP (by rw[Pl.CQ,List.length_append];exact hown1) hby hbe,hby⟩; have hrow:u2.heap[g]?=some (.cells #[.slice a5 C.length y5,.slice a6 ds.length y6,.int .i64 0,.int .i64 0] 28 (0,0)):=hby.block g _ HS2.out.row (fun c q=>by injection q with _ q2 _;exact absurd q2 (by decide));have y1:u2.cell? ⟨g,0,none⟩=some (.slice a5 C.length y5):=cell_of_row _ _ 0 _ 28 (0,0) hrow;have y2:u2.frozen? ⟨g,0,none⟩=false:=frozen_of_row _ _ 0 _ 28 hrow;clear hown1 bG hby hbe hrow) | (go_at_call 68;refine (HE.out _).mono ?_;rintro e u1 ⟨rfl,d1⟩; have HS2:Hid (aZ w0 u1 g (.slice a5 C.length y5) (.slice a6 ds.length y6) C ds):=HS.out.keep d1;have m0:=HS2.out.c0;have m1:=HS2.out.c1;have m2:=HS2.out.c2;have m3:=HS2.out.c3;have HD:Hid (Below wr.heap.size wr u1):=d1;have r0:=cell_of_row _ _ 0 _ 28 (0,0) ((d1.block R hRs).trans sK.out);have r1:=cell_of_row _ _ 1 _ 28 (0,0) ((d1.block R hRs).trans sK.out);have r2:=cell_of_row _ _ 2 _ 28 (0,0) ((d1.block R hRs).trans sK.out);have r3:=cell_of_row _ _ 3 _ 28 (0,0) ((d1.block R hRs).trans sK.out);have rf:∀ j,u1.frozen? ⟨R,j,none⟩=false:=(fun j=>frozen_of_row _ _ j _ 28 ((d1.block R hRs).trans sK.out));have Mc:Hid (u1.heap[R]?=some (.cells #[.slice none 0 0,.slice none 0 0,.int .i64 0,.int .i64 0] 28 (0,0))):=(d1.block R hRs).trans sK.out;clear d1))
      obtain⟨hg1,hg2⟩:=HG.out
      refine⟨⟨j+1,by omega,by go_num,?_,.slice a8 (C.length+1) y8,?_,?_⟩,by simp[intOf];omega⟩
      ·intro i hi
       rcases Nat.lt_or_ge i j with q | q
       ·exact HA.out i q
       ·have:i=j:=by omega
        rw[this,I1.out,VD.out];rfl
      ·rw[HT1.out];exact hg1
      ·exact HB.out.trans ((sJ.of (oZ.below HD.out)).trans ((sJ.of hg2).trans (sJ.set _ _ _ _ _)))
  ·have hjj:j=ni:=by omega
   have hi:¬ ((j:Int)<(ni:Int)):=by omega
   have HJ:Hid (j=ni):=hjj
   have HS:Hid (aZ w0 wr g (.slice a5 (cs ++ (is.take j).map bI).length y5) (.slice a6 ds.length y6) (cs ++ (is.take j).map bI) ds):=hs
   clear hs hall hb hjj
   go_wp2
   refine wE.out _ _ _ _ _ _ _ _ _ _ _ _ _ _ _ _ _ _ _ _ _ _ _ _ _ _ _ _ _ _ _ _ _ _ _ _ (.slice a5 (cs ++ (is.take j).map bI).length y5) ?_ ?_ HB.out
   ·rw[List.any_eq_false]
    intro y hy
    obtain⟨i,hi2,rfl⟩:=List.mem_iff_getElem.1 hy
    have hq:=HA.out i (by rw[HJ.out,<- Ef.out];exact hi2)
    rw[List.getD_eq_getElem?_getD,List.getElem?_eq_getElem hi2]at hq
    simpa using hq
   ·have hs:=HS.out
    rw[HJ.out,<- Ef.out,List.take_length]at hs ⊢
    exact hs
def iD (w0:World) (D:List Int) (u1:World) (a2:Option Addr) (y2:Nat) (u2:World):Prop:=
 u2.ownsRow w0.heap.size 5 1 (.slice a2 D.length y2) D.length (Pl.rY D)/\Below w0.heap.size u1 u2/\oZ 5 u1 u2
variable {w0 u u1 u2:World} {g:Nat} {vc:Value} {a0 a2:Option Addr} {n0 y0 y2:Nat} {cs ds:List Int}
theorem MU (h:aZ w0 u1 g vc (.slice a0 n0 y0) cs ds) (v:Int) (m:Nat) (hv:0<=v/\v<=4611686018427387904) (hm:m<=4) (hl:ds.length<=4294967296):Calls Tryz.prog 69 #[.slice a0 n0 y0,.int .i64 v,.int .i64 m] u1 fun e w'=>∃ a2 y2,e=.returned (.slice a2 (ds ++ Pl.nD v m).length y2)/\iD w0 (ds ++ Pl.nD v m) u1 a2 y2 w':=by
 refine (RZ w0.heap.size _ ds v m u1 h.size h.od hv hm hl).mono ?_
 rintro e w' ⟨vb,rfl,ho,hb,hy⟩
 obtain⟨a2,y2,rfl⟩:=aT ho
 exact⟨a2,y2,rfl,ho,hb,hy⟩
theorem wF (h:aZ w0 u1 g vc (.slice a0 n0 y0) cs ds) (v:Int):Calls Tryz.prog 69 #[.slice a0 n0 y0,.int .i64 v,.int .i64 0] u1 fun e w'=>∃ a2 y2,e=.returned (.slice a2 ds.length y2)/\iD w0 ds u1 a2 y2 w':=by
 obtain⟨a2,y2,hv⟩:=aT h.od
 rw[hv]
 refine (JM _ v u1).mono ?_
 rintro e w' ⟨rfl,rfl⟩
 refine⟨a2,y2,rfl,?_,Below.refl _ _,oZ.refl _ _⟩
 rw[<- hv];exact h.od
theorem GD:(Tryz.prog.info? 5).map (fun i=>(i.zero,i.size,i.bytes))=some (some (.int .u8 0),1,1):=by kernel_rfl
theorem Bo (h:aZ w0 u1 g vc (.slice a0 n0 y0) cs ds) (m:Nat) (hl:ds.length+m<=70368744177664):∃ a2 y2 u2,(Builtin.append_ #[22,3] 22 #[.slice a0 n0 y0,.int .i64 m]).run Tryz.prog u1=.ok (.slice a2 (ds ++ List.replicate m 0).length y2) u2/\iD w0 (ds ++ List.replicate m 0) u1 a2 y2 u2:=by
 obtain⟨i0,hi0,hz0,hz1,hz2⟩:=info_parts GD
 obtain⟨v',w',hr,ho,hg⟩:=wC (P:=Tryz.prog) u1 w0.heap.size 22 3 22 5 i0 .i64 .i64 Tryz.underlying22 Tryz.underlying3 hi0 hz0 hz1 hz2 _ ds h.od m hl h.size
 obtain⟨a2,y2,rfl⟩:=aT ho
 exact⟨a2,y2,w',hr,ho,Below.grown (Below.refl _ _) hg h.size (fun k hk=>(h.od.lt k hk).1),oZ.grown h.od hg⟩
theorem iD.old (h:aZ w0 u g vc (.slice a0 n0 y0) cs ds) {D:List Int} (hb:Below u.heap.size u u1) (hd:iD w0 D u1 a2 y2 u2):u2.cell? ⟨g,1,none⟩=some (.slice a0 n0 y0)/\u2.frozen? ⟨g,1,none⟩=false:=by
 have hr:=hd.2.2.block g _ (h.keep hb).row (fun c q=>by injection q with _ q2 _;exact absurd q2 (by decide))
 exact⟨cell_of_row _ _ 1 _ 28 (0,0) hr,frozen_of_row _ _ 1 _ 28 hr⟩
theorem iD.fin (h:aZ w0 u g vc (.slice a0 n0 y0) cs ds) {D:List Int} (hb:Below u.heap.size u u1) (hd:iD w0 D u1 a2 y2 u2):aZ w0 (u2.setCell ⟨g,1,none⟩ (.slice a2 D.length y2)) g vc (.slice a2 D.length y2) cs D:=
 (h.keep hb).Ed hd.1 hd.2.2 hd.2.1
theorem rA {s:ByteArray} (h:s.size=0):s=⟨#[]⟩:=by
 obtain⟨⟨l⟩⟩:=s
 have:l=[]:=List.eq_nil_of_length_eq_zero h
 rw[this]
end Go.Proofs.YtlbomnnldkeocaaGreat.W
namespace Go.Proofs.YtlbomnnldkeocaaGreat.Pl
theorem pQ (xs:List Ln) (k:Nat) (h:(gl xs k).k<12):dat xs k=[]:=by
 unfold dat vR
 rw[if_neg (by omega),if_neg (by simp;omega)]
theorem CR (xs:List Ln) (k:Nat) (h:(gl xs k).k=12\/(gl xs k).k=13\/(gl xs k).k=14) (hs:(gl xs k).s=⟨#[]⟩):dat xs k=nD (gl xs k).n (fK (gl xs k) 0).toNat:=by
 unfold dat vR uC
 rw[if_neg (by omega),if_pos (by simp;omega),if_pos hs]
 congr 2
 unfold fK
 rcases h with h | h | h <;> simp[h]
theorem YY (xs:List Ln) (k:Nat) (h:(gl xs k).k=14) (hs:¬ (gl xs k).s=⟨#[]⟩):dat xs k=nD (wd (gT xs (gl xs k).s+(gl xs k).n)) 4:=by
 unfold dat vR uC
 rw[if_neg (by omega),if_pos (by simp;omega),if_neg hs]
 congr 1
 unfold fK
 simp[h]
theorem yR (xs:List Ln) (k:Nat) (h:(gl xs k).k=15\/(gl xs k).k=16):dat xs k=List.replicate (fK (gl xs k) (cu xs k).b).toNat 0:=by
 unfold dat;rw[if_pos h]
theorem Eg (v:Int):0<=wd v/\wd v<=4294967295:=uD v
end Go.Proofs.YtlbomnnldkeocaaGreat.Pl
namespace Go.Proofs.YtlbomnnldkeocaaGreat.W
open Go.RowKit
def Md (xs:List Pl.Ln) (F R g k:Nat) (a:Option Addr) (len cap:Nat) (w0:World) (Q:Exit->Act->World->Prop) (c1 c2 c17 c18 c19 c20 c21 dW c23 c24 dP jR:Value):Prop:=∀ (s5 s8 s9 s10 s11 s12 s13 SQ s15 s16 Us Ut Uu Uv Uw Ux Uy Uz Va Vb Vd Ve Vf Vg Vh Vi Vj s43 s44 Eh Ei Ej El s49 Em En Eo s53 Ep Er Es Et Eu Vk Vl Vm Vn Vo Vp Vq Vr Vs s68 Vt Vu SS s72 SX SY TA TB TC TD TE TF TG s82 s83 TH TI TJ s87 TK TL TM TN TP TQ TR TS TT TU TV TW yP yQ Ev Ew Ex Ey Ez Fa Fb Fe Ff Fg Fh Fj Fp Fq Fs Fu Fv Fw Fx Fy Fz Ga Gb Gc Gd Gf Gg Gh Gi Gj Gl Gm Gn Gp Gq Gr Gs Gt Gu Gv Gw Gx:Value) (u:World) (KP vd':Value),Pl.dQ xs k=false->aZ w0 u g KP vd' (Pl.aL bI xs (k+1)) (Pl.aH xs (k+1))->Q .normal { tmps:=#[.slice a len cap,c1,c2,.pointer (some ⟨F,0,none⟩),.pointer (some ⟨R,0,none⟩),s5,.pointer (some ⟨g,0,none⟩),.int .i64 (k:Nat),s8,s9,s10,s11,s12,s13,SQ,s15,s16,c17,c18,c19,c20,c21,dW,c23,c24,dP,Us,Ut,Uu,Uv,Uw,Ux,Uy,Uz,Va,Vb,Vd,Ve,Vf,Vg,Vh,Vi,Vj,s43,s44,Eh,Ei,Ej,El,s49,Em,En,Eo,s53,Ep,Er,Es,Et,Eu,Vk,Vl,Vm,Vn,Vo,Vp,Vq,Vr,Vs,s68,Vt,Vu,SS,s72,SX,SY,TA,TB,TC,TD,TE,TF,TG,s82,s83,TH,TI,TJ,s87,TK,TL,TM,TN,TP,TQ,TR,TS,TT,TU,TV,TW,yP,yQ,Ev,Ew,Ex,Ey,Ez,Fa,Fb,Fe,Ff,Fg,Fh,Fj,Fp,Fq,Fs,Fu,Fv,Fw,Fx,Fy,Fz,Ga,Gb,Gc,Gd,Gf,Gg,Gh,Gi,Gj,Gl,Gm,Gn,Gp,Gq,Gr,Gs,Gt,Gu,Gv,Gw,Gx,jR],defers:=[] } u
def Me (xs:List Pl.Ln) (F R g k:Nat) (a:Option Addr) (len cap:Nat) (w0:World) (Q:Exit->Act->World->Prop) (c1 c2 c17 c18 c19 c20 c21 dW c23 c24 dP jR:Value):Prop:=∀ (s8 s9 s10 s11 s12 s13 SQ s15 s16 Us Ut Uu Uv Uw Ux Uy Uz Va Vb Vd Ve Vf Vg Vh Vi Vj s43 s44 Eh Ei Ej El s49 Em En Eo s53 Ep Er Es Et Eu Vk Vl Vm Vn Vo Vp Vq Vr Vs s68 Vt Vu SS s72 SX SY TA TB TC TD TE TF TG s82 s83 TH TI TJ s87 TK TL TM TN TP TQ TR TS TT TU TV TW yP yQ Ev Ew Ex Ey Ez Fa Fb Fe Ff Fg Fh Fj Fp Fq Fs Fu Fv Fw Fx Fy Fz Ga Gb Gc Gd Gf Gg Gh Gi Gj Gl Gm Gn Gp Gq Gr Gs Gt Gu Gv Gw Gx:Value) (u:World) (a9:Option Addr) (n9 y9:Nat) (b9:Option Addr) (m9 z9:Nat),Pl.dQ xs k=true->u.heap[R]?=some (.cells #[.slice a9 n9 y9,.slice b9 m9 z9,.int .i64 0,.int .i64 0] 28 (0,0))->Below R w0 u->Q .ret { tmps:=#[.slice a len cap,c1,c2,.pointer (some ⟨F,0,none⟩),.pointer (some ⟨R,0,none⟩),.int .i64 (k:Nat),.pointer (some ⟨g,0,none⟩),.int .i64 (k:Nat),s8,s9,s10,s11,s12,s13,SQ,s15,s16,c17,c18,c19,c20,c21,dW,c23,c24,dP,Us,Ut,Uu,Uv,Uw,Ux,Uy,Uz,Va,Vb,Vd,Ve,Vf,Vg,Vh,Vi,Vj,s43,s44,Eh,Ei,Ej,El,s49,Em,En,Eo,s53,Ep,Er,Es,Et,Eu,Vk,Vl,Vm,Vn,Vo,Vp,Vq,Vr,Vs,s68,Vt,Vu,SS,s72,SX,SY,TA,TB,TC,TD,TE,TF,TG,s82,s83,TH,TI,TJ,s87,TK,TL,TM,TN,TP,TQ,TR,TS,TT,TU,TV,TW,yP,yQ,Ev,Ew,Ex,Ey,Ez,Fa,Fb,Fe,Ff,Fg,Fh,Fj,Fp,Fq,Fs,Fu,Fv,Fw,Fx,Fy,Fz,Ga,Gb,Gc,Gd,Gf,Gg,Gh,Gi,Gj,Gl,Gm,Gn,Gp,Gq,Gr,Gs,Gt,Gu,Gv,Gw,Gx,jR],defers:=[] } u
def xE (H:List Pl.Ln->Nat->Prop):Prop:=∀ {lo:Nat} (xs:List Pl.Ln) (F R g k:Nat) (a:Option Addr) (len cap:Nat) (la:Option Addr) (ll lc:Nat) (aa:Option Addr) (ac:Nat) (vc vd:Value) {c1 c2 c5 c8 c9 c10 c11 c12 c13 c14 c15 c16 c17 c18 c19 c20 c21 dW c23 c24 dP eP fO c28 eQ eT c31 c32 eU c34 eX eY c37 fP fQ c40 gQ iP iQ iF iG c46 iY iH c49 iI c51 iJ c53 iZ iK iL iM fH c59 fU fV fZ gU c64 jC jX jY jZ kC c70 kI c72 jJ kJ c75 c76 nJ nK nL c80 nM nN nO nP c85 nQ c87 nR nS nT c91 nU c93 nV nW nX nY nZ oC gK gL eZ fA fB c105 fC c107 fD c109 gW gX gY gZ iA iB c116 c117 iC c119 fE fF kW kX c124 kY kZ c127 mF mG c130 c131 mH mI mJ mK mM mO c138 c139 mP c141 mQ c143 jR:Value} (w0 Y:World) (hE:pX lo xs Y F R a len cap la ll lc aa ac) (hF:aZ w0 Y g vc vd (Pl.aL bI xs k) (Pl.aH xs k)) (hK:∀ i,i<xs.length->nA (Pl.gl xs i)) (hS:∀ i,i<xs.length->Pl.dU xs i=false) (hL:Pl.lost xs k=false) (hk:k<len) (hn:len<=20000) (hR:R<w0.heap.size),H xs k->∀ {Q:Exit->Act->World->Prop},Md xs F R g k a len cap w0 Q c1 c2 c17 c18 c19 c20 c21 dW c23 c24 dP jR->Me xs F R g k a len cap w0 Q c1 c2 c17 c18 c19 c20 c21 dW c23 c24 dP jR->(Ee 1).wp Tryz.prog Q { tmps:=#[.slice a len cap,c1,c2,.pointer (some ⟨F,0,none⟩),.pointer (some ⟨R,0,none⟩),c5,.pointer (some ⟨g,0,none⟩),.int .i64 (k:Nat),c8,c9,c10,c11,c12,c13,c14,c15,c16,c17,c18,c19,c20,c21,dW,c23,c24,dP,eP,fO,c28,eQ,eT,c31,c32,eU,c34,eX,eY,c37,fP,fQ,c40,gQ,iP,iQ,iF,iG,c46,iY,iH,c49,iI,c51,iJ,c53,iZ,iK,iL,iM,fH,c59,fU,fV,fZ,gU,c64,jC,jX,jY,jZ,kC,c70,kI,c72,jJ,kJ,c75,c76,nJ,nK,nL,c80,nM,nN,nO,nP,c85,nQ,c87,nR,nS,nT,c91,nU,c93,nV,nW,nX,nY,nZ,oC,gK,gL,eZ,fA,fB,c105,fC,c107,fD,c109,gW,gX,gY,gZ,iA,iB,c116,c117,iC,c119,fE,fF,kW,kX,c124,kY,kZ,c127,mF,mG,c130,c131,mH,mI,mJ,mK,mM,mO,c138,c139,mP,c141,mQ,c143,jR],defers:=[] } Y
end Go.Proofs.YtlbomnnldkeocaaGreat.W
