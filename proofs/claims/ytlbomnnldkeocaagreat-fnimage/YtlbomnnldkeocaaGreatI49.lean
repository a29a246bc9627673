import Derived.Test.YtlbomnnldkeocaaGreatI42
import Derived.Test.YtlbomnnldkeocaaGreatI04
import Derived.Deep.CutBlock
import Derived.Test.YtlbomnnldkeocaaGreatI03
import Derived.Test.YtlbomnnldkeocaaGreatI35
import Derived.Laws.MakeOwn
import Derived.Laws.OwnMore
import Derived.Laws.BytesString
import Derived.Laws.Cells
import Derived.Test.YtlbomnnldkeocaaGreatI48
import Derived.Test.YtlbomnnldkeocaaGreatI50
import Derived.Test.YtlbomnnldkeocaaGreatI19
import Derived.Test.YtlbomnnldkeocaaGreatI23
import Derived.Barred
set_option linter.unusedVariables false
set_option linter.unusedSimpArgs false
set_option maxHeartbeats 16000000
namespace Go.Proofs.YtlbomnnldkeocaaGreat.W
open Go.RowKit
def DJ (w:World):World:=(w.alloc (.cells #[.slice none 0 0,.slice none 0 0,.int .i64 0,.int .i64 0] 28)).alloc (.cells #[.slice none 0 0,.slice none 0 0,.int .i64 0,.int .i64 0] 28)
theorem lT (w:World):(DJ w).heap.size=w.heap.size+2:=by unfold DJ;simp
theorem uA (w:World):Below w.heap.size w (DJ w):=(aB w _).alloc (by simp) _
structure qU (lo:Nat) (xs:List Pl.Ln) (w Y:World) (a:Option Addr) (len cap:Nat):Prop where
 gP:Below (DJ w).heap.size (DJ w) Y
 ln:jE lo w a len cap xs
 ok:Pl.aV (fun i=>!lF (Pl.gl xs i)) xs.length=-1
 n:len<=20000
variable {lo:Nat} {xs:List Pl.Ln} {w Y u:World} {a:Option Addr} {len cap:Nat}
theorem qU.keep (h:qU lo xs w Y a len cap) (hb:Below Y.heap.size Y u):qU lo xs w u a len cap:=⟨h.gP.trans (hb.mono h.gP.size),h.ln,h.ok,h.n⟩
theorem qU.rows (h:qU lo xs w Y a len cap):Y.heap[w.heap.size]?=some (.cells #[.slice none 0 0,.slice none 0 0,.int .i64 0,.int .i64 0] 28 (0,0))/\Y.heap[w.heap.size+1]?=some (.cells #[.slice none 0 0,.slice none 0 0,.int .i64 0,.int .i64 0] 28 (0,0)):=by
 refine⟨(h.gP.block _ (by rw[lT];omega)).trans ?_,(h.gP.block _ (by rw[lT];omega)).trans ?_⟩
 ·exact (Below.heap_alloc _ _ _ (by simp)).trans (heap_alloc_new w _)
 ·exact bL (by simp)
theorem qU.low (h:qU lo xs w Y a len cap):Below w.heap.size w Y:=(uA w).trans (h.gP.mono (by rw[lT];omega))
theorem qU.lines (h:qU lo xs w Y a len cap):jE lo Y a len cap xs:=h.ln.keep h.low
theorem qU.sD (h:qU lo xs w Y a len cap):xs.length=len:=h.ln.len.1
theorem qU.known (h:qU lo xs w Y a len cap):∀ i,i<xs.length->nA (Pl.gl xs i):=fun i hi=>by
 have:=(Pl.dO (p:=fun i=>!lF (Pl.gl xs i)) (n:=xs.length) (by rw[h.ok];decide)).2 i hi
 exact pF (by simpa using this)
theorem rT {u:World} {R:Nat} (h:u.heap[R]?=some (.cells #[.slice none 0 0,.slice none 0 0,.int .i64 0,.int .i64 0] 28 (0,0))):(MX u R).heap[R]?=some (.cells #[.slice none 0 0,.slice none 0 0,.int .i64 0,.int .i64 0] 28 (0,0)):=AY h
theorem mV {u:World} (h:Below w.heap.size w u):Below w.heap.size w (MX u w.heap.size):=
 Below.setCell (Below.setCell (Below.setCell (Below.setCell h (p:=⟨w.heap.size,0,none⟩) (Nat.le_refl _) _) (p:=⟨w.heap.size,1,none⟩) (Nat.le_refl _) _) (p:=⟨w.heap.size,2,none⟩) (Nat.le_refl _) _) (p:=⟨w.heap.size,3,none⟩) (Nat.le_refl _) _
structure uT (lo:Nat) (xs:List Pl.Ln) (w Y:World) (a:Option Addr) (len cap:Nat) (g9:Nat) (la:Option Addr) (lc:Nat) (aa:Option Addr) (ac:Nat):Prop where
 e:qU lo xs w Y a len cap
 row:Y.heap[g9]?=some (.cells #[.slice la (Pl.cZ xs len).length lc,.slice aa len ac,.int .i64 ((Pl.cu xs len).t / 4),.int .i64 (Pl.cu xs len).b] 55 (0,0))
 lb:nE Y la (Pl.cZ xs len).length lc xs (Pl.cZ xs len)
 at_:wV Y aa len ac xs
 st:Pl.aV (Pl.dU xs) xs.length=-1
variable {g9:Nat} {la:Option Addr} {lc:Nat} {aa:Option Addr} {ac:Nat}
theorem uT.keep (h:uT lo xs w Y a len cap g9 la lc aa ac) (hb:Below Y.heap.size Y u):uT lo xs w u a len cap g9 la lc aa ac:=
 ⟨h.e.keep hb,(hb.block g9 (Array.getElem?_eq_some_iff.1 h.row).1).trans h.row,h.lb.keep hb,h.at_.keep hb,h.st⟩
theorem uT.dU (h:uT lo xs w Y a len cap g9 la lc aa ac):∀ i,i<xs.length->Pl.dU xs i=false:=(Pl.dO (by rw[h.st];decide)).2
set_option maxRecDepth 100000 in
theorem Az {stack:Int} {g10:Nat} {c2 c3 c5 c6 c8 c11 c12 c13 c14 c15 c16 c17 c18 c19 c20 c21 dW c23 c24 dP eP fO c28 eQ eT c31 c32 eU c34 eX eY c37 fP fQ c40 gQ iP iQ iF iG c46 iY iH c49 iI c51 iJ c53 iZ iK iL iM fH c59 fU fV fZ gU c64 jC jX jY jZ kC c70 kI c72 jJ kJ c75 c76 nJ nK nL c80 nM nN nO nP c85 nQ c87 nR nS nT c91 nU c93 nV nW nX nY nZ oC gK gL eZ fA fB c105 fC c107 fD c109 gW gX gY gZ iA iB c116 c117 iC c119 fE fF:Value} {a1:Option Addr} {n1 y1:Nat} {a2:Option Addr} {n2 y2:Nat} (h:uT lo xs w Y a len cap g9 la lc aa ac) (hrow:Y.heap[g10]?=some (.cells #[.slice a1 n1 y1,.slice a2 n2 y2,.int .i64 0,.int .i64 0] 28 (0,0))) (aAf:w.heap.size+2<=g10)
  (oc:Y.ownsRow w.heap.size 3 1 (.slice a1 n1 y1) (Pl.aL bI xs xs.length).length (Pl.IW (Pl.aL bI xs xs.length))) (od:Y.ownsRow w.heap.size 5 1 (.slice a2 n2 y2) (Pl.aH xs xs.length).length (Pl.rY (Pl.aH xs xs.length)))
  (h4:Pl.aV (Pl.twice xs) xs.length=-1) (h5:Pl.aV (Pl.lost xs) xs.length=-1) (h6:¬ ((Pl.cu xs xs.length).t=0\/65536<(Pl.cu xs xs.length).t)) (h7:¬ 65536<(Pl.cu xs xs.length).b) (h8:Pl.aV (Pl.dQ xs) xs.length=-1) :
  (Hg 23).wp Tryz.prog (bodyPost Tryz.prog Tryz.f6 (bZ xs stack w)) { tmps:=#[.slice a len cap,.int .i64 stack,c2,c3,.pointer (some ⟨w.heap.size,0,none⟩),c5,c6,.pointer (some ⟨(w.heap.size+1),0,none⟩),c8,.pointer (some ⟨g9,0,none⟩),.pointer (some ⟨g10,0,none⟩),c11,c12,c13,c14,c15,c16,c17,c18,c19,c20,c21,dW,c23,c24,dP,eP,fO,c28,eQ,eT,c31,c32,eU,c34,eX,eY,c37,fP,fQ,c40,gQ,iP,iQ,iF,iG,c46,iY,iH,c49,iI,c51,iJ,c53,iZ,iK,iL,iM,fH,c59,fU,fV,fZ,gU,c64,jC,jX,jY,jZ,kC,c70,kI,c72,jJ,kJ,c75,c76,nJ,nK,nL,c80,nM,nN,nO,nP,c85,nQ,c87,nR,nS,nT,c91,nU,c93,nV,nW,nX,nY,nZ,oC,gK,gL,eZ,fA,fB,c105,fC,c107,fD,c109,gW,gX,gY,gZ,iA,iB,c116,c117,iC,c119,fE,fF],defers:=[] } Y:=by
 have HL:Hid (uT lo xs w Y a len cap g9 la lc aa ac):=h
 have hxl:=h.e.sD
 have hn:=h.e.n
 have lM:Hid (xs.length=len):=hxl
 have hll:=Pl.eB bI xs (fun i hi=>(h.e.known i hi).b) h.dU xs.length (Nat.le_refl _)
 have HO:Hid (Y.ownsRow w.heap.size 3 1 (.slice a1 n1 y1) (Pl.aL bI xs xs.length).length (Pl.IW (Pl.aL bI xs xs.length))/\Y.ownsRow w.heap.size 5 1 (.slice a2 n2 y2) (Pl.aH xs xs.length).length (Pl.rY (Pl.aH xs xs.length))):=⟨oc,od⟩
 have hn1:n1=(Pl.aL bI xs xs.length).length:=by
  obtain⟨q1,q2,q3⟩:=aT oc
  injection q3
 have M3:4*(n1:Int)=(Pl.cu xs xs.length).t:=by rw[hn1];exact hll.1
 have hbd:=fun i hi=>Pl.jO xs (fun i hi=>(h.e.known i hi).b) i hi
 have A8:=fun q=>Pl.Mw (ok:=(fun i=>lF (Pl.gl xs i))) (stack:=stack) (by rw[hxl];omega) h.e.ok h.st h4 h5 h6 h7 h8 q
 have Zp:Hid (∀ q,_):=A8
 have H9':Hid (∀ j,Pl.lb xs Pl.dB=some j->¬ ((Pl.cu xs j).d=true\/(Pl.cu xs xs.length).t<=(Pl.cu xs j).t)->(¬ (0<=stack/\stack<=65536/\stack % 16=0)->Pl.gI (fun i=>lF (Pl.gl xs i)) xs stack=(9,0))/\(0<=stack/\stack<=65536/\stack % 16=0->Pl.gI (fun i=>lF (Pl.gl xs i)) xs stack=(0,0))):=fun j q1 q2=>⟨fun q=>Pl.Mx (by rw[hxl];omega) h.e.ok h.st h4 h5 h6 h7 h8 q1 q2 q,fun q=>Pl.Na (by rw[hxl];omega) h.e.ok h.st h4 h5 h6 h7 h8 q1 q2 q⟩
 have m0:=cell_of_row _ _ 0 _ 55 (0,0) h.row
 have i0:=cell_of_row _ _ 0 _ 28 (0,0) hrow;have i1:=cell_of_row _ _ 1 _ 28 (0,0) hrow;have i2:=cell_of_row _ _ 2 _ 28 (0,0) hrow;have i3:=cell_of_row _ _ 3 _ 28 (0,0) hrow
 have r0:=cell_of_row _ _ 0 _ 28 (0,0) h.e.rows.1;have r1:=cell_of_row _ _ 1 _ 28 (0,0) h.e.rows.1;have r2:=cell_of_row _ _ 2 _ 28 (0,0) h.e.rows.1;have r3:=cell_of_row _ _ 3 _ 28 (0,0) h.e.rows.1
 have k0:=cell_of_row _ _ 0 _ 28 (0,0) h.e.rows.2;have k1:=cell_of_row _ _ 1 _ 28 (0,0) h.e.rows.2;have k2:=cell_of_row _ _ 2 _ 28 (0,0) h.e.rows.2;have k3:=cell_of_row _ _ 3 _ 28 (0,0) h.e.rows.2
 simp only[List.getElem?_toArray,List.getElem?_cons_zero,List.getElem?_cons_succ]at m0 i0 i1 i2 i3 r0 r1 r2 r3 k0 k1 k2 k3
 have rf:∀ j,Y.frozen? ⟨w.heap.size,j,none⟩=false:=fun j=>frozen_of_row _ _ j _ 28 h.e.rows.1
 have gf:∀ j,Y.frozen? ⟨g10,j,none⟩=false:=fun j=>frozen_of_row _ _ j _ 28 hrow
 have Np:Hid (Y.heap[g10]?=some (.cells #[.slice a1 n1 y1,.slice a2 n2 y2,.int .i64 0,.int .i64 0] 28 (0,0))):=hrow
 have Jj:Hid (Calls Tryz.prog 26 #[.slice la (Pl.cZ xs len).length lc,.string ⟨#[95,115,116,97,114,116]⟩] Y fun e w'=>e=.returned (.int .i64 (Pl.IP xs (Pl.cZ xs len) Pl.dB))/\w'=Y):=jV _ _ _ xs _ Pl.dB Y h.lb
 have hwl:=Pl.IZ xs Pl.dB
 have Pk:=h.lb
 have HRW:∀ n,(MX (Y.drewN n) w.heap.size).heap[w.heap.size]?=some (.cells #[.slice none 0 0,.slice none 0 0,.int .i64 0,.int .i64 0] 28 (0,0)):=fun n=>rT h.e.rows.1
 have VI:∀ n,Below w.heap.size w (MX (Y.drewN n) w.heap.size):=fun n=>mV (below_drewN h.e.low n)
 have LB:Hid (∀ n,(MX (Y.drewN n) w.heap.size).heap[w.heap.size]?=some (.cells #[.slice none 0 0,.slice none 0 0,.int .i64 0,.int .i64 0] 28 (0,0))):=HRW
 have LC:Hid (∀ n,Below w.heap.size w (MX (Y.drewN n) w.heap.size)):=VI
 have M4:Hid (∀ (n:Nat) (at_:Int),0<=at_/\at_<=4294967296->Calls Tryz.prog 27 #[.slice a1 n1 y1,.int .i64 at_] (Y.drewN n) fun e u'=>e=.returned (.int .i64 (Pl.place n1 at_))/\∃ q,u'=(Y.drewN n).drewN q):=fun n at_ hat=>(zG a1 n1 y1 at_ (by omega) (by omega) _).mono fun e w' hh=>⟨hh.1,0,hh.2⟩
 have Rq:Hid (∀ u:World,Calls Tryz.prog 28 #[.int .i64 stack] u fun e w'=>e=.returned (.bool (decide (0<=stack/\stack<=65536/\stack % 16=0)))/\w'=u):=fun u=>BZ stack u
 rw[hxl]at hwl
 clear h oc od h4 h5 h6 h7 h8 A8 hrow HRW VI
 conv=>arg 2;whnf
 dsimp only
 have hne:w.heap.size+1≠w.heap.size:=by omega
 have hge:g10≠w.heap.size:=by omega
 have Pm:w.heap.size≠g10:=by omega
 rcases hwl with ⟨hw1,hw2⟩ | ⟨p,hp,hw1,hw2⟩
 ·rw[hw1]at Jj
  have Pn:Hid (Pl.gI (fun i=>lF (Pl.gl xs i)) xs stack=(8,0)):=Zp.out (fun j hj=>by rw[hw2]at hj;cases hj)
  clear Pk
  go_upto_region 24 with (go_at_call 26;refine Jj.out.mono ?_;rintro e u9 ⟨rfl,rfl⟩)
  go_quiet (fail)
  go_wp2_with fail
  refine bodyPost_ret (v:=.tuple #[.agg #[.slice none 0 0,.slice none 0 0,.int .i64 0,.int .i64 0],.int .i64 8,.int .i64 0]) (aQ Tryz.results6 _ _ w.heap.size 28 _ (0,0) _ _ _ rfl rfl rfl (LB.out _) Tryz.underlying28 rfl (by kernel_rfl)) rfl (bZ.no Pn.out (by decide) (LC.out _))
 ·rw[hw1]at Jj
  obtain⟨e1,e2,e3,e4⟩:=Pk
  obtain⟨bl,ol,hla,hbl,hc⟩:=e4.resolve_left (by omega)
  subst hla
  obtain⟨d0,d1,d2,d3⟩:=hc p hp
  have hpi:(p:Int)<((Pl.cZ xs len).length:Int):=by omega
  have hpn:¬ (p:Int)<0:=by omega
  have hpd:decide ((p:Int)<0)=false:=decide_eq_false hpn
  have aAg:((Pl.cZ xs len).length:Int)<=20000:=by
   have h2:(Pl.cZ xs len).length<=len:=by unfold Pl.cZ;refine Nat.le_trans (List.length_filter_le _ _) (by simp)
   omega
  generalize (Pl.cZ xs len).getD p 0=j at *
  have hjl:=(Pl.lS.1 hw2).1
  have hb:=hbd j (by omega)
  have HC:Hid (∀ p,p<(Pl.cZ xs len).length->_):=hc
  have hap:Pl.gT xs Pl.dB=(Pl.cu xs j).at:=by unfold Pl.gT;rw[hw2]
  have Ki:Hid (Pl.gT xs Pl.dB=(Pl.cu xs j).at):=hap
  clear hc e1 e2 e3 e4 hap d0 d1
  cases hd:(Pl.cu xs j).d
  ·rw[hd]at d3
   have Jk:(Pl.cu xs j).at=65536+(Pl.cu xs j).t:=by unfold Pl.kV.at;rw[hd];rfl
   rw[Jk]at d2 Ki
   have hat:0<=65536+(Pl.cu xs j).t/\65536+(Pl.cu xs j).t<=4294967296:=by omega
   have Yi:Hid ((Pl.cu xs j).d=false):=hd
   generalize Bg:Pl.cu xs j=cj at *
   have M5:Hid (Pl.cu xs j=cj):=Bg
   by_cases ht:(Pl.cu xs xs.length).t<=cj.t
   ·have Pn:Hid (Pl.gI (fun i=>lF (Pl.gl xs i)) xs stack=(8,0)):=Zp.out (fun j2 hj=>by rw[hw2]at hj;cases hj;rw[M5.out];exact .inr ht)
    have hpl:Pl.place n1 (65536+cj.t)=-1:=by unfold Pl.place;exact if_neg (by omega)
    have Rs:Hid (∀ n:Nat,Calls Tryz.prog 27 #[.slice a1 n1 y1,.int .i64 (65536+cj.t)] (Y.drewN n) fun e u'=>e=.returned (.int .i64 (-1))/\∃ q,u'=(Y.drewN n).drewN q):=fun n=>by rw[<- hpl];exact M4.out n _ hat
    clear Bg hd Jk hpl hw1 hw2 hn1 M3 hll
    go_upto_region 24 with (go_at_call 26;refine Jj.out.mono ?_;rintro e u9 ⟨rfl,rfl⟩)
    go_quiet ((go_at_call 27;exact Calls.quiet_of (Rs.out _)))
    go_wp2_with fail
    refine bodyPost_ret (v:=.tuple #[.agg #[.slice none 0 0,.slice none 0 0,.int .i64 0,.int .i64 0],.int .i64 8,.int .i64 0]) (aQ Tryz.results6 _ _ w.heap.size 28 _ (0,0) _ _ _ rfl rfl rfl (LB.out _) Tryz.underlying28 rfl (by kernel_rfl)) rfl (bZ.no Pn.out (by decide) (LC.out _))
   ·obtain⟨v,hv⟩:∃ v,v=Pl.place n1 (65536+cj.t):=⟨_,rfl⟩
    have hpl:v=cj.t / 4:=by rw[hv];unfold Pl.place;rw[if_pos (by omega)];omega
    have hv0:¬ v<0:=by omega
    have hvd:decide (v<0)=false:=decide_eq_false hv0
    have Rs:Hid (∀ n:Nat,Calls Tryz.prog 27 #[.slice a1 n1 y1,.int .i64 (65536+cj.t)] (Y.drewN n) fun e u'=>e=.returned (.int .i64 v)/\∃ q,u'=(Y.drewN n).drewN q):=fun n=>by rw[hv];exact M4.out n _ hat
    have H9:=H9'.out j hw2 (by rw[M5.out,Yi.out];simp;omega)
    have Zq:Hid _:=H9
    clear Bg hd Jk hpl hv hw1 hw2 H9 hn1 M3 hll
    by_cases hs:0<=stack/\stack<=65536/\stack % 16=0
    ·rw[show decide (0<=stack/\stack<=65536/\stack % 16=0)=true from decide_eq_true hs]at Rq
     go_upto_region 24 with (go_at_call 26;refine Jj.out.mono ?_;rintro e u9 ⟨rfl,rfl⟩)
     go_quiet ((go_at_call 27;exact Calls.quiet_of (Rs.out _)))
     go_wp2_with (go_at_call 28;refine (Rq.out _).mono ?_;rintro e u9 ⟨rfl,rfl⟩)
     have hrg:(u9.drewN nq).heap[g10]?=some (.cells #[.slice a1 n1 y1,.slice a2 n2 y2,.int .i64 0,.int .i64 0] 28 (0,0)):=Np.out
     have hrr:(u9.drewN nq).heap[w.heap.size]?=some (.cells #[.slice none 0 0,.slice none 0 0,.int .i64 0,.int .i64 0] 28 (0,0)):=HL.out.e.rows.1
     have CZ:=keep_other (i:=3) (v:=.int .i64 stack) (keep_other (i:=2) (v:=.int .i64 (65536+cj.t)) hrr Pm) Pm
     refine bodyPost_ret (v:=.tuple #[.agg #[.slice a1 n1 y1,.slice a2 n2 y2,.int .i64 (65536+cj.t),.int .i64 stack],.int .i64 0,.int .i64 0]) (aQ Tryz.results6 _ _ w.heap.size 28 _ (0,0) _ _ _ rfl rfl rfl (AY CZ) Tryz.underlying28 rfl (by kernel_rfl)) rfl ?_
     refine⟨.slice a1 n1 y1,.slice a2 n2 y2,65536+cj.t,stack,by rw[Zq.out.2 hs],?_,fun _=>⟨?_,?_,Ki.out.symm,rfl⟩,fun q=>by rw[Zq.out.2 hs]at q;exact absurd rfl q⟩
     ·have hbw:=below_drewN HL.out.e.low nq
      refine Below.setCell (Below.setCell (Below.setCell (Below.setCell (Below.setCell (Below.setCell hbw (p:=⟨g10,2,none⟩) ?_ _) (p:=⟨g10,3,none⟩) ?_ _) (p:=⟨w.heap.size,0,none⟩) (Nat.le_refl _) _) (p:=⟨w.heap.size,1,none⟩) (Nat.le_refl _) _) (p:=⟨w.heap.size,2,none⟩) (Nat.le_refl _) _) (p:=⟨w.heap.size,3,none⟩) (Nat.le_refl _) _
      all_goals (show w.heap.size<=g10;omega)
     ·exact dD (dD (dD (dD (dD (dD (u:=u9.drewN nq) HO.out.1 hrg (by decide)) (heap_setCell_same _ _ _ _ _ _ hrg) (by decide)) CZ (by decide)) (heap_setCell_same _ _ _ _ _ _ CZ) (by decide)) (heap_setCell_same _ _ _ _ _ _ (heap_setCell_same _ _ _ _ _ _ CZ)) (by decide)) (heap_setCell_same _ _ _ _ _ _ (heap_setCell_same _ _ _ _ _ _ (heap_setCell_same _ _ _ _ _ _ CZ))) (by decide)
     ·exact dD (dD (dD (dD (dD (dD (u:=u9.drewN nq) HO.out.2 hrg (by decide)) (heap_setCell_same _ _ _ _ _ _ hrg) (by decide)) CZ (by decide)) (heap_setCell_same _ _ _ _ _ _ CZ) (by decide)) (heap_setCell_same _ _ _ _ _ _ (heap_setCell_same _ _ _ _ _ _ CZ)) (by decide)) (heap_setCell_same _ _ _ _ _ _ (heap_setCell_same _ _ _ _ _ _ (heap_setCell_same _ _ _ _ _ _ CZ))) (by decide)
    ·rw[show decide (0<=stack/\stack<=65536/\stack % 16=0)=false from decide_eq_false hs]at Rq
     go_upto_region 24 with (go_at_call 26;refine Jj.out.mono ?_;rintro e u9 ⟨rfl,rfl⟩)
     go_quiet ((go_at_call 27;exact Calls.quiet_of (Rs.out _)))
     go_wp2_with (go_at_call 28;refine (Rq.out _).mono ?_;rintro e u9 ⟨rfl,rfl⟩)
     refine bodyPost_ret (v:=.tuple #[.agg #[.slice none 0 0,.slice none 0 0,.int .i64 0,.int .i64 0],.int .i64 9,.int .i64 0]) (aQ Tryz.results6 _ _ w.heap.size 28 _ (0,0) _ _ _ rfl rfl rfl (LB.out _) Tryz.underlying28 rfl (by kernel_rfl)) rfl (bZ.no (Zq.out.1 hs) (by decide) (LC.out _))
  ·rw[hd]at d3
   have Pn:Hid (Pl.gI (fun i=>lF (Pl.gl xs i)) xs stack=(8,0)):=Zp.out (fun j2 hj=>by rw[hw2]at hj;cases hj;exact .inl hd)
   clear hd hw1 hw2
   go_upto_region 24 with (go_at_call 26;refine Jj.out.mono ?_;rintro e u9 ⟨rfl,rfl⟩)
   go_quiet (fail)
   go_wp2_with fail
   refine bodyPost_ret (v:=.tuple #[.agg #[.slice none 0 0,.slice none 0 0,.int .i64 0,.int .i64 0],.int .i64 8,.int .i64 0]) (aQ Tryz.results6 _ _ w.heap.size 28 _ (0,0) _ _ _ rfl rfl rfl (LB.out _) Tryz.underlying28 rfl (by kernel_rfl)) rfl (bZ.no Pn.out (by decide) (LC.out _))
variable {lo:Nat} {xs:List Pl.Ln} {w Y u:World} {a:Option Addr} {len cap:Nat} {g9:Nat} {la:Option Addr} {lc:Nat} {aa:Option Addr} {ac:Nat}
set_option maxRecDepth 100000 in
theorem Ba {stack:Int} {c2 c3 c5 c6 c8 c10 c11 c12 c13 c14 c15 c16 c17 c18 c19 c20 c21 dW c23 c24 dP eP fO c28 eQ eT c31 c32 eU c34 eX eY c37 fP fQ c40 gQ iP iQ iF iG c46 iY iH c49 iI c51 iJ c53 iZ iK iL iM fH c59 fU fV fZ gU c64 jC jX jY jZ kC c70 kI c72 jJ kJ c75 c76 nJ nK nL c80 nM nN nO nP c85 nQ c87 nR nS nT c91 nU c93 nV nW nX nY nZ oC gK gL eZ fA fB c105 fC c107 fD c109 gW gX gY gZ iA iB c116 c117 iC c119 fE fF:Value} (h:uT lo xs w Y a len cap g9 la lc aa ac) (h4:Pl.aV (Pl.twice xs) xs.length=-1) (h5:Pl.aV (Pl.lost xs) xs.length=-1) :
  (Hg 16).wp Tryz.prog (bodyPost Tryz.prog Tryz.f6 (bZ xs stack w)) { tmps:=#[.slice a len cap,.int .i64 stack,c2,c3,.pointer (some ⟨w.heap.size,0,none⟩),c5,c6,.pointer (some ⟨(w.heap.size+1),0,none⟩),c8,.pointer (some ⟨g9,0,none⟩),c10,c11,c12,c13,c14,c15,c16,c17,c18,c19,c20,c21,dW,c23,c24,dP,eP,fO,c28,eQ,eT,c31,c32,eU,c34,eX,eY,c37,fP,fQ,c40,gQ,iP,iQ,iF,iG,c46,iY,iH,c49,iI,c51,iJ,c53,iZ,iK,iL,iM,fH,c59,fU,fV,fZ,gU,c64,jC,jX,jY,jZ,kC,c70,kI,c72,jJ,kJ,c75,c76,nJ,nK,nL,c80,nM,nN,nO,nP,c85,nQ,c87,nR,nS,nT,c91,nU,c93,nV,nW,nX,nY,nZ,oC,gK,gL,eZ,fA,fB,c105,fC,c107,fD,c109,gW,gX,gY,gZ,iA,iB,c116,c117,iC,c119,fE,fF],defers:=[] } Y:=by
 have HL:Hid (uT lo xs w Y a len cap g9 la lc aa ac):=h
 have hxl:=h.e.sD
 have lM:Hid (xs.length=len):=hxl
 have hbd:=Pl.jO xs (fun i hi=>(h.e.known i hi).b) xs.length (Nat.le_refl _)
 have hn:=h.e.n
 have m0:=cell_of_row _ _ 0 _ 55 (0,0) h.row;have m1:=cell_of_row _ _ 1 _ 55 (0,0) h.row;have m2:=cell_of_row _ _ 2 _ 55 (0,0) h.row;have m3:=cell_of_row _ _ 3 _ 55 (0,0) h.row
 have r0:=cell_of_row _ _ 0 _ 28 (0,0) h.e.rows.1;have r1:=cell_of_row _ _ 1 _ 28 (0,0) h.e.rows.1;have r2:=cell_of_row _ _ 2 _ 28 (0,0) h.e.rows.1;have r3:=cell_of_row _ _ 3 _ 28 (0,0) h.e.rows.1
 have k0:=cell_of_row _ _ 0 _ 28 (0,0) h.e.rows.2;have k1:=cell_of_row _ _ 1 _ 28 (0,0) h.e.rows.2;have k2:=cell_of_row _ _ 2 _ 28 (0,0) h.e.rows.2;have k3:=cell_of_row _ _ 3 _ 28 (0,0) h.e.rows.2
 simp only[List.getElem?_toArray,List.getElem?_cons_zero,List.getElem?_cons_succ]at m0 m1 m2 m3 r0 r1 r2 r3 k0 k1 k2 k3
 have rf:∀ j,Y.frozen? ⟨w.heap.size,j,none⟩=false:=fun j=>frozen_of_row _ _ j _ 28 h.e.rows.1
 have HRW:=rT h.e.rows.1
 have VI:=mV h.e.low
 have LB:Hid ((MX Y w.heap.size).heap[w.heap.size]?=some (.cells #[.slice none 0 0,.slice none 0 0,.int .i64 0,.int .i64 0] 28 (0,0))):=HRW
 have LC:Hid (Below w.heap.size w (MX Y w.heap.size)):=VI
 have Jl:Hid (Calls Tryz.prog 25 #[.slice a len cap,.agg #[.slice la (Pl.cZ xs len).length lc,.slice aa len ac,.int .i64 ((Pl.cu xs len).t / 4),.int .i64 (Pl.cu xs len).b]] Y (CS xs Y)):=PN a len cap xs la _ lc aa ac _ _ Y h.e.lines (by rw[h.e.sD];exact h.lb) h.at_ h.e.known h.dU (Pl.dO (by rw[h5];decide)).2 hn
 clear h HRW VI
 rw[hxl]at hbd
 have hq4:(Pl.cu xs len).t=4*((Pl.cu xs len).t / 4):=by omega
 have M6:=fun q=>Pl.Ms (ok:=(fun i=>lF (Pl.gl xs i))) (stack:=stack) (by rw[hxl];omega) HL.out.e.ok HL.out.st h4 h5 q
 have M7:=fun q6 q=>Pl.Mt (ok:=(fun i=>lF (Pl.gl xs i))) (stack:=stack) (by rw[hxl];omega) HL.out.e.ok HL.out.st h4 h5 q6 q
 have M8:=fun q6 q7 q=>Pl.Mv (ok:=(fun i=>lF (Pl.gl xs i))) (stack:=stack) (by rw[hxl];omega) HL.out.e.ok HL.out.st h4 h5 q6 q7 q
 have M9:Hid (Pl.aV (Pl.twice xs) xs.length=-1/\Pl.aV (Pl.lost xs) xs.length=-1):=⟨h4,h5⟩
 have H5':Hid (∀ q,_):=M6
 have H6':Hid (∀ q6 q,_):=M7
 have H7':Hid (∀ q6 q7 q,_):=M8
 clear h4 h5 M6 M7 M8
 obtain⟨q,hq⟩:∃ q,q=(Pl.cu xs len).t / 4:=⟨_,rfl⟩
 obtain⟨b,hb⟩:∃ b,b=(Pl.cu xs len).b:=⟨_,rfl⟩
 rw[<- hq]at m2 Jl hq4
 rw[<- hb]at m3 Jl
 have N8:Hid ((Pl.cu xs xs.length).t=4*q):=by show _=_;rw[lM.out];exact hq4
 have N9:Hid ((Pl.cu xs xs.length).b=b):=by show _=_;rw[lM.out,hb]
 have HQE:Hid (q=(Pl.cu xs len).t / 4):=hq
 have Ra:Hid (b=(Pl.cu xs len).b):=hb
 rw[<- hb]at hbd
 have hq0:0<=q/\q<=100000/\0<=b/\b<=1310720000:=by omega
 clear hq hb hq4 hbd
 have hne:w.heap.size+1≠w.heap.size:=by omega
 conv=>arg 2;whnf
 dsimp only
 by_cases c5:q<1\/16384<q
 ·rcases (show q<1\/(¬ q<1/\16384<q) by omega) with e | ⟨e1,e2⟩
  all_goals
   go_wp2
   refine bodyPost_ret (v:=.tuple #[.agg #[.slice none 0 0,.slice none 0 0,.int .i64 0,.int .i64 0],.int .i64 5,.int .i64 0]) (aQ Tryz.results6 _ _ w.heap.size 28 _ (0,0) _ _ _ rfl rfl rfl LB.out Tryz.underlying28 rfl (by kernel_rfl)) rfl (bZ.no (H5'.out (by rw[N8.out];omega)) (by decide) LC.out)
 have e1:¬ q<1:=by omega
 have e2:¬ 16384<q:=by omega
 have H6:Hid (¬ ((Pl.cu xs xs.length).t=0\/65536<(Pl.cu xs xs.length).t)):=by show ¬ _;rw[N8.out];omega
 by_cases c6:65536<b
 ·go_wp2
  refine bodyPost_ret (v:=.tuple #[.agg #[.slice none 0 0,.slice none 0 0,.int .i64 0,.int .i64 0],.int .i64 6,.int .i64 0]) (aQ Tryz.results6 _ _ w.heap.size 28 _ (0,0) _ _ _ rfl rfl rfl LB.out Tryz.underlying28 rfl (by kernel_rfl)) rfl (bZ.no (H6'.out H6.out (by rw[N9.out];exact c6)) (by decide) LC.out)
 have H7:Hid (¬ 65536<(Pl.cu xs xs.length).b):=by show ¬ _;rw[N9.out];exact c6
 have hzz:w.heap.size+1<Y.heap.size:=block_lt_of_cell k0
 generalize hz:Pl.aV (Pl.dQ xs) xs.length=z at *
 have HZ:Hid (Pl.aV (Pl.dQ xs) xs.length=z):=hz
 unfold CS at Jl
 rw[hz]at Jl
 clear hz
 by_cases c7:0<=z
 ·go_wp2_with (go_at_call 25;refine Jl.out.mono ?_;rintro e u1 ⟨a1,n1,y1,a2,n2,y2,rfl,d1,_⟩; have UX:Hid (qU lo xs w u1 a len cap):=HL.out.e.keep d1;have hs1:=d1.size;have r0:=(fun (o:Obj)=>aF (aB u1 o) (aF d1 r0));have r1:=(fun (o:Obj)=>aF (aB u1 o) (aF d1 r1));have r2:=(fun (o:Obj)=>aF (aB u1 o) (aF d1 r2));have r3:=(fun (o:Obj)=>aF (aB u1 o) (aF d1 r3));have k0:=(fun (o:Obj)=>aF (aB u1 o) (aF d1 k0));have k1:=(fun (o:Obj)=>aF (aB u1 o) (aF d1 k1));have k2:=(fun (o:Obj)=>aF (aB u1 o) (aF d1 k2));have k3:=(fun (o:Obj)=>aF (aB u1 o) (aF d1 k3));have rf:∀ (o:Obj) j,(u1.alloc o).frozen? ⟨w.heap.size,j,none⟩=false:=(fun o j=>frozen_of_row _ _ j _ 28 (UX.out.keep (aB u1 o)).rows.1);clear d1)
  have HU:Hid (qU lo xs w (u1.alloc (.cells #[.slice a1 n1 y1,.slice a2 n2 y2,.int .i64 0,.int .i64 0] 28)) a len cap):=UX.out.keep (aB u1 _)
  refine bodyPost_ret (v:=.tuple #[.agg #[.slice none 0 0,.slice none 0 0,.int .i64 0,.int .i64 0],.int .i64 7,.int .i64 z]) (aQ Tryz.results6 _ _ w.heap.size 28 _ (0,0) _ _ _ rfl rfl rfl (rT HU.out.rows.1) Tryz.underlying28 rfl (by kernel_rfl)) rfl (bZ.no (H7'.out H6.out H7.out c7) (by decide) (mV HU.out.low))
 have H8:Hid (Pl.aV (Pl.dQ xs) xs.length=-1):=(Pl.dO (by rw[HZ.out];exact c7)).1
 have hz1:z=-1:=by rw[<- HZ.out];exact H8.out
 have aAh:Hid _:=Jl
 go_upto_region 21 with (go_at_call 25;refine Jl.out.mono ?_;rintro e u1 ⟨a1,n1,y1,a2,n2,y2,rfl,d1,hfin⟩; have vT:Hid _:=hfin hz1;have HD1:Hid (Below Y.heap.size Y u1):=d1;have hs1:=d1.size;clear d1 hfin)
 rename_i Ka hKa Kb hKb
 have Po:Hid _:=hKa
 clear hKa
 go_wp2_with fail
 refine Po.out _ _ ?_
 have HLk:=(HL.out.keep HD1.out).keep (aB u1 (.cells #[.slice a1 n1 y1,.slice a2 n2 y2,.int .i64 0,.int .i64 0] 28))
 have hYs:w.heap.size+2<=Y.heap.size:=by have:=HL.out.e.gP.size;rw[lT]at this;exact this
 refine Az (g10:=u1.heap.size) HLk (bL rfl) (by omega) ((tX vT.out.1 (by omega)).alloc _) ((tX vT.out.2 (by omega)).alloc _) M9.out.1 M9.out.2 (by have:=H6.out;omega) (by have:=H7.out;omega) H8.out
variable {lo:Nat} {xs:List Pl.Ln} {w Y u:World} {a:Option Addr} {len cap:Nat}
set_option maxRecDepth 100000 in
theorem Jm {stack:Int} {c2 c3 c5 c6 c8 c9 c10 c11 c12 c13 c14 c15 c16 c17 c18 c19 c20 c21 dW c23 c24 dP eP fO c28 eQ eT c31 c32 eU c34 eX eY c37 fP fQ c40 gQ iP iQ iF iG c46 iY iH c49 iI c51 iJ c53 iZ iK iL iM fH c59 fU fV fZ gU c64 jC jX jY jZ kC c70 kI c72 jJ kJ c75 c76 nJ nK nL c80 nM nN nO nP c85 nQ c87 nR nS nT c91 nU c93 nV nW nX nY nZ oC gK gL eZ fA fB c105 fC c107 fD c109 gW gX gY gZ iA iB c116 c117 iC c119 fE fF:Value} (h:qU lo xs w Y a len cap):(Hg 9).wp Tryz.prog (bodyPost Tryz.prog Tryz.f6 (bZ xs stack w)) { tmps:=#[.slice a len cap,.int .i64 stack,c2,c3,.pointer (some ⟨w.heap.size,0,none⟩),c5,c6,.pointer (some ⟨(w.heap.size+1),0,none⟩),c8,c9,c10,c11,c12,c13,c14,c15,c16,c17,c18,c19,c20,c21,dW,c23,c24,dP,eP,fO,c28,eQ,eT,c31,c32,eU,c34,eX,eY,c37,fP,fQ,c40,gQ,iP,iQ,iF,iG,c46,iY,iH,c49,iI,c51,iJ,c53,iZ,iK,iL,iM,fH,c59,fU,fV,fZ,gU,c64,jC,jX,jY,jZ,kC,c70,kI,c72,jJ,kJ,c75,c76,nJ,nK,nL,c80,nM,nN,nO,nP,c85,nQ,c87,nR,nS,nT,c91,nU,c93,nV,nW,nX,nY,nZ,oC,gK,gL,eZ,fA,fB,c105,fC,c107,fD,c109,gW,gX,gY,gZ,iA,iB,c116,c117,iC,c119,fE,fF],defers:=[] } Y:=by
 have HE:Hid (qU lo xs w Y a len cap):=h
 have hxl:=h.sD
 have lM:Hid (xs.length=len):=hxl
 have hn:=h.n
 have hmx:Pl.aV (Pl.mixed xs) xs.length=Pl.aV (Pl.dU xs) xs.length:=Pl.DZ fun j hj=>Pl.EA xs j hj (h.known j hj).b
 obtain⟨z2,hz2⟩:∃ z,z=Pl.aV (Pl.dU xs) xs.length:=⟨_,rfl⟩
 have HM:Hid (∀ n:Nat,Calls Tryz.prog 21 #[.slice a len cap] (Y.drewN n) fun e w'=>e=.returned (.int .i64 z2)/\w'=Y.drewN n):=fun n=>by rw[hz2,<- hmx];exact JL a len cap xs _ (h.keep (below_drewN (Below.refl _ _) n)).lines
 have A2:=fun q=>Pl.Mo (ok:=(fun i=>lF (Pl.gl xs i))) (stack:=stack) (xs:=xs) (by omega) h.ok q
 rw[<- hz2]at A2
 have HA2:Hid (0<=z2->_):=A2
 have HZ2:Hid (z2=Pl.aV (Pl.dU xs) xs.length):=hz2
 have HLEN:Hid (xs.length<=20000):=by show _<=_;omega
 clear h hmx hz2 A2
 conv=>arg 2;whnf
 dsimp only
 by_cases c2:0<=z2
 ·go_upto_region 10 with (go_at_call 21;refine (HM.out 0).mono ?_;rintro e u1 ⟨rfl,he1⟩; have he2:u1=Y:=he1;subst he2;clear he1)
  refine Nb w.heap.size (w.heap.size+1) 0 a len cap none 0 0 z2 _ HE.out.rows.2 HE.out.rows.1 ((HM.out 1).mono fun e w' hh=>⟨hh.1,by rw[hh.2];exact Below.refl _ _⟩) ?_
  intro w1 hw1
  have UX:Hid (qU lo xs w w1 a len cap):=HE.out.keep hw1
  clear hw1
  go_wp2_with fail
  refine bodyPost_ret (v:=.tuple #[.agg #[.slice none 0 0,.slice none 0 0,.int .i64 0,.int .i64 0],.int .i64 2,.int .i64 z2]) (aQ Tryz.results6 _ _ w.heap.size 28 _ (0,0) _ _ _ rfl rfl rfl (rT UX.out.rows.1) Tryz.underlying28 rfl (by kernel_rfl)) rfl (bZ.no (HA2.out c2) (by decide) (mV UX.out.low))
 have hc2:z2=-1:=by rw[HZ2.out]at c2 ⊢; exact (Pl.dO c2).1
 have HST:Hid (Pl.aV (Pl.dU xs) xs.length=-1):=by show _=_;rw[<- HZ2.out];exact hc2
 rw[hc2]at HM
 have Rt:Hid (Calls Tryz.prog 22 #[.slice a len cap] Y (CO xs len Y)):=SK a len cap xs Y HE.out.lines (fun i hi=>(HE.out.known i hi).b) (Pl.dO (by rw[HST.out];decide)).2 hn
 unfold CO at Rt
 obtain⟨z3,hz3⟩:∃ z,z=Pl.aV (Pl.twice xs) xs.length:=⟨_,rfl⟩
 obtain⟨z4,ZA⟩:∃ z,z=Pl.aV (Pl.lost xs) xs.length:=⟨_,rfl⟩
 have HZ3:Hid (Pl.Jy xs (Pl.cZ xs len)=z3):=by show _=_;rw[hz3,<- Pl.OL,lM.out]
 have Kl:Hid (Pl.aV (Pl.Bh xs (Pl.cZ xs len)) xs.length=z4):=by
  show _=_
  rw[ZA]
  refine Pl.DZ fun j hj=>?_
  have:=Pl.RX xs j hj
  rw[lM.out]at this
  exact this
 have HA3:Hid (0<=z3->Pl.gI (fun i=>lF (Pl.gl xs i)) xs stack=(3,z3)):=fun q=>by rw[hz3]at q ⊢; exact Pl.Mq HLEN.out HE.out.ok HST.out q
 have HA4:Hid (z3=-1->0<=z4->Pl.gI (fun i=>lF (Pl.gl xs i)) xs stack=(4,z4)):=fun q3 q=>by rw[hz3]at q3;rw[ZA]at q ⊢; exact Pl.Mr HLEN.out HE.out.ok HST.out q3 q
 have Pp:Hid (z3=Pl.aV (Pl.twice xs) xs.length):=hz3
 have Pq:Hid (z4=Pl.aV (Pl.lost xs) xs.length):=ZA
 clear hz3 ZA hxl c2 HA2 HZ2 hc2
 have MIX:Hid True:=trivial
 by_cases c3:0<=z3
 ·go_upto_region 13 with (first | (go_at_call 21;refine (HM.out 0).mono ?_;rintro e u1 ⟨rfl,he1⟩; have he2:u1=Y:=he1;subst he2;clear he1) | (go_at_call 22;refine Rt.out.mono ?_;rintro e u2 hls;obtain⟨la,lc,aa,ac,he,hlb,hat,hbe⟩:=hls;subst he;have UR:Hid (uT lo xs w (u2.alloc (.cells #[.slice la (Pl.cZ xs len).length lc,.slice aa len ac,.int .i64 ((Pl.cu xs len).t / 4),.int .i64 (Pl.cu xs len).b] 55)) a len cap u2.heap.size la lc aa ac):=⟨(HE.out.keep hbe).keep (aB _ _),bL rfl,hlb.keep (aB _ _),hat.keep (aB _ _),HST.out⟩; have GK:Hid (Calls Tryz.prog 23 #[.slice la (Pl.cZ xs len).length lc] (u2.alloc (.cells #[.slice la (Pl.cZ xs len).length lc,.slice aa len ac,.int .i64 ((Pl.cu xs len).t / 4),.int .i64 (Pl.cu xs len).b] 55)) fun e w'=>e=.returned (.int .i64 z3)/\Below (u2.alloc (.cells #[.slice la (Pl.cZ xs len).length lc,.slice aa len ac,.int .i64 ((Pl.cu xs len).t / 4),.int .i64 (Pl.cu xs len).b] 55)).heap.size (u2.alloc (.cells #[.slice la (Pl.cZ xs len).length lc,.slice aa len ac,.int .i64 ((Pl.cu xs len).t / 4),.int .i64 (Pl.cu xs len).b] 55)) w'):=(by rw[<- HZ3.out];exact rO _ _ _ xs _ _ UR.out.lb);clear hlb hat hbe) | (go_at_call 23;refine GK.out.mono ?_;rintro e u3 ⟨rfl,d3⟩; have DC:Hid (uT lo xs w u3 a len cap u2.heap.size la lc aa ac):=UR.out.keep d3;have Ru:u3.cell? ⟨u2.heap.size,0,none⟩=some (.slice la (Pl.cZ xs len).length lc):=cell_of_row _ _ 0 _ 55 (0,0) DC.out.row;have Aq:Hid (∀ n:Nat,Calls Tryz.prog 24 #[.slice a len cap,.slice la (Pl.cZ xs len).length lc] (u3.drewN n) fun e w'=>e=.returned (.int .i64 z4)/\w'=u3.drewN n):=(fun n=>by rw[<- Kl.out];exact vY a len cap xs la _ lc _ _ (DC.out.keep (below_drewN (Below.refl _ _) n)).e.lines (DC.out.keep (below_drewN (Below.refl _ _) n)).lb);clear d3))
  refine Nc w.heap.size (w.heap.size+1) u2.heap.size a len cap la _ lc z3 u3 DC.out.e.rows.2 DC.out.e.rows.1 Ru ((by rw[<- HZ3.out];exact rO _ _ _ xs _ _ (DC.out.keep (Below.drew (Below.refl _ _))).lb)) ?_
  intro w1 hw1
  have UX:Hid (qU lo xs w w1 a len cap):=DC.out.e.keep hw1
  clear hw1
  go_wp2_with fail
  refine bodyPost_ret (v:=.tuple #[.agg #[.slice none 0 0,.slice none 0 0,.int .i64 0,.int .i64 0],.int .i64 3,.int .i64 z3]) (aQ Tryz.results6 _ _ w.heap.size 28 _ (0,0) _ _ _ rfl rfl rfl (rT UX.out.rows.1) Tryz.underlying28 rfl (by kernel_rfl)) rfl (bZ.no (HA3.out c3) (by decide) (mV UX.out.low))
 have hc3:z3=-1:=by rw[Pp.out]at c3 ⊢; exact (Pl.dO c3).1
 have HC3:Hid (z3=-1):=hc3
 have H3:Hid (Pl.aV (Pl.twice xs) xs.length=-1):=by show _=_;rw[<- Pp.out];exact hc3
 by_cases c4:0<=z4
 ·clear hc3
  go_upto_region 15 with (first | (go_at_call 21;refine (HM.out 0).mono ?_;rintro e u1 ⟨rfl,he1⟩; have he2:u1=Y:=he1;subst he2;clear he1) | (go_at_call 22;refine Rt.out.mono ?_;rintro e u2 hls;obtain⟨la,lc,aa,ac,he,hlb,hat,hbe⟩:=hls;subst he;have UR:Hid (uT lo xs w (u2.alloc (.cells #[.slice la (Pl.cZ xs len).length lc,.slice aa len ac,.int .i64 ((Pl.cu xs len).t / 4),.int .i64 (Pl.cu xs len).b] 55)) a len cap u2.heap.size la lc aa ac):=⟨(HE.out.keep hbe).keep (aB _ _),bL rfl,hlb.keep (aB _ _),hat.keep (aB _ _),HST.out⟩; have GK:Hid (Calls Tryz.prog 23 #[.slice la (Pl.cZ xs len).length lc] (u2.alloc (.cells #[.slice la (Pl.cZ xs len).length lc,.slice aa len ac,.int .i64 ((Pl.cu xs len).t / 4),.int .i64 (Pl.cu xs len).b] 55)) fun e w'=>e=.returned (.int .i64 z3)/\Below (u2.alloc (.cells #[.slice la (Pl.cZ xs len).length lc,.slice aa len ac,.int .i64 ((Pl.cu xs len).t / 4),.int .i64 (Pl.cu xs len).b] 55)).heap.size (u2.alloc (.cells #[.slice la (Pl.cZ xs len).length lc,.slice aa len ac,.int .i64 ((Pl.cu xs len).t / 4),.int .i64 (Pl.cu xs len).b] 55)) w'):=(by rw[<- HZ3.out];exact rO _ _ _ xs _ _ UR.out.lb);clear hlb hat hbe) | (go_at_call 23;refine GK.out.mono ?_;rintro e u3 ⟨rfl,d3⟩; have DC:Hid (uT lo xs w u3 a len cap u2.heap.size la lc aa ac):=UR.out.keep d3;have Ru:u3.cell? ⟨u2.heap.size,0,none⟩=some (.slice la (Pl.cZ xs len).length lc):=cell_of_row _ _ 0 _ 55 (0,0) DC.out.row;have Aq:Hid (∀ n:Nat,Calls Tryz.prog 24 #[.slice a len cap,.slice la (Pl.cZ xs len).length lc] (u3.drewN n) fun e w'=>e=.returned (.int .i64 z4)/\w'=u3.drewN n):=(fun n=>by rw[<- Kl.out];exact vY a len cap xs la _ lc _ _ (DC.out.keep (below_drewN (Below.refl _ _) n)).e.lines (DC.out.keep (below_drewN (Below.refl _ _) n)).lb);clear d3) | (go_at_call 24;refine (Aq.out 0).mono ?_;rintro e u4 ⟨rfl,Ps⟩; have Zr:u4=u3:=Ps;subst Zr;clear Ps))
  refine Nf w.heap.size (w.heap.size+1) u2.heap.size a len cap la _ lc z4 _ DC.out.e.rows.2 DC.out.e.rows.1 Ru ((Aq.out 1).mono fun e w' hh=>⟨hh.1,by rw[hh.2];exact Below.refl _ _⟩) ?_
  intro w1 hw1
  have UX:Hid (qU lo xs w w1 a len cap):=DC.out.e.keep hw1
  clear hw1
  go_wp2_with fail
  refine bodyPost_ret (v:=.tuple #[.agg #[.slice none 0 0,.slice none 0 0,.int .i64 0,.int .i64 0],.int .i64 4,.int .i64 z4]) (aQ Tryz.results6 _ _ w.heap.size 28 _ (0,0) _ _ _ rfl rfl rfl (rT UX.out.rows.1) Tryz.underlying28 rfl (by kernel_rfl)) rfl (bZ.no (HA4.out HC3.out c4) (by decide) (mV UX.out.low))
 have hc4:z4=-1:=by rw[Pq.out]at c4 ⊢; exact (Pl.dO c4).1
 have H4:Hid (Pl.aV (Pl.lost xs) xs.length=-1):=by show _=_;rw[<- Pq.out];exact hc4
 clear hc3 hc4
 go_upto_region 14 with (first | (go_at_call 21;refine (HM.out 0).mono ?_;rintro e u1 ⟨rfl,he1⟩; have he2:u1=Y:=he1;subst he2;clear he1) | (go_at_call 22;refine Rt.out.mono ?_;rintro e u2 hls;obtain⟨la,lc,aa,ac,he,hlb,hat,hbe⟩:=hls;subst he;have UR:Hid (uT lo xs w (u2.alloc (.cells #[.slice la (Pl.cZ xs len).length lc,.slice aa len ac,.int .i64 ((Pl.cu xs len).t / 4),.int .i64 (Pl.cu xs len).b] 55)) a len cap u2.heap.size la lc aa ac):=⟨(HE.out.keep hbe).keep (aB _ _),bL rfl,hlb.keep (aB _ _),hat.keep (aB _ _),HST.out⟩; have GK:Hid (Calls Tryz.prog 23 #[.slice la (Pl.cZ xs len).length lc] (u2.alloc (.cells #[.slice la (Pl.cZ xs len).length lc,.slice aa len ac,.int .i64 ((Pl.cu xs len).t / 4),.int .i64 (Pl.cu xs len).b] 55)) fun e w'=>e=.returned (.int .i64 z3)/\Below (u2.alloc (.cells #[.slice la (Pl.cZ xs len).length lc,.slice aa len ac,.int .i64 ((Pl.cu xs len).t / 4),.int .i64 (Pl.cu xs len).b] 55)).heap.size (u2.alloc (.cells #[.slice la (Pl.cZ xs len).length lc,.slice aa len ac,.int .i64 ((Pl.cu xs len).t / 4),.int .i64 (Pl.cu xs len).b] 55)) w'):=(by rw[<- HZ3.out];exact rO _ _ _ xs _ _ UR.out.lb);clear hlb hat hbe) | (go_at_call 23;refine GK.out.mono ?_;rintro e u3 ⟨rfl,d3⟩; have DC:Hid (uT lo xs w u3 a len cap u2.heap.size la lc aa ac):=UR.out.keep d3;have Ru:u3.cell? ⟨u2.heap.size,0,none⟩=some (.slice la (Pl.cZ xs len).length lc):=cell_of_row _ _ 0 _ 55 (0,0) DC.out.row;have Aq:Hid (∀ n:Nat,Calls Tryz.prog 24 #[.slice a len cap,.slice la (Pl.cZ xs len).length lc] (u3.drewN n) fun e w'=>e=.returned (.int .i64 z4)/\w'=u3.drewN n):=(fun n=>by rw[<- Kl.out];exact vY a len cap xs la _ lc _ _ (DC.out.keep (below_drewN (Below.refl _ _) n)).e.lines (DC.out.keep (below_drewN (Below.refl _ _) n)).lb);clear d3))
 rename_i Ka hKa Kb hKb
 have Po:Hid _:=hKa
 clear hKa
 go_wp2_with (go_at_call 24;refine (Aq.out 0).mono ?_;rintro e u4 ⟨rfl,Ps⟩; have Zr:u4=u3:=Ps;subst Zr;clear Ps)
 refine Po.out _ _ ?_
 exact Ba DC.out H3.out H4.out
set_option maxRecDepth 100000 in
theorem LD (a:Option Addr) (len cap:Nat) (xs:List Pl.Ln) (stack:Int) (w:World) (h:jE lo w a len cap xs):Calls Tryz.prog 6 #[.slice a len cap,.int .i64 stack] w (bZ xs stack w):=by
 have H:Hid (jE lo w a len cap xs):=h
 obtain⟨hL,hm⟩:=h.len
 have lM:Hid (xs.length=len):=hL
 have c0:∀ j,(DJ w).cell? ⟨w.heap.size,j,none⟩=(#[.slice none 0 0,.slice none 0 0,.int .i64 0,.int .i64 0]:Array Value)[j]?:=fun j=>(Below.cell (aB _ _) (p:=⟨w.heap.size,j,none⟩) (by simp)).trans (cell_of_row _ _ j _ 28 (0,0) (heap_alloc_new w _))
 clear h hL
 by_cases hn:20000<len
 ·have hi:(20000:Int)<(len:Int):=by omega
  have HB:Hid (Below w.heap.size w (DJ w)):=uA w
  go_enter Tryz.func6,Tryz.ntmps6
  go_wp2
  refine bodyPost_ret (v:=.tuple #[.agg #[.slice none 0 0,.slice none 0 0,.int .i64 0,.int .i64 0],.int .i64 1,.int .i64 20000]) (aQ Tryz.results6 _ _ w.heap.size 28 _ (0,0) _ _ _ rfl rfl rfl ((Below.heap_alloc _ _ _ (by simp)).trans (heap_alloc_new w _)) Tryz.underlying28 rfl (by kernel_rfl)) rfl (bZ.no (Pl.Bp (by rw[lM.out];exact hn)) (by decide) HB.out)
 have hi:¬ (20000:Int)<(len:Int):=by omega
 have VF:Hid ((DJ w).heap.size=w.heap.size+2):=lT w
 go_enter Tryz.func6,Tryz.ntmps6
 go_wp2_with fail
 rename_i Ka hKa
 have Po:Hid _:=hKa
 clear hKa
 go_loopw [8] (fun i wr=>∃ k:Nat,k<=len/\i=.int .i64 k/\(∀ j,j<k->(!lF (Pl.gl xs j))=false)/\Below (DJ w).heap.size (DJ w) wr) (fun i _=>len-(intOf i).toNat)
 case atStart=>exact⟨0,Nat.zero_le _,rfl,fun j hj=>absurd hj (Nat.not_lt_zero _),Below.refl _ _⟩
 case round=>
  obtain⟨k,hk,rfl,hall,hbel⟩:=hrel
  have HA:Hid (∀ j,j<k->(!lF (Pl.gl xs j))=false):=hall
  have HB:Hid (Below (DJ w).heap.size (DJ w) wr):=hbel
  have Ec:Hid (Below w.heap.size w wr):=(uA w).trans (hbel.mono (by rw[lT];omega))
  clear hall
  by_cases hlt:k<len
  ·have hki:(k:Int)<(len:Int):=by omega
   obtain⟨b,off,wH,hlo,hb1,hsz,z0,z1,z2,z3,z4,z5,z6,z7⟩:=(H.out.keep Ec.out).at k hlt
   subst wH
   have HO:Hid (∀ u:World,Calls Tryz.prog 20 #[.agg #[.int .i64 (Pl.gl xs k).k,.int .i64 (Pl.gl xs k).op,.int .i64 (Pl.gl xs k).rd,.int .i64 (Pl.gl xs k).r1,.int .i64 (Pl.gl xs k).r2,.int .i64 (Pl.gl xs k).im,.string (Pl.gl xs k).s,.int .i64 (Pl.gl xs k).n]] u fun e w'=>e=.returned (.bool (lF (Pl.gl xs k)))/\Below u.heap.size u w'):=fun u=>AX _ u
   generalize hok:lF (Pl.gl xs k)=ok at *
   have VD:Hid (lF (Pl.gl xs k)=ok):=hok
   clear hok hbel hsz
   generalize hgx:Pl.gl xs k=x at *
   have sU:Hid (Pl.gl xs k=x):=hgx
   clear hgx
   cases ok
   ·have HR1:Hid (∀ u,Below wr.heap.size wr u->Below (DJ w).heap.size (DJ w) u):=fun u hu=>HB.out.trans (hu.mono HB.out.size)
    go_wp2_with (go_at_call 20;refine (HO.out _).mono ?_;rintro e u1 ⟨rfl,d1⟩; have Rv:=HR1.out _ d1;have Zt:Hid (Below (DJ w).heap.size (DJ w) u1):=Rv;have hrw:u1.heap[w.heap.size]?=some (.cells #[.slice none 0 0,.slice none 0 0,.int .i64 0,.int .i64 0] 28 (0,0)):=(Rv.block _ (by rw[lT];omega)).trans ((Below.heap_alloc _ _ _ (by simp)).trans (heap_alloc_new w _));have Pt:u1.heap[w.heap.size+1]?=some (.cells #[.slice none 0 0,.slice none 0 0,.int .i64 0,.int .i64 0] 28 (0,0)):=(Rv.block _ (by rw[lT];omega)).trans (bL (by simp));have r0:=cell_of_row _ _ 0 _ 28 (0,0) hrw;have r1:=cell_of_row _ _ 1 _ 28 (0,0) hrw;have r2:=cell_of_row _ _ 2 _ 28 (0,0) hrw;have r3:=cell_of_row _ _ 3 _ 28 (0,0) hrw;have k0:=cell_of_row _ _ 0 _ 28 (0,0) Pt;have k1:=cell_of_row _ _ 1 _ 28 (0,0) Pt;have k2:=cell_of_row _ _ 2 _ 28 (0,0) Pt;have k3:=cell_of_row _ _ 3 _ 28 (0,0) Pt;have rf:∀ j,u1.frozen? ⟨w.heap.size,j,none⟩=false:=(fun j=>frozen_of_row _ _ j _ 28 hrw);have HRW:Hid (u1.heap[w.heap.size]?=some (.cells #[.slice none 0 0,.slice none 0 0,.int .i64 0,.int .i64 0] 28 (0,0))):=hrw;clear Rv hrw Pt d1)
    have hf:=Pl.kS (fun i=>!lF (Pl.gl xs i)) xs.length k (by rw[lM.out];exact hlt) (by show (!lF (Pl.gl xs k))=true;rw[sU.out,VD.out];rfl) HA.out
    refine bodyPost_ret (v:=.tuple #[.agg #[.slice none 0 0,.slice none 0 0,.int .i64 0,.int .i64 0],.int .i64 1,.int .i64 (k:Nat)]) (aQ Tryz.results6 _ _ w.heap.size 28 _ (0,0) _ _ _ rfl rfl rfl (rT HRW.out) Tryz.underlying28 rfl (by kernel_rfl)) rfl (bZ.no (by rw[<- hf];exact Pl.Bq (by rw[lM.out];omega) (by rw[hf];omega)) (by decide) (mV ((uA w).trans (Zt.out.mono (by rw[lT];omega)))))
   ·go_wp2_with (go_at_call 20;refine (HO.out _).mono ?_;rintro e u1 ⟨rfl,d1⟩; have Zt:Hid (Below (DJ w).heap.size (DJ w) u1):=HB.out.trans (d1.mono HB.out.size);clear d1)
    exact⟨⟨k+1,hlt,by go_num,Pl.gJ (p:=fun j=>!lF (Pl.gl xs j)) HA.out (by show (!lF (Pl.gl xs k))=false;rw[sU.out,VD.out];rfl),Zt.out⟩,by simp[intOf];omega⟩
  ·have hki:¬ (k:Int)<(len:Int):=by omega
   have hkk:k=len:=by omega
   have XO:Hid (k=len):=hkk
   clear hkk hbel
   go_wp2
   refine Po.out _ _ ?_
   exact Jm ⟨HB.out,H.out,Pl.iV _ _ (fun j hj=>HA.out j (by rw[XO.out,<- lM.out];exact hj)),by omega⟩
def Pv (lo:Nat) (w:World) (a:Option Addr) (len:Nat) (xs:List Pl.Ln):Prop:=
 (xs.length=len/\∀ x∈xs,x.s.size<=maxLen)/\len<=maxLen/\∃ b,a=some ⟨b,0,none⟩/\lo<=b/\b<w.heap.size/\(∀ i,w.frozen? ⟨b,i,none⟩=false)/\∀ i,i<len->∀ j,j<8->w.cell? ⟨b,i*8+j,none⟩=(xs.getD i Pl.Ln.zero).cells[j]?
theorem Pv.row {lo:Nat} {w:World} {a:Option Addr} {len:Nat} {xs:List Pl.Ln} (h:Pv lo w a len xs):jE lo w a len len xs:=by
 obtain⟨h1,h2,b,ha,hlo,hlt,_,hc⟩:=h
 exact⟨h1,Nat.le_refl _,h2,.inr ⟨b,0,ha,hlo,hlt,fun i hi j hj=>by rw[Nat.zero_add];exact hc i hi j hj⟩⟩
theorem LF {u:World} {p q:Addr} {v:Value} (h:(u.cell? q).isSome=true):((u.setCell p v).cell? q).isSome=true:=by
 obtain⟨x,hx⟩:=Option.isSome_iff_exists.1 h
 obtain⟨y,hy⟩:=cell?_setCell_some (p:=p) (x:=v) hx
 rw[hy];rfl
structure oQ (g:Nat) (w w':World):Prop where
 os:w'.os=w.os
 tape:w'.tape=w.tape
 output:w'.output=w.output
 size:w.heap.size<=w'.heap.size
 block:∀ k,k<w.heap.size->k≠g->w'.heap[k]?=w.heap[k]?
theorem oQ.refl (g:Nat) (w:World):oQ g w w:=⟨rfl,rfl,rfl,Nat.le_refl _,fun _ _ _=>rfl⟩
theorem oQ.setCell {g:Nat} {w u:World} (h:oQ g w u) (i:Nat) (x:Value):oQ g w (u.setCell ⟨g,i,none⟩ x):=
 ⟨h.os,h.tape,h.output,by simpa using h.size,fun k hk hg=>(Below.heap_setCell u ⟨g,i,none⟩ x k hg).trans (h.block k hk hg)⟩
theorem oQ.below {g:Nat} {w u v:World} (h:oQ g w u) (d:Below u.heap.size u v):oQ g w v:=
 ⟨d.os.trans h.os,d.tape.trans h.tape,d.output.trans h.output,Nat.le_trans h.size d.size,fun k hk hg=>(d.block k (Nat.lt_of_lt_of_le hk h.size)).trans (h.block k hk hg)⟩
structure IJ (g n:Nat) (u:World):Prop where
 lt:g<u.heap.size
 frozen:∀ q,u.frozen? ⟨g,q,none⟩=false
 some:∀ q,q<n->(u.cell? ⟨g,q,none⟩).isSome=true
theorem IJ.setCell {g n:Nat} {u:World} (h:IJ g n u) (i:Nat) (x:Value):IJ g n (u.setCell ⟨g,i,none⟩ x):=
 ⟨by simpa using h.lt,fun q=>by rw[World.frozen?_setCell];exact h.frozen q,fun q hq=>LF (h.some q hq)⟩
theorem IJ.below {g n:Nat} {u v:World} (h:IJ g n u) (d:Below u.heap.size u v):IJ g n v:=
 ⟨Nat.lt_of_lt_of_le h.lt d.size,fun q=>(d.frozen (p:=⟨g,q,none⟩) h.lt).trans (h.frozen q),fun q hq=>by rw[d.cell (p:=⟨g,q,none⟩) h.lt];exact h.some q hq⟩
theorem IJ.cell {g n:Nat} {u:World} (h:IJ g n u) {q:Nat} (hq:q<n):∃ y,u.cell? ⟨g,q,none⟩=.some y:=Option.isSome_iff_exists.1 (h.some q hq)
end Go.Proofs.YtlbomnnldkeocaaGreat.W
namespace Go.Proofs.YtlbomnnldkeocaaGreat.Pl
theorem vQ {ok:Nat->Bool} {xs:List Ln} {stack:Int} (h:(gI ok xs stack).1=0):xs.length<=20000/\(∀ i,i<xs.length->ok i=true)/\(∀ i,i<xs.length->dU xs i=false)/\(cu xs xs.length).t<=65536/\(cu xs xs.length).b<=65536:=by
 unfold gI at h
 by_cases h1:20000<xs.length
 ·rw[if_pos h1]at h;exact absurd h (show ¬ (1:Int)=0 by decide)
 rw[if_neg h1]at h
 by_cases h2:0<=aV (fun i=>!ok i) xs.length
 ·rw[if_pos h2]at h;exact absurd h (show ¬ (1:Int)=0 by decide)
 rw[if_neg h2]at h
 by_cases h3:0<=aV (dU xs) xs.length
 ·rw[if_pos h3]at h;exact absurd h (show ¬ (2:Int)=0 by decide)
 rw[if_neg h3]at h
 by_cases h4:0<=aV (twice xs) xs.length
 ·rw[if_pos h4]at h;exact absurd h (show ¬ (3:Int)=0 by decide)
 rw[if_neg h4]at h
 by_cases h5:0<=aV (lost xs) xs.length
 ·rw[if_pos h5]at h;exact absurd h (show ¬ (4:Int)=0 by decide)
 rw[if_neg h5]at h
 by_cases h6:(cu xs xs.length).t=0\/65536<(cu xs xs.length).t
 ·rw[if_pos h6]at h;exact absurd h (show ¬ (5:Int)=0 by decide)
 rw[if_neg h6]at h
 by_cases h7:65536<(cu xs xs.length).b
 ·rw[if_pos h7]at h;exact absurd h (show ¬ (6:Int)=0 by decide)
 refine⟨by omega,fun i hi=>?_,fun i hi=>(dO h3).2 i hi,by omega,by omega⟩
 have:=(dO h2).2 i hi
 simpa using this
theorem Jn (v:Int) (n:Nat):∀ x∈nD v n,0<=x/\x<=255:=by
 intro x hx
 unfold nD at hx
 obtain⟨i,_,rfl⟩:=List.mem_map.1 hx
 omega
theorem UY (xs:List Ln) (m:Nat):∀ x∈aH xs m,0<=x/\x<=255:=by
 intro x hx
 unfold aH at hx
 obtain⟨i,_,hi⟩:=List.mem_flatMap.1 hx
 unfold dat at hi
 split at hi
 ·have:=(List.mem_replicate.1 hi).2;omega
 ·split at hi
  ·exact Jn _ _ x hi
  ·cases hi
end Go.Proofs.YtlbomnnldkeocaaGreat.Pl
namespace Go.Proofs.YtlbomnnldkeocaaGreat.W
open Go.RowKit
theorem Jo (x:Pl.Ins):0<=bI x/\bI x<=1099511627776:=by
 unfold bI
 split
 ·rename_i h
  obtain⟨k,hk,h1,h2⟩:=xL h
  have hok:Pl.okF (Pl.dC x.op.toNat) x.rd x.r1 x.r2 x.im=true:=by
   unfold Pl.Ins.ok at h;rw[Bool.and_eq_true]at h;exact h.2
  have e:x.op.toNat=k:=by omega
  rw[e]at hok ⊢
  obtain⟨g0,g1,g2,g3⟩:=Pl.oW hok
  obtain⟨a1,a2,_⟩:=Pl.lX g0
  obtain⟨b1,b2,_⟩:=Pl.lX g1
  obtain⟨c1,c2,_⟩:=Pl.lX g2
  obtain⟨f1,f2,_⟩:=Pl.qW k (by omega) h1
  obtain⟨i1,i2⟩:=Pl.RF _ f1 f2 x.im
  obtain⟨p0,q0⟩:=Pl.fI k (by omega) 0 (by omega)
  obtain⟨p1,q1⟩:=Pl.fI k (by omega) 1 (by omega)
  obtain⟨p2,q2⟩:=Pl.fI k (by omega) 2 (by omega)
  obtain⟨p3,q3⟩:=Pl.fI k (by omega) 3 (by omega)
  unfold Pl.enc Pl.cw
  generalize Pl.uU (Pl.dC k) x.im=M at *
  generalize Pl.cc k 0=x0 at *
  generalize Pl.cc k 1=x1 at *
  generalize Pl.cc k 2=x2 at *
  generalize Pl.cc k 3=x3 at *
  omega
 ·omega
theorem UZ (xs:List Pl.Ln) (m:Nat):∀ x∈Pl.aL bI xs m,0<=x/\x<=1099511627776:=by
 intro x hx
 unfold Pl.aL at hx
 obtain⟨i,_,hi⟩:=List.mem_flatMap.1 hx
 obtain⟨y,_,rfl⟩:=List.mem_map.1 hi
 exact Jo y
noncomputable def aC (xs:List Pl.Ln) (stack:Int):Int:=(Pl.gI (fun i=>lF (Pl.gl xs i)) xs stack).1
noncomputable def aP (xs:List Pl.Ln) (stack:Int):Int:=(Pl.gI (fun i=>lF (Pl.gl xs i)) xs stack).2
noncomputable def pV (xs:List Pl.Ln) (stack:Int):Pl.LX:=if aC xs stack=0 then ⟨Pl.aL bI xs xs.length,Pl.aH xs xs.length,Pl.gT xs Pl.dB,stack⟩ else ⟨[],[],0,0⟩
theorem LG (xs:List Pl.Ln) (stack:Int):(pV xs stack).code.length<=16384/\(pV xs stack).data.length<=65536:=by
 unfold pV
 split
 ·rename_i h
  obtain⟨h1,h2,h3,h4,h5⟩:=Pl.vQ h
  have:=Pl.eB bI xs (fun i hi=>(pF (h2 i hi)).b) h3 xs.length (Nat.le_refl _)
  show (Pl.aL bI xs xs.length).length<=16384/\(Pl.aH xs xs.length).length<=65536
  omega
 ·exact⟨Nat.zero_le _,Nat.zero_le _⟩
structure tC (lo hi:Nat) (u:World) (v:IV) (m:Pl.LX):Prop where
 code:Own .i64 3 lo u v.code.a v.code.len v.code.cap m.code
 data:Own .u8 5 lo u v.data.a v.data.len v.data.cap m.data
 Zu:∀ ad,v.code.a=some ad->lo<=ad.block/\ad.block<hi
 Zv:∀ ad,v.data.a=some ad->lo<=ad.block/\ad.block<hi
 apart:∀ ad Bw,v.code.a=some ad->v.data.a=some Bw->ad.block≠Bw.block
 Pw:v.code.len<=16384
 Zw:v.data.len<=65536
theorem tC.is {lo hi:Nat} {u:World} {v:IV} {m:Pl.LX} (h:tC lo hi u v m):Ju lo u v m:=⟨h.code.row,h.data.row⟩
theorem NI {B:Nat} {e:TypeId} {k:Nat} {v:Value} {n:Nat} {xs:List Value} {w:World} (h:w.ownsRow B e k v n xs):∃ a c,v=.slice a n c/\(∀ ad,a=some ad->B<=ad.block/\ad.block<w.heap.size/\∃ cs fr,w.heap[ad.block]?=some (.cells cs e fr)):=by
 have hl:=h.lt
 obtain⟨h1,h2⟩:=h
 rcases h2 with ⟨a,b⟩ | ⟨g,cap,cur,h0,hlo,hg,r⟩
 ·refine⟨none,0,?_,fun _ q=>by cases q⟩
  rw[a];congr 1;first | exact b.symm | omega | (simp_all)
 ·refine⟨some ⟨g,0,none⟩,cap,h0,?_⟩
  intro ad had
  cases had
  have:=hl g (by rw[h0];rfl)
  exact⟨this.1,this.2,_,_,hg⟩
theorem NJ (k:IntKind) (e:TypeId) (lo:Nat) (w:World):Own k e lo w none 0 0 []:=⟨⟨rfl,.inl ⟨rfl,rfl⟩⟩,fun _ h=>(by cases h)⟩
theorem bZ.got {xs:List Pl.Ln} {stack:Int} {w w':World} {e:Ending} (h:bZ xs stack w e w'):∃ v:IV,e=.returned (.tuple #[.agg #[.slice v.code.a v.code.len v.code.cap,.slice v.data.a v.data.len v.data.cap,.int .i64 (pV xs stack).entry,.int .i64 (pV xs stack).size],.int .i64 (aC xs stack),.int .i64 (aP xs stack)])/\tC w.heap.size w'.heap.size w' v (pV xs stack)/\Below w.heap.size w w':=by
 obtain⟨vc,vd,en,sk,rfl,hb,hz,hn⟩:=h
 have hs:=LG xs stack
 by_cases hc:aC xs stack=0
 ·obtain⟨hcode,hdata,rfl,rfl⟩:=hz hc
  have e0:pV xs sk=⟨Pl.aL bI xs xs.length,Pl.aH xs xs.length,Pl.gT xs Pl.dB,sk⟩:=by unfold pV;rw[if_pos hc]
  rw[e0]at hs ⊢
  obtain⟨a,c,rfl,p⟩:=NI hcode
  obtain⟨a',c',rfl,p'⟩:=NI hdata
  refine⟨⟨⟨a,_,c⟩,⟨a',_,c'⟩⟩,rfl,⟨⟨hcode,fun n hn=>?_⟩,⟨hdata,fun n hn=>?_⟩,fun ad q=>⟨(p ad q).1,(p ad q).2.1⟩,fun ad q=>⟨(p' ad q).1,(p' ad q).2.1⟩,fun ad Bw q q' hne=>?_,hs.1,hs.2⟩,hb⟩
  ·have:=UZ xs _ n hn
   exact WalkArith.wf_i64 ⟨by omega,by omega⟩
  ·have:=Pl.UY xs _ n hn
   exact WalkArith.wf_u8 ⟨by omega,by omega⟩
  ·obtain⟨_,_,cs,fr,b1⟩:=p ad q
   obtain⟨_,_,cs',fr',b2⟩:=p' Bw q'
   rw[hne,b2]at b1
   injection b1 with b1
   injection b1 with _ b1
   exact absurd b1 (by decide)
 ·obtain⟨rfl,rfl,rfl,rfl⟩:=hn hc
  have e0:pV xs stack=⟨[],[],0,0⟩:=by unfold pV;rw[if_neg hc]
  rw[e0]
  exact⟨⟨⟨none,0,0⟩,⟨none,0,0⟩⟩,rfl,⟨NJ _ _ _ _,NJ _ _ _ _,(fun _ q=>(by cases q)),(fun _ q=>(by cases q)),(fun _ _ q=>(by cases q)),Nat.zero_le _,Nat.zero_le _⟩,hb⟩
theorem IK {k:IntKind} {e:TypeId} {lo:Nat} {w w':World} {a:Option Addr} {len cap:Nat} {zs:List Int} (h:Own k e lo w a len cap zs) (hb:∀ ad,a=some ad->w'.heap[ad.block]?=w.heap[ad.block]?):Own k e lo w' a len cap zs:=by
 obtain⟨⟨h1,h2⟩,h3⟩:=h
 refine⟨⟨h1,?_⟩,h3⟩
 rcases h2 with ⟨p,q⟩ | ⟨g,c,cur,h0,hlo,hg,r⟩
 ·exact .inl ⟨p,q⟩
 ·refine .inr ⟨g,c,cur,h0,hlo,?_,r⟩
  have h0':=h0
  simp only[Value.slice.injEq]at h0'
  exact (hb ⟨g,0,none⟩ h0'.1).trans hg
theorem tC.same {lo hi:Nat} {u u':World} {v:IV} {m:Pl.LX} (h:tC lo hi u v m) (hb:∀ g,lo<=g->g<hi->u'.heap[g]?=u.heap[g]?):tC lo hi u' v m:=
 ⟨IK h.code fun ad q=>hb _ (h.Zu ad q).1 (h.Zu ad q).2,IK h.data fun ad q=>hb _ (h.Zv ad q).1 (h.Zv ad q).2,h.Zu,h.Zv,h.apart,h.Pw,h.Zw⟩
theorem tC.keep {lo hi:Nat} {u u':World} {v:IV} {m:Pl.LX} (h:tC lo hi u v m) (hi':hi<=u.heap.size) (d:Below u.heap.size u u'):tC lo hi u' v m:=h.same fun g _ h2=>d.block g (by omega)
theorem tC.besides {lo hi g0:Nat} {u u':World} {v:IV} {m:Pl.LX} (h:tC lo hi u v m) (hi':hi<=u.heap.size) (d:oQ g0 u u') (hg:g0<lo\/hi<=g0):tC lo hi u' v m:=h.same fun g h1 h2=>d.block g (by omega) (by omega)
structure Wrote (lo hi:Nat) (w w':World):Prop where
 os:w'.os=w.os
 tape:w'.tape=w.tape
 output:w'.output=w.output
 size:w.heap.size<=w'.heap.size
 block:∀ k,k<w.heap.size->k<lo\/hi<=k->w'.heap[k]?=w.heap[k]?
theorem tC.wrote {lo hi a b:Nat} {u u':World} {v:IV} {m:Pl.LX} (h:tC lo hi u v m) (hi':hi<=u.heap.size) (d:Wrote a b u u') (hg:hi<=a\/b<=lo):tC lo hi u' v m:=h.same fun g h1 h2=>d.block g (by omega) (by omega)
theorem Wrote.of_below {a b:Nat} {w w':World} (d:Below w.heap.size w w'):Wrote a b w w':=⟨d.os,d.tape,d.output,d.size,fun k hk _=>d.block k hk⟩
end Go.Proofs.YtlbomnnldkeocaaGreat.W
namespace Go.Proofs.YtlbomnnldkeocaaGreat.Pl
theorem NK {ok:Nat->Bool} {xs:List Ln} {stack:Int} (h:(gI ok xs stack).1=0):(∀ i,i<xs.length->lost xs i=false)/\(∀ i,i<xs.length->dQ xs i=false)/\(cu xs xs.length).t≠0/\(∃ j,lb xs dB=some j/\(cu xs j).d=false/\(cu xs j).t<(cu xs xs.length).t)/\0<=stack/\stack<=65536/\stack % 16=0:=by
 unfold gI at h
 by_cases h1:20000<xs.length
 ·rw[if_pos h1]at h;exact absurd h (show ¬ (1:Int)=0 by decide)
 rw[if_neg h1]at h
 by_cases h2:0<=aV (fun i=>!ok i) xs.length
 ·rw[if_pos h2]at h;exact absurd h (show ¬ (1:Int)=0 by decide)
 rw[if_neg h2]at h
 by_cases h3:0<=aV (dU xs) xs.length
 ·rw[if_pos h3]at h;exact absurd h (show ¬ (2:Int)=0 by decide)
 rw[if_neg h3]at h
 by_cases h4:0<=aV (twice xs) xs.length
 ·rw[if_pos h4]at h;exact absurd h (show ¬ (3:Int)=0 by decide)
 rw[if_neg h4]at h
 by_cases h5:0<=aV (lost xs) xs.length
 ·rw[if_pos h5]at h;exact absurd h (show ¬ (4:Int)=0 by decide)
 rw[if_neg h5]at h
 by_cases h6:(cu xs xs.length).t=0\/65536<(cu xs xs.length).t
 ·rw[if_pos h6]at h;exact absurd h (show ¬ (5:Int)=0 by decide)
 rw[if_neg h6]at h
 by_cases h7:65536<(cu xs xs.length).b
 ·rw[if_pos h7]at h;exact absurd h (show ¬ (6:Int)=0 by decide)
 rw[if_neg h7]at h
 by_cases h8:0<=aV (dQ xs) xs.length
 ·rw[if_pos h8]at h;exact absurd h (show ¬ (7:Int)=0 by decide)
 rw[if_neg h8]at h
 refine⟨(dO h5).2,(dO h8).2,fun q=>h6 (.inl q),?_⟩
 change (match lb xs dB with | none=>((8:Int),(0:Int)) | some j=>_).1=0 at h
 cases hl:lb xs dB with
 | none=>rw[hl]at h;exact absurd h (show ¬ (8:Int)=0 by decide)
 | some j=>
  rw[hl]at h
  change (ite _ _ _:Int × Int).1=0 at h
  by_cases h9:(cu xs j).d=true\/(cu xs xs.length).t<=(cu xs j).t
  ·rw[if_pos h9]at h;exact absurd h (show ¬ (8:Int)=0 by decide)
  rw[if_neg h9]at h
  by_cases h10:0<=stack/\stack<=65536/\stack % 16=0
  ·refine⟨⟨j,rfl,?_,by omega⟩,h10⟩
   cases hd:(cu xs j).d
   ·rfl
   ·exact absurd (.inl hd) h9
  ·rw[if_neg h10]at h;exact absurd h (show ¬ (9:Int)=0 by decide)
theorem Bb (e:Ins->Int) (xs:List Ln):∀ m i:Nat,i<(aL e xs m).length->∃ j r:Nat,∃ x:Ins,j<m/\(ins xs j)[r]?=some x/\i=(aL e xs j).length+r/\(aL e xs m)[i]?=some (e x):=by
 intro m
 induction m with
 | zero=>intro i hi;exact absurd hi (Nat.not_lt_zero _)
 | succ m ih=>
  intro i hi
  rw[dH]at hi ⊢
  by_cases q:i<(aL e xs m).length
  ·obtain⟨j,r,x,h1,h2,h3,h4⟩:=ih i q
   exact⟨j,r,x,by omega,h2,h3,by rw[List.getElem?_append_left q];exact h4⟩
  ·rw[List.length_append,List.length_map]at hi
   have hr:i-(aL e xs m).length<(ins xs m).length:=by omega
   refine⟨m,i-(aL e xs m).length,(ins xs m)[i-(aL e xs m).length],by omega,List.getElem?_eq_getElem hr,by omega,?_⟩
   rw[List.getElem?_append_right (by omega),List.getElem?_map,List.getElem?_eq_getElem hr]
   rfl
theorem PW (e:Ins->Int) (xs:List Ln) (j:Nat):∀ m,j<=m->(aL e xs j).length<=(aL e xs m).length:=by
 intro m hm
 induction m with
 | zero=>rw[show j=0 by omega];exact Nat.le_refl _
 | succ m ih=>
  by_cases q:j=m+1
  ·rw[q];exact Nat.le_refl _
  ·rw[dH,List.length_append]
   have:=ih (by omega)
   omega
def jmp (op:Int):Prop:=op=45\/(37<=op/\op<=42)
theorem Px (n:Int) (h:jmp n):br n=true:=by
 have key:∀ k:Nat,k<48->(k=45\/(37<=k/\k<=42))->(dC k == 5 || dC k == 7)=true:=by decide +kernel
 unfold jmp at h
 unfold br
 rw[Bool.and_eq_true,decide_eq_true_eq]
 exact⟨by omega,key n.toNat (by omega) (by omega)⟩
theorem VA {ok:Nat->Bool} {xs:List Ln} {stack:Int} (e:Ins->Int) (h:(gI ok xs stack).1=0) (hB:∀ i,i<xs.length->sG (gl xs i)) (hI:∀ i,i<xs.length->Qn (gl xs i)) (hs:∀ i,i<xs.length->(gl xs i).k=3\/(gl xs i).k=7\/(gl xs i).k=8->¬ (gl xs i).s.size=0) (hb:∀ i,i<xs.length->(gl xs i).k=2->br (gl xs i).op=false)
  (i:Nat) (hi:i<(aL e xs xs.length).length):∃ x:Ins,(aL e xs xs.length)[i]?=some (e x)/\x.ok=true/\(jmp x.op->x.im % 4=0/\0<=(i:Int)+x.im / 4/\(i:Int)+x.im / 4<=((aL e xs xs.length).length:Int)):=by
 obtain⟨Py,hbad,_,_,_⟩:=NK h
 obtain⟨_,_,wL,_,_⟩:=vQ h
 obtain⟨j,r,x,hj,hx,hir,hc⟩:=Bb e xs _ i hi
 have hmem:x∈ins xs j:=List.mem_of_getElem? hx
 have O0:=jQ xs j (hI j hj)
 rw[hbad j hj,List.any_eq_false]at O0
 have hq:=O0 x hmem
 have Zx:x.ok=true:=by
  cases hxk:x.ok
  ·rw[hxk]at hq;simp at hq
  ·rfl
 refine⟨x,hc,Zx,fun hjm=>?_⟩
 have hlj:=(eB e xs hB wL j (by omega)).1
 cases hJ:jT (gl xs j).k
 ·exfalso
  unfold ins bM at hmem
  rw[hJ,if_neg (by simp)]at hmem
  unfold jmp at hjm
  have Zy:∀ a b c d:Int,x∈[(⟨19,a,b,c,d⟩:Ins)]->False:=fun a b c d q=>by
   rcases List.mem_cons.1 q with rfl | q
   ·dsimp only at hjm;omega
   ·cases q
  have pp:∀ a b:Int,x∈pair a b->False:=fun a b q=>by
   unfold pair at q
   rcases List.mem_cons.1 q with rfl | q
   ·dsimp only at hjm;omega
   ·exact Zy _ _ _ _ q
  split at hmem
  ·split at hmem
   ·exact Zy _ _ _ _ hmem
   ·exact pp _ _ hmem
  split at hmem
  ·exact pp _ _ hmem
  split at hmem
  ·exact Zy _ _ _ _ hmem
  split at hmem
  ·rcases List.mem_cons.1 hmem with rfl | q
   ·dsimp only at hjm;omega
   ·cases q
  split at hmem
  ·rename_i h2
   rcases List.mem_cons.1 hmem with rfl | q
   ·have:=Px _ hjm
    dsimp only at this
    rw[hb j hj h2]at this
    cases this
   ·cases q
  ·cases hmem
 ·have hins:ins xs j=[zD (gl xs j) (gT xs (gl xs j).s-(cu xs j).at)]:=by unfold ins bM;rw[hJ,if_pos rfl]
  have hr0:r=0:=by
   rw[hins]at hx
   rcases r with _ | r
   ·rfl
   ·simp at hx
  rw[hins]at hx
  rw[hr0]at hx hir
  have hxe:x=zD (gl xs j) (gT xs (gl xs j).s-(cu xs j).at):=by simpa using hx.symm
  have him:x.im=gT xs (gl xs j).s-(cu xs j).at:=by
   rw[hxe];unfold zD
   split
   ·rfl
   split <;> rfl
  have hk:(gl xs j).k=3\/(gl xs j).k=7\/(gl xs j).k=8:=by simpa [jT] using hJ
  -- the line stands in text
  have hdj:(cu xs j).d=false:=by
   have:=wL j hj
   unfold dU at this
   rw[oK xs j hj]at this
   have hT:wN (gl xs j).k=true:=by unfold wN;simp;omega
   rw[hT]at this
   unfold kV.pass at this
   rw[if_neg (by omega),if_neg (by omega)]at this
   cases hd:(cu xs j).d
   ·rfl
   ·rw[hd]at this;simp at this
  have hat:(cu xs j).at=65536+(cu xs j).t:=by unfold kV.at;rw[hdj];rfl
  -- the label
  have hl0:=Py j hj
  have hs0:=hs j hj hk
  have hne:(gl xs j).s≠⟨#[]⟩:=fun q=>hs0 (by rw[q];rfl)
  unfold lost at hl0
  rw[decide_eq_true hne,Bool.true_and,decide_eq_false_iff_not]at hl0
  have hbj:=hbad j hj
  unfold dQ at hbj
  rw[hJ,Bool.true_and,Bool.or_eq_false_iff]at hbj
  have hin:=hbj.1
  cases hlb:lb xs (gl xs j).s with
  | none=>exact absurd hlb hl0
  | some q=>
   have hq1:=(lS.1 hlb).1
   have uS:gT xs (gl xs j).s=(cu xs q).at:=by unfold gT;rw[hlb]
   have hdq:(cu xs q).d=false:=by unfold rJ at hin;rw[hlb]at hin;exact hin
   have Zz:(cu xs q).at=65536+(cu xs q).t:=by unfold kV.at;rw[hdq];rfl
   have hlq:=(eB e xs hB wL q (by omega)).1
   have hmo:=PW e xs q xs.length (by omega)
   rw[him,uS,hat,Zz]
   omega
theorem Jp {ok:Nat->Bool} {xs:List Ln} {stack:Int} (e:Ins->Int) (h:(gI ok xs stack).1=0) (hB:∀ i,i<xs.length->sG (gl xs i)) (hw:∀ x∈aL e xs xs.length,LK x=true):Bd ⟨aL e xs xs.length,aH xs xs.length,gT xs dB,stack⟩=true:=by
 obtain⟨_,_,ht0,⟨j,hlb,hdj,htj⟩,hst⟩:=NK h
 obtain⟨_,_,wL,ht,hb⟩:=vQ h
 obtain⟨l1,l2⟩:=eB e xs hB wL xs.length (Nat.le_refl _)
 have hj:=(lS.1 hlb).1
 have lj:=(eB e xs hB wL j (by omega)).1
 have hc:=jO xs hB j (by omega)
 have uS:gT xs dB=65536+(cu xs j).t:=by unfold gT;rw[hlb];unfold kV.at;dsimp only;rw[hdj];rfl
 unfold Bd NN NM
 dsimp only
 rw[Bool.and_eq_true,Bool.and_eq_true,Bool.and_eq_true,Bool.and_eq_true,decide_eq_true_eq,decide_eq_true_eq,decide_eq_true_eq,decide_eq_true_eq]
 refine⟨⟨by omega,List.all_eq_true.2 hw⟩,by omega,?_,hst⟩
 rw[uS]
 unfold place
 rw[if_pos (by omega)]
 omega
end Go.Proofs.YtlbomnnldkeocaaGreat.Pl
namespace Go.Proofs.YtlbomnnldkeocaaGreat.W
open Go.RowKit
theorem PX {P:Program} {f:FuncId} {args:Array Value} {w:World} {v v':Value} (h:Calls P f args w fun e _=>e=.returned v) (h':Calls P f args w fun e _=>e=.returned v') (hi:P.inits.idxOf? f=none):v=v':=by
 obtain⟨n,a,w1,r1,e1⟩:=Calls.done (R:=fun x _=>x=v) (h.mono fun e _ q=>by subst q;rfl) hi
 obtain⟨m,b,w2,r2,e2⟩:=Calls.done (R:=fun x _=>x=v') (h'.mono fun e _ q=>by subst q;rfl) hi
 have:=runN_same_end r1 r2
 injection this with this
 rw[<- e1,<- e2,this]
theorem Jq (w:World) {x:Pl.Ln} (h:lF x=true) (h2:x.k=2):Pl.br x.op=false:=by
 obtain⟨k,op,rd,r1,r2,im,s,n⟩:=x
 dsimp only at h2
 subst h2
 have c1:=(AX ⟨2,op,rd,r1,r2,im,s,n⟩ w).mono fun e _ q=>q.1
 have c2:=(yK op rd r1 r2 im n s w).mono fun e _ q=>q.1
 have e:=PX c1 c2 (by kernel_rfl)
 injection e with e
 rw[h]at e
 have e':=e.symm
 simp only[Bool.and_eq_true,Bool.not_eq_true']at e'
 exact e'.2.2
theorem IL {x:Pl.Ins} (h:x.ok=true):Pl.dec (bI x)≠0/\Pl.yE (bI x)=#[.int .i64 x.op,.int .i64 x.rd,.int .i64 x.r1,.int .i64 x.r2,.int .i64 x.im]/\Pl.LK (bI x)=true:=by
 obtain⟨k,hk,h1,h2⟩:=xL h
 have hok:Pl.okF (Pl.dC k) x.rd x.r1 x.r2 x.im=true:=by
  have h':=h
  unfold Pl.Ins.ok at h'; rw[Bool.and_eq_true,hk]at h'; exact h'.2
 have e:bI x=Pl.enc k x.rd x.r1 x.r2 x.im:=by unfold bI;rw[h,hk];rfl
 obtain⟨d1,d2⟩:=Pl.WK k h1 h2 x.rd x.r1 x.r2 x.im hok
 obtain⟨e1,e2,e3,e4⟩:=Pl.FE k h1 h2 x.rd x.r1 x.r2 x.im hok
 have hh:Pl.hit k (Pl.enc k x.rd x.r1 x.r2 x.im)=true:=by
  rw[Pl.vB,e1,e2,e3,e4]
  exact⟨hok,rfl⟩
 have hb:=(Pl.sS h1 h2 hh).2
 rw[e]
 refine⟨by rw[d1];omega,by rw[d2,hk],?_⟩
 unfold Pl.LK
 exact decide_eq_true hb
theorem VB (w:World) {xs:List Pl.Ln} {stack:Int} (h:aC xs stack=0):Pl.Bd (pV xs stack)=true/\∀ i,i<(pV xs stack).code.length->∃ x:Pl.Ins,(pV xs stack).code.getD i 0=bI x/\x.ok=true/\(Pl.jmp x.op->x.im % 4=0/\0<=(i:Int)+x.im / 4/\(i:Int)+x.im / 4<=((pV xs stack).code.length:Int)):=by
 have e0:pV xs stack=⟨Pl.aL bI xs xs.length,Pl.aH xs xs.length,Pl.gT xs Pl.dB,stack⟩:=by unfold pV;rw[if_pos h]
 rw[e0]
 have h':(Pl.gI (fun i=>lF (Pl.gl xs i)) xs stack).1=0:=h
 obtain⟨_,hok,_,_,_⟩:=Pl.vQ h'
 have hB:∀ i,i<xs.length->Pl.sG (Pl.gl xs i):=fun i hi=>(pF (hok i hi)).b
 have key:=fun i hi=>Pl.VA bI h' hB (fun i hi=>(pF (hok i hi)).i) (fun i hi q=>(pF (hok i hi)).sym (by omega)) (fun i hi q=>Jq w (hok i hi) q) i hi
 refine⟨Pl.Jp bI h' hB fun x hx=>?_,fun i hi=>?_⟩
 ·obtain⟨i,hi,rfl⟩:=List.getElem_of_mem hx
  obtain⟨y,hy,Jr,_⟩:=key i hi
  rw[List.getElem?_eq_getElem hi]at hy
  rw[Option.some.inj hy]
  exact (IL Jr).2.2
 ·obtain⟨y,hy,Jr,hyj⟩:=key i hi
  exact⟨y,by rw[List.getD_eq_getElem?_getD];show ((Pl.aL bI xs xs.length)[i]?).getD 0=_;rw[hy];rfl,Jr,hyj⟩
end Go.Proofs.YtlbomnnldkeocaaGreat.W
