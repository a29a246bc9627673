import Derived.Test.YtlbomnnldkeocaaGreatA36
import Derived.Test.YtlbomnnldkeocaaGreatA43
import Derived.Deep.CutBlock
import Derived.Test.YtlbomnnldkeocaaGreatA00
import Derived.Test.YtlbomnnldkeocaaGreatA29
import Derived.Laws.MakeOwn
import Derived.Laws.OwnMore
import Derived.Laws.BytesString
import Derived.Laws.Cells
import Derived.Test.YtlbomnnldkeocaaGreatA42
import Derived.Test.YtlbomnnldkeocaaGreatA45
import Derived.Test.YtlbomnnldkeocaaGreatA13
set_option linter.unusedVariables false
set_option linter.unusedSimpArgs false
set_option maxHeartbeats 16000000
namespace Go.Proofs.YtlbomnnldkeocaaGreat.W
open Go.RowKit
def asW (w:World):World:=(w.alloc (.cells #[.slice none 0 0,.slice none 0 0,.int .i64 0,.int .i64 0] 28)).alloc (.cells #[.slice none 0 0,.slice none 0 0,.int .i64 0,.int .i64 0] 28)
theorem asW_size (w:World):(asW w).heap.size=w.heap.size+2:=by unfold asW;simp
theorem asW_below (w:World):Below w.heap.size w (asW w):=(below_alloc w _).alloc (by simp) _
structure AsmE (lo:Nat) (xs:List Pl.Ln) (w Y:World) (a:Option Addr) (len cap:Nat):Prop where
 bel:Below (asW w).heap.size (asW w) Y
 ln:LRow lo w a len cap xs
 ok:Pl.fst1 (fun i=>!okL (Pl.gl xs i)) xs.length=-1
 n:len<=20000
variable {lo:Nat} {xs:List Pl.Ln} {w Y u:World} {a:Option Addr} {len cap:Nat}
theorem AsmE.keep (h:AsmE lo xs w Y a len cap) (hb:Below Y.heap.size Y u):AsmE lo xs w u a len cap:=⟨h.bel.trans (hb.mono h.bel.size),h.ln,h.ok,h.n⟩
theorem AsmE.rows (h:AsmE lo xs w Y a len cap):Y.heap[w.heap.size]?=some (.cells #[.slice none 0 0,.slice none 0 0,.int .i64 0,.int .i64 0] 28 (0,0))/\Y.heap[w.heap.size+1]?=some (.cells #[.slice none 0 0,.slice none 0 0,.int .i64 0,.int .i64 0] 28 (0,0)):=by
 refine⟨(h.bel.block _ (by rw[asW_size];omega)).trans ?_,(h.bel.block _ (by rw[asW_size];omega)).trans ?_⟩
 ·exact (Below.heap_alloc _ _ _ (by simp)).trans (heap_alloc_new w _)
 ·exact new_at (by simp)
theorem AsmE.low (h:AsmE lo xs w Y a len cap):Below w.heap.size w Y:=(asW_below w).trans (h.bel.mono (by rw[asW_size];omega))
theorem AsmE.lines (h:AsmE lo xs w Y a len cap):LRow lo Y a len cap xs:=h.ln.keep h.low
theorem AsmE.lenq (h:AsmE lo xs w Y a len cap):xs.length=len:=h.ln.len.1
theorem AsmE.known (h:AsmE lo xs w Y a len cap):∀ i,i<xs.length->LnK (Pl.gl xs i):=fun i hi=>by
 have:=(Pl.fst1_neg (p:=fun i=>!okL (Pl.gl xs i)) (n:=xs.length) (by rw[h.ok];decide)).2 i hi
 exact okL_known (by simpa using this)
theorem st4_row {u:World} {R:Nat} (h:u.heap[R]?=some (.cells #[.slice none 0 0,.slice none 0 0,.int .i64 0,.int .i64 0] 28 (0,0))):(st4 u R).heap[R]?=some (.cells #[.slice none 0 0,.slice none 0 0,.int .i64 0,.int .i64 0] 28 (0,0)):=row4L h
theorem st4_below {u:World} (h:Below w.heap.size w u):Below w.heap.size w (st4 u w.heap.size):=
 Below.setCell (Below.setCell (Below.setCell (Below.setCell h (p:=⟨w.heap.size,0,none⟩) (Nat.le_refl _) _) (p:=⟨w.heap.size,1,none⟩) (Nat.le_refl _) _) (p:=⟨w.heap.size,2,none⟩) (Nat.le_refl _) _) (p:=⟨w.heap.size,3,none⟩) (Nat.le_refl _) _
structure AsmL (lo:Nat) (xs:List Pl.Ln) (w Y:World) (a:Option Addr) (len cap:Nat) (g9:Nat) (la:Option Addr) (lc:Nat) (aa:Option Addr) (ac:Nat):Prop where
 e:AsmE lo xs w Y a len cap
 row:Y.heap[g9]?=some (.cells #[.slice la (Pl.lbs xs len).length lc,.slice aa len ac,.int .i64 ((Pl.cu xs len).t / 4),.int .i64 (Pl.cu xs len).b] 55 (0,0))
 lb:LbRow Y la (Pl.lbs xs len).length lc xs (Pl.lbs xs len)
 at_:AtRow Y aa len ac xs
 st:Pl.fst1 (Pl.stray xs) xs.length=-1
variable {g9:Nat} {la:Option Addr} {lc:Nat} {aa:Option Addr} {ac:Nat}
theorem AsmL.keep (h:AsmL lo xs w Y a len cap g9 la lc aa ac) (hb:Below Y.heap.size Y u):AsmL lo xs w u a len cap g9 la lc aa ac:=
 ⟨h.e.keep hb,(hb.block g9 (Array.getElem?_eq_some_iff.1 h.row).1).trans h.row,h.lb.keep hb,h.at_.keep hb,h.st⟩
theorem AsmL.stray (h:AsmL lo xs w Y a len cap g9 la lc aa ac):∀ i,i<xs.length->Pl.stray xs i=false:=(Pl.fst1_neg (by rw[h.st];decide)).2
set_option maxRecDepth 100000 in
theorem asm_t23 {stack:Int} {g10:Nat} {c2 c3 c5 c6 c8 c11 c12 c13 c14 c15 c16 c17 c18 c19 c20 c21 c22 c23 c24 c25 c26 c27 c28 c29 c30 c31 c32 c33 c34 c35 c36 c37 c38 c39 c40 c41 c42 c43 c44 c45 c46 c47 c48 c49 c50 c51 c52 c53 c54 c55 c56 c57 c58 c59 c60 c61 c62 c63 c64 c65 c66 c67 c68 c69 c70 c71 c72 c73 c74 c75 c76 c77 c78 c79 c80 c81 c82 c83 c84 c85 c86 c87 c88 c89 c90 c91 c92 c93 c94 c95 c96 c97 c98 c99 c100 c101 c102 c103 c104 c105 c106 c107 c108 c109 c110 c111 c112 c113 c114 c115 c116 c117 c118 c119 c120 c121:Value} {a1:Option Addr} {n1 y1:Nat} {a2:Option Addr} {n2 y2:Nat} (h:AsmL lo xs w Y a len cap g9 la lc aa ac) (hrow:Y.heap[g10]?=some (.cells #[.slice a1 n1 y1,.slice a2 n2 y2,.int .i64 0,.int .i64 0] 28 (0,0))) (hg10:w.heap.size+2<=g10)
  (oc:Y.ownsRow w.heap.size 3 1 (.slice a1 n1 y1) (Pl.codeL ewI xs xs.length).length (Pl.ics (Pl.codeL ewI xs xs.length))) (od:Y.ownsRow w.heap.size 5 1 (.slice a2 n2 y2) (Pl.dataL xs xs.length).length (Pl.bcs (Pl.dataL xs xs.length)))
  (h4:Pl.fst1 (Pl.twice xs) xs.length=-1) (h5:Pl.fst1 (Pl.lost xs) xs.length=-1) (h6:¬ ((Pl.cu xs xs.length).t=0\/65536<(Pl.cu xs xs.length).t)) (h7:¬ 65536<(Pl.cu xs xs.length).b) (h8:Pl.fst1 (Pl.badJ xs) xs.length=-1) :
  (asmF 23).wp Tryz.prog (bodyPost Tryz.prog Tryz.f6 (AsmSaid xs stack w)) { tmps:=#[.slice a len cap,.int .i64 stack,c2,c3,.pointer (some ⟨w.heap.size,0,none⟩),c5,c6,.pointer (some ⟨(w.heap.size+1),0,none⟩),c8,.pointer (some ⟨g9,0,none⟩),.pointer (some ⟨g10,0,none⟩),c11,c12,c13,c14,c15,c16,c17,c18,c19,c20,c21,c22,c23,c24,c25,c26,c27,c28,c29,c30,c31,c32,c33,c34,c35,c36,c37,c38,c39,c40,c41,c42,c43,c44,c45,c46,c47,c48,c49,c50,c51,c52,c53,c54,c55,c56,c57,c58,c59,c60,c61,c62,c63,c64,c65,c66,c67,c68,c69,c70,c71,c72,c73,c74,c75,c76,c77,c78,c79,c80,c81,c82,c83,c84,c85,c86,c87,c88,c89,c90,c91,c92,c93,c94,c95,c96,c97,c98,c99,c100,c101,c102,c103,c104,c105,c106,c107,c108,c109,c110,c111,c112,c113,c114,c115,c116,c117,c118,c119,c120,c121],defers:=[] } Y:=by
 have HL:Hid (AsmL lo xs w Y a len cap g9 la lc aa ac):=h
 have hxl:=h.e.lenq
 have hn:=h.e.n
 have HXL:Hid (xs.length=len):=hxl
 have hll:=Pl.laid_len ewI xs (fun i hi=>(h.e.known i hi).b) h.stray xs.length (Nat.le_refl _)
 have HO:Hid (Y.ownsRow w.heap.size 3 1 (.slice a1 n1 y1) (Pl.codeL ewI xs xs.length).length (Pl.ics (Pl.codeL ewI xs xs.length))/\Y.ownsRow w.heap.size 5 1 (.slice a2 n2 y2) (Pl.dataL xs xs.length).length (Pl.bcs (Pl.dataL xs xs.length))):=⟨oc,od⟩
 have hn1:n1=(Pl.codeL ewI xs xs.length).length:=by
  obtain⟨q1,q2,q3⟩:=own_slice oc
  injection q3
 have ht4:4*(n1:Int)=(Pl.cu xs xs.length).t:=by rw[hn1];exact hll.1
 have hbd:=fun i hi=>Pl.cu_bd xs (fun i hi=>(h.e.known i hi).b) i hi
 have A8:=fun q=>Pl.ans8 (ok:=(fun i=>okL (Pl.gl xs i))) (stack:=stack) (by rw[hxl];omega) h.e.ok h.st h4 h5 h6 h7 h8 q
 have H8':Hid (∀ q,_):=A8
 have H9':Hid (∀ j,Pl.lb xs Pl.startS=some j->¬ ((Pl.cu xs j).d=true\/(Pl.cu xs xs.length).t<=(Pl.cu xs j).t)->(¬ (0<=stack/\stack<=65536/\stack % 16=0)->Pl.ansL (fun i=>okL (Pl.gl xs i)) xs stack=(9,0))/\(0<=stack/\stack<=65536/\stack % 16=0->Pl.ansL (fun i=>okL (Pl.gl xs i)) xs stack=(0,0))):=fun j q1 q2=>⟨fun q=>Pl.ans9 (by rw[hxl];omega) h.e.ok h.st h4 h5 h6 h7 h8 q1 q2 q,fun q=>Pl.ans0 (by rw[hxl];omega) h.e.ok h.st h4 h5 h6 h7 h8 q1 q2 q⟩
 have m0:=cell_of_row _ _ 0 _ 55 (0,0) h.row
 have i0:=cell_of_row _ _ 0 _ 28 (0,0) hrow;have i1:=cell_of_row _ _ 1 _ 28 (0,0) hrow;have i2:=cell_of_row _ _ 2 _ 28 (0,0) hrow;have i3:=cell_of_row _ _ 3 _ 28 (0,0) hrow
 have r0:=cell_of_row _ _ 0 _ 28 (0,0) h.e.rows.1;have r1:=cell_of_row _ _ 1 _ 28 (0,0) h.e.rows.1;have r2:=cell_of_row _ _ 2 _ 28 (0,0) h.e.rows.1;have r3:=cell_of_row _ _ 3 _ 28 (0,0) h.e.rows.1
 have k0:=cell_of_row _ _ 0 _ 28 (0,0) h.e.rows.2;have k1:=cell_of_row _ _ 1 _ 28 (0,0) h.e.rows.2;have k2:=cell_of_row _ _ 2 _ 28 (0,0) h.e.rows.2;have k3:=cell_of_row _ _ 3 _ 28 (0,0) h.e.rows.2
 simp only[List.getElem?_toArray,List.getElem?_cons_zero,List.getElem?_cons_succ]at m0 i0 i1 i2 i3 r0 r1 r2 r3 k0 k1 k2 k3
 have rf:∀ j,Y.frozen? ⟨w.heap.size,j,none⟩=false:=fun j=>frozen_of_row _ _ j _ 28 h.e.rows.1
 have gf:∀ j,Y.frozen? ⟨g10,j,none⟩=false:=fun j=>frozen_of_row _ _ j _ 28 hrow
 have HGR:Hid (Y.heap[g10]?=some (.cells #[.slice a1 n1 y1,.slice a2 n2 y2,.int .i64 0,.int .i64 0] 28 (0,0))):=hrow
 have HWH:Hid (Calls Tryz.prog 26 #[.slice la (Pl.lbs xs len).length lc,.string ⟨#[95,115,116,97,114,116]⟩] Y fun e w'=>e=.returned (.int .i64 (Pl.whr xs (Pl.lbs xs len) Pl.startS))/\w'=Y):=l4Where_is _ _ _ xs _ Pl.startS Y h.lb
 have hwl:=Pl.whr_lb xs Pl.startS
 have hlbr:=h.lb
 have HRW:∀ n,(st4 (Y.drewN n) w.heap.size).heap[w.heap.size]?=some (.cells #[.slice none 0 0,.slice none 0 0,.int .i64 0,.int .i64 0] 28 (0,0)):=fun n=>st4_row h.e.rows.1
 have HBL:∀ n,Below w.heap.size w (st4 (Y.drewN n) w.heap.size):=fun n=>st4_below (below_drewN h.e.low n)
 have HRW':Hid (∀ n,(st4 (Y.drewN n) w.heap.size).heap[w.heap.size]?=some (.cells #[.slice none 0 0,.slice none 0 0,.int .i64 0,.int .i64 0] 28 (0,0))):=HRW
 have HBL':Hid (∀ n,Below w.heap.size w (st4 (Y.drewN n) w.heap.size)):=HBL
 have HIX:Hid (∀ (n:Nat) (at_:Int),0<=at_/\at_<=4294967296->Calls Tryz.prog 27 #[.slice a1 n1 y1,.int .i64 at_] (Y.drewN n) fun e u'=>e=.returned (.int .i64 (Pl.place n1 at_))/\∃ q,u'=(Y.drewN n).drewN q):=fun n at_ hat=>(specPlace_any a1 n1 y1 at_ (by omega) (by omega) _).mono fun e w' hh=>⟨hh.1,0,hh.2⟩
 have HSK:Hid (∀ u:World,Calls Tryz.prog 28 #[.int .i64 stack] u fun e w'=>e=.returned (.bool (decide (0<=stack/\stack<=65536/\stack % 16=0)))/\w'=u):=fun u=>l3StackOk_is stack u
 rw[hxl]at hwl
 clear h oc od h4 h5 h6 h7 h8 A8 hrow HRW HBL
 conv=>arg 2;whnf
 dsimp only
 have hne:w.heap.size+1≠w.heap.size:=by omega
 have hge:g10≠w.heap.size:=by omega
 have hge2:w.heap.size≠g10:=by omega
 rcases hwl with ⟨hw1,hw2⟩ | ⟨p,hp,hw1,hw2⟩
 ·rw[hw1]at HWH
  have HA8:Hid (Pl.ansL (fun i=>okL (Pl.gl xs i)) xs stack=(8,0)):=H8'.out (fun j hj=>by rw[hw2]at hj;cases hj)
  clear hlbr
  go_upto_region 24 with (go_at_call 26;refine HWH.out.mono ?_;rintro e u9 ⟨rfl,rfl⟩)
  go_quiet (fail)
  go_wp2_with fail
  refine bodyPost_ret (v:=.tuple #[.agg #[.slice none 0 0,.slice none 0 0,.int .i64 0,.int .i64 0],.int .i64 8,.int .i64 0]) (results_cell_tmp2 Tryz.results6 _ _ w.heap.size 28 _ (0,0) _ _ _ rfl rfl rfl (HRW'.out _) Tryz.underlying28 rfl (by kernel_rfl)) rfl (AsmSaid.no HA8.out (by decide) (HBL'.out _))
 ·rw[hw1]at HWH
  obtain⟨e1,e2,e3,e4⟩:=hlbr
  obtain⟨bl,ol,hla,hbl,hc⟩:=e4.resolve_left (by omega)
  subst hla
  obtain⟨d0,d1,d2,d3⟩:=hc p hp
  have hpi:(p:Int)<((Pl.lbs xs len).length:Int):=by omega
  have hpn:¬ (p:Int)<0:=by omega
  have hpd:decide ((p:Int)<0)=false:=decide_eq_false hpn
  have hll2:((Pl.lbs xs len).length:Int)<=20000:=by
   have h2:(Pl.lbs xs len).length<=len:=by unfold Pl.lbs;refine Nat.le_trans (List.length_filter_le _ _) (by simp)
   omega
  generalize (Pl.lbs xs len).getD p 0=j at *
  have hjl:=(Pl.lb_some.1 hw2).1
  have hb:=hbd j (by omega)
  have HC:Hid (∀ p,p<(Pl.lbs xs len).length->_):=hc
  have hap:Pl.adr xs Pl.startS=(Pl.cu xs j).at:=by unfold Pl.adr;rw[hw2]
  have HAP:Hid (Pl.adr xs Pl.startS=(Pl.cu xs j).at):=hap
  clear hc e1 e2 e3 e4 hap d0 d1
  cases hd:(Pl.cu xs j).d
  ·rw[hd]at d3
   have hatv:(Pl.cu xs j).at=65536+(Pl.cu xs j).t:=by unfold Pl.Cur.at;rw[hd];rfl
   rw[hatv]at d2 HAP
   have hat:0<=65536+(Pl.cu xs j).t/\65536+(Pl.cu xs j).t<=4294967296:=by omega
   have HTT:Hid ((Pl.cu xs j).d=false):=hd
   generalize hcu:Pl.cu xs j=cj at *
   have HCJ:Hid (Pl.cu xs j=cj):=hcu
   by_cases ht:(Pl.cu xs xs.length).t<=cj.t
   ·have HA8:Hid (Pl.ansL (fun i=>okL (Pl.gl xs i)) xs stack=(8,0)):=H8'.out (fun j2 hj=>by rw[hw2]at hj;cases hj;rw[HCJ.out];exact .inr ht)
    have hpl:Pl.place n1 (65536+cj.t)=-1:=by unfold Pl.place;exact if_neg (by omega)
    have HI9:Hid (∀ n:Nat,Calls Tryz.prog 27 #[.slice a1 n1 y1,.int .i64 (65536+cj.t)] (Y.drewN n) fun e u'=>e=.returned (.int .i64 (-1))/\∃ q,u'=(Y.drewN n).drewN q):=fun n=>by rw[<- hpl];exact HIX.out n _ hat
    clear hcu hd hatv hpl hw1 hw2 hn1 ht4 hll
    go_upto_region 24 with (go_at_call 26;refine HWH.out.mono ?_;rintro e u9 ⟨rfl,rfl⟩)
    go_quiet ((go_at_call 27;exact Calls.quiet_of (HI9.out _)))
    go_wp2_with fail
    refine bodyPost_ret (v:=.tuple #[.agg #[.slice none 0 0,.slice none 0 0,.int .i64 0,.int .i64 0],.int .i64 8,.int .i64 0]) (results_cell_tmp2 Tryz.results6 _ _ w.heap.size 28 _ (0,0) _ _ _ rfl rfl rfl (HRW'.out _) Tryz.underlying28 rfl (by kernel_rfl)) rfl (AsmSaid.no HA8.out (by decide) (HBL'.out _))
   ·obtain⟨v,hv⟩:∃ v,v=Pl.place n1 (65536+cj.t):=⟨_,rfl⟩
    have hpl:v=cj.t / 4:=by rw[hv];unfold Pl.place;rw[if_pos (by omega)];omega
    have hv0:¬ v<0:=by omega
    have hvd:decide (v<0)=false:=decide_eq_false hv0
    have HI9:Hid (∀ n:Nat,Calls Tryz.prog 27 #[.slice a1 n1 y1,.int .i64 (65536+cj.t)] (Y.drewN n) fun e u'=>e=.returned (.int .i64 v)/\∃ q,u'=(Y.drewN n).drewN q):=fun n=>by rw[hv];exact HIX.out n _ hat
    have H9:=H9'.out j hw2 (by rw[HCJ.out,HTT.out];simp;omega)
    have HH9:Hid _:=H9
    clear hcu hd hatv hpl hv hw1 hw2 H9 hn1 ht4 hll
    by_cases hs:0<=stack/\stack<=65536/\stack % 16=0
    ·rw[show decide (0<=stack/\stack<=65536/\stack % 16=0)=true from decide_eq_true hs]at HSK
     go_upto_region 24 with (go_at_call 26;refine HWH.out.mono ?_;rintro e u9 ⟨rfl,rfl⟩)
     go_quiet ((go_at_call 27;exact Calls.quiet_of (HI9.out _)))
     go_wp2_with (go_at_call 28;refine (HSK.out _).mono ?_;rintro e u9 ⟨rfl,rfl⟩)
     have hrg:(u9.drewN nq).heap[g10]?=some (.cells #[.slice a1 n1 y1,.slice a2 n2 y2,.int .i64 0,.int .i64 0] 28 (0,0)):=HGR.out
     have hrr:(u9.drewN nq).heap[w.heap.size]?=some (.cells #[.slice none 0 0,.slice none 0 0,.int .i64 0,.int .i64 0] 28 (0,0)):=HL.out.e.rows.1
     have hrr2:=keep_other (i:=3) (v:=.int .i64 stack) (keep_other (i:=2) (v:=.int .i64 (65536+cj.t)) hrr hge2) hge2
     refine bodyPost_ret (v:=.tuple #[.agg #[.slice a1 n1 y1,.slice a2 n2 y2,.int .i64 (65536+cj.t),.int .i64 stack],.int .i64 0,.int .i64 0]) (results_cell_tmp2 Tryz.results6 _ _ w.heap.size 28 _ (0,0) _ _ _ rfl rfl rfl (row4L hrr2) Tryz.underlying28 rfl (by kernel_rfl)) rfl ?_
     refine⟨.slice a1 n1 y1,.slice a2 n2 y2,65536+cj.t,stack,by rw[HH9.out.2 hs],?_,fun _=>⟨?_,?_,HAP.out.symm,rfl⟩,fun q=>by rw[HH9.out.2 hs]at q;exact absurd rfl q⟩
     ·have hbw:=below_drewN HL.out.e.low nq
      refine Below.setCell (Below.setCell (Below.setCell (Below.setCell (Below.setCell (Below.setCell hbw (p:=⟨g10,2,none⟩) ?_ _) (p:=⟨g10,3,none⟩) ?_ _) (p:=⟨w.heap.size,0,none⟩) (Nat.le_refl _) _) (p:=⟨w.heap.size,1,none⟩) (Nat.le_refl _) _) (p:=⟨w.heap.size,2,none⟩) (Nat.le_refl _) _) (p:=⟨w.heap.size,3,none⟩) (Nat.le_refl _) _
      all_goals (show w.heap.size<=g10;omega)
     ·exact owns_setT (owns_setT (owns_setT (owns_setT (owns_setT (owns_setT (u:=u9.drewN nq) HO.out.1 hrg (by decide)) (heap_setCell_same _ _ _ _ _ _ hrg) (by decide)) hrr2 (by decide)) (heap_setCell_same _ _ _ _ _ _ hrr2) (by decide)) (heap_setCell_same _ _ _ _ _ _ (heap_setCell_same _ _ _ _ _ _ hrr2)) (by decide)) (heap_setCell_same _ _ _ _ _ _ (heap_setCell_same _ _ _ _ _ _ (heap_setCell_same _ _ _ _ _ _ hrr2))) (by decide)
     ·exact owns_setT (owns_setT (owns_setT (owns_setT (owns_setT (owns_setT (u:=u9.drewN nq) HO.out.2 hrg (by decide)) (heap_setCell_same _ _ _ _ _ _ hrg) (by decide)) hrr2 (by decide)) (heap_setCell_same _ _ _ _ _ _ hrr2) (by decide)) (heap_setCell_same _ _ _ _ _ _ (heap_setCell_same _ _ _ _ _ _ hrr2)) (by decide)) (heap_setCell_same _ _ _ _ _ _ (heap_setCell_same _ _ _ _ _ _ (heap_setCell_same _ _ _ _ _ _ hrr2))) (by decide)
    ·rw[show decide (0<=stack/\stack<=65536/\stack % 16=0)=false from decide_eq_false hs]at HSK
     go_upto_region 24 with (go_at_call 26;refine HWH.out.mono ?_;rintro e u9 ⟨rfl,rfl⟩)
     go_quiet ((go_at_call 27;exact Calls.quiet_of (HI9.out _)))
     go_wp2_with (go_at_call 28;refine (HSK.out _).mono ?_;rintro e u9 ⟨rfl,rfl⟩)
     refine bodyPost_ret (v:=.tuple #[.agg #[.slice none 0 0,.slice none 0 0,.int .i64 0,.int .i64 0],.int .i64 9,.int .i64 0]) (results_cell_tmp2 Tryz.results6 _ _ w.heap.size 28 _ (0,0) _ _ _ rfl rfl rfl (HRW'.out _) Tryz.underlying28 rfl (by kernel_rfl)) rfl (AsmSaid.no (HH9.out.1 hs) (by decide) (HBL'.out _))
  ·rw[hd]at d3
   have HA8:Hid (Pl.ansL (fun i=>okL (Pl.gl xs i)) xs stack=(8,0)):=H8'.out (fun j2 hj=>by rw[hw2]at hj;cases hj;exact .inl hd)
   clear hd hw1 hw2
   go_upto_region 24 with (go_at_call 26;refine HWH.out.mono ?_;rintro e u9 ⟨rfl,rfl⟩)
   go_quiet (fail)
   go_wp2_with fail
   refine bodyPost_ret (v:=.tuple #[.agg #[.slice none 0 0,.slice none 0 0,.int .i64 0,.int .i64 0],.int .i64 8,.int .i64 0]) (results_cell_tmp2 Tryz.results6 _ _ w.heap.size 28 _ (0,0) _ _ _ rfl rfl rfl (HRW'.out _) Tryz.underlying28 rfl (by kernel_rfl)) rfl (AsmSaid.no HA8.out (by decide) (HBL'.out _))
variable {lo:Nat} {xs:List Pl.Ln} {w Y u:World} {a:Option Addr} {len cap:Nat} {g9:Nat} {la:Option Addr} {lc:Nat} {aa:Option Addr} {ac:Nat}
set_option maxRecDepth 100000 in
theorem asm_t16 {stack:Int} {c2 c3 c5 c6 c8 c10 c11 c12 c13 c14 c15 c16 c17 c18 c19 c20 c21 c22 c23 c24 c25 c26 c27 c28 c29 c30 c31 c32 c33 c34 c35 c36 c37 c38 c39 c40 c41 c42 c43 c44 c45 c46 c47 c48 c49 c50 c51 c52 c53 c54 c55 c56 c57 c58 c59 c60 c61 c62 c63 c64 c65 c66 c67 c68 c69 c70 c71 c72 c73 c74 c75 c76 c77 c78 c79 c80 c81 c82 c83 c84 c85 c86 c87 c88 c89 c90 c91 c92 c93 c94 c95 c96 c97 c98 c99 c100 c101 c102 c103 c104 c105 c106 c107 c108 c109 c110 c111 c112 c113 c114 c115 c116 c117 c118 c119 c120 c121:Value} (h:AsmL lo xs w Y a len cap g9 la lc aa ac) (h4:Pl.fst1 (Pl.twice xs) xs.length=-1) (h5:Pl.fst1 (Pl.lost xs) xs.length=-1) :
  (asmF 16).wp Tryz.prog (bodyPost Tryz.prog Tryz.f6 (AsmSaid xs stack w)) { tmps:=#[.slice a len cap,.int .i64 stack,c2,c3,.pointer (some ⟨w.heap.size,0,none⟩),c5,c6,.pointer (some ⟨(w.heap.size+1),0,none⟩),c8,.pointer (some ⟨g9,0,none⟩),c10,c11,c12,c13,c14,c15,c16,c17,c18,c19,c20,c21,c22,c23,c24,c25,c26,c27,c28,c29,c30,c31,c32,c33,c34,c35,c36,c37,c38,c39,c40,c41,c42,c43,c44,c45,c46,c47,c48,c49,c50,c51,c52,c53,c54,c55,c56,c57,c58,c59,c60,c61,c62,c63,c64,c65,c66,c67,c68,c69,c70,c71,c72,c73,c74,c75,c76,c77,c78,c79,c80,c81,c82,c83,c84,c85,c86,c87,c88,c89,c90,c91,c92,c93,c94,c95,c96,c97,c98,c99,c100,c101,c102,c103,c104,c105,c106,c107,c108,c109,c110,c111,c112,c113,c114,c115,c116,c117,c118,c119,c120,c121],defers:=[] } Y:=by
 have HL:Hid (AsmL lo xs w Y a len cap g9 la lc aa ac):=h
 have hxl:=h.e.lenq
 have HXL:Hid (xs.length=len):=hxl
 have hbd:=Pl.cu_bd xs (fun i hi=>(h.e.known i hi).b) xs.length (Nat.le_refl _)
 have hn:=h.e.n
 have m0:=cell_of_row _ _ 0 _ 55 (0,0) h.row;have m1:=cell_of_row _ _ 1 _ 55 (0,0) h.row;have m2:=cell_of_row _ _ 2 _ 55 (0,0) h.row;have m3:=cell_of_row _ _ 3 _ 55 (0,0) h.row
 have r0:=cell_of_row _ _ 0 _ 28 (0,0) h.e.rows.1;have r1:=cell_of_row _ _ 1 _ 28 (0,0) h.e.rows.1;have r2:=cell_of_row _ _ 2 _ 28 (0,0) h.e.rows.1;have r3:=cell_of_row _ _ 3 _ 28 (0,0) h.e.rows.1
 have k0:=cell_of_row _ _ 0 _ 28 (0,0) h.e.rows.2;have k1:=cell_of_row _ _ 1 _ 28 (0,0) h.e.rows.2;have k2:=cell_of_row _ _ 2 _ 28 (0,0) h.e.rows.2;have k3:=cell_of_row _ _ 3 _ 28 (0,0) h.e.rows.2
 simp only[List.getElem?_toArray,List.getElem?_cons_zero,List.getElem?_cons_succ]at m0 m1 m2 m3 r0 r1 r2 r3 k0 k1 k2 k3
 have rf:∀ j,Y.frozen? ⟨w.heap.size,j,none⟩=false:=fun j=>frozen_of_row _ _ j _ 28 h.e.rows.1
 have HRW:=st4_row h.e.rows.1
 have HBL:=st4_below h.e.low
 have HRW':Hid ((st4 Y w.heap.size).heap[w.heap.size]?=some (.cells #[.slice none 0 0,.slice none 0 0,.int .i64 0,.int .i64 0] 28 (0,0))):=HRW
 have HBL':Hid (Below w.heap.size w (st4 Y w.heap.size)):=HBL
 have HFI:Hid (Calls Tryz.prog 25 #[.slice a len cap,.agg #[.slice la (Pl.lbs xs len).length lc,.slice aa len ac,.int .i64 ((Pl.cu xs len).t / 4),.int .i64 (Pl.cu xs len).b]] Y (FilSaid xs Y)):=l4Fill_is a len cap xs la _ lc aa ac _ _ Y h.e.lines (by rw[h.e.lenq];exact h.lb) h.at_ h.e.known h.stray (Pl.fst1_neg (by rw[h5];decide)).2 hn
 clear h HRW HBL
 rw[hxl]at hbd
 have hq4:(Pl.cu xs len).t=4*((Pl.cu xs len).t / 4):=by omega
 have HA5:=fun q=>Pl.ans5 (ok:=(fun i=>okL (Pl.gl xs i))) (stack:=stack) (by rw[hxl];omega) HL.out.e.ok HL.out.st h4 h5 q
 have HA6:=fun q6 q=>Pl.ans6 (ok:=(fun i=>okL (Pl.gl xs i))) (stack:=stack) (by rw[hxl];omega) HL.out.e.ok HL.out.st h4 h5 q6 q
 have HA7:=fun q6 q7 q=>Pl.ans7 (ok:=(fun i=>okL (Pl.gl xs i))) (stack:=stack) (by rw[hxl];omega) HL.out.e.ok HL.out.st h4 h5 q6 q7 q
 have H45:Hid (Pl.fst1 (Pl.twice xs) xs.length=-1/\Pl.fst1 (Pl.lost xs) xs.length=-1):=⟨h4,h5⟩
 have H5':Hid (∀ q,_):=HA5
 have H6':Hid (∀ q6 q,_):=HA6
 have H7':Hid (∀ q6 q7 q,_):=HA7
 clear h4 h5 HA5 HA6 HA7
 obtain⟨q,hq⟩:∃ q,q=(Pl.cu xs len).t / 4:=⟨_,rfl⟩
 obtain⟨b,hb⟩:∃ b,b=(Pl.cu xs len).b:=⟨_,rfl⟩
 rw[<- hq]at m2 HFI hq4
 rw[<- hb]at m3 HFI
 have HQ4:Hid ((Pl.cu xs xs.length).t=4*q):=by show _=_;rw[HXL.out];exact hq4
 have HB4:Hid ((Pl.cu xs xs.length).b=b):=by show _=_;rw[HXL.out,hb]
 have HQE:Hid (q=(Pl.cu xs len).t / 4):=hq
 have HBE:Hid (b=(Pl.cu xs len).b):=hb
 rw[<- hb]at hbd
 have hq0:0<=q/\q<=100000/\0<=b/\b<=1310720000:=by omega
 clear hq hb hq4 hbd
 have hne:w.heap.size+1≠w.heap.size:=by omega
 conv=>arg 2;whnf
 dsimp only
 by_cases c5:q<1\/16384<q
 ·rcases (show q<1\/(¬ q<1/\16384<q) by omega) with e | ⟨e1,e2⟩
  all_goals
   go_wp2
   refine bodyPost_ret (v:=.tuple #[.agg #[.slice none 0 0,.slice none 0 0,.int .i64 0,.int .i64 0],.int .i64 5,.int .i64 0]) (results_cell_tmp2 Tryz.results6 _ _ w.heap.size 28 _ (0,0) _ _ _ rfl rfl rfl HRW'.out Tryz.underlying28 rfl (by kernel_rfl)) rfl (AsmSaid.no (H5'.out (by rw[HQ4.out];omega)) (by decide) HBL'.out)
 have e1:¬ q<1:=by omega
 have e2:¬ 16384<q:=by omega
 have H6:Hid (¬ ((Pl.cu xs xs.length).t=0\/65536<(Pl.cu xs xs.length).t)):=by show ¬ _;rw[HQ4.out];omega
 by_cases c6:65536<b
 ·go_wp2
  refine bodyPost_ret (v:=.tuple #[.agg #[.slice none 0 0,.slice none 0 0,.int .i64 0,.int .i64 0],.int .i64 6,.int .i64 0]) (results_cell_tmp2 Tryz.results6 _ _ w.heap.size 28 _ (0,0) _ _ _ rfl rfl rfl HRW'.out Tryz.underlying28 rfl (by kernel_rfl)) rfl (AsmSaid.no (H6'.out H6.out (by rw[HB4.out];exact c6)) (by decide) HBL'.out)
 have H7:Hid (¬ 65536<(Pl.cu xs xs.length).b):=by show ¬ _;rw[HB4.out];exact c6
 have hzz:w.heap.size+1<Y.heap.size:=block_lt_of_cell k0
 generalize hz:Pl.fst1 (Pl.badJ xs) xs.length=z at *
 have HZ:Hid (Pl.fst1 (Pl.badJ xs) xs.length=z):=hz
 unfold FilSaid at HFI
 rw[hz]at HFI
 clear hz
 by_cases c7:0<=z
 ·go_wp2_with (go_at_call 25;refine HFI.out.mono ?_;rintro e u1 ⟨a1,n1,y1,a2,n2,y2,rfl,d1,_⟩; have HE1:Hid (AsmE lo xs w u1 a len cap):=HL.out.e.keep d1;have hs1:=d1.size;have r0:=(fun (o:Obj)=>below_cell (below_alloc u1 o) (below_cell d1 r0));have r1:=(fun (o:Obj)=>below_cell (below_alloc u1 o) (below_cell d1 r1));have r2:=(fun (o:Obj)=>below_cell (below_alloc u1 o) (below_cell d1 r2));have r3:=(fun (o:Obj)=>below_cell (below_alloc u1 o) (below_cell d1 r3));have k0:=(fun (o:Obj)=>below_cell (below_alloc u1 o) (below_cell d1 k0));have k1:=(fun (o:Obj)=>below_cell (below_alloc u1 o) (below_cell d1 k1));have k2:=(fun (o:Obj)=>below_cell (below_alloc u1 o) (below_cell d1 k2));have k3:=(fun (o:Obj)=>below_cell (below_alloc u1 o) (below_cell d1 k3));have rf:∀ (o:Obj) j,(u1.alloc o).frozen? ⟨w.heap.size,j,none⟩=false:=(fun o j=>frozen_of_row _ _ j _ 28 (HE1.out.keep (below_alloc u1 o)).rows.1);clear d1)
  have HU:Hid (AsmE lo xs w (u1.alloc (.cells #[.slice a1 n1 y1,.slice a2 n2 y2,.int .i64 0,.int .i64 0] 28)) a len cap):=HE1.out.keep (below_alloc u1 _)
  refine bodyPost_ret (v:=.tuple #[.agg #[.slice none 0 0,.slice none 0 0,.int .i64 0,.int .i64 0],.int .i64 7,.int .i64 z]) (results_cell_tmp2 Tryz.results6 _ _ w.heap.size 28 _ (0,0) _ _ _ rfl rfl rfl (st4_row HU.out.rows.1) Tryz.underlying28 rfl (by kernel_rfl)) rfl (AsmSaid.no (H7'.out H6.out H7.out c7) (by decide) (st4_below HU.out.low))
 have H8:Hid (Pl.fst1 (Pl.badJ xs) xs.length=-1):=(Pl.fst1_neg (by rw[HZ.out];exact c7)).1
 have hz1:z=-1:=by rw[<- HZ.out];exact H8.out
 have HFI2:Hid _:=HFI
 go_upto_region 21 with (go_at_call 25;refine HFI.out.mono ?_;rintro e u1 ⟨a1,n1,y1,a2,n2,y2,rfl,d1,hfin⟩; have HFN:Hid _:=hfin hz1;have HD1:Hid (Below Y.heap.size Y u1):=d1;have hs1:=d1.size;clear d1 hfin)
 rename_i Ka hKa Kb hKb
 have HKa:Hid _:=hKa
 clear hKa
 go_wp2_with fail
 refine HKa.out _ _ ?_
 have HLk:=(HL.out.keep HD1.out).keep (below_alloc u1 (.cells #[.slice a1 n1 y1,.slice a2 n2 y2,.int .i64 0,.int .i64 0] 28))
 have hYs:w.heap.size+2<=Y.heap.size:=by have:=HL.out.e.bel.size;rw[asW_size]at this;exact this
 refine asm_t23 (g10:=u1.heap.size) HLk (new_at rfl) (by omega) ((owns_mono HFN.out.1 (by omega)).alloc _) ((owns_mono HFN.out.2 (by omega)).alloc _) H45.out.1 H45.out.2 (by have:=H6.out;omega) (by have:=H7.out;omega) H8.out
variable {lo:Nat} {xs:List Pl.Ln} {w Y u:World} {a:Option Addr} {len cap:Nat}
set_option maxRecDepth 100000 in
theorem asm_t9 {stack:Int} {c2 c3 c5 c6 c8 c9 c10 c11 c12 c13 c14 c15 c16 c17 c18 c19 c20 c21 c22 c23 c24 c25 c26 c27 c28 c29 c30 c31 c32 c33 c34 c35 c36 c37 c38 c39 c40 c41 c42 c43 c44 c45 c46 c47 c48 c49 c50 c51 c52 c53 c54 c55 c56 c57 c58 c59 c60 c61 c62 c63 c64 c65 c66 c67 c68 c69 c70 c71 c72 c73 c74 c75 c76 c77 c78 c79 c80 c81 c82 c83 c84 c85 c86 c87 c88 c89 c90 c91 c92 c93 c94 c95 c96 c97 c98 c99 c100 c101 c102 c103 c104 c105 c106 c107 c108 c109 c110 c111 c112 c113 c114 c115 c116 c117 c118 c119 c120 c121:Value} (h:AsmE lo xs w Y a len cap):(asmF 9).wp Tryz.prog (bodyPost Tryz.prog Tryz.f6 (AsmSaid xs stack w)) { tmps:=#[.slice a len cap,.int .i64 stack,c2,c3,.pointer (some ⟨w.heap.size,0,none⟩),c5,c6,.pointer (some ⟨(w.heap.size+1),0,none⟩),c8,c9,c10,c11,c12,c13,c14,c15,c16,c17,c18,c19,c20,c21,c22,c23,c24,c25,c26,c27,c28,c29,c30,c31,c32,c33,c34,c35,c36,c37,c38,c39,c40,c41,c42,c43,c44,c45,c46,c47,c48,c49,c50,c51,c52,c53,c54,c55,c56,c57,c58,c59,c60,c61,c62,c63,c64,c65,c66,c67,c68,c69,c70,c71,c72,c73,c74,c75,c76,c77,c78,c79,c80,c81,c82,c83,c84,c85,c86,c87,c88,c89,c90,c91,c92,c93,c94,c95,c96,c97,c98,c99,c100,c101,c102,c103,c104,c105,c106,c107,c108,c109,c110,c111,c112,c113,c114,c115,c116,c117,c118,c119,c120,c121],defers:=[] } Y:=by
 have HE:Hid (AsmE lo xs w Y a len cap):=h
 have hxl:=h.lenq
 have HXL:Hid (xs.length=len):=hxl
 have hn:=h.n
 have hmx:Pl.fst1 (Pl.mixed xs) xs.length=Pl.fst1 (Pl.stray xs) xs.length:=Pl.fst1_ext fun j hj=>Pl.mixed_stray xs j hj (h.known j hj).b
 obtain⟨z2,hz2⟩:∃ z,z=Pl.fst1 (Pl.stray xs) xs.length:=⟨_,rfl⟩
 have HM:Hid (∀ n:Nat,Calls Tryz.prog 21 #[.slice a len cap] (Y.drewN n) fun e w'=>e=.returned (.int .i64 z2)/\w'=Y.drewN n):=fun n=>by rw[hz2,<- hmx];exact l4Mixed_is a len cap xs _ (h.keep (below_drewN (Below.refl _ _) n)).lines
 have A2:=fun q=>Pl.ans2 (ok:=(fun i=>okL (Pl.gl xs i))) (stack:=stack) (xs:=xs) (by omega) h.ok q
 rw[<- hz2]at A2
 have HA2:Hid (0<=z2->_):=A2
 have HZ2:Hid (z2=Pl.fst1 (Pl.stray xs) xs.length):=hz2
 have HLEN:Hid (xs.length<=20000):=by show _<=_;omega
 clear h hmx hz2 A2
 conv=>arg 2;whnf
 dsimp only
 by_cases c2:0<=z2
 ·go_upto_region 10 with (go_at_call 21;refine (HM.out 0).mono ?_;rintro e u1 ⟨rfl,he1⟩; have he2:u1=Y:=he1;subst he2;clear he1)
  refine asm10 w.heap.size (w.heap.size+1) 0 a len cap none 0 0 z2 _ HE.out.rows.2 HE.out.rows.1 ((HM.out 1).mono fun e w' hh=>⟨hh.1,by rw[hh.2];exact Below.refl _ _⟩) ?_
  intro w1 hw1
  have HE1:Hid (AsmE lo xs w w1 a len cap):=HE.out.keep hw1
  clear hw1
  go_wp2_with fail
  refine bodyPost_ret (v:=.tuple #[.agg #[.slice none 0 0,.slice none 0 0,.int .i64 0,.int .i64 0],.int .i64 2,.int .i64 z2]) (results_cell_tmp2 Tryz.results6 _ _ w.heap.size 28 _ (0,0) _ _ _ rfl rfl rfl (st4_row HE1.out.rows.1) Tryz.underlying28 rfl (by kernel_rfl)) rfl (AsmSaid.no (HA2.out c2) (by decide) (st4_below HE1.out.low))
 have hc2:z2=-1:=by rw[HZ2.out]at c2 ⊢; exact (Pl.fst1_neg c2).1
 have HST:Hid (Pl.fst1 (Pl.stray xs) xs.length=-1):=by show _=_;rw[<- HZ2.out];exact hc2
 rw[hc2]at HM
 have HLY:Hid (Calls Tryz.prog 22 #[.slice a len cap] Y (LaySaid xs len Y)):=l4Lay_is a len cap xs Y HE.out.lines (fun i hi=>(HE.out.known i hi).b) (Pl.fst1_neg (by rw[HST.out];decide)).2 hn
 unfold LaySaid at HLY
 obtain⟨z3,hz3⟩:∃ z,z=Pl.fst1 (Pl.twice xs) xs.length:=⟨_,rfl⟩
 obtain⟨z4,hz4⟩:∃ z,z=Pl.fst1 (Pl.lost xs) xs.length:=⟨_,rfl⟩
 have HZ3:Hid (Pl.twS xs (Pl.lbs xs len)=z3):=by show _=_;rw[hz3,<- Pl.twS_twice,HXL.out]
 have HZ4:Hid (Pl.fst1 (Pl.loS xs (Pl.lbs xs len)) xs.length=z4):=by
  show _=_
  rw[hz4]
  refine Pl.fst1_ext fun j hj=>?_
  have:=Pl.loS_lost xs j hj
  rw[HXL.out]at this
  exact this
 have HA3:Hid (0<=z3->Pl.ansL (fun i=>okL (Pl.gl xs i)) xs stack=(3,z3)):=fun q=>by rw[hz3]at q ⊢; exact Pl.ans3 HLEN.out HE.out.ok HST.out q
 have HA4:Hid (z3=-1->0<=z4->Pl.ansL (fun i=>okL (Pl.gl xs i)) xs stack=(4,z4)):=fun q3 q=>by rw[hz3]at q3;rw[hz4]at q ⊢; exact Pl.ans4 HLEN.out HE.out.ok HST.out q3 q
 have HZ3':Hid (z3=Pl.fst1 (Pl.twice xs) xs.length):=hz3
 have HZ4':Hid (z4=Pl.fst1 (Pl.lost xs) xs.length):=hz4
 clear hz3 hz4 hxl c2 HA2 HZ2 hc2
 have MIX:Hid True:=trivial
 by_cases c3:0<=z3
 ·go_upto_region 13 with (first | (go_at_call 21;refine (HM.out 0).mono ?_;rintro e u1 ⟨rfl,he1⟩; have he2:u1=Y:=he1;subst he2;clear he1) | (go_at_call 22;refine HLY.out.mono ?_;rintro e u2 hls;obtain⟨la,lc,aa,ac,he,hlb,hat,hbe⟩:=hls;subst he;have HLL:Hid (AsmL lo xs w (u2.alloc (.cells #[.slice la (Pl.lbs xs len).length lc,.slice aa len ac,.int .i64 ((Pl.cu xs len).t / 4),.int .i64 (Pl.cu xs len).b] 55)) a len cap u2.heap.size la lc aa ac):=⟨(HE.out.keep hbe).keep (below_alloc _ _),new_at rfl,hlb.keep (below_alloc _ _),hat.keep (below_alloc _ _),HST.out⟩; have HTW:Hid (Calls Tryz.prog 23 #[.slice la (Pl.lbs xs len).length lc] (u2.alloc (.cells #[.slice la (Pl.lbs xs len).length lc,.slice aa len ac,.int .i64 ((Pl.cu xs len).t / 4),.int .i64 (Pl.cu xs len).b] 55)) fun e w'=>e=.returned (.int .i64 z3)/\Below (u2.alloc (.cells #[.slice la (Pl.lbs xs len).length lc,.slice aa len ac,.int .i64 ((Pl.cu xs len).t / 4),.int .i64 (Pl.cu xs len).b] 55)).heap.size (u2.alloc (.cells #[.slice la (Pl.lbs xs len).length lc,.slice aa len ac,.int .i64 ((Pl.cu xs len).t / 4),.int .i64 (Pl.cu xs len).b] 55)) w'):=(by rw[<- HZ3.out];exact l4Twice_is _ _ _ xs _ _ HLL.out.lb);clear hlb hat hbe) | (go_at_call 23;refine HTW.out.mono ?_;rintro e u3 ⟨rfl,d3⟩; have HL3:Hid (AsmL lo xs w u3 a len cap u2.heap.size la lc aa ac):=HLL.out.keep d3;have mm3:u3.cell? ⟨u2.heap.size,0,none⟩=some (.slice la (Pl.lbs xs len).length lc):=cell_of_row _ _ 0 _ 55 (0,0) HL3.out.row;have HLO:Hid (∀ n:Nat,Calls Tryz.prog 24 #[.slice a len cap,.slice la (Pl.lbs xs len).length lc] (u3.drewN n) fun e w'=>e=.returned (.int .i64 z4)/\w'=u3.drewN n):=(fun n=>by rw[<- HZ4.out];exact l4Lost_is a len cap xs la _ lc _ _ (HL3.out.keep (below_drewN (Below.refl _ _) n)).e.lines (HL3.out.keep (below_drewN (Below.refl _ _) n)).lb);clear d3))
  refine asm13 w.heap.size (w.heap.size+1) u2.heap.size a len cap la _ lc z3 u3 HL3.out.e.rows.2 HL3.out.e.rows.1 mm3 ((by rw[<- HZ3.out];exact l4Twice_is _ _ _ xs _ _ (HL3.out.keep (Below.drew (Below.refl _ _))).lb)) ?_
  intro w1 hw1
  have HE1:Hid (AsmE lo xs w w1 a len cap):=HL3.out.e.keep hw1
  clear hw1
  go_wp2_with fail
  refine bodyPost_ret (v:=.tuple #[.agg #[.slice none 0 0,.slice none 0 0,.int .i64 0,.int .i64 0],.int .i64 3,.int .i64 z3]) (results_cell_tmp2 Tryz.results6 _ _ w.heap.size 28 _ (0,0) _ _ _ rfl rfl rfl (st4_row HE1.out.rows.1) Tryz.underlying28 rfl (by kernel_rfl)) rfl (AsmSaid.no (HA3.out c3) (by decide) (st4_below HE1.out.low))
 have hc3:z3=-1:=by rw[HZ3'.out]at c3 ⊢; exact (Pl.fst1_neg c3).1
 have HC3:Hid (z3=-1):=hc3
 have H3:Hid (Pl.fst1 (Pl.twice xs) xs.length=-1):=by show _=_;rw[<- HZ3'.out];exact hc3
 by_cases c4:0<=z4
 ·clear hc3
  go_upto_region 15 with (first | (go_at_call 21;refine (HM.out 0).mono ?_;rintro e u1 ⟨rfl,he1⟩; have he2:u1=Y:=he1;subst he2;clear he1) | (go_at_call 22;refine HLY.out.mono ?_;rintro e u2 hls;obtain⟨la,lc,aa,ac,he,hlb,hat,hbe⟩:=hls;subst he;have HLL:Hid (AsmL lo xs w (u2.alloc (.cells #[.slice la (Pl.lbs xs len).length lc,.slice aa len ac,.int .i64 ((Pl.cu xs len).t / 4),.int .i64 (Pl.cu xs len).b] 55)) a len cap u2.heap.size la lc aa ac):=⟨(HE.out.keep hbe).keep (below_alloc _ _),new_at rfl,hlb.keep (below_alloc _ _),hat.keep (below_alloc _ _),HST.out⟩; have HTW:Hid (Calls Tryz.prog 23 #[.slice la (Pl.lbs xs len).length lc] (u2.alloc (.cells #[.slice la (Pl.lbs xs len).length lc,.slice aa len ac,.int .i64 ((Pl.cu xs len).t / 4),.int .i64 (Pl.cu xs len).b] 55)) fun e w'=>e=.returned (.int .i64 z3)/\Below (u2.alloc (.cells #[.slice la (Pl.lbs xs len).length lc,.slice aa len ac,.int .i64 ((Pl.cu xs len).t / 4),.int .i64 (Pl.cu xs len).b] 55)).heap.size (u2.alloc (.cells #[.slice la (Pl.lbs xs len).length lc,.slice aa len ac,.int .i64 ((Pl.cu xs len).t / 4),.int .i64 (Pl.cu xs len).b] 55)) w'):=(by rw[<- HZ3.out];exact l4Twice_is _ _ _ xs _ _ HLL.out.lb);clear hlb hat hbe) | (go_at_call 23;refine HTW.out.mono ?_;rintro e u3 ⟨rfl,d3⟩; have HL3:Hid (AsmL lo xs w u3 a len cap u2.heap.size la lc aa ac):=HLL.out.keep d3;have mm3:u3.cell? ⟨u2.heap.size,0,none⟩=some (.slice la (Pl.lbs xs len).length lc):=cell_of_row _ _ 0 _ 55 (0,0) HL3.out.row;have HLO:Hid (∀ n:Nat,Calls Tryz.prog 24 #[.slice a len cap,.slice la (Pl.lbs xs len).length lc] (u3.drewN n) fun e w'=>e=.returned (.int .i64 z4)/\w'=u3.drewN n):=(fun n=>by rw[<- HZ4.out];exact l4Lost_is a len cap xs la _ lc _ _ (HL3.out.keep (below_drewN (Below.refl _ _) n)).e.lines (HL3.out.keep (below_drewN (Below.refl _ _) n)).lb);clear d3) | (go_at_call 24;refine (HLO.out 0).mono ?_;rintro e u4 ⟨rfl,he4⟩; have he5:u4=u3:=he4;subst he5;clear he4))
  refine asm15 w.heap.size (w.heap.size+1) u2.heap.size a len cap la _ lc z4 _ HL3.out.e.rows.2 HL3.out.e.rows.1 mm3 ((HLO.out 1).mono fun e w' hh=>⟨hh.1,by rw[hh.2];exact Below.refl _ _⟩) ?_
  intro w1 hw1
  have HE1:Hid (AsmE lo xs w w1 a len cap):=HL3.out.e.keep hw1
  clear hw1
  go_wp2_with fail
  refine bodyPost_ret (v:=.tuple #[.agg #[.slice none 0 0,.slice none 0 0,.int .i64 0,.int .i64 0],.int .i64 4,.int .i64 z4]) (results_cell_tmp2 Tryz.results6 _ _ w.heap.size 28 _ (0,0) _ _ _ rfl rfl rfl (st4_row HE1.out.rows.1) Tryz.underlying28 rfl (by kernel_rfl)) rfl (AsmSaid.no (HA4.out HC3.out c4) (by decide) (st4_below HE1.out.low))
 have hc4:z4=-1:=by rw[HZ4'.out]at c4 ⊢; exact (Pl.fst1_neg c4).1
 have H4:Hid (Pl.fst1 (Pl.lost xs) xs.length=-1):=by show _=_;rw[<- HZ4'.out];exact hc4
 clear hc3 hc4
 go_upto_region 14 with (first | (go_at_call 21;refine (HM.out 0).mono ?_;rintro e u1 ⟨rfl,he1⟩; have he2:u1=Y:=he1;subst he2;clear he1) | (go_at_call 22;refine HLY.out.mono ?_;rintro e u2 hls;obtain⟨la,lc,aa,ac,he,hlb,hat,hbe⟩:=hls;subst he;have HLL:Hid (AsmL lo xs w (u2.alloc (.cells #[.slice la (Pl.lbs xs len).length lc,.slice aa len ac,.int .i64 ((Pl.cu xs len).t / 4),.int .i64 (Pl.cu xs len).b] 55)) a len cap u2.heap.size la lc aa ac):=⟨(HE.out.keep hbe).keep (below_alloc _ _),new_at rfl,hlb.keep (below_alloc _ _),hat.keep (below_alloc _ _),HST.out⟩; have HTW:Hid (Calls Tryz.prog 23 #[.slice la (Pl.lbs xs len).length lc] (u2.alloc (.cells #[.slice la (Pl.lbs xs len).length lc,.slice aa len ac,.int .i64 ((Pl.cu xs len).t / 4),.int .i64 (Pl.cu xs len).b] 55)) fun e w'=>e=.returned (.int .i64 z3)/\Below (u2.alloc (.cells #[.slice la (Pl.lbs xs len).length lc,.slice aa len ac,.int .i64 ((Pl.cu xs len).t / 4),.int .i64 (Pl.cu xs len).b] 55)).heap.size (u2.alloc (.cells #[.slice la (Pl.lbs xs len).length lc,.slice aa len ac,.int .i64 ((Pl.cu xs len).t / 4),.int .i64 (Pl.cu xs len).b] 55)) w'):=(by rw[<- HZ3.out];exact l4Twice_is _ _ _ xs _ _ HLL.out.lb);clear hlb hat hbe) | (go_at_call 23;refine HTW.out.mono ?_;rintro e u3 ⟨rfl,d3⟩; have HL3:Hid (AsmL lo xs w u3 a len cap u2.heap.size la lc aa ac):=HLL.out.keep d3;have mm3:u3.cell? ⟨u2.heap.size,0,none⟩=some (.slice la (Pl.lbs xs len).length lc):=cell_of_row _ _ 0 _ 55 (0,0) HL3.out.row;have HLO:Hid (∀ n:Nat,Calls Tryz.prog 24 #[.slice a len cap,.slice la (Pl.lbs xs len).length lc] (u3.drewN n) fun e w'=>e=.returned (.int .i64 z4)/\w'=u3.drewN n):=(fun n=>by rw[<- HZ4.out];exact l4Lost_is a len cap xs la _ lc _ _ (HL3.out.keep (below_drewN (Below.refl _ _) n)).e.lines (HL3.out.keep (below_drewN (Below.refl _ _) n)).lb);clear d3))
 rename_i Ka hKa Kb hKb
 have HKa:Hid _:=hKa
 clear hKa
 go_wp2_with (go_at_call 24;refine (HLO.out 0).mono ?_;rintro e u4 ⟨rfl,he4⟩; have he5:u4=u3:=he4;subst he5;clear he4)
 refine HKa.out _ _ ?_
 exact asm_t16 HL3.out H3.out H4.out
set_option maxRecDepth 100000 in
theorem specAsm_is (a:Option Addr) (len cap:Nat) (xs:List Pl.Ln) (stack:Int) (w:World) (h:LRow lo w a len cap xs):Calls Tryz.prog 6 #[.slice a len cap,.int .i64 stack] w (AsmSaid xs stack w):=by
 have H:Hid (LRow lo w a len cap xs):=h
 obtain⟨hL,hm⟩:=h.len
 have HXL:Hid (xs.length=len):=hL
 have c0:∀ j,(asW w).cell? ⟨w.heap.size,j,none⟩=(#[.slice none 0 0,.slice none 0 0,.int .i64 0,.int .i64 0]:Array Value)[j]?:=fun j=>(Below.cell (below_alloc _ _) (p:=⟨w.heap.size,j,none⟩) (by simp)).trans (cell_of_row _ _ j _ 28 (0,0) (heap_alloc_new w _))
 clear h hL
 by_cases hn:20000<len
 ·have hi:(20000:Int)<(len:Int):=by omega
  have HB:Hid (Below w.heap.size w (asW w)):=asW_below w
  go_enter Tryz.func6,Tryz.ntmps6
  go_wp2
  refine bodyPost_ret (v:=.tuple #[.agg #[.slice none 0 0,.slice none 0 0,.int .i64 0,.int .i64 0],.int .i64 1,.int .i64 20000]) (results_cell_tmp2 Tryz.results6 _ _ w.heap.size 28 _ (0,0) _ _ _ rfl rfl rfl ((Below.heap_alloc _ _ _ (by simp)).trans (heap_alloc_new w _)) Tryz.underlying28 rfl (by kernel_rfl)) rfl (AsmSaid.no (Pl.ans1a (by rw[HXL.out];exact hn)) (by decide) HB.out)
 have hi:¬ (20000:Int)<(len:Int):=by omega
 have HSZ:Hid ((asW w).heap.size=w.heap.size+2):=asW_size w
 go_enter Tryz.func6,Tryz.ntmps6
 go_wp2_with fail
 rename_i Ka hKa
 have HKa:Hid _:=hKa
 clear hKa
 go_loopw [8] (fun i wr=>∃ k:Nat,k<=len/\i=.int .i64 k/\(∀ j,j<k->(!okL (Pl.gl xs j))=false)/\Below (asW w).heap.size (asW w) wr) (fun i _=>len-(intOf i).toNat)
 case atStart=>exact⟨0,Nat.zero_le _,rfl,fun j hj=>absurd hj (Nat.not_lt_zero _),Below.refl _ _⟩
 case round=>
  obtain⟨k,hk,rfl,hall,hbel⟩:=hrel
  have HA:Hid (∀ j,j<k->(!okL (Pl.gl xs j))=false):=hall
  have HB:Hid (Below (asW w).heap.size (asW w) wr):=hbel
  have HBW:Hid (Below w.heap.size w wr):=(asW_below w).trans (hbel.mono (by rw[asW_size];omega))
  clear hall
  by_cases hlt:k<len
  ·have hki:(k:Int)<(len:Int):=by omega
   obtain⟨b,off,haL,hlo,hb1,hsz,z0,z1,z2,z3,z4,z5,z6,z7⟩:=(H.out.keep HBW.out).at k hlt
   subst haL
   have HO:Hid (∀ u:World,Calls Tryz.prog 20 #[.agg #[.int .i64 (Pl.gl xs k).k,.int .i64 (Pl.gl xs k).op,.int .i64 (Pl.gl xs k).rd,.int .i64 (Pl.gl xs k).r1,.int .i64 (Pl.gl xs k).r2,.int .i64 (Pl.gl xs k).im,.string (Pl.gl xs k).s,.int .i64 (Pl.gl xs k).n]] u fun e w'=>e=.returned (.bool (okL (Pl.gl xs k)))/\Below u.heap.size u w'):=fun u=>specOk_is _ u
   generalize hok:okL (Pl.gl xs k)=ok at *
   have HOK:Hid (okL (Pl.gl xs k)=ok):=hok
   clear hok hbel hsz
   generalize hgx:Pl.gl xs k=x at *
   have HXE:Hid (Pl.gl xs k=x):=hgx
   clear hgx
   cases ok
   ·have HR1:Hid (∀ u,Below wr.heap.size wr u->Below (asW w).heap.size (asW w) u):=fun u hu=>HB.out.trans (hu.mono HB.out.size)
    go_wp2_with (go_at_call 20;refine (HO.out _).mono ?_;rintro e u1 ⟨rfl,d1⟩; have hb9:=HR1.out _ d1;have HB9:Hid (Below (asW w).heap.size (asW w) u1):=hb9;have hrw:u1.heap[w.heap.size]?=some (.cells #[.slice none 0 0,.slice none 0 0,.int .i64 0,.int .i64 0] 28 (0,0)):=(hb9.block _ (by rw[asW_size];omega)).trans ((Below.heap_alloc _ _ _ (by simp)).trans (heap_alloc_new w _));have hrk:u1.heap[w.heap.size+1]?=some (.cells #[.slice none 0 0,.slice none 0 0,.int .i64 0,.int .i64 0] 28 (0,0)):=(hb9.block _ (by rw[asW_size];omega)).trans (new_at (by simp));have r0:=cell_of_row _ _ 0 _ 28 (0,0) hrw;have r1:=cell_of_row _ _ 1 _ 28 (0,0) hrw;have r2:=cell_of_row _ _ 2 _ 28 (0,0) hrw;have r3:=cell_of_row _ _ 3 _ 28 (0,0) hrw;have k0:=cell_of_row _ _ 0 _ 28 (0,0) hrk;have k1:=cell_of_row _ _ 1 _ 28 (0,0) hrk;have k2:=cell_of_row _ _ 2 _ 28 (0,0) hrk;have k3:=cell_of_row _ _ 3 _ 28 (0,0) hrk;have rf:∀ j,u1.frozen? ⟨w.heap.size,j,none⟩=false:=(fun j=>frozen_of_row _ _ j _ 28 hrw);have HRW:Hid (u1.heap[w.heap.size]?=some (.cells #[.slice none 0 0,.slice none 0 0,.int .i64 0,.int .i64 0] 28 (0,0))):=hrw;clear hb9 hrw hrk d1)
    have hf:=Pl.fst1_at (fun i=>!okL (Pl.gl xs i)) xs.length k (by rw[HXL.out];exact hlt) (by show (!okL (Pl.gl xs k))=true;rw[HXE.out,HOK.out];rfl) HA.out
    refine bodyPost_ret (v:=.tuple #[.agg #[.slice none 0 0,.slice none 0 0,.int .i64 0,.int .i64 0],.int .i64 1,.int .i64 (k:Nat)]) (results_cell_tmp2 Tryz.results6 _ _ w.heap.size 28 _ (0,0) _ _ _ rfl rfl rfl (st4_row HRW.out) Tryz.underlying28 rfl (by kernel_rfl)) rfl (AsmSaid.no (by rw[<- hf];exact Pl.ans1b (by rw[HXL.out];omega) (by rw[hf];omega)) (by decide) (st4_below ((asW_below w).trans (HB9.out.mono (by rw[asW_size];omega)))))
   ·go_wp2_with (go_at_call 20;refine (HO.out _).mono ?_;rintro e u1 ⟨rfl,d1⟩; have HB9:Hid (Below (asW w).heap.size (asW w) u1):=HB.out.trans (d1.mono HB.out.size);clear d1)
    exact⟨⟨k+1,hlt,by go_num,Pl.all_next (p:=fun j=>!okL (Pl.gl xs j)) HA.out (by show (!okL (Pl.gl xs k))=false;rw[HXE.out,HOK.out];rfl),HB9.out⟩,by simp[intOf];omega⟩
  ·have hki:¬ (k:Int)<(len:Int):=by omega
   have hkk:k=len:=by omega
   have HKL:Hid (k=len):=hkk
   clear hkk hbel
   go_wp2
   refine HKa.out _ _ ?_
   exact asm_t9 ⟨HB.out,H.out,Pl.fst1_none _ _ (fun j hj=>HA.out j (by rw[HKL.out,<- HXL.out];exact hj)),by omega⟩
def LOwn (lo:Nat) (w:World) (a:Option Addr) (len:Nat) (xs:List Pl.Ln):Prop:=
 (xs.length=len/\∀ x∈xs,x.s.size<=maxLen)/\len<=maxLen/\∃ b,a=some ⟨b,0,none⟩/\lo<=b/\b<w.heap.size/\(∀ i,w.frozen? ⟨b,i,none⟩=false)/\∀ i,i<len->∀ j,j<8->w.cell? ⟨b,i*8+j,none⟩=(xs.getD i Pl.Ln.zero).cells[j]?
theorem LOwn.row {lo:Nat} {w:World} {a:Option Addr} {len:Nat} {xs:List Pl.Ln} (h:LOwn lo w a len xs):LRow lo w a len len xs:=by
 obtain⟨h1,h2,b,ha,hlo,hlt,_,hc⟩:=h
 exact⟨h1,Nat.le_refl _,h2,.inr ⟨b,0,ha,hlo,hlt,fun i hi j hj=>by rw[Nat.zero_add];exact hc i hi j hj⟩⟩
theorem ne_off {g p q:Nat} (h:p≠q):(⟨g,p,none⟩:Addr)≠⟨g,q,none⟩:=fun e=>h (by injection e)
theorem set8_out {u:World} {g o q:Nat} (x:Pl.Ln) (h:q<o\/o+8<=q):((((((((u.setCell ⟨g,o,none⟩ (.int .i64 x.k)).setCell ⟨g,o+1,none⟩ (.int .i64 x.op)).setCell ⟨g,o+2,none⟩ (.int .i64 x.rd)).setCell ⟨g,o+3,none⟩ (.int .i64 x.r1)).setCell ⟨g,o+4,none⟩ (.int .i64 x.r2)).setCell ⟨g,o+5,none⟩ (.int .i64 x.im)).setCell ⟨g,o+6,none⟩ (.string x.s)).setCell ⟨g,o+7,none⟩ (.int .i64 x.n)).cell? ⟨g,q,none⟩=u.cell? ⟨g,q,none⟩:=by
 rw[World.cell?_setCell_other _ _ _ _ (ne_off (by omega)),World.cell?_setCell_other _ _ _ _ (ne_off (by omega)),World.cell?_setCell_other _ _ _ _ (ne_off (by omega)),World.cell?_setCell_other _ _ _ _ (ne_off (by omega)),World.cell?_setCell_other _ _ _ _ (ne_off (by omega)),World.cell?_setCell_other _ _ _ _ (ne_off (by omega)),World.cell?_setCell_other _ _ _ _ (ne_off (by omega)),World.cell?_setCell_other _ _ _ _ (ne_off (by omega))]
theorem isSome_set {u:World} {p q:Addr} {v:Value} (h:(u.cell? q).isSome=true):((u.setCell p v).cell? q).isSome=true:=by
 obtain⟨x,hx⟩:=Option.isSome_iff_exists.1 h
 obtain⟨y,hy⟩:=cell?_setCell_some (p:=p) (x:=v) hx
 rw[hy];rfl
theorem set8_in {u:World} {g o:Nat} (x:Pl.Ln) (h:∀ j,j<8->(u.cell? ⟨g,o+j,none⟩).isSome=true) (j:Nat) (hj:j<8):((((((((u.setCell ⟨g,o,none⟩ (.int .i64 x.k)).setCell ⟨g,o+1,none⟩ (.int .i64 x.op)).setCell ⟨g,o+2,none⟩ (.int .i64 x.rd)).setCell ⟨g,o+3,none⟩ (.int .i64 x.r1)).setCell ⟨g,o+4,none⟩ (.int .i64 x.r2)).setCell ⟨g,o+5,none⟩ (.int .i64 x.im)).setCell ⟨g,o+6,none⟩ (.string x.s)).setCell ⟨g,o+7,none⟩ (.int .i64 x.n)).cell? ⟨g,o+j,none⟩=x.cells[j]?:=by
 have t:=h j hj
 rcases (show j=0\/j=1\/j=2\/j=3\/j=4\/j=5\/j=6\/j=7 by omega) with rfl | rfl | rfl | rfl | rfl | rfl | rfl | rfl
 ·change World.cell? _ ⟨g,o,none⟩=_
  rw[World.cell?_setCell_other _ _ _ _ (ne_off (by omega)),World.cell?_setCell_other _ _ _ _ (ne_off (by omega)),World.cell?_setCell_other _ _ _ _ (ne_off (by omega)),World.cell?_setCell_other _ _ _ _ (ne_off (by omega)),World.cell?_setCell_other _ _ _ _ (ne_off (by omega)),World.cell?_setCell_other _ _ _ _ (ne_off (by omega)),World.cell?_setCell_other _ _ _ _ (ne_off (by omega))]
  rw[World.cell?_setCell_same' _ _ _ (show (u.cell? ⟨g,o,none⟩).isSome=true from t)]
  rfl
 ·rw[World.cell?_setCell_other _ _ _ _ (ne_off (by omega)),World.cell?_setCell_other _ _ _ _ (ne_off (by omega)),World.cell?_setCell_other _ _ _ _ (ne_off (by omega)),World.cell?_setCell_other _ _ _ _ (ne_off (by omega)),World.cell?_setCell_other _ _ _ _ (ne_off (by omega)),World.cell?_setCell_other _ _ _ _ (ne_off (by omega))]
  rw[World.cell?_setCell_same' _ _ _ (isSome_set (t))]
  rfl
 ·rw[World.cell?_setCell_other _ _ _ _ (ne_off (by omega)),World.cell?_setCell_other _ _ _ _ (ne_off (by omega)),World.cell?_setCell_other _ _ _ _ (ne_off (by omega)),World.cell?_setCell_other _ _ _ _ (ne_off (by omega)),World.cell?_setCell_other _ _ _ _ (ne_off (by omega))]
  rw[World.cell?_setCell_same' _ _ _ (isSome_set (isSome_set (t)))]
  rfl
 ·rw[World.cell?_setCell_other _ _ _ _ (ne_off (by omega)),World.cell?_setCell_other _ _ _ _ (ne_off (by omega)),World.cell?_setCell_other _ _ _ _ (ne_off (by omega)),World.cell?_setCell_other _ _ _ _ (ne_off (by omega))]
  rw[World.cell?_setCell_same' _ _ _ (isSome_set (isSome_set (isSome_set (t))))]
  rfl
 ·rw[World.cell?_setCell_other _ _ _ _ (ne_off (by omega)),World.cell?_setCell_other _ _ _ _ (ne_off (by omega)),World.cell?_setCell_other _ _ _ _ (ne_off (by omega))]
  rw[World.cell?_setCell_same' _ _ _ (isSome_set (isSome_set (isSome_set (isSome_set (t)))))]
  rfl
 ·rw[World.cell?_setCell_other _ _ _ _ (ne_off (by omega)),World.cell?_setCell_other _ _ _ _ (ne_off (by omega))]
  rw[World.cell?_setCell_same' _ _ _ (isSome_set (isSome_set (isSome_set (isSome_set (isSome_set (t))))))]
  rfl
 ·rw[World.cell?_setCell_other _ _ _ _ (ne_off (by omega))]
  rw[World.cell?_setCell_same' _ _ _ (isSome_set (isSome_set (isSome_set (isSome_set (isSome_set (isSome_set (t)))))))]
  rfl
 ·rw[World.cell?_setCell_same' _ _ _ (isSome_set (isSome_set (isSome_set (isSome_set (isSome_set (isSome_set (isSome_set (t))))))))]
  rfl
theorem below_alloc2 (w:World) (o:Obj):Below w.heap.size w (w.alloc o):=(Below.refl _ _).alloc (Nat.le_refl _) _
theorem toLineS_any {lo:Nat} (a:Option Addr) (len cap:Nat) (xs:List Pl.Ln) (w:World) (h:LRow lo w a len cap xs) (hl:len<=1048576):Calls Tryz.prog 11 #[.slice a len cap] w fun e w'=>e=.returned (.slice (some ⟨w.heap.size,0,none⟩) len len)/\LOwn w.heap.size w' (some ⟨w.heap.size,0,none⟩) len xs/\Below w.heap.size w w':=by
 obtain⟨h1,h2,h3,h4⟩:=h
 have H4:Hid (len=0\/∃ b off,a=some ⟨b,off,none⟩/\lo<=b/\b<w.heap.size/\∀ i,i<len->∀ j,j<8->w.cell? ⟨b,off+i*8+j,none⟩=(xs.getD i Pl.Ln.zero).cells[j]?):=h4
 have H1:Hid (xs.length=len/\∀ x∈xs,x.s.size<=maxLen):=h1
 clear h4 h1
 have hinfo:(Tryz.prog.info? 51).map (fun i=>(i.zero,i.size,i.bytes))=some (some (.agg #[.int .i64 0,.int .i64 0,.int .i64 0,.int .i64 0,.int .i64 0,.int .i64 0,.string ⟨#[]⟩,.int .i64 0]),8,72):=by kernel_rfl
 obtain⟨i0,hi0,hz0,hz1,hz2⟩:=info_parts hinfo
 have hm:∀ u:World,(Instr.makeSlice 23 (.int .i64 (len:Int)) (.int .i64 (len:Int))).run Tryz.prog u=.ok (.slice (some ⟨u.heap.size,0,none⟩) len len) (u.alloc (.cells (madeCells #[.int .i64 0,.int .i64 0,.int .i64 0,.int .i64 0,.int .i64 0,.int .i64 0,.string ⟨#[]⟩,.int .i64 0] (len*8)) 51)):=fun u=>by
  have:=run_makeSlice u 23 51 i0 _ Tryz.underlying23 hi0 hz0 .i64 .i64 (len:Int) (len:Int) (by omega) (by omega) (by rw[hz1];simp;omega) (by rw[hz2];omega) (by omega)
  rw[hz1,Int.toNat_natCast]at this
  exact this
 clear hinfo hi0 hz0 hz1 hz2
 go_enter Tryz.func11,Tryz.ntmps11
 go_wp2_with fail
 clear hm
 go_loopw [4] (fun i wr=>∃ k:Nat,k<=len/\i=.int .i64 k/\w.heap.size<wr.heap.size/\(∀ q,wr.frozen? ⟨w.heap.size,q,none⟩=false)/\(∀ i,i<len->∀ j,j<8->wr.cell? ⟨w.heap.size,i*8+j,none⟩=(if i<k then xs.getD i Pl.Ln.zero else Pl.Ln.zero).cells[j]?)/\Below w.heap.size w wr) (fun i _=>len-(intOf i).toNat)
 case atStart=>
  refine⟨0,Nat.zero_le _,rfl,by simp,fun q=>frozen_of_row _ _ _ _ _ (heap_alloc_new w _),fun i hi j hj=>?_,below_alloc2 w _⟩
  rw[cell_of_row _ _ _ _ _ (0,0) (heap_alloc_new w _),if_neg (Nat.not_lt_zero _)]
  have e:(i*8+j) % 8=j:=by omega
  have hb:i*8+j<len*8:=by omega
  unfold madeCells
  rw[Array.getElem?_map,Array.getElem?_range,if_pos hb]
  simp only[Option.map_some,List.size_toArray,List.length_cons,List.length_nil,e]
  rcases (show j=0\/j=1\/j=2\/j=3\/j=4\/j=5\/j=6\/j=7 by omega) with rfl | rfl | rfl | rfl | rfl | rfl | rfl | rfl <;> rfl
 case round=>
  obtain⟨k,hk,rfl,hz,hfr,hcs,hbel⟩:=hrel
  have HC:Hid (∀ i,i<len->∀ j,j<8->wr.cell? ⟨w.heap.size,i*8+j,none⟩=(if i<k then xs.getD i Pl.Ln.zero else Pl.Ln.zero).cells[j]?):=hcs
  have HF:Hid (∀ q,wr.frozen? ⟨w.heap.size,q,none⟩=false):=hfr
  have HB:Hid (Below w.heap.size w wr):=hbel
  clear hcs hbel hfr
  by_cases hlt:k<len
  ·have hi:(k:Int)<(len:Int):=by omega
   obtain⟨b,off,rfl,hlo,hb1,hcell⟩:∃ b off,a=some ⟨b,off,none⟩/\lo<=b/\b<w.heap.size/\∀ i,i<len->∀ j,j<8->w.cell? ⟨b,off+i*8+j,none⟩=(xs.getD i Pl.Ln.zero).cells[j]?:=by
    rcases H4.out with h | h
    ·omega
    ·exact h
   obtain⟨x,hx⟩:∃ x,x=xs.getD k Pl.Ln.zero:=⟨_,rfl⟩
   have hc:∀ j,j<8->wr.cell? ⟨b,off+k*8+j,none⟩=x.cells[j]?:=fun j hj=>by rw[hx];exact (HB.out.cell (p:=⟨b,off+k*8+j,none⟩) hb1).trans (hcell k hlt j hj)
   have c0:wr.cell? ⟨b,off+k*8,none⟩=some (.int .i64 x.k):=hc 0 (by decide)
   have c1:wr.cell? ⟨b,off+k*8+1,none⟩=some (.int .i64 x.op):=hc 1 (by decide)
   have c2:wr.cell? ⟨b,off+k*8+2,none⟩=some (.int .i64 x.rd):=hc 2 (by decide)
   have c3:wr.cell? ⟨b,off+k*8+3,none⟩=some (.int .i64 x.r1):=hc 3 (by decide)
   have c4:wr.cell? ⟨b,off+k*8+4,none⟩=some (.int .i64 x.r2):=hc 4 (by decide)
   have c5:wr.cell? ⟨b,off+k*8+5,none⟩=some (.int .i64 x.im):=hc 5 (by decide)
   have c6:wr.cell? ⟨b,off+k*8+6,none⟩=some (.string x.s):=hc 6 (by decide)
   have c7:wr.cell? ⟨b,off+k*8+7,none⟩=some (.int .i64 x.n):=hc 7 (by decide)
   have HX:Hid (x=xs.getD k Pl.Ln.zero):=hx
   clear hc hcell hx
   go_wp2_with fail
   refine (toLine_any x.k x.op x.rd x.r1 x.r2 x.im x.n x.s wr).mono ?_
   rintro e u1 ⟨rfl,d1⟩
   have hf1:∀ q,u1.frozen? ⟨w.heap.size,q,none⟩=false:=fun q=>(d1.frozen (p:=⟨w.heap.size,q,none⟩) hz).trans (HF.out q)
   have hc1:∀ i,i<len->∀ j,j<8->u1.cell? ⟨w.heap.size,i*8+j,none⟩=(if i<k then xs.getD i Pl.Ln.zero else Pl.Ln.zero).cells[j]?:=fun i hi j hj=>(d1.cell (p:=⟨w.heap.size,i*8+j,none⟩) hz).trans (HC.out i hi j hj)
   have hk1:∀ j,j<8->u1.cell? ⟨w.heap.size,k*8+j,none⟩=Pl.Ln.zero.cells[j]?:=fun j hj=>by rw[hc1 k hlt j hj,if_neg (Nat.lt_irrefl _)]
   have HC1:Hid (∀ i,i<len->∀ j,j<8->u1.cell? ⟨w.heap.size,i*8+j,none⟩=(if i<k then xs.getD i Pl.Ln.zero else Pl.Ln.zero).cells[j]?):=hc1
   have e0:u1.cell? ⟨w.heap.size,k*8,none⟩=some (.int .i64 0):=hk1 0 (by decide)
   have e1:u1.cell? ⟨w.heap.size,k*8+1,none⟩=some (.int .i64 0):=hk1 1 (by decide)
   have e2:u1.cell? ⟨w.heap.size,k*8+2,none⟩=some (.int .i64 0):=hk1 2 (by decide)
   have e3:u1.cell? ⟨w.heap.size,k*8+3,none⟩=some (.int .i64 0):=hk1 3 (by decide)
   have e4:u1.cell? ⟨w.heap.size,k*8+4,none⟩=some (.int .i64 0):=hk1 4 (by decide)
   have e5:u1.cell? ⟨w.heap.size,k*8+5,none⟩=some (.int .i64 0):=hk1 5 (by decide)
   have e6:u1.cell? ⟨w.heap.size,k*8+6,none⟩=some (.string ⟨#[]⟩):=hk1 6 (by decide)
   have e7:u1.cell? ⟨w.heap.size,k*8+7,none⟩=some (.int .i64 0):=hk1 7 (by decide)
   have HD:Hid (Below w.heap.size w u1/\w.heap.size<u1.heap.size):=⟨HB.out.trans (d1.mono HB.out.size),Nat.lt_of_lt_of_le hz d1.size⟩
   have HK1:Hid (∀ j,j<8->u1.cell? ⟨w.heap.size,k*8+j,none⟩=Pl.Ln.zero.cells[j]?):=hk1
   clear hc1 hk1 d1 c0 c1 c2 c3 c4 c5 c6 c7 HC HF HB
   go_wp2_with fail
   go_roundw
   case rel=>
    have hsm:∀ j,j<8->(u1.cell? ⟨w.heap.size,k*8+j,none⟩).isSome=true:=fun j hj=>by rw[HK1.out j hj];rcases (show j=0\/j=1\/j=2\/j=3\/j=4\/j=5\/j=6\/j=7 by omega) with rfl | rfl | rfl | rfl | rfl | rfl | rfl | rfl <;> rfl
    have sin:=fun j hj=>set8_in (u:=u1) (g:=w.heap.size) (o:=k*8) x hsm j hj
    have sout:=fun q hq=>set8_out (u:=u1) (g:=w.heap.size) (o:=k*8) (q:=q) x hq
    have sbel:=((((((((HD.out.1.setCell (p:=⟨w.heap.size,k*8,none⟩) (Nat.le_refl _) (.int .i64 x.k)).setCell (p:=⟨w.heap.size,k*8+1,none⟩) (Nat.le_refl _) (.int .i64 x.op)).setCell (p:=⟨w.heap.size,k*8+2,none⟩) (Nat.le_refl _) (.int .i64 x.rd)).setCell (p:=⟨w.heap.size,k*8+3,none⟩) (Nat.le_refl _) (.int .i64 x.r1)).setCell (p:=⟨w.heap.size,k*8+4,none⟩) (Nat.le_refl _) (.int .i64 x.r2)).setCell (p:=⟨w.heap.size,k*8+5,none⟩) (Nat.le_refl _) (.int .i64 x.im)).setCell (p:=⟨w.heap.size,k*8+6,none⟩) (Nat.le_refl _) (.string x.s)).setCell (p:=⟨w.heap.size,k*8+7,none⟩) (Nat.le_refl _) (.int .i64 x.n))
    refine⟨k+1,by omega,by go_num,?_,?_,?_,sbel⟩
    ·simp only[World.size_setCell];exact HD.out.2
    ·intro q;simp only[World.frozen?_setCell];exact hf1 q
    ·intro i hi j hj
     by_cases e:i=k
     ·subst e
      rw[if_pos (Nat.lt_succ_self _),<- HX.out]
      exact sin j hj
     ·refine (sout _ (by omega)).trans ((HC1.out i hi j hj).trans ?_)
      by_cases e':i<k
      ·rw[if_pos e',if_pos (by omega)]
      ·rw[if_neg e',if_neg (by omega)]
   case measure=>simp[intOf];omega
  ·have hkk:k=len:=by omega
   have hi:¬ ((k:Int)<(len:Int)):=by omega
   have HZ:Hid (w.heap.size<wr.heap.size):=hz
   go_wp2
   go_ret
   refine⟨rfl,⟨H1.out,by unfold maxLen;omega,w.heap.size,rfl,Nat.le_refl _,HZ.out,HF.out,fun i hi j hj=>?_⟩,HB.out⟩
   rw[HC.out i hi j hj,if_pos (by omega)]
theorem calls_at7 {P:Program} {f:Nat} {args:Array Value} {W:World} {Q:Ending->World->Prop} (h:∀ U,U=W->Calls P f args U Q):Calls P f args W Q:=h W rfl
theorem eqInst5_same (x0 x1 x2 x3 x4:Int) (w:World):Calls Tryz.prog 95 #[.agg #[.int .i64 x0,.int .i64 x1,.int .i64 x2,.int .i64 x3,.int .i64 x4],.agg #[.int .i64 x0,.int .i64 x1,.int .i64 x2,.int .i64 x3,.int .i64 x4]] w fun e w'=>e=.returned (.bool true)/\Below w.heap.size w w':=by
 go_enter Tryz.func95,Tryz.ntmps95
 go_wp2
 go_ret
 exact⟨rfl,((Below.refl _ _).alloc (Nat.le_refl _) _).alloc (by simp) _⟩
theorem eqLine_same (x:Pl.Ln) (w:World):Calls Tryz.prog 51 #[.agg #[.int .i64 x.k,.int .i64 x.op,.int .i64 x.rd,.int .i64 x.r1,.int .i64 x.r2,.int .i64 x.im,.string x.s,.int .i64 x.n],.agg #[.int .i64 x.k,.int .i64 x.op,.int .i64 x.rd,.int .i64 x.r1,.int .i64 x.r2,.int .i64 x.im,.string x.s,.int .i64 x.n]] w fun e w'=>e=.returned (.bool true)/\Below w.heap.size w w':=by
 go_enter Tryz.func51,Tryz.ntmps51
 go_wp2_with fail
 refine calls_at7 fun u0 hu0=>?_
 have p0:u0.heap[w.heap.size]?=some (.cells #[.int .i64 x.k,.int .i64 x.op,.int .i64 x.rd,.int .i64 x.r1,.int .i64 x.r2,.int .i64 x.im,.string x.s,.int .i64 x.n] 51):=by
  rw[hu0,Below.heap_alloc _ _ _ (by simp)]
  exact heap_alloc_new w _
 have q0:u0.heap[w.heap.size+1]?=some (.cells #[.int .i64 x.k,.int .i64 x.op,.int .i64 x.rd,.int .i64 x.r1,.int .i64 x.r2,.int .i64 x.im,.string x.s,.int .i64 x.n] 51):=by
  rw[hu0]
  have:=heap_alloc_new (w.alloc (.cells #[.int .i64 x.k,.int .i64 x.op,.int .i64 x.rd,.int .i64 x.r1,.int .i64 x.r2,.int .i64 x.im,.string x.s,.int .i64 x.n] 51)) (.cells #[.int .i64 x.k,.int .i64 x.op,.int .i64 x.rd,.int .i64 x.r1,.int .i64 x.r2,.int .i64 x.im,.string x.s,.int .i64 x.n] 51)
  simpa using this
 have hb:Below w.heap.size w u0:=by
  rw[hu0]
  exact ((Below.refl _ _).alloc (Nat.le_refl _) _).alloc (by simp) _
 have hz:w.heap.size+1<u0.heap.size:=by rw[hu0];simp
 clear hu0
 refine (eqInst5_same _ _ _ _ _ u0).mono ?_
 rintro e u1 ⟨rfl,d1⟩
 have P1:=(d1.block _ (by omega)).trans p0
 have Q1:=(d1.block _ (by omega)).trans q0
 have kb:∀ j,u1.cell? ⟨w.heap.size,j,none⟩=(#[.int .i64 x.k,.int .i64 x.op,.int .i64 x.rd,.int .i64 x.r1,.int .i64 x.r2,.int .i64 x.im,.string x.s,.int .i64 x.n]:Array Value)[j]?:=fun j=>cell_of_row u1 w.heap.size j _ 51 (0,0) P1
 have kc:∀ j,u1.cell? ⟨w.heap.size+1,j,none⟩=(#[.int .i64 x.k,.int .i64 x.op,.int .i64 x.rd,.int .i64 x.r1,.int .i64 x.r2,.int .i64 x.im,.string x.s,.int .i64 x.n]:Array Value)[j]?:=fun j=>cell_of_row u1 (w.heap.size+1) j _ 51 (0,0) Q1
 have B1:Hid (Below w.heap.size w u1):=hb.trans (d1.mono (by omega))
 clear d1 p0 q0 hb hz P1 Q1
 go_wp2
 go_ret
 exact⟨rfl,B1.out⟩
set_option maxRecDepth 4000 in
theorem eqLineS_same {lo1 lo2:Nat} (a a':Option Addr) (len cap cap':Nat) (xs:List Pl.Ln) (w:World) (h:LRow lo1 w a len cap xs) (h':LRow lo2 w a' len cap' xs):Calls Tryz.prog 13 #[.slice a len cap,.slice a' len cap'] w fun e w'=>e=.returned (.bool true)/\Below w.heap.size w w':=by
 obtain⟨h1,h2,h3,h4⟩:=h
 obtain⟨_,h2',h3',h4'⟩:=h'
 have hm:(len:Int)<=9223372036854775807:=by unfold maxLen at h3;omega
 have H4:Hid (len=0\/∃ b off,a=some ⟨b,off,none⟩/\lo1<=b/\b<w.heap.size/\∀ i,i<len->∀ j,j<8->w.cell? ⟨b,off+i*8+j,none⟩=(xs.getD i Pl.Ln.zero).cells[j]?):=h4
 have H5:Hid (len=0\/∃ b off,a'=some ⟨b,off,none⟩/\lo2<=b/\b<w.heap.size/\∀ i,i<len->∀ j,j<8->w.cell? ⟨b,off+i*8+j,none⟩=(xs.getD i Pl.Ln.zero).cells[j]?):=h4'
 clear h4 h4' h1
 go_enter Tryz.func13,Tryz.ntmps13
 go_wp2_with fail
 go_loopw [5] (fun i wr=>∃ k:Nat,k<=len/\i=.int .i64 k/\Below w.heap.size w wr) (fun i _=>len-(intOf i).toNat)
 case atStart=>exact⟨0,Nat.zero_le _,rfl,Below.refl _ _⟩
 case round=>
  obtain⟨k,hk,rfl,hbel⟩:=hrel
  have HB:Hid (Below w.heap.size w wr):=hbel
  clear hbel
  by_cases hlt:k<len
  ·have hi:(k:Int)<(len:Int):=by omega
   obtain⟨b,off,rfl,hlo,hb1,hcell⟩:∃ b off,a=some ⟨b,off,none⟩/\lo1<=b/\b<w.heap.size/\∀ i,i<len->∀ j,j<8->w.cell? ⟨b,off+i*8+j,none⟩=(xs.getD i Pl.Ln.zero).cells[j]?:=by
    rcases H4.out with h | h
    ·omega
    ·exact h
   obtain⟨b',off',rfl,hlo',hb1',hcell'⟩:∃ b off,a'=some ⟨b,off,none⟩/\lo2<=b/\b<w.heap.size/\∀ i,i<len->∀ j,j<8->w.cell? ⟨b,off+i*8+j,none⟩=(xs.getD i Pl.Ln.zero).cells[j]?:=by
    rcases H5.out with h | h
    ·omega
    ·exact h
   obtain⟨x,hx⟩:∃ x,x=xs.getD k Pl.Ln.zero:=⟨_,rfl⟩
   have hc:∀ j,j<8->wr.cell? ⟨b,off+k*8+j,none⟩=x.cells[j]?:=fun j hj=>by rw[hx];exact (HB.out.cell (p:=⟨b,off+k*8+j,none⟩) hb1).trans (hcell k hlt j hj)
   have c0:wr.cell? ⟨b,off+k*8,none⟩=some (.int .i64 x.k):=hc 0 (by decide)
   have c1:wr.cell? ⟨b,off+k*8+1,none⟩=some (.int .i64 x.op):=hc 1 (by decide)
   have c2:wr.cell? ⟨b,off+k*8+2,none⟩=some (.int .i64 x.rd):=hc 2 (by decide)
   have c3:wr.cell? ⟨b,off+k*8+3,none⟩=some (.int .i64 x.r1):=hc 3 (by decide)
   have c4:wr.cell? ⟨b,off+k*8+4,none⟩=some (.int .i64 x.r2):=hc 4 (by decide)
   have c5:wr.cell? ⟨b,off+k*8+5,none⟩=some (.int .i64 x.im):=hc 5 (by decide)
   have c6:wr.cell? ⟨b,off+k*8+6,none⟩=some (.string x.s):=hc 6 (by decide)
   have c7:wr.cell? ⟨b,off+k*8+7,none⟩=some (.int .i64 x.n):=hc 7 (by decide)
   have he:∀ j,j<8->wr.cell? ⟨b',off'+k*8+j,none⟩=x.cells[j]?:=fun j hj=>by rw[hx];exact (HB.out.cell (p:=⟨b',off'+k*8+j,none⟩) hb1').trans (hcell' k hlt j hj)
   have e0:wr.cell? ⟨b',off'+k*8,none⟩=some (.int .i64 x.k):=he 0 (by decide)
   have e1:wr.cell? ⟨b',off'+k*8+1,none⟩=some (.int .i64 x.op):=he 1 (by decide)
   have e2:wr.cell? ⟨b',off'+k*8+2,none⟩=some (.int .i64 x.rd):=he 2 (by decide)
   have e3:wr.cell? ⟨b',off'+k*8+3,none⟩=some (.int .i64 x.r1):=he 3 (by decide)
   have e4:wr.cell? ⟨b',off'+k*8+4,none⟩=some (.int .i64 x.r2):=he 4 (by decide)
   have e5:wr.cell? ⟨b',off'+k*8+5,none⟩=some (.int .i64 x.im):=he 5 (by decide)
   have e6:wr.cell? ⟨b',off'+k*8+6,none⟩=some (.string x.s):=he 6 (by decide)
   have e7:wr.cell? ⟨b',off'+k*8+7,none⟩=some (.int .i64 x.n):=he 7 (by decide)
   clear hc he hcell hcell' hx
   have hU:=Tryz.underlying51
   go_wp2_with fail
   go_region_with (go_at_call 51;refine (eqLine_same x _).mono ?_;rintro e u1 ⟨rfl,d1⟩)
   all_goals
    have D1:Hid _:=d1
    clear d1 c0 c1 c2 c3 c4 c5 c6 c7 e0 e1 e2 e3 e4 e5 e6 e7
    go_wp2_with fail
    go_roundw
    case rel=>exact⟨k+1,by omega,by go_num,Below.trans (by repeat (first | exact HB.out | refine Below.drew ?_ | refine below_drewN ?_ _)) (D1.out.mono HB.out.size)⟩
    case measure=>simp[intOf];omega
  ·have hkk:k=len:=by omega
   have hi:¬ ((k:Int)<(len:Int)):=by omega
   go_wp2
   go_ret
   exact⟨rfl,HB.out⟩
theorem conv_one (w:World) (c:Int):(convert 22 9 (.slice (some ⟨w.heap.size,0,none⟩) 1 1)).run Tryz.prog (w.alloc (.cells #[.int .u8 c] 5))=.ok (.string (ByteArray.empty.push (UInt8.ofNat c.toNat))) (w.alloc (.cells #[.int .u8 c] 5)):=by
 rw[run_convert_bytes_string _ 22 9 5 _ _ _ Tryz.underlying22 Tryz.underlying5 Tryz.underlying9]
 refine run_bytesToString _ _ 1 1 [c] ?_
 refine (run_loadCells_list _ _ [.int .u8 c] ?_).trans rfl
 intro j v hj
 rcases j with _ | j
 ·cases hj
  exact cell_of_row _ w.heap.size 0 _ 5 (0,0) (heap_alloc_new w _)
 ·simp at hj
set_option maxRecDepth 8000 in
theorem markText_any (k:Int) (hk:0<=k/\k<=4611686018427387904) (w:World):Calls Tryz.prog 52 #[.int .i64 k] w fun e w'=>∃ s:ByteArray,e=.returned (.string s)/\s.size<=20/\Below w.heap.size w w':=by
 by_cases h0:k<=0
 ·go_enter Tryz.func52,Tryz.ntmps52
  go_wp2
  go_ret
  exact⟨_,rfl,by decide,Below.refl _ _⟩
 go_enter Tryz.func52,Tryz.ntmps52
 go_wp2_with fail
 go_loopw [0,3] (fun x v wr=>∃ (n:Int) (s:ByteArray) (m:Nat),x=.int .i64 n/\v=.string s/\0<=n/\n<=4611686018427387904/\n<10 ^ m/\s.size+m<=19/\Below w.heap.size w wr) (fun x _ _=>(intOf x).toNat)
 case atStart=>exact⟨k,⟨#[]⟩,19,rfl,rfl,hk.1,hk.2,by omega,by decide,Below.refl _ _⟩
 case round=>
  obtain⟨n,s,m,rfl,rfl,hn0,hn1,hnm,hsm,hbel⟩:=hrel
  have HB:Hid (Below w.heap.size w wr):=hbel
  have HM:Hid (n<10 ^ m):=hnm
  clear hbel hnm
  by_cases hp:0<n
  ·have hcv:=conv_one wr
   go_wp2
   go_roundw
   case rel=>
    obtain⟨m,rfl⟩:∃ m',m=m'+1:=by
     rcases m with _ | m
     ·have:=HM.out;simp at this;omega
     ·exact⟨m,rfl⟩
    have hq:n / 10<10 ^ m:=by
     have:=HM.out
     rw[Int.pow_succ]at this
     omega
    exact⟨n / 10,_,m,by go_num,rfl,by omega,by omega,hq,by simp;omega,HB.out.trans ((below_alloc2 wr _).mono HB.out.size)⟩
   case measure=>simp[intOf];omega
  ·go_wp2
   go_ret
   refine⟨_,rfl,?_,HB.out⟩
   have e1:(⟨#[109]⟩:ByteArray).size=1:=rfl
   simp[e1]
   omega
structure Besides (g:Nat) (w w':World):Prop where
 os:w'.os=w.os
 tape:w'.tape=w.tape
 output:w'.output=w.output
 size:w.heap.size<=w'.heap.size
 block:∀ k,k<w.heap.size->k≠g->w'.heap[k]?=w.heap[k]?
theorem Besides.refl (g:Nat) (w:World):Besides g w w:=⟨rfl,rfl,rfl,Nat.le_refl _,fun _ _ _=>rfl⟩
theorem Besides.setCell {g:Nat} {w u:World} (h:Besides g w u) (i:Nat) (x:Value):Besides g w (u.setCell ⟨g,i,none⟩ x):=
 ⟨h.os,h.tape,h.output,by simpa using h.size,fun k hk hg=>(Below.heap_setCell u ⟨g,i,none⟩ x k hg).trans (h.block k hk hg)⟩
theorem Besides.below {g:Nat} {w u v:World} (h:Besides g w u) (d:Below u.heap.size u v):Besides g w v:=
 ⟨d.os.trans h.os,d.tape.trans h.tape,d.output.trans h.output,Nat.le_trans h.size d.size,fun k hk hg=>(d.block k (Nat.lt_of_lt_of_le hk h.size)).trans (h.block k hk hg)⟩
structure Free (g n:Nat) (u:World):Prop where
 lt:g<u.heap.size
 frozen:∀ q,u.frozen? ⟨g,q,none⟩=false
 some:∀ q,q<n->(u.cell? ⟨g,q,none⟩).isSome=true
theorem Free.setCell {g n:Nat} {u:World} (h:Free g n u) (i:Nat) (x:Value):Free g n (u.setCell ⟨g,i,none⟩ x):=
 ⟨by simpa using h.lt,fun q=>by rw[World.frozen?_setCell];exact h.frozen q,fun q hq=>isSome_set (h.some q hq)⟩
theorem Free.below {g n:Nat} {u v:World} (h:Free g n u) (d:Below u.heap.size u v):Free g n v:=
 ⟨Nat.lt_of_lt_of_le h.lt d.size,fun q=>(d.frozen (p:=⟨g,q,none⟩) h.lt).trans (h.frozen q),fun q hq=>by rw[d.cell (p:=⟨g,q,none⟩) h.lt];exact h.some q hq⟩
theorem Free.cell {g n:Nat} {u:World} (h:Free g n u) {q:Nat} (hq:q<n):∃ y,u.cell? ⟨g,q,none⟩=.some y:=Option.isSome_iff_exists.1 (h.some q hq)
theorem LOwn.free {lo:Nat} {w:World} {a:Option Addr} {len:Nat} {xs:List Pl.Ln} (h:LOwn lo w a len xs):∃ g,a=some ⟨g,0,none⟩/\lo<=g/\Free g (len*8) w:=by
 obtain⟨_,_,b,ha,hlo,hlt,hf,hc⟩:=h
 refine⟨b,ha,hlo,hlt,hf,fun q hq=>?_⟩
 have e:q=q / 8*8+q % 8:=by omega
 have:=hc (q / 8) (by omega) (q % 8) (by omega)
 rw[<- e]at this
 rw[this]
 rcases (show q % 8=0\/q % 8=1\/q % 8=2\/q % 8=3\/q % 8=4\/q % 8=5\/q % 8=6\/q % 8=7 by omega) with h | h | h | h | h | h | h | h <;> rw[h] <;> rfl
set_option maxRecDepth 8000 in
theorem markLineS_any (g len:Nat) (k:Int) (w:World) (h:Free g (len*8) w) (hl:len<=1048576) (hk:0<=k/\k<=1048576):Calls Tryz.prog 14 #[.slice (some ⟨g,0,none⟩) len len,.int .i64 k] w fun e w'=>∃ r:Int,e=.returned (.int .i64 r)/\0<=r/\r<=16777216/\Free g (len*8) w'/\Besides g w w':=by
 have H0:Hid (Free g (len*8) w):=h
 clear h
 go_enter Tryz.func14,Tryz.ntmps14
 go_wp2_with fail
 go_loopw [1,5] (fun x i wr=>∃ j:Nat,j<=len/\i=.int .i64 j/\x=.int .i64 (k+(j:Int)*8)/\Free g (len*8) wr/\Besides g w wr) (fun _ i _=>len-(intOf i).toNat)
 case atStart=>exact⟨0,Nat.zero_le _,rfl,by simp,H0.out,Besides.refl _ _⟩
 case round=>
  obtain⟨j,hj,rfl,rfl,ho,ht⟩:=hrel
  have HO:Hid (Free g (len*8) wr):=ho
  have HT:Hid (Besides g w wr):=ht
  clear ht H0
  by_cases hlt:j<len
  ·have hi:(j:Int)<(len:Int):=by omega
   have fz:=ho.frozen
   obtain⟨y0,c0⟩:=ho.cell (q:=j*8) (by omega)
   obtain⟨y1,c1⟩:=ho.cell (q:=j*8+1) (by omega)
   obtain⟨y2,c2⟩:=ho.cell (q:=j*8+2) (by omega)
   obtain⟨y3,c3⟩:=ho.cell (q:=j*8+3) (by omega)
   obtain⟨y4,c4⟩:=ho.cell (q:=j*8+4) (by omega)
   obtain⟨y5,c5⟩:=ho.cell (q:=j*8+5) (by omega)
   clear ho
   go_wp2_with fail
   refine calls_at7 fun u0 hu0=>?_
   have F0:Free g (len*8) u0:=by rw[hu0];exact ((((((HO.out.setCell _ _).setCell _ _).setCell _ _).setCell _ _).setCell _ _).setCell _ _)
   have T0:Besides g w u0:=by rw[hu0];exact ((((((HT.out.setCell _ _).setCell _ _).setCell _ _).setCell _ _).setCell _ _).setCell _ _)
   clear hu0 fz c0 c1 c2 c3 c4 c5
   refine (markText_any _ (by omega) u0).mono ?_
   rintro e u1 ⟨s,rfl,hs,d1⟩
   have F1:=F0.below d1
   have fz:=F1.frozen
   obtain⟨y6,c6⟩:=F1.cell (q:=j*8+6) (by omega)
   obtain⟨y7,c7⟩:=F1.cell (q:=j*8+7) (by omega)
   have G1:Hid (Free g (len*8) u1/\Besides g w u1):=⟨F1,T0.below d1⟩
   clear F0 F1 T0 d1 HO HT
   go_wp2_with fail
   go_roundw
   case rel=>exact⟨j+1,by omega,by go_num,by go_num,(G1.out.1.setCell _ _).setCell _ _,(G1.out.2.setCell _ _).setCell _ _⟩
   case measure=>simp[intOf];omega
  ·have hkk:j=len:=by omega
   have hi:¬ ((j:Int)<(len:Int)):=by omega
   clear ho
   go_wp2
   go_ret
   exact⟨_,rfl,by omega,by omega,HO.out,HT.out⟩
end Go.Proofs.YtlbomnnldkeocaaGreat.W
namespace Go.Proofs.YtlbomnnldkeocaaGreat.Pl
theorem ans_zero {ok:Nat->Bool} {xs:List Ln} {stack:Int} (h:(ansL ok xs stack).1=0):xs.length<=20000/\(∀ i,i<xs.length->ok i=true)/\(∀ i,i<xs.length->stray xs i=false)/\(cu xs xs.length).t<=65536/\(cu xs xs.length).b<=65536:=by
 unfold ansL at h
 by_cases h1:20000<xs.length
 ·rw[if_pos h1]at h;exact absurd h (show ¬ (1:Int)=0 by decide)
 rw[if_neg h1]at h
 by_cases h2:0<=fst1 (fun i=>!ok i) xs.length
 ·rw[if_pos h2]at h;exact absurd h (show ¬ (1:Int)=0 by decide)
 rw[if_neg h2]at h
 by_cases h3:0<=fst1 (stray xs) xs.length
 ·rw[if_pos h3]at h;exact absurd h (show ¬ (2:Int)=0 by decide)
 rw[if_neg h3]at h
 by_cases h4:0<=fst1 (twice xs) xs.length
 ·rw[if_pos h4]at h;exact absurd h (show ¬ (3:Int)=0 by decide)
 rw[if_neg h4]at h
 by_cases h5:0<=fst1 (lost xs) xs.length
 ·rw[if_pos h5]at h;exact absurd h (show ¬ (4:Int)=0 by decide)
 rw[if_neg h5]at h
 by_cases h6:(cu xs xs.length).t=0\/65536<(cu xs xs.length).t
 ·rw[if_pos h6]at h;exact absurd h (show ¬ (5:Int)=0 by decide)
 rw[if_neg h6]at h
 by_cases h7:65536<(cu xs xs.length).b
 ·rw[if_pos h7]at h;exact absurd h (show ¬ (6:Int)=0 by decide)
 refine⟨by omega,fun i hi=>?_,fun i hi=>(fst1_neg h3).2 i hi,by omega,by omega⟩
 have:=(fst1_neg h2).2 i hi
 simpa using this
theorem bys_bd (v:Int) (n:Nat):∀ x∈bys v n,0<=x/\x<=255:=by
 intro x hx
 unfold bys at hx
 obtain⟨i,_,rfl⟩:=List.mem_map.1 hx
 omega
theorem dataL_bd (xs:List Ln) (m:Nat):∀ x∈dataL xs m,0<=x/\x<=255:=by
 intro x hx
 unfold dataL at hx
 obtain⟨i,_,hi⟩:=List.mem_flatMap.1 hx
 unfold dat at hi
 split at hi
 ·have:=(List.mem_replicate.1 hi).2;omega
 ·split at hi
  ·exact bys_bd _ _ x hi
  ·cases hi
end Go.Proofs.YtlbomnnldkeocaaGreat.Pl
namespace Go.Proofs.YtlbomnnldkeocaaGreat.W
open Go.RowKit
theorem below_then {w W v:World} (d:Below W.heap.size W v) (h:Below w.heap.size w W):Below w.heap.size w v:=h.trans (d.mono h.size)
theorem ewI_bd (x:Pl.Ins):0<=ewI x/\ewI x<=1099511627776:=by
 unfold ewI
 split
 ·rename_i h
  obtain⟨k,hk,h1,h2⟩:=ins_nat h
  have hok:Pl.okF (Pl.fmN x.op.toNat) x.rd x.r1 x.r2 x.im=true:=by
   unfold Pl.Ins.ok at h;rw[Bool.and_eq_true]at h;exact h.2
  have e:x.op.toNat=k:=by omega
  rw[e]at hok ⊢
  obtain⟨g0,g1,g2,g3⟩:=Pl.okF_parts hok
  obtain⟨a1,a2,_⟩:=Pl.rg_bd g0
  obtain⟨b1,b2,_⟩:=Pl.rg_bd g1
  obtain⟨c1,c2,_⟩:=Pl.rg_bd g2
  obtain⟨f1,f2,_⟩:=Pl.fm_cases k (by omega) h1
  obtain⟨i1,i2⟩:=Pl.imw_bd _ f1 f2 x.im
  obtain⟨p0,q0⟩:=Pl.cc_bd' k (by omega) 0 (by omega)
  obtain⟨p1,q1⟩:=Pl.cc_bd' k (by omega) 1 (by omega)
  obtain⟨p2,q2⟩:=Pl.cc_bd' k (by omega) 2 (by omega)
  obtain⟨p3,q3⟩:=Pl.cc_bd' k (by omega) 3 (by omega)
  unfold Pl.enc Pl.cw
  generalize Pl.imw (Pl.fmN k) x.im=M at *
  generalize Pl.cc k 0=x0 at *
  generalize Pl.cc k 1=x1 at *
  generalize Pl.cc k 2=x2 at *
  generalize Pl.cc k 3=x3 at *
  omega
 ·omega
theorem codeL_bd (xs:List Pl.Ln) (m:Nat):∀ x∈Pl.codeL ewI xs m,0<=x/\x<=1099511627776:=by
 intro x hx
 unfold Pl.codeL at hx
 obtain⟨i,_,hi⟩:=List.mem_flatMap.1 hx
 obtain⟨y,_,rfl⟩:=List.mem_map.1 hi
 exact ewI_bd y
noncomputable def aC (xs:List Pl.Ln) (stack:Int):Int:=(Pl.ansL (fun i=>okL (Pl.gl xs i)) xs stack).1
noncomputable def aP (xs:List Pl.Ln) (stack:Int):Int:=(Pl.ansL (fun i=>okL (Pl.gl xs i)) xs stack).2
noncomputable def imgA (xs:List Pl.Ln) (stack:Int):Pl.Img:=if aC xs stack=0 then ⟨Pl.codeL ewI xs xs.length,Pl.dataL xs xs.length,Pl.adr xs Pl.startS,stack⟩ else ⟨[],[],0,0⟩
theorem imgA_small (xs:List Pl.Ln) (stack:Int):(imgA xs stack).code.length<=16384/\(imgA xs stack).data.length<=65536:=by
 unfold imgA
 split
 ·rename_i h
  obtain⟨h1,h2,h3,h4,h5⟩:=Pl.ans_zero h
  have:=Pl.laid_len ewI xs (fun i hi=>(okL_known (h2 i hi)).b) h3 xs.length (Nat.le_refl _)
  show (Pl.codeL ewI xs xs.length).length<=16384/\(Pl.dataL xs xs.length).length<=65536
  omega
 ·exact⟨Nat.zero_le _,Nat.zero_le _⟩
structure AGot (lo hi:Nat) (u:World) (v:IV) (m:Pl.Img):Prop where
 code:Own .i64 3 lo u v.code.a v.code.len v.code.cap m.code
 data:Own .u8 5 lo u v.data.a v.data.len v.data.cap m.data
 atc:∀ ad,v.code.a=some ad->lo<=ad.block/\ad.block<hi
 atd:∀ ad,v.data.a=some ad->lo<=ad.block/\ad.block<hi
 apart:∀ ad ad',v.code.a=some ad->v.data.a=some ad'->ad.block≠ad'.block
 clen:v.code.len<=16384
 dlen:v.data.len<=65536
theorem AGot.is {lo hi:Nat} {u:World} {v:IV} {m:Pl.Img} (h:AGot lo hi u v m):IIs lo u v m:=⟨h.code.row,h.data.row⟩
theorem own_sl2 {B:Nat} {e:TypeId} {k:Nat} {v:Value} {n:Nat} {xs:List Value} {w:World} (h:w.ownsRow B e k v n xs):∃ a c,v=.slice a n c/\(∀ ad,a=some ad->B<=ad.block/\ad.block<w.heap.size/\∃ cs fr,w.heap[ad.block]?=some (.cells cs e fr)):=by
 have hl:=h.lt
 obtain⟨h1,h2⟩:=h
 rcases h2 with ⟨a,b⟩ | ⟨g,cap,cur,h0,hlo,hg,r⟩
 ·refine⟨none,0,?_,fun _ q=>by cases q⟩
  rw[a];congr 1;first | exact b.symm | omega | (simp_all)
 ·refine⟨some ⟨g,0,none⟩,cap,h0,?_⟩
  intro ad had
  cases had
  have:=hl g (by rw[h0];rfl)
  exact⟨this.1,this.2,_,_,hg⟩
theorem own_nil (k:IntKind) (e:TypeId) (lo:Nat) (w:World):Own k e lo w none 0 0 []:=⟨⟨rfl,.inl ⟨rfl,rfl⟩⟩,fun _ h=>(by cases h)⟩
theorem AsmSaid.got {xs:List Pl.Ln} {stack:Int} {w w':World} {e:Ending} (h:AsmSaid xs stack w e w'):∃ v:IV,e=.returned (.tuple #[.agg #[.slice v.code.a v.code.len v.code.cap,.slice v.data.a v.data.len v.data.cap,.int .i64 (imgA xs stack).entry,.int .i64 (imgA xs stack).size],.int .i64 (aC xs stack),.int .i64 (aP xs stack)])/\AGot w.heap.size w'.heap.size w' v (imgA xs stack)/\Below w.heap.size w w':=by
 obtain⟨vc,vd,en,sk,rfl,hb,hz,hn⟩:=h
 have hs:=imgA_small xs stack
 by_cases hc:aC xs stack=0
 ·obtain⟨hcode,hdata,rfl,rfl⟩:=hz hc
  have e0:imgA xs sk=⟨Pl.codeL ewI xs xs.length,Pl.dataL xs xs.length,Pl.adr xs Pl.startS,sk⟩:=by unfold imgA;rw[if_pos hc]
  rw[e0]at hs ⊢
  obtain⟨a,c,rfl,p⟩:=own_sl2 hcode
  obtain⟨a',c',rfl,p'⟩:=own_sl2 hdata
  refine⟨⟨⟨a,_,c⟩,⟨a',_,c'⟩⟩,rfl,⟨⟨hcode,fun n hn=>?_⟩,⟨hdata,fun n hn=>?_⟩,fun ad q=>⟨(p ad q).1,(p ad q).2.1⟩,fun ad q=>⟨(p' ad q).1,(p' ad q).2.1⟩,fun ad ad' q q' hne=>?_,hs.1,hs.2⟩,hb⟩
  ·have:=codeL_bd xs _ n hn
   exact WalkArith.wf_i64 ⟨by omega,by omega⟩
  ·have:=Pl.dataL_bd xs _ n hn
   exact WalkArith.wf_u8 ⟨by omega,by omega⟩
  ·obtain⟨_,_,cs,fr,b1⟩:=p ad q
   obtain⟨_,_,cs',fr',b2⟩:=p' ad' q'
   rw[hne,b2]at b1
   injection b1 with b1
   injection b1 with _ b1
   exact absurd b1 (by decide)
 ·obtain⟨rfl,rfl,rfl,rfl⟩:=hn hc
  have e0:imgA xs stack=⟨[],[],0,0⟩:=by unfold imgA;rw[if_neg hc]
  rw[e0]
  exact⟨⟨⟨none,0,0⟩,⟨none,0,0⟩⟩,rfl,⟨own_nil _ _ _ _,own_nil _ _ _ _,(fun _ q=>(by cases q)),(fun _ q=>(by cases q)),(fun _ _ q=>(by cases q)),Nat.zero_le _,Nat.zero_le _⟩,hb⟩
theorem own_same {k:IntKind} {e:TypeId} {lo:Nat} {w w':World} {a:Option Addr} {len cap:Nat} {zs:List Int} (h:Own k e lo w a len cap zs) (hb:∀ ad,a=some ad->w'.heap[ad.block]?=w.heap[ad.block]?):Own k e lo w' a len cap zs:=by
 obtain⟨⟨h1,h2⟩,h3⟩:=h
 refine⟨⟨h1,?_⟩,h3⟩
 rcases h2 with ⟨p,q⟩ | ⟨g,c,cur,h0,hlo,hg,r⟩
 ·exact .inl ⟨p,q⟩
 ·refine .inr ⟨g,c,cur,h0,hlo,?_,r⟩
  have h0':=h0
  simp only[Value.slice.injEq]at h0'
  exact (hb ⟨g,0,none⟩ h0'.1).trans hg
theorem AGot.same {lo hi:Nat} {u u':World} {v:IV} {m:Pl.Img} (h:AGot lo hi u v m) (hb:∀ g,lo<=g->g<hi->u'.heap[g]?=u.heap[g]?):AGot lo hi u' v m:=
 ⟨own_same h.code fun ad q=>hb _ (h.atc ad q).1 (h.atc ad q).2,own_same h.data fun ad q=>hb _ (h.atd ad q).1 (h.atd ad q).2,h.atc,h.atd,h.apart,h.clen,h.dlen⟩
theorem AGot.keep {lo hi:Nat} {u u':World} {v:IV} {m:Pl.Img} (h:AGot lo hi u v m) (hi':hi<=u.heap.size) (d:Below u.heap.size u u'):AGot lo hi u' v m:=h.same fun g _ h2=>d.block g (by omega)
theorem AGot.besides {lo hi g0:Nat} {u u':World} {v:IV} {m:Pl.Img} (h:AGot lo hi u v m) (hi':hi<=u.heap.size) (d:Besides g0 u u') (hg:g0<lo\/hi<=g0):AGot lo hi u' v m:=h.same fun g h1 h2=>d.block g (by omega) (by omega)
structure Wrote (lo hi:Nat) (w w':World):Prop where
 os:w'.os=w.os
 tape:w'.tape=w.tape
 output:w'.output=w.output
 size:w.heap.size<=w'.heap.size
 block:∀ k,k<w.heap.size->k<lo\/hi<=k->w'.heap[k]?=w.heap[k]?
theorem AGot.wrote {lo hi a b:Nat} {u u':World} {v:IV} {m:Pl.Img} (h:AGot lo hi u v m) (hi':hi<=u.heap.size) (d:Wrote a b u u') (hg:hi<=a\/b<=lo):AGot lo hi u' v m:=h.same fun g h1 h2=>d.block g (by omega) (by omega)
theorem below_wrote {B a b:Nat} {w u v:World} (h:Below B w u) (d:Wrote a b u v) (hg:B<=a) (hB:B<=u.heap.size):Below B w v:=
 ⟨d.os.trans h.os,d.tape.trans h.tape,d.output.trans h.output,Nat.le_trans h.size d.size,fun k hk=>(d.block k (by omega) (by omega)).trans (h.block k hk)⟩
theorem Wrote.of_below {a b:Nat} {w w':World} (d:Below w.heap.size w w'):Wrote a b w w':=⟨d.os,d.tape,d.output,d.size,fun k hk _=>d.block k hk⟩
theorem Wrote.touch {a b:Nat} {p:Option Addr} {w u v:World} (h:Wrote a b w u) (d:Touch p u v) (hp:∀ ad,p=some ad->a<=ad.block/\ad.block<b):Wrote a b w v:=
 ⟨d.os.trans h.os,d.tape.trans h.tape,d.output.trans h.output,by rw[d.size];exact h.size,fun k hk hq=>(d.block k (fun ad had=>by have:=hp ad had;omega)).trans (h.block k hk hq)⟩
theorem markImage_got {lo hi:Nat} (v:IV) (m:Pl.Img) (w:World) (h:AGot lo hi w v m) (hh:hi<=w.heap.size) :
  Calls Tryz.prog 15 #[.agg #[.slice v.code.a v.code.len v.code.cap,.slice v.data.a v.data.len v.data.cap,.int .i64 m.entry,.int .i64 m.size],.int .i64 1] w fun e w'=>e=.returned (.int .i64 (1+v.code.len+v.data.len))/\Own .i64 3 lo w' v.code.a v.code.len v.code.cap (mkIntS 1 v.code.len)/\Own .u8 5 lo w' v.data.a v.data.len v.data.cap (mkByteS (1+v.code.len) v.data.len)/\Wrote lo hi w w':=by
 obtain⟨r0,r1,pc,pd,pa,l0,l1⟩:=h
 have R0:Hid (Own .i64 3 lo w v.code.a v.code.len v.code.cap m.code):=r0
 have R1:Hid (Own .u8 5 lo w v.data.a v.data.len v.data.cap m.data):=r1
 have PC:Hid (∀ ad,v.code.a=some ad->lo<=ad.block/\ad.block<hi):=pc
 have PD:Hid (∀ ad,v.data.a=some ad->lo<=ad.block/\ad.block<hi):=pd
 have PA:Hid (∀ ad ad',v.code.a=some ad->v.data.a=some ad'->ad.block≠ad'.block):=pa
 clear r0 r1 pc pd pa
 go_enter Tryz.func15,Tryz.ntmps15
 go_wp2_with fail
 refine calls_at fun u0 hu0=>?_
 have Q0:Hid (u0.heap[w.heap.size]?=some (.cells #[.slice v.code.a v.code.len v.code.cap,.slice v.data.a v.data.len v.data.cap,.int .i64 m.entry,.int .i64 m.size] 28)):=by show u0.heap[w.heap.size]?=_;rw[hu0];exact heap_alloc_new w _
 have dd:Below w.heap.size w u0:=by rw[hu0];exact below_alloc w _
 have T0:Hid (Wrote lo hi w u0):=Wrote.of_below dd
 have K0:Hid (Own .i64 3 lo u0 v.code.a v.code.len v.code.cap m.code):=own_same R0.out fun ad q=>dd.block _ (by have:=PC.out ad q;omega)
 have K1:Hid (Own .u8 5 lo u0 v.data.a v.data.len v.data.cap m.data):=own_same R1.out fun ad q=>dd.block _ (by have:=PD.out ad q;omega)
 clear hu0 dd R0 R1
 refine (markIntS_any v.code.a v.code.len v.code.cap m.code 1 u0 K0.out (by omega)).mono ?_
 rintro e u1 ⟨rfl,o1,h0⟩
 have O1:Hid (Own .i64 3 lo u1 v.code.a v.code.len v.code.cap (mkIntS 1 v.code.len)):=o1
 have K2:Hid (Own .u8 5 lo u1 v.data.a v.data.len v.data.cap m.data):=own_same K1.out fun ad q=>h0.block _ (fun ad' q'=>Ne.symm (PA.out ad' ad q' q))
 have T1:Hid (Wrote lo hi w u1):=T0.out.touch h0 PC.out
 have Q1:Hid (u1.heap[w.heap.size]?=some (.cells #[.slice v.code.a v.code.len v.code.cap,.slice v.data.a v.data.len v.data.cap,.int .i64 m.entry,.int .i64 m.size] 28)):=(h0.block w.heap.size (fun ad had=>by have:=PC.out ad had;omega)).trans Q0.out
 clear h0 T0 Q0 K0 K1 o1
 have kb:∀ j,u1.cell? ⟨w.heap.size,j,none⟩=(#[.slice v.code.a v.code.len v.code.cap,.slice v.data.a v.data.len v.data.cap,.int .i64 m.entry,.int .i64 m.size]:Array Value)[j]?:=fun j=>cell_of_row u1 w.heap.size j _ 28 (0,0) Q1.out
 go_wp2_with fail
 clear kb
 refine (markByteS_any v.data.a v.data.len v.data.cap m.data (1+v.code.len) u1 K2.out (by omega)).mono ?_
 rintro e u2 ⟨rfl,o2,h1⟩
 have T2:Hid (Wrote lo hi w u2):=T1.out.touch h1 PD.out
 have O2:Hid (Own .u8 5 lo u2 v.data.a v.data.len v.data.cap (mkByteS (1+v.code.len) v.data.len)):=o2
 have O3:Hid (Own .i64 3 lo u2 v.code.a v.code.len v.code.cap (mkIntS 1 v.code.len)):=own_same O1.out fun ad q=>h1.block _ (fun ad' q'=>PA.out ad ad' q q')
 clear h1 T1 Q1 K2 O1 o2
 go_wp2
 go_ret
 exact⟨rfl,O3.out,O2.out,T2.out⟩
theorem heldImage_got {lo:Nat} (v:IV) (m:Pl.Img) (w:World) (h0:Row .i64 lo w v.code.a v.code.len v.code.cap (mkIntS 1 v.code.len)) (h1:Row .u8 lo w v.data.a v.data.len v.data.cap (mkByteS (1+v.code.len) v.data.len)) (l0:v.code.len<=16384) (l1:v.data.len<=65536) :
  Calls Tryz.prog 16 #[.agg #[.slice v.code.a v.code.len v.code.cap,.slice v.data.a v.data.len v.data.cap,.int .i64 m.entry,.int .i64 m.size],.int .i64 1] w fun e w'=>e=.returned (.int .i64 (1+v.code.len+v.data.len))/\Below w.heap.size w w':=by
 have R0:Hid (Row .i64 lo w v.code.a v.code.len v.code.cap (mkIntS 1 v.code.len)):=h0
 have R1:Hid (Row .u8 lo w v.data.a v.data.len v.data.cap (mkByteS (1+v.code.len) v.data.len)):=h1
 clear h0 h1
 go_enter Tryz.func16,Tryz.ntmps16
 go_wp2_with fail
 refine calls_at fun u0 hu0=>?_
 have Q0:Hid (u0.heap[w.heap.size]?=some (.cells #[.slice v.code.a v.code.len v.code.cap,.slice v.data.a v.data.len v.data.cap,.int .i64 m.entry,.int .i64 m.size] 28)):=by show u0.heap[w.heap.size]?=_;rw[hu0];exact heap_alloc_new w _
 have T0:Hid (Below w.heap.size w u0):=by show Below _ _ _;rw[hu0];exact below_alloc w _
 have s0:w.heap.size<u0.heap.size:=by rw[hu0];simp
 clear hu0
 refine (heldIntS_any v.code.a v.code.len v.code.cap 1 u0 (R0.out.keep T0.out) (by omega)).mono ?_
 rintro e u1 ⟨rfl,d1⟩
 have T1:Hid (Below w.heap.size w u1):=below_then d1 T0.out
 have Q1:Hid (u1.heap[w.heap.size]?=some (.cells #[.slice v.code.a v.code.len v.code.cap,.slice v.data.a v.data.len v.data.cap,.int .i64 m.entry,.int .i64 m.size] 28)):=(d1.block w.heap.size s0).trans Q0.out
 clear d1 T0 Q0
 have kb:∀ j,u1.cell? ⟨w.heap.size,j,none⟩=(#[.slice v.code.a v.code.len v.code.cap,.slice v.data.a v.data.len v.data.cap,.int .i64 m.entry,.int .i64 m.size]:Array Value)[j]?:=fun j=>cell_of_row u1 w.heap.size j _ 28 (0,0) Q1.out
 go_wp2_with fail
 clear kb
 refine (heldByteS_any v.data.a v.data.len v.data.cap (1+v.code.len) u1 (R1.out.keep T1.out) (by omega)).mono ?_
 rintro e u2 ⟨rfl,d2⟩
 have T2:Hid (Below w.heap.size w u2):=below_then d2 T1.out
 clear d2 T1 Q1
 go_wp2
 go_ret
 exact⟨rfl,T2.out⟩
end Go.Proofs.YtlbomnnldkeocaaGreat.W
