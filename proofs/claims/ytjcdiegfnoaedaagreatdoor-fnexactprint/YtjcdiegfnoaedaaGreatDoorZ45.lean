import Derived.Test.YtjcdiegfnoaedaaGreatDoorZ44
set_option linter.unusedVariables false
set_option linter.unusedSimpArgs false
set_option maxHeartbeats 16000000
namespace Go.Proofs.YtjcdiegfnoaedaaGreatDoor
namespace Pl
structure MI (xs:List Nd) (o:List Bool) (x:Nd):Prop where
 asn:x.k=48->yD x.m=true
 void:x.k=4->x.kids.length=2->¬wN xs (x.kids.getD 1 0).toNat
 els:x.k=21->x.kids.length=3->¬o.getD (x.kids.getD 1 0).toNat false=true
end Pl
namespace W
open Go.RowKit
set_option maxRecDepth 8000 in
theorem FU {lo lo2:Nat}(gc:Nat) (a:Option Addr) (len cap:Nat) (xs:List Pl.Nd) (ob:Option Addr) (ol oc:Nat) (o:List Bool) (x:Pl.Nd) (va:Option Addr) (vl vc:Nat) (w:World) (hc:w.cell? ⟨gc,0,none⟩=some (.slice a len cap)) (hc2:w.cell? ⟨gc,2,none⟩=some (.slice ob ol oc)) (hn:aT lo w a len cap xs) (hk:Row .i64 lo2 w va vl vc x.kids)
  (h4:x.k=4->vl=2->∃c:Nat,x.kids.getD 1 0=(c:Int)/\c<len/\1<=(Pl.nd xs c).kids.length/\∃d:Nat,(Pl.nd xs c).kids.getD 0 0=(d:Int)/\d<len)
  (h21:x.k=21->vl=3->∃c:Nat,x.kids.getD 1 0=(c:Int)/\c<ol/\∃g,ob=some ⟨g,0,none⟩/\g<w.heap.size/\w.cell? ⟨g,c,none⟩=some (.bool (o.getD c false))) :
  Calls Tryz.prog 67 #[.pointer (some ⟨gc,0,none⟩),.agg #[.int .i64 x.k,.int .i64 x.m,.int .i64 x.n,.string x.s,.slice va vl vc,.int .i64 x.line,.int .i64 x.aQ]] w fun e w'=>e=.returned (.bool (Pl.uN (Pl.MI xs o x)))/\Bw w w':=by
 obtain⟨R,hR⟩:∃R,R=Pl.uN (Pl.MI xs o x):=⟨_,rfl⟩;rw[<- hR];have HR:Hid (R=Pl.uN (Pl.MI xs o x)):=hR;have PG:Hid (x.kids.length=vl):=hk.1;have HK:Hid (Row .i64 lo2 w va vl vc x.kids):=hk;have hvl:(vl:Int)<=9223372036854775807:=by have:=hk.small;omega
 have hgc:gc<w.heap.size:=block_lt_of_cell hc;have HN:Hid (aT lo w a len cap xs):=hn;have HC:Hid (w.cell? ⟨gc,0,none⟩=some (.slice a len cap)):=hc;have HC2:Hid (w.cell? ⟨gc,2,none⟩=some (.slice ob ol oc)):=hc2;have H4:Hid (x.k=4->vl=2->∃c:Nat,x.kids.getD 1 0=(c:Int)/\c<len/\1<=(Pl.nd xs c).kids.length/\∃d:Nat,(Pl.nd xs c).kids.getD 0 0=(d:Int)/\d<len):=h4;have H21:Hid (x.k=21->vl=3->∃c:Nat,x.kids.getD 1 0=(c:Int)/\c<ol/\∃g,ob=some ⟨g,0,none⟩/\g<w.heap.size/\w.cell? ⟨g,c,none⟩=some (.bool (o.getD c false))):=h21;clear hR hc hc2 hn hk h4 h21;by_cases VO:x.k=48
 ·have aGM:(x.k == 48)=true:=by simpa using VO
  have HF:Hid (R=Pl.yD x.m):=by
   show R=_;rw[HR.o];cases hh:Pl.yD x.m
   ·exact Pl.oQ fun q=>by have:=q.asn VO;rw[hh]at this;cases this
   ·exact Pl.nM ⟨fun _=>hh,fun q=>absurd (VO.symm.trans q) (by decide),fun q=>absurd (VO.symm.trans q) (by decide)⟩
  clear VO;go_enter Tryz.func67,Tryz.ntmps67;go_wp2_with (go_at_call 100;refine (sW _ _).mono ?_;rintro e u1 ⟨rfl,g1⟩;rw[g1];clear g1 u1)
  go_ret;exact⟨aC HF.o.symm,aA _ _⟩
 have aGM:(x.k == 48)=false:=by simpa using VO
 by_cases k4:x.k=4
 ·have k4b:(x.k == 4)=true:=by simpa using k4
  obtain⟨w1,hw1⟩:∃w1:World,w1=w.alloc (.cells #[.int .i64 x.k,.int .i64 x.m,.int .i64 x.n,.string x.s,.slice va vl vc,.int .i64 x.line,.int .i64 x.aQ] 45):=⟨_,rfl⟩;have HB1:Hid (Bw w w1):=by rw[hw1];exact aA _ _
  have x1:w1.heap[w.heap.size]?=some (.cells #[.int .i64 x.k,.int .i64 x.m,.int .i64 x.n,.string x.s,.slice va vl vc,.int .i64 x.line,.int .i64 x.aQ] 45 (0,0)):=by rw[hw1];exact heap_alloc_new w _
  have n0:w1.cell? ⟨w.heap.size,0,none⟩=some (.int .i64 x.k):=cell_of_row w1 _ 0 _ 45 (0,0) x1;have n4:w1.cell? ⟨w.heap.size,4,none⟩=some (.slice va vl vc):=cell_of_row w1 _ 4 _ 45 (0,0) x1;have hz1:w.heap.size<w1.heap.size:=(Array.getElem?_eq_some_iff.1 x1).1;by_cases j2:vl=2
  rotate_left
  ·have j2b:((vl:Int) == 2)=false:=(by simp;omega);have j2c:((vl:Int) != 2)=true:=(by simp;omega);have HF:Hid (R=true):=by
    show R=true;rw[HR.o];exact Pl.nM ⟨fun q=>absurd q VO,fun _ q=>absurd (PG.o.symm.trans q) j2,fun q=>absurd (k4.symm.trans q) (by decide)⟩
   have Jz:Hid (∀n,Bw w (w1.drewN n)):=fun n=>below_drewN HB1.o n;clear k4 j2 VO x1;go_enter Tryz.func67,Tryz.ntmps67;go_upto_region 1 with fail
   rw[<- hw1];clear hw1;go_upto_region 5 with fail
   go_big_quiet (fail)
   go_wp2_with fail
   go_ret;exact⟨aC HF.o.symm,Jz.o _⟩
  have j2b:((vl:Int) == 2)=true:=by simp;omega
  have j2c:((vl:Int) != 2)=false:=by simp;omega
  have j1:(1:Int)<(vl:Int):=by omega
  obtain⟨c,hc1,hcl,hpk,d,hd1,hdl⟩:=H4.o k4 j2;obtain⟨b2,o2,hva,hb2,hcz⟩:=rF HK.o (i:=1) (by omega);rw[hc1]at hcz;subst hva;obtain⟨b3,o3,v3,ha,_,hb3,hc3,hr3,_⟩:=HN.o.at hcl;subst ha;obtain⟨va3,vl3,vc3⟩:=v3;obtain⟨z,hz⟩:∃z,z=xs.getD c Pl.Nd.zero:=⟨_,rfl⟩;have HZ:Hid (z=Pl.nd xs c):=hz;rw[<- hz]at hc3 hr3;obtain⟨d0,d1,d2,d3,d4,d5,d6⟩:=iT hc3;have hv3:z.kids.length=vl3:=hr3.1;have N7:(c:Int)<(len:Int):=by omega
  have QA:Hid (∀u:World,Bw w u->Calls Tryz.prog 101 #[.pointer (some ⟨gc,0,none⟩),.agg #[.int .i64 z.k,.int .i64 z.m,.int .i64 z.n,.string z.s,.slice va3 vl3 vc3,.int .i64 z.line,.int .i64 z.aQ]] u fun e w'=>e=.returned (.bool (decide (z.s.size=0/\(Pl.nd xs d).k=1/\(Pl.nd xs d).n=1)))/\Bw u w'):=fun u hu=>
   yM gc (some ⟨b3,o3,none⟩) len cap xs z va3 vl3 vc3 d u ((hu.cell (p:=⟨gc,0,none⟩) hgc).trans HC.o) (HN.o.keep hu) (hr3.keep hu) (by rw[<- hv3,HZ.o];exact hpk) (by rw[HZ.o];exact hd1) hdl
  obtain⟨NV,hNV⟩:∃NV,NV=decide (z.s.size=0/\(Pl.nd xs d).k=1/\(Pl.nd xs d).n=1):=⟨_,rfl⟩;rw[<- hNV]at QA;have HF:Hid (R = !NV):=by
   show R = !NV;have e1:Pl.wN xs (x.kids.getD 1 0).toNat↔(z.s.size=0/\(Pl.nd xs d).k=1/\(Pl.nd xs d).n=1):=by
    unfold Pl.wN;rw[hc1,Int.toNat_natCast,<- HZ.o,show z.kids.getD 0 0=(d:Int) by rw[HZ.o];exact hd1,Int.toNat_natCast]
   rw[HR.o,hNV];by_cases hh:z.s.size=0/\(Pl.nd xs d).k=1/\(Pl.nd xs d).n=1
   ·rw[decide_eq_true hh];exact Pl.oQ fun q=>q.void k4 (by rw[PG.o];exact j2) (e1.mpr hh)
   ·rw[decide_eq_false hh];exact Pl.nM ⟨fun q=>absurd q VO,fun _ _ q=>hh (e1.mp q),fun q=>absurd (k4.symm.trans q) (by decide)⟩
  have e0:w1.cell? ⟨b3,o3+c*7,none⟩=some (.int .i64 z.k):=(HB1.o.cell (p:=⟨b3,o3+c*7,none⟩) hb3).trans d0;have e1:w1.cell? ⟨b3,o3+c*7+1,none⟩=some (.int .i64 z.m):=(HB1.o.cell (p:=⟨b3,o3+c*7+1,none⟩) hb3).trans d1;have e2:w1.cell? ⟨b3,o3+c*7+2,none⟩=some (.int .i64 z.n):=(HB1.o.cell (p:=⟨b3,o3+c*7+2,none⟩) hb3).trans d2;have e3:w1.cell? ⟨b3,o3+c*7+3,none⟩=some (.string z.s):=(HB1.o.cell (p:=⟨b3,o3+c*7+3,none⟩) hb3).trans d3;have e4:w1.cell? ⟨b3,o3+c*7+4,none⟩=some (.slice va3 vl3 vc3):=(HB1.o.cell (p:=⟨b3,o3+c*7+4,none⟩) hb3).trans d4;have e5:w1.cell? ⟨b3,o3+c*7+5,none⟩=some (.int .i64 z.line):=(HB1.o.cell (p:=⟨b3,o3+c*7+5,none⟩) hb3).trans d5;have e6:w1.cell? ⟨b3,o3+c*7+6,none⟩=some (.int .i64 z.aQ):=(HB1.o.cell (p:=⟨b3,o3+c*7+6,none⟩) hb3).trans d6;have g0:w1.cell? ⟨gc,0,none⟩=some (.slice (some ⟨b3,o3,none⟩) len cap):=(HB1.o.cell (p:=⟨gc,0,none⟩) hgc).trans HC.o;have f0:w1.cell? ⟨b2,o2+1,none⟩=some (.int .i64 (c:Int)):=(HB1.o.cell (p:=⟨b2,o2+1,none⟩) hb2).trans hcz;clear d0 d1 d2 d3 d4 d5 d6 hcz hNV hc1 hd1 hpk hc3 hr3 hv3 hz k4 VO j2 x1 HC HC2 H4 H21 HK;go_enter Tryz.func67,Tryz.ntmps67;go_upto_region 1 with fail
  rw[<- hw1];clear hw1;go_upto_region 5 with fail
  go_region_with (go_at_call 101;refine (QA.o _ (by repeat (first|with_reducible exact HB1.o|refine Below.drew ?_|refine below_drewN ?_ _))).mono ?_;rintro e u2 ⟨rfl,d2⟩;have D2:Hid (Bw w u2):=(by repeat (first|with_reducible exact HB1.o|refine Below.drew ?_|refine below_drewN ?_ _):Bw w _).trans (d2.mono (by have:=HB1.o.size;simp;omega));clear d2)
  all_goals
   go_wp2_with fail
   go_ret;refine⟨aC HF.o.symm,?_⟩
   repeat (first|with_reducible exact D2.o|refine Below.drew ?_|refine below_drewN ?_ _)
 have k4b:(x.k == 4)=false:=by simpa using k4
 by_cases k21:x.k=21
 rotate_left
 ·have OE:(x.k == 21)=false:=by simpa using k21
  have HF:Hid (R=true):=by show R=true;rw[HR.o];exact Pl.nM ⟨fun q=>absurd q VO,fun q=>absurd q k4,fun q=>absurd q k21⟩
  clear k21 k4 VO;go_enter Tryz.func67,Tryz.ntmps67;go_wp2_with fail
  go_ret;exact⟨aC HF.o.symm,aA _ _⟩
 have OE:(x.k == 21)=true:=by simpa using k21
 obtain⟨w1,hw1⟩:∃w1:World,w1=w.alloc (.cells #[.int .i64 x.k,.int .i64 x.m,.int .i64 x.n,.string x.s,.slice va vl vc,.int .i64 x.line,.int .i64 x.aQ] 45):=⟨_,rfl⟩;have HB1:Hid (Bw w w1):=by rw[hw1];exact aA _ _
 have x1:w1.heap[w.heap.size]?=some (.cells #[.int .i64 x.k,.int .i64 x.m,.int .i64 x.n,.string x.s,.slice va vl vc,.int .i64 x.line,.int .i64 x.aQ] 45 (0,0)):=by rw[hw1];exact heap_alloc_new w _
 have n0:w1.cell? ⟨w.heap.size,0,none⟩=some (.int .i64 x.k):=cell_of_row w1 _ 0 _ 45 (0,0) x1;have n4:w1.cell? ⟨w.heap.size,4,none⟩=some (.slice va vl vc):=cell_of_row w1 _ 4 _ 45 (0,0) x1;have Jz:Hid (∀n,Bw w (w1.drewN n)):=fun n=>below_drewN HB1.o n;by_cases j3:vl=3
 rotate_left
 ·have j3b:((vl:Int) == 3)=false:=by simp;omega
  have j3c:((vl:Int) != 3)=true:=by simp;omega
  have HF:Hid (R=true):=by
   show R=true;rw[HR.o];exact Pl.nM ⟨fun q=>absurd q VO,fun q=>absurd q k4,fun _ q=>absurd (PG.o.symm.trans q) j3⟩
  clear k21 k4 j3 VO x1;go_enter Tryz.func67,Tryz.ntmps67;go_upto_region 1 with fail
  rw[<- hw1];clear hw1;go_upto_region 7 with fail
  go_big_quiet (fail)
  go_wp2_with fail
  go_ret;exact⟨aC HF.o.symm,Jz.o _⟩
 have j3b:((vl:Int) == 3)=true:=by simp;omega
 have j3c:((vl:Int) != 3)=false:=by simp;omega
 have j1:(1:Int)<(vl:Int):=by omega
 obtain⟨c,hc1,hcl,g,YM,hg,hcell⟩:=H21.o k21 j3;obtain⟨b2,o2,hva,hb2,hcz⟩:=rF HK.o (i:=1) (by omega);rw[hc1]at hcz;subst hva;subst YM;have aGL:(c:Int)<(ol:Int):=by omega
 obtain⟨ov,hov⟩:∃ov,ov=o.getD c false:=⟨_,rfl⟩;rw[<- hov]at hcell;have HF:Hid (R = !ov):=by
  show R = !ov;rw[HR.o];have e1:o.getD (x.kids.getD 1 0).toNat false=ov:=by rw[hc1,Int.toNat_natCast,hov]
  cases hh:ov
  ·exact Pl.nM ⟨fun q=>absurd q VO,fun q=>absurd q k4,fun _ _ q=>by rw[e1,hh]at q;cases q⟩
  ·exact Pl.oQ fun q=>q.els k21 (by rw[PG.o];exact j3) (by rw[e1,hh])
 have g2:w1.cell? ⟨gc,2,none⟩=some (.slice (some ⟨g,0,none⟩) ol oc):=(HB1.o.cell (p:=⟨gc,2,none⟩) hgc).trans HC2.o;have f0:w1.cell? ⟨b2,o2+1,none⟩=some (.int .i64 (c:Int)):=(HB1.o.cell (p:=⟨b2,o2+1,none⟩) hb2).trans hcz;have f1:w1.cell? ⟨g,c,none⟩=some (.bool ov):=(HB1.o.cell (p:=⟨g,c,none⟩) hg).trans hcell;clear hov hcell hcz hc1 k21 k4 j3 VO x1 HC HC2 H4 H21 HK;go_enter Tryz.func67,Tryz.ntmps67;go_upto_region 1 with fail
 rw[<- hw1];clear hw1;go_upto_region 7 with fail
 go_big_quiet (fail)
 go_wp2_with fail
 go_ret;exact⟨aC HF.o.symm,Jz.o _⟩
end W
end Go.Proofs.YtjcdiegfnoaedaaGreatDoor
