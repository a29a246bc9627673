import Derived.Test.YtcgfgmlfbgbkfaaGreatDoorM08
import Derived.Test.YtcgfgmlfbgbkfaaGreatDoorM09
set_option linter.unusedVariables false
set_option linter.unusedSimpArgs false
set_option maxHeartbeats 16000000
namespace Go.Proofs.YtcgfgmlfbgbkfaaGreatDoor.W
open Go.RowKit
set_option maxRecDepth 100000 in
theorem l10FunOk_any {lo:Nat} (f:Pl.IrF) (v s:SV) (w:World) (h:FIs lo w v s f):Calls Tryz.prog 27 #[.agg #[.string f.name,.int .i64 f.params,.int .i64 f.regs,.slice v.a v.len v.cap,.slice s.a s.len s.cap]] w fun e w'=>IsB (Pl.funOk f) e/\Below w.heap.size w w':=by
 obtain⟨va,vl,vc⟩:=v
 obtain⟨sa,sl,sc⟩:=s
 obtain⟨hV,hS,_⟩:=h
 simp only at hV hS ⊢
 have hvl:(vl:Int)<=9223372036854775807:=by have:=hV.small;omega
 have hsl:(sl:Int)<=9223372036854775807:=by have:=hS.small;omega
 have HV:Hid (Row .i64 lo w va vl vc f.slots/\f.slots.length=vl):=⟨hV,hV.1⟩
 have HS:Hid (IRow lo w sa sl sc f.code/\f.code.length=sl):=⟨hS,hS.1⟩
 clear hV hS
 by_cases p0:0<=f.params
 rotate_left
 ·have HN:Hid (¬ Pl.funOk f):=fun c=>p0 c.1.1.1
  go_enter Tryz.func27,Tryz.ntmps27
  go_wp2_with fail
  go_ret
  exact⟨isB_no HN.out,below_alloc _ _⟩
 by_cases p1:f.params<=8
 rotate_left
 ·have HN:Hid (¬ Pl.funOk f):=fun c=>p1 c.1.1.2
  go_enter Tryz.func27,Tryz.ntmps27
  go_wp2_with fail
  go_ret
  exact⟨isB_no HN.out,below_alloc _ _⟩
 by_cases p2:f.params<=f.regs
 rotate_left
 ·have HN:Hid (¬ Pl.funOk f):=fun c=>p2 c.1.2.1.1
  go_enter Tryz.func27,Tryz.ntmps27
  go_wp2_with fail
  go_ret
  exact⟨isB_no HN.out,below_alloc _ _⟩
 by_cases p3:f.regs<=2000
 rotate_left
 ·have HN:Hid (¬ Pl.funOk f):=fun c=>p3 c.1.2.1.2
  go_enter Tryz.func27,Tryz.ntmps27
  go_wp2_with fail
  go_ret
  exact⟨isB_no HN.out,below_alloc _ _⟩
 by_cases p4:(vl:Int)<=200
 rotate_left
 ·have HN:Hid (¬ Pl.funOk f):=fun c=>p4 (by have:=c.1.2.2.1;have:=HV.out.2;omega)
  go_enter Tryz.func27,Tryz.ntmps27
  go_wp2_with fail
  go_ret
  exact⟨isB_no HN.out,below_alloc _ _⟩
 by_cases p5:1<=(sl:Int)
 rotate_left
 ·have HN:Hid (¬ Pl.funOk f):=fun c=>p5 (by have:=c.1.2.2.2.1.1;have:=HS.out.2;omega)
  go_enter Tryz.func27,Tryz.ntmps27
  go_wp2_with fail
  go_ret
  exact⟨isB_no HN.out,below_alloc _ _⟩
 by_cases p6:(sl:Int)<=8000
 rotate_left
 ·have HN:Hid (¬ Pl.funOk f):=fun c=>p6 (by have:=c.1.2.2.2.1.2;have:=HS.out.2;omega)
  go_enter Tryz.func27,Tryz.ntmps27
  go_wp2_with fail
  go_ret
  exact⟨isB_no HN.out,below_alloc _ _⟩
 obtain⟨m,hm,hml⟩:∃ m:Nat,(sl:Int)-1=(m:Int)/\m<sl:=⟨sl-1,by omega,by omega⟩
 have hmi:(m:Int)<(sl:Int):=by omega
 have hwm:IntKind.i64.wrap ((sl:Int)-1)=(m:Int):=by rw[IntKind.wrap_i64];omega
 obtain⟨sb,so,y0,rfl,hslo,hsb,hc0,_,_⟩:=HS.out.1.at (k:=m) hml
 have HL:Hid ((f.code.getD (f.code.length-1) Pl.IrI.zero).op=(f.code.getD m Pl.IrI.zero).op):=by
  show (f.code.getD (f.code.length-1) Pl.IrI.zero).op=_
  rw[HS.out.2,show sl-1=m by omega]
 obtain⟨l0,hl0⟩:∃ l0,l0=(f.code.getD m Pl.IrI.zero).op:=⟨_,rfl⟩
 have cl:=(iri_cells hc0).1
 rw[<- hl0]at cl
 clear hc0
 by_cases p7:l0=14
 rotate_left
 ·have e7:(l0 == 14)=false:=by rw[beq_eq_false_iff_ne];exact p7
  have e8:(l0 != 14)=true:=by rw[bne,e7];rfl
  have HN:Hid (¬ Pl.funOk f):=fun c=>p7 (hl0.trans (HL.out.symm.trans c.1.2.2.2.2))
  clear hl0 p7
  go_enter Tryz.func27,Tryz.ntmps27
  go_wp2_with fail
  go_ret
  exact⟨isB_no HN.out,below_alloc _ _⟩
 subst p7
 have HH:Hid (Pl.funHead f):=⟨⟨p0,p1⟩,⟨p2,p3⟩,by have:=HV.out.2;omega,by have:=HS.out.2;omega,HL.out.trans hl0.symm⟩
 clear hl0 HL hml
 have q0:decide (f.params<0)=false:=decide_eq_false (by omega)
 have q1:decide (8<f.params)=false:=decide_eq_false (by omega)
 have q2:decide (f.regs<f.params)=false:=decide_eq_false (by omega)
 have q3:decide (2000<f.regs)=false:=decide_eq_false (by omega)
 have q4:decide (200<(vl:Int))=false:=decide_eq_false (by omega)
 have q5:decide ((sl:Int)<1)=false:=decide_eq_false (by omega)
 have q6:decide (8000<(sl:Int))=false:=decide_eq_false (by omega)
 go_enter Tryz.func27,Tryz.ntmps27
 go_wp2_with fail
 go_loopw [4] (fun t wr=>∃ k:Nat,k<=vl/\t=.int .i64 k/\wr=w.alloc (.cells #[.string f.name,.int .i64 f.params,.int .i64 f.regs,.slice va vl vc,.slice (some ⟨sb,so,none⟩) sl sc] 31)/\Hid (∀ i,i<k->1<=f.slots.getD i 0/\f.slots.getD i 0<=60000)) (fun t _=>vl-(intOf t).toNat)
 case atStart=>exact⟨0,Nat.zero_le _,rfl,rfl,fun i hi=>absurd hi (Nat.not_lt_zero _)⟩
 case round=>
  obtain⟨k,hk,rfl,rfl,S⟩:=hrel
  by_cases hlt:k<vl
  ·have hki:(k:Int)<(vl:Int):=by omega
   obtain⟨vb,vo,rfl,_,hvb,hvc⟩:=(HV.out.1.2.2.2.2).resolve_left (by omega)
   have cz:=hvc k hlt
   obtain⟨z,hz⟩:∃ z,z=f.slots.getD k 0:=⟨_,rfl⟩
   rw[<- hz]at cz
   have HZ:Hid (z=f.slots.getD k 0):=hz
   clear hz hvc
   by_cases z1:1<=z
   ·by_cases z2:z<=60000
    ·go_wp2_with fail
     go_roundw
     case rel=>exact⟨k+1,by omega,by go_num,by first | trivial | rfl,fun i hi=>by
      by_cases e:i=k
      ·rw[e,<- HZ.out];exact⟨z1,z2⟩
      ·exact S.out i (by omega)⟩
     case measure=>simp[intOf];omega
    ·have HN:Hid (¬ Pl.funOk f):=fun c=>by have:=(c.2.1 k (by have:=HV.out.2;omega)).2;rw[<- HZ.out]at this;omega
     go_wp2_with fail
     go_ret
     exact⟨isB_no HN.out,below_alloc _ _⟩
   ·have HN:Hid (¬ Pl.funOk f):=fun c=>by have:=(c.2.1 k (by have:=HV.out.2;omega)).1;rw[<- HZ.out]at this;omega
    go_wp2_with fail
    go_ret
    exact⟨isB_no HN.out,below_alloc _ _⟩
  ·have hki:¬ ((k:Int)<(vl:Int)):=by omega
   have HSL:Hid (∀ i,i<f.slots.length->1<=f.slots.getD i 0/\f.slots.getD i 0<=60000):=fun i hi=>S.out i (by have:=HV.out.2;omega)
   clear S hk hlt
   have H0:Hid (Below w.heap.size w (w.alloc (.cells #[.string f.name,.int .i64 f.params,.int .i64 f.regs,.slice va vl vc,.slice (some ⟨sb,so,none⟩) sl sc] 31))/\(w.alloc (.cells #[.string f.name,.int .i64 f.params,.int .i64 f.regs,.slice va vl vc,.slice (some ⟨sb,so,none⟩) sl sc] 31)).heap[w.heap.size]?=some (.cells #[.string f.name,.int .i64 f.params,.int .i64 f.regs,.slice va vl vc,.slice (some ⟨sb,so,none⟩) sl sc] 31)):=⟨below_alloc _ _,heap_alloc_new w _⟩
   go_wp2_with fail
   go_loopw [5] (fun t wr=>∃ k:Nat,k<=sl/\t=.int .i64 k/\Hid ((Below w.heap.size w wr/\wr.heap[w.heap.size]?=some (.cells #[.string f.name,.int .i64 f.params,.int .i64 f.regs,.slice va vl vc,.slice (some ⟨sb,so,none⟩) sl sc] 31))/\∀ i,i<k->Pl.insOk f.slots.length f.regs (f.code.getD i Pl.IrI.zero)/\Pl.symOk0 (f.code.getD i Pl.IrI.zero))) (fun t _=>sl-(intOf t).toNat)
   case atStart=>exact⟨0,Nat.zero_le _,rfl,H0.out,fun i hi=>absurd hi (Nat.not_lt_zero _)⟩
   case round=>
    clear H0
    obtain⟨k,hk,rfl,S⟩:=hrel
    have SB:Hid (Below w.heap.size w wr/\wr.heap[w.heap.size]?=some (.cells #[.string f.name,.int .i64 f.params,.int .i64 f.regs,.slice va vl vc,.slice (some ⟨sb,so,none⟩) sl sc] 31)):=S.out.1
    have f0:wr.cell? ⟨w.heap.size,0,none⟩=some (.string f.name):=by rw[cell_of_row wr _ 0 _ _ (0,0) SB.out.2];rfl
    have f1:wr.cell? ⟨w.heap.size,1,none⟩=some (.int .i64 f.params):=by rw[cell_of_row wr _ 1 _ _ (0,0) SB.out.2];rfl
    have f2:wr.cell? ⟨w.heap.size,2,none⟩=some (.int .i64 f.regs):=by rw[cell_of_row wr _ 2 _ _ (0,0) SB.out.2];rfl
    have f3:wr.cell? ⟨w.heap.size,3,none⟩=some (.slice va vl vc):=by rw[cell_of_row wr _ 3 _ _ (0,0) SB.out.2];rfl
    have f4:wr.cell? ⟨w.heap.size,4,none⟩=some (.slice (some ⟨sb,so,none⟩) sl sc):=by rw[cell_of_row wr _ 4 _ _ (0,0) SB.out.2];rfl
    by_cases hlt:k<sl
    ·have hki:(k:Int)<(sl:Int):=by omega
     obtain⟨b2,o2,y,e2,_,hb2,hc2,hr2,_⟩:=(HS.out.1.keep SB.out.1).at hlt
     simp only[Option.some.injEq,Addr.mk.injEq,and_true]at e2
     obtain⟨rfl,rfl⟩:=e2
     obtain⟨x,hx⟩:∃ x,x=f.code.getD k Pl.IrI.zero:=⟨_,rfl⟩
     rw[<- hx]at hc2 hr2
     obtain⟨g0,g1,g2,g3,g4,g5,g6⟩:=iri_cells hc2
     have HX:Hid (x=f.code.getD k Pl.IrI.zero):=hx
     have HRW:Hid (Row .i64 lo wr y.a y.len y.cap x.args):=hr2
     have hvl9:vl<=9223372036854775807:=by omega
     have hwz:w.heap.size<wr.heap.size:=(Array.getElem?_eq_some_iff.1 SB.out.2).1
     have hU1:=Tryz.underlying81
     have hU2:=Tryz.underlying31
     have HK:Hid (k<f.code.length):=by show k<f.code.length;rw[HS.out.2];exact hlt
     have HBF:Hid ((wr.alloc (.cells #[.int .i64 x.op,.int .i64 x.d,.int .i64 x.a,.int .i64 x.b,.int .i64 x.n,.string x.sym,.slice y.a y.len y.cap] 81)).heap[w.heap.size]?=some (.cells #[.string f.name,.int .i64 f.params,.int .i64 f.regs,.slice va vl vc,.slice (some ⟨sb,so,none⟩) sl sc] 31)):=(Below.heap_alloc _ _ _ hwz).trans SB.out.2
     have HBX:Hid ((wr.alloc (.cells #[.int .i64 x.op,.int .i64 x.d,.int .i64 x.a,.int .i64 x.b,.int .i64 x.n,.string x.sym,.slice y.a y.len y.cap] 81)).heap[wr.heap.size]?=some (.cells #[.int .i64 x.op,.int .i64 x.d,.int .i64 x.a,.int .i64 x.b,.int .i64 x.n,.string x.sym,.slice y.a y.len y.cap] 81)):=heap_alloc_new wr _
     clear hc2 hr2 hx
     by_cases hok:Pl.insOk vl f.regs x
     rotate_left
     ·have HOK:Hid (¬ Pl.insOk vl f.regs x):=hok
      have HN:Hid (¬ Pl.funOk f):=fun c=>by have:=(c.2.2.1 k HK.out).1;rw[<- HX.out,HV.out.2]at this;exact HOK.out this
      clear hok
      go_upto_region 13 with fail
      refine fo13_a (f:=f) (v:=⟨va,vl,vc⟩) (s:=⟨some ⟨sb,so,none⟩,sl,sc⟩) (x:=x) (y2:=y) HBF.out HBX.out (fun u hu=>(l10InsOk_any f ⟨va,vl,vc⟩ ⟨some ⟨sb,so,none⟩,sl,sc⟩ x y hvl9 u (HRW.out.keep ((below_alloc wr (.cells #[.int .i64 x.op,.int .i64 x.d,.int .i64 x.a,.int .i64 x.b,.int .i64 x.n,.string x.sym,.slice y.a y.len y.cap] 81)).trans (Below.mono hu (by simp))))).mono fun e u' ⟨⟨b,he,hb⟩,d⟩=>⟨by rw[he,show b=false from (by cases b;rfl;exact absurd (hb.1 rfl) HOK.out)],d⟩) _ _ _ _ _ _ _ _ _ _ _ _ _ _ _ _ _ _ _ _ _ _ _ _ _ _ _ _ _ _ _ _ _ _ _ _ _ _ _ _ _ _ _ _ _ _ _ _ _ _ _ _ _ _ _ _ _ _ _ _ _ _ _ _ _ _ _ _ _ _ _ _ _ _ _ _ _ _ _ _ _ _ _ _ _ _ _ _ _ _ _ _ _ _ _ _ _ _ _ _ _ _ _ _ _ _ _ _ _ _ _ _ _ _ _ _ _ _ _ _ _ _ _ _ _ _ _ _ _ _ _ _ _ _ _ _ _ _ _ _ _ _ _ _ _ _ _ _ _ _ _ _ _ _ _ _ _ _ _ _ _ ?_
      intro s87 s88 s89 s90 s91 s92 s93 s94 s95 s96 s97 s98 s99 s100 s101 y3 hb3
      have D2:Hid (Below wr.heap.size wr y3):=(below_alloc wr (.cells #[.int .i64 x.op,.int .i64 x.d,.int .i64 x.a,.int .i64 x.b,.int .i64 x.n,.string x.sym,.slice y.a y.len y.cap] 81)).trans (Below.mono hb3 (by simp))
      have X2:Hid (y3.heap[wr.heap.size]?=some (.cells #[.int .i64 x.op,.int .i64 x.d,.int .i64 x.a,.int .i64 x.b,.int .i64 x.n,.string x.sym,.slice y.a y.len y.cap] 81)):=(hb3.block wr.heap.size (by simp)).trans (heap_alloc_new wr (.cells #[.int .i64 x.op,.int .i64 x.d,.int .i64 x.a,.int .i64 x.b,.int .i64 x.n,.string x.sym,.slice y.a y.len y.cap] 81))
      have x0:y3.cell? ⟨wr.heap.size,0,none⟩=some (.int .i64 x.op):=by rw[cell_of_row y3 _ 0 _ _ (0,0) X2.out];rfl
      have x5:y3.cell? ⟨wr.heap.size,5,none⟩=some (.string x.sym):=by rw[cell_of_row y3 _ 5 _ _ (0,0) X2.out];rfl
      clear hb3
      go_wp2_with fail
      go_ret
      exact⟨isB_no HN.out,SB.out.1.trans (Below.mono D2.out SB.out.1.size)⟩
     have HOK:Hid (Pl.insOk vl f.regs x):=hok
     clear hok
     by_cases h13:x.op=13
     ·have e13:(x.op == 13)=true:=by rw[h13];rfl
      have n13:(x.op != 13)=false:=by rw[h13];rfl
      have H13:Hid (x.op=13):=h13
      clear h13
      cases rs:Pl.inS Pl.irTests x.sym
      ·have HRS:Hid (Pl.inS Pl.irTests x.sym=false):=rs
       have HN:Hid (¬ Pl.funOk f):=fun c=>by have:=(c.2.2.1 k HK.out).2.1;rw[<- HX.out,HRS.out]at this;exact absurd (this H13.out) (by decide)
       clear rs
       go_upto_region 13 with fail
       refine fo13_c (f:=f) (v:=⟨va,vl,vc⟩) (s:=⟨some ⟨sb,so,none⟩,sl,sc⟩) (x:=x) (y2:=y) HBF.out HBX.out (fun u hu=>(l10InsOk_any f ⟨va,vl,vc⟩ ⟨some ⟨sb,so,none⟩,sl,sc⟩ x y hvl9 u (HRW.out.keep ((below_alloc wr (.cells #[.int .i64 x.op,.int .i64 x.d,.int .i64 x.a,.int .i64 x.b,.int .i64 x.n,.string x.sym,.slice y.a y.len y.cap] 81)).trans (Below.mono hu (by simp))))).mono fun e u' ⟨⟨b,he,hb⟩,d⟩=>⟨by rw[he,show b=true from (hb.2 HOK.out)],d⟩) e13 (fun u gt hs=>(l5In_any (some ⟨gt,0,none⟩) 6 6 Pl.irTests x.sym u hs).mono fun e u' ⟨he,d⟩=>⟨by rw[he,HRS.out],d⟩) _ _ _ _ _ _ _ _ _ _ _ _ _ _ _ _ _ _ _ _ _ _ _ _ _ _ _ _ _ _ _ _ _ _ _ _ _ _ _ _ _ _ _ _ _ _ _ _ _ _ _ _ _ _ _ _ _ _ _ _ _ _ _ _ _ _ _ _ _ _ _ _ _ _ _ _ _ _ _ _ _ _ _ _ _ _ _ _ _ _ _ _ _ _ _ _ _ _ _ _ _ _ _ _ _ _ _ _ _ _ _ _ _ _ _ _ _ _ _ _ _ _ _ _ _ _ _ _ _ _ _ _ _ _ _ _ _ _ _ _ _ _ _ _ _ _ _ _ _ _ _ _ _ _ _ _ _ _ _ _ _ ?_
       intro s87 s88 s89 s90 s91 s92 s93 s94 s95 s96 s97 s98 s99 s100 s101 y3 hb3
       have D2:Hid (Below wr.heap.size wr y3):=(below_alloc wr (.cells #[.int .i64 x.op,.int .i64 x.d,.int .i64 x.a,.int .i64 x.b,.int .i64 x.n,.string x.sym,.slice y.a y.len y.cap] 81)).trans (Below.mono hb3 (by simp))
       have X2:Hid (y3.heap[wr.heap.size]?=some (.cells #[.int .i64 x.op,.int .i64 x.d,.int .i64 x.a,.int .i64 x.b,.int .i64 x.n,.string x.sym,.slice y.a y.len y.cap] 81)):=(hb3.block wr.heap.size (by simp)).trans (heap_alloc_new wr (.cells #[.int .i64 x.op,.int .i64 x.d,.int .i64 x.a,.int .i64 x.b,.int .i64 x.n,.string x.sym,.slice y.a y.len y.cap] 81))
       have x0:y3.cell? ⟨wr.heap.size,0,none⟩=some (.int .i64 x.op):=by rw[cell_of_row y3 _ 0 _ _ (0,0) X2.out];rfl
       have x5:y3.cell? ⟨wr.heap.size,5,none⟩=some (.string x.sym):=by rw[cell_of_row y3 _ 5 _ _ (0,0) X2.out];rfl
       clear hb3
       go_wp2_with fail
       go_ret
       exact⟨isB_no HN.out,SB.out.1.trans (Below.mono D2.out SB.out.1.size)⟩
      ·have HRS:Hid (Pl.inS Pl.irTests x.sym=true):=rs
       clear rs
       go_upto_region 13 with fail
       refine fo13_d (f:=f) (v:=⟨va,vl,vc⟩) (s:=⟨some ⟨sb,so,none⟩,sl,sc⟩) (x:=x) (y2:=y) HBF.out HBX.out (fun u hu=>(l10InsOk_any f ⟨va,vl,vc⟩ ⟨some ⟨sb,so,none⟩,sl,sc⟩ x y hvl9 u (HRW.out.keep ((below_alloc wr (.cells #[.int .i64 x.op,.int .i64 x.d,.int .i64 x.a,.int .i64 x.b,.int .i64 x.n,.string x.sym,.slice y.a y.len y.cap] 81)).trans (Below.mono hu (by simp))))).mono fun e u' ⟨⟨b,he,hb⟩,d⟩=>⟨by rw[he,show b=true from (hb.2 HOK.out)],d⟩) e13 (fun u gt hs=>(l5In_any (some ⟨gt,0,none⟩) 6 6 Pl.irTests x.sym u hs).mono fun e u' ⟨he,d⟩=>⟨by rw[he,HRS.out],d⟩) _ _ _ _ _ _ _ _ _ _ _ _ _ _ _ _ _ _ _ _ _ _ _ _ _ _ _ _ _ _ _ _ _ _ _ _ _ _ _ _ _ _ _ _ _ _ _ _ _ _ _ _ _ _ _ _ _ _ _ _ _ _ _ _ _ _ _ _ _ _ _ _ _ _ _ _ _ _ _ _ _ _ _ _ _ _ _ _ _ _ _ _ _ _ _ _ _ _ _ _ _ _ _ _ _ _ _ _ _ _ _ _ _ _ _ _ _ _ _ _ _ _ _ _ _ _ _ _ _ _ _ _ _ _ _ _ _ _ _ _ _ _ _ _ _ _ _ _ _ _ _ _ _ _ _ _ _ _ _ _ _ ?_
       intro s87 s88 s89 s90 s91 s92 s93 s94 s95 s96 s97 s98 s99 s100 s101 y3 hb3
       have D2:Hid (Below wr.heap.size wr y3):=(below_alloc wr (.cells #[.int .i64 x.op,.int .i64 x.d,.int .i64 x.a,.int .i64 x.b,.int .i64 x.n,.string x.sym,.slice y.a y.len y.cap] 81)).trans (Below.mono hb3 (by simp))
       have X2:Hid (y3.heap[wr.heap.size]?=some (.cells #[.int .i64 x.op,.int .i64 x.d,.int .i64 x.a,.int .i64 x.b,.int .i64 x.n,.string x.sym,.slice y.a y.len y.cap] 81)):=(hb3.block wr.heap.size (by simp)).trans (heap_alloc_new wr (.cells #[.int .i64 x.op,.int .i64 x.d,.int .i64 x.a,.int .i64 x.b,.int .i64 x.n,.string x.sym,.slice y.a y.len y.cap] 81))
       have x0:y3.cell? ⟨wr.heap.size,0,none⟩=some (.int .i64 x.op):=by rw[cell_of_row y3 _ 0 _ _ (0,0) X2.out];rfl
       have x5:y3.cell? ⟨wr.heap.size,5,none⟩=some (.string x.sym):=by rw[cell_of_row y3 _ 5 _ _ (0,0) X2.out];rfl
       clear hb3
       go_wp2_with fail
       go_roundw
       case rel=>exact⟨k+1,by omega,by go_num,⟨SB.out.1.trans (Below.mono D2.out SB.out.1.size),(D2.out.block _ (Array.getElem?_eq_some_iff.1 SB.out.2).1).trans SB.out.2⟩,fun i hi=>by
        by_cases e:i=k
        ·rw[e,<- HX.out,HV.out.2];exact⟨HOK.out,⟨fun _=>HRS.out,fun c=>absurd H13.out c⟩⟩
        ·exact S.out.2 i (by omega)⟩
       case measure=>simp[intOf];omega
     have e13:(x.op == 13)=false:=by rw[beq_eq_false_iff_ne];exact h13
     have n13:(x.op != 13)=true:=by rw[bne,e13];rfl
     have H13:Hid (¬ x.op=13):=h13
     clear h13
     by_cases h7:x.op=7
     ·have n7:(x.op != 7)=false:=by rw[h7];rfl
      have H7:Hid (x.op=7):=h7
      clear h7
      go_upto_region 13 with fail
      refine fo13_b (f:=f) (v:=⟨va,vl,vc⟩) (s:=⟨some ⟨sb,so,none⟩,sl,sc⟩) (x:=x) (y2:=y) HBF.out HBX.out (fun u hu=>(l10InsOk_any f ⟨va,vl,vc⟩ ⟨some ⟨sb,so,none⟩,sl,sc⟩ x y hvl9 u (HRW.out.keep ((below_alloc wr (.cells #[.int .i64 x.op,.int .i64 x.d,.int .i64 x.a,.int .i64 x.b,.int .i64 x.n,.string x.sym,.slice y.a y.len y.cap] 81)).trans (Below.mono hu (by simp))))).mono fun e u' ⟨⟨b,he,hb⟩,d⟩=>⟨by rw[he,show b=true from (hb.2 HOK.out)],d⟩) e13 _ _ _ _ _ _ _ _ _ _ _ _ _ _ _ _ _ _ _ _ _ _ _ _ _ _ _ _ _ _ _ _ _ _ _ _ _ _ _ _ _ _ _ _ _ _ _ _ _ _ _ _ _ _ _ _ _ _ _ _ _ _ _ _ _ _ _ _ _ _ _ _ _ _ _ _ _ _ _ _ _ _ _ _ _ _ _ _ _ _ _ _ _ _ _ _ _ _ _ _ _ _ _ _ _ _ _ _ _ _ _ _ _ _ _ _ _ _ _ _ _ _ _ _ _ _ _ _ _ _ _ _ _ _ _ _ _ _ _ _ _ _ _ _ _ _ _ _ _ _ _ _ _ _ _ _ _ _ _ _ _ ?_
      intro s87 s88 s89 s90 s91 s92 s93 s94 s95 s96 s97 s98 s99 s100 s101 y3 hb3
      have D2:Hid (Below wr.heap.size wr y3):=(below_alloc wr (.cells #[.int .i64 x.op,.int .i64 x.d,.int .i64 x.a,.int .i64 x.b,.int .i64 x.n,.string x.sym,.slice y.a y.len y.cap] 81)).trans (Below.mono hb3 (by simp))
      have X2:Hid (y3.heap[wr.heap.size]?=some (.cells #[.int .i64 x.op,.int .i64 x.d,.int .i64 x.a,.int .i64 x.b,.int .i64 x.n,.string x.sym,.slice y.a y.len y.cap] 81)):=(hb3.block wr.heap.size (by simp)).trans (heap_alloc_new wr (.cells #[.int .i64 x.op,.int .i64 x.d,.int .i64 x.a,.int .i64 x.b,.int .i64 x.n,.string x.sym,.slice y.a y.len y.cap] 81))
      have x0:y3.cell? ⟨wr.heap.size,0,none⟩=some (.int .i64 x.op):=by rw[cell_of_row y3 _ 0 _ _ (0,0) X2.out];rfl
      have x5:y3.cell? ⟨wr.heap.size,5,none⟩=some (.string x.sym):=by rw[cell_of_row y3 _ 5 _ _ (0,0) X2.out];rfl
      clear hb3
      go_wp2_with fail
      go_roundw
      case rel=>exact⟨k+1,by omega,by go_num,⟨SB.out.1.trans (Below.mono D2.out SB.out.1.size),(D2.out.block _ (Array.getElem?_eq_some_iff.1 SB.out.2).1).trans SB.out.2⟩,fun i hi=>by
       by_cases e:i=k
       ·rw[e,<- HX.out,HV.out.2];exact⟨HOK.out,⟨fun c=>absurd c H13.out,fun _ c _=>absurd H7.out c⟩⟩
       ·exact S.out.2 i (by omega)⟩
      case measure=>simp[intOf];omega
     have n7:(x.op != 7)=true:=by rw[bne_iff_ne];exact h7
     clear h7
     by_cases h9:x.op=9
     ·have n9:(x.op != 9)=false:=by rw[h9];rfl
      have H9:Hid (x.op=9):=h9
      clear h9
      go_upto_region 13 with fail
      refine fo13_b (f:=f) (v:=⟨va,vl,vc⟩) (s:=⟨some ⟨sb,so,none⟩,sl,sc⟩) (x:=x) (y2:=y) HBF.out HBX.out (fun u hu=>(l10InsOk_any f ⟨va,vl,vc⟩ ⟨some ⟨sb,so,none⟩,sl,sc⟩ x y hvl9 u (HRW.out.keep ((below_alloc wr (.cells #[.int .i64 x.op,.int .i64 x.d,.int .i64 x.a,.int .i64 x.b,.int .i64 x.n,.string x.sym,.slice y.a y.len y.cap] 81)).trans (Below.mono hu (by simp))))).mono fun e u' ⟨⟨b,he,hb⟩,d⟩=>⟨by rw[he,show b=true from (hb.2 HOK.out)],d⟩) e13 _ _ _ _ _ _ _ _ _ _ _ _ _ _ _ _ _ _ _ _ _ _ _ _ _ _ _ _ _ _ _ _ _ _ _ _ _ _ _ _ _ _ _ _ _ _ _ _ _ _ _ _ _ _ _ _ _ _ _ _ _ _ _ _ _ _ _ _ _ _ _ _ _ _ _ _ _ _ _ _ _ _ _ _ _ _ _ _ _ _ _ _ _ _ _ _ _ _ _ _ _ _ _ _ _ _ _ _ _ _ _ _ _ _ _ _ _ _ _ _ _ _ _ _ _ _ _ _ _ _ _ _ _ _ _ _ _ _ _ _ _ _ _ _ _ _ _ _ _ _ _ _ _ _ _ _ _ _ _ _ _ ?_
      intro s87 s88 s89 s90 s91 s92 s93 s94 s95 s96 s97 s98 s99 s100 s101 y3 hb3
      have D2:Hid (Below wr.heap.size wr y3):=(below_alloc wr (.cells #[.int .i64 x.op,.int .i64 x.d,.int .i64 x.a,.int .i64 x.b,.int .i64 x.n,.string x.sym,.slice y.a y.len y.cap] 81)).trans (Below.mono hb3 (by simp))
      have X2:Hid (y3.heap[wr.heap.size]?=some (.cells #[.int .i64 x.op,.int .i64 x.d,.int .i64 x.a,.int .i64 x.b,.int .i64 x.n,.string x.sym,.slice y.a y.len y.cap] 81)):=(hb3.block wr.heap.size (by simp)).trans (heap_alloc_new wr (.cells #[.int .i64 x.op,.int .i64 x.d,.int .i64 x.a,.int .i64 x.b,.int .i64 x.n,.string x.sym,.slice y.a y.len y.cap] 81))
      have x0:y3.cell? ⟨wr.heap.size,0,none⟩=some (.int .i64 x.op):=by rw[cell_of_row y3 _ 0 _ _ (0,0) X2.out];rfl
      have x5:y3.cell? ⟨wr.heap.size,5,none⟩=some (.string x.sym):=by rw[cell_of_row y3 _ 5 _ _ (0,0) X2.out];rfl
      clear hb3
      go_wp2_with fail
      go_roundw
      case rel=>exact⟨k+1,by omega,by go_num,⟨SB.out.1.trans (Below.mono D2.out SB.out.1.size),(D2.out.block _ (Array.getElem?_eq_some_iff.1 SB.out.2).1).trans SB.out.2⟩,fun i hi=>by
       by_cases e:i=k
       ·rw[e,<- HX.out,HV.out.2];exact⟨HOK.out,⟨fun c=>absurd c H13.out,fun _ _ c=>absurd H9.out c⟩⟩
       ·exact S.out.2 i (by omega)⟩
      case measure=>simp[intOf];omega
     have n9:(x.op != 9)=true:=by rw[bne_iff_ne];exact h9
     have H9:Hid (¬ x.op=9):=h9
     have H7:Hid (¬ x.op=7):=by show ¬ x.op=7;exact bne_iff_ne.1 n7
     clear h9
     cases he:(x.sym.toList == (⟨#[]⟩:ByteArray).toList)
     ·have HE:Hid ((x.sym.toList == (⟨#[]⟩:ByteArray).toList)=false):=he
      have he3:(x.sym.toList == [])=false:=by rw[show (⟨#[]⟩:ByteArray).toList=[] by rw[ByteArray.toList_eq]]at he;exact he
      have he4:x.sym.toList.isEmpty=false:=by rw[<- he3];cases x.sym.toList <;> rfl
      have he5:(x.sym.toList != [])=true:=by rw[bne,he3];rfl
      clear he
      have HN:Hid (¬ Pl.funOk f):=fun c=>by have:=(c.2.2.1 k HK.out).2.2;rw[<- HX.out]at this;have:=this H13.out H7.out H9.out;rw[HE.out]at this;cases this
      go_upto_region 13 with fail
      refine fo13_b (f:=f) (v:=⟨va,vl,vc⟩) (s:=⟨some ⟨sb,so,none⟩,sl,sc⟩) (x:=x) (y2:=y) HBF.out HBX.out (fun u hu=>(l10InsOk_any f ⟨va,vl,vc⟩ ⟨some ⟨sb,so,none⟩,sl,sc⟩ x y hvl9 u (HRW.out.keep ((below_alloc wr (.cells #[.int .i64 x.op,.int .i64 x.d,.int .i64 x.a,.int .i64 x.b,.int .i64 x.n,.string x.sym,.slice y.a y.len y.cap] 81)).trans (Below.mono hu (by simp))))).mono fun e u' ⟨⟨b,he,hb⟩,d⟩=>⟨by rw[he,show b=true from (hb.2 HOK.out)],d⟩) e13 _ _ _ _ _ _ _ _ _ _ _ _ _ _ _ _ _ _ _ _ _ _ _ _ _ _ _ _ _ _ _ _ _ _ _ _ _ _ _ _ _ _ _ _ _ _ _ _ _ _ _ _ _ _ _ _ _ _ _ _ _ _ _ _ _ _ _ _ _ _ _ _ _ _ _ _ _ _ _ _ _ _ _ _ _ _ _ _ _ _ _ _ _ _ _ _ _ _ _ _ _ _ _ _ _ _ _ _ _ _ _ _ _ _ _ _ _ _ _ _ _ _ _ _ _ _ _ _ _ _ _ _ _ _ _ _ _ _ _ _ _ _ _ _ _ _ _ _ _ _ _ _ _ _ _ _ _ _ _ _ _ ?_
      intro s87 s88 s89 s90 s91 s92 s93 s94 s95 s96 s97 s98 s99 s100 s101 y3 hb3
      have D2:Hid (Below wr.heap.size wr y3):=(below_alloc wr (.cells #[.int .i64 x.op,.int .i64 x.d,.int .i64 x.a,.int .i64 x.b,.int .i64 x.n,.string x.sym,.slice y.a y.len y.cap] 81)).trans (Below.mono hb3 (by simp))
      have X2:Hid (y3.heap[wr.heap.size]?=some (.cells #[.int .i64 x.op,.int .i64 x.d,.int .i64 x.a,.int .i64 x.b,.int .i64 x.n,.string x.sym,.slice y.a y.len y.cap] 81)):=(hb3.block wr.heap.size (by simp)).trans (heap_alloc_new wr (.cells #[.int .i64 x.op,.int .i64 x.d,.int .i64 x.a,.int .i64 x.b,.int .i64 x.n,.string x.sym,.slice y.a y.len y.cap] 81))
      have x0:y3.cell? ⟨wr.heap.size,0,none⟩=some (.int .i64 x.op):=by rw[cell_of_row y3 _ 0 _ _ (0,0) X2.out];rfl
      have x5:y3.cell? ⟨wr.heap.size,5,none⟩=some (.string x.sym):=by rw[cell_of_row y3 _ 5 _ _ (0,0) X2.out];rfl
      clear hb3
      go_wp2_with fail
      go_ret
      exact⟨isB_no HN.out,SB.out.1.trans (Below.mono D2.out SB.out.1.size)⟩
     ·have HE:Hid ((x.sym.toList == (⟨#[]⟩:ByteArray).toList)=true):=he
      have he3:(x.sym.toList == [])=true:=by rw[show (⟨#[]⟩:ByteArray).toList=[] by rw[ByteArray.toList_eq]]at he;exact he
      have he4:x.sym.toList.isEmpty=true:=by rw[<- he3];cases x.sym.toList <;> rfl
      have he5:(x.sym.toList != [])=false:=by rw[bne,he3];rfl
      clear he
      go_upto_region 13 with fail
      refine fo13_b (f:=f) (v:=⟨va,vl,vc⟩) (s:=⟨some ⟨sb,so,none⟩,sl,sc⟩) (x:=x) (y2:=y) HBF.out HBX.out (fun u hu=>(l10InsOk_any f ⟨va,vl,vc⟩ ⟨some ⟨sb,so,none⟩,sl,sc⟩ x y hvl9 u (HRW.out.keep ((below_alloc wr (.cells #[.int .i64 x.op,.int .i64 x.d,.int .i64 x.a,.int .i64 x.b,.int .i64 x.n,.string x.sym,.slice y.a y.len y.cap] 81)).trans (Below.mono hu (by simp))))).mono fun e u' ⟨⟨b,he,hb⟩,d⟩=>⟨by rw[he,show b=true from (hb.2 HOK.out)],d⟩) e13 _ _ _ _ _ _ _ _ _ _ _ _ _ _ _ _ _ _ _ _ _ _ _ _ _ _ _ _ _ _ _ _ _ _ _ _ _ _ _ _ _ _ _ _ _ _ _ _ _ _ _ _ _ _ _ _ _ _ _ _ _ _ _ _ _ _ _ _ _ _ _ _ _ _ _ _ _ _ _ _ _ _ _ _ _ _ _ _ _ _ _ _ _ _ _ _ _ _ _ _ _ _ _ _ _ _ _ _ _ _ _ _ _ _ _ _ _ _ _ _ _ _ _ _ _ _ _ _ _ _ _ _ _ _ _ _ _ _ _ _ _ _ _ _ _ _ _ _ _ _ _ _ _ _ _ _ _ _ _ _ _ ?_
      intro s87 s88 s89 s90 s91 s92 s93 s94 s95 s96 s97 s98 s99 s100 s101 y3 hb3
      have D2:Hid (Below wr.heap.size wr y3):=(below_alloc wr (.cells #[.int .i64 x.op,.int .i64 x.d,.int .i64 x.a,.int .i64 x.b,.int .i64 x.n,.string x.sym,.slice y.a y.len y.cap] 81)).trans (Below.mono hb3 (by simp))
      have X2:Hid (y3.heap[wr.heap.size]?=some (.cells #[.int .i64 x.op,.int .i64 x.d,.int .i64 x.a,.int .i64 x.b,.int .i64 x.n,.string x.sym,.slice y.a y.len y.cap] 81)):=(hb3.block wr.heap.size (by simp)).trans (heap_alloc_new wr (.cells #[.int .i64 x.op,.int .i64 x.d,.int .i64 x.a,.int .i64 x.b,.int .i64 x.n,.string x.sym,.slice y.a y.len y.cap] 81))
      have x0:y3.cell? ⟨wr.heap.size,0,none⟩=some (.int .i64 x.op):=by rw[cell_of_row y3 _ 0 _ _ (0,0) X2.out];rfl
      have x5:y3.cell? ⟨wr.heap.size,5,none⟩=some (.string x.sym):=by rw[cell_of_row y3 _ 5 _ _ (0,0) X2.out];rfl
      clear hb3
      go_wp2_with fail
      go_roundw
      case rel=>exact⟨k+1,by omega,by go_num,⟨SB.out.1.trans (Below.mono D2.out SB.out.1.size),(D2.out.block _ (Array.getElem?_eq_some_iff.1 SB.out.2).1).trans SB.out.2⟩,fun i hi=>by
       by_cases e:i=k
       ·rw[e,<- HX.out,HV.out.2];exact⟨HOK.out,⟨fun c=>absurd c H13.out,fun _ _ _=>HE.out⟩⟩
       ·exact S.out.2 i (by omega)⟩
      case measure=>simp[intOf];omega
    ·have hki:¬ ((k:Int)<(sl:Int)):=by omega
     have HIN:Hid (∀ i,i<f.code.length->Pl.insOk f.slots.length f.regs (f.code.getD i Pl.IrI.zero)/\Pl.symOk0 (f.code.getD i Pl.IrI.zero)):=fun i hi=>S.out.2 i (by have:=HS.out.2;omega)
     clear S hk hlt
     go_wp2_with fail
     go_loopw [7] (fun t wr=>∃ k:Nat,k<=sl/\t=.int .i64 k/\Hid ((Below w.heap.size w wr/\wr.heap[w.heap.size]?=some (.cells #[.string f.name,.int .i64 f.params,.int .i64 f.regs,.slice va vl vc,.slice (some ⟨sb,so,none⟩) sl sc] 31))/\∀ i,i<k->Pl.labOk f.code i)) (fun t _=>sl-(intOf t).toNat)
     case atStart=>exact⟨0,Nat.zero_le _,rfl,SB.out,fun i hi=>absurd hi (Nat.not_lt_zero _)⟩
     case round=>
      clear f0 f1 f2 f3 f4 SB
      obtain⟨k,hk,rfl,S⟩:=hrel
      have SB:Hid (Below w.heap.size w wr/\wr.heap[w.heap.size]?=some (.cells #[.string f.name,.int .i64 f.params,.int .i64 f.regs,.slice va vl vc,.slice (some ⟨sb,so,none⟩) sl sc] 31)):=S.out.1
      have f0:wr.cell? ⟨w.heap.size,0,none⟩=some (.string f.name):=by rw[cell_of_row wr _ 0 _ _ (0,0) SB.out.2];rfl
      have f1:wr.cell? ⟨w.heap.size,1,none⟩=some (.int .i64 f.params):=by rw[cell_of_row wr _ 1 _ _ (0,0) SB.out.2];rfl
      have f2:wr.cell? ⟨w.heap.size,2,none⟩=some (.int .i64 f.regs):=by rw[cell_of_row wr _ 2 _ _ (0,0) SB.out.2];rfl
      have f3:wr.cell? ⟨w.heap.size,3,none⟩=some (.slice va vl vc):=by rw[cell_of_row wr _ 3 _ _ (0,0) SB.out.2];rfl
      have f4:wr.cell? ⟨w.heap.size,4,none⟩=some (.slice (some ⟨sb,so,none⟩) sl sc):=by rw[cell_of_row wr _ 4 _ _ (0,0) SB.out.2];rfl
      by_cases hlt:k<sl
      ·have hki:(k:Int)<(sl:Int):=by omega
       obtain⟨b2,o2,y,e2,_,hb2,hc2,_,_⟩:=(HS.out.1.keep SB.out.1).at hlt
       simp only[Option.some.injEq,Addr.mk.injEq,and_true]at e2
       obtain⟨rfl,rfl⟩:=e2
       have HX:Hid (Pl.labOk f.code k↔((f.code.getD k Pl.IrI.zero).op=11->0<=(f.code.getD k Pl.IrI.zero).n/\Pl.LabIs f.code (f.code.getD k Pl.IrI.zero).n k)/\((f.code.getD k Pl.IrI.zero).op=12\/(f.code.getD k Pl.IrI.zero).op=13->¬ Pl.LabIs f.code (f.code.getD k Pl.IrI.zero).n (-1))):=Iff.rfl
       generalize f.code.getD k Pl.IrI.zero=x at hc2 HX
       obtain⟨g0,g1,g2,g3,g4,g5,g6⟩:=iri_cells hc2
       have hwz:w.heap.size<wr.heap.size:=(Array.getElem?_eq_some_iff.1 SB.out.2).1
       have HK:Hid (Pl.funOk f->Pl.labOk f.code k):=fun c=>c.2.2.2 k (by have:=HS.out.2;omega)
       clear hc2
       by_cases h11:x.op=11
       ·have e11:(x.op == 11)=true:=by rw[h11];rfl
        have e12:(x.op == 12)=false:=by rw[h11];rfl
        have e13:(x.op == 13)=false:=by rw[h11];rfl
        have H11:Hid (x.op=11):=h11
        clear h11
        by_cases hn:x.n<0
        ·have HN:Hid (¬ Pl.funOk f):=fun c=>by have:=((HX.out.1 (HK.out c)).1 H11.out).1;omega
         go_wp2_with fail
         go_ret
         exact⟨isB_no HN.out,SB.out.1.trans (Below.mono (below_alloc wr (.cells #[.int .i64 x.op,.int .i64 x.d,.int .i64 x.a,.int .i64 x.b,.int .i64 x.n,.string x.sym,.slice y.a y.len y.cap] 81)) SB.out.1.size)⟩
        ·have HNN:Hid (0<=x.n):=by show 0<=x.n;omega
         go_wp2_with fail
         refine (l10Label_any f ⟨va,vl,vc⟩ ⟨some ⟨sb,so,none⟩,sl,sc⟩ x.n _ (HS.out.1.keep (SB.out.1.trans (Below.mono (below_alloc _ _) SB.out.1.size)))).mono ?_
         rintro e u2 ⟨r,rfl,hr,d2⟩
         have HR2:Hid (Pl.LabIs f.code x.n r):=hr
         have D2:Hid (Below wr.heap.size wr u2):=(below_alloc wr (.cells #[.int .i64 x.op,.int .i64 x.d,.int .i64 x.a,.int .i64 x.b,.int .i64 x.n,.string x.sym,.slice y.a y.len y.cap] 81)).trans (Below.mono d2 (by simp))
         have X2:Hid (u2.heap[wr.heap.size]?=some (.cells #[.int .i64 x.op,.int .i64 x.d,.int .i64 x.a,.int .i64 x.b,.int .i64 x.n,.string x.sym,.slice y.a y.len y.cap] 81)):=(d2.block wr.heap.size (by simp)).trans (heap_alloc_new wr (.cells #[.int .i64 x.op,.int .i64 x.d,.int .i64 x.a,.int .i64 x.b,.int .i64 x.n,.string x.sym,.slice y.a y.len y.cap] 81))
         have x0:u2.cell? ⟨wr.heap.size,0,none⟩=some (.int .i64 x.op):=by rw[cell_of_row u2 _ 0 _ _ (0,0) X2.out];rfl
         have x4:u2.cell? ⟨wr.heap.size,4,none⟩=some (.int .i64 x.n):=by rw[cell_of_row u2 _ 4 _ _ (0,0) X2.out];rfl
         clear d2 hr
         by_cases hrk:r=(k:Int)
         ·have er:(r == (k:Int))=true:=by rw[hrk];exact beq_self_eq_true _
          have nr:(r != (k:Int))=false:=by rw[bne,er];rfl
          have HL:Hid (Pl.labOk f.code k):=HX.out.2 ⟨fun _=>⟨HNN.out,by rw[<- hrk];exact HR2.out⟩,fun c=>by have:=H11.out;omega⟩
          clear hrk
          go_wp2_with fail
          go_roundw
          case rel=>exact⟨k+1,by omega,by go_num,⟨SB.out.1.trans (Below.mono D2.out SB.out.1.size),(Below.block D2.out _ (Array.getElem?_eq_some_iff.1 SB.out.2).1).trans SB.out.2⟩,fun i hi=>by
           by_cases e:i=k
           ·rw[e];exact HL.out
           ·exact S.out.2 i (by omega)⟩
          case measure=>simp[intOf];omega
         ·have er:(r == (k:Int))=false:=by rw[beq_eq_false_iff_ne];exact hrk
          have nr:(r != (k:Int))=true:=by rw[bne,er];rfl
          have HN:Hid (¬ Pl.funOk f):=fun c=>hrk (Pl.LabIs.fn HR2.out ((HX.out.1 (HK.out c)).1 H11.out).2)
          clear hrk
          go_wp2_with fail
          go_ret
          exact⟨isB_no HN.out,SB.out.1.trans (Below.mono D2.out SB.out.1.size)⟩
       have e11:(x.op == 11)=false:=by rw[beq_eq_false_iff_ne];exact h11
       have H11:Hid (¬ x.op=11):=h11
       clear h11
       have tailJ:True:=trivial
       by_cases hj:x.op=12
       ·have e12:(x.op == 12)=true:=by rw[hj];rfl
        have HJ:Hid (x.op=12\/x.op=13):=.inl hj
        clear hj
        go_wp2_with fail
        refine (l10Label_any f ⟨va,vl,vc⟩ ⟨some ⟨sb,so,none⟩,sl,sc⟩ x.n _ (HS.out.1.keep (SB.out.1.trans (Below.mono (below_alloc _ _) SB.out.1.size)))).mono ?_
        rintro e u2 ⟨r,rfl,hr,d2⟩
        have HR2:Hid (Pl.LabIs f.code x.n r):=hr
        have D2:Hid (Below wr.heap.size wr u2):=(below_alloc wr (.cells #[.int .i64 x.op,.int .i64 x.d,.int .i64 x.a,.int .i64 x.b,.int .i64 x.n,.string x.sym,.slice y.a y.len y.cap] 81)).trans (Below.mono d2 (by simp))
        have X2:Hid (u2.heap[wr.heap.size]?=some (.cells #[.int .i64 x.op,.int .i64 x.d,.int .i64 x.a,.int .i64 x.b,.int .i64 x.n,.string x.sym,.slice y.a y.len y.cap] 81)):=(d2.block wr.heap.size (by simp)).trans (heap_alloc_new wr (.cells #[.int .i64 x.op,.int .i64 x.d,.int .i64 x.a,.int .i64 x.b,.int .i64 x.n,.string x.sym,.slice y.a y.len y.cap] 81))
        have x0:u2.cell? ⟨wr.heap.size,0,none⟩=some (.int .i64 x.op):=by rw[cell_of_row u2 _ 0 _ _ (0,0) X2.out];rfl
        have x4:u2.cell? ⟨wr.heap.size,4,none⟩=some (.int .i64 x.n):=by rw[cell_of_row u2 _ 4 _ _ (0,0) X2.out];rfl
        clear d2 hr
        by_cases hr0:r<0
        ·have HN:Hid (¬ Pl.funOk f):=fun c=>by
          have h9:r=-1:=by rcases HR2.out with q | ⟨i,_,q,_⟩; exact q.1;omega
          exact (HX.out.1 (HK.out c)).2 HJ.out (by rw[<- h9];exact HR2.out)
         go_wp2_with fail
         go_ret
         exact⟨isB_no HN.out,SB.out.1.trans (Below.mono D2.out SB.out.1.size)⟩
        ·have HL:Hid (Pl.labOk f.code k):=HX.out.2 ⟨fun c=>absurd c H11.out,fun _ c=>by have:=Pl.LabIs.fn HR2.out c;omega⟩
         go_wp2_with fail
         go_roundw
         case rel=>exact⟨k+1,by omega,by go_num,⟨SB.out.1.trans (Below.mono D2.out SB.out.1.size),(Below.block D2.out _ (Array.getElem?_eq_some_iff.1 SB.out.2).1).trans SB.out.2⟩,fun i hi=>by
          by_cases e:i=k
          ·rw[e];exact HL.out
          ·exact S.out.2 i (by omega)⟩
         case measure=>simp[intOf];omega
       have e12:(x.op == 12)=false:=by rw[beq_eq_false_iff_ne];exact hj
       have H12:Hid (¬ x.op=12):=hj
       clear hj
       by_cases hj:x.op=13
       ·have e13:(x.op == 13)=true:=by rw[hj];rfl
        have HJ:Hid (x.op=12\/x.op=13):=.inr hj
        clear hj
        go_wp2_with fail
        refine (l10Label_any f ⟨va,vl,vc⟩ ⟨some ⟨sb,so,none⟩,sl,sc⟩ x.n _ (HS.out.1.keep (SB.out.1.trans (Below.mono (below_alloc _ _) SB.out.1.size)))).mono ?_
        rintro e u2 ⟨r,rfl,hr,d2⟩
        have HR2:Hid (Pl.LabIs f.code x.n r):=hr
        have D2:Hid (Below wr.heap.size wr u2):=(below_alloc wr (.cells #[.int .i64 x.op,.int .i64 x.d,.int .i64 x.a,.int .i64 x.b,.int .i64 x.n,.string x.sym,.slice y.a y.len y.cap] 81)).trans (Below.mono d2 (by simp))
        have X2:Hid (u2.heap[wr.heap.size]?=some (.cells #[.int .i64 x.op,.int .i64 x.d,.int .i64 x.a,.int .i64 x.b,.int .i64 x.n,.string x.sym,.slice y.a y.len y.cap] 81)):=(d2.block wr.heap.size (by simp)).trans (heap_alloc_new wr (.cells #[.int .i64 x.op,.int .i64 x.d,.int .i64 x.a,.int .i64 x.b,.int .i64 x.n,.string x.sym,.slice y.a y.len y.cap] 81))
        have x0:u2.cell? ⟨wr.heap.size,0,none⟩=some (.int .i64 x.op):=by rw[cell_of_row u2 _ 0 _ _ (0,0) X2.out];rfl
        have x4:u2.cell? ⟨wr.heap.size,4,none⟩=some (.int .i64 x.n):=by rw[cell_of_row u2 _ 4 _ _ (0,0) X2.out];rfl
        clear d2 hr
        by_cases hr0:r<0
        ·have HN:Hid (¬ Pl.funOk f):=fun c=>by
          have h9:r=-1:=by rcases HR2.out with q | ⟨i,_,q,_⟩; exact q.1;omega
          exact (HX.out.1 (HK.out c)).2 HJ.out (by rw[<- h9];exact HR2.out)
         go_wp2_with fail
         go_ret
         exact⟨isB_no HN.out,SB.out.1.trans (Below.mono D2.out SB.out.1.size)⟩
        ·have HL:Hid (Pl.labOk f.code k):=HX.out.2 ⟨fun c=>absurd c H11.out,fun _ c=>by have:=Pl.LabIs.fn HR2.out c;omega⟩
         go_wp2_with fail
         go_roundw
         case rel=>exact⟨k+1,by omega,by go_num,⟨SB.out.1.trans (Below.mono D2.out SB.out.1.size),(Below.block D2.out _ (Array.getElem?_eq_some_iff.1 SB.out.2).1).trans SB.out.2⟩,fun i hi=>by
          by_cases e:i=k
          ·rw[e];exact HL.out
          ·exact S.out.2 i (by omega)⟩
         case measure=>simp[intOf];omega
       have e13:(x.op == 13)=false:=by rw[beq_eq_false_iff_ne];exact hj
       have HL:Hid (Pl.labOk f.code k):=HX.out.2 ⟨fun c=>absurd c H11.out,fun c=>by rcases c with c | c;exact absurd c H12.out;exact absurd c hj⟩
       clear hj
       go_wp2_with fail
       go_roundw
       case rel=>exact⟨k+1,by omega,by go_num,⟨SB.out.1.trans (Below.mono (below_alloc wr (.cells #[.int .i64 x.op,.int .i64 x.d,.int .i64 x.a,.int .i64 x.b,.int .i64 x.n,.string x.sym,.slice y.a y.len y.cap] 81)) SB.out.1.size),(Below.block (below_alloc wr (.cells #[.int .i64 x.op,.int .i64 x.d,.int .i64 x.a,.int .i64 x.b,.int .i64 x.n,.string x.sym,.slice y.a y.len y.cap] 81)) _ (Array.getElem?_eq_some_iff.1 SB.out.2).1).trans SB.out.2⟩,fun i hi=>by
        by_cases e:i=k
        ·rw[e];exact HL.out
        ·exact S.out.2 i (by omega)⟩
       case measure=>simp[intOf];omega
      ·have hki:¬ ((k:Int)<(sl:Int)):=by omega
       have HY:Hid (Pl.funOk f):=⟨HH.out,HSL.out,HIN.out,fun i hi=>S.out.2 i (by have:=HS.out.2;omega)⟩
       go_wp2_with fail
       go_ret
       exact⟨isB_yes HY.out,SB.out.1⟩
end Go.Proofs.YtcgfgmlfbgbkfaaGreatDoor.W
