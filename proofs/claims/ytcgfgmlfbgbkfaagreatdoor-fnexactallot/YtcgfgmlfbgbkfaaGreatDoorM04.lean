import Derived.Test.YtcgfgmlfbgbkfaaGreatDoorM03
import Derived.BigQuiet
import Derived.Test.YtcgfgmlfbgbkfaaGreatDoorM02
import Derived.Great.Walk
import Derived.Test.YtcgfgmlfbgbkfaaGreatDoorChecked
import Derived.Test.YtcgfgmlfbgbkfaaGreatDoorM05
set_option linter.unusedVariables false
set_option linter.unusedSimpArgs false
set_option maxHeartbeats 16000000
namespace Go.Proofs.YtcgfgmlfbgbkfaaGreatDoor.Pl
def insOk (slots:Nat) (regs:Int) (x:IrI):Prop:=(1<=x.op/\x.op<=16)/\regOk regs x.d (irTab.getD x.op.toNat 0 % 4)=true/\regOk regs x.a (irTab.getD x.op.toNat 0 / 4 % 4)=true/\regOk regs x.b (irTab.getD x.op.toNat 0 / 16 % 2)=true/\numOk slots x.op x.n=true/\x.args.length<=8/\(irTab.getD x.op.toNat 0<128->x.args.length=0)/\∀ k,k<x.args.length->regOk regs (x.args.getD k 0) 1=true
theorem irTab_bd:∀ op:Nat,op<=16->0<=irTab.getD op 0/\irTab.getD op 0<=255
 | 0,_=>by decide | 1,_=>by decide | 2,_=>by decide | 3,_=>by decide | 4,_=>by decide | 5,_=>by decide | 6,_=>by decide | 7,_=>by decide | 8,_=>by decide | 9,_=>by decide | 10,_=>by decide | 11,_=>by decide | 12,_=>by decide | 13,_=>by decide | 14,_=>by decide | 15,_=>by decide | 16,_=>by decide
 | n+17,h=>absurd h (by omega)
end Go.Proofs.YtcgfgmlfbgbkfaaGreatDoor.Pl
namespace Go.Proofs.YtcgfgmlfbgbkfaaGreatDoor.W
open Go.RowKit
def IsB (P:Prop) (e:Ending):Prop:=∃ b:Bool,e=.returned (.bool b)/\(b=true↔P)
theorem isB_no {P:Prop} (h:¬ P):IsB P (.returned (.bool false)):=⟨false,rfl,⟨fun c=>absurd c (by decide),fun c=>absurd c h⟩⟩
theorem isB_yes {P:Prop} (h:P):IsB P (.returned (.bool true)):=⟨true,rfl,⟨fun _=>h,fun _=>rfl⟩⟩
set_option maxRecDepth 4000 in
theorem l10InsOk_any {lo:Nat} (f:Pl.IrF) (v s:SV) (x:Pl.IrI) (q:SV) (hv:v.len<=9223372036854775807) (w:World) (hq:Row .i64 lo w q.a q.len q.cap x.args):Calls Tryz.prog 47 #[.agg #[.string f.name,.int .i64 f.params,.int .i64 f.regs,.slice v.a v.len v.cap,.slice s.a s.len s.cap],.agg #[.int .i64 x.op,.int .i64 x.d,.int .i64 x.a,.int .i64 x.b,.int .i64 x.n,.string x.sym,.slice q.a q.len q.cap]] w fun e w'=>IsB (Pl.insOk v.len f.regs x) e/\Below w.heap.size w w':=by
 obtain⟨o,d,a,b,n,sym,args⟩:=x
 obtain⟨qa,ql,qc⟩:=q
 simp only at hq ⊢
 have hql:(ql:Int)<=9223372036854775807:=by have:=hq.small;omega
 have HQ:Hid (Row .i64 lo w qa ql qc args/\args.length=ql):=⟨hq,hq.1⟩
 clear hq
 have B2:∀ o1 o2:Obj,Below w.heap.size w ((w.alloc o1).alloc o2):=fun o1 o2=>(below_alloc w o1).trans ((below_alloc _ o2).mono (by simp))
 by_cases h1:1<=o
 rotate_left
 ·go_enter Tryz.func47,Tryz.ntmps47
  go_wp2_with fail
  go_ret
  exact⟨isB_no (fun c=>by have:1<=o:=c.1.1;omega),B2 _ _⟩
 by_cases h2:o<=16
 rotate_left
 ·go_enter Tryz.func47,Tryz.ntmps47
  go_wp2_with fail
  go_ret
  exact⟨isB_no (fun c=>by have:o<=16:=c.1.2;omega),B2 _ _⟩
 obtain⟨op,rfl⟩:∃ op:Nat,o=op:=⟨o.toNat,by omega⟩
 have h16:op<=16:=by omega
 obtain⟨uu,huu⟩:∃ uu,uu=Pl.irTab.getD op 0:=⟨_,rfl⟩
 have hub:=Pl.irTab_bd op h16
 rw[<- huu]at hub
 have HOK:Hid (Pl.insOk v.len f.regs ⟨(op:Int),d,a,b,n,sym,args⟩↔(Pl.regOk f.regs d (uu % 4)=true/\Pl.regOk f.regs a (uu / 4 % 4)=true/\Pl.regOk f.regs b (uu / 16 % 2)=true/\Pl.numOk v.len (op:Int) n=true/\args.length<=8/\(uu<128->args.length=0)/\∀ k,k<args.length->Pl.regOk f.regs (args.getD k 0) 1=true)):=by
  show Pl.insOk v.len f.regs ⟨(op:Int),d,a,b,n,sym,args⟩↔_
  unfold Pl.insOk
  simp only[Int.toNat_natCast,<- huu]
  exact⟨fun c=>c.2,fun c=>⟨⟨h1,h2⟩,c⟩⟩
 have HUU:Hid (Pl.irTab.getD op 0=uu):=huu.symm
 have hw1:uu.tmod 4=uu % 4:=Int.tmod_eq_emod_of_nonneg hub.1
 have hw2:uu.tdiv 4=uu / 4:=Int.tdiv_eq_ediv_of_nonneg hub.1
 have hw3:(uu / 4).tmod 4=uu / 4 % 4:=Int.tmod_eq_emod_of_nonneg (by omega)
 have hw4:uu.tdiv 16=uu / 16:=Int.tdiv_eq_ediv_of_nonneg hub.1
 have hw5:(uu / 16).tmod 2=uu / 16 % 2:=Int.tmod_eq_emod_of_nonneg (by omega)
 have hww2:IntKind.i64.wrap (uu / 4)=uu / 4:=by rw[IntKind.wrap_i64];omega
 have hww4:IntKind.i64.wrap (uu / 16)=uu / 16:=by rw[IntKind.wrap_i64];omega
 clear huu
 go_enter Tryz.func47,Tryz.ntmps47
 go_wp2_with fail
 refine ty_at fun u0 hu0=>?_
 have H0:Hid (Below w.heap.size w u0/\u0.heap[w.heap.size]?=some (.cells #[.string f.name,.int .i64 f.params,.int .i64 f.regs,.slice v.a v.len v.cap,.slice s.a s.len s.cap] 31)/\u0.heap[w.heap.size+1]?=some (.cells #[.int .i64 (op:Int),.int .i64 d,.int .i64 a,.int .i64 b,.int .i64 n,.string sym,.slice qa ql qc] 81)):=by
  refine⟨by rw[hu0];exact B2 _ _,?_,?_⟩
  ·rw[hu0,Below.heap_alloc _ _ _ (by simp)];exact heap_alloc_new w _
  ·rw[hu0];have:=heap_alloc_new (w.alloc (.cells #[.string f.name,.int .i64 f.params,.int .i64 f.regs,.slice v.a v.len v.cap,.slice s.a s.len s.cap] 31)) (.cells #[.int .i64 (op:Int),.int .i64 d,.int .i64 a,.int .i64 b,.int .i64 n,.string sym,.slice qa ql qc] 81);simpa using this
 clear hu0 B2
 refine (l10Fields_any op h16 u0).mono ?_
 rintro e u1 ⟨rfl,d1⟩
 rw[HUU.out]
 have H1:Hid (Below w.heap.size w u1/\u1.heap[w.heap.size]?=some (.cells #[.string f.name,.int .i64 f.params,.int .i64 f.regs,.slice v.a v.len v.cap,.slice s.a s.len s.cap] 31)/\u1.heap[w.heap.size+1]?=some (.cells #[.int .i64 (op:Int),.int .i64 d,.int .i64 a,.int .i64 b,.int .i64 n,.string sym,.slice qa ql qc] 81)):=⟨H0.out.1.trans (d1.mono H0.out.1.size),(d1.block _ (by have:=(Array.getElem?_eq_some_iff.1 H0.out.2.1).1;exact this)).trans H0.out.2.1,(d1.block _ (by have:=(Array.getElem?_eq_some_iff.1 H0.out.2.2).1;exact this)).trans H0.out.2.2⟩
 have f0:u1.cell? ⟨w.heap.size,0,none⟩=some (.string f.name):=by rw[cell_of_row u1 _ 0 _ _ (0,0) H1.out.2.1];rfl
 have f1:u1.cell? ⟨w.heap.size,1,none⟩=some (.int .i64 f.params):=by rw[cell_of_row u1 _ 1 _ _ (0,0) H1.out.2.1];rfl
 have f2:u1.cell? ⟨w.heap.size,2,none⟩=some (.int .i64 f.regs):=by rw[cell_of_row u1 _ 2 _ _ (0,0) H1.out.2.1];rfl
 have f3:u1.cell? ⟨w.heap.size,3,none⟩=some (.slice v.a v.len v.cap):=by rw[cell_of_row u1 _ 3 _ _ (0,0) H1.out.2.1];rfl
 have f4:u1.cell? ⟨w.heap.size,4,none⟩=some (.slice s.a s.len s.cap):=by rw[cell_of_row u1 _ 4 _ _ (0,0) H1.out.2.1];rfl
 have x0:u1.cell? ⟨w.heap.size+1,0,none⟩=some (.int .i64 (op:Int)):=by rw[cell_of_row u1 _ 0 _ _ (0,0) H1.out.2.2];rfl
 have x1:u1.cell? ⟨w.heap.size+1,1,none⟩=some (.int .i64 d):=by rw[cell_of_row u1 _ 1 _ _ (0,0) H1.out.2.2];rfl
 have x2:u1.cell? ⟨w.heap.size+1,2,none⟩=some (.int .i64 a):=by rw[cell_of_row u1 _ 2 _ _ (0,0) H1.out.2.2];rfl
 have x3:u1.cell? ⟨w.heap.size+1,3,none⟩=some (.int .i64 b):=by rw[cell_of_row u1 _ 3 _ _ (0,0) H1.out.2.2];rfl
 have x4:u1.cell? ⟨w.heap.size+1,4,none⟩=some (.int .i64 n):=by rw[cell_of_row u1 _ 4 _ _ (0,0) H1.out.2.2];rfl
 have x5:u1.cell? ⟨w.heap.size+1,5,none⟩=some (.string sym):=by rw[cell_of_row u1 _ 5 _ _ (0,0) H1.out.2.2];rfl
 have x6:u1.cell? ⟨w.heap.size+1,6,none⟩=some (.slice qa ql qc):=by rw[cell_of_row u1 _ 6 _ _ (0,0) H1.out.2.2];rfl
 clear d1 H0
 go_wp2_with fail
 refine (l10RegOk_any f v s d (uu % 4) u1).mono ?_
 rintro e u2 ⟨rfl,d2⟩
 have H2:Hid (Below w.heap.size w u2/\u2.heap[w.heap.size]?=some (.cells #[.string f.name,.int .i64 f.params,.int .i64 f.regs,.slice v.a v.len v.cap,.slice s.a s.len s.cap] 31)/\u2.heap[w.heap.size+1]?=some (.cells #[.int .i64 (op:Int),.int .i64 d,.int .i64 a,.int .i64 b,.int .i64 n,.string sym,.slice qa ql qc] 81)):=⟨H1.out.1.trans (d2.mono H1.out.1.size),(d2.block _ (by have:=(Array.getElem?_eq_some_iff.1 H1.out.2.1).1;exact this)).trans H1.out.2.1,(d2.block _ (by have:=(Array.getElem?_eq_some_iff.1 H1.out.2.2).1;exact this)).trans H1.out.2.2⟩
 clear f0 f1 f2 f3 f4 x0 x1 x2 x3 x4 x5 x6
 have f0:u2.cell? ⟨w.heap.size,0,none⟩=some (.string f.name):=by rw[cell_of_row u2 _ 0 _ _ (0,0) H2.out.2.1];rfl
 have f1:u2.cell? ⟨w.heap.size,1,none⟩=some (.int .i64 f.params):=by rw[cell_of_row u2 _ 1 _ _ (0,0) H2.out.2.1];rfl
 have f2:u2.cell? ⟨w.heap.size,2,none⟩=some (.int .i64 f.regs):=by rw[cell_of_row u2 _ 2 _ _ (0,0) H2.out.2.1];rfl
 have f3:u2.cell? ⟨w.heap.size,3,none⟩=some (.slice v.a v.len v.cap):=by rw[cell_of_row u2 _ 3 _ _ (0,0) H2.out.2.1];rfl
 have f4:u2.cell? ⟨w.heap.size,4,none⟩=some (.slice s.a s.len s.cap):=by rw[cell_of_row u2 _ 4 _ _ (0,0) H2.out.2.1];rfl
 have x0:u2.cell? ⟨w.heap.size+1,0,none⟩=some (.int .i64 (op:Int)):=by rw[cell_of_row u2 _ 0 _ _ (0,0) H2.out.2.2];rfl
 have x1:u2.cell? ⟨w.heap.size+1,1,none⟩=some (.int .i64 d):=by rw[cell_of_row u2 _ 1 _ _ (0,0) H2.out.2.2];rfl
 have x2:u2.cell? ⟨w.heap.size+1,2,none⟩=some (.int .i64 a):=by rw[cell_of_row u2 _ 2 _ _ (0,0) H2.out.2.2];rfl
 have x3:u2.cell? ⟨w.heap.size+1,3,none⟩=some (.int .i64 b):=by rw[cell_of_row u2 _ 3 _ _ (0,0) H2.out.2.2];rfl
 have x4:u2.cell? ⟨w.heap.size+1,4,none⟩=some (.int .i64 n):=by rw[cell_of_row u2 _ 4 _ _ (0,0) H2.out.2.2];rfl
 have x5:u2.cell? ⟨w.heap.size+1,5,none⟩=some (.string sym):=by rw[cell_of_row u2 _ 5 _ _ (0,0) H2.out.2.2];rfl
 have x6:u2.cell? ⟨w.heap.size+1,6,none⟩=some (.slice qa ql qc):=by rw[cell_of_row u2 _ 6 _ _ (0,0) H2.out.2.2];rfl
 clear d2
 cases r1:Pl.regOk f.regs d (uu % 4)
 ·have HN:Hid (¬ Pl.insOk v.len f.regs ⟨(op:Int),d,a,b,n,sym,args⟩):=fun c=>by have:=HOK.out.1 c;rw[r1]at this;simp at this
  go_wp2_with fail
  go_ret
  exact⟨isB_no (HN.out),H2.out.1⟩
 have R1:Hid (Pl.regOk f.regs d (uu % 4)=true):=r1
 clear r1
 go_wp2_with fail
 refine (l10RegOk_any f v s a (uu / 4 % 4) u2).mono ?_
 rintro e u3 ⟨rfl,d3⟩
 have H3:Hid (Below w.heap.size w u3/\u3.heap[w.heap.size]?=some (.cells #[.string f.name,.int .i64 f.params,.int .i64 f.regs,.slice v.a v.len v.cap,.slice s.a s.len s.cap] 31)/\u3.heap[w.heap.size+1]?=some (.cells #[.int .i64 (op:Int),.int .i64 d,.int .i64 a,.int .i64 b,.int .i64 n,.string sym,.slice qa ql qc] 81)):=⟨H2.out.1.trans (d3.mono H2.out.1.size),(d3.block _ (by have:=(Array.getElem?_eq_some_iff.1 H2.out.2.1).1;exact this)).trans H2.out.2.1,(d3.block _ (by have:=(Array.getElem?_eq_some_iff.1 H2.out.2.2).1;exact this)).trans H2.out.2.2⟩
 clear f0 f1 f2 f3 f4 x0 x1 x2 x3 x4 x5 x6
 have f0:u3.cell? ⟨w.heap.size,0,none⟩=some (.string f.name):=by rw[cell_of_row u3 _ 0 _ _ (0,0) H3.out.2.1];rfl
 have f1:u3.cell? ⟨w.heap.size,1,none⟩=some (.int .i64 f.params):=by rw[cell_of_row u3 _ 1 _ _ (0,0) H3.out.2.1];rfl
 have f2:u3.cell? ⟨w.heap.size,2,none⟩=some (.int .i64 f.regs):=by rw[cell_of_row u3 _ 2 _ _ (0,0) H3.out.2.1];rfl
 have f3:u3.cell? ⟨w.heap.size,3,none⟩=some (.slice v.a v.len v.cap):=by rw[cell_of_row u3 _ 3 _ _ (0,0) H3.out.2.1];rfl
 have f4:u3.cell? ⟨w.heap.size,4,none⟩=some (.slice s.a s.len s.cap):=by rw[cell_of_row u3 _ 4 _ _ (0,0) H3.out.2.1];rfl
 have x0:u3.cell? ⟨w.heap.size+1,0,none⟩=some (.int .i64 (op:Int)):=by rw[cell_of_row u3 _ 0 _ _ (0,0) H3.out.2.2];rfl
 have x1:u3.cell? ⟨w.heap.size+1,1,none⟩=some (.int .i64 d):=by rw[cell_of_row u3 _ 1 _ _ (0,0) H3.out.2.2];rfl
 have x2:u3.cell? ⟨w.heap.size+1,2,none⟩=some (.int .i64 a):=by rw[cell_of_row u3 _ 2 _ _ (0,0) H3.out.2.2];rfl
 have x3:u3.cell? ⟨w.heap.size+1,3,none⟩=some (.int .i64 b):=by rw[cell_of_row u3 _ 3 _ _ (0,0) H3.out.2.2];rfl
 have x4:u3.cell? ⟨w.heap.size+1,4,none⟩=some (.int .i64 n):=by rw[cell_of_row u3 _ 4 _ _ (0,0) H3.out.2.2];rfl
 have x5:u3.cell? ⟨w.heap.size+1,5,none⟩=some (.string sym):=by rw[cell_of_row u3 _ 5 _ _ (0,0) H3.out.2.2];rfl
 have x6:u3.cell? ⟨w.heap.size+1,6,none⟩=some (.slice qa ql qc):=by rw[cell_of_row u3 _ 6 _ _ (0,0) H3.out.2.2];rfl
 clear d3
 cases r2:Pl.regOk f.regs a (uu / 4 % 4)
 ·have HN:Hid (¬ Pl.insOk v.len f.regs ⟨(op:Int),d,a,b,n,sym,args⟩):=fun c=>by have:=HOK.out.1 c;rw[r2]at this;simp at this
  go_wp2_with fail
  go_ret
  exact⟨isB_no (HN.out),H3.out.1⟩
 have R2:Hid (Pl.regOk f.regs a (uu / 4 % 4)=true):=r2
 clear r2
 go_wp2_with fail
 refine (l10RegOk_any f v s b (uu / 16 % 2) u3).mono ?_
 rintro e u4 ⟨rfl,d4⟩
 have H4:Hid (Below w.heap.size w u4/\u4.heap[w.heap.size]?=some (.cells #[.string f.name,.int .i64 f.params,.int .i64 f.regs,.slice v.a v.len v.cap,.slice s.a s.len s.cap] 31)/\u4.heap[w.heap.size+1]?=some (.cells #[.int .i64 (op:Int),.int .i64 d,.int .i64 a,.int .i64 b,.int .i64 n,.string sym,.slice qa ql qc] 81)):=⟨H3.out.1.trans (d4.mono H3.out.1.size),(d4.block _ (by have:=(Array.getElem?_eq_some_iff.1 H3.out.2.1).1;exact this)).trans H3.out.2.1,(d4.block _ (by have:=(Array.getElem?_eq_some_iff.1 H3.out.2.2).1;exact this)).trans H3.out.2.2⟩
 clear f0 f1 f2 f3 f4 x0 x1 x2 x3 x4 x5 x6
 have f0:u4.cell? ⟨w.heap.size,0,none⟩=some (.string f.name):=by rw[cell_of_row u4 _ 0 _ _ (0,0) H4.out.2.1];rfl
 have f1:u4.cell? ⟨w.heap.size,1,none⟩=some (.int .i64 f.params):=by rw[cell_of_row u4 _ 1 _ _ (0,0) H4.out.2.1];rfl
 have f2:u4.cell? ⟨w.heap.size,2,none⟩=some (.int .i64 f.regs):=by rw[cell_of_row u4 _ 2 _ _ (0,0) H4.out.2.1];rfl
 have f3:u4.cell? ⟨w.heap.size,3,none⟩=some (.slice v.a v.len v.cap):=by rw[cell_of_row u4 _ 3 _ _ (0,0) H4.out.2.1];rfl
 have f4:u4.cell? ⟨w.heap.size,4,none⟩=some (.slice s.a s.len s.cap):=by rw[cell_of_row u4 _ 4 _ _ (0,0) H4.out.2.1];rfl
 have x0:u4.cell? ⟨w.heap.size+1,0,none⟩=some (.int .i64 (op:Int)):=by rw[cell_of_row u4 _ 0 _ _ (0,0) H4.out.2.2];rfl
 have x1:u4.cell? ⟨w.heap.size+1,1,none⟩=some (.int .i64 d):=by rw[cell_of_row u4 _ 1 _ _ (0,0) H4.out.2.2];rfl
 have x2:u4.cell? ⟨w.heap.size+1,2,none⟩=some (.int .i64 a):=by rw[cell_of_row u4 _ 2 _ _ (0,0) H4.out.2.2];rfl
 have x3:u4.cell? ⟨w.heap.size+1,3,none⟩=some (.int .i64 b):=by rw[cell_of_row u4 _ 3 _ _ (0,0) H4.out.2.2];rfl
 have x4:u4.cell? ⟨w.heap.size+1,4,none⟩=some (.int .i64 n):=by rw[cell_of_row u4 _ 4 _ _ (0,0) H4.out.2.2];rfl
 have x5:u4.cell? ⟨w.heap.size+1,5,none⟩=some (.string sym):=by rw[cell_of_row u4 _ 5 _ _ (0,0) H4.out.2.2];rfl
 have x6:u4.cell? ⟨w.heap.size+1,6,none⟩=some (.slice qa ql qc):=by rw[cell_of_row u4 _ 6 _ _ (0,0) H4.out.2.2];rfl
 clear d4
 cases r3:Pl.regOk f.regs b (uu / 16 % 2)
 ·have HN:Hid (¬ Pl.insOk v.len f.regs ⟨(op:Int),d,a,b,n,sym,args⟩):=fun c=>by have:=HOK.out.1 c;rw[r3]at this;simp at this
  go_wp2_with fail
  go_ret
  exact⟨isB_no (HN.out),H4.out.1⟩
 have R3:Hid (Pl.regOk f.regs b (uu / 16 % 2)=true):=r3
 clear r3
 go_wp2_with fail
 refine (l10NumOk_any f v s ⟨(op:Int),d,a,b,n,sym,args⟩ ⟨qa,ql,qc⟩ hv op rfl h16 u4).mono ?_
 rintro e u5 ⟨rfl,d5⟩
 have H5:Hid (Below w.heap.size w u5/\u5.heap[w.heap.size]?=some (.cells #[.string f.name,.int .i64 f.params,.int .i64 f.regs,.slice v.a v.len v.cap,.slice s.a s.len s.cap] 31)/\u5.heap[w.heap.size+1]?=some (.cells #[.int .i64 (op:Int),.int .i64 d,.int .i64 a,.int .i64 b,.int .i64 n,.string sym,.slice qa ql qc] 81)):=⟨H4.out.1.trans (d5.mono H4.out.1.size),(d5.block _ (by have:=(Array.getElem?_eq_some_iff.1 H4.out.2.1).1;exact this)).trans H4.out.2.1,(d5.block _ (by have:=(Array.getElem?_eq_some_iff.1 H4.out.2.2).1;exact this)).trans H4.out.2.2⟩
 clear f0 f1 f2 f3 f4 x0 x1 x2 x3 x4 x5 x6
 have f0:u5.cell? ⟨w.heap.size,0,none⟩=some (.string f.name):=by rw[cell_of_row u5 _ 0 _ _ (0,0) H5.out.2.1];rfl
 have f1:u5.cell? ⟨w.heap.size,1,none⟩=some (.int .i64 f.params):=by rw[cell_of_row u5 _ 1 _ _ (0,0) H5.out.2.1];rfl
 have f2:u5.cell? ⟨w.heap.size,2,none⟩=some (.int .i64 f.regs):=by rw[cell_of_row u5 _ 2 _ _ (0,0) H5.out.2.1];rfl
 have f3:u5.cell? ⟨w.heap.size,3,none⟩=some (.slice v.a v.len v.cap):=by rw[cell_of_row u5 _ 3 _ _ (0,0) H5.out.2.1];rfl
 have f4:u5.cell? ⟨w.heap.size,4,none⟩=some (.slice s.a s.len s.cap):=by rw[cell_of_row u5 _ 4 _ _ (0,0) H5.out.2.1];rfl
 have x0:u5.cell? ⟨w.heap.size+1,0,none⟩=some (.int .i64 (op:Int)):=by rw[cell_of_row u5 _ 0 _ _ (0,0) H5.out.2.2];rfl
 have x1:u5.cell? ⟨w.heap.size+1,1,none⟩=some (.int .i64 d):=by rw[cell_of_row u5 _ 1 _ _ (0,0) H5.out.2.2];rfl
 have x2:u5.cell? ⟨w.heap.size+1,2,none⟩=some (.int .i64 a):=by rw[cell_of_row u5 _ 2 _ _ (0,0) H5.out.2.2];rfl
 have x3:u5.cell? ⟨w.heap.size+1,3,none⟩=some (.int .i64 b):=by rw[cell_of_row u5 _ 3 _ _ (0,0) H5.out.2.2];rfl
 have x4:u5.cell? ⟨w.heap.size+1,4,none⟩=some (.int .i64 n):=by rw[cell_of_row u5 _ 4 _ _ (0,0) H5.out.2.2];rfl
 have x5:u5.cell? ⟨w.heap.size+1,5,none⟩=some (.string sym):=by rw[cell_of_row u5 _ 5 _ _ (0,0) H5.out.2.2];rfl
 have x6:u5.cell? ⟨w.heap.size+1,6,none⟩=some (.slice qa ql qc):=by rw[cell_of_row u5 _ 6 _ _ (0,0) H5.out.2.2];rfl
 clear d5
 cases r4:Pl.numOk v.len (op:Int) n
 ·have HN:Hid (¬ Pl.insOk v.len f.regs ⟨(op:Int),d,a,b,n,sym,args⟩):=fun c=>by have:=HOK.out.1 c;rw[r4]at this;simp at this
  go_wp2_with fail
  go_ret
  exact⟨isB_no (HN.out),H5.out.1⟩
 have R4:Hid (Pl.numOk v.len (op:Int) n=true):=r4
 clear r4
 by_cases h8:(8:Int)<(ql:Int)
 ·have HN:Hid (¬ Pl.insOk v.len f.regs ⟨(op:Int),d,a,b,n,sym,args⟩):=fun c=>by have:=(HOK.out.1 c).2.2.2.2.1;have:=HQ.out.2;omega
  go_wp2_with fail
  go_ret
  exact⟨isB_no (HN.out),H5.out.1⟩
 by_cases h128:uu<128/\(0:Int)<(ql:Int)
 ·obtain⟨h3,h4⟩:=h128
  have HN:Hid (¬ Pl.insOk v.len f.regs ⟨(op:Int),d,a,b,n,sym,args⟩):=fun c=>by have:=(HOK.out.1 c).2.2.2.2.2.1 h3;have:=HQ.out.2;omega
  go_wp2_with fail
  go_ret
  exact⟨isB_no (HN.out),H5.out.1⟩
 have HA:Hid (Pl.insOk v.len f.regs ⟨(op:Int),d,a,b,n,sym,args⟩↔∀ k,k<args.length->Pl.regOk f.regs (args.getD k 0) 1=true):=⟨fun c=>(HOK.out.1 c).2.2.2.2.2.2,fun c=>HOK.out.2 ⟨R1.out,R2.out,R3.out,R4.out,by have:=HQ.out.2;omega,fun h=>by have:=HQ.out.2;omega,c⟩⟩
 by_cases h3:uu<128
 ·have h4:¬ ((0:Int)<(ql:Int)):=fun c=>h128 ⟨h3,c⟩
  clear h128
  go_wp2_with fail
  go_loopw [6] (fun t wr=>∃ k:Nat,k<=ql/\t=.int .i64 k/\Hid ((Below w.heap.size w wr/\wr.heap[w.heap.size]?=some (.cells #[.string f.name,.int .i64 f.params,.int .i64 f.regs,.slice v.a v.len v.cap,.slice s.a s.len s.cap] 31)/\wr.heap[w.heap.size+1]?=some (.cells #[.int .i64 (op:Int),.int .i64 d,.int .i64 a,.int .i64 b,.int .i64 n,.string sym,.slice qa ql qc] 81))/\∀ i,i<k->Pl.regOk f.regs (args.getD i 0) 1=true)) (fun t _=>ql-(intOf t).toNat)
  case atStart=>exact⟨0,Nat.zero_le _,rfl,H5.out,fun i hi=>absurd hi (Nat.not_lt_zero _)⟩
  case round=>
   clear f0 f1 f2 f3 f4 x0 x1 x2 x3 x4 x5 x6
   obtain⟨k,hk,rfl,S⟩:=hrel
   have SB:Hid (Below w.heap.size w wr/\wr.heap[w.heap.size]?=some (.cells #[.string f.name,.int .i64 f.params,.int .i64 f.regs,.slice v.a v.len v.cap,.slice s.a s.len s.cap] 31)/\wr.heap[w.heap.size+1]?=some (.cells #[.int .i64 (op:Int),.int .i64 d,.int .i64 a,.int .i64 b,.int .i64 n,.string sym,.slice qa ql qc] 81)):=S.out.1
   have f0:wr.cell? ⟨w.heap.size,0,none⟩=some (.string f.name):=by rw[cell_of_row wr _ 0 _ _ (0,0) SB.out.2.1];rfl
   have f1:wr.cell? ⟨w.heap.size,1,none⟩=some (.int .i64 f.params):=by rw[cell_of_row wr _ 1 _ _ (0,0) SB.out.2.1];rfl
   have f2:wr.cell? ⟨w.heap.size,2,none⟩=some (.int .i64 f.regs):=by rw[cell_of_row wr _ 2 _ _ (0,0) SB.out.2.1];rfl
   have f3:wr.cell? ⟨w.heap.size,3,none⟩=some (.slice v.a v.len v.cap):=by rw[cell_of_row wr _ 3 _ _ (0,0) SB.out.2.1];rfl
   have f4:wr.cell? ⟨w.heap.size,4,none⟩=some (.slice s.a s.len s.cap):=by rw[cell_of_row wr _ 4 _ _ (0,0) SB.out.2.1];rfl
   have x0:wr.cell? ⟨w.heap.size+1,0,none⟩=some (.int .i64 (op:Int)):=by rw[cell_of_row wr _ 0 _ _ (0,0) SB.out.2.2];rfl
   have x1:wr.cell? ⟨w.heap.size+1,1,none⟩=some (.int .i64 d):=by rw[cell_of_row wr _ 1 _ _ (0,0) SB.out.2.2];rfl
   have x2:wr.cell? ⟨w.heap.size+1,2,none⟩=some (.int .i64 a):=by rw[cell_of_row wr _ 2 _ _ (0,0) SB.out.2.2];rfl
   have x3:wr.cell? ⟨w.heap.size+1,3,none⟩=some (.int .i64 b):=by rw[cell_of_row wr _ 3 _ _ (0,0) SB.out.2.2];rfl
   have x4:wr.cell? ⟨w.heap.size+1,4,none⟩=some (.int .i64 n):=by rw[cell_of_row wr _ 4 _ _ (0,0) SB.out.2.2];rfl
   have x5:wr.cell? ⟨w.heap.size+1,5,none⟩=some (.string sym):=by rw[cell_of_row wr _ 5 _ _ (0,0) SB.out.2.2];rfl
   have x6:wr.cell? ⟨w.heap.size+1,6,none⟩=some (.slice qa ql qc):=by rw[cell_of_row wr _ 6 _ _ (0,0) SB.out.2.2];rfl
   by_cases hlt:k<ql
   ·omega
   ·have hkk:k=ql:=by omega
    have hki:¬ ((k:Int)<(ql:Int)):=by omega
    go_wp2_with fail
    go_ret
    exact⟨isB_yes (HA.out.2 (fun i hi=>S.out.2 i (by have:=HQ.out.2;omega))),SB.out.1⟩
 ·clear h128
  go_wp2_with fail
  go_loopw [6] (fun t wr=>∃ k:Nat,k<=ql/\t=.int .i64 k/\Hid ((Below w.heap.size w wr/\wr.heap[w.heap.size]?=some (.cells #[.string f.name,.int .i64 f.params,.int .i64 f.regs,.slice v.a v.len v.cap,.slice s.a s.len s.cap] 31)/\wr.heap[w.heap.size+1]?=some (.cells #[.int .i64 (op:Int),.int .i64 d,.int .i64 a,.int .i64 b,.int .i64 n,.string sym,.slice qa ql qc] 81))/\∀ i,i<k->Pl.regOk f.regs (args.getD i 0) 1=true)) (fun t _=>ql-(intOf t).toNat)
  case atStart=>exact⟨0,Nat.zero_le _,rfl,H5.out,fun i hi=>absurd hi (Nat.not_lt_zero _)⟩
  case round=>
   clear f0 f1 f2 f3 f4 x0 x1 x2 x3 x4 x5 x6
   obtain⟨k,hk,rfl,S⟩:=hrel
   have SB:Hid (Below w.heap.size w wr/\wr.heap[w.heap.size]?=some (.cells #[.string f.name,.int .i64 f.params,.int .i64 f.regs,.slice v.a v.len v.cap,.slice s.a s.len s.cap] 31)/\wr.heap[w.heap.size+1]?=some (.cells #[.int .i64 (op:Int),.int .i64 d,.int .i64 a,.int .i64 b,.int .i64 n,.string sym,.slice qa ql qc] 81)):=S.out.1
   have f0:wr.cell? ⟨w.heap.size,0,none⟩=some (.string f.name):=by rw[cell_of_row wr _ 0 _ _ (0,0) SB.out.2.1];rfl
   have f1:wr.cell? ⟨w.heap.size,1,none⟩=some (.int .i64 f.params):=by rw[cell_of_row wr _ 1 _ _ (0,0) SB.out.2.1];rfl
   have f2:wr.cell? ⟨w.heap.size,2,none⟩=some (.int .i64 f.regs):=by rw[cell_of_row wr _ 2 _ _ (0,0) SB.out.2.1];rfl
   have f3:wr.cell? ⟨w.heap.size,3,none⟩=some (.slice v.a v.len v.cap):=by rw[cell_of_row wr _ 3 _ _ (0,0) SB.out.2.1];rfl
   have f4:wr.cell? ⟨w.heap.size,4,none⟩=some (.slice s.a s.len s.cap):=by rw[cell_of_row wr _ 4 _ _ (0,0) SB.out.2.1];rfl
   have x0:wr.cell? ⟨w.heap.size+1,0,none⟩=some (.int .i64 (op:Int)):=by rw[cell_of_row wr _ 0 _ _ (0,0) SB.out.2.2];rfl
   have x1:wr.cell? ⟨w.heap.size+1,1,none⟩=some (.int .i64 d):=by rw[cell_of_row wr _ 1 _ _ (0,0) SB.out.2.2];rfl
   have x2:wr.cell? ⟨w.heap.size+1,2,none⟩=some (.int .i64 a):=by rw[cell_of_row wr _ 2 _ _ (0,0) SB.out.2.2];rfl
   have x3:wr.cell? ⟨w.heap.size+1,3,none⟩=some (.int .i64 b):=by rw[cell_of_row wr _ 3 _ _ (0,0) SB.out.2.2];rfl
   have x4:wr.cell? ⟨w.heap.size+1,4,none⟩=some (.int .i64 n):=by rw[cell_of_row wr _ 4 _ _ (0,0) SB.out.2.2];rfl
   have x5:wr.cell? ⟨w.heap.size+1,5,none⟩=some (.string sym):=by rw[cell_of_row wr _ 5 _ _ (0,0) SB.out.2.2];rfl
   have x6:wr.cell? ⟨w.heap.size+1,6,none⟩=some (.slice qa ql qc):=by rw[cell_of_row wr _ 6 _ _ (0,0) SB.out.2.2];rfl
   by_cases hlt:k<ql
   ·have hki:(k:Int)<(ql:Int):=by omega
    obtain⟨b9,o9,rfl,_,hb9,hc9⟩:=((HQ.out.1.keep SB.out.1).2.2.2.2).resolve_left (by omega)
    have c9:=hc9 k hlt
    obtain⟨z,hz⟩:∃ z,z=args.getD k 0:=⟨_,rfl⟩
    rw[<- hz]at c9
    have HZ:Hid (z=args.getD k 0):=hz
    clear hc9 hz
    cases r:Pl.regOk f.regs z 1
    ·have R:Hid (Pl.regOk f.regs z 1=false):=r
     have HN:Hid (¬ Pl.insOk v.len f.regs ⟨(op:Int),d,a,b,n,sym,args⟩):=fun c=>by have:=HA.out.1 c k (by have:=HQ.out.2;omega);rw[<- HZ.out,R.out]at this;cases this
     clear r
     go_wp2_with fail
     go_region_with (go_at_call 87;refine (l10RegOk_any f v s z 1 _).mono ?_;rintro e u6 ⟨rfl,d6⟩; rw[R.out])
     all_goals
      go_wp2_with fail
      go_ret
      exact⟨isB_no HN.out,SB.out.1.trans (Below.mono (Below.trans (by repeat (first | with_reducible exact Below.refl _ _ | refine Below.drew ?_ | refine below_drewN ?_ _)) (Below.mono d6 (Nat.le_refl _))) SB.out.1.size)⟩
    ·have R:Hid (Pl.regOk f.regs z 1=true):=r
     clear r
     go_wp2_with fail
     go_region_with (go_at_call 87;refine (l10RegOk_any f v s z 1 _).mono ?_;rintro e u6 ⟨rfl,d6⟩; rw[R.out])
     all_goals
      have D6:Hid (Below wr.heap.size wr u6):=Below.trans (by repeat (first | with_reducible exact Below.refl _ _ | refine Below.drew ?_ | refine below_drewN ?_ _)) (Below.mono d6 (Nat.le_refl _))
      clear d6
      clear f0 f1 f2 f3 f4 x0 x1 x2 x3 x4 x5 x6
      clear c9
      go_wp2_with fail
      go_roundw
      case rel=>exact⟨k+1,by omega,by go_num,⟨SB.out.1.trans (D6.out.mono SB.out.1.size),(D6.out.block _ (Array.getElem?_eq_some_iff.1 SB.out.2.1).1).trans SB.out.2.1,(D6.out.block _ (Array.getElem?_eq_some_iff.1 SB.out.2.2).1).trans SB.out.2.2⟩,fun i hi=>by
       by_cases e:i=k
       ·rw[e,<- HZ.out];exact R.out
       ·exact S.out.2 i (by omega)⟩
      case measure=>simp[intOf];omega
   ·have hkk:k=ql:=by omega
    have hki:¬ ((k:Int)<(ql:Int)):=by omega
    go_wp2_with fail
    go_ret
    exact⟨isB_yes (HA.out.2 (fun i hi=>S.out.2 i (by have:=HQ.out.2;omega))),SB.out.1⟩
end Go.Proofs.YtcgfgmlfbgbkfaaGreatDoor.W
namespace Go.Proofs.YtcgfgmlfbgbkfaaGreatDoor.Pl
def isLab (code:List IrI) (n:Int) (i:Nat):Prop:=(code.getD i IrI.zero).op=11/\(code.getD i IrI.zero).n=n
def LabIs (code:List IrI) (n:Int) (r:Int):Prop:=(r=-1/\∀ i,i<code.length->¬ isLab code n i)\/∃ i:Nat,i<code.length/\r=i/\isLab code n i/\∀ j,j<i->¬ isLab code n j
theorem LabIs.fn {code:List IrI} {n r r':Int} (h:LabIs code n r) (h':LabIs code n r'):r=r':=by
 rcases h with ⟨rfl,h⟩ | ⟨i,hi,rfl,h1,h2⟩ <;> rcases h' with ⟨rfl,h'⟩ | ⟨j,hj,rfl,h3,h4⟩
 ·rfl
 ·exact absurd h3 (h j hj)
 ·exact absurd h1 (h' i hi)
 ·rcases Nat.lt_trichotomy i j with q | q | q
  ·exact absurd h1 (h4 i q)
  ·rw[q]
  ·exact absurd h3 (h2 j q)
end Go.Proofs.YtcgfgmlfbgbkfaaGreatDoor.Pl
namespace Go.Proofs.YtcgfgmlfbgbkfaaGreatDoor.W
open Go.RowKit
set_option maxRecDepth 4000 in
theorem l10Label_any {lo:Nat} (f:Pl.IrF) (v s:SV) (n:Int) (w:World) (h:IRow lo w s.a s.len s.cap f.code):Calls Tryz.prog 50 #[.agg #[.string f.name,.int .i64 f.params,.int .i64 f.regs,.slice v.a v.len v.cap,.slice s.a s.len s.cap],.int .i64 n] w fun e w'=>∃ r:Int,e=.returned (.int .i64 r)/\Pl.LabIs f.code n r/\Below w.heap.size w w':=by
 obtain⟨sa,sl,sc⟩:=s
 simp only at h ⊢
 have hm:(sl:Int)<=9223372036854775807:=by have:=h.small;omega
 have HR:Hid (IRow lo w sa sl sc f.code/\f.code.length=sl):=⟨h,h.1⟩
 clear h
 go_enter Tryz.func50,Tryz.ntmps50
 go_wp2_with fail
 go_loopw [5] (fun t wr=>∃ k:Nat,k<=sl/\t=.int .i64 k/\wr=w.alloc (.cells #[.string f.name,.int .i64 f.params,.int .i64 f.regs,.slice v.a v.len v.cap,.slice sa sl sc] 31)/\Hid (∀ i,i<k->¬ Pl.isLab f.code n i)) (fun t _=>sl-(intOf t).toNat)
 case atStart=>exact⟨0,Nat.zero_le _,rfl,rfl,fun i hi=>absurd hi (Nat.not_lt_zero _)⟩
 case round=>
  obtain⟨k,hk,rfl,rfl,S⟩:=hrel
  by_cases hlt:k<sl
  ·have hki:(k:Int)<(sl:Int):=by omega
   obtain⟨b,off,y,rfl,_,hb,hc,_,_⟩:=HR.out.1.at hlt
   have HX:Hid (Pl.isLab f.code n k↔((f.code.getD k Pl.IrI.zero).op=11/\(f.code.getD k Pl.IrI.zero).n=n)):=Iff.rfl
   generalize f.code.getD k Pl.IrI.zero=x at hc HX
   obtain⟨c0,_,_,_,c4,_,_⟩:=iri_cells hc
   clear hc
   by_cases h1:x.op=11
   ·have e1:(x.op == 11)=true:=by rw[h1];rfl
    by_cases h2:x.n=n
    ·have e2:(x.n == n)=true:=by rw[h2];exact beq_self_eq_true _
     have HP:Hid (Pl.LabIs f.code n (k:Int)):=.inr ⟨k,by have:=HR.out.2;omega,rfl,HX.out.2 ⟨h1,h2⟩,S.out⟩
     clear h1 h2
     go_wp2_with fail
     go_ret
     exact⟨_,rfl,HP.out,below_alloc _ _⟩
    ·have e2:(x.n == n)=false:=by rw[beq_eq_false_iff_ne];exact h2
     have HP:Hid (¬ Pl.isLab f.code n k):=fun c=>h2 (HX.out.1 c).2
     clear h1 h2
     go_wp2_with fail
     go_roundw
     case rel=>exact⟨k+1,by omega,by go_num,by first | trivial | rfl,fun i hi=>by
      by_cases e:i=k
      ·rw[e];exact HP.out
      ·exact S.out i (by omega)⟩
     case measure=>simp[intOf];omega
   ·have e1:(x.op == 11)=false:=by rw[beq_eq_false_iff_ne];exact h1
    have HP:Hid (¬ Pl.isLab f.code n k):=fun c=>h1 (HX.out.1 c).1
    clear h1
    go_wp2_with fail
    go_roundw
    case rel=>exact⟨k+1,by omega,by go_num,by first | trivial | rfl,fun i hi=>by
     by_cases e:i=k
     ·rw[e];exact HP.out
     ·exact S.out i (by omega)⟩
    case measure=>simp[intOf];omega
  ·have hki:¬ ((k:Int)<(sl:Int)):=by omega
   go_wp2_with fail
   go_ret
   exact⟨_,rfl,.inl ⟨rfl,fun i hi=>S.out i (by have:=HR.out.2;omega)⟩,below_alloc _ _⟩
end Go.Proofs.YtcgfgmlfbgbkfaaGreatDoor.W
namespace Go.Proofs.YtcgfgmlfbgbkfaaGreatDoor.Pl
def inS (ss:List ByteArray) (s:ByteArray):Bool:=ss.any fun x=>x.toList == s.toList
theorem inS_yes {ss:List ByteArray} {s:ByteArray} {k:Nat} (hk:k<ss.length) (h:(ss.getD k ⟨#[]⟩).toList=s.toList):inS ss s=true:=by
 unfold inS
 rw[List.any_eq_true]
 refine⟨ss.getD k ⟨#[]⟩,?_,by rw[h];exact beq_self_eq_true _⟩
 rw[List.getD_eq_getElem?_getD,List.getElem?_eq_getElem hk]
 exact List.getElem_mem _
theorem inS_no {ss:List ByteArray} {s:ByteArray} (h:∀ k,k<ss.length->(ss.getD k ⟨#[]⟩).toList≠s.toList):inS ss s=false:=by
 unfold inS
 rw[List.any_eq_false]
 intro x hx
 obtain⟨k,hk,rfl⟩:=List.mem_iff_getElem.1 hx
 have:=h k hk
 rw[List.getD_eq_getElem?_getD,List.getElem?_eq_getElem hk]at this
 simpa using this
end Go.Proofs.YtcgfgmlfbgbkfaaGreatDoor.Pl
namespace Go.Proofs.YtcgfgmlfbgbkfaaGreatDoor.W
open Go.RowKit
theorem l5In_any {lo:Nat} (a:Option Addr) (len cap:Nat) (ss:List ByteArray) (t:ByteArray) (w:World) (h:SRow lo w a len cap ss) :
  Calls Tryz.prog 48 #[.slice a len cap,.string t] w fun e w'=>e=.returned (.bool (Pl.inS ss t))/\Below w.heap.size w w':=by
 have hs1:(len:Int)<=9223372036854775807:=by have:=h.small;omega
 have H:Hid (SRow lo w a len cap ss):=h
 clear h
 go_enter Tryz.func48,Tryz.ntmps48
 go_wp2_with fail
 go_loopw [5] (fun i wr=>∃ k:Nat,k<=len/\i=.int .i64 k/\(∀ j,j<k->(ss.getD j ⟨#[]⟩).toList≠t.toList)/\Below w.heap.size w wr) (fun i _=>len-(intOf i).toNat)
 case atStart=>exact⟨0,Nat.zero_le _,rfl,fun j hj=>absurd hj (Nat.not_lt_zero _),Below.refl _ _⟩
 case round=>
  obtain⟨k,hk,rfl,hall,hb⟩:=hrel
  have HA:Hid (∀ j,j<k->(ss.getD j ⟨#[]⟩).toList≠t.toList):=hall
  have HB:Hid (Below w.heap.size w wr):=hb
  clear hb hall
  by_cases hlt:k<len
  ·obtain⟨b1,o1,rfl,_,_,hc1,_⟩:=(H.out.keep HB.out).at hlt
   obtain⟨x,hx⟩:∃ x,x=ss.getD k ⟨#[]⟩:=⟨_,rfl⟩
   rw[<- hx]at hc1
   have HX:Hid (x=ss.getD k ⟨#[]⟩):=hx
   clear hx
   have hi:(k:Int)<(len:Int):=by omega
   cases he:(x.toList == t.toList)
   rotate_left
   ·go_wp2_with fail
    go_ret
    exact⟨ret_bool (Pl.inS_yes (k:=k) (by rw[H.out.1.1];exact hlt) (by rw[<- HX.out];exact eq_of_beq he)).symm,HB.out⟩
   ·go_wp2_with fail
    go_roundw
    case rel=>exact⟨k+1,by omega,by go_num,fun j hj=>by
     by_cases e:j=k
     ·rw[e,<- HX.out];exact ne_of_beq_false he
     ·exact HA.out j (by omega),HB.out⟩
    case measure=>simp[intOf];omega
  ·have hke:k=len:=by omega
   have hi:¬ ((k:Int)<(len:Int)):=by omega
   go_wp2
   go_ret
   exact⟨ret_bool (Pl.inS_no (fun j hj=>HA.out j (by rw[H.out.1.1]at hj;omega))).symm,HB.out⟩
end Go.Proofs.YtcgfgmlfbgbkfaaGreatDoor.W
namespace Go.Proofs.YtcgfgmlfbgbkfaaGreatDoor.Pl
def irTests:List ByteArray:=[⟨#[101,113]⟩,⟨#[110,101]⟩,⟨#[108,116]⟩,⟨#[103,101]⟩,⟨#[108,116,117]⟩,⟨#[103,101,117]⟩]
def symOk0 (x:IrI):Prop:=(x.op=13->inS irTests x.sym=true)/\(x.op≠13->x.op≠7->x.op≠9->(x.sym.toList == (⟨#[]⟩:ByteArray).toList)=true)
def labOk (code:List IrI) (i:Nat):Prop:=((code.getD i IrI.zero).op=11->0<=(code.getD i IrI.zero).n/\LabIs code (code.getD i IrI.zero).n i)/\((code.getD i IrI.zero).op=12\/(code.getD i IrI.zero).op=13->¬ LabIs code (code.getD i IrI.zero).n (-1))
def funHead (f:IrF):Prop:=(0<=f.params/\f.params<=8)/\(f.params<=f.regs/\f.regs<=2000)/\f.slots.length<=200/\(1<=f.code.length/\f.code.length<=8000)/\(f.code.getD (f.code.length-1) IrI.zero).op=14
def funOk (f:IrF):Prop:=funHead f/\(∀ i,i<f.slots.length->1<=f.slots.getD i 0/\f.slots.getD i 0<=60000)/\(∀ i,i<f.code.length->insOk f.slots.length f.regs (f.code.getD i IrI.zero)/\symOk0 (f.code.getD i IrI.zero))/\∀ i,i<f.code.length->labOk f.code i
def fitsP (sl:Nat) (lab:Int->Prop) (k:Nat) (x:IrI):Prop:=match k with
 | 1=>0<=x.n/\x.n<=4294967295
 | 3=>1<=x.n/\x.n<=18
 | 4=>1<=x.n/\x.n<=4
 | 5=>1<=x.n/\x.n<=5
 | 6=>1<=x.n/\x.n<=5
 | 7=>0<=x.n/\x.n<=60000
 | 8=>0<=x.n/\x.n<=(sl:Int)-1
 | 9=>x.args.length<=8
 | 10=>x.args.length<=8
 | 11=>0<=x.n
 | 12=>lab x.n
 | 13=>inS irTests x.sym=true/\lab x.n
 | 15=>1<=x.n/\x.n<=60000
 | 16=>1<=x.n/\x.n<=60000
 | _=>True
end Go.Proofs.YtcgfgmlfbgbkfaaGreatDoor.Pl
namespace Go.Proofs.YtcgfgmlfbgbkfaaGreatDoor.W
def startsAt (n:Nat):Code->Bool
 | .region m _ _=>m == n
 | .seq a _=>startsAt n a
 | _=>false
def codeAt (n:Nat):Code->Option Code
 | .seq a b=>if startsAt n a then some a else match codeAt n a with
  | some c=>some c
  | none=>codeAt n b
 | .block _ c=>codeAt n c
 | .loop c=>codeAt n c
 | .scope c=>codeAt n c
 | _=>none
open Go.RowKit
section
variable {P:Program} {ops:Array Oper} {Q:Exit->Act->World->Prop} {md:Region.Mode}
def acycM (md:Region.Mode) (ops:Array Oper):Bool:=(List.range ops.size).all fun i=>((ops[i]?).map fun o=>o.after.all fun e=>!Region.binds md e || decide (e.on<i)).getD true
theorem acycM_of (h:acycM md ops=true) {i:Nat} {o:Oper} (ho:ops[i]?=some o):∀ e∈o.after,Region.binds md e=true->e.on<i:=by
 unfold acycM at h
 rw[List.all_eq_true]at h
 have h1:=h i (List.mem_range.2 (Array.getElem?_eq_some_iff.1 ho).1)
 rw[ho]at h1
 simp only[Option.map_some,Option.getD_some]at h1
 intro e he hb
 have h2:=Array.all_eq_true_iff_forall_mem.1 h1 e he
 rw[hb]at h2
 simpa using h2
theorem ready_nil_allM (hac:acycM md ops=true) {L:Array Bool} (hs:L.size=ops.size) (hr:Region.ready md ops L=[]):∀ i,i<ops.size->L.getD i true=true:=by
 intro i
 induction i using Nat.strongRecOn with
 | ind i ih=>
  intro hi
  cases hb:L.getD i true with
  | true=>rfl
  | false=>
   exfalso
   have hm:i∈Region.ready md ops L:=mem_ready.2 ⟨hb,ops[i],Array.getElem?_eq_getElem hi,fun e he hbe=>by
    have hlt:=acycM_of hac (Array.getElem?_eq_getElem hi) e he hbe
    have h1:=ih e.on hlt (by omega)
    have h2:e.on<L.size:=by omega
    simp[h2]at h1 ⊢
    exact h1⟩
   rw[hr]at hm
   cases hm
theorem wpAny_inm (I:Array Bool->Act->World->Prop)
  (hdone:∀ L a w,I L a w->(∀ i,i<ops.size->up L i=true)->Q .normal a w)
  (hac:acycM md ops=true)
  (hstep:∀ (L:Array Bool) (a:Act) (w:World) (i:Nat) (o:Oper),I L a w->i<L.size->L.size=ops.size->up L i=false->Clo md ops L->(∀ e∈o.after,Region.binds md e=true->up L e.on=true)->ops[i]?=some o->∀ K:Act->World->Prop,(∀ a w,I (L.setIfInBounds i true) a w->K a w)->if Region.wanted o (yielded ops a.tmps)=true then Oper.wp P o a w K Q else K (a.put o.dst undef) w)
  (fuel n:Nat) (a:Act) (w:World) (hn:n=ops.size) (hI:I (Array.replicate n false) a w) (hf:n<=fuel):wpAny P md ops Q fuel (Array.replicate n false) a w:=by
 refine wpAny_inv (fun L a w=>I L a w/\Clo md ops L/\L.size=ops.size) (fun L a w h hs ha=>hdone L a w h.1 fun i hi=>up_of (ha i hi) (by omega)) (fun L hs hr=>ready_nil_allM hac hs hr) (fun L a w i o h hs hi ho K hK=>?_) fuel _ a w ⟨hI,?_,by simp[hn]⟩ (by simp[hn]) ?_
 ·obtain⟨h0,o',ho',hd⟩:=mem_ready.1 hi
  rw[ho]at ho'
  cases ho'
  have hlt:i<L.size:=by rw[hs];exact (Array.getElem?_eq_some_iff.1 ho).1
  have hd':∀ e∈o.after,Region.binds md e=true->up L e.on=true:=hd
  refine hstep L a w i o h.1 hlt hs (up_false h0) h.2.1 hd' ho K fun a' w' h'=>hK a' w' ⟨h',fun j oj hoj hj e he hb=>?_,by simpa using hs⟩
  rw[up_set hlt]at hj
  by_cases q:i=j
  ·subst q
   rw[ho]at hoj
   cases hoj
   exact up_mono hlt (hd' e he hb)
  ·rw[if_neg q]at hj
   exact up_mono hlt (h.2.1 j oj hoj hj e he hb)
 ·intro j o ho hj
  rw[up_init]at hj
  cases hj
 ·have:∀ k:Nat,unl (List.replicate k false)=k:=fun k=>by
   induction k with
   | zero=>rfl
   | succ k ih=>show unl (false :: List.replicate k false)=k+1;unfold unl at ih ⊢; rw[List.map_cons,List.sum_cons,ih];simp;omega
  rw[Array.toList_replicate,this]
  exact hf
end
noncomputable def rsC (n:Nat):Code:=((Tryz.f58.body.bind (codeAt n)).getD .skip)
def RstMk (x:Pl.IrI) (y:SV) (g:Nat) (g4 g5 g6:Nat) (L:Array Bool):Act:={ tmps:=#[.agg #[.int .i64 x.op,.int .i64 x.d,.int .i64 x.a,.int .i64 x.b,.int .i64 x.n,.string x.sym,.slice y.a y.len y.cap],.pointer (some ⟨g,0,none⟩),.nilIface,.bool false,sl L 11 (.pointer (some ⟨g4,0,none⟩)),sl L 12 (.pointer (some ⟨g5,0,none⟩)),sl L 13 (.pointer (some ⟨g6,0,none⟩)),sl L 0 (.pointer (some ⟨g,2,none⟩)),sl L 1 (.int .i64 x.a),sl L 2 (.agg #[.int .i64 x.a]),sl L 3 (.pointer (some ⟨g,2,none⟩)),sl L 4 (.int .i64 x.a),sl L 5 (.pointer (some ⟨g,3,none⟩)),sl L 6 (.int .i64 x.b),sl L 7 (.agg #[.int .i64 x.a,.int .i64 x.b]),sl L 8 (.pointer (some ⟨g,1,none⟩)),sl L 9 (.int .i64 x.d),sl L 10 (.agg #[.int .i64 x.d]),undef,undef,undef,undef,undef,undef,undef,undef,undef,undef,undef,undef,undef,undef,undef,undef,undef,undef,undef,undef,undef,undef,undef,undef,undef,undef,undef,undef,undef,undef,undef,undef,undef,undef,undef,undef,undef,undef,undef,undef,undef,undef,undef,undef,undef,undef,undef,undef,undef,undef,undef,undef,undef,undef,undef,undef,undef,undef,undef,undef,undef,undef,undef,undef,undef,undef,undef,undef,undef,undef,undef,undef,undef,undef,undef,undef,undef,undef,undef,undef,undef,undef,undef,undef,undef,undef,undef,undef,undef,undef,undef,undef,undef,undef,undef,undef,undef,undef,undef,undef,undef,undef,undef,undef,undef,undef,undef,undef,undef,undef,undef,undef,undef,undef,undef,undef,undef,undef,undef,undef,undef,undef,undef,undef,undef],defers:=[] }
def RstW (w0:World) (a b d:Int) (g4 g5 g6:Nat) (L:Array Bool) (w:World):Prop:=
 Below w0.heap.size w0 w/\(up L 11=true->w0.heap.size<=g4/\w.heap[g4]?=some (.cells #[.int .i64 (cond (up L 14) a 0)] 143 (0,0)))/\(up L 12=true->w0.heap.size<=g5/\w.heap[g5]?=some (.cells #[.int .i64 (cond (up L 15) a 0),.int .i64 (cond (up L 15) b 0)] 145 (0,0)))/\(up L 13=true->w0.heap.size<=g6/\w.heap[g6]?=some (.cells #[.int .i64 (cond (up L 16) d 0)] 147 (0,0)))
theorem RstW.keep {w0:World} {a b d:Int} {g4 g5 g6:Nat} {L:Array Bool} {w:World} (h:RstW w0 a b d g4 g5 g6 L w) {k:Nat} (hk:k<L.size) (n1:k≠11) (n2:k≠12) (n3:k≠13) (n4:k≠14) (n5:k≠15) (n6:k≠16):RstW w0 a b d g4 g5 g6 (L.setIfInBounds k true) w:=by
 unfold RstW at h ⊢
 rw[up_set hk,up_set hk,up_set hk,up_set hk,up_set hk,up_set hk,if_neg n1,if_neg n2,if_neg n3,if_neg n4,if_neg n5,if_neg n6]
 exact h
theorem rst_al {w:World} {k:Nat} {o:Obj} (h:w.heap[k]?=some o) (q:Obj):(w.alloc q).heap[k]?=some o:=by
 rw[Below.heap_alloc _ _ _ (Array.getElem?_eq_some_iff.1 h).1];exact h
theorem rst_ne {w:World} {i j:Nat} {cs ds:Array Value} {s t:TypeId} {f1 f2:Nat × Nat} (h1:w.heap[i]?=some (.cells cs s f1)) (h2:w.heap[j]?=some (.cells ds t f2)) (hne:s≠t):i≠j:=by
 rintro rfl
 rw[h1]at h2
 simp only[Option.some.injEq,Obj.cells.injEq]at h2
 exact hne h2.2.1
theorem RstW.a4 {w0:World} {a b d:Int} {g4 g5 g6:Nat} {L:Array Bool} {w:World} (h:RstW w0 a b d g4 g5 g6 L w) (hk:11<L.size) (ns:up L 14=false):RstW w0 a b d w.heap.size g5 g6 (L.setIfInBounds 11 true) (w.alloc (.cells #[.int .i64 0] 143)):=by
 obtain⟨h1,h4,h5,h6⟩:=h
 unfold RstW
 rw[up_set hk,up_set hk,up_set hk,up_set hk,up_set hk,up_set hk]
 simp only[Nat.reduceEqDiff,reduceIte,ns,cond_false]
 refine⟨h1.alloc h1.size _,?_,?_,?_⟩
 ·exact fun _=>⟨h1.size,heap_alloc_new w _⟩
 ·exact fun q=>⟨(h5 q).1,rst_al (h5 q).2 _⟩
 ·exact fun q=>⟨(h6 q).1,rst_al (h6 q).2 _⟩
theorem RstW.a5 {w0:World} {a b d:Int} {g4 g5 g6:Nat} {L:Array Bool} {w:World} (h:RstW w0 a b d g4 g5 g6 L w) (hk:12<L.size) (ns:up L 15=false):RstW w0 a b d g4 w.heap.size g6 (L.setIfInBounds 12 true) (w.alloc (.cells #[.int .i64 0,.int .i64 0] 145)):=by
 obtain⟨h1,h4,h5,h6⟩:=h
 unfold RstW
 rw[up_set hk,up_set hk,up_set hk,up_set hk,up_set hk,up_set hk]
 simp only[Nat.reduceEqDiff,reduceIte,ns,cond_false]
 refine⟨h1.alloc h1.size _,?_,?_,?_⟩
 ·exact fun q=>⟨(h4 q).1,rst_al (h4 q).2 _⟩
 ·exact fun _=>⟨h1.size,heap_alloc_new w _⟩
 ·exact fun q=>⟨(h6 q).1,rst_al (h6 q).2 _⟩
theorem RstW.a6 {w0:World} {a b d:Int} {g4 g5 g6:Nat} {L:Array Bool} {w:World} (h:RstW w0 a b d g4 g5 g6 L w) (hk:13<L.size) (ns:up L 16=false):RstW w0 a b d g4 g5 w.heap.size (L.setIfInBounds 13 true) (w.alloc (.cells #[.int .i64 0] 147)):=by
 obtain⟨h1,h4,h5,h6⟩:=h
 unfold RstW
 rw[up_set hk,up_set hk,up_set hk,up_set hk,up_set hk,up_set hk]
 simp only[Nat.reduceEqDiff,reduceIte,ns,cond_false]
 refine⟨h1.alloc h1.size _,?_,?_,?_⟩
 ·exact fun q=>⟨(h4 q).1,rst_al (h4 q).2 _⟩
 ·exact fun q=>⟨(h5 q).1,rst_al (h5 q).2 _⟩
 ·exact fun _=>⟨h1.size,heap_alloc_new w _⟩
theorem RstW.s4 {w0:World} {a b d:Int} {g4 g5 g6:Nat} {L:Array Bool} {w:World} (h:RstW w0 a b d g4 g5 g6 L w) (hk:14<L.size) (qa:up L 11=true) (ns:up L 14=false):RstW w0 a b d g4 g5 g6 (L.setIfInBounds 14 true) (w.setCell ⟨g4,0,none⟩ (.int .i64 a)):=by
 obtain⟨h1,h4,h5,h6⟩:=h
 have hm:=h4 qa
 rw[ns]at hm
 unfold RstW
 rw[up_set hk,up_set hk,up_set hk,up_set hk,up_set hk,up_set hk]
 simp only[Nat.reduceEqDiff,reduceIte,cond_true]
 refine⟨h1.setCell hm.1 _,?_,?_,?_⟩
 ·exact fun q=>⟨hm.1,by rw[heap_setCell_same w g4 0 _ 143 _ hm.2];rfl⟩
 ·exact fun q=>⟨(h5 q).1,(heap_setCell_other w ⟨g4,0,none⟩ _ _ (rst_ne (h5 q).2 hm.2 (by decide))).trans (h5 q).2⟩
 ·exact fun q=>⟨(h6 q).1,(heap_setCell_other w ⟨g4,0,none⟩ _ _ (rst_ne (h6 q).2 hm.2 (by decide))).trans (h6 q).2⟩
theorem RstW.s5 {w0:World} {a b d:Int} {g4 g5 g6:Nat} {L:Array Bool} {w:World} (h:RstW w0 a b d g4 g5 g6 L w) (hk:15<L.size) (qa:up L 12=true) (ns:up L 15=false):RstW w0 a b d g4 g5 g6 (L.setIfInBounds 15 true) ((w.setCell ⟨g5,0,none⟩ (.int .i64 a)).setCell ⟨g5,1,none⟩ (.int .i64 b)):=by
 obtain⟨h1,h4,h5,h6⟩:=h
 have hm:=h5 qa
 rw[ns]at hm
 unfold RstW
 rw[up_set hk,up_set hk,up_set hk,up_set hk,up_set hk,up_set hk]
 simp only[Nat.reduceEqDiff,reduceIte,cond_true]
 refine⟨(h1.setCell hm.1 _).setCell hm.1 _,?_,?_,?_⟩
 ·exact fun q=>⟨(h4 q).1,(heap_setCell_other _ ⟨g5,1,none⟩ _ _ (rst_ne (h4 q).2 hm.2 (by decide))).trans ((heap_setCell_other w ⟨g5,0,none⟩ _ _ (rst_ne (h4 q).2 hm.2 (by decide))).trans (h4 q).2)⟩
 ·exact fun q=>⟨hm.1,by rw[heap_setCell_same _ g5 1 _ 145 _ (heap_setCell_same w g5 0 _ 145 _ hm.2)];rfl⟩
 ·exact fun q=>⟨(h6 q).1,(heap_setCell_other _ ⟨g5,1,none⟩ _ _ (rst_ne (h6 q).2 hm.2 (by decide))).trans ((heap_setCell_other w ⟨g5,0,none⟩ _ _ (rst_ne (h6 q).2 hm.2 (by decide))).trans (h6 q).2)⟩
theorem RstW.s6 {w0:World} {a b d:Int} {g4 g5 g6:Nat} {L:Array Bool} {w:World} (h:RstW w0 a b d g4 g5 g6 L w) (hk:16<L.size) (qa:up L 13=true) (ns:up L 16=false):RstW w0 a b d g4 g5 g6 (L.setIfInBounds 16 true) (w.setCell ⟨g6,0,none⟩ (.int .i64 d)):=by
 obtain⟨h1,h4,h5,h6⟩:=h
 have hm:=h6 qa
 rw[ns]at hm
 unfold RstW
 rw[up_set hk,up_set hk,up_set hk,up_set hk,up_set hk,up_set hk]
 simp only[Nat.reduceEqDiff,reduceIte,cond_true]
 refine⟨h1.setCell hm.1 _,?_,?_,?_⟩
 ·exact fun q=>⟨(h4 q).1,(heap_setCell_other w ⟨g6,0,none⟩ _ _ (rst_ne (h4 q).2 hm.2 (by decide))).trans (h4 q).2⟩
 ·exact fun q=>⟨(h5 q).1,(heap_setCell_other w ⟨g6,0,none⟩ _ _ (rst_ne (h5 q).2 hm.2 (by decide))).trans (h5 q).2⟩
 ·exact fun q=>⟨hm.1,by rw[heap_setCell_same w g6 0 _ 147 _ hm.2];rfl⟩
set_option maxRecDepth 100000 in
theorem rs1_is (x:Pl.IrI) (y:SV) (g:Nat) (w0:World) (hb:w0.heap[g]?=some (.cells #[.int .i64 x.op,.int .i64 x.d,.int .i64 x.a,.int .i64 x.b,.int .i64 x.n,.string x.sym,.slice y.a y.len y.cap] 81 (0,0))) (K:Act->World->Prop) (Q:Exit->Act->World->Prop)
  (hK:∀ (s7 s8 s9 s10 s11 s12 s13 s14 s15 s16 s17:Value) (g4 g5 g6:Nat) (w':World),Below w0.heap.size w0 w'->w'.heap[g4]?=some (.cells #[.int .i64 x.a] 143 (0,0))->w'.heap[g5]?=some (.cells #[.int .i64 x.a,.int .i64 x.b] 145 (0,0))->w'.heap[g6]?=some (.cells #[.int .i64 x.d] 147 (0,0))->K { tmps:=#[.agg #[.int .i64 x.op,.int .i64 x.d,.int .i64 x.a,.int .i64 x.b,.int .i64 x.n,.string x.sym,.slice y.a y.len y.cap],.pointer (some ⟨g,0,none⟩),.nilIface,.bool false,.pointer (some ⟨g4,0,none⟩),.pointer (some ⟨g5,0,none⟩),.pointer (some ⟨g6,0,none⟩),s7,s8,s9,s10,s11,s12,s13,s14,s15,s16,s17,undef,undef,undef,undef,undef,undef,undef,undef,undef,undef,undef,undef,undef,undef,undef,undef,undef,undef,undef,undef,undef,undef,undef,undef,undef,undef,undef,undef,undef,undef,undef,undef,undef,undef,undef,undef,undef,undef,undef,undef,undef,undef,undef,undef,undef,undef,undef,undef,undef,undef,undef,undef,undef,undef,undef,undef,undef,undef,undef,undef,undef,undef,undef,undef,undef,undef,undef,undef,undef,undef,undef,undef,undef,undef,undef,undef,undef,undef,undef,undef,undef,undef,undef,undef,undef,undef,undef,undef,undef,undef,undef,undef,undef,undef,undef,undef,undef,undef,undef,undef,undef,undef,undef,undef,undef,undef,undef,undef,undef,undef,undef,undef,undef,undef,undef,undef,undef,undef,undef,undef,undef,undef,undef,undef,undef],defers:=[] } w') :
  (rsC 1).wp Tryz.prog (Exit.then K Q) { tmps:=#[.agg #[.int .i64 x.op,.int .i64 x.d,.int .i64 x.a,.int .i64 x.b,.int .i64 x.n,.string x.sym,.slice y.a y.len y.cap],.pointer (some ⟨g,0,none⟩),.nilIface,.bool false,undef,undef,undef,undef,undef,undef,undef,undef,undef,undef,undef,undef,undef,undef,undef,undef,undef,undef,undef,undef,undef,undef,undef,undef,undef,undef,undef,undef,undef,undef,undef,undef,undef,undef,undef,undef,undef,undef,undef,undef,undef,undef,undef,undef,undef,undef,undef,undef,undef,undef,undef,undef,undef,undef,undef,undef,undef,undef,undef,undef,undef,undef,undef,undef,undef,undef,undef,undef,undef,undef,undef,undef,undef,undef,undef,undef,undef,undef,undef,undef,undef,undef,undef,undef,undef,undef,undef,undef,undef,undef,undef,undef,undef,undef,undef,undef,undef,undef,undef,undef,undef,undef,undef,undef,undef,undef,undef,undef,undef,undef,undef,undef,undef,undef,undef,undef,undef,undef,undef,undef,undef,undef,undef,undef,undef,undef,undef,undef,undef,undef,undef,undef,undef,undef,undef,undef,undef,undef,undef],defers:=[] } w0:=by
 have HKt:Hid _:=hK
 clear hK
 conv=>arg 2;whnf
 have d1:w0.drew.cell? ⟨g,1,none⟩=some (.int .i64 x.d):=cell_of_row w0 g 1 _ 81 (0,0) hb
 have d2:w0.drew.cell? ⟨g,2,none⟩=some (.int .i64 x.a):=cell_of_row w0 g 2 _ 81 (0,0) hb
 have d3:w0.drew.cell? ⟨g,3,none⟩=some (.int .i64 x.b):=cell_of_row w0 g 3 _ 81 (0,0) hb
 refine wp_region_any (by kernel_rfl) ?_
 change wpAny _ _ _ _ _ _ _ (World.drew _)
 refine wpAny_inm (fun L a w=>∃ g4 g5 g6,a=RstMk x y g g4 g5 g6 L/\RstW w0.drew x.a x.b x.d g4 g5 g6 L w) ?done (by kernel_rfl) ?step _ 17 _ _ (by kernel_rfl) ?init (by decide)
 case init=>exact⟨0,0,0,by simp only[RstMk,sl_no (up_init _ _)],Below.refl _ _,fun q=>absurd (q.symm.trans (up_init _ _)) (by decide),fun q=>absurd (q.symm.trans (up_init _ _)) (by decide),fun q=>absurd (q.symm.trans (up_init _ _)) (by decide)⟩
 case step=>
  intro L act w i o hI hlt hs nl hC hd ho K hK
  obtain⟨g4,g5,g6,rfl,hW⟩:=hI
  have hi_lt:i<17:=(Array.getElem?_eq_some_iff.1 ho).1
  rcases (show i=0\/i=1\/i=2\/i=3\/i=4\/i=5\/i=6\/i=7\/i=8\/i=9\/i=10\/i=11\/i=12\/i=13\/i=14\/i=15\/i=16 by omega) with rfl | rfl | rfl | rfl | rfl | rfl | rfl | rfl | rfl | rfl | rfl | rfl | rfl | rfl | rfl | rfl | rfl
  ·change some _=some o at ho
   cases ho
   simp only[RstMk]
   go_simp
   exact hK _ _ ⟨g4,g5,g6,by simp only[RstMk,sl_set hlt,reduceIte,Nat.reduceEqDiff];try rfl,(hW.keep hlt (by decide) (by decide) (by decide) (by decide) (by decide) (by decide))⟩
  ·change some _=some o at ho
   cases ho
   have q0:up L 0=true:=hd { on:=0,ground:=.data } (by simp) rfl
   have cx:=below_cell hW.1 d2
   simp only[RstMk,sl_yes q0]
   go_simp
   exact hK _ _ ⟨g4,g5,g6,by simp only[RstMk,sl_set hlt,sl_yes q0,reduceIte,Nat.reduceEqDiff];try rfl,(hW.keep hlt (by decide) (by decide) (by decide) (by decide) (by decide) (by decide))⟩
  ·change some _=some o at ho
   cases ho
   have q1:up L 1=true:=hd { on:=1,ground:=.data } (by simp) rfl
   simp only[RstMk,sl_yes q1]
   go_simp
   exact hK _ _ ⟨g4,g5,g6,by simp only[RstMk,sl_set hlt,sl_yes q1,reduceIte,Nat.reduceEqDiff];try rfl,(hW.keep hlt (by decide) (by decide) (by decide) (by decide) (by decide) (by decide))⟩
  ·change some _=some o at ho
   cases ho
   simp only[RstMk]
   go_simp
   exact hK _ _ ⟨g4,g5,g6,by simp only[RstMk,sl_set hlt,reduceIte,Nat.reduceEqDiff];try rfl,(hW.keep hlt (by decide) (by decide) (by decide) (by decide) (by decide) (by decide))⟩
  ·change some _=some o at ho
   cases ho
   have q3:up L 3=true:=hd { on:=3,ground:=.data } (by simp) rfl
   have cx:=below_cell hW.1 d2
   simp only[RstMk,sl_yes q3]
   go_simp
   exact hK _ _ ⟨g4,g5,g6,by simp only[RstMk,sl_set hlt,sl_yes q3,reduceIte,Nat.reduceEqDiff];try rfl,(hW.keep hlt (by decide) (by decide) (by decide) (by decide) (by decide) (by decide))⟩
  ·change some _=some o at ho
   cases ho
   simp only[RstMk]
   go_simp
   exact hK _ _ ⟨g4,g5,g6,by simp only[RstMk,sl_set hlt,reduceIte,Nat.reduceEqDiff];try rfl,(hW.keep hlt (by decide) (by decide) (by decide) (by decide) (by decide) (by decide))⟩
  ·change some _=some o at ho
   cases ho
   have q5:up L 5=true:=hd { on:=5,ground:=.data } (by simp) rfl
   have cx:=below_cell hW.1 d3
   simp only[RstMk,sl_yes q5]
   go_simp
   exact hK _ _ ⟨g4,g5,g6,by simp only[RstMk,sl_set hlt,sl_yes q5,reduceIte,Nat.reduceEqDiff];try rfl,(hW.keep hlt (by decide) (by decide) (by decide) (by decide) (by decide) (by decide))⟩
  ·change some _=some o at ho
   cases ho
   have q4:up L 4=true:=hd { on:=4,ground:=.data } (by simp) rfl
   have q6:up L 6=true:=hd { on:=6,ground:=.data } (by simp) rfl
   simp only[RstMk,sl_yes q4,sl_yes q6]
   go_simp
   exact hK _ _ ⟨g4,g5,g6,by simp only[RstMk,sl_set hlt,sl_yes q4,sl_yes q6,reduceIte,Nat.reduceEqDiff];try rfl,(hW.keep hlt (by decide) (by decide) (by decide) (by decide) (by decide) (by decide))⟩
  ·change some _=some o at ho
   cases ho
   simp only[RstMk]
   go_simp
   exact hK _ _ ⟨g4,g5,g6,by simp only[RstMk,sl_set hlt,reduceIte,Nat.reduceEqDiff];try rfl,(hW.keep hlt (by decide) (by decide) (by decide) (by decide) (by decide) (by decide))⟩
  ·change some _=some o at ho
   cases ho
   have q8:up L 8=true:=hd { on:=8,ground:=.data } (by simp) rfl
   have cx:=below_cell hW.1 d1
   simp only[RstMk,sl_yes q8]
   go_simp
   exact hK _ _ ⟨g4,g5,g6,by simp only[RstMk,sl_set hlt,sl_yes q8,reduceIte,Nat.reduceEqDiff];try rfl,(hW.keep hlt (by decide) (by decide) (by decide) (by decide) (by decide) (by decide))⟩
  ·change some _=some o at ho
   cases ho
   have q9:up L 9=true:=hd { on:=9,ground:=.data } (by simp) rfl
   simp only[RstMk,sl_yes q9]
   go_simp
   exact hK _ _ ⟨g4,g5,g6,by simp only[RstMk,sl_set hlt,sl_yes q9,reduceIte,Nat.reduceEqDiff];try rfl,(hW.keep hlt (by decide) (by decide) (by decide) (by decide) (by decide) (by decide))⟩
  ·change some _=some o at ho
   cases ho
   have n14:up L 14=false:=hC.no nl 14 rfl (by kernel_rfl)
   simp only[RstMk]
   go_simp
   exact hK _ _ ⟨w.heap.size,g5,g6,by simp only[RstMk,sl_set hlt,reduceIte,Nat.reduceEqDiff];try rfl,hW.a4 hlt n14⟩
  ·change some _=some o at ho
   cases ho
   have n15:up L 15=false:=hC.no nl 15 rfl (by kernel_rfl)
   simp only[RstMk]
   go_simp
   exact hK _ _ ⟨g4,w.heap.size,g6,by simp only[RstMk,sl_set hlt,reduceIte,Nat.reduceEqDiff];try rfl,hW.a5 hlt n15⟩
  ·change some _=some o at ho
   cases ho
   have n16:up L 16=false:=hC.no nl 16 rfl (by kernel_rfl)
   simp only[RstMk]
   go_simp
   exact hK _ _ ⟨g4,g5,w.heap.size,by simp only[RstMk,sl_set hlt,reduceIte,Nat.reduceEqDiff];try rfl,hW.a6 hlt n16⟩
  ·change some _=some o at ho
   cases ho
   have q2:up L 2=true:=hd { on:=2,ground:=.data } (by simp) rfl
   have q11:up L 11=true:=hd { on:=11,ground:=.data } (by simp) rfl
   have hm:=hW.2.1 q11
   have cx:=cell_of_row w g4 0 _ 143 (0,0) hm.2
   have fx:=frozen_of_row w g4 0 _ 143 hm.2
   simp only[RstMk,sl_yes q2,sl_yes q11]
   go_simp
   exact hK _ _ ⟨g4,g5,g6,by simp only[RstMk,sl_set hlt,sl_yes q2,sl_yes q11,reduceIte,Nat.reduceEqDiff];try rfl,hW.s4 hlt q11 nl⟩
  ·change some _=some o at ho
   cases ho
   have q7:up L 7=true:=hd { on:=7,ground:=.data } (by simp) rfl
   have q12:up L 12=true:=hd { on:=12,ground:=.data } (by simp) rfl
   have hm:=hW.2.2.1 q12
   have cx:=cell_of_row w g5 0 _ 145 (0,0) hm.2
   have fx:=frozen_of_row w g5 0 _ 145 hm.2
   have cy:=cell_of_row w g5 1 _ 145 (0,0) hm.2
   have fy:=frozen_of_row w g5 1 _ 145 hm.2
   simp only[RstMk,sl_yes q7,sl_yes q12]
   go_simp
   exact hK _ _ ⟨g4,g5,g6,by simp only[RstMk,sl_set hlt,sl_yes q7,sl_yes q12,reduceIte,Nat.reduceEqDiff];try rfl,hW.s5 hlt q12 nl⟩
  ·change some _=some o at ho
   cases ho
   have q10:up L 10=true:=hd { on:=10,ground:=.data } (by simp) rfl
   have q13:up L 13=true:=hd { on:=13,ground:=.data } (by simp) rfl
   have hm:=hW.2.2.2 q13
   have cx:=cell_of_row w g6 0 _ 147 (0,0) hm.2
   have fx:=frozen_of_row w g6 0 _ 147 hm.2
   simp only[RstMk,sl_yes q10,sl_yes q13]
   go_simp
   exact hK _ _ ⟨g4,g5,g6,by simp only[RstMk,sl_set hlt,sl_yes q10,sl_yes q13,reduceIte,Nat.reduceEqDiff];try rfl,hW.s6 hlt q13 nl⟩
 case done=>
  rintro L a w ⟨g4,g5,g6,rfl,hW⟩ hall
  obtain⟨h1,h4,h5,h6⟩:=hW
  have k4:=(h4 (hall 11 (by decide))).2
  have k5:=(h5 (hall 12 (by decide))).2
  have k6:=(h6 (hall 13 (by decide))).2
  rw[hall 14 (by decide)]at k4
  rw[hall 15 (by decide)]at k5
  rw[hall 16 (by decide)]at k6
  simp only[RstMk,sl_yes (hall 0 (by decide)),sl_yes (hall 1 (by decide)),sl_yes (hall 2 (by decide)),sl_yes (hall 3 (by decide)),sl_yes (hall 4 (by decide)),sl_yes (hall 5 (by decide)),sl_yes (hall 6 (by decide)),sl_yes (hall 7 (by decide)),sl_yes (hall 8 (by decide)),sl_yes (hall 9 (by decide)),sl_yes (hall 10 (by decide)),sl_yes (hall 11 (by decide)),sl_yes (hall 12 (by decide)),sl_yes (hall 13 (by decide))]
  exact HKt.out _ _ _ _ _ _ _ _ _ _ _ g4 g5 g6 w (Below.trans (Below.drew (Below.refl w0.heap.size w0)) h1) k4 k5 k6
end Go.Proofs.YtcgfgmlfbgbkfaaGreatDoor.W
