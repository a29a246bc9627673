import Derived.Test.YtlbomnnldkeocaaGreatI14
import Derived.Test.YtlbomnnldkeocaaGreatI15
import Derived.Test.YtlbomnnldkeocaaGreatI18
set_option linter.unusedVariables false
set_option maxHeartbeats 16000000
namespace Go.Proofs.YtlbomnnldkeocaaGreat.Pl
theorem BQ:pw 0=1:=by decide
theorem Lg:pw 1=2:=by decide
theorem Qj:pw 4=16:=by decide
theorem Dk:pw 5=32:=by decide
theorem Qk:pw 6=64:=by decide
theorem JK:pw 7=128:=by decide
theorem Ql:pw 8=256:=by decide
theorem WC:pw 10=1024:=by decide
theorem RD:pw 11=2048:=by decide
theorem xC:pw 12=4096:=by decide
theorem NY:pw 20=1048576:=by decide
theorem lX {r:Int} {u:Bool} (h:rg r u=true):0<=r/\r<=31/\(u=true\/r=0):=by unfold rg at h;exact of_decide_eq_true h
theorem yC {f:Nat} {im:Int} (h:vU f im=true):lo f<=im/\im<=hi f:=by
 unfold vU at h;simp only[Bool.and_eq_true,decide_eq_true_eq]at h;exact h.1
theorem oW {f:Nat} {rd r1 r2 im:Int} (h:okF f rd r1 r2 im=true):rg rd (us f 0)=true/\rg r1 (us f 1)=true/\rg r2 (us f 2)=true/\vU f im=true:=by
 unfold okF at h;simp only[Bool.and_eq_true]at h;exact⟨h.1.1.1,h.1.1.2,h.1.2,h.2⟩
theorem Dl:∀ f:Nat,f<9->-1048576<=lo f/\hi f<=1048575:=by decide +kernel
theorem RF (f:Nat) (h1:1<=f) (h2:f<=8) (im:Int):0<=uU f im/\uU f im<=8589934592:=by
 rcases jH f h1 h2 with rfl | rfl | rfl | rfl | rfl | rfl | rfl | rfl <;> (unfold uU;simp only[BQ,Lg,Qj,Dk,Qk,JK,Ql,WC,RD,xC,NY];omega)
theorem uZ:∀ k:Nat,k<43->1<=k->cc k 3=0/\(dC k=2\/dC k=4\/dC k=5->cc k 2=0):=by decide +kernel
theorem RH (k:Nat) (h:k<48) (h1:1<=k):(dC k=1->k<=18)/\(dC k=2->(19<=k/\k<=24)\/(28<=k/\k<=33))/\(dC k=3->25<=k/\k<=27)/\(dC k=4->34<=k/\k<=36):=by
 obtain⟨a,c,b,d,e,f,g,i,j⟩:=vV k h
 omega
theorem RI (k:Nat) (h:k<48) (h1:1<=k):(dC k=5->37<=k/\k<=42)/\(dC k=6->k=43\/k=44)/\(dC k=7->k=45)/\(dC k=8->k=46\/k=47):=by
 obtain⟨a,c,b,d,e,f,g,i,j⟩:=vV k h
 omega
theorem Tv:cw 43=55:=by decide +kernel
theorem Tw:cw 44=23:=by decide +kernel
theorem Tx:cw 45=111:=by decide +kernel
theorem Ty:cw 46=115:=by decide +kernel
theorem Tz:cw 47=1048691:=by decide +kernel
theorem xJ (im:Int):wd im=im % 4294967296:=rfl
end Go.Proofs.YtlbomnnldkeocaaGreat.Pl
namespace Go.Proofs.YtlbomnnldkeocaaGreat.W
open Go.RowKit
theorem EL (k:Nat) (h1:1<=k) (h2:k<=47) (rd r1 r2 im:Int) (h:lU k rd r1 r2 im=true) (w:World) :
  Calls Tryz.prog 68 #[.agg #[.int .i64 k,.int .i64 rd,.int .i64 r1,.int .i64 r2,.int .i64 im]] w fun e w'=>e=.returned (.tuple #[.int .i64 (Pl.enc k rd r1 r2 im),.bool true])/\Below w.heap.size w w':=by
 have hok:Pl.okF (Pl.dC k) rd r1 r2 im=true:=by
  have e:lU (k:Int) rd r1 r2 im=Pl.okF (Pl.dC k) rd r1 r2 im:=by simp[lU];intro;omega
  rw[<- e];exact h
 obtain⟨g0,g1,g2,g3⟩:=Pl.oW hok
 obtain⟨a1,a2,a3⟩:=Pl.lX g0
 obtain⟨b1,b2,b3⟩:=Pl.lX g1
 obtain⟨c1,c2,c3⟩:=Pl.lX g2
 obtain⟨i1,i2⟩:=Pl.yC g3
 obtain⟨f1,f2,_⟩:=xY k h1 h2
 obtain⟨x1,x2⟩:=Pl.Dl (Pl.dC k) (by omega)
 obtain⟨y1,y2,y3,y4⟩:=Pl.RH k (by omega) h1
 obtain⟨y5,y6,y7,y8⟩:=Pl.RI k (by omega) h1
 have fin:∀ v:Int,v=Pl.enc k rd r1 r2 im->(Calls Tryz.prog 68 #[.agg #[.int .i64 k,.int .i64 rd,.int .i64 r1,.int .i64 r2,.int .i64 im]] w fun e w'=>e=.returned (.tuple #[.int .i64 v,.bool true])/\Below w.heap.size w w')->Calls Tryz.prog 68 #[.agg #[.int .i64 k,.int .i64 rd,.int .i64 r1,.int .i64 r2,.int .i64 im]] w fun e w'=>e=.returned (.tuple #[.int .i64 (Pl.enc k rd r1 r2 im),.bool true])/\Below w.heap.size w w':=fun v hv hc=>by rw[<- hv];exact hc
 have hcase:=Pl.jH (Pl.dC k) f1 f2
 rcases hcase with e | e | e | e | e | e | e | e
 ·have hk:=y1 e
  obtain⟨z3,_⟩:=Pl.uZ k (by omega) h1
  refine fin _ ?_ (NS k h1 (by omega) e ⟨h1,hk⟩ rd r1 r2 im h w ⟨a1,a2⟩ ⟨b1,b2⟩ ⟨c1,c2⟩ (by omega))
  unfold Pl.enc Pl.cw;rw[e,z3];unfold Pl.uU;simp only[Pl.BQ];omega
 ·have hk:=y2 e
  obtain⟨z3,z2⟩:=Pl.uZ k (by omega) h1
  refine fin _ ?_ (NU k h1 (by omega) e hk rd r1 r2 im h w ⟨a1,a2⟩ ⟨b1,b2⟩ ⟨c1,c2⟩ (by omega))
  unfold Pl.enc Pl.cw;rw[e,z3,z2 (.inl e)];unfold Pl.uU;simp only[Pl.xJ,Pl.BQ,Pl.xC];omega
 ·have hk:=y3 e
  obtain⟨z3,_⟩:=Pl.uZ k (by omega) h1
  rw[e]at i1 i2
  have Lh:0<=im:=i1
  have F5:im<=31:=i2
  refine fin _ ?_ (NT k h1 (by omega) e hk rd r1 r2 im h w ⟨a1,a2⟩ ⟨b1,b2⟩ ⟨c1,c2⟩ (by omega) Lh)
  unfold Pl.enc Pl.cw;rw[e,z3];unfold Pl.uU;simp only[Pl.BQ,Pl.Dk];omega
 ·have hk:=y4 e
  obtain⟨z3,z2⟩:=Pl.uZ k (by omega) h1
  refine fin _ ?_ (NV k h1 (by omega) e hk rd r1 r2 im h w ⟨a1,a2⟩ ⟨b1,b2⟩ ⟨c1,c2⟩ (by omega))
  unfold Pl.enc Pl.cw;rw[e,z3,z2 (.inr (.inl e))];unfold Pl.uU;simp only[Pl.xJ,Pl.BQ,Pl.Dk,Pl.JK];omega
 ·have hk:=y5 e
  obtain⟨z3,z2⟩:=Pl.uZ k (by omega) h1
  refine fin _ ?_ (NW k h1 (by omega) e hk rd r1 r2 im h w ⟨a1,a2⟩ ⟨b1,b2⟩ ⟨c1,c2⟩ (by omega))
  unfold Pl.enc Pl.cw;rw[e,z3,z2 (.inr (.inr e))];unfold Pl.uU;simp only[Pl.xJ,Pl.Lg,Pl.Qj,Pl.Dk,Pl.Qk,Pl.RD,Pl.xC];omega
 ·rw[e]at i1 i2 b3
  have Lh:0<=im:=i1
  have F5:im<=1048575:=i2
  have F6:r1=0:=by rcases b3 with b3 | b3 <;> first | exact b3 | cases b3
  rcases y6 e with rfl | rfl
  ·refine fin _ ?_ (EF rd r1 r2 im h w ⟨a1,a2⟩ ⟨c1,c2⟩ (by omega) Lh)
   unfold Pl.enc;rw[Pl.Tv,e];unfold Pl.uU;simp only[Pl.BQ,Pl.NY];omega
  ·refine fin _ ?_ (EG rd r1 r2 im h w ⟨a1,a2⟩ ⟨c1,c2⟩ (by omega) Lh)
   unfold Pl.enc;rw[Pl.Tw,e];unfold Pl.uU;simp only[Pl.BQ,Pl.NY];omega
 ·rw[e]at b3
  have F6:r1=0:=by rcases b3 with b3 | b3 <;> first | exact b3 | cases b3
  obtain rfl:=y7 e
  refine fin _ ?_ (EH rd r1 r2 im h w ⟨a1,a2⟩ ⟨c1,c2⟩ (by omega))
  unfold Pl.enc;rw[Pl.Tx,e];unfold Pl.uU;simp only[Pl.xJ,Pl.Lg,Pl.Ql,Pl.WC,Pl.RD,Pl.xC,Pl.NY];omega
 ·rw[e]at i1 i2 a3 b3 c3
  have Lh:0<=im:=i1
  have F5:im<=0:=i2
  have rdz:rd=0:=by rcases a3 with a3 | a3 <;> first | exact a3 | cases a3
  have F6:r1=0:=by rcases b3 with b3 | b3 <;> first | exact b3 | cases b3
  have r2z:r2=0:=by rcases c3 with c3 | c3 <;> first | exact c3 | cases c3
  rcases y8 e with rfl | rfl
  ·refine fin _ ?_ (EI rd r1 r2 im h w ⟨a1,a2⟩ ⟨c1,c2⟩ (by omega))
   unfold Pl.enc;rw[Pl.Ty,e];unfold Pl.uU;simp only[Pl.BQ];omega
  ·refine fin _ ?_ (EJ rd r1 r2 im h w ⟨a1,a2⟩ ⟨c1,c2⟩ (by omega))
   unfold Pl.enc;rw[Pl.Tz,e];unfold Pl.uU;simp only[Pl.BQ];omega
theorem uO (k:Nat) (h1:1<=k) (h2:k<=47) (rd r1 r2 im:Int) (h:lU k rd r1 r2 im=true) (w:World) :
  Calls Tryz.prog 43 #[.agg #[.int .i64 k,.int .i64 rd,.int .i64 r1,.int .i64 r2,.int .i64 im]] w fun e w'=>e=.returned (.tuple #[.int .i64 (Pl.enc k rd r1 r2 im),.bool true])/\Below w.heap.size w w':=by
 have hok:Pl.okF (Pl.dC k) rd r1 r2 im=true:=by
  have e:lU (k:Int) rd r1 r2 im=Pl.okF (Pl.dC k) rd r1 r2 im:=by simp[lU];intro;omega
  rw[<- e];exact h
 obtain⟨g0,g1,g2,g3⟩:=Pl.oW hok
 obtain⟨a1,a2,_⟩:=Pl.lX g0
 obtain⟨b1,b2,_⟩:=Pl.lX g1
 obtain⟨c1,c2,_⟩:=Pl.lX g2
 obtain⟨i1,i2⟩:=Pl.yC g3
 obtain⟨f1,f2,hf⟩:=xY k h1 h2
 obtain⟨x1,x2⟩:=Pl.Dl (Pl.dC k) (by omega)
 exact EK k _ h1 h2 f1 f2 hf rd r1 r2 im h w ⟨a1,a2⟩ ⟨b1,b2⟩ ⟨c1,c2⟩ (by omega) (Pl.RF _ f1 f2 im)
end Go.Proofs.YtlbomnnldkeocaaGreat.W
