import Derived.Test.YtlbomnnldkeocaaGreatI01
import Derived.Test.YtlbomnnldkeocaaGreatI02
import Derived.Deep.Cut
import Derived.Deep.DeepCutAuto
import Derived.Deep.CutRange
import Derived.Laws.ResultCell
import Derived.Laws.Tables
import Derived.Test.YtlbomnnldkeocaaGreatI00
set_option linter.unusedVariables false
set_option linter.unusedSimpArgs false
set_option maxHeartbeats 16000000
namespace Go.Proofs.YtlbomnnldkeocaaGreat.W
open Go.RowKit
structure dX (c:Nat) (w w':World):Prop where
 os:w'.os=w.os
 tape:w'.tape=w.tape
 output:w'.output=w.output
 size:w.heap.size<=w'.heap.size
 block:∀ b,b<w.heap.size->b≠c->w'.heap[b]?=w.heap[b]?
theorem dX.below {c:Nat} {w w':World} (h:dX c w w') (hc:c<w.heap.size):Below c w w':=⟨h.os,h.tape,h.output,h.size,fun b hb=>h.block b (by omega) (by omega)⟩
theorem dX.refl (c:Nat) (w:World):dX c w w:=⟨rfl,rfl,rfl,Nat.le_refl _,fun _ _ _=>rfl⟩
theorem dX.trans {c:Nat} {a b d:World} (h:dX c a b) (k:dX c b d):dX c a d:=⟨k.os.trans h.os,k.tape.trans h.tape,k.output.trans h.output,Nat.le_trans h.size k.size,fun x hx hc=>(k.block x (Nat.lt_of_lt_of_le hx h.size) hc).trans (h.block x hx hc)⟩
theorem dX.of_below {c:Nat} {a b:World} (h:Below a.heap.size a b):dX c a b:=⟨h.os,h.tape,h.output,h.size,fun x hx _=>h.block x hx⟩
theorem dX.low {c:Nat} {w a b:World} (h:dX c w a) (k:Below w.heap.size a b):dX c w b:=⟨k.os.trans h.os,k.tape.trans h.tape,k.output.trans h.output,Nat.le_trans h.size k.size,fun x hx hc=>(k.block x hx).trans (h.block x hx hc)⟩
theorem bX (w:World) (c:Nat) (h:iE w c):Calls Tryz.prog 18 #[.pointer (some ⟨c,0,none⟩)] w fun e w'=>∃ m:Nat,e=.returned (.int .i64 (m:Int))/\m<=255/\iE w' c/\dX c w w':=by
 obtain⟨a,len,cap,p,hrow,hl,hp,hbytes⟩:=h
 have hc0:w.cell? ⟨c,0,none⟩=some (.slice a len cap):=by rw[cell_of_row w c 0 _ 102 (0,0) hrow];rfl
 have hc1:w.cell? ⟨c,1,none⟩=some (.int .i64 (p:Int)):=by rw[cell_of_row w c 1 _ 102 (0,0) hrow];rfl
 have hf1:w.frozen? ⟨c,1,none⟩=false:=frozen_of_row w c 1 _ 102 hrow
 by_cases hlt:p<len
 ·obtain⟨b,off,rfl,hb,hby⟩:∃ b off,a=some ⟨b,off,none⟩/\b<c/\∀ i,i<len->∃ v:Nat,v<=255/\w.cell? ⟨b,off+i,none⟩=some (.int .u8 (v:Int)):=by
   rcases hbytes with h0 | h0
   ·omega
   ·exact h0
  obtain⟨v,hv,hcv⟩:=hby p hlt
  have HB:Hid (∀ i,i<len->∃ v:Nat,v<=255/\w.cell? ⟨b,off+i,none⟩=some (.int .u8 (v:Int))):=hby
  have HR:Hid (w.heap[c]?=some (.cells #[.slice (some ⟨b,off,none⟩) len cap,.int .i64 (p:Int)] 102)):=hrow
  clear hby hrow hbytes
  go_enter Tryz.func18,Tryz.ntmps18
  go_wp2_with fail
  go_quiet (fail)
  go_wp2_with fail
  go_quiet (fail)
  go_wp2
  go_ret
  refine⟨v,rfl,hv,?_,?_⟩
  ·exact QE rfl HR.out hl hlt hb HB.out
  ·exact⟨rfl,rfl,rfl,Nat.le_of_eq (World.size_setCell _ _ _).symm,fun b _ hb'=>heap_setCell_other _ ⟨c,1,none⟩ b _ hb'⟩
 ·have HR:Hid (w.heap[c]?=some (.cells #[.slice a len cap,.int .i64 (p:Int)] 102)):=hrow
  have HB:Hid (len=0\/∃ b off,a=some ⟨b,off,none⟩/\b<c/\∀ i,i<len->∃ v:Nat,v<=255/\w.cell? ⟨b,off+i,none⟩=some (.int .u8 (v:Int))):=hbytes
  clear hrow hbytes
  go_enter Tryz.func18,Tryz.ntmps18
  go_wp2_with fail
  go_quiet (fail)
  go_wp2
  go_ret
  exact⟨0,rfl,by decide,⟨a,len,cap,p,HR.out,hl,hp,HB.out⟩,⟨rfl,rfl,rfl,Nat.le_refl _,fun b _ _=>rfl⟩⟩
structure lD (w:World) (c r g:Nat) (u:World):Prop where
 rd:iE u c
 row:∃ a b d e f:Int,u.heap[g]?=some (.cells #[.int .i64 a,.int .i64 b,.int .i64 d,.int .i64 e,.int .i64 f] 32)
 res:u.heap[r]?=some (.cells #[.int .i64 0,.int .i64 0,.int .i64 0,.int .i64 0,.int .i64 0] 32)
 gP:dX c w u
 cr:c<r
 rg:r<g
 wr:w.heap.size<=r
theorem lD.lt {w u:World} {c r g:Nat} (h:lD w c r g u):g<u.heap.size:=by
 obtain⟨a,b,d,e,f,hr⟩:=h.row
 exact (Array.getElem?_eq_some_iff.1 hr).1
theorem lD.alloc {w u:World} {c r g:Nat} (h:lD w c r g u) (o:Obj):lD w c r g (u.alloc o):=by
 have hl:=h.lt
 have h1:=h.cr
 have h2:=h.rg
 obtain⟨a,b,d,e,f,hr⟩:=h.row
 exact⟨h.rd.alloc o,⟨a,b,d,e,f,by rw[Below.heap_alloc u o g hl];exact hr⟩,by rw[Below.heap_alloc u o r (by omega)];exact h.res,h.gP.low ((Below.refl _ _).alloc (by have:=h.wr;omega) _),h1,h2,h.wr⟩
theorem lD.only {w u u':World} {c r g:Nat} (h:lD w c r g u) (hr:iE u' c) (ho:dX c u u'):lD w c r g u':=by
 have hl:=h.lt
 have h1:=h.cr
 have h2:=h.rg
 obtain⟨a,b,d,e,f,hrow⟩:=h.row
 exact⟨hr,⟨a,b,d,e,f,by rw[ho.block g hl (by omega)];exact hrow⟩,by rw[ho.block r (by omega) (by omega)];exact h.res,h.gP.trans ho,h1,h2,h.wr⟩
theorem iE.setOther {u:World} {c g i:Nat} {x:Value} (h:iE u c) (hg:c<g):iE (u.setCell ⟨g,i,none⟩ x) c:=by
 obtain⟨a,len,cap,p,hrow,hl,hp,hb⟩:=h
 refine⟨a,len,cap,p,by rw[heap_setCell_other u ⟨g,i,none⟩ c x (by show c≠g;omega)];exact hrow,hl,hp,?_⟩
 rcases hb with hb | ⟨b,off,ha,hbc,hby⟩
 ·exact .inl hb
 ·refine .inr ⟨b,off,ha,hbc,fun j hj=>?_⟩
  obtain⟨v,hv,hc⟩:=hby j hj
  exact⟨v,hv,by rw[<- hc];exact World.cell?_of_block (w:=u) (heap_setCell_other u ⟨g,i,none⟩ b x (by show b≠g;omega))⟩
theorem lD.set {w u:World} {c r g:Nat} (h:lD w c r g u) (i:Nat) (hi:i<5) (x:Int):lD w c r g (u.setCell ⟨g,i,none⟩ (.int .i64 x)):=by
 have h1:=h.cr
 have h2:=h.rg
 obtain⟨a,b,d,e,f,hrow⟩:=h.row
 refine⟨h.rd.setOther (by omega),?_,by rw[heap_setCell_other u ⟨g,i,none⟩ r _ (by show r≠g;omega)];exact h.res,h.gP.low ((Below.refl _ _).setCell (show w.heap.size<=g by have:=h.wr;omega) _),h1,h2,h.wr⟩
 rw[heap_setCell_same u g i _ 32 _ hrow]
 rcases (show i=0\/i=1\/i=2\/i=3\/i=4 by omega) with rfl | rfl | rfl | rfl | rfl
 ·exact⟨x,b,d,e,f,rfl⟩
 ·exact⟨a,x,d,e,f,rfl⟩
 ·exact⟨a,b,x,e,f,rfl⟩
 ·exact⟨a,b,d,x,f,rfl⟩
 ·exact⟨a,b,d,e,x,rfl⟩
theorem uE {P:Program} {code:Code} {Q:Exit->Act->World->Prop} {a:Act} {W:World} (h:∀ U,U=W->code.wp P Q a U):code.wp P Q a W:=h W rfl
theorem jI {B:Nat} {a w:World} (h:Below B a w) {g:Nat} (hg:B<=g) (cs:Array Value):Below B a (w.setRow g cs):=
 ⟨h.os,h.tape,h.output,by rw[size_setRow];exact h.size,fun k hk=>(setRow_other w g k cs (by omega)).trans (h.block k hk)⟩
theorem iE.kL {u:World} {c r g:Nat} (h:iE u c) (hg:c<r) (hg':r<g) (cs:Array Value):iE (u.setRow r cs) c:=by
 obtain⟨a,len,cap,p,hrow,hl,hp,hb⟩:=h
 refine⟨a,len,cap,p,by rw[setRow_other u r c cs (by omega)];exact hrow,hl,hp,?_⟩
 rcases hb with hb | ⟨b,off,ha,hbc,hby⟩
 ·exact .inl hb
 ·refine .inr ⟨b,off,ha,hbc,fun j hj=>?_⟩
  obtain⟨v,hv,hc⟩:=hby j hj
  exact⟨v,hv,by rw[<- hc];exact World.cell?_of_block (w:=u) (setRow_other u r b cs (by omega))⟩
theorem O6:∀ f:Nat,f<9->-1048576<=Pl.lo f/\Pl.lo f<=0/\0<=Pl.hi f/\Pl.hi f<=1048575/\1<=Pl.st f/\Pl.st f<=2:=by decide +kernel
def VQ (L U D:Int):Array Value:=#[.int .i64 L,.int .i64 U,.int .i64 (U+D),.int .i64 (L-D),.int .i64 0,.int .i64 (-D)]
theorem VR (L U D:Int):∀ j:Nat,j<6->∃ n:Int,(VQ L U D)[j]?=some (.int .i64 n)
 | 0,_=>⟨_,rfl⟩ | 1,_=>⟨_,rfl⟩ | 2,_=>⟨_,rfl⟩ | 3,_=>⟨_,rfl⟩ | 4,_=>⟨_,rfl⟩ | 5,_=>⟨_,rfl⟩
 | n+6,h=>absurd h (by omega)
def VS:Array Value:=#[.int .i64 0,.int .i64 48,.int .i64 (-1)]
theorem VT:∀ j:Nat,j<3->∃ n:Int,VS[j]?=some (.int .i64 n)
 | 0,_=>⟨_,rfl⟩ | 1,_=>⟨_,rfl⟩ | 2,_=>⟨_,rfl⟩
 | n+3,h=>absurd h (by omega)
def VU:Array Value:=#[.int .i64 32,.int .i64 (-1),.int .i64 1]
theorem VV:∀ j:Nat,j<3->∃ n:Int,VU[j]?=some (.int .i64 n)
 | 0,_=>⟨_,rfl⟩ | 1,_=>⟨_,rfl⟩ | 2,_=>⟨_,rfl⟩
 | n+3,h=>absurd h (by omega)
set_option maxRecDepth 20000 in
theorem NP (w:World) (c:Nat) (h:iE w c):Calls Tryz.prog 123 #[.pointer (some ⟨c,0,none⟩)] w fun e w'=>∃ op rd r1 r2 im:Int,e=.returned (.agg #[.int .i64 op,.int .i64 rd,.int .i64 r1,.int .i64 r2,.int .i64 im])/\iE w' c/\dX c w w':=by
 have H0:Hid (iE w c):=h
 have hcw:=h.lt
 clear h
 go_enter Tryz.func123,Tryz.ntmps123
 go_wp2_with fail
 refine (bX _ c (H0.out.alloc _)).mono ?_
 rintro e w1 ⟨k,rfl,hk,R1,O1⟩
 have hres:w1.heap[w.heap.size]?=some (.cells #[.int .i64 0,.int .i64 0,.int .i64 0,.int .i64 0,.int .i64 0] 32):=by rw[O1.block _ (by simp) (by omega)];exact heap_alloc_new w _
 have B1:dX c w w1:=(dX.of_below ((Below.refl _ _).alloc (Nat.le_refl _) _)).trans O1
 have hsz:w.heap.size<w1.heap.size:=by have:=O1.size;simp at this;omega
 obtain⟨r,hr⟩:∃ r,r=w.heap.size:=⟨_,rfl⟩
 rw[<- hr]at hres hsz hcw ⊢
 have hwr:Hid (w.heap.size<=r):=by show w.heap.size<=r;omega
 clear O1 hr
 go_upto_region 3 with fail
 have hq:(1+(k:Int) % 47)=((1+k % 47:Nat):Int):=by omega
 rw[hq]
 obtain⟨q,hqq⟩:∃ q,q=1+k % 47:=⟨_,rfl⟩
 rw[<- hqq]
 have q1:1<=q:=by omega
 have q2:q<=47:=by omega
 clear hq hqq
 obtain⟨u2,hu2⟩:∃ u,w1.alloc (.cells #[.int .i64 (q:Int),.int .i64 0,.int .i64 0,.int .i64 0,.int .i64 0] 32)=u:=⟨_,rfl⟩
 rw[hu2]
 obtain⟨g,hg⟩:∃ g,g=w1.heap.size:=⟨_,rfl⟩
 rw[<- hg]
 have hrow2:u2.heap[g]?=some (.cells #[.int .i64 (q:Int),.int .i64 0,.int .i64 0,.int .i64 0,.int .i64 0] 32):=by rw[<- hu2,hg];exact heap_alloc_new w1 _
 have S2:Hid (lD w c r g u2):=⟨by rw[<- hu2];exact R1.alloc _,⟨_,_,_,_,_,hrow2⟩,by rw[<- hu2,Below.heap_alloc w1 _ r hsz];exact hres,by rw[<- hu2];exact B1.trans (dX.of_below ((Below.refl _ _).alloc (Nat.le_refl _) _)),hcw,by omega,hwr.out⟩
 have mW:∀ j,u2.cell? ⟨g,j,none⟩=(#[.int .i64 (q:Int),.int .i64 0,.int .i64 0,.int .i64 0,.int .i64 0]:Array Value)[j]?:=fun j=>cell_of_row u2 g j _ 32 (0,0) hrow2
 clear hrow2 hu2 hg R1 B1 hres hsz H0
 go_wp2_with fail
 refine (lN q q1 q2 _).mono ?_
 rintro e u3 ⟨rfl,h3⟩
 rw[h3]
 clear h3 u3 mW
 obtain⟨f1,f2,_⟩:=Pl.qW q (by omega) q1
 obtain⟨f,hf⟩:∃ f,f=Pl.dC q:=⟨_,rfl⟩
 rw[<- hf]at f1 f2 ⊢
 clear hf
 go_wp2_with fail
 refine (AB f f1 f2 _).mono ?_
 rintro e u3 ⟨rfl,h3⟩
 have S3:Hid (lD w c r g u3):=by show lD w c r g u3;rw[h3];exact S2.out.alloc _
 clear h3 S2
 obtain⟨p,hp⟩:∃ p,p=Pl.pts f:=⟨_,rfl⟩
 have pb:0<=p/\p<=14:=by rw[hp];exact Pl.QI f (by omega)
 rw[<- hp]
 clear hp
 go_wp2_with fail
 refine (bX _ c S3.out.rd).mono ?_
 rintro e u4 ⟨v,rfl,hv,R4,O4⟩
 have S4:Hid (lD w c r g u4):=S3.out.only R4 O4
 clear R4 O4 S3
 go_upto_if 28 with fail
 go_cut [4] from 13 to 142 (fun s4 wx=>s4=.pointer (some ⟨g,0,none⟩)/\lD w c r g wx)
 case first=>
  obtain⟨ra99,BG,BH,BI,BJ,rF⟩:=S4.out.row
  have IX:∀ j,u4.cell? ⟨g,j,none⟩=(#[.int .i64 ra99,.int .i64 BG,.int .i64 BH,.int .i64 BI,.int .i64 BJ]:Array Value)[j]?:=(fun j=>cell_of_row u4 g j _ 32 (0,0) rF)
  have IY:∀ j,u4.frozen? ⟨g,j,none⟩=false:=(fun j=>frozen_of_row u4 g j _ 32 rF)
  clear rF
  go_wp2_with fail
  all_goals
   go_meet
   refine⟨rfl,?_⟩
   first
    | exact S4.out
    | exact S4.out.set _ (by decide) _
 case rest=>
 obtain⟨rfl,hst⟩:=hcut
 obtain⟨y5,o7⟩:∃ u:World,u=wc:=⟨wc,rfl⟩
 rw[<- o7]at hst ⊢
 have S5:Hid (lD w c r g y5):=hst
 clear hst o7 S4
 go_upto_if 35 with fail
 go_cut [4] from 13 to 142 (fun s4 wx=>s4=.pointer (some ⟨g,0,none⟩)/\lD w c r g wx)
 case first=>
  obtain⟨ra99,BG,BH,BI,BJ,rF⟩:=S5.out.row
  have IX:∀ j,y5.cell? ⟨g,j,none⟩=(#[.int .i64 ra99,.int .i64 BG,.int .i64 BH,.int .i64 BI,.int .i64 BJ]:Array Value)[j]?:=(fun j=>cell_of_row y5 g j _ 32 (0,0) rF)
  have IY:∀ j,y5.frozen? ⟨g,j,none⟩=false:=(fun j=>frozen_of_row y5 g j _ 32 rF)
  clear rF
  go_wp2_with fail
  ·refine (bX _ c S5.out.rd).mono ?_
   rintro e Km ⟨m1,rfl,hm1,o9,p8⟩
   have p9:Hid (lD w c r g Km):=S5.out.only o9 p8
   clear o9 p8 IX IY
   obtain⟨Ry,Rz,Sa,Sb,Sc,Db⟩:=p9.out.row
   have O7:∀ j,Km.cell? ⟨g,j,none⟩=(#[.int .i64 Ry,.int .i64 Rz,.int .i64 Sa,.int .i64 Sb,.int .i64 Sc]:Array Value)[j]?:=(fun j=>cell_of_row Km g j _ 32 (0,0) Db)
   have P7:∀ j,Km.frozen? ⟨g,j,none⟩=false:=(fun j=>frozen_of_row Km g j _ 32 Db)
   clear Db
   go_wp2_with fail
   go_meet
   exact⟨rfl,p9.out.set _ (by decide) _⟩
  ·go_meet
   exact⟨rfl,S5.out⟩
 case rest=>
 obtain⟨rfl,hst⟩:=hcut
 obtain⟨y6,Dc⟩:∃ u:World,u=wc:=⟨wc,rfl⟩
 rw[<- Dc]at hst ⊢
 have S6:Hid (lD w c r g y6):=hst
 clear hst Dc S5
 go_upto_if 43 with fail
 go_cut [4] from 13 to 142 (fun s4 wx=>s4=.pointer (some ⟨g,0,none⟩)/\lD w c r g wx)
 case first=>
  obtain⟨ra99,BG,BH,BI,BJ,rF⟩:=S6.out.row
  have IX:∀ j,y6.cell? ⟨g,j,none⟩=(#[.int .i64 ra99,.int .i64 BG,.int .i64 BH,.int .i64 BI,.int .i64 BJ]:Array Value)[j]?:=(fun j=>cell_of_row y6 g j _ 32 (0,0) rF)
  have IY:∀ j,y6.frozen? ⟨g,j,none⟩=false:=(fun j=>frozen_of_row y6 g j _ 32 rF)
  clear rF
  go_wp2_with fail
  ·refine (bX _ c S6.out.rd).mono ?_
   rintro e Kn ⟨m2,rfl,hm2,r9,x8⟩
   have x9:Hid (lD w c r g Kn):=S6.out.only r9 x8
   clear r9 x8 IX IY
   obtain⟨Sd,Sg,Si,Sj,Sk,De⟩:=x9.out.row
   have Q3:∀ j,Kn.cell? ⟨g,j,none⟩=(#[.int .i64 Sd,.int .i64 Sg,.int .i64 Si,.int .i64 Sj,.int .i64 Sk]:Array Value)[j]?:=(fun j=>cell_of_row Kn g j _ 32 (0,0) De)
   have Q4:∀ j,Kn.frozen? ⟨g,j,none⟩=false:=(fun j=>frozen_of_row Kn g j _ 32 De)
   clear De
   go_wp2_with fail
   go_meet
   exact⟨rfl,x9.out.set _ (by decide) _⟩
  ·go_meet
   exact⟨rfl,S6.out⟩
 case rest=>
 obtain⟨rfl,hst⟩:=hcut
 obtain⟨y7,Bc⟩:∃ u:World,u=wc:=⟨wc,rfl⟩
 rw[<- Bc]at hst ⊢
 have S7:Hid (lD w c r g y7):=hst
 clear hst Bc S6
 go_wp2_with fail
 refine (tH f f1 f2 _).mono ?_
 rintro e y8 ⟨rfl,h8⟩
 rw[h8]
 clear h8 y8
 obtain⟨L,hL⟩:∃ L,L=Pl.lo f:=⟨_,rfl⟩
 obtain⟨U,hU⟩:∃ U,U=Pl.hi f:=⟨_,rfl⟩
 obtain⟨D,hD⟩:∃ D,D=Pl.st f:=⟨_,rfl⟩
 have rb:=O6 f (by omega)
 rw[<- hL,<- hU,<- hD]at rb
 rw[<- hL,<- hU,<- hD]
 clear hL hU hD
 obtain⟨L1,L2,U1,U2,D1,D2⟩:=rb
 go_wp2_with fail
 refine (bX _ c S7.out.rd).mono ?_
 rintro e y8 ⟨n1,rfl,hn1,R8,O8⟩
 have S8:Hid (lD w c r g y8):=S7.out.only R8 O8
 clear R8 O8 S7
 go_wp2_with fail
 refine (bX _ c S8.out.rd).mono ?_
 rintro e y9 ⟨n2,rfl,hn2,R9,O9⟩
 have S9:Hid (lD w c r g y9):=S8.out.only R9 O9
 clear R9 O9 S8
 go_wp2_with fail
 refine (bX _ c S9.out.rd).mono ?_
 rintro e Ko ⟨n3,rfl,hn3,A7,A9⟩
 have Kq:Hid (lD w c r g Ko):=S9.out.only A7 A9
 clear A7 A9 S9
 have hne1:¬ (U-L+1=0):=by omega
 have hne2:¬ (D=0):=by omega
 go_upto_if 66 with fail
 go_cut [4] from 13 to 142 (fun s4 wx=>s4=.pointer (some ⟨g,0,none⟩)/\lD w c r g wx)
 case first=>
  obtain⟨ra99,BG,BH,BI,BJ,rF⟩:=Kq.out.row
  have IX:∀ j,Ko.cell? ⟨g,j,none⟩=(#[.int .i64 ra99,.int .i64 BG,.int .i64 BH,.int .i64 BI,.int .i64 BJ]:Array Value)[j]?:=(fun j=>cell_of_row Ko g j _ 32 (0,0) rF)
  have IY:∀ j,Ko.frozen? ⟨g,j,none⟩=false:=(fun j=>frozen_of_row Ko g j _ 32 rF)
  clear rF
  go_upto_if 81 with fail
  ·refine uE fun PY Kr=>?_
   have Qf:Hid (lD w c r g PY):=by show lD w c r g PY;rw[Kr];exact Kq.out.set _ (by decide) _
   clear Kr IX IY Kq
   obtain⟨Sl,Sm,Sn,Sq,Sr,Df⟩:=Qf.out.row
   have hl12:=Qf.out.lt
   have Q5:∀ o j,(PY.alloc o).cell? ⟨g,j,none⟩=(#[.int .i64 Sl,.int .i64 Sm,.int .i64 Sn,.int .i64 Sq,.int .i64 Sr]:Array Value)[j]?:=(fun o j=>cell_of_row (PY.alloc o) g j _ 32 (0,0) ((Below.heap_alloc PY o g hl12).trans Df))
   have Q6:∀ o j,(PY.alloc o).frozen? ⟨g,j,none⟩=false:=(fun o j=>frozen_of_row (PY.alloc o) g j _ 32 ((Below.heap_alloc PY o g hl12).trans Df))
   clear Df
   obtain⟨t,ht⟩:=VR L U D (v % 6) (by omega)
   have hc:(PY.alloc (.cells (VQ L U D) 3)).cell? ⟨PY.heap.size,v % 6,none⟩=some (.int .i64 t):=by rw[cell_of_row _ _ _ (VQ L U D) 3 (0,0) (heap_alloc_new PY _)];exact ht
   clear ht
   go_wp2_with (refine Great.wpList_buildSliceTo rfl 26 3 6 _ rfl PY.heap.size rfl _ rfl Tryz.underlying26 (VQ L U D) (by kernel_rfl) ?_)
   ·go_meet
    exact⟨rfl,(Qf.out.set 4 (by decide) _).alloc _⟩
   ·go_meet
    exact⟨rfl,Qf.out⟩
  ·go_wp2_with fail
   go_meet
   exact⟨rfl,Kq.out⟩
 case rest=>
 obtain⟨rfl,hst⟩:=hcut
 obtain⟨BK,Kt⟩:∃ u:World,u=wc:=⟨wc,rfl⟩
 rw[<- Kt]at hst ⊢
 have QR:Hid (lD w c r g BK):=hst
 clear hst Kt Kq
 go_upto_if 99 with fail
 go_cut [4] from 13 to 142 (fun s4 wx=>s4=.pointer (some ⟨g,0,none⟩)/\lD w c r g wx)
 case first=>
  obtain⟨ra99,BG,BH,BI,BJ,rF⟩:=QR.out.row
  have IX:∀ j,BK.cell? ⟨g,j,none⟩=(#[.int .i64 ra99,.int .i64 BG,.int .i64 BH,.int .i64 BI,.int .i64 BJ]:Array Value)[j]?:=(fun j=>cell_of_row BK g j _ 32 (0,0) rF)
  have IY:∀ j,BK.frozen? ⟨g,j,none⟩=false:=(fun j=>frozen_of_row BK g j _ 32 rF)
  clear rF
  obtain⟨Su,Sv,Sw,Sy,Sz,Dg⟩:=QR.out.row
  have Ku:=QR.out.lt
  have Q7:∀ o j,(BK.alloc o).cell? ⟨g,j,none⟩=(#[.int .i64 Su,.int .i64 Sv,.int .i64 Sw,.int .i64 Sy,.int .i64 Sz]:Array Value)[j]?:=(fun o j=>cell_of_row (BK.alloc o) g j _ 32 (0,0) ((Below.heap_alloc BK o g Ku).trans Dg))
  have Q8:∀ o j,(BK.alloc o).frozen? ⟨g,j,none⟩=false:=(fun o j=>frozen_of_row (BK.alloc o) g j _ 32 ((Below.heap_alloc BK o g Ku).trans Dg))
  clear Dg
  obtain⟨t,ht⟩:=VT (v / 5 % 3) (by omega)
  have hc:(BK.alloc (.cells VS 3)).cell? ⟨BK.heap.size,v / 5 % 3,none⟩=some (.int .i64 t):=by rw[cell_of_row _ _ _ VS 3 (0,0) (heap_alloc_new BK _)];exact ht
  obtain⟨t',ht'⟩:=VV (v / 5 % 3) (by omega)
  have hc':(BK.alloc (.cells VU 3)).cell? ⟨BK.heap.size,v / 5 % 3,none⟩=some (.int .i64 t'):=by rw[cell_of_row _ _ _ VU 3 (0,0) (heap_alloc_new BK _)];exact ht'
  clear ht ht'
  by_cases h5:v % 5=0
  ·have e5:((v:Int) % 5 == 0)=true:=by simp;omega
   clear h5 hc'
   go_wp2_with (refine Great.wpList_buildSliceTo rfl 26 3 3 _ rfl BK.heap.size rfl _ rfl Tryz.underlying26 VS (by kernel_rfl) ?_)
   all_goals
    go_meet
    refine⟨rfl,?_⟩
    first
     | exact QR.out
     | exact (QR.out.set 0 (by decide) _).alloc _
  ·have e5:((v:Int) % 5 == 0)=false:=by simp;omega
   clear h5 hc
   go_wp2_with (refine Great.wpList_buildSliceTo rfl 26 3 3 _ rfl BK.heap.size rfl _ rfl Tryz.underlying26 VU (by kernel_rfl) ?_)
   all_goals
    go_meet
    refine⟨rfl,?_⟩
    first
     | exact QR.out
     | exact QR.out.set 4 (by decide) _
     | exact (QR.out.set 1 (by decide) _).alloc _
     | exact (QR.out.set 2 (by decide) _).alloc _
     | exact (QR.out.set 3 (by decide) _).alloc _
 case rest=>
 obtain⟨rfl,hst⟩:=hcut
 obtain⟨y13,Kv⟩:∃ u:World,u=wc:=⟨wc,rfl⟩
 rw[<- Kv]at hst ⊢
 have Jt:Hid (lD w c r g y13):=hst
 clear hst Kv QR
 obtain⟨ra,rb,rx,ry,rz,hrow⟩:=Jt.out.row
 have hres:=Jt.out.res
 have hrg:=Jt.out.rg
 have HB:Hid (dX c w y13/\iE y13 c/\c<r/\r<g):=⟨Jt.out.gP,Jt.out.rd,Jt.out.cr,hrg⟩
 go_wp2_with (first | (refine wpList_load_row rfl 32 _ rfl g ?hx 32 #[.int .i64 ra,.int .i64 rb,.int .i64 rx,.int .i64 ry,.int .i64 rz] (0,0) _ ?hg Tryz.underlying32 ?hd ?hi ?_; (case hx=>rfl); (case hg=>exact hrow); (case hd=>rfl); (case hi=>kernel_rfl)) | (refine wpList_store_row rfl 32 _ _ rfl r #[.int .i64 ra,.int .i64 rb,.int .i64 rx,.int .i64 ry,.int .i64 rz] ?hx ?hy 32 #[.int .i64 0,.int .i64 0,.int .i64 0,.int .i64 0,.int .i64 0] ?hg ?hi ?ho ?h1 ?_; (case hx=>rfl); (case hy=>rfl); (case hg=>exact hres); (case hi=>kernel_rfl); (case ho=>kernel_rfl); (case h1=>kernel_rfl);refine Hid.out ?_))
 unfold Hid
 go_wp2
 obtain⟨hb1,hb2,hb3,hb4⟩:=HB.out
 exact bodyPost_ret (v:=.agg #[.int .i64 ra,.int .i64 rb,.int .i64 rx,.int .i64 ry,.int .i64 rz]) (results_cell_row Tryz.results123 _ _ r 32 #[.int .i64 ra,.int .i64 rb,.int .i64 rx,.int .i64 ry,.int .i64 rz] (0,0) _ rfl (setRow_heap _ _ _ _ 32 _ hres) Tryz.underlying32 rfl (by kernel_rfl)) rfl ⟨ra,rb,rx,ry,rz,rfl,hb2.kL hb3 hb4 _,hb1.low (jI (Below.refl _ _) hwr.out _)⟩
end Go.Proofs.YtlbomnnldkeocaaGreat.W
namespace Go.Proofs.YtlbomnnldkeocaaGreat.Pl
structure Ln where
 k:Int
 op:Int
 rd:Int
 r1:Int
 r2:Int
 im:Int
 s:ByteArray
 n:Int
def Ln.cells (x:Ln):Array Value:=#[.int .i64 x.k,.int .i64 x.op,.int .i64 x.rd,.int .i64 x.r1,.int .i64 x.r2,.int .i64 x.im,.string x.s,.int .i64 x.n]
def Ln.zero:Ln:=⟨0,0,0,0,0,0,⟨#[]⟩,0⟩
end Go.Proofs.YtlbomnnldkeocaaGreat.Pl
namespace Go.Proofs.YtlbomnnldkeocaaGreat.W
open Go.RowKit
def jE (lo:Nat) (w:World) (a:Option Addr) (len cap:Nat) (xs:List Pl.Ln):Prop:=
 (xs.length=len/\∀ x∈xs,x.s.size<=maxLen)/\len<=cap/\cap<=maxLen/\(len=0\/∃ b off,a=some ⟨b,off,none⟩/\lo<=b/\b<w.heap.size/\∀ i,i<len->∀ j,j<8->w.cell? ⟨b,off+i*8+j,none⟩=(xs.getD i Pl.Ln.zero).cells[j]?)
theorem jE.keep {lo:Nat} {w w':World} {a:Option Addr} {len cap:Nat} {xs:List Pl.Ln} (h:jE lo w a len cap xs) (hb:Below w.heap.size w w'):jE lo w' a len cap xs:=by
 obtain⟨h1,h2,h3,h4⟩:=h
 refine⟨h1,h2,h3,?_⟩
 rcases h4 with h4 | ⟨b,off,ha,hlo,hlt,hc⟩
 ·exact .inl h4
 ·exact .inr ⟨b,off,ha,hlo,Nat.lt_of_lt_of_le hlt hb.size,fun i hi j hj=>(hb.cell (p:=⟨b,off+i*8+j,none⟩) hlt).trans (hc i hi j hj)⟩
theorem Tryz.infou8:(Tryz.prog.info? 5).map (fun i=>(i.zero,i.size,i.bytes))=some (some (.int .u8 0),1,1):=by kernel_rfl
theorem oV {P:Program} {ops:Array Oper} {Q:Exit->Act->World->Prop} {rest:List Oper} {a:Act} {W:World} (h:∀ U,U=W->wpList P ops Q rest a U):wpList P ops Q rest a W:=h W rfl
theorem aB (w:World) (o:Obj):Below w.heap.size w (w.alloc o):=(Below.refl _ _).alloc (Nat.le_refl _) _
end Go.Proofs.YtlbomnnldkeocaaGreat.W
