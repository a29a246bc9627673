import Derived.Test.YtlbomnnldkeocaaGreatI03
import Derived.Test.YtlbomnnldkeocaaGreatI04
import Derived.Test.YtlbomnnldkeocaaGreatI02
import Derived.Test.YtlbomnnldkeocaaGreatI00
import Derived.Laws.ResultCell
import Derived.Laws.Tables
import Derived.Laws.AppendOwn
import Derived.Laws.OwnMore
set_option linter.unusedVariables false
set_option linter.unusedSimpArgs false
set_option maxHeartbeats 16000000
namespace Go.Proofs.YtlbomnnldkeocaaGreat.W
open Go.RowKit
theorem jS (m d:Nat) (hd:0<d):∃ i:Nat,((m:Int).tmod (d:Int))=(i:Int)/\((m:Int) % (d:Int))=(i:Int)/\i<d:=
 ⟨m % d,by rw[Int.tmod_eq_emod_of_nonneg (by omega)];exact (Int.natCast_emod _ _).symm,(Int.natCast_emod _ _).symm,Nat.mod_lt _ hd⟩
theorem LY {u:World} {g:Nat} {l:List ByteArray} (h:u.heap[g]?=some (.cells (l.map Value.string).toArray 9 (0,0))) (hs:∀ s∈l,s.size<=100) {i:Nat} (hi:i<l.length):∃ s:ByteArray,u.cell? ⟨g,i,none⟩=some (.string s)/\s.size<=100:=by
 refine⟨l[i],?_,hs _ (List.getElem_mem _)⟩
 rw[cell_of_row u g i _ _ _ h]
 simp[hi]
theorem rG (w:World) (c:Nat) (h:iE w c):Calls Tryz.prog 122 #[.pointer (some ⟨c,0,none⟩)] w fun e w'=>∃ s:ByteArray,e=.returned (.string s)/\s.size<=100/\iE w' c/\dX c w w':=by
 have H0:Hid (iE w c):=h
 have hcw:=h.lt
 clear h
 go_enter Tryz.func122,Tryz.ntmps122
 go_wp2_with fail
 refine xX fun u0 hu0=>?_
 have Q0:u0.heap[w.heap.size]?=some (.cells #[.string ⟨#[95,115,116,97,114,116]⟩,.string ⟨#[97]⟩,.string ⟨#[98,46,49]⟩,.string ⟨#[76,36,50]⟩,.string ⟨#[90,122,95,57]⟩,.string ⟨#[46,120]⟩,.string ⟨#[97]⟩,.string ⟨#[98,46,49]⟩] 9):=by rw[hu0];exact heap_alloc_new w _
 have B0:Below w.heap.size w u0:=by rw[hu0];exact aB w _
 have s0:w.heap.size<u0.heap.size:=by rw[hu0];simp
 have R0:iE u0 c:=by rw[hu0];exact H0.out.alloc _
 clear hu0
 refine (bX _ c R0).mono ?_
 rintro e u1 ⟨m,rfl,hm,R1,O1⟩
 obtain⟨i,hi1,hi2,hi3⟩:∃ i:Nat,((m:Int).tmod 8)=(i:Int)/\((m:Int) % 8)=(i:Int)/\i<8:=jS m 8 (by decide)
 obtain⟨s,hs,hsz⟩:=LY (l:=[⟨#[95,115,116,97,114,116]⟩,⟨#[97]⟩,⟨#[98,46,49]⟩,⟨#[76,36,50]⟩,⟨#[90,122,95,57]⟩,⟨#[46,120]⟩,⟨#[97]⟩,⟨#[98,46,49]⟩]) ((O1.block _ s0 (by omega)).trans Q0) (by decide) (i:=i) hi3
 have hB:dX c w u1:=(dX.of_below B0).trans O1
 have HR:Hid (iE u1 c):=R1
 have HB:Hid (dX c w u1):=hB
 have hi4:(i:Int)<8:=by omega
 clear Q0 B0 s0 R0 R1 O1 hB
 go_wp2
 go_ret
 exact⟨s,rfl,hsz,HR.out,HB.out⟩
structure aN (w:World) (c r g:Nat) (u:World):Prop where
 rd:iE u c
 row:∃ l:Pl.Ln,l.s.size<=100/\u.heap[g]?=some (.cells #[.int .i64 l.k,.int .i64 l.op,.int .i64 l.rd,.int .i64 l.r1,.int .i64 l.r2,.int .i64 l.im,.string l.s,.int .i64 l.n] 51)
 res:u.heap[r]?=some (.cells #[.int .i64 0,.int .i64 0,.int .i64 0,.int .i64 0,.int .i64 0,.int .i64 0,.string ⟨#[]⟩,.int .i64 0] 51)
 gP:dX c w u
 cr:c<r
 rg:r<g
 wr:w.heap.size<=r
theorem aN.lt {w u:World} {c r g:Nat} (h:aN w c r g u):g<u.heap.size:=by
 obtain⟨l,_,hr⟩:=h.row
 exact (Array.getElem?_eq_some_iff.1 hr).1
theorem aN.alloc {w u:World} {c r g:Nat} (h:aN w c r g u) (o:Obj):aN w c r g (u.alloc o):=by
 have hl:=h.lt
 have h1:=h.cr
 have h2:=h.rg
 obtain⟨l,hs,hr⟩:=h.row
 exact⟨h.rd.alloc o,⟨l,hs,by rw[Below.heap_alloc u o g hl];exact hr⟩,by rw[Below.heap_alloc u o r (by omega)];exact h.res,h.gP.low ((Below.refl _ _).alloc (by have:=h.wr;omega) _),h1,h2,h.wr⟩
theorem aN.only {w u u':World} {c r g:Nat} (h:aN w c r g u) (hr:iE u' c) (ho:dX c u u'):aN w c r g u':=by
 have hl:=h.lt
 have h1:=h.cr
 have h2:=h.rg
 obtain⟨l,hs,hrow⟩:=h.row
 exact⟨hr,⟨l,hs,by rw[ho.block g hl (by omega)];exact hrow⟩,by rw[ho.block r (by omega) (by omega)];exact h.res,h.gP.trans ho,h1,h2,h.wr⟩
theorem aN.below {w u u':World} {c r g:Nat} (h:aN w c r g u) (d:Below u.heap.size u u'):aN w c r g u':=
 h.only (by
  have hlt:=h.rd.lt
  obtain⟨a,len,cap,p,hrow,h1,h2,h3⟩:=h.rd
  refine⟨a,len,cap,p,(d.block c hlt).trans hrow,h1,h2,?_⟩
  rcases h3 with h3 | ⟨b,off,ha,hbc,hc⟩
  ·exact .inl h3
  ·refine .inr ⟨b,off,ha,hbc,fun i hi=>?_⟩
   obtain⟨v,hv,hcell⟩:=hc i hi
   exact⟨v,hv,(d.cell (p:=⟨b,off+i,none⟩) (show b<u.heap.size by omega)).trans hcell⟩) (dX.of_below d)
theorem aN.set {w u:World} {c r g:Nat} (h:aN w c r g u) (i:Nat) (hi:i<8/\i≠6) (x:Int):aN w c r g (u.setCell ⟨g,i,none⟩ (.int .i64 x)):=by
 have h1:=h.cr
 have h2:=h.rg
 obtain⟨l,hs,hrow⟩:=h.row
 refine⟨h.rd.setOther (by omega),?_,by rw[heap_setCell_other u ⟨g,i,none⟩ r _ (by show r≠g;omega)];exact h.res,h.gP.low ((Below.refl _ _).setCell (show w.heap.size<=g by have:=h.wr;omega) _),h1,h2,h.wr⟩
 rw[heap_setCell_same u g i _ 51 _ hrow]
 rcases (show i=0\/i=1\/i=2\/i=3\/i=4\/i=5\/i=7 by omega) with rfl | rfl | rfl | rfl | rfl | rfl | rfl
 ·exact⟨⟨x,l.op,l.rd,l.r1,l.r2,l.im,l.s,l.n⟩,hs,rfl⟩
 ·exact⟨⟨l.k,x,l.rd,l.r1,l.r2,l.im,l.s,l.n⟩,hs,rfl⟩
 ·exact⟨⟨l.k,l.op,x,l.r1,l.r2,l.im,l.s,l.n⟩,hs,rfl⟩
 ·exact⟨⟨l.k,l.op,l.rd,x,l.r2,l.im,l.s,l.n⟩,hs,rfl⟩
 ·exact⟨⟨l.k,l.op,l.rd,l.r1,x,l.im,l.s,l.n⟩,hs,rfl⟩
 ·exact⟨⟨l.k,l.op,l.rd,l.r1,l.r2,x,l.s,l.n⟩,hs,rfl⟩
 ·exact⟨⟨l.k,l.op,l.rd,l.r1,l.r2,l.im,l.s,x⟩,hs,rfl⟩
theorem aN.jM {w u:World} {c r g:Nat} (h:aN w c r g u) (s:ByteArray) (hs':s.size<=100):aN w c r g (u.setCell ⟨g,6,none⟩ (.string s)):=by
 have h1:=h.cr
 have h2:=h.rg
 obtain⟨l,hs,hrow⟩:=h.row
 refine⟨h.rd.setOther (by omega),?_,by rw[heap_setCell_other u ⟨g,6,none⟩ r _ (by show r≠g;omega)];exact h.res,h.gP.low ((Below.refl _ _).setCell (show w.heap.size<=g by have:=h.wr;omega) _),h1,h2,h.wr⟩
 rw[heap_setCell_same u g 6 _ 51 _ hrow]
 exact⟨⟨l.k,l.op,l.rd,l.r1,l.r2,l.im,s,l.n⟩,hs',rfl⟩
theorem uK (l:List Int) (i:Nat) (h:i<(l.map (Value.int .i64)).length):(l.map (Value.int .i64))[i]=.int .i64 (l.getD i 0):=by
 rw[List.getElem_map,List.getD_eq_getElem?_getD,List.getElem?_eq_getElem (by simpa using h)]
 rfl
theorem QV {u u':World} {g i:Nat} {t:TypeId} {n:Nat} (h:∃ q:List Int,q.length=n/\u.heap[g]?=some (.cells (q.map (Value.int .i64)).toArray t (0,0))) (hu:u'.heap[g]?=u.heap[g]?) (hi:i<n):∃ z:Int,u'.cell? ⟨g,i,none⟩=some (.int .i64 z):=by
 obtain⟨q,hq,hg⟩:=h
 refine⟨q[i],?_⟩
 rw[cell_of_row u' g i _ t (0,0) (hu.trans hg)]
 simp[hq,hi]
theorem aN.facts {w u:World} {c r g:Nat} (h:aN w c r g u):∃ l:Pl.Ln,(∀ j:Nat,u.cell? ⟨g,j,none⟩=(#[.int .i64 l.k,.int .i64 l.op,.int .i64 l.rd,.int .i64 l.r1,.int .i64 l.r2,.int .i64 l.im,.string l.s,.int .i64 l.n]:Array Value)[j]?)/\(∀ j:Nat,u.frozen? ⟨g,j,none⟩=false)/\(∀ (o:Obj) (j:Nat),(u.alloc o).cell? ⟨g,j,none⟩=(#[.int .i64 l.k,.int .i64 l.op,.int .i64 l.rd,.int .i64 l.r1,.int .i64 l.r2,.int .i64 l.im,.string l.s,.int .i64 l.n]:Array Value)[j]?)/\(∀ (o:Obj) (j:Nat),(u.alloc o).frozen? ⟨g,j,none⟩=false)/\(∀ (o o2:Obj) (j:Nat),((u.alloc o).alloc o2).cell? ⟨g,j,none⟩=(#[.int .i64 l.k,.int .i64 l.op,.int .i64 l.rd,.int .i64 l.r1,.int .i64 l.r2,.int .i64 l.im,.string l.s,.int .i64 l.n]:Array Value)[j]?)/\∀ (o o2:Obj) (j:Nat),((u.alloc o).alloc o2).frozen? ⟨g,j,none⟩=false:=by
 obtain⟨l,_,r0⟩:=h.row
 have r1:∀ o:Obj,(u.alloc o).heap[g]?=some (.cells #[.int .i64 l.k,.int .i64 l.op,.int .i64 l.rd,.int .i64 l.r1,.int .i64 l.r2,.int .i64 l.im,.string l.s,.int .i64 l.n] 51):=fun o=>(Below.heap_alloc u o g h.lt).trans r0
 have r2:∀ o o2:Obj,((u.alloc o).alloc o2).heap[g]?=some (.cells #[.int .i64 l.k,.int .i64 l.op,.int .i64 l.rd,.int .i64 l.r1,.int .i64 l.r2,.int .i64 l.im,.string l.s,.int .i64 l.n] 51):=fun o o2=>(Below.heap_alloc (u.alloc o) o2 g (Nat.lt_of_lt_of_le h.lt (by simp))).trans (r1 o)
 exact⟨l,fun j=>cell_of_row _ g j _ 51 (0,0) r0,fun j=>frozen_of_row _ g j _ 51 r0,fun o j=>cell_of_row _ g j _ 51 (0,0) (r1 o),fun o j=>frozen_of_row _ g j _ 51 (r1 o),fun o o2 j=>cell_of_row _ g j _ 51 (0,0) (r2 o o2),fun o o2 j=>frozen_of_row _ g j _ 51 (r2 o o2)⟩
theorem jN {P:Program} {ops:Array Oper} {Q:Exit->Act->World->Prop} {rest:List Oper} {o:Oper} {a:Act} {W:World} (ty:TypeId) (x:Operand) (ho:o.op=.load ty x) (h:∀ U,U=W->wpList P ops Q (o :: rest) a U):wpList P ops Q (o :: rest) a W:=h W rfl
theorem QW (n:Int) (w:World):Calls Tryz.prog 60 #[.int .i64 n] w fun e w'=>∃ f:Int,e=.returned (.int .i64 f)/\w'=w:=by
 go_enter Tryz.func60,Tryz.ntmps60
 go_wp2
 all_goals (go_ret;first | exact⟨_,rfl,rfl⟩ | exact⟨⟨_,rfl⟩,rfl⟩)
set_option maxRecDepth 20000 in
theorem mD (b:Bool) (w:World) (c:Nat) (h:iE w c):Calls Tryz.prog 96 #[.pointer (some ⟨c,0,none⟩),.bool b] w fun e w'=>∃ l:Pl.Ln,l.s.size<=100/\e=.returned (.agg #[.int .i64 l.k,.int .i64 l.op,.int .i64 l.rd,.int .i64 l.r1,.int .i64 l.r2,.int .i64 l.im,.string l.s,.int .i64 l.n])/\iE w' c/\dX c w w':=by
 have H0:Hid (iE w c):=h
 have hcw:=h.lt
 clear h
 go_enter Tryz.func96,Tryz.ntmps96
 go_wp2_with fail
 refine (bX _ c (H0.out.alloc _)).mono ?_
 rintro e w1 ⟨k,rfl,hk,R1,O1⟩
 have hres:w1.heap[w.heap.size]?=some (.cells #[.int .i64 0,.int .i64 0,.int .i64 0,.int .i64 0,.int .i64 0,.int .i64 0,.string ⟨#[]⟩,.int .i64 0] 51):=by rw[O1.block _ (by simp) (by omega)];exact heap_alloc_new w _
 have B1:dX c w w1:=(dX.of_below ((Below.refl _ _).alloc (Nat.le_refl _) _)).trans O1
 have hsz:w.heap.size<w1.heap.size:=by have:=O1.size;simp at this;omega
 obtain⟨r,hr⟩:∃ r,r=w.heap.size:=⟨_,rfl⟩
 rw[<- hr]at hres hsz hcw ⊢
 have hwr:Hid (w.heap.size<=r):=by show w.heap.size<=r;omega
 clear O1 hr
 go_upto_region 3 with fail
 obtain⟨u2,hu2⟩:∃ u,w1.alloc (.cells #[.int .i64 0,.int .i64 0,.int .i64 0,.int .i64 0,.int .i64 0,.int .i64 0,.string ⟨#[]⟩,.int .i64 0] 51)=u:=⟨_,rfl⟩
 rw[hu2]
 obtain⟨g,hg⟩:∃ g,g=w1.heap.size:=⟨_,rfl⟩
 rw[<- hg]
 have hrow2:u2.heap[g]?=some (.cells #[.int .i64 0,.int .i64 0,.int .i64 0,.int .i64 0,.int .i64 0,.int .i64 0,.string ⟨#[]⟩,.int .i64 0] 51):=by rw[<- hu2,hg];exact heap_alloc_new w1 _
 have S:Hid (aN w c r g u2):=⟨by rw[<- hu2];exact R1.alloc _,⟨Pl.Ln.zero,by decide,hrow2⟩,by rw[<- hu2,Below.heap_alloc w1 _ r hsz];exact hres,by rw[<- hu2];exact B1.trans (dX.of_below ((Below.refl _ _).alloc (Nat.le_refl _) _)),hcw,by omega,hwr.out⟩
 clear hrow2 hu2 hg R1 B1 hres hsz H0 hwr hcw
 obtain⟨l,kc,kf,oD,oF,mW,oG⟩:=S.out.facts
 cases b
 ·obtain⟨i,hi1,hi2,hi3⟩:∃ i:Nat,((k:Int).tmod 5)=(i:Int)/\((k:Int) % 5)=(i:Int)/\i<5:=jS k 5 (by decide)
  have hi4:(i:Int)<5:=(by omega)
  obtain⟨j,hj1,hj2,Ta⟩:∃ i:Nat,((k:Int).tmod 3)=(i:Int)/\((k:Int) % 3)=(i:Int)/\i<3:=jS k 3 (by decide)
  have C8:(j:Int)<3:=(by omega)
  have tb5:∀ (a0 a1 a2 a3 a4:Int) (hh:i < [Value.int .i64 a0,Value.int .i64 a1,Value.int .i64 a2,Value.int .i64 a3,Value.int .i64 a4].length),([Value.int .i64 a0,Value.int .i64 a1,Value.int .i64 a2,Value.int .i64 a3,Value.int .i64 a4]:List Value)[i]'hh=.int .i64 ([a0,a1,a2,a3,a4].getD i 0):=fun a0 a1 a2 a3 a4 hh=>uK [a0,a1,a2,a3,a4] i hh
  have C9:∀ (a0 a1 a2:Int) (hh:j < [Value.int .i64 a0,Value.int .i64 a1,Value.int .i64 a2].length),([Value.int .i64 a0,Value.int .i64 a1,Value.int .i64 a2]:List Value)[j]'hh=.int .i64 ([a0,a1,a2].getD j 0):=fun a0 a1 a2 hh=>uK [a0,a1,a2] j hh
  go_upto_region 5 with fail
  refine uE fun y hy=>?_
  replace S:Hid (aN w c r g y):=by show aN w c r g y;rw[hy];exact (by repeat (first | exact S.out | refine aN.set ?_ _ (by decide) _ | refine aN.jM ?_ _ hsz | refine aN.alloc ?_ _))
  clear hy
  clear kc kf oD oF mW oG
  obtain⟨l,kc,kf,oD,oF,mW,oG⟩:=S.out.facts
  go_upto_region 6 with fail
  refine uE fun y hy=>?_
  replace S:Hid (aN w c r g y):=by show aN w c r g y;rw[hy];exact (by repeat (first | exact S.out | refine aN.set ?_ _ (by decide) _ | refine aN.jM ?_ _ hsz | refine aN.alloc ?_ _))
  clear hy
  clear kc kf oD oF mW oG
  obtain⟨l,kc,kf,oD,oF,mW,oG⟩:=S.out.facts
  go_wp2_with (first | (go_at_call 18;refine (bX _ c (aN.rd (w:=w) (r:=r) (g:=g) (by repeat (first | exact S.out | refine aN.set ?_ _ (by decide) _ | refine aN.jM ?_ _ hsz | refine aN.alloc ?_ _)))).mono ?_;rintro e y ⟨m,rfl,hm,R,O⟩; replace S:Hid (aN w c r g y):=aN.only (by repeat (first | exact S.out | refine aN.set ?_ _ (by decide) _ | refine aN.jM ?_ _ hsz | refine aN.alloc ?_ _)) R O;clear R O;clear kc kf oD oF mW oG;obtain⟨l,kc,kf,oD,oF,mW,oG⟩:=S.out.facts) | (go_at_call 122;refine (rG _ c (aN.rd (w:=w) (r:=r) (g:=g) (by repeat (first | exact S.out | refine aN.set ?_ _ (by decide) _ | refine aN.jM ?_ _ hsz | refine aN.alloc ?_ _)))).mono ?_;rintro e y ⟨s,rfl,hsz,R,O⟩; replace S:Hid (aN w c r g y):=aN.only (by repeat (first | exact S.out | refine aN.set ?_ _ (by decide) _ | refine aN.jM ?_ _ hsz | refine aN.alloc ?_ _)) R O;clear R O;clear kc kf oD oF mW oG;obtain⟨l,kc,kf,oD,oF,mW,oG⟩:=S.out.facts) | (refine jN 51 _ rfl fun z hz=>?_;have SZ:Hid (aN w c r g z):=(by show aN w c r g z;rw[hz];exact (by repeat (first | exact S.out | refine aN.set ?_ _ (by decide) _ | refine aN.jM ?_ _ hsz | refine aN.alloc ?_ _)));obtain⟨lz,hlz,hrz⟩:=SZ.out.row;refine wpList_load_row rfl 51 _ rfl g ?hx 51 #[.int .i64 lz.k,.int .i64 lz.op,.int .i64 lz.rd,.int .i64 lz.r1,.int .i64 lz.r2,.int .i64 lz.im,.string lz.s,.int .i64 lz.n] (0,0) _ ?hg Tryz.underlying51 ?hd ?hi ?_; (case hx=>rfl); (case hg=>exact hrz); (case hd=>rfl); (case hi=>kernel_rfl);clear hz S;clear kc kf oD oF mW oG) | (refine wpList_store_row rfl 51 _ _ rfl r #[.int .i64 lz.k,.int .i64 lz.op,.int .i64 lz.rd,.int .i64 lz.r1,.int .i64 lz.r2,.int .i64 lz.im,.string lz.s,.int .i64 lz.n] ?hx ?hy 51 #[.int .i64 0,.int .i64 0,.int .i64 0,.int .i64 0,.int .i64 0,.int .i64 0,.string ⟨#[]⟩,.int .i64 0] ?hg ?hi ?ho ?h1 ?_; (case hx=>rfl); (case hy=>rfl); (case hg=>exact SZ.out.res); (case hi=>kernel_rfl); (case ho=>kernel_rfl); (case h1=>kernel_rfl);refine Hid.out ?_))
  all_goals
   unfold Hid
   go_wp2
   exact bodyPost_ret (v:=.agg #[.int .i64 lz.k,.int .i64 lz.op,.int .i64 lz.rd,.int .i64 lz.r1,.int .i64 lz.r2,.int .i64 lz.im,.string lz.s,.int .i64 lz.n]) (results_cell_row Tryz.results96 _ _ r 51 #[.int .i64 lz.k,.int .i64 lz.op,.int .i64 lz.rd,.int .i64 lz.r1,.int .i64 lz.r2,.int .i64 lz.im,.string lz.s,.int .i64 lz.n] (0,0) _ rfl (setRow_heap _ _ _ _ 51 _ SZ.out.res) Tryz.underlying51 rfl (by kernel_rfl)) rfl ⟨lz,hlz,rfl,SZ.out.rd.kL SZ.out.cr SZ.out.rg _,SZ.out.gP.low (jI (Below.refl _ _) SZ.out.wr _)⟩
 ·obtain⟨kk,Q9,R5,Tc⟩:∃ i:Nat,((k:Int).tmod 8)=(i:Int)/\((k:Int) % 8)=(i:Int)/\i<8:=jS k 8 (by decide)
  have Td:(kk:Int)<8:=(by omega)
  rcases (show kk<3\/kk=3\/kk=4\/kk=5\/6<=kk by omega) with q | rfl | rfl | rfl | q
  ·have hlt:(kk:Int)<3:=by omega
   clear Tc Td
   go_upto_region 15 with (first | (go_at_call 18;refine (bX _ c (aN.rd (w:=w) (r:=r) (g:=g) (by repeat (first | exact S.out | refine aN.set ?_ _ (by decide) _ | refine aN.jM ?_ _ hsz | refine aN.alloc ?_ _)))).mono ?_;rintro e y ⟨m,rfl,hm,R,O⟩; replace S:Hid (aN w c r g y):=aN.only (by repeat (first | exact S.out | refine aN.set ?_ _ (by decide) _ | refine aN.jM ?_ _ hsz | refine aN.alloc ?_ _)) R O;clear R O;clear kc kf oD oF mW oG;obtain⟨l,kc,kf,oD,oF,mW,oG⟩:=S.out.facts) | (go_at_call 123;refine (NP _ c (aN.rd (w:=w) (r:=r) (g:=g) (by repeat (first | exact S.out | refine aN.set ?_ _ (by decide) _ | refine aN.jM ?_ _ hsz | refine aN.alloc ?_ _)))).mono ?_;rintro e y ⟨xo,xd,x1,x2,xm,rfl,R,O⟩; replace S:Hid (aN w c r g y):=aN.only (by repeat (first | exact S.out | refine aN.set ?_ _ (by decide) _ | refine aN.jM ?_ _ hsz | refine aN.alloc ?_ _)) R O;clear R O;clear kc kf oD oF mW oG;obtain⟨l,kc,kf,oD,oF,mW,oG⟩:=S.out.facts))
   refine uE fun y hy=>?_
   replace S:Hid (aN w c r g y):=by show aN w c r g y;rw[hy];exact (by repeat (first | exact S.out | refine aN.set ?_ _ (by decide) _ | refine aN.jM ?_ _ hsz | refine aN.alloc ?_ _))
   clear hy
   clear kc kf oD oF mW oG
   obtain⟨l,kc,kf,oD,oF,mW,oG⟩:=S.out.facts
   go_wp2_with (first | (go_at_call 60;refine (QW _ _).mono ?_;rintro e y ⟨xf,rfl,hy⟩; rw[hy];clear hy y) | (go_at_call 122;refine (rG _ c (aN.rd (w:=w) (r:=r) (g:=g) (by repeat (first | exact S.out | refine aN.set ?_ _ (by decide) _ | refine aN.jM ?_ _ hsz | refine aN.alloc ?_ _)))).mono ?_;rintro e y ⟨s,rfl,hsz,R,O⟩; replace S:Hid (aN w c r g y):=aN.only (by repeat (first | exact S.out | refine aN.set ?_ _ (by decide) _ | refine aN.jM ?_ _ hsz | refine aN.alloc ?_ _)) R O;clear R O;clear kc kf oD oF mW oG;obtain⟨l,kc,kf,oD,oF,mW,oG⟩:=S.out.facts) | (refine jN 51 _ rfl fun z hz=>?_;have SZ:Hid (aN w c r g z):=(by show aN w c r g z;rw[hz];exact (by repeat (first | exact S.out | refine aN.set ?_ _ (by decide) _ | refine aN.jM ?_ _ hsz | refine aN.alloc ?_ _)));obtain⟨lz,hlz,hrz⟩:=SZ.out.row;refine wpList_load_row rfl 51 _ rfl g ?hx 51 #[.int .i64 lz.k,.int .i64 lz.op,.int .i64 lz.rd,.int .i64 lz.r1,.int .i64 lz.r2,.int .i64 lz.im,.string lz.s,.int .i64 lz.n] (0,0) _ ?hg Tryz.underlying51 ?hd ?hi ?_; (case hx=>rfl); (case hg=>exact hrz); (case hd=>rfl); (case hi=>kernel_rfl);clear hz S;clear kc kf oD oF mW oG) | (refine wpList_store_row rfl 51 _ _ rfl r #[.int .i64 lz.k,.int .i64 lz.op,.int .i64 lz.rd,.int .i64 lz.r1,.int .i64 lz.r2,.int .i64 lz.im,.string lz.s,.int .i64 lz.n] ?hx ?hy 51 #[.int .i64 0,.int .i64 0,.int .i64 0,.int .i64 0,.int .i64 0,.int .i64 0,.string ⟨#[]⟩,.int .i64 0] ?hg ?hi ?ho ?h1 ?_; (case hx=>rfl); (case hy=>rfl); (case hg=>exact SZ.out.res); (case hi=>kernel_rfl); (case ho=>kernel_rfl); (case h1=>kernel_rfl);refine Hid.out ?_))
   all_goals
    unfold Hid
    go_wp2
    exact bodyPost_ret (v:=.agg #[.int .i64 lz.k,.int .i64 lz.op,.int .i64 lz.rd,.int .i64 lz.r1,.int .i64 lz.r2,.int .i64 lz.im,.string lz.s,.int .i64 lz.n]) (results_cell_row Tryz.results96 _ _ r 51 #[.int .i64 lz.k,.int .i64 lz.op,.int .i64 lz.rd,.int .i64 lz.r1,.int .i64 lz.r2,.int .i64 lz.im,.string lz.s,.int .i64 lz.n] (0,0) _ rfl (setRow_heap _ _ _ _ 51 _ SZ.out.res) Tryz.underlying51 rfl (by kernel_rfl)) rfl ⟨lz,hlz,rfl,SZ.out.rd.kL SZ.out.cr SZ.out.rg _,SZ.out.gP.low (jI (Below.refl _ _) SZ.out.wr _)⟩
  ·go_upto_region 22 with (go_at_call 18;refine (bX _ c (aN.rd (w:=w) (r:=r) (g:=g) (by repeat (first | exact S.out | refine aN.set ?_ _ (by decide) _ | refine aN.jM ?_ _ hsz | refine aN.alloc ?_ _)))).mono ?_;rintro e y ⟨m,rfl,hm,R,O⟩; replace S:Hid (aN w c r g y):=aN.only (by repeat (first | exact S.out | refine aN.set ?_ _ (by decide) _ | refine aN.jM ?_ _ hsz | refine aN.alloc ?_ _)) R O;clear R O;clear kc kf oD oF mW oG;obtain⟨l,kc,kf,oD,oF,mW,oG⟩:=S.out.facts)
   refine uE fun y0 hy=>?_
   replace S:Hid (aN w c r g y0):=by show aN w c r g y0;rw[hy];exact (by repeat (first | exact S.out | refine aN.set ?_ _ (by decide) _ | refine aN.jM ?_ _ hsz | refine aN.alloc ?_ _))
   clear hy
   clear kc kf oD oF mW oG
   obtain⟨l,kc,kf,oD,oF,mW,oG⟩:=S.out.facts
   go_wp2_with (first | (go_at_call 18;refine xX fun U hU=>?_;have SU:Hid (aN w c r g U):=(by show aN w c r g U;rw[hU];exact S.out.alloc _);have QU:∃ q:List Int,q.length=10/\U.heap[y0.heap.size]?=some (.cells (q.map (Value.int .i64)).toArray 3 (0,0)):=⟨[_,_,_,_,_,_,_,_,_,_],rfl,(by rw[hU];exact heap_alloc_new y0 _)⟩; have zU:y0.heap.size<U.heap.size/\c<y0.heap.size:=⟨(by rw[hU];simp),(by have:=S.out.cr;have:=S.out.rg;have:=S.out.lt;omega)⟩; clear hU;refine (bX _ c SU.out.rd).mono ?_;rintro e y ⟨m,rfl,hm,R,O⟩; replace S:Hid (aN w c r g y):=aN.only SU.out R O;obtain⟨D5,D6,D7,Ky⟩:∃ i:Nat,((m:Int).tmod 10)=(i:Int)/\((m:Int) % 10)=(i:Int)/\i<10:=jS m 10 (by decide);have D8:(D5:Int)<10:=(by omega);obtain⟨zz,hzz⟩:∃ z:Int,y.cell? ⟨y0.heap.size,D5,none⟩=some (.int .i64 z):=QV QU (O.block _ zU.1 (by omega)) Ky;clear R O SU QU zU;clear kc kf oD oF mW oG;obtain⟨l,kc,kf,oD,oF,mW,oG⟩:=S.out.facts) | (go_at_call 70;refine (kR _ _).mono ?_;rintro e y ⟨rfl,hy⟩; rw[hy];clear hy y) | (refine jN 51 _ rfl fun z hz=>?_;have SZ:Hid (aN w c r g z):=(by show aN w c r g z;rw[hz];exact (by repeat (first | exact S.out | refine aN.set ?_ _ (by decide) _ | refine aN.jM ?_ _ hsz | refine aN.alloc ?_ _)));obtain⟨lz,hlz,hrz⟩:=SZ.out.row;refine wpList_load_row rfl 51 _ rfl g ?hx 51 #[.int .i64 lz.k,.int .i64 lz.op,.int .i64 lz.rd,.int .i64 lz.r1,.int .i64 lz.r2,.int .i64 lz.im,.string lz.s,.int .i64 lz.n] (0,0) _ ?hg Tryz.underlying51 ?hd ?hi ?_; (case hx=>rfl); (case hg=>exact hrz); (case hd=>rfl); (case hi=>kernel_rfl);clear hz S;clear kc kf oD oF mW oG) | (refine wpList_store_row rfl 51 _ _ rfl r #[.int .i64 lz.k,.int .i64 lz.op,.int .i64 lz.rd,.int .i64 lz.r1,.int .i64 lz.r2,.int .i64 lz.im,.string lz.s,.int .i64 lz.n] ?hx ?hy 51 #[.int .i64 0,.int .i64 0,.int .i64 0,.int .i64 0,.int .i64 0,.int .i64 0,.string ⟨#[]⟩,.int .i64 0] ?hg ?hi ?ho ?h1 ?_; (case hx=>rfl); (case hy=>rfl); (case hg=>exact SZ.out.res); (case hi=>kernel_rfl); (case ho=>kernel_rfl); (case h1=>kernel_rfl);refine Hid.out ?_))
   all_goals
    unfold Hid
    go_wp2
    exact bodyPost_ret (v:=.agg #[.int .i64 lz.k,.int .i64 lz.op,.int .i64 lz.rd,.int .i64 lz.r1,.int .i64 lz.r2,.int .i64 lz.im,.string lz.s,.int .i64 lz.n]) (results_cell_row Tryz.results96 _ _ r 51 #[.int .i64 lz.k,.int .i64 lz.op,.int .i64 lz.rd,.int .i64 lz.r1,.int .i64 lz.r2,.int .i64 lz.im,.string lz.s,.int .i64 lz.n] (0,0) _ rfl (setRow_heap _ _ _ _ 51 _ SZ.out.res) Tryz.underlying51 rfl (by kernel_rfl)) rfl ⟨lz,hlz,rfl,SZ.out.rd.kL SZ.out.cr SZ.out.rg _,SZ.out.gP.low (jI (Below.refl _ _) SZ.out.wr _)⟩
  ·go_upto_region 25 with (go_at_call 18;refine (bX _ c (aN.rd (w:=w) (r:=r) (g:=g) (by repeat (first | exact S.out | refine aN.set ?_ _ (by decide) _ | refine aN.jM ?_ _ hsz | refine aN.alloc ?_ _)))).mono ?_;rintro e y ⟨m,rfl,hm,R,O⟩; replace S:Hid (aN w c r g y):=aN.only (by repeat (first | exact S.out | refine aN.set ?_ _ (by decide) _ | refine aN.jM ?_ _ hsz | refine aN.alloc ?_ _)) R O;clear R O;clear kc kf oD oF mW oG;obtain⟨l,kc,kf,oD,oF,mW,oG⟩:=S.out.facts)
   refine uE fun y hy=>?_
   replace S:Hid (aN w c r g y):=by show aN w c r g y;rw[hy];exact (by repeat (first | exact S.out | refine aN.set ?_ _ (by decide) _ | refine aN.jM ?_ _ hsz | refine aN.alloc ?_ _))
   clear hy
   clear kc kf oD oF mW oG
   obtain⟨l,kc,kf,oD,oF,mW,oG⟩:=S.out.facts
   go_wp2_with (first | (go_at_call 18;refine (bX _ c (aN.rd (w:=w) (r:=r) (g:=g) (by repeat (first | exact S.out | refine aN.set ?_ _ (by decide) _ | refine aN.jM ?_ _ hsz | refine aN.alloc ?_ _)))).mono ?_;rintro e y ⟨m,rfl,hm,R,O⟩; replace S:Hid (aN w c r g y):=aN.only (by repeat (first | exact S.out | refine aN.set ?_ _ (by decide) _ | refine aN.jM ?_ _ hsz | refine aN.alloc ?_ _)) R O;clear R O;clear kc kf oD oF mW oG;obtain⟨l,kc,kf,oD,oF,mW,oG⟩:=S.out.facts) | (go_at_call 122;refine (rG _ c (aN.rd (w:=w) (r:=r) (g:=g) (by repeat (first | exact S.out | refine aN.set ?_ _ (by decide) _ | refine aN.jM ?_ _ hsz | refine aN.alloc ?_ _)))).mono ?_;rintro e y ⟨s,rfl,hsz,R,O⟩; replace S:Hid (aN w c r g y):=aN.only (by repeat (first | exact S.out | refine aN.set ?_ _ (by decide) _ | refine aN.jM ?_ _ hsz | refine aN.alloc ?_ _)) R O;clear R O;clear kc kf oD oF mW oG;obtain⟨l,kc,kf,oD,oF,mW,oG⟩:=S.out.facts) | (refine jN 51 _ rfl fun z hz=>?_;have SZ:Hid (aN w c r g z):=(by show aN w c r g z;rw[hz];exact (by repeat (first | exact S.out | refine aN.set ?_ _ (by decide) _ | refine aN.jM ?_ _ hsz | refine aN.alloc ?_ _)));obtain⟨lz,hlz,hrz⟩:=SZ.out.row;refine wpList_load_row rfl 51 _ rfl g ?hx 51 #[.int .i64 lz.k,.int .i64 lz.op,.int .i64 lz.rd,.int .i64 lz.r1,.int .i64 lz.r2,.int .i64 lz.im,.string lz.s,.int .i64 lz.n] (0,0) _ ?hg Tryz.underlying51 ?hd ?hi ?_; (case hx=>rfl); (case hg=>exact hrz); (case hd=>rfl); (case hi=>kernel_rfl);clear hz S;clear kc kf oD oF mW oG) | (refine wpList_store_row rfl 51 _ _ rfl r #[.int .i64 lz.k,.int .i64 lz.op,.int .i64 lz.rd,.int .i64 lz.r1,.int .i64 lz.r2,.int .i64 lz.im,.string lz.s,.int .i64 lz.n] ?hx ?hy 51 #[.int .i64 0,.int .i64 0,.int .i64 0,.int .i64 0,.int .i64 0,.int .i64 0,.string ⟨#[]⟩,.int .i64 0] ?hg ?hi ?ho ?h1 ?_; (case hx=>rfl); (case hy=>rfl); (case hg=>exact SZ.out.res); (case hi=>kernel_rfl); (case ho=>kernel_rfl); (case h1=>kernel_rfl);refine Hid.out ?_))
   all_goals
    unfold Hid
    go_wp2
    exact bodyPost_ret (v:=.agg #[.int .i64 lz.k,.int .i64 lz.op,.int .i64 lz.rd,.int .i64 lz.r1,.int .i64 lz.r2,.int .i64 lz.im,.string lz.s,.int .i64 lz.n]) (results_cell_row Tryz.results96 _ _ r 51 #[.int .i64 lz.k,.int .i64 lz.op,.int .i64 lz.rd,.int .i64 lz.r1,.int .i64 lz.r2,.int .i64 lz.im,.string lz.s,.int .i64 lz.n] (0,0) _ rfl (setRow_heap _ _ _ _ 51 _ SZ.out.res) Tryz.underlying51 rfl (by kernel_rfl)) rfl ⟨lz,hlz,rfl,SZ.out.rd.kL SZ.out.cr SZ.out.rg _,SZ.out.gP.low (jI (Below.refl _ _) SZ.out.wr _)⟩
  ·go_upto_region 29 with (go_at_call 18;refine (bX _ c (aN.rd (w:=w) (r:=r) (g:=g) (by repeat (first | exact S.out | refine aN.set ?_ _ (by decide) _ | refine aN.jM ?_ _ hsz | refine aN.alloc ?_ _)))).mono ?_;rintro e y ⟨m,rfl,hm,R,O⟩; replace S:Hid (aN w c r g y):=aN.only (by repeat (first | exact S.out | refine aN.set ?_ _ (by decide) _ | refine aN.jM ?_ _ hsz | refine aN.alloc ?_ _)) R O;clear R O;clear kc kf oD oF mW oG;obtain⟨l,kc,kf,oD,oF,mW,oG⟩:=S.out.facts)
   refine uE fun y hy=>?_
   replace S:Hid (aN w c r g y):=by show aN w c r g y;rw[hy];exact (by repeat (first | exact S.out | refine aN.set ?_ _ (by decide) _ | refine aN.jM ?_ _ hsz | refine aN.alloc ?_ _))
   clear hy
   clear kc kf oD oF mW oG
   obtain⟨l,kc,kf,oD,oF,mW,oG⟩:=S.out.facts
   go_wp2_with (first | (go_at_call 18;refine (bX _ c (aN.rd (w:=w) (r:=r) (g:=g) (by repeat (first | exact S.out | refine aN.set ?_ _ (by decide) _ | refine aN.jM ?_ _ hsz | refine aN.alloc ?_ _)))).mono ?_;rintro e y ⟨m,rfl,hm,R,O⟩; replace S:Hid (aN w c r g y):=aN.only (by repeat (first | exact S.out | refine aN.set ?_ _ (by decide) _ | refine aN.jM ?_ _ hsz | refine aN.alloc ?_ _)) R O;clear R O;clear kc kf oD oF mW oG;obtain⟨l,kc,kf,oD,oF,mW,oG⟩:=S.out.facts) | (refine jN 51 _ rfl fun z hz=>?_;have SZ:Hid (aN w c r g z):=(by show aN w c r g z;rw[hz];exact (by repeat (first | exact S.out | refine aN.set ?_ _ (by decide) _ | refine aN.jM ?_ _ hsz | refine aN.alloc ?_ _)));obtain⟨lz,hlz,hrz⟩:=SZ.out.row;refine wpList_load_row rfl 51 _ rfl g ?hx 51 #[.int .i64 lz.k,.int .i64 lz.op,.int .i64 lz.rd,.int .i64 lz.r1,.int .i64 lz.r2,.int .i64 lz.im,.string lz.s,.int .i64 lz.n] (0,0) _ ?hg Tryz.underlying51 ?hd ?hi ?_; (case hx=>rfl); (case hg=>exact hrz); (case hd=>rfl); (case hi=>kernel_rfl);clear hz S;clear kc kf oD oF mW oG) | (refine wpList_store_row rfl 51 _ _ rfl r #[.int .i64 lz.k,.int .i64 lz.op,.int .i64 lz.rd,.int .i64 lz.r1,.int .i64 lz.r2,.int .i64 lz.im,.string lz.s,.int .i64 lz.n] ?hx ?hy 51 #[.int .i64 0,.int .i64 0,.int .i64 0,.int .i64 0,.int .i64 0,.int .i64 0,.string ⟨#[]⟩,.int .i64 0] ?hg ?hi ?ho ?h1 ?_; (case hx=>rfl); (case hy=>rfl); (case hg=>exact SZ.out.res); (case hi=>kernel_rfl); (case ho=>kernel_rfl); (case h1=>kernel_rfl);refine Hid.out ?_))
   all_goals
    unfold Hid
    go_wp2
    exact bodyPost_ret (v:=.agg #[.int .i64 lz.k,.int .i64 lz.op,.int .i64 lz.rd,.int .i64 lz.r1,.int .i64 lz.r2,.int .i64 lz.im,.string lz.s,.int .i64 lz.n]) (results_cell_row Tryz.results96 _ _ r 51 #[.int .i64 lz.k,.int .i64 lz.op,.int .i64 lz.rd,.int .i64 lz.r1,.int .i64 lz.r2,.int .i64 lz.im,.string lz.s,.int .i64 lz.n] (0,0) _ rfl (setRow_heap _ _ _ _ 51 _ SZ.out.res) Tryz.underlying51 rfl (by kernel_rfl)) rfl ⟨lz,hlz,rfl,SZ.out.rd.kL SZ.out.cr SZ.out.rg _,SZ.out.gP.low (jI (Below.refl _ _) SZ.out.wr _)⟩
  ·have n3:¬ (kk:Int)<3:=by omega
   have n4:¬ (kk:Int)=3:=by omega
   have n5:¬ (kk:Int)=4:=by omega
   have n6:¬ (kk:Int)=5:=by omega
   obtain⟨j,hj1,hj2,Ta,C8,R6⟩:∃ i:Nat,((k:Int).tdiv 8).tmod 3=(i:Int)/\((k:Int) / 8 % 3)=(i:Int)/\(((k:Int) / 8).tmod 3)=(i:Int)/\(((k:Int).tdiv 8) % 3)=(i:Int)/\i<3:=by
    have e:(k:Int).tdiv 8=((k / 8:Nat):Int):=by rw[Int.tdiv_eq_ediv_of_nonneg (by omega)];omega
    have e2:(k:Int) / 8=((k / 8:Nat):Int):=by omega
    rw[e,e2]
    obtain⟨i,q1,q2,q3⟩:=jS (k / 8) 3 (by decide)
    exact⟨i,q1,q2,q1,q2,q3⟩
   have R7:(j:Int)<3:=by omega
   have C9:∀ (a0 a1 a2:Int) (hh:j < [Value.int .i64 a0,Value.int .i64 a1,Value.int .i64 a2].length),([Value.int .i64 a0,Value.int .i64 a1,Value.int .i64 a2]:List Value)[j]'hh=.int .i64 ([a0,a1,a2].getD j 0):=fun a0 a1 a2 hh=>uK [a0,a1,a2] j hh
   go_upto_region 30 with (go_at_call 18;refine (bX _ c (aN.rd (w:=w) (r:=r) (g:=g) (by repeat (first | exact S.out | refine aN.set ?_ _ (by decide) _ | refine aN.jM ?_ _ hsz | refine aN.alloc ?_ _)))).mono ?_;rintro e y ⟨m,rfl,hm,R,O⟩; replace S:Hid (aN w c r g y):=aN.only (by repeat (first | exact S.out | refine aN.set ?_ _ (by decide) _ | refine aN.jM ?_ _ hsz | refine aN.alloc ?_ _)) R O;clear R O;clear kc kf oD oF mW oG;obtain⟨l,kc,kf,oD,oF,mW,oG⟩:=S.out.facts)
   refine uE fun y hy=>?_
   replace S:Hid (aN w c r g y):=by show aN w c r g y;rw[hy];exact (by repeat (first | exact S.out | refine aN.set ?_ _ (by decide) _ | refine aN.jM ?_ _ hsz | refine aN.alloc ?_ _))
   clear hy
   clear kc kf oD oF mW oG
   obtain⟨l,kc,kf,oD,oF,mW,oG⟩:=S.out.facts
   go_upto_region 31 with fail
   refine uE fun y hy=>?_
   replace S:Hid (aN w c r g y):=by show aN w c r g y;rw[hy];exact (by repeat (first | exact S.out | refine aN.set ?_ _ (by decide) _ | refine aN.jM ?_ _ hsz | refine aN.alloc ?_ _))
   clear hy
   clear kc kf oD oF mW oG
   obtain⟨l,kc,kf,oD,oF,mW,oG⟩:=S.out.facts
   go_upto_region 32 with fail
   refine uE fun y hy=>?_
   replace S:Hid (aN w c r g y):=by show aN w c r g y;rw[hy];exact (by repeat (first | exact S.out | refine aN.set ?_ _ (by decide) _ | refine aN.jM ?_ _ hsz | refine aN.alloc ?_ _))
   clear hy
   clear kc kf oD oF mW oG
   obtain⟨l,kc,kf,oD,oF,mW,oG⟩:=S.out.facts
   go_wp2_with (first | (go_at_call 122;refine (rG _ c (aN.rd (w:=w) (r:=r) (g:=g) (by repeat (first | exact S.out | refine aN.set ?_ _ (by decide) _ | refine aN.jM ?_ _ hsz | refine aN.alloc ?_ _)))).mono ?_;rintro e y ⟨s,rfl,hsz,R,O⟩; replace S:Hid (aN w c r g y):=aN.only (by repeat (first | exact S.out | refine aN.set ?_ _ (by decide) _ | refine aN.jM ?_ _ hsz | refine aN.alloc ?_ _)) R O;clear R O;clear kc kf oD oF mW oG;obtain⟨l,kc,kf,oD,oF,mW,oG⟩:=S.out.facts) | (refine jN 51 _ rfl fun z hz=>?_;have SZ:Hid (aN w c r g z):=(by show aN w c r g z;rw[hz];exact (by repeat (first | exact S.out | refine aN.set ?_ _ (by decide) _ | refine aN.jM ?_ _ hsz | refine aN.alloc ?_ _)));obtain⟨lz,hlz,hrz⟩:=SZ.out.row;refine wpList_load_row rfl 51 _ rfl g ?hx 51 #[.int .i64 lz.k,.int .i64 lz.op,.int .i64 lz.rd,.int .i64 lz.r1,.int .i64 lz.r2,.int .i64 lz.im,.string lz.s,.int .i64 lz.n] (0,0) _ ?hg Tryz.underlying51 ?hd ?hi ?_; (case hx=>rfl); (case hg=>exact hrz); (case hd=>rfl); (case hi=>kernel_rfl);clear hz S;clear kc kf oD oF mW oG) | (refine wpList_store_row rfl 51 _ _ rfl r #[.int .i64 lz.k,.int .i64 lz.op,.int .i64 lz.rd,.int .i64 lz.r1,.int .i64 lz.r2,.int .i64 lz.im,.string lz.s,.int .i64 lz.n] ?hx ?hy 51 #[.int .i64 0,.int .i64 0,.int .i64 0,.int .i64 0,.int .i64 0,.int .i64 0,.string ⟨#[]⟩,.int .i64 0] ?hg ?hi ?ho ?h1 ?_; (case hx=>rfl); (case hy=>rfl); (case hg=>exact SZ.out.res); (case hi=>kernel_rfl); (case ho=>kernel_rfl); (case h1=>kernel_rfl);refine Hid.out ?_))
   all_goals
    unfold Hid
    go_wp2
    exact bodyPost_ret (v:=.agg #[.int .i64 lz.k,.int .i64 lz.op,.int .i64 lz.rd,.int .i64 lz.r1,.int .i64 lz.r2,.int .i64 lz.im,.string lz.s,.int .i64 lz.n]) (results_cell_row Tryz.results96 _ _ r 51 #[.int .i64 lz.k,.int .i64 lz.op,.int .i64 lz.rd,.int .i64 lz.r1,.int .i64 lz.r2,.int .i64 lz.im,.string lz.s,.int .i64 lz.n] (0,0) _ rfl (setRow_heap _ _ _ _ 51 _ SZ.out.res) Tryz.underlying51 rfl (by kernel_rfl)) rfl ⟨lz,hlz,rfl,SZ.out.rd.kL SZ.out.cr SZ.out.rg _,SZ.out.gP.low (jI (Below.refl _ _) SZ.out.wr _)⟩
def uV (n:Nat) (cs:List Value):Prop:=∀ i,i<n->∃ l:Pl.Ln,l.s.size<=100/\∀ j,j<8->cs[i*8+j]?=l.cells[j]?
theorem uV.one (l:Pl.Ln) (h:l.s.size<=100):uV 1 l.cells.toList:=by
 intro i hi
 have:i=0:=by omega
 subst this
 exact⟨l,h,fun j hj=>by simp⟩
theorem uV.app {n m:Nat} {cs ds:List Value} (h:uV n cs) (k:uV m ds) (hl:cs.length=n*8):uV (n+m) (cs ++ ds):=by
 intro i hi
 by_cases q:i<n
 ·obtain⟨l,hs,hc⟩:=h i q
  exact⟨l,hs,fun j hj=>by rw[List.getElem?_append_left (by omega)];exact hc j hj⟩
 ·obtain⟨l,hs,hc⟩:=k (i-n) (by omega)
  refine⟨l,hs,fun j hj=>?_⟩
  rw[List.getElem?_append_right (by omega),hl,<- hc j hj]
  congr 1
  omega
theorem uV.cell {n:Nat} {cs:List Value} (h:uV n cs) (hl:cs.length=n*8):∀ u∈cs,u.oneCell'=true:=by
 intro u hu
 obtain⟨k,hk,rfl⟩:=List.getElem_of_mem hu
 obtain⟨l,_,hc⟩:=h (k / 8) (by omega)
 have e:=hc (k % 8) (by omega)
 rw[show k / 8*8+k % 8=k by omega,List.getElem?_eq_getElem hk]at e
 have h8:k % 8<8:=by omega
 unfold Pl.Ln.cells at e
 rcases (show k % 8=0\/k % 8=1\/k % 8=2\/k % 8=3\/k % 8=4\/k % 8=5\/k % 8=6\/k % 8=7 by omega) with q | q | q | q | q | q | q | q <;> (rw[q]at e;simp at e;rw[e];rfl)
theorem uV.take {n p:Nat} {cs:List Value} (h:uV n cs) (hp:p<=n):uV p (cs.take (p*8)):=by
 intro i hi
 obtain⟨l,hs,hc⟩:=h i (by omega)
 exact⟨l,hs,fun j hj=>by rw[List.getElem?_take_of_lt (by omega)];exact hc j hj⟩
theorem uV.set {n:Nat} {cs:List Value} (h:uV n cs) (hl:cs.length=n*8) (p j:Nat) (x:Value) (hj:j<8) (hx:(∃ z:Int,x=.int .i64 z/\j≠6)\/(∃ s:ByteArray,x=.string s/\s.size<=100/\j=6)):uV n (cs.set (p*8+j) x):=by
 intro i hi
 obtain⟨l,hs,hc⟩:=h i hi
 by_cases q:i=p
 ·subst q
  have key:∀ (l':Pl.Ln),l'.s.size<=100->(∀ j',j'<8->j'≠j->l'.cells[j']?=l.cells[j']?)->l'.cells[j]?=some x->∃ l:Pl.Ln,l.s.size<=100/\∀ j',j'<8->(cs.set (i*8+j) x)[i*8+j']?=l.cells[j']?:=by
   intro l' h1 h2 h3
   refine⟨l',h1,fun j' hj'=>?_⟩
   by_cases e:j'=j
   ·subst e;rw[List.getElem?_set_self (by omega),h3]
   ·rw[List.getElem?_set_ne (by omega),h2 j' hj' e];exact hc j' hj'
  rcases hx with ⟨z,rfl,hne⟩ | ⟨s,rfl,hsz,rfl⟩
  ·rcases (show j=0\/j=1\/j=2\/j=3\/j=4\/j=5\/j=7 by omega) with rfl | rfl | rfl | rfl | rfl | rfl | rfl
   ·exact key ⟨z,l.op,l.rd,l.r1,l.r2,l.im,l.s,l.n⟩ hs (fun j' h1 h2=>by rcases (show j'=0\/j'=1\/j'=2\/j'=3\/j'=4\/j'=5\/j'=6\/j'=7 by omega) with rfl | rfl | rfl | rfl | rfl | rfl | rfl | rfl <;> first | rfl | exact absurd rfl h2) rfl
   ·exact key ⟨l.k,z,l.rd,l.r1,l.r2,l.im,l.s,l.n⟩ hs (fun j' h1 h2=>by rcases (show j'=0\/j'=1\/j'=2\/j'=3\/j'=4\/j'=5\/j'=6\/j'=7 by omega) with rfl | rfl | rfl | rfl | rfl | rfl | rfl | rfl <;> first | rfl | exact absurd rfl h2) rfl
   ·exact key ⟨l.k,l.op,z,l.r1,l.r2,l.im,l.s,l.n⟩ hs (fun j' h1 h2=>by rcases (show j'=0\/j'=1\/j'=2\/j'=3\/j'=4\/j'=5\/j'=6\/j'=7 by omega) with rfl | rfl | rfl | rfl | rfl | rfl | rfl | rfl <;> first | rfl | exact absurd rfl h2) rfl
   ·exact key ⟨l.k,l.op,l.rd,z,l.r2,l.im,l.s,l.n⟩ hs (fun j' h1 h2=>by rcases (show j'=0\/j'=1\/j'=2\/j'=3\/j'=4\/j'=5\/j'=6\/j'=7 by omega) with rfl | rfl | rfl | rfl | rfl | rfl | rfl | rfl <;> first | rfl | exact absurd rfl h2) rfl
   ·exact key ⟨l.k,l.op,l.rd,l.r1,z,l.im,l.s,l.n⟩ hs (fun j' h1 h2=>by rcases (show j'=0\/j'=1\/j'=2\/j'=3\/j'=4\/j'=5\/j'=6\/j'=7 by omega) with rfl | rfl | rfl | rfl | rfl | rfl | rfl | rfl <;> first | rfl | exact absurd rfl h2) rfl
   ·exact key ⟨l.k,l.op,l.rd,l.r1,l.r2,z,l.s,l.n⟩ hs (fun j' h1 h2=>by rcases (show j'=0\/j'=1\/j'=2\/j'=3\/j'=4\/j'=5\/j'=6\/j'=7 by omega) with rfl | rfl | rfl | rfl | rfl | rfl | rfl | rfl <;> first | rfl | exact absurd rfl h2) rfl
   ·exact key ⟨l.k,l.op,l.rd,l.r1,l.r2,l.im,l.s,z⟩ hs (fun j' h1 h2=>by rcases (show j'=0\/j'=1\/j'=2\/j'=3\/j'=4\/j'=5\/j'=6\/j'=7 by omega) with rfl | rfl | rfl | rfl | rfl | rfl | rfl | rfl <;> first | rfl | exact absurd rfl h2) rfl
  ·exact key ⟨l.k,l.op,l.rd,l.r1,l.r2,l.im,s,l.n⟩ hsz (fun j' h1 h2=>by rcases (show j'=0\/j'=1\/j'=2\/j'=3\/j'=4\/j'=5\/j'=6\/j'=7 by omega) with rfl | rfl | rfl | rfl | rfl | rfl | rfl | rfl <;> first | rfl | exact absurd rfl h2) rfl
 ·exact⟨l,hs,fun j' hj'=>by rw[List.getElem?_set_ne (by omega)];exact hc j' hj'⟩
theorem QX {n:Nat} {cs:List Value} (h:uV n cs):∃ xs:List Pl.Ln,xs.length=n/\(∀ x∈xs,x.s.size<=100)/\∀ i,i<n->∀ j,j<8->cs[i*8+j]?=(xs.getD i Pl.Ln.zero).cells[j]?:=by
 refine⟨(List.range n).map fun i=>if q:i<n then Classical.choose (h i q) else Pl.Ln.zero,by simp,?_,?_⟩
 ·intro x hx
  obtain⟨i,hi,rfl⟩:=List.mem_map.1 hx
  have hi':i<n:=List.mem_range.1 hi
  simp only[dif_pos hi']
  exact (Classical.choose_spec (h i hi')).1
 ·intro i hi j hj
  rw[List.getD_eq_getElem?_getD,List.getElem?_map,List.getElem?_range hi]
  simp only[Option.map_some,Option.getD_some,dif_pos hi]
  exact (Classical.choose_spec (h i hi)).2 j hj
structure gF (w:World) (c:Nat) (v:Value) (n:Nat) (u:World):Prop where
 own:∃ cs,u.ownsRow w.heap.size 51 8 v n cs/\uV n cs
 rd:iE u c
 gP:dX c w u
 hc:c<w.heap.size
theorem NQ {B:Nat} {e:TypeId} {k:Nat} {v:Value} {n:Nat} {xs:List Value} {w w':World} (h:w.ownsRow B e k v n xs) (hb:∀ g,v.ownBlock=some g->w'.heap[g]?=w.heap[g]?):w'.ownsRow B e k v n xs:=by
 refine⟨h.1,?_⟩
 rcases h.2 with ⟨a,b⟩ | ⟨g,cap,cur,h0,hlo,hg,r⟩
 ·exact .inl ⟨a,b⟩
 ·exact .inr ⟨g,cap,cur,h0,hlo,(hb g (by rw[h0];rfl)).trans hg,r⟩
theorem gF.next {w:World} {c:Nat} {v:Value} {n:Nat} {u u':World} (h:gF w c v n u) (hr:iE u' c) (ho:dX c u u'):gF w c v n u':=by
 obtain⟨cs,h1,h2⟩:=h.own
 have hc:=h.hc
 exact⟨⟨cs,NQ h1 fun g hg=>ho.block g (h1.lt g hg).2 (by have:=(h1.lt g hg).1;omega),h2⟩,hr,h.gP.trans ho,hc⟩
theorem gF.alloc {w:World} {c:Nat} {v:Value} {n:Nat} {u:World} (h:gF w c v n u) (o:Obj):gF w c v n (u.alloc o):=h.next (h.rd.alloc o) (dX.of_below (aB u o))
theorem gF.made {w:World} {c:Nat} {u:World} (hr:iE u c) (hb:dX c w u) (hc:c<w.heap.size):gF w c (.slice (some ⟨u.heap.size,0,none⟩) 0 0) 0 (u.alloc (.cells #[] 51)):=
 ⟨⟨[],World.ownsRow_made u #[] 0 hb.size (Nat.zero_le _) rfl,fun i hi=>absurd hi (Nat.not_lt_zero _)⟩,hr.alloc _,hb.low (aB u _ |>.mono hb.size),hc⟩
theorem DN {c:Nat} {u u':World} {row:Option Nat} (h:iE u c) (hg:u.grownBy u' row) (hr:∀ k,row=some k->c<k):iE u' c:=by
 have hlt:=h.lt
 obtain⟨a,len,cap,p,hrow,h1,h2,h3⟩:=h
 have hne:∀ b,b<=c->some b≠row:=fun b hb e=>by have:=hr b e.symm;omega
 refine⟨a,len,cap,p,(hg.block c hlt (hne c (Nat.le_refl _))).trans hrow,h1,h2,?_⟩
 rcases h3 with h3 | ⟨b,off,ha,hbc,hc⟩
 ·exact .inl h3
 ·refine .inr ⟨b,off,ha,hbc,fun i hi=>?_⟩
  obtain⟨v,hv,hcell⟩:=hc i hi
  exact⟨v,hv,hg.cell hcell (hne b (by omega))⟩
theorem uL {ops:Array Oper} {rest:List Oper} {o:Oper} {a:Act} {Q:Exit->Act->World->Prop} {w u:World} {c n:Nat} {v:Value} (hgd:o.guard=none) (s x:Operand)
  (ho:o.op=.call { callee:=.builtin .append,args:=#[s,x],argTypes:=#[23,23] }) (S:gF w c v n u) (hs:a.eval s=v)
  (ad:Addr) (m cp:Nat) (news:List Value) (hx:a.eval x=.slice (some ad) m cp) (hl:news.length=m*8) (hnews:∀ j u',news[j]?=some u'->u.cell? (ad.add j)=some u') (hL:uV m news) (hn:n+m<=100000)
  (h:∀ v' u',gF w c v' (n+m) u'->u.grownBy u' v.ownBlock->wpList Tryz.prog ops Q rest (a.put o.dst v') u'):wpList Tryz.prog ops Q (o :: rest) a u:=by
 have hinfo:(Tryz.prog.info? 51).map (fun i=>(i.zero,i.size,i.bytes))=some (some (.agg #[.int .i64 0,.int .i64 0,.int .i64 0,.int .i64 0,.int .i64 0,.int .i64 0,.string ⟨#[]⟩,.int .i64 0]),8,72):=by kernel_rfl
 obtain⟨i0,hi0,hz0,hz1,hz2⟩:=info_parts hinfo
 obtain⟨cs,h1,h2⟩:=S.own
 refine wpList_append_own _ hgd s x 23 ho w.heap.size 51 i0 _ 8 72 Tryz.underlying23 hi0 hz0 hz1 hz2 rfl (by decide) v n cs hs h1 ad m cp news hx hl hnews (hL.cell hl) (by unfold maxLen;omega) (by omega) S.gP.size ?_
 intro v' u' ho' hg _
 have hblk:∀ q,v.ownBlock=some q->c<q:=fun q e=>by have:=(h1.lt q e).1;have:=S.hc;omega
 refine h v' u' ⟨⟨cs ++ news,ho',h2.app hL h1.1⟩,DN S.rd hg hblk,?_,S.hc⟩ hg
 refine⟨hg.os.trans S.gP.os,hg.tape.trans S.gP.tape,hg.output.trans S.gP.output,Nat.le_trans S.gP.size hg.size,fun b hb hne=>(hg.block b (Nat.lt_of_lt_of_le hb S.gP.size) (fun e=>?_)).trans (S.gP.block b hb hne)⟩
 have:=(h1.lt b e.symm).1
 omega
theorem dM {ops:Array Oper} {rest:List Oper} {o:Oper} {a:Act} {Q:Exit->Act->World->Prop} {w u:World} {c n:Nat} {v:Value} (l:Pl.Ln) (b:Nat) (hgd:o.guard=none) (s x:Operand)
  (ho:o.op=.call { callee:=.builtin .append,args:=#[s,x],argTypes:=#[23,23] }) (hs:a.eval s=v) (hx:a.eval x=.slice (some ⟨b,0,none⟩) 1 1) (hb:u.heap[b]?=some (.cells #[.int .i64 l.k,.int .i64 l.op,.int .i64 l.rd,.int .i64 l.r1,.int .i64 l.r2,.int .i64 l.im,.string l.s,.int .i64 l.n] 51)) (S:gF w c v n u) (hls:l.s.size<=100) (hn:n+1<=100000)
  (h:∀ v' u',gF w c v' (n+1) u'->u.grownBy u' v.ownBlock->wpList Tryz.prog ops Q rest (a.put o.dst v') u'):wpList Tryz.prog ops Q (o :: rest) a u:=by
 refine uL hgd s x ho S hs ⟨b,0,none⟩ 1 1 l.cells.toList hx rfl (fun j u' hj=>?_) (uV.one l hls) hn h
 have:=cell_of_row u b j _ 51 (0,0) hb
 rw[show (⟨b,0,none⟩:Addr).add j=⟨b,j,none⟩ by simp[Addr.add];exact fun q=>q.symm,this,<- hj,Array.getElem?_toList]
 rfl
theorem DR {ops:Array Oper} {rest:List Oper} {o:Oper} {a:Act} {Q:Exit->Act->World->Prop} {w u:World} {c n:Nat} {v:Value} (l l2:Pl.Ln) (b:Nat) (hgd:o.guard=none) (s x:Operand)
  (ho:o.op=.call { callee:=.builtin .append,args:=#[s,x],argTypes:=#[23,23] }) (hs:a.eval s=v) (hx:a.eval x=.slice (some ⟨b,0,none⟩) 2 2) (hb:u.heap[b]?=some (.cells #[.int .i64 l.k,.int .i64 l.op,.int .i64 l.rd,.int .i64 l.r1,.int .i64 l.r2,.int .i64 l.im,.string l.s,.int .i64 l.n,.int .i64 l2.k,.int .i64 l2.op,.int .i64 l2.rd,.int .i64 l2.r1,.int .i64 l2.r2,.int .i64 l2.im,.string l2.s,.int .i64 l2.n] 51)) (S:gF w c v n u) (hls:l.s.size<=100) (Te:l2.s.size<=100) (hn:n+2<=100000)
  (h:∀ v' u',gF w c v' (n+2) u'->u.grownBy u' v.ownBlock->wpList Tryz.prog ops Q rest (a.put o.dst v') u'):wpList Tryz.prog ops Q (o :: rest) a u:=by
 refine uL hgd s x ho S hs ⟨b,0,none⟩ 2 2 (l.cells.toList ++ l2.cells.toList) hx rfl (fun j u' hj=>?_) ((uV.one l hls).app (uV.one l2 Te) rfl) hn h
 have:=cell_of_row u b j _ 51 (0,0) hb
 rw[show (⟨b,0,none⟩:Addr).add j=⟨b,j,none⟩ by simp[Addr.add];exact fun q=>q.symm,this,<- hj,<- Array.getElem?_toList]
 rfl
end Go.Proofs.YtlbomnnldkeocaaGreat.W
