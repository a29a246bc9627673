import Derived.Test.YtlbomnnldkeocaaGreatI37
import Derived.Test.YtlbomnnldkeocaaGreatI24
set_option linter.unusedVariables false
set_option linter.unusedSimpArgs false
set_option maxHeartbeats 16000000
namespace Go.Proofs.YtlbomnnldkeocaaGreat.Pl
theorem xM {c:kV} {q:Int} (h:c.d=false) (hq:c.t=4*q):c.at=65536+4*q:=by unfold kV.at;rw[h,hq];rfl
theorem xN {c:kV} (h:c.d=true):c.at=1048576+c.b:=by unfold kV.at;rw[h];rfl
theorem qZ {c:kV} {x:Ln} (h:x.k=1):c.pass x=c:=by
 unfold kV.pass
 rw[if_neg (by omega),if_neg (by omega)]
 obtain⟨d,t,b⟩:=c
 cases d
 ·simp[zJ,h]
 ·simp[fK,h]
theorem KJ (xs:List Ln) (i:Nat) (hi:i<xs.length) (h:sG (gl xs i)) (hs:dU xs i=false) :
  (gl xs i).k=1\/(gl xs i).k=10\/(gl xs i).k=11\/((cu xs i).d=false/\2<=(gl xs i).k/\(gl xs i).k<=9)\/((cu xs i).d=true/\12<=(gl xs i).k/\(gl xs i).k<=16):=by
 obtain⟨⟨h1,h2⟩,_,_⟩:=h
 by_cases e1:(gl xs i).k=1
 ·exact .inl e1
 by_cases e2:(gl xs i).k=10
 ·exact .inr (.inl e2)
 by_cases e3:(gl xs i).k=11
 ·exact .inr (.inr (.inl e3))
 unfold dU at hs
 rw[oK xs i hi,rM,if_neg e2,if_neg e3]at hs
 cases hd:(cu xs i).d
 ·rw[hd]at hs
  have:vR (gl xs i).k=false:=by simpa using hs
  have:¬ 12<=(gl xs i).k:=by simpa [vR] using this
  exact .inr (.inr (.inr (.inl ⟨rfl,by omega,by omega⟩)))
 ·rw[hd]at hs
  have:wN (gl xs i).k=false:=by simpa using hs
  have:¬ (2<=(gl xs i).k/\(gl xs i).k<=9):=by simpa [wN] using this
  exact .inr (.inr (.inr (.inr ⟨rfl,by omega,by omega⟩)))
end Go.Proofs.YtlbomnnldkeocaaGreat.Pl
namespace Go.Proofs.YtlbomnnldkeocaaGreat.W
open Go.RowKit
theorem aM {U u2:World} {g h i j:Nat} {v v':Value} {r:Option Nat} (hc:U.cell? ⟨h,j,none⟩=some v) (hg:U.grownBy u2 r) (hr:r≠some h) (hne:h≠g):(u2.setCell ⟨g,i,none⟩ v').cell? ⟨h,j,none⟩=some v:=
 (World.cell?_setCell_other _ _ _ _ (fun e=>by injection e with e1;exact hne e1.symm)).trans (dA hg hc hr)
def CO (xs:List Pl.Ln) (len:Nat) (w:World) (e:Ending) (w':World):Prop:=
 ∃ la lc aa ac,e=.returned (.agg #[.slice la (Pl.cZ xs len).length lc,.slice aa len ac,.int .i64 ((Pl.cu xs len).t / 4),.int .i64 (Pl.cu xs len).b])/\nE w' la (Pl.cZ xs len).length lc xs (Pl.cZ xs len)/\wV w' aa len ac xs/\Below w.heap.size w w'
def kP (w:World):World:=w.alloc (.cells #[.slice none 0 0,.slice none 0 0,.int .i64 0,.int .i64 0] 55)
theorem wD (w:World):(kP w).heap.size=w.heap.size+1:=by unfold kP;simp
theorem yN {w u:World} (h:Below (kP w).heap.size (kP w) u):Below w.heap.size w u:=Below.trans (aB w _) (h.mono (by rw[wD];omega))
def Um (xs:List Pl.Ln) (w:World) (k:Nat) (u:World):Prop:=∃ vl va q,(Pl.cu xs k).t=4*q/\dI xs (kP w) u (w.heap.size+1) k k vl va q (Pl.cu xs k).b
theorem rU (u:World) (v:Value) (t:TypeId) {b:Nat} (hb:b=u.heap.size) (j:Nat) (y:Value) (hj:[v][j]?=some y):(u.alloc (.cells #[v] t)).cell? ((⟨b,0,none⟩:Addr).add j)=some y:=by
 subst hb;exact AP u v t j y hj
theorem Bj (u:World) (v:List Value) (t:TypeId) {b:Nat} (hb:b=u.heap.size) (j:Nat) (y:Value) (hj:v[j]?=some y):(u.alloc (.cells v.toArray t)).cell? ((⟨b,0,none⟩:Addr).add j)=some y:=by
 subst hb
 rw[Addr.add_lit,Nat.zero_add,cell_of_row _ u.heap.size j _ t (0,0) (heap_alloc_new u _)]
 simpa using hj
set_option maxRecDepth 100000 in
theorem SK {lo:Nat} (a:Option Addr) (len cap:Nat) (xs:List Pl.Ln) (w:World) (h:jE lo w a len cap xs) (hB:∀ i,i<xs.length->Pl.sG (Pl.gl xs i)) (hS:∀ i,i<xs.length->Pl.dU xs i=false) (hn:len<=20000):Calls Tryz.prog 22 #[.slice a len cap] w (CO xs len w):=by
 have H:Hid (jE lo w a len cap xs):=h
 obtain⟨hL,hm⟩:=h.len
 have H5:Hid (∀ i,i<xs.length->Pl.sG (Pl.gl xs i)):=hB
 have HSt:Hid (∀ i,i<xs.length->Pl.dU xs i=false):=hS
 obtain⟨i0,hi0,hz0,hz1,hz2⟩:=info_parts CL
 obtain⟨j0,hj0,hy0,hy1,hy2⟩:=info_parts Eb
 have HLen:Hid (xs.length=len):=hL
 clear h hB hS hL
 go_enter Tryz.func22,Tryz.ntmps22
 go_wp2_with fail
 go_loopw [4,5] (fun t i wr=>∃ k:Nat,k<=len/\i=.int .i64 k/\t=.bool (!(Pl.cu xs k).d)/\Um xs w k wr) (fun _ i _=>len-(intOf i).toNat)
 case atStart=>
  refine⟨0,Nat.zero_le _,rfl,rfl,.slice none 0 0,.slice none 0 0,0,rfl,?_⟩
  have c:∀ j,((w.alloc (.cells #[.slice none 0 0,.slice none 0 0,.int .i64 0,.int .i64 0] 55)).alloc (.cells #[.slice none 0 0,.slice none 0 0,.int .i64 0,.int .i64 0] 55)).cell? ⟨w.heap.size+1,j,none⟩=(#[.slice none 0 0,.slice none 0 0,.int .i64 0,.int .i64 0]:Array Value)[j]?:=fun j=>cell_of_row _ _ j _ 55 (0,0) (by rw[show w.heap.size+1=(w.alloc (.cells #[.slice none 0 0,.slice none 0 0,.int .i64 0,.int .i64 0] 55)).heap.size by simp];exact heap_alloc_new _ _)
  exact⟨c 0,c 1,c 2,c 3,fun j=>frozen_of_row _ _ j _ 55 (by rw[show w.heap.size+1=(w.alloc (.cells #[.slice none 0 0,.slice none 0 0,.int .i64 0,.int .i64 0] 55)).heap.size by simp];exact heap_alloc_new _ _),by simp,World.ownsRow_nil _ _ _ _,World.ownsRow_nil _ _ _ _,aB (kP w) _,by rw[wD];omega⟩
 case round=>
  obtain⟨k,hk,rfl,rfl,vl,va,q,hq,hls⟩:=hrel
  have sI:Hid (dI xs (kP w) wr (w.heap.size+1) k k vl va q (Pl.cu xs k).b):=hls
  have HQ:Hid ((Pl.cu xs k).t=4*q):=hq
  have hwz:w.heap.size+1<wr.heap.size:=hls.lt
  by_cases hlt:k<len
  ·have hi:(k:Int)<(len:Int):=by omega
   obtain⟨b0,off,rfl,hlo,hb1,hs,c0,c1,c2,c3,c4,c5,c6,c7⟩:=(H.out.keep (yN sI.out.gP)).at k hlt
   have hbd:=Pl.jO xs H5.out k (by rw[HLen.out];omega)
   have aAa:(Pl.cZ xs k).length<=k:=by unfold Pl.cZ;refine Nat.le_trans (List.length_filter_le _ _) (by simp)
   have hb0:0<=(Pl.cu xs k).b/\(Pl.cu xs k).b<=1310720000:=by omega
   have hq0:0<=q/\q<=40000:=by omega
   have HX:Hid (Pl.sG (Pl.gl xs k)):=H5.out k (by rw[HLen.out];omega)
   have SL:=Pl.KJ xs k (by rw[HLen.out];omega) HX.out (HSt.out k (by rw[HLen.out];omega))
   have xO:Hid (Pl.cu xs (k+1)=(Pl.cu xs k).pass (Pl.gl xs k)):=Pl.oK xs k (by rw[HLen.out];omega)
   have Bl:Hid (Pl.pO xs k=[.string (Pl.gl xs k).s,.int .i64 (k:Nat),.int .i64 (Pl.cu xs k).at,.bool (!(Pl.cu xs k).d)]):=rfl
   clear hbd hq hls hs
   have m0:=sI.out.c0;have m1:=sI.out.c1;have m2:=sI.out.c2;have m3:=sI.out.c3
   have mf:=sI.out.fz
   have hz1':wr.heap.size≠w.heap.size+1:=by omega
   cases hd:(Pl.cu xs k).d
   ·rcases SL with e | e | e | ⟨_,e⟩ | ⟨c,_⟩
    ·have HA:Hid ((Pl.cu xs k).at=65536+4*q):=Pl.xM hd HQ.out
     have HC:Hid (Pl.pO xs k=[.string (Pl.gl xs k).s,.int .i64 (k:Nat),.int .i64 (65536+4*q),.bool true]):=(by show _=_;rw[Bl.out,HA.out,hd];rfl)
     have HD:Hid ((Pl.cu xs k).d=false):=hd
     clear hd
     obtain⟨b,hbe⟩:∃ b,b=(Pl.cu xs k).b:=⟨_,rfl⟩
     have KL:Hid (b=(Pl.cu xs k).b):=hbe
     rw[<- hbe]at m3 hb0 sI
     clear hbe
     have HS:Hid (dI xs (kP w) wr (w.heap.size+1) k k vl va q b):=sI.out
     have HKK:Hid ((Pl.gl xs k).k=1):=e
     generalize hx:Pl.gl xs k=x at *
     have sU:Hid (Pl.gl xs k=x):=hx
     clear hx
     rw[e]at c0
     clear e
     have HK:Hid ((Pl.gl xs k).k=1):=(by show _=_;rw[sU.out];exact HKK.out)
     go_wp2_with (first | (at_builtin;refine wpList_append_own _ rfl (.tmp 37) (.tmp 44) 53 rfl ((w.heap.size+1)+1) 63 j0 (.agg #[.string ⟨#[]⟩,.int .i64 0,.int .i64 0,.bool false]) 4 40 Tryz.underlying53 hj0 hy0 hy1 hy2 rfl (by decide) vl (Pl.cZ xs k).length (Pl.lcs xs (Pl.cZ xs k)) rfl (kK.out.ol.alloc _) ⟨u3.heap.size,0,none⟩ 1 1 [.string x.s,.int .i64 (k:Nat),.int .i64 (65536+4*q),.bool true] rfl rfl (Bj _ _ _ (by simp)) (by intro u hu;simp at hu;rcases hu with rfl | rfl | rfl | rfl <;> rfl) (by unfold maxLen;omega) (by omega) (by simp;omega) ?_;intro v2 u4 hown2 CP _;obtain⟨a7,c7,hv7⟩:=aT hown2;subst hv7;have HV:Hid (dI xs (kP w) (u4.setCell ⟨(w.heap.size+1),0,none⟩ (.slice a7 ((Pl.cZ xs k).length+1) c7)) (w.heap.size+1) (k+1) (k+1) (.slice a7 ((Pl.cZ xs k).length+1) c7) (.slice a8 (k+1) c8) q b):=(kK.out.keep (aB _ _)).Bi HK.out (by rw[HC.out];exact hown2) CP;have KM:vl.ownBlock≠some (w.heap.size+1):=own_ne kK.out.ol (.inl (by omega));have z1:u4.cell? ⟨(w.heap.size+1),0,none⟩=some vl:=dA CP (kK.out.keep (aB _ _)).c0 KM;have z2:u4.frozen? ⟨(w.heap.size+1),0,none⟩=false:=kF CP (kK.out.keep (aB _ _)).lt ((kK.out.keep (aB _ _)).fz 0) KM;clear hown2 CP KM) | (at_builtin;refine wpList_append_own _ rfl (.tmp 28) (.tmp 30) 26 rfl ((w.heap.size+1)+1) 3 i0 (.int .i64 0) 1 8 Tryz.underlying26 hi0 hz0 hz1 hz2 rfl (by decide) va k (Pl.MQ xs k) rfl ((HS.out.oa.alloc _).alloc _) ⟨wr.heap.size+1,0,none⟩ 1 1 [.int .i64 (65536+4*q)] rfl rfl (rU _ _ _ (by simp)) (by intro u hu;simp at hu;subst hu;rfl) (by unfold maxLen;omega) (by omega) (by simp;omega) ?_;intro v' u2 hown1 bG _;obtain⟨a8,c8,zY⟩:=aT hown1;subst zY;obtain⟨u3,hu3⟩:∃ u3,u2.setCell ⟨(w.heap.size+1),1,none⟩ (.slice a8 (k+1) c8)=u3:=⟨_,rfl⟩; have HU:Hid (dI xs (kP w) ((wr.alloc (.cells #[.int .i64 1,.int .i64 x.op,.int .i64 x.rd,.int .i64 x.r1,.int .i64 x.r2,.int .i64 x.im,.string x.s,.int .i64 x.n] 51)).alloc (.cells #[.int .i64 (65536+4*q)] 3)) (w.heap.size+1) k k vl va q b):=(HS.out.keep (aB _ _)).keep (aB _ _);have kK:Hid (dI xs (kP w) u3 (w.heap.size+1) k (k+1) vl (.slice a8 (k+1) c8) q b):=(by show dI _ _ _ _ _ _ _ _ _ _;rw[<- hu3];exact HU.out.wU (by rw[HA.out];exact hown1) bG);have hno:va.ownBlock≠some wr.heap.size:=own_ne HS.out.oa (.inr (Nat.le_refl _));have lJ:va.ownBlock≠some (w.heap.size+1):=own_ne HS.out.oa (.inl (by omega));have p0:u3.cell? ⟨wr.heap.size,0,none⟩=some (.int .i64 1):=(by rw[<- hu3];exact aM (aF (aB _ _) (cell_of_row _ _ 0 _ 51 (0,0) (heap_alloc_new wr _))) bG hno (by omega));have p1:u3.cell? ⟨wr.heap.size,1,none⟩=some (.int .i64 x.op):=(by rw[<- hu3];exact aM (aF (aB _ _) (cell_of_row _ _ 1 _ 51 (0,0) (heap_alloc_new wr _))) bG hno (by omega));have p2:u3.cell? ⟨wr.heap.size,2,none⟩=some (.int .i64 x.rd):=(by rw[<- hu3];exact aM (aF (aB _ _) (cell_of_row _ _ 2 _ 51 (0,0) (heap_alloc_new wr _))) bG hno (by omega));have p3:u3.cell? ⟨wr.heap.size,3,none⟩=some (.int .i64 x.r1):=(by rw[<- hu3];exact aM (aF (aB _ _) (cell_of_row _ _ 3 _ 51 (0,0) (heap_alloc_new wr _))) bG hno (by omega));have p4:u3.cell? ⟨wr.heap.size,4,none⟩=some (.int .i64 x.r2):=(by rw[<- hu3];exact aM (aF (aB _ _) (cell_of_row _ _ 4 _ 51 (0,0) (heap_alloc_new wr _))) bG hno (by omega));have p5:u3.cell? ⟨wr.heap.size,5,none⟩=some (.int .i64 x.im):=(by rw[<- hu3];exact aM (aF (aB _ _) (cell_of_row _ _ 5 _ 51 (0,0) (heap_alloc_new wr _))) bG hno (by omega));have p6:u3.cell? ⟨wr.heap.size,6,none⟩=some (.string x.s):=(by rw[<- hu3];exact aM (aF (aB _ _) (cell_of_row _ _ 6 _ 51 (0,0) (heap_alloc_new wr _))) bG hno (by omega));have p7:u3.cell? ⟨wr.heap.size,7,none⟩=some (.int .i64 x.n):=(by rw[<- hu3];exact aM (aF (aB _ _) (cell_of_row _ _ 7 _ 51 (0,0) (heap_alloc_new wr _))) bG hno (by omega));have y1:u2.cell? ⟨(w.heap.size+1),1,none⟩=some va:=dA bG HU.out.c1 lJ;have y2:u2.frozen? ⟨(w.heap.size+1),1,none⟩=false:=kF bG HU.out.lt (HU.out.fz 1) lJ;have n0:u3.cell? ⟨(w.heap.size+1),0,none⟩=some (vl):=kK.out.c0;have n1:u3.cell? ⟨(w.heap.size+1),1,none⟩=some (Value.slice a8 (k+1) c8):=kK.out.c1;have n2:u3.cell? ⟨(w.heap.size+1),2,none⟩=some (.int .i64 q):=kK.out.c2;have n3:u3.cell? ⟨(w.heap.size+1),3,none⟩=some (.int .i64 b):=kK.out.c3;have nf:∀ j,u3.frozen? ⟨(w.heap.size+1),j,none⟩=false:=kK.out.fz;have hz3:wr.heap.size<u3.heap.size:=block_lt_of_cell p0;have hg3:w.heap.size+1<u3.heap.size:=kK.out.lt;clear hown1 bG hno lJ HU))
     refine⟨⟨k+1,hlt,by go_num,?_,.slice a7 ((Pl.cZ xs k).length+1) c7,.slice a8 (k+1) c8,q,?_,?_⟩,by simp[intOf];omega⟩
     ·rw[xO.out,Pl.qZ HKK.out,HD.out];rfl
     ·rw[xO.out,Pl.qZ HKK.out];exact HQ.out
     ·rw[xO.out,Pl.qZ HKK.out,<- KL.out];exact HV.out
    ·have HA:Hid ((Pl.cu xs k).at=65536+4*q):=Pl.xM hd HQ.out
     have HC:Hid (Pl.pO xs k=[.string (Pl.gl xs k).s,.int .i64 (k:Nat),.int .i64 (65536+4*q),.bool true]):=(by show _=_;rw[Bl.out,HA.out,hd];rfl)
     have HD:Hid ((Pl.cu xs k).d=false):=hd
     clear hd
     obtain⟨b,hbe⟩:∃ b,b=(Pl.cu xs k).b:=⟨_,rfl⟩
     have KL:Hid (b=(Pl.cu xs k).b):=hbe
     rw[<- hbe]at m3 hb0 sI
     clear hbe
     have HS:Hid (dI xs (kP w) wr (w.heap.size+1) k k vl va q b):=sI.out
     have HKK:Hid ((Pl.gl xs k).k=10):=e
     generalize hx:Pl.gl xs k=x at *
     have sU:Hid (Pl.gl xs k=x):=hx
     clear hx
     rw[e]at c0
     clear e
     go_wp2_with (at_builtin;refine wpList_append_own _ rfl (.tmp 28) (.tmp 30) 26 rfl ((w.heap.size+1)+1) 3 i0 (.int .i64 0) 1 8 Tryz.underlying26 hi0 hz0 hz1 hz2 rfl (by decide) va k (Pl.MQ xs k) rfl ((HS.out.oa.alloc _).alloc _) ⟨wr.heap.size+1,0,none⟩ 1 1 [.int .i64 (65536+4*q)] rfl rfl (rU _ _ _ (by simp)) (by intro u hu;simp at hu;subst hu;rfl) (by unfold maxLen;omega) (by omega) (by simp;omega) ?_;intro v' u2 hown1 bG _;obtain⟨a8,c8,zY⟩:=aT hown1;subst zY;obtain⟨u3,hu3⟩:∃ u3,u2.setCell ⟨(w.heap.size+1),1,none⟩ (.slice a8 (k+1) c8)=u3:=⟨_,rfl⟩; have HU:Hid (dI xs (kP w) ((wr.alloc (.cells #[.int .i64 10,.int .i64 x.op,.int .i64 x.rd,.int .i64 x.r1,.int .i64 x.r2,.int .i64 x.im,.string x.s,.int .i64 x.n] 51)).alloc (.cells #[.int .i64 (65536+4*q)] 3)) (w.heap.size+1) k k vl va q b):=(HS.out.keep (aB _ _)).keep (aB _ _);have kK:Hid (dI xs (kP w) u3 (w.heap.size+1) k (k+1) vl (.slice a8 (k+1) c8) q b):=(by show dI _ _ _ _ _ _ _ _ _ _;rw[<- hu3];exact HU.out.wU (by rw[HA.out];exact hown1) bG);have hno:va.ownBlock≠some wr.heap.size:=own_ne HS.out.oa (.inr (Nat.le_refl _));have lJ:va.ownBlock≠some (w.heap.size+1):=own_ne HS.out.oa (.inl (by omega));have p0:u3.cell? ⟨wr.heap.size,0,none⟩=some (.int .i64 10):=(by rw[<- hu3];exact aM (aF (aB _ _) (cell_of_row _ _ 0 _ 51 (0,0) (heap_alloc_new wr _))) bG hno (by omega));have p1:u3.cell? ⟨wr.heap.size,1,none⟩=some (.int .i64 x.op):=(by rw[<- hu3];exact aM (aF (aB _ _) (cell_of_row _ _ 1 _ 51 (0,0) (heap_alloc_new wr _))) bG hno (by omega));have p2:u3.cell? ⟨wr.heap.size,2,none⟩=some (.int .i64 x.rd):=(by rw[<- hu3];exact aM (aF (aB _ _) (cell_of_row _ _ 2 _ 51 (0,0) (heap_alloc_new wr _))) bG hno (by omega));have p3:u3.cell? ⟨wr.heap.size,3,none⟩=some (.int .i64 x.r1):=(by rw[<- hu3];exact aM (aF (aB _ _) (cell_of_row _ _ 3 _ 51 (0,0) (heap_alloc_new wr _))) bG hno (by omega));have p4:u3.cell? ⟨wr.heap.size,4,none⟩=some (.int .i64 x.r2):=(by rw[<- hu3];exact aM (aF (aB _ _) (cell_of_row _ _ 4 _ 51 (0,0) (heap_alloc_new wr _))) bG hno (by omega));have p5:u3.cell? ⟨wr.heap.size,5,none⟩=some (.int .i64 x.im):=(by rw[<- hu3];exact aM (aF (aB _ _) (cell_of_row _ _ 5 _ 51 (0,0) (heap_alloc_new wr _))) bG hno (by omega));have p6:u3.cell? ⟨wr.heap.size,6,none⟩=some (.string x.s):=(by rw[<- hu3];exact aM (aF (aB _ _) (cell_of_row _ _ 6 _ 51 (0,0) (heap_alloc_new wr _))) bG hno (by omega));have p7:u3.cell? ⟨wr.heap.size,7,none⟩=some (.int .i64 x.n):=(by rw[<- hu3];exact aM (aF (aB _ _) (cell_of_row _ _ 7 _ 51 (0,0) (heap_alloc_new wr _))) bG hno (by omega));have y1:u2.cell? ⟨(w.heap.size+1),1,none⟩=some va:=dA bG HU.out.c1 lJ;have y2:u2.frozen? ⟨(w.heap.size+1),1,none⟩=false:=kF bG HU.out.lt (HU.out.fz 1) lJ;have n0:u3.cell? ⟨(w.heap.size+1),0,none⟩=some (vl):=kK.out.c0;have n1:u3.cell? ⟨(w.heap.size+1),1,none⟩=some (Value.slice a8 (k+1) c8):=kK.out.c1;have n2:u3.cell? ⟨(w.heap.size+1),2,none⟩=some (.int .i64 q):=kK.out.c2;have n3:u3.cell? ⟨(w.heap.size+1),3,none⟩=some (.int .i64 b):=kK.out.c3;have nf:∀ j,u3.frozen? ⟨(w.heap.size+1),j,none⟩=false:=kK.out.fz;have hz3:wr.heap.size<u3.heap.size:=block_lt_of_cell p0;have hg3:w.heap.size+1<u3.heap.size:=kK.out.lt;clear hown1 bG hno lJ HU)
     refine⟨⟨k+1,hlt,by go_num,?_,vl,.slice a8 (k+1) c8,q,?_,?_⟩,by simp[intOf];omega⟩
     ·rw[xO.out,Pl.rM];simp[HKK.out]
     ·rw[xO.out];unfold Pl.kV.pass;simp[HKK.out,HQ.out]
     ·have hfin:=kK.out.next (by rw[sU.out,HKK.out];decide)
      rw[KL.out]at hfin
      rw[xO.out];unfold Pl.kV.pass;simp only[HKK.out];exact hfin
    ·have HA:Hid ((Pl.cu xs k).at=65536+4*q):=Pl.xM hd HQ.out
     have HC:Hid (Pl.pO xs k=[.string (Pl.gl xs k).s,.int .i64 (k:Nat),.int .i64 (65536+4*q),.bool true]):=(by show _=_;rw[Bl.out,HA.out,hd];rfl)
     have HD:Hid ((Pl.cu xs k).d=false):=hd
     clear hd
     obtain⟨b,hbe⟩:∃ b,b=(Pl.cu xs k).b:=⟨_,rfl⟩
     have KL:Hid (b=(Pl.cu xs k).b):=hbe
     rw[<- hbe]at m3 hb0 sI
     clear hbe
     have HS:Hid (dI xs (kP w) wr (w.heap.size+1) k k vl va q b):=sI.out
     have HKK:Hid ((Pl.gl xs k).k=11):=e
     generalize hx:Pl.gl xs k=x at *
     have sU:Hid (Pl.gl xs k=x):=hx
     clear hx
     rw[e]at c0
     clear e
     go_wp2_with (at_builtin;refine wpList_append_own _ rfl (.tmp 28) (.tmp 30) 26 rfl ((w.heap.size+1)+1) 3 i0 (.int .i64 0) 1 8 Tryz.underlying26 hi0 hz0 hz1 hz2 rfl (by decide) va k (Pl.MQ xs k) rfl ((HS.out.oa.alloc _).alloc _) ⟨wr.heap.size+1,0,none⟩ 1 1 [.int .i64 (65536+4*q)] rfl rfl (rU _ _ _ (by simp)) (by intro u hu;simp at hu;subst hu;rfl) (by unfold maxLen;omega) (by omega) (by simp;omega) ?_;intro v' u2 hown1 bG _;obtain⟨a8,c8,zY⟩:=aT hown1;subst zY;obtain⟨u3,hu3⟩:∃ u3,u2.setCell ⟨(w.heap.size+1),1,none⟩ (.slice a8 (k+1) c8)=u3:=⟨_,rfl⟩; have HU:Hid (dI xs (kP w) ((wr.alloc (.cells #[.int .i64 11,.int .i64 x.op,.int .i64 x.rd,.int .i64 x.r1,.int .i64 x.r2,.int .i64 x.im,.string x.s,.int .i64 x.n] 51)).alloc (.cells #[.int .i64 (65536+4*q)] 3)) (w.heap.size+1) k k vl va q b):=(HS.out.keep (aB _ _)).keep (aB _ _);have kK:Hid (dI xs (kP w) u3 (w.heap.size+1) k (k+1) vl (.slice a8 (k+1) c8) q b):=(by show dI _ _ _ _ _ _ _ _ _ _;rw[<- hu3];exact HU.out.wU (by rw[HA.out];exact hown1) bG);have hno:va.ownBlock≠some wr.heap.size:=own_ne HS.out.oa (.inr (Nat.le_refl _));have lJ:va.ownBlock≠some (w.heap.size+1):=own_ne HS.out.oa (.inl (by omega));have p0:u3.cell? ⟨wr.heap.size,0,none⟩=some (.int .i64 11):=(by rw[<- hu3];exact aM (aF (aB _ _) (cell_of_row _ _ 0 _ 51 (0,0) (heap_alloc_new wr _))) bG hno (by omega));have p1:u3.cell? ⟨wr.heap.size,1,none⟩=some (.int .i64 x.op):=(by rw[<- hu3];exact aM (aF (aB _ _) (cell_of_row _ _ 1 _ 51 (0,0) (heap_alloc_new wr _))) bG hno (by omega));have p2:u3.cell? ⟨wr.heap.size,2,none⟩=some (.int .i64 x.rd):=(by rw[<- hu3];exact aM (aF (aB _ _) (cell_of_row _ _ 2 _ 51 (0,0) (heap_alloc_new wr _))) bG hno (by omega));have p3:u3.cell? ⟨wr.heap.size,3,none⟩=some (.int .i64 x.r1):=(by rw[<- hu3];exact aM (aF (aB _ _) (cell_of_row _ _ 3 _ 51 (0,0) (heap_alloc_new wr _))) bG hno (by omega));have p4:u3.cell? ⟨wr.heap.size,4,none⟩=some (.int .i64 x.r2):=(by rw[<- hu3];exact aM (aF (aB _ _) (cell_of_row _ _ 4 _ 51 (0,0) (heap_alloc_new wr _))) bG hno (by omega));have p5:u3.cell? ⟨wr.heap.size,5,none⟩=some (.int .i64 x.im):=(by rw[<- hu3];exact aM (aF (aB _ _) (cell_of_row _ _ 5 _ 51 (0,0) (heap_alloc_new wr _))) bG hno (by omega));have p6:u3.cell? ⟨wr.heap.size,6,none⟩=some (.string x.s):=(by rw[<- hu3];exact aM (aF (aB _ _) (cell_of_row _ _ 6 _ 51 (0,0) (heap_alloc_new wr _))) bG hno (by omega));have p7:u3.cell? ⟨wr.heap.size,7,none⟩=some (.int .i64 x.n):=(by rw[<- hu3];exact aM (aF (aB _ _) (cell_of_row _ _ 7 _ 51 (0,0) (heap_alloc_new wr _))) bG hno (by omega));have y1:u2.cell? ⟨(w.heap.size+1),1,none⟩=some va:=dA bG HU.out.c1 lJ;have y2:u2.frozen? ⟨(w.heap.size+1),1,none⟩=false:=kF bG HU.out.lt (HU.out.fz 1) lJ;have n0:u3.cell? ⟨(w.heap.size+1),0,none⟩=some (vl):=kK.out.c0;have n1:u3.cell? ⟨(w.heap.size+1),1,none⟩=some (Value.slice a8 (k+1) c8):=kK.out.c1;have n2:u3.cell? ⟨(w.heap.size+1),2,none⟩=some (.int .i64 q):=kK.out.c2;have n3:u3.cell? ⟨(w.heap.size+1),3,none⟩=some (.int .i64 b):=kK.out.c3;have nf:∀ j,u3.frozen? ⟨(w.heap.size+1),j,none⟩=false:=kK.out.fz;have hz3:wr.heap.size<u3.heap.size:=block_lt_of_cell p0;have hg3:w.heap.size+1<u3.heap.size:=kK.out.lt;clear hown1 bG hno lJ HU)
     refine⟨⟨k+1,hlt,by go_num,?_,vl,.slice a8 (k+1) c8,q,?_,?_⟩,by simp[intOf];omega⟩
     ·rw[xO.out,Pl.rM];simp[HKK.out]
     ·rw[xO.out];unfold Pl.kV.pass;simp[HKK.out,HQ.out]
     ·have hfin:=kK.out.next (by rw[sU.out,HKK.out];decide)
      rw[KL.out]at hfin
      rw[xO.out];unfold Pl.kV.pass;simp only[HKK.out];exact hfin
    ·have HA:Hid ((Pl.cu xs k).at=65536+4*q):=Pl.xM hd HQ.out
     have HC:Hid (Pl.pO xs k=[.string (Pl.gl xs k).s,.int .i64 (k:Nat),.int .i64 (65536+4*q),.bool true]):=(by show _=_;rw[Bl.out,HA.out,hd];rfl)
     have HD:Hid ((Pl.cu xs k).d=false):=hd
     clear hd
     obtain⟨b,hbe⟩:∃ b,b=(Pl.cu xs k).b:=⟨_,rfl⟩
     have KL:Hid (b=(Pl.cu xs k).b):=hbe
     rw[<- hbe]at m3 hb0 sI
     clear hbe
     have HS:Hid (dI xs (kP w) wr (w.heap.size+1) k k vl va q b):=sI.out
     have HKK:Hid (2<=(Pl.gl xs k).k/\(Pl.gl xs k).k<=9):=e
     generalize hx:Pl.gl xs k=x at *
     have sU:Hid (Pl.gl xs k=x):=hx
     clear hx
     have e1:(x.k == 1)=false:=(by simp;omega)
     have e10:(x.k == 10)=false:=(by simp;omega)
     have e11:(x.k == 11)=false:=(by simp;omega)
     clear e
     go_upto_region 16 with (at_builtin;refine wpList_append_own _ rfl (.tmp 28) (.tmp 30) 26 rfl ((w.heap.size+1)+1) 3 i0 (.int .i64 0) 1 8 Tryz.underlying26 hi0 hz0 hz1 hz2 rfl (by decide) va k (Pl.MQ xs k) rfl ((HS.out.oa.alloc _).alloc _) ⟨wr.heap.size+1,0,none⟩ 1 1 [.int .i64 (65536+4*q)] rfl rfl (rU _ _ _ (by simp)) (by intro u hu;simp at hu;subst hu;rfl) (by unfold maxLen;omega) (by omega) (by simp;omega) ?_;intro v' u2 hown1 bG _;obtain⟨a8,c8,zY⟩:=aT hown1;subst zY;obtain⟨u3,hu3⟩:∃ u3,u2.setCell ⟨(w.heap.size+1),1,none⟩ (.slice a8 (k+1) c8)=u3:=⟨_,rfl⟩; have HU:Hid (dI xs (kP w) ((wr.alloc (.cells #[.int .i64 x.k,.int .i64 x.op,.int .i64 x.rd,.int .i64 x.r1,.int .i64 x.r2,.int .i64 x.im,.string x.s,.int .i64 x.n] 51)).alloc (.cells #[.int .i64 (65536+4*q)] 3)) (w.heap.size+1) k k vl va q b):=(HS.out.keep (aB _ _)).keep (aB _ _);have kK:Hid (dI xs (kP w) u3 (w.heap.size+1) k (k+1) vl (.slice a8 (k+1) c8) q b):=(by show dI _ _ _ _ _ _ _ _ _ _;rw[<- hu3];exact HU.out.wU (by rw[HA.out];exact hown1) bG);have hno:va.ownBlock≠some wr.heap.size:=own_ne HS.out.oa (.inr (Nat.le_refl _));have lJ:va.ownBlock≠some (w.heap.size+1):=own_ne HS.out.oa (.inl (by omega));have p0:u3.cell? ⟨wr.heap.size,0,none⟩=some (.int .i64 x.k):=(by rw[<- hu3];exact aM (aF (aB _ _) (cell_of_row _ _ 0 _ 51 (0,0) (heap_alloc_new wr _))) bG hno (by omega));have p1:u3.cell? ⟨wr.heap.size,1,none⟩=some (.int .i64 x.op):=(by rw[<- hu3];exact aM (aF (aB _ _) (cell_of_row _ _ 1 _ 51 (0,0) (heap_alloc_new wr _))) bG hno (by omega));have p2:u3.cell? ⟨wr.heap.size,2,none⟩=some (.int .i64 x.rd):=(by rw[<- hu3];exact aM (aF (aB _ _) (cell_of_row _ _ 2 _ 51 (0,0) (heap_alloc_new wr _))) bG hno (by omega));have p3:u3.cell? ⟨wr.heap.size,3,none⟩=some (.int .i64 x.r1):=(by rw[<- hu3];exact aM (aF (aB _ _) (cell_of_row _ _ 3 _ 51 (0,0) (heap_alloc_new wr _))) bG hno (by omega));have p4:u3.cell? ⟨wr.heap.size,4,none⟩=some (.int .i64 x.r2):=(by rw[<- hu3];exact aM (aF (aB _ _) (cell_of_row _ _ 4 _ 51 (0,0) (heap_alloc_new wr _))) bG hno (by omega));have p5:u3.cell? ⟨wr.heap.size,5,none⟩=some (.int .i64 x.im):=(by rw[<- hu3];exact aM (aF (aB _ _) (cell_of_row _ _ 5 _ 51 (0,0) (heap_alloc_new wr _))) bG hno (by omega));have p6:u3.cell? ⟨wr.heap.size,6,none⟩=some (.string x.s):=(by rw[<- hu3];exact aM (aF (aB _ _) (cell_of_row _ _ 6 _ 51 (0,0) (heap_alloc_new wr _))) bG hno (by omega));have p7:u3.cell? ⟨wr.heap.size,7,none⟩=some (.int .i64 x.n):=(by rw[<- hu3];exact aM (aF (aB _ _) (cell_of_row _ _ 7 _ 51 (0,0) (heap_alloc_new wr _))) bG hno (by omega));have y1:u2.cell? ⟨(w.heap.size+1),1,none⟩=some va:=dA bG HU.out.c1 lJ;have y2:u2.frozen? ⟨(w.heap.size+1),1,none⟩=false:=kF bG HU.out.lt (HU.out.fz 1) lJ;have n0:u3.cell? ⟨(w.heap.size+1),0,none⟩=some (vl):=kK.out.c0;have n1:u3.cell? ⟨(w.heap.size+1),1,none⟩=some (Value.slice a8 (k+1) c8):=kK.out.c1;have n2:u3.cell? ⟨(w.heap.size+1),2,none⟩=some (.int .i64 q):=kK.out.c2;have n3:u3.cell? ⟨(w.heap.size+1),3,none⟩=some (.int .i64 b):=kK.out.c3;have nf:∀ j,u3.frozen? ⟨(w.heap.size+1),j,none⟩=false:=kK.out.fz;have hz3:wr.heap.size<u3.heap.size:=block_lt_of_cell p0;have hg3:w.heap.size+1<u3.heap.size:=kK.out.lt;clear hown1 bG hno lJ HU)
     have hw0:0<=Pl.xI x/\Pl.xI x<=2:=by unfold Pl.xI;split <;> (try split) <;> omega
     refine Lu (w.heap.size+1) wr.heap.size x q (Pl.xI x) u3 n2 (nf 2) p0 p1 p2 p3 p4 p5 p6 p7 (fun u=>uP x u) (by omega) ?_
     intro w1 hw1
     have HF:Hid (dI xs (kP w) (w1.setCell ⟨w.heap.size+1,2,none⟩ (.int .i64 (q+Pl.xI x))) (w.heap.size+1) (k+1) (k+1) vl (.slice a8 (k+1) c8) (q+Pl.xI x) b):=((kK.out.keep hw1).set2 _).next (by rw[sU.out];have:=HKK.out;omega)
     clear hw1
     go_wp2_with fail
     have hpt:=Pl.AR (c:=Pl.cu xs k) (x:=x) (by simp;have:=HKK.out;omega) (by simp;have:=HKK.out;omega) HD.out
     have wP:=Pl.MB x (by simp[Pl.wN];exact HKK.out)
     refine⟨⟨k+1,hlt,by go_num,?_,vl,.slice a8 (k+1) c8,q+Pl.xI x,?_,?_⟩,by simp[intOf];omega⟩
     ·rw[xO.out,hpt,HD.out];rfl
     ·rw[xO.out,hpt];show (Pl.cu xs k).t+Pl.zJ x=_;rw[wP,HQ.out];omega
     ·rw[xO.out,hpt];show dI _ _ _ _ _ _ _ _ _ (Pl.cu xs k).b;rw[<- KL.out];exact HF.out
    ·rw[hd]at c;cases c
   ·rcases SL with e | e | e | ⟨c,_⟩ | ⟨_,e⟩
    ·have HA:Hid ((Pl.cu xs k).at=1048576+(Pl.cu xs k).b):=Pl.xN hd
     have HC:Hid (Pl.pO xs k=[.string (Pl.gl xs k).s,.int .i64 (k:Nat),.int .i64 (1048576+(Pl.cu xs k).b),.bool false]):=(by show _=_;rw[Bl.out,HA.out,hd];rfl)
     have HD:Hid ((Pl.cu xs k).d=true):=hd
     clear hd
     obtain⟨b,hbe⟩:∃ b,b=(Pl.cu xs k).b:=⟨_,rfl⟩
     have KL:Hid (b=(Pl.cu xs k).b):=hbe
     rw[<- hbe]at m3 hb0 sI HA HC
     clear hbe
     have HS:Hid (dI xs (kP w) wr (w.heap.size+1) k k vl va q b):=sI.out
     have HKK:Hid ((Pl.gl xs k).k=1):=e
     generalize hx:Pl.gl xs k=x at *
     have sU:Hid (Pl.gl xs k=x):=hx
     clear hx
     rw[e]at c0
     clear e
     have HK:Hid ((Pl.gl xs k).k=1):=(by show _=_;rw[sU.out];exact HKK.out)
     go_wp2_with (first | (at_builtin;refine wpList_append_own _ rfl (.tmp 37) (.tmp 44) 53 rfl ((w.heap.size+1)+1) 63 j0 (.agg #[.string ⟨#[]⟩,.int .i64 0,.int .i64 0,.bool false]) 4 40 Tryz.underlying53 hj0 hy0 hy1 hy2 rfl (by decide) vl (Pl.cZ xs k).length (Pl.lcs xs (Pl.cZ xs k)) rfl (kK.out.ol.alloc _) ⟨u3.heap.size,0,none⟩ 1 1 [.string x.s,.int .i64 (k:Nat),.int .i64 (1048576+b),.bool false] rfl rfl (Bj _ _ _ (by simp)) (by intro u hu;simp at hu;rcases hu with rfl | rfl | rfl | rfl <;> rfl) (by unfold maxLen;omega) (by omega) (by simp;omega) ?_;intro v2 u4 hown2 CP _;obtain⟨a7,c7,hv7⟩:=aT hown2;subst hv7;have HV:Hid (dI xs (kP w) (u4.setCell ⟨(w.heap.size+1),0,none⟩ (.slice a7 ((Pl.cZ xs k).length+1) c7)) (w.heap.size+1) (k+1) (k+1) (.slice a7 ((Pl.cZ xs k).length+1) c7) (.slice a8 (k+1) c8) q b):=(kK.out.keep (aB _ _)).Bi HK.out (by rw[HC.out];exact hown2) CP;have KM:vl.ownBlock≠some (w.heap.size+1):=own_ne kK.out.ol (.inl (by omega));have z1:u4.cell? ⟨(w.heap.size+1),0,none⟩=some vl:=dA CP (kK.out.keep (aB _ _)).c0 KM;have z2:u4.frozen? ⟨(w.heap.size+1),0,none⟩=false:=kF CP (kK.out.keep (aB _ _)).lt ((kK.out.keep (aB _ _)).fz 0) KM;clear hown2 CP KM) | (at_builtin;refine wpList_append_own _ rfl (.tmp 28) (.tmp 30) 26 rfl ((w.heap.size+1)+1) 3 i0 (.int .i64 0) 1 8 Tryz.underlying26 hi0 hz0 hz1 hz2 rfl (by decide) va k (Pl.MQ xs k) rfl ((HS.out.oa.alloc _).alloc _) ⟨wr.heap.size+1,0,none⟩ 1 1 [.int .i64 (1048576+b)] rfl rfl (rU _ _ _ (by simp)) (by intro u hu;simp at hu;subst hu;rfl) (by unfold maxLen;omega) (by omega) (by simp;omega) ?_;intro v' u2 hown1 bG _;obtain⟨a8,c8,zY⟩:=aT hown1;subst zY;obtain⟨u3,hu3⟩:∃ u3,u2.setCell ⟨(w.heap.size+1),1,none⟩ (.slice a8 (k+1) c8)=u3:=⟨_,rfl⟩; have HU:Hid (dI xs (kP w) ((wr.alloc (.cells #[.int .i64 1,.int .i64 x.op,.int .i64 x.rd,.int .i64 x.r1,.int .i64 x.r2,.int .i64 x.im,.string x.s,.int .i64 x.n] 51)).alloc (.cells #[.int .i64 (1048576+b)] 3)) (w.heap.size+1) k k vl va q b):=(HS.out.keep (aB _ _)).keep (aB _ _);have kK:Hid (dI xs (kP w) u3 (w.heap.size+1) k (k+1) vl (.slice a8 (k+1) c8) q b):=(by show dI _ _ _ _ _ _ _ _ _ _;rw[<- hu3];exact HU.out.wU (by rw[HA.out];exact hown1) bG);have hno:va.ownBlock≠some wr.heap.size:=own_ne HS.out.oa (.inr (Nat.le_refl _));have lJ:va.ownBlock≠some (w.heap.size+1):=own_ne HS.out.oa (.inl (by omega));have p0:u3.cell? ⟨wr.heap.size,0,none⟩=some (.int .i64 1):=(by rw[<- hu3];exact aM (aF (aB _ _) (cell_of_row _ _ 0 _ 51 (0,0) (heap_alloc_new wr _))) bG hno (by omega));have p1:u3.cell? ⟨wr.heap.size,1,none⟩=some (.int .i64 x.op):=(by rw[<- hu3];exact aM (aF (aB _ _) (cell_of_row _ _ 1 _ 51 (0,0) (heap_alloc_new wr _))) bG hno (by omega));have p2:u3.cell? ⟨wr.heap.size,2,none⟩=some (.int .i64 x.rd):=(by rw[<- hu3];exact aM (aF (aB _ _) (cell_of_row _ _ 2 _ 51 (0,0) (heap_alloc_new wr _))) bG hno (by omega));have p3:u3.cell? ⟨wr.heap.size,3,none⟩=some (.int .i64 x.r1):=(by rw[<- hu3];exact aM (aF (aB _ _) (cell_of_row _ _ 3 _ 51 (0,0) (heap_alloc_new wr _))) bG hno (by omega));have p4:u3.cell? ⟨wr.heap.size,4,none⟩=some (.int .i64 x.r2):=(by rw[<- hu3];exact aM (aF (aB _ _) (cell_of_row _ _ 4 _ 51 (0,0) (heap_alloc_new wr _))) bG hno (by omega));have p5:u3.cell? ⟨wr.heap.size,5,none⟩=some (.int .i64 x.im):=(by rw[<- hu3];exact aM (aF (aB _ _) (cell_of_row _ _ 5 _ 51 (0,0) (heap_alloc_new wr _))) bG hno (by omega));have p6:u3.cell? ⟨wr.heap.size,6,none⟩=some (.string x.s):=(by rw[<- hu3];exact aM (aF (aB _ _) (cell_of_row _ _ 6 _ 51 (0,0) (heap_alloc_new wr _))) bG hno (by omega));have p7:u3.cell? ⟨wr.heap.size,7,none⟩=some (.int .i64 x.n):=(by rw[<- hu3];exact aM (aF (aB _ _) (cell_of_row _ _ 7 _ 51 (0,0) (heap_alloc_new wr _))) bG hno (by omega));have y1:u2.cell? ⟨(w.heap.size+1),1,none⟩=some va:=dA bG HU.out.c1 lJ;have y2:u2.frozen? ⟨(w.heap.size+1),1,none⟩=false:=kF bG HU.out.lt (HU.out.fz 1) lJ;have n0:u3.cell? ⟨(w.heap.size+1),0,none⟩=some (vl):=kK.out.c0;have n1:u3.cell? ⟨(w.heap.size+1),1,none⟩=some (Value.slice a8 (k+1) c8):=kK.out.c1;have n2:u3.cell? ⟨(w.heap.size+1),2,none⟩=some (.int .i64 q):=kK.out.c2;have n3:u3.cell? ⟨(w.heap.size+1),3,none⟩=some (.int .i64 b):=kK.out.c3;have nf:∀ j,u3.frozen? ⟨(w.heap.size+1),j,none⟩=false:=kK.out.fz;have hz3:wr.heap.size<u3.heap.size:=block_lt_of_cell p0;have hg3:w.heap.size+1<u3.heap.size:=kK.out.lt;clear hown1 bG hno lJ HU))
     refine⟨⟨k+1,hlt,by go_num,?_,.slice a7 ((Pl.cZ xs k).length+1) c7,.slice a8 (k+1) c8,q,?_,?_⟩,by simp[intOf];omega⟩
     ·rw[xO.out,Pl.qZ HKK.out,HD.out];rfl
     ·rw[xO.out,Pl.qZ HKK.out];exact HQ.out
     ·rw[xO.out,Pl.qZ HKK.out,<- KL.out];exact HV.out
    ·have HA:Hid ((Pl.cu xs k).at=1048576+(Pl.cu xs k).b):=Pl.xN hd
     have HC:Hid (Pl.pO xs k=[.string (Pl.gl xs k).s,.int .i64 (k:Nat),.int .i64 (1048576+(Pl.cu xs k).b),.bool false]):=(by show _=_;rw[Bl.out,HA.out,hd];rfl)
     have HD:Hid ((Pl.cu xs k).d=true):=hd
     clear hd
     obtain⟨b,hbe⟩:∃ b,b=(Pl.cu xs k).b:=⟨_,rfl⟩
     have KL:Hid (b=(Pl.cu xs k).b):=hbe
     rw[<- hbe]at m3 hb0 sI HA HC
     clear hbe
     have HS:Hid (dI xs (kP w) wr (w.heap.size+1) k k vl va q b):=sI.out
     have HKK:Hid ((Pl.gl xs k).k=10):=e
     generalize hx:Pl.gl xs k=x at *
     have sU:Hid (Pl.gl xs k=x):=hx
     clear hx
     rw[e]at c0
     clear e
     go_wp2_with (at_builtin;refine wpList_append_own _ rfl (.tmp 28) (.tmp 30) 26 rfl ((w.heap.size+1)+1) 3 i0 (.int .i64 0) 1 8 Tryz.underlying26 hi0 hz0 hz1 hz2 rfl (by decide) va k (Pl.MQ xs k) rfl ((HS.out.oa.alloc _).alloc _) ⟨wr.heap.size+1,0,none⟩ 1 1 [.int .i64 (1048576+b)] rfl rfl (rU _ _ _ (by simp)) (by intro u hu;simp at hu;subst hu;rfl) (by unfold maxLen;omega) (by omega) (by simp;omega) ?_;intro v' u2 hown1 bG _;obtain⟨a8,c8,zY⟩:=aT hown1;subst zY;obtain⟨u3,hu3⟩:∃ u3,u2.setCell ⟨(w.heap.size+1),1,none⟩ (.slice a8 (k+1) c8)=u3:=⟨_,rfl⟩; have HU:Hid (dI xs (kP w) ((wr.alloc (.cells #[.int .i64 10,.int .i64 x.op,.int .i64 x.rd,.int .i64 x.r1,.int .i64 x.r2,.int .i64 x.im,.string x.s,.int .i64 x.n] 51)).alloc (.cells #[.int .i64 (1048576+b)] 3)) (w.heap.size+1) k k vl va q b):=(HS.out.keep (aB _ _)).keep (aB _ _);have kK:Hid (dI xs (kP w) u3 (w.heap.size+1) k (k+1) vl (.slice a8 (k+1) c8) q b):=(by show dI _ _ _ _ _ _ _ _ _ _;rw[<- hu3];exact HU.out.wU (by rw[HA.out];exact hown1) bG);have hno:va.ownBlock≠some wr.heap.size:=own_ne HS.out.oa (.inr (Nat.le_refl _));have lJ:va.ownBlock≠some (w.heap.size+1):=own_ne HS.out.oa (.inl (by omega));have p0:u3.cell? ⟨wr.heap.size,0,none⟩=some (.int .i64 10):=(by rw[<- hu3];exact aM (aF (aB _ _) (cell_of_row _ _ 0 _ 51 (0,0) (heap_alloc_new wr _))) bG hno (by omega));have p1:u3.cell? ⟨wr.heap.size,1,none⟩=some (.int .i64 x.op):=(by rw[<- hu3];exact aM (aF (aB _ _) (cell_of_row _ _ 1 _ 51 (0,0) (heap_alloc_new wr _))) bG hno (by omega));have p2:u3.cell? ⟨wr.heap.size,2,none⟩=some (.int .i64 x.rd):=(by rw[<- hu3];exact aM (aF (aB _ _) (cell_of_row _ _ 2 _ 51 (0,0) (heap_alloc_new wr _))) bG hno (by omega));have p3:u3.cell? ⟨wr.heap.size,3,none⟩=some (.int .i64 x.r1):=(by rw[<- hu3];exact aM (aF (aB _ _) (cell_of_row _ _ 3 _ 51 (0,0) (heap_alloc_new wr _))) bG hno (by omega));have p4:u3.cell? ⟨wr.heap.size,4,none⟩=some (.int .i64 x.r2):=(by rw[<- hu3];exact aM (aF (aB _ _) (cell_of_row _ _ 4 _ 51 (0,0) (heap_alloc_new wr _))) bG hno (by omega));have p5:u3.cell? ⟨wr.heap.size,5,none⟩=some (.int .i64 x.im):=(by rw[<- hu3];exact aM (aF (aB _ _) (cell_of_row _ _ 5 _ 51 (0,0) (heap_alloc_new wr _))) bG hno (by omega));have p6:u3.cell? ⟨wr.heap.size,6,none⟩=some (.string x.s):=(by rw[<- hu3];exact aM (aF (aB _ _) (cell_of_row _ _ 6 _ 51 (0,0) (heap_alloc_new wr _))) bG hno (by omega));have p7:u3.cell? ⟨wr.heap.size,7,none⟩=some (.int .i64 x.n):=(by rw[<- hu3];exact aM (aF (aB _ _) (cell_of_row _ _ 7 _ 51 (0,0) (heap_alloc_new wr _))) bG hno (by omega));have y1:u2.cell? ⟨(w.heap.size+1),1,none⟩=some va:=dA bG HU.out.c1 lJ;have y2:u2.frozen? ⟨(w.heap.size+1),1,none⟩=false:=kF bG HU.out.lt (HU.out.fz 1) lJ;have n0:u3.cell? ⟨(w.heap.size+1),0,none⟩=some (vl):=kK.out.c0;have n1:u3.cell? ⟨(w.heap.size+1),1,none⟩=some (Value.slice a8 (k+1) c8):=kK.out.c1;have n2:u3.cell? ⟨(w.heap.size+1),2,none⟩=some (.int .i64 q):=kK.out.c2;have n3:u3.cell? ⟨(w.heap.size+1),3,none⟩=some (.int .i64 b):=kK.out.c3;have nf:∀ j,u3.frozen? ⟨(w.heap.size+1),j,none⟩=false:=kK.out.fz;have hz3:wr.heap.size<u3.heap.size:=block_lt_of_cell p0;have hg3:w.heap.size+1<u3.heap.size:=kK.out.lt;clear hown1 bG hno lJ HU)
     refine⟨⟨k+1,hlt,by go_num,?_,vl,.slice a8 (k+1) c8,q,?_,?_⟩,by simp[intOf];omega⟩
     ·rw[xO.out,Pl.rM];simp[HKK.out]
     ·rw[xO.out];unfold Pl.kV.pass;simp[HKK.out,HQ.out]
     ·have hfin:=kK.out.next (by rw[sU.out,HKK.out];decide)
      rw[KL.out]at hfin
      rw[xO.out];unfold Pl.kV.pass;simp only[HKK.out];exact hfin
    ·have HA:Hid ((Pl.cu xs k).at=1048576+(Pl.cu xs k).b):=Pl.xN hd
     have HC:Hid (Pl.pO xs k=[.string (Pl.gl xs k).s,.int .i64 (k:Nat),.int .i64 (1048576+(Pl.cu xs k).b),.bool false]):=(by show _=_;rw[Bl.out,HA.out,hd];rfl)
     have HD:Hid ((Pl.cu xs k).d=true):=hd
     clear hd
     obtain⟨b,hbe⟩:∃ b,b=(Pl.cu xs k).b:=⟨_,rfl⟩
     have KL:Hid (b=(Pl.cu xs k).b):=hbe
     rw[<- hbe]at m3 hb0 sI HA HC
     clear hbe
     have HS:Hid (dI xs (kP w) wr (w.heap.size+1) k k vl va q b):=sI.out
     have HKK:Hid ((Pl.gl xs k).k=11):=e
     generalize hx:Pl.gl xs k=x at *
     have sU:Hid (Pl.gl xs k=x):=hx
     clear hx
     rw[e]at c0
     clear e
     go_wp2_with (at_builtin;refine wpList_append_own _ rfl (.tmp 28) (.tmp 30) 26 rfl ((w.heap.size+1)+1) 3 i0 (.int .i64 0) 1 8 Tryz.underlying26 hi0 hz0 hz1 hz2 rfl (by decide) va k (Pl.MQ xs k) rfl ((HS.out.oa.alloc _).alloc _) ⟨wr.heap.size+1,0,none⟩ 1 1 [.int .i64 (1048576+b)] rfl rfl (rU _ _ _ (by simp)) (by intro u hu;simp at hu;subst hu;rfl) (by unfold maxLen;omega) (by omega) (by simp;omega) ?_;intro v' u2 hown1 bG _;obtain⟨a8,c8,zY⟩:=aT hown1;subst zY;obtain⟨u3,hu3⟩:∃ u3,u2.setCell ⟨(w.heap.size+1),1,none⟩ (.slice a8 (k+1) c8)=u3:=⟨_,rfl⟩; have HU:Hid (dI xs (kP w) ((wr.alloc (.cells #[.int .i64 11,.int .i64 x.op,.int .i64 x.rd,.int .i64 x.r1,.int .i64 x.r2,.int .i64 x.im,.string x.s,.int .i64 x.n] 51)).alloc (.cells #[.int .i64 (1048576+b)] 3)) (w.heap.size+1) k k vl va q b):=(HS.out.keep (aB _ _)).keep (aB _ _);have kK:Hid (dI xs (kP w) u3 (w.heap.size+1) k (k+1) vl (.slice a8 (k+1) c8) q b):=(by show dI _ _ _ _ _ _ _ _ _ _;rw[<- hu3];exact HU.out.wU (by rw[HA.out];exact hown1) bG);have hno:va.ownBlock≠some wr.heap.size:=own_ne HS.out.oa (.inr (Nat.le_refl _));have lJ:va.ownBlock≠some (w.heap.size+1):=own_ne HS.out.oa (.inl (by omega));have p0:u3.cell? ⟨wr.heap.size,0,none⟩=some (.int .i64 11):=(by rw[<- hu3];exact aM (aF (aB _ _) (cell_of_row _ _ 0 _ 51 (0,0) (heap_alloc_new wr _))) bG hno (by omega));have p1:u3.cell? ⟨wr.heap.size,1,none⟩=some (.int .i64 x.op):=(by rw[<- hu3];exact aM (aF (aB _ _) (cell_of_row _ _ 1 _ 51 (0,0) (heap_alloc_new wr _))) bG hno (by omega));have p2:u3.cell? ⟨wr.heap.size,2,none⟩=some (.int .i64 x.rd):=(by rw[<- hu3];exact aM (aF (aB _ _) (cell_of_row _ _ 2 _ 51 (0,0) (heap_alloc_new wr _))) bG hno (by omega));have p3:u3.cell? ⟨wr.heap.size,3,none⟩=some (.int .i64 x.r1):=(by rw[<- hu3];exact aM (aF (aB _ _) (cell_of_row _ _ 3 _ 51 (0,0) (heap_alloc_new wr _))) bG hno (by omega));have p4:u3.cell? ⟨wr.heap.size,4,none⟩=some (.int .i64 x.r2):=(by rw[<- hu3];exact aM (aF (aB _ _) (cell_of_row _ _ 4 _ 51 (0,0) (heap_alloc_new wr _))) bG hno (by omega));have p5:u3.cell? ⟨wr.heap.size,5,none⟩=some (.int .i64 x.im):=(by rw[<- hu3];exact aM (aF (aB _ _) (cell_of_row _ _ 5 _ 51 (0,0) (heap_alloc_new wr _))) bG hno (by omega));have p6:u3.cell? ⟨wr.heap.size,6,none⟩=some (.string x.s):=(by rw[<- hu3];exact aM (aF (aB _ _) (cell_of_row _ _ 6 _ 51 (0,0) (heap_alloc_new wr _))) bG hno (by omega));have p7:u3.cell? ⟨wr.heap.size,7,none⟩=some (.int .i64 x.n):=(by rw[<- hu3];exact aM (aF (aB _ _) (cell_of_row _ _ 7 _ 51 (0,0) (heap_alloc_new wr _))) bG hno (by omega));have y1:u2.cell? ⟨(w.heap.size+1),1,none⟩=some va:=dA bG HU.out.c1 lJ;have y2:u2.frozen? ⟨(w.heap.size+1),1,none⟩=false:=kF bG HU.out.lt (HU.out.fz 1) lJ;have n0:u3.cell? ⟨(w.heap.size+1),0,none⟩=some (vl):=kK.out.c0;have n1:u3.cell? ⟨(w.heap.size+1),1,none⟩=some (Value.slice a8 (k+1) c8):=kK.out.c1;have n2:u3.cell? ⟨(w.heap.size+1),2,none⟩=some (.int .i64 q):=kK.out.c2;have n3:u3.cell? ⟨(w.heap.size+1),3,none⟩=some (.int .i64 b):=kK.out.c3;have nf:∀ j,u3.frozen? ⟨(w.heap.size+1),j,none⟩=false:=kK.out.fz;have hz3:wr.heap.size<u3.heap.size:=block_lt_of_cell p0;have hg3:w.heap.size+1<u3.heap.size:=kK.out.lt;clear hown1 bG hno lJ HU)
     refine⟨⟨k+1,hlt,by go_num,?_,vl,.slice a8 (k+1) c8,q,?_,?_⟩,by simp[intOf];omega⟩
     ·rw[xO.out,Pl.rM];simp[HKK.out]
     ·rw[xO.out];unfold Pl.kV.pass;simp[HKK.out,HQ.out]
     ·have hfin:=kK.out.next (by rw[sU.out,HKK.out];decide)
      rw[KL.out]at hfin
      rw[xO.out];unfold Pl.kV.pass;simp only[HKK.out];exact hfin
    ·rw[hd]at c;cases c
    ·have HA:Hid ((Pl.cu xs k).at=1048576+(Pl.cu xs k).b):=Pl.xN hd
     have HC:Hid (Pl.pO xs k=[.string (Pl.gl xs k).s,.int .i64 (k:Nat),.int .i64 (1048576+(Pl.cu xs k).b),.bool false]):=(by show _=_;rw[Bl.out,HA.out,hd];rfl)
     have HD:Hid ((Pl.cu xs k).d=true):=hd
     clear hd
     obtain⟨b,hbe⟩:∃ b,b=(Pl.cu xs k).b:=⟨_,rfl⟩
     have KL:Hid (b=(Pl.cu xs k).b):=hbe
     rw[<- hbe]at m3 hb0 sI HA HC
     clear hbe
     have HS:Hid (dI xs (kP w) wr (w.heap.size+1) k k vl va q b):=sI.out
     have HKK:Hid (12<=(Pl.gl xs k).k/\(Pl.gl xs k).k<=16):=e
     generalize hx:Pl.gl xs k=x at *
     have sU:Hid (Pl.gl xs k=x):=hx
     clear hx
     have e1:(x.k == 1)=false:=(by simp;omega)
     have e10:(x.k == 10)=false:=(by simp;omega)
     have e11:(x.k == 11)=false:=(by simp;omega)
     clear e
     go_upto_region 17 with (at_builtin;refine wpList_append_own _ rfl (.tmp 28) (.tmp 30) 26 rfl ((w.heap.size+1)+1) 3 i0 (.int .i64 0) 1 8 Tryz.underlying26 hi0 hz0 hz1 hz2 rfl (by decide) va k (Pl.MQ xs k) rfl ((HS.out.oa.alloc _).alloc _) ⟨wr.heap.size+1,0,none⟩ 1 1 [.int .i64 (1048576+b)] rfl rfl (rU _ _ _ (by simp)) (by intro u hu;simp at hu;subst hu;rfl) (by unfold maxLen;omega) (by omega) (by simp;omega) ?_;intro v' u2 hown1 bG _;obtain⟨a8,c8,zY⟩:=aT hown1;subst zY;obtain⟨u3,hu3⟩:∃ u3,u2.setCell ⟨(w.heap.size+1),1,none⟩ (.slice a8 (k+1) c8)=u3:=⟨_,rfl⟩; have HU:Hid (dI xs (kP w) ((wr.alloc (.cells #[.int .i64 x.k,.int .i64 x.op,.int .i64 x.rd,.int .i64 x.r1,.int .i64 x.r2,.int .i64 x.im,.string x.s,.int .i64 x.n] 51)).alloc (.cells #[.int .i64 (1048576+b)] 3)) (w.heap.size+1) k k vl va q b):=(HS.out.keep (aB _ _)).keep (aB _ _);have kK:Hid (dI xs (kP w) u3 (w.heap.size+1) k (k+1) vl (.slice a8 (k+1) c8) q b):=(by show dI _ _ _ _ _ _ _ _ _ _;rw[<- hu3];exact HU.out.wU (by rw[HA.out];exact hown1) bG);have hno:va.ownBlock≠some wr.heap.size:=own_ne HS.out.oa (.inr (Nat.le_refl _));have lJ:va.ownBlock≠some (w.heap.size+1):=own_ne HS.out.oa (.inl (by omega));have p0:u3.cell? ⟨wr.heap.size,0,none⟩=some (.int .i64 x.k):=(by rw[<- hu3];exact aM (aF (aB _ _) (cell_of_row _ _ 0 _ 51 (0,0) (heap_alloc_new wr _))) bG hno (by omega));have p1:u3.cell? ⟨wr.heap.size,1,none⟩=some (.int .i64 x.op):=(by rw[<- hu3];exact aM (aF (aB _ _) (cell_of_row _ _ 1 _ 51 (0,0) (heap_alloc_new wr _))) bG hno (by omega));have p2:u3.cell? ⟨wr.heap.size,2,none⟩=some (.int .i64 x.rd):=(by rw[<- hu3];exact aM (aF (aB _ _) (cell_of_row _ _ 2 _ 51 (0,0) (heap_alloc_new wr _))) bG hno (by omega));have p3:u3.cell? ⟨wr.heap.size,3,none⟩=some (.int .i64 x.r1):=(by rw[<- hu3];exact aM (aF (aB _ _) (cell_of_row _ _ 3 _ 51 (0,0) (heap_alloc_new wr _))) bG hno (by omega));have p4:u3.cell? ⟨wr.heap.size,4,none⟩=some (.int .i64 x.r2):=(by rw[<- hu3];exact aM (aF (aB _ _) (cell_of_row _ _ 4 _ 51 (0,0) (heap_alloc_new wr _))) bG hno (by omega));have p5:u3.cell? ⟨wr.heap.size,5,none⟩=some (.int .i64 x.im):=(by rw[<- hu3];exact aM (aF (aB _ _) (cell_of_row _ _ 5 _ 51 (0,0) (heap_alloc_new wr _))) bG hno (by omega));have p6:u3.cell? ⟨wr.heap.size,6,none⟩=some (.string x.s):=(by rw[<- hu3];exact aM (aF (aB _ _) (cell_of_row _ _ 6 _ 51 (0,0) (heap_alloc_new wr _))) bG hno (by omega));have p7:u3.cell? ⟨wr.heap.size,7,none⟩=some (.int .i64 x.n):=(by rw[<- hu3];exact aM (aF (aB _ _) (cell_of_row _ _ 7 _ 51 (0,0) (heap_alloc_new wr _))) bG hno (by omega));have y1:u2.cell? ⟨(w.heap.size+1),1,none⟩=some va:=dA bG HU.out.c1 lJ;have y2:u2.frozen? ⟨(w.heap.size+1),1,none⟩=false:=kF bG HU.out.lt (HU.out.fz 1) lJ;have n0:u3.cell? ⟨(w.heap.size+1),0,none⟩=some (vl):=kK.out.c0;have n1:u3.cell? ⟨(w.heap.size+1),1,none⟩=some (Value.slice a8 (k+1) c8):=kK.out.c1;have n2:u3.cell? ⟨(w.heap.size+1),2,none⟩=some (.int .i64 q):=kK.out.c2;have n3:u3.cell? ⟨(w.heap.size+1),3,none⟩=some (.int .i64 b):=kK.out.c3;have nf:∀ j,u3.frozen? ⟨(w.heap.size+1),j,none⟩=false:=kK.out.fz;have hz3:wr.heap.size<u3.heap.size:=block_lt_of_cell p0;have hg3:w.heap.size+1<u3.heap.size:=kK.out.lt;clear hown1 bG hno lJ HU)
     have hw0:=Pl.uN HX.out b hb0.1
     refine Lv (w.heap.size+1) wr.heap.size x b (Pl.fK x b) u3 n3 (nf 3) p0 p1 p2 p3 p4 p5 p6 p7 (fun u=>eO x b HX.out (by omega) u) (by omega) ?_
     intro w1 hw1
     have HF:Hid (dI xs (kP w) (w1.setCell ⟨w.heap.size+1,3,none⟩ (.int .i64 (b+Pl.fK x b))) (w.heap.size+1) (k+1) (k+1) vl (.slice a8 (k+1) c8) q (b+Pl.fK x b)):=((kK.out.keep hw1).Ul _).next (by rw[sU.out];have:=HKK.out;omega)
     clear hw1
     go_wp2_with fail
     have hpt:=Pl.AU (c:=Pl.cu xs k) (x:=x) (by simp;have:=HKK.out;omega) (by simp;have:=HKK.out;omega) HD.out
     refine⟨⟨k+1,hlt,by go_num,?_,vl,.slice a8 (k+1) c8,q,?_,?_⟩,by simp[intOf];omega⟩
     ·rw[xO.out,hpt,HD.out];rfl
     ·rw[xO.out,hpt];exact HQ.out
     ·rw[xO.out,hpt];show dI _ _ _ _ _ _ _ _ _ ((Pl.cu xs k).b+Pl.fK x (Pl.cu xs k).b);rw[<- KL.out];exact HF.out
  ·have hkk:k=len:=by omega
   have hi:¬ ((k:Int)<(len:Int)):=by omega
   have m0:=sI.out.c0;have m1:=sI.out.c1;have m2:=sI.out.c2;have m3:=sI.out.c3
   have hblk:wr.heap[w.heap.size]?=some (.cells #[.slice none 0 0,.slice none 0 0,.int .i64 0,.int .i64 0] 55 (0,0)):=(sI.out.gP.block w.heap.size (by rw[wD];omega)).trans (heap_alloc_new w _)
   have r0:=cell_of_row _ _ 0 _ 55 (0,0) hblk;have r1:=cell_of_row _ _ 1 _ 55 (0,0) hblk;have r2:=cell_of_row _ _ 2 _ 55 (0,0) hblk;have r3:=cell_of_row _ _ 3 _ 55 (0,0) hblk
   have rf:∀ j,wr.frozen? ⟨w.heap.size,j,none⟩=false:=fun j=>frozen_of_row _ _ j _ 55 hblk
   have Ec:Hid (Below w.heap.size w wr):=yN sI.out.gP
   have Un:Hid (wr.heap[w.heap.size]?=some (.cells #[.slice none 0 0,.slice none 0 0,.int .i64 0,.int .i64 0] 55 (0,0))):=hblk
   clear hblk hls
   obtain⟨la,lc,hvl⟩:=aT sI.out.ol
   obtain⟨aa,ac,hva⟩:=aT sI.out.oa
   subst hvl hva
   have XO:Hid (k=len):=hkk
   go_wp2
   rw[hkk]at sI
   refine bodyPost_ret (v:=.agg #[.slice la (Pl.cZ xs len).length lc,.slice aa len ac,.int .i64 q,.int .i64 (Pl.cu xs len).b]) ?hres rfl ?fin
   case hres=>exact results_cell_row Tryz.results22 _ _ w.heap.size 55 _ (0,0) _ rfl (AY Un.out) Tryz.underlying55 rfl (by kernel_rfl)
   case fin=>
    have s1:=sI.out.res (w:=w) (r:=w.heap.size) (j:=0) Ec.out (.slice la (Pl.cZ xs len).length lc) (Nat.le_refl _) (by omega)
    have s2:=s1.res (w:=w) (r:=w.heap.size) (j:=1) s1.gP (.slice aa len ac) (Nat.le_refl _) (by omega)
    have s3:=s2.res (w:=w) (r:=w.heap.size) (j:=2) s2.gP (.int .i64 q) (Nat.le_refl _) (by omega)
    have s4:=s3.res (w:=w) (r:=w.heap.size) (j:=3) s3.gP (.int .i64 (Pl.cu xs len).b) (Nat.le_refl _) (by omega)
    obtain⟨la',lc',e1,hlb⟩:=s4.labels
    obtain⟨aa',ac',e2,hat⟩:=s4.ats
    cases e1;cases e2
    refine⟨la,lc,aa,ac,?_,hlb,hat,s4.gP⟩
    have hq4:q=(Pl.cu xs len).t / 4:=by have:=HQ.out;rw[XO.out]at this;omega
    rw[<- hq4]
end Go.Proofs.YtlbomnnldkeocaaGreat.W
