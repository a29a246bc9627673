import Derived.Test.YtjcdiegfnoaedaaGreatDoorZ37
set_option linter.unusedVariables false
set_option linter.unusedSimpArgs false
set_option maxHeartbeats 16000000
namespace Go.Proofs.YtjcdiegfnoaedaaGreatDoor
set_option maxRecDepth 4000
namespace W
open Go.RowKit
theorem Qh {B B':Nat}{v:Value}{n:Nat}{xs:List Value}{w w':World}(hown:w.ownsRow B 5 1 v n xs) (hg:w.grownBy w' v.ownBlock) (hB:B'<=B) (hw:B'<=w.heap.size):Fr B' w w':=by
 refine⟨⟨hg.os,hg.tape,hg.output,hg.size,fun b hb=>hg.block b (by omega) (fun q=>?_)⟩,fun k cs t fr hk q1 q2=>(hg.block k (Array.getElem?_eq_some_iff.1 hk).1 (fun q=>?_)).trans hk⟩
 ·have:=(hown.lt b q.symm).1;omega
 ·rcases hown.2 with ⟨rfl,_⟩|⟨g',cap,cur,rfl,_,hh,_⟩
  ·simp[Value.ownBlock]at q
  ·simp only[Value.ownBlock,Option.some.injEq]at q;subst q;rw[hk]at hh;simp only[Option.some.injEq,Obj.cells.injEq]at hh;exact q1 hh.2.1
section
variable {N:Ns}{lit:Pl.Nd->ByteArray}{i:Nat}{x:Pl.Nd}{ks:List Pl.Tx}{t:Pl.Tx}{g n0:Nat}{cs:Array Value}{u z y:World}
theorem Sc.part {W r:List UInt8}(S:Sc N g n0 cs u z) (na:N.On u.heap.size u) (hy:y=z.alloc (.cells #[.slice N.a N.len N.cap,.slice none 0 0] 42)) (hn:W.length<=Pl.room) (e:W=r):Sb N u.heap.size z.heap.size n0 cs u W r y:=by
 subst hy e;have S1:=S.on (aA z (.cells #[.slice N.a N.len N.cap,.slice none 0 0] 42));exact⟨⟨⟨[],rfl,⟨.slice none 0 0,heap_alloc_new z _,World.ownsRow_nil _ _ 5 1⟩,S.d.b.size⟩,hn,S1.d,na.step S1.d.b⟩,S1.q⟩
theorem SX (V:Nk N lit i x ks) (hk:x.k=3\/x.k=4):Ar N (i:Int) (Pl.aR lit x ks):=by
 intro L g a0 m0 c0 inner u hw hg na hL hB hn;obtain⟨b,off,v,ea,hb1,c,K,hi⟩:=na.node V.hi V.hx;have hl:x.k=3->x.kids.length=1\/x.kids.length=2:=fun hk=>by have:=V.kf;rw[hk]at this;have:1<=x.kids.length/\x.kids.length<=2:=this;omega
 have HB:Hid (Br L u a0 m0 inner):=hB;have HX:Hid (N.On u.heap.size u/\L<=u.heap.size):=⟨na,hL⟩;have S:=fun cs y (hy:y=u.alloc (.cells cs 45))=>(show Sc N g u.heap.size cs u y by subst hy;exact⟨Fr.below (aA u _) (Nat.le_refl _),heap_alloc_new u _,hw,hg⟩);obtain⟨R,hR⟩:∃R,R=(Pl.aR lit x ks).bf++(inner++(Pl.aR lit x ks).bh):=⟨_,rfl⟩;rw[<- hR];have HR:Hid (R=_):=hR;have HK:Hid (x.k=3\/x.k=4):=hk;have HW:Hid (u.cell? ⟨g,0,none⟩=some (.slice N.a N.len N.cap)/\g<u.heap.size):=⟨hw,hg⟩;have hn9:Hid ((Pl.aR lit x ks).bf.length+inner.length+(Pl.aR lit x ks).bh.length<=Pl.room):=hn;clear hB hL hn hR hk;go_in;go_upto_region 2 with fail
 refine aG fun y hy=>?_;replace S:=S _ y hy;generalize u.heap.size=n0 at S ⊢;have F:=S.f;clear hy c;have hk:=HK.o;rcases hk with hk|hk;all_goals first|(have hl:=hl hk;rcases hl with hl|hl)|skip
 all_goals first
  | (have Q:=V.k2 (l:=116) (l':=101) K (.inr hl) (by rw[hk];rfl);obtain⟨b9,o9,i0,i1,t0,t1,e9,l9,el,rfl,⟨q0,K0⟩,q1,K1⟩:=Q;have hP:∃PT,(Pl.aR lit x [t0,t1]).bh=PT++t0.bh/\PT=Pl.say ⟨#[91]⟩++(t1.ar++Pl.say ⟨#[93]⟩):=⟨_,by simp[Pl.aR,hk,Pl.uW,Pl.wG],rfl⟩;have hb:(Pl.aR lit x [t0,t1]).bf=t0.bf:=by simp[Pl.aR,hk,Pl.uW])
  | (have Q:=V.k1 (l:=116) K (.inr hl) (by rw[hk];rfl);obtain⟨b9,o9,i0,t0,e9,l9,el,rfl,q0,K0⟩:=Q;have hP:∃PT,(Pl.aR lit x [t0]).bh=PT++t0.bh/\PT=Pl.say ⟨#[91]⟩++Pl.say ⟨#[93]⟩:=⟨_,by simp[Pl.aR,hk,Pl.uW,Pl.wG],rfl⟩;have hb:(Pl.aR lit x [t0]).bf=t0.bf:=by simp[Pl.aR,hk,Pl.uW])
  | (have Q:=V.kc (l:=116) K (by rw[hk];decide) (by rw[hk];rfl);obtain⟨b9,o9,i0,t0,kt,e9,l9,el,rfl,q0,K0⟩:=Q;have P:=Qf V K hk;rw[hk,e9]at P;have hP:∃PT,(Pl.aR lit x (t0 :: kt)).bh=PT++t0.bh/\PT=Pl.say ⟨#[40]⟩++((if kt.length=0 then Pl.say ⟨#[118,111,105,100]⟩ else [])++(Pl.wG kt++Pl.say ⟨#[41]⟩)):=⟨_,by simp[Pl.aR,hk,Pl.uW],rfl⟩;have hb:(Pl.aR lit x (t0 :: kt)).bf=t0.bf:=by simp[Pl.aR,hk,Pl.uW])
 all_goals
  obtain⟨PT,hP,hQ⟩:=hP;obtain⟨A,ck,y2,rfl,-⟩:=K0.ar;rw[hb,hP]at HR hn9;have HN:Hid (t0.bf.length+inner.length+(PT.length+t0.bh.length)<=1000000000):=by have:=hn9.o;rw[List.length_append]at this;exact this
  have hp0:Hid (0<PT.length):=by show 0<PT.length;rw[hQ,List.length_append];have:(Pl.say ⟨#[91]⟩).length=2:=rfl;have:(Pl.say ⟨#[40]⟩).length=2:=rfl;omega
  go_upto_region 10 with fail
  refine aG fun y3 hy3=>?_;have S2:=S.part HX.o.1 (y:=y3) (by rw[hy3,ea]) (by have:=HN.o;show PT.length<=1000000000;omega) hQ;generalize y.heap.size=gp at S2 ⊢;clear hy3 S F hQ hP hb hn9;have S:=S2;have F:=S.f;clear S2;go_upto_region 16 with ((with_reducible show Calls _ _ _ _ _);((with_reducible refine S.call.mono ?_);clear S F;rintro e z ⟨rfl,S⟩;have F:=S.f))
  have C:Sc N g n0 #[.int .i64 x.k,.int .i64 x.m,.int .i64 x.n,.string x.s,.slice v.a v.len v.cap,.int .i64 x.line,.int .i64 x.aQ] u z:=⟨S.s.d,S.q,HW.o.1,HW.o.2⟩;obtain⟨Wz,-⟩:=S.s.fin;obtain⟨vo,hbp,hop⟩:=Wz.ex;have HG:Hid (gp<z.heap.size):=Wz.lt;obtain⟨ap,cp,rfl⟩:=tY hop;have BP:Hid (Br L z ap PT.length PT):=(OB hop HX.o.2 hp0.o).1;have HP:Hid (z.heap[gp]?=some (.cells #[.slice N.a N.len N.cap,.slice ap PT.length cp] 42)):=hbp;clear S F hop Wz hbp;have F:=C.f;go_upto_region 17 with (at_builtin;refine AX (B:=z.heap.size) (L:=L) (ts:=[]) inner rfl _ _ rfl rfl _ _ _ rfl (by simp) (World.ownsRow_lit (base:=z.heap.size) (e:=5) (size:=1) z #[] 0 (Nat.le_refl _) (by unfold maxLen;omega) rfl) ((HB.o.on C.d.b).on (aA _ _)) (by have:=HN.o;simp;omega) fun a4 m4 q4 u4 o4 f4 p4=>?_;have D4:Hid (Bw z u4):=(aA z _).trans f4.b;have O4:Hid (u4.ownsRow z.heap.size 5 1 (.slice a4 m4 q4) inner.length (Pl.bl inner)):=o4;clear o4 f4 p4 F)
  have C4:=C.on D4.o;have hz:=C.d.b.size;have hp4:=(D4.o.block gp HG.o).trans HP.o;obtain⟨-,adp,rfl,hlp,hpn⟩:=BP.o.on D4.o;have cg:u4.cell? ⟨gp,1,none⟩=some (.slice (some adp) PT.length cp):=by rw[cell_of_row u4 gp 1 _ 42 (0,0) hp4];rfl
  obtain⟨i0,hi0,hz0,hz1,hz2⟩:=info_parts yR;obtain⟨v5,w5,hrun,o5,g5,-⟩:=run_append_own (P:=Tryz.prog) (w:=u4.drew) z.heap.size 26 26 5 i0 (.int .u8 0) 1 1 Tryz.underlying26 hi0 hz0 hz1 hz2 rfl (by decide) (.slice a4 m4 q4) inner.length (Pl.bl inner) (dK O4.o fun k _=>rfl) adp PT.length cp (Pl.bl PT) (by rw[Pl.sO,Nat.mul_one]) hpn (Pl.CY _) (by have:=HN.o;unfold maxLen;omega) (by have:=HN.o;omega) D4.o.size;have o6:w5.ownsRow z.heap.size 5 1 v5 (inner++PT).length (Pl.bl (inner++PT)):=by rw[Pl.yQ,List.length_append];exact o5
  obtain⟨a5,c5,rfl⟩:=tY o6;have B5:Hid (Br L w5 a5 (inner++PT).length (inner++PT)):=(OB o6 (Nat.le_trans HX.o.2 hz) (by rw[List.length_append];have:=hp0.o;omega)).1;have C5:Sc N g n0 #[.int .i64 x.k,.int .i64 x.m,.int .i64 x.n,.string x.s,.slice v.a v.len v.cap,.int .i64 x.line,.int .i64 x.aQ] u w5:=(C4.on (y:=u4.drew) (by apply_rules [Below.refl,Below.drew,below_drewN,dL])).fr (Qh (dK O4.o fun k _=>rfl) g5 hz C4.d.b.size);have cg5:w5.cell? ⟨gp,1,none⟩=some (.slice (some adp) PT.length cp):=by rw[cell_of_row w5 gp 1 _ 42 (0,0) ((g5.block gp (Nat.lt_of_lt_of_le HG.o D4.o.size) (fun q=>by have:=(O4.o.lt gp q.symm).1;have:=HG.o;omega)).trans hp4)];rfl
  have HG5:Hid (gp<w5.heap.size):=Nat.lt_of_lt_of_le (Nat.lt_of_lt_of_le HG.o D4.o.size) g5.size;have F:=C4.f;obtain⟨m5,hm5⟩:∃m,m=(inner++PT).length:=⟨_,rfl⟩;rw[<- hm5]at B5 hrun;have aGq:Hid _:=hrun;clear hm5;clear o5 o6 g5 hrun hp4 hpn;have hl0:(0:Int)<(v.len:Int):=by omega
  have hl8:0<v.len:=by omega
  have HG4:Hid (gp<u4.heap.size):=Nat.lt_of_lt_of_le HG.o D4.o.size;refine wp_region_held_drew (S:=fun w=>Ce N u.heap.size g n0 #[.int .i64 x.k,.int .i64 x.m,.int .i64 x.n,.string x.s,.slice v.a v.len v.cap,.int .i64 x.line,.int .i64 x.aQ] u w/\w.cell? ⟨gp,1,none⟩=some (.slice (some adp) PT.length cp)/\gp<w.heap.size) (by kernel_rfl) ⟨Ce.on F.1,cg,HG4.o⟩ fun hH=>?_;refine Vg [0,1,2,3,4,5,6,7,8,9] hH ?_
  (iterate 10 (refine⟨_,_,_,rfl,rfl,by kernel_rfl,by rfl,fun _ _ _ h=>h,fun w h=>by go_simp;try with_reducible rfl,?_⟩;simp only[Act.put,List.setIfInBounds_toArray,List.set_cons_zero,List.set_cons_succ,List.getElem_toArray,List.getElem_cons_zero,List.getElem_cons_succ]))
  show wpAnyH _ _ _ _ _ _ _ _ _;refine one 10 (by kernel_rfl) rfl fun K9 hK=>?_;rw[if_pos (by rfl)];simp only[List.getElem_toArray,List.getElem_cons_succ,List.getElem_cons_zero];refine Lib.wp_append_run _ (.tmp 102) (.tmp 106) 26 26 rfl _ _ rfl rfl _ _ aGq.o ?_;refine hK.out _ _ ⟨C5.ce,cg5,HG5.o⟩ fun hH=>?_;clear hK K9;simp only[Act.put,List.setIfInBounds_toArray,List.set_cons_zero,List.set_cons_succ,List.getElem_toArray,List.getElem_cons_zero,List.getElem_cons_succ];refine one 11 (by kernel_rfl) rfl fun K9 hK=>?_
  go_simp
  refine (A L g _ _ _ _ _ C5.ce.2.2.1 C5.ce.2.2.2.2.1 ((HX.o.1.step C5.d.b).up C5.d.b.size) (Nat.le_trans HX.o.2 C5.d.b.size) B5.o (by have:=HN.o;rw[List.length_append];show _<=1000000000;omega)).mono ?_;rintro e z9 ⟨a9,n9,c9,base,d,rfl,h1,h2,h3,h4,h5⟩;refine hK.out _ _ ⟨C5.ce.on h2,(h2.cell (p:=⟨gp,1,none⟩) HG5.o).trans cg5,Nat.lt_of_lt_of_le HG5.o h2.size⟩ fun hH=>?_;have RES:Hid (Br L z9 a9 n9 d/\Bw u z9/\base<N.len/\Bs N base/\(N.T base).bf++d=_):=⟨h1,C5.d.b.trans (h2.mono C5.d.b.size),h3,h4,h5⟩;clear hK K9 h1 h2 h3 h4 h5;refine Vg [12,13,14,15] hH ?_
  (iterate 4 (refine⟨_,_,_,rfl,rfl,by kernel_rfl,by rfl,fun _ _ _ h=>h,fun w h=>by go_simp;try with_reducible rfl,?_⟩;simp only[Act.put,List.setIfInBounds_toArray,List.set_cons_zero,List.set_cons_succ,List.getElem_toArray,List.getElem_cons_zero,List.getElem_cons_succ]))
  refine wpAnyH_done (by kernel_rfl) ?_ _;go_wp2_with fail
  go_ret2;refine⟨_,_,_,base,d,rfl,RES.o.1,RES.o.2.1,RES.o.2.2.1,RES.o.2.2.2.1,RES.o.2.2.2.2.trans ?_⟩;rw[HR.o];simp
end
end W
end Go.Proofs.YtjcdiegfnoaedaaGreatDoor
