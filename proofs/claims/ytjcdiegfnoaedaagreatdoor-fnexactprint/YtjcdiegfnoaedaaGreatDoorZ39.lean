import Derived.Test.YtjcdiegfnoaedaaGreatDoorZ38
set_option linter.unusedVariables false
set_option linter.unusedSimpArgs false
set_option maxHeartbeats 16000000
namespace Go.Proofs.YtjcdiegfnoaedaaGreatDoor
set_option maxRecDepth 4000
namespace W
open Go.RowKit
def Wk (f:FuncId) (args:List Value) (t:List UInt8):Prop:=∀(B g:Nat) (nv:Value) (ts:List UInt8) (z:World),Wr B g nv ts z->ts.length+t.length<=Pl.room->Calls Tryz.prog f (.pointer (some ⟨g,0,none⟩) :: args).toArray z fun e z'=>e=.returned (.tuple #[])/\Wr B g nv (ts++t) z'/\Fr B z z'/\Kp g z z'
theorem aC3 (s:ByteArray):Wk 30 [.string s] (Pl.say s):=fun B g nv ts z h hn=>by
 have e:(Pl.say s).length=s.size+1:=by unfold Pl.say;rw[List.length_append,Array.length_toList];rfl
 exact Ki s z h (by omega)
structure Sk (N:Ns) (B g:Nat) (u:World) (W r:List UInt8) (z:World):Prop where
 s:Sg N B g u W r z
 p:Kp g u z
section
variable {N:Ns}{B g n0:Nat}{cs:Array Value}{u z y:World}{W r R t ts:List UInt8}
theorem Sk.call {f:FuncId}{args:List Value}(S:Sk N B g u W R z) (d:Bw z y:=by apply_rules [Below.refl,Below.drew,below_drewN,dL]) (X:Wk f args t:=by first|exact aC3 _|exact Xr _ _) (hR:t++r=R:=by first|rfl|exact List.append_nil _|(simp only[List.append_assoc];rfl)):Calls Tryz.prog f (.pointer (some ⟨g,0,none⟩) :: args).toArray y fun e z'=>e=.returned (.tuple #[])/\Sk N B g u W r z'/\Fr B z z':=by
 have S1:=S.s.on d;obtain⟨ts0,e0,h0⟩:=S.s.w;obtain⟨ts,e,h⟩:=S1.w;subst hR;have hn:=S1.n;rw[<- e]at hn;simp only[List.length_append]at hn;refine (X B g _ ts y h (by omega)).mono ?_;rintro _ z' ⟨rfl,h1,h2,h3⟩;exact⟨rfl,⟨⟨⟨ts++t,by rw[List.append_assoc];exact e,h1⟩,S1.n,S1.d.trans h2,S1.a.step h2.b⟩,(S.p.trans (Kp.below d h0.lt)).trans h3⟩,(Fr.below d S.s.size).trans h2⟩
theorem Br.kp {L n:Nat}{a:Option Addr}{l:List UInt8}(h:Br L u a n l) (p:Kp g u z) (q:∀ad,a=some ad->Asd g ad.block u):Br L z a n l:=by
 obtain⟨h1,ad,e,h2,h3⟩:=h;obtain⟨p1,p2⟩:=p _ (q ad e);refine⟨h1,ad,e,⟨h2.1,p1.1⟩,fun j u' hj=>?_⟩;have eb:(ad.add j).block=ad.block:=by unfold Addr.add;split <;> rfl
 exact (World.cell?_of_block (w:=u) (a:=ad.add j) (by rw[eb];exact p2)).trans (h3 j u' hj)
end
theorem Xr (a b:ByteArray):Wk 29 [.string a,.string b] (Pl.say a++Pl.say b):=by
 intro B g nv ts u h hn;have S:Hid (Wr B g nv ts u/\Fr B u u/\Kp g u u):=⟨h,Fr.refl _ _,Kp.refl _ _⟩;have HN:Hid (ts.length+(a.size+1+(b.size+1))<=Pl.room):=by
  have e:∀s:ByteArray,(Pl.say s).length=s.size+1:=fun s=>by unfold Pl.say;rw[List.length_append,Array.length_toList];rfl
  rw[List.length_append,e,e]at hn;exact hn
 have HE:Hid (∀s:ByteArray,(Pl.say s).length=s.size+1):=fun s=>by unfold Pl.say;rw[List.length_append,Array.length_toList];rfl
 clear h hn;go_in;go_wp2_with ((with_reducible refine (Ki _ _ S.o.1 (by have:=HN.o;(try rw[List.length_append,HE.o]);omega)).mono ?_);rintro e z ⟨rfl,s1,d1,p1⟩;replace S:Hid (Wr B g nv _ z/\Fr B u z/\Kp g u z):=⟨s1,S.o.2.1.trans d1,S.o.2.2.trans p1⟩;clear s1 d1 p1)
 go_end0;exact⟨rfl,by rw[<- List.append_assoc];exact S.o.1,S.o.2⟩
def Bt (N:Ns) (b:Nat) (y:Pl.Nd):Prop:=(y.k=1/\1<=y.n/\y.n<=7/\(N.T b).bf=Pl.say (Pl.CX Pl.PM y.n))\/(y.k=5/\1<=y.m/\y.m<=3/\(N.T b).bf=Pl.say (Pl.CX Pl.BA y.m)++Pl.say y.s)\/(y.k=6/\(N.T b).bf=Pl.say y.s)
theorem Ey {N:Ns}{i:Nat}{t:Pl.Tx}(A:Ar N (i:Int) t) (hT:∀b y,b<N.len->Bs N b->N.xs.getD b Pl.Nd.zero=y->Bt N b y) (s:ByteArray) (hs:s.size<=40):Wx N 31 [.int .i64 (i:Int),.string s] (t.dc s):=by
 intro B _ g ts u h na _ hn;obtain⟨nm,hnm⟩:∃nm,nm=if s=⟨#[]⟩ then [] else s.data.toList++[32]:=⟨_,rfl⟩
 have hdc:t.dc s=t.bf++(nm++t.bh):=by rw[hnm];exact List.append_assoc ..
 rw[hdc]at hn ⊢;obtain⟨T,hT0⟩:∃T,T=t.bf++(nm++t.bh):=⟨_,rfl⟩;have HA:Hid (∀(z:World) (a0:Option Addr) (m0 c0:Nat),Bw u z->Br u.heap.size z a0 m0 nm->Calls Tryz.prog 55 #[.pointer (some ⟨g,0,none⟩),.int .i64 (i:Int),.slice a0 m0 c0] z fun e z'=>ArG N u.heap.size T z e z'):=fun z a0 m0 c0 d hb=>by
  have S:=(Sg.begin h na hn rfl).on d;rw[hT0];exact A u.heap.size g a0 m0 c0 nm z S.cell (Nat.lt_of_lt_of_le h.lt d.size) (S.a.up S.size) d.size hb (by simp only[List.length_append]at hn;omega)
 rw[<- hT0]at hn ⊢;have H0:Hid (Wr B g (.slice N.a N.len N.cap) ts u/\N.On B u/\ts.length+T.length<=Pl.room):=⟨h,na,hn⟩;have hcv:∀(u:World) (t:ByteArray),(convert 9 26 (.string t)).run Tryz.prog u=.ok (.slice (some ⟨u.heap.size,0,none⟩) t.size (grownCap u t.size 0 5)) (Lib.bytesWorld u 5 t):=fun u t=>Lib.run_convert_string_bytes u 9 26 5 t Tryz.underlying9 Tryz.underlying26 Tryz.underlying5;have GX:Hid (nm=_):=hnm;clear hn h na hT0 hdc A hnm;have tl0:s.toList=[]↔s=⟨#[]⟩:=by
  rw[ByteArray.toList_eq];obtain⟨a⟩:=s;exact⟨fun q=>congrArg ByteArray.mk (Array.toList_inj.1 q),fun q=>by rw[q]⟩
 by_cases hs0:s=⟨#[]⟩
 case' pos=>
  have hse:s.toList=[]:=tl0.2 hs0;rw[if_pos hs0]at GX;clear hs0 tl0;go_in;go_upto_region 3 with fail
  refine aG fun y hy=>?_;have IB:Hid (Br u.heap.size y (some ⟨u.heap.size,0,none⟩) 0 nm):=by
   show Br _ y _ _ _;rw[GX.o];exact⟨rfl,_,rfl,⟨Nat.le_refl _,by rw[hy];simp⟩,fun j u' q=>by simp[Pl.bl]at q⟩
  have D:Hid (Bw u y):=by show Below _ u y;rw[hy];exact aA u _
  clear hy hse
 case' neg=>
  have hse:(s.toList == [])=false:=beq_eq_false_iff_ne.2 (fun q=>hs0 (tl0.1 q));have aGr:¬s.toList=[]:=fun q=>hs0 (tl0.1 q);rw[if_neg hs0]at GX;clear hs0 tl0;go_in;go_upto_region 3 with fail
  refine aG fun y hy=>?_;have IB:Hid (Br u.heap.size y (some ⟨u.heap.size+1,0,none⟩) (s.size+1) nm):=by
   have e:nm=(s++⟨#[32]⟩:ByteArray).data.toList:=(by rw[GX.o];simp);show Br _ y _ _ _;rw[hy,e];exact⟨by simp,_,rfl,⟨by simp,by rw[Lib.bytesWorld_size];simp⟩,by have q:=JI (u.alloc (.cells #[] 5)) (s++⟨#[32]⟩);rw[World.size_alloc]at q;exact q⟩
  have D:Hid (Bw u y):=by show Below _ u y;rw[hy];exact (aA u _).trans (Joins.below_bytesWorld _ _ 5 _ (by simp))
  clear hy hse aGr
 all_goals
  clear hcv GX;go_upto_region 4 with ((with_reducible show Calls _ _ _ _ _);refine (HA.o _ _ _ _ D.o IB.o).mono ?_;rintro e z ⟨a9,n9,c9,base,d,rfl,h1,h2,h3,h4,h5⟩;have HD:Hid (Br u.heap.size z a9 n9 d/\Bw u z/\(N.T base).bf++d=T):=⟨h1,D.o.trans (h2.mono D.o.size),h5⟩;have qE:Hid (base<N.len/\Bs N base):=⟨h3,h4⟩;clear h1 h2 h3 h4 h5)
  obtain⟨y2,hy2⟩:∃y2,N.xs.getD base Pl.Nd.zero=y2:=⟨_,rfl⟩;have hb:=hT base y2 qE.o.1 qE.o.2 hy2;have S1:=(Sg.begin H0.o.1 H0.o.2.1 H0.o.2.2 HD.o.2.2.symm).on HD.o.2.1;obtain⟨b,off,v2,ea,hb1,c,-,hi⟩:=S1.a.node qE.o.1 hy2;have w0:=S1.cell;have S2:=fun cs y (hy:y=z.alloc (.cells cs 45))=>(show Sk N B g y (ts++T) ((N.T base).bf++d) y/\y.heap[z.heap.size]?=some (.cells cs 45)/\Bw u y by subst hy;exact⟨⟨⟨(S1.on (aA z _)).w,S1.n,Fr.refl _ _,(S1.on (aA z _)).a⟩,Kp.refl _ _⟩,heap_alloc_new z _,HD.o.2.1.trans ((aA z _).mono HD.o.2.1.size)⟩);have DF:Hid (Fr B u z):=Fr.below HD.o.2.1 H0.o.1.size;clear S1 hT;go_upto_region 5 with fail
  refine aG fun y hy=>?_;obtain⟨S,Q,D2⟩:=S2 _ y hy;have HD2:Hid (Br u.heap.size y a9 n9 d):=HD.o.1.on (by rw[hy];exact aA z _);have DG:Hid (Fr B u y):=DF.o.trans (by rw[hy];exact Fr.below (aA z _) (Nat.le_trans H0.o.1.size HD.o.2.1.size));have HAS:Hid (∀ad,a9=some ad->Asd g ad.block y):=fun ad e=>by
   obtain⟨-,ad',e',h2,-⟩:=HD2.o;rw[e]at e';cases e';obtain⟨vo,sZ,ho⟩:=H0.o.1.ex;refine⟨h2.2,fun q=>?_,fun nv vo' q q2=>?_⟩
   ·have:=H0.o.1.lt;omega
   ·rw[D2.block g H0.o.1.lt,sZ]at q;simp only[Option.some.injEq,Obj.cells.injEq]at q;have e2:=congrArg (fun x:Array Value=>x[1]?) q.1;simp at e2;rw[<- e2]at q2;have:=(ho.lt _ q2).2;omega
  generalize z.heap.size=n0 at Q ⊢;clear hy S2 c w0 D2;have F:=(Sb.mk S.s Q).f;rcases hb with ⟨hk,hn1,hn2,hb⟩|⟨hk,hn1,hn2,hb⟩|⟨hk,hb⟩;all_goals first|(have hm:y2.n=1\/y2.n=2\/y2.n=3\/y2.n=4\/y2.n=5\/y2.n=6\/y2.n=7:=(by omega);clear hn1 hn2;rcases hm with hm|hm|hm|hm|hm|hm|hm)|(have hm:y2.m=1\/y2.m=2\/y2.m=3:=(by omega);clear hn1 hn2;rcases hm with hm|hm|hm)|skip
  all_goals first|(simp[hm,Pl.CX,Pl.PM,Pl.BA]at hb)|skip
  all_goals (rw[hb]at S;clear hb;try rw[List.append_assoc]at S)
  all_goals go_upto_region 11 with ((with_reducible show Calls _ _ _ _ _);((with_reducible refine S.call.mono ?_);clear S F;rintro e z ⟨rfl,S,dd⟩;replace Q:=dd.k _ _ _ _ Q (by decide) (by decide);have F:=(Sb.mk S.s Q).f;clear dd))
  all_goals first|((refine wp_region_held_drew (S:=fun w=>Ce N B g n0 #[.int .i64 y2.k,.int .i64 y2.m,.int .i64 y2.n,.string y2.s,.slice v2.a v2.len v2.cap,.int .i64 y2.line,.int .i64 y2.aQ] y w) (by kernel_rfl) (by first|exact F.1|exact Ce.on F.1|exact Ce.on hH) fun hH=>?_;refine Vg [0,2,3,6,7] hH ?_;(iterate 5 (refine⟨_,_,_,rfl,rfl,by kernel_rfl,by rfl,fun _ _ _ h=>h,fun w h=>by go_simp;try with_reducible rfl,?_⟩;simp only[Act.put,List.setIfInBounds_toArray,List.set_cons_zero,List.set_cons_succ,List.getElem_toArray,List.getElem_cons_zero,List.getElem_cons_succ]));show wpAnyH _ _ _ _ _ _ _ _ _;refine one 1 (by kernel_rfl) rfl fun K9 hK=>?_;go_simp;refine hK.out _ _ (by first|exact F.1|exact Ce.on F.1|exact Ce.on hH) fun hH=>?_;clear hK K9;refine one 4 (by kernel_rfl) rfl fun K9 hK=>?_;go_simp;refine hK.out _ _ (by first|exact F.1|exact Ce.on F.1|exact Ce.on hH) fun hH=>?_;clear hK K9;refine one 5 (by kernel_rfl) rfl fun K9 hK=>?_;go_simp;refine hK.out _ _ (by first|exact F.1|exact Ce.on F.1|exact Ce.on hH) fun hH=>?_;clear hK K9;refine one 8 (by kernel_rfl) rfl fun K9 hK=>?_;go_simp;((with_reducible show Calls _ _ _ _ _);((with_reducible refine S.call.mono ?_);clear S F;rintro e z ⟨rfl,S,dd⟩;replace Q:=dd.k _ _ _ _ Q (by decide) (by decide);have F:=(Sb.mk S.s Q).f;clear dd));refine hK.out _ _ (by first|exact F.1|exact Ce.on F.1|exact Ce.on hH) fun hH=>?_;clear hK K9;refine wpAnyH_done (by kernel_rfl) ?_ _);go_upto_region 11 with fail)|skip
  all_goals
   obtain⟨ts2,e2,h2⟩:=S.s.w;obtain⟨vo,hb0,ho⟩:=h2.ex;obtain⟨hm9,ad,rfl,-,hnews⟩:=HD2.o.kp S.p HAS.o;have k1:z.cell? ⟨g,1,none⟩=some vo:=(by rw[cell_of_row z g 1 _ 42 (0,0) hb0];rfl);have HO:Hid (z.heap[g]?=some (.cells #[.slice N.a N.len N.cap,vo] 42)/\z.ownsRow B 5 1 vo ts2.length (Pl.bl ts2)/\B<=g/\B<=z.heap.size/\Fr B u z):=⟨hb0,ho,h2.ge,h2.size,DG.o.trans S.s.d⟩;have HE:Hid (ts2++d=ts++T/\ts2.length+n9<=70368744177664):=⟨e2,by have:=S.s.n;rw[<- e2,List.length_append]at this;have hr:Pl.room=1000000000:=rfl;omega⟩;have Ti:Hid (d.length=n9/\∀j u',(Pl.bl d)[j]?=some u'->z.cell? (ad.add j)=some u'):=⟨hm9,hnews⟩;clear S hb0 ho h2 e2 hnews hm9 Q;go_wp2_with (at_builtin;refine qP d rfl _ _ rfl rfl ad _ _ rfl Ti.o.1 HO.o.2.2.2.1 HO.o.1 HO.o.2.1 Ti.o.2 HE.o.2 fun a3 n3 q3 u3 e3 o3 b3 d3 A3=>?_;have K3:=(fun j=>cell_of_row u3 g j _ 42 (0,0) b3);have F3:=(fun j=>frozen_of_row u3 g j _ 42 b3);have W3:Hid (Wr B g (.slice N.a N.len N.cap) (ts++T) (u3.setCell ⟨g,1,none⟩ (.slice a3 n3 q3))/\Fr B u (u3.setCell ⟨g,1,none⟩ (.slice a3 n3 q3))):=⟨by rw[<- HE.o.1];exact Wr.put b3 o3 HO.o.2.2.1,(HO.o.2.2.2.2.trans d3).set b3 HO.o.2.2.1 _ _⟩;clear e3 o3 b3 d3 A3)
   go_end0;exact⟨rfl,W3.o⟩
end W
end Go.Proofs.YtjcdiegfnoaedaaGreatDoor
