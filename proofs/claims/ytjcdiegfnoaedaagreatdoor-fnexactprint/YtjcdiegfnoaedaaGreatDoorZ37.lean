import Derived.Test.YtjcdiegfnoaedaaGreatDoorZ03
import Derived.Lib.AppendZeros
set_option linter.unusedVariables false
set_option linter.unusedSimpArgs false
set_option maxHeartbeats 16000000
namespace Go.Proofs.YtjcdiegfnoaedaaGreatDoor
set_option maxRecDepth 4000
namespace W
open Go.RowKit
variable {N:Ns}{lit:Pl.Nd->ByteArray}{i:Nat}{x:Pl.Nd}{ks:List Pl.Tx}{B:Nat}{u:World}{v:SV}
theorem Kd.fp {l c:Int}{t:Pl.Tx}(h:Kd N l c t) (hl:l=102\/l=112):∃(c':Nat) (y:Pl.Nd) (d:List UInt8),c=(c':Int)/\c'<N.len/\N.xs.getD c' Pl.Nd.zero=y/\0<y.kids.length/\t.rk=0/\Wx N 31 [.int .i64 (y.kids.getD 0 0),.string y.s] d/\t.pr=if l=112 then d else d++Pl.say ⟨#[59]⟩:=by
 obtain⟨k,hf,S⟩:=h;obtain⟨c',y,e1,e2,e3,e4,-,-,e5⟩:=S.nd;have hk:k=if l=112 then 7 else 8:=by
  rcases hl with rfl|rfl
  ·have:=Pl.aDS hf;unfold Pl.aH at this;(repeat' split at this) <;> omega
  ·have:=Pl.aDT hf;unfold Pl.aH at this;(repeat' split at this) <;> omega
 obtain⟨h1,hr,d,X,h2⟩:=e5 (by rw[hk];split <;> simp);refine⟨c',y,d,e1,e2,e3,h1,hr,X,h2.trans ?_⟩;rcases hl with rfl|rfl <;> rw[hk] <;> rfl
theorem Xq (V:Nk N lit i x ks) (hk:x.k=10) (hm:Pl.CL x=true):Wx N 15 [.int .i64 (i:Int)] (Pl.aR lit x ks).pr:=by
 have HK:Hid (x.k=10):=hk;clear hk;intro B _ g ts u h na _ hn;obtain⟨T,hT⟩:∃T,T=(Pl.aR lit x ks).pr:=⟨_,rfl⟩;rw[<- hT]at hn ⊢;obtain⟨b,off,v,ea,hb,c,K,hi⟩:=na.node V.hi V.hx;have w0:=(Sg.begin h na hn rfl).cell;have HC:Hid (T=(Pl.aR lit x ks).pr):=hT;clear hT;go_in;go_upto_region 1 with fail
 refine aG fun y hy=>?_;have S0:=fun r e=>Sb.begin (r:=r) _ h na hn hy e;generalize u.heap.size=n0 at S0 ⊢;clear hy w0 c h hn;have hk:=HK.o;have hT:=HC.o;have FH:Hid (N.On B u):=na;have KD:∀j,j<x.kids.length->Kd N 102 (x.kids.getD j 0) (ks.getD j Pl.Tx.no):=fun j hj=>V.ka (m:=4000) hj (by rw[hk];rfl);have hm9:(v.len:Int)<=9223372036854775807:=by have:=K.2.2.1;unfold maxLen at this;have:=K.2.1;omega
 have HL:Hid (v.len=x.kids.length/\ks.length=x.kids.length):=⟨K.1,V.kl⟩;obtain⟨-,-,-,k4⟩:=K;have m9:x.m=1\/x.m=2:=by simpa [Pl.CL,hk] using hm
 clear HC V hm na;rcases m9 with m9|m9;all_goals
  simp[Pl.aR,hk,m9,Pl.nD,Pl.CX,Pl.BA]at hT;have S:=S0 _ hT;have F:=S.f;clear hT S0;go_wp2_with ((with_reducible show Calls _ _ _ _ _);((with_reducible refine S.call.mono ?_);clear S F;rintro e z ⟨rfl,S⟩;have F:=S.f))
  (refine wp_region_held_drew (S:=fun w=>Ce N B g n0 #[.int .i64 x.k,.int .i64 x.m,.int .i64 x.n,.string x.s,.slice v.a v.len v.cap,.int .i64 x.line,.int .i64 x.aQ] u w) (by kernel_rfl) (by first|exact F.1|exact Ce.on F.1|exact Ce.on hH) fun hH=>?_;refine Vg [0,2,3,6,7] hH ?_;(iterate 5 (refine⟨_,_,_,rfl,rfl,by kernel_rfl,by rfl,fun _ _ _ h=>h,fun w h=>by go_simp;try with_reducible rfl,?_⟩;simp only[Act.put,List.setIfInBounds_toArray,List.set_cons_zero,List.set_cons_succ,List.getElem_toArray,List.getElem_cons_zero,List.getElem_cons_succ]));show wpAnyH _ _ _ _ _ _ _ _ _;refine one 1 (by kernel_rfl) rfl fun K9 hK=>?_;go_simp;refine hK.out _ _ (by first|exact F.1|exact Ce.on F.1|exact Ce.on hH) fun hH=>?_;clear hK K9;refine one 4 (by kernel_rfl) rfl fun K9 hK=>?_;go_simp;refine hK.out _ _ (by first|exact F.1|exact Ce.on F.1|exact Ce.on hH) fun hH=>?_;clear hK K9;refine one 5 (by kernel_rfl) rfl fun K9 hK=>?_;go_simp;refine hK.out _ _ (by first|exact F.1|exact Ce.on F.1|exact Ce.on hH) fun hH=>?_;clear hK K9;refine one 8 (by kernel_rfl) rfl fun K9 hK=>?_;go_simp;((with_reducible show Calls _ _ _ _ _);((with_reducible refine S.call.mono ?_);clear S F;rintro e z ⟨rfl,S⟩;have F:=S.f));refine hK.out _ _ (by first|exact F.1|exact Ce.on F.1|exact Ce.on hH) fun hH=>?_;clear hK K9;refine wpAnyH_done (by kernel_rfl) ?_ _)
  go_wp2_with ((with_reducible show Calls _ _ _ _ _);((with_reducible refine S.call.mono ?_);clear S F;rintro e z ⟨rfl,S⟩;have F:=S.f))
  go_loopw [5] (fun i wr=>∃k:Nat,i=.int .i64 (k:Int)/\k<=v.len/\Sb N B g n0 #[.int .i64 x.k,.int .i64 x.m,.int .i64 x.n,.string x.s,.slice v.a v.len v.cap,.int .i64 x.line,.int .i64 x.aQ] u (ts++T) (Pl.wF (ks.drop k)++(Pl.say ⟨#[125]⟩++Pl.say ⟨#[59]⟩)) wr) (fun i _=>v.len-(intOf i).toNat)
  case atStart=>exact⟨0,rfl,Nat.zero_le _,S⟩
  case round=>
   clear S F;obtain⟨k,rfl,hkk,S⟩:=hrel;by_cases hlt:k<v.len
   ·have hi9:(k:Int)<(v.len:Int):=(by omega);rcases k4 with k4|⟨b9,o9,Bn,eb,ec⟩
    ·omega
    have q:=ec k hlt;obtain⟨c,y2,d,e1,hc,hy2,h1,-,X,hd⟩:=(KD k (by have:=HL.o;omega)).fp (.inl rfl);obtain⟨b2,aCd,v2,Vh,hb2,c2,K2,hc2⟩:=FH.o.node hc hy2;rw[ea]at Vh;cases Vh;rw[e1]at q;have hl2:=K2.1;obtain⟨-,-,-,k5⟩:=K2;rcases k5 with k5|⟨b7,o7,ea7,eb7,ec7⟩
    ·omega
    have q7:u.cell? ⟨b7,o7,none⟩=some (.int .i64 (y2.kids.getD 0 0)):=ec7 0 (by omega);have l7:(0:Int)<(v2.len:Int):=(by omega);have l8:0<v2.len:=(by omega);rw[Pl.Bl (by have:=HL.o;omega),hd,if_neg (by decide),List.append_assoc,List.append_assoc]at S;rw[Bn]at S ⊢;have F:=S.f;have X:=X.u (B:=B) (u:=u);generalize y2.kids.getD 0 0=ig at *;clear ec KD Bn e1 hy2 hd hl2 h1 ec7;go_wp2_with ((with_reducible show Calls _ _ _ _ _);((with_reducible refine S.call.mono ?_);clear S F;rintro e z ⟨rfl,S⟩;have F:=S.f))
    (refine wp_region_held_drew (S:=fun w=>Ce N B g n0 #[.int .i64 x.k,.int .i64 x.m,.int .i64 x.n,.string x.s,.slice (some ⟨b9,o9,none⟩) v.len v.cap,.int .i64 x.line,.int .i64 x.aQ] u w) (by kernel_rfl) (by first|exact F.1|exact Ce.on F.1|exact Ce.on hH) fun hH=>?_;refine Vg [0,1,2,3,4,5,6,7,8,9,10] hH ?_;(iterate 11 (refine⟨_,_,_,rfl,rfl,by kernel_rfl,by rfl,fun _ _ _ h=>h,fun w h=>by go_simp;try with_reducible rfl,?_⟩;simp only[Act.put,List.setIfInBounds_toArray,List.set_cons_zero,List.set_cons_succ,List.getElem_toArray,List.getElem_cons_zero,List.getElem_cons_succ]));show wpAnyH _ _ _ _ _ _ _ _ _;refine one 11 (by kernel_rfl) rfl fun K9 hK=>?_;go_simp;refine hK.out _ _ (by first|exact F.1|exact Ce.on F.1|exact Ce.on hH) fun hH=>?_;clear hK K9;refine one 12 (by kernel_rfl) rfl fun K9 hK=>?_;go_simp;refine hK.out _ _ (by first|exact F.1|exact Ce.on F.1|exact Ce.on hH) fun hH=>?_;clear hK K9;refine wpAnyH_done (by kernel_rfl) ?_ _)
    go_wp2_with fail
    refine aG fun y hy=>?_;replace S:=S.on (y:=y) (by rw[hy];apply_rules [Below.refl,Below.drew,below_drewN,dL]);have q9:y.heap[wr.heap.size]?=some (.cells #[.int .i64 y2.k,.int .i64 y2.m,.int .i64 y2.n,.string y2.s,.slice (some ⟨b7,o7,none⟩) v2.len v2.cap,.int .i64 y2.line,.int .i64 y2.aQ] 45):=(by rw[hy];exact heap_alloc_new wr _);generalize wr.heap.size=nf at q9 ⊢;clear hy F;have F:=(Sb.mk S.s q9).f;go_region_held3 (fun w=>Ce N B g nf #[.int .i64 y2.k,.int .i64 y2.m,.int .i64 y2.n,.string y2.s,.slice (some ⟨b7,o7,none⟩) v2.len v2.cap,.int .i64 y2.line,.int .i64 y2.aQ] u w) (first|exact F.1|exact Ce.on F.1|exact Ce.on ‹_›) (((with_reducible show Calls _ _ _ _ _);((with_reducible refine (Sb.aEj S q9).mono ?_);clear S F q9;rintro e z ⟨rfl,S,q9⟩;have F:=(Sb.mk S.s q9).f)))
    clear F;have F:=S.f;go_wp2_with ((with_reducible show Calls _ _ _ _ _);((with_reducible refine S.call.mono ?_);clear S F;rintro e z ⟨rfl,S⟩;have F:=S.f))
    go_roundw
    case rel=>exact⟨k+1,by go_num,by omega,S⟩
    case measure=>simp[intOf];omega
   ·have hi9:¬(k:Int)<(v.len:Int):=(by omega);rw[List.drop_eq_nil_of_le (by have:=HL.o;omega)]at S;replace S:Sb N B g n0 #[.int .i64 x.k,.int .i64 x.m,.int .i64 x.n,.string x.s,.slice v.a v.len v.cap,.int .i64 x.line,.int .i64 x.aQ] u (ts++T) (Pl.say ⟨#[125]⟩++Pl.say ⟨#[59]⟩) wr:=S;have F:=S.f;go_wp2_with ((with_reducible show Calls _ _ _ _ _);((with_reducible refine S.call.mono ?_);clear S F;rintro e z ⟨rfl,S⟩;have F:=S.f))
    go_end0;exact⟨rfl,S.s.fin⟩
theorem Qf {t0:Pl.Tx}{kt:List Pl.Tx}(V:Nk N lit i x (t0 :: kt)) (K:Kr B u v x.kids) (hk:x.k=4):Wu N B u 86 [.agg #[.int .i64 x.k,.int .i64 x.m,.int .i64 x.n,.string x.s,.slice v.a v.len v.cap,.int .i64 x.line,.int .i64 x.aQ]] (Pl.say ⟨#[40]⟩++((if kt.length=0 then Pl.say ⟨#[118,111,105,100]⟩ else [])++(Pl.wG kt++Pl.say ⟨#[41]⟩))):=by
 have HK:Hid (x.k=4):=hk;clear hk;intro g ts u9 h na d hn;obtain⟨T,hT⟩:∃T,T=Pl.say ⟨#[40]⟩++((if kt.length=0 then Pl.say ⟨#[118,111,105,100]⟩ else [])++(Pl.wG kt++Pl.say ⟨#[41]⟩)):=⟨_,rfl⟩;rw[<- hT]at hn ⊢;have K:=K.on d.b;clear d;have HC:Hid (T=Pl.say ⟨#[40]⟩++((if kt.length=0 then Pl.say ⟨#[118,111,105,100]⟩ else [])++(Pl.wG kt++Pl.say ⟨#[41]⟩))):=hT;clear hT;go_in;go_upto_region 1 with fail
 refine aG fun y hy=>?_;have S0:=fun r e=>Sb.begin (r:=r) _ h na hn hy e;generalize u9.heap.size=n0 at S0 ⊢;clear hy h hn;have hT:=HC.o;have hk:=HK.o;have FH:Hid (N.On B u9):=na;have KD:∀j,j<kt.length->Kd N 112 (x.kids.getD (j+1) 0) (kt.getD j Pl.Tx.no):=fun j hj=>V.kj (j:=j+1) (by have:kt.length+1=_:=V.kl;omega) (by rw[hk];exact⟨by show 1<=_;omega,rfl⟩);have hm9:(v.len:Int)<=9223372036854775807:=by have:=K.2.2.1;unfold maxLen at this;have:=K.2.1;omega
 have hl:v.len=kt.length+1:=K.1.trans V.kl.symm;have HL:Hid (v.len=kt.length+1):=hl;obtain⟨-,-,-,k4⟩:=K;have S:∃r,Sb N B g n0 #[.int .i64 x.k,.int .i64 x.m,.int .i64 x.n,.string x.s,.slice v.a v.len v.cap,.int .i64 x.line,.int .i64 x.aQ] u9 (ts++T) r y/\((v.len=1/\r=Pl.say ⟨#[40]⟩++(Pl.say ⟨#[118,111,105,100]⟩++(Pl.wG kt++Pl.say ⟨#[41]⟩)))\/(1<v.len/\r=Pl.say ⟨#[40]⟩++(Pl.wG kt++Pl.say ⟨#[41]⟩))):=by
  by_cases q:kt.length=0
  ·exact⟨_,S0 _ hT,.inl ⟨by omega,by rw[if_pos q]⟩⟩
  ·exact⟨_,S0 _ hT,.inr ⟨by omega,by rw[if_neg q];rfl⟩⟩
 obtain⟨r,S,hr⟩:=S;clear HC V na hl S0 hT hk;rcases hr with ⟨hv,rfl⟩|⟨hv,rfl⟩
 case' inl=>have hv1:(v.len:Int)=1:=(by omega);have HX:Hid (v.len<=1):=(by show _<=_;omega)
 case' inr=>have hv1:((v.len:Int) == 1)=false:=beq_eq_false_iff_ne.2 (by omega);have HX:Hid (1<=v.len):=(by show _<=_;omega)
 all_goals
  have F:=S.f;have HV:Hid (1<=v.len):=by show 1<=v.len;omega
  clear hv;go_wp2_with ((with_reducible show Calls _ _ _ _ _);((with_reducible refine S.call.mono ?_);clear S F;rintro e z ⟨rfl,S⟩;have F:=S.f))
  clear hv1;go_loopw [4] (fun i wr=>∃k:Nat,i=.int .i64 (k:Int)/\1<=k/\k<=v.len/\Sb N B g n0 #[.int .i64 x.k,.int .i64 x.m,.int .i64 x.n,.string x.s,.slice v.a v.len v.cap,.int .i64 x.line,.int .i64 x.aQ] u9 (ts++T) (Pl.Vf kt (k-1)++Pl.say ⟨#[41]⟩) wr) (fun i _=>v.len-(intOf i).toNat)
  case atStart=>exact⟨1,rfl,Nat.le_refl _,HV.o,S⟩
  case round=>
   clear S F;obtain⟨k,rfl,hk1,hkk,S⟩:=hrel;by_cases hlt:k<v.len
   ·first|(exfalso;have:=HX.o;omega)|skip
    all_goals
     have hi9:(k:Int)<(v.len:Int):=(by omega);rcases k4 with k4|⟨b9,o9,Bn,eb,ec⟩
     ·omega
     have q:=ec k hlt;obtain⟨c,y2,d,e1,hc,hy2,h1,hr0,X,hd⟩:=(KD (k-1) (by have:=HL.o;omega)).fp (.inr rfl);rw[show k-1+1=k by omega]at e1;obtain⟨b2,aCd,v2,Vh,hb2,c2,K2,hc2⟩:=FH.o.node hc hy2;rw[e1]at q;have hl2:=K2.1;obtain⟨-,-,-,k5⟩:=K2;rcases k5 with k5|⟨b7,o7,ea7,eb7,ec7⟩
     ·omega
     have q7:u9.cell? ⟨b7,o7,none⟩=some (.int .i64 (y2.kids.getD 0 0)):=ec7 0 (by omega);have l7:(0:Int)<(v2.len:Int):=(by omega);have l8:0<v2.len:=(by omega);have har:(kt.getD (k-1) Pl.Tx.no).ar=d:=(by unfold Pl.Tx.ar;rw[hr0,if_neg (by decide),hd];rfl);rw[Pl.XB (by have:=HL.o;omega),har,show k-1+1=k by omega]at S;rw[Bn]at S ⊢;have X:=X.u (B:=B) (u:=u9);generalize y2.kids.getD 0 0=ig at *;clear ec KD Bn e1 hy2 hd hl2 h1 ec7 har hr0;by_cases hk2:k-1=0
     case' pos=>rw[if_pos hk2,List.append_assoc]at S;have hk3:¬(1:Int)<(k:Int):=by omega
     case' neg=>rw[if_neg hk2,List.append_assoc,List.append_assoc]at S;have hk3:(1:Int)<(k:Int):=by omega
     all_goals
      have F:=S.f;clear hk2;go_wp2_with ((with_reducible show Calls _ _ _ _ _);((with_reducible refine S.call.mono ?_);clear S F;rintro e z ⟨rfl,S⟩;have F:=S.f))
      go_region_held3 (fun w=>Ce N B g n0 #[.int .i64 x.k,.int .i64 x.m,.int .i64 x.n,.string x.s,.slice (some ⟨b9,o9,none⟩) v.len v.cap,.int .i64 x.line,.int .i64 x.aQ] u9 w) (first|exact F.1|exact Ce.on F.1|exact Ce.on ‹_›) (((with_reducible show Calls _ _ _ _ _);((with_reducible refine S.call.mono ?_);clear S F;rintro e z ⟨rfl,S⟩;have F:=S.f)))
      go_wp2_with ((with_reducible show Calls _ _ _ _ _);((with_reducible refine S.call.mono ?_);clear S F;rintro e z ⟨rfl,S⟩;have F:=S.f))
      go_roundw
      case rel=>exact⟨k+1,by go_num,by omega,by omega,S⟩
      case measure=>simp[intOf];omega
   ·have hi9:¬(k:Int)<(v.len:Int):=(by omega);rw[Pl.XC (by have:=HL.o;omega)]at S;replace S:Sb N B g n0 #[.int .i64 x.k,.int .i64 x.m,.int .i64 x.n,.string x.s,.slice v.a v.len v.cap,.int .i64 x.line,.int .i64 x.aQ] u9 (ts++T) (Pl.say ⟨#[41]⟩) wr:=S;have F:=S.f;go_wp2_with ((with_reducible show Calls _ _ _ _ _);((with_reducible refine S.call.mono ?_);clear S F;rintro e z ⟨rfl,S⟩;have F:=S.f))
    go_end0;exact⟨rfl,S.s.fin⟩
end W
set_option maxRecDepth 4000
namespace W
open Go.RowKit
theorem Br.on {L:Nat}{u z:World}{a:Option Addr}{n:Nat}{l:List UInt8}(h:Br L u a n l) (d:Bw u z):Br L z a n l:=by
 obtain⟨h1,ad,e,h2,h3⟩:=h;exact⟨h1,ad,e,⟨h2.1,Nat.lt_of_lt_of_le h2.2 d.size⟩,fun j u' q=>(d.cell (p:=ad.add j) (by have e:(ad.add j).block=ad.block:=(by unfold Addr.add;split <;> rfl);rw[e];exact h2.2)).trans (h3 j u' q)⟩
theorem OB {B L:Nat}{u:World}{a:Option Addr}{n c:Nat}{l:List UInt8}(h:u.ownsRow B 5 1 (.slice a n c) l.length (Pl.bl l)) (hL:L<=B) (hp:0<l.length):Br L u a n l/\∃g,a=some ⟨g,0,none⟩:=by
 rcases h.2 with ⟨e,q⟩|⟨g,cap,cur,e,_⟩
 ·omega
 ·cases e;refine⟨⟨rfl,⟨g,0,none⟩,rfl,⟨Nat.le_trans hL (h.lt g rfl).1,(h.lt g rfl).2⟩,fun j u' q=>?_⟩,g,rfl⟩;have hj:=(List.getElem?_eq_some_iff.1 q).1;rw[Pl.sO]at hj;rw[show (⟨g,0,none⟩:Addr).add j=⟨g,j,none⟩ by simp[Addr.add];omega,World.ownsRow.cellAt h j (by omega)];exact q
theorem AX {ops:Array Oper}{rest:List Oper}{o:Oper}{a:Act}{Q:Exit->Act->World->Prop}{u:World}{B L:Nat}{vo:Value}{ts:List UInt8}(zs:List UInt8) (hgd:o.guard=none) (s x:Operand)
  (ho:o.op=.call { callee:=.builtin .append,args:=#[s,x],argTypes:=#[26,26] }) (hs:a.eval s=vo) (aa:Option Addr) (m cp:Nat) (hx:a.eval x=.slice aa m cp) (hB:B<=u.heap.size)
  (hown:u.ownsRow B 5 1 vo ts.length (Pl.bl ts)) (hbr:Br L u aa m zs) (hn:ts.length+zs.length<=70368744177664)
  (h:∀a' n' c' u',u'.ownsRow B 5 1 (.slice a' n' c') (ts++zs).length (Pl.bl (ts++zs))->Fr B u u'->(∀k,k<u.heap.size->vo.ownBlock≠some k->u'.heap[k]?=u.heap[k]?)->wpList Tryz.prog ops Q rest (a.put o.dst (.slice a' n' c')) u'):wpList Tryz.prog ops Q (o :: rest) a u:=by
 obtain⟨i0,hi0,hz0,hz1,hz2⟩:=info_parts yR;obtain⟨hm,ad,rfl,_,hnews⟩:=hbr;refine wpList_append_own _ hgd s x 26 ho B 5 i0 (.int .u8 0) 1 1 Tryz.underlying26 hi0 hz0 hz1 hz2 rfl (by decide) vo ts.length (Pl.bl ts) hs hown ad m cp (Pl.bl zs) hx (by rw[Pl.sO,hm,Nat.mul_one]) hnews (Pl.CY _) (by unfold maxLen;omega) (by omega) hB ?_;intro v' u' ho' hg _;have ho2:u'.ownsRow B 5 1 v' (ts++zs).length (Pl.bl (ts++zs)):=by rw[Pl.yQ,List.length_append,hm];exact ho'
 obtain⟨a',c',rfl⟩:=tY ho2;refine h a' _ c' u' ho2 ⟨⟨hg.os,hg.tape,hg.output,hg.size,fun b hb=>hg.block b (by omega) (fun q=>?_)⟩,fun k cs t fr hk q1 q2=>(hg.block k (Array.getElem?_eq_some_iff.1 hk).1 (fun q=>?_)).trans hk⟩ (fun k hk q=>hg.block k hk fun e=>q e.symm)
 ·have:=(hown.lt b q.symm).1;omega
 ·rcases hown.2 with ⟨rfl,_⟩|⟨g',cap,cur,rfl,_,hh,_⟩
  ·simp[Value.ownBlock]at q
  ·simp only[Value.ownBlock,Option.some.injEq]at q;subst q;rw[hk]at hh;simp only[Option.some.injEq,Obj.cells.injEq]at hh;exact q1 hh.2.1
theorem vM {ops:Array Oper}{rest:List Oper}{o:Oper}{a:Act}{Q:Exit->Act->World->Prop}{u:World}{L:Nat}{ts:List UInt8}(zs:List UInt8) (hgd:o.guard=none) (s x:Operand)
  (ho:o.op=.call { callee:=.builtin .append,args:=#[s,x],argTypes:=#[26,26] }) (b n:Nat) (hs:a.eval s=.slice (some ⟨b,0,none⟩) n n) (aa:Option Addr) (m cp:Nat) (hx:a.eval x=.slice aa m cp) (hts:Br L u (some ⟨b,0,none⟩) n ts) (hbr:Br L u aa m zs) (hn:ts.length+zs.length<=70368744177664)
  (h:∀a' n' c' u',Br L u' a' n' (ts++zs)->(0<zs.length->u'.ownsRow u.heap.size 5 1 (.slice a' n' c') (ts++zs).length (Pl.bl (ts++zs)))->Bw u u'->wpList Tryz.prog ops Q rest (a.put o.dst (.slice a' n' c')) u'):wpList Tryz.prog ops Q (o :: rest) a u:=by
 obtain⟨i0,hi0,hz0,hz1,hz2⟩:=info_parts yR;obtain⟨hm,ad,rfl,_,hnews⟩:=hbr;obtain⟨hn1,ad1,e1,hb1,hold⟩:=hts;cases e1;refine wpList_append_arg u hgd s x 26 ho 5 i0 (.int .u8 0) 1 1 Tryz.underlying26 hi0 hz0 hz1 hz2 rfl (by decide) b 0 n n (Pl.bl ts) hs (by rw[Pl.sO,hn1,Nat.mul_one]) (fun j w' q=>by have:=hold j w' q;rwa [Addr.add_lit]at this) ad m cp (Pl.bl zs) hx (by rw[Pl.sO,hm,Nat.mul_one]) hnews (Pl.CY _) (fun q j hj=>?_) (by unfold maxLen;omega) (by omega) (fun q=>?_) (fun q v' u' ho' hg=>?_)
 ·rw[Pl.sO]at hj;omega
 ·have hz:zs=[]:=List.eq_nil_of_length_eq_zero (by omega);subst hz;have hm0:m=0:=hm.symm;subst hm0;exact h _ _ _ u (by rw[List.append_nil];exact⟨hn1,_,rfl,hb1,hold⟩) (fun q=>absurd q (by simp)) (Below.refl _ _)
 ·have ho2:u'.ownsRow u.heap.size 5 1 v' (ts++zs).length (Pl.bl (ts++zs)):=by rw[Pl.yQ,List.length_append,hm,hn1];exact ho'
  obtain⟨a',c',rfl⟩:=tY ho2;exact h a' _ c' u' (OB ho2 (Nat.le_trans hb1.1 (Nat.le_of_lt hb1.2)) (by rw[List.length_append];omega)).1 (fun _=>ho2) ⟨hg.os,hg.tape,hg.output,hg.size,fun b hb=>hg.block b hb (by simp)⟩
theorem OC {L:Nat}(w:World) (x y:UInt8) (zx zy:Int) (fr:Nat × Nat) (hx:(x.toNat:Int)=zx) (hy:(y.toNat:Int)=zy) (hL:L<=w.heap.size):Br L (w.alloc (.cells #[.int .u8 zx,.int .u8 zy] 5 fr)) (some ⟨w.heap.size,0,none⟩) 2 [x,y]:=by
 refine⟨rfl,_,rfl,⟨hL,by simp⟩,fun j u' q=>?_⟩;rw[Addr.add_lit,Nat.zero_add,World.cell?_alloc_mark]
 match j,q with
 | 0,q=>cases q;rw[<- hx];rfl
 | 1,q=>cases q;rw[<- hy];rfl
structure Sc (N:Ns) (g n0:Nat) (cs:Array Value) (u z:World):Prop where
 d:Fr u.heap.size u z
 q:z.heap[n0]?=some (.cells cs 45)
 w:u.cell? ⟨g,0,none⟩=some (.slice N.a N.len N.cap)
 g:g<u.heap.size
section
variable {N:Ns}{g n0:Nat}{cs:Array Value}{u z y:World}
theorem Sc.fr (S:Sc N g n0 cs u z) (d:Fr u.heap.size z y):Sc N g n0 cs u y:=⟨S.d.trans d,d.k _ _ _ _ S.q (by decide) (by decide),S.w,S.g⟩
theorem Sc.on (S:Sc N g n0 cs u z) (d:Bw z y):Sc N g n0 cs u y:=⟨S.d.trans (Fr.below d S.d.b.size),(d.block n0 (Array.getElem?_eq_some_iff.1 S.q).1).trans S.q,S.w,S.g⟩
theorem Sc.ce (S:Sc N g n0 cs u z):Ce N u.heap.size g n0 cs u z:=⟨fun j=>cell_of_row z n0 j _ 45 (0,0) S.q,fun k j hk=>S.d.b.cell (p:=⟨k,j,none⟩) hk,(S.d.b.cell (p:=⟨g,0,none⟩) S.g).trans S.w,(Array.getElem?_eq_some_iff.1 S.q).1,Nat.lt_of_lt_of_le S.g S.d.b.size,S.d.b.size⟩
theorem Sc.f (S:Sc N g n0 cs u z):Ce N u.heap.size g n0 cs u z/\∀o,Ce N u.heap.size g n0 cs u (z.alloc o):=⟨S.ce,fun o=>S.ce.on (aA z o)⟩
end
section
variable {N:Ns}{lit:Pl.Nd->ByteArray}{i:Nat}{x:Pl.Nd}{ks:List Pl.Tx}{t:Pl.Tx}
theorem FP (V:Nk N lit i x ks) (hk:x.k=1\/x.k=5\/x.k=6) (hT:t=N.T i) (hb:t.bh=[]):Ar N (i:Int) t:=by
 intro L g a0 m0 c0 inner u hw hg na hL hB hn;obtain⟨b,off,v,ea,hb1,c,K,hi⟩:=na.node V.hi V.hx;have HX:Hid (Bs N i):=by show Bs N i;unfold Bs;rw[V.hx];exact hk
 have HB:Hid (Br L u a0 m0 inner):=hB;have HT:Hid (t=N.T i/\t.bh=[]/\i<N.len):=⟨hT,hb,V.hi⟩;have k2:¬x.k=2:=by omega
 have k3:(x.k == 3)=false:=beq_eq_false_iff_ne.2 (by omega);have k4:(x.k == 4)=false:=beq_eq_false_iff_ne.2 (by omega);clear hk hB hT hb hn;go_in;go_wp2_with fail
 go_ret2;refine⟨_,_,_,i,inner,rfl,HB.o.on (aA u _),aA u _,HT.o.2.2,HX.o,?_⟩;rw[<- HT.o.1,HT.o.2.1,List.append_nil]
theorem Qg (V:Nk N lit i x ks) (hk:x.k=2):Ar N (i:Int) (Pl.aR lit x ks):=by
 have HK:Hid (x.k=2):=hk;intro L g a0 m0 c0 inner u hw hg na hL hB hn;obtain⟨b,off,v,ea,hb1,c,K,hi⟩:=na.node V.hi V.hx;obtain⟨b9,o9,i0,t0,e9,l9,el,rfl,q0,K0⟩:=V.k1 (l:=116) K (.inl (by rw[hk];rfl)) (by rw[hk];rfl);obtain⟨A,ck,y2,rfl,hc,hy2,Tf⟩:=K0.ar;obtain⟨b2,aCd,v2,Vh,hb2,c2,-,hc2⟩:=na.node hc hy2;rw[ea]at Vh;cases Vh;have hbf:(Pl.aR lit x [t0]).bf=t0.bf++((if t0.sf=true then [40,32] else [])++[42,32])/\(Pl.aR lit x [t0]).bh=(if t0.sf=true then [41,32] else [])++t0.bh:=by
  have e:Pl.aR lit x [t0]=Pl.uW (t0.bf++(if t0.sf then Pl.say ⟨#[40]⟩ else [])++Pl.say ⟨#[42]⟩) ((if t0.sf then Pl.say ⟨#[41]⟩ else [])++t0.bh) false:=by simp only[Pl.aR,hk];rfl
  rw[e];exact⟨by rw[<- List.append_assoc];rfl,rfl⟩
 rw[hbf.1,hbf.2]at hn ⊢;have HB:Hid (Br L u a0 m0 inner):=hB;have HS:Hid (t0.sf=true↔y2.k=3\/y2.k=4):=Tf;have HN:Hid (inner.length+6<=70368744177664):=by show _<=_;have hr:Pl.room=1000000000:=rfl;simp only[List.length_append]at hn;omega
 have HX:Hid (N.On u.heap.size u/\L<=u.heap.size):=⟨na,hL⟩;have HM:Hid (∀l:List UInt8,l.length=inner.length+(if t0.sf=true then 6 else 2)->t0.bf.length+l.length+t0.bh.length<=Pl.room):=fun l hl=>by
  simp only[List.length_append]at hn;split at hl <;> simp_all <;> omega
 have hcv:∀(w:World) (C:Array Value) (n c g:Nat),g=w.heap.size->(convert 26 26 (.slice (some ⟨g,0,none⟩) n c)).run Tryz.prog (w.alloc (.cells C 5))=.ok (.slice (some ⟨g,0,none⟩) n c) (w.alloc (.cells C 5 (C.size,C.size+1))):=fun w C n c g hg=>Joins.run_convert_bytes_const_at w 26 5 C n c g hg Tryz.underlying26 Tryz.underlying5;have S:=fun cs y (hy:y=u.alloc (.cells cs 45))=>(show Sc N g u.heap.size cs u y by subst hy;exact⟨Fr.below (aA u _) (Nat.le_refl _),heap_alloc_new u _,hw,hg⟩);obtain⟨R,hR⟩:∃R,R=t0.bf++((if t0.sf=true then [40,32] else [])++[42,32])++(inner++((if t0.sf=true then [41,32] else [])++t0.bh)):=⟨_,rfl⟩;rw[<- hR];have HR:Hid (R=_):=hR;clear hk hB hn hbf Tf hR na hL;go_in;go_upto_region 2 with fail
 refine aG fun y hy=>?_;replace S:=S _ y hy;generalize u.heap.size=n0 at S ⊢;have hk:=HK.o;have F:=S.f;clear hy c K V K0;go_wp2_with fail
 go_region_held3 (fun w=>Ce N u.heap.size g n0 #[.int .i64 x.k,.int .i64 x.m,.int .i64 x.n,.string x.s,.slice (some ⟨b9,o9,none⟩) 1 v.cap,.int .i64 x.line,.int .i64 x.aQ] u w) (first|exact F.1|exact Ce.on F.1|exact Ce.on ‹_›) (fail)
 go_upto_region 4 with fail
 refine aG fun z hz=>?_;replace S:=S.on (y:=z) (by rw[hz];apply_rules [Below.refl,Below.drew,below_drewN,dL]);replace HB:Hid (Br L z a0 m0 inner):=HB.o.on S.d.b;clear hz F;have F:=S.f;by_cases hs:y2.k=3\/y2.k=4
 ·rw[if_pos (HS.o.2 hs),if_pos (HS.o.2 hs)]at HR;rw[if_pos (HS.o.2 hs)]at HM;have hs:y2.k=3\/(¬y2.k=3/\y2.k=4):=by omega
  rcases hs with hs|hs;all_goals
   go_wp2_with (first|(at_builtin;refine vM (L:=L) (ts:=[42,32]) _ rfl _ _ rfl _ 2 rfl _ _ _ rfl (OC _ 42 32 42 32 (2,3) (by decide) (by decide) (by have:=HX.o.2;have:=S.d.b.size;omega)) (HB.o.on (aA _ _)) (by have:=HN.o;simp;omega) fun a1 m1 q1 u1 R1 O1 d1=>?_;have HO:=(fun p=>Joins.ownsRow_le (O1 p) (show u.heap.size<=_ by have:=S.d.b.size;simp;omega));replace S:=S.on ((aA _ _).trans (d1.mono (by simp)));replace HB:Hid (Br L u1 a1 m1 _):=R1;clear F R1 O1 d1;have F:=S.f)|(at_builtin;refine vM (L:=L) (ts:=[40,32]) _ rfl _ _ rfl _ 2 rfl _ _ _ rfl (OC _ 40 32 40 32 (2,3) (by decide) (by decide) (by have:=HX.o.2;have:=S.d.b.size;omega)) (HB.o.on (aA _ _)) (by have:=HN.o;simp;omega) fun a1 m1 q1 u1 R1 O1 d1=>?_;have HO:=(fun p=>Joins.ownsRow_le (O1 p) (show u.heap.size<=_ by have:=S.d.b.size;simp;omega));replace S:=S.on ((aA _ _).trans (d1.mono (by simp)));replace HB:Hid (Br L u1 a1 m1 _):=R1;clear F R1 O1 d1;have F:=S.f)|(at_builtin;refine AX (B:=u.heap.size) (L:=L) [41,32] rfl _ _ rfl rfl _ _ _ rfl (by have:=S.d.b.size;simp;omega) (dK (HO (by simp)) fun k hk=>Below.heap_alloc _ _ k ((HO (by simp)).lt k hk).2) (OC _ 41 32 41 32 (2,3) (by decide) (by decide) (by have:=HX.o.2;have:=S.d.b.size;omega)) (by have:=HN.o;simp;omega) fun a3 m3 q3 u3 o3 f3 p3=>?_;replace S:=(S.on (aA _ _)).fr f3;replace HB:Hid (Br L u3 a3 m3 _):=(OB o3 HX.o.2 (by simp)).1;clear F o3 f3 p3;have F:=S.f)|((with_reducible show Calls _ _ _ _ _);refine (A L g _ _ _ _ _ S.ce.2.2.1 S.ce.2.2.2.2.1 ((HX.o.1.step S.d.b).up S.d.b.size) (Nat.le_trans HX.o.2 S.d.b.size) HB.o (HM.o _ (by simp;try omega))).mono ?_;rintro e z ⟨a9,n9,c9,base,d,rfl,h1,h2,h3,h4,h5⟩;have RES:Hid (Br L z a9 n9 d/\Bw u z/\base<N.len/\Bs N base/\(N.T base).bf++d=_):=⟨h1,S.d.b.trans (h2.mono S.d.b.size),h3,h4,h5⟩;clear h1 h2 h3 h4 h5))
   go_ret2;refine⟨_,_,_,base,d,rfl,RES.o.1,RES.o.2.1,RES.o.2.2.1,RES.o.2.2.2.1,RES.o.2.2.2.2.trans ?_⟩;rw[HR.o];simp
 ·rw[if_neg (fun q=>hs (HS.o.1 q)),if_neg (fun q=>hs (HS.o.1 q))]at HR;rw[if_neg (fun q=>hs (HS.o.1 q))]at HM;have h3:(y2.k == 3)=false:=beq_eq_false_iff_ne.2 (by omega);have h4:(y2.k == 4)=false:=beq_eq_false_iff_ne.2 (by omega);go_wp2_with (first|(at_builtin;refine vM (L:=L) (ts:=[42,32]) _ rfl _ _ rfl _ 2 rfl _ _ _ rfl (OC _ 42 32 42 32 (2,3) (by decide) (by decide) (by have:=HX.o.2;have:=S.d.b.size;omega)) (HB.o.on (aA _ _)) (by have:=HN.o;simp;omega) fun a1 m1 q1 u1 R1 O1 d1=>?_;have HO:=(fun p=>Joins.ownsRow_le (O1 p) (show u.heap.size<=_ by have:=S.d.b.size;simp;omega));replace S:=S.on ((aA _ _).trans (d1.mono (by simp)));replace HB:Hid (Br L u1 a1 m1 _):=R1;clear F R1 O1 d1;have F:=S.f)|((with_reducible show Calls _ _ _ _ _);refine (A L g _ _ _ _ _ S.ce.2.2.1 S.ce.2.2.2.2.1 ((HX.o.1.step S.d.b).up S.d.b.size) (Nat.le_trans HX.o.2 S.d.b.size) HB.o (HM.o _ (by simp;try omega))).mono ?_;rintro e z ⟨a9,n9,c9,base,d,rfl,h1,h2,h3,h4,h5⟩;have RES:Hid (Br L z a9 n9 d/\Bw u z/\base<N.len/\Bs N base/\(N.T base).bf++d=_):=⟨h1,S.d.b.trans (h2.mono S.d.b.size),h3,h4,h5⟩;clear h1 h2 h3 h4 h5))
  go_ret2;refine⟨_,_,_,base,d,rfl,RES.o.1,RES.o.2.1,RES.o.2.2.1,RES.o.2.2.2.1,RES.o.2.2.2.2.trans ?_⟩;rw[HR.o];simp
end
end W
end Go.Proofs.YtjcdiegfnoaedaaGreatDoor
