import Derived.Test.YtjcdiegfnoaedaaGreatDoorZ03
set_option linter.unusedVariables false
set_option linter.unusedSimpArgs false
set_option maxHeartbeats 16000000
namespace Go.Proofs.YtjcdiegfnoaedaaGreatDoor
set_option maxRecDepth 4000
namespace W
open Go.RowKit
variable {N:Ns}{lit:Pl.Nd->ByteArray}{i:Nat}{x:Pl.Nd}{ks:List Pl.Tx}{B:Nat}{u:World}{v:SV}
theorem aC1 (V:Nk N lit i x ks) (K:Kr B u v x.kids) (hk:26<=x.k/\x.k<=32):Wu N B u 58 [.agg #[.int .i64 x.k,.int .i64 x.m,.int .i64 x.n,.string x.s,.slice v.a v.len v.cap,.int .i64 x.line,.int .i64 x.aQ]] (Pl.aR lit x ks).pr:=by
 intro g ts z h na d hn;obtain⟨T,hT⟩:∃T,T=(Pl.aR lit x ks).pr:=⟨_,rfl⟩;rw[<- hT]at hn ⊢;have K:=K.on d.b;clear d;have HC:Hid (T=(Pl.aR lit x ks).pr):=hT;clear hT;go_in;go_upto_region 1 with fail
 refine aG fun y hy=>?_;have S0:=fun r e=>Sb.begin (r:=r) _ h na hn hy e;generalize z.heap.size=n0 at S0 ⊢;clear hy h na hn;have hT:=HC.o;have hl:x.k=32->x.kids.length=0\/x.kids.length=1:=fun hk=>by have:=V.kf.2;rw[hk]at this;have:x.kids.length<=1:=this;omega
 have hk:x.k=26\/x.k=27\/x.k=28\/x.k=29\/x.k=30\/x.k=31\/x.k=32:=by omega
 clear HC;rcases hk with hk|hk|hk|hk|hk|hk|hk;all_goals first|(have hl:=hl hk;rcases hl with hl|hl)|skip
 all_goals (first|(have Q:=V.k0 K (.inl (by rw[hk];rfl));obtain⟨rfl,el⟩:=Q)|(have Q:=V.k1 (l:=115) K (.inl (by rw[hk];rfl)) (by rw[hk];rfl);obtain⟨b9,o9,i0,t0,e9,l9,el,rfl,q0,K0⟩:=Q)|(have Q:=V.k2 (l:=101) (l':=115) K (.inl (by rw[hk];rfl)) (by rw[hk];rfl);obtain⟨b9,o9,i0,i1,t0,t1,e9,l9,el,rfl,⟨q0,K0⟩,q1,K1⟩:=Q)|(have Q:=V.k0 K (.inr hl);obtain⟨rfl,el⟩:=Q)|(have Q:=V.k1 (l:=101) K (.inr hl) (by rw[hk];rfl);obtain⟨b9,o9,i0,t0,e9,l9,el,rfl,q0,K0⟩:=Q))
 all_goals (simp[Pl.aR,hk,Pl.nD,Pl.wF]at hT;have S:=S0 _ hT;clear hT S0;have F:=S.f)
 all_goals go_wp2_with ((with_reducible show Calls _ _ _ _ _);((with_reducible refine S.call.mono ?_);clear S F;rintro e z ⟨rfl,S⟩;have F:=S.f))
 all_goals
  go_end0;exact⟨rfl,S.s.fin⟩
theorem aC2 (V:Nk N lit i x ks) (hk:Pl.aH x.k=7\/Pl.aH x.k=10) (h17:x.k≠17) (h24:x.k≠24) (X:x.k=13->Wx N 15 [.int .i64 (i:Int)] (Pl.aR lit x ks).pr):Wx N 33 [.int .i64 (i:Int)] (Pl.aR lit x ks).pr:=by
 intro B _ g ts u h na _ hn;obtain⟨T,hT⟩:∃T,T=(Pl.aR lit x ks).pr:=⟨_,rfl⟩;rw[<- hT]at hn ⊢;obtain⟨b,off,v,ea,hb,c,K,hi⟩:=na.node V.hi V.hx;have w0:=(Sg.begin h na hn rfl).cell;have HC:Hid (T=(Pl.aR lit x ks).pr):=hT;clear hT;go_in;go_upto_region 1 with fail
 refine aG fun y hy=>?_;have S0:=fun r e=>Sb.begin (r:=r) _ h na hn hy e;generalize u.heap.size=n0 at S0 ⊢;clear hy w0 c h na hn;have hT:=HC.o;have hl:x.k=21->x.kids.length=2\/x.kids.length=3:=fun hk=>by have:=V.kf;rw[hk]at this;have:2<=x.kids.length/\x.kids.length<=3:=this;omega
 have hk:x.k=13\/x.k=19\/x.k=20\/x.k=21\/x.k=22\/x.k=23\/x.k=25\/26<=x.k/\x.k<=32:=by rcases hk with hk|hk <;> (unfold Pl.aH at hk;(repeat' split at hk) <;> omega)
 clear HC h17 h24;rcases hk with hk|hk|hk|hk|hk|hk|hk|hk;all_goals first|(have hl:=hl hk;rcases hl with hl|hl)|skip
 all_goals (first|(have X:=X hk B u;have S:=S0 _ hT;clear hT)|(have J:=aC1 V K hk;have S:=S0 _ hT;clear hT;have k1:(x.k == 22)=false:=beq_eq_false_iff_ne.2 (by omega);have k2:(x.k == 25)=false:=beq_eq_false_iff_ne.2 (by omega))|(have Q:=V.k0 K (.inl (by rw[hk];rfl));obtain⟨rfl,el⟩:=Q)|(have Q:=V.k1 (l:=101) K (.inl (by rw[hk];rfl)) (by rw[hk];rfl);obtain⟨b9,o9,i0,t0,e9,l9,el,rfl,q0,K0⟩:=Q)|(have Q:=V.k2 (l:=101) (l':=115) K (.inl (by rw[hk];rfl)) (by rw[hk];rfl);obtain⟨b9,o9,i0,i1,t0,t1,e9,l9,el,rfl,⟨q0,K0⟩,q1,K1⟩:=Q)|(have Q:=V.k2 (l:=115) (l':=101) K (.inl (by rw[hk];rfl)) (by rw[hk];rfl);obtain⟨b9,o9,i0,i1,t0,t1,e9,l9,el,rfl,⟨q0,K0⟩,q1,K1⟩:=Q)|(have Q:=V.k2 (l:=101) (l':=115) K (.inr hl) (by rw[hk];rfl);obtain⟨b9,o9,i0,i1,t0,t1,e9,l9,el,rfl,⟨q0,K0⟩,q1,K1⟩:=Q)|(have Q:=V.k3 (l:=101) (l':=115) (l2:=115) K (.inr hl) (by rw[hk];rfl);obtain⟨b9,o9,i0,i1,i2,t0,t1,t2,e9,l9,el,rfl,⟨q0,K0⟩,⟨q1,K1⟩,q2,K2⟩:=Q))
 all_goals first|(simp[Pl.aR,hk,Pl.nD]at hT;have S:=S0 _ hT;clear hT)|(generalize (Pl.aR lit x ks).pr=T' at *)
 all_goals (clear S0;have F:=S.f)
 all_goals go_wp2_with ((with_reducible show Calls _ _ _ _ _);((with_reducible refine S.call.mono ?_);clear S F;rintro e z ⟨rfl,S⟩;have F:=S.f))
 all_goals first|(refine wp_region_held_drew (S:=fun w=>Ce N B g n0 #[.int .i64 x.k,.int .i64 x.m,.int .i64 x.n,.string x.s,.slice v.a v.len v.cap,.int .i64 x.line,.int .i64 x.aQ] u w) (by kernel_rfl) (by first|exact F.1|exact Ce.on F.1|exact Ce.on hH) fun hH=>?_;refine Vg [0,2,3,4,7,8,9,10] hH ?_;(iterate 8 (refine⟨_,_,_,rfl,rfl,by kernel_rfl,by rfl,fun _ _ _ h=>h,fun w h=>by go_simp;try with_reducible rfl,?_⟩;simp only[Act.put,List.setIfInBounds_toArray,List.set_cons_zero,List.set_cons_succ,List.getElem_toArray,List.getElem_cons_zero,List.getElem_cons_succ]));show wpAnyH _ _ _ _ _ _ _ _ _;refine one 1 (by kernel_rfl) rfl fun K9 hK=>?_;go_simp;refine hK.out _ _ (by first|exact F.1|exact Ce.on F.1|exact Ce.on hH) fun hH=>?_;clear hK K9;refine one 5 (by kernel_rfl) rfl fun K9 hK=>?_;go_simp;refine hK.out _ _ (by first|exact F.1|exact Ce.on F.1|exact Ce.on hH) fun hH=>?_;clear hK K9;refine one 6 (by kernel_rfl) rfl fun K9 hK=>?_;go_simp;refine hK.out _ _ (by first|exact F.1|exact Ce.on F.1|exact Ce.on hH) fun hH=>?_;clear hK K9;refine one 11 (by kernel_rfl) rfl fun K9 hK=>?_;go_simp;((with_reducible show Calls _ _ _ _ _);((with_reducible refine S.call.mono ?_);clear S F;rintro e z ⟨rfl,S⟩;have F:=S.f));refine hK.out _ _ (by first|exact F.1|exact Ce.on F.1|exact Ce.on hH) fun hH=>?_;clear hK K9;refine wpAnyH_done (by kernel_rfl) ?_ _)|skip
 all_goals go_wp2_with ((with_reducible show Calls _ _ _ _ _);((with_reducible refine S.call.mono ?_);clear S F;rintro e z ⟨rfl,S⟩;have F:=S.f))
 all_goals
  go_end0;exact⟨rfl,S.s.fin⟩
end W
end Go.Proofs.YtjcdiegfnoaedaaGreatDoor
