import Derived.Test.YtjcdiegfnoaedaaGreatDoorZ03
set_option linter.unusedVariables false
set_option linter.unusedSimpArgs false
set_option maxHeartbeats 16000000
namespace Go.Proofs.YtjcdiegfnoaedaaGreatDoor
set_option maxRecDepth 4000
namespace W
open Go.RowKit
variable {N:Ns}{lit:Pl.Nd->ByteArray}{i:Nat}{x:Pl.Nd}{ks:List Pl.Tx}{B:Nat}{u:World}{v:SV}
theorem aEK (V:Nk N lit i x ks) (hk:11<=x.k/\x.k<=14):Wx N 15 [.int .i64 (i:Int)] (Pl.aR lit x ks).pr:=by
 intro B _ g ts u h na _ hn;obtain⟨T,hT⟩:∃T,T=(Pl.aR lit x ks).pr:=⟨_,rfl⟩;rw[<- hT]at hn ⊢;obtain⟨b,off,v,ea,hb,c,K,hi⟩:=na.node V.hi V.hx;have w0:=(Sg.begin h na hn rfl).cell;have HC:Hid (T=(Pl.aR lit x ks).pr):=hT;clear hT;go_in;go_upto_region 1 with fail
 refine aG fun y hy=>?_;have S0:=fun r e=>Sb.begin (r:=r) _ h na hn hy e;generalize u.heap.size=n0 at S0 ⊢;clear hy w0 c h na hn;have hT:=HC.o;have HS:Hid (x.s.size<=40):=V.sz (by omega);have hl:x.k=13->x.kids.length=1\/x.kids.length=2:=fun hk=>by have:=V.kf;rw[hk]at this;have:1<=x.kids.length/\x.kids.length<=2:=this;omega
 have hk:x.k=11\/x.k=12\/x.k=13\/x.k=14:=by omega
 clear HC;rcases hk with hk|hk|hk|hk;all_goals first|(have hl:=hl hk;rcases hl with hl|hl)|skip
 all_goals (first|(have Q:=V.k1 (l:=116) K (.inl (by rw[hk];rfl)) (by rw[hk];rfl);obtain⟨b9,o9,i0,t0,e9,l9,el,rfl,q0,K0⟩:=Q)|(have Q:=V.k1 (l:=116) K (.inr hl) (by rw[hk];rfl);obtain⟨b9,o9,i0,t0,e9,l9,el,rfl,q0,K0⟩:=Q)|(have Q:=V.k2 (l:=116) (l':=105) K (.inr hl) (by rw[hk];rfl);obtain⟨b9,o9,i0,i1,t0,t1,e9,l9,el,rfl,⟨q0,K0⟩,q1,K1⟩:=Q)|(have Q:=V.k2 (l:=70) (l':=66) K (.inl (by rw[hk];rfl)) (by rw[hk];rfl);obtain⟨b9,o9,i0,i1,t0,t1,e9,l9,el,rfl,⟨q0,K0⟩,q1,K1⟩:=Q)|(have L:=XD K ks V.kl (fun j hj=>by obtain⟨k,h,S⟩:=V.ka (l:=99) (m:=4000) hj (by rw[hk];rfl);exact S.it (.inl (Pl.aDR h)))))
 all_goals (simp[Pl.aR,hk,Pl.nD,Pl.FZ]at hT;have S:=S0 _ hT;clear hT S0;have F:=S.f)
 all_goals go_wp2_with ((with_reducible show Calls _ _ _ _ _);((with_reducible refine (S.call (X:=by first|exact uS _|assumption|exact Wx.u ‹_›|exact Kd.ex ‹_›|exact Kd.op ‹_›|exact qH _ _|exact Kd.dt _ HS.o ‹_›|exact Kd.dF _ HS.o ‹_›|exact Kd.ii ‹_›|exact Kd.sB ‹_›)).mono ?_);clear S F;rintro e z ⟨rfl,S⟩;have F:=S.f))
 all_goals first|go_region_held3 (fun w=>Ce N B g n0 #[.int .i64 x.k,.int .i64 x.m,.int .i64 x.n,.string x.s,.slice v.a v.len v.cap,.int .i64 x.line,.int .i64 x.aQ] u w) (first|exact F.1|exact Ce.on F.1|exact Ce.on ‹_›) (((with_reducible show Calls _ _ _ _ _);((with_reducible refine (S.call (X:=by first|exact uS _|assumption|exact Wx.u ‹_›|exact Kd.ex ‹_›|exact Kd.op ‹_›|exact qH _ _|exact Kd.dt _ HS.o ‹_›|exact Kd.dF _ HS.o ‹_›|exact Kd.ii ‹_›|exact Kd.sB ‹_›)).mono ?_);clear S F;rintro e z ⟨rfl,S⟩;have F:=S.f)))|skip
 all_goals go_wp2_with ((with_reducible show Calls _ _ _ _ _);((with_reducible refine (S.call (X:=by first|exact uS _|assumption|exact Wx.u ‹_›|exact Kd.ex ‹_›|exact Kd.op ‹_›|exact qH _ _|exact Kd.dt _ HS.o ‹_›|exact Kd.dF _ HS.o ‹_›|exact Kd.ii ‹_›|exact Kd.sB ‹_›)).mono ?_);clear S F;rintro e z ⟨rfl,S⟩;have F:=S.f))
 all_goals
  go_end0;exact⟨rfl,S.s.fin⟩
end W
end Go.Proofs.YtjcdiegfnoaedaaGreatDoor
