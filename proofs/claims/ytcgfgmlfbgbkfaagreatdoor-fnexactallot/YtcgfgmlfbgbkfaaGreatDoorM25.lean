import Derived.Test.YtcgfgmlfbgbkfaaGreatDoorM24
set_option linter.unusedVariables false
set_option linter.unusedSimpArgs false
set_option maxHeartbeats 16000000
namespace Go.Proofs.YtcgfgmlfbgbkfaaGreatDoor.Pl
theorem SpanIs.std {f:IrF} {r:Nat} {s:Sp} (h:SpanIs f r s) (hl:1<=f.code.length) (hl8:f.code.length<=8000):(s.tt≠-1↔s.fr<=s.tt)/\-1<=s.fr/\s.fr<=8000:=by
 obtain⟨fr0,h1,h2,_⟩:=h
 have hb:=h1.bound
 by_cases c:(r:Int)<f.params/\Live f.code (r:Int) 0
 ·rw[if_pos c]at h2
  have ht:s.tt≠-1:=by
   rcases h1 with ⟨e1,e2,e3⟩ | ⟨a,b,_,e,_⟩
   ·exact absurd (.inl c.2) (e3 0 (by omega))
   ·omega
  exact⟨by omega,by omega,by omega⟩
 ·rw[if_neg c]at h2
  rcases h1 with ⟨e1,e2,e3⟩ | ⟨a,b,e1,e2,e3,e4,e5,e6,e7⟩
  ·exact⟨by omega,by omega,by omega⟩
  ·have:=e7 a e3 e5
   exact⟨by omega,by omega,by omega⟩
end Go.Proofs.YtcgfgmlfbgbkfaaGreatDoor.Pl
namespace Go.Proofs.YtcgfgmlfbgbkfaaGreatDoor.W
open Go.RowKit
theorem news2 (w:World) (A B:Value) (t:TypeId) (b:Nat) (hb:b=w.heap.size) (j:Nat) (u:Value) (hj:[A,B][j]?=some u):(w.alloc (.cells #[A,B] t)).cell? ((⟨b,0,none⟩:Addr).add j)=some u:=by
 subst hb
 exact World.news_of_block (heap_alloc_new w _) j u (by simpa using hj)
theorem RPl.of_own {lo:Nat} {w:World} {g N c:Nat} (h:w.ownsRow lo 77 2 (.slice (some ⟨g,0,none⟩) N c) N (plc N)):RPl w g N Pl.al0.pl:=by
 rcases h.2 with ⟨e,_⟩ | ⟨g',c',cur,e,_,hb,h1,_,h3,h4⟩
 ·cases e
 ·injection e with e1 _ e3
  injection e1 with e1
  injection e1 with e1
  subst e1 e3
  have hat:∀ i,i<N*2->cur[i]?=(plc N)[i]?:=fun i hi=>by
   have:=congrArg (fun x=>x[i]?) h4
   rw[List.getElem?_take_of_lt hi]at this
   simpa using this
  refine⟨cur,hb,by omega,fun r hr=>?_,fun r hr=>?_⟩
  ·rw[hat _ (by omega),plc_at (by omega),if_pos (by omega)];rfl
  ·rw[hat _ (by omega),plc_at (by omega),if_neg (by omega)];rfl
def AlO (w:World) (f:Pl.IrF) (R:Nat) (e:Ending) (w':World):Prop:=∃ gp c pl,e=.returned (.slice (some ⟨gp,0,none⟩) R c)/\w.heap.size<=gp/\RPl w' gp R pl/\Pl.AlIs (Pl.spS f) R pl/\Below w.heap.size w w'
set_option maxRecDepth 100000 in
theorem l11Allot_any {lo:Nat} (f:Pl.IrF) (v s:SV) (R:Nat) (w:World) (h:FIs lo w v s f) (hf:Pl.funOk f) (hR:f.regs=R):Calls Tryz.prog 43 #[.agg #[.string f.name,.int .i64 f.params,.int .i64 f.regs,.slice v.a v.len v.cap,.slice s.a s.len s.cap]] w fun e w'=>AlO w f R e w':=by
 have HSP:Hid (∀ u,Below w.heap.size w u->Calls Tryz.prog 40 #[.agg #[.string f.name,.int .i64 f.params,.int .i64 f.regs,.slice v.a v.len v.cap,.slice s.a s.len s.cap]] u fun e u'=>SpSaid u f R e u'):=fun u hu=>l11Spans_any f v s R u (h.keep hu) hf hR
 have hn8:1<=f.code.length/\f.code.length<=8000:=hf.1.2.2.2.1
 have hR2:R<=2000:=by have:=hf.1.2.1.2;omega
 have HF:Hid (1<=f.code.length/\f.code.length<=8000/\f.regs=R):=⟨hn8.1,hn8.2,hR⟩
 have hRi:(R:Int)<=2000:=by omega
 obtain⟨i0,hi0,hz0,hz1,hz2⟩:=info_parts Tryz.infoi64
 have HI:Hid (_/\_/\_/\_):=⟨hi0,hz0,hz1,hz2⟩
 obtain⟨j0,hj0,hw0,hw1,hw2⟩:=info_parts Tryz.infoplaceL
 have HJ:Hid (_/\_/\_/\_):=⟨hj0,hw0,hw1,hw2⟩
 clear hi0 hz0 hz1 hz2 hj0 hw0 hw1 hw2 h hf hR hn8
 go_enter Tryz.func43,Tryz.ntmps43
 go_wp2_with fail
 obtain⟨u0,hu0⟩:∃ u0,u0=w.alloc (.cells #[.string f.name,.int .i64 f.params,.int .i64 f.regs,.slice v.a v.len v.cap,.slice s.a s.len s.cap] 31):=⟨_,rfl⟩
 rw[<- hu0]
 have H00:Hid (Below w.heap.size w u0/\u0.heap[w.heap.size]?=some (.cells #[.string f.name,.int .i64 f.params,.int .i64 f.regs,.slice v.a v.len v.cap,.slice s.a s.len s.cap] 31 (0,0))):=⟨by rw[hu0];exact below_alloc w _,by rw[hu0];exact heap_alloc_new w _⟩
 clear hu0
 refine (HSP.out u0 H00.out.1).mono ?_
 rintro e u1 ⟨go,co,S0,rfl,o1,hSI0,d1⟩
 rw[Pl.spV_congr (fun r hr=>(Pl.spS_is (hSI0 r hr)).symm)]at o1
 obtain⟨S,hSe⟩:∃ S,S=Pl.spS f:=⟨_,rfl⟩
 have hSI:∀ r,r<R->Pl.SpanIs f r (S r):=fun r hr=>by rw[hSe,Pl.spS_is (hSI0 r hr)];exact hSI0 r hr
 have HSE:Hid (S=Pl.spS f):=hSe
 rw[<- hSe]at o1
 clear hSI0 hSe
 have hbl0:w.heap.size<u0.heap.size:=(Array.getElem?_eq_some_iff.1 H00.out.2).1
 have H1:Hid (RS u1 (some ⟨go,0,none⟩) R S/\(∀ r,r<R->Pl.SpanIs f r (S r))/\Below w.heap.size w u1/\u1.heap[w.heap.size]?=some (.cells #[.string f.name,.int .i64 f.params,.int .i64 f.regs,.slice v.a v.len v.cap,.slice s.a s.len s.cap] 31 (0,0))/\go<u1.heap.size):=⟨(RO.own o1).rs (by omega),hSI,H00.out.1.trans (d1.mono (by omega)),(d1.block _ hbl0).trans H00.out.2,(o1.lt go rfl).2⟩
 have HSTD:Hid (Pl.Std S R):=fun r hr=>(hSI r hr).std HF.out.1 HF.out.2.1
 clear o1 hSI d1 HSP hbl0 H00
 go_wp2_with fail
 go_loopw [4,5] (fun o t W=>∃ (r gq cq:Nat),r<=R/\t=.int .i64 (r:Int)/\o=.slice (some ⟨gq,0,none⟩) r cq/\Hid (W.ownsRow u1.heap.size 77 2 (.slice (some ⟨gq,0,none⟩) r cq) r (plc r)/\Below u1.heap.size u1 W)) (fun _ t _=>R-(intOf t).toNat)
 case atStart=>exact⟨0,_,_,Nat.zero_le _,rfl,rfl,World.ownsRow_lit u1 #[] 0 (Nat.le_refl _) (Nat.zero_le _) rfl,below_alloc u1 _⟩
 case round=>
  obtain⟨r,gq,cq,hrR,rfl,rfl,HX⟩:=hrel
  have a2:wr.cell? ⟨w.heap.size,2,none⟩=some (.int .i64 (R:Int)):=by
   rw[cell_of_row wr _ 2 _ _ (0,0) ((HX.out.2.block _ (Array.getElem?_eq_some_iff.1 H1.out.2.2.2.1).1).trans H1.out.2.2.2.1),HF.out.2.2];rfl
  have hwl:w.heap.size<wr.heap.size:=block_lt_of_cell a2
  have hwz:=HX.out.2.size
  by_cases hlt:r<R
  ·have hli:(r:Int)<(R:Int):=by omega
   have HN:Hid (∀ g4 c4 y4,y4.ownsRow u1.heap.size 77 2 (.slice (some ⟨g4,0,none⟩) (r+1) c4) (r+1) (plc r ++ [.int .i64 0,.int .i64 (-1)])->(wr.alloc (.cells #[.int .i64 0,.int .i64 (-1)] 77)).grownBy y4 (some gq)->(y4.ownsRow u1.heap.size 77 2 (.slice (some ⟨g4,0,none⟩) ((r+1:Nat)) c4) (r+1) (plc (r+1))/\Below u1.heap.size u1 y4)):=fun g4 c4 y4 o4 g5=>by
    have hlo:=HX.out.1.lt gq rfl
    have hb8:Below u1.heap.size u1 (wr.alloc (.cells #[.int .i64 0,.int .i64 (-1)] 77)):=HX.out.2.alloc hwz _
    exact⟨by rw[plc_add,plc_one];exact o4,hb8.grown g5 hb8.size (fun k hk=>by cases hk;omega)⟩
   go_wp2_with (at_builtin;refine wpList_append_lies _ rfl (.tmp 26) (.tmp 28) 42 rfl u1.heap.size 77 j0 (.agg #[.int .i64 0,.int .i64 0]) 2 16 Tryz.underlying42 HJ.out.1 HJ.out.2.1 HJ.out.2.2.1 HJ.out.2.2.2 rfl (by decide) (.slice (some ⟨gq,0,none⟩) r cq) r (plc r) rfl (World.ownsRow.alloc HX.out.1 _) ⟨wr.heap.size,0,none⟩ 1 1 [.int .i64 0,.int .i64 (-1)] rfl rfl (news2 _ _ _ _ _ rfl) (by intro z hz;simp at hz;rcases hz with e | e <;> subst e <;> rfl) (by decide) (by unfold maxLen;omega) (by omega) (by simp;omega) (wr.heap.size+1) (by simp) ?_;intro g4 c4 y4 hown hgr hli2 hlt2;have H5:Hid (y4.ownsRow u1.heap.size 77 2 (.slice (some ⟨g4,0,none⟩) ((r+1:Nat)) c4) (r+1) (plc (r+1))/\Below u1.heap.size u1 y4):=HN.out g4 c4 y4 hown hgr;clear hown hgr hli2 hlt2)
   exact⟨⟨r+1,g4,c4,by omega,by go_num,by go_num,H5⟩,by simp[intOf];omega⟩
  have hli:¬ (r:Int)<(R:Int):=by omega
  obtain rfl:r=R:=by omega
  rename World=>U1
  obtain⟨gp,hgp⟩:∃ gp,gp=gq:=⟨_,rfl⟩
  rw[<- hgp]at HX ⊢
  clear hgp
  have H2:Hid (RPl U1 gp r Pl.al0.pl/\RS U1 (some ⟨go,0,none⟩) r S/\Below w.heap.size w U1/\w.heap.size<=gp/\go≠gp):=by
   have hl:=HX.out.1.lt gp rfl
   have hz:=H1.out.2.2.1.size
   exact⟨RPl.of_own HX.out.1,H1.out.1.keep HX.out.2,H1.out.2.2.1.trans (HX.out.2.mono hz),by omega,by have:=H1.out.2.2.2.2;omega⟩
  have HOR:Hid (Calls _ _ _ _ _):=specOrder_is (some ⟨go,0,none⟩) r co S U1 H2.out.2.1 (by omega) HSTD.out
  clear HX hwz
  go_wp2_with fail
  refine HOR.out.mono ?_
  rintro e U2 ⟨o,g2,c2,rfl,ho1,ho2,ho3,ho4,ho5,ho6,cu2,ho7⟩
  have hol:o.length<=2000:=by omega
  have H3:Hid (RPl U2 gp r Pl.al0.pl/\RS U2 (some ⟨go,0,none⟩) r S/\Below w.heap.size w U2/\Pl.Ord S r o/\g2≠gp/\g2<U2.heap.size/\∀ i,i<o.length->U2.cell? ⟨g2,i,none⟩=some (.int .i64 ((o.getD i 0:Nat):Int))):=by
   have hl:=H2.out.1.lt
   exact⟨H2.out.1.keep (ho6.block gp hl),H2.out.2.1.keep ho6,H2.out.2.2.1.trans (ho6.mono H2.out.2.2.1.size),ho1,by omega,ho4,ho5⟩
  clear ho1 ho2 ho3 ho4 ho5 ho6 ho7 HOR a2 hwl hli
  go_wp2_with fail
  go_loopw [6,8] (fun s6 s8 W=>∃ (i:Nat) (sp:Int),i<=o.length/\s8=.int .i64 (i:Int)/\s6=.int .i64 sp/\0<=sp/\sp<=i/\Hid (∃ st,st.sp=sp/\Pl.Wk S r o i st/\RPl W gp r st.pl/\U2.grownBy W (some gp))) (fun _ t _=>o.length-(intOf t).toNat)
  case atStart=>exact⟨0,0,Nat.zero_le _,rfl,rfl,by omega,by omega,Pl.al0,rfl,Pl.Wk.start S r o,H3.out.1,⟨rfl,rfl,rfl,Nat.le_refl _,fun _ _ _=>rfl⟩⟩
  case round=>
   obtain⟨i,sp,hio,rfl,rfl,hs0,hs1,HX⟩:=hrel
   obtain⟨st,x0,x1,x2,x3⟩:=HX.out
   have HW:Hid (st.sp=sp/\Pl.Wk S r o i st/\RPl wr gp r st.pl/\U2.grownBy wr (some gp)):=⟨x0,x1,x2,x3⟩
   have hbw:Below w.heap.size w wr:=H3.out.2.2.1.trans ⟨x3.os,x3.tape,x3.output,x3.size,fun k hk=>x3.block k (Nat.lt_of_lt_of_le hk H3.out.2.2.1.size) (fun e=>by injection e with e;have:=H2.out.2.2.2.1;omega)⟩
   have HBW:Hid (Below w.heap.size w wr/\RS wr (some ⟨go,0,none⟩) r S):=⟨hbw,H3.out.2.1.grown x3 (fun gs e=>by injection e with e;injection e with e;rw[<- e];exact H2.out.2.2.2.2)⟩
   clear HX x0 x1 x2 x3 hbw
   by_cases hlt:i<o.length
   rotate_left
   ·have hli:¬ (i:Int)<(o.length:Int):=by omega
    have hie:i=o.length:=by omega
    have HE:Hid (AlO w f r (.returned (.slice (some ⟨gp,0,none⟩) r cq)) wr):=⟨gp,cq,st.pl,rfl,H2.out.2.2.2.1,HW.out.2.2.1,HSE.out ▸ ⟨o,st,H3.out.2.2.2.1,by have:=HW.out.2.1.rn;rw[hie,List.take_length]at this;exact this,rfl⟩,HBW.out.1⟩
    clear hie
    go_wp2_with fail
    go_ret
    exact HE.out
   have hli:(i:Int)<(o.length:Int):=by omega
   rename World=>W0
   obtain⟨x,hx⟩:∃ x,x=o.getD i 0:=⟨_,rfl⟩
   have cx:W0.cell? ⟨g2,i,none⟩=some (.int .i64 (x:Int)):=by
    rw[hx]
    exact (World.cell?_of_block (a:=⟨g2,i,none⟩) (HW.out.2.2.2.block g2 H3.out.2.2.2.2.2.1 (fun e=>by injection e with e;exact H3.out.2.2.2.2.1 e))).trans (H3.out.2.2.2.2.2.2 i hlt)
   have hoi:o.getD i 0=o[i]:=by rw[List.getD_eq_getElem?_getD,List.getElem?_eq_getElem hlt];rfl
   have hxR:x<r:=by rw[hx,hoi];exact ((H3.out.2.2.2.1.2 _).1 (List.getElem_mem _)).1
   have hmem:x∈o.drop i:=by rw[hx,hoi,List.drop_eq_getElem_cons hlt];exact List.mem_cons_self
   obtain⟨gs',hsa',hgs',hcell'⟩:=HBW.out.2.2.resolve_left (by omega)
   injection hsa' with hsa'
   injection hsa' with hsa'
   subst hsa'
   obtain⟨fx,hfx⟩:∃ fx,fx=(S x).fr:=⟨_,rfl⟩
   have cf:W0.cell? ⟨go,x*3,none⟩=some (.int .i64 fx):=by rw[hfx];exact hcell' x hxR 0 (by omega)
   have hxi:(x:Int)<(r:Int):=by omega
   -- the state behind the giving back
   obtain⟨fr,hk1,hk2⟩:=HW.out.2.1.ok
   have hbk:=hk1.back (f:=fx) (by rw[hfx];exact hk2 x hmem)
   have HOK:Hid (Pl.Ok S r ⟨st.pl,Pl.bk S fx st.ow,st.sp⟩ fx (fun q=>q∈o.drop i)/\∀ k,k<16->Pl.bk S fx st.ow k≠-1->fx<=(S (Pl.bk S fx st.ow k).toNat).tt):=hbk
   have HX:Hid (x=o.getD i 0/\fx=(S x).fr/\x∈o.drop i):=⟨hx,hfx,hmem⟩
   have hst0:st.pl x=⟨0,-1⟩:=hbk.1.o3 x hmem
   have HS0:Hid (st.pl x=⟨0,-1⟩):=hst0
   have HHE:Hid (Calls _ _ _ _ _):=held_is (some ⟨go,0,none⟩) r co gp cq S st.pl fx W0 HBW.out.2 HW.out.2.2.1 (by omega)
   clear hk1 hk2 hbk hst0 hx hfx hmem hoi hcell' fr
   go_wp2_with fail
   refine HHE.out.mono ?_
   rintro e W1 ⟨gh,ch,rfl,hh1,hh2,hh3,hh4⟩
   obtain⟨hd,hhd⟩:∃ hd,hd=Pl.hdL S st.pl fx r:=⟨_,rfl⟩
   rw[<- hhd]at hh1 ⊢
   have hhl:hd.length<=2000:=by rw[hhd];exact Nat.le_trans (Pl.hdL_len _ _ _ _) hR2
   have H4:Hid (hd=Pl.hdL S st.pl fx r/\IRd gh hd.length (hd.map fun q:Nat=>(q:Int)) W1/\Below W0.heap.size W0 W1/\W0.heap.size<=gh/\gh<W1.heap.size/\RPl W1 gp r st.pl/\RS W1 (some ⟨go,0,none⟩) r S/\gp<W0.heap.size):=⟨hhd,hh1,hh4,hh2,hh3,HW.out.2.2.1.keep (hh4.block gp HW.out.2.2.1.lt),HBW.out.2.keep hh4,HW.out.2.2.1.lt⟩
   have HHN:Hid (∀ q,q∈hd->q<r):=fun q hq=>by rw[hhd]at hq;exact (Pl.hdL_mem.1 hq).1
   clear hhd hh1 hh2 hh3 hh4 HHE cf cx
   go_upto_region 15 with fail
   rename_i Ka hKa Kb hKb
   have HKa:Hid _:=hKa
   clear hKa
   go_wp2_with fail
   go_loopw [11,12] (fun o11 t W=>∃ (j gt ct:Nat),j<=hd.length/\t=.int .i64 (j:Int)/\o11=.slice (some ⟨gt,0,none⟩) j ct/\Hid (W.ownsRow W1.heap.size 3 1 (.slice (some ⟨gt,0,none⟩) j ct) j (((hd.take j).map fun q=>(st.pl q).reg).map (Value.int .i64))/\Below W1.heap.size W1 W)) (fun _ t _=>hd.length-(intOf t).toNat)
   case atStart=>exact⟨0,_,_,Nat.zero_le _,rfl,rfl,World.ownsRow_lit W1 #[] 0 (Nat.le_refl _) (Nat.zero_le _) rfl,below_alloc W1 _⟩
   case round=>
    obtain⟨j,gt,ct,hjl,rfl,rfl,HT⟩:=hrel
    have hPw:=H4.out.2.2.2.2.2.1.keep (HT.out.2.block gp H4.out.2.2.2.2.2.1.lt)
    have hwz3:=HT.out.2.size
    by_cases hjt:j<hd.length
    ·have hji:(j:Int)<(hd.length:Int):=by omega
     obtain⟨q,hq⟩:∃ q,q=hd.getD j 0:=⟨_,rfl⟩
     have hqe:hd.getD j 0=hd[j]:=by rw[List.getD_eq_getElem?_getD,List.getElem?_eq_getElem hjt];rfl
     have hqR:q<r:=by rw[hq,hqe];exact HHN.out _ (List.getElem_mem _)
     have ch1:wr.cell? ⟨gh,j,none⟩=some (.int .i64 (q:Int)):=by
      have:=H4.out.2.1.2 j hjt
      rw[List.getD_eq_getElem?_getD,List.getElem?_map,List.getElem?_eq_getElem hjt]at this
      rw[hq,hqe]
      exact (HT.out.2.cell (p:=⟨gh,j,none⟩) H4.out.2.2.2.2.1).trans this
     obtain⟨rg,hrg⟩:∃ rg,rg=(st.pl q).reg:=⟨_,rfl⟩
     have cp0:=hPw.at0 hqR
     rw[<- hrg]at cp0
     have hqi:(q:Int)<(r:Int):=by omega
     have HN:Hid (∀ g4 c4 y4,y4.ownsRow W1.heap.size 3 1 (.slice (some ⟨g4,0,none⟩) (j+1) c4) (j+1) (((hd.take j).map fun q=>(st.pl q).reg).map (Value.int .i64) ++ [.int .i64 rg])->(wr.alloc (.cells #[.int .i64 rg] 3)).grownBy y4 (some gt)->(y4.ownsRow W1.heap.size 3 1 (.slice (some ⟨g4,0,none⟩) ((j+1:Nat)) c4) (j+1) (((hd.take (j+1)).map fun q=>(st.pl q).reg).map (Value.int .i64))/\Below W1.heap.size W1 y4)):=fun g4 c4 y4 o4 g5=>by
      have hlo:=HT.out.1.lt gt rfl
      have hb8:Below W1.heap.size W1 (wr.alloc (.cells #[.int .i64 rg] 3)):=HT.out.2.alloc hwz3 _
      refine⟨?_,hb8.grown g5 hb8.size (fun k hk=>by cases hk;omega)⟩
      rw[List.take_succ_eq_append_getElem hjt,List.map_append,List.map_append,<- hqe,<- hq]
      simp only[List.map_cons,List.map_nil,<- hrg]
      exact o4
     clear hPw hq hqe
     have HRG:Hid (rg=(st.pl q).reg):=hrg
     clear hrg
     go_wp2_with (at_builtin;refine wpList_append_lies _ rfl (.tmp 57) (.tmp 66) 22 rfl W1.heap.size 3 i0 (.int .i64 0) 1 8 Tryz.underlying22 HI.out.1 HI.out.2.1 HI.out.2.2.1 HI.out.2.2.2 rfl (by decide) (.slice (some ⟨gt,0,none⟩) j ct) j (((hd.take j).map fun q=>(st.pl q).reg).map (Value.int .i64)) rfl (World.ownsRow.alloc HT.out.1 _) ⟨wr.heap.size,0,none⟩ 1 1 [.int .i64 rg] rfl rfl (int_cellA wr rg) (by intro z hz;simp at hz;subst hz;rfl) (by decide) (by unfold maxLen;omega) (by omega) (by simp;omega) (wr.heap.size+1) (by simp) ?_;intro g4 c4 y4 hown hgr hli2 hlt2;have H5:Hid (y4.ownsRow W1.heap.size 3 1 (.slice (some ⟨g4,0,none⟩) ((j+1:Nat)) c4) (j+1) (((hd.take (j+1)).map fun q=>(st.pl q).reg).map (Value.int .i64))/\Below W1.heap.size W1 y4):=HN.out g4 c4 y4 hown hgr;clear hown hgr hli2 hlt2)
     exact⟨⟨j+1,g4,c4,by omega,by go_num,by go_num,H5⟩,by simp[intOf];omega⟩
    have hji:¬ (j:Int)<(hd.length:Int):=by omega
    obtain rfl:j=hd.length:=by omega
    have HT2:Hid (IRd gt hd.length (Pl.tkL S st.pl fx r) wr/\Below W1.heap.size W1 wr/\W1.heap.size<=gt/\gt<wr.heap.size):=by
     have hlo:=HT.out.1.lt gt rfl
     have:=HT.out.1
     rw[List.take_length]at this
     unfold Pl.tkL
     rw[<- H4.out.1]
     exact⟨IRd.own this (by simp),HT.out.2,hlo.1,hlo.2⟩
    have HPW:Hid (RPl wr gp r st.pl):=hPw
    clear hPw HT
    have HGW:Hid (∀ W,wr.grownBy W (some gp)->U2.grownBy W (some gp)):=fun W hW=>by
     have g1:=HW.out.2.2.2
     have hb1:=H4.out.2.2.1
     have hb2:=HT2.out.2.1
     have z1:=hb1.size
     refine⟨(hW.os.trans (hb2.os.trans hb1.os)).trans g1.os,(hW.tape.trans (hb2.tape.trans hb1.tape)).trans g1.tape,(hW.output.trans (hb2.output.trans hb1.output)).trans g1.output,Nat.le_trans g1.size (Nat.le_trans z1 (Nat.le_trans hb2.size hW.size)),fun k hk hne=>?_⟩
     have k1:=Nat.lt_of_lt_of_le hk g1.size
     have k2:=Nat.lt_of_lt_of_le k1 z1
     rw[hW.block k (Nat.lt_of_lt_of_le k2 hb2.size) hne,hb2.block k k2,hb1.block k k1,g1.block k hk hne]
    go_wp2_with fail
    refine HKa.out _ _ ?_
    refine la19 (some ⟨go,0,none⟩) r co gp cq x gh hd.length ch gt hd.length ct S st.pl sp (S x).cr hd (Pl.tkL S st.pl fx r) wr (H4.out.2.2.2.2.2.2.1.keep HT2.out.2.1) HPW.out (by omega) hxR rfl (H4.out.2.1.keep (HT2.out.2.1.block gh H4.out.2.2.2.2.1)) (by omega) (Nat.lt_of_lt_of_le H4.out.2.2.2.2.1 HT2.out.2.1.size) HHN.out (by rw[H4.out.1];exact Pl.hdL_asc _ _ _ _) HT2.out.1 (by omega) HT2.out.2.2.2 (by have:=HT2.out.2.2.1;have:=H4.out.2.2.2.2.2.2.2;have:=H4.out.2.2.1.size;omega) (by have:=H4.out.2.2.2.1;have:=H4.out.2.2.2.2.2.2.2;omega) (by rw[HS0.out]) ⟨hs0,by omega⟩ _ _ _ _ _ _ _ _ _ _ _ _ _ _ _ _ _ _ _ _ _ _ _ _ _ _ _ _ _ _ _ _ _ _ _ _ _ _ _ _ _ _ _ _ _ _ _ _ _ _ _ _ _ _ _ _ _ _ _ _ _ _ _ _ _ _ _ _ _ _ _ _ _ _ _ _ _ _ _ _ _ _ _ _ _ _ _ _ _ _ _ _ _ _ _ _ _ _ _ _ _ _ _ _ _ _ _ _ _ _ _ _ _ _ _ _ _ _ _ _ _ _ _ _ _ _ _ _ _ _ _ _ _ _ _ _ _ _ _ _ _ _ _ _ _ _ _ _ _ _ _ _ _ _ _ _ _ _ _ _ _ _ _ _ _ _ _ _ _ _ _ _ _ _ _ _ _ _ _ _ _ _ _ _ _ ?_ ?_
    ·intro s13 s14 s68 s69 s70 s71 s72 s73 s74 s75 s76 s77 s78 s79 s80 s81 s82 s83 s84 s85 s86 s87 s88 s89 s90 s91 s92 s93 s94 s95 s96 s97 s98 s99 s100 s101 s102 s103 s104 s105 s106 s107 s108 W j1 e1 e2 e3 e4 e5
     have HN:Hid (∃ st,st.sp=sp/\Pl.Wk S r o (i+1) st/\RPl W gp r st.pl/\U2.grownBy W (some gp)):=by
      obtain⟨y1,y2,_⟩:=HX.out
      have hF:=HOK.out.1.fst HOK.out.2 e1 e2 e3
      refine⟨⟨Pl.up st.pl x ⟨Pl.gv (Pl.lo4 (S x).cr+j1),-1⟩,Pl.up (Pl.bk S fx st.ow) (Pl.lo4 (S x).cr+j1) (x:Int),st.sp⟩,HW.out.1,HW.out.2.1.next H3.out.2.2.2.1 hlt ?_,?_,HGW.out W e5⟩
      ·rw[<- y1,<- y2];exact .inl ⟨_,hF,rfl⟩
      ·rw[usL_at e1,HS0.out]at e4;exact e4
     clear e1 e2 e3 e4 e5
     go_wp2_with fail
     exact⟨⟨i+1,sp,by omega,by go_num,rfl,hs0,by omega,HN⟩,by simp[intOf];omega⟩
    ·intro s13 s14 s15 s16 s68 s69 s70 s71 s72 s73 s74 s75 s76 s77 s78 s79 s80 s81 s82 s83 s84 s85 s86 s87 s88 s89 s90 s91 s92 s93 s94 s95 s96 s97 s98 s99 s100 s101 s102 s103 s104 s105 s106 s107 s108 s109 s110 s111 s112 s113 s114 s115 s116 s117 s118 s119 s120 s121 s122 s123 s124 s125 s126 s127 s128 s129 s130 s131 s132 s133 s134 s135 s136 s137 s138 s139 s140 s141 s142 s143 s144 s145 s146 s147 s148 s149 s150 s151 s152 s153 s154 s155 s156 s157 s158 s159 s160 s161 s162 s163 s164 s165 s166 s167 s168 s169 s170 s171 s172 s173 s174 s175 s176 s177 s178 s179 s180 s181 s182 s183 s184 s185 s186 s187 s188 W pl' e1 e2 e3 e4
     have HN:Hid (∃ st,st.sp=sp+1/\Pl.Wk S r o (i+1) st/\RPl W gp r st.pl/\U2.grownBy W (some gp)):=by
      obtain⟨y1,y2,y3⟩:=HX.out
      have hF:=HOK.out.1.ful HOK.out.2 e1
      rw[<- HW.out.1,H4.out.1]at e2
      obtain⟨b,b1,b2,b3⟩:=HOK.out.1.wout y3 HOK.out.2 hF e2
      refine⟨b,by rw[b3];show st.sp+1=_;rw[HW.out.1],HW.out.2.1.next H3.out.2.2.2.1 hlt ?_,by rw[b2];exact e3,HGW.out W e4⟩
      rw[<- y1,<- y2];exact b1
     clear e1 e2 e3 e4
     go_wp2_with fail
     exact⟨⟨i+1,sp+1,by omega,by go_num,rfl,by omega,by omega,HN⟩,by simp[intOf];omega⟩
end Go.Proofs.YtcgfgmlfbgbkfaaGreatDoor.W
namespace Go.Proofs.YtcgfgmlfbgbkfaaGreatDoor.Pl
open Classical in
noncomputable def alP (f:IrF):Nat->Pc:=if h:∃ pl,AlIs (spS f) (spN f) pl then Classical.choose h else fun _=>⟨0,0⟩
theorem alP_is {f:IrF} {pl:Nat->Pc} (h:AlIs (spS f) (spN f) pl):alP f=pl:=by
 have hx:∃ pl,AlIs (spS f) (spN f) pl:=⟨pl,h⟩
 unfold alP
 rw[dif_pos hx]
 exact (Classical.choose_spec hx).fn h
end Go.Proofs.YtcgfgmlfbgbkfaaGreatDoor.Pl
namespace Go.Proofs.YtcgfgmlfbgbkfaaGreatDoor.W
open Go.RowKit
def RP (w:World) (a:Option Addr) (n:Nat) (pl:Nat->Pl.Pc):Prop:=n<=8000/\(n=0\/∃ g,a=some ⟨g,0,none⟩/\g<w.heap.size/\∀ i,i<n->w.cell? ⟨g,i*2,none⟩=some (.int .i64 (pl i).reg)/\w.cell? ⟨g,i*2+1,none⟩=some (.int .i64 (pl i).spill))
theorem RP.keep {w w':World} {a:Option Addr} {n:Nat} {pl:Nat->Pl.Pc} (h:RP w a n pl) (hb:Below w.heap.size w w'):RP w' a n pl:=by
 rcases h with ⟨h0,h | ⟨g,e,hg,h⟩⟩
 ·exact⟨h0,.inl h⟩
 ·exact⟨h0,.inr ⟨g,e,Nat.lt_of_lt_of_le hg hb.size,fun i hi=>⟨(hb.cell (p:=⟨g,i*2,none⟩) hg).trans (h i hi).1,(hb.cell (p:=⟨g,i*2+1,none⟩) hg).trans (h i hi).2⟩⟩⟩
def PO (lo:Nat) (w:World) (a:Option Addr) (n:Nat) (pl:Nat->Pl.Pc):Prop:=n=0\/∃ go,a=some ⟨go,0,none⟩/\lo<=go/\RPl w go n pl
theorem PO.rs {lo:Nat} {w:World} {a:Option Addr} {n:Nat} {pl:Nat->Pl.Pc} (h:PO lo w a n pl) (hn:n<=8000):RP w a n pl:=by
 refine⟨hn,?_⟩
 rcases h with h | ⟨go,e,hlo,h⟩
 ·exact .inl h
 ·exact .inr ⟨go,e,h.lt,fun i hi=>⟨h.at0 hi,h.at1 hi⟩⟩
theorem PO.later {lo:Nat} {w w':World} {a:Option Addr} {n:Nat} {pl:Nat->Pl.Pc} (h:PO lo w a n pl) (hb:Below w.heap.size w w'):PO lo w' a n pl:=by
 rcases h with h | ⟨go,e,hlo,h⟩
 ·exact .inl h
 ·exact .inr ⟨go,e,hlo,h.keep (hb.block go h.lt)⟩
theorem PO.tr {lo l h':Nat} {w w':World} {a:Option Addr} {n:Nat} {pl:Nat->Pl.Pc} (h:PO lo w a n pl) (ht:Tr l h' w w') (hl:h'<=lo):PO lo w' a n pl:=by
 rcases h with h | ⟨go,e,hlo,h⟩
 ·exact .inl h
 ·exact .inr ⟨go,e,hlo,h.keep (ht.block go h.lt (.inr (by omega)))⟩
set_option maxRecDepth 100000 in
theorem specAl_c {lo:Nat} (f:Pl.IrF) (v s:SV) (w:World) (h:FIs lo w v s f):Calls Tryz.prog 20 #[.agg #[.string f.name,.int .i64 f.params,.int .i64 f.regs,.slice v.a v.len v.cap,.slice s.a s.len s.cap]] w fun e w'=>(∃ a c,e=.returned (.slice a (Pl.spN f) c)/\RP w' a (Pl.spN f) (Pl.alP f))/\Below w.heap.size w w':=by
 by_cases hf:Pl.funOk f
 ·have HFO:Hid (∀ u,Below w.heap.size w u->Calls Tryz.prog 27 #[.agg #[.string f.name,.int .i64 f.params,.int .i64 f.regs,.slice v.a v.len v.cap,.slice s.a s.len s.cap]] u fun e u'=>e=.returned (.bool true)/\Below u.heap.size u u'):=fun u hu=>(l10FunOk_any f v s u (h.keep hu)).mono fun e u' q=>by
   obtain⟨⟨b,rfl,hb⟩,d⟩:=q
   cases b with
   | false=>exact absurd (hb.2 hf) (by decide)
   | true=>exact⟨rfl,d⟩
  obtain⟨R,hR⟩:∃ R:Nat,f.regs=R:=⟨_,(Pl.spR f).resolve_right (fun c=>c hf)⟩
  have hN:Pl.spN f=R:=by unfold Pl.spN;rw[if_pos hf,hR];rfl
  have HSP:Hid (∀ u,Below w.heap.size w u->Calls Tryz.prog 43 #[.agg #[.string f.name,.int .i64 f.params,.int .i64 f.regs,.slice v.a v.len v.cap,.slice s.a s.len s.cap]] u fun e u'=>AlO u f R e u'):=fun u hu=>l11Allot_any f v s R u (h.keep hu) hf hR
  have HN:Hid (Pl.spN f=R):=hN
  clear h hf hR hN
  go_enter Tryz.func20,Tryz.ntmps20
  go_wp2_with fail
  refine ty_at fun u0 hu0=>?_
  have H0:Hid (Below w.heap.size w u0/\u0.heap[w.heap.size]?=some (.cells #[.string f.name,.int .i64 f.params,.int .i64 f.regs,.slice v.a v.len v.cap,.slice s.a s.len s.cap] 31 (0,0))):=by
   rw[hu0]
   exact⟨below_alloc w _,heap_alloc_new w _⟩
  clear hu0
  refine (HFO.out u0 H0.out.1).mono ?_
  rintro e u1 ⟨rfl,d1⟩
  have H1:Hid (Below w.heap.size w u1/\u1.heap[w.heap.size]?=some (.cells #[.string f.name,.int .i64 f.params,.int .i64 f.regs,.slice v.a v.len v.cap,.slice s.a s.len s.cap] 31 (0,0))):=⟨H0.out.1.trans (d1.mono H0.out.1.size),(d1.block _ (Array.getElem?_eq_some_iff.1 H0.out.2).1).trans H0.out.2⟩
  clear d1 H0 HFO
  have ah:=H1.out.2
  have a0:u1.cell? ⟨w.heap.size,0,none⟩=some (.string f.name):=by rw[cell_of_row u1 _ 0 _ _ (0,0) ah];rfl
  have a1:u1.cell? ⟨w.heap.size,1,none⟩=some (.int .i64 f.params):=by rw[cell_of_row u1 _ 1 _ _ (0,0) ah];rfl
  have a2:u1.cell? ⟨w.heap.size,2,none⟩=some (.int .i64 f.regs):=by rw[cell_of_row u1 _ 2 _ _ (0,0) ah];rfl
  have a3:u1.cell? ⟨w.heap.size,3,none⟩=some (.slice v.a v.len v.cap):=by rw[cell_of_row u1 _ 3 _ _ (0,0) ah];rfl
  have a4:u1.cell? ⟨w.heap.size,4,none⟩=some (.slice s.a s.len s.cap):=by rw[cell_of_row u1 _ 4 _ _ (0,0) ah];rfl
  clear ah
  go_wp2_with fail
  refine (HSP.out u1 H1.out.1).mono ?_
  rintro e u2 ⟨gp,c,pl,rfl,hgp,hrp,hal,d2⟩
  have HE:Hid (RP u2 (some ⟨gp,0,none⟩) R (Pl.alP f)/\Below w.heap.size w u2):=by
   have hle:=Pl.spN_le f
   rw[HN.out]at hle
   refine⟨?_,H1.out.1.trans (d2.mono H1.out.1.size)⟩
   rw[Pl.alP_is (by rw[HN.out];exact hal)]
   exact PO.rs (lo:=0) (.inr ⟨gp,rfl,Nat.zero_le _,hrp⟩) hle
  clear hgp hrp hal d2 a0 a1 a2 a3 a4
  go_wp2_with fail
  go_ret
  exact⟨⟨some ⟨gp,0,none⟩,c,by rw[HN.out];rfl,by rw[HN.out];exact HE.out.1⟩,HE.out.2⟩
 ·have HFO:Hid (∀ u,Below w.heap.size w u->Calls Tryz.prog 27 #[.agg #[.string f.name,.int .i64 f.params,.int .i64 f.regs,.slice v.a v.len v.cap,.slice s.a s.len s.cap]] u fun e u'=>e=.returned (.bool false)/\Below u.heap.size u u'):=fun u hu=>(l10FunOk_any f v s u (h.keep hu)).mono fun e u' q=>by
   obtain⟨⟨b,rfl,hb⟩,d⟩:=q
   cases b with
   | false=>exact⟨rfl,d⟩
   | true=>exact absurd (hb.1 rfl) hf
  have HN:Hid (Pl.spN f=0):=by show _=_;unfold Pl.spN;rw[if_neg hf]
  clear h hf
  go_enter Tryz.func20,Tryz.ntmps20
  go_wp2_with fail
  refine ty_at fun u0 hu0=>?_
  have H0:Hid (Below w.heap.size w u0):=by
   rw[hu0]
   exact below_alloc w _
  clear hu0
  refine (HFO.out u0 H0.out).mono ?_
  rintro e u1 ⟨rfl,d1⟩
  have H1:Hid (Below w.heap.size w u1):=H0.out.trans (d1.mono H0.out.size)
  clear d1 H0 HFO
  go_wp2_with fail
  go_ret
  exact⟨⟨some ⟨u1.heap.size,0,none⟩,0,by rw[HN.out];rfl,by rw[HN.out];exact⟨Nat.zero_le _,.inl rfl⟩⟩,H1.out.trans ((below_alloc u1 _).mono H1.out.size)⟩
def TabG (w:World):Prop:=TabT w/\GvT w
theorem TabG.keepG {w w':World} (h:TabG w) (hb:Below w.heap.size w w'):TabG w':=⟨h.1.keep (block_lt_of_cell (h.1 0 (by decide))) hb,fun k hk=>(hb.cell (p:=⟨1,k,none⟩) (block_lt_of_cell (h.2 k hk))).trans (h.2 k hk)⟩
set_option maxRecDepth 100000 in
theorem implAl_c {lo:Nat} (f:Pl.IrF) (v s:SV) (w:World) (h:FIs lo w v s f) (hz:f.sized) (hwf:∀ i,i<f.code.length->(Lit.int .i64 (f.code.getD i Pl.IrI.zero).n).wf=true) (hT:TabG w):Calls Tryz.prog 21 #[.agg #[.string f.name,.int .i64 f.params,.int .i64 f.regs,.slice v.a v.len v.cap,.slice s.a s.len s.cap]] w fun e w'=>(∃ a c,e=.returned (.slice a (Pl.spN f) c)/\PO w.heap.size w' a (Pl.spN f) (Pl.alP f))/\Below w.heap.size w w':=by
 have HSP:Hid (∀ u,Below w.heap.size w u->Calls Tryz.prog 16 #[.agg #[.string f.name,.int .i64 f.params,.int .i64 f.regs,.slice v.a v.len v.cap,.slice s.a s.len s.cap]] u fun e w'=>(∃ a c,e=.returned (.slice a (Pl.spN f) c)/\RO u.heap.size w' a (Pl.spN f) (Pl.spS f))/\Below u.heap.size u w'):=fun u hu=>implSp_c f v s u (h.keep hu) hz hwf (hT.keepG hu).1
 have HT:Hid (TabG w):=hT
 have HLE:Hid (Pl.spN f<=4000):=by
  show _<=_
  unfold Pl.spN
  split
  ·rename_i h;have:=h.1.2.1.2;omega
  ·omega
 clear h hz hwf hT
 go_enter Tryz.func21,Tryz.ntmps21
 go_wp2_with fail
 refine ty_at fun u0 hu0=>?_
 have H0:Hid (Below w.heap.size w u0):=by rw[hu0];exact below_alloc w _
 clear hu0
 refine (HSP.out u0 H0.out).mono ?_
 rintro e u1 ⟨⟨a,c,rfl,ro⟩,d1⟩
 have hb:Below w.heap.size w u1:=H0.out.trans (d1.mono H0.out.size)
 have HAL:Hid (Calls _ _ _ _ _):=allotted_is a (Pl.spN f) c (Pl.spS f) u1 HLE.out (ro.rs (Pl.spN_le f)) (HT.out.keepG hb).2
 have H1:Hid (Below w.heap.size w u1):=hb
 clear ro d1 hb HSP H0
 go_wp2_with fail
 refine HAL.out.mono ?_
 rintro e u2 ⟨gp,c2,pl,rfl,hgp,hrp,hal,d2⟩
 have HE:Hid (PO w.heap.size u2 (some ⟨gp,0,none⟩) (Pl.spN f) (Pl.alP f)/\Below w.heap.size w u2):=by
  rw[Pl.alP_is hal]
  have:=H1.out.size
  exact⟨.inr ⟨gp,rfl,by omega,hrp⟩,H1.out.trans (d2.mono H1.out.size)⟩
 clear hgp hrp hal d2 HAL
 go_wp2_with fail
 go_ret
 exact⟨⟨_,c2,rfl,HE.out.1⟩,HE.out.2⟩
end Go.Proofs.YtcgfgmlfbgbkfaaGreatDoor.W
namespace Go.Proofs.YtcgfgmlfbgbkfaaGreatDoor.Pl
def mkP (i:Nat):Pc:=⟨2*(i:Int)+1,2*(i:Int)+2⟩
end Go.Proofs.YtcgfgmlfbgbkfaaGreatDoor.Pl
namespace Go.Proofs.YtcgfgmlfbgbkfaaGreatDoor.W
open Go.RowKit
set_option maxRecDepth 100000 in
theorem eqPlace_same (x y:Int) (w:World):Calls Tryz.prog 45 #[.agg #[.int .i64 x,.int .i64 y],.agg #[.int .i64 x,.int .i64 y]] w fun e w'=>e=.returned (.bool true)/\Below w.heap.size w w':=by
 have h1:(x != x)=false:=by simp
 have h2:(y != y)=false:=by simp
 go_enter Tryz.func45,Tryz.ntmps45
 go_wp2
 go_ret
 exact⟨rfl,(below_alloc w _).trans ((below_alloc _ _).mono (by simp))⟩
set_option maxRecDepth 100000 in
theorem eqPlaceS_same (a a':Option Addr) (n cap cap':Nat) (S:Nat->Pl.Pc) (w:World) (h:RP w a n S) (h':RP w a' n S):Calls Tryz.prog 22 #[.slice a n cap,.slice a' n cap'] w fun e w'=>e=.returned (.bool true)/\Below w.heap.size w w':=by
 have HR:Hid (RP w a n S/\RP w a' n S):=⟨h,h'⟩
 have hnm:(n:Int)<=8000:=by have:=h.1;omega
 clear h h'
 go_enter Tryz.func22,Tryz.ntmps22
 go_wp2_with fail
 go_loopw [5] (fun t wr=>∃ (i:Nat),i<=n/\t=.int .i64 (i:Int)/\Hid (Below w.heap.size w wr)) (fun t _=>n-(intOf t).toNat)
 case atStart=>exact⟨0,Nat.zero_le _,rfl,Below.refl _ _⟩
 case round=>
  obtain⟨i,hi,rfl,HB⟩:=hrel
  by_cases hlt:i<n
  rotate_left
  ·have hii:¬ ((i:Int)<(n:Int)):=by omega
   go_wp2_with fail
   go_ret
   exact⟨rfl,HB.out⟩
  have hii:(i:Int)<(n:Int):=by omega
  obtain⟨g,rfl,hg,hA⟩:=(HR.out.1.keep HB.out).2.resolve_left (by omega)
  obtain⟨g',rfl,hg',hA'⟩:=(HR.out.2.keep HB.out).2.resolve_left (by omega)
  obtain⟨c0,c1⟩:=hA i hlt
  obtain⟨e0,e1⟩:=hA' i hlt
  obtain⟨x,hx⟩:∃ x,x=(S i).reg:=⟨_,rfl⟩
  obtain⟨y,hy⟩:∃ y,y=(S i).spill:=⟨_,rfl⟩
  rw[<- hx]at c0 e0
  rw[<- hy]at c1 e1
  clear hA hA' hx hy
  go_upto_region 6 with fail
  go_region_with (go_at_call 45;refine (eqPlace_same x y _).mono ?_;rintro e u1 ⟨rfl,d1⟩; have HD:Hid (Below wr.heap.size wr u1):=(Below.drew (Below.refl _ _)).trans d1;clear d1)
  all_goals (
   have HN:Hid (Below w.heap.size w u1):=HB.out.trans (HD.out.mono HB.out.size)
   clear HD
   go_wp2_with fail
   go_roundw
   (case rel=>exact⟨i+1,by omega,by go_num,HN⟩)
   (case measure=>simp[intOf];omega))
set_option maxRecDepth 100000 in
theorem markPlaceS_any {lo:Nat} (a:Option Addr) (n cap:Nat) (S:Nat->Pl.Pc) (w:World) (h:PO lo w a n S) (hn:n<=8000):Calls Tryz.prog 23 #[.slice a n cap,.int .i64 1] w fun e w'=>e=.returned (.int .i64 (2*(n:Int)+1))/\PO lo w' a n Pl.mkP/\Tr lo w.heap.size w w':=by
 have HR:Hid (PO lo w a n S):=h
 have hnm:(n:Int)<=8000:=by omega
 clear h
 go_enter Tryz.func23,Tryz.ntmps23
 go_wp2_with fail
 go_loopw [1,5] (fun kv t wr=>∃ (i:Nat),i<=n/\t=.int .i64 (i:Int)/\kv=.int .i64 (2*(i:Int)+1)/\Hid ((n=0\/∃ go pl,a=some ⟨go,0,none⟩/\lo<=go/\go<w.heap.size/\RPl wr go n pl/\∀ q,q<i->pl q=Pl.mkP q)/\Tr lo w.heap.size w wr/\wr.heap.size=w.heap.size)) (fun _ t _=>n-(intOf t).toNat)
 case atStart=>
  refine⟨0,Nat.zero_le _,rfl,by go_num,?_,Tr.refl _ _ _,rfl⟩
  rcases HR.out with h | ⟨go,e,hlo,hp⟩
  ·exact .inl h
  ·exact .inr ⟨go,S,e,hlo,hp.lt,hp,fun q hq=>absurd hq (Nat.not_lt_zero _)⟩
 case round=>
  obtain⟨i,hi,rfl,rfl,HS⟩:=hrel
  by_cases hlt:i<n
  rotate_left
  ·have hii:¬ ((i:Int)<(n:Int)):=by omega
   have hie:i=n:=by omega
   have HE:Hid (2*(i:Int)+1=2*(n:Int)+1/\PO lo wr a n Pl.mkP/\Tr lo w.heap.size w wr):=by
    subst hie
    refine⟨rfl,?_,HS.out.2.1⟩
    rcases HS.out.1 with h | ⟨go,pl,e,hlo,_,hp,h⟩
    ·exact .inl h
    ·refine .inr ⟨go,e,hlo,?_⟩
     obtain⟨P,p1,p2,p3,p4⟩:=hp
     exact⟨P,p1,p2,fun r hr=>by rw[<- h r hr];exact p3 r hr,fun r hr=>by rw[<- h r hr];exact p4 r hr⟩
   clear hie HS
   go_wp2_with fail
   go_ret
   exact⟨by rw[<- HE.out.1];rfl,HE.out.2⟩
  have hii:(i:Int)<(n:Int):=by omega
  obtain⟨go,pl,rfl,hlo,hgo,hp,hc⟩:=HS.out.1.resolve_left (by omega)
  obtain⟨k,hk⟩:∃ k:Int,k=2*(i:Int)+1:=⟨_,rfl⟩
  have HB:Hid (RPl ((wr.setCell ⟨go,i*2,none⟩ (.int .i64 k)).setCell ⟨go,i*2+1,none⟩ (.int .i64 (k+1))) go n (Pl.up (Pl.up pl i ⟨k,(pl i).spill⟩) i ⟨k,k+1⟩)/\(∀ q,q<i->pl q=Pl.mkP q)/\Tr lo w.heap.size w wr/\wr.heap.size=w.heap.size):=by
   have q1:=(hp.setReg hlt k).setSpill hlt (k+1)
   rw[Pl.up_i]at q1
   exact⟨q1,hc,HS.out.2⟩
  have v0:=hp.at0 hlt
  have v1:=hp.at1 hlt
  have fz:=hp.fz
  rw[<- hk]
  have hkb:1<=k/\k<=16001:=by omega
  have HK:Hid (k=2*(i:Int)+1):=hk
  clear hp hc HS hk
  go_wp2_with fail
  have HO:Hid (OnlyG go wr ((wr.setCell ⟨go,i*2,none⟩ (.int .i64 k)).setCell ⟨go,i*2+1,none⟩ (.int .i64 (k+1)))):=(OnlyG.setCell wr go _ _).trans (OnlyG.setCell _ go _ _)
  refine⟨⟨i+1,by omega,by go_num,congrArg (Value.int .i64) (by have:=HK.out;omega),.inr ⟨go,_,rfl,hlo,hgo,HB.out.1,fun q hq=>?_⟩,HB.out.2.2.1.trans (HO.out.tr hlo hgo),HO.out.size.trans HB.out.2.2.2⟩,by simp[intOf];omega⟩
  by_cases e:q=i
  ·subst e;rw[Pl.up_i,HK.out];unfold Pl.mkP;rw[show 2*(q:Int)+1+1=2*(q:Int)+2 by omega]
  ·rw[Pl.up_o _ _ e,Pl.up_o _ _ e];exact HB.out.2.1 q (by omega)
set_option maxRecDepth 100000 in
theorem heldPlaceS_any {lo:Nat} (a:Option Addr) (n cap:Nat) (w:World) (h:PO lo w a n Pl.mkP) (hn:n<=8000):Calls Tryz.prog 24 #[.slice a n cap,.int .i64 1] w fun e w'=>e=.returned (.int .i64 (2*(n:Int)+1))/\Below w.heap.size w w':=by
 have HR:Hid (RP w a n Pl.mkP):=h.rs hn
 have hnm:(n:Int)<=8000:=by omega
 clear h
 go_enter Tryz.func24,Tryz.ntmps24
 go_wp2_with fail
 go_loopw [1,5] (fun kv t wr=>∃ (i:Nat),i<=n/\t=.int .i64 (i:Int)/\kv=.int .i64 (2*(i:Int)+1)/\wr=w) (fun _ t _=>n-(intOf t).toNat)
 case atStart=>exact⟨0,Nat.zero_le _,rfl,by go_num,rfl⟩
 case round=>
  obtain⟨i,hi,rfl,rfl,rfl⟩:=hrel
  by_cases hlt:i<n
  rotate_left
  ·have hii:¬ ((i:Int)<(n:Int)):=by omega
   have HE:Hid (2*(i:Int)+1=2*(n:Int)+1):=by show _=_;omega
   go_wp2_with fail
   go_ret
   exact⟨by rw[<- HE.out];rfl,Below.refl _ _⟩
  have hii:(i:Int)<(n:Int):=by omega
  obtain⟨g,rfl,hg,hA⟩:=HR.out.2.resolve_left (by omega)
  obtain⟨k,hk⟩:∃ k:Int,k=2*(i:Int)+1:=⟨_,rfl⟩
  have hkb:1<=k/\k<=16001:=by omega
  have c0:wr.cell? ⟨g,i*2,none⟩=some (.int .i64 k):=by rw[hk];exact (hA i hlt).1
  have c1:wr.cell? ⟨g,i*2+1,none⟩=some (.int .i64 (k+1)):=by rw[hk,show 2*(i:Int)+1+1=2*(i:Int)+2 by omega];exact (hA i hlt).2
  rw[<- hk]
  have h1:(k != k)=false:=by simp
  have h2:(k+1 != k+1)=false:=by simp
  have HK:Hid (k=2*(i:Int)+1):=hk
  clear hA hk
  go_wp2_with fail
  exact⟨⟨i+1,by omega,by go_num,congrArg (Value.int .i64) (by have:=HK.out;omega),trivial⟩,by simp[intOf];omega⟩
end Go.Proofs.YtcgfgmlfbgbkfaaGreatDoor.W
