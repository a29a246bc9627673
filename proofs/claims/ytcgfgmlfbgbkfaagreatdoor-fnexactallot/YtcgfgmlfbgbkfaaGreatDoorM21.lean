import Derived.Test.YtcgfgmlfbgbkfaaGreatDoorM20
import Derived.Test.YtcgfgmlfbgbkfaaGreatDoorM05
set_option linter.unusedVariables false
set_option linter.unusedSimpArgs false
set_option maxHeartbeats 16000000
namespace Go.Proofs.YtcgfgmlfbgbkfaaGreatDoor.W
open Go.RowKit
theorem OnlyG_drewN (w:World) (g k:Nat):OnlyG g w (w.drewN k):=⟨rfl,rfl,rfl,rfl,fun _ _=>rfl⟩
def HpSaid (lo g m c n:Nat) (h:Nat->Nat) (S:Nat->Prop) (w w':World):Prop:=∃ h',Hw lo w' g m c h'/\Pl.Hp h' n S/\(∀ k,n<=k->h' k=h k)/\OnlyG g w w'
set_option maxRecDepth 100000 in
theorem up_is {lo:Nat} (ga q g m c:Nat) (h0:Nat->Nat) (S:Nat->Prop) (j0:Nat) (w:World) (H:Hw lo w g m c h0) (hc:w.cell? ⟨ga,q,none⟩=some (.slice (some ⟨g,0,none⟩) m c)) (hga:ga≠g) (hm:m<=100) (hj:j0<m) (hU:Pl.HU h0 m j0) (hQ:Pl.Hq h0 m S) :
  Calls Tryz.prog 120 #[.iface 195 (.pointer (some ⟨ga,q,none⟩)),.int .i64 (j0:Int)] w fun e w'=>e=.returned (.tuple #[])/\HpSaid lo g m c m h0 S w w':=by
 have HCE:Hid (∀ u,OnlyG g w u->u.cell? ⟨ga,q,none⟩=some (.slice (some ⟨g,0,none⟩) m c)):=fun u hu=>(hu.cell (p:=⟨ga,q,none⟩) hga).trans hc
 have H0:Hid (Hw lo w g m c h0/\Pl.HU h0 m j0/\Pl.Hq h0 m S):=⟨H,hU,hQ⟩
 have hmm:(m:Int)<=100:=by omega
 clear H hc hU hQ
 go_enter Tryz.func120,Tryz.ntmps120
 go_wp2_with fail
 go_loopw [1] (fun t W=>∃ j:Nat,j<m/\t=.int .i64 (j:Int)/\Hid (∃ h,Hw lo W g m c h/\OnlyG g w W/\Pl.HU h m j/\Pl.Hq h m S/\∀ k,m<=k->h k=h0 k)) (fun t _=>(intOf t).toNat)
 case atStart=>exact⟨j0,hj,rfl,h0,H0.out.1,OnlyG.refl _ _,H0.out.2.1,H0.out.2.2,fun _ _=>rfl⟩
 case round=>
  obtain⟨j,hjm,rfl,HY⟩:=hrel
  obtain⟨h,HX0⟩:=HY.out
  have HX:Hid (Hw lo wr g m c h/\OnlyG g w wr/\Pl.HU h m j/\Pl.Hq h m S/\∀ k,m<=k->h k=h0 k):=HX0
  clear HX0 HY
  have hjz:(j:Int)<=100:=by omega
  by_cases hj0:j=0
  ·subst hj0
   have HE:Hid (HpSaid lo g m c m h0 S w wr):=⟨h,HX.out.1,⟨HX.out.2.2.1.end0,HX.out.2.2.2.1.inj,HX.out.2.2.2.1.mem⟩,HX.out.2.2.2.2,HX.out.2.1⟩
   go_wp2_with fail
   go_end0
   exact⟨rfl,HE.out⟩
  obtain⟨p,hp⟩:∃ p,p=(j-1) / 2:=⟨_,rfl⟩
  have e1:((j:Int)-1) / 2=(p:Int):=by omega
  have e2:((j:Int)-1).tdiv 2=(p:Int):=by rw[Int.tdiv_eq_ediv_of_nonneg (by omega)];exact e1
  have hpj:p<j:=by omega
  have hj1:1<=(j:Int):=by omega
  have e3:((p:Int) == (j:Int))=false:=by simp;omega
  have HP:Hid (p=(j-1) / 2):=hp
  clear hp
  have ml:∀ k,(method 365 195 (.pointer (some ⟨ga,q,none⟩)) "Less").run Tryz.prog (wr.drewN k)=.ok (149,.slice (some ⟨g,0,none⟩) m c) (wr.drewN k):=fun k=>meth_Less ga q _ _ (HCE.out wr HX.out.2.1)
  have ms:∀ k,(method 365 195 (.pointer (some ⟨ga,q,none⟩)) "Swap").run Tryz.prog (wr.drewN k)=.ok (151,.slice (some ⟨g,0,none⟩) m c) (wr.drewN k):=fun k=>meth_Swap ga q _ _ (HCE.out wr HX.out.2.1)
  have ml0:(method 365 195 (.pointer (some ⟨ga,q,none⟩)) "Less").run Tryz.prog wr=.ok (149,.slice (some ⟨g,0,none⟩) m c) wr:=ml 0
  have HLS:Hid (∀ (u:World) (x y:Nat),(∃ k,u=wr.drewN k)->x<m->y<m->Calls Tryz.prog 149 #[.slice (some ⟨g,0,none⟩) m c,.int .i64 (x:Int),.int .i64 (y:Int)] u fun e w'=>e=.returned (.bool (decide (h x<h y)))/\∃ k2,w'=wr.drewN k2):=fun u x y hu hx hy=>by
   obtain⟨k,rfl⟩:=hu
   exact (lessH_is x y _ (show Hw lo (wr.drewN k) g m c h from HX.out.1) hx hy hm).mono fun e w' q=>⟨q.1,by obtain⟨k2,q2⟩:=q.2;exact⟨k+k2,by rw[q2,World.drewN_drewN]⟩⟩
  by_cases hl:h j<h p
  ·have hd:decide (h j<h p)=true:=by simp[hl]
   have HSW:Hid (∀ k,Calls Tryz.prog 151 #[.slice (some ⟨g,0,none⟩) m c,.int .i64 (p:Int),.int .i64 (j:Int)] (wr.drewN k) fun e w'=>e=.returned (.tuple #[])/\Hw lo w' g m c (Pl.sw h p j)/\OnlyG g wr w'):=fun k=>(swapH_is p j _ (show Hw lo (wr.drewN k) g m c h from HX.out.1) (by omega) (by omega) hm).mono fun e w' q=>⟨q.1,q.2.1,(OnlyG_drewN wr g k).trans q.2.2⟩
   have HST:Hid (Pl.HU (Pl.sw h p j) m p/\Pl.Hq (Pl.sw h p j) m S/\∀ k,m<=k->Pl.sw h p j k=h0 k):=by
    refine⟨?_,HX.out.2.2.2.1.sw (by omega) hjm (by omega),fun k hk=>(Pl.sw_o (by omega) (by omega)).trans (HX.out.2.2.2.2 k hk)⟩
    rw[HP.out]
    exact HX.out.2.2.1.step (by omega) hjm (by rw[<- HP.out];exact hl)
   clear hl
   go_wp2_with (first | (go_at_call 151;refine (HSW.out _).mono ?_;rintro e u ⟨rfl,r1,r2⟩; have HN:Hid (Hw lo u g m c (Pl.sw h p j)/\OnlyG g wr u):=⟨r1,r2⟩; clear r1 r2) | (go_at_call 149;refine (HLS.out _ _ _ (by first | exact⟨0,rfl⟩ | exact⟨_,rfl⟩) (by omega) (by omega)).mono ?_;rintro e u ⟨rfl,k2,rfl⟩))
   exact⟨⟨p,by omega,rfl,_,HN.out.1,HX.out.2.1.trans HN.out.2,HST.out⟩,by simp[intOf];omega⟩
  ·have hd:decide (h j<h p)=false:=by simp;omega
   have HE:Hid (∀ k,HpSaid lo g m c m h0 S w (wr.drewN k)):=fun k=>⟨h,HX.out.1,⟨HX.out.2.2.1.end_ (by rw[<- HP.out];omega),HX.out.2.2.2.1.inj,HX.out.2.2.2.1.mem⟩,HX.out.2.2.2.2,HX.out.2.1.trans (OnlyG_drewN _ _ _)⟩
   clear hl
   go_wp2_with (go_at_call 149;refine (HLS.out _ _ _ (by first | exact⟨0,rfl⟩ | exact⟨_,rfl⟩) (by omega) (by omega)).mono ?_;rintro e u ⟨rfl,k2,rfl⟩)
   go_end0
   exact⟨rfl,HE.out _⟩
set_option maxRecDepth 100000 in
theorem down_is {lo:Nat} (ga q g m c n:Nat) (h0:Nat->Nat) (S:Nat->Prop) (w:World) (H:Hw lo w g m c h0) (hc:w.cell? ⟨ga,q,none⟩=some (.slice (some ⟨g,0,none⟩) m c)) (hga:ga≠g) (hm:m<=100) (hn:n<=m) (hD:Pl.HD h0 n 0) (hQ:Pl.Hq h0 n S) :
  Calls Tryz.prog 123 #[.iface 195 (.pointer (some ⟨ga,q,none⟩)),.int .i64 0,.int .i64 (n:Int)] w fun e w'=>(∃ v,e=.returned v)/\HpSaid lo g m c n h0 S w w':=by
 have HCE:Hid (∀ u,OnlyG g w u->u.cell? ⟨ga,q,none⟩=some (.slice (some ⟨g,0,none⟩) m c)):=fun u hu=>(hu.cell (p:=⟨ga,q,none⟩) hga).trans hc
 have H0:Hid (Hw lo w g m c h0/\Pl.HD h0 n 0/\Pl.Hq h0 n S):=⟨H,hD,hQ⟩
 have hmm:(m:Int)<=100/\(n:Int)<=100:=by omega
 clear H hc hD hQ
 go_enter Tryz.func123,Tryz.ntmps123
 go_wp2_with fail
 go_loopw [7] (fun t W=>∃ i:Nat,i<=100/\t=.int .i64 (i:Int)/\Hid (∃ h,Hw lo W g m c h/\OnlyG g w W/\Pl.HD h n i/\Pl.Hq h n S/\∀ k,n<=k->h k=h0 k)) (fun t _=>200-(intOf t).toNat)
 case atStart=>exact⟨0,by omega,by go_num,h0,H0.out.1,OnlyG.refl _ _,H0.out.2.1,H0.out.2.2,fun _ _=>rfl⟩
 case round=>
  obtain⟨i,hi,rfl,HY⟩:=hrel
  obtain⟨h,HX0⟩:=HY.out
  have HX:Hid (Hw lo wr g m c h/\OnlyG g w wr/\Pl.HD h n i/\Pl.Hq h n S/\∀ k,n<=k->h k=h0 k):=HX0
  clear HX0 HY
  have hiz:(i:Int)<=100:=by omega
  obtain⟨j1,hj1⟩:∃ j1,j1=2*i+1:=⟨_,rfl⟩
  obtain⟨j2,hj2⟩:∃ j2,j2=2*i+2:=⟨_,rfl⟩
  have e1:2*(i:Int)+1=(j1:Int):=by omega
  have e2:(j1:Int)+1=(j2:Int):=by omega
  have hjz:(j1:Int)<=300/\(j2:Int)<=300/\i<j1/\j1<j2:=by omega
  have HJ:Hid (j1=2*i+1/\j2=2*i+2):=⟨hj1,hj2⟩
  clear hj1 hj2
  by_cases hjn:n<=j1
  ·have hji:(n:Int)<=(j1:Int):=by omega
   have HE:Hid (HpSaid lo g m c n h0 S w wr):=⟨h,HX.out.1,⟨HX.out.2.2.1.end0 (by have:=HJ.out;omega),HX.out.2.2.2.1.inj,HX.out.2.2.2.1.mem⟩,HX.out.2.2.2.2,HX.out.2.1⟩
   go_wp2_with fail
   go_ret
   exact⟨⟨_,rfl⟩,HE.out⟩
  have hji:¬ (n:Int)<=(j1:Int):=by omega
  have hji2:¬ (j1:Int)<0:=by omega
  have ml:∀ k,(method 365 195 (.pointer (some ⟨ga,q,none⟩)) "Less").run Tryz.prog (wr.drewN k)=.ok (149,.slice (some ⟨g,0,none⟩) m c) (wr.drewN k):=fun k=>meth_Less ga q _ _ (HCE.out wr HX.out.2.1)
  have ms:∀ k,(method 365 195 (.pointer (some ⟨ga,q,none⟩)) "Swap").run Tryz.prog (wr.drewN k)=.ok (151,.slice (some ⟨g,0,none⟩) m c) (wr.drewN k):=fun k=>meth_Swap ga q _ _ (HCE.out wr HX.out.2.1)
  have ml0:(method 365 195 (.pointer (some ⟨ga,q,none⟩)) "Less").run Tryz.prog wr=.ok (149,.slice (some ⟨g,0,none⟩) m c) wr:=ml 0
  have HLS:Hid (∀ (u:World) (x y:Nat),(∃ k,u=wr.drewN k)->x<m->y<m->Calls Tryz.prog 149 #[.slice (some ⟨g,0,none⟩) m c,.int .i64 (x:Int),.int .i64 (y:Int)] u fun e w'=>e=.returned (.bool (decide (h x<h y)))/\∃ k2,w'=wr.drewN k2):=fun u x y hu hx hy=>by
   obtain⟨k,rfl⟩:=hu
   exact (lessH_is x y _ (show Hw lo (wr.drewN k) g m c h from HX.out.1) hx hy hm).mono fun e w' q=>⟨q.1,by obtain⟨k2,q2⟩:=q.2;exact⟨k+k2,by rw[q2,World.drewN_drewN]⟩⟩
  by_cases hj2n:j2<n
  ·have hj2i:(j2:Int)<(n:Int):=by omega
   by_cases hl1:h j2<h j1
   ·have hd1:decide (h j2<h j1)=true:=by simp[hl1]
    have HLC:Hid (Pl.lesC h n i=j2):=by
     have hJ:=HJ.out
     show Pl.lesC h n i=j2
     unfold Pl.lesC
     rw[<- hJ.2,<- hJ.1]
     exact if_pos ⟨hj2n,hl1⟩
    by_cases hl:h j2<h i
    ·have hd:decide (h j2<h i)=true:=by simp[hl]
     have HSW:Hid (∀ k,Calls Tryz.prog 151 #[.slice (some ⟨g,0,none⟩) m c,.int .i64 (i:Int),.int .i64 (j2:Int)] (wr.drewN k) fun e w'=>e=.returned (.tuple #[])/\Hw lo w' g m c (Pl.sw h i j2)/\OnlyG g wr w'):=fun k=>(swapH_is i j2 _ (show Hw lo (wr.drewN k) g m c h from HX.out.1) (by omega) (by omega) hm).mono fun e w' q=>⟨q.1,q.2.1,(OnlyG_drewN wr g k).trans q.2.2⟩
     have HST:Hid (Pl.HD (Pl.sw h i j2) n j2/\Pl.Hq (Pl.sw h i j2) n S/\∀ k,n<=k->Pl.sw h i j2 k=h0 k):=by
      refine⟨?_,HX.out.2.2.2.1.sw (by omega) (by omega) (by omega),fun k hk=>(Pl.sw_o (by omega) (by omega)).trans (HX.out.2.2.2.2 k hk)⟩
      have q:=HX.out.2.2.1.step (by have:=HJ.out;omega) (by rw[HLC.out];exact hl)
      rw[HLC.out]at q
      exact q
     clear hl
     go_wp2_with (first | (go_at_call 151;refine (HSW.out _).mono ?_;rintro e u ⟨rfl,r1,r2⟩; have HN:Hid (Hw lo u g m c (Pl.sw h i j2)/\OnlyG g wr u):=⟨r1,r2⟩; clear r1 r2) | (go_at_call 149;refine (HLS.out _ _ _ (by first | exact⟨0,rfl⟩ | exact⟨_,rfl⟩) (by omega) (by omega)).mono ?_;rintro e u ⟨rfl,k2,rfl⟩))
     exact⟨⟨j2,by omega,rfl,_,HN.out.1,HX.out.2.1.trans HN.out.2,HST.out⟩,by simp[intOf];omega⟩
    ·have hd:decide (h j2<h i)=false:=by simp;omega
     have HE:Hid (∀ k,HpSaid lo g m c n h0 S w (wr.drewN k)):=fun k=>⟨h,HX.out.1,⟨HX.out.2.2.1.end_ (by rw[HLC.out];omega),HX.out.2.2.2.1.inj,HX.out.2.2.2.1.mem⟩,HX.out.2.2.2.2,HX.out.2.1.trans (OnlyG_drewN _ _ _)⟩
     clear hl
     go_wp2_with (go_at_call 149;refine (HLS.out _ _ _ (by first | exact⟨0,rfl⟩ | exact⟨_,rfl⟩) (by omega) (by omega)).mono ?_;rintro e u ⟨rfl,k2,rfl⟩)
     go_ret
     exact⟨⟨_,rfl⟩,HE.out _⟩
   ·have hd1:decide (h j2<h j1)=false:=by simp;omega
    have HLC:Hid (Pl.lesC h n i=j1):=by
     have hJ:=HJ.out
     show Pl.lesC h n i=j1
     unfold Pl.lesC
     rw[<- hJ.2,<- hJ.1]
     exact if_neg (fun c=>hl1 c.2)
    by_cases hl:h j1<h i
    ·have hd:decide (h j1<h i)=true:=by simp[hl]
     have HSW:Hid (∀ k,Calls Tryz.prog 151 #[.slice (some ⟨g,0,none⟩) m c,.int .i64 (i:Int),.int .i64 (j1:Int)] (wr.drewN k) fun e w'=>e=.returned (.tuple #[])/\Hw lo w' g m c (Pl.sw h i j1)/\OnlyG g wr w'):=fun k=>(swapH_is i j1 _ (show Hw lo (wr.drewN k) g m c h from HX.out.1) (by omega) (by omega) hm).mono fun e w' q=>⟨q.1,q.2.1,(OnlyG_drewN wr g k).trans q.2.2⟩
     have HST:Hid (Pl.HD (Pl.sw h i j1) n j1/\Pl.Hq (Pl.sw h i j1) n S/\∀ k,n<=k->Pl.sw h i j1 k=h0 k):=by
      refine⟨?_,HX.out.2.2.2.1.sw (by omega) (by omega) (by omega),fun k hk=>(Pl.sw_o (by omega) (by omega)).trans (HX.out.2.2.2.2 k hk)⟩
      have q:=HX.out.2.2.1.step (by have:=HJ.out;omega) (by rw[HLC.out];exact hl)
      rw[HLC.out]at q
      exact q
     clear hl
     go_wp2_with (first | (go_at_call 151;refine (HSW.out _).mono ?_;rintro e u ⟨rfl,r1,r2⟩; have HN:Hid (Hw lo u g m c (Pl.sw h i j1)/\OnlyG g wr u):=⟨r1,r2⟩; clear r1 r2) | (go_at_call 149;refine (HLS.out _ _ _ (by first | exact⟨0,rfl⟩ | exact⟨_,rfl⟩) (by omega) (by omega)).mono ?_;rintro e u ⟨rfl,k2,rfl⟩))
     exact⟨⟨j1,by omega,rfl,_,HN.out.1,HX.out.2.1.trans HN.out.2,HST.out⟩,by simp[intOf];omega⟩
    ·have hd:decide (h j1<h i)=false:=by simp;omega
     have HE:Hid (∀ k,HpSaid lo g m c n h0 S w (wr.drewN k)):=fun k=>⟨h,HX.out.1,⟨HX.out.2.2.1.end_ (by rw[HLC.out];omega),HX.out.2.2.2.1.inj,HX.out.2.2.2.1.mem⟩,HX.out.2.2.2.2,HX.out.2.1.trans (OnlyG_drewN _ _ _)⟩
     clear hl
     go_wp2_with (go_at_call 149;refine (HLS.out _ _ _ (by first | exact⟨0,rfl⟩ | exact⟨_,rfl⟩) (by omega) (by omega)).mono ?_;rintro e u ⟨rfl,k2,rfl⟩)
     go_ret
     exact⟨⟨_,rfl⟩,HE.out _⟩
  ·have hj2i:¬ (j2:Int)<(n:Int):=by omega
   have HLC:Hid (Pl.lesC h n i=j1):=by
    have hJ:=HJ.out
    show Pl.lesC h n i=j1
    unfold Pl.lesC
    rw[<- hJ.2,<- hJ.1]
    exact if_neg (fun c=>hj2n c.1)
   by_cases hl:h j1<h i
   ·have hd:decide (h j1<h i)=true:=by simp[hl]
    have HSW:Hid (∀ k,Calls Tryz.prog 151 #[.slice (some ⟨g,0,none⟩) m c,.int .i64 (i:Int),.int .i64 (j1:Int)] (wr.drewN k) fun e w'=>e=.returned (.tuple #[])/\Hw lo w' g m c (Pl.sw h i j1)/\OnlyG g wr w'):=fun k=>(swapH_is i j1 _ (show Hw lo (wr.drewN k) g m c h from HX.out.1) (by omega) (by omega) hm).mono fun e w' q=>⟨q.1,q.2.1,(OnlyG_drewN wr g k).trans q.2.2⟩
    have HST:Hid (Pl.HD (Pl.sw h i j1) n j1/\Pl.Hq (Pl.sw h i j1) n S/\∀ k,n<=k->Pl.sw h i j1 k=h0 k):=by
     refine⟨?_,HX.out.2.2.2.1.sw (by omega) (by omega) (by omega),fun k hk=>(Pl.sw_o (by omega) (by omega)).trans (HX.out.2.2.2.2 k hk)⟩
     have q:=HX.out.2.2.1.step (by have:=HJ.out;omega) (by rw[HLC.out];exact hl)
     rw[HLC.out]at q
     exact q
    clear hl
    go_wp2_with (first | (go_at_call 151;refine (HSW.out _).mono ?_;rintro e u ⟨rfl,r1,r2⟩; have HN:Hid (Hw lo u g m c (Pl.sw h i j1)/\OnlyG g wr u):=⟨r1,r2⟩; clear r1 r2) | (go_at_call 149;refine (HLS.out _ _ _ (by first | exact⟨0,rfl⟩ | exact⟨_,rfl⟩) (by omega) (by omega)).mono ?_;rintro e u ⟨rfl,k2,rfl⟩))
    exact⟨⟨j1,by omega,rfl,_,HN.out.1,HX.out.2.1.trans HN.out.2,HST.out⟩,by simp[intOf];omega⟩
   ·have hd:decide (h j1<h i)=false:=by simp;omega
    have HE:Hid (∀ k,HpSaid lo g m c n h0 S w (wr.drewN k)):=fun k=>⟨h,HX.out.1,⟨HX.out.2.2.1.end_ (by rw[HLC.out];omega),HX.out.2.2.2.1.inj,HX.out.2.2.2.1.mem⟩,HX.out.2.2.2.2,HX.out.2.1.trans (OnlyG_drewN _ _ _)⟩
    clear hl
    go_wp2_with (go_at_call 149;refine (HLS.out _ _ _ (by first | exact⟨0,rfl⟩ | exact⟨_,rfl⟩) (by omega) (by omega)).mono ?_;rintro e u ⟨rfl,k2,rfl⟩)
    go_ret
    exact⟨⟨_,rfl⟩,HE.out _⟩
def PshMk (ga q:Nat) (oa:Option Addr) (ol oc:Nat) (x:Int) (H:Nat) (G cap:Nat) (L:Array Bool):Act:={ tmps:=#[.pointer (some ⟨ga,q,none⟩),.iface 3 (.int .i64 x),undef,undef,sl L 0 (.pointer (some ⟨ga,q,none⟩)),sl L 1 (.pointer (some ⟨ga,q,none⟩)),sl L 2 (.pointer (some ⟨ga,q,none⟩)),sl L 3 (.pointer (some ⟨ga,q,none⟩)),sl L 4 (.slice oa ol oc),sl L 5 (.iface 3 (.int .i64 x)),sl L 6 (.int .i64 x),sl L 7 (.slice (some ⟨H,0,none⟩) 1 1),sl L 8 (.slice (some ⟨G,0,none⟩) (ol+1) cap),sl L 9 (.pointer (some ⟨ga,q,none⟩)),sl L 10 (.pointer (some ⟨ga,q,none⟩))],defers:=[] }
def PshW (ga q lo:Nat) (oa:Option Addr) (ol oc:Nat) (x:Int) (zs:List Value) (u:World) (G cap:Nat) (L:Array Bool) (w:World):Prop:=
 (up L 7=false->w=u)/\(up L 7=true->up L 8=false->w=u.alloc (.cells #[.int .i64 x] 3))/\(up L 8=true->∃ w1:World,w1.ownsRow lo 3 1 (.slice (some ⟨G,0,none⟩) (ol+1) cap) (ol+1) (zs ++ [.int .i64 x])/\u.grownBy w1 (Value.slice oa ol oc).ownBlock/\((Value.slice oa ol oc).ownBlock=some G\/u.heap.size<=G)/\G<w1.heap.size/\(up L 11=false->w=w1)/\(up L 11=true->w=w1.setCell ⟨ga,q,none⟩ (.slice (some ⟨G,0,none⟩) (ol+1) cap)))
theorem PshW.keep {ga q lo:Nat} {oa:Option Addr} {ol oc:Nat} {x:Int} {zs:List Value} {u:World} {G cap:Nat} {L:Array Bool} {w:World} (h:PshW ga q lo oa ol oc x zs u G cap L w) {i:Nat} (hi:i<L.size) (n1:i≠7) (n2:i≠8) (n3:i≠11):PshW ga q lo oa ol oc x zs u G cap (L.setIfInBounds i true) w:=by
 unfold PshW at h ⊢
 rw[up_set hi,up_set hi,up_set hi,if_neg n1,if_neg n2,if_neg n3]
 exact h
theorem alloc_cellA {u:World} {p:Addr} {x:Value} (h:u.cell? p=some x) (o:Obj):(u.alloc o).cell? p=some x:=by
 rw[<- h];exact (below_alloc u o).cell (block_lt_of_cell h)
theorem PshW.early {ga q lo:Nat} {oa:Option Addr} {ol oc:Nat} {x:Int} {zs:List Value} {u:World} {G cap:Nat} {L:Array Bool} {w:World} (h:PshW ga q lo oa ol oc x zs u G cap L w) (n:up L 8=false) {a:Addr} {y:Value} (hc:u.cell? a=some y):w.cell? a=some y:=by
 cases e:up L 7
 ·rw[h.1 e];exact hc
 ·rw[h.2.1 e n];exact alloc_cellA hc _
theorem grown_cellA {u w1:World} {row:Option Nat} {g j:Nat} {x:Value} (hg:u.grownBy w1 row) (hx:u.cell? ⟨g,j,none⟩=some x) (hne:∀ y,row=some y->y≠g):w1.cell? ⟨g,j,none⟩=some x:=hg.cell hx (fun e=>hne g e.symm rfl)
theorem grown_frozenA {u w1:World} {row:Option Nat} {g j:Nat} (hg:u.grownBy w1 row) (hl:g<u.heap.size) (hx:u.frozen? ⟨g,j,none⟩=false) (hne:∀ y,row=some y->y≠g):w1.frozen? ⟨g,j,none⟩=false:=(World.frozen?_of_block (a:=⟨g,j,none⟩) (hg.block g hl (fun e=>hne g e.symm rfl))).trans hx
theorem grown_fromA {u W w1:World} {row:Option Nat} (hb:Below u.heap.size u W) (hg:W.grownBy w1 row):u.grownBy w1 row:=
 ⟨hg.os.trans hb.os,hg.tape.trans hb.tape,hg.output.trans hb.output,Nat.le_trans hb.size hg.size,fun k hk hr=>(hg.block k (Nat.lt_of_lt_of_le hk hb.size) hr).trans (hb.block k hk)⟩
theorem int_cellA (w:World) (x:Int) (j:Nat) (z:Value) (hj:[Value.int .i64 x][j]?=some z):(w.alloc (.cells #[.int .i64 x] 3)).cell? ((⟨w.heap.size,0,none⟩:Addr).add j)=some z:=
 World.news_of_block (heap_alloc_new w _) j z (by simpa using hj)
set_option maxRecDepth 8000 in
theorem pushM_is {lo:Nat} (ga q:Nat) (oa:Option Addr) (ol oc:Nat) (x:Int) (zs:List Value) (hol:ol<=100) (u:World) (co:u.cell? ⟨ga,q,none⟩=some (.slice oa ol oc)) (hg:u.frozen? ⟨ga,q,none⟩=false) (ho:u.ownsRow lo 3 1 (.slice oa ol oc) ol zs) (hlo:lo<=u.heap.size) (hne:∀ y,(Value.slice oa ol oc).ownBlock=some y->y≠ga) :
  Calls Tryz.prog 216 #[.pointer (some ⟨ga,q,none⟩),.iface 3 (.int .i64 x)] u fun e u'=>e=.returned (.tuple #[])/\∃ (w1:World) (G cap k:Nat),w1.ownsRow lo 3 1 (.slice (some ⟨G,0,none⟩) (ol+1) cap) (ol+1) (zs ++ [.int .i64 x])/\u.grownBy w1 (Value.slice oa ol oc).ownBlock/\((Value.slice oa ol oc).ownBlock=some G\/u.heap.size<=G)/\G<w1.heap.size/\u'=(w1.setCell ⟨ga,q,none⟩ (.slice (some ⟨G,0,none⟩) (ol+1) cap)).drewN k:=by
 obtain⟨i0,hi,hz0,hz1,hz2⟩:=info_parts Tryz.infoi64
 have HO:Hid (u.ownsRow lo 3 1 (.slice oa ol oc) ol zs):=ho
 have HN:Hid (∀ y,(Value.slice oa ol oc).ownBlock=some y->y≠ga):=hne
 have HLO:Hid (∀ {o:Obj},lo<=(u.drew.alloc o).heap.size):=fun {o}=>by have:u.drew.heap.size=u.heap.size:=rfl;simp;omega
 clear ho hne
 go_enter Tryz.func216,Tryz.ntmps216
 go_upto_region 0 with fail
 refine wp_region_any (by kernel_rfl) ?_
 change wpAny _ _ _ _ _ _ _ (World.drew _)
 have dc:u.drew.cell? ⟨ga,q,none⟩=some (.slice oa ol oc):=co
 have dg:u.drew.frozen? ⟨ga,q,none⟩=false:=hg
 refine wpAny_inw (fun L a w=>∃ G cap,a=PshMk ga q oa ol oc x u.drew.heap.size G cap L/\PshW ga q lo oa ol oc x zs u.drew G cap L w) ?done (by kernel_rfl) ?step _ 12 _ _ (by kernel_rfl) ?init (by decide)
 case init=>exact⟨0,0,by simp only[PshMk,sl_no (up_init _ _)],fun _=>rfl,fun q=>absurd (q.symm.trans (up_init _ _)) (by decide),fun q=>absurd (q.symm.trans (up_init _ _)) (by decide)⟩
 case step=>
  intro L act w i o hI hlt hs nl hC hd ho K hK
  obtain⟨G,cap,rfl,hW⟩:=hI
  have hi_lt:i<12:=(Array.getElem?_eq_some_iff.1 ho).1
  rcases (show i=0\/i=1\/i=2\/i=3\/i=4\/i=5\/i=6\/i=7\/i=8\/i=9\/i=10\/i=11 by omega) with rfl | rfl | rfl | rfl | rfl | rfl | rfl | rfl | rfl | rfl | rfl | rfl
  ·change some _=some o at ho
   cases ho
   simp only[PshMk]
   go_simp
   exact hK _ _ ⟨G,cap,by simp only[PshMk,sl_set hlt,reduceIte,Nat.reduceEqDiff];try rfl,(hW.keep hlt (by decide) (by decide) (by decide))⟩
  ·change some _=some o at ho
   cases ho
   simp only[PshMk]
   go_simp
   exact hK _ _ ⟨G,cap,by simp only[PshMk,sl_set hlt,reduceIte,Nat.reduceEqDiff];try rfl,(hW.keep hlt (by decide) (by decide) (by decide))⟩
  ·change some _=some o at ho
   cases ho
   have q1:up L 1=true:=hd { on:=1,ground:=.data } (by simp) rfl
   simp only[PshMk,sl_yes q1]
   go_simp
   exact hK _ _ ⟨G,cap,by simp only[PshMk,sl_set hlt,sl_yes q1,reduceIte,Nat.reduceEqDiff];try rfl,(hW.keep hlt (by decide) (by decide) (by decide))⟩
  ·change some _=some o at ho
   cases ho
   have q2:up L 2=true:=hd { on:=2,ground:=.data } (by simp) rfl
   simp only[PshMk,sl_yes q2]
   go_simp
   exact hK _ _ ⟨G,cap,by simp only[PshMk,sl_set hlt,sl_yes q2,reduceIte,Nat.reduceEqDiff];try rfl,(hW.keep hlt (by decide) (by decide) (by decide))⟩
  ·change some _=some o at ho
   cases ho
   have q3:up L 3=true:=hd { on:=3,ground:=.data } (by simp) rfl
   have n8:up L 8=false:=hC.no nl 8 rfl (by kernel_rfl)
   have cx:=hW.early n8 dc
   simp only[PshMk,sl_yes q3]
   go_simp
   exact hK _ _ ⟨G,cap,by simp only[PshMk,sl_set hlt,sl_yes q3,reduceIte,Nat.reduceEqDiff];try rfl,(hW.keep hlt (by decide) (by decide) (by decide))⟩
  ·change some _=some o at ho
   cases ho
   simp only[PshMk]
   go_simp
   exact hK _ _ ⟨G,cap,by simp only[PshMk,sl_set hlt,reduceIte,Nat.reduceEqDiff];try rfl,(hW.keep hlt (by decide) (by decide) (by decide))⟩
  ·change some _=some o at ho
   cases ho
   have q5:up L 5=true:=hd { on:=5,ground:=.data } (by simp) rfl
   simp only[PshMk,sl_yes q5]
   go_simp
   exact hK _ _ ⟨G,cap,by simp only[PshMk,sl_set hlt,sl_yes q5,reduceIte,Nat.reduceEqDiff];try rfl,(hW.keep hlt (by decide) (by decide) (by decide))⟩
  ·change some _=some o at ho
   cases ho
   have q6:up L 6=true:=hd { on:=6,ground:=.data } (by simp) rfl
   have n8:up L 8=false:=hC.no nl 8 rfl (by kernel_rfl)
   obtain rfl:=hW.1 nl
   simp only[PshMk,sl_yes q6]
   go_simp
   exact hK _ _ ⟨G,cap,by simp only[PshMk,sl_set hlt,sl_yes q6,reduceIte,Nat.reduceEqDiff];try rfl,⟨fun q=>absurd (q.symm.trans ((up_set hlt _).trans (if_pos rfl))) (by decide),fun _ _=>rfl,fun q=>absurd (q.symm.trans ((up_set hlt 8).trans n8)) (by decide)⟩⟩
  ·change some _=some o at ho
   cases ho
   have q4:up L 4=true:=hd { on:=4,ground:=.data } (by simp) rfl
   have q7:up L 7=true:=hd { on:=7,ground:=.data } (by simp) rfl
   have n11:up L 11=false:=hC.no nl 11 rfl (by kernel_rfl)
   obtain rfl:=hW.2.1 q7 nl
   simp only[PshMk,sl_yes q4,sl_yes q7]
   rw[if_pos (by rfl)]
   refine wp_append_lies _ (.tmp 8) (.tmp 11) 131 (by rfl) lo 3 i0 (.int .i64 0) 1 8 Tryz.underlying131 hi hz0 hz1 hz2 rfl (by decide) (.slice oa ol oc) ol zs (by rfl) (HO.out.drew.alloc _) ⟨u.drew.heap.size,0,none⟩ 1 1 [.int .i64 x] (by rfl) rfl (int_cellA u.drew x) (by intro z hz;simp at hz;subst hz;rfl) (by decide) (by unfold maxLen;omega) (by omega) HLO.out _ rfl ?_
   intro G' cap' w1 hown1 hgrow hat hlt1
   exact hK _ _ ⟨G',cap',by simp only[PshMk,sl_set hlt,sl_yes q4,sl_yes q7,reduceIte,Nat.reduceEqDiff];try rfl,⟨fun q=>absurd (q.symm.trans ((up_set hlt 7).trans q7)) (by decide),fun _ q=>absurd (q.symm.trans ((up_set hlt _).trans (if_pos rfl))) (by decide),fun _=>⟨w1,hown1,grown_fromA (below_alloc _ _) hgrow,by rcases hat with h | h;exact .inl h;exact .inr (by rw[h];simp),hlt1,fun _=>rfl,fun q=>absurd (q.symm.trans ((up_set hlt 11).trans n11)) (by decide)⟩⟩⟩
  ·change some _=some o at ho
   cases ho
   have q0:up L 0=true:=hd { on:=0,ground:=.data } (by simp) rfl
   simp only[PshMk,sl_yes q0]
   go_simp
   exact hK _ _ ⟨G,cap,by simp only[PshMk,sl_set hlt,sl_yes q0,reduceIte,Nat.reduceEqDiff];try rfl,(hW.keep hlt (by decide) (by decide) (by decide))⟩
  ·change some _=some o at ho
   cases ho
   have q9:up L 9=true:=hd { on:=9,ground:=.data } (by simp) rfl
   simp only[PshMk,sl_yes q9]
   go_simp
   exact hK _ _ ⟨G,cap,by simp only[PshMk,sl_set hlt,sl_yes q9,reduceIte,Nat.reduceEqDiff];try rfl,(hW.keep hlt (by decide) (by decide) (by decide))⟩
  ·change some _=some o at ho
   cases ho
   have q8:up L 8=true:=hd { on:=8,ground:=.data } (by simp) rfl
   have q10:up L 10=true:=hd { on:=10,ground:=.data } (by simp) rfl
   have q7:up L 7=true:=hC 8 _ rfl q8 { on:=7,ground:=.data } (by simp) rfl
   obtain⟨w1,y1,y2,y3,y4,y5,_⟩:=hW.2.2 q8
   obtain rfl:=y5 nl
   have qf:=grown_frozenA (u:=u.drew) y2 (block_lt_of_cell dc) dg HN.out
   have q6:=grown_cellA (u:=u.drew) y2 dc HN.out
   simp only[PshMk,sl_yes q8,sl_yes q10]
   go_simp
   exact hK _ _ ⟨G,cap,by simp only[PshMk,sl_set hlt,sl_yes q8,sl_yes q10,reduceIte,Nat.reduceEqDiff];try rfl,⟨fun q=>absurd (q.symm.trans ((up_set hlt 7).trans q7)) (by decide),fun _ q=>absurd (q.symm.trans ((up_set hlt 8).trans q8)) (by decide),fun _=>⟨w,y1,y2,y3,y4,fun q=>absurd (q.symm.trans ((up_set hlt _).trans (if_pos rfl))) (by decide),fun _=>rfl⟩⟩⟩
 case done=>
  rintro L a w ⟨G,cap,rfl,hW⟩ hall
  obtain⟨w1,y1,y2,y3,y4,_,y5⟩:=hW.2.2 (hall 8 (by decide))
  obtain rfl:=y5 (hall 11 (by decide))
  simp only[PshMk,sl_yes (hall 0 (by decide)),sl_yes (hall 1 (by decide)),sl_yes (hall 2 (by decide)),sl_yes (hall 3 (by decide)),sl_yes (hall 4 (by decide)),sl_yes (hall 5 (by decide)),sl_yes (hall 6 (by decide)),sl_yes (hall 7 (by decide)),sl_yes (hall 8 (by decide)),sl_yes (hall 9 (by decide)),sl_yes (hall 10 (by decide))]
  go_wp2
  go_end0
  exact⟨rfl,w1,G,cap,y1,grown_fromA (Below.refl _ _).drew y2,y3,y4,0,rfl⟩
structure Frm (ga q:Nat) (row:Option Nat) (v':Value) (w w':World):Prop where
 os:w'.os=w.os
 tape:w'.tape=w.tape
 output:w'.output=w.output
 size:w.heap.size<=w'.heap.size
 block:∀ k,k<w.heap.size->k≠ga->some k≠row->w'.heap[k]?=w.heap[k]?
 own:w'.heap[ga]?=(w.setCell ⟨ga,q,none⟩ v').heap[ga]?
theorem popM_is {lo:Nat} (ga q g m c:Nat) (h:Nat->Nat) (w:World) (H:Hw lo w g (m+1) c h) (hc:w.cell? ⟨ga,q,none⟩=some (.slice (some ⟨g,0,none⟩) ((m+1:Nat)) c)) (hf:w.frozen? ⟨ga,q,none⟩=false) (hm:m<=100) :
  Calls Tryz.prog 215 #[.pointer (some ⟨ga,q,none⟩)] w fun e w'=>e=.returned (.iface 3 (.int .i64 ((h m:Nat):Int)))/\w'=w.setCell ⟨ga,q,none⟩ (.slice (some ⟨g,0,none⟩) m c):=by
 have c1:=H.at_ (show m<m+1 by omega)
 have hcc:=H.cap
 obtain⟨x,hx⟩:∃ x,x=((h m:Nat):Int):=⟨_,rfl⟩
 rw[<- hx]at c1 ⊢
 obtain⟨m1,hm1⟩:∃ m1,m1=m+1:=⟨_,rfl⟩
 rw[<- hm1]at hc hcc
 have e1:(m1:Int)-1=(m:Int):=by omega
 have hz:(m:Int)<(m1:Int)/\(m1:Int)<=101:=by omega
 have hz2:m<=c/\m<=m1/\(m:Int)<=(c:Int):=by omega
 clear H hx hm1
 go_enter Tryz.func215,Tryz.ntmps215
 go_wp2_with fail
 go_ret
 exact⟨rfl,by simp⟩
def PushSaid (lo ga q ol x:Nat) (OB:Option Nat) (S:Nat->Prop) (w w':World):Prop:=∃ G cap h',Hw lo w' G (ol+1) cap h'/\Pl.Hp h' (ol+1) (fun y=>S y\/y=x)/\(OB=some G\/w.heap.size<=G)/\Frm ga q OB (.slice (some ⟨G,0,none⟩) ((ol+1:Nat)) cap) w w'
set_option maxRecDepth 100000 in
theorem heapPush_is {lo:Nat} (ga q:Nat) (oa:Option Addr) (ol oc x:Nat) (h:Nat->Nat) (S:Nat->Prop) (cs:Array Value) (w:World) (hol:ol<=90) (hga:w.heap[ga]?=some (.cells cs 136 (0,0))) (hq:cs[q]?=some (.slice oa ol oc)) (ho:w.ownsRow lo 3 1 (.slice oa ol oc) ol (iv h ol)) (hlo:lo<=w.heap.size) (hp:Pl.Hp h ol S) (hx:¬ S x) (hne:∀ y,(Value.slice oa ol oc).ownBlock=some y->y≠ga) :
  Calls Tryz.prog 104 #[.iface 195 (.pointer (some ⟨ga,q,none⟩)),.iface 3 (.int .i64 (x:Int))] w fun e w'=>e=.returned (.tuple #[])/\PushSaid lo ga q ol x (Value.slice oa ol oc).ownBlock S w w':=by
 have hga1:=(Array.getElem?_eq_some_iff.1 hga).1
 have HPM:Hid (Calls _ _ _ _ _):=pushM_is ga q oa ol oc (x:Int) (iv h ol) (by omega) w ((cell_of_row w ga q _ _ (0,0) hga).trans hq) (frozen_of_row w ga q _ _ hga) ho hlo hne
 have mP:=meth_Push ga q w
 obtain⟨OB,hOB⟩:∃ OB,OB=(Value.slice oa ol oc).ownBlock:=⟨_,rfl⟩
 rw[<- hOB]at HPM hne ⊢
 have HFIN:Hid (∀ (w1:World) (G cap k:Nat),w1.ownsRow lo 3 1 (.slice (some ⟨G,0,none⟩) (ol+1) cap) (ol+1) (iv h ol ++ [.int .i64 (x:Int)])->w.grownBy w1 OB->(OB=some G\/w.heap.size<=G)->∀ U,U=(w1.setCell ⟨ga,q,none⟩ (.slice (some ⟨G,0,none⟩) (ol+1) cap)).drewN k->U.cell? ⟨ga,q,none⟩=some (.slice (some ⟨G,0,none⟩) ((ol+1:Nat)) cap)/\Hw lo U G (ol+1) cap (Pl.pushH h ol x)/\ga≠G/\∀ W,HpSaid lo G (ol+1) cap (ol+1) (Pl.pushH h ol x) (fun y=>S y\/y=x) U W->PushSaid lo ga q ol x OB S w W):=fun w1 G cap k o1 g1 a1 U hU=>by
  have hgG:ga≠G:=by
   rcases a1 with e | e
   ·exact fun c=>hne G e c.symm
   ·omega
  have b1:w1.heap[ga]?=some (.cells cs 136 (0,0)):=(g1.block ga hga1 (fun e=>hne ga e.symm rfl)).trans hga
  have b2:U.heap[ga]?=some (.cells (cs.setIfInBounds q (.slice (some ⟨G,0,none⟩) ((ol+1:Nat)) cap)) 136 (0,0)):=by rw[hU];exact heap_setCell_same w1 ga q _ _ _ b1
  have b3:∀ j,j≠ga->U.heap[j]?=w1.heap[j]?:=fun j hj=>by rw[hU];exact heap_setCell_other w1 ⟨ga,q,none⟩ j _ hj
  have hqs:q<cs.size:=(Array.getElem?_eq_some_iff.1 hq).1
  refine⟨?_,?_,hgG,?_⟩
  ·rw[cell_of_row U ga q _ _ (0,0) b2,Array.getElem?_setIfInBounds_self_of_lt hqs]
  ·unfold Hw
   rw[<- iv_push]
   exact own_eqL o1 fun j hj=>by cases hj;exact b3 G (fun c=>hgG c.symm)
  ·rintro W ⟨h',q1,q2,q3,q4⟩
   have hUsz:U.heap.size=w1.heap.size:=by rw[hU];show (w1.setCell _ _).heap.size=_;simp
   refine⟨G,cap,h',q1,q2,a1,q4.os.trans ?_,q4.tape.trans ?_,q4.output.trans ?_,?_,fun j hj hja hjr=>?_,?_⟩
   ·rw[hU];exact g1.os
   ·rw[hU];exact g1.tape
   ·rw[hU];exact g1.output
   ·rw[q4.size,hUsz];exact g1.size
   ·rw[q4.block j (fun c=>by rcases a1 with e | e;exact hjr (by rw[e,c]);omega),b3 j hja,g1.block j hj hjr]
   ·rw[q4.block ga hgG,b2,heap_setCell_same w ga q _ _ _ hga]
 have HPU:Hid (_/\_):=hp.push hx
 have hzz:(ol:Int)<=90:=by omega
 obtain⟨m,hm⟩:∃ m,m=ol+1:=⟨_,rfl⟩
 have e1:(m:Int)-1=(ol:Int):=by omega
 have HM:Hid (m=ol+1):=hm
 clear hga hq ho hlo hp hx hne hOB hm
 go_enter Tryz.func104,Tryz.ntmps104
 go_wp2_with (go_at_call 216;refine HPM.out.mono ?_;rintro e u ⟨rfl,w1,G,cap,k,o1,g1,a1,g2,rfl⟩; obtain⟨U,hU⟩:∃ U,U=(w1.setCell ⟨ga,q,none⟩ (.slice (some ⟨G,0,none⟩) (ol+1) cap)).drewN k:=⟨_,rfl⟩; rw[<- hU];have HF:=HFIN.out w1 G cap k o1 g1 a1 U hU;clear hU o1 g1 a1 g2;rw[<- HM.out]at HF;have mL:=meth_Len ga q U _ HF.1;have HQ:Hid (_/\_/\_/\_):=HF;clear HF)
 go_wp2_with (go_at_call 108;refine (len_is _ _ m _ rfl (by have:=HM.out;omega) _).mono ?_;rintro e u ⟨rfl,rfl⟩)
 have HUP:Hid (Calls _ _ _ _ _):=up_is ga q G m cap (Pl.pushH h ol x) (fun y=>S y\/y=x) ol u HQ.out.2.1 HQ.out.1 HQ.out.2.2.1 (by have:=HM.out;omega) (by have:=HM.out;omega) (by rw[HM.out];exact HPU.out.2) (by rw[HM.out];exact HPU.out.1)
 go_wp2_with (go_at_call 120;refine HUP.out.mono ?_;rintro e u2 ⟨rfl,hs⟩; have HS:Hid (PushSaid lo ga q ol x OB S w _):=HQ.out.2.2.2 _ hs;clear hs)
 go_end0
 exact⟨rfl,HS.out⟩
end Go.Proofs.YtcgfgmlfbgbkfaaGreatDoor.W
namespace Go.Proofs.YtcgfgmlfbgbkfaaGreatDoor.Pl
theorem Inj.bound {h:Nat->Nat}:∀ (b m:Nat),Inj h m->(∀ i,i<m->h i<b)->m<=b:=by
 intro b
 induction b generalizing h with
 | zero=>intro m H hb;rcases Nat.eq_zero_or_pos m with e | e;omega;exact absurd (hb 0 e) (Nat.not_lt_zero _)
 | succ b ih=>
  intro m H hb
  by_cases hx:∃ i,i<m/\h i=b
  ·obtain⟨i,hi,e⟩:=hx
   obtain⟨k,rfl⟩:∃ k,m=k+1:=⟨m-1,by omega⟩
   have:=ih (h:=if i=k then h else Pl.sw h i k) k ?_ ?_
   ·omega
   ·by_cases c:i=k
    ·rw[if_pos c];exact fun x y hx hy=>H x y (by omega) (by omega)
    ·rw[if_neg c];exact fun x y hx hy=>(H.sw hi (by omega) c) x y (by omega) (by omega)
   ·intro j hj
    by_cases c:i=k
    ·rw[if_pos c]
     have h1:=hb j (by omega)
     have h2:h j≠b:=fun q=>by have:=H j i (by omega) hi (q.trans e.symm);omega
     omega
    ·rw[if_neg c]
     by_cases d:j=i
     ·subst d
      rw[sw_i]
      have h1:=hb k (by omega)
      have h2:h k≠b:=fun q=>by have:=H k j (by omega) hi (q.trans e.symm);omega
      omega
     ·rw[sw_o d (by omega)]
      have h1:=hb j (by omega)
      have h2:h j≠b:=fun q=>by have:=H j i (by omega) hi (q.trans e.symm);omega
      omega
  ·have:=ih m H (fun i hi=>by
    have h1:=hb i hi
    have h2:h i≠b:=fun q=>hx ⟨i,hi,q⟩
    omega)
   omega
theorem Hp.bound {h:Nat->Nat} {m b:Nat} {S:Nat->Prop} (H:Hp h m S) (hb:∀ x,S x->x<b):m<=b:=H.inj.bound b m (fun i hi=>hb _ ((H.mem _).2 ⟨i,hi,rfl⟩))
theorem Hp.set {h:Nat->Nat} {m:Nat} {S S':Nat->Prop} (H:Hp h m S) (e:∀ x,S' x↔S x):Hp h m S':=⟨H.ord,H.inj,fun x=>(e x).trans (H.mem x)⟩
theorem Hp.zero {h:Nat->Nat} {m:Nat} {S:Nat->Prop} (H:Hp h m S):m=0↔∀ x,¬ S x:=by
 constructor
 ·intro e x hx;obtain⟨i,hi,_⟩:=(H.mem x).1 hx;omega
 ·intro hn
  rcases Nat.eq_zero_or_pos m with e | e
  ·exact e
  ·exact absurd ((H.mem (h 0)).2 ⟨0,e,rfl⟩) (hn _)
end Go.Proofs.YtcgfgmlfbgbkfaaGreatDoor.Pl
namespace Go.Proofs.YtcgfgmlfbgbkfaaGreatDoor.W
open Go.RowKit
def PopSaid (lo ga q g m c:Nat) (x:Nat) (S:Nat->Prop) (w w':World):Prop:=∃ h',Hw lo w' g m c h'/\Pl.Hp h' m (fun y=>S y/\y≠x)/\Frm ga q (some g) (.slice (some ⟨g,0,none⟩) m c) w w'
set_option maxRecDepth 100000 in
theorem heapPop_is {lo:Nat} (ga q g m c:Nat) (h:Nat->Nat) (S:Nat->Prop) (cs:Array Value) (w:World) (hm:m<=90) (hga:w.heap[ga]?=some (.cells cs 136 (0,0))) (hq:cs[q]?=some (.slice (some ⟨g,0,none⟩) ((m+1:Nat)) c)) (ho:Hw lo w g (m+1) c h) (hp:Pl.Hp h (m+1) S) (hne:ga≠g) :
  Calls Tryz.prog 110 #[.iface 195 (.pointer (some ⟨ga,q,none⟩))] w fun e w'=>e=.returned (.iface 3 (.int .i64 ((h 0:Nat):Int)))/\PopSaid lo ga q g m c (h 0) S w w':=by
 obtain⟨p1,p2,p3,p4,p5⟩:=hp.pop
 have hga1:=(Array.getElem?_eq_some_iff.1 hga).1
 obtain⟨m1,hm1⟩:∃ m1,m1=m+1:=⟨_,rfl⟩
 have HM:Hid (m1=m+1):=hm1
 have hmz:m1<=91/\m<m1:=by omega
 have hmi:(m1:Int)<=91:=by omega
 have e1:(m1:Int)-1=(m:Int):=by omega
 rw[<- hm1]at hq ho
 have hc:w.cell? ⟨ga,q,none⟩=some (.slice (some ⟨g,0,none⟩) m1 c):=(cell_of_row w ga q _ _ (0,0) hga).trans hq
 have mL:=meth_Len ga q w _ hc
 have mS:=meth_Swap ga q w _ hc
 have HSW:Hid (Calls _ _ _ _ _):=swapH_is 0 m w ho (by omega) (by omega) (by omega)
 have HDN:Hid (∀ u,Hw lo u g m1 c (Pl.sw h 0 m)->OnlyG g w u->Calls Tryz.prog 123 #[.iface 195 (.pointer (some ⟨ga,q,none⟩)),.int .i64 0,.int .i64 (m:Int)] u fun e w'=>(∃ v,e=.returned v)/\HpSaid lo g m1 c m (Pl.sw h 0 m) (fun y=>S y/\y≠h 0) u w'):=fun u hu hO=>
  down_is ga q g m1 c m (Pl.sw h 0 m) _ u hu ((hO.cell (p:=⟨ga,q,none⟩) hne).trans hc) hne (by omega) (by omega) p4 p3
 have HPO:Hid (∀ (u:World) (h':Nat->Nat),Hw lo u g m1 c h'->(∀ k,m<=k->h' k=Pl.sw h 0 m k)->OnlyG g w u->Calls Tryz.prog 215 #[.pointer (some ⟨ga,q,none⟩)] u fun e w'=>e=.returned (.iface 3 (.int .i64 ((h 0:Nat):Int)))/\w'=u.setCell ⟨ga,q,none⟩ (.slice (some ⟨g,0,none⟩) m c)):=fun u h' hu hk hO=>by
  have hb:=(hO.block ga hne).trans hga
  have q:=popM_is ga q g m c h' u (by rw[<- hm1];exact hu) (by rw[<- hm1];exact (hO.cell (p:=⟨ga,q,none⟩) hne).trans hc) (frozen_of_row u ga q _ _ hb) (by omega)
  rw[hk m (Nat.le_refl _),p5]at q
  exact q
 have HFIN:Hid (∀ (u:World) (h':Nat->Nat),Hw lo u g m1 c h'->Pl.Hp h' m (fun y=>S y/\y≠h 0)->OnlyG g w u->PopSaid lo ga q g m c (h 0) S w (u.setCell ⟨ga,q,none⟩ (.slice (some ⟨g,0,none⟩) m c))):=fun u h' hu hh hO=>by
  have hb:=(hO.block ga hne).trans hga
  rw[hm1]at hu
  refine⟨h',hu.less.keep (heap_setCell_other u ⟨ga,q,none⟩ g _ (fun c=>hne c.symm)),hh,hO.os,hO.tape,hO.output,?_,fun k hk hka hkr=>?_,?_⟩
  ·have:(u.setCell ⟨ga,q,none⟩ (.slice (some ⟨g,0,none⟩) m c)).heap.size=u.heap.size:=by simp
   rw[this,hO.size];exact Nat.le_refl _
  ·rw[heap_setCell_other u ⟨ga,q,none⟩ k _ hka,hO.block k (fun c=>hkr (by rw[c]))]
  ·rw[heap_setCell_same u ga q _ _ _ hb,heap_setCell_same w ga q _ _ _ hga]
 have mP:=fun u=>meth_Pop ga q u
 clear hq ho hp hga hc p1 p2 p3 p4 p5 hm1
 go_enter Tryz.func110,Tryz.ntmps110
 go_wp2_with (go_at_call 108;refine (len_is _ _ m1 _ rfl (by omega) _).mono ?_;rintro e u ⟨rfl,rfl⟩)
 go_wp2_with (go_at_call 151;refine HSW.out.mono ?_;rintro e u1 ⟨rfl,r1,r2⟩; have H1:Hid (Hw lo u1 g m1 c (Pl.sw h 0 m)/\OnlyG g u u1):=⟨r1,r2⟩; clear r1 r2)
 go_wp2_with (go_at_call 123;refine (HDN.out u1 H1.out.1 H1.out.2).mono ?_;rintro e u2 ⟨⟨vx,rfl⟩,h',r1,r2,r3,r4⟩; have H2:Hid (Hw lo u2 g m1 c h'/\Pl.Hp h' m (fun y=>S y/\y≠h 0)/\(∀ k,m<=k->h' k=Pl.sw h 0 m k)/\OnlyG g u u2):=⟨r1,r2,r3,H1.out.2.trans r4⟩; clear r1 r2 r3 r4)
 go_wp2_with (go_at_call 215;refine (HPO.out u2 h' H2.out.1 H2.out.2.2.1 H2.out.2.2.2).mono ?_;rintro e u3 ⟨rfl,rfl⟩)
 go_ret
 exact⟨rfl,HFIN.out u2 h' H2.out.1 H2.out.2.1 H2.out.2.2.2⟩
end Go.Proofs.YtcgfgmlfbgbkfaaGreatDoor.W
