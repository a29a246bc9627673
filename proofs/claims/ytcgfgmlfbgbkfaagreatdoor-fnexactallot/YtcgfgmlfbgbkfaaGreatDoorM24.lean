import Derived.Test.YtcgfgmlfbgbkfaaGreatDoorM23
import Derived.Test.YtcgfgmlfbgbkfaaGreatDoorM12
import Derived.Test.YtcgfgmlfbgbkfaaGreatDoorM22
set_option linter.unusedVariables false
set_option linter.unusedSimpArgs false
set_option maxHeartbeats 16000000
namespace Go.Proofs.YtcgfgmlfbgbkfaaGreatDoor.Pl
def hdL (S:Nat->Sp) (pl:Nat->Pc) (f:Int) (k:Nat):List Nat:=(List.range k).filter fun r=>decide (0<(pl r).reg/\f<=(S r).tt)
theorem hdL_yes {S:Nat->Sp} {pl:Nat->Pc} {f:Int} {k:Nat} (h:0<(pl k).reg/\f<=(S k).tt):hdL S pl f (k+1)=hdL S pl f k ++ [k]:=by unfold hdL;rw[List.range_succ,List.filter_append];simp[h]
theorem hdL_no {S:Nat->Sp} {pl:Nat->Pc} {f:Int} {k:Nat} (h:¬ (0<(pl k).reg/\f<=(S k).tt)):hdL S pl f (k+1)=hdL S pl f k:=by
 unfold hdL;rw[List.range_succ,List.filter_append,List.filter_cons_of_neg (by simpa using h)];simp
theorem hdL_mem {S:Nat->Sp} {pl:Nat->Pc} {f:Int} {k r:Nat}:r∈hdL S pl f k↔r<k/\0<(pl r).reg/\f<=(S r).tt:=by unfold hdL;rw[List.mem_filter];simp
theorem hdL_len (S:Nat->Sp) (pl:Nat->Pc) (f:Int) (k:Nat):(hdL S pl f k).length<=k:=by unfold hdL;exact Nat.le_trans (List.length_filter_le _ _) (by simp)
theorem hdL_asc (S:Nat->Sp) (pl:Nat->Pc) (f:Int) (k:Nat):(hdL S pl f k).Pairwise (· < ·):=by unfold hdL;exact List.Pairwise.filter _ List.pairwise_lt_range
end Go.Proofs.YtcgfgmlfbgbkfaaGreatDoor.Pl
namespace Go.Proofs.YtcgfgmlfbgbkfaaGreatDoor.W
open Go.RowKit
def IRd (g n:Nat) (xs:List Int) (u:World):Prop:=n=xs.length/\∀ i,i<n->u.cell? ⟨g,i,none⟩=some (.int .i64 (xs.getD i 0))
theorem IRd.keep {g n:Nat} {xs:List Int} {u u':World} (h:IRd g n xs u) (hb:u'.heap[g]?=u.heap[g]?):IRd g n xs u':=⟨h.1,fun i hi=>(World.cell?_of_block (a:=⟨g,i,none⟩) hb).trans (h.2 i hi)⟩
theorem IRd.own {lo g n c:Nat} {xs:List Int} {u:World} (h:u.ownsRow lo 3 1 (.slice (some ⟨g,0,none⟩) n c) n (xs.map (Value.int .i64))) (hn:n=xs.length):IRd g n xs u:=⟨hn,fun i hi=>by rw[h.cellAt i (by omega),List.getElem?_map,List.getD_eq_getElem?_getD,List.getElem?_eq_getElem (by omega)];rfl⟩
def hasI (xs:List Int) (x:Int):Bool:=decide (x∈xs)
set_option maxRecDepth 100000 in
theorem has_is (g n c:Nat) (xs:List Int) (x:Int) (w:World) (h:IRd g n xs w) (hn:n<=4000):Calls Tryz.prog 80 #[.slice (some ⟨g,0,none⟩) n c,.int .i64 x] w fun e w'=>e=.returned (.bool (hasI xs x))/\w'=w:=by
 have H:Hid (IRd g n xs w):=h
 have hnn:(n:Int)<=4000:=by omega
 clear h
 go_enter Tryz.func80,Tryz.ntmps80
 go_wp2_with fail
 go_loopw [5] (fun t W=>∃ i:Nat,i<=n/\t=.int .i64 (i:Int)/\W=w/\Hid (∀ j,j<i->xs.getD j 0≠x)) (fun t _=>n-(intOf t).toNat)
 case atStart=>exact⟨0,Nat.zero_le _,rfl,rfl,fun j hj=>by omega⟩
 case round=>
  obtain⟨i,hi,rfl,rfl,HX⟩:=hrel
  by_cases hlt:i<n
  ·have hii:(i:Int)<(n:Int):=by omega
   have c1:=H.out.2 i hlt
   obtain⟨y,hy⟩:∃ y,y=xs.getD i 0:=⟨_,rfl⟩
   rw[<- hy]at c1
   have HY:Hid (y=xs.getD i 0):=hy
   clear hy
   by_cases hxy:y=x
   ·have HE:Hid (hasI xs x=true):=by
     unfold hasI
     have:=H.out.1
     refine decide_eq_true ?_
     rw[<- hxy,HY.out,List.getD_eq_getElem?_getD,List.getElem?_eq_getElem (by omega)]
     exact List.getElem_mem _
    subst hxy
    go_wp2_with fail
    go_ret
    exact⟨by rw[HE.out];rfl,rfl⟩
   ·have hb:(y == x)=false:=by simp[hxy]
    have HN:Hid (∀ j,j<i+1->xs.getD j 0≠x):=fun j hj=>by
     by_cases e:j=i
     ·subst e;rw[<- HY.out];exact hxy
     ·exact HX.out j (by omega)
    go_wp2_with fail
    exact⟨⟨i+1,by omega,by go_num,trivial,HN⟩,by simp[intOf];omega⟩
  ·have hii:¬ (i:Int)<(n:Int):=by omega
   have HE:Hid (hasI xs x=false):=by
    unfold hasI
    have:=H.out.1
    refine decide_eq_false fun hm=>?_
    obtain⟨j,hj,e⟩:=List.getElem_of_mem hm
    exact HX.out j (by omega) (by rw[List.getD_eq_getElem?_getD,List.getElem?_eq_getElem hj];exact e)
   go_wp2_with fail
   go_ret
   exact⟨by rw[HE.out];rfl,rfl⟩
def usL (cr:Bool):List Int:=Pl.gvL.drop (Pl.lo4 cr)
theorem usL_len (cr:Bool):(usL cr).length=16-Pl.lo4 cr:=by cases cr <;> rfl
theorem usL_at {cr:Bool} {j:Nat} (h:j<16-Pl.lo4 cr):(usL cr).getD j 0=Pl.gv (Pl.lo4 cr+j):=by
 unfold usL Pl.gv
 rw[List.getD_eq_getElem?_getD,List.getD_eq_getElem?_getD,List.getElem?_drop]
def UsSaid (cr:Bool) (w:World) (e:Ending) (w':World):Prop:=∃ g c,e=.returned (.slice (some ⟨g,0,none⟩) (usL cr).length c)/\IRd g (usL cr).length (usL cr) w'/\w.heap.size<=g/\g<w'.heap.size/\Below w.heap.size w w'
set_option maxRecDepth 100000 in
theorem usable_is (cr:Bool) (w:World):Calls Tryz.prog 79 #[.bool cr] w fun e w'=>UsSaid cr w e w':=by
 obtain⟨i0,hi0,hz0,hz1,hz2⟩:=info_parts Tryz.infoi64
 have HI:Hid (_/\_/\_/\_):=⟨hi0,hz0,hz1,hz2⟩
 clear hi0 hz0 hz1 hz2
 cases cr
 ·have HE:Hid (∀ g4 c4 y4,y4.ownsRow w.heap.size 3 1 (.slice (some ⟨g4,0,none⟩) 16 c4) 16 (#[.int .i64 28,.int .i64 29,.int .i64 30,.int .i64 31].toList ++ #[.int .i64 9,.int .i64 18,.int .i64 19,.int .i64 20,.int .i64 21,.int .i64 22,.int .i64 23,.int .i64 24,.int .i64 25,.int .i64 26,.int .i64 27,.int .i64 8].toList)->((w.alloc (.cells #[.int .i64 9,.int .i64 18,.int .i64 19,.int .i64 20,.int .i64 21,.int .i64 22,.int .i64 23,.int .i64 24,.int .i64 25,.int .i64 26,.int .i64 27,.int .i64 8] 3)).alloc (.cells #[.int .i64 28,.int .i64 29,.int .i64 30,.int .i64 31] 3)).grownBy y4 (some (w.heap.size+1))->UsSaid false w (.returned (.slice (some ⟨g4,0,none⟩) 16 c4)) y4):=fun g4 c4 y4 o4 g5=>by
   have hl:=o4.lt g4 rfl
   have hb:Below w.heap.size w ((w.alloc (.cells #[.int .i64 9,.int .i64 18,.int .i64 19,.int .i64 20,.int .i64 21,.int .i64 22,.int .i64 23,.int .i64 24,.int .i64 25,.int .i64 26,.int .i64 27,.int .i64 8] 3)).alloc (.cells #[.int .i64 28,.int .i64 29,.int .i64 30,.int .i64 31] 3)):=(below_alloc w _).alloc (by simp) _
   exact⟨g4,c4,rfl,IRd.own (xs:=usL false) o4 rfl,hl.1,hl.2,hb.grown g5 hb.size (fun k hk=>by cases hk;omega)⟩
  go_enter Tryz.func79,Tryz.ntmps79
  go_wp2_with (at_builtin;refine wpList_append_lies _ rfl (.tmp 7) (.tmp 8) 22 rfl w.heap.size 3 i0 (.int .i64 0) 1 8 Tryz.underlying22 HI.out.1 HI.out.2.1 HI.out.2.2.1 HI.out.2.2.2 rfl (by decide) (.slice (some ⟨w.heap.size+1,0,none⟩) 4 4) 4 #[.int .i64 28,.int .i64 29,.int .i64 30,.int .i64 31].toList rfl (by have:=World.ownsRow_lit (w.alloc (.cells #[.int .i64 9,.int .i64 18,.int .i64 19,.int .i64 20,.int .i64 21,.int .i64 22,.int .i64 23,.int .i64 24,.int .i64 25,.int .i64 26,.int .i64 27,.int .i64 8] 3)) #[.int .i64 28,.int .i64 29,.int .i64 30,.int .i64 31] 4 (base:=w.heap.size) (e:=3) (size:=1) (by simp) (by unfold maxLen;decide) rfl;simpa using this) ⟨w.heap.size,0,none⟩ 12 12 #[.int .i64 9,.int .i64 18,.int .i64 19,.int .i64 20,.int .i64 21,.int .i64 22,.int .i64 23,.int .i64 24,.int .i64 25,.int .i64 26,.int .i64 27,.int .i64 8].toList rfl rfl (fun j u hj=>(alloc_cellA (World.news_of_block (heap_alloc_new w (.cells #[.int .i64 9,.int .i64 18,.int .i64 19,.int .i64 20,.int .i64 21,.int .i64 22,.int .i64 23,.int .i64 24,.int .i64 25,.int .i64 26,.int .i64 27,.int .i64 8] 3)) j u (by simpa using hj)) _)) (by intro z hz;simp at hz;rcases hz with e | e | e | e | e | e | e | e | e | e | e | e <;> subst e <;> rfl) (by decide) (by unfold maxLen;omega) (by omega) (by simp;omega) (w.heap.size+2) (by simp) ?_;intro g4 c4 y4 hown hgr hli hlt2;have H5:Hid (UsSaid false w (.returned (.slice (some ⟨g4,0,none⟩) 16 c4)) y4):=HE.out g4 c4 y4 hown hgr;clear hown hgr hli hlt2)
  go_ret
  exact H5.out
 ·have HE:Hid (UsSaid true w (.returned (.slice (some ⟨w.heap.size,0,none⟩) 12 12)) (w.alloc (.cells #[.int .i64 9,.int .i64 18,.int .i64 19,.int .i64 20,.int .i64 21,.int .i64 22,.int .i64 23,.int .i64 24,.int .i64 25,.int .i64 26,.int .i64 27,.int .i64 8] 3))):=by
   refine⟨w.heap.size,12,rfl,⟨rfl,fun i hi=>?_⟩,Nat.le_refl _,by simp,below_alloc w _⟩
   have hi12:i<12:=hi
   rw[cell_of_row _ w.heap.size i _ _ (0,0) (heap_alloc_new w _)]
   rcases (show i=0\/i=1\/i=2\/i=3\/i=4\/i=5\/i=6\/i=7\/i=8\/i=9\/i=10\/i=11 by omega) with rfl | rfl | rfl | rfl | rfl | rfl | rfl | rfl | rfl | rfl | rfl | rfl <;> rfl
  go_enter Tryz.func79,Tryz.ntmps79
  go_wp2_with fail
  go_ret
  exact HE.out
theorem RPl.at0 {w:World} {gp N:Nat} {pl:Nat->Pl.Pc} (h:RPl w gp N pl) {r:Nat} (hr:r<N):w.cell? ⟨gp,r*2,none⟩=some (.int .i64 (pl r).reg):=by obtain⟨P,h1,_,h3,_⟩:=h;rw[cell_of_row w gp _ _ _ (0,0) h1];exact h3 r hr
theorem RPl.at1 {w:World} {gp N:Nat} {pl:Nat->Pl.Pc} (h:RPl w gp N pl) {r:Nat} (hr:r<N):w.cell? ⟨gp,r*2+1,none⟩=some (.int .i64 (pl r).spill):=by obtain⟨P,h1,_,_,h3⟩:=h;rw[cell_of_row w gp _ _ _ (0,0) h1];exact h3 r hr
theorem RPl.fz {w:World} {gp N:Nat} {pl:Nat->Pl.Pc} (h:RPl w gp N pl) (q:Nat):w.frozen? ⟨gp,q,none⟩=false:=by obtain⟨P,h1,_⟩:=h;exact frozen_of_row w gp q _ _ h1
theorem RPl.lt {w:World} {gp N:Nat} {pl:Nat->Pl.Pc} (h:RPl w gp N pl):gp<w.heap.size:=by obtain⟨P,h1,_⟩:=h;exact (Array.getElem?_eq_some_iff.1 h1).1
theorem RPl.keep {w w':World} {gp N:Nat} {pl:Nat->Pl.Pc} (h:RPl w gp N pl) (hb:w'.heap[gp]?=w.heap[gp]?):RPl w' gp N pl:=by obtain⟨P,h1,h2⟩:=h;exact⟨P,hb.trans h1,h2⟩
theorem RPl.setReg {w:World} {gp N:Nat} {pl:Nat->Pl.Pc} (h:RPl w gp N pl) {r:Nat} (hr:r<N) (x:Int):RPl (w.setCell ⟨gp,r*2,none⟩ (.int .i64 x)) gp N (Pl.up pl r ⟨x,(pl r).spill⟩):=by
 obtain⟨P,h1,h2,h3,h4⟩:=h
 refine⟨_,heap_setCell_same w gp _ _ _ _ h1,by simp;exact h2,fun j hj=>?_,fun j hj=>?_⟩
 ·by_cases e:j=r
  ·subst e;rw[Array.getElem?_setIfInBounds_self_of_lt (by omega),Pl.up_i]
  ·rw[Array.getElem?_setIfInBounds_ne (by omega),Pl.up_o _ _ e];exact h3 j hj
 ·rw[Array.getElem?_setIfInBounds_ne (by omega)]
  by_cases e:j=r
  ·subst e;rw[Pl.up_i];exact h4 j hj
  ·rw[Pl.up_o _ _ e];exact h4 j hj
theorem RPl.setSpill {w:World} {gp N:Nat} {pl:Nat->Pl.Pc} (h:RPl w gp N pl) {r:Nat} (hr:r<N) (x:Int):RPl (w.setCell ⟨gp,r*2+1,none⟩ (.int .i64 x)) gp N (Pl.up pl r ⟨(pl r).reg,x⟩):=by
 obtain⟨P,h1,h2,h3,h4⟩:=h
 refine⟨_,heap_setCell_same w gp _ _ _ _ h1,by simp;exact h2,fun j hj=>?_,fun j hj=>?_⟩
 ·rw[Array.getElem?_setIfInBounds_ne (by omega)]
  by_cases e:j=r
  ·subst e;rw[Pl.up_i];exact h3 j hj
  ·rw[Pl.up_o _ _ e];exact h3 j hj
 ·by_cases e:j=r
  ·subst e;rw[Array.getElem?_setIfInBounds_self_of_lt (by omega),Pl.up_i]
  ·rw[Array.getElem?_setIfInBounds_ne (by omega),Pl.up_o _ _ e];exact h4 j hj
def HeSaid (S:Nat->Pl.Sp) (pl:Nat->Pl.Pc) (f:Int) (N:Nat) (w:World) (e:Ending) (w':World):Prop:=∃ g c,e=.returned (.slice (some ⟨g,0,none⟩) (Pl.hdL S pl f N).length c)/\IRd g (Pl.hdL S pl f N).length ((Pl.hdL S pl f N).map fun r:Nat=>(r:Int)) w'/\w.heap.size<=g/\g<w'.heap.size/\Below w.heap.size w w'
set_option maxRecDepth 100000 in
theorem held_is (sa:Option Addr) (N cs gp cp:Nat) (S:Nat->Pl.Sp) (pl:Nat->Pl.Pc) (f:Int) (w:World) (hS:RS w sa N S) (hP:RPl w gp N pl) (hN:N<=4000) :
  Calls Tryz.prog 78 #[.slice sa N cs,.slice (some ⟨gp,0,none⟩) N cp,.int .i64 f] w fun e w'=>HeSaid S pl f N w e w':=by
 have H0:Hid (RS w sa N S/\RPl w gp N pl):=⟨hS,hP⟩
 have hNi:(N:Int)<=4000:=by omega
 obtain⟨i0,hi0,hz0,hz1,hz2⟩:=info_parts Tryz.infoi64
 have HI:Hid (_/\_/\_/\_):=⟨hi0,hz0,hz1,hz2⟩
 clear hi0 hz0 hz1 hz2 hS hP
 go_enter Tryz.func78,Tryz.ntmps78
 go_wp2_with fail
 go_loopw [7,8] (fun o t wr=>∃ (i gq m cq:Nat),i<=N/\t=.int .i64 (i:Int)/\o=.slice (some ⟨gq,0,none⟩) m cq/\m<=i/\Hid (m=(Pl.hdL S pl f i).length/\wr.ownsRow w.heap.size 3 1 (.slice (some ⟨gq,0,none⟩) m cq) m (nV (Pl.hdL S pl f i))/\Below w.heap.size w wr)) (fun _ t _=>N-(intOf t).toNat)
 case atStart=>exact⟨0,_,_,_,Nat.zero_le _,rfl,rfl,Nat.zero_le _,rfl,World.ownsRow_lit w #[] 0 (Nat.le_refl _) (Nat.zero_le _) rfl,below_alloc w _⟩
 case round=>
  obtain⟨i,gq,m,cq,hiN,rfl,rfl,hmi,HX⟩:=hrel
  have hwz:=HX.out.2.2.size
  by_cases hlt:i<N
  rotate_left
  ·have hni:¬ (i:Int)<(N:Int):=by omega
   have hie:i=N:=by omega
   have HE:Hid (HeSaid S pl f N w (.returned (.slice (some ⟨gq,0,none⟩) m cq)) wr):=by
    obtain⟨q1,q2,q3⟩:=HX.out
    rw[hie]at q1 q2
    have hl:=q2.lt gq rfl
    have q4:=IRd.own (xs:=(Pl.hdL S pl f N).map fun r:Nat=>(r:Int)) (by rw[List.map_map];exact q2) (by rw[List.length_map];exact q1)
    rw[q1]at q4
    exact⟨gq,cq,by rw[q1],q4,hl.1,hl.2,q3⟩
   clear hie
   go_wp2_with fail
   go_ret
   exact HE.out
  have hni:(i:Int)<(N:Int):=by omega
  obtain⟨gs,hsa,hgs,hcell⟩:=(H0.out.1.keep HX.out.2.2).2.resolve_left (by omega)
  have hP:=H0.out.2.keep (HX.out.2.2.block gp H0.out.2.lt)
  obtain⟨rg,hrg⟩:∃ rg,rg=(pl i).reg:=⟨_,rfl⟩
  obtain⟨tt,htt⟩:∃ tt,tt=(S i).tt:=⟨_,rfl⟩
  have c1:=hP.at0 hlt
  have c2:wr.cell? ⟨gs,i*3+1,none⟩=some (.int .i64 (S i).tt):=hcell i hlt 1 (by omega)
  rw[<- hrg]at c1
  rw[<- htt]at c2
  have HQ:Hid (rg=(pl i).reg/\tt=(S i).tt):=⟨hrg,htt⟩
  have HNO:Hid (¬ (0<rg/\f<=tt)->m=(Pl.hdL S pl f (i+1)).length/\wr.ownsRow w.heap.size 3 1 (.slice (some ⟨gq,0,none⟩) m cq) m (nV (Pl.hdL S pl f (i+1)))/\Below w.heap.size w wr):=fun c=>by rw[hrg,htt]at c;rw[Pl.hdL_no c];exact HX.out
  subst hsa
  clear hcell hP hrg htt
  by_cases h1:0<rg
  rotate_left
  ·have HN:Hid (_/\_/\_):=HNO.out (fun c=>h1 c.1)
   go_wp2_with fail
   exact⟨⟨i+1,gq,m,cq,by omega,by go_num,rfl,by omega,HN⟩,by simp[intOf];omega⟩
  by_cases h2:f<=tt
  rotate_left
  ·have HN:Hid (_/\_/\_):=HNO.out (fun c=>h2 c.2)
   go_wp2_with fail
   exact⟨⟨i+1,gq,m,cq,by omega,by go_num,rfl,by omega,HN⟩,by simp[intOf];omega⟩
  have HN:Hid (∀ g4 c4 y4,y4.ownsRow w.heap.size 3 1 (.slice (some ⟨g4,0,none⟩) (m+1) c4) (m+1) (nV (Pl.hdL S pl f i) ++ [.int .i64 (i:Int)])->(wr.alloc (.cells #[.int .i64 (i:Int)] 3)).grownBy y4 (some gq)->(m+1=(Pl.hdL S pl f (i+1)).length/\y4.ownsRow w.heap.size 3 1 (.slice (some ⟨g4,0,none⟩) ((m+1:Nat)) c4) (m+1) (nV (Pl.hdL S pl f (i+1)))/\Below w.heap.size w y4)):=fun g4 c4 y4 o4 g5=>by
   obtain⟨e1,e2⟩:=HQ.out
   rw[Pl.hdL_yes ⟨by omega,by omega⟩]
   have hlo:=HX.out.2.1.lt gq rfl
   have hb8:Below w.heap.size w (wr.alloc (.cells #[.int .i64 (i:Int)] 3)):=HX.out.2.2.alloc hwz _
   exact⟨by simp;exact HX.out.1,by unfold nV at *; rw[List.map_append];exact o4,hb8.grown g5 hb8.size (fun k hk=>by cases hk;omega)⟩
  go_wp2_with (at_builtin;refine wpList_append_lies _ rfl (.tmp 31) (.tmp 33) 22 rfl w.heap.size 3 i0 (.int .i64 0) 1 8 Tryz.underlying22 HI.out.1 HI.out.2.1 HI.out.2.2.1 HI.out.2.2.2 rfl (by decide) (.slice (some ⟨gq,0,none⟩) m cq) m (nV (Pl.hdL S pl f i)) rfl (World.ownsRow.alloc HX.out.2.1 _) ⟨wr.heap.size,0,none⟩ 1 1 [.int .i64 (i:Int)] rfl rfl (int_cellA wr (i:Int)) (by intro z hz;simp at hz;subst hz;rfl) (by decide) (by unfold maxLen;omega) (by omega) (by simp;omega) (wr.heap.size+1) (by simp) ?_;intro g4 c4 y4 hown hgr hli hlt2;have H5:Hid (m+1=(Pl.hdL S pl f (i+1)).length/\y4.ownsRow w.heap.size 3 1 (.slice (some ⟨g4,0,none⟩) ((m+1:Nat)) c4) (m+1) (nV (Pl.hdL S pl f (i+1)))/\Below w.heap.size w y4):=HN.out g4 c4 y4 hown hgr;clear hown hgr hli hlt2)
  exact⟨⟨i+1,g4,m+1,c4,by omega,by go_num,by go_num,by omega,H5⟩,by simp[intOf];omega⟩
end Go.Proofs.YtcgfgmlfbgbkfaaGreatDoor.W
namespace Go.Proofs.YtcgfgmlfbgbkfaaGreatDoor.Pl
def oin (S:Nat->Sp) (f:Int) (k:Nat):List Nat:=(List.range k).filter fun r=>decide ((S r).fr<=(S r).tt/\(S r).fr=f)
theorem oin_yes {S:Nat->Sp} {f:Int} {k:Nat} (h:(S k).fr<=(S k).tt/\(S k).fr=f):oin S f (k+1)=oin S f k ++ [k]:=by unfold oin;rw[List.range_succ,List.filter_append,List.filter_cons_of_pos (by simpa using h)];simp
theorem oin_no {S:Nat->Sp} {f:Int} {k:Nat} (h:¬ ((S k).fr<=(S k).tt/\(S k).fr=f)):oin S f (k+1)=oin S f k:=by unfold oin;rw[List.range_succ,List.filter_append,List.filter_cons_of_neg (by simpa using h)];simp
theorem oin_mem {S:Nat->Sp} {f:Int} {k r:Nat}:r∈oin S f k↔r<k/\(S r).fr<=(S r).tt/\(S r).fr=f:=by unfold oin;rw[List.mem_filter];simp
def Oup (S:Nat->Sp) (N:Nat) (f:Int) (o:List Nat):Prop:=o.Pairwise (Lx fun r=>(S r).fr)/\∀ r,r∈o↔r<N/\(S r).fr<=(S r).tt/\(S r).fr<f
theorem Oup.part {S:Nat->Sp} {N k:Nat} {f:Int} {o:List Nat} (h:Oup S N f o) (hk:k<=N):(o ++ oin S f k).Pairwise (Lx fun r=>(S r).fr)/\∀ r,r∈o ++ oin S f k->r<N:=by
 refine⟨List.pairwise_append.2 ⟨h.1,?_,fun x hx y hy=>?_⟩,fun r hr=>?_⟩
 ·unfold oin
  have hp:((List.range k).filter fun r=>decide ((S r).fr<=(S r).tt/\(S r).fr=f)).Pairwise (· < ·):=List.Pairwise.filter _ List.pairwise_lt_range
  refine List.Pairwise.imp_of_mem (fun {a b} ha hb hab=>?_) hp
  have h1:=(oin_mem.1 ha).2.2
  have h2:=(oin_mem.1 hb).2.2
  exact .inr ⟨h1.trans h2.symm,hab⟩
 ·have h1:=((h.2 x).1 hx).2.2
  have h2:=(oin_mem.1 hy).2.2
  exact .inl (by show (S x).fr<(S y).fr;omega)
 ·rcases List.mem_append.1 hr with c | c
  ·exact ((h.2 r).1 c).1
  ·have:=(oin_mem.1 c).1;omega
theorem Oup.next {S:Nat->Sp} {N:Nat} {f:Int} {o:List Nat} (h:Oup S N f o):Oup S N (f+1) (o ++ oin S f N):=by
 refine⟨(h.part (Nat.le_refl _)).1,fun r=>?_⟩
 rw[List.mem_append,h.2 r,oin_mem]
 constructor
 ·rintro (⟨h1,h2,h3⟩ | ⟨h1,h2,h3⟩)
  ·exact⟨h1,h2,by omega⟩
  ·exact⟨h1,h2,by omega⟩
 ·rintro⟨h1,h2,h3⟩
  by_cases c:(S r).fr<f
  ·exact .inl ⟨h1,h2,c⟩
  ·exact .inr ⟨h1,h2,by omega⟩
theorem pw_inj {K:Nat->Int} {o:List Nat} (h:o.Pairwise (Lx K)):Inj (fun i=>o.getD i 0) o.length:=fun i j hi hj e=>by
 have hp:=List.pairwise_iff_getElem.1 h
 simp only[List.getD_eq_getElem?_getD,List.getElem?_eq_getElem hi,List.getElem?_eq_getElem hj,Option.getD_some]at e
 rcases Nat.lt_trichotomy i j with c | c | c
 ·have:=hp i j hi hj c;rw[e]at this;exact this.irrefl.elim
 ·exact c
 ·have:=hp j i hj hi c;rw[e]at this;exact this.irrefl.elim
theorem pw_len {K:Nat->Int} {o:List Nat} {N:Nat} (h:o.Pairwise (Lx K)) (hN:∀ r,r∈o->r<N):o.length<=N:=(pw_inj h).bound N _ fun i hi=>hN _ (by rw[List.getD_eq_getElem?_getD,List.getElem?_eq_getElem hi];exact List.getElem_mem _)
theorem pw_full {K:Nat->Int} {o:List Nat} {N:Nat} (h:o.Pairwise (Lx K)) (hN:∀ r,r∈o->r<N) (hl:N<=o.length):∀ r,r<N->r∈o:=fun r hr=>by
 refine Classical.byContradiction fun hc=>?_
 have hat:∀ i,i<o.length->o.getD i 0∈o:=fun i hi=>by rw[List.getD_eq_getElem?_getD,List.getElem?_eq_getElem hi];exact List.getElem_mem _
 have:=(show Inj (fun i=>if i<o.length then o.getD i 0 else r) (o.length+1) from fun i j hi hj e=>by
  by_cases c1:i<o.length <;> by_cases c2:j<o.length
  ·simp only[if_pos c1,if_pos c2]at e;exact pw_inj h i j c1 c2 e
  ·simp only[if_pos c1,if_neg c2]at e;exact absurd (e ▸ hat i c1) hc
  ·simp only[if_neg c1,if_pos c2]at e;exact absurd (e.symm ▸ hat j c2) hc
  ·omega).bound N _ (fun i hi=>by
  by_cases c1:i<o.length
  ·simp only[if_pos c1];exact hN _ (hat i c1)
  ·simp only[if_neg c1];exact hr)
 omega
def Std (S:Nat->Sp) (N:Nat):Prop:=∀ r,r<N->((S r).tt≠-1↔(S r).fr<=(S r).tt)/\-1<=(S r).fr/\(S r).fr<=8000
theorem Oup.start {S:Nat->Sp} {N:Nat} (h:Std S N):Oup S N (-1) []:=⟨.nil,fun r=>⟨fun c=>absurd c List.not_mem_nil,fun ⟨h1,_,h3⟩=>by have:=(h r h1).2.1;omega⟩⟩
theorem Oup.full {S:Nat->Sp} {N:Nat} {f:Int} {o:List Nat} (h:Oup S N f o) (hs:Std S N) (hl:N<=o.length):Ord S N o:=
 ⟨h.1,fun r=>⟨fun c=>⟨((h.2 r).1 c).1,((hs r ((h.2 r).1 c).1).1).2 ((h.2 r).1 c).2.1⟩,fun c=>pw_full h.1 (fun r hr=>((h.2 r).1 hr).1) hl r c.1⟩⟩
theorem Oup.done {S:Nat->Sp} {N:Nat} {f:Int} {o:List Nat} (h:Oup S N f o) (hs:Std S N) (hn:∀ q,q<N->(S q).fr<=(S q).tt->(S q).fr<f):Ord S N o:=
 ⟨h.1,fun r=>⟨fun c=>⟨((h.2 r).1 c).1,((hs r ((h.2 r).1 c).1).1).2 ((h.2 r).1 c).2.1⟩,fun c=>(h.2 r).2 ⟨c.1,((hs r c.1).1).1 c.2,hn r c.1 (((hs r c.1).1).1 c.2)⟩⟩⟩
end Go.Proofs.YtcgfgmlfbgbkfaaGreatDoor.Pl
namespace Go.Proofs.YtcgfgmlfbgbkfaaGreatDoor.W
open Go.RowKit
theorem OrSaid.of {S:Nat->Pl.Sp} {N:Nat} {w W:World} {o:List Nat} {gq m cq:Nat} (hm:m=o.length) (hown:W.ownsRow w.heap.size 3 1 (.slice (some ⟨gq,0,none⟩) m cq) m (nV o)) (hO:Pl.Ord S N o) (hb:Below w.heap.size w W):OrSaid S N w (.returned (.slice (some ⟨gq,0,none⟩) m cq)) W:=by
 have hl:=hown.lt gq rfl
 obtain⟨cur,hcu⟩:=own_type hown (y:=gq) rfl
 refine⟨o,gq,cq,by rw[hm],hO,Pl.pw_len hO.1 (fun r hr=>((hO.2 r).1 hr).1),hl.1,hl.2,fun i hi=>?_,hb,cur,hcu⟩
 rw[hown.cellAt i (by omega)]
 unfold nV
 rw[List.getElem?_map,List.getD_eq_getElem?_getD,List.getElem?_eq_getElem hi]
 rfl
set_option maxRecDepth 100000 in
theorem specOrder_is (sa:Option Addr) (N cs:Nat) (S:Nat->Pl.Sp) (w:World) (hS:RS w sa N S) (hN:N<=4000) (hst:Pl.Std S N) :
  Calls Tryz.prog 77 #[.slice sa N cs] w fun e w'=>OrSaid S N w e w':=by
 have H0:Hid (RS w sa N S/\Pl.Std S N):=⟨hS,hst⟩
 have hNi:(N:Int)<=4000:=by omega
 obtain⟨i0,hi0,hz0,hz1,hz2⟩:=info_parts Tryz.infoi64
 have HI:Hid (_/\_/\_/\_):=⟨hi0,hz0,hz1,hz2⟩
 clear hi0 hz0 hz1 hz2 hS hst
 go_enter Tryz.func77,Tryz.ntmps77
 go_wp2_with fail
 go_loopw [3,4] (fun o3 t4 W=>∃ (gq m cq:Nat) (f:Int),o3=.slice (some ⟨gq,0,none⟩) m cq/\t4=.int .i64 f/\m<=N/\-1<=f/\f<=8001/\Hid (∃ o,m=o.length/\W.ownsRow w.heap.size 3 1 (.slice (some ⟨gq,0,none⟩) m cq) m (nV o)/\Pl.Oup S N f o/\Below w.heap.size w W)) (fun _ t _=>(8002-intOf t).toNat)
 case atStart=>exact⟨_,_,_,-1,rfl,rfl,Nat.zero_le _,by omega,by omega,[],rfl,World.ownsRow_lit w #[] 0 (Nat.le_refl _) (Nat.zero_le _) rfl,Pl.Oup.start H0.out.2,below_alloc w _⟩
 case round=>
  obtain⟨gq,m,cq,f,rfl,rfl,hmN,hf1,hf2,HX⟩:=hrel
  by_cases hlt:m<N
  rotate_left
  ·have hli:¬ (m:Int)<(N:Int):=by omega
   have HE:Hid (OrSaid S N w (.returned (.slice (some ⟨gq,0,none⟩) m cq)) wr):=by
    obtain⟨o,q1,q2,q3,q4⟩:=HX.out
    exact OrSaid.of q1 q2 (q3.full H0.out.2 (by omega)) q4
   go_wp2_with fail
   go_ret
   exact HE.out
  have hli:(m:Int)<(N:Int):=by omega
  obtain⟨o0,x1,x2,x3,x4⟩:=HX.out
  have HX0:Hid (m=o0.length/\wr.ownsRow w.heap.size 3 1 (.slice (some ⟨gq,0,none⟩) m cq) m (nV o0)/\Pl.Oup S N f o0/\Below w.heap.size w wr):=⟨x1,x2,x3,x4⟩
  have hm0N:=hmN
  clear HX x1 x2 x3 x4 hlt hmN
  rename World=>wo
  go_wp2_with fail
  clear hli
  go_loopw [3,5,6] (fun o3 s5 t6 W=>∃ (i gq m cq:Nat) (sv:Bool),i<=N/\t6=.int .i64 (i:Int)/\o3=.slice (some ⟨gq,0,none⟩) m cq/\s5=.bool sv/\m<=N/\Hid ((∃ o,m=o.length/\W.ownsRow w.heap.size 3 1 (.slice (some ⟨gq,0,none⟩) m cq) m (nV o)/\o=o0 ++ Pl.oin S f i/\Below w.heap.size w W)/\(sv=true↔∃ q,q<i/\(S q).fr<=(S q).tt/\f<(S q).fr))) (fun _ _ t _=>N-(intOf t).toNat)
  case atStart=>exact⟨0,gq,m,cq,false,Nat.zero_le _,rfl,rfl,rfl,hm0N,⟨o0,HX0.out.1,HX0.out.2.1,(List.append_nil _).symm,HX0.out.2.2.2⟩,⟨(fun c=>(by cases c)),fun ⟨q,q1,_⟩=>by omega⟩⟩
  case round=>
   have HOUP:Hid (Pl.Oup S N f o0):=HX0.out.2.2.1
   clear HX0 hm0N
   obtain⟨i,gq,m,cq,sv,hiN,rfl,rfl,rfl,hmN,HY⟩:=hrel
   obtain⟨⟨o,y1,y2,y3,y4⟩,y5⟩:=HY.out
   have HO:Hid (m=o.length/\wr.ownsRow w.heap.size 3 1 (.slice (some ⟨gq,0,none⟩) m cq) m (nV o)/\o=o0 ++ Pl.oin S f i/\Below w.heap.size w wr):=⟨y1,y2,y3,y4⟩
   have HS:Hid (sv=true↔∃ q,q<i/\(S q).fr<=(S q).tt/\f<(S q).fr):=y5
   have hwz:=y4.size
   clear HY y1 y2 y3 y4 y5
   by_cases hlt:i<N
   rotate_left
   ·have hli:¬ (i:Int)<(N:Int):=by omega
    have hie:i=N:=by omega
    have HUP:Hid (Pl.Oup S N (f+1) o):=by
     have q:=HOUP.out.next
     rw[<- hie,<- HO.out.2.2.1]at q
     rw[<- hie];exact q
    cases hsv:sv
    ·have HE:Hid (OrSaid S N w (.returned (.slice (some ⟨gq,0,none⟩) m cq)) wr):=by
      refine OrSaid.of HO.out.1 HO.out.2.1 (HUP.out.done H0.out.2 (fun q q1 q2=>?_)) HO.out.2.2.2
      have q3:¬ f<(S q).fr:=fun c=>by have:=HS.out.2 ⟨q,by omega,q2,c⟩; rw[hsv]at this;cases this
      omega
     rw[hsv]at HS
     clear hie hsv
     go_wp2_with fail
     go_ret
     exact HE.out
    ·have hf3:f+1<=8001:=by
      obtain⟨q,q1,q2,q3⟩:=HS.out.1 hsv
      have:=(H0.out.2 q (by omega)).2.2
      omega
     have HN:Hid (∃ o,m=o.length/\wr.ownsRow w.heap.size 3 1 (.slice (some ⟨gq,0,none⟩) m cq) m (nV o)/\Pl.Oup S N (f+1) o/\Below w.heap.size w wr):=⟨o,HO.out.1,HO.out.2.1,HUP.out,HO.out.2.2.2⟩
     clear hie hsv
     go_wp2_with fail
     exact⟨⟨gq,m,cq,f+1,rfl,by go_num,hmN,by omega,hf3,HN⟩,by simp[intOf];omega⟩
   have hli:(i:Int)<(N:Int):=by omega
   have HCL0:Hid (∃ gs,sa=some ⟨gs,0,none⟩/\∀ W,Below w.heap.size w W->W.cell? ⟨gs,i*3+1,none⟩=some (.int .i64 (S i).tt)/\W.cell? ⟨gs,i*3,none⟩=some (.int .i64 (S i).fr)/\gs<W.heap.size):=by
    obtain⟨gs,hsa,_⟩:=H0.out.1.2.resolve_left (by omega)
    refine⟨gs,hsa,fun W hW=>?_⟩
    obtain⟨gs',hsa',hgs,hcell⟩:=(H0.out.1.keep hW).2.resolve_left (by omega)
    rw[hsa]at hsa'
    injection hsa' with e
    injection e with e
    subst e
    exact⟨hcell i hlt 1 (by omega),hcell i hlt 0 (by omega),hgs⟩
   obtain⟨gs,hsa,hcl⟩:=HCL0.out
   obtain⟨fr,hfr⟩:∃ fr,fr=(S i).fr:=⟨_,rfl⟩
   obtain⟨tt,htt⟩:∃ tt,tt=(S i).tt:=⟨_,rfl⟩
   have HQ:Hid (fr=(S i).fr/\tt=(S i).tt):=⟨hfr,htt⟩
   rw[<- hfr,<- htt]at hcl
   have HCL:Hid (∀ W,Below w.heap.size w W->W.cell? ⟨gs,i*3+1,none⟩=some (.int .i64 tt)/\W.cell? ⟨gs,i*3,none⟩=some (.int .i64 fr)/\gs<W.heap.size):=hcl
   obtain⟨c1,c0,hgs⟩:=hcl wr HO.out.2.2.2
   have HLN:Hid (∀ o',o'=o0 ++ Pl.oin S f (i+1)->o'.length<=N):=fun o' ho'=>by
    obtain⟨p1,p2⟩:=HOUP.out.part (show i+1<=N by omega)
    rw[ho']
    exact Pl.pw_len p1 p2
   subst hsa
   clear HCL0 hcl hfr htt
   by_cases hstd:fr<=tt
   ·rcases Int.lt_trichotomy fr f with hq | hq | hq
    ·cases sv
     ·have HN:Hid (∀ k,(∃ o,m=o.length/\(wr.drewN k).ownsRow w.heap.size 3 1 (.slice (some ⟨gq,0,none⟩) m cq) m (nV o)/\o=o0 ++ Pl.oin S f (i+1)/\Below w.heap.size w (wr.drewN k))/\(false=true↔∃ q,q<(i+1)/\(S q).fr<=(S q).tt/\f<(S q).fr)):=fun k=>by
       obtain⟨e1,e2⟩:=HQ.out
       refine⟨⟨o,HO.out.1,own_eqL HO.out.2.1 (fun _ _=>rfl),by rw[Pl.oin_no (by omega)];exact HO.out.2.2.1,⟨HO.out.2.2.2.os,HO.out.2.2.2.tape,HO.out.2.2.2.output,HO.out.2.2.2.size,HO.out.2.2.2.block⟩⟩,?_⟩
       refine HS.out.trans ⟨fun ⟨q,q1,q2⟩=>⟨q,by omega,q2⟩,fun ⟨q,q1,q2,q3⟩=>⟨q,?_,q2,q3⟩⟩
       by_cases e:q=i
       ·subst e;omega
       ·omega
      have hd1:decide (fr<=tt)=true:=by simp;omega
      have hd2:(fr == f)=false:=by simp;omega
      have hd3:decide (f<fr)=false:=by simp;omega
      go_upto_region 9 with fail
      go_quiet (fail)
      go_upto_region 11 with fail
      go_quiet (fail)
      go_wp2_with fail
      exact⟨⟨i+1,gq,m,cq,false,by omega,by go_num,rfl,rfl,hmN,HN.out _⟩,by simp[intOf];omega⟩
      
     ·have HN:Hid (∀ k,(∃ o,m=o.length/\(wr.drewN k).ownsRow w.heap.size 3 1 (.slice (some ⟨gq,0,none⟩) m cq) m (nV o)/\o=o0 ++ Pl.oin S f (i+1)/\Below w.heap.size w (wr.drewN k))/\(true=true↔∃ q,q<(i+1)/\(S q).fr<=(S q).tt/\f<(S q).fr)):=fun k=>by
       obtain⟨e1,e2⟩:=HQ.out
       refine⟨⟨o,HO.out.1,own_eqL HO.out.2.1 (fun _ _=>rfl),by rw[Pl.oin_no (by omega)];exact HO.out.2.2.1,⟨HO.out.2.2.2.os,HO.out.2.2.2.tape,HO.out.2.2.2.output,HO.out.2.2.2.size,HO.out.2.2.2.block⟩⟩,?_⟩
       refine HS.out.trans ⟨fun ⟨q,q1,q2⟩=>⟨q,by omega,q2⟩,fun ⟨q,q1,q2,q3⟩=>⟨q,?_,q2,q3⟩⟩
       by_cases e:q=i
       ·subst e;omega
       ·omega
      have hd1:decide (fr<=tt)=true:=by simp;omega
      have hd2:(fr == f)=false:=by simp;omega
      have hd3:decide (f<fr)=false:=by simp;omega
      go_upto_region 9 with fail
      go_quiet (fail)
      go_upto_region 11 with fail
      go_quiet (fail)
      go_wp2_with fail
      exact⟨⟨i+1,gq,m,cq,true,by omega,by go_num,rfl,rfl,hmN,HN.out _⟩,by simp[intOf];omega⟩
      
    ·cases sv
     ·have HAP:Hid (∀ g4 c4 y4,y4.ownsRow w.heap.size 3 1 (.slice (some ⟨g4,0,none⟩) (m+1) c4) (m+1) (nV o ++ [.int .i64 (i:Int)])->(∃ k,((wr.drewN k).alloc (.cells #[.int .i64 (i:Int)] 3)).grownBy y4 (some gq))->(((∃ o,((m+1:Nat))=o.length/\y4.ownsRow w.heap.size 3 1 (.slice (some ⟨g4,0,none⟩) ((m+1:Nat)) c4) ((m+1:Nat)) (nV o)/\o=o0 ++ Pl.oin S f (i+1)/\Below w.heap.size w y4)/\(false=true↔∃ q,q<(i+1)/\(S q).fr<=(S q).tt/\f<(S q).fr))/\m+1<=N)):=fun g4 c4 y4 o4 g5=>by
       obtain⟨k,g5⟩:=g5
       obtain⟨e1,e2⟩:=HQ.out
       have hlo:=HO.out.2.1.lt gq rfl
       have hb8:Below w.heap.size w ((wr.drewN k).alloc (.cells #[.int .i64 (i:Int)] 3)):=(show Below w.heap.size w (wr.drewN k) from ⟨HO.out.2.2.2.os,HO.out.2.2.2.tape,HO.out.2.2.2.output,HO.out.2.2.2.size,HO.out.2.2.2.block⟩).alloc hwz _
       have ho:o ++ [i]=o0 ++ Pl.oin S f (i+1):=by rw[Pl.oin_yes ⟨by omega,by omega⟩,<- List.append_assoc,<- HO.out.2.2.1]
       refine⟨⟨⟨o ++ [i],by simp;exact HO.out.1,by unfold nV at *; rw[List.map_append];exact o4,ho,hb8.grown g5 hb8.size (fun k hk=>by cases hk;omega)⟩,?_⟩,?_⟩
       ·refine HS.out.trans ⟨fun ⟨q,q1,q2⟩=>⟨q,by omega,q2⟩,fun ⟨q,q1,q2,q3⟩=>⟨q,?_,q2,q3⟩⟩
        by_cases e:q=i
        ·subst e;omega
        ·omega
       ·have:=HLN.out _ ho
        simp at this
        have:=HO.out.1
        omega
      have hd1:decide (fr<=tt)=true:=by simp;omega
      have hd2:(fr == f)=true:=by simp;omega
      have hd3:decide (f<fr)=false:=by simp;omega
      clear hq
      go_upto_region 9 with fail
      go_quiet (fail)
      go_upto_region 11 with (at_builtin;refine wpList_append_lies _ rfl (.tmp 41) (.tmp 43) 22 rfl w.heap.size 3 i0 (.int .i64 0) 1 8 Tryz.underlying22 HI.out.1 HI.out.2.1 HI.out.2.2.1 HI.out.2.2.2 rfl (by decide) (.slice (some ⟨gq,0,none⟩) m cq) m (nV o) rfl (World.ownsRow.alloc (own_eqL HO.out.2.1 (fun _ _=>rfl)) _) ⟨(wr.drewN _).heap.size,0,none⟩ 1 1 [.int .i64 (i:Int)] rfl rfl (int_cellA _ (i:Int)) (by intro z hz;simp at hz;subst hz;rfl) (by decide) (by unfold maxLen;omega) (by omega) (by simp;omega) (wr.heap.size+1) (by simp) ?_;intro g4 c4 y4 hown hgr hli hlt2;have H5:Hid (((∃ o,((m+1:Nat))=o.length/\y4.ownsRow w.heap.size 3 1 (.slice (some ⟨g4,0,none⟩) ((m+1:Nat)) c4) ((m+1:Nat)) (nV o)/\o=o0 ++ Pl.oin S f (i+1)/\Below w.heap.size w y4)/\(false=true↔∃ q,q<(i+1)/\(S q).fr<=(S q).tt/\f<(S q).fr))/\m+1<=N):=HAP.out g4 c4 y4 hown ⟨_,hgr⟩; have t1:=(HCL.out y4 (by obtain⟨⟨⟨_,_,_,_,q⟩,_⟩,_⟩:=H5.out;exact q)).1;have t0:=(HCL.out y4 (by obtain⟨⟨⟨_,_,_,_,q⟩,_⟩,_⟩:=H5.out;exact q)).2.1;have tz:=(HCL.out y4 (by obtain⟨⟨⟨_,_,_,_,q⟩,_⟩,_⟩:=H5.out;exact q)).2.2;clear hown hgr hli hlt2)
      go_quiet (fail)
      go_wp2_with fail
      exact⟨⟨i+1,g4,m+1,c4,false,by omega,by go_num,by go_num,rfl,H5.out.2,(by obtain⟨⟨⟨o,a1,a2,a3,a4⟩,a5⟩,_⟩:=H5.out;exact⟨⟨o,a1,own_eqL a2 (fun _ _=>rfl),a3,⟨a4.os,a4.tape,a4.output,a4.size,a4.block⟩⟩,a5⟩)⟩,by simp[intOf];omega⟩
      
     ·have HAP:Hid (∀ g4 c4 y4,y4.ownsRow w.heap.size 3 1 (.slice (some ⟨g4,0,none⟩) (m+1) c4) (m+1) (nV o ++ [.int .i64 (i:Int)])->(∃ k,((wr.drewN k).alloc (.cells #[.int .i64 (i:Int)] 3)).grownBy y4 (some gq))->(((∃ o,((m+1:Nat))=o.length/\y4.ownsRow w.heap.size 3 1 (.slice (some ⟨g4,0,none⟩) ((m+1:Nat)) c4) ((m+1:Nat)) (nV o)/\o=o0 ++ Pl.oin S f (i+1)/\Below w.heap.size w y4)/\(true=true↔∃ q,q<(i+1)/\(S q).fr<=(S q).tt/\f<(S q).fr))/\m+1<=N)):=fun g4 c4 y4 o4 g5=>by
       obtain⟨k,g5⟩:=g5
       obtain⟨e1,e2⟩:=HQ.out
       have hlo:=HO.out.2.1.lt gq rfl
       have hb8:Below w.heap.size w ((wr.drewN k).alloc (.cells #[.int .i64 (i:Int)] 3)):=(show Below w.heap.size w (wr.drewN k) from ⟨HO.out.2.2.2.os,HO.out.2.2.2.tape,HO.out.2.2.2.output,HO.out.2.2.2.size,HO.out.2.2.2.block⟩).alloc hwz _
       have ho:o ++ [i]=o0 ++ Pl.oin S f (i+1):=by rw[Pl.oin_yes ⟨by omega,by omega⟩,<- List.append_assoc,<- HO.out.2.2.1]
       refine⟨⟨⟨o ++ [i],by simp;exact HO.out.1,by unfold nV at *; rw[List.map_append];exact o4,ho,hb8.grown g5 hb8.size (fun k hk=>by cases hk;omega)⟩,?_⟩,?_⟩
       ·refine HS.out.trans ⟨fun ⟨q,q1,q2⟩=>⟨q,by omega,q2⟩,fun ⟨q,q1,q2,q3⟩=>⟨q,?_,q2,q3⟩⟩
        by_cases e:q=i
        ·subst e;omega
        ·omega
       ·have:=HLN.out _ ho
        simp at this
        have:=HO.out.1
        omega
      have hd1:decide (fr<=tt)=true:=by simp;omega
      have hd2:(fr == f)=true:=by simp;omega
      have hd3:decide (f<fr)=false:=by simp;omega
      clear hq
      go_upto_region 9 with fail
      go_quiet (fail)
      go_upto_region 11 with (at_builtin;refine wpList_append_lies _ rfl (.tmp 41) (.tmp 43) 22 rfl w.heap.size 3 i0 (.int .i64 0) 1 8 Tryz.underlying22 HI.out.1 HI.out.2.1 HI.out.2.2.1 HI.out.2.2.2 rfl (by decide) (.slice (some ⟨gq,0,none⟩) m cq) m (nV o) rfl (World.ownsRow.alloc (own_eqL HO.out.2.1 (fun _ _=>rfl)) _) ⟨(wr.drewN _).heap.size,0,none⟩ 1 1 [.int .i64 (i:Int)] rfl rfl (int_cellA _ (i:Int)) (by intro z hz;simp at hz;subst hz;rfl) (by decide) (by unfold maxLen;omega) (by omega) (by simp;omega) (wr.heap.size+1) (by simp) ?_;intro g4 c4 y4 hown hgr hli hlt2;have H5:Hid (((∃ o,((m+1:Nat))=o.length/\y4.ownsRow w.heap.size 3 1 (.slice (some ⟨g4,0,none⟩) ((m+1:Nat)) c4) ((m+1:Nat)) (nV o)/\o=o0 ++ Pl.oin S f (i+1)/\Below w.heap.size w y4)/\(true=true↔∃ q,q<(i+1)/\(S q).fr<=(S q).tt/\f<(S q).fr))/\m+1<=N):=HAP.out g4 c4 y4 hown ⟨_,hgr⟩; have t1:=(HCL.out y4 (by obtain⟨⟨⟨_,_,_,_,q⟩,_⟩,_⟩:=H5.out;exact q)).1;have t0:=(HCL.out y4 (by obtain⟨⟨⟨_,_,_,_,q⟩,_⟩,_⟩:=H5.out;exact q)).2.1;have tz:=(HCL.out y4 (by obtain⟨⟨⟨_,_,_,_,q⟩,_⟩,_⟩:=H5.out;exact q)).2.2;clear hown hgr hli hlt2)
      go_quiet (fail)
      go_wp2_with fail
      exact⟨⟨i+1,g4,m+1,c4,true,by omega,by go_num,by go_num,rfl,H5.out.2,(by obtain⟨⟨⟨o,a1,a2,a3,a4⟩,a5⟩,_⟩:=H5.out;exact⟨⟨o,a1,own_eqL a2 (fun _ _=>rfl),a3,⟨a4.os,a4.tape,a4.output,a4.size,a4.block⟩⟩,a5⟩)⟩,by simp[intOf];omega⟩
      
    ·cases sv
     ·have HN:Hid (∀ k,(∃ o,m=o.length/\(wr.drewN k).ownsRow w.heap.size 3 1 (.slice (some ⟨gq,0,none⟩) m cq) m (nV o)/\o=o0 ++ Pl.oin S f (i+1)/\Below w.heap.size w (wr.drewN k))/\(true=true↔∃ q,q<(i+1)/\(S q).fr<=(S q).tt/\f<(S q).fr)):=fun k=>by
       obtain⟨e1,e2⟩:=HQ.out
       refine⟨⟨o,HO.out.1,own_eqL HO.out.2.1 (fun _ _=>rfl),by rw[Pl.oin_no (by omega)];exact HO.out.2.2.1,⟨HO.out.2.2.2.os,HO.out.2.2.2.tape,HO.out.2.2.2.output,HO.out.2.2.2.size,HO.out.2.2.2.block⟩⟩,?_⟩
       exact⟨fun _=>⟨i,by omega,by omega,by omega⟩,fun _=>rfl⟩
      have hd1:decide (fr<=tt)=true:=by simp;omega
      have hd2:(fr == f)=false:=by simp;omega
      have hd3:decide (f<fr)=true:=by simp;omega
      go_upto_region 9 with fail
      go_quiet (fail)
      go_upto_region 11 with fail
      go_quiet (fail)
      go_wp2_with fail
      exact⟨⟨i+1,gq,m,cq,true,by omega,by go_num,rfl,rfl,hmN,HN.out _⟩,by simp[intOf];omega⟩
      
     ·have HN:Hid (∀ k,(∃ o,m=o.length/\(wr.drewN k).ownsRow w.heap.size 3 1 (.slice (some ⟨gq,0,none⟩) m cq) m (nV o)/\o=o0 ++ Pl.oin S f (i+1)/\Below w.heap.size w (wr.drewN k))/\(true=true↔∃ q,q<(i+1)/\(S q).fr<=(S q).tt/\f<(S q).fr)):=fun k=>by
       obtain⟨e1,e2⟩:=HQ.out
       refine⟨⟨o,HO.out.1,own_eqL HO.out.2.1 (fun _ _=>rfl),by rw[Pl.oin_no (by omega)];exact HO.out.2.2.1,⟨HO.out.2.2.2.os,HO.out.2.2.2.tape,HO.out.2.2.2.output,HO.out.2.2.2.size,HO.out.2.2.2.block⟩⟩,?_⟩
       exact⟨fun _=>⟨i,by omega,by omega,by omega⟩,fun _=>rfl⟩
      have hd1:decide (fr<=tt)=true:=by simp;omega
      have hd2:(fr == f)=false:=by simp;omega
      have hd3:decide (f<fr)=true:=by simp;omega
      go_upto_region 9 with fail
      go_quiet (fail)
      go_upto_region 11 with fail
      go_quiet (fail)
      go_wp2_with fail
      exact⟨⟨i+1,gq,m,cq,true,by omega,by go_num,rfl,rfl,hmN,HN.out _⟩,by simp[intOf];omega⟩
      
   ·cases sv
    ·have HN:Hid (∀ k,(∃ o,m=o.length/\(wr.drewN k).ownsRow w.heap.size 3 1 (.slice (some ⟨gq,0,none⟩) m cq) m (nV o)/\o=o0 ++ Pl.oin S f (i+1)/\Below w.heap.size w (wr.drewN k))/\(false=true↔∃ q,q<(i+1)/\(S q).fr<=(S q).tt/\f<(S q).fr)):=fun k=>by
      obtain⟨e1,e2⟩:=HQ.out
      refine⟨⟨o,HO.out.1,own_eqL HO.out.2.1 (fun _ _=>rfl),by rw[Pl.oin_no (by omega)];exact HO.out.2.2.1,⟨HO.out.2.2.2.os,HO.out.2.2.2.tape,HO.out.2.2.2.output,HO.out.2.2.2.size,HO.out.2.2.2.block⟩⟩,?_⟩
      refine HS.out.trans ⟨fun ⟨q,q1,q2⟩=>⟨q,by omega,q2⟩,fun ⟨q,q1,q2,q3⟩=>⟨q,?_,q2,q3⟩⟩
      by_cases e:q=i
      ·subst e;omega
      ·omega
     have hd1:decide (fr<=tt)=false:=by simp;omega
     go_upto_region 9 with fail
     go_quiet (fail)
     go_upto_region 11 with fail
     go_quiet (fail)
     go_wp2_with fail
     exact⟨⟨i+1,gq,m,cq,false,by omega,by go_num,rfl,rfl,hmN,HN.out _⟩,by simp[intOf];omega⟩
     
    ·have HN:Hid (∀ k,(∃ o,m=o.length/\(wr.drewN k).ownsRow w.heap.size 3 1 (.slice (some ⟨gq,0,none⟩) m cq) m (nV o)/\o=o0 ++ Pl.oin S f (i+1)/\Below w.heap.size w (wr.drewN k))/\(true=true↔∃ q,q<(i+1)/\(S q).fr<=(S q).tt/\f<(S q).fr)):=fun k=>by
      obtain⟨e1,e2⟩:=HQ.out
      refine⟨⟨o,HO.out.1,own_eqL HO.out.2.1 (fun _ _=>rfl),by rw[Pl.oin_no (by omega)];exact HO.out.2.2.1,⟨HO.out.2.2.2.os,HO.out.2.2.2.tape,HO.out.2.2.2.output,HO.out.2.2.2.size,HO.out.2.2.2.block⟩⟩,?_⟩
      refine HS.out.trans ⟨fun ⟨q,q1,q2⟩=>⟨q,by omega,q2⟩,fun ⟨q,q1,q2,q3⟩=>⟨q,?_,q2,q3⟩⟩
      by_cases e:q=i
      ·subst e;omega
      ·omega
     have hd1:decide (fr<=tt)=false:=by simp;omega
     go_upto_region 9 with fail
     go_quiet (fail)
     go_upto_region 11 with fail
     go_quiet (fail)
     go_wp2_with fail
     exact⟨⟨i+1,gq,m,cq,true,by omega,by go_num,rfl,rfl,hmN,HN.out _⟩,by simp[intOf];omega⟩
     
theorem usL_gv:∀ (cr:Bool) (k:Nat),k<16->(Pl.gv k∈usL cr↔Pl.lo4 cr<=k):=by
 intro cr k hk
 cases cr
 ·exact⟨fun _=>Nat.zero_le _,fun _=>(show ∀ k,k<16->Pl.gv k∈usL false by decide +kernel) k hk⟩
 ·exact⟨(show ∀ k,k<16->Pl.gv k∈usL true->4<=k by decide +kernel) k hk,(show ∀ k,k<16->4<=k->Pl.gv k∈usL true by decide +kernel) k hk⟩
end Go.Proofs.YtcgfgmlfbgbkfaaGreatDoor.W
namespace Go.Proofs.YtcgfgmlfbgbkfaaGreatDoor.Pl
open W
def tkL (S:Nat->Sp) (pl:Nat->Pc) (f:Int) (N:Nat):List Int:=(hdL S pl f N).map fun r=>(pl r).reg
theorem Ok.taken {S:Nat->Sp} {N:Nat} {a:Al} {f:Int} {R:Nat->Prop} (h:Ok S N a f R) (hf:∀ k,k<16->a.ow k≠-1->f<=(S (a.ow k).toNat).tt) {k:Nat} (hk:k<16):hasI (tkL S a.pl f N) (gv k)=false↔a.ow k=-1:=by
 rw[h.held hf hk]
 unfold hasI tkL
 rw[decide_eq_false_iff_not,List.mem_map]
 constructor
 ·rintro hn ⟨q,q1,q2,q3⟩
  exact hn ⟨q,hdL_mem.2 ⟨q1,q2⟩,q3⟩
 ·rintro hn ⟨q,q1,q2⟩
  obtain⟨q3,q4⟩:=hdL_mem.1 q1
  exact hn ⟨q,q3,q4,q2⟩
theorem Ok.fst {S:Nat->Sp} {N:Nat} {a:Al} {f:Int} {R:Nat->Prop} (h:Ok S N a f R) (hf:∀ k,k<16->a.ow k≠-1->f<=(S (a.ow k).toNat).tt) {cr:Bool} {j:Nat} (hj:j<16-lo4 cr) (h1:∀ i,i<j->hasI (tkL S a.pl f N) ((usL cr).getD i 0)=true) (h2:hasI (tkL S a.pl f N) ((usL cr).getD j 0)=false):Fst (lo4 cr) a.ow (lo4 cr+j):=by
 rw[usL_at hj]at h2
 refine⟨by omega,by omega,(h.taken hf (by omega)).1 h2,fun i i1 i2 c=>?_⟩
 have:=h1 (i-lo4 cr) (by omega)
 rw[usL_at (by omega),show lo4 cr+(i-lo4 cr)=i by omega,(h.taken hf (by omega)).2 c]at this
 cases this
theorem Ok.ful {S:Nat->Sp} {N:Nat} {a:Al} {f:Int} {R:Nat->Prop} (h:Ok S N a f R) (hf:∀ k,k<16->a.ow k≠-1->f<=(S (a.ow k).toNat).tt) {cr:Bool} (h1:∀ i,i<16-lo4 cr->hasI (tkL S a.pl f N) ((usL cr).getD i 0)=true):Ful (lo4 cr) a.ow:=fun i i1 i2 c=>by
 have:=h1 (i-lo4 cr) (by omega)
 rw[usL_at (by omega),show lo4 cr+(i-lo4 cr)=i by omega,(h.taken hf (by omega)).2 c]at this
 cases this
def mayP (pl:Nat->Pc) (cr:Bool) (q:Nat):Prop:=hasI (usL cr) (pl q).reg=true
theorem Ok.worst {S:Nat->Sp} {N:Nat} {a:Al} {f:Int} {R:Nat->Prop} (h:Ok S N a f R) (hf:∀ k,k<16->a.ow k≠-1->f<=(S (a.ow k).toNat).tt) {cr:Bool} (hF:Ful (lo4 cr) a.ow) {w:Int} (hw:Wst S (mayP a.pl cr) (hdL S a.pl f N) w):∃ k,Lng S (lo4 cr) a.ow k/\w=a.ow k/\0<=w/\w.toNat<N:=by
 have hown:∀ j,lo4 cr<=j->j<16->∃ q:Nat,q<N/\a.ow j=q/\q∈hdL S a.pl f N/\mayP a.pl cr q:=fun j j1 j2=>by
  obtain⟨q,q1,q2,q3,q4⟩:=h.own j2 (hF j j1 j2)
  refine⟨q,q1,q2,hdL_mem.2 ⟨q1,by rw[q4];exact gv_pos j j2,?_⟩,?_⟩
  ·have:=hf j j2 (hF j j1 j2);rw[q3]at this;exact this
  ·unfold mayP hasI;rw[q4];exact decide_eq_true ((usL_gv cr j j2).2 j1)
 have hlo:=lo4_le cr
 rcases hw with ⟨_,h2⟩ | ⟨q,h1,h2,h3,h4⟩
 ·obtain⟨q,_,_,q3,q4⟩:=hown 15 (by omega) (by omega)
  exact absurd q4 (h2 q q3)
 ·obtain⟨hqN,hq2⟩:=hdL_mem.1 h1
  obtain⟨k,hk,ek,ep⟩:=h.holder hqN hq2
  have hlk:lo4 cr<=k:=by
   unfold mayP hasI at h3
   rw[ep]at h3
   exact (usL_gv cr k hk).1 (of_decide_eq_true h3)
  refine⟨k,⟨hlk,hk,fun j j1 j2 j3=>?_⟩,by rw[h2,ek],by omega,by rw[h2];exact hqN⟩
  obtain⟨p,p1,p2,p3,p4⟩:=hown j j1 j2
  rw[p2,ek]
  rcases h4 p p3 p4 with e | e
  ·subst e;exact absurd (h.oneRank j2 hk p2 ek) j3
  ·exact e
def WOut (S:Nat->Sp) (pl:Nat->Pc) (sp:Int) (r:Nat) (cr:Bool) (hd:List Nat) (pl':Nat->Pc):Prop:=∃ wv:Int,Wst S (mayP pl cr) hd wv/\((0<=wv/\(S r).tt<(S wv.toNat).tt/\pl'=up (up (up pl r ⟨(pl wv.toNat).reg,(pl r).spill⟩) wv.toNat ⟨0,(pl wv.toNat).spill⟩) wv.toNat ⟨0,sp⟩)\/(¬ (0<=wv/\(S r).tt<(S wv.toNat).tt)/\pl'=up pl r ⟨(pl r).reg,sp⟩))
theorem Ok.wout {S:Nat->Sp} {N:Nat} {a:Al} {f:Int} {R:Nat->Prop} {r:Nat} (h:Ok S N a f R) (hr:R r) (hf:∀ k,k<16->a.ow k≠-1->f<=(S (a.ow k).toNat).tt) (hF:Ful (lo4 (S r).cr) a.ow) {pl':Nat->Pc} (hW:WOut S a.pl a.sp r (S r).cr (hdL S a.pl f N) pl'):∃ b,Gvn S a r b/\b.pl=pl'/\b.sp=a.sp+1:=by
 obtain⟨wv,h1,h2⟩:=hW
 obtain⟨k,hl,hk,hw0,hwN⟩:=h.worst hf hF h1
 have hr0:=h.o3 r hr
 obtain⟨q,q1,q2,q3,q4⟩:=h.own hl.2.1 (hF k hl.1 hl.2.1)
 have hqr:q≠r:=fun e=>by
  rw[e,hr0]at q4
  injection q4 with e1
  have:=gv_pos k hl.2.1
  omega
 rw[hk,q3]at h2
 rcases h2 with ⟨_,h4,h5⟩ | ⟨h3,h5⟩
 ·refine⟨_,.inr ⟨hF,k,hl,.inl ⟨by rw[q3];exact h4,rfl⟩⟩,?_,rfl⟩
  rw[h5,q3]
  funext j
  dsimp only
  by_cases c1:j=r
  ·subst c1
   rw[up_i,up_o _ _ (fun e=>hqr e.symm),up_o _ _ (fun e=>hqr e.symm),up_i,q4,hr0]
  ·rw[up_o _ _ c1]
   by_cases c2:j=q
   ·subst c2;rw[up_i,up_i]
   ·rw[up_o _ _ c2,up_o _ _ c2,up_o _ _ c2,up_o _ _ c1]
 ·refine⟨_,.inr ⟨hF,k,hl,.inr ⟨by rw[q3];intro c;exact h3 ⟨by omega,c⟩,rfl⟩⟩,?_,rfl⟩
  rw[h5,hr0]
end Go.Proofs.YtcgfgmlfbgbkfaaGreatDoor.Pl
namespace Go.Proofs.YtcgfgmlfbgbkfaaGreatDoor.W
open Go.RowKit
noncomputable def laC (n:Nat):Code:=((Tryz.f43.body.bind (codeFrom n)).getD .skip)
theorem RPl.grown {w w':World} {gp N:Nat} {pl pl':Nat->Pl.Pc} (h:RPl w' gp N pl') (hg:∀ k,k≠gp->w'.heap[k]?=w.heap[k]?) (hs:w'.heap.size=w.heap.size) (ho:w'.os=w.os) (ht:w'.tape=w.tape) (hu:w'.output=w.output):w.grownBy w' (some gp):=⟨ho,ht,hu,Nat.le_of_eq hs.symm,fun k _ hk=>hg k (fun e=>hk (by rw[e]))⟩
theorem grown_of_only {w w':World} {gp:Nat} (h:OnlyG gp w w'):w.grownBy w' (some gp):=⟨h.os,h.tape,h.output,Nat.le_of_eq h.size.symm,fun k _ hk=>h.block k (fun e=>hk (by rw[e]))⟩
set_option maxRecDepth 100000 in
theorem la26 (sa:Option Addr) (N cs gp cp r gh hl ch gu ul cu:Nat) (S:Nat->Pl.Sp) (pl:Nat->Pl.Pc) (sp:Int) (cr:Bool) (hd:List Nat) (Y:World) (hS:RS Y sa N S) (hP:RPl Y gp N pl) (hN:N<=4000) (hr:r<N) (hh:IRd gh hl (hd.map fun q:Nat=>(q:Int)) Y) (hhN:∀ q,q∈hd->q<N) (hasc:hd.Pairwise (· < ·)) (hhl:hl<=4000) (hu:IRd gu ul (usL cr) Y) (hul:ul<=16) (hsp:0<=sp/\sp<=100000)
  (c0 c1 c2 c5 c7 c8 c11 c12 c14 c15 c16 c17 c18 c19 c20 c21 c22 c23 c24 c25 c26 c27 c28 c29 c30 c31 c32 c33 c34 c35 c36 c37 c38 c39 c40 c41 c42 c43 c44 c45 c46 c47 c48 c49 c50 c51 c52 c53 c54 c55 c56 c57 c58 c59 c60 c61 c62 c63 c64 c65 c66 c67 c68 c69 c70 c71 c72 c73 c74 c75 c76 c77 c78 c79 c80 c81 c82 c83 c84 c85 c86 c87 c88 c89 c90 c91 c92 c93 c94 c95 c96 c97 c98 c99 c100 c101 c102 c103 c104 c105 c106 c107 c108 c109 c110 c111 c112 c113 c114 c115 c116 c117 c118 c119 c120 c121 c122 c123 c124 c125 c126 c127 c128 c129 c130 c131 c132 c133 c134 c135 c136 c137 c138 c139 c140 c141 c142 c143 c144 c145 c146 c147 c148 c149 c150 c151 c152 c153 c154 c155 c156 c157 c158 c159 c160 c161 c162 c163 c164 c165 c166 c167 c168 c169 c170 c171 c172 c173 c174 c175 c176 c177 c178 c179 c180 c181 c182 c183 c184 c185 c186 c187 c188 c189:Value) (Q:Exit->Act->World->Prop)
  (hK:∀ (s15 s16 s109 s110 s111 s112 s113 s114 s115 s116 s117 s118 s119 s120 s121 s122 s123 s124 s125 s126 s127 s128 s129 s130 s131 s132 s133 s134 s135 s136 s137 s138 s139 s140 s141 s142 s143 s144 s145 s146 s147 s148 s149 s150 s151 s152 s153 s154 s155 s156 s157 s158 s159 s160 s161 s162 s163 s164 s165 s166 s167 s168 s169 s170 s171 s172 s173 s174 s175 s176 s177 s178 s179 s180 s181 s182 s183 s184 s185 s186 s187 s188:Value) (W:World) (pl':Nat->Pl.Pc),Pl.WOut S pl sp r cr hd pl'->RPl W gp N pl'->Y.grownBy W (some gp)->Q .normal { tmps:=#[c0,c1,c2,.slice sa N cs,.slice (some ⟨gp,0,none⟩) N cp,c5,.int .i64 (sp+1),c7,c8,.int .i64 (r:Int),.slice (some ⟨gh,0,none⟩) hl ch,c11,c12,.slice (some ⟨gu,0,none⟩) ul cu,c14,s15,s16,c17,c18,c19,c20,c21,c22,c23,c24,c25,c26,c27,c28,c29,c30,c31,c32,c33,c34,c35,c36,c37,c38,c39,c40,c41,c42,c43,c44,c45,c46,c47,c48,c49,c50,c51,c52,c53,c54,c55,c56,c57,c58,c59,c60,c61,c62,c63,c64,c65,c66,c67,c68,c69,c70,c71,c72,c73,c74,c75,c76,c77,c78,c79,c80,c81,c82,c83,c84,c85,c86,c87,c88,c89,c90,c91,c92,c93,c94,c95,c96,c97,c98,c99,c100,c101,c102,c103,c104,c105,c106,c107,c108,s109,s110,s111,s112,s113,s114,s115,s116,s117,s118,s119,s120,s121,s122,s123,s124,s125,s126,s127,s128,s129,s130,s131,s132,s133,s134,s135,s136,s137,s138,s139,s140,s141,s142,s143,s144,s145,s146,s147,s148,s149,s150,s151,s152,s153,s154,s155,s156,s157,s158,s159,s160,s161,s162,s163,s164,s165,s166,s167,s168,s169,s170,s171,s172,s173,s174,s175,s176,s177,s178,s179,s180,s181,s182,s183,s184,s185,s186,s187,s188,c189],defers:=[] } W) :
  (laC 26).wp Tryz.prog Q { tmps:=#[c0,c1,c2,.slice sa N cs,.slice (some ⟨gp,0,none⟩) N cp,c5,.int .i64 sp,c7,c8,.int .i64 (r:Int),.slice (some ⟨gh,0,none⟩) hl ch,c11,c12,.slice (some ⟨gu,0,none⟩) ul cu,c14,c15,c16,c17,c18,c19,c20,c21,c22,c23,c24,c25,c26,c27,c28,c29,c30,c31,c32,c33,c34,c35,c36,c37,c38,c39,c40,c41,c42,c43,c44,c45,c46,c47,c48,c49,c50,c51,c52,c53,c54,c55,c56,c57,c58,c59,c60,c61,c62,c63,c64,c65,c66,c67,c68,c69,c70,c71,c72,c73,c74,c75,c76,c77,c78,c79,c80,c81,c82,c83,c84,c85,c86,c87,c88,c89,c90,c91,c92,c93,c94,c95,c96,c97,c98,c99,c100,c101,c102,c103,c104,c105,c106,c107,c108,c109,c110,c111,c112,c113,c114,c115,c116,c117,c118,c119,c120,c121,c122,c123,c124,c125,c126,c127,c128,c129,c130,c131,c132,c133,c134,c135,c136,c137,c138,c139,c140,c141,c142,c143,c144,c145,c146,c147,c148,c149,c150,c151,c152,c153,c154,c155,c156,c157,c158,c159,c160,c161,c162,c163,c164,c165,c166,c167,c168,c169,c170,c171,c172,c173,c174,c175,c176,c177,c178,c179,c180,c181,c182,c183,c184,c185,c186,c187,c188,c189],defers:=[] } Y:=by
 have HKt:Hid (∀ (s15 s16 s109 s110 s111 s112 s113 s114 s115 s116 s117 s118 s119 s120 s121 s122 s123 s124 s125 s126 s127 s128 s129 s130 s131 s132 s133 s134 s135 s136 s137 s138 s139 s140 s141 s142 s143 s144 s145 s146 s147 s148 s149 s150 s151 s152 s153 s154 s155 s156 s157 s158 s159 s160 s161 s162 s163 s164 s165 s166 s167 s168 s169 s170 s171 s172 s173 s174 s175 s176 s177 s178 s179 s180 s181 s182 s183 s184 s185 s186 s187 s188:Value) (W:World) (pl':Nat->Pl.Pc),Pl.WOut S pl sp r cr hd pl'->RPl W gp N pl'->Y.grownBy W (some gp)->Q .normal { tmps:=#[c0,c1,c2,.slice sa N cs,.slice (some ⟨gp,0,none⟩) N cp,c5,.int .i64 (sp+1),c7,c8,.int .i64 (r:Int),.slice (some ⟨gh,0,none⟩) hl ch,c11,c12,.slice (some ⟨gu,0,none⟩) ul cu,c14,s15,s16,c17,c18,c19,c20,c21,c22,c23,c24,c25,c26,c27,c28,c29,c30,c31,c32,c33,c34,c35,c36,c37,c38,c39,c40,c41,c42,c43,c44,c45,c46,c47,c48,c49,c50,c51,c52,c53,c54,c55,c56,c57,c58,c59,c60,c61,c62,c63,c64,c65,c66,c67,c68,c69,c70,c71,c72,c73,c74,c75,c76,c77,c78,c79,c80,c81,c82,c83,c84,c85,c86,c87,c88,c89,c90,c91,c92,c93,c94,c95,c96,c97,c98,c99,c100,c101,c102,c103,c104,c105,c106,c107,c108,s109,s110,s111,s112,s113,s114,s115,s116,s117,s118,s119,s120,s121,s122,s123,s124,s125,s126,s127,s128,s129,s130,s131,s132,s133,s134,s135,s136,s137,s138,s139,s140,s141,s142,s143,s144,s145,s146,s147,s148,s149,s150,s151,s152,s153,s154,s155,s156,s157,s158,s159,s160,s161,s162,s163,s164,s165,s166,s167,s168,s169,s170,s171,s172,s173,s174,s175,s176,s177,s178,s179,s180,s181,s182,s183,s184,s185,s186,s187,s188,c189],defers:=[] } W):=hK
 have H0:Hid (RS Y sa N S/\RPl Y gp N pl/\IRd gh hl (hd.map fun q:Nat=>(q:Int)) Y/\IRd gu ul (usL cr) Y/\(∀ q,q∈hd->q<N)/\hd.Pairwise (· < ·)):=⟨hS,hP,hh,hu,hhN,hasc⟩
 have hhd:hl=hd.length:=by have:=hh.1;rw[List.length_map]at this;exact this
 have HHD:Hid (hl=hd.length):=hhd
 have hz:(N:Int)<=4000/\(hl:Int)<=4000/\(r:Int)<(N:Int):=by omega
 obtain⟨gs,hsa,hgs,hcell⟩:=hS.2.resolve_left (by omega)
 subst hsa
 have HTT:Hid (∀ q,q<N->Y.cell? ⟨gs,q*3+1,none⟩=some (.int .i64 (S q).tt)):=fun q hq=>hcell q hq 1 (by omega)
 clear hK hS hP hh hu hhN hasc hhd hcell
 conv=>arg 2;whnf
 dsimp only
 go_wp2_with fail
 go_loopw [15,16] (fun s15 s16 W=>∃ (j:Nat) (wv:Int),j<=hl/\-1<=wv/\wv<4000/\s15=.int .i64 wv/\s16=.int .i64 (j:Int)/\Hid (Pl.Wst S (Pl.mayP pl cr) (hd.take j) wv)/\∃ k,W=Y.drewN k) (fun _ t _=>hl-(intOf t).toNat)
 case atStart=>exact⟨0,-1,Nat.zero_le _,by omega,by omega,rfl,rfl,Pl.Wst.nil _ _,0,rfl⟩
 case round=>
  obtain⟨j,wv,hj,hw1,hw2,rfl,rfl,HWS,k,hk⟩:=hrel
  have HWR:Hid (wr=Y.drewN k):=hk
  have HCE:Hid (∀ a,wr.cell? a=Y.cell? a):=fun a=>by rw[hk];rfl
  have HOY:Hid (∀ k',OnlyG gp Y (wr.drewN k')/\(wr.drewN k').heap=Y.heap/\∃ k2,wr.drewN k'=Y.drewN k2):=fun k'=>by rw[hk];exact⟨(OnlyG_drewN Y gp k).trans (OnlyG_drewN _ gp k'),rfl,_,World.drewN_drewN _ _ _⟩
  clear hk
  by_cases hlt:j<hl
  ·have hli:(j:Int)<(hl:Int):=by omega
   obtain⟨x,hx⟩:∃ x,x=hd.getD j 0:=⟨_,rfl⟩
   have hjd:j<hd.length:=by have:=HHD.out;omega
   have hxe:hd.getD j 0=hd[j]:=by rw[List.getD_eq_getElem?_getD,List.getElem?_eq_getElem hjd];rfl
   have hxN:x<N:=by rw[hx,hxe];exact H0.out.2.2.2.2.1 _ (List.getElem_mem _)
   have HT:Hid (hd.take j ++ [x]=hd.take (j+1)):=by show _=_;rw[hx,hxe];exact (List.take_succ_eq_append_getElem hjd).symm
   have HASC:Hid (∀ q∈hd.take j,q<x):=fun q hq=>by
    obtain⟨i,hi,e⟩:=List.getElem_of_mem hq
    rw[List.getElem_take]at e
    have hij:i<j:=by rw[List.length_take]at hi;omega
    rw[hx,hxe,<- e]
    exact List.pairwise_iff_getElem.1 H0.out.2.2.2.2.2 i j (by omega) hjd hij
   have c1:wr.cell? ⟨gh,j,none⟩=some (.int .i64 (x:Int)):=by
    rw[HCE.out]
    have:=H0.out.2.2.1.2 j hlt
    rw[List.getD_eq_getElem?_getD,List.getElem?_map,List.getElem?_eq_getElem hjd]at this
    rw[hx,hxe]
    exact this
   obtain⟨rg,hrg⟩:∃ rg,rg=(pl x).reg:=⟨_,rfl⟩
   have c2:=(HCE.out _).trans (H0.out.2.1.at0 hxN)
   rw[<- hrg]at c2
   obtain⟨tx,htx⟩:∃ tx,tx=(S x).tt:=⟨_,rfl⟩
   have c3:=(HCE.out _).trans (HTT.out x hxN)
   rw[<- htx]at c3
   have HRG:Hid (rg=(pl x).reg/\tx=(S x).tt/\True):=⟨hrg,htx,trivial⟩
   have hxi:(x:Int)<(N:Int):=by omega
   have HCH:Hid (∀ k,Calls Tryz.prog 80 #[.slice (some ⟨gu,0,none⟩) ul cu,.int .i64 rg] (wr.drewN k) fun e w'=>e=.returned (.bool (hasI (usL cr) rg))/\w'=wr.drewN k):=fun k=>has_is gu ul cu (usL cr) rg _ (H0.out.2.2.2.1.keep (by rw[(HOY.out k).2.1])) (by omega)
   clear hx hxe hrg htx hjd
   by_cases hhas:hasI (usL cr) rg=true
   ·by_cases hneg:wv<0
    ·have hb0:hasI (usL cr) rg=true:=hhas
     have hd1:decide (wv<0)=true:=decide_eq_true (by omega)
     have HN:Hid (Pl.Wst S (Pl.mayP pl cr) (hd.take (j+1)) (x:Int)):=HT.out ▸ HWS.out.yes (by show hasI _ _=true;rw[<- HRG.out.1];exact hhas) HASC.out (.inl (by omega))
     obtain⟨b,hb⟩:∃ b,b=hasI (usL cr) rg:=⟨_,rfl⟩
     rw[<- hb]at HCH
     obtain rfl:b=true:=hb.trans hhas
     clear hb hhas hb0
     go_upto_region 30 with fail
     go_quiet ((go_at_call 80;exact Calls.quiet_of_same (HCH.out _)))
     go_wp2_with fail
     exact⟨⟨j+1,(x:Int),by omega,by omega,by omega,rfl,by go_num,HN,(HOY.out _).2.2⟩,by simp[intOf];omega⟩
     
    ·obtain⟨wn,hwn⟩:∃ wn:Nat,wv=wn:=⟨wv.toNat,by omega⟩
     have hwnN:wn<N:=by
      rcases HWS.out with ⟨e,_⟩ | ⟨q,q1,q2,_⟩
      ·omega
      ·have:=H0.out.2.2.2.2.1 q (List.mem_of_mem_take q1);omega
     have c4:=(HCE.out _).trans (HTT.out wn hwnN)
     obtain⟨tw,htw⟩:∃ tw,tw=(S wn).tt:=⟨_,rfl⟩
     rw[<- htw]at c4
     have HTW:Hid (wv=(wn:Int)/\tw=(S wv.toNat).tt):=⟨hwn,by rw[hwn];exact htw⟩
     have hwi:(wn:Int)<(N:Int):=by omega
     subst hwn
     clear htw
     by_cases hge:tw<=tx
     ·have hb0:hasI (usL cr) rg=true:=hhas
      have hd1:decide ((wn:Int)<0)=false:=decide_eq_false (by omega)
      have hd2:decide (tw<=tx)=true:=decide_eq_true (by omega)
      have HN:Hid (Pl.Wst S (Pl.mayP pl cr) (hd.take (j+1)) (x:Int)):=HT.out ▸ HWS.out.yes (by show hasI _ _=true;rw[<- HRG.out.1];exact hhas) HASC.out (.inr (by rw[<- HRG.out.2.1,<- HTW.out.2];omega))
      obtain⟨b,hb⟩:∃ b,b=hasI (usL cr) rg:=⟨_,rfl⟩
      rw[<- hb]at HCH
      obtain rfl:b=true:=hb.trans hhas
      clear hb hhas hb0
      go_upto_region 30 with fail
      go_quiet ((go_at_call 80;exact Calls.quiet_of_same (HCH.out _)))
      go_wp2_with fail
      exact⟨⟨j+1,(x:Int),by omega,by omega,by omega,rfl,by go_num,HN,(HOY.out _).2.2⟩,by simp[intOf];omega⟩
      
     ·have hb0:hasI (usL cr) rg=true:=hhas
      have hd1:decide ((wn:Int)<0)=false:=decide_eq_false (by omega)
      have hd2:decide (tw<=tx)=false:=decide_eq_false (by omega)
      have HN:Hid (Pl.Wst S (Pl.mayP pl cr) (hd.take (j+1)) (wn:Int)):=HT.out ▸ HWS.out.less ⟨by omega,by rw[<- HRG.out.2.1,<- HTW.out.2];omega⟩
      obtain⟨b,hb⟩:∃ b,b=hasI (usL cr) rg:=⟨_,rfl⟩
      rw[<- hb]at HCH
      obtain rfl:b=true:=hb.trans hhas
      clear hb hhas hb0
      go_upto_region 30 with fail
      go_quiet ((go_at_call 80;exact Calls.quiet_of_same (HCH.out _)))
      go_wp2_with fail
      exact⟨⟨j+1,(wn:Int),by omega,by omega,by omega,rfl,by go_num,HN,(HOY.out _).2.2⟩,by simp[intOf];omega⟩
      
   ·have HN:Hid (Pl.Wst S (Pl.mayP pl cr) (hd.take (j+1)) wv):=HT.out ▸ HWS.out.no (by show ¬ hasI _ _=true;rw[<- HRG.out.1];exact hhas)
    obtain⟨b,hb⟩:∃ b,b=hasI (usL cr) rg:=⟨_,rfl⟩
    rw[<- hb]at HCH
    obtain rfl:b=false:=hb.trans (by cases e:hasI (usL cr) rg;rfl;exact absurd e hhas)
    clear hb hhas
    go_upto_region 30 with fail
    go_quiet ((go_at_call 80;exact Calls.quiet_of_same (HCH.out _)))
    go_wp2_with fail
    exact⟨⟨j+1,wv,by omega,by omega,by omega,rfl,by go_num,HN,(HOY.out _).2.2⟩,by simp[intOf];omega⟩
    
  ·have hli:¬ (j:Int)<(hl:Int):=by omega
   have HWA:Hid (Pl.Wst S (Pl.mayP pl cr) hd wv):=by have:=HWS.out;rw[List.take_of_length_le (by have:=HHD.out;omega)]at this;exact this
   obtain⟨tr,htr⟩:∃ tr,tr=(S r).tt:=⟨_,rfl⟩
   have c5:=(HCE.out _).trans (HTT.out r hr)
   rw[<- htr]at c5
   have HTR:Hid (tr=(S r).tt):=htr
   have hPw:RPl wr gp N pl:=H0.out.2.1.keep (by have:=(HOY.out 0).2.1;exact congrArg (fun h=>h[gp]?) this)
   have fp:=hPw.fz
   have r0:=hPw.at0 hr
   have r1:=hPw.at1 hr
   clear hPw
   have HNOT:Hid (∀ k,¬ (0<=wv/\(S r).tt<(S wv.toNat).tt)->Pl.WOut S pl sp r cr hd (Pl.up pl r ⟨(pl r).reg,sp⟩)/\RPl ((wr.drewN k).setCell ⟨gp,r*2+1,none⟩ (.int .i64 sp)) gp N (Pl.up pl r ⟨(pl r).reg,sp⟩)/\Y.grownBy ((wr.drewN k).setCell ⟨gp,r*2+1,none⟩ (.int .i64 sp)) (some gp)):=fun k hc=>⟨⟨wv,HWA.out,.inr ⟨hc,rfl⟩⟩,(H0.out.2.1.keep (w':=wr.drewN k) (by rw[(HOY.out k).2.1])).setSpill hr sp,grown_of_only ((HOY.out k).1.trans (OnlyG.setCell _ gp _ _))⟩
   clear htr HWS
   by_cases hneg:wv<0
   ·have hd1:decide (0<=wv)=false:=by simp;omega
    have HN:=fun k=>HNOT.out k (fun c=>by omega)
    have HN2:Hid (∀ k,_/\_/\_):=HN
    clear HN
    go_upto_region 32 with fail
    go_quiet (fail)
    go_wp2_with fail
    exact HKt.out _ _ _ _ _ _ _ _ _ _ _ _ _ _ _ _ _ _ _ _ _ _ _ _ _ _ _ _ _ _ _ _ _ _ _ _ _ _ _ _ _ _ _ _ _ _ _ _ _ _ _ _ _ _ _ _ _ _ _ _ _ _ _ _ _ _ _ _ _ _ _ _ _ _ _ _ _ _ _ _ _ _ _ _ (HN2.out 0).1 (HN2.out _).2.1 (HN2.out _).2.2
   obtain⟨wn,hwn⟩:∃ wn:Nat,wv=wn:=⟨wv.toNat,by omega⟩
   have hwnN:wn<N:=by
    rcases HWA.out with ⟨e,_⟩ | ⟨q,q1,q2,_⟩
    ·omega
    ·have:=H0.out.2.2.2.2.1 q q1;omega
   have c4:=(HCE.out _).trans (HTT.out wn hwnN)
   obtain⟨tw,htw⟩:∃ tw,tw=(S wn).tt:=⟨_,rfl⟩
   rw[<- htw]at c4
   have HTW:Hid (wv=(wn:Int)/\tw=(S wv.toNat).tt):=⟨hwn,by rw[hwn];exact htw⟩
   have hwi:(wn:Int)<(N:Int):=by omega
   have hd1:decide (0<=wv)=true:=by simp;omega
   subst hwn
   clear htw
   by_cases hgt:tr<tw
   rotate_left
   ·have hd2:decide (tr<tw)=false:=by simp;omega
    have HN:=fun k=>HNOT.out k (fun c=>by rw[<- HTR.out,<- HTW.out.2]at c;omega)
    have HN2:Hid (∀ k,_/\_/\_):=HN
    clear HN
    go_upto_region 32 with fail
    go_quiet (fail)
    go_wp2_with fail
    exact HKt.out _ _ _ _ _ _ _ _ _ _ _ _ _ _ _ _ _ _ _ _ _ _ _ _ _ _ _ _ _ _ _ _ _ _ _ _ _ _ _ _ _ _ _ _ _ _ _ _ _ _ _ _ _ _ _ _ _ _ _ _ _ _ _ _ _ _ _ _ _ _ _ _ _ _ _ _ _ _ _ _ _ _ _ _ (HN2.out 0).1 (HN2.out _).2.1 (HN2.out _).2.2
   have hd2:decide (tr<tw)=true:=by simp;omega
   obtain⟨rw_,hrw⟩:∃ x,x=(pl wn).reg:=⟨_,rfl⟩
   have w0:=(HCE.out _).trans (H0.out.2.1.at0 hwnN)
   have w1:=(HCE.out _).trans (H0.out.2.1.at1 hwnN)
   rw[<- hrw]at w0
   have HY:Hid (∀ k,Pl.WOut S pl sp r cr hd (Pl.up (Pl.up (Pl.up pl r ⟨(pl wn).reg,(pl r).spill⟩) wn ⟨0,(pl wn).spill⟩) wn ⟨0,sp⟩)/\(r≠wn->RPl ((((wr.drewN k).setCell ⟨gp,r*2,none⟩ (.int .i64 rw_)).setCell ⟨gp,wn*2,none⟩ (.int .i64 0)).setCell ⟨gp,wn*2+1,none⟩ (.int .i64 sp)) gp N (Pl.up (Pl.up (Pl.up pl r ⟨(pl wn).reg,(pl r).spill⟩) wn ⟨0,(pl wn).spill⟩) wn ⟨0,sp⟩))/\Y.grownBy ((((wr.drewN k).setCell ⟨gp,r*2,none⟩ (.int .i64 rw_)).setCell ⟨gp,wn*2,none⟩ (.int .i64 0)).setCell ⟨gp,wn*2+1,none⟩ (.int .i64 sp)) (some gp)):=fun k=>by
    refine⟨⟨(wn:Int),HWA.out,.inl ⟨by omega,?_,rfl⟩⟩,fun hne=>?_,grown_of_only ((((HOY.out k).1.trans (OnlyG.setCell _ gp _ _)).trans (OnlyG.setCell _ gp _ _)).trans (OnlyG.setCell _ gp _ _))⟩
    ·rw[<- HTR.out,<- HTW.out.2];exact hgt
    ·have q1:=(H0.out.2.1.keep (w':=wr.drewN k) (by rw[(HOY.out k).2.1])).setReg hr rw_
     have q2:=q1.setReg hwnN 0
     have q3:=q2.setSpill hwnN sp
     rw[hrw]at q3 ⊢
     rw[Pl.up_o _ _ (fun e=>hne e.symm),Pl.up_i]at q3
     exact q3
   have hrn:r≠wn:=fun e=>by
    have h1:=HTR.out;have h2:=HTW.out.2
    rw[e]at h1
    have:(S ((wn:Int)).toNat).tt=(S wn).tt:=rfl
    omega
   have e1:¬ r=wn:=hrn
   have e2:¬ wn=r:=fun e=>hrn e.symm
   have e3:¬ wn*2=r*2:=by omega
   have e4:¬ wn*2+1=r*2:=by omega
   have e5:¬ wn*2+1=wn*2:=by omega
   have e6:¬ r*2=wn*2:=by omega
   have e7:¬ r*2=wn*2+1:=by omega
   clear hrw
   go_upto_region 32 with fail
   go_quiet (fail)
   go_wp2_with fail
   exact HKt.out _ _ _ _ _ _ _ _ _ _ _ _ _ _ _ _ _ _ _ _ _ _ _ _ _ _ _ _ _ _ _ _ _ _ _ _ _ _ _ _ _ _ _ _ _ _ _ _ _ _ _ _ _ _ _ _ _ _ _ _ _ _ _ _ _ _ _ _ _ _ _ _ _ _ _ _ _ _ _ _ _ _ _ _ (HY.out 0).1 ((HY.out _).2.1 hrn) (HY.out _).2.2
theorem usL_pos (cr:Bool) (j:Nat) (h:j<16-Pl.lo4 cr):0<(usL cr).getD j 0:=by rw[usL_at h];exact Pl.gv_pos _ (by omega)
theorem RS.grown {w w':World} {sa:Option Addr} {N gp:Nat} {S:Nat->Pl.Sp} (h:RS w sa N S) (hg:w.grownBy w' (some gp)) (hne:∀ gs,sa=some ⟨gs,0,none⟩->gs≠gp):RS w' sa N S:=by
 refine⟨h.1,?_⟩
 rcases h.2 with e | ⟨g,e,hl,hc⟩
 ·exact .inl e
 ·exact .inr ⟨g,e,Nat.lt_of_lt_of_le hl hg.size,fun i hi j hj=>(World.cell?_of_block (a:=⟨g,i*3+j,none⟩) (hg.block g hl (fun c=>hne g e (by injection c)))).trans (hc i hi j hj)⟩
set_option maxRecDepth 100000 in
theorem la19 (sa:Option Addr) (N cs gp cp r gh hl ch gt tl ct:Nat) (S:Nat->Pl.Sp) (pl:Nat->Pl.Pc) (sp:Int) (cr:Bool) (hd:List Nat) (tk:List Int) (Y:World) (hS:RS Y sa N S) (hP:RPl Y gp N pl) (hN:N<=4000) (hr:r<N) (hcr:(S r).cr=cr) (hh:IRd gh hl (hd.map fun q:Nat=>(q:Int)) Y) (hhl:hl<=4000) (hghl:gh<Y.heap.size) (hhN:∀ q,q∈hd->q<N) (hasc:hd.Pairwise (· < ·)) (ht:IRd gt tl tk Y) (htl:tl<=4000) (hgtl:gt<Y.heap.size) (hgt:gt≠gp) (hgh:gh≠gp) (hr0:(pl r).reg=0) (hsp:0<=sp/\sp<=100000)
  (c0 c1 c2 c5 c7 c8 c12 c13 c14 c15 c16 c17 c18 c19 c20 c21 c22 c23 c24 c25 c26 c27 c28 c29 c30 c31 c32 c33 c34 c35 c36 c37 c38 c39 c40 c41 c42 c43 c44 c45 c46 c47 c48 c49 c50 c51 c52 c53 c54 c55 c56 c57 c58 c59 c60 c61 c62 c63 c64 c65 c66 c67 c68 c69 c70 c71 c72 c73 c74 c75 c76 c77 c78 c79 c80 c81 c82 c83 c84 c85 c86 c87 c88 c89 c90 c91 c92 c93 c94 c95 c96 c97 c98 c99 c100 c101 c102 c103 c104 c105 c106 c107 c108 c109 c110 c111 c112 c113 c114 c115 c116 c117 c118 c119 c120 c121 c122 c123 c124 c125 c126 c127 c128 c129 c130 c131 c132 c133 c134 c135 c136 c137 c138 c139 c140 c141 c142 c143 c144 c145 c146 c147 c148 c149 c150 c151 c152 c153 c154 c155 c156 c157 c158 c159 c160 c161 c162 c163 c164 c165 c166 c167 c168 c169 c170 c171 c172 c173 c174 c175 c176 c177 c178 c179 c180 c181 c182 c183 c184 c185 c186 c187 c188 c189:Value) (Q:Exit->Act->World->Prop)
  (hKe:∀ (s13 s14 s68 s69 s70 s71 s72 s73 s74 s75 s76 s77 s78 s79 s80 s81 s82 s83 s84 s85 s86 s87 s88 s89 s90 s91 s92 s93 s94 s95 s96 s97 s98 s99 s100 s101 s102 s103 s104 s105 s106 s107 s108:Value) (W:World) (j:Nat),j<16-Pl.lo4 cr->(∀ i,i<j->hasI tk ((usL cr).getD i 0)=true)->hasI tk ((usL cr).getD j 0)=false->RPl W gp N (Pl.up pl r ⟨(usL cr).getD j 0,(pl r).spill⟩)->Y.grownBy W (some gp)->Q (.exit 3) { tmps:=#[c0,c1,c2,.slice sa N cs,.slice (some ⟨gp,0,none⟩) N cp,c5,.int .i64 sp,c7,c8,.int .i64 (r:Int),.slice (some ⟨gh,0,none⟩) hl ch,.slice (some ⟨gt,0,none⟩) tl ct,c12,s13,s14,c15,c16,c17,c18,c19,c20,c21,c22,c23,c24,c25,c26,c27,c28,c29,c30,c31,c32,c33,c34,c35,c36,c37,c38,c39,c40,c41,c42,c43,c44,c45,c46,c47,c48,c49,c50,c51,c52,c53,c54,c55,c56,c57,c58,c59,c60,c61,c62,c63,c64,c65,c66,c67,s68,s69,s70,s71,s72,s73,s74,s75,s76,s77,s78,s79,s80,s81,s82,s83,s84,s85,s86,s87,s88,s89,s90,s91,s92,s93,s94,s95,s96,s97,s98,s99,s100,s101,s102,s103,s104,s105,s106,s107,s108,c109,c110,c111,c112,c113,c114,c115,c116,c117,c118,c119,c120,c121,c122,c123,c124,c125,c126,c127,c128,c129,c130,c131,c132,c133,c134,c135,c136,c137,c138,c139,c140,c141,c142,c143,c144,c145,c146,c147,c148,c149,c150,c151,c152,c153,c154,c155,c156,c157,c158,c159,c160,c161,c162,c163,c164,c165,c166,c167,c168,c169,c170,c171,c172,c173,c174,c175,c176,c177,c178,c179,c180,c181,c182,c183,c184,c185,c186,c187,c188,c189],defers:=[] } W)
  (hKn:∀ (s13 s14 s15 s16 s68 s69 s70 s71 s72 s73 s74 s75 s76 s77 s78 s79 s80 s81 s82 s83 s84 s85 s86 s87 s88 s89 s90 s91 s92 s93 s94 s95 s96 s97 s98 s99 s100 s101 s102 s103 s104 s105 s106 s107 s108 s109 s110 s111 s112 s113 s114 s115 s116 s117 s118 s119 s120 s121 s122 s123 s124 s125 s126 s127 s128 s129 s130 s131 s132 s133 s134 s135 s136 s137 s138 s139 s140 s141 s142 s143 s144 s145 s146 s147 s148 s149 s150 s151 s152 s153 s154 s155 s156 s157 s158 s159 s160 s161 s162 s163 s164 s165 s166 s167 s168 s169 s170 s171 s172 s173 s174 s175 s176 s177 s178 s179 s180 s181 s182 s183 s184 s185 s186 s187 s188:Value) (W:World) (pl':Nat->Pl.Pc),(∀ i,i<16-Pl.lo4 cr->hasI tk ((usL cr).getD i 0)=true)->Pl.WOut S pl sp r cr hd pl'->RPl W gp N pl'->Y.grownBy W (some gp)->Q .normal { tmps:=#[c0,c1,c2,.slice sa N cs,.slice (some ⟨gp,0,none⟩) N cp,c5,.int .i64 (sp+1),c7,c8,.int .i64 (r:Int),.slice (some ⟨gh,0,none⟩) hl ch,.slice (some ⟨gt,0,none⟩) tl ct,c12,s13,s14,s15,s16,c17,c18,c19,c20,c21,c22,c23,c24,c25,c26,c27,c28,c29,c30,c31,c32,c33,c34,c35,c36,c37,c38,c39,c40,c41,c42,c43,c44,c45,c46,c47,c48,c49,c50,c51,c52,c53,c54,c55,c56,c57,c58,c59,c60,c61,c62,c63,c64,c65,c66,c67,s68,s69,s70,s71,s72,s73,s74,s75,s76,s77,s78,s79,s80,s81,s82,s83,s84,s85,s86,s87,s88,s89,s90,s91,s92,s93,s94,s95,s96,s97,s98,s99,s100,s101,s102,s103,s104,s105,s106,s107,s108,s109,s110,s111,s112,s113,s114,s115,s116,s117,s118,s119,s120,s121,s122,s123,s124,s125,s126,s127,s128,s129,s130,s131,s132,s133,s134,s135,s136,s137,s138,s139,s140,s141,s142,s143,s144,s145,s146,s147,s148,s149,s150,s151,s152,s153,s154,s155,s156,s157,s158,s159,s160,s161,s162,s163,s164,s165,s166,s167,s168,s169,s170,s171,s172,s173,s174,s175,s176,s177,s178,s179,s180,s181,s182,s183,s184,s185,s186,s187,s188,c189],defers:=[] } W) :
  (laC 19).wp Tryz.prog Q { tmps:=#[c0,c1,c2,.slice sa N cs,.slice (some ⟨gp,0,none⟩) N cp,c5,.int .i64 sp,c7,c8,.int .i64 (r:Int),.slice (some ⟨gh,0,none⟩) hl ch,.slice (some ⟨gt,0,none⟩) tl ct,c12,c13,c14,c15,c16,c17,c18,c19,c20,c21,c22,c23,c24,c25,c26,c27,c28,c29,c30,c31,c32,c33,c34,c35,c36,c37,c38,c39,c40,c41,c42,c43,c44,c45,c46,c47,c48,c49,c50,c51,c52,c53,c54,c55,c56,c57,c58,c59,c60,c61,c62,c63,c64,c65,c66,c67,c68,c69,c70,c71,c72,c73,c74,c75,c76,c77,c78,c79,c80,c81,c82,c83,c84,c85,c86,c87,c88,c89,c90,c91,c92,c93,c94,c95,c96,c97,c98,c99,c100,c101,c102,c103,c104,c105,c106,c107,c108,c109,c110,c111,c112,c113,c114,c115,c116,c117,c118,c119,c120,c121,c122,c123,c124,c125,c126,c127,c128,c129,c130,c131,c132,c133,c134,c135,c136,c137,c138,c139,c140,c141,c142,c143,c144,c145,c146,c147,c148,c149,c150,c151,c152,c153,c154,c155,c156,c157,c158,c159,c160,c161,c162,c163,c164,c165,c166,c167,c168,c169,c170,c171,c172,c173,c174,c175,c176,c177,c178,c179,c180,c181,c182,c183,c184,c185,c186,c187,c188,c189],defers:=[] } Y:=by
 have HKe:Hid (∀ (s13 s14 s68 s69 s70 s71 s72 s73 s74 s75 s76 s77 s78 s79 s80 s81 s82 s83 s84 s85 s86 s87 s88 s89 s90 s91 s92 s93 s94 s95 s96 s97 s98 s99 s100 s101 s102 s103 s104 s105 s106 s107 s108:Value) (W:World) (j:Nat),j<16-Pl.lo4 cr->(∀ i,i<j->hasI tk ((usL cr).getD i 0)=true)->hasI tk ((usL cr).getD j 0)=false->RPl W gp N (Pl.up pl r ⟨(usL cr).getD j 0,(pl r).spill⟩)->Y.grownBy W (some gp)->Q (.exit 3) { tmps:=#[c0,c1,c2,.slice sa N cs,.slice (some ⟨gp,0,none⟩) N cp,c5,.int .i64 sp,c7,c8,.int .i64 (r:Int),.slice (some ⟨gh,0,none⟩) hl ch,.slice (some ⟨gt,0,none⟩) tl ct,c12,s13,s14,c15,c16,c17,c18,c19,c20,c21,c22,c23,c24,c25,c26,c27,c28,c29,c30,c31,c32,c33,c34,c35,c36,c37,c38,c39,c40,c41,c42,c43,c44,c45,c46,c47,c48,c49,c50,c51,c52,c53,c54,c55,c56,c57,c58,c59,c60,c61,c62,c63,c64,c65,c66,c67,s68,s69,s70,s71,s72,s73,s74,s75,s76,s77,s78,s79,s80,s81,s82,s83,s84,s85,s86,s87,s88,s89,s90,s91,s92,s93,s94,s95,s96,s97,s98,s99,s100,s101,s102,s103,s104,s105,s106,s107,s108,c109,c110,c111,c112,c113,c114,c115,c116,c117,c118,c119,c120,c121,c122,c123,c124,c125,c126,c127,c128,c129,c130,c131,c132,c133,c134,c135,c136,c137,c138,c139,c140,c141,c142,c143,c144,c145,c146,c147,c148,c149,c150,c151,c152,c153,c154,c155,c156,c157,c158,c159,c160,c161,c162,c163,c164,c165,c166,c167,c168,c169,c170,c171,c172,c173,c174,c175,c176,c177,c178,c179,c180,c181,c182,c183,c184,c185,c186,c187,c188,c189],defers:=[] } W):=hKe
 have HKn:Hid (∀ (s13 s14 s15 s16 s68 s69 s70 s71 s72 s73 s74 s75 s76 s77 s78 s79 s80 s81 s82 s83 s84 s85 s86 s87 s88 s89 s90 s91 s92 s93 s94 s95 s96 s97 s98 s99 s100 s101 s102 s103 s104 s105 s106 s107 s108 s109 s110 s111 s112 s113 s114 s115 s116 s117 s118 s119 s120 s121 s122 s123 s124 s125 s126 s127 s128 s129 s130 s131 s132 s133 s134 s135 s136 s137 s138 s139 s140 s141 s142 s143 s144 s145 s146 s147 s148 s149 s150 s151 s152 s153 s154 s155 s156 s157 s158 s159 s160 s161 s162 s163 s164 s165 s166 s167 s168 s169 s170 s171 s172 s173 s174 s175 s176 s177 s178 s179 s180 s181 s182 s183 s184 s185 s186 s187 s188:Value) (W:World) (pl':Nat->Pl.Pc),(∀ i,i<16-Pl.lo4 cr->hasI tk ((usL cr).getD i 0)=true)->Pl.WOut S pl sp r cr hd pl'->RPl W gp N pl'->Y.grownBy W (some gp)->Q .normal { tmps:=#[c0,c1,c2,.slice sa N cs,.slice (some ⟨gp,0,none⟩) N cp,c5,.int .i64 (sp+1),c7,c8,.int .i64 (r:Int),.slice (some ⟨gh,0,none⟩) hl ch,.slice (some ⟨gt,0,none⟩) tl ct,c12,s13,s14,s15,s16,c17,c18,c19,c20,c21,c22,c23,c24,c25,c26,c27,c28,c29,c30,c31,c32,c33,c34,c35,c36,c37,c38,c39,c40,c41,c42,c43,c44,c45,c46,c47,c48,c49,c50,c51,c52,c53,c54,c55,c56,c57,c58,c59,c60,c61,c62,c63,c64,c65,c66,c67,s68,s69,s70,s71,s72,s73,s74,s75,s76,s77,s78,s79,s80,s81,s82,s83,s84,s85,s86,s87,s88,s89,s90,s91,s92,s93,s94,s95,s96,s97,s98,s99,s100,s101,s102,s103,s104,s105,s106,s107,s108,s109,s110,s111,s112,s113,s114,s115,s116,s117,s118,s119,s120,s121,s122,s123,s124,s125,s126,s127,s128,s129,s130,s131,s132,s133,s134,s135,s136,s137,s138,s139,s140,s141,s142,s143,s144,s145,s146,s147,s148,s149,s150,s151,s152,s153,s154,s155,s156,s157,s158,s159,s160,s161,s162,s163,s164,s165,s166,s167,s168,s169,s170,s171,s172,s173,s174,s175,s176,s177,s178,s179,s180,s181,s182,s183,s184,s185,s186,s187,s188,c189],defers:=[] } W):=hKn
 have H0:Hid (RS Y sa N S/\RPl Y gp N pl/\IRd gh hl (hd.map fun q:Nat=>(q:Int)) Y/\IRd gt tl tk Y/\(∀ q,q∈hd->q<N)/\hd.Pairwise (· < ·)):=⟨hS,hP,hh,ht,hhN,hasc⟩
 have H00:Hid ((S r).cr=cr/\(pl r).reg=0/\gh<Y.heap.size/\gt<Y.heap.size):=⟨hcr,hr0,hghl,hgtl⟩
 have hz:(N:Int)<=4000/\(tl:Int)<=4000/\(r:Int)<(N:Int):=by omega
 obtain⟨gs,hsa,hgs,hcell⟩:=hS.2.resolve_left (by omega)
 have ccr:Y.cell? ⟨gs,r*3+2,none⟩=some (.bool cr):=by rw[<- hcr];exact hcell r hr 2 (by omega)
 have hgp:gp<Y.heap.size:=hP.lt
 subst hsa
 clear hKe hKn hS hP hh ht hhN hasc hcell hr0 hcr
 conv=>arg 2;whnf
 dsimp only
 go_wp2_with fail
 refine (usable_is cr Y).mono ?_
 rintro e Y1 ⟨gu,cu,rfl,hu,hgu1,hgu2,d1⟩
 obtain⟨ul,hul⟩:∃ ul,ul=(usL cr).length:=⟨_,rfl⟩
 rw[<- hul]at hu ⊢
 have hul2:ul=16-Pl.lo4 cr:=hul.trans (usL_len cr)
 have hul3:ul<=16/\(ul:Int)<=16:=by omega
 have H1:Hid (IRd gu ul (usL cr) Y1/\RPl Y1 gp N pl/\IRd gt tl tk Y1/\Below Y.heap.size Y Y1/\gu≠gp/\RS Y1 (some ⟨gs,0,none⟩) N S/\IRd gh hl (hd.map fun q:Nat=>(q:Int)) Y1/\ul=16-Pl.lo4 cr):=⟨hu,H0.out.2.1.keep (d1.block gp hgp),H0.out.2.2.2.1.keep (d1.block gt H00.out.2.2.2),d1,by omega,H0.out.1.keep d1,H0.out.2.2.1.keep (d1.block gh H00.out.2.2.1),hul2⟩
 clear hu d1 hul hul2 ccr
 go_wp2_with fail
 go_loopw [14] (fun t W=>∃ j:Nat,j<=ul/\t=.int .i64 (j:Int)/\((W=Y1/\Hid (∀ i,i<j->hasI tk ((usL cr).getD i 0)=true))\/∃ j0,Hid (j=j0+1/\(∀ i,i<j0->hasI tk ((usL cr).getD i 0)=true)/\hasI tk ((usL cr).getD j0 0)=false/\W=Y1.setCell ⟨gp,r*2,none⟩ (.int .i64 ((usL cr).getD j0 0))))) (fun t _=>ul-(intOf t).toNat)
 case atStart=>exact⟨0,Nat.zero_le _,rfl,.inl ⟨rfl,fun i hi=>by omega⟩⟩
 case round=>
  obtain⟨j,hj,rfl,⟨rfl,HA⟩ | ⟨j0,HB⟩⟩:=hrel
  ·have r0:=H1.out.2.1.at0 hr
   rw[H00.out.2.1]at r0
   have fp:=H1.out.2.1.fz
   by_cases hlt:j<ul
   ·have hli:(j:Int)<(ul:Int):=by omega
    have cu1:=H1.out.1.2 j hlt
    obtain⟨x,hx⟩:∃ x,x=(usL cr).getD j 0:=⟨_,rfl⟩
    rw[<- hx]at cu1
    have HXU:Hid (x=(usL cr).getD j 0):=hx
    have HCH:Hid (Calls Tryz.prog 80 #[.slice (some ⟨gt,0,none⟩) tl ct,.int .i64 x] wr fun e w'=>e=.returned (.bool (hasI tk x))/\w'=wr):=has_is gt tl ct tk x _ H1.out.2.2.1 htl
    clear hx
    cases hb:hasI tk x
    ·rw[hb]at HCH
     have HN:Hid (hasI tk ((usL cr).getD j 0)=false):=by show _=_;rw[<- HXU.out];exact hb
     clear hb
     go_wp2_with (go_at_call 80;refine HCH.out.mono ?_;rintro e u9 ⟨rfl,h9⟩; rw[h9];clear h9)
     exact⟨⟨j+1,by omega,by go_num,.inr ⟨j,rfl,HA.out,HN.out,by rw[<- HXU.out]⟩⟩,by simp[intOf];omega⟩
    ·rw[hb]at HCH
     have HN:Hid (∀ i,i<j+1->hasI tk ((usL cr).getD i 0)=true):=fun i hi=>by
      by_cases e:i=j
      ·subst e;rw[<- HXU.out];exact hb
      ·exact HA.out i (by omega)
     clear hb
     go_wp2_with (go_at_call 80;refine HCH.out.mono ?_;rintro e u9 ⟨rfl,h9⟩; rw[h9];clear h9)
     exact⟨⟨j+1,by omega,by go_num,.inl ⟨trivial,HN⟩⟩,by simp[intOf];omega⟩
   ·have hli:¬ (j:Int)<(ul:Int):=by omega
    have HALL:Hid (∀ i,i<16-Pl.lo4 cr->hasI tk ((usL cr).getD i 0)=true):=fun i hi=>HA.out i (by have:=H1.out.2.2.2.2.2.2.2;omega)
    go_upto_region 25 with fail
    rename_i Ka hKa Kb hKb
    have HKa:Hid _:=hKa
    clear hKa
    go_wp2_with fail
    refine HKa.out _ _ ?_
    refine la26 (some ⟨gs,0,none⟩) N cs gp cp r gh hl ch gu ul cu S pl sp cr hd wr H1.out.2.2.2.2.2.1 H1.out.2.1 hN hr H1.out.2.2.2.2.2.2.1 H0.out.2.2.2.2.1 H0.out.2.2.2.2.2 hhl H1.out.1 hul3.1 hsp _ _ _ _ _ _ _ _ _ _ _ _ _ _ _ _ _ _ _ _ _ _ _ _ _ _ _ _ _ _ _ _ _ _ _ _ _ _ _ _ _ _ _ _ _ _ _ _ _ _ _ _ _ _ _ _ _ _ _ _ _ _ _ _ _ _ _ _ _ _ _ _ _ _ _ _ _ _ _ _ _ _ _ _ _ _ _ _ _ _ _ _ _ _ _ _ _ _ _ _ _ _ _ _ _ _ _ _ _ _ _ _ _ _ _ _ _ _ _ _ _ _ _ _ _ _ _ _ _ _ _ _ _ _ _ _ _ _ _ _ _ _ _ _ _ _ _ _ _ _ _ _ _ _ _ _ _ _ _ _ _ _ _ _ _ _ _ _ _ _ _ _ _ _ _ _ _ _ _ _ _ _ _ _ _ ?_
    intro s15 s16 s109 s110 s111 s112 s113 s114 s115 s116 s117 s118 s119 s120 s121 s122 s123 s124 s125 s126 s127 s128 s129 s130 s131 s132 s133 s134 s135 s136 s137 s138 s139 s140 s141 s142 s143 s144 s145 s146 s147 s148 s149 s150 s151 s152 s153 s154 s155 s156 s157 s158 s159 s160 s161 s162 s163 s164 s165 s166 s167 s168 s169 s170 s171 s172 s173 s174 s175 s176 s177 s178 s179 s180 s181 s182 s183 s184 s185 s186 s187 s188 W pl' h1 h2 h3
    exact HKn.out _ _ _ _ _ _ _ _ _ _ _ _ _ _ _ _ _ _ _ _ _ _ _ _ _ _ _ _ _ _ _ _ _ _ _ _ _ _ _ _ _ _ _ _ _ _ _ _ _ _ _ _ _ _ _ _ _ _ _ _ _ _ _ _ _ _ _ _ _ _ _ _ _ _ _ _ _ _ _ _ _ _ _ _ _ _ _ _ _ _ _ _ _ _ _ _ _ _ _ _ _ _ _ _ _ _ _ _ _ _ _ _ _ _ _ _ _ _ _ _ _ _ _ _ _ W pl' HALL.out h1 h2 (grown_fromA H1.out.2.2.2.1 h3)
  ·obtain⟨e1,e2,e3,e4⟩:=HB.out
   have hj0:j0<16-Pl.lo4 cr:=by have:=H1.out.2.2.2.2.2.2.2;omega
   have HP2:Hid (RPl wr gp N (Pl.up pl r ⟨(usL cr).getD j0 0,(pl r).spill⟩)/\Y.grownBy wr (some gp)):=by
    rw[e4]
    exact⟨H1.out.2.1.setReg hr _,grown_fromA H1.out.2.2.2.1 (grown_of_only (OnlyG.setCell _ gp _ _))⟩
   have r0:=HP2.out.1.at0 hr
   rw[Pl.up_i]at r0
   obtain⟨x,hx⟩:∃ x,x=(usL cr).getD j0 0:=⟨_,rfl⟩
   have hx0:0<x:=by rw[hx];exact usL_pos cr j0 hj0
   have hxb:(x == 0)=false:=by simp;omega
   have r0':wr.cell? ⟨gp,r*2,none⟩=some (.int .i64 x):=by rw[hx];exact r0
   clear r0 e1 e2 e3 e4 hx
   by_cases hlt:j<ul
   ·have hli:(j:Int)<(ul:Int):=by omega
    go_wp2_with fail
    exact HKe.out _ _ _ _ _ _ _ _ _ _ _ _ _ _ _ _ _ _ _ _ _ _ _ _ _ _ _ _ _ _ _ _ _ _ _ _ _ _ _ _ _ _ _ wr j0 hj0 HB.out.2.1 HB.out.2.2.1 HP2.out.1 HP2.out.2
   ·have hli:¬ (j:Int)<(ul:Int):=by omega
    go_wp2_with fail
    exact HKe.out _ _ _ _ _ _ _ _ _ _ _ _ _ _ _ _ _ _ _ _ _ _ _ _ _ _ _ _ _ _ _ _ _ _ _ _ _ _ _ _ _ _ _ wr j0 hj0 HB.out.2.1 HB.out.2.2.1 HP2.out.1 HP2.out.2
end Go.Proofs.YtcgfgmlfbgbkfaaGreatDoor.W
namespace Go.Proofs.YtcgfgmlfbgbkfaaGreatDoor.Pl
open Classical in
noncomputable def spN (f:IrF):Nat:=if funOk f then f.regs.toNat else 0
open Classical in
noncomputable def spS (f:IrF) (r:Nat):Sp:=if h:∃ s,SpanIs f r s then Classical.choose h else ⟨0,0,false⟩
theorem spS_is {f:IrF} {r:Nat} {s:Sp} (h:SpanIs f r s):spS f r=s:=by
 have hx:∃ s,SpanIs f r s:=⟨s,h⟩
 unfold spS
 rw[dif_pos hx]
 exact (Classical.choose_spec hx).fn h
theorem spN_le (f:IrF):spN f<=8000:=by
 unfold spN
 split
 ·rename_i h;have:=h.1.2.1.2;omega
 ·omega
theorem spR (f:IrF):f.regs=(f.regs.toNat:Int)\/¬ funOk f:=by
 by_cases h:funOk f
 ·have h1:=h.1.1.1;have h2:=h.1.2.1.1;exact .inl (by omega)
 ·exact .inr h
end Go.Proofs.YtcgfgmlfbgbkfaaGreatDoor.Pl
namespace Go.Proofs.YtcgfgmlfbgbkfaaGreatDoor.W
open Go.RowKit
theorem Tr.belowS {l h' B:Nat} {u w w':World} (ht:Tr l h' w w') (hb:Below B u w) (hB:B<=l) (hu:B<=u.heap.size):Below B u w':=⟨ht.os.trans hb.os,ht.tape.trans hb.tape,ht.output.trans hb.output,Nat.le_trans hb.size ht.size,fun g hg=>(ht.block g (by have:=hb.size;omega) (.inl (by omega))).trans (hb.block g hg)⟩
theorem implSp_c {lo:Nat} (f:Pl.IrF) (v s:SV) (w:World) (h:FIs lo w v s f) (hz:f.sized) (hwf:∀ i,i<f.code.length->(Lit.int .i64 (f.code.getD i Pl.IrI.zero).n).wf=true) (hT:TabT w):Calls Tryz.prog 16 #[.agg #[.string f.name,.int .i64 f.params,.int .i64 f.regs,.slice v.a v.len v.cap,.slice s.a s.len s.cap]] w fun e w'=>(∃ a c,e=.returned (.slice a (Pl.spN f) c)/\RO w.heap.size w' a (Pl.spN f) (Pl.spS f))/\Below w.heap.size w w':=by
 refine (implSp_is f v s f.regs.toNat w h (fun i hi=>(hz.2.2.2 i hi).2) hwf hT (Pl.spR f)).mono fun e w' q=>?_
 obtain⟨hb,⟨h1,rfl⟩ | ⟨h1,go,S,rfl,hr,h2⟩⟩:=q
 ·have hn:Pl.spN f=0:=by unfold Pl.spN;rw[if_neg h1]
  exact⟨⟨none,0,by rw[hn],.inl hn⟩,hb⟩
 ·have hn:Pl.spN f=f.regs.toNat:=by unfold Pl.spN;rw[if_pos h1]
  refine⟨⟨some ⟨go,0,none⟩,f.regs.toNat,by rw[hn],?_⟩,hb⟩
  rw[Pl.spV_congr (fun r hr=>(Pl.spS_is (h2 r hr)).symm)]at hr
  rw[hn]
  exact RO.own hr
end Go.Proofs.YtcgfgmlfbgbkfaaGreatDoor.W
