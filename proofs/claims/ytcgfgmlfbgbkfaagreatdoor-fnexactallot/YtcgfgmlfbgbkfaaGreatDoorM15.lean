import Derived.Test.YtcgfgmlfbgbkfaaGreatDoorM14
import Derived.Test.YtcgfgmlfbgbkfaaGreatDoorM05
import Derived.Deep.Quiet
set_option linter.unusedVariables false
set_option linter.unusedSimpArgs false
set_option maxHeartbeats 16000000
namespace Go.Proofs.YtcgfgmlfbgbkfaaGreatDoor.Pl
def labUniq (code:List IrI):Prop:=∀ i j n,i<code.length->j<code.length->isLab code n i->isLab code n j->i=j
def LabK (code:List IrI) (k:Nat) (lab:Int->Option Int):Prop:=(∀ n,(lab n).isSome=true↔∃ i,i<k/\isLab code n i)/\(∀ n v,lab n=some v->∃ i:Nat,v=(i:Int)/\i<k/\isLab code n i)/\∀ i j n,i<k->j<k->isLab code n i->isLab code n j->i=j
theorem LabK.zero (code:List IrI):LabK code 0 (fun _=>none):=⟨fun n=>⟨fun h=>(by cases h),fun ⟨i,hi,_⟩=>absurd hi (Nat.not_lt_zero _)⟩,fun n v h=>(by cases h),fun i j n hi=>absurd hi (Nat.not_lt_zero _)⟩
theorem LabK.skip {code:List IrI} {k:Nat} {lab:Int->Option Int} (h:LabK code k lab) (hk:(code.getD k IrI.zero).op≠11):LabK code (k+1) lab:=by
 have no:∀ n,¬ isLab code n k:=fun n q=>hk q.1
 refine⟨fun n=>(h.1 n).trans ⟨fun ⟨i,hi,q⟩=>⟨i,by omega,q⟩,fun ⟨i,hi,q⟩=>⟨i,?_,q⟩⟩,fun n v hv=>?_,fun i j n hi hj qi qj=>?_⟩
 ·rcases Nat.lt_or_ge i k with r | r
  ·exact r
  ·exact absurd ((show i=k by omega) ▸ q) (no n)
 ·obtain⟨i,h1,h2,h3⟩:=h.2.1 n v hv
  exact⟨i,h1,by omega,h3⟩
 ·have a:i<k:=by
   rcases Nat.lt_or_ge i k with r | r
   ·exact r
   ·exact absurd ((show i=k by omega) ▸ qi) (no n)
  have b:j<k:=by
   rcases Nat.lt_or_ge j k with r | r
   ·exact r
   ·exact absurd ((show j=k by omega) ▸ qj) (no n)
  exact h.2.2 i j n a b qi qj
theorem LabK.put {code:List IrI} {k:Nat} {lab:Int->Option Int} (h:LabK code k lab) (hk:(code.getD k IrI.zero).op=11) (hn:¬ (lab (code.getD k IrI.zero).n).isSome=true):LabK code (k+1) (fun m=>if m=(code.getD k IrI.zero).n then some (k:Int) else lab m):=by
 have no:∀ i,i<k->¬ isLab code (code.getD k IrI.zero).n i:=fun i hi q=>hn ((h.1 _).2 ⟨i,hi,q⟩)
 have at_:∀ n,isLab code n k->n=(code.getD k IrI.zero).n:=fun n q=>q.2.symm
 refine⟨fun n=>?_,fun n v hv=>?_,fun i j n hi hj qi qj=>?_⟩
 ·by_cases e:n=(code.getD k IrI.zero).n
  ·simp only[if_pos e,Option.isSome_some,true_iff]
   exact⟨k,by omega,hk,e.symm⟩
  ·simp only[if_neg e]
   refine (h.1 n).trans ⟨fun ⟨i,hi,q⟩=>⟨i,by omega,q⟩,fun ⟨i,hi,q⟩=>⟨i,?_,q⟩⟩
   rcases Nat.lt_or_ge i k with r | r
   ·exact r
   ·exact absurd (at_ n ((show i=k by omega) ▸ q)) e
 ·by_cases e:n=(code.getD k IrI.zero).n
  ·simp only[if_pos e,Option.some.injEq]at hv
   exact⟨k,hv.symm,by omega,hk,e.symm⟩
  ·simp only[if_neg e]at hv
   obtain⟨i,h1,h2,h3⟩:=h.2.1 n v hv
   exact⟨i,h1,by omega,h3⟩
 ·by_cases e:n=(code.getD k IrI.zero).n
  ·subst e
   have a:i=k:=by
    rcases Nat.lt_or_ge i k with r | r
    ·exact absurd qi (no i r)
    ·omega
   have b:j=k:=by
    rcases Nat.lt_or_ge j k with r | r
    ·exact absurd qj (no j r)
    ·omega
   omega
  ·have a:i<k:=by
    rcases Nat.lt_or_ge i k with r | r
    ·exact r
    ·exact absurd (at_ n ((show i=k by omega) ▸ qi)) e
   have b:j<k:=by
    rcases Nat.lt_or_ge j k with r | r
    ·exact r
    ·exact absurd (at_ n ((show j=k by omega) ▸ qj)) e
   exact h.2.2 i j n a b qi qj
end Go.Proofs.YtcgfgmlfbgbkfaaGreatDoor.Pl
namespace Go.Proofs.YtcgfgmlfbgbkfaaGreatDoor.W
open Go.RowKit Go.Maps Go.WideMaps
def FlSaid (W0:World) (gr gm:Nat) (f:Pl.IrF) (v s:SV) (S:Value) (sv:List Value) (P:Value) (ps:List Int) (room:Int) (e:Ending) (w':World):Prop:=
 IsB (Pl.labUniq f.code) e/\Below W0.heap.size W0 w'/\(Pl.labUniq f.code->∃ (nm:Nat) (lab:Int->Option Int),nm<=f.code.length/\Pl.LabK f.code f.code.length lab/\Rt W0 gr gm nm f v s S sv lab P ps room w')
set_option maxRecDepth 100000 in
theorem findLabels_is {lo:Nat} {W0:World} {gr gm:Nat} {f:Pl.IrF} {v s:SV} {S:Value} {sv:List Value} {P:Value} {ps:List Int} {room:Int} {w:World} (h:Rt W0 gr gm 0 f v s S sv (fun _=>none) P ps room w) (hs:IRow lo W0 s.a s.len s.cap f.code) (hl:f.code.length<=8000) (hwf:∀ i,i<f.code.length->(Lit.int .i64 (f.code.getD i Pl.IrI.zero).n).wf=true) :
  Calls Tryz.prog 57 #[.pointer (some ⟨gr,0,none⟩)] w fun e w'=>FlSaid W0 gr gm f v s S sv P ps room e w':=by
 obtain⟨sa,sl,sc⟩:=s
 simp only at hs
 have HH:Hid (Rt W0 gr gm 0 f v ⟨sa,sl,sc⟩ S sv (fun _=>none) P ps room w):=h
 have HS:Hid (IRow lo W0 sa sl sc f.code/\f.code.length=sl):=⟨hs,hs.1⟩
 have hsl:sl<=8000:=by rw[<- hs.1];exact hl
 have hsm:(sl:Int)<=9223372036854775807:=by omega
 have HWF:Hid (∀ i,i<f.code.length->(Lit.int .i64 (f.code.getD i Pl.IrI.zero).n).wf=true):=hwf
 have c4:w.cell? ⟨gr,4,none⟩=some (.slice sa sl sc):=h.cell 4
 clear h hs hl hwf
 go_enter Tryz.func57,Tryz.ntmps57
 go_wp2_with fail
 go_loopw [11] (fun t wr=>∃ (k nm:Nat) (lab:Int->Option Int),k<=sl/\t=.int .i64 (k:Int)/\nm<=k/\Hid (Pl.LabK f.code k lab)/\Hid (Rt W0 gr gm nm f v ⟨sa,sl,sc⟩ S sv lab P ps room wr)) (fun t _=>sl-(intOf t).toNat)
 case atStart=>exact⟨0,0,fun _=>none,Nat.zero_le _,rfl,Nat.le_refl _,Pl.LabK.zero _,HH.out⟩
 case round=>
  obtain⟨k,nm,lab,hk,rfl,hnm,HK,HR⟩:=hrel
  by_cases hlt:k<sl
  rotate_left
  ·have hki:¬ ((k:Int)<(sl:Int)):=by omega
   have hkk:k=sl:=by omega
   have HE:Hid (FlSaid W0 gr gm f v ⟨sa,sl,sc⟩ S sv P ps room (.returned (.bool true)) wr):=by
    have e:=HS.out.2
    have q:=HK.out
    have u:Pl.labUniq f.code:=fun i j n hi hj=>q.2.2 i j n (by omega) (by omega)
    refine⟨isB_yes u,HR.out.bel,fun _=>⟨nm,lab,by omega,?_,HR.out⟩⟩
    rw[e,<- hkk];exact q
   clear hkk
   go_wp2_with fail
   go_ret
   exact HE.out
  have hki:(k:Int)<(sl:Int):=by omega
  obtain⟨sb,so,⟨ya,yl,yc⟩,hsa,_,hsb,hc,_,_⟩:=HS.out.1.at hlt
  subst hsa
  obtain⟨x,hx⟩:∃ x,x=f.code.getD k Pl.IrI.zero:=⟨_,rfl⟩
  have HX:Hid (x=f.code.getD k Pl.IrI.zero):=hx
  rw[<- hx]at hc
  obtain⟨b0,b1,b2,b3,b4,b5,b6⟩:=iri_cells (u:=wr) (fun j hj=>(HR.out.bel.cell (p:=⟨sb,so+k*7+j,none⟩) hsb).trans (hc j hj))
  have hxn:(Lit.int .i64 x.n).wf=true:=by rw[hx];exact HWF.out k (by rw[HS.out.2];exact hlt)
  clear hc hx
  by_cases h11:x.op=11
  rotate_left
  ·have e11:(x.op == 11)=false:=by simpa using h11
   have e12:(x.op != 11)=true:=by simpa using h11
   have HK2:Hid (Pl.LabK f.code (k+1) lab):=HK.out.skip (by rw[<- HX.out];exact h11)
   have HA:Hid (∀ o,Rt W0 gr gm nm f v ⟨some ⟨sb,so,none⟩,sl,sc⟩ S sv lab P ps room (wr.alloc o)):=fun o=>HR.out.keep (below_alloc _ _)
   clear h11
   go_wp2_with fail
   go_roundw
   case rel=>exact⟨k+1,nm,lab,by omega,by go_num,by omega,HK2,HA.out _⟩
   case measure=>simp[intOf];omega
  have e11:(x.op == 11)=true:=by simpa using h11
  have e12:(x.op != 11)=false:=by simpa using h11
  have H11:Hid (x.op=11):=h11
  have HHL:Hid (∀ u:World,Below wr.heap.size wr u->Calls Tryz.prog 91 #[.pointer (some ⟨gr,0,none⟩),.int .i64 x.n] u fun e w'=>IsB ((lab x.n).isSome=true) e/\Below u.heap.size u w'):=fun u hu=>by
   obtain⟨_,h6,D,h7,h8⟩:=(HR.out.keep hu).fit
   exact hasLabel_is gr gm nm D lab x.n hxn u h6 h7 h8
  clear h11
  by_cases hin:(lab x.n).isSome=true
  ·have HN:Hid (¬ Pl.labUniq f.code):=fun q=>by
    obtain⟨i,hi,qi⟩:=(HK.out.1 x.n).1 hin
    have:=q i k x.n (by rw[HS.out.2];omega) (by rw[HS.out.2];exact hlt) qi ⟨by rw[<- HX.out];exact H11.out,by rw[<- HX.out]⟩
    omega
   have HB:Hid (Below W0.heap.size W0 wr):=HR.out.bel
   have HHB:Hid (∀ u:World,Below wr.heap.size wr u->Calls Tryz.prog 91 #[.pointer (some ⟨gr,0,none⟩),.int .i64 x.n] u fun e w'=>e=.returned (.bool true)/\Below u.heap.size u w'):=fun u hu=>(HHL.out u hu).mono fun e w' ⟨⟨b,he,hb⟩,d⟩=>⟨by rw[he,hb.2 hin],d⟩
   clear hin HHL
   go_wp2_with (go_at_call 91;refine (HHB.out _ (below_alloc _ _)).mono ?_;rintro e u1 ⟨rfl,d1⟩; have D1:Hid _:=d1;clear d1)
   go_ret
   exact⟨isB_no HN.out,HB.out.trans (Below.mono ((below_alloc wr _).trans (D1.out.mono (by simp))) HB.out.size),fun q=>absurd q HN.out⟩
  have HHB:Hid (∀ u:World,Below wr.heap.size wr u->Calls Tryz.prog 91 #[.pointer (some ⟨gr,0,none⟩),.int .i64 x.n] u fun e w'=>e=.returned (.bool false)/\Below u.heap.size u w'):=fun u hu=>(HHL.out u hu).mono fun e w' ⟨⟨b,he,hb⟩,d⟩=>⟨by rw[he];cases b with | false=>rfl | true=>exact absurd (hb.1 rfl) hin,d⟩
  have HK2:Hid (Pl.LabK f.code (k+1) (fun m=>if m=x.n then some (k:Int) else lab m)):=by rw[HX.out];exact HK.out.put (by rw[<- HX.out];exact H11.out) (by rw[<- HX.out];exact hin)
  have hki63:(Lit.int .i64 (k:Int)).wf=true:=WalkArith.wf_i64 (by omega)
  clear hin HHL
  obtain⟨y0,hy0⟩:∃ y0:World,y0=wr.alloc (.cells #[.int .i64 x.op,.int .i64 x.d,.int .i64 x.a,.int .i64 x.b,.int .i64 x.n,.string x.sym,.slice ya yl yc] 81):=⟨_,rfl⟩
  have hbx:y0.heap[wr.heap.size]?=some (.cells #[.int .i64 x.op,.int .i64 x.d,.int .i64 x.a,.int .i64 x.b,.int .i64 x.n,.string x.sym,.slice ya yl yc] 81 (0,0)):=by rw[hy0];exact heap_alloc_new wr _
  have HY0:Hid (Below wr.heap.size wr y0):=by rw[hy0];exact below_alloc _ _
  have HZ:Hid (wr.heap.size<y0.heap.size):=(Array.getElem?_eq_some_iff.1 hbx).1
  have z0:=cell_of_row y0 wr.heap.size 0 _ 81 (0,0) hbx
  have z4:=cell_of_row y0 wr.heap.size 4 _ 81 (0,0) hbx
  simp only[List.getElem?_toArray,List.getElem?_cons_zero,List.getElem?_cons_succ]at z0 z4
  have HBX:Hid (y0.heap[wr.heap.size]?=some (.cells #[.int .i64 x.op,.int .i64 x.d,.int .i64 x.a,.int .i64 x.b,.int .i64 x.n,.string x.sym,.slice ya yl yc] 81 (0,0))):=hbx
  clear hbx
  go_upto_region 4 with fail
  rw[<- hy0]
  clear hy0
  go_upto_region 7 with (go_at_call 91;refine (HHB.out _ HY0.out).mono ?_;rintro e u1 ⟨rfl,d1⟩; have D1:Hid _:=d1;clear d1)
  have HRu:Hid (Rt W0 gr gm nm f v ⟨some ⟨sb,so,none⟩,sl,sc⟩ S sv lab P ps room u1):=(HR.out.keep HY0.out).keep D1.out
  have m6:u1.cell? ⟨gr,6,none⟩=some (.map (some gm)):=HRu.out.cell 6
  have m4:u1.cell? ⟨wr.heap.size,4,none⟩=some (.int .i64 x.n):=(D1.out.cell (p:=⟨wr.heap.size,4,none⟩) HZ.out).trans z4
  obtain⟨D,hD1,hD2⟩:=HRu.out.map
  obtain⟨Y2,hup,hown2,hgr2⟩:=(ownsMap_keepR hD1 (Below.drew (Below.refl u1.heap.size u1)) HRu.out.gm_lt).update intLawR Tryz.underlying59 (by unfold maxLen;omega) (keyOf_int_mk Tryz.underlying3 hxn) (plainElem_int Tryz.underlying3 hki63)
  change (Instr.mapUpdate 59 (.map (some gm)) (.int .i64 x.n) (.int .i64 (k:Int))).run Tryz.prog u1.drew=_ at hup
  have HF:Hid (Rt W0 gr gm (nm+1) f v ⟨some ⟨sb,so,none⟩,sl,sc⟩ S sv (fun m=>if m=x.n then some (k:Int) else lab m) P ps room Y2):=(HRu.out.keep (Below.drew (Below.refl u1.heap.size u1))).marked hgr2 hown2 (hD2.put x.n (k:Int) hxn)
  clear hD1 hD2 hown2 hgr2 z0 z4
  go_region
  all_goals
   go_wp2_with fail
   go_roundw
   case rel=>exact⟨k+1,nm+1,_,by omega,by go_num,by omega,HK2,HF⟩
   case measure=>simp[intOf];omega
end Go.Proofs.YtcgfgmlfbgbkfaaGreatDoor.W
namespace Go.Proofs.YtcgfgmlfbgbkfaaGreatDoor.Pl
def upM (n k:Int):Int:=(n+k-1) / k*k
def rooms:List Int->Nat->Int
 | _,0=>0
 | sl,k+1=>rooms sl k+upM (sl.getD k 0) 4
end Go.Proofs.YtcgfgmlfbgbkfaaGreatDoor.Pl
namespace Go.Proofs.YtcgfgmlfbgbkfaaGreatDoor.W
open Go.RowKit Go.Maps Go.WideMaps
noncomputable def plC (n:Nat):Code:=((Tryz.f56.body.bind (codeAt n)).getD .skip)
theorem nextMultiple_is (n k:Int) (hn:0<=n/\n<=100000000) (hk:k=4\/k=16) (w:World):Calls Tryz.prog 90 #[.int .i64 n,.int .i64 k] w fun e w'=>e=.returned (.int .i64 (Pl.upM n k))/\w'=w:=by
 rcases hk with rfl | rfl
 all_goals
  unfold Pl.upM
  go_enter Tryz.func90,Tryz.ntmps90
  go_wp2
  go_ret
  exact⟨rfl,rfl⟩
def PslMk (gr:Nat) (P:Value) (n:Nat) (room:Int) (c1 c2 c3 c4 c5 c6 c7 c8 c9 c10 c11 c12 c13 c14 c15 c16 c17 c18 c19 c20 c21 c22 c23 c24 c25 c26 c27 c28 c29 c30 c31 c32 c33 c34 c35 c36 c37 c38 c39 c40 c41 c42 c43 c44 c45 c46 c47 c48:Value) (H G cp:Nat) (L:Array Bool):Act:={ tmps:=#[.pointer (some ⟨gr,0,none⟩),c1,c2,c3,c4,c5,c6,c7,c8,c9,c10,c11,c12,c13,c14,c15,c16,c17,sld c18 L 0 (.pointer (some ⟨gr,0,none⟩)),sld c19 L 1 (.pointer (some ⟨gr,0,none⟩)),sld c20 L 2 (.pointer (some ⟨gr,0,none⟩)),sld c21 L 3 (.pointer (some ⟨gr,7,none⟩)),sld c22 L 4 (P),sld c23 L 5 (.pointer (some ⟨gr,0,none⟩)),sld c24 L 6 (.pointer (some ⟨gr,0,none⟩)),sld c25 L 7 (.pointer (some ⟨gr,8,none⟩)),sld c26 L 8 (.int .i64 room),sld c27 L 9 (.slice (some ⟨H,0,none⟩) 1 1),sld c28 L 10 (.slice (some ⟨G,0,none⟩) (n+1) cp),sld c29 L 11 (.pointer (some ⟨gr,0,none⟩)),sld c30 L 12 (.pointer (some ⟨gr,7,none⟩)),c31,c32,c33,c34,c35,c36,c37,c38,c39,c40,c41,c42,c43,c44,c45,c46,c47,c48],defers:=[] }
def PslW (y:World) (gr:Nat) (P:Value) (n:Nat) (room:Int) (B:Nat) (xs:List Value) (H G cp:Nat) (L:Array Bool) (w:World):Prop:=
 (up L 9=false->w=y)/\(up L 9=true->up L 10=false->H=y.heap.size/\w=y.alloc (.cells #[.int .i64 room] 3))/\(up L 10=true->∃ w2:World,w2.ownsRow B 3 1 (.slice (some ⟨G,0,none⟩) (n+1) cp) (n+1) (xs ++ [.int .i64 room])/\y.grownBy w2 P.ownBlock/\(up L 13=false->w=w2)/\(up L 13=true->w=w2.setCell ⟨gr,7,none⟩ (.slice (some ⟨G,0,none⟩) (n+1) cp)))
theorem PslW.keep {y:World} {gr:Nat} {P:Value} {n:Nat} {room:Int} {B:Nat} {xs:List Value} {H G cp:Nat} {L:Array Bool} {w:World} (h:PslW y gr P n room B xs H G cp L w) {k:Nat} (hk:k<L.size) (n1:k≠9) (n2:k≠10) (n3:k≠13):PslW y gr P n room B xs H G cp (L.setIfInBounds k true) w:=by
 unfold PslW at h ⊢
 rw[up_set hk,up_set hk,up_set hk,if_neg n1,if_neg n2,if_neg n3]
 exact h
theorem PslW.early {y:World} {gr:Nat} {P:Value} {n:Nat} {room:Int} {B:Nat} {xs:List Value} {H G cp:Nat} {L:Array Bool} {w:World} (h:PslW y gr P n room B xs H G cp L w) (nn:up L 10=false) {g k:Nat} {v:Value} (hc:y.cell? ⟨g,k,none⟩=some v):w.cell? ⟨g,k,none⟩=some v:=by
 cases q:up L 9
 ·rw[h.1 q];exact hc
 ·rw[(h.2.1 q nn).2];exact below_cell (below_alloc _ _) hc
theorem grown_throughI {y w1 w2:World} {row:Option Nat} (hb:Below y.heap.size y w1) (hg:w1.grownBy w2 row):y.grownBy w2 row:=
 ⟨hg.os.trans hb.os,hg.tape.trans hb.tape,hg.output.trans hb.output,Nat.le_trans hb.size hg.size,fun k hk hne=>(hg.block k (Nat.lt_of_lt_of_le hk hb.size) hne).trans (hb.block k hk)⟩
theorem far_row {y w2:World} {b:Nat} {e:TypeId} {k:Nat} {x:Value} {n:Nat} {xs:List Value} (ho:y.ownsRow b e k x n xs) (hg:y.grownBy w2 x.ownBlock) {g:Nat} {ob:Obj} (hb:y.heap[g]?=some ob) (hn:∀ cs,ob≠.cells cs e (0,0)):w2.heap[g]?=some ob:=by
 rw[hg.block g (Array.getElem?_eq_some_iff.1 hb).1 (by
  intro e
  rcases ho.2 with ⟨q,_⟩ | ⟨g',cp,cur,h0,hlo,hgg,r⟩
  ·rw[q]at e;cases e
  ·rw[h0]at e
   simp only[Value.ownBlock,Option.some.injEq]at e
   rw[e,hgg]at hb
   cases hb
   exact hn _ rfl)]
 exact hb
theorem own_far {w w':World} {b:Nat} {e:TypeId} {k:Nat} {x:Value} {n:Nat} {xs:List Value} (ho:w.ownsRow b e k x n xs) (h:∀ (g:Nat) (cur:Array Value),w.heap[g]?=some (Obj.cells cur e (0,0))->w'.heap[g]?=some (Obj.cells cur e (0,0))):w'.ownsRow b e k x n xs:=by
 refine⟨ho.1,?_⟩
 rcases ho.2 with q | ⟨g,cp,cur,h0,hlo,hg,r⟩
 ·exact .inl q
 ·exact .inr ⟨g,cp,cur,h0,hlo,h g cur hg,r⟩
theorem Rt.box {W0:World} {gr gm nm:Nat} {f:Pl.IrF} {v s:SV} {S:Value} {sv:List Value} {lab:Int->Option Int} {P:Value} {ps:List Int} {room:Int} {w:World} {w2:World} (h:Rt W0 gr gm nm f v s S sv lab P ps room w) (hg:w.grownBy w2 P.ownBlock):w2.heap[gr]?=some (.cells (RtC f v s S gm P room) 61 (0,0)):=far_row h.pl hg h.blk (fun cs e=>by simp only[Obj.cells.injEq]at e;exact absurd e.2.1 (by decide))
theorem Rt.placed {W0:World} {gr gm nm:Nat} {f:Pl.IrF} {v s:SV} {S:Value} {sv:List Value} {lab:Int->Option Int} {P:Value} {ps:List Int} {room:Int} {w:World} {w2:World} {G cp:Nat} {r:Int} (h:Rt W0 gr gm nm f v s S sv lab P ps room w) (hg:w.grownBy w2 P.ownBlock) (hown:w2.ownsRow W0.heap.size 3 1 (.slice (some ⟨G,0,none⟩) (ps.length+1) cp) (ps.length+1) (ps.map (Value.int .i64) ++ [.int .i64 r])):Rt W0 gr gm nm f v s S sv lab (.slice (some ⟨G,0,none⟩) (ps.length+1) cp) (ps ++ [r]) room (w2.setCell ⟨gr,7,none⟩ (.slice (some ⟨G,0,none⟩) (ps.length+1) cp)):=by
 have hbx:=h.box hg
 obtain⟨D,⟨es,cl,q1,q2⟩,hK⟩:=h.map
 have hgm:=far_row h.pl hg q1 (fun cs e=>by cases e)
 have hmc:gm≠gr:=fun e=>by rw[e,hbx]at hgm;cases hgm
 have hsc:∀ {g:Nat} {cs:Array Value} {e:TypeId},e≠61->w2.heap[g]?=some (.cells cs e (0,0))->(w2.setCell ⟨gr,7,none⟩ (.slice (some ⟨G,0,none⟩) (ps.length+1) cp)).heap[g]?=some (.cells cs e (0,0)):=fun {g cs e} he hq=>by
  rw[heap_setCell_other w2 ⟨gr,7,none⟩ g _ (by
   rintro rfl
   rw[hbx]at hq
   simp only[Option.some.injEq,Obj.cells.injEq]at hq
   exact he hq.2.1.symm)]
  exact hq
 refine⟨(h.bel.grown hg h.bel.size (fun k hk=>(h.pl.lt k hk).1)).setCell h.grb _,h.grb,h.gmb,?_,⟨D,⟨es,cl,?_,q2⟩,hK⟩,?_,?_⟩
 ·rw[heap_setCell_same w2 gr 7 _ 61 _ hbx];rfl
 ·rw[heap_setCell_other w2 ⟨gr,7,none⟩ _ _ hmc];exact hgm
 ·exact own_far h.st fun g cur hq=>hsc (by decide) (far_row h.pl hg hq (fun cs e=>by simp only[Obj.cells.injEq]at e;exact absurd e.2.1 (by decide)))
 ·have:(ps ++ [r]).length=ps.length+1:=by simp
  rw[this,List.map_append]
  exact own_far hown fun g cur hq=>hsc (by decide) hq
theorem Rt.roomed {W0:World} {gr gm nm:Nat} {f:Pl.IrF} {v s:SV} {S:Value} {sv:List Value} {lab:Int->Option Int} {P:Value} {ps:List Int} {room:Int} {w:World} (h:Rt W0 gr gm nm f v s S sv lab P ps room w) (r:Int):Rt W0 gr gm nm f v s S sv lab P ps r (w.setCell ⟨gr,8,none⟩ (.int .i64 r)):=by
 obtain⟨D,⟨es,cl,q1,q2⟩,hK⟩:=h.map
 have hmc:gm≠gr:=fun e=>by rw[e,h.blk]at q1;cases q1
 have hsc:∀ {g:Nat} {cs:Array Value} {e:TypeId},e≠61->w.heap[g]?=some (.cells cs e (0,0))->(w.setCell ⟨gr,8,none⟩ (.int .i64 r)).heap[g]?=some (.cells cs e (0,0)):=fun {g cs e} he hq=>by
  rw[heap_setCell_other w ⟨gr,8,none⟩ g _ (by
   rintro rfl
   rw[h.blk]at hq
   simp only[Option.some.injEq,Obj.cells.injEq]at hq
   exact he hq.2.1.symm)]
  exact hq
 refine⟨h.bel.setCell h.grb _,h.grb,h.gmb,?_,⟨D,⟨es,cl,?_,q2⟩,hK⟩,own_far h.st fun g cur hq=>hsc (by decide) hq,own_far h.pl fun g cur hq=>hsc (by decide) hq⟩
 ·rw[heap_setCell_same w gr 8 _ 61 _ h.blk];rfl
 ·rw[heap_setCell_other w ⟨gr,8,none⟩ _ _ hmc];exact q1
set_option maxRecDepth 100000 in
theorem ps6_is {W0:World} {gr gm nm:Nat} {f:Pl.IrF} {v s:SV} {S:Value} {sv:List Value} {lab:Int->Option Int} {P:Value} {ps:List Int} {room:Int} {y:World} (h:Rt W0 gr gm nm f v s S sv lab P ps room y) (hps:ps.length<=1000) (c1 c2 c3 c4 c5 c6 c7 c8 c9 c10 c11 c12 c13 c14 c15 c16 c17 c18 c19 c20 c21 c22 c23 c24 c25 c26 c27 c28 c29 c30 c31 c32 c33 c34 c35 c36 c37 c38 c39 c40 c41 c42 c43 c44 c45 c46 c47 c48:Value) (K:Act->World->Prop) (Q:Exit->Act->World->Prop)
  (hK:∀ (s18 s19 s20 s21 s22 s23 s24 s25 s26 s27 s28 s29 s30:Value) (P2:Value) (y':World),Rt W0 gr gm nm f v s S sv lab P2 (ps ++ [room]) room y'->K { tmps:=#[.pointer (some ⟨gr,0,none⟩),c1,c2,c3,c4,c5,c6,c7,c8,c9,c10,c11,c12,c13,c14,c15,c16,c17,s18,s19,s20,s21,s22,s23,s24,s25,s26,s27,s28,s29,s30,c31,c32,c33,c34,c35,c36,c37,c38,c39,c40,c41,c42,c43,c44,c45,c46,c47,c48],defers:=[] } y') :
  (plC 6).wp Tryz.prog (Exit.then K Q) { tmps:=#[.pointer (some ⟨gr,0,none⟩),c1,c2,c3,c4,c5,c6,c7,c8,c9,c10,c11,c12,c13,c14,c15,c16,c17,c18,c19,c20,c21,c22,c23,c24,c25,c26,c27,c28,c29,c30,c31,c32,c33,c34,c35,c36,c37,c38,c39,c40,c41,c42,c43,c44,c45,c46,c47,c48],defers:=[] } y:=by
 have HKt:Hid _:=hK
 clear hK
 conv=>arg 2;whnf
 obtain⟨i0,hi0,hz0,hz1,hz2⟩:=info_parts Tryz.infoi64
 have hcd:=h.keep (Below.drew (Below.refl y.heap.size y))
 have d7:y.drew.cell? ⟨gr,7,none⟩=some P:=hcd.cell 7
 have d8:y.drew.cell? ⟨gr,8,none⟩=some (.int .i64 room):=hcd.cell 8
 have HCK:Hid (Rt W0 gr gm nm f v s S sv lab P ps room y.drew):=hcd
 have HO:Hid (y.drew.ownsRow W0.heap.size 3 1 P ps.length (ps.map (Value.int .i64))):=hcd.pl
 have HBL:Hid (Below W0.heap.size W0 y.drew):=hcd.bel
 clear hcd h
 refine wp_region_any (by kernel_rfl) ?_
 change wpAny _ _ _ _ _ _ _ (World.drew _)
 refine wpAny_inw (fun L a w=>∃ H G cp,a=PslMk gr P ps.length room c1 c2 c3 c4 c5 c6 c7 c8 c9 c10 c11 c12 c13 c14 c15 c16 c17 c18 c19 c20 c21 c22 c23 c24 c25 c26 c27 c28 c29 c30 c31 c32 c33 c34 c35 c36 c37 c38 c39 c40 c41 c42 c43 c44 c45 c46 c47 c48 H G cp L/\PslW y.drew gr P ps.length room W0.heap.size (ps.map (Value.int .i64)) H G cp L w) ?done (by kernel_rfl) ?step _ 14 _ _ (by kernel_rfl) ?init (by decide)
 case init=>exact⟨0,0,0,by simp only[PslMk,sld_no (up_init _ _)],fun _=>rfl,fun q=>absurd (q.symm.trans (up_init _ _)) (by decide),fun q=>absurd (q.symm.trans (up_init _ _)) (by decide)⟩
 case step=>
  intro L act w i o hI hlt hs nl hC hd ho K hK
  obtain⟨H,G,cp,rfl,hW⟩:=hI
  have hi_lt:i<14:=(Array.getElem?_eq_some_iff.1 ho).1
  rcases (show i=0\/i=1\/i=2\/i=3\/i=4\/i=5\/i=6\/i=7\/i=8\/i=9\/i=10\/i=11\/i=12\/i=13 by omega) with rfl | rfl | rfl | rfl | rfl | rfl | rfl | rfl | rfl | rfl | rfl | rfl | rfl | rfl
  ·change some _=some o at ho
   cases ho
   simp only[PslMk]
   go_simp
   exact hK _ _ ⟨H,G,cp,by simp only[PslMk,sld_set hlt,reduceIte,Nat.reduceEqDiff];try rfl,(hW.keep hlt (by decide) (by decide) (by decide))⟩
  ·change some _=some o at ho
   cases ho
   simp only[PslMk]
   go_simp
   exact hK _ _ ⟨H,G,cp,by simp only[PslMk,sld_set hlt,reduceIte,Nat.reduceEqDiff];try rfl,(hW.keep hlt (by decide) (by decide) (by decide))⟩
  ·change some _=some o at ho
   cases ho
   have q1:up L 1=true:=hd { on:=1,ground:=.data } (by simp) rfl
   simp only[PslMk,sld_yes q1]
   go_simp
   exact hK _ _ ⟨H,G,cp,by simp only[PslMk,sld_set hlt,sld_yes q1,reduceIte,Nat.reduceEqDiff];try rfl,(hW.keep hlt (by decide) (by decide) (by decide))⟩
  ·change some _=some o at ho
   cases ho
   have q2:up L 2=true:=hd { on:=2,ground:=.data } (by simp) rfl
   simp only[PslMk,sld_yes q2]
   go_simp
   exact hK _ _ ⟨H,G,cp,by simp only[PslMk,sld_set hlt,sld_yes q2,reduceIte,Nat.reduceEqDiff];try rfl,(hW.keep hlt (by decide) (by decide) (by decide))⟩
  ·change some _=some o at ho
   cases ho
   have q3:up L 3=true:=hd { on:=3,ground:=.data } (by simp) rfl
   have n10:up L 10=false:=hC.no nl 10 rfl (by kernel_rfl)
   have cx:=hW.early n10 d7
   simp only[PslMk,sld_yes q3]
   go_simp
   exact hK _ _ ⟨H,G,cp,by simp only[PslMk,sld_set hlt,sld_yes q3,reduceIte,Nat.reduceEqDiff];try rfl,(hW.keep hlt (by decide) (by decide) (by decide))⟩
  ·change some _=some o at ho
   cases ho
   simp only[PslMk]
   go_simp
   exact hK _ _ ⟨H,G,cp,by simp only[PslMk,sld_set hlt,reduceIte,Nat.reduceEqDiff];try rfl,(hW.keep hlt (by decide) (by decide) (by decide))⟩
  ·change some _=some o at ho
   cases ho
   have q5:up L 5=true:=hd { on:=5,ground:=.data } (by simp) rfl
   simp only[PslMk,sld_yes q5]
   go_simp
   exact hK _ _ ⟨H,G,cp,by simp only[PslMk,sld_set hlt,sld_yes q5,reduceIte,Nat.reduceEqDiff];try rfl,(hW.keep hlt (by decide) (by decide) (by decide))⟩
  ·change some _=some o at ho
   cases ho
   have q6:up L 6=true:=hd { on:=6,ground:=.data } (by simp) rfl
   simp only[PslMk,sld_yes q6]
   go_simp
   exact hK _ _ ⟨H,G,cp,by simp only[PslMk,sld_set hlt,sld_yes q6,reduceIte,Nat.reduceEqDiff];try rfl,(hW.keep hlt (by decide) (by decide) (by decide))⟩
  ·change some _=some o at ho
   cases ho
   have q7:up L 7=true:=hd { on:=7,ground:=.data } (by simp) rfl
   have n9:up L 9=false:=hC.no nl 9 rfl (by kernel_rfl)
   obtain rfl:=hW.1 n9
   simp only[PslMk,sld_yes q7]
   go_simp
   exact hK _ _ ⟨H,G,cp,by simp only[PslMk,sld_set hlt,sld_yes q7,reduceIte,Nat.reduceEqDiff];try rfl,(hW.keep hlt (by decide) (by decide) (by decide))⟩
  ·change some _=some o at ho
   cases ho
   have q8:up L 8=true:=hd { on:=8,ground:=.data } (by simp) rfl
   have n10:up L 10=false:=hC.no nl 10 rfl (by kernel_rfl)
   obtain rfl:=hW.1 nl
   simp only[PslMk,sld_yes q8]
   go_simp
   exact hK _ _ ⟨y.drew.heap.size,G,cp,by simp only[PslMk,sld_set hlt,sld_yes q8,reduceIte,Nat.reduceEqDiff];try rfl,⟨fun q=>absurd (q.symm.trans ((up_set hlt _).trans (if_pos rfl))) (by decide),fun _ _=>⟨rfl,rfl⟩,fun q=>absurd (q.symm.trans ((up_set hlt 10).trans n10)) (by decide)⟩⟩
  ·change some _=some o at ho
   cases ho
   have q4:up L 4=true:=hd { on:=4,ground:=.data } (by simp) rfl
   have q9:up L 9=true:=hd { on:=9,ground:=.data } (by simp) rfl
   have n13:up L 13=false:=hC.no nl 13 rfl (by kernel_rfl)
   obtain⟨rfl,rfl⟩:=hW.2.1 q9 nl
   have hown0:=own_keepI HO.out (below_alloc y.drew (.cells #[.int .i64 room] 3))
   simp only[PslMk,sld_yes q4,sld_yes q9]
   rw[if_pos (by rfl)]
   refine wp_append_lies _ (.tmp 22) (.tmp 27) 22 (by rfl) W0.heap.size 3 i0 (.int .i64 0) 1 8 Tryz.underlying22 hi0 hz0 hz1 hz2 rfl (by decide) P ps.length (ps.map (Value.int .i64)) (by rfl) hown0 ⟨y.drew.heap.size,0,none⟩ 1 1 [.int .i64 room] (by rfl) rfl (World.news_of_block (heap_alloc_new y.drew (.cells #[.int .i64 room] 3))) (by intro z hz;simp at hz;subst hz;rfl) (by decide) (by unfold maxLen;omega) (by omega) (Nat.le_trans HBL.out.size (below_alloc y.drew _).size) _ rfl ?_
   intro G' cp' w2 hown1 hgrow hat hlt1
   exact hK _ _ ⟨y.drew.heap.size,G',cp',by simp only[PslMk,sld_set hlt,sld_yes q4,sld_yes q9,reduceIte,Nat.reduceEqDiff];try rfl,⟨fun q=>absurd (q.symm.trans ((up_set hlt 9).trans q9)) (by decide),fun _ q=>absurd (q.symm.trans ((up_set hlt _).trans (if_pos rfl))) (by decide),fun _=>⟨w2,hown1,grown_throughI (below_alloc _ _) hgrow,fun _=>rfl,fun q=>absurd (q.symm.trans ((up_set hlt 13).trans n13)) (by decide)⟩⟩⟩
  ·change some _=some o at ho
   cases ho
   have q0:up L 0=true:=hd { on:=0,ground:=.data } (by simp) rfl
   simp only[PslMk,sld_yes q0]
   go_simp
   exact hK _ _ ⟨H,G,cp,by simp only[PslMk,sld_set hlt,sld_yes q0,reduceIte,Nat.reduceEqDiff];try rfl,(hW.keep hlt (by decide) (by decide) (by decide))⟩
  ·change some _=some o at ho
   cases ho
   have q11:up L 11=true:=hd { on:=11,ground:=.data } (by simp) rfl
   simp only[PslMk,sld_yes q11]
   go_simp
   exact hK _ _ ⟨H,G,cp,by simp only[PslMk,sld_set hlt,sld_yes q11,reduceIte,Nat.reduceEqDiff];try rfl,(hW.keep hlt (by decide) (by decide) (by decide))⟩
  ·change some _=some o at ho
   cases ho
   have q10:up L 10=true:=hd { on:=10,ground:=.data } (by simp) rfl
   have q12:up L 12=true:=hd { on:=12,ground:=.data } (by simp) rfl
   have q9:up L 9=true:=hC 10 _ rfl q10 { on:=9,ground:=.data } (by simp) rfl
   obtain⟨w2,y1,y2,y5,_⟩:=hW.2.2 q10
   obtain rfl:=y5 nl
   have hbx:=HCK.out.box y2
   have cx:w.cell? ⟨gr,7,none⟩=some P:=cell_of_row w gr 7 _ 61 (0,0) hbx
   have fx:w.frozen? ⟨gr,7,none⟩=false:=frozen_of_row w gr 7 _ 61 hbx
   simp only[PslMk,sld_yes q10,sld_yes q12]
   go_simp
   exact hK _ _ ⟨H,G,cp,by simp only[PslMk,sld_set hlt,sld_yes q10,sld_yes q12,reduceIte,Nat.reduceEqDiff];try rfl,⟨fun q=>absurd (q.symm.trans ((up_set hlt 9).trans q9)) (by decide),fun _ q=>absurd (q.symm.trans ((up_set hlt 10).trans q10)) (by decide),fun _=>⟨w,y1,y2,fun q=>absurd (q.symm.trans ((up_set hlt _).trans (if_pos rfl))) (by decide),fun _=>rfl⟩⟩⟩
 case done=>
  rintro L a w ⟨H,G,cp,rfl,hW⟩ hall
  obtain⟨w2,y1,y2,_,y5⟩:=hW.2.2 (hall 10 (by decide))
  obtain rfl:=y5 (hall 13 (by decide))
  simp only[PslMk,sld_yes (hall 0 (by decide)),sld_yes (hall 1 (by decide)),sld_yes (hall 2 (by decide)),sld_yes (hall 3 (by decide)),sld_yes (hall 4 (by decide)),sld_yes (hall 5 (by decide)),sld_yes (hall 6 (by decide)),sld_yes (hall 7 (by decide)),sld_yes (hall 8 (by decide)),sld_yes (hall 9 (by decide)),sld_yes (hall 10 (by decide)),sld_yes (hall 11 (by decide)),sld_yes (hall 12 (by decide))]
  exact HKt.out _ _ _ _ _ _ _ _ _ _ _ _ _ _ _ (HCK.out.placed y2 y1)
def codeAtL (n:Nat):Code->Option Code
 | .region m ops d=>if m == n then some (.region m ops d) else none
 | .seq a b=>if startsAt n a then some a else match codeAtL n a with
  | some c=>some c
  | none=>codeAtL n b
 | .block _ c=>codeAtL n c
 | .loop c=>codeAtL n c
 | .scope c=>codeAtL n c
 | _=>none
noncomputable def plL (n:Nat):Code:=((Tryz.f56.body.bind (codeAtL n)).getD .skip)
def Ps7Mk (gr:Nat) (room z q:Int) (c1 c2 c3 c5 c6 c7 c8 c9 c10 c11 c12 c13 c14 c15 c16 c17 c18 c19 c20 c21 c22 c23 c24 c25 c26 c27 c28 c29 c30 c31 c32 c33 c34 c35 c36 c37 c38 c39 c40 c41 c42 c43 c44 c45 c46 c47 c48:Value)  (L:Array Bool):Act:={ tmps:=#[.pointer (some ⟨gr,0,none⟩),c1,c2,c3,.int .i64 z,c5,c6,c7,c8,c9,c10,c11,c12,c13,c14,c15,c16,c17,c18,c19,c20,c21,c22,c23,c24,c25,c26,c27,c28,c29,c30,sld c31 L 0 (.pointer (some ⟨gr,0,none⟩)),sld c32 L 1 (.pointer (some ⟨gr,0,none⟩)),sld c33 L 2 (.pointer (some ⟨gr,8,none⟩)),sld c34 L 3 (.int .i64 room),sld c35 L 4 (.int .i64 z),sld c36 L 5 (.int .i64 q),sld c37 L 6 (.int .i64 (room+q)),sld c38 L 7 (.pointer (some ⟨gr,0,none⟩)),sld c39 L 8 (.pointer (some ⟨gr,8,none⟩)),c40,c41,c42,c43,c44,c45,c46,c47,c48],defers:=[] }
set_option maxRecDepth 100000 in
theorem ps7_is {W0:World} {gr gm nm:Nat} {f:Pl.IrF} {v s:SV} {S:Value} {sv:List Value} {lab:Int->Option Int} {P:Value} {ps:List Int} {room:Int} {y:World} (h:Rt W0 gr gm nm f v s S sv lab P ps room y) (z:Int) (hz:0<=z/\z<=60000) (hr:0<=room/\room<=100000000) (c1 c2 c3 c5 c6 c7 c8 c9 c10 c11 c12 c13 c14 c15 c16 c17 c18 c19 c20 c21 c22 c23 c24 c25 c26 c27 c28 c29 c30 c31 c32 c33 c34 c35 c36 c37 c38 c39 c40 c41 c42 c43 c44 c45 c46 c47 c48:Value) (Q:Exit->Act->World->Prop)
  (hK:∀ (s31 s32 s33 s34 s35 s36 s37 s38 s39:Value) (y':World),Rt W0 gr gm nm f v s S sv lab P ps (room+Pl.upM z 4) y'->Q .normal { tmps:=#[.pointer (some ⟨gr,0,none⟩),c1,c2,c3,.int .i64 z,c5,c6,c7,c8,c9,c10,c11,c12,c13,c14,c15,c16,c17,c18,c19,c20,c21,c22,c23,c24,c25,c26,c27,c28,c29,c30,s31,s32,s33,s34,s35,s36,s37,s38,s39,c40,c41,c42,c43,c44,c45,c46,c47,c48],defers:=[] } y') :
  (plL 7).wp Tryz.prog Q { tmps:=#[.pointer (some ⟨gr,0,none⟩),c1,c2,c3,.int .i64 z,c5,c6,c7,c8,c9,c10,c11,c12,c13,c14,c15,c16,c17,c18,c19,c20,c21,c22,c23,c24,c25,c26,c27,c28,c29,c30,c31,c32,c33,c34,c35,c36,c37,c38,c39,c40,c41,c42,c43,c44,c45,c46,c47,c48],defers:=[] } y:=by
 have HKt:Hid _:=hK
 clear hK
 conv=>arg 2;whnf
 have HNM:Hid (∀ u:World,Calls Tryz.prog 90 #[.int .i64 z,.int .i64 4] u fun e w'=>e=.returned (.int .i64 (Pl.upM z 4))/\w'=u):=fun u=>nextMultiple_is z 4 (by omega) (.inl rfl) u
 have hup:0<=Pl.upM z 4/\Pl.upM z 4<=60003:=by unfold Pl.upM;omega
 have d8:y.cell? ⟨gr,8,none⟩=some (.int .i64 room):=h.cell 8
 have f8:y.frozen? ⟨gr,8,none⟩=false:=h.unfrozen 8
 have HF:Hid (∀ u:World,Below y.heap.size y u->Rt W0 gr gm nm f v s S sv lab P ps (room+Pl.upM z 4) (u.setCell ⟨gr,8,none⟩ (.int .i64 (room+Pl.upM z 4)))):=fun u hu=>(h.keep hu).roomed _
 generalize Pl.upM z 4=q at *
 have hw1:IntKind.i64.wrap (room+q)=room+q:=by rw[IntKind.wrap_i64];omega
 have e8:y.drew.cell? ⟨gr,8,none⟩=some (.int .i64 room):=d8
 have k8:y.drew.frozen? ⟨gr,8,none⟩=false:=f8
 clear h d8 f8
 refine wp_region_any (by kernel_rfl) ?_
 change wpAny _ _ _ _ _ _ _ (World.drew _)
 refine wpAny_inw (fun L a w=>a=Ps7Mk gr room z q c1 c2 c3 c5 c6 c7 c8 c9 c10 c11 c12 c13 c14 c15 c16 c17 c18 c19 c20 c21 c22 c23 c24 c25 c26 c27 c28 c29 c30 c31 c32 c33 c34 c35 c36 c37 c38 c39 c40 c41 c42 c43 c44 c45 c46 c47 c48 L/\OneW y.drew (fun u=>u=y.drew.setCell ⟨gr,8,none⟩ (.int .i64 (room+q))) 9 L w) ?done (by kernel_rfl) ?step _ 10 _ _ (by kernel_rfl) ?init (by decide)
 case init=>exact⟨by simp only[Ps7Mk,sld_no (up_init _ _)],OneW.init⟩
 case step=>
  intro L act w i o hI hlt hs nl hC hd ho K hK
  obtain⟨rfl,hW⟩:=hI
  have hi_lt:i<10:=(Array.getElem?_eq_some_iff.1 ho).1
  rcases (show i=0\/i=1\/i=2\/i=3\/i=4\/i=5\/i=6\/i=7\/i=8\/i=9 by omega) with rfl | rfl | rfl | rfl | rfl | rfl | rfl | rfl | rfl | rfl
  ·change some _=some o at ho
   cases ho
   simp only[Ps7Mk]
   go_simp
   exact hK _ _ ⟨by simp only[Ps7Mk,sld_set hlt,reduceIte,Nat.reduceEqDiff];try rfl,(hW.keep hlt (by decide))⟩
  ·change some _=some o at ho
   cases ho
   have q0:up L 0=true:=hd { on:=0,ground:=.data } (by simp) rfl
   simp only[Ps7Mk,sld_yes q0]
   go_simp
   exact hK _ _ ⟨by simp only[Ps7Mk,sld_set hlt,sld_yes q0,reduceIte,Nat.reduceEqDiff];try rfl,(hW.keep hlt (by decide))⟩
  ·change some _=some o at ho
   cases ho
   have q1:up L 1=true:=hd { on:=1,ground:=.data } (by simp) rfl
   simp only[Ps7Mk,sld_yes q1]
   go_simp
   exact hK _ _ ⟨by simp only[Ps7Mk,sld_set hlt,sld_yes q1,reduceIte,Nat.reduceEqDiff];try rfl,(hW.keep hlt (by decide))⟩
  ·change some _=some o at ho
   cases ho
   have q2:up L 2=true:=hd { on:=2,ground:=.data } (by simp) rfl
   have n6:up L 6=false:=hC.no nl 6 rfl (by kernel_rfl)
   have n9:up L 9=false:=hC.no n6 9 rfl (by kernel_rfl)
   obtain rfl:=hW.1 n9
   simp only[Ps7Mk,sld_yes q2]
   go_simp
   exact hK _ _ ⟨by simp only[Ps7Mk,sld_set hlt,sld_yes q2,reduceIte,Nat.reduceEqDiff];try rfl,(hW.keep hlt (by decide))⟩
  ·change some _=some o at ho
   cases ho
   simp only[Ps7Mk]
   go_simp
   exact hK _ _ ⟨by simp only[Ps7Mk,sld_set hlt,reduceIte,Nat.reduceEqDiff];try rfl,(hW.keep hlt (by decide))⟩
  ·change some _=some o at ho
   cases ho
   have q4:up L 4=true:=hd { on:=4,ground:=.data } (by simp) rfl
   have n6:up L 6=false:=hC.no nl 6 rfl (by kernel_rfl)
   have n9:up L 9=false:=hC.no n6 9 rfl (by kernel_rfl)
   obtain rfl:=hW.1 n9
   simp only[Ps7Mk,sld_yes q4]
   go_simp
   refine (HNM.out _).mono ?_
   rintro e z1 ⟨rfl,g1⟩
   rw[g1]
   clear g1 z1
   go_simp
   exact hK _ _ ⟨by simp only[Ps7Mk,sld_set hlt,sld_yes q4,reduceIte,Nat.reduceEqDiff];try rfl,(hW.keep hlt (by decide))⟩
  ·change some _=some o at ho
   cases ho
   have q3:up L 3=true:=hd { on:=3,ground:=.data } (by simp) rfl
   have q5:up L 5=true:=hd { on:=5,ground:=.data } (by simp) rfl
   simp only[Ps7Mk,sld_yes q3,sld_yes q5]
   go_simp
   exact hK _ _ ⟨by simp only[Ps7Mk,sld_set hlt,sld_yes q3,sld_yes q5,reduceIte,Nat.reduceEqDiff];try rfl,(hW.keep hlt (by decide))⟩
  ·change some _=some o at ho
   cases ho
   have q0:up L 0=true:=hd { on:=0,ground:=.data } (by simp) rfl
   simp only[Ps7Mk,sld_yes q0]
   go_simp
   exact hK _ _ ⟨by simp only[Ps7Mk,sld_set hlt,sld_yes q0,reduceIte,Nat.reduceEqDiff];try rfl,(hW.keep hlt (by decide))⟩
  ·change some _=some o at ho
   cases ho
   have q7:up L 7=true:=hd { on:=7,ground:=.data } (by simp) rfl
   simp only[Ps7Mk,sld_yes q7]
   go_simp
   exact hK _ _ ⟨by simp only[Ps7Mk,sld_set hlt,sld_yes q7,reduceIte,Nat.reduceEqDiff];try rfl,(hW.keep hlt (by decide))⟩
  ·change some _=some o at ho
   cases ho
   have q6:up L 6=true:=hd { on:=6,ground:=.data } (by simp) rfl
   have q8:up L 8=true:=hd { on:=8,ground:=.data } (by simp) rfl
   obtain rfl:=hW.1 nl
   simp only[Ps7Mk,sld_yes q6,sld_yes q8]
   go_simp
   exact hK _ _ ⟨by simp only[Ps7Mk,sld_set hlt,sld_yes q6,sld_yes q8,reduceIte,Nat.reduceEqDiff];try rfl,OneW.first hlt rfl⟩
 case done=>
  rintro L a w ⟨rfl,hW⟩ hall
  obtain rfl:=hW.2 (hall 9 (by decide))
  simp only[Ps7Mk,sld_yes (hall 0 (by decide)),sld_yes (hall 1 (by decide)),sld_yes (hall 2 (by decide)),sld_yes (hall 3 (by decide)),sld_yes (hall 4 (by decide)),sld_yes (hall 5 (by decide)),sld_yes (hall 6 (by decide)),sld_yes (hall 7 (by decide)),sld_yes (hall 8 (by decide))]
  exact HKt.out _ _ _ _ _ _ _ _ _ _ (HF.out _ (Below.drew (Below.refl _ _)))
end Go.Proofs.YtcgfgmlfbgbkfaaGreatDoor.W
namespace Go.Proofs.YtcgfgmlfbgbkfaaGreatDoor.Pl
def slotsOk (sl:List Int):Prop:=∀ i,i<sl.length->1<=sl.getD i 0/\sl.getD i 0<=60000
theorem rooms_bd (sl:List Int):∀ k,(∀ i,i<k->1<=sl.getD i 0/\sl.getD i 0<=60000)->0<=rooms sl k/\rooms sl k<=60003*k
 | 0,_=>by simp[rooms]
 | k+1,h=>by
  have:=rooms_bd sl k fun i hi=>h i (by omega)
  have:=h k (by omega)
  unfold rooms upM
  omega
end Go.Proofs.YtcgfgmlfbgbkfaaGreatDoor.Pl
namespace Go.Proofs.YtcgfgmlfbgbkfaaGreatDoor.W
open Go.RowKit Go.Maps Go.WideMaps
def PlSaid (W0:World) (gr gm:Nat) (f:Pl.IrF) (v s:SV) (S:Value) (sv:List Value) (e:Ending) (w':World):Prop:=
 IsB (Pl.slotsOk f.slots) e/\Below W0.heap.size W0 w'/\(Pl.slotsOk f.slots->∃ P:Value,Rt W0 gr gm 0 f v s S sv (fun _=>none) P ((List.range f.slots.length).map (Pl.rooms f.slots)) (Pl.upM (Pl.rooms f.slots f.slots.length) 16) w')
set_option maxRecDepth 100000 in
theorem placeSlots_is {lo:Nat} {W0:World} {gr gm:Nat} {f:Pl.IrF} {v s:SV} {S:Value} {sv:List Value} {w:World} (h:Rt W0 gr gm 0 f v s S sv (fun _=>none) (.slice none 0 0) [] 0 w) (hv:Row .i64 lo W0 v.a v.len v.cap f.slots) (hl:f.slots.length<=200) :
  Calls Tryz.prog 56 #[.pointer (some ⟨gr,0,none⟩)] w fun e w'=>PlSaid W0 gr gm f v s S sv e w':=by
 obtain⟨va,vl,vc⟩:=v
 simp only at hv
 have HH:Hid (Rt W0 gr gm 0 f ⟨va,vl,vc⟩ s S sv (fun _=>none) (.slice none 0 0) [] 0 w):=h
 have HV:Hid (Row .i64 lo W0 va vl vc f.slots/\f.slots.length=vl):=⟨hv,hv.1⟩
 have hvl:vl<=200:=by rw[<- hv.1];exact hl
 have hvm:(vl:Int)<=9223372036854775807:=by omega
 have c3:w.cell? ⟨gr,3,none⟩=some (.slice va vl vc):=h.cell 3
 have HWI:Hid (∀ (n a b:Int) (u:World),Calls Tryz.prog 55 #[.int .i64 n,.int .i64 a,.int .i64 b] u fun e w'=>e=.returned (.bool (decide (a<=n/\n<=b)))/\w'=u):=fun n a b u=>isWithin_ir n a b u
 clear h hv hl
 go_enter Tryz.func56,Tryz.ntmps56
 go_wp2_with fail
 go_loopw [11] (fun t wr=>∃ (k:Nat) (P:Value),k<=vl/\t=.int .i64 (k:Int)/\Hid (∀ i,i<k->1<=f.slots.getD i 0/\f.slots.getD i 0<=60000)/\Hid (Rt W0 gr gm 0 f ⟨va,vl,vc⟩ s S sv (fun _=>none) P ((List.range k).map (Pl.rooms f.slots)) (Pl.rooms f.slots k) wr)) (fun t _=>vl-(intOf t).toNat)
 case atStart=>exact⟨0,.slice none 0 0,Nat.zero_le _,rfl,fun i hi=>absurd hi (Nat.not_lt_zero _),HH.out⟩
 case round=>
  obtain⟨k,P,hk,rfl,HK,HR⟩:=hrel
  have hbd:=Pl.rooms_bd f.slots k HK.out
  by_cases hlt:k<vl
  rotate_left
  ·have hki:¬ ((k:Int)<(vl:Int)):=by omega
   have hkk:k=vl:=by omega
   have c8:wr.cell? ⟨gr,8,none⟩=some (.int .i64 (Pl.rooms f.slots k)):=HR.out.cell 8
   have f8:wr.frozen? ⟨gr,8,none⟩=false:=HR.out.unfrozen 8
   have hrm:0<=Pl.rooms f.slots k/\Pl.rooms f.slots k<=100000000:=by omega
   have HNM:Hid (∀ u:World,Calls Tryz.prog 90 #[.int .i64 (Pl.rooms f.slots k),.int .i64 16] u fun e w'=>e=.returned (.int .i64 (Pl.upM (Pl.rooms f.slots k) 16))/\w'=u):=fun u=>nextMultiple_is _ 16 hrm (.inr rfl) u
   have HE:Hid (PlSaid W0 gr gm f ⟨va,vl,vc⟩ s S sv (.returned (.bool true)) (wr.setCell ⟨gr,8,none⟩ (.int .i64 (Pl.upM (Pl.rooms f.slots k) 16)))):=by
    have e:=HV.out.2
    have u:Pl.slotsOk f.slots:=fun i hi=>HK.out i (by omega)
    have q:=HR.out.roomed (Pl.upM (Pl.rooms f.slots k) 16)
    refine⟨isB_yes u,q.bel,fun _=>⟨P,?_⟩⟩
    rw[show f.slots.length=k by omega];exact q
   clear hkk hbd hrm
   generalize Pl.rooms f.slots k=rm at *
   generalize Pl.upM rm 16=q at *
   go_wp2_with (go_at_call 90;refine (HNM.out _).mono ?_;rintro e z1 ⟨rfl,g1⟩; rw[g1];clear g1 z1)
   go_ret
   exact HE.out
  have hki:(k:Int)<(vl:Int):=by omega
  obtain⟨vb,vo,hva,_,hvb,hvc⟩:=(HV.out.1.2.2.2.2).resolve_left (by omega)
  subst hva
  have cz:=(HR.out.bel.cell (p:=⟨vb,vo+k,none⟩) hvb).trans (hvc k hlt)
  obtain⟨z,hz⟩:∃ z,z=f.slots.getD k 0:=⟨_,rfl⟩
  have HZ:Hid (z=f.slots.getD k 0):=hz
  rw[<- hz]at cz
  clear hz hvc
  by_cases hin:1<=z/\z<=60000
  rotate_left
  ·have hib:decide (1<=z/\z<=60000)=false:=decide_eq_false hin
   have HN:Hid (¬ Pl.slotsOk f.slots):=fun q=>hin (by rw[HZ.out];exact q k (by rw[HV.out.2];exact hlt))
   have HB:Hid (Below W0.heap.size W0 wr):=HR.out.bel
   clear hin hbd
   go_wp2_with (go_at_call 55;refine (HWI.out _ _ _ _).mono ?_;rintro e z1 ⟨rfl,g1⟩; rw[g1,hib];clear g1 z1)
   go_ret
   exact⟨isB_no HN.out,HB.out,fun q=>absurd q HN.out⟩
  have hib:decide (1<=z/\z<=60000)=true:=decide_eq_true hin
  have HK2:Hid (∀ i,i<k+1->1<=f.slots.getD i 0/\f.slots.getD i 0<=60000):=fun i hi=>by
   by_cases e:i=k
   ·rw[e,<- HZ.out];exact hin
   ·exact HK.out i (by omega)
  have HRM:Hid (Pl.rooms f.slots (k+1)=Pl.rooms f.slots k+Pl.upM z 4):=by show Pl.rooms f.slots k+Pl.upM (f.slots.getD k 0) 4=_;rw[HZ.out]
  have HRG:Hid ((List.range (k+1)).map (Pl.rooms f.slots)=(List.range k).map (Pl.rooms f.slots) ++ [Pl.rooms f.slots k]):=by show _=_;rw[List.range_succ,List.map_append];rfl
  have HIN:Hid (0<=z/\z<=60000):=⟨by omega,by omega⟩
  have HBD:Hid (0<=Pl.rooms f.slots k/\Pl.rooms f.slots k<=100000000):=⟨by omega,by omega⟩
  clear hin hbd
  go_upto_region 6 with (go_at_call 55;refine (HWI.out _ _ _ _).mono ?_;rintro e z1 ⟨rfl,g1⟩; rw[g1,hib];clear g1 z1)
  refine ps6_is HR.out (by rw[List.length_map,List.length_range];omega) _ _ _ _ _ _ _ _ _ _ _ _ _ _ _ _ _ _ _ _ _ _ _ _ _ _ _ _ _ _ _ _ _ _ _ _ _ _ _ _ _ _ _ _ _ _ _ _ _ _ ?_
  intro s18 s19 s20 s21 s22 s23 s24 s25 s26 s27 s28 s29 s30 P2 y1 h1
  have H1:Hid (Rt W0 gr gm 0 f ⟨some ⟨vb,vo,none⟩,vl,vc⟩ s S sv (fun _=>none) P2 ((List.range (k+1)).map (Pl.rooms f.slots)) (Pl.rooms f.slots k) y1):=by show Rt _ _ _ _ _ _ _ _ _ _ _ _ _ _;rw[HRG.out];exact h1
  clear h1 cz
  go_upto_region 7 with fail
  refine ps7_is H1.out z HIN.out HBD.out _ _ _ _ _ _ _ _ _ _ _ _ _ _ _ _ _ _ _ _ _ _ _ _ _ _ _ _ _ _ _ _ _ _ _ _ _ _ _ _ _ _ _ _ _ _ _ _ ?_
  intro s31 s32 s33 s34 s35 s36 s37 s38 s39 y2 h2
  have H2:Hid (Rt W0 gr gm 0 f ⟨some ⟨vb,vo,none⟩,vl,vc⟩ s S sv (fun _=>none) P2 ((List.range (k+1)).map (Pl.rooms f.slots)) (Pl.rooms f.slots (k+1)) y2):=by show Rt _ _ _ _ _ _ _ _ _ _ _ _ _ _;rw[HRM.out];exact h2
  clear h2
  go_wp2_with fail
  go_roundw
  case rel=>exact⟨k+1,P2,by omega,by go_num,HK2,H2⟩
  case measure=>simp[intOf];omega
end Go.Proofs.YtcgfgmlfbgbkfaaGreatDoor.W
namespace Go.Proofs.YtcgfgmlfbgbkfaaGreatDoor.Pl
structure SameI (x z:IrI):Prop where
 op:x.op=z.op
 d:x.d=z.d
 a:x.a=z.a
 b:x.b=z.b
 n:x.n=z.n
 sym:x.sym.toList=z.sym.toList
 args:x.args=z.args
end Go.Proofs.YtcgfgmlfbgbkfaaGreatDoor.Pl
namespace Go.Proofs.YtcgfgmlfbgbkfaaGreatDoor.W
open Go.RowKit
theorem slEqual_ir {lo1 lo2:Nat} (a1 a2:Option Addr) (l1 c1 l2 c2:Nat) (z1 z2:List Int) (w:World) (h1:Row .i64 lo1 w a1 l1 c1 z1) (h2:Row .i64 lo2 w a2 l2 c2 z2) :
  Calls Tryz.prog 92 #[.slice a1 l1 c1,.slice a2 l2 c2] w fun e w'=>e=.returned (.bool (z1 == z2))/\Below w.heap.size w w':=by
 have hs1:=h1.small
 have hs2:=h2.small
 obtain⟨hl1,_,_,_,hr1⟩:=h1
 obtain⟨hl2,_,_,_,hr2⟩:=h2
 by_cases hne:l1=l2
 ·subst hne
  have HL1:Hid (z1.length=l1):=hl1
  have HL2:Hid (z2.length=l1):=hl2
  have HR1:Hid (l1=0\/∃ b off,a1=some ⟨b,off,none⟩/\lo1<=b/\b<w.heap.size/\∀ i,i<l1->w.cell? ⟨b,off+i,none⟩=some (.int .i64 (z1.getD i 0))):=hr1
  have HR2:Hid (l1=0\/∃ b off,a2=some ⟨b,off,none⟩/\lo2<=b/\b<w.heap.size/\∀ i,i<l1->w.cell? ⟨b,off+i,none⟩=some (.int .i64 (z2.getD i 0))):=hr2
  clear hl1 hl2 hr1 hr2
  go_enter Tryz.func92,Tryz.ntmps92
  go_wp2
  go_loopw [13] (fun i wr=>∃ k:Nat,k<=l1/\i=.int .i64 k/\(∀ j,j<k->z1.getD j 0=z2.getD j 0)/\Below w.heap.size w wr) (fun i _=>l1-(intOf i).toNat)
  case atStart=>exact⟨0,Nat.zero_le _,rfl,fun j hj=>absurd hj (Nat.not_lt_zero _),Below.refl _ _⟩
  case round=>
   obtain⟨k,hk,rfl,hall,hb⟩:=hrel
   have HA:Hid (∀ j,j<k->z1.getD j 0=z2.getD j 0):=hall
   have HB:Hid (Below w.heap.size w wr):=hb
   clear hall hb
   by_cases hlt:k<l1
   ·obtain⟨b1,o1,rfl,_,hb1,hc1⟩:=HR1.out.resolve_left (by omega)
    obtain⟨b2,o2,rfl,_,hb2,hc2⟩:=HR2.out.resolve_left (by omega)
    obtain⟨x,hx⟩:∃ x,x=z1.getD k 0:=⟨_,rfl⟩
    obtain⟨y,hy⟩:∃ y,y=z2.getD k 0:=⟨_,rfl⟩
    have g1:wr.cell? ⟨b1,o1+k,none⟩=some (.int .i64 x):=by rw[hx,HB.out.cell (by exact hb1)];exact hc1 k hlt
    have g2:wr.cell? ⟨b2,o2+k,none⟩=some (.int .i64 y):=by rw[hy,HB.out.cell (by exact hb2)];exact hc2 k hlt
    have HX:Hid (x=z1.getD k 0):=hx
    have HY:Hid (y=z2.getD k 0):=hy
    clear hx hy hc1 hc2 HR1 HR2
    by_cases hxy:x=y
    ·subst hxy
     go_wp2_with fail
     go_quiet (fail)
     go_wp2
     go_roundw
     case rel=>
      refine⟨k+1,by omega,by go_num,fun j hj=>?_,?_⟩
      ·by_cases hjk:j<k
       ·exact HA.out j hjk
       ·have:j=k:=by omega
        subst this;exact HX.out.symm.trans HY.out
      ·repeat (first | exact HB.out | refine below_drewN ?_ _)
     case measure=>simp[intOf];omega
    ·go_wp2_with fail
     go_quiet (fail)
     go_wp2
     go_ret
     refine⟨ret_bool ?_,?_⟩
     ·symm
      rw[beq_eq_false_iff_ne]
      intro hc
      exact hxy (by rw[HX.out,HY.out,hc])
     ·repeat (first | exact HB.out | refine below_drewN ?_ _)
   ·have hke:k=l1:=by omega
    subst hke
    go_wp2
    go_ret
    refine⟨ret_bool ?_,HB.out⟩
    symm
    rw[beq_iff_eq]
    exact Pl.eq_of_getD (HL1.out.trans HL2.out.symm) (fun j hj=>HA.out j (by have:=HL1.out;omega))
 ·have HP:Hid ((z1 == z2)=false):=by
   show (z1 == z2)=false
   rw[beq_eq_false_iff_ne]
   intro hc
   exact hne (by rw[<- hl1,<- hl2,hc])
  clear hr1 hr2 hl1 hl2
  go_enter Tryz.func92,Tryz.ntmps92
  go_wp2
  go_ret
  exact⟨ret_bool HP.out.symm,Below.refl _ _⟩
set_option maxRecDepth 8000 in
theorem sameIns_is {lo1 lo2:Nat} (x z:Pl.IrI) (v u:SV) (w:World) (hx:Row .i64 lo1 w v.a v.len v.cap x.args) (hz:Row .i64 lo2 w u.a u.len u.cap z.args) :
  Calls Tryz.prog 59 #[.agg #[.int .i64 x.op,.int .i64 x.d,.int .i64 x.a,.int .i64 x.b,.int .i64 x.n,.string x.sym,.slice v.a v.len v.cap],.agg #[.int .i64 z.op,.int .i64 z.d,.int .i64 z.a,.int .i64 z.b,.int .i64 z.n,.string z.sym,.slice u.a u.len u.cap]] w fun e w'=>IsB (Pl.SameI x z) e/\Below w.heap.size w w':=by
 have HEQ:Hid (∀ y:World,Below w.heap.size w y->Calls Tryz.prog 92 #[.slice v.a v.len v.cap,.slice u.a u.len u.cap] y fun e w'=>e=.returned (.bool (x.args == z.args))/\Below y.heap.size y w'):=fun y hy=>slEqual_ir v.a u.a v.len v.cap u.len u.cap x.args z.args y (hx.keep hy) (hz.keep hy)
 have DD:Hid (Below w.heap.size w ((w.alloc (.cells #[.int .i64 x.op,.int .i64 x.d,.int .i64 x.a,.int .i64 x.b,.int .i64 x.n,.string x.sym,.slice v.a v.len v.cap] 81)).alloc (.cells #[.int .i64 z.op,.int .i64 z.d,.int .i64 z.a,.int .i64 z.b,.int .i64 z.n,.string z.sym,.slice u.a u.len u.cap] 81))):=(below_alloc _ _).alloc (by simp) _
 clear hx hz
 by_cases h1:x.op=z.op
 rotate_left
 ·have e1:(x.op == z.op)=false:=by simpa using h1
  have HN:Hid (¬ Pl.SameI x z):=fun q=>h1 q.op
  clear h1
  go_enter Tryz.func59,Tryz.ntmps59
  go_wp2_with fail
  go_ret
  exact⟨isB_no HN.out,DD.out⟩
 have e1:(x.op == z.op)=true:=by simpa using h1
 have H1:Hid (x.op=z.op):=h1
 clear h1
 by_cases h2:x.d=z.d
 rotate_left
 ·have e2:(x.d == z.d)=false:=by simpa using h2
  have HN:Hid (¬ Pl.SameI x z):=fun q=>h2 q.d
  clear h2
  go_enter Tryz.func59,Tryz.ntmps59
  go_wp2_with fail
  go_ret
  exact⟨isB_no HN.out,DD.out⟩
 have e2:(x.d == z.d)=true:=by simpa using h2
 have H2:Hid (x.d=z.d):=h2
 clear h2
 by_cases h3:x.a=z.a
 rotate_left
 ·have e3:(x.a == z.a)=false:=by simpa using h3
  have HN:Hid (¬ Pl.SameI x z):=fun q=>h3 q.a
  clear h3
  go_enter Tryz.func59,Tryz.ntmps59
  go_wp2_with fail
  go_ret
  exact⟨isB_no HN.out,DD.out⟩
 have e3:(x.a == z.a)=true:=by simpa using h3
 have H3:Hid (x.a=z.a):=h3
 clear h3
 by_cases h4:x.b=z.b
 rotate_left
 ·have e4:(x.b == z.b)=false:=by simpa using h4
  have HN:Hid (¬ Pl.SameI x z):=fun q=>h4 q.b
  clear h4
  go_enter Tryz.func59,Tryz.ntmps59
  go_wp2_with fail
  go_ret
  exact⟨isB_no HN.out,DD.out⟩
 have e4:(x.b == z.b)=true:=by simpa using h4
 have H4:Hid (x.b=z.b):=h4
 clear h4
 by_cases h5:x.n=z.n
 rotate_left
 ·have e5:(x.n == z.n)=false:=by simpa using h5
  have HN:Hid (¬ Pl.SameI x z):=fun q=>h5 q.n
  clear h5
  go_enter Tryz.func59,Tryz.ntmps59
  go_wp2_with fail
  go_ret
  exact⟨isB_no HN.out,DD.out⟩
 have e5:(x.n == z.n)=true:=by simpa using h5
 have H5:Hid (x.n=z.n):=h5
 clear h5
 have H15:Hid (x.op=z.op/\x.d=z.d/\x.a=z.a/\x.b=z.b/\x.n=z.n):=⟨H1.out,H2.out,H3.out,H4.out,H5.out⟩
 cases e6:(x.sym.toList == z.sym.toList)
 ·have HN:Hid (¬ Pl.SameI x z):=fun q=>by have:=q.sym;rw[beq_eq_false_iff_ne]at e6;exact e6 this
  go_enter Tryz.func59,Tryz.ntmps59
  go_wp2_with fail
  go_ret
  exact⟨isB_no HN.out,DD.out⟩
 have H6:Hid (x.sym.toList=z.sym.toList):=by show x.sym.toList=z.sym.toList;simpa using e6
 have HR:Hid (∀ b:Bool,(x.args == z.args)=b->IsB (Pl.SameI x z) (.returned (.bool b))):=fun b hb=>by
  cases b
  ·exact isB_no fun q=>by rw[beq_eq_false_iff_ne]at hb;exact hb q.args
  ·exact isB_yes ⟨H15.out.1,H15.out.2.1,H15.out.2.2.1,H15.out.2.2.2.1,H15.out.2.2.2.2,H6.out,by simpa using hb⟩
 obtain⟨B,hB⟩:∃ B,(x.args == z.args)=B:=⟨_,rfl⟩
 have HB:Hid ((x.args == z.args)=B):=hB
 rw[hB]at HEQ
 clear hB
 go_enter Tryz.func59,Tryz.ntmps59
 go_wp2_with (go_at_call 92;refine (HEQ.out _ DD.out).mono ?_;rintro e u1 ⟨rfl,d1⟩; have D1:Hid _:=d1;clear d1)
 go_ret
 exact⟨HR.out B HB.out,DD.out.trans (D1.out.mono DD.out.size)⟩
def codeAtR (n:Nat):Code->Option Code
 | .region m ops d=>if m == n then some (.region m ops d) else none
 | .seq a b=>match codeAtR n a with
  | some c=>some c
  | none=>codeAtR n b
 | .block _ c=>codeAtR n c
 | .loop c=>codeAtR n c
 | .scope c=>codeAtR n c
 | _=>none
noncomputable def rrC0 (n:Nat):Code:=((Tryz.f32.body.bind (codeAtR n)).getD .skip)
def Rr0Mk (gr g6:Nat) (x wx:Pl.IrI) (y2:SV) (T:TypeId) (c:Value) (c0 c1 c2 c3 c5 c9 c10 c11 c12 c13 c14 c15 c16 c17 c18 c19 c20 c21 c22 c23 c24 c25 c26 c27 c28 c29 c30 c31 c32 c33 c34 c35 c36 c37 c38 c39 c40 c41 c42 c43 c44 c45 c46 c47 c48 c49 c50 c51 c52 c53 c54 c55 c56 c57 c58 c59 c60 c61 c62 c63 c64 c65 c66 c67 c68 c69 c70 c71 c72 c73 c74 c75 c76 c77 c78 c79 c80 c81 c82 c83 c84 c85 c86 c87 c88 c89 c90 c91 c92 c93 c94 c95 c96 c97 c98 c99 c100 c101 c102:Value) (v2:SV) (L:Array Bool):Act:={ tmps:=#[c0,c1,c2,c3,.pointer (some ⟨gr,0,none⟩),c5,.pointer (some ⟨g6,0,none⟩),.nilIface,.bool false,c9,c10,c11,c12,c13,c14,c15,c16,c17,c18,c19,c20,c21,c22,c23,c24,c25,c26,c27,c28,c29,c30,c31,c32,c33,c34,c35,c36,c37,c38,c39,c40,c41,c42,c43,c44,c45,c46,c47,c48,c49,c50,c51,c52,c53,c54,c55,c56,c57,c58,c59,c60,c61,c62,c63,c64,c65,c66,c67,c68,c69,sld c70 L 0 (.bool false),sld c71 L 1 (.bool true),sld c72 L 2 (.bool true),sld c73 L 3 (undef),sld c74 L 4 (undef),sld c75 L 5 (undef),sld c76 L 6 (undef),sld c77 L 7 (undef),sld c78 L 8 (.bool true),sld c79 L 9 (.bool true),sld c80 L 10 (undef),sld c81 L 11 (undef),sld c82 L 12 (undef),sld c83 L 13 (undef),sld c84 L 14 (.bool true),sld c85 L 15 (.bool true),sld c86 L 16 (undef),sld c87 L 17 (undef),sld c88 L 18 (undef),sld c89 L 19 (undef),sld c90 L 20 (.bool true),c91,c92,c93,c94,c95,c96,c97,c98,c99,c100,c101,c102],defers:=[] }
def Rr0W (y:World) (wx:Pl.IrI) (v2:SV) (L:Array Bool) (w:World):Prop:=Below y.heap.size y w/\True
theorem Rr0W.keep {y:World} {wx:Pl.IrI} {v2:SV} {L:Array Bool} {w:World} (h:Rr0W y wx v2 L w) {i:Nat} (hi:i<L.size) (n:i≠40) {w':World} (hB:Below w.heap.size w w'):Rr0W y wx v2 (L.setIfInBounds i true) w':=
 ⟨h.1.trans (hB.mono h.1.size),trivial⟩
set_option maxRecDepth 100000 in
theorem rr10_0 {y:World} {gr g6:Nat} {x wx:Pl.IrI} {y2:SV} {T:TypeId} {c:Value} {F1 F4:Nat} {r1 r4:Value} (hbx:y.heap[g6]?=some (.cells #[.int .i64 x.op,.int .i64 x.d,.int .i64 x.a,.int .i64 x.b,.int .i64 x.n,.string x.sym,.slice y2.a y2.len y2.cap] 81 (0,0))) (c0 c1 c2 c3 c5 c9 c10 c11 c12 c13 c14 c15 c16 c17 c18 c19 c20 c21 c22 c23 c24 c25 c26 c27 c28 c29 c30 c31 c32 c33 c34 c35 c36 c37 c38 c39 c40 c41 c42 c43 c44 c45 c46 c47 c48 c49 c50 c51 c52 c53 c54 c55 c56 c57 c58 c59 c60 c61 c62 c63 c64 c65 c66 c67 c68 c69 c70 c71 c72 c73 c74 c75 c76 c77 c78 c79 c80 c81 c82 c83 c84 c85 c86 c87 c88 c89 c90 c91 c92 c93 c94 c95 c96 c97 c98 c99 c100 c101 c102:Value) (Q:Exit->Act->World->Prop)
  (hK:∀ (s70 s71 s72 s73 s74 s75 s76 s77 s78 s79 s80 s81 s82 s83 s84 s85 s86 s87 s88 s89:Value) (y':World),Below y.heap.size y y'->Q .normal { tmps:=#[c0,c1,c2,c3,.pointer (some ⟨gr,0,none⟩),c5,.pointer (some ⟨g6,0,none⟩),.nilIface,.bool false,c9,c10,c11,c12,c13,c14,c15,c16,c17,c18,c19,c20,c21,c22,c23,c24,c25,c26,c27,c28,c29,c30,c31,c32,c33,c34,c35,c36,c37,c38,c39,c40,c41,c42,c43,c44,c45,c46,c47,c48,c49,c50,c51,c52,c53,c54,c55,c56,c57,c58,c59,c60,c61,c62,c63,c64,c65,c66,c67,c68,c69,s70,s71,s72,s73,s74,s75,s76,s77,s78,s79,s80,s81,s82,s83,s84,s85,s86,s87,s88,s89,.bool true,c91,c92,c93,c94,c95,c96,c97,c98,c99,c100,c101,c102],defers:=[] } y') :
  (rrC0 10).wp Tryz.prog Q { tmps:=#[c0,c1,c2,c3,.pointer (some ⟨gr,0,none⟩),c5,.pointer (some ⟨g6,0,none⟩),.nilIface,.bool false,c9,c10,c11,c12,c13,c14,c15,c16,c17,c18,c19,c20,c21,c22,c23,c24,c25,c26,c27,c28,c29,c30,c31,c32,c33,c34,c35,c36,c37,c38,c39,c40,c41,c42,c43,c44,c45,c46,c47,c48,c49,c50,c51,c52,c53,c54,c55,c56,c57,c58,c59,c60,c61,c62,c63,c64,c65,c66,c67,c68,c69,c70,c71,c72,c73,c74,c75,c76,c77,c78,c79,c80,c81,c82,c83,c84,c85,c86,c87,c88,c89,c90,c91,c92,c93,c94,c95,c96,c97,c98,c99,c100,c101,c102],defers:=[] } y:=by
 have HKt:Hid _:=hK
 clear hK
 conv=>arg 2;whnf
 have d0:=cell_of_row y g6 0 _ 81 (0,0) hbx
 have d1:=cell_of_row y g6 1 _ 81 (0,0) hbx
 have d2:=cell_of_row y g6 2 _ 81 (0,0) hbx
 have d3:=cell_of_row y g6 3 _ 81 (0,0) hbx
 have d4:=cell_of_row y g6 4 _ 81 (0,0) hbx
 have d5:=cell_of_row y g6 5 _ 81 (0,0) hbx
 have d6:=cell_of_row y g6 6 _ 81 (0,0) hbx
 simp only[List.getElem?_toArray,List.getElem?_cons_zero,List.getElem?_cons_succ]at d0 d1 d2 d3 d4 d5 d6
 clear hbx
 refine wp_region_any (by kernel_rfl) ?_
 change wpAny _ _ _ _ _ _ _ (World.drew _)
 refine wpAny_inw (fun L a w=>∃ v2,a=Rr0Mk gr g6 x wx y2 T c c0 c1 c2 c3 c5 c9 c10 c11 c12 c13 c14 c15 c16 c17 c18 c19 c20 c21 c22 c23 c24 c25 c26 c27 c28 c29 c30 c31 c32 c33 c34 c35 c36 c37 c38 c39 c40 c41 c42 c43 c44 c45 c46 c47 c48 c49 c50 c51 c52 c53 c54 c55 c56 c57 c58 c59 c60 c61 c62 c63 c64 c65 c66 c67 c68 c69 c70 c71 c72 c73 c74 c75 c76 c77 c78 c79 c80 c81 c82 c83 c84 c85 c86 c87 c88 c89 c90 c91 c92 c93 c94 c95 c96 c97 c98 c99 c100 c101 c102 v2 L/\Rr0W y wx v2 L w) ?done (by kernel_rfl) ?step _ 21 _ _ (by kernel_rfl) ?init (by decide)
 case init=>exact⟨⟨none,0,0⟩,by simp only[Rr0Mk,sld_no (up_init _ _)],Below.drew (Below.refl _ _),trivial⟩
 case step=>
  intro L act w i o hI hlt hs nl hC hd ho K hK
  obtain⟨v2,rfl,hW⟩:=hI
  have hi_lt:i<21:=(Array.getElem?_eq_some_iff.1 ho).1
  rcases (show i=0\/i=1\/i=2\/i=3\/i=4\/i=5\/i=6\/i=7\/i=8\/i=9\/i=10\/i=11\/i=12\/i=13\/i=14\/i=15\/i=16\/i=17\/i=18\/i=19\/i=20 by omega) with rfl | rfl | rfl | rfl | rfl | rfl | rfl | rfl | rfl | rfl | rfl | rfl | rfl | rfl | rfl | rfl | rfl | rfl | rfl | rfl | rfl
  ·change some _=some o at ho
   cases ho
   simp only[Rr0Mk]
   go_simp
   exact hK _ _ ⟨v2,by simp only[Rr0Mk,sld_set hlt,reduceIte,Nat.reduceEqDiff];try rfl,(hW.keep hlt (by decide) (Below.refl _ _))⟩
  ·change some _=some o at ho
   cases ho
   have q0:up L 0=true:=hd { on:=0,ground:=.data } (by simp) rfl
   simp only[Rr0Mk,sld_yes q0]
   go_simp
   exact hK _ _ ⟨v2,by simp only[Rr0Mk,sld_set hlt,sld_yes q0,reduceIte,Nat.reduceEqDiff];try rfl,(hW.keep hlt (by decide) (Below.refl _ _))⟩
  ·change some _=some o at ho
   cases ho
   have q1:up L 1=true:=hd { on:=1,ground:=.data } (by simp) rfl
   simp only[Rr0Mk,sld_yes q1]
   go_simp
   exact hK _ _ ⟨v2,by simp only[Rr0Mk,sld_set hlt,sld_yes q1,reduceIte,Nat.reduceEqDiff];try rfl,(hW.keep hlt (by decide) (Below.refl _ _))⟩
  ·change some _=some o at ho
   cases ho
   have q2:up L 2=true:=(hd { on:=2,ground:=.guard } (by simp) rfl)
   simp only[Rr0Mk,sld_yes q2]
   go_simp
   exact hK _ _ ⟨v2,by simp only[Rr0Mk,sld_set hlt,sld_yes q2,reduceIte,Nat.reduceEqDiff];try rfl,(hW.keep hlt (by decide) (Below.refl _ _))⟩
  ·change some _=some o at ho
   cases ho
   have q2:up L 2=true:=(hd { on:=2,ground:=.guard } (by simp) rfl)
   have q3:up L 3=true:=hd { on:=3,ground:=.data } (by simp) rfl
   simp only[Rr0Mk,sld_yes q2,sld_yes q3]
   go_simp
   exact hK _ _ ⟨v2,by simp only[Rr0Mk,sld_set hlt,sld_yes q2,sld_yes q3,reduceIte,Nat.reduceEqDiff];try rfl,(hW.keep hlt (by decide) (Below.refl _ _))⟩
  ·change some _=some o at ho
   cases ho
   have q2:up L 2=true:=(hd { on:=2,ground:=.guard } (by simp) rfl)
   simp only[Rr0Mk,sld_yes q2]
   go_simp
   exact hK _ _ ⟨v2,by simp only[Rr0Mk,sld_set hlt,sld_yes q2,reduceIte,Nat.reduceEqDiff];try rfl,(hW.keep hlt (by decide) (Below.refl _ _))⟩
  ·change some _=some o at ho
   cases ho
   have q2:up L 2=true:=(hd { on:=2,ground:=.guard } (by simp) rfl)
   have q4:up L 4=true:=hd { on:=4,ground:=.data } (by simp) rfl
   have q5:up L 5=true:=hd { on:=5,ground:=.data } (by simp) rfl
   simp only[Rr0Mk,sld_yes q2,sld_yes q4,sld_yes q5]
   go_simp
   exact hK _ _ ⟨v2,by simp only[Rr0Mk,sld_set hlt,sld_yes q2,sld_yes q4,sld_yes q5,reduceIte,Nat.reduceEqDiff];try rfl,(hW.keep hlt (by decide) (Below.refl _ _))⟩
  ·change some _=some o at ho
   cases ho
   have q2:up L 2=true:=(hd { on:=2,ground:=.guard } (by simp) rfl)
   have q6:up L 6=true:=hd { on:=6,ground:=.data } (by simp) rfl
   simp only[Rr0Mk,sld_yes q2,sld_yes q6]
   go_simp
   exact hK _ _ ⟨v2,by simp only[Rr0Mk,sld_set hlt,sld_yes q2,sld_yes q6,reduceIte,Nat.reduceEqDiff];try rfl,(hW.keep hlt (by decide) (Below.refl _ _))⟩
  ·change some _=some o at ho
   cases ho
   have q2:up L 2=true:=hd { on:=2,ground:=.data } (by simp) rfl
   have q7:up L 7=true:=hd { on:=7,ground:=.data } (by simp) rfl
   simp only[Rr0Mk,sld_yes q2,sld_yes q7]
   go_simp
   exact hK _ _ ⟨v2,by simp only[Rr0Mk,sld_set hlt,sld_yes q2,sld_yes q7,reduceIte,Nat.reduceEqDiff];try rfl,(hW.keep hlt (by decide) (Below.refl _ _))⟩
  ·change some _=some o at ho
   cases ho
   have q8:up L 8=true:=hd { on:=8,ground:=.data } (by simp) rfl
   simp only[Rr0Mk,sld_yes q8]
   go_simp
   exact hK _ _ ⟨v2,by simp only[Rr0Mk,sld_set hlt,sld_yes q8,reduceIte,Nat.reduceEqDiff];try rfl,(hW.keep hlt (by decide) (Below.refl _ _))⟩
  ·change some _=some o at ho
   cases ho
   have q9:up L 9=true:=(hd { on:=9,ground:=.guard } (by simp) rfl)
   simp only[Rr0Mk,sld_yes q9]
   go_simp
   exact hK _ _ ⟨v2,by simp only[Rr0Mk,sld_set hlt,sld_yes q9,reduceIte,Nat.reduceEqDiff];try rfl,(hW.keep hlt (by decide) (Below.refl _ _))⟩
  ·change some _=some o at ho
   cases ho
   have q9:up L 9=true:=(hd { on:=9,ground:=.guard } (by simp) rfl)
   simp only[Rr0Mk,sld_yes q9]
   go_simp
   exact hK _ _ ⟨v2,by simp only[Rr0Mk,sld_set hlt,sld_yes q9,reduceIte,Nat.reduceEqDiff];try rfl,(hW.keep hlt (by decide) (Below.refl _ _))⟩
  ·change some _=some o at ho
   cases ho
   have q9:up L 9=true:=(hd { on:=9,ground:=.guard } (by simp) rfl)
   have q10:up L 10=true:=hd { on:=10,ground:=.data } (by simp) rfl
   have q11:up L 11=true:=hd { on:=11,ground:=.data } (by simp) rfl
   simp only[Rr0Mk,sld_yes q9,sld_yes q10,sld_yes q11]
   go_simp
   exact hK _ _ ⟨v2,by simp only[Rr0Mk,sld_set hlt,sld_yes q9,sld_yes q10,sld_yes q11,reduceIte,Nat.reduceEqDiff];try rfl,(hW.keep hlt (by decide) (Below.refl _ _))⟩
  ·change some _=some o at ho
   cases ho
   have q9:up L 9=true:=(hd { on:=9,ground:=.guard } (by simp) rfl)
   have q12:up L 12=true:=hd { on:=12,ground:=.data } (by simp) rfl
   simp only[Rr0Mk,sld_yes q9,sld_yes q12]
   go_simp
   exact hK _ _ ⟨v2,by simp only[Rr0Mk,sld_set hlt,sld_yes q9,sld_yes q12,reduceIte,Nat.reduceEqDiff];try rfl,(hW.keep hlt (by decide) (Below.refl _ _))⟩
  ·change some _=some o at ho
   cases ho
   have q9:up L 9=true:=hd { on:=9,ground:=.data } (by simp) rfl
   have q13:up L 13=true:=hd { on:=13,ground:=.data } (by simp) rfl
   simp only[Rr0Mk,sld_yes q9,sld_yes q13]
   go_simp
   exact hK _ _ ⟨v2,by simp only[Rr0Mk,sld_set hlt,sld_yes q9,sld_yes q13,reduceIte,Nat.reduceEqDiff];try rfl,(hW.keep hlt (by decide) (Below.refl _ _))⟩
  ·change some _=some o at ho
   cases ho
   have q14:up L 14=true:=hd { on:=14,ground:=.data } (by simp) rfl
   simp only[Rr0Mk,sld_yes q14]
   go_simp
   exact hK _ _ ⟨v2,by simp only[Rr0Mk,sld_set hlt,sld_yes q14,reduceIte,Nat.reduceEqDiff];try rfl,(hW.keep hlt (by decide) (Below.refl _ _))⟩
  ·change some _=some o at ho
   cases ho
   have q15:up L 15=true:=(hd { on:=15,ground:=.guard } (by simp) rfl)
   simp only[Rr0Mk,sld_yes q15]
   go_simp
   exact hK _ _ ⟨v2,by simp only[Rr0Mk,sld_set hlt,sld_yes q15,reduceIte,Nat.reduceEqDiff];try rfl,(hW.keep hlt (by decide) (Below.refl _ _))⟩
  ·change some _=some o at ho
   cases ho
   have q15:up L 15=true:=(hd { on:=15,ground:=.guard } (by simp) rfl)
   simp only[Rr0Mk,sld_yes q15]
   go_simp
   exact hK _ _ ⟨v2,by simp only[Rr0Mk,sld_set hlt,sld_yes q15,reduceIte,Nat.reduceEqDiff];try rfl,(hW.keep hlt (by decide) (Below.refl _ _))⟩
  ·change some _=some o at ho
   cases ho
   have q15:up L 15=true:=(hd { on:=15,ground:=.guard } (by simp) rfl)
   have q16:up L 16=true:=hd { on:=16,ground:=.data } (by simp) rfl
   have q17:up L 17=true:=hd { on:=17,ground:=.data } (by simp) rfl
   simp only[Rr0Mk,sld_yes q15,sld_yes q16,sld_yes q17]
   go_simp
   exact hK _ _ ⟨v2,by simp only[Rr0Mk,sld_set hlt,sld_yes q15,sld_yes q16,sld_yes q17,reduceIte,Nat.reduceEqDiff];try rfl,(hW.keep hlt (by decide) (Below.refl _ _))⟩
  ·change some _=some o at ho
   cases ho
   have q15:up L 15=true:=(hd { on:=15,ground:=.guard } (by simp) rfl)
   have q18:up L 18=true:=hd { on:=18,ground:=.data } (by simp) rfl
   simp only[Rr0Mk,sld_yes q15,sld_yes q18]
   go_simp
   exact hK _ _ ⟨v2,by simp only[Rr0Mk,sld_set hlt,sld_yes q15,sld_yes q18,reduceIte,Nat.reduceEqDiff];try rfl,(hW.keep hlt (by decide) (Below.refl _ _))⟩
  ·change some _=some o at ho
   cases ho
   have q15:up L 15=true:=hd { on:=15,ground:=.data } (by simp) rfl
   have q19:up L 19=true:=hd { on:=19,ground:=.data } (by simp) rfl
   simp only[Rr0Mk,sld_yes q15,sld_yes q19]
   go_simp
   exact hK _ _ ⟨v2,by simp only[Rr0Mk,sld_set hlt,sld_yes q15,sld_yes q19,reduceIte,Nat.reduceEqDiff];try rfl,(hW.keep hlt (by decide) (Below.refl _ _))⟩
 case done=>
  rintro L a w ⟨v2,rfl,hW⟩ hall
  simp only[Rr0Mk,sld_yes (hall 0 (by decide)),sld_yes (hall 1 (by decide)),sld_yes (hall 2 (by decide)),sld_yes (hall 3 (by decide)),sld_yes (hall 4 (by decide)),sld_yes (hall 5 (by decide)),sld_yes (hall 6 (by decide)),sld_yes (hall 7 (by decide)),sld_yes (hall 8 (by decide)),sld_yes (hall 9 (by decide)),sld_yes (hall 10 (by decide)),sld_yes (hall 11 (by decide)),sld_yes (hall 12 (by decide)),sld_yes (hall 13 (by decide)),sld_yes (hall 14 (by decide)),sld_yes (hall 15 (by decide)),sld_yes (hall 16 (by decide)),sld_yes (hall 17 (by decide)),sld_yes (hall 18 (by decide)),sld_yes (hall 19 (by decide)),sld_yes (hall 20 (by decide))]
  exact HKt.out _ _ _ _ _ _ _ _ _ _ _ _ _ _ _ _ _ _ _ _ w hW.1
noncomputable def rrC1 (n:Nat):Code:=((Tryz.f32.body.bind (codeAtR n)).getD .skip)
def Rr1Mk (gr g6:Nat) (x wx:Pl.IrI) (y2:SV) (T:TypeId) (c:Value) (c0 c1 c2 c3 c5 c9 c10 c11 c12 c13 c14 c15 c16 c17 c18 c19 c20 c21 c22 c23 c24 c25 c26 c27 c28 c29 c30 c31 c32 c33 c34 c35 c36 c37 c38 c39 c40 c41 c42 c43 c44 c45 c46 c47 c48 c49 c50 c51 c52 c53 c54 c55 c56 c57 c58 c59 c60 c61 c62 c63 c64 c65 c66 c67 c68 c69 c70 c71 c72 c73 c74 c75 c76 c77 c78 c79 c80 c81 c82 c83 c84 c85 c86 c87 c88 c89 c90 c91 c92 c93 c94 c95 c96 c97 c98 c99 c100 c101 c102:Value) (v2:SV) (L:Array Bool):Act:={ tmps:=#[c0,c1,c2,c3,.pointer (some ⟨gr,0,none⟩),c5,.pointer (some ⟨g6,0,none⟩),.iface T c,.bool true,c9,c10,c11,c12,c13,c14,c15,c16,c17,c18,c19,c20,c21,c22,c23,c24,c25,c26,c27,c28,c29,c30,c31,c32,c33,c34,c35,c36,c37,c38,c39,c40,c41,c42,c43,c44,c45,c46,c47,c48,c49,c50,c51,c52,c53,c54,c55,c56,c57,c58,c59,c60,c61,c62,c63,c64,c65,c66,c67,c68,c69,sld c70 L 0 (.bool true),sld c71 L 1 (.bool false),sld c72 L 2 (.bool false),sld c73 L 3 (.iface T c),sld c74 L 4 (.agg #[.int .i64 wx.op,.int .i64 wx.d,.int .i64 wx.a,.int .i64 wx.b,.int .i64 wx.n,.string wx.sym,.slice v2.a v2.len v2.cap]),sld c75 L 5 (.agg #[.int .i64 x.op,.int .i64 x.d,.int .i64 x.a,.int .i64 x.b,.int .i64 x.n,.string x.sym,.slice y2.a y2.len y2.cap]),sld c76 L 6 (.bool false),sld c77 L 7 (.bool true),sld c78 L 8 (.bool true),sld c79 L 9 (.bool true),sld c80 L 10 (undef),sld c81 L 11 (undef),sld c82 L 12 (undef),sld c83 L 13 (undef),sld c84 L 14 (.bool true),sld c85 L 15 (.bool true),sld c86 L 16 (undef),sld c87 L 17 (undef),sld c88 L 18 (undef),sld c89 L 19 (undef),sld c90 L 20 (.bool true),c91,c92,c93,c94,c95,c96,c97,c98,c99,c100,c101,c102],defers:=[] }
def Rr1W (y:World) (wx:Pl.IrI) (v2:SV) (L:Array Bool) (w:World):Prop:=Below y.heap.size y w/\(up L 4=true->Row .i64 0 w v2.a v2.len v2.cap wx.args)
theorem Rr1W.keep {y:World} {wx:Pl.IrI} {v2:SV} {L:Array Bool} {w:World} (h:Rr1W y wx v2 L w) {i:Nat} (hi:i<L.size) (n:i≠4) {w':World} (hB:Below w.heap.size w w'):Rr1W y wx v2 (L.setIfInBounds i true) w':=
 ⟨h.1.trans (hB.mono h.1.size),fun q=>by rw[up_set hi,if_neg n]at q;exact (h.2 q).keep hB⟩
set_option maxRecDepth 100000 in
theorem rr10_1 {y:World} {gr g6:Nat} {x wx:Pl.IrI} {y2:SV} {T:TypeId} {c:Value} {F1 F4:Nat} {r1 r4:Value} (hbx:y.heap[g6]?=some (.cells #[.int .i64 x.op,.int .i64 x.d,.int .i64 x.a,.int .i64 x.b,.int .i64 x.n,.string x.sym,.slice y2.a y2.len y2.cap] 81 (0,0))) (hm1:∀ u:World,(method 365 T c "loop.example/s01681/impl.written").run Tryz.prog u=.ok (F1,r1) u) (hf1:∀ (vs:Array Value) (u:World),(callFunc F1 vs).run Tryz.prog u=.ok (.enter F1 vs) u) (hWR:∀ u:World,Below y.heap.size y u->Calls Tryz.prog F1 #[r1] u fun e u'=>∃ v2:SV,e=.returned (.agg #[.int .i64 wx.op,.int .i64 wx.d,.int .i64 wx.a,.int .i64 wx.b,.int .i64 wx.n,.string wx.sym,.slice v2.a v2.len v2.cap])/\Row .i64 0 u' v2.a v2.len v2.cap wx.args/\Below u.heap.size u u') (hSM:∀ (u:World) (v2:SV),Below y.heap.size y u->Row .i64 0 u v2.a v2.len v2.cap wx.args->Calls Tryz.prog 59 #[.agg #[.int .i64 wx.op,.int .i64 wx.d,.int .i64 wx.a,.int .i64 wx.b,.int .i64 wx.n,.string wx.sym,.slice v2.a v2.len v2.cap],.agg #[.int .i64 x.op,.int .i64 x.d,.int .i64 x.a,.int .i64 x.b,.int .i64 x.n,.string x.sym,.slice y2.a y2.len y2.cap]] u fun e u'=>e=.returned (.bool false)/\Below u.heap.size u u') (c0 c1 c2 c3 c5 c9 c10 c11 c12 c13 c14 c15 c16 c17 c18 c19 c20 c21 c22 c23 c24 c25 c26 c27 c28 c29 c30 c31 c32 c33 c34 c35 c36 c37 c38 c39 c40 c41 c42 c43 c44 c45 c46 c47 c48 c49 c50 c51 c52 c53 c54 c55 c56 c57 c58 c59 c60 c61 c62 c63 c64 c65 c66 c67 c68 c69 c70 c71 c72 c73 c74 c75 c76 c77 c78 c79 c80 c81 c82 c83 c84 c85 c86 c87 c88 c89 c90 c91 c92 c93 c94 c95 c96 c97 c98 c99 c100 c101 c102:Value) (Q:Exit->Act->World->Prop)
  (hK:∀ (s70 s71 s72 s73 s74 s75 s76 s77 s78 s79 s80 s81 s82 s83 s84 s85 s86 s87 s88 s89:Value) (y':World),Below y.heap.size y y'->Q .normal { tmps:=#[c0,c1,c2,c3,.pointer (some ⟨gr,0,none⟩),c5,.pointer (some ⟨g6,0,none⟩),.iface T c,.bool true,c9,c10,c11,c12,c13,c14,c15,c16,c17,c18,c19,c20,c21,c22,c23,c24,c25,c26,c27,c28,c29,c30,c31,c32,c33,c34,c35,c36,c37,c38,c39,c40,c41,c42,c43,c44,c45,c46,c47,c48,c49,c50,c51,c52,c53,c54,c55,c56,c57,c58,c59,c60,c61,c62,c63,c64,c65,c66,c67,c68,c69,s70,s71,s72,s73,s74,s75,s76,s77,s78,s79,s80,s81,s82,s83,s84,s85,s86,s87,s88,s89,.bool true,c91,c92,c93,c94,c95,c96,c97,c98,c99,c100,c101,c102],defers:=[] } y') :
  (rrC1 10).wp Tryz.prog Q { tmps:=#[c0,c1,c2,c3,.pointer (some ⟨gr,0,none⟩),c5,.pointer (some ⟨g6,0,none⟩),.iface T c,.bool true,c9,c10,c11,c12,c13,c14,c15,c16,c17,c18,c19,c20,c21,c22,c23,c24,c25,c26,c27,c28,c29,c30,c31,c32,c33,c34,c35,c36,c37,c38,c39,c40,c41,c42,c43,c44,c45,c46,c47,c48,c49,c50,c51,c52,c53,c54,c55,c56,c57,c58,c59,c60,c61,c62,c63,c64,c65,c66,c67,c68,c69,c70,c71,c72,c73,c74,c75,c76,c77,c78,c79,c80,c81,c82,c83,c84,c85,c86,c87,c88,c89,c90,c91,c92,c93,c94,c95,c96,c97,c98,c99,c100,c101,c102],defers:=[] } y:=by
 have HKt:Hid _:=hK
 clear hK
 have HWR:Hid _:=hWR
 have HSM:Hid _:=hSM
 clear hWR hSM
 conv=>arg 2;whnf
 have d0:=cell_of_row y g6 0 _ 81 (0,0) hbx
 have d1:=cell_of_row y g6 1 _ 81 (0,0) hbx
 have d2:=cell_of_row y g6 2 _ 81 (0,0) hbx
 have d3:=cell_of_row y g6 3 _ 81 (0,0) hbx
 have d4:=cell_of_row y g6 4 _ 81 (0,0) hbx
 have d5:=cell_of_row y g6 5 _ 81 (0,0) hbx
 have d6:=cell_of_row y g6 6 _ 81 (0,0) hbx
 simp only[List.getElem?_toArray,List.getElem?_cons_zero,List.getElem?_cons_succ]at d0 d1 d2 d3 d4 d5 d6
 clear hbx
 refine wp_region_any (by kernel_rfl) ?_
 change wpAny _ _ _ _ _ _ _ (World.drew _)
 refine wpAny_inw (fun L a w=>∃ v2,a=Rr1Mk gr g6 x wx y2 T c c0 c1 c2 c3 c5 c9 c10 c11 c12 c13 c14 c15 c16 c17 c18 c19 c20 c21 c22 c23 c24 c25 c26 c27 c28 c29 c30 c31 c32 c33 c34 c35 c36 c37 c38 c39 c40 c41 c42 c43 c44 c45 c46 c47 c48 c49 c50 c51 c52 c53 c54 c55 c56 c57 c58 c59 c60 c61 c62 c63 c64 c65 c66 c67 c68 c69 c70 c71 c72 c73 c74 c75 c76 c77 c78 c79 c80 c81 c82 c83 c84 c85 c86 c87 c88 c89 c90 c91 c92 c93 c94 c95 c96 c97 c98 c99 c100 c101 c102 v2 L/\Rr1W y wx v2 L w) ?done (by kernel_rfl) ?step _ 21 _ _ (by kernel_rfl) ?init (by decide)
 case init=>exact⟨⟨none,0,0⟩,by simp only[Rr1Mk,sld_no (up_init _ _)],Below.drew (Below.refl _ _),fun q=>absurd (q.symm.trans (up_init _ _)) (by decide)⟩
 case step=>
  intro L act w i o hI hlt hs nl hC hd ho K hK
  obtain⟨v2,rfl,hW⟩:=hI
  have hi_lt:i<21:=(Array.getElem?_eq_some_iff.1 ho).1
  rcases (show i=0\/i=1\/i=2\/i=3\/i=4\/i=5\/i=6\/i=7\/i=8\/i=9\/i=10\/i=11\/i=12\/i=13\/i=14\/i=15\/i=16\/i=17\/i=18\/i=19\/i=20 by omega) with rfl | rfl | rfl | rfl | rfl | rfl | rfl | rfl | rfl | rfl | rfl | rfl | rfl | rfl | rfl | rfl | rfl | rfl | rfl | rfl | rfl
  ·change some _=some o at ho
   cases ho
   simp only[Rr1Mk]
   go_simp
   exact hK _ _ ⟨v2,by simp only[Rr1Mk,sld_set hlt,reduceIte,Nat.reduceEqDiff];try rfl,(hW.keep hlt (by decide) (Below.refl _ _))⟩
  ·change some _=some o at ho
   cases ho
   have q0:up L 0=true:=hd { on:=0,ground:=.data } (by simp) rfl
   simp only[Rr1Mk,sld_yes q0]
   go_simp
   exact hK _ _ ⟨v2,by simp only[Rr1Mk,sld_set hlt,sld_yes q0,reduceIte,Nat.reduceEqDiff];try rfl,(hW.keep hlt (by decide) (Below.refl _ _))⟩
  ·change some _=some o at ho
   cases ho
   have q1:up L 1=true:=hd { on:=1,ground:=.data } (by simp) rfl
   simp only[Rr1Mk,sld_yes q1]
   go_simp
   exact hK _ _ ⟨v2,by simp only[Rr1Mk,sld_set hlt,sld_yes q1,reduceIte,Nat.reduceEqDiff];try rfl,(hW.keep hlt (by decide) (Below.refl _ _))⟩
  ·change some _=some o at ho
   cases ho
   have q2:up L 2=true:=(hd { on:=2,ground:=.guard } (by simp) rfl)
   simp only[Rr1Mk,sld_yes q2]
   go_simp
   exact hK _ _ ⟨v2,by simp only[Rr1Mk,sld_set hlt,sld_yes q2,reduceIte,Nat.reduceEqDiff];try rfl,(hW.keep hlt (by decide) (Below.refl _ _))⟩
  ·change some _=some o at ho
   cases ho
   have q2:up L 2=true:=(hd { on:=2,ground:=.guard } (by simp) rfl)
   have q3:up L 3=true:=hd { on:=3,ground:=.data } (by simp) rfl
   have n6:up L 6=false:=hC.no nl 6 rfl (by kernel_rfl)
   simp only[Rr1Mk,sld_yes q2,sld_yes q3]
   go_simp
   refine (HWR.out w hW.1).mono ?_
   rintro e z ⟨v2',rfl,oz,dz⟩
   go_simp
   exact hK _ _ ⟨v2',by simp only[Rr1Mk,sld_set hlt,sld_yes q2,sld_yes q3,reduceIte,Nat.reduceEqDiff];try rfl,⟨hW.1.trans (dz.mono hW.1.size),fun _=>oz⟩⟩
  ·change some _=some o at ho
   cases ho
   have q2:up L 2=true:=(hd { on:=2,ground:=.guard } (by simp) rfl)
   have k0:=below_cell hW.1 d0
   have k1:=below_cell hW.1 d1
   have k2:=below_cell hW.1 d2
   have k3:=below_cell hW.1 d3
   have k4:=below_cell hW.1 d4
   have k5:=below_cell hW.1 d5
   have k6:=below_cell hW.1 d6
   simp only[Rr1Mk,sld_yes q2]
   go_simp
   exact hK _ _ ⟨v2,by simp only[Rr1Mk,sld_set hlt,sld_yes q2,reduceIte,Nat.reduceEqDiff];try rfl,(hW.keep hlt (by decide) (Below.refl _ _))⟩
  ·change some _=some o at ho
   cases ho
   have q2:up L 2=true:=(hd { on:=2,ground:=.guard } (by simp) rfl)
   have q4:up L 4=true:=hd { on:=4,ground:=.data } (by simp) rfl
   have q5:up L 5=true:=hd { on:=5,ground:=.data } (by simp) rfl
   simp only[Rr1Mk,sld_yes q2,sld_yes q4,sld_yes q5]
   go_simp
   refine (HSM.out w v2 hW.1 (hW.2 q4)).mono ?_
   rintro e z ⟨rfl,dz⟩
   go_simp
   exact hK _ _ ⟨v2,by simp only[Rr1Mk,sld_set hlt,sld_yes q2,sld_yes q4,sld_yes q5,reduceIte,Nat.reduceEqDiff];try rfl,(hW.keep hlt (by decide) dz)⟩
  ·change some _=some o at ho
   cases ho
   have q2:up L 2=true:=(hd { on:=2,ground:=.guard } (by simp) rfl)
   have q6:up L 6=true:=hd { on:=6,ground:=.data } (by simp) rfl
   simp only[Rr1Mk,sld_yes q2,sld_yes q6]
   go_simp
   exact hK _ _ ⟨v2,by simp only[Rr1Mk,sld_set hlt,sld_yes q2,sld_yes q6,reduceIte,Nat.reduceEqDiff];try rfl,(hW.keep hlt (by decide) (Below.refl _ _))⟩
  ·change some _=some o at ho
   cases ho
   have q2:up L 2=true:=hd { on:=2,ground:=.data } (by simp) rfl
   have q7:up L 7=true:=hd { on:=7,ground:=.data } (by simp) rfl
   simp only[Rr1Mk,sld_yes q2,sld_yes q7]
   go_simp
   exact hK _ _ ⟨v2,by simp only[Rr1Mk,sld_set hlt,sld_yes q2,sld_yes q7,reduceIte,Nat.reduceEqDiff];try rfl,(hW.keep hlt (by decide) (Below.refl _ _))⟩
  ·change some _=some o at ho
   cases ho
   have q8:up L 8=true:=hd { on:=8,ground:=.data } (by simp) rfl
   simp only[Rr1Mk,sld_yes q8]
   go_simp
   exact hK _ _ ⟨v2,by simp only[Rr1Mk,sld_set hlt,sld_yes q8,reduceIte,Nat.reduceEqDiff];try rfl,(hW.keep hlt (by decide) (Below.refl _ _))⟩
  ·change some _=some o at ho
   cases ho
   have q9:up L 9=true:=(hd { on:=9,ground:=.guard } (by simp) rfl)
   simp only[Rr1Mk,sld_yes q9]
   go_simp
   exact hK _ _ ⟨v2,by simp only[Rr1Mk,sld_set hlt,sld_yes q9,reduceIte,Nat.reduceEqDiff];try rfl,(hW.keep hlt (by decide) (Below.refl _ _))⟩
  ·change some _=some o at ho
   cases ho
   have q9:up L 9=true:=(hd { on:=9,ground:=.guard } (by simp) rfl)
   simp only[Rr1Mk,sld_yes q9]
   go_simp
   exact hK _ _ ⟨v2,by simp only[Rr1Mk,sld_set hlt,sld_yes q9,reduceIte,Nat.reduceEqDiff];try rfl,(hW.keep hlt (by decide) (Below.refl _ _))⟩
  ·change some _=some o at ho
   cases ho
   have q9:up L 9=true:=(hd { on:=9,ground:=.guard } (by simp) rfl)
   have q10:up L 10=true:=hd { on:=10,ground:=.data } (by simp) rfl
   have q11:up L 11=true:=hd { on:=11,ground:=.data } (by simp) rfl
   simp only[Rr1Mk,sld_yes q9,sld_yes q10,sld_yes q11]
   go_simp
   exact hK _ _ ⟨v2,by simp only[Rr1Mk,sld_set hlt,sld_yes q9,sld_yes q10,sld_yes q11,reduceIte,Nat.reduceEqDiff];try rfl,(hW.keep hlt (by decide) (Below.refl _ _))⟩
  ·change some _=some o at ho
   cases ho
   have q9:up L 9=true:=(hd { on:=9,ground:=.guard } (by simp) rfl)
   have q12:up L 12=true:=hd { on:=12,ground:=.data } (by simp) rfl
   simp only[Rr1Mk,sld_yes q9,sld_yes q12]
   go_simp
   exact hK _ _ ⟨v2,by simp only[Rr1Mk,sld_set hlt,sld_yes q9,sld_yes q12,reduceIte,Nat.reduceEqDiff];try rfl,(hW.keep hlt (by decide) (Below.refl _ _))⟩
  ·change some _=some o at ho
   cases ho
   have q9:up L 9=true:=hd { on:=9,ground:=.data } (by simp) rfl
   have q13:up L 13=true:=hd { on:=13,ground:=.data } (by simp) rfl
   simp only[Rr1Mk,sld_yes q9,sld_yes q13]
   go_simp
   exact hK _ _ ⟨v2,by simp only[Rr1Mk,sld_set hlt,sld_yes q9,sld_yes q13,reduceIte,Nat.reduceEqDiff];try rfl,(hW.keep hlt (by decide) (Below.refl _ _))⟩
  ·change some _=some o at ho
   cases ho
   have q14:up L 14=true:=hd { on:=14,ground:=.data } (by simp) rfl
   simp only[Rr1Mk,sld_yes q14]
   go_simp
   exact hK _ _ ⟨v2,by simp only[Rr1Mk,sld_set hlt,sld_yes q14,reduceIte,Nat.reduceEqDiff];try rfl,(hW.keep hlt (by decide) (Below.refl _ _))⟩
  ·change some _=some o at ho
   cases ho
   have q15:up L 15=true:=(hd { on:=15,ground:=.guard } (by simp) rfl)
   simp only[Rr1Mk,sld_yes q15]
   go_simp
   exact hK _ _ ⟨v2,by simp only[Rr1Mk,sld_set hlt,sld_yes q15,reduceIte,Nat.reduceEqDiff];try rfl,(hW.keep hlt (by decide) (Below.refl _ _))⟩
  ·change some _=some o at ho
   cases ho
   have q15:up L 15=true:=(hd { on:=15,ground:=.guard } (by simp) rfl)
   simp only[Rr1Mk,sld_yes q15]
   go_simp
   exact hK _ _ ⟨v2,by simp only[Rr1Mk,sld_set hlt,sld_yes q15,reduceIte,Nat.reduceEqDiff];try rfl,(hW.keep hlt (by decide) (Below.refl _ _))⟩
  ·change some _=some o at ho
   cases ho
   have q15:up L 15=true:=(hd { on:=15,ground:=.guard } (by simp) rfl)
   have q16:up L 16=true:=hd { on:=16,ground:=.data } (by simp) rfl
   have q17:up L 17=true:=hd { on:=17,ground:=.data } (by simp) rfl
   simp only[Rr1Mk,sld_yes q15,sld_yes q16,sld_yes q17]
   go_simp
   exact hK _ _ ⟨v2,by simp only[Rr1Mk,sld_set hlt,sld_yes q15,sld_yes q16,sld_yes q17,reduceIte,Nat.reduceEqDiff];try rfl,(hW.keep hlt (by decide) (Below.refl _ _))⟩
  ·change some _=some o at ho
   cases ho
   have q15:up L 15=true:=(hd { on:=15,ground:=.guard } (by simp) rfl)
   have q18:up L 18=true:=hd { on:=18,ground:=.data } (by simp) rfl
   simp only[Rr1Mk,sld_yes q15,sld_yes q18]
   go_simp
   exact hK _ _ ⟨v2,by simp only[Rr1Mk,sld_set hlt,sld_yes q15,sld_yes q18,reduceIte,Nat.reduceEqDiff];try rfl,(hW.keep hlt (by decide) (Below.refl _ _))⟩
  ·change some _=some o at ho
   cases ho
   have q15:up L 15=true:=hd { on:=15,ground:=.data } (by simp) rfl
   have q19:up L 19=true:=hd { on:=19,ground:=.data } (by simp) rfl
   simp only[Rr1Mk,sld_yes q15,sld_yes q19]
   go_simp
   exact hK _ _ ⟨v2,by simp only[Rr1Mk,sld_set hlt,sld_yes q15,sld_yes q19,reduceIte,Nat.reduceEqDiff];try rfl,(hW.keep hlt (by decide) (Below.refl _ _))⟩
 case done=>
  rintro L a w ⟨v2,rfl,hW⟩ hall
  simp only[Rr1Mk,sld_yes (hall 0 (by decide)),sld_yes (hall 1 (by decide)),sld_yes (hall 2 (by decide)),sld_yes (hall 3 (by decide)),sld_yes (hall 4 (by decide)),sld_yes (hall 5 (by decide)),sld_yes (hall 6 (by decide)),sld_yes (hall 7 (by decide)),sld_yes (hall 8 (by decide)),sld_yes (hall 9 (by decide)),sld_yes (hall 10 (by decide)),sld_yes (hall 11 (by decide)),sld_yes (hall 12 (by decide)),sld_yes (hall 13 (by decide)),sld_yes (hall 14 (by decide)),sld_yes (hall 15 (by decide)),sld_yes (hall 16 (by decide)),sld_yes (hall 17 (by decide)),sld_yes (hall 18 (by decide)),sld_yes (hall 19 (by decide)),sld_yes (hall 20 (by decide))]
  exact HKt.out _ _ _ _ _ _ _ _ _ _ _ _ _ _ _ _ _ _ _ _ w hW.1
noncomputable def rrC2 (n:Nat):Code:=((Tryz.f32.body.bind (codeAtR n)).getD .skip)
def Rr2Mk (gr g6:Nat) (x wx:Pl.IrI) (y2:SV) (T:TypeId) (c:Value) (c0 c1 c2 c3 c5 c9 c10 c11 c12 c13 c14 c15 c16 c17 c18 c19 c20 c21 c22 c23 c24 c25 c26 c27 c28 c29 c30 c31 c32 c33 c34 c35 c36 c37 c38 c39 c40 c41 c42 c43 c44 c45 c46 c47 c48 c49 c50 c51 c52 c53 c54 c55 c56 c57 c58 c59 c60 c61 c62 c63 c64 c65 c66 c67 c68 c69 c70 c71 c72 c73 c74 c75 c76 c77 c78 c79 c80 c81 c82 c83 c84 c85 c86 c87 c88 c89 c90 c91 c92 c93 c94 c95 c96 c97 c98 c99 c100 c101 c102:Value) (v2:SV) (L:Array Bool):Act:={ tmps:=#[c0,c1,c2,c3,.pointer (some ⟨gr,0,none⟩),c5,.pointer (some ⟨g6,0,none⟩),.iface T c,.bool true,c9,c10,c11,c12,c13,c14,c15,c16,c17,c18,c19,c20,c21,c22,c23,c24,c25,c26,c27,c28,c29,c30,c31,c32,c33,c34,c35,c36,c37,c38,c39,c40,c41,c42,c43,c44,c45,c46,c47,c48,c49,c50,c51,c52,c53,c54,c55,c56,c57,c58,c59,c60,c61,c62,c63,c64,c65,c66,c67,c68,c69,sld c70 L 0 (.bool true),sld c71 L 1 (.bool false),sld c72 L 2 (.bool false),sld c73 L 3 (.iface T c),sld c74 L 4 (.agg #[.int .i64 wx.op,.int .i64 wx.d,.int .i64 wx.a,.int .i64 wx.b,.int .i64 wx.n,.string wx.sym,.slice v2.a v2.len v2.cap]),sld c75 L 5 (.agg #[.int .i64 x.op,.int .i64 x.d,.int .i64 x.a,.int .i64 x.b,.int .i64 x.n,.string x.sym,.slice y2.a y2.len y2.cap]),sld c76 L 6 (.bool true),sld c77 L 7 (.bool false),sld c78 L 8 (.bool false),sld c79 L 9 (.bool false),sld c80 L 10 (.pointer (some ⟨gr,0,none⟩)),sld c81 L 11 (.iface T c),sld c82 L 12 (.bool false),sld c83 L 13 (.bool true),sld c84 L 14 (.bool true),sld c85 L 15 (.bool true),sld c86 L 16 (undef),sld c87 L 17 (undef),sld c88 L 18 (undef),sld c89 L 19 (undef),sld c90 L 20 (.bool true),c91,c92,c93,c94,c95,c96,c97,c98,c99,c100,c101,c102],defers:=[] }
def Rr2W (y:World) (wx:Pl.IrI) (v2:SV) (L:Array Bool) (w:World):Prop:=Below y.heap.size y w/\(up L 4=true->Row .i64 0 w v2.a v2.len v2.cap wx.args)
theorem Rr2W.keep {y:World} {wx:Pl.IrI} {v2:SV} {L:Array Bool} {w:World} (h:Rr2W y wx v2 L w) {i:Nat} (hi:i<L.size) (n:i≠4) {w':World} (hB:Below w.heap.size w w'):Rr2W y wx v2 (L.setIfInBounds i true) w':=
 ⟨h.1.trans (hB.mono h.1.size),fun q=>by rw[up_set hi,if_neg n]at q;exact (h.2 q).keep hB⟩
set_option maxRecDepth 100000 in
theorem rr10_2 {y:World} {gr g6:Nat} {x wx:Pl.IrI} {y2:SV} {T:TypeId} {c:Value} {F1 F4:Nat} {r1 r4:Value} (hbx:y.heap[g6]?=some (.cells #[.int .i64 x.op,.int .i64 x.d,.int .i64 x.a,.int .i64 x.b,.int .i64 x.n,.string x.sym,.slice y2.a y2.len y2.cap] 81 (0,0))) (hm1:∀ u:World,(method 365 T c "loop.example/s01681/impl.written").run Tryz.prog u=.ok (F1,r1) u) (hf1:∀ (vs:Array Value) (u:World),(callFunc F1 vs).run Tryz.prog u=.ok (.enter F1 vs) u) (hWR:∀ u:World,Below y.heap.size y u->Calls Tryz.prog F1 #[r1] u fun e u'=>∃ v2:SV,e=.returned (.agg #[.int .i64 wx.op,.int .i64 wx.d,.int .i64 wx.a,.int .i64 wx.b,.int .i64 wx.n,.string wx.sym,.slice v2.a v2.len v2.cap])/\Row .i64 0 u' v2.a v2.len v2.cap wx.args/\Below u.heap.size u u') (hSM:∀ (u:World) (v2:SV),Below y.heap.size y u->Row .i64 0 u v2.a v2.len v2.cap wx.args->Calls Tryz.prog 59 #[.agg #[.int .i64 wx.op,.int .i64 wx.d,.int .i64 wx.a,.int .i64 wx.b,.int .i64 wx.n,.string wx.sym,.slice v2.a v2.len v2.cap],.agg #[.int .i64 x.op,.int .i64 x.d,.int .i64 x.a,.int .i64 x.b,.int .i64 x.n,.string x.sym,.slice y2.a y2.len y2.cap]] u fun e u'=>e=.returned (.bool true)/\Below u.heap.size u u') (hRG:∀ u:World,Below y.heap.size y u->Calls Tryz.prog 60 #[.pointer (some ⟨gr,0,none⟩),.iface T c] u fun e u'=>e=.returned (.bool false)/\Below u.heap.size u u') (c0 c1 c2 c3 c5 c9 c10 c11 c12 c13 c14 c15 c16 c17 c18 c19 c20 c21 c22 c23 c24 c25 c26 c27 c28 c29 c30 c31 c32 c33 c34 c35 c36 c37 c38 c39 c40 c41 c42 c43 c44 c45 c46 c47 c48 c49 c50 c51 c52 c53 c54 c55 c56 c57 c58 c59 c60 c61 c62 c63 c64 c65 c66 c67 c68 c69 c70 c71 c72 c73 c74 c75 c76 c77 c78 c79 c80 c81 c82 c83 c84 c85 c86 c87 c88 c89 c90 c91 c92 c93 c94 c95 c96 c97 c98 c99 c100 c101 c102:Value) (Q:Exit->Act->World->Prop)
  (hK:∀ (s70 s71 s72 s73 s74 s75 s76 s77 s78 s79 s80 s81 s82 s83 s84 s85 s86 s87 s88 s89:Value) (y':World),Below y.heap.size y y'->Q .normal { tmps:=#[c0,c1,c2,c3,.pointer (some ⟨gr,0,none⟩),c5,.pointer (some ⟨g6,0,none⟩),.iface T c,.bool true,c9,c10,c11,c12,c13,c14,c15,c16,c17,c18,c19,c20,c21,c22,c23,c24,c25,c26,c27,c28,c29,c30,c31,c32,c33,c34,c35,c36,c37,c38,c39,c40,c41,c42,c43,c44,c45,c46,c47,c48,c49,c50,c51,c52,c53,c54,c55,c56,c57,c58,c59,c60,c61,c62,c63,c64,c65,c66,c67,c68,c69,s70,s71,s72,s73,s74,s75,s76,s77,s78,s79,s80,s81,s82,s83,s84,s85,s86,s87,s88,s89,.bool true,c91,c92,c93,c94,c95,c96,c97,c98,c99,c100,c101,c102],defers:=[] } y') :
  (rrC2 10).wp Tryz.prog Q { tmps:=#[c0,c1,c2,c3,.pointer (some ⟨gr,0,none⟩),c5,.pointer (some ⟨g6,0,none⟩),.iface T c,.bool true,c9,c10,c11,c12,c13,c14,c15,c16,c17,c18,c19,c20,c21,c22,c23,c24,c25,c26,c27,c28,c29,c30,c31,c32,c33,c34,c35,c36,c37,c38,c39,c40,c41,c42,c43,c44,c45,c46,c47,c48,c49,c50,c51,c52,c53,c54,c55,c56,c57,c58,c59,c60,c61,c62,c63,c64,c65,c66,c67,c68,c69,c70,c71,c72,c73,c74,c75,c76,c77,c78,c79,c80,c81,c82,c83,c84,c85,c86,c87,c88,c89,c90,c91,c92,c93,c94,c95,c96,c97,c98,c99,c100,c101,c102],defers:=[] } y:=by
 have HKt:Hid _:=hK
 clear hK
 have HWR:Hid _:=hWR
 have HSM:Hid _:=hSM
 clear hWR hSM
 have HRG:Hid _:=hRG
 clear hRG
 conv=>arg 2;whnf
 have d0:=cell_of_row y g6 0 _ 81 (0,0) hbx
 have d1:=cell_of_row y g6 1 _ 81 (0,0) hbx
 have d2:=cell_of_row y g6 2 _ 81 (0,0) hbx
 have d3:=cell_of_row y g6 3 _ 81 (0,0) hbx
 have d4:=cell_of_row y g6 4 _ 81 (0,0) hbx
 have d5:=cell_of_row y g6 5 _ 81 (0,0) hbx
 have d6:=cell_of_row y g6 6 _ 81 (0,0) hbx
 simp only[List.getElem?_toArray,List.getElem?_cons_zero,List.getElem?_cons_succ]at d0 d1 d2 d3 d4 d5 d6
 clear hbx
 refine wp_region_any (by kernel_rfl) ?_
 change wpAny _ _ _ _ _ _ _ (World.drew _)
 refine wpAny_inw (fun L a w=>∃ v2,a=Rr2Mk gr g6 x wx y2 T c c0 c1 c2 c3 c5 c9 c10 c11 c12 c13 c14 c15 c16 c17 c18 c19 c20 c21 c22 c23 c24 c25 c26 c27 c28 c29 c30 c31 c32 c33 c34 c35 c36 c37 c38 c39 c40 c41 c42 c43 c44 c45 c46 c47 c48 c49 c50 c51 c52 c53 c54 c55 c56 c57 c58 c59 c60 c61 c62 c63 c64 c65 c66 c67 c68 c69 c70 c71 c72 c73 c74 c75 c76 c77 c78 c79 c80 c81 c82 c83 c84 c85 c86 c87 c88 c89 c90 c91 c92 c93 c94 c95 c96 c97 c98 c99 c100 c101 c102 v2 L/\Rr2W y wx v2 L w) ?done (by kernel_rfl) ?step _ 21 _ _ (by kernel_rfl) ?init (by decide)
 case init=>exact⟨⟨none,0,0⟩,by simp only[Rr2Mk,sld_no (up_init _ _)],Below.drew (Below.refl _ _),fun q=>absurd (q.symm.trans (up_init _ _)) (by decide)⟩
 case step=>
  intro L act w i o hI hlt hs nl hC hd ho K hK
  obtain⟨v2,rfl,hW⟩:=hI
  have hi_lt:i<21:=(Array.getElem?_eq_some_iff.1 ho).1
  rcases (show i=0\/i=1\/i=2\/i=3\/i=4\/i=5\/i=6\/i=7\/i=8\/i=9\/i=10\/i=11\/i=12\/i=13\/i=14\/i=15\/i=16\/i=17\/i=18\/i=19\/i=20 by omega) with rfl | rfl | rfl | rfl | rfl | rfl | rfl | rfl | rfl | rfl | rfl | rfl | rfl | rfl | rfl | rfl | rfl | rfl | rfl | rfl | rfl
  ·change some _=some o at ho
   cases ho
   simp only[Rr2Mk]
   go_simp
   exact hK _ _ ⟨v2,by simp only[Rr2Mk,sld_set hlt,reduceIte,Nat.reduceEqDiff];try rfl,(hW.keep hlt (by decide) (Below.refl _ _))⟩
  ·change some _=some o at ho
   cases ho
   have q0:up L 0=true:=hd { on:=0,ground:=.data } (by simp) rfl
   simp only[Rr2Mk,sld_yes q0]
   go_simp
   exact hK _ _ ⟨v2,by simp only[Rr2Mk,sld_set hlt,sld_yes q0,reduceIte,Nat.reduceEqDiff];try rfl,(hW.keep hlt (by decide) (Below.refl _ _))⟩
  ·change some _=some o at ho
   cases ho
   have q1:up L 1=true:=hd { on:=1,ground:=.data } (by simp) rfl
   simp only[Rr2Mk,sld_yes q1]
   go_simp
   exact hK _ _ ⟨v2,by simp only[Rr2Mk,sld_set hlt,sld_yes q1,reduceIte,Nat.reduceEqDiff];try rfl,(hW.keep hlt (by decide) (Below.refl _ _))⟩
  ·change some _=some o at ho
   cases ho
   have q2:up L 2=true:=(hd { on:=2,ground:=.guard } (by simp) rfl)
   simp only[Rr2Mk,sld_yes q2]
   go_simp
   exact hK _ _ ⟨v2,by simp only[Rr2Mk,sld_set hlt,sld_yes q2,reduceIte,Nat.reduceEqDiff];try rfl,(hW.keep hlt (by decide) (Below.refl _ _))⟩
  ·change some _=some o at ho
   cases ho
   have q2:up L 2=true:=(hd { on:=2,ground:=.guard } (by simp) rfl)
   have q3:up L 3=true:=hd { on:=3,ground:=.data } (by simp) rfl
   have n6:up L 6=false:=hC.no nl 6 rfl (by kernel_rfl)
   simp only[Rr2Mk,sld_yes q2,sld_yes q3]
   go_simp
   refine (HWR.out w hW.1).mono ?_
   rintro e z ⟨v2',rfl,oz,dz⟩
   go_simp
   exact hK _ _ ⟨v2',by simp only[Rr2Mk,sld_set hlt,sld_yes q2,sld_yes q3,reduceIte,Nat.reduceEqDiff];try rfl,⟨hW.1.trans (dz.mono hW.1.size),fun _=>oz⟩⟩
  ·change some _=some o at ho
   cases ho
   have q2:up L 2=true:=(hd { on:=2,ground:=.guard } (by simp) rfl)
   have k0:=below_cell hW.1 d0
   have k1:=below_cell hW.1 d1
   have k2:=below_cell hW.1 d2
   have k3:=below_cell hW.1 d3
   have k4:=below_cell hW.1 d4
   have k5:=below_cell hW.1 d5
   have k6:=below_cell hW.1 d6
   simp only[Rr2Mk,sld_yes q2]
   go_simp
   exact hK _ _ ⟨v2,by simp only[Rr2Mk,sld_set hlt,sld_yes q2,reduceIte,Nat.reduceEqDiff];try rfl,(hW.keep hlt (by decide) (Below.refl _ _))⟩
  ·change some _=some o at ho
   cases ho
   have q2:up L 2=true:=(hd { on:=2,ground:=.guard } (by simp) rfl)
   have q4:up L 4=true:=hd { on:=4,ground:=.data } (by simp) rfl
   have q5:up L 5=true:=hd { on:=5,ground:=.data } (by simp) rfl
   simp only[Rr2Mk,sld_yes q2,sld_yes q4,sld_yes q5]
   go_simp
   refine (HSM.out w v2 hW.1 (hW.2 q4)).mono ?_
   rintro e z ⟨rfl,dz⟩
   go_simp
   exact hK _ _ ⟨v2,by simp only[Rr2Mk,sld_set hlt,sld_yes q2,sld_yes q4,sld_yes q5,reduceIte,Nat.reduceEqDiff];try rfl,(hW.keep hlt (by decide) dz)⟩
  ·change some _=some o at ho
   cases ho
   have q2:up L 2=true:=(hd { on:=2,ground:=.guard } (by simp) rfl)
   have q6:up L 6=true:=hd { on:=6,ground:=.data } (by simp) rfl
   simp only[Rr2Mk,sld_yes q2,sld_yes q6]
   go_simp
   exact hK _ _ ⟨v2,by simp only[Rr2Mk,sld_set hlt,sld_yes q2,sld_yes q6,reduceIte,Nat.reduceEqDiff];try rfl,(hW.keep hlt (by decide) (Below.refl _ _))⟩
  ·change some _=some o at ho
   cases ho
   have q2:up L 2=true:=hd { on:=2,ground:=.data } (by simp) rfl
   have q7:up L 7=true:=hd { on:=7,ground:=.data } (by simp) rfl
   simp only[Rr2Mk,sld_yes q2,sld_yes q7]
   go_simp
   exact hK _ _ ⟨v2,by simp only[Rr2Mk,sld_set hlt,sld_yes q2,sld_yes q7,reduceIte,Nat.reduceEqDiff];try rfl,(hW.keep hlt (by decide) (Below.refl _ _))⟩
  ·change some _=some o at ho
   cases ho
   have q8:up L 8=true:=hd { on:=8,ground:=.data } (by simp) rfl
   simp only[Rr2Mk,sld_yes q8]
   go_simp
   exact hK _ _ ⟨v2,by simp only[Rr2Mk,sld_set hlt,sld_yes q8,reduceIte,Nat.reduceEqDiff];try rfl,(hW.keep hlt (by decide) (Below.refl _ _))⟩
  ·change some _=some o at ho
   cases ho
   have q9:up L 9=true:=(hd { on:=9,ground:=.guard } (by simp) rfl)
   simp only[Rr2Mk,sld_yes q9]
   go_simp
   exact hK _ _ ⟨v2,by simp only[Rr2Mk,sld_set hlt,sld_yes q9,reduceIte,Nat.reduceEqDiff];try rfl,(hW.keep hlt (by decide) (Below.refl _ _))⟩
  ·change some _=some o at ho
   cases ho
   have q9:up L 9=true:=(hd { on:=9,ground:=.guard } (by simp) rfl)
   simp only[Rr2Mk,sld_yes q9]
   go_simp
   exact hK _ _ ⟨v2,by simp only[Rr2Mk,sld_set hlt,sld_yes q9,reduceIte,Nat.reduceEqDiff];try rfl,(hW.keep hlt (by decide) (Below.refl _ _))⟩
  ·change some _=some o at ho
   cases ho
   have q9:up L 9=true:=(hd { on:=9,ground:=.guard } (by simp) rfl)
   have q10:up L 10=true:=hd { on:=10,ground:=.data } (by simp) rfl
   have q11:up L 11=true:=hd { on:=11,ground:=.data } (by simp) rfl
   simp only[Rr2Mk,sld_yes q9,sld_yes q10,sld_yes q11]
   go_simp
   refine (HRG.out w hW.1).mono ?_
   rintro e z ⟨rfl,dz⟩
   go_simp
   exact hK _ _ ⟨v2,by simp only[Rr2Mk,sld_set hlt,sld_yes q9,sld_yes q10,sld_yes q11,reduceIte,Nat.reduceEqDiff];try rfl,(hW.keep hlt (by decide) dz)⟩
  ·change some _=some o at ho
   cases ho
   have q9:up L 9=true:=(hd { on:=9,ground:=.guard } (by simp) rfl)
   have q12:up L 12=true:=hd { on:=12,ground:=.data } (by simp) rfl
   simp only[Rr2Mk,sld_yes q9,sld_yes q12]
   go_simp
   exact hK _ _ ⟨v2,by simp only[Rr2Mk,sld_set hlt,sld_yes q9,sld_yes q12,reduceIte,Nat.reduceEqDiff];try rfl,(hW.keep hlt (by decide) (Below.refl _ _))⟩
  ·change some _=some o at ho
   cases ho
   have q9:up L 9=true:=hd { on:=9,ground:=.data } (by simp) rfl
   have q13:up L 13=true:=hd { on:=13,ground:=.data } (by simp) rfl
   simp only[Rr2Mk,sld_yes q9,sld_yes q13]
   go_simp
   exact hK _ _ ⟨v2,by simp only[Rr2Mk,sld_set hlt,sld_yes q9,sld_yes q13,reduceIte,Nat.reduceEqDiff];try rfl,(hW.keep hlt (by decide) (Below.refl _ _))⟩
  ·change some _=some o at ho
   cases ho
   have q14:up L 14=true:=hd { on:=14,ground:=.data } (by simp) rfl
   simp only[Rr2Mk,sld_yes q14]
   go_simp
   exact hK _ _ ⟨v2,by simp only[Rr2Mk,sld_set hlt,sld_yes q14,reduceIte,Nat.reduceEqDiff];try rfl,(hW.keep hlt (by decide) (Below.refl _ _))⟩
  ·change some _=some o at ho
   cases ho
   have q15:up L 15=true:=(hd { on:=15,ground:=.guard } (by simp) rfl)
   simp only[Rr2Mk,sld_yes q15]
   go_simp
   exact hK _ _ ⟨v2,by simp only[Rr2Mk,sld_set hlt,sld_yes q15,reduceIte,Nat.reduceEqDiff];try rfl,(hW.keep hlt (by decide) (Below.refl _ _))⟩
  ·change some _=some o at ho
   cases ho
   have q15:up L 15=true:=(hd { on:=15,ground:=.guard } (by simp) rfl)
   simp only[Rr2Mk,sld_yes q15]
   go_simp
   exact hK _ _ ⟨v2,by simp only[Rr2Mk,sld_set hlt,sld_yes q15,reduceIte,Nat.reduceEqDiff];try rfl,(hW.keep hlt (by decide) (Below.refl _ _))⟩
  ·change some _=some o at ho
   cases ho
   have q15:up L 15=true:=(hd { on:=15,ground:=.guard } (by simp) rfl)
   have q16:up L 16=true:=hd { on:=16,ground:=.data } (by simp) rfl
   have q17:up L 17=true:=hd { on:=17,ground:=.data } (by simp) rfl
   simp only[Rr2Mk,sld_yes q15,sld_yes q16,sld_yes q17]
   go_simp
   exact hK _ _ ⟨v2,by simp only[Rr2Mk,sld_set hlt,sld_yes q15,sld_yes q16,sld_yes q17,reduceIte,Nat.reduceEqDiff];try rfl,(hW.keep hlt (by decide) (Below.refl _ _))⟩
  ·change some _=some o at ho
   cases ho
   have q15:up L 15=true:=(hd { on:=15,ground:=.guard } (by simp) rfl)
   have q18:up L 18=true:=hd { on:=18,ground:=.data } (by simp) rfl
   simp only[Rr2Mk,sld_yes q15,sld_yes q18]
   go_simp
   exact hK _ _ ⟨v2,by simp only[Rr2Mk,sld_set hlt,sld_yes q15,sld_yes q18,reduceIte,Nat.reduceEqDiff];try rfl,(hW.keep hlt (by decide) (Below.refl _ _))⟩
  ·change some _=some o at ho
   cases ho
   have q15:up L 15=true:=hd { on:=15,ground:=.data } (by simp) rfl
   have q19:up L 19=true:=hd { on:=19,ground:=.data } (by simp) rfl
   simp only[Rr2Mk,sld_yes q15,sld_yes q19]
   go_simp
   exact hK _ _ ⟨v2,by simp only[Rr2Mk,sld_set hlt,sld_yes q15,sld_yes q19,reduceIte,Nat.reduceEqDiff];try rfl,(hW.keep hlt (by decide) (Below.refl _ _))⟩
 case done=>
  rintro L a w ⟨v2,rfl,hW⟩ hall
  simp only[Rr2Mk,sld_yes (hall 0 (by decide)),sld_yes (hall 1 (by decide)),sld_yes (hall 2 (by decide)),sld_yes (hall 3 (by decide)),sld_yes (hall 4 (by decide)),sld_yes (hall 5 (by decide)),sld_yes (hall 6 (by decide)),sld_yes (hall 7 (by decide)),sld_yes (hall 8 (by decide)),sld_yes (hall 9 (by decide)),sld_yes (hall 10 (by decide)),sld_yes (hall 11 (by decide)),sld_yes (hall 12 (by decide)),sld_yes (hall 13 (by decide)),sld_yes (hall 14 (by decide)),sld_yes (hall 15 (by decide)),sld_yes (hall 16 (by decide)),sld_yes (hall 17 (by decide)),sld_yes (hall 18 (by decide)),sld_yes (hall 19 (by decide)),sld_yes (hall 20 (by decide))]
  exact HKt.out _ _ _ _ _ _ _ _ _ _ _ _ _ _ _ _ _ _ _ _ w hW.1
end Go.Proofs.YtcgfgmlfbgbkfaaGreatDoor.W
