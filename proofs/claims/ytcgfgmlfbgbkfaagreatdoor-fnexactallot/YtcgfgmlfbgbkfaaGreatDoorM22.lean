import Derived.Test.YtcgfgmlfbgbkfaaGreatDoorM20
import Derived.Test.YtcgfgmlfbgbkfaaGreatDoorM19
import Derived.Test.YtcgfgmlfbgbkfaaGreatDoorM00
import Derived.Test.YtcgfgmlfbgbkfaaGreatDoorM07
import Derived.Test.YtcgfgmlfbgbkfaaGreatDoorM02
import Derived.Laws.BytesString
import Derived.Laws.Cells
import Derived.BigQuiet
import Derived.Test.YtcgfgmlfbgbkfaaGreatDoorM21
import Derived.Test.YtcgfgmlfbgbkfaaGreatDoorM11
set_option linter.unusedVariables false
set_option linter.unusedSimpArgs false
set_option maxHeartbeats 16000000
namespace Go.Proofs.YtcgfgmlfbgbkfaaGreatDoor.W
open Go.RowKit
def SpP (w:World) (f:Pl.IrF) (R:Nat) (e:Ending) (w':World):Prop:=Below w.heap.size w w'/\((¬ Pl.funOk f/\e=.returned (.slice none 0 0))\/(Pl.funOk f/\∃ (go:Nat) (S:Nat->Pl.Sp),e=.returned (.slice (some ⟨go,0,none⟩) R R)/\w'.ownsRow w.heap.size 73 3 (.slice (some ⟨go,0,none⟩) R R) R (Pl.spV R S)/\∀ r,r<R->Pl.SpanIs f r (S r)))
set_option maxRecDepth 100000 in
theorem implSp_no {lo:Nat} (f:Pl.IrF) (v s:SV) (R:Nat) (w:World) (h:FIs lo w v s f) (hal:∀ i,i<f.code.length->(f.code.getD i Pl.IrI.zero).args.length<=1048576) (hwf:∀ i,i<f.code.length->(Lit.int .i64 (f.code.getD i Pl.IrI.zero).n).wf=true) (hf:¬ Pl.funOk f):Calls Tryz.prog 16 #[.agg #[.string f.name,.int .i64 f.params,.int .i64 f.regs,.slice v.a v.len v.cap,.slice s.a s.len s.cap]] w fun e w'=>SpP w f R e w':=by
 have HRR:Hid (∀ u,Below w.heap.size w u->Calls Tryz.prog 32 #[.agg #[.string f.name,.int .i64 f.params,.int .i64 f.regs,.slice v.a v.len v.cap,.slice s.a s.len s.cap]] u fun e u'=>e=.returned (.tuple #[.pointer none,.bool false])/\Below u.heap.size u u'):=fun u hu=>(readRoutine_is f v s u (h.keep hu) hal hwf).mono fun e u' q=>by
  rcases q.2 with ⟨_,z⟩ | ⟨z,_⟩
  ·exact⟨z,q.1⟩
  ·exact absurd ((Pl.rr_fun f).1 z) hf
 have HN:Hid (¬ Pl.funOk f):=hf
 clear h hal hwf hf
 go_enter Tryz.func16,Tryz.ntmps16
 go_wp2_with fail
 refine ty_at fun u0 hu0=>?_
 have H0:Hid (Below w.heap.size w u0):=by rw[hu0];exact below_alloc w _
 clear hu0
 refine (HRR.out u0 H0.out).mono ?_
 rintro e u1 ⟨rfl,d1⟩
 have H1:Hid (Below w.heap.size w u1):=H0.out.trans (d1.mono H0.out.size)
 clear d1 H0 HRR
 go_wp2_with fail
 go_ret
 exact⟨H1.out,.inl ⟨HN.out,rfl⟩⟩
set_option maxRecDepth 100000 in
theorem implSp_yes {lo:Nat} (f:Pl.IrF) (v s:SV) (R:Nat) (w:World) (h:FIs lo w v s f) (hal:∀ i,i<f.code.length->(f.code.getD i Pl.IrI.zero).args.length<=1048576) (hwf:∀ i,i<f.code.length->(Lit.int .i64 (f.code.getD i Pl.IrI.zero).n).wf=true) (hT:TabT w) (hf:Pl.funOk f) (hR:f.regs=R):Calls Tryz.prog 16 #[.agg #[.string f.name,.int .i64 f.params,.int .i64 f.regs,.slice v.a v.len v.cap,.slice s.a s.len s.cap]] w fun e w'=>SpP w f R e w':=by
 have HRR:Hid (∀ u,Below w.heap.size w u->Calls Tryz.prog 32 #[.agg #[.string f.name,.int .i64 f.params,.int .i64 f.regs,.slice v.a v.len v.cap,.slice s.a s.len s.cap]] u fun e u'=>∃ gr gm nm g c P lab Y,e=.returned (.tuple #[.pointer (some ⟨gr,0,none⟩),.bool true])/\Below u.heap.size u u'/\Pl.LabK f.code f.code.length lab/\(∀ i,i<f.code.length->Row .i64 0 u' (Y i).a (Y i).len (Y i).cap (f.code.getD i Pl.IrI.zero).args)/\Rt u gr gm nm f v s (.slice (some ⟨g,0,none⟩) f.code.length c) (stepsV f Y f.code.length) lab P ((List.range f.slots.length).map (Pl.rooms f.slots)) (Pl.upM (Pl.rooms f.slots f.slots.length) 16) u'):=fun u hu=>(readRoutine_is f v s u (h.keep hu) hal hwf).mono fun e u' q=>by
  rcases q.2 with ⟨z,_⟩ | ⟨_,gr,gm,nm,S,P,lab,Y,e1,e2,e3,e4⟩
  ·exact absurd ((Pl.rr_fun f).2 hf) z
  ·have hsl:(stepsV f Y f.code.length).length=f.code.length:=by simp[stepsV]
   have hst:=e4.st
   rw[hsl]at hst
   obtain⟨g,c,rfl,_,_⟩:=hst.form (by have:=hf.1.2.2.2.1.1;omega)
   exact⟨gr,gm,nm,g,c,P,lab,Y,e1,q.1,e2,fun i hi=>(e3 i hi).keep q.1,e4⟩
 have HF:Hid (Pl.funOk f/\f.regs=R/\TabT w/\∀ i,i<f.code.length->(Lit.int .i64 (f.code.getD i Pl.IrI.zero).n).wf=true):=⟨hf,hR,hT,hwf⟩
 have hR2:R<=2000:=by have:=hf.1.2.1.2;omega
 obtain⟨n,hn⟩:∃ n,n=f.code.length:=⟨_,rfl⟩
 have hn8:1<=n/\n<=8000:=by rw[hn];exact hf.1.2.2.2.1
 clear h hal hwf hf hR hT
 go_enter Tryz.func16,Tryz.ntmps16
 go_wp2_with fail
 refine ty_at fun u0 hu0=>?_
 have H0:Hid (Below w.heap.size w u0):=by rw[hu0];exact below_alloc w _
 clear hu0
 refine (HRR.out u0 H0.out).mono ?_
 rintro e u1 ⟨gr,gm,nm,g,c,P,lab,Y,rfl,d1,hlab,hrows,hRt⟩
 have H1:Hid (Below w.heap.size w u1/\TabT u1):=by
  have hb:=H0.out.trans (d1.mono H0.out.size)
  exact⟨hb,HF.out.2.2.1.keep (block_lt_of_cell (HF.out.2.2.1 0 (by decide))) hb⟩
 have HSP:Hid (Calls Tryz.prog 41 #[.pointer (some ⟨gr,0,none⟩)] u1 fun e w'=>SpI u1 f R e w'):=by
  have hsl:(stepsV f Y f.code.length).length=f.code.length:=by simp[stepsV]
  have hst:=hRt.st
  rw[hsl]at hst
  refine spans_is u1 gr g n c R f Y hn.symm (by rw[hn];exact hRt.cell 5) (hRt.cell 1) (by rw[<- HF.out.2.1];exact hRt.cell 2) (hst.lt g rfl).2 (fun i hi=>?_) (fun i hi=>((HF.out.1.2.2.1 i (by omega)).1).1) hn8 hR2 H1.out.2 fun u hu=>?_
  ·rw[hst.cellAt i (by omega)]
   unfold stepsV
   rw[List.getElem?_map,List.getElem?_range (by omega)];rfl
  ·have:=newLiveness_is u (hRt.keep hu) HF.out.1 hlab HF.out.2.2.2 (fun i hi=>(hrows i hi).keep hu) R HF.out.2.1
   unfold NlSaid at this
   rw[<- hn]at this
   exact this
 clear hlab hrows hRt d1 HRR hn
 go_wp2_with fail
 refine (HSP.out).mono ?_
 rintro e u3 ⟨go,S,rfl,ow,hs,d3⟩
 have HE:Hid (SpP w f R (.returned (.slice (some ⟨go,0,none⟩) R R)) u3):=⟨H1.out.1.trans (d3.mono H1.out.1.size),.inr ⟨HF.out.1,go,S,rfl,own_lowL ow H1.out.1.size,hs⟩⟩
 clear ow hs d3
 go_wp2_with fail
 go_ret
 exact HE.out
theorem implSp_is {lo:Nat} (f:Pl.IrF) (v s:SV) (R:Nat) (w:World) (h:FIs lo w v s f) (hal:∀ i,i<f.code.length->(f.code.getD i Pl.IrI.zero).args.length<=1048576) (hwf:∀ i,i<f.code.length->(Lit.int .i64 (f.code.getD i Pl.IrI.zero).n).wf=true) (hT:TabT w) (hR:f.regs=R\/¬ Pl.funOk f):Calls Tryz.prog 16 #[.agg #[.string f.name,.int .i64 f.params,.int .i64 f.regs,.slice v.a v.len v.cap,.slice s.a s.len s.cap]] w fun e w'=>SpP w f R e w':=by
 by_cases hf:Pl.funOk f
 ·exact implSp_yes f v s R w h hal hwf hT hf (hR.resolve_right (fun c=>c hf))
 ·exact implSp_no f v s R w h hal hwf hf
end Go.Proofs.YtcgfgmlfbgbkfaaGreatDoor.W
namespace Go.Proofs.YtcgfgmlfbgbkfaaGreatDoor.W
open Go.RowKit
structure Touch (a:Option Addr) (w w':World):Prop where
 os:w'.os=w.os
 tape:w'.tape=w.tape
 output:w'.output=w.output
 size:w'.heap.size=w.heap.size
 block:∀ k,(∀ ad,a=some ad->k≠ad.block)->w'.heap[k]?=w.heap[k]?
theorem Touch.refl (a:Option Addr) (w:World):Touch a w w:=⟨rfl,rfl,rfl,rfl,fun _ _=>rfl⟩
theorem Touch.setCell {a:Option Addr} {w u:World} (h:Touch a w u) {g:Nat} (hp:a=some ⟨g,0,none⟩) (x:Value) {i:Nat}:Touch a w (u.setCell ⟨g,i,none⟩ x):=
 ⟨h.os,h.tape,h.output,by simpa using h.size,fun k hk=>(Below.heap_setCell u ⟨g,i,none⟩ x k (show k≠g from hk ⟨g,0,none⟩ hp)).trans (h.block k hk)⟩
theorem mkIntS_wf (k:Int) (len:Nat) (hk:0<=k/\k+len<=4611686018427387904):∀ n∈(List.range len).map (fun (i:Nat)=>k+(i:Int)),(Lit.int .i64 n).wf=true:=by
 intro n hn
 obtain⟨i,hi,rfl⟩:=List.mem_map.1 hn
 have:=List.mem_range.1 hi
 have h1 : -9223372036854775808<=k+(i:Int):=by omega
 have h2:k+(i:Int)<=9223372036854775807:=by omega
 generalize k+(i:Int)=y at h1 h2
 simp[Lit.wf,IntKind.min,IntKind.max,IntKind.signed,IntKind.bits]
 omega
def mkIntS (k:Int) (len:Nat):List Int:=(List.range len).map fun (i:Nat)=>(k+(i:Int))
theorem mkIntS_length (k:Int) (len:Nat):(mkIntS k len).length=len:=by simp[mkIntS]
def mtIntS (k:Int) (zs:List Int) (j:Nat):List Int:=(mkIntS k zs.length).take j ++ zs.drop j
theorem mtIntS_zero (k:Int) (zs:List Int):mtIntS k zs 0=zs:=by simp[mtIntS]
theorem mtIntS_full (k:Int) (zs:List Int) {j:Nat} (h:zs.length<=j):mtIntS k zs j=mkIntS k zs.length:=by
 unfold mtIntS
 rw[List.take_of_length_le (by rw[mkIntS_length];exact h),List.drop_of_length_le h,List.append_nil]
theorem mtIntS_length (k:Int) (zs:List Int) (j:Nat):(mtIntS k zs j).length=zs.length:=by
 unfold mtIntS
 rw[List.length_append,List.length_take,List.length_drop,mkIntS_length];omega
theorem mtIntS_set (k:Int) (zs:List Int) {j:Nat} (h:j<zs.length):(mtIntS k zs j).set j ((k+(j:Int)))=mtIntS k zs (j+1):=by
 have hx:(mkIntS k zs.length)[j]?=some ((k+(j:Int))):=by simp[mkIntS,h]
 apply List.ext_getElem?
 intro i
 unfold mtIntS
 rw[List.getElem?_set,List.length_append,List.length_take,List.length_drop,mkIntS_length]
 by_cases h1:j=i
 ·subst h1
  rw[if_pos rfl,if_pos (by omega),List.getElem?_append_left (by rw[List.length_take,mkIntS_length];omega),List.getElem?_take,if_pos (by omega),hx]
 ·rw[if_neg h1]
  by_cases h2:i<j
  ·rw[List.getElem?_append_left (by rw[List.length_take,mkIntS_length];omega),List.getElem?_append_left (by rw[List.length_take,mkIntS_length];omega),List.getElem?_take,List.getElem?_take,if_pos h2,if_pos (by omega)]
  ·rw[List.getElem?_append_right (by rw[List.length_take,mkIntS_length];omega),List.getElem?_append_right (by rw[List.length_take,mkIntS_length];omega),List.length_take,List.length_take,mkIntS_length,List.getElem?_drop,List.getElem?_drop]
   congr 1
   omega
theorem markIntS_any {lo:Nat} (a:Option Addr) (len cap:Nat) (zs:List Int) (k:Int) (w:World) (h:Own .i64 3 lo w a len cap zs) (hk:0<=k/\k+len<=4611686018427387904) :
  Calls Tryz.prog 37 #[.slice a len cap,.int .i64 k] w fun e w'=>e=.returned (.int .i64 (k+len))/\Own .i64 3 lo w' a len cap (mkIntS k len)/\Touch a w w':=by
 have hsm:=h.row.small
 have hl:=h.row.1
 have HO:Hid (w.ownsRow lo 3 1 (.slice a len cap) len (zs.map (Value.int .i64))):=h.1
 have HL:Hid (zs.length=len):=hl
 have HF:Hid (len=0\/∃ g,a=some ⟨g,0,none⟩):=by
  rcases h.1.2 with ⟨h0,h1⟩ | ⟨g,_,_,h0,_⟩
  ·exact .inl h1
  ·simp only[Value.slice.injEq]at h0;exact .inr ⟨g,h0.1⟩
 clear h hl
 go_enter Tryz.func37,Tryz.ntmps37
 go_wp2
 go_loopw [1,5] (fun x i wr=>∃ j:Nat,j<=len/\i=.int .i64 j/\x=.int .i64 (k+(j:Int))/\wr.ownsRow lo 3 1 (.slice a len cap) len ((mtIntS k zs j).map (Value.int .i64))/\Touch a w wr) (fun _ i _=>len-(intOf i).toNat)
 case atStart=>exact⟨0,Nat.zero_le _,rfl,by simp,by rw[mtIntS_zero];exact HO.out,Touch.refl _ _⟩
 case round=>
  obtain⟨j,hj,rfl,rfl,ho,ht⟩:=hrel
  clear HO
  have HO:Hid (wr.ownsRow lo 3 1 (.slice a len cap) len ((mtIntS k zs j).map (Value.int .i64))):=ho
  have HT:Hid (Touch a w wr):=ht
  clear ho ht
  by_cases hlt:j<len
  ·obtain⟨g,rfl⟩:=HF.out.resolve_left (by omega)
   have hfz:wr.frozen? ⟨g,j,none⟩=false:=HO.out.frozenAt j
   obtain⟨y,hy⟩:∃ y,wr.cell? ⟨g,j,none⟩=some (.int .i64 y):=by
    have:=HO.out.cellAt j (by omega)
    rw[List.getElem?_map,List.getElem?_eq_getElem (by rw[mtIntS_length];have:=HL.out;omega)]at this
    exact⟨_,this⟩
   go_wp2
   go_roundw
   case rel=>
    have st:=HO.out.stored j (.int .i64 ((k+(j:Int))))
    refine⟨j+1,by omega,by go_num,congrArg (Value.int .i64) (by omega),?_,HT.out.setCell rfl _⟩
    rw[<- mtIntS_set k zs (by have:=HL.out;omega),List.map_set]
    exact st.1
   case measure=>simp[intOf];omega
  ·have hje:j=len:=by omega
   subst hje
   go_wp2
   go_ret
   refine⟨rfl,⟨?_,mkIntS_wf k _ hk⟩,HT.out⟩
   have:=HO.out
   rwa [mtIntS_full k zs (by have:=HL.out;omega),HL.out]at this
theorem Own.above {k:IntKind} {e:TypeId} {lo:Nat} {w w':World} {a:Option Addr} {len cap:Nat} {zs:List Int} (h:Own k e lo w a len cap zs) (hA:Above lo w w'):Own k e lo w' a len cap zs:=⟨own_eqL h.1 fun g hg=>hA.block g (h.1.lt g hg).1 (h.1.lt g hg).2,h.2⟩
theorem Own.low {k:IntKind} {e:TypeId} {lo lo':Nat} {w:World} {a:Option Addr} {len cap:Nat} {zs:List Int} (h:Own k e lo w a len cap zs) (hl:lo'<=lo):Own k e lo' w a len cap zs:=⟨own_lowL h.1 hl,h.2⟩
def IOw (g:Nat) (w:World) (len:Nat) (xs:List Pl.IrI):Prop:=xs.length=len/\(∀ q,w.frozen? ⟨g,q,none⟩=false)/\g<w.heap.size/\∃ V:Nat->SV,(∀ i,i<len->(∀ j,j<7->w.cell? ⟨g,i*7+j,none⟩=((xs.getD i Pl.IrI.zero).cells (V i))[j]?)/\Own .i64 3 (g+1) w (V i).a (V i).len (V i).cap (xs.getD i Pl.IrI.zero).args/\(xs.getD i Pl.IrI.zero).sym.size<=maxLen)/\∀ i j q,i<len->j<len->(Value.slice (V i).a (V i).len (V i).cap).ownBlock=some q->(Value.slice (V j).a (V j).len (V j).cap).ownBlock=some q->i=j
theorem IOw.above {g:Nat} {w w':World} {len:Nat} {xs:List Pl.IrI} (h:IOw g w len xs) {B:Nat} (hA:Above B w w') (hB:B<=g):IOw g w' len xs:=by
 obtain⟨h1,h2,h3,V,h4,h5⟩:=h
 have hbg:w'.heap[g]?=w.heap[g]?:=hA.block g hB h3
 refine⟨h1,fun q=>?_,Nat.lt_of_lt_of_le h3 hA.size,V,fun i hi=>?_,h5⟩
 ·have:=h2 q
  simp only[World.frozen?,hbg]at this ⊢
  exact this
 ·obtain⟨a1,a2,a3⟩:=h4 i hi
  refine⟨fun j hj=>?_,a2.above ⟨hA.size,fun q c1 c2=>hA.block q (by omega) c2⟩,a3⟩
  rw[<- a1 j hj]
  simp only[World.cell?,hbg]
theorem IOw.row {g:Nat} {w:World} {len:Nat} {xs:List Pl.IrI} (h:IOw g w len xs) (hl:len<=1048576):IRow g w (some ⟨g,0,none⟩) len len xs:=by
 obtain⟨h1,h2,h3,V,h4,h5⟩:=h
 refine⟨h1,Nat.le_refl _,by unfold maxLen;omega,.inr ⟨g,0,rfl,Nat.le_refl _,h3,fun i hi=>?_⟩⟩
 obtain⟨a1,a2,a3⟩:=h4 i hi
 exact⟨V i,fun j hj=>by rw[Nat.zero_add];exact a1 j hj,a2.row.lower (by omega),a3⟩
structure FOw (lo:Nat) (w:World) (v:SV) (gs n:Nat) (x:Pl.IrF):Prop where
 sl:Own .i64 3 lo w v.a v.len v.cap x.slots
 cd:IOw gs w n x.code
 lt:∀ q,(Value.slice v.a v.len v.cap).ownBlock=some q->q<gs
 lo_:lo<=gs
 nm:x.name.size<=maxLen
theorem FOw.is {lo:Nat} {w:World} {v:SV} {gs n:Nat} {x:Pl.IrF} (h:FOw lo w v gs n x) (hn:n<=1048576):FIs lo w v ⟨some ⟨gs,0,none⟩,n,n⟩ x:=⟨h.sl.row,(h.cd.row hn).lower h.lo_,h.nm⟩
def IMo (g len k:Nat) (wr:World) (xs:List Pl.IrI):Prop:=∃ V:Nat->SV,(∀ i,i<len->(∀ j,j<7->wr.cell? ⟨g,i*7+j,none⟩=((if i<k then xs.getD i Pl.IrI.zero else Pl.IrI.zero).cells (V i))[j]?)/\Own .i64 3 (g+1) wr (V i).a (V i).len (V i).cap (if i<k then xs.getD i Pl.IrI.zero else Pl.IrI.zero).args)/\∀ i j q,i<len->j<len->(Value.slice (V i).a (V i).len (V i).cap).ownBlock=some q->(Value.slice (V j).a (V j).len (V j).cap).ownBlock=some q->i=j
theorem IMo.keep {g len k:Nat} {w w':World} {xs:List Pl.IrI} (h:IMo g len k w xs) (hg:g<w.heap.size) (hb:Below w.heap.size w w'):IMo g len k w' xs:=by
 obtain⟨V,h1,h2⟩:=h
 refine⟨V,fun i hi=>?_,h2⟩
 obtain⟨a1,a2⟩:=h1 i hi
 exact⟨fun j hj=>(hb.cell (p:=⟨g,i*7+j,none⟩) hg).trans (a1 j hj),a2.above (Above.of_below hb)⟩
theorem set7_above {w u:World} {B g:Nat} (h:Above B w u) (hg:g<B) (o:Nat) (x:Pl.IrI) (v:SV):Above B w (set7 u g o x v):=by
 unfold set7
 exact ((((((h.setCell (p:=⟨g,o,none⟩) hg _).setCell (p:=⟨g,o+1,none⟩) hg _).setCell (p:=⟨g,o+2,none⟩) hg _).setCell (p:=⟨g,o+3,none⟩) hg _).setCell (p:=⟨g,o+4,none⟩) hg _).setCell (p:=⟨g,o+5,none⟩) hg _).setCell (p:=⟨g,o+6,none⟩) hg _
theorem IMo.put {g len k:Nat} {w u:World} {xs:List Pl.IrI} (h:IMo g len k w xs) (hg:g<w.heap.size) (hb:Below w.heap.size w u) (hk:k<len) (v:SV) (hr:Own .i64 3 w.heap.size u v.a v.len v.cap (xs.getD k Pl.IrI.zero).args):IMo g len (k+1) (set7 u g (k*7) (xs.getD k Pl.IrI.zero) v) xs:=by
 have hsm:∀ j,j<7->(u.cell? ⟨g,k*7+j,none⟩).isSome=true:=fun j hj=>by
  obtain⟨V,h1,_⟩:=h.keep hg hb
  rw[(h1 k hk).1 j hj]
  rcases (show j=0\/j=1\/j=2\/j=3\/j=4\/j=5\/j=6 by omega) with rfl | rfl | rfl | rfl | rfl | rfl | rfl <;> rfl
 obtain⟨V,h1,h2⟩:=h
 refine⟨upd V k v,fun i hi=>?_,fun i j q hi hj hq hq2=>?_⟩
 ·by_cases e:i=k
  ·subst e
   rw[upd_at,if_pos (Nat.lt_succ_self _)]
   refine⟨fun j hj=>set7_in _ _ hsm j hj,?_⟩
   exact Own.low (hr.above (set7_above (Above.refl _ _) hg _ _ _)) (by omega)
  ·rw[upd_ne e]
   obtain⟨a1,a2⟩:=h1 i hi
   have e1:(if i<k+1 then xs.getD i Pl.IrI.zero else Pl.IrI.zero)=(if i<k then xs.getD i Pl.IrI.zero else Pl.IrI.zero):=by
    by_cases e':i<k
    ·rw[if_pos e',if_pos (by omega)]
    ·rw[if_neg e',if_neg (by omega)]
   rw[e1]
   refine⟨fun j hj=>(set7_out _ _ (by omega)).trans ((hb.cell (p:=⟨g,i*7+j,none⟩) hg).trans (a1 j hj)),?_⟩
   exact (a2.above (Above.of_below hb)).above (set7_above (Above.refl _ _) (by omega) _ _ _)
 ·by_cases e1:i=k
  ·by_cases e2:j=k
   ·omega
   ·subst e1
    rw[upd_at]at hq
    rw[upd_ne e2]at hq2
    have:=(hr.1.lt q hq).1
    have:=((h1 j hj).2.1.lt q hq2).2
    omega
  ·by_cases e2:j=k
   ·subst e2
    rw[upd_at]at hq2
    rw[upd_ne e1]at hq
    have:=(hr.1.lt q hq2).1
    have:=((h1 i hi).2.1.lt q hq).2
    omega
   ·rw[upd_ne e1]at hq
    rw[upd_ne e2]at hq2
    exact h2 i j q hi hj hq hq2
theorem toIrIns_own {lo:Nat} (x:Pl.IrI) (v:SV) (w:World) (h:Row .i64 lo w v.a v.len v.cap x.args) (hl:v.len<=1048576) :
  Calls Tryz.prog 54 #[.agg #[.int .i64 x.op,.int .i64 x.d,.int .i64 x.a,.int .i64 x.b,.int .i64 x.n,.string x.sym,.slice v.a v.len v.cap]] w fun e w'=>∃ v':SV,e=.returned (.agg #[.int .i64 x.op,.int .i64 x.d,.int .i64 x.a,.int .i64 x.b,.int .i64 x.n,.string x.sym,.slice v'.a v'.len v'.cap])/\Own .i64 3 (w.heap.size+3) w' v'.a v'.len v'.cap x.args/\Below w.heap.size w w':=by
 have HR:Hid (Row .i64 lo w v.a v.len v.cap x.args):=h
 clear h
 go_enter Tryz.func54,Tryz.ntmps54
 go_wp2_with fail
 refine ty_at fun U1 hU1=>?_
 have z1:U1.heap.size=w.heap.size+3:=by rw[hU1];simp
 have q0:U1.heap[w.heap.size]?=some (.cells #[.int .i64 x.op,.int .i64 x.d,.int .i64 x.a,.int .i64 x.b,.int .i64 x.n,.string x.sym,.slice v.a v.len v.cap] 80):=by
  rw[hU1]
  rw[Below.heap_alloc _ _ _ (by simp;omega),Below.heap_alloc _ _ _ (by simp)]
  exact heap_alloc_new w _
 have q1:U1.heap[w.heap.size+1]?=some (.cells #[.int .i64 0,.int .i64 0,.int .i64 0,.int .i64 0,.int .i64 0,.string ⟨#[]⟩,.slice none 0 0] 81):=by
  rw[hU1]
  rw[Below.heap_alloc _ _ _ (by simp)]
  have:=heap_alloc_new (w.alloc (.cells #[.int .i64 x.op,.int .i64 x.d,.int .i64 x.a,.int .i64 x.b,.int .i64 x.n,.string x.sym,.slice v.a v.len v.cap] 80)) (.cells #[.int .i64 0,.int .i64 0,.int .i64 0,.int .i64 0,.int .i64 0,.string ⟨#[]⟩,.slice none 0 0] 81)
  simpa using this
 have q2:U1.heap[w.heap.size+1+1]?=some (.cells #[.int .i64 x.op,.int .i64 x.d,.int .i64 x.a,.int .i64 x.b,.int .i64 x.n,.string x.sym,.slice none 0 0] 81):=by
  rw[hU1]
  have:=heap_alloc_new ((w.alloc (.cells #[.int .i64 x.op,.int .i64 x.d,.int .i64 x.a,.int .i64 x.b,.int .i64 x.n,.string x.sym,.slice v.a v.len v.cap] 80)).alloc (.cells #[.int .i64 0,.int .i64 0,.int .i64 0,.int .i64 0,.int .i64 0,.string ⟨#[]⟩,.slice none 0 0] 81)) (.cells #[.int .i64 x.op,.int .i64 x.d,.int .i64 x.a,.int .i64 x.b,.int .i64 x.n,.string x.sym,.slice none 0 0] 81)
  simpa using this
 have b1:Below w.heap.size w U1:=by
  rw[hU1]
  repeat (first | exact Below.refl _ _ | refine Below.setCell ?_ (by simp;omega) _ | refine Below.alloc ?_ (by simp <;> omega) _)
 clear hU1
 refine (toIntS_any v.a v.len v.cap x.args U1 (HR.out.keep b1) hl).mono ?_
 rintro e u2 ⟨rfl,o1,d1⟩
 have R1:=(d1.block (w.heap.size+1) (by omega)).trans q1
 have R2:=(d1.block (w.heap.size+1+1) (by omega)).trans q2
 have hz1:w.heap.size+3<=u2.heap.size:=by have:=d1.size;omega
 have B2:Hid (Below w.heap.size w u2):=b1.trans (d1.mono (by omega))
 have O1:Hid (Own .i64 3 (w.heap.size+3) u2 (some ⟨U1.heap.size,0,none⟩) v.len v.len x.args):=⟨own_lowL o1.1 (by omega),o1.2⟩
 have k1:∀ j,u2.cell? ⟨w.heap.size+1,j,none⟩=(#[.int .i64 0,.int .i64 0,.int .i64 0,.int .i64 0,.int .i64 0,.string ⟨#[]⟩,.slice none 0 0]:Array Value)[j]?:=fun j=>cell_of_row u2 (w.heap.size+1) j _ 81 (0,0) R1
 have k2:∀ j,u2.cell? ⟨w.heap.size+1+1,j,none⟩=(#[.int .i64 x.op,.int .i64 x.d,.int .i64 x.a,.int .i64 x.b,.int .i64 x.n,.string x.sym,.slice none 0 0]:Array Value)[j]?:=fun j=>cell_of_row u2 (w.heap.size+1+1) j _ 81 (0,0) R2
 have f1:∀ j,u2.frozen? ⟨w.heap.size+1,j,none⟩=false:=fun j=>frozen_of_row u2 (w.heap.size+1) j _ 81 R1
 have f2:∀ j,u2.frozen? ⟨w.heap.size+1+1,j,none⟩=false:=fun j=>frozen_of_row u2 (w.heap.size+1+1) j _ 81 R2
 have HR1:Hid (u2.heap[w.heap.size+1]?=some (.cells #[.int .i64 0,.int .i64 0,.int .i64 0,.int .i64 0,.int .i64 0,.string ⟨#[]⟩,.slice none 0 0] 81)):=R1
 generalize (some ⟨U1.heap.size,0,none⟩:Option Addr)=A at O1
 clear R1 R2 q0 q1 q2 b1 o1 d1 z1
 go_wp2
 refine bodyPost_ret (v:=.agg #[.int .i64 x.op,.int .i64 x.d,.int .i64 x.a,.int .i64 x.b,.int .i64 x.n,.string x.sym,.slice A v.len v.len]) ?_ rfl ⟨⟨A,v.len,v.len⟩,rfl,?_,?_⟩
 ·refine results_cell_row Tryz.results54 _ _ (w.heap.size+1) 81 #[.int .i64 x.op,.int .i64 x.d,.int .i64 x.a,.int .i64 x.b,.int .i64 x.n,.string x.sym,.slice A v.len v.len] (0,0) _ ?hp ?hg Tryz.underlying81 ?hd ?hi
  case hp=>rfl
  case hd=>rfl
  case hi=>kernel_rfl
  case hg=>
   have h0:(u2.setCell ⟨w.heap.size+1+1,6,none⟩ (.slice A v.len v.len)).heap[w.heap.size+1]?=some (.cells #[.int .i64 0,.int .i64 0,.int .i64 0,.int .i64 0,.int .i64 0,.string ⟨#[]⟩,.slice none 0 0] 81):=by
    rw[heap_setCell_other _ _ _ _ (show w.heap.size+1≠w.heap.size+1+1 by omega)]
    exact HR1.out
   have h1:=ty_put (cs':=#[.int .i64 x.op,.int .i64 0,.int .i64 0,.int .i64 0,.int .i64 0,.string ⟨#[]⟩,.slice none 0 0]) h0 0 (.int .i64 x.op) rfl
   have h2:=ty_put (cs':=#[.int .i64 x.op,.int .i64 x.d,.int .i64 0,.int .i64 0,.int .i64 0,.string ⟨#[]⟩,.slice none 0 0]) h1 1 (.int .i64 x.d) rfl
   have h3:=ty_put (cs':=#[.int .i64 x.op,.int .i64 x.d,.int .i64 x.a,.int .i64 0,.int .i64 0,.string ⟨#[]⟩,.slice none 0 0]) h2 2 (.int .i64 x.a) rfl
   have h4:=ty_put (cs':=#[.int .i64 x.op,.int .i64 x.d,.int .i64 x.a,.int .i64 x.b,.int .i64 0,.string ⟨#[]⟩,.slice none 0 0]) h3 3 (.int .i64 x.b) rfl
   have h5:=ty_put (cs':=#[.int .i64 x.op,.int .i64 x.d,.int .i64 x.a,.int .i64 x.b,.int .i64 x.n,.string ⟨#[]⟩,.slice none 0 0]) h4 4 (.int .i64 x.n) rfl
   have h6:=ty_put (cs':=#[.int .i64 x.op,.int .i64 x.d,.int .i64 x.a,.int .i64 x.b,.int .i64 x.n,.string x.sym,.slice none 0 0]) h5 5 (.string x.sym) rfl
   have h7:=ty_put (cs':=#[.int .i64 x.op,.int .i64 x.d,.int .i64 x.a,.int .i64 x.b,.int .i64 x.n,.string x.sym,.slice A v.len v.len]) h6 6 (.slice A v.len v.len) rfl
   exact h7
 ·refine O1.out.above ?_
  repeat (first | with_reducible exact Above.refl _ _ | refine Above.setCell ?_ (by simp <;> omega) _)
 ·repeat (first | with_reducible exact B2.out | refine Below.setCell ?_ (by simp <;> omega) _)
theorem toIrInsS_own {lo:Nat} (a:Option Addr) (len cap:Nat) (xs:List Pl.IrI) (w:World) (h:IRow lo w a len cap xs) (hl:len<=1048576) (hks:∀ i,i<len->(xs.getD i Pl.IrI.zero).args.length<=1048576):Calls Tryz.prog 31 #[.slice a len cap] w fun e w'=>e=.returned (.slice (some ⟨w.heap.size,0,none⟩) len len)/\IOw w.heap.size w' len xs/\Below w.heap.size w w':=by
 have HR:Hid (IRow lo w a len cap xs):=h
 have HKS:Hid (∀ i,i<len->(xs.getD i Pl.IrI.zero).args.length<=1048576):=hks
 have HSY:Hid (∀ i,i<len->(xs.getD i Pl.IrI.zero).sym.size<=maxLen):=fun i hi=>by
  obtain⟨_,_,_,_,_,_,_,_,q⟩:=h.at hi
  exact q
 clear h hks
 have hinfo:(Tryz.prog.info? 81).map (fun i=>(i.zero,i.size,i.bytes))=some (some (.agg #[.int .i64 0,.int .i64 0,.int .i64 0,.int .i64 0,.int .i64 0,.string ⟨#[]⟩,.slice none 0 0]),7,80):=by kernel_rfl
 obtain⟨i0,hi0,hz0,hz1,hz2⟩:=info_parts hinfo
 have hm:∀ u:World,(Instr.makeSlice 29 (.int .i64 (len:Int)) (.int .i64 (len:Int))).run Tryz.prog u=.ok (.slice (some ⟨u.heap.size,0,none⟩) len len) (u.alloc (.cells (madeCells #[.int .i64 0,.int .i64 0,.int .i64 0,.int .i64 0,.int .i64 0,.string ⟨#[]⟩,.slice none 0 0] (len*7)) 81)):=fun u=>by
  have:=run_makeSlice u 29 81 i0 _ Tryz.underlying29 hi0 hz0 .i64 .i64 (len:Int) (len:Int) (by omega) (by omega) (by rw[hz1];simp;omega) (by rw[hz2];omega) (by omega)
  rw[hz1,Int.toNat_natCast]at this
  exact this
 clear hinfo hi0 hz0 hz1 hz2
 go_enter Tryz.func31,Tryz.ntmps31
 go_wp2_with fail
 clear hm
 go_loopw [4] (fun i wr=>∃ k:Nat,k<=len/\i=.int .i64 k/\w.heap.size<wr.heap.size/\(∀ q,wr.frozen? ⟨w.heap.size,q,none⟩=false)/\IMo w.heap.size len k wr xs/\Below w.heap.size w wr) (fun i _=>len-(intOf i).toNat)
 case atStart=>
  refine⟨0,Nat.zero_le _,rfl,by simp,fun q=>frozen_of_row _ _ _ _ _ (heap_alloc_new w _),⟨fun _=>⟨none,0,0⟩,fun i hi=>⟨fun j hj=>?_,?_⟩,fun i j q _ _ hq=>(by cases hq)⟩,below_alloc w _⟩
  ·rw[cell_of_row _ _ _ _ _ (0,0) (heap_alloc_new w _),if_neg (Nat.not_lt_zero _)]
   have e:(i*7+j) % 7=j:=by omega
   have hb:i*7+j<len*7:=by omega
   unfold madeCells
   rw[Array.getElem?_map,Array.getElem?_range,if_pos hb]
   simp only[Option.map_some,List.size_toArray,List.length_cons,List.length_nil,e]
   rcases (show j=0\/j=1\/j=2\/j=3\/j=4\/j=5\/j=6 by omega) with rfl | rfl | rfl | rfl | rfl | rfl | rfl <;> rfl
  ·rw[if_neg (Nat.not_lt_zero _)];exact⟨World.ownsRow_nil _ _ _ _,fun n hn=>(by cases hn)⟩
 case round=>
  obtain⟨k,hk,rfl,hz,hfr,hcs,hbel⟩:=hrel
  have HC:Hid (IMo w.heap.size len k wr xs):=hcs
  have HF:Hid (∀ q,wr.frozen? ⟨w.heap.size,q,none⟩=false):=hfr
  have HB:Hid (Below w.heap.size w wr):=hbel
  clear hcs hbel hfr
  by_cases hlt:k<len
  ·have hi:(k:Int)<(len:Int):=by omega
   obtain⟨b,off,v,rfl,hlo,hb1,hc,hrow,hy⟩:=(HR.out.keep HB.out).at hlt
   obtain⟨x,hx⟩:∃ x,x=xs.getD k Pl.IrI.zero:=⟨_,rfl⟩
   rw[<- hx]at hc hrow hy
   obtain⟨c0,c1,c2,c3,c4,c5,c6⟩:=iri_cells hc
   have hvl:v.len<=1048576:=by have h1:=hrow.1;have h2:=HKS.out k hlt;rw[<- hx]at h2;omega
   have HX:Hid (x=xs.getD k Pl.IrI.zero):=hx
   have HW:Hid (Row .i64 lo wr v.a v.len v.cap x.args):=hrow
   clear hc hx hrow hy
   go_wp2_with fail
   refine (toIrIns_own x v wr HW.out hvl).mono ?_
   rintro e u1 ⟨v',rfl,o1,d1⟩
   have hf1:∀ q,u1.frozen? ⟨w.heap.size,q,none⟩=false:=fun q=>(d1.frozen (p:=⟨w.heap.size,q,none⟩) hz).trans (HF.out q)
   have HC1:Hid (∀ (v':SV),Own .i64 3 wr.heap.size u1 v'.a v'.len v'.cap (xs.getD k Pl.IrI.zero).args->IMo w.heap.size len (k+1) (set7 u1 w.heap.size (k*7) (xs.getD k Pl.IrI.zero) v') xs):=fun v' ho=>HC.out.put hz d1 hlt v' ho
   obtain⟨VV,hVV,_⟩:=HC.out.keep hz d1
   obtain⟨hk1,_⟩:=hVV k hlt
   rw[if_neg (Nat.lt_irrefl _)]at hk1
   obtain⟨e0,e1,e2,e3,e4,e5,e6⟩:=iri_cells hk1
   have HD:Hid (Below w.heap.size w u1/\w.heap.size<u1.heap.size):=⟨HB.out.trans (d1.mono HB.out.size),Nat.lt_of_lt_of_le hz d1.size⟩
   have HO:Hid (Own .i64 3 wr.heap.size u1 v'.a v'.len v'.cap x.args):=⟨own_lowL o1.1 (by omega),o1.2⟩
   clear hk1 hVV d1 o1 c0 c1 c2 c3 c4 c5 c6 HC HF HB HW
   go_wp2_with fail
   go_roundw
   case rel=>
    refine⟨k+1,by omega,by go_num,?_,?_,?_,?_⟩
    ·simp only[World.size_setCell];exact HD.out.2
    ·intro q;simp only[World.frozen?_setCell];exact hf1 q
    ·have hn:=HC1.out v' (by rw[<- HX.out];exact HO.out)
     rw[<- HX.out]at hn
     exact hn
    ·exact set7_below HD.out.1 (Nat.le_refl _) (k*7) x v'
   case measure=>simp[intOf];omega
  ·have hkk:k=len:=by omega
   have hi:¬ ((k:Int)<(len:Int)):=by omega
   have HZ:Hid (w.heap.size<wr.heap.size):=hz
   go_wp2
   go_ret
   obtain⟨V,h1,h2⟩:=HC.out
   refine⟨rfl,⟨HR.out.1,HF.out,HZ.out,V,fun i hi=>?_,h2⟩,HB.out⟩
   obtain⟨q1,q2⟩:=h1 i hi
   rw[if_pos (by omega)]at q1 q2
   exact⟨q1,q2,HSY.out i hi⟩
theorem toIrFun_own {lo:Nat} (x:Pl.IrF) (v s:SV) (w:World) (h:FIs lo w v s x) (hz:x.sized) :
  Calls Tryz.prog 8 #[.agg #[.string x.name,.int .i64 x.params,.int .i64 x.regs,.slice v.a v.len v.cap,.slice s.a s.len s.cap]] w fun e w'=>∃ (v':SV) (gs:Nat),e=.returned (.agg #[.string x.name,.int .i64 x.params,.int .i64 x.regs,.slice v'.a v'.len v'.cap,.slice (some ⟨gs,0,none⟩) s.len s.len])/\FOw w.heap.size w' v' gs s.len x/\Below w.heap.size w w':=by
 have hl:v.len<=1048576:=by have:=h.1.1;have:=hz.2.1;omega
 have hl2:s.len<=1048576:=by have:=h.2.1.1;have:=hz.2.2.1;omega
 have HKS:Hid (∀ i,i<s.len->(x.code.getD i Pl.IrI.zero).args.length<=1048576):=fun i hi=>(hz.2.2.2 i (by have:=h.2.1.1;omega)).2
 have HR:Hid (Row .i64 lo w v.a v.len v.cap x.slots):=h.1
 have HS:Hid (IRow lo w s.a s.len s.cap x.code):=h.2.1
 have HNM:Hid (x.name.size<=maxLen):=h.2.2
 clear h hz
 go_enter Tryz.func8,Tryz.ntmps8
 go_wp2_with fail
 refine ty_at fun U1 hU1=>?_
 have z1:U1.heap.size=w.heap.size+3:=by rw[hU1];simp
 have q0:U1.heap[w.heap.size]?=some (.cells #[.string x.name,.int .i64 x.params,.int .i64 x.regs,.slice v.a v.len v.cap,.slice s.a s.len s.cap] 25):=by
  rw[hU1]
  rw[Below.heap_alloc _ _ _ (by simp;omega),Below.heap_alloc _ _ _ (by simp)]
  exact heap_alloc_new w _
 have q1:U1.heap[w.heap.size+1]?=some (.cells #[.string ⟨#[]⟩,.int .i64 0,.int .i64 0,.slice none 0 0,.slice none 0 0] 31):=by
  rw[hU1]
  rw[Below.heap_alloc _ _ _ (by simp)]
  have:=heap_alloc_new (w.alloc (.cells #[.string x.name,.int .i64 x.params,.int .i64 x.regs,.slice v.a v.len v.cap,.slice s.a s.len s.cap] 25)) (.cells #[.string ⟨#[]⟩,.int .i64 0,.int .i64 0,.slice none 0 0,.slice none 0 0] 31)
  simpa using this
 have q2:U1.heap[w.heap.size+1+1]?=some (.cells #[.string x.name,.int .i64 x.params,.int .i64 x.regs,.slice none 0 0,.slice none 0 0] 31):=by
  rw[hU1]
  have:=heap_alloc_new ((w.alloc (.cells #[.string x.name,.int .i64 x.params,.int .i64 x.regs,.slice v.a v.len v.cap,.slice s.a s.len s.cap] 25)).alloc (.cells #[.string ⟨#[]⟩,.int .i64 0,.int .i64 0,.slice none 0 0,.slice none 0 0] 31)) (.cells #[.string x.name,.int .i64 x.params,.int .i64 x.regs,.slice none 0 0,.slice none 0 0] 31)
  simpa using this
 have b1:Below w.heap.size w U1:=by
  rw[hU1]
  repeat (first | exact Below.refl _ _ | refine Below.setCell ?_ (by simp;omega) _ | refine Below.alloc ?_ (by simp <;> omega) _)
 clear hU1
 refine (toIntS_any v.a v.len v.cap x.slots U1 (HR.out.keep b1) hl).mono ?_
 rintro e u1 ⟨rfl,o1,d1⟩
 have Q0:=(d1.block w.heap.size (by omega)).trans q0
 have Q1:=(d1.block (w.heap.size+1) (by omega)).trans q1
 have Q2:=(d1.block (w.heap.size+1+1) (by omega)).trans q2
 have hz1:w.heap.size+3<=u1.heap.size:=by have:=d1.size;omega
 have B1:Hid (Below w.heap.size w u1):=b1.trans (d1.mono (by omega))
 have O1:Hid (Own .i64 3 (w.heap.size+3) u1 (some ⟨U1.heap.size,0,none⟩) v.len v.len x.slots):=⟨own_lowL o1.1 (by omega),o1.2⟩
 have k0:∀ j,u1.cell? ⟨w.heap.size,j,none⟩=(#[.string x.name,.int .i64 x.params,.int .i64 x.regs,.slice v.a v.len v.cap,.slice s.a s.len s.cap]:Array Value)[j]?:=fun j=>cell_of_row u1 w.heap.size j _ 25 (0,0) Q0
 have k2:∀ j,u1.cell? ⟨w.heap.size+1+1,j,none⟩=(#[.string x.name,.int .i64 x.params,.int .i64 x.regs,.slice none 0 0,.slice none 0 0]:Array Value)[j]?:=fun j=>cell_of_row u1 (w.heap.size+1+1) j _ 31 (0,0) Q2
 have f2:∀ j,u1.frozen? ⟨w.heap.size+1+1,j,none⟩=false:=fun j=>frozen_of_row u1 (w.heap.size+1+1) j _ 31 Q2
 have HQ0:Hid (u1.heap[w.heap.size]?=some (.cells #[.string x.name,.int .i64 x.params,.int .i64 x.regs,.slice v.a v.len v.cap,.slice s.a s.len s.cap] 25)):=Q0
 have HQ1:Hid (u1.heap[w.heap.size+1]?=some (.cells #[.string ⟨#[]⟩,.int .i64 0,.int .i64 0,.slice none 0 0,.slice none 0 0] 31)):=Q1
 have HQ2:Hid (u1.heap[w.heap.size+1+1]?=some (.cells #[.string x.name,.int .i64 x.params,.int .i64 x.regs,.slice none 0 0,.slice none 0 0] 31)):=Q2
 generalize (some ⟨U1.heap.size,0,none⟩:Option Addr)=A at O1
 clear Q0 Q1 Q2 q0 q1 q2 b1 o1 d1 z1
 go_wp2_with fail
 refine ty_at fun U2 hU2=>?_
 have z2:U2.heap.size=u1.heap.size:=by rw[hU2];simp
 have a2:Above (w.heap.size+3) u1 U2:=by
  rw[hU2]
  repeat (first | with_reducible exact Above.refl _ _ | refine Above.setCell ?_ (by simp <;> omega) _)
 have b2:Below w.heap.size w U2:=by
  rw[hU2]
  repeat (first | with_reducible exact B1.out | refine Below.setCell ?_ (by simp <;> omega) _)
 have r1:U2.heap[w.heap.size+1]?=some (.cells #[.string ⟨#[]⟩,.int .i64 0,.int .i64 0,.slice none 0 0,.slice none 0 0] 31):=by
  rw[hU2,heap_setCell_other _ _ _ _ (show w.heap.size+1≠w.heap.size+1+1 by omega)];exact HQ1.out
 have r2:U2.heap[w.heap.size+1+1]?=some (.cells #[.string x.name,.int .i64 x.params,.int .i64 x.regs,.slice A v.len v.len,.slice none 0 0] 31):=by
  rw[hU2];exact ty_put HQ2.out 3 _ rfl
 clear hU2 k0 k2 f2 HQ0 HQ1 HQ2
 refine (toIrInsS_own s.a s.len s.cap x.code U2 (HS.out.keep b2) hl2 HKS.out).mono ?_
 rintro e u2 ⟨rfl,o2,d2⟩
 have R1:=(d2.block (w.heap.size+1) (by omega)).trans r1
 have R2:=(d2.block (w.heap.size+1+1) (by omega)).trans r2
 have B2:Hid (Below w.heap.size w u2):=b2.trans (d2.mono (by omega))
 have O2:Hid (IOw U2.heap.size u2 s.len x.code):=o2
 have O3:Hid (Own .i64 3 (w.heap.size+3) u2 A v.len v.len x.slots):=(O1.out.above a2).above (Above.of_below d2)
 have OL:Hid (∀ q,(Value.slice A v.len v.len).ownBlock=some q->q<U2.heap.size):=fun q hq=>by have:=(O1.out.1.lt q hq).2;omega
 have OG:Hid (w.heap.size+3<=U2.heap.size):=by show _<=_;omega
 have k1:∀ j,u2.cell? ⟨w.heap.size+1,j,none⟩=(#[.string ⟨#[]⟩,.int .i64 0,.int .i64 0,.slice none 0 0,.slice none 0 0]:Array Value)[j]?:=fun j=>cell_of_row u2 (w.heap.size+1) j _ 31 (0,0) R1
 have k2:∀ j,u2.cell? ⟨w.heap.size+1+1,j,none⟩=(#[.string x.name,.int .i64 x.params,.int .i64 x.regs,.slice A v.len v.len,.slice none 0 0]:Array Value)[j]?:=fun j=>cell_of_row u2 (w.heap.size+1+1) j _ 31 (0,0) R2
 have f1:∀ j,u2.frozen? ⟨w.heap.size+1,j,none⟩=false:=fun j=>frozen_of_row u2 (w.heap.size+1) j _ 31 R1
 have f2:∀ j,u2.frozen? ⟨w.heap.size+1+1,j,none⟩=false:=fun j=>frozen_of_row u2 (w.heap.size+1+1) j _ 31 R2
 have HR1:Hid (u2.heap[w.heap.size+1]?=some (.cells #[.string ⟨#[]⟩,.int .i64 0,.int .i64 0,.slice none 0 0,.slice none 0 0] 31)):=R1
 generalize U2.heap.size=G2 at O2 OL OG ⊢
 clear R1 R2 r1 r2 b2 o2 d2 z2 a2
 go_wp2
 refine bodyPost_ret (v:=.agg #[.string x.name,.int .i64 x.params,.int .i64 x.regs,.slice A v.len v.len,.slice (some ⟨G2,0,none⟩) s.len s.len]) ?_ rfl ⟨⟨A,v.len,v.len⟩,G2,rfl,⟨?_,?_,OL.out,by have:=OG.out;omega,HNM.out⟩,?_⟩
 ·refine results_cell_row Tryz.results8 _ _ (w.heap.size+1) 31 #[.string x.name,.int .i64 x.params,.int .i64 x.regs,.slice A v.len v.len,.slice (some ⟨G2,0,none⟩) s.len s.len] (0,0) _ ?hp ?hg Tryz.underlying31 ?hd ?hi
  case hp=>rfl
  case hd=>rfl
  case hi=>kernel_rfl
  case hg=>
   have h0:(u2.setCell ⟨w.heap.size+1+1,4,none⟩ (.slice (some ⟨G2,0,none⟩) s.len s.len)).heap[w.heap.size+1]?=some (.cells #[.string ⟨#[]⟩,.int .i64 0,.int .i64 0,.slice none 0 0,.slice none 0 0] 31):=by
    rw[heap_setCell_other _ _ _ _ (show w.heap.size+1≠w.heap.size+1+1 by omega)]
    exact HR1.out
   have h1:=ty_put (cs':=#[.string x.name,.int .i64 0,.int .i64 0,.slice none 0 0,.slice none 0 0]) h0 0 (.string x.name) rfl
   have h2:=ty_put (cs':=#[.string x.name,.int .i64 x.params,.int .i64 0,.slice none 0 0,.slice none 0 0]) h1 1 (.int .i64 x.params) rfl
   have h3:=ty_put (cs':=#[.string x.name,.int .i64 x.params,.int .i64 x.regs,.slice none 0 0,.slice none 0 0]) h2 2 (.int .i64 x.regs) rfl
   have h4:=ty_put (cs':=#[.string x.name,.int .i64 x.params,.int .i64 x.regs,.slice A v.len v.len,.slice none 0 0]) h3 3 (.slice A v.len v.len) rfl
   have h5:=ty_put (cs':=#[.string x.name,.int .i64 x.params,.int .i64 x.regs,.slice A v.len v.len,.slice (some ⟨G2,0,none⟩) s.len s.len]) h4 4 (.slice (some ⟨G2,0,none⟩) s.len s.len) rfl
   exact h5
 ·refine Own.low (O3.out.above ?_) (by omega)
  repeat (first | with_reducible exact Above.refl _ _ | refine Above.setCell ?_ (by simp <;> omega) _)
 ·refine O2.out.above (B:=w.heap.size+3) ?_ OG.out
  repeat (first | with_reducible exact Above.refl _ _ | refine Above.setCell ?_ (by simp <;> omega) _)
 ·repeat (first | with_reducible exact B2.out | refine Below.setCell ?_ (by simp <;> omega) _)
end Go.Proofs.YtcgfgmlfbgbkfaaGreatDoor.W
namespace Go.Proofs.YtcgfgmlfbgbkfaaGreatDoor.Pl
def mtx:Nat->Int->ByteArray->ByteArray
 | 0,_,s=>s
 | f+1,n,s=>if n<=0 then s else mtx f (n / 10) (ByteArray.empty.push (UInt8.ofNat (48+n % 10).toNat) ++ s)
def mText (k:Int):ByteArray:=(⟨#[109]⟩:ByteArray) ++ mtx k.toNat k ⟨#[]⟩
theorem mtx_zero (f:Nat) (n:Int) (h:n<=0) (s:ByteArray):mtx f n s=s:=by
 cases f
 ·rfl
 ·exact if_pos h
end Go.Proofs.YtcgfgmlfbgbkfaaGreatDoor.Pl
namespace Go.Proofs.YtcgfgmlfbgbkfaaGreatDoor.W
open Go.RowKit
theorem conv_oneH (w:World) (c:Int):(convert 186 9 (.slice (some ⟨w.heap.size,0,none⟩) 1 1)).run Tryz.prog (w.alloc (.cells #[.int .u8 c] 5))=.ok (.string (ByteArray.empty.push (UInt8.ofNat c.toNat))) (w.alloc (.cells #[.int .u8 c] 5)):=by
 rw[run_convert_bytes_string _ 186 9 5 _ _ _ Tryz.underlying186 Tryz.underlying5 Tryz.underlying9]
 refine run_bytesToString _ _ 1 1 [c] ?_
 refine (run_loadCells_list _ _ [.int .u8 c] ?_).trans rfl
 intro j v hj
 rcases j with _ | j
 ·cases hj
  exact cell_of_row _ w.heap.size 0 _ 5 (0,0) (heap_alloc_new w _)
 ·simp at hj
set_option maxRecDepth 8000 in
theorem markText_is (k:Int) (hk:1<=k/\k<=4611686018427387904) (w:World):Calls Tryz.prog 70 #[.int .i64 k] w fun e w'=>e=.returned (.string (Pl.mText k))/\Below w.heap.size w w':=by
 have h0:¬ k<=0:=by omega
 go_enter Tryz.func70,Tryz.ntmps70
 go_wp2_with fail
 go_loopw [0,3] (fun x v wr=>∃ (n:Int) (s:ByteArray) (m f:Nat),x=.int .i64 n/\v=.string s/\0<=n/\n<=4611686018427387904/\n<10 ^ m/\s.size+m<=19/\n<=f/\Pl.mtx f n s=Pl.mtx k.toNat k ⟨#[]⟩/\Below w.heap.size w wr) (fun x _ _=>(intOf x).toNat)
 case atStart=>exact⟨k,⟨#[]⟩,19,k.toNat,rfl,rfl,by omega,hk.2,by omega,by decide,by omega,rfl,Below.refl _ _⟩
 case round=>
  obtain⟨n,s,m,f,rfl,rfl,hn0,hn1,hnm,hsm,hf,hmt,hbel⟩:=hrel
  have HB:Hid (Below w.heap.size w wr):=hbel
  have HM:Hid (n<10 ^ m):=hnm
  have HT:Hid (Pl.mtx f n s=Pl.mtx k.toNat k ⟨#[]⟩):=hmt
  have HF:Hid (n<=f):=hf
  clear hbel hnm hmt hf
  by_cases hp:0<n
  ·have hcv:=conv_oneH wr
   go_wp2
   go_roundw
   case rel=>
    obtain⟨m,rfl⟩:∃ m',m=m'+1:=by
     rcases m with _ | m
     ·have:=HM.out;simp at this;omega
     ·exact⟨m,rfl⟩
    obtain⟨f,rfl⟩:∃ f',f=f'+1:=by
     rcases f with _ | f
     ·have:=HF.out;omega
     ·exact⟨f,rfl⟩
    have hq:n / 10<10 ^ m:=by
     have:=HM.out
     rw[Int.pow_succ]at this
     omega
    have hff:=HF.out
    refine⟨n / 10,_,m,f,by go_num,rfl,by omega,by omega,hq,by simp;omega,by omega,?_,HB.out.trans ((below_alloc wr _).mono HB.out.size)⟩
    rw[<- HT.out]
    show _=if n<=0 then s else _
    rw[if_neg (by omega)]
   case measure=>simp[intOf];omega
  ·go_wp2
   go_ret
   refine⟨?_,HB.out⟩
   unfold Pl.mText
   rw[<- HT.out,Pl.mtx_zero _ _ (by omega)]
   rfl
structure Tr (lo hi:Nat) (w w':World):Prop where
 os:w'.os=w.os
 tape:w'.tape=w.tape
 output:w'.output=w.output
 size:w.heap.size<=w'.heap.size
 block:∀ g,g<w.heap.size->g<lo\/hi<=g->w'.heap[g]?=w.heap[g]?
theorem Tr.refl (lo hi:Nat) (w:World):Tr lo hi w w:=⟨rfl,rfl,rfl,Nat.le_refl _,fun _ _ _=>rfl⟩
theorem Tr.trans {lo hi:Nat} {a b c:World} (h:Tr lo hi a b) (k:Tr lo hi b c):Tr lo hi a c:=⟨k.os.trans h.os,k.tape.trans h.tape,k.output.trans h.output,Nat.le_trans h.size k.size,fun g hg hq=>(k.block g (Nat.lt_of_lt_of_le hg h.size) hq).trans (h.block g hg hq)⟩
theorem Tr.of_below {lo hi:Nat} {w w':World} (h:Below w.heap.size w w'):Tr lo hi w w':=⟨h.os,h.tape,h.output,h.size,fun g hg _=>h.block g hg⟩
theorem Tr.of_touch {lo hi:Nat} {a:Option Addr} {w w':World} (h:Touch a w w') (ha:∀ ad,a=some ad->lo<=ad.block/\ad.block<hi):Tr lo hi w w':=⟨h.os,h.tape,h.output,Nat.le_of_eq h.size.symm,fun g _ hq=>h.block g fun ad e=>by have:=ha ad e;omega⟩
theorem Tr.setCell {lo hi:Nat} (w:World) {g:Nat} (h:lo<=g/\g<hi) (j:Nat) (v:Value):Tr lo hi w (w.setCell ⟨g,j,none⟩ v):=by
 have o:=OnlyG.setCell w g j v
 exact⟨o.os,o.tape,o.output,Nat.le_of_eq o.size.symm,fun q _ hq=>o.block q (by omega)⟩
structure WI (lo hi:Nat) (w:World) (g len:Nat) (V:Nat->SV):Prop where
 frz:∀ q,w.frozen? ⟨g,q,none⟩=false
 gl:lo<=g/\g<hi/\hi<=w.heap.size
 cel:∀ i,i<len->∀ j,j<7->(w.cell? ⟨g,i*7+j,none⟩).isSome=true
 arg:∀ i,i<len->w.cell? ⟨g,i*7+6,none⟩=some (.slice (V i).a (V i).len (V i).cap)
 row:∀ i,i<len->(∃ zs,Own .i64 3 lo w (V i).a (V i).len (V i).cap zs)/\(V i).len<=1048576
 rlt:∀ i,i<len->∀ q,(Value.slice (V i).a (V i).len (V i).cap).ownBlock=some q->q<hi/\g<q
 dis:∀ i j q,i<len->j<len->(Value.slice (V i).a (V i).len (V i).cap).ownBlock=some q->(Value.slice (V j).a (V j).len (V j).cap).ownBlock=some q->i=j
theorem IOw.wi {g:Nat} {w:World} {len:Nat} {xs:List Pl.IrI} (h:IOw g w len xs) {lo:Nat} (hlo:lo<=g) (hx:∀ i,i<len->(xs.getD i Pl.IrI.zero).args.length<=1048576):∃ V,WI lo w.heap.size w g len V:=by
 obtain⟨h1,h2,h3,V,h4,h5⟩:=h
 refine⟨V,h2,⟨hlo,h3,Nat.le_refl _⟩,fun i hi j hj=>?_,fun i hi=>(h4 i hi).1 6 (by decide),fun i hi=>⟨⟨_,Own.low (h4 i hi).2.1 (by omega)⟩,?_⟩,fun i hi q hq=>?_,h5⟩
 ·rw[(h4 i hi).1 j hj]
  rcases (show j=0\/j=1\/j=2\/j=3\/j=4\/j=5\/j=6 by omega) with rfl | rfl | rfl | rfl | rfl | rfl | rfl <;> rfl
 ·have:=(h4 i hi).2.1.row.1;have:=hx i hi;omega
 ·have:=(h4 i hi).2.1.1.lt q hq;omega
section
variable {lo hi:Nat} {w w':World} {g len:Nat} {V:Nat->SV}
theorem WI.later (h:WI lo hi w g len V) (hb:Below w.heap.size w w'):WI lo hi w' g len V:=by
 have hg:g<w.heap.size:=by have:=h.gl;omega
 refine⟨fun q=>(hb.frozen (p:=⟨g,q,none⟩) hg).trans (h.frz q),⟨h.gl.1,h.gl.2.1,Nat.le_trans h.gl.2.2 hb.size⟩,fun i hi j hj=>?_,fun i hi=>(hb.cell (p:=⟨g,i*7+6,none⟩) hg).trans (h.arg i hi),fun i hi=>?_,h.rlt,h.dis⟩
 ·rw[hb.cell (p:=⟨g,i*7+j,none⟩) hg];exact h.cel i hi j hj
 ·obtain⟨⟨zs,hz⟩,hl⟩:=h.row i hi
  exact⟨⟨zs,hz.above (Above.of_below hb)⟩,hl⟩
theorem WI.set (h:WI lo hi w g len V) {i j:Nat} (hi':i<len) (hj:j<6) (v:Value):WI lo hi (w.setCell ⟨g,i*7+j,none⟩ v) g len V:=by
 have hsame:=h.cel i hi' j (by omega)
 refine⟨fun q=>by rw[World.frozen?_setCell];exact h.frz q,?_,fun p hp q hq=>?_,fun p hp=>?_,fun p hp=>?_,h.rlt,h.dis⟩
 ·have:=h.gl;rw[World.size_setCell];exact this
 ·by_cases e:p*7+q=i*7+j
  ·rw[e,World.cell?_setCell_same' _ _ _ hsame];rfl
  ·rw[World.cell?_setCell_other _ _ _ _ (ty_ne (fun q=>e q.symm))];exact h.cel p hp q hq
 ·rw[World.cell?_setCell_other _ _ _ _ (ty_ne (by omega))];exact h.arg p hp
 ·obtain⟨⟨zs,hz⟩,hl⟩:=h.row p hp
  exact⟨⟨zs,own_eqL hz.1 fun q hq=>heap_setCell_other w ⟨g,i*7+j,none⟩ q v (by have:=(h.rlt p hp q hq).2;show q≠g;omega),hz.2⟩,hl⟩
theorem WI.high (h:WI lo hi w g len V) (hb:∀ q,g<=q->w'.heap[q]?=w.heap[q]?) (hs:w.heap.size<=w'.heap.size):WI lo hi w' g len V:=by
 have hgb:=hb g (Nat.le_refl _)
 refine⟨fun q=>?_,⟨h.gl.1,h.gl.2.1,Nat.le_trans h.gl.2.2 hs⟩,fun p hp q hq=>?_,fun p hp=>?_,fun p hp=>?_,h.rlt,h.dis⟩
 ·have:=h.frz q;simp only[World.frozen?,hgb]at this ⊢; exact this
 ·have:=h.cel p hp q hq;simp only[World.cell?,hgb]at this ⊢; exact this
 ·have:=h.arg p hp;simp only[World.cell?,hgb]at this ⊢; exact this
 ·obtain⟨⟨z2,hz⟩,hl⟩:=h.row p hp
  exact⟨⟨z2,own_eqL hz.1 fun q hq=>hb q (by have:=(h.rlt p hp q hq).2;omega),hz.2⟩,hl⟩
theorem WI.mark (h:WI lo hi w g len V) {i:Nat} (hi':i<len) (ht:Touch (V i).a w w') {zs:List Int} (ho:Own .i64 3 lo w' (V i).a (V i).len (V i).cap zs):WI lo hi w' g len V:=by
 have hkb:∀ q,(Value.slice (V i).a (V i).len (V i).cap).ownBlock≠some q->w'.heap[q]?=w.heap[q]?:=fun q hq=>ht.block q fun ad e=>by
  rcases ho.1.2 with ⟨z,_⟩ | ⟨g',cap',cur,z,_⟩
  ·injection z with z1 z2 z3;rw[z1]at e;cases e
  ·injection z with z1 z2 z3
   rw[z1]at e
   injection e with e
   subst e
   rw[z1]at hq
   simpa [Value.ownBlock,eq_comm] using hq
 have hgb:w'.heap[g]?=w.heap[g]?:=hkb g fun e=>Nat.lt_irrefl _ (h.rlt i hi' g e).2
 refine⟨fun q=>?_,by rw[ht.size];exact h.gl,fun p hp q hq=>?_,fun p hp=>?_,fun p hp=>?_,h.rlt,h.dis⟩
 ·have:=h.frz q;simp only[World.frozen?,hgb]at this ⊢; exact this
 ·have:=h.cel p hp q hq;simp only[World.cell?,hgb]at this ⊢; exact this
 ·have:=h.arg p hp;simp only[World.cell?,hgb]at this ⊢; exact this
 ·obtain⟨⟨z2,hz⟩,hl⟩:=h.row p hp
  by_cases e:p=i
  ·subst e;exact⟨⟨zs,ho⟩,hl⟩
  ·exact⟨⟨z2,own_eqL hz.1 fun q hq=>hkb q fun c=>e (h.dis p i q hp hi' hq c),hz.2⟩,hl⟩
end
theorem own_touch {lo hi:Nat} {w w':World} {a:Option Addr} {n c:Nat} {zs:List Int} (ho:Own .i64 3 lo w a n c zs) (hr:∀ q,(Value.slice a n c).ownBlock=some q->q<hi) (ht:Touch a w w'):Tr lo hi w w':=Tr.of_touch ht fun ad e=>by
 rcases ho.1.2 with ⟨z,_⟩ | ⟨g',cap',cur,z,hlo,_⟩
 ·injection z with z1 z2 z3;rw[z1]at e;cases e
 ·injection z with z1 z2 z3
  rw[z1]at e
  injection e with e
  subst e
  exact⟨hlo,hr g' (by rw[z1];rfl)⟩
def MkA (e:Ending):Prop:=∃ k:Int,0<=k/\e=.returned (.int .i64 k)
set_option maxRecDepth 100000 in
theorem markIrInsS_any {lo hi:Nat} (w:World) (g len:Nat) (V:Nat->SV) (h:WI lo hi w g len V) (hlen:len<=1048576) (k0:Int) (hk:1<=k0/\k0<=2000000):Calls Tryz.prog 38 #[.slice (some ⟨g,0,none⟩) len len,.int .i64 k0] w fun e w'=>MkA e/\Tr lo hi w w':=by
 have HW:Hid (WI lo hi w g len V):=h
 clear h
 have hlm:(len:Int)<=1048576:=by omega
 go_enter Tryz.func38,Tryz.ntmps38
 go_wp2_with fail
 go_loopw [1,5] (fun kv t wr=>∃ (i:Nat) (k:Int),i<=len/\t=.int .i64 (i:Int)/\kv=.int .i64 k/\1<=k/\k<=2000000+1048582*(i:Int)/\Hid (WI lo hi wr g len V/\Tr lo hi w wr)) (fun _ t _=>len-(intOf t).toNat)
 case atStart=>exact⟨0,k0,Nat.zero_le _,rfl,rfl,hk.1,by omega,HW.out,Tr.refl _ _ _⟩
 case round=>
  obtain⟨i,k,hi',rfl,rfl,hk1,hk2,HS⟩:=hrel
  by_cases hlt:i<len
  rotate_left
  ·have hii:¬ ((i:Int)<(len:Int)):=by omega
   go_wp2_with fail
   go_ret
   exact⟨⟨k,by omega,rfl⟩,HS.out.2⟩
  have hii:(i:Int)<(len:Int):=by omega
  have hkb:k<=2000000000000:=by omega
  have HKB:Hid (k<=2000000+1048582*(i:Int)):=hk2
  obtain⟨z0,c0⟩:=Option.isSome_iff_exists.1 (HS.out.1.cel i hlt 0 (by decide))
  obtain⟨z1,c1⟩:=Option.isSome_iff_exists.1 (HS.out.1.cel i hlt 1 (by decide))
  obtain⟨z2,c2⟩:=Option.isSome_iff_exists.1 (HS.out.1.cel i hlt 2 (by decide))
  obtain⟨z3,c3⟩:=Option.isSome_iff_exists.1 (HS.out.1.cel i hlt 3 (by decide))
  obtain⟨z4,c4⟩:=Option.isSome_iff_exists.1 (HS.out.1.cel i hlt 4 (by decide))
  rw[Nat.add_zero]at c0
  have f0:=HS.out.1.frz (i*7)
  have f1:=HS.out.1.frz (i*7+1)
  have f2:=HS.out.1.frz (i*7+2)
  have f3:=HS.out.1.frz (i*7+3)
  have f4:=HS.out.1.frz (i*7+4)
  clear hk2
  go_wp2_with fail
  refine ty_at fun U hU=>?_
  have H1:Hid (WI lo hi U g len V/\Tr lo hi w U):=by
   have gg:=HS.out.1.gl
   rw[hU]
   refine⟨((((HS.out.1.set (j:=0) hlt (by decide) _).set (j:=1) hlt (by decide) _).set (j:=2) hlt (by decide) _).set (j:=3) hlt (by decide) _).set (j:=4) hlt (by decide) _,?_⟩
   exact ((((HS.out.2.trans (Tr.setCell _ ⟨gg.1,gg.2.1⟩ _ _)).trans (Tr.setCell _ ⟨gg.1,gg.2.1⟩ _ _)).trans (Tr.setCell _ ⟨gg.1,gg.2.1⟩ _ _)).trans (Tr.setCell _ ⟨gg.1,gg.2.1⟩ _ _)).trans (Tr.setCell _ ⟨gg.1,gg.2.1⟩ _ _)
  clear hU c0 c1 c2 c3 c4 f0 f1 f2 f3 f4 HS
  refine (markText_is _ (by omega) U).mono ?_
  rintro e u1 ⟨rfl,d1⟩
  have H2:Hid (WI lo hi u1 g len V/\Tr lo hi w u1):=⟨H1.out.1.later d1,H1.out.2.trans (Tr.of_below d1)⟩
  obtain⟨z5,c5⟩:=Option.isSome_iff_exists.1 (H2.out.1.cel i hlt 5 (by decide))
  have f5:=H2.out.1.frz (i*7+5)
  have c6:=H2.out.1.arg i hlt
  obtain⟨⟨zs,hzs⟩,hvl⟩:=H2.out.1.row i hlt
  have hrlt:=H2.out.1.rlt i hlt
  obtain⟨vv,hvi⟩:∃ vv,V i=vv:=⟨_,rfl⟩
  obtain⟨va,vl,vc⟩:=vv
  rw[hvi]at c6 hzs hvl hrlt
  clear d1 H1
  go_wp2_with fail
  refine ty_at fun U hU=>?_
  have H3:Hid (WI lo hi U g len V/\Tr lo hi w U):=by
   have gg:=H2.out.1.gl
   rw[hU]
   exact⟨H2.out.1.set (j:=5) hlt (by decide) _,H2.out.2.trans (Tr.setCell _ ⟨gg.1,gg.2.1⟩ _ _)⟩
  obtain⟨⟨zt,hzt⟩,_⟩:=H3.out.1.row i hlt
  rw[hvi]at hzt
  clear hU c5 f5 c6 hzs H2
  refine (markIntS_any va vl vc zt _ U hzt (by first | omega | (simp only at hvl;omega))).mono ?_
  rintro e u2 ⟨rfl,o2,t2⟩
  have H4:Hid (WI lo hi u2 g len V/\Tr lo hi w u2):=⟨H3.out.1.mark hlt (by rw[hvi];exact t2) (by rw[hvi];exact o2),H3.out.2.trans (own_touch hzt (fun q hq=>(hrlt q hq).1) t2)⟩
  have HVL:Hid (vl<=1048576):=hvl
  clear o2 t2 hzt H3 hrlt hvl
  have hvl2:(vl:Int)<=1048576:=by have:=HVL.out;omega
  go_wp2_with fail
  refine⟨⟨i+1,_,by omega,by go_num,rfl,by omega,by have:=HKB.out;omega,H4⟩,by simp[intOf];omega⟩
set_option maxRecDepth 100000 in
theorem markIrFun_any {lo:Nat} (x:Pl.IrF) (v:SV) (gs n:Nat) (u w:World) (h:FOw lo u v gs n x) (hx:x.sized) (hb:Below u.heap.size u w):Calls Tryz.prog 12 #[.agg #[.string x.name,.int .i64 x.params,.int .i64 x.regs,.slice v.a v.len v.cap,.slice (some ⟨gs,0,none⟩) n n],.int .i64 1] w fun e w'=>MkA e/\Tr lo u.heap.size w w':=by
 obtain⟨V,hV⟩:=h.cd.wi h.lo_ (fun i hi=>(hx.2.2.2 i (by have:=h.cd.1;omega)).2)
 have hn:n<=1048576:=by have:=h.cd.1;have:=hx.2.2.1;omega
 have hvl:v.len<=1048576:=by have:=h.sl.row.1;have:=hx.2.1;omega
 have hlu:∀ q,(Value.slice v.a v.len v.cap).ownBlock=some q->q<u.heap.size/\q<gs:=fun q hq=>⟨(h.sl.1.lt q hq).2,h.lt q hq⟩
 obtain⟨w1,hw1⟩:∃ w1,w1=w.alloc (.cells #[.string x.name,.int .i64 x.params,.int .i64 x.regs,.slice v.a v.len v.cap,.slice (some ⟨gs,0,none⟩) n n] 31):=⟨_,rfl⟩
 have hbw:Below w.heap.size w w1:=by rw[hw1];exact below_alloc _ _
 have hb1:Below u.heap.size u w1:=hb.trans (hbw.mono hb.size)
 have k3:w1.cell? ⟨w.heap.size,3,none⟩=some (.slice v.a v.len v.cap):=by rw[hw1,cell_of_row _ w.heap.size 3 _ 31 (0,0) (heap_alloc_new w _)];rfl
 have k4:w1.cell? ⟨w.heap.size,4,none⟩=some (.slice (some ⟨gs,0,none⟩) n n):=by rw[hw1,cell_of_row _ w.heap.size 4 _ 31 (0,0) (heap_alloc_new w _)];rfl
 have H1:Hid (Own .i64 3 lo w1 v.a v.len v.cap x.slots/\WI lo u.heap.size w1 gs n V/\Tr lo u.heap.size w w1/\∀ q,(Value.slice v.a v.len v.cap).ownBlock=some q->q<u.heap.size/\q<gs):=⟨h.sl.above (Above.of_below hb1),hV.later hb1,Tr.of_below hbw,hlu⟩
 have huw:=hb.size
 have HW1:Hid (w.alloc (.cells #[.string x.name,.int .i64 x.params,.int .i64 x.regs,.slice v.a v.len v.cap,.slice (some ⟨gs,0,none⟩) n n] 31)=w1):=hw1.symm
 obtain⟨va,vl,vc⟩:=v
 simp only at hvl k3 k4 H1 HW1 ⊢
 have hvl2:(vl:Int)<=1048576:=by omega
 clear h hV hlu hb1 hb hw1 hbw
 go_enter Tryz.func12,Tryz.ntmps12
 go_wp2_with fail
 rw[HW1.out]
 refine (markIntS_any va vl vc x.slots 1 w1 H1.out.1 (by omega)).mono ?_
 rintro e u2 ⟨rfl,o2,t2⟩
 have hge:∀ ad,va=some ad->ad.block<u.heap.size/\ad.block<gs:=fun ad e=>by
  rcases H1.out.1.1.2 with ⟨z,_⟩ | ⟨g',cap',cur,z,_⟩
  ·injection z with z1 z2 z3;rw[z1]at e;cases e
  ·injection z with z1 z2 z3
   rw[z1]at e
   injection e with e
   subst e
   exact H1.out.2.2.2 g' (by rw[z1];rfl)
 have hkb:∀ g,gs<=g\/u.heap.size<=g->u2.heap[g]?=w1.heap[g]?:=fun g hg=>t2.block g fun ad e=>by have:=hge ad e;omega
 have k4':u2.cell? ⟨w.heap.size,4,none⟩=some (.slice (some ⟨gs,0,none⟩) n n):=by
  have:=k4
  simp only[World.cell?,hkb w.heap.size (.inr huw)]at this ⊢
  exact this
 have H2:Hid (WI lo u.heap.size u2 gs n V/\Tr lo u.heap.size w u2):=by
  refine⟨?_,H1.out.2.2.1.trans (own_touch H1.out.1 (fun q hq=>(H1.out.2.2.2 q hq).1) t2)⟩
  exact H1.out.2.1.high (fun q hq=>hkb q (.inl hq)) (Nat.le_of_eq t2.size.symm)
 clear o2 t2 hge hkb k3 k4
 go_wp2_with fail
 refine (markIrInsS_any u2 gs n V H2.out.1 hn _ (by omega)).mono ?_
 rintro e u3 ⟨⟨k,hk,rfl⟩,t3⟩
 have H3:Hid (Tr lo u.heap.size w u3):=H2.out.2.trans t3
 clear t3
 go_wp2_with fail
 go_ret
 exact⟨⟨k,hk,rfl⟩,H3.out⟩
end Go.Proofs.YtcgfgmlfbgbkfaaGreatDoor.W
namespace Go.Proofs.YtcgfgmlfbgbkfaaGreatDoor.Pl
end Go.Proofs.YtcgfgmlfbgbkfaaGreatDoor.Pl
namespace Go.Proofs.YtcgfgmlfbgbkfaaGreatDoor.W
open Go.RowKit
theorem OnlyG.tr {g lo hi:Nat} {w w':World} (h:OnlyG g w w') (h1:lo<=g) (h2:g<hi):Tr lo hi w w':=⟨h.os,h.tape,h.output,Nat.le_of_eq h.size.symm,fun q hq hz=>h.block q (by omega)⟩
def RS (w:World) (a:Option Addr) (n:Nat) (S:Nat->Pl.Sp):Prop:=n<=8000/\(n=0\/∃ g,a=some ⟨g,0,none⟩/\g<w.heap.size/\∀ i,i<n->∀ j,j<3->w.cell? ⟨g,i*3+j,none⟩=(S i).cells[j]?)
theorem RS.keep {w w':World} {a:Option Addr} {n:Nat} {S:Nat->Pl.Sp} (h:RS w a n S) (hb:Below w.heap.size w w'):RS w' a n S:=by
 rcases h with ⟨h0,h | ⟨g,e,hg,h⟩⟩
 ·exact⟨h0,.inl h⟩
 ·exact⟨h0,.inr ⟨g,e,Nat.lt_of_lt_of_le hg hb.size,fun i hi j hj=>(hb.cell (p:=⟨g,i*3+j,none⟩) hg).trans (h i hi j hj)⟩⟩
def RO (lo:Nat) (w:World) (a:Option Addr) (n:Nat) (S:Nat->Pl.Sp):Prop:=n=0\/∃ go cs,a=some ⟨go,0,none⟩/\lo<=go/\w.heap[go]?=some (.cells cs 73 (0,0))/\n*3<=cs.size/\∀ i,i<n->∀ j,j<3->cs[i*3+j]?=(S i).cells[j]?
theorem RO.rs {lo:Nat} {w:World} {a:Option Addr} {n:Nat} {S:Nat->Pl.Sp} (h:RO lo w a n S) (hn:n<=8000):RS w a n S:=by
 refine⟨hn,?_⟩
 rcases h with h | ⟨go,cs,e,hlo,hb,hs,h⟩
 ·exact .inl h
 ·exact .inr ⟨go,e,(Array.getElem?_eq_some_iff.1 hb).1,fun i hi j hj=>(cell_of_row w go _ _ _ (0,0) hb).trans (h i hi j hj)⟩
theorem RO.later {lo:Nat} {w w':World} {a:Option Addr} {n:Nat} {S:Nat->Pl.Sp} (h:RO lo w a n S) (hb:Below w.heap.size w w'):RO lo w' a n S:=by
 rcases h with h | ⟨go,cs,e,hlo,hk,hs,h⟩
 ·exact .inl h
 ·exact .inr ⟨go,cs,e,hlo,(hb.block _ (Array.getElem?_eq_some_iff.1 hk).1).trans hk,hs,h⟩
theorem RO.tr {lo l h':Nat} {w w':World} {a:Option Addr} {n:Nat} {S:Nat->Pl.Sp} (h:RO lo w a n S) (ht:Tr l h' w w') (hl:h'<=lo):RO lo w' a n S:=by
 rcases h with h | ⟨go,cs,e,hlo,hk,hs,h⟩
 ·exact .inl h
 ·exact .inr ⟨go,cs,e,hlo,(ht.block _ (Array.getElem?_eq_some_iff.1 hk).1 (.inr (by omega))).trans hk,hs,h⟩
theorem RO.own {lo:Nat} {w:World} {go n cap:Nat} {S:Nat->Pl.Sp} (h:w.ownsRow lo 73 3 (.slice (some ⟨go,0,none⟩) n cap) n (Pl.spV n S)):RO lo w (some ⟨go,0,none⟩) n S:=by
 rcases h.2 with ⟨e,_⟩ | ⟨g,c,cur,e,hlo,hb,h1,h2,h3,h4⟩
 ·cases e
 ·injection e with e1 e2 e3
  injection e1 with e1
  injection e1 with e1
  subst e1
  refine .inr ⟨go,cur,rfl,hlo,hb,by omega,fun i hi j hj=>?_⟩
  rw[<- Pl.spV_at S hi hj,<- h4,List.getElem?_take_of_lt (by omega)]
  simp
structure AsC (lo:Nat) (B:World) (X:Nat->Prop) (B2:World) (ga:Nat) (sa:Option Addr) (N cs gp cp:Nat) (S:Nat->Pl.Sp) (pl:Nat->Pl.Pc) (ow:Nat->Int) (sp:Int) (C P:Array Value) (ua:Option Addr) (ul uc:Nat) (hu:Nat->Nat) (Su:Nat->Prop) (ka:Option Addr) (kl kc:Nat) (hk:Nat->Nat) (Sk:Nat->Prop) (w:World):Prop where
 bel:Below lo B w
 loB:lo=B.heap.size
 ga0:lo<=ga
 gp0:lo<=gp
 cb:w.heap[ga]?=some (.cells C 136 (0,0))
 cz:C.size=21
 c0:C[0]?=some (.slice sa N cs)
 c1:C[1]?=some (.slice (some ⟨gp,0,none⟩) N cp)
 c2:C[2]?=some (.slice ua ul uc)
 c3:C[3]?=some (.slice ka kl kc)
 c4:∀ k,k<16->C[4+k]?=some (.int .i64 (ow k))
 c20:C[20]?=some (.int .i64 sp)
 pb:w.heap[gp]?=some (.cells P 77 (0,0))
 pz:N*2<=P.size
 p0:∀ r,r<N->P[r*2]?=some (.int .i64 (pl r).reg)
 p1:∀ r,r<N->P[r*2+1]?=some (.int .i64 (pl r).spill)
 uo:w.ownsRow lo 3 1 (.slice ua ul uc) ul (iv hu ul)
 uh:Pl.Hp hu ul Su
 ko:w.ownsRow lo 3 1 (.slice ka kl kc) kl (iv hk kl)
 kh:Pl.Hp hk kl Sk
 ne:∀ y,(Value.slice ua ul uc).ownBlock=some y->(Value.slice ka kl kc).ownBlock≠some y
 xs:∀ b,X b->b<w.heap.size/\w.heap[b]?=B2.heap[b]?/\b≠ga/\b≠gp/\(Value.slice ua ul uc).ownBlock≠some b/\(Value.slice ka kl kc).ownBlock≠some b
theorem own_type {lo:Nat} {w:World} {v:Value} {n:Nat} {xs:List Value} (h:w.ownsRow lo 3 1 v n xs) {y:Nat} (hy:v.ownBlock=some y):∃ cur,w.heap[y]?=some (.cells cur 3 (0,0)):=by
 rcases h.2 with ⟨rfl,_⟩ | ⟨g,c,cur,rfl,_,hb,_⟩
 ·cases hy
 ·cases hy;exact⟨cur,hb⟩
section
variable {lo:Nat} {B:World} {X:Nat->Prop} {B2:World} {ga:Nat} {sa:Option Addr} {N cs gp cp:Nat} {S:Nat->Pl.Sp} {pl:Nat->Pl.Pc} {ow:Nat->Int} {sp:Int} {C P:Array Value} {ua:Option Addr} {ul uc:Nat} {hu:Nat->Nat} {Su:Nat->Prop} {ka:Option Addr} {kl kc:Nat} {hk:Nat->Nat} {Sk:Nat->Prop} {w:World}
theorem AsC.una (h:AsC lo B X B2 ga sa N cs gp cp S pl ow sp C P ua ul uc hu Su ka kl kc hk Sk w):∀ y,(Value.slice ua ul uc).ownBlock=some y->y≠ga:=fun y hy e=>by
 obtain⟨cur,hc⟩:=own_type h.uo hy
 rw[e,h.cb]at hc
 injection hc with hc;injection hc with _ hc;exact absurd hc (by decide)
theorem AsC.unp (h:AsC lo B X B2 ga sa N cs gp cp S pl ow sp C P ua ul uc hu Su ka kl kc hk Sk w):∀ y,(Value.slice ua ul uc).ownBlock=some y->y≠gp:=fun y hy e=>by
 obtain⟨cur,hc⟩:=own_type h.uo hy
 rw[e,h.pb]at hc
 injection hc with hc;injection hc with _ hc;exact absurd hc (by decide)
theorem AsC.kna (h:AsC lo B X B2 ga sa N cs gp cp S pl ow sp C P ua ul uc hu Su ka kl kc hk Sk w):∀ y,(Value.slice ka kl kc).ownBlock=some y->y≠ga:=fun y hy e=>by
 obtain⟨cur,hc⟩:=own_type h.ko hy
 rw[e,h.cb]at hc
 injection hc with hc;injection hc with _ hc;exact absurd hc (by decide)
theorem AsC.knp (h:AsC lo B X B2 ga sa N cs gp cp S pl ow sp C P ua ul uc hu Su ka kl kc hk Sk w):∀ y,(Value.slice ka kl kc).ownBlock=some y->y≠gp:=fun y hy e=>by
 obtain⟨cur,hc⟩:=own_type h.ko hy
 rw[e,h.pb]at hc
 injection hc with hc;injection hc with _ hc;exact absurd hc (by decide)
theorem AsC.gap (h:AsC lo B X B2 ga sa N cs gp cp S pl ow sp C P ua ul uc hu Su ka kl kc hk Sk w):ga≠gp:=fun e=>by
 have hc:=h.pb
 rw[<- e,h.cb]at hc
 injection hc with hc;injection hc with _ hc;exact absurd hc (by decide)
theorem AsC.cell (h:AsC lo B X B2 ga sa N cs gp cp S pl ow sp C P ua ul uc hu Su ka kl kc hk Sk w) {q:Nat} {v:Value} (hq:C[q]?=some v):w.cell? ⟨ga,q,none⟩=some v:=(cell_of_row w ga q _ _ (0,0) h.cb).trans hq
theorem AsC.fz (h:AsC lo B X B2 ga sa N cs gp cp S pl ow sp C P ua ul uc hu Su ka kl kc hk Sk w) (q:Nat):w.frozen? ⟨ga,q,none⟩=false:=frozen_of_row w ga q _ _ h.cb
theorem AsC.fzp (h:AsC lo B X B2 ga sa N cs gp cp S pl ow sp C P ua ul uc hu Su ka kl kc hk Sk w) (q:Nat):w.frozen? ⟨gp,q,none⟩=false:=frozen_of_row w gp q _ _ h.pb
theorem AsC.gal (h:AsC lo B X B2 ga sa N cs gp cp S pl ow sp C P ua ul uc hu Su ka kl kc hk Sk w):ga<w.heap.size:=(Array.getElem?_eq_some_iff.1 h.cb).1
theorem AsC.gpl (h:AsC lo B X B2 ga sa N cs gp cp S pl ow sp C P ua ul uc hu Su ka kl kc hk Sk w):gp<w.heap.size:=(Array.getElem?_eq_some_iff.1 h.pb).1
theorem AsC.drewN (h:AsC lo B X B2 ga sa N cs gp cp S pl ow sp C P ua ul uc hu Su ka kl kc hk Sk w) (k:Nat):AsC lo B X B2 ga sa N cs gp cp S pl ow sp C P ua ul uc hu Su ka kl kc hk Sk (w.drewN k):=
 ⟨⟨h.bel.os,h.bel.tape,h.bel.output,h.bel.size,h.bel.block⟩,h.loB,h.ga0,h.gp0,h.cb,h.cz,h.c0,h.c1,h.c2,h.c3,h.c4,h.c20,h.pb,h.pz,h.p0,h.p1,own_eqL h.uo (fun _ _=>rfl),h.uh,own_eqL h.ko (fun _ _=>rfl),h.kh,h.ne,h.xs⟩
theorem AsC.later (h:AsC lo B X B2 ga sa N cs gp cp S pl ow sp C P ua ul uc hu Su ka kl kc hk Sk w) {w':World} (hb:Below w.heap.size w w'):AsC lo B X B2 ga sa N cs gp cp S pl ow sp C P ua ul uc hu Su ka kl kc hk Sk (w'):=
 ⟨h.bel.trans (hb.mono (by have:=h.gal;have:=h.ga0;omega)),h.loB,h.ga0,h.gp0,(hb.block _ h.gal).trans h.cb,h.cz,h.c0,h.c1,h.c2,h.c3,h.c4,h.c20,(hb.block _ h.gpl).trans h.pb,h.pz,h.p0,h.p1,own_eqL h.uo (fun g hg=>hb.block g (h.uo.lt g hg).2),h.uh,own_eqL h.ko (fun g hg=>hb.block g (h.ko.lt g hg).2),h.kh,h.ne,fun b hx=>⟨Nat.lt_of_lt_of_le (h.xs b hx).1 hb.size,(hb.block b (h.xs b hx).1).trans (h.xs b hx).2.1,(h.xs b hx).2.2⟩⟩
theorem AsC.set (h:AsC lo B X B2 ga sa N cs gp cp S pl ow sp C P ua ul uc hu Su ka kl kc hk Sk w) (q:Nat) (v:Value) (hq:4<=q) (hq2:q<21) (ow':Nat->Int) (sp':Int) (h4:∀ k,k<16->(C.setIfInBounds q v)[4+k]?=some (.int .i64 (ow' k))) (h20:(C.setIfInBounds q v)[20]?=some (.int .i64 sp')):AsC lo B X B2 ga sa N cs gp cp S pl (ow') (sp') (C.setIfInBounds q v) P ua ul uc hu Su ka kl kc hk Sk (w.setCell ⟨ga,q,none⟩ v):=by
 have hb:∀ k,k≠ga->(w.setCell ⟨ga,q,none⟩ v).heap[k]?=w.heap[k]?:=fun k hk=>heap_setCell_other w ⟨ga,q,none⟩ k v hk
 refine⟨h.bel.setCell h.ga0 _,h.loB,h.ga0,h.gp0,heap_setCell_same w ga q _ _ _ h.cb,by simp[h.cz],?_,?_,?_,?_,h4,h20,(hb gp (fun e=>h.gap e.symm)).trans h.pb,h.pz,h.p0,h.p1,own_eqL h.uo (fun g hg=>hb g (h.una g hg)),h.uh,own_eqL h.ko (fun g hg=>hb g (h.kna g hg)),h.kh,h.ne,fun b hx=>⟨by simp;exact (h.xs b hx).1,(hb b (h.xs b hx).2.2.1).trans (h.xs b hx).2.1,(h.xs b hx).2.2⟩⟩
 ·rw[Array.getElem?_setIfInBounds_ne (by omega)];exact h.c0
 ·rw[Array.getElem?_setIfInBounds_ne (by omega)];exact h.c1
 ·rw[Array.getElem?_setIfInBounds_ne (by omega)];exact h.c2
 ·rw[Array.getElem?_setIfInBounds_ne (by omega)];exact h.c3
theorem AsC.setOw (h:AsC lo B X B2 ga sa N cs gp cp S pl ow sp C P ua ul uc hu Su ka kl kc hk Sk w) (k:Nat) (x:Int) (hk16:k<16):AsC lo B X B2 ga sa N cs gp cp S pl (Pl.up ow k x) sp (C.setIfInBounds (4+k) (.int .i64 x)) P ua ul uc hu Su ka kl kc hk Sk (w.setCell ⟨ga,4+k,none⟩ (.int .i64 x)):=by
 have hz:=h.cz
 refine h.set (4+k) _ (by omega) (by omega) _ sp (fun j hj=>?_) ?_
 ·by_cases e:j=k
  ·subst e;rw[Array.getElem?_setIfInBounds_self_of_lt (by omega),Pl.up_i]
  ·rw[Array.getElem?_setIfInBounds_ne (by omega),Pl.up_o _ _ e];exact h.c4 j hj
 ·rw[Array.getElem?_setIfInBounds_ne (by omega)];exact h.c20
theorem AsC.setSp (h:AsC lo B X B2 ga sa N cs gp cp S pl ow sp C P ua ul uc hu Su ka kl kc hk Sk w) (x:Int):AsC lo B X B2 ga sa N cs gp cp S pl ow (x) (C.setIfInBounds 20 (.int .i64 x)) P ua ul uc hu Su ka kl kc hk Sk (w.setCell ⟨ga,20,none⟩ (.int .i64 x)):=by
 have hz:=h.cz
 refine h.set 20 _ (by omega) (by omega) ow x (fun j hj=>?_) ?_
 ·rw[Array.getElem?_setIfInBounds_ne (by omega)];exact h.c4 j hj
 ·rw[Array.getElem?_setIfInBounds_self_of_lt (by omega)]
theorem AsC.setPl (h:AsC lo B X B2 ga sa N cs gp cp S pl ow sp C P ua ul uc hu Su ka kl kc hk Sk w) (r:Nat) (p:Pl.Pc) (hr:r<N):AsC lo B X B2 ga sa N cs gp cp S (Pl.up pl r p) ow sp C ((P.setIfInBounds (r*2) (.int .i64 p.reg)).setIfInBounds (r*2+1) (.int .i64 p.spill)) ua ul uc hu Su ka kl kc hk Sk ((w.setCell ⟨gp,r*2,none⟩ (.int .i64 p.reg)).setCell ⟨gp,r*2+1,none⟩ (.int .i64 p.spill)):=by
 have hb:∀ k,k≠gp->((w.setCell ⟨gp,r*2,none⟩ (.int .i64 p.reg)).setCell ⟨gp,r*2+1,none⟩ (.int .i64 p.spill)).heap[k]?=w.heap[k]?:=fun k hk=>(heap_setCell_other _ ⟨gp,r*2+1,none⟩ k _ hk).trans (heap_setCell_other w ⟨gp,r*2,none⟩ k _ hk)
 have hz:=h.pz
 refine⟨(h.bel.setCell h.gp0 _).setCell h.gp0 _,h.loB,h.ga0,h.gp0,(hb ga h.gap).trans h.cb,h.cz,h.c0,h.c1,h.c2,h.c3,h.c4,h.c20,heap_setCell_same _ gp _ _ _ _ (heap_setCell_same w gp _ _ _ _ h.pb),by simp;exact hz,fun j hj=>?_,fun j hj=>?_,own_eqL h.uo (fun g hg=>hb g (h.unp g hg)),h.uh,own_eqL h.ko (fun g hg=>hb g (h.knp g hg)),h.kh,h.ne,fun b hx=>⟨by simp;exact (h.xs b hx).1,(hb b (h.xs b hx).2.2.2.1).trans (h.xs b hx).2.1,(h.xs b hx).2.2⟩⟩
 ·rw[Array.getElem?_setIfInBounds_ne (by omega)]
  by_cases e:j=r
  ·subst e;rw[Array.getElem?_setIfInBounds_self_of_lt (by omega),Pl.up_i]
  ·rw[Array.getElem?_setIfInBounds_ne (by omega),Pl.up_o _ _ e];exact h.p0 j hj
 ·by_cases e:j=r
  ·subst e;rw[Array.getElem?_setIfInBounds_self_of_lt (by simp;omega),Pl.up_i]
  ·rw[Array.getElem?_setIfInBounds_ne (by omega),Array.getElem?_setIfInBounds_ne (by omega),Pl.up_o _ _ e];exact h.p1 j hj
theorem AsC.heapU (h:AsC lo B X B2 ga sa N cs gp cp S pl ow sp C P ua ul uc hu Su ka kl kc hk Sk w) {w':World} {ua':Option Addr} {ul' uc':Nat} {hu':Nat->Nat} {Su':Nat->Prop} (hf:Frm ga 2 (Value.slice ua ul uc).ownBlock (.slice ua' ul' uc') w w') (hown:w'.ownsRow lo 3 1 (.slice ua' ul' uc') ul' (iv hu' ul')) (hh:Pl.Hp hu' ul' Su') (hat:∀ y,(Value.slice ua' ul' uc').ownBlock=some y->(Value.slice ua ul uc).ownBlock=some y\/w.heap.size<=y):AsC lo B X B2 ga sa N cs gp cp S pl ow sp (C.setIfInBounds 2 (.slice ua' ul' uc')) P (ua') (ul') (uc') (hu') (Su') ka kl kc hk Sk (w'):=by
 have hbl:=hf.block
 have hz:=h.cz
 have hcb:w'.heap[ga]?=some (.cells (C.setIfInBounds 2 (.slice ua' ul' uc')) 136 (0,0)):=hf.own.trans (heap_setCell_same w ga 2 _ _ _ h.cb)
 have hpb:w'.heap[gp]?=some (.cells P 77 (0,0)):=(hbl gp h.gpl (fun e=>h.gap e.symm) (fun e=>h.unp gp e.symm rfl)).trans h.pb
 refine⟨⟨hf.os.trans h.bel.os,hf.tape.trans h.bel.tape,hf.output.trans h.bel.output,Nat.le_trans h.bel.size hf.size,fun k hk=>(hbl k (by have:=h.gal;have:=h.ga0;omega) (by have:=h.ga0;omega) (fun e=>by have:=(h.uo.lt k e.symm).1;omega)).trans (h.bel.block k hk)⟩,h.loB,h.ga0,h.gp0,hcb,by simp[hz],?_,?_,?_,?_,fun k hk=>?_,?_,hpb,h.pz,h.p0,h.p1,hown,hh,own_eqL h.ko (fun g hg=>hbl g (h.ko.lt g hg).2 (h.kna g hg) (fun e=>h.ne g e.symm hg)),h.kh,?_,fun b hx=>?_⟩
 ·rw[Array.getElem?_setIfInBounds_ne (by omega)];exact h.c0
 ·rw[Array.getElem?_setIfInBounds_ne (by omega)];exact h.c1
 ·rw[Array.getElem?_setIfInBounds_self_of_lt (by omega)]
 ·rw[Array.getElem?_setIfInBounds_ne (by omega)];exact h.c3
 ·rw[Array.getElem?_setIfInBounds_ne (by omega)];exact h.c4 k hk
 ·rw[Array.getElem?_setIfInBounds_ne (by omega)];exact h.c20
 ·intro y hy e
  rcases hat y hy with c | c
  ·exact h.ne y c e
  ·have:=(h.ko.lt y e).2;omega
 ·obtain⟨x1,x2,x3,x4,x5,x6⟩:=h.xs b hx
  have hnew:(Value.slice ua' ul' uc').ownBlock≠some b:=fun e=>by
   rcases hat b e with c | c
   ·exact x5 c
   ·omega
  exact⟨Nat.lt_of_lt_of_le x1 hf.size,(hbl b x1 x3 (fun e=>x5 e.symm)).trans x2,x3,x4,hnew,x6⟩
theorem AsC.heapK (h:AsC lo B X B2 ga sa N cs gp cp S pl ow sp C P ua ul uc hu Su ka kl kc hk Sk w) {w':World} {ka':Option Addr} {kl' kc':Nat} {hk':Nat->Nat} {Sk':Nat->Prop} (hf:Frm ga 3 (Value.slice ka kl kc).ownBlock (.slice ka' kl' kc') w w') (hown:w'.ownsRow lo 3 1 (.slice ka' kl' kc') kl' (iv hk' kl')) (hh:Pl.Hp hk' kl' Sk') (hat:∀ y,(Value.slice ka' kl' kc').ownBlock=some y->(Value.slice ka kl kc).ownBlock=some y\/w.heap.size<=y):AsC lo B X B2 ga sa N cs gp cp S pl ow sp (C.setIfInBounds 3 (.slice ka' kl' kc')) P ua ul uc hu Su (ka') (kl') (kc') (hk') (Sk') (w'):=by
 have hbl:=hf.block
 have hz:=h.cz
 have hcb:w'.heap[ga]?=some (.cells (C.setIfInBounds 3 (.slice ka' kl' kc')) 136 (0,0)):=hf.own.trans (heap_setCell_same w ga 3 _ _ _ h.cb)
 have hpb:w'.heap[gp]?=some (.cells P 77 (0,0)):=(hbl gp h.gpl (fun e=>h.gap e.symm) (fun e=>h.knp gp e.symm rfl)).trans h.pb
 refine⟨⟨hf.os.trans h.bel.os,hf.tape.trans h.bel.tape,hf.output.trans h.bel.output,Nat.le_trans h.bel.size hf.size,fun k hk=>(hbl k (by have:=h.gal;have:=h.ga0;omega) (by have:=h.ga0;omega) (fun e=>by have:=(h.ko.lt k e.symm).1;omega)).trans (h.bel.block k hk)⟩,h.loB,h.ga0,h.gp0,hcb,by simp[hz],?_,?_,?_,?_,fun k hk=>?_,?_,hpb,h.pz,h.p0,h.p1,own_eqL h.uo (fun g hg=>hbl g (h.uo.lt g hg).2 (h.una g hg) (fun e=>h.ne g hg e.symm)),h.uh,hown,hh,?_,fun b hx=>?_⟩
 ·rw[Array.getElem?_setIfInBounds_ne (by omega)];exact h.c0
 ·rw[Array.getElem?_setIfInBounds_ne (by omega)];exact h.c1
 ·rw[Array.getElem?_setIfInBounds_ne (by omega)];exact h.c2
 ·rw[Array.getElem?_setIfInBounds_self_of_lt (by omega)]
 ·rw[Array.getElem?_setIfInBounds_ne (by omega)];exact h.c4 k hk
 ·rw[Array.getElem?_setIfInBounds_ne (by omega)];exact h.c20
 ·intro y hy e
  rcases hat y e with c | c
  ·exact h.ne y hy c
  ·have:=(h.uo.lt y hy).2;omega
 ·obtain⟨x1,x2,x3,x4,x5,x6⟩:=h.xs b hx
  have hnew:(Value.slice ka' kl' kc').ownBlock≠some b:=fun e=>by
   rcases hat b e with c | c
   ·exact x6 c
   ·omega
  exact⟨Nat.lt_of_lt_of_le x1 hf.size,(hbl b x1 x3 (fun e=>x6 e.symm)).trans x2,x3,x4,x5,hnew⟩
end
def As (lo:Nat) (B:World) (X:Nat->Prop) (B2:World) (ga:Nat) (sa:Option Addr) (N cs gp cp:Nat) (S:Nat->Pl.Sp) (pl:Nat->Pl.Pc) (ow:Nat->Int) (sp:Int) (Su Sk:Nat->Prop) (w:World):Prop:=∃ C P ua ul uc hu ka kl kc hk,AsC lo B X B2 ga sa N cs gp cp S pl ow sp C P ua ul uc hu Su ka kl kc hk Sk w
theorem As.drewN {lo:Nat} {B:World} {X:Nat->Prop} {B2:World} {ga:Nat} {sa:Option Addr} {N cs gp cp:Nat} {S:Nat->Pl.Sp} {pl:Nat->Pl.Pc} {ow:Nat->Int} {sp:Int} {Su Sk:Nat->Prop} {w:World} (h:As lo B X B2 ga sa N cs gp cp S (pl) (ow) (sp) (Su) (Sk) w) (k:Nat):As lo B X B2 ga sa N cs gp cp S (pl) (ow) (sp) (Su) (Sk) (w.drewN k):=by
 obtain⟨C,P,ua,ul,uc,hu,ka,kl,kc,hk,hA⟩:=h
 exact⟨_,_,_,_,_,_,_,_,_,_,hA.drewN k⟩
theorem As.later {lo:Nat} {B:World} {X:Nat->Prop} {B2:World} {ga:Nat} {sa:Option Addr} {N cs gp cp:Nat} {S:Nat->Pl.Sp} {pl:Nat->Pl.Pc} {ow:Nat->Int} {sp:Int} {Su Sk:Nat->Prop} {w w':World} (h:As lo B X B2 ga sa N cs gp cp S (pl) (ow) (sp) (Su) (Sk) w) (hb:Below w.heap.size w w'):As lo B X B2 ga sa N cs gp cp S (pl) (ow) (sp) (Su) (Sk) w':=by
 obtain⟨C,P,ua,ul,uc,hu,ka,kl,kc,hk,hA⟩:=h
 exact⟨_,_,_,_,_,_,_,_,_,_,hA.later hb⟩
def GvT (w:World):Prop:=∀ k,k<16->w.cell? ⟨1,k,none⟩=some (.int .i64 (Pl.gv k))
set_option maxRecDepth 100000 in
theorem free_is {lo:Nat} {B:World} {X:Nat->Prop} {B2:World} {ga:Nat} {sa:Option Addr} {N cs gp cp:Nat} {S:Nat->Pl.Sp} {pl:Nat->Pl.Pc} {ow:Nat->Int} {sp:Int} {Su Sk:Nat->Prop} (rank:Nat) (w:World) (h:As lo B X B2 ga sa N cs gp cp S (pl) (ow) (sp) (Su) (Sk) w) (hr:rank<16) (hnu:rank<4->¬ Su rank) (hnk:¬ rank<4->¬ Sk rank) (hub:∀ x,Su x->x<16) (hkb:∀ x,Sk x->x<16) :
  Calls Tryz.prog 82 #[.pointer (some ⟨ga,0,none⟩),.int .i64 (rank:Int)] w fun e w'=>e=.returned (.tuple #[])/\As lo B X B2 ga sa N cs gp cp S (pl) (Pl.up ow rank (-1)) (sp) (fun x=>Su x\/(x=rank/\rank<4)) (fun x=>Sk x\/(x=rank/\¬ rank<4)) w':=by
 obtain⟨C,P,ua,ul,uc,hu,ka,kl,kc,hk,hA⟩:=h
 have h1:=hA.setOw rank (-1) hr
 have c4:=hA.cell (hA.c4 rank hr)
 have fz:=hA.fz
 have hgl:=hA.gal
 have hri0:(rank:Int)<16:=by omega
 clear hA
 by_cases hr4:rank<4
 ·replace hnu:=hnu hr4
  have hri:(rank:Int)<4:=by omega
  have HPS:Hid (Calls _ _ _ _ _):=heapPush_is (lo:=lo) ga 2 ua ul uc rank hu Su _ (w.setCell ⟨ga,4+rank,none⟩ (.int .i64 (-1))) (by have:=h1.uh.bound hub;omega) h1.cb h1.c2 h1.uo (by have:=h1.gal;have:=h1.ga0;omega) h1.uh hnu h1.una
  have HFIN:Hid (∀ W,PushSaid lo ga 2 ul rank (Value.slice ua ul uc).ownBlock Su (w.setCell ⟨ga,4+rank,none⟩ (.int .i64 (-1))) W->As lo B X B2 ga sa N cs gp cp S (pl) (Pl.up ow rank (-1)) (sp) (fun x=>Su x\/(x=rank/\rank<4)) (fun x=>Sk x\/(x=rank/\¬ rank<4)) W):=by
   rintro W ⟨G,cap,h',q1,q2,q3,q4⟩
   have r:=h1.heapU q4 q1 q2 (fun y hy=>by cases hy;exact q3)
   refine⟨_,_,_,_,_,_,_,_,_,_,{ r with uh:=r.uh.set ?_,kh:=r.kh.set ?_ }⟩
   ·intro x;constructor
    ·rintro (c | c);exact .inl c;exact .inr c.1
    ·rintro (c | c);exact .inl c;exact .inr ⟨c,hr4⟩
   ·intro x;constructor
    ·rintro (c | c);exact c;omega
    ·exact .inl
  clear h1 hub hkb hnu hnk
  go_enter Tryz.func82,Tryz.ntmps82
  go_wp2_with (go_at_call 104;refine HPS.out.mono ?_;rintro e u ⟨rfl,hq⟩; have HN:Hid (As lo B X B2 ga sa N cs gp cp S (pl) (Pl.up ow rank (-1)) (sp) (fun x=>Su x\/(x=rank/\rank<4)) (fun x=>Sk x\/(x=rank/\¬ rank<4)) u):=HFIN.out _ hq;clear hq)
  go_end0
  exact⟨rfl,HN.out⟩
 ·replace hnk:=hnk hr4
  have hri:¬ (rank:Int)<4:=by omega
  have HPS:Hid (Calls _ _ _ _ _):=heapPush_is (lo:=lo) ga 3 ka kl kc rank hk Sk _ (w.setCell ⟨ga,4+rank,none⟩ (.int .i64 (-1))) (by have:=h1.kh.bound hkb;omega) h1.cb h1.c3 h1.ko (by have:=h1.gal;have:=h1.ga0;omega) h1.kh hnk h1.kna
  have HFIN:Hid (∀ W,PushSaid lo ga 3 kl rank (Value.slice ka kl kc).ownBlock Sk (w.setCell ⟨ga,4+rank,none⟩ (.int .i64 (-1))) W->As lo B X B2 ga sa N cs gp cp S (pl) (Pl.up ow rank (-1)) (sp) (fun x=>Su x\/(x=rank/\rank<4)) (fun x=>Sk x\/(x=rank/\¬ rank<4)) W):=by
   rintro W ⟨G,cap,h',q1,q2,q3,q4⟩
   have r:=h1.heapK q4 q1 q2 (fun y hy=>by cases hy;exact q3)
   refine⟨_,_,_,_,_,_,_,_,_,_,{ r with uh:=r.uh.set ?_,kh:=r.kh.set ?_ }⟩
   ·intro x;constructor
    ·rintro (c | c);exact c;omega
    ·exact .inl
   ·intro x;constructor
    ·rintro (c | c);exact .inl c;exact .inr c.1
    ·rintro (c | c);exact .inl c;exact .inr ⟨c,hr4⟩
  clear h1 hub hkb hnu hnk
  go_enter Tryz.func82,Tryz.ntmps82
  go_wp2_with (go_at_call 104;refine HPS.out.mono ?_;rintro e u ⟨rfl,hq⟩; have HN:Hid (As lo B X B2 ga sa N cs gp cp S (pl) (Pl.up ow rank (-1)) (sp) (fun x=>Su x\/(x=rank/\rank<4)) (fun x=>Sk x\/(x=rank/\¬ rank<4)) u):=HFIN.out _ hq;clear hq)
  go_end0
  exact⟨rfl,HN.out⟩
set_option maxRecDepth 100000 in
theorem hand_is {lo:Nat} {B:World} {X:Nat->Prop} {B2:World} {ga:Nat} {sa:Option Addr} {N cs gp cp:Nat} {S:Nat->Pl.Sp} {pl:Nat->Pl.Pc} {ow:Nat->Int} {sp:Int} {Su Sk:Nat->Prop} (r rank:Nat) (w:World) (h:As lo B X B2 ga sa N cs gp cp S (pl) (ow) (sp) (Su) (Sk) w) (hr:r<N) (hk:rank<16) (hN:N<=4000) (hG:GvT B) :
  Calls Tryz.prog 109 #[.pointer (some ⟨ga,0,none⟩),.int .i64 (r:Int),.int .i64 (rank:Int)] w fun e w'=>e=.returned (.tuple #[])/\As lo B X B2 ga sa N cs gp cp S (Pl.up pl r ⟨Pl.gv rank,-1⟩) (Pl.up ow rank (r:Int)) (sp) (Su) (Sk) w':=by
 obtain⟨C,P,ua,ul,uc,hu,ka,kl,kc,hk',hA⟩:=h
 have c4:=hA.cell (hA.c4 rank hk)
 have fz:=hA.fz
 have hgl:=hA.gal
 have h1:=hA.setOw rank (r:Int) hk
 have h2:=h1.setPl r ⟨Pl.gv rank,-1⟩ hr
 have hri0:(rank:Int)<16:=by omega
 have hri:(r:Int)<(N:Int):=by omega
 have hNi:(N:Int)<=4000:=by omega
 obtain⟨U,hU⟩:∃ U,U=w.setCell ⟨ga,4+rank,none⟩ (.int .i64 (r:Int)):=⟨_,rfl⟩
 rw[<- hU]at h1 h2
 have d1:=h1.cell h1.c1
 have hz:=h1.pz
 obtain⟨v0,hv0⟩:∃ v,U.cell? ⟨gp,r*2,none⟩=some v:=by rw[cell_of_row U gp (r*2) _ _ (0,0) h1.pb];exact⟨_,Array.getElem?_eq_getElem (by omega)⟩
 obtain⟨v1,hv1⟩:∃ v,U.cell? ⟨gp,r*2+1,none⟩=some v:=by rw[cell_of_row U gp (r*2+1) _ _ (0,0) h1.pb];exact⟨_,Array.getElem?_eq_getElem (by omega)⟩
 have fp:=h1.fzp
 have hgv:U.cell? ⟨1,rank,none⟩=some (.int .i64 (Pl.gv rank)):=by
  have q:=hG rank hk
  have hlt:=block_lt_of_cell q
  have hl:=h1.loB
  exact (h1.bel.cell (p:=⟨1,rank,none⟩) (by rw[hl];exact hlt)).trans q
 have HN:Hid (As lo B X B2 ga sa N cs gp cp S (Pl.up pl r ⟨Pl.gv rank,-1⟩) (Pl.up ow rank (r:Int)) (sp) (Su) (Sk) ((U.setCell ⟨gp,r*2,none⟩ (.int .i64 (Pl.gv rank))).setCell ⟨gp,r*2+1,none⟩ (.int .i64 (-1)))):=⟨_,_,_,_,_,_,_,_,_,_,h2⟩
 obtain⟨x,hx⟩:∃ x,x=Pl.gv rank:=⟨_,rfl⟩
 rw[<- hx]at hgv HN
 have HX:Hid (x=Pl.gv rank):=hx
 clear h1 h2 hA hG hz hx
 go_enter Tryz.func109,Tryz.ntmps109
 go_upto_region 1 with fail
 rw[<- hU]
 clear hU c4 fz
 go_region
 all_goals (
  go_wp2_with fail
  go_end0
  refine⟨rfl,?_⟩
  rw[<- HX.out]
  exact HN.out.drewN 1)
set_option maxRecDepth 100000 in
theorem spill_is {lo:Nat} {B:World} {X:Nat->Prop} {B2:World} {ga:Nat} {sa:Option Addr} {N cs gp cp:Nat} {S:Nat->Pl.Sp} {pl:Nat->Pl.Pc} {ow:Nat->Int} {sp:Int} {Su Sk:Nat->Prop} (r:Nat) (w:World) (h:As lo B X B2 ga sa N cs gp cp S (pl) (ow) (sp) (Su) (Sk) w) (hr:r<N) (hN:N<=4000) (hs:0<=sp/\sp<=1000000) :
  Calls Tryz.prog 112 #[.pointer (some ⟨ga,0,none⟩),.int .i64 (r:Int)] w fun e w'=>e=.returned (.tuple #[])/\As lo B X B2 ga sa N cs gp cp S (Pl.up pl r ⟨0,sp⟩) (ow) (sp+1) (Su) (Sk) w':=by
 obtain⟨C,P,ua,ul,uc,hu,ka,kl,kc,hk',h1⟩:=h
 have c20:=h1.cell h1.c20
 have d1:=h1.cell h1.c1
 have hgl:=h1.gal
 have hgp:=h1.gap
 have hri:(r:Int)<(N:Int):=by omega
 have hNi:(N:Int)<=4000:=by omega
 have hz:=h1.pz
 obtain⟨v0,hv0⟩:∃ v,w.cell? ⟨gp,r*2,none⟩=some v:=by rw[cell_of_row w gp (r*2) _ _ (0,0) h1.pb];exact⟨_,Array.getElem?_eq_getElem (by omega)⟩
 obtain⟨v1,hv1⟩:∃ v,w.cell? ⟨gp,r*2+1,none⟩=some v:=by rw[cell_of_row w gp (r*2+1) _ _ (0,0) h1.pb];exact⟨_,Array.getElem?_eq_getElem (by omega)⟩
 have fp:=h1.fzp
 have fz:=h1.fz
 have hgp1:¬ ga=gp:=hgp
 have hgp2:¬ gp=ga:=fun e=>hgp e.symm
 have HN:Hid (∀ k,As lo B X B2 ga sa N cs gp cp S (Pl.up pl r ⟨0,sp⟩) (ow) (sp+1) (Su) (Sk) ((((w.setCell ⟨gp,r*2,none⟩ (.int .i64 0)).setCell ⟨gp,r*2+1,none⟩ (.int .i64 sp)).drewN k).setCell ⟨ga,20,none⟩ (.int .i64 (sp+1)))):=fun k=>⟨_,_,_,_,_,_,_,_,_,_,((h1.setPl r ⟨0,sp⟩ hr).drewN k).setSp (sp+1)⟩
 clear h1 hz hgp
 go_enter Tryz.func112,Tryz.ntmps112
 go_upto_region 0 with fail
 go_region
 all_goals (
  go_wp2_with fail
  go_end0
  exact⟨rfl,HN.out 1⟩)
def As1 (lo:Nat) (B:World) (X:Nat->Prop) (B2:World) (ga:Nat) (sa:Option Addr) (N cs gp cp:Nat) (S:Nat->Pl.Sp) (pl:Nat->Pl.Pc) (ow:Nat->Int) (sp:Int) (w:World):Prop:=As lo B X B2 ga sa N cs gp cp S pl ow sp (fun x=>x<4/\ow x=-1) (fun x=>4<=x/\x<16/\ow x=-1) w
theorem As.sets {lo:Nat} {B:World} {X:Nat->Prop} {B2:World} {ga:Nat} {sa:Option Addr} {N cs gp cp:Nat} {S:Nat->Pl.Sp} {pl:Nat->Pl.Pc} {ow:Nat->Int} {sp:Int} {Su Sk Su' Sk':Nat->Prop} {w:World} (h:As lo B X B2 ga sa N cs gp cp S pl ow sp Su Sk w) (hu:∀ x,Su' x↔Su x) (hk:∀ x,Sk' x↔Sk x):As lo B X B2 ga sa N cs gp cp S pl ow sp Su' Sk' w:=by
 obtain⟨C,P,ua,ul,uc,h1,ka,kl,kc,h2,hA⟩:=h
 exact⟨_,_,_,_,_,_,_,_,_,_,{ hA with uh:=hA.uh.set hu,kh:=hA.kh.set hk }⟩
theorem As1.congr {lo:Nat} {B:World} {X:Nat->Prop} {B2:World} {ga:Nat} {sa:Option Addr} {N cs gp cp:Nat} {S:Nat->Pl.Sp} {pl:Nat->Pl.Pc} {ow:Nat->Int} {sp:Int} {ow':Nat->Int} {w:World} (h:As1 lo B X B2 ga sa N cs gp cp S (pl) (ow) (sp) w) (e:∀ k,k<16->ow' k=ow k):As1 lo B X B2 ga sa N cs gp cp S (pl) (ow') (sp) w:=by
 obtain⟨C,P,ua,ul,uc,h1,ka,kl,kc,h2,hA⟩:=h
 exact⟨_,_,_,_,_,_,_,_,_,_,{ hA with c4:=fun k hk=>by rw[e k hk];exact hA.c4 k hk,uh:=hA.uh.set fun x=>⟨fun ⟨a,b⟩=>⟨a,(e x (by omega)) ▸ b⟩,fun ⟨a,b⟩=>⟨a,(e x (by omega)).trans b⟩⟩,kh:=hA.kh.set fun x=>⟨fun ⟨a,a2,b⟩=>⟨a,a2,(e x a2) ▸ b⟩,fun ⟨a,a2,b⟩=>⟨a,a2,(e x a2).trans b⟩⟩ }⟩
theorem As1.later {lo:Nat} {B:World} {X:Nat->Prop} {B2:World} {ga:Nat} {sa:Option Addr} {N cs gp cp:Nat} {S:Nat->Pl.Sp} {pl:Nat->Pl.Pc} {ow:Nat->Int} {sp:Int} {w w':World} (h:As1 lo B X B2 ga sa N cs gp cp S (pl) (ow) (sp) w) (hb:Below w.heap.size w w'):As1 lo B X B2 ga sa N cs gp cp S (pl) (ow) (sp) w':=As.later h hb
theorem As1.drewN {lo:Nat} {B:World} {X:Nat->Prop} {B2:World} {ga:Nat} {sa:Option Addr} {N cs gp cp:Nat} {S:Nat->Pl.Sp} {pl:Nat->Pl.Pc} {ow:Nat->Int} {sp:Int} {w:World} (h:As1 lo B X B2 ga sa N cs gp cp S (pl) (ow) (sp) w) (k:Nat):As1 lo B X B2 ga sa N cs gp cp S (pl) (ow) (sp) (w.drewN k):=As.drewN h k
theorem As1.bel {lo:Nat} {B:World} {X:Nat->Prop} {B2:World} {ga:Nat} {sa:Option Addr} {N cs gp cp:Nat} {S:Nat->Pl.Sp} {pl:Nat->Pl.Pc} {ow:Nat->Int} {sp:Int} {w:World} (h:As1 lo B X B2 ga sa N cs gp cp S (pl) (ow) (sp) w):Below lo B w/\lo=B.heap.size/\ga<w.heap.size/\lo<=ga:=by
 obtain⟨C,P,ua,ul,uc,h1,ka,kl,kc,h2,hA⟩:=h
 exact⟨hA.bel,hA.loB,hA.gal,hA.ga0⟩
theorem free1_is {lo:Nat} {B:World} {X:Nat->Prop} {B2:World} {ga:Nat} {sa:Option Addr} {N cs gp cp:Nat} {S:Nat->Pl.Sp} {pl:Nat->Pl.Pc} {ow:Nat->Int} {sp:Int} (rank:Nat) (w:World) (h:As1 lo B X B2 ga sa N cs gp cp S (pl) (ow) (sp) w) (hr:rank<16) (hn:ow rank≠-1) :
  Calls Tryz.prog 82 #[.pointer (some ⟨ga,0,none⟩),.int .i64 (rank:Int)] w fun e w'=>e=.returned (.tuple #[])/\As1 lo B X B2 ga sa N cs gp cp S (pl) (Pl.up ow rank (-1)) (sp) w':=by
 refine (free_is rank w h hr (fun _ c=>hn c.2) (fun _ c=>hn c.2.2) (fun x c=>by omega) (fun x c=>c.2.1)).mono fun e w' q=>⟨q.1,q.2.sets (fun x=>?_) (fun x=>?_)⟩
 ·by_cases c:x=rank
  ·subst c;rw[Pl.up_i];exact⟨fun ⟨a,_⟩=>.inr ⟨rfl,a⟩,fun a=>⟨a.elim (fun b=>b.1) (fun b=>b.2),rfl⟩⟩
  ·rw[Pl.up_o _ _ c];exact⟨fun a=>.inl a,fun a=>a.elim id (fun b=>absurd b.1 c)⟩
 ·by_cases c:x=rank
  ·subst c;rw[Pl.up_i];exact⟨fun ⟨a,_,_⟩=>.inr ⟨rfl,by omega⟩,fun a=>⟨a.elim (fun b=>b.1) (fun b=>by omega),hr,rfl⟩⟩
  ·rw[Pl.up_o _ _ c];exact⟨fun a=>.inl a,fun a=>a.elim id (fun b=>absurd b.1 c)⟩
theorem run_idx16 (arr:Array Value) (k:Nat) (v:Value) (hk:k<16) (h:arr[k]?=some v) (w:World):(Instr.index 134 (.agg arr) (.int .i64 (k:Int))).run Tryz.prog w=.ok v w:=by
 have hu:=run_underlying (P:=Tryz.prog) (w:=w) Tryz.underlying134
 have hu3:=run_underlying (P:=Tryz.prog) (w:=w) Tryz.underlying3
 obtain⟨i0,hi,hz0,hz1,hz2⟩:=info_parts Tryz.infoi64
 have hk1:(0:Int)<=(k:Int)/\(k:Int)<16:=by omega
 simp[Instr.index,asIntOf,go_sem,hu,hu3,part,isAgg,sizeOf,typeInfo,hi,hz1,hk1,h]
 intro hc
 omega
def bkk (S:Nat->Pl.Sp) (f:Int) (ow:Nat->Int) (k j:Nat):Int:=if j<k then Pl.bk S f ow j else ow j
theorem bkk_k (S:Nat->Pl.Sp) (f:Int) (ow:Nat->Int) (k:Nat):bkk S f ow k k=ow k:=if_neg (Nat.lt_irrefl _)
theorem bkk_yes {S:Nat->Pl.Sp} {f:Int} {ow:Nat->Int} {k:Nat} (h:Pl.bk S f ow k=-1):bkk S f ow (k+1)=Pl.up (bkk S f ow k) k (-1):=by
 funext j
 simp only[bkk,Pl.up]
 by_cases c:j=k
 ·subst c;rw[if_pos (by omega),if_pos rfl,h]
 ·rw[if_neg c]
  by_cases d:j<k
  ·rw[if_pos (by omega),if_pos d]
  ·rw[if_neg (by omega),if_neg d]
theorem bkk_no {S:Nat->Pl.Sp} {f:Int} {ow:Nat->Int} {k:Nat} (h:Pl.bk S f ow k=ow k):bkk S f ow (k+1)=bkk S f ow k:=by
 funext j
 unfold bkk
 by_cases c:j=k
 ·subst c;rw[if_pos (by omega),if_neg (by omega),h]
 ·by_cases d:j<k
  ·rw[if_pos (by omega),if_pos d]
  ·rw[if_neg (by omega),if_neg d]
set_option maxRecDepth 100000 in
theorem giveBack_is {lo:Nat} {B:World} {X:Nat->Prop} {B2:World} {ga:Nat} {sa:Option Addr} {N cs gp cp:Nat} {S:Nat->Pl.Sp} {pl:Nat->Pl.Pc} {ow:Nat->Int} {sp:Int} (f:Int) (w:World) (h:As1 lo B X B2 ga sa N cs gp cp S (pl) (ow) (sp) w) (hN:N<=4000) (hS:RS B sa N S) (ho:∀ k,k<16->ow k=-1\/∃ q:Nat,q<N/\ow k=q) :
  Calls Tryz.prog 84 #[.pointer (some ⟨ga,0,none⟩),.int .i64 f] w fun e w'=>e=.returned (.tuple #[])/\As1 lo B X B2 ga sa N cs gp cp S (pl) (Pl.bk S f ow) (sp) w':=by
 have H0:Hid ((As1 lo B X B2 ga sa N cs gp cp S (pl) (ow) (sp) w)/\RS B sa N S/\∀ k,k<16->ow k=-1\/∃ q:Nat,q<N/\ow k=q):=⟨h,hS,ho⟩
 obtain⟨C,P,ua,ul,uc,hu,ka,kl,kc,hk,hA⟩:=h
 have c0:w.cell? ⟨ga,4,none⟩=some (.int .i64 (ow 0)):=hA.cell (hA.c4 0 (by decide))
 have c1:w.cell? ⟨ga,5,none⟩=some (.int .i64 (ow 1)):=hA.cell (hA.c4 1 (by decide))
 have c2:w.cell? ⟨ga,6,none⟩=some (.int .i64 (ow 2)):=hA.cell (hA.c4 2 (by decide))
 have c3:w.cell? ⟨ga,7,none⟩=some (.int .i64 (ow 3)):=hA.cell (hA.c4 3 (by decide))
 have c4:w.cell? ⟨ga,8,none⟩=some (.int .i64 (ow 4)):=hA.cell (hA.c4 4 (by decide))
 have c5:w.cell? ⟨ga,9,none⟩=some (.int .i64 (ow 5)):=hA.cell (hA.c4 5 (by decide))
 have c6:w.cell? ⟨ga,10,none⟩=some (.int .i64 (ow 6)):=hA.cell (hA.c4 6 (by decide))
 have c7:w.cell? ⟨ga,11,none⟩=some (.int .i64 (ow 7)):=hA.cell (hA.c4 7 (by decide))
 have c8:w.cell? ⟨ga,12,none⟩=some (.int .i64 (ow 8)):=hA.cell (hA.c4 8 (by decide))
 have c9:w.cell? ⟨ga,13,none⟩=some (.int .i64 (ow 9)):=hA.cell (hA.c4 9 (by decide))
 have c10:w.cell? ⟨ga,14,none⟩=some (.int .i64 (ow 10)):=hA.cell (hA.c4 10 (by decide))
 have c11:w.cell? ⟨ga,15,none⟩=some (.int .i64 (ow 11)):=hA.cell (hA.c4 11 (by decide))
 have c12:w.cell? ⟨ga,16,none⟩=some (.int .i64 (ow 12)):=hA.cell (hA.c4 12 (by decide))
 have c13:w.cell? ⟨ga,17,none⟩=some (.int .i64 (ow 13)):=hA.cell (hA.c4 13 (by decide))
 have c14:w.cell? ⟨ga,18,none⟩=some (.int .i64 (ow 14)):=hA.cell (hA.c4 14 (by decide))
 have c15:w.cell? ⟨ga,19,none⟩=some (.int .i64 (ow 15)):=hA.cell (hA.c4 15 (by decide))
 have hgl:=hA.gal
 clear hA hS ho
 obtain⟨arr,harr⟩:∃ arr:Array Value,arr=#[.int .i64 (ow 0),.int .i64 (ow 1),.int .i64 (ow 2),.int .i64 (ow 3),.int .i64 (ow 4),.int .i64 (ow 5),.int .i64 (ow 6),.int .i64 (ow 7),.int .i64 (ow 8),.int .i64 (ow 9),.int .i64 (ow 10),.int .i64 (ow 11),.int .i64 (ow 12),.int .i64 (ow 13),.int .i64 (ow 14),.int .i64 (ow 15)]:=⟨_,rfl⟩
 have HARR:Hid (arr.size=16/\∀ k,k<16->arr[k]?=some (.int .i64 (ow k))):=by
  rw[harr]
  refine⟨rfl,fun k hk=>?_⟩
  rcases (show k=0\/k=1\/k=2\/k=3\/k=4\/k=5\/k=6\/k=7\/k=8\/k=9\/k=10\/k=11\/k=12\/k=13\/k=14\/k=15 by omega) with rfl | rfl | rfl | rfl | rfl | rfl | rfl | rfl | rfl | rfl | rfl | rfl | rfl | rfl | rfl | rfl <;> rfl
 go_enter Tryz.func84,Tryz.ntmps84
 go_wp2_with fail
 rw[<- harr]
 clear harr c0 c1 c2 c3 c4 c5 c6 c7 c8 c9 c10 c11 c12 c13 c14 c15
 go_loopw [10] (fun t W=>∃ k:Nat,k<=16/\t=.int .i64 (k:Int)/\Hid (As1 lo B X B2 ga sa N cs gp cp S (pl) (bkk S f ow k) (sp) W)) (fun t _=>16-(intOf t).toNat)
 case atStart=>exact⟨0,Nat.zero_le _,rfl,H0.out.1.congr fun k hk=>if_neg (Nat.not_lt_zero _)⟩
 case round=>
  obtain⟨k,hk16,rfl,HX⟩:=hrel
  by_cases hlt:k<16
  rotate_left
  ·have hki:¬ (k:Int)<16:=by omega
   have HE:Hid (As1 lo B X B2 ga sa N cs gp cp S (pl) (Pl.bk S f ow) (sp) wr):=HX.out.congr fun j hj=>(if_pos (by omega)).symm
   go_wp2_with fail
   go_end0
   exact⟨rfl,HE.out⟩
  have hki:(k:Int)<16:=by omega
  have hz:=HARR.out.1
  have ha:=HARR.out.2 k hlt
  obtain⟨o,ho⟩:∃ o,o=ow k:=⟨_,rfl⟩
  rw[<- ho]at ha
  have HOW:Hid (o=ow k):=ho
  clear ho
  have hidx:=fun u=>run_idx16 arr k _ hlt ha u
  clear ha hz
  have HNO:Hid (Pl.bk S f ow k=ow k->As1 lo B X B2 ga sa N cs gp cp S (pl) (bkk S f ow (k+1)) (sp) wr):=fun e=>by rw[bkk_no e];exact HX.out
  rcases H0.out.2.2 k hlt with hm | ⟨q,hq,hoq⟩
  ·have ho1:o=-1:=HOW.out.trans hm
   have HN:Hid (As1 lo B X B2 ga sa N cs gp cp S (pl) (bkk S f ow (k+1)) (sp) wr):=HNO.out (by unfold Pl.bk;rw[if_neg (fun c=>c.1 hm)])
   subst ho1
   clear hm
   go_wp2_with fail
   exact⟨⟨k+1,by omega,by go_num,HN⟩,by simp[intOf];omega⟩
  have ho1:o=(q:Int):=HOW.out.trans hoq
  subst ho1
  have hb1:((q:Int) != -1)=true:=by simp
  have hb2:¬ ((q:Int)=-1):=by omega
  obtain⟨b1,b2,b3,b4⟩:=HX.out.bel
  obtain⟨gs,hsa,hgs,hcell⟩:=(H0.out.2.1.keep (show Below B.heap.size B wr from b2 ▸ b1)).2.resolve_left (by omega)
  have ct:wr.cell? ⟨gs,q*3+1,none⟩=some (.int .i64 (S q).tt):=hcell q hq 1 (by omega)
  obtain⟨C1,P1,ua1,ul1,uc1,hu1,ka1,kl1,kc1,hk1,hA1⟩:=HX.out
  have cs0:=hA1.cell hA1.c0
  rw[hsa]at cs0
  have hqi:(q:Int)<(N:Int):=by omega
  have hNi:(N:Int)<=4000:=by omega
  obtain⟨T,hT⟩:∃ T,T=(S q).tt:=⟨_,rfl⟩
  rw[<- hT]at ct
  have HQ:Hid (ow k=(q:Int)/\T=(S q).tt):=⟨hoq,hT⟩
  have hgl1:ga<wr.heap.size:=b3
  clear hcell hA1 b1 b2 b3 b4 hT hoq
  by_cases hlt2:T<f
  ·have hd:decide (T<f)=true:=by simp[hlt2]
   have HY:Hid (Pl.bk S f ow k=-1):=by show Pl.bk S f ow k=-1;unfold Pl.bk;rw[if_pos ⟨by rw[HQ.out.1];exact hb2,by rw[HQ.out.1];have:=HQ.out.2;show (S q).tt<f;omega⟩]
   have HF:Hid (Calls _ _ _ _ _):=free1_is k wr HX.out hlt (by rw[bkk_k,HQ.out.1];exact hb2)
   go_wp2_with (go_at_call 82;refine HF.out.mono ?_;rintro e u ⟨rfl,hq9⟩; have HN:Hid (As1 lo B X B2 ga sa N cs gp cp S (pl) (bkk S f ow (k+1)) (sp) u):=(bkk_yes HY.out) ▸ hq9;clear hq9)
   exact⟨⟨k+1,by omega,by go_num,HN⟩,by simp[intOf];omega⟩
  ·have hd:decide (T<f)=false:=by simp;omega
   have HN:Hid (As1 lo B X B2 ga sa N cs gp cp S (pl) (bkk S f ow (k+1)) (sp) wr):=HNO.out (by unfold Pl.bk;rw[if_neg (fun c=>by have h2:=c.2;rw[HQ.out.1]at h2;have h3:(S q).tt<f:=h2;have:=HQ.out.2;omega)])
   go_wp2_with fail
   exact⟨⟨k+1,by omega,by go_num,HN⟩,by simp[intOf];omega⟩
end Go.Proofs.YtcgfgmlfbgbkfaaGreatDoor.W
