import Derived.Test.YtjcdiegfnoaedaaGreatDoorZ18
import Derived.Test.YtjcdiegfnoaedaaGreatDoorZ31
set_option linter.unusedVariables false
set_option linter.unusedSimpArgs false
set_option maxHeartbeats 16000000
namespace Go.Proofs.YtjcdiegfnoaedaaGreatDoor
namespace Pl
def asS (j:Nat):ByteArray:=if yD (j:Int) then uU.getD j ⟨#[]⟩++⟨#[61]⟩ else ⟨#[]⟩
def Ja (k:Nat):List ByteArray:=(List.range 19).map fun j=>if j<k then asS j else uU.getD j ⟨#[]⟩
theorem yK (k:Nat):(Ja k).length=19:=by simp[Ja]
theorem aCX (k:Nat){j:Nat}(hj:j<19):(Ja k).getD j ⟨#[]⟩=if j<k then asS j else uU.getD j ⟨#[]⟩:=by
 unfold Ja;rw[List.getD_eq_getElem?_getD,List.getElem?_map,List.getElem?_range hj];rfl
theorem Xn {k:Nat}(hk:k<19):(Ja k).set k (asS k)=Ja (k+1):=by
 apply List.ext_getElem
 ·rw[List.length_set,yK,yK]
 ·intro j h1 h2;rw[yK]at h2;rw[List.getElem_set];simp only[Ja,List.getElem_map,List.getElem_range];by_cases q:k=j
  ·subst q;simp
  ·rw[if_neg q];by_cases q2:j<k
   ·rw[if_pos q2,if_pos (by omega)]
   ·rw[if_neg q2,if_neg (by omega)]
theorem Xo:∀j:Fin 17,(Ja 19).getD j.val ⟨#[]⟩=PL.getD j.val ⟨#[]⟩:=by decide +kernel
theorem aCY:∀j:Fin 19,(uU.getD j.val ⟨#[]⟩).size<=2:=by decide +kernel
theorem Pz:Ja 0=uU:=by decide +kernel
end Pl
namespace W
open Go.RowKit
variable {Ex:Nat->Prop}
def BL (k:Nat):Array Value:=((Pl.Ja k).map Value.string).toArray
theorem Cj (k:Nat){j:Nat}(hj:j<19):(BL k)[j]?=some (.string ((Pl.Ja k).getD j ⟨#[]⟩)):=by
 unfold BL;rw[List.getElem?_toArray,List.getElem?_map,List.getElem?_eq_getElem (by rw[Pl.yK];exact hj),List.getD_eq_getElem?_getD,List.getElem?_eq_getElem (by rw[Pl.yK];exact hj)];rfl
theorem Qa {k:Nat}(hk:k<19):(BL k).setIfInBounds k (.string (Pl.asS k))=BL (k+1):=by
 unfold BL;rw[List.setIfInBounds_toArray,<- Pl.Xn hk,List.map_set]
theorem OA (w:World):Calls Tryz.prog 113 #[] w fun e w'=>e=.returned (.slice (some ⟨w.heap.size,0,none⟩) 19 19)/\w'=w.alloc (.cells (BL 0) 9):=by
 have e0:w.alloc (.cells (BL 0) 9)=w.alloc (.cells (Pl.uU.map Value.string).toArray 9):=by unfold BL;rw[Pl.Pz]
 rw[e0];go_enter Tryz.func113,Tryz.ntmps113;go_wp2;go_ret;exact⟨rfl,rfl⟩
set_option maxRecDepth 4000 in
theorem Xp (w:World):Calls Tryz.prog 114 #[] w fun e w'=>RG (Pl.Ja 19) 19 w e w':=by
 go_enter Tryz.func114,Tryz.ntmps114;go_wp2_with ((go_at_call 113;refine (OA _).mono ?_;rintro e z ⟨rfl,hz⟩;have ZB:Hid (z.heap[w.heap.size]?=some (.cells (BL 0) 9)):=(by show z.heap[w.heap.size]?=_;rw[hz];exact heap_alloc_new w _);have ZD:Hid (Bw w z):=(by show Below _ w z;rw[hz];exact aA w _);clear hz))
 obtain⟨g,hg⟩:∃g,g=w.heap.size:=⟨_,rfl⟩;rw[<- hg]at ZB ⊢;have HG:Hid (g=w.heap.size):=hg;clear hg;go_loopw [6] (fun i wr=>∃k:Nat,i=.int .i64 (k:Int)/\k<=19/\Hid (wr.heap[g]?=some (.cells (BL k) 9))/\Hid (Bw w wr)) (fun i _=>19-(intOf i).toNat)
 case atStart=>exact⟨0,rfl,Nat.zero_le _,ZB.o,ZD.o⟩
 case round=>
  clear ZB ZD;obtain⟨k,rfl,hk,S,D⟩:=hrel;by_cases hlt:k<19
  ·have hi:(k:Int)<19:=(by omega);have hi0:(0:Int)<=(k:Int):=(by omega);have hc:wr.cell? ⟨g,k,none⟩=some (.string (Pl.uU.getD k ⟨#[]⟩)):=(by rw[cell_of_row wr g k _ 9 (0,0) S.o,Cj k hlt,Pl.aCX k hlt,if_neg (by omega)]);have hfz:wr.frozen? ⟨g,k,none⟩=false:=frozen_of_row wr g k _ 9 S.o;have S2:∀s,s=Pl.asS k->Hid ((wr.setCell ⟨g,k,none⟩ (.string s)).heap[g]?=some (.cells (BL (k+1)) 9)):=fun s hs=>by
    show _=_;rw[heap_setCell_same wr g k _ 9 _ S.o,hs,Qa hlt]
   have D2:∀s:Value,Hid (Bw w (wr.setCell ⟨g,k,none⟩ s)):=fun s=>D.o.setCell (by have:=HG.o;show _<=g;omega) s;have HS2:Hid (∀s,s=Pl.asS k->Hid ((wr.setCell ⟨g,k,none⟩ (.string s)).heap[g]?=some (.cells (BL (k+1)) 9))):=S2;have HD2:Hid (∀s:Value,Hid (Bw w (wr.setCell ⟨g,k,none⟩ s))):=D2;clear S2 D2;generalize hb:Pl.uU.getD k ⟨#[]⟩=sb at hc;have hsz:sb.size<=2:=(by rw[<- hb];exact Pl.aCY ⟨k,hlt⟩);have HSB:Hid (Pl.uU.getD k ⟨#[]⟩=sb):=hb;clear hb;by_cases hq:Pl.yD (k:Int)=true
   ·have HQ:Hid (Pl.yD (k:Int)=true):=hq;clear hq;go_wp2_with ((go_at_call 100;refine (sW (k:Int) _).mono ?_;rintro e z ⟨rfl,hz⟩;rw[hz,HQ.o];clear hz))
    go_roundw
    case rel=>exact⟨k+1,by go_num,by omega,HS2.o _ (by unfold Pl.asS;rw[if_pos HQ.o,HSB.o]),HD2.o _⟩
    case measure=>simp[intOf];omega
   ·have HQ:Hid (Pl.yD (k:Int)=false):=(by show Pl.yD (k:Int)=false;simpa using hq);clear hq;go_wp2_with ((go_at_call 100;refine (sW (k:Int) _).mono ?_;rintro e z ⟨rfl,hz⟩;rw[hz,HQ.o];clear hz))
    go_roundw
    case rel=>exact⟨k+1,by go_num,by omega,HS2.o _ (by unfold Pl.asS;rw[if_neg (by rw[HQ.o];decide)]),HD2.o _⟩
    case measure=>simp[intOf];omega
  ·have hi:¬(k:Int)<19:=(by omega);have hk9:k=19:=(by omega);go_wp2;go_ret;have S1:=S.o;rw[hk9]at S1;exact⟨g,rfl,Nat.le_of_eq HG.o.symm,(Array.getElem?_eq_some_iff.1 S1).1,fun j hj=>by rw[cell_of_row wr g j _ 9 (0,0) S1,Cj 19 hj],D.o⟩
variable {Ex:Nat->Prop}
theorem AV (x:Pl.Nd) (v:SV) (k:Int) (hx:x.k=k) (w:World):Calls Tryz.prog 99 #[.agg #[.int .i64 k,.int .i64 x.m,.int .i64 x.n,.string x.s,.slice v.a v.len v.cap,.int .i64 x.line,.int .i64 x.aQ]] w fun e w'=>e=.returned (.agg #[.int .i64 (if k=34 then 4 else 3),.string x.s,.int .i64 x.n,.int .i64 0,.int .i64 0])/\Bw w w':=by
 subst hx;exact yG x v w
set_option maxRecDepth 4000 in
theorem aCZ {U w:World}{a:Option Addr}{m c:Nat}{vs:List Value}{ks:List Pl.Tx}{kd:List Int}{lit:Pl.Nd->ByteArray}(x:Pl.Nd) (v:SV) (hK:Kz Ex U w a m c vs ks kd) (hf:Pl.BK x.k kd) (hE:nR w/\bD w/\iH w) (hbd:(-9223372036854775808<=x.n/\x.n<=9223372036854775807)/\x.s.size<=1048576) (Qb:x.k=33\/x.k=34->lit x=Pl.EK ⟨if x.k=34 then 4 else 3,x.s,x.n,0,0⟩) (YL:x.k=40\/x.k=41->1<=x.m/\x.m<=2) (Qc:x.k=42->1<=x.m/\x.m<=6) (Qd:x.k=46->1<=x.m/\x.m<=18) (Qe:x.k=48->0<=x.m/\x.m<=16) (hk:x.k=33\/x.k=34\/x.k=35\/x.k=36\/x.k=37\/x.k=38\/x.k=39\/x.k=40\/x.k=41\/x.k=42\/x.k=43\/x.k=44\/x.k=45\/x.k=46\/x.k=47\/x.k=48\/x.k=49):Calls Tryz.prog 77 #[.agg #[.int .i64 x.k,.int .i64 x.m,.int .i64 x.n,.string x.s,.slice v.a v.len v.cap,.int .i64 x.line,.int .i64 x.aQ],.slice a m c] w fun e u'=>yJ Ex U w x (Pl.aR lit x ks) e u':=by
 have HK:Hid (x.k=33\/x.k=34\/x.k=35\/x.k=36\/x.k=37\/x.k=38\/x.k=39\/x.k=40\/x.k=41\/x.k=42\/x.k=43\/x.k=44\/x.k=45\/x.k=46\/x.k=47\/x.k=48\/x.k=49):=hk;have KD:Hid (Kz Ex U w a m c vs ks kd):=hK;have HF:Hid (Pl.BK x.k kd):=hf;obtain⟨TX,FN⟩:∃TX,TX=Pl.aR lit x ks:=⟨_,rfl⟩;have HT:Hid (TX=Pl.aR lit x ks):=FN;rw[<- FN];clear hK hf hk FN;go_enter Tryz.func77,Tryz.ntmps77;go_upto_region 1 with fail
 refine aG fun y hy=>?_;obtain⟨n0,hn0,QB,D,kb,HY⟩:=Py hy;rw[<- hn0];clear hy hn0;have hk:=HK.o;clear HK;rcases hk with hk|hk|hk|hk|hk|hk|hk|hk|hk|hk|hk|hk|hk|hk|hk|hk|hk
 ·have EE:Hid (∀z,Bw w z->nR z/\bD z/\iH z):=fun z d=>⟨hE.1.on d,hE.2.1.below d,hE.2.2.below d⟩;have HL:=Qb (by simp[hk]);have HX:Hid (lit x=Pl.EK ⟨3,x.s,x.n,0,0⟩):=by rw[hk]at HL;exact HL
  have HB:Hid ((-9223372036854775808<=x.n/\x.n<=9223372036854775807)/\x.s.size<=1048576):=hbd;clear hE HL hbd;go_wp2_with (first|(go_at_call 99;refine (AV x v _ hk _).mono ?_;rintro e z ⟨rfl,d9⟩;have D8:Hid (Bw w z):=D.o.trans (d9.mono D.o.size);clear d9)|(go_at_call 98;refine (zL ⟨3,x.s,x.n,0,0⟩ HB.o.1.1 HB.o.1.2 HB.o.2 _ (EE.o _ D8.o).1 (EE.o _ D8.o).2.1 (EE.o _ D8.o).2.2).mono ?_;rintro e z9 ⟨rfl,d9⟩;have D9:Hid (Bw w z9):=D8.o.trans (d9.mono D8.o.size);clear d9))
  go_ret;refine⟨_,_,rfl,D9.o.mono KD.o.old.size,?_⟩;rw[HT.o];unfold Pl.aR;rw[hk,HX.o];exact bA.nC NW
 ·have EE:Hid (∀z,Bw w z->nR z/\bD z/\iH z):=fun z d=>⟨hE.1.on d,hE.2.1.below d,hE.2.2.below d⟩;have HL:=Qb (by simp[hk]);have HX:Hid (lit x=Pl.EK ⟨4,x.s,x.n,0,0⟩):=by rw[hk]at HL;exact HL
  have HB:Hid ((-9223372036854775808<=x.n/\x.n<=9223372036854775807)/\x.s.size<=1048576):=hbd;clear hE HL hbd;go_wp2_with (first|(go_at_call 99;refine (AV x v _ hk _).mono ?_;rintro e z ⟨rfl,d9⟩;have D8:Hid (Bw w z):=D.o.trans (d9.mono D.o.size);clear d9)|(go_at_call 98;refine (zL ⟨4,x.s,x.n,0,0⟩ HB.o.1.1 HB.o.1.2 HB.o.2 _ (EE.o _ D8.o).1 (EE.o _ D8.o).2.1 (EE.o _ D8.o).2.2).mono ?_;rintro e z9 ⟨rfl,d9⟩;have D9:Hid (Bw w z9):=D8.o.trans (d9.mono D8.o.size);clear d9))
  go_ret;refine⟨_,_,rfl,D9.o.mono KD.o.old.size,?_⟩;rw[HT.o];unfold Pl.aR;rw[hk,HX.o];exact bA.nC NW
 ·go_wp2_with fail
  all_goals
   go_ret;refine KD.o.got HT.o fun dd=>?_;unfold Pl.aR;rw[hk];exact bA.nC (NW)
 ·obtain⟨f9,l9,l7,l6,ga,rfl,hg2,hmc,hcm,hl1⟩:=KD.o.ga 2 (F:=[101,101]) (more:=0) (most:=0) (HF.o.of hk);have hl2:(1:Int)<(m:Int):=by omega
  obtain⟨T0,d0,q0,oZ⟩:=KD.o.gj D.o 0;obtain⟨T1,d1,q1,FO⟩:=KD.o.gj D.o 1;go_upto_region 8 with fail
  go_quiet (fail)
  go_wp2_with fail
  all_goals
   go_ret;refine KD.o.got HT.o fun dd=>?_;unfold Pl.aR;rw[hk];exact bA.nC (Px (xC oZ dd f9) (xC FO dd f9))
 ·obtain⟨f9,l9,l7,l6,ga,rfl,hg2,hmc,hcm,hl1⟩:=KD.o.ga 1 (F:=[101]) (more:=69) (most:=4000) (HF.o.of hk);have hl0:(1:Int)<=(m:Int):=by omega
  obtain⟨T0,d0,q0,oZ⟩:=KD.o.gj D.o 0;go_upto_region 10 with fail
  go_quiet (fail)
  go_wp2_with fail
  all_goals
   go_ret;refine KD.o.got HT.o fun dd=>?_;unfold Pl.aR;rw[hk];exact bA.nC (Xi (xC oZ dd f9) (KD.o.drop 1 (by omega) (fun j h1 h2=>Pl.jV (Pl.kZ f9 h1 (by omega)) (by decide) (by decide)) dd _ (by first|exact .inl rfl|(right;omega))))
 ·obtain⟨f9,l9,l7,l6,ga,rfl,hg2,hmc,hcm,hl1⟩:=KD.o.ga 1 (F:=[101]) (more:=0) (most:=0) (HF.o.of hk);obtain⟨T0,d0,q0,oZ⟩:=KD.o.gj D.o 0;have cq3:y.cell? ⟨n0,3,none⟩=some (.string x.s):=kb 3;have hga:ga<y.heap.size:=Nat.lt_of_lt_of_le hg2 D.o.size;go_upto_region 12 with fail
  have hl4:0<m:=by omega
  refine wp_region_held_drew (S:=C2 n0 3 ga (.string x.s) (.iface T0 d0)) (by kernel_rfl) (Eg ⟨cq3,q0⟩) fun hH=>?_;refine Vg [0,1,2,3,4] hH ?_
  iterate 5 (refine⟨_,_,_,rfl,rfl,by kernel_rfl,by rfl,fun _ _ _ h=>h,fun w h=>by go_simp;try with_reducible rfl,?_⟩;simp only[Act.put,List.setIfInBounds_toArray,List.set_cons_zero,List.set_cons_succ,List.getElem_toArray,List.getElem_cons_zero,List.getElem_cons_succ])
  refine one 5 (by kernel_rfl) rfl fun K9 hK=>?_
  go_simp
  refine hK.out _ _ (by first|exact Eg ⟨cq3,q0⟩|exact Eg hH) fun hH=>?_;clear hK K9;refine Ei [6,7,8] hH ?_
  iterate 3 (refine⟨_,_,_,rfl,rfl,by kernel_rfl,by rfl,by go_simp;try with_reducible rfl,?_⟩;simp only[Act.put,List.setIfInBounds_toArray,List.set_cons_zero,List.set_cons_succ,List.getElem_toArray,List.getElem_cons_zero,List.getElem_cons_succ])
  refine wpAnyH_done (by kernel_rfl) ?_ _;go_wp2_with fail
  all_goals
   go_ret;refine KD.o.got HT.o fun dd=>?_;unfold Pl.aR;rw[hk];exact bA.nC (kR.cg (xA (xC oZ dd f9) (AU KD.o (by first|exact D.o|exact D8.o) [⟨#[46]⟩,x.s] (by simp) rfl)) (by simp[Pl.nD,Pl.rU]) rfl)
 ·obtain⟨f9,l9,l7,l6,ga,rfl,hg2,hmc,hcm,hl1⟩:=KD.o.ga 1 (F:=[101]) (more:=0) (most:=0) (HF.o.of hk);obtain⟨T0,d0,q0,oZ⟩:=KD.o.gj D.o 0;have cq3:y.cell? ⟨n0,3,none⟩=some (.string x.s):=kb 3;have hga:ga<y.heap.size:=Nat.lt_of_lt_of_le hg2 D.o.size;go_upto_region 14 with fail
  have hl4:0<m:=by omega
  refine wp_region_held_drew (S:=C2 n0 3 ga (.string x.s) (.iface T0 d0)) (by kernel_rfl) (Eg ⟨cq3,q0⟩) fun hH=>?_;refine Vg [0,1,2,3,4] hH ?_
  iterate 5 (refine⟨_,_,_,rfl,rfl,by kernel_rfl,by rfl,fun _ _ _ h=>h,fun w h=>by go_simp;try with_reducible rfl,?_⟩;simp only[Act.put,List.setIfInBounds_toArray,List.set_cons_zero,List.set_cons_succ,List.getElem_toArray,List.getElem_cons_zero,List.getElem_cons_succ])
  refine one 5 (by kernel_rfl) rfl fun K9 hK=>?_
  go_simp
  refine hK.out _ _ (by first|exact Eg ⟨cq3,q0⟩|exact Eg hH) fun hH=>?_;clear hK K9;refine Ei [6,7,8] hH ?_
  iterate 3 (refine⟨_,_,_,rfl,rfl,by kernel_rfl,by rfl,by go_simp;try with_reducible rfl,?_⟩;simp only[Act.put,List.setIfInBounds_toArray,List.set_cons_zero,List.set_cons_succ,List.getElem_toArray,List.getElem_cons_zero,List.getElem_cons_succ])
  refine wpAnyH_done (by kernel_rfl) ?_ _;go_wp2_with fail
  all_goals
   go_ret;refine KD.o.got HT.o fun dd=>?_;unfold Pl.aR;rw[hk];exact bA.nC (kR.cg (xA (xC oZ dd f9) (AU KD.o (by first|exact D.o|exact D8.o) [⟨#[45,62]⟩,x.s] (by simp) rfl)) (by simp[Pl.nD,Pl.rU]) rfl)
 ·obtain⟨f9,l9,l7,l6,ga,rfl,hg2,hmc,hcm,hl1⟩:=KD.o.ga 1 (F:=[101]) (more:=0) (most:=0) (HF.o.of hk);obtain⟨T0,d0,q0,oZ⟩:=KD.o.gj D.o 0;have hn1:1<=x.m:=(YL (.inl hk)).1;have hn2:x.m<=2:=(YL (.inl hk)).2;have VX:(0:Int)<=x.m:=by omega
  have hn4:x.m<3:=by omega
  have Eh:y.cell? ⟨n0,1,none⟩=some (.int .i64 x.m):=kb 1;have hga:ga<y.heap.size:=Nat.lt_of_lt_of_le hg2 D.o.size;go_upto_region 16 with fail
  have hl4:0<m:=by omega
  refine wp_region_held_drew (S:=C2 n0 1 ga (.int .i64 x.m) (.iface T0 d0)) (by kernel_rfl) (Eg ⟨Eh,q0⟩) fun hH=>?_;refine Vg [0,1,2,4,5] hH ?_
  iterate 5 (refine⟨_,_,_,rfl,rfl,by kernel_rfl,by rfl,fun _ _ _ h=>h,fun w h=>by go_simp;try with_reducible rfl,?_⟩;simp only[Act.put,List.setIfInBounds_toArray,List.set_cons_zero,List.set_cons_succ,List.getElem_toArray,List.getElem_cons_zero,List.getElem_cons_succ])
  refine one 3 (by kernel_rfl) rfl fun K9 hK=>?_
  go_simp
  refine (RH _).mono ?_;rintro e z ⟨g9,rfl,VM,Ev,sZ,d9⟩;have d8:Bw y z:=Below.trans (by apply_rules [Below.refl,Below.drew,below_drewN]) d9;have c8:=sZ x.m.toNat (by omega);have D8:Hid (Bw w z):=D.o.trans (d8.mono D.o.size);clear sZ d9 VM Ev;refine hK.out _ _ (Eg ⟨Eh,q0⟩ d8) fun hH=>?_;clear hK K9;refine Ei [6,7] hH ?_
  iterate 2 (refine⟨_,_,_,rfl,rfl,by kernel_rfl,by rfl,by go_simp;try with_reducible rfl,?_⟩;simp only[Act.put,List.setIfInBounds_toArray,List.set_cons_zero,List.set_cons_succ,List.getElem_toArray,List.getElem_cons_zero,List.getElem_cons_succ])
  refine one 8 (by kernel_rfl) rfl fun K9 hK=>?_
  go_simp
  refine hK.out _ _ (by first|exact Eg ⟨Eh,q0⟩|exact Eg hH) fun hH=>?_;clear hK K9;refine Ei [9,10,11] hH ?_
  iterate 3 (refine⟨_,_,_,rfl,rfl,by kernel_rfl,by rfl,by go_simp;try with_reducible rfl,?_⟩;simp only[Act.put,List.setIfInBounds_toArray,List.set_cons_zero,List.set_cons_succ,List.getElem_toArray,List.getElem_cons_zero,List.getElem_cons_succ])
  refine wpAnyH_done (by kernel_rfl) ?_ _;go_wp2_with fail
  all_goals
   go_ret;refine KD.o.got HT.o fun dd=>?_;unfold Pl.aR;rw[hk];exact bA.nC (kR.cg (xA (xC oZ dd f9) (AU KD.o (by first|exact D.o|exact D8.o) [Pl.stepW.getD x.m.toNat ⟨#[]⟩] (by simp) rfl)) (by simp[Pl.nD,Pl.rU,Pl.CX]) rfl)
 ·obtain⟨f9,l9,l7,l6,ga,rfl,hg2,hmc,hcm,hl1⟩:=KD.o.ga 1 (F:=[101]) (more:=0) (most:=0) (HF.o.of hk);obtain⟨T0,d0,q0,oZ⟩:=KD.o.gj D.o 0;have hn1:1<=x.m:=(YL (.inr hk)).1;have hn2:x.m<=2:=(YL (.inr hk)).2;have VX:(0:Int)<=x.m:=by omega
  have hn4:x.m<3:=by omega
  have Eh:y.cell? ⟨n0,1,none⟩=some (.int .i64 x.m):=kb 1;have hga:ga<y.heap.size:=Nat.lt_of_lt_of_le hg2 D.o.size;go_upto_region 18 with fail
  have hl4:0<m:=by omega
  refine wp_region_held_drew (S:=C2 n0 1 ga (.int .i64 x.m) (.iface T0 d0)) (by kernel_rfl) (Eg ⟨Eh,q0⟩) fun hH=>?_;refine Vg [1,2,5,6,7] hH ?_
  iterate 5 (refine⟨_,_,_,rfl,rfl,by kernel_rfl,by rfl,fun _ _ _ h=>h,fun w h=>by go_simp;try with_reducible rfl,?_⟩;simp only[Act.put,List.setIfInBounds_toArray,List.set_cons_zero,List.set_cons_succ,List.getElem_toArray,List.getElem_cons_zero,List.getElem_cons_succ])
  refine one 0 (by kernel_rfl) rfl fun K9 hK=>?_
  go_simp
  refine (RH _).mono ?_;rintro e z ⟨g9,rfl,VM,Ev,sZ,d9⟩;have d8:Bw y z:=Below.trans (by apply_rules [Below.refl,Below.drew,below_drewN]) d9;have c8:=sZ x.m.toNat (by omega);have D8:Hid (Bw w z):=D.o.trans (d8.mono D.o.size);clear sZ d9 VM Ev;refine hK.out _ _ (Eg ⟨Eh,q0⟩ d8) fun hH=>?_;clear hK K9;refine Ei [3,4,8,9,10] hH ?_
  iterate 5 (refine⟨_,_,_,rfl,rfl,by kernel_rfl,by rfl,by go_simp;try with_reducible rfl,?_⟩;simp only[Act.put,List.setIfInBounds_toArray,List.set_cons_zero,List.set_cons_succ,List.getElem_toArray,List.getElem_cons_zero,List.getElem_cons_succ])
  refine wpAnyH_done (by kernel_rfl) ?_ _;go_wp2_with fail
  all_goals
   go_ret;refine KD.o.got HT.o fun dd=>?_;unfold Pl.aR;rw[hk];exact bA.nC (zP (s1:=Pl.stepW.getD x.m.toNat ⟨#[]⟩) (xC oZ dd f9))
 ·obtain⟨f9,l9,l7,l6,ga,rfl,hg2,hmc,hcm,hl1⟩:=KD.o.ga 1 (F:=[101]) (more:=0) (most:=0) (HF.o.of hk);obtain⟨T0,d0,q0,oZ⟩:=KD.o.gj D.o 0;have hn1:1<=x.m:=(Qc hk).1;have hn2:x.m<=6:=(Qc hk).2;have VX:(0:Int)<=x.m:=by omega
  have hn4:x.m<7:=by omega
  have Eh:y.cell? ⟨n0,1,none⟩=some (.int .i64 x.m):=kb 1;have hga:ga<y.heap.size:=Nat.lt_of_lt_of_le hg2 D.o.size;go_upto_region 20 with fail
  have hl4:0<m:=by omega
  refine wp_region_held_drew (S:=C2 n0 1 ga (.int .i64 x.m) (.iface T0 d0)) (by kernel_rfl) (Eg ⟨Eh,q0⟩) fun hH=>?_;refine Vg [1,2,5,6,7] hH ?_
  iterate 5 (refine⟨_,_,_,rfl,rfl,by kernel_rfl,by rfl,fun _ _ _ h=>h,fun w h=>by go_simp;try with_reducible rfl,?_⟩;simp only[Act.put,List.setIfInBounds_toArray,List.set_cons_zero,List.set_cons_succ,List.getElem_toArray,List.getElem_cons_zero,List.getElem_cons_succ])
  refine one 0 (by kernel_rfl) rfl fun K9 hK=>?_
  go_simp
  refine (Ed _).mono ?_;rintro e z ⟨g9,rfl,VM,Ev,sZ,d9⟩;have d8:Bw y z:=Below.trans (by apply_rules [Below.refl,Below.drew,below_drewN]) d9;have c8:=sZ x.m.toNat (by omega);have D8:Hid (Bw w z):=D.o.trans (d8.mono D.o.size);clear sZ d9 VM Ev;refine hK.out _ _ (Eg ⟨Eh,q0⟩ d8) fun hH=>?_;clear hK K9;refine Ei [3,4,8,9,10] hH ?_
  iterate 5 (refine⟨_,_,_,rfl,rfl,by kernel_rfl,by rfl,by go_simp;try with_reducible rfl,?_⟩;simp only[Act.put,List.setIfInBounds_toArray,List.set_cons_zero,List.set_cons_succ,List.getElem_toArray,List.getElem_cons_zero,List.getElem_cons_succ])
  refine wpAnyH_done (by kernel_rfl) ?_ _;go_wp2_with fail
  all_goals
   go_ret;refine KD.o.got HT.o fun dd=>?_;unfold Pl.aR;rw[hk];exact bA.nC (zP (s1:=Pl.unW.getD x.m.toNat ⟨#[]⟩) (xC oZ dd f9))
 ·obtain⟨f9,l9,l7,l6,ga,rfl,hg2,hmc,hcm,hl1⟩:=KD.o.ga 1 (F:=[101]) (more:=0) (most:=0) (HF.o.of hk);obtain⟨T0,d0,q0,oZ⟩:=KD.o.gj D.o 0;go_wp2_with fail
  all_goals
   go_ret;refine KD.o.got HT.o fun dd=>?_;unfold Pl.aR;rw[hk];exact bA.nC (zP (s1:=⟨#[115,105,122,101,111,102]⟩) (xC oZ dd f9))
 ·obtain⟨f9,l9,l7,l6,ga,rfl,hg2,hmc,hcm,hl1⟩:=KD.o.ga 1 (F:=[116]) (more:=0) (most:=0) (HF.o.of hk);obtain⟨T0,d0,q0,oZ⟩:=KD.o.gj D.o 0;go_wp2_with fail
  all_goals
   go_ret;refine KD.o.got HT.o fun dd=>?_;unfold Pl.aR;rw[hk];exact bA.nC (Xj ((oZ.o _ dd).ty (Pl.tN (f9.2.2 0 (by omega)))))
 ·obtain⟨f9,l9,l7,l6,ga,rfl,hg2,hmc,hcm,hl1⟩:=KD.o.ga 2 (F:=[116,101]) (more:=0) (most:=0) (HF.o.of hk);have hl2:(1:Int)<(m:Int):=by omega
  obtain⟨T0,d0,q0,oZ⟩:=KD.o.gj D.o 0;obtain⟨T1,d1,q1,FO⟩:=KD.o.gj D.o 1;go_upto_region 26 with fail
  go_quiet (fail)
  go_wp2_with fail
  all_goals
   go_ret;refine KD.o.got HT.o fun dd=>?_;unfold Pl.aR;rw[hk];exact bA.nC (Xk ((oZ.o _ dd).ty (Pl.tN (f9.2.2 0 (by omega)))) (xC FO dd f9))
 ·obtain⟨f9,l9,l7,l6,ga,rfl,hg2,hmc,hcm,hl1⟩:=KD.o.ga 2 (F:=[101,101]) (more:=0) (most:=0) (HF.o.of hk);have hl2:(1:Int)<(m:Int):=by omega
  obtain⟨T0,d0,q0,oZ⟩:=KD.o.gj D.o 0;obtain⟨T1,d1,q1,FO⟩:=KD.o.gj D.o 1;have hn1:1<=x.m:=(Qd hk).1;have hn2:x.m<=18:=(Qd hk).2;have VX:(0:Int)<=x.m:=by omega
  have hn4:x.m<19:=by omega
  have Eh:y.cell? ⟨n0,1,none⟩=some (.int .i64 x.m):=kb 1;have hga:ga<y.heap.size:=Nat.lt_of_lt_of_le hg2 D.o.size;go_upto_region 28 with fail
  have hl4:0<m:=by omega
  have hl5:1<m:=by omega
  refine wp_region_held_drew (S:=(fun w2=>w2.cell? ⟨n0,1,none⟩=some (.int .i64 x.m)/\w2.cell? ⟨ga,0,none⟩=some (.iface T0 d0)/\w2.cell? ⟨ga,1,none⟩=some (.iface T1 d1))) (by kernel_rfl) (kq3 ⟨Eh,q0,q1⟩) fun hH=>?_;refine Vg [0,1,2,4,5,8,9,10] hH ?_
  iterate 8 (refine⟨_,_,_,rfl,rfl,by kernel_rfl,by rfl,fun _ _ _ h=>h,fun w h=>by go_simp;try with_reducible rfl,?_⟩;simp only[Act.put,List.setIfInBounds_toArray,List.set_cons_zero,List.set_cons_succ,List.getElem_toArray,List.getElem_cons_zero,List.getElem_cons_succ])
  refine one 3 (by kernel_rfl) rfl fun K9 hK=>?_
  go_simp
  refine (XH _).mono ?_;rintro e z ⟨g9,rfl,VM,Ev,sZ,d9⟩;have d8:Bw y z:=Below.trans (by apply_rules [Below.refl,Below.drew,below_drewN]) d9;have c8:=sZ x.m.toNat (by omega);have D8:Hid (Bw w z):=D.o.trans (d8.mono D.o.size);clear sZ d9 VM Ev;refine hK.out _ _ (kq3 ⟨Eh,q0,q1⟩ d8) fun hH=>?_;clear hK K9;refine Ei [6,7,11,12,13] hH ?_
  iterate 5 (refine⟨_,_,_,rfl,rfl,by kernel_rfl,by rfl,by go_simp;try with_reducible rfl,?_⟩;simp only[Act.put,List.setIfInBounds_toArray,List.set_cons_zero,List.set_cons_succ,List.getElem_toArray,List.getElem_cons_zero,List.getElem_cons_succ])
  refine wpAnyH_done (by kernel_rfl) ?_ _;go_wp2_with fail
  all_goals
   go_ret;refine KD.o.got HT.o fun dd=>?_;unfold Pl.aR;rw[hk];exact bA.nC (FM 1 (s1:=Pl.uU.getD x.m.toNat ⟨#[]⟩) (xC oZ dd f9) (xC FO dd f9))
 ·obtain⟨f9,l9,l7,l6,ga,rfl,hg2,hmc,hcm,hl1⟩:=KD.o.ga 3 (F:=[101,101,101]) (more:=0) (most:=0) (HF.o.of hk);have hl2:(1:Int)<(m:Int):=by omega
  have hl3:(2:Int)<(m:Int):=by omega
  obtain⟨T0,d0,q0,oZ⟩:=KD.o.gj D.o 0;obtain⟨T1,d1,q1,FO⟩:=KD.o.gj D.o 1;obtain⟨T2,d2,q2,N2'⟩:=KD.o.gj D.o 2;go_upto_region 30 with fail
  go_quiet (fail)
  go_wp2_with fail
  all_goals
   go_ret;refine KD.o.got HT.o fun dd=>?_;unfold Pl.aR;rw[hk];exact bA.nC (NY (xC oZ dd f9) (xC FO dd f9) (xC N2' dd f9))
 ·obtain⟨f9,l9,l7,l6,ga,rfl,hg2,hmc,hcm,hl1⟩:=KD.o.ga 2 (F:=[101,101]) (more:=0) (most:=0) (HF.o.of hk);have hl2:(1:Int)<(m:Int):=by omega
  obtain⟨T0,d0,q0,oZ⟩:=KD.o.gj D.o 0;obtain⟨T1,d1,q1,FO⟩:=KD.o.gj D.o 1;have hn1:0<=x.m:=(Qe hk).1;have hn2:x.m<=16:=(Qe hk).2;have VX:(0:Int)<=x.m:=by omega
  have hn4:x.m<19:=by omega
  have Eh:y.cell? ⟨n0,1,none⟩=some (.int .i64 x.m):=kb 1;have hga:ga<y.heap.size:=Nat.lt_of_lt_of_le hg2 D.o.size;go_upto_region 32 with fail
  have hl4:0<m:=by omega
  have hl5:1<m:=by omega
  refine wp_region_held_drew (S:=(fun w2=>w2.cell? ⟨n0,1,none⟩=some (.int .i64 x.m)/\w2.cell? ⟨ga,0,none⟩=some (.iface T0 d0)/\w2.cell? ⟨ga,1,none⟩=some (.iface T1 d1))) (by kernel_rfl) (kq3 ⟨Eh,q0,q1⟩) fun hH=>?_;refine Vg [0,1,2,4,5,8,9,10] hH ?_
  iterate 8 (refine⟨_,_,_,rfl,rfl,by kernel_rfl,by rfl,fun _ _ _ h=>h,fun w h=>by go_simp;try with_reducible rfl,?_⟩;simp only[Act.put,List.setIfInBounds_toArray,List.set_cons_zero,List.set_cons_succ,List.getElem_toArray,List.getElem_cons_zero,List.getElem_cons_succ])
  refine one 3 (by kernel_rfl) rfl fun K9 hK=>?_
  go_simp
  refine (Xp _).mono ?_;rintro e z ⟨g9,rfl,VM,Ev,sZ,d9⟩;have d8:Bw y z:=Below.trans (by apply_rules [Below.refl,Below.drew,below_drewN]) d9;have c8:=sZ x.m.toNat (by omega);rw[Pl.Xo ⟨x.m.toNat,by omega⟩]at c8;have D8:Hid (Bw w z):=D.o.trans (d8.mono D.o.size);clear sZ d9 VM Ev;refine hK.out _ _ (kq3 ⟨Eh,q0,q1⟩ d8) fun hH=>?_;clear hK K9;refine Ei [6,7,11,12,13] hH ?_
  iterate 5 (refine⟨_,_,_,rfl,rfl,by kernel_rfl,by rfl,by go_simp;try with_reducible rfl,?_⟩;simp only[Act.put,List.setIfInBounds_toArray,List.set_cons_zero,List.set_cons_succ,List.getElem_toArray,List.getElem_cons_zero,List.getElem_cons_succ])
  refine wpAnyH_done (by kernel_rfl) ?_ _;go_wp2_with fail
  all_goals
   go_ret;refine KD.o.got HT.o fun dd=>?_;unfold Pl.aR;rw[hk];exact bA.nC (FM 2 (s1:=Pl.PL.getD x.m.toNat ⟨#[]⟩) (xC oZ dd f9) (xC FO dd f9))
 ·obtain⟨f9,l9,l7,l6,ga,rfl,hg2,hmc,hcm,hl1⟩:=KD.o.ga 2 (F:=[101,101]) (more:=0) (most:=0) (HF.o.of hk);have hl2:(1:Int)<(m:Int):=by omega
  obtain⟨T0,d0,q0,oZ⟩:=KD.o.gj D.o 0;obtain⟨T1,d1,q1,FO⟩:=KD.o.gj D.o 1;go_upto_region 33 with fail
  go_quiet (fail)
  go_wp2_with fail
  all_goals
   go_ret;refine KD.o.got HT.o fun dd=>?_;unfold Pl.aR;rw[hk];exact bA.nC (FM 2 (s1:=⟨#[44]⟩) (xC oZ dd f9) (xC FO dd f9))
end W
end Go.Proofs.YtjcdiegfnoaedaaGreatDoor
