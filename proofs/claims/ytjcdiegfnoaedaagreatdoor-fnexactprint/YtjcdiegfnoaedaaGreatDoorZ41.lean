import Derived.Test.YtjcdiegfnoaedaaGreatDoorZ31
import Derived.Deep.AppendLies
set_option linter.unusedVariables false
set_option linter.unusedSimpArgs false
set_option maxHeartbeats 16000000
namespace Go.Proofs.YtjcdiegfnoaedaaGreatDoor
namespace Pl
def GI (s:ByteArray):List Int:=s.data.toList.map fun b=>(b.toNat:Int)
theorem NJ (s:ByteArray):(GI s).length=s.size:=by unfold GI;rw[List.length_map,Array.length_toList];rfl
theorem Ox {s:ByteArray}{p:Nat}(h:p<s.size):(GI s).drop p=aD s p :: (GI s).drop (p+1):=by
 rw[List.drop_eq_getElem_cons (by rw[NJ];exact h)];congr 1;unfold GI aD;rw[List.getElem_map,List.getD_eq_getElem?_getD,List.getElem?_eq_getElem (by rw[Array.length_toList];exact h)];rfl
theorem YA {ks:List Int}{i:Nat}(h:i<ks.length):ks.drop i=ks.getD i 0 :: ks.drop (i+1):=by
 rw[List.drop_eq_getElem_cons h,List.getD_eq_getElem?_getD,List.getElem?_eq_getElem h];rfl
theorem Oy:∀k:Fin 50,GI ⟨(XX.getD k.val []).toArray⟩=dM.getD k.val []:=by decide +kernel
theorem aGo {cs ks:List Int}{m:Bool}:kS (63 :: cs) ks m=kS cs ks true:=by
 conv=>lhs;unfold kS
 rw[if_pos rfl]
theorem Ww {c:Int}{cs:List Int}{m:Bool}(h63:c≠63) (hm:many c=true) (hs:some1 c=true):kS (c :: cs) [] m=false:=by unfold kS;rw[if_neg h63,if_pos hm,if_pos ⟨hs,rfl⟩]
theorem wY {c:Int}{cs ks:List Int}{m:Bool}(h63:c≠63) (hm:many c=true) (hb:ks.all (aL c)=false):kS (c :: cs) ks m=false:=by
 unfold kS;rw[if_neg h63,if_pos hm];split
 ·rfl
 ·rw[if_neg (by rw[hb];decide)]
theorem wZ {c:Int}{cs ks:List Int}{m:Bool}(h63:c≠63) (hm:many c=true) (hs:some1 c=false\/ks≠[]) (hb:ks.all (aL c)=true):kS (c :: cs) ks m=kS cs [] m:=by
 conv=>lhs;unfold kS
 rw[if_neg h63,if_pos hm,if_neg,if_pos hb];rintro⟨a,b⟩;rcases hs with q|q
 ·rw[q]at a;cases a
 ·exact q b
theorem aCJ {c:Int}{cs:List Int}{m:Bool}(h63:c≠63) (hm:many c=false):kS (c :: cs) [] m=m:=by
 conv=>lhs;unfold kS
 rw[if_neg h63,if_neg (by rw[hm];decide)]
theorem aCK {c k:Int}{cs ks:List Int}{m:Bool}(h63:c≠63) (hm:many c=false):kS (c :: cs) (k :: ks) m=if aL c k=true then kS cs ks m else false:=by
 conv=>lhs;unfold kS
 rw[if_neg h63,if_neg (by rw[hm];decide)]
theorem SH {c:Int}:many c=true↔c=112\/c=102\/c=99\/c=73\/c=83\/c=100\/c=69:=by unfold many;simp[or_assoc]
end Pl
namespace W
open Go.RowKit
theorem oJ {lo:Nat}{w:World}{a:Option Addr}{len cap:Nat}{zs:List Int}(h:Row .i64 lo w a len cap zs){i:Nat}(hi:i<len) : -9223372036854775808<=zs.getD i 0/\zs.getD i 0<=9223372036854775807:=by
 have hm:zs.getD i 0∈zs:=Pl.nN (by rw[h.1];exact hi);have:=h.2.2.2.1 _ hm;exact bounds_i64 this
theorem mK {lo:Nat}{w:World}{a:Option Addr}{len cap:Nat}{zs:List Int}(h:Row .i64 lo w a len cap zs){i:Nat}(hi:i<len):∃b off,a=some ⟨b,off,none⟩/\b<w.heap.size/\w.cell? ⟨b,off+i,none⟩=some (.int .i64 (zs.getD i 0)):=by
 obtain⟨_,_,_,_,h5⟩:=h;rcases h5 with h5|⟨b,off,ha,_,hb,hc⟩
 ·omega
 ·exact⟨b,off,ha,hb,hc i hi⟩
set_option maxRecDepth 4000 in
theorem SI {lo:Nat}(s:ByteArray) (hs:s.size<=1048576) (a:Option Addr) (len cap:Nat) (ks:List Int) (w:World) (h:Row .i64 lo w a len cap ks):Calls Tryz.prog 24 #[.string s,.slice a len cap] w fun e w'=>e=.returned (.bool (Pl.kS (Pl.GI s) ks false))/\w'=w:=by
 obtain⟨R,hR⟩:∃R,R=Pl.kS (Pl.GI s) ks false:=⟨_,rfl⟩;rw[<- hR];have HQ:Hid (R=Pl.kS (Pl.GI s) ks false):=hR;have HL:Hid (ks.length=len):=h.1;have hm:(len:Int)<=9223372036854775807:=by have:=h.small;omega
 have HR:Hid (Row .i64 lo w a len cap ks):=h;have HF:Hid (∀(c k:Int) (u:World),-9223372036854775808<=k/\k<=9223372036854775807->Calls Tryz.prog 50 #[.int .u8 c,.int .i64 k] u fun e w'=>e=.returned (.bool (Pl.aL c k))/\w'=u):=fun c k u hk=>Ep c k hk u;clear h hR;go_enter Tryz.func24,Tryz.ntmps24;go_wp2_with fail
 go_loop [5,6,7] (fun x y z=>∃(p i:Nat) (m:Bool),p<=s.size/\i<=len/\x=.int .i64 i/\y=.bool m/\z=.int .i64 p/\Hid (R=Pl.kS ((Pl.GI s).drop p) (ks.drop i) m)) (fun _ _ z=>s.size-(intOf z).toNat)
 case atStart=>exact⟨0,0,false,Nat.zero_le _,Nat.zero_le _,rfl,rfl,rfl,HQ⟩
 case round=>
  obtain⟨p,i,m,hp,hi,rfl,rfl,rfl,HI⟩:=hrel;clear HQ;by_cases hlt:p<s.size
  rotate_left
  ·have hpi:¬((p:Int)<(s.size:Int)):=(by omega);have HE:Hid (R=decide ((i:Int)=(len:Int))):=by
    show R=_;rw[HI.o,List.drop_eq_nil_of_le (by rw[Pl.NJ];omega)];show (ks.drop i).isEmpty=_;rw[Bool.eq_iff_iff,List.isEmpty_iff,List.drop_eq_nil_iff,HL.o];simp;omega
   clear HI;go_wp2_with fail
   all_goals (go_ret;refine⟨aC ?_,rfl⟩;rw[HE.o];first|rfl|(simp <;> omega)|simp_all)
  have hpi:(p:Int)<(s.size:Int):=by omega
  have HB:Hid (((s[p]'hlt).toNat:Int)=Pl.aD s p):=Pl.aJ s p hlt;obtain⟨c,hc⟩:∃c,c=Pl.aD s p:=⟨_,rfl⟩;have HI2:Hid (R=Pl.kS (c :: (Pl.GI s).drop (p+1)) (ks.drop i) m):=by
   show R=_;rw[HI.o,Pl.Ox hlt,hc]
  rw[<- hc]at HB;clear hc HI;by_cases h63:c=63
  ·subst h63;have HN:Hid (R=Pl.kS ((Pl.GI s).drop (p+1)) (ks.drop i) true):=HI2.o.trans Pl.aGo;have NK:=HB.o;clear HI2 HB;go_wp2_with fail
   go_round
   case rel=>exact⟨p+1,i,true,by omega,hi,rfl,rfl,by go_num,HN⟩
   case measure=>simp[intOf];omega
  cases hmc:Pl.many c
  ·have NL:Hid (c≠63):=h63;have HM:Hid (Pl.many c=false):=hmc;have hno:¬(c=112)/\¬(c=102)/\¬(c=99)/\¬(c=73)/\¬(c=83)/\¬(c=100)/\¬(c=69):=by
    have:¬Pl.many c=true:=(by rw[hmc];decide);rw[Pl.SH]at this;omega
   obtain⟨g1,g2,g3,g4,g5,g6,g7⟩:=hno;have gb1:(c == 112)=false:=(by simpa using g1);have gb2:(c == 102)=false:=(by simpa using g2);have gb3:(c == 99)=false:=(by simpa using g3);have gb4:(c == 73)=false:=(by simpa using g4);have gb5:(c == 83)=false:=(by simpa using g5);have gb6:(c == 100)=false:=(by simpa using g6);have gb7:(c == 69)=false:=(by simpa using g7);have gb8:(c == 63)=false:=(by simpa using h63);clear hmc;have NK:=HB.o;by_cases hil:i=len
   ·have HE:Hid (R=m):=by
     show R=m;rw[HI2.o,@List.drop_eq_nil_of_le _ ks _ (by rw[HL.o];omega),Pl.aCJ NL.o HM.o]
    have hii:(i:Int)=(len:Int):=(by omega);clear HI2 hil HB;go_wp2_with fail
    go_ret;exact⟨aC HE.o.symm,rfl⟩
   ·have aCL:i<len:=(by omega);have hii:¬((i:Int)=(len:Int)):=(by omega);have hii2:(i:Int)<(len:Int):=(by omega);obtain⟨b,off,rfl,hb,hcell⟩:=mK HR.o aCL;have hbd:=oJ HR.o aCL;have HI3:Hid (R=if Pl.aL c (ks.getD i 0)=true then Pl.kS ((Pl.GI s).drop (p+1)) (ks.drop (i+1)) m else false):=by
     show R=_;rw[HI2.o,Pl.YA (ks:=ks) (by rw[HL.o];exact aCL),Pl.aCK NL.o HM.o]
    have uM:Hid (∀u:World,Calls Tryz.prog 50 #[.int .u8 c,.int .i64 (ks.getD i 0)] u fun e w'=>e=.returned (.bool (Pl.aL c (ks.getD i 0)))/\w'=u):=fun u=>HF.o c (ks.getD i 0) u hbd;clear HI2 hil hbd;generalize ks.getD i 0=k at *;cases hf:Pl.aL c k
    ·rw[hf]at HI3 uM;have HE:Hid (R=false):=HI3.o;clear HI3 hf HB;go_wp2_with (go_at_call 50;(try rw[NK]);refine (uM.o _).mono ?_;rintro e u1 ⟨rfl,rfl⟩)
     go_ret;exact⟨aC HE.o.symm,rfl⟩
    ·rw[hf]at HI3 uM;have HE:Hid (R=Pl.kS ((Pl.GI s).drop (p+1)) (ks.drop (i+1)) m):=HI3.o;clear HI3 hf HB;go_wp2_with (go_at_call 50;(try rw[NK]);refine (uM.o _).mono ?_;rintro e u1 ⟨rfl,rfl⟩)
     go_round
     case rel=>exact⟨p+1,i+1,m,by omega,by omega,by go_num,rfl,by go_num,HE⟩
     case measure=>simp[intOf];omega
  ·have NL:Hid (c≠63):=h63;have HM:Hid (Pl.many c=true):=hmc;have hcs:=Pl.SH.mp hmc;clear hmc h63;by_cases hse:Pl.some1 c=true/\i=len
   ·have HE:Hid (R=false):=by
     show R=false;rw[HI2.o,@List.drop_eq_nil_of_le _ ks _ (by rw[HL.o,hse.2];omega),Pl.Ww NL.o HM.o hse.1]
    have hii:(i:Int)=(len:Int):=(by omega);have hc3:c=102\/c=99\/c=73:=(by have:=hse.1;unfold Pl.some1 at this;simp at this;omega);have NK:=HB.o;clear HI2 hcs hse HB NL HM;rcases hc3 with rfl|rfl|rfl;all_goals
     go_wp2_with fail
     go_ret;exact⟨aC HE.o.symm,rfl⟩
   have HSE:Hid (Pl.some1 c=false\/ks.drop i≠[]):=by
    show _\/_;by_cases q:Pl.some1 c=true
    ·right;intro q2
     rw[List.drop_eq_nil_iff,HL.o]at q2;exact hse ⟨q,by omega⟩
    ·left;simpa using q
   have hg:c=112\/(c=102/\¬((i:Int)=(len:Int)))\/(c=99/\¬((i:Int)=(len:Int)))\/(c=73/\¬((i:Int)=(len:Int)))\/c=83\/c=100\/c=69:=by
    rcases hcs with q|q|q|q|q|q|q
    ·exact .inl q
    ·exact .inr (.inl ⟨q,fun e=>hse ⟨by rw[q];decide,by omega⟩⟩)
    ·exact .inr (.inr (.inl ⟨q,fun e=>hse ⟨by rw[q];decide,by omega⟩⟩))
    ·exact .inr (.inr (.inr (.inl ⟨q,fun e=>hse ⟨by rw[q];decide,by omega⟩⟩)))
    ·exact .inr (.inr (.inr (.inr (.inl q))))
    ·exact .inr (.inr (.inr (.inr (.inr (.inl q)))))
    ·exact .inr (.inr (.inr (.inr (.inr (.inr q)))))
   have NK:=HB.o;clear hcs hse HB;rcases hg with rfl|⟨rfl,hne⟩|⟨rfl,hne⟩|⟨rfl,hne⟩|rfl|rfl|rfl
   ·go_wp2_with fail
    go_loop [5] (fun x=>∃j:Nat,i<=j/\j<=len/\x=.int .i64 j/\Hid (∀q,i<=q->q<j->Pl.aL 112 (ks.getD q 0)=true)) (fun x=>len-(intOf x).toNat)
    case atStart=>exact⟨i,Nat.le_refl _,hi,rfl,fun q h1 h2=>by omega⟩
    case round=>
     obtain⟨j,hj1,hj2,rfl,HA⟩:=hrel;by_cases hjl:j<len
     ·have hjj:(j:Int)<(len:Int):=(by omega);obtain⟨b,off,rfl,hb,hcell⟩:=mK HR.o hjl;have hbd:=oJ HR.o hjl;have uM:Hid (∀u:World,Calls Tryz.prog 50 #[.int .u8 112,.int .i64 (ks.getD j 0)] u fun e w'=>e=.returned (.bool (Pl.aL 112 (ks.getD j 0)))/\w'=u):=fun u=>HF.o 112 (ks.getD j 0) u hbd;cases hf:Pl.aL 112 (ks.getD j 0)
      ·have HE:Hid (R=false):=by
        show R=false;rw[HI2.o];refine Pl.wY NL.o HM.o ?_;rw[List.all_eq_false];refine⟨ks.getD j 0,?_,by rw[hf];decide⟩;have e2:(ks.drop i)[j-i]?=ks[j]?:=(by rw[List.getElem?_drop];congr 1;omega);rw[List.getD_eq_getElem?_getD,<- e2];have hl2:j-i<(ks.drop i).length:=(by rw[List.length_drop,HL.o];omega);rw[List.getElem?_eq_getElem hl2];exact List.getElem_mem _
       rw[hf]at uM;clear hf hbd;generalize ks.getD j 0=k at *;go_wp2_with (go_at_call 50;(try rw[NK]);refine (uM.o _).mono ?_;rintro e u1 ⟨rfl,rfl⟩)
       go_ret;exact⟨aC HE.o.symm,rfl⟩
      ·have VL:Hid (Pl.aL 112 (ks.getD j 0)=true):=hf;rw[hf]at uM;clear hf hbd;generalize hk:ks.getD j 0=k at *;have HK:Hid (ks.getD j 0=k):=hk;clear hk;go_wp2_with (go_at_call 50;(try rw[NK]);refine (uM.o _).mono ?_;rintro e u1 ⟨rfl,rfl⟩)
       go_round
       case rel=>exact⟨j+1,by omega,by omega,by go_num,fun q h1 h2=>by
        by_cases e:q=j
        ·rw[e,HK.o];exact VL.o
        ·exact HA.o q h1 (by omega)⟩
       case measure=>simp[intOf];omega
     ·have hjj:¬((j:Int)<(len:Int)):=(by omega);have zM:j=len:=(by omega);have HE:Hid (R=Pl.kS ((Pl.GI s).drop (p+1)) (ks.drop len) m):=by
       show R=_;rw[HI2.o,Pl.wZ NL.o HM.o HSE.o,@List.drop_eq_nil_of_le _ ks _ (by rw[HL.o];omega)];rw[List.all_eq_true];intro x hx;obtain⟨q,hq,e⟩:=List.getElem_of_mem hx;have hl2:i+q<ks.length:=(by rw[List.length_drop]at hq;omega);have:=HA.o (i+q) (by omega) (by rw[HL.o]at hl2;omega);rw[List.getElem_drop]at e;rw[List.getD_eq_getElem?_getD,List.getElem?_eq_getElem hl2]at this;rw[<- e];exact this
      subst zM;clear HA HI2;go_wp2_with fail
      go_round
      case rel=>exact⟨p+1,j,m,by omega,by omega,rfl,rfl,by go_num,HE⟩
      case measure=>simp[intOf];omega
   ·go_wp2_with fail
    go_loop [5] (fun x=>∃j:Nat,i<=j/\j<=len/\x=.int .i64 j/\Hid (∀q,i<=q->q<j->Pl.aL 102 (ks.getD q 0)=true)) (fun x=>len-(intOf x).toNat)
    case atStart=>exact⟨i,Nat.le_refl _,hi,rfl,fun q h1 h2=>by omega⟩
    case round=>
     obtain⟨j,hj1,hj2,rfl,HA⟩:=hrel;by_cases hjl:j<len
     ·have hjj:(j:Int)<(len:Int):=(by omega);obtain⟨b,off,rfl,hb,hcell⟩:=mK HR.o hjl;have hbd:=oJ HR.o hjl;have uM:Hid (∀u:World,Calls Tryz.prog 50 #[.int .u8 102,.int .i64 (ks.getD j 0)] u fun e w'=>e=.returned (.bool (Pl.aL 102 (ks.getD j 0)))/\w'=u):=fun u=>HF.o 102 (ks.getD j 0) u hbd;cases hf:Pl.aL 102 (ks.getD j 0)
      ·have HE:Hid (R=false):=by
        show R=false;rw[HI2.o];refine Pl.wY NL.o HM.o ?_;rw[List.all_eq_false];refine⟨ks.getD j 0,?_,by rw[hf];decide⟩;have e2:(ks.drop i)[j-i]?=ks[j]?:=(by rw[List.getElem?_drop];congr 1;omega);rw[List.getD_eq_getElem?_getD,<- e2];have hl2:j-i<(ks.drop i).length:=(by rw[List.length_drop,HL.o];omega);rw[List.getElem?_eq_getElem hl2];exact List.getElem_mem _
       rw[hf]at uM;clear hf hbd;generalize ks.getD j 0=k at *;go_wp2_with (go_at_call 50;(try rw[NK]);refine (uM.o _).mono ?_;rintro e u1 ⟨rfl,rfl⟩)
       go_ret;exact⟨aC HE.o.symm,rfl⟩
      ·have VL:Hid (Pl.aL 102 (ks.getD j 0)=true):=hf;rw[hf]at uM;clear hf hbd;generalize hk:ks.getD j 0=k at *;have HK:Hid (ks.getD j 0=k):=hk;clear hk;go_wp2_with (go_at_call 50;(try rw[NK]);refine (uM.o _).mono ?_;rintro e u1 ⟨rfl,rfl⟩)
       go_round
       case rel=>exact⟨j+1,by omega,by omega,by go_num,fun q h1 h2=>by
        by_cases e:q=j
        ·rw[e,HK.o];exact VL.o
        ·exact HA.o q h1 (by omega)⟩
       case measure=>simp[intOf];omega
     ·have hjj:¬((j:Int)<(len:Int)):=(by omega);have zM:j=len:=(by omega);have HE:Hid (R=Pl.kS ((Pl.GI s).drop (p+1)) (ks.drop len) m):=by
       show R=_;rw[HI2.o,Pl.wZ NL.o HM.o HSE.o,@List.drop_eq_nil_of_le _ ks _ (by rw[HL.o];omega)];rw[List.all_eq_true];intro x hx;obtain⟨q,hq,e⟩:=List.getElem_of_mem hx;have hl2:i+q<ks.length:=(by rw[List.length_drop]at hq;omega);have:=HA.o (i+q) (by omega) (by rw[HL.o]at hl2;omega);rw[List.getElem_drop]at e;rw[List.getD_eq_getElem?_getD,List.getElem?_eq_getElem hl2]at this;rw[<- e];exact this
      subst zM;clear HA HI2;go_wp2_with fail
      go_round
      case rel=>exact⟨p+1,j,m,by omega,by omega,rfl,rfl,by go_num,HE⟩
      case measure=>simp[intOf];omega
   ·go_wp2_with fail
    go_loop [5] (fun x=>∃j:Nat,i<=j/\j<=len/\x=.int .i64 j/\Hid (∀q,i<=q->q<j->Pl.aL 99 (ks.getD q 0)=true)) (fun x=>len-(intOf x).toNat)
    case atStart=>exact⟨i,Nat.le_refl _,hi,rfl,fun q h1 h2=>by omega⟩
    case round=>
     obtain⟨j,hj1,hj2,rfl,HA⟩:=hrel;by_cases hjl:j<len
     ·have hjj:(j:Int)<(len:Int):=(by omega);obtain⟨b,off,rfl,hb,hcell⟩:=mK HR.o hjl;have hbd:=oJ HR.o hjl;have uM:Hid (∀u:World,Calls Tryz.prog 50 #[.int .u8 99,.int .i64 (ks.getD j 0)] u fun e w'=>e=.returned (.bool (Pl.aL 99 (ks.getD j 0)))/\w'=u):=fun u=>HF.o 99 (ks.getD j 0) u hbd;cases hf:Pl.aL 99 (ks.getD j 0)
      ·have HE:Hid (R=false):=by
        show R=false;rw[HI2.o];refine Pl.wY NL.o HM.o ?_;rw[List.all_eq_false];refine⟨ks.getD j 0,?_,by rw[hf];decide⟩;have e2:(ks.drop i)[j-i]?=ks[j]?:=(by rw[List.getElem?_drop];congr 1;omega);rw[List.getD_eq_getElem?_getD,<- e2];have hl2:j-i<(ks.drop i).length:=(by rw[List.length_drop,HL.o];omega);rw[List.getElem?_eq_getElem hl2];exact List.getElem_mem _
       rw[hf]at uM;clear hf hbd;generalize ks.getD j 0=k at *;go_wp2_with (go_at_call 50;(try rw[NK]);refine (uM.o _).mono ?_;rintro e u1 ⟨rfl,rfl⟩)
       go_ret;exact⟨aC HE.o.symm,rfl⟩
      ·have VL:Hid (Pl.aL 99 (ks.getD j 0)=true):=hf;rw[hf]at uM;clear hf hbd;generalize hk:ks.getD j 0=k at *;have HK:Hid (ks.getD j 0=k):=hk;clear hk;go_wp2_with (go_at_call 50;(try rw[NK]);refine (uM.o _).mono ?_;rintro e u1 ⟨rfl,rfl⟩)
       go_round
       case rel=>exact⟨j+1,by omega,by omega,by go_num,fun q h1 h2=>by
        by_cases e:q=j
        ·rw[e,HK.o];exact VL.o
        ·exact HA.o q h1 (by omega)⟩
       case measure=>simp[intOf];omega
     ·have hjj:¬((j:Int)<(len:Int)):=(by omega);have zM:j=len:=(by omega);have HE:Hid (R=Pl.kS ((Pl.GI s).drop (p+1)) (ks.drop len) m):=by
       show R=_;rw[HI2.o,Pl.wZ NL.o HM.o HSE.o,@List.drop_eq_nil_of_le _ ks _ (by rw[HL.o];omega)];rw[List.all_eq_true];intro x hx;obtain⟨q,hq,e⟩:=List.getElem_of_mem hx;have hl2:i+q<ks.length:=(by rw[List.length_drop]at hq;omega);have:=HA.o (i+q) (by omega) (by rw[HL.o]at hl2;omega);rw[List.getElem_drop]at e;rw[List.getD_eq_getElem?_getD,List.getElem?_eq_getElem hl2]at this;rw[<- e];exact this
      subst zM;clear HA HI2;go_wp2_with fail
      go_round
      case rel=>exact⟨p+1,j,m,by omega,by omega,rfl,rfl,by go_num,HE⟩
      case measure=>simp[intOf];omega
   ·go_wp2_with fail
    go_loop [5] (fun x=>∃j:Nat,i<=j/\j<=len/\x=.int .i64 j/\Hid (∀q,i<=q->q<j->Pl.aL 73 (ks.getD q 0)=true)) (fun x=>len-(intOf x).toNat)
    case atStart=>exact⟨i,Nat.le_refl _,hi,rfl,fun q h1 h2=>by omega⟩
    case round=>
     obtain⟨j,hj1,hj2,rfl,HA⟩:=hrel;by_cases hjl:j<len
     ·have hjj:(j:Int)<(len:Int):=(by omega);obtain⟨b,off,rfl,hb,hcell⟩:=mK HR.o hjl;have hbd:=oJ HR.o hjl;have uM:Hid (∀u:World,Calls Tryz.prog 50 #[.int .u8 73,.int .i64 (ks.getD j 0)] u fun e w'=>e=.returned (.bool (Pl.aL 73 (ks.getD j 0)))/\w'=u):=fun u=>HF.o 73 (ks.getD j 0) u hbd;cases hf:Pl.aL 73 (ks.getD j 0)
      ·have HE:Hid (R=false):=by
        show R=false;rw[HI2.o];refine Pl.wY NL.o HM.o ?_;rw[List.all_eq_false];refine⟨ks.getD j 0,?_,by rw[hf];decide⟩;have e2:(ks.drop i)[j-i]?=ks[j]?:=(by rw[List.getElem?_drop];congr 1;omega);rw[List.getD_eq_getElem?_getD,<- e2];have hl2:j-i<(ks.drop i).length:=(by rw[List.length_drop,HL.o];omega);rw[List.getElem?_eq_getElem hl2];exact List.getElem_mem _
       rw[hf]at uM;clear hf hbd;generalize ks.getD j 0=k at *;go_wp2_with (go_at_call 50;(try rw[NK]);refine (uM.o _).mono ?_;rintro e u1 ⟨rfl,rfl⟩)
       go_ret;exact⟨aC HE.o.symm,rfl⟩
      ·have VL:Hid (Pl.aL 73 (ks.getD j 0)=true):=hf;rw[hf]at uM;clear hf hbd;generalize hk:ks.getD j 0=k at *;have HK:Hid (ks.getD j 0=k):=hk;clear hk;go_wp2_with (go_at_call 50;(try rw[NK]);refine (uM.o _).mono ?_;rintro e u1 ⟨rfl,rfl⟩)
       go_round
       case rel=>exact⟨j+1,by omega,by omega,by go_num,fun q h1 h2=>by
        by_cases e:q=j
        ·rw[e,HK.o];exact VL.o
        ·exact HA.o q h1 (by omega)⟩
       case measure=>simp[intOf];omega
     ·have hjj:¬((j:Int)<(len:Int)):=(by omega);have zM:j=len:=(by omega);have HE:Hid (R=Pl.kS ((Pl.GI s).drop (p+1)) (ks.drop len) m):=by
       show R=_;rw[HI2.o,Pl.wZ NL.o HM.o HSE.o,@List.drop_eq_nil_of_le _ ks _ (by rw[HL.o];omega)];rw[List.all_eq_true];intro x hx;obtain⟨q,hq,e⟩:=List.getElem_of_mem hx;have hl2:i+q<ks.length:=(by rw[List.length_drop]at hq;omega);have:=HA.o (i+q) (by omega) (by rw[HL.o]at hl2;omega);rw[List.getElem_drop]at e;rw[List.getD_eq_getElem?_getD,List.getElem?_eq_getElem hl2]at this;rw[<- e];exact this
      subst zM;clear HA HI2;go_wp2_with fail
      go_round
      case rel=>exact⟨p+1,j,m,by omega,by omega,rfl,rfl,by go_num,HE⟩
      case measure=>simp[intOf];omega
   ·go_wp2_with fail
    go_loop [5] (fun x=>∃j:Nat,i<=j/\j<=len/\x=.int .i64 j/\Hid (∀q,i<=q->q<j->Pl.aL 83 (ks.getD q 0)=true)) (fun x=>len-(intOf x).toNat)
    case atStart=>exact⟨i,Nat.le_refl _,hi,rfl,fun q h1 h2=>by omega⟩
    case round=>
     obtain⟨j,hj1,hj2,rfl,HA⟩:=hrel;by_cases hjl:j<len
     ·have hjj:(j:Int)<(len:Int):=(by omega);obtain⟨b,off,rfl,hb,hcell⟩:=mK HR.o hjl;have hbd:=oJ HR.o hjl;have uM:Hid (∀u:World,Calls Tryz.prog 50 #[.int .u8 83,.int .i64 (ks.getD j 0)] u fun e w'=>e=.returned (.bool (Pl.aL 83 (ks.getD j 0)))/\w'=u):=fun u=>HF.o 83 (ks.getD j 0) u hbd;cases hf:Pl.aL 83 (ks.getD j 0)
      ·have HE:Hid (R=false):=by
        show R=false;rw[HI2.o];refine Pl.wY NL.o HM.o ?_;rw[List.all_eq_false];refine⟨ks.getD j 0,?_,by rw[hf];decide⟩;have e2:(ks.drop i)[j-i]?=ks[j]?:=(by rw[List.getElem?_drop];congr 1;omega);rw[List.getD_eq_getElem?_getD,<- e2];have hl2:j-i<(ks.drop i).length:=(by rw[List.length_drop,HL.o];omega);rw[List.getElem?_eq_getElem hl2];exact List.getElem_mem _
       rw[hf]at uM;clear hf hbd;generalize ks.getD j 0=k at *;go_wp2_with (go_at_call 50;(try rw[NK]);refine (uM.o _).mono ?_;rintro e u1 ⟨rfl,rfl⟩)
       go_ret;exact⟨aC HE.o.symm,rfl⟩
      ·have VL:Hid (Pl.aL 83 (ks.getD j 0)=true):=hf;rw[hf]at uM;clear hf hbd;generalize hk:ks.getD j 0=k at *;have HK:Hid (ks.getD j 0=k):=hk;clear hk;go_wp2_with (go_at_call 50;(try rw[NK]);refine (uM.o _).mono ?_;rintro e u1 ⟨rfl,rfl⟩)
       go_round
       case rel=>exact⟨j+1,by omega,by omega,by go_num,fun q h1 h2=>by
        by_cases e:q=j
        ·rw[e,HK.o];exact VL.o
        ·exact HA.o q h1 (by omega)⟩
       case measure=>simp[intOf];omega
     ·have hjj:¬((j:Int)<(len:Int)):=(by omega);have zM:j=len:=(by omega);have HE:Hid (R=Pl.kS ((Pl.GI s).drop (p+1)) (ks.drop len) m):=by
       show R=_;rw[HI2.o,Pl.wZ NL.o HM.o HSE.o,@List.drop_eq_nil_of_le _ ks _ (by rw[HL.o];omega)];rw[List.all_eq_true];intro x hx;obtain⟨q,hq,e⟩:=List.getElem_of_mem hx;have hl2:i+q<ks.length:=(by rw[List.length_drop]at hq;omega);have:=HA.o (i+q) (by omega) (by rw[HL.o]at hl2;omega);rw[List.getElem_drop]at e;rw[List.getD_eq_getElem?_getD,List.getElem?_eq_getElem hl2]at this;rw[<- e];exact this
      subst zM;clear HA HI2;go_wp2_with fail
      go_round
      case rel=>exact⟨p+1,j,m,by omega,by omega,rfl,rfl,by go_num,HE⟩
      case measure=>simp[intOf];omega
   ·go_wp2_with fail
    go_loop [5] (fun x=>∃j:Nat,i<=j/\j<=len/\x=.int .i64 j/\Hid (∀q,i<=q->q<j->Pl.aL 100 (ks.getD q 0)=true)) (fun x=>len-(intOf x).toNat)
    case atStart=>exact⟨i,Nat.le_refl _,hi,rfl,fun q h1 h2=>by omega⟩
    case round=>
     obtain⟨j,hj1,hj2,rfl,HA⟩:=hrel;by_cases hjl:j<len
     ·have hjj:(j:Int)<(len:Int):=(by omega);obtain⟨b,off,rfl,hb,hcell⟩:=mK HR.o hjl;have hbd:=oJ HR.o hjl;have uM:Hid (∀u:World,Calls Tryz.prog 50 #[.int .u8 100,.int .i64 (ks.getD j 0)] u fun e w'=>e=.returned (.bool (Pl.aL 100 (ks.getD j 0)))/\w'=u):=fun u=>HF.o 100 (ks.getD j 0) u hbd;cases hf:Pl.aL 100 (ks.getD j 0)
      ·have HE:Hid (R=false):=by
        show R=false;rw[HI2.o];refine Pl.wY NL.o HM.o ?_;rw[List.all_eq_false];refine⟨ks.getD j 0,?_,by rw[hf];decide⟩;have e2:(ks.drop i)[j-i]?=ks[j]?:=(by rw[List.getElem?_drop];congr 1;omega);rw[List.getD_eq_getElem?_getD,<- e2];have hl2:j-i<(ks.drop i).length:=(by rw[List.length_drop,HL.o];omega);rw[List.getElem?_eq_getElem hl2];exact List.getElem_mem _
       rw[hf]at uM;clear hf hbd;generalize ks.getD j 0=k at *;go_wp2_with (go_at_call 50;(try rw[NK]);refine (uM.o _).mono ?_;rintro e u1 ⟨rfl,rfl⟩)
       go_ret;exact⟨aC HE.o.symm,rfl⟩
      ·have VL:Hid (Pl.aL 100 (ks.getD j 0)=true):=hf;rw[hf]at uM;clear hf hbd;generalize hk:ks.getD j 0=k at *;have HK:Hid (ks.getD j 0=k):=hk;clear hk;go_wp2_with (go_at_call 50;(try rw[NK]);refine (uM.o _).mono ?_;rintro e u1 ⟨rfl,rfl⟩)
       go_round
       case rel=>exact⟨j+1,by omega,by omega,by go_num,fun q h1 h2=>by
        by_cases e:q=j
        ·rw[e,HK.o];exact VL.o
        ·exact HA.o q h1 (by omega)⟩
       case measure=>simp[intOf];omega
     ·have hjj:¬((j:Int)<(len:Int)):=(by omega);have zM:j=len:=(by omega);have HE:Hid (R=Pl.kS ((Pl.GI s).drop (p+1)) (ks.drop len) m):=by
       show R=_;rw[HI2.o,Pl.wZ NL.o HM.o HSE.o,@List.drop_eq_nil_of_le _ ks _ (by rw[HL.o];omega)];rw[List.all_eq_true];intro x hx;obtain⟨q,hq,e⟩:=List.getElem_of_mem hx;have hl2:i+q<ks.length:=(by rw[List.length_drop]at hq;omega);have:=HA.o (i+q) (by omega) (by rw[HL.o]at hl2;omega);rw[List.getElem_drop]at e;rw[List.getD_eq_getElem?_getD,List.getElem?_eq_getElem hl2]at this;rw[<- e];exact this
      subst zM;clear HA HI2;go_wp2_with fail
      go_round
      case rel=>exact⟨p+1,j,m,by omega,by omega,rfl,rfl,by go_num,HE⟩
      case measure=>simp[intOf];omega
   ·go_wp2_with fail
    go_loop [5] (fun x=>∃j:Nat,i<=j/\j<=len/\x=.int .i64 j/\Hid (∀q,i<=q->q<j->Pl.aL 69 (ks.getD q 0)=true)) (fun x=>len-(intOf x).toNat)
    case atStart=>exact⟨i,Nat.le_refl _,hi,rfl,fun q h1 h2=>by omega⟩
    case round=>
     obtain⟨j,hj1,hj2,rfl,HA⟩:=hrel;by_cases hjl:j<len
     ·have hjj:(j:Int)<(len:Int):=(by omega);obtain⟨b,off,rfl,hb,hcell⟩:=mK HR.o hjl;have hbd:=oJ HR.o hjl;have uM:Hid (∀u:World,Calls Tryz.prog 50 #[.int .u8 69,.int .i64 (ks.getD j 0)] u fun e w'=>e=.returned (.bool (Pl.aL 69 (ks.getD j 0)))/\w'=u):=fun u=>HF.o 69 (ks.getD j 0) u hbd;cases hf:Pl.aL 69 (ks.getD j 0)
      ·have HE:Hid (R=false):=by
        show R=false;rw[HI2.o];refine Pl.wY NL.o HM.o ?_;rw[List.all_eq_false];refine⟨ks.getD j 0,?_,by rw[hf];decide⟩;have e2:(ks.drop i)[j-i]?=ks[j]?:=(by rw[List.getElem?_drop];congr 1;omega);rw[List.getD_eq_getElem?_getD,<- e2];have hl2:j-i<(ks.drop i).length:=(by rw[List.length_drop,HL.o];omega);rw[List.getElem?_eq_getElem hl2];exact List.getElem_mem _
       rw[hf]at uM;clear hf hbd;generalize ks.getD j 0=k at *;go_wp2_with (go_at_call 50;(try rw[NK]);refine (uM.o _).mono ?_;rintro e u1 ⟨rfl,rfl⟩)
       go_ret;exact⟨aC HE.o.symm,rfl⟩
      ·have VL:Hid (Pl.aL 69 (ks.getD j 0)=true):=hf;rw[hf]at uM;clear hf hbd;generalize hk:ks.getD j 0=k at *;have HK:Hid (ks.getD j 0=k):=hk;clear hk;go_wp2_with (go_at_call 50;(try rw[NK]);refine (uM.o _).mono ?_;rintro e u1 ⟨rfl,rfl⟩)
       go_round
       case rel=>exact⟨j+1,by omega,by omega,by go_num,fun q h1 h2=>by
        by_cases e:q=j
        ·rw[e,HK.o];exact VL.o
        ·exact HA.o q h1 (by omega)⟩
       case measure=>simp[intOf];omega
     ·have hjj:¬((j:Int)<(len:Int)):=(by omega);have zM:j=len:=(by omega);have HE:Hid (R=Pl.kS ((Pl.GI s).drop (p+1)) (ks.drop len) m):=by
       show R=_;rw[HI2.o,Pl.wZ NL.o HM.o HSE.o,@List.drop_eq_nil_of_le _ ks _ (by rw[HL.o];omega)];rw[List.all_eq_true];intro x hx;obtain⟨q,hq,e⟩:=List.getElem_of_mem hx;have hl2:i+q<ks.length:=(by rw[List.length_drop]at hq;omega);have:=HA.o (i+q) (by omega) (by rw[HL.o]at hl2;omega);rw[List.getElem_drop]at e;rw[List.getD_eq_getElem?_getD,List.getElem?_eq_getElem hl2]at this;rw[<- e];exact this
      subst zM;clear HA HI2;go_wp2_with fail
      go_round
      case rel=>exact⟨p+1,j,m,by omega,by omega,rfl,rfl,by go_num,HE⟩
      case measure=>simp[intOf];omega
end W
namespace Pl
open Classical in
noncomputable def uN (p:Prop):Bool:=decide p
theorem nM {p:Prop}(h:p):uN p=true:=by unfold uN;simp[h]
theorem oQ {p:Prop}(h:¬p):uN p=false:=by unfold uN;simp[h]
theorem vK {p:Prop}(h:uN p=true):p:=by
 by_cases q:p
 ·exact q
 ·rw[oQ q]at h;cases h
theorem wD {p:Prop}(h:uN p=false):¬p:=fun q=>by rw[nM q]at h;cases h
def NN (xs:List Nd):Prop:=∀x∈xs,(-9223372036854775808<=x.k/\x.k<=9223372036854775807)/\(-9223372036854775808<=x.m/\x.m<=9223372036854775807)/\(-9223372036854775808<=x.n/\x.n<=9223372036854775807)/\(-9223372036854775808<=x.line/\x.line<=9223372036854775807)/\(-9223372036854775808<=x.aQ/\x.aQ<=9223372036854775807)
theorem NN.at {xs:List Nd}(h:NN xs){i:Nat}(hi:i<xs.length):(-9223372036854775808<=(nd xs i).k/\(nd xs i).k<=9223372036854775807)/\(-9223372036854775808<=(nd xs i).m/\(nd xs i).m<=9223372036854775807)/\(-9223372036854775808<=(nd xs i).n/\(nd xs i).n<=9223372036854775807)/\(-9223372036854775808<=(nd xs i).line/\(nd xs i).line<=9223372036854775807)/\(-9223372036854775808<=(nd xs i).aQ/\(nd xs i).aQ<=9223372036854775807):=by
 refine h _ ?_;unfold nd;rw[List.getD_eq_getElem?_getD,List.getElem?_eq_getElem hi];exact List.getElem_mem _
theorem Wy {xs:List Nd}{i:Nat}(hi:i<xs.length){l:List Nat}(h:vP xs i=some l) (hb:tK l (nd xs i).kids i (nd xs i).kids.length=none):¬aZ xs:=by
 rintro⟨_,_,l',h',_⟩;have:=DI (KT h hb) xs.length hi;rw[this]at h';cases h'
theorem aCM {bg:List Nat}{ks:List Int}{i j a:Nat}(h:tK bg ks i j=some a) (hn:¬(1<=a/\ks.getD (ks.length-1-j) 0=(a:Int)-1)):tK bg ks i (j+1)=none:=by rw[xM h,if_neg hn]
theorem Xa {xs:List Nd}{i:Nat}(hi:i<xs.length){l:List Nat}(h:vP xs i=some l){j a:Nat}(hj:j<(nd xs i).kids.length) (hw:tK l (nd xs i).kids i j=some a) (hn:¬(1<=a/\(nd xs i).kids.getD ((nd xs i).kids.length-1-j) 0=(a:Int)-1)):¬aZ xs:=
 Wy hi h (CZ (aCM hw hn) _ (by omega))
theorem Xb {xs:List Nd}{i:Nat}(hi:i<xs.length) (h:¬wH xs xs.length i):¬aZ xs:=fun ⟨_,_,_,_,_,hn⟩=>h (hn i hi)
theorem Oz {xs:List Nd}{l:List Nat}(h1:1<=xs.length) (h2:xs.length<=4000) (hb:vP xs xs.length=some l) (hn:∀i,i<xs.length->wH xs xs.length i):uN (aZ xs)=decide ((l.getD (xs.length-1) 0:Int)=0):=by
 by_cases e:l.getD (xs.length-1) 0=0
 ·rw[nM ⟨h1,h2,l,hb,e,hn⟩,decide_eq_true (by rw[e];rfl)]
 ·rw[oQ,decide_eq_false (by omega)];rintro⟨_,_,l',hb',e',_⟩;rw[hb]at hb';cases hb';exact e e'
def Er (K:List Int) (j:Nat):List Int:=List.replicate (K.length-j) 0++K.drop (K.length-j)
theorem Ch (K:List Int) (j:Nat):(Er K j).length=K.length:=by unfold Er;rw[List.length_append,List.length_replicate,List.length_drop];omega
theorem Pf (K:List Int):Er K 0=List.replicate K.length 0:=by unfold Er;simp
theorem Pg (K:List Int):Er K K.length=K:=by unfold Er;simp
theorem Xc (K:List Int){j:Nat}(h:j<K.length):(Er K j).set (K.length-1-j) (K.getD (K.length-1-j) 0)=Er K (j+1):=by
 apply List.ext_getElem?;intro p;have e:K.length-(j+1)=K.length-1-j:=by omega
 by_cases hp:p=K.length-1-j
 ·subst hp;rw[List.getElem?_set_self (by rw[Ch];omega)];unfold Er;rw[List.getElem?_append_right (by rw[List.length_replicate];omega),List.length_replicate,List.getElem?_drop,e];rw[show K.length-1-j+(K.length-1-j-(K.length-1-j))=K.length-1-j by omega,List.getD_eq_getElem?_getD,List.getElem?_eq_getElem (by omega)];rfl
 ·rw[List.getElem?_set_ne (fun q=>hp q.symm)];unfold Er;by_cases h1:p<K.length-1-j
  ·rw[List.getElem?_append_left (by rw[List.length_replicate];omega),List.getElem?_append_left (by rw[List.length_replicate];omega),List.getElem?_replicate,List.getElem?_replicate,if_pos (by omega),if_pos (by omega)]
  ·rw[List.getElem?_append_right (by rw[List.length_replicate];omega),List.getElem?_append_right (by rw[List.length_replicate];omega),List.length_replicate,List.length_replicate,List.getElem?_drop,List.getElem?_drop];congr 1;omega
end Pl
namespace W
open Go.RowKit
theorem aF {base:Nat}{e:TypeId}{k:Nat}{v:Value}{n:Nat}{xs:List Value}{w w':World}(h:w.ownsRow base e k v n xs) (hb:Bw w w'):w'.ownsRow base e k v n xs:=by
 refine⟨h.1,?_⟩;rcases h.2 with ⟨a,b⟩|⟨g,cap,cur,h0,hlo,hg,r⟩
 ·exact .inl ⟨a,b⟩
 ·exact .inr ⟨g,cap,cur,h0,hlo,(hb.block g (Array.getElem?_eq_some_iff.1 hg).1).trans hg,r⟩
structure TB (B:Nat) (u:World) (xs:List Pl.Nd) (i:Nat) (l:List Nat) (gb cb gt ct go co ga m ca:Nat):Prop where
 ob:u.ownsRow B 3 1 (.slice (some ⟨gb,0,none⟩) i cb) i (l.map fun n:Nat=>Value.int .i64 (n:Int))
 ot:u.ownsRow B 3 1 (.slice (some ⟨gt,0,none⟩) i ct) i ((Pl.oW xs i).map fun n:Nat=>Value.int .i64 (n:Int))
 oo:u.ownsRow B 4 1 (.slice (some ⟨go,0,none⟩) i co) i ((Pl.pU xs i).map Value.bool)
 oa:u.ownsRow B 9 1 (.slice (some ⟨ga,0,none⟩) m ca) m ((Pl.rV xs i).map Value.string)
 ne:gb≠gt
theorem TB.keep {B:Nat}{u u':World}{xs:List Pl.Nd}{i:Nat}{l:List Nat}{gb cb gt ct go co ga m ca:Nat}(h:TB B u xs i l gb cb gt ct go co ga m ca) (hb:Bw u u'):TB B u' xs i l gb cb gt ct go co ga m ca:=
 ⟨aF h.ob hb,aF h.ot hb,aF h.oo hb,aF h.oa hb,h.ne⟩
theorem NP {B:Nat}{u:World}{g n cap:Nat}{l:List Nat}(h:u.ownsRow B 3 1 (.slice (some ⟨g,0,none⟩) n cap) n (l.map fun n:Nat=>Value.int .i64 (n:Int))){p:Nat}(hp:p<n):u.cell? ⟨g,p,none⟩=some (.int .i64 ((l.getD p 0:Nat):Int)):=by
 have hl:l.length=n:=by have:=h.1;simpa using this
 rw[h.cellAt p (by omega),List.getElem?_map,List.getD_eq_getElem?_getD,List.getElem?_eq_getElem (by omega)];rfl
theorem yH {B:Nat}{u:World}{g n cap:Nat}{l:List Bool}(h:u.ownsRow B 4 1 (.slice (some ⟨g,0,none⟩) n cap) n (l.map Value.bool)){p:Nat}(hp:p<n):u.cell? ⟨g,p,none⟩=some (.bool (l.getD p false)):=by
 have hl:l.length=n:=by have:=h.1;simpa using this
 rw[h.cellAt p (by omega),List.getElem?_map,List.getD_eq_getElem?_getD,List.getElem?_eq_getElem (by omega)];rfl
theorem nU {B:Nat}{e:TypeId}{k:Nat}{u:World}{g n cap:Nat}{xs:List Value}(h:u.ownsRow B e k (.slice (some ⟨g,0,none⟩) n cap) n xs):B<=g/\g<u.heap.size:=h.lt g rfl
theorem Ph {B:Nat}{e:TypeId}{k:Nat}{u:World}{g n cap:Nat}{xs:List Value}(h:u.ownsRow B e k (.slice (some ⟨g,0,none⟩) n cap) n xs):n<=cap/\cap<=maxLen:=by
 rcases h.2 with ⟨h',_⟩|⟨g',cap',cur,h',hb,hg,hnc,hcm,hcs,htake⟩
 ·simp at h'
 ·simp only[Value.slice.injEq]at h';obtain⟨_,_,rfl⟩:=h';exact⟨hnc,hcm⟩
theorem Pj {B:Nat}{u:World}{g n cap:Nat}{ss:List ByteArray}(h:u.ownsRow B 9 1 (.slice (some ⟨g,0,none⟩) n cap) n (ss.map Value.string)) (hs:∀s∈ss,s.size<=maxLen):EN B u (some ⟨g,0,none⟩) n cap ss:=by
 have hl:ss.length=n:=by have:=h.1;simpa using this
 have hc:=Ph h;have hb:=nU h;refine⟨⟨hl,hs⟩,hc.1,hc.2,?_⟩;refine .inr ⟨g,0,rfl,hb.1,hb.2,fun i hi=>?_⟩;rw[Nat.zero_add,h.cellAt i (by omega),List.getElem?_map,List.getD_eq_getElem?_getD,List.getElem?_eq_getElem (by omega)];rfl
end W
namespace Pl
theorem aBg {xs:List Nd}{n i:Nat}(hn:∀j,j<i->wH xs n j){c:Nat}(hc:c<i):(oW xs i).getD c 0<=200:=by
 rw[wT xs hc];exact (hn c hc).Ni
theorem Pk {bg:List Nat}{ks:List Int}{i j c:Nat}(h:tK bg ks i j=some (c+1)) (h2:ks.getD (ks.length-1-j) 0=(c:Int)):tK bg ks i (j+1)=some (bg.getD c 0):=by
 have:=Ab h (by omega) (by rw[h2];omega);simpa using this
theorem Pm (tl:List Nat) (ks:List Int){j c:Nat}(h2:ks.getD (ks.length-1-j) 0=(c:Int)):hij tl ks (j+1)=if hij tl ks j<tl.getD c 0+1 then tl.getD c 0+1 else hij tl ks j:=by
 show Nat.max (hij tl ks j) _=_;rw[h2,Int.toNat_natCast];split
 ·exact Nat.max_eq_right (by omega)
 ·exact Nat.max_eq_left (by omega)
theorem YB (tl:List Nat) (ks:List Int) (ht:∀c,tl.getD c 0<=200):∀j,hij tl ks j<=201
 | 0=>by show 0<=201;omega
 | j+1=>by
  show Nat.max (hij tl ks j) _<=201;exact Nat.max_le.mpr ⟨YB tl ks ht j,by have:=ht (ks.getD (ks.length-1-j) 0).toNat;omega⟩
theorem Pn {xs:List Nd}{n i:Nat}(hn:∀j,j<i->wH xs n j) (c:Nat):(oW xs i).getD c 0<=200:=by
 by_cases hc:c<i
 ·exact aBg hn hc
 ·rw[List.getD_eq_getElem?_getD,List.getElem?_eq_none (by rw[BN];omega)];decide
theorem Po {xs:List Nd}(h:NN xs) (i:Nat):∀n∈kinds xs i,(Lit.int .i64 n).wf=true:=by
 intro n hn;unfold kinds at hn;obtain⟨c,_,rfl⟩:=List.mem_map.1 hn;have : -9223372036854775808<=(nd xs c.toNat).k/\(nd xs c.toNat).k<=9223372036854775807:=by
  by_cases hc:c.toNat<xs.length
  ·exact (h.at hc).1
  ·have:nd xs c.toNat=Nd.zero:=(by unfold nd;rw[List.getD_eq_getElem?_getD,List.getElem?_eq_none (by omega)];rfl);rw[this];decide
 change (Lit.int .i64 (nd xs c.toNat).k).wf=true;generalize (nd xs c.toNat).k=q at *;simp[Lit.wf,IntKind.min,IntKind.max,IntKind.signed,IntKind.bits];omega
theorem YC {k:Int}(h:aH k≠0):0<=k/\k<=49:=by
 by_cases q:k<0\/49<k
 ·exact absurd (KW q) h
 ·omega
theorem aCN {k:Int}(h:k=21\/k=22\/(24<=k/\k<=28)):kS (dM.getD k.toNat []) [] false=false:=by
 have:k=21\/k=22\/k=24\/k=25\/k=26\/k=27\/k=28:=by omega
 rcases this with rfl|rfl|rfl|rfl|rfl|rfl|rfl <;> decide
theorem last_pos {xs:List Nd}{i:Nat}(h:(nd xs i).k=21\/(nd xs i).k=22\/(24<=(nd xs i).k/\(nd xs i).k<=28)) (hk:kS (dM.getD (nd xs i).k.toNat []) (kinds xs i) false=true):1<=(nd xs i).kids.length:=by
 rcases Nat.eq_zero_or_pos (nd xs i).kids.length with q|q
 ·have:kinds xs i=[]:=List.eq_nil_of_length_eq_zero (by rw[aX];exact q);rw[this,aCN h]at hk;cases hk
 ·exact q
theorem aGp {k:Int}(h:aH k=2):k=7:=by
 have hr:=YC (k:=k) (by omega);obtain⟨n,rfl⟩:∃n:Nat,k=n:=⟨k.toNat,by omega⟩;have key:∀n:Fin 50,aH ((n.val:Nat):Int)=2->n.val=7:=by decide +kernel
 have:=key ⟨n,by omega⟩ h;simp only at this;omega
theorem Es {xs:List Nd}{n i:Nat}{l:List Nat}(O:qQ xs (i+1) l) (h4:(nd xs i).k=4) (h2:(nd xs i).kids.length=2) (hk:kS (dM.getD (nd xs i).k.toNat []) (kinds xs i) false=true) (hn:∀j,j<i->wH xs n j):1<=i/\1<=(nd xs (i-1)).kids.length:=by
 have hl:=aX xs i;rw[h2]at hl;obtain⟨hi1,_⟩:=O.last i (by omega) (by intro e;rw[e]at h2;cases h2);have h3:=ER O (by omega) h2;have e1:=rM xs (i:=i) (q:=1) (by omega);rw[h3]at e1;rw[h4]at hk
 match hK:kinds xs i,hl with
 | [k0,k1],_=>
  rw[hK]at hk e1;have e1':k1=(nd xs (i-1)).k:=e1;have hs:dM.getD (Int.toNat 4) []=[116,112]:=rfl;rw[hs]at hk;have hf:aL 112 k1=true:=by
   rw[kS,if_neg (by decide),if_neg (by decide)]at hk;change (if aL 116 k0=true then kS [112] [k1] false else false)=true at hk;split at hk
   ·rw[kS,if_neg (by decide),if_pos (by decide),if_neg (by rintro⟨_,q⟩;cases q)]at hk;split at hk
    ·rename_i q;simpa using q
    ·cases hk
   ·cases hk
  have h7:k1=7:=aGp (by unfold aL at hf;simpa using hf);refine⟨hi1,?_⟩;rcases Nat.eq_zero_or_pos (nd xs (i-1)).kids.length with q|q
  ·have hz:kinds xs (i-1)=[]:=List.eq_nil_of_length_eq_zero (by rw[aX];exact q);have:=(hn (i-1) (by omega)).kids;rw[hz,<- e1',h7]at this;exact absurd this (by decide)
  ·exact q
theorem NQ {xs:List Nd}:∀ {i:Nat},(∀k,k<i->(nd xs k).s.size<=1048576)->∀s∈rV xs i,s.size<=1048576
 | 0,_,s,hs=>by cases hs
 | i+1,h,s,hs=>by
  unfold rV at hs;split at hs
  ·rcases List.mem_append.mp hs with q|q
   ·exact NQ (fun j hj=>h j (by omega)) s q
   ·rw[List.mem_singleton.mp q];exact h i (by omega)
  ·exact NQ (fun j hj=>h j (by omega)) s hs
end Pl
namespace W
open Go.RowKit
theorem SK (k:IntKind) (n:Nat):(madeCells (Value.int k 0).cells n).toList=(List.replicate n (0:Int)).map (Value.int k):=by
 rw[show (Value.int k 0).cells=#[Value.int k 0] from rfl,toList_madeCells_one,List.map_replicate]
theorem Xd {P:Program}{c:Code}{Q:Exit->Act->World->Prop}{a:Act}{W:World}(h:∀U,U=W->c.wp P Q a U):c.wp P Q a W:=h W rfl
structure TRw (w0:World) (wr:World) (xs:List Pl.Nd) (i:Nat) (l:List Nat) (gb cb gt ct go co ga m ca:Nat):Prop where
 tb:TB w0.heap.size wr xs i l gb cb gt ct go co ga m ca
 bg:Pl.vP xs i=some l
 nd:∀j,j<i->Pl.wH xs xs.length j
 jR:Bw w0 wr
structure TK (u1:World) (wr:World) (xs:List Pl.Nd) (i:Nat) (l:List Nat) (vl j a gk:Nat):Prop where
 wk:Pl.tK l (Pl.nd xs i).kids i j=some a
 own:wr.ownsRow u1.heap.size 3 1 (.slice (some ⟨gk,0,none⟩) vl vl) vl ((Pl.Er (Pl.kinds xs i) j).map (Value.int .i64))
 jR:Bw u1 wr
theorem Pp {kn:Nat}(h:kn<50):(⟨(Pl.XX.getD kn []).toArray⟩:ByteArray).size<=1048576:=by
 have e:=Pl.Oy ⟨kn,h⟩;have e2:=congrArg List.length e;rw[Pl.NJ]at e2;have key:∀k:Fin 50,(Pl.dM.getD k.val []).length<=100:=by decide +kernel
 have e3:=key ⟨kn,h⟩;have e4:(⟨(Pl.XX.getD kn []).toArray⟩:ByteArray).size=(Pl.dM.getD kn []).length:=e2;have e5:(Pl.dM.getD kn []).length<=100:=e3;omega
theorem YD {lo:Nat}{kn:Nat}(h50:kn<50){g j:Nat}{K:List Int}{u:World}(h:Row .i64 lo u (some ⟨g,0,none⟩) j j K):Calls Tryz.prog 24 #[.string ⟨(Pl.XX.getD kn []).toArray⟩,.slice (some ⟨g,0,none⟩) j j] u fun e w'=>e=.returned (.bool (Pl.kS (Pl.dM.getD kn []) K false))/\w'=u:=by
 have key:=SI ⟨(Pl.XX.getD kn []).toArray⟩ (Pp h50) (some ⟨g,0,none⟩) j j K u h;have e:Pl.GI ⟨(Pl.XX.getD kn []).toArray⟩=Pl.dM.getD kn []:=Pl.Oy ⟨kn,h50⟩;rw[e]at key;exact key
theorem Xe {u1 y2:World}{xs:List Pl.Nd}{i:Nat}{l:List Nat}{j a gk:Nat}(h:TK u1 y2 xs i l j j a gk) (hw:Pl.NN xs) (hj:(Pl.nd xs i).kids.length=j):Row .i64 u1.heap.size y2 (some ⟨gk,0,none⟩) j j (Pl.kinds xs i):=by
 have o:=h.own;have e1:(Pl.kinds xs i).length=j:=by rw[Pl.aX,hj]
 have e2:Pl.Er (Pl.kinds xs i) j=Pl.kinds xs i:=by have:=Pl.Pg (Pl.kinds xs i);rwa [e1]at this
 rw[e2]at o;exact Own.row (e:=3) ⟨o,Pl.Po hw i⟩
def FQ (n:Nat):Code->Bool
 | .region m _ _=>m == n
 | .seq a _=>FQ n a
 | _=>false
def xD (n:Nat):Code->Option Code
 | .seq a b=>if FQ n a then some a else match xD n a with
  | some c=>some c
  | none=>xD n b
 | .block _ c=>xD n c
 | .loop c=>xD n c
 | .scope c=>xD n c
 | _=>none
def xE (n:Nat):Code->Option Code
 | .seq a b=>if FQ n a then some (.seq a b) else match xE n a with
  | some c=>some c
  | none=>xE n b
 | .block _ c=>xE n c
 | .loop c=>xE n c
 | .scope c=>xE n c
 | _=>none
noncomputable def zR (n:Nat):Code:=((Tryz.f14.body.bind (xD n)).getD .skip)
structure TP (xs:List Pl.Nd) (len i:Nat) (l:List Nat) (vl a:Nat):Prop where
 hi:i<len
 l4:len<=4000
 xl:xs.length=len
 wf:Pl.NN xs
 kl:∀i,i<len->(Pl.nd xs i).kids.length<=1048576
 sl:∀i,i<len->(Pl.nd xs i).s.size<=1048576
 bg:Pl.vP xs i=some l
 nd:∀j,j<i->Pl.wH xs xs.length j
 vk:(Pl.nd xs i).kids.length=vl
 wk:Pl.tK l (Pl.nd xs i).kids i vl=some a
theorem TP.ord {xs:List Pl.Nd}{len i:Nat}{l:List Nat}{vl a:Nat}(h:TP xs len i l vl a):Pl.vP xs (i+1)=some (l++[a])/\Pl.qQ xs (i+1) (l++[a]):=by
 have e:Pl.vP xs (i+1)=some (l++[a]):=Pl.DD h.bg (by rw[h.vk];exact h.wk);exact⟨e,Pl.yS e⟩
theorem TP.kid {xs:List Pl.Nd}{len i:Nat}{l:List Nat}{vl a:Nat}(h:TP xs len i l vl a){q:Nat}(hq:q<vl):∃c:Nat,(Pl.nd xs i).kids.getD q 0=(c:Int)/\c<i:=by
 obtain⟨c,h1,h2,_⟩:=h.ord.2.kid i (by omega) _ (Pl.nN (ks:=(Pl.nd xs i).kids) (q:=q) (by rw[h.vk];exact hq));exact⟨c,h1,h2⟩
structure TC (lo:Nat) (w w0 y:World) (xs:List Pl.Nd) (len cap i:Nat) (l:List Nat) (gb cb gt ct go co ga m ca gn:Nat) (va:Option Addr) (vl vc b off:Nat):Prop where
 jR:Bw w0 y
 tb:TB w0.heap.size y xs i l gb cb gt ct go co ga m ca
 nd:y.heap[gn]?=some (.cells ((Pl.nd xs i).cells ⟨va,vl,vc⟩) 45 (0,0))
 row:Row .i64 lo y va vl vc (Pl.nd xs i).kids
 JC:aT lo y (some ⟨b,off,none⟩) len cap xs
 box:y.heap[w.heap.size]?=some (.cells #[.slice (some ⟨b,off,none⟩) len cap] 31 (0,0))
theorem TC.keep {lo:Nat}{w w0 y y':World}{xs:List Pl.Nd}{len cap i:Nat}{l:List Nat}{gb cb gt ct go co ga m ca gn:Nat}{va:Option Addr}{vl vc b off:Nat}(h:TC lo w w0 y xs len cap i l gb cb gt ct go co ga m ca gn va vl vc b off) (hb:Bw y y'):TC lo w w0 y' xs len cap i l gb cb gt ct go co ga m ca gn va vl vc b off:=by
 have lt:∀ {b:Nat} {o:Obj},y.heap[b]?=some o->b<y.heap.size:=fun q=>(Array.getElem?_eq_some_iff.1 q).1;exact⟨h.jR.trans (hb.mono h.jR.size),h.tb.keep hb,(hb.block _ (lt h.nd)).trans h.nd,h.row.keep hb,h.JC.keep hb,(hb.block _ (lt h.box)).trans h.box⟩
theorem TC.cells {lo:Nat}{w w0 y:World}{xs:List Pl.Nd}{len cap i:Nat}{l:List Nat}{gb cb gt ct go co ga m ca gn:Nat}{va:Option Addr}{vl vc b off:Nat}(h:TC lo w w0 y xs len cap i l gb cb gt ct go co ga m ca gn va vl vc b off){x:Pl.Nd}(hx:x=Pl.nd xs i):y.cell? ⟨gn,0,none⟩=some (.int .i64 x.k)/\y.cell? ⟨gn,1,none⟩=some (.int .i64 x.m)/\y.cell? ⟨gn,2,none⟩=some (.int .i64 x.n)/\y.cell? ⟨gn,3,none⟩=some (.string x.s)/\y.cell? ⟨gn,4,none⟩=some (.slice va vl vc)/\y.cell? ⟨gn,5,none⟩=some (.int .i64 x.line)/\y.cell? ⟨gn,6,none⟩=some (.int .i64 x.aQ):=by
 subst hx;have f:=fun j=>cell_of_row y gn j _ 45 (0,0) h.nd;exact⟨f 0,f 1,f 2,f 3,f 4,f 5,f 6⟩
structure F24 (xs:List Pl.Nd) (i:Nat):Prop where
 sort:Pl.aH (Pl.nd xs i).k≠0
 kids:Pl.kS (Pl.dM.getD (Pl.nd xs i).k.toNat []) (Pl.kinds xs i) false=true
 mark:Pl.CL (Pl.nd xs i)=true
 text:Pl.GD (Pl.nd xs i) (Pl.rV xs i)=true
 line:Pl.WY (Pl.nd xs i).line=true
 aQ:Pl.WY (Pl.nd xs i).aQ=true
 Ni:Pl.hij (Pl.oW xs i) (Pl.nd xs i).kids (Pl.nd xs i).kids.length<=200
set_option maxRecDepth 1000000 in
theorem aC4 {lo:Nat}{w w0 y:World}{xs:List Pl.Nd}{len cap i:Nat}{l:List Nat}{gb cb gt ct go co ga m ca gn:Nat}{va:Option Addr}{vl vc b off a hi gk:Nat}(hp:TP xs len i l vl a) (hc:TC lo w w0 y xs len cap i l gb cb gt ct go co ga m ca gn va vl vc b off){kb:Nat}(hkr:Row .i64 kb y (some ⟨gk,0,none⟩) vl vl (Pl.kinds xs i)) (hh:hi=Pl.hij (Pl.oW xs i) (Pl.nd xs i).kids vl) (c0 c12 c13 c14 c15 c16 c17 c18 c19 c20 c21 jY c23 c24 jZ kC kD c28 kF kG c31 c32 jU c34 kH mM c37 mO mP c40 mF kV mG mH mI c46 lQ kQ c49 lS c51 lT c53 lU lV lW lX lY c59 lZ lF lG lH c64 lI lJ lK lL lM c70 mQ c72 mR mU c75 c76 mV mW mX c80 mY mZ qI qJ c85 qK c87 qL qM qN c91 pW c93 pX pY qA qB qC qD iV iW iX iY iZ c105 jA c107 jB c109 jC jD jE jF jG jH c116 c117 jI c119 jJ jK jL jM c124 jN jO c127 jP jQ c130 c131 iI iJ iK iL iM iN c138 c139 iO c141 iP c143 iQ c145 c146 iR c148 fM fO fP c152 fQ c154 fT c156 c157 fU c159 c160 fV c162 fZ c164 gB gD c167 c168 gF gG c171 gH c173 gI c175 gJ gK gL gM gN gP c182 c183 gQ gT gU gV gW gX gY gZ iA c193 c194 iB c196 iC c198 iD iE c201 eY c203 eZ fA c206 fB c208 fC c210 fD c212 c213 fE fF fG fH c218 fI dR dS c222 dU dV dW c226 c227 c228 c229 dX dY c232 c233 c234 dZ c236 eB eD eF eG eH eO eP eQ eT eU eX dN dO dP dQ dG dH dI dJ bZ cB cK cO cZ dA dB dC bP bQ bR bS bT bU bV bW bX bY bG bH bI bJ bK bL bM:Value) (K:Act->World->Prop) (Q:Exit->Act->World->Prop)
  (hR:∀(tmps:Array Value) (y':World),tmps.getD 2 undef=.bool false->¬Pl.wH xs xs.length i->Bw y y'->Q .ret { tmps:=tmps,defers:=[] } y')
  (hK:∀(s92 s93 s94 s95 s96 s97 s98 s99 Xt Xu Xv Xw Xx Xy Xz Ya Yb Yc Ye Yf Yg Yh Yi Yj Yk Yl Ym Yn Yo Yp Yq Yr Yt Yu Yv Yw Yx Yy Yz:Value)  (y':World),Bw y y'->F24 xs i->K { tmps:=#[c0,.pointer (some ⟨w.heap.size,0,none⟩),.bool false,.slice (some ⟨gb,0,none⟩) i cb,.slice (some ⟨gt,0,none⟩) i ct,.slice (some ⟨go,0,none⟩) i co,.slice (some ⟨ga,0,none⟩) m ca,.int .i64 (i:Int),.pointer (some ⟨gn,0,none⟩),.int .i64 (a:Int),.int .i64 (hi:Int),.slice (some ⟨gk,0,none⟩) vl vl,c12,c13,c14,c15,c16,c17,c18,c19,c20,c21,jY,c23,c24,jZ,kC,kD,c28,kF,kG,c31,c32,jU,c34,kH,mM,c37,mO,mP,c40,mF,kV,mG,mH,mI,c46,lQ,kQ,c49,lS,c51,lT,c53,lU,lV,lW,lX,lY,c59,lZ,lF,lG,lH,c64,lI,lJ,lK,lL,lM,c70,mQ,c72,mR,mU,c75,c76,mV,mW,mX,c80,mY,mZ,qI,qJ,c85,qK,c87,qL,qM,qN,c91,s92,s93,s94,s95,s96,s97,s98,s99,Xt,Xu,Xv,Xw,Xx,Xy,Xz,Ya,Yb,Yc,Ye,Yf,Yg,Yh,Yi,Yj,Yk,Yl,Ym,Yn,Yo,Yp,Yq,Yr,Yt,Yu,Yv,Yw,Yx,Yy,Yz,c131,iI,iJ,iK,iL,iM,iN,c138,c139,iO,c141,iP,c143,iQ,c145,c146,iR,c148,fM,fO,fP,c152,fQ,c154,fT,c156,c157,fU,c159,c160,fV,c162,fZ,c164,gB,gD,c167,c168,gF,gG,c171,gH,c173,gI,c175,gJ,gK,gL,gM,gN,gP,c182,c183,gQ,gT,gU,gV,gW,gX,gY,gZ,iA,c193,c194,iB,c196,iC,c198,iD,iE,c201,eY,c203,eZ,fA,c206,fB,c208,fC,c210,fD,c212,c213,fE,fF,fG,fH,c218,fI,dR,dS,c222,dU,dV,dW,c226,c227,c228,c229,dX,dY,c232,c233,c234,dZ,c236,eB,eD,eF,eG,eH,eO,eP,eQ,eT,eU,eX,dN,dO,dP,dQ,dG,dH,dI,dJ,bZ,cB,cK,cO,cZ,dA,dB,dC,bP,bQ,bR,bS,bT,bU,bV,bW,bX,bY,bG,bH,bI,bJ,bK,bL,bM],defers:=[] } y') :
  (zR 24).wp Tryz.prog (Exit.then K Q) { tmps:=#[c0,.pointer (some ⟨w.heap.size,0,none⟩),.bool false,.slice (some ⟨gb,0,none⟩) i cb,.slice (some ⟨gt,0,none⟩) i ct,.slice (some ⟨go,0,none⟩) i co,.slice (some ⟨ga,0,none⟩) m ca,.int .i64 (i:Int),.pointer (some ⟨gn,0,none⟩),.int .i64 (a:Int),.int .i64 (hi:Int),.slice (some ⟨gk,0,none⟩) vl vl,c12,c13,c14,c15,c16,c17,c18,c19,c20,c21,jY,c23,c24,jZ,kC,kD,c28,kF,kG,c31,c32,jU,c34,kH,mM,c37,mO,mP,c40,mF,kV,mG,mH,mI,c46,lQ,kQ,c49,lS,c51,lT,c53,lU,lV,lW,lX,lY,c59,lZ,lF,lG,lH,c64,lI,lJ,lK,lL,lM,c70,mQ,c72,mR,mU,c75,c76,mV,mW,mX,c80,mY,mZ,qI,qJ,c85,qK,c87,qL,qM,qN,c91,pW,c93,pX,pY,qA,qB,qC,qD,iV,iW,iX,iY,iZ,c105,jA,c107,jB,c109,jC,jD,jE,jF,jG,jH,c116,c117,jI,c119,jJ,jK,jL,jM,c124,jN,jO,c127,jP,jQ,c130,c131,iI,iJ,iK,iL,iM,iN,c138,c139,iO,c141,iP,c143,iQ,c145,c146,iR,c148,fM,fO,fP,c152,fQ,c154,fT,c156,c157,fU,c159,c160,fV,c162,fZ,c164,gB,gD,c167,c168,gF,gG,c171,gH,c173,gI,c175,gJ,gK,gL,gM,gN,gP,c182,c183,gQ,gT,gU,gV,gW,gX,gY,gZ,iA,c193,c194,iB,c196,iC,c198,iD,iE,c201,eY,c203,eZ,fA,c206,fB,c208,fC,c210,fD,c212,c213,fE,fF,fG,fH,c218,fI,dR,dS,c222,dU,dV,dW,c226,c227,c228,c229,dX,dY,c232,c233,c234,dZ,c236,eB,eD,eF,eG,eH,eO,eP,eQ,eT,eU,eX,dN,dO,dP,dQ,dG,dH,dI,dJ,bZ,cB,cK,cO,cZ,dA,dB,dC,bP,bQ,bR,bS,bT,bU,bV,bW,bX,bY,bG,bH,bI,bJ,bK,bL,bM],defers:=[] } y:=by
 have rE:Hid (∀(tmps:Array Value) (y':World),tmps.getD 2 undef=.bool false->¬Pl.wH xs xs.length i->Bw y y'->Q .ret { tmps:=tmps,defers:=[] } y'):=hR;have oC:Hid _:=hK;have HP:Hid (TP xs len i l vl a):=hp;have HC:Hid (TC lo w w0 y xs len cap i l gb cb gt ct go co ga m ca gn va vl vc b off):=hc;clear hR hK
 conv=>arg 2;whnf
 obtain⟨x,hx⟩:∃x,x=Pl.nd xs i:=⟨_,rfl⟩;have HX:Hid (x=Pl.nd xs i):=hx;have hxw:=hp.wf.at (i:=i) (by rw[hp.xl];exact hp.hi);rw[<- hx]at hxw;obtain⟨hxk,hxm,hxn,hxl,hxc⟩:=hxw;have hxs:x.s.size<=1048576:=by rw[hx];exact hp.sl i hp.hi
 have hvl:vl<=1048576:=by rw[<- hp.vk];exact hp.kl i hp.hi
 have hhi:hi<=201:=by rw[hh];exact Pl.YB _ _ (Pl.Pn hp.nd) _
 have HHI:Hid (hi=Pl.hij (Pl.oW xs i) (Pl.nd xs i).kids (Pl.nd xs i).kids.length):=by show hi=_;rw[hh,hp.vk]
 have HSO:Hid (∀u:World,Calls Tryz.prog 23 #[.int .i64 x.k] u fun e w'=>e=.returned (.int .i64 (Pl.aH x.k))/\w'=u):=fun u=>KM x.k hxk u;have HKR:Hid (Row .i64 kb y (some ⟨gk,0,none⟩) vl vl (Pl.kinds xs i)):=hkr;obtain⟨qX,tC,tF,rW,qO,tH,tJ⟩:=hc.cells hx;have HAL:Hid (∀s∈Pl.rV xs i,s.size<=maxLen):=fun s hs=>by
  have:=Pl.NQ (xs:=xs) (i:=i) (fun k hk=>hp.sl k (by have:=hp.hi;omega)) s hs;unfold maxLen;omega
 have aC5:Hid (∀u:World,Bw y u->Calls Tryz.prog 27 #[.agg #[.int .i64 x.k,.int .i64 x.m,.int .i64 x.n,.string x.s,.slice va vl vc,.int .i64 x.line,.int .i64 x.aQ],.slice (some ⟨ga,0,none⟩) m ca] u fun e w'=>e=.returned (.bool (Pl.GD x (Pl.rV xs i)))/\Bw u w'):=by
  have key:=fun (u:World) (hu:Bw y u)=>SG x ⟨va,vl,vc⟩ (some ⟨ga,0,none⟩) m ca (Pl.rV xs i) u (Pj (hc.keep hu).tb.oa HAL.o) hxs hxn.2;exact key
 have aC6:Hid (∀u:World,Calls Tryz.prog 26 #[.agg #[.int .i64 x.k,.int .i64 x.m,.int .i64 x.n,.string x.s,.slice va vl vc,.int .i64 x.line,.int .i64 x.aQ]] u fun e w'=>e=.returned (.bool (Pl.CL x))/\Bw u w'):=by
  have key:=SC x ⟨va,vl,vc⟩;exact key
 have Oq:Hid (∀(n:Int) (u:World),Calls Tryz.prog 28 #[.int .i64 n] u fun e w'=>e=.returned (.bool (Pl.WY n))/\w'=u):=fun n u=>NI n u;clear hp hc hh hkr hxm hxn hxl hxc hxs hxk hvl HAL;by_cases t1:Pl.aH x.k=0
 ·have HN:Hid (¬Pl.wH xs xs.length i):=fun S=>S.sort (by rw[<- hx];exact t1);clear hx oC aC5 aC6;go_wp2_with (go_at_call 23;refine (HSO.o _).mono ?_;rintro e z1 ⟨rfl,g1⟩;rw[g1,t1];clear g1 z1)
  exact rE.o _ _ rfl HN.o (Below.refl _ _)
 obtain⟨kn,hkn⟩:∃kn:Nat,x.k=kn:=⟨x.k.toNat,by have:=Pl.YC t1;omega⟩;have aBi:kn<50:=by have:=Pl.YC t1;omega
 have Te:Hid (x.k=(kn:Int)):=hkn;have aEL:Hid (∀u:World,Calls Tryz.prog 25 #[.int .i64 x.k] u fun e w'=>e=.returned (.string ⟨(Pl.XX.getD kn []).toArray⟩)/\Bw u w'):=fun u=>by rw[Te.o];exact XZ kn aBi u
 obtain⟨KB,hKB⟩:∃KB,KB=Pl.kS (Pl.dM.getD (Pl.nd xs i).k.toNat []) (Pl.kinds xs i) false:=⟨_,rfl⟩;have HKB:Hid (KB=Pl.kS (Pl.dM.getD (Pl.nd xs i).k.toNat []) (Pl.kinds xs i) false):=hKB;have ekn:(Pl.nd xs i).k.toNat=kn:=by rw[<- HX.o,Te.o,Int.toNat_natCast]
 rw[ekn]at hKB;have Ez:Hid (∀u:World,Bw y u->Calls Tryz.prog 24 #[.string ⟨(Pl.XX.getD kn []).toArray⟩,.slice (some ⟨gk,0,none⟩) vl vl] u fun e w'=>e=.returned (.bool KB)/\w'=u):=fun u hu=>(YD aBi (HKR.o.keep hu)).mono fun e w' ⟨h1,h2⟩=>⟨by rw[h1,hKB],h2⟩;obtain⟨S0,hS0⟩:∃S0:ByteArray,S0=⟨(Pl.XX.getD kn []).toArray⟩:=⟨_,rfl⟩;have Wt:Hid (∀u:World,Calls Tryz.prog 25 #[.int .i64 x.k] u fun e w'=>e=.returned (.string S0)/\Bw u w'):=by rw[hS0];exact aEL
 have SY:Hid (∀u:World,Bw y u->Calls Tryz.prog 24 #[.string S0,.slice (some ⟨gk,0,none⟩) vl vl] u fun e w'=>e=.returned (.bool KB)/\w'=u):=by rw[hS0];exact Ez
 have HN1:Hid (¬Pl.aH x.k=0):=t1;have t1b:(Pl.aH x.k == 0)=false:=by simpa using t1
 obtain⟨MB,hMB⟩:∃MB,MB=Pl.CL x:=⟨_,rfl⟩;have HMB:Hid (MB=Pl.CL x):=hMB;have HMO:Hid (∀u:World,Calls Tryz.prog 26 #[.agg #[.int .i64 x.k,.int .i64 x.m,.int .i64 x.n,.string x.s,.slice va vl vc,.int .i64 x.line,.int .i64 x.aQ]] u fun e w'=>e=.returned (.bool MB)/\Bw u w'):=by rw[hMB];exact aC6
 obtain⟨TX,FN⟩:∃TX,TX=Pl.GD x (Pl.rV xs i):=⟨_,rfl⟩;have HTX:Hid (TX=Pl.GD x (Pl.rV xs i)):=FN;have Tc:Hid (∀u:World,Bw y u->Calls Tryz.prog 27 #[.agg #[.int .i64 x.k,.int .i64 x.m,.int .i64 x.n,.string x.s,.slice va vl vc,.int .i64 x.line,.int .i64 x.aQ],.slice (some ⟨ga,0,none⟩) m ca] u fun e w'=>e=.returned (.bool TX)/\Bw u w'):=by rw[FN];exact aC5
 clear hKB hS0 hMB FN hkn t1 Te hx ekn aEL Ez aC6 aC5 HKR;cases KB
 ·have HN:Hid (¬Pl.wH xs xs.length i):=fun S=>by have:=S.kids;rw[<- HKB.o]at this;cases this
  clear oC;go_wp2_with (first|(go_at_call 23;refine (HSO.o _).mono ?_;rintro e z1 ⟨rfl,g1⟩;rw[g1];clear g1 z1)|(go_at_call 25;refine (Wt.o _).mono ?_;rintro e z2 ⟨rfl,d2⟩;have D2:Hid (Bw y z2):=d2;clear d2;obtain⟨qX,tC,tF,rW,qO,tH,tJ⟩:=(HC.o.keep D2.o).cells HX.o)|(go_at_call 24;refine (SY.o _ D2.o).mono ?_;rintro e z3 ⟨rfl,g3⟩;rw[g3];clear g3 z3)|(go_at_call 26;refine (HMO.o _).mono ?_;rintro e z4 ⟨rfl,d4⟩;have D4:Hid (Bw y z4):=D2.o.trans (d4.mono D2.o.size);clear d4;obtain⟨qX,tC,tF,rW,qO,tH,tJ⟩:=(HC.o.keep D4.o).cells HX.o)|(go_at_call 27;refine (Tc.o _ D4.o).mono ?_;rintro e z5 ⟨rfl,d5⟩;have D5:Hid (Bw y z5):=D4.o.trans (d5.mono D4.o.size);clear d5;obtain⟨qX,tC,tF,rW,qO,tH,tJ⟩:=(HC.o.keep D5.o).cells HX.o)|(go_at_call 28;refine (Oq.o _ _).mono ?_;rintro e z6 ⟨rfl,g6⟩;rw[g6];clear g6 z6))
  exact rE.o _ _ rfl HN.o D2.o
 cases MB
 ·have HN:Hid (¬Pl.wH xs xs.length i):=fun S=>by have:=S.mark;rw[<- HX.o,<- HMB.o]at this;cases this
  clear oC;go_wp2_with (first|(go_at_call 23;refine (HSO.o _).mono ?_;rintro e z1 ⟨rfl,g1⟩;rw[g1];clear g1 z1)|(go_at_call 25;refine (Wt.o _).mono ?_;rintro e z2 ⟨rfl,d2⟩;have D2:Hid (Bw y z2):=d2;clear d2;obtain⟨qX,tC,tF,rW,qO,tH,tJ⟩:=(HC.o.keep D2.o).cells HX.o)|(go_at_call 24;refine (SY.o _ D2.o).mono ?_;rintro e z3 ⟨rfl,g3⟩;rw[g3];clear g3 z3)|(go_at_call 26;refine (HMO.o _).mono ?_;rintro e z4 ⟨rfl,d4⟩;have D4:Hid (Bw y z4):=D2.o.trans (d4.mono D2.o.size);clear d4;obtain⟨qX,tC,tF,rW,qO,tH,tJ⟩:=(HC.o.keep D4.o).cells HX.o)|(go_at_call 27;refine (Tc.o _ D4.o).mono ?_;rintro e z5 ⟨rfl,d5⟩;have D5:Hid (Bw y z5):=D4.o.trans (d5.mono D4.o.size);clear d5;obtain⟨qX,tC,tF,rW,qO,tH,tJ⟩:=(HC.o.keep D5.o).cells HX.o)|(go_at_call 28;refine (Oq.o _ _).mono ?_;rintro e z6 ⟨rfl,g6⟩;rw[g6];clear g6 z6))
  exact rE.o _ _ rfl HN.o D4.o
 cases TX
 ·have HN:Hid (¬Pl.wH xs xs.length i):=fun S=>by have:=S.text;rw[<- HX.o,<- HTX.o]at this;cases this
  clear oC;go_wp2_with (first|(go_at_call 23;refine (HSO.o _).mono ?_;rintro e z1 ⟨rfl,g1⟩;rw[g1];clear g1 z1)|(go_at_call 25;refine (Wt.o _).mono ?_;rintro e z2 ⟨rfl,d2⟩;have D2:Hid (Bw y z2):=d2;clear d2;obtain⟨qX,tC,tF,rW,qO,tH,tJ⟩:=(HC.o.keep D2.o).cells HX.o)|(go_at_call 24;refine (SY.o _ D2.o).mono ?_;rintro e z3 ⟨rfl,g3⟩;rw[g3];clear g3 z3)|(go_at_call 26;refine (HMO.o _).mono ?_;rintro e z4 ⟨rfl,d4⟩;have D4:Hid (Bw y z4):=D2.o.trans (d4.mono D2.o.size);clear d4;obtain⟨qX,tC,tF,rW,qO,tH,tJ⟩:=(HC.o.keep D4.o).cells HX.o)|(go_at_call 27;refine (Tc.o _ D4.o).mono ?_;rintro e z5 ⟨rfl,d5⟩;have D5:Hid (Bw y z5):=D4.o.trans (d5.mono D4.o.size);clear d5;obtain⟨qX,tC,tF,rW,qO,tH,tJ⟩:=(HC.o.keep D5.o).cells HX.o)|(go_at_call 28;refine (Oq.o _ _).mono ?_;rintro e z6 ⟨rfl,g6⟩;rw[g6];clear g6 z6))
  exact rE.o _ _ rfl HN.o D5.o
 cases hL:Pl.WY x.line
 ·have HN:Hid (¬Pl.wH xs xs.length i):=fun S=>by have:=S.line;rw[<- HX.o,hL]at this;cases this
  clear oC;go_wp2_with (first|(go_at_call 23;refine (HSO.o _).mono ?_;rintro e z1 ⟨rfl,g1⟩;rw[g1];clear g1 z1)|(go_at_call 25;refine (Wt.o _).mono ?_;rintro e z2 ⟨rfl,d2⟩;have D2:Hid (Bw y z2):=d2;clear d2;obtain⟨qX,tC,tF,rW,qO,tH,tJ⟩:=(HC.o.keep D2.o).cells HX.o)|(go_at_call 24;refine (SY.o _ D2.o).mono ?_;rintro e z3 ⟨rfl,g3⟩;rw[g3];clear g3 z3)|(go_at_call 26;refine (HMO.o _).mono ?_;rintro e z4 ⟨rfl,d4⟩;have D4:Hid (Bw y z4):=D2.o.trans (d4.mono D2.o.size);clear d4;obtain⟨qX,tC,tF,rW,qO,tH,tJ⟩:=(HC.o.keep D4.o).cells HX.o)|(go_at_call 27;refine (Tc.o _ D4.o).mono ?_;rintro e z5 ⟨rfl,d5⟩;have D5:Hid (Bw y z5):=D4.o.trans (d5.mono D4.o.size);clear d5;obtain⟨qX,tC,tF,rW,qO,tH,tJ⟩:=(HC.o.keep D5.o).cells HX.o)|(go_at_call 28;refine (Oq.o _ _).mono ?_;rintro e z6 ⟨rfl,g6⟩;rw[g6];clear g6 z6))
  exact rE.o _ _ rfl HN.o D5.o
 cases hC:Pl.WY x.aQ
 ·have HN:Hid (¬Pl.wH xs xs.length i):=fun S=>by have:=S.aQ;rw[<- HX.o,hC]at this;cases this
  clear oC;go_wp2_with (first|(go_at_call 23;refine (HSO.o _).mono ?_;rintro e z1 ⟨rfl,g1⟩;rw[g1];clear g1 z1)|(go_at_call 25;refine (Wt.o _).mono ?_;rintro e z2 ⟨rfl,d2⟩;have D2:Hid (Bw y z2):=d2;clear d2;obtain⟨qX,tC,tF,rW,qO,tH,tJ⟩:=(HC.o.keep D2.o).cells HX.o)|(go_at_call 24;refine (SY.o _ D2.o).mono ?_;rintro e z3 ⟨rfl,g3⟩;rw[g3];clear g3 z3)|(go_at_call 26;refine (HMO.o _).mono ?_;rintro e z4 ⟨rfl,d4⟩;have D4:Hid (Bw y z4):=D2.o.trans (d4.mono D2.o.size);clear d4;obtain⟨qX,tC,tF,rW,qO,tH,tJ⟩:=(HC.o.keep D4.o).cells HX.o)|(go_at_call 27;refine (Tc.o _ D4.o).mono ?_;rintro e z5 ⟨rfl,d5⟩;have D5:Hid (Bw y z5):=D4.o.trans (d5.mono D4.o.size);clear d5;obtain⟨qX,tC,tF,rW,qO,tH,tJ⟩:=(HC.o.keep D5.o).cells HX.o)|(go_at_call 28;refine (Oq.o _ _).mono ?_;rintro e z6 ⟨rfl,g6⟩;rw[g6];clear g6 z6))
  exact rE.o _ _ rfl HN.o D5.o
 by_cases hta:200<hi
 ·have HN:Hid (¬Pl.wH xs xs.length i):=fun S=>by have:=S.Ni;rw[<- HHI.o]at this;omega
  have aGs:(200:Int)<(hi:Int):=by omega
  clear oC;go_wp2_with (first|(go_at_call 23;refine (HSO.o _).mono ?_;rintro e z1 ⟨rfl,g1⟩;rw[g1];clear g1 z1)|(go_at_call 25;refine (Wt.o _).mono ?_;rintro e z2 ⟨rfl,d2⟩;have D2:Hid (Bw y z2):=d2;clear d2;obtain⟨qX,tC,tF,rW,qO,tH,tJ⟩:=(HC.o.keep D2.o).cells HX.o)|(go_at_call 24;refine (SY.o _ D2.o).mono ?_;rintro e z3 ⟨rfl,g3⟩;rw[g3];clear g3 z3)|(go_at_call 26;refine (HMO.o _).mono ?_;rintro e z4 ⟨rfl,d4⟩;have D4:Hid (Bw y z4):=D2.o.trans (d4.mono D2.o.size);clear d4;obtain⟨qX,tC,tF,rW,qO,tH,tJ⟩:=(HC.o.keep D4.o).cells HX.o)|(go_at_call 27;refine (Tc.o _ D4.o).mono ?_;rintro e z5 ⟨rfl,d5⟩;have D5:Hid (Bw y z5):=D4.o.trans (d5.mono D4.o.size);clear d5;obtain⟨qX,tC,tF,rW,qO,tH,tJ⟩:=(HC.o.keep D5.o).cells HX.o)|(go_at_call 28;refine (Oq.o _ _).mono ?_;rintro e z6 ⟨rfl,g6⟩;rw[g6];clear g6 z6))
  exact rE.o _ _ rfl HN.o D5.o
 have aGs:¬(200:Int)<(hi:Int):=by omega
 have HF:Hid (F24 xs i):=⟨by rw[<- HX.o];exact HN1.o,HKB.o.symm,by rw[<- HX.o];exact HMB.o.symm,by rw[<- HX.o];exact HTX.o.symm,by rw[<- HX.o];exact hL,by rw[<- HX.o];exact hC,by rw[<- HHI.o];omega⟩;clear rE;go_wp2_with (first|(go_at_call 23;refine (HSO.o _).mono ?_;rintro e z1 ⟨rfl,g1⟩;rw[g1];clear g1 z1)|(go_at_call 25;refine (Wt.o _).mono ?_;rintro e z2 ⟨rfl,d2⟩;have D2:Hid (Bw y z2):=d2;clear d2;obtain⟨qX,tC,tF,rW,qO,tH,tJ⟩:=(HC.o.keep D2.o).cells HX.o)|(go_at_call 24;refine (SY.o _ D2.o).mono ?_;rintro e z3 ⟨rfl,g3⟩;rw[g3];clear g3 z3)|(go_at_call 26;refine (HMO.o _).mono ?_;rintro e z4 ⟨rfl,d4⟩;have D4:Hid (Bw y z4):=D2.o.trans (d4.mono D2.o.size);clear d4;obtain⟨qX,tC,tF,rW,qO,tH,tJ⟩:=(HC.o.keep D4.o).cells HX.o)|(go_at_call 27;refine (Tc.o _ D4.o).mono ?_;rintro e z5 ⟨rfl,d5⟩;have D5:Hid (Bw y z5):=D4.o.trans (d5.mono D4.o.size);clear d5;obtain⟨qX,tC,tF,rW,qO,tH,tJ⟩:=(HC.o.keep D5.o).cells HX.o)|(go_at_call 28;refine (Oq.o _ _).mono ?_;rintro e z6 ⟨rfl,g6⟩;rw[g6];clear g6 z6))
 exact oC.o _ _ _ _ _ _ _ _ _ _ _ _ _ _ _ _ _ _ _ _ _ _ _ _ _ _ _ _ _ _ _ _ _ _ _ _ _ _ _ _ D5.o HF.o
structure F26 (xs:List Pl.Nd) (i:Nat):Prop where
 els:¬((Pl.nd xs i).k=21/\(Pl.nd xs i).kids.length=3/\(Pl.pU xs i).getD ((Pl.nd xs i).kids.getD 1 0).toNat false=true)
structure F28 (xs:List Pl.Nd) (i:Nat):Prop where
 void:¬((Pl.nd xs i).k=4/\(Pl.nd xs i).kids.length=2/\Pl.wN xs (i-1))
set_option maxRecDepth 1000000 in
theorem aC7 {lo:Nat}{w w0 y:World}{xs:List Pl.Nd}{len cap i:Nat}{l:List Nat}{gb cb gt ct go co ga m ca gn:Nat}{va:Option Addr}{vl vc b off a hi gk:Nat}(hp:TP xs len i l vl a) (hc:TC lo w w0 y xs len cap i l gb cb gt ct go co ga m ca gn va vl vc b off)  (c0 c12 c13 c14 c15 c16 c17 c18 c19 c20 c21 jY c23 c24 jZ kC kD c28 kF kG c31 c32 jU c34 kH mM c37 mO mP c40 mF kV mG mH mI c46 lQ kQ c49 lS c51 lT c53 lU lV lW lX lY c59 lZ lF lG lH c64 lI lJ lK lL lM c70 mQ c72 mR mU c75 c76 mV mW mX c80 mY mZ qI qJ c85 qK c87 qL qM qN c91 pW c93 pX pY qA qB qC qD iV iW iX iY iZ c105 jA c107 jB c109 jC jD jE jF jG jH c116 c117 jI c119 jJ jK jL jM c124 jN jO c127 jP jQ c130 c131 iI iJ iK iL iM iN c138 c139 iO c141 iP c143 iQ c145 c146 iR c148 fM fO fP c152 fQ c154 fT c156 c157 fU c159 c160 fV c162 fZ c164 gB gD c167 c168 gF gG c171 gH c173 gI c175 gJ gK gL gM gN gP c182 c183 gQ gT gU gV gW gX gY gZ iA c193 c194 iB c196 iC c198 iD iE c201 eY c203 eZ fA c206 fB c208 fC c210 fD c212 c213 fE fF fG fH c218 fI dR dS c222 dU dV dW c226 c227 c228 c229 dX dY c232 c233 c234 dZ c236 eB eD eF eG eH eO eP eQ eT eU eX dN dO dP dQ dG dH dI dJ bZ cB cK cO cZ dA dB dC bP bQ bR bS bT bU bV bW bX bY bG bH bI bJ bK bL bM:Value) (K:Act->World->Prop) (Q:Exit->Act->World->Prop)
  (hR:∀(tmps:Array Value) (y':World),tmps.getD 2 undef=.bool false->¬Pl.wH xs xs.length i->Bw y y'->Q .ret { tmps:=tmps,defers:=[] } y')
  (hK:∀(Za Zb Zc Zd Ze Zf Zg Zh Zi Zj Zk Zl Zm Zn Zo Zp Zq Zr:Value)  (y':World),Bw y y'->F26 xs i->K { tmps:=#[c0,.pointer (some ⟨w.heap.size,0,none⟩),.bool false,.slice (some ⟨gb,0,none⟩) i cb,.slice (some ⟨gt,0,none⟩) i ct,.slice (some ⟨go,0,none⟩) i co,.slice (some ⟨ga,0,none⟩) m ca,.int .i64 (i:Int),.pointer (some ⟨gn,0,none⟩),.int .i64 (a:Int),.int .i64 (hi:Int),.slice (some ⟨gk,0,none⟩) vl vl,c12,c13,c14,c15,c16,c17,c18,c19,c20,c21,jY,c23,c24,jZ,kC,kD,c28,kF,kG,c31,c32,jU,c34,kH,mM,c37,mO,mP,c40,mF,kV,mG,mH,mI,c46,lQ,kQ,c49,lS,c51,lT,c53,lU,lV,lW,lX,lY,c59,lZ,lF,lG,lH,c64,lI,lJ,lK,lL,lM,c70,mQ,c72,mR,mU,c75,c76,mV,mW,mX,c80,mY,mZ,qI,qJ,c85,qK,c87,qL,qM,qN,c91,pW,c93,pX,pY,qA,qB,qC,qD,iV,iW,iX,iY,iZ,c105,jA,c107,jB,c109,jC,jD,jE,jF,jG,jH,c116,c117,jI,c119,jJ,jK,jL,jM,c124,jN,jO,c127,jP,jQ,c130,Za,Zb,Zc,Zd,Ze,Zf,Zg,Zh,Zi,Zj,Zk,Zl,Zm,Zn,Zo,Zp,Zq,Zr,fM,fO,fP,c152,fQ,c154,fT,c156,c157,fU,c159,c160,fV,c162,fZ,c164,gB,gD,c167,c168,gF,gG,c171,gH,c173,gI,c175,gJ,gK,gL,gM,gN,gP,c182,c183,gQ,gT,gU,gV,gW,gX,gY,gZ,iA,c193,c194,iB,c196,iC,c198,iD,iE,c201,eY,c203,eZ,fA,c206,fB,c208,fC,c210,fD,c212,c213,fE,fF,fG,fH,c218,fI,dR,dS,c222,dU,dV,dW,c226,c227,c228,c229,dX,dY,c232,c233,c234,dZ,c236,eB,eD,eF,eG,eH,eO,eP,eQ,eT,eU,eX,dN,dO,dP,dQ,dG,dH,dI,dJ,bZ,cB,cK,cO,cZ,dA,dB,dC,bP,bQ,bR,bS,bT,bU,bV,bW,bX,bY,bG,bH,bI,bJ,bK,bL,bM],defers:=[] } y') :
  (zR 26).wp Tryz.prog (Exit.then K Q) { tmps:=#[c0,.pointer (some ⟨w.heap.size,0,none⟩),.bool false,.slice (some ⟨gb,0,none⟩) i cb,.slice (some ⟨gt,0,none⟩) i ct,.slice (some ⟨go,0,none⟩) i co,.slice (some ⟨ga,0,none⟩) m ca,.int .i64 (i:Int),.pointer (some ⟨gn,0,none⟩),.int .i64 (a:Int),.int .i64 (hi:Int),.slice (some ⟨gk,0,none⟩) vl vl,c12,c13,c14,c15,c16,c17,c18,c19,c20,c21,jY,c23,c24,jZ,kC,kD,c28,kF,kG,c31,c32,jU,c34,kH,mM,c37,mO,mP,c40,mF,kV,mG,mH,mI,c46,lQ,kQ,c49,lS,c51,lT,c53,lU,lV,lW,lX,lY,c59,lZ,lF,lG,lH,c64,lI,lJ,lK,lL,lM,c70,mQ,c72,mR,mU,c75,c76,mV,mW,mX,c80,mY,mZ,qI,qJ,c85,qK,c87,qL,qM,qN,c91,pW,c93,pX,pY,qA,qB,qC,qD,iV,iW,iX,iY,iZ,c105,jA,c107,jB,c109,jC,jD,jE,jF,jG,jH,c116,c117,jI,c119,jJ,jK,jL,jM,c124,jN,jO,c127,jP,jQ,c130,c131,iI,iJ,iK,iL,iM,iN,c138,c139,iO,c141,iP,c143,iQ,c145,c146,iR,c148,fM,fO,fP,c152,fQ,c154,fT,c156,c157,fU,c159,c160,fV,c162,fZ,c164,gB,gD,c167,c168,gF,gG,c171,gH,c173,gI,c175,gJ,gK,gL,gM,gN,gP,c182,c183,gQ,gT,gU,gV,gW,gX,gY,gZ,iA,c193,c194,iB,c196,iC,c198,iD,iE,c201,eY,c203,eZ,fA,c206,fB,c208,fC,c210,fD,c212,c213,fE,fF,fG,fH,c218,fI,dR,dS,c222,dU,dV,dW,c226,c227,c228,c229,dX,dY,c232,c233,c234,dZ,c236,eB,eD,eF,eG,eH,eO,eP,eQ,eT,eU,eX,dN,dO,dP,dQ,dG,dH,dI,dJ,bZ,cB,cK,cO,cZ,dA,dB,dC,bP,bQ,bR,bS,bT,bU,bV,bW,bX,bY,bG,bH,bI,bJ,bK,bL,bM],defers:=[] } y:=by
 have rE:Hid (∀(tmps:Array Value) (y':World),tmps.getD 2 undef=.bool false->¬Pl.wH xs xs.length i->Bw y y'->Q .ret { tmps:=tmps,defers:=[] } y'):=hR;have oC:Hid _:=hK;have HP:Hid (TP xs len i l vl a):=hp;have HC:Hid (TC lo w w0 y xs len cap i l gb cb gt ct go co ga m ca gn va vl vc b off):=hc;clear hR hK
 conv=>arg 2;whnf
 obtain⟨x,hx⟩:∃x,x=Pl.nd xs i:=⟨_,rfl⟩;have HX:Hid (x=Pl.nd xs i):=hx;obtain⟨qX,tC,tF,rW,qO,tH,tJ⟩:=hc.cells hx;have xJ:Hid (x.kids.length=vl):=by show x.kids.length=vl;rw[hx];exact hp.vk
 have hvl:vl<=1048576:=by rw[<- hp.vk];exact hp.kl i hp.hi
 have TA:(vl:Int)<=9223372036854775807:=by omega
 clear hp hc hx hvl;have Zt:Hid (¬((Pl.nd xs i).k=21/\(Pl.nd xs i).kids.length=3/\(Pl.pU xs i).getD ((Pl.nd xs i).kids.getD 1 0).toNat false=true)->F26 xs i):=fun q=>⟨q⟩;by_cases k21:x.k=21
 rotate_left
 ·have HF:Hid (F26 xs i):=Zt.o fun q=>k21 (by rw[HX.o];exact q.1);have OE:(x.k == 21)=false:=by simpa using k21
  clear k21 rE;go_wp2_with fail
  exact oC.o _ _ _ _ _ _ _ _ _ _ _ _ _ _ _ _ _ _ _ (Below.refl _ _) HF.o
 have OE:(x.k == 21)=true:=by simpa using k21
 have K21:Hid (x.k=21):=k21;clear k21;by_cases j3:vl=3
 rotate_left
 ·have HF:Hid (F26 xs i):=Zt.o fun q=>j3 (by rw[<- xJ.o,HX.o];exact q.2.1);have j3b:((vl:Int) == 3)=false:=by simp;omega
  clear j3 rE;go_wp2_with fail
  exact oC.o _ _ _ _ _ _ _ _ _ _ _ _ _ _ _ _ _ _ _ (Below.refl _ _) HF.o
 have j3b:((vl:Int) == 3)=true:=by simp;omega
 have j1:(1:Int)<(vl:Int):=by omega
 have J3:Hid (vl=3):=j3;obtain⟨c,hc,hci⟩:=HP.o.kid (q:=1) (by omega);rw[<- HX.o]at hc;have hrow:=HC.o.row;rw[<- HX.o]at hrow;obtain⟨b2,o2,hva,hb2,hcz⟩:=mK hrow (i:=1) (by omega);have HVA:Hid (va=some ⟨b2,o2,none⟩):=hva;rw[hva]at qO;clear j3 hrow hva;rw[hc]at hcz;have Zu:(c:Int)<(i:Int):=by omega
 have cop:=yH HC.o.tb.oo hci;obtain⟨ob,YM⟩:∃ob,ob=(Pl.pU xs i).getD c false:=⟨_,rfl⟩;rw[<- YM]at cop;have q3:((Pl.nd xs i).kids.getD 1 0).toNat=c:=by rw[<- HX.o,hc,Int.toNat_natCast]
 have HOB:Hid ((Pl.pU xs i).getD ((Pl.nd xs i).kids.getD 1 0).toNat false=ob):=by show (Pl.pU xs i).getD ((Pl.nd xs i).kids.getD 1 0).toNat false=ob;rw[q3,YM]
 clear YM hc q3;cases ob
 ·have HF:Hid (F26 xs i):=Zt.o fun q=>by rw[HOB.o]at q;cases q.2.2
  clear rE;go_wp2_with fail
  exact oC.o _ _ _ _ _ _ _ _ _ _ _ _ _ _ _ _ _ _ _ (Below.refl _ _) HF.o
 ·have HN:Hid (¬Pl.wH xs xs.length i):=fun S=>S.els ⟨by rw[<- HX.o];exact K21.o,by rw[<- HX.o,xJ.o];exact J3.o,HOB.o⟩;clear oC;go_wp2_with fail
  exact rE.o _ _ rfl HN.o (Below.refl _ _)
end W
end Go.Proofs.YtjcdiegfnoaedaaGreatDoor
