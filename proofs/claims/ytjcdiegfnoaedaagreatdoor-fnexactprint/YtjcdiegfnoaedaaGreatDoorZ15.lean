import Derived.Test.YtjcdiegfnoaedaaGreatDoorZ13
import Derived.Test.YtjcdiegfnoaedaaGreatDoorZ14
set_option linter.unusedVariables false
set_option linter.unusedSimpArgs false
set_option maxHeartbeats 16000000
namespace Go.Proofs.YtjcdiegfnoaedaaGreatDoor
namespace W
open Go.RowKit
def Ma (s:ByteArray) (i:Nat) (e:Ending):Prop:=match Pl.aM s i with
 | .ok (k,S,N,n)=>e=.returned (.agg #[.int .i64 k,.string S,.int .i64 N,.int .i64 0,.int .i64 0,.int .i64 n,.int .i64 0,.int .i64 0])
 | .error f=>e=.returned (.agg #[.int .i64 0,.string ⟨#[]⟩,.int .i64 0,.int .i64 0,.int .i64 0,.int .i64 0,.int .i64 f,.int .i64 i])
theorem CF {s:ByteArray}{i:Nat}{f:Int}(h:Pl.aM s i=.error f):Ma s i (.returned (.agg #[.int .i64 0,.string ⟨#[]⟩,.int .i64 0,.int .i64 0,.int .i64 0,.int .i64 0,.int .i64 f,.int .i64 i])):=by unfold Ma;rw[h]
theorem vT {s S:ByteArray}{i n:Nat}{k N n':Int}(h:Pl.aM s i=.ok (k,S,N,n)) (hn:n'=n):Ma s i (.returned (.agg #[.int .i64 k,.string S,.int .i64 N,.int .i64 0,.int .i64 0,.int .i64 n',.int .i64 0,.int .i64 0])):=by unfold Ma;rw[h,hn]
theorem Mc {s:ByteArray}{e:Ending}{f:Int}(h:GU s e) (hq:Pl.iU s=.error f):e=.returned (.tuple #[.int .i64 0,.string ⟨#[]⟩,.int .i64 f]):=by unfold GU at h;rw[hq]at h;exact h
theorem Me {s S:ByteArray}{e:Ending}{N:Int}(h:GU s e) (hq:Pl.iU s=.ok (S,N)):e=.returned (.tuple #[.int .i64 N,.string S,.int .i64 0]):=by unfold GU at h;rw[hq]at h;exact h
set_option maxRecDepth 100000 in
theorem ME (s:ByteArray) (hs:s.size<=1048576) (i:Nat) (hi:i<s.size) (hw:Pl.kT (Pl.aD s i)=true) (w:World):Calls Tryz.prog 118 #[.string s,.int .i64 i] w fun e w'=>Ma s i e/\Bw w w':=by
 have hii:(i:Int)<s.size:=by omega
 have hg:=Pl.aJ s i hi;obtain⟨c,hc⟩:∃c,c=Pl.aD s i:=⟨_,rfl⟩;rw[<- hc]at hg hw;have HC:Hid (c=Pl.aD s i):=hc;clear hc;go_enter Tryz.func118,Tryz.ntmps118;go_wp2_with (go_at_call 85;refine (kJ _ _).mono ?_;rintro e u1 ⟨rfl,hu1⟩;rw[hu1];clear hu1;rw[hw])
 go_loop [7] (fun x=>∃k:Nat,1<=k/\i+k<=s.size/\x=.int .i64 ((i+k:Nat):Int)/\∀j,j<k->Pl.kT (Pl.aD s (i+j))=true) (fun x=>s.size-(intOf x).toNat)
 case atStart=>exact⟨1,by omega,by omega,by congr 1,fun j hj=>by rw[show j=0 by omega,Nat.add_zero,<- HC.o];exact hw⟩
 case round=>
  obtain⟨k,hk1,hk2,rfl,hall⟩:=hrel;have HA:Hid (∀j,j<k->Pl.kT (Pl.aD s (i+j))=true):=hall;clear hall;obtain⟨m,hm⟩:∃m,m=i+k:=⟨_,rfl⟩;rw[<- hm];have HM:Hid (m=i+k):=hm;have hms:m<=s.size:=by omega
  have him:i<m:=by omega
  have aGU:(i:Int)<=m:=by omega
  have aGV:(m:Int)<=s.size:=by omega
  clear hm hk2;by_cases hgo:m<s.size/\Pl.kT (Pl.aD s m)=true
  ·obtain⟨hm1,hm2⟩:=hgo;have aGW:(m:Int)<s.size:=(by omega);have hgm:=Pl.aJ s m hm1;obtain⟨b,hb⟩:∃b,b=Pl.aD s m:=⟨_,rfl⟩;rw[<- hb]at hgm hm2;have qE:Hid (b=Pl.aD s m):=hb;clear hb;go_wp2_with (go_at_call 85;refine (kJ _ _).mono ?_;rintro e u1 ⟨rfl,hu1⟩;rw[hu1];clear hu1;rw[hm2])
   go_round
   case rel=>exact⟨k+1,by omega,by have:=HM.o;omega,by congr 1;have:=HM.o;omega,fun j hj=>by
    by_cases e:j=k
    ·rw[e,<- HM.o,<- qE.o];exact hm2
    ·exact HA.o j (by omega)⟩
   case measure=>simp[intOf];omega
  ·have hrun:Pl.run Pl.kT (s.extract i s.size)=k:=Pl.run_eq ⟨by rw[Pl.bC];have:=HM.o;omega,fun j hj=>by rw[Pl.jS s i j (by have:=HM.o;omega)];exact HA.o j hj,by
    rcases Nat.lt_or_ge m s.size with e|e
    ·right;rw[Pl.jS s i k (by have:=HM.o;omega),<- HM.o];cases hq:Pl.kT (Pl.aD s m)
     ·rfl
     ·exact absurd ⟨e,hq⟩ hgo
    ·left;rw[Pl.bC];have:=HM.o;omega⟩
   have hT:Pl.aM s i=(match Pl.mE (s.extract i m) with|.error f=>.error f|.ok (k,S,N)=>.ok (k,S,N,m)):=by
    unfold Pl.aM;rw[<- HC.o,if_pos hw,hrun,<- HM.o];rfl
   have hD:(s.extract i m).size=m-i:=(by rw[Pl.ext_size];omega);have hd0:Pl.aD (s.extract i m) 0=c:=(by rw[Pl.nP s i m 0 (by omega) hms,Nat.add_zero,HC.o]);obtain⟨D,Dk⟩:∃D,D=s.extract i m:=⟨_,rfl⟩;rw[<- Dk]at hT hD hd0;have GM:Hid (s.extract i m=D):=Dk.symm;have hex:s.extract i m=D:=Dk.symm;clear Dk hrun HA;have hW:Pl.mE D=if Pl.dg c=true then (match Pl.iU D with|.error f=>.error f|.ok (S,N)=>.ok (3,S,N)) else if 40<D.size then .error 8 else if Pl.isK D=true then .ok (2,D,0) else .ok (1,D,0):=by unfold Pl.mE;rw[hd0];rfl
   rw[hW]at hT;clear hW;have hds:D.size<=1048576:=(by omega);have hdp:0<D.size:=(by omega);have CG:Hid (∀u:World,Calls Tryz.prog 125 #[.string D] u fun e w'=>GU D e/\w'=u):=fun u=>Lu D hds hdp u;have HKE:Hid (∀(u:World) (g:Nat),g=u.heap.size->Calls Tryz.prog 54 #[.slice (some ⟨g,0,none⟩) 23 23,.string D] (u.alloc (.cells Pl.xX 9)) fun e w'=>e=.returned (.bool (Pl.isK D))/\w'=u.alloc (.cells Pl.xX 9)):=fun u g hg=>by rw[hg];exact JO D u
   have HDZ:Hid (D.size=m-i):=hD;clear hD hd0;have hstop:(m=s.size)\/(m<s.size/\Pl.kT (Pl.aD s m)=false):=by
    rcases Nat.lt_or_ge m s.size with e|e
    ·right;refine⟨e,?_⟩;cases hq:Pl.kT (Pl.aD s m)
     ·rfl
     ·exact absurd ⟨e,hq⟩ hgo
    ·left;omega
   clear hgo;cases hdg:Pl.dg c
   ·rw[hdg,if_neg (by decide)]at hT;by_cases Uo:40<D.size
    ·rw[if_pos Uo]at hT;have HT:Hid (Pl.aM s i=.error 8):=hT;have aFB:(40:Int)<D.size:=(by omega);clear hT Uo;rcases hstop with hm0|⟨hm0,GN⟩
     ·have MF:¬(m:Int)<s.size:=(by omega);clear hm0;go_wp2_with (first|(go_at_call 83;refine (aV _ _).mono ?_;rintro e u1 ⟨rfl,hu1⟩;rw[hu1];clear hu1;rw[hdg]))
      exact bodyPost_ret (v:=.agg #[.int .i64 0,.string ⟨#[]⟩,.int .i64 0,.int .i64 0,.int .i64 0,.int .i64 0,.int .i64 8,.int .i64 i]) (by simp[results,Tryz.results118,go_sem]) rfl ⟨CF HT.o,(aB _ _).trans ((aB _ _).mono (by simp))⟩
     ·have MF:(m:Int)<s.size:=(by omega);have hgm:=Pl.aJ s m hm0;obtain⟨b,hb⟩:∃b,b=Pl.aD s m:=⟨_,rfl⟩;rw[<- hb]at hgm GN;clear hb;go_wp2_with (first|(go_at_call 85;refine (kJ _ _).mono ?_;rintro e u1 ⟨rfl,hu1⟩;rw[hu1];clear hu1;rw[GN])|(go_at_call 83;refine (aV _ _).mono ?_;rintro e u1 ⟨rfl,hu1⟩;rw[hu1];clear hu1;rw[hdg]))
      exact bodyPost_ret (v:=.agg #[.int .i64 0,.string ⟨#[]⟩,.int .i64 0,.int .i64 0,.int .i64 0,.int .i64 0,.int .i64 8,.int .i64 i]) (by simp[results,Tryz.results118,go_sem]) rfl ⟨CF HT.o,(aB _ _).trans ((aB _ _).mono (by simp))⟩
    ·rw[if_neg Uo]at hT;have aFB:¬(40:Int)<D.size:=(by omega);clear Uo;cases hk:Pl.isK D
     ·rw[hk,if_neg (by decide)]at hT;have HT:Hid (Pl.aM s i=.ok (1,D,0,m)):=hT;clear hT;rcases hstop with hm0|⟨hm0,GN⟩
      ·have MF:¬(m:Int)<s.size:=(by omega);clear hm0;go_wp2_with (first|(go_at_call 83;refine (aV _ _).mono ?_;rintro e u1 ⟨rfl,hu1⟩;rw[hu1];clear hu1;rw[hdg])|(go_at_call 84;refine (qZ _).mono ?_;rintro e u1 ⟨rfl,hu1⟩;rw[hu1];clear hu1)|(go_at_call 54;refine (HKE.o _ _ (by simp)).mono ?_;rintro e u1 ⟨rfl,hu1⟩;rw[hu1];clear hu1;rw[hk]))
       exact bodyPost_ret (v:=.agg #[.int .i64 1,.string D,.int .i64 0,.int .i64 0,.int .i64 0,.int .i64 m,.int .i64 0,.int .i64 0]) (by simp[results,Tryz.results118,go_sem]) rfl ⟨vT HT.o rfl,((aB _ _).trans ((aB _ _).mono (by simp))).trans ((aB _ _).mono (by simp;omega))⟩
      ·have MF:(m:Int)<s.size:=(by omega);have hgm:=Pl.aJ s m hm0;obtain⟨b,hb⟩:∃b,b=Pl.aD s m:=⟨_,rfl⟩;rw[<- hb]at hgm GN;clear hb;go_wp2_with (first|(go_at_call 85;refine (kJ _ _).mono ?_;rintro e u1 ⟨rfl,hu1⟩;rw[hu1];clear hu1;rw[GN])|(go_at_call 83;refine (aV _ _).mono ?_;rintro e u1 ⟨rfl,hu1⟩;rw[hu1];clear hu1;rw[hdg])|(go_at_call 84;refine (qZ _).mono ?_;rintro e u1 ⟨rfl,hu1⟩;rw[hu1];clear hu1)|(go_at_call 54;refine (HKE.o _ _ (by simp)).mono ?_;rintro e u1 ⟨rfl,hu1⟩;rw[hu1];clear hu1;rw[hk]))
       exact bodyPost_ret (v:=.agg #[.int .i64 1,.string D,.int .i64 0,.int .i64 0,.int .i64 0,.int .i64 m,.int .i64 0,.int .i64 0]) (by simp[results,Tryz.results118,go_sem]) rfl ⟨vT HT.o rfl,((aB _ _).trans ((aB _ _).mono (by simp))).trans ((aB _ _).mono (by simp;omega))⟩
     ·rw[hk,if_pos rfl]at hT;have HT:Hid (Pl.aM s i=.ok (2,D,0,m)):=hT;clear hT;rcases hstop with hm0|⟨hm0,GN⟩
      ·have MF:¬(m:Int)<s.size:=(by omega);clear hm0;go_wp2_with (first|(go_at_call 83;refine (aV _ _).mono ?_;rintro e u1 ⟨rfl,hu1⟩;rw[hu1];clear hu1;rw[hdg])|(go_at_call 84;refine (qZ _).mono ?_;rintro e u1 ⟨rfl,hu1⟩;rw[hu1];clear hu1)|(go_at_call 54;refine (HKE.o _ _ (by simp)).mono ?_;rintro e u1 ⟨rfl,hu1⟩;rw[hu1];clear hu1;rw[hk]))
       exact bodyPost_ret (v:=.agg #[.int .i64 2,.string D,.int .i64 0,.int .i64 0,.int .i64 0,.int .i64 m,.int .i64 0,.int .i64 0]) (by simp[results,Tryz.results118,go_sem]) rfl ⟨vT HT.o rfl,((aB _ _).trans ((aB _ _).mono (by simp))).trans ((aB _ _).mono (by simp;omega))⟩
      ·have MF:(m:Int)<s.size:=(by omega);have hgm:=Pl.aJ s m hm0;obtain⟨b,hb⟩:∃b,b=Pl.aD s m:=⟨_,rfl⟩;rw[<- hb]at hgm GN;clear hb;go_wp2_with (first|(go_at_call 85;refine (kJ _ _).mono ?_;rintro e u1 ⟨rfl,hu1⟩;rw[hu1];clear hu1;rw[GN])|(go_at_call 83;refine (aV _ _).mono ?_;rintro e u1 ⟨rfl,hu1⟩;rw[hu1];clear hu1;rw[hdg])|(go_at_call 84;refine (qZ _).mono ?_;rintro e u1 ⟨rfl,hu1⟩;rw[hu1];clear hu1)|(go_at_call 54;refine (HKE.o _ _ (by simp)).mono ?_;rintro e u1 ⟨rfl,hu1⟩;rw[hu1];clear hu1;rw[hk]))
       exact bodyPost_ret (v:=.agg #[.int .i64 2,.string D,.int .i64 0,.int .i64 0,.int .i64 0,.int .i64 m,.int .i64 0,.int .i64 0]) (by simp[results,Tryz.results118,go_sem]) rfl ⟨vT HT.o rfl,((aB _ _).trans ((aB _ _).mono (by simp))).trans ((aB _ _).mono (by simp;omega))⟩
   ·rw[if_pos hdg]at hT;cases hq:Pl.iU D with
    | error f=>
     rw[hq]at hT;have HT:Hid (Pl.aM s i=.error f):=hT;have hf:f≠0:=(by rcases Pl.WI hq with e|e <;> omega);have e1:(f != 0)=true:=(by simp[hf]);have e2:(f == 0)=false:=(by simp[hf]);clear hT hf;rcases hstop with hm0|⟨hm0,GN⟩
     ·have MF:¬(m:Int)<s.size:=(by omega);clear hm0;go_wp2_with (first|(go_at_call 83;refine (aV _ _).mono ?_;rintro e u1 ⟨rfl,hu1⟩;rw[hu1];clear hu1;rw[hdg])|(go_at_call 125;refine (CG.o _).mono ?_;rintro e u1 ⟨hi1,hu1⟩;rw[hu1];clear hu1;rw[Mc hi1 hq];clear hi1))
      exact bodyPost_ret (v:=.agg #[.int .i64 0,.string ⟨#[]⟩,.int .i64 0,.int .i64 0,.int .i64 0,.int .i64 0,.int .i64 f,.int .i64 i]) (by simp[results,Tryz.results118,go_sem]) rfl ⟨CF HT.o,(aB _ _).trans ((aB _ _).mono (by simp))⟩
     ·have MF:(m:Int)<s.size:=(by omega);have hgm:=Pl.aJ s m hm0;obtain⟨b,hb⟩:∃b,b=Pl.aD s m:=⟨_,rfl⟩;rw[<- hb]at hgm GN;clear hb;go_wp2_with (first|(go_at_call 85;refine (kJ _ _).mono ?_;rintro e u1 ⟨rfl,hu1⟩;rw[hu1];clear hu1;rw[GN])|(go_at_call 83;refine (aV _ _).mono ?_;rintro e u1 ⟨rfl,hu1⟩;rw[hu1];clear hu1;rw[hdg])|(go_at_call 125;refine (CG.o _).mono ?_;rintro e u1 ⟨hi1,hu1⟩;rw[hu1];clear hu1;rw[Mc hi1 hq];clear hi1))
      exact bodyPost_ret (v:=.agg #[.int .i64 0,.string ⟨#[]⟩,.int .i64 0,.int .i64 0,.int .i64 0,.int .i64 0,.int .i64 f,.int .i64 i]) (by simp[results,Tryz.results118,go_sem]) rfl ⟨CF HT.o,(aB _ _).trans ((aB _ _).mono (by simp))⟩
    | ok r=>
     obtain⟨S,N⟩:=r;rw[hq]at hT;have HT:Hid (Pl.aM s i=.ok (3,S,N,m)):=hT;clear hT;rcases hstop with hm0|⟨hm0,GN⟩
     ·have MF:¬(m:Int)<s.size:=(by omega);clear hm0;go_wp2_with (first|(go_at_call 83;refine (aV _ _).mono ?_;rintro e u1 ⟨rfl,hu1⟩;rw[hu1];clear hu1;rw[hdg])|(go_at_call 125;refine (CG.o _).mono ?_;rintro e u1 ⟨hi1,hu1⟩;rw[hu1];clear hu1;rw[Me hi1 hq];clear hi1))
      exact bodyPost_ret (v:=.agg #[.int .i64 3,.string S,.int .i64 N,.int .i64 0,.int .i64 0,.int .i64 m,.int .i64 0,.int .i64 0]) (by simp[results,Tryz.results118,go_sem]) rfl ⟨vT HT.o rfl,(aB _ _).trans ((aB _ _).mono (by simp))⟩
     ·have MF:(m:Int)<s.size:=(by omega);have hgm:=Pl.aJ s m hm0;obtain⟨b,hb⟩:∃b,b=Pl.aD s m:=⟨_,rfl⟩;rw[<- hb]at hgm GN;clear hb;go_wp2_with (first|(go_at_call 85;refine (kJ _ _).mono ?_;rintro e u1 ⟨rfl,hu1⟩;rw[hu1];clear hu1;rw[GN])|(go_at_call 83;refine (aV _ _).mono ?_;rintro e u1 ⟨rfl,hu1⟩;rw[hu1];clear hu1;rw[hdg])|(go_at_call 125;refine (CG.o _).mono ?_;rintro e u1 ⟨hi1,hu1⟩;rw[hu1];clear hu1;rw[Me hi1 hq];clear hi1))
      exact bodyPost_ret (v:=.agg #[.int .i64 3,.string S,.int .i64 N,.int .i64 0,.int .i64 0,.int .i64 m,.int .i64 0,.int .i64 0]) (by simp[results,Tryz.results118,go_sem]) rfl ⟨vT HT.o rfl,(aB _ _).trans ((aB _ _).mono (by simp))⟩
set_option maxRecDepth 8000 in
theorem JQ (s:ByteArray) (w:World):Calls Tryz.prog 198 #[.string s] w fun e w'=>e=.returned (.bool (Pl.BR s))/\w'=w:=by
 have HE:Hid (Pl.BR s=(Pl.wJ.any fun r=>s.toList == r)):=rfl;go_enter Tryz.func198,Tryz.ntmps198;go_wp2;all_goals (go_ret;refine⟨aC ?_,rfl⟩;rw[HE.o];simp only[Pl.wJ,List.any_cons,List.any_nil];simp_all)
theorem MG {t:ByteArray}{k:Nat}(hk:0<k) (hk3:k<=3) (hks:k<=t.size) (h:Pl.BR (t.extract 0 k)=true) (hn:∀j,k<j->j<=3->j<=t.size->Pl.BR (t.extract 0 j)=false):Pl.uV t=k:=by
 have h2:=hn 2;have h3:=hn 3;unfold Pl.uV;have:k=1\/k=2\/k=3:=by omega
 rcases this with rfl|rfl|rfl
 ·rw[if_neg (fun q=>by rw[h3 (by omega) (by omega) q.1]at q;simp at q),if_neg (fun q=>by rw[h2 (by omega) (by omega) q.1]at q;simp at q),if_pos ⟨hks,h⟩]
 ·rw[if_neg (fun q=>by rw[h3 (by omega) (by omega) q.1]at q;simp at q),if_pos ⟨hks,h⟩]
 ·rw[if_pos ⟨hks,h⟩]
theorem aBR {t:ByteArray}(hn:∀j,0<j->j<=3->j<=t.size->Pl.BR (t.extract 0 j)=false):Pl.uV t=0:=by
 unfold Pl.uV;rw[if_neg (fun q=>by rw[hn 3 (by omega) (by omega) q.1]at q;simp at q),if_neg (fun q=>by rw[hn 2 (by omega) (by omega) q.1]at q;simp at q),if_neg (fun q=>by rw[hn 1 (by omega) (by omega) q.1]at q;simp at q)]
theorem aD7 (t:ByteArray):(⟨#[]⟩:ByteArray)=t.extract 0 0:=by
 refine Pl.VV (by rw[Pl.ext_size];simp;rfl) fun j hj=>absurd hj (Nat.not_lt_zero _)
theorem Dw (t:ByteArray) (ht:t.size<=1048576) (w:World):Calls Tryz.prog 183 #[.string t] w fun e w'=>e=.returned (.string (t.extract 0 (Pl.uV t)))/\w'=w:=by
 go_enter Tryz.func183,Tryz.ntmps183;go_wp2;go_loop [3] (fun x=>∃k:Nat,k<=min t.size 3/\x=.int .i64 k/\∀j,k<j->j<=3->j<=t.size->Pl.BR (t.extract 0 j)=false) (fun x=>(intOf x).toNat)
 case atStart=>exact⟨min t.size 3,Nat.le_refl _,by congr 1;omega,fun j h1 h2 h3=>by omega⟩
 case round=>
  obtain⟨k,hk,rfl,hall⟩:=hrel;have HA:Hid (∀j,k<j->j<=3->j<=t.size->Pl.BR (t.extract 0 j)=false):=hall;clear hall;by_cases h0:0<k
  ·have h0':(0:Int)<k:=(by omega);have hkt:(k:Int)<=t.size:=(by omega);cases hc:Pl.BR (t.extract 0 k)
   ·go_wp2_with (go_at_call 198;refine (JQ _ _).mono ?_;rintro e u1 ⟨rfl,rfl⟩;rw[hc])
    go_round
    case rel=>exact⟨k-1,by omega,by congr 1;omega,fun j h1 h2 h3=>by
     by_cases e:j=k
     ·rw[e];exact hc
     ·exact HA.o j (by omega) h2 h3⟩
    case measure=>simp[intOf];omega
   ·have HR:Hid (Pl.uV t=k):=MG h0 (by omega) (by omega) hc HA.o;go_wp2_with (go_at_call 198;refine (JQ _ _).mono ?_;rintro e u1 ⟨rfl,rfl⟩;rw[hc])
    go_ret;exact⟨by rw[HR.o];rfl,rfl⟩
  ·have hz:k=0:=(by omega);subst hz;have HR:Hid (Pl.uV t=0):=aBR HA.o;go_wp2;go_ret;exact⟨by rw[HR.o,<- aD7];rfl,rfl⟩
end W
namespace Pl
theorem aBS {x:ByteArray}(h:BR x=true):∃k,k<45/\wJ.getD k []=x.toList:=by
 unfold BR at h;rw[List.any_eq_true]at h;obtain⟨r,hr,he⟩:=h;obtain⟨k,hk,rfl⟩:=List.mem_iff_getElem.1 hr;exact⟨k,hk,by rw[List.getD_eq_getElem?_getD,List.getElem?_eq_getElem hk];exact (eq_of_beq he).symm⟩
theorem Mf:∀k,k<45->1<=(wJ.getD k []).length/\(wJ.getD k []).length<=3:=by decide
theorem aBT:∀k,k<45->∀j,j<45->(wJ.getD k []).length<(wJ.getD j []).length->j<k:=by decide
def Mt (s:ByteArray) (i k:Nat):Prop:=i+(wJ.getD k []).length<=s.size/\(s.extract i (i+(wJ.getD k []).length)).toList=wJ.getD k []
theorem WR (x:ByteArray):x.toList.length=x.size:=by rw[ByteArray.toList_eq];simp
theorem Ay (s:ByteArray) (i n:Nat) (hi:i<=s.size) (h:i+n<=s.size):(s.extract i s.size).extract 0 n=s.extract i (i+n):=by
 rw[xQ s i s.size 0 n h (Nat.le_refl _) (Nat.zero_le _),Nat.add_zero]
theorem aA7 {s:ByteArray}{i n:Nat}(hi:i<=s.size) (hn:n<=s.size-i) (h:BR ((s.extract i s.size).extract 0 n)=true):∃k,k<45/\(wJ.getD k []).length=n/\Mt s i k:=by
 obtain⟨k,hk,e⟩:=aBS h;rw[Ay s i n hi (by omega)]at e;have hl:(wJ.getD k []).length=n:=by rw[e,WR,ext_size];omega
 exact⟨k,hk,hl,by rw[hl];omega,by rw[hl,<- e]⟩
theorem Uq {s:ByteArray}{i:Nat}(hi:i<=s.size) (h:∀k,k<45->¬Mt s i k):uV (s.extract i s.size)=0:=by
 refine Classical.byContradiction fun hc=>?_;obtain⟨k,hk,_,hm⟩:=aA7 hi (by have:=(EI (s.extract i s.size)).1;rw[bC]at this;exact this) (WK _ hc);exact h k hk hm
theorem aBU {s:ByteArray}{i k:Nat}(hi:i<=s.size) (hk:k<45) (h:Mt s i k):BR ((s.extract i s.size).extract 0 (wJ.getD k []).length)=true:=by
 rw[Ay s i _ hi h.1];unfold BR;exact Au (k:=k) hk h.2.symm
end Pl
namespace W
open Go.RowKit
theorem aBV {s:ByteArray}{i k:Nat}(hi:i<=s.size) (hk:k<45) (h:Pl.Mt s i k) (hn:∀j,j<k->¬Pl.Mt s i j):Pl.uV (s.extract i s.size)=(Pl.wJ.getD k []).length:=by
 have hl:=Pl.Mf k hk;refine MG (by omega) (by omega) (by rw[Pl.bC];have:=h.1;omega) (Pl.aBU hi hk h) fun j h1 h2 h3=>?_;rw[Pl.bC]at h3;cases hq:Pl.BR ((s.extract i s.size).extract 0 j)
 ·rfl
 ·obtain⟨k',hk',e,hm⟩:=Pl.aA7 hi h3 hq;exact absurd hm (hn k' (Pl.aBT k hk k' hk' (by omega)))
theorem sG {B:Nat}{a w:World}(h:Below B a w) (m:Nat):Below B a (w.drewN m):=⟨h.os,h.tape,h.output,h.size,h.block⟩
def GV (s:ByteArray) (i:Nat) (e:Ending):Prop:=match Pl.aM s i with
 | .ok (k,S,N,n)=>e=.returned (.agg #[.int .i64 k,.string S,.int .i64 N,.int .i64 0,.int .i64 0,.int .i64 n,.int .i64 0,.int .i64 0])
 | .error f=>e=.returned (.agg #[.int .i64 0,.string ⟨#[]⟩,.int .i64 0,.int .i64 0,.int .i64 0,.int .i64 0,.int .i64 f,.int .i64 i])
theorem xY {s:ByteArray}{i:Nat}{f:Int}(h:Pl.aM s i=.error f):GV s i (.returned (.agg #[.int .i64 0,.string ⟨#[]⟩,.int .i64 0,.int .i64 0,.int .i64 0,.int .i64 0,.int .i64 f,.int .i64 i])):=by unfold GV;rw[h]
theorem MH {s S:ByteArray}{i n:Nat}{k N n':Int}(h:Pl.aM s i=.ok (k,S,N,n)) (hn:n'=n):GV s i (.returned (.agg #[.int .i64 k,.string S,.int .i64 N,.int .i64 0,.int .i64 0,.int .i64 n',.int .i64 0,.int .i64 0])):=by unfold GV;rw[h,hn]
set_option maxRecDepth 100000 in
theorem MJ (s:ByteArray) (hs:s.size<=1048576) (i:Nat) (hi:i<s.size) (hw:Pl.kT (Pl.aD s i)=false) (LZ:Pl.aD s i≠39) (OZ:Pl.aD s i≠34) (w:World):Calls Tryz.prog 118 #[.string s,.int .i64 i] w fun e w'=>GV s i e/\Bw w w':=by
 have hii:(i:Int)<s.size:=by omega
 have hg:=Pl.aJ s i hi;obtain⟨c,hc⟩:∃c,c=Pl.aD s i:=⟨_,rfl⟩;rw[<- hc]at hg hw LZ OZ;have HC:Hid (c=Pl.aD s i):=hc;have e39:(c == 39)=false:=by simp[LZ]
 have e34:(c == 34)=false:=by simp[OZ]
 have HT:Hid (Pl.aM s i=if Pl.uV (s.extract i s.size)=0 then .error 2 else .ok (5,s.extract i (i+Pl.uV (s.extract i s.size)),0,i+Pl.uV (s.extract i s.size))):=by
  show Pl.aM s i=_;unfold Pl.aM;rw[<- hc,hw,if_neg (by decide),if_neg LZ,if_neg OZ]
 clear hc LZ OZ;go_enter Tryz.func118,Tryz.ntmps118;go_wp2_with (first|(go_at_call 85;refine (kJ _ _).mono ?_;rintro e u1 ⟨rfl,hu1⟩;rw[hu1];clear hu1;rw[hw])|(go_at_call 128;refine (WO _).mono ?_;rintro e u1 ⟨rfl,hu1⟩;rw[hu1];clear hu1))
 obtain⟨U,hU⟩:∃U,U=(((w.alloc (.cells #[.int .i64 0,.string ⟨#[]⟩,.int .i64 0,.int .i64 0,.int .i64 0,.int .i64 0,.int .i64 0,.int .i64 0] 189)).alloc (.cells #[.int .i64 0,.string ⟨#[]⟩,.int .i64 0,.int .i64 0,.int .i64 0,.int .i64 0,.int .i64 2,.int .i64 i] 189)).alloc (.cells Pl.QJ 9)):=⟨_,rfl⟩;rw[<- hU];have HCE:Hid (∀j,j<45->U.cell? ⟨w.heap.size+1+1,j,none⟩=some (.string ⟨(Pl.wJ.getD j []).toArray⟩)):=fun j hj=>by
  have:=cell_of_row U (w.heap.size+1+1) j Pl.QJ 9 (0,0) (by rw[hU];have:=heap_alloc_new ((w.alloc (.cells #[.int .i64 0,.string ⟨#[]⟩,.int .i64 0,.int .i64 0,.int .i64 0,.int .i64 0,.int .i64 0,.int .i64 0] 189)).alloc (.cells #[.int .i64 0,.string ⟨#[]⟩,.int .i64 0,.int .i64 0,.int .i64 0,.int .i64 0,.int .i64 2,.int .i64 i] 189)) (.cells Pl.QJ 9);simpa using this);rw[this];exact Pl.WN Pl.wJ j hj
 have Q5:Hid (U.heap[w.heap.size+1]?=some (.cells #[.int .i64 0,.string ⟨#[]⟩,.int .i64 0,.int .i64 0,.int .i64 0,.int .i64 0,.int .i64 2,.int .i64 i] 189 (0,0))):=by
  rw[hU];exact (Below.heap_alloc _ _ _ (by simp)).trans (by have:=heap_alloc_new (w.alloc (.cells #[.int .i64 0,.string ⟨#[]⟩,.int .i64 0,.int .i64 0,.int .i64 0,.int .i64 0,.int .i64 0,.int .i64 0] 189)) (.cells #[.int .i64 0,.string ⟨#[]⟩,.int .i64 0,.int .i64 0,.int .i64 0,.int .i64 0,.int .i64 2,.int .i64 i] 189);simpa using this)
 have Q4:Hid (U.heap[w.heap.size]?=some (.cells #[.int .i64 0,.string ⟨#[]⟩,.int .i64 0,.int .i64 0,.int .i64 0,.int .i64 0,.int .i64 0,.int .i64 0] 189 (0,0))):=by
  rw[hU];exact (Below.heap_alloc _ _ _ (by simp;omega)).trans ((Below.heap_alloc _ _ _ (by simp)).trans (heap_alloc_new w _))
 have BW:Hid (Bw w U):=by rw[hU];exact ((aB _ _).trans ((aB _ _).mono (by simp))).trans ((aB _ _).mono (by simp;omega))
 have hUz:U.heap.size=w.heap.size+3:=by rw[hU];simp
 have HUZ:Hid (U.heap.size=w.heap.size+3):=hUz;clear hU hUz;go_loopw [18] (fun x wr=>∃k:Nat,k<=45/\x=.int .i64 k/\(∀j,j<k->¬Pl.Mt s i j)/\Bw U wr) (fun x _=>45-(intOf x).toNat)
 case atStart=>exact⟨0,by omega,rfl,fun j hj=>absurd hj (Nat.not_lt_zero _),Below.refl _ _⟩
 case round=>
  obtain⟨k,hk,rfl,hall,hb⟩:=hrel;have HA:Hid (∀j,j<k->¬Pl.Mt s i j):=hall;have HB:Hid (Bw U wr):=hb;have Q4r:Hid (wr.heap[w.heap.size]?=some (.cells #[.int .i64 0,.string ⟨#[]⟩,.int .i64 0,.int .i64 0,.int .i64 0,.int .i64 0,.int .i64 0,.int .i64 0] 189 (0,0))):=(hb.block _ (by have:=HUZ.o;omega)).trans Q4.o;have Q5r:Hid (wr.heap[w.heap.size+1]?=some (.cells #[.int .i64 0,.string ⟨#[]⟩,.int .i64 0,.int .i64 0,.int .i64 0,.int .i64 0,.int .i64 2,.int .i64 i] 189 (0,0))):=(hb.block _ (by have:=HUZ.o;omega)).trans Q5.o;have BWr:Hid (Bw w wr):=BW.o.trans (hb.mono BW.o.size);have hcr:∀j,j<45->wr.cell? ⟨w.heap.size+1+1,j,none⟩=some (.string ⟨(Pl.wJ.getD j []).toArray⟩):=fun j hj=>(hb.cell (p:=⟨w.heap.size+1+1,j,none⟩) (by show w.heap.size+1+1<_;have:=HUZ.o;omega)).trans (HCE.o j hj);clear hall hb;by_cases hlt:k<45
  ·have hlt':(k:Int)<45:=(by omega);have hc:=hcr k hlt;have hlen:=Pl.Mf k hlt;have HMt:Hid (Pl.Mt s i k↔(i+(Pl.wJ.getD k []).length<=s.size/\(s.extract i (i+(Pl.wJ.getD k []).length)).toList=Pl.wJ.getD k [])):=Iff.rfl;have Sw:Hid (Pl.Mt s i k->Pl.uV (s.extract i s.size)=(Pl.wJ.getD k []).length):=fun h=>aBV (by omega) hlt h HA.o;obtain⟨r,hr⟩:∃r,r=Pl.wJ.getD k []:=⟨_,rfl⟩;rw[<- hr]at hc hlen HMt Sw;obtain⟨R,hR⟩:∃R:ByteArray,R=⟨r.toArray⟩:=⟨_,rfl⟩;have hRs:R.size=r.length:=(by rw[hR];simp[ByteArray.size]);have HRT:Hid (R.toList=r):=(by rw[hR];exact Pl.JN r);rw[<- hR]at hc;rw[<- hRs]at hlen HMt Sw;clear hcr hr hR hRs;by_cases hfit:i+R.size<=s.size
   ·have hd:decide ((i:Int)+(R.size:Int)<=(s.size:Int))=true:=(by simp;omega);have aGS:(i:Int)+(R.size:Int)<=(s.size:Int):=(by omega);have hwr:IntKind.i64.wrap ((i:Int)+(R.size:Int))=(i:Int)+(R.size:Int):=(by rw[IntKind.wrap_i64];omega);have htn:((i:Int)+(R.size:Int)).toNat=i+R.size:=(by omega);have hle:(i:Int)<=(i:Int)+(R.size:Int):=(by omega);cases he:((s.extract i (i+R.size)).toList == R.toList)
    ·have GX:Hid (¬Pl.Mt s i k):=fun h=>by
      have:=(HMt.o.1 h).2;rw[this,HRT.o]at he;simp at he
     clear HMt Sw;go_wp2_with fail
     go_quiet (fail)
     go_wp2_with fail
     go_roundw
     case rel=>
      refine⟨k+1,by omega,by go_num,fun j hj=>?_,?_⟩
      ·by_cases e:j=k
       ·rw[e];exact GX.o
       ·exact HA.o j (by omega)
      ·repeat (first|exact HB.o|refine sG ?_ _)
     case measure=>simp[intOf];omega
    ·have HYM:Hid (Pl.Mt s i k):=HMt.o.2 ⟨hfit,by rw[eq_of_beq he,HRT.o]⟩;have HER:Hid (s.extract i (i+R.size)=R):=by
      have:=eq_of_beq he;rw[ByteArray.toList_eq,ByteArray.toList_eq]at this;show s.extract i (i+R.size)=R;cases hz:s.extract i (i+R.size) with|mk a=>cases R with|mk b=>rw[hz]at this;congr 1;exact Array.toList_inj.1 this
     have HT2:Hid (Pl.aM s i=.ok (5,R,0,i+R.size)):=by
      show Pl.aM s i=_;rw[HT.o,Sw.o HYM.o,if_neg (by omega),HER.o]
     clear HMt Sw HA;go_wp2_with fail
     go_quiet (fail)
     go_wp2_with (refine wpList_store_row rfl 189 _ _ rfl w.heap.size #[.int .i64 5,.string R,.int .i64 0,.int .i64 0,.int .i64 0,.int .i64 ((i:Int)+(R.size:Int)),.int .i64 0,.int .i64 0] ?hx ?hy 189 #[.int .i64 0,.string ⟨#[]⟩,.int .i64 0,.int .i64 0,.int .i64 0,.int .i64 0,.int .i64 0,.int .i64 0] ?hg ?hi ?ho ?h1 ?_;(case hx=>rfl);(case hy=>rfl);(case hg=>exact Q4r.o);(case hi=>kernel_rfl);(case ho=>kernel_rfl);(case h1=>kernel_rfl))
     refine bodyPost_ret (v:=.agg #[.int .i64 5,.string R,.int .i64 0,.int .i64 0,.int .i64 0,.int .i64 ((i:Int)+(R.size:Int)),.int .i64 0,.int .i64 0]) ?hr ?hdf ?nX
     case hr=>
      refine results_cell_row Tryz.results118 _ _ (w.heap.size) 189 #[.int .i64 5,.string R,.int .i64 0,.int .i64 0,.int .i64 0,.int .i64 ((i:Int)+(R.size:Int)),.int .i64 0,.int .i64 0] (0,0) _ ?hp ?hg Tryz.underlying189 ?hd ?hi
      case hp=>rfl
      case hg=>exact setRow_heap _ _ _ _ _ _ Q4r.o
      case hd=>rfl
      case hi=>kernel_rfl
     case hdf=>rfl
     case nX=>exact⟨MH HT2.o (by omega),below_setRow (by repeat (first|exact BWr.o|refine sG ?_ _)) (Nat.le_refl _) _⟩
   ·have hd:decide ((i:Int)+(R.size:Int)<=(s.size:Int))=false:=(by simp;omega);have hwr:IntKind.i64.wrap ((i:Int)+(R.size:Int))=(i:Int)+(R.size:Int):=(by rw[IntKind.wrap_i64];omega);have GX:Hid (¬Pl.Mt s i k):=fun h=>hfit (HMt.o.1 h).1;clear HMt Sw;go_wp2_with fail
    go_quiet (fail)
    go_wp2_with fail
    go_roundw
    case rel=>
     refine⟨k+1,by omega,by go_num,fun j hj=>?_,?_⟩
     ·by_cases e:j=k
      ·rw[e];exact GX.o
      ·exact HA.o j (by omega)
     ·repeat (first|exact HB.o|refine sG ?_ _)
    case measure=>simp[intOf];omega
  ·have aFC:k=45:=(by omega);subst aFC;have HT2:Hid (Pl.aM s i=.error 2):=by
    show Pl.aM s i=_;rw[HT.o,if_pos (Pl.Uq (by omega) HA.o)]
   clear hcr HA;go_wp2_with (first|(refine wpList_load_row rfl 189 _ rfl (w.heap.size+1) ?hx 189 #[.int .i64 0,.string ⟨#[]⟩,.int .i64 0,.int .i64 0,.int .i64 0,.int .i64 0,.int .i64 2,.int .i64 i] (0,0) _ ?hg Tryz.underlying189 ?hd ?hi ?_;(case hx=>rfl);(case hg=>exact Q5r.o);(case hd=>rfl);(case hi=>kernel_rfl))|(refine wpList_store_row rfl 189 _ _ rfl w.heap.size #[.int .i64 0,.string ⟨#[]⟩,.int .i64 0,.int .i64 0,.int .i64 0,.int .i64 0,.int .i64 2,.int .i64 i] ?hx ?hy 189 #[.int .i64 0,.string ⟨#[]⟩,.int .i64 0,.int .i64 0,.int .i64 0,.int .i64 0,.int .i64 0,.int .i64 0] ?hg ?hi ?ho ?h1 ?_;(case hx=>rfl);(case hy=>rfl);(case hg=>exact Q4r.o);(case hi=>kernel_rfl);(case ho=>kernel_rfl);(case h1=>kernel_rfl)))
   refine bodyPost_ret (v:=.agg #[.int .i64 0,.string ⟨#[]⟩,.int .i64 0,.int .i64 0,.int .i64 0,.int .i64 0,.int .i64 2,.int .i64 i]) ?hr ?hdf ?nX
   case hr=>
    refine results_cell_row Tryz.results118 _ _ (w.heap.size) 189 #[.int .i64 0,.string ⟨#[]⟩,.int .i64 0,.int .i64 0,.int .i64 0,.int .i64 0,.int .i64 2,.int .i64 i] (0,0) _ ?hp ?hg Tryz.underlying189 ?hd ?hi
    case hp=>rfl
    case hg=>exact setRow_heap _ _ _ _ _ _ Q4r.o
    case hd=>rfl
    case hi=>kernel_rfl
   case hdf=>rfl
   case nX=>exact⟨xY HT2.o,below_setRow BWr.o (Nat.le_refl _) _⟩
end W
end Go.Proofs.YtjcdiegfnoaedaaGreatDoor
