import Derived.Test.YtjcdiegfnoaedaaGreatDoorZ45
import Derived.Test.YtjcdiegfnoaedaaGreatDoorZ47
set_option linter.unusedVariables false
set_option linter.unusedSimpArgs false
set_option maxHeartbeats 16000000
namespace Go.Proofs.YtjcdiegfnoaedaaGreatDoor
namespace Pl
noncomputable def Ka (use:Int) (x:Nd) (al:List ByteArray):Bool:=
 if x.s.size=0/\use=3 then true
 else if use=1 then pR x.s
 else if use=2\/use=3 then pR x.s && !GA al x.s
 else if use=4 then GA al x.s
 else if use=5 then decide (EK ⟨if x.k=34 then 4 else 3,x.s,x.n,0,0⟩≠⟨#[]⟩)
 else decide (x.s.size=0)
theorem aAY (x:Nd) (al:List ByteArray):Ka (rl x.k).word x al=wdB x al:=rfl
theorem ne_nil {s:ByteArray}:(s≠⟨#[]⟩)↔s.size≠0:=by
 constructor
 ·intro h e;exact h (by
   have:s.data=#[]:=Array.eq_empty_of_size_eq_zero e;exact ByteArray.ext this)
 ·intro h e;exact h (by rw[e];rfl)
end Pl
namespace W
open Go.RowKit Go.Maps Go.WideMaps
theorem nI {H:Type}{w w':World}{P:Program}{k:TypeId}{R:Value->Option (DataW H × List MemPlace)}{b n c:Nat}{D:DataW H}(h:w.ownsMap P k R b n D) (hb:Below c w w') (hc:b<c):w'.ownsMap P k R b n D:=by
 obtain⟨es,clock,h1,h2⟩:=h;exact⟨es,clock,(hb.block b hc).trans h1,h2⟩
theorem Cn:Keyed Tryz.prog 9:=string_keyed Tryz.underlying9
theorem zeroE (w:World):(zeroValue 76).run Tryz.prog w=.ok (.agg #[]) w:=by kernel_rfl
def wQ (D:DataW Unit) (ss:List ByteArray):Prop:=IsMap D/\∀t:ByteArray,Maps.has D (.string t.data.toList)=Pl.GA ss t
theorem aEW {w:World}{gm n:Nat}{D:DataW Unit}{al:List ByteArray}(h:w.ownsMap Tryz.prog 9 unitElem gm n D) (hK:wQ D al) (s:ByteArray) (hs:s.size<=maxLen):(Instr.lookup 72 (.map (some gm)) (.string s) true).run Tryz.prog w=.ok (.tuple #[.agg #[],.bool (Pl.GA al s)]) w:=by
 obtain⟨v,ps,hr,hv⟩:=h.look_ok (e:=76) Cn Tryz.underlying72 (zeroE w) unitElem_mk (key:=.string s) (kl:=.string s.data.toList) (keyOf_string_mk Tryz.underlying9 hs);obtain⟨rfl,_⟩:=unitElem_inv hv;rw[hr,hK.2]
set_option maxRecDepth 8000 in
theorem Il (gc gm nm:Nat) (D:DataW Unit) (al:List ByteArray) (x:Pl.Nd) (va:Option Addr) (vl vc:Nat) (use:Int) (w:World) (hc:w.cell? ⟨gc,1,none⟩=some (.map (some gm))) (ho:w.ownsMap Tryz.prog 9 unitElem gm nm D) (hgm:gm<w.heap.size) (hK:wQ D al) (hs:x.s.size<=1048576) (hn : -9223372036854775808<=x.n/\x.n<=9223372036854775807) (hE:nR w) (hd:bD w) (hp:iH w) :
  Calls Tryz.prog 65 #[.pointer (some ⟨gc,0,none⟩),.agg #[.int .i64 x.k,.int .i64 x.m,.int .i64 x.n,.string x.s,.slice va vl vc,.int .i64 x.line,.int .i64 x.aQ],.int .i64 use] w fun e w'=>e=.returned (.bool (Pl.Ka use x al))/\Bw w w':=by
 obtain⟨R,hR⟩:∃R,R=Pl.Ka use x al:=⟨_,rfl⟩;rw[<- hR];have HR:Hid (R=Pl.Ka use x al):=hR;clear hR;have hgc:gc<w.heap.size:=block_lt_of_cell hc;by_cases hA:x.s.size=0/\use=3
 ·obtain⟨s0,rfl⟩:=hA;have s0e:x.s.toList.isEmpty=true:=by rw[List.isEmpty_iff,Pl.jW];exact s0
  have s0b:(x.s.toList == [])=true:=by simpa using (Pl.jW _).mpr s0
  have HF:Hid (R=true):=by show R=true;rw[HR.o];unfold Pl.Ka;rw[if_pos ⟨s0,rfl⟩]
  clear s0;go_enter Tryz.func65,Tryz.ntmps65;go_wp2_with fail
  go_ret;exact⟨aC HF.o.symm,aA _ _⟩
 have HA:Hid (¬(x.s.size=0/\use=3)):=hA;obtain⟨w1,hw1⟩:∃w1:World,w1=w.alloc (.cells #[.int .i64 x.k,.int .i64 x.m,.int .i64 x.n,.string x.s,.slice va vl vc,.int .i64 x.line,.int .i64 x.aQ] 45):=⟨_,rfl⟩;have HB1:Hid (Bw w w1):=by rw[hw1];exact aA _ _
 have x1:w1.heap[w.heap.size]?=some (.cells #[.int .i64 x.k,.int .i64 x.m,.int .i64 x.n,.string x.s,.slice va vl vc,.int .i64 x.line,.int .i64 x.aQ] 45 (0,0)):=by rw[hw1];exact heap_alloc_new w _
 have hz1:w.heap.size<w1.heap.size:=(Array.getElem?_eq_some_iff.1 x1).1;have HX1:Hid (∀u:World,Bw w1 u->u.cell? ⟨w.heap.size,0,none⟩=some (.int .i64 x.k)/\u.cell? ⟨w.heap.size,1,none⟩=some (.int .i64 x.m)/\u.cell? ⟨w.heap.size,2,none⟩=some (.int .i64 x.n)/\u.cell? ⟨w.heap.size,3,none⟩=some (.string x.s)/\u.cell? ⟨w.heap.size,4,none⟩=some (.slice va vl vc)/\u.cell? ⟨w.heap.size,5,none⟩=some (.int .i64 x.line)/\u.cell? ⟨w.heap.size,6,none⟩=some (.int .i64 x.aQ)):=fun u hu=>by
  have f:=fun j=>cell_of_row u w.heap.size j _ 45 (0,0) ((hu.block _ hz1).trans x1);exact⟨f 0,f 1,f 2,f 3,f 4,f 5,f 6⟩
 obtain⟨n0,n1,n2,n3,n4,n5,n6⟩:=HX1.o w1 (Below.refl _ _);have g1:w1.cell? ⟨gc,1,none⟩=some (.map (some gm)):=(HB1.o.cell (p:=⟨gc,1,none⟩) hgc).trans hc;have aGK:gc<w1.heap.size:=by omega
 have ho1:w1.ownsMap Tryz.prog 9 unitElem gm nm D:=nI ho HB1.o hgm;have aBO:gm<w1.heap.size:=by omega
 have hsm:x.s.size<=maxLen:=by unfold maxLen;omega
 obtain⟨IN,hIN⟩:∃IN,IN=Pl.GA al x.s:=⟨_,rfl⟩;have CG:Hid (IN=Pl.GA al x.s):=hIN;have lk:∀u:World,Bw w1 u->(Instr.lookup 72 (.map (some gm)) (.string x.s) true).run Tryz.prog u=.ok (.tuple #[.agg #[],.bool IN]) u:=fun u hu=>by rw[hIN];exact aEW (nI ho1 hu aBO) hK x.s hsm
 have l0:=lk w1 (Below.refl _ _);have l1:∀o,(Instr.lookup 72 (.map (some gm)) (.string x.s) true).run Tryz.prog (w1.alloc o)=.ok (.tuple #[.agg #[],.bool IN]) (w1.alloc o):=fun o=>lk _ (aA _ _);have l2:(Instr.lookup 72 (.map (some gm)) (.string x.s) true).run Tryz.prog w1.drew=.ok (.tuple #[.agg #[],.bool IN]) w1.drew:=lk _ (Below.refl _ _).drew;have l3:∀o,(Instr.lookup 72 (.map (some gm)) (.string x.s) true).run Tryz.prog (w1.alloc o).drew=.ok (.tuple #[.agg #[],.bool IN]) (w1.alloc o).drew:=fun o=>lk _ (aA _ _).drew;have Ti:Hid (∀u:World,Bw w u->Calls Tryz.prog 97 #[.string x.s] u fun e w'=>e=.returned (.bool (Pl.pR x.s))/\Bw u w'):=fun u hu=>JA x.s hs u (hE.on hu);have HLI:Hid (∀u:World,Calls Tryz.prog 99 #[.agg #[.int .i64 x.k,.int .i64 x.m,.int .i64 x.n,.string x.s,.slice va vl vc,.int .i64 x.line,.int .i64 x.aQ]] u fun e w'=>e=.returned (.agg #[.int .i64 (if x.k=34 then 4 else 3),.string x.s,.int .i64 x.n,.int .i64 0,.int .i64 0])/\Bw u w'):=by
  have key:=yG x ⟨va,vl,vc⟩;exact key
 have IZ:Hid (∀u:World,Bw w u->Calls Tryz.prog 98 #[.agg #[.int .i64 (if x.k=34 then 4 else 3),.string x.s,.int .i64 x.n,.int .i64 0,.int .i64 0]] u fun e w'=>e=.returned (.string (Pl.EK ⟨if x.k=34 then 4 else 3,x.s,x.n,0,0⟩))/\Bw u w'):=fun u hu=>zL ⟨if x.k=34 then 4 else 3,x.s,x.n,0,0⟩ hn.1 hn.2 hs u (hE.on hu) (hd.below hu) (hp.below hu);have eu3:((x.s.toList == []) && (use == 3))=false:=by
  rw[Bool.and_eq_false_iff];by_cases s0:x.s.size=0
  ·right;simpa using fun q=>hA ⟨s0,q⟩
  ·left;simpa using fun q=>s0 ((Pl.jW _).mp q)
 have s01:(x.s.toList == [])=false\/((x.s.toList == [])=true/\(use == 3)=false):=by
  cases hh:(x.s.toList == [])
  ·exact .inl rfl
  ·rw[hh]at eu3;exact .inr ⟨rfl,by simpa using eu3⟩
 have SE:Hid ((x.s.toList == [])=x.s.toList.isEmpty):=by show (x.s.toList == [])=x.s.toList.isEmpty;cases x.s.toList <;> rfl
 clear hc ho hIN lk x1 hA eu3 hd hp hE ho1;obtain⟨T,hT⟩:∃T,T=Pl.EK ⟨if x.k=34 then 4 else 3,x.s,x.n,0,0⟩:=⟨_,rfl⟩;have HT:Hid (T=Pl.EK ⟨if x.k=34 then 4 else 3,x.s,x.n,0,0⟩):=hT;rw[<- hT]at IZ;obtain⟨KD,hKD⟩:∃KD:Int,KD=if x.k=34 then 4 else 3:=⟨_,rfl⟩
 rw[<- hKD]at IZ HLI;clear hT hKD;go_enter Tryz.func65,Tryz.ntmps65;go_upto_region 1 with fail
 rw[<- hw1];clear hw1;rcases s01 with s0|⟨s0,u3⟩;all_goals
  have s0e:=SE.o.symm.trans s0;go_upto_region 3 with fail
  go_cut [7,8] (fun s7 s8 wx=>s8=.bool IN/\Bw w1 wx)
  case first=>
   go_region_with (fail)
   all_goals
    go_wp2_with fail
    go_meet
    exact⟨rfl,(aA _ _).drew⟩
  case rest=>
  obtain⟨rfl,hby⟩:=hcut;obtain⟨y,rfl⟩:∃y:World,y=wc:=⟨_,rfl⟩;have JE:Hid (Bw w y):=HB1.o.trans (hby.mono (by omega));obtain⟨m0,m1,m2,m3,m4,m5,m6⟩:=HX1.o y hby;clear hby n0 n1 n2 n3 n4 n5 n6 l0 l1 l2 l3 g1;by_cases u1:use=1
  ·have HF:Hid (R=Pl.pR x.s):=(by show R=_;rw[HR.o];unfold Pl.Ka;rw[if_neg HA.o,if_pos u1]);have ub1:(use == 1)=true:=(by simpa using u1);clear u1;go_wp2_with (go_at_call 97;refine (Ti.o _ JE.o).mono ?_;rintro e u2 ⟨rfl,d2⟩;have D2:Hid (Bw w u2):=JE.o.trans (d2.mono JE.o.size);clear d2)
   go_ret;exact⟨aC HF.o.symm,D2.o⟩
  have ub1:(use == 1)=false:=by simpa using u1
  by_cases u2:use=2\/use=3
  ·have HF:Hid (R=(Pl.pR x.s && !IN)):=(by show R=_;rw[HR.o,CG.o];unfold Pl.Ka;rw[if_neg HA.o,if_neg u1,if_pos u2]);cases hNB:Pl.pR x.s
   ·rw[hNB]at HF Ti;rcases u2 with u2|u2
    ·have ub2:(use == 2)=true:=(by simpa using u2);clear u1 u2;go_wp2_with (go_at_call 97;refine (Ti.o _ JE.o).mono ?_;rintro e u2 ⟨rfl,d2⟩;have D2:Hid (Bw w u2):=JE.o.trans (d2.mono JE.o.size);clear d2)
     go_ret;exact⟨aC HF.o.symm,D2.o⟩
    ·have ub2:(use == 2)=false:=(by simp;omega);have ub3:(use == 3)=true:=(by simpa using u2);clear u1 u2;go_wp2_with (go_at_call 97;refine (Ti.o _ JE.o).mono ?_;rintro e u2 ⟨rfl,d2⟩;have D2:Hid (Bw w u2):=JE.o.trans (d2.mono JE.o.size);clear d2)
     all_goals (go_ret;exact⟨aC HF.o.symm,D2.o⟩)
   ·rw[hNB]at HF Ti;rcases u2 with u2|u2
    ·have ub2:(use == 2)=true:=(by simpa using u2);clear u1 u2;go_wp2_with (go_at_call 97;refine (Ti.o _ JE.o).mono ?_;rintro e u2 ⟨rfl,d2⟩;have D2:Hid (Bw w u2):=JE.o.trans (d2.mono JE.o.size);clear d2)
     go_ret;exact⟨aC HF.o.symm,D2.o⟩
    ·have ub2:(use == 2)=false:=(by simp;omega);have ub3:(use == 3)=true:=(by simpa using u2);clear u1 u2;go_wp2_with (go_at_call 97;refine (Ti.o _ JE.o).mono ?_;rintro e u2 ⟨rfl,d2⟩;have D2:Hid (Bw w u2):=JE.o.trans (d2.mono JE.o.size);clear d2)
     all_goals (go_ret;exact⟨aC HF.o.symm,D2.o⟩)
  have ub2:(use == 2)=false:=by simp;omega
  have ub3:(use == 3)=false:=by simp;omega
  by_cases u4:use=4
  ·have HF:Hid (R=IN):=(by show R=_;rw[HR.o,CG.o];unfold Pl.Ka;rw[if_neg HA.o,if_neg u1,if_neg u2,if_pos u4]);have ub4:(use == 4)=true:=(by simpa using u4);clear u1 u2 u4;go_wp2_with fail
   go_ret;exact⟨aC HF.o.symm,JE.o⟩
  have ub4:(use == 4)=false:=by simpa using u4
  by_cases u5:use=5
  ·have HF:Hid (R=decide (T.size≠0)):=by
    show R=_;rw[HR.o,HT.o];unfold Pl.Ka;rw[if_neg HA.o,if_neg u1,if_neg u2,if_neg u4,if_pos u5,Bool.eq_iff_iff];simp only[decide_eq_true_eq];exact Pl.ne_nil
   have ub5:(use == 5)=true:=(by simpa using u5);have hTn:T.toList=[]↔T.size=0:=Pl.jW T;have HTN:Hid (T.toList=[]↔T.size=0):=hTn;clear u1 u2 u4 u5 hTn;by_cases t0:T.size=0
   ·have te:T.toList.isEmpty=true:=(by rw[List.isEmpty_iff];exact HTN.o.mpr t0);have tb:(T.toList == [])=true:=(by simpa using HTN.o.mpr t0);have Cx:Hid (R=false):=(by show R=false;rw[HF.o];exact decide_eq_false fun q=>q t0);clear t0;go_wp2_with (first|(go_at_call 99;refine (HLI.o _).mono ?_;rintro e u2 ⟨rfl,d2⟩;have D2:Hid (Bw w u2):=JE.o.trans (d2.mono JE.o.size);clear d2)|(go_at_call 98;refine (IZ.o _ D2.o).mono ?_;rintro e u3 ⟨rfl,d3⟩;have D3:Hid (Bw w u3):=D2.o.trans (d3.mono D2.o.size);clear d3))
    go_ret;exact⟨aC Cx.o.symm,D3.o⟩
   ·have te:T.toList.isEmpty=false:=(by rw[<- Bool.not_eq_true,List.isEmpty_iff];exact fun q=>t0 (HTN.o.mp q));have tb:(T.toList == [])=false:=(by simpa using fun q=>t0 (HTN.o.mp q));have Cx:Hid (R=true):=(by show R=true;rw[HF.o];exact decide_eq_true t0);clear t0;go_wp2_with (first|(go_at_call 99;refine (HLI.o _).mono ?_;rintro e u2 ⟨rfl,d2⟩;have D2:Hid (Bw w u2):=JE.o.trans (d2.mono JE.o.size);clear d2)|(go_at_call 98;refine (IZ.o _ D2.o).mono ?_;rintro e u3 ⟨rfl,d3⟩;have D3:Hid (Bw w u3):=D2.o.trans (d3.mono D2.o.size);clear d3))
    go_ret;exact⟨aC Cx.o.symm,D3.o⟩
  have ub5:(use == 5)=false:=by simpa using u5
  have HF:Hid (R=(x.s.toList == [])):=by
   show R=_;rw[HR.o];unfold Pl.Ka;rw[if_neg HA.o,if_neg u1,if_neg u2,if_neg u4,if_neg u5,Bool.eq_iff_iff];simp only[decide_eq_true_eq,beq_iff_eq];exact (Pl.jW _).symm
  rw[s0]at HF;clear u1 u2 u4 u5;go_wp2_with fail
  go_ret;exact⟨aC HF.o.symm,JE.o⟩
end W
namespace Pl
theorem Rj (al:List ByteArray) (s t:ByteArray):GA (al++[s]) t=(GA al t || (s.toList == t.toList)):=by
 unfold GA;rw[List.any_append];simp
theorem aAZ:∀k:Fin 50,(DL.getD k.val Rl.zero).xO.toNat &&& 4≠0->k.val=7:=by decide +kernel
theorem Im {k:Int}(h:(rl k).xO.toNat &&& 4≠0):k=7:=by
 by_cases q:0<=k/\k<=49
 ·obtain⟨n,rfl⟩:∃n:Nat,k=n:=⟨k.toNat,by omega⟩;have hn:n<50:=by omega
  rw[zX hn]at h;have:=aAZ ⟨n,hn⟩ h;simp only at this;omega
 ·rw[yU (by omega)]at h;exact absurd rfl h
theorem Rm:∀k:Fin 50,lastB ((k.val:Nat):Int)=true->1<=(DL.getD k.val Rl.zero).kids.length:=by decide +kernel
theorem last_one {k:Int}(h:lastB k=true):1<=(rl k).kids.length:=by
 have hk:k=21\/k=22\/(24<=k/\k<=28):=of_decide_eq_true h;obtain⟨n,rfl⟩:∃n:Nat,k=n:=⟨k.toNat,by omega⟩;have hn:n<50:=by omega
 rw[zX hn];exact Rm ⟨n,hn⟩ h
theorem rl4:(rl 4).kids=[1]/\(rl 4).more=4:=by decide
theorem rl7:(rl 7).kids=[1]:=by decide
structure PI (xs:List Nd) (len i:Nat) (l:List Nat):Prop where
 hi:i<len
 l4:len<=4000
 xl:xs.length=len
 ord:qQ xs len l
 pre:∀j,j<i->Dx xs j
 wf:NN xs
 sl:(nd xs i).s.size<=1048576
theorem PI.kid {xs:List Nd}{len i:Nat}{l:List Nat}(h:PI xs len i l){q:Nat}(hq:q<(nd xs i).kids.length):∃c:Nat,(nd xs i).kids.getD q 0=(c:Int)/\c<i:=by
 obtain⟨c,h1,h2,_⟩:=h.ord.kid i h.hi _ (nN (ks:=(nd xs i).kids) (q:=q) hq);exact⟨c,h1,h2⟩
theorem PI.par {xs:List Nd}{len i:Nat}{l:List Nat}(h:PI xs len i l) (hk:kI (rl (nd xs i).k) (kinds xs i)) (k4:(nd xs i).k=4) (j2:(nd xs i).kids.length=2):∃c:Nat,(nd xs i).kids.getD 1 0=(c:Int)/\c<len/\1<=(nd xs c).kids.length/\∃d:Nat,(nd xs c).kids.getD 0 0=(d:Int)/\d<len:=by
 obtain⟨c,h1,h2⟩:=h.kid (q:=1) (by omega);have hi:=h.hi;have h3:=hk.2.2 1 (by rw[aX];omega);rw[rM xs (by omega),h1,Int.toNat_natCast,k4,rl4.1,rl4.2,if_neg (by simp)]at h3;have h7:=Im h3;have h5:=(h.pre c h2).kids.1;rw[h7,rl7,aX]at h5;have h6:1<=(nd xs c).kids.length:=by have h8:((1:Nat):Int)<=((nd xs c).kids.length:Int):=h5;omega
 obtain⟨d,d1,d2,_⟩:=h.ord.kid c (by omega) _ (nN (ks:=(nd xs c).kids) (q:=0) (by omega));exact⟨c,h1,by omega,h6,d,d1,by omega⟩
theorem PI.last {xs:List Nd}{len i:Nat}{l:List Nat}(h:PI xs len i l) (hk:kI (rl (nd xs i).k) (kinds xs i)) (hl:lastB (nd xs i).k=true):1<=(nd xs i).kids.length:=by
 have h1:=hk.1;have:=last_one hl;rw[aX]at h1;omega
end Pl
namespace W
open Go.RowKit Go.Maps Go.WideMaps
theorem wQ.nil:wQ (.map []) []:=⟨isMap_empty,fun t=>rfl⟩
theorem wQ.put {D:DataW Unit}{al:List ByteArray}(h:wQ D al) (s:ByteArray) (d:DataW Unit):wQ (D.put (.string s.data.toList) d) (al++[s]):=by
 refine⟨h.1.put _ _,fun t=>?_⟩;rw[Pl.Rj];by_cases e:s.data.toList=t.data.toList
 ·rw[e,has_put_same h.1 (by trivial)];have:(s.toList == t.toList)=true:=by
   rw[ByteArray.toList_eq,ByteArray.toList_eq,e];exact beq_self_eq_true _
  rw[this,Bool.or_true]
 ·rw[has_put_other (fun hc=>e (by injection hc with hc;exact hc.symm)),h.2];have:(s.toList == t.toList)=false:=by
   rw[ByteArray.toList_eq,ByteArray.toList_eq];exact beq_false_of_ne e
  rw[this,Bool.or_false]
structure GJ (W0:World) (a:Option Addr) (len cap gc gm nm:Nat) (al:List ByteArray) (ob:Option Addr) (oc i:Nat) (o:List Bool) (w:World):Prop where
 jR:Bw W0 w
 gcb:W0.heap.size<=gc
 gmb:W0.heap.size<=gm
 blk:w.heap[gc]?=some (.cells #[.slice a len cap,.map (some gm),.slice ob i oc] 74 (0,0))
 map:∃D:DataW Unit,w.ownsMap Tryz.prog 9 unitElem gm nm D/\wQ D al
 own:w.ownsRow W0.heap.size 4 1 (.slice ob i oc) i (o.map Value.bool)
theorem KP {base:Nat}{e:TypeId}{k:Nat}{v:Value}{n:Nat}{xs:List Value}{w w':World}(h:w.ownsRow base e k v n xs) (hb:Bw w w'):w'.ownsRow base e k v n xs:=by
 refine⟨h.1,?_⟩;rcases h.2 with q|⟨g,cap,cur,h0,hlo,hg,r⟩
 ·exact .inl q
 ·exact .inr ⟨g,cap,cur,h0,hlo,(hb.block g (Array.getElem?_eq_some_iff.1 hg).1).trans hg,r⟩
theorem GJ.keep {W0:World}{a:Option Addr}{len cap gc gm nm:Nat}{al:List ByteArray}{ob:Option Addr}{oc i:Nat}{o:List Bool}{w w':World}(h:GJ W0 a len cap gc gm nm al ob oc i o w) (hb:Bw w w'):GJ W0 a len cap gc gm nm al ob oc i o w':=by
 obtain⟨D,h1,h2⟩:=h.map;have hlt:gm<w.heap.size:=by
  obtain⟨es,cl,q1,_⟩:=h1;exact (Array.getElem?_eq_some_iff.1 q1).1
 exact⟨h.jR.trans (hb.mono h.jR.size),h.gcb,h.gmb,(hb.block _ (Array.getElem?_eq_some_iff.1 h.blk).1).trans h.blk,⟨D,nI h1 hb hlt,h2⟩,KP h.own hb⟩
theorem GJ.cells {W0:World}{a:Option Addr}{len cap gc gm nm:Nat}{al:List ByteArray}{ob:Option Addr}{oc i:Nat}{o:List Bool}{w:World}(h:GJ W0 a len cap gc gm nm al ob oc i o w):w.cell? ⟨gc,0,none⟩=some (.slice a len cap)/\w.cell? ⟨gc,1,none⟩=some (.map (some gm))/\w.cell? ⟨gc,2,none⟩=some (.slice ob i oc):=by
 have f:=fun j=>cell_of_row w gc j _ 74 (0,0) h.blk;exact⟨f 0,f 1,f 2⟩
theorem GJ.open {W0:World}{a:Option Addr}{len cap gc gm nm:Nat}{al:List ByteArray}{ob:Option Addr}{oc i:Nat}{o:List Bool}{w:World}(h:GJ W0 a len cap gc gm nm al ob oc i o w){c:Nat}(hc:c<i):∃g,ob=some ⟨g,0,none⟩/\g<w.heap.size/\w.cell? ⟨g,c,none⟩=some (.bool (o.getD c false)):=by
 obtain⟨g,cp,hv,hlo,hg⟩:=h.own.form (by omega);simp only[Value.slice.injEq,true_and]at hv;obtain⟨rfl,rfl⟩:=hv;exact⟨g,rfl,hg,yH h.own hc⟩
structure PC (lo:Nat) (W0 y:World) (xs:List Pl.Nd) (a:Option Addr) (len cap gc gm nm:Nat) (al:List ByteArray) (ob:Option Addr) (oc i nb:Nat) (va:Option Addr) (vl vc:Nat):Prop where
 xG:GJ W0 a len cap gc gm nm al ob oc i (Pl.pU xs i) y
 nd:y.heap[nb]?=some (.cells ((Pl.nd xs i).cells ⟨va,vl,vc⟩) 45 (0,0))
 nbb:W0.heap.size<=nb
 row:Row .i64 lo W0 va vl vc (Pl.nd xs i).kids
 JC:aT lo W0 a len cap xs
 glo:nR W0
 db:bD W0
 pw:iH W0
theorem PC.keep {lo:Nat}{W0 y y':World}{xs:List Pl.Nd}{a:Option Addr}{len cap gc gm nm:Nat}{al:List ByteArray}{ob:Option Addr}{oc i nb:Nat}{va:Option Addr}{vl vc:Nat}(h:PC lo W0 y xs a len cap gc gm nm al ob oc i nb va vl vc) (hb:Bw y y'):PC lo W0 y' xs a len cap gc gm nm al ob oc i nb va vl vc:=
 ⟨h.xG.keep hb,(hb.block _ (Array.getElem?_eq_some_iff.1 h.nd).1).trans h.nd,h.nbb,h.row,h.JC,h.glo,h.db,h.pw⟩
theorem PC.cells {lo:Nat}{W0 y:World}{xs:List Pl.Nd}{a:Option Addr}{len cap gc gm nm:Nat}{al:List ByteArray}{ob:Option Addr}{oc i nb:Nat}{va:Option Addr}{vl vc:Nat}(h:PC lo W0 y xs a len cap gc gm nm al ob oc i nb va vl vc){x:Pl.Nd}(hx:x=Pl.nd xs i):y.cell? ⟨nb,0,none⟩=some (.int .i64 x.k)/\y.cell? ⟨nb,1,none⟩=some (.int .i64 x.m)/\y.cell? ⟨nb,2,none⟩=some (.int .i64 x.n)/\y.cell? ⟨nb,3,none⟩=some (.string x.s)/\y.cell? ⟨nb,4,none⟩=some (.slice va vl vc)/\y.cell? ⟨nb,5,none⟩=some (.int .i64 x.line)/\y.cell? ⟨nb,6,none⟩=some (.int .i64 x.aQ):=by
 subst hx;have f:=fun j=>cell_of_row y nb j _ 45 (0,0) h.nd;exact⟨f 0,f 1,f 2,f 3,f 4,f 5,f 6⟩
def uP (y:World) (nb:Nat) (x:Pl.Nd) (va:Option Addr) (vl vc:Nat):Prop:=∀u:World,Bw y u->u.cell? ⟨nb,0,none⟩=some (.int .i64 x.k)/\u.cell? ⟨nb,1,none⟩=some (.int .i64 x.m)/\u.cell? ⟨nb,2,none⟩=some (.int .i64 x.n)/\u.cell? ⟨nb,3,none⟩=some (.string x.s)/\u.cell? ⟨nb,4,none⟩=some (.slice va vl vc)/\u.cell? ⟨nb,5,none⟩=some (.int .i64 x.line)/\u.cell? ⟨nb,6,none⟩=some (.int .i64 x.aQ)
def uQ (y:World) (rb:Nat) (rs sJ qV qW rC rD:Int) (fa:Option Addr) (fl fc:Nat) (pM sV:Int):Prop:=∀u:World,Bw y u->u.cell? ⟨rb,0,none⟩=some (.int .i64 rs)/\u.cell? ⟨rb,1,none⟩=some (.int .i64 sJ)/\u.cell? ⟨rb,2,none⟩=some (.int .i64 qV)/\u.cell? ⟨rb,3,none⟩=some (.int .i64 qW)/\u.cell? ⟨rb,4,none⟩=some (.int .i64 rC)/\u.cell? ⟨rb,5,none⟩=some (.int .i64 rD)/\u.cell? ⟨rb,6,none⟩=some (.slice fa fl fc)/\u.cell? ⟨rb,7,none⟩=some (.int .i64 pM)/\u.cell? ⟨rb,8,none⟩=some (.int .i64 sV)
noncomputable def tT (n:Nat):Code:=((Tryz.f38.body.bind (xD n)).getD .skip)
set_option maxRecDepth 100000 in
theorem aEX {y:World}{gc nb rb:Nat}{x:Pl.Nd}{va:Option Addr}{vl vc:Nat}{rs sJ qV qW rC rD pM sV:Int}{fa:Option Addr}{fl fc:Nat}(hcn:(uP y nb x va vl vc)) (hcr:(uQ y rb rs sJ qV qW rC rD fa fl fc pM sV)) (hE1:decide (qV<=x.m/\x.m<=qW)=false) (c1 c2 c6 c7 c8 c9 c10 c11 c12 c13 c14 c15 c16 c17 c18 c19 c20 c21 jY c23 c24 jZ kC kD c28 kF kG c31 c32 jU c34 kH mM c37 mO mP c40 mF kV mG mH mI c46 lQ kQ c49 lS c51 lT c53 lU lV lW lX lY c59 lZ lF lG lH c64 lI lJ lK lL lM c70 mQ c72 mR mU c75 c76 mV mW mX c80 mY mZ:Value) (K:Act->World->Prop) (Q:Exit->Act->World->Prop)
  (hR:∀(tmps:Array Value) (y':World),tmps.getD 4 undef=.bool false->Bw y y'->Q .ret { tmps:=tmps,defers:=[] } y') :
  (tT 2).wp Tryz.prog (Exit.then K Q) { tmps:=#[.pointer (some ⟨gc,0,none⟩),c1,c2,.pointer (some ⟨nb,0,none⟩),.bool false,.pointer (some ⟨rb,0,none⟩),c6,c7,c8,c9,c10,c11,c12,c13,c14,c15,c16,c17,c18,c19,c20,c21,jY,c23,c24,jZ,kC,kD,c28,kF,kG,c31,c32,jU,c34,kH,mM,c37,mO,mP,c40,mF,kV,mG,mH,mI,c46,lQ,kQ,c49,lS,c51,lT,c53,lU,lV,lW,lX,lY,c59,lZ,lF,lG,lH,c64,lI,lJ,lK,lL,lM,c70,mQ,c72,mR,mU,c75,c76,mV,mW,mX,c80,mY,mZ],defers:=[] } y:=by
 have rE:Hid _:=hR;have xH:Hid _:=hcn;have yP:Hid _:=hcr;have E1:Hid _:=hE1;have PH:Hid (∀(n a b:Int) (u:World),Calls Tryz.prog 64 #[.int .i64 n,.int .i64 a,.int .i64 b] u fun e w'=>e=.returned (.bool (decide (a<=n/\n<=b)))/\w'=u):=fun n a b u=>lC n a b u;clear hR hE1 hcn hcr
 conv=>arg 2;whnf
 obtain⟨qX,tC,tF,rW,qO,tH,tJ⟩:=xH.o y (Below.refl _ _);obtain⟨Rn,Ro,Rp,Rq,Rs,Rt,Ru,Rw,Rx⟩:=yP.o y (Below.refl _ _);go_wp2_with (first|(go_at_call 64;refine (PH.o _ _ _ _).mono ?_;rintro e z1 ⟨rfl,g1⟩;rw[g1];clear g1 z1;(first|rw[E1.o])))
 exact rE.o _ _ rfl (Below.refl _ _)
set_option maxRecDepth 100000 in
theorem aEY {y:World}{gc nb rb:Nat}{x:Pl.Nd}{va:Option Addr}{vl vc:Nat}{rs sJ qV qW rC rD pM sV:Int}{fa:Option Addr}{fl fc:Nat}(hcn:(uP y nb x va vl vc)) (hcr:(uQ y rb rs sJ qV qW rC rD fa fl fc pM sV)) (hE1:decide (qV<=x.m/\x.m<=qW)=true) (hE2:decide (rC<=x.n/\x.n<=rD)=false) (c1 c2 c6 c7 c8 c9 c10 c11 c12 c13 c14 c15 c16 c17 c18 c19 c20 c21 jY c23 c24 jZ kC kD c28 kF kG c31 c32 jU c34 kH mM c37 mO mP c40 mF kV mG mH mI c46 lQ kQ c49 lS c51 lT c53 lU lV lW lX lY c59 lZ lF lG lH c64 lI lJ lK lL lM c70 mQ c72 mR mU c75 c76 mV mW mX c80 mY mZ:Value) (K:Act->World->Prop) (Q:Exit->Act->World->Prop)
  (hR:∀(tmps:Array Value) (y':World),tmps.getD 4 undef=.bool false->Bw y y'->Q .ret { tmps:=tmps,defers:=[] } y') :
  (tT 2).wp Tryz.prog (Exit.then K Q) { tmps:=#[.pointer (some ⟨gc,0,none⟩),c1,c2,.pointer (some ⟨nb,0,none⟩),.bool false,.pointer (some ⟨rb,0,none⟩),c6,c7,c8,c9,c10,c11,c12,c13,c14,c15,c16,c17,c18,c19,c20,c21,jY,c23,c24,jZ,kC,kD,c28,kF,kG,c31,c32,jU,c34,kH,mM,c37,mO,mP,c40,mF,kV,mG,mH,mI,c46,lQ,kQ,c49,lS,c51,lT,c53,lU,lV,lW,lX,lY,c59,lZ,lF,lG,lH,c64,lI,lJ,lK,lL,lM,c70,mQ,c72,mR,mU,c75,c76,mV,mW,mX,c80,mY,mZ],defers:=[] } y:=by
 have rE:Hid _:=hR;have xH:Hid _:=hcn;have yP:Hid _:=hcr;have E1:Hid _:=hE1;have E2:Hid _:=hE2;have PH:Hid (∀(n a b:Int) (u:World),Calls Tryz.prog 64 #[.int .i64 n,.int .i64 a,.int .i64 b] u fun e w'=>e=.returned (.bool (decide (a<=n/\n<=b)))/\w'=u):=fun n a b u=>lC n a b u;clear hR hE1 hE2 hcn hcr
 conv=>arg 2;whnf
 obtain⟨qX,tC,tF,rW,qO,tH,tJ⟩:=xH.o y (Below.refl _ _);obtain⟨Rn,Ro,Rp,Rq,Rs,Rt,Ru,Rw,Rx⟩:=yP.o y (Below.refl _ _);go_wp2_with (first|(go_at_call 64;refine (PH.o _ _ _ _).mono ?_;rintro e z1 ⟨rfl,g1⟩;rw[g1];clear g1 z1;(first|rw[E1.o]|rw[E2.o])))
 exact rE.o _ _ rfl (Below.refl _ _)
set_option maxRecDepth 100000 in
theorem aEZ {y:World}{gc nb rb:Nat}{x:Pl.Nd}{va:Option Addr}{vl vc:Nat}{rs sJ qV qW rC rD pM sV:Int}{fa:Option Addr}{fl fc:Nat}(hcn:(uP y nb x va vl vc)) (hcr:(uQ y rb rs sJ qV qW rC rD fa fl fc pM sV)) (hE1:decide (qV<=x.m/\x.m<=qW)=true) (hE2:decide (rC<=x.n/\x.n<=rD)=true) (VB:decide (0<=x.line/\x.line<=1000000)=false) (c1 c2 c6 c7 c8 c9 c10 c11 c12 c13 c14 c15 c16 c17 c18 c19 c20 c21 jY c23 c24 jZ kC kD c28 kF kG c31 c32 jU c34 kH mM c37 mO mP c40 mF kV mG mH mI c46 lQ kQ c49 lS c51 lT c53 lU lV lW lX lY c59 lZ lF lG lH c64 lI lJ lK lL lM c70 mQ c72 mR mU c75 c76 mV mW mX c80 mY mZ:Value) (K:Act->World->Prop) (Q:Exit->Act->World->Prop)
  (hR:∀(tmps:Array Value) (y':World),tmps.getD 4 undef=.bool false->Bw y y'->Q .ret { tmps:=tmps,defers:=[] } y') :
  (tT 2).wp Tryz.prog (Exit.then K Q) { tmps:=#[.pointer (some ⟨gc,0,none⟩),c1,c2,.pointer (some ⟨nb,0,none⟩),.bool false,.pointer (some ⟨rb,0,none⟩),c6,c7,c8,c9,c10,c11,c12,c13,c14,c15,c16,c17,c18,c19,c20,c21,jY,c23,c24,jZ,kC,kD,c28,kF,kG,c31,c32,jU,c34,kH,mM,c37,mO,mP,c40,mF,kV,mG,mH,mI,c46,lQ,kQ,c49,lS,c51,lT,c53,lU,lV,lW,lX,lY,c59,lZ,lF,lG,lH,c64,lI,lJ,lK,lL,lM,c70,mQ,c72,mR,mU,c75,c76,mV,mW,mX,c80,mY,mZ],defers:=[] } y:=by
 have rE:Hid _:=hR;have xH:Hid _:=hcn;have yP:Hid _:=hcr;have E1:Hid _:=hE1;have E2:Hid _:=hE2;have E3:Hid _:=VB;have PH:Hid (∀(n a b:Int) (u:World),Calls Tryz.prog 64 #[.int .i64 n,.int .i64 a,.int .i64 b] u fun e w'=>e=.returned (.bool (decide (a<=n/\n<=b)))/\w'=u):=fun n a b u=>lC n a b u;clear hR hE1 hE2 VB hcn hcr
 conv=>arg 2;whnf
 obtain⟨qX,tC,tF,rW,qO,tH,tJ⟩:=xH.o y (Below.refl _ _);obtain⟨Rn,Ro,Rp,Rq,Rs,Rt,Ru,Rw,Rx⟩:=yP.o y (Below.refl _ _);go_wp2_with (first|(go_at_call 64;refine (PH.o _ _ _ _).mono ?_;rintro e z1 ⟨rfl,g1⟩;rw[g1];clear g1 z1;(first|rw[E1.o]|rw[E2.o]|rw[E3.o])))
 exact rE.o _ _ rfl (Below.refl _ _)
set_option maxRecDepth 100000 in
theorem aE0 {y:World}{gc nb rb:Nat}{x:Pl.Nd}{va:Option Addr}{vl vc:Nat}{rs sJ qV qW rC rD pM sV:Int}{fa:Option Addr}{fl fc:Nat}(hcn:(uP y nb x va vl vc)) (hcr:(uQ y rb rs sJ qV qW rC rD fa fl fc pM sV)) (hE1:decide (qV<=x.m/\x.m<=qW)=true) (hE2:decide (rC<=x.n/\x.n<=rD)=true) (VB:decide (0<=x.line/\x.line<=1000000)=true) (Co:decide (0<=x.aQ/\x.aQ<=1000000)=false) (c1 c2 c6 c7 c8 c9 c10 c11 c12 c13 c14 c15 c16 c17 c18 c19 c20 c21 jY c23 c24 jZ kC kD c28 kF kG c31 c32 jU c34 kH mM c37 mO mP c40 mF kV mG mH mI c46 lQ kQ c49 lS c51 lT c53 lU lV lW lX lY c59 lZ lF lG lH c64 lI lJ lK lL lM c70 mQ c72 mR mU c75 c76 mV mW mX c80 mY mZ:Value) (K:Act->World->Prop) (Q:Exit->Act->World->Prop)
  (hR:∀(tmps:Array Value) (y':World),tmps.getD 4 undef=.bool false->Bw y y'->Q .ret { tmps:=tmps,defers:=[] } y') :
  (tT 2).wp Tryz.prog (Exit.then K Q) { tmps:=#[.pointer (some ⟨gc,0,none⟩),c1,c2,.pointer (some ⟨nb,0,none⟩),.bool false,.pointer (some ⟨rb,0,none⟩),c6,c7,c8,c9,c10,c11,c12,c13,c14,c15,c16,c17,c18,c19,c20,c21,jY,c23,c24,jZ,kC,kD,c28,kF,kG,c31,c32,jU,c34,kH,mM,c37,mO,mP,c40,mF,kV,mG,mH,mI,c46,lQ,kQ,c49,lS,c51,lT,c53,lU,lV,lW,lX,lY,c59,lZ,lF,lG,lH,c64,lI,lJ,lK,lL,lM,c70,mQ,c72,mR,mU,c75,c76,mV,mW,mX,c80,mY,mZ],defers:=[] } y:=by
 have rE:Hid _:=hR;have xH:Hid _:=hcn;have yP:Hid _:=hcr;have E1:Hid _:=hE1;have E2:Hid _:=hE2;have E3:Hid _:=VB;have E4:Hid _:=Co;have PH:Hid (∀(n a b:Int) (u:World),Calls Tryz.prog 64 #[.int .i64 n,.int .i64 a,.int .i64 b] u fun e w'=>e=.returned (.bool (decide (a<=n/\n<=b)))/\w'=u):=fun n a b u=>lC n a b u;clear hR hE1 hE2 VB Co hcn hcr
 conv=>arg 2;whnf
 obtain⟨qX,tC,tF,rW,qO,tH,tJ⟩:=xH.o y (Below.refl _ _);obtain⟨Rn,Ro,Rp,Rq,Rs,Rt,Ru,Rw,Rx⟩:=yP.o y (Below.refl _ _);go_wp2_with (first|(go_at_call 64;refine (PH.o _ _ _ _).mono ?_;rintro e z1 ⟨rfl,g1⟩;rw[g1];clear g1 z1;(first|rw[E1.o]|rw[E2.o]|rw[E3.o]|rw[E4.o])))
 exact rE.o _ _ rfl (Below.refl _ _)
set_option maxRecDepth 100000 in
theorem aE1 {y:World}{gc nb rb:Nat}{x:Pl.Nd}{va:Option Addr}{vl vc:Nat}{rs sJ qV qW rC rD pM sV:Int}{fa:Option Addr}{fl fc:Nat}(hcn:(uP y nb x va vl vc)) (hcr:(uQ y rb rs sJ qV qW rC rD fa fl fc pM sV)) (hE1:decide (qV<=x.m/\x.m<=qW)=true) (hE2:decide (rC<=x.n/\x.n<=rD)=true) (VB:decide (0<=x.line/\x.line<=1000000)=true) (Co:decide (0<=x.aQ/\x.aQ<=1000000)=true) (FV:∀u:World,Bw y u->Calls Tryz.prog 65 #[.pointer (some ⟨gc,0,none⟩),.agg #[.int .i64 x.k,.int .i64 x.m,.int .i64 x.n,.string x.s,.slice va vl vc,.int .i64 x.line,.int .i64 x.aQ],.int .i64 sJ] u fun e w'=>e=.returned (.bool false)/\Bw u w') (c1 c2 c6 c7 c8 c9 c10 c11 c12 c13 c14 c15 c16 c17 c18 c19 c20 c21 jY c23 c24 jZ kC kD c28 kF kG c31 c32 jU c34 kH mM c37 mO mP c40 mF kV mG mH mI c46 lQ kQ c49 lS c51 lT c53 lU lV lW lX lY c59 lZ lF lG lH c64 lI lJ lK lL lM c70 mQ c72 mR mU c75 c76 mV mW mX c80 mY mZ:Value) (K:Act->World->Prop) (Q:Exit->Act->World->Prop)
  (hR:∀(tmps:Array Value) (y':World),tmps.getD 4 undef=.bool false->Bw y y'->Q .ret { tmps:=tmps,defers:=[] } y') :
  (tT 2).wp Tryz.prog (Exit.then K Q) { tmps:=#[.pointer (some ⟨gc,0,none⟩),c1,c2,.pointer (some ⟨nb,0,none⟩),.bool false,.pointer (some ⟨rb,0,none⟩),c6,c7,c8,c9,c10,c11,c12,c13,c14,c15,c16,c17,c18,c19,c20,c21,jY,c23,c24,jZ,kC,kD,c28,kF,kG,c31,c32,jU,c34,kH,mM,c37,mO,mP,c40,mF,kV,mG,mH,mI,c46,lQ,kQ,c49,lS,c51,lT,c53,lU,lV,lW,lX,lY,c59,lZ,lF,lG,lH,c64,lI,lJ,lK,lL,lM,c70,mQ,c72,mR,mU,c75,c76,mV,mW,mX,c80,mY,mZ],defers:=[] } y:=by
 have rE:Hid _:=hR;have xH:Hid _:=hcn;have yP:Hid _:=hcr;have E1:Hid _:=hE1;have E2:Hid _:=hE2;have E3:Hid _:=VB;have E4:Hid _:=Co;have Kb:Hid _:=FV;have PH:Hid (∀(n a b:Int) (u:World),Calls Tryz.prog 64 #[.int .i64 n,.int .i64 a,.int .i64 b] u fun e w'=>e=.returned (.bool (decide (a<=n/\n<=b)))/\w'=u):=fun n a b u=>lC n a b u;clear hR hE1 hE2 VB Co FV hcn hcr
 conv=>arg 2;whnf
 obtain⟨qX,tC,tF,rW,qO,tH,tJ⟩:=xH.o y (Below.refl _ _);obtain⟨Rn,Ro,Rp,Rq,Rs,Rt,Ru,Rw,Rx⟩:=yP.o y (Below.refl _ _);go_wp2_with (first|(go_at_call 65;refine (Kb.o _ (Below.refl _ _)).mono ?_;rintro e z5 ⟨rfl,d5⟩;have D5:Hid (Bw y z5):=d5;clear d5;obtain⟨qX,tC,tF,rW,qO,tH,tJ⟩:=xH.o _ D5.o;obtain⟨Rn,Ro,Rp,Rq,Rs,Rt,Ru,Rw,Rx⟩:=yP.o _ D5.o)|(go_at_call 64;refine (PH.o _ _ _ _).mono ?_;rintro e z1 ⟨rfl,g1⟩;rw[g1];clear g1 z1;(first|rw[E1.o]|rw[E2.o]|rw[E3.o]|rw[E4.o])))
 exact rE.o _ _ rfl D5.o
set_option maxRecDepth 100000 in
theorem aE2 {y:World}{gc nb rb:Nat}{x:Pl.Nd}{va:Option Addr}{vl vc:Nat}{rs sJ qV qW rC rD pM sV:Int}{fa:Option Addr}{fl fc:Nat}(hcn:(uP y nb x va vl vc)) (hcr:(uQ y rb rs sJ qV qW rC rD fa fl fc pM sV)) (hE1:decide (qV<=x.m/\x.m<=qW)=true) (hE2:decide (rC<=x.n/\x.n<=rD)=true) (VB:decide (0<=x.line/\x.line<=1000000)=true) (Co:decide (0<=x.aQ/\x.aQ<=1000000)=true) (FV:∀u:World,Bw y u->Calls Tryz.prog 65 #[.pointer (some ⟨gc,0,none⟩),.agg #[.int .i64 x.k,.int .i64 x.m,.int .i64 x.n,.string x.s,.slice va vl vc,.int .i64 x.line,.int .i64 x.aQ],.int .i64 sJ] u fun e w'=>e=.returned (.bool true)/\Bw u w') (VC:∀u:World,Bw y u->Calls Tryz.prog 66 #[.pointer (some ⟨gc,0,none⟩),.slice va vl vc,.agg #[.int .i64 rs,.int .i64 sJ,.int .i64 qV,.int .i64 qW,.int .i64 rC,.int .i64 rD,.slice fa fl fc,.int .i64 pM,.int .i64 sV]] u fun e w'=>e=.returned (.bool false)/\Bw u w') (c1 c2 c6 c7 c8 c9 c10 c11 c12 c13 c14 c15 c16 c17 c18 c19 c20 c21 jY c23 c24 jZ kC kD c28 kF kG c31 c32 jU c34 kH mM c37 mO mP c40 mF kV mG mH mI c46 lQ kQ c49 lS c51 lT c53 lU lV lW lX lY c59 lZ lF lG lH c64 lI lJ lK lL lM c70 mQ c72 mR mU c75 c76 mV mW mX c80 mY mZ:Value) (K:Act->World->Prop) (Q:Exit->Act->World->Prop)
  (hR:∀(tmps:Array Value) (y':World),tmps.getD 4 undef=.bool false->Bw y y'->Q .ret { tmps:=tmps,defers:=[] } y') :
  (tT 2).wp Tryz.prog (Exit.then K Q) { tmps:=#[.pointer (some ⟨gc,0,none⟩),c1,c2,.pointer (some ⟨nb,0,none⟩),.bool false,.pointer (some ⟨rb,0,none⟩),c6,c7,c8,c9,c10,c11,c12,c13,c14,c15,c16,c17,c18,c19,c20,c21,jY,c23,c24,jZ,kC,kD,c28,kF,kG,c31,c32,jU,c34,kH,mM,c37,mO,mP,c40,mF,kV,mG,mH,mI,c46,lQ,kQ,c49,lS,c51,lT,c53,lU,lV,lW,lX,lY,c59,lZ,lF,lG,lH,c64,lI,lJ,lK,lL,lM,c70,mQ,c72,mR,mU,c75,c76,mV,mW,mX,c80,mY,mZ],defers:=[] } y:=by
 have rE:Hid _:=hR;have xH:Hid _:=hcn;have yP:Hid _:=hcr;have E1:Hid _:=hE1;have E2:Hid _:=hE2;have E3:Hid _:=VB;have E4:Hid _:=Co;have Kb:Hid _:=FV;have SY:Hid _:=VC;have PH:Hid (∀(n a b:Int) (u:World),Calls Tryz.prog 64 #[.int .i64 n,.int .i64 a,.int .i64 b] u fun e w'=>e=.returned (.bool (decide (a<=n/\n<=b)))/\w'=u):=fun n a b u=>lC n a b u;clear hR hE1 hE2 VB Co FV VC hcn hcr
 conv=>arg 2;whnf
 obtain⟨qX,tC,tF,rW,qO,tH,tJ⟩:=xH.o y (Below.refl _ _);obtain⟨Rn,Ro,Rp,Rq,Rs,Rt,Ru,Rw,Rx⟩:=yP.o y (Below.refl _ _);go_wp2_with (first|(go_at_call 66;refine (SY.o _ D5.o).mono ?_;rintro e z6 ⟨rfl,d6⟩;have D6:Hid (Bw y z6):=D5.o.trans (d6.mono D5.o.size);clear d6;obtain⟨qX,tC,tF,rW,qO,tH,tJ⟩:=xH.o _ D6.o)|(go_at_call 65;refine (Kb.o _ (Below.refl _ _)).mono ?_;rintro e z5 ⟨rfl,d5⟩;have D5:Hid (Bw y z5):=d5;clear d5;obtain⟨qX,tC,tF,rW,qO,tH,tJ⟩:=xH.o _ D5.o;obtain⟨Rn,Ro,Rp,Rq,Rs,Rt,Ru,Rw,Rx⟩:=yP.o _ D5.o)|(go_at_call 64;refine (PH.o _ _ _ _).mono ?_;rintro e z1 ⟨rfl,g1⟩;rw[g1];clear g1 z1;(first|rw[E1.o]|rw[E2.o]|rw[E3.o]|rw[E4.o])))
 exact rE.o _ _ rfl D6.o
set_option maxRecDepth 100000 in
theorem aE3 {y:World}{gc nb rb:Nat}{x:Pl.Nd}{va:Option Addr}{vl vc:Nat}{rs sJ qV qW rC rD pM sV:Int}{fa:Option Addr}{fl fc:Nat}(hcn:(uP y nb x va vl vc)) (hcr:(uQ y rb rs sJ qV qW rC rD fa fl fc pM sV)) (hE1:decide (qV<=x.m/\x.m<=qW)=true) (hE2:decide (rC<=x.n/\x.n<=rD)=true) (VB:decide (0<=x.line/\x.line<=1000000)=true) (Co:decide (0<=x.aQ/\x.aQ<=1000000)=true) (FV:∀u:World,Bw y u->Calls Tryz.prog 65 #[.pointer (some ⟨gc,0,none⟩),.agg #[.int .i64 x.k,.int .i64 x.m,.int .i64 x.n,.string x.s,.slice va vl vc,.int .i64 x.line,.int .i64 x.aQ],.int .i64 sJ] u fun e w'=>e=.returned (.bool true)/\Bw u w') (VC:∀u:World,Bw y u->Calls Tryz.prog 66 #[.pointer (some ⟨gc,0,none⟩),.slice va vl vc,.agg #[.int .i64 rs,.int .i64 sJ,.int .i64 qV,.int .i64 qW,.int .i64 rC,.int .i64 rD,.slice fa fl fc,.int .i64 pM,.int .i64 sV]] u fun e w'=>e=.returned (.bool true)/\Bw u w') (Ry:∀u:World,Bw y u->Calls Tryz.prog 67 #[.pointer (some ⟨gc,0,none⟩),.agg #[.int .i64 x.k,.int .i64 x.m,.int .i64 x.n,.string x.s,.slice va vl vc,.int .i64 x.line,.int .i64 x.aQ]] u fun e w'=>e=.returned (.bool false)/\Bw u w') (c1 c2 c6 c7 c8 c9 c10 c11 c12 c13 c14 c15 c16 c17 c18 c19 c20 c21 jY c23 c24 jZ kC kD c28 kF kG c31 c32 jU c34 kH mM c37 mO mP c40 mF kV mG mH mI c46 lQ kQ c49 lS c51 lT c53 lU lV lW lX lY c59 lZ lF lG lH c64 lI lJ lK lL lM c70 mQ c72 mR mU c75 c76 mV mW mX c80 mY mZ:Value) (K:Act->World->Prop) (Q:Exit->Act->World->Prop)
  (hR:∀(tmps:Array Value) (y':World),tmps.getD 4 undef=.bool false->Bw y y'->Q .ret { tmps:=tmps,defers:=[] } y') :
  (tT 2).wp Tryz.prog (Exit.then K Q) { tmps:=#[.pointer (some ⟨gc,0,none⟩),c1,c2,.pointer (some ⟨nb,0,none⟩),.bool false,.pointer (some ⟨rb,0,none⟩),c6,c7,c8,c9,c10,c11,c12,c13,c14,c15,c16,c17,c18,c19,c20,c21,jY,c23,c24,jZ,kC,kD,c28,kF,kG,c31,c32,jU,c34,kH,mM,c37,mO,mP,c40,mF,kV,mG,mH,mI,c46,lQ,kQ,c49,lS,c51,lT,c53,lU,lV,lW,lX,lY,c59,lZ,lF,lG,lH,c64,lI,lJ,lK,lL,lM,c70,mQ,c72,mR,mU,c75,c76,mV,mW,mX,c80,mY,mZ],defers:=[] } y:=by
 have rE:Hid _:=hR;have xH:Hid _:=hcn;have yP:Hid _:=hcr;have E1:Hid _:=hE1;have E2:Hid _:=hE2;have E3:Hid _:=VB;have E4:Hid _:=Co;have Kb:Hid _:=FV;have SY:Hid _:=VC;have HMI:Hid _:=Ry;have PH:Hid (∀(n a b:Int) (u:World),Calls Tryz.prog 64 #[.int .i64 n,.int .i64 a,.int .i64 b] u fun e w'=>e=.returned (.bool (decide (a<=n/\n<=b)))/\w'=u):=fun n a b u=>lC n a b u;clear hR hE1 hE2 VB Co FV VC Ry hcn hcr
 conv=>arg 2;whnf
 obtain⟨qX,tC,tF,rW,qO,tH,tJ⟩:=xH.o y (Below.refl _ _);obtain⟨Rn,Ro,Rp,Rq,Rs,Rt,Ru,Rw,Rx⟩:=yP.o y (Below.refl _ _);go_wp2_with (first|(go_at_call 67;refine (HMI.o _ D6.o).mono ?_;rintro e z7 ⟨rfl,d7⟩;have D7:Hid (Bw y z7):=D6.o.trans (d7.mono D6.o.size);clear d7)|(go_at_call 66;refine (SY.o _ D5.o).mono ?_;rintro e z6 ⟨rfl,d6⟩;have D6:Hid (Bw y z6):=D5.o.trans (d6.mono D5.o.size);clear d6;obtain⟨qX,tC,tF,rW,qO,tH,tJ⟩:=xH.o _ D6.o)|(go_at_call 65;refine (Kb.o _ (Below.refl _ _)).mono ?_;rintro e z5 ⟨rfl,d5⟩;have D5:Hid (Bw y z5):=d5;clear d5;obtain⟨qX,tC,tF,rW,qO,tH,tJ⟩:=xH.o _ D5.o;obtain⟨Rn,Ro,Rp,Rq,Rs,Rt,Ru,Rw,Rx⟩:=yP.o _ D5.o)|(go_at_call 64;refine (PH.o _ _ _ _).mono ?_;rintro e z1 ⟨rfl,g1⟩;rw[g1];clear g1 z1;(first|rw[E1.o]|rw[E2.o]|rw[E3.o]|rw[E4.o])))
 exact rE.o _ _ rfl D7.o
set_option maxRecDepth 100000 in
theorem aE4 {y:World}{gc nb rb:Nat}{x:Pl.Nd}{va:Option Addr}{vl vc:Nat}{rs sJ qV qW rC rD pM sV:Int}{fa:Option Addr}{fl fc:Nat}(hcn:(uP y nb x va vl vc)) (hcr:(uQ y rb rs sJ qV qW rC rD fa fl fc pM sV)) (hE1:decide (qV<=x.m/\x.m<=qW)=true) (hE2:decide (rC<=x.n/\x.n<=rD)=true) (VB:decide (0<=x.line/\x.line<=1000000)=true) (Co:decide (0<=x.aQ/\x.aQ<=1000000)=true) (FV:∀u:World,Bw y u->Calls Tryz.prog 65 #[.pointer (some ⟨gc,0,none⟩),.agg #[.int .i64 x.k,.int .i64 x.m,.int .i64 x.n,.string x.s,.slice va vl vc,.int .i64 x.line,.int .i64 x.aQ],.int .i64 sJ] u fun e w'=>e=.returned (.bool true)/\Bw u w') (VC:∀u:World,Bw y u->Calls Tryz.prog 66 #[.pointer (some ⟨gc,0,none⟩),.slice va vl vc,.agg #[.int .i64 rs,.int .i64 sJ,.int .i64 qV,.int .i64 qW,.int .i64 rC,.int .i64 rD,.slice fa fl fc,.int .i64 pM,.int .i64 sV]] u fun e w'=>e=.returned (.bool true)/\Bw u w') (Ry:∀u:World,Bw y u->Calls Tryz.prog 67 #[.pointer (some ⟨gc,0,none⟩),.agg #[.int .i64 x.k,.int .i64 x.m,.int .i64 x.n,.string x.s,.slice va vl vc,.int .i64 x.line,.int .i64 x.aQ]] u fun e w'=>e=.returned (.bool true)/\Bw u w') (c1 c2 c6 c7 c8 c9 c10 c11 c12 c13 c14 c15 c16 c17 c18 c19 c20 c21 jY c23 c24 jZ kC kD c28 kF kG c31 c32 jU c34 kH mM c37 mO mP c40 mF kV mG mH mI c46 lQ kQ c49 lS c51 lT c53 lU lV lW lX lY c59 lZ lF lG lH c64 lI lJ lK lL lM c70 mQ c72 mR mU c75 c76 mV mW mX c80 mY mZ:Value) (K:Act->World->Prop) (Q:Exit->Act->World->Prop)
  (hR:∀(s9 s10 s11 s12 s13 s14 s15 s16 s17 s18 s19 s20 s21 s22 s23 s24 s25 s26 s27 s28 s29 s30 s31 s32 s33 Qk s35 Jn Jo Jp Jq Jr Js Jt s43 s44 Ju Jc Aw Jd s49 Je Jf Jg s53 YN Jh Ji Jj Jk Jl Jm:Value) (y':World),Bw y y'->K { tmps:=#[.pointer (some ⟨gc,0,none⟩),c1,c2,.pointer (some ⟨nb,0,none⟩),.bool false,.pointer (some ⟨rb,0,none⟩),c6,c7,c8,s9,s10,s11,s12,s13,s14,s15,s16,s17,s18,s19,s20,s21,s22,s23,s24,s25,s26,s27,s28,s29,s30,s31,s32,s33,Qk,s35,Jn,Jo,Jp,Jq,Jr,Js,Jt,s43,s44,Ju,Jc,Aw,Jd,s49,Je,Jf,Jg,s53,YN,Jh,Ji,Jj,Jk,Jl,Jm,lF,lG,lH,c64,lI,lJ,lK,lL,lM,c70,mQ,c72,mR,mU,c75,c76,mV,mW,mX,c80,mY,mZ],defers:=[] } y') :
  (tT 2).wp Tryz.prog (Exit.then K Q) { tmps:=#[.pointer (some ⟨gc,0,none⟩),c1,c2,.pointer (some ⟨nb,0,none⟩),.bool false,.pointer (some ⟨rb,0,none⟩),c6,c7,c8,c9,c10,c11,c12,c13,c14,c15,c16,c17,c18,c19,c20,c21,jY,c23,c24,jZ,kC,kD,c28,kF,kG,c31,c32,jU,c34,kH,mM,c37,mO,mP,c40,mF,kV,mG,mH,mI,c46,lQ,kQ,c49,lS,c51,lT,c53,lU,lV,lW,lX,lY,c59,lZ,lF,lG,lH,c64,lI,lJ,lK,lL,lM,c70,mQ,c72,mR,mU,c75,c76,mV,mW,mX,c80,mY,mZ],defers:=[] } y:=by
 have rE:Hid _:=hR;have xH:Hid _:=hcn;have yP:Hid _:=hcr;have E1:Hid _:=hE1;have E2:Hid _:=hE2;have E3:Hid _:=VB;have E4:Hid _:=Co;have Kb:Hid _:=FV;have SY:Hid _:=VC;have HMI:Hid _:=Ry;have PH:Hid (∀(n a b:Int) (u:World),Calls Tryz.prog 64 #[.int .i64 n,.int .i64 a,.int .i64 b] u fun e w'=>e=.returned (.bool (decide (a<=n/\n<=b)))/\w'=u):=fun n a b u=>lC n a b u;clear hR hE1 hE2 VB Co FV VC Ry hcn hcr
 conv=>arg 2;whnf
 obtain⟨qX,tC,tF,rW,qO,tH,tJ⟩:=xH.o y (Below.refl _ _);obtain⟨Rn,Ro,Rp,Rq,Rs,Rt,Ru,Rw,Rx⟩:=yP.o y (Below.refl _ _);go_wp2_with (first|(go_at_call 67;refine (HMI.o _ D6.o).mono ?_;rintro e z7 ⟨rfl,d7⟩;have D7:Hid (Bw y z7):=D6.o.trans (d7.mono D6.o.size);clear d7)|(go_at_call 66;refine (SY.o _ D5.o).mono ?_;rintro e z6 ⟨rfl,d6⟩;have D6:Hid (Bw y z6):=D5.o.trans (d6.mono D5.o.size);clear d6;obtain⟨qX,tC,tF,rW,qO,tH,tJ⟩:=xH.o _ D6.o)|(go_at_call 65;refine (Kb.o _ (Below.refl _ _)).mono ?_;rintro e z5 ⟨rfl,d5⟩;have D5:Hid (Bw y z5):=d5;clear d5;obtain⟨qX,tC,tF,rW,qO,tH,tJ⟩:=xH.o _ D5.o;obtain⟨Rn,Ro,Rp,Rq,Rs,Rt,Ru,Rw,Rx⟩:=yP.o _ D5.o)|(go_at_call 64;refine (PH.o _ _ _ _).mono ?_;rintro e z1 ⟨rfl,g1⟩;rw[g1];clear g1 z1;(first|rw[E1.o]|rw[E2.o]|rw[E3.o]|rw[E4.o])))
 exact rE.o _ _ _ _ _ _ _ _ _ _ _ _ _ _ _ _ _ _ _ _ _ _ _ _ _ _ _ _ _ _ _ _ _ _ _ _ _ _ _ _ _ _ _ _ _ _ _ _ _ _ _ _ _ D7.o
set_option maxRecDepth 100000 in
theorem aE5 {lo:Nat}{W0 y:World}{xs:List Pl.Nd}{a:Option Addr}{len cap gc gm nm:Nat}{ob:Option Addr}{oc i nb:Nat}{va:Option Addr}{vl vc:Nat}{l:List Nat}{rb:Nat}{fa:Option Addr}{fl fc lo2:Nat}(hp:Pl.PI xs len i l) (hc:PC lo W0 y xs a len cap gc gm nm (Pl.rV xs i) ob oc i nb va vl vc) (hr:y.heap[rb]?=some (.cells #[.int .i64 (Pl.rl (Pl.nd xs i).k).xO,.int .i64 (Pl.rl (Pl.nd xs i).k).word,.int .i64 (Pl.rl (Pl.nd xs i).k).uZ,.int .i64 (Pl.rl (Pl.nd xs i).k).pQ,.int .i64 (Pl.rl (Pl.nd xs i).k).xP,.int .i64 (Pl.rl (Pl.nd xs i).k).rX,.slice fa fl fc,.int .i64 (Pl.rl (Pl.nd xs i).k).more,.int .i64 (Pl.rl (Pl.nd xs i).k).most] 121 (0,0))) (hrr:Row .i64 lo2 y fa fl fc (Pl.rl (Pl.nd xs i).k).kids) (c1 c2 c6 c7 c8 c9 c10 c11 c12 c13 c14 c15 c16 c17 c18 c19 c20 c21 jY c23 c24 jZ kC kD c28 kF kG c31 c32 jU c34 kH mM c37 mO mP c40 mF kV mG mH mI c46 lQ kQ c49 lS c51 lT c53 lU lV lW lX lY c59 lZ lF lG lH c64 lI lJ lK lL lM c70 mQ c72 mR mU c75 c76 mV mW mX c80 mY mZ:Value) (K:Act->World->Prop) (Q:Exit->Act->World->Prop)
  (hR:∀(tmps:Array Value) (y':World),tmps.getD 4 undef=.bool false->¬Pl.Dx xs i->Bw y y'->Q .ret { tmps:=tmps,defers:=[] } y')
  (hK:∀(s9 s10 s11 s12 s13 s14 s15 s16 s17 s18 s19 s20 s21 s22 s23 s24 s25 s26 s27 s28 s29 s30 s31 s32 s33 Qk s35 Jn Jo Jp Jq Jr Js Jt s43 s44 Ju Jc Aw Jd s49 Je Jf Jg s53 YN Jh Ji Jj Jk Jl Jm:Value) (y':World),Bw y y'->Pl.Dx xs i->K { tmps:=#[.pointer (some ⟨gc,0,none⟩),c1,c2,.pointer (some ⟨nb,0,none⟩),.bool false,.pointer (some ⟨rb,0,none⟩),c6,c7,c8,s9,s10,s11,s12,s13,s14,s15,s16,s17,s18,s19,s20,s21,s22,s23,s24,s25,s26,s27,s28,s29,s30,s31,s32,s33,Qk,s35,Jn,Jo,Jp,Jq,Jr,Js,Jt,s43,s44,Ju,Jc,Aw,Jd,s49,Je,Jf,Jg,s53,YN,Jh,Ji,Jj,Jk,Jl,Jm,lF,lG,lH,c64,lI,lJ,lK,lL,lM,c70,mQ,c72,mR,mU,c75,c76,mV,mW,mX,c80,mY,mZ],defers:=[] } y') :
  (tT 2).wp Tryz.prog (Exit.then K Q) { tmps:=#[.pointer (some ⟨gc,0,none⟩),c1,c2,.pointer (some ⟨nb,0,none⟩),.bool false,.pointer (some ⟨rb,0,none⟩),c6,c7,c8,c9,c10,c11,c12,c13,c14,c15,c16,c17,c18,c19,c20,c21,jY,c23,c24,jZ,kC,kD,c28,kF,kG,c31,c32,jU,c34,kH,mM,c37,mO,mP,c40,mF,kV,mG,mH,mI,c46,lQ,kQ,c49,lS,c51,lT,c53,lU,lV,lW,lX,lY,c59,lZ,lF,lG,lH,c64,lI,lJ,lK,lL,lM,c70,mQ,c72,mR,mU,c75,c76,mV,mW,mX,c80,mY,mZ],defers:=[] } y:=by
 have HP:Hid (Pl.PI xs len i l):=hp;have HC:Hid (PC lo W0 y xs a len cap gc gm nm (Pl.rV xs i) ob oc i nb va vl vc):=hc;obtain⟨x,hx⟩:∃x,x=Pl.nd xs i:=⟨_,rfl⟩;have HX:Hid (x=Pl.nd xs i):=hx;obtain⟨r,hrl⟩:∃r,r=Pl.rl (Pl.nd xs i).k:=⟨_,rfl⟩;have HRL:Hid (r=Pl.rl (Pl.nd xs i).k):=hrl;have HRS:Hid (Pl.RlS r):=by show Pl.RlS r;rw[hrl];exact Pl.UQ _
 rw[<- hrl]at hr hrr;have xH:Hid (uP y nb x va vl vc):=fun u hu=>(hc.keep hu).cells hx;obtain⟨hxk,hxm,hxn,hxl,hxc⟩:=hp.wf.at (i:=i) (by rw[hp.xl];exact hp.hi);have hsx:=hp.sl;rw[<- hx]at hxn hsx;have PG:Hid (x.kids.length=vl):=by show x.kids.length=vl;rw[hx];exact hc.row.1
 obtain⟨D,hD1,hD2⟩:=hc.xG.map;have hgm:gm<y.heap.size:=by
  obtain⟨es,cl,q1,_⟩:=hD1;exact (Array.getElem?_eq_some_iff.1 q1).1
 have HG:Hid (∀u:World,Bw y u->Bw W0 u):=fun u hu=>hc.xG.jR.trans (hu.mono hc.xG.jR.size);have aDx:Hid (∀u:World,Bw y u->Calls Tryz.prog 65 #[.pointer (some ⟨gc,0,none⟩),.agg #[.int .i64 x.k,.int .i64 x.m,.int .i64 x.n,.string x.s,.slice va vl vc,.int .i64 x.line,.int .i64 x.aQ],.int .i64 r.word] u fun e w'=>e=.returned (.bool (Pl.Ka r.word x (Pl.rV xs i)))/\Bw u w'):=fun u hu=>
  Il gc gm nm D (Pl.rV xs i) x va vl vc r.word u (hc.xG.keep hu).cells.2.1 (nI hD1 hu hgm) (Nat.lt_of_lt_of_le hgm hu.size) hD2 hsx hxn (hc.glo.on (HG.o u hu)) (hc.db.below (HG.o u hu)) (hc.pw.below (HG.o u hu))
 have CG:Hid (∀q,q<vl->∃c:Nat,x.kids.getD q 0=(c:Int)/\c<len):=fun q hq=>by
  rw[HX.o];obtain⟨c,h1,h2⟩:=HP.o.kid (q:=q) (by rw[<- HX.o,PG.o];exact hq);exact⟨c,h1,by have:=HP.o.hi;omega⟩
 have Ez:Hid (∀u:World,Bw y u->Calls Tryz.prog 66 #[.pointer (some ⟨gc,0,none⟩),.slice va vl vc,.agg #[.int .i64 r.xO,.int .i64 r.word,.int .i64 r.uZ,.int .i64 r.pQ,.int .i64 r.xP,.int .i64 r.rX,.slice fa fl fc,.int .i64 r.more,.int .i64 r.most]] u fun e w'=>e=.returned (.bool (Pl.uN (Pl.kI r (x.kids.map fun c=>(Pl.nd xs c.toNat).k))))/\Bw u w'):=by
  have key:=fun (u:World) (hu:Bw y u)=>Ij gc a len cap xs va vl vc x.kids r ⟨fa,fl,fc⟩ u (hc.xG.keep hu).cells.1 (hc.JC.keep (HG.o u hu)) (by rw[hx];exact hc.row.keep (HG.o u hu)) (hrr.keep hu) CG.o HRS.o;exact key
 have aDy:Hid (Pl.kI (Pl.rl (Pl.nd xs i).k) (Pl.kinds xs i)->∀u:World,Bw y u->Calls Tryz.prog 67 #[.pointer (some ⟨gc,0,none⟩),.agg #[.int .i64 x.k,.int .i64 x.m,.int .i64 x.n,.string x.s,.slice va vl vc,.int .i64 x.line,.int .i64 x.aQ]] u fun e w'=>e=.returned (.bool (Pl.uN (Pl.MI xs (Pl.pU xs i) x)))/\Bw u w'):=fun hk u hu=>
  FU gc a len cap xs ob i oc (Pl.pU xs i) x va vl vc u (hc.xG.keep hu).cells.1 (hc.xG.keep hu).cells.2.2 (hc.JC.keep (HG.o u hu)) (by rw[hx];exact hc.row.keep (HG.o u hu))
   (fun k4 j2=>by rw[hx]at k4 ⊢;exact hp.par hk k4 (by rw[<- HX.o,PG.o];exact j2))
   (fun k21 j3=>by
    obtain⟨c,h1,h2⟩:=hp.kid (q:=1) (by rw[<- HX.o,PG.o];omega);rw[<- HX.o]at h1;exact⟨c,h1,h2,(hc.xG.keep hu).open h2⟩)
 have HR0:Hid (y.heap[rb]?=some (.cells #[.int .i64 r.xO,.int .i64 r.word,.int .i64 r.uZ,.int .i64 r.pQ,.int .i64 r.xP,.int .i64 r.rX,.slice fa fl fc,.int .i64 r.more,.int .i64 r.most] 121 (0,0))):=hr;obtain⟨B5,hB5⟩:∃B5,B5=Pl.Ka r.word x (Pl.rV xs i):=⟨_,rfl⟩;obtain⟨B6,hB6⟩:∃B6,B6=Pl.uN (Pl.kI r (x.kids.map fun c=>(Pl.nd xs c.toNat).k)):=⟨_,rfl⟩;obtain⟨B7,hB7⟩:∃B7,B7=Pl.uN (Pl.MI xs (Pl.pU xs i) x):=⟨_,rfl⟩;rw[<- hB5]at aDx;rw[<- hB6]at Ez;rw[<- hB7]at aDy;have HB5:Hid (B5=Pl.wdB (Pl.nd xs i) (Pl.rV xs i)):=by show B5=_;rw[hB5,hrl,hx];exact Pl.aAY _ _
 have HB6:Hid (B6=Pl.uN (Pl.kI (Pl.rl (Pl.nd xs i).k) (Pl.kinds xs i))):=by show B6=_;rw[hB6,hrl,hx];rfl
 have HB7:Hid (B7=Pl.uN (Pl.MI xs (Pl.pU xs i) (Pl.nd xs i))):=by show B7=_;rw[hB7,hx]
 have HB1:Hid (decide (r.uZ<=x.m/\x.m<=r.pQ)=decide ((Pl.rl (Pl.nd xs i).k).uZ<=(Pl.nd xs i).m/\(Pl.nd xs i).m<=(Pl.rl (Pl.nd xs i).k).pQ)):=by show decide _=decide _;rw[hrl,hx]
 have HB2:Hid (decide (r.xP<=x.n/\x.n<=r.rX)=decide ((Pl.rl (Pl.nd xs i).k).xP<=(Pl.nd xs i).n/\(Pl.nd xs i).n<=(Pl.rl (Pl.nd xs i).k).rX)):=by show decide _=decide _;rw[hrl,hx]
 have HB3:Hid (decide (0<=x.line/\x.line<=1000000)=Pl.WY (Pl.nd xs i).line):=by show decide _=Pl.WY _;rw[hx];rfl
 have HB4:Hid (decide (0<=x.aQ/\x.aQ<=1000000)=Pl.WY (Pl.nd xs i).aQ):=by show decide _=Pl.WY _;rw[hx];rfl
 clear hB5 hB6 hB7 hrl hr hrr hp hc hD1 hD2 hgm hx hxk hxm hxn hxl hxc hsx CG HRL HRS HG;obtain⟨rs,sJ,qV,qW,rC,rD,rk,pM,sV⟩:=r;have yP:Hid (uQ y rb rs sJ qV qW rC rD fa fl fc pM sV):=fun u hu=>by
  have f:=fun j=>cell_of_row u rb j _ 121 (0,0) ((hu.block _ (Array.getElem?_eq_some_iff.1 HR0.o).1).trans HR0.o);exact⟨f 0,f 1,f 2,f 3,f 4,f 5,f 6,f 7,f 8⟩
 have Kb:Hid (∀u:World,Bw y u->Calls Tryz.prog 65 #[.pointer (some ⟨gc,0,none⟩),.agg #[.int .i64 x.k,.int .i64 x.m,.int .i64 x.n,.string x.s,.slice va vl vc,.int .i64 x.line,.int .i64 x.aQ],.int .i64 sJ] u fun e w'=>e=.returned (.bool B5)/\Bw u w'):=aDx.o;have SY:Hid (∀u:World,Bw y u->Calls Tryz.prog 66 #[.pointer (some ⟨gc,0,none⟩),.slice va vl vc,.agg #[.int .i64 rs,.int .i64 sJ,.int .i64 qV,.int .i64 qW,.int .i64 rC,.int .i64 rD,.slice fa fl fc,.int .i64 pM,.int .i64 sV]] u fun e w'=>e=.returned (.bool B6)/\Bw u w'):=Ez.o;simp only at HB1 HB2;obtain⟨B1,hB1⟩:∃B1,B1=decide (qV<=x.m/\x.m<=qW):=⟨_,rfl⟩;obtain⟨B2,hB2⟩:∃B2,B2=decide (rC<=x.n/\x.n<=rD):=⟨_,rfl⟩;obtain⟨B3,hB3⟩:∃B3,B3=decide (0<=x.line/\x.line<=1000000):=⟨_,rfl⟩;obtain⟨B4,hB4⟩:∃B4,B4=decide (0<=x.aQ/\x.aQ<=1000000):=⟨_,rfl⟩;have E1:Hid (decide (qV<=x.m/\x.m<=qW)=B1):=hB1.symm;have E2:Hid (decide (rC<=x.n/\x.n<=rD)=B2):=hB2.symm;have E3:Hid (decide (0<=x.line/\x.line<=1000000)=B3):=hB3.symm;have E4:Hid (decide (0<=x.aQ/\x.aQ<=1000000)=B4):=hB4.symm;rw[<- hB1]at HB1;rw[<- hB2]at HB2;rw[<- hB3]at HB3;rw[<- hB4]at HB4;clear hB1 hB2 hB3 hB4 aDx Ez HR0;cases B1
 ·exact aEX xH.o yP.o E1.o c1 c2 c6 c7 c8 c9 c10 c11 c12 c13 c14 c15 c16 c17 c18 c19 c20 c21 jY c23 c24 jZ kC kD c28 kF kG c31 c32 jU c34 kH mM c37 mO mP c40 mF kV mG mH mI c46 lQ kQ c49 lS c51 lT c53 lU lV lW lX lY c59 lZ lF lG lH c64 lI lJ lK lL lM c70 mQ c72 mR mU c75 c76 mV mW mX c80 mY mZ K Q (fun tmps y' h1 h2=>hR tmps y' h1 (fun S=>by exact absurd (HB1.o.trans (decide_eq_true S.mark)) (by decide)) h2)
 cases B2
 ·exact aEY xH.o yP.o E1.o E2.o c1 c2 c6 c7 c8 c9 c10 c11 c12 c13 c14 c15 c16 c17 c18 c19 c20 c21 jY c23 c24 jZ kC kD c28 kF kG c31 c32 jU c34 kH mM c37 mO mP c40 mF kV mG mH mI c46 lQ kQ c49 lS c51 lT c53 lU lV lW lX lY c59 lZ lF lG lH c64 lI lJ lK lL lM c70 mQ c72 mR mU c75 c76 mV mW mX c80 mY mZ K Q (fun tmps y' h1 h2=>hR tmps y' h1 (fun S=>by exact absurd (HB2.o.trans (decide_eq_true S.num)) (by decide)) h2)
 cases B3
 ·exact aEZ xH.o yP.o E1.o E2.o E3.o c1 c2 c6 c7 c8 c9 c10 c11 c12 c13 c14 c15 c16 c17 c18 c19 c20 c21 jY c23 c24 jZ kC kD c28 kF kG c31 c32 jU c34 kH mM c37 mO mP c40 mF kV mG mH mI c46 lQ kQ c49 lS c51 lT c53 lU lV lW lX lY c59 lZ lF lG lH c64 lI lJ lK lL lM c70 mQ c72 mR mU c75 c76 mV mW mX c80 mY mZ K Q (fun tmps y' h1 h2=>hR tmps y' h1 (fun S=>by exact absurd (HB3.o.trans S.line) (by decide)) h2)
 cases B4
 ·exact aE0 xH.o yP.o E1.o E2.o E3.o E4.o c1 c2 c6 c7 c8 c9 c10 c11 c12 c13 c14 c15 c16 c17 c18 c19 c20 c21 jY c23 c24 jZ kC kD c28 kF kG c31 c32 jU c34 kH mM c37 mO mP c40 mF kV mG mH mI c46 lQ kQ c49 lS c51 lT c53 lU lV lW lX lY c59 lZ lF lG lH c64 lI lJ lK lL lM c70 mQ c72 mR mU c75 c76 mV mW mX c80 mY mZ K Q (fun tmps y' h1 h2=>hR tmps y' h1 (fun S=>by exact absurd (HB4.o.trans S.aQ) (by decide)) h2)
 cases B5
 ·exact aE1 xH.o yP.o E1.o E2.o E3.o E4.o Kb.o c1 c2 c6 c7 c8 c9 c10 c11 c12 c13 c14 c15 c16 c17 c18 c19 c20 c21 jY c23 c24 jZ kC kD c28 kF kG c31 c32 jU c34 kH mM c37 mO mP c40 mF kV mG mH mI c46 lQ kQ c49 lS c51 lT c53 lU lV lW lX lY c59 lZ lF lG lH c64 lI lJ lK lL lM c70 mQ c72 mR mU c75 c76 mV mW mX c80 mY mZ K Q (fun tmps y' h1 h2=>hR tmps y' h1 (fun S=>by exact absurd (HB5.o.trans S.word) (by decide)) h2)
 cases B6
 ·exact aE2 xH.o yP.o E1.o E2.o E3.o E4.o Kb.o SY.o c1 c2 c6 c7 c8 c9 c10 c11 c12 c13 c14 c15 c16 c17 c18 c19 c20 c21 jY c23 c24 jZ kC kD c28 kF kG c31 c32 jU c34 kH mM c37 mO mP c40 mF kV mG mH mI c46 lQ kQ c49 lS c51 lT c53 lU lV lW lX lY c59 lZ lF lG lH c64 lI lJ lK lL lM c70 mQ c72 mR mU c75 c76 mV mW mX c80 mY mZ K Q (fun tmps y' h1 h2=>hR tmps y' h1 (fun S=>by exact absurd S.kids (Pl.wD HB6.o.symm)) h2)
 have HKI:Hid (Pl.kI (Pl.rl (Pl.nd xs i).k) (Pl.kinds xs i)):=Pl.vK HB6.o.symm;have HMI:Hid (∀u:World,Bw y u->Calls Tryz.prog 67 #[.pointer (some ⟨gc,0,none⟩),.agg #[.int .i64 x.k,.int .i64 x.m,.int .i64 x.n,.string x.s,.slice va vl vc,.int .i64 x.line,.int .i64 x.aQ]] u fun e w'=>e=.returned (.bool B7)/\Bw u w'):=aDy.o HKI.o;clear aDy;cases B7
 ·exact aE3 xH.o yP.o E1.o E2.o E3.o E4.o Kb.o SY.o HMI.o c1 c2 c6 c7 c8 c9 c10 c11 c12 c13 c14 c15 c16 c17 c18 c19 c20 c21 jY c23 c24 jZ kC kD c28 kF kG c31 c32 jU c34 kH mM c37 mO mP c40 mF kV mG mH mI c46 lQ kQ c49 lS c51 lT c53 lU lV lW lX lY c59 lZ lF lG lH c64 lI lJ lK lL lM c70 mQ c72 mR mU c75 c76 mV mW mX c80 mY mZ K Q (fun tmps y' h1 h2=>hR tmps y' h1 (fun S=>by exact Pl.wD HB7.o.symm ⟨S.asn,S.void,S.els⟩) h2)
 have HY:Hid (Pl.Dx xs i):=by
  have m:=Pl.vK HB7.o.symm;exact⟨of_decide_eq_true HB1.o.symm,of_decide_eq_true HB2.o.symm,HB3.o.symm,HB4.o.symm,HB5.o.symm,HKI.o,m.asn,m.void,m.els⟩
 exact aE4 xH.o yP.o E1.o E2.o E3.o E4.o Kb.o SY.o HMI.o c1 c2 c6 c7 c8 c9 c10 c11 c12 c13 c14 c15 c16 c17 c18 c19 c20 c21 jY c23 c24 jZ kC kD c28 kF kG c31 c32 jU c34 kH mM c37 mO mP c40 mF kV mG mH mI c46 lQ kQ c49 lS c51 lT c53 lU lV lW lX lY c59 lZ lF lG lH c64 lI lJ lK lL lM c70 mQ c72 mR mU c75 c76 mV mW mX c80 mY mZ K Q (fun s9 s10 s11 s12 s13 s14 s15 s16 s17 s18 s19 s20 s21 s22 s23 s24 s25 s26 s27 s28 s29 s30 s31 s32 s33 Qk s35 Jn Jo Jp Jq Jr Js Jt s43 s44 Ju Jc Aw Jd s49 Je Jf Jg s53 YN Jh Ji Jj Jk Jl Jm y' h2=>hK s9 s10 s11 s12 s13 s14 s15 s16 s17 s18 s19 s20 s21 s22 s23 s24 s25 s26 s27 s28 s29 s30 s31 s32 s33 Qk s35 Jn Jo Jp Jq Jr Js Jt s43 s44 Ju Jc Aw Jd s49 Je Jf Jg s53 YN Jh Ji Jj Jk Jl Jm y' h2 HY.o)
theorem PC.alias {lo:Nat}{W0 y Y2:World}{xs:List Pl.Nd}{a:Option Addr}{len cap gc gm nm nm2:Nat}{al al2:List ByteArray}{ob:Option Addr}{oc i nb:Nat}{va:Option Addr}{vl vc:Nat}{D:DataW Unit}(h:PC lo W0 y xs a len cap gc gm nm al ob oc i nb va vl vc) (hgr:y.grownBy Y2 (some gm)) (hm:Y2.ownsMap Tryz.prog 9 unitElem gm nm2 D) (hK:wQ D al2):PC lo W0 Y2 xs a len cap gc gm nm2 al2 ob oc i nb va vl vc:=by
 obtain⟨D0,⟨es,cl,q1,q2⟩,_⟩:=h.xG.map;have ot:∀ {b:Nat} {cs:Array Value} {t:TypeId} {fr:Nat × Nat},y.heap[b]?=some (.cells cs t fr)->Y2.heap[b]?=some (.cells cs t fr):=fun {b cs t fr} hb=>by
  rw[hgr.block b (Array.getElem?_eq_some_iff.1 hb).1 (by
   intro e;simp only[Option.some.injEq]at e;rw[e,q1]at hb;cases hb)]
  exact hb
 refine⟨⟨h.xG.jR.grown hgr h.xG.jR.size (fun k hk=>by cases hk;exact h.xG.gmb),h.xG.gcb,h.xG.gmb,ot h.xG.blk,⟨D,hm,hK⟩,?_⟩,ot h.nd,h.nbb,h.row,h.JC,h.glo,h.db,h.pw⟩;refine⟨h.xG.own.1,?_⟩;rcases h.xG.own.2 with q|⟨g,cp,cur,h0,hlo,hg,r⟩
 ·exact .inl q
 ·exact .inr ⟨g,cp,cur,h0,hlo,ot hg,r⟩
theorem PC.aE6 {lo:Nat}{W0 y:World}{xs:List Pl.Nd}{a:Option Addr}{len cap gc gm nm:Nat}{al:List ByteArray}{ob:Option Addr}{oc i nb:Nat}{va:Option Addr}{vl vc:Nat}(h:PC lo W0 y xs a len cap gc gm nm al ob oc i nb va vl vc):gm<y.heap.size:=by
 obtain⟨D0,⟨es,cl,q1,q2⟩,_⟩:=h.xG.map;exact (Array.getElem?_eq_some_iff.1 q1).1
set_option maxRecDepth 100000 in
theorem aE7 {lo:Nat}{W0 y:World}{xs:List Pl.Nd}{a:Option Addr}{len cap gc gm nm:Nat}{ob:Option Addr}{oc i nb:Nat}{va:Option Addr}{vl vc:Nat}{l:List Nat}{rb:Nat}(hp:Pl.PI xs len i l) (hc:PC lo W0 y xs a len cap gc gm nm (Pl.rV xs i) ob oc i nb va vl vc) (hnm:nm<=4000) (c1 c2 c6 c7 c8 c9 c10 c11 c12 c13 c14 c15 c16 c17 c18 c19 c20 c21 jY c23 c24 jZ kC kD c28 kF kG c31 c32 jU c34 kH mM c37 mO mP c40 mF kV mG mH mI c46 lQ kQ c49 lS c51 lT c53 lU lV lW lX lY c59 lZ lF lG lH c64 lI lJ lK lL lM c70 mQ c72 mR mU c75 c76 mV mW mX c80 mY mZ:Value) (K:Act->World->Prop) (Q:Exit->Act->World->Prop)
  (hK:∀(s61 s62 s63 s64 s65 s66 s67 s68 s69 s70:Value) (nm2:Nat) (y':World),nm2<=nm+1->PC lo W0 y' xs a len cap gc gm nm2 (Pl.rV xs (i+1)) ob oc i nb va vl vc->K { tmps:=#[.pointer (some ⟨gc,0,none⟩),c1,c2,.pointer (some ⟨nb,0,none⟩),.bool false,.pointer (some ⟨rb,0,none⟩),c6,c7,c8,c9,c10,c11,c12,c13,c14,c15,c16,c17,c18,c19,c20,c21,jY,c23,c24,jZ,kC,kD,c28,kF,kG,c31,c32,jU,c34,kH,mM,c37,mO,mP,c40,mF,kV,mG,mH,mI,c46,lQ,kQ,c49,lS,c51,lT,c53,lU,lV,lW,lX,lY,c59,lZ,s61,s62,s63,s64,s65,s66,s67,s68,s69,s70,mQ,c72,mR,mU,c75,c76,mV,mW,mX,c80,mY,mZ],defers:=[] } y') :
  (tT 4).wp Tryz.prog (Exit.then K Q) { tmps:=#[.pointer (some ⟨gc,0,none⟩),c1,c2,.pointer (some ⟨nb,0,none⟩),.bool false,.pointer (some ⟨rb,0,none⟩),c6,c7,c8,c9,c10,c11,c12,c13,c14,c15,c16,c17,c18,c19,c20,c21,jY,c23,c24,jZ,kC,kD,c28,kF,kG,c31,c32,jU,c34,kH,mM,c37,mO,mP,c40,mF,kV,mG,mH,mI,c46,lQ,kQ,c49,lS,c51,lT,c53,lU,lV,lW,lX,lY,c59,lZ,lF,lG,lH,c64,lI,lJ,lK,lL,lM,c70,mQ,c72,mR,mU,c75,c76,mV,mW,mX,c80,mY,mZ],defers:=[] } y:=by
 have oC:Hid _:=hK;have HC:Hid (PC lo W0 y xs a len cap gc gm nm (Pl.rV xs i) ob oc i nb va vl vc):=hc;clear hK
 conv=>arg 2;whnf
 obtain⟨x,hx⟩:∃x,x=Pl.nd xs i:=⟨_,rfl⟩;have HX:Hid (x=Pl.nd xs i):=hx;obtain⟨qX,tC,tF,rW,qO,tH,tJ⟩:=hc.cells hx;by_cases k12:x.k=12
 rotate_left
 ·have aDi:(x.k == 12)=false:=by simpa using k12
  have HF:Hid (PC lo W0 y xs a len cap gc gm nm (Pl.rV xs (i+1)) ob oc i nb va vl vc):=by
   have e:Pl.rV xs (i+1)=Pl.rV xs i:=by
    show (if (Pl.nd xs i).k=12 then Pl.rV xs i++[(Pl.nd xs i).s] else Pl.rV xs i)=_;rw[if_neg (by rw[<- hx];exact k12)]
   show PC _ _ _ _ _ _ _ _ _ _ (Pl.rV xs (i+1)) _ _ _ _ _ _ _;rw[e];exact hc
  clear k12 hp hc hx;go_wp2_with fail
  exact oC.o _ _ _ _ _ _ _ _ _ _ nm _ (by omega) HF.o
 have aDi:(x.k == 12)=true:=by simpa using k12
 have hsx:=hp.sl;rw[<- hx]at hsx;have hsm:x.s.size<=maxLen:=by unfold maxLen;omega
 obtain⟨cc0,cc1,cc2⟩:=hc.xG.cells;obtain⟨D,hD1,hD2⟩:=hc.xG.map;obtain⟨Y2,hup,hown2,aE8⟩:=(nI hD1 (Below.drew (Below.refl y.heap.size y)) hc.aE6).update Cn Tryz.underlying72 (by unfold maxLen;omega) (keyOf_string_mk Tryz.underlying9 hsm) (unitElem_mk);change (Instr.mapUpdate 72 (.map (some gm)) (.string x.s) (.agg #[])).run Tryz.prog y.drew=_ at hup;have HF:Hid (PC lo W0 Y2 xs a len cap gc gm (nm+1) (Pl.rV xs (i+1)) ob oc i nb va vl vc):=by
  have e:Pl.rV xs (i+1)=Pl.rV xs i++[x.s]:=by
   show (if (Pl.nd xs i).k=12 then Pl.rV xs i++[(Pl.nd xs i).s] else Pl.rV xs i)=_;rw[if_pos (by rw[<- hx];exact k12),<- hx]
  show PC _ _ _ _ _ _ _ _ _ _ (Pl.rV xs (i+1)) _ _ _ _ _ _ _;rw[e];exact (hc.keep (Below.drew (Below.refl y.heap.size y))).alias aE8 hown2 (hD2.put _ _)
 clear k12 hp hc hx hsx hsm hD1 hD2 hown2 aE8;go_upto_region 5 with fail
 go_region
 all_goals
  go_wp2_with fail
  exact oC.o _ _ _ _ _ _ _ _ _ _ (nm+1) _ (Nat.le_refl _) HF.o
def lD (gc nb:Nat) (ob:Option Addr) (i oc:Nat) (x:Pl.Nd) (va:Option Addr) (vl vc:Nat) (b:Bool) (c1 c2 c5 c6 c7 c8 c9 c10 c11 c12 c13 c14 c15 c16 c17 c18 c19 c20 c21 jY c23 c24 jZ kC kD c28 kF kG c31 c32 jU c34 kH mM c37 mO mP c40 mF kV mG mH mI c46 lQ kQ c49 lS c51 lT c53 lU lV lW lX lY c59 lZ lF lG lH c64 lI lJ lK lL lM c70:Value) (H G cp:Nat) (L:Array Bool):Act:={ tmps:=#[.pointer (some ⟨gc,0,none⟩),c1,c2,.pointer (some ⟨nb,0,none⟩),.bool false,c5,c6,c7,c8,c9,c10,c11,c12,c13,c14,c15,c16,c17,c18,c19,c20,c21,jY,c23,c24,jZ,kC,kD,c28,kF,kG,c31,c32,jU,c34,kH,mM,c37,mO,mP,c40,mF,kV,mG,mH,mI,c46,lQ,kQ,c49,lS,c51,lT,c53,lU,lV,lW,lX,lY,c59,lZ,lF,lG,lH,c64,lI,lJ,lK,lL,lM,c70,sl L 0 (.pointer (some ⟨gc,0,none⟩)),sl L 1 (.pointer (some ⟨gc,0,none⟩)),sl L 2 (.pointer (some ⟨gc,0,none⟩)),sl L 3 (.pointer (some ⟨gc,2,none⟩)),sl L 4 (.slice ob i oc),sl L 5 (.pointer (some ⟨gc,0,none⟩)),sl L 6 (.agg #[.int .i64 x.k,.int .i64 x.m,.int .i64 x.n,.string x.s,.slice va vl vc,.int .i64 x.line,.int .i64 x.aQ]),sl L 7 (.bool b),sl L 8 (.slice (some ⟨H,0,none⟩) 1 1),sl L 9 (.slice (some ⟨G,0,none⟩) (i+1) cp),sl L 10 (.pointer (some ⟨gc,0,none⟩)),sl L 11 (.pointer (some ⟨gc,2,none⟩))],defers:=[] }
def ZQ (y:World) (gc:Nat) (ob:Option Addr) (i oc:Nat) (b:Bool) (B:Nat) (o:List Bool) (H G cp:Nat) (L:Array Bool) (w:World):Prop:=
 (up L 7=false->w=y)/\(up L 7=true->up L 8=false->Bw y w)/\(up L 8=true->up L 9=false->∃w1:World,Bw y w1/\w1.heap.size=H/\w=w1.alloc (.cells #[.bool b] 4))/\(up L 9=true->∃w2:World,w2.ownsRow B 4 1 (.slice (some ⟨G,0,none⟩) (i+1) cp) (i+1) ((o++[b]).map Value.bool)/\y.grownBy w2 (Value.slice ob i oc).ownBlock/\((Value.slice ob i oc).ownBlock=some G\/y.heap.size<=G)/\G<w2.heap.size/\(up L 12=false->w=w2)/\(up L 12=true->w=w2.setCell ⟨gc,2,none⟩ (.slice (some ⟨G,0,none⟩) (i+1) cp)))
theorem ZQ.keep {y:World}{gc:Nat}{ob:Option Addr}{i oc:Nat}{b:Bool}{B:Nat}{o:List Bool}{H G cp:Nat}{L:Array Bool}{w:World}(h:ZQ y gc ob i oc b B o H G cp L w){k:Nat}(hk:k<L.size) (n1:k≠7) (n2:k≠8) (n3:k≠9) (n4:k≠12):ZQ y gc ob i oc b B o H G cp (L.setIfInBounds k true) w:=by
 unfold ZQ at h ⊢;rw[aP hk,aP hk,aP hk,aP hk,if_neg n1,if_neg n2,if_neg n3,if_neg n4];exact h
theorem ZQ.early {y:World}{gc:Nat}{ob:Option Addr}{i oc:Nat}{b:Bool}{B:Nat}{o:List Bool}{H G cp:Nat}{L:Array Bool}{w:World}(h:ZQ y gc ob i oc b B o H G cp L w) (n:up L 9=false){g k:Nat}{v:Value}(hc:y.cell? ⟨g,k,none⟩=some v):w.cell? ⟨g,k,none⟩=some v:=by
 cases q:up L 7
 ·rw[h.1 q];exact hc
 ·cases q2:up L 8
  ·exact uJ (h.2.1 q q2) hc
  ·obtain⟨w1,hb,_,rfl⟩:=h.2.2.1 q2 n;exact uJ (hb.trans ((aA _ _).mono hb.size)) hc
theorem FW {y w1 w2:World}{row:Option Nat}(hb:Bw y w1) (hg:w1.grownBy w2 row):y.grownBy w2 row:=
 ⟨hg.os.trans hb.os,hg.tape.trans hb.tape,hg.output.trans hb.output,Nat.le_trans hb.size hg.size,fun k hk hne=>(hg.block k (Nat.lt_of_lt_of_le hk hb.size) hne).trans (hb.block k hk)⟩
theorem GJ.far {W0:World}{a:Option Addr}{len cap gc gm nm:Nat}{al:List ByteArray}{ob:Option Addr}{oc i:Nat}{o:List Bool}{y w2:World}(h:GJ W0 a len cap gc gm nm al ob oc i o y) (hg:y.grownBy w2 (Value.slice ob i oc).ownBlock){g:Nat}{ob2:Obj}(hb:y.heap[g]?=some ob2) (hn:∀cs,ob2≠.cells cs 4 (0,0)):w2.heap[g]?=some ob2:=by
 rw[hg.block g (Array.getElem?_eq_some_iff.1 hb).1 (by
  intro e;rcases h.own.2 with ⟨q,_⟩|⟨g',cp,cur,h0,hlo,hgg,r⟩
  ·rw[q]at e;cases e
  ·rw[h0]at e;simp only[Value.ownBlock,Option.some.injEq]at e;rw[e,hgg]at hb;cases hb;exact hn _ rfl)]
 exact hb
theorem GJ.box {W0:World}{a:Option Addr}{len cap gc gm nm:Nat}{al:List ByteArray}{ob:Option Addr}{oc i:Nat}{o:List Bool}{y w2:World}(h:GJ W0 a len cap gc gm nm al ob oc i o y) (hg:y.grownBy w2 (Value.slice ob i oc).ownBlock):w2.heap[gc]?=some (.cells #[.slice a len cap,.map (some gm),.slice ob i oc] 74 (0,0)):=
 h.far hg h.blk (fun cs e=>by simp only[Obj.cells.injEq]at e;exact absurd e.2.1 (by decide))
theorem GJ.grow {W0:World}{a:Option Addr}{len cap gc gm nm:Nat}{al:List ByteArray}{ob:Option Addr}{oc i:Nat}{o:List Bool}{y w2:World}(h:GJ W0 a len cap gc gm nm al ob oc i o y){G cp:Nat}{b:Bool}(hg:y.grownBy w2 (Value.slice ob i oc).ownBlock) (hown:w2.ownsRow W0.heap.size 4 1 (.slice (some ⟨G,0,none⟩) (i+1) cp) (i+1) ((o++[b]).map Value.bool)):GJ W0 a len cap gc gm nm al (some ⟨G,0,none⟩) cp (i+1) (o++[b]) (w2.setCell ⟨gc,2,none⟩ (.slice (some ⟨G,0,none⟩) (i+1) cp)):=by
 have hbx:=h.box hg;obtain⟨cur,pI⟩:=lN hown;have hGc:G≠gc:=fun e=>by
  rw[e,hbx]at pI;simp only[Option.some.injEq,Obj.cells.injEq]at pI;exact absurd pI.2.1 (by decide)
 obtain⟨D,⟨es,cl,q1,q2⟩,hK⟩:=h.map;have hgm:=h.far hg q1 (fun cs e=>by cases e);have hmc:gm≠gc:=fun e=>by rw[e,hbx]at hgm;cases hgm
 refine⟨(h.jR.grown hg h.jR.size (fun k hk=>(h.own.lt k hk).1)).setCell h.gcb _,h.gcb,h.gmb,?_,⟨D,⟨es,cl,?_,q2⟩,hK⟩,?_⟩
 ·rw[heap_setCell_same w2 gc 2 _ 74 _ hbx];rfl
 ·rw[heap_setCell_other w2 ⟨gc,2,none⟩ _ _ hmc];exact hgm
 ·exact rR hown (heap_setCell_other w2 ⟨gc,2,none⟩ _ _ hGc)
set_option maxRecDepth 100000 in
theorem aE9 {lo:Nat}{W0 y:World}{xs:List Pl.Nd}{a:Option Addr}{len cap gc gm nm:Nat}{ob:Option Addr}{oc ni nb:Nat}{va:Option Addr}{vl vc:Nat}{l:List Nat}{al:List ByteArray}(hp:Pl.PI xs len ni l) (hc:PC lo W0 y xs a len cap gc gm nm al ob oc ni nb va vl vc) (hok:Pl.Dx xs ni) (c1 c2 c5 c6 c7 c8 c9 c10 c11 c12 c13 c14 c15 c16 c17 c18 c19 c20 c21 jY c23 c24 jZ kC kD c28 kF kG c31 c32 jU c34 kH mM c37 mO mP c40 mF kV mG mH mI c46 lQ kQ c49 lS c51 lT c53 lU lV lW lX lY c59 lZ lF lG lH c64 lI lJ lK lL lM c70:Value) (K:Act->World->Prop) (Q:Exit->Act->World->Prop)
  (hK:∀(s71 s72 s73 s74 s75 s76 s77 s78 s79 s80 s81 s82:Value) (ob2:Option Addr) (oc2:Nat) (y':World),GJ W0 a len cap gc gm nm al ob2 oc2 (ni+1) (Pl.pU xs (ni+1)) y'->K { tmps:=#[.pointer (some ⟨gc,0,none⟩),c1,c2,.pointer (some ⟨nb,0,none⟩),.bool false,c5,c6,c7,c8,c9,c10,c11,c12,c13,c14,c15,c16,c17,c18,c19,c20,c21,jY,c23,c24,jZ,kC,kD,c28,kF,kG,c31,c32,jU,c34,kH,mM,c37,mO,mP,c40,mF,kV,mG,mH,mI,c46,lQ,kQ,c49,lS,c51,lT,c53,lU,lV,lW,lX,lY,c59,lZ,lF,lG,lH,c64,lI,lJ,lK,lL,lM,c70,s71,s72,s73,s74,s75,s76,s77,s78,s79,s80,s81,s82],defers:=[] } y') :
  (tT 6).wp Tryz.prog (Exit.then K Q) { tmps:=#[.pointer (some ⟨gc,0,none⟩),c1,c2,.pointer (some ⟨nb,0,none⟩),.bool false,c5,c6,c7,c8,c9,c10,c11,c12,c13,c14,c15,c16,c17,c18,c19,c20,c21,jY,c23,c24,jZ,kC,kD,c28,kF,kG,c31,c32,jU,c34,kH,mM,c37,mO,mP,c40,mF,kV,mG,mH,mI,c46,lQ,kQ,c49,lS,c51,lT,c53,lU,lV,lW,lX,lY,c59,lZ,lF,lG,lH,c64,lI,lJ,lK,lL,lM,c70,undef,undef,undef,undef,undef,undef,undef,undef,undef,undef,undef,undef],defers:=[] } y:=by
 have oC:Hid _:=hK;have HC:Hid (PC lo W0 y xs a len cap gc gm nm al ob oc ni nb va vl vc):=hc;clear hK
 conv=>arg 2;whnf
 obtain⟨x,hx⟩:∃x,x=Pl.nd xs ni:=⟨_,rfl⟩;obtain⟨b,hb⟩:∃b,b=Pl.GG (Pl.pU xs ni) x:=⟨_,rfl⟩;have PG:Hid ((Pl.nd xs ni).kids.length=vl):=hc.row.1;have HOP:Hid (Pl.pU xs (ni+1)=Pl.pU xs ni++[b]):=by show Pl.pU xs ni++[Pl.GG (Pl.pU xs ni) (Pl.nd xs ni)]=_;rw[hb,hx]
 have xI:Hid (∀u:World,Bw y u->Calls Tryz.prog 68 #[.pointer (some ⟨gc,0,none⟩),.agg #[.int .i64 x.k,.int .i64 x.m,.int .i64 x.n,.string x.s,.slice va vl vc,.int .i64 x.line,.int .i64 x.aQ]] u fun e w'=>e=.returned (.bool b)/\Bw u w'):=fun u hu=>by
  rw[hb];refine Ik gc ob ni oc (Pl.pU xs ni) x va vl vc u (hc.xG.keep hu).cells.2.2 (by rw[hx];exact hc.row.keep (hc.xG.jR.trans (hu.mono hc.xG.jR.size))) (fun hl=>?_);rw[hx]at hl ⊢;have h1:=hp.last hok.kids hl;rw[PG.o]at h1;obtain⟨c,c1,c2⟩:=hp.kid (q:=vl-1) (by rw[PG.o];omega);exact⟨c,h1,c1,c2,(hc.xG.keep hu).open c2⟩
 have hi4:ni<4000:=by have:=hp.hi;have:=hp.l4;omega
 obtain⟨i0,hi0,hz0,hz1,hz2⟩:=info_parts (P:=Tryz.prog) (e:=4) (z:=.bool false) (size:=1) (bytes:=1) (by kernel_rfl);have hcd:=hc.keep (Below.drew (Below.refl y.heap.size y));obtain⟨dn0,dn1,dn2,dn3,dn4,dn5,dn6⟩:=hcd.cells hx;have d2:=hcd.xG.cells.2.2;have HCK:Hid (GJ W0 a len cap gc gm nm al ob oc ni (Pl.pU xs ni) y.drew):=hcd.xG;have HO:Hid (y.drew.ownsRow W0.heap.size 4 1 (.slice ob ni oc) ni ((Pl.pU xs ni).map Value.bool)):=hcd.xG.own;have HBL:Hid (Bw W0 y.drew):=hcd.xG.jR;clear hcd hc hp hok hx hb PG;refine wp_region_any (by kernel_rfl) ?_;change wpAny _ _ _ _ _ _ _ (World.drew _);refine Ee (fun L a w=>∃H G cp,a=lD gc nb ob ni oc x va vl vc b c1 c2 c5 c6 c7 c8 c9 c10 c11 c12 c13 c14 c15 c16 c17 c18 c19 c20 c21 jY c23 c24 jZ kC kD c28 kF kG c31 c32 jU c34 kH mM c37 mO mP c40 mF kV mG mH mI c46 lQ kQ c49 lS c51 lT c53 lU lV lW lX lY c59 lZ lF lG lH c64 lI lJ lK lL lM c70 H G cp L/\ZQ y.drew gc ob ni oc b W0.heap.size (Pl.pU xs ni) H G cp L w) ?done (by kernel_rfl) ?step _ 13 _ _ (by kernel_rfl) ?init (by decide)
 case init=>exact⟨0,0,0,by simp only[lD,aBc (nL _ _)],fun _=>rfl,fun q=>absurd (q.symm.trans (nL _ _)) (by decide),fun q=>absurd (q.symm.trans (nL _ _)) (by decide),fun q=>absurd (q.symm.trans (nL _ _)) (by decide)⟩
 case step=>
  intro L act w i o hI hlt hs nl hC hd ho K hK;obtain⟨H,G,cp,rfl,hW⟩:=hI;have aBd:i<13:=(Array.getElem?_eq_some_iff.1 ho).1;have hD:=fun k m=>hd {on:=k,ground:=.data} m rfl;rcases (show i=0\/i=1\/i=2\/i=3\/i=4\/i=5\/i=6\/i=7\/i=8\/i=9\/i=10\/i=11\/i=12 by omega) with rfl|rfl|rfl|rfl|rfl|rfl|rfl|rfl|rfl|rfl|rfl|rfl|rfl<;>(change some _=some o at ho;cases ho)
  ·simp only[lD]
   go_simp
   exact hK _ _ ⟨H,G,cp,by simp only[lD,kX hlt,reduceIte,Nat.reduceEqDiff];try rfl,(hW.keep hlt (by decide) (by decide) (by decide) (by decide))⟩
  ·simp only[lD]
   go_simp
   exact hK _ _ ⟨H,G,cp,by simp only[lD,kX hlt,reduceIte,Nat.reduceEqDiff];try rfl,(hW.keep hlt (by decide) (by decide) (by decide) (by decide))⟩
  ·have q1:up L 1=true:=hD 1 (by simp);simp only[lD,aN q1]
   go_simp
   exact hK _ _ ⟨H,G,cp,by simp only[lD,kX hlt,aN q1,reduceIte,Nat.reduceEqDiff];try rfl,(hW.keep hlt (by decide) (by decide) (by decide) (by decide))⟩
  ·have q2:up L 2=true:=hD 2 (by simp);simp only[lD,aN q2]
   go_simp
   exact hK _ _ ⟨H,G,cp,by simp only[lD,kX hlt,aN q2,reduceIte,Nat.reduceEqDiff];try rfl,(hW.keep hlt (by decide) (by decide) (by decide) (by decide))⟩
  ·have q3:up L 3=true:=hD 3 (by simp);have n9:up L 9=false:=hC.no nl 9 rfl (by kernel_rfl);have cx:=hW.early n9 d2;simp only[lD,aN q3]
   go_simp
   exact hK _ _ ⟨H,G,cp,by simp only[lD,kX hlt,aN q3,reduceIte,Nat.reduceEqDiff];try rfl,(hW.keep hlt (by decide) (by decide) (by decide) (by decide))⟩
  ·simp only[lD]
   go_simp
   exact hK _ _ ⟨H,G,cp,by simp only[lD,kX hlt,reduceIte,Nat.reduceEqDiff];try rfl,(hW.keep hlt (by decide) (by decide) (by decide) (by decide))⟩
  ·have n7:up L 7=false:=hC.no nl 7 rfl (by kernel_rfl);obtain rfl:=hW.1 n7;simp only[lD]
   go_simp
   exact hK _ _ ⟨H,G,cp,by simp only[lD,kX hlt,reduceIte,Nat.reduceEqDiff];try rfl,(hW.keep hlt (by decide) (by decide) (by decide) (by decide))⟩
  ·have q5:up L 5=true:=hD 5 (by simp);have q6:up L 6=true:=hD 6 (by simp);have n8:up L 8=false:=hC.no nl 8 rfl (by kernel_rfl);have n9:up L 9=false:=hC.no n8 9 rfl (by kernel_rfl);obtain rfl:=hW.1 nl;simp only[lD,aN q5,aN q6]
   go_simp
   refine (xI.o _ (Below.drew (Below.refl _ _))).mono ?_;rintro e w2 ⟨rfl,d1⟩
   go_simp
   exact hK _ _ ⟨H,G,cp,by simp only[lD,kX hlt,aN q5,aN q6,reduceIte,Nat.reduceEqDiff];try rfl,⟨fun q=>absurd (q.symm.trans ((aP hlt _).trans (if_pos rfl))) (by decide),fun _ _=>d1,fun q=>absurd (q.symm.trans ((aP hlt 8).trans n8)) (by decide),fun q=>absurd (q.symm.trans ((aP hlt 9).trans n9)) (by decide)⟩⟩
  ·have q7:up L 7=true:=hD 7 (by simp);have n9:up L 9=false:=hC.no nl 9 rfl (by kernel_rfl);have hb8:=hW.2.1 q7 nl;simp only[lD,aN q7]
   go_simp
   exact hK _ _ ⟨w.heap.size,G,cp,by simp only[lD,kX hlt,aN q7,reduceIte,Nat.reduceEqDiff];try rfl,⟨fun q=>absurd (q.symm.trans ((aP hlt 7).trans q7)) (by decide),fun _ q=>absurd (q.symm.trans ((aP hlt _).trans (if_pos rfl))) (by decide),fun _ _=>⟨w,hb8,rfl,rfl⟩,fun q=>absurd (q.symm.trans ((aP hlt 9).trans n9)) (by decide)⟩⟩
  ·have q4:up L 4=true:=hD 4 (by simp);have q8:up L 8=true:=hD 8 (by simp);have q7:up L 7=true:=hC 8 _ rfl q8 { on:=7,ground:=.data } (by simp) rfl;have n12:up L 12=false:=hC.no nl 12 rfl (by kernel_rfl);obtain⟨w1,hb1,hH,rfl⟩:=hW.2.2.1 q8 nl;subst hH;have hown0:=KP HO.o (hb1.trans ((aA w1 (.cells #[.bool b] 4)).mono hb1.size));simp only[lD,aN q4,aN q8];rw[if_pos (by rfl)];refine wp_append_lies _ (.tmp 75) (.tmp 79) 58 (by rfl) W0.heap.size 4 i0 (.bool false) 1 1 Tryz.underlying58 hi0 hz0 hz1 hz2 rfl (by decide) (.slice ob ni oc) ni ((Pl.pU xs ni).map Value.bool) (by rfl) hown0 ⟨w1.heap.size,0,none⟩ 1 1 [.bool b] (by rfl) rfl (World.news_of_block (heap_alloc_new w1 (.cells #[.bool b] 4))) (by intro z hz;simp at hz;subst hz;rfl) (by decide) (by unfold maxLen;omega) (by omega) (Nat.le_trans HBL.o.size (Nat.le_trans hb1.size (aA w1 _).size)) _ rfl ?_;intro G' cp' w2 hown1 hgrow hat hlt1;exact hK _ _ ⟨w1.heap.size,G',cp',by simp only[lD,kX hlt,aN q4,aN q8,reduceIte,Nat.reduceEqDiff];try rfl,⟨fun q=>absurd (q.symm.trans ((aP hlt 7).trans q7)) (by decide),fun _ q=>absurd (q.symm.trans ((aP hlt 8).trans q8)) (by decide),fun _ q=>absurd (q.symm.trans ((aP hlt _).trans (if_pos rfl))) (by decide),fun _=>⟨w2,by rw[List.map_append];exact hown1,FW (hb1.trans ((aA _ _).mono hb1.size)) hgrow,by rcases hat with h|h;exact .inl h;exact .inr (by rw[h];exact Nat.le_trans hb1.size (aA w1 _).size),hlt1,fun _=>rfl,fun q=>absurd (q.symm.trans ((aP hlt 12).trans n12)) (by decide)⟩⟩⟩
  ·have q0:up L 0=true:=hD 0 (by simp);simp only[lD,aN q0]
   go_simp
   exact hK _ _ ⟨H,G,cp,by simp only[lD,kX hlt,aN q0,reduceIte,Nat.reduceEqDiff];try rfl,(hW.keep hlt (by decide) (by decide) (by decide) (by decide))⟩
  ·have Oh:up L 10=true:=hD 10 (by simp);simp only[lD,aN Oh]
   go_simp
   exact hK _ _ ⟨H,G,cp,by simp only[lD,kX hlt,aN Oh,reduceIte,Nat.reduceEqDiff];try rfl,(hW.keep hlt (by decide) (by decide) (by decide) (by decide))⟩
  ·have q9:up L 9=true:=hD 9 (by simp);have q11:up L 11=true:=hD 11 (by simp);have q8:up L 8=true:=hC 9 _ rfl q9 { on:=8,ground:=.data } (by simp) rfl;have q7:up L 7=true:=hC 8 _ rfl q8 { on:=7,ground:=.data } (by simp) rfl;obtain⟨w2,y1,y2,y3,y4,y5,_⟩:=hW.2.2.2 q9;obtain rfl:=y5 nl;have hbx:=HCK.o.box y2;have cx:w.cell? ⟨gc,2,none⟩=some (.slice ob ni oc):=cell_of_row w gc 2 _ 74 (0,0) hbx;have fx:w.frozen? ⟨gc,2,none⟩=false:=frozen_of_row w gc 2 _ 74 hbx;simp only[lD,aN q9,aN q11]
   go_simp
   exact hK _ _ ⟨H,G,cp,by simp only[lD,kX hlt,aN q9,aN q11,reduceIte,Nat.reduceEqDiff];try rfl,⟨fun q=>absurd (q.symm.trans ((aP hlt 7).trans q7)) (by decide),fun _ q=>absurd (q.symm.trans ((aP hlt 8).trans q8)) (by decide),fun _ q=>absurd (q.symm.trans ((aP hlt 9).trans q9)) (by decide),fun _=>⟨w,y1,y2,y3,y4,fun q=>absurd (q.symm.trans ((aP hlt _).trans (if_pos rfl))) (by decide),fun _=>rfl⟩⟩⟩
 case done=>
  rintro L a w ⟨H,G,cp,rfl,hW⟩ hall;obtain⟨w1,y1,y2,y3,y4,_,y5⟩:=hW.2.2.2 (hall 9 (by decide));obtain rfl:=y5 (hall 12 (by decide));simp only[lD,aN (hall 0 (by decide)),aN (hall 1 (by decide)),aN (hall 2 (by decide)),aN (hall 3 (by decide)),aN (hall 4 (by decide)),aN (hall 5 (by decide)),aN (hall 6 (by decide)),aN (hall 7 (by decide)),aN (hall 8 (by decide)),aN (hall 9 (by decide)),aN (hall 10 (by decide)),aN (hall 11 (by decide))];exact oC.o _ _ _ _ _ _ _ _ _ _ _ _ _ _ _ (by rw[HOP.o];exact HCK.o.grow y2 y1)
set_option maxRecDepth 100000 in
theorem aFa (gc:Nat) (x:Pl.Nd) (va:Option Addr) (vl vc nb:Nat) (w:World) (hnb:nb=w.heap.size) (K:Act->World->Prop) (Q:Exit->Act->World->Prop)
  (hK:K { tmps:=#[.pointer (some ⟨gc,0,none⟩),.agg #[.int .i64 x.k,.int .i64 x.m,.int .i64 x.n,.string x.s,.slice va vl vc,.int .i64 x.line,.int .i64 x.aQ],undef,.pointer (some ⟨nb,0,none⟩),.bool false,undef,undef,undef,undef,undef,undef,undef,undef,undef,undef,undef,undef,undef,undef,undef,undef,undef,undef,undef,undef,undef,undef,undef,undef,undef,undef,undef,undef,undef,undef,undef,undef,undef,undef,undef,undef,undef,undef,undef,undef,undef,undef,undef,undef,undef,undef,undef,undef,undef,undef,undef,undef,undef,undef,undef,undef,undef,undef,undef,undef,undef,undef,undef,undef,undef,undef,undef,undef,undef,undef,undef,undef,undef,undef,undef,undef,undef,undef],defers:=[] } (w.alloc (.cells #[.int .i64 x.k,.int .i64 x.m,.int .i64 x.n,.string x.s,.slice va vl vc,.int .i64 x.line,.int .i64 x.aQ] 45))) :
  (tT 0).wp Tryz.prog (Exit.then K Q) { tmps:=#[.pointer (some ⟨gc,0,none⟩),.agg #[.int .i64 x.k,.int .i64 x.m,.int .i64 x.n,.string x.s,.slice va vl vc,.int .i64 x.line,.int .i64 x.aQ],undef,undef,undef,undef,undef,undef,undef,undef,undef,undef,undef,undef,undef,undef,undef,undef,undef,undef,undef,undef,undef,undef,undef,undef,undef,undef,undef,undef,undef,undef,undef,undef,undef,undef,undef,undef,undef,undef,undef,undef,undef,undef,undef,undef,undef,undef,undef,undef,undef,undef,undef,undef,undef,undef,undef,undef,undef,undef,undef,undef,undef,undef,undef,undef,undef,undef,undef,undef,undef,undef,undef,undef,undef,undef,undef,undef,undef,undef,undef,undef,undef],defers:=[] } w:=by
 subst hnb;have oC:Hid _:=hK;clear hK
 conv=>arg 2;whnf
 go_wp2_with fail
 exact oC.o
set_option maxRecDepth 100000 in
theorem aFb (gc nb:Nat) (x:Pl.Nd) (va:Option Addr) (vl vc:Nat) (y:World) (hn:y.heap[nb]?=some (.cells (x.cells ⟨va,vl,vc⟩) 45 (0,0))) (K:Act->World->Prop) (Q:Exit->Act->World->Prop)
  (hK:∀(s6 s7 s8:Value) (rb:Nat) (fa:Option Addr) (fl fc lo2:Nat) (y':World),Bw y y'->y'.heap[rb]?=some (.cells #[.int .i64 (Pl.rl x.k).xO,.int .i64 (Pl.rl x.k).word,.int .i64 (Pl.rl x.k).uZ,.int .i64 (Pl.rl x.k).pQ,.int .i64 (Pl.rl x.k).xP,.int .i64 (Pl.rl x.k).rX,.slice fa fl fc,.int .i64 (Pl.rl x.k).more,.int .i64 (Pl.rl x.k).most] 121 (0,0))->Row .i64 lo2 y' fa fl fc (Pl.rl x.k).kids->K { tmps:=#[.pointer (some ⟨gc,0,none⟩),.agg #[.int .i64 x.k,.int .i64 x.m,.int .i64 x.n,.string x.s,.slice va vl vc,.int .i64 x.line,.int .i64 x.aQ],undef,.pointer (some ⟨nb,0,none⟩),.bool false,.pointer (some ⟨rb,0,none⟩),s6,s7,s8,undef,undef,undef,undef,undef,undef,undef,undef,undef,undef,undef,undef,undef,undef,undef,undef,undef,undef,undef,undef,undef,undef,undef,undef,undef,undef,undef,undef,undef,undef,undef,undef,undef,undef,undef,undef,undef,undef,undef,undef,undef,undef,undef,undef,undef,undef,undef,undef,undef,undef,undef,undef,undef,undef,undef,undef,undef,undef,undef,undef,undef,undef,undef,undef,undef,undef,undef,undef,undef,undef,undef,undef,undef,undef],defers:=[] } y') :
  (tT 1).wp Tryz.prog (Exit.then K Q) { tmps:=#[.pointer (some ⟨gc,0,none⟩),.agg #[.int .i64 x.k,.int .i64 x.m,.int .i64 x.n,.string x.s,.slice va vl vc,.int .i64 x.line,.int .i64 x.aQ],undef,.pointer (some ⟨nb,0,none⟩),.bool false,undef,undef,undef,undef,undef,undef,undef,undef,undef,undef,undef,undef,undef,undef,undef,undef,undef,undef,undef,undef,undef,undef,undef,undef,undef,undef,undef,undef,undef,undef,undef,undef,undef,undef,undef,undef,undef,undef,undef,undef,undef,undef,undef,undef,undef,undef,undef,undef,undef,undef,undef,undef,undef,undef,undef,undef,undef,undef,undef,undef,undef,undef,undef,undef,undef,undef,undef,undef,undef,undef,undef,undef,undef,undef,undef,undef,undef,undef],defers:=[] } y:=by
 have oC:Hid _:=hK;clear hK
 conv=>arg 2;whnf
 have c0:y.cell? ⟨nb,0,none⟩=some (.int .i64 x.k):=cell_of_row y nb 0 _ 45 (0,0) hn;have HRN:Hid (∀u:World,Calls Tryz.prog 63 #[.int .i64 x.k] u fun e w'=>zH (Pl.rl x.k) u e w'):=fun u=>wP x.k u;generalize Pl.rl x.k=r at *;obtain⟨rs,sJ,qV,qW,rC,rD,rk,pM,sV⟩:=r;clear hn;go_wp2_with (go_at_call 63;refine (HRN.o _).mono ?_;rintro e u1 ⟨⟨fa,fl,fc⟩,rfl,hrow,hb⟩;have BH:Hid (Row .i64 y.heap.size u1 fa fl fc rk):=hrow;have HB:Hid (Bw y u1):=hb;clear hrow hb)
 exact oC.o _ _ _ _ fa fl fc _ _ (HB.o.alloc HB.o.size _) (heap_alloc_new u1 _) (BH.o.keep (aA _ _))
def rT (W0:World) (xs:List Pl.Nd) (a:Option Addr) (len cap gc gm i:Nat) (e:Ending) (w':World):Prop:=
 e=.returned (.bool (Pl.uN (Pl.Dx xs i)))/\Bw W0 w'/\(Pl.Dx xs i->∃(nm:Nat) (ob:Option Addr) (oc:Nat),nm<=i+1/\GJ W0 a len cap gc gm nm (Pl.rV xs (i+1)) ob oc (i+1) (Pl.pU xs (i+1)) w')
set_option maxRecDepth 100000 in
theorem Rz {lo:Nat}{W0 w:World}{xs:List Pl.Nd}{a:Option Addr}{len cap gc gm nm:Nat}{ob:Option Addr}{oc i:Nat}{va:Option Addr}{vl vc:Nat}{l:List Nat}(hp:Pl.PI xs len i l) (hc:GJ W0 a len cap gc gm nm (Pl.rV xs i) ob oc i (Pl.pU xs i) w) (hnm:nm<=i) (hrow:Row .i64 lo W0 va vl vc (Pl.nd xs i).kids) (hn:aT lo W0 a len cap xs) (hE:nR W0) (hd:bD W0) (hpw:iH W0) (x:Pl.Nd) (hx:x=Pl.nd xs i) :
  Calls Tryz.prog 38 #[.pointer (some ⟨gc,0,none⟩),.agg #[.int .i64 x.k,.int .i64 x.m,.int .i64 x.n,.string x.s,.slice va vl vc,.int .i64 x.line,.int .i64 x.aQ]] w fun e w'=>rT W0 xs a len cap gc gm i e w':=by
 have hi4:i<4000:=by have:=hp.hi;have:=hp.l4;omega
 go_enter Tryz.func38,Tryz.ntmps38;refine wp_seq ?_;refine aFa gc x va vl vc w.heap.size w rfl _ _ ?_;have hnd:(w.alloc (.cells (x.cells ⟨va,vl,vc⟩) 45)).heap[w.heap.size]?=some (.cells (x.cells ⟨va,vl,vc⟩) 45 (0,0)):=heap_alloc_new w _;have hpc:PC lo W0 (w.alloc (.cells (x.cells ⟨va,vl,vc⟩) 45)) xs a len cap gc gm nm (Pl.rV xs i) ob oc i w.heap.size va vl vc:=⟨hc.keep (aA _ _),by rw[<- hx];exact hnd,hc.jR.size,hrow,hn,hE,hd,hpw⟩;unfold Pl.Nd.cells at hnd hpc;generalize w.alloc (.cells #[.int .i64 x.k,.int .i64 x.m,.int .i64 x.n,.string x.s,.slice va vl vc,.int .i64 x.line,.int .i64 x.aQ] 45)=y0 at *;refine wp_seq ?_;refine aFb gc w.heap.size x va vl vc y0 hnd _ _ ?_;intro s6 s7 s8 rb fa fl fc lo2 y1 hb1 hr1 aDz;have Sa:=hpc.keep hb1;rw[hx]at hr1 aDz;refine wp_seq ?_;refine aE5 hp Sa hr1 aDz (.agg #[.int .i64 x.k,.int .i64 x.m,.int .i64 x.n,.string x.s,.slice va vl vc,.int .i64 x.line,.int .i64 x.aQ]) (undef) (s6) (s7) (s8) (undef) (undef) (undef) (undef) (undef) (undef) (undef) (undef) (undef) (undef) (undef) (undef) (undef) (undef) (undef) (undef) (undef) (undef) (undef) (undef) (undef) (undef) (undef) (undef) (undef) (undef) (undef) (undef) (undef) (undef) (undef) (undef) (undef) (undef) (undef) (undef) (undef) (undef) (undef) (undef) (undef) (undef) (undef) (undef) (undef) (undef) (undef) (undef) (undef) (undef) (undef) (undef) (undef) (undef) (undef) (undef) (undef) (undef) (undef) (undef) (undef) (undef) (undef) (undef) (undef) (undef) (undef) (undef) (undef) (undef) (undef) (undef) (undef) (undef) _ _ ?hR ?hK2
 case hR=>
  intro tmps y' h1 h2 h3;change bodyPost Tryz.prog Tryz.f38 (fun e w'=>rT W0 xs a len cap gc gm i e w') .ret { tmps:=tmps,defers:=[] } y';refine bodyPost_ret (v:=.bool false) ?_ rfl ⟨aC (Pl.oQ h2).symm,Sa.xG.jR.trans (h3.mono Sa.xG.jR.size),fun q=>absurd q h2⟩;rw[<- h1];exact results_tmp rfl _ _ _
 case hK2=>
 intro p9 p10 p11 Jv Jw p14 p15 p16 p17 p18 p19 p20 p21 p22 p23 p24 p25 p26 p27 p28 p29 p30 p31 p32 p33 p34 p35 p36 p37 p38 p39 p40 p41 p42 p43 p44 p45 p46 p47 p48 p49 p50 p51 p52 p53 p54 p55 p56 p57 p58 p59 p60 y2 hb2 hok;have aFc:=Sa.keep hb2;refine wp_seq ?_;refine aE7 hp aFc (by omega) (.agg #[.int .i64 x.k,.int .i64 x.m,.int .i64 x.n,.string x.s,.slice va vl vc,.int .i64 x.line,.int .i64 x.aQ]) (undef) (s6) (s7) (s8) (p9) (p10) (p11) (Jv) (Jw) (p14) (p15) (p16) (p17) (p18) (p19) (p20) (p21) (p22) (p23) (p24) (p25) (p26) (p27) (p28) (p29) (p30) (p31) (p32) (p33) (p34) (p35) (p36) (p37) (p38) (p39) (p40) (p41) (p42) (p43) (p44) (p45) (p46) (p47) (p48) (p49) (p50) (p51) (p52) (p53) (p54) (p55) (p56) (p57) (p58) (p59) (p60) (undef) (undef) (undef) (undef) (undef) (undef) (undef) (undef) (undef) (undef) (undef) (undef) (undef) (undef) (undef) (undef) (undef) (undef) (undef) (undef) (undef) (undef) _ _ ?_;intro q61 q62 q63 q64 q65 q66 q67 q68 q69 q70 nm2 y4 aHk aFd;refine wp_seq ?_;refine aE9 hp aFd hok (.agg #[.int .i64 x.k,.int .i64 x.m,.int .i64 x.n,.string x.s,.slice va vl vc,.int .i64 x.line,.int .i64 x.aQ]) (undef) (.pointer (some ⟨rb,0,none⟩)) (s6) (s7) (s8) (p9) (p10) (p11) (Jv) (Jw) (p14) (p15) (p16) (p17) (p18) (p19) (p20) (p21) (p22) (p23) (p24) (p25) (p26) (p27) (p28) (p29) (p30) (p31) (p32) (p33) (p34) (p35) (p36) (p37) (p38) (p39) (p40) (p41) (p42) (p43) (p44) (p45) (p46) (p47) (p48) (p49) (p50) (p51) (p52) (p53) (p54) (p55) (p56) (p57) (p58) (p59) (p60) (q61) (q62) (q63) (q64) (q65) (q66) (q67) (q68) (q69) (q70) _ _ ?_;intro r71 r72 r73 r74 r75 r76 r77 r78 r79 r80 r81 r82 ob2 oc2 y6 hc6;have HF:Hid (rT W0 xs a len cap gc gm i (.returned (.bool true)) y6):=⟨aC (Pl.nM hok).symm,hc6.jR,fun _=>⟨nm2,ob2,oc2,by omega,hc6⟩⟩;clear hp hc hrow hn hE hd hpw hpc Sa aFc aFd hok hc6 hr1 aDz hb1 hb2 hx hnd;go_wp2_with fail
 go_ret;exact HF.o
end W
end Go.Proofs.YtjcdiegfnoaedaaGreatDoor
