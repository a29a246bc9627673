import Derived.Test.YtjcdiegfnoaedaaGreatDoorZ04
import Derived.Test.YtjcdiegfnoaedaaGreatDoorZ19
set_option linter.unusedVariables false
set_option linter.unusedSimpArgs false
set_option maxHeartbeats 16000000
namespace Go.Proofs.YtjcdiegfnoaedaaGreatDoor
set_option maxRecDepth 4000
namespace W
open Go.RowKit
variable {Ex:Nat->Prop}
theorem bF {U:World}{T:TypeId}{c:Value}{t:List UInt8}(x:Wp (NU Ex U) 44 [.iface T c] t) (h:¬T=80/\¬T=83/\¬T=86/\¬T=88/\¬T=91/\¬T=93/\¬T=95:=by decide):Wp (NU Ex U) 18 [.iface T c] t:=by
 obtain⟨h0,h1,h2,h3,h4,h5,h6⟩:=h;intro B g ts u h na hn;have S:=Sp.begin h na hn rfl;have F:=S.f;clear h na hn;have ta:=uT;unfold uH Ta at ta;go_in;go_wp2_with ((with_reducible show Calls _ _ _ _ _);(with_reducible first|refine S.call.mono ?_|refine S.kK.mono ?_|refine S.kL.mono ?_|refine S.kM.mono ?_);clear S F;rintro e z ⟨rfl,S⟩;have F:=S.f)
 go_end0;exact⟨rfl,S.fin⟩
theorem nV {U:World}{T:TypeId}{c:Value}{t:List UInt8}(x:Wp (NU Ex U) 73 [.iface T c] t) (h:¬T=127/\¬T=129/\¬T=131/\¬T=133/\¬T=135/\¬T=137:=by decide):Wp (NU Ex U) 44 [.iface T c] t:=by
 obtain⟨h0,h1,h2,h3,h4,h5⟩:=h;intro B g ts u h na hn;have S:=Sp.begin h na hn rfl;have F:=S.f;clear h na hn;have ta:=uT;unfold uH Ta at ta;go_in;go_wp2_with ((with_reducible show Calls _ _ _ _ _);(with_reducible first|refine S.call.mono ?_|refine S.kK.mono ?_|refine S.kL.mono ?_|refine S.kM.mono ?_);clear S F;rintro e z ⟨rfl,S⟩;have F:=S.f)
 go_end0;exact⟨rfl,S.fin⟩
theorem NR (T:TypeId) (c:Value) (h1:¬T=157) (h2:¬T=159) (u:World):Calls Tryz.prog 102 #[.iface T c] u fun e u'=>e=.returned (.bool false)/\Bw u u':=by
 have ta:=uT;unfold uH Ta at ta;go_in;go_wp2;go_ret;exact⟨rfl,Below.refl _ _⟩
theorem SL (T:TypeId) (c:Value) (h1:T=157\/T=159) (u:World):Calls Tryz.prog 102 #[.iface T c] u fun e u'=>e=.returned (.bool true)/\Bw u u':=by
 have ta:=uT;unfold uH Ta at ta;rcases h1 with rfl|rfl;all_goals
  go_in;go_wp2;go_ret;exact⟨rfl,Below.refl _ _⟩
theorem YE {U:World}{T1:TypeId}{w1:Value}{t1:List UInt8}(x:Wp (NU Ex U) 69 [.iface T1 w1] t1) (Tf:∀u:World,Calls Tryz.prog 102 #[.iface T1 w1] u fun e u'=>e=.returned (.bool true)/\Bw u u'):Wp (NU Ex U) 69 [.iface 154 (.agg #[.iface T1 w1])] (t1++Pl.say ⟨#[40]⟩++Pl.say ⟨#[42]⟩):=by
 refine Wp.of fun B g u W S=>?_
 (try simp only[List.append_assoc]at S)
 have ta:=uT;unfold uH Ta at ta;go_in;go_upto_region 6 with fail
 refine aG fun y hy=>?_;replace S:=S.box hy;generalize u.heap.size=n0 at S ⊢;have F:=S.f;clear hy;go_wp2_with ((with_reducible show Calls _ _ _ _ _);first|((with_reducible first|refine S.call.mono ?_|refine S.kK.mono ?_|refine S.kL.mono ?_|refine S.kM.mono ?_);clear S F;rintro e z ⟨rfl,S⟩;have F:=S.f)|((with_reducible refine (Tf _).mono ?_);rintro e z ⟨rfl,d9⟩;replace S:=S.on d9;clear d9 F;have F:=S.f))
 go_end0;exact⟨rfl,S.fin⟩
theorem YF {U:World}{T1:TypeId}{w1:Value}{t1:List UInt8}(x:Wp (NU Ex U) 69 [.iface T1 w1] t1) (Tf:∀u:World,Calls Tryz.prog 102 #[.iface T1 w1] u fun e u'=>e=.returned (.bool false)/\Bw u u'):Wp (NU Ex U) 69 [.iface 154 (.agg #[.iface T1 w1])] (t1++Pl.say ⟨#[42]⟩):=by
 refine Wp.of fun B g u W S=>?_
 (try simp only[List.append_assoc]at S)
 have ta:=uT;unfold uH Ta at ta;go_in;go_upto_region 6 with fail
 refine aG fun y hy=>?_;replace S:=S.box hy;generalize u.heap.size=n0 at S ⊢;have F:=S.f;clear hy;go_wp2_with ((with_reducible show Calls _ _ _ _ _);first|((with_reducible first|refine S.call.mono ?_|refine S.kK.mono ?_|refine S.kL.mono ?_|refine S.kM.mono ?_);clear S F;rintro e z ⟨rfl,S⟩;have F:=S.f)|((with_reducible refine (Tf _).mono ?_);rintro e z ⟨rfl,d9⟩;replace S:=S.on d9;clear d9 F;have F:=S.f))
 go_end0;exact⟨rfl,S.fin⟩
theorem YG {U:World}{T1:TypeId}{w1:Value}{t1:List UInt8}(x:Wp (NU Ex U) 70 [.iface T1 w1] t1) (Tf:∀u:World,Calls Tryz.prog 102 #[.iface T1 w1] u fun e u'=>e=.returned (.bool true)/\Bw u u'):Wp (NU Ex U) 70 [.iface 154 (.agg #[.iface T1 w1])] (Pl.say ⟨#[41]⟩++t1):=by
 refine Wp.of fun B g u W S=>?_
 (try simp only[List.append_assoc]at S)
 have ta:=uT;unfold uH Ta at ta;go_in;go_upto_region 3 with fail
 refine aG fun y hy=>?_;replace S:=S.box hy;generalize u.heap.size=n0 at S ⊢;have F:=S.f;clear hy;go_wp2_with ((with_reducible show Calls _ _ _ _ _);first|((with_reducible first|refine S.call.mono ?_|refine S.kK.mono ?_|refine S.kL.mono ?_|refine S.kM.mono ?_);clear S F;rintro e z ⟨rfl,S⟩;have F:=S.f)|((with_reducible refine (Tf _).mono ?_);rintro e z ⟨rfl,d9⟩;replace S:=S.on d9;clear d9 F;have F:=S.f))
 go_end0;exact⟨rfl,S.fin⟩
theorem YH {U:World}{T1:TypeId}{w1:Value}{t1:List UInt8}(x:Wp (NU Ex U) 70 [.iface T1 w1] t1) (Tf:∀u:World,Calls Tryz.prog 102 #[.iface T1 w1] u fun e u'=>e=.returned (.bool false)/\Bw u u'):Wp (NU Ex U) 70 [.iface 154 (.agg #[.iface T1 w1])] (t1):=by
 refine Wp.of fun B g u W S=>?_
 (try simp only[List.append_assoc]at S)
 have ta:=uT;unfold uH Ta at ta;go_in;go_upto_region 3 with fail
 refine aG fun y hy=>?_;replace S:=S.box hy;generalize u.heap.size=n0 at S ⊢;have F:=S.f;clear hy;go_wp2_with ((with_reducible show Calls _ _ _ _ _);first|((with_reducible first|refine S.call.mono ?_|refine S.kK.mono ?_|refine S.kL.mono ?_|refine S.kM.mono ?_);clear S F;rintro e z ⟨rfl,S⟩;have F:=S.f)|((with_reducible refine (Tf _).mono ?_);rintro e z ⟨rfl,d9⟩;replace S:=S.on d9;clear d9 F;have F:=S.f))
 go_end0;exact⟨rfl,S.fin⟩
theorem SN {U:World}{T1:TypeId}{w1:Value}{a1:Option Addr}{n1 c1:Nat}{t1 t2:List UInt8}(x:Wp (NU Ex U) 42 [.slice a1 n1 c1] t1) (y2:Wp (NU Ex U) 70 [.iface T1 w1] t2) (hn1:n1=0):Wp (NU Ex U) 70 [.iface 159 (.agg #[.iface T1 w1,.slice a1 n1 c1])] (Pl.say ⟨#[40]⟩++Pl.say ⟨#[118,111,105,100]⟩++t1++Pl.say ⟨#[41]⟩++t2):=by
 refine Wp.of fun B g u W S=>?_
 (try simp only[List.append_assoc]at S)
 have ta:=uT;unfold uH Ta at ta;have hq:(n1:Int)=0:=by omega
 clear hn1;go_in;go_upto_region 14 with fail
 refine aG fun y hy=>?_;replace S:=S.box hy;generalize u.heap.size=n0 at S ⊢;have F:=S.f;clear hy;go_wp2_with ((with_reducible show Calls _ _ _ _ _);(with_reducible first|refine S.call.mono ?_|refine S.kK.mono ?_|refine S.kL.mono ?_|refine S.kM.mono ?_);clear S F;rintro e z ⟨rfl,S⟩;have F:=S.f)
 go_end0;exact⟨rfl,S.fin⟩
theorem SQ {U:World}{T1:TypeId}{w1:Value}{a1:Option Addr}{n1 c1:Nat}{t1 t2:List UInt8}(x:Wp (NU Ex U) 42 [.slice a1 n1 c1] t1) (y2:Wp (NU Ex U) 70 [.iface T1 w1] t2) (hn1:¬n1=0):Wp (NU Ex U) 70 [.iface 159 (.agg #[.iface T1 w1,.slice a1 n1 c1])] (Pl.say ⟨#[40]⟩++t1++Pl.say ⟨#[41]⟩++t2):=by
 refine Wp.of fun B g u W S=>?_
 (try simp only[List.append_assoc]at S)
 have ta:=uT;unfold uH Ta at ta;have hq:¬(n1:Int)=0:=by omega
 clear hn1;go_in;go_upto_region 14 with fail
 refine aG fun y hy=>?_;replace S:=S.box hy;generalize u.heap.size=n0 at S ⊢;have F:=S.f;clear hy;go_wp2_with ((with_reducible show Calls _ _ _ _ _);(with_reducible first|refine S.call.mono ?_|refine S.kK.mono ?_|refine S.kL.mono ?_|refine S.kM.mono ?_);clear S F;rintro e z ⟨rfl,S⟩;have F:=S.f)
 go_end0;exact⟨rfl,S.fin⟩
end W
set_option maxRecDepth 4000
namespace Pl
def Iz (l:List Tx) (k:Nat):List UInt8:=(l.drop k).flatMap fun t=>say ⟨#[101,108,115,101]⟩++t.pr
theorem aEC {l:List Tx}{k:Nat}(h:k<l.length):Iz l k=say ⟨#[101,108,115,101]⟩++((l.getD k Tx.no).pr++Iz l (k+1)):=by unfold Iz;rw[drop_at h,List.flatMap_cons,List.append_assoc]
theorem aCO {l:List Tx}{k:Nat}(h:l.length<=k):Iz l k=[]:=by unfold Iz;rw[List.drop_eq_nil_of_le h];rfl
end Pl
namespace W
open Go.RowKit
theorem tl0 (s:ByteArray):s.toList=[]↔s=⟨#[]⟩:=by
 rw[ByteArray.toList_eq];obtain⟨d⟩:=s;exact⟨fun q=>congrArg ByteArray.mk (Array.toList_inj.1 q),fun q=>by rw[q]⟩
variable {Ex:Nat->Prop}
theorem Xf {U:World}{c:Value}:Wp (NU Ex U) 70 [.iface 152 c] []:=by
 intro B g ts u h na hn;have S:=Sp.begin h na hn rfl;have F:=S.f;clear h na hn;have ta:=uT;unfold uH Ta at ta;go_in;go_wp2;go_end0;exact⟨rfl,S.fin⟩
theorem YI {U:World}{T1:TypeId}{w1:Value}{t1:List UInt8}(x:Wp (NU Ex U) 72 [.iface 83 (.agg #[.slice none 0 0,.string ⟨#[]⟩,.iface T1 w1,.slice none 0 0,.slice none 0 0])] (Pl.brk t1)):Wp (NU Ex U) 105 [.iface T1 w1] (Pl.brk t1):=by
 intro B g ts u h na hn;have S:=Sp.begin h na hn rfl;have F:=S.f;clear h na hn;go_in;go_wp2_with ((with_reducible show Calls _ _ _ _ _);(with_reducible first|refine S.call.mono ?_|refine S.kK.mono ?_|refine S.kL.mono ?_|refine S.kM.mono ?_);clear S F;rintro e z ⟨rfl,S⟩;have F:=S.f)
 go_end0;exact⟨rfl,S.fin⟩
theorem aED {U:World}{a1:Option Addr}{n1 c1:Nat}{s1:ByteArray}{T1:TypeId}{w1:Value}{a2:Option Addr}{n2 c2:Nat}{a3:Option Addr}{n3 c3:Nat}{L1:List ByteArray}{L3:List ByteArray}{t1 t2 t3:List UInt8}(r1:Rv Ex U (.slice a1 n1 c1) (L1.map Value.string)) (r3:Rv Ex U (.slice a3 n3 c3) (L3.map Value.string)) (x:Wp (NU Ex U) 69 [.iface T1 w1] t1) (y2:Wp (NU Ex U) 70 [.iface T1 w1] t2) (z2:Wp (NU Ex U) 43 [.slice a2 n2 c2] t3) (hs1:¬s1=⟨#[]⟩):Wp (NU Ex U) 40 [.agg #[.slice a1 n1 c1,.string s1,.iface T1 w1,.slice a2 n2 c2,.slice a3 n3 c3]] (L1.flatMap Pl.say++t1++Pl.say s1++t2++t3++L3.flatMap Pl.say):=by
 refine Wp.of fun B g u W S=>?_
 (try simp only[List.append_assoc]at S)
 have hq:(s1.toList == [])=false:=beq_eq_false_iff_ne.2 (fun q=>hs1 ((tl0 _).1 q));have hq2:¬s1.toList=[]:=fun q=>hs1 ((tl0 _).1 q);clear hs1;go_in;go_upto_region 1 with fail
 refine aG fun y hy=>?_;replace S:=S.box hy;generalize u.heap.size=n0 at S ⊢;have F:=S.f;clear hy;go_wp2_with ((with_reducible show Calls _ _ _ _ _);(with_reducible first|refine S.call.mono ?_|refine S.kK.mono ?_|refine S.kL.mono ?_|refine S.kM.mono ?_);clear S F;rintro e z ⟨rfl,S⟩;have F:=S.f)
 go_end0;exact⟨rfl,S.fin⟩
theorem aEE {U:World}{a1:Option Addr}{n1 c1:Nat}{T1:TypeId}{w1:Value}{a2:Option Addr}{n2 c2:Nat}{a3:Option Addr}{n3 c3:Nat}{L1:List ByteArray}{L3:List ByteArray}{t1 t2 t3:List UInt8}(r1:Rv Ex U (.slice a1 n1 c1) (L1.map Value.string)) (r3:Rv Ex U (.slice a3 n3 c3) (L3.map Value.string)) (x:Wp (NU Ex U) 69 [.iface T1 w1] t1) (y2:Wp (NU Ex U) 70 [.iface T1 w1] t2) (z2:Wp (NU Ex U) 43 [.slice a2 n2 c2] t3):Wp (NU Ex U) 40 [.agg #[.slice a1 n1 c1,.string ⟨#[]⟩,.iface T1 w1,.slice a2 n2 c2,.slice a3 n3 c3]] (L1.flatMap Pl.say++t1++t2++t3++L3.flatMap Pl.say):=by
 refine Wp.of fun B g u W S=>?_
 (try simp only[List.append_assoc]at S)
 go_in;go_upto_region 1 with fail
 refine aG fun y hy=>?_;replace S:=S.box hy;generalize u.heap.size=n0 at S ⊢;have F:=S.f;clear hy;go_wp2_with ((with_reducible show Calls _ _ _ _ _);(with_reducible first|refine S.call.mono ?_|refine S.kK.mono ?_|refine S.kL.mono ?_|refine S.kM.mono ?_);clear S F;rintro e z ⟨rfl,S⟩;have F:=S.f)
 go_end0;exact⟨rfl,S.fin⟩
theorem Pq {U:World}{s1:ByteArray}{T1:TypeId}{w1:Value}{T2:TypeId}{w2:Value}{a1:Option Addr}{n1 c1:Nat}{t1 t2:List UInt8}(x:Wp (NU Ex U) 72 [.iface T1 w1] (Pl.brk t1)) (y2:Wp (NU Ex U) 18 [.iface T2 w2] t2){vs:List Value}{l:List Pl.Tx}(hv:Rv Ex U (.slice a1 n1 c1) vs) (hl:l.length=vs.length) (hit:∀j,j<vs.length->kR Ex U (vs.getD j .nilIface) (l.getD j Pl.Tx.no)):Wp (NU Ex U) 44 [.iface 131 (.agg #[.string s1,.iface T1 w1,.iface T2 w2,.slice a1 n1 c1])] (Pl.say s1++(Pl.brk t1++(t2++Pl.Iz l 0))):=by
 refine Wp.of fun B g u W S=>?_
 (try simp only[List.append_assoc]at S)
 have ta:=uT;unfold uH Ta at ta;have HL:Hid (vs.length=n1/\n1<=4000/\l.length=vs.length):=⟨hv.len.1,hv.len.2,hl⟩;have hm:(n1:Int)<=9223372036854775807:=by have:=HL.o;omega
 clear hl;go_in;go_upto_region 15 with fail
 refine aG fun y hy=>?_;replace S:=S.box hy;generalize u.heap.size=n0 at S ⊢;have F:=S.f;clear hy;go_wp2_with ((with_reducible show Calls _ _ _ _ _);(with_reducible first|refine S.call.mono ?_|refine S.kK.mono ?_|refine S.kL.mono ?_|refine S.kM.mono ?_);clear S F;rintro e z ⟨rfl,S⟩;have F:=S.f)
 clear F ta;go_loopw [65] (fun i wr=>∃k:Nat,i=.int .i64 (k:Int)/\k<=n1/\Sp Ex U B g n0 #[.string s1,.iface T1 w1,.iface T2 w2,.slice a1 n1 c1] 131 u W (Pl.Iz l k) wr) (fun i _=>n1-(intOf i).toNat)
 case atStart=>exact⟨0,rfl,Nat.zero_le _,S⟩
 case round=>
  clear S;obtain⟨k,rfl,hk,S⟩:=hrel;have F:=S.f;by_cases hlt:k<n1
  ·have hi:(k:Int)<(n1:Int):=(by omega);obtain⟨b,off,rfl,hc⟩:=hv.at_ (by have:=HL.o;omega);have hcell:=hc k (by have:=HL.o;omega) B wr S.a;have aEF:∀o:Obj,(wr.alloc o).cell? ⟨b,off+k,none⟩=_:=fun o=>hc k (by have:=HL.o;omega) B _ (S.on (aA wr o)).a;have X:=(hit k (by have:=HL.o;omega)).pr;rw[Pl.aEC (by have:=HL.o;omega)]at S;generalize vs.getD k .nilIface=x9 at hcell aEF X;clear hc hit hv;go_wp2_with ((with_reducible show Calls _ _ _ _ _);(with_reducible first|refine S.call.mono ?_|refine S.kK.mono ?_|refine S.kL.mono ?_|refine S.kM.mono ?_);clear S F;rintro e z ⟨rfl,S⟩;have F:=S.f)
   go_roundw
   case rel=>exact⟨k+1,by go_num,by omega,S⟩
   case measure=>simp[intOf];omega
  ·have hi:¬(k:Int)<(n1:Int):=(by omega);rw[Pl.aCO (by have:=HL.o;omega)]at S;go_wp2;go_end0;exact⟨rfl,S.fin⟩
variable {Ex:Nat->Prop}
structure NS (Ex:Nat->Prop) (U:World) (v:Value) (t:Pl.Tx):Prop where
 bf:Wp (NU Ex U) 69 [v] t.bf
 bh:Wp (NU Ex U) 70 [v] t.bh
 sf:∀u:World,Calls Tryz.prog 102 #[v] u fun e u'=>e=.returned (.bool t.sf)/\Bw u u'
theorem NS.on {U V:World}{v:Value}{t:Pl.Tx}(h:NS Ex U v t) (d:Bw U V):NS Ex V v t:=⟨h.bf.on d,h.bh.on d,h.sf⟩
def ShR (Ex:Nat->Prop) (U:World) (v:Value) (vs:List Value) (ts:List Pl.Tx):Prop:=Rv Ex U v vs/\ts.length=vs.length/\∀j,j<vs.length->kR Ex U (vs.getD j .nilIface) (ts.getD j Pl.Tx.no)
variable {U:World}{a1 a2 a3:Option Addr}{n1 c1 n2 c2 n3 c3:Nat}{vs:List Value}{ts:List Pl.Tx}{T1 T2 T3:TypeId}{w1 w2 w3:Value}{t1 t2 t3:Pl.Tx}{s1:ByteArray}{L1 L3:List ByteArray}
theorem FI (h:ShR Ex U (.slice a1 n1 c1) vs ts):Wp (NU Ex U) 39 [.slice a1 n1 c1] (Pl.wF ts):=by
 exact aEo h.1 h.2.1 h.2.2
theorem pG (h:ShR Ex U (.slice a1 n1 c1) vs ts):Wp (NU Ex U) 42 [.slice a1 n1 c1] (Pl.wG ts):=by
 exact Nt h.1 h.2.1 h.2.2
theorem FJ (h:ShR Ex U (.slice a1 n1 c1) vs ts):Wp (NU Ex U) 43 [.slice a1 n1 c1] (Pl.FZ ts):=by
 exact Vj h.1 h.2.1 h.2.2
theorem Rv.nil {c:Nat}{a:Option Addr}:Rv Ex U (.slice a 0 c) []:=⟨a,c,rfl,by simp,.inl rfl⟩
theorem ShR.nil {c:Nat}{a:Option Addr}:ShR Ex U (.slice a 0 c) [] []:=⟨Rv.nil,rfl,fun j hj=>absurd hj (Nat.not_lt_zero _)⟩
theorem YJ (h:kR Ex U (.iface T1 w1) t1):Wp (NU Ex U) 72 [.iface T1 w1] (Pl.brk t1.pr):=Nr h.pr
theorem FK (h:Rv Ex U (.slice a1 n1 c1) (L1.map Value.string)):NS Ex U (.iface 152 (.agg #[.slice a1 n1 c1])) (Pl.uW (L1.flatMap Pl.say) [] false):=⟨Vo h,Xf,NR _ _ (by decide) (by decide)⟩
theorem YK (h:NS Ex U (.iface T1 w1) t1):NS Ex U (.iface 154 (.agg #[.iface T1 w1])) (Pl.uW (t1.bf++(if t1.sf then Pl.say ⟨#[40]⟩ else [])++Pl.say ⟨#[42]⟩) ((if t1.sf then Pl.say ⟨#[41]⟩ else [])++t1.bh) false):=by
 cases q:t1.sf
 ·have hs:=h.sf;rw[q]at hs;exact⟨by simpa [Pl.uW] using YF h.bf hs,by simpa [Pl.uW] using YH h.bh hs,NR _ _ (by decide) (by decide)⟩
 ·have hs:=h.sf;rw[q]at hs;exact⟨by simpa [Pl.uW] using YE h.bf hs,by simpa [Pl.uW] using YG h.bh hs,NR _ _ (by decide) (by decide)⟩
theorem Pt (h:NS Ex U (.iface T1 w1) t1) (hr:ShR Ex U (.slice a1 n1 c1) vs ts):NS Ex U (.iface 157 (.agg #[.iface T1 w1,.slice a1 n1 c1])) (Pl.uW t1.bf (Pl.say ⟨#[91]⟩++Pl.wG ts++Pl.say ⟨#[93]⟩++t1.bh) true):=⟨Vp h.bf,Vq (pG hr) h.bh,SL _ _ (.inl rfl)⟩
theorem SS (h:NS Ex U (.iface T1 w1) t1) (hr:ShR Ex U (.slice a1 n1 c1) vs ts):NS Ex U (.iface 159 (.agg #[.iface T1 w1,.slice a1 n1 c1])) (Pl.uW t1.bf (Pl.say ⟨#[40]⟩++(if ts.length=0 then Pl.say ⟨#[118,111,105,100]⟩ else [])++Pl.wG ts++Pl.say ⟨#[41]⟩++t1.bh) true):=by
 have hl:ts.length=n1:=hr.2.1.trans hr.1.len.1;refine⟨XG h.bf,?_,SL _ _ (.inr rfl)⟩;by_cases q:n1=0
 ·rw[if_pos (by omega)];exact SN (pG hr) h.bh q
 ·rw[if_neg (by omega)];simpa [Pl.uW] using SQ (pG hr) h.bh q
def NmS (s:ByteArray):Prop:=s=⟨#[]⟩\/(¬s=⟨#[]⟩/\Pl.say s=s.data.toList++[32])
theorem Ci (hs:NmS s1) (r1:Rv Ex U (.slice a1 n1 c1) (L1.map Value.string)) (r3:Rv Ex U (.slice a3 n3 c3) (L3.map Value.string)) (h:NS Ex U (.iface T1 w1) t1) (hr:ShR Ex U (.slice a2 n2 c2) vs ts):Wp (NU Ex U) 40 [.agg #[.slice a1 n1 c1,.string s1,.iface T1 w1,.slice a2 n2 c2,.slice a3 n3 c3]] (L1.flatMap Pl.say++t1.dc s1++Pl.FZ ts++L3.flatMap Pl.say):=by
 rcases hs with rfl|⟨q1,q2⟩
 ·have:=aEE r1 r3 h.bf h.bh (FJ hr);simpa [Pl.Tx.dc] using this
 ·have:=aED r1 r3 h.bf h.bh (FJ hr) q1;rw[q2]at this;simpa [Pl.Tx.dc,q1] using this
theorem yI (hs:NmS s1) (r1:Rv Ex U (.slice a1 n1 c1) (L1.map Value.string)) (r3:Rv Ex U (.slice a3 n3 c3) (L3.map Value.string)) (h:NS Ex U (.iface T1 w1) t1) (hr:ShR Ex U (.slice a2 n2 c2) vs ts):kR Ex U (.iface 83 (.agg #[.slice a1 n1 c1,.string s1,.iface T1 w1,.slice a2 n2 c2,.slice a3 n3 c3])) (Pl.nD (L1.flatMap Pl.say++t1.dc s1++Pl.FZ ts++L3.flatMap Pl.say)):=⟨aCh (Ci hs r1 r3 h hr),RB⟩
theorem JB (hs:NmS s1) (h:NS Ex U (.iface T1 w1) t1) (h2:kR Ex U (.iface T2 w2) t2):kR Ex U (.iface 86 (.agg #[.slice none 0 0,.string s1,.iface T1 w1,.slice none 0 0,.slice none 0 0,.iface T2 w2])) (Pl.nD (t1.dc s1++t2.pr)):=by
 have:=MW (Ci (L1:=[]) (L3:=[]) hs (Rv.nil (c:=0) (a:=none)) (Rv.nil (c:=0) (a:=none)) h (ShR.nil (c:=0) (a:=none))) h2.pr;exact⟨by simpa [Pl.FZ,Pl.nD] using this,RB⟩
theorem NT (r1:Rv Ex U (.slice a1 n1 c1) (L1.map Value.string)) (hr:ShR Ex U (.slice a2 n2 c2) vs ts):kR Ex U (.iface 88 (.agg #[.slice a1 n1 c1,.slice a2 n2 c2])) (Pl.nD (L1.flatMap Pl.say++Pl.say ⟨#[123]⟩++Pl.wF ts++(Pl.say ⟨#[125]⟩++Pl.say ⟨#[59]⟩))):=⟨RD r1 (FI hr),RB⟩
theorem FL (r1:Rv Ex U (.slice a1 n1 c1) (L1.map Value.string)) (hr:ShR Ex U (.slice a2 n2 c2) vs ts):kR Ex U (.iface 91 (.agg #[.slice a1 n1 c1,.slice a2 n2 c2])) (Pl.nD (L1.flatMap Pl.say++Pl.say ⟨#[123]⟩++Pl.wG ts++(Pl.say ⟨#[125]⟩++Pl.say ⟨#[59]⟩))):=⟨II r1 (pG hr),RB⟩
theorem Et (hr:ShR Ex U (.slice a1 n1 c1) vs ts):kR Ex U (.iface 93 (.agg #[.string s1,.slice a1 n1 c1])) (Pl.nD (Pl.say s1++Pl.FZ ts)):=⟨Nv (FJ hr),RB⟩
theorem Xg (hr:ShR Ex U (.slice a1 n1 c1) vs ts):kR Ex U (.iface 95 (.agg #[.slice a1 n1 c1])) (Pl.nD (Pl.say ⟨#[123]⟩++Pl.wG ts++Pl.say ⟨#[125]⟩)):=⟨aCi (pG hr),RB⟩
theorem Xh (hr:ShR Ex U (.slice a1 n1 c1) vs ts):kR Ex U (.iface 80 (.agg #[.slice a1 n1 c1])) (Pl.nD (Pl.wF ts)):=⟨aCg (FI hr),RB⟩
theorem Pv (hr:ShR Ex U (.slice a1 n1 c1) vs ts):kR Ex U (.iface 127 (.agg #[.slice a1 n1 c1])) (Pl.nD (Pl.say ⟨#[123]⟩++Pl.wF ts++Pl.say ⟨#[125]⟩)):=⟨bF (Vk (FI hr)),RB⟩
theorem pV (r1:Rv Ex U (.slice a1 n1 c1) (L1.map Value.string)) (hr:ShR Ex U (.slice a2 n2 c2) vs ts):kR Ex U (.iface 129 (.agg #[.slice a1 n1 c1,.slice a2 n2 c2,.string s1])) (Pl.nD (L1.flatMap Pl.say++Pl.wF ts++Pl.say s1)):=⟨bF (Vl r1 (FI hr)),RB⟩
theorem zN (h1:kR Ex U (.iface T1 w1) t1) (h2:kR Ex U (.iface T2 w2) t2) (hr:ShR Ex U (.slice a1 n1 c1) vs ts):kR Ex U (.iface 131 (.agg #[.string s1,.iface T1 w1,.iface T2 w2,.slice a1 n1 c1])) (Pl.nD (Pl.say s1++(Pl.brk t1.pr++(t2.pr++Pl.Iz ts 0)))):=
 ⟨bF (Pq (YJ h1) h2.pr hr.1 hr.2.1 hr.2.2),RB⟩
theorem aEG (h1:kR Ex U (.iface T1 w1) t1) (h2:kR Ex U (.iface T2 w2) t2):kR Ex U (.iface 133 (.agg #[.iface T1 w1,.iface T2 w2])) (Pl.nD (Pl.say ⟨#[100,111]⟩++t1.pr++Pl.say ⟨#[119,104,105,108,101]⟩++Pl.brk t2.pr++Pl.say ⟨#[59]⟩)):=⟨bF (aFL h1.pr (YJ h2)),RB⟩
theorem aCP (hr:ShR Ex U (.slice a1 n1 c1) vs ts) (h1:kR Ex U (.iface T1 w1) t1):kR Ex U (.iface 135 (.agg #[.slice a1 n1 c1,.iface T1 w1])) (Pl.nD (Pl.say ⟨#[102,111,114]⟩++Pl.say ⟨#[40]⟩++Pl.wF ts++t1.pr)):=⟨bF (aEp (FI hr) h1.pr),RB⟩
theorem zO (hr:ShR Ex U (.slice a1 n1 c1) vs ts) (h1:kR Ex U (.iface T1 w1) t1):kR Ex U (.iface 137 (.agg #[.string s1,.slice a1 n1 c1,.iface T1 w1])) (Pl.nD (Pl.say s1++Pl.wG ts++Pl.say ⟨#[58]⟩++t1.pr)):=⟨bF (Nw (pG hr) h1.pr),RB⟩
theorem NW:kR Ex U (.iface 163 (.agg #[.string s1])) (Pl.rU 0 (Pl.say s1)):=⟨(bF (nV aCj)),RB⟩
theorem Px (h1:kR Ex U (.iface T1 w1) t1) (h2:kR Ex U (.iface T2 w2) t2):kR Ex U (.iface 165 (.agg #[.iface T1 w1,.iface T2 w2])) (Pl.rU 0 (t1.op++Pl.say ⟨#[91]⟩++t2.pr++Pl.say ⟨#[93]⟩)):=⟨(bF (nV (Vm (oI h1) h2.pr))),RB⟩
theorem Xi (h1:kR Ex U (.iface T1 w1) t1) (hr:ShR Ex U (.slice a1 n1 c1) vs ts):kR Ex U (.iface 167 (.agg #[.iface T1 w1,.slice a1 n1 c1])) (Pl.rU 0 (t1.op++Pl.say ⟨#[40]⟩++Pl.wG ts++Pl.say ⟨#[41]⟩)):=⟨(bF (nV (aCk (oI h1) (pG hr)))),RB⟩
theorem xA (h1:kR Ex U (.iface T1 w1) t1) (r1:Rv Ex U (.slice a1 n1 c1) (L1.map Value.string)):kR Ex U (.iface 169 (.agg #[.iface T1 w1,.slice a1 n1 c1])) (Pl.rU 0 (t1.op++L1.flatMap Pl.say)):=⟨(bF (nV (Eb r1 (oI h1)))),RB⟩
theorem zP (h1:kR Ex U (.iface T1 w1) t1):kR Ex U (.iface 172 (.agg #[.string s1,.iface T1 w1])) (Pl.rU 1 (Pl.say s1++t1.op)):=⟨(bF (nV (Ny (oI h1)))),rk1⟩
theorem aBh (h:NS Ex U (.iface T1 w1) t1):Wp (NU Ex U) 105 [.iface T1 w1] (Pl.brk (t1.dc ⟨#[]⟩)):=by
 have:=yI (s1:=⟨#[]⟩) (L1:=[]) (L3:=[]) (.inl rfl) (Rv.nil (c:=0) (a:=none)) (Rv.nil (c:=0) (a:=none)) h (ShR.nil (c:=0) (a:=none));exact YI (by simpa [Pl.FZ,Pl.nD] using YJ this)
theorem Xj (h:NS Ex U (.iface T1 w1) t1):kR Ex U (.iface 174 (.agg #[.iface T1 w1])) (Pl.rU 1 (Pl.say ⟨#[115,105,122,101,111,102]⟩++Pl.brk (t1.dc ⟨#[]⟩))):=⟨(bF (nV (aCl (aBh h)))),rk1⟩
theorem Xk (h:NS Ex U (.iface T1 w1) t1) (h2:kR Ex U (.iface T2 w2) t2):kR Ex U (.iface 176 (.agg #[.iface T1 w1,.iface T2 w2])) (Pl.rU 1 (Pl.brk (t1.dc ⟨#[]⟩)++t2.op)):=⟨(bF (nV (aCm (aBh h) (oI h2)))),rk1⟩
theorem FM (r:Nat) (h1:kR Ex U (.iface T1 w1) t1) (h2:kR Ex U (.iface T2 w2) t2):kR Ex U (.iface 178 (.agg #[.int .i64 (r:Int),.iface T1 w1,.string s1,.iface T2 w2])) (Pl.rU r (t1.op++Pl.say s1++t2.op)):=⟨(bF (nV (Vn (by rw[List.append_assoc];exact Bo _ h1 h2)))),Nu r _ _ _ _ _⟩
theorem NY (h1:kR Ex U (.iface T1 w1) t1) (h2:kR Ex U (.iface T2 w2) t2) (h3:kR Ex U (.iface T3 w3) t3):kR Ex U (.iface 181 (.agg #[.iface T1 w1,.iface T2 w2,.iface T3 w3])) (Pl.rU 1 (t1.op++Pl.say ⟨#[63]⟩++t2.op++Pl.say ⟨#[58]⟩++t3.op)):=⟨(bF (nV (RF (by rw[List.append_assoc];exact Bo _ h1 h2) (oI h3)))),rk1⟩
variable {Ex:Nat->Prop}
def Pl.BJ:List (List ByteArray):=[[],[⟨#[118,111,105,100]⟩],[⟨#[99,104,97,114]⟩],[⟨#[117,110,115,105,103,110,101,100]⟩,⟨#[99,104,97,114]⟩],[⟨#[115,104,111,114,116]⟩],[⟨#[117,110,115,105,103,110,101,100]⟩,⟨#[115,104,111,114,116]⟩],[⟨#[105,110,116]⟩],[⟨#[117,110,115,105,103,110,101,100]⟩,⟨#[105,110,116]⟩]]
def aEH (Ex:Nat->Prop) (w:World) (e:Ending) (w':World):Prop:=∃g,e=.returned (.slice (some ⟨g,0,none⟩) 8 8)/\w.heap.size<=g/\(∀j,1<=j->j<8->∃b n,w'.cell? ⟨g,j,none⟩=some (.slice (some ⟨b,0,none⟩) n n)/\Rv Ex w' (.slice (some ⟨b,0,none⟩) n n) ((Pl.BJ.getD j []).map Value.string))/\Bw w w'
theorem xB (l:List ByteArray) (hl:l.length<=4000) (w w':World) (b n:Nat) (hb:w'.heap[b]?=some (.cells (l.map Value.string).toArray 9)) (hn:n=l.length) (hx:¬Ex b):Rv Ex w' (.slice (some ⟨b,0,none⟩) n n) (l.map Value.string):=by
 refine⟨_,n,by rw[List.length_map,hn],by rw[List.length_map];exact hl,.inr ⟨b,0,rfl,⟨_,9,_,hb,by decide,by decide⟩,hx,fun j hj=>?_⟩⟩;rw[cell_of_row w' b _ _ 9 (0,0) hb,Nat.zero_add,List.getElem?_toArray,List.getD_eq_getElem?_getD,List.getElem?_eq_getElem hj];rfl
theorem uO:∀(l:List Obj) (w:World),Bw w (l.foldl World.alloc w)
 | [],w=>Below.refl _ _
 | o :: l,w=>(aA w o).trans ((uO l (w.alloc o)).mono (by simp))
theorem zQ:∀(l:List Obj) (w:World) (j:Nat),j<l.length->(l.foldl World.alloc w).heap[w.heap.size+j]?=l[j]?
 | [],_,_,h=>absurd h (Nat.not_lt_zero _)
 | o :: l,w,0,_=>((uO l (w.alloc o)).block w.heap.size (by simp)).trans (heap_alloc_new w o)
 | o :: l,w,j+1,h=>by
  have:=zQ l (w.alloc o) j (by simpa using h);rw[show (w.alloc o).heap.size=w.heap.size+1 by simp]at this;rw[show w.heap.size+(j+1)=w.heap.size+1+j by omega];exact this
def aCQ (h:Nat):List Obj:=((Pl.BJ.drop 1).map fun l=>Obj.cells (l.map Value.string).toArray 9)++[Obj.cells (#[.slice none 0 0]++((List.range 7).map fun j=>Value.slice (some ⟨h+j,0,none⟩) ((Pl.BJ.getD (j+1) []).length) ((Pl.BJ.getD (j+1) []).length)).toArray) 59]
theorem aCR (w:World) (hX:∀k,Ex k->k<w.heap.size):aEH Ex w (.returned (.slice (some ⟨w.heap.size+7,0,none⟩) 8 8)) ((aCQ w.heap.size).foldl World.alloc w):=by
 refine⟨_,rfl,by omega,fun j h1 h2=>?_,uO _ w⟩;have key:∀j:Fin 8,1<=j.val->((#[Value.slice none 0 0]++((List.range 7).map fun j=>Value.slice (some ⟨w.heap.size+j,0,none⟩) ((Pl.BJ.getD (j+1) []).length) ((Pl.BJ.getD (j+1) []).length)).toArray)[j.val]?=some (.slice (some ⟨w.heap.size+(j.val-1),0,none⟩) ((Pl.BJ.getD j.val []).length) ((Pl.BJ.getD j.val []).length)))/\(aCQ w.heap.size)[j.val-1]?=some (.cells (((Pl.BJ.getD j.val []).map Value.string).toArray) 9)/\(Pl.BJ.getD j.val []).length<=4000:=by
  intro j hj
  match j,hj with
  | ⟨1,_⟩,_=>exact⟨rfl,rfl,Nat.le_of_ble_eq_true rfl⟩
  | ⟨2,_⟩,_=>exact⟨rfl,rfl,Nat.le_of_ble_eq_true rfl⟩
  | ⟨3,_⟩,_=>exact⟨rfl,rfl,Nat.le_of_ble_eq_true rfl⟩
  | ⟨4,_⟩,_=>exact⟨rfl,rfl,Nat.le_of_ble_eq_true rfl⟩
  | ⟨5,_⟩,_=>exact⟨rfl,rfl,Nat.le_of_ble_eq_true rfl⟩
  | ⟨6,_⟩,_=>exact⟨rfl,rfl,Nat.le_of_ble_eq_true rfl⟩
  | ⟨7,_⟩,_=>exact⟨rfl,rfl,Nat.le_of_ble_eq_true rfl⟩
 obtain⟨k1,k2,k3⟩:=key ⟨j,h2⟩ h1;refine⟨_,_,?_,xB _ k3 w _ _ _ ((zQ _ w (j-1) (by show _<8;omega)).trans k2) rfl (fun q=>by have:=hX _ q;omega)⟩;exact (cell_of_row _ (w.heap.size+7) j _ 59 (0,0) (zQ (aCQ w.heap.size) w 7 (by show 7<8;omega))).trans k1
set_option maxRecDepth 4000 in
theorem Xl (w:World) (hX:∀k,Ex k->k<w.heap.size):Calls Tryz.prog 107 #[] w fun e w'=>aEH Ex w e w':=by
 go_enter Tryz.func107,Tryz.ntmps107;go_wp2;go_ret;exact aCR w hX
variable {Ex:Nat->Prop}
structure bA (Ex:Nat->Prop) (U:World) (k:Int) (v:Value) (t:Pl.Tx):Prop where
 ifc:∃T c,v=.iface T c
 ty:Pl.aH k=1->NS Ex U v t
 pr:Pl.aH k≠1->kR Ex U v t
 en:k=19\/k=20->∃a1 n1 c1 a2 n2 c2,v=.iface 129 (.agg #[.slice a1 n1 c1,.slice a2 n2 c2,.string ⟨#[59]⟩])/\kR Ex U (.iface 129 (.agg #[.slice a1 n1 c1,.slice a2 n2 c2,.string ⟨#[41]⟩])) (Pl.nD (t.th++Pl.say ⟨#[41]⟩))
theorem bA.on {U V:World}{k:Int}{v:Value}{t:Pl.Tx}(h:bA Ex U k v t) (d:Bw U V):bA Ex V k v t:=⟨h.ifc,fun q=>(h.ty q).on d,fun q=>(h.pr q).on d,fun q=>by
 obtain⟨a1,n1,c1,a2,n2,c2,q1,q2⟩:=h.en q;exact⟨a1,n1,c1,a2,n2,c2,q1,q2.on d⟩⟩
theorem bA.Eu {U:World}{k:Int}{T:TypeId}{c:Value}{t:Pl.Tx}(h:NS Ex U (.iface T c) t) (hk:Pl.aH k=1:=by decide):bA Ex U k (.iface T c) t:=⟨⟨_,_,rfl⟩,fun _=>h,fun q=>absurd hk q,fun q=>by rcases q with rfl|rfl <;> exact absurd hk (by decide)⟩
theorem bA.nC {U:World}{k:Int}{T:TypeId}{c:Value}{t:Pl.Tx}(h:kR Ex U (.iface T c) t) (hk:Pl.aH k≠1:=by decide) (h1:k≠19:=by decide) (h2:k≠20:=by decide):bA Ex U k (.iface T c) t:=⟨⟨_,_,rfl⟩,fun q=>absurd q hk,fun _=>h,fun q=>by rcases q with q|q;exact absurd q h1;exact absurd q h2⟩
structure Kz (Ex:Nat->Prop) (U w:World) (a:Option Addr) (m c:Nat) (vs:List Value) (ks:List Pl.Tx) (kd:List Int):Prop where
 own:w.ownsRow U.heap.size 52 1 (.slice a m c) m vs
 old:Bw U w
 kl:ks.length=m
 dl:kd.length=m
 few:m<=4000
 nx:∀k,Ex k->k<U.heap.size
 kid:∀j,j<m->bA Ex U (kd.getD j 0) (vs.getD j .nilIface) (ks.getD j Pl.Tx.no)
theorem Kz.vl {U w:World}{a:Option Addr}{m c:Nat}{vs:List Value}{ks:List Pl.Tx}{kd:List Int}(h:Kz Ex U w a m c vs ks kd):vs.length=m:=by have:=h.own.1;omega
theorem Kz.at_ {U w:World}{a:Option Addr}{m c:Nat}{vs:List Value}{ks:List Pl.Tx}{kd:List Int}(h:Kz Ex U w a m c vs ks kd) (hm:0<m):∃g,a=some ⟨g,0,none⟩/\U.heap.size<=g/\g<w.heap.size/\m<=c/\c<=maxLen/\∀j,j<m->w.cell? ⟨g,j,none⟩=some (vs.getD j .nilIface):=by
 obtain⟨b,e⟩:∃g,a=some ⟨g,0,none⟩:=by
  rcases h.own.2 with ⟨e,_⟩|⟨g,cap,cur,e,_⟩
  ·cases e;omega
  ·cases e;exact⟨g,rfl⟩
 subst e;refine⟨b,rfl,(h.own.lt b rfl).1,(h.own.lt b rfl).2,?_,?_,fun j hj=>?_⟩
 ·rcases h.own.2 with ⟨e,_⟩|⟨g,cap,cur,e,_,_,r⟩
  ·cases e
  ·cases e;exact r.1
 ·rcases h.own.2 with ⟨e,_⟩|⟨g,cap,cur,e,_,_,r⟩
  ·cases e
  ·cases e;exact r.2.1
 ·have hv:=h.vl;rw[World.ownsRow.cellAt h.own j (by omega),List.getD_eq_getElem?_getD,List.getElem?_eq_getElem (by omega)];rfl
theorem Kz.tp {U w y:World}{g:Nat}{m c:Nat}{vs:List Value}{ks:List Pl.Tx}{kd:List Int}(h:Kz Ex U w (some ⟨g,0,none⟩) m c vs ks kd) (d:Bw w y):Tp y g:=by
 rcases h.own.2 with ⟨e,_⟩|⟨g',cap,cur,e,_,q,_⟩
 ·cases e
 ·cases e;exact⟨cur,_,_,(d.block g (Array.getElem?_eq_some_iff.1 q).1).trans q,by decide,by decide⟩
theorem AU {U w y:World}{a:Option Addr}{m c:Nat}{vs:List Value}{ks:List Pl.Tx}{kd:List Int}(h:Kz Ex U w a m c vs ks kd) (d:Bw w y) (l:List ByteArray) (hl:l.length<=4000){n:Nat}(hn:n=l.length):Rv Ex (y.alloc (.cells (l.map Value.string).toArray 9)) (.slice (some ⟨y.heap.size,0,none⟩) n n) (l.map Value.string):=xB l hl y _ _ _ (heap_alloc_new y _) hn (fun q=>by have:=h.nx _ q;have:=h.old.size;have:=d.size;omega)
theorem Kz.get {U w:World}{g:Nat}{m c:Nat}{vs:List Value}{ks:List Pl.Tx}{kd:List Int}(h:Kz Ex U w (some ⟨g,0,none⟩) m c vs ks kd){j:Nat}(hj:j<m):∃T d,(∀y,Bw w y->y.cell? ⟨g,j,none⟩=some (.iface T d))/\∀y,Bw w y->bA Ex y (kd.getD j 0) (.iface T d) (ks.getD j Pl.Tx.no):=by
 obtain⟨T,d,e⟩:=(h.kid j hj).ifc;obtain⟨g',e1,_,hlt,_,_,hc⟩:=h.at_ (by omega);cases e1;refine⟨T,d,fun y dy=>?_,fun y dy=>?_⟩
 ·rw[dy.cell (p:=⟨g,j,none⟩) hlt,hc j hj,e]
 ·have:=(h.kid j hj).on (h.old.trans (dy.mono h.old.size))
  rwa [e]at this
theorem Kz.drop {U w:World}{g:Nat}{m c:Nat}{vs:List Value}{ks:List Pl.Tx}{kd:List Int}(h:Kz Ex U w (some ⟨g,0,none⟩) m c vs ks kd) (k:Nat) (hk:k<=m) (hs:∀j,k<=j->j<m->Pl.aH (kd.getD j 0)≠1){y:World}(dy:Bw w y){a':Option Addr}(c':Nat) (ha:a'=some ⟨g,k,none⟩\/k=m):ShR Ex y (.slice a' (m-k) c') (vs.drop k) (ks.drop k):=by
 have hv:=h.vl;have hkl:=h.kl;have hl:(vs.drop k).length=m-k:=by rw[List.length_drop,hv]
 have hD:∀ {α:Type} (l:List α) (d:α) (j:Nat),(l.drop k).getD j d=l.getD (k+j) d:=fun l d j=>by rw[List.getD_eq_getElem?_getD,List.getElem?_drop,List.getD_eq_getElem?_getD]
 refine⟨⟨a',c',by rw[hl],by rw[hl];have:=h.few;omega,?_⟩,by rw[List.length_drop,List.length_drop,hv,hkl],fun j hj=>?_⟩
 ·by_cases q:m-k=0
  ·exact .inl (by rw[hl];exact q)
  ·rcases ha with rfl|ha
   ·obtain⟨g',e1,hge,hlt,_,_,hc⟩:=h.at_ (by omega);cases e1;refine .inr ⟨g,k,rfl,h.tp dy,(fun q=>by have:=h.nx _ q;omega),fun j hj=>?_⟩;rw[dy.cell (p:=⟨g,k+j,none⟩) hlt,hc (k+j) (by omega),hD]
   ·omega
 ·rw[hD,hD];exact (((h.kid (k+j) (by omega)).on (h.old.trans (dy.mono h.old.size))).pr (hs (k+j) (by omega) (by omega)))
theorem Kz.all {U w:World}{a:Option Addr}{m c:Nat}{vs:List Value}{ks:List Pl.Tx}{kd:List Int}(h:Kz Ex U w a m c vs ks kd) (hs:∀j,j<m->Pl.aH (kd.getD j 0)≠1){y:World}(dy:Bw w y):ShR Ex y (.slice a m c) vs ks:=by
 by_cases q:m=0
 ·have h1:=h.vl;have h2:=h.kl;rw[List.eq_nil_of_length_eq_zero (h1.trans q),List.eq_nil_of_length_eq_zero (h2.trans q),q];exact ShR.nil
 ·obtain⟨g,rfl,_⟩:=h.at_ (by omega);have:=h.drop 0 (by omega) (fun j _ h2=>hs j h2) dy c (.inl rfl);simpa using this
theorem Kz.take {U w:World}{g:Nat}{m c:Nat}{vs:List Value}{ks:List Pl.Tx}{kd:List Int}(h:Kz Ex U w (some ⟨g,0,none⟩) m c vs ks kd) (k:Nat) (hk:k<=m) (hs:∀j,j<k->Pl.aH (kd.getD j 0)≠1){y:World}(dy:Bw w y) (c':Nat):ShR Ex y (.slice (some ⟨g,0,none⟩) k c') (vs.take k) (ks.take k):=by
 have hv:=h.vl;have hkl:=h.kl;have hl:(vs.take k).length=k:=by rw[List.length_take,hv];omega
 have hD:∀ {α:Type} (l:List α) (d:α) (j:Nat),j<k->(l.take k).getD j d=l.getD j d:=fun l d j hj=>by rw[List.getD_eq_getElem?_getD,List.getElem?_take_of_lt hj,List.getD_eq_getElem?_getD]
 refine⟨⟨_,c',by rw[hl],by rw[hl];have:=h.few;omega,?_⟩,by rw[List.length_take,hl,hkl];omega,fun j hj=>?_⟩
 ·by_cases q:k=0
  ·exact .inl (by rw[hl];exact q)
  ·obtain⟨g',e1,hge,hlt,_,_,hc⟩:=h.at_ (by omega);cases e1;refine .inr ⟨g,0,rfl,h.tp dy,(fun q=>by have:=h.nx _ q;omega),fun j hj=>?_⟩;rw[dy.cell (p:=⟨g,0+j,none⟩) hlt,Nat.zero_add,hc j (by omega),hD _ _ _ (by omega)]
 ·rw[hD _ _ _ (by omega),hD _ _ _ (by omega)];exact ((h.kid j (by omega)).on (h.old.trans (dy.mono h.old.size))).pr (hs j (by omega))
def yJ (Ex:Nat->Prop) (U w:World) (x:Pl.Nd) (t:Pl.Tx) (e:Ending) (u':World):Prop:=∃T d,e=.returned (.iface T d)/\Below U.heap.size w u'/\bA Ex u' x.k (.iface T d) t
theorem tQ {w W:World}{o:Obj}(h:Bw w W):Bw w (W.alloc o):=h.trans ((aA W o).mono h.size)
def Pl.BK (k:Int) (kd:List Int):Prop:=Pl.Fit (Pl.rG (Pl.dM.getD k.toNat [])).1 (Pl.rG (Pl.dM.getD k.toNat [])).2.1 (Pl.rG (Pl.dM.getD k.toNat [])).2.2 kd
theorem Pl.BK.of {k k':Int}{kd:List Int}(h:Pl.BK k kd) (e:k=k'):Pl.BK k' kd:=e ▸ h
section
variable {U w y:World}{a:Option Addr}{m c:Nat}{vs:List Value}{ks:List Pl.Tx}{kd F:List Int}{more:Int}{most:Nat}
theorem Kz.ga (n:Nat) (h:Kz Ex U w a m c vs ks kd) (f:Pl.Fit F more most kd) (hn:F.length=n:=by rfl) (h0:0<n:=by decide):Pl.Fit F more most kd/\kd.length=m/\n<=kd.length/\kd.length<=n+most/\∃ga,a=some ⟨ga,0,none⟩/\ga<w.heap.size/\m<=c/\c<=maxLen/\(0:Int)<(m:Int):=by
 have h1:=f.1;have h2:=f.2.1;have h3:=h.dl;obtain⟨g,e,_,h4,h5,h6,_⟩:=h.at_ (by omega);exact⟨f,h3,by omega,by omega,g,e,h4,h5,h6,by omega⟩
theorem Kz.gj {g:Nat}(h:Kz Ex U w (some ⟨g,0,none⟩) m c vs ks kd) (d:Bw w y) (j:Nat) (hj:j<m:=by omega):∃T d,y.cell? ⟨g,j,none⟩=some (.iface T d)/\Hid (∀y,Bw w y->bA Ex y (kd.getD j 0) (.iface T d) (ks.getD j Pl.Tx.no)):=by
 obtain⟨T,e,h1,h2⟩:=h.get hj;exact⟨T,e,h1 y d,h2⟩
theorem xC {j:Nat}{v:Value}{t:Pl.Tx}(N:Hid (∀y,Bw w y->bA Ex y (kd.getD j 0) v t)) (d:Bw w y) (f:Pl.Fit F more most kd) (hj:j<kd.length:=by omega) (h1:(if j<F.length then F.getD j 0 else more)≠116:=by decide) (h2:(if j<F.length then F.getD j 0 else more)≠70:=by decide):kR Ex y v t:=(N.o y d).pr (Pl.jV (f.2.2 j hj) h1 h2)
theorem Kz.got {lit:Pl.Nd->ByteArray}{x:Pl.Nd}{TX:Pl.Tx}{T:TypeId}{d:Value}(h:Kz Ex U w a m c vs ks kd) (HT:TX=Pl.aR lit x ks) (g:Bw w y->bA Ex y x.k (.iface T d) (Pl.aR lit x ks)) (dd:Bw w y:=by repeat (first|exact Hid.o (by assumption)|refine Below.drew ?_|refine below_drewN ?_ _|refine tQ ?_)):yJ Ex U w x TX (.returned (.iface T d)) y:=⟨_,_,rfl,dd.mono h.old.size,HT ▸ g dd⟩
end
theorem Py {w y:World}{cs:Array Value}{t:TypeId}(hy:y=w.alloc (.cells cs t)):∃n0,n0=w.heap.size/\Hid (y.heap[n0]?=some (.cells cs t))/\Hid (Bw w y)/\(∀j,y.cell? ⟨n0,j,none⟩=cs[j]?)/\Hid (n0<y.heap.size):=by
 subst hy;exact⟨_,rfl,heap_alloc_new w _,aA w _,fun j=>cell_of_row _ _ j _ t (0,0) (heap_alloc_new w _),by simp[Hid]⟩
abbrev C2 (n j g:Nat) (v d:Value) (w:World):Prop:=w.cell? ⟨n,j,none⟩=some v/\w.cell? ⟨g,0,none⟩=some d
theorem Eg {w y:World}{p q:Addr}{a b:Value}(h:w.cell? p=some a/\w.cell? q=some b) (d:Bw w y:=by apply_rules [Below.refl,Below.drew,below_drewN,tQ]):y.cell? p=some a/\y.cell? q=some b:=⟨(d.cell (block_lt_of_cell h.1)).trans h.1,(d.cell (block_lt_of_cell h.2)).trans h.2⟩
theorem kq3 {w y:World}{p q r:Addr}{a b c:Value}(h:w.cell? p=some a/\w.cell? q=some b/\w.cell? r=some c) (d:Bw w y:=by apply_rules [Below.refl,Below.drew,below_drewN,tQ]):y.cell? p=some a/\y.cell? q=some b/\y.cell? r=some c:=⟨(d.cell (block_lt_of_cell h.1)).trans h.1,Eg h.2 d⟩
variable {Ex:Nat->Prop}
theorem Pl.aEI (a b:ByteArray):[a,b].flatMap Pl.say=Pl.say a++Pl.say b:=by simp
theorem Pl.Xm {n:Int}(h1:1<=n) (h2:n<=7):(Pl.BJ.getD n.toNat []).flatMap Pl.say=Pl.say (Pl.CX Pl.PM n):=by
 have:n=1\/n=2\/n=3\/n=4\/n=5\/n=6\/n=7:=by omega
 rcases this with rfl|rfl|rfl|rfl|rfl|rfl|rfl <;> decide +kernel
set_option maxRecDepth 4000 in
theorem aCS {U w:World}{a:Option Addr}{m c:Nat}{vs:List Value}{ks:List Pl.Tx}{kd:List Int}{lit:Pl.Nd->ByteArray}(x:Pl.Nd) (v:SV) (hK:Kz Ex U w a m c vs ks kd) (hf:Pl.BK x.k kd) (hN:x.k=1->1<=x.n/\x.n<=7) (hM:x.k=5->1<=x.m/\x.m<=3) (hk:x.k=1\/x.k=2\/x.k=3\/x.k=4\/x.k=5\/x.k=6):Calls Tryz.prog 74 #[.agg #[.int .i64 x.k,.int .i64 x.m,.int .i64 x.n,.string x.s,.slice v.a v.len v.cap,.int .i64 x.line,.int .i64 x.aQ],.slice a m c] w fun e u'=>yJ Ex U w x (Pl.aR lit x ks) e u':=by
 have HK:Hid (x.k=1\/x.k=2\/x.k=3\/x.k=4\/x.k=5\/x.k=6):=hk;have KD:Hid (Kz Ex U w a m c vs ks kd):=hK;have HF:Hid (Pl.BK x.k kd):=hf;obtain⟨TX,FN⟩:∃TX,TX=Pl.aR lit x ks:=⟨_,rfl⟩;have HT:Hid (TX=Pl.aR lit x ks):=FN;rw[<- FN];clear hK hf hk FN;go_enter Tryz.func74,Tryz.ntmps74;go_upto_region 1 with fail
 refine aG fun y hy=>?_;obtain⟨n0,hn0,QB,D,kb,HY⟩:=Py hy;rw[<- hn0];clear hy hn0;have hk:=HK.o;clear HK;rcases hk with hk|hk|hk|hk|hk|hk
 ·have hn1:1<=x.n:=(hN hk).1;have hn2:x.n<=7:=(hN hk).2;have VX:(0:Int)<=x.n:=by omega
  have hn4:x.n<8:=by omega
  have c2:y.cell? ⟨n0,2,none⟩=some (.int .i64 x.n):=kb 2;go_upto_region 3 with fail
  go_region_with ((go_at_call 107;refine (Xl _ (fun k q=>by have h1:=KD.o.nx k q;have h2:=KD.o.old.size;have h3:=D.o.size;show k<y.heap.size;omega)).mono ?_;rintro e z ⟨g9,rfl,VM,sZ,d9⟩;have d8:Bw y z:=Below.trans (by repeat (first|exact Below.refl _ _|refine Below.drew ?_|refine below_drewN ?_ _)) d9;obtain⟨b8,n8,c8,r8⟩:=sZ x.n.toNat (by omega) (by omega);have c9:z.cell? ⟨n0,2,none⟩=some (.int .i64 x.n):=(d8.cell (p:=⟨n0,2,none⟩) HY.o).trans c2;have R8:Hid (Rv Ex z (.slice (some ⟨b8,0,none⟩) n8 n8) ((Pl.BJ.getD x.n.toNat []).map Value.string)):=r8;have D8:Hid (Bw w z):=D.o.trans (d8.mono D.o.size);clear sZ d9 d8 r8 VM))
  go_wp2_with fail
  all_goals
   go_ret;refine KD.o.got HT.o fun dd=>?_;unfold Pl.aR;rw[hk];exact bA.Eu (by rw[<- Pl.Xm hn1 hn2];exact FK R8.o)
 ·obtain⟨f9,l9,l7,l6,ga,rfl,hg2,hmc,hcm,hl1⟩:=KD.o.ga 1 (F:=[116]) (more:=0) (most:=0) (HF.o.of hk);obtain⟨T0,d0,q0,oZ⟩:=KD.o.gj D.o 0;go_wp2_with fail
  all_goals
   go_ret;refine KD.o.got HT.o fun dd=>?_;unfold Pl.aR;rw[hk];exact bA.Eu (YK ((oZ.o _ dd).ty (Pl.tN (f9.2.2 0 (by omega)))))
 ·obtain⟨f9,l9,l7,l6,ga,rfl,hg2,hmc,hcm,hl1⟩:=KD.o.ga 1 (F:=[116]) (more:=101) (most:=1) (HF.o.of hk);have hl0:(1:Int)<=(m:Int):=by omega
  obtain⟨T0,d0,q0,oZ⟩:=KD.o.gj D.o 0;go_upto_region 9 with fail
  go_quiet (fail)
  go_wp2_with fail
  all_goals
   go_ret;refine KD.o.got HT.o fun dd=>?_;unfold Pl.aR;rw[hk];exact bA.Eu (Pt ((oZ.o _ dd).ty (Pl.tN (f9.2.2 0 (by omega)))) (KD.o.drop 1 (by omega) (fun j h1 h2=>Pl.jV (Pl.kZ f9 h1 (by omega)) (by decide) (by decide)) dd _ (by first|exact .inl rfl|(right;omega))))
 ·obtain⟨f9,l9,l7,l6,ga,rfl,hg2,hmc,hcm,hl1⟩:=KD.o.ga 1 (F:=[116]) (more:=112) (most:=4000) (HF.o.of hk);have hl0:(1:Int)<=(m:Int):=by omega
  obtain⟨T0,d0,q0,oZ⟩:=KD.o.gj D.o 0;go_upto_region 11 with fail
  go_quiet (fail)
  go_wp2_with fail
  all_goals
   go_ret;refine KD.o.got HT.o fun dd=>?_;unfold Pl.aR;rw[hk];exact bA.Eu (SS ((oZ.o _ dd).ty (Pl.tN (f9.2.2 0 (by omega)))) (KD.o.drop 1 (by omega) (fun j h1 h2=>Pl.jV (Pl.kZ f9 h1 (by omega)) (by decide) (by decide)) dd _ (by first|exact .inl rfl|(right;omega))))
 ·have hn1:1<=x.m:=(hM hk).1;have hn2:x.m<=3:=(hM hk).2;have VX:(0:Int)<=x.m:=by omega
  have hn4:x.m<4:=by omega
  have c2:y.cell? ⟨n0,1,none⟩=some (.int .i64 x.m):=kb 1;have c3:y.cell? ⟨n0,3,none⟩=some (.string x.s):=kb 3;go_upto_region 5 with fail
  go_region_with ((go_at_call 108;refine (Bp _).mono ?_;rintro e z ⟨g9,rfl,VM,Ev,sZ,d9⟩;have d8:Bw y z:=Below.trans (by repeat (first|exact Below.refl _ _|refine Below.drew ?_|refine below_drewN ?_ _)) d9;have c8:=sZ x.m.toNat (by omega);have c91:z.cell? ⟨n0,1,none⟩=some (.int .i64 x.m):=(d8.cell (p:=⟨n0,1,none⟩) HY.o).trans (kb 1);have c93:z.cell? ⟨n0,3,none⟩=some (.string x.s):=(d8.cell (p:=⟨n0,3,none⟩) HY.o).trans (kb 3);have D8:Hid (Bw w z):=D.o.trans (d8.mono D.o.size);clear sZ d9 d8 VM Ev))
  go_wp2_with fail
  all_goals
   go_ret;refine KD.o.got HT.o fun dd=>?_;unfold Pl.aR;rw[hk];exact bA.Eu (show NS Ex _ _ (Pl.uW (Pl.say (Pl.CX Pl.BA x.m)++Pl.say x.s) [] false) from by rw[<- Pl.aEI];exact FK (AU KD.o (by first|exact D.o|exact D8.o) [Pl.CX Pl.BA x.m,x.s] (by simp) rfl))
 ·go_wp2_with fail
  all_goals
   go_ret;refine KD.o.got HT.o fun dd=>?_;unfold Pl.aR;rw[hk];exact bA.Eu (by simpa using FK (AU KD.o (by first|exact D.o|exact D8.o) [x.s] (by simp) rfl))
variable {Ex:Nat->Prop}
theorem CP {U:World}:Rv Ex U (.slice none 0 0) (([]:List ByteArray).map Value.string):=Rv.nil
set_option maxRecDepth 4000 in
theorem aCT {U w:World}{a:Option Addr}{m c:Nat}{vs:List Value}{ks:List Pl.Tx}{kd:List Int}{lit:Pl.Nd->ByteArray}(x:Pl.Nd) (v:SV) (hK:Kz Ex U w a m c vs ks kd) (hf:Pl.BK x.k kd) (hM:x.k=10->1<=x.m/\x.m<=2) (hNm:x.k=7\/x.k=8\/x.k=12\/x.k=13\/x.k=14->NmS x.s) (hk:x.k=7\/x.k=8\/x.k=9\/x.k=10\/x.k=11\/x.k=12\/x.k=13\/x.k=14\/x.k=15\/x.k=16):Calls Tryz.prog 75 #[.agg #[.int .i64 x.k,.int .i64 x.m,.int .i64 x.n,.string x.s,.slice v.a v.len v.cap,.int .i64 x.line,.int .i64 x.aQ],.slice a m c] w fun e u'=>yJ Ex U w x (Pl.aR lit x ks) e u':=by
 have HK:Hid (x.k=7\/x.k=8\/x.k=9\/x.k=10\/x.k=11\/x.k=12\/x.k=13\/x.k=14\/x.k=15\/x.k=16):=hk;have KD:Hid (Kz Ex U w a m c vs ks kd):=hK;have HF:Hid (Pl.BK x.k kd):=hf;obtain⟨TX,FN⟩:∃TX,TX=Pl.aR lit x ks:=⟨_,rfl⟩;have HT:Hid (TX=Pl.aR lit x ks):=FN;rw[<- FN];clear hK hf hk FN;go_enter Tryz.func75,Tryz.ntmps75;go_upto_region 1 with fail
 refine aG fun y hy=>?_;obtain⟨n0,hn0,QB,D,kb,HY⟩:=Py hy;rw[<- hn0];clear hy hn0;go_upto_region 2 with fail
 refine aG fun y2 hy2=>?_;obtain⟨n1,hn1⟩:∃n,n=y.heap.size:=⟨_,rfl⟩;rw[<- hn1];have RE:Hid (∀z,Bw y2 z->Rv Ex z (.slice (some ⟨n1,0,none⟩) 1 1) ([⟨#[59]⟩].map Value.string)):=fun z dz=>(xB [⟨#[59]⟩] (by simp) w y2 n1 1 (by rw[hy2,hn1];exact heap_alloc_new y _) rfl (fun q=>by have h1:=KD.o.nx _ q;have h2:=KD.o.old.size;have h3:=D.o.size;omega)).on dz;have d7:Bw y y2:=by rw[hy2];exact aA y _
 replace QB:Hid (y2.heap[n0]?=some (.cells #[.int .i64 x.k,.int .i64 x.m,.int .i64 x.n,.string x.s,.slice v.a v.len v.cap,.int .i64 x.line,.int .i64 x.aQ] 45)):=(d7.block n0 (Array.getElem?_eq_some_iff.1 QB.o).1).trans QB.o;replace D:Hid (Bw w y2):=D.o.trans (d7.mono D.o.size);clear hy2 hn1 d7 kb HY;have kb:∀j,y2.cell? ⟨n0,j,none⟩=(#[.int .i64 x.k,.int .i64 x.m,.int .i64 x.n,.string x.s,.slice v.a v.len v.cap,.int .i64 x.line,.int .i64 x.aQ]:Array Value)[j]?:=fun j=>cell_of_row y2 n0 j _ 45 (0,0) QB.o;have HY:Hid (n0<y2.heap.size):=(Array.getElem?_eq_some_iff.1 QB.o).1;clear y;obtain⟨y,Tg⟩:∃y,y=y2:=⟨_,rfl⟩;subst Tg;have hk:=HK.o;clear HK;rcases hk with hk|hk|hk|hk|hk|hk|hk|hk|hk|hk
 ·obtain⟨f9,l9,l7,l6,ga,rfl,hg2,hmc,hcm,hl1⟩:=KD.o.ga 1 (F:=[116]) (more:=0) (most:=0) (HF.o.of hk);obtain⟨T0,d0,q0,oZ⟩:=KD.o.gj D.o 0;go_upto_region 4 with fail
  go_quiet (fail)
  go_wp2_with fail
  all_goals
   go_ret;refine KD.o.got HT.o fun dd=>?_;unfold Pl.aR;rw[hk];exact bA.nC (by simpa [Pl.FZ] using yI (L1:=[]) (L3:=[]) (hNm (by simp[hk])) CP CP ((oZ.o _ dd).ty (Pl.tN (f9.2.2 0 (by omega)))) (ShR.nil (c:=0) (a:=none)))
 ·obtain⟨f9,l9,l7,l6,ga,rfl,hg2,hmc,hcm,hl1⟩:=KD.o.ga 1 (F:=[116]) (more:=0) (most:=0) (HF.o.of hk);obtain⟨T0,d0,q0,oZ⟩:=KD.o.gj D.o 0;go_upto_region 6 with fail
  go_quiet (fail)
  go_wp2_with fail
  all_goals
   go_ret;refine KD.o.got HT.o fun dd=>?_;unfold Pl.aR;rw[hk];exact bA.nC (by simpa [Pl.FZ] using yI (L1:=[]) (L3:=[⟨#[59]⟩]) (hNm (by simp[hk])) CP (RE.o _ (below_drewN (Below.refl _ _) _)) ((oZ.o _ dd).ty (Pl.tN (f9.2.2 0 (by omega)))) (ShR.nil (c:=0) (a:=none)))
 ·have f9:Pl.Fit [] 101 1 kd:=by have:=HF.o;rw[hk]at this;exact this
  have l9:=KD.o.dl;have l7:0<=kd.length:=f9.1;have l6:kd.length<=0+1:=f9.2.1;go_wp2_with fail
  all_goals
   go_ret;refine KD.o.got HT.o fun dd=>?_;unfold Pl.aR;rw[hk];exact bA.nC (Et (KD.o.all (fun j h2=>Pl.jV (Pl.kZ f9 (Nat.zero_le _) (by omega)) (by decide) (by decide)) dd))
 ·have f9:Pl.Fit [102] 102 4000 kd:=by have:=HF.o;rw[hk]at this;exact this
  have l9:=KD.o.dl;have l7:1<=kd.length:=f9.1;have l6:kd.length<=1+4000:=f9.2.1;have hn1:1<=x.m:=(hM hk).1;have hn2:x.m<=2:=(hM hk).2;have VX:(0:Int)<=x.m:=by omega
  have hn4:x.m<4:=by omega
  have c2:y.cell? ⟨n0,1,none⟩=some (.int .i64 x.m):=kb 1;have c3:y.cell? ⟨n0,3,none⟩=some (.string x.s):=kb 3;go_upto_region 14 with fail
  refine wp_region_held_drew (S:=(fun w2=>w2.cell? ⟨n0,1,none⟩=some (.int .i64 x.m)/\w2.cell? ⟨n0,3,none⟩=some (.string x.s))) (by kernel_rfl) (Eg ⟨c2,c3⟩) fun hH=>?_;refine Vg [1,2,5,6,8] hH ?_
  iterate 5 (refine⟨_,_,_,rfl,rfl,by kernel_rfl,by rfl,fun _ _ _ h=>h,fun w h=>by go_simp;try with_reducible rfl,?_⟩)
  refine one 0 (by kernel_rfl) rfl fun K9 hK=>?_
  go_simp
  refine (Bp _).mono ?_;rintro e z ⟨g9,rfl,VM,Ev,sZ,d9⟩;have d8:Bw y z:=Below.trans (by apply_rules [Below.refl,Below.drew,below_drewN]) d9;have c8:=sZ x.m.toNat (by omega);have D8:Hid (Bw w z):=D.o.trans (d8.mono D.o.size);clear sZ d9 VM Ev;refine hK.out _ _ (Eg ⟨c2,c3⟩ d8) fun hH=>?_;clear hK K9;refine Ei [3,4] hH ?_
  iterate 2 (refine⟨_,_,_,rfl,rfl,by kernel_rfl,by rfl,by go_simp;try with_reducible rfl,?_⟩)
  refine one 7 (by kernel_rfl) rfl fun K9 hK=>?_
  go_simp
  refine hK.out _ _ (by first|exact Eg ⟨c2,c3⟩|exact Eg hH) fun hH=>?_;clear hK K9;refine Ei [9,10,11] hH ?_
  iterate 3 (refine⟨_,_,_,rfl,rfl,by kernel_rfl,by rfl,by go_simp;try with_reducible rfl,?_⟩)
  refine wpAnyH_done (by kernel_rfl) ?_ _;go_wp2_with fail
  all_goals
   go_ret;refine KD.o.got HT.o fun dd=>?_;unfold Pl.aR;rw[hk];exact bA.nC (show kR Ex _ _ (Pl.nD (Pl.say (Pl.BA.getD x.m.toNat ⟨#[]⟩)++Pl.say x.s++Pl.say ⟨#[123]⟩++Pl.wF ks++Pl.say ⟨#[125]⟩++Pl.say ⟨#[59]⟩)) from by simpa [Pl.nD] using NT (AU KD.o (by first|exact D.o|exact D8.o) [Pl.BA.getD x.m.toNat ⟨#[]⟩,x.s] (by simp) rfl) (KD.o.all (fun j h2=>Pl.jV (Pl.DR f9 (by omega)) (by decide) (by decide)) dd))
 ·have f9:Pl.Fit [99] 99 4000 kd:=by have:=HF.o;rw[hk]at this;exact this
  have l9:=KD.o.dl;have l7:1<=kd.length:=f9.1;have l6:kd.length<=1+4000:=f9.2.1;go_wp2_with fail
  all_goals
   go_ret;refine KD.o.got HT.o fun dd=>?_;unfold Pl.aR;rw[hk];exact bA.nC (show kR Ex _ _ (Pl.nD (Pl.say ⟨#[101,110,117,109]⟩++Pl.say x.s++Pl.say ⟨#[123]⟩++Pl.wG ks++Pl.say ⟨#[125]⟩++Pl.say ⟨#[59]⟩)) from by simpa [Pl.nD] using FL (AU KD.o (by first|exact D.o|exact D8.o) [⟨#[101,110,117,109]⟩,x.s] (by simp) rfl) (KD.o.all (fun j h2=>Pl.jV (Pl.DR f9 (by omega)) (by decide) (by decide)) dd))
 ·obtain⟨f9,l9,l7,l6,ga,rfl,hg2,hmc,hcm,hl1⟩:=KD.o.ga 1 (F:=[116]) (more:=0) (most:=0) (HF.o.of hk);obtain⟨T0,d0,q0,oZ⟩:=KD.o.gj D.o 0;have c3:y.cell? ⟨n0,3,none⟩=some (.string x.s):=kb 3;go_upto_region 8 with fail
  have hl4:0<m:=by omega
  refine wp_region_held_drew (S:=(fun w2=>w2.cell? ⟨n0,3,none⟩=some (.string x.s)/\w2.cell? ⟨ga,0,none⟩=some (.iface T0 d0))) (by kernel_rfl) (Eg ⟨c3,q0⟩) fun hH=>?_;refine Vg [1,2,3,4,5,6] hH ?_
  iterate 6 (refine⟨_,_,_,rfl,rfl,by kernel_rfl,by rfl,fun _ _ _ h=>h,fun w h=>by go_simp;try with_reducible rfl,?_⟩)
  refine one 0 (by kernel_rfl) rfl fun K9 hK=>?_
  go_simp
  refine hK.out _ _ (by first|exact Eg ⟨c3,q0⟩|exact Eg hH) fun hH=>?_;clear hK K9;refine Ei [7,8,9] hH ?_
  iterate 3 (refine⟨_,_,_,rfl,rfl,by kernel_rfl,by rfl,by go_simp;try with_reducible rfl,?_⟩)
  refine wpAnyH_done (by kernel_rfl) ?_ _;go_wp2_with fail
  all_goals
   go_ret;refine KD.o.got HT.o fun dd=>?_;unfold Pl.aR;rw[hk];exact bA.nC (Eq.mp (congrArg (kR Ex _ _) (by simp[Pl.FZ])) (yI (L1:=[⟨#[116,121,112,101,100,101,102]⟩]) (L3:=[⟨#[59]⟩]) (hNm (by simp[hk])) (AU KD.o (by first|exact D.o|exact D8.o) [⟨#[116,121,112,101,100,101,102]⟩] (by simp) rfl) (RE.o _ (by repeat (first|exact Below.refl _ _|refine Below.drew ?_|refine below_drewN ?_ _|refine tQ ?_))) ((oZ.o _ dd).ty (Pl.tN (f9.2.2 0 (by omega)))) (ShR.nil (c:=0) (a:=none))))
 ·obtain⟨f9,l9,l7,l6,ga,rfl,hg2,hmc,hcm,hl1⟩:=KD.o.ga 1 (F:=[116]) (more:=105) (most:=1) (HF.o.of hk);have hl0:(1:Int)<=(m:Int):=by omega
  obtain⟨T0,d0,q0,oZ⟩:=KD.o.gj D.o 0;go_upto_region 10 with fail
  go_quiet (fail)
  go_wp2_with fail
  all_goals
   go_ret;refine KD.o.got HT.o fun dd=>?_;unfold Pl.aR;rw[hk];exact bA.nC (by simpa using yI (L1:=[]) (L3:=[⟨#[59]⟩]) (hNm (by simp[hk])) CP (RE.o _ (below_drewN (Below.refl _ _) _)) ((oZ.o _ dd).ty (Pl.tN (f9.2.2 0 (by omega)))) (KD.o.drop 1 (by omega) (fun j h1 h2=>Pl.jV (Pl.kZ f9 h1 (by omega)) (by decide) (by decide)) dd _ (by first|exact .inl rfl|(right;omega))))
 ·obtain⟨f9,l9,l7,l6,ga,rfl,hg2,hmc,hcm,hl1⟩:=KD.o.ga 2 (F:=[70,66]) (more:=0) (most:=0) (HF.o.of hk);have hl2:(1:Int)<(m:Int):=by omega
  obtain⟨T0,d0,q0,oZ⟩:=KD.o.gj D.o 0;obtain⟨T1,d1,q1,FO⟩:=KD.o.gj D.o 1;go_upto_region 12 with fail
  go_quiet (fail)
  go_wp2_with fail
  all_goals
   go_ret;refine KD.o.got HT.o fun dd=>?_;unfold Pl.aR;rw[hk];exact bA.nC (JB (hNm (by simp[hk])) ((oZ.o _ dd).ty ((fun q=>by rw[Pl.aA3 q];decide) (f9.2.2 0 (by omega)))) (xC FO dd f9))
 ·have f9:Pl.Fit [] 100 4000 kd:=by have:=HF.o;rw[hk]at this;exact this
  have l9:=KD.o.dl;have l7:0<=kd.length:=f9.1;have l6:kd.length<=0+4000:=f9.2.1;go_wp2_with fail
  all_goals
   go_ret;refine KD.o.got HT.o fun dd=>?_;unfold Pl.aR;rw[hk];exact bA.nC (Xh (KD.o.all (fun j h2=>Pl.jV (Pl.kZ f9 (Nat.zero_le _) (by omega)) (by decide) (by decide)) dd))
 ·have f9:Pl.Fit [73] 73 4000 kd:=by have:=HF.o;rw[hk]at this;exact this
  have l9:=KD.o.dl;have l7:1<=kd.length:=f9.1;have l6:kd.length<=1+4000:=f9.2.1;go_wp2_with fail
  all_goals
   go_ret;refine KD.o.got HT.o fun dd=>?_;unfold Pl.aR;rw[hk];exact bA.nC (Xg (KD.o.all (fun j h2=>Pl.jV (Pl.DR f9 (by omega)) (by decide) (by decide)) dd))
variable {Ex:Nat->Prop}
theorem al2 (w:World) (o1 o2:Obj):((w.alloc o1).alloc o2).heap[w.heap.size+1]?=some o2:=by
 have:=heap_alloc_new (w.alloc o1) o2
 rwa [World.size_alloc]at this
def Pl.NZ (x:Pl.Nd):List ByteArray:=if x.k=29 then [⟨#[103,111,116,111]⟩,x.s] else if x.k=30 then [⟨#[98,114,101,97,107]⟩] else if x.k=31 then [⟨#[99,111,110,116,105,110,117,101]⟩] else if x.k=32 then [⟨#[114,101,116,117,114,110]⟩] else []
set_option maxRecDepth 4000 in
theorem aEJ (x:Pl.Nd) (v:SV) (hk:x.k=29\/x.k=30\/x.k=31\/x.k=32\/x.k=19\/x.k=20) (w:World) (hX:∀k,Ex k->k<w.heap.size):Calls Tryz.prog 110 #[.agg #[.int .i64 x.k,.int .i64 x.m,.int .i64 x.n,.string x.s,.slice v.a v.len v.cap,.int .i64 x.line,.int .i64 x.aQ]] w fun e u'=>∃a n c,e=.returned (.slice a n c)/\Rv Ex u' (.slice a n c) ((Pl.NZ x).map Value.string)/\Bw w u':=by
 rcases hk with hk|hk|hk|hk|hk|hk;all_goals
  obtain⟨L,hL⟩:∃L,L=Pl.NZ x:=⟨_,rfl⟩;rw[<- hL];have HL:Hid (L=Pl.NZ x):=hL;clear hL;go_enter Tryz.func110,Tryz.ntmps110;go_wp2;go_ret;rw[HL.o];unfold Pl.NZ;rw[hk]
  first
  | exact⟨_,_,_,rfl,xB [⟨#[103,111,116,111]⟩,x.s] (by simp) w _ _ _ (al2 _ _ _) rfl (fun q=>by have:=hX _ q;omega),tQ (aA w _)⟩
  | exact⟨_,_,_,rfl,xB [⟨#[98,114,101,97,107]⟩] (by simp) w _ _ _ (al2 _ _ _) rfl (fun q=>by have:=hX _ q;omega),tQ (aA w _)⟩
  | exact⟨_,_,_,rfl,xB [⟨#[99,111,110,116,105,110,117,101]⟩] (by simp) w _ _ _ (al2 _ _ _) rfl (fun q=>by have:=hX _ q;omega),tQ (aA w _)⟩
  | exact⟨_,_,_,rfl,xB [⟨#[114,101,116,117,114,110]⟩] (by simp) w _ _ _ (al2 _ _ _) rfl (fun q=>by have:=hX _ q;omega),tQ (aA w _)⟩
  | exact⟨_,_,_,rfl,Rv.nil,aA w _⟩
def aCU (Ex:Nat->Prop) (U w:World) (ks:List Pl.Tx) (e:Ending) (u':World):Prop:=∃c' T3 d3 v0 v1 v2 a,e=.returned (.iface 135 (.agg #[.slice a 3 c',.iface T3 d3]))/\Below U.heap.size w u'/\ShR Ex u' (.slice a 3 c') [v0,v1,v2] [ks.getD 0 Pl.Tx.no,ks.getD 1 Pl.Tx.no,Pl.nD ((ks.getD 2 Pl.Tx.no).th++Pl.say ⟨#[41]⟩)]/\kR Ex u' (.iface T3 d3) (ks.getD 3 Pl.Tx.no)
set_option maxRecDepth 4000 in
theorem aCV {U w:World}{a:Option Addr}{c:Nat}{vs:List Value}{ks:List Pl.Tx}{kd:List Int}(hK:Kz Ex U w a 4 c vs ks kd) (h0:Pl.aH (kd.getD 0 0)≠1) (h1:Pl.aH (kd.getD 1 0)≠1) (h2:kd.getD 2 0=19\/kd.getD 2 0=20) (h3:Pl.aH (kd.getD 3 0)≠1):Calls Tryz.prog 109 #[.slice a 4 c] w fun e u'=>aCU Ex U w ks e u':=by
 have KD:Hid (Kz Ex U w a 4 c vs ks kd):=hK;obtain⟨g,rfl,hg1,hg2,hmc,hcm,hc⟩:=hK.at_ (by omega);obtain⟨a1,n1,c1,a2,n2,c2,e2,p2⟩:=(hK.kid 2 (by omega)).en h2;obtain⟨T0,d0,e0⟩:=(hK.kid 0 (by omega)).ifc;obtain⟨T1,d1,e1⟩:=(hK.kid 1 (by omega)).ifc;obtain⟨T3,d3,e3⟩:=(hK.kid 3 (by omega)).ifc;obtain⟨cur,pI⟩:∃cur,w.heap[g]?=some (.cells cur 52 (0,0)):=by
  rcases hK.own.2 with ⟨e,_⟩|⟨g',cap,cur,e,_,hh,_⟩
  ·cases e
  ·cases e;exact⟨cur,hh⟩
 have P0:Hid (kR Ex U (.iface T0 d0) (ks.getD 0 Pl.Tx.no)):=by have:=(hK.kid 0 (by omega)).pr h0;rwa [e0]at this
 have P1:Hid (kR Ex U (.iface T1 d1) (ks.getD 1 Pl.Tx.no)):=by have:=(hK.kid 1 (by omega)).pr h1;rwa [e1]at this
 have P3:Hid (kR Ex U (.iface T3 d3) (ks.getD 3 Pl.Tx.no)):=by have:=(hK.kid 3 (by omega)).pr h3;rwa [e3]at this
 have P2:Hid (kR Ex U (.iface 129 (.agg #[.slice a1 n1 c1,.slice a2 n2 c2,.string ⟨#[41]⟩])) (Pl.nD ((ks.getD 2 Pl.Tx.no).th++Pl.say ⟨#[41]⟩))):=p2;have k0:w.cell? ⟨g,0,none⟩=some (.iface T0 d0):=(hc 0 (by omega)).trans (congrArg some e0);have k1:w.cell? ⟨g,1,none⟩=some (.iface T1 d1):=(hc 1 (by omega)).trans (congrArg some e1);have k2:w.cell? ⟨g,2,none⟩=some (.iface 129 (.agg #[.slice a1 n1 c1,.slice a2 n2 c2,.string ⟨#[59]⟩])):=(hc 2 (by omega)).trans (congrArg some e2);have k3:w.cell? ⟨g,3,none⟩=some (.iface T3 d3):=(hc 3 (by omega)).trans (congrArg some e3);have F0:∀j,w.frozen? ⟨g,j,none⟩=false:=fun j=>frozen_of_row w g j _ 52 pI;have hne:g≠w.heap.size:=by omega
 have aGZ:(4:Int)<=(c:Int):=by omega
 have HC:Hid (w.heap[g]?=some (.cells cur 52 (0,0))):=pI;have HG:Hid (U.heap.size<=g/\g<w.heap.size):=⟨hg1,hg2⟩;have ta:=uT;unfold uH Ta at ta;clear hK hc e0 e1 e2 e3 p2 h0 h1 h2 h3 pI hcm;go_enter Tryz.func109,Tryz.ntmps109;go_upto_region 5 with fail
 refine aG fun y hy=>?_;have dy:Below U.heap.size w y:=by rw[hy];exact Below.trans ((Below.refl _ _).setCell HG.o.1 _) ((aA _ _).mono (by rw[World.size_setCell];have:=HG.o;omega))
 have hblk:y.heap[g]?=some (.cells (cur.setIfInBounds 2 (.iface 129 (.agg #[.slice a1 n1 c1,.slice a2 n2 c2,.string ⟨#[41]⟩]))) 52 (0,0)):=by
  rw[hy,Below.heap_alloc _ _ g (by rw[World.size_setCell];exact HG.o.2),heap_setCell_same w g 2 _ 52 _ HC.o]
 have hat:∀j,w.cell? ⟨g,j,none⟩=cur[j]?:=fun j=>cell_of_row w g j _ 52 (0,0) HC.o;have yat:∀j,y.cell? ⟨g,j,none⟩=(cur.setIfInBounds 2 (.iface 129 (.agg #[.slice a1 n1 c1,.slice a2 n2 c2,.string ⟨#[41]⟩])))[j]?:=fun j=>cell_of_row y g j _ 52 (0,0) hblk;have y0:y.cell? ⟨g,0,none⟩=some (.iface T0 d0):=by rw[yat,Array.getElem?_setIfInBounds_ne (by decide),<- hat,k0]
 have y1:y.cell? ⟨g,1,none⟩=some (.iface T1 d1):=by rw[yat,Array.getElem?_setIfInBounds_ne (by decide),<- hat,k1]
 have y3:y.cell? ⟨g,3,none⟩=some (.iface T3 d3):=by rw[yat,Array.getElem?_setIfInBounds_ne (by decide),<- hat,k3]
 have y2:y.cell? ⟨g,2,none⟩=some (.iface 129 (.agg #[.slice a1 n1 c1,.slice a2 n2 c2,.string ⟨#[41]⟩])):=by
  have hs:2<cur.size:=by have:=hat 2;rw[k2]at this;exact (Array.getElem?_eq_some_iff.1 this.symm).1
  rw[yat,Array.getElem?_setIfInBounds_self,if_pos hs]
 have HY:Hid (Below U.heap.size w y/\Tp y g/\y.cell? ⟨g,0,none⟩=some (.iface T0 d0)/\y.cell? ⟨g,1,none⟩=some (.iface T1 d1)/\y.cell? ⟨g,2,none⟩=some (.iface 129 (.agg #[.slice a1 n1 c1,.slice a2 n2 c2,.string ⟨#[41]⟩]))):=⟨dy,⟨_,_,_,hblk,by decide,by decide⟩,y0,y1,y2⟩;clear hy dy hblk hat yat y0 y1 y2 k0 k1 k2 k3 F0;go_quiet (fail)
 go_wp2_with fail
 all_goals
  go_ret;have dd:Bw U (y.drewN nq):=KD.o.old.trans (below_drewN HY.o.1 nq);refine⟨_,T3,d3,.iface T0 d0,.iface T1 d1,.iface 129 (.agg #[.slice a1 n1 c1,.slice a2 n2 c2,.string ⟨#[41]⟩]),_,rfl,below_drewN HY.o.1 nq,⟨⟨_,_,rfl,by simp,.inr ⟨g,0,rfl,HY.o.2.1,(fun q=>by have:=KD.o.nx _ q;have:=HG.o.1;omega),fun j hj=>?_⟩⟩,rfl,fun j hj=>?_⟩,P3.o.on dd⟩
  ·match j,hj with
   | 0,_=>exact HY.o.2.2.1
   | 1,_=>exact HY.o.2.2.2.1
   | 2,_=>exact HY.o.2.2.2.2
  ·match j,hj with
   | 0,_=>exact P0.o.on dd
   | 1,_=>exact P1.o.on dd
   | 2,_=>exact P2.o.on dd
variable {Ex:Nat->Prop}
theorem kR.cg {U:World}{v:Value}{t t':Pl.Tx}(h:kR Ex U v t) (h1:t.pr=t'.pr) (h2:t.rk=t'.rk):kR Ex U v t':=⟨h1 ▸ h.pr,h2 ▸ h.rk⟩
theorem Kz.on {U w y:World}{a:Option Addr}{m c:Nat}{vs:List Value}{ks:List Pl.Tx}{kd:List Int}(h:Kz Ex U w a m c vs ks kd) (d:Bw w y):Kz Ex U y a m c vs ks kd:=⟨dK h.own fun k hk=>d.block k (h.own.lt k hk).2,h.old.trans (d.mono h.old.size),h.kl,h.dl,h.few,h.nx,h.kid⟩
theorem Ew (x:Pl.Nd) (v:SV) (k:Int) (hx:x.k=k) (hk:k=29\/k=30\/k=31\/k=32\/k=19\/k=20) (w:World) (hX:∀k,Ex k->k<w.heap.size):Calls Tryz.prog 110 #[.agg #[.int .i64 k,.int .i64 x.m,.int .i64 x.n,.string x.s,.slice v.a v.len v.cap,.int .i64 x.line,.int .i64 x.aQ]] w fun e u'=>∃a n c,e=.returned (.slice a n c)/\Rv Ex u' (.slice a n c) ((Pl.NZ x).map Value.string)/\Bw w u':=by
 subst hx;exact aEJ x v hk w hX
set_option maxRecDepth 4000 in
theorem aCW {U w:World}{a:Option Addr}{m c:Nat}{vs:List Value}{ks:List Pl.Tx}{kd:List Int}{lit:Pl.Nd->ByteArray}(x:Pl.Nd) (v:SV) (hK:Kz Ex U w a m c vs ks kd) (hf:Pl.BK x.k kd) (hk:x.k=17\/x.k=19\/x.k=20\/x.k=21\/x.k=22\/x.k=23\/x.k=24\/x.k=25\/x.k=26\/x.k=27\/x.k=28\/x.k=29\/x.k=30\/x.k=31\/x.k=32):Calls Tryz.prog 76 #[.agg #[.int .i64 x.k,.int .i64 x.m,.int .i64 x.n,.string x.s,.slice v.a v.len v.cap,.int .i64 x.line,.int .i64 x.aQ],.slice a m c] w fun e u'=>yJ Ex U w x (Pl.aR lit x ks) e u':=by
 have HK:Hid (x.k=17\/x.k=19\/x.k=20\/x.k=21\/x.k=22\/x.k=23\/x.k=24\/x.k=25\/x.k=26\/x.k=27\/x.k=28\/x.k=29\/x.k=30\/x.k=31\/x.k=32):=hk;have KD:Hid (Kz Ex U w a m c vs ks kd):=hK;have HF:Hid (Pl.BK x.k kd):=hf;obtain⟨TX,FN⟩:∃TX,TX=Pl.aR lit x ks:=⟨_,rfl⟩;have HT:Hid (TX=Pl.aR lit x ks):=FN;rw[<- FN];clear hK hf hk FN;go_enter Tryz.func76,Tryz.ntmps76;go_upto_region 1 with fail
 refine aG fun y hy=>?_;obtain⟨n0,hn0,QB,D,kb,HY⟩:=Py hy;rw[<- hn0];clear hy hn0;have hk:=HK.o;clear HK;rcases hk with hk|hk|hk|hk|hk|hk|hk|hk|hk|hk|hk|hk|hk|hk|hk
 ·have f9:Pl.Fit [] 83 4000 kd:=by have:=HF.o;rw[hk]at this;exact this
  have l9:=KD.o.dl;have l7:0<=kd.length:=f9.1;have l6:kd.length<=0+4000:=f9.2.1;go_wp2_with fail
  all_goals
   go_ret;refine KD.o.got HT.o fun dd=>?_;unfold Pl.aR;rw[hk];exact bA.nC (Pv (KD.o.all (fun j h2=>Pl.jV (Pl.kZ f9 (Nat.zero_le _) (by omega)) (by decide) (by decide)) dd))
 ·have f9:Pl.Fit [101] 0 0 kd:=by have:=HF.o;rw[hk]at this;exact this
  have l9:=KD.o.dl;have l7:1<=kd.length:=f9.1;have l6:kd.length<=1+0:=f9.2.1;have l5:=KD.o.kl;have al1:=Pl.aBr (ks:=ks) (by omega);go_wp2_with ((go_at_call 110;refine (Ew x v _ hk (by simp) _ (fun k q=>Nat.lt_of_lt_of_le (KD.o.nx k q) (Nat.le_trans KD.o.old.size D.o.size))).mono ?_;rintro e z ⟨a9,n9,c9,rfl,r9,d9⟩;have R9:Hid (Rv Ex z (.slice a9 n9 c9) ((Pl.NZ x).map Value.string)):=r9;have D8:Hid (Bw w z):=D.o.trans (d9.mono D.o.size);clear r9 d9))
  all_goals
   go_ret;refine⟨_,_,rfl,D8.o.mono KD.o.old.size,?_⟩;have dd:=D8.o;rw[HT.o];unfold Pl.aR;rw[hk];exact⟨⟨_,_,rfl⟩,fun q=>absurd q (by decide),fun _=>kR.cg (pV (s1:=⟨#[59]⟩) R9.o (KD.o.all (fun j h2=>by obtain rfl:j=0:=(by omega);exact Pl.jV (f9.2.2 0 (by omega)) (by decide) (by decide)) dd)) (by simp[Pl.nD,Pl.rU,Pl.NZ,hk,al1]) rfl,fun _=>⟨_,_,_,_,_,_,rfl,kR.cg (pV (s1:=⟨#[41]⟩) R9.o (KD.o.all (fun j h2=>by obtain rfl:j=0:=(by omega);exact Pl.jV (f9.2.2 0 (by omega)) (by decide) (by decide)) dd)) (by simp[Pl.nD,Pl.rU,Pl.NZ,hk,al1]) rfl⟩⟩
 ·have f9:Pl.Fit [] 0 0 kd:=by have:=HF.o;rw[hk]at this;exact this
  have l9:=KD.o.dl;have l7:0<=kd.length:=f9.1;have l6:kd.length<=0+0:=f9.2.1;have l5:=KD.o.kl;have al0:Pl.wF ks=[]:=by rw[List.eq_nil_of_length_eq_zero (l:=ks) (by omega)];rfl
  go_wp2_with ((go_at_call 110;refine (Ew x v _ hk (by simp) _ (fun k q=>Nat.lt_of_lt_of_le (KD.o.nx k q) (Nat.le_trans KD.o.old.size D.o.size))).mono ?_;rintro e z ⟨a9,n9,c9,rfl,r9,d9⟩;have R9:Hid (Rv Ex z (.slice a9 n9 c9) ((Pl.NZ x).map Value.string)):=r9;have D8:Hid (Bw w z):=D.o.trans (d9.mono D.o.size);clear r9 d9))
  all_goals
   go_ret;refine⟨_,_,rfl,D8.o.mono KD.o.old.size,?_⟩;have dd:=D8.o;rw[HT.o];unfold Pl.aR;rw[hk];exact⟨⟨_,_,rfl⟩,fun q=>absurd q (by decide),fun _=>kR.cg (pV (s1:=⟨#[59]⟩) R9.o (KD.o.all (fun j h2=>Pl.jV (Pl.kZ f9 (Nat.zero_le _) (by omega)) (by decide) (by decide)) dd)) (by simp[Pl.nD,Pl.rU,Pl.NZ,hk,al0]) rfl,fun _=>⟨_,_,_,_,_,_,rfl,kR.cg (pV (s1:=⟨#[41]⟩) R9.o (KD.o.all (fun j h2=>Pl.jV (Pl.kZ f9 (Nat.zero_le _) (by omega)) (by decide) (by decide)) dd)) (by simp[Pl.nD,Pl.rU,Pl.NZ,hk,al0]) rfl⟩⟩
 ·obtain⟨f9,l9,l7,l6,ga,rfl,hg2,hmc,hcm,hl1⟩:=KD.o.ga 2 (F:=[101,115]) (more:=115) (most:=1) (HF.o.of hk);have hl0:(2:Int)<=(m:Int):=by omega
  have hl2:(1:Int)<(m:Int):=by omega
  obtain⟨T0,d0,q0,oZ⟩:=KD.o.gj D.o 0;obtain⟨T1,d1,q1,FO⟩:=KD.o.gj D.o 1;go_upto_region 5 with fail
  go_quiet (fail)
  go_wp2_with fail
  all_goals
   go_ret;refine KD.o.got HT.o fun dd=>?_;unfold Pl.aR;rw[hk];exact bA.nC (kR.cg (zN (s1:=⟨#[105,102]⟩) (xC oZ dd f9) (xC FO dd f9) (KD.o.drop 2 (by omega) (fun j h1 h2=>Pl.jV (Pl.kZ f9 h1 (by omega)) (by decide) (by decide)) dd _ (by first|exact .inl rfl|(right;omega)))) (by simp[Pl.nD,Pl.rU,Pl.Iz,-List.map_drop]) rfl)
 ·obtain⟨f9,l9,l7,l6,ga,rfl,hg2,hmc,hcm,hl1⟩:=KD.o.ga 2 (F:=[101,115]) (more:=0) (most:=0) (HF.o.of hk);have hl2:(1:Int)<(m:Int):=by omega
  obtain⟨T0,d0,q0,oZ⟩:=KD.o.gj D.o 0;obtain⟨T1,d1,q1,FO⟩:=KD.o.gj D.o 1;go_upto_region 7 with fail
  go_quiet (fail)
  go_wp2_with fail
  all_goals
   go_ret;refine KD.o.got HT.o fun dd=>?_;unfold Pl.aR;rw[hk];exact bA.nC (kR.cg (zN (s1:=⟨#[119,104,105,108,101]⟩) (xC oZ dd f9) (xC FO dd f9) (ShR.nil (c:=0) (a:=none))) (by simp[Pl.nD,Pl.rU,Pl.Iz]) rfl)
 ·obtain⟨f9,l9,l7,l6,ga,rfl,hg2,hmc,hcm,hl1⟩:=KD.o.ga 2 (F:=[115,101]) (more:=0) (most:=0) (HF.o.of hk);have hl2:(1:Int)<(m:Int):=by omega
  obtain⟨T0,d0,q0,oZ⟩:=KD.o.gj D.o 0;obtain⟨T1,d1,q1,FO⟩:=KD.o.gj D.o 1;go_upto_region 11 with fail
  go_quiet (fail)
  go_wp2_with fail
  all_goals
   go_ret;refine KD.o.got HT.o fun dd=>?_;unfold Pl.aR;rw[hk];exact bA.nC (aEG (xC oZ dd f9) (xC FO dd f9))
 ·have f9:Pl.Fit [118,120,120,115] 0 0 kd:=by have:=HF.o;rw[hk]at this;exact this
  have l9:=KD.o.dl;have l7:4<=kd.length:=f9.1;have l6:kd.length<=4+0:=f9.2.1;obtain rfl:m=4:=by omega
  have KY:Hid (Kz Ex U y a 4 c vs ks kd):=KD.o.on D.o;have f0:=Pl.jV (f9.2.2 0 (by omega)) (by decide) (by decide);have f1:=Pl.jV (f9.2.2 1 (by omega)) (by decide) (by decide);have f2:=Pl.Kv (f9.2.2 2 (by omega));have f3:=Pl.jV (f9.2.2 3 (by omega)) (by decide) (by decide);have FF:Hid (Pl.aH (kd.getD 0 0)≠1/\Pl.aH (kd.getD 1 0)≠1/\(kd.getD 2 0=19\/kd.getD 2 0=20)/\Pl.aH (kd.getD 3 0)≠1):=⟨f0,f1,f2,f3⟩;clear f0 f1 f2 f3;go_wp2_with ((go_at_call 109;refine (aCV KY.o FF.o.1 FF.o.2.1 FF.o.2.2.1 FF.o.2.2.2).mono ?_;rintro e z ⟨c9,T3,d3,v0,v1,v2,a9,rfl,d9,s9,p9⟩;have S9:Hid (Below U.heap.size y z/\ShR Ex z (.slice a9 3 c9) [v0,v1,v2] [ks.getD 0 Pl.Tx.no,ks.getD 1 Pl.Tx.no,Pl.nD ((ks.getD 2 Pl.Tx.no).th++Pl.say ⟨#[41]⟩)]/\kR Ex z (.iface T3 d3) (ks.getD 3 Pl.Tx.no)):=⟨d9,s9,p9⟩;clear d9 s9 p9))
  go_ret;refine⟨_,_,rfl,(D.o.mono KD.o.old.size).trans S9.o.1,?_⟩;rw[HT.o];unfold Pl.aR;rw[hk];exact bA.nC (kR.cg (aCP S9.o.2.1 S9.o.2.2) (by simp[Pl.nD,Pl.rU,Pl.wF]) rfl)
 ·obtain⟨f9,l9,l7,l6,ga,rfl,hg2,hmc,hcm,hl1⟩:=KD.o.ga 2 (F:=[101,115]) (more:=0) (most:=0) (HF.o.of hk);have hl2:(1:Int)<(m:Int):=by omega
  obtain⟨T0,d0,q0,oZ⟩:=KD.o.gj D.o 0;obtain⟨T1,d1,q1,FO⟩:=KD.o.gj D.o 1;go_upto_region 9 with fail
  go_quiet (fail)
  go_wp2_with fail
  all_goals
   go_ret;refine KD.o.got HT.o fun dd=>?_;unfold Pl.aR;rw[hk];exact bA.nC (kR.cg (zN (s1:=⟨#[115,119,105,116,99,104]⟩) (xC oZ dd f9) (xC FO dd f9) (ShR.nil (c:=0) (a:=none))) (by simp[Pl.nD,Pl.rU,Pl.Iz]) rfl)
 ·obtain⟨f9,l9,l7,l6,ga,rfl,hg2,hmc,hcm,hl1⟩:=KD.o.ga 2 (F:=[101,115]) (more:=0) (most:=0) (HF.o.of hk);have hl0:(2:Int)<=(m:Int):=by omega
  have hl2:(1:Int)<(m:Int):=by omega
  obtain⟨T0,d0,q0,oZ⟩:=KD.o.gj D.o 0;obtain⟨T1,d1,q1,FO⟩:=KD.o.gj D.o 1;have l5:=KD.o.kl;have ls1:=Pl.aBs (ks:=ks) (by omega);go_upto_region 15 with fail
  go_quiet (fail)
  go_wp2_with fail
  all_goals
   go_ret;refine KD.o.got HT.o fun dd=>?_;unfold Pl.aR;rw[hk];exact bA.nC (kR.cg (zO (s1:=⟨#[99,97,115,101]⟩) (KD.o.take 1 (by omega) (fun j h=>by obtain rfl:j=0:=(by omega);exact Pl.jV (f9.2.2 0 (by omega)) (by decide) (by decide)) dd _) (xC FO dd f9)) (by simp[Pl.nD,Pl.rU,ls1]) rfl)
 ·obtain⟨f9,l9,l7,l6,ga,rfl,hg2,hmc,hcm,hl1⟩:=KD.o.ga 1 (F:=[115]) (more:=0) (most:=0) (HF.o.of hk);obtain⟨T0,d0,q0,oZ⟩:=KD.o.gj D.o 0;go_wp2_with fail
  all_goals
   go_ret;refine KD.o.got HT.o fun dd=>?_;unfold Pl.aR;rw[hk];exact bA.nC (kR.cg (zO (s1:=⟨#[100,101,102,97,117,108,116]⟩) (ShR.nil (c:=0) (a:=none)) (xC oZ dd f9)) (by simp[Pl.nD,Pl.rU,Pl.wG]) rfl)
 ·obtain⟨f9,l9,l7,l6,ga,rfl,hg2,hmc,hcm,hl1⟩:=KD.o.ga 1 (F:=[115]) (more:=0) (most:=0) (HF.o.of hk);obtain⟨T0,d0,q0,oZ⟩:=KD.o.gj D.o 0;go_upto_region 19 with fail
  go_quiet (fail)
  go_wp2_with fail
  all_goals
   go_ret;refine KD.o.got HT.o fun dd=>?_;unfold Pl.aR;rw[hk];exact bA.nC (kR.cg (zO (s1:=x.s) (ShR.nil (c:=0) (a:=none)) (xC oZ dd f9)) (by simp[Pl.nD,Pl.rU,Pl.wG]) rfl)
 ·have f9:Pl.Fit [] 0 0 kd:=by have:=HF.o;rw[hk]at this;exact this
  have l9:=KD.o.dl;have l7:0<=kd.length:=f9.1;have l6:kd.length<=0+0:=f9.2.1;have l5:=KD.o.kl;have al0:Pl.wF ks=[]:=by rw[List.eq_nil_of_length_eq_zero (l:=ks) (by omega)];rfl
  go_wp2_with ((go_at_call 110;refine (Ew x v _ hk (by simp) _ (fun k q=>Nat.lt_of_lt_of_le (KD.o.nx k q) (Nat.le_trans KD.o.old.size D.o.size))).mono ?_;rintro e z ⟨a9,n9,c9,rfl,r9,d9⟩;have R9:Hid (Rv Ex z (.slice a9 n9 c9) ((Pl.NZ x).map Value.string)):=r9;have D8:Hid (Bw w z):=D.o.trans (d9.mono D.o.size);clear r9 d9))
  all_goals
   go_ret;refine⟨_,_,rfl,D8.o.mono KD.o.old.size,?_⟩;have dd:=D8.o;rw[HT.o];unfold Pl.aR;rw[hk];exact bA.nC (kR.cg (pV (s1:=⟨#[59]⟩) R9.o (KD.o.all (fun j h2=>Pl.jV (Pl.kZ f9 (Nat.zero_le _) (by omega)) (by decide) (by decide)) dd)) (by simp[Pl.nD,Pl.rU,Pl.NZ,hk,al0]) rfl)
 ·have f9:Pl.Fit [] 0 0 kd:=by have:=HF.o;rw[hk]at this;exact this
  have l9:=KD.o.dl;have l7:0<=kd.length:=f9.1;have l6:kd.length<=0+0:=f9.2.1;have l5:=KD.o.kl;have al0:Pl.wF ks=[]:=by rw[List.eq_nil_of_length_eq_zero (l:=ks) (by omega)];rfl
  go_wp2_with ((go_at_call 110;refine (Ew x v _ hk (by simp) _ (fun k q=>Nat.lt_of_lt_of_le (KD.o.nx k q) (Nat.le_trans KD.o.old.size D.o.size))).mono ?_;rintro e z ⟨a9,n9,c9,rfl,r9,d9⟩;have R9:Hid (Rv Ex z (.slice a9 n9 c9) ((Pl.NZ x).map Value.string)):=r9;have D8:Hid (Bw w z):=D.o.trans (d9.mono D.o.size);clear r9 d9))
  all_goals
   go_ret;refine⟨_,_,rfl,D8.o.mono KD.o.old.size,?_⟩;have dd:=D8.o;rw[HT.o];unfold Pl.aR;rw[hk];exact bA.nC (kR.cg (pV (s1:=⟨#[59]⟩) R9.o (KD.o.all (fun j h2=>Pl.jV (Pl.kZ f9 (Nat.zero_le _) (by omega)) (by decide) (by decide)) dd)) (by simp[Pl.nD,Pl.rU,Pl.NZ,hk,al0]) rfl)
 ·have f9:Pl.Fit [] 0 0 kd:=by have:=HF.o;rw[hk]at this;exact this
  have l9:=KD.o.dl;have l7:0<=kd.length:=f9.1;have l6:kd.length<=0+0:=f9.2.1;have l5:=KD.o.kl;have al0:Pl.wF ks=[]:=by rw[List.eq_nil_of_length_eq_zero (l:=ks) (by omega)];rfl
  go_wp2_with ((go_at_call 110;refine (Ew x v _ hk (by simp) _ (fun k q=>Nat.lt_of_lt_of_le (KD.o.nx k q) (Nat.le_trans KD.o.old.size D.o.size))).mono ?_;rintro e z ⟨a9,n9,c9,rfl,r9,d9⟩;have R9:Hid (Rv Ex z (.slice a9 n9 c9) ((Pl.NZ x).map Value.string)):=r9;have D8:Hid (Bw w z):=D.o.trans (d9.mono D.o.size);clear r9 d9))
  all_goals
   go_ret;refine⟨_,_,rfl,D8.o.mono KD.o.old.size,?_⟩;have dd:=D8.o;rw[HT.o];unfold Pl.aR;rw[hk];exact bA.nC (kR.cg (pV (s1:=⟨#[59]⟩) R9.o (KD.o.all (fun j h2=>Pl.jV (Pl.kZ f9 (Nat.zero_le _) (by omega)) (by decide) (by decide)) dd)) (by simp[Pl.nD,Pl.rU,Pl.NZ,hk,al0]) rfl)
 ·have f9:Pl.Fit [] 101 1 kd:=by have:=HF.o;rw[hk]at this;exact this
  have l9:=KD.o.dl;have l7:0<=kd.length:=f9.1;have l6:kd.length<=0+1:=f9.2.1;have l5:=KD.o.kl;go_wp2_with ((go_at_call 110;refine (Ew x v _ hk (by simp) _ (fun k q=>Nat.lt_of_lt_of_le (KD.o.nx k q) (Nat.le_trans KD.o.old.size D.o.size))).mono ?_;rintro e z ⟨a9,n9,c9,rfl,r9,d9⟩;have R9:Hid (Rv Ex z (.slice a9 n9 c9) ((Pl.NZ x).map Value.string)):=r9;have D8:Hid (Bw w z):=D.o.trans (d9.mono D.o.size);clear r9 d9))
  all_goals
   go_ret;refine⟨_,_,rfl,D8.o.mono KD.o.old.size,?_⟩;have dd:=D8.o;rw[HT.o];unfold Pl.aR;rw[hk];exact bA.nC (kR.cg (pV (s1:=⟨#[59]⟩) R9.o (KD.o.all (fun j h2=>Pl.jV (Pl.kZ f9 (Nat.zero_le _) (by omega)) (by decide) (by decide)) dd)) (by simp[Pl.nD,Pl.rU,Pl.NZ,hk]) rfl)
end W
end Go.Proofs.YtjcdiegfnoaedaaGreatDoor
