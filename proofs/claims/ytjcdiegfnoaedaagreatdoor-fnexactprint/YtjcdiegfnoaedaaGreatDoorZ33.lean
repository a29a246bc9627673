import Derived.Test.YtjcdiegfnoaedaaGreatDoorZ32
import Derived.Test.YtjcdiegfnoaedaaGreatDoorZ40
import Derived.Test.YtjcdiegfnoaedaaGreatDoorZ50
set_option linter.unusedVariables false
set_option linter.unusedSimpArgs false
set_option maxHeartbeats 16000000
namespace Go.Proofs.YtjcdiegfnoaedaaGreatDoor
namespace W
open Go.RowKit
variable {Ex:Nat->Prop}
def ShC (Ex:Nat->Prop) (U y:World) (x:Pl.Nd) (v:SV) (a:Option Addr) (m c:Nat) (TX:Pl.Tx) (f:FuncId):Prop:=Calls Tryz.prog f #[.agg #[.int .i64 x.k,.int .i64 x.m,.int .i64 x.n,.string x.s,.slice v.a v.len v.cap,.int .i64 x.line,.int .i64 x.aQ],.slice a m c] y fun e u'=>yJ Ex U y x TX e u'
set_option maxRecDepth 4000 in
theorem Sl {U w:World}{a:Option Addr}{m c:Nat}{vs:List Value}{ks:List Pl.Tx}{kd:List Int}{lit:Pl.Nd->ByteArray}(x:Pl.Nd) (v:SV) (hK:Kz Ex U w a m c vs ks kd) (hf:Pl.BK x.k kd) (hN:x.k=1->1<=x.n/\x.n<=7) (hM:x.k=5->1<=x.m/\x.m<=3) (aFh:x.k=10->1<=x.m/\x.m<=2) (hNm:x.k=7\/x.k=8\/x.k=12\/x.k=13\/x.k=14->NmS x.s) (hE:nR w/\bD w/\iH w) (hbd:(-9223372036854775808<=x.n/\x.n<=9223372036854775807)/\x.s.size<=1048576) (Qb:x.k=33\/x.k=34->lit x=Pl.EK ⟨if x.k=34 then 4 else 3,x.s,x.n,0,0⟩) (YL:x.k=40\/x.k=41->1<=x.m/\x.m<=2) (Qc:x.k=42->1<=x.m/\x.m<=6) (Qd:x.k=46->1<=x.m/\x.m<=18) (Qe:x.k=48->0<=x.m/\x.m<=16) (hk:(1<=x.k/\x.k<=49)/\x.k≠18):Calls Tryz.prog 45 #[.agg #[.int .i64 x.k,.int .i64 x.m,.int .i64 x.n,.string x.s,.slice v.a v.len v.cap,.int .i64 x.line,.int .i64 x.aQ],.slice a m c] w fun e u'=>yJ Ex U w x (Pl.aR lit x ks) e u':=by
 obtain⟨TX,FN⟩:∃TX,TX=Pl.aR lit x ks:=⟨_,rfl⟩;have C:Hid (∀y,Bw w y->(x.k<=6/\ShC Ex U y x v a m c TX 74)\/(¬x.k<=6/\x.k<=16/\ShC Ex U y x v a m c TX 75)\/(¬x.k<=6/\¬x.k<=16/\x.k<=32/\ShC Ex U y x v a m c TX 76)\/(¬x.k<=6/\¬x.k<=16/\¬x.k<=32/\ShC Ex U y x v a m c TX 77)):=fun y d=>by
  have K:=hK.on d;rw[FN];by_cases q6:x.k<=6
  ·exact .inl ⟨q6,aCS x v K hf hN hM (by omega)⟩
  by_cases q16:x.k<=16
  ·exact .inr (.inl ⟨q6,q16,aCT x v K hf aFh hNm (by omega)⟩)
  by_cases q32:x.k<=32
  ·exact .inr (.inr (.inl ⟨q6,q16,q32,aCW x v K hf (by omega)⟩))
  ·exact .inr (.inr (.inr ⟨q6,q16,q32,aCZ x v K hf ⟨hE.1.on d,hE.2.1.below d,hE.2.2.below d⟩ hbd Qb YL Qc Qd Qe (by omega)⟩))
 have KD:Hid (Kz Ex U w a m c vs ks kd):=hK;rw[<- FN];clear hK hf hk FN hE hN hM aFh hNm hbd Qb YL Qc Qd Qe;go_enter Tryz.func45,Tryz.ntmps45;go_upto_region 1 with fail
 refine aG fun y hy=>?_;obtain⟨n0,hn0,QB,D,kb,HY⟩:=Py hy;rw[<- hn0];clear hy hn0;rcases C.o y D.o with ⟨q6,C9⟩|⟨q6,q16,C9⟩|⟨q6,q16,q32,C9⟩|⟨q6,q16,q32,C9⟩;all_goals
  clear C;go_wp2_with ((with_reducible show Calls _ _ _ _ _);refine Calls.mono C9 ?_;rintro e z ⟨T9,d9,rfl,db,hn⟩;have RS:Hid (Below U.heap.size w z/\bA Ex z x.k (.iface T9 d9) TX):=⟨(D.o.mono KD.o.old.size).trans db,hn⟩;clear db hn)
  go_ret;exact⟨_,_,rfl,RS.o.1,RS.o.2⟩
end W
namespace Pl
theorem aDB {s:ByteArray}(h:pR s=true):¬s=⟨#[]⟩/\say s=s.data.toList++[32]:=by
 have h1:=aB8 h;have h2:kT (aD s 0)=true:=by
  unfold pR at h;simp only[Bool.and_eq_true,List.all_eq_true,List.mem_range]at h;exact h.2 0 (by omega)
 refine⟨fun e=>by rw[e]at h1;exact absurd h1 (by decide),?_⟩;unfold say;rw[if_neg];rintro (rfl|rfl|rfl) <;> exact absurd h2 (by decide)
theorem aFi {x:Nd}{al:List ByteArray}(h:GD x al=true) (hk:x.k=7\/x.k=8\/x.k=12\/x.k=13\/x.k=14):x.s=⟨#[]⟩\/pR x.s=true:=by
 have e:IE x.k≠5/\IE x.k≠0:=by rcases hk with e|e|e|e|e <;> rw[e] <;> decide
 unfold GD at h;rw[if_neg e.1,if_neg (by omega)]at h;split at h
 ·cases h
 ·split at h
  ·left;have h:=of_decide_eq_true h;cases hs:x.s with
   | mk d=>rw[hs]at h;congr 1;exact Array.eq_empty_of_size_eq_zero h
  ·right;exact (Bool.and_eq_true _ _ ▸ h:_/\_).1
theorem aFj (s:ByteArray):nH ⟨4,s,0,0,0⟩=qt s 34:=by unfold nH;simp
theorem aDC {x:Nd}{al:List ByteArray}(h:GD x al=true) (hk:x.k=33\/x.k=34):iF x=EK ⟨if x.k=34 then 4 else 3,x.s,x.n,0,0⟩:=by
 unfold iF;rcases hk with hk|hk
 ·rw[if_pos hk,if_neg (by omega),MO]
 ·rw[if_neg (by omega),if_pos hk];unfold GD at h;rw[if_pos (by rw[hk];decide),if_neg (by omega)]at h;have h:=of_decide_eq_true h;rw[h.1,Na (t:=⟨4,x.s,0,0,0⟩) (.str h.2),aFj]
theorem aDD {x:Nd}{al:List ByteArray}(h:GD x al=true):(iF x).size<=802:=by
 unfold iF;split
 ·rename_i hk;unfold GD at h;rw[if_pos (by rw[hk];decide),if_pos hk]at h;have h:=of_decide_eq_true h;rw[MO]at h ⊢;rw[Na (t:=⟨3,x.s,x.n,0,0⟩) (QY h)];exact (uF (QY h) 0 0).1
 ·rw[<- aFj];exact (uF (.str (FR h).2.1) 0 0).1
theorem aA1 {xs:List Nd}(ok:aZ xs):(tx iF xs (xs.length-1)).pr.length<=W.Pl.room:=by
 obtain⟨h1,h2,l,hl,-,hN⟩:=ok;have q:=Nj iF xs (fun i hi=>⟨(FR (hN i hi).text).2.1,aDD (hN i hi).text⟩) xs.length l (Nat.le_refl _) hl (xs.length-1) (by omega);have:=(IG (tx iF xs (xs.length-1))).1;unfold W.Pl.room;omega
end Pl
namespace W
open Go.RowKit
variable {Ex:Nat->Prop}
theorem Sm {xs:List Pl.Nd}(ok:Pl.aZ xs) (hwf:Pl.NN xs){i:Nat}(hi:i<xs.length) (v:SV){U w:World}{a:Option Addr}{m c:Nat}{vs:List Value}{ks:List Pl.Tx}(hK:Kz Ex U w a m c vs ks (Pl.kinds xs i)) (hE:nR w/\bD w/\iH w){x:Pl.Nd}(hx:Pl.nd xs i=x):Calls Tryz.prog 45 #[.agg #[.int .i64 x.k,.int .i64 x.m,.int .i64 x.n,.string x.s,.slice v.a v.len v.cap,.int .i64 x.line,.int .i64 x.aQ],.slice a m c] w fun e u'=>yJ Ex U w x (Pl.aR Pl.iF x ks) e u':=by
 obtain⟨h1,h2,l,hl,-,hN⟩:=ok;have O:=Pl.yS hl;have D:=hN i hi;have t:=Pl.FR D.text;have hs:=D.sort;have hm:=D.mark;have hr:=Pl.Rf hs;have hf:=Pl.DT (k:=(Pl.nd xs i).k.toNat) (by omega) (ks:=Pl.kinds xs i) (by rw[Pl.aX];have:=O.few i hi;omega) D.kids;have hb:=(hwf.at hi).2.2.1;have h3:=fun q=>Pl.aFi D.text q;have h4:=fun q=>Pl.aDC D.text q;rw[hx] at *;refine Sl x v hK hf t.2.2.2 (fun e=>by simpa [Pl.CL,e] using hm) (fun e=>?_) (fun e=>(h3 e).imp id Pl.aDB) hE ⟨hb,by omega⟩ h4 (fun e=>?_) (fun e=>by simpa [Pl.CL,e] using hm) (fun e=>by simpa [Pl.CL,e] using hm) (fun e=>?_) ⟨hr,fun e=>hs (by rw[e];rfl)⟩
 ·have:x.m=1\/x.m=2:=by simpa [Pl.CL,e] using hm
  omega
 ·have:x.m=1\/x.m=2:=by rcases e with e|e <;> simpa [Pl.CL,e] using hm
  omega
 ·have:(0<=x.m/\x.m<=7)\/(14<=x.m/\x.m<=16):=by simpa [Pl.CL,e] using hm
  omega
section
variable {X X':Nat->Prop}{U V:World}
theorem Wp.onx {f:FuncId}{args:List Value}{t:List UInt8}(h:Wp (NU X U) f args t) (d:Bx X U V) (hx:∀k,k<U.heap.size->X' k->X k):Wp (NU X' V) f args t:=fun B g ts u p na hn=>h B g ts u p (na.aEn d hx) hn
theorem kR.onx {v:Value}{t:Pl.Tx}(h:kR X U v t) (d:Bx X U V) (hx:∀k,k<U.heap.size->X' k->X k):kR X' V v t:=⟨h.pr.onx d hx,h.rk⟩
theorem bA.onx {k:Int}{v:Value}{t:Pl.Tx}(h:bA X U k v t) (d:Bx X U V) (hx:∀k,k<U.heap.size->X' k->X k):bA X' V k v t:=⟨h.ifc,fun q=>⟨(h.ty q).bf.onx d hx,(h.ty q).bh.onx d hx,(h.ty q).sf⟩,fun q=>(h.pr q).onx d hx,fun q=>by
 obtain⟨a1,n1,c1,a2,n2,c2,q1,q2⟩:=h.en q;exact⟨a1,n1,c1,a2,n2,c2,q1,q2.onx d hx⟩⟩
end
end W
set_option maxRecDepth 4000
namespace W
open Go.RowKit
theorem KQ {ops:Array Oper}{rest:List Oper}{o:Oper}{a:Act}{Q:Exit->Act->World->Prop}{u:World}{B n:Nat}{vo x9:Value}{vs:List Value}(hgd:o.guard=none) (s x:Operand) (ho:o.op=.call { callee:=.builtin .append,args:=#[s,x],argTypes:=#[78,78] }) (hs:a.eval s=vo) (hx:a.eval x=.slice (some ⟨u.heap.size,0,none⟩) 1 1) (hown:u.ownsRow B 52 1 vo n vs) (hB:B<=u.heap.size) (h1:x9.oneCell'=true) (hn:n<=4000)
  (h:∀a' c' u',u'.ownsRow B 52 1 (.slice a' (n+1) c') (n+1) (vs++[x9])->(∀k,vo.ownBlock≠some k->k<u.heap.size->u'.heap[k]?=u.heap[k]?)->Below B u u'->(∀k,k<u.heap.size->(Value.slice a' (n+1) c').ownBlock=some k->vo.ownBlock=some k)->wpList Tryz.prog ops Q rest (a.put o.dst (.slice a' (n+1) c')) u'):wpList Tryz.prog ops Q (o :: rest) a (u.alloc (.cells #[x9] 52)):=by
 have hinfo:(Tryz.prog.info? 52).map (fun i=>(i.zero,i.size,i.bytes))=some (some .nilIface,1,16):=by kernel_rfl
 obtain⟨i0,hi0,hz0,hz1,hz2⟩:=info_parts hinfo;have hlt:∀k,vo.ownBlock=some k->k<u.heap.size:=fun k hk=>(hown.lt k hk).2;refine wpList_append_own_at _ hgd s x 78 ho B 52 i0 .nilIface 1 16 Tryz.underlying78 hi0 hz0 hz1 hz2 rfl (by decide) vo n vs hs (dK hown fun k hk=>Below.heap_alloc _ _ k (hlt k hk)) _ 1 1 [x9] hx rfl (cell_one_new _ _ _) (by simpa using h1) (by unfold maxLen;omega) (by omega) (by simp;omega) ?_;intro v' u' ho' hg _ hat;obtain⟨a',c',rfl⟩:=tY ho';refine h a' c' u' ho' (fun k hk hu=>?_) ((aA u _).mono hB |>.grown hg (by simp;omega) fun k hk=>(hown.lt k hk).1) (fun k hu hk=>?_)
 ·rw[hg.block k (by simp;omega) (fun e=>hk e.symm),Below.heap_alloc _ _ k hu]
 ·rcases hat with e|e
  ·rw[<- e];exact hk
  ·rw[hk]at e;simp at e;omega
structure Md (xs:List Pl.Nd) (w wr:World) (a:Option Addr) (i c:Nat) (vs:List Value):Prop where
 own:wr.ownsRow w.heap.size 52 1 (.slice a i c) i vs
 d:Bw w wr
 sh:∀j,j<i->bA (fun k=>(Value.slice a i c).ownBlock=some k) wr (Pl.nd xs j).k (vs.getD j .nilIface) (Pl.tx Pl.iF xs j)
theorem Md.at_ {xs:List Pl.Nd}{w wr:World}{a:Option Addr}{i c:Nat}{vs:List Value}(h:Md xs w wr a i c vs){j:Nat}(hj:j<i):∃g,a=some ⟨g,0,none⟩/\g<wr.heap.size/\∃T d,vs.getD j .nilIface=.iface T d/\wr.cell? ⟨g,j,none⟩=some (.iface T d):=by
 obtain⟨T,d,e⟩:=(h.sh j hj).ifc;have hv:vs.length=i:=by have:=h.own.1;omega
 obtain⟨g,rfl⟩:∃g,a=some ⟨g,0,none⟩:=by
  rcases h.own.2 with ⟨e,q⟩|⟨g,cap,cur,e,_⟩
  ·omega
  ·cases e;exact⟨g,rfl⟩
 refine⟨g,rfl,(h.own.lt g rfl).2,T,d,e,?_⟩;rw[World.ownsRow.cellAt h.own j (by omega),<- e,List.getD_eq_getElem?_getD,List.getElem?_eq_getElem (by omega)];rfl
structure Kk (kids:List Int) (vs:List Value) (y u:World) (a:Option Addr) (q c:Nat) (ws:List Value):Prop where
 own:u.ownsRow y.heap.size 52 1 (.slice a q c) q ws
 d:Bw y u
 kd:∀j,j<q->ws.getD j .nilIface=vs.getD (kids.getD j 0).toNat .nilIface
theorem VF {vs:List Value}{x:Value}{n:Nat}(h:vs.length=n):(vs++[x]).getD n .nilIface=x/\∀j,j<n->(vs++[x]).getD j .nilIface=vs.getD j .nilIface:=by
 subst h;exact⟨by simp[List.getD_eq_getElem?_getD],fun j hj=>by rw[List.getD_eq_getElem?_getD,List.getElem?_append_left hj,List.getD_eq_getElem?_getD]⟩
theorem Kk.next {kids:List Int}{vs ws:List Value}{y u u3:World}{a a3:Option Addr}{q c c3 cc:Nat}{T:TypeId}{d:Value}(K:Kk kids vs y u a q c ws) (o3:u3.ownsRow y.heap.size 52 1 (.slice a3 (q+1) c3) (q+1) (ws++[.iface T d])) (b3:Below y.heap.size u u3) (ec:kids.getD q 0=(cc:Int)) (e1:vs.getD cc .nilIface=.iface T d):Kk kids vs y u3 a3 (q+1) c3 (ws++[.iface T d]):=by
 obtain⟨g1,g2⟩:=VF (x:=.iface T d) (show ws.length=q by have:=K.own.1;omega);refine⟨o3,K.d.trans b3,fun j hj=>?_⟩;by_cases e:j=q
 ·rw[e,g1,ec,<- e1];rfl
 ·rw[g2 j (by omega)];exact K.kd j (by omega)
theorem Md.next {xs:List Pl.Nd}{w wr z u':World}{a a':Option Addr}{i c c':Nat}{vs:List Value}{T:TypeId}{d:Value}(M:Md xs w wr a i c vs) (D:Bw wr z) (hn:bA (fun k=>(Value.slice a i c).ownBlock=some k) z (Pl.nd xs i).k (.iface T d) (Pl.tx Pl.iF xs i)) (ho:u'.ownsRow w.heap.size 52 1 (.slice a' (i+1) c') (i+1) (vs++[.iface T d])) (hk:∀k,(Value.slice a i c).ownBlock≠some k->k<z.heap.size->u'.heap[k]?=z.heap[k]?) (hb:Below w.heap.size z u') (h2:∀k,k<z.heap.size->(Value.slice a' (i+1) c').ownBlock=some k->(Value.slice a i c).ownBlock=some k):Md xs w u' a' (i+1) c' (vs++[.iface T d]):=by
 have hv:vs.length=i:=by have:=M.own.1;omega
 obtain⟨e1,e2⟩:=VF (x:=.iface T d) hv;refine⟨ho,(M.d.trans (D.mono M.d.size)).trans hb,fun j hj=>?_⟩;by_cases q:j=i
 ·subst q;rw[e1];exact hn.onx (fun k q t=>hk k q t.lt) h2
 ·rw[e2 j (by omega)];exact (M.sh j (by omega)).onx (fun k q t=>(hk k q (Nat.lt_of_lt_of_le t.lt D.size)).trans (D.block k t.lt)) fun k q=>h2 k (Nat.lt_of_lt_of_le q D.size)
theorem FY {lo:Nat}(a:Option Addr) (len cap:Nat) (xs:List Pl.Nd) (w:World) (h:aT lo w a len cap xs) (hwf:Pl.NN xs) (ok:Pl.aZ xs) (hE:nR w/\bD w/\iH w) :
  Calls Tryz.prog 19 #[.slice a len cap] w fun e w'=>∃X T d,e=.returned (.iface T d)/\Bw w w'/\bA X w' (Pl.nd xs (len-1)).k (.iface T d) (Pl.tx Pl.iF xs (len-1)):=by
 have hxl:=h.1.1;have hl1:1<=len/\len<=4000:=by have:=ok.1;have:=ok.2.1;omega
 have HR:Hid (aT lo w a len cap xs):=h;have HO:Hid (∀i,i<len->(Pl.nd xs i).kids.length<=4000/\∀k∈(Pl.nd xs i).kids,∃c:Nat,k=c/\c<i):=by
  obtain⟨_,h2,l,hl,-⟩:=ok;have O:=Pl.yS hl;exact fun i hi=>⟨by have:=O.few i (by omega);omega,fun k hk=>by obtain⟨c,e,hc,-⟩:=O.kid i (by omega) k hk;exact⟨c,e,hc⟩⟩
 have HS:Hid (∀(i:Nat),i<len->∀(X:Nat->Prop) (v:SV) (U u:World) (a:Option Addr) (m c:Nat) (vs:List Value) (ks:List Pl.Tx),Kz X U u a m c vs ks (Pl.kinds xs i)->Bw w u->∀x,Pl.nd xs i=x->Calls Tryz.prog 45 #[.agg #[.int .i64 x.k,.int .i64 x.m,.int .i64 x.n,.string x.s,.slice v.a v.len v.cap,.int .i64 x.line,.int .i64 x.aQ],.slice a m c] u fun e u'=>yJ X U u x (Pl.aR Pl.iF x ks) e u'):=fun i hi X v U u a m c vs ks K d x hx=>Sm ok hwf (by omega) v K ⟨hE.1.on d,hE.2.1.below d,hE.2.2.below d⟩ hx;clear h hwf ok hE;go_enter Tryz.func19,Tryz.ntmps19;go_upto_region 2 with fail
 refine aG fun y0 hy0=>?_;have M0:Hid (Md xs w y0 (some ⟨w.heap.size,0,none⟩) 0 0 []):=by
  show Md xs w y0 _ 0 0 [];rw[hy0];exact⟨World.ownsRow_lit w #[] 0 (Nat.le_refl _) (Nat.zero_le _) rfl,aA w _,fun j hj=>absurd hj (Nat.not_lt_zero _)⟩
 clear hy0;go_wp2_with fail
 go_loopw [3,12] (fun mv iv wr=>∃(i:Nat) (a1:Option Addr) (c1:Nat) (vs:List Value),iv=.int .i64 (i:Int)/\mv=.slice a1 i c1/\i<=len/\Hid (Md xs w wr a1 i c1 vs)) (fun _ iv _=>len-(intOf iv).toNat)
 case atStart=>exact⟨0,_,_,_,rfl,rfl,Nat.zero_le _,M0⟩
 case round=>
  clear M0;obtain⟨i,a1,c1,vs,rfl,rfl,hi,M⟩:=hrel;by_cases hlt:i<len
  ·obtain⟨wo,hwo⟩:∃wo,wo=wr:=⟨_,rfl⟩;subst hwo;have hi9:(i:Int)<(len:Int):=(by omega);obtain⟨b,off,v,rfl,hlo,hb1,hc,hrow,-⟩:=(HR.o.keep M.o.d).at hlt;obtain⟨x,hx⟩:∃x,Pl.nd xs i=x:=⟨_,rfl⟩;rw[show xs.getD i Pl.Nd.zero=x from hx]at hc hrow;obtain⟨c0,c2,c3,c4,c5,c6,c7⟩:=iT hc;have HW:Hid (Row .i64 lo wo v.a v.len v.cap x.kids):=hrow;have HX:Hid (Pl.nd xs i=x):=hx;have hvl:(v.len:Int)<=9223372036854775807:=(by have:=hrow.2.1;have h3:=hrow.2.2.1;unfold maxLen at h3;omega);clear hc hrow hx hlo hb1;go_upto_region 5 with fail
   refine aG fun y hy=>?_;obtain⟨n0,hn0⟩:∃n,n=wo.heap.size:=⟨_,rfl⟩;rw[<- hn0];have QB:Hid (y.heap[n0]?=some (.cells #[.int .i64 x.k,.int .i64 x.m,.int .i64 x.n,.string x.s,.slice v.a v.len v.cap,.int .i64 x.line,.int .i64 x.aQ] 45)):=(by show y.heap[n0]?=_;rw[hy,hn0];exact heap_alloc_new wo _);have D:Hid (Bw wo y):=(by show Below _ wo y;rw[hy];exact aA wo _);have hn:Hid (n0<y.heap.size):=(Array.getElem?_eq_some_iff.1 QB.o).1;clear hy hn0 c0 c2 c3 c4 c5 c6 c7;go_upto_region 6 with fail
   refine aG fun y2 hy2=>?_;have K0:Hid (Kk x.kids vs y y2 (some ⟨y.heap.size,0,none⟩) 0 0 []):=by
    show Kk x.kids vs y y2 _ 0 0 [];rw[hy2];exact⟨World.ownsRow_lit y #[] 0 (Nat.le_refl _) (Nat.zero_le _) rfl,aA y _,fun j hj=>absurd hj (Nat.not_lt_zero _)⟩
   have KB:Hid (∀u:World,Bw y u->∀j,u.cell? ⟨n0,j,none⟩=(#[.int .i64 x.k,.int .i64 x.m,.int .i64 x.n,.string x.s,.slice v.a v.len v.cap,.int .i64 x.line,.int .i64 x.aQ]:Array Value)[j]?):=fun u d j=>cell_of_row u n0 j _ 45 (0,0) ((d.block n0 hn.o).trans QB.o);have k4:y2.cell? ⟨n0,4,none⟩=some (.slice v.a v.len v.cap):=KB.o y2 K0.o.d 4;clear hy2 QB hn;go_wp2_with fail
   go_loopw [6,20] (fun kv qv ur=>∃(q:Nat) (a2:Option Addr) (c2:Nat) (ws:List Value),qv=.int .i64 (q:Int)/\kv=.slice a2 q c2/\q<=v.len/\Hid (Kk x.kids vs y ur a2 q c2 ws)) (fun _ qv _=>v.len-(intOf qv).toNat)
   case atStart=>exact⟨0,_,_,_,rfl,rfl,Nat.zero_le _,K0⟩
   case round=>
    clear K0 k4;obtain⟨q,a2,c2,ws,rfl,rfl,hq,K⟩:=hrel;have DU:Hid (Bw wo wr):=D.o.trans (K.o.d.mono D.o.size);by_cases KN:q<v.len
    ·have hq9:(q:Int)<(v.len:Int):=(by omega);obtain⟨w1,-,-,-,w5⟩:=HW.o.keep DU.o;rcases w5 with w5|⟨b9,o9,Bn,-,-,w5⟩
     ·omega
     have kc:=w5 q KN;have hmem:x.kids.getD q 0∈x.kids:=by
      rw[List.getD_eq_getElem?_getD,List.getElem?_eq_getElem (by omega)];exact List.getElem_mem _
     obtain⟨cc,ec,hcc⟩:=(HO.o i hlt).2 _ (by rw[HX.o];exact hmem);rw[ec]at kc;obtain⟨g,rfl,hg,T,d,e1,e2⟩:=M.o.at_ hcc;have kg:wr.cell? ⟨g,cc,none⟩=some (.iface T d):=(DU.o.cell (p:=⟨g,cc,none⟩) hg).trans e2;have aHp:(cc:Int)<(i:Int):=(by omega);have EC:Hid (x.kids.getD q 0=cc/\vs.getD cc .nilIface=.iface T d):=⟨ec,e1⟩;have hq4:Hid (q<=4000):=(by have:=(HO.o i hlt).1;rw[HX.o]at this;show q<=4000;omega);rw[Bn];clear w5 hmem ec e1 e2 hg w1 Bn;go_wp2_with (at_builtin;refine KQ (x9:=.iface T d) rfl (.tmp 24) (.tmp 29) rfl rfl rfl K.o.own K.o.d.size rfl hq4.o ?_;intro a3 c3 u3 o3 k3 b3 _;have K3:Hid (Kk x.kids vs y u3 a3 (q+1) c3 (ws++[.iface T d])):=K.o.next o3 b3 EC.o.1 EC.o.2;clear o3 k3 b3 K)
     go_roundw
     case rel=>exact⟨q+1,_,_,_,by go_num,by go_num,by omega,K3⟩
     case measure=>simp[intOf];omega
    ·have hq9:¬(q:Int)<(v.len:Int):=(by omega);have hqe:q=v.len:=(by omega);subst hqe;have kb:=KB.o wr K.o.d;have hxv:x.kids.length=v.len:=HW.o.1;have KZ:Hid (Kz (fun k=>(Value.slice a1 i c1).ownBlock=some k) y wr a2 v.len c2 ws (x.kids.map fun k=>Pl.tx Pl.iF xs k.toNat) (Pl.kinds xs i)):=by
      refine⟨K.o.own,K.o.d,by rw[List.length_map];exact hxv,by rw[Pl.aX,HX.o];exact hxv,by have:=(HO.o i hlt).1;rw[HX.o]at this;omega,fun k hk=>Nat.lt_of_lt_of_le (M.o.own.lt k hk).2 D.o.size,fun j hj=>?_⟩;have hmem:x.kids.getD j 0∈x.kids:=by
       rw[List.getD_eq_getElem?_getD,List.getElem?_eq_getElem (by omega)];exact List.getElem_mem _
      obtain⟨cc,ec,hcc⟩:=(HO.o i hlt).2 _ (by rw[HX.o];exact hmem);have:=(M.o.sh cc hcc).on D.o;rw[K.o.kd j hj,Pl.zS (by omega),Pl.rM xs (by rw[HX.o];omega),HX.o,ec];exact this
     have TX:Hid (Pl.tx Pl.iF xs i=Pl.aR Pl.iF x (x.kids.map fun k=>Pl.tx Pl.iF xs k.toNat)):=by
      have:=Pl.xL Pl.iF xs i fun k hk=>by
       obtain⟨c,rfl,hc⟩:=(HO.o i hlt).2 k hk;omega
      rw[show xs.getD i Pl.Nd.zero=x from HX.o]at this;exact this
     have DW:Hid (Bw w wr):=M.o.d.trans (DU.o.mono M.o.d.size);clear K hxv;go_wp2_with (first|(go_at_call 45;refine (HS.o i hlt _ v y wr _ _ _ _ _ KZ.o DW.o x HX.o).mono ?_;rintro e z ⟨T9,d9,rfl,db,hn⟩;have DZ:Hid (Bw wo z):=DU.o.trans (db.mono D.o.size);have HN:Hid (bA (fun k=>(Value.slice a1 i c1).ownBlock=some k) z (Pl.nd xs i).k (.iface T9 d9) (Pl.tx Pl.iF xs i)):=(by rw[HX.o,TX.o];exact hn);clear db hn)|(at_builtin;refine KQ (x9:=.iface T9 d9) rfl (.tmp 32) (.tmp 36) rfl rfl rfl (dK M.o.own fun k hk=>DZ.o.block k (M.o.own.lt k hk).2) (Nat.le_trans M.o.d.size DZ.o.size) rfl (by omega) ?_;intro a3 c3 u3 o3 k3 b3 x3;have M3:Hid (Md xs w u3 a3 (i+1) c3 (vs++[.iface T9 d9])):=M.o.next DZ.o HN.o o3 k3 b3 x3;clear o3 k3 b3 x3))
     go_roundw
     case rel=>exact⟨i+1,_,_,_,by go_num,by go_num,by omega,M3⟩
     case measure=>simp[intOf];omega
  ·have hi9:¬(i:Int)<(len:Int):=(by omega);have hie:i=len:=(by omega);subst hie;obtain⟨g,rfl,-,T,d,e1,e2⟩:=M.o.at_ (j:=i-1) (by omega);have RS:Hid (Bw w wr/\bA (fun k=>(Value.slice (some ⟨g,0,none⟩) i c1).ownBlock=some k) wr (Pl.nd xs (i-1)).k (.iface T d) (Pl.tx Pl.iF xs (i-1))):=⟨M.o.d,by have:=M.o.sh (i-1) (by omega);rwa [e1]at this⟩;have l1:(0:Int)<=(i:Int)-1:=(by omega);have l2:(i:Int)-1<(i:Int):=(by omega);have l3:((i:Int)-1).toNat=i-1:=(by omega);clear M e1;go_wp2;go_ret;exact⟨_,_,_,rfl,RS.o.1,RS.o.2⟩
end W
set_option maxRecDepth 4000
namespace W
open Go.RowKit
theorem OT {lo:Nat}(a:Option Addr) (len cap:Nat) (xs:List Pl.Nd) (w:World) (h:aT lo w a len cap xs) (hwf:Pl.NN xs) (hk:∀i,i<len->(Pl.nd xs i).kids.length<=1048576) (hs:∀i,i<len->(Pl.nd xs i).s.size<=1048576) (hE:AY w) (hr:Pl.aZ xs->(Pl.tx Pl.iF xs (len-1)).pr.length<=Pl.room) :
  Calls Tryz.prog 7 #[.agg #[.slice a len cap]] w fun e w'=>aAX xs (Pl.tx Pl.iF xs (len-1)).pr w e w':=by
 obtain⟨R,hR⟩:∃R,R=Pl.uN (Pl.aZ xs):=⟨_,rfl⟩;have TO:Hid (∀y,Bw w y->Calls Tryz.prog 17 #[.agg #[.slice a len cap]] y fun e w'=>e=.returned (.bool R)/\Bw y w'):=fun y d=>by rw[hR,propext (Pl.Ve xs)];exact JH a len cap xs y (h.keep d) hwf hk hs (hE.on d)
 have HRR:Hid (R=Pl.uN (Pl.aZ xs)):=hR;obtain⟨T,hT⟩:∃T,T=(Pl.tx Pl.iF xs (len-1)).pr:=⟨_,rfl⟩;rw[<- hT]at hr ⊢;by_cases ok:Pl.aZ xs
 ·have e:R=true:=hR.trans (Pl.nM ok);subst e;have ST:Hid (∀y,Bw w y->Calls Tryz.prog 19 #[.slice a len cap] y fun e z=>∃X T1 d,e=.returned (.iface T1 d)/\Bw y z/\Wp (NU X z) 18 [.iface T1 d] T):=fun y d=>by
   refine (FY a len cap xs y (h.keep d) hwf ok (hE.on d)).mono ?_;rintro e z ⟨X,T1,d1,rfl,q1,q2⟩;obtain⟨h1,h2,l,hl,-,hN⟩:=ok;have h15:(Pl.nd xs (len-1)).k=15:=(hN (len-1) (by have:=h.1.1;omega)).unit.2 (by have:=h.1.1;omega);refine⟨X,T1,d1,rfl,q1,?_⟩;rw[hT];exact (q2.pr (by rw[h15];decide)).pr
  have HT:Hid (T.length<=Pl.room):=hr ok;clear hr hT ok hR hE hwf hk hs h;go_in;go_upto_region 1 with fail
  refine aG fun y hy=>?_;have D:Hid (Bw w y):=by rw[hy];exact aA w _
  have QT:Hid (y.heap[w.heap.size]?=some (.cells #[.slice a len cap] 31)):=by rw[hy];exact heap_alloc_new w _
  clear hy;have q1:y.cell? ⟨w.heap.size,0,none⟩=some (.slice a len cap):=cell_of_row y w.heap.size 0 _ 31 (0,0) QT.o;go_upto_region 3 with ((with_reducible show Calls _ _ _ _ _);refine (TO.o _ D.o).mono ?_;rintro e z ⟨rfl,d⟩;have D2:Hid (Bw w z):=D.o.trans (d.mono D.o.size);have QT2:Hid (z.heap[w.heap.size]?=some (.cells #[.slice a len cap] 31)):=(d.block _ (Array.getElem?_eq_some_iff.1 QT.o).1).trans QT.o;clear d)
  go_upto_region 4 with fail
  refine aG fun y2 hy2=>?_;have D3:Hid (Bw w y2):=by rw[hy2];exact D2.o.trans ((aA z _).mono D2.o.size)
  have q2:y2.cell? ⟨w.heap.size,0,none⟩=some (.slice a len cap):=cell_of_row y2 w.heap.size 0 _ 31 (0,0) (by rw[hy2];exact (Below.heap_alloc z _ _ (Array.getElem?_eq_some_iff.1 QT2.o).1).trans QT2.o);have P:Hid (Pw w.heap.size z.heap.size [] y2):=⟨⟨.slice none 0 0,by rw[hy2];exact heap_alloc_new z _,World.ownsRow_nil _ _ 5 1⟩,D2.o.size⟩;generalize z.heap.size=gp at P ⊢;clear hy2 q1;go_upto_region 5 with ((with_reducible show Calls _ _ _ _ _);first|(refine (ST.o _ D3.o).mono ?_;rintro e z3 ⟨X,T1,d1,rfl,b3,W3⟩;have P3:Hid (Pw w.heap.size gp [] z3):=P.o.keep b3;have D4:Hid (Bw w z3):=D3.o.trans (b3.mono D3.o.size);have HW:Hid (Wp (NU X z3) 18 [.iface T1 d1] T):=W3;clear b3 W3)|(refine (HW.o w.heap.size gp [] z3 P3.o (fun _ _ _=>rfl) (by have:=HT.o;simpa using this)).mono ?_;rintro e z4 ⟨rfl,P4,F4⟩;have D5:Hid (Bw w z4):=D4.o.trans F4.b;have P5:Hid (Pw w.heap.size gp T z4):=P4;clear P4 F4))
  obtain⟨vo,sZ,ho⟩:=P5.o.ex;have k1:z4.cell? ⟨gp,0,none⟩=some vo:=by rw[cell_of_row z4 gp 0 _ 49 (0,0) sZ];rfl
  have HO:Hid (z4.ownsRow w.heap.size 5 1 vo T.length (Pl.bl T)):=ho;clear sZ ho q2;go_wp2;go_ret2;exact⟨vo,true,T,rfl,HO.o,D5.o,HRR.o,(if_pos rfl).symm⟩
 ·have e:R=false:=hR.trans (Pl.oQ ok);subst e;clear hR hT hr ok h hwf hk hs hE;go_in;go_wp2_with ((with_reducible show Calls _ _ _ _ _);refine (TO.o _ (aA w _)).mono ?_;rintro e z ⟨rfl,d⟩;have D2:Hid (Bw w z):=(aA w _).trans (d.mono (by simp));clear d)
  go_ret2;exact⟨_,false,[],rfl,World.ownsRow_nil _ _ 5 1,D2.o,HRR.o,rfl⟩
def Kf (g:Nat) (u0:World) (a:Option Addr) (n:Nat):Prop:=n=0\/∃b off,a=some ⟨b,off,none⟩/\g<b/\b<u0.heap.size/\(∀q,u0.frozen? ⟨b,q,none⟩=false)/\∀j,j<n->(u0.cell? ⟨b,off+j,none⟩).isSome=true
structure Mt (g len:Nat) (u0 w0 w:World):Prop where
 os:w.os=w0.os
 tape:w.tape=w0.tape
 output:w.output=w0.output
 sz:w0.heap.size<=w.heap.size
 blk:∀k,k<w0.heap.size->k<g\/u0.heap.size<=k->w.heap[k]?=w0.heap[k]?
 fr:∀k q,k<u0.heap.size->w.frozen? ⟨k,q,none⟩=u0.frozen? ⟨k,q,none⟩
 so:∀k q,k<u0.heap.size->(w.cell? ⟨k,q,none⟩).isSome=(u0.cell? ⟨k,q,none⟩).isSome
 kd:∀i,i<len->w.cell? ⟨g,i*7+4,none⟩=u0.cell? ⟨g,i*7+4,none⟩
section
variable {g len:Nat}{u0 w0 w w':World}
theorem Mt.begin (d:Bw u0 w0) (hg:g<u0.heap.size):Mt g len u0 w0 w0:=⟨rfl,rfl,rfl,Nat.le_refl _,fun _ _ _=>rfl,fun k q hk=>d.frozen (p:=⟨k,q,none⟩) hk,fun k q hk=>by rw[d.cell (p:=⟨k,q,none⟩) hk],fun i _=>d.cell (p:=⟨g,i*7+4,none⟩) hg⟩
theorem Mt.later (M:Mt g len u0 w0 w) (h0:u0.heap.size<=w0.heap.size) (hg:g<u0.heap.size) (d:Bw w w'):Mt g len u0 w0 w':=by
 have hz:=Nat.le_trans h0 M.sz;exact⟨d.os.trans M.os,d.tape.trans M.tape,d.output.trans M.output,Nat.le_trans M.sz d.size,fun k hk q=>(d.block k (Nat.lt_of_lt_of_le hk M.sz)).trans (M.blk k hk q),fun k q hk=>(d.frozen (p:=⟨k,q,none⟩) (Nat.lt_of_lt_of_le hk hz)).trans (M.fr k q hk),fun k q hk=>by rw[d.cell (p:=⟨k,q,none⟩) (Nat.lt_of_lt_of_le hk hz)];exact M.so k q hk,fun i hi=>(d.cell (p:=⟨g,i*7+4,none⟩) (Nat.lt_of_lt_of_le hg hz)).trans (M.kd i hi)⟩
theorem Mt.set (M:Mt g len u0 w0 w){k j:Nat}(hk:g<=k/\k<u0.heap.size) (hs:(u0.cell? ⟨k,j,none⟩).isSome=true) (hn:k=g->j % 7≠4) (v:Value):Mt g len u0 w0 (w.setCell ⟨k,j,none⟩ v):=by
 have hs':=(M.so k j hk.2).trans hs;have o:∀p,p≠⟨k,j,none⟩->(w.setCell ⟨k,j,none⟩ v).cell? p=w.cell? p:=fun p hp=>World.cell?_setCell_other _ _ _ _ (by first|exact hp|exact hp.symm);refine⟨M.os,M.tape,M.output,by rw[World.size_setCell];exact M.sz,fun q hq h=>?_,fun q r hq=>by rw[World.frozen?_setCell];exact M.fr q r hq,fun q r hq=>?_,fun i hi=>?_⟩
 ·rw[heap_setCell_other _ _ _ _ (by show q≠k;omega)];exact M.blk q hq h
 ·by_cases e:(⟨q,r,none⟩:Addr)=⟨k,j,none⟩
  ·cases e;rw[World.cell?_setCell_same' _ _ _ hs',<- M.so k j hq,hs'];rfl
  ·rw[o _ e];exact M.so q r hq
 ·rw[o _ fun e=>by cases e;exact hn rfl (by omega)];exact M.kd i hi
theorem VG (a:Option Addr) (n c:Nat) (k:Int) (h:Mt g len u0 w0 w) (ha:Kf g u0 a n) (hk:0<=k/\k<=4611686018427387904) (hn:n<=1048576):Calls Tryz.prog 48 #[.slice a n c,.int .i64 k] w fun e w'=>e=.returned (.int .i64 (k+n))/\Mt g len u0 w0 w':=by
 have H0:Hid (Mt g len u0 w0 w):=h;have HA:Hid (Kf g u0 a n):=ha;clear h ha;go_enter Tryz.func48,Tryz.ntmps48;go_wp2;go_loopw [1,5] (fun x i wr=>∃j:Nat,j<=n/\i=.int .i64 j/\x=.int .i64 (k+(j:Int))/\Hid (Mt g len u0 w0 wr)) (fun _ i _=>n-(intOf i).toNat)
 case atStart=>exact⟨0,Nat.zero_le _,rfl,by simp,H0⟩
 case round=>
  obtain⟨j,hj,rfl,rfl,M⟩:=hrel;by_cases hlt:j<n
  ·obtain⟨b,off,rfl,h1,h2,hf,hc⟩:=HA.o.resolve_left (by omega);have hfz:wr.frozen? ⟨b,off+j,none⟩=false:=(M.o.fr b _ h2).trans (hf _);obtain⟨y,hy⟩:=Option.isSome_iff_exists.1 ((M.o.so b (off+j) h2).trans (hc j hlt));have HC:Hid ((u0.cell? ⟨b,off+j,none⟩).isSome=true/\g<b/\b<u0.heap.size):=⟨hc j hlt,h1,h2⟩;clear hf hc h1 h2;go_wp2;go_roundw
   case rel=>exact⟨j+1,by omega,by go_num,congrArg (Value.int .i64) (by omega),M.o.set ⟨Nat.le_of_lt HC.o.2.1,HC.o.2.2⟩ HC.o.1 (fun e=>by have:=HC.o.2.1;omega) _⟩
   case measure=>simp[intOf];omega
  ·have hje:j=n:=(by omega);subst hje;go_wp2;go_ret;exact⟨rfl,M.o⟩
end
def MkA (e:Ending):Prop:=∃k:Int,0<=k/\e=.returned (.int .i64 k)
set_option maxRecDepth 100000 in
theorem OU {lo g len:Nat}{xs:List Pl.Nd}{u0 w:World}(h:aT lo u0 (some ⟨g,0,none⟩) len len xs) (hF:Fz g len u0) (hg:g<u0.heap.size) (hl:len<=1048576) (hks:∀i,i<len->(xs.getD i Pl.Nd.zero).kids.length<=1048576) (d:Bw u0 w):Calls Tryz.prog 21 #[.slice (some ⟨g,0,none⟩) len len,.int .i64 1] w fun e w'=>MkA e/\Mt g len u0 w w':=by
 have HN:Hid (∀i,i<len->∃v:SV,(∀j,j<7->(u0.cell? ⟨g,i*7+j,none⟩).isSome=true)/\u0.cell? ⟨g,i*7+4,none⟩=some (.slice v.a v.len v.cap)/\v.len<=1048576/\Kf g u0 v.a v.len):=fun i hi=>by
  obtain⟨b,off,v,e,-,-,hc,hr,-⟩:=h.at hi;cases e;simp only[Nat.zero_add]at hc;have h4:=hc 4 (by decide);refine⟨v,fun j hj=>?_,h4,by have:=hr.1;have:=hks i hi;omega,?_⟩
  ·rw[hc j hj];rcases (show j=0\/j=1\/j=2\/j=3\/j=4\/j=5\/j=6 by omega) with rfl|rfl|rfl|rfl|rfl|rfl|rfl <;> rfl
  ·rcases hr.2.2.2.2 with q|⟨b,off,e,-,-,q⟩
   ·exact .inl q
   ·obtain⟨f1,f2,f3⟩:=hF.2 i hi v h4 _ e;exact .inr ⟨b,off,e,f1,f2,f3,fun j hj=>by rw[q j hj];rfl⟩
 have HF:Hid ((∀q,u0.frozen? ⟨g,q,none⟩=false)/\g<u0.heap.size/\u0.heap.size<=w.heap.size):=⟨hF.1,hg,d.size⟩;have M0:Hid (Mt g len u0 w w):=Mt.begin d hg;clear h hF hg hks d;go_enter Tryz.func21,Tryz.ntmps21;go_wp2_with fail
 go_loopw [1,5] (fun kv t wr=>∃(i:Nat) (k:Int),i<=len/\t=.int .i64 (i:Int)/\kv=.int .i64 k/\1<=k/\k<=1+1048582*(i:Int)/\Hid (Mt g len u0 w wr)) (fun _ t _=>len-(intOf t).toNat)
 case atStart=>exact⟨0,1,Nat.zero_le _,rfl,rfl,by omega,by omega,M0⟩
 case round=>
  obtain⟨i,k,hi',rfl,rfl,hk1,hk2,M⟩:=hrel;have HKB:Hid (k<=1+1048582*(i:Int)):=hk2;by_cases hlt:i<len
  rotate_left
  ·have hii:¬((i:Int)<(len:Int)):=(by omega);go_wp2_with fail
   go_ret;exact⟨⟨k,by omega,rfl⟩,M.o⟩
  have hii:(i:Int)<(len:Int):=by omega
  have hkb:k<=2000000000000:=by omega
  obtain⟨⟨va,vl,vc⟩,hs,h4,hvl,hrw⟩:=HN.o i hlt;have HS:Hid (∀j,j<7->(u0.cell? ⟨g,i*7+j,none⟩).isSome=true):=hs;have HV:Hid (Kf g u0 va vl):=hrw;have HC:Hid (∀u:World,Mt g len u0 w u->∀j,j<7->(∃z,u.cell? ⟨g,i*7+j,none⟩=some z)/\u.frozen? ⟨g,i*7+j,none⟩=false):=fun u m j hj=>⟨Option.isSome_iff_exists.1 ((m.so g _ HF.o.2.1).trans (HS.o j hj)),(m.fr g _ HF.o.2.1).trans (HF.o.1 _)⟩;have ST:Hid (∀(u:World) (j:Nat) (z:Value),j<7->j≠4->Mt g len u0 w u->Mt g len u0 w (u.setCell ⟨g,i*7+j,none⟩ z)):=fun u j z hj h4 m=>m.set ⟨Nat.le_refl _,HF.o.2.1⟩ (HS.o j hj) (fun _=>by omega) z;have H4:Hid (u0.cell? ⟨g,i*7+4,none⟩=some (.slice va vl vc)/\vl<=1048576):=⟨h4,hvl⟩;clear hs hrw h4 hvl hk2;obtain⟨⟨z0,c0⟩,f0⟩:=HC.o wr M.o 0 (by decide);obtain⟨⟨z1,c1⟩,f1⟩:=HC.o wr M.o 1 (by decide);obtain⟨⟨z2,c2⟩,f2⟩:=HC.o wr M.o 2 (by decide);rw[Nat.add_zero]at c0 f0;go_wp2_with fail
  refine KO fun U hU=>?_;have M1:Hid (Mt g len u0 w U):=by
   rw[hU];exact ST.o _ 2 _ (by decide) (by decide) (ST.o _ 1 _ (by decide) (by decide) (ST.o _ 0 _ (by decide) (by decide) M.o))
  clear hU c0 c1 c2 f0 f1 f2;refine (QW _ (by omega) U).mono ?_;rintro e u1 ⟨rfl,d1⟩;have M2:Hid (Mt g len u0 w u1):=M1.o.later HF.o.2.2 HF.o.2.1 d1;obtain⟨⟨z3,c3⟩,f3⟩:=HC.o u1 M2.o 3 (by decide);have c4:u1.cell? ⟨g,i*7+4,none⟩=some (.slice va vl vc):=(M2.o.kd i hlt).trans H4.o.1;clear d1;go_wp2_with fail
  refine KO fun U2 hU2=>?_;have M3:Hid (Mt g len u0 w U2):=by rw[hU2];exact ST.o _ 3 _ (by decide) (by decide) M2.o
  clear hU2 c3 f3 c4;refine (VG va vl vc _ M3.o HV.o (by omega) H4.o.2).mono ?_;rintro e u2 ⟨rfl,m4⟩;have M4:Hid (Mt g len u0 w u2):=m4;obtain⟨⟨z5,c5⟩,f5⟩:=HC.o u2 M4.o 5 (by decide);obtain⟨⟨z6,c6⟩,f6⟩:=HC.o u2 M4.o 6 (by decide);have TA:(vl:Int)<=1048576:=by have:=H4.o.2;omega
  clear m4;go_wp2_with fail
  refine⟨⟨i+1,_,by omega,by go_num,rfl,by omega,by have:=HKB.o;omega,?_⟩,by simp[intOf];omega⟩;exact ST.o _ 6 _ (by decide) (by decide) (ST.o _ 5 _ (by decide) (by decide) M4.o)
theorem VH {lo g len:Nat}{xs:List Pl.Nd}{u0 w:World}(h:aT lo u0 (some ⟨g,0,none⟩) len len xs) (hF:Fz g len u0) (hg:g<u0.heap.size) (hl:len<=1048576) (hks:∀i,i<len->(xs.getD i Pl.Nd.zero).kids.length<=1048576) (d:Bw u0 w):Calls Tryz.prog 10 #[.agg #[.slice (some ⟨g,0,none⟩) len len],.int .i64 1] w fun e w'=>∃w1,Bw w w1/\MkA e/\Mt g len u0 w1 w':=by
 have C:Hid (∀u:World,Bw w u->Calls Tryz.prog 21 #[.slice (some ⟨g,0,none⟩) len len,.int .i64 1] u fun e w'=>MkA e/\Mt g len u0 u w'):=fun u b=>OU h hF hg hl hks (d.trans (b.mono d.size));clear h hF hg hl hks;go_enter Tryz.func10,Tryz.ntmps10;go_wp2_with ((with_reducible show Calls _ _ _ _ _);refine (C.o _ (aA w _)).mono ?_;rintro e z ⟨⟨k,hk,rfl⟩,m⟩;have HM:Hid (Mt g len u0 _ z):=m;clear m)
 go_ret;exact⟨_,aA w _,⟨k,hk,rfl⟩,HM.o⟩
end W
set_option maxRecDepth 8000
namespace W
open Go.RowKit
structure Gt (lo hi:Nat) (u:World) (v:SV) (t:List UInt8):Prop where
 own:Own .u8 5 lo u v.a v.len v.cap (t.map fun b=>(b.toNat:Int))
 hi_:∀g,(Value.slice v.a v.len v.cap).ownBlock=some g->g<hi
 sm:v.len<=1000000000
section
variable {lo hi:Nat}{u u':World}{v:SV}{t:List UInt8}
theorem Gt.on (h:Gt lo hi u v t) (d:∀g,lo<=g->g<hi->u'.heap[g]?=u.heap[g]?):Gt lo hi u' v t:=⟨⟨dK h.own.1 fun g hg=>d g (h.own.1.lt g hg).1 (h.hi_ g hg),h.own.2⟩,h.hi_,h.sm⟩
theorem Gt.later (h:Gt lo hi u v t) (hz:hi<=u.heap.size) (d:Bw u u'):Gt lo hi u' v t:=h.on fun g _ hg=>d.block g (Nat.lt_of_lt_of_le hg hz)
theorem Gt.ad (h:Gt lo hi u v t):∀ad,v.a=some ad->lo<=ad.block/\ad.block<hi:=fun ad e=>by
 have hh:=h.hi_;rcases h.own.1.2 with ⟨h0,_⟩|⟨g,c,cur,h0,hlo,_⟩
 ·injection h0 with h0;rw[h0]at e;cases e
 ·injection h0 with h0;rw[h0]at e hh;cases e;exact⟨hlo,hh g rfl⟩
end
theorem aAX.got {xs:List Pl.Nd}{T:List UInt8}{w w':World}{e:Ending}(h:aAX xs T w e w') (hT:Pl.aZ xs->T.length<=Pl.room):∃v:SV,e=.returned (.tuple #[.slice v.a v.len v.cap,.bool (Pl.uN (Pl.aZ xs))])/\Gt w.heap.size w'.heap.size w' v (if Pl.uN (Pl.aZ xs)=true then T else [])/\Bw w w':=by
 obtain⟨v,b,t,rfl,ho,d,rfl,rfl⟩:=h;obtain⟨a,c,rfl⟩:=tY ho;refine⟨⟨a,_,c⟩,rfl,⟨⟨?_,?_⟩,fun g hg=>(ho.lt g hg).2,?_⟩,d⟩
 ·rw[List.map_map];exact ho
 ·intro n hn;obtain⟨b,_,rfl⟩:=List.mem_map.1 hn;have:=b.toNat_lt;exact WalkArith.wf_u8 ⟨by omega,by omega⟩
 ·show (if _ then T else []).length<=_;split
  ·rename_i h;exact hT (Pl.vK h)
  ·exact Nat.zero_le _
theorem yO {lo:Nat}(a:Option Addr) (len cap:Nat) (xs:List Pl.Nd) (w:World) (h:aT lo w a len cap xs) (hwf:Pl.NN xs) (hE:AY w) :
  Calls Tryz.prog 3 #[.agg #[.slice a len cap]] w fun e w'=>e=.returned (.bool true)/\Bw w w':=by
 have hxl:=h.1.1;have HR:Hid (aT lo w a len cap xs):=h;clear h;go_enter Tryz.func3,Tryz.ntmps3;go_wp2_with fail
 refine KO fun w0 hw0=>?_;have hb0:Bw w w0:=by rw[hw0];exact aA _ _
 have q0:w0.heap[w.heap.size]?=some (.cells #[.slice a len cap] 24):=by rw[hw0];exact heap_alloc_new w _
 have hz0:w.heap.size<w0.heap.size:=(Array.getElem?_eq_some_iff.1 q0).1;clear hw0;have K0:Hid (∀u:World,Bw w0 u->u.cell? ⟨w.heap.size,0,none⟩=some (.slice a len cap)):=fun u hu=>(hu.cell (p:=⟨w.heap.size,0,none⟩) hz0).trans (cell_of_row w0 w.heap.size 0 _ 24 (0,0) q0);have HB:Hid (∀u:World,Bw w0 u->Bw w u):=fun u hu=>hb0.trans (hu.mono (by omega));have HA:Hid (∀u:World,Bw w0 u->aT lo u a len cap xs):=fun u hu=>(HR.o.keep hb0).keep hu;have HEE:Hid (∀u:World,Bw w0 u->AY u):=fun u hu=>hE.on (hb0.trans (hu.mono (by omega)));clear q0 HR;refine (UY a len cap xs 1048576 (by decide) w0 (HA.o w0 (Below.refl _ _))).mono ?_;rintro e u1 ⟨r,rfl,hr,d1⟩;have D1:Hid (Bw w0 u1):=d1;have HQ:Hid (0<=r->r<=1048576/\len<=1048576/\∀i,i<len->(xs.getD i Pl.Nd.zero).kids.length<=1048576/\(xs.getD i Pl.Nd.zero).s.size<=1048576):=hr;clear hr d1;by_cases hneg:r<0
 ·go_wp2;go_ret;exact⟨rfl,HB.o _ D1.o⟩
 obtain⟨-,hl1,hk1⟩:=HQ.o (by omega);have hT:Pl.aZ xs->(Pl.tx Pl.iF xs (len-1)).pr.length<=Pl.room:=fun ok=>by rw[<- hxl];exact Pl.aA1 ok
 have T:Hid (∀u:World,Bw w0 u->Calls Tryz.prog 6 #[.agg #[.slice a len cap]] u fun e w'=>∃b,e=.returned (.agg #[.slice (some ⟨b,0,none⟩) len len])/\aT u.heap.size w' (some ⟨b,0,none⟩) len len xs/\Bw u w'/\Fz b len w'/\u.heap.size<=b/\b<w'.heap.size):=fun u hu=>ZN a len cap xs u (HA.o u hu) hl1 (fun i hi=>(hk1 i hi).1);obtain⟨R,hR⟩:∃R,R=Pl.uN (Pl.aZ xs):=⟨_,rfl⟩;obtain⟨t,ht⟩:∃t,t=if Pl.uN (Pl.aZ xs)=true then (Pl.tx Pl.iF xs (len-1)).pr else []:=⟨_,rfl⟩
 have SP:Hid (∀(l9:Nat) (u:World) (a1:Option Addr),aT l9 u a1 len len xs->Calls Tryz.prog 5 #[.agg #[.slice a1 len len]] u fun e w'=>∃v:SV,e=.returned (.tuple #[.slice v.a v.len v.cap,.bool R])/\Gt u.heap.size w'.heap.size w' v t/\Bw u w'):=fun l9 u a1 h1=>by rw[hR,ht];exact (OH a1 len len xs u h1 hwf (fun i hi=>(hk1 i hi).1) (fun i hi=>(hk1 i hi).2) hT).mono fun e w' q=>q.got hT
 have IP:Hid (∀(l9:Nat) (u:World) (a1:Option Addr),Bw w0 u->aT l9 u a1 len len xs->Calls Tryz.prog 7 #[.agg #[.slice a1 len len]] u fun e w'=>∃v:SV,e=.returned (.tuple #[.slice v.a v.len v.cap,.bool R])/\Gt u.heap.size w'.heap.size w' v t/\Bw u w'):=fun l9 u a1 hu h1=>by rw[hR,ht];exact (OT a1 len len xs u h1 hwf (fun i hi=>(hk1 i hi).1) (fun i hi=>(hk1 i hi).2) (HEE.o u hu) hT).mono fun e w' q=>q.got hT
 have EQ:Hid (∀(u:World) (v v':SV) (l h l' h':Nat),Gt l h u v t->Gt l' h' u v' t->Calls Tryz.prog 8 #[.slice v.a v.len v.cap,.slice v'.a v'.len v'.cap] u fun e w'=>e=.returned (.bool true)/\Bw u w'):=fun u v v' l h l' h' g g'=>(zV v.a v'.a _ _ _ _ _ _ u g.own.row g'.own.row).mono fun e w' ⟨q,d⟩=>⟨by rw[q];simp,d⟩;have HL:Hid (len<=1048576/\∀i,i<len->(xs.getD i Pl.Nd.zero).kids.length<=1048576):=⟨hl1,fun i hi=>(hk1 i hi).1⟩;clear hl1 hk1 HQ hwf hE hT hR ht HEE HA;have k0:=K0.o u1 D1.o;go_upto_region 6 with ((with_reducible show Calls _ _ _ _ _);first|(refine (T.o _ D1.o).mono ?_;rintro e u2 ⟨b2,rfl,o2,d2,-⟩;have D2:Hid (Bw w0 u2):=D1.o.trans (d2.mono D1.o.size);have O2:Hid (aT u1.heap.size u2 (some ⟨b2,0,none⟩) len len xs):=o2;clear o2 d2 D1 k0)|(refine (SP.o _ _ _ O2.o).mono ?_;rintro e u3 ⟨v0,rfl,g3,d3⟩;have G3:Hid (Gt u2.heap.size u3.heap.size u3 v0 t):=g3;have D3:Hid (Bw w0 u3):=D2.o.trans (d3.mono D2.o.size);clear g3 d3))
 have k0:=K0.o u3 D3.o;go_upto_region 7 with ((with_reducible show Calls _ _ _ _ _);refine (T.o _ D3.o).mono ?_;rintro e u4 ⟨b4,rfl,o4,d4,f4,z4,y4⟩;have O4:Hid (aT u3.heap.size u4 (some ⟨b4,0,none⟩) len len xs/\Fz b4 len u4/\u3.heap.size<=b4/\b4<u4.heap.size):=⟨o4,f4,z4,y4⟩;have D4:Hid (Bw w0 u4):=D3.o.trans (d4.mono D3.o.size);have G4:Hid (Gt u2.heap.size u3.heap.size u4 v0 t):=G3.o.later (Nat.le_refl _) d4;clear o4 d4 f4 z4 y4)
 refine aG fun u5 hu5=>?_;have B5:Hid (Bw u4 u5):=by rw[hu5];exact aA u4 _
 have QX:Hid (u5.heap[u4.heap.size]?=some (.cells #[.slice (some ⟨b4,0,none⟩) len len] 31)):=by rw[hu5];exact heap_alloc_new u4 _
 obtain⟨nx,hnx⟩:∃nx,nx=u4.heap.size:=⟨_,rfl⟩;have YN:Hid (u4.heap.size<u5.heap.size):=(Array.getElem?_eq_some_iff.1 QX.o).1;have KX:Hid (∀u:World,(∀g,u4.heap.size<=g->g<u5.heap.size->u.heap[g]?=u5.heap[g]?)->u.cell? ⟨nx,0,none⟩=some (.slice (some ⟨b4,0,none⟩) len len)):=fun u hu=>by rw[hnx];exact cell_of_row u _ 0 _ 31 (0,0) ((hu _ (Nat.le_refl _) YN.o).trans QX.o)
 rw[<- hnx];have D5:Hid (Bw w0 u5):=D4.o.trans (B5.o.mono D4.o.size);clear hu5 hnx QX k0;have kx:=KX.o u5 fun _ _ _=>rfl;go_upto_region 8 with ((with_reducible show Calls _ _ _ _ _);refine (IP.o _ _ _ D5.o (O4.o.1.keep B5.o)).mono ?_;rintro e u6 ⟨v1,rfl,g6,d6⟩;have G6:Hid (Gt u5.heap.size u6.heap.size u6 v1 t):=g6;have B6:Hid (Bw u5 u6):=d6;clear g6 d6)
 clear kx;have D6:Hid (Bw w0 u6):=D5.o.trans (B6.o.mono D5.o.size);have Qk:Hid (u3.heap.size<=u4.heap.size):=by have:=O4.o;show _<=_;omega
 have H6:Hid (Gt u2.heap.size u3.heap.size u6 v0 t):=(G4.o.later Qk.o B5.o).later (Nat.le_trans Qk.o B5.o.size) B6.o;go_wp2_with fail
 refine (EQ.o _ _ _ _ _ _ _ G6.o H6.o).mono ?_;rintro e u7 ⟨rfl,d7⟩;have B7:Hid (Bw u6 u7):=d7;have D7:Hid (Bw w0 u7):=D6.o.trans (B7.o.mono D6.o.size);have B75:Hid (Bw u5 u7):=B6.o.trans (B7.o.mono B6.o.size);have X:Hid (∀u:World,Bw u7 u->aT u3.heap.size u (some ⟨b4,0,none⟩) len len xs/\Bw u4 u/\u.cell? ⟨nx,0,none⟩=some (.slice (some ⟨b4,0,none⟩) len len)):=fun u hu=>by
  have d5:Bw u5 u:=B75.o.trans (hu.mono B75.o.size);have d4:=B5.o.trans (d5.mono B5.o.size);exact⟨O4.o.1.keep d4,d4,KX.o u fun g _ hg=>d5.block g hg⟩
 have T7:Hid (∀u:World,Bw u7 u->Calls Tryz.prog 6 #[.agg #[.slice a len cap]] u fun e w'=>∃b,e=.returned (.agg #[.slice (some ⟨b,0,none⟩) len len])/\aT u7.heap.size w' (some ⟨b,0,none⟩) len len xs/\Bw u7 w'/\w'.cell? ⟨w.heap.size,0,none⟩=some (.slice a len cap)/\w'.cell? ⟨nx,0,none⟩=some (.slice (some ⟨b4,0,none⟩) len len)):=fun u hu=>(T.o u (D7.o.trans (hu.mono D7.o.size))).mono fun e w' ⟨b,he,hn,hd,_⟩=>by
  have d:=hu.trans (hd.mono hu.size);exact⟨b,he,hn.lower hu.size,d,K0.o _ (D7.o.trans (d.mono D7.o.size)),(X.o _ d).2.2⟩
 have E7:Hid (∀(u:World) (b:Nat),Bw u7 u->aT u7.heap.size u (some ⟨b,0,none⟩) len len xs->Calls Tryz.prog 9 #[.agg #[.slice (some ⟨b4,0,none⟩) len len],.agg #[.slice (some ⟨b,0,none⟩) len len]] u fun e w'=>e=.returned (.bool true)/\Bw u7 w'):=fun u b hu h=>(UX _ _ _ _ _ xs u (X.o u hu).1 h).mono fun e w' ⟨he,hd⟩=>⟨he,hu.trans (hd.mono hu.size)⟩;have k0:=K0.o u7 D7.o;have j0:=(X.o u7 (Below.refl _ _)).2.2;go_wp2_with fail
 go_region_held3 (fun u=>u.cell? ⟨w.heap.size,0,none⟩=some (.slice a len cap)/\u.cell? ⟨nx,0,none⟩=some (.slice (some ⟨b4,0,none⟩) len len)) (go_keep) (first|(go_at_call 9;refine (E7.o _ _ (by apply_rules [B8.o,Below.drew,below_drewN]) (O8.o.keep (by apply_rules [Below.refl,Below.drew,below_drewN]))).mono ?_;rintro e u9 ⟨rfl,d9⟩;have B9:Hid (Bw u7 u9):=d9;have k0:=K0.o u9 (D7.o.trans (B9.o.mono D7.o.size));have j0:=(X.o u9 B9.o).2.2;clear d9)|(go_at_call 6;refine (T7.o _ (by apply_rules [Below.refl,Below.drew,below_drewN])).mono ?_;rintro e u8 ⟨b8,rfl,o8,d8,k0,j0⟩;have B8:Hid (Bw u7 u8):=d8;have O8:Hid (aT u7.heap.size u8 (some ⟨b8,0,none⟩) len len xs):=o8;clear o8 d8))
 all_goals
  go_upto_region 13 with fail
  refine aG fun ua hua=>?_;have Ba:Hid (Bw u7 ua):=by
   show Bw u7 ua;rw[hua]
   repeat (first|with_reducible exact B9.o|refine Below.drew ?_|refine below_drewN ?_ _)
  clear hua k0 j0;have j0:=(X.o ua Ba.o).2.2;go_upto_region 14 with ((with_reducible show Calls _ _ _ _ _);refine (VH O4.o.1 O4.o.2.1 O4.o.2.2.2 HL.o.1 HL.o.2 (X.o ua Ba.o).2.1).mono ?_;rintro e ub ⟨w1,b1,⟨k,hk,rfl⟩,m⟩;have hk9:¬k<0:=(by omega);have MM:Hid (Bw ua w1/\Mt b4 len u4 w1 ub):=⟨b1,m⟩;clear b1 m hk j0)
  have s5:Hid (w0.heap.size<=u2.heap.size/\u3.heap.size<=b4/\u4.heap.size<=u5.heap.size/\w0.heap.size<=u3.heap.size/\w0.heap.size<=u5.heap.size/\u3.heap.size<=u5.heap.size):=by
   have:=O4.o.2.2;have h1:=D2.o.size;have h2:=D3.o.size;have h3:=YN.o;show _/\_;omega
  have B1:Hid (Bw u7 w1):=Ba.o.trans (MM.o.1.mono Ba.o.size);have D1:Hid (Bw w0 w1):=D7.o.trans (B1.o.mono D7.o.size);have B16:Hid (Bw u6 w1):=B7.o.trans (B1.o.mono B7.o.size);have Gb:Hid (Gt u5.heap.size u6.heap.size ub v1 t/\Gt u2.heap.size u3.heap.size ub v0 t/\Bw w0 ub/\u6.heap.size<=ub.heap.size):=by
   have M:=MM.o.2;have q:=s5.o;have z6:=B16.o.size;have z5:=B6.o.size;refine⟨(G6.o.later (Nat.le_refl _) B16.o).on fun g h1 h2=>M.blk g (by omega) (.inr (by omega)),(H6.o.later (by omega) B16.o).on fun g h1 h2=>M.blk g (by omega) (.inl (by omega)),⟨M.os.trans D1.o.os,M.tape.trans D1.o.tape,M.output.trans D1.o.output,Nat.le_trans D1.o.size M.sz,fun g hg=>(M.blk g (Nat.lt_of_lt_of_le hg D1.o.size) (.inl (by omega))).trans (D1.o.block g hg)⟩,Nat.le_trans z6 M.sz⟩
  clear B1 D1 B16 MM Ba;go_upto_region 17 with ((with_reducible show Calls _ _ _ _ _);refine (EQ.o _ _ _ _ _ _ _ Gb.o.1 Gb.o.2.1).mono ?_;rintro e uc ⟨rfl,dc⟩;have DC:Hid (Bw ub uc):=dc;clear dc)
  have Gc:Hid (Gt u5.heap.size u6.heap.size uc v1 t/\Gt u2.heap.size u3.heap.size uc v0 t/\Bw w0 uc/\u6.heap.size<=uc.heap.size):=by
   have q:=s5.o;have z5:=B6.o.size;have z:=Gb.o;exact⟨z.1.later z.2.2.2 DC.o,z.2.1.later (by omega) DC.o,z.2.2.1.trans (DC.o.mono z.2.2.1.size),Nat.le_trans z.2.2.2 DC.o.size⟩
  have SM:Hid (v1.len<=1000000000):=Gc.o.1.sm;clear Gb DC;go_upto_region 18 with ((with_reducible show Calls _ _ _ _ _);refine (IA v1.a v1.len v1.cap _ 1 _ Gc.o.1.own (by have:=SM.o;omega)).mono ?_;rintro e ud ⟨rfl,od,td⟩;have OD:Hid (Own .u8 5 u5.heap.size ud v1.a v1.len v1.cap (oD 1 v1.len)/\Touch v1.a uc ud):=⟨od,td⟩;clear od td)
  have Gd:Hid (Gt u2.heap.size u3.heap.size ud v0 t/\Bw w0 ud/\u6.heap.size<=ud.heap.size):=by
   have q:=s5.o;have z:=Gc.o;have td:=OD.o.2;have hb:∀g,g<u5.heap.size->ud.heap[g]?=uc.heap[g]?:=fun g hg=>td.block g fun ad e=>by have:=(z.1.ad ad e).1;omega
   refine⟨z.2.1.on fun g _ h2=>hb g (by omega),⟨td.os.trans z.2.2.1.os,td.tape.trans z.2.2.1.tape,td.output.trans z.2.2.1.output,by rw[td.size];exact z.2.2.1.size,fun g hg=>(hb g (by omega)).trans (z.2.2.1.block g hg)⟩,by rw[td.size];exact z.2.2.2⟩
  have hq9:¬(1:Int)+(v1.len:Int)<0:=by omega
  clear Gc;go_upto_region 20 with ((with_reducible show Calls _ _ _ _ _);refine (IC v1.a v1.len v1.cap 1 _ OD.o.1.row (by have:=SM.o;omega)).mono ?_;rintro e ue ⟨rfl,de⟩;have DE:Hid (Bw ud ue):=de;clear de)
  have Ge:Hid (Gt u2.heap.size u3.heap.size ue v0 t/\Bw w0 ue/\u6.heap.size<=ue.heap.size):=by
   have q:=s5.o;have z5:=B6.o.size;have z:=Gd.o;exact⟨z.1.later (by omega) DE.o,z.2.1.trans (DE.o.mono z.2.1.size),Nat.le_trans z.2.2 DE.o.size⟩
  clear Gd DE OD;have k0:=K0.o ue Ge.o.2.1;go_upto_region 25 with ((with_reducible show Calls _ _ _ _ _);first|(refine (T.o _ Ge.o.2.1).mono ?_;rintro e uf ⟨bf,rfl,of,df,-⟩;have DF:Hid (Bw ue uf/\aT ue.heap.size uf (some ⟨bf,0,none⟩) len len xs):=⟨df,of⟩;clear df of k0)|(refine (IP.o _ _ _ (Ge.o.2.1.trans (DF.o.1.mono Ge.o.2.1.size)) DF.o.2).mono ?_;rintro e ug ⟨v2,rfl,gg,dg⟩;have DG:Hid (Gt uf.heap.size ug.heap.size ug v2 t/\Bw uf ug):=⟨gg,dg⟩;clear gg dg))
  have Gg:Hid (Gt u2.heap.size u3.heap.size ug v0 t/\Bw w0 ug):=by
   have q:=s5.o;have z5:=B6.o.size;have z:=Ge.o;have d1:=DF.o.1;have z2:=d1.size;exact⟨(z.1.later (by omega) d1).later (by omega) DG.o.2,(z.2.1.trans (d1.mono z.2.1.size)).trans (DG.o.2.mono (Nat.le_trans z.2.1.size z2))⟩
  go_wp2_with ((with_reducible show Calls _ _ _ _ _);refine (EQ.o _ _ _ _ _ _ _ DG.o.1 Gg.o.1).mono ?_;rintro e uh ⟨rfl,dh⟩;have DH:Hid (Bw w0 uh):=Gg.o.2.trans (dh.mono Gg.o.2.size);clear dh)
  go_ret;exact⟨rfl,HB.o _ DH.o⟩
end W
end Go.Proofs.YtjcdiegfnoaedaaGreatDoor
