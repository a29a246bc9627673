import Derived.Test.YtjcdiegfnoaedaaGreatDoorZ15
set_option linter.unusedVariables false
set_option linter.unusedSimpArgs false
set_option maxHeartbeats 16000000
namespace Go.Proofs.YtjcdiegfnoaedaaGreatDoor
namespace W
open Go.RowKit
theorem bE {P:Program}{fn:Func}{p q r:Tmp}{ty:TypeId}(h:fn.results=#[.cell p ty,.tmp q,.tmp r]) (tmps:Array Value) (w:World) (g:Nat) (t:TypeId) (cs:Array Value) (fr:Nat × Nat) (d:TypeDesc) (v u:Value)
  (hp:tmps.getD p undef=.pointer (some ⟨g,0,none⟩)) (hq:tmps.getD q undef=v) (hq2:tmps.getD r undef=u) (hg:w.heap[g]?=some (.cells cs t fr))
  (hu:P.underlying ty=some d) (hd:(match d with|.struct _|.array _ _=>true|_=>false)=true) (hi:(P.info? ty).map (·.size)=some cs.size) :
  (results fn tmps).run P w=.ok (.tuple #[.agg cs,v,u]) w:=by
 have hp':tmps[p]?.getD undef=.pointer (some ⟨g,0,none⟩):=by simpa using hp
 have hq':tmps[q]?.getD undef=v:=by simpa using hq
 have hr':tmps[r]?.getD undef=u:=by simpa using hq2
 simp[results,h,hp',hq',hr',asAddr,run_loadVar_row w g t ty cs fr d hg hu hd hi]
def yZ (t:ByteArray) (e:Ending):Prop:=match Pl.aM t 0 with
 | .ok (k,S,N,n)=>e=.returned (.tuple #[.agg #[.int .i64 k,.string S,.int .i64 N,.int .i64 0,.int .i64 0],.int .i64 n,.int .i64 0])
 | .error f=>∃q:Int,e=.returned (.tuple #[.agg #[.int .i64 0,.string ⟨#[]⟩,.int .i64 0,.int .i64 0,.int .i64 0],.int .i64 q,.int .i64 f])
theorem sH {t:ByteArray}{f q:Int}(h:Pl.aM t 0=.error f):yZ t (.returned (.tuple #[.agg #[.int .i64 0,.string ⟨#[]⟩,.int .i64 0,.int .i64 0,.int .i64 0],.int .i64 q,.int .i64 f])):=by unfold yZ;rw[h];exact⟨q,rfl⟩
theorem vU {t S:ByteArray}{k N n':Int}{n:Nat}(h:Pl.aM t 0=.ok (k,S,N,n)) (hn:n'=n):yZ t (.returned (.tuple #[.agg #[.int .i64 k,.string S,.int .i64 N,.int .i64 0,.int .i64 0],.int .i64 n',.int .i64 0])):=by unfold yZ;rw[h,hn]
theorem xZ {w:World}{B:Nat}{v:Value}{bs:List UInt8}(h:w.ownsRow B 5 1 v bs.length (Pl.cl bs)):∃a cap,v=.slice a bs.length cap:=by
 rcases h.2 with ⟨rfl,e⟩|⟨g,cap,_,rfl,_⟩
 ·exact⟨none,0,by rw[e]⟩
 ·exact⟨_,_,rfl⟩
theorem Az {B:Nat}{w:World}{v:Value}{l:List UInt8}(h:w.ownsRow B 5 1 v l.length (Pl.cl l)):(convert 26 9 v).run Tryz.prog w=.ok (.string ⟨l.toArray⟩) w:=by
 rcases h.2 with ⟨rfl,e⟩|⟨g,cap,cur,rfl,_⟩
 ·have:l=[]:=List.length_eq_zero_iff.1 e;subst this;exact run_convert_bytes_nil _ 26 5 Tryz.underlying26 Tryz.underlying5 0 0 9 Tryz.underlying9
 ·refine run_convert_bytes_back w 26 9 5 ⟨g,0,none⟩ cap l Tryz.underlying26 Tryz.underlying5 Tryz.underlying9 fun j hj=>?_;exact h.cells (g:=g) rfl j _ (by simp[Pl.cl,List.getElem?_eq_getElem hj])
theorem JR {B:Nat}{w:World}{a:Option Addr}{cap:Nat}{b:UInt8}(h:w.ownsRow B 5 1 (.slice a 1 cap) 1 (Pl.cl [b])):∃g,a=some ⟨g,0,none⟩/\w.cell? ⟨g,0,none⟩=some (.int .u8 ((b.toNat:Nat):Int)):=by
 rcases h.2 with ⟨e,e2⟩|⟨g,cap',cur,e,_⟩
 ·cases e2
 ·injection e with e1 e2 e3;subst e1 e3;exact⟨g,rfl,by have:=h.cells (g:=g) rfl 0 _ (by simp[Pl.cl];rfl);simpa [Addr.add] using this⟩
set_option maxRecDepth 100000 in
theorem zA (t:ByteArray) (ht:t.size<=1048576) (hpos:0<t.size) (hm:Pl.aD t 0=39) (w:World) (hE:nR w):Calls Tryz.prog 180 #[.string t] w fun e w'=>yZ t e/\Bw w w':=by
 have HE:Hid (nR w):=hE;have hw:¬Pl.kT (Pl.aD t 0)=true:=by rw[hm];decide
 have HT:Hid (Pl.aM t 0=(match Pl.BC t 39 1 with|.error f=>.error f|.ok (bs,n)=>if bs.length=1 then .ok (3,⟨#[99]⟩,Pl.nr 1 ((bs.headD 0).toNat:Int),n) else .error 7)):=by
  show Pl.aM t 0=_;unfold Pl.aM;rw[if_neg hw,if_pos hm];rfl
 have HQ:Hid (∀u,nR u->Calls Tryz.prog 196 #[.string t] u fun e w'=>(∃r,Pl.oV t 39 1 [] r/\LP u.heap.size r e w')/\Bw u w'):=fun u hu=>by
  have:=wL t ht hpos (.inr hm) u hu;rw[hm]at this;exact this
 clear hE hw hm;go_enter Tryz.func180,Tryz.ntmps180;go_wp2_with fail
 refine (HQ.o _ (HE.o.on (aB w _))).mono ?_;rintro e u2 ⟨⟨r,hr,hs⟩,g2⟩;have Q2:Hid (u2.heap[w.heap.size]?=some (.cells #[.int .i64 0,.string ⟨#[]⟩,.int .i64 0,.int .i64 0,.int .i64 0] 102 (0,0))):=(g2.block w.heap.size (by simp)).trans (heap_alloc_new w _);have B2:Hid (Bw w u2):=(aB w _).trans (g2.mono (by simp));have hz2:w.heap.size<u2.heap.size:=by have:=g2.size;simp at this;omega
 have MK:=Pl.uD hr;have hf0:=hr.f0;have hT:=HT.o;rw[MK]at hT;clear g2 HQ HT MK hr;cases r with
 | error f=>
  have HT:Hid (Pl.aM t 0=.error f):=hT;have hf:f≠0:=hf0 f rfl;have e1:(f == 0)=false:=by simp[hf]
  have e2:(f != 0)=true:=by simp[hf]
  obtain rfl:=hs;clear hT hf0 hf;go_wp2_with (refine wpList_store_row rfl 102 _ _ rfl w.heap.size #[.int .i64 0,.string ⟨#[]⟩,.int .i64 0,.int .i64 0,.int .i64 0] ?hx ?hy 102 #[.int .i64 0,.string ⟨#[]⟩,.int .i64 0,.int .i64 0,.int .i64 0] ?hg ?hi ?ho ?h1 ?_;(case hx=>rfl);(case hy=>rfl);(case hg=>exact Q2.o);(case hi=>kernel_rfl);(case ho=>kernel_rfl);(case h1=>kernel_rfl))
  refine bodyPost_ret (v:=.tuple #[.agg #[.int .i64 0,.string ⟨#[]⟩,.int .i64 0,.int .i64 0,.int .i64 0],.int .i64 0,.int .i64 f]) ?hr ?hdf ?nX
  case hr=>
   refine bE Tryz.results180 _ _ (w.heap.size) 102 #[.int .i64 0,.string ⟨#[]⟩,.int .i64 0,.int .i64 0,.int .i64 0] (0,0) _ (.int .i64 0) (.int .i64 f) ?hp ?hq ?hq2 ?hg Tryz.underlying102 ?hd ?hi
   case hp=>rfl
   case hq=>rfl
   case hq2=>rfl
   case hg=>exact setRow_heap _ _ _ _ _ _ Q2.o
   case hd=>rfl
   case hi=>kernel_rfl
  case hdf=>rfl
  case nX=>exact⟨sH HT.o,below_setRow B2.o (Nat.le_refl _) _⟩
 | ok q=>
  obtain⟨bs,n⟩:=q;obtain⟨v,rfl,ho⟩:=hs;obtain⟨a,cap,rfl⟩:=xZ ho;have hT':Pl.aM t 0=if bs.length=1 then .ok (3,⟨#[99]⟩,Pl.nr 1 ((bs.headD 0).toNat:Int),n) else .error 7:=hT
  clear hT hf0;by_cases hl:bs.length=1
  ·rw[if_pos hl]at hT';obtain⟨b,rfl⟩:∃b,bs=[b]:=by
    rcases bs with _|⟨b,_|⟨c,l⟩⟩
    ·cases hl
    ·exact⟨b,rfl⟩
    ·simp at hl
   obtain⟨g,rfl,hc⟩:=JR ho;have HT:Hid (Pl.aM t 0=.ok (3,⟨#[99]⟩,Pl.nr 1 ((b.toNat:Nat):Int),n)):=hT';obtain⟨c,hcc⟩:∃c:Int,c=((b.toNat:Nat):Int):=⟨_,rfl⟩;rw[<- hcc]at hc HT;have HN:Hid (∀u,Calls Tryz.prog 197 #[.int .i64 1,.int .i64 c] u fun e w'=>e=.returned (.tuple #[.int .i64 (Pl.nr 1 c),.bool true])/\w'=u):=fun u=>CR 1 c u;have c0:0<=c:=(by omega);have c1:c<256:=(by rw[hcc];have:=b.toNat_lt;omega);obtain⟨N,hN⟩:∃N,N=Pl.nr 1 c:=⟨_,rfl⟩;rw[<- hN]at HT HN;clear hcc hT' hl ho hN;go_wp2_with (first|(go_at_call 197;refine (HN.o _).mono ?_;rintro e u3 ⟨rfl,hu3⟩;rw[hu3];clear hu3)|(refine wpList_store_row rfl 102 _ _ rfl w.heap.size #[.int .i64 3,.string ⟨#[99]⟩,.int .i64 N,.int .i64 0,.int .i64 0] ?hx ?hy 102 #[.int .i64 0,.string ⟨#[]⟩,.int .i64 0,.int .i64 0,.int .i64 0] ?hg ?hi ?ho ?h1 ?_;(case hx=>rfl);(case hy=>rfl);(case hg=>exact Q2.o);(case hi=>kernel_rfl);(case ho=>kernel_rfl);(case h1=>kernel_rfl)))
   refine bodyPost_ret (v:=.tuple #[.agg #[.int .i64 3,.string ⟨#[99]⟩,.int .i64 N,.int .i64 0,.int .i64 0],.int .i64 n,.int .i64 0]) ?hr ?hdf ?nX
   case hr=>
    refine bE Tryz.results180 _ _ (w.heap.size) 102 #[.int .i64 3,.string ⟨#[99]⟩,.int .i64 N,.int .i64 0,.int .i64 0] (0,0) _ (.int .i64 n) (.int .i64 0) ?hp ?hq ?hq2 ?hg Tryz.underlying102 ?hd ?hi
    case hp=>rfl
    case hq=>rfl
    case hq2=>rfl
    case hg=>exact setRow_heap _ _ _ _ _ _ Q2.o
    case hd=>rfl
    case hi=>kernel_rfl
   case hdf=>rfl
   case nX=>exact⟨vU HT.o rfl,below_setRow B2.o (Nat.le_refl _) _⟩
  ·rw[if_neg hl]at hT';have HT:Hid (Pl.aM t 0=.error 7):=hT';have hl2:¬((bs.length:Int)=1):=(by omega);have e1:((bs.length:Int) == 1)=false:=(by simp;omega);have e2:((bs.length:Int) != 1)=true:=(by simp;omega);clear hT' hl;go_wp2_with (refine wpList_store_row rfl 102 _ _ rfl w.heap.size #[.int .i64 0,.string ⟨#[]⟩,.int .i64 0,.int .i64 0,.int .i64 0] ?hx ?hy 102 #[.int .i64 0,.string ⟨#[]⟩,.int .i64 0,.int .i64 0,.int .i64 0] ?hg ?hi ?ho ?h1 ?_;(case hx=>rfl);(case hy=>rfl);(case hg=>exact Q2.o);(case hi=>kernel_rfl);(case ho=>kernel_rfl);(case h1=>kernel_rfl))
   refine bodyPost_ret (v:=.tuple #[.agg #[.int .i64 0,.string ⟨#[]⟩,.int .i64 0,.int .i64 0,.int .i64 0],.int .i64 0,.int .i64 7]) ?hr ?hdf ?nX
   case hr=>
    refine bE Tryz.results180 _ _ (w.heap.size) 102 #[.int .i64 0,.string ⟨#[]⟩,.int .i64 0,.int .i64 0,.int .i64 0] (0,0) _ (.int .i64 0) (.int .i64 7) ?hp ?hq ?hq2 ?hg Tryz.underlying102 ?hd ?hi
    case hp=>rfl
    case hq=>rfl
    case hq2=>rfl
    case hg=>exact setRow_heap _ _ _ _ _ _ Q2.o
    case hd=>rfl
    case hi=>kernel_rfl
   case hdf=>rfl
   case nX=>exact⟨sH HT.o,below_setRow B2.o (Nat.le_refl _) _⟩
set_option maxRecDepth 100000 in
theorem GY (t:ByteArray) (ht:t.size<=1048576) (hpos:0<t.size) (hm:Pl.aD t 0=34) (w:World) (hE:nR w):Calls Tryz.prog 181 #[.string t] w fun e w'=>yZ t e/\Bw w w':=by
 have HE:Hid (nR w):=hE;have hw:¬Pl.kT (Pl.aD t 0)=true:=by rw[hm];decide
 have HT:Hid (Pl.aM t 0=(match Pl.BC t 34 1 with|.error f=>.error f|.ok (bs,n)=>if 200<bs.length then .error 8 else .ok (4,⟨bs.toArray⟩,0,n))):=by
  show Pl.aM t 0=_;unfold Pl.aM;rw[if_neg hw,if_neg (by rw[hm];decide),if_pos hm];rfl
 have HQ:Hid (∀u,nR u->Calls Tryz.prog 196 #[.string t] u fun e w'=>(∃r,Pl.oV t 34 1 [] r/\LP u.heap.size r e w')/\Bw u w'):=fun u hu=>by
  have:=wL t ht hpos (.inl hm) u hu;rw[hm]at this;exact this
 clear hE hw hm;go_enter Tryz.func181,Tryz.ntmps181;go_wp2_with fail
 refine (HQ.o _ (HE.o.on (aB w _))).mono ?_;rintro e u2 ⟨⟨r,hr,hs⟩,g2⟩;have Q2:Hid (u2.heap[w.heap.size]?=some (.cells #[.int .i64 0,.string ⟨#[]⟩,.int .i64 0,.int .i64 0,.int .i64 0] 102 (0,0))):=(g2.block w.heap.size (by simp)).trans (heap_alloc_new w _);have B2:Hid (Bw w u2):=(aB w _).trans (g2.mono (by simp));have MK:=Pl.uD hr;have hf0:=hr.f0;have hT:=HT.o;rw[MK]at hT;clear g2 HQ HT MK hr;cases r with
 | error f=>
  have HT:Hid (Pl.aM t 0=.error f):=hT;have hf:f≠0:=hf0 f rfl;have e1:(f == 0)=false:=by simp[hf]
  have e2:(f != 0)=true:=by simp[hf]
  obtain rfl:=hs;clear hT hf0 hf;go_wp2_with (refine wpList_store_row rfl 102 _ _ rfl w.heap.size #[.int .i64 0,.string ⟨#[]⟩,.int .i64 0,.int .i64 0,.int .i64 0] ?hx ?hy 102 #[.int .i64 0,.string ⟨#[]⟩,.int .i64 0,.int .i64 0,.int .i64 0] ?hg ?hi ?ho ?h1 ?_;(case hx=>rfl);(case hy=>rfl);(case hg=>exact Q2.o);(case hi=>kernel_rfl);(case ho=>kernel_rfl);(case h1=>kernel_rfl))
  refine bodyPost_ret (v:=.tuple #[.agg #[.int .i64 0,.string ⟨#[]⟩,.int .i64 0,.int .i64 0,.int .i64 0],.int .i64 0,.int .i64 f]) ?hr ?hdf ?nX
  case hr=>
   refine bE Tryz.results181 _ _ (w.heap.size) 102 #[.int .i64 0,.string ⟨#[]⟩,.int .i64 0,.int .i64 0,.int .i64 0] (0,0) _ (.int .i64 0) (.int .i64 f) ?hp ?hq ?hq2 ?hg Tryz.underlying102 ?hd ?hi
   case hp=>rfl
   case hq=>rfl
   case hq2=>rfl
   case hg=>exact setRow_heap _ _ _ _ _ _ Q2.o
   case hd=>rfl
   case hi=>kernel_rfl
  case hdf=>rfl
  case nX=>exact⟨sH HT.o,below_setRow B2.o (Nat.le_refl _) _⟩
 | ok q=>
  obtain⟨bs,n⟩:=q;obtain⟨v,rfl,ho⟩:=hs;have hcv:=Az ho;obtain⟨a,cap,rfl⟩:=xZ ho;have hT':Pl.aM t 0=if 200<bs.length then .error 8 else .ok (4,⟨bs.toArray⟩,0,n):=hT
  clear hT hf0 ho;by_cases hl:200<bs.length
  ·rw[if_pos hl]at hT';have HT:Hid (Pl.aM t 0=.error 8):=hT';have hl2:(200:Int)<bs.length:=(by omega);clear hT' hl;go_wp2_with (refine wpList_store_row rfl 102 _ _ rfl w.heap.size #[.int .i64 0,.string ⟨#[]⟩,.int .i64 0,.int .i64 0,.int .i64 0] ?hx ?hy 102 #[.int .i64 0,.string ⟨#[]⟩,.int .i64 0,.int .i64 0,.int .i64 0] ?hg ?hi ?ho ?h1 ?_;(case hx=>rfl);(case hy=>rfl);(case hg=>exact Q2.o);(case hi=>kernel_rfl);(case ho=>kernel_rfl);(case h1=>kernel_rfl))
   refine bodyPost_ret (v:=.tuple #[.agg #[.int .i64 0,.string ⟨#[]⟩,.int .i64 0,.int .i64 0,.int .i64 0],.int .i64 0,.int .i64 8]) ?hr ?hdf ?nX
   case hr=>
    refine bE Tryz.results181 _ _ (w.heap.size) 102 #[.int .i64 0,.string ⟨#[]⟩,.int .i64 0,.int .i64 0,.int .i64 0] (0,0) _ (.int .i64 0) (.int .i64 8) ?hp ?hq ?hq2 ?hg Tryz.underlying102 ?hd ?hi
    case hp=>rfl
    case hq=>rfl
    case hq2=>rfl
    case hg=>exact setRow_heap _ _ _ _ _ _ Q2.o
    case hd=>rfl
    case hi=>kernel_rfl
   case hdf=>rfl
   case nX=>exact⟨sH HT.o,below_setRow B2.o (Nat.le_refl _) _⟩
  ·rw[if_neg hl]at hT';have HT:Hid (Pl.aM t 0=.ok (4,⟨bs.toArray⟩,0,n)):=hT';have hl2:¬(200:Int)<bs.length:=(by omega);obtain⟨S,hS⟩:∃S:ByteArray,S=⟨bs.toArray⟩:=⟨_,rfl⟩;rw[<- hS]at hcv HT;clear hT' hl hS;go_wp2_with (refine wpList_store_row rfl 102 _ _ rfl w.heap.size #[.int .i64 4,.string S,.int .i64 0,.int .i64 0,.int .i64 0] ?hx ?hy 102 #[.int .i64 0,.string ⟨#[]⟩,.int .i64 0,.int .i64 0,.int .i64 0] ?hg ?hi ?ho ?h1 ?_;(case hx=>rfl);(case hy=>rfl);(case hg=>exact Q2.o);(case hi=>kernel_rfl);(case ho=>kernel_rfl);(case h1=>kernel_rfl))
   refine bodyPost_ret (v:=.tuple #[.agg #[.int .i64 4,.string S,.int .i64 0,.int .i64 0,.int .i64 0],.int .i64 n,.int .i64 0]) ?hr ?hdf ?nX
   case hr=>
    refine bE Tryz.results181 _ _ (w.heap.size) 102 #[.int .i64 4,.string S,.int .i64 0,.int .i64 0,.int .i64 0] (0,0) _ (.int .i64 n) (.int .i64 0) ?hp ?hq ?hq2 ?hg Tryz.underlying102 ?hd ?hi
    case hp=>rfl
    case hq=>rfl
    case hq2=>rfl
    case hg=>exact setRow_heap _ _ _ _ _ _ Q2.o
    case hd=>rfl
    case hi=>kernel_rfl
   case hdf=>rfl
   case nX=>exact⟨vU HT.o rfl,below_setRow B2.o (Nat.le_refl _) _⟩
theorem Bb {w:World}{B b j k n:Nat}{e:TypeId}{v x:Value}{xs:List Value}(h:w.ownsRow B e k v n xs) (hb:b<B):(w.setCell ⟨b,j,none⟩ x).ownsRow B e k v n xs:=by
 refine⟨h.1,?_⟩;rcases h.2 with ⟨a,c⟩|⟨g,cap,cur,h0,hlo,hg,r⟩
 ·exact .inl ⟨a,c⟩
 ·exact .inr ⟨g,cap,cur,h0,hlo,(heap_setCell_other w _ g _ (by show g≠b;omega)).trans hg,r⟩
set_option maxRecDepth 100000 in
theorem QK (s:ByteArray) (hs:s.size<=1048576) (i:Nat) (hi:i<s.size) (hm:Pl.aD s i=39) (w:World):Calls Tryz.prog 118 #[.string s,.int .i64 i] w fun e w'=>GV s i e/\Bw w w':=by
 have hii:(i:Int)<s.size:=by omega
 have hg:=Pl.aJ s i hi;have hwq:¬Pl.kT (Pl.aD s i)=true:=by rw[hm];decide
 have HT:Hid (Pl.aM s i=(match Pl.BC s 39 (i+1) with|.error f=>.error f|.ok (bs,n)=>if bs.length=1 then .ok (3,⟨#[99]⟩,Pl.nr 1 ((bs.headD 0).toNat:Int),n) else .error 7)):=by
  show Pl.aM s i=_;unfold Pl.aM;rw[if_neg hwq,if_pos hm];rfl
 have HQ:Hid (∀u:World,Calls Tryz.prog 126 #[.string s,.int .i64 i] u fun e w'=>(∃r,Pl.oV s 39 (i+1) [] r/\aBI u.heap.size r e w')/\Bw u w'):=fun u=>by
  have:=zZ s hs i hi (.inr hm) u;rw[hm]at this;exact this
 have hw:Pl.kT 39=false:=by decide
 rw[hm]at hg;clear hwq hm;go_enter Tryz.func118,Tryz.ntmps118;go_wp2_with (go_at_call 85;refine (kJ _ _).mono ?_;rintro e u1 ⟨rfl,hu1⟩;rw[hu1];clear hu1;rw[hw])
 refine (HQ.o _).mono ?_;rintro e u2 ⟨⟨r,hr,hsd⟩,g2⟩;have hz:((w.alloc (.cells #[.int .i64 0,.string ⟨#[]⟩,.int .i64 0,.int .i64 0,.int .i64 0,.int .i64 0,.int .i64 0,.int .i64 0] 189)).alloc (.cells #[.int .i64 0,.string ⟨#[]⟩,.int .i64 0,.int .i64 0,.int .i64 0,.int .i64 0,.int .i64 2,.int .i64 i] 189)).heap.size=w.heap.size+2:=by simp
 replace g2:Below _ _ _:=g2;rw[hz]at hsd g2;have Q5:Hid (u2.heap[w.heap.size+1]?=some (.cells #[.int .i64 0,.string ⟨#[]⟩,.int .i64 0,.int .i64 0,.int .i64 0,.int .i64 0,.int .i64 2,.int .i64 i] 189 (0,0))):=(g2.block _ (by omega)).trans (by have:=heap_alloc_new (w.alloc (.cells #[.int .i64 0,.string ⟨#[]⟩,.int .i64 0,.int .i64 0,.int .i64 0,.int .i64 0,.int .i64 0,.int .i64 0] 189)) (.cells #[.int .i64 0,.string ⟨#[]⟩,.int .i64 0,.int .i64 0,.int .i64 0,.int .i64 0,.int .i64 2,.int .i64 i] 189);simpa using this);have Q4:Hid (u2.heap[w.heap.size]?=some (.cells #[.int .i64 0,.string ⟨#[]⟩,.int .i64 0,.int .i64 0,.int .i64 0,.int .i64 0,.int .i64 0,.int .i64 0] 189 (0,0))):=(g2.block _ (by omega)).trans ((Below.heap_alloc _ _ _ (by simp)).trans (heap_alloc_new w _));have BW:Hid (Bw w u2):=((aB _ _).trans ((aB _ _).mono (by simp))).trans (g2.mono (by omega));have hc6:u2.cell? ⟨w.heap.size+1,6,none⟩=some (.int .i64 2):=cell_of_row u2 (w.heap.size+1) 6 _ 189 (0,0) Q5.o;have hf6:u2.frozen? ⟨w.heap.size+1,6,none⟩=false:=frozen_of_row u2 (w.heap.size+1) 6 _ 189 Q5.o;have MK:=Pl.uD hr;have hf0:=hr.f0;have hT:=HT.o;rw[MK]at hT;clear g2 HQ HT MK hr hz;cases r with
 | error f=>
  have HT:Hid (Pl.aM s i=.error f):=hT;have hf:f≠0:=hf0 f rfl;have e1:(f == 0)=false:=by simp[hf]
  have e2:(f != 0)=true:=by simp[hf]
  obtain⟨v,q,bs,rfl,ho,hl,_⟩:=hsd;clear hT hf0 hf ho;obtain⟨U3,BD⟩:∃U3,u2.setCell ⟨w.heap.size+1,6,none⟩ (.int .i64 f)=U3:=⟨_,rfl⟩;have R5:Hid (U3.heap[w.heap.size+1]?=some (.cells #[.int .i64 0,.string ⟨#[]⟩,.int .i64 0,.int .i64 0,.int .i64 0,.int .i64 0,.int .i64 f,.int .i64 i] 189 (0,0))):=by rw[<- BD];exact heap_setCell_same u2 (w.heap.size+1) 6 _ 189 _ Q5.o
  have R4:Hid (U3.heap[w.heap.size]?=some (.cells #[.int .i64 0,.string ⟨#[]⟩,.int .i64 0,.int .i64 0,.int .i64 0,.int .i64 0,.int .i64 0,.int .i64 0] 189 (0,0))):=by rw[<- BD];exact (heap_setCell_other u2 _ w.heap.size _ (by show w.heap.size≠w.heap.size+1;omega)).trans Q4.o
  have Mg:Hid (Bw w U3):=by rw[<- BD];exact BW.o.setCell (p:=⟨w.heap.size+1,6,none⟩) (by show w.heap.size<=w.heap.size+1;omega) _
  go_wp2_with (first|(refine wpList_load_row rfl 189 _ rfl (w.heap.size+1) ?hx 189 #[.int .i64 0,.string ⟨#[]⟩,.int .i64 0,.int .i64 0,.int .i64 0,.int .i64 0,.int .i64 f,.int .i64 i] (0,0) _ ?hg Tryz.underlying189 ?hd ?hi ?_;(case hx=>rfl);(case hg=>exact R5.o);(case hd=>rfl);(case hi=>kernel_rfl))|(refine wpList_store_row rfl 189 _ _ rfl w.heap.size #[.int .i64 0,.string ⟨#[]⟩,.int .i64 0,.int .i64 0,.int .i64 0,.int .i64 0,.int .i64 f,.int .i64 i] ?hx ?hy 189 #[.int .i64 0,.string ⟨#[]⟩,.int .i64 0,.int .i64 0,.int .i64 0,.int .i64 0,.int .i64 0,.int .i64 0] ?hg ?hi ?ho ?h1 ?_;(case hx=>rfl);(case hy=>rfl);(case hg=>exact R4.o);(case hi=>kernel_rfl);(case ho=>kernel_rfl);(case h1=>kernel_rfl)))
  refine bodyPost_ret (v:=.agg #[.int .i64 0,.string ⟨#[]⟩,.int .i64 0,.int .i64 0,.int .i64 0,.int .i64 0,.int .i64 f,.int .i64 i]) ?hr ?hdf ?nX
  case hr=>
   refine results_cell_row Tryz.results118 _ _ (w.heap.size) 189 #[.int .i64 0,.string ⟨#[]⟩,.int .i64 0,.int .i64 0,.int .i64 0,.int .i64 0,.int .i64 f,.int .i64 i] (0,0) _ ?hp ?hg Tryz.underlying189 ?hd ?hi
   case hp=>rfl
   case hg=>exact setRow_heap _ _ _ _ _ _ R4.o
   case hd=>rfl
   case hi=>kernel_rfl
  case hdf=>rfl
  case nX=>exact⟨xY HT.o,below_setRow Mg.o (Nat.le_refl _) _⟩
 | ok q=>
  obtain⟨bs,n⟩:=q;obtain⟨v,rfl,ho,hl⟩:=hsd;obtain⟨a,cap,rfl⟩:=xZ ho;have hT':Pl.aM s i=if bs.length=1 then .ok (3,⟨#[99]⟩,Pl.nr 1 ((bs.headD 0).toNat:Int),n) else .error 7:=hT
  clear hT hf0;by_cases hl1:bs.length=1
  ·rw[if_pos hl1]at hT';obtain⟨b,rfl⟩:∃b,bs=[b]:=by
    rcases bs with _|⟨b,_|⟨c,l⟩⟩
    ·cases hl1
    ·exact⟨b,rfl⟩
    ·simp at hl1
   have HT:Hid (Pl.aM s i=.ok (3,⟨#[99]⟩,Pl.nr 1 ((b.toNat:Nat):Int),n)):=hT';obtain⟨U3,BD⟩:∃U3,u2.setCell ⟨w.heap.size+1,6,none⟩ (.int .i64 0)=U3:=⟨_,rfl⟩;have R5:Hid (U3.heap[w.heap.size+1]?=some (.cells #[.int .i64 0,.string ⟨#[]⟩,.int .i64 0,.int .i64 0,.int .i64 0,.int .i64 0,.int .i64 0,.int .i64 i] 189 (0,0))):=(by rw[<- BD];exact heap_setCell_same u2 (w.heap.size+1) 6 _ 189 _ Q5.o);have R4:Hid (U3.heap[w.heap.size]?=some (.cells #[.int .i64 0,.string ⟨#[]⟩,.int .i64 0,.int .i64 0,.int .i64 0,.int .i64 0,.int .i64 0,.int .i64 0] 189 (0,0))):=(by rw[<- BD];exact (heap_setCell_other u2 _ w.heap.size _ (by show w.heap.size≠w.heap.size+1;omega)).trans Q4.o);have Mg:Hid (Bw w U3):=(by rw[<- BD];exact BW.o.setCell (p:=⟨w.heap.size+1,6,none⟩) (by show w.heap.size<=w.heap.size+1;omega) _);obtain⟨g,rfl,hc⟩:=JR (Bb (j:=6) (x:=.int .i64 0) ho (show w.heap.size+1<w.heap.size+2 by omega));rw[BD]at hc;obtain⟨c,hcc⟩:∃c:Int,c=((b.toNat:Nat):Int):=⟨_,rfl⟩;rw[<- hcc]at hc HT;have HN:Hid (∀u:World,Calls Tryz.prog 127 #[.int .i64 1,.int .i64 c] u fun e w'=>e=.returned (.tuple #[.int .i64 (Pl.nr 1 c),.bool true])/\w'=u):=fun u=>CU 1 c u;have c0:0<=c:=(by omega);have c1:c<256:=(by rw[hcc];have:=b.toNat_lt;omega);obtain⟨N,hN⟩:∃N,N=Pl.nr 1 c:=⟨_,rfl⟩;rw[<- hN]at HT HN;clear hcc hT' hl1 ho hN hl;go_wp2_with (first|(go_at_call 127;refine (HN.o _).mono ?_;rintro e u3 ⟨rfl,hu3⟩;rw[hu3];clear hu3)|(refine wpList_store_row rfl 189 _ _ rfl w.heap.size #[.int .i64 3,.string ⟨#[99]⟩,.int .i64 N,.int .i64 0,.int .i64 0,.int .i64 n,.int .i64 0,.int .i64 0] ?hx ?hy 189 #[.int .i64 0,.string ⟨#[]⟩,.int .i64 0,.int .i64 0,.int .i64 0,.int .i64 0,.int .i64 0,.int .i64 0] ?hg ?hi ?ho ?h1 ?_;(case hx=>rfl);(case hy=>rfl);(case hg=>exact R4.o);(case hi=>kernel_rfl);(case ho=>kernel_rfl);(case h1=>kernel_rfl)))
   refine bodyPost_ret (v:=.agg #[.int .i64 3,.string ⟨#[99]⟩,.int .i64 N,.int .i64 0,.int .i64 0,.int .i64 n,.int .i64 0,.int .i64 0]) ?hr ?hdf ?nX
   case hr=>
    refine results_cell_row Tryz.results118 _ _ (w.heap.size) 189 #[.int .i64 3,.string ⟨#[99]⟩,.int .i64 N,.int .i64 0,.int .i64 0,.int .i64 n,.int .i64 0,.int .i64 0] (0,0) _ ?hp ?hg Tryz.underlying189 ?hd ?hi
    case hp=>rfl
    case hg=>exact setRow_heap _ _ _ _ _ _ R4.o
    case hd=>rfl
    case hi=>kernel_rfl
   case hdf=>rfl
   case nX=>exact⟨MH HT.o rfl,below_setRow Mg.o (Nat.le_refl _) _⟩
  ·rw[if_neg hl1]at hT';have HT:Hid (Pl.aM s i=.error 7):=hT';have hl2:¬((bs.length:Int)=1):=(by omega);have e1:((bs.length:Int) == 1)=false:=(by simp;omega);have e2:((bs.length:Int) != 1)=true:=(by simp;omega);clear hT' hl1 ho;obtain⟨U3,BD⟩:∃U3,u2.setCell ⟨w.heap.size+1,6,none⟩ (.int .i64 7)=U3:=⟨_,rfl⟩;have R5:Hid (U3.heap[w.heap.size+1]?=some (.cells #[.int .i64 0,.string ⟨#[]⟩,.int .i64 0,.int .i64 0,.int .i64 0,.int .i64 0,.int .i64 7,.int .i64 i] 189 (0,0))):=(by rw[<- BD];exact heap_setCell_same u2 (w.heap.size+1) 6 _ 189 _ Q5.o);have R4:Hid (U3.heap[w.heap.size]?=some (.cells #[.int .i64 0,.string ⟨#[]⟩,.int .i64 0,.int .i64 0,.int .i64 0,.int .i64 0,.int .i64 0,.int .i64 0] 189 (0,0))):=(by rw[<- BD];exact (heap_setCell_other u2 _ w.heap.size _ (by show w.heap.size≠w.heap.size+1;omega)).trans Q4.o);have Mg:Hid (Bw w U3):=(by rw[<- BD];exact BW.o.setCell (p:=⟨w.heap.size+1,6,none⟩) (by show w.heap.size<=w.heap.size+1;omega) _);go_wp2_with (first|(refine wpList_load_row rfl 189 _ rfl (w.heap.size+1) ?hx 189 #[.int .i64 0,.string ⟨#[]⟩,.int .i64 0,.int .i64 0,.int .i64 0,.int .i64 0,.int .i64 7,.int .i64 i] (0,0) _ ?hg Tryz.underlying189 ?hd ?hi ?_;(case hx=>rfl);(case hg=>exact R5.o);(case hd=>rfl);(case hi=>kernel_rfl))|(refine wpList_store_row rfl 189 _ _ rfl w.heap.size #[.int .i64 0,.string ⟨#[]⟩,.int .i64 0,.int .i64 0,.int .i64 0,.int .i64 0,.int .i64 7,.int .i64 i] ?hx ?hy 189 #[.int .i64 0,.string ⟨#[]⟩,.int .i64 0,.int .i64 0,.int .i64 0,.int .i64 0,.int .i64 0,.int .i64 0] ?hg ?hi ?ho ?h1 ?_;(case hx=>rfl);(case hy=>rfl);(case hg=>exact R4.o);(case hi=>kernel_rfl);(case ho=>kernel_rfl);(case h1=>kernel_rfl)))
   refine bodyPost_ret (v:=.agg #[.int .i64 0,.string ⟨#[]⟩,.int .i64 0,.int .i64 0,.int .i64 0,.int .i64 0,.int .i64 7,.int .i64 i]) ?hr ?hdf ?nX
   case hr=>
    refine results_cell_row Tryz.results118 _ _ (w.heap.size) 189 #[.int .i64 0,.string ⟨#[]⟩,.int .i64 0,.int .i64 0,.int .i64 0,.int .i64 0,.int .i64 7,.int .i64 i] (0,0) _ ?hp ?hg Tryz.underlying189 ?hd ?hi
    case hp=>rfl
    case hg=>exact setRow_heap _ _ _ _ _ _ R4.o
    case hd=>rfl
    case hi=>kernel_rfl
   case hdf=>rfl
   case nX=>exact⟨xY HT.o,below_setRow Mg.o (Nat.le_refl _) _⟩
set_option maxRecDepth 100000 in
theorem QL (s:ByteArray) (hs:s.size<=1048576) (i:Nat) (hi:i<s.size) (hm:Pl.aD s i=34) (w:World):Calls Tryz.prog 118 #[.string s,.int .i64 i] w fun e w'=>GV s i e/\Bw w w':=by
 have hii:(i:Int)<s.size:=by omega
 have hg:=Pl.aJ s i hi;have hwq:¬Pl.kT (Pl.aD s i)=true:=by rw[hm];decide
 have HT:Hid (Pl.aM s i=(match Pl.BC s 34 (i+1) with|.error f=>.error f|.ok (bs,n)=>if 200<bs.length then .error 8 else .ok (4,⟨bs.toArray⟩,0,n))):=by
  show Pl.aM s i=_;unfold Pl.aM;rw[if_neg hwq,if_neg (by rw[hm];decide),if_pos hm];rfl
 have HQ:Hid (∀u:World,Calls Tryz.prog 126 #[.string s,.int .i64 i] u fun e w'=>(∃r,Pl.oV s 34 (i+1) [] r/\aBI u.heap.size r e w')/\Bw u w'):=fun u=>by
  have:=zZ s hs i hi (.inl hm) u;rw[hm]at this;exact this
 have hw:Pl.kT 34=false:=by decide
 rw[hm]at hg;clear hwq hm;go_enter Tryz.func118,Tryz.ntmps118;go_wp2_with (go_at_call 85;refine (kJ _ _).mono ?_;rintro e u1 ⟨rfl,hu1⟩;rw[hu1];clear hu1;rw[hw])
 refine (HQ.o _).mono ?_;rintro e u2 ⟨⟨r,hr,hsd⟩,g2⟩;have hz:((w.alloc (.cells #[.int .i64 0,.string ⟨#[]⟩,.int .i64 0,.int .i64 0,.int .i64 0,.int .i64 0,.int .i64 0,.int .i64 0] 189)).alloc (.cells #[.int .i64 0,.string ⟨#[]⟩,.int .i64 0,.int .i64 0,.int .i64 0,.int .i64 0,.int .i64 2,.int .i64 i] 189)).heap.size=w.heap.size+2:=by simp
 replace g2:Below _ _ _:=g2;rw[hz]at hsd g2;have Q5:Hid (u2.heap[w.heap.size+1]?=some (.cells #[.int .i64 0,.string ⟨#[]⟩,.int .i64 0,.int .i64 0,.int .i64 0,.int .i64 0,.int .i64 2,.int .i64 i] 189 (0,0))):=(g2.block _ (by omega)).trans (by have:=heap_alloc_new (w.alloc (.cells #[.int .i64 0,.string ⟨#[]⟩,.int .i64 0,.int .i64 0,.int .i64 0,.int .i64 0,.int .i64 0,.int .i64 0] 189)) (.cells #[.int .i64 0,.string ⟨#[]⟩,.int .i64 0,.int .i64 0,.int .i64 0,.int .i64 0,.int .i64 2,.int .i64 i] 189);simpa using this);have Q4:Hid (u2.heap[w.heap.size]?=some (.cells #[.int .i64 0,.string ⟨#[]⟩,.int .i64 0,.int .i64 0,.int .i64 0,.int .i64 0,.int .i64 0,.int .i64 0] 189 (0,0))):=(g2.block _ (by omega)).trans ((Below.heap_alloc _ _ _ (by simp)).trans (heap_alloc_new w _));have BW:Hid (Bw w u2):=((aB _ _).trans ((aB _ _).mono (by simp))).trans (g2.mono (by omega));have hc6:u2.cell? ⟨w.heap.size+1,6,none⟩=some (.int .i64 2):=cell_of_row u2 (w.heap.size+1) 6 _ 189 (0,0) Q5.o;have hf6:u2.frozen? ⟨w.heap.size+1,6,none⟩=false:=frozen_of_row u2 (w.heap.size+1) 6 _ 189 Q5.o;have MK:=Pl.uD hr;have hf0:=hr.f0;have hT:=HT.o;rw[MK]at hT;clear g2 HQ HT MK hr hz;cases r with
 | error f=>
  have HT:Hid (Pl.aM s i=.error f):=hT;have hf:f≠0:=hf0 f rfl;have e1:(f == 0)=false:=by simp[hf]
  have e2:(f != 0)=true:=by simp[hf]
  obtain⟨v,q,bs,rfl,ho,hl,_⟩:=hsd;clear hT hf0 hf ho;obtain⟨U3,BD⟩:∃U3,u2.setCell ⟨w.heap.size+1,6,none⟩ (.int .i64 f)=U3:=⟨_,rfl⟩;have R5:Hid (U3.heap[w.heap.size+1]?=some (.cells #[.int .i64 0,.string ⟨#[]⟩,.int .i64 0,.int .i64 0,.int .i64 0,.int .i64 0,.int .i64 f,.int .i64 i] 189 (0,0))):=by rw[<- BD];exact heap_setCell_same u2 (w.heap.size+1) 6 _ 189 _ Q5.o
  have R4:Hid (U3.heap[w.heap.size]?=some (.cells #[.int .i64 0,.string ⟨#[]⟩,.int .i64 0,.int .i64 0,.int .i64 0,.int .i64 0,.int .i64 0,.int .i64 0] 189 (0,0))):=by rw[<- BD];exact (heap_setCell_other u2 _ w.heap.size _ (by show w.heap.size≠w.heap.size+1;omega)).trans Q4.o
  have Mg:Hid (Bw w U3):=by rw[<- BD];exact BW.o.setCell (p:=⟨w.heap.size+1,6,none⟩) (by show w.heap.size<=w.heap.size+1;omega) _
  go_wp2_with (first|(refine wpList_load_row rfl 189 _ rfl (w.heap.size+1) ?hx 189 #[.int .i64 0,.string ⟨#[]⟩,.int .i64 0,.int .i64 0,.int .i64 0,.int .i64 0,.int .i64 f,.int .i64 i] (0,0) _ ?hg Tryz.underlying189 ?hd ?hi ?_;(case hx=>rfl);(case hg=>exact R5.o);(case hd=>rfl);(case hi=>kernel_rfl))|(refine wpList_store_row rfl 189 _ _ rfl w.heap.size #[.int .i64 0,.string ⟨#[]⟩,.int .i64 0,.int .i64 0,.int .i64 0,.int .i64 0,.int .i64 f,.int .i64 i] ?hx ?hy 189 #[.int .i64 0,.string ⟨#[]⟩,.int .i64 0,.int .i64 0,.int .i64 0,.int .i64 0,.int .i64 0,.int .i64 0] ?hg ?hi ?ho ?h1 ?_;(case hx=>rfl);(case hy=>rfl);(case hg=>exact R4.o);(case hi=>kernel_rfl);(case ho=>kernel_rfl);(case h1=>kernel_rfl)))
  refine bodyPost_ret (v:=.agg #[.int .i64 0,.string ⟨#[]⟩,.int .i64 0,.int .i64 0,.int .i64 0,.int .i64 0,.int .i64 f,.int .i64 i]) ?hr ?hdf ?nX
  case hr=>
   refine results_cell_row Tryz.results118 _ _ (w.heap.size) 189 #[.int .i64 0,.string ⟨#[]⟩,.int .i64 0,.int .i64 0,.int .i64 0,.int .i64 0,.int .i64 f,.int .i64 i] (0,0) _ ?hp ?hg Tryz.underlying189 ?hd ?hi
   case hp=>rfl
   case hg=>exact setRow_heap _ _ _ _ _ _ R4.o
   case hd=>rfl
   case hi=>kernel_rfl
  case hdf=>rfl
  case nX=>exact⟨xY HT.o,below_setRow Mg.o (Nat.le_refl _) _⟩
 | ok q=>
  obtain⟨bs,n⟩:=q;obtain⟨v,rfl,ho,hl⟩:=hsd;obtain⟨a,cap,rfl⟩:=xZ ho;have hT':Pl.aM s i=if 200<bs.length then .error 8 else .ok (4,⟨bs.toArray⟩,0,n):=hT
  clear hT hf0;by_cases hl1:200<bs.length
  ·rw[if_pos hl1]at hT';have HT:Hid (Pl.aM s i=.error 8):=hT';have hl2:(200:Int)<bs.length:=(by omega);clear hT' hl1 ho;obtain⟨U3,BD⟩:∃U3,u2.setCell ⟨w.heap.size+1,6,none⟩ (.int .i64 8)=U3:=⟨_,rfl⟩;have R5:Hid (U3.heap[w.heap.size+1]?=some (.cells #[.int .i64 0,.string ⟨#[]⟩,.int .i64 0,.int .i64 0,.int .i64 0,.int .i64 0,.int .i64 8,.int .i64 i] 189 (0,0))):=(by rw[<- BD];exact heap_setCell_same u2 (w.heap.size+1) 6 _ 189 _ Q5.o);have R4:Hid (U3.heap[w.heap.size]?=some (.cells #[.int .i64 0,.string ⟨#[]⟩,.int .i64 0,.int .i64 0,.int .i64 0,.int .i64 0,.int .i64 0,.int .i64 0] 189 (0,0))):=(by rw[<- BD];exact (heap_setCell_other u2 _ w.heap.size _ (by show w.heap.size≠w.heap.size+1;omega)).trans Q4.o);have Mg:Hid (Bw w U3):=(by rw[<- BD];exact BW.o.setCell (p:=⟨w.heap.size+1,6,none⟩) (by show w.heap.size<=w.heap.size+1;omega) _);go_wp2_with (first|(refine wpList_load_row rfl 189 _ rfl (w.heap.size+1) ?hx 189 #[.int .i64 0,.string ⟨#[]⟩,.int .i64 0,.int .i64 0,.int .i64 0,.int .i64 0,.int .i64 8,.int .i64 i] (0,0) _ ?hg Tryz.underlying189 ?hd ?hi ?_;(case hx=>rfl);(case hg=>exact R5.o);(case hd=>rfl);(case hi=>kernel_rfl))|(refine wpList_store_row rfl 189 _ _ rfl w.heap.size #[.int .i64 0,.string ⟨#[]⟩,.int .i64 0,.int .i64 0,.int .i64 0,.int .i64 0,.int .i64 8,.int .i64 i] ?hx ?hy 189 #[.int .i64 0,.string ⟨#[]⟩,.int .i64 0,.int .i64 0,.int .i64 0,.int .i64 0,.int .i64 0,.int .i64 0] ?hg ?hi ?ho ?h1 ?_;(case hx=>rfl);(case hy=>rfl);(case hg=>exact R4.o);(case hi=>kernel_rfl);(case ho=>kernel_rfl);(case h1=>kernel_rfl)))
   refine bodyPost_ret (v:=.agg #[.int .i64 0,.string ⟨#[]⟩,.int .i64 0,.int .i64 0,.int .i64 0,.int .i64 0,.int .i64 8,.int .i64 i]) ?hr ?hdf ?nX
   case hr=>
    refine results_cell_row Tryz.results118 _ _ (w.heap.size) 189 #[.int .i64 0,.string ⟨#[]⟩,.int .i64 0,.int .i64 0,.int .i64 0,.int .i64 0,.int .i64 8,.int .i64 i] (0,0) _ ?hp ?hg Tryz.underlying189 ?hd ?hi
    case hp=>rfl
    case hg=>exact setRow_heap _ _ _ _ _ _ R4.o
    case hd=>rfl
    case hi=>kernel_rfl
   case hdf=>rfl
   case nX=>exact⟨xY HT.o,below_setRow Mg.o (Nat.le_refl _) _⟩
  ·rw[if_neg hl1]at hT';have HT:Hid (Pl.aM s i=.ok (4,⟨bs.toArray⟩,0,n)):=hT';have hl2:¬(200:Int)<bs.length:=(by omega);obtain⟨U3,BD⟩:∃U3,u2.setCell ⟨w.heap.size+1,6,none⟩ (.int .i64 0)=U3:=⟨_,rfl⟩;have R5:Hid (U3.heap[w.heap.size+1]?=some (.cells #[.int .i64 0,.string ⟨#[]⟩,.int .i64 0,.int .i64 0,.int .i64 0,.int .i64 0,.int .i64 0,.int .i64 i] 189 (0,0))):=(by rw[<- BD];exact heap_setCell_same u2 (w.heap.size+1) 6 _ 189 _ Q5.o);have R4:Hid (U3.heap[w.heap.size]?=some (.cells #[.int .i64 0,.string ⟨#[]⟩,.int .i64 0,.int .i64 0,.int .i64 0,.int .i64 0,.int .i64 0,.int .i64 0] 189 (0,0))):=(by rw[<- BD];exact (heap_setCell_other u2 _ w.heap.size _ (by show w.heap.size≠w.heap.size+1;omega)).trans Q4.o);have Mg:Hid (Bw w U3):=(by rw[<- BD];exact BW.o.setCell (p:=⟨w.heap.size+1,6,none⟩) (by show w.heap.size<=w.heap.size+1;omega) _);have hcv:=Az (Bb (j:=6) (x:=.int .i64 0) ho (show w.heap.size+1<w.heap.size+2 by omega));rw[BD]at hcv;obtain⟨S,hS⟩:∃S:ByteArray,S=⟨bs.toArray⟩:=⟨_,rfl⟩;rw[<- hS]at hcv HT;clear hT' hl1 hS ho;go_wp2_with (refine wpList_store_row rfl 189 _ _ rfl w.heap.size #[.int .i64 4,.string S,.int .i64 0,.int .i64 0,.int .i64 0,.int .i64 n,.int .i64 0,.int .i64 0] ?hx ?hy 189 #[.int .i64 0,.string ⟨#[]⟩,.int .i64 0,.int .i64 0,.int .i64 0,.int .i64 0,.int .i64 0,.int .i64 0] ?hg ?hi ?ho ?h1 ?_;(case hx=>rfl);(case hy=>rfl);(case hg=>exact R4.o);(case hi=>kernel_rfl);(case ho=>kernel_rfl);(case h1=>kernel_rfl))
   refine bodyPost_ret (v:=.agg #[.int .i64 4,.string S,.int .i64 0,.int .i64 0,.int .i64 0,.int .i64 n,.int .i64 0,.int .i64 0]) ?hr ?hdf ?nX
   case hr=>
    refine results_cell_row Tryz.results118 _ _ (w.heap.size) 189 #[.int .i64 4,.string S,.int .i64 0,.int .i64 0,.int .i64 0,.int .i64 n,.int .i64 0,.int .i64 0] (0,0) _ ?hp ?hg Tryz.underlying189 ?hd ?hi
    case hp=>rfl
    case hg=>exact setRow_heap _ _ _ _ _ _ R4.o
    case hd=>rfl
    case hi=>kernel_rfl
   case hdf=>rfl
   case nX=>exact⟨MH HT.o rfl,below_setRow Mg.o (Nat.le_refl _) _⟩
theorem WS (s:ByteArray) (hs:s.size<=1048576) (i:Nat) (hi:i<s.size) (w:World):Calls Tryz.prog 118 #[.string s,.int .i64 i] w fun e w'=>GV s i e/\Bw w w':=by
 cases hw:Pl.kT (Pl.aD s i)
 ·by_cases LZ:Pl.aD s i=39
  ·exact QK s hs i hi LZ w
  ·by_cases OZ:Pl.aD s i=34
   ·exact QL s hs i hi OZ w
   ·exact MJ s hs i hi hw LZ OZ w
 ·exact ME s hs i hi hw w
theorem Mh:(Tryz.prog.info? 102).map (fun i=>(i.zero,i.size,i.bytes))=some (some (.agg #[.int .i64 0,.string ⟨#[]⟩,.int .i64 0,.int .i64 0,.int .i64 0]),5,48):=by kernel_rfl
theorem Mi (ts:List Pl.Tk) (t:Pl.Tk):Pl.Tk.all (ts++[t])=Pl.Tk.all ts++t.cells:=by simp[Pl.Tk.all]
def nG (s:ByteArray) (r:List Pl.Tk × Int × Int × Int):Prop:=(20000<s.size/\r=([],1,1,1))\/(s.size<=20000/\Pl.Lx s 0 [] r)
theorem nG.fn {s:ByteArray}{r r':List Pl.Tk × Int × Int × Int}(h:nG s r) (h':nG s r'):r=r':=by
 rcases h with ⟨a,b⟩|⟨a,b⟩ <;> rcases h' with ⟨a',b'⟩|⟨a',b'⟩
 ·rw[b,b']
 ·omega
 ·omega
 ·exact b.fn b'
def nK (base:Nat) (s:ByteArray) (e:Ending) (w:World):Prop:=∃ts c l k v,nG s (ts,c,l,k)/\e=.returned (.tuple #[v,.int .i64 c,.int .i64 l,.int .i64 k])/\w.ownsRow base 102 5 v ts.length (Pl.Tk.all ts)
theorem rA {w:World}{B g:Nat}(hg:w.heap[g]?=some (.cells #[] 102 (0,0))) (hb:B<=g):w.ownsRow B 102 5 (.slice (some ⟨g,0,none⟩) 0 0) 0 (Pl.Tk.all []):=⟨rfl,.inr ⟨g,0,#[],rfl,hb,hg,Nat.le_refl _,Nat.zero_le _,rfl,rfl⟩⟩
theorem QM {w:World}{B B' k n:Nat}{e:TypeId}{v:Value}{xs:List Value}(h:w.ownsRow B e k v n xs) (hb:B'<=B):w.ownsRow B' e k v n xs:=by
 refine⟨h.1,?_⟩;rcases h.2 with ⟨a,c⟩|⟨g,cap,cur,h0,hlo,hg,r⟩
 ·exact .inl ⟨a,c⟩
 ·exact .inr ⟨g,cap,cur,h0,by omega,hg,r⟩
theorem aBW (w:World) (a b c d f:Value):∀j u,[a,b,c,d,f][j]?=some u->(w.alloc (.cells #[a,b,c,d,f] 102)).cell? ((⟨w.heap.size,0,none⟩:Addr).add j)=some u:=by
 intro j u hj;have hj5:j<5:=by
  rcases Nat.lt_or_ge j 5 with q|q
  ·exact q
  ·rw[List.getElem?_eq_none (by simpa using q)]at hj;cases hj
 have:(⟨w.heap.size,0,none⟩:Addr).add j=⟨w.heap.size,j,none⟩:=by simp[Addr.add];omega
 rw[this,cell_of_row _ _ j _ 102 (0,0) (heap_alloc_new w _)];have h5:j=0\/j=1\/j=2\/j=3\/j=4:=by omega
 rcases h5 with rfl|rfl|rfl|rfl|rfl <;> exact hj
theorem tO {w:World}{B k n:Nat}{e:TypeId}{v:Value}{xs:List Value}(h:w.ownsRow B e k v n xs):∃a cap,v=.slice a n cap:=by
 rcases h.2 with ⟨rfl,e⟩|⟨g,cap,_,rfl,_⟩
 ·exact⟨none,0,by rw[e]⟩
 ·exact⟨_,_,rfl⟩
theorem yA {base:Nat}{s:ByteArray}{w:World}{ts:List Pl.Tk}{c l k c' l' k':Int}{v:Value}(h:nG s (ts,c,l,k)) (hc:c'=c) (hl:l'=l) (hk:k'=k) (ho:w.ownsRow base 102 5 v ts.length (Pl.Tk.all ts)):nK base s (.returned (.tuple #[v,.int .i64 c',.int .i64 l',.int .i64 k'])) w:=⟨ts,c,l,k,v,h,by rw[hc,hl,hk],ho⟩
theorem oO {fn:Func}{t u v x:Tmp}(h:fn.results=#[.tmp t,.tmp u,.tmp v,.tmp x]) (tmps:Array Value) (P:Program) (w:World) :
  (results fn tmps).run P w=.ok (.tuple #[tmps.getD t undef,tmps.getD u undef,tmps.getD v undef,tmps.getD x undef]) w:=by
 simp[results,h]
set_option maxRecDepth 100000 in
theorem rJ (a:Option Addr) (len cap:Nat) (s:ByteArray) (hl:s.size=len) (hmx:len<=1048576) (w:World) (hcv:∀u:World,Bw w u->(convert 26 9 (.slice a len cap)).run Tryz.prog u=.ok (.string s) u) :
  Calls Tryz.prog 82 #[.slice a len cap] w fun e w'=>nK w.heap.size s e w'/\Bw w w':=by
 obtain⟨i0,hi,hz0,hz1,hz2⟩:=info_parts Mh;have HCV:Hid (∀u:World,Bw w u->(convert 26 9 (.slice a len cap)).run Tryz.prog u=.ok (.string s) u):=hcv;have Ur:Hid (s.size=len):=hl;clear hcv hl;by_cases hbig:20000<len
 ·have hbig':(20000:Int)<len:=by omega
  have HE:Hid ((w.alloc (.cells #[] 102)).ownsRow w.heap.size 102 5 (.slice (some ⟨w.heap.size,0,none⟩) 0 0) 0 (Pl.Tk.all [])):=rA (heap_alloc_new w _) (Nat.le_refl _);go_enter Tryz.func82,Tryz.ntmps82;go_wp2_with fail
  refine bodyPost_ret (oO rfl _ _ _) rfl ?_;exact⟨yA (.inl ⟨by rw[Ur.o];exact hbig,rfl⟩) rfl rfl rfl HE.o,aB _ _⟩
 have hbig':¬(20000:Int)<len:=by omega
 have hsz:s.size<=20000:=by rw[Ur.o];omega
 have aFD:=HCV.o _ (aB w (.cells #[] 102));have HLX:Hid (∀r,Pl.Lx s 0 [] r->nG s r):=fun r h=>.inr ⟨hsz,h⟩;go_enter Tryz.func82,Tryz.ntmps82;go_wp2_with fail
 obtain⟨W1,hW1⟩:∃W1,W1=(w.alloc (.cells #[] 102)).alloc (.cells #[] 102):=⟨_,rfl⟩;rw[<- hW1];have HO0:Hid (W1.ownsRow (w.heap.size+1) 102 5 (.slice (some ⟨w.heap.size+1,0,none⟩) 0 0) 0 (Pl.Tk.all [])):=by rw[hW1];exact rA (by have:=heap_alloc_new (w.alloc (.cells #[] 102)) (.cells #[] 102);simpa using this) (Nat.le_refl _)
 have HN0:Hid (W1.heap[w.heap.size]?=some (.cells #[] 102 (0,0))):=by rw[hW1];exact (Below.heap_alloc _ _ _ (by simp)).trans (heap_alloc_new w _)
 have HW1:Hid (Bw w W1):=by rw[hW1];exact (aB _ _).trans ((aB _ _).mono (by simp))
 have aD8:W1.heap.size=w.heap.size+2:=by rw[hW1];simp
 have HZ1:Hid (W1.heap.size=w.heap.size+2):=aD8;clear hW1 aD8 aFD;go_loopw [8,9,10,11] (fun v x9 x10 x11 wr=>∃(k:Nat) (acc:List Pl.Tk),k<=s.size/\x11=.int .i64 k/\x9=.int .i64 (Pl.ln s k)/\x10=.int .i64 (Pl.cn s k)/\acc.length<=6000/\wr.ownsRow (w.heap.size+1) 102 5 v acc.length (Pl.Tk.all acc)/\Below (w.heap.size+1) W1 wr/\∀r,Pl.Lx s k acc r->Pl.Lx s 0 [] r) (fun _ _ _ x _=>s.size-(intOf x).toNat)
 case atStart=>exact⟨0,[],Nat.zero_le _,rfl,rfl,rfl,by simp,HO0.o,Below.refl _ _,fun r h=>h⟩
 case round=>
  obtain⟨k,acc,hk,rfl,rfl,rfl,hacc,hown,hbel,hq⟩:=hrel;obtain⟨ra,rc,rfl⟩:=tO hown;have HO:Hid (wr.ownsRow (w.heap.size+1) 102 5 _ acc.length (Pl.Tk.all acc)):=hown;have HB1:Hid (Below (w.heap.size+1) W1 wr):=hbel;have HB:Hid (Bw w wr):=HW1.o.trans (hbel.mono (by omega));have HQ:Hid (∀r,Pl.Lx s k acc r->Pl.Lx s 0 [] r):=hq;have Iy:Hid (wr.heap[w.heap.size]?=some (.cells #[] 102 (0,0))):=(hbel.block _ (by omega)).trans HN0.o;have Sy:Hid (w.heap.size+2<=wr.heap.size):=by have:=hbel.size;have:=HZ1.o;show _<=_;omega
  clear hown hbel hq HO0;have HSK:Hid (∀u:World,Calls Tryz.prog 116 #[.string s,.int .i64 k] u fun e w'=>SkS s k e/\w'=u):=fun u=>Dt s (by omega) k hk u;obtain⟨a0,a1⟩:=Pl.Dp s k;obtain⟨b0,b1⟩:=Pl.Dq s k;go_wp2_with fail
  refine (HSK.o _).mono ?_;rintro e u1 ⟨⟨j,b,hsk,hb⟩,hu1⟩;rw[hu1];clear hu1 HSK;obtain⟨hkj,hjs,hop⟩:=hsk.le;have hj:j<=s.size:=hjs hk;rcases hb with ⟨rfl,rfl⟩|⟨rfl,q,rfl⟩;rotate_left
  ·have HF:Hid (Pl.Lx s 0 [] ([],3,Pl.ln s j,Pl.cn s j)):=HQ.o _ (.opn hsk);have HPL:Hid (∀u:World,Calls Tryz.prog 117 #[.string s,.int .i64 j] u fun e w'=>e=.returned (.tuple #[.int .i64 (Pl.ln s j),.int .i64 (Pl.cn s j)])/\w'=u):=fun u=>WM s (by omega) j hj u;clear hsk hop hjs;go_wp2_with (go_at_call 117;refine (HPL.o _).mono ?_;rintro e u1 ⟨rfl,hu1⟩;rw[hu1];clear hu1)
   refine bodyPost_ret (oO rfl _ _ _) rfl ?_;exact⟨yA (HLX.o _ HF.o) rfl rfl rfl (rA Iy.o (Nat.le_refl _)),HB.o⟩
  have HS:Hid (Pl.Sk s k j true):=hsk;clear hsk hop hjs;go_wp2_with fail
  go_loop [9,10,11] (fun x9 x10 x11=>∃m:Nat,k<=m/\m<=j/\x11=.int .i64 m/\x9=.int .i64 (Pl.ln s m)/\x10=.int .i64 (Pl.cn s m)) (fun _ _ x=>j-(intOf x).toNat)
  case atStart=>exact⟨k,Nat.le_refl _,hkj,rfl,rfl,rfl⟩
  case round=>
   obtain⟨m,hm1,hm2,rfl,rfl,rfl⟩:=hrel;obtain⟨l0,l1⟩:=Pl.Dp s m;obtain⟨d0,d1⟩:=Pl.Dq s m;by_cases hlt:m<j
   ·have hlt':(m:Int)<j:=(by omega);have hms:(m:Int)<s.size:=(by omega);have hg:=Pl.aJ s m (by omega);have H1:Hid (Pl.ln s (m+1)=if Pl.aD s m=10 then Pl.ln s m+1 else Pl.ln s m):=rfl;have H2:Hid (Pl.cn s (m+1)=if Pl.aD s m=10 then 1 else Pl.cn s m+1):=rfl;obtain⟨c,hc⟩:∃c,c=Pl.aD s m:=⟨_,rfl⟩;obtain⟨A,hA⟩:∃A,A=Pl.ln s m:=⟨_,rfl⟩;obtain⟨B,hB⟩:∃B,B=Pl.cn s m:=⟨_,rfl⟩;rw[<- hc]at hg H1 H2;rw[<- hA]at H1 l0 l1 ⊢;rw[<- hB]at H2 d0 d1 ⊢;clear hc hA hB;by_cases h10:c=10
    ·have e1:(c == 10)=true:=(by simp[h10]);have K1:Hid (Pl.ln s (m+1)=A+1):=H1.o.trans (if_pos h10);have K2:Hid (Pl.cn s (m+1)=1):=H2.o.trans (if_pos h10);clear h10 H1 H2;go_wp2_with fail
     go_round
     case rel=>exact⟨m+1,by omega,by omega,by go_num,by rw[K1.o],by rw[K2.o]⟩
     case measure=>simp[intOf];omega
    ·have e1:(c == 10)=false:=(by simp[h10]);have K1:Hid (Pl.ln s (m+1)=A):=H1.o.trans (if_neg h10);have K2:Hid (Pl.cn s (m+1)=B+1):=H2.o.trans (if_neg h10);clear h10 H1 H2;go_wp2_with fail
     go_round
     case rel=>exact⟨m+1,by omega,by omega,by go_num,by rw[K1.o],by rw[K2.o]⟩
     case measure=>simp[intOf];omega
   ·have hmj:m=j:=(by omega);subst hmj;have hlt':¬(m:Int)<m:=(by omega);by_cases hend:m=s.size
    ·have HF:Hid (Pl.Lx s 0 [] (acc++[Pl.AA s m],0,0,0)):=HQ.o _ (.fin HS.o hend);have aBX:((m:Int) == (s.size:Int))=true:=(by simp[hend]);have HTE:Hid ((Pl.AA s m).cells=[.int .i64 0,.string ⟨#[]⟩,.int .i64 0,.int .i64 (Pl.ln s m),.int .i64 (Pl.cn s m)]):=rfl;obtain⟨A,hA⟩:∃A,A=Pl.ln s m:=⟨_,rfl⟩;obtain⟨B,hB⟩:∃B,B=Pl.cn s m:=⟨_,rfl⟩;rw[<- hA]at HTE l0 l1 ⊢;rw[<- hB]at HTE d0 d1 ⊢;clear hend hA hB;have HX:Hid ((wr.alloc (.cells #[.int .i64 0,.string ⟨#[]⟩,.int .i64 0,.int .i64 A,.int .i64 B] 102)).ownsRow (w.heap.size+1) 102 5 _ acc.length (Pl.Tk.all acc)):=HO.o.alloc _;have NX:Hid _:=aBW wr (.int .i64 0) (.string ⟨#[]⟩) (.int .i64 0) (.int .i64 A) (.int .i64 B);go_wp2_with (at_builtin;refine wpList_append_own _ rfl (.tmp 59) (.tmp 63) 141 rfl (w.heap.size+1) 102 i0 (.agg #[.int .i64 0,.string ⟨#[]⟩,.int .i64 0,.int .i64 0,.int .i64 0]) 5 48 Tryz.underlying141 hi hz0 hz1 hz2 rfl (by decide) _ _ _ rfl HX.o ⟨wr.heap.size,0,none⟩ 1 1 [.int .i64 0,.string ⟨#[]⟩,.int .i64 0,.int .i64 A,.int .i64 B] rfl rfl NX.o (by intro u hu;simp at hu;rcases hu with rfl|rfl|rfl|rfl|rfl <;> rfl) (by unfold maxLen;omega) (by omega) (by have:=Sy.o;simp;omega) ?_;intro v6 w6 hown6 qG _)
     refine bodyPost_ret (oO rfl _ _ _) rfl ?_;refine⟨yA (HLX.o _ HF.o) rfl rfl rfl ?_,?_⟩
     ·rw[Mi,List.length_append,HTE.o];exact QM hown6 (by omega)
     ·exact (HB.o.alloc HB.o.size _).grown qG (Nat.le_trans HB.o.size (by simp)) (fun x hx=>by have:=(HX.o.lt x hx).1;omega)
    ·have aBX:((m:Int) == (s.size:Int))=false:=(by simp;omega);have hms:m<s.size:=(by omega);have Sz:Hid (∀u:World,Calls Tryz.prog 118 #[.string s,.int .i64 m] u fun e w'=>GV s m e/\Bw u w'):=fun u=>WS s (by omega) m hms u;obtain⟨A,hA⟩:∃A,A=Pl.ln s m:=⟨_,rfl⟩;obtain⟨B,hB⟩:∃B,B=Pl.cn s m:=⟨_,rfl⟩;have Us:Hid (A=Pl.ln s m):=hA;have qE:Hid (B=Pl.cn s m):=hB;rw[<- hA]at l0 l1 ⊢;rw[<- hB]at d0 d1 ⊢;clear hA hB hend;go_wp2_with fail
     refine (Sz.o _).mono ?_;rintro e u2 ⟨Mj,g2⟩;have G2:Hid (Bw wr u2):=g2;have hzw:wr.heap.size<=u2.heap.size:=g2.size;have Mk:Hid (∀x,(u2.alloc x).heap[w.heap.size]?=some (.cells #[] 102 (0,0))):=fun x=>((aB u2 x).block w.heap.size (by have:=Sy.o;omega)).trans ((g2.block _ (by have:=Sy.o;omega)).trans Iy.o);have BB2:Hid (∀x,Bw w (u2.alloc x)):=fun x=>(HB.o.trans (g2.mono HB.o.size)).trans ((aB u2 x).mono (Nat.le_trans HB.o.size hzw));have BW2:Hid (Below (w.heap.size+1) W1 u2):=HB1.o.trans (g2.mono (by have:=Sy.o;omega));clear g2 Sz;unfold GV at Mj;cases htk:Pl.aM s m with
     | error f=>
      rw[htk]at Mj;subst Mj;have HF:Hid (Pl.Lx s 0 [] ([],f,Pl.ln s m,Pl.cn s m)):=HQ.o _ (.bad HS.o hms htk);have hf0:f≠0:=Pl.EJ htk;have e1:(f != 0)=true:=(by simp[hf0]);have e2:(f == 0)=false:=(by simp[hf0]);clear hf0 htk;go_wp2_with fail
      go_quiet (fail)
      go_wp2_with fail
      refine bodyPost_ret (oO rfl _ _ _) rfl ?_;refine⟨yA (HLX.o _ HF.o) rfl Us.o qE.o (rA ?_ (Nat.le_refl _)),?_⟩
      ·exact Mk.o _
      ·repeat (first|exact BB2.o _|refine sG ?_ _)
     | ok r=>
      obtain⟨kd,S,N,n⟩:=r;rw[htk]at Mj;subst Mj;obtain⟨⟨n1,n2⟩,⟨k1,k2⟩,n3⟩:=Pl.yY hms htk;by_cases aD9:6000<=acc.length
      ·have HF:Hid (Pl.Lx s 0 [] ([],9,Pl.ln s m,Pl.cn s m)):=HQ.o _ (.many HS.o hms htk aD9);have aBY:(6000:Int)<=acc.length:=(by omega);clear htk n3;go_wp2_with fail
       refine bodyPost_ret (oO rfl _ _ _) rfl ?_;exact⟨yA (HLX.o _ HF.o) rfl Us.o qE.o (rA (Mk.o _) (Nat.le_refl _)),BB2.o _⟩
      ·have HF:Hid (∀r,Pl.Lx s n (acc++[⟨kd,S,N,Pl.ln s m,Pl.cn s m⟩]) r->Pl.Lx s 0 [] r):=fun r hr=>HQ.o _ (.go HS.o hms htk (by omega) hr);have aBY:¬(6000:Int)<=acc.length:=(by omega);obtain⟨q1,q2⟩:=Pl.CB s m (n-m) (fun x h1 h2=>n3 x h1 (by omega));rw[show m+(n-m)=n by omega,<- Us.o]at q1;rw[show m+(n-m)=n by omega,<- qE.o]at q2;have K1:Hid (Pl.ln s n=A):=q1;have K2:Hid (Pl.cn s n=B+((n:Int)-(m:Int))):=(by show Pl.cn s n=_;rw[q2];omega);rw[<- Us.o,<- qE.o]at HF;clear htk n3 q1 q2;have HX:Hid (((u2.alloc (.cells #[.int .i64 kd,.string S,.int .i64 N,.int .i64 A,.int .i64 B,.int .i64 n,.int .i64 0,.int .i64 0] 189)).alloc (.cells #[.int .i64 kd,.string S,.int .i64 N,.int .i64 A,.int .i64 B] 102)).ownsRow (w.heap.size+1) 102 5 _ acc.length (Pl.Tk.all acc)):=((vR HO.o G2.o).alloc _).alloc _;have NX:Hid (∀j u,[Value.int .i64 kd,.string S,.int .i64 N,.int .i64 A,.int .i64 B][j]?=some u->((u2.alloc (.cells #[.int .i64 kd,.string S,.int .i64 N,.int .i64 A,.int .i64 B,.int .i64 n,.int .i64 0,.int .i64 0] 189)).alloc (.cells #[.int .i64 kd,.string S,.int .i64 N,.int .i64 A,.int .i64 B] 102)).cell? ((⟨u2.heap.size+1,0,none⟩:Addr).add j)=some u):=by
        have:=aBW (u2.alloc (.cells #[.int .i64 kd,.string S,.int .i64 N,.int .i64 A,.int .i64 B,.int .i64 n,.int .i64 0,.int .i64 0] 189)) (.int .i64 kd) (.string S) (.int .i64 N) (.int .i64 A) (.int .i64 B);rw[World.size_alloc]at this;exact this
       have hnm:(n:Int)<=s.size:=(by omega);have CE:Hid (∀w6:World,((u2.alloc (.cells #[.int .i64 kd,.string S,.int .i64 N,.int .i64 A,.int .i64 B,.int .i64 n,.int .i64 0,.int .i64 0] 189)).alloc (.cells #[.int .i64 kd,.string S,.int .i64 N,.int .i64 A,.int .i64 B] 102)).grownBy w6 (Value.slice ra acc.length rc).ownBlock->w6.cell? ⟨u2.heap.size,5,none⟩=some (.int .i64 n)):=fun w6 hg=>by
        have hb:=hg.block u2.heap.size (by simp;omega) (fun e=>by have:=(HO.o.lt _ e.symm).2;omega);exact cell_of_row w6 u2.heap.size 5 _ 189 (0,0) (hb.trans ((Below.heap_alloc _ _ _ (by simp)).trans (heap_alloc_new u2 _)))
       go_wp2_with (at_builtin;refine wpList_append_own _ rfl (.tmp 88) (.tmp 91) 141 rfl (w.heap.size+1) 102 i0 (.agg #[.int .i64 0,.string ⟨#[]⟩,.int .i64 0,.int .i64 0,.int .i64 0]) 5 48 Tryz.underlying141 hi hz0 hz1 hz2 rfl (by decide) _ _ _ rfl HX.o ⟨u2.heap.size+1,0,none⟩ 1 1 [.int .i64 kd,.string S,.int .i64 N,.int .i64 A,.int .i64 B] rfl rfl NX.o (by intro u hu;simp at hu;rcases hu with rfl|rfl|rfl|rfl|rfl <;> rfl) (by unfold maxLen;omega) (by omega) (by have:=Sy.o;simp;omega) ?_;intro v6 w6 hown6 qG _;have hc5:=CE.o w6 qG)
       go_roundw
       case rel=>
        refine⟨n,acc++[⟨kd,S,N,A,B⟩],n2,rfl,by rw[K1.o],by rw[K2.o],by rw[List.length_append];simp;omega,?_,?_,HF.o⟩
        ·rw[Mi,List.length_append];exact hown6
        ·exact ((BW2.o.alloc (by have:=Sy.o;omega) _).alloc (by have:=Sy.o;simp;omega) _).grown qG (by have:=Sy.o;simp;omega) (fun x hx=>(HX.o.lt x hx).1)
       case measure=>simp[intOf];omega
theorem WT (m:Nat) (hm:m<256) (w:World) (j:Nat) (u:Value) (hj:(Pl.cl [UInt8.ofNat m])[j]?=some u):(w.alloc (.cells #[.int .u8 (m:Int)] 5)).cell? ((⟨w.heap.size,0,none⟩:Addr).add j)=some u:=by
 rcases j with _|j
 ·have e:((UInt8.ofNat m).toNat:Int)=(m:Int):=by simp;omega
  simp only[Pl.cl,List.map_cons,List.map_nil,List.getElem?_cons_zero,Option.some.injEq,e]at hj;subst hj;exact cell_of_row _ w.heap.size 0 _ 5 (0,0) (heap_alloc_new w _)
 ·simp[Pl.cl]at hj
theorem JS (s:ByteArray) (hs:s.size<=1048576) (m:Nat) (hm:m=34\/m=39) (b cap:Nat) (w:World) (hd:bD w) (hb:b<w.heap.size) (hcs:∀j (h:j<s.size),w.cell? ⟨b,j,none⟩=some (.int .u8 ((s[j]'h).toNat:Int))) :
  Calls Tryz.prog 149 #[.slice (some ⟨b,0,none⟩) s.size cap,.int .u8 m] w fun e w'=>e=.returned (.string (Pl.qt s m))/\Bw w w':=by
 obtain⟨i0,hi,hz0,hz1,hz2⟩:=info_parts BX;have hm':m<256:=by omega
 have em:((UInt8.ofNat m).toNat:Int)=(m:Int):=by simp;omega
 have H0:Hid ((w.alloc (.cells #[.int .u8 (m:Int)] 5)).ownsRow w.heap.size 5 1 (.slice (some ⟨w.heap.size,0,none⟩) 1 1) 1 (Pl.cl (Pl.qc s m 0))):=by
  show (w.alloc _).ownsRow _ _ _ _ _ _;rw[Pl.Ao];have:=World.ownsRow_lit w #[.int .u8 (m:Int)] 1 (base:=w.heap.size) (e:=5) (size:=1) (Nat.le_refl _) (by decide) rfl;rw[show Pl.cl [UInt8.ofNat m]=[.int .u8 (m:Int)] by rw[<- em];rfl];exact this
 have HC:Hid (∀j (h:j<s.size),w.cell? ⟨b,j,none⟩=some (.int .u8 ((s[j]'h).toNat:Int))):=hcs;have HD:Hid (bD w):=hd;clear hcs hd em;go_enter Tryz.func149,Tryz.ntmps149;go_wp2_with fail
 go_loopw [5,12] (fun v i wr=>∃k:Nat,k<=s.size/\i=.int .i64 k/\wr.ownsRow w.heap.size 5 1 v (Pl.qc s m k).length (Pl.cl (Pl.qc s m k))/\Bw w wr) (fun _ i _=>s.size-(intOf i).toNat)
 case atStart=>exact⟨0,Nat.zero_le _,rfl,by rw[show (Pl.qc s m 0).length=1 from rfl];exact H0.o,(Below.refl _ _).alloc (Nat.le_refl _) _⟩
 case round=>
  obtain⟨k,hk,rfl,hown,hbel⟩:=hrel;have HO:Hid (wr.ownsRow w.heap.size 5 1 _ (Pl.qc s m k).length (Pl.cl (Pl.qc s m k))):=hown;have HB:Hid (Bw w wr):=hbel;clear hown hbel H0;by_cases hlt:k<s.size
  ·have hi':(k:Int)<(s.size:Int):=(by omega);have hc256:(s[k]'hlt).toNat<256:=(s[k]'hlt).toNat_lt;have hcell:wr.cell? ⟨b,k,none⟩=some (.int .u8 ((s[k]'hlt).toNat:Int)):=(HB.o.cell (p:=⟨b,k,none⟩) hb).trans (HC.o k hlt);have HDr:Hid (bD wr):=HD.o.below HB.o;go_wp2_with (first|(go_at_call 162;refine (LK (s[k]'hlt).toNat m hc256 hm _ HDr.o).mono ?_;rintro e u1 ⟨rfl,hb1⟩)|(at_builtin;refine Lib.wpList_append_own_string _ rfl (.tmp 16) (.tmp 19) 26 9 rfl w.heap.size 5 i0 Tryz.underlying26 Tryz.underlying9 hi hz0 hz1 hz2 _ _ _ rfl (vR HO.o hb1) _ rfl (by have:=Pl.sU s m k hk;have:=Pl.oH (s[k]'hlt).toNat m;show _+(Pl.shown (s[k]'hlt).toNat m).length<=_;unfold maxLen;omega) (by have:=Pl.sU s m k hk;have:=Pl.oH (s[k]'hlt).toNat m;show _+(Pl.shown (s[k]'hlt).toNat m).length<=_;omega) (Nat.le_trans HB.o.size hb1.size) ?_;intro v' u2 hown' hgr _;rw[Pl.aBC,<- Pl.vD]at hown'))
   refine⟨⟨k+1,by omega,by go_num,?_,?_⟩,by simp[intOf];omega⟩
   ·rw[Pl.LM s m k hlt,List.length_append];exact hown'
   ·exact (HB.o.trans (hb1.mono HB.o.size)).grown hgr (Nat.le_trans HB.o.size hb1.size) (fun j hj=>(HO.o.lt j hj).1)
  ·have hi':¬(k:Int)<(s.size:Int):=(by omega);obtain rfl:s.size=k:=by omega
   have HE:Hid ((wr.alloc (.cells #[.int .u8 (m:Int)] 5)).ownsRow w.heap.size 5 1 _ (Pl.qc s m s.size).length (Pl.cl (Pl.qc s m s.size))):=HO.o.alloc _;go_wp2_with (first|(at_builtin;refine wpList_append_own _ rfl (.tmp 22) (.tmp 24) 26 rfl w.heap.size 5 i0 (.int .u8 0) 1 1 Tryz.underlying26 hi hz0 hz1 hz2 rfl (by decide) _ _ _ rfl HE.o ⟨wr.heap.size,0,none⟩ 1 _ (Pl.cl [UInt8.ofNat m]) rfl rfl (WT m hm' wr) (by intro u hu;obtain⟨n,_,rfl⟩:=List.mem_map.1 hu;rfl) (by have:=Pl.sU s m s.size (Nat.le_refl _);unfold maxLen;omega) (by have:=Pl.sU s m s.size (Nat.le_refl _);omega) (Nat.le_trans HB.o.size (by simp)) ?_;intro v' u2 hown' hgr _;rw[<- Pl.vD]at hown';have hst:=EF hown' (Nat.succ_pos _)))
   go_ret;refine⟨rfl,?_⟩;exact (HB.o.trans (((Below.refl _ _).alloc (Nat.le_refl _) _).mono HB.o.size)).grown hgr (Nat.le_trans HB.o.size (by simp)) (fun j hj=>(HO.o.lt j hj).1)
theorem Ml (s:ByteArray) (hs:s.size<=1048576) (b cap:Nat) (w:World) (hd:bD w) (hb:b<w.heap.size) (hcs:∀j (h:j<s.size),w.cell? ⟨b,j,none⟩=some (.int .u8 ((s[j]'h).toNat:Int))) :
  Calls Tryz.prog 149 #[.slice (some ⟨b,0,none⟩) s.size cap,.int .u8 34] w fun e w'=>e=.returned (.string (Pl.qt s 34))/\Bw w w':=JS s hs 34 (.inl rfl) b cap w hd hb hcs
theorem Ut (w:World) (s:ByteArray) (j:Nat) (h:j<s.size):(Lib.bytesWorld w 5 s).cell? ⟨w.heap.size,j,none⟩=some (.int .u8 ((s[j]'h).toNat:Int)):=by
 rw[Lib.bytesWorld_cell w 5 s j h];obtain⟨⟨l⟩⟩:=s;have hl:j<l.length:=h;simp[List.getD,List.getElem?_eq_getElem hl];rfl
theorem GZ (s:ByteArray) (hs:s.size<=1048576) (w:World) (hd:bD w):Calls Tryz.prog 135 #[.string s] w fun e w'=>e=.returned (.string (Pl.qt s 34))/\Bw w w':=by
 have hcv:∀(u:World) (t:ByteArray),(convert 9 26 (.string t)).run Tryz.prog u=.ok (.slice (some ⟨u.heap.size,0,none⟩) t.size (grownCap u t.size 0 5)) (Lib.bytesWorld u 5 t):=fun u t=>Lib.run_convert_string_bytes u 9 26 5 t Tryz.underlying9 Tryz.underlying26 Tryz.underlying5;have HD:Hid (bD w):=hd;clear hd;have HW:Hid (Bw w (Lib.bytesWorld w 5 s)):=Joins.below_bytesWorld _ _ 5 _ (Nat.le_refl _);go_enter Tryz.func135,Tryz.ntmps135;go_wp2_with (go_at_call 149;refine (Ml s hs w.heap.size _ _ (HD.o.below HW.o) (by rw[Lib.bytesWorld_size];omega) (Ut w s)).mono ?_;rintro e u1 ⟨rfl,hb1⟩)
 go_ret;exact⟨rfl,HW.o.trans (hb1.mono HW.o.size)⟩
end W
namespace Pl
def num (n:Int):ByteArray:=⟨(Lib.itoa n).toArray⟩
theorem aY {u:Nat}(h:u<10):Lib.decDigits u=[UInt8.ofNat (48+u)]:=by rw[Lib.decDigits,dif_pos h]
theorem sI {u:Nat}(h:¬u<10):Lib.decDigits u=Lib.decDigits (u / 10)++[UInt8.ofNat (48+u % 10)]:=by rw[Lib.decDigits,dif_neg h]
theorem vV {n:Int}(h:0<=n):num n=⟨(Lib.decDigits n.toNat).toArray⟩:=by
 unfold num Lib.itoa;rw[if_neg (by omega)]
theorem ML {n:Int}(h:n<0):num n=⟨(45 :: Lib.decDigits n.natAbs).toArray⟩:=by
 unfold num Lib.itoa;rw[if_pos h]
theorem vE:∀(d u:Nat),u<=d->∃c r,Lib.decDigits u=c :: r/\48<=c.toNat/\c.toNat<=57:=by
 intro d
 induction d with
 | zero=>
  intro u hu;obtain rfl:u=0:=by omega
  exact⟨_,[],aY (by omega),by decide,by decide⟩
 | succ d ih=>
  intro u hu;by_cases h:u<10
  ·refine⟨_,[],aY h,?_,?_⟩ <;> simp <;> omega
  ·obtain⟨c,r,h1,h2⟩:=ih (u / 10) (by omega);exact⟨c,r++[UInt8.ofNat (48+u % 10)],by rw[sI h,h1];rfl,h2⟩
theorem aBZ {s:ByteArray}{k N:Int}{S:ByteArray}(h:mE s=.ok (k,S,N)):(k=3/\(S=⟨#[117]⟩\/S=⟨#[]⟩))\/((k=1\/k=2)/\S=s):=by
 unfold mE at h;split at h
 ·split at h
  ·cases h
  ·rename_i S' N' hi;cases h;refine .inl ⟨rfl,?_⟩;unfold iU at hi;split at hi
   ·cases hi
   ·split at hi
    ·cases hi
    ·have hi2:=(Except.ok.inj hi);have e1:=congrArg Prod.fst hi2;simp only at e1;rw[<- e1];split
     ·exact .inl rfl
     ·exact .inr rfl
 ·split at h
  ·cases h
  ·split at h
   ·cases h;exact .inr ⟨.inr rfl,rfl⟩
   ·cases h;exact .inr ⟨.inl rfl,rfl⟩
theorem MN {s:ByteArray}{i:Nat}(hi:i<s.size){k N:Int}{S:ByteArray}{n:Nat}(h:aM s i=.ok (k,S,N,n)):(k=3/\(S=⟨#[117]⟩\/S=⟨#[]⟩))\/(k=3/\S=⟨#[99]⟩/\0<=N)\/(k=4/\S.size<=200)\/((k=1\/k=2\/k=5)/\S.size+i<=s.size):=by
 have hsz:=bC s i;have hn:=(yY hi h).1;unfold aM at h;split at h
 ·have hr:=pJ kT (s.extract i s.size);split at h
  ·cases h
  ·rename_i k' S' N' hk;cases h;rcases aBZ hk with ⟨a,b⟩|⟨a,b⟩
   ·exact .inl ⟨a,b⟩
   ·refine .inr (.inr (.inr ⟨by omega,?_⟩));rw[b,ext_size];omega
 ·split at h
  ·split at h
   ·cases h
   ·split at h
    ·cases h;refine .inr (.inl ⟨rfl,rfl,?_⟩);show 0<=wd _;unfold wd;omega
    ·cases h
  ·split at h
   ·split at h
    ·cases h
    ·split at h
     ·cases h
     ·rename_i hb;cases h;refine .inr (.inr (.inl ⟨rfl,?_⟩));simp[ByteArray.size];omega
   ·split at h
    ·cases h
    ·cases h;refine .inr (.inr (.inr ⟨by omega,?_⟩));rw[ext_size];omega
theorem Sk.at0 {s:ByteArray}{j:Nat}{b:Bool}(h:Sk s 0 j b) (h1:blk (aD s 0)=false) (h2:aD s 0≠47):j=0:=by
 cases h with
 | stop _=>rfl
 | opn h _=>exact absurd h.2.1 h2
 | blank _ h _=>rw[h1]at h;cases h
 | line h _ _=>exact absurd h.2.1 h2
 | GR h _ _=>exact absurd h.2.1 h2
theorem Lx.pre {s:ByteArray}{i:Nat}{acc:List Tk}{r:List Tk × Int × Int × Int}(h:Lx s i acc r):r.1=[]\/(r.2.1=0/\∃l,r.1=acc++l/\l≠[]):=by
 induction h with
 | opn _=>exact .inl rfl
 | fin _ _=>exact .inr ⟨rfl,_,rfl,by simp⟩
 | bad _ _ _=>exact .inl rfl
 | many _ _ _ _=>exact .inl rfl
 | go _ _ _ _ _ ih=>
  rcases ih with q|⟨q,l,e,_⟩
  ·exact .inl q
  ·exact .inr ⟨q,_,by rw[e,List.append_assoc],by simp⟩
theorem WU {s:ByteArray}{t0 t1:Tk}{c l k:Int}(h:W.nG s ([t0,t1],c,l,k)):c=0/\∃j n,j<s.size/\Sk s 0 j true/\aM s j=.ok (t0.k,t0.S,t0.N,n)/\t0.l=ln s j/\t0.c=cn s j:=by
 rcases h with ⟨_,h⟩|⟨_,h⟩
 ·cases h
 cases h with
 | go hsk hj pE hl hr=>
  rcases hr.pre with q|⟨q,l',e,_⟩
  ·cases q
  ·have e':=congrArg (fun x=>x.head?) e;simp at e';subst e';exact⟨q,_,_,hj,hsk,pE,rfl,rfl⟩
def Two (x:ByteArray) (P:Tk->Prop):Prop:=∃t0 t1 c l k,W.nG x ([t0,t1],c,l,k)/\P t0
open Classical in
noncomputable def WV (x:ByteArray) (P:Tk->Prop):ByteArray:=if Two x P then x else ⟨#[]⟩
theorem CJ {x:ByteArray}{P:Tk->Prop}(h:Two x P):WV x P=x:=if_pos h
theorem vF {x:ByteArray}{P:Tk->Prop}(h:¬Two x P):WV x P=⟨#[]⟩:=if_neg h
theorem yB {x:ByteArray}{P Q:Tk->Prop}(h:Two x P↔Two x Q):WV x P=WV x Q:=by
 by_cases q:Two x P
 ·rw[CJ q,CJ (h.1 q)]
 ·rw[vF q,vF fun r=>q (h.2 r)]
def Ps (t t0:Tk):Prop:=t0.k=t.k/\t0.S=t.S/\t0.N=t.N
def Pi (t t0:Tk):Prop:=t0=⟨t.k,t.S,t.N,1,1⟩
def BF (b:Nat):ByteArray:=⟨((UInt8.ofNat 39 :: shown b 39)++[UInt8.ofNat 39]).toArray⟩
open Classical in
noncomputable def QN (t:Tk):ByteArray:=
 if t.k=3 then (if t.N<0\/(t.S≠⟨#[]⟩/\t.S≠⟨#[117]⟩/\t.S≠⟨#[99]⟩) then ⟨#[]⟩ else WV (if t.S=⟨#[99]⟩ then BF (t.N % 256).toNat else num t.N++t.S) (Ps t))
 else if t.k=4 then (if 200<t.S.size then ⟨#[]⟩ else WV (qt t.S 34) (Ps t)) else WV t.S (Ps t)
open Classical in
noncomputable def nH (t:Tk):ByteArray:=
 if t.k=1\/t.k=2\/t.k=5 then t.S else if t.k=3 then (if t.S=⟨#[99]⟩ then BF (t.N % 256).toNat else if t.S=⟨#[117]⟩ then num t.N++⟨#[117]⟩ else num t.N) else if t.k=4 then qt t.S 34 else ⟨#[]⟩
noncomputable def EK (t:Tk):ByteArray:=WV (nH t) (Pi t)
theorem JU {x:ByteArray}{t:Tk}(h:Two x (Pi t)):Two x (Ps t):=by
 obtain⟨t0,t1,c,l,k,h1,h2⟩:=h;unfold Pi at h2;subst h2;exact⟨_,t1,c,l,k,h1,rfl,rfl,rfl⟩
theorem aA8 {x:ByteArray}{t:Tk}(hj:∀j n,Sk x 0 j true->aM x j=.ok (t.k,t.S,t.N,n)->j<x.size->j=0) (h:Two x (Ps t)):Two x (Pi t):=by
 obtain⟨t0,t1,c,l,k,h1,h2,h3,h4⟩:=h;obtain⟨_,j,n,hj1,hsk,pE,hl,hc⟩:=WU h1;rw[h2,h3,h4]at pE;have e:=hj j n hsk pE hj1;subst e;refine⟨t0,t1,c,l,k,h1,?_⟩;obtain⟨a0,a1,a2,a3,a4⟩:=t0;simp only at h2 h3 h4 hl hc;subst h2 h3 h4 hl hc;rfl
theorem zB {x:ByteArray}{t:Tk}(h1:blk (aD x 0)=false) (h2:aD x 0≠47):Two x (Ps t)↔Two x (Pi t):=⟨aA8 fun j n h _ _=>h.at0 h1 h2,JU⟩
theorem yC {x:ByteArray}{t:Tk}(h:Two x (Ps t)):∃j n,j<x.size/\Sk x 0 j true/\aM x j=.ok (t.k,t.S,t.N,n):=by
 obtain⟨t0,t1,c,l,k,h1,h2,h3,h4⟩:=h;obtain⟨_,j,n,hj1,hsk,pE,hl,hc⟩:=WU h1;rw[h2,h3,h4]at pE;exact⟨j,n,hj1,hsk,pE⟩
theorem vG (l:List UInt8) (b:UInt8):aD ⟨(b :: l).toArray⟩ 0=(b.toNat:Int):=by simp[aD,ByteArray.size]
theorem vH (a b:List UInt8):(⟨a.toArray⟩:ByteArray)++⟨b.toArray⟩=⟨(a++b).toArray⟩:=by
 apply ByteArray.ext;simp[ByteArray.data_append]
theorem Mm (a:ByteArray):a++(⟨#[]⟩:ByteArray)=a:=by
 apply ByteArray.ext;simp[ByteArray.data_append]
theorem aEa {x:ByteArray}{k N:Int}{S:ByteArray}{n:Nat}(h:aD x 0=45) (pE:aM x 0=.ok (k,S,N,n)):k=5:=by
 have e:aM x 0=if uV (x.extract 0 x.size)=0 then .error 2 else .ok (5,x.extract 0 (0+uV (x.extract 0 x.size)),0,0+uV (x.extract 0 x.size)):=by
  unfold aM;rw[h,if_neg (show ¬kT 45=true by decide),if_neg (show ¬(45:Int)=39 by decide),if_neg (show ¬(45:Int)=34 by decide)]
 rw[e]at pE;by_cases q:uV (x.extract 0 x.size)=0
 ·rw[if_pos q]at pE;cases pE
 ·rw[if_neg q]at pE;have:=congrArg Prod.fst (Except.ok.inj pE);exact this.symm
theorem aB0 {t:Tk}(hk:t.k=3):QN t=EK t:=by
 unfold QN EK nH;rw[if_pos hk,if_neg (show ¬(t.k=1\/t.k=2\/t.k=5) by omega),if_pos hk];by_cases hbad:t.N<0\/(t.S≠⟨#[]⟩/\t.S≠⟨#[117]⟩/\t.S≠⟨#[99]⟩)
 ·rw[if_pos hbad,vF];intro h;obtain⟨j,n,hj,hsk,pE⟩:=yC (JU h);rcases MN hj pE with ⟨_,q⟩|⟨_,q,q'⟩|⟨q,_⟩|⟨q,_⟩
  ·rcases hbad with hN|⟨b1,b2,b3⟩
   ·have key:∀x:ByteArray,aD x 0=45->∀j,j<x.size->Sk x 0 j true->aM x j=.ok (t.k,t.S,t.N,n)->False:=by
     intro x hx j hj hsk pE;have e:=hsk.at0 (by rw[hx];decide) (by rw[hx];decide);subst e;have:=aEa hx pE;omega
    have hne:t.S≠⟨#[99]⟩:=by
     rcases q with q|q <;> rw[q] <;> decide
    rw[if_neg hne]at hj hsk pE;by_cases hu:t.S=⟨#[117]⟩
    ·rw[if_pos hu]at hj hsk pE;refine key _ ?_ j hj hsk pE;rw[ML hN];show aD ((⟨(45 :: Lib.decDigits t.N.natAbs).toArray⟩:ByteArray)++⟨[117].toArray⟩) 0=45;rw[vH];exact vG _ _
    ·rw[if_neg hu]at hj hsk pE;refine key _ ?_ j hj hsk pE;rw[ML hN];exact vG _ _
   ·rcases q with q|q
    ·exact b2 q
    ·exact b1 q
  ·rcases hbad with hN|⟨b1,b2,b3⟩
   ·omega
   ·exact b3 q
  ·omega
  ·omega
 ·rw[if_neg hbad];have hN:0<=t.N:=by
   rcases Int.lt_or_le t.N 0 with q|q
   ·exact absurd (.inl q) hbad
   ·exact q
  obtain⟨c,r,hd,h1,h2⟩:=vE _ t.N.toNat (Nat.le_refl _);have vQ:∀b:Int,48<=b->b<=57->blk b=false/\b≠47:=by
   intro b q1 q2;refine⟨?_,by omega⟩;unfold blk;simp;omega
  have dgt:∀x:ByteArray,48<=aD x 0->aD x 0<=57->WV x (Ps t)=WV x (Pi t):=fun x q1 q2=>yB (zB (vQ _ q1 q2).1 (vQ _ q1 q2).2);by_cases hc:t.S=⟨#[99]⟩
  ·rw[if_pos hc,if_pos hc];refine yB (zB ?_ ?_)
   ·unfold BF;rw[List.cons_append,vG];decide
   ·unfold BF;rw[List.cons_append,vG];decide
  ·rw[if_neg hc,if_neg hc];by_cases hu:t.S=⟨#[117]⟩
   ·rw[if_pos hu,hu];have e:aD (num t.N++(⟨#[117]⟩:ByteArray)) 0=(c.toNat:Int):=by
     rw[vV hN,hd];show aD ((⟨(c :: r).toArray⟩:ByteArray)++⟨[117].toArray⟩) 0=_;rw[vH];exact vG _ _
    exact dgt _ (by rw[e];omega) (by rw[e];omega)
   ·rw[if_neg hu];have he:t.S=⟨#[]⟩:=Classical.byContradiction fun q=>hbad (.inr ⟨q,hu,hc⟩);have e:aD (num t.N) 0=(c.toNat:Int):=by
     rw[vV hN,hd];exact vG _ _
    rw[he,Mm];exact dgt _ (by rw[e];omega) (by rw[e];omega)
theorem aB1 {t:Tk}(hk:t.k=4):QN t=EK t:=by
 unfold QN EK nH;rw[if_neg (show ¬t.k=3 by omega),if_pos hk,if_neg (show ¬(t.k=1\/t.k=2\/t.k=5) by omega),if_neg (show ¬t.k=3 by omega),if_pos hk];by_cases hb:200<t.S.size
 ·rw[if_pos hb,vF];intro h;obtain⟨j,n,hj,hsk,pE⟩:=yC (JU h);rcases MN hj pE with ⟨q,_⟩|⟨q,_⟩|⟨_,q⟩|⟨q,_⟩ <;> omega
 ·rw[if_neg hb];have e:aD (qt t.S 34) 0=34:=by
   unfold qt qc;rw[List.cons_append,vG];rfl
  exact yB (zB (by rw[e];decide) (by rw[e];decide))
theorem MO (t:Tk):QN t=EK t:=by
 by_cases h3:t.k=3
 ·exact aB0 h3
 by_cases h4:t.k=4
 ·exact aB1 h4
 unfold QN EK nH;rw[if_neg h3,if_neg h4,if_neg h3,if_neg h4];by_cases h:t.k=1\/t.k=2\/t.k=5
 ·rw[if_pos h];refine yB ⟨aA8 fun j n hsk pE hj=>?_,JU⟩;rcases MN hj pE with ⟨q,_⟩|⟨q,_⟩|⟨q,_⟩|⟨_,q⟩ <;> omega
 ·rw[if_neg h,vF,vF]
  ·intro q;obtain⟨j,n,hj,_⟩:=yC (JU q);exact absurd hj (Nat.not_lt_zero _)
  ·intro q;obtain⟨j,n,hj,hsk,pE⟩:=yC q;have:=(yY hj pE).2.1;rcases MN hj pE with ⟨q,_⟩|⟨q,_⟩|⟨q,_⟩|⟨q,_⟩ <;> omega
theorem ext_list (s:ByteArray) (a b:Nat):(s.extract a b).data.toList=(s.data.toList.drop a).take (b-a):=by
 rw[ByteArray.data_extract,Array.toList_extract]
theorem QO (s:ByteArray) (k:Nat):∀n,k+n<=s.size->ln s (k+n)=ln s k+(((s.data.toList.drop k).take n).count 10:Nat)
 | 0,_=>by simp
 | n+1,h=>by
  have ih:=QO s k n (by omega);have hl:k+n<s.data.toList.length:=by simp;omega
  have e1:ln s (k+n+1)=if aD s (k+n)=10 then ln s (k+n)+1 else ln s (k+n):=rfl
  rw[show k+(n+1)=k+n+1 by omega,e1,ih,List.take_add_one,List.count_append];have hx:(s.data.toList.drop k)[n]?=some (s.data.toList.getD (k+n) 0):=by
   rw[List.getElem?_drop,List.getD_eq_getElem?_getD,List.getElem?_eq_getElem hl];rfl
  rw[hx];unfold aD;generalize s.data.toList.getD (k+n) 0=x;by_cases hq:x=10
  ·subst hq;rw[if_pos (by decide)];simp;omega
  ·rw[if_neg (fun e=>hq (UInt8.toNat_inj.1 (by show x.toNat=10;omega)))];simp[List.count_singleton,hq]
theorem Mo (s:ByteArray) (k n:Nat) (h:k+n<=s.size) :
  (Lib.lastIndexByte (s.extract k (k+n)) 10=-1/\ln s (k+n)=ln s k/\cn s (k+n)=cn s k+n)\/
  (∃i:Nat,i<n/\Lib.lastIndexByte (s.extract k (k+n)) 10=i/\ln s (k+n)=ln s k+(Lib.countByte (s.extract k (k+n)).data.toList 10:Nat)/\cn s (k+n)=(n:Int)-i):=by
 have hsz:(s.extract k (k+n)).size=n:=by rw[ext_size];omega
 have hb:∀j,j<n->(((s.extract k (k+n)).data[j]!).toNat:Int)=aD s (k+j):=fun j hj=>by
  rw[<- nP s k (k+n) j (by omega) h];unfold aD;have hj':j<(s.extract k (k+n)).data.size:=by show j<(s.extract k (k+n)).size;omega
  have e:(s.extract k (k+n)).data.toList.getD j 0=(s.extract k (k+n)).data[j]!:=by
   generalize (s.extract k (k+n)).data=D at hj' ⊢;rw[List.getD_eq_getElem?_getD,Array.getElem?_toList,Array.getElem?_eq_getElem hj'];simp[hj']
  rw[<- e]
 rcases Lib.lastIndexByte_spec (s.extract k (k+n)) 10 with ⟨h1,h2⟩|⟨i,h1,h2,h3,h4⟩
 ·left;obtain⟨q1,q2⟩:=CB s k n (fun j hj1 hj2=>by
   have:=h2 (j-k) (by omega);rw[hb (j-k) (by omega),show k+(j-k)=j by omega]at this;exact this)
  exact⟨h1,q1,q2⟩
 ·right;rw[hsz]at h1 h4;refine⟨i,h1,h2,?_,?_⟩
  ·unfold Lib.countByte;rw[ext_list,show k+n-k=n by omega];exact QO s k n h
  ·have hi:aD s (k+i)=10:=(by rw[<- hb i h1];exact h3);have c1:cn s (k+i+1)=1:=by
    have e1:cn s (k+i+1)=if aD s (k+i)=10 then 1 else cn s (k+i)+1:=rfl
    rw[e1,if_pos hi]
   obtain⟨_,q2⟩:=CB s (k+i+1) (n-i-1) (fun j hj1 hj2=>by
    have:=h4 (j-k) (by omega) (by omega);rw[hb (j-k) (by omega),show k+(j-k)=j by omega]at this;exact this)
   rw[show k+i+1+(n-i-1)=k+n by omega,c1]at q2;rw[q2];omega
end Pl
namespace W
open Go.RowKit
structure aO (c:Nat) (w w':World):Prop where
 os:w'.os=w.os
 tape:w'.tape=w.tape
 output:w'.output=w.output
 size:w.heap.size<=w'.heap.size
 block:∀b,b<w.heap.size->b≠c->w'.heap[b]?=w.heap[b]?
theorem aO.refl (c:Nat) (w:World):aO c w w:=⟨rfl,rfl,rfl,Nat.le_refl _,fun _ _ _=>rfl⟩
theorem aO.trans {c:Nat}{a b d:World}(h:aO c a b) (k:aO c b d):aO c a d:=⟨k.os.trans h.os,k.tape.trans h.tape,k.output.trans h.output,Nat.le_trans h.size k.size,fun x hx hc=>(k.block x (Nat.lt_of_lt_of_le hx h.size) hc).trans (h.block x hx hc)⟩
theorem aO.of_below {c:Nat}{a b:World}(h:Bw a b):aO c a b:=⟨h.os,h.tape,h.output,h.size,fun x hx _=>h.block x hx⟩
theorem aO.below {c n:Nat}{w w':World}(h:aO c w w') (hn:n<=c) (hn2:n<=w.heap.size):Below n w w':=⟨h.os,h.tape,h.output,h.size,fun b hb=>h.block b (by omega) (by omega)⟩
theorem aO.setCell {c:Nat}{w u:World}(h:aO c w u) (q:Nat) (x:Value):aO c w (u.setCell ⟨c,q,none⟩ x):=by
 refine⟨?_,?_,?_,?_,fun b hb hc=>(Below.heap_setCell u ⟨c,q,none⟩ x b hc).trans (h.block b hb hc)⟩
 ·have:=(Below.refl 0 u).setCell (p:=⟨c,q,none⟩) (Nat.zero_le _) x;exact this.os.trans h.os
 ·have:=(Below.refl 0 u).setCell (p:=⟨c,q,none⟩) (Nat.zero_le _) x;exact this.tape.trans h.tape
 ·have:=(Below.refl 0 u).setCell (p:=⟨c,q,none⟩) (Nat.zero_le _) x;exact this.output.trans h.output
 ·rw[World.size_setCell];exact h.size
theorem aO.drewN {c:Nat}{w u:World}(h:aO c w u) (m:Nat):aO c w (u.drewN m):=⟨h.os,h.tape,h.output,h.size,h.block⟩
theorem aO.drew {c:Nat}{w u:World}(h:aO c w u):aO c w u.drew:=⟨h.os,h.tape,h.output,h.size,h.block⟩
def jT (g:Nat) (s:ByteArray) (k:Nat) (w:World):Prop:=w.heap[g]?=some (.cells #[.string s,.int .i64 k,.int .i64 (Pl.ln s k),.int .i64 ((k:Int)+1-Pl.cn s k)] 218 (0,0))
theorem jT.keep {g k:Nat}{s:ByteArray}{w w':World}(h:jT g s k w) (hb:Bw w w'):jT g s k w':=(hb.block g (Array.getElem?_eq_some_iff.1 h).1).trans h
set_option maxRecDepth 100000 in
theorem Bc (g:Nat) (s:ByteArray) (hs:s.size<=1048576) (k n:Nat) (h:k+n<=s.size) (w:World) (hL:jT g s k w):Calls Tryz.prog 166 #[.pointer (some ⟨g,0,none⟩),.int .i64 n] w fun e w'=>(∃v,e=.returned v)/\jT g s (k+n) w'/\aO g w w':=by
 have HP:=Pl.Mo s k n h;obtain⟨l0,l1⟩:=Pl.Dp s k;obtain⟨c0,c1⟩:=Pl.Dq s k;have HL:Hid (w.heap[g]?=some (.cells #[.string s,.int .i64 k,.int .i64 (Pl.ln s k),.int .i64 ((k:Int)+1-Pl.cn s k)] 218 (0,0))):=hL;have HG:Hid (∀(u:World) (x y z:Int),u.heap[g]?=some (.cells #[.string s,.int .i64 x,.int .i64 y,.int .i64 z] 218 (0,0))->x=((k+n:Nat):Int)->y=Pl.ln s (k+n)->z=((k+n:Nat):Int)+1-Pl.cn s (k+n)->jT g s (k+n) u):=fun u x y z hu hx hy hz=>by
  unfold jT;rw[hu,hx,hy,hz]
 obtain⟨A,hA⟩:∃A,A=Pl.ln s k:=⟨_,rfl⟩;obtain⟨B,hB⟩:∃B,B=Pl.cn s k:=⟨_,rfl⟩;rw[<- hA]at HP HL l0 l1;rw[<- hB]at HP HL c0 c1;clear hA hB hL;have hc0:w.cell? ⟨g,0,none⟩=some (.string s):=cell_of_row w g 0 _ 218 (0,0) HL.o;have hc1:w.cell? ⟨g,1,none⟩=some (.int .i64 k):=cell_of_row w g 1 _ 218 (0,0) HL.o;have hc2:w.cell? ⟨g,2,none⟩=some (.int .i64 A):=cell_of_row w g 2 _ 218 (0,0) HL.o;have hwr:IntKind.i64.wrap ((k:Int)+(n:Int))=(k:Int)+(n:Int):=by rw[IntKind.wrap_i64];omega
 have hle1:(k:Int)<=(k:Int)+(n:Int):=by omega
 have hle2:(k:Int)+(n:Int)<=s.size:=by omega
 have htn:((k:Int)+(n:Int)).toNat=k+n:=by omega
 have hPs:(s.extract k (k+n)).size=n:=by rw[Pl.ext_size];omega
 have HLI:Hid (∀u:World,Calls Tryz.prog 184 #[.string (s.extract k (k+n)),.int .u8 10] u fun e w'=>e=.returned (.int .i64 (Lib.lastIndexByte (s.extract k (k+n)) 10))/\w'=u):=fun u=>Tryz.strings_LastIndexByte (s.extract k (k+n)) 10 (by omega) u;have HCO:Hid (∀u:World,Calls Tryz.prog 185 #[.string (s.extract k (k+n)),.string ⟨#[10]⟩] u fun e w'=>e=.returned (.int .i64 (Lib.countByte (s.extract k (k+n)).data.toList 10:Nat))/\w'=u):=fun u=>Tryz.strings_Count_one (s.extract k (k+n)) 10 u;have HP':Hid _:=HP;clear HP;go_enter Tryz.func166,Tryz.ntmps166;go_wp2_with fail
 go_quiet (fail)
 go_wp2_with fail
 obtain⟨U,hU⟩:∃U,U=w.drewN nq:=⟨_,rfl⟩;rw[<- hU];have HLU:Hid (U.heap[g]?=some (.cells #[.string s,.int .i64 k,.int .i64 A,.int .i64 ((k:Int)+1-B)] 218 (0,0))):=by rw[hU];exact HL.o
 have OX:Hid (aO g w U):=by rw[hU];exact (aO.refl _ _).drewN _
 have hn0:=HL.o;clear hU hc0 hc1 hc2 hn0;have d1:U.cell? ⟨g,1,none⟩=some (.int .i64 k):=cell_of_row U g 1 _ 218 (0,0) HLU.o;have d2:U.cell? ⟨g,2,none⟩=some (.int .i64 A):=cell_of_row U g 2 _ 218 (0,0) HLU.o;have d3:U.cell? ⟨g,3,none⟩=some (.int .i64 ((k:Int)+1-B)):=cell_of_row U g 3 _ 218 (0,0) HLU.o;have f1:U.frozen? ⟨g,1,none⟩=false:=frozen_of_row U g 1 _ 218 HLU.o;have f2:U.frozen? ⟨g,2,none⟩=false:=frozen_of_row U g 2 _ 218 HLU.o;have f3:U.frozen? ⟨g,3,none⟩=false:=frozen_of_row U g 3 _ 218 HLU.o;have hcb:Lib.countByte (s.extract k (k+n)).data.toList 10<=n:=by
  unfold Lib.countByte;refine Nat.le_trans List.count_le_length ?_;simp;omega
 obtain⟨cnt,hcnt⟩:∃cnt,cnt=Lib.countByte (s.extract k (k+n)).data.toList 10:=⟨_,rfl⟩;rw[<- hcnt]at hcb HCO HP';obtain⟨D,hD⟩:∃D,D=s.extract k (k+n):=⟨_,rfl⟩;rw[<- hD]at HCO HP' HLI ⊢;obtain⟨last,hlast⟩:∃last,last=Lib.lastIndexByte D 10:=⟨_,rfl⟩;rw[<- hlast]at HP' HLI;clear hcnt hD hlast hPs;refine (HLI.o _).mono ?_;rintro e u1 ⟨rfl,hu1⟩;rw[hu1];clear hu1 HLI;rcases HP'.o with ⟨rfl,q1,q2⟩|⟨i,hin,rfl,q1,q2⟩
 ·have K1:Hid (Pl.ln s (k+n)=A):=q1;have K2:Hid (Pl.cn s (k+n)=B+n):=q2;clear q1 q2 HP';go_wp2_with fail
  go_end0;exact⟨⟨_,rfl⟩,HG.o _ _ _ _ (heap_setCell_same U g 1 _ 218 _ HLU.o) (by omega) K1.o.symm (by rw[K2.o];omega),OX.o.setCell 1 _⟩
 ·have K1:Hid (Pl.ln s (k+n)=A+cnt):=q1;have K2:Hid (Pl.cn s (k+n)=(n:Int)-i):=q2;have aGX:(cnt:Int)<=n:=by omega
  have hii:(i:Int)<n:=by omega
  clear q1 q2 HP';have hwr2:IntKind.i64.wrap (A+(cnt:Int))=A+(cnt:Int):=by rw[IntKind.wrap_i64];omega
  go_wp2_with fail
  go_region_with (go_at_call 185;refine (HCO.o _).mono ?_;rintro e u2 ⟨rfl,rfl⟩)
  all_goals go_wp2_with fail
  all_goals
   go_end0;refine⟨⟨_,rfl⟩,HG.o _ _ _ _ (heap_setCell_same _ g 1 _ 218 _ (heap_setCell_same _ g 3 _ 218 _ (heap_setCell_same _ g 2 _ 218 _ HLU.o))) (by omega) K1.o.symm (by rw[K2.o];omega),?_⟩
   repeat (first|exact OX.o|refine aO.setCell ?_ _ _|refine aO.drewN ?_ _|refine aO.drew ?_)
end W
namespace Pl
/-! A token's text read back,wherever it stands -/
def Dr (s:ByteArray) (i:Nat) (l:List UInt8):Prop:=s.data.toList.drop i=l
theorem kU (s:ByteArray):s.size=s.data.toList.length:=by rw[Array.length_toList];rfl
theorem Dr.lt {s:ByteArray}{i:Nat}{c:UInt8}{l:List UInt8}(h:Dr s i (c :: l)):i<s.size:=by
 rw[kU];rcases Nat.lt_or_ge i s.data.toList.length with q|q
 ·exact q
 ·unfold Dr at h;rw[List.drop_eq_nil_of_le q]at h;cases h
theorem Dr.len {s:ByteArray}{i:Nat}{l:List UInt8}(h:Dr s i l):l.length=s.size-i:=by
 unfold Dr at h;rw[<- h,List.length_drop,kU]
theorem Dr.at {s:ByteArray}{i:Nat}{l:List UInt8}(h:Dr s i l) (j:Nat):aD s (i+j)=((l.getD j 0).toNat:Int):=by
 unfold Dr at h;unfold aD;rw[<- h,List.getD_eq_getElem?_getD,List.getD_eq_getElem?_getD,List.getElem?_drop]
theorem Dr.b0 {s:ByteArray}{i:Nat}{c:UInt8}{l:List UInt8}(h:Dr s i (c :: l)):aD s i=(c.toNat:Int):=h.at 0
theorem Dr.b1 {s:ByteArray}{i:Nat}{c d:UInt8}{l:List UInt8}(h:Dr s i (c :: d :: l)):aD s (i+1)=(d.toNat:Int):=h.at 1
theorem Dr.app {s:ByteArray}{i:Nat}{a b:List UInt8}(h:Dr s i (a++b)):Dr s (i+a.length) b:=by
 unfold Dr at *;rw[<- List.drop_drop,h,List.drop_left]
theorem Dr.tl {s:ByteArray}{i:Nat}{c:UInt8}{l:List UInt8}(h:Dr s i (c :: l)):Dr s (i+1) l:=Dr.app (a:=[c]) h
theorem Dr.nil {s:ByteArray}{i:Nat}(h:Dr s i []):s.size<=i:=by
 have:=h.len;simp at this;omega
theorem Dr.ext {s:ByteArray}{i:Nat}{a b:List UInt8}(h:Dr s i (a++b)):s.extract i (i+a.length)=⟨a.toArray⟩:=by
 apply ByteArray.ext;apply Array.toList_inj.1;rw[ext_list,Nat.add_sub_cancel_left,show s.data.toList.drop i=a++b from h,List.take_left]
theorem Dr.rest {s:ByteArray}{i:Nat}{l:List UInt8}(h:Dr s i l):(s.extract i s.size).data.toList=l:=by
 rw[ext_list,show s.data.toList.drop i=l from h,List.take_of_length_le (by rw[h.len];exact Nat.le_refl _)]
theorem Uu (s:ByteArray):Dr s 0 s.data.toList:=by unfold Dr;rw[List.drop_zero]
def Ends (r:List UInt8):Prop:=r=[]\/∃q,r=32 :: q
theorem aB2 {s:ByteArray}{i:Nat}{a r:List UInt8}(h:Dr s i (a++r)) (hr:Ends r) (ha:∀c∈a,kT (c.toNat:Int)=true):run kT (s.extract i s.size)=a.length:=by
 have hd:=h.rest;have hs:(s.extract i s.size).size=a.length+r.length:=by rw[kU,hd,List.length_append]
 refine run_eq ⟨by omega,fun j hj=>?_,?_⟩
 ·unfold aD;rw[hd,List.getD_eq_getElem?_getD,List.getElem?_append_left hj,List.getElem?_eq_getElem hj];exact ha _ (List.getElem_mem _)
 ·rcases hr with e|⟨q,e⟩
  ·left;rw[hs,e];rfl
  ·right;unfold aD;rw[hd,e,List.getD_eq_getElem?_getD,List.getElem?_append_right (Nat.le_refl _),Nat.sub_self];show kT ((32:UInt8).toNat:Int)=false
   decide
theorem JV {s:ByteArray}{i:Nat}{a r:List UInt8}(h:Dr s i (a++r)) (hr:Ends r) (ha:∀c∈a,kT (c.toNat:Int)=true) (h0:a≠[]){k N:Int}{S:ByteArray}(hw:mE ⟨a.toArray⟩=.ok (k,S,N)):aM s i=.ok (k,S,N,i+a.length):=by
 obtain⟨c,a',rfl⟩:∃c a',a=c :: a':=by
  cases a with
  | nil=>exact absurd rfl h0
  | cons c a'=>exact⟨c,a',rfl⟩
 have hb:kT (aD s i)=true:=by rw[Dr.b0 h];exact ha c (by simp)
 unfold aM;rw[if_pos hb,aB2 h hr ha,h.ext,hw]
theorem aFE {s:ByteArray}{i:Nat}{c:UInt8}{l:List UInt8}(h:Dr s i (c :: l)){v:Int}(hp:aS (c.toNat:Int)=v) (hv:0<=v):bB s i=.ok (v,1):=by
 have hb:=h.b0;have hlt:=h.lt;unfold bB;have h10:(c.toNat:Int)≠10:=fun e=>by rw[e]at hp;rw[<- hp]at hv;exact absurd hv (by decide)
 have GK:(c.toNat:Int)≠120:=fun e=>by rw[e]at hp;rw[<- hp]at hv;exact absurd hv (by decide)
 have ho:¬ 0<=oc s i:=by
  unfold oc;rw[hb];split
  ·rename_i q;generalize (c.toNat:Int)=x at *;have:x=48\/x=49\/x=50\/x=51\/x=52\/x=53\/x=54\/x=55:=(by omega);rcases this with rfl|rfl|rfl|rfl|rfl|rfl|rfl|rfl <;> (rw[<- hp]at hv;exact absurd hv (by decide))
  ·omega
 rw[hb,if_neg (by rintro (e|e);omega;exact h10 e),if_neg GK,if_neg ho,hp,if_neg (by omega)]
theorem Mq {s:ByteArray}{i:Nat}{d:Nat}{l:List UInt8}(hd:d<8) (h:Dr s i (UInt8.ofNat (48+d) :: l)):oc s i=d:=by
 have hb:=h.b0;have hlt:=h.lt;have e:((UInt8.ofNat (48+d)).toNat:Int)=48+d:=by
  rw[UInt8.toNat_ofNat'];omega
 unfold oc;rw[hb,e,if_pos ⟨hlt,by omega,by omega⟩];omega
theorem aEb {s:ByteArray}{i:Nat}{c:Nat}{l:List UInt8}(hc:c<256) (h:Dr s i (UInt8.ofNat (48+c / 64) :: UInt8.ofNat (48+c / 8 % 8) :: UInt8.ofNat (48+c % 8) :: l)):bB s i=.ok ((c:Int),3):=by
 have o0:=Mq (d:=c / 64) (by omega) h;have o1:=Mq (d:=c / 8 % 8) (by omega) h.tl;have o2:=Mq (d:=c % 8) (by omega) h.tl.tl;have hb:=h.b0;have hlt:=h.lt;have e:((UInt8.ofNat (48+c / 64)).toNat:Int)=48+(c / 64:Nat):=by
  rw[UInt8.toNat_ofNat'];omega
 rw[e]at hb;unfold bB;rw[hb,if_neg (by rintro (e|e) <;> omega),if_neg (by omega),o0,o1,show i+2=i+1+1 from rfl,o2,if_pos (by omega),if_neg (by omega),if_neg (by omega),if_neg (by omega)];congr 2;omega
theorem Uv {s:ByteArray}{m:Nat}(hm:m=34\/m=39){i:Nat}{b:UInt8}{l acc:List UInt8}{r:Except Int (List UInt8 × Nat)}(h:Dr s i (shown b.toNat m++l)) (hq:oV s m (i+(shown b.toNat m).length) (acc++[b]) r):oV s m i acc r:=by
 have hb:=b.toNat_lt;have eb:UInt8.ofNat ((b.toNat:Int)).toNat=b:=by simp
 have esc:∀x:UInt8,shown b.toNat m=[92,x]->aS (x.toNat:Int)=b.toNat->oV s m i acc r:=by
  intro x e hp;rw[e]at h hq;have LQ:aD s i=92:=h.b0;refine .esc h.lt LQ (by rw[LQ];omega) (aFE (h.tl:Dr s (i+1) (x :: l)) hp (by omega)) ?_;rw[eb];exact hq
 by_cases h10:b.toNat=10
 ·refine esc 110 (by unfold shown;rw[if_pos h10]) (by rw[h10];decide)
 by_cases h9:b.toNat=9
 ·refine esc 116 (by unfold shown;rw[if_neg h10,if_pos h9]) (by rw[h9];decide)
 by_cases Aj:b.toNat=13
 ·refine esc 114 (by unfold shown;rw[if_neg h10,if_neg h9,if_pos Aj]) (by rw[Aj];decide)
 by_cases hmk:b.toNat=m\/b.toNat=92
 ·refine esc b (by rw[Ak hmk hm];simp) ?_;have:b.toNat=34\/b.toNat=39\/b.toNat=92:=by omega
  rcases this with e|e|e <;> (rw[e];decide)
 by_cases hp:32<=b.toNat/\b.toNat<=126
 ·rw[Al hmk hp]at h hq;have hb0:aD s i=b.toNat:=by
   have:=Dr.b0 (c:=UInt8.ofNat b.toNat) h;simpa using this
  refine .one (Dr.lt (c:=UInt8.ofNat b.toNat) h) (by rw[hb0];omega) (by rw[hb0];omega) (by rw[hb0];omega) ?_;rw[hb0,eb];exact hq
 ·have e:=Am hmk hp h10 h9 Aj;rw[e]at h hq;unfold oct at h hq;have LQ:aD s i=92:=Dr.b0 h;refine .esc (Dr.lt h) LQ (by rw[LQ];omega) (aEb hb (Dr.tl h)) ?_;rw[eb];exact hq
theorem QP {s:ByteArray}{m:Nat}(hm:m=34\/m=39):∀(bs:List UInt8) (i:Nat) (acc r:List UInt8),Dr s i (bs.flatMap (fun b=>shown b.toNat m)++UInt8.ofNat m :: r)->oV s m i acc (.ok (acc++bs,i+(bs.flatMap fun b=>shown b.toNat m).length+1)):=by
 intro bs
 induction bs with
 | nil=>
  intro i acc r h;have hb:aD s i=m:=by
   have:aD s i=((UInt8.ofNat m).toNat:Int):=Dr.b0 h;rw[this,UInt8.toNat_ofNat'];omega
  rw[List.append_nil];exact .fin (Dr.lt h) hb (by rw[hb];omega)
 | cons b bs ih=>
  intro i acc r h;rw[List.flatMap_cons,List.append_assoc]at h;refine Uv hm h ?_;have:=ih (i+(shown b.toNat m).length) (acc++[b]) r h.app;rw[List.append_assoc,List.singleton_append]at this;rw[List.flatMap_cons,List.length_append,<- Nat.add_assoc];exact this
theorem EL {s:ByteArray}{i:Nat}{S:ByteArray}{r:List UInt8}(hS:S.size<=200) (h:Dr s i ((qt S 34).data.toList++r)):aM s i=.ok (4,S,0,i+(qt S 34).size):=by
 have e:(qt S 34).data.toList=34 :: (S.data.toList.flatMap (fun b=>shown b.toNat 34)++[34]):=by
  unfold qt qc;rw[kU S,List.take_length];rfl
 rw[kU,e];rw[e,List.cons_append,List.append_assoc]at h;have hb:aD s i=34:=Dr.b0 h;have hq:=uD (QP (.inl rfl) S.data.toList (i+1) [] r (Dr.tl h));unfold aM;rw[hb,if_neg (by decide),if_neg (by decide),if_pos rfl,show ((34:Nat):Int)=34 from rfl] at *;rw[hq];simp only[List.nil_append];rw[if_neg (by rw[<- kU];omega)];congr 4;simp;omega
theorem Mr {s:ByteArray}{i:Nat}{b:UInt8}{r:List UInt8}(h:Dr s i ((BF b.toNat).data.toList++r)):aM s i=.ok (3,⟨#[99]⟩,nr 1 (b.toNat:Int),i+(BF b.toNat).size):=by
 have e:(BF b.toNat).data.toList=39 :: ([b].flatMap (fun b=>shown b.toNat 39)++[39]):=by
  unfold BF;simp
 rw[kU,e];rw[e,List.cons_append,List.append_assoc]at h;have hb:aD s i=39:=Dr.b0 h;have hq:=uD (QP (.inr rfl) [b] (i+1) [] r (Dr.tl h));unfold aM;rw[hb,if_neg (by decide),if_pos rfl,show ((39:Nat):Int)=39 from rfl] at *;rw[hq];simp only[List.nil_append];rw[if_pos (show [b].length=1 from rfl)];congr 4;simp;omega
end Pl
end Go.Proofs.YtjcdiegfnoaedaaGreatDoor
