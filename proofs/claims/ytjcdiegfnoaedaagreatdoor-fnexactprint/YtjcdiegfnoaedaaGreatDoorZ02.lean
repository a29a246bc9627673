import Derived.Test.YtjcdiegfnoaedaaGreatDoorZ01
import Derived.Deep.DeepCutAuto
import Derived.Lib.SmallJoins
import Derived.BigCall
import Derived.BigGuard
import Derived.Lib.AtoiErrMem
set_option linter.unusedVariables false
set_option linter.unusedSimpArgs false
set_option maxHeartbeats 16000000
namespace Go.Proofs.YtjcdiegfnoaedaaGreatDoor
namespace Pl
structure Nd where
 k:Int
 m:Int
 n:Int
 s:ByteArray
 kids:List Int
 line:Int
 aQ:Int
def Nd.cells (x:Nd) (v:W.SV):Array Value:=#[.int .i64 x.k,.int .i64 x.m,.int .i64 x.n,.string x.s,.slice v.a v.len v.cap,.int .i64 x.line,.int .i64 x.aQ]
def Nd.zero:Nd:=⟨0,0,0,⟨#[]⟩,[],0,0⟩
end Pl
namespace W
open Go.RowKit
def aT (lo:Nat) (w:World) (a:Option Addr) (len cap:Nat) (xs:List Pl.Nd):Prop:=
 (xs.length=len/\∀x∈xs,x.s.size<=maxLen)/\len<=cap/\cap<=maxLen/\(len=0\/∃b off,a=some ⟨b,off,none⟩/\lo<=b/\b<w.heap.size/\∀i,i<len->∃v:SV,(∀j,j<7->w.cell? ⟨b,off+i*7+j,none⟩=((xs.getD i Pl.Nd.zero).cells v)[j]?)/\Row .i64 lo w v.a v.len v.cap (xs.getD i Pl.Nd.zero).kids)
theorem aT.keep {lo:Nat}{w w':World}{a:Option Addr}{len cap:Nat}{xs:List Pl.Nd}(h:aT lo w a len cap xs) (hb:Bw w w'):aT lo w' a len cap xs:=by
 obtain⟨h1,h2,h3,h4⟩:=h;refine⟨h1,h2,h3,?_⟩;rcases h4 with h4|⟨b,off,ha,hlo,hlt,hc⟩
 ·exact .inl h4
 ·refine .inr ⟨b,off,ha,hlo,Nat.lt_of_lt_of_le hlt hb.size,fun i hi=>?_⟩;obtain⟨v,h5,h6⟩:=hc i hi;exact⟨v,fun j hj=>(hb.cell (p:=⟨b,off+i*7+j,none⟩) hlt).trans (h5 j hj),h6.keep hb⟩
theorem aT.at {lo:Nat}{w:World}{a:Option Addr}{len cap:Nat}{xs:List Pl.Nd}(h:aT lo w a len cap xs){k:Nat}(hk:k<len) :
  ∃(b off:Nat) (v:SV),a=some ⟨b,off,none⟩/\lo<=b/\b<w.heap.size/\(∀j,j<7->w.cell? ⟨b,off+k*7+j,none⟩=((xs.getD k Pl.Nd.zero).cells v)[j]?)/\Row .i64 lo w v.a v.len v.cap (xs.getD k Pl.Nd.zero).kids/\(xs.getD k Pl.Nd.zero).s.size<=maxLen:=by
 obtain⟨h1,h2,h3,h4⟩:=h;rcases h4 with h4|⟨b,off,ha,hlo,hlt,hc⟩
 ·omega
 ·obtain⟨v,h5,h6⟩:=hc k hk;refine⟨b,off,v,ha,hlo,hlt,h5,h6,?_⟩;rw[List.getD_eq_getElem?_getD,List.getElem?_eq_getElem (by rw[h1.1];exact hk)];exact h1.2 _ (List.getElem_mem _)
theorem iT {u:World}{b o:Nat}{x:Pl.Nd}{v:SV}(h:∀j,j<7->u.cell? ⟨b,o+j,none⟩=(x.cells v)[j]?):u.cell? ⟨b,o,none⟩=some (.int .i64 x.k)/\u.cell? ⟨b,o+1,none⟩=some (.int .i64 x.m)/\u.cell? ⟨b,o+2,none⟩=some (.int .i64 x.n)/\u.cell? ⟨b,o+3,none⟩=some (.string x.s)/\u.cell? ⟨b,o+4,none⟩=some (.slice v.a v.len v.cap)/\u.cell? ⟨b,o+5,none⟩=some (.int .i64 x.line)/\u.cell? ⟨b,o+6,none⟩=some (.int .i64 x.aQ):=
 ⟨h 0 (by decide),h 1 (by decide),h 2 (by decide),h 3 (by decide),h 4 (by decide),h 5 (by decide),h 6 (by decide)⟩
end W
namespace Pl
def say (s:ByteArray):List UInt8:=s.data.toList++[if s=⟨#[59]⟩\/s=⟨#[123]⟩\/s=⟨#[125]⟩ then 10 else 32]
structure Tx where
 pr:List UInt8
 rk:Nat
 bf:List UInt8
 bh:List UInt8
 sf:Bool
 th:List UInt8
def Tx.no:Tx:=⟨[],0,[],[],false,[]⟩
def BA:List ByteArray:=[⟨#[]⟩,⟨#[115,116,114,117,99,116]⟩,⟨#[117,110,105,111,110]⟩,⟨#[101,110,117,109]⟩]
def stepW:List ByteArray:=[⟨#[]⟩,⟨#[43,43]⟩,⟨#[45,45]⟩]
def unW:List ByteArray:=[⟨#[]⟩,⟨#[43]⟩,⟨#[45]⟩,⟨#[126]⟩,⟨#[33]⟩,⟨#[42]⟩,⟨#[38]⟩]
def uU:List ByteArray:=[⟨#[]⟩,⟨#[42]⟩,⟨#[47]⟩,⟨#[37]⟩,⟨#[43]⟩,⟨#[45]⟩,⟨#[60,60]⟩,⟨#[62,62]⟩,⟨#[60]⟩,⟨#[62]⟩,⟨#[60,61]⟩,⟨#[62,61]⟩,⟨#[61,61]⟩,⟨#[33,61]⟩,⟨#[38]⟩,⟨#[94]⟩,⟨#[124]⟩,⟨#[38,38]⟩,⟨#[124,124]⟩]
def PL:List ByteArray:=[⟨#[61]⟩,⟨#[42,61]⟩,⟨#[47,61]⟩,⟨#[37,61]⟩,⟨#[43,61]⟩,⟨#[45,61]⟩,⟨#[60,60,61]⟩,⟨#[62,62,61]⟩,⟨#[]⟩,⟨#[]⟩,⟨#[]⟩,⟨#[]⟩,⟨#[]⟩,⟨#[]⟩,⟨#[38,61]⟩,⟨#[94,61]⟩,⟨#[124,61]⟩]
def PM:List ByteArray:=[⟨#[]⟩,⟨#[118,111,105,100]⟩,⟨#[99,104,97,114]⟩,⟨#[117,110,115,105,103,110,101,100,32,99,104,97,114]⟩,⟨#[115,104,111,114,116]⟩,⟨#[117,110,115,105,103,110,101,100,32,115,104,111,114,116]⟩,⟨#[105,110,116]⟩,⟨#[117,110,115,105,103,110,101,100,32,105,110,116]⟩]
def CX (l:List ByteArray) (m:Int):ByteArray:=l.getD m.toNat ⟨#[]⟩
def brk (t:List UInt8):List UInt8:=say ⟨#[40]⟩++t++say ⟨#[41]⟩
def Tx.op (t:Tx):List UInt8:=if 0<t.rk then brk t.pr else t.pr
def Tx.ar (t:Tx):List UInt8:=if 1<t.rk then brk t.pr else t.pr
def wF (l:List Tx):List UInt8:=l.flatMap Tx.pr
def wG:List Tx->List UInt8
 | []=>[]
 | t :: l=>t.ar++l.flatMap fun u=>say ⟨#[44]⟩++u.ar
def FZ (l:List Tx):List UInt8:=l.flatMap fun u=>say ⟨#[61]⟩++u.ar
def Tx.dc (t:Tx) (s:ByteArray):List UInt8:=t.bf++(if s=⟨#[]⟩ then [] else s.data.toList++[32])++t.bh
def uW (b h:List UInt8) (s:Bool):Tx:=⟨[],0,b,h,s,[]⟩
def nD (t:List UInt8):Tx:=⟨t,0,[],[],false,[]⟩
def rU (r:Nat) (t:List UInt8):Tx:=⟨t,r,[],[],false,[]⟩
def aR (lit:Nd->ByteArray) (x:Nd) (ks:List Tx):Tx:=
 let a:=ks.getD 0 Tx.no
 let b:=ks.getD 1 Tx.no
 let c:=ks.getD 2 Tx.no
 let d:=ks.getD 3 Tx.no
 if x.k=1 then uW (say (CX PM x.n)) [] false
 else if x.k=2 then uW (a.bf++(if a.sf then say ⟨#[40]⟩ else [])++say ⟨#[42]⟩) ((if a.sf then say ⟨#[41]⟩ else [])++a.bh) false
 else if x.k=3 then uW a.bf (say ⟨#[91]⟩++wG (ks.drop 1)++say ⟨#[93]⟩++a.bh) true
 else if x.k=4 then uW a.bf (say ⟨#[40]⟩++(if (ks.drop 1).length=0 then say ⟨#[118,111,105,100]⟩ else [])++wG (ks.drop 1)++say ⟨#[41]⟩++a.bh) true
 else if x.k=5 then uW (say (CX BA x.m)++say x.s) [] false
 else if x.k=6 then uW (say x.s) [] false
 else if x.k=7 then nD (a.dc x.s)
 else if x.k=8 then nD (a.dc x.s++say ⟨#[59]⟩)
 else if x.k=9 then nD (say x.s++FZ ks)
 else if x.k=10 then nD (say (CX BA x.m)++say x.s++say ⟨#[123]⟩++wF ks++say ⟨#[125]⟩++say ⟨#[59]⟩)
 else if x.k=11 then nD (say ⟨#[101,110,117,109]⟩++say x.s++say ⟨#[123]⟩++wG ks++say ⟨#[125]⟩++say ⟨#[59]⟩)
 else if x.k=12 then nD (say ⟨#[116,121,112,101,100,101,102]⟩++a.dc x.s++say ⟨#[59]⟩)
 else if x.k=13 then nD (a.dc x.s++FZ (ks.drop 1)++say ⟨#[59]⟩)
 else if x.k=14 then nD (a.dc x.s++b.pr)
 else if x.k=15 then nD (wF ks)
 else if x.k=16 then nD (say ⟨#[123]⟩++wG ks++say ⟨#[125]⟩)
 else if x.k=17 then nD (say ⟨#[123]⟩++wF ks++say ⟨#[125]⟩)
 else if x.k=19 then ⟨a.pr++say ⟨#[59]⟩,0,[],[],false,a.pr⟩
 else if x.k=20 then nD (say ⟨#[59]⟩)
 else if x.k=21 then nD (say ⟨#[105,102]⟩++brk a.pr++b.pr++(ks.drop 2).flatMap fun t=>say ⟨#[101,108,115,101]⟩++t.pr)
 else if x.k=22 then nD (say ⟨#[119,104,105,108,101]⟩++brk a.pr++b.pr)
 else if x.k=23 then nD (say ⟨#[100,111]⟩++a.pr++say ⟨#[119,104,105,108,101]⟩++brk b.pr++say ⟨#[59]⟩)
 else if x.k=24 then nD (say ⟨#[102,111,114]⟩++say ⟨#[40]⟩++a.pr++b.pr++c.th++say ⟨#[41]⟩++d.pr)
 else if x.k=25 then nD (say ⟨#[115,119,105,116,99,104]⟩++brk a.pr++b.pr)
 else if x.k=26 then nD (say ⟨#[99,97,115,101]⟩++a.ar++say ⟨#[58]⟩++b.pr)
 else if x.k=27 then nD (say ⟨#[100,101,102,97,117,108,116]⟩++say ⟨#[58]⟩++a.pr)
 else if x.k=28 then nD (say x.s++say ⟨#[58]⟩++a.pr)
 else if x.k=29 then nD (say ⟨#[103,111,116,111]⟩++say x.s++say ⟨#[59]⟩)
 else if x.k=30 then nD (say ⟨#[98,114,101,97,107]⟩++say ⟨#[59]⟩)
 else if x.k=31 then nD (say ⟨#[99,111,110,116,105,110,117,101]⟩++say ⟨#[59]⟩)
 else if x.k=32 then nD (say ⟨#[114,101,116,117,114,110]⟩++wF ks++say ⟨#[59]⟩)
 else if x.k=33\/x.k=34 then rU 0 (say (lit x))
 else if x.k=35 then rU 0 (say x.s)
 else if x.k=36 then rU 0 (a.op++say ⟨#[91]⟩++b.pr++say ⟨#[93]⟩)
 else if x.k=37 then rU 0 (a.op++say ⟨#[40]⟩++wG (ks.drop 1)++say ⟨#[41]⟩)
 else if x.k=38 then rU 0 (a.op++say ⟨#[46]⟩++say x.s)
 else if x.k=39 then rU 0 (a.op++say ⟨#[45,62]⟩++say x.s)
 else if x.k=40 then rU 0 (a.op++say (CX stepW x.m))
 else if x.k=41 then rU 1 (say (CX stepW x.m)++a.op)
 else if x.k=42 then rU 1 (say (CX unW x.m)++a.op)
 else if x.k=43 then rU 1 (say ⟨#[115,105,122,101,111,102]⟩++a.op)
 else if x.k=44 then rU 1 (say ⟨#[115,105,122,101,111,102]⟩++brk (a.dc ⟨#[]⟩))
 else if x.k=45 then rU 1 (brk (a.dc ⟨#[]⟩)++b.op)
 else if x.k=46 then rU 1 (a.op++say (CX uU x.m)++b.op)
 else if x.k=47 then rU 1 (a.op++say ⟨#[63]⟩++b.op++say ⟨#[58]⟩++c.op)
 else if x.k=48 then rU 2 (a.op++say (CX PL x.m)++b.op)
 else rU 2 (a.op++say ⟨#[44]⟩++b.op)
def txs (lit:Nd->ByteArray) (xs:List Nd):Nat->List Tx
 | 0=>[]
 | n+1=>txs lit xs n++[aR lit (xs.getD n Nd.zero) ((xs.getD n Nd.zero).kids.map fun k=>(txs lit xs n).getD k.toNat Tx.no)]
theorem BM (lit:Nd->ByteArray) (xs:List Nd):∀n,(txs lit xs n).length=n
 | 0=>rfl
 | n+1=>by rw[txs,List.length_append,BM lit xs n];rfl
def tx (lit:Nd->ByteArray) (xs:List Nd) (i:Nat):Tx:=(txs lit xs (i+1)).getD i Tx.no
theorem aBp (lit:Nd->ByteArray) (xs:List Nd):∀n i,i<n->(txs lit xs n).getD i Tx.no=tx lit xs i:=by
 intro n
 induction n with
 | zero=>intro i hi;exact absurd hi (Nat.not_lt_zero _)
 | succ n ih=>
  intro i hi;by_cases q:i=n
  ·subst q;rfl
  ·rw[txs,List.getD_eq_getElem?_getD,List.getElem?_append_left (by rw[BM];omega),<- List.getD_eq_getElem?_getD];exact ih i (by omega)
theorem xL (lit:Nd->ByteArray) (xs:List Nd) (i:Nat) (h:∀k∈(xs.getD i Nd.zero).kids,0<=k/\k<i):tx lit xs i=aR lit (xs.getD i Nd.zero) ((xs.getD i Nd.zero).kids.map fun k=>tx lit xs k.toNat):=by
 unfold tx;rw[txs,List.getD_eq_getElem?_getD,List.getElem?_append_right (by rw[BM];exact Nat.le_refl _),BM,Nat.sub_self];show aR lit _ _=_;congr 1;refine List.map_congr_left fun k hk=>?_;have:=h k hk;exact aBp lit xs i k.toNat (by omega)
def bl (l:List UInt8):List Value:=l.map fun b=>Value.int .u8 (b.toNat:Int)
theorem sO (l:List UInt8):(bl l).length=l.length:=by simp[bl]
theorem yQ (l m:List UInt8):bl (l++m)=bl l++bl m:=by simp[bl]
theorem CY (l:List UInt8):∀u∈bl l,u.oneCell'=true:=by
 intro u hu;obtain⟨b,_,rfl⟩:=List.mem_map.1 hu;rfl
end Pl
namespace W
open Go.RowKit
structure Fr (B:Nat) (u u':World):Prop where
 b:Below B u u'
 k:∀(k:Nat) (cs:Array Value) (t:TypeId) (fr:Nat × Nat),u.heap[k]?=some (.cells cs t fr)->t≠5->t≠42->u'.heap[k]?=some (.cells cs t fr)
theorem Fr.refl (B:Nat) (u:World):Fr B u u:=⟨Below.refl _ _,fun _ _ _ _ h _ _=>h⟩
theorem Fr.trans {B:Nat}{u v w:World}(h:Fr B u v) (k:Fr B v w):Fr B u w:=⟨h.b.trans k.b,fun i cs t fr q q1 q2=>k.k i cs t fr (h.k i cs t fr q q1 q2) q1 q2⟩
theorem Fr.below {B:Nat}{u v:World}(d:Bw u v) (hB:B<=u.heap.size):Fr B u v:=⟨d.mono hB,fun i cs t fr q _ _=>(d.block i (Array.getElem?_eq_some_iff.1 q).1).trans q⟩
theorem Fr.set {B g:Nat}{u v:World}{cs:Array Value}(h:Fr B u v) (hg:v.heap[g]?=some (.cells cs 42)) (hB:B<=g) (j:Nat) (x:Value):Fr B u (v.setCell ⟨g,j,none⟩ x):=
 ⟨h.b.setCell hB _,fun i c t fr q q1 q2=>(heap_setCell_other v ⟨g,j,none⟩ i _ (fun e=>by
  have:=h.k i c t fr q q1 q2;rw[show i=g from e,hg]at this;simp only[Option.some.injEq,Obj.cells.injEq]at this;exact q2 this.2.1.symm)).trans (h.k i c t fr q q1 q2)⟩
structure Wr (B g:Nat) (nv:Value) (ts:List UInt8) (u:World):Prop where
 ex:∃vo,u.heap[g]?=some (.cells #[nv,vo] 42)/\u.ownsRow B 5 1 vo ts.length (Pl.bl ts)
 ge:B<=g
theorem dK {B:Nat}{e:TypeId}{k:Nat}{v:Value}{n:Nat}{xs:List Value}{w w':World}(h:w.ownsRow B e k v n xs) (hb:∀g,v.ownBlock=some g->w'.heap[g]?=w.heap[g]?):w'.ownsRow B e k v n xs:=by
 refine⟨h.1,?_⟩;rcases h.2 with ⟨a,b⟩|⟨g,cap,cur,h0,hlo,hg,r⟩
 ·exact .inl ⟨a,b⟩
 ·exact .inr ⟨g,cap,cur,h0,hlo,(hb g (by rw[h0];rfl)).trans hg,r⟩
theorem Wr.lt {B g:Nat}{nv:Value}{ts:List UInt8}{u:World}(h:Wr B g nv ts u):g<u.heap.size:=by
 obtain⟨vo,h1,_⟩:=h.ex;exact (Array.getElem?_eq_some_iff.1 h1).1
theorem Wr.keep {B g:Nat}{nv:Value}{ts:List UInt8}{u u':World}(h:Wr B g nv ts u) (d:Bw u u'):Wr B g nv ts u':=by
 obtain⟨vo,h1,h2⟩:=h.ex;exact⟨⟨vo,(d.block g h.lt).trans h1,dK h2 fun k hk=>d.block k (h2.lt k hk).2⟩,h.ge⟩
theorem JI (w:World) (s:ByteArray) (j:Nat) (u:Value) (hj:(Pl.bl s.data.toList)[j]?=some u):(Lib.bytesWorld w 5 s).cell? ((⟨w.heap.size,0,none⟩:Addr).add j)=some u:=by
 have hl:j<s.data.toList.length:=by have:=(List.getElem?_eq_some_iff.1 hj).1;rwa [Pl.sO]at this
 have hl2:j<s.size:=by
  have:=hl;rw[Array.length_toList]at this;exact this
 have:=Lib.bytesWorld_cell w 5 s j hl2;simp only[Pl.bl,List.getElem?_map,List.getElem?_eq_getElem hl,Option.map_some,Option.some.injEq]at hj;rw[show (⟨w.heap.size,0,none⟩:Addr).add j=⟨w.heap.size,j,none⟩ by simp[Addr.add];omega,this,<- hj];simp only[List.getD,List.getElem?_eq_getElem hl,Option.getD_some]
theorem tY {B:Nat}{e:TypeId}{k:Nat}{v:Value}{n:Nat}{xs:List Value}{w:World}(h:w.ownsRow B e k v n xs):∃a c,v=.slice a n c:=by
 rcases h.2 with ⟨a,b⟩|⟨g,cap,cur,h0,_⟩
 ·exact⟨none,0,by rw[a,b]⟩
 ·exact⟨_,cap,h0⟩
theorem yR:(Tryz.prog.info? 5).map (fun i=>(i.zero,i.size,i.bytes))=some (some (.int .u8 0),1,1):=by kernel_rfl
theorem BB {P:Program}(w:World) (base:Nat) (t ty e:TypeId) (i:TypeInfo) (z:Value) (size bytes:Nat) (ht:P.underlying t=some (.slice e)) (hi:P.info? e=some i) (hz:i.zero=some z)
  (hsize:i.size=size) (hby:i.bytes=bytes) (hzs:z.cells.size=size) (hsz:0<size)
  (v:Value) (n:Nat) (xs:List Value) (hown:w.ownsRow base e size v n xs)
  (a:Addr) (m c:Nat) (news:List Value) (hl:news.length=m*size) (hnews:∀j u,news[j]?=some u->w.cell? (a.add j)=some u) (h1:∀u∈news,u.oneCell'=true)
  (h63:n+m<=maxLen) (hbytes:(n+m)*bytes<=140737488355328) (v':Value) (w':World) (hr:(Builtin.append_ #[t,t] ty #[v,.slice (some a) m c]).run P w=.ok v' w'):∀b,v'.ownBlock=some b->v.ownBlock=some b\/w.heap.size<=b:=by
 rcases hown.2 with ⟨rfl,rfl⟩|⟨g,cap,cur,rfl,hbg,hg,hnc,hcm,hcs,htake⟩
 ·obtain⟨v2,w2,hr2,ho,_,_⟩:=run_append_own (P:=P) w w.heap.size t ty e i z size bytes ht hi hz hsize hby hzs hsz _ 0 xs ⟨hown.1,.inl ⟨rfl,rfl⟩⟩ a m c news hl hnews h1 h63 hbytes (Nat.le_refl _);rw[hr]at hr2;cases hr2;exact fun b hb=>.inr (ho.lt b hb).1
 ·by_cases hroom:n+m<=cap
  ·subst hsize;have hfit:n*i.size+news.length<=cur.size:=(by rw[hl,hcs,<- Nat.add_mul];exact Nat.mul_le_mul_right _ hroom);have hr2:=run_append_room (P:=P) w t ty e i ht hi g n cap cur hg a m c news hl hnews h1 hroom hfit;rw[hr]at hr2;cases hr2;exact fun b hb=>.inl hb
  ·obtain⟨v2,w2,hr2,ho,_⟩:=run_append_arg_grows (P:=P) w t ty e i z size bytes ht hi hz hsize hby hzs hsz ⟨g,0,none⟩ n cap xs hown.1 (hown.cells (g:=g) rfl) a m c news hl hnews (by omega) h63 hbytes;rw[hr]at hr2;cases hr2;exact fun b hb=>.inr (ho.lt b hb).1
theorem wS {P:Program}(w:World){ops:Array Oper}{rest:List Oper}{o:Oper}{a:Act}{Q:Exit->Act->World->Prop}(hgd:o.guard=none) (s x:Operand) (t:TypeId)
  (ho:o.op=.call { callee:=.builtin .append,args:=#[s,x],argTypes:=#[t,t] })
  (base:Nat) (e:TypeId) (i:TypeInfo) (z:Value) (size bytes:Nat) (ht:P.underlying t=some (.slice e)) (hi:P.info? e=some i) (hz:i.zero=some z)
  (hsize:i.size=size) (hby:i.bytes=bytes) (hzs:z.cells.size=size) (hsz:0<size)
  (v:Value) (n:Nat) (xs:List Value) (hs:a.eval s=v) (hown:w.ownsRow base e size v n xs)
  (ad:Addr) (m c:Nat) (news:List Value) (hx:a.eval x=.slice (some ad) m c) (hl:news.length=m*size) (hnews:∀j u,news[j]?=some u->w.cell? (ad.add j)=some u) (h1:∀u∈news,u.oneCell'=true)
  (h63:n+m<=maxLen) (hbytes:(n+m)*bytes<=140737488355328) (hbase:base<=w.heap.size)
  (h:∀v' w',w'.ownsRow base e size v' (n+m) (xs++news)->w.grownBy w' v.ownBlock->(∀b,v'.ownBlock=some b->v.ownBlock=some b\/w.heap.size<=b)->wpList P ops Q rest (a.put o.dst v') w'):wpList P ops Q (o :: rest) a w:=by
 refine wpList_plain hgd fun K hK=>?_;obtain⟨v',w',hr,h2,h3,_⟩:=run_append_own (P:=P) w base t o.type e i z size bytes ht hi hz hsize hby hzs hsz v n xs hown ad m c news hl hnews h1 h63 hbytes hbase;have h4:=BB w base t o.type e i z size bytes ht hi hz hsize hby hzs hsz v n xs hown ad m c news hl hnews h1 h63 hbytes v' w' hr;unfold Oper.wp execOp;simp only[ho,resolve,invoke,builtin,Sem.run_bind,Sem.run_pure,Result.andThen_ok,List.map_toArray,List.map_cons,List.map_nil,hs,hx,hr];exact hK _ _ (h v' w' h2 h3 h4)
theorem qP {ops:Array Oper}{rest:List Oper}{o:Oper}{a:Act}{Q:Exit->Act->World->Prop}{u:World}{B g:Nat}{nv vo:Value}{ts:List UInt8}(zs:List UInt8) (hgd:o.guard=none) (s x:Operand)
  (ho:o.op=.call { callee:=.builtin .append,args:=#[s,x],argTypes:=#[26,26] }) (hs:a.eval s=vo) (ad:Addr) (m cp:Nat) (hx:a.eval x=.slice (some ad) m cp) (hm:zs.length=m) (hB:B<=u.heap.size)
  (tZ:u.heap[g]?=some (.cells #[nv,vo] 42)) (hown:u.ownsRow B 5 1 vo ts.length (Pl.bl ts)) (hnews:∀j u',(Pl.bl zs)[j]?=some u'->u.cell? (ad.add j)=some u') (hn:ts.length+m<=70368744177664)
  (h:∀a' n' c' u',n'=(ts++zs).length->u'.ownsRow B 5 1 (.slice a' n' c') (ts++zs).length (Pl.bl (ts++zs))->u'.heap[g]?=some (.cells #[nv,vo] 42)->Fr B u u'->(∀k,k<u.heap.size->vo.ownBlock≠some k->u'.heap[k]?=u.heap[k]?/\(Value.slice a' n' c').ownBlock≠some k)->wpList Tryz.prog ops Q rest (a.put o.dst (.slice a' n' c')) u'):wpList Tryz.prog ops Q (o :: rest) a u:=by
 obtain⟨i0,hi0,hz0,hz1,hz2⟩:=info_parts yR;refine wS _ hgd s x 26 ho B 5 i0 (.int .u8 0) 1 1 Tryz.underlying26 hi0 hz0 hz1 hz2 rfl (by decide) vo ts.length (Pl.bl ts) hs hown ad m cp (Pl.bl zs) hx (by rw[Pl.sO,hm,Nat.mul_one]) hnews (Pl.CY _) (by unfold maxLen;omega) (by omega) hB ?_;intro v' u' ho' hg hnw;have ho2:u'.ownsRow B 5 1 v' (ts++zs).length (Pl.bl (ts++zs)):=by rw[Pl.yQ,List.length_append,hm];exact ho'
 obtain⟨a',c',rfl⟩:=tY ho2;refine h a' _ c' u' rfl ho2 ((hg.block g (Array.getElem?_eq_some_iff.1 tZ).1 (fun q=>?_)).trans tZ) ⟨⟨hg.os,hg.tape,hg.output,hg.size,fun b hb=>hg.block b (by omega) (fun q=>?_)⟩,fun k cs t fr hk q1 q2=>(hg.block k (Array.getElem?_eq_some_iff.1 hk).1 (fun q=>?_)).trans hk⟩ (fun k hk q=>⟨hg.block k hk fun e=>q e.symm,fun e=>(hnw k e).elim q (fun r=>by omega)⟩)
 ·rcases hown.2 with ⟨rfl,_⟩|⟨g',cap,cur,rfl,_,hh,_⟩
  ·simp[Value.ownBlock]at q
  ·simp only[Value.ownBlock,Option.some.injEq]at q;subst q;rw[tZ]at hh;simp only[Option.some.injEq,Obj.cells.injEq]at hh;exact absurd hh.2.1 (by decide)
 ·have:=(hown.lt b q.symm).1;omega
 ·rcases hown.2 with ⟨rfl,_⟩|⟨g',cap,cur,rfl,_,hh,_⟩
  ·simp[Value.ownBlock]at q
  ·simp only[Value.ownBlock,Option.some.injEq]at q;subst q;rw[hk]at hh;simp only[Option.some.injEq,Obj.cells.injEq]at hh;exact q1 hh.2.1
def Asd (g k:Nat) (u:World):Prop:=k<u.heap.size/\k≠g/\∀nv vo,u.heap[g]?=some (.cells #[nv,vo] 42)->vo.ownBlock≠some k
def Kp (g:Nat) (u u':World):Prop:=∀k,Asd g k u->Asd g k u'/\u'.heap[k]?=u.heap[k]?
theorem Kp.refl (g:Nat) (u:World):Kp g u u:=fun _ h=>⟨h,rfl⟩
theorem Kp.trans {g:Nat}{u v w:World}(h:Kp g u v) (k:Kp g v w):Kp g u w:=fun i q=>⟨(k i (h i q).1).1,(k i (h i q).1).2.trans (h i q).2⟩
theorem Kp.below {g:Nat}{u v:World}(d:Bw u v) (hg:g<u.heap.size):Kp g u v:=fun k q=>⟨⟨Nat.lt_of_lt_of_le q.1 d.size,q.2.1,fun nv vo e=>q.2.2 nv vo ((d.block g hg).symm.trans e)⟩,d.block k q.1⟩
theorem Kp.put {B g:Nat}{nv vo v':Value}{u u':World}(hb:u.heap[g]?=some (.cells #[nv,vo] 42)) (hb':u'.heap[g]?=some (.cells #[nv,vo] 42)) (d:Fr B u u') (A:∀k,k<u.heap.size->vo.ownBlock≠some k->u'.heap[k]?=u.heap[k]?/\v'.ownBlock≠some k):Kp g u (u'.setCell ⟨g,1,none⟩ v'):=fun k q=>by
 have:=A k q.1 (q.2.2 nv vo hb);refine⟨⟨by rw[World.size_setCell];exact Nat.lt_of_lt_of_le q.1 d.b.size,q.2.1,fun nv2 OV e=>?_⟩,(heap_setCell_other u' ⟨g,1,none⟩ k _ q.2.1).trans this.1⟩;rw[heap_setCell_same u' g 1 _ 42 _ hb']at e;simp only[Option.some.injEq,Obj.cells.injEq]at e;have e2:=congrArg (fun x:Array Value=>x[1]?) e.1;simp at e2;rw[<- e2];exact this.2
def Pl.room:Nat:=1000000000
theorem Wr.put {B g:Nat}{nv vo v1:Value}{ts:List UInt8}{u1:World}(hb:u1.heap[g]?=some (.cells #[nv,vo] 42)) (ho:u1.ownsRow B 5 1 v1 ts.length (Pl.bl ts)) (hB:B<=g):Wr B g nv ts (u1.setCell ⟨g,1,none⟩ v1):=by
 refine⟨⟨v1,by rw[heap_setCell_same u1 g 1 _ 42 _ hb];rfl,dK ho fun k hk=>heap_setCell_other u1 ⟨g,1,none⟩ k _ (fun q=>?_)⟩,hB⟩;rcases ho.2 with ⟨rfl,_⟩|⟨g',cap,cur,rfl,_,hh,_⟩
 ·simp[Value.ownBlock]at hk
 ·simp only[Value.ownBlock,Option.some.injEq]at hk;subst hk;rw[show g'=g from q,hb]at hh;simp only[Option.some.injEq,Obj.cells.injEq]at hh;exact absurd hh.2.1 (by decide)
theorem OW (s:ByteArray) (c:UInt8):s.toList=[c]↔s=⟨#[c]⟩:=by
 rw[ByteArray.toList_eq];constructor
 ·intro q;obtain⟨d⟩:=s;congr 1;exact Array.toList_inj.1 q
 ·rintro rfl;rfl
theorem aG {P:Program}{code:Code}{Q:Exit->Act->World->Prop}{a:Act}{W:World}(h:∀U,U=W->code.wp P Q a U):code.wp P Q a W:=h W rfl
theorem Tv (w:World) (c:UInt8) (z:Int) (hz:(c.toNat:Int)=z) (j:Nat) (u:Value) (hj:(Pl.bl [c])[j]?=some u):(w.alloc (.cells #[.int .u8 z] 5)).cell? ((⟨w.heap.size,0,none⟩:Addr).add j)=some u:=by
 have:j=0:=by
  have:=(List.getElem?_eq_some_iff.1 hj).1;rw[Pl.sO]at this;simpa using this
 subst this;cases hj;show _=some (Value.int .u8 (c.toNat:Int));rw[hz];exact cell_of_row _ w.heap.size 0 _ 5 (0,0) (heap_alloc_new w _)
set_option maxRecDepth 8000 in
theorem Ki {B g:Nat}{nv:Value}{ts:List UInt8}(s:ByteArray) (u:World) (h:Wr B g nv ts u) (hn0:ts.length+s.size<=Pl.room):Calls Tryz.prog 30 #[.pointer (some ⟨g,0,none⟩),.string s] u fun e u'=>e=.returned (.tuple #[])/\Wr B g nv (ts++Pl.say s) u'/\Fr B u u'/\Kp g u u':=by
 have hn:ts.length+s.size<=1000000000:=hn0;clear hn0;obtain⟨vo,hb,ho⟩:=h.ex;have k0:u.cell? ⟨g,0,none⟩=some nv:=by rw[cell_of_row u g 0 _ 42 (0,0) hb];rfl
 have k1:u.cell? ⟨g,1,none⟩=some vo:=by rw[cell_of_row u g 1 _ 42 (0,0) hb];rfl
 have hcv:∀(u:World) (t:ByteArray),(convert 9 26 (.string t)).run Tryz.prog u=.ok (.slice (some ⟨u.heap.size,0,none⟩) t.size (grownCap u t.size 0 5)) (Lib.bytesWorld u 5 t):=fun u t=>Lib.run_convert_string_bytes u 9 26 5 t Tryz.underlying9 Tryz.underlying26 Tryz.underlying5;have HB1:Hid (u.heap[g]?=some (.cells #[nv,vo] 42)):=hb;have HO1:Hid (u.ownsRow B 5 1 vo ts.length (Pl.bl ts)):=ho;have Ct:Hid (B<=g):=h.ge;have Kj:Hid (g<u.heap.size):=h.lt;have HN:Hid (ts.length+s.size<=1000000000):=hn;clear h hb ho hn;go_enter Tryz.func30,Tryz.ntmps30;go_upto_region 1 with (at_builtin;refine qP s.data.toList rfl _ _ rfl rfl ⟨u.heap.size,0,none⟩ _ _ rfl (Array.length_toList ..) (by have:=Ct.o;have:=Kj.o;rw[Lib.bytesWorld_size];omega) ((Lib.bytesWorld_at_old u 5 s g Kj.o).trans HB1.o) (dK HO1.o fun k hk=>Lib.bytesWorld_at_old u 5 s k (HO1.o.lt k hk).2) (JI u s) (by have:=HN.o;show ts.length+s.size<=_;omega) fun a1 n1 q1 u1 e1 o1 b1 d1 A1=>?_;have P0:Hid (Kp g u (u1.setCell ⟨g,1,none⟩ (.slice a1 n1 q1))):=(Kp.below (Joins.below_bytesWorld _ u 5 s (Nat.le_refl _)) Kj.o).trans (Kp.put ((Lib.bytesWorld_at_old u 5 s g Kj.o).trans HB1.o) b1 d1 A1);clear A1;have K1:∀j,u1.cell? ⟨g,j,none⟩=(#[nv,vo]:Array Value)[j]?:=(fun j=>cell_of_row u1 g j _ 42 (0,0) b1);have F1:∀j,u1.frozen? ⟨g,j,none⟩=false:=(fun j=>frozen_of_row u1 g j _ 42 b1);have W0:Hid (Wr B g nv (ts++s.data.toList) (u1.setCell ⟨g,1,none⟩ (.slice a1 n1 q1))):=Wr.put b1 o1 Ct.o;have D0:Hid (Fr B u (u1.setCell ⟨g,1,none⟩ (.slice a1 n1 q1))):=((Fr.below (Joins.below_bytesWorld _ u 5 s (Nat.le_refl _)) (Nat.le_trans Ct.o (Nat.le_of_lt Kj.o))).trans d1).set b1 Ct.o _ _;clear o1 b1 d1 e1)
 refine aG fun y hy=>?_;have W1:Hid (Wr B g nv (ts++s.data.toList) y):=by show Wr B g nv (ts++s.data.toList) y;rw[hy];exact W0.o
 have D1:Hid (Fr B u y):=by show Fr B u y;rw[hy];exact D0.o
 have P1:Hid (Kp g u y):=by show Kp g u y;rw[hy];exact P0.o
 clear hy W0 D0 P0 K1 F1 k0 k1 hcv HB1 HO1;by_cases hs:s=⟨#[59]⟩\/s=⟨#[123]⟩\/s=⟨#[125]⟩
 ·have VT:Pl.say s=s.data.toList++[10]:=by unfold Pl.say;rw[if_pos hs]
  have hm:s.toList=[59]\/(¬s.toList=[59]/\s.toList=[123])\/(¬s.toList=[59]/\¬s.toList=[123]/\s.toList=[125]):=by
   rcases hs with rfl|rfl|rfl
   ·exact .inl ((OW _ _).2 rfl)
   ·exact .inr (.inl ⟨fun q=>absurd ((OW _ _).1 q) (by decide),(OW _ _).2 rfl⟩)
   ·exact .inr (.inr ⟨fun q=>absurd ((OW _ _).1 q) (by decide),fun q=>absurd ((OW _ _).1 q) (by decide),(OW _ _).2 rfl⟩)
  clear hs;rcases hm with m1|⟨m1,m2⟩|⟨m1,m2,m3⟩;all_goals
   have S1:Hid (Wr B g nv (ts++s.data.toList) y):=W1.o;obtain⟨OV,hb2,ho2⟩:=S1.o.ex;have j0:y.cell? ⟨g,0,none⟩=some nv:=(by rw[cell_of_row y g 0 _ 42 (0,0) hb2];rfl);have j1:y.cell? ⟨g,1,none⟩=some OV:=(by rw[cell_of_row y g 1 _ 42 (0,0) hb2];rfl);have ZG:Hid (g<y.heap.size/\B<=y.heap.size):=⟨S1.o.lt,Nat.le_trans S1.o.ge (Nat.le_of_lt S1.o.lt)⟩;have HB2:Hid (y.heap[g]?=some (.cells #[nv,OV] 42)):=hb2;have Iu:Hid (y.ownsRow B 5 1 OV (ts++s.data.toList).length (Pl.bl (ts++s.data.toList))):=ho2;clear hb2 ho2;go_wp2_with (at_builtin;refine qP [10] rfl _ _ rfl rfl ⟨y.heap.size,0,none⟩ 1 1 rfl rfl (by have:=ZG.o.2;simp;omega) ((Below.heap_alloc y _ g ZG.o.1).trans HB2.o) (dK Iu.o fun k hk=>Below.heap_alloc y _ k (Iu.o.lt k hk).2) (Tv y 10 10 (by decide)) (by have:=HN.o;rw[List.length_append,Array.length_toList];show ts.length+s.size+1<=_;omega) fun a3 n3 q3 u3 e3 o3 b3 d3 A3=>?_;have P3:Hid (Kp g u (u3.setCell ⟨g,1,none⟩ (.slice a3 n3 q3))):=P1.o.trans ((Kp.below (aA y _) ZG.o.1).trans (Kp.put ((Below.heap_alloc y _ g ZG.o.1).trans HB2.o) b3 d3 A3));clear A3;have K3:∀j,u3.cell? ⟨g,j,none⟩=(#[nv,OV]:Array Value)[j]?:=(fun j=>cell_of_row u3 g j _ 42 (0,0) b3);have F3:∀j,u3.frozen? ⟨g,j,none⟩=false:=(fun j=>frozen_of_row u3 g j _ 42 b3);have W3:Hid (Wr B g nv (ts++s.data.toList++[10]) (u3.setCell ⟨g,1,none⟩ (.slice a3 n3 q3))):=Wr.put b3 o3 Ct.o;have D3:Hid (Fr B u (u3.setCell ⟨g,1,none⟩ (.slice a3 n3 q3))):=((D1.o.trans (Fr.below (aA y _) ZG.o.2)).trans d3).set b3 Ct.o _ _;clear o3 b3 d3 e3)
   go_end0;exact⟨rfl,by rw[VT,<- List.append_assoc];exact W3.o,D3.o,P3.o⟩
 ·have VT:Pl.say s=s.data.toList++[32]:=by unfold Pl.say;rw[if_neg hs]
  have n1:(s.toList == [59])=false:=beq_eq_false_iff_ne.2 (fun q=>hs (.inl ((OW _ _).1 q)));have n2:(s.toList == [123])=false:=beq_eq_false_iff_ne.2 (fun q=>hs (.inr (.inl ((OW _ _).1 q))));have n3:(s.toList == [125])=false:=beq_eq_false_iff_ne.2 (fun q=>hs (.inr (.inr ((OW _ _).1 q))));clear hs;have S1:Hid (Wr B g nv (ts++s.data.toList) y):=W1.o;obtain⟨OV,hb2,ho2⟩:=S1.o.ex;have j0:y.cell? ⟨g,0,none⟩=some nv:=by rw[cell_of_row y g 0 _ 42 (0,0) hb2];rfl
  have j1:y.cell? ⟨g,1,none⟩=some OV:=by rw[cell_of_row y g 1 _ 42 (0,0) hb2];rfl
  have ZG:Hid (g<y.heap.size/\B<=y.heap.size):=⟨S1.o.lt,Nat.le_trans S1.o.ge (Nat.le_of_lt S1.o.lt)⟩;have HB2:Hid (y.heap[g]?=some (.cells #[nv,OV] 42)):=hb2;have Iu:Hid (y.ownsRow B 5 1 OV (ts++s.data.toList).length (Pl.bl (ts++s.data.toList))):=ho2;clear hb2 ho2;go_wp2_with (at_builtin;refine qP [32] rfl _ _ rfl rfl ⟨y.heap.size,0,none⟩ 1 1 rfl rfl (by have:=ZG.o.2;simp;omega) ((Below.heap_alloc y _ g ZG.o.1).trans HB2.o) (dK Iu.o fun k hk=>Below.heap_alloc y _ k (Iu.o.lt k hk).2) (Tv y 32 32 (by decide)) (by have:=HN.o;rw[List.length_append,Array.length_toList];show ts.length+s.size+1<=_;omega) fun a3 n3 q3 u3 e3 o3 b3 d3 A3=>?_;have P3:Hid (Kp g u (u3.setCell ⟨g,1,none⟩ (.slice a3 n3 q3))):=P1.o.trans ((Kp.below (aA y _) ZG.o.1).trans (Kp.put ((Below.heap_alloc y _ g ZG.o.1).trans HB2.o) b3 d3 A3));clear A3;have K3:∀j,u3.cell? ⟨g,j,none⟩=(#[nv,OV]:Array Value)[j]?:=(fun j=>cell_of_row u3 g j _ 42 (0,0) b3);have F3:∀j,u3.frozen? ⟨g,j,none⟩=false:=(fun j=>frozen_of_row u3 g j _ 42 b3);have W3:Hid (Wr B g nv (ts++s.data.toList++[32]) (u3.setCell ⟨g,1,none⟩ (.slice a3 n3 q3))):=Wr.put b3 o3 Ct.o;have D3:Hid (Fr B u (u3.setCell ⟨g,1,none⟩ (.slice a3 n3 q3))):=((D1.o.trans (Fr.below (aA y _) ZG.o.2)).trans d3).set b3 Ct.o _ _;clear o3 b3 d3 e3)
  go_end0;exact⟨rfl,by rw[VT,<- List.append_assoc];exact W3.o,D3.o,P3.o⟩
end W
namespace Pl
abbrev nd (xs:List Nd) (i:Nat):Nd:=xs.getD i Nd.zero
def tK (bg:List Nat) (ks:List Int) (i:Nat):Nat->Option Nat
 | 0=>some i
 | j+1=>match tK bg ks i j with
  | none=>none
  | some a=>if 1<=a/\ks.getD (ks.length-1-j) 0=(a:Int)-1 then some (bg.getD (a-1) 0) else none
def vP (xs:List Nd):Nat->Option (List Nat)
 | 0=>some []
 | i+1=>match vP xs i with
  | none=>none
  | some l=>match tK l (nd xs i).kids i (nd xs i).kids.length with
   | none=>none
   | some b=>some (l++[b])
theorem xM {bg:List Nat}{ks:List Int}{i j a:Nat}(h:tK bg ks i j=some a):tK bg ks i (j+1)=if 1<=a/\ks.getD (ks.length-1-j) 0=(a:Int)-1 then some (bg.getD (a-1) 0) else none:=by
 show (match tK bg ks i j with|none=>none|some a=>_)=_;rw[h]
theorem Ab {bg:List Nat}{ks:List Int}{i j a:Nat}(h:tK bg ks i j=some a) (h1:1<=a) (h2:ks.getD (ks.length-1-j) 0=(a:Int)-1):tK bg ks i (j+1)=some (bg.getD (a-1) 0):=by
 rw[xM h,if_pos ⟨h1,h2⟩]
theorem tL {bg:List Nat}{ks:List Int}{i j b:Nat}(h:tK bg ks i (j+1)=some b):∃a,tK bg ks i j=some a/\1<=a/\ks.getD (ks.length-1-j) 0=(a:Int)-1/\b=bg.getD (a-1) 0:=by
 cases e:tK bg ks i j with
 | none=>
  have:tK bg ks i (j+1)=none:=by
   show (match tK bg ks i j with|none=>none|some a=>_)=_;rw[e]
  rw[this]at h;cases h
 | some a=>
  rw[xM e]at h;split at h
  ·rename_i q;exact⟨a,rfl,q.1,q.2,by cases h;rfl⟩
  ·cases h
theorem CZ {bg:List Nat}{ks:List Int}{i j:Nat}(h:tK bg ks i j=none):∀k,j<=k->tK bg ks i k=none:=by
 intro k hk
 induction k with
 | zero=>
  have:j=0:=by omega
  subst this;exact h
 | succ k ih=>
  by_cases e:j=k+1
  ·subst e;exact h
  ·show (match tK bg ks i k with|none=>none|some a=>_)=_;rw[ih (by omega)]
theorem PN {bg:List Nat}{ks:List Int}{i j b:Nat}(h:tK bg ks i j=some b){k:Nat}(hk:k<=j):∃a,tK bg ks i k=some a:=by
 cases e:tK bg ks i k with
 | none=>rw[CZ e j hk]at h;cases h
 | some a=>exact⟨a,rfl⟩
theorem DD {xs:List Nd}{i:Nat}{l:List Nat}(h:vP xs i=some l){b:Nat}(hb:tK l (nd xs i).kids i (nd xs i).kids.length=some b):vP xs (i+1)=some (l++[b]):=by
 show (match vP xs i with|none=>none|some l=>_)=_;rw[h];show (match tK l (nd xs i).kids i (nd xs i).kids.length with|none=>none|some b=>_)=_;rw[hb]
theorem KT {xs:List Nd}{i:Nat}{l:List Nat}(h:vP xs i=some l) (hb:tK l (nd xs i).kids i (nd xs i).kids.length=none):vP xs (i+1)=none:=by
 show (match vP xs i with|none=>none|some l=>_)=_;rw[h];show (match tK l (nd xs i).kids i (nd xs i).kids.length with|none=>none|some b=>_)=_;rw[hb]
theorem DI {xs:List Nd}{i:Nat}(h:vP xs i=none):∀k,i<=k->vP xs k=none:=by
 intro k hk
 induction k with
 | zero=>
  have:i=0:=by omega
  subst this;exact h
 | succ k ih=>
  by_cases e:i=k+1
  ·subst e;exact h
  ·show (match vP xs k with|none=>none|some l=>_)=_;rw[ih (by omega)]
theorem DJ {xs:List Nd}{i:Nat}{l:List Nat}(h:vP xs (i+1)=some l):∃l0 b,vP xs i=some l0/\tK l0 (nd xs i).kids i (nd xs i).kids.length=some b/\l=l0++[b]:=by
 cases e:vP xs i with
 | none=>rw[DI e (i+1) (by omega)]at h;cases h
 | some l0=>
  cases e2:tK l0 (nd xs i).kids i (nd xs i).kids.length with
  | none=>rw[KT e e2]at h;cases h
  | some b=>rw[DD e e2]at h;cases h;exact⟨l0,b,rfl,e2,rfl⟩
theorem KU {xs:List Nd}:∀ {i:Nat}{l:List Nat},vP xs i=some l->l.length=i
 | 0,l,h=>by cases h;rfl
 | i+1,l,h=>by
  obtain⟨l0,b,h0,_,rfl⟩:=DJ h;simp[KU h0]
structure qQ (xs:List Nd) (n:Nat) (l:List Nat):Prop where
 le:∀p,p<n->l.getD p 0<=p
 kid:∀p,p<n->∀c∈(nd xs p).kids,∃k:Nat,c=(k:Int)/\k<p/\l.getD p 0<=l.getD k 0
 Tw:∀p,p<n->∀c,l.getD p 0<=c->c<p->∃k:Nat,(k:Int)∈(nd xs p).kids/\l.getD k 0<=c/\c<=k/\k<p
 sep:∀p,p<n->∀c d:Nat,(c:Int)∈(nd xs p).kids->(d:Int)∈(nd xs p).kids->c<d->c<l.getD d 0
 few:∀p,p<n->(nd xs p).kids.length<=p
 last:∀p,p<n->(nd xs p).kids≠[]->1<=p/\(nd xs p).kids.getD ((nd xs p).kids.length-1) 0=(p:Int)-1
theorem uX {l:List Nat}{b p:Nat}(h:p<l.length):(l++[b]).getD p 0=l.getD p 0:=by
 rw[List.getD_eq_getElem?_getD,List.getD_eq_getElem?_getD,List.getElem?_append_left h]
theorem uY {l:List Nat}{b:Nat}:(l++[b]).getD l.length 0=b:=by
 rw[List.getD_eq_getElem?_getD,List.getElem?_append_right (Nat.le_refl _)];simp
theorem uA {bg:List Nat}{ks:List Int}{i:Nat}(hb:∀p,p<i->bg.getD p 0<=p):∀ {j a:Nat},tK bg ks i j=some a->a+j<=i
 | 0,a,h=>by cases h;omega
 | j+1,a,h=>by
  obtain⟨a',h1,h2,_,rfl⟩:=tL h;have:=uA hb h1;have:=hb (a'-1) (by omega);omega
theorem DK {bg:List Nat}{ks:List Int}{i:Nat}(hb:∀p,p<i->bg.getD p 0<=p){j k a b:Nat}(ha:tK bg ks i j=some a) (hk:tK bg ks i k=some b) (h:j<=k):b<=a:=by
 induction k generalizing b with
 | zero=>
  have:j=0:=by omega
  subst this;rw[ha]at hk;cases hk;omega
 | succ k ih=>
  by_cases e:j=k+1
  ·subst e;rw[ha]at hk;cases hk;omega
  ·obtain⟨b',h1,h2,_,rfl⟩:=tL hk;have h3:=ih h1 (by omega);have h4:=uA hb h1;have:=hb (b'-1) (by omega);omega
theorem PO {bg:List Nat}{ks:List Int}{i:Nat}(hb:∀p,p<i->bg.getD p 0<=p):∀ {j a:Nat},tK bg ks i j=some a->j<=ks.length->∀c,a<=c->c<i->∃k:Nat,(k:Int)∈ks/\bg.getD k 0<=c/\c<=k/\k<i
 | 0,a,h,_,c,h1,h2=>by cases h;omega
 | j+1,a,h,hj,c,h1,h2=>by
  obtain⟨a',q1,q2,q3,rfl⟩:=tL h;by_cases e:a'<=c
  ·exact PO hb q1 (by omega) c e h2
  ·have:=uA hb q1;refine⟨a'-1,?_,h1,by omega,by omega⟩;have hm:ks.getD (ks.length-1-j) 0∈ks:=by
    rw[List.getD_eq_getElem?_getD,List.getElem?_eq_getElem (by omega)];exact List.getElem_mem _
   rw[q3]at hm;have:((a'-1:Nat):Int)=(a':Int)-1:=(by omega);rw[this];exact hm
theorem KV {bg:List Nat}{ks:List Int}{i b:Nat}(hb:∀p,p<i->bg.getD p 0<=p) (h:tK bg ks i ks.length=some b){c:Int}(hc:c∈ks) :
  ∃(j a:Nat),j<ks.length/\tK bg ks i j=some a/\1<=a/\c=(a:Int)-1/\tK bg ks i (j+1)=some (bg.getD (a-1) 0):=by
 obtain⟨q,hq,rfl⟩:=List.getElem_of_mem hc;obtain⟨b',hb'⟩:=PN h (show (ks.length-1-q)+1<=ks.length by omega);obtain⟨a,h1,h2,h3,h4⟩:=tL hb';refine⟨ks.length-1-q,a,by omega,h1,h2,?_,by rw[hb',h4]⟩;have e:ks.length-1-(ks.length-1-q)=q:=by omega
 rw[e,List.getD_eq_getElem?_getD,List.getElem?_eq_getElem hq]at h3;exact h3
theorem yS {xs:List Nd}:∀ {n:Nat}{l:List Nat},vP xs n=some l->qQ xs n l
 | 0,l,h=>⟨fun p hp=>absurd hp (Nat.not_lt_zero _),fun p hp=>absurd hp (Nat.not_lt_zero _),fun p hp=>absurd hp (Nat.not_lt_zero _),fun p hp=>absurd hp (Nat.not_lt_zero _),fun p hp=>absurd hp (Nat.not_lt_zero _),fun p hp=>absurd hp (Nat.not_lt_zero _)⟩
 | n+1,l,h=>by
  obtain⟨l0,b,h0,hw,rfl⟩:=DJ h;have O:=yS h0;have hl:=KU h0;have g:∀p,p<n->(l0++[b]).getD p 0=l0.getD p 0:=fun p hp=>uX (by omega);have gn:(l0++[b]).getD n 0=b:=by rw[<- hl];exact uY
  have hb:=O.le;have few:(nd xs n).kids.length<=n:=by have:=uA hb hw;omega
  refine⟨fun p hp=>?_,fun p hp c hc=>?_,fun p hp c h1 h2=>?_,fun p hp c d hc hd hcd=>?_,fun p hp=>?_,fun p hp hne=>?_⟩
  ·by_cases e:p=n
   ·subst e;rw[gn];have:=uA hb hw;omega
   ·rw[g p (by omega)];exact hb p (by omega)
  ·by_cases e:p=n
   ·subst e;obtain⟨j,a,hj,q1,q2,q3,q4⟩:=KV hb hw hc;have h3:=uA hb q1;refine⟨a-1,by omega,by omega,?_⟩;rw[gn,g _ (by omega)];exact DK hb q4 hw (by omega)
   ·obtain⟨k,h1,h2,h3⟩:=O.kid p (by omega) c hc;exact⟨k,h1,h2,by rw[g p (by omega),g k (by omega)];exact h3⟩
  ·by_cases e:p=n
   ·subst e;rw[gn]at h1;obtain⟨k,q1,q2,q3,q4⟩:=PO hb hw (Nat.le_refl _) c h1 h2;exact⟨k,q1,by rw[g k q4];exact q2,q3,q4⟩
   ·rw[g p (by omega)]at h1;obtain⟨k,q1,q2,q3,q4⟩:=O.Tw p (by omega) c h1 h2;exact⟨k,q1,by rw[g k (by omega)];exact q2,q3,q4⟩
  ·by_cases e:p=n
   ·subst e;obtain⟨j,a,hj,q1,q2,q3,q4⟩:=KV hb hw hc;obtain⟨j',a',hj',r1,r2,r3,r4⟩:=KV hb hw hd;have h3:=uA hb r1;have ec:c=a-1:=(by omega);have ed:d=a'-1:=(by omega);rw[g d (by omega),ed];have hjj:j'<j:=by
     rcases Nat.lt_or_ge j' j with q|q
     ·exact q
     ·have:=DK hb q1 r1 q;omega
    have:=DK hb r4 q1 (by omega);omega
   ·have hd':=hd;obtain⟨k,h1,h2,_⟩:=O.kid p (by omega) d hd';rw[g d (by omega)];exact O.sep p (by omega) c d hc hd hcd
  ·by_cases e:p=n
   ·subst e;exact few
   ·exact O.few p (by omega)
  ·by_cases e:p=n
   ·subst e;have hpos:0<(nd xs p).kids.length:=List.length_pos_iff.mpr hne;obtain⟨b',hb'⟩:=PN hw (show 0+1<=(nd xs p).kids.length by omega);obtain⟨a,h1,h2,h3,h4⟩:=tL hb';cases h1;exact⟨h2,by simpa using h3⟩
   ·exact O.last p (by omega) hne
theorem qQ.lam {xs:List Nd}{n:Nat}{l:List Nat}(O:qQ xs n l):∀(d:Nat),d<n->∀i,l.getD d 0<=i->i<=d->l.getD d 0<=l.getD i 0:=by
 intro d
 induction d using Nat.strongRecOn with
 | ind d ih=>
  intro hd i h1 h2;by_cases e:i=d
  ·subst e;exact Nat.le_refl _
  ·obtain⟨k,q1,q2,q3,q4⟩:=O.Tw d hd i h1 (by omega);have:=ih k q4 (by omega) i q2 q3;obtain⟨k',r1,r2,r3⟩:=O.kid d hd _ q1;have:k'=k:=(by omega);subst this;omega
theorem qQ.uniq {xs:List Nd}{n:Nat}{l:List Nat}(O:qQ xs n l){i j c:Nat}(hi:i<n) (hj:j<n) (h1:(c:Int)∈(nd xs i).kids) (h2:(c:Int)∈(nd xs j).kids):i=j:=by
 have key:∀i j,i<n->j<n->(c:Int)∈(nd xs i).kids->(c:Int)∈(nd xs j).kids->¬i<j:=by
  intro i j hi hj h1 h2 hlt;obtain⟨k1,e1,q1,r1⟩:=O.kid i hi _ h1;obtain⟨k2,e2,q2,r2⟩:=O.kid j hj _ h2;have:k1=c:=by omega
  subst this;have:k2=k1:=by omega
  subst this;have hc:=O.le k2 (by omega);obtain⟨d,s1,s2,s3,s4⟩:=O.Tw j hj i (by omega) hlt;have s5:=O.sep j hj k2 d h2 s1 (by omega);have s6:=O.lam d (by omega) i s2 s3;omega
 rcases Nat.lt_trichotomy i j with q|q|q
 ·exact absurd q (key i j hi hj h1 h2)
 ·exact q
 ·exact absurd q (key j i hj hi h2 h1)
theorem qQ.cover {xs:List Nd}{n:Nat}{l:List Nat}(O:qQ xs n l):∀(d:Nat),d<n->∀c,l.getD d 0<=c->c<d->∃p,p<=d/\(c:Int)∈(nd xs p).kids:=by
 intro d
 induction d using Nat.strongRecOn with
 | ind d ih=>
  intro hd c h1 h2;obtain⟨k,q1,q2,q3,q4⟩:=O.Tw d hd c h1 h2;by_cases e:c=k
  ·subst e;exact⟨d,Nat.le_refl _,q1⟩
  ·obtain⟨p,r1,r2⟩:=ih k q4 (by omega) c q2 (by omega);exact⟨p,by omega,r2⟩
def hij (tl:List Nat) (ks:List Int):Nat->Nat
 | 0=>0
 | j+1=>Nat.max (hij tl ks j) (tl.getD (ks.getD (ks.length-1-j) 0).toNat 0+1)
def oW (xs:List Nd):Nat->List Nat
 | 0=>[]
 | i+1=>oW xs i++[hij (oW xs i) (nd xs i).kids (nd xs i).kids.length]
theorem BN (xs:List Nd):∀i,(oW xs i).length=i
 | 0=>rfl
 | i+1=>by show (oW xs i++[_]).length=_;simp[BN xs i]
theorem wT (xs:List Nd){n:Nat}:∀ {i:Nat},i<n->(oW xs n).getD i 0=hij (oW xs i) (nd xs i).kids (nd xs i).kids.length:=by
 induction n with
 | zero=>intro i h;omega
 | succ n ih=>
  intro i h;show (oW xs n++[_]).getD i 0=_;by_cases e:i=n
  ·subst e;have:=uY (l:=oW xs i) (b:=hij (oW xs i) (nd xs i).kids (nd xs i).kids.length);rw[BN]at this;exact this
  ·rw[uX (by rw[BN];omega)];exact ih (by omega)
theorem Ac (xs:List Nd){n m i:Nat}(h1:i<n) (h2:i<m):(oW xs n).getD i 0=(oW xs m).getD i 0:=by rw[wT xs h1,wT xs h2]
theorem Kl (tl:List Nat) (ks:List Int):∀ {j q:Nat},q<j->tl.getD (ks.getD (ks.length-1-q) 0).toNat 0+1<=hij tl ks j
 | 0,q,h=>by omega
 | j+1,q,h=>by
  show _<=Nat.max (hij tl ks j) _;by_cases e:q=j
  ·subst e;exact Nat.le_max_right _ _
  ·exact Nat.le_trans (Kl tl ks (by omega)) (Nat.le_max_left _ _)
theorem PQ (tl:List Nat) (ks:List Int):∀j,hij tl ks j=0\/∃q,q<j/\hij tl ks j=tl.getD (ks.getD (ks.length-1-q) 0).toNat 0+1
 | 0=>.inl rfl
 | j+1=>by
  right;show ∃q,q<j+1/\Nat.max (hij tl ks j) _=_;rcases Nat.le_total (hij tl ks j) (tl.getD (ks.getD (ks.length-1-j) 0).toNat 0+1) with h|h
  ·exact⟨j,by omega,Nat.max_eq_right h⟩
  ·rcases PQ tl ks j with e|⟨q,h1,h2⟩
   ·omega
   ·exact⟨q,by omega,by rw[show Nat.max (hij tl ks j) _=hij tl ks j from Nat.max_eq_left h];exact h2⟩
theorem nN {ks:List Int}{q:Nat}(h:q<ks.length):ks.getD q 0∈ks:=by
 rw[List.getD_eq_getElem?_getD,List.getElem?_eq_getElem h];exact List.getElem_mem _
theorem xN {ks:List Int}{c:Int}(h:c∈ks):∃q,q<ks.length/\ks.getD q 0=c:=by
 obtain⟨q,hq,e⟩:=List.getElem_of_mem h;exact⟨q,hq,by rw[List.getD_eq_getElem?_getD,List.getElem?_eq_getElem hq];exact e⟩
inductive yT (xs:List Nd) (n:Nat):Nat->Nat->Prop
 | top {c:Nat}:c<n->(∀p,p<n->(c:Int) ∉ (nd xs p).kids)->yT xs n c 0
 | kid {p c d:Nat}:p<n->c<n->(c:Int)∈(nd xs p).kids->yT xs n p d->yT xs n c (d+1)
section
variable {xs:List Nd}{n:Nat}{l:List Nat}
theorem yT.lt {c d:Nat}(h:yT xs n c d):c<n:=by cases h <;> assumption
theorem yT.fn (O:qQ xs n l){c d:Nat}(h:yT xs n c d):∀ {d'},yT xs n c d'->d=d':=by
 induction h with
 | top hc hn=>
  intro d' h';cases h' with
  | top=>rfl
  | kid hp _ hk _=>exact absurd hk (hn _ hp)
 | kid hp hc hk h0 ih=>
  intro d' h';cases h' with
  | top _ hn=>exact absurd hk (hn _ hp)
  | kid hp' _ hk' h0'=>
   have:=O.uniq hp hp' hk hk';subst this;rw[ih h0']
theorem Km (O:qQ xs n l):∀(m c:Nat),c<n->n-c<=m->∃d,yT xs n c d
 | 0,c,h,hm=>by omega
 | m+1,c,h,hm=>by
  by_cases e:∃p,p<n/\(c:Int)∈(nd xs p).kids
  ·obtain⟨p,hp,hk⟩:=e;obtain⟨k,h1,h2,_⟩:=O.kid p hp _ hk;obtain⟨d,hd⟩:=Km O m p hp (by omega);exact⟨d+1,.kid hp h hk hd⟩
  ·exact⟨0,.top h fun p hp hk=>e ⟨p,hp,hk⟩⟩
theorem Kn (O:qQ xs n l){p c:Nat}(hp:p<n) (hk:(c:Int)∈(nd xs p).kids):(oW xs n).getD c 0+1<=(oW xs n).getD p 0:=by
 obtain⟨k,h1,h2,_⟩:=O.kid p hp _ hk;have:k=c:=by omega
 subst this;rw[wT xs hp,Ac xs (show k<n by omega) h2];obtain⟨q,hq,e⟩:=xN hk;have h:=Kl (oW xs p) (nd xs p).kids (j:=(nd xs p).kids.length) (q:=(nd xs p).kids.length-1-q) (by omega);rw[show (nd xs p).kids.length-1-((nd xs p).kids.length-1-q)=q by omega,e]at h;simpa using h
theorem Cu (O:qQ xs n l){p:Nat}(hp:p<n):(oW xs n).getD p 0=0\/∃c:Nat,c<p/\(c:Int)∈(nd xs p).kids/\(oW xs n).getD p 0=(oW xs n).getD c 0+1:=by
 rw[wT xs hp];rcases PQ (oW xs p) (nd xs p).kids (nd xs p).kids.length with e|⟨q,h1,h2⟩
 ·exact .inl e
 ·right;have hm:(nd xs p).kids.getD ((nd xs p).kids.length-1-q) 0∈(nd xs p).kids:=by
   rw[List.getD_eq_getElem?_getD,List.getElem?_eq_getElem (by omega)];exact List.getElem_mem _
  obtain⟨k,e1,e2,_⟩:=O.kid p hp _ hm;rw[e1]at hm h2;refine⟨k,e2,hm,?_⟩;rw[h2,Ac xs (show k<n by omega) e2];simp
theorem aBq (O:qQ xs n l){c d:Nat}(h:yT xs n c d):∃r,r<n/\d+(oW xs n).getD c 0<=(oW xs n).getD r 0:=by
 induction h with
 | top hc hn=>exact⟨_,hc,by omega⟩
 | kid hp hc hk h0 ih=>
  obtain⟨r,h1,h2⟩:=ih;have:=Kn O hp hk;exact⟨r,h1,by omega⟩
theorem Ko (O:qQ xs n l):∀(i:Nat),i<n->∀d,yT xs n i d->∃c,yT xs n c (d+(oW xs n).getD i 0):=by
 intro i
 induction i using Nat.strongRecOn with
 | ind i ih=>
  intro hi d hd;rcases Cu O hi with e|⟨c,h1,h2,h3⟩
  ·exact⟨i,by rw[e];exact hd⟩
  ·obtain⟨c',hc'⟩:=ih c h1 (by omega) (d+1) (.kid hi (by omega) h2 hd);exact⟨c',by rw[h3,show d+((oW xs n).getD c 0+1)=d+1+(oW xs n).getD c 0 by omega];exact hc'⟩
theorem PR (O:qQ xs n l) (M:Nat):(∃c d,yT xs n c d/\M<d)↔∃i,i<n/\M<(oW xs n).getD i 0:=by
 constructor
 ·rintro⟨c,d,h,hM⟩;obtain⟨r,h1,h2⟩:=aBq O h;exact⟨r,h1,by omega⟩
 ·rintro⟨i,hi,hM⟩;obtain⟨d,hd⟩:=Km O n i hi (by omega);obtain⟨c,hc⟩:=Ko O i hi d hd;exact⟨c,_,hc,by omega⟩
def Kq (xs:List Nd) (n a:Nat) (st:List Nat):Prop:=
 st.length=n/\∀c,c<n->(∀p,a<=p->p<n->(c:Int)∈(nd xs p).kids->∃d,yT xs n p d/\st.getD c 0=d+1)/\((∀p,a<=p->p<n->(c:Int) ∉ (nd xs p).kids)->st.getD c 0=0)
theorem Kq.init (xs:List Nd) (n:Nat):Kq xs n n (List.replicate n 0):=
 ⟨by simp,fun c hc=>⟨fun p h1 h2=>by omega,fun _=>by rw[List.getD_eq_getElem?_getD,List.getElem?_replicate,if_pos hc];rfl⟩⟩
theorem Kq.dep (O:qQ xs n l){a:Nat}{st:List Nat}(h:Kq xs n (a+1) st) (ha:a<n):yT xs n a (st.getD a 0):=by
 obtain⟨h1,h2⟩:=h.2 a ha;by_cases e:∃p,a+1<=p/\p<n/\(a:Int)∈(nd xs p).kids
 ·obtain⟨p,q1,q2,q3⟩:=e;obtain⟨d,q4,q5⟩:=h1 p q1 q2 q3;rw[q5];exact .kid q2 ha q3 q4
 ·rw[h2 fun p q1 q2 q3=>e ⟨p,q1,q2,q3⟩];refine .top ha fun p hp hk=>?_;obtain⟨k,r1,r2,_⟩:=O.kid p hp _ hk;exact e ⟨p,by omega,hp,hk⟩
def Iw (ks:List Int) (a q:Nat) (st0 st:List Nat):Prop:=st.length=st0.length/\∀c:Nat,st.getD c 0=if (∃i,i<q/\ks.getD i 0=(c:Int)) then st0.getD a 0+1 else st0.getD c 0
theorem Iw.init (ks:List Int) (a:Nat) (st:List Nat):Iw ks a 0 st st:=⟨rfl,fun c=>by rw[if_neg];rintro⟨i,hi,_⟩;omega⟩
theorem PS {l:List Nat}{k x:Nat}(h:k<l.length):(l.set k x).getD k 0=x:=by
 rw[List.getD_eq_getElem?_getD,List.getElem?_set_self h];rfl
theorem getD_set_ne {l:List Nat}{k c x:Nat}(h:k≠c):(l.set k x).getD c 0=l.getD c 0:=by
 rw[List.getD_eq_getElem?_getD,List.getElem?_set_ne h,<- List.getD_eq_getElem?_getD]
theorem Iw.step {ks:List Int}{a q k:Nat}{st0 st:List Nat}(h:Iw ks a q st0 st) (hk:ks.getD q 0=(k:Int)) (hl:k<st.length) (ha:st.getD a 0=st0.getD a 0):Iw ks a (q+1) st0 (st.set k (st.getD a 0+1)):=by
 refine⟨by simpa using h.1,fun c=>?_⟩;by_cases e:k=c
 ·subst e;rw[PS hl,if_pos ⟨q,by omega,hk⟩,ha]
 ·rw[getD_set_ne e,h.2 c];by_cases q1:∃i,i<q/\ks.getD i 0=(c:Int)
  ·obtain⟨i,h1,h2⟩:=q1;rw[if_pos ⟨i,h1,h2⟩,if_pos ⟨i,by omega,h2⟩]
  ·rw[if_neg q1,if_neg];rintro⟨i,h1,h2⟩;by_cases e2:i=q
   ·subst e2;rw[hk]at h2;exact e (by omega)
   ·exact q1 ⟨i,by omega,h2⟩
theorem Iw.self (O:qQ xs n l){a q:Nat}(ha:a<n){st0 st:List Nat}(h:Iw (nd xs a).kids a q st0 st) (hq:q<=(nd xs a).kids.length):st.getD a 0=st0.getD a 0:=by
 rw[h.2 a,if_neg];rintro⟨i,h1,h2⟩;have hm:=nN (ks:=(nd xs a).kids) (q:=i) (by omega);rw[h2]at hm;obtain⟨k,r1,r2,_⟩:=O.kid a ha _ hm;omega
theorem Kq.next (O:qQ xs n l){a:Nat}(ha:a<n){st0 st:List Nat}(h0:Kq xs n (a+1) st0) (h:Iw (nd xs a).kids a (nd xs a).kids.length st0 st):Kq xs n a st:=by
 have hd:=h0.dep O ha;refine⟨by rw[h.1];exact h0.1,fun c hc=>?_⟩;obtain⟨h1,h2⟩:=h0.2 c hc;by_cases e:(c:Int)∈(nd xs a).kids
 ·obtain⟨i,q1,q2⟩:=xN e;refine⟨fun p p1 p2 p3=>?_,fun q=>absurd e (q a (Nat.le_refl _) ha)⟩;have:=O.uniq ha p2 e p3;subst this;exact⟨_,hd,by rw[h.2 c,if_pos ⟨i,q1,q2⟩]⟩
 ·have hne:¬ ∃i,i<(nd xs a).kids.length/\(nd xs a).kids.getD i 0=(c:Int):=by
   rintro⟨i,q1,q2⟩;exact e (q2 ▸ nN q1)
  rw[h.2 c,if_neg hne];refine⟨fun p p1 p2 p3=>?_,fun q=>h2 fun p p1 p2=>q p (by omega) p2⟩;by_cases ep:p=a
  ·subst ep;exact absurd p3 e
  ·exact h1 p (by omega) p2 p3
end
def aH (k:Int):Int:=
 if 1<=k/\k<=6 then 1 else if 7<=k/\k<=9 then k-5 else if (10<=k/\k<=12)\/k=14 then 5 else if k=13 then 10 else if k=15 then 9 else if k=16 then 6 else if k=17\/(19<=k/\k<=32) then 7 else if 33<=k/\k<=49 then 8 else 0
def aL (c k:Int):Bool:=
 if c=116 then decide (aH k=1) else if c=70 then decide (k=4) else if c=66 then decide (k=17) else if c=112 then decide (aH k=2) else if c=102 then decide (aH k=3) else if c=99 then decide (aH k=4) else if c=105\/c=73 then decide (aH k=6\/aH k=8) else if c=115 then decide (aH k=7) else if c=83 then decide (aH k=7\/aH k=10) else if c=100 then decide (aH k=5\/aH k=10) else if c=101\/c=69 then decide (aH k=8) else if c=118 then decide (k=13\/k=19\/k=20) else decide (k=19\/k=20)
def dM:List (List Int):=[[],[],[116],[116,63,101],[116,112],[],[],[116],[116],[63,101],[102],[99],[116],[116,63,105],[70,66],[100],[73],[83],[],[101],[],[101,115,63,115],[101,115],[115,101],[118,120,120,115],[101,115],[101,115],[115],[115],[],[],[],[63,101],[],[],[],[101,101],[101,69],[101],[101],[101],[101],[101],[101],[116],[116,101],[101,101],[101,101,101],[101,101],[101,101]]
structure Rl where
 xO:Int
 word:Int
 uZ:Int
 pQ:Int
 xP:Int
 rX:Int
 kids:List Int
 more:Int
 most:Int
def Rl.zero:Rl:=⟨0,0,0,0,0,0,[],0,0⟩
def DL:List Rl:=[⟨0,0,0,0,0,0,[],0,0⟩,⟨1,0,0,0,1,7,[],0,0⟩,⟨1,0,0,0,0,0,[1],0,0⟩,⟨1,0,0,0,0,0,[1],128,1⟩,⟨3,0,0,0,0,0,[1],4,4000⟩,⟨1,1,1,3,0,0,[],0,0⟩,⟨1,4,0,0,0,0,[],0,0⟩,⟨4,3,0,0,0,0,[1],0,0⟩,⟨8,2,0,0,0,0,[1],0,0⟩,⟨16,2,0,0,0,0,[],128,1⟩,⟨32,1,1,2,0,0,[8],8,4000⟩,⟨32,1,0,0,0,0,[16],16,4000⟩,⟨32,2,0,0,0,0,[1],0,0⟩,⟨2592,2,0,0,0,0,[1],64,1⟩,⟨32,2,0,0,0,0,[2,1024],0,0⟩,⟨0,0,0,0,0,0,[],32,4000⟩,⟨64,0,0,0,0,0,[64],64,4000⟩,⟨1792,0,0,0,0,0,[],512,4000⟩,⟨0,0,0,0,0,0,[],0,0⟩,⟨6912,0,0,0,0,0,[128],0,0⟩,⟨6912,0,0,0,0,0,[],0,0⟩,⟨768,0,0,0,0,0,[128,256],256,1⟩,⟨768,0,0,0,0,0,[128,256],0,0⟩,⟨768,0,0,0,0,0,[256,128],0,0⟩,⟨768,0,0,0,0,0,[2048,4096,4096,256],0,0⟩,⟨768,0,0,0,0,0,[128,256],0,0⟩,⟨768,0,0,0,0,0,[128,256],0,0⟩,⟨768,0,0,0,0,0,[256],0,0⟩,⟨768,2,0,0,0,0,[256],0,0⟩,⟨768,2,0,0,0,0,[],0,0⟩,⟨768,0,0,0,0,0,[],0,0⟩,⟨768,0,0,0,0,0,[],0,0⟩,⟨768,0,0,0,0,0,[],128,1⟩,⟨192,5,0,0,0,4294967295,[],0,0⟩,⟨192,5,0,0,0,0,[],0,0⟩,⟨192,2,0,0,0,0,[],0,0⟩,⟨192,0,0,0,0,0,[128,128],0,0⟩,⟨192,0,0,0,0,0,[128],128,4000⟩,⟨192,1,0,0,0,0,[128],0,0⟩,⟨192,1,0,0,0,0,[128],0,0⟩,⟨192,0,1,2,0,0,[128],0,0⟩,⟨192,0,1,2,0,0,[128],0,0⟩,⟨192,0,1,6,0,0,[128],0,0⟩,⟨192,0,0,0,0,0,[128],0,0⟩,⟨192,0,0,0,0,0,[1],0,0⟩,⟨192,0,0,0,0,0,[1,128],0,0⟩,⟨192,0,1,18,0,0,[128,128],0,0⟩,⟨192,0,0,0,0,0,[128,128,128],0,0⟩,⟨192,0,0,16,0,0,[128,128],0,0⟩,⟨192,0,0,0,0,0,[128,128],0,0⟩]
def rl (k:Int):Rl:=if 0<=k/\k<=49 then DL.getD k.toNat Rl.zero else Rl.zero
def PU (c:Int):Int:=if c=116 then 1 else if c=70 then 2 else if c=112 then 4 else if c=102 then 8 else if c=99 then 16 else if c=100 then 32 else if c=105 then 64 else if c=73 then 64 else if c=101 then 128 else if c=69 then 128 else if c=115 then 256 else if c=83 then 512 else if c=66 then 1024 else if c=118 then 2048 else if c=120 then 4096 else 0
def many (c:Int):Bool:=c == 112 || c == 102 || c == 99 || c == 73 || c == 83 || c == 100 || c == 69
def some1 (c:Int):Bool:=c == 102 || c == 99 || c == 73
def kS:List Int->List Int->Bool->Bool
 | [],ks,_=>ks.isEmpty
 | c :: cs,ks,m=>
  if c=63 then kS cs ks true
  else if many c=true then (if some1 c=true/\ks=[] then false else if ks.all (aL c)=true then kS cs [] m else false)
  else match ks with
   | []=>m
   | k :: ks'=>if aL c k=true then kS cs ks' m else false

def Fit (F:List Int) (more:Int) (most:Nat) (ks:List Int):Prop:=F.length<=ks.length/\ks.length<=F.length+most/\∀q,q<ks.length->aL (if q<F.length then F.getD q 0 else more) (ks.getD q 0)=true
theorem PV {c:Int}{F:List Int}{more:Int}{most:Nat}{k:Int}{ks:List Int}:Fit (c :: F) more most (k :: ks)↔aL c k=true/\Fit F more most ks:=by
 unfold Fit;constructor
 ·rintro⟨h1,h2,h3⟩;simp only[List.length_cons]at h1 h2 h3;refine⟨by simpa using h3 0 (by omega),by omega,by omega,fun q hq=>?_⟩;have:=h3 (q+1) (by omega);simp only[List.getD_cons_succ,Nat.add_lt_add_iff_right]at this;exact this
 ·rintro⟨h0,h1,h2,h3⟩;simp only[List.length_cons];refine⟨by omega,by omega,fun q hq=>?_⟩;cases q with
  | zero=>simpa using h0
  | succ q=>
   have:=h3 q (by omega);simp only[List.getD_cons_succ,Nat.add_lt_add_iff_right];exact this
theorem Ad {c:Int}{F:List Int}{more:Int}{most:Nat}:¬Fit (c :: F) more most []:=fun h=>by have:=h.1;simp at this
theorem Ae {c:Int}{most:Nat}{ks:List Int}(h:ks.length<=most):Fit [] c most ks↔ks.all (aL c)=true:=by
 unfold Fit;rw[List.all_eq_true];constructor
 ·rintro⟨_,_,h3⟩ x hx;obtain⟨q,hq,e⟩:=xN hx;have:=h3 q hq;rw[e,if_neg (by simp)]at this;exact this
 ·intro h3;refine⟨by simp,by simpa using h,fun q hq=>?_⟩;simpa using h3 _ (nN hq)
def rG:List Int->List Int × Int × Nat
 | []=>([],0,0)
 | c :: cs=>if c=63 then ([],cs.headD 0,1) else if some1 c=true then ([c],c,4000) else if many c=true then ([],c,4000) else (c :: (rG cs).1,(rG cs).2)
def wfS:List Int->Bool
 | []=>true
 | c :: cs=>if c=63 then (match cs with|[d]=>decide (d≠63) && !many d|_=>false) else if many c=true then cs.isEmpty else wfS cs
theorem VU:∀(cs ks:List Int),wfS cs=true->ks.length<=4000->(kS cs ks false=true↔Fit (rG cs).1 (rG cs).2.1 (rG cs).2.2 ks)
 | [],ks,_,_=>by
  unfold kS rG;rw[List.isEmpty_iff];constructor
  ·rintro rfl;exact⟨Nat.le_refl _,Nat.le_refl _,fun q hq=>absurd hq (Nat.not_lt_zero _)⟩
  ·intro h;have:=h.2.1;exact List.eq_nil_of_length_eq_zero (by simpa using this)
 | c :: cs,ks,hw,hl=>by
  unfold kS rG;unfold wfS at hw;by_cases h63:c=63
  ·rw[if_pos h63]at hw ⊢;rw[if_pos h63]
   match cs,hw with
   | [d],hw=>
    simp only[Bool.and_eq_true,decide_eq_true_eq,Bool.not_eq_true']at hw;obtain⟨w1,w2⟩:=hw;show kS [d] ks true=true↔Fit [] d 1 ks;unfold kS;rw[if_neg w1,if_neg (by rw[w2];decide)];cases ks with
    | nil=>exact⟨fun _=>⟨Nat.zero_le _,Nat.zero_le _,fun q hq=>absurd hq (Nat.not_lt_zero _)⟩,fun _=>rfl⟩
    | cons k ks'=>
     show (if aL d k=true then kS [] ks' true else false)=true↔_;unfold kS;constructor
     ·intro h;split at h
      ·rename_i hf;rw[List.isEmpty_iff]at h;subst h;exact⟨Nat.zero_le _,Nat.le_refl _,fun q hq=>by
        have:q=0:=(by simpa using hq);subst this;simpa using hf⟩
      ·cases h
     ·rintro⟨_,h2,h3⟩;have hk:ks'=[]:=List.eq_nil_of_length_eq_zero (by simp at h2;simpa using h2);subst hk;have:=h3 0 (by simp);rw[if_pos (by simpa using this)];rfl
  ·rw[if_neg h63]at hw ⊢;rw[if_neg h63];by_cases hm:many c=true
   ·rw[if_pos hm]at hw ⊢;have hcs:cs=[]:=List.isEmpty_iff.mp hw;subst hcs;by_cases hs:some1 c=true
    ·rw[if_pos hs];show _↔Fit [c] c 4000 ks;cases ks with
     | nil=>rw[if_pos ⟨hs,rfl⟩];exact⟨fun h=>absurd h (by decide),fun h=>absurd h Ad⟩
     | cons k ks'=>
      rw[if_neg (by rintro⟨_,h⟩;cases h),PV,Ae (by simp at hl;omega)];simp only[List.all_cons,Bool.and_eq_true];constructor
      ·intro h;split at h
       ·assumption
       ·cases h
      ·intro h;rw[if_pos h];rfl
    ·rw[if_neg (fun h=>hs h.1),if_neg hs,if_pos hm];show _↔Fit [] c 4000 ks;rw[Ae hl];constructor
     ·intro h;split at h
      ·assumption
      ·cases h
     ·intro h;rw[if_pos h];rfl
   ·rw[if_neg hm]at hw ⊢;have hs:¬some1 c=true:=fun h=>hm (by unfold some1 at h;unfold many;simp at h ⊢;omega);rw[if_neg hs,if_neg hm];cases ks with
    | nil=>exact⟨fun h=>absurd (show false=true from h) (by decide),fun h=>absurd h Ad⟩
    | cons k ks'=>
     show (if aL c k=true then kS cs ks' false else false)=true↔_;rw[PV,<- VU cs ks' hw (by simp at hl;omega)];constructor
     ·intro h;split at h
      ·exact⟨by assumption,h⟩
      ·cases h
     ·rintro⟨h1,h2⟩;rw[if_pos h1];exact h2

def Kt:List Int:=[116,70,112,102,99,100,105,73,101,69,115,83,66,118,120]
theorem KW {k:Int}(h:k<0\/49<k):aH k=0:=by
 unfold aH;rw[if_neg (by omega),if_neg (by omega),if_neg (by omega),if_neg (by omega),if_neg (by omega),if_neg (by omega),if_neg (by omega),if_neg (by omega)]
theorem yU {k:Int}(h:k<0\/49<k):rl k=Rl.zero:=by unfold rl;rw[if_neg (by omega)]
theorem zX {k:Nat}(h:k<50):rl (k:Int)=DL.getD k Rl.zero:=by unfold rl;rw[if_pos (by omega)];simp
theorem PW {c:Int}(hc:c∈Kt) (k:Int):aL c k=true↔(rl k).xO.toNat &&& (PU c).toNat≠0:=by
 by_cases h:0<=k/\k<=49
 ·obtain⟨n,rfl⟩:∃n:Nat,k=n:=⟨k.toNat,by omega⟩;have hn:n<50:=by omega
  have key:∀c∈Kt,∀n:Fin 50,(aL c ((n.val:Nat):Int)=true)=((DL.getD n.val Rl.zero).xO.toNat &&& (PU c).toNat≠0):=by
   intro c hc n
   revert n
   revert c
   have:∀c∈Kt,∀n:Fin 50,(aL c ((n.val:Nat):Int)=true)↔((DL.getD n.val Rl.zero).xO.toNat &&& (PU c).toNat≠0):=(by decide +kernel);intro c hc n;exact propext (this c hc n)
  rw[zX hn,key c hc ⟨n,hn⟩]
 ·rw[yU (by omega)];have hs:=KW (k:=k) (by omega);have hf:aL c k=false:=by
   unfold aL;rw[hs];have e1:∀n:Int,n≠0->decide ((0:Int)=n)=false:=fun n h=>decide_eq_false (fun q=>h q.symm);have e4:decide (k=4)=false:=decide_eq_false (by omega);have e17:decide (k=17)=false:=decide_eq_false (by omega);have ev:decide (k=13\/k=19\/k=20)=false:=decide_eq_false (by omega);have ex:decide (k=19\/k=20)=false:=decide_eq_false (by omega);rw[e4,e17,ev,ex];simp
  rw[hf];simp[Rl.zero]
def kI (r:Rl) (ks:List Int):Prop:=(r.kids.length:Int)<=ks.length/\(ks.length:Int)<=r.kids.length+r.most/\∀q,q<ks.length->(rl (ks.getD q 0)).xO.toNat &&& (if q<r.kids.length then r.kids.getD q 0 else r.more).toNat≠0
theorem Ku:∀k:Fin 50,wfS (dM.getD k.val [])=true/\(DL.getD k.val Rl.zero).kids=(rG (dM.getD k.val [])).1.map PU/\(DL.getD k.val Rl.zero).most=((rG (dM.getD k.val [])).2.2:Int)/\(∀c∈(rG (dM.getD k.val [])).1,c∈Kt)/\((rG (dM.getD k.val [])).2.2=0\/((rG (dM.getD k.val [])).2.1∈Kt/\(DL.getD k.val Rl.zero).more=PU (rG (dM.getD k.val [])).2.1)):=by decide +kernel
theorem JJ {k:Nat}(hk:k<50){ks:List Int}(hl:ks.length<=4000):kS (dM.getD k []) ks false=true↔kI (rl k) ks:=by
 obtain⟨h1,h2,h3,h4,h5⟩:=Ku ⟨k,hk⟩;simp only at h1 h2 h3 h4 h5;rw[VU _ ks h1 hl,zX hk];unfold Fit kI;rw[h2,h3];simp only[List.length_map];have hq:∀q,q<ks.length->ks.length<=(rG (dM.getD k [])).1.length+(rG (dM.getD k [])).2.2->(aL (if q<(rG (dM.getD k [])).1.length then (rG (dM.getD k [])).1.getD q 0 else (rG (dM.getD k [])).2.1) (ks.getD q 0)=true↔(rl (ks.getD q 0)).xO.toNat &&& (if q<(rG (dM.getD k [])).1.length then ((rG (dM.getD k [])).1.map PU).getD q 0 else (DL.getD k Rl.zero).more).toNat≠0):=by
  intro q hq hle;by_cases e:q<(rG (dM.getD k [])).1.length
  ·rw[if_pos e,if_pos e];have hm:=nN (ks:=(rG (dM.getD k [])).1) e;rw[PW (h4 _ hm)];have:((rG (dM.getD k [])).1.map PU).getD q 0=PU ((rG (dM.getD k [])).1.getD q 0):=by
    generalize (rG (dM.getD k [])).1=L at *;rw[List.getD_eq_getElem?_getD,List.getD_eq_getElem?_getD,List.getElem?_map,List.getElem?_eq_getElem e];rfl
   rw[this]
  ·rw[if_neg e,if_neg e];rcases h5 with h5|⟨h5,h6⟩
   ·omega
   ·rw[PW h5,h6]
 constructor
 ·rintro⟨a,b,c⟩;exact⟨by omega,by omega,fun q h=>(hq q h b).mp (c q h)⟩
 ·rintro⟨a,b,c⟩;exact⟨by omega,by omega,fun q h=>(hq q h (by omega)).mpr (c q h)⟩
theorem Af {k:Int}(h:aL 101 k=true):aH k=8:=by simpa [aL] using h
theorem aDM {k:Int}(h:aL 69 k=true):aH k=8:=by simpa [aL] using h
theorem tN {k:Int}(h:aL 116 k=true):aH k=1:=by simpa [aL] using h
theorem aDN {k:Int}(h:aL 115 k=true):aH k=7:=by simpa [aL] using h
theorem aDO {k:Int}(h:aL 83 k=true):aH k=7\/aH k=10:=by simpa [aL] using h
theorem aDP {k:Int}(h:aL 105 k=true):aH k=6\/aH k=8:=by simpa [aL] using h
theorem aDQ {k:Int}(h:aL 73 k=true):aH k=6\/aH k=8:=by simpa [aL] using h
theorem aDR {k:Int}(h:aL 99 k=true):aH k=4:=by simpa [aL] using h
theorem aDS {k:Int}(h:aL 102 k=true):aH k=3:=by simpa [aL] using h
theorem aDT {k:Int}(h:aL 112 k=true):aH k=2:=by simpa [aL] using h
theorem aDU {k:Int}(h:aL 100 k=true):aH k=5\/aH k=10:=by simpa [aL] using h
theorem aA3 {k:Int}(h:aL 70 k=true):k=4:=by simpa [aL] using h
theorem aDV {k:Int}(h:aL 66 k=true):k=17:=by simpa [aL] using h
theorem aDW {k:Int}(h:aL 118 k=true):k=13\/k=19\/k=20:=by simpa [aL] using h
theorem Kv {k:Int}(h:aL 120 k=true):k=19\/k=20:=by simpa [aL] using h
theorem kZ {F:List Int}{more:Int}{most:Nat}{ks:List Int}(h:Fit F more most ks){j:Nat}(h1:F.length<=j) (h2:j<ks.length):aL more (ks.getD j 0)=true:=by
 have:=h.2.2 j h2
 rwa [if_neg (by omega)]at this
theorem DR {c:Int}{most:Nat}{ks:List Int}(h:Fit [c] c most ks){j:Nat}(h2:j<ks.length):aL c (ks.getD j 0)=true:=by
 have:=h.2.2 j h2;by_cases q:j=0
 ·subst q;exact this
 ·rwa [if_neg (by simp;omega)]at this
theorem jV {c k:Int}(h:aL c k=true) (h1:c≠116) (h2:c≠70):aH k≠1:=by
 unfold aL at h;rw[if_neg h1,if_neg h2]at h;intro q;have e17:aH 17≠1:=by decide
 have e13:aH 13≠1:=by decide
 have e19:aH 19≠1:=by decide
 have e20:aH 20≠1:=by decide
 repeat' split at h
 all_goals
  have h:=of_decide_eq_true h
  first
  | omega
  | (subst h;exact absurd q (by assumption))
  | (rcases h with rfl|rfl|rfl <;> exact absurd q (by assumption))
  | (rcases h with rfl|rfl <;> exact absurd q (by assumption))
theorem DT {k:Nat}(hk:k<50){ks:List Int}(hl:ks.length<=4000) (h:kS (dM.getD k []) ks false=true):Fit (rG (dM.getD k [])).1 (rG (dM.getD k [])).2.1 (rG (dM.getD k [])).2.2 ks:=
 (VU _ _ (Ku ⟨k,hk⟩).1 hl).1 h
theorem aBr {ks:List Tx}(h:ks.length=1):wF ks=(ks.getD 0 Tx.no).pr:=by
 match ks,h with
 | [t],_=>simp[wF]
theorem aBs {ks:List Tx}(h:1<=ks.length):wG (ks.take 1)=(ks.getD 0 Tx.no).ar:=by
 match ks,h with
 | t :: l,_=>simp[wG]
def dg (c:Int):Bool:=decide (48<=c/\c<=57)
def lt (c:Int):Bool:=decide (97<=c/\c<=122) || decide (65<=c/\c<=90)
def ch (c:Int):Bool:=dg c || lt c || c == 95 || c == 46 || c == 36
def kT (c:Int):Bool:=dg c || lt c || c == 95
def aD (s:ByteArray) (i:Nat):Int:=((s.data.toList.getD i 0).toNat:Int)
theorem aJ (s:ByteArray) (i:Nat) (h:i<s.size):((s[i]'h).toNat:Int)=aD s i:=by
 obtain⟨⟨l⟩⟩:=s;have hl:i<l.length:=h;unfold aD;simp only[List.getD,List.getElem?_eq_getElem hl,Option.getD_some];rfl
theorem jW (s:ByteArray):s.toList=[]↔s.size=0:=by
 rw[ByteArray.toList_eq];show s.data.toList=[]↔s.data.size=0;rw[<- Array.length_toList];exact List.length_eq_zero_iff.symm
end Pl
namespace W
open Go.RowKit
theorem oF (c:Int) (w:World):Calls Tryz.prog 130 #[.int .u8 c] w fun e w'=>e=.returned (.bool (Pl.dg c))/\w'=w:=by
 go_enter Tryz.func130,Tryz.ntmps130;go_wp2;all_goals (go_ret;refine⟨aC ?_,rfl⟩;rw[Bool.eq_iff_iff];simp[Pl.dg,Pl.lt,Pl.ch] <;> omega)
theorem aV (c:Int) (w:World):Calls Tryz.prog 83 #[.int .u8 c] w fun e w'=>e=.returned (.bool (Pl.dg c))/\w'=w:=by
 go_enter Tryz.func83,Tryz.ntmps83;go_wp2;all_goals (go_ret;refine⟨aC ?_,rfl⟩;rw[Bool.eq_iff_iff];simp[Pl.dg,Pl.lt,Pl.ch] <;> omega)
theorem LA (c:Int) (w:World):Calls Tryz.prog 119 #[.int .u8 c] w fun e w'=>e=.returned (.bool (Pl.lt c))/\w'=w:=by
 go_enter Tryz.func119,Tryz.ntmps119;go_wp2;all_goals (go_ret;refine⟨aC ?_,rfl⟩;rw[Bool.eq_iff_iff];simp[Pl.dg,Pl.lt,Pl.ch] <;> omega)
theorem wU (c:Int) (w:World):Calls Tryz.prog 182 #[.int .u8 c] w fun e w'=>e=.returned (.bool (Pl.kT c))/\w'=w:=by
 cases hd:Pl.dg c
 ·have hn:¬(48<=c/\c<=57):=by simpa [Pl.dg] using hd
  go_enter Tryz.func182,Tryz.ntmps182;go_wp2_with (go_at_call 130;refine (oF _ _).mono ?_;rintro e u1 ⟨rfl,rfl⟩;rw[hd])
  all_goals (go_ret;refine⟨aC ?_,rfl⟩;rw[Bool.eq_iff_iff];simp[Pl.dg,Pl.lt,Pl.kT] <;> omega)
 ·have hn:48<=c/\c<=57:=by simpa [Pl.dg] using hd
  go_enter Tryz.func182,Tryz.ntmps182;go_wp2_with (go_at_call 130;refine (oF _ _).mono ?_;rintro e u1 ⟨rfl,rfl⟩;rw[hd])
  all_goals (go_ret;refine⟨aC ?_,rfl⟩;rw[Bool.eq_iff_iff];simp[Pl.dg,Pl.lt,Pl.kT] <;> omega)
end W
namespace Pl
/-! aFn 5: tokens,as functions of the text -/
theorem sP (s:ByteArray) (i:Nat):0<=aD s i:=by unfold aD;omega
theorem sQ (s:ByteArray) (i:Nat):aD s i<256:=by
 unfold aD;have:=(s.data.toList.getD i 0).toNat_lt;omega
theorem LC (s:ByteArray) (i:Nat) (h:s.size<=i):aD s i=0:=by
 obtain⟨⟨l⟩⟩:=s;have hl:l.length<=i:=h;unfold aD;simp[List.getD,List.getElem?_eq_none hl]
theorem ext_size (s:ByteArray) (a b:Nat):(s.extract a b).size=min b s.size-a:=by
 rw[ByteArray.size_extract]
theorem nP (s:ByteArray) (a b j:Nat) (h:a+j<b) (hb:b<=s.size):aD (s.extract a b) j=aD s (a+j):=by
 have h1:j<(s.extract a b).size:=by rw[ext_size];omega
 rw[<- aJ _ j h1,<- aJ s (a+j) (by omega)];congr 2;simp[ByteArray.getElem_extract]
theorem VV {a b:ByteArray}(h:a.size=b.size) (hb:∀j,j<a.size->aD a j=aD b j):a=b:=by
 refine ByteArray.ext_getElem h fun i h1 h2=>?_;have:=hb i h1;rw[<- aJ a i h1,<- aJ b i h2]at this;exact UInt8.toNat_inj.1 (by omega)
theorem xQ (s:ByteArray) (a b c d:Nat) (h:a+d<=b) (hb:b<=s.size) (hc:c<=d):(s.extract a b).extract c d=s.extract (a+c) (a+d):=by
 refine VV (by simp only[ext_size];omega) fun j hj=>?_;simp only[ext_size]at hj;rw[nP _ c d j (by omega) (by simp only[ext_size];omega),nP s a b (c+j) (by omega) hb,nP s (a+c) (a+d) j (by omega) (by omega)];congr 1;omega
theorem BO (s:ByteArray):s.extract 0 s.size=s:=by simp
def hx (c:Int):Int:=if 48<=c/\c<=57 then c-48 else if 97<=c/\c<=102 then c-87 else if 65<=c/\c<=70 then c-55 else -1
theorem Kw (c:Int) : -1<=hx c:=by unfold hx;split <;> (try split) <;> (try split) <;> omega
theorem wI (c:Int):hx c<=15:=by unfold hx;split <;> (try split) <;> (try split) <;> omega
def BQ (c:Int):Int:=if hx c<0 then 16 else hx c
def blk (c:Int):Bool:=c == 32 || (decide (9<=c) && decide (c<=13))
def val (s:ByteArray) (b:Int):Nat->Int
 | 0=>0
 | k+1=>val s b k*b+hx (aD s k)
def Run (p:Int->Bool) (s:ByteArray) (n:Nat):Prop:=n<=s.size/\(∀j,j<n->p (aD s j)=true)/\(n=s.size\/p (aD s n)=false)
theorem Run.fn {p:Int->Bool}{s:ByteArray}{n m:Nat}(h:Run p s n) (k:Run p s m):n=m:=by
 rcases Nat.lt_trichotomy n m with hl|hl|hl
 ·rcases h.2.2 with e|e
  ·have:=k.1;omega
  ·rw[k.2.1 n hl]at e;cases e
 ·exact hl
 ·rcases k.2.2 with e|e
  ·have:=h.1;omega
  ·rw[h.2.1 m hl]at e;cases e
theorem Run.ex (p:Int->Bool) (s:ByteArray):∃n,Run p s n:=by
 have key:∀d m,s.size-m=d->m<=s.size->(∀j,j<m->p (aD s j)=true)->∃n,Run p s n:=by
  intro d
  induction d with
  | zero=>intro m hd hm ha;exact⟨m,hm,ha,.inl (by omega)⟩
  | succ d ih=>
   intro m hd hm ha;cases hp:p (aD s m)
   ·exact⟨m,hm,ha,.inr hp⟩
   ·refine ih (m+1) (by omega) (by omega) fun j hj=>?_;by_cases e:j=m
    ·rw[e];exact hp
    ·exact ha j (by omega)
 exact key _ 0 rfl (Nat.zero_le _) (fun j hj=>absurd hj (Nat.not_lt_zero _))
open Classical in
noncomputable def run (p:Int->Bool) (s:ByteArray):Nat:=Classical.choose (Run.ex p s)
theorem pJ (p:Int->Bool) (s:ByteArray):Run p s (run p s):=Classical.choose_spec (Run.ex p s)
theorem run_eq {p:Int->Bool}{s:ByteArray}{n:Nat}(h:Run p s n):run p s=n:=(pJ p s).fn h
def uu (c:Int):Bool:=c == 117 || c == 85
def nQ (s:ByteArray):Nat:=if uu (aD s (s.size-1))=true then s.size-1 else s.size
def DV (s:ByteArray):Bool:=decide (1<s.size) && aD s 0 == 48 && (aD s 1 == 120 || aD s 1 == 88)
def qR (s:ByteArray):Nat:=if DV s=true then 2 else 0
def iG (s:ByteArray):Int:=if DV s=true then 16 else if aD s 0=48 then 8 else 10
def bN (s:ByteArray):ByteArray:=s.extract (qR s) (nQ s)
def qF (b:Int) (c:Int):Bool:=decide (hx c<0) || (b != 16 && decide (9<hx c))
open Classical in
noncomputable def iU (s:ByteArray):Except Int (ByteArray × Int):=
 if nQ s<=qR s\/∃j,j<(bN s).size/\qF (iG s) (aD (bN s) j)=true then .error 2
 else if (∃j,j<(bN s).size/\iG s<=hx (aD (bN s) j))\/4294967295<val (bN s) (iG s) (bN s).size then .error 6
 else .ok (if uu (aD s (s.size-1))=true\/2147483647<val (bN s) (iG s) (bN s).size then ⟨#[117]⟩ else ⟨#[]⟩,val (bN s) (iG s) (bN s).size)
def aS (c:Int):Int:=if c=110 then 10 else if c=116 then 9 else if c=114 then 13 else if c=97 then 7 else if c=98 then 8 else if c=102 then 12 else if c=118 then 11 else if c=92 then 92 else if c=39 then 39 else if c=34 then 34 else -1
def oc (s:ByteArray) (i:Nat):Int:=if i<s.size/\48<=aD s i/\aD s i<=55 then aD s i-48 else -1
def hc (s:ByteArray) (i:Nat):Int:=if i<s.size then hx (aD s i) else -1
def bB (s:ByteArray) (i:Nat):Except Int (Int × Nat):=
  if s.size<=i\/aD s i=10 then .error 4
  else if aD s i=120 then
    (if hc s (i+1)<0 then .error 5 else if hc s (i+2)<0 then .ok (hc s (i+1),2) else .ok (hc s (i+1)*16+hc s (i+2),3))
  else if 0<=oc s i then
    (if oc s (i+1)<0 then .ok (oc s i,1) else if oc s (i+2)<0 then .ok (oc s i*8+oc s (i+1),2)
     else if 255<(oc s i*8+oc s (i+1))*8+oc s (i+2) then .error 5 else .ok ((oc s i*8+oc s (i+1))*8+oc s (i+2),3))
  else if aS (aD s i)<0 then .error 5 else .ok (aS (aD s i),1)
inductive oV (s:ByteArray) (m:Int):Nat->List UInt8->Except Int (List UInt8 × Nat)->Prop
 | out {i acc}:(s.size<=i\/aD s i=10)->oV s m i acc (.error 4)
 | fin {i acc}:i<s.size->aD s i=m->aD s i≠10->oV s m i acc (.ok (acc,i+1))
 | bad {i acc f}:i<s.size->aD s i=92->aD s i≠m->bB s (i+1)=.error f->oV s m i acc (.error f)
 | esc {i acc v n r}:i<s.size->aD s i=92->aD s i≠m->bB s (i+1)=.ok (v,n)->oV s m (i+1+n) (acc++[UInt8.ofNat v.toNat]) r->oV s m i acc r
 | one {i acc r}:i<s.size->aD s i≠10->aD s i≠m->aD s i≠92->oV s m (i+1) (acc++[UInt8.ofNat (aD s i).toNat]) r->oV s m i acc r
theorem oV.fn {s:ByteArray}{m:Int}{i:Nat}{acc:List UInt8}{r r':Except Int (List UInt8 × Nat)}(h:oV s m i acc r) (h':oV s m i acc r'):r=r':=by
 induction h with
 | out h0=>
  cases h' with
  | out _=>rfl
  | fin a b c=>rcases h0 with e|e <;> first|omega|exact absurd e c
  | bad a b c d=>rcases h0 with e|e <;> omega
  | esc a b c d e=>rcases h0 with e|e <;> omega
  | one a b c d e=>rcases h0 with e|e <;> first|omega|exact absurd e b
 | fin a b c=>
  cases h' with
  | out h0=>rcases h0 with e|e <;> first|omega|exact absurd e c
  | fin _ _ _=>rfl
  | bad _ _ c' _=>exact absurd b c'
  | esc _ _ c' _ _=>exact absurd b c'
  | one _ _ c' _ _=>exact absurd b c'
 | bad a b c d=>
  cases h' with
  | out h0=>rcases h0 with e|e <;> omega
  | fin _ b' _=>exact absurd b' c
  | bad _ _ _ d'=>rw[d]at d';injection d' with e;rw[e]
  | esc _ _ _ d' _=>rw[d]at d';cases d'
  | one _ _ _ d' _=>exact absurd b d'
 | esc a b c d _ ih=>
  cases h' with
  | out h0=>rcases h0 with e|e <;> omega
  | fin _ b' _=>exact absurd b' c
  | bad _ _ _ d'=>rw[d]at d';cases d'
  | esc _ _ _ d' e'=>
   rw[d]at d';injection d' with q;injection q with q1 q2;subst q1 q2;exact ih e'
  | one _ _ _ d' _=>exact absurd b d'
 | one a b c d _ ih=>
  cases h' with
  | out h0=>rcases h0 with e|e <;> first|omega|exact absurd e b
  | fin _ b' _=>exact absurd b' c
  | bad _ b' _ _=>exact absurd b' d
  | esc _ b' _ _ _=>exact absurd b' d
  | one _ _ _ _ e'=>exact ih e'
def wJ:List (List UInt8):=[[60,60,61],[62,62,61],[45,62],[43,43],[45,45],[60,60],[62,62],[60,61],[62,61],[61,61],[33,61],[38,38],[124,124],[43,61],[45,61],[42,61],[47,61],[37,61],[38,61],[94,61],[124,61],[43],[45],[42],[47],[37],[38],[124],[94],[126],[33],[60],[62],[61],[63],[58],[59],[44],[46],[40],[41],[91],[93],[123],[125]]
def BR (s:ByteArray):Bool:=wJ.any fun r=>s.toList == r
def uV (s:ByteArray):Nat:=
 if 3<=s.size/\BR (s.extract 0 3)=true then 3 else if 2<=s.size/\BR (s.extract 0 2)=true then 2 else if 1<=s.size/\BR (s.extract 0 1)=true then 1 else 0
end Pl
namespace W
open Go.RowKit
theorem JK (c:Int) (h0:0<=c) (h1:c<256) (w:World):Calls Tryz.prog 138 #[.int .u8 c] w fun e w'=>e=.returned (.int .i64 (Pl.hx c))/\w'=w:=by
 cases hd:Pl.dg c
 ·have hn:¬(48<=c/\c<=57):=by simpa [Pl.dg] using hd
  go_enter Tryz.func138,Tryz.ntmps138;go_wp2_with (go_at_call 83;refine (aV _ _).mono ?_;rintro e u1 ⟨rfl,rfl⟩;rw[hd])
  all_goals (go_ret;refine⟨mJ ?_,rfl⟩;unfold Pl.hx;rw[if_neg hn];first|(rw[if_pos (by omega)];omega)|(rw[if_neg (by omega),if_pos (by omega)];omega)|rw[if_neg (by omega),if_neg (by omega)])
 ·have hn:48<=c/\c<=57:=by simpa [Pl.dg] using hd
  go_enter Tryz.func138,Tryz.ntmps138;go_wp2_with (go_at_call 83;refine (aV _ _).mono ?_;rintro e u1 ⟨rfl,rfl⟩;rw[hd])
  all_goals (go_ret;refine⟨mJ ?_,rfl⟩;unfold Pl.hx;rw[if_pos hn])
theorem oG (c:Int) (w:World):Calls Tryz.prog 124 #[.int .u8 c] w fun e w'=>e=.returned (.bool (Pl.blk c))/\w'=w:=by
 go_enter Tryz.func124,Tryz.ntmps124;go_wp2;all_goals (go_ret;refine⟨aC ?_,rfl⟩;rw[Bool.eq_iff_iff];simp[Pl.blk] <;> omega)
theorem kJ (c:Int) (w:World):Calls Tryz.prog 85 #[.int .u8 c] w fun e w'=>e=.returned (.bool (Pl.kT c))/\w'=w:=by
 cases hl1:Pl.lt c <;> cases hl2:Pl.dg c;all_goals
  go_enter Tryz.func85,Tryz.ntmps85;go_wp2_with (first|(go_at_call 119;refine (LA _ _).mono ?_;rintro e u1 ⟨rfl,rfl⟩;rw[hl1])|(go_at_call 83;refine (aV _ _).mono ?_;rintro e u2 ⟨rfl,rfl⟩;rw[hl2]))
  all_goals (go_ret;refine⟨aC ?_,rfl⟩;simp[Pl.kT,hl1,hl2])
end W
namespace Pl
theorem VW (c:Int):BQ c=if 48<=c/\c<=57 then c-48 else if 97<=c/\c<=102 then c-87 else if 65<=c/\c<=70 then c-55 else 16:=by
 unfold BQ hx
 (repeat' split) <;> omega
theorem DX (c:Int) (h:128<=c):BQ c=16:=by
 rw[VW]
 (repeat' split) <;> omega
theorem DY (s:ByteArray) (pos:Nat) (h:pos<s.size):BQ ((Utf8.decode s pos).1:Nat)=BQ (aD s pos):=by
 by_cases ha:(s[pos]'h).toNat<128
 ·rw[decode_ascii s pos h ha,<- aJ s pos h]
 ·rw[DX _ (by have:=(decode_high s pos h (by omega)).1;omega),DX _ (by rw[<- aJ s pos h];omega)]
theorem Ky (s:ByteArray) (pos:Nat) (h:pos<s.size) (hw:BQ (aD s pos)<16):(Utf8.decode s pos).2=1:=by
 by_cases ha:(s[pos]'h).toNat<128
 ·rw[decode_ascii s pos h ha]
 ·rw[DX _ (by rw[<- aJ s pos h];omega)]at hw;omega
end Pl
namespace W
open Go.RowKit
theorem rY (w:World) (s:ByteArray) (pos:Nat):Bw w (w.iter s pos):=(Below.refl _ _).alloc (Nat.le_refl _) _
theorem rZ (c:Int) (w:World):Calls Tryz.prog 143 #[.int .i32 c] w fun e w'=>e=.returned (.bool (Pl.dg c))/\w'=w:=by
 go_enter Tryz.func143,Tryz.ntmps143;go_wp2;all_goals (go_ret;refine⟨aC ?_,rfl⟩;rw[Bool.eq_iff_iff];simp[Pl.dg] <;> omega)
theorem EA (c:Int) (w:World):Calls Tryz.prog 170 #[.int .i32 c] w fun e w'=>e=.returned (.int .i64 (Pl.BQ c))/\w'=w:=by
 cases hd:Pl.dg c
 ·have hn:¬(48<=c/\c<=57):=by simpa [Pl.dg] using hd
  go_enter Tryz.func170,Tryz.ntmps170;go_wp2_with (go_at_call 143;refine (rZ _ _).mono ?_;rintro e u1 ⟨rfl,rfl⟩;rw[hd])
  all_goals (go_ret;refine⟨mJ ?_,rfl⟩;rw[Pl.VW];(repeat' split) <;> omega)
 ·have hn:48<=c/\c<=57:=by simpa [Pl.dg] using hd
  go_enter Tryz.func170,Tryz.ntmps170;go_wp2_with (go_at_call 143;refine (rZ _ _).mono ?_;rintro e u1 ⟨rfl,rfl⟩;rw[hd])
  all_goals (go_ret;refine⟨mJ ?_,rfl⟩;rw[Pl.VW];(repeat' split) <;> omega)
set_option maxRecDepth 100000 in
theorem sS (s:ByteArray) (hs:s.size<=9223372036854775807) (b:Int) (hb:b<=16) (w:World):Calls Tryz.prog 159 #[.string s,.int .i64 b] w fun e w'=>(∃n,Pl.Run (fun c=>decide (Pl.BQ c<b)) s n/\e=.returned (.int .i64 n))/\Bw w w':=by
 go_enter Tryz.func159,Tryz.ntmps159;go_wp2;go_loopw [5] (fun _ w'=>∃pos:Nat,pos<=s.size/\w'=w.iter s pos/\(∀j,j<pos->Pl.BQ (Pl.aD s j)<b)) (fun _ w'=>s.size-w'.iterPos w.heap.size)
 case atStart=>exact⟨0,Nat.zero_le _,rfl,fun j hj=>absurd hj (Nat.not_lt_zero _)⟩
 case round=>
  obtain⟨pos,hps,rfl,hall⟩:=hrel;have HA:Hid (∀j,j<pos->Pl.BQ (Pl.aD s j)<b):=hall;clear hall;by_cases hp:pos<s.size
  ·have hnx:∀ty,(Instr.next (.pointer (some ⟨w.heap.size,0,none⟩)) true ty).run Tryz.prog (w.iter s pos)=_:=fun ty=>run_next_any w s pos ty hp;have hpi:(pos:Int)<=(s.size:Int):=(by omega);by_cases hc:Pl.BQ (Pl.aD s pos)<b
   ·have hd2:=Pl.Ky s pos hp (by omega);have HD:Hid ((Utf8.decode s pos).2=1):=hd2;clear hd2;go_wp2_with (go_at_call 170;refine (EA _ _).mono ?_;rintro e u1 ⟨rfl,rfl⟩;rw[Pl.DY s pos hp])
    go_roundw
    case rel=>exact⟨pos+1,by omega,by rw[HD.o],fun j hj=>by
     by_cases e:j=pos
     ·rw[e];exact hc
     ·exact HA.o j (by omega)⟩
    case measure=>rw[HD.o];simp;omega
   ·go_wp2_with (go_at_call 170;refine (EA _ _).mono ?_;rintro e u1 ⟨rfl,rfl⟩;rw[Pl.DY s pos hp])
    go_ret;exact⟨⟨pos,⟨hps,fun j hj=>by simpa using HA.o j hj,.inr (by simpa using hc)⟩,rfl⟩,rY _ _ _⟩
  ·have hnx:∀ty,(Instr.next (.pointer (some ⟨w.heap.size,0,none⟩)) true ty).run Tryz.prog (w.iter s pos)=_:=fun ty=>run_next_end w s pos ty hp;go_wp2;go_ret;have hpe:pos=s.size:=(by omega);exact⟨⟨s.size,⟨Nat.le_refl _,fun j hj=>by simpa using HA.o j (by omega),.inl rfl⟩,rfl⟩,rY _ _ _⟩
theorem Cv (s:ByteArray) (hs:s.size<=9223372036854775807) (b:Int) (hb:b<=16) (w:World):Calls Tryz.prog 146 #[.string s,.int .i64 b] w fun e w'=>(∃p:Bool,(p=true↔∀j,j<s.size->Pl.BQ (Pl.aD s j)<b)/\e=.returned (.bool p))/\Bw w w':=by
 go_enter Tryz.func146,Tryz.ntmps146;go_wp2_with (go_at_call 159;refine (sS s hs b hb _).mono ?_;rintro e u1 ⟨⟨n,hn,rfl⟩,g1⟩)
 go_ret;refine⟨⟨_,?_,rfl⟩,g1⟩;rw[beq_iff_eq];constructor
 ·intro he j hj;have:=hn.2.1 j (by omega);simpa using this
 ·intro ha;rcases hn.2.2 with e|e
  ·omega
  ·by_cases hq:n<s.size
   ·have:=ha n hq;simp at e;omega
   ·have:=hn.1;omega
end W
namespace Pl
def Good (t:ByteArray) (b mx:Int):Prop:=0<t.size/\(∀j,j<t.size->0<=hx (aD t j)/\hx (aD t j)<b)/\val t b t.size<=mx
theorem EB (t:ByteArray) (b:Int) (hb:0<=b):∀k,(∀j,j<k->0<=hx (aD t j))->0<=val t b k
 | 0,_=>Int.le_refl _
 | k+1,h=>by
  have h1:=EB t b hb k (fun j hj=>h j (by omega));have h2:=h k (by omega);show 0<=val t b k*b+hx (aD t k);have:=Int.mul_nonneg h1 hb;omega
theorem PX (t:ByteArray) (b:Int) (hb:1<=b) (k:Nat) (h:∀j,j<k+1->0<=hx (aD t j)):val t b k<=val t b (k+1):=by
 have h1:=EB t b (by omega) k (fun j hj=>h j (by omega));have h2:=h k (by omega);show val t b k<=val t b k*b+hx (aD t k);have:val t b k*1<=val t b k*b:=Int.mul_le_mul_of_nonneg_left hb h1;omega
theorem PY (t:ByteArray) (b:Int) (hb:1<=b) (k:Nat):∀n,k<=n->(∀j,j<n->0<=hx (aD t j))->val t b k<=val t b n
 | 0,h,_=>by rw[show k=0 by omega];exact Int.le_refl _
 | n+1,h,ha=>by
  by_cases e:k=n+1
  ·rw[e];exact Int.le_refl _
  ·have h1:=PY t b hb k n (by omega) (fun j hj=>ha j (by omega));have h2:=PX t b hb n ha;omega
theorem nO {t:ByteArray}{b mx:Int}(k:Nat) (hk:k<t.size) (h:hx (aD t k)<0\/b<=hx (aD t k)):¬Good t b mx:=fun hg=>by
 have:=hg.2.1 k hk;omega
theorem oM {t:ByteArray}{b mx:Int}(hb:1<=b) (k:Nat) (hk:k<t.size) (h:mx<val t b k*b+hx (aD t k)):¬Good t b mx:=fun hg=>by
 have h1:=PY t b hb (k+1) t.size (by omega) (fun j hj=>(hg.2.1 j hj).1);have h2:val t b (k+1)=val t b k*b+hx (aD t k):=rfl;have:=hg.2.2;omega
theorem uB (c:Int) (h0:48<=c) (h1:c<=57):hx c=c-48:=by unfold hx;rw[if_pos ⟨h0,h1⟩]
theorem xR:∀c:Nat,c<256->(c<48\/57<c)->((97<=bits .or .u8 (c:Int) 32/\bits .or .u8 (c:Int) 32<=102/\hx (c:Int)=bits .or .u8 (c:Int) 32-87/\c≠95)\/(103<=bits .or .u8 (c:Int) 32/\bits .or .u8 (c:Int) 32<=122/\hx (c:Int)=-1/\c≠95)\/((bits .or .u8 (c:Int) 32<97\/122<bits .or .u8 (c:Int) 32)/\hx (c:Int)=-1)):=by decide +kernel
end Pl
namespace W
open Go.RowKit
theorem vB (c:Int) (w:World):Calls Tryz.prog 171 #[.int .u8 c] w fun e w'=>e=.returned (.int .u8 (bits .or .u8 c 32))/\w'=w:=by
 go_enter Tryz.func171,Tryz.ntmps171;go_wp2;go_ret;exact⟨rfl,rfl⟩
def vC (t:ByteArray) (b mx:Int) (w:World) (e:Ending) (w':World):Prop:=
  ((Pl.Good t b mx/\e=.returned (.tuple #[.int .u64 (Pl.val t b t.size),.nilIface]))\/
   (¬Pl.Good t b mx/\∃(n:Int) (v:Value),e=.returned (.tuple #[.int .u64 n,v])/\(v=.iface 239 (.int .i64 1)\/v=.iface 239 (.int .i64 2))))/\Bw w w'
theorem aK {t:ByteArray}{b mx n i:Int}{w w':World}(hg:¬Pl.Good t b mx) (hi:i=1\/i=2) (hb:Bw w w'):vC t b mx w (.returned (.tuple #[.int .u64 n,.iface 239 (.int .i64 i)])) w':=
 ⟨.inr ⟨hg,_,_,rfl,by rcases hi with rfl|rfl;exact .inl rfl;exact .inr rfl⟩,hb⟩
theorem rH {t:ByteArray}{b mx n:Int}{w w':World}(hg:Pl.Good t b mx) (hn:n=Pl.val t b t.size) (hb:Bw w w'):vC t b mx w (.returned (.tuple #[.int .u64 n,.nilIface])) w':=
 ⟨.inl ⟨hg,by rw[hn]⟩,hb⟩
end W
namespace Pl
theorem aA4 (c:Int):BQ c<16↔0<=hx c:=by
 unfold BQ;have:=wI c;split <;> omega
theorem aDX (c:Int):BQ c<8↔(48<=c/\c<=55):=by
 unfold BQ hx
 (repeat' split) <;> omega
theorem hx8 (c:Int) (h0:48<=c) (h1:c<=55):hx c=c-48:=uB c h0 (by omega)
theorem jS (s:ByteArray) (a j:Nat) (h:a+j<s.size):aD (s.extract a s.size) j=aD s (a+j):=nP s a s.size j h (Nat.le_refl _)
theorem bC (s:ByteArray) (a:Nat):(s.extract a s.size).size=s.size-a:=by rw[ext_size];omega
theorem aBt (s:ByteArray) (a i:Nat) (h:a<=s.size):hc (s.extract a s.size) i=hc s (a+i):=by
 unfold hc;by_cases q:a+i<s.size
 ·rw[if_pos (by rw[bC];omega),if_pos q,jS s a i q]
 ·rw[if_neg (by rw[bC];omega),if_neg q]
theorem aBu (s:ByteArray) (a i:Nat) (h:a<=s.size):oc (s.extract a s.size) i=oc s (a+i):=by
 unfold oc;by_cases q:a+i<s.size
 ·rw[jS s a i q];by_cases r:48<=aD s (a+i)/\aD s (a+i)<=55
  ·rw[if_pos ⟨by rw[bC];omega,r⟩,if_pos ⟨q,r⟩]
  ·rw[if_neg (fun h=>r h.2),if_neg (fun h=>r h.2)]
 ·rw[if_neg (fun h=>by have:=h.1;rw[bC]at this;omega),if_neg (fun h=>q h.1)]
theorem xS (s:ByteArray) (a i:Nat) (h:a<=s.size):bB (s.extract a s.size) i=bB s (a+i):=by
 unfold bB;simp only[aBt s a _ h,aBu s a _ h,bC,<- Nat.add_assoc];by_cases q:a+i<s.size
 ·rw[jS s a i q];by_cases r:aD s (a+i)=10
  ·rw[if_pos (.inr r),if_pos (.inr r)]
  ·have c1:¬(s.size-a<=i\/aD s (a+i)=10):=(by rintro (e|e);omega;exact r e);have c2:¬(s.size<=a+i\/aD s (a+i)=10):=(by rintro (e|e);omega;exact r e);rw[if_neg c1,if_neg c2]
 ·rw[if_pos (.inl (by omega)),if_pos (.inl (by omega))]
theorem Cw {t:ByteArray}(h0:0<t.size) (h:0<=aS (aD t 0)) (h10:aD t 0≠10):bB t 0=.ok (aS (aD t 0),1):=by
 unfold bB;have hx:aD t 0≠120:=fun e=>by rw[e]at h;exact absurd h (by decide)
 have ho:¬ 0<=oc t 0:=fun e=>by
  unfold oc at e;split at e
  ·rename_i q;obtain⟨_,q1,q2⟩:=q;generalize aD t 0=c at *;have:c=48\/c=49\/c=50\/c=51\/c=52\/c=53\/c=54\/c=55:=(by omega);rcases this with rfl|rfl|rfl|rfl|rfl|rfl|rfl|rfl <;> exact absurd h (by decide)
  ·omega
 rw[if_neg (by rintro (e|e);omega;exact h10 e),if_neg hx,if_neg ho,if_neg (by omega)]
theorem Ag {t:ByteArray}(h:t.size=0\/aD t 0=10):bB t 0=.error 4:=by
 unfold bB;rw[if_pos (by rcases h with e|e;exact .inl (by omega);exact .inr e)]
theorem aBv (D:ByteArray) (b:Int):val D b 1=hx (aD D 0):=by simp[val]
theorem aBw (D:ByteArray) (b:Int):val D b 2=hx (aD D 0)*b+hx (aD D 1):=by simp[val]
theorem aFs (D:ByteArray) (b:Int):val D b 3=(hx (aD D 0)*b+hx (aD D 1))*b+hx (aD D 2):=by simp[val]
theorem Ty {t:ByteArray}(h0:0<t.size) (hc0:aD t 0=120){n:Nat}(hn:Run (fun c=>decide (BQ c<16)) (t.extract 1 t.size) n) :
  (Good ((t.extract 1 t.size).extract 0 (min n 2)) 16 255/\bB t 0=.ok (val ((t.extract 1 t.size).extract 0 (min n 2)) 16 (min n 2),1+min n 2))\/(¬Good ((t.extract 1 t.size).extract 0 (min n 2)) 16 255/\bB t 0=.error 5):=by
 obtain⟨hn1,hn2,VX⟩:=hn;rw[bC]at hn1 VX;have hsz:∀m,m<=n->((t.extract 1 t.size).extract 0 m).size=m:=fun m hm=>by rw[ext_size,bC];omega
 have hb:∀m j,m<=n->j<m->aD ((t.extract 1 t.size).extract 0 m) j=aD t (1+j):=fun m j hm hj=>by
  rw[nP _ 0 m j (by omega) (by rw[bC];omega),Nat.zero_add,jS t 1 j (by omega)]
 have hd:∀j,j<n->0<=hx (aD t (1+j)):=fun j hj=>by
  have:=hn2 j hj;rw[jS t 1 j (by omega)]at this;exact (aA4 _).1 (by simpa using this)
 have hno:hc t (1+n)<0:=by
  unfold hc;split
  ·rename_i q;rcases VX with e|e
   ·omega
   ·rw[jS t 1 n q]at e;have:=mt (aA4 (aD t (1+n))).2 (by simpa using e);omega
  ·omega
 have hye:∀j,j<n->hc t (1+j)=hx (aD t (1+j)):=fun j hj=>by unfold hc;rw[if_pos (by omega)]
 have e0:bB t 0=(if hc t 1<0 then .error 5 else if hc t 2<0 then .ok (hc t 1,2) else .ok (hc t 1*16+hc t 2,3)):=by
  unfold bB;rw[if_neg (by rintro (e|e);omega;rw[hc0]at e;exact absurd e (by decide)),if_pos hc0]
 rcases Nat.lt_or_ge 0 n with hp|hp
 ·left;have g0:=hd 0 hp;have y0:=hye 0 hp;have k0:=wI (aD t (1+0));rcases Nat.lt_or_ge 1 n with hp1|hp1
  ·have g1:=hd 1 hp1;have y1:=hye 1 hp1;have k1:=wI (aD t (1+1));have hm:min n 2=2:=(by omega);rw[hm,aBw,hb 2 0 (by omega) (by omega),hb 2 1 (by omega) (by omega)];refine⟨⟨by rw[hsz 2 (by omega)];omega,fun j hj=>?_,?_⟩,?_⟩
   ·rw[hsz 2 (by omega)]at hj;rw[hb 2 j (by omega) hj];have:=wI (aD t (1+j));have:=hd j (by omega);omega
   ·rw[hsz 2 (by omega),aBw,hb 2 0 (by omega) (by omega),hb 2 1 (by omega) (by omega)];omega
   ·rw[e0];rw[show hc t 1=hx (aD t (1+0)) from y0,show hc t 2=hx (aD t (1+1)) from y1,if_neg (by omega),if_neg (by omega)]
  ·have hn1':n=1:=(by omega);subst hn1';rw[show min 1 2=1 from rfl,aBv,hb 1 0 (by omega) (by omega)];refine⟨⟨by rw[hsz 1 (by omega)];omega,fun j hj=>?_,?_⟩,?_⟩
   ·rw[hsz 1 (by omega)]at hj;rw[hb 1 j (by omega) hj];have:=wI (aD t (1+j));have:=hd j (by omega);omega
   ·rw[hsz 1 (by omega),aBv,hb 1 0 (by omega) (by omega)];omega
   ·rw[e0];rw[show hc t 1=hx (aD t (1+0)) from y0,if_neg (by omega),if_pos hno]
 ·right;have hz:n=0:=by omega
  subst hz;refine⟨fun hg=>?_,?_⟩
  ·have:=hg.1;rw[hsz _ (by omega)]at this;omega
  ·rw[e0,if_pos hno]
theorem Tz {t:ByteArray}(h0:0<t.size) (h10:aD t 0≠10) (GK:aD t 0≠120) (hpl:aS (aD t 0)<0){n:Nat}(hn:Run (fun c=>decide (BQ c<8)) t n) :
    (Good (t.extract 0 (min n 3)) 8 255/\bB t 0=.ok (val (t.extract 0 (min n 3)) 8 (min n 3),min n 3))\/(¬Good (t.extract 0 (min n 3)) 8 255/\bB t 0=.error 5):=by
  obtain⟨hn1,hn2,VX⟩:=hn;have hsz:∀m,m<=n->(t.extract 0 m).size=m:=fun m hm=>by rw[ext_size];omega
  have hb:∀m j,m<=n->j<m->aD (t.extract 0 m) j=aD t j:=fun m j hm hj=>by
    rw[nP _ 0 m j (by omega) (by omega),Nat.zero_add]
  have hd:∀j,j<n->48<=aD t j/\aD t j<=55:=fun j hj=>(aDX _).1 (by simpa using hn2 j hj);have hh:∀j,j<n->hx (aD t j)=aD t j-48:=fun j hj=>hx8 _ (hd j hj).1 (hd j hj).2;have hno:oc t n<0:=by
    unfold oc;split
    · rename_i q
      rcases VX with e|e
      · omega
      · exact absurd ((aDX _).2 q.2) (by simpa using e)
    · omega
  have hye:∀j,j<n->oc t j=aD t j-48:=fun j hj=>by unfold oc;rw[if_pos ⟨by omega,hd j hj⟩]
  have e0:bB t 0=(if 0<=oc t 0 then
    (if oc t 1<0 then .ok (oc t 0,1) else if oc t 2<0 then .ok (oc t 0*8+oc t 1,2)
     else if 255<(oc t 0*8+oc t 1)*8+oc t 2 then .error 5 else .ok ((oc t 0*8+oc t 1)*8+oc t 2,3)) else .error 5):=by
    unfold bB;rw[if_neg (by rintro (e|e);omega;exact h10 e),if_neg GK,if_pos hpl]
  have hgd:∀m,m<=n->∀j,j<(t.extract 0 m).size->0<=hx (aD (t.extract 0 m) j)/\hx (aD (t.extract 0 m) j)<8:=fun m hm j hj=>by
    rw[hsz m hm]at hj;rw[hb m j hm hj,hh j (by omega)];have:=hd j (by omega);omega
  have d0:=hd 0;have d1:=hd 1;have d2:=hd 2;have y0:=hye 0;have y1:=hye 1;have y2:=hye 2;rcases Nat.lt_or_ge 2 n with hp|hp
  · have hm:min n 3=3:=by omega
    have hv:val (t.extract 0 3) 8 3=(oc t 0*8+oc t 1)*8+oc t 2:=by
      rw[aFs,hb 3 0 (by omega) (by omega),hb 3 1 (by omega) (by omega),hb 3 2 (by omega) (by omega),hh 0 (by omega),hh 1 (by omega),hh 2 (by omega),y0 (by omega),y1 (by omega),y2 (by omega)]
    have q0:=d0 (by omega);have q1:=d1 (by omega);have q2:=d2 (by omega);have z0:=y0 (by omega);have z1:=y1 (by omega);have z2:=y2 (by omega);rw[hm,hv,e0,if_pos (by omega),if_neg (by omega),if_neg (by omega)];by_cases hg:255<(oc t 0*8+oc t 1)*8+oc t 2
    · right
      refine⟨fun hG=>?_,by rw[if_pos hg]⟩;have:=hG.2.2;rw[hsz 3 (by omega),hv]at this;omega
    · left
      refine⟨⟨by rw[hsz 3 (by omega)];omega,hgd 3 (by omega),by rw[hsz 3 (by omega),hv];omega⟩,by rw[if_neg hg]⟩
  · rcases Nat.lt_or_ge 1 n with hp1|hp1
    · have Ua:n=2:=by omega
      subst Ua;have q0:=d0 (by omega);have q1:=d1 (by omega);have z0:=y0 (by omega);have z1:=y1 (by omega);have hv:val (t.extract 0 2) 8 2=oc t 0*8+oc t 1:=by
        rw[aBw,hb 2 0 (by omega) (by omega),hb 2 1 (by omega) (by omega),hh 0 (by omega),hh 1 (by omega),z0,z1]
      left;rw[show min 2 3=2 from rfl,hv,e0,if_pos (by omega),if_neg (by omega),if_pos hno];exact⟨⟨by rw[hsz 2 (by omega)];omega,hgd 2 (by omega),by rw[hsz 2 (by omega),hv];omega⟩,rfl⟩
    · rcases Nat.lt_or_ge 0 n with hp0|hp0
      · have hn1':n=1:=by omega
        subst hn1';have q0:=d0 (by omega);have z0:=y0 (by omega);have hv:val (t.extract 0 1) 8 1=oc t 0:=by
          rw[aBv,hb 1 0 (by omega) (by omega),hh 0 (by omega),z0]
        left;rw[show min 1 3=1 from rfl,hv,e0,if_pos (by omega),if_pos hno];exact⟨⟨by rw[hsz 1 (by omega)];omega,hgd 1 (by omega),by rw[hsz 1 (by omega),hv];omega⟩,rfl⟩
      · have hz:n=0:=by omega
        subst hz;right;refine⟨fun hg=>?_,by rw[e0,if_neg (by omega)]⟩;have:=hg.1;rw[hsz _ (by omega)]at this;omega
end Pl
end Go.Proofs.YtjcdiegfnoaedaaGreatDoor
