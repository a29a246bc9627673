import Derived.Test.YtlbomnnldkeocaaGreatI07
import Derived.Test.YtlbomnnldkeocaaGreatI02
import Derived.Test.YtlbomnnldkeocaaGreatI03
import Derived.BigQuiet
import Derived.Test.YtlbomnnldkeocaaGreatI00
import Derived.Laws.AppendOwn
import Derived.Laws.OwnMore
import Derived.Test.YtlbomnnldkeocaaGreatI22
import Derived.Test.YtlbomnnldkeocaaGreatI23
set_option linter.unusedVariables false
set_option linter.unusedSimpArgs false
set_option maxHeartbeats 16000000
namespace Go.Proofs.YtlbomnnldkeocaaGreat.Pl
structure Ins where
 op:Int
 rd:Int
 r1:Int
 r2:Int
 im:Int
def Ins.ok (x:Ins):Bool:=decide (1<=x.op/\x.op<=47) && okF (dC x.op.toNat) x.rd x.r1 x.r2 x.im
def gT (xs:List Ln) (s:ByteArray):Int:=match lb xs s with | some j=>(cu xs j).at | none=>0
def rJ (xs:List Ln) (s:ByteArray):Bool:=match lb xs s with | some j=>(cu xs j).d | none=>false
def jT (k:Int):Bool:=decide (k=3\/k=7\/k=8)
def zD (x:Ln) (m:Int):Ins:=if x.k=7 then ⟨45,0,0,0,m⟩ else if x.k=8 then ⟨45,1,0,0,m⟩ else ⟨x.op,x.rd,x.r1,x.r2,m⟩
def low (v:Int):Int:=if 2048<=v % 4096 then v % 4096-4096 else v % 4096
def pair (rd v:Int):List Ins:=[⟨43,rd,0,0,wd (v-low v) / 4096⟩,⟨19,rd,rd,0,low v⟩]
def bM (x:Ln) (at' la:Int):List Ins:=
 if jT x.k then [zD x (la-at')]
 else if x.k=4 then (if shr x.n then [⟨19,x.rd,0,0,sg x.n⟩] else pair x.rd x.n)
 else if x.k=5 then pair x.rd (wd (la+x.n))
 else if x.k=6 then [⟨19,x.rd,x.r1,0,0⟩]
 else if x.k=9 then [⟨33,0,1,0,0⟩]
 else if x.k=2 then [⟨x.op,x.rd,x.r1,x.r2,x.im⟩] else []
def ins (xs:List Ln) (i:Nat):List Ins:=bM (gl xs i) (cu xs i).at (gT xs (gl xs i).s)
theorem RQ (x:Ln) (a l:Int):((bM x a l).length:Int)=xI x:=by
 unfold bM xI jT pair
 by_cases h3:x.k=3\/x.k=7\/x.k=8
 ·rw[if_pos (by simpa using h3),if_neg (by omega),if_pos (by omega)];rfl
 rw[if_neg (by simpa using h3)]
 by_cases h4:x.k=4
 ·rw[if_pos h4]
  cases hs:shr x.n
  ·rw[if_neg (by simp),if_pos (.inr ⟨h4,rfl⟩)];rfl
  ·rw[if_pos rfl,if_neg (by simp;omega),if_pos (by omega)];rfl
 rw[if_neg h4]
 by_cases h5:x.k=5
 ·rw[if_pos h5,if_pos (.inl h5)];rfl
 rw[if_neg h5,if_neg (show ¬ (x.k=5\/(x.k=4/\shr x.n=false)) by intro c;omega)]
 by_cases h6:x.k=6
 ·rw[if_pos h6,if_pos (by omega)];rfl
 rw[if_neg h6]
 by_cases h9:x.k=9
 ·rw[if_pos h9,if_pos (by omega)];rfl
 rw[if_neg h9]
 by_cases h2:x.k=2
 ·rw[if_pos h2,if_pos (by omega)];rfl
 ·rw[if_neg h2,if_neg (by omega)];rfl
structure Qn (x:Ln):Prop where
 i2:x.k=2->Ins.ok ⟨x.op,x.rd,x.r1,x.r2,x.im⟩=true
 rd:x.k=4\/x.k=5\/x.k=6->0<=x.rd/\x.rd<=31
 r1:x.k=6->0<=x.r1/\x.r1<=31
 w4:x.k=4->0<=x.n/\x.n<=4294967295
theorem BU (rd r1 m:Int) (h1:0<=rd/\rd<=31) (h2:0<=r1/\r1<=31) (h3 : -2048<=m/\m<=2047):Ins.ok ⟨19,rd,r1,0,m⟩=true:=by
 have hf:dC (19:Int).toNat=2:=by decide +kernel
 unfold Ins.ok okF rg vU
 dsimp only
 rw[hf]
 simp[us,lo,hi,st,h1,h2,h3]
theorem Dn (rd m:Int) (h1:0<=rd/\rd<=31) (h3:0<=m/\m<=1048575):Ins.ok ⟨43,rd,0,0,m⟩=true:=by
 have hf:dC (43:Int).toNat=6:=by decide +kernel
 unfold Ins.ok okF rg vU
 dsimp only
 rw[hf]
 simp[us,lo,hi,st,h1,h3]
theorem WL:Ins.ok ⟨33,0,1,0,0⟩=true:=by decide +kernel
theorem RS (v:Int) : -2048<=low v/\low v<=2047:=by unfold low;split <;> omega
theorem MK (rd v:Int) (h:0<=rd/\rd<=31):∀ x∈pair rd v,x.ok=true:=by
 intro x hx
 have hw:=uD (v-low v)
 rcases List.mem_cons.1 hx with rfl | hx
 ·exact Dn _ _ h (by omega)
 rcases List.mem_cons.1 hx with rfl | hx
 ·exact BU _ _ _ h h (RS v)
 ·cases hx
theorem WM (x:Ln) (a l:Int) (h:Qn x) (hj:jT x.k=false):∀ y∈bM x a l,y.ok=true:=by
 unfold bM
 rw[hj,if_neg (by simp)]
 split
 ·rename_i h4
  split
  ·rename_i hs
   have hs' : -2048<=sg x.n/\sg x.n<=2047:=by simpa [shr] using hs
   intro y hy
   rcases List.mem_cons.1 hy with rfl | hy
   ·exact BU _ _ _ (h.rd (.inl h4)) (by decide) hs'
   ·cases hy
  ·exact MK _ _ (h.rd (.inl h4))
 split
 ·rename_i h5;exact MK _ _ (h.rd (.inr (.inl h5)))
 split
 ·rename_i h6
  intro y hy
  rcases List.mem_cons.1 hy with rfl | hy
  ·exact BU _ _ _ (h.rd (.inr (.inr h6))) (h.r1 h6) (by decide)
  ·cases hy
 split
 ·intro y hy
  rcases List.mem_cons.1 hy with rfl | hy
  ·exact WL
  ·cases hy
 split
 ·rename_i h2
  intro y hy
  rcases List.mem_cons.1 hy with rfl | hy
  ·exact h.i2 h2
  ·cases hy
 ·intro y hy;cases hy
def dQ (xs:List Ln) (i:Nat):Bool:=jT (gl xs i).k && (rJ xs (gl xs i).s || !(zD (gl xs i) (gT xs (gl xs i).s-(cu xs i).at)).ok)
theorem jQ (xs:List Ln) (i:Nat) (h:Qn (gl xs i)):((ins xs i).any fun y=>!y.ok || (jT (gl xs i).k && rJ xs (gl xs i).s))=dQ xs i:=by
 unfold dQ
 cases hj:jT (gl xs i).k
 ·simp only[Bool.false_and,Bool.or_false]
  rw[List.any_eq_false]
  intro y hy
  simp[WM _ _ _ h hj y hy]
 ·have:ins xs i=[zD (gl xs i) (gT xs (gl xs i).s-(cu xs i).at)]:=by unfold ins bM;rw[hj,if_pos rfl]
  rw[this]
  simp[Bool.or_comm]
def aL (e:Ins->Int) (xs:List Ln) (m:Nat):List Int:=(List.range m).flatMap fun i=>(ins xs i).map e
theorem dH (e:Ins->Int) (xs:List Ln) (m:Nat):aL e xs (m+1)=aL e xs m ++ (ins xs m).map e:=by
 unfold aL;rw[List.range_succ,List.flatMap_append];simp
def nD (v:Int) (n:Nat):List Int:=(List.range n).map fun i=>v / 256 ^ i % 256
theorem RU (v:Int) (n:Nat):nD v (n+1)=nD v n ++ [v / 256 ^ n % 256]:=by
 unfold nD;rw[List.range_succ,List.map_append];rfl
theorem ML (v:Int) (n:Nat):(nD v n).length=n:=by simp[nD]
theorem RV (v:Int) (n:Nat):v / 256 ^ n / 256=v / 256 ^ (n+1):=by
 rw[Int.pow_succ,Int.ediv_ediv_of_nonneg (Int.le_of_lt (Int.pow_pos (by decide)))]
def uC (xs:List Ln) (x:Ln):Int:=if x.s=⟨#[]⟩ then x.n else wd (gT xs x.s+x.n)
def dat (xs:List Ln) (i:Nat):List Int:=
 if (gl xs i).k=15\/(gl xs i).k=16 then List.replicate (fK (gl xs i) (cu xs i).b).toNat 0
 else if vR (gl xs i).k then nD (uC xs (gl xs i)) (fK (gl xs i) (cu xs i).b).toNat else []
theorem MM (xs:List Ln) (i:Nat) (h:sG (gl xs i)) (hb:0<=(cu xs i).b) (hd:vR (gl xs i).k=true):((dat xs i).length:Int)=fK (gl xs i) (cu xs i).b:=by
 have:=(uN h _ hb).1
 unfold dat
 split
 ·rw[List.length_replicate];omega
 ·rw[ML];omega
def aH (xs:List Ln) (m:Nat):List Int:=(List.range m).flatMap fun i=>dat xs i
theorem dZ (xs:List Ln) (m:Nat):aH xs (m+1)=aH xs m ++ dat xs m:=by
 unfold aH;rw[List.range_succ,List.flatMap_append];simp
theorem eB (e:Ins->Int) (xs:List Ln) (h:∀ i,i<xs.length->sG (gl xs i)) (hm:∀ i,i<xs.length->dU xs i=false):∀ i,i<=xs.length->4*((aL e xs i).length:Int)=(cu xs i).t/\((aH xs i).length:Int)=(cu xs i).b:=by
 intro i
 induction i with
 | zero=>intro _;rw[LZ];exact⟨rfl,rfl⟩
 | succ i ih=>
  intro hi
  obtain⟨i1,i2⟩:=ih (by omega)
  have hB:=h i (by omega)
  have hs:=hm i (by omega)
  have hb:=(jO xs h i (by omega)).2.1
  unfold dU at hs
  rw[oK xs i (by omega)]at hs ⊢
  rw[dH,dZ,List.length_append,List.length_append,List.length_map]
  have hl:((ins xs i).length:Int)=xI (gl xs i):=RQ _ _ _
  have wP:=MB (gl xs i)
  have hdl:=MM xs i hB hb
  have hd0:vR (gl xs i).k=false->(dat xs i).length=0:=fun q=>by
   have q':(gl xs i).k<12:=by simpa [vR] using q
   unfold dat;rw[if_neg (by omega),q,if_neg (by simp)];rfl
  have hw0:wN (gl xs i).k=false->xI (gl xs i)=0:=fun q=>by
   have q':¬ (2<=(gl xs i).k/\(gl xs i).k<=9):=by simpa [wN] using q
   unfold xI;rw[if_neg (by omega),if_neg q']
  have ht1:(gl xs i).k=1->zJ (gl xs i)=0:=fun q=>by unfold zJ;rw[if_pos q]
  have hdz:∀ b,vR (gl xs i).k=false->fK (gl xs i) b=0:=fun b q=>by
   have q':(gl xs i).k<12:=by simpa [vR] using q
   unfold fK;rw[if_neg (by omega),if_neg (by omega),if_neg (by omega),if_neg (by omega),if_neg (by omega)]
  have hT:wN (gl xs i).k=decide (2<=(gl xs i).k/\(gl xs i).k<=9):=rfl
  have hD:vR (gl xs i).k=decide (12<=(gl xs i).k):=rfl
  obtain⟨hk,_,_⟩:=hB
  unfold kV.pass at hs ⊢
  by_cases e1:(gl xs i).k=10
  ·rw[if_pos e1];dsimp only
   have a1:=hw0 (by rw[hT,e1];rfl)
   have a2:=hd0 (by rw[hD,e1];rfl)
   omega
  rw[if_neg e1]at hs ⊢
  by_cases e2:(gl xs i).k=11
  ·rw[if_pos e2];dsimp only
   have a1:=hw0 (by rw[hT,e2];rfl)
   have a2:=hd0 (by rw[hD,e2];rfl)
   omega
  rw[if_neg e2]at hs ⊢
  cases hd:(cu xs i).d
  ·rw[hd,if_neg (by simp)]at hs;rw[if_neg (by simp)]
   dsimp only at hs ⊢
   have a0:vR (gl xs i).k=false:=by simpa using hs
   have a2:=hd0 a0
   cases hT':wN (gl xs i).k
   ·have a1:=hw0 hT'
    have a3:=ht1 (by have q1:=hT'; have q2:=a0;rw[hT]at q1;rw[hD]at q2;simp at q1 q2;omega)
    omega
   ·have a1:=wP hT'
    omega
  ·rw[hd,if_pos rfl]at hs;rw[if_pos rfl]
   dsimp only at hs ⊢
   have a0:wN (gl xs i).k=false:=by simpa using hs
   have a1:=hw0 a0
   cases hD':vR (gl xs i).k
   ·have a2:=hd0 hD'
    have a3:=hdz (cu xs i).b hD'
    omega
   ·have a2:=hdl hD'
    omega
def gI (ok:Nat->Bool) (xs:List Ln) (stack:Int):Int × Int:=
 if 20000<xs.length then (1,20000)
 else if 0<=aV (fun i=>!ok i) xs.length then (1,aV (fun i=>!ok i) xs.length)
 else if 0<=aV (dU xs) xs.length then (2,aV (dU xs) xs.length)
 else if 0<=aV (twice xs) xs.length then (3,aV (twice xs) xs.length)
 else if 0<=aV (lost xs) xs.length then (4,aV (lost xs) xs.length)
 else if (cu xs xs.length).t=0\/65536<(cu xs xs.length).t then (5,0)
 else if 65536<(cu xs xs.length).b then (6,0)
 else if 0<=aV (dQ xs) xs.length then (7,aV (dQ xs) xs.length)
 else match lb xs ⟨#[95,115,116,97,114,116]⟩ with
  | none=>(8,0)
  | some j=>if (cu xs j).d=true\/(cu xs xs.length).t<=(cu xs j).t then (8,0)
   else if 0<=stack/\stack<=65536/\stack % 16=0 then (0,0) else (9,0)
theorem rM (c:kV) (x:Ln):(c.pass x).d=if x.k=10 then false else if x.k=11 then true else c.d:=by
 unfold kV.pass
 split
 ·rfl
 split
 ·rfl
 split <;> rfl
theorem gJ {p:Nat->Bool} {k:Nat} (h:∀ j,j<k->p j=false) (hk:p k=false):∀ j,j<k+1->p j=false:=fun j hj=>by
 rcases Nat.lt_or_ge j k with q | q
 ·exact h j q
 ·have:j=k:=by omega
  rw[this];exact hk
end Go.Proofs.YtlbomnnldkeocaaGreat.Pl
namespace Go.Proofs.YtlbomnnldkeocaaGreat.W
open Go.RowKit
theorem jE.at {lo:Nat} {w:World} {a:Option Addr} {len cap:Nat} {xs:List Pl.Ln} (h:jE lo w a len cap xs) (k:Nat) (hk:k<len):∃ b off,a=some ⟨b,off,none⟩/\lo<=b/\b<w.heap.size/\(Pl.gl xs k).s.size<=maxLen/\
  w.cell? ⟨b,off+k*8,none⟩=some (.int .i64 (Pl.gl xs k).k)/\w.cell? ⟨b,off+k*8+1,none⟩=some (.int .i64 (Pl.gl xs k).op)/\w.cell? ⟨b,off+k*8+2,none⟩=some (.int .i64 (Pl.gl xs k).rd)/\w.cell? ⟨b,off+k*8+3,none⟩=some (.int .i64 (Pl.gl xs k).r1)/\
  w.cell? ⟨b,off+k*8+4,none⟩=some (.int .i64 (Pl.gl xs k).r2)/\w.cell? ⟨b,off+k*8+5,none⟩=some (.int .i64 (Pl.gl xs k).im)/\w.cell? ⟨b,off+k*8+6,none⟩=some (.string (Pl.gl xs k).s)/\w.cell? ⟨b,off+k*8+7,none⟩=some (.int .i64 (Pl.gl xs k).n):=by
 obtain⟨⟨h1,h1'⟩,h2,h3,h4⟩:=h
 rcases h4 with h4 | ⟨b,off,ha,hlo,hlt,hc⟩
 ·omega
 ·refine⟨b,off,ha,hlo,hlt,?_,hc k hk 0 (by decide),hc k hk 1 (by decide),hc k hk 2 (by decide),hc k hk 3 (by decide),hc k hk 4 (by decide),hc k hk 5 (by decide),hc k hk 6 (by decide),hc k hk 7 (by decide)⟩
  unfold Pl.gl
  rw[List.getD_eq_getElem?_getD,List.getElem?_eq_getElem (by rw[h1];exact hk)]
  exact h1' _ (List.getElem_mem _)
theorem jE.len {lo:Nat} {w:World} {a:Option Addr} {len cap:Nat} {xs:List Pl.Ln} (h:jE lo w a len cap xs):xs.length=len/\(len:Int)<=9223372036854775807:=by
 have h3:=h.2.2.1
 have h2:=h.2.1
 refine⟨h.1.1,?_⟩
 unfold maxLen at h3;omega
theorem JL {lo:Nat} (a:Option Addr) (len cap:Nat) (xs:List Pl.Ln) (w:World) (h:jE lo w a len cap xs):Calls Tryz.prog 21 #[.slice a len cap] w fun e w'=>e=.returned (.int .i64 (Pl.aV (Pl.mixed xs) xs.length))/\w'=w:=by
 have H:Hid (jE lo w a len cap xs):=h
 obtain⟨hL,hm⟩:=h.len
 clear h
 go_enter Tryz.func21,Tryz.ntmps21
 go_wp2_with fail
 go_loopw [3,4] (fun t i wr=>∃ k:Nat,k<=len/\i=.int .i64 k/\t=.bool (!(Pl.cu xs k).d)/\(∀ j,j<k->Pl.mixed xs j=false)/\wr=w) (fun _ i _=>len-(intOf i).toNat)
 case atStart=>exact⟨0,Nat.zero_le _,rfl,rfl,fun j hj=>absurd hj (Nat.not_lt_zero _),rfl⟩
 case round=>
  obtain⟨k,hk,rfl,rfl,hall,rfl⟩:=hrel
  have HA:Hid (∀ j,j<k->Pl.mixed xs j=false):=hall
  clear hall
  by_cases hlt:k<len
  ·have hi:(k:Int)<(len:Int):=by omega
   obtain⟨b,off,rfl,hlo,hb1,hs,c0,c1,c2,c3,c4,c5,c6,c7⟩:=H.out.at k hlt
   have Bg:Hid (Pl.cu xs (k+1)=(Pl.cu xs k).pass (Pl.gl xs k)):=Pl.oK xs k (by omega)
   have hmx:Hid (Pl.mixed xs k=(!((Pl.gl xs k).k == 10) && !((Pl.gl xs k).k == 11) && !((Pl.gl xs k).k == 1) && !((!(Pl.cu xs k).d) == decide ((Pl.gl xs k).k<10)))):=rfl
   generalize hd:(Pl.cu xs k).d=d at *
   have HD:Hid ((Pl.cu xs k).d=d):=hd
   clear hd
   generalize Pl.gl xs k=x at *
   have HN:x.k=10\/x.k=11\/(x.k≠10/\x.k≠11):=by omega
   go_wp2
   case roundEnd=>
    refine⟨⟨k+1,by omega,by go_num,?_,?_,trivial⟩,by simp[intOf];omega⟩
    ·rw[Bg.out,Pl.rM,HD.out];simp_all
    ·exact Pl.gJ HA.out (by rw[hmx.out];simp_all)
   case roundEnd=>
    refine⟨⟨k+1,by omega,by go_num,?_,?_,trivial⟩,by simp[intOf];omega⟩
    ·rw[Bg.out,Pl.rM,HD.out];simp_all
    ·exact Pl.gJ HA.out (by rw[hmx.out];simp_all)
   case roundEnd=>
    refine⟨⟨k+1,by omega,by go_num,?_,?_,trivial⟩,by simp[intOf];omega⟩
    ·rw[Bg.out,Pl.rM,HD.out];simp_all
    ·exact Pl.gJ HA.out (by rw[hmx.out];simp_all)
   ·go_ret
    refine⟨?_,rfl⟩
    rw[Pl.kS _ _ k (by omega) (by rw[hmx.out];simp_all) HA.out]
    rfl
   case roundEnd=>
    refine⟨⟨k+1,by omega,by go_num,?_,?_,trivial⟩,by simp[intOf];omega⟩
    ·rw[Bg.out,Pl.rM,HD.out];simp_all
    ·exact Pl.gJ HA.out (by rw[hmx.out];simp_all)
  ·have hkk:k=len:=by omega
   have hi:¬ ((k:Int)<(len:Int)):=by omega
   go_wp2
   go_ret
   refine⟨?_,rfl⟩
   rw[Pl.iV _ _ (fun j hj=>HA.out j (by omega))]
   rfl
end Go.Proofs.YtlbomnnldkeocaaGreat.W
namespace Go.Proofs.YtlbomnnldkeocaaGreat.Pl
theorem MN (x s:ByteArray):(x.toList == s.toList)=decide (x=s):=by
 rw[ByteArray.toList_eq,ByteArray.toList_eq,Bool.eq_iff_iff,beq_iff_eq,decide_eq_true_eq]
 constructor
 ·intro h
  obtain⟨⟨a⟩⟩:=x
  obtain⟨⟨b⟩⟩:=s
  have:a=b:=h
  rw[this]
 ·rintro rfl;rfl
theorem jU (s:ByteArray):decide (s=⟨#[]⟩)=s.toList.isEmpty:=by
 rw[ByteArray.toList_eq,Bool.eq_iff_iff,List.isEmpty_iff,decide_eq_true_eq]
 constructor
 ·rintro rfl;rfl
 ·intro h
  obtain⟨⟨a⟩⟩:=s
  have:a=[]:=h
  rw[this]
theorem getD_take (L:List Nat) (p q:Nat) (h:q<p):(L.take p).getD q 0=L.getD q 0:=by
 rw[List.getD_eq_getElem?_getD,List.getD_eq_getElem?_getD,List.getElem?_take_of_lt h]
def WN (xs:List Ln) (ls:List Nat) (p:Nat):Bool:=decide (0<=IP xs (ls.take p) (gl xs (ls.getD p 0)).s)
def Jy (xs:List Ln) (ls:List Nat):Int:=if aV (WN xs ls) ls.length<0 then -1 else ((ls.getD (aV (WN xs ls) ls.length).toNat 0:Nat):Int)
theorem WO (xs:List Ln) (ls:List Nat) (p:Nat) (hp:p<ls.length):WN xs ls p=true↔∃ q,q<p/\(gl xs (ls.getD q 0)).s=(gl xs (ls.getD p 0)).s:=by
 unfold WN IP
 rw[decide_eq_true_eq]
 have hl:(ls.take p).length=p:=by rw[List.length_take];omega
 rw[hl]
 rcases mE (fun q=>decide ((gl xs ((ls.take p).getD q 0)).s=(gl xs (ls.getD p 0)).s)) p with ⟨h1,h2⟩ | ⟨k,hk,h1,h2,h3⟩
 ·rw[h1]
  constructor
  ·intro c;omega
  ·rintro⟨q,hq,e⟩
   have:=h2 q hq
   rw[getD_take _ _ _ hq,e]at this
   simp at this
 ·rw[h1]
  refine⟨fun _=>⟨k,hk,?_⟩,fun _=>by omega⟩
  rw[getD_take _ _ _ hk]at h2
  simpa using h2
theorem OL (xs:List Ln):Jy xs (cZ xs xs.length)=aV (twice xs) xs.length:=by
 have hS:=rH xs xs.length
 have hM:∀ i,i∈cZ xs xs.length↔i<xs.length/\(gl xs i).k=1:=fun i=>BN
 unfold Jy
 generalize cZ xs xs.length=L at *
 have hg:∀ k (hk:k<L.length),L.getD k 0=L[k]:=fun k hk=>by rw[List.getD_eq_getElem?_getD,List.getElem?_eq_getElem hk];rfl
 have hlt:∀ p q (hp:p<L.length) (hq:q<L.length),L[p]<L[q]->p<q:=fun p q hp hq h=>by
  apply Classical.byContradiction
  intro hn
  rcases Nat.lt_or_ge q p with c | c
  ·have:=List.pairwise_iff_getElem.1 hS q p hq hp c
   omega
  ·have:p=q:=by omega
   subst this;omega
 have wP:∀ p (hp:p<L.length),WN xs L p=twice xs L[p]:=fun p hp=>by
  obtain⟨m1,m2⟩:=(hM L[p]).1 (List.getElem_mem hp)
  rw[Bool.eq_iff_iff,WO xs L p hp,qX m1,hg p hp]
  constructor
  ·rintro⟨q,hq,e⟩
   rw[hg q (by omega)]at e
   refine⟨m2,L[q],List.pairwise_iff_getElem.1 hS q p (by omega) hp hq,((hM L[q]).1 (List.getElem_mem _)).2,e⟩
  ·rintro⟨_,j,hj,e1,e2⟩
   obtain⟨q,hq,he⟩:=List.mem_iff_getElem.1 ((hM j).2 ⟨by omega,e1⟩)
   refine⟨q,hlt q p hq hp (by omega),?_⟩
   rw[hg q hq,he];exact e2
 rcases mE (WN xs L) L.length with ⟨h1,h2⟩ | ⟨k,hk,h1,h2,h3⟩
 ·rw[h1,if_pos (by omega),iV]
  intro j hj
  cases hc:twice xs j
  ·rfl
  obtain⟨e1,_⟩:=(qX hj).1 hc
  obtain⟨q,hq,he⟩:=List.mem_iff_getElem.1 ((hM j).2 ⟨hj,e1⟩)
  rw[<- he,<- wP q hq,h2 q hq]at hc
  cases hc
 ·rw[h1,if_neg (by omega),Int.toNat_natCast,hg k hk]
  rw[kS (twice xs) xs.length L[k] ((hM L[k]).1 (List.getElem_mem hk)).1 (by rw[<- wP k hk];exact h2)]
  intro j hj
  have hjl:j<xs.length:=by have:=((hM L[k]).1 (List.getElem_mem hk)).1;omega
  cases hc:twice xs j
  ·rfl
  obtain⟨e1,_⟩:=(qX hjl).1 hc
  obtain⟨q,hq,he⟩:=List.mem_iff_getElem.1 ((hM j).2 ⟨hjl,e1⟩)
  rw[<- he,<- wP q hq,h3 q (hlt q k hq hk (by omega))]at hc
  cases hc
def Bh (xs:List Ln) (ls:List Nat) (i:Nat):Bool:=!decide ((gl xs i).s=⟨#[]⟩) && !((gl xs i).k == 1) && decide (IP xs ls (gl xs i).s<0)
theorem RX (xs:List Ln) (i:Nat) (hi:i<xs.length):Bh xs (cZ xs xs.length) i=lost xs i:=by
 unfold Bh lost
 rw[Bool.eq_iff_iff]
 simp only[Bool.and_eq_true,Bool.not_eq_true',decide_eq_true_eq,decide_eq_false_iff_not,beq_eq_false_iff_ne]
 rcases IZ xs (gl xs i).s with ⟨h1,h2⟩ | ⟨p,hp,h1,h2⟩
 ·rw[h1,h2]
  refine⟨fun h=>⟨h.1.1,rfl⟩,fun h=>⟨⟨h.1,fun c=>?_⟩,by decide⟩⟩
  exact BM.1 h2 i hi c rfl
 ·rw[h1,h2]
  exact⟨fun h=>by have:=h.2;omega,fun h=>by have:=h.2;cases this⟩
end Go.Proofs.YtlbomnnldkeocaaGreat.Pl
namespace Go.Proofs.YtlbomnnldkeocaaGreat.W
open Go.RowKit
def nE (w:World) (a:Option Addr) (len cap:Nat) (xs:List Pl.Ln) (ls:List Nat):Prop:=
 ls.length=len/\len<=cap/\cap<=maxLen/\(len=0\/∃ b off,a=some ⟨b,off,none⟩/\b<w.heap.size/\∀ p,p<len->
  w.cell? ⟨b,off+p*4,none⟩=some (.string (Pl.gl xs (ls.getD p 0)).s)/\w.cell? ⟨b,off+p*4+1,none⟩=some (.int .i64 (ls.getD p 0:Nat))/\w.cell? ⟨b,off+p*4+2,none⟩=some (.int .i64 (Pl.cu xs (ls.getD p 0)).at)/\w.cell? ⟨b,off+p*4+3,none⟩=some (.bool (!(Pl.cu xs (ls.getD p 0)).d)))
theorem nE.keep {w w':World} {a:Option Addr} {len cap:Nat} {xs:List Pl.Ln} {ls:List Nat} (h:nE w a len cap xs ls) (hb:Below w.heap.size w w'):nE w' a len cap xs ls:=by
 obtain⟨h1,h2,h3,h4⟩:=h
 refine⟨h1,h2,h3,?_⟩
 rcases h4 with h4 | ⟨b,off,ha,hlt,hc⟩
 ·exact .inl h4
 ·refine .inr ⟨b,off,ha,Nat.lt_of_lt_of_le hlt hb.size,fun p hp=>?_⟩
  obtain⟨c0,c1,c2,c3⟩:=hc p hp
  exact⟨(hb.cell (p:=⟨b,off+p*4,none⟩) hlt).trans c0,(hb.cell (p:=⟨b,off+p*4+1,none⟩) hlt).trans c1,(hb.cell (p:=⟨b,off+p*4+2,none⟩) hlt).trans c2,(hb.cell (p:=⟨b,off+p*4+3,none⟩) hlt).trans c3⟩
theorem jV (a:Option Addr) (len cap:Nat) (xs:List Pl.Ln) (ls:List Nat) (s:ByteArray) (w:World) (h:nE w a len cap xs ls):Calls Tryz.prog 26 #[.slice a len cap,.string s] w fun e w'=>e=.returned (.int .i64 (Pl.IP xs ls s))/\w'=w:=by
 have H:Hid (nE w a len cap xs ls):=h
 have hL:ls.length=len:=h.1
 have hm:(len:Int)<=9223372036854775807:=by
  have h3:=h.2.2.1
  have h2:=h.2.1
  unfold maxLen at h3;omega
 clear h
 go_enter Tryz.func26,Tryz.ntmps26
 go_wp2_with fail
 go_loopw [5] (fun i wr=>∃ k:Nat,k<=len/\i=.int .i64 k/\(∀ j,j<k->(decide ((Pl.gl xs (ls.getD j 0)).s=s))=false)/\wr=w) (fun i _=>len-(intOf i).toNat)
 case atStart=>exact⟨0,Nat.zero_le _,rfl,fun j hj=>absurd hj (Nat.not_lt_zero _),rfl⟩
 case round=>
  obtain⟨k,hk,rfl,hall,rfl⟩:=hrel
  have HA:Hid (∀ j,j<k->(decide ((Pl.gl xs (ls.getD j 0)).s=s))=false):=hall
  clear hall
  by_cases hlt:k<len
  ·have hi:(k:Int)<(len:Int):=by omega
   obtain⟨b,off,rfl,hb1,hc⟩:∃ b off,a=some ⟨b,off,none⟩/\b<wr.heap.size/\_:=H.out.2.2.2.resolve_left (by omega)
   obtain⟨c0,c1,c2,c3⟩:=hc k hlt
   have HC:Hid (∀ p,p<len->_):=hc
   clear hc
   generalize hx:(Pl.gl xs (ls.getD k 0)).s=x at *
   have HX:Hid ((Pl.gl xs (ls.getD k 0)).s=x):=hx
   clear hx
   go_wp2
   ·rename_i he
    rw[Pl.MN]at he
    go_ret
    refine⟨?_,rfl⟩
    unfold Pl.IP
    rw[Pl.kS _ _ k (by omega) (by rw[HX.out];exact he) HA.out]
    rfl
   case roundEnd=>
    rename_i he
    rw[Pl.MN]at he
    refine⟨⟨k+1,by omega,by go_num,?_,trivial⟩,by simp[intOf];omega⟩
    exact Pl.gJ (p:=fun j=>decide ((Pl.gl xs (ls.getD j 0)).s=s)) HA.out (by show decide _=_;rw[HX.out];exact he)
  ·have hkk:k=len:=by omega
   have hi:¬ ((k:Int)<(len:Int)):=by omega
   go_wp2
   go_ret
   refine⟨?_,rfl⟩
   unfold Pl.IP
   rw[Pl.iV _ _ (fun j hj=>HA.out j (by omega))]
   rfl
theorem nE.take {w:World} {a:Option Addr} {len cap:Nat} {xs:List Pl.Ln} {ls:List Nat} (h:nE w a len cap xs ls) (k:Nat) (hk:k<=len):nE w a k cap xs (ls.take k):=by
 obtain⟨h1,h2,h3,h4⟩:=h
 refine⟨by rw[List.length_take];omega,by omega,h3,?_⟩
 rcases h4 with h4 | ⟨b,off,ha,hlt,hc⟩
 ·exact .inl (by omega)
 ·exact .inr ⟨b,off,ha,hlt,fun p hp=>by rw[Pl.getD_take _ _ _ hp];exact hc p (by omega)⟩
theorem rO (a:Option Addr) (len cap:Nat) (xs:List Pl.Ln) (ls:List Nat) (w:World) (h:nE w a len cap xs ls):Calls Tryz.prog 23 #[.slice a len cap] w fun e w'=>e=.returned (.int .i64 (Pl.Jy xs ls))/\Below w.heap.size w w':=by
 have H:Hid (nE w a len cap xs ls):=h
 have hL:ls.length=len:=h.1
 have hcap:len<=cap:=h.2.1
 have hm:(cap:Int)<=9223372036854775807:=by
  have h3:=h.2.2.1
  unfold maxLen at h3;omega
 clear h
 go_enter Tryz.func23,Tryz.ntmps23
 go_wp2_with fail
 go_loopw [3] (fun i wr=>∃ k:Nat,k<=len/\i=.int .i64 k/\(∀ j,j<k->Pl.WN xs ls j=false)/\Below w.heap.size w wr) (fun i _=>len-(intOf i).toNat)
 case atStart=>exact⟨0,Nat.zero_le _,rfl,fun j hj=>absurd hj (Nat.not_lt_zero _),Below.refl _ _⟩
 case round=>
  obtain⟨k,hk,rfl,hall,hbel⟩:=hrel
  have HA:Hid (∀ j,j<k->Pl.WN xs ls j=false):=hall
  have HB:Hid (Below w.heap.size w wr):=hbel
  clear hall hbel
  by_cases hlt:k<len
  ·have hi:(k:Int)<(len:Int):=by omega
   have HR:Hid (nE wr a len cap xs ls):=H.out.keep HB.out
   obtain⟨b,off,rfl,hb1,hc⟩:∃ b off,a=some ⟨b,off,none⟩/\b<wr.heap.size/\_:=HR.out.2.2.2.resolve_left (by omega)
   obtain⟨c0,c1,c2,c3⟩:=hc k hlt
   have HC:Hid (∀ p,p<len->_):=hc
   clear hc
   obtain⟨x,hx⟩:∃ x,x=(Pl.gl xs (ls.getD k 0)).s:=⟨_,rfl⟩
   obtain⟨y,hy⟩:∃ y,y=ls.getD k 0:=⟨_,rfl⟩
   obtain⟨z,hz⟩:∃ z,z=Pl.IP xs (ls.take k) x:=⟨_,rfl⟩
   rw[<- hx]at c0
   rw[<- hy]at c1
   have HP:Hid (Pl.WN xs ls k=decide (0<=z)):=by rw[hz,hx];rfl
   have HY:Hid (y=ls.getD k 0):=hy
   have HW:Hid (∀ n,Calls Tryz.prog 26 #[.slice (some ⟨b,off,none⟩) k cap,.string x] (wr.drewN n) fun e u'=>e=.returned (.int .i64 z)/\∃ q,u'=(wr.drewN n).drewN q):=fun n=>by
    rw[hz]
    exact (jV _ _ _ xs (ls.take k) x _ ((HR.out.take k hk).keep (below_drewN (Below.refl _ _) _))).mono fun e w' h=>⟨h.1,0,h.2⟩
   have HD:Hid (∀ n,Below w.heap.size w (wr.drewN n)):=fun n=>below_drewN HB.out n
   clear hx hy hz c2 c3
   have hkc:(k:Int)<=(cap:Int):=by omega
   cases hP:decide (0<=z)
   ·rw[hP]at HP
    have hzn:¬ 0<=z:=by simpa using hP
    go_upto_region 4 with fail
    go_quiet ((go_at_call 26;exact Calls.quiet_of (HW.out _)))
    go_wp2_with fail
    exact⟨⟨k+1,by omega,by go_num,Pl.gJ HA.out HP.out,HD.out _⟩,by simp[intOf];omega⟩
   ·rw[hP]at HP
    have hzn:0<=z:=by simpa using hP
    go_upto_region 4 with fail
    go_quiet ((go_at_call 26;exact Calls.quiet_of (HW.out _)))
    go_wp2_with fail
    go_ret
    refine⟨?_,HD.out _⟩
    unfold Pl.Jy
    rw[Pl.kS _ _ k (by omega) HP.out HA.out,if_neg (by omega),Int.toNat_natCast,<- HY.out]
    rfl
  ·have hkk:k=len:=by omega
   have hi:¬ ((k:Int)<(len:Int)):=by omega
   go_wp2
   go_ret
   refine⟨?_,HB.out⟩
   unfold Pl.Jy
   rw[Pl.iV _ _ (fun j hj=>HA.out j (by omega))]
   rfl
theorem vY {lo:Nat} (a:Option Addr) (len cap:Nat) (xs:List Pl.Ln) (la:Option Addr) (ll lc:Nat) (ls:List Nat) (w:World) (h:jE lo w a len cap xs) (hl:nE w la ll lc xs ls):Calls Tryz.prog 24 #[.slice a len cap,.slice la ll lc] w fun e w'=>e=.returned (.int .i64 (Pl.aV (Pl.Bh xs ls) xs.length))/\w'=w:=by
 have H:Hid (jE lo w a len cap xs):=h
 obtain⟨hL,hm⟩:=h.len
 clear h
 have HW:Hid (∀ s,Calls Tryz.prog 26 #[.slice la ll lc,.string s] w fun e w'=>e=.returned (.int .i64 (Pl.IP xs ls s))/\w'=w):=fun s=>jV _ _ _ xs ls s w hl
 clear hl
 go_enter Tryz.func24,Tryz.ntmps24
 go_wp2_with fail
 go_loopw [5] (fun i wr=>∃ k:Nat,k<=len/\i=.int .i64 k/\(∀ j,j<k->Pl.Bh xs ls j=false)/\wr=w) (fun i _=>len-(intOf i).toNat)
 case atStart=>exact⟨0,Nat.zero_le _,rfl,fun j hj=>absurd hj (Nat.not_lt_zero _),rfl⟩
 case round=>
  obtain⟨k,hk,rfl,hall,rfl⟩:=hrel
  have HA:Hid (∀ j,j<k->Pl.Bh xs ls j=false):=hall
  clear hall
  by_cases hlt:k<len
  ·have hi:(k:Int)<(len:Int):=by omega
   obtain⟨b,off,rfl,hlo,hb1,hs,c0,c1,c2,c3,c4,c5,c6,c7⟩:=H.out.at k hlt
   have HP:Hid (Pl.Bh xs ls k=(!(Pl.gl xs k).s.toList.isEmpty && !((Pl.gl xs k).k == 1) && decide (Pl.IP xs ls (Pl.gl xs k).s<0))):=by
    show Pl.Bh xs ls k=_
    rw[<- Pl.jU];rfl
   have F8:=HW.out (Pl.gl xs k).s
   have HWK:Hid (Calls Tryz.prog 26 #[.slice la ll lc,.string (Pl.gl xs k).s] wr fun e w'=>e=.returned (.int .i64 (Pl.IP xs ls (Pl.gl xs k).s))/\w'=wr):=F8
   clear F8
   generalize Pl.IP xs ls (Pl.gl xs k).s=z at *
   generalize Pl.gl xs k=x at *
   go_wp2_with (go_at_call 26;refine HWK.out.mono ?_;rintro e u1 ⟨rfl,rfl⟩)
   case roundEnd=>
    rename_i h1
    exact⟨⟨k+1,by omega,by go_num,Pl.gJ HA.out (by rw[HP.out,h1];rfl),trivial⟩,by simp[intOf];omega⟩
   case roundEnd=>
    rename_i h1 h2
    exact⟨⟨k+1,by omega,by go_num,Pl.gJ HA.out (by rw[HP.out,h2];simp),trivial⟩,by simp[intOf];omega⟩
   ·rename_i h1
    go_ret
    refine⟨?_,rfl⟩
    rw[Pl.kS _ _ k (by omega) (by rw[HP.out];simp[h1.1.1,h1.2];simpa using h1.1.2) HA.out]
    rfl
   case roundEnd=>
    rename_i h1
    refine⟨⟨k+1,by omega,by go_num,Pl.gJ HA.out ?_,trivial⟩,by simp[intOf];omega⟩
    rw[HP.out]
    rcases h1 with (h1 | h1) | h1
    ·rw[h1];rfl
    ·have:(x.k == 1)=true:=by simpa using h1
     rw[this];simp
    ·have:decide (z<0)=false:=by simp;omega
     rw[this];simp
  ·have hkk:k=len:=by omega
   have hi:¬ ((k:Int)<(len:Int)):=by omega
   go_wp2
   go_ret
   refine⟨?_,rfl⟩
   rw[Pl.iV _ _ (fun j hj=>HA.out j (by omega))]
   rfl
end Go.Proofs.YtlbomnnldkeocaaGreat.W
namespace Go.Proofs.YtlbomnnldkeocaaGreat.Pl
def Ln.v (x:Ln):Value:=.agg #[.int .i64 x.k,.int .i64 x.op,.int .i64 x.rd,.int .i64 x.r1,.int .i64 x.r2,.int .i64 x.im,.string x.s,.int .i64 x.n]
theorem nG (x:Ln) (b:Int) (h:x.k<12):fK x b=0:=by
 unfold fK
 rw[if_neg (by omega),if_neg (by omega),if_neg (by omega),if_neg (by omega),if_neg (by omega)]
end Go.Proofs.YtlbomnnldkeocaaGreat.Pl
namespace Go.Proofs.YtlbomnnldkeocaaGreat.W
open Go.RowKit
theorem uP (x:Pl.Ln) (w:World):Calls Tryz.prog 65 #[.agg #[.int .i64 x.k,.int .i64 x.op,.int .i64 x.rd,.int .i64 x.r1,.int .i64 x.r2,.int .i64 x.im,.string x.s,.int .i64 x.n]] w fun e w'=>e=.returned (.int .i64 (Pl.xI x))/\Below w.heap.size w w':=by
 have HS:Hid (∀ u:World,Calls Tryz.prog 102 #[.int .i64 x.n] u fun e w'=>e=.returned (.int .i64 (Pl.sg x.n))/\w'=u):=fun u=>sN x.n u
 have HD:Hid (Pl.xI x=if x.k=5\/(x.k=4/\¬ (-2048<=Pl.sg x.n/\Pl.sg x.n<=2047)) then 2 else if 2<=x.k/\x.k<=9 then 1 else 0):=by
  show Pl.xI x=_
  unfold Pl.xI Pl.shr
  simp only[decide_eq_false_iff_not]
 generalize Pl.sg x.n=g at *
 go_enter Tryz.func65,Tryz.ntmps65
 go_wp2_with (go_at_call 102;refine (HS.out _).mono ?_;rintro e u1 ⟨rfl,rfl⟩)
 all_goals (go_ret;refine⟨?_,by first | exact Below.refl _ _ | exact aB _ _⟩; rw[HD.out])
 all_goals (apply aO;repeat (first | rw[if_pos (by omega)] | rw[if_neg (by omega)]))
theorem RY (n b:Int) (hn:1<=n/\n<=4) (hb:0<=b/\b<=4611686018427387904) (w:World):Calls Tryz.prog 103 #[.int .i64 n,.int .i64 b] w fun e w'=>e=.returned (.int .i64 ((n-b % n) % n))/\w'=w:=by
 have h0:¬ n=0:=by omega
 have h1:b.tmod n=b % n:=Int.tmod_eq_emod_of_nonneg hb.1
 have h2:=Int.emod_nonneg b h0
 have h3:=Int.emod_lt_of_pos b (show 0<n by omega)
 have h4:(n-b % n).tmod n=(n-b % n) % n:=Int.tmod_eq_emod_of_nonneg (by omega)
 go_enter Tryz.func103,Tryz.ntmps103
 go_wp2
 go_ret
 refine⟨aO ?_,rfl⟩
 rw[Int.sub_eq_add_neg,Int.add_comm,Int.add_emod_right]
theorem eO (x:Pl.Ln) (b:Int) (hx:Pl.sG x) (hb:0<=b/\b<=4611686018427387904) (w:World):Calls Tryz.prog 66 #[.agg #[.int .i64 x.k,.int .i64 x.op,.int .i64 x.rd,.int .i64 x.r1,.int .i64 x.r2,.int .i64 x.im,.string x.s,.int .i64 x.n],.int .i64 b] w fun e w'=>e=.returned (.int .i64 (Pl.fK x b))/\Below w.heap.size w w':=by
 obtain⟨⟨h1,h2⟩,h3,h4⟩:=hx
 have HD:Hid (Pl.fK x b=if x.k=12 then 1 else if x.k=13 then 2 else if x.k=14 then 4 else if x.k=15 then x.n else if x.k=16 then (x.n-b % x.n) % x.n else 0):=rfl
 have HP:Hid (x.k=16->∀ u:World,Calls Tryz.prog 103 #[.int .i64 x.n,.int .i64 b] u fun e w'=>e=.returned (.int .i64 ((x.n-b % x.n) % x.n))/\w'=u):=fun q u=>RY x.n b (h4 q) hb u
 clear h3 h4
 by_cases e15:x.k=15
 ·have HE:Hid (Pl.fK x b=x.n):=by show _=_;rw[HD.out];simp[e15]
  rw[e15] at *
  go_enter Tryz.func66,Tryz.ntmps66
  go_wp2
  go_ret
  exact⟨aO HE.out.symm,aB _ _⟩
 by_cases e16:x.k=16
 ·have HE:Hid (Pl.fK x b=(x.n-b % x.n) % x.n):=by show _=_;rw[HD.out];simp[e16]
  have F9:=HP.out e16
  rw[e16] at *
  have HQ:Hid (∀ u:World,Calls Tryz.prog 103 #[.int .i64 x.n,.int .i64 b] u fun e w'=>e=.returned (.int .i64 ((x.n-b % x.n) % x.n))/\w'=u):=F9
  clear HP F9 HD
  generalize (x.n-b % x.n) % x.n=z at *
  go_enter Tryz.func66,Tryz.ntmps66
  go_wp2_with (go_at_call 103;refine (HQ.out _).mono ?_;rintro e u1 ⟨rfl,rfl⟩)
  go_ret
  exact⟨aO HE.out.symm,aB _ _⟩
 rcases (show x.k<12\/x.k=12\/x.k=13\/x.k=14 by omega) with q | q | q | q
 ·go_enter Tryz.func66,Tryz.ntmps66
  go_wp2
  all_goals (go_ret;refine⟨aO ?_,by repeat (first | exact Below.refl _ _ | refine Below.alloc ?_ (by simp <;> omega) _)⟩; rw[Pl.nG x b q])
 ·have HE:Hid (Pl.fK x b=1):=by show _=_;rw[HD.out];simp[q]
  rw[q] at *
  go_enter Tryz.func66,Tryz.ntmps66
  go_wp2
  all_goals (go_ret;exact⟨aO HE.out.symm,by repeat (first | exact Below.refl _ _ | refine Below.alloc ?_ (by simp <;> omega) _)⟩)
 ·have HE:Hid (Pl.fK x b=2):=by show _=_;rw[HD.out];simp[q]
  rw[q] at *
  go_enter Tryz.func66,Tryz.ntmps66
  go_wp2
  all_goals (go_ret;exact⟨aO HE.out.symm,by repeat (first | exact Below.refl _ _ | refine Below.alloc ?_ (by simp <;> omega) _)⟩)
 ·have HE:Hid (Pl.fK x b=4):=by show _=_;rw[HD.out];simp[q]
  rw[q] at *
  go_enter Tryz.func66,Tryz.ntmps66
  go_wp2
  all_goals (go_ret;exact⟨aO HE.out.symm,by repeat (first | exact Below.refl _ _ | refine Below.alloc ?_ (by simp <;> omega) _)⟩)
end Go.Proofs.YtlbomnnldkeocaaGreat.W
namespace Go.Proofs.YtlbomnnldkeocaaGreat.Pl
def rY (l:List Int):List Value:=l.map (Value.int .u8)
theorem BV (l:List Int):(rY l).length=l.length:=by simp[rY]
theorem BX (l m:List Int):rY (l ++ m)=rY l ++ rY m:=by simp[rY]
end Go.Proofs.YtlbomnnldkeocaaGreat.Pl
namespace Go.Proofs.YtlbomnnldkeocaaGreat.W
open Go.RowKit
structure oZ (e:TypeId) (w w':World):Prop where
 size:w.heap.size<=w'.heap.size
 block:∀ (k:Nat) (o:Obj),w.heap[k]?=some o->(∀ cur,o≠.cells cur e (0,0))->w'.heap[k]?=some o
theorem oZ.refl (e:TypeId) (w:World):oZ e w w:=⟨Nat.le_refl _,fun _ _ h _=>h⟩
theorem oZ.trans {e:TypeId} {a b c:World} (h:oZ e a b) (k:oZ e b c):oZ e a c:=⟨Nat.le_trans h.size k.size,fun i o ho hn=>k.block i o (h.block i o ho hn) hn⟩
theorem oZ.below {e:TypeId} {w w':World} (h:Below w.heap.size w w'):oZ e w w':=⟨h.size,fun k o ho _=>(h.block k (Array.getElem?_eq_some_iff.1 ho).1).trans ho⟩
theorem oZ.grown {B:Nat} {e:TypeId} {s n:Nat} {v:Value} {ys:List Value} {w w':World} (h:w.ownsRow B e s v n ys) (hg:w.grownBy w' v.ownBlock):oZ e w w':=by
 refine⟨hg.size,fun k o ho hn=>(hg.block k (Array.getElem?_eq_some_iff.1 ho).1 (fun c=>?_)).trans ho⟩
 rcases h.2 with ⟨rfl,_⟩ | ⟨g,cap,cur,rfl,_,hgg,_⟩
 ·simp[Value.ownBlock]at c
 ·have hk:k=g:=by simpa [Value.ownBlock] using c
  subst hk
  rw[ho]at hgg
  injection hgg with hgg
  exact hn _ hgg
theorem oZ.cell {e:TypeId} {w w':World} (h:oZ e w w') {k j:Nat} {cur:Array Value} {t:TypeId} {f:Nat × Nat} {v:Value} (ho:w.heap[k]?=some (.cells cur t f)) (ht:t≠e) (hc:w.cell? ⟨k,j,none⟩=some v):w'.cell? ⟨k,j,none⟩=some v:=
 (World.cell?_of_block ((h.block k _ ho (fun c q=>ht (by injection q))).trans ho.symm)).trans hc
theorem oZ.owns {e e':TypeId} {B s n:Nat} {v:Value} {ys:List Value} {w w':World} (h:oZ e w w') (hne:e'≠e) (ho:w.ownsRow B e' s v n ys):w'.ownsRow B e' s v n ys:=by
 refine⟨ho.1,?_⟩
 rcases ho.2 with hn | ⟨g,cap,cur,rfl,hb,hgg,rest⟩
 ·exact .inl hn
 ·exact .inr ⟨g,cap,cur,rfl,hb,h.block g _ hgg (fun c q=>hne (by injection q)),rest⟩
theorem AP (w:World) (A:Value) (t:TypeId) (j:Nat) (u:Value) (hj:[A][j]?=some u):(w.alloc (.cells #[A] t)).cell? ((⟨w.heap.size,0,none⟩:Addr).add j)=some u:=by
 rcases j with _ | j
 ·cases hj
  exact cell_of_row _ w.heap.size 0 _ t (0,0) (heap_alloc_new w _)
 ·simp at hj
theorem RZ (B:Nat) (vb:Value) (l:List Int) (v:Int) (m:Nat) (w:World) (hB:B<=w.heap.size) (ho:w.ownsRow B 5 1 vb l.length (Pl.rY l)) (hv:0<=v/\v<=4611686018427387904) (hm:m<=4) (hl:l.length<=4294967296) :
  Calls Tryz.prog 69 #[vb,.int .i64 v,.int .i64 m] w fun e w'=>∃ G7,e=.returned G7/\w'.ownsRow B 5 1 G7 (l ++ Pl.nD v m).length (Pl.rY (l ++ Pl.nD v m))/\Below B w w'/\oZ 5 w w':=by
 obtain⟨i0,hi,hz0,hz1,hz2⟩:=info_parts Tryz.infou8
 have H0:Hid (w.ownsRow B 5 1 vb l.length (Pl.rY l)):=ho
 have HI:Hid (B<=w.heap.size):=hB
 clear ho hB
 go_enter Tryz.func69,Tryz.ntmps69
 go_wp2_with fail
 go_loopw [0,1,7] (fun b x i wr=>∃ k:Nat,k<=m/\i=.int .i64 k/\x=.int .i64 (v / 256 ^ k)/\wr.ownsRow B 5 1 b (l ++ Pl.nD v k).length (Pl.rY (l ++ Pl.nD v k))/\Below B w wr/\oZ 5 w wr) (fun _ _ i _=>m-(intOf i).toNat)
 case atStart=>exact⟨0,Nat.zero_le _,rfl,by simp,by simpa [Pl.nD] using H0.out,Below.refl _ _,oZ.refl _ _⟩
 case round=>
  obtain⟨k,hk,rfl,rfl,hown,hbel,Lm⟩:=hrel
  have HO:Hid (wr.ownsRow B 5 1 _ (l ++ Pl.nD v k).length (Pl.rY (l ++ Pl.nD v k))):=hown
  have HB:Hid (Below B w wr):=hbel
  have HY:Hid (oZ 5 w wr):=Lm
  clear hown hbel Lm H0
  by_cases hlt:k<m
  ·have hi':(k:Int)<(m:Int):=by omega
   have hy:0<=v / 256 ^ k/\v / 256 ^ k<=4611686018427387904:=by
    have p:(0:Int)<256 ^ k:=Int.pow_pos (by decide)
    have q:=Int.ediv_nonneg hv.1 (Int.le_of_lt p)
    have r:=Int.ediv_le_self (256 ^ k) hv.1
    omega
   have hlen:(l ++ Pl.nD v k).length=l.length+k:=by rw[List.length_append,Pl.ML]
   have HS:Hid (l ++ Pl.nD v (k+1)=(l ++ Pl.nD v k) ++ [v / 256 ^ k % 256]):=by show _=_;rw[Pl.RU,List.append_assoc]
   have HN:Hid (v / 256 ^ k / 256=v / 256 ^ (k+1)):=Pl.RV v k
   generalize v / 256 ^ k=y at *
   generalize hL:l ++ Pl.nD v k=L at *
   have h1:y.tmod 256=y % 256:=Int.tmod_eq_emod_of_nonneg hy.1
   have h2:y.tdiv 256=y / 256:=Int.tdiv_eq_ediv_of_nonneg hy.1
   go_wp2_with (at_builtin;refine wpList_append_own _ rfl (.tmp 13) (.tmp 17) 22 rfl B 5 i0 (.int .u8 0) 1 1 Tryz.underlying22 hi hz0 hz1 hz2 rfl (by decide) _ L.length (Pl.rY L) rfl (World.ownsRow.alloc HO.out _) ⟨wr.heap.size,0,none⟩ 1 1 [.int .u8 (y % 256)] rfl rfl (AP wr _ _) (by intro u hu;simp at hu;subst hu;rfl) (by unfold maxLen;simp;omega) (by omega) (by have:=HB.out.size;have:=HI.out;simp;omega) ?_;intro v' u2 hown' hgr _)
   refine⟨⟨k+1,by omega,by go_num,by rw[HN.out],?_,?_,HY.out.trans ((oZ.below (aB wr _)).trans (oZ.grown (World.ownsRow.alloc HO.out _) hgr))⟩,by simp[intOf];omega⟩
   ·rw[HS.out,Pl.BX,List.length_append];exact hown'
   ·exact (HB.out.alloc (Nat.le_trans HI.out HB.out.size) _).grown hgr (by have:=HB.out.size;have:=HI.out;simp;omega) (fun j hj=>(HO.out.lt j hj).1)
  ·have hkk:k=m:=by omega
   have hi':¬ ((k:Int)<(m:Int)):=by omega
   subst hkk
   go_wp2
   go_ret
   refine⟨_,rfl,?_,HB.out,HY.out⟩
   rw[List.length_append] at *
   exact HO.out
theorem JM (vb:Value) (v:Int) (w:World):Calls Tryz.prog 69 #[vb,.int .i64 v,.int .i64 0] w fun e w'=>e=.returned vb/\w'=w:=by
 go_enter Tryz.func69,Tryz.ntmps69
 go_wp2_with fail
 refine wp_loop_rounds 1 ?_
 rw[rounds_succ]
 go_wp2
 go_ret
 exact⟨rfl,rfl⟩
end Go.Proofs.YtlbomnnldkeocaaGreat.W
namespace Go.Proofs.YtlbomnnldkeocaaGreat.Pl
def Ins.cells (x:Ins):Array Value:=#[.int .i64 x.op,.int .i64 x.rd,.int .i64 x.r1,.int .i64 x.r2,.int .i64 x.im]
def Ins.zero:Ins:=⟨0,0,0,0,0⟩
theorem WQ (v:Int):zS (v % 4096) 12=low v:=by
 have e1:pw 11=2048:=by decide
 have e2:pw 12=4096:=by decide
 unfold zS low
 rw[show (Int.toNat 12-1)=11 from rfl,show Int.toNat 12=12 from rfl,e1,e2]
end Go.Proofs.YtlbomnnldkeocaaGreat.Pl
namespace Go.Proofs.YtlbomnnldkeocaaGreat.W
open Go.RowKit
def aY (lo:Nat) (w:World) (a:Option Addr) (n:Nat) (is:List Pl.Ins):Prop:=
 is.length=n/\n<=2/\(n=0\/∃ b,a=some ⟨b,0,none⟩/\lo<=b/\b<w.heap.size/\(∃ cur t f,t≠3/\t≠5/\w.heap[b]?=some (.cells cur t f))/\∀ i,i<n->∀ j,j<5->w.cell? ⟨b,i*5+j,none⟩=(is.getD i Pl.Ins.zero).cells[j]?)
theorem aY.one {lo:Nat} {w:World} {b:Nat} {t:TypeId} {f:Nat × Nat} (x:Pl.Ins) (hlo:lo<=b) (h:w.heap[b]?=some (.cells #[.int .i64 x.op,.int .i64 x.rd,.int .i64 x.r1,.int .i64 x.r2,.int .i64 x.im] t f)) (ht:t≠3/\t≠5:=by decide):aY lo w (some ⟨b,0,none⟩) 1 [x]:=by
 refine⟨rfl,by decide,.inr ⟨b,rfl,hlo,(Array.getElem?_eq_some_iff.1 h).1,⟨_,t,f,ht.1,ht.2,h⟩,fun i hi j hj=>?_⟩⟩
 have:i=0:=by omega
 subst this
 rw[Nat.zero_mul,Nat.zero_add,cell_of_row w b j _ t f h]
 rfl
theorem aY.two {lo:Nat} {w:World} {b:Nat} {t:TypeId} {f:Nat × Nat} (x y:Pl.Ins) (hlo:lo<=b) (h:w.heap[b]?=some (.cells #[.int .i64 x.op,.int .i64 x.rd,.int .i64 x.r1,.int .i64 x.r2,.int .i64 x.im,.int .i64 y.op,.int .i64 y.rd,.int .i64 y.r1,.int .i64 y.r2,.int .i64 y.im] t f)) (ht:t≠3/\t≠5:=by decide):aY lo w (some ⟨b,0,none⟩) 2 [x,y]:=by
 refine⟨rfl,by decide,.inr ⟨b,rfl,hlo,(Array.getElem?_eq_some_iff.1 h).1,⟨_,t,f,ht.1,ht.2,h⟩,fun i hi j hj=>?_⟩⟩
 rw[cell_of_row w b _ _ t f h]
 rcases (show i=0\/i=1 by omega) with rfl | rfl
 all_goals (rcases (show j=0\/j=1\/j=2\/j=3\/j=4 by omega) with rfl | rfl | rfl | rfl | rfl <;> rfl)
theorem AQ (rd v:Int) (hv:0<=v/\v<=4294967295) (w:World):Calls Tryz.prog 104 #[.int .i64 rd,.int .i64 v] w fun e w'=>∃ a,e=.returned (.slice a 2 2)/\aY w.heap.size w' a 2 (Pl.pair rd v)/\Below w.heap.size w w':=by
 have h1:v.tmod 4096=v % 4096:=Int.tmod_eq_emod_of_nonneg hv.1
 have HW:Hid (∀ u:World,Calls Tryz.prog 124 #[.int .i64 (v % 4096),.int .i64 12] u fun e w'=>e=.returned (.int .i64 (Pl.low v))/\w'=u):=fun u=>by
  rw[<- Pl.WQ];exact OJ _ 12 (.inl rfl) (by omega) u
 have hL:=Pl.RS v
 have HX:Hid (∀ u:World,Calls Tryz.prog 70 #[.int .i64 (v-Pl.low v)] u fun e w'=>e=.returned (.int .i64 (Pl.wd (v-Pl.low v)))/\w'=u):=fun u=>kR _ u
 have hD:=Pl.uD (v-Pl.low v)
 have HP:Hid (Pl.pair rd v=[⟨43,rd,0,0,Pl.wd (v-Pl.low v) / 4096⟩,⟨19,rd,rd,0,Pl.low v⟩]):=rfl
 generalize Pl.low v=l at *
 generalize Pl.wd (v-l)=z at *
 have h2:z.tdiv 4096=z / 4096:=Int.tdiv_eq_ediv_of_nonneg hD.1
 go_enter Tryz.func104,Tryz.ntmps104
 go_wp2_with (first | (go_at_call 124;refine (HW.out _).mono ?_;rintro e u1 ⟨rfl,rfl⟩) | (go_at_call 70;refine (HX.out _).mono ?_;rintro e u1 ⟨rfl,rfl⟩))
 go_ret
 refine⟨_,rfl,?_,aB _ _⟩
 rw[HP.out]
 exact aY.two _ _ (Nat.le_refl _) (heap_alloc_new _ _)
theorem tO (k:Int) (w:World):Calls Tryz.prog 76 #[.int .i64 k] w fun e w'=>e=.returned (.bool (Pl.wN k))/\w'=w:=by
 go_enter Tryz.func76,Tryz.ntmps76
 go_wp2
 all_goals (go_ret;refine⟨aI ?_,rfl⟩; rw[Bool.eq_iff_iff];simp[Pl.wN] <;> omega)
theorem vZ (k:Int) (w:World):Calls Tryz.prog 77 #[.int .i64 k] w fun e w'=>e=.returned (.bool (Pl.vR k))/\w'=w:=by
 go_enter Tryz.func77,Tryz.ntmps77
 go_wp2
 all_goals (go_ret;refine⟨aI ?_,rfl⟩; rw[Bool.eq_iff_iff];simp[Pl.vR])
theorem uQ (n:Int) (w:World):Calls Tryz.prog 117 #[.int .i64 n] w fun e w'=>e=.returned (.bool (Pl.shr n))/\w'=w:=by
 have HS:Hid (∀ u:World,Calls Tryz.prog 118 #[.int .i64 n] u fun e w'=>e=.returned (.int .i64 (Pl.sg n))/\w'=u):=fun u=>sM n u
 have HD:Hid (Pl.shr n=decide (-2048<=Pl.sg n/\Pl.sg n<=2047)):=rfl
 generalize Pl.sg n=g at *
 go_enter Tryz.func117,Tryz.ntmps117
 go_wp2_with (go_at_call 118;refine (HS.out _).mono ?_;rintro e u1 ⟨rfl,rfl⟩)
 all_goals (go_ret;refine⟨aI ?_,rfl⟩; rw[HD.out,Bool.eq_iff_iff];simp <;> omega)
theorem JN (n:Int) (w:World):Calls Tryz.prog 46 #[.int .i64 n] w fun e w'=>e=.returned (.bool (decide (0<=n/\n<=65536/\n % 16=0)))/\w'=w:=by
 by_cases h0:0<=n
 ·have h1:n.tmod 16=n % 16:=Int.tmod_eq_emod_of_nonneg h0
  go_enter Tryz.func46,Tryz.ntmps46
  go_wp2
  all_goals (go_ret;refine⟨aI ?_,rfl⟩; rw[Bool.eq_iff_iff];simp[h1] <;> omega)
 ·go_enter Tryz.func46,Tryz.ntmps46
  go_wp2
  all_goals (go_ret;refine⟨aI ?_,rfl⟩; rw[Bool.eq_iff_iff];simp <;> omega)
theorem BZ (n:Int) (w:World):Calls Tryz.prog 28 #[.int .i64 n] w fun e w'=>e=.returned (.bool (decide (0<=n/\n<=65536/\n % 16=0)))/\w'=w:=by
 by_cases h0:0<=n
 ·have h1:n.tmod 16=n % 16:=Int.tmod_eq_emod_of_nonneg h0
  go_enter Tryz.func28,Tryz.ntmps28
  go_wp2
  all_goals (go_ret;refine⟨aI ?_,rfl⟩; rw[Bool.eq_iff_iff];simp[h1] <;> omega)
 ·go_enter Tryz.func28,Tryz.ntmps28
  go_wp2
  all_goals (go_ret;refine⟨aI ?_,rfl⟩; rw[Bool.eq_iff_iff];simp <;> omega)
theorem pE (b:Bool) (w:World):Calls Tryz.prog 80 #[.bool b] w fun e w'=>e=.returned (.int .i64 (if b then 0 else -1))/\w'=w:=by
 cases b
 all_goals
  go_enter Tryz.func80,Tryz.ntmps80
  go_wp2
  go_ret
  exact⟨rfl,rfl⟩
theorem FH (x:Pl.Ln) (w:World):Calls Tryz.prog 114 #[.agg #[.int .i64 x.k,.int .i64 x.op,.int .i64 x.rd,.int .i64 x.r1,.int .i64 x.r2,.int .i64 x.im,.string x.s,.int .i64 x.n]] w fun e w'=>e=.returned (.int .i64 (Pl.zJ x))/\Below w.heap.size w w':=by
 have HS:Hid (∀ u:World,Calls Tryz.prog 117 #[.int .i64 x.n] u fun e w'=>e=.returned (.bool (Pl.shr x.n))/\w'=u):=fun u=>uQ x.n u
 have HD:Hid (Pl.zJ x=if x.k=1 then 0 else if x.k=5\/(x.k=4/\Pl.shr x.n=false) then 8 else 4):=rfl
 generalize Pl.shr x.n=g at *
 by_cases e1:x.k=1
 ·have HE:Hid (Pl.zJ x=0):=by show _=_;rw[HD.out];simp[e1]
  rw[e1]
  go_enter Tryz.func114,Tryz.ntmps114
  go_wp2
  go_ret
  exact⟨aO HE.out.symm,aB _ _⟩
 by_cases e5:x.k=5
 ·have HE:Hid (Pl.zJ x=8):=by show _=_;rw[HD.out];simp[e5]
  rw[e5]
  go_enter Tryz.func114,Tryz.ntmps114
  go_wp2
  go_ret
  exact⟨aO HE.out.symm,aB _ _⟩
 by_cases e4:x.k=4
 ·cases g
  ·have HE:Hid (Pl.zJ x=8):=by show _=_;rw[HD.out];simp[e4]
   rw[e4]
   go_enter Tryz.func114,Tryz.ntmps114
   go_wp2_with (go_at_call 117;refine (HS.out _).mono ?_;rintro e u1 ⟨rfl,rfl⟩)
   go_ret
   exact⟨aO HE.out.symm,aB _ _⟩
  ·have HE:Hid (Pl.zJ x=4):=by show _=_;rw[HD.out];simp[e4]
   rw[e4]
   go_enter Tryz.func114,Tryz.ntmps114
   go_wp2_with (go_at_call 117;refine (HS.out _).mono ?_;rintro e u1 ⟨rfl,rfl⟩)
   go_ret
   exact⟨aO HE.out.symm,aB _ _⟩
 ·have HE:Hid (Pl.zJ x=4):=by show _=_;rw[HD.out];simp[e1,e4,e5]
  have q1:(x.k == 1)=false:=by simp;omega
  have q4:(x.k == 4)=false:=by simp;omega
  have q5:(x.k == 5)=false:=by simp;omega
  go_enter Tryz.func114,Tryz.ntmps114
  go_wp2
  go_ret
  exact⟨aO HE.out.symm,aB _ _⟩
theorem wQ (x:Pl.Ln) (b:Int) (hx:Pl.sG x) (hb:0<=b/\b<=4611686018427387904) (w:World):Calls Tryz.prog 113 #[.agg #[.int .i64 x.k,.int .i64 x.op,.int .i64 x.rd,.int .i64 x.r1,.int .i64 x.r2,.int .i64 x.im,.string x.s,.int .i64 x.n],.int .i64 b] w fun e w'=>e=.returned (.int .i64 (Pl.fK x b))/\Below w.heap.size w w':=by
 obtain⟨⟨h1,h2⟩,h3,h4⟩:=hx
 have HD:Hid (Pl.fK x b=if x.k=12 then 1 else if x.k=13 then 2 else if x.k=14 then 4 else if x.k=15 then x.n else if x.k=16 then (x.n-b % x.n) % x.n else 0):=rfl
 rcases (show x.k<12\/x.k=12\/x.k=13\/x.k=14\/x.k=15\/x.k=16 by omega) with q | q | q | q | q | q
 ·have HE:Hid (Pl.fK x b=0):=Pl.nG x b q
  have lV:(x.k == 12)=false:=by simp;omega
  have wR:(x.k == 13)=false:=by simp;omega
  have DF:(x.k == 14)=false:=by simp;omega
  have yI:(x.k == 15)=false:=by simp;omega
  have q16:(x.k == 16)=false:=by simp;omega
  clear h3 h4
  go_enter Tryz.func113,Tryz.ntmps113
  go_wp2
  go_ret
  exact⟨aO HE.out.symm,aB _ _⟩
 ·have HE:Hid (Pl.fK x b=1):=by show _=_;rw[HD.out];simp[q]
  clear h3 h4
  rw[q]
  go_enter Tryz.func113,Tryz.ntmps113
  go_wp2
  go_ret
  exact⟨aO HE.out.symm,aB _ _⟩
 ·have HE:Hid (Pl.fK x b=2):=by show _=_;rw[HD.out];simp[q]
  clear h3 h4
  rw[q]
  go_enter Tryz.func113,Tryz.ntmps113
  go_wp2
  go_ret
  exact⟨aO HE.out.symm,aB _ _⟩
 ·have HE:Hid (Pl.fK x b=4):=by show _=_;rw[HD.out];simp[q]
  clear h3 h4
  rw[q]
  go_enter Tryz.func113,Tryz.ntmps113
  go_wp2
  go_ret
  exact⟨aO HE.out.symm,aB _ _⟩
 ·have HE:Hid (Pl.fK x b=x.n):=by show _=_;rw[HD.out];simp[q]
  clear h3 h4
  rw[q]
  go_enter Tryz.func113,Tryz.ntmps113
  go_wp2
  go_ret
  exact⟨aO HE.out.symm,aB _ _⟩
 ·have HE:Hid (Pl.fK x b=(x.n-b % x.n) % x.n):=by show _=_;rw[HD.out];simp[q]
  have hn:=h4 q
  clear h3 h4
  rw[q]
  generalize x.n=n at *
  have g0:¬ n=0:=by omega
  have g1:b.tmod n=b % n:=Int.tmod_eq_emod_of_nonneg hb.1
  have g2:=Int.emod_nonneg b g0
  have g3:=Int.emod_lt_of_pos b (show 0<n by omega)
  have g4:(n-b % n).tmod n=(n-b % n) % n:=Int.tmod_eq_emod_of_nonneg (by omega)
  go_enter Tryz.func113,Tryz.ntmps113
  go_upto_region 11 with fail
  have c7:(w.alloc (.cells #[.int .i64 16,.int .i64 x.op,.int .i64 x.rd,.int .i64 x.r1,.int .i64 x.r2,.int .i64 x.im,.string x.s,.int .i64 n] 51)).cell? ⟨w.heap.size,7,none⟩=some (.int .i64 n):=cell_of_row _ _ 7 _ 51 (0,0) (heap_alloc_new w _)
  have HB:Hid (Below w.heap.size w (w.alloc (.cells #[.int .i64 16,.int .i64 x.op,.int .i64 x.rd,.int .i64 x.r1,.int .i64 x.r2,.int .i64 x.im,.string x.s,.int .i64 n] 51))):=aB _ _
  generalize (w.alloc (.cells #[.int .i64 16,.int .i64 x.op,.int .i64 x.rd,.int .i64 x.r1,.int .i64 x.r2,.int .i64 x.im,.string x.s,.int .i64 n] 51))=W at *
  go_quiet (fail)
  go_wp2_with fail
  go_ret
  refine⟨aO ?_,below_drewN HB.out _⟩
  rw[HE.out,Int.sub_eq_add_neg,Int.add_comm,Int.add_emod_right]
structure bF (w:World) (g:Nat) (c:Pl.kV):Prop where
 d:w.cell? ⟨g,0,none⟩=some (.bool c.d)
 t:w.cell? ⟨g,1,none⟩=some (.int .i64 c.t)
 b:w.cell? ⟨g,2,none⟩=some (.int .i64 c.b)
 fz:∀ j,w.frozen? ⟨g,j,none⟩=false
 lt:g<w.heap.size
 row:∃ cur,w.heap[g]?=some (.cells cur 69 (0,0))
structure OnlyC (g:Nat) (w w':World):Prop where
 os:w'.os=w.os
 tape:w'.tape=w.tape
 output:w'.output=w.output
 size:w.heap.size<=w'.heap.size
 block:∀ k,k<w.heap.size->k≠g->w'.heap[k]?=w.heap[k]?
theorem OnlyC.of {g:Nat} {w w':World} (h:Below w.heap.size w w'):OnlyC g w w':=⟨h.os,h.tape,h.output,h.size,fun k hk _=>h.block k hk⟩
theorem OnlyC.trans {g:Nat} {a b c:World} (h:OnlyC g a b) (k:OnlyC g b c):OnlyC g a c:=
 ⟨k.os.trans h.os,k.tape.trans h.tape,k.output.trans h.output,Nat.le_trans h.size k.size,fun j hj hn=>(k.block j (Nat.lt_of_lt_of_le hj h.size) hn).trans (h.block j hj hn)⟩
theorem OnlyC.set (g j:Nat) (w:World) (v:Value):OnlyC g w (w.setCell ⟨g,j,none⟩ v):=by
 have h:Below g w (w.setCell ⟨g,j,none⟩ v):=Below.setCell (Below.refl g w) (p:=⟨g,j,none⟩) (Nat.le_refl g) v
 exact⟨h.os,h.tape,h.output,h.size,fun k _ hn=>Below.heap_setCell w _ _ k hn⟩
theorem bF.keep {w w':World} {g:Nat} {c:Pl.kV} (h:bF w g c) (hb:Below w.heap.size w w'):bF w' g c:=
 ⟨(hb.cell (p:=⟨g,0,none⟩) h.lt).trans h.d,(hb.cell (p:=⟨g,1,none⟩) h.lt).trans h.t,(hb.cell (p:=⟨g,2,none⟩) h.lt).trans h.b,fun j=>(hb.frozen (p:=⟨g,j,none⟩) h.lt).trans (h.fz j),Nat.lt_of_lt_of_le h.lt hb.size,by obtain⟨cur,hr⟩:=h.row;exact⟨cur,(hb.block _ h.lt).trans hr⟩⟩
theorem uR (g:Nat) (c:Pl.kV) (w:World) (h:bF w g c) (hb:0<=c.t/\c.t<=1099511627776/\0<=c.b/\c.b<=1099511627776):Calls Tryz.prog 83 #[.pointer (some ⟨g,0,none⟩)] w fun e w'=>e=.returned (.int .i64 c.at)/\w'=w:=by
 obtain⟨hd,ht,hbb,_,_⟩:=h
 have HD:Hid (c.at=if c.d then 1048576+c.b else 65536+c.t):=rfl
 cases hq:c.d
 all_goals
  rw[hq]at hd HD
  go_enter Tryz.func83,Tryz.ntmps83
  go_wp2
  go_ret
  exact⟨aO HD.out.symm,rfl⟩
end Go.Proofs.YtlbomnnldkeocaaGreat.W
