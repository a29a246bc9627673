import Derived.Test.YtjcdiegfnoaedaaGreatDoorZ17
import Derived.RangeFuncNested
import Derived.RangeFuncBound
import Derived.Shelf.RegionOpen
import Derived.OwnWalkIn
import Derived.LoopNIn
import Derived.LoopIn
import Derived.Lib.AppendIntMem
set_option linter.unusedVariables false
set_option linter.unusedSimpArgs false
set_option maxHeartbeats 16000000
namespace Go.Proofs.YtjcdiegfnoaedaaGreatDoor
namespace W
open Go.RowKit
set_option maxRecDepth 100000 in
theorem NF (t:ByteArray) (ht:t.size<=1048576) (hpos:0<t.size) (w:World) (hE:nR w):Calls Tryz.prog 165 #[.string t] w fun e w'=>yZ t e/\Bw w w':=by
 have HE:Hid (nR w):=hE;have hg0:=Pl.aJ t 0 hpos;obtain⟨c,hc⟩:∃c,c=Pl.aD t 0:=⟨_,rfl⟩;rw[<- hc]at hg0;have HC:Hid (c=Pl.aD t 0):=hc;clear hE hc;by_cases LZ:c=39
 ·have e39:(c == 39)=true:=by simp[LZ]
  have HM:Hid (Pl.aD t 0=39):=HC.o.symm.trans LZ;clear LZ;go_enter Tryz.func165,Tryz.ntmps165;go_wp2_with fail
  refine (zA t ht hpos HM.o _ (HE.o.on (aB w _))).mono ?_;rintro e u2 ⟨hs,g2⟩;have Q2:Hid (u2.heap[w.heap.size]?=some (.cells #[.int .i64 0,.string ⟨#[]⟩,.int .i64 0,.int .i64 0,.int .i64 0] 102 (0,0))):=(g2.block w.heap.size (by simp)).trans (heap_alloc_new w _);have B2:Hid (Bw w u2):=(aB w _).trans (g2.mono (by simp));clear g2;unfold yZ at hs;cases hq:Pl.aM t 0 with
  | error f=>
   rw[hq]at hs;obtain⟨q,rfl⟩:=hs;have HT:Hid (Pl.aM t 0=.error f):=hq;clear hq;go_wp2_with (refine wpList_store_row rfl 102 _ _ rfl w.heap.size #[.int .i64 0,.string ⟨#[]⟩,.int .i64 0,.int .i64 0,.int .i64 0] ?hx ?hy 102 #[.int .i64 0,.string ⟨#[]⟩,.int .i64 0,.int .i64 0,.int .i64 0] ?hg ?hi ?ho ?h1 ?_;(case hx=>rfl);(case hy=>rfl);(case hg=>exact Q2.o);(case hi=>kernel_rfl);(case ho=>kernel_rfl);(case h1=>kernel_rfl))
   refine bodyPost_ret (v:=.tuple #[.agg #[.int .i64 0,.string ⟨#[]⟩,.int .i64 0,.int .i64 0,.int .i64 0],.int .i64 q,.int .i64 f]) ?hr ?hdf ?nX
   case hr=>
    refine bE Tryz.results165 _ _ (w.heap.size) 102 #[.int .i64 0,.string ⟨#[]⟩,.int .i64 0,.int .i64 0,.int .i64 0] (0,0) _ (.int .i64 q) (.int .i64 f) ?hp ?hq ?hq2 ?hg Tryz.underlying102 ?hd ?hi
    case hp=>rfl
    case hq=>rfl
    case hq2=>rfl
    case hg=>exact setRow_heap _ _ _ _ _ _ Q2.o
    case hd=>rfl
    case hi=>kernel_rfl
   case hdf=>rfl
   case nX=>exact⟨sH HT.o,below_setRow B2.o (Nat.le_refl _) _⟩
  | ok r=>
   obtain⟨k,S,N,n⟩:=r;rw[hq]at hs;obtain rfl:=hs;have HT:Hid (Pl.aM t 0=.ok (k,S,N,n)):=hq;clear hq;go_wp2_with (refine wpList_store_row rfl 102 _ _ rfl w.heap.size #[.int .i64 k,.string S,.int .i64 N,.int .i64 0,.int .i64 0] ?hx ?hy 102 #[.int .i64 0,.string ⟨#[]⟩,.int .i64 0,.int .i64 0,.int .i64 0] ?hg ?hi ?ho ?h1 ?_;(case hx=>rfl);(case hy=>rfl);(case hg=>exact Q2.o);(case hi=>kernel_rfl);(case ho=>kernel_rfl);(case h1=>kernel_rfl))
   refine bodyPost_ret (v:=.tuple #[.agg #[.int .i64 k,.string S,.int .i64 N,.int .i64 0,.int .i64 0],.int .i64 n,.int .i64 0]) ?hr ?hdf ?nX
   case hr=>
    refine bE Tryz.results165 _ _ (w.heap.size) 102 #[.int .i64 k,.string S,.int .i64 N,.int .i64 0,.int .i64 0] (0,0) _ (.int .i64 n) (.int .i64 0) ?hp ?hq ?hq2 ?hg Tryz.underlying102 ?hd ?hi
    case hp=>rfl
    case hq=>rfl
    case hq2=>rfl
    case hg=>exact setRow_heap _ _ _ _ _ _ Q2.o
    case hd=>rfl
    case hi=>kernel_rfl
   case hdf=>rfl
   case nX=>exact⟨vU HT.o rfl,below_setRow B2.o (Nat.le_refl _) _⟩
 have e39:(c == 39)=false:=by simp[LZ]
 by_cases OZ:c=34
 ·have e34:(c == 34)=true:=by simp[OZ]
  have HM:Hid (Pl.aD t 0=34):=HC.o.symm.trans OZ;clear OZ LZ;go_enter Tryz.func165,Tryz.ntmps165;go_wp2_with fail
  refine (GY t ht hpos HM.o _ (HE.o.on (aB w _))).mono ?_;rintro e u2 ⟨hs,g2⟩;have Q2:Hid (u2.heap[w.heap.size]?=some (.cells #[.int .i64 0,.string ⟨#[]⟩,.int .i64 0,.int .i64 0,.int .i64 0] 102 (0,0))):=(g2.block w.heap.size (by simp)).trans (heap_alloc_new w _);have B2:Hid (Bw w u2):=(aB w _).trans (g2.mono (by simp));clear g2;unfold yZ at hs;cases hq:Pl.aM t 0 with
  | error f=>
   rw[hq]at hs;obtain⟨q,rfl⟩:=hs;have HT:Hid (Pl.aM t 0=.error f):=hq;clear hq;go_wp2_with (refine wpList_store_row rfl 102 _ _ rfl w.heap.size #[.int .i64 0,.string ⟨#[]⟩,.int .i64 0,.int .i64 0,.int .i64 0] ?hx ?hy 102 #[.int .i64 0,.string ⟨#[]⟩,.int .i64 0,.int .i64 0,.int .i64 0] ?hg ?hi ?ho ?h1 ?_;(case hx=>rfl);(case hy=>rfl);(case hg=>exact Q2.o);(case hi=>kernel_rfl);(case ho=>kernel_rfl);(case h1=>kernel_rfl))
   refine bodyPost_ret (v:=.tuple #[.agg #[.int .i64 0,.string ⟨#[]⟩,.int .i64 0,.int .i64 0,.int .i64 0],.int .i64 q,.int .i64 f]) ?hr ?hdf ?nX
   case hr=>
    refine bE Tryz.results165 _ _ (w.heap.size) 102 #[.int .i64 0,.string ⟨#[]⟩,.int .i64 0,.int .i64 0,.int .i64 0] (0,0) _ (.int .i64 q) (.int .i64 f) ?hp ?hq ?hq2 ?hg Tryz.underlying102 ?hd ?hi
    case hp=>rfl
    case hq=>rfl
    case hq2=>rfl
    case hg=>exact setRow_heap _ _ _ _ _ _ Q2.o
    case hd=>rfl
    case hi=>kernel_rfl
   case hdf=>rfl
   case nX=>exact⟨sH HT.o,below_setRow B2.o (Nat.le_refl _) _⟩
  | ok r=>
   obtain⟨k,S,N,n⟩:=r;rw[hq]at hs;obtain rfl:=hs;have HT:Hid (Pl.aM t 0=.ok (k,S,N,n)):=hq;clear hq;go_wp2_with (refine wpList_store_row rfl 102 _ _ rfl w.heap.size #[.int .i64 k,.string S,.int .i64 N,.int .i64 0,.int .i64 0] ?hx ?hy 102 #[.int .i64 0,.string ⟨#[]⟩,.int .i64 0,.int .i64 0,.int .i64 0] ?hg ?hi ?ho ?h1 ?_;(case hx=>rfl);(case hy=>rfl);(case hg=>exact Q2.o);(case hi=>kernel_rfl);(case ho=>kernel_rfl);(case h1=>kernel_rfl))
   refine bodyPost_ret (v:=.tuple #[.agg #[.int .i64 k,.string S,.int .i64 N,.int .i64 0,.int .i64 0],.int .i64 n,.int .i64 0]) ?hr ?hdf ?nX
   case hr=>
    refine bE Tryz.results165 _ _ (w.heap.size) 102 #[.int .i64 k,.string S,.int .i64 N,.int .i64 0,.int .i64 0] (0,0) _ (.int .i64 n) (.int .i64 0) ?hp ?hq ?hq2 ?hg Tryz.underlying102 ?hd ?hi
    case hp=>rfl
    case hq=>rfl
    case hq2=>rfl
    case hg=>exact setRow_heap _ _ _ _ _ _ Q2.o
    case hd=>rfl
    case hi=>kernel_rfl
   case hdf=>rfl
   case nX=>exact⟨vU HT.o rfl,below_setRow B2.o (Nat.le_refl _) _⟩
 have e34:(c == 34)=false:=by simp[OZ]
 cases hw:Pl.kT c
 ·have HT:Hid (Pl.aM t 0=if Pl.uV t=0 then .error 2 else .ok (5,t.extract 0 (Pl.uV t),0,Pl.uV t)):=by
   show Pl.aM t 0=_;unfold Pl.aM;rw[<- HC.o,hw,if_neg (by decide),if_neg LZ,if_neg OZ,Pl.BO,Nat.zero_add]
  have hl:=Pl.EI t;obtain⟨n,hn⟩:∃n,n=Pl.uV t:=⟨_,rfl⟩;have Sw:Hid (∀u,Calls Tryz.prog 183 #[.string t] u fun e w'=>e=.returned (.string (t.extract 0 n))/\w'=u):=fun u=>by rw[hn];exact Dw t ht u
  rw[<- hn]at HT hl;have hD:(t.extract 0 n).size=n:=by rw[Pl.ext_size];omega
  obtain⟨D,Dk⟩:∃D,D=t.extract 0 n:=⟨_,rfl⟩;rw[<- Dk]at HT Sw hD;have hE2:=Pl.isE D;rw[hD]at hE2;clear hn Dk LZ OZ hl;by_cases h0:n=0
  ·have HT2:Hid (Pl.aM t 0=.error 2):=(by show Pl.aM t 0=_;rw[HT.o,if_pos h0]);rw[decide_eq_true h0]at hE2;clear HT h0 hD;go_enter Tryz.func165,Tryz.ntmps165;go_wp2_with (first|(go_at_call 182;refine (wU _ _).mono ?_;rintro e u1 ⟨rfl,hu1⟩;rw[hu1];clear hu1;rw[hw])|(go_at_call 183;refine (Sw.o _).mono ?_;rintro e u1 ⟨rfl,hu1⟩;rw[hu1];clear hu1))
   exact bodyPost_ret (v:=.tuple #[.agg #[.int .i64 0,.string ⟨#[]⟩,.int .i64 0,.int .i64 0,.int .i64 0],.int .i64 0,.int .i64 2]) (by simp[results,Tryz.results165,go_sem]) rfl ⟨sH HT2.o,aB _ _⟩
  ·have HT2:Hid (Pl.aM t 0=.ok (5,D,0,n)):=(by show Pl.aM t 0=_;rw[HT.o,if_neg h0]);rw[decide_eq_false h0]at hE2;clear HT h0;go_enter Tryz.func165,Tryz.ntmps165;go_wp2_with (first|(go_at_call 182;refine (wU _ _).mono ?_;rintro e u1 ⟨rfl,hu1⟩;rw[hu1];clear hu1;rw[hw])|(go_at_call 183;refine (Sw.o _).mono ?_;rintro e u1 ⟨rfl,hu1⟩;rw[hu1];clear hu1))
   exact bodyPost_ret (v:=.tuple #[.agg #[.int .i64 5,.string D,.int .i64 0,.int .i64 0,.int .i64 0],.int .i64 n,.int .i64 0]) (by simp[results,Tryz.results165,go_sem]) rfl ⟨vU HT2.o rfl,aB _ _⟩
 ·have HT:Hid (Pl.aM t 0=(match Pl.mE (t.extract 0 (Pl.run Pl.kT t)) with|.error f=>.error f|.ok (k,S,N)=>.ok (k,S,N,Pl.run Pl.kT t))):=by
   show Pl.aM t 0=_;unfold Pl.aM;rw[<- HC.o,if_pos hw,Pl.BO,Nat.zero_add];rfl
  have hr:=Pl.WJ Pl.kT t;have hp:0<Pl.run Pl.kT t:=Pl.LY hpos (by rw[<- HC.o];exact hw);obtain⟨n,hn⟩:∃n,n=Pl.run Pl.kT t:=⟨_,rfl⟩;have HW:Hid (∀u,Calls Tryz.prog 120 #[.string t] u fun e w'=>e=.returned (.string (t.extract 0 n))/\Bw u w'):=fun u=>by rw[hn];exact KE t (by omega) u
  rw[<- hn]at HT hr hp;have hD:(t.extract 0 n).size=n:=by rw[Pl.ext_size];omega
  obtain⟨D,Dk⟩:∃D,D=t.extract 0 n:=⟨_,rfl⟩;rw[<- Dk]at HT HW hD;clear hn Dk LZ OZ;have HRW:Hid (∀u,nR u->Calls Tryz.prog 121 #[.string D] u fun e w'=>IW D e/\Bw u w'):=fun u hu=>AQ D (by omega) (by omega) u hu;go_enter Tryz.func165,Tryz.ntmps165;go_wp2_with (go_at_call 182;refine (wU _ _).mono ?_;rintro e u1 ⟨rfl,hu1⟩;rw[hu1];clear hu1;rw[hw])
  refine (HW.o _).mono ?_;rintro e u2 ⟨rfl,g2⟩;have Q2:Hid (u2.heap[w.heap.size]?=some (.cells #[.int .i64 0,.string ⟨#[]⟩,.int .i64 0,.int .i64 0,.int .i64 0] 102 (0,0))):=(g2.block w.heap.size (by simp)).trans (heap_alloc_new w _);have B2:Hid (Bw w u2):=(aB w _).trans (g2.mono (by simp));have hz2:w.heap.size<u2.heap.size:=by have:=g2.size;simp at this;omega
  clear g2 HW;go_wp2_with fail
  refine (HRW.o _ (HE.o.on B2.o)).mono ?_;rintro e u3 ⟨hs,g3⟩;have Q3:Hid (u3.heap[w.heap.size]?=some (.cells #[.int .i64 0,.string ⟨#[]⟩,.int .i64 0,.int .i64 0,.int .i64 0] 102 (0,0))):=(g3.block w.heap.size hz2).trans Q2.o;have B3:Hid (Bw w u3):=B2.o.trans (g3.mono B2.o.size);have hz3:w.heap.size<u3.heap.size:=Nat.lt_of_lt_of_le hz2 g3.size;clear g3 Q2 B2 hz2 HRW;have Q4:Hid (∀x,(u3.alloc x).heap[w.heap.size]?=some (.cells #[.int .i64 0,.string ⟨#[]⟩,.int .i64 0,.int .i64 0,.int .i64 0] 102 (0,0))):=fun x=>((aB u3 x).block w.heap.size hz3).trans Q3.o;have B4:Hid (∀x,Bw w (u3.alloc x)):=fun x=>B3.o.trans ((aB u3 x).mono B3.o.size);unfold IW at hs;have hT:=HT.o;clear HT;cases hq:Pl.mE D with
  | error f=>
   rw[hq]at hs hT;subst hs;have HT:Hid (Pl.aM t 0=.error f):=hT;clear hq hT;go_wp2_with (refine wpList_store_row rfl 102 _ _ rfl w.heap.size #[.int .i64 0,.string ⟨#[]⟩,.int .i64 0,.int .i64 0,.int .i64 0] ?hx ?hy 102 #[.int .i64 0,.string ⟨#[]⟩,.int .i64 0,.int .i64 0,.int .i64 0] ?hg ?hi ?ho ?h1 ?_;(case hx=>rfl);(case hy=>rfl);(case hg=>exact Q4.o _);(case hi=>kernel_rfl);(case ho=>kernel_rfl);(case h1=>kernel_rfl))
   refine bodyPost_ret (v:=.tuple #[.agg #[.int .i64 0,.string ⟨#[]⟩,.int .i64 0,.int .i64 0,.int .i64 0],.int .i64 n,.int .i64 f]) ?hr ?hdf ?nX
   case hr=>
    refine bE Tryz.results165 _ _ (w.heap.size) 102 #[.int .i64 0,.string ⟨#[]⟩,.int .i64 0,.int .i64 0,.int .i64 0] (0,0) _ (.int .i64 n) (.int .i64 f) ?hp ?hq ?hq2 ?hg Tryz.underlying102 ?hd ?hi
    case hp=>rfl
    case hq=>rfl
    case hq2=>rfl
    case hg=>exact setRow_heap _ _ _ _ _ _ (Q4.o _)
    case hd=>rfl
    case hi=>kernel_rfl
   case hdf=>rfl
   case nX=>exact⟨sH HT.o,below_setRow (B4.o _) (Nat.le_refl _) _⟩
  | ok r=>
   obtain⟨k,S,N⟩:=r;rw[hq]at hs hT;subst hs;have HT:Hid (Pl.aM t 0=.ok (k,S,N,n)):=hT;clear hq hT;go_wp2_with (refine wpList_store_row rfl 102 _ _ rfl w.heap.size #[.int .i64 k,.string S,.int .i64 N,.int .i64 0,.int .i64 0] ?hx ?hy 102 #[.int .i64 0,.string ⟨#[]⟩,.int .i64 0,.int .i64 0,.int .i64 0] ?hg ?hi ?ho ?h1 ?_;(case hx=>rfl);(case hy=>rfl);(case hg=>exact Q4.o _);(case hi=>kernel_rfl);(case ho=>kernel_rfl);(case h1=>kernel_rfl))
   refine bodyPost_ret (v:=.tuple #[.agg #[.int .i64 k,.string S,.int .i64 N,.int .i64 0,.int .i64 0],.int .i64 n,.int .i64 0]) ?hr ?hdf ?nX
   case hr=>
    refine bE Tryz.results165 _ _ (w.heap.size) 102 #[.int .i64 k,.string S,.int .i64 N,.int .i64 0,.int .i64 0] (0,0) _ (.int .i64 n) (.int .i64 0) ?hp ?hq ?hq2 ?hg Tryz.underlying102 ?hd ?hi
    case hp=>rfl
    case hq=>rfl
    case hq2=>rfl
    case hg=>exact setRow_heap _ _ _ _ _ _ (Q4.o _)
    case hd=>rfl
    case hi=>kernel_rfl
   case hdf=>rfl
   case nX=>exact⟨vU HT.o rfl,below_setRow (B4.o _) (Nat.le_refl _) _⟩
theorem aO.setRow {c n:Nat}{w u:World}{cs:Array Value}(h:aO c w u) (hn:w.heap.size<=n):aO c w (u.setRow n cs):=by
 have hb:=below_setRow (Below.refl w.heap.size u) hn cs;exact⟨hb.os.trans h.os,hb.tape.trans h.tape,hb.output.trans h.output,Nat.le_trans h.size hb.size,fun b h1 h2=>(hb.block b h1).trans (h.block b h1 h2)⟩
theorem aO.aEr {c t:Nat}{w u u':World}(h:aO c w u) (k:aO t u u') (ht:w.heap.size<=t):aO c w u':=⟨k.os.trans h.os,k.tape.trans h.tape,k.output.trans h.output,Nat.le_trans h.size k.size,fun x hx hc=>(k.block x (Nat.lt_of_lt_of_le hx h.size) (by omega)).trans (h.block x hx hc)⟩
theorem NG {g k n:Nat}{s:ByteArray}{u:World}{cs:Array Value}(h:jT g s k u) (hn:g≠n):jT g s k (u.setRow n cs):=(setRow_other u n g cs hn).trans h
def Vz (s:ByteArray) (j:Nat) (z0:Int) (z1:ByteArray) (z2 zq zf:Int):Prop:=(zf≠0/\Pl.aM s j=.error zf)\/(zf=0/\∃n:Nat,Pl.aM s j=.ok (z0,z1,z2,n)/\zq=(n:Int)-j)
def Od (V:World) (s:ByteArray) (j:Nat) (pb:Nat) (z0:Int) (z1:ByteArray) (z2 zq zf:Int) (L:Array Bool) (w:World):Prop:=Bw V w/\(up L 9=true->Vz s j z0 z1 z2 zq zf)/\(up L 14=true->V.heap.size<=pb/\w.heap[pb]?=some (.cells (bif up L 15 then #[.int .i64 z0,.string z1,.int .i64 z2,.int .i64 0,.int .i64 0] else #[.int .i64 0,.string ⟨#[]⟩,.int .i64 0,.int .i64 0,.int .i64 0]) 102))
theorem Od.keep {V:World}{s:ByteArray}{j pb:Nat}{z0:Int}{z1:ByteArray}{z2 zq zf:Int}{L:Array Bool}{w:World}(h:Od V s j pb z0 z1 z2 zq zf L w){i:Nat}(hi:i<L.size) (n9:i≠9) (n14:i≠14) (n15:i≠15):Od V s j pb z0 z1 z2 zq zf (L.setIfInBounds i true) w:=by
 unfold Od at h ⊢;rw[aP hi,aP hi,aP hi,if_neg n9,if_neg n14,if_neg n15];exact h
theorem Oe {s:ByteArray}{j:Nat}(hto:Pl.aM s j=Pl.shT j (Pl.aM (s.extract j s.size) 0)){e:Ending}(h:yZ (s.extract j s.size) e):∃b0 b1 b2 bq bf,e=.returned (.tuple #[.agg #[.int .i64 b0,.string b1,.int .i64 b2,.int .i64 0,.int .i64 0],.int .i64 bq,.int .i64 bf])/\Vz s j b0 b1 b2 bq bf:=by
 unfold yZ at h;cases pE:Pl.aM (s.extract j s.size) 0 with
 | error f=>
  rw[pE]at h hto;obtain⟨q,rfl⟩:=h;exact⟨_,_,_,_,_,rfl,.inl ⟨Pl.EJ pE,hto⟩⟩
 | ok r=>
  obtain⟨kd,S,N,n⟩:=r;rw[pE]at h hto;subst h;exact⟨_,_,_,_,_,rfl,.inr ⟨rfl,_,hto,by omega⟩⟩
def aCx (g:Nat) (s:ByteArray) (k:Nat) (w:World) (e:Ending) (w':World):Prop:=∃j b,Pl.Sk s k j b/\aO g w w'/\
  ((b=false/\e=.returned (.tuple #[.agg #[.int .i64 0,.string ⟨#[]⟩,.int .i64 0,.int .i64 (Pl.ln s j),.int .i64 (Pl.cn s j)],.int .i64 3])/\jT g s j w')\/
   (b=true/\j=s.size/\e=.returned (.tuple #[.agg #[.int .i64 0,.string ⟨#[]⟩,.int .i64 0,.int .i64 (Pl.ln s j),.int .i64 (Pl.cn s j)],.int .i64 0])/\jT g s j w')\/
   (b=true/\j<s.size/\∃f,Pl.aM s j=.error f/\e=.returned (.tuple #[.agg #[.int .i64 0,.string ⟨#[]⟩,.int .i64 0,.int .i64 (Pl.ln s j),.int .i64 (Pl.cn s j)],.int .i64 f])/\jT g s j w')\/
   (b=true/\j<s.size/\∃kd S N n,Pl.aM s j=.ok (kd,S,N,n)/\e=.returned (.tuple #[.agg #[.int .i64 kd,.string S,.int .i64 N,.int .i64 (Pl.ln s j),.int .i64 (Pl.cn s j)],.int .i64 0])/\jT g s n w'))
def dE (G Wz Pb j:Nat) (s:ByteArray) (u9 u10 u11 u12 u13 u14 u15 u16 u17 u18 u19 u20 u21 u22 u23 u24 u25 u28 u39 u40 u41 u42 u43 u44 u45 u46 u47 u48 u49 u50 u51 u52 u53 u54 u55 u56 u57 u58 u59 u60 u61 u62 u63 u64 u65 u66 u67:Value) (pb:Nat) (z0:Int) (z1:ByteArray) (z2 zq zf:Int) (L:Array Bool):Act:={ tmps:=#[.pointer (some ⟨G,0,none⟩),undef,.pointer (some ⟨Wz,0,none⟩),.int .i64 0,.bool true,.pointer (some ⟨Pb,0,none⟩),CO undef L 14 (.pointer (some ⟨pb,0,none⟩)),CO undef L 16 (.int .i64 zq),CO undef L 17 (.int .i64 zf),u9,u10,u11,u12,u13,u14,u15,u16,u17,u18,u19,u20,u21,u22,u23,u24,u25,.bool true,.bool false,u28,.pointer (some ⟨G,0,none⟩),.pointer (some ⟨G,0,none⟩),.pointer (some ⟨G,1,none⟩),.int .i64 (j:Int),.pointer (some ⟨G,0,none⟩),.pointer (some ⟨G,0,none⟩),.pointer (some ⟨G,0,none⟩),.string s,.int .i64 (s.size:Int),.bool false,u39,CO u40 L 10 (.tuple #[.agg #[.int .i64 z0,.string z1,.int .i64 z2,.int .i64 0,.int .i64 0],.int .i64 zq,.int .i64 zf]),CO u41 L 0 (.pointer (some ⟨G,0,none⟩)),CO u42 L 1 (.pointer (some ⟨G,0,none⟩)),CO u43 L 2 (.pointer (some ⟨G,0,none⟩)),CO u44 L 3 (.string s),CO u45 L 4 (.pointer (some ⟨G,0,none⟩)),CO u46 L 5 (.pointer (some ⟨G,0,none⟩)),CO u47 L 6 (.pointer (some ⟨G,1,none⟩)),CO u48 L 7 (.int .i64 (j:Int)),CO u49 L 8 (.string (s.extract j s.size)),CO u50 L 9 (.tuple #[.agg #[.int .i64 z0,.string z1,.int .i64 z2,.int .i64 0,.int .i64 0],.int .i64 zq,.int .i64 zf]),CO u51 L 11 (.agg #[.int .i64 z0,.string z1,.int .i64 z2,.int .i64 0,.int .i64 0]),CO u52 L 12 (.int .i64 zq),CO u53 L 13 (.int .i64 zf),u54,u55,u56,u57,u58,u59,u60,u61,u62,u63,u64,u65,u66,u67],defers:=[] }
set_option maxRecDepth 100000 in
theorem We (g:Nat) (Vx:4<=g) (s:ByteArray) (hs:s.size<=1048576) (k:Nat) (hk:k<=s.size) (w:World) (hL:jT g s k w) (hE:nR w):Calls Tryz.prog 152 #[.pointer (some ⟨g,0,none⟩)] w fun e w'=>aCx g s k w e w':=by
 have HL:Hid (jT g s k w):=hL;have HE:Hid (nR w):=hE;have hgw:g<w.heap.size:=(Array.getElem?_eq_some_iff.1 hL).1;have HSB:Hid (∀u:World,jT g s k u->nR u->Calls Tryz.prog 164 #[.pointer (some ⟨g,0,none⟩)] u fun e w'=>∃j b,Pl.Sk s k j b/\e=.returned (.bool b)/\jT g s j w'/\aO g u w'):=fun u h1 h2=>IU g Vx s hs k hk u h1 h2;clear hL hE;go_enter Tryz.func152,Tryz.ntmps152;go_wp2_with fail
 refine (HSB.o _ (HL.o.keep (aB _ _)) (HE.o.on (aB _ _))).mono ?_;rintro e u1 ⟨j,b,hsk,rfl,hst,hox⟩;have hR:u1.heap[w.heap.size]?=some (.cells #[.int .i64 0,.string ⟨#[]⟩,.int .i64 0,.int .i64 0,.int .i64 0] 102 (0,0)):=(hox.block w.heap.size (by simp) (by omega)).trans (heap_alloc_new w _);have hz1:w.heap.size<u1.heap.size:=by have:=hox.size;simp at this;omega
 have hj:j<=s.size:=hsk.le.2.1 hk;have HR:Hid (u1.heap[w.heap.size]?=some (.cells #[.int .i64 0,.string ⟨#[]⟩,.int .i64 0,.int .i64 0,.int .i64 0] 102 (0,0))):=hR;have HST:Hid (jT g s j u1):=hst;have Vy:Hid (aO g w u1):=(aO.of_below (aB w _)).trans hox;obtain⟨l0,l1⟩:=Pl.Dp s j;obtain⟨c0,c1⟩:=Pl.Dq s j;have HS:Hid (Pl.Sk s k j b):=hsk;have hst':u1.heap[g]?=some (.cells #[.string s,.int .i64 j,.int .i64 (Pl.ln s j),.int .i64 ((j:Int)+1-Pl.cn s j)] 218 (0,0)):=hst;obtain⟨A,hA⟩:∃A,A=Pl.ln s j:=⟨_,rfl⟩;obtain⟨B,hB⟩:∃B,B=Pl.cn s j:=⟨_,rfl⟩;have Us:Hid (A=Pl.ln s j):=hA;have qE:Hid (B=Pl.cn s j):=hB;rw[<- hA]at hst' l0 l1;rw[<- hB]at hst' c0 c1;have d0:u1.cell? ⟨g,0,none⟩=some (.string s):=cell_of_row u1 g 0 _ 218 (0,0) hst';have d1:u1.cell? ⟨g,1,none⟩=some (.int .i64 j):=cell_of_row u1 g 1 _ 218 (0,0) hst';have d2:u1.cell? ⟨g,2,none⟩=some (.int .i64 A):=cell_of_row u1 g 2 _ 218 (0,0) hst';have d3:u1.cell? ⟨g,3,none⟩=some (.int .i64 ((j:Int)+1-B)):=cell_of_row u1 g 3 _ 218 (0,0) hst';have hgu:g<u1.heap.size:=(Array.getElem?_eq_some_iff.1 hst').1;have w1:IntKind.i64.wrap ((j:Int)-((j:Int)+1-B))=B-1:=by rw[IntKind.wrap_i64];omega
 have w2:IntKind.i64.wrap (B-1+1)=B:=by rw[IntKind.wrap_i64];omega
 clear hsk hst hox hR hA hB hst';go_upto_region 2 with fail
 go_cut [5] (fun s5 wx=>∃P,s5=.pointer (some ⟨P,0,none⟩)/\u1.heap.size<=P/\wx.heap[P]?=some (.cells #[.int .i64 0,.string ⟨#[]⟩,.int .i64 0,.int .i64 A,.int .i64 B] 102 (0,0))/\Bw u1 wx)
 case first=>
  go_region
  all_goals
   go_wp2_with fail
   go_meet
   exact⟨u1.heap.size,rfl,Nat.le_refl _,heap_alloc_new u1 _,by repeat (first|exact aB _ _|refine jX ?_ _|refine Below.drew ?_)⟩
 case rest=>
 obtain⟨P,rfl,hP1,hP2,hP3⟩:=hcut;obtain⟨U,hU⟩:∃U,U=wc:=⟨_,rfl⟩;rw[<- hU]at hP2 hP3 ⊢;have HP:Hid (U.heap[P]?=some (.cells #[.int .i64 0,.string ⟨#[]⟩,.int .i64 0,.int .i64 A,.int .i64 B] 102 (0,0))):=hP2;have HR2:Hid (U.heap[w.heap.size]?=some (.cells #[.int .i64 0,.string ⟨#[]⟩,.int .i64 0,.int .i64 0,.int .i64 0] 102 (0,0))):=(hP3.block _ hz1).trans HR.o;have EY:Hid (jT g s j U):=(hP3.block g hgu).trans HST.o;have Og:Hid (aO g w U):=Vy.o.trans (aO.of_below hP3);have HE2:Hid (nR U):=HE.o.onX Vx Og.o;have hPw:w.heap.size<P:=by omega
 have hgP:g<P:=by omega
 have HPU:Hid (P<U.heap.size):=(Array.getElem?_eq_some_iff.1 hP2).1;have d0:U.cell? ⟨g,0,none⟩=some (.string s):=cell_of_row U g 0 _ 218 (0,0) EY.o;have d1:U.cell? ⟨g,1,none⟩=some (.int .i64 j):=cell_of_row U g 1 _ 218 (0,0) EY.o;clear hU hP2 hP3 HR HST Vy HSB w1 w2;cases b
 ·have JP:Hid (Pl.Sk s k j false):=HS.o;go_wp2_with (first|(refine wpList_load_row rfl 102 _ rfl P ?hx 102 #[.int .i64 0,.string ⟨#[]⟩,.int .i64 0,.int .i64 A,.int .i64 B] (0,0) _ ?hg Tryz.underlying102 ?hd ?hi ?_;(case hx=>rfl);(case hg=>exact HP.o);(case hd=>rfl);(case hi=>kernel_rfl))|(refine wpList_store_row rfl 102 _ _ rfl w.heap.size #[.int .i64 0,.string ⟨#[]⟩,.int .i64 0,.int .i64 A,.int .i64 B] ?hx ?hy 102 #[.int .i64 0,.string ⟨#[]⟩,.int .i64 0,.int .i64 0,.int .i64 0] ?hg ?hi ?ho ?h1 ?_;(case hx=>rfl);(case hy=>rfl);(case hg=>exact HR2.o);(case hi=>kernel_rfl);(case ho=>kernel_rfl);(case h1=>kernel_rfl)))
  refine bodyPost_ret (v:=.tuple #[.agg #[.int .i64 0,.string ⟨#[]⟩,.int .i64 0,.int .i64 A,.int .i64 B],.int .i64 3]) ?hr ?hdf ?nX
  case hr=>
   refine bO Tryz.results152 _ _ (w.heap.size) 102 #[.int .i64 0,.string ⟨#[]⟩,.int .i64 0,.int .i64 A,.int .i64 B] (0,0) _ (.int .i64 3) ?hp ?hq ?hg Tryz.underlying102 ?hd ?hi
   case hp=>rfl
   case hq=>rfl
   case hg=>exact setRow_heap _ _ _ _ _ _ HR2.o
   case hd=>rfl
   case hi=>kernel_rfl
  case hdf=>rfl
  case nX=>exact⟨j,false,JP.o,Og.o.setRow (Nat.le_refl _),.inl ⟨rfl,by rw[Us.o,qE.o],NG EY.o (by omega)⟩⟩
 have hjc:(j:Int)<=s.size:=by omega
 by_cases hend:j=s.size
 ·have aBX:((j:Int) == (s.size:Int))=true:=by simp[hend]
  have aGg:Hid (j=s.size):=hend;clear hend;go_wp2_with fail
  go_quiet (fail)
  go_wp2_with (first|(refine wpList_load_row rfl 102 _ rfl P ?hx 102 #[.int .i64 0,.string ⟨#[]⟩,.int .i64 0,.int .i64 A,.int .i64 B] (0,0) _ ?hg Tryz.underlying102 ?hd ?hi ?_;(case hx=>rfl);(case hg=>exact HP.o);(case hd=>rfl);(case hi=>kernel_rfl))|(refine wpList_store_row rfl 102 _ _ rfl w.heap.size #[.int .i64 0,.string ⟨#[]⟩,.int .i64 0,.int .i64 A,.int .i64 B] ?hx ?hy 102 #[.int .i64 0,.string ⟨#[]⟩,.int .i64 0,.int .i64 0,.int .i64 0] ?hg ?hi ?ho ?h1 ?_;(case hx=>rfl);(case hy=>rfl);(case hg=>exact HR2.o);(case hi=>kernel_rfl);(case ho=>kernel_rfl);(case h1=>kernel_rfl)))
  refine bodyPost_ret (v:=.tuple #[.agg #[.int .i64 0,.string ⟨#[]⟩,.int .i64 0,.int .i64 A,.int .i64 B],.int .i64 0]) ?hr ?hdf ?nX
  case hr=>
   refine bO Tryz.results152 _ _ (w.heap.size) 102 #[.int .i64 0,.string ⟨#[]⟩,.int .i64 0,.int .i64 A,.int .i64 B] (0,0) _ (.int .i64 0) ?hp ?hq ?hg Tryz.underlying102 ?hd ?hi
   case hp=>rfl
   case hq=>rfl
   case hg=>exact setRow_heap _ _ _ _ _ _ HR2.o
   case hd=>rfl
   case hi=>kernel_rfl
  case hdf=>rfl
  case nX=>exact⟨j,true,HS.o,aO.setRow (by repeat (first|exact Og.o|refine aO.drewN ?_ _)) (Nat.le_refl _),.inr (.inl ⟨rfl,aGg.o,by rw[Us.o,qE.o],NG (u:=_) EY.o (by omega)⟩)⟩
 have aBX:((j:Int) == (s.size:Int))=false:=by simp;omega
 have hjs:j<s.size:=by omega
 have Tc:Hid (Pl.aM s j=Pl.shT j (Pl.aM (s.extract j s.size) 0)):=Pl.Um s j hjs;have HRT:Hid (∀u:World,nR u->Calls Tryz.prog 165 #[.string (s.extract j s.size)] u fun e w'=>yZ (s.extract j s.size) e/\Bw u w'):=fun u hu=>NF (s.extract j s.size) (by rw[Pl.bC];omega) (by rw[Pl.bC];omega) u hu;have HGD:Hid (∀i i',nR ((U.drewN i).drewN i')):=fun i i'=>HE2.o.on (jX (jX (Below.refl _ _) i) i');clear hend;go_upto_region 7 with fail
 go_quiet (fail)
 go_upto_region 7 with fail
 obtain⟨V,hV⟩:∃V,V=U.drewN nq:=⟨_,rfl⟩;rw[<- hV];have BV:Hid (Bw U V):=by rw[hV];exact jX (Below.refl _ _) _
 clear hV d0 d1;have d0:V.cell? ⟨g,0,none⟩=some (.string s):=cell_of_row V g 0 _ 218 (0,0) (EY.o.keep BV.o);have d1:V.cell? ⟨g,1,none⟩=some (.int .i64 j):=cell_of_row V g 1 _ 218 (0,0) (EY.o.keep BV.o);have HGV:Hid (nR V):=HE2.o.on BV.o
 go_cut [6,7,8] (fun s6 s7 s8 wx=>∃(T:Nat) (z0:Int) (z1:ByteArray) (z2 zq zf:Int),s6=.pointer (some ⟨T,0,none⟩)/\s7=.int .i64 zq/\s8=.int .i64 zf/\V.heap.size<=T/\wx.heap[T]?=some (.cells #[.int .i64 z0,.string z1,.int .i64 z2,.int .i64 0,.int .i64 0] 102 (0,0))/\Bw V wx/\Vz s j z0 z1 z2 zq zf)
 case first=>
  have k0:Hid (∀w',Bw V w'->w'.cell? ⟨g,0,none⟩=some (.string s)):=fun w' hw=>uJ hw d0;have k1:Hid (∀w',Bw V w'->w'.cell? ⟨g,1,none⟩=some (.int .i64 j)):=fun w' hw=>uJ hw d1;have HGB:Hid (∀w',Bw V w'->nR w'):=fun w' hw=>HGV.o.on hw;have Sz:Hid (∀e,yZ (s.extract j s.size) e->∃b0 b1 b2 bq bf,e=.returned (.tuple #[.agg #[.int .i64 b0,.string b1,.int .i64 b2,.int .i64 0,.int .i64 0],.int .i64 bq,.int .i64 bf])/\Vz s j b0 b1 b2 bq bf):=fun e he=>Oe Tc.o he;refine wp_region_any (by kernel_rfl) ?_;change wpAny _ _ _ _ _ _ _ (World.drew _);refine Ef (fun L act w'=>∃pb z0 z1 z2 zq zf,act=dE g w.heap.size P j s u9 u10 u11 u12 u13 u14 u15 u16 u17 u18 u19 u20 u21 u22 u23 u24 u25 u28 u39 u40 u41 u42 u43 u44 u45 u46 u47 u48 u49 u50 u51 u52 u53 u54 u55 u56 u57 u58 u59 u60 u61 u62 u63 u64 u65 u66 u67 pb z0 z1 z2 zq zf L/\Od V s j pb z0 z1 z2 zq zf L w') ?done (by kernel_rfl) ?step _ 18 _ _ (by kernel_rfl) ?init (by decide)
  case init=>exact⟨0,0,⟨#[]⟩,0,0,0,by simp only[dE,pF (nL _ _)],Below.drew (Below.refl _ _),fun q=>absurd (q.symm.trans (nL _ _)) (by decide),fun q=>absurd (q.symm.trans (nL _ _)) (by decide)⟩
  case step=>
   intro L act w i o hI hlt hs nl hC hd ho K hK;obtain⟨pb,z0,z1,z2,zq,zf,rfl,hW⟩:=hI;have aBd:i<18:=(Array.getElem?_eq_some_iff.1 ho).1;have hD:=fun k m=>hd {on:=k,ground:=.data} m rfl;rcases (show i=0\/i=1\/i=2\/i=3\/i=4\/i=5\/i=6\/i=7\/i=8\/i=9\/i=10\/i=11\/i=12\/i=13\/i=14\/i=15\/i=16\/i=17 by omega) with rfl|rfl|rfl|rfl|rfl|rfl|rfl|rfl|rfl|rfl|rfl|rfl|rfl|rfl|rfl|rfl|rfl|rfl<;>(change some _=some o at ho;cases ho)
   ·simp only[dE]
    go_simp
    exact hK _ _ ⟨pb,z0,z1,z2,zq,zf,by simp only[dE,kP hlt,reduceIte,Nat.reduceEqDiff];try rfl,(hW.keep hlt (by decide) (by decide) (by decide))⟩
   ·have q0:up L 0=true:=hD 0 (by simp);simp only[dE,aI q0]
    go_simp
    exact hK _ _ ⟨pb,z0,z1,z2,zq,zf,by simp only[dE,kP hlt,aI q0,reduceIte,Nat.reduceEqDiff];try rfl,(hW.keep hlt (by decide) (by decide) (by decide))⟩
   ·have q1:up L 1=true:=hD 1 (by simp);simp only[dE,aI q1]
    go_simp
    exact hK _ _ ⟨pb,z0,z1,z2,zq,zf,by simp only[dE,kP hlt,aI q1,reduceIte,Nat.reduceEqDiff];try rfl,(hW.keep hlt (by decide) (by decide) (by decide))⟩
   ·have q2:up L 2=true:=hD 2 (by simp);have kj:=k0.o _ hW.1;simp only[dE,aI q2]
    go_simp
    exact hK _ _ ⟨pb,z0,z1,z2,zq,zf,by simp only[dE,kP hlt,aI q2,reduceIte,Nat.reduceEqDiff];try rfl,(hW.keep hlt (by decide) (by decide) (by decide))⟩
   ·simp only[dE]
    go_simp
    exact hK _ _ ⟨pb,z0,z1,z2,zq,zf,by simp only[dE,kP hlt,reduceIte,Nat.reduceEqDiff];try rfl,(hW.keep hlt (by decide) (by decide) (by decide))⟩
   ·have q4:up L 4=true:=hD 4 (by simp);simp only[dE,aI q4]
    go_simp
    exact hK _ _ ⟨pb,z0,z1,z2,zq,zf,by simp only[dE,kP hlt,aI q4,reduceIte,Nat.reduceEqDiff];try rfl,(hW.keep hlt (by decide) (by decide) (by decide))⟩
   ·have q5:up L 5=true:=hD 5 (by simp);simp only[dE,aI q5]
    go_simp
    exact hK _ _ ⟨pb,z0,z1,z2,zq,zf,by simp only[dE,kP hlt,aI q5,reduceIte,Nat.reduceEqDiff];try rfl,(hW.keep hlt (by decide) (by decide) (by decide))⟩
   ·have q6:up L 6=true:=hD 6 (by simp);have kj:=k1.o _ hW.1;simp only[dE,aI q6]
    go_simp
    exact hK _ _ ⟨pb,z0,z1,z2,zq,zf,by simp only[dE,kP hlt,aI q6,reduceIte,Nat.reduceEqDiff];try rfl,(hW.keep hlt (by decide) (by decide) (by decide))⟩
   ·have q3:up L 3=true:=hD 3 (by simp);have q7:up L 7=true:=hD 7 (by simp);simp only[dE,aI q3,aI q7]
    go_simp
    exact hK _ _ ⟨pb,z0,z1,z2,zq,zf,by simp only[dE,kP hlt,aI q3,aI q7,reduceIte,Nat.reduceEqDiff];try rfl,(hW.keep hlt (by decide) (by decide) (by decide))⟩
   ·have q8:up L 8=true:=hD 8 (by simp);have n10:up L 10=false:=hC.no nl 10 rfl (by kernel_rfl);have n11:up L 11=false:=hC.no n10 11 rfl (by kernel_rfl);have n12:up L 12=false:=hC.no n10 12 rfl (by kernel_rfl);have n13:up L 13=false:=hC.no n10 13 rfl (by kernel_rfl);have n15:up L 15=false:=hC.no n11 15 rfl (by kernel_rfl);have n16:up L 16=false:=hC.no n12 16 rfl (by kernel_rfl);have n17:up L 17=false:=hC.no n13 17 rfl (by kernel_rfl);simp only[dE,aI q8];simp only[pF n10,pF n11,pF n12,pF n13,pF n16,pF n17]
    go_simp
    refine (HRT.o _ (HGB.o _ hW.1)).mono ?_;rintro e z ⟨he,dz⟩;obtain⟨b0,b1,b2,bq,bf,rfl,hrel⟩:=Sz.o e he
    go_simp
    exact hK _ _ ⟨pb,b0,b1,b2,bq,bf,by simp only[dE,kP hlt,aI q8,pF n10,pF n11,pF n12,pF n13,pF n16,pF n17,reduceIte,Nat.reduceEqDiff];try rfl,⟨hW.1.trans (dz.mono hW.1.size),fun _=>hrel,fun qq=>by rw[aP hlt,if_neg (by decide)]at qq;have hp:=hW.2.2 qq;rw[n15]at hp;rw[aP hlt,if_neg (by decide),n15];exact⟨hp.1,(dz.block _ (Array.getElem?_eq_some_iff.1 hp.2).1).trans hp.2⟩⟩⟩
   ·have q9:up L 9=true:=hD 9 (by simp);simp only[dE,aI q9]
    go_simp
    exact hK _ _ ⟨pb,z0,z1,z2,zq,zf,by simp only[dE,kP hlt,aI q9,reduceIte,Nat.reduceEqDiff];try rfl,(hW.keep hlt (by decide) (by decide) (by decide))⟩
   ·have Oh:up L 10=true:=hD 10 (by simp);simp only[dE,aI Oh]
    go_simp
    exact hK _ _ ⟨pb,z0,z1,z2,zq,zf,by simp only[dE,kP hlt,aI Oh,reduceIte,Nat.reduceEqDiff];try rfl,(hW.keep hlt (by decide) (by decide) (by decide))⟩
   ·have Oh:up L 10=true:=hD 10 (by simp);simp only[dE,aI Oh]
    go_simp
    exact hK _ _ ⟨pb,z0,z1,z2,zq,zf,by simp only[dE,kP hlt,aI Oh,reduceIte,Nat.reduceEqDiff];try rfl,(hW.keep hlt (by decide) (by decide) (by decide))⟩
   ·have Oh:up L 10=true:=hD 10 (by simp);simp only[dE,aI Oh]
    go_simp
    exact hK _ _ ⟨pb,z0,z1,z2,zq,zf,by simp only[dE,kP hlt,aI Oh,reduceIte,Nat.reduceEqDiff];try rfl,(hW.keep hlt (by decide) (by decide) (by decide))⟩
   ·have n15:up L 15=false:=hC.no nl 15 rfl (by kernel_rfl);simp only[dE]
    go_simp
    exact hK _ _ ⟨w.heap.size,z0,z1,z2,zq,zf,by simp only[dE,kP hlt,reduceIte,Nat.reduceEqDiff];try rfl,⟨hW.1.trans ((aB w _).mono hW.1.size),fun qq=>by rw[aP hlt,if_neg (by decide)]at qq;exact hW.2.1 qq,fun _=>⟨hW.1.size,by rw[aP hlt,if_neg (by decide),n15];exact heap_alloc_new w _⟩⟩⟩
   ·have q11:up L 11=true:=hD 11 (by simp);have q14:up L 14=true:=hD 14 (by simp);have hp:=hW.2.2 q14;rw[nl]at hp;simp only[dE,aI q11,aI q14];rw[if_pos (by rfl)];refine wp_store_row 102 _ _ rfl pb _ rfl rfl 102 #[.int .i64 0,.string ⟨#[]⟩,.int .i64 0,.int .i64 0,.int .i64 0] hp.2 (by kernel_rfl) rfl (by kernel_rfl) ?_;exact hK _ _ ⟨pb,z0,z1,z2,zq,zf,by simp only[dE,kP hlt,aI q11,aI q14,reduceIte,Nat.reduceEqDiff];try rfl,⟨below_setRow hW.1 hp.1 _,fun qq=>by rw[aP hlt,if_neg (by decide)]at qq;exact hW.2.1 qq,fun _=>⟨hp.1,by rw[aP hlt,if_pos rfl];exact setRow_heap _ _ _ _ _ _ hp.2⟩⟩⟩
   ·have q12:up L 12=true:=hD 12 (by simp);simp only[dE,aI q12]
    go_simp
    exact hK _ _ ⟨pb,z0,z1,z2,zq,zf,by simp only[dE,kP hlt,aI q12,reduceIte,Nat.reduceEqDiff];try rfl,(hW.keep hlt (by decide) (by decide) (by decide))⟩
   ·have q13:up L 13=true:=hD 13 (by simp);simp only[dE,aI q13]
    go_simp
    exact hK _ _ ⟨pb,z0,z1,z2,zq,zf,by simp only[dE,kP hlt,aI q13,reduceIte,Nat.reduceEqDiff];try rfl,(hW.keep hlt (by decide) (by decide) (by decide))⟩
  case done=>
   rintro L act u4 ⟨pb,z0,z1,z2,zq,zf,rfl,hW⟩ hall;obtain⟨dd,hr,h14⟩:=hW;replace hr:=hr (hall 9 (by decide));replace h14:=h14 (hall 14 (by decide));rw[hall 15 (by decide)]at h14;simp only[dE,aI (hall 0 (by decide)),aI (hall 1 (by decide)),aI (hall 2 (by decide)),aI (hall 3 (by decide)),aI (hall 4 (by decide)),aI (hall 5 (by decide)),aI (hall 6 (by decide)),aI (hall 7 (by decide)),aI (hall 8 (by decide)),aI (hall 9 (by decide)),aI (hall 10 (by decide)),aI (hall 11 (by decide)),aI (hall 12 (by decide)),aI (hall 13 (by decide)),aI (hall 14 (by decide)),aI (hall 16 (by decide)),aI (hall 17 (by decide))];go_wp2_with fail
   go_meet
   exact⟨pb,z0,z1,z2,zq,zf,rfl,rfl,rfl,h14.1,h14.2,dd,hr⟩
 case rest=>
 obtain⟨T,z0,z1,z2,zq,zf,rfl,rfl,rfl,hT1,Td,hT3,htr⟩:=hcut;obtain⟨Y,hY⟩:∃Y,Y=wc:=⟨_,rfl⟩;rw[<- hY]at Td hT3 ⊢;have HT:Hid (Y.heap[T]?=some (.cells #[.int .i64 z0,.string z1,.int .i64 z2,.int .i64 0,.int .i64 0] 102 (0,0))):=Td;have BY:Hid (Bw U Y):=BV.o.trans (hT3.mono BV.o.size);have HPY:Hid (Y.heap[P]?=some (.cells #[.int .i64 0,.string ⟨#[]⟩,.int .i64 0,.int .i64 A,.int .i64 B] 102 (0,0))):=(BY.o.block P HPU.o).trans HP.o;have HRY:Hid (Y.heap[w.heap.size]?=some (.cells #[.int .i64 0,.string ⟨#[]⟩,.int .i64 0,.int .i64 0,.int .i64 0] 102 (0,0))):=(BY.o.block _ (by have:=HPU.o;omega)).trans HR2.o;have aCy:Hid (jT g s j Y):=EY.o.keep BY.o;have aCz:Hid (aO g w Y):=Og.o.trans (aO.of_below BY.o);have hTP:P<T:=by have:=HPU.o;have:=BV.o.size;omega
 have HTY:Hid (T<Y.heap.size):=(Array.getElem?_eq_some_iff.1 Td).1;clear hY hT1 Td hT3 d0 d1 HGV BV HRT Tc HGD HP HR2 EY Og HE2 HPU HE HL BY;rcases htr with ⟨hf,pE⟩|⟨rfl,n,pE,hq⟩
 ·have ef:(zf != 0)=true:=by simpa using hf
  have HTF:Hid (Pl.aM s j=.error zf):=pE;clear hf pE;go_wp2_with (first|(refine wpList_load_row rfl 102 _ rfl P ?hx 102 #[.int .i64 0,.string ⟨#[]⟩,.int .i64 0,.int .i64 A,.int .i64 B] (0,0) _ ?hg Tryz.underlying102 ?hd ?hi ?_;(case hx=>rfl);(case hg=>exact HPY.o);(case hd=>rfl);(case hi=>kernel_rfl))|(refine wpList_store_row rfl 102 _ _ rfl w.heap.size #[.int .i64 0,.string ⟨#[]⟩,.int .i64 0,.int .i64 A,.int .i64 B] ?hx ?hy 102 #[.int .i64 0,.string ⟨#[]⟩,.int .i64 0,.int .i64 0,.int .i64 0] ?hg ?hi ?ho ?h1 ?_;(case hx=>rfl);(case hy=>rfl);(case hg=>exact HRY.o);(case hi=>kernel_rfl);(case ho=>kernel_rfl);(case h1=>kernel_rfl)))
  refine bodyPost_ret (v:=.tuple #[.agg #[.int .i64 0,.string ⟨#[]⟩,.int .i64 0,.int .i64 A,.int .i64 B],.int .i64 zf]) ?hr ?hdf ?nX
  case hr=>
   refine bO Tryz.results152 _ _ (w.heap.size) 102 #[.int .i64 0,.string ⟨#[]⟩,.int .i64 0,.int .i64 A,.int .i64 B] (0,0) _ (.int .i64 zf) ?hp ?hq ?hg Tryz.underlying102 ?hd ?hi
   case hp=>rfl
   case hq=>rfl
   case hg=>exact setRow_heap _ _ _ _ _ _ HRY.o
   case hd=>rfl
   case hi=>kernel_rfl
  case hdf=>rfl
  case nX=>exact⟨j,true,HS.o,aCz.o.setRow (Nat.le_refl _),.inr (.inr (.inl ⟨rfl,hjs,zf,HTF.o,by rw[Us.o,qE.o],NG aCy.o (by omega)⟩))⟩
 obtain⟨⟨hn1,hn2⟩,_⟩:=Pl.yY hjs pE;obtain⟨m,rfl⟩:∃m,n=j+m:=⟨n-j,by omega⟩;obtain rfl:zq=(m:Int):=by omega
 have HTF:Hid (Pl.aM s j=.ok (z0,z1,z2,j+m)):=pE;have HPA:Hid (∀u:World,jT g s j u->Calls Tryz.prog 166 #[.pointer (some ⟨g,0,none⟩),.int .i64 m] u fun e w'=>(∃v,e=.returned v)/\jT g s (j+m) w'/\aO g u w'):=fun u hu=>Bc g s hs j m hn2 u hu;clear pE hq hn1 hn2;go_wp2_with fail
 refine (HPA.o _ aCy.o).mono ?_;rintro e u5 ⟨⟨v5,rfl⟩,aEs,Oi⟩;have hT5:u5.heap[T]?=some (.cells #[.int .i64 z0,.string z1,.int .i64 z2,.int .i64 0,.int .i64 0] 102 (0,0)):=(Oi.block T HTY.o (by omega)).trans HT.o;have hP5:u5.heap[P]?=some (.cells #[.int .i64 0,.string ⟨#[]⟩,.int .i64 0,.int .i64 A,.int .i64 B] 102 (0,0)):=(Oi.block P (by have:=HTY.o;omega) (by omega)).trans HPY.o;have HT5:Hid (u5.heap[T]?=some (.cells #[.int .i64 z0,.string z1,.int .i64 z2,.int .i64 0,.int .i64 0] 102 (0,0))):=hT5;have HR5:Hid (u5.heap[w.heap.size]?=some (.cells #[.int .i64 0,.string ⟨#[]⟩,.int .i64 0,.int .i64 0,.int .i64 0] 102 (0,0))):=(Oi.block _ (by have:=HTY.o;omega) (by omega)).trans HRY.o;have aEt:Hid (aO g w u5):=aCz.o.trans Oi;have aEu:Hid (jT g s (j+m) u5):=aEs;have e3:u5.cell? ⟨P,3,none⟩=some (.int .i64 A):=cell_of_row u5 P 3 _ 102 (0,0) hP5;have e4:u5.cell? ⟨P,4,none⟩=some (.int .i64 B):=cell_of_row u5 P 4 _ 102 (0,0) hP5;have t3:u5.cell? ⟨T,3,none⟩=some (.int .i64 0):=cell_of_row u5 T 3 _ 102 (0,0) hT5;have t4:u5.cell? ⟨T,4,none⟩=some (.int .i64 0):=cell_of_row u5 T 4 _ 102 (0,0) hT5;have f3:u5.frozen? ⟨T,3,none⟩=false:=frozen_of_row u5 T 3 _ 102 hT5;have f4:u5.frozen? ⟨T,4,none⟩=false:=frozen_of_row u5 T 4 _ 102 hT5;have hPT:P≠T:=by omega
 have HTP:Hid (w.heap.size<T):=by show w.heap.size<T;omega
 clear aEs Oi hT5 hP5 HT HPY HRY aCy aCz HTY HPA;go_upto_region 11 with fail
 go_cut [] (fun wx=>wx.heap[T]?=some (.cells #[.int .i64 z0,.string z1,.int .i64 z2,.int .i64 A,.int .i64 B] 102 (0,0))/\aO T u5 wx)
 case first=>
  go_region
  all_goals
   go_wp2_with fail
   go_meet
   refine⟨?_,?_⟩
   ·first|exact heap_setCell_same _ T 4 _ 102 _ (heap_setCell_same _ T 3 _ 102 _ HT5.o)|exact heap_setCell_same _ T 3 _ 102 _ (heap_setCell_same _ T 4 _ 102 _ HT5.o)
   ·repeat (first|exact aO.refl _ _|refine aO.setCell ?_ _ _|refine aO.drewN ?_ _|refine aO.drew ?_)
 case rest=>
 obtain⟨hT6,Oj⟩:=hcut;obtain⟨Z,hZ⟩:∃Z,Z=wc:=⟨_,rfl⟩;rw[<- hZ]at hT6 Oj ⊢;have HT6:Hid (Z.heap[T]?=some (.cells #[.int .i64 z0,.string z1,.int .i64 z2,.int .i64 A,.int .i64 B] 102 (0,0))):=hT6;have hw5:w.heap.size<u5.heap.size:=(Array.getElem?_eq_some_iff.1 HR5.o).1;have HR6:Hid (Z.heap[w.heap.size]?=some (.cells #[.int .i64 0,.string ⟨#[]⟩,.int .i64 0,.int .i64 0,.int .i64 0] 102 (0,0))):=(Oj.block _ hw5 (by have:=HTP.o;omega)).trans HR5.o;have aGh:Hid (jT g s (j+m) Z):=(Oj.block g (by omega) (by omega)).trans aEu.o;have aGi:Hid (aO g w Z):=aEt.o.aEr Oj (by have:=HTP.o;omega);clear hT6 Oj hZ HT5 HR5 aEt aEu e3 e4 t3 t4 f3 f4 hw5;go_wp2_with (first|(refine wpList_load_row rfl 102 _ rfl T ?hx 102 #[.int .i64 z0,.string z1,.int .i64 z2,.int .i64 A,.int .i64 B] (0,0) _ ?hg Tryz.underlying102 ?hd ?hi ?_;(case hx=>rfl);(case hg=>exact HT6.o);(case hd=>rfl);(case hi=>kernel_rfl))|(refine wpList_store_row rfl 102 _ _ rfl w.heap.size #[.int .i64 z0,.string z1,.int .i64 z2,.int .i64 A,.int .i64 B] ?hx ?hy 102 #[.int .i64 0,.string ⟨#[]⟩,.int .i64 0,.int .i64 0,.int .i64 0] ?hg ?hi ?ho ?h1 ?_;(case hx=>rfl);(case hy=>rfl);(case hg=>exact HR6.o);(case hi=>kernel_rfl);(case ho=>kernel_rfl);(case h1=>kernel_rfl)))
 refine bodyPost_ret (v:=.tuple #[.agg #[.int .i64 z0,.string z1,.int .i64 z2,.int .i64 A,.int .i64 B],.int .i64 0]) ?hr ?hdf ?nX
 case hr=>
  refine bO Tryz.results152 _ _ (w.heap.size) 102 #[.int .i64 z0,.string z1,.int .i64 z2,.int .i64 A,.int .i64 B] (0,0) _ (.int .i64 0) ?hp ?hq ?hg Tryz.underlying102 ?hd ?hi
  case hp=>rfl
  case hq=>rfl
  case hg=>exact setRow_heap _ _ _ _ _ _ HR6.o
  case hd=>rfl
  case hi=>kernel_rfl
 case hdf=>rfl
 case nX=>exact⟨j,true,HS.o,aGi.o.setRow (Nat.le_refl _),.inr (.inr (.inr ⟨rfl,hjs,z0,z1,z2,j+m,HTF.o,by rw[Us.o,qE.o],NG aGh.o (by omega)⟩))⟩
end W
namespace Pl
abbrev Yd:=Int × ByteArray × Int × Int × Int × Int
inductive GH (s:ByteArray):List Yd->Nat->Prop
 | nil:GH s [] 0
 | snoc {pre:List Yd} {k j:Nat} {kd:Int} {S:ByteArray} {N:Int} {n:Nat}:GH s pre k->Sk s k j true->j<s.size->aM s j=.ok (kd,S,N,n)->GH s (pre++[(kd,S,N,ln s j,cn s j,0)]) n
def Wh (s:ByteArray) (k:Nat) (x:Yd):Prop:=∃j b f,Sk s k j b/\x=(0,⟨#[]⟩,0,ln s j,cn s j,f)/\((b=false/\f=3)\/(b=true/\j=s.size/\f=0)\/(b=true/\j<s.size/\aM s j=.error f))
end Pl
namespace W
open Go.RowKit Go.Shelf
attribute [local go_sem] Oper.semAt_some
def KpX (n0 g bx:Nat) (W0 W1 W':World):Prop:=Below n0 W1 W'/\W'.heap[g]?=W1.heap[g]?/\W'.heap[bx]?=W1.heap[bx]?/\∀b,W0.heap.size<=b->b<W1.heap.size->W'.heap[b]?=W1.heap[b]?
theorem En {g:Nat}{s:ByteArray}{k:Nat}(hk:k<=s.size){w:World}{e:Ending}{w':World}(h:aCx g s k w e w') :
  aO g w w'/\∃(kd:Int) (S:ByteArray) (N A B f:Int) (n:Nat),e=.returned (.tuple #[.agg #[.int .i64 kd,.string S,.int .i64 N,.int .i64 A,.int .i64 B],.int .i64 f])/\n<=s.size/\jT g s n w'/\
   ((Pl.Wh s k (kd,S,N,A,B,f)/\(f≠0\/(f=0/\kd=0)))\/(f=0/\kd≠0/\k<n/\∀pre,Pl.GH s pre k->Pl.GH s (pre++[(kd,S,N,A,B,f)]) n)):=by
 obtain⟨j,b,hsk,hox,h⟩:=h;have hj:k<=j:=hsk.le.1;have hj2:j<=s.size:=hsk.le.2.1 hk;refine⟨hox,?_⟩;rcases h with ⟨rfl,rfl,hst⟩|⟨rfl,hjs,rfl,hst⟩|⟨rfl,hjs,f,pE,rfl,hst⟩|⟨rfl,hjs,kd,S,N,n,pE,rfl,hst⟩
 ·exact⟨_,_,_,_,_,_,j,rfl,hj2,hst,.inl ⟨⟨j,false,3,hsk,rfl,.inl ⟨rfl,rfl⟩⟩,.inl (by decide)⟩⟩
 ·exact⟨_,_,_,_,_,_,j,rfl,hj2,hst,.inl ⟨⟨j,true,0,hsk,rfl,.inr (.inl ⟨rfl,hjs,rfl⟩)⟩,.inr ⟨rfl,rfl⟩⟩⟩
 ·exact⟨_,_,_,_,_,_,j,rfl,hj2,hst,.inl ⟨⟨j,true,f,hsk,rfl,.inr (.inr ⟨rfl,hjs,pE⟩)⟩,.inl (Pl.EJ pE)⟩⟩
 ·obtain⟨⟨h1,h2⟩,⟨h3,_⟩,_⟩:=Pl.yY hjs pE;exact⟨_,_,_,_,_,_,n,rfl,h2,hst,.inr ⟨rfl,by omega,by omega,fun pre hp=>.snoc hp hsk hjs pE⟩⟩
theorem Bz {g k:Nat}{s:ByteArray}{w:World}(h:jT g s k w):XI g w=k:=by
 unfold XI;rw[cell_of_row w g 1 _ 218 (0,0) h];rfl
set_option maxRecDepth 100000 in
theorem XJ (m g bx n0 l:Nat) (hm:1<=m) (Vx:4<=g) (h8:4<=n0) (hne:bx≠g) (s:ByteArray) (hs:s.size<=1048576) (J Jx:List Pl.Yd->World->Prop)
  (hY:∀pre kd S N A B f W0 W1,J pre W0->(∃k,Pl.GH s pre k/\jT g s k W0)->aO g W0 W1->n0<=W0.heap.size->YieldAt Fence.wide (m-1) Tryz.prog l #[.agg #[.int .i64 kd,.string S,.int .i64 N,.int .i64 A,.int .i64 B],.int .i64 f] W1 fun e W'=>
   (e=.returned (.bool true)/\J (pre++[(kd,S,N,A,B,f)]) W'/\KpX n0 g bx W0 W1 W')\/(e=.returned (.bool false)/\Jx (pre++[(kd,S,N,A,B,f)]) W'))
  (W:World) (hbx:W.cell? ⟨bx,0,none⟩=some (.pointer (some ⟨g,0,none⟩))) (hn0:n0<=W.heap.size) (hL:jT g s 0 W) (hE:nR W) (h0:J [] W) :
  CallsIn Fence.wide m Tryz.prog 151 #[.func (.yield l) #[] #[],.pointer (some ⟨bx,0,none⟩)] W fun e W'=>(∃v,e=.returned v)/\
   ((∃pre k x,Pl.GH s pre k/\Pl.Wh s k x/\J (pre++[x]) W')\/(∃pre x,((∃k,Pl.GH s (pre++[x]) k)\/∃k,Pl.GH s pre k/\Pl.Wh s k x)/\Jx (pre++[x]) W')):=by
 have HY:Hid _:=hY;have HL:Hid (jT g s 0 W):=hL;have HE:Hid (nR W):=hE;have H0:Hid (J [] W):=h0;have PD:Hid (W.cell? ⟨bx,0,none⟩=some (.pointer (some ⟨g,0,none⟩))):=hbx;clear hY hL hE h0 hbx;refine callsIn_of_wp Tryz.func151 rfl trivial ?_ rfl;simp only[Tryz.ntmps151,List.size_toArray,List.length_cons,List.length_nil,Nat.reduceAdd,Nat.reduceSub,Array.replicate_succ,Array.replicate_zero,List.push_toArray,List.append_toArray,List.nil_append,List.cons_append]
 gi_wp2
 gi_loopw [] (fun wr=>∃pre k,Pl.GH s pre k/\k<=s.size/\J pre wr/\jT g s k wr/\nR wr/\wr.cell? ⟨bx,0,none⟩=some (.pointer (some ⟨g,0,none⟩))/\n0<=wr.heap.size) (fun wr=>s.size-XI g wr)
 case atStart=>exact⟨[],0,.nil,Nat.zero_le _,H0.o,HL.o,HE.o,PD.o,hn0⟩
 case round=>
  obtain⟨pre,k,hp,hk,hj,hst,hgl,hb,hn⟩:=hrel;have HN:Hid (CallsIn Fence.wide (m-1) Tryz.prog 152 #[.pointer (some ⟨g,0,none⟩)] wr fun e w'=>aCx g s k wr e w'):=callsIn_wide.2 (We g Vx s hs k hk wr hst hgl);have HP:Hid (Pl.GH s pre k):=hp;have HJ0:Hid (J pre wr):=hj;have HM:Hid (XI g wr=k):=Bz hst;have Su:Hid (∃k,Pl.GH s pre k/\jT g s k wr):=⟨k,hp,hst⟩;have HG:Hid (nR wr):=hgl;have HB:Hid (wr.cell? ⟨bx,0,none⟩=some (.pointer (some ⟨g,0,none⟩))):=hb;clear hp hj hst hgl
  gi_wp2_with (refine⟨trivial,?_⟩;gi_at_call 152;refine HN.o.mono ?_;rintro e u1 hu1;obtain⟨hox,kd,S,N,A,B,f,n,rfl,hn2,hst,hcs⟩:=En hk hu1;clear hu1;have Vy:Hid (aO g wr u1):=hox;have HST:Hid (jT g s n u1):=hst;have HCS:Hid _:=hcs;clear hst hcs hox;obtain⟨fn,tmps,assign,body,hy,hR⟩:=HY.o pre kd S N A B f wr (u1.alloc (.cells #[.int .i64 kd,.string S,.int .i64 N,.int .i64 A,.int .i64 B] 102)) HJ0.o Su.o (Vy.o.trans (aO.of_below (aB _ _))) hn;have HR:Hid _:=hR;clear hR)
  refine RoundIn.mono HR.o ?_;rintro e W3 (⟨rfl,hJ3,hk3⟩|⟨rfl,hJx3⟩)
  ·have hs1:=Vy.o.size;have c0:W3.cell? ⟨u1.heap.size,0,none⟩=some (.int .i64 kd):=cell_of_row W3 u1.heap.size 0 _ 102 (0,0) ((hk3.2.2.2 _ hs1 (by simp)).trans (heap_alloc_new u1 _));have Ol:Hid (J (pre++[(kd,S,N,A,B,f)]) W3):=hJ3;have B3:Hid (Below n0 (u1.alloc (.cells #[.int .i64 kd,.string S,.int .i64 N,.int .i64 A,.int .i64 B] 102)) W3):=hk3.1;have KG:Hid (W3.heap[g]?=(u1.alloc (.cells #[.int .i64 kd,.string S,.int .i64 N,.int .i64 A,.int .i64 B] 102)).heap[g]?):=hk3.2.1;have KB:Hid (W3.heap[bx]?=(u1.alloc (.cells #[.int .i64 kd,.string S,.int .i64 N,.int .i64 A,.int .i64 B] 102)).heap[bx]?):=hk3.2.2.1;clear hJ3 hk3 hy HR HY;rcases HCS.o with ⟨hl,hf|⟨rfl,rfl⟩⟩|⟨rfl,hkd,hkn,hpt⟩
   ·have ef:(f != 0)=true:=(by simpa using hf);have HLS:Hid (Pl.Wh s k (kd,S,N,A,B,f)):=hl;clear HCS hf hl
    gi_wp2
    refine bodyPost_ret (results_none rfl _ _ _) rfl ?_;exact⟨⟨_,rfl⟩,.inl ⟨pre,k,_,HP.o,HLS.o,Ol.o⟩⟩
   ·have HLS:Hid (Pl.Wh s k (0,S,N,A,B,0)):=hl;clear HCS hl
    gi_wp2
    refine bodyPost_ret (results_none rfl _ _ _) rfl ?_;exact⟨⟨_,rfl⟩,.inl ⟨pre,k,_,HP.o,HLS.o,Ol.o⟩⟩
   ·have ek:(kd == 0)=false:=(by simpa using hkd);have HPT:Hid (Pl.GH s (pre++[(kd,S,N,A,B,0)]) n):=hpt pre HP.o;have Te:Hid (k<n):=hkn;clear HCS hkd hpt hkn
    gi_wp2
    have hgu:g<u1.heap.size:=(Array.getElem?_eq_some_iff.1 HST.o).1;have aEv:jT g s n W3:=(KG.o.trans (Below.heap_alloc u1 _ g hgu)).trans HST.o;have hbw:bx<wr.heap.size:=block_lt_of_cell HB.o;have hbu:bx<u1.heap.size:=(by omega);go_roundw
    case rel=>
     refine⟨_,n,HPT.o,hn2,Ol.o,aEv,?_,?_,?_⟩
     ·exact ((HG.o.onX Vx Vy.o).on (aB _ _)).keep (n:=n0) (by omega) B3.o
     ·refine (World.cell?_of_block (w:=wr) ?_).trans HB.o;exact (KB.o.trans (Below.heap_alloc u1 _ bx hbu)).trans (Vy.o.block bx hbw hne)
     ·have:=B3.o.size;simp at this;omega
    case measure=>rw[Bz aEv,HM.o];have:=Te.o;omega
  ·have HJX:Hid (Jx (pre++[(kd,S,N,A,B,f)]) W3):=hJx3;clear hJx3 hy HR HY
   gi_wp2
   refine bodyPost_ret (results_none rfl _ _ _) rfl ?_;refine⟨⟨_,rfl⟩,.inr ⟨pre,_,?_,HJX.o⟩⟩;rcases HCS.o with ⟨hl,_⟩|⟨rfl,hkd,hkn,hpt⟩
   ·exact .inr ⟨k,HP.o,hl⟩
   ·exact .inl ⟨n,hpt pre HP.o⟩
theorem alloc_at (w:World) (o:Obj) (k:Nat) (h:k=w.heap.size):(w.alloc o).heap[k]?=some o:=by subst h;exact World.alloc_heap_new w o
def KbX (D z g bx:Nat) (W0 Wb W':World):Prop:=(∀b,D<=b->b<D+2->W'.heap[b]?=Wb.heap[b]?)/\Below z Wb W'/\W'.heap[g]?=Wb.heap[g]?/\W'.heap[bx]?=Wb.heap[bx]?/\∀b,W0.heap.size<=b->b<Wb.heap.size->W'.heap[b]?=Wb.heap[b]?
def aEw (D z g bx:Nat) (W0 Wb:World) (I Ix:List Pl.Yd->World->Prop) (xs:List Pl.Yd):Exit->Act->World->Prop
 | .normal,_,W'=>KbX D z g bx W0 Wb W'/\I xs W'
 | .ret,_,W'=>(∀b,D<=b->b<D+2->W'.heap[b]?=Wb.heap[b]?)/\Ix xs W'
 | _,_,_=>False
theorem nS {D l:Nat}{A B:World}(h:Below D A B) (hl:D<=l) (o:Obj):Below D A (B.putObj l o):=
 ⟨h.os,h.tape,h.output,by simpa using h.size,fun b hb=>(World.putObj_heap_other (by omega)).trans (h.block b hb)⟩
theorem Wi {op:Operand}{ps:Array Tmp}{assign body:Code}{Q:Exit->Act->World->Prop}{a:Act}{w:World}(n z g bx:Nat) (h1:2<=n) (hz8:4<=z) (hzw:z<=w.heap.size)
  (hop:a.eval op=.func (.func 151) #[] #[.pointer (some ⟨bx,0,none⟩)])
  (Vx:4<=g) (hgn:g<w.heap.size) (hbn:bx<w.heap.size) (hne:bx≠g) (s:ByteArray) (hs:s.size<=1048576)
  (hbx:w.cell? ⟨bx,0,none⟩=some (.pointer (some ⟨g,0,none⟩))) (hL:jT g s 0 w) (hE:nR w) (hps:ps.size=2)
  (I Ix:List Pl.Yd->World->Prop) (hI:∀A,Bw w A->I [] A)
  (Ca:∀pre A l o o',I pre A->w.heap.size<=l->l<w.heap.size+2->A.heap[l]?=some o'->o'.isCells=false->I pre (A.putObj l o))
  (yF:∀pre A l o o',Ix pre A->w.heap.size<=l->l<w.heap.size+2->A.heap[l]?=some o'->o'.isCells=false->Ix pre (A.putObj l o))
  (Ax:Pl.Yd->World->Act->World->Prop)
  (hassign:∀(l:Nat) (kd:Int) (S:ByteArray) (N A B f:Int) (W:World) (K:Act->World->Prop),(∀a' W',Bw W W'->Ax (kd,S,N,A,B,f) W a' W'->K a' W')->
   assign.wpIn (Fence.wide.inRound l) (n-1-1) Tryz.prog (Exit.then K (fun _ _ _=>False)) { tmps:=(ps.zip #[.agg #[.int .i64 kd,.string S,.int .i64 N,.int .i64 A,.int .i64 B],.int .i64 f]).foldl (fun t (p,v)=>t.setIfInBounds p v) a.tmps,defers:=[] } W)
  (hbody:∀(l:Nat) (pre:List Pl.Yd) (kd:Int) (S:ByteArray) (N A B f:Int) (W0 W:World) (a':Act) (W1:World) (o:Obj),w.heap.size<=l->l<w.heap.size+2->I pre W0->(∃k,Pl.GH s pre k/\jT g s k W0)->(∀b,w.heap.size<=b->b<w.heap.size+2->∃o',W0.heap[b]?=some o'/\o'.isCells=false)->w.heap.size+2<=W0.heap.size->aO g W0 W->Bw W W1->Ax (kd,S,N,A,B,f) W a' W1->
   body.wpIn (Fence.wide.inRound l) (n-1-1) Tryz.prog (aEw w.heap.size z g bx W0 (W1.putObj l o) I Ix (pre++[(kd,S,N,A,B,f)])) a' (W1.putObj l o))
  (hdone:∀pre k x W,Pl.GH s pre k->Pl.Wh s k x->I (pre++[x]) W->W.heap[w.heap.size]?=some (.deferred (some []))->Q .normal { a with defers:={ target:=.collected w.heap.size,args:=#[] } :: a.defers } W)
  (hstop:∀pre x W,((∃k,Pl.GH s (pre++[x]) k)\/∃k,Pl.GH s pre k/\Pl.Wh s k x)->Ix (pre++[x]) W->W.heap[w.heap.size]?=some (.deferred (some []))->Code.ret.wpIn Fence.wide n Tryz.prog Q { a with defers:={ target:=.collected w.heap.size,args:=#[] } :: a.defers } W) :
  (Code.rangeFunc op ps assign body).wpIn Fence.wide n Tryz.prog Q a w:=by
 refine wpIn_rangeFunc fun fn hfn=>?_
 let r0:Loop:={ state:=.ready,pending:=none,fn:=fn,tmps:=a.tmps,params:=ps,assign:=assign,body:=body,defers:=w.heap.size }
 obtain⟨W1,hW1⟩:∃W1,(w.alloc (.deferred (some []))).alloc (.loop r0)=W1:=⟨_,rfl⟩;have hL1:W1.heap[w.heap.size+1]?=some (.loop r0):=hW1 ▸ alloc_at _ _ _ (by simp);have hD1:W1.heap[w.heap.size]?=some (.deferred (some [])):=hW1 ▸ (Below.heap_alloc _ _ _ (by simp)).trans (alloc_at w _ _ rfl);have hB1:Bw w W1:=by rw[<- hW1];exact (aB w _).trans ((aB _ _).mono (by simp))
 have hz1:w.heap.size+2<=W1.heap.size:=by have:=(Array.getElem?_eq_some_iff.1 hL1).1;omega
 refine⟨w.heap.size+1,[{ target:=.collected w.heap.size,args:=#[] }],W1,{ target:=.fn (.func 151) #[.pointer (some ⟨bx,0,none⟩)],args:=#[.func (.yield (w.heap.size+1)) #[] #[]] },W1,151,
  #[.func (.yield (w.heap.size+1)) #[] #[]] ++ #[.pointer (some ⟨bx,0,none⟩)],W1,?_,?_,?_,?_,fun _=>by omega,?_⟩
 ·rw[<- hW1];exact run_enterLoop_outer _ _ _ _ _
 ·simp only[resolve,hop];simp[go_sem]
 ·intro f' _;trivial
 ·simp[invoke,go_sem,enters_of Tryz.func151 (by kernel_rfl) rfl]
 refine (XJ (n-1) g bx z (w.heap.size+1) (by omega) Vx hz8 hne s hs
  (fun pre W=>I pre W/\W.heap[w.heap.size+1]?=some (.loop r0)/\W.heap[w.heap.size]?=some (.deferred (some [])))
  (fun pre W=>Ix pre W/\W.heap[w.heap.size+1]?=some (.loop { r0 with state:=.done,pending:=some .ret })/\W.heap[w.heap.size]?=some (.deferred (some [])))
  ?hY W1 ((hB1.cell (p:=⟨bx,0,none⟩) hbn).trans hbx) (by omega) (hL.keep hB1) (hE.on hB1) ⟨hI _ hB1,hL1,hD1⟩).mono ?post
 case hY=>
  rintro pre kd S N A B f W0 W ⟨hi,hl,hd⟩ hxx hx hn;have z0:w.heap.size+2<=W0.heap.size:=by have:=(Array.getElem?_eq_some_iff.1 hl).1;omega
  have hlW:W.heap[w.heap.size+1]?=some (.loop r0):=(hx.block _ (by omega) (by omega)).trans hl;have hdW:W.heap[w.heap.size]?=some (.deferred (some [])):=(hx.block _ (by omega) (by omega)).trans hd;have zW:w.heap.size+2<=W.heap.size:=Nat.le_trans z0 hx.size;refine⟨_,_,_,_,run_yield hlW (by show 2=ps.size;omega),roundIn_of_wpIn hfn (hassign _ kd S N A B f W _ fun a' W' hb ha=>?_)⟩;have hl':W'.heap[w.heap.size+1]?=some (.loop r0):=(hb.block _ (by omega)).trans hlW;have hd':W'.heap[w.heap.size]?=some (.deferred (some [])):=(hb.block _ (by omega)).trans hdW;refine⟨_,run_beginRound hl' rfl,wpIn_mono (hbody _ pre kd S N A B f W0 W a' W' _ (by omega) (by omega) hi hxx (fun b hb1 hb2=>by rcases (show b=w.heap.size\/b=w.heap.size+1 by omega) with rfl|rfl;exact⟨_,hd,rfl⟩;exact⟨_,hl,rfl⟩) z0 hx hb ha) ?_⟩;have zW':w.heap.size+2<=W'.heap.size:=Nat.le_trans zW hb.size;have hl2:(W'.putObj (w.heap.size+1) (.loop { r0 with state:=.busy })).heap[w.heap.size+1]?=some (.loop { r0 with state:=.busy }):=World.putObj_heap_same (by omega);have hd2:(W'.putObj (w.heap.size+1) (.loop { r0 with state:=.busy })).heap[w.heap.size]?=some (.deferred (some [])):=(World.putObj_heap_other (by omega)).trans hd';rintro e a3 W3 hp;cases e with
  | normal=>
   obtain⟨⟨k1,k2,kg,kb,k3⟩,hi3⟩:=hp;have hl3:=(k1 (w.heap.size+1) (by omega) (by omega)).trans hl2;have hd3:=(k1 w.heap.size (by omega) (by omega)).trans hd2;refine⟨_,_,run_endRound none hl3,.inl ⟨rfl,⟨Ca _ _ _ _ _ hi3 (by omega) (by omega) hl3 rfl,World.putObj_heap_same (Array.getElem?_eq_some_iff.1 hl3).1,(World.putObj_heap_other (by omega)).trans hd3⟩,?_,?_,?_,fun b hb1 hb2=>?_⟩⟩
   ·exact nS ((nS (hb.mono (by omega)) (by omega) _).trans k2) (by omega) _
   ·rw[World.putObj_heap_other (by omega),kg,World.putObj_heap_other (by omega)];exact hb.block g (by omega)
   ·rw[World.putObj_heap_other (by omega),kb,World.putObj_heap_other (by omega)];exact hb.block bx (by omega)
   ·rw[World.putObj_heap_other (by omega),k3 b hb1 (by have:=hb.size;simp;omega),World.putObj_heap_other (by omega)];exact hb.block b hb2
  | ret=>
   obtain⟨k1,hi3⟩:=hp;have hl3:=(k1 (w.heap.size+1) (by omega) (by omega)).trans hl2;have hd3:=(k1 w.heap.size (by omega) (by omega)).trans hd2;exact⟨_,_,run_endRound (some .ret) hl3,.inr ⟨rfl,yF _ _ _ _ _ hi3 (by omega) (by omega) hl3 rfl,World.putObj_heap_same (Array.getElem?_eq_some_iff.1 hl3).1,(World.putObj_heap_other (by omega)).trans hd3⟩⟩
  | exit id=>exact hp.elim
  | goto t=>exact hp.elim
  | panic ch=>exact hp.elim
  | outgrown=>exact hp.elim
 case post=>
  rintro e W2 ⟨⟨v,rfl⟩,(⟨pre,k,x,hp,hx,hi,hl,hd⟩|⟨pre,x,hx,hi,hl,hd⟩)⟩
  ·exact⟨_,_,run_endLoop hl (show LoopState.ready≠LoopState.busy by decide),hdone pre k x _ hp hx (Ca _ _ _ _ _ hi (by omega) (by omega) hl rfl) ((World.putObj_heap_other (by omega)).trans hd)⟩
  ·exact⟨_,_,run_endLoop hl (show LoopState.done≠LoopState.busy by decide),hstop pre x _ hx (yF _ _ _ _ _ hi (by omega) (by omega) hl rfl) ((World.putObj_heap_other (by omega)).trans hd)⟩
end W
namespace Pl
def Yd.tk (x:Yd):Tk:=⟨x.1,x.2.1,x.2.2.1,x.2.2.2.1,x.2.2.2.2.1⟩
def toks (xs:List Yd):List Tk:=xs.map Yd.tk
def uK (xs:List Yd):Prop:=∀(i:Nat) (x:Yd),xs[i]?=some x->x.2.2.2.2.2=(0:Int)/\(x.1=(0:Int)\/i≠6000)
def PE (n:Nat) (x:Yd):Int:=if x.2.2.2.2.2=0/\x.1≠0/\n=6000 then 9 else x.2.2.2.2.2
theorem uK.nil:uK []:=fun i x h=>by simp at h
theorem uK.snoc {pre:List Yd}{x:Yd}(h:uK pre) (hc:PE pre.length x=0):uK (pre++[x]):=by
 intro i y hy;rcases Nat.lt_or_ge i pre.length with q|q
 ·rw[List.getElem?_append_left q]at hy;exact h i y hy
 ·rw[List.getElem?_append_right q]at hy;have hi:i=pre.length:=by
   have:=(List.getElem?_eq_some_iff.1 hy).1;simp at this;omega
  subst hi;simp at hy;subst hy;unfold PE at hc;split at hc
  ·cases hc
  ·next hn=>
   refine⟨hc,?_⟩;by_cases hk:x.1=0
   ·exact .inl hk
   ·exact .inr fun e=>hn ⟨hc,hk,e⟩
theorem uK.init {pre:List Yd}{x:Yd}(h:uK (pre++[x])):uK pre:=fun i y hy=>h i y (by
 rw[List.getElem?_append_left (List.getElem?_eq_some_iff.1 hy).1];exact hy)
theorem uK.last {pre:List Yd}{x:Yd}(h:uK (pre++[x])):x.2.2.2.2.2=0/\(x.1=0\/pre.length≠6000):=h pre.length x (by simp)
theorem GH.lx {s:ByteArray}{pre:List Yd}{k:Nat}(h:GH s pre k):uK pre->pre.length<=6000/\∀r,Lx s k (toks pre) r->Lx s 0 [] r:=by
 induction h with
 | nil=>exact fun _=>⟨Nat.zero_le _,fun r h=>h⟩
 | @snoc pre k j kd S N n hp hsk hj pE ih=>
  intro hg;obtain⟨h1,h2⟩:=ih hg.init;have hl:=hg.last;have hk:=(yY hj pE).2.1;have hlt:pre.length<6000:=by
   rcases hl.2 with q|q
   ·exact absurd q (by show kd≠0;omega)
   ·omega
  refine⟨by simp;omega,fun r hr=>h2 r (.go hsk hj pE (by simpa [toks] using hlt) ?_)⟩;simpa [toks,Yd.tk] using hr
theorem Wj {s:ByteArray}{pre:List Yd}{k:Nat}{x:Yd}(hp:GH s pre k) (hx:Wh s k x) (hg:uK (pre++[x])):Lx s 0 [] (toks (pre++[x]),0,0,0):=by
 obtain⟨h1,h2⟩:=hp.lx hg.init;obtain⟨j,b,f,hsk,rfl,hc⟩:=hx;have hf:f=0:=hg.last.1;rcases hc with ⟨_,q⟩|⟨rfl,hj,_⟩|⟨_,_,q⟩
 ·omega
 ·have:=h2 _ (.fin (acc:=toks pre) hsk hj);simpa [toks,Yd.tk,AA] using this
 ·exact absurd hf (EJ q)
theorem Wl {s:ByteArray}{pre:List Yd}{x:Yd}(h:(∃k,GH s (pre++[x]) k)\/∃k,GH s pre k/\Wh s k x) (hg:uK pre) (hc:PE pre.length x≠0):Lx s 0 [] ([],PE pre.length x,x.2.2.2.1,x.2.2.2.2.1):=by
 rcases h with ⟨k,h⟩|⟨k,hp,hx⟩
 ·generalize hq:pre++[x]=xs at h;cases h with
  | nil=>simp at hq
  | @snoc pre' k' j kd S N n hp hsk hj pE=>
   obtain⟨e1,e2⟩:=List.append_inj' hq rfl;subst e1;simp at e2;subst e2;obtain⟨h1,h2⟩:=hp.lx hg;have h6:PE pre.length (kd,S,N,ln s j,cn s j,0)=9/\pre.length=6000:=by
    unfold PE at hc ⊢;split at hc
    ·next q=>exact⟨if_pos q,q.2.2⟩
    ·exact absurd rfl hc
   rw[h6.1];exact h2 _ (.many hsk hj pE (by simp[toks,h6.2]))
 ·obtain⟨h1,h2⟩:=hp.lx hg;obtain⟨j,b,f,hsk,rfl,hcs⟩:=hx;have e:PE pre.length (0,⟨#[]⟩,0,ln s j,cn s j,f)=f:=by
   unfold PE;split
   ·next q=>exact absurd rfl q.2.1
   ·rfl
  rw[e]at hc ⊢;rcases hcs with ⟨rfl,rfl⟩|⟨rfl,_,rfl⟩|⟨rfl,hj,pE⟩
  ·exact h2 _ (.opn hsk)
  ·exact absurd rfl hc
  ·exact h2 _ (.bad hsk hj pE)
end Pl
namespace W
open Go.RowKit
theorem RO (s:ByteArray) (w:World):Calls Tryz.prog 136 #[.string s] w fun e w'=>∃g,w.heap.size<=g/\e=.returned (.pointer (some ⟨g,0,none⟩))/\jT g s 0 w'/\Bw w w':=by
 have e1:Pl.ln s 0=1:=by unfold Pl.ln;simp
 have e2:Pl.cn s 0=1:=by unfold Pl.cn;simp
 have HL:Hid (∀(g:Nat) (u:World),u.heap[g]?=some (.cells #[.string s,.int .i64 0,.int .i64 1,.int .i64 0] 218 (0,0))->jT g s 0 u):=fun g u h=>by
  unfold jT;rw[h,e1,e2];rfl
 clear e1 e2;go_enter Tryz.func136,Tryz.ntmps136;go_wp2_with fail
 go_ret;exact⟨w.heap.size,Nat.le_refl _,rfl,HL.o _ _ (heap_alloc_new w _),aB w _⟩
theorem Eo (g:Nat) (w:World):Calls Tryz.prog 137 #[.pointer (some ⟨g,0,none⟩)] w fun e w'=>e=.returned (.func (.func 151) #[] #[.pointer (some ⟨w.heap.size,0,none⟩)])/\w'=w.alloc (.cells #[.pointer (some ⟨g,0,none⟩)] 204):=by
 go_enter Tryz.func137,Tryz.ntmps137;go_wp2_with fail
 go_ret;exact⟨rfl,rfl⟩
theorem XK (w:World) (b:Nat) (v:Value) (h:w.cell? ⟨b,0,none⟩=some v):(loadVar 141 ⟨b,0,none⟩).run Tryz.prog w=.ok v w:=by
 simp[loadVar,go_sem,Tryz.underlying141,h]
theorem zK (w:World) (b:Nat) (v:Value) (h:w.cell? ⟨b,0,none⟩=some v):(loadVar 3 ⟨b,0,none⟩).run Tryz.prog w=.ok v w:=by
 simp[loadVar,go_sem,Tryz.underlying3,h]
theorem wW {fn:Func}{p q r s:Tmp}(h:fn.results=#[.cell p 141,.cell q 3,.cell r 3,.cell s 3]) (tmps:Array Value) (w:World) (b0 b1 b2 b3:Nat) (v0 v1 v2 v3:Value)
  (hp:tmps.getD p undef=.pointer (some ⟨b0,0,none⟩)) (hq:tmps.getD q undef=.pointer (some ⟨b1,0,none⟩)) (hr:tmps.getD r undef=.pointer (some ⟨b2,0,none⟩)) (hs:tmps.getD s undef=.pointer (some ⟨b3,0,none⟩))
  (h0:w.cell? ⟨b0,0,none⟩=some v0) (h1:w.cell? ⟨b1,0,none⟩=some v1) (h2:w.cell? ⟨b2,0,none⟩=some v2) (h3:w.cell? ⟨b3,0,none⟩=some v3) :
  (results fn tmps).run Tryz.prog w=.ok (.tuple #[v0,v1,v2,v3]) w:=by
 have hp':tmps[p]?.getD undef=.pointer (some ⟨b0,0,none⟩):=by simpa using hp
 have hq':tmps[q]?.getD undef=.pointer (some ⟨b1,0,none⟩):=by simpa using hq
 have hr':tmps[r]?.getD undef=.pointer (some ⟨b2,0,none⟩):=by simpa using hr
 have hs':tmps[s]?.getD undef=.pointer (some ⟨b3,0,none⟩):=by simpa using hs
 simp[results,h,hp',hq',hr',hs',asAddr,XK w b0 v0 h0,zK w b1 v1 h1,zK w b2 v2 h2,zK w b3 v3 h3]
theorem vY {w w':World}{B k n:Nat}{e:TypeId}{v:Value}{xs:List Value}(h:w.ownsRow B e k v n xs) (hk:∀(b:Nat) (cs:Array Value),B<=b->w.heap[b]?=some (.cells cs e (0,0))->w'.heap[b]?=w.heap[b]?):w'.ownsRow B e k v n xs:=by
 refine⟨h.1,?_⟩;rcases h.2 with ⟨a,c⟩|⟨g,cap,cur,h0,hlo,hg,r⟩
 ·exact .inl ⟨a,c⟩
 ·exact .inr ⟨g,cap,cur,h0,hlo,(hk g _ hlo hg).trans hg,r⟩
theorem FB (W:World) (z:Nat) (v0 v1 v2 v3 a0 a1 a2 a3:Value) (q0:W.heap[z]?=some (.cells #[a0] 141 (0,0))) (q1:W.heap[z+1]?=some (.cells #[a1] 3 (0,0))) (q2:W.heap[z+1+1]?=some (.cells #[a2] 3 (0,0))) (q3:W.heap[z+1+1+1]?=some (.cells #[a3] 3 (0,0))){X:World}
  (hX:X=(((W.setCell ⟨z,0,none⟩ v0).setCell ⟨z+1,0,none⟩ v1).setCell ⟨z+1+1,0,none⟩ v2).setCell ⟨z+1+1+1,0,none⟩ v3) :
  X.heap[z]?=some (.cells #[v0] 141 (0,0))/\X.heap[z+1]?=some (.cells #[v1] 3 (0,0))/\X.heap[z+1+1]?=some (.cells #[v2] 3 (0,0))/\X.heap[z+1+1+1]?=some (.cells #[v3] 3 (0,0))/\(∀b,b<z\/z+4<=b->X.heap[b]?=W.heap[b]?)/\Below z W X:=by
 subst hX;have o:∀(u:World) (c:Nat) (v:Value) (b:Nat),b≠c->(u.setCell ⟨c,0,none⟩ v).heap[b]?=u.heap[b]?:=fun u c v b h=>Below.heap_setCell u ⟨c,0,none⟩ v b h;refine⟨?_,?_,?_,?_,fun b hb=>?_,?_⟩
 ·rw[o _ _ _ _ (by omega),o _ _ _ _ (by omega),o _ _ _ _ (by omega)];exact one_setCell q0
 ·rw[o _ _ _ _ (by omega),o _ _ _ _ (by omega)];exact one_setCell (by rw[o _ _ _ _ (by omega)];exact q1)
 ·rw[o _ _ _ _ (by omega)];exact one_setCell (by rw[o _ _ _ _ (by omega),o _ _ _ _ (by omega)];exact q2)
 ·exact one_setCell (by rw[o _ _ _ _ (by omega),o _ _ _ _ (by omega),o _ _ _ _ (by omega)];exact q3)
 ·rw[o _ _ _ _ (by omega),o _ _ _ _ (by omega),o _ _ _ _ (by omega),o _ _ _ _ (by omega)]
 ·exact ((((Below.refl z W).setCell (p:=⟨z,0,none⟩) (Nat.le_refl _) _).setCell (p:=⟨z+1,0,none⟩) (by show z<=z+1;omega) _).setCell (p:=⟨z+1+1,0,none⟩) (by show z<=z+1+1;omega) _).setCell (p:=⟨z+1+1+1,0,none⟩) (by show z<=z+1+1+1;omega) _
theorem KF (m:Nat) (s:ByteArray) (w W:World) (D:Nat) (tmps:Array Value) (ts:List Pl.Tk) (c l k:Int) (v:Value) (hp:tmps.getD 2 undef=.pointer (some ⟨w.heap.size,0,none⟩)) (hq:tmps.getD 3 undef=.pointer (some ⟨w.heap.size+1,0,none⟩)) (hr:tmps.getD 4 undef=.pointer (some ⟨w.heap.size+1+1,0,none⟩)) (hs:tmps.getD 5 undef=.pointer (some ⟨w.heap.size+1+1+1,0,none⟩))
  (q0:W.heap[w.heap.size]?=some (.cells #[v] 141 (0,0))) (q1:W.heap[w.heap.size+1]?=some (.cells #[.int .i64 c] 3 (0,0))) (q2:W.heap[w.heap.size+1+1]?=some (.cells #[.int .i64 l] 3 (0,0))) (q3:W.heap[w.heap.size+1+1+1]?=some (.cells #[.int .i64 k] 3 (0,0)))
  (ho:W.ownsRow w.heap.size 102 5 v ts.length (Pl.Tk.all ts)) (hD:W.heap[D]?=some (.deferred (some []))) (hDz:w.heap.size+4<=D) (hB:Bw w W) (hx:nG s (ts,c,l,k)) :
  bodyPostM Fence.wide m Tryz.prog Tryz.f123 (fun e w'=>nK w.heap.size s e w'/\Bw w w') .ret { tmps:=tmps,defers:=[{ target:=.collected D,args:=#[] }] } W:=by
 have o:∀b,b≠D->(W.putObj D (.deferred none)).heap[b]?=W.heap[b]?:=fun b h=>World.putObj_heap_other h;refine⟨by simp,.inl ⟨_,_,rfl,run_takeDeferred hD,?_⟩⟩;refine⟨_,wW rfl tmps _ w.heap.size (w.heap.size+1) (w.heap.size+1+1) (w.heap.size+1+1+1) v (.int .i64 c) (.int .i64 l) (.int .i64 k) hp hq hr hs (cell_of_row _ _ 0 _ 141 (0,0) ((o _ (by omega)).trans q0)) (cell_of_row _ _ 0 _ 3 (0,0) ((o _ (by omega)).trans q1)) (cell_of_row _ _ 0 _ 3 (0,0) ((o _ (by omega)).trans q2)) (cell_of_row _ _ 0 _ 3 (0,0) ((o _ (by omega)).trans q3)),⟨ts,c,l,k,v,hx,rfl,vY ho fun b cs _ hc=>o b fun e=>?_⟩,nS hB (by omega) _⟩;subst e;rw[hD]at hc;cases hc
section
variable {F:Fence}{n:Nat}{P:Program}{ops:Array Oper}{Q:Exit->Act->World->Prop}{md:Region.Mode}
theorem RP (I:Array Bool->Act->World->Prop)
  (hdone:∀L a w,I L a w->(∀i,i<ops.size->up L i=true)->Q .normal a w)
  (hac:RL md ops=true)
  (hstep:∀(L:Array Bool) (a:Act) (w:World) (i:Nat) (o:Oper),I L a w->i<L.size->L.size=ops.size->up L i=false->Vw md ops L->(∀e∈o.after,Region.binds md e=true->up L e.on=true)->ops[i]?=some o->∀K:Act->World->Prop,(∀a w,I (L.setIfInBounds i true) a w->K a w)->wpOpIn F n P ops Q i K a w) :
  ∀(fuel:Nat) (L:Array Bool) (a:Act) (w:World),I L a w->Vw md ops L->L.size=ops.size->ET L.toList<=fuel->wpAnyIn F n P md ops Q fuel L a w:=by
 intro fuel
 induction fuel with
 | zero=>
  intro L a w hI hC hs hu;have hr:Region.ready md ops L=[]:=by
   cases hrr:Region.ready md ops L with
   | nil=>rfl
   | cons i rs=>
    have:=sK hs (i:=i) (md:=md) (by rw[hrr];exact List.mem_cons_self);exact absurd this (EU _ (by omega) i)
  exact⟨hr,hdone L a w hI fun i hi=>Bu (rO hac hs hr i hi) (by omega)⟩
 | succ fuel ih=>
  intro L a w hI hC hs hu;refine⟨fun hr=>hdone L a w hI fun i hi=>Bu (rO hac hs hr i hi) (by omega),fun i hi=>?_⟩;obtain⟨h0,o,ho,hd⟩:=mem_ready.1 hi;have hlt:i<L.size:=by rw[hs];exact (Array.getElem?_eq_some_iff.1 ho).1
  have hd':∀e∈o.after,Region.binds md e=true->up L e.on=true:=hd;refine hstep L a w i o hI hlt hs (EW h0) hC hd' ho _ fun a' w' h'=>ih _ a' w' h' (fun j oj hoj hj e he hb=>?_) (by simpa using hs) ?_
  ·rw[aP hlt]at hj;by_cases q:i=j
   ·subst q;rw[ho]at hoj;cases hoj;exact vX hlt (hd' e he hb)
   ·rw[if_neg q]at hj;exact vX hlt (hC j oj hoj hj e he hb)
  ·have h1:=NB L.toList i (sK hs hi);rw[Array.toList_setIfInBounds];omega
theorem IY (k:Nat):ET (Array.replicate k false).toList=k:=by
 rw[Array.toList_replicate]
 induction k with
 | zero=>rfl
 | succ k ih=>show ET (false :: List.replicate k false)=k+1;unfold ET at ih ⊢;rw[List.map_cons,List.sum_cons,ih];simp;omega
theorem Om (k:Nat):Vw md ops (Array.replicate k false):=fun j o ho hj=>by
 rw[nL]at hj;cases hj
end
open Go.RowKit Go.Shelf
attribute [local go_sem] Oper.semAt_some
theorem nT {F:Fence}{n:Nat}{P:Program}{ops:Array Oper}{Q:Exit->Act->World->Prop}{i:Nat}{o:Oper}{K:Act->World->Prop}{a:Act}{w:World}(h:ops[i]?=some o) (hh:if Region.wanted o (yielded ops a.tmps) then o.wpIn F n P a w K Q else (∀f,o.about P w a.eval=some f->F.fn f)/\K (a.put o.dst undef) w):wpOpIn F n P ops Q i K a w:=by
 unfold wpOpIn;rw[h];exact hh
def nY (X0 X1 X2 X3 X4:World) (L:Array Bool):World:=bif up L 8 then X4 else bif up L 7 then X3 else bif up L 6 then X2 else bif up L 5 then X1 else X0
theorem nY.keep {X0 X1 X2 X3 X4:World}{L:Array Bool}{i:Nat}(hi:i<L.size) (n5:i≠5) (n6:i≠6) (n7:i≠7) (n8:i≠8):nY X0 X1 X2 X3 X4 (L.setIfInBounds i true)=nY X0 X1 X2 X3 X4 L:=by
 unfold nY;rw[aP hi,aP hi,aP hi,aP hi,if_neg n5,if_neg n6,if_neg n7,if_neg n8]
theorem nY.all {P:World->Prop}{X0 X1 X2 X3 X4:World}(h0:P X0) (h1:P X1) (h2:P X2) (h3:P X3) (h4:P X4) (L:Array Bool):P (nY X0 X1 X2 X3 X4 L):=by
 unfold nY;cases up L 8 <;> cases up L 7 <;> cases up L 6 <;> cases up L 5 <;> assumption
def nZ (z p:Nat) (f A B:Int) (u0 u1 u6 u9 u10 u11 u12 u13 u14 u15 u16 u17 u18 u19 u20 u21 u22 u23 u24 u25 u26 u27 u28 u29 u30 u31 u32 u38 u39 u40 u41 u42:Value)  (L:Array Bool):Act:={ tmps:=#[u0,u1,.pointer (some ⟨z,0,none⟩),.pointer (some ⟨z+1,0,none⟩),.pointer (some ⟨z+1+1,0,none⟩),.pointer (some ⟨z+1+1+1,0,none⟩),u6,.pointer (some ⟨p,0,none⟩),.int .i64 f,u9,u10,u11,u12,u13,u14,u15,u16,u17,u18,u19,u20,u21,u22,u23,u24,u25,u26,u27,u28,u29,u30,u31,u32,sl L 0 (.int .i64 f),sl L 1 (.pointer (some ⟨p,3,none⟩)),sl L 2 (.int .i64 A),sl L 3 (.pointer (some ⟨p,4,none⟩)),sl L 4 (.int .i64 B),u38,u39,u40,u41,u42],defers:=[] }
def NH:Array Oper:=#[{ dst:=some 33,op:=Op.move (Operand.tmp 8),type:=3,pos:= "l5_lex.go:68",after:=#[{ on:=5,ground:=Ground.gcOnly Departure.lateStores }],guard:=none },{ dst:=some 34,op:=Op.fieldAddr 102 (Operand.tmp 7) 3,type:=0,pos:= "l5_lex.go:68",after:=#[{ on:=6,ground:=Ground.gcOnly Departure.lateStores }],guard:=none },{ dst:=some 35,op:=Op.load 3 (Operand.tmp 34),type:=3,pos:= "l5_lex.go:68",after:=#[{ on:=1,ground:=Ground.data },{ on:=6,ground:=Ground.gcOnly Departure.lateStores }],guard:=none },{ dst:=some 36,op:=Op.fieldAddr 102 (Operand.tmp 7) 4,type:=0,pos:= "l5_lex.go:68",after:=#[{ on:=7,ground:=Ground.gcOnly Departure.lateStores }],guard:=none },{ dst:=some 37,op:=Op.load 3 (Operand.tmp 36),type:=3,pos:= "l5_lex.go:68",after:=#[{ on:=3,ground:=Ground.data },{ on:=7,ground:=Ground.gcOnly Departure.lateStores }],guard:=none },{ dst:=none,op:=Op.store 141 (Operand.tmp 2) (Operand.const (Value.slice none 0 0)),type:=0,pos:= "l5_lex.go:68",after:=#[{ on:=0,ground:=Ground.textOnly Departure.lateStores },{ on:=1,ground:=Ground.textOnly Departure.lateStores },{ on:=2,ground:=Ground.textOnly Departure.lateStores },{ on:=3,ground:=Ground.textOnly Departure.lateStores },{ on:=4,ground:=Ground.textOnly Departure.lateStores }],guard:=none },{ dst:=none,op:=Op.store 3 (Operand.tmp 3) (Operand.tmp 33),type:=0,pos:= "l5_lex.go:68",after:=#[{ on:=0,ground:=Ground.data },{ on:=5,ground:=Ground.chain },{ on:=0,ground:=Ground.phase },{ on:=1,ground:=Ground.textOnly Departure.lateStores },{ on:=2,ground:=Ground.textOnly Departure.lateStores },{ on:=3,ground:=Ground.textOnly Departure.lateStores },{ on:=4,ground:=Ground.textOnly Departure.lateStores },{ on:=5,ground:=Ground.phase }],guard:=none },{ dst:=none,op:=Op.store 3 (Operand.tmp 4) (Operand.tmp 35),type:=0,pos:= "l5_lex.go:68",after:=#[{ on:=2,ground:=Ground.data },{ on:=6,ground:=Ground.chain },{ on:=0,ground:=Ground.phase },{ on:=1,ground:=Ground.phase },{ on:=2,ground:=Ground.phase },{ on:=3,ground:=Ground.textOnly Departure.lateStores },{ on:=4,ground:=Ground.textOnly Departure.lateStores },{ on:=5,ground:=Ground.phase },{ on:=6,ground:=Ground.phase }],guard:=none },{ dst:=none,op:=Op.store 3 (Operand.tmp 5) (Operand.tmp 37),type:=0,pos:= "l5_lex.go:68",after:=#[{ on:=4,ground:=Ground.data },{ on:=7,ground:=Ground.chain },{ on:=0,ground:=Ground.phase },{ on:=1,ground:=Ground.phase },{ on:=2,ground:=Ground.phase },{ on:=3,ground:=Ground.phase },{ on:=4,ground:=Ground.phase },{ on:=5,ground:=Ground.phase },{ on:=6,ground:=Ground.phase },{ on:=7,ground:=Ground.phase }],guard:=none }]
set_option maxRecDepth 100000 in
theorem KH {F:Fence}{n:Nat}{Q:Exit->Act->World->Prop}{l:Nat}(hF:F=Fence.wide.inRound l) (z p:Nat) (f A B:Int) (u0 u1 u6 u9 u10 u11 u12 u13 u14 u15 u16 u17 u18 u19 u20 u21 u22 u23 u24 u25 u26 u27 u28 u29 u30 u31 u32 u38 u39 u40 u41 u42:Value) (Wb X4:World)
  (k3:Wb.cell? ⟨p,3,none⟩=some (.int .i64 A)) (k4:Wb.cell? ⟨p,4,none⟩=some (.int .i64 B)) (hp:z+4<=p)
  (t0:Wb.cell? ⟨z,0,none⟩=some (.slice none 0 0)) (t1:Wb.cell? ⟨z+1,0,none⟩=some (.int .i64 0)) (t2:Wb.cell? ⟨z+1+1,0,none⟩=some (.int .i64 0)) (t3:Wb.cell? ⟨z+1+1+1,0,none⟩=some (.int .i64 0))
  (f0:Wb.frozen? ⟨z,0,none⟩=false) (f1:Wb.frozen? ⟨z+1,0,none⟩=false) (f2:Wb.frozen? ⟨z+1+1,0,none⟩=false) (f3:Wb.frozen? ⟨z+1+1+1,0,none⟩=false)
  (XL:X4=((((Wb.drew).setCell ⟨z,0,none⟩ (.slice none 0 0)).setCell ⟨z+1,0,none⟩ (.int .i64 f)).setCell ⟨z+1+1,0,none⟩ (.int .i64 A)).setCell ⟨z+1+1+1,0,none⟩ (.int .i64 B))
  (hQ:Q .normal { tmps:=#[u0,u1,.pointer (some ⟨z,0,none⟩),.pointer (some ⟨z+1,0,none⟩),.pointer (some ⟨z+1+1,0,none⟩),.pointer (some ⟨z+1+1+1,0,none⟩),u6,.pointer (some ⟨p,0,none⟩),.int .i64 f,u9,u10,u11,u12,u13,u14,u15,u16,u17,u18,u19,u20,u21,u22,u23,u24,u25,u26,u27,u28,u29,u30,u31,u32,.int .i64 f,.pointer (some ⟨p,3,none⟩),.int .i64 A,.pointer (some ⟨p,4,none⟩),.int .i64 B,u38,u39,u40,u41,u42],defers:=[] } X4) :
  wpAnyIn F n Tryz.prog .any NH Q 9 (Array.replicate 9 false) { tmps:=#[u0,u1,.pointer (some ⟨z,0,none⟩),.pointer (some ⟨z+1,0,none⟩),.pointer (some ⟨z+1+1,0,none⟩),.pointer (some ⟨z+1+1+1,0,none⟩),u6,.pointer (some ⟨p,0,none⟩),.int .i64 f,u9,u10,u11,u12,u13,u14,u15,u16,u17,u18,u19,u20,u21,u22,u23,u24,u25,u26,u27,u28,u29,u30,u31,u32,undef,undef,undef,undef,undef,u38,u39,u40,u41,u42],defers:=[] } (Wb.drew):=by
 subst hF;unfold NH;obtain⟨X0,hX0⟩:∃X0,X0=Wb.drew:=⟨_,rfl⟩;have e0:∀a,X0.cell? a=Wb.cell? a:=fun a=>by rw[hX0];rfl
 have e0':∀a,X0.frozen? a=Wb.frozen? a:=fun a=>by rw[hX0];rfl
 rw[<- hX0]at XL ⊢;obtain⟨X1,hX1⟩:∃X1,X1=X0.setCell ⟨z,0,none⟩ (.slice none 0 0):=⟨_,rfl⟩;rw[<- hX1]at XL;obtain⟨X2,hX2⟩:∃X2,X2=X1.setCell ⟨z+1,0,none⟩ (.int .i64 f):=⟨_,rfl⟩;rw[<- hX2]at XL;obtain⟨X3,hX3⟩:∃X3,X3=X2.setCell ⟨z+1+1,0,none⟩ (.int .i64 A):=⟨_,rfl⟩;rw[<- hX3]at XL;have o:∀(u:World) (c b j:Nat) (v:Value),b≠c->(u.setCell ⟨c,0,none⟩ v).cell? ⟨b,j,none⟩=u.cell? ⟨b,j,none⟩:=fun u c b j v h=>World.cell?_setCell_other u _ _ v (by intro e;cases e;exact h rfl);have r1:∀b j,b≠z->X1.cell? ⟨b,j,none⟩=Wb.cell? ⟨b,j,none⟩:=fun b j h=>by rw[hX1,o _ _ _ _ _ h,e0]
 have r2:∀b j,b≠z->b≠z+1->X2.cell? ⟨b,j,none⟩=Wb.cell? ⟨b,j,none⟩:=fun b j h h'=>by rw[hX2,o _ _ _ _ _ h',r1 _ _ h]
 have r3:∀b j,b≠z->b≠z+1->b≠z+1+1->X3.cell? ⟨b,j,none⟩=Wb.cell? ⟨b,j,none⟩:=fun b j h h' h''=>by rw[hX3,o _ _ _ _ _ h'',r2 _ _ h h']
 have r4:∀b j,b≠z->b≠z+1->b≠z+1+1->b≠z+1+1+1->X4.cell? ⟨b,j,none⟩=Wb.cell? ⟨b,j,none⟩:=fun b j h h' h'' h3=>by rw[XL,o _ _ _ _ _ h3,r3 _ _ h h' h'']
 have g1:∀a,X1.frozen? a=Wb.frozen? a:=fun a=>by rw[hX1,World.frozen?_setCell,e0']
 have g2:∀a,X2.frozen? a=Wb.frozen? a:=fun a=>by rw[hX2,World.frozen?_setCell,g1]
 have g3:∀a,X3.frozen? a=Wb.frozen? a:=fun a=>by rw[hX3,World.frozen?_setCell,g2]
 have K3:Hid (∀L,(nY X0 X1 X2 X3 X4 L).cell? ⟨p,3,none⟩=some (.int .i64 A)):=nY.all (P:=fun X=>X.cell? ⟨p,3,none⟩=some (.int .i64 A)) ((e0 _).trans k3) ((r1 _ _ (by omega)).trans k3) ((r2 _ _ (by omega) (by omega)).trans k3) ((r3 _ _ (by omega) (by omega) (by omega)).trans k3) ((r4 _ _ (by omega) (by omega) (by omega) (by omega)).trans k3);have K4:Hid (∀L,(nY X0 X1 X2 X3 X4 L).cell? ⟨p,4,none⟩=some (.int .i64 B)):=nY.all (P:=fun X=>X.cell? ⟨p,4,none⟩=some (.int .i64 B)) ((e0 _).trans k4) ((r1 _ _ (by omega)).trans k4) ((r2 _ _ (by omega) (by omega)).trans k4) ((r3 _ _ (by omega) (by omega) (by omega)).trans k4) ((r4 _ _ (by omega) (by omega) (by omega) (by omega)).trans k4);have C0:Hid (X0.cell? ⟨z,0,none⟩=some (.slice none 0 0)):=(e0 _).trans t0;have C1:Hid (X1.cell? ⟨z+1,0,none⟩=some (.int .i64 0)):=(r1 _ _ (by omega)).trans t1;have C2:Hid (X2.cell? ⟨z+1+1,0,none⟩=some (.int .i64 0)):=(r2 _ _ (by omega) (by omega)).trans t2;have C3:Hid (X3.cell? ⟨z+1+1+1,0,none⟩=some (.int .i64 0)):=(r3 _ _ (by omega) (by omega) (by omega)).trans t3;have F0:Hid (X0.frozen? ⟨z,0,none⟩=false):=(e0' _).trans f0;have F1:Hid (X1.frozen? ⟨z+1,0,none⟩=false):=(g1 _).trans f1;have F2:Hid (X2.frozen? ⟨z+1+1,0,none⟩=false):=(g2 _).trans f2;have F3:Hid (X3.frozen? ⟨z+1+1+1,0,none⟩=false):=(g3 _).trans f3;have HX1:Hid _:=hX1;have HX2:Hid _:=hX2;have HX3:Hid _:=hX3;have HX4:Hid _:=XL;clear hX0 hX1 hX2 hX3 XL r1 r2 r3 r4 g1 g2 g3 o e0 e0' t0 t1 t2 t3 f0 f1 f2 f3 k3 k4;refine RP (fun L act w'=>act=nZ z p f A B u0 u1 u6 u9 u10 u11 u12 u13 u14 u15 u16 u17 u18 u19 u20 u21 u22 u23 u24 u25 u26 u27 u28 u29 u30 u31 u32 u38 u39 u40 u41 u42 L/\w'=nY X0 X1 X2 X3 X4 L) ?done (by kernel_rfl) ?step 9 _ _ _ ?init (Om _) (by kernel_rfl) (by rw[IY];exact Nat.le_refl _)
 case init=>exact⟨by simp only[nZ,aBc (nL _ _)],by unfold nY;simp only[nL];rfl⟩
 case done=>
  rintro L act w' ⟨rfl,rfl⟩ hall;have eW:nY X0 X1 X2 X3 X4 L=X4:=by unfold nY;rw[hall 8 (by decide)];rfl
  rw[eW];simp only[nZ,aN (hall 0 (by decide)),aN (hall 1 (by decide)),aN (hall 2 (by decide)),aN (hall 3 (by decide)),aN (hall 4 (by decide))];exact hQ
 case step=>
   intro L act w i o hI hlt hs nl hC hd ho K hK;obtain⟨rfl,hW⟩:=hI;have aBd:i<9:=(Array.getElem?_eq_some_iff.1 ho).1;have hD:=fun k m=>hd {on:=k,ground:=.data} m rfl;rcases (show i=0\/i=1\/i=2\/i=3\/i=4\/i=5\/i=6\/i=7\/i=8 by omega) with rfl|rfl|rfl|rfl|rfl|rfl|rfl|rfl|rfl<;>(change some _=some o at ho;cases ho)
   ·subst hW;simp only[nZ];refine nT rfl ?_
    go_simp
    exact hK _ _ ⟨by simp only[nZ,kX hlt,reduceIte,Nat.reduceEqDiff];try rfl,(nY.keep hlt (by decide) (by decide) (by decide) (by decide)).symm⟩
   ·subst hW;simp only[nZ];refine nT rfl ?_
    go_simp
    exact hK _ _ ⟨by simp only[nZ,kX hlt,reduceIte,Nat.reduceEqDiff];try rfl,(nY.keep hlt (by decide) (by decide) (by decide) (by decide)).symm⟩
   ·have q1:up L 1=true:=hD 1 (by simp);subst hW;have kj:=K3.o L;simp only[nZ,aN q1];refine nT rfl ?_
    go_simp
    exact hK _ _ ⟨by simp only[nZ,kX hlt,aN q1,reduceIte,Nat.reduceEqDiff];try rfl,(nY.keep hlt (by decide) (by decide) (by decide) (by decide)).symm⟩
   ·subst hW;simp only[nZ];refine nT rfl ?_
    go_simp
    exact hK _ _ ⟨by simp only[nZ,kX hlt,reduceIte,Nat.reduceEqDiff];try rfl,(nY.keep hlt (by decide) (by decide) (by decide) (by decide)).symm⟩
   ·have q3:up L 3=true:=hD 3 (by simp);subst hW;have kj:=K4.o L;simp only[nZ,aN q3];refine nT rfl ?_
    go_simp
    exact hK _ _ ⟨by simp only[nZ,kX hlt,aN q3,reduceIte,Nat.reduceEqDiff];try rfl,(nY.keep hlt (by decide) (by decide) (by decide) (by decide)).symm⟩
   ·subst hW;have n6:up L 6=false:=hC.no nl 6 rfl (by kernel_rfl);have n7:up L 7=false:=hC.no n6 7 rfl (by kernel_rfl);have n8:up L 8=false:=hC.no n7 8 rfl (by kernel_rfl);have eW:nY X0 X1 X2 X3 X4 L=X0:=(by unfold nY;simp[n6,n7,n8,nl]);rw[eW];have cj:=C0.o;have fj:=F0.o;simp only[nZ];refine nT rfl ?_
    go_simp
    exact hK _ _ ⟨by simp only[nZ,kX hlt,reduceIte,Nat.reduceEqDiff];try rfl,(HX1.o.symm.trans (by unfold nY;simp[aP hlt,n6,n7,n8])).symm.symm⟩
   ·have q0:up L 0=true:=hD 0 (by simp);subst hW;have n7:up L 7=false:=hC.no nl 7 rfl (by kernel_rfl);have n8:up L 8=false:=hC.no n7 8 rfl (by kernel_rfl);have qq:up L 5=true:=hd { on:=5,ground:=.chain } (by simp) rfl;have eW:nY X0 X1 X2 X3 X4 L=X1:=(by unfold nY;simp[n7,n8,nl,qq]);rw[eW];have cj:=C1.o;have fj:=F1.o;simp only[nZ,aN q0];refine nT rfl ?_
    go_simp
    exact hK _ _ ⟨by simp only[nZ,kX hlt,aN q0,reduceIte,Nat.reduceEqDiff];try rfl,(HX2.o.symm.trans (by unfold nY;simp[aP hlt,n7,n8])).symm.symm⟩
   ·have q2:up L 2=true:=hD 2 (by simp);subst hW;have n8:up L 8=false:=hC.no nl 8 rfl (by kernel_rfl);have qq:up L 6=true:=hd { on:=6,ground:=.chain } (by simp) rfl;have eW:nY X0 X1 X2 X3 X4 L=X2:=(by unfold nY;simp[n8,nl,qq]);rw[eW];have cj:=C2.o;have fj:=F2.o;simp only[nZ,aN q2];refine nT rfl ?_
    go_simp
    exact hK _ _ ⟨by simp only[nZ,kX hlt,aN q2,reduceIte,Nat.reduceEqDiff];try rfl,(HX3.o.symm.trans (by unfold nY;simp[aP hlt,n8])).symm.symm⟩
   ·have q4:up L 4=true:=hD 4 (by simp);subst hW;have qq:up L 7=true:=hd { on:=7,ground:=.chain } (by simp) rfl;have eW:nY X0 X1 X2 X3 X4 L=X3:=(by unfold nY;simp[nl,qq]);rw[eW];have cj:=C3.o;have fj:=F3.o;simp only[nZ,aN q4];refine nT rfl ?_
    go_simp
    exact hK _ _ ⟨by simp only[nZ,kX hlt,aN q4,reduceIte,Nat.reduceEqDiff];try rfl,(HX4.o.symm.trans (by unfold nY;simp[aP hlt]))⟩
attribute [local go_sem] Oper.semAt_some
theorem Oo (w:World) (o0 o1 o2 o3 o4 o5:Obj):((((((w.alloc o0).alloc o1).alloc o2).alloc o3).alloc o4).alloc o5).heap[w.heap.size+0]?=some o0/\((((((w.alloc o0).alloc o1).alloc o2).alloc o3).alloc o4).alloc o5).heap[w.heap.size+1]?=some o1/\((((((w.alloc o0).alloc o1).alloc o2).alloc o3).alloc o4).alloc o5).heap[w.heap.size+2]?=some o2/\((((((w.alloc o0).alloc o1).alloc o2).alloc o3).alloc o4).alloc o5).heap[w.heap.size+3]?=some o3/\((((((w.alloc o0).alloc o1).alloc o2).alloc o3).alloc o4).alloc o5).heap[w.heap.size+4]?=some o4/\((((((w.alloc o0).alloc o1).alloc o2).alloc o3).alloc o4).alloc o5).heap[w.heap.size+5]?=some o5:=by
 refine⟨?_,?_,?_,?_,?_,?_⟩ <;> repeat (first|exact alloc_at _ _ _ (by simp)|refine (Below.heap_alloc _ _ _ (by first|(simp;done)|(simp;omega))).trans ?_)
theorem KI (w:World) (o0 o1 o2 o3:Obj):((((w.alloc o0).alloc o1).alloc o2).alloc o3).heap[w.heap.size]?=some o0/\((((w.alloc o0).alloc o1).alloc o2).alloc o3).heap[w.heap.size+1]?=some o1/\((((w.alloc o0).alloc o1).alloc o2).alloc o3).heap[w.heap.size+1+1]?=some o2/\((((w.alloc o0).alloc o1).alloc o2).alloc o3).heap[w.heap.size+1+1+1]?=some o3:=by
 refine⟨?_,?_,?_,?_⟩ <;> repeat (first|exact alloc_at _ _ _ (by simp)|refine (Below.heap_alloc _ _ _ (by first|(simp;done)|(simp;omega))).trans ?_)
def LxI (w:World) (pre:List Pl.Yd) (W:World):Prop:=Pl.uK pre/\Bw w W/\W.heap[w.heap.size]?=some (.cells #[.slice none 0 0] 141 (0,0))/\W.heap[w.heap.size+1]?=some (.cells #[.int .i64 0] 3 (0,0))/\W.heap[w.heap.size+2]?=some (.cells #[.int .i64 0] 3 (0,0))/\W.heap[w.heap.size+3]?=some (.cells #[.int .i64 0] 3 (0,0))/\
 ∃v,W.heap[w.heap.size+5]?=some (.cells #[v] 141 (0,0))/\W.ownsRow (w.heap.size+4) 102 5 v (Pl.toks pre).length (Pl.Tk.all (Pl.toks pre))
def Wm (w:World) (xs:List Pl.Yd) (W:World):Prop:=∃pre x,xs=pre++[x]/\Pl.uK pre/\Pl.PE pre.length x≠0/\Bw w W/\W.heap[w.heap.size]?=some (.cells #[.slice none 0 0] 141 (0,0))/\W.heap[w.heap.size+1]?=some (.cells #[.int .i64 (Pl.PE pre.length x)] 3 (0,0))/\W.heap[w.heap.size+2]?=some (.cells #[.int .i64 x.2.2.2.1] 3 (0,0))/\W.heap[w.heap.size+3]?=some (.cells #[.int .i64 x.2.2.2.2.1] 3 (0,0))
theorem LxI.other {w W W':World}{pre:List Pl.Yd}(h:LxI w pre W) (hb:Below w.heap.size W W') (hk:∀(b:Nat) (cs:Array Value) (t:TypeId),W.heap[b]?=some (.cells cs t (0,0))->t=3\/t=141\/t=102->W'.heap[b]?=W.heap[b]?):LxI w pre W':=by
 obtain⟨h1,h2,q0,q1,q2,q3,v,q5,hr⟩:=h;exact⟨h1,h2.trans (hb.mono (Nat.le_refl _)),(hk _ _ _ q0 (.inr (.inl rfl))).trans q0,(hk _ _ _ q1 (.inl rfl)).trans q1,(hk _ _ _ q2 (.inl rfl)).trans q2,(hk _ _ _ q3 (.inl rfl)).trans q3,v,(hk _ _ _ q5 (.inr (.inl rfl))).trans q5,vY hr fun b cs _ hc=>hk b cs _ hc (.inr (.inr rfl))⟩
theorem Wm.other {w W W':World}{xs:List Pl.Yd}(h:Wm w xs W) (hb:Below w.heap.size W W') (hk:∀(b:Nat) (cs:Array Value) (t:TypeId),W.heap[b]?=some (.cells cs t (0,0))->t=3\/t=141\/t=102->W'.heap[b]?=W.heap[b]?):Wm w xs W':=by
 obtain⟨pre,x,e,h1,hc,h2,q0,q1,q2,q3⟩:=h;exact⟨pre,x,e,h1,hc,h2.trans (hb.mono (Nat.le_refl _)),(hk _ _ _ q0 (.inr (.inl rfl))).trans q0,(hk _ _ _ q1 (.inl rfl)).trans q1,(hk _ _ _ q2 (.inl rfl)).trans q2,(hk _ _ _ q3 (.inl rfl)).trans q3⟩
def LxJ (w:World) (g bx:Nat) (pre:List Pl.Yd) (W:World):Prop:=LxI w pre W/\W.heap[bx]?=some (.cells #[.pointer (some ⟨g,0,none⟩)] 204 (0,0))
theorem LxJ.other {w W W':World}{g bx:Nat}{pre:List Pl.Yd}(h:LxJ w g bx pre W) (hb:Below w.heap.size W W') (hx:W'.heap[bx]?=W.heap[bx]?) (hk:∀(b:Nat) (cs:Array Value) (t:TypeId),W.heap[b]?=some (.cells cs t (0,0))->t=3\/t=141\/t=102->W'.heap[b]?=W.heap[b]?):LxJ w g bx pre W':=⟨h.1.other hb hk,hx.trans h.2⟩
theorem RQ (w W0 Wb w6:World) (D g bx:Nat) (pre:List Pl.Yd) (kd:Int) (S:ByteArray) (N A B:Int) (ra r6:Option Addr) (rc cp6:Nat)
  (hi:LxJ w g bx pre W0) {s:ByteArray} (hxx:∃k,jT g s k W0) (hbk:∀b,D<=b->b<D+2->∃o',W0.heap[b]?=some o'/\o'.isCells=false)
  (hz0:D+2<=W0.heap.size) (hzW:W0.heap.size<=Wb.heap.size) (hg:w.heap.size+6<=g) (hgb:g<bx) (hbD:bx<D)
  (hBW:Bw w Wb) (Wn:Wb.heap[bx]?=some (.cells #[.pointer (some ⟨g,0,none⟩)] 204 (0,0)))
  (q0:Wb.heap[w.heap.size]?=some (.cells #[.slice none 0 0] 141 (0,0))) (q1:Wb.heap[w.heap.size+1]?=some (.cells #[.int .i64 0] 3 (0,0))) (q2:Wb.heap[w.heap.size+1+1]?=some (.cells #[.int .i64 0] 3 (0,0))) (q3:Wb.heap[w.heap.size+1+1+1]?=some (.cells #[.int .i64 0] 3 (0,0))) (q5:Wb.heap[w.heap.size+1+1+1+1+1]?=some (.cells #[.slice ra pre.length rc] 141 (0,0)))
  (hne:∀b,some b=(Value.slice ra pre.length rc).ownBlock->w.heap.size+4<=b/\∃cs,W0.heap[b]?=some (.cells cs 102 (0,0)))
  (hgrow:(Wb.alloc (.cells #[.int .i64 kd,.string S,.int .i64 N,.int .i64 A,.int .i64 B] 102)).grownBy w6 (Value.slice ra pre.length rc).ownBlock)
  (hown:w6.ownsRow (w.heap.size+4) 102 5 (.slice r6 ((Pl.toks pre).length+1) cp6) ((Pl.toks pre).length+1) (Pl.Tk.all (Pl.toks pre)++[.int .i64 kd,.string S,.int .i64 N,.int .i64 A,.int .i64 B]))
  (hgo:Pl.uK pre) (hc:Pl.PE pre.length (kd,S,N,A,B,0)=0) {W':World}
  (hW':W'=w6.setCell ⟨w.heap.size+1+1+1+1+1,0,none⟩ (.slice r6 ((Pl.toks pre).length+1) cp6)) :
  KbX D w.heap.size g bx W0 Wb W'/\LxJ w g bx (pre++[(kd,S,N,A,B,0)]) W':=by
 have hz5:w.heap.size+5<Wb.heap.size:=(Array.getElem?_eq_some_iff.1 q5).1;have k6:∀b,b<Wb.heap.size->some b≠(Value.slice ra pre.length rc).ownBlock->w6.heap[b]?=Wb.heap[b]?:=fun b h1 h2=>(hgrow.block b (by simp;omega) h2).trans (Below.heap_alloc Wb _ b h1);have nt:∀(b:Nat) (cs:Array Value) (t:TypeId),W0.heap[b]?=some (.cells cs t (0,0))->t≠102->some b≠(Value.slice ra pre.length rc).ownBlock:=by
  intro b cs t h1 h2 e;obtain⟨_,cs',h3⟩:=hne b e;rw[h1]at h3;cases h3;exact h2 rfl
 obtain⟨⟨_,_,p0,p1,p2,p3,v,p5,_⟩,pbx⟩:=hi;have s5:w6.heap[w.heap.size+5]?=some (.cells #[.slice ra pre.length rc] 141 (0,0)):=(k6 _ (by omega) (nt _ _ _ p5 (by decide))).trans q5;have kW:∀b,b≠w.heap.size+5->W'.heap[b]?=w6.heap[b]?:=fun b h=>by rw[hW'];exact Below.heap_setCell w6 ⟨w.heap.size+5,0,none⟩ _ b h
 have kk:∀b,b<Wb.heap.size->b≠w.heap.size+5->some b≠(Value.slice ra pre.length rc).ownBlock->W'.heap[b]?=Wb.heap[b]?:=fun b h1 h2 h3=>(kW b h2).trans (k6 b h1 h3);have hB6:Below w.heap.size Wb w6:=((Below.refl w.heap.size Wb).alloc (by omega) _).grown hgrow (by simp;omega) (fun k hk=>by have:=(hne k hk.symm).1;omega);have aEx:Below w.heap.size Wb W':=by rw[hW'];exact hB6.setCell (p:=⟨w.heap.size+5,0,none⟩) (by show w.heap.size<=w.heap.size+5;omega) _
 obtain⟨k,hk⟩:=hxx;have gx:some g≠(Value.slice ra pre.length rc).ownBlock:=nt g _ _ hk (by decide);have hbx0:some bx≠(Value.slice ra pre.length rc).ownBlock:=nt bx _ _ pbx (by decide);refine⟨⟨fun b h1 h2=>kk b (by omega) (by omega) ?_,aEx,kk g (by omega) (by omega) gx,kk bx (by omega) (by omega) hbx0,fun b h1 h2=>kk b h2 (by omega) ?_⟩,⟨Pl.uK.snoc hgo hc,hBW.trans aEx,?_,?_,?_,?_,.slice r6 ((Pl.toks pre).length+1) cp6,?_,?_⟩,(kk bx (by omega) (by omega) hbx0).trans Wn⟩
 ·intro e;obtain⟨_,cs,h3⟩:=hne b e;obtain⟨o',h4,h5⟩:=hbk b h1 h2;rw[h3]at h4;cases h4;cases h5
 ·intro e;obtain⟨_,cs,h3⟩:=hne b e;have:=(Array.getElem?_eq_some_iff.1 h3).1;omega
 ·exact (kk _ (by omega) (by omega) (nt _ _ _ p0 (by decide))).trans q0
 ·exact (kk _ (by omega) (by omega) (nt _ _ _ p1 (by decide))).trans q1
 ·exact (kk _ (by omega) (by omega) (nt _ _ _ p2 (by decide))).trans q2
 ·exact (kk _ (by omega) (by omega) (nt _ _ _ p3 (by decide))).trans q3
 ·rw[hW'];exact one_setCell s5
 ·have hx:=vY (w':=W') hown (fun b cs _ hcs=>kW b fun e=>by
   subst e;rw[s5]at hcs;cases hcs)
  have e1:(Pl.toks (pre++[(kd,S,N,A,B,0)])).length=(Pl.toks pre).length+1:=by simp[Pl.toks]
  have e2:Pl.Tk.all (Pl.toks (pre++[(kd,S,N,A,B,0)]))=Pl.Tk.all (Pl.toks pre)++[.int .i64 kd,.string S,.int .i64 N,.int .i64 A,.int .i64 B]:=by simp[Pl.toks,Pl.Tk.all,Pl.Yd.tk,Pl.Tk.cells]
  rw[e1,e2];exact hx
attribute [local go_sem] Oper.semAt_some
set_option maxRecDepth 100000 in
theorem XM (a:Option Addr) (len cap:Nat) (s:ByteArray) (hl:s.size=len) (hmx:len<=1048576) (w:World) (hE:nR w) (hcv:∀u:World,Bw w u->(convert 26 9 (.slice a len cap)).run Tryz.prog u=.ok (.string s) u) :
  Calls Tryz.prog 123 #[.slice a len cap] w fun e w'=>nK w.heap.size s e w'/\Bw w w':=by
 have HE:Hid (nR w):=hE;have HCV:Hid (∀u:World,Bw w u->(convert 26 9 (.slice a len cap)).run Tryz.prog u=.ok (.string s) u):=hcv;have Ur:Hid (s.size=len):=hl;clear hcv hl hE;refine (callsIn_wide (n:=4)).1 ?_;refine callsIn_of_wp_marks Tryz.func123 rfl trivial ?_ rfl;simp only[Tryz.ntmps123,List.size_toArray,List.length_cons,List.length_nil,Nat.reduceAdd,Nat.reduceSub,Array.replicate_succ,Array.replicate_zero,List.push_toArray,List.append_toArray,List.nil_append,List.cons_append];by_cases hbig:20000<len
 ·have e1:decide ((20000:Int)<len)=true:=by simp;omega
  have HB:Hid (20000<len):=hbig;clear hbig
  gi_wp2
  obtain⟨q0,q1,q2,q3⟩:=KI w (.cells #[.slice none 0 0] 141) (.cells #[.int .i64 1] 3) (.cells #[.int .i64 1] 3) (.cells #[.int .i64 1] 3);refine⟨_,wW rfl _ _ w.heap.size (w.heap.size+1) (w.heap.size+1+1) (w.heap.size+1+1+1) (.slice none 0 0) (.int .i64 1) (.int .i64 1) (.int .i64 1) rfl rfl rfl rfl (cell_of_row _ _ 0 _ 141 (0,0) q0) (cell_of_row _ _ 0 _ 3 (0,0) q1) (cell_of_row _ _ 0 _ 3 (0,0) q2) (cell_of_row _ _ 0 _ 3 (0,0) q3),⟨[],1,1,1,_,.inl ⟨by rw[Ur.o];exact HB.o,rfl⟩,rfl,World.ownsRow_nil _ _ _ _⟩,?_⟩
  repeat (first|exact Below.refl _ _|refine Below.alloc ?_ (by first|(simp;done)|(simp;omega)) _)
 ·have e1:decide ((20000:Int)<len)=false:=by simp;omega
  have HSM:Hid (len<=20000):=by show len<=20000;omega
  clear hbig;have BU:Hid (Bw w ((((((w.alloc (.cells #[.slice none 0 0] 141)).alloc (.cells #[.int .i64 0] 3)).alloc (.cells #[.int .i64 0] 3)).alloc (.cells #[.int .i64 0] 3)).alloc (.cells #[] 102)).alloc (.cells #[.slice (some ⟨w.heap.size+1+1+1+1,0,none⟩) 0 0] 141))):=by
   repeat (first|exact Below.refl _ _|refine Below.alloc ?_ (by first|(simp;done)|(simp;omega)) _)
  have hcv:=HCV.o _ BU.o;have HGU:Hid (nR ((((((w.alloc (.cells #[.slice none 0 0] 141)).alloc (.cells #[.int .i64 0] 3)).alloc (.cells #[.int .i64 0] 3)).alloc (.cells #[.int .i64 0] 3)).alloc (.cells #[] 102)).alloc (.cells #[.slice (some ⟨w.heap.size+1+1+1+1,0,none⟩) 0 0] 141))):=HE.o.on BU.o;have HH:Hid (∀u',Below ((((((w.alloc (.cells #[.slice none 0 0] 141)).alloc (.cells #[.int .i64 0] 3)).alloc (.cells #[.int .i64 0] 3)).alloc (.cells #[.int .i64 0] 3)).alloc (.cells #[] 102)).alloc (.cells #[.slice (some ⟨w.heap.size+1+1+1+1,0,none⟩) 0 0] 141)).heap.size ((((((w.alloc (.cells #[.slice none 0 0] 141)).alloc (.cells #[.int .i64 0] 3)).alloc (.cells #[.int .i64 0] 3)).alloc (.cells #[.int .i64 0] 3)).alloc (.cells #[] 102)).alloc (.cells #[.slice (some ⟨w.heap.size+1+1+1+1,0,none⟩) 0 0] 141)) u'->u'.heap[w.heap.size]?=some (.cells #[.slice none 0 0] 141 (0,0))/\u'.heap[w.heap.size+1]?=some (.cells #[.int .i64 0] 3 (0,0))/\u'.heap[w.heap.size+2]?=some (.cells #[.int .i64 0] 3 (0,0))/\u'.heap[w.heap.size+3]?=some (.cells #[.int .i64 0] 3 (0,0))/\u'.heap[w.heap.size+4]?=some (.cells #[] 102 (0,0))/\u'.heap[w.heap.size+5]?=some (.cells #[.slice (some ⟨w.heap.size+4,0,none⟩) 0 0] 141 (0,0))):=by
   intro u' hb;have key:∀k,k<6->u'.heap[w.heap.size+k]?=(((((((w.alloc (.cells #[.slice none 0 0] 141)).alloc (.cells #[.int .i64 0] 3)).alloc (.cells #[.int .i64 0] 3)).alloc (.cells #[.int .i64 0] 3)).alloc (.cells #[] 102)).alloc (.cells #[.slice (some ⟨w.heap.size+1+1+1+1,0,none⟩) 0 0] 141))).heap[w.heap.size+k]?:=fun k hk=>hb.block _ (by simp;omega);obtain⟨q0,q1,q2,q3,q4,q5⟩:=Oo w (.cells #[.slice none 0 0] 141) (.cells #[.int .i64 0] 3) (.cells #[.int .i64 0] 3) (.cells #[.int .i64 0] 3) (.cells #[] 102) (.cells #[.slice (some ⟨w.heap.size+1+1+1+1,0,none⟩) 0 0] 141);exact⟨(key 0 (by omega)).trans q0,(key 1 (by omega)).trans q1,(key 2 (by omega)).trans q2,(key 3 (by omega)).trans q3,(key 4 (by omega)).trans q4,(key 5 (by omega)).trans q5⟩
  gi_wp2_with (first|(refine⟨trivial,?_⟩;gi_at_call 136;refine (callsIn_wide.2 (RO s _)).mono ?_;rintro e u1 ⟨g,hg,rfl,hst,hb⟩)|(refine⟨trivial,?_⟩;gi_at_call 137;refine (callsIn_wide.2 (Eo g _)).mono ?_;rintro e u2 ⟨rfl,hu2⟩))
  obtain⟨V,hV⟩:∃V,V=u1.alloc (.cells #[.pointer (some ⟨g,0,none⟩)] 204):=⟨_,rfl⟩;have BV1:Bw u1 V:=by rw[hV];exact aB _ _
  have BV:Bw w V:=BU.o.trans ((hb.mono BU.o.size).trans (BV1.mono (by have:=hb.size;have:=BU.o.size;omega)));have hz:w.heap.size+6<=g:=by simp at hg;omega
  have hg1:g<u1.heap.size:=(Array.getElem?_eq_some_iff.1 hst).1;have hVz:V.heap.size=u1.heap.size+1:=by rw[hV];simp
  have HEV:nR V:=HE.o.on BV;have hV6:=HH.o V (hb.trans (BV1.mono hb.size));have hbx:V.cell? ⟨u1.heap.size,0,none⟩=some (.pointer (some ⟨g,0,none⟩)):=by rw[hV];exact cell_of_row _ u1.heap.size 0 _ 204 (0,0) (heap_alloc_new u1 _)
  have h8:4<=g:=by have:=HE.o.big;omega
  rw[<- hV];refine Wi 4 w.heap.size g u1.heap.size (by decide) HE.o.big BV.size rfl h8 (by omega) (by omega) (by omega) s (by have:=Ur.o;omega) hbx (hst.keep BV1) HEV rfl (LxJ w g u1.heap.size) (Wm w) ?hI ?Ca ?yF (fun x W a' W'=>W'=W.alloc (.cells #[.int .i64 x.1,.string x.2.1,.int .i64 x.2.2.1,.int .i64 x.2.2.2.1,.int .i64 x.2.2.2.2.1] 102)/\a' = { tmps:=#[.slice a len cap,undef,.pointer (some ⟨w.heap.size,0,none⟩),.pointer (some ⟨w.heap.size+1,0,none⟩),.pointer (some ⟨w.heap.size+1+1,0,none⟩),.pointer (some ⟨w.heap.size+1+1+1,0,none⟩),.pointer (some ⟨w.heap.size+1+1+1+1+1,0,none⟩),.pointer (some ⟨W.heap.size,0,none⟩),.int .i64 x.2.2.2.2.2,.slice a len cap,.int .i64 len,.bool false,.slice (some ⟨w.heap.size+1+1+1+1,0,none⟩) 0 0,.slice a len cap,.string s,.pointer (some ⟨g,0,none⟩),.func (.func 151) #[] #[.pointer (some ⟨u1.heap.size,0,none⟩)],.agg #[.int .i64 x.1,.string x.2.1,.int .i64 x.2.2.1,.int .i64 x.2.2.2.1,.int .i64 x.2.2.2.2.1],.int .i64 x.2.2.2.2.2,undef,undef,undef,undef,undef,undef,undef,undef,undef,undef,undef,undef,undef,undef,undef,undef,undef,undef,undef,undef,undef,undef,undef,undef],defers:=[] }) ?hassign ?hbody ?hdone ?hstop
  case hI=>
   intro A hA;have hA6:=HH.o A ((hb.trans (BV1.mono hb.size)).trans (hA.mono (by have:=BV1.size;have:=hb.size;omega)));exact⟨⟨Pl.uK.nil,BV.trans (hA.mono BV.size),hA6.1,hA6.2.1,hA6.2.2.1,hA6.2.2.2.1,_,hA6.2.2.2.2.2,rA hA6.2.2.2.2.1 (Nat.le_refl _)⟩,(hA.block _ (by omega)).trans (by rw[hV];exact heap_alloc_new u1 _)⟩
  case Ca=>
   intro pre A l o o' hi h1 h2 h3 h4;refine hi.other (nS (Below.refl _ _) (by have:=BV.size;omega) _) (World.putObj_heap_other (by omega)) fun b cs t hc _=>World.putObj_heap_other fun e=>?_;subst e;rw[h3]at hc;cases hc;cases h4
  case yF=>
   intro pre A l o o' hi h1 h2 h3 h4;refine hi.other (nS (Below.refl _ _) (by have:=BV.size;omega) _) fun b cs t hc _=>World.putObj_heap_other fun e=>?_;subst e;rw[h3]at hc;cases hc;cases h4
  case hassign=>
   intro l kd S N A B f W K hK
   gi_wp2
   exact hK _ _ (aB _ _) ⟨rfl,rfl⟩
  case hbody=>
   rintro l pre kd S N A B f W0 W a' W1 o hl1 hl2 hi hxx hbk hz0 hox hb1 ⟨rfl,rfl⟩;have hzz:=BV.size;obtain⟨ol,hol,aGj⟩:=hbk l hl1 hl2;have aCA:W.heap[l]?=some ol:=(hox.block l (by omega) (by omega)).trans hol;have hsz:=hox.size;have hiW:LxI w pre W:=hi.1.other (hox.below (by omega) (by omega)) fun b cs t hc ht=>hox.block b (Array.getElem?_eq_some_iff.1 hc).1 (by
    rintro rfl;obtain⟨k,_,hk⟩:=hxx;unfold jT at hk;rw[hk]at hc;cases hc
    revert ht
    decide)
   have hiA:LxI w pre (W.alloc (.cells #[.int .i64 kd,.string S,.int .i64 N,.int .i64 A,.int .i64 B] 102)):=hiW.other ((aB W _).mono (by omega)) fun b cs t hc _=>Below.heap_alloc W _ b (Array.getElem?_eq_some_iff.1 hc).1;have hiB:LxI w pre ((W.alloc (.cells #[.int .i64 kd,.string S,.int .i64 N,.int .i64 A,.int .i64 B] 102)).putObj l o):=hiA.other (nS (Below.refl _ _) (by omega) _) fun b cs t hc _=>World.putObj_heap_other fun e=>by
    subst e;rw[Below.heap_alloc W _ b (Array.getElem?_eq_some_iff.1 aCA).1,aCA]at hc;cases hc;cases aGj
   have hrow:((W.alloc (.cells #[.int .i64 kd,.string S,.int .i64 N,.int .i64 A,.int .i64 B] 102)).putObj l o).heap[W.heap.size]?=some (.cells #[.int .i64 kd,.string S,.int .i64 N,.int .i64 A,.int .i64 B] 102 (0,0)):=(World.putObj_heap_other (by omega)).trans (heap_alloc_new W _);have aGk:W.heap.size<((W.alloc (.cells #[.int .i64 kd,.string S,.int .i64 N,.int .i64 A,.int .i64 B] 102)).putObj l o).heap.size:=(by simp);obtain⟨Wb,hWb⟩:∃Wb,Wb=((W.alloc (.cells #[.int .i64 kd,.string S,.int .i64 N,.int .i64 A,.int .i64 B] 102)).putObj l o):=⟨_,rfl⟩;rw[<- hWb]at hiB hrow aGk ⊢;have aCB:∀b,b<W0.heap.size->b≠g->b≠l->Wb.heap[b]?=W0.heap[b]?:=fun b h1 h2 h3=>by
    rw[hWb];exact (World.putObj_heap_other h3).trans ((Below.heap_alloc W _ b (by omega)).trans (hox.block b h1 h2))
   have Wn:Wb.heap[u1.heap.size]?=some (.cells #[.pointer (some ⟨g,0,none⟩)] 204 (0,0)):=(aCB _ (by omega) (by omega) (by omega)).trans hi.2;clear hWb hiA hiW;obtain⟨hgo,hBw,q0,q1,q2,q3,v,q5,hr⟩:=hiB;have hne:∀b,some b=v.ownBlock->w.heap.size+4<=b/\∃cs,W0.heap[b]?=some (.cells cs 102 (0,0)):=by
    obtain⟨_,_,_,_,_,_,v0,p5,hr0⟩:=hi.1;have e:=(aCB (w.heap.size+5) (by omega) (by omega) (by omega)).symm.trans q5;rw[p5]at e;cases e;intro b hb;rcases hr0.2 with ⟨x,y⟩|⟨g',c',cur,x,hlo,hg',_⟩
    ·rw[x]at hb;cases hb
    ·rw[x]at hb;cases hb;exact⟨hlo,cur,hg'⟩
   have xU:Hid (Pl.uK pre):=hgo;have hlen:pre.length<=6000:=(by obtain⟨k,hk,_⟩:=hxx;exact (hk.lx hgo).1);obtain⟨i0,hi0,hz0,hz1,hz2⟩:=info_parts Mh;have nJ:Hid (Bw w Wb):=hBw;have HR:Hid (Wb.ownsRow (w.heap.size+4) 102 5 v (Pl.toks pre).length (Pl.Tk.all (Pl.toks pre))):=hr;have hlp:(Pl.toks pre).length=pre.length:=(by simp[Pl.toks]);obtain⟨ra,rc,rfl⟩:∃ra rc,v=.slice ra pre.length rc:=by
    rcases hr.2 with ⟨x,y⟩|⟨g',c',cur,x,_⟩
    ·rw[hlp]at y;exact⟨none,0,by rw[x,y]⟩
    ·rw[hlp]at x;exact⟨_,_,x⟩
   have c0:Wb.cell? ⟨W.heap.size,0,none⟩=some (.int .i64 kd):=cell_of_row Wb W.heap.size 0 _ 102 (0,0) hrow;have c1:Wb.cell? ⟨W.heap.size,1,none⟩=some (.string S):=cell_of_row Wb W.heap.size 1 _ 102 (0,0) hrow;have c2:Wb.cell? ⟨W.heap.size,2,none⟩=some (.int .i64 N):=cell_of_row Wb W.heap.size 2 _ 102 (0,0) hrow;have c3:Wb.cell? ⟨W.heap.size,3,none⟩=some (.int .i64 A):=cell_of_row Wb W.heap.size 3 _ 102 (0,0) hrow;have c4:Wb.cell? ⟨W.heap.size,4,none⟩=some (.int .i64 B):=cell_of_row Wb W.heap.size 4 _ 102 (0,0) hrow;have t0:Wb.cell? ⟨w.heap.size,0,none⟩=some (.slice none 0 0):=cell_of_row Wb _ 0 _ 141 (0,0) q0;have t1:Wb.cell? ⟨w.heap.size+1,0,none⟩=some (.int .i64 0):=cell_of_row Wb _ 0 _ 3 (0,0) q1;have t2:Wb.cell? ⟨w.heap.size+1+1,0,none⟩=some (.int .i64 0):=cell_of_row Wb _ 0 _ 3 (0,0) q2;have t3:Wb.cell? ⟨w.heap.size+1+1+1,0,none⟩=some (.int .i64 0):=cell_of_row Wb _ 0 _ 3 (0,0) q3;have t5:Wb.cell? ⟨w.heap.size+1+1+1+1+1,0,none⟩=some (.slice ra pre.length rc):=cell_of_row Wb _ 0 _ 141 (0,0) q5;have f0:Wb.frozen? ⟨w.heap.size,0,none⟩=false:=frozen_of_row Wb _ 0 _ 141 q0;have f1:Wb.frozen? ⟨w.heap.size+1,0,none⟩=false:=frozen_of_row Wb _ 0 _ 3 q1;have f2:Wb.frozen? ⟨w.heap.size+1+1,0,none⟩=false:=frozen_of_row Wb _ 0 _ 3 q2;have f3:Wb.frozen? ⟨w.heap.size+1+1+1,0,none⟩=false:=frozen_of_row Wb _ 0 _ 3 q3;have f5:Wb.frozen? ⟨w.heap.size+1+1+1+1+1,0,none⟩=false:=frozen_of_row Wb _ 0 _ 141 q5;have HQ:Hid (Wb.heap[w.heap.size]?=some (.cells #[.slice none 0 0] 141 (0,0))/\Wb.heap[w.heap.size+1]?=some (.cells #[.int .i64 0] 3 (0,0))/\Wb.heap[w.heap.size+1+1]?=some (.cells #[.int .i64 0] 3 (0,0))/\Wb.heap[w.heap.size+1+1+1]?=some (.cells #[.int .i64 0] 3 (0,0))/\Wb.heap[w.heap.size+1+1+1+1+1]?=some (.cells #[.slice ra pre.length rc] 141 (0,0))):=⟨q0,q1,q2,q3,q5⟩;have BH:Hid _:=hrow;have VK:Hid (∀b,some b=(Value.slice ra pre.length rc).ownBlock->w.heap.size+4<=b/\∃cs,W0.heap[b]?=some (.cells cs 102 (0,0))):=hne;have HI:Hid (LxJ w g u1.heap.size pre W0):=hi;have Su:Hid (∃k,jT g s k W0):=(by obtain⟨k,_,hk⟩:=hxx;exact⟨k,hk⟩);have HBK:Hid (∀b,V.heap.size<=b->b<V.heap.size+2->∃o',W0.heap[b]?=some o'/\o'.isCells=false):=hbk;have PD:Hid (Wb.heap[u1.heap.size]?=some (.cells #[.pointer (some ⟨g,0,none⟩)] 204 (0,0))):=Wn;have HSX:Hid (∀w6:World,(Wb.alloc (.cells #[.int .i64 kd,.string S,.int .i64 N,.int .i64 A,.int .i64 B] 102)).grownBy w6 (Value.slice ra pre.length rc).ownBlock->w6.heap[w.heap.size+1+1+1+1+1]?=some (.cells #[.slice ra pre.length rc] 141 (0,0))):=fun w6 hg6=>by
    have h5:=(Array.getElem?_eq_some_iff.1 q5).1;refine (hg6.block _ (by simp;omega) fun e=>?_).trans ((Below.heap_alloc Wb _ _ h5).trans q5);obtain⟨_,cs,h3⟩:=hne _ e;obtain⟨_,_,_,_,_,_,v0,p5,_⟩:=hi.1;rw[p5]at h3;cases h3
   clear hgo hBw hr q0 q1 q2 q3 q5 hrow hi hxx hbk hne Wn aCB hox hb1 hol aCA hV6 hbx HEV hst BV BV1 hb hcv;by_cases hf:f=0
   rotate_left
   ·have e1:(f == 0)=false:=(by simpa using hf);have e2:(f != 0)=true:=(by simpa using hf);have HF:Hid (f≠0):=hf;clear hf
    gi_wp2
    refine wpIn_region_any (by kernel_rfl) ?_;change wpAnyIn _ _ _ _ NH _ 9 (Array.replicate 9 false) _ (World.drew _);obtain⟨X4,XL⟩:∃X4,X4=((((Wb.drew).setCell ⟨w.heap.size,0,none⟩ (.slice none 0 0)).setCell ⟨w.heap.size+1,0,none⟩ (.int .i64 f)).setCell ⟨w.heap.size+1+1,0,none⟩ (.int .i64 A)).setCell ⟨w.heap.size+1+1+1,0,none⟩ (.int .i64 B):=⟨_,rfl⟩;refine KH (l:=l) rfl w.heap.size W.heap.size f A B _ _ _ _ _ _ _ _ _ _ _ _ _ _ _ _ _ _ _ _ _ _ _ _ _ _ _ _ _ _ _ _ Wb X4 c3 c4 (by omega) t0 t1 t2 t3 f0 f1 f2 f3 XL ?_;obtain⟨p0,p1,p2,p3,po,pb⟩:=FB Wb.drew w.heap.size _ _ _ _ _ _ _ _ HQ.o.1 HQ.o.2.1 HQ.o.2.2.1 HQ.o.2.2.2.1 XL;have HCD:Hid (Pl.PE pre.length (kd,S,N,A,B,f)=f):=(by unfold Hid Pl.PE;exact if_neg fun q=>HF.o q.1);have HP:Hid _:=And.intro p0 (And.intro p1 (And.intro p2 p3));have Oq:Hid _:=po;have HPB:Hid _:=pb;clear p0 p1 p2 p3 po pb XL
    gi_wp2
    refine⟨fun b hb1 hb2=>Oq.o b (.inr (by omega)),pre,_,rfl,xU.o,?_,nJ.o.trans ((Below.drew (Below.refl _ _)).trans HPB.o),HP.o.1,?_,HP.o.2.2.1,HP.o.2.2.2⟩
    ·rw[HCD.o];exact HF.o
    ·rw[HCD.o];exact HP.o.2.1
   ·subst hf;by_cases Wo:kd≠0/\pre.length=6000
    ·have ek:(kd != 0)=true:=(by simpa using Wo.1);have ek':(kd == 0)=false:=(by simpa using Wo.1);have e6:((pre.length:Int) == 6000)=true:=(by rw[Wo.2];rfl);have HK6:Hid (kd≠0/\pre.length=6000):=Wo;clear Wo
     gi_wp2
     refine wpIn_region_any (by kernel_rfl) ?_;change wpAnyIn _ _ _ _ NH _ 9 (Array.replicate 9 false) _ (World.drew _);obtain⟨X4,XL⟩:∃X4,X4=((((Wb.drew).setCell ⟨w.heap.size,0,none⟩ (.slice none 0 0)).setCell ⟨w.heap.size+1,0,none⟩ (.int .i64 9)).setCell ⟨w.heap.size+1+1,0,none⟩ (.int .i64 A)).setCell ⟨w.heap.size+1+1+1,0,none⟩ (.int .i64 B):=⟨_,rfl⟩;refine KH (l:=l) rfl w.heap.size W.heap.size 9 A B _ _ _ _ _ _ _ _ _ _ _ _ _ _ _ _ _ _ _ _ _ _ _ _ _ _ _ _ _ _ _ _ Wb X4 c3 c4 (by omega) t0 t1 t2 t3 f0 f1 f2 f3 XL ?_;obtain⟨p0,p1,p2,p3,po,pb⟩:=FB Wb.drew w.heap.size _ _ _ _ _ _ _ _ HQ.o.1 HQ.o.2.1 HQ.o.2.2.1 HQ.o.2.2.2.1 XL;have HCD:Hid (Pl.PE pre.length (kd,S,N,A,B,0)=9):=(by unfold Hid Pl.PE;exact if_pos ⟨rfl,HK6.o.1,HK6.o.2⟩);have HP:Hid _:=And.intro p0 (And.intro p1 (And.intro p2 p3));have Oq:Hid _:=po;have HPB:Hid _:=pb;clear p0 p1 p2 p3 po pb XL
     gi_wp2
     refine⟨fun b hb1 hb2=>Oq.o b (.inr (by omega)),pre,_,rfl,xU.o,?_,nJ.o.trans ((Below.drew (Below.refl _ _)).trans HPB.o),HP.o.1,?_,HP.o.2.2.1,HP.o.2.2.2⟩
     ·rw[HCD.o];decide
     ·rw[HCD.o];exact HP.o.2.1
    have HX:Hid ((Wb.alloc (.cells #[.int .i64 kd,.string S,.int .i64 N,.int .i64 A,.int .i64 B] 102)).ownsRow (w.heap.size+4) 102 5 (.slice ra pre.length rc) (Pl.toks pre).length (Pl.Tk.all (Pl.toks pre))):=HR.o.alloc _;have NX:Hid _:=aBW Wb (.int .i64 kd) (.string S) (.int .i64 N) (.int .i64 A) (.int .i64 B);have HC:Hid (Pl.PE pre.length (kd,S,N,A,B,0)=0):=(by unfold Hid Pl.PE;exact if_neg fun q=>Wo ⟨q.2.1,q.2.2⟩);by_cases hk0:kd=0
    ·have ek:(kd != 0)=false:=(by simp[hk0]);clear Wo hk0
     gi_wp2_with (gi_at_builtin;refine wpListIn_append_own _ rfl (.tmp 38) (.tmp 40) 141 rfl (w.heap.size+4) 102 i0 (.agg #[.int .i64 0,.string ⟨#[]⟩,.int .i64 0,.int .i64 0,.int .i64 0]) 5 48 Tryz.underlying141 hi0 hz0 hz1 hz2 rfl (by decide) _ _ _ rfl HX.o ⟨Wb.heap.size,0,none⟩ 1 1 [.int .i64 kd,.string S,.int .i64 N,.int .i64 A,.int .i64 B] rfl rfl NX.o (by intro u hu;simp at hu;rcases hu with rfl|rfl|rfl|rfl|rfl <;> rfl) (by unfold maxLen;rw[hlp];omega) (by rw[hlp];omega) (by have:=nJ.o.size;simp;omega) ?_;intro v6 w6 hown6 qG _;obtain⟨r6,cp6,rfl⟩:=tO hown6;have s6:=HSX.o w6 qG;have c6:w6.cell? ⟨w.heap.size+1+1+1+1+1,0,none⟩=some (.slice ra pre.length rc):=cell_of_row w6 _ 0 _ 141 (0,0) s6;have f6:w6.frozen? ⟨w.heap.size+1+1+1+1+1,0,none⟩=false:=frozen_of_row w6 _ 0 _ 141 s6;have HG6:Hid ((Wb.alloc (.cells #[.int .i64 kd,.string S,.int .i64 N,.int .i64 A,.int .i64 B] 102)).grownBy w6 (Value.slice ra pre.length rc).ownBlock):=qG;have HO6:Hid _:=hown6;clear s6 qG hown6)
     exact RQ w W0 Wb w6 V.heap.size g u1.heap.size pre kd S N A B ra r6 rc cp6 HI.o Su.o HBK.o (by omega) (by omega) hz (by omega) (by omega) nJ.o PD.o HQ.o.1 HQ.o.2.1 HQ.o.2.2.1 HQ.o.2.2.2.1 HQ.o.2.2.2.2 VK.o HG6.o HO6.o xU.o HC.o (by rw[hlp])
    ·have ek:(kd != 0)=true:=(by simpa using hk0);have ek':(kd == 0)=false:=(by simpa using hk0);have e6:((pre.length:Int) == 6000)=false:=by
      have:pre.length≠6000:=fun q=>Wo ⟨hk0,q⟩;simp;omega
     clear Wo hk0
     gi_wp2_with (gi_at_builtin;refine wpListIn_append_own _ rfl (.tmp 38) (.tmp 40) 141 rfl (w.heap.size+4) 102 i0 (.agg #[.int .i64 0,.string ⟨#[]⟩,.int .i64 0,.int .i64 0,.int .i64 0]) 5 48 Tryz.underlying141 hi0 hz0 hz1 hz2 rfl (by decide) _ _ _ rfl HX.o ⟨Wb.heap.size,0,none⟩ 1 1 [.int .i64 kd,.string S,.int .i64 N,.int .i64 A,.int .i64 B] rfl rfl NX.o (by intro u hu;simp at hu;rcases hu with rfl|rfl|rfl|rfl|rfl <;> rfl) (by unfold maxLen;rw[hlp];omega) (by rw[hlp];omega) (by have:=nJ.o.size;simp;omega) ?_;intro v6 w6 hown6 qG _;obtain⟨r6,cp6,rfl⟩:=tO hown6;have s6:=HSX.o w6 qG;have c6:w6.cell? ⟨w.heap.size+1+1+1+1+1,0,none⟩=some (.slice ra pre.length rc):=cell_of_row w6 _ 0 _ 141 (0,0) s6;have f6:w6.frozen? ⟨w.heap.size+1+1+1+1+1,0,none⟩=false:=frozen_of_row w6 _ 0 _ 141 s6;have HG6:Hid ((Wb.alloc (.cells #[.int .i64 kd,.string S,.int .i64 N,.int .i64 A,.int .i64 B] 102)).grownBy w6 (Value.slice ra pre.length rc).ownBlock):=qG;have HO6:Hid _:=hown6;clear s6 qG hown6)
     exact RQ w W0 Wb w6 V.heap.size g u1.heap.size pre kd S N A B ra r6 rc cp6 HI.o Su.o HBK.o (by omega) (by omega) hz (by omega) (by omega) nJ.o PD.o HQ.o.1 HQ.o.2.1 HQ.o.2.2.1 HQ.o.2.2.2.1 HQ.o.2.2.2.2 VK.o HG6.o HO6.o xU.o HC.o (by rw[hlp])
  case hdone=>
   intro pre k x W hp hx aEy hD;have hi:=aEy.1;clear aEy;obtain⟨hgo,hBw,q0,q1,q2,q3,v,q5,hr⟩:=hi;have t0:W.cell? ⟨w.heap.size,0,none⟩=some (.slice none 0 0):=cell_of_row W _ 0 _ 141 (0,0) q0;have t1:W.cell? ⟨w.heap.size+1,0,none⟩=some (.int .i64 0):=cell_of_row W _ 0 _ 3 (0,0) q1;have t2:W.cell? ⟨w.heap.size+1+1,0,none⟩=some (.int .i64 0):=cell_of_row W _ 0 _ 3 (0,0) q2;have t3:W.cell? ⟨w.heap.size+1+1+1,0,none⟩=some (.int .i64 0):=cell_of_row W _ 0 _ 3 (0,0) q3;obtain⟨ra,rc,rfl⟩:=tO hr;have t5:W.cell? ⟨w.heap.size+1+1+1+1+1,0,none⟩=some (.slice ra (Pl.toks (pre++[x])).length rc):=cell_of_row W _ 0 _ 141 (0,0) q5;have f0:W.frozen? ⟨w.heap.size,0,none⟩=false:=frozen_of_row W _ 0 _ 141 q0;have f1:W.frozen? ⟨w.heap.size+1,0,none⟩=false:=frozen_of_row W _ 0 _ 3 q1;have f2:W.frozen? ⟨w.heap.size+1+1,0,none⟩=false:=frozen_of_row W _ 0 _ 3 q2;have f3:W.frozen? ⟨w.heap.size+1+1+1,0,none⟩=false:=frozen_of_row W _ 0 _ 3 q3;have HLX:Hid (Pl.Lx s 0 [] (Pl.toks (pre++[x]),0,0,0)):=Pl.Wj hp hx hgo;have HR:Hid (W.ownsRow (w.heap.size+4) 102 5 (.slice ra (Pl.toks (pre++[x])).length rc) (Pl.toks (pre++[x])).length (Pl.Tk.all (Pl.toks (pre++[x])))):=hr;have nJ:Hid (Bw w W):=hBw;have HD:Hid (W.heap[V.heap.size]?=some (.deferred (some []))):=hD;have HQ:Hid _:=And.intro q0 (And.intro q1 (And.intro q2 q3));have Cb:Hid (w.heap.size+4<=V.heap.size):=(by show w.heap.size+4<=V.heap.size;omega);clear hr hBw hD q0 q1 q2 q3 q5 hp hx hgo hV6 hbx HEV hst BV1 hb hcv
   gi_wp2
   obtain⟨p0,p1,p2,p3,po,pb⟩:=FB W w.heap.size _ _ _ _ _ _ _ _ HQ.o.1 HQ.o.2.1 HQ.o.2.2.1 HQ.o.2.2.2 rfl;exact KF 4 s w _ V.heap.size _ (Pl.toks (pre++[x])) 0 0 0 _ rfl rfl rfl rfl p0 p1 p2 p3 (QM (vY HR.o fun b cs hb _=>po b (.inr hb)) (by omega)) ((po _ (.inr Cb.o)).trans HD.o) Cb.o (nJ.o.trans (pb.mono (Nat.le_refl _))) (.inr ⟨by rw[Ur.o];exact HSM.o,HLX.o⟩)
  case hstop=>
   intro pre x W hx hi hD;obtain⟨pre',x',e,hgo,hc,hBw,q0,q1,q2,q3⟩:=hi;obtain⟨e1',e2'⟩:=List.append_inj' e rfl;subst e1';simp only[List.cons.injEq,and_true]at e2';subst e2';have HLX:Hid (Pl.Lx s 0 [] ([],Pl.PE pre.length x,x.2.2.2.1,x.2.2.2.2.1)):=Pl.Wl hx hgo hc;have HQ:Hid _:=And.intro q0 (And.intro q1 (And.intro q2 q3));have nJ:Hid (Bw w W):=hBw;have HD:Hid (W.heap[V.heap.size]?=some (.deferred (some []))):=hD;have Cb:Hid (w.heap.size+4<=V.heap.size):=(by show w.heap.size+4<=V.heap.size;omega);clear hBw hD q0 q1 q2 q3 hx hgo hc hV6 hbx HEV hst BV1 hb hcv e
   gi_wp2
   exact KF 4 s w _ V.heap.size _ [] _ _ _ _ rfl rfl rfl rfl HQ.o.1 HQ.o.2.1 HQ.o.2.2.1 HQ.o.2.2.2 (World.ownsRow_nil _ _ _ _) HD.o Cb.o nJ.o (.inr ⟨by rw[Ur.o];exact HSM.o,HLX.o⟩)
end W
namespace Pl
theorem Lx.len {s:ByteArray}{i:Nat}{acc:List Tk}{r:List Tk × Int × Int × Int}(h:Lx s i acc r):acc.length<=6000->r.1.length<=6001:=by
 induction h with
 | opn _=>exact fun _=>Nat.zero_le _
 | fin _ _=>intro q;simp;exact q
 | bad _ _ _=>exact fun _=>Nat.zero_le _
 | many _ _ _ _=>exact fun _=>Nat.zero_le _
 | go _ _ _ hl _ ih=>exact fun _=>ih (by simp;omega)
end Pl
namespace W
open Go.RowKit
theorem nG.len {s:ByteArray}{r:List Pl.Tk × Int × Int × Int}(h:nG s r):r.1.length<=6001:=by
 rcases h with ⟨_,rfl⟩|⟨_,h⟩
 ·exact Nat.zero_le _
 ·exact h.len (Nat.zero_le _)
def TR (lo hi:Nat) (u:World) (a:Option Addr) (n cap:Nat) (ts:List Pl.Tk):Prop:=u.ownsRow lo 102 5 (.slice a n cap) n (Pl.Tk.all ts)/\∀g,(Value.slice a n cap).ownBlock=some g->lo<=g/\g<hi
theorem RU {B:Nat}{e:TypeId}{k:Nat}{v:Value}{n:Nat}{xs:List Value}{w w':World}(h:w.ownsRow B e k v n xs) (hb:∀g,v.ownBlock=some g->w'.heap[g]?=w.heap[g]?):w'.ownsRow B e k v n xs:=by
 refine⟨h.1,?_⟩;rcases h.2 with ⟨a,b⟩|⟨g,cap,cur,h0,hlo,hg,r⟩
 ·exact .inl ⟨a,b⟩
 ·exact .inr ⟨g,cap,cur,h0,hlo,(hb g (by rw[h0];rfl)).trans hg,r⟩
theorem TR.keep {lo hi:Nat}{u u':World}{a:Option Addr}{n cap:Nat}{ts:List Pl.Tk}(h:TR lo hi u a n cap ts) (hi':hi<=u.heap.size) (d:Bw u u'):TR lo hi u' a n cap ts:=
 ⟨RU h.1 fun g hg=>d.block g (Nat.lt_of_lt_of_le (h.2 g hg).2 hi'),h.2⟩
theorem TR.grown {lo hi:Nat}{u u':World}{a:Option Addr}{n cap:Nat}{ts:List Pl.Tk}{row:Option Nat}(h:TR lo hi u a n cap ts) (hi':hi<=u.heap.size) (d:u.grownBy u' row) (hx:∀g,row=some g->hi<=g):TR lo hi u' a n cap ts:=
 ⟨RU h.1 fun g hg=>d.block g (Nat.lt_of_lt_of_le (h.2 g hg).2 hi') (fun e=>by have:=hx g e.symm;have:=h.2 g hg;omega),h.2⟩
theorem nK.got {base:Nat}{s:ByteArray}{e:Ending}{w:World}(h:nK base s e w):∃ts c l k a cap,nG s (ts,c,l,k)/\e=.returned (.tuple #[.slice a ts.length cap,.int .i64 c,.int .i64 l,.int .i64 k])/\TR base w.heap.size w a ts.length cap ts:=by
 obtain⟨ts,c,l,k,v,hx,he,ho⟩:=h;obtain⟨a,cap,rfl⟩:=tO ho;refine⟨ts,c,l,k,a,cap,hx,he,ho,fun g hg=>?_⟩;rcases ho.2 with ⟨x,y⟩|⟨g',c',cur,x,hlo,hg',_⟩
 ·rw[x]at hg;cases hg
 ·rw[x]at hg;cases hg;exact⟨hlo,(Array.getElem?_eq_some_iff.1 hg').1⟩
end W
namespace Pl
theorem uL (n:Int) (h0:0<=n) (h:n<=9223372036854775807):(num n).size<=19:=by
 have key:∀(m u:Nat),u<10 ^ (m+1)->(Lib.decDigits u).length<=m+1:=by
  intro m
  induction m with
  | zero=>intro u h;rw[aY (by simpa using h)];simp
  | succ m ih=>
   intro u h;by_cases h':u<10
   ·rw[aY h'];simp
   ·rw[sI h'];rw[Nat.pow_succ]at h;have:=ih (u / 10) (by omega);simp;omega
 rw[vV h0];have:=key 18 n.toNat (by omega);simpa [ByteArray.size] using this
end Pl
namespace W
open Go.RowKit
theorem vJ {a b:ByteArray}(h:a≠b):(a.toList == b.toList)=false:=by
 rw[ByteArray.toList_eq,ByteArray.toList_eq,Bool.eq_false_iff];intro q;exact h (Go.WideShapes.bytes_inj (by simpa using q))
theorem str_eq {a b:ByteArray}(h:a=b):(a.toList == b.toList)=true:=by rw[h];exact beq_self_eq_true _
theorem EL (x:ByteArray):strOfNums (x.data.toList.map fun b=>(b.toNat:Int))=x:=by
 apply ByteArray.ext;show (List.map _ _).toArray=_;rw[List.map_map];have:(fun n:Int=>UInt8.ofNat n.toNat) ∘ (fun b:UInt8=>(b.toNat:Int))=id:=by
  funext b;simp
 rw[this];simp
theorem XN (u:World) (x:ByteArray) (cap:Nat):∀u':World,Below (Lib.bytesWorld u 5 x).heap.size (Lib.bytesWorld u 5 x) u'->(convert 26 9 (.slice (some ⟨u.heap.size,0,none⟩) x.size cap)).run Tryz.prog u'=.ok (.string x) u':=by
 intro u' hb;have h:=run_convert_bytes_arg (P:=Tryz.prog) u' 26 5 Tryz.underlying26 Tryz.underlying5 u.heap.size 0 x.size cap (x.data.toList.map fun b=>(b.toNat:Int)) (by rw[List.length_map,Array.length_toList];rfl) (fun i hi=>by
  rw[Nat.zero_add,hb.cell (p:=⟨u.heap.size,i,none⟩) (by show u.heap.size<_;rw[Lib.bytesWorld_size];omega),Lib.bytesWorld_cell u 5 x i hi];have hl:i<x.data.toList.length:=by rw[Array.length_toList];exact hi
  simp[List.getD,List.getElem?_eq_getElem hl]) 9 Tryz.underlying9
 rw[EL]at h;exact h
theorem vZ (u:World) (x:ByteArray) (g:Nat) (hg:g=u.heap.size) (cap:Nat):∀u':World,Below (Lib.bytesWorld u 5 x).heap.size (Lib.bytesWorld u 5 x) u'->(convert 26 9 (.slice (some ⟨g,0,none⟩) x.size cap)).run Tryz.prog u'=.ok (.string x) u':=by
 subst hg;exact XN u x cap
theorem aCC {x:ByteArray}{P:Pl.Tk->Prop}{ts:List Pl.Tk}{c l k:Int}(h:nG x (ts,c,l,k)) (hn:∀t0 t1,ts=[t0,t1]->c=0->¬P t0):Pl.WV x P=⟨#[]⟩:=Pl.vF fun ⟨t0,t1,c',l',k',h',hp⟩=>by
 have e:=h.fn h';cases e;exact hn t0 t1 rfl (Pl.WU h').1 hp
theorem Wq {x:ByteArray}{P:Pl.Tk->Prop}{t0 t1:Pl.Tk}{c l k:Int}(h:nG x ([t0,t1],c,l,k)) (hp:P t0):Pl.WV x P=x:=Pl.CJ ⟨t0,t1,c,l,k,h,hp⟩
theorem wB {ts:List Pl.Tk}(h:ts.length=2):∃t0 t1,ts=[t0,t1]:=by
 match ts,h with
 | [a,b],_=>exact⟨a,b,rfl⟩
theorem aEz {a b:Pl.Tk}(h1:a.k=b.k) (h2:a.S=b.S) (h3:a.N=b.N) (h4:a.l=b.l) (h5:a.c=b.c):a=b:=by
 cases a;cases b;simp only at h1 h2 h3 h4 h5;subst h1 h2 h3 h4 h5;rfl
set_option maxRecDepth 8000 in
theorem wX (k:Int) (hk:0<=k/\k<=9223372036854775807) (w:World):Calls Tryz.prog 79 #[.int .i64 k] w fun e w'=>e=.returned (.string (Pl.num k))/\Bw w w':=by
 have hneg:¬k<0:=by omega
 go_enter Tryz.func79,Tryz.ntmps79;go_wp2_with fail
 go_loopw [0,3] (fun x v wr=>∃(n:Int) (s:ByteArray) (m:Nat),x=.int .i64 n/\v=.string s/\0<=n/\n<=9223372036854775807/\n<10 ^ m/\s.size+m<=19/\Lib.decDigits n.toNat++s.data.toList=Lib.decDigits k.toNat/\Bw w wr) (fun x _ _=>(intOf x).toNat)
 case atStart=>exact⟨k,⟨#[]⟩,19,rfl,rfl,hk.1,hk.2,by omega,by decide,by simp,Below.refl _ _⟩
 case round=>
  obtain⟨n,s,m,rfl,rfl,hn0,hn1,hnm,hsm,hdg,hbel⟩:=hrel;have HB:Hid (Bw w wr):=hbel;have HM:Hid (n<10 ^ m):=hnm;have HD:Hid (Lib.decDigits n.toNat++s.data.toList=Lib.decDigits k.toNat):=hdg;clear hbel hnm hdg;have hcv:=JY wr;by_cases hp:10<=n
  ·go_wp2;go_roundw
   case rel=>
    obtain⟨m,rfl⟩:∃m',m=m'+1:=by
     rcases m with _|m
     ·have:=HM.o;simp at this;omega
     ·exact⟨m,rfl⟩
    have hq:n / 10<10 ^ m:=by
     have:=HM.o;rw[Int.pow_succ]at this;omega
    refine⟨n / 10,_,m,by go_num,rfl,by omega,by omega,hq,by simp;omega,?_,HB.o.trans ((aB wr _).mono HB.o.size)⟩;have h1:=HD.o;rw[Pl.sI (by omega)]at h1;rw[<- h1];have e1:(n / 10).toNat=n.toNat / 10:=(by omega);have e2:(48+n % 10).toNat=48+n.toNat % 10:=(by omega);rw[e1];simp[ByteArray.data_append,e2]
   case measure=>simp[intOf];omega
  ·go_wp2;go_ret;refine⟨?_,HB.o.trans ((aB wr _).mono HB.o.size)⟩;have h1:=HD.o;rw[Pl.aY (by omega)]at h1;rw[Pl.vV hk.1,<- h1];have e2:(48+n).toNat=48+n.toNat:=(by omega);rw[e2];congr 2
def FC (t:Pl.Tk) (x:ByteArray) (w:World) (e:Ending) (w':World):Prop:=e=.returned (.string (Pl.WV x (Pl.Ps t)))/\Bw w w'
theorem fK {x:ByteArray}{P:Pl.Tk->Prop}{ts:List Pl.Tk}{c l k:Int}(h:nG x (ts,c,l,k)) (hn:∀t0 t1,ts=[t0,t1]->c=0->¬P t0):Ending.returned (.string ⟨#[]⟩)=.returned (.string (Pl.WV x P)):=by rw[aCC h hn]
theorem wC {x:ByteArray}{P:Pl.Tk->Prop}{t0 t1:Pl.Tk}{c l k:Int}(h:nG x ([t0,t1],c,l,k)) (hp:P t0):Ending.returned (.string x)=.returned (.string (Pl.WV x P)):=by rw[Wq h hp]
def iH (w:World):Prop:=Lib.TabIs Tryz.prog w "internal/strconv.uint64pow10" .u64 Lib.pow10Tab
theorem XO {n:String}{g:Nat}{k:IntKind}{zs:List Int}{w w':World}(hg:Tryz.prog.globalNamed n=some g) (h:Lib.TabIs Tryz.prog w n k zs) (hb:Bw w w'):Lib.TabIs Tryz.prog w' n k zs:=by
 unfold Lib.TabIs World.var? at h ⊢;rw[hg]at h ⊢;simp only[Option.bind_some]at h ⊢;have hlt:g<w.heap.size:=by
  rcases Nat.lt_or_ge g w.heap.size with h'|h'
  ·exact h'
  ·rw[Array.getElem?_eq_none h']at h;cases h
 rw[hb.block g hlt];exact h
theorem iH.below {w w':World}(h:iH w) (hb:Bw w w'):iH w':=XO (g:=2) (by kernel_rfl) h hb
theorem Cc (n:Int) (h0 : -9223372036854775808<=n) (h1:n<=9223372036854775807) (w:World) (h:iH w):Calls Tryz.prog 150 #[.int .i64 n] w fun e w'=>e=.returned (.string (Pl.num n))/\Bw w w':=
 (Tryz.strconv_Itoa n h0 h1 w h).mono fun e w' ⟨he,k,os,hw⟩=>⟨he,hw ▸ Lib.below_grow _ w (Nat.le_refl _) k os⟩
theorem FD (s:ByteArray) (hs:s.size<=1048576) (w:World):Calls Tryz.prog 133 #[.string s] w fun e w'=>e=.returned (.string s)/\Bw w w':=by
 go_enter Tryz.func133,Tryz.ntmps133;go_wp2_with (go_at_call 148;refine (Tryz.stringslite_Clone s _ (by omega)).mono ?_;rintro e u1 ⟨rfl,d1⟩)
 go_ret;exact⟨rfl,d1⟩
theorem aCD (b:Nat) (hb:b<256):Pl.qt ⟨#[UInt8.ofNat b]⟩ 39=Pl.BF b:=by
 have e:(UInt8.ofNat b).toNat=b:=by simp;omega
 unfold Pl.qt Pl.qc Pl.BF;show (⟨((UInt8.ofNat 39 :: (List.take 1 [UInt8.ofNat b]).flatMap _)++[UInt8.ofNat 39]).toArray⟩:ByteArray)=_;simp[e]
theorem Cf {a:ByteArray}{l:List UInt8}(h:a=⟨l.toArray⟩):(a.toList == l)=true:=by rw[h,ByteArray.toList_eq];exact beq_self_eq_true _
theorem RV {a:ByteArray}{l:List UInt8}(h:a≠⟨l.toArray⟩):(a.toList == l)=false:=by
 rw[ByteArray.toList_eq,Bool.eq_false_iff];intro q;exact h (Go.WideShapes.bytes_inj (by simpa using q))
theorem XP (n:Int) (h0 : -9223372036854775808<=n) (h1:n<=9223372036854775807):(Pl.num n).size<=20:=by
 rcases Int.lt_or_le n 0 with q|q
 ·have key:∀(m u:Nat),u<10 ^ (m+1)->(Lib.decDigits u).length<=m+1:=by
   intro m
   induction m with
   | zero=>intro u h;rw[Pl.aY (by simpa using h)];simp
   | succ m ih=>
    intro u h;by_cases h':u<10
    ·rw[Pl.aY h'];simp
    ·rw[Pl.sI h'];rw[Nat.pow_succ]at h;have:=ih (u / 10) (by omega);simp;omega
  rw[Pl.ML q];have:=key 18 n.natAbs (by omega);simp[ByteArray.size];omega
 ·have:=Pl.uL n q h1;omega
theorem one_byte {w:World}{b:Nat}{n:Int}{o:Obj}(hb:(b:Int)=n % 256) (h2:b<256) (j:Nat) (h:j<(⟨#[UInt8.ofNat b]⟩:ByteArray).size):((w.alloc o).alloc (.cells #[.int .u8 (n % 256)] 5)).cell? ⟨w.heap.size+1,j,none⟩=some (.int .u8 (((⟨#[UInt8.ofNat b]⟩:ByteArray)[j]'h).toNat:Int)):=by
 obtain rfl:j=0:=by
  have:(⟨#[UInt8.ofNat b]⟩:ByteArray).size=1:=rfl;omega
 have e:(((⟨#[UInt8.ofNat b]⟩:ByteArray)[0]'h).toNat:Int)=n % 256:=by
  show ((UInt8.ofNat b).toNat:Int)=_;simp;omega
 rw[e];simp
set_option maxRecDepth 8000 in
theorem FE (t:Pl.Tk) (h0 : -9223372036854775808<=t.N) (h1:t.N<=9223372036854775807) (w:World) (hd:bD w) (hp:iH w):Calls Tryz.prog 134 #[.agg #[.int .i64 t.k,.string t.S,.int .i64 t.N,.int .i64 t.l,.int .i64 t.c]] w fun e w'=>e=.returned (.string (if t.S=⟨#[99]⟩ then Pl.BF (t.N % 256).toNat else if t.S=⟨#[117]⟩ then Pl.num t.N++⟨#[117]⟩ else Pl.num t.N))/\Bw w w':=by
 have HD:Hid (bD w):=hd;have HP:Hid (iH w):=hp;clear hd hp;by_cases hc:t.S=⟨#[99]⟩
 ·rw[if_pos hc];have e1:(t.S.toList == [99])=true:=Cf hc;obtain⟨b,hb⟩:∃b:Nat,(b:Int)=t.N % 256:=⟨(t.N % 256).toNat,by omega⟩;have hb2:b<256:=by omega
  have HB:Hid ((b:Int)=t.N % 256):=hb;have eb:(t.N % 256).toNat=b:=by omega
  rw[eb];clear hc hb eb;have B1:Hid (Bw w ((w.alloc (.cells #[.int .i64 t.k,.string t.S,.int .i64 t.N,.int .i64 t.l,.int .i64 t.c] 102)).alloc (.cells #[.int .u8 (t.N % 256)] 5))):=((aB w _).trans ((aB _ _).mono (by simp)));go_enter Tryz.func134,Tryz.ntmps134;go_wp2_with (go_at_call 149;(refine (JS ⟨#[UInt8.ofNat b]⟩ (by show 1<=1048576;decide) 39 (.inr rfl) (w.heap.size+1) 1 ((w.alloc (.cells #[.int .i64 t.k,.string t.S,.int .i64 t.N,.int .i64 t.l,.int .i64 t.c] 102)).alloc (.cells #[.int .u8 (t.N % 256)] 5)) (HD.o.below B1.o) (by simp) (fun j h=>one_byte HB.o hb2 j h)).mono ?_);rintro e u1 ⟨rfl,d1⟩)
  go_ret;exact⟨by rw[aCD b hb2];rfl,B1.o.trans (d1.mono B1.o.size)⟩
 rw[if_neg hc];have e1:(t.S.toList == [99])=false:=RV hc;have hns:=XP t.N h0 h1;have Ot:¬(9223372036854775807<(Pl.num t.N).size+1):=by omega
 have Sv:Hid (-9223372036854775808<=t.N/\t.N<=9223372036854775807):=⟨h0,h1⟩;clear hc h0 h1;by_cases hu:t.S=⟨#[117]⟩
 ·rw[if_pos hu];have e2:(t.S.toList == [117])=true:=Cf hu;clear hu;go_enter Tryz.func134,Tryz.ntmps134;go_wp2_with (go_at_call 150;refine (Cc t.N Sv.o.1 Sv.o.2 _ (HP.o.below (aB _ _))).mono ?_;rintro e u1 ⟨rfl,d1⟩)
  go_ret;exact⟨rfl,(aB w _).trans (d1.mono (by simp))⟩
 ·rw[if_neg hu];have e2:(t.S.toList == [117])=false:=RV hu;clear hu;go_enter Tryz.func134,Tryz.ntmps134;go_wp2_with (go_at_call 150;refine (Cc t.N Sv.o.1 Sv.o.2 _ (HP.o.below (aB _ _))).mono ?_;rintro e u1 ⟨rfl,d1⟩)
  go_ret;exact⟨rfl,(aB w _).trans (d1.mono (by simp))⟩
set_option maxRecDepth 8000 in
theorem XQ (t:Pl.Tk) (h0 : -9223372036854775808<=t.N) (h1:t.N<=9223372036854775807) (hS:t.S.size<=1048576) (w:World) (hd:bD w) (hp:iH w):Calls Tryz.prog 122 #[.agg #[.int .i64 t.k,.string t.S,.int .i64 t.N,.int .i64 t.l,.int .i64 t.c]] w fun e w'=>e=.returned (.string (Pl.nH t))/\Bw w w':=by
 have HD:Hid (bD w):=hd;have HP:Hid (iH w):=hp;have Sv:Hid (-9223372036854775808<=t.N/\t.N<=9223372036854775807):=⟨h0,h1⟩;have c0:(w.alloc (.cells #[.int .i64 t.k,.string t.S,.int .i64 t.N,.int .i64 t.l,.int .i64 t.c] 102)).cell? ⟨w.heap.size,0,none⟩=some (.int .i64 t.k):=cell_of_row _ _ 0 _ 102 (0,0) (heap_alloc_new w _);clear hd hp h0 h1;unfold Pl.nH;have fin:∀(k1 k2 k5 k3 k4:Bool),(t.k == 1)=k1->(t.k == 2)=k2->(t.k == 5)=k5->(t.k == 3)=k3->(t.k == 4)=k4->True:=fun _ _ _ _ _ _ _ _ _ _=>trivial;clear fin;by_cases hw:t.k=1\/t.k=2\/t.k=5
 ·rw[if_pos hw];rcases hw with hk|hk|hk
  ·have hk':=hk;have k1:(t.k == 1)=true:=(by simp[hk]);have k2:(t.k == 2)=false:=(by simp[hk]);have k5:(t.k == 5)=false:=(by simp[hk]);clear hk hk';go_enter Tryz.func122,Tryz.ntmps122;go_wp2_with (go_at_call 133;refine (FD t.S hS _).mono ?_;rintro e u1 ⟨rfl,d1⟩)
   go_ret;exact⟨rfl,(aB w _).trans (d1.mono (by simp))⟩
  ·have hk':=hk;have k1:(t.k == 1)=false:=(by simp[hk]);have k2:(t.k == 2)=true:=(by simp[hk]);have k5:(t.k == 5)=false:=(by simp[hk]);clear hk hk';go_enter Tryz.func122,Tryz.ntmps122;go_wp2_with (go_at_call 133;refine (FD t.S hS _).mono ?_;rintro e u1 ⟨rfl,d1⟩)
   go_ret;exact⟨rfl,(aB w _).trans (d1.mono (by simp))⟩
  ·have hk':=hk;have k1:(t.k == 1)=false:=(by simp[hk]);have k2:(t.k == 2)=false:=(by simp[hk]);have k5:(t.k == 5)=true:=(by simp[hk]);clear hk hk';go_enter Tryz.func122,Tryz.ntmps122;go_wp2_with (go_at_call 133;refine (FD t.S hS _).mono ?_;rintro e u1 ⟨rfl,d1⟩)
   go_ret;exact⟨rfl,(aB w _).trans (d1.mono (by simp))⟩
 rw[if_neg hw];have k1:(t.k == 1)=false:=by simp;omega
 have k2:(t.k == 2)=false:=by simp;omega
 have k5:(t.k == 5)=false:=by simp;omega
 clear hw;by_cases h3:t.k=3
 ·rw[if_pos h3];have k3:(t.k == 3)=true:=by simp[h3]
  clear h3;have HI:Hid (∀u:World,Bw w u->Calls Tryz.prog 134 #[.agg #[.int .i64 t.k,.string t.S,.int .i64 t.N,.int .i64 t.l,.int .i64 t.c]] u fun e w'=>e=.returned (.string (if t.S=⟨#[99]⟩ then Pl.BF (t.N % 256).toNat else if t.S=⟨#[117]⟩ then Pl.num t.N++⟨#[117]⟩ else Pl.num t.N))/\Bw u w'):=fun u hu=>FE t Sv.o.1 Sv.o.2 u (HD.o.below hu) (HP.o.below hu);generalize (if t.S=⟨#[99]⟩ then Pl.BF (t.N % 256).toNat else if t.S=⟨#[117]⟩ then Pl.num t.N++⟨#[117]⟩ else Pl.num t.N)=X at *;go_enter Tryz.func122,Tryz.ntmps122;go_wp2_with (first|(go_at_call 134;refine (HI.o _ (aB _ _)).mono ?_;rintro e u1 ⟨rfl,d1⟩)|(refine wpList_load_row rfl 102 _ rfl w.heap.size ?hx 102 #[.int .i64 t.k,.string t.S,.int .i64 t.N,.int .i64 t.l,.int .i64 t.c] (0,0) _ ?hg Tryz.underlying102 ?hd ?hi ?_;(case hx=>rfl);(case hg=>exact heap_alloc_new w _);(case hd=>rfl);(case hi=>kernel_rfl)))
  go_ret;exact⟨rfl,(aB w _).trans (d1.mono (by simp))⟩
 rw[if_neg h3];have k3:(t.k == 3)=false:=by simpa using h3
 clear h3;by_cases h4:t.k=4
 ·rw[if_pos h4];have k4:(t.k == 4)=true:=by simp[h4]
  clear h4;go_enter Tryz.func122,Tryz.ntmps122;go_wp2_with (go_at_call 135;refine (GZ t.S hS _ (HD.o.below (aB _ _))).mono ?_;rintro e u1 ⟨rfl,d1⟩)
  go_ret;exact⟨rfl,(aB w _).trans (d1.mono (by simp))⟩
 ·rw[if_neg h4];have k4:(t.k == 4)=false:=by simpa using h4
  clear h4;go_enter Tryz.func122,Tryz.ntmps122;go_wp2_with fail
  go_ret;exact⟨rfl,aB w _⟩
end W
end Go.Proofs.YtjcdiegfnoaedaaGreatDoor
