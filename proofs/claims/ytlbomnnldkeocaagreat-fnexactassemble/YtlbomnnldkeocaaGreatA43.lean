import Derived.Test.YtlbomnnldkeocaaGreatA00
set_option linter.unusedVariables false
set_option maxHeartbeats 16000000
namespace Go.Proofs.YtlbomnnldkeocaaGreat.W
open Go.RowKit
theorem specPlace_any (a:Option Addr) (len cap:Nat) (at_:Int) (hl:len<=1152921504606846976) (hb : -9223372036854775808<=at_/\at_<=9223372036854775807) (w:World) :
  Calls Tryz.prog 27 #[.slice a len cap,.int .i64 at_] w fun e w'=>e=.returned (.int .i64 (Pl.place len at_))/\w'=w:=by
 by_cases h0:at_ < -9223372036854710272
 ·have HP:Hid (Pl.place len at_=-1):=by unfold Pl.place;exact if_neg (by omega)
  have e:wrap64 (at_-65536)=at_-65536+18446744073709551616:=by simp only[wrap64];omega
  by_cases h2:(at_-65536+18446744073709551616) % 4=0
  all_goals
   go_enter Tryz.func27,Tryz.ntmps27
   go_wp2
   go_ret
   exact⟨ret_int HP.out.symm,rfl⟩
 by_cases h1:at_<65536
 ·have HP:Hid (Pl.place len at_=-1):=by unfold Pl.place;exact if_neg (by omega)
  go_enter Tryz.func27,Tryz.ntmps27
  go_wp2
  go_ret
  exact⟨ret_int HP.out.symm,rfl⟩
 ·by_cases h2:at_ % 4=0
  ·by_cases h3:(at_-65536) / 4<len
   ·have HP:Hid (Pl.place len at_=(at_-65536) / 4):=by unfold Pl.place;exact if_pos (by omega)
    go_enter Tryz.func27,Tryz.ntmps27
    go_wp2
    go_ret
    exact⟨ret_int HP.out.symm,rfl⟩
   ·have HP:Hid (Pl.place len at_=-1):=by unfold Pl.place;exact if_neg (by omega)
    go_enter Tryz.func27,Tryz.ntmps27
    go_wp2
    go_ret
    exact⟨ret_int HP.out.symm,rfl⟩
  ·have HP:Hid (Pl.place len at_=-1):=by unfold Pl.place;exact if_neg (by omega)
   go_enter Tryz.func27,Tryz.ntmps27
   go_wp2
   go_ret
   exact⟨ret_int HP.out.symm,rfl⟩
end Go.Proofs.YtlbomnnldkeocaaGreat.W
namespace Go.Proofs.YtlbomnnldkeocaaGreat.Pl
theorem eq_of_getD {z1 z2:List Int} (hl:z1.length=z2.length) (h:∀ j,j<z1.length->z1.getD j 0=z2.getD j 0):z1=z2:=by
 apply List.ext_getElem hl
 intro i h1 h2
 have:=h i h1
 rwa [List.getD_eq_getElem?_getD,List.getD_eq_getElem?_getD,List.getElem?_eq_getElem h1,List.getElem?_eq_getElem h2]at this
end Go.Proofs.YtlbomnnldkeocaaGreat.Pl
namespace Go.Proofs.YtlbomnnldkeocaaGreat.W
open Go.RowKit
theorem eqIntS_any {lo1 lo2:Nat} (a1 a2:Option Addr) (l1 c1 l2 c2:Nat) (z1 z2:List Int) (w:World) (h1:Row .i64 lo1 w a1 l1 c1 z1) (h2:Row .i64 lo2 w a2 l2 c2 z2) :
  Calls Tryz.prog 49 #[.slice a1 l1 c1,.slice a2 l2 c2] w fun e w'=>e=.returned (.bool (z1 == z2))/\Below w.heap.size w w':=by
 have hs1:=h1.small
 have hs2:=h2.small
 obtain⟨hl1,_,_,_,hr1⟩:=h1
 obtain⟨hl2,_,_,_,hr2⟩:=h2
 by_cases hne:l1=l2
 ·subst hne
  have HL1:Hid (z1.length=l1):=hl1
  have HL2:Hid (z2.length=l1):=hl2
  have HR1:Hid (l1=0\/∃ b off,a1=some ⟨b,off,none⟩/\lo1<=b/\b<w.heap.size/\∀ i,i<l1->w.cell? ⟨b,off+i,none⟩=some (.int .i64 (z1.getD i 0))):=hr1
  have HR2:Hid (l1=0\/∃ b off,a2=some ⟨b,off,none⟩/\lo2<=b/\b<w.heap.size/\∀ i,i<l1->w.cell? ⟨b,off+i,none⟩=some (.int .i64 (z2.getD i 0))):=hr2
  clear hl1 hl2 hr1 hr2
  go_enter Tryz.func49,Tryz.ntmps49
  go_wp2
  go_loopw [5] (fun i wr=>∃ k:Nat,k<=l1/\i=.int .i64 k/\(∀ j,j<k->z1.getD j 0=z2.getD j 0)/\Below w.heap.size w wr) (fun i _=>l1-(intOf i).toNat)
  case atStart=>exact⟨0,Nat.zero_le _,rfl,fun j hj=>absurd hj (Nat.not_lt_zero _),Below.refl _ _⟩
  case round=>
   obtain⟨k,hk,rfl,hall,hb⟩:=hrel
   have HA:Hid (∀ j,j<k->z1.getD j 0=z2.getD j 0):=hall
   have HB:Hid (Below w.heap.size w wr):=hb
   clear hall hb
   by_cases hlt:k<l1
   ·obtain⟨b1,o1,rfl,_,hb1,hc1⟩:=HR1.out.resolve_left (by omega)
    obtain⟨b2,o2,rfl,_,hb2,hc2⟩:=HR2.out.resolve_left (by omega)
    obtain⟨x,hx⟩:∃ x,x=z1.getD k 0:=⟨_,rfl⟩
    obtain⟨y,hy⟩:∃ y,y=z2.getD k 0:=⟨_,rfl⟩
    have g1:wr.cell? ⟨b1,o1+k,none⟩=some (.int .i64 x):=by rw[hx,HB.out.cell (by exact hb1)];exact hc1 k hlt
    have g2:wr.cell? ⟨b2,o2+k,none⟩=some (.int .i64 y):=by rw[hy,HB.out.cell (by exact hb2)];exact hc2 k hlt
    have HX:Hid (x=z1.getD k 0):=hx
    have HY:Hid (y=z2.getD k 0):=hy
    clear hx hy hc1 hc2 HR1 HR2
    by_cases hxy:x=y
    ·subst hxy
     go_wp2_with fail
     go_quiet (fail)
     go_wp2
     go_roundw
     case rel=>
      refine⟨k+1,by omega,by go_num,fun j hj=>?_,?_⟩
      ·by_cases hjk:j<k
       ·exact HA.out j hjk
       ·have:j=k:=by omega
        subst this;exact HX.out.symm.trans HY.out
      ·repeat (first | exact HB.out | refine below_drewN ?_ _)
     case measure=>simp[intOf];omega
    ·go_wp2_with fail
     go_quiet (fail)
     go_wp2
     go_ret
     refine⟨ret_bool ?_,?_⟩
     ·symm
      rw[beq_eq_false_iff_ne]
      intro hc
      exact hxy (by rw[HX.out,HY.out,hc])
     ·repeat (first | exact HB.out | refine below_drewN ?_ _)
   ·have hke:k=l1:=by omega
    subst hke
    go_wp2
    go_ret
    refine⟨ret_bool ?_,HB.out⟩
    symm
    rw[beq_iff_eq]
    exact Pl.eq_of_getD (HL1.out.trans HL2.out.symm) (fun j hj=>HA.out j (by have:=HL1.out;omega))
 ·have HP:Hid ((z1 == z2)=false):=by
   show (z1 == z2)=false
   rw[beq_eq_false_iff_ne]
   intro hc
   exact hne (by rw[<- hl1,<- hl2,hc])
  clear hr1 hr2 hl1 hl2
  go_enter Tryz.func49,Tryz.ntmps49
  go_wp2
  go_ret
  exact⟨ret_bool HP.out.symm,Below.refl _ _⟩
theorem eqByteS_any {lo1 lo2:Nat} (a1 a2:Option Addr) (l1 c1 l2 c2:Nat) (z1 z2:List Int) (w:World) (h1:Row .u8 lo1 w a1 l1 c1 z1) (h2:Row .u8 lo2 w a2 l2 c2 z2) :
  Calls Tryz.prog 50 #[.slice a1 l1 c1,.slice a2 l2 c2] w fun e w'=>e=.returned (.bool (z1 == z2))/\Below w.heap.size w w':=by
 have hs1:=h1.small
 have hs2:=h2.small
 obtain⟨hl1,_,_,_,hr1⟩:=h1
 obtain⟨hl2,_,_,_,hr2⟩:=h2
 by_cases hne:l1=l2
 ·subst hne
  have HL1:Hid (z1.length=l1):=hl1
  have HL2:Hid (z2.length=l1):=hl2
  have HR1:Hid (l1=0\/∃ b off,a1=some ⟨b,off,none⟩/\lo1<=b/\b<w.heap.size/\∀ i,i<l1->w.cell? ⟨b,off+i,none⟩=some (.int .u8 (z1.getD i 0))):=hr1
  have HR2:Hid (l1=0\/∃ b off,a2=some ⟨b,off,none⟩/\lo2<=b/\b<w.heap.size/\∀ i,i<l1->w.cell? ⟨b,off+i,none⟩=some (.int .u8 (z2.getD i 0))):=hr2
  clear hl1 hl2 hr1 hr2
  go_enter Tryz.func50,Tryz.ntmps50
  go_wp2
  go_loopw [5] (fun i wr=>∃ k:Nat,k<=l1/\i=.int .i64 k/\(∀ j,j<k->z1.getD j 0=z2.getD j 0)/\Below w.heap.size w wr) (fun i _=>l1-(intOf i).toNat)
  case atStart=>exact⟨0,Nat.zero_le _,rfl,fun j hj=>absurd hj (Nat.not_lt_zero _),Below.refl _ _⟩
  case round=>
   obtain⟨k,hk,rfl,hall,hb⟩:=hrel
   have HA:Hid (∀ j,j<k->z1.getD j 0=z2.getD j 0):=hall
   have HB:Hid (Below w.heap.size w wr):=hb
   clear hall hb
   by_cases hlt:k<l1
   ·obtain⟨b1,o1,rfl,_,hb1,hc1⟩:=HR1.out.resolve_left (by omega)
    obtain⟨b2,o2,rfl,_,hb2,hc2⟩:=HR2.out.resolve_left (by omega)
    obtain⟨x,hx⟩:∃ x,x=z1.getD k 0:=⟨_,rfl⟩
    obtain⟨y,hy⟩:∃ y,y=z2.getD k 0:=⟨_,rfl⟩
    have g1:wr.cell? ⟨b1,o1+k,none⟩=some (.int .u8 x):=by rw[hx,HB.out.cell (by exact hb1)];exact hc1 k hlt
    have g2:wr.cell? ⟨b2,o2+k,none⟩=some (.int .u8 y):=by rw[hy,HB.out.cell (by exact hb2)];exact hc2 k hlt
    have HX:Hid (x=z1.getD k 0):=hx
    have HY:Hid (y=z2.getD k 0):=hy
    clear hx hy hc1 hc2 HR1 HR2
    by_cases hxy:x=y
    ·subst hxy
     go_wp2_with fail
     go_quiet (fail)
     go_wp2
     go_roundw
     case rel=>
      refine⟨k+1,by omega,by go_num,fun j hj=>?_,?_⟩
      ·by_cases hjk:j<k
       ·exact HA.out j hjk
       ·have:j=k:=by omega
        subst this;exact HX.out.symm.trans HY.out
      ·repeat (first | exact HB.out | refine below_drewN ?_ _)
     case measure=>simp[intOf];omega
    ·go_wp2_with fail
     go_quiet (fail)
     go_wp2
     go_ret
     refine⟨ret_bool ?_,?_⟩
     ·symm
      rw[beq_eq_false_iff_ne]
      intro hc
      exact hxy (by rw[HX.out,HY.out,hc])
     ·repeat (first | exact HB.out | refine below_drewN ?_ _)
   ·have hke:k=l1:=by omega
    subst hke
    go_wp2
    go_ret
    refine⟨ret_bool ?_,HB.out⟩
    symm
    rw[beq_iff_eq]
    exact Pl.eq_of_getD (HL1.out.trans HL2.out.symm) (fun j hj=>HA.out j (by have:=HL1.out;omega))
 ·have HP:Hid ((z1 == z2)=false):=by
   show (z1 == z2)=false
   rw[beq_eq_false_iff_ne]
   intro hc
   exact hne (by rw[<- hl1,<- hl2,hc])
  clear hr1 hr2 hl1 hl2
  go_enter Tryz.func50,Tryz.ntmps50
  go_wp2
  go_ret
  exact⟨ret_bool HP.out.symm,Below.refl _ _⟩
end Go.Proofs.YtlbomnnldkeocaaGreat.W
namespace Go.Proofs.YtlbomnnldkeocaaGreat.Pl
structure Mac where
 code:List Int
 pc:Int
 regs:List Int
 data:List Int
 stk:List Int
 inp:List Int
 out:List Int
 steps:Int
 fin:Int
 val:Int
structure Img where
 code:List Int
 data:List Int
 entry:Int
 size:Int
end Go.Proofs.YtlbomnnldkeocaaGreat.Pl
namespace Go.Proofs.YtlbomnnldkeocaaGreat.W
open Go.RowKit
structure SV where
 a:Option Addr
 len:Nat
 cap:Nat
structure MV where
 code:SV
 regs:SV
 data:SV
 stk:SV
 inp:SV
 out:SV
structure IV where
 code:SV
 data:SV
def MIs (lo:Nat) (w:World) (v:MV) (m:Pl.Mac):Prop:=
 Row .i64 lo w v.code.a v.code.len v.code.cap m.code/\Row .i64 lo w v.regs.a v.regs.len v.regs.cap m.regs/\Row .u8 lo w v.data.a v.data.len v.data.cap m.data/\
 Row .u8 lo w v.stk.a v.stk.len v.stk.cap m.stk/\Row .u8 lo w v.inp.a v.inp.len v.inp.cap m.inp/\Row .u8 lo w v.out.a v.out.len v.out.cap m.out
def IIs (lo:Nat) (w:World) (v:IV) (m:Pl.Img):Prop:=Row .i64 lo w v.code.a v.code.len v.code.cap m.code/\Row .u8 lo w v.data.a v.data.len v.data.cap m.data
theorem MIs.keep {lo:Nat} {w w':World} {v:MV} {m:Pl.Mac} (h:MIs lo w v m) (hb:Below w.heap.size w w'):MIs lo w' v m:=
 ⟨h.1.keep hb,h.2.1.keep hb,h.2.2.1.keep hb,h.2.2.2.1.keep hb,h.2.2.2.2.1.keep hb,h.2.2.2.2.2.keep hb⟩
theorem IIs.keep {lo:Nat} {w w':World} {v:IV} {m:Pl.Img} (h:IIs lo w v m) (hb:Below w.heap.size w w'):IIs lo w' v m:=⟨h.1.keep hb,h.2.keep hb⟩
end Go.Proofs.YtlbomnnldkeocaaGreat.W
namespace Go.Proofs.YtlbomnnldkeocaaGreat.Pl
end Go.Proofs.YtlbomnnldkeocaaGreat.Pl
namespace Go.Proofs.YtlbomnnldkeocaaGreat.W
open Go.RowKit
def MOwn (lo:Nat) (w:World) (v:MV) (m:Pl.Mac):Prop:=
 Own .i64 3 lo w v.code.a v.code.len v.code.cap m.code/\Own .i64 3 lo w v.regs.a v.regs.len v.regs.cap m.regs/\Own .u8 5 lo w v.data.a v.data.len v.data.cap m.data/\
 Own .u8 5 lo w v.stk.a v.stk.len v.stk.cap m.stk/\Own .u8 5 lo w v.inp.a v.inp.len v.inp.cap m.inp/\Own .u8 5 lo w v.out.a v.out.len v.out.cap m.out
def IOwn (lo:Nat) (w:World) (v:IV) (m:Pl.Img):Prop:=Own .i64 3 lo w v.code.a v.code.len v.code.cap m.code/\Own .u8 5 lo w v.data.a v.data.len v.data.cap m.data
theorem IOwn.is {lo:Nat} {w:World} {v:IV} {m:Pl.Img} (h:IOwn lo w v m):IIs lo w v m:=⟨h.1.row,h.2.row⟩
theorem IOwn.keep {lo:Nat} {w w':World} {v:IV} {m:Pl.Img} (h:IOwn lo w v m) (hb:Below w.heap.size w w'):IOwn lo w' v m:=⟨h.1.keep hb,h.2.keep hb⟩
theorem MOwn.is {lo:Nat} {w:World} {v:MV} {m:Pl.Mac} (h:MOwn lo w v m):MIs lo w v m:=⟨h.1.row,h.2.1.row,h.2.2.1.row,h.2.2.2.1.row,h.2.2.2.2.1.row,h.2.2.2.2.2.row⟩
theorem MOwn.keep {lo:Nat} {w w':World} {v:MV} {m:Pl.Mac} (h:MOwn lo w v m) (hb:Below w.heap.size w w'):MOwn lo w' v m:=
 ⟨h.1.keep hb,h.2.1.keep hb,h.2.2.1.keep hb,h.2.2.2.1.keep hb,h.2.2.2.2.1.keep hb,h.2.2.2.2.2.keep hb⟩
theorem calls_at {P:Program} {f:Nat} {args:Array Value} {W:World} {Q:Ending->World->Prop} (h:∀ U,U=W->Calls P f args U Q):Calls P f args W Q:=h W rfl
theorem eqImage_same {lo1 lo2:Nat} (v1 v2:IV) (m:Pl.Img) (w:World) (h1:IIs lo1 w v1 m) (h2:IIs lo2 w v2 m) :
  Calls Tryz.prog 12 #[.agg #[.slice v1.code.a v1.code.len v1.code.cap,.slice v1.data.a v1.data.len v1.data.cap,.int .i64 m.entry,.int .i64 m.size],.agg #[.slice v2.code.a v2.code.len v2.code.cap,.slice v2.data.a v2.data.len v2.data.cap,.int .i64 m.entry,.int .i64 m.size]] w fun e w'=>e=.returned (.bool true)/\Below w.heap.size w w':=by
 obtain⟨⟨ca,cl,cc⟩,⟨da,dl,dc⟩⟩:=v1
 obtain⟨⟨ca',cl',cc'⟩,⟨da',dl',dc'⟩⟩:=v2
 obtain⟨code,data,entry,size⟩:=m
 obtain⟨rc,rd⟩:=h1
 obtain⟨qc,qd⟩:=h2
 dsimp only at rc rd qc qd ⊢
 have Rc:Hid (Row .i64 lo1 w ca cl cc code):=rc
 have Qc:Hid (Row .i64 lo2 w ca' cl' cc' code):=qc
 clear rc qc
 have Rd:Hid (Row .u8 lo1 w da dl dc data):=rd
 have Qd:Hid (Row .u8 lo2 w da' dl' dc' data):=qd
 clear rd qd
 go_enter Tryz.func12,Tryz.ntmps12
 go_wp2_with fail
 refine calls_at fun u0 hu0=>?_
 have p0:u0.heap[w.heap.size]?=some (.cells #[.slice ca cl cc,.slice da dl dc,.int .i64 entry,.int .i64 size] 28):=by
  rw[hu0,Below.heap_alloc _ _ _ (by simp)]
  exact heap_alloc_new w _
 have q0:u0.heap[w.heap.size+1]?=some (.cells #[.slice ca' cl' cc',.slice da' dl' dc',.int .i64 entry,.int .i64 size] 28):=by
  rw[hu0]
  have:=heap_alloc_new (w.alloc (.cells #[.slice ca cl cc,.slice da dl dc,.int .i64 entry,.int .i64 size] 28)) (.cells #[.slice ca' cl' cc',.slice da' dl' dc',.int .i64 entry,.int .i64 size] 28)
  simpa using this
 have hb:Below w.heap.size w u0:=by
  rw[hu0]
  exact ((Below.refl _ _).alloc (Nat.le_refl _) _).alloc (by simp) _
 have hz:w.heap.size+1<u0.heap.size:=by rw[hu0];simp
 have B0:Hid (Below w.heap.size w u0):=hb
 have P0:Hid (u0.heap[w.heap.size]?=some (.cells #[.slice ca cl cc,.slice da dl dc,.int .i64 entry,.int .i64 size] 28)):=p0
 have Q0:Hid (u0.heap[w.heap.size+1]?=some (.cells #[.slice ca' cl' cc',.slice da' dl' dc',.int .i64 entry,.int .i64 size] 28)):=q0
 have Z0:Hid (w.heap.size+1<u0.heap.size):=hz
 clear p0 q0 hb hz hu0
 refine (eqIntS_any _ _ _ _ _ _ code code u0 (Row.keep Rc.out B0.out) (Row.keep Qc.out B0.out)).mono ?_
 rintro e u1 ⟨rfl,d1⟩
 rw[beq_self_eq_true]
 have P1:Hid (u1.heap[w.heap.size]?=some (.cells #[.slice ca cl cc,.slice da dl dc,.int .i64 entry,.int .i64 size] 28)):=(d1.block _ (by have:=Z0.out;omega)).trans P0.out
 have Q1:Hid (u1.heap[w.heap.size+1]?=some (.cells #[.slice ca' cl' cc',.slice da' dl' dc',.int .i64 entry,.int .i64 size] 28)):=(d1.block _ (by have:=Z0.out;omega)).trans Q0.out
 have kb:∀ j,u1.cell? ⟨w.heap.size,j,none⟩=(#[.slice ca cl cc,.slice da dl dc,.int .i64 entry,.int .i64 size]:Array Value)[j]?:=fun j=>cell_of_row u1 w.heap.size j _ 28 (0,0) P1.out
 have kc:∀ j,u1.cell? ⟨w.heap.size+1,j,none⟩=(#[.slice ca' cl' cc',.slice da' dl' dc',.int .i64 entry,.int .i64 size]:Array Value)[j]?:=fun j=>cell_of_row u1 (w.heap.size+1) j _ 28 (0,0) Q1.out
 have B1:Hid (Below w.heap.size w u1):=B0.out.trans (d1.mono (by have:=Z0.out;omega))
 have Z1:Hid (w.heap.size+1<u1.heap.size):=Nat.lt_of_lt_of_le Z0.out d1.size
 clear d1 P0 Q0 B0 Z0
 go_wp2_with fail
 clear kb kc
 refine (eqByteS_any _ _ _ _ _ _ data data u1 (Row.keep Rd.out B1.out) (Row.keep Qd.out B1.out)).mono ?_
 rintro e u2 ⟨rfl,d2⟩
 rw[beq_self_eq_true]
 have P2:Hid (u2.heap[w.heap.size]?=some (.cells #[.slice ca cl cc,.slice da dl dc,.int .i64 entry,.int .i64 size] 28)):=(d2.block _ (by have:=Z1.out;omega)).trans P1.out
 have Q2:Hid (u2.heap[w.heap.size+1]?=some (.cells #[.slice ca' cl' cc',.slice da' dl' dc',.int .i64 entry,.int .i64 size] 28)):=(d2.block _ (by have:=Z1.out;omega)).trans Q1.out
 have kb:∀ j,u2.cell? ⟨w.heap.size,j,none⟩=(#[.slice ca cl cc,.slice da dl dc,.int .i64 entry,.int .i64 size]:Array Value)[j]?:=fun j=>cell_of_row u2 w.heap.size j _ 28 (0,0) P2.out
 have kc:∀ j,u2.cell? ⟨w.heap.size+1,j,none⟩=(#[.slice ca' cl' cc',.slice da' dl' dc',.int .i64 entry,.int .i64 size]:Array Value)[j]?:=fun j=>cell_of_row u2 (w.heap.size+1) j _ 28 (0,0) Q2.out
 have B2:Hid (Below w.heap.size w u2):=B1.out.trans (d2.mono (by have:=Z1.out;omega))
 have Z2:Hid (w.heap.size+1<u2.heap.size):=Nat.lt_of_lt_of_le Z1.out d2.size
 clear d2 P1 Q1 B1 Z1
 go_wp2
 go_ret
 exact⟨rfl,B2.out⟩
end Go.Proofs.YtlbomnnldkeocaaGreat.W
