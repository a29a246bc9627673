import Derived.Test.YtlbomnnldkeocaaGreatI05
set_option linter.unusedVariables false
set_option linter.unusedSimpArgs false
set_option maxHeartbeats 16000000
namespace Go.Proofs.YtlbomnnldkeocaaGreat.W
open Go.RowKit
theorem tJ (m q d:Nat) (hd:0<d):∃ i:Nat,((m:Int).tdiv (q:Int)).tmod (d:Int)=(i:Int)/\((m:Int) / (q:Int) % (d:Int))=(i:Int)/\(((m:Int) / (q:Int)).tmod (d:Int))=(i:Int)/\(((m:Int).tdiv (q:Int)) % (d:Int))=(i:Int)/\i<d:=by
 have e:(m:Int).tdiv (q:Int)=((m / q:Nat):Int):=by rw[Int.tdiv_eq_ediv_of_nonneg (by omega)];exact (Int.natCast_ediv _ _).symm
 have e2:(m:Int) / (q:Int)=((m / q:Nat):Int):=(Int.natCast_ediv _ _).symm
 rw[e,e2]
 obtain⟨i,q1,q2,q3⟩:=jS (m / q) d hd
 exact⟨i,q1,q2,q1,q2,q3⟩
structure uB (w:World) (c nb:Nat) (v:Value) (n:Nat) (u:World):Prop where
 s:gF w c v n u
 nm:u.heap[nb]?=some (.cells #[.string ⟨#[95,115,116,97,114,116]⟩,.string ⟨#[97]⟩,.string ⟨#[98,46,49]⟩,.string ⟨#[76,36,50]⟩,.string ⟨#[90,122,95,57]⟩,.string ⟨#[46,120]⟩] 9)
 nl:w.heap.size<=nb
theorem uB.next {w:World} {c nb:Nat} {v:Value} {n:Nat} {u u':World} (h:uB w c nb v n u) (hr:iE u' c) (ho:dX c u u'):uB w c nb v n u':=
 ⟨h.s.next hr ho,(ho.block nb (Array.getElem?_eq_some_iff.1 h.nm).1 (by have:=h.nl;have:=h.s.hc;omega)).trans h.nm,h.nl⟩
theorem uB.alloc {w:World} {c nb:Nat} {v:Value} {n:Nat} {u:World} (h:uB w c nb v n u) (o:Obj):uB w c nb v n (u.alloc o):=h.next (h.s.rd.alloc o) (dX.of_below (aB u o))
theorem uB.grown {w:World} {c nb:Nat} {v v':Value} {n m:Nat} {u u':World} (h:uB w c nb v n u) (S:gF w c v' m u') (hg:u.grownBy u' v.ownBlock):uB w c nb v' m u':=by
 refine⟨S,(hg.block nb (Array.getElem?_eq_some_iff.1 h.nm).1 (fun q=>?_)).trans h.nm,h.nl⟩
 obtain⟨cs,h1,_⟩:=h.s.own
 rcases h1.2 with ⟨rfl,_⟩ | ⟨g,cap,cur,rfl,_,hh,_⟩
 ·simp[Value.ownBlock]at q
 ·simp only[Value.ownBlock,Option.some.injEq]at q
  subst q
  rw[h.nm]at hh
  simp only[Option.some.injEq,Obj.cells.injEq]at hh
  exact absurd hh.2.1 (by decide)
theorem uB.name {w:World} {c nb:Nat} {v:Value} {n:Nat} {u:World} (h:uB w c nb v n u) {i:Nat} (hi:i<6):∃ s:ByteArray,u.cell? ⟨nb,i,none⟩=some (.string s)/\s.size<=100:=
 LY (l:=[⟨#[95,115,116,97,114,116]⟩,⟨#[97]⟩,⟨#[98,46,49]⟩,⟨#[76,36,50]⟩,⟨#[90,122,95,57]⟩,⟨#[46,120]⟩]) h.nm (by decide) hi
set_option maxRecDepth 8000 in
theorem DT (w:World) (c:Nat) (h:iE w c):Calls Tryz.prog 57 #[.pointer (some ⟨c,0,none⟩)] w fun e w'=>∃ (v:Value) (n:Nat),e=.returned v/\0<n/\n<=100/\gF w c v n w':=by
 have H0:Hid (iE w c):=h
 have hcw:c<w.heap.size:=h.lt
 have HC:Hid (c<w.heap.size):=hcw
 clear h hcw
 go_enter Tryz.func57,Tryz.ntmps57
 go_wp2_with fail
 refine (bX w c H0.out).mono ?_
 rintro e y1 ⟨k,rfl,hk,R1,O1⟩
 have D9:Hid (uB w c y1.heap.size (.slice (some ⟨y1.heap.size+1,0,none⟩) 0 0) 0 ((y1.alloc (.cells #[.string ⟨#[95,115,116,97,114,116]⟩,.string ⟨#[97]⟩,.string ⟨#[98,46,49]⟩,.string ⟨#[76,36,50]⟩,.string ⟨#[90,122,95,57]⟩,.string ⟨#[46,120]⟩] 9)).alloc (.cells #[] 51))):=by
  have q:=gF.made (R1.alloc (.cells #[.string ⟨#[95,115,116,97,114,116]⟩,.string ⟨#[97]⟩,.string ⟨#[98,46,49]⟩,.string ⟨#[76,36,50]⟩,.string ⟨#[90,122,95,57]⟩,.string ⟨#[46,120]⟩] 9)) (O1.low ((aB y1 (.cells #[.string ⟨#[95,115,116,97,114,116]⟩,.string ⟨#[97]⟩,.string ⟨#[98,46,49]⟩,.string ⟨#[76,36,50]⟩,.string ⟨#[90,122,95,57]⟩,.string ⟨#[46,120]⟩] 9)).mono O1.size)) HC.out
  rw[show (y1.alloc (.cells #[.string ⟨#[95,115,116,97,114,116]⟩,.string ⟨#[97]⟩,.string ⟨#[98,46,49]⟩,.string ⟨#[76,36,50]⟩,.string ⟨#[90,122,95,57]⟩,.string ⟨#[46,120]⟩] 9)).heap.size=y1.heap.size+1 by simp]at q
  exact⟨q,((aB (y1.alloc (.cells #[.string ⟨#[95,115,116,97,114,116]⟩,.string ⟨#[97]⟩,.string ⟨#[98,46,49]⟩,.string ⟨#[76,36,50]⟩,.string ⟨#[90,122,95,57]⟩,.string ⟨#[46,120]⟩] 9)) _).block _ (by simp)).trans (heap_alloc_new y1 _),O1.size⟩
 clear R1 O1 H0
 obtain⟨d,hd1,hd2,hd3⟩:∃ i:Nat,((k:Int).tmod 14)=(i:Int)/\((k:Int) % 14)=(i:Int)/\i<14:=jS k 14 (by decide)
 obtain⟨f,hf1,hf2,hf3,hf4,hf5⟩:∃ i:Nat,((k:Int).tdiv 16).tmod 8=(i:Int)/\((k:Int) / 16 % 8)=(i:Int)/\(((k:Int) / 16).tmod 8)=(i:Int)/\(((k:Int).tdiv 16) % 8)=(i:Int)/\i<8:=tJ k 16 8 (by decide)
 go_wp2_with fail
 obtain⟨nb,hnb⟩:∃ nb,nb=y1.heap.size:=⟨_,rfl⟩
 rw[<- hnb]at D9 ⊢
 clear hnb
 go_loopw [5,6,7] (fun vv a i wr=>∃ (n at_ i_:Nat),a=.int .i64 (at_:Int)/\i=.int .i64 (i_:Int)/\i_<=4+d/\at_<=6/\n<=2*i_/\i_<=n/\Hid (uB w c nb vv n wr)) (fun _ _ i _=>4+d-(intOf i).toNat)
 case atStart=>exact⟨0,0,0,rfl,rfl,by omega,by omega,by omega,by omega,D9.out⟩
 case round=>
  obtain⟨n,at_,i_,rfl,rfl,hi1,ha1,hn1,hn2,S⟩:=hrel
  have E5:n<=34:=by omega
  by_cases hlt:i_<4+d
  ·have hi:(i_:Int)<4+(d:Int):=by omega
   by_cases hz:(i_:Int) % 3=0/\at_<6
   ·have hz1:=hz.1
    have hz2:(at_:Int)<6:=by omega
    have hz3:(i_:Int).tmod 3=0:=by rw[Int.tmod_eq_emod_of_nonneg (by omega)];exact hz1
    obtain⟨s9,Jv,sO⟩:=S.out.name hz.2
    clear hz
    go_wp2_with (first | (go_at_call 96;refine (mD _ _ c S.out.s.rd).mono ?_;rintro e y ⟨l,hls,rfl,R,O⟩; replace S:Hid (uB w c nb _ _ y):=S.out.next R O;clear R O) | (at_builtin;refine dM ⟨1,0,0,0,0,0,s9,0⟩ wr.heap.size rfl _ _ rfl rfl rfl (heap_alloc_new wr _) (S.out.alloc _).s sO (by omega) fun v6 u6 S6 qV=>?_;replace S:Hid (uB w c nb v6 _ u6):=(S.out.alloc _).grown S6 qV;clear S6 qV) | (at_builtin;refine dM l y.heap.size rfl _ _ rfl rfl rfl (heap_alloc_new y _) (S.out.alloc _).s hls (by omega) fun v6 u6 S6 qV=>?_;replace S:Hid (uB w c nb v6 _ u6):=(S.out.alloc _).grown S6 qV;clear S6 qV))
    go_roundw
    case rel=>exact⟨n+1+1,at_+1,i_+1,by go_num,by go_num,by omega,by omega,by omega,by omega,S.out⟩
    case measure=>simp[intOf];omega
   ·have key:∃ b:Bool,b=false/\True:=⟨false,rfl,trivial⟩
    by_cases hz1:(i_:Int) % 3=0
    ·have hz2:¬ (at_:Int)<6:=fun q=>hz ⟨hz1,by omega⟩
     have hz3:(i_:Int).tmod 3=0:=by rw[Int.tmod_eq_emod_of_nonneg (by omega)];exact hz1
     clear hz key
     go_wp2_with (first | (go_at_call 96;refine (mD _ _ c S.out.s.rd).mono ?_;rintro e y ⟨l,hls,rfl,R,O⟩; replace S:Hid (uB w c nb _ _ y):=S.out.next R O;clear R O) | (at_builtin;refine dM l y.heap.size rfl _ _ rfl rfl rfl (heap_alloc_new y _) (S.out.alloc _).s hls (by omega) fun v6 u6 S6 qV=>?_;replace S:Hid (uB w c nb v6 _ u6):=(S.out.alloc _).grown S6 qV;clear S6 qV))
     go_roundw
     case rel=>exact⟨n+1,at_,i_+1,rfl,by go_num,by omega,by omega,by omega,by omega,S.out⟩
     case measure=>simp[intOf];omega
    ·have hz3:¬ (i_:Int).tmod 3=0:=by rw[Int.tmod_eq_emod_of_nonneg (by omega)];exact hz1
     clear hz key
     go_wp2_with (first | (go_at_call 96;refine (mD _ _ c S.out.s.rd).mono ?_;rintro e y ⟨l,hls,rfl,R,O⟩; replace S:Hid (uB w c nb _ _ y):=S.out.next R O;clear R O) | (at_builtin;refine dM l y.heap.size rfl _ _ rfl rfl rfl (heap_alloc_new y _) (S.out.alloc _).s hls (by omega) fun v6 u6 S6 qV=>?_;replace S:Hid (uB w c nb v6 _ u6):=(S.out.alloc _).grown S6 qV;clear S6 qV))
     go_roundw
     case rel=>exact⟨n+1,at_,i_+1,rfl,by go_num,by omega,by omega,by omega,by omega,S.out⟩
     case measure=>simp[intOf];omega
  ·have hi:¬ (i_:Int)<4+(d:Int):=by omega
   go_wp2_with (first | (at_builtin;refine dM ⟨11,0,0,0,0,0,⟨#[]⟩,0⟩ wr.heap.size rfl _ _ rfl rfl rfl (heap_alloc_new wr _) (S.out.alloc _).s (by decide) (by omega) fun v6 u6 S6 qV=>?_;replace S:Hid (uB w c nb v6 _ u6):=(S.out.alloc _).grown S6 qV;clear S6 qV))
   clear hlt hi1 hn2 hi
   have E8:n+1<=35:=by omega
   clear hn1
   obtain⟨n0,hn0⟩:∃ m,m=n+1:=⟨_,rfl⟩
   rw[<- hn0]at S E8
   go_loopw [5,6,8] (fun vv a i wr=>∃ (n at_ i_:Nat),a=.int .i64 (at_:Int)/\i=.int .i64 (i_:Int)/\i_<=f/\at_<=6/\n<=35+2*i_/\0<n/\Hid (uB w c nb vv n wr)) (fun _ _ i _=>f-(intOf i).toNat)
   case atStart=>exact⟨n0,at_,0,rfl,rfl,by omega,ha1,by omega,by omega,S.out⟩
   case round=>
    clear S ha1 hn0 E8 E5
    obtain⟨n,at_,i_,rfl,rfl,hi1,ha1,hn1,hn2,S⟩:=hrel
    have E5:n<=49:=by omega
    by_cases hlt:i_<f
    ·have hi:(i_:Int)<(f:Int):=by omega
     by_cases hz:at_<6
     ·have hz2:(at_:Int)<6:=by omega
      obtain⟨s9,Jv,sO⟩:=S.out.name hz
      go_wp2_with (first | (go_at_call 96;refine (mD _ _ c S.out.s.rd).mono ?_;rintro e y ⟨l,hls,rfl,R,O⟩; replace S:Hid (uB w c nb _ _ y):=S.out.next R O;clear R O) | (at_builtin;refine dM ⟨1,0,0,0,0,0,s9,0⟩ wr.heap.size rfl _ _ rfl rfl rfl (heap_alloc_new wr _) (S.out.alloc _).s sO (by omega) fun v6 u6 S6 qV=>?_;replace S:Hid (uB w c nb v6 _ u6):=(S.out.alloc _).grown S6 qV;clear S6 qV) | (at_builtin;refine dM l y.heap.size rfl _ _ rfl rfl rfl (heap_alloc_new y _) (S.out.alloc _).s hls (by omega) fun v6 u6 S6 qV=>?_;replace S:Hid (uB w c nb v6 _ u6):=(S.out.alloc _).grown S6 qV;clear S6 qV))
      go_roundw
      case rel=>exact⟨n+1+1,at_+1,i_+1,by go_num,by go_num,by omega,by omega,by omega,by omega,S.out⟩
      case measure=>simp[intOf];omega
     ·have hz2:¬ (at_:Int)<6:=by omega
      go_wp2_with (first | (go_at_call 96;refine (mD _ _ c S.out.s.rd).mono ?_;rintro e y ⟨l,hls,rfl,R,O⟩; replace S:Hid (uB w c nb _ _ y):=S.out.next R O;clear R O) | (at_builtin;refine dM l y.heap.size rfl _ _ rfl rfl rfl (heap_alloc_new y _) (S.out.alloc _).s hls (by omega) fun v6 u6 S6 qV=>?_;replace S:Hid (uB w c nb v6 _ u6):=(S.out.alloc _).grown S6 qV;clear S6 qV))
      go_roundw
      case rel=>exact⟨n+1,at_,i_+1,rfl,by go_num,by omega,by omega,by omega,by omega,S.out⟩
      case measure=>simp[intOf];omega
    ·have hi:¬ (i_:Int)<(f:Int):=by omega
     clear hi1 hn1 hlt
     obtain⟨e4,Tf,Tg,Ti⟩:∃ i:Nat,((k:Int).tmod 4)=(i:Int)/\((k:Int) % 4)=(i:Int)/\i<4:=jS k 4 (by decide)
     by_cases h4:e4=3
     ·subst h4
      go_wp2_with (first | (go_at_call 96;refine (mD _ _ c S.out.s.rd).mono ?_;rintro e y ⟨l,hls,rfl,R,O⟩; replace S:Hid (uB w c nb _ _ y):=S.out.next R O;clear R O) | (at_builtin;refine DR ⟨10,0,0,0,0,0,⟨#[]⟩,0⟩ l y.heap.size rfl _ _ rfl rfl rfl (heap_alloc_new y _) (S.out.alloc _).s (by decide) hls (by omega) fun v6 u6 S6 qV=>?_;replace S:Hid (uB w c nb v6 _ u6):=(S.out.alloc _).grown S6 qV;clear S6 qV))
      go_loopw [5,6] (fun vv a wr=>∃ (n at_:Nat),a=.int .i64 (at_:Int)/\at_<=6/\n<=60+at_/\0<n/\Hid (uB w c nb vv n wr)) (fun _ a _=>6-(intOf a).toNat)
      case atStart=>exact⟨_,at_,rfl,by omega,by omega,by omega,S.out⟩
      case round=>
       obtain⟨n,at_,rfl,ha1,hn1,hn2,S⟩:=hrel
       by_cases hlt:at_<6
       ·have hz2:(at_:Int)<6:=by omega
        obtain⟨s9,Jv,sO⟩:=S.out.name hlt
        go_wp2_with (first | (at_builtin;refine dM ⟨1,0,0,0,0,0,s9,0⟩ wr.heap.size rfl _ _ rfl rfl rfl (heap_alloc_new wr _) (S.out.alloc _).s sO (by omega) fun v6 u6 S6 qV=>?_;replace S:Hid (uB w c nb v6 _ u6):=(S.out.alloc _).grown S6 qV;clear S6 qV))
        go_roundw
        case rel=>exact⟨n+1,at_+1,by go_num,by omega,by omega,by omega,S.out⟩
        case measure=>simp[intOf];omega
       ·have hz2:¬ (at_:Int)<6:=by omega
        go_wp2
        go_ret
        first | exact⟨_,n,rfl,hn2,by omega,S.out.s⟩ | exact⟨_,rfl,n,hn2,by omega,S.out.s⟩
     ·have h43:¬ (e4:Int)=3:=by omega
      go_wp2_with fail
      go_loopw [5,6] (fun vv a wr=>∃ (n at_:Nat),a=.int .i64 (at_:Int)/\at_<=6/\n<=60+at_/\0<n/\Hid (uB w c nb vv n wr)) (fun _ a _=>6-(intOf a).toNat)
      case atStart=>exact⟨_,at_,rfl,by omega,by omega,by omega,S.out⟩
      case round=>
       obtain⟨n,at_,rfl,ha1,hn1,hn2,S⟩:=hrel
       by_cases hlt:at_<6
       ·have hz2:(at_:Int)<6:=by omega
        obtain⟨s9,Jv,sO⟩:=S.out.name hlt
        go_wp2_with (first | (at_builtin;refine dM ⟨1,0,0,0,0,0,s9,0⟩ wr.heap.size rfl _ _ rfl rfl rfl (heap_alloc_new wr _) (S.out.alloc _).s sO (by omega) fun v6 u6 S6 qV=>?_;replace S:Hid (uB w c nb v6 _ u6):=(S.out.alloc _).grown S6 qV;clear S6 qV))
        go_roundw
        case rel=>exact⟨n+1,at_+1,by go_num,by omega,by omega,by omega,S.out⟩
        case measure=>simp[intOf];omega
       ·have hz2:¬ (at_:Int)<6:=by omega
        go_wp2
        go_ret
        first | exact⟨_,n,rfl,hn2,by omega,S.out.s⟩ | exact⟨_,rfl,n,hn2,by omega,S.out.s⟩
end Go.Proofs.YtlbomnnldkeocaaGreat.W
