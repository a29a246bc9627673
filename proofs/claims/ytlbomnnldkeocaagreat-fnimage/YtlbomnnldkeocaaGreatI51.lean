import Derived.Test.YtlbomnnldkeocaaGreatI07
import Derived.Test.YtlbomnnldkeocaaGreatI49
import Derived.Test.YtlbomnnldkeocaaGreatI22
import Derived.Deep.RegionWith
import Derived.Deep.Cut
set_option linter.unusedVariables false
set_option linter.unusedSimpArgs false
set_option maxHeartbeats 16000000
namespace Go.Proofs.YtlbomnnldkeocaaGreat.W
open Go.RowKit
theorem Js {x:Pl.Ins} (h:x.ok=true) : -1048576<=x.im/\x.im<=1048575:=by
 unfold Pl.Ins.ok at h
 rw[Bool.and_eq_true,decide_eq_true_eq]at h
 obtain⟨_,_,_,g3⟩:=Pl.oW h.2
 obtain⟨i1,i2⟩:=Pl.yC g3
 have hf:=Pl.qW x.op.toNat (by omega) (by omega)
 have:=Pl.Dl (Pl.dC x.op.toNat) (by omega)
 omega
set_option maxRecDepth 8000 in
theorem DD (a:Option Addr) (len cap:Nat) (w:World) (h:pY w a len cap) :
  Calls Tryz.prog 3 #[.slice a len cap] w fun e w'=>e=.returned (.bool true)/\Below w.heap.size w w':=by
 have HI:Hid (pY w a len cap):=h
 clear h
 by_cases hbl:1048576<len
 ·have hb1:(1048576:Int)<(len:Int):=by omega
  go_enter Tryz.func3,Tryz.ntmps3
  go_wp2
  go_ret
  exact⟨rfl,Below.refl _ _⟩
 have hb1:¬ (1048576:Int)<(len:Int):=by omega
 clear hbl
 go_enter Tryz.func3,Tryz.ntmps3
 go_wp2_with fail
 refine (DY w a len cap HI.out).mono ?_
 rintro e y1 ⟨a',n,cap',xs,st,rfl,hrow,d1⟩
 have HR:Hid (jE 0 y1 a' n cap' xs):=hrow
 have B1:Hid (Below w.heap.size w y1):=d1
 clear hrow d1 HI hb1
 have VC:Hid (aC xs st=0->Pl.Bd (pV xs st)=true/\∀ i,i<(pV xs st).code.length->∃ x:Pl.Ins,(pV xs st).code.getD i 0=bI x/\x.ok=true/\(Pl.jmp x.op->x.im % 4=0/\0<=(i:Int)+x.im / 4/\(i:Int)+x.im / 4<=((pV xs st).code.length:Int))):=fun q=>VB w q
 have Pz:Hid (¬ aC xs st=0->(pV xs st).code=[]):=fun q=>by unfold pV;rw[if_neg q]
 have SP:=LD a' n cap' xs st y1 HR.out
 have IM:Hid (∀ u,Below y1.heap.size y1 u->Calls Tryz.prog 7 #[.slice a' n cap',.int .i64 st] u (bZ xs st u)):=fun u d=>LA a' n cap' xs st u (HR.out.keep d)
 have GO:=fun (u u':World) (e:Ending) (q:bZ xs st u e u')=>bZ.got q
 generalize aC xs st=kc at GO VC Pz
 generalize aP xs st=kp at GO
 generalize pV xs st=m at GO VC Pz
 have O3:Hid _:=SP
 have j5:Hid _:=GO
 clear GO SP HR
 go_wp2_with fail
 refine Calls.mono O3.out ?_
 intro e y2 h2
 obtain⟨vw,rfl,_,d2⟩:=j5.out y1 y2 e h2
 have B2:Hid (Below y1.heap.size y1 y2):=d2
 clear h2 d2 O3
 go_wp2_with (refine wpList_store_row rfl 28 _ _ rfl (y2.heap.size) #[.slice vw.code.a vw.code.len vw.code.cap,.slice vw.data.a vw.data.len vw.data.cap,.int .i64 m.entry,.int .i64 m.size] ?hx ?hy 28 #[.slice none 0 0,.slice none 0 0,.int .i64 0,.int .i64 0] ?hg ?hi ?ho ?h1 ?_; (case hx=>rfl); (case hy=>rfl); (case hg=>exact heap_alloc_new y2 _); (case hi=>kernel_rfl); (case ho=>kernel_rfl); (case h1=>kernel_rfl);refine Hid.out ?_)
 unfold Hid
 rw[World.setRow_alloc_new]
 refine oV fun y3 hy3=>?_
 have O5:Below y2.heap.size y2 y3:=by rw[hy3];exact aB y2 _
 have ry3:y3.heap[y2.heap.size]?=some (.cells #[.slice vw.code.a vw.code.len vw.code.cap,.slice vw.data.a vw.data.len vw.data.cap,.int .i64 m.entry,.int .i64 m.size] 28):=by rw[hy3];exact heap_alloc_new y2 _
 have zy3:y2.heap.size<y3.heap.size:=by rw[hy3];simp
 clear hy3
 have B3:Hid (Below y1.heap.size y1 y3):=B2.out.trans (O5.mono B2.out.size)
 clear O5 ry3 zy3 B2
 go_wp2_with fail
 refine (IM.out y3 B3.out).mono ?_
 intro e y4 h4
 obtain⟨vg,rfl,gg,d4⟩:=j5.out y3 y4 e h4
 have B4:Hid (Below w.heap.size w y4):=(B1.out.trans (B3.out.mono B1.out.size)).trans (d4.mono (Nat.le_trans B1.out.size B3.out.size))
 have G4:Hid (tC y3.heap.size y4.heap.size y4 vg m):=gg
 clear h4 gg d4 j5 IM B3 B1
 go_wp2_with (refine wpList_store_row rfl 28 _ _ rfl (y4.heap.size) #[.slice vg.code.a vg.code.len vg.code.cap,.slice vg.data.a vg.data.len vg.data.cap,.int .i64 m.entry,.int .i64 m.size] ?hx ?hy 28 #[.slice none 0 0,.slice none 0 0,.int .i64 0,.int .i64 0] ?hg ?hi ?ho ?h1 ?_; (case hx=>rfl); (case hy=>rfl); (case hg=>exact heap_alloc_new y4 _); (case hi=>kernel_rfl); (case ho=>kernel_rfl); (case h1=>kernel_rfl);refine Hid.out ?_)
 unfold Hid
 rw[World.setRow_alloc_new]
 refine oV fun y5 Rw=>?_
 have l8:Below y4.heap.size y4 y5:=by rw[Rw];exact aB y4 _
 have l9:y5.heap[y4.heap.size]?=some (.cells #[.slice vg.code.a vg.code.len vg.code.cap,.slice vg.data.a vg.data.len vg.data.cap,.int .i64 m.entry,.int .i64 m.size] 28):=by rw[Rw];exact heap_alloc_new y4 _
 have Rx:y4.heap.size<y5.heap.size:=by rw[Rw];simp
 clear Rw
 have B5:Hid (Below w.heap.size w y5):=B4.out.trans (l8.mono B4.out.size)
 have G5:Hid (tC y3.heap.size y4.heap.size y5 vg m):=G4.out.keep (Nat.le_refl _) l8
 obtain⟨gG,o5⟩:∃ g,g=y4.heap.size:=⟨_,rfl⟩
 rw[<- o5]at l9 Rx ⊢
 have RG:Hid (y5.heap[gG]?=some (.cells #[.slice vg.code.a vg.code.len vg.code.cap,.slice vg.data.a vg.data.len vg.data.cap,.int .i64 m.entry,.int .i64 m.size] 28)):=l9
 have ZG:Hid (gG<y5.heap.size):=Rx
 have HL:Hid (m.code.length=vg.code.len):=G5.out.code.row.1
 have Kl:Hid (y4.heap.size<y5.heap.size):=by show y4.heap.size<y5.heap.size;rw[<- o5];exact Rx
 clear l8 l9 Rx o5 G4 B4
 have kb:∀ j,y5.cell? ⟨gG,j,none⟩=(#[.slice vg.code.a vg.code.len vg.code.cap,.slice vg.data.a vg.data.len vg.data.cap,.int .i64 m.entry,.int .i64 m.size]:Array Value)[j]?:=fun j=>cell_of_row y5 gG j _ 28 (0,0) RG.out
 by_cases hk:kc=0
 ·obtain⟨Qa,hall⟩:=VC.out hk
  have Qb:Hid (Pl.Bd m=true):=Qa
  have HA:Hid (∀ i,i<m.code.length->∃ x:Pl.Ins,m.code.getD i 0=bI x/\x.ok=true/\(Pl.jmp x.op->x.im % 4=0/\0<=(i:Int)+x.im / 4/\(i:Int)+x.im / 4<=(m.code.length:Int))):=hall
  have hcl:vg.code.len<=16384:=G5.out.Pw
  subst hk
  clear Qa hall VC Pz
  go_wp2_with fail
  clear kb
  go_loopw [11] (fun i wr=>∃ i_:Nat,i=.int .i64 (i_:Int)/\i_<=vg.code.len/\Below y5.heap.size y5 wr) (fun i _=>vg.code.len-(intOf i).toNat)
  case atStart=>exact⟨0,rfl,Nat.zero_le _,Below.refl _ _⟩
  case round=>
  obtain⟨i_,rfl,hi1,bw⟩:=hrel
  have BW:Hid (Below y5.heap.size y5 wr):=bw
  clear bw
  have kw:∀ j,wr.cell? ⟨gG,j,none⟩=(#[.slice vg.code.a vg.code.len vg.code.cap,.slice vg.data.a vg.data.len vg.data.cap,.int .i64 m.entry,.int .i64 m.size]:Array Value)[j]?:=fun j=>cell_of_row wr gG j _ 28 (0,0) ((BW.out.block gG ZG.out).trans RG.out)
  by_cases hlt:i_<vg.code.len
  ·have hi:(i_:Int)<(vg.code.len:Int):=by omega
   obtain⟨y,hy,Jr,hyj⟩:=HA.out i_ (by have:=HL.out;omega)
   obtain⟨hd0,hdv,_⟩:=IL Jr
   have hdn:(Pl.dec (bI y) != 0)=true:=by simpa using hd0
   have him : -1048576<=y.im/\y.im<=1048575:=Js Jr
   obtain⟨T,hT⟩:∃ t,t=y.im.tdiv 4:=⟨_,rfl⟩
   have hTb : -262144<=T/\T<=262144:=by have e4:Int.sign 4=1:=rfl;rw[hT,Int.tdiv_eq_ediv,e4];split <;> omega
   have hT':y.im.tdiv 4=T:=hT.symm
   obtain⟨b,off,hab,hcell⟩:∃ b off,vg.code.a=some ⟨b,off,none⟩/\wr.cell? ⟨b,off+i_,none⟩=some (.int .i64 (bI y)):=by
    obtain⟨_,_,_,_,q⟩:=(G5.out.keep (Nat.le_of_lt (Nat.lt_of_le_of_lt (Nat.le_refl _) Kl.out)) BW.out).code.row
    rcases q with q | ⟨b,off,e1,_,_,hc⟩
    ·omega
    ·exact⟨b,off,e1,by rw[hc i_ hlt,hy]⟩
   rw[hab]at kw
   have K7:Hid (vg.code.a=some ⟨b,off,none⟩):=hab
   clear hy Jr hd0 hab
   by_cases qa:y.op=45
   ·have j1:(y.op == 45)=true:=by simp[qa]
    have qj:=hyj (.inl qa)
    have t1:y.im % 4=0:=qj.1
    have t2:y.im.tmod 4=0:=Int.tmod_eq_zero_of_dvd (Int.dvd_of_emod_eq_zero qj.1)
    have t3:y.im.tdiv 4=y.im / 4:=Int.tdiv_eq_ediv_of_dvd (Int.dvd_of_emod_eq_zero qj.1)
    have t4:¬ (i_:Int)+T<0:=by rw[hT,t3];omega
    have t5:¬ (vg.code.len:Int)<(i_:Int)+T:=by rw[hT,t3];have:=qj.2.2;have:=HL.out;omega
    have t6:(i_:Int)+T<=(vg.code.len:Int):=by omega
    have t7:0<=(i_:Int)+T:=by omega
    clear t3 qj
    clear hT hyj
    go_wp2_with (go_at_call 8;refine (qA _ _).mono ?_;rintro e u ⟨rfl,du⟩; rw[hdv,hdn];have DU:Hid (Below y5.heap.size y5 u):=Below.trans BW.out (du.mono BW.out.size);have kb:∀ j,u.cell? ⟨gG,j,none⟩=(#[.slice vg.code.a vg.code.len vg.code.cap,.slice vg.data.a vg.data.len vg.data.cap,.int .i64 m.entry,.int .i64 m.size]:Array Value)[j]?:=(fun j=>cell_of_row u gG j _ 28 (0,0) ((DU.out.block gG ZG.out).trans RG.out));have o6:∀ (o:Obj) (j:Nat),(u.alloc o).cell? ⟨gG,j,none⟩=(#[.slice vg.code.a vg.code.len vg.code.cap,.slice vg.data.a vg.data.len vg.data.cap,.int .i64 m.entry,.int .i64 m.size]:Array Value)[j]?:=(fun o j=>cell_of_row (u.alloc o) gG j _ 28 (0,0) (((aB u o).block gG (Nat.lt_of_lt_of_le ZG.out DU.out.size)).trans ((DU.out.block gG ZG.out).trans RG.out)));clear du kw)
    go_roundw
    case rel=>exact⟨i_+1,by go_num,by omega,DU.out.trans ((aB u _).mono DU.out.size)⟩
    case measure=>simp[intOf];omega
   ·by_cases qb:(37:Int)<=y.op
    ·by_cases qc:y.op<=42
     ·have j1:¬ y.op=45:=qa
      have j2:(37:Int)<=y.op:=qb
      have j3:y.op<=42:=qc
      have qj:=hyj (.inr ⟨qb,qc⟩)
      have t1:y.im % 4=0:=qj.1
      have t2:y.im.tmod 4=0:=Int.tmod_eq_zero_of_dvd (Int.dvd_of_emod_eq_zero qj.1)
      have t3:y.im.tdiv 4=y.im / 4:=Int.tdiv_eq_ediv_of_dvd (Int.dvd_of_emod_eq_zero qj.1)
      have t4:¬ (i_:Int)+T<0:=by rw[hT,t3];omega
      have t5:¬ (vg.code.len:Int)<(i_:Int)+T:=by rw[hT,t3];have:=qj.2.2;have:=HL.out;omega
      have t6:(i_:Int)+T<=(vg.code.len:Int):=by omega
      have t7:0<=(i_:Int)+T:=by omega
      clear t3 qj
      clear hT hyj
      go_wp2_with (go_at_call 8;refine (qA _ _).mono ?_;rintro e u ⟨rfl,du⟩; rw[hdv,hdn];have DU:Hid (Below y5.heap.size y5 u):=Below.trans BW.out (du.mono BW.out.size);have kb:∀ j,u.cell? ⟨gG,j,none⟩=(#[.slice vg.code.a vg.code.len vg.code.cap,.slice vg.data.a vg.data.len vg.data.cap,.int .i64 m.entry,.int .i64 m.size]:Array Value)[j]?:=(fun j=>cell_of_row u gG j _ 28 (0,0) ((DU.out.block gG ZG.out).trans RG.out));have o6:∀ (o:Obj) (j:Nat),(u.alloc o).cell? ⟨gG,j,none⟩=(#[.slice vg.code.a vg.code.len vg.code.cap,.slice vg.data.a vg.data.len vg.data.cap,.int .i64 m.entry,.int .i64 m.size]:Array Value)[j]?:=(fun o j=>cell_of_row (u.alloc o) gG j _ 28 (0,0) (((aB u o).block gG (Nat.lt_of_lt_of_le ZG.out DU.out.size)).trans ((DU.out.block gG ZG.out).trans RG.out)));clear du kw)
      go_roundw
      case rel=>exact⟨i_+1,by go_num,by omega,DU.out.trans ((aB u _).mono DU.out.size)⟩
      case measure=>simp[intOf];omega
     ·have j1:¬ y.op=45:=qa
      have j2:(37:Int)<=y.op:=qb
      have j3:¬ y.op<=42:=qc
      clear hT hyj
      go_wp2_with (go_at_call 8;refine (qA _ _).mono ?_;rintro e u ⟨rfl,du⟩; rw[hdv,hdn];have DU:Hid (Below y5.heap.size y5 u):=Below.trans BW.out (du.mono BW.out.size);have kb:∀ j,u.cell? ⟨gG,j,none⟩=(#[.slice vg.code.a vg.code.len vg.code.cap,.slice vg.data.a vg.data.len vg.data.cap,.int .i64 m.entry,.int .i64 m.size]:Array Value)[j]?:=(fun j=>cell_of_row u gG j _ 28 (0,0) ((DU.out.block gG ZG.out).trans RG.out));have o6:∀ (o:Obj) (j:Nat),(u.alloc o).cell? ⟨gG,j,none⟩=(#[.slice vg.code.a vg.code.len vg.code.cap,.slice vg.data.a vg.data.len vg.data.cap,.int .i64 m.entry,.int .i64 m.size]:Array Value)[j]?:=(fun o j=>cell_of_row (u.alloc o) gG j _ 28 (0,0) (((aB u o).block gG (Nat.lt_of_lt_of_le ZG.out DU.out.size)).trans ((DU.out.block gG ZG.out).trans RG.out)));clear du kw)
      go_roundw
      case rel=>exact⟨i_+1,by go_num,by omega,DU.out.trans ((aB u _).mono DU.out.size)⟩
      case measure=>simp[intOf];omega
    ·have j1:¬ y.op=45:=qa
     have j2:¬ (37:Int)<=y.op:=qb
     clear hT hyj
     go_wp2_with (go_at_call 8;refine (qA _ _).mono ?_;rintro e u ⟨rfl,du⟩; rw[hdv,hdn];have DU:Hid (Below y5.heap.size y5 u):=Below.trans BW.out (du.mono BW.out.size);have kb:∀ j,u.cell? ⟨gG,j,none⟩=(#[.slice vg.code.a vg.code.len vg.code.cap,.slice vg.data.a vg.data.len vg.data.cap,.int .i64 m.entry,.int .i64 m.size]:Array Value)[j]?:=(fun j=>cell_of_row u gG j _ 28 (0,0) ((DU.out.block gG ZG.out).trans RG.out));have o6:∀ (o:Obj) (j:Nat),(u.alloc o).cell? ⟨gG,j,none⟩=(#[.slice vg.code.a vg.code.len vg.code.cap,.slice vg.data.a vg.data.len vg.data.cap,.int .i64 m.entry,.int .i64 m.size]:Array Value)[j]?:=(fun o j=>cell_of_row (u.alloc o) gG j _ 28 (0,0) (((aB u o).block gG (Nat.lt_of_lt_of_le ZG.out DU.out.size)).trans ((DU.out.block gG ZG.out).trans RG.out)));clear du kw)
     go_roundw
     case rel=>exact⟨i_+1,by go_num,by omega,DU.out.trans ((aB u _).mono DU.out.size)⟩
     case measure=>simp[intOf];omega
  ·have hi:¬ (i_:Int)<(vg.code.len:Int):=by omega
   go_wp2_with (refine wpList_load_row rfl 28 _ rfl (gG) ?hx 28 #[.slice vg.code.a vg.code.len vg.code.cap,.slice vg.data.a vg.data.len vg.data.cap,.int .i64 m.entry,.int .i64 m.size] (0,0) _ ?hg Tryz.underlying28 ?hd ?hi ?_; (case hx=>rfl); (case hg=>exact ((BW.out.block gG ZG.out).trans RG.out)); (case hd=>rfl); (case hi=>kernel_rfl))
   refine (xB vg m wr (G5.out.keep (Nat.le_of_lt Kl.out) BW.out).is ?_).mono ?_
   ·have:=Qb.out
    unfold Pl.Bd at this
    simp only[Bool.and_eq_true,decide_eq_true_eq]at this
    have hp:=this.2.2.1
    unfold Pl.place at hp
    split at hp
    ·rename_i q;have:=HL.out;omega
    ·omega
   ·rintro e y9 ⟨rfl,d9⟩
    rw[Qb.out]
    have B9:Hid (Below w.heap.size w y9):=(B5.out.trans (BW.out.mono B5.out.size)).trans (d9.mono (Nat.le_trans B5.out.size BW.out.size))
    clear d9 kw
    go_wp2
    go_ret
    exact⟨rfl,B9.out⟩
 ·have hl0:vg.code.len=0:=by have:=HL.out;rw[Pz.out hk]at this;simpa using this.symm
  have hl1:(vg.code.len:Int)=0:=by omega
  clear VC Pz
  rw[hl0]at kb
  go_wp2
  go_ret
  exact⟨rfl,B5.out⟩
end Go.Proofs.YtlbomnnldkeocaaGreat.W
