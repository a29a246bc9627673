import Derived.Test.YtjcdiegfnoaedaaGreatDoorZ24
set_option linter.unusedVariables false
set_option linter.unusedSimpArgs false
set_option maxHeartbeats 16000000
namespace Go.Proofs.YtjcdiegfnoaedaaGreatDoor
namespace W
open Go.RowKit
set_option maxRecDepth 8000 in
theorem XR (t:Pl.Tk) (h3:t.k≠3) (h4:t.k≠4) (hS:t.S.size<=1048576) (w:World):Calls Tryz.prog 52 #[.agg #[.int .i64 t.k,.string t.S,.int .i64 t.N,.int .i64 t.l,.int .i64 t.c]] w (FC t (t.S) w):=by
 have hcv:∀(u:World) (t:ByteArray),(convert 9 26 (.string t)).run Tryz.prog u=.ok (.slice (some ⟨u.heap.size,0,none⟩) t.size (grownCap u t.size 0 5)) (Lib.bytesWorld u 5 t):=fun u t=>Lib.run_convert_string_bytes u 9 26 5 t Tryz.underlying9 Tryz.underlying26 Tryz.underlying5;have q3:(t.k == 3)=false:=by simpa using h3
 have q4:(t.k == 4)=false:=by simpa using h4
 clear h3 h4;go_enter Tryz.func52,Tryz.ntmps52;go_upto_region 13 with (first|(go_at_call 82;refine (rJ (some ⟨w.heap.size+1,0,none⟩) (t.S).size _ (t.S) rfl hS (Lib.bytesWorld ((w.alloc (.cells #[.int .i64 t.k,.string t.S,.int .i64 t.N,.int .i64 t.l,.int .i64 t.c] 102))) 5 (t.S)) (vZ ((w.alloc (.cells #[.int .i64 t.k,.string t.S,.int .i64 t.N,.int .i64 t.l,.int .i64 t.c] 102))) (t.S) (w.heap.size+1) (by simp) _)).mono ?_;rintro e u2 ⟨h2,d2⟩;obtain⟨ts,c,l,k,a0,c0,hx,rfl,g2⟩:=nK.got h2;have D2:Hid _:=d2;have HX:Hid (nG (t.S) (ts,c,l,k)):=hx;have HG:Hid _:=g2;clear h2 g2 d2 hx))
 have B1:Bw w ((w.alloc (.cells #[.int .i64 t.k,.string t.S,.int .i64 t.N,.int .i64 t.l,.int .i64 t.c] 102))):=aB _ _;have B2:Bw w u2:=(B1.trans ((Joins.below_bytesWorld _ _ 5 _ (Nat.le_refl _)).mono B1.size)).trans (D2.o.mono (by rw[Lib.bytesWorld_size];have:=B1.size;omega));have R0:u2.heap[w.heap.size]?=some (.cells #[.int .i64 t.k,.string t.S,.int .i64 t.N,.int .i64 t.l,.int .i64 t.c] 102 (0,0)):=(D2.o.block _ (by rw[Lib.bytesWorld_size];simp;omega)).trans ((Lib.bytesWorld_at_old _ 5 _ _ (by simp)).trans (heap_alloc_new w _));have b0:u2.cell? ⟨w.heap.size,0,none⟩=some (.int .i64 t.k):=cell_of_row u2 _ 0 _ 102 (0,0) R0;obtain⟨S0,hS0⟩:∃S0,S0=t.S:=⟨_,rfl⟩;have b1:u2.cell? ⟨w.heap.size,1,none⟩=some (.string S0):=by rw[hS0];exact cell_of_row u2 _ 1 _ 102 (0,0) R0
 have JP:Hid (S0=t.S):=hS0;clear hS0;have b2:u2.cell? ⟨w.heap.size,2,none⟩=some (.int .i64 t.N):=cell_of_row u2 _ 2 _ 102 (0,0) R0;have HB2:Hid (Bw w u2):=B2;clear B1 B2 R0 D2;by_cases hc:c=0
 rotate_left
 ·have e1:(c != 0)=true:=by simpa using hc
  have HC:Hid (c≠0):=hc;clear hc;go_quiet (fail)
  go_wp2_with fail
  go_ret;exact⟨fK HX.o (fun _ _ _ q=>absurd q HC.o),by repeat (first|with_reducible exact HB2.o|refine Below.drew ?_|refine below_drewN ?_ _)⟩
 subst hc;by_cases hl:ts.length=2
 rotate_left
 ·have e1:((ts.length:Int) != 2)=true:=by simp;omega
  have HC:Hid (ts.length≠2):=hl;clear hl;go_quiet (fail)
  go_wp2_with fail
  go_ret;exact⟨fK HX.o (fun t0 t1 q _=>absurd (by rw[q];rfl) HC.o),by repeat (first|with_reducible exact HB2.o|refine Below.drew ?_|refine below_drewN ?_ _)⟩
 obtain⟨t0,t1,rfl⟩:=wB hl;obtain⟨g,rfl,hlo,hg1,x0,hx0,c0',c1',c2',c3',Ws⟩:=zC HG.o.1 (k:=0) (by simp);obtain rfl:x0=t0:=hx0;clear hl hlo;simp only[Nat.zero_mul,Nat.zero_add]at c0' c1' c2';by_cases hk:x0.k=t.k
 rotate_left
 ·have e1:(x0.k != t.k)=true:=by simpa using hk
  have HC:Hid (x0.k≠t.k):=hk;clear hk;go_quiet (fail)
  go_wp2_with fail
  go_ret;exact⟨fK HX.o (fun t0 t1 q _ p=>HC.o (by cases q;exact p.1)),by repeat (first|with_reducible exact HB2.o|refine Below.drew ?_|refine below_drewN ?_ _)⟩
 have e1:(x0.k != t.k)=false:=by simpa using hk
 have HK:Hid (x0.k=t.k):=hk;clear hk;by_cases hS':x0.S=S0
 rotate_left
 ·have e2:(x0.S.toList == S0.toList)=false:=vJ hS';have HC:Hid (x0.S≠S0):=hS';clear hS';go_quiet (fail)
  go_wp2_with fail
  go_ret;exact⟨fK HX.o (fun t0 t1 q _ p=>HC.o (by cases q;exact p.2.1.trans JP.o.symm)),by repeat (first|with_reducible exact HB2.o|refine Below.drew ?_|refine below_drewN ?_ _)⟩
 have e2:(x0.S.toList == S0.toList)=true:=str_eq hS';have WQ:Hid (x0.S=t.S):=hS'.trans JP.o;clear hS';by_cases hN':x0.N=t.N
 rotate_left
 ·have e3:(x0.N != t.N)=true:=by simpa using hN'
  have HC:Hid (x0.N≠t.N):=hN';clear hN';go_quiet (fail)
  go_wp2_with fail
  go_ret;exact⟨fK HX.o (fun t0 t1 q _ p=>HC.o (by cases q;exact p.2.2)),by repeat (first|with_reducible exact HB2.o|refine Below.drew ?_|refine below_drewN ?_ _)⟩
 have e3:(x0.N != t.N)=false:=by simpa using hN'
 have Iy:Hid (x0.N=t.N):=hN';clear hN';go_quiet (fail)
 go_wp2_with fail
 go_ret;exact⟨wC HX.o ⟨HK.o,WQ.o,Iy.o⟩,by repeat (first|with_reducible exact HB2.o|refine Below.drew ?_|refine below_drewN ?_ _)⟩
theorem RX (t:Pl.Tk) (h4:t.k=4) (hS:200<t.S.size) (hm:t.S.size<=1048576) (w:World):Calls Tryz.prog 52 #[.agg #[.int .i64 t.k,.string t.S,.int .i64 t.N,.int .i64 t.l,.int .i64 t.c]] w fun e w'=>e=.returned (.string ⟨#[]⟩)/\Bw w w':=by
 have q3:(t.k == 3)=false:=by rw[h4];rfl
 have q4:(t.k == 4)=true:=by rw[h4];rfl
 have aGl:(200:Int)<(t.S.size:Int):=by omega
 clear h4 hS;go_enter Tryz.func52,Tryz.ntmps52;go_wp2_with fail
 go_ret;exact⟨rfl,aB _ _⟩
theorem XT (t:Pl.Tk) (h3:t.k=3) (hN:t.N<0) (w:World):Calls Tryz.prog 52 #[.agg #[.int .i64 t.k,.string t.S,.int .i64 t.N,.int .i64 t.l,.int .i64 t.c]] w fun e w'=>e=.returned (.string ⟨#[]⟩)/\Bw w w':=by
 have q3:(t.k == 3)=true:=by rw[h3];rfl
 clear h3;go_enter Tryz.func52,Tryz.ntmps52;go_wp2_with fail
 go_ret;exact⟨rfl,aB _ _⟩
theorem XU (t:Pl.Tk) (h3:t.k=3) (hN:¬t.N<0) (s0:t.S≠⟨#[]⟩) (s1:t.S≠⟨#[117]⟩) (s2:t.S≠⟨#[99]⟩) (w:World):Calls Tryz.prog 52 #[.agg #[.int .i64 t.k,.string t.S,.int .i64 t.N,.int .i64 t.l,.int .i64 t.c]] w fun e w'=>e=.returned (.string ⟨#[]⟩)/\Bw w w':=by
 have q3:(t.k == 3)=true:=by rw[h3];rfl
 have e0:t.S.toList.isEmpty=false:=by
  rw[ByteArray.toList_eq];cases hl:t.S.data.toList with
  | nil=>exact absurd (Go.WideShapes.bytes_inj hl) s0
  | cons _ _=>rfl
 have e1:(t.S.toList == [117])=false:=by have q:=vJ s1;rwa [show (⟨#[117]⟩:ByteArray).toList=[117] from by rw[ByteArray.toList_eq]]at q
 have e2:(t.S.toList == [99])=false:=by have q:=vJ s2;rwa [show (⟨#[99]⟩:ByteArray).toList=[99] from by rw[ByteArray.toList_eq]]at q
 clear h3 s0 s1 s2;go_enter Tryz.func52,Tryz.ntmps52;go_wp2_with fail
 go_ret;exact⟨rfl,aB _ _⟩
set_option maxRecDepth 8000 in
theorem XV (t:Pl.Tk) (h4:t.k=4) (hS:t.S.size<=200) (w:World):Calls Tryz.prog 52 #[.agg #[.int .i64 t.k,.string t.S,.int .i64 t.N,.int .i64 t.l,.int .i64 t.c]] w (FC t (Pl.qt t.S 34) w):=by
 have hcv:∀(u:World) (t:ByteArray),(convert 9 26 (.string t)).run Tryz.prog u=.ok (.slice (some ⟨u.heap.size,0,none⟩) t.size (grownCap u t.size 0 5)) (Lib.bytesWorld u 5 t):=fun u t=>Lib.run_convert_string_bytes u 9 26 5 t Tryz.underlying9 Tryz.underlying26 Tryz.underlying5;have q3:(t.k == 3)=false:=by rw[h4];rfl
 have q4:(t.k == 4)=true:=by rw[h4];rfl
 have aGl:¬((200:Int)<(t.S.size:Int)):=by omega
 have hqs:(Pl.qt t.S 34).size<=1048576:=by
  have:=Pl.sU t.S 34 t.S.size (Nat.le_refl _);unfold Pl.qt;show (List.toArray _).size<=_;simp;omega
 have hS2:t.S.size<=1048576:=by omega
 clear h4 hS;go_enter Tryz.func52,Tryz.ntmps52;go_upto_region 13 with (first|(go_at_call 81;refine (wK t.S hS2 _).mono ?_;rintro e u1 ⟨rfl,d1⟩;have D1:Hid (Below (w.alloc (.cells #[.int .i64 t.k,.string t.S,.int .i64 t.N,.int .i64 t.l,.int .i64 t.c] 102)).heap.size (w.alloc (.cells #[.int .i64 t.k,.string t.S,.int .i64 t.N,.int .i64 t.l,.int .i64 t.c] 102)) u1):=d1;clear d1)|(go_at_call 82;refine (rJ (some ⟨u1.heap.size,0,none⟩) (Pl.qt t.S 34).size _ (Pl.qt t.S 34) rfl hqs (Lib.bytesWorld (u1) 5 (Pl.qt t.S 34)) (vZ (u1) (Pl.qt t.S 34) (u1.heap.size) (by simp) _)).mono ?_;rintro e u2 ⟨h2,d2⟩;obtain⟨ts,c,l,k,a0,c0,hx,rfl,g2⟩:=nK.got h2;have D2:Hid _:=d2;have HX:Hid (nG (Pl.qt t.S 34) (ts,c,l,k)):=hx;have HG:Hid _:=g2;clear h2 g2 d2 hx))
 have B1:Bw w (u1):=(aB _ _).trans (D1.o.mono (by simp));have B2:Bw w u2:=(B1.trans ((Joins.below_bytesWorld _ _ 5 _ (Nat.le_refl _)).mono B1.size)).trans (D2.o.mono (by rw[Lib.bytesWorld_size];have:=B1.size;omega));have R0:u2.heap[w.heap.size]?=some (.cells #[.int .i64 t.k,.string t.S,.int .i64 t.N,.int .i64 t.l,.int .i64 t.c] 102 (0,0)):=(D2.o.block _ (by rw[Lib.bytesWorld_size];have:=D1.o.size;simp at this;omega)).trans ((Lib.bytesWorld_at_old _ 5 _ _ (by have:=D1.o.size;simp at this;omega)).trans ((D1.o.block _ (by simp)).trans (heap_alloc_new w _)));have b0:u2.cell? ⟨w.heap.size,0,none⟩=some (.int .i64 t.k):=cell_of_row u2 _ 0 _ 102 (0,0) R0;obtain⟨S0,hS0⟩:∃S0,S0=t.S:=⟨_,rfl⟩;have b1:u2.cell? ⟨w.heap.size,1,none⟩=some (.string S0):=by rw[hS0];exact cell_of_row u2 _ 1 _ 102 (0,0) R0
 have JP:Hid (S0=t.S):=hS0;clear hS0;have b2:u2.cell? ⟨w.heap.size,2,none⟩=some (.int .i64 t.N):=cell_of_row u2 _ 2 _ 102 (0,0) R0;have HB2:Hid (Bw w u2):=B2;clear B1 B2 R0 D2;by_cases hc:c=0
 rotate_left
 ·have e1:(c != 0)=true:=by simpa using hc
  have HC:Hid (c≠0):=hc;clear hc;go_quiet (fail)
  go_wp2_with fail
  go_ret;exact⟨fK HX.o (fun _ _ _ q=>absurd q HC.o),by repeat (first|with_reducible exact HB2.o|refine Below.drew ?_|refine below_drewN ?_ _)⟩
 subst hc;by_cases hl:ts.length=2
 rotate_left
 ·have e1:((ts.length:Int) != 2)=true:=by simp;omega
  have HC:Hid (ts.length≠2):=hl;clear hl;go_quiet (fail)
  go_wp2_with fail
  go_ret;exact⟨fK HX.o (fun t0 t1 q _=>absurd (by rw[q];rfl) HC.o),by repeat (first|with_reducible exact HB2.o|refine Below.drew ?_|refine below_drewN ?_ _)⟩
 obtain⟨t0,t1,rfl⟩:=wB hl;obtain⟨g,rfl,hlo,hg1,x0,hx0,c0',c1',c2',c3',Ws⟩:=zC HG.o.1 (k:=0) (by simp);obtain rfl:x0=t0:=hx0;clear hl hlo;simp only[Nat.zero_mul,Nat.zero_add]at c0' c1' c2';by_cases hk:x0.k=t.k
 rotate_left
 ·have e1:(x0.k != t.k)=true:=by simpa using hk
  have HC:Hid (x0.k≠t.k):=hk;clear hk;go_quiet (fail)
  go_wp2_with fail
  go_ret;exact⟨fK HX.o (fun t0 t1 q _ p=>HC.o (by cases q;exact p.1)),by repeat (first|with_reducible exact HB2.o|refine Below.drew ?_|refine below_drewN ?_ _)⟩
 have e1:(x0.k != t.k)=false:=by simpa using hk
 have HK:Hid (x0.k=t.k):=hk;clear hk;by_cases hS':x0.S=S0
 rotate_left
 ·have e2:(x0.S.toList == S0.toList)=false:=vJ hS';have HC:Hid (x0.S≠S0):=hS';clear hS';go_quiet (fail)
  go_wp2_with fail
  go_ret;exact⟨fK HX.o (fun t0 t1 q _ p=>HC.o (by cases q;exact p.2.1.trans JP.o.symm)),by repeat (first|with_reducible exact HB2.o|refine Below.drew ?_|refine below_drewN ?_ _)⟩
 have e2:(x0.S.toList == S0.toList)=true:=str_eq hS';have WQ:Hid (x0.S=t.S):=hS'.trans JP.o;clear hS';by_cases hN':x0.N=t.N
 rotate_left
 ·have e3:(x0.N != t.N)=true:=by simpa using hN'
  have HC:Hid (x0.N≠t.N):=hN';clear hN';go_quiet (fail)
  go_wp2_with fail
  go_ret;exact⟨fK HX.o (fun t0 t1 q _ p=>HC.o (by cases q;exact p.2.2)),by repeat (first|with_reducible exact HB2.o|refine Below.drew ?_|refine below_drewN ?_ _)⟩
 have e3:(x0.N != t.N)=false:=by simpa using hN'
 have Iy:Hid (x0.N=t.N):=hN';clear hN';go_quiet (fail)
 go_wp2_with fail
 go_ret;exact⟨wC HX.o ⟨HK.o,WQ.o,Iy.o⟩,by repeat (first|with_reducible exact HB2.o|refine Below.drew ?_|refine below_drewN ?_ _)⟩
end W
end Go.Proofs.YtjcdiegfnoaedaaGreatDoor
