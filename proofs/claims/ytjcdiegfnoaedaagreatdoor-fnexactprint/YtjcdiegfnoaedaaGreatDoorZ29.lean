import Derived.Test.YtjcdiegfnoaedaaGreatDoorZ25
import Derived.Test.YtjcdiegfnoaedaaGreatDoorZ26
import Derived.Test.YtjcdiegfnoaedaaGreatDoorZ27
import Derived.Test.YtjcdiegfnoaedaaGreatDoorZ28
set_option linter.unusedVariables false
set_option linter.unusedSimpArgs false
set_option maxHeartbeats 16000000
namespace Go.Proofs.YtjcdiegfnoaedaaGreatDoor
namespace W
open Go.RowKit
theorem aCE (b:Nat):((⟨#[39]⟩:ByteArray)++(⟨(Pl.shown b 39).toArray⟩:ByteArray))++(⟨#[39]⟩:ByteArray)=Pl.BF b:=by
 show ((⟨[39].toArray⟩:ByteArray)++⟨(Pl.shown b 39).toArray⟩)++⟨[39].toArray⟩=_;rw[Pl.vH,Pl.vH];rfl
theorem KL (t:Pl.Tk) (h1:t.N<=9223372036854775807) (hS:t.S.size<=1048576) (w:World):Calls Tryz.prog 52 #[.agg #[.int .i64 t.k,.string t.S,.int .i64 t.N,.int .i64 t.l,.int .i64 t.c]] w fun e w'=>e=.returned (.string (Pl.QN t))/\Bw w w':=by
 unfold Pl.QN;by_cases h3:t.k=3
 ·rw[if_pos h3];by_cases hN:t.N<0
  ·rw[if_pos (.inl hN)];exact XT t h3 hN w
  by_cases hb:t.S≠⟨#[]⟩/\t.S≠⟨#[117]⟩/\t.S≠⟨#[99]⟩
  ·rw[if_pos (.inr hb)];exact XU t h3 hN hb.1 hb.2.1 hb.2.2 w
  rw[if_neg (fun q=>q.elim hN hb)];obtain⟨k,S,N,l,c⟩:=t;simp only at h1 h3 hN hb hS ⊢;subst h3;obtain⟨n,rfl⟩:∃n:Nat,N=(n:Int):=⟨N.toNat,by omega⟩;by_cases hc:S=⟨#[99]⟩
  ·subst hc;rw[if_pos rfl,show ((n:Int) % 256).toNat=n % 256 by omega,<- aCE];exact XW n l c h1 w
  ·rw[if_neg hc];by_cases hu:S=⟨#[117]⟩
   ·subst hu;exact RY n l c h1 w
   ·obtain rfl:S=⟨#[]⟩:=Classical.byContradiction fun q=>hb ⟨q,hu,hc⟩;exact RZ n l c h1 w
 ·rw[if_neg h3];by_cases h4:t.k=4
  ·rw[if_pos h4];by_cases hl:200<t.S.size
   ·rw[if_pos hl];exact RX t h4 hl hS w
   ·rw[if_neg hl];exact XV t h4 (by omega) w
  ·rw[if_neg h4];exact XR t h3 h4 hS w
theorem rP (xs:Array Value) (j:Nat) (v:Value) (h:xs[j]?=some v) (w:World):(part 3 xs j).run Tryz.prog w=.ok v w:=by
 have ht:(Tryz.prog.info? 3).map (fun i=>i.size)=some 1:=by kernel_rfl
 obtain⟨i0,hi,hz⟩:=Option.map_eq_some_iff.1 ht;simp[part,sizeOf,typeInfo,hi,hz,h,Tryz.underlying3,go_sem]
theorem Cg (xs:Array Value) (j:Nat) (v:Value) (h:xs[j]?=some v) (w:World):(part 9 xs j).run Tryz.prog w=.ok v w:=by
 have ht:(Tryz.prog.info? 9).map (fun i=>i.size)=some 1:=by kernel_rfl
 obtain⟨i0,hi,hz⟩:=Option.map_eq_some_iff.1 ht;simp[part,sizeOf,typeInfo,hi,hz,h,Tryz.underlying9,go_sem]
theorem aEB (a0:Int) (a1:ByteArray) (a2 a3 a4 b0:Int) (b1:ByteArray) (b2 b3 b4:Int) (w:World):(Op.equalIn 10000 102 (.agg #[.int .i64 a0,.string a1,.int .i64 a2,.int .i64 a3,.int .i64 a4]) (.agg #[.int .i64 b0,.string b1,.int .i64 b2,.int .i64 b3,.int .i64 b4])).run Tryz.prog w=.ok (a0 == b0 && (a1.toList == b1.toList && (a2 == b2 && (a3 == b3 && a4 == b4)))) w:=by
 have hp:Tryz.prog.stoodInHeld 102=false:=by kernel_rfl
 have hf:Tryz.prog.underlying 102=some (.struct (Tryz.prog.fieldsOf 102)):=by simp[Program.fieldsOf,Tryz.underlying102]
 have hnm:(Tryz.prog.fieldsOf 102).toList.map (fun f=>(f.name == "_",f.type,f.offset))=[(false,3,0),(false,9,1),(false,3,2),(false,3,3),(false,3,4)]:=by kernel_rfl
 rw[show (10000:Nat)=9998+1+1 from rfl,run_equalIn_struct w _ _ _ _ hf hp];generalize (Tryz.prog.fieldsOf 102).toList=fs at hnm;obtain⟨f0,f1,f2,f3,f4,rfl⟩:∃f0 f1 f2 f3 f4,fs=[f0,f1,f2,f3,f4]:=by
  have hl:fs.length=5:=by have:=congrArg List.length hnm;simpa using this
  match fs,hl with
  | [f0,f1,f2,f3,f4],_=>exact⟨f0,f1,f2,f3,f4,rfl⟩
 simp only[List.map_cons,List.map_nil,List.cons.injEq,Prod.mk.injEq,and_true]at hnm;obtain⟨⟨n0,t0,o0⟩,⟨n1,t1,o1⟩,⟨n2,t2,o2⟩,⟨n3,t3,o3⟩,n4,t4,o4⟩:=hnm;have n0':f0.name≠ "_" :=by simpa using n0
 have n1':f1.name≠ "_" :=by simpa using n1
 have n2':f2.name≠ "_" :=by simpa using n2
 have n3':f3.name≠ "_" :=by simpa using n3
 have n4':f4.name≠ "_" :=by simpa using n4
 simp only[Op.eqFields,t0,t1,t2,t3,t4,o0,o1,o2,o3,o4,ne_eq,n0',n1',n2',n3',n4',not_false_eq_true,if_true,Sem.run_bind,rP #[.int .i64 a0,.string a1,.int .i64 a2,.int .i64 a3,.int .i64 a4] 0 (.int .i64 a0) rfl,rP #[.int .i64 a0,.string a1,.int .i64 a2,.int .i64 a3,.int .i64 a4] 2 (.int .i64 a2) rfl,rP #[.int .i64 a0,.string a1,.int .i64 a2,.int .i64 a3,.int .i64 a4] 3 (.int .i64 a3) rfl,rP #[.int .i64 a0,.string a1,.int .i64 a2,.int .i64 a3,.int .i64 a4] 4 (.int .i64 a4) rfl,Cg #[.int .i64 a0,.string a1,.int .i64 a2,.int .i64 a3,.int .i64 a4] 1 (.string a1) rfl,rP #[.int .i64 b0,.string b1,.int .i64 b2,.int .i64 b3,.int .i64 b4] 0 (.int .i64 b0) rfl,rP #[.int .i64 b0,.string b1,.int .i64 b2,.int .i64 b3,.int .i64 b4] 2 (.int .i64 b2) rfl,rP #[.int .i64 b0,.string b1,.int .i64 b2,.int .i64 b3,.int .i64 b4] 3 (.int .i64 b3) rfl,rP #[.int .i64 b0,.string b1,.int .i64 b2,.int .i64 b3,.int .i64 b4] 4 (.int .i64 b4) rfl,Cg #[.int .i64 b0,.string b1,.int .i64 b2,.int .i64 b3,.int .i64 b4] 1 (.string b1) rfl,Result.andThen_ok,run_equalIn_int _ _ _ _ _ _ _ Tryz.underlying3,run_equalIn_string _ _ _ _ _ Tryz.underlying9];cases a0 == b0
 ·simp only[Bool.not_false,if_true,Sem.run_pure,Bool.false_and]
 simp only[Bool.not_true,Bool.false_eq_true,if_false,Bool.true_and,Sem.run_bind,rP #[.int .i64 a0,.string a1,.int .i64 a2,.int .i64 a3,.int .i64 a4] 2 (.int .i64 a2) rfl,Cg #[.int .i64 a0,.string a1,.int .i64 a2,.int .i64 a3,.int .i64 a4] 1 (.string a1) rfl,Cg #[.int .i64 b0,.string b1,.int .i64 b2,.int .i64 b3,.int .i64 b4] 1 (.string b1) rfl,Result.andThen_ok,run_equalIn_string _ _ _ _ _ Tryz.underlying9];cases a1.toList == b1.toList
 ·simp only[Bool.not_false,if_true,Sem.run_pure,Bool.false_and]
 simp only[Bool.not_true,Bool.false_eq_true,if_false,Bool.true_and,Sem.run_bind,rP #[.int .i64 a0,.string a1,.int .i64 a2,.int .i64 a3,.int .i64 a4] 2 (.int .i64 a2) rfl,rP #[.int .i64 b0,.string b1,.int .i64 b2,.int .i64 b3,.int .i64 b4] 2 (.int .i64 b2) rfl,Result.andThen_ok,run_equalIn_int _ _ _ _ _ _ _ Tryz.underlying3];cases a2 == b2
 ·simp only[Bool.not_false,if_true,Sem.run_pure,Bool.false_and]
 simp only[Bool.not_true,Bool.false_eq_true,if_false,Bool.true_and,Sem.run_bind,rP #[.int .i64 a0,.string a1,.int .i64 a2,.int .i64 a3,.int .i64 a4] 3 (.int .i64 a3) rfl,rP #[.int .i64 b0,.string b1,.int .i64 b2,.int .i64 b3,.int .i64 b4] 3 (.int .i64 b3) rfl,Result.andThen_ok,run_equalIn_int _ _ _ _ _ _ _ Tryz.underlying3];cases a3 == b3
 ·simp only[Bool.not_false,if_true,Sem.run_pure,Bool.false_and]
 simp only[Bool.not_true,Bool.false_eq_true,if_false,Bool.true_and,Sem.run_bind,rP #[.int .i64 a0,.string a1,.int .i64 a2,.int .i64 a3,.int .i64 a4] 4 (.int .i64 a4) rfl,rP #[.int .i64 b0,.string b1,.int .i64 b2,.int .i64 b3,.int .i64 b4] 4 (.int .i64 b4) rfl,Result.andThen_ok,run_equalIn_int _ _ _ _ _ _ _ Tryz.underlying3];cases a4 == b4 <;> simp only[Bool.not_false,Bool.not_true,Bool.false_eq_true,if_true,if_false,Sem.run_pure]
theorem aCF {a b:Pl.Tk}(h:a≠b):(a.k == b.k && (a.S.toList == b.S.toList && (a.N == b.N && (a.l == b.l && a.c == b.c))))=false:=by
 rw[Bool.eq_false_iff];intro q;simp only[Bool.and_eq_true,beq_iff_eq]at q;obtain⟨q1,q2,q3,q4,q5⟩:=q;exact h (aEz q1 (Classical.byContradiction fun r=>by have:=vJ r;rw[q2]at this;simp at this) q3 q4 q5)
open Go.RowKit Go.Shelf
section
attribute [local go_sem] Oper.semAt_some
set_option maxRecDepth 100000 in
theorem SA (a:Option Addr) (len cap:Nat) (s:ByteArray) (hl:s.size=len) (hbig:20000<len) (w:World) :
  Calls Tryz.prog 123 #[.slice a len cap] w fun e w'=>nK w.heap.size s e w'/\Bw w w':=by
 have Ur:Hid (s.size=len):=hl;clear hl;refine (callsIn_wide (n:=4)).1 ?_;refine callsIn_of_wp_marks Tryz.func123 rfl trivial ?_ rfl;simp only[Tryz.ntmps123,List.size_toArray,List.length_cons,List.length_nil,Nat.reduceAdd,Nat.reduceSub,Array.replicate_succ,Array.replicate_zero,List.push_toArray,List.append_toArray,List.nil_append,List.cons_append]
 ·have e1:decide ((20000:Int)<len)=true:=by simp;omega
  have HB:Hid (20000<len):=hbig;clear hbig
  gi_wp2
  obtain⟨q0,q1,q2,q3⟩:=KI w (.cells #[.slice none 0 0] 141) (.cells #[.int .i64 1] 3) (.cells #[.int .i64 1] 3) (.cells #[.int .i64 1] 3);refine⟨_,wW rfl _ _ w.heap.size (w.heap.size+1) (w.heap.size+1+1) (w.heap.size+1+1+1) (.slice none 0 0) (.int .i64 1) (.int .i64 1) (.int .i64 1) rfl rfl rfl rfl (cell_of_row _ _ 0 _ 141 (0,0) q0) (cell_of_row _ _ 0 _ 3 (0,0) q1) (cell_of_row _ _ 0 _ 3 (0,0) q2) (cell_of_row _ _ 0 _ 3 (0,0) q3),⟨[],1,1,1,_,.inl ⟨by rw[Ur.o];exact HB.o,rfl⟩,rfl,World.ownsRow_nil _ _ _ _⟩,?_⟩
  repeat (first|exact Below.refl _ _|refine Below.alloc ?_ (by first|(simp;done)|(simp;omega)) _)
end
theorem SB (a:Option Addr) (len cap:Nat) (s:ByteArray) (hl:s.size=len) (w:World) (hE:nR w) (hcv:∀u:World,Bw w u->(convert 26 9 (.slice a len cap)).run Tryz.prog u=.ok (.string s) u) :
  Calls Tryz.prog 123 #[.slice a len cap] w fun e w'=>nK w.heap.size s e w'/\Bw w w':=by
 by_cases h:20000<len
 ·exact SA a len cap s hl h w
 ·exact XM a len cap s hl (by omega) w hE hcv
set_option maxRecDepth 8000 in
theorem zL (t:Pl.Tk) (h0 : -9223372036854775808<=t.N) (h1:t.N<=9223372036854775807) (hS:t.S.size<=1048576) (w:World) (hE:nR w) (hd:bD w) (hp:iH w):Calls Tryz.prog 98 #[.agg #[.int .i64 t.k,.string t.S,.int .i64 t.N,.int .i64 t.l,.int .i64 t.c]] w fun e w'=>e=.returned (.string (Pl.EK t))/\Bw w w':=by
 have hcv:∀(u:World) (t:ByteArray),(convert 9 26 (.string t)).run Tryz.prog u=.ok (.slice (some ⟨u.heap.size,0,none⟩) t.size (grownCap u t.size 0 5)) (Lib.bytesWorld u 5 t):=fun u t=>Lib.run_convert_string_bytes u 9 26 5 t Tryz.underlying9 Tryz.underlying26 Tryz.underlying5;have HTF:Hid (∀u:World,Bw w u->Calls Tryz.prog 122 #[.agg #[.int .i64 t.k,.string t.S,.int .i64 t.N,.int .i64 t.l,.int .i64 t.c]] u fun e w'=>e=.returned (.string (Pl.nH t))/\Bw u w'):=fun u hu=>XQ t h0 h1 hS u (hd.below hu) (hp.below hu);have HE:Hid (nR w):=hE;clear h0 h1 hS hE hd hp;unfold Pl.EK;generalize Pl.nH t=x at *;go_enter Tryz.func98,Tryz.ntmps98;go_upto_region 2 with (first|(go_at_call 122;refine (HTF.o _ (aB _ _)).mono ?_;rintro e u1 ⟨rfl,d1⟩;have D1:Hid (Below (w.alloc (.cells #[.int .i64 t.k,.string t.S,.int .i64 t.N,.int .i64 t.l,.int .i64 t.c] 102)).heap.size (w.alloc (.cells #[.int .i64 t.k,.string t.S,.int .i64 t.N,.int .i64 t.l,.int .i64 t.c] 102)) u1):=d1;clear d1)|(refine wpList_load_row rfl 102 _ rfl w.heap.size ?hx 102 #[.int .i64 t.k,.string t.S,.int .i64 t.N,.int .i64 t.l,.int .i64 t.c] (0,0) _ ?hg Tryz.underlying102 ?hd ?hi ?_;(case hx=>rfl);(case hg=>exact heap_alloc_new w _);(case hd=>rfl);(case hi=>kernel_rfl)))
 have R1:u1.heap[w.heap.size]?=some (.cells #[.int .i64 t.k,.string t.S,.int .i64 t.N,.int .i64 t.l,.int .i64 t.c] 102 (0,0)):=(D1.o.block _ (by simp)).trans (heap_alloc_new w _);have c3:u1.cell? ⟨w.heap.size,3,none⟩=some (.int .i64 t.l):=cell_of_row u1 _ 3 _ 102 (0,0) R1;have c4:u1.cell? ⟨w.heap.size,4,none⟩=some (.int .i64 t.c):=cell_of_row u1 _ 4 _ 102 (0,0) R1;have f3:u1.frozen? ⟨w.heap.size,3,none⟩=false:=frozen_of_row u1 _ 3 _ 102 R1;have f4:u1.frozen? ⟨w.heap.size,4,none⟩=false:=frozen_of_row u1 _ 4 _ 102 R1;have B1:Bw w u1:=(aB w _).trans (D1.o.mono (by simp));have HR1:Hid _:=R1;have HB1:Hid (Bw w u1):=B1;clear R1 B1;go_upto_region 3 with fail
 obtain⟨U,hU⟩:∃U,U=((u1.setCell ⟨w.heap.size,3,none⟩ (.int .i64 1)).setCell ⟨w.heap.size,4,none⟩ (.int .i64 1)):=⟨_,rfl⟩;rw[<- hU];have R2:U.heap[w.heap.size]?=some (.cells #[.int .i64 t.k,.string t.S,.int .i64 t.N,.int .i64 1,.int .i64 1] 102 (0,0)):=by
  rw[hU];exact heap_setCell_same _ _ _ _ _ _ (heap_setCell_same _ _ _ _ _ _ HR1.o)
 have B2:Bw w U:=by
  rw[hU];exact (HB1.o.setCell (p:=⟨w.heap.size,3,none⟩) (Nat.le_refl _) _).setCell (p:=⟨w.heap.size,4,none⟩) (Nat.le_refl _) _
 have zU:w.heap.size<U.heap.size:=(Array.getElem?_eq_some_iff.1 R2).1;have HR2:Hid _:=R2;have HB2:Hid (Bw w U):=B2;have BY:Hid (Bw w (Lib.bytesWorld U 5 x)):=B2.trans ((Joins.below_bytesWorld _ _ 5 _ (Nat.le_refl _)).mono B2.size);clear hU R2 B2 c3 c4 f3 f4;go_upto_region 4 with (go_at_call 123;refine (SB (some ⟨U.heap.size,0,none⟩) x.size _ x rfl (Lib.bytesWorld U 5 x) (HE.o.on BY.o) (vZ U x (U.heap.size) rfl _)).mono ?_;rintro e u2 ⟨h2,d2⟩;obtain⟨ts,c,l,k,a0,c0,hx,rfl,g2⟩:=nK.got h2;have D2:Hid _:=d2;have HX:Hid (nG x (ts,c,l,k)):=hx;have HG:Hid _:=g2;clear h2 g2 d2 hx)
 have R3:u2.heap[w.heap.size]?=some (.cells #[.int .i64 t.k,.string t.S,.int .i64 t.N,.int .i64 1,.int .i64 1] 102 (0,0)):=(D2.o.block _ (by rw[Lib.bytesWorld_size];omega)).trans ((Lib.bytesWorld_at_old _ 5 _ _ (by omega)).trans HR2.o);have b0:u2.cell? ⟨w.heap.size,0,none⟩=some (.int .i64 t.k):=cell_of_row u2 _ 0 _ 102 (0,0) R3;have b1:u2.cell? ⟨w.heap.size,1,none⟩=some (.string t.S):=cell_of_row u2 _ 1 _ 102 (0,0) R3;have b2:u2.cell? ⟨w.heap.size,2,none⟩=some (.int .i64 t.N):=cell_of_row u2 _ 2 _ 102 (0,0) R3;have b3:u2.cell? ⟨w.heap.size,3,none⟩=some (.int .i64 1):=cell_of_row u2 _ 3 _ 102 (0,0) R3;have b4:u2.cell? ⟨w.heap.size,4,none⟩=some (.int .i64 1):=cell_of_row u2 _ 4 _ 102 (0,0) R3;have HB3:Hid (Bw w u2):=BY.o.trans (D2.o.mono BY.o.size);clear R3 D2;by_cases hl:ts.length=2
 rotate_left
 ·have e1:((ts.length:Int) != 2)=true:=by simp;omega
  have HC:Hid (ts.length≠2):=hl;clear hl;go_quiet (fail)
  go_wp2_with fail
  go_ret;exact⟨fK HX.o (fun t0 t1 q _=>absurd (by rw[q];rfl) HC.o),by repeat (first|with_reducible exact HB3.o|refine Below.drew ?_|refine below_drewN ?_ _)⟩
 obtain⟨t0,t1,rfl⟩:=wB hl;obtain⟨g,rfl,hlo,hg1,x0,hx0,c0',c1',c2',c3',Ws⟩:=zC HG.o.1 (k:=0) (by simp);obtain rfl:x0=t0:=hx0;clear hl hlo;simp only[Nat.zero_mul,Nat.zero_add]at c0' c1' c2' c3' Ws;have hU:=Tryz.underlying102;have VM:Tryz.prog.eqGuardType Tryz.prog.depth 102=false:=by kernel_rfl
 by_cases he:x0=⟨t.k,t.S,t.N,1,1⟩
 ·have HEQ:Hid (x0=⟨t.k,t.S,t.N,1,1⟩):=he;rw[he]at c0' c1' c2' c3' Ws
  dsimp only at c0' c1' c2' c3' Ws
  clear he;have heq:∀u:World,(Op.equalIn 10000 102 (.agg #[.int .i64 t.k,.string t.S,.int .i64 t.N,.int .i64 1,.int .i64 1]) (.agg #[.int .i64 t.k,.string t.S,.int .i64 t.N,.int .i64 1,.int .i64 1])).run Tryz.prog u=.ok true u:=fun u=>by rw[aEB];simp
  go_quiet (fail)
  go_wp2_with fail
  go_ret;exact⟨wC HX.o HEQ.o,by repeat (first|with_reducible exact HB3.o|refine Below.drew ?_|refine below_drewN ?_ _)⟩
 ·have HC:Hid (x0≠⟨t.k,t.S,t.N,1,1⟩):=he;have hb:=aCF he
  dsimp only at hb
  have heq:∀u:World,(Op.equalIn 10000 102 (.agg #[.int .i64 x0.k,.string x0.S,.int .i64 x0.N,.int .i64 x0.l,.int .i64 x0.c]) (.agg #[.int .i64 t.k,.string t.S,.int .i64 t.N,.int .i64 1,.int .i64 1])).run Tryz.prog u=.ok false u:=fun u=>by rw[aEB,hb]
  clear he hb;go_quiet (fail)
  go_wp2_with fail
  go_ret;exact⟨fK HX.o (fun t0 t1 q _ p=>HC.o (by cases q;exact p)),by repeat (first|with_reducible exact HB3.o|refine Below.drew ?_|refine below_drewN ?_ _)⟩
end W
end Go.Proofs.YtjcdiegfnoaedaaGreatDoor
