import Derived.Test.YtcgfgmlfbgbkfaaGreatDoorM06
import Derived.Deep.AppendLies
import Derived.Laws.OwnMore
import Derived.Test.YtcgfgmlfbgbkfaaGreatDoorM00
import Derived.Laws.CopyOwn
import Derived.Deep.RegionLaw
import Derived.Below
set_option linter.unusedVariables false
set_option linter.unusedSimpArgs false
set_option maxHeartbeats 16000000
namespace Go.Proofs.YtcgfgmlfbgbkfaaGreatDoor.W
open Go.RowKit
theorem l3Ints_rowL {lo:Nat} (a:Option Addr) (len cap:Nat) (zs:List Int) (w:World) (h:Row .i64 lo w a len cap zs) (hsz:len<=1048576) :
  Calls Tryz.prog 89 #[.slice a len cap] w fun e w'=>∃ a' cap',e=.returned (.slice a' len cap')/\Own .i64 3 w.heap.size w' a' len cap' zs/\Below w.heap.size w w':=by
 obtain⟨i0,hi,hz0,hz1,hz2⟩:=info_parts Tryz.infoi64
 obtain⟨hl,hlc,hcm,hwf,h5⟩:=h
 have HW:Hid (∀ n∈zs,(Lit.int .i64 n).wf=true):=hwf
 clear hwf
 have hE:(w.alloc (.cells #[] 3)).ownsRow w.heap.size 3 1 (.slice (some ⟨w.heap.size,0,none⟩) 0 0) 0 []:=World.ownsRow_lit w #[] 0 (Nat.le_refl _) (Nat.zero_le _) rfl
 cases a with
 | none=>
  have h0:len=0:=by rcases h5 with h | ⟨b,off,hb,_⟩; exact h;cases hb
  subst h0
  have hz:zs=[]:=by cases zs with | nil=>rfl | cons=>simp at hl
  subst hz
  clear hl h5
  go_enter Tryz.func89,Tryz.ntmps89
  go_wp2_with (at_builtin;refine wpList_append_noneA rfl (.tmp 5) (.tmp 6) 22 rfl w.heap.size 3 i0 1 cap Tryz.underlying22 hi _ 0 [] rfl hE rfl ?_)
  go_ret
  exact⟨_,_,rfl,⟨hE,fun n hn=>(by cases hn)⟩,below_alloc _ _⟩
 | some ad=>
  have HN:Hid (∀ j u,(zs.map (Value.int .i64))[j]?=some u->(w.alloc (.cells #[] 3)).cell? (ad.add j)=some u):=fun j u hj=>by
   have hjl:j<len:=by
    have:=(List.getElem?_eq_some_iff.1 hj).1
    rw[List.length_map]at this
    omega
   rcases h5 with h | ⟨b,off,hb,_,hlt,hc⟩
   ·omega
   ·cases hb
    have e1:(⟨b,off,none⟩:Addr).add j=⟨b,off+j,none⟩:=by
     simp only[Addr.add]
     split <;> simp_all
    rw[e1,(below_alloc w _).cell (p:=⟨b,off+j,none⟩) hlt,hc j hjl,<- hj,List.getElem?_map,List.getElem?_eq_getElem (by omega),List.getD_eq_getElem?_getD,List.getElem?_eq_getElem (by omega)]
    rfl
  clear h5
  go_enter Tryz.func89,Tryz.ntmps89
  go_wp2_with (at_builtin;refine wpList_append_own _ rfl (.tmp 5) (.tmp 6) 22 rfl w.heap.size 3 i0 (.int .i64 0) 1 8 Tryz.underlying22 hi hz0 hz1 hz2 rfl (by decide) _ 0 [] rfl hE ad len cap (zs.map (Value.int .i64)) rfl (by rw[List.length_map,hl,Nat.mul_one]) HN.out (by intro u hu;obtain⟨n,_,rfl⟩:=List.mem_map.1 hu;rfl) (by unfold maxLen;omega) (by omega) (by simp) ?_)
  intro v' u1 hown' hgr _
  have HO':Hid (u1.ownsRow w.heap.size 3 1 v' len (zs.map (Value.int .i64))):=by show u1.ownsRow _ _ _ _ _ _;simpa using hown'
  have HB:Hid (Below w.heap.size w u1):=(below_alloc w _).grown hgr (by simp) (fun k hk=>by simp[Value.ownBlock]at hk;omega)
  clear hown' hgr hE HN
  obtain⟨a',c',hv⟩:∃ a' c',v'=.slice a' len c':=by
   rcases HO'.out.2 with ⟨q0,q1⟩ | ⟨g',c',_,q0,_⟩
   ·subst q1;exact⟨none,0,q0⟩
   ·exact⟨_,c',q0⟩
  subst hv
  go_wp2
  go_ret
  exact⟨a',c',rfl,⟨HO'.out,HW.out⟩,HB.out⟩
set_option maxRecDepth 4000 in
theorem l11Sets_any (x:Pl.IrI) (q:SV) (h1:0<=x.op) (h16:x.op<=16) (w:World):Calls Tryz.prog 53 #[.agg #[.int .i64 x.op,.int .i64 x.d,.int .i64 x.a,.int .i64 x.b,.int .i64 x.n,.string x.sym,.slice q.a q.len q.cap]] w fun e w'=>e=.returned (.int .i64 (Pl.setsD x))/\Below w.heap.size w w':=by
 obtain⟨o,d,a,b,n,sym,args⟩:=x
 obtain⟨qa,ql,qc⟩:=q
 simp only at h1 h16 ⊢
 obtain⟨op,rfl⟩:∃ op:Nat,o=op:=⟨o.toNat,by omega⟩
 have h16:op<=16:=by omega
 obtain⟨uu,huu⟩:∃ uu,uu=Pl.irTab.getD op 0:=⟨_,rfl⟩
 have hub:=Pl.irTab_bd op h16
 rw[<- huu]at hub
 have HUU:Hid (Pl.irTab.getD op 0=uu):=huu.symm
 have hw1:uu.tmod 4=uu % 4:=Int.tmod_eq_emod_of_nonneg hub.1
 have hw2:uu.tdiv 4=uu / 4:=Int.tdiv_eq_ediv_of_nonneg hub.1
 have hw3:(uu / 4).tmod 4=uu / 4 % 4:=Int.tmod_eq_emod_of_nonneg (by omega)
 have hw4:uu.tdiv 16=uu / 16:=Int.tdiv_eq_ediv_of_nonneg hub.1
 have hw5:(uu / 16).tmod 2=uu / 16 % 2:=Int.tmod_eq_emod_of_nonneg (by omega)
 have hww2:IntKind.i64.wrap (uu / 4)=uu / 4:=by rw[IntKind.wrap_i64];omega
 have hww4:IntKind.i64.wrap (uu / 16)=uu / 16:=by rw[IntKind.wrap_i64];omega
 clear huu
 have HS:Hid (Pl.setsD ⟨(op:Int),d,a,b,n,sym,args⟩=if uu % 4=0 then -1 else d):=by
  show Pl.setsD _=_
  unfold Pl.setsD
  simp only[Int.toNat_natCast,HUU.out]
 by_cases e1:uu % 4=0
 ·have e2:(uu % 4 == 0)=true:=by rw[e1];rfl
  rw[HS.out,if_pos e1]
  clear e1
  go_enter Tryz.func53,Tryz.ntmps53
  go_wp2_with fail
  refine ty_at fun u0 hu0=>?_
  have H0:Hid (Below w.heap.size w u0/\u0.heap[w.heap.size]?=some (.cells #[.int .i64 (op:Int),.int .i64 d,.int .i64 a,.int .i64 b,.int .i64 n,.string sym,.slice qa ql qc] 81)):=by
   refine⟨by rw[hu0];exact below_alloc _ _,by rw[hu0];exact heap_alloc_new w _⟩
  clear hu0
  refine (l10Fields_any op h16 u0).mono ?_
  rintro e u1 ⟨rfl,d1⟩
  rw[HUU.out]
  have H1:Hid (Below w.heap.size w u1/\u1.heap[w.heap.size]?=some (.cells #[.int .i64 (op:Int),.int .i64 d,.int .i64 a,.int .i64 b,.int .i64 n,.string sym,.slice qa ql qc] 81)):=⟨H0.out.1.trans (d1.mono H0.out.1.size),(d1.block _ (Array.getElem?_eq_some_iff.1 H0.out.2).1).trans H0.out.2⟩
  have c1:u1.cell? ⟨w.heap.size,1,none⟩=some (.int .i64 d):=by rw[cell_of_row u1 _ 1 _ _ (0,0) H1.out.2];rfl
  have c2:u1.cell? ⟨w.heap.size,2,none⟩=some (.int .i64 a):=by rw[cell_of_row u1 _ 2 _ _ (0,0) H1.out.2];rfl
  have c3:u1.cell? ⟨w.heap.size,3,none⟩=some (.int .i64 b):=by rw[cell_of_row u1 _ 3 _ _ (0,0) H1.out.2];rfl
  have c6:u1.cell? ⟨w.heap.size,6,none⟩=some (.slice qa ql qc):=by rw[cell_of_row u1 _ 6 _ _ (0,0) H1.out.2];rfl
  clear d1
  go_wp2_with fail
  go_ret
  exact⟨rfl,H1.out.1⟩
 ·have e2:(uu % 4 == 0)=false:=by rw[beq_eq_false_iff_ne];exact e1
  rw[HS.out,if_neg e1]
  clear e1
  go_enter Tryz.func53,Tryz.ntmps53
  go_wp2_with fail
  refine ty_at fun u0 hu0=>?_
  have H0:Hid (Below w.heap.size w u0/\u0.heap[w.heap.size]?=some (.cells #[.int .i64 (op:Int),.int .i64 d,.int .i64 a,.int .i64 b,.int .i64 n,.string sym,.slice qa ql qc] 81)):=by
   refine⟨by rw[hu0];exact below_alloc _ _,by rw[hu0];exact heap_alloc_new w _⟩
  clear hu0
  refine (l10Fields_any op h16 u0).mono ?_
  rintro e u1 ⟨rfl,d1⟩
  rw[HUU.out]
  have H1:Hid (Below w.heap.size w u1/\u1.heap[w.heap.size]?=some (.cells #[.int .i64 (op:Int),.int .i64 d,.int .i64 a,.int .i64 b,.int .i64 n,.string sym,.slice qa ql qc] 81)):=⟨H0.out.1.trans (d1.mono H0.out.1.size),(d1.block _ (Array.getElem?_eq_some_iff.1 H0.out.2).1).trans H0.out.2⟩
  have c1:u1.cell? ⟨w.heap.size,1,none⟩=some (.int .i64 d):=by rw[cell_of_row u1 _ 1 _ _ (0,0) H1.out.2];rfl
  have c2:u1.cell? ⟨w.heap.size,2,none⟩=some (.int .i64 a):=by rw[cell_of_row u1 _ 2 _ _ (0,0) H1.out.2];rfl
  have c3:u1.cell? ⟨w.heap.size,3,none⟩=some (.int .i64 b):=by rw[cell_of_row u1 _ 3 _ _ (0,0) H1.out.2];rfl
  have c6:u1.cell? ⟨w.heap.size,6,none⟩=some (.slice qa ql qc):=by rw[cell_of_row u1 _ 6 _ _ (0,0) H1.out.2];rfl
  clear d1
  go_wp2_with fail
  go_ret
  exact⟨rfl,H1.out.1⟩
theorem own_shapeL {base:Nat} {e:TypeId} {k:Nat} {v:Value} {n:Nat} {xs:List Value} {w:World} (h:w.ownsRow base e k v n xs):∃ (a:Option Addr) (c:Nat),v=.slice a n c:=by
 rcases h.2 with ⟨q,q2⟩ | ⟨g,cap,cur,h0,_⟩
 ·exact⟨none,0,by rw[q,q2]⟩
 ·exact⟨_,cap,h0⟩
theorem own_lowL {base base':Nat} {e:TypeId} {k:Nat} {v:Value} {n:Nat} {xs:List Value} {w:World} (h:w.ownsRow base e k v n xs) (hl:base'<=base):w.ownsRow base' e k v n xs:=by
 refine⟨h.1,?_⟩
 rcases h.2 with q | ⟨g,cap,cur,h0,hlo,r⟩
 ·exact .inl q
 ·exact .inr ⟨g,cap,cur,h0,Nat.le_trans hl hlo,r⟩
theorem one_newsL (w:World) (A:Value) (t:TypeId) (j:Nat) (u:Value) (hj:[A][j]?=some u):(w.alloc (.cells #[A] t)).cell? ((⟨w.heap.size,0,none⟩:Addr).add j)=some u:=by
 cases j with
 | zero=>exact World.news_of_block (heap_alloc_new w (.cells #[A] t)) 0 u hj
 | succ j=>simp at hj
set_option maxRecDepth 8000 in
theorem l11Uses_any {lo:Nat} (x:Pl.IrI) (q:SV) (h1:0<=x.op) (h16:x.op<=16) (w:World) (hq:Row .i64 lo w q.a q.len q.cap x.args) (hs:q.len<=8):Calls Tryz.prog 52 #[.agg #[.int .i64 x.op,.int .i64 x.d,.int .i64 x.a,.int .i64 x.b,.int .i64 x.n,.string x.sym,.slice q.a q.len q.cap]] w fun e w'=>Ints w.heap.size (Pl.usesD x) e w'/\Below w.heap.size w w':=by
 obtain⟨i0,hi,hz0,hz1,hz2⟩:=info_parts Tryz.infoi64
 have HI:Hid (_/\_/\_/\_):=⟨hi,hz0,hz1,hz2⟩
 clear hi hz0 hz1 hz2
 obtain⟨o,d,a,b,n,sym,args⟩:=x
 obtain⟨qa,ql,qc⟩:=q
 simp only at h1 h16 hq hs ⊢
 obtain⟨op,rfl⟩:∃ op:Nat,o=op:=⟨o.toNat,by omega⟩
 have h16:op<=16:=by omega
 obtain⟨uu,huu⟩:∃ uu,uu=Pl.irTab.getD op 0:=⟨_,rfl⟩
 have hub:=Pl.irTab_bd op h16
 rw[<- huu]at hub
 have HUU:Hid (Pl.irTab.getD op 0=uu):=huu.symm
 have hw1:uu.tmod 4=uu % 4:=Int.tmod_eq_emod_of_nonneg hub.1
 have hw2:uu.tdiv 4=uu / 4:=Int.tdiv_eq_ediv_of_nonneg hub.1
 have hw3:(uu / 4).tmod 4=uu / 4 % 4:=Int.tmod_eq_emod_of_nonneg (by omega)
 have hw4:uu.tdiv 16=uu / 16:=Int.tdiv_eq_ediv_of_nonneg hub.1
 have hw5:(uu / 16).tmod 2=uu / 16 % 2:=Int.tmod_eq_emod_of_nonneg (by omega)
 have hww2:IntKind.i64.wrap (uu / 4)=uu / 4:=by rw[IntKind.wrap_i64];omega
 have hww4:IntKind.i64.wrap (uu / 16)=uu / 16:=by rw[IntKind.wrap_i64];omega
 clear huu
 have hal:args.length<=8:=by rw[hq.1];exact hs
 have HQ:Hid (Row .i64 lo w qa ql qc args/\args.length=ql):=⟨hq,hq.1⟩
 clear hq
 have HS:Hid (Pl.usesD ⟨(op:Int),d,a,b,n,sym,args⟩=args ++ (if 0<uu / 4 % 4/\0<=a then [a] else []) ++ (if uu / 16 % 2=1 then [b] else [])):=by
  show Pl.usesD _=_
  unfold Pl.usesD
  simp only[Int.toNat_natCast,HUU.out]
 rw[HS.out]
 clear HS
 obtain⟨res,hres⟩:∃ res,res=args ++ (if 0<uu / 4 % 4/\0<=a then [a] else []) ++ (if uu / 16 % 2=1 then [b] else []):=⟨_,rfl⟩
 rw[<- hres]
 have HR:Hid (res=args ++ (if 0<uu / 4 % 4/\0<=a then [a] else []) ++ (if uu / 16 % 2=1 then [b] else [])):=hres
 clear hres
 by_cases p1:0<uu / 4 % 4
 ·by_cases p2:0<=a
  ·by_cases p3:uu / 16 % 2=1
   ·have e1:decide (0<uu / 4 % 4)=true:=decide_eq_true p1
    have e2:decide (0<=a)=true:=decide_eq_true p2
    have e3:(uu / 16 % 2 == 1)=true:=by rw[p3];rfl
    go_enter Tryz.func52,Tryz.ntmps52
    go_wp2_with fail
    refine ty_at fun u0 hu0=>?_
    have HX0:Hid (Below w.heap.size w u0/\u0.heap[w.heap.size]?=some (.cells #[.int .i64 (op:Int),.int .i64 d,.int .i64 a,.int .i64 b,.int .i64 n,.string sym,.slice qa ql qc] 81)/\u0.heap.size=w.heap.size+1):=by
     refine⟨by rw[hu0];exact below_alloc _ _,by rw[hu0];exact heap_alloc_new w _,by rw[hu0];simp⟩
    clear hu0
    refine (l10Fields_any op h16 u0).mono ?_
    rintro e u1 ⟨rfl,d1⟩
    rw[HUU.out]
    have H1:Hid (Below (w.heap.size+1) u0 u1/\u1.heap[w.heap.size]?=some (.cells #[.int .i64 (op:Int),.int .i64 d,.int .i64 a,.int .i64 b,.int .i64 n,.string sym,.slice qa ql qc] 81)/\w.heap.size+1<=u1.heap.size):=by
     have q:Below (w.heap.size+1) u0 u1:=d1.mono (by have:=HX0.out.2.2;omega)
     exact⟨q,(q.block _ (by omega)).trans HX0.out.2.1,by have:=q.size;have:=HX0.out.2.2;omega⟩
    have c6:u1.cell? ⟨w.heap.size,6,none⟩=some (.slice qa ql qc):=by rw[cell_of_row u1 _ 6 _ _ (0,0) H1.out.2.1];rfl
    clear d1
    go_wp2_with fail
    refine (l3Ints_rowL qa ql qc args u1 (HQ.out.1.keep (HX0.out.1.trans (H1.out.1.mono (by omega)))) (by omega)).mono ?_
    rintro e u2 ⟨a2,cp2,rfl,o2,d2⟩
    have O2:Hid (u2.ownsRow (w.heap.size+1) 3 1 (.slice a2 args.length cp2) args.length (args.map (Value.int .i64))):=by
     have:=(o2.lower (lo':=w.heap.size+1) H1.out.2.2).1
     rw[<- HQ.out.2]at this;exact this
    have H2:Hid (Below (w.heap.size+1) u0 u2/\u2.heap[w.heap.size]?=some (.cells #[.int .i64 (op:Int),.int .i64 d,.int .i64 a,.int .i64 b,.int .i64 n,.string sym,.slice qa ql qc] 81)/\w.heap.size+1<=u2.heap.size):=by
     have q:Below (w.heap.size+1) u0 u2:=H1.out.1.trans (d2.mono H1.out.2.2)
     exact⟨q,(q.block _ (by omega)).trans HX0.out.2.1,by have:=q.size;have:=HX0.out.2.2;omega⟩
    rw[<- HQ.out.2]
    clear o2 d2 c6
    have c2:u2.cell? ⟨w.heap.size,2,none⟩=some (.int .i64 a):=by rw[cell_of_row u2 _ 2 _ _ (0,0) H2.out.2.1];rfl
    have c3:u2.cell? ⟨w.heap.size,3,none⟩=some (.int .i64 b):=by rw[cell_of_row u2 _ 3 _ _ (0,0) H2.out.2.1];rfl
    go_wp2_with (at_builtin;refine wpList_append_own _ rfl (.tmp 20) (.tmp 23) 22 rfl (w.heap.size+1) 3 i0 (.int .i64 0) 1 8 Tryz.underlying22 HI.out.1 HI.out.2.1 HI.out.2.2.1 HI.out.2.2.2 rfl (by decide) _ args.length (args.map (Value.int .i64)) rfl (World.ownsRow.alloc O2.out _) ⟨u2.heap.size,0,none⟩ 1 1 [.int .i64 a] rfl rfl (one_newsL u2 _ _) (by intro u hu;simp at hu;subst hu;rfl) (by unfold maxLen;simp;omega) (by omega) (by have:=H2.out.1.size;have:=H2.out.2.2;simp;omega) ?_)
    intro v' u3 hown' hgr _
    have O3:Hid (u3.ownsRow (w.heap.size+1) 3 1 v' (args ++ [a]).length ((args ++ [a]).map (Value.int .i64))):=by rw[List.map_append,List.length_append];exact hown'
    have H3:Hid (Below (w.heap.size+1) u0 u3/\u3.heap[w.heap.size]?=some (.cells #[.int .i64 (op:Int),.int .i64 d,.int .i64 a,.int .i64 b,.int .i64 n,.string sym,.slice qa ql qc] 81)/\w.heap.size+1<=u3.heap.size):=by
     have q:Below (w.heap.size+1) u0 u3:=(H2.out.1.trans ((below_alloc u2 _).mono (by have:=H2.out.2.2;omega))).grown hgr (by have:=H2.out.2.2;simp;omega) (fun k hk=>(O2.out.lt k hk).1)
     exact⟨q,(q.block _ (by omega)).trans HX0.out.2.1,by have:=q.size;have:=HX0.out.2.2;omega⟩
    clear hown' hgr
    obtain⟨ys0,hys0⟩:∃ ys,ys=args ++ [a]:=⟨_,rfl⟩
    have hyl0:ys0.length<=9:=by rw[hys0];simp;omega
    rw[<- hys0]at O3
    have HY0:Hid (ys0=args ++ [a]):=hys0
    clear hys0
    obtain⟨_,_,hv4⟩:=own_shapeL O3.out
    subst hv4
    have c2:u3.cell? ⟨w.heap.size,2,none⟩=some (.int .i64 a):=by rw[cell_of_row u3 _ 2 _ _ (0,0) H3.out.2.1];rfl
    have c3:u3.cell? ⟨w.heap.size,3,none⟩=some (.int .i64 b):=by rw[cell_of_row u3 _ 3 _ _ (0,0) H3.out.2.1];rfl
    go_wp2_with (at_builtin;refine wpList_append_own _ rfl (.tmp 29) (.tmp 32) 22 rfl (w.heap.size+1) 3 i0 (.int .i64 0) 1 8 Tryz.underlying22 HI.out.1 HI.out.2.1 HI.out.2.2.1 HI.out.2.2.2 rfl (by decide) _ ys0.length (ys0.map (Value.int .i64)) rfl (World.ownsRow.alloc O3.out _) ⟨u3.heap.size,0,none⟩ 1 1 [.int .i64 b] rfl rfl (one_newsL u3 _ _) (by intro u hu;simp at hu;subst hu;rfl) (by unfold maxLen;simp;omega) (by omega) (by have:=H3.out.1.size;have:=H3.out.2.2;simp;omega) ?_)
    intro v' u4 hown' hgr _
    have O4:Hid (u4.ownsRow (w.heap.size+1) 3 1 v' (ys0 ++ [b]).length ((ys0 ++ [b]).map (Value.int .i64))):=by rw[List.map_append,List.length_append];exact hown'
    have H4:Hid (Below (w.heap.size+1) u0 u4/\u4.heap[w.heap.size]?=some (.cells #[.int .i64 (op:Int),.int .i64 d,.int .i64 a,.int .i64 b,.int .i64 n,.string sym,.slice qa ql qc] 81)/\w.heap.size+1<=u4.heap.size):=by
     have q:Below (w.heap.size+1) u0 u4:=(H3.out.1.trans ((below_alloc u3 _).mono (by have:=H3.out.2.2;omega))).grown hgr (by have:=H3.out.2.2;simp;omega) (fun k hk=>(O3.out.lt k hk).1)
     exact⟨q,(q.block _ (by omega)).trans HX0.out.2.1,by have:=q.size;have:=HX0.out.2.2;omega⟩
    clear hown' hgr
    obtain⟨ys1,hys1⟩:∃ ys,ys=ys0 ++ [b]:=⟨_,rfl⟩
    have hyl1:ys1.length<=10:=by rw[hys1];simp;omega
    rw[<- hys1]at O4
    have HY1:Hid (ys1=ys0 ++ [b]):=hys1
    clear hys1
    obtain⟨_,_,hv4⟩:=own_shapeL O4.out
    subst hv4
    have c2:u4.cell? ⟨w.heap.size,2,none⟩=some (.int .i64 a):=by rw[cell_of_row u4 _ 2 _ _ (0,0) H4.out.2.1];rfl
    have c3:u4.cell? ⟨w.heap.size,3,none⟩=some (.int .i64 b):=by rw[cell_of_row u4 _ 3 _ _ (0,0) H4.out.2.1];rfl
    go_wp2_with fail
    go_ret
    have q:Below w.heap.size w u4:=HX0.out.1.trans (H4.out.1.mono (by omega))
    refine⟨?_,q⟩
    rw[show res=ys1 from by rw[HR.out];rw[HY1.out];rw[HY0.out];simp[p1,p2,p3]]
    exact⟨_,_,rfl,own_lowL O4.out (by omega)⟩
   ·have e1:decide (0<uu / 4 % 4)=true:=decide_eq_true p1
    have e2:decide (0<=a)=true:=decide_eq_true p2
    have e3:(uu / 16 % 2 == 1)=false:=by rw[beq_eq_false_iff_ne];exact p3
    go_enter Tryz.func52,Tryz.ntmps52
    go_wp2_with fail
    refine ty_at fun u0 hu0=>?_
    have HX0:Hid (Below w.heap.size w u0/\u0.heap[w.heap.size]?=some (.cells #[.int .i64 (op:Int),.int .i64 d,.int .i64 a,.int .i64 b,.int .i64 n,.string sym,.slice qa ql qc] 81)/\u0.heap.size=w.heap.size+1):=by
     refine⟨by rw[hu0];exact below_alloc _ _,by rw[hu0];exact heap_alloc_new w _,by rw[hu0];simp⟩
    clear hu0
    refine (l10Fields_any op h16 u0).mono ?_
    rintro e u1 ⟨rfl,d1⟩
    rw[HUU.out]
    have H1:Hid (Below (w.heap.size+1) u0 u1/\u1.heap[w.heap.size]?=some (.cells #[.int .i64 (op:Int),.int .i64 d,.int .i64 a,.int .i64 b,.int .i64 n,.string sym,.slice qa ql qc] 81)/\w.heap.size+1<=u1.heap.size):=by
     have q:Below (w.heap.size+1) u0 u1:=d1.mono (by have:=HX0.out.2.2;omega)
     exact⟨q,(q.block _ (by omega)).trans HX0.out.2.1,by have:=q.size;have:=HX0.out.2.2;omega⟩
    have c6:u1.cell? ⟨w.heap.size,6,none⟩=some (.slice qa ql qc):=by rw[cell_of_row u1 _ 6 _ _ (0,0) H1.out.2.1];rfl
    clear d1
    go_wp2_with fail
    refine (l3Ints_rowL qa ql qc args u1 (HQ.out.1.keep (HX0.out.1.trans (H1.out.1.mono (by omega)))) (by omega)).mono ?_
    rintro e u2 ⟨a2,cp2,rfl,o2,d2⟩
    have O2:Hid (u2.ownsRow (w.heap.size+1) 3 1 (.slice a2 args.length cp2) args.length (args.map (Value.int .i64))):=by
     have:=(o2.lower (lo':=w.heap.size+1) H1.out.2.2).1
     rw[<- HQ.out.2]at this;exact this
    have H2:Hid (Below (w.heap.size+1) u0 u2/\u2.heap[w.heap.size]?=some (.cells #[.int .i64 (op:Int),.int .i64 d,.int .i64 a,.int .i64 b,.int .i64 n,.string sym,.slice qa ql qc] 81)/\w.heap.size+1<=u2.heap.size):=by
     have q:Below (w.heap.size+1) u0 u2:=H1.out.1.trans (d2.mono H1.out.2.2)
     exact⟨q,(q.block _ (by omega)).trans HX0.out.2.1,by have:=q.size;have:=HX0.out.2.2;omega⟩
    rw[<- HQ.out.2]
    clear o2 d2 c6
    have c2:u2.cell? ⟨w.heap.size,2,none⟩=some (.int .i64 a):=by rw[cell_of_row u2 _ 2 _ _ (0,0) H2.out.2.1];rfl
    have c3:u2.cell? ⟨w.heap.size,3,none⟩=some (.int .i64 b):=by rw[cell_of_row u2 _ 3 _ _ (0,0) H2.out.2.1];rfl
    go_wp2_with (at_builtin;refine wpList_append_own _ rfl (.tmp 20) (.tmp 23) 22 rfl (w.heap.size+1) 3 i0 (.int .i64 0) 1 8 Tryz.underlying22 HI.out.1 HI.out.2.1 HI.out.2.2.1 HI.out.2.2.2 rfl (by decide) _ args.length (args.map (Value.int .i64)) rfl (World.ownsRow.alloc O2.out _) ⟨u2.heap.size,0,none⟩ 1 1 [.int .i64 a] rfl rfl (one_newsL u2 _ _) (by intro u hu;simp at hu;subst hu;rfl) (by unfold maxLen;simp;omega) (by omega) (by have:=H2.out.1.size;have:=H2.out.2.2;simp;omega) ?_)
    intro v' u3 hown' hgr _
    have O3:Hid (u3.ownsRow (w.heap.size+1) 3 1 v' (args ++ [a]).length ((args ++ [a]).map (Value.int .i64))):=by rw[List.map_append,List.length_append];exact hown'
    have H3:Hid (Below (w.heap.size+1) u0 u3/\u3.heap[w.heap.size]?=some (.cells #[.int .i64 (op:Int),.int .i64 d,.int .i64 a,.int .i64 b,.int .i64 n,.string sym,.slice qa ql qc] 81)/\w.heap.size+1<=u3.heap.size):=by
     have q:Below (w.heap.size+1) u0 u3:=(H2.out.1.trans ((below_alloc u2 _).mono (by have:=H2.out.2.2;omega))).grown hgr (by have:=H2.out.2.2;simp;omega) (fun k hk=>(O2.out.lt k hk).1)
     exact⟨q,(q.block _ (by omega)).trans HX0.out.2.1,by have:=q.size;have:=HX0.out.2.2;omega⟩
    clear hown' hgr
    obtain⟨ys0,hys0⟩:∃ ys,ys=args ++ [a]:=⟨_,rfl⟩
    have hyl0:ys0.length<=9:=by rw[hys0];simp;omega
    rw[<- hys0]at O3
    have HY0:Hid (ys0=args ++ [a]):=hys0
    clear hys0
    obtain⟨_,_,hv4⟩:=own_shapeL O3.out
    subst hv4
    have c2:u3.cell? ⟨w.heap.size,2,none⟩=some (.int .i64 a):=by rw[cell_of_row u3 _ 2 _ _ (0,0) H3.out.2.1];rfl
    have c3:u3.cell? ⟨w.heap.size,3,none⟩=some (.int .i64 b):=by rw[cell_of_row u3 _ 3 _ _ (0,0) H3.out.2.1];rfl
    go_wp2_with fail
    go_ret
    have q:Below w.heap.size w u3:=HX0.out.1.trans (H3.out.1.mono (by omega))
    refine⟨?_,q⟩
    rw[show res=ys0 from by rw[HR.out];rw[HY0.out];simp[p1,p2,p3]]
    exact⟨_,_,rfl,own_lowL O3.out (by omega)⟩
  ·by_cases p3:uu / 16 % 2=1
   ·have e1:decide (0<uu / 4 % 4)=true:=decide_eq_true p1
    have e2:decide (0<=a)=false:=decide_eq_false p2
    have e3:(uu / 16 % 2 == 1)=true:=by rw[p3];rfl
    go_enter Tryz.func52,Tryz.ntmps52
    go_wp2_with fail
    refine ty_at fun u0 hu0=>?_
    have HX0:Hid (Below w.heap.size w u0/\u0.heap[w.heap.size]?=some (.cells #[.int .i64 (op:Int),.int .i64 d,.int .i64 a,.int .i64 b,.int .i64 n,.string sym,.slice qa ql qc] 81)/\u0.heap.size=w.heap.size+1):=by
     refine⟨by rw[hu0];exact below_alloc _ _,by rw[hu0];exact heap_alloc_new w _,by rw[hu0];simp⟩
    clear hu0
    refine (l10Fields_any op h16 u0).mono ?_
    rintro e u1 ⟨rfl,d1⟩
    rw[HUU.out]
    have H1:Hid (Below (w.heap.size+1) u0 u1/\u1.heap[w.heap.size]?=some (.cells #[.int .i64 (op:Int),.int .i64 d,.int .i64 a,.int .i64 b,.int .i64 n,.string sym,.slice qa ql qc] 81)/\w.heap.size+1<=u1.heap.size):=by
     have q:Below (w.heap.size+1) u0 u1:=d1.mono (by have:=HX0.out.2.2;omega)
     exact⟨q,(q.block _ (by omega)).trans HX0.out.2.1,by have:=q.size;have:=HX0.out.2.2;omega⟩
    have c6:u1.cell? ⟨w.heap.size,6,none⟩=some (.slice qa ql qc):=by rw[cell_of_row u1 _ 6 _ _ (0,0) H1.out.2.1];rfl
    clear d1
    go_wp2_with fail
    refine (l3Ints_rowL qa ql qc args u1 (HQ.out.1.keep (HX0.out.1.trans (H1.out.1.mono (by omega)))) (by omega)).mono ?_
    rintro e u2 ⟨a2,cp2,rfl,o2,d2⟩
    have O2:Hid (u2.ownsRow (w.heap.size+1) 3 1 (.slice a2 args.length cp2) args.length (args.map (Value.int .i64))):=by
     have:=(o2.lower (lo':=w.heap.size+1) H1.out.2.2).1
     rw[<- HQ.out.2]at this;exact this
    have H2:Hid (Below (w.heap.size+1) u0 u2/\u2.heap[w.heap.size]?=some (.cells #[.int .i64 (op:Int),.int .i64 d,.int .i64 a,.int .i64 b,.int .i64 n,.string sym,.slice qa ql qc] 81)/\w.heap.size+1<=u2.heap.size):=by
     have q:Below (w.heap.size+1) u0 u2:=H1.out.1.trans (d2.mono H1.out.2.2)
     exact⟨q,(q.block _ (by omega)).trans HX0.out.2.1,by have:=q.size;have:=HX0.out.2.2;omega⟩
    rw[<- HQ.out.2]
    clear o2 d2 c6
    have c2:u2.cell? ⟨w.heap.size,2,none⟩=some (.int .i64 a):=by rw[cell_of_row u2 _ 2 _ _ (0,0) H2.out.2.1];rfl
    have c3:u2.cell? ⟨w.heap.size,3,none⟩=some (.int .i64 b):=by rw[cell_of_row u2 _ 3 _ _ (0,0) H2.out.2.1];rfl
    go_wp2_with (at_builtin;refine wpList_append_own _ rfl (.tmp 29) (.tmp 32) 22 rfl (w.heap.size+1) 3 i0 (.int .i64 0) 1 8 Tryz.underlying22 HI.out.1 HI.out.2.1 HI.out.2.2.1 HI.out.2.2.2 rfl (by decide) _ args.length (args.map (Value.int .i64)) rfl (World.ownsRow.alloc O2.out _) ⟨u2.heap.size,0,none⟩ 1 1 [.int .i64 b] rfl rfl (one_newsL u2 _ _) (by intro u hu;simp at hu;subst hu;rfl) (by unfold maxLen;simp;omega) (by omega) (by have:=H2.out.1.size;have:=H2.out.2.2;simp;omega) ?_)
    intro v' u4 hown' hgr _
    have O4:Hid (u4.ownsRow (w.heap.size+1) 3 1 v' (args ++ [b]).length ((args ++ [b]).map (Value.int .i64))):=by rw[List.map_append,List.length_append];exact hown'
    have H4:Hid (Below (w.heap.size+1) u0 u4/\u4.heap[w.heap.size]?=some (.cells #[.int .i64 (op:Int),.int .i64 d,.int .i64 a,.int .i64 b,.int .i64 n,.string sym,.slice qa ql qc] 81)/\w.heap.size+1<=u4.heap.size):=by
     have q:Below (w.heap.size+1) u0 u4:=(H2.out.1.trans ((below_alloc u2 _).mono (by have:=H2.out.2.2;omega))).grown hgr (by have:=H2.out.2.2;simp;omega) (fun k hk=>(O2.out.lt k hk).1)
     exact⟨q,(q.block _ (by omega)).trans HX0.out.2.1,by have:=q.size;have:=HX0.out.2.2;omega⟩
    clear hown' hgr
    obtain⟨ys1,hys1⟩:∃ ys,ys=args ++ [b]:=⟨_,rfl⟩
    have hyl1:ys1.length<=10:=by rw[hys1];simp;omega
    rw[<- hys1]at O4
    have HY1:Hid (ys1=args ++ [b]):=hys1
    clear hys1
    obtain⟨_,_,hv4⟩:=own_shapeL O4.out
    subst hv4
    have c2:u4.cell? ⟨w.heap.size,2,none⟩=some (.int .i64 a):=by rw[cell_of_row u4 _ 2 _ _ (0,0) H4.out.2.1];rfl
    have c3:u4.cell? ⟨w.heap.size,3,none⟩=some (.int .i64 b):=by rw[cell_of_row u4 _ 3 _ _ (0,0) H4.out.2.1];rfl
    go_wp2_with fail
    go_ret
    have q:Below w.heap.size w u4:=HX0.out.1.trans (H4.out.1.mono (by omega))
    refine⟨?_,q⟩
    rw[show res=ys1 from by rw[HR.out];rw[HY1.out];simp[p1,p2,p3]]
    exact⟨_,_,rfl,own_lowL O4.out (by omega)⟩
   ·have e1:decide (0<uu / 4 % 4)=true:=decide_eq_true p1
    have e2:decide (0<=a)=false:=decide_eq_false p2
    have e3:(uu / 16 % 2 == 1)=false:=by rw[beq_eq_false_iff_ne];exact p3
    go_enter Tryz.func52,Tryz.ntmps52
    go_wp2_with fail
    refine ty_at fun u0 hu0=>?_
    have HX0:Hid (Below w.heap.size w u0/\u0.heap[w.heap.size]?=some (.cells #[.int .i64 (op:Int),.int .i64 d,.int .i64 a,.int .i64 b,.int .i64 n,.string sym,.slice qa ql qc] 81)/\u0.heap.size=w.heap.size+1):=by
     refine⟨by rw[hu0];exact below_alloc _ _,by rw[hu0];exact heap_alloc_new w _,by rw[hu0];simp⟩
    clear hu0
    refine (l10Fields_any op h16 u0).mono ?_
    rintro e u1 ⟨rfl,d1⟩
    rw[HUU.out]
    have H1:Hid (Below (w.heap.size+1) u0 u1/\u1.heap[w.heap.size]?=some (.cells #[.int .i64 (op:Int),.int .i64 d,.int .i64 a,.int .i64 b,.int .i64 n,.string sym,.slice qa ql qc] 81)/\w.heap.size+1<=u1.heap.size):=by
     have q:Below (w.heap.size+1) u0 u1:=d1.mono (by have:=HX0.out.2.2;omega)
     exact⟨q,(q.block _ (by omega)).trans HX0.out.2.1,by have:=q.size;have:=HX0.out.2.2;omega⟩
    have c6:u1.cell? ⟨w.heap.size,6,none⟩=some (.slice qa ql qc):=by rw[cell_of_row u1 _ 6 _ _ (0,0) H1.out.2.1];rfl
    clear d1
    go_wp2_with fail
    refine (l3Ints_rowL qa ql qc args u1 (HQ.out.1.keep (HX0.out.1.trans (H1.out.1.mono (by omega)))) (by omega)).mono ?_
    rintro e u2 ⟨a2,cp2,rfl,o2,d2⟩
    have O2:Hid (u2.ownsRow (w.heap.size+1) 3 1 (.slice a2 args.length cp2) args.length (args.map (Value.int .i64))):=by
     have:=(o2.lower (lo':=w.heap.size+1) H1.out.2.2).1
     rw[<- HQ.out.2]at this;exact this
    have H2:Hid (Below (w.heap.size+1) u0 u2/\u2.heap[w.heap.size]?=some (.cells #[.int .i64 (op:Int),.int .i64 d,.int .i64 a,.int .i64 b,.int .i64 n,.string sym,.slice qa ql qc] 81)/\w.heap.size+1<=u2.heap.size):=by
     have q:Below (w.heap.size+1) u0 u2:=H1.out.1.trans (d2.mono H1.out.2.2)
     exact⟨q,(q.block _ (by omega)).trans HX0.out.2.1,by have:=q.size;have:=HX0.out.2.2;omega⟩
    rw[<- HQ.out.2]
    clear o2 d2 c6
    have c2:u2.cell? ⟨w.heap.size,2,none⟩=some (.int .i64 a):=by rw[cell_of_row u2 _ 2 _ _ (0,0) H2.out.2.1];rfl
    have c3:u2.cell? ⟨w.heap.size,3,none⟩=some (.int .i64 b):=by rw[cell_of_row u2 _ 3 _ _ (0,0) H2.out.2.1];rfl
    go_wp2_with fail
    go_ret
    have q:Below w.heap.size w u2:=HX0.out.1.trans (H2.out.1.mono (by omega))
    refine⟨?_,q⟩
    rw[show res=args from by rw[HR.out];simp[p1,p2,p3]]
    exact⟨_,_,rfl,own_lowL O2.out (by omega)⟩
 ·by_cases p3:uu / 16 % 2=1
  ·have e1:decide (0<uu / 4 % 4)=false:=decide_eq_false p1
   have e3:(uu / 16 % 2 == 1)=true:=by rw[p3];rfl
   go_enter Tryz.func52,Tryz.ntmps52
   go_wp2_with fail
   refine ty_at fun u0 hu0=>?_
   have HX0:Hid (Below w.heap.size w u0/\u0.heap[w.heap.size]?=some (.cells #[.int .i64 (op:Int),.int .i64 d,.int .i64 a,.int .i64 b,.int .i64 n,.string sym,.slice qa ql qc] 81)/\u0.heap.size=w.heap.size+1):=by
    refine⟨by rw[hu0];exact below_alloc _ _,by rw[hu0];exact heap_alloc_new w _,by rw[hu0];simp⟩
   clear hu0
   refine (l10Fields_any op h16 u0).mono ?_
   rintro e u1 ⟨rfl,d1⟩
   rw[HUU.out]
   have H1:Hid (Below (w.heap.size+1) u0 u1/\u1.heap[w.heap.size]?=some (.cells #[.int .i64 (op:Int),.int .i64 d,.int .i64 a,.int .i64 b,.int .i64 n,.string sym,.slice qa ql qc] 81)/\w.heap.size+1<=u1.heap.size):=by
    have q:Below (w.heap.size+1) u0 u1:=d1.mono (by have:=HX0.out.2.2;omega)
    exact⟨q,(q.block _ (by omega)).trans HX0.out.2.1,by have:=q.size;have:=HX0.out.2.2;omega⟩
   have c6:u1.cell? ⟨w.heap.size,6,none⟩=some (.slice qa ql qc):=by rw[cell_of_row u1 _ 6 _ _ (0,0) H1.out.2.1];rfl
   clear d1
   go_wp2_with fail
   refine (l3Ints_rowL qa ql qc args u1 (HQ.out.1.keep (HX0.out.1.trans (H1.out.1.mono (by omega)))) (by omega)).mono ?_
   rintro e u2 ⟨a2,cp2,rfl,o2,d2⟩
   have O2:Hid (u2.ownsRow (w.heap.size+1) 3 1 (.slice a2 args.length cp2) args.length (args.map (Value.int .i64))):=by
    have:=(o2.lower (lo':=w.heap.size+1) H1.out.2.2).1
    rw[<- HQ.out.2]at this;exact this
   have H2:Hid (Below (w.heap.size+1) u0 u2/\u2.heap[w.heap.size]?=some (.cells #[.int .i64 (op:Int),.int .i64 d,.int .i64 a,.int .i64 b,.int .i64 n,.string sym,.slice qa ql qc] 81)/\w.heap.size+1<=u2.heap.size):=by
    have q:Below (w.heap.size+1) u0 u2:=H1.out.1.trans (d2.mono H1.out.2.2)
    exact⟨q,(q.block _ (by omega)).trans HX0.out.2.1,by have:=q.size;have:=HX0.out.2.2;omega⟩
   rw[<- HQ.out.2]
   clear o2 d2 c6
   have c2:u2.cell? ⟨w.heap.size,2,none⟩=some (.int .i64 a):=by rw[cell_of_row u2 _ 2 _ _ (0,0) H2.out.2.1];rfl
   have c3:u2.cell? ⟨w.heap.size,3,none⟩=some (.int .i64 b):=by rw[cell_of_row u2 _ 3 _ _ (0,0) H2.out.2.1];rfl
   go_wp2_with (at_builtin;refine wpList_append_own _ rfl (.tmp 29) (.tmp 32) 22 rfl (w.heap.size+1) 3 i0 (.int .i64 0) 1 8 Tryz.underlying22 HI.out.1 HI.out.2.1 HI.out.2.2.1 HI.out.2.2.2 rfl (by decide) _ args.length (args.map (Value.int .i64)) rfl (World.ownsRow.alloc O2.out _) ⟨u2.heap.size,0,none⟩ 1 1 [.int .i64 b] rfl rfl (one_newsL u2 _ _) (by intro u hu;simp at hu;subst hu;rfl) (by unfold maxLen;simp;omega) (by omega) (by have:=H2.out.1.size;have:=H2.out.2.2;simp;omega) ?_)
   intro v' u4 hown' hgr _
   have O4:Hid (u4.ownsRow (w.heap.size+1) 3 1 v' (args ++ [b]).length ((args ++ [b]).map (Value.int .i64))):=by rw[List.map_append,List.length_append];exact hown'
   have H4:Hid (Below (w.heap.size+1) u0 u4/\u4.heap[w.heap.size]?=some (.cells #[.int .i64 (op:Int),.int .i64 d,.int .i64 a,.int .i64 b,.int .i64 n,.string sym,.slice qa ql qc] 81)/\w.heap.size+1<=u4.heap.size):=by
    have q:Below (w.heap.size+1) u0 u4:=(H2.out.1.trans ((below_alloc u2 _).mono (by have:=H2.out.2.2;omega))).grown hgr (by have:=H2.out.2.2;simp;omega) (fun k hk=>(O2.out.lt k hk).1)
    exact⟨q,(q.block _ (by omega)).trans HX0.out.2.1,by have:=q.size;have:=HX0.out.2.2;omega⟩
   clear hown' hgr
   obtain⟨ys1,hys1⟩:∃ ys,ys=args ++ [b]:=⟨_,rfl⟩
   have hyl1:ys1.length<=10:=by rw[hys1];simp;omega
   rw[<- hys1]at O4
   have HY1:Hid (ys1=args ++ [b]):=hys1
   clear hys1
   obtain⟨_,_,hv4⟩:=own_shapeL O4.out
   subst hv4
   have c2:u4.cell? ⟨w.heap.size,2,none⟩=some (.int .i64 a):=by rw[cell_of_row u4 _ 2 _ _ (0,0) H4.out.2.1];rfl
   have c3:u4.cell? ⟨w.heap.size,3,none⟩=some (.int .i64 b):=by rw[cell_of_row u4 _ 3 _ _ (0,0) H4.out.2.1];rfl
   go_wp2_with fail
   go_ret
   have q:Below w.heap.size w u4:=HX0.out.1.trans (H4.out.1.mono (by omega))
   refine⟨?_,q⟩
   rw[show res=ys1 from by rw[HR.out];rw[HY1.out];rw[if_neg (fun c=>Int.not_lt.2 p1 c.1)];simp[p3]]
   exact⟨_,_,rfl,own_lowL O4.out (by omega)⟩
  ·have e1:decide (0<uu / 4 % 4)=false:=decide_eq_false p1
   have e3:(uu / 16 % 2 == 1)=false:=by rw[beq_eq_false_iff_ne];exact p3
   go_enter Tryz.func52,Tryz.ntmps52
   go_wp2_with fail
   refine ty_at fun u0 hu0=>?_
   have HX0:Hid (Below w.heap.size w u0/\u0.heap[w.heap.size]?=some (.cells #[.int .i64 (op:Int),.int .i64 d,.int .i64 a,.int .i64 b,.int .i64 n,.string sym,.slice qa ql qc] 81)/\u0.heap.size=w.heap.size+1):=by
    refine⟨by rw[hu0];exact below_alloc _ _,by rw[hu0];exact heap_alloc_new w _,by rw[hu0];simp⟩
   clear hu0
   refine (l10Fields_any op h16 u0).mono ?_
   rintro e u1 ⟨rfl,d1⟩
   rw[HUU.out]
   have H1:Hid (Below (w.heap.size+1) u0 u1/\u1.heap[w.heap.size]?=some (.cells #[.int .i64 (op:Int),.int .i64 d,.int .i64 a,.int .i64 b,.int .i64 n,.string sym,.slice qa ql qc] 81)/\w.heap.size+1<=u1.heap.size):=by
    have q:Below (w.heap.size+1) u0 u1:=d1.mono (by have:=HX0.out.2.2;omega)
    exact⟨q,(q.block _ (by omega)).trans HX0.out.2.1,by have:=q.size;have:=HX0.out.2.2;omega⟩
   have c6:u1.cell? ⟨w.heap.size,6,none⟩=some (.slice qa ql qc):=by rw[cell_of_row u1 _ 6 _ _ (0,0) H1.out.2.1];rfl
   clear d1
   go_wp2_with fail
   refine (l3Ints_rowL qa ql qc args u1 (HQ.out.1.keep (HX0.out.1.trans (H1.out.1.mono (by omega)))) (by omega)).mono ?_
   rintro e u2 ⟨a2,cp2,rfl,o2,d2⟩
   have O2:Hid (u2.ownsRow (w.heap.size+1) 3 1 (.slice a2 args.length cp2) args.length (args.map (Value.int .i64))):=by
    have:=(o2.lower (lo':=w.heap.size+1) H1.out.2.2).1
    rw[<- HQ.out.2]at this;exact this
   have H2:Hid (Below (w.heap.size+1) u0 u2/\u2.heap[w.heap.size]?=some (.cells #[.int .i64 (op:Int),.int .i64 d,.int .i64 a,.int .i64 b,.int .i64 n,.string sym,.slice qa ql qc] 81)/\w.heap.size+1<=u2.heap.size):=by
    have q:Below (w.heap.size+1) u0 u2:=H1.out.1.trans (d2.mono H1.out.2.2)
    exact⟨q,(q.block _ (by omega)).trans HX0.out.2.1,by have:=q.size;have:=HX0.out.2.2;omega⟩
   rw[<- HQ.out.2]
   clear o2 d2 c6
   have c2:u2.cell? ⟨w.heap.size,2,none⟩=some (.int .i64 a):=by rw[cell_of_row u2 _ 2 _ _ (0,0) H2.out.2.1];rfl
   have c3:u2.cell? ⟨w.heap.size,3,none⟩=some (.int .i64 b):=by rw[cell_of_row u2 _ 3 _ _ (0,0) H2.out.2.1];rfl
   go_wp2_with fail
   go_ret
   have q:Below w.heap.size w u2:=HX0.out.1.trans (H2.out.1.mono (by omega))
   refine⟨?_,q⟩
   rw[show res=args from by rw[HR.out];rw[if_neg (fun c=>Int.not_lt.2 p1 c.1)];simp[p3]]
   exact⟨_,_,rfl,own_lowL O2.out (by omega)⟩
end Go.Proofs.YtcgfgmlfbgbkfaaGreatDoor.W
namespace Go.Proofs.YtcgfgmlfbgbkfaaGreatDoor.Pl
def NxL (code:List IrI) (i:Nat) (ns:List Int):Prop:=ns.length<=2/\∀ j:Int,j∈ns↔∃ k:Nat,j=k/\Nx code i k
theorem labIs_nx {code:List IrI} (hu:∀ i j n,isLab code n i->isLab code n j->i=j) {n r:Int} (h:LabIs code n r) (hn:¬ LabIs code n (-1)) (j:Int):j=r↔∃ k:Nat,j=k/\isLab code n k:=by
 rcases h with ⟨rfl,h⟩ | ⟨i,hi,rfl,h1,h2⟩
 ·exact absurd (.inl ⟨rfl,h⟩) hn
 ·constructor
  ·rintro rfl;exact⟨i,rfl,h1⟩
  ·rintro⟨k,rfl,hk⟩; rw[hu k i n hk h1]
theorem lab_one {f:IrF} (hf:funOk f):∀ i j n,isLab f.code n i->isLab f.code n j->i=j:=by
 intro i j n hi hj
 have h1:=((hf.2.2.2 i (isLab_lt hi)).1 hi.1).2
 have h2:=((hf.2.2.2 j (isLab_lt hj)).1 hj.1).2
 rw[hi.2]at h1
 rw[hj.2]at h2
 have:=LabIs.fn h1 h2
 omega
end Go.Proofs.YtcgfgmlfbgbkfaaGreatDoor.Pl
namespace Go.Proofs.YtcgfgmlfbgbkfaaGreatDoor.W
open Go.RowKit
theorem lit0 (u:World) (base k:Nat) (hb:base<=u.heap.size) (hk:k=u.heap.size):(u.alloc (.cells #[] 3)).ownsRow base 3 1 (.slice (some ⟨k,0,none⟩) 0 0) 0 []:=by
 subst hk
 exact World.ownsRow_lit u #[] 0 hb (Nat.zero_le _) rfl
theorem lit1 (u:World) (base k:Nat) (x:Int) (hb:base<=u.heap.size) (hk:k=u.heap.size):(u.alloc (.cells #[.int .i64 x] 3)).ownsRow base 3 1 (.slice (some ⟨k,0,none⟩) 1 1) 1 [.int .i64 x]:=by
 subst hk
 exact World.ownsRow_lit u #[.int .i64 x] 1 hb (by unfold maxLen;decide) rfl
theorem lit2 (u:World) (base k:Nat) (x z:Int) (hb:base<=u.heap.size) (hk:k=u.heap.size):(u.alloc (.cells #[.int .i64 x,.int .i64 z] 3)).ownsRow base 3 1 (.slice (some ⟨k,0,none⟩) 2 2) 2 [.int .i64 x,.int .i64 z]:=by
 subst hk
 exact World.ownsRow_lit u #[.int .i64 x,.int .i64 z] 2 hb (by unfold maxLen;decide) rfl
set_option maxRecDepth 8000 in
theorem l11Next_any {lo:Nat} (f:Pl.IrF) (v s:SV) (i:Nat) (w:World) (h:IRow lo w s.a s.len s.cap f.code) (hf:Pl.funOk f) (hi:i<f.code.length):Calls Tryz.prog 51 #[.agg #[.string f.name,.int .i64 f.params,.int .i64 f.regs,.slice v.a v.len v.cap,.slice s.a s.len s.cap],.int .i64 i] w fun e w'=>(∃ ns,Pl.NxL f.code i ns/\Ints w.heap.size ns e w')/\Below w.heap.size w w':=by
 obtain⟨sa,sl,sc⟩:=s
 simp only at h ⊢
 have hm:(sl:Int)<=9223372036854775807:=by have:=h.small;omega
 have hl:f.code.length=sl:=h.1
 have hki:(i:Int)<(sl:Int):=by omega
 have hsz:sl<=8000:=by have:=hf.1.2.2.2.1.2;omega
 obtain⟨bb,off,y,rfl,_,hb,hc,_,_⟩:=h.at (show i<sl by omega)
 have HR:Hid (IRow lo w (some ⟨bb,off,none⟩) sl sc f.code):=h
 have HF:Hid (Pl.funOk f):=hf
 obtain⟨x,hx⟩:∃ x,x=f.code.getD i Pl.IrI.zero:=⟨_,rfl⟩
 rw[<- hx]at hc
 have HX:Hid (f.code.getD i Pl.IrI.zero=x):=hx.symm
 have HO:Hid (Pl.Nx f.code i=fun j=>if x.op=14 then False else if x.op=12 then Pl.isLab f.code x.n j else if x.op=13 then j=i+1\/Pl.isLab f.code x.n j else j=i+1):=by
  show Pl.Nx f.code i=_
  funext j
  unfold Pl.Nx
  rw[HX.out]
 have HL:Hid (x.op=12\/x.op=13->¬ Pl.LabIs f.code x.n (-1)):=by
  have:=(hf.2.2.2 i hi).2
  rw[HX.out]at this;exact this
 clear hx h hf hl hi
 have B2:∀ o1 o2:Obj,Below w.heap.size w ((w.alloc o1).alloc o2):=fun o1 o2=>(below_alloc w o1).trans ((below_alloc _ o2).mono (by simp))
 have B3:∀ o1 o2 o3:Obj,Below w.heap.size w (((w.alloc o1).alloc o2).alloc o3):=fun o1 o2 o3=>(B2 o1 o2).trans ((below_alloc _ o3).mono (by simp;omega))
 obtain⟨c0,c1,c2,c3,c4,c5,c6⟩:=iri_cells hc
 clear hc
 by_cases p14:x.op=14
 ·have e1:(x.op == 14)=true:=by rw[p14];rfl
  have HN:Hid (Pl.NxL f.code i []):=⟨by simp,fun j=>by rw[HO.out];simp[p14]⟩
  clear p14
  go_enter Tryz.func51,Tryz.ntmps51
  go_wp2_with fail
  go_ret
  exact⟨⟨[],HN.out,_,_,rfl,lit0 _ _ _ (by simp;try omega) (by simp)⟩,B3 _ _ _⟩
 have e1:(x.op == 14)=false:=by rw[beq_eq_false_iff_ne];exact p14
 by_cases p12:x.op=12
 ·have e2:(x.op == 12)=true:=by rw[p12];rfl
  have HN:Hid (∀ r:Int,Pl.LabIs f.code x.n r->Pl.NxL f.code i [r]):=fun r hr=>⟨by simp,fun j=>by rw[HO.out];simp only[p14,p12,if_false,if_true,List.mem_singleton];exact Pl.labIs_nx (Pl.lab_one HF.out) hr (HL.out (.inl p12)) j⟩
  clear p14 p12
  go_enter Tryz.func51,Tryz.ntmps51
  go_wp2_with fail
  refine ty_at fun u0 hu0=>?_
  have H0:Hid (Below w.heap.size w u0):=by rw[hu0];exact B2 _ _
  clear hu0
  refine (l10Label_any f v ⟨some ⟨bb,off,none⟩,sl,sc⟩ x.n u0 (HR.out.keep H0.out)).mono ?_
  rintro e u1 ⟨r,rfl,hr,d1⟩
  have H1:Hid (Below w.heap.size w u1/\Pl.LabIs f.code x.n r):=⟨H0.out.trans (d1.mono H0.out.size),hr⟩
  clear d1 hr
  go_wp2_with fail
  go_ret
  exact⟨⟨[r],HN.out r H1.out.2,_,_,rfl,lit1 u1 _ _ r H1.out.1.size rfl⟩,H1.out.1.trans ((below_alloc _ _).mono H1.out.1.size)⟩
 have e2:(x.op == 12)=false:=by rw[beq_eq_false_iff_ne];exact p12
 have hadd:IntKind.i64.wrap ((i:Int)+1)=((i+1:Nat):Int):=by rw[IntKind.wrap_i64];omega
 by_cases p13:x.op=13
 ·have e3:(x.op == 13)=true:=by rw[p13];rfl
  have HN:Hid (∀ r:Int,Pl.LabIs f.code x.n r->Pl.NxL f.code i [((i+1:Nat):Int),r]):=fun r hr=>⟨by simp,fun j=>by
   rw[HO.out]
   simp only[p14,p12,p13,if_false,if_true,List.mem_cons,List.not_mem_nil,or_false]
   rw[Pl.labIs_nx (Pl.lab_one HF.out) hr (HL.out (.inr p13)) j]
   constructor
   ·rintro (h | ⟨k,h1,h2⟩)
    ·exact⟨i+1,h,.inl rfl⟩
    ·exact⟨k,h1,.inr h2⟩
   ·rintro⟨k,h1,h2 | h2⟩
    ·exact .inl (by rw[h1,h2])
    ·exact .inr ⟨k,h1,h2⟩⟩
  clear p14 p12 p13
  go_enter Tryz.func51,Tryz.ntmps51
  go_wp2_with fail
  refine ty_at fun u0 hu0=>?_
  have H0:Hid (Below w.heap.size w u0):=by rw[hu0];exact B2 _ _
  clear hu0
  refine (l10Label_any f v ⟨some ⟨bb,off,none⟩,sl,sc⟩ x.n u0 (HR.out.keep H0.out)).mono ?_
  rintro e u1 ⟨r,rfl,hr,d1⟩
  have H1:Hid (Below w.heap.size w u1/\Pl.LabIs f.code x.n r):=⟨H0.out.trans (d1.mono H0.out.size),hr⟩
  clear d1 hr
  go_wp2_with fail
  go_ret
  exact⟨⟨[((i+1:Nat):Int),r],HN.out r H1.out.2,_,_,rfl,lit2 u1 _ _ _ r H1.out.1.size rfl⟩,H1.out.1.trans ((below_alloc _ _).mono H1.out.1.size)⟩
 have e3:(x.op == 13)=false:=by rw[beq_eq_false_iff_ne];exact p13
 have HN:Hid (Pl.NxL f.code i [((i+1:Nat):Int)]):=⟨by simp,fun j=>by
  rw[HO.out]
  simp only[p14,p12,p13,if_false,List.mem_singleton]
  constructor
  ·intro h;exact⟨i+1,h,rfl⟩
  ·rintro⟨k,h1,h2⟩; rw[h1,h2]⟩
 clear p14 p12 p13
 go_enter Tryz.func51,Tryz.ntmps51
 go_wp2_with fail
 go_ret
 exact⟨⟨[((i+1:Nat):Int)],HN.out,_,_,rfl,lit1 _ _ _ _ (by simp;try omega) (by simp)⟩,B3 _ _ _⟩
end Go.Proofs.YtcgfgmlfbgbkfaaGreatDoor.W
namespace Go.Proofs.YtcgfgmlfbgbkfaaGreatDoor.Pl
end Go.Proofs.YtcgfgmlfbgbkfaaGreatDoor.Pl
namespace Go.Proofs.YtcgfgmlfbgbkfaaGreatDoor.W
open Go.RowKit
theorem own_eqL {base:Nat} {e:TypeId} {k:Nat} {v:Value} {n:Nat} {xs:List Value} {w w':World} (h:w.ownsRow base e k v n xs) (hb:∀ g,v.ownBlock=some g->w'.heap[g]?=w.heap[g]?):w'.ownsRow base e k v n xs:=by
 refine⟨h.1,?_⟩
 rcases h.2 with q | ⟨g,cap,cur,h0,hlo,hg,r⟩
 ·exact .inl q
 ·exact .inr ⟨g,cap,cur,h0,hlo,(hb g (by rw[h0];rfl)).trans hg,r⟩
def mkV (R:Nat) (m:Nat->Bool):List Value:=(List.range R).map fun r=>.bool (m r)
def rowsV (n R:Nat) (G:Nat->Nat):List Value:=(List.range n).map fun i=>.slice (some ⟨G i,0,none⟩) R R
def listsV (k:Nat) (A:Nat->Option Addr) (C:Nat->Nat) (NS:Nat->List Int):List Value:=(List.range k).map fun i=>.slice (A i) (NS i).length (C i)
structure Lb (w0 w:World) (f:Pl.IrF) (v s:SV) (n k R go co gn cn:Nat) (G:Nat->Nat) (A:Nat->Option Addr) (C:Nat->Nat) (NS:Nat->List Int) (m:Nat->Nat->Bool):Prop where
 bel:Below w0.heap.size w0 w
 box:w.heap[w0.heap.size]?=some (.cells #[.string f.name,.int .i64 f.params,.int .i64 f.regs,.slice v.a v.len v.cap,.slice s.a s.len s.cap] 31)
 oo:w.ownsRow (w0.heap.size+1) 52 1 (.slice (some ⟨go,0,none⟩) n co) n (rowsV n R G)
 rr:∀ i,i<n->w.ownsRow (w0.heap.size+1) 4 1 (.slice (some ⟨G i,0,none⟩) R R) R (mkV R (m i))
 nn:w.ownsRow (w0.heap.size+1) 22 1 (.slice (some ⟨gn,0,none⟩) k cn) k (listsV k A C NS)
 nr:∀ i,i<k->w.ownsRow (w0.heap.size+1) 3 1 (.slice (A i) (NS i).length (C i)) (NS i).length ((NS i).map (Value.int .i64))
 nx:∀ i,i<k->Pl.NxL f.code i (NS i)
 dG:∀ i j,i<n->j<n->G i=G j->i=j
 dO:∀ i,i<n->G i≠go/\G i≠gn
 dA:∀ j,j<k->∀ g,(Value.slice (A j) (NS j).length (C j)).ownBlock=some g->g≠go/\g≠gn/\∀ i,i<n->g≠G i
 dN:go≠gn
section
variable {w0 w w':World} {f:Pl.IrF} {v s:SV} {n k R go co gn cn:Nat} {G:Nat->Nat} {A:Nat->Option Addr} {C:Nat->Nat} {NS:Nat->List Int} {m:Nat->Nat->Bool}
theorem Lb.later (h:Lb w0 w f v s n k R go co gn cn G A C NS m) (hb:Below w.heap.size w w'):Lb w0 w' f v s n k R go co gn cn G A C NS m:=by
 have q:∀ {e:TypeId} {kk:Nat} {u:Value} {nn:Nat} {xs:List Value},w.ownsRow (w0.heap.size+1) e kk u nn xs->w'.ownsRow (w0.heap.size+1) e kk u nn xs:=fun h=>own_eqL h fun g hg=>hb.block g (h.lt g hg).2
 exact⟨h.bel.trans (hb.mono h.bel.size),(hb.block _ (Array.getElem?_eq_some_iff.1 h.box).1).trans h.box,q h.oo,fun i hi=>q (h.rr i hi),q h.nn,fun i hi=>q (h.nr i hi),h.nx,h.dG,h.dO,h.dA,h.dN⟩
def setM (m:Nat->Nat->Bool) (i r:Nat):Nat->Nat->Bool:=fun i' r'=>if i'=i/\r'=r then true else m i' r'
theorem mkV_set (R:Nat) (m:Nat->Nat->Bool) (i r:Nat) (hr:r<R):(mkV R (m i)).set r (.bool true)=mkV R (setM m i r i):=by
 apply List.ext_getElem?
 intro p
 unfold mkV
 by_cases hp:p=r
 ·subst hp
  rw[List.getElem?_set_self (by simpa using hr),List.getElem?_map,List.getElem?_range hr]
  simp[setM]
 ·rw[List.getElem?_set_ne (fun q=>hp q.symm),List.getElem?_map,List.getElem?_map]
  by_cases hpR:p<R
  ·rw[List.getElem?_range hpR];simp[setM,hp]
  ·rw[List.getElem?_eq_none (by simp;omega)];rfl
theorem setM_other {m:Nat->Nat->Bool} {i r j:Nat} (h:j≠i):setM m i r j=m j:=by funext r'; simp[setM,h]
theorem Lb.mark (h:Lb w0 w f v s n k R go co gn cn G A C NS m) {i r:Nat} (hi:i<n) (hr:r<R):Lb w0 (w.setCell ⟨G i,r,none⟩ (.bool true)) f v s n k R go co gn cn G A C NS (setM m i r):=by
 obtain⟨st,gr⟩:=(h.rr i hi).stored r (.bool true)
 have hG:w0.heap.size+1<=G i:=((h.rr i hi).lt (G i) rfl).1
 have hk:∀ g,g≠G i->(w.setCell ⟨G i,r,none⟩ (.bool true)).heap[g]?=w.heap[g]?:=fun g hg=>heap_setCell_other w ⟨G i,r,none⟩ g _ (fun e=>hg (by simpa using e))
 have q:∀ {e:TypeId} {kk:Nat} {u:Value} {nn:Nat} {xs:List Value},w.ownsRow (w0.heap.size+1) e kk u nn xs->(∀ g,u.ownBlock=some g->g≠G i)->(w.setCell ⟨G i,r,none⟩ (.bool true)).ownsRow (w0.heap.size+1) e kk u nn xs:=fun h hn=>own_eqL h fun g hg=>hk g (hn g hg)
 refine⟨h.bel.grown gr h.bel.size (fun k hk=>by simp at hk;omega),(hk _ (by omega)).trans h.box,q h.oo (fun g hg=>by have:=(h.dO i hi).1;simp[Value.ownBlock]at hg;omega),fun j hj=>?_,q h.nn (fun g hg=>by have:=(h.dO i hi).2;simp[Value.ownBlock]at hg;omega),fun j hj=>q (h.nr j hj) (fun g hg=>(h.dA j hj g hg).2.2 i hi),h.nx,h.dG,h.dO,h.dA,h.dN⟩
 by_cases e:j=i
 ·subst e;rw[<- mkV_set R m j r hr];exact st
 ·rw[setM_other e];exact q (h.rr j hj) (fun g hg=>by simp[Value.ownBlock]at hg;intro c;exact e (h.dG j i hj hi (by omega)))
end
end Go.Proofs.YtcgfgmlfbgbkfaaGreatDoor.W
namespace Go.Proofs.YtcgfgmlfbgbkfaaGreatDoor.Pl
def wsV (ws:List Nat):List Value:=ws.map fun x:Nat=>Value.int .u64 (x:Int)
theorem wsV_at (ws:List Nat) (i:Nat) (h:i<ws.length):(wsV ws)[i]?=some (.int .u64 ((ws.getD i 0:Nat):Int)):=by
 unfold wsV
 rw[List.getElem?_map,List.getElem?_eq_getElem h,List.getD_eq_getElem?_getD,List.getElem?_eq_getElem h];rfl
theorem wsV_put (ws:List Nat) (n:Nat):(wsV ws).set (n / 64) (.int .u64 ((ws.getD (n / 64) 0 ||| 2 ^ (n % 64):Nat):Int))=wsV (putW ws n):=by
 unfold wsV putW
 rw[List.map_set]
theorem wsV_nil (k:Nat):wsV (List.replicate k 0)=List.replicate k (.int .u64 0):=by simp[wsV]
end Go.Proofs.YtcgfgmlfbgbkfaaGreatDoor.Pl
namespace Go.Proofs.YtcgfgmlfbgbkfaaGreatDoor.W
open Go.RowKit
theorem Tryz.infou64L:(Tryz.prog.info? 110).map (fun i=>(i.zero,i.size,i.bytes))=some (some (.int .u64 0),1,8):=by kernel_rfl
def TabT (w:World):Prop:=∀ j,j<64->w.cell? ⟨0,j,none⟩=some (.int .u8 ((Lib.deBruijn64tab.getD j 0:Nat):Int))
theorem TabT.keep {lo:Nat} {w w':World} (h:TabT w) (hlo:0<lo) (hb:Below lo w w'):TabT w':=fun j hj=>(hb.cell (p:=⟨0,j,none⟩) hlo).trans (h j hj)
theorem tz_key (x a:Nat) (hx:x<18446744073709551616) (hx0:x≠0) (hlow:x &&& (18446744073709551616-x)=a) :
  IntKind.u64.wrap (bits BinOp.and IntKind.u64 (x:Int) (IntKind.u64.wrap (-(x:Int)))*285870213051353865) / 288230376151711744=((a*285870213051353865 % 18446744073709551616 / 288230376151711744:Nat):Int):=by
 have e1:IntKind.u64.wrap (-(x:Int))=((18446744073709551616-x:Nat):Int):=by rw[IntKind.wrap_u64];omega
 rw[e1,bits_and_u64_nat x _ hx (by omega),hlow,IntKind.wrap_u64]
 omega
theorem tz_core (x k idx:Nat) (w:World) (hx0:((x:Int) == 0)=false)
  (key:IntKind.u64.wrap (bits BinOp.and IntKind.u64 (x:Int) (IntKind.u64.wrap (-(x:Int)))*285870213051353865) / 288230376151711744=(idx:Int))
  (hi:idx<64) (hk:k<64) (hcell:w.cell? ⟨0,idx,none⟩=some (.int .u8 (k:Int))) :
  Calls Tryz.prog 98 #[.int .u64 (x:Int)] w fun e w'=>e=.returned (.int .i64 (k:Int))/\w'=w:=by
 go_enter Tryz.func98,Tryz.ntmps98
 go_wp2_with (simp only[key])
 go_ret
 exact⟨rfl,rfl⟩
theorem tz_is (x:Nat) (hx:x<18446744073709551616) (hx0:x≠0) (w:World) (hT:TabT w):Calls Tryz.prog 98 #[.int .u64 (x:Int)] w fun e w'=>e=.returned (.int .i64 ((Lib.ctz 64 x:Nat):Int))/\w'=w:=by
 obtain⟨hlow,hk⟩:=Lib.lowest_bit 64 x hx0 hx
 obtain⟨hi,htab⟩:=Lib.deBruijn64_at _ hk
 have hcell:=hT _ hi
 rw[htab]at hcell
 exact tz_core x _ _ w (by simp;omega) (tz_key x _ hx hx0 hlow) hi hk hcell
theorem nextMultiple64_is (b:Nat) (hb:b<=100000) (w:World):Calls Tryz.prog 90 #[.int .i64 (b:Int),.int .i64 64] w fun e w'=>e=.returned (.int .i64 (((b+63) / 64*64:Nat):Int))/\w'=w:=by
 have h1:((b:Int)+64-1).tdiv 64=(((b+63) / 64:Nat):Int):=by rw[Int.tdiv_eq_ediv_of_nonneg (by omega)];omega
 have h2:(((b+63) / 64:Nat):Int)*64=(((b+63) / 64*64:Nat):Int):=by omega
 obtain⟨q,hq⟩:∃ q:Nat,q=(b+63) / 64:=⟨_,rfl⟩
 have hq2:q<=100000:=by omega
 rw[<- hq]at h1 h2
 have H2:Hid ((q:Int)*64=((q*64:Nat):Int)):=h2
 rw[<- hq]
 clear hq h2
 go_enter Tryz.func90,Tryz.ntmps90
 go_wp2
 go_ret
 exact⟨congrArg (fun z=>Ending.returned (.int .i64 z)) H2.out,rfl⟩
theorem newSetS_is (b:Nat) (hb:b<=100000) (w:World):Calls Tryz.prog 95 #[.int .i64 (b:Int)] w fun e w'=>e=.returned (.slice (some ⟨w.heap.size,0,none⟩) ((b+63) / 64) ((b+63) / 64))/\w'.ownsRow w.heap.size 110 1 (.slice (some ⟨w.heap.size,0,none⟩) ((b+63) / 64) ((b+63) / 64)) ((b+63) / 64) (Pl.wsV (List.replicate ((b+63) / 64) 0))/\Below w.heap.size w w':=by
 obtain⟨q,hq⟩:∃ q:Nat,q=(b+63) / 64:=⟨_,rfl⟩
 have hq2:q<=100000:=by omega
 have HNM:Hid (∀ u:World,Calls Tryz.prog 90 #[.int .i64 (b:Int),.int .i64 64] u fun e w'=>e=.returned (.int .i64 ((q*64:Nat):Int))/\w'=u):=fun u=>by rw[hq];exact nextMultiple64_is b hb u
 have hd:((q*64:Nat):Int).tdiv 64=(q:Int):=by rw[Int.tdiv_eq_ediv_of_nonneg (by omega)];omega
 rw[<- hq]
 obtain⟨i0,hi0,hz0,hz1,hz2⟩:=info_parts Tryz.infou64L
 have hmk:∀ u:World,(Instr.makeSlice 105 (.int .i64 (q:Int)) (.int .i64 (q:Int))).run Tryz.prog u=.ok (.slice (some ⟨u.heap.size,0,none⟩) q q) (u.alloc (.cells (madeCells (Value.int .u64 0).cells (q*1)) 110)):=fun u=>by
  have:=run_makeSlice u 105 110 i0 _ Tryz.underlying105 hi0 hz0 .i64 .i64 (q:Int) (q:Int) (by omega) (by omega) (by rw[hz1];simp;omega) (by rw[hz2];omega) (by omega)
  rw[hz1]at this
  simpa using this
 have HO:Hid (∀ u:World,(u.alloc (.cells (madeCells (Value.int .u64 0).cells (q*1)) 110)).ownsRow u.heap.size 110 1 (.slice (some ⟨u.heap.size,0,none⟩) q q) q (Pl.wsV (List.replicate q 0))):=fun u=>by
  have:=World.ownsRow_lit u (madeCells (Value.int .u64 0).cells (q*1)) q (base:=u.heap.size) (e:=110) (size:=1) (Nat.le_refl _) (by unfold maxLen;omega) (by simp[madeCells,Value.cells])
  rw[show (madeCells (Value.int .u64 0).cells (q*1)).toList=List.replicate q (.int .u64 0) from by rw[Nat.mul_one];exact toList_madeCells_one _ _]at this
  rw[Pl.wsV_nil];exact this
 obtain⟨cs,hcs⟩:∃ cs,cs=madeCells (Value.int .u64 0).cells (q*1):=⟨_,rfl⟩
 rw[<- hcs]at hmk HO
 obtain⟨z,hz⟩:∃ z:Int,z=((q*64:Nat):Int):=⟨_,rfl⟩
 rw[<- hz]at HNM hd
 clear hcs hi0 hz0 hz1 hz2 hq hz
 go_enter Tryz.func95,Tryz.ntmps95
 go_wp2_with (go_at_call 90;refine (HNM.out _).mono ?_;rintro e z1 ⟨rfl,g1⟩; rw[g1];clear g1 z1)
 go_ret
 exact⟨rfl,HO.out w,below_alloc _ _⟩
theorem hasS_is {lo:Nat} (g k c n:Nat) (ws:List Nat) (w:World) (ho:w.ownsRow lo 110 1 (.slice (some ⟨g,0,none⟩) k c) k (Pl.wsV ws)) (hs:Pl.smallW ws) (hk:ws.length=k) (hn:n / 64<k) (hk2:k<=100000):Calls Tryz.prog 72 #[.slice (some ⟨g,0,none⟩) k c,.int .i64 (n:Int)] w fun e w'=>e=.returned (.bool (Pl.inW ws n))/\w'=w:=by
 have cz:w.cell? ⟨g,n / 64,none⟩=some (.int .u64 ((ws.getD (n / 64) 0:Nat):Int)):=by rw[ho.cellAt (n / 64) (by omega)];exact Pl.wsV_at ws _ (by omega)
 have hd:((n:Int)).tdiv 64=((n / 64:Nat):Int):=by rw[Int.tdiv_eq_ediv_of_nonneg (by omega)];omega
 have hm:((n:Int)).tmod 64=((n % 64:Nat):Int):=by rw[Int.tmod_eq_emod_of_nonneg (by omega)];omega
 obtain⟨q,hq⟩:∃ q:Nat,q=n / 64:=⟨_,rfl⟩
 obtain⟨r,hr⟩:∃ r:Nat,r=n % 64:=⟨_,rfl⟩
 have hx:=hs (n / 64)
 have HI:Hid (Pl.inW ws n=(ws.getD q 0).testBit r):=by rw[hq,hr];rfl
 rw[<- hq]at cz hd hn hx
 rw[<- hr]at hm
 obtain⟨x,hxe⟩:∃ x:Nat,x=ws.getD q 0:=⟨_,rfl⟩
 rw[<- hxe]at cz hx HI
 have hr64:r<64:=by omega
 have hmin:min r 64=r:=by omega
 have HB:Hid (bits BinOp.and IntKind.u64 ((x:Int) / 2 ^ r) 1=(((x / 2 ^ r) &&& 1:Nat):Int)):=by
  have h1:(x:Int) / 2 ^ r=((x / 2 ^ r:Nat):Int):=by simp
  show bits BinOp.and IntKind.u64 ((x:Int) / 2 ^ r) 1=_
  rw[h1]
  exact bits_and_u64_nat _ 1 (Nat.lt_of_le_of_lt (Nat.div_le_self _ _) hx) (by decide)
 have HT:Hid (((((x / 2 ^ r) &&& 1:Nat):Int) != 0)=x.testBit r):=by
  show ((((x / 2 ^ r) &&& 1:Nat):Int) != 0)=x.testBit r
  rw[Nat.and_one_is_mod,Nat.testBit_eq_decide_div_mod_eq]
  rcases Nat.mod_two_eq_zero_or_one (x / 2 ^ r) with e | e <;> rw[e] <;> rfl
 have hqk:(q:Int)<(k:Int):=by omega
 have hq5:(q:Int)<=100000:=by omega
 clear ho hs hq hr hxe hk hk2
 go_enter Tryz.func72,Tryz.ntmps72
 go_wp2
 go_ret
 refine⟨?_,rfl⟩
 rw[HI.out,<- HT.out,<- HB.out]
 first | rfl | (simp only[hmin,IntKind.bits];rfl)
theorem allS_is (a:Option Addr) (n c:Nat) (w:World):Calls Tryz.prog 64 #[.slice a n c] w fun e w'=>e=.returned (.func (.func 97) #[] #[.pointer (some ⟨w.heap.size,0,none⟩)])/\w'=w.alloc (.cells #[.slice a n c] 105):=by
 go_enter Tryz.func64,Tryz.ntmps64
 go_wp2
 go_ret
 exact⟨rfl,rfl⟩
def upd {α:Type} (g:Nat->α) (n:Nat) (x:α):Nat->α:=fun i=>if i=n then x else g i
theorem upd_at {α:Type} (g:Nat->α) (n:Nat) (x:α):upd g n x n=x:=by simp[upd]
theorem upd_ne {α:Type} {g:Nat->α} {n:Nat} {x:α} {i:Nat} (h:i≠n):upd g n x i=g i:=by simp[upd,h]
theorem rowsV_succ (n R:Nat) (G:Nat->Nat) (g0:Nat):rowsV (n+1) R (upd G n g0)=rowsV n R G ++ [.slice (some ⟨g0,0,none⟩) R R]:=by
 unfold rowsV
 rw[List.range_succ,List.map_append,List.map_singleton,upd_at]
 congr 1
 apply List.map_congr_left
 intro i hi
 rw[upd_ne (by have:=List.mem_range.1 hi;omega)]
theorem listsV_succ (k:Nat) (A:Nat->Option Addr) (C:Nat->Nat) (NS:Nat->List Int) (a:Option Addr) (c:Nat) (ns:List Int):listsV (k+1) (upd A k a) (upd C k c) (upd NS k ns)=listsV k A C NS ++ [.slice a ns.length c]:=by
 unfold listsV
 rw[List.range_succ,List.map_append,List.map_singleton,upd_at,upd_at,upd_at]
 congr 1
 apply List.map_congr_left
 intro i hi
 have:i≠k:=by have:=List.mem_range.1 hi;omega
 rw[upd_ne this,upd_ne this,upd_ne this]
section
variable {w0 w w1 w2 y:World} {f:Pl.IrF} {v s:SV} {n k R go co gn cn:Nat} {G:Nat->Nat} {A:Nat->Option Addr} {C:Nat->Nat} {NS:Nat->List Int} {m:Nat->Nat->Bool}
theorem Lb.row (h:Lb w0 w f v s n k R go co gn cn G A C NS m) (b1:Below w.heap.size w w1) {g0:Nat} (hg0:w.heap.size<=g0) (hrow:w1.ownsRow (w0.heap.size+1) 4 1 (.slice (some ⟨g0,0,none⟩) R R) R (List.replicate R (.bool false))) (b2:Below w1.heap.size w1 w2) {g' c':Nat} (hown:y.ownsRow (w0.heap.size+1) 52 1 (.slice (some ⟨g',0,none⟩) (n+1) c') (n+1) (rowsV n R G ++ [.slice (some ⟨g0,0,none⟩) R R])) (hgr:w2.grownBy y (some go)) (hli:go=g'\/g'=w2.heap.size):Lb w0 y f v s (n+1) k R g' c' gn cn (upd G n g0) A C NS (upd m n fun _=>false):=by
 have h2:=(h.later b1).later b2
 have hrow2:w2.ownsRow (w0.heap.size+1) 4 1 (.slice (some ⟨g0,0,none⟩) R R) R (List.replicate R (.bool false)):=own_eqL hrow fun g hg=>b2.block g (hrow.lt g hg).2
 have hlt0:g0<w2.heap.size:=(hrow2.lt g0 rfl).2
 have hgo:w0.heap.size+1<=go/\go<w.heap.size:=h.oo.lt go rfl
 have hgn:w0.heap.size+1<=gn/\gn<w.heap.size:=h.nn.lt gn rfl
 have hw2:w.heap.size<=w2.heap.size:=Nat.le_trans b1.size b2.size
 have hG:∀ i,i<n->G i<w.heap.size:=fun i hi=>((h.rr i hi).lt (G i) rfl).2
 have q:∀ {e:TypeId} {kk:Nat} {u:Value} {nn:Nat} {xs:List Value},w2.ownsRow (w0.heap.size+1) e kk u nn xs->(∀ g,u.ownBlock=some g->g≠go)->y.ownsRow (w0.heap.size+1) e kk u nn xs:=fun h hn=>own_eqL h fun g hg=>hgr.block g (h.lt g hg).2 (fun c=>hn g hg (by simpa using c))
 have hA:∀ j,j<k->∀ g,(Value.slice (A j) (NS j).length (C j)).ownBlock=some g->g<w.heap.size:=fun j hj g hg=>((h.nr j hj).lt g hg).2
 refine⟨h2.bel.grown hgr h2.bel.size (fun k hk=>by simp at hk;omega),(hgr.block _ (Array.getElem?_eq_some_iff.1 h2.box).1 (by simp;omega)).trans h2.box,by rw[rowsV_succ];exact hown,fun i hi=>?_,q h2.nn (fun g hg=>by simp[Value.ownBlock]at hg;have:=h.dN;omega),fun j hj=>q (h2.nr j hj) (fun g hg=>(h.dA j hj g hg).1),h.nx,fun i j hi hj e=>?_,fun i hi=>?_,fun j hj g hg=>?_,?_⟩
 ·by_cases e:i=n
  ·subst e
   rw[upd_at,upd_at]
   have:=q hrow2 (fun g hg=>by simp[Value.ownBlock]at hg;omega)
   rw[show mkV R (fun _=>false)=List.replicate R (.bool false) from by unfold mkV;rw[List.map_const'];simp]
   exact this
  ·rw[upd_ne e,upd_ne e]
   exact q (h2.rr i (by omega)) (fun g hg=>by simp[Value.ownBlock]at hg;have:=(h.dO i (by omega)).1;omega)
 ·by_cases e1:i=n
  ·by_cases e2:j=n
   ·omega
   ·rw[e1,upd_at,upd_ne e2]at e;have:=hG j (by omega);omega
  ·by_cases e2:j=n
   ·rw[e2,upd_at,upd_ne e1]at e;have:=hG i (by omega);omega
   ·rw[upd_ne e1,upd_ne e2]at e;exact h.dG i j (by omega) (by omega) e
 ·by_cases e:i=n
  ·subst e;rw[upd_at];rcases hli with q | q <;> exact⟨by omega,by omega⟩
  ·rw[upd_ne e];have:=h.dO i (by omega);have:=hG i (by omega);rcases hli with q | q <;> exact⟨by omega,by omega⟩
 ·have h1:=h.dA j hj g hg
  have h2:=hA j hj g hg
  refine⟨by rcases hli with q | q <;> omega,h1.2.1,fun i hi=>?_⟩
  by_cases e:i=n
  ·subst e;rw[upd_at];omega
  ·rw[upd_ne e];exact h1.2.2 i (by omega)
 ·have:=h.dN;rcases hli with q | q <;> omega
theorem Lb.next (h:Lb w0 w f v s n k R go co gn cn G A C NS m) (b1:Below w.heap.size w w1) {a:Option Addr} {c:Nat} {ns:List Int} (hns:Pl.NxL f.code k ns) (hrow:w1.ownsRow w.heap.size 3 1 (.slice a ns.length c) ns.length (ns.map (Value.int .i64))) (b2:Below w1.heap.size w1 w2) {g' c':Nat} (hown:y.ownsRow (w0.heap.size+1) 22 1 (.slice (some ⟨g',0,none⟩) (k+1) c') (k+1) (listsV k A C NS ++ [.slice a ns.length c])) (hgr:w2.grownBy y (some gn)) (hli:gn=g'\/g'=w2.heap.size):Lb w0 y f v s n (k+1) R go co g' c' G (upd A k a) (upd C k c) (upd NS k ns) m:=by
 have h2:=(h.later b1).later b2
 have hrow1:w2.ownsRow w.heap.size 3 1 (.slice a ns.length c) ns.length (ns.map (Value.int .i64)):=own_eqL hrow fun g hg=>b2.block g (hrow.lt g hg).2
 have hgo:w0.heap.size+1<=go/\go<w.heap.size:=h.oo.lt go rfl
 have hgn:w0.heap.size+1<=gn/\gn<w.heap.size:=h.nn.lt gn rfl
 have hrow2:w2.ownsRow (w0.heap.size+1) 3 1 (.slice a ns.length c) ns.length (ns.map (Value.int .i64)):=own_lowL hrow1 (by omega)
 have hw2:w.heap.size<=w2.heap.size:=Nat.le_trans b1.size b2.size
 have hG:∀ i,i<n->G i<w.heap.size:=fun i hi=>((h.rr i hi).lt (G i) rfl).2
 have q:∀ {e:TypeId} {kk:Nat} {u:Value} {nn:Nat} {xs:List Value},w2.ownsRow (w0.heap.size+1) e kk u nn xs->(∀ g,u.ownBlock=some g->g≠gn)->y.ownsRow (w0.heap.size+1) e kk u nn xs:=fun h hn=>own_eqL h fun g hg=>hgr.block g (h.lt g hg).2 (fun c=>hn g hg (by simpa using c))
 have hA:∀ j,j<k->∀ g,(Value.slice (A j) (NS j).length (C j)).ownBlock=some g->g<w.heap.size:=fun j hj g hg=>((h.nr j hj).lt g hg).2
 have hnew:∀ g,(Value.slice a ns.length c).ownBlock=some g->w.heap.size<=g/\g<w2.heap.size:=fun g hg=>hrow1.lt g hg
 refine⟨h2.bel.grown hgr h2.bel.size (fun k hk=>by simp at hk;omega),(hgr.block _ (Array.getElem?_eq_some_iff.1 h2.box).1 (by simp;omega)).trans h2.box,q h2.oo (fun g hg=>by simp[Value.ownBlock]at hg;have:=h.dN;omega),fun i hi=>q (h2.rr i hi) (fun g hg=>by simp[Value.ownBlock]at hg;have:=(h.dO i hi).2;omega),by rw[listsV_succ];exact hown,fun j hj=>?_,fun j hj=>?_,h.dG,fun i hi=>?_,fun j hj g hg=>?_,?_⟩
 ·by_cases e:j=k
  ·subst e;rw[upd_at,upd_at,upd_at];exact q hrow2 (fun g hg=>by have:=hnew g hg;omega)
  ·rw[upd_ne e,upd_ne e,upd_ne e];exact q (h2.nr j (by omega)) (fun g hg=>(h.dA j (by omega) g hg).2.1)
 ·by_cases e:j=k
  ·subst e;rw[upd_at];exact hns
  ·rw[upd_ne e];exact h.nx j (by omega)
 ·have:=h.dO i hi;have:=hG i hi;rcases hli with q | q <;> exact⟨by omega,by omega⟩
 ·by_cases e:j=k
  ·subst e
   rw[upd_at,upd_at,upd_at]at hg
   have:=hnew g hg
   refine⟨by omega,by rcases hli with q | q <;> omega,fun i hi=>by have:=hG i hi;omega⟩
  ·rw[upd_ne e,upd_ne e,upd_ne e]at hg
   have h1:=h.dA j (by omega) g hg
   have h2:=hA j (by omega) g hg
   exact⟨h1.1,by rcases hli with q | q <;> omega,h1.2.2⟩
 ·have:=h.dN;rcases hli with q | q <;> omega
end
structure OnlyG (g:Nat) (w w':World):Prop where
 os:w'.os=w.os
 tape:w'.tape=w.tape
 output:w'.output=w.output
 size:w'.heap.size=w.heap.size
 block:∀ k,k≠g->w'.heap[k]?=w.heap[k]?
theorem OnlyG.refl (g:Nat) (w:World):OnlyG g w w:=⟨rfl,rfl,rfl,rfl,fun _ _=>rfl⟩
theorem OnlyG.trans {g:Nat} {a b c:World} (h:OnlyG g a b) (k:OnlyG g b c):OnlyG g a c:=
 ⟨k.os.trans h.os,k.tape.trans h.tape,k.output.trans h.output,k.size.trans h.size,fun i hi=>(k.block i hi).trans (h.block i hi)⟩
theorem OnlyG.setCell (w:World) (g j:Nat) (v:Value):OnlyG g w (w.setCell ⟨g,j,none⟩ v):=by
 have b:=(Below.refl 0 w).setCell (p:=⟨g,j,none⟩) (Nat.zero_le _) v
 exact⟨b.os,b.tape,b.output,by simp,fun k hk=>heap_setCell_other w ⟨g,j,none⟩ k v hk⟩
theorem OnlyG.drew {g:Nat} {w w':World} (h:OnlyG g w w'):OnlyG g w w'.drew:=by
 have b:=Below.drew (Below.refl w'.heap.size w')
 exact⟨b.os.trans h.os,b.tape.trans h.tape,b.output.trans h.output,h.size,h.block⟩
theorem OnlyG.below {g lo:Nat} {w w':World} (h:OnlyG g w w') (hlo:lo<=g):Below lo w w':=⟨h.os,h.tape,h.output,Nat.le_of_eq h.size.symm,fun k hk=>h.block k (by omega)⟩
theorem OnlyG.own {g:Nat} {w w':World} (h:OnlyG g w w') {base:Nat} {e:TypeId} {k:Nat} {v:Value} {n:Nat} {xs:List Value} (ho:w.ownsRow base e k v n xs) (hn:v.ownBlock≠some g):w'.ownsRow base e k v n xs:=own_eqL ho fun q hq=>h.block q (fun c=>hn (by rw[hq,c]))
theorem OnlyG.cell {g:Nat} {w w':World} (h:OnlyG g w w') {p:Addr} (hp:p.block≠g):w'.cell? p=w.cell? p:=by simp only[World.cell?,h.block p.block hp]
def slV (k:Nat) (A:Nat->Option Addr) (C:Nat->Nat) (L:Nat->List Value):List Value:=(List.range k).map fun i=>.slice (A i) (L i).length (C i)
theorem slV_at {k i:Nat} (A:Nat->Option Addr) (C:Nat->Nat) (L:Nat->List Value) (h:i<k):(slV k A C L)[i]?=some (.slice (A i) (L i).length (C i)):=by
 unfold slV;rw[List.getElem?_map,List.getElem?_range h];rfl
theorem slV_set (k i:Nat) (A:Nat->Option Addr) (C:Nat->Nat) (L:Nat->List Value) (a:Option Addr) (c:Nat) (l:List Value) (h:i<k):(slV k A C L).set i (.slice a l.length c)=slV k (upd A i a) (upd C i c) (upd L i l):=by
 apply List.ext_getElem?
 intro p
 by_cases hp:p=i
 ·subst hp
  rw[List.getElem?_set_self (by simpa [slV] using h),slV_at _ _ _ h,upd_at,upd_at,upd_at]
 ·rw[List.getElem?_set_ne (fun q=>hp q.symm)]
  by_cases hpk:p<k
  ·rw[slV_at _ _ _ hpk,slV_at _ _ _ hpk,upd_ne hp,upd_ne hp,upd_ne hp]
  ·rw[List.getElem?_eq_none (by simp[slV];omega),List.getElem?_eq_none (by simp[slV];omega)]
structure Rw (eo ei:TypeId) (lo:Nat) (w:World) (go k co:Nat) (A:Nat->Option Addr) (C:Nat->Nat) (L:Nat->List Value) (T:Nat->Nat) (t:Nat):Prop where
 oo:w.ownsRow lo eo 1 (.slice (some ⟨go,0,none⟩) k co) k (slV k A C L)
 tt:T go=t
 nr:∀ i,i<k->w.ownsRow lo ei 1 (.slice (A i) (L i).length (C i)) (L i).length (L i)
 tn:∀ i,i<k->∀ g,(Value.slice (A i) (L i).length (C i)).ownBlock=some g->T g=t+1
 dA:∀ i j,i<k->j<k->∀ g,(Value.slice (A i) (L i).length (C i)).ownBlock=some g->(Value.slice (A j) (L j).length (C j)).ownBlock=some g->i=j
section
variable {eo ei:TypeId} {lo:Nat} {w w' y:World} {go k co:Nat} {A:Nat->Option Addr} {C:Nat->Nat} {L:Nat->List Value} {T T':Nat->Nat} {t:Nat}
theorem Rw.kept (h:Rw eo ei lo w go k co A C L T t) (hb:∀ g,g<w.heap.size->T g=t\/T g=t+1->w'.heap[g]?=w.heap[g]?) (hT:∀ g,g<w.heap.size->T' g=T g):Rw eo ei lo w' go k co A C L T' t:=by
 have hgo:=(h.oo.lt go rfl).2
 refine⟨own_eqL h.oo fun g hg=>?_,(hT go hgo).trans h.tt,fun i hi=>own_eqL (h.nr i hi) fun g hg=>hb g ((h.nr i hi).lt g hg).2 (.inr (h.tn i hi g hg)),fun i hi g hg=>(hT g ((h.nr i hi).lt g hg).2).trans (h.tn i hi g hg),h.dA⟩
 simp only[Value.ownBlock,Option.some.injEq]at hg
 subst hg
 exact hb go hgo (.inl h.tt)
theorem Rw.later (h:Rw eo ei lo w go k co A C L T t) (hb:Below w.heap.size w w'):Rw eo ei lo w' go k co A C L T t:=h.kept (fun g hg _=>hb.block g hg) fun _ _=>rfl
theorem Rw.cell (h:Rw eo ei lo w go k co A C L T t) {i:Nat} (hi:i<k):w.cell? ⟨go,i,none⟩=some (.slice (A i) (L i).length (C i)):=by rw[h.oo.cellAt i (by omega)];exact slV_at _ _ _ hi
theorem Rw.ne (h:Rw eo ei lo w go k co A C L T t) {i:Nat} (hi:i<k):(Value.slice (A i) (L i).length (C i)).ownBlock≠some go:=fun e=>by have:=h.tn i hi go e;have:=h.tt;omega
theorem Rw.repl (h:Rw eo ei lo w go k co A C L T t) {i:Nat} (hi:i<k) {a:Option Addr} {c:Nat} {l:List Value}
  (hy:∀ g,g<w.heap.size->(Value.slice (A i) (L i).length (C i)).ownBlock≠some g->y.heap[g]?=w.heap[g]?)
  (hown:y.ownsRow lo ei 1 (.slice a l.length c) l.length l)
  (hli:∀ g,(Value.slice a l.length c).ownBlock=some g->(Value.slice (A i) (L i).length (C i)).ownBlock=some g\/w.heap.size<=g)
  (hT:∀ g,g<w.heap.size->T' g=T g) (hTn:∀ g,w.heap.size<=g->T' g=t+1) :
  Rw eo ei lo (y.setCell ⟨go,i,none⟩ (.slice a l.length c)) go k co (upd A i a) (upd C i c) (upd L i l) T' t:=by
 have hgo:=(h.oo.lt go rfl).2
 have hto:T' go=t:=(hT go hgo).trans h.tt
 have hoy:y.ownsRow lo eo 1 (.slice (some ⟨go,0,none⟩) k co) k (slV k A C L):=own_eqL h.oo fun g hg=>by
  simp only[Value.ownBlock,Option.some.injEq]at hg
  subst hg
  exact hy go hgo (h.ne hi)
 have hnew:∀ g,(Value.slice a l.length c).ownBlock=some g->T' g=t+1:=fun g hg=>by
  rcases hli g hg with q | q
  ·exact (hT g ((h.nr i hi).lt g q).2).trans (h.tn i hi g q)
  ·exact hTn g q
 have hst:=(hoy.stored i (.slice a l.length c)).1
 rw[slV_set k i A C L a c l hi]at hst
 have ho:∀ g,g≠go->(y.setCell ⟨go,i,none⟩ (.slice a l.length c)).heap[g]?=y.heap[g]?:=fun g hg=>heap_setCell_other y ⟨go,i,none⟩ g _ hg
 refine⟨hst,hto,fun j hj=>?_,fun j hj g hg=>?_,fun p j hp hj g hg hg2=>?_⟩
 ·by_cases e:j=i
  ·subst e
   rw[upd_at,upd_at,upd_at]
   exact own_eqL hown fun g hg=>ho g (fun q=>by have:=hnew g hg;rw[q]at this;omega)
  ·rw[upd_ne e,upd_ne e,upd_ne e]
   refine own_eqL (h.nr j hj) fun g hg=>(ho g (fun q=>h.ne hj (by rw[hg,q]))).trans (hy g ((h.nr j hj).lt g hg).2 fun q=>e (h.dA j i hj hi g hg q))
 ·by_cases e:j=i
  ·subst e;rw[upd_at,upd_at,upd_at]at hg;exact hnew g hg
  ·rw[upd_ne e,upd_ne e,upd_ne e]at hg;exact (hT g ((h.nr j hj).lt g hg).2).trans (h.tn j hj g hg)
 ·by_cases e1:p=i
  ·by_cases e2:j=i
   ·omega
   ·subst e1
    rw[upd_at,upd_at,upd_at]at hg
    rw[upd_ne e2,upd_ne e2,upd_ne e2]at hg2
    rcases hli g hg with q | q
    ·exact h.dA p j hp hj g q hg2
    ·have:=((h.nr j hj).lt g hg2).2;omega
  ·by_cases e2:j=i
   ·subst e2
    rw[upd_at,upd_at,upd_at]at hg2
    rw[upd_ne e1,upd_ne e1,upd_ne e1]at hg
    rcases hli g hg2 with q | q
    ·exact h.dA p j hp hj g hg q
    ·have:=((h.nr p hp).lt g hg).2;omega
   ·rw[upd_ne e1,upd_ne e1,upd_ne e1]at hg
    rw[upd_ne e2,upd_ne e2,upd_ne e2]at hg2
    exact h.dA p j hp hj g hg hg2
theorem Rw.repl_far (h:Rw eo ei lo w go k co A C L T t) {i:Nat} (hi:i<k) {v:Value}
  (hy:∀ g,g<w.heap.size->(Value.slice (A i) (L i).length (C i)).ownBlock≠some g->y.heap[g]?=w.heap[g]?) {g:Nat} (hg:g<w.heap.size) (h1:T g≠t) (h2:T g≠t+1) :
  (y.setCell ⟨go,i,none⟩ v).heap[g]?=w.heap[g]?:=by
 rw[heap_setCell_other y ⟨go,i,none⟩ g _ (fun q=>h1 (by rw[show g=go from q];exact h.tt))]
 exact hy g hg fun q=>h2 (h.tn i hi g q)
theorem Rw.turned (h:Rw eo ei lo w go k co A C L T t) {i:Nat} (hi:i<k) {g:Nat} (hg:A i=some ⟨g,0,none⟩) {l:List Value} (hl:l.length=(L i).length)
  (hO:OnlyG g w w') (hown:w'.ownsRow lo ei 1 (.slice (A i) l.length (C i)) l.length l):Rw eo ei lo w' go k co A C (upd L i l) T t:=by
 have hb:(Value.slice (A i) (L i).length (C i)).ownBlock=some g:=by rw[hg];rfl
 have hne:go≠g:=fun e=>h.ne hi (by rw[hb,e])
 have hlen:∀ j,(upd L i l j).length=(L j).length:=fun j=>by
  by_cases e:j=i
  ·subst e;rw[upd_at];exact hl
  ·rw[upd_ne e]
 have hsl:slV k A C (upd L i l)=slV k A C L:=by
  unfold slV
  apply List.map_congr_left
  intro j _
  rw[hlen j]
 refine⟨by rw[hsl];exact hO.own h.oo (by simpa [Value.ownBlock] using hne),h.tt,fun j hj=>?_,fun j hj q hq=>?_,fun p j hp hj q hq hq2=>?_⟩
 ·by_cases e:j=i
  ·subst e;rw[upd_at];exact hown
  ·rw[upd_ne e];exact hO.own (h.nr j hj) fun q=>e (h.dA j i hj hi g q hb)
 ·rw[hlen j]at hq;exact h.tn j hj q hq
 ·rw[hlen p]at hq;rw[hlen j]at hq2;exact h.dA p j hp hj q hq hq2
end
theorem Rw.nil {eo ei:TypeId} {lo:Nat} {w:World} {go k:Nat} {T:Nat->Nat} {t:Nat} (h:w.ownsRow lo eo 1 (.slice (some ⟨go,0,none⟩) k k) k (List.replicate k (.slice none 0 0))) (hT:T go=t):Rw eo ei lo w go k k (fun _=>none) (fun _=>0) (fun _=>[]) T t:=by
 refine⟨?_,hT,fun i hi=>World.ownsRow_nil _ _ _ _,fun i hi g hg=>(by cases hg),fun i j hi hj g hg=>(by cases hg)⟩
 rw[show slV k (fun _=>none) (fun _=>0) (fun _=>[])=List.replicate k (.slice none 0 0) from by unfold slV;rw[List.map_const'];simp]
 exact h
def rpL (n m:Nat):List Value:=List.replicate m (.int .i64 (-1)) ++ List.replicate (n-m) (.int .i64 0)
theorem rpL_len {n m:Nat} (h:m<=n):(rpL n m).length=n:=by simp[rpL];omega
theorem rpL_splice {n m k:Nat} (h:m+k<=n):splice (rpL n m) m (List.replicate k (.int .i64 (-1)))=rpL n (m+k):=by
 unfold splice rpL
 rw[List.length_replicate,List.take_append_of_le_length (by simp),List.take_of_length_le (by simp),List.drop_append,List.drop_of_length_le (by simp),List.nil_append,List.length_replicate,List.drop_replicate,<- List.append_assoc,List.replicate_append_replicate]
 congr 2
 omega
theorem rpL_at {n m j:Nat} (h:j<m):(rpL n m)[j]?=some (.int .i64 (-1)):=by
 unfold rpL
 rw[List.getElem?_append_left (by simpa using h),List.getElem?_replicate,if_pos h]
theorem rpL_full (n:Nat):rpL n n=List.replicate n (.int .i64 (-1)):=by simp[rpL]
theorem rpL_none (n:Nat):rpL n 0=List.replicate n (.int .i64 0):=by simp[rpL]
set_option maxRecDepth 100000 in
theorem mul64_is (n:Nat) (hn:n<=8000) (w:World):Calls Tryz.prog 119 #[.int .u64 1,.int .u64 (n:Int)] w fun e w'=>e=.returned (.tuple #[.int .u64 0,.int .u64 (n:Int)])/\w'=w:=by
 have hand:bits BinOp.and IntKind.u64 (n:Int) 4294967295=(n:Int):=by
  have:=bits_and_u64_nat n 4294967295 (by omega) (by decide)
  rw[show n &&& 4294967295=n from Nat.and_two_pow_sub_one_of_lt_two_pow (n:=32) (by omega)]at this
  exact this
 have h1:bits BinOp.and IntKind.u64 1 4294967295=1:=by decide
 have h0:bits BinOp.and IntKind.u64 0 4294967295=0:=by decide
 have hdiv:(n:Int) / 4294967296=0:=by omega
 have hwr:IntKind.u64.wrap (n:Int)=(n:Int):=by rw[IntKind.wrap_u64];omega
 have hw0:IntKind.u64.wrap 0=0:=by decide
 go_enter Tryz.func119,Tryz.ntmps119
 go_wp2
 refine bodyPost_ret (results_tmp2 rfl _ _ _) rfl ?_
 exact⟨rfl,rfl⟩
set_option maxRecDepth 100000 in
theorem mul_is (n:Nat) (hn:n<=8000) (w:World):Calls Tryz.prog 103 #[.int .u64 1,.int .u64 (n:Int)] w fun e w'=>e=.returned (.tuple #[.int .u64 0,.int .u64 (n:Int)])/\w'=w:=by
 go_enter Tryz.func103,Tryz.ntmps103
 go_wp2_with (go_at_call 119;refine (mul64_is n hn _).mono ?_;rintro e z1 ⟨rfl,g1⟩; rw[g1];clear g1 z1)
 refine bodyPost_ret (results_tmp2 rfl _ _ _) rfl ?_
 exact⟨rfl,rfl⟩
set_option maxRecDepth 100000 in
theorem repeat_is (b n:Nat) (hn:1<=n/\n<=8000) (w:World) (hb:w.cell? ⟨b,0,none⟩=some (.int .i64 (-1))):Calls Tryz.prog 93 #[.slice (some ⟨b,0,none⟩) 1 1,.int .i64 (n:Int)] w fun e w'=>e=.returned (.slice (some ⟨w.heap.size,0,none⟩) n n)/\w'.ownsRow w.heap.size 3 1 (.slice (some ⟨w.heap.size,0,none⟩) n n) n (List.replicate n (.int .i64 (-1)))/\Below w.heap.size w w':=by
 have hn0:¬ ((n:Int)<0):=by omega
 have hcv:IntKind.u64.wrap (n:Int)=(n:Int):=by rw[IntKind.wrap_u64];omega
 have hbl:b<w.heap.size:=block_lt_of_cell hb
 obtain⟨i0,hi0,hz0,hz1,hz2⟩:=info_parts Tryz.infoi64
 have hsz:(Tryz.prog.info? 3).map (·.size)=some 1:=by rw[hi0];simp[hz1]
 have HSZ:Hid ((Tryz.prog.info? 3).map (·.size)=some 1):=hsz
 have hmk:∀ u:World,(Instr.makeSlice 22 (.int .i64 (n:Int)) (.int .i64 (n:Int))).run Tryz.prog u=.ok (.slice (some ⟨u.heap.size,0,none⟩) n n) (u.alloc (.cells (madeCells (Value.int .i64 0).cells (n*1)) 3)):=fun u=>by
  have:=run_makeSlice u 22 3 i0 _ Tryz.underlying22 hi0 hz0 .i64 .i64 (n:Int) (n:Int) (by omega) (by omega) (by rw[hz1];simp;omega) (by rw[hz2];omega) (by omega)
  rw[hz1]at this
  simpa using this
 have hcs:madeCells (Value.int .i64 0).cells (n*1)=(rpL n 0).toArray:=by
  apply Array.ext'
  rw[show (madeCells (Value.int .i64 0).cells (n*1)).toList=List.replicate n (.int .i64 0) from by rw[Nat.mul_one];exact toList_madeCells_one _ _,rpL_none]
 rw[hcs]at hmk
 have HB:Hid (w.cell? ⟨b,0,none⟩=some (.int .i64 (-1))/\b<w.heap.size):=⟨hb,hbl⟩
 clear hcs hi0 hz0 hz1 hz2 hb hbl hsz
 have HCP:Hid (∀ (u:World) (m:Nat),1<=m->m<n->u.heap[w.heap.size]?=some (.cells (rpL n m).toArray 3 (0,0))->Below w.heap.size w u->∃ u',(Builtin.copy_ #[22,22] 3 #[.slice (some ⟨w.heap.size,m,none⟩) (n-m) (n-m),.slice (some ⟨w.heap.size,0,none⟩) m n]).run Tryz.prog u=.ok (.int .i64 ((min m (n-m):Nat):Int)) u'/\u'.heap[w.heap.size]?=some (.cells (rpL n (m+min m (n-m))).toArray 3 (0,0))/\Below w.heap.size w u'):=fun u m h1 h2 hu hbu=>by
  have hl:(List.replicate (min m (n-m)) (Value.int .i64 (-1))).length=Nat.min m (n-m):=by simp
  have:=run_copy_row (P:=Tryz.prog) u 22 22 3 3 w.heap.size m (n-m) (n-m) ⟨w.heap.size,0,none⟩ m n (rpL n m).toArray 3 (List.replicate (min m (n-m)) (.int .i64 (-1))) Tryz.underlying22 HSZ.out hu hl (fun j v hj=>by
   rw[List.getElem?_replicate]at hj
   split at hj
   ·rename_i hjm
    cases hj
    have:(⟨w.heap.size,0,none⟩:Addr).add j=⟨w.heap.size,j,none⟩:=by unfold Addr.add;split <;> simp_all
    rw[this,cell_of_row u _ j _ 3 (0,0) hu]
    show (rpL n m).toArray[j]?=_
    rw[List.getElem?_toArray]
    exact rpL_at (by omega)
   ·cases hj) (by simp;rw[rpL_len (by omega)];omega) (by intro v hv;have:=List.eq_of_mem_replicate hv;subst this;rfl)
  refine⟨_,this.trans (by rw[hl];rfl),?_,below_setRow hbu (Nat.le_refl _) _⟩
  rw[setRow_heap u _ _ _ 3 _ hu,<- rpL_splice (by omega)]
  simp[splice]
 obtain⟨u1,hc1,H1⟩:∃ u1,(Builtin.copy_ #[22,22] 3 #[.slice (some ⟨w.heap.size,0,none⟩) n n,.slice (some ⟨b,0,none⟩) 1 1]).run Tryz.prog (w.alloc (.cells (rpL n 0).toArray 3))=.ok (.int .i64 1) u1/\Hid (u1.heap[w.heap.size]?=some (.cells (rpL n 1).toArray 3 (0,0))/\Below w.heap.size w u1):=by
  have hu:=heap_alloc_new w (.cells (rpL n 0).toArray 3)
  have hl:([Value.int .i64 (-1)]).length=Nat.min 1 n:=by show 1=Nat.min 1 n;exact (Nat.min_eq_left hn.1).symm
  have:=run_copy_row (P:=Tryz.prog) (w.alloc (.cells (rpL n 0).toArray 3)) 22 22 3 3 w.heap.size 0 n n ⟨b,0,none⟩ 1 1 (rpL n 0).toArray 3 [.int .i64 (-1)] Tryz.underlying22 HSZ.out hu hl (fun j v hj=>by
   cases j with
   | zero=>simp at hj;subst hj;exact ((below_alloc w _).cell (p:=⟨b,0,none⟩) HB.out.2).trans HB.out.1
   | succ j=>simp at hj) (by simp;rw[rpL_len (by omega)];omega) (by intro v hv;simp at hv;subst hv;rfl)
  refine⟨_,this,?_,below_setRow (below_alloc _ _) (Nat.le_refl _) _⟩
  rw[setRow_heap _ _ _ _ 3 _ hu,show rpL n 1=rpL n (0+1) from rfl,<- rpL_splice (k:=1) (by omega)]
  simp[splice]
 clear HB HSZ
 go_enter Tryz.func93,Tryz.ntmps93
 go_wp2_with (go_at_call 103;refine (mul_is n (by omega) _).mono ?_;rintro e z1 ⟨rfl,g1⟩; rw[g1];clear g1 z1)
 go_loopw [8] (fun t wr=>∃ m:Nat,1<=m/\m<=n/\t=.int .i64 (m:Int)/\Hid (wr.heap[w.heap.size]?=some (.cells (rpL n m).toArray 3 (0,0))/\Below w.heap.size w wr)) (fun t _=>n-(intOf t).toNat)
 case atStart=>exact⟨1,Nat.le_refl _,hn.1,rfl,H1⟩
 case round=>
  obtain⟨m,hm1,hmn,rfl,HW⟩:=hrel
  by_cases hlt:m<n
  rotate_left
  ·have hmi:¬ ((m:Int)<(n:Int)):=by omega
   have hme:m=n:=by omega
   have HE:Hid (wr.ownsRow w.heap.size 3 1 (.slice (some ⟨w.heap.size,0,none⟩) n n) n (List.replicate n (.int .i64 (-1)))):=by
    have h0:=HW.out.1
    rw[hme,rpL_full]at h0
    exact⟨by simp,.inr ⟨w.heap.size,n,_,rfl,Nat.le_refl _,h0,Nat.le_refl _,by unfold maxLen;omega,by simp,by simp⟩⟩
   clear hme
   go_wp2_with fail
   go_ret
   exact⟨rfl,HE.out,HW.out.2⟩
  have hmi:(m:Int)<(n:Int):=by omega
  obtain⟨u2,hc2,h21,h22⟩:=HCP.out wr.drew m hm1 hlt HW.out.1 (Below.drew HW.out.2)
  obtain⟨k,hk⟩:∃ k,k=min m (n-m):=⟨_,rfl⟩
  have hk1:1<=k/\m+k<=n:=by omega
  rw[<- hk]at hc2 h21
  have H2:Hid (u2.heap[w.heap.size]?=some (.cells (rpL n (m+k)).toArray 3 (0,0))/\Below w.heap.size w u2):=⟨h21,h22⟩
  have hwk:IntKind.i64.wrap ((m:Int)+(k:Int))=(m:Int)+(k:Int):=by rw[IntKind.wrap_i64];omega
  clear hk h21 h22 HCP hc1
  go_upto_region 9 with fail
  go_region
  go_wp2_with fail
  go_roundw
  case rel=>exact⟨m+k,by omega,by omega,by go_num,H2⟩
  case measure=>simp[intOf];omega
end Go.Proofs.YtcgfgmlfbgbkfaaGreatDoor.W
namespace Go.Proofs.YtcgfgmlfbgbkfaaGreatDoor.Pl
def Lx (K:Nat->Int) (x y:Nat):Prop:=K x<K y\/(K x=K y/\x<y)
theorem Lx.trans {K:Nat->Int} {x y z:Nat} (h:Lx K x y) (k:Lx K y z):Lx K x z:=by unfold Lx at *; omega
theorem Lx.irrefl {K:Nat->Int} {x:Nat} (h:Lx K x x):False:=by unfold Lx at h;omega
theorem Lx.yes {K:Nat->Int} {x y:Nat} (h:x<y) (hk:K y<K x):Lx K y x:=.inl hk
theorem Lx.no {K:Nat->Int} {x y:Nat} (h:x<y) (hk:¬ K y<K x):Lx K x y:=by unfold Lx;omega
def Srt (K:Nat->Int) (d:Nat->Nat) (a b:Nat):Prop:=∀ i j,a<=i->i<j->j<b->Lx K (d i) (d j)
theorem Srt.le {K:Nat->Int} {d:Nat->Nat} {a b:Nat} (h:Srt K d a b) {a' b':Nat} (ha:a<=a') (hb:b'<=b):Srt K d a' b':=fun i j h1 h2 h3=>h i j (by omega) h2 (by omega)
theorem Srt.nil {K:Nat->Int} {d:Nat->Nat} {a b:Nat} (h:b<=a+1):Srt K d a b:=fun i j h1 h2 h3=>by omega
theorem Srt.congr {K:Nat->Int} {d d':Nat->Nat} {a b:Nat} (h:Srt K d a b) (he:∀ i,a<=i->i<b->d' i=d i):Srt K d' a b:=fun i j h1 h2 h3=>by rw[he i h1 (by omega),he j (by omega) h3];exact h i j h1 h2 h3
structure Sam (a b:Nat) (d d':Nat->Nat):Prop where
 out:∀ i,(i<a\/b<=i)->d' i=d i
 to_:∀ i,a<=i->i<b->∃ j,a<=j/\j<b/\d' i=d j
 from_:∀ i,a<=i->i<b->∃ j,a<=j/\j<b/\d i=d' j
theorem Sam.refl (a b:Nat) (d:Nat->Nat):Sam a b d d:=⟨fun _ _=>rfl,fun i h1 h2=>⟨i,h1,h2,rfl⟩,fun i h1 h2=>⟨i,h1,h2,rfl⟩⟩
theorem Sam.trans {a b:Nat} {d d' d2:Nat->Nat} (h:Sam a b d d') (k:Sam a b d' d2):Sam a b d d2:=by
 refine⟨fun i hi=>(k.out i hi).trans (h.out i hi),fun i h1 h2=>?_,fun i h1 h2=>?_⟩
 ·obtain⟨j,j1,j2,e⟩:=k.to_ i h1 h2
  obtain⟨q,q1,q2,e2⟩:=h.to_ j j1 j2
  exact⟨q,q1,q2,e.trans e2⟩
 ·obtain⟨j,j1,j2,e⟩:=h.from_ i h1 h2
  obtain⟨q,q1,q2,e2⟩:=k.from_ j j1 j2
  exact⟨q,q1,q2,e.trans e2⟩
theorem Sam.wide {a b a' b':Nat} {d d':Nat->Nat} (h:Sam a b d d') (ha:a'<=a) (hb:b<=b'):Sam a' b' d d':=by
 refine⟨fun i hi=>h.out i (by omega),fun i h1 h2=>?_,fun i h1 h2=>?_⟩
 ·by_cases e:a<=i/\i<b
  ·obtain⟨j,j1,j2,e⟩:=h.to_ i e.1 e.2
   exact⟨j,by omega,by omega,e⟩
  ·exact⟨i,h1,h2,h.out i (by omega)⟩
 ·by_cases e:a<=i/\i<b
  ·obtain⟨j,j1,j2,e⟩:=h.from_ i e.1 e.2
   exact⟨j,by omega,by omega,e⟩
  ·exact⟨i,h1,h2,(h.out i (by omega)).symm⟩
def Apt (d:Nat->Nat) (a m b:Nat):Prop:=∀ i j,a<=i->i<m->m<=j->j<b->d i<d j
def rot (d:Nat->Nat) (s m e:Nat) (k:Nat):Nat:=if s<=k/\k<s+(e-m) then d (k+m-s) else if s+(e-m)<=k/\k<e then d (k+m-e) else d k
def swr (d:Nat->Nat) (a b n:Nat) (k:Nat):Nat:=if a<=k/\k<a+n then d (k+b-a) else if b<=k/\k<b+n then d (k+a-b) else d k
def sw (d:Nat->Nat) (i j:Nat) (k:Nat):Nat:=if k=i then d j else if k=j then d i else d k
theorem swr_zero (d:Nat->Nat) (a b:Nat):swr d a b 0=d:=by
 funext k;unfold swr;rw[if_neg (by omega),if_neg (by omega)]
theorem swr_succ (d:Nat->Nat) (a b t:Nat) (h:a+(t+1)<=b):swr d a b (t+1)=sw (swr d a b t) (a+t) (b+t):=by
 funext k;simp only[swr,sw]
 repeat' split
 all_goals first | rfl | (exfalso;omega) | (congr 1;omega)
theorem rot_nil1 (d:Nat->Nat) (s e:Nat) (h:s<=e):rot d s s e=d:=by
 funext k;simp only[rot]
 repeat' split
 all_goals first | rfl | (exfalso;omega) | (congr 1;omega)
theorem rot_nil2 (d:Nat->Nat) (s m:Nat) (h:s<=m):rot d s m m=d:=by
 funext k;simp only[rot]
 repeat' split
 all_goals first | rfl | (exfalso;omega) | (congr 1;omega)
theorem rot_more (d:Nat->Nat) (m i j:Nat) (hi:i<=m) (hj:j<i) (h0:0<j):rot (swr d (m-i) m j) (m-(i-j)) m (m+j)=rot d (m-i) m (m+j):=by
 funext k;simp only[rot,swr]
 repeat' split
 all_goals first | rfl | (exfalso;omega) | (congr 1;omega)
theorem rot_less (d:Nat->Nat) (m i j:Nat) (hi:i<=m) (hj:i<j) (h0:0<i):rot (swr d (m-i) (m+j-i) i) (m-i) m (m+(j-i))=rot d (m-i) m (m+j):=by
 funext k;simp only[rot,swr]
 repeat' split
 all_goals first | rfl | (exfalso;omega) | (congr 1;omega)
theorem rot_same (d:Nat->Nat) (m i:Nat) (hi:i<=m):swr d (m-i) m i=rot d (m-i) m (m+i):=by
 funext k;simp only[rot,swr]
 repeat' split
 all_goals first | rfl | (exfalso;omega) | (congr 1;omega)
theorem rot_down (d:Nat->Nat) (j m:Nat) (h0:0<j) (hj:j<=m):sw (rot d j m (m+1)) j (j-1)=rot d (j-1) m (m+1):=by
 funext k;simp only[rot,sw]
 repeat' split
 all_goals first | rfl | (exfalso;omega) | (congr 1;omega)
theorem rot_up (d:Nat->Nat) (a k:Nat) (h0:a<=k):sw (rot d a (a+1) (k+1)) k (k+1)=rot d a (a+1) (k+2):=by
 funext q;simp only[rot,sw]
 repeat' split
 all_goals first | rfl | (exfalso;omega) | (congr 1;omega)
theorem rot_lo {d:Nat->Nat} {s m e k:Nat} (h1:s<=k) (h2:k<s+(e-m)):rot d s m e k=d (k+m-s):=by unfold rot;rw[if_pos ⟨h1,h2⟩]
theorem rot_hi {d:Nat->Nat} {s m e k:Nat} (h1:s+(e-m)<=k) (h2:k<e):rot d s m e k=d (k+m-e):=by unfold rot;rw[if_neg (by omega),if_pos ⟨h1,h2⟩]
theorem rot_out {d:Nat->Nat} {s m e k:Nat} (hs:s<=m) (hm:m<=e) (h1:k<s\/e<=k):rot d s m e k=d k:=by unfold rot;rw[if_neg (by omega),if_neg (by omega)]
theorem Sam.rot {a b s m e:Nat} (d:Nat->Nat) (h1:a<=s) (h2:s<=m) (h3:m<=e) (h4:e<=b):Sam a b d (rot d s m e):=by
 refine⟨fun i hi=>rot_out h2 h3 (by omega),fun i q1 q2=>?_,fun i q1 q2=>?_⟩
 ·by_cases c1:i<s\/e<=i
  ·exact⟨i,q1,q2,rot_out h2 h3 c1⟩
  ·by_cases c2:i<s+(e-m)
   ·exact⟨i+m-s,by omega,by omega,rot_lo (by omega) c2⟩
   ·exact⟨i+m-e,by omega,by omega,rot_hi (by omega) (by omega)⟩
 ·by_cases c1:i<s\/e<=i
  ·exact⟨i,q1,q2,(rot_out h2 h3 c1).symm⟩
  ·by_cases c2:i<m
   ·exact⟨i+e-m,by omega,by omega,by rw[rot_hi (by omega) (by omega)];congr 1;omega⟩
   ·exact⟨i+s-m,by omega,by omega,by rw[rot_lo (by omega) (by omega)];congr 1;omega⟩
theorem ins_left {K:Nat->Int} {d:Nat->Nat} {a b i:Nat} (hi:a+1<=i) (hb:i<=b) (hs:Srt K d (a+1) b) (h1:∀ h,a+1<=h->h<i->Lx K (d h) (d a)) (h2:∀ h,i<=h->h<b->Lx K (d a) (d h)):Srt K (rot d a (a+1) i) a b:=by
 have hv:∀ k,a<=k->k<b->(k+1<i/\rot d a (a+1) i k=d (k+1))\/(k+1=i/\rot d a (a+1) i k=d a)\/(i<=k/\rot d a (a+1) i k=d k):=fun k q1 q2=>by
  by_cases c1:k+1<i
  ·exact .inl ⟨c1,by rw[rot_lo q1 (by omega)];congr 1;omega⟩
  ·by_cases c2:k+1=i
   ·exact .inr (.inl ⟨c2,by rw[rot_hi (by omega) (by omega)];congr 1;omega⟩)
   ·exact .inr (.inr ⟨by omega,rot_out (by omega) hi (.inr (by omega))⟩)
 intro x y q1 q2 q3
 rcases hv x q1 (by omega) with ⟨c,e⟩ | ⟨c,e⟩ | ⟨c,e⟩ <;> rcases hv y (by omega) q3 with ⟨c',e'⟩ | ⟨c',e'⟩ | ⟨c',e'⟩ <;> rw[e,e'] <;> first | (exfalso;omega) | exact hs _ _ (by omega) (by omega) (by omega) | exact h1 _ (by omega) (by omega) | exact h2 _ (by omega) (by omega)
theorem ins_right {K:Nat->Int} {d:Nat->Nat} {a m i:Nat} (hi:a<=i) (hm:i<=m) (hs:Srt K d a m) (h1:∀ h,i<=h->h<m->Lx K (d m) (d h)) (h2:∀ h,a<=h->h<i->Lx K (d h) (d m)):Srt K (rot d i m (m+1)) a (m+1):=by
 have hv:∀ k,a<=k->k<m+1->(k<i/\rot d i m (m+1) k=d k)\/(k=i/\rot d i m (m+1) k=d m)\/(i<k/\rot d i m (m+1) k=d (k-1)):=fun k q1 q2=>by
  by_cases c1:k<i
  ·exact .inl ⟨c1,rot_out hm (by omega) (.inl c1)⟩
  ·by_cases c2:k=i
   ·exact .inr (.inl ⟨c2,by rw[rot_lo (by omega) (by omega)];congr 1;omega⟩)
   ·exact .inr (.inr ⟨by omega,by rw[rot_hi (by omega) (by omega)];congr 1;omega⟩)
 intro x y q1 q2 q3
 rcases hv x q1 (by omega) with ⟨c,e⟩ | ⟨c,e⟩ | ⟨c,e⟩ <;> rcases hv y (by omega) q3 with ⟨c',e'⟩ | ⟨c',e'⟩ | ⟨c',e'⟩ <;> rw[e,e'] <;> first | (exfalso;omega) | exact hs _ _ (by omega) (by omega) (by omega) | exact h1 _ (by omega) (by omega) | exact h2 _ (by omega) (by omega)
def smA (a m b:Nat):Nat:=if m>(a+b) / 2 then (a+b) / 2+m-b else a
def smR (a m b:Nat):Nat:=if m>(a+b) / 2 then (a+b) / 2 else m
def Sct (K:Nat->Int) (d:Nat->Nat) (a m b i j:Nat):Prop:=smA a m b<=i/\i<=j/\j<=smR a m b/\(∀ c,smA a m b<=c->c<i->Lx K (d c) (d ((a+b) / 2+m-1-c)))/\∀ c,j<=c->c<smR a m b->Lx K (d ((a+b) / 2+m-1-c)) (d c)
theorem sm_bd {a m b:Nat} (h1:a<m) (h2:m<b):a<=smA a m b/\smA a m b<=smR a m b/\smR a m b<=m/\smR a m b<=(a+b) / 2/\∀ c,smA a m b<=c->c<smR a m b->m<=(a+b) / 2+m-1-c/\(a+b) / 2+m-1-c<b:=by
 unfold smA smR
 split
 ·exact⟨by omega,by omega,by omega,by omega,fun c q1 q2=>by omega⟩
 ·exact⟨by omega,by omega,by omega,by omega,fun c q1 q2=>by omega⟩
theorem Sct.start (K:Nat->Int) (d:Nat->Nat) {a m b:Nat} (h1:a<m) (h2:m<b):Sct K d a m b (smA a m b) (smR a m b):=
 ⟨Nat.le_refl _,(sm_bd h1 h2).2.1,Nat.le_refl _,fun c q1 q2=>by omega,fun c q1 q2=>by omega⟩
theorem Sct.yes {K:Nat->Int} {d:Nat->Nat} {a m b i j c:Nat} (h:Sct K d a m b i j) (h1:a<m) (h2:m<b) (hs:Srt K d a m) (ht:Srt K d m b) (hc:i<=c) (hj:c<j) (hl:Lx K (d c) (d ((a+b) / 2+m-1-c))):Sct K d a m b (c+1) j:=by
 obtain⟨q1,q2,q3,q4,q5⟩:=h
 obtain⟨b1,b2,b3,b4,b5⟩:=sm_bd h1 h2
 refine⟨by omega,by omega,q3,fun e e1 e2=>?_,q5⟩
 by_cases ec:e=c
 ·rw[ec];exact hl
 ·have:=b5 e e1 (by omega)
  have:=b5 c (by omega) (by omega)
  exact ((hs e c (by omega) (by omega) (by omega)).trans hl).trans (ht _ _ (by omega) (by omega) (by omega))
theorem Sct.no {K:Nat->Int} {d:Nat->Nat} {a m b i j c:Nat} (h:Sct K d a m b i j) (h1:a<m) (h2:m<b) (hs:Srt K d a m) (ht:Srt K d m b) (hc:i<=c) (hj:c<j) (hl:Lx K (d ((a+b) / 2+m-1-c)) (d c)):Sct K d a m b i c:=by
 obtain⟨q1,q2,q3,q4,q5⟩:=h
 obtain⟨b1,b2,b3,b4,b5⟩:=sm_bd h1 h2
 refine⟨q1,hc,by omega,q4,fun e e1 e2=>?_⟩
 by_cases ec:e=c
 ·rw[ec];exact hl
 ·have:=b5 e (by omega) e2
  have:=b5 c (by omega) (by omega)
  exact ((ht ((a+b) / 2+m-1-e) ((a+b) / 2+m-1-c) (by omega) (by omega) (by omega)).trans hl).trans (hs c e (by omega) (by omega) (by omega))
structure Cut (K:Nat->Int) (d:Nat->Nat) (a s mid e b:Nat):Prop where
 s1:Srt K d a s
 s2:Srt K d s mid
 s3:Srt K d mid e
 s4:Srt K d e b
 a1:Apt d a s mid
 a2:Apt d mid e b
 lt:∀ i j,a<=i->i<mid->mid<=j->j<b->Lx K (d i) (d j)
theorem Sct.cut {K:Nat->Int} {d:Nat->Nat} {a m b s:Nat} (h:Sct K d a m b s s) (h1:a<m) (h2:m<b) (hs:Srt K d a m) (ht:Srt K d m b) (hn:Apt d a m b):a<=s/\s<=(a+b) / 2/\s<=m/\m<=(a+b) / 2+m-s/\(a+b) / 2<=(a+b) / 2+m-s/\(a+b) / 2+m-s<=b/\Cut K (rot d s m ((a+b) / 2+m-s)) a s ((a+b) / 2) ((a+b) / 2+m-s) b:=by
 obtain⟨q1,q2,q3,q4,q5⟩:=h
 obtain⟨b1,b2,b3,b4,b5⟩:=sm_bd h1 h2
 obtain⟨mid,hmid⟩:∃ mid,mid=(a+b) / 2:=⟨_,rfl⟩
 rw[<- hmid]at q4 q5 b4 b5 ⊢
 have hm1:a<=mid/\mid<=b/\a+b<=2*mid+1/\2*mid<=a+b:=by omega
 have hA:m>mid/\smA a m b=mid+m-b/\smR a m b=mid\/m<=mid/\smA a m b=a/\smR a m b=m:=by
  unfold smA smR
  rw[<- hmid]
  by_cases c:m>mid
  ·exact .inl ⟨c,if_pos c,if_pos c⟩
  ·exact .inr ⟨by omega,if_neg c,if_neg c⟩
 clear hmid
 obtain⟨e,he⟩:∃ e,e=mid+m-s:=⟨_,rfl⟩
 rw[<- he]
 have hsm:s<=mid:=by omega
 have hsm2:s<=m:=by omega
 have hme:m<=e:=by omega
 have hmide:mid<=e:=by omega
 have heb:e<=b:=by omega
 -- the four kinds of places
 have v1:∀ k,a<=k->k<s->rot d s m e k=d k:=fun k x y=>rot_out hsm2 hme (.inl y)
 have v2:∀ k,s<=k->k<mid->rot d s m e k=d (k+m-s):=fun k x y=>rot_lo x (by omega)
 have v3:∀ k,mid<=k->k<e->rot d s m e k=d (k+m-e):=fun k x y=>rot_hi (by omega) y
 have v4:∀ k,e<=k->k<b->rot d s m e k=d k:=fun k x y=>rot_out hsm2 hme (.inr x)
 have lowHigh:∀ i j,a<=i->i<s->e<=j->j<b->Lx K (d i) (d j):=fun i j x1 x2 x3 x4=>by
  have hs1:smA a m b<=s-1:=by omega
  have k1:=q4 (s-1) hs1 (by omega)
  have e1:mid+m-1-(s-1)=e:=by omega
  rw[e1]at k1
  have k2:Lx K (d i) (d e):=if c:i=s-1 then c ▸ k1 else (hs i (s-1) x1 (by omega) (by omega)).trans k1
  exact if c:j=e then c ▸ k2 else k2.trans (ht e j hme (by omega) x4)
 have highLow:∀ i j,m<=i->i<e->s<=j->j<m->Lx K (d i) (d j):=fun i j x1 x2 x3 x4=>by
  have k1:=q5 s (Nat.le_refl _) (by omega)
  have e1:mid+m-1-s=e-1:=by omega
  rw[e1]at k1
  have k2:Lx K (d i) (d s):=if c:i=e-1 then c ▸ k1 else (ht i (e-1) x1 (by omega) (by omega)).trans k1
  exact if c:j=s then c ▸ k2 else k2.trans (hs s j (by omega) (by omega) x4)
 refine⟨by omega,hsm,hsm2,hme,hmide,heb,fun i j x1 x2 x3=>?_,fun i j x1 x2 x3=>?_,fun i j x1 x2 x3=>?_,fun i j x1 x2 x3=>?_,fun i j x1 x2 x3 x4=>?_,fun i j x1 x2 x3 x4=>?_,fun i j x1 x2 x3 x4=>?_⟩
 ·rw[v1 i x1 (by omega),v1 j (by omega) x3];exact hs i j x1 x2 (by omega)
 ·rw[v2 i x1 (by omega),v2 j (by omega) x3];exact ht _ _ (by omega) (by omega) (by omega)
 ·rw[v3 i x1 (by omega),v3 j (by omega) x3];exact hs _ _ (by omega) (by omega) (by omega)
 ·rw[v4 i x1 (by omega),v4 j (by omega) x3];exact ht _ _ (by omega) (by omega) (by omega)
 ·rw[v1 i x1 x2,v2 j x3 x4];exact hn _ _ (by omega) (by omega) (by omega) (by omega)
 ·rw[v3 i x1 x2,v4 j x3 x4];exact hn _ _ (by omega) (by omega) (by omega) (by omega)
 ·by_cases c1:i<s <;> by_cases c2:j<e
  ·rw[v1 i x1 c1,v3 j x3 c2];exact hs _ _ (by omega) (by omega) (by omega)
  ·rw[v1 i x1 c1,v4 j (by omega) x4];exact lowHigh i j x1 c1 (by omega) x4
  ·rw[v2 i (by omega) x2,v3 j x3 c2];exact highLow _ _ (by omega) (by omega) (by omega) (by omega)
  ·rw[v2 i (by omega) x2,v4 j (by omega) x4];exact ht _ _ (by omega) (by omega) (by omega)
theorem Cut.end_ {K:Nat->Int} {d d1 d2:Nat->Nat} {a s mid e b:Nat} (h:Cut K d a s mid e b) (ha:a<=mid) (hb:mid<=b) (h1:Sam a mid d d1) (t1:Srt K d1 a mid) (h2:Sam mid b d1 d2) (t2:Srt K d2 mid b):Srt K d2 a b/\Sam a b d d2:=by
 refine⟨fun i j x1 x2 x3=>?_,(h1.wide (Nat.le_refl _) hb).trans (h2.wide ha (Nat.le_refl _))⟩
 by_cases c1:j<mid
 ·rw[h2.out i (.inl (by omega)),h2.out j (.inl c1)];exact t1 i j x1 x2 c1
 ·by_cases c2:mid<=i
  ·exact t2 i j c2 x2 x3
  ·rw[h2.out i (.inl (by omega))]
   obtain⟨p,p1,p2,pe⟩:=h1.to_ i x1 (by omega)
   obtain⟨q,q1,q2,qe⟩:=h2.to_ j (by omega) x3
   rw[pe,qe,h1.out q (.inr q1)]
   exact h.lt p q p1 p2 q1 q2
def NS (d:Nat->Nat) (c n:Nat):Prop:=∀ q i j,i<q*c->q*c<=j->j<n->d i<d j
theorem NS.asc {d:Nat->Nat} {n:Nat} (h:∀ i j,i<j->j<n->d i<d j) (c:Nat):NS d c n:=fun q i j h1 h2 h3=>h i j (by omega) h3
theorem NS.two {d:Nat->Nat} {c n:Nat} (h:NS d c n):NS d (2*c) n:=fun q i j h1 h2 h3=>h (q*2) i j (by rw[Nat.mul_assoc];exact h1) (by rw[Nat.mul_assoc];exact h2) h3
theorem NS.sam {d d':Nat->Nat} {c n p b:Nat} (h:NS d c n) (hs:Sam (p*c) b d d') (hb:b<=p*c+c) (hn:b<=n):NS d' c n:=fun q i j h1 h2 h3=>by
 have hc:q*c<=p*c\/p*c+c<=q*c:=by
  rcases Nat.lt_or_ge p q with g | g
  ·right;have:=Nat.mul_le_mul_right c (show p+1<=q from g);rw[Nat.add_mul,Nat.one_mul]at this;exact this
  ·left;exact Nat.mul_le_mul_right c g
 obtain⟨i',ei,hi'⟩:∃ i',d' i=d i'/\i'<q*c:=by
  by_cases c1:p*c<=i/\i<b
  ·obtain⟨y,y1,y2,ye⟩:=hs.to_ i c1.1 c1.2
   exact⟨y,ye,by omega⟩
  ·exact⟨i,hs.out i (by omega),h1⟩
 obtain⟨j',ej,hj',hj2⟩:∃ j',d' j=d j'/\q*c<=j'/\j'<n:=by
  by_cases c1:p*c<=j/\j<b
  ·obtain⟨y,y1,y2,ye⟩:=hs.to_ j c1.1 c1.2
   exact⟨y,ye,by omega,by omega⟩
  ·exact⟨j,hs.out j (by omega),h2,h3⟩
 rw[ei,ej]
 exact h q i' j' hi' hj' hj2
def BS (K:Nat->Int) (d:Nat->Nat) (c n q0:Nat):Prop:=∀ q,q<q0->Srt K d (q*c) (min (q*c+c) n)
structure Lvl (K:Nat->Int) (d0 dL d:Nat->Nat) (c n q0:Nat):Prop where
 bs:BS K d c n q0
 ns:NS d c n
 rest:∀ i,q0*c<=i->d i=dL i
 sam:Sam 0 n d0 d
theorem Lvl.next {K:Nat->Int} {d0 dL d d':Nat->Nat} {c n q0 b:Nat} (h:Lvl K d0 dL d c n q0) (hb:b=min (q0*c+c) n) (hc:q0*c<=n) (hs:Sam (q0*c) b d d') (ht:Srt K d' (q0*c) b):Lvl K d0 dL d' c n (q0+1):=by
 have h1:(q0+1)*c=q0*c+c:=by rw[Nat.add_mul,Nat.one_mul]
 refine⟨fun q hq=>?_,h.ns.sam hs (by omega) (by omega),fun i hi=>?_,h.sam.trans (hs.wide (Nat.zero_le _) (by omega))⟩
 ·by_cases e:q=q0
  ·subst e;rw[<- hb];exact ht
  ·have:=Nat.mul_le_mul_right c (show q+1<=q0 by omega)
   rw[Nat.add_mul,Nat.one_mul]at this
   exact (h.bs q (by omega)).congr fun i i1 i2=>hs.out i (.inl (by omega))
 ·rw[hs.out i (.inr (by omega))];exact h.rest i (by omega)
theorem Lvl.all {K:Nat->Int} {d0 dL d:Nat->Nat} {c n q0:Nat} (h:Lvl K d0 dL d c n q0) (hn:n<=q0*c):∀ q,Srt K d (q*c) (min (q*c+c) n):=fun q=>by
 by_cases e:q<q0
 ·exact h.bs q e
 ·have:=Nat.mul_le_mul_right c (show q0<=q by omega)
  exact Srt.nil (by omega)
theorem Lvl.up {K:Nat->Int} {d0 dL d:Nat->Nat} {c n q0:Nat} (h:Lvl K d0 dL d c n q0):Lvl K d0 d d (2*c) n 0:=⟨fun q hq=>by omega,h.ns.two,fun _ _=>rfl,h.sam⟩
theorem Lvl.start {K:Nat->Int} {d:Nat->Nat} {n:Nat} (h:∀ i j,i<j->j<n->d i<d j) (c:Nat):Lvl K d d d c n 0:=⟨fun q hq=>by omega,NS.asc h c,fun _ _=>rfl,Sam.refl _ _ _⟩
theorem Lvl.pre {K:Nat->Int} {d0 dL d:Nat->Nat} {c n q0 b:Nat} (h:Lvl K d0 dL d (2*c) n q0) (hL:∀ q,Srt K dL (q*c) (min (q*c+c) n)) (hN:NS dL c n) (hb:b=min (q0*(2*c)+2*c) n):Srt K d (q0*(2*c)) (min (q0*(2*c)+c) b)/\Srt K d (q0*(2*c)+c) b/\Apt d (q0*(2*c)) (q0*(2*c)+c) b:=by
 have e1:q0*(2*c)=(2*q0)*c:=by rw[<- Nat.mul_assoc,Nat.mul_comm q0 2]
 have e2:(2*q0+1)*c=(2*q0)*c+c:=by rw[Nat.add_mul,Nat.one_mul]
 refine⟨?_,?_,fun i j i1 i2 j1 j2=>?_⟩
 ·have:=hL (2*q0)
  rw[<- e1]at this
  exact (this.le (Nat.le_refl _) (by omega)).congr fun i i1 i2=>h.rest i i1
 ·have:=hL (2*q0+1)
  rw[e2,<- e1]at this
  exact (this.le (Nat.le_refl _) (by omega)).congr fun i i1 i2=>h.rest i (by omega)
 ·rw[h.rest i i1,h.rest j (by omega)]
  exact hN (2*q0+1) i j (by omega) (by omega) (by omega)
end Go.Proofs.YtcgfgmlfbgbkfaaGreatDoor.Pl
namespace Go.Proofs.YtcgfgmlfbgbkfaaGreatDoor.W
open Go.RowKit
def sumN (n:Nat) (g:Nat->Nat):Nat:=match n with
 | 0=>0
 | n+1=>sumN n g+g n
theorem sumN_same {n:Nat} {g h:Nat->Nat} (e:∀ i,i<n->g i=h i):sumN n g=sumN n h:=by
 induction n with
 | zero=>rfl
 | succ n ih=>rw[sumN,sumN,ih (fun i hi=>e i (by omega)),e n (by omega)]
theorem sumN_one {n:Nat} {g h:Nat->Nat} {i0:Nat} (h0:i0<n) (e:∀ i,i<n->i≠i0->g i=h i) (e0:g i0+1=h i0):sumN n g+1=sumN n h:=by
 induction n with
 | zero=>omega
 | succ n ih=>
  rw[sumN,sumN]
  by_cases q:i0=n
  ·subst q
   rw[sumN_same (fun i hi=>e i (by omega) (by omega))];omega
  ·have:=ih (by omega) (fun i hi hn=>e i (by omega) hn)
   rw[e n (by omega) (fun c=>q c.symm)];omega
def un (n R:Nat) (m:Nat->Nat->Bool):Nat:=sumN n fun i=>sumN R fun r=>if m i r=true then 0 else 1
theorem un_set {n R:Nat} {m:Nat->Nat->Bool} {i r:Nat} (hi:i<n) (hr:r<R) (h:m i r=false):un n R (setM m i r)+1=un n R m:=by
 unfold un
 refine sumN_one hi (fun j _ hj=>?_) ?_
 ·rw[setM_other hj]
 ·refine sumN_one hr (fun q _ hq=>?_) ?_
  ·simp[setM,hq]
  ·simp[setM,h]
theorem un_same {n R:Nat} {m m':Nat->Nat->Bool} (h:∀ i r,i<n->r<R->m i r=m' i r):un n R m=un n R m':=by
 unfold un
 exact sumN_same fun i hi=>sumN_same fun r hr=>by rw[h i r hi hr]
noncomputable def unW (n R:Nat) (G:Nat->Nat) (w:World):Nat:=un n R fun i r=>@decide (w.cell? ⟨G i,r,none⟩=some (.bool true)) (Classical.propDecidable _)
structure Ps (f:Pl.IrF) (n R:Nat) (NS:Nat->List Int) (m0 m:Nat->Nat->Bool) (b:Bool) (done:Nat->Nat->Nat->Prop):Prop where
 no:b=false->(∀ i r,i<n->r<R->m i r=m0 i r)/\∀ i q r (j:Nat),i<n->q<(NS i).length->r<R->done i q r->(NS i).getD q 0=(j:Int)->m j r=true->¬ Pl.Se f.code i r->m i r=true
 yes:b=true->un n R m<un n R m0
 le:un n R m<=un n R m0
 live:∀ i r,i<n->r<R->m i r=true->Pl.Live f.code (r:Int) i
 use:∀ i r,i<n->r<R->Pl.Us f.code i (r:Int)->m i r=true
theorem Ps.keep {f:Pl.IrF} {n R:Nat} {NS:Nat->List Int} {m0 m:Nat->Nat->Bool} {b:Bool} {done done':Nat->Nat->Nat->Prop} (h:Ps f n R NS m0 m b done) (hd:∀ i q r,i<n->q<(NS i).length->r<R->done' i q r->done i q r):Ps f n R NS m0 m b done':=
 ⟨fun hb=>⟨(h.no hb).1,fun i q r j hi hq hr d e1 e2 e3=>(h.no hb).2 i q r j hi hq hr (hd i q r hi hq hr d) e1 e2 e3⟩,h.yes,h.le,h.live,h.use⟩
theorem Ps.pass {f:Pl.IrF} {n R:Nat} {NS:Nat->List Int} {m0 m:Nat->Nat->Bool} {b:Bool} {done done':Nat->Nat->Nat->Prop} (h:Ps f n R NS m0 m b done) {i0 q0 r0 j0:Nat} (hj:(NS i0).getD q0 0=(j0:Int)) (hd:∀ i q r,i<n->q<(NS i).length->r<R->done' i q r->done i q r\/(i=i0/\q=q0/\r=r0)) (hn:m j0 r0=true->¬ Pl.Se f.code i0 r0->m i0 r0=true):Ps f n R NS m0 m b done':=
 ⟨fun hb=>⟨(h.no hb).1,fun i q r j hi hq hr d e1 e2 e3=>by
  rcases hd i q r hi hq hr d with d | ⟨rfl,rfl,rfl⟩
  ·exact (h.no hb).2 i q r j hi hq hr d e1 e2 e3
  ·have:j=j0:=by omega
   subst this
   exact hn e2 e3⟩,h.yes,h.le,h.live,h.use⟩
theorem Ps.hit {f:Pl.IrF} {n R:Nat} {NS:Nat->List Int} {m0 m:Nat->Nat->Bool} {b:Bool} {done done':Nat->Nat->Nat->Prop} (h:Ps f n R NS m0 m b done) {i0 r0:Nat} (hi:i0<n) (hr:r0<R) (hm:m i0 r0=false) (hl:Pl.Live f.code (r0:Int) i0):Ps f n R NS m0 (setM m i0 r0) true done':=by
 have hu:=un_set hi hr hm
 refine⟨(fun c=>(by cases c)),fun _=>(by have:=h.le;omega),(by have:=h.le;omega),fun i r h1 h2 h3=>?_,fun i r h1 h2 h3=>?_⟩
 ·by_cases e:i=i0/\r=r0
  ·rw[e.1,e.2];exact hl
  ·simp[setM,e]at h3;exact h.live i r h1 h2 h3
 ·by_cases e:i=i0/\r=r0
  ·simp[setM,e]
  ·simp[setM];exact .inr (h.use i r h1 h2 h3)
theorem Ps.end_ {f:Pl.IrF} (hf:Pl.funOk f) {R:Nat} {NS:Nat->List Int} (hns:∀ i,i<f.code.length->Pl.NxL f.code i (NS i)) {m0 m:Nat->Nat->Bool} {done:Nat->Nat->Nat->Prop} (h:Ps f f.code.length R NS m0 m false done) (hd:∀ i q r,i<f.code.length->q<(NS i).length->r<R->done i q r):∀ i r,i<f.code.length->r<R->(m i r=true↔Pl.Live f.code (r:Int) i):=by
 intro i r hi hr
 refine⟨h.live i r hi hr,fun hl=>?_⟩
 refine Pl.live_least (fun i=>m i r=true) (fun i hi hu=>h.use i r hi hr hu) (fun i j hi hj hn hs hm=>?_) hl
 have hj:((j:Int))∈NS i:=((hns i hi).2 j).2 ⟨j,rfl,hn⟩
 obtain⟨q,hq,hq2⟩:=List.getElem_of_mem hj
 exact (h.no rfl).2 i q r j hi hq hr (hd i q r hi hq hr) (by rw[List.getD_eq_getElem?_getD,List.getElem?_eq_getElem hq];exact hq2) hm hs
end Go.Proofs.YtcgfgmlfbgbkfaaGreatDoor.W
