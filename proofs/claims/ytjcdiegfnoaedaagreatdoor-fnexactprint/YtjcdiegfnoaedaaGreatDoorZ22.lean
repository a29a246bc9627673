import Derived.Test.YtjcdiegfnoaedaaGreatDoorZ21
set_option linter.unusedVariables false
set_option linter.unusedSimpArgs false
set_option maxHeartbeats 16000000
namespace Go.Proofs.YtjcdiegfnoaedaaGreatDoor
namespace W
open Go.RowKit
theorem IL (k:Int) (h:33<=k) (w:World):Calls Tryz.prog 96 #[.int .i64 k] w fun e w'=>zH (Pl.rl k) w e w':=by
 obtain⟨r,hr⟩:∃r,r=Pl.rl k:=⟨_,rfl⟩;have hk:k=33\/k=34\/k=35\/k=36\/k=37\/k=38\/k=39\/k=40\/k=41\/k=42\/k=43\/k=44\/k=45\/k=46\/k=47\/k=48\/k=49\/(¬k=33/\¬k=34/\¬k=35/\¬k=36/\¬k=37/\¬k=38/\¬k=39/\¬k=40/\¬k=41/\¬k=42/\¬k=43/\¬k=44/\¬k=45/\¬k=46/\¬k=47/\¬k=48/\¬k=49):=by omega
 rw[<- hr];rcases hk with rfl|rfl|rfl|rfl|rfl|rfl|rfl|rfl|rfl|rfl|rfl|rfl|rfl|rfl|rfl|rfl|rfl|⟨h33,OZ,h35,h36,h37,h38,LZ,Uo,h41,h42,h43,h44,h45,h46,h47,h48,h49⟩
 rotate_right
 ·have e:Pl.rl k=Pl.Rl.zero:=by
   by_cases q:k<0\/49<k
   ·exact Pl.yU q
   ·obtain rfl:k=0:=by omega
    rfl
  rw[e]at hr;clear e h;subst hr;go_enter Tryz.func96,Tryz.ntmps96;go_wp2;refine bodyPost_ret ?_ rfl (zI rfl (.inl rfl) ?_)
  ·simp[results,Tryz.results96,go_sem,rlV,Pl.Rl.zero]
  ·repeat (first|exact Below.refl _ _|refine Below.alloc ?_ (by simp <;> omega) _)
 all_goals
  subst hr;clear h;go_enter Tryz.func96,Tryz.ntmps96;go_wp2;refine bodyPost_ret ?_ rfl (zI rfl ?_ ?_)
  ·simp[results,Tryz.results96,go_sem];rfl
  ·first|exact .inl rfl|exact .inr ⟨MX w _ _,by decide,by decide⟩
  ·repeat (first|exact Below.refl _ _|refine Below.alloc ?_ (by simp <;> omega) _)
theorem wP (k:Int) (w:World):Calls Tryz.prog 63 #[.int .i64 k] w fun e w'=>zH (Pl.rl k) w e w':=by
 have HT:Hid (k<=6->∀u:World,Calls Tryz.prog 93 #[.int .i64 k] u fun e w'=>zH (Pl.rl k) u e w'):=fun h u=>IJ k h u;have HD:Hid (7<=k/\k<=16->∀u:World,Calls Tryz.prog 94 #[.int .i64 k] u fun e w'=>zH (Pl.rl k) u e w'):=fun h u=>vI k h u;have HS:Hid (17<=k/\k<=32->∀u:World,Calls Tryz.prog 95 #[.int .i64 k] u fun e w'=>zH (Pl.rl k) u e w'):=fun h u=>IK k h u;have HE:Hid (33<=k->∀u:World,Calls Tryz.prog 96 #[.int .i64 k] u fun e w'=>zH (Pl.rl k) u e w'):=fun h u=>IL k h u;generalize Pl.rl k=r at *;obtain⟨rs,sJ,qV,qW,rC,rD,rk,pM,sV⟩:=r;by_cases c1:k<=6
 ·go_enter Tryz.func63,Tryz.ntmps63;go_wp2_with (first|(go_at_call 93;(refine (HT.o c1 _).mono ?_;rintro e u1 ⟨v,rfl,hrow,hb⟩;have HG:Hid (u1.heap[w.heap.size]?=some (.cells #[.int .i64 0,.int .i64 0,.int .i64 0,.int .i64 0,.int .i64 0,.int .i64 0,.slice none 0 0,.int .i64 0,.int .i64 0] 121 (0,0))):=(hb.block _ (by simp)).trans (heap_alloc_new w _);have BH:Hid (Row .i64 (w.heap.size+1) u1 v.a v.len v.cap rk):=hrow.lower (by simp);have HB:Hid (Bw w u1):=(aA _ _).trans (hb.mono (by simp));clear hrow hb))|(refine wpList_store_row rfl 121 _ _ rfl w.heap.size #[.int .i64 rs,.int .i64 sJ,.int .i64 qV,.int .i64 qW,.int .i64 rC,.int .i64 rD,.slice v.a v.len v.cap,.int .i64 pM,.int .i64 sV] ?aFM ?aFN 121 #[.int .i64 0,.int .i64 0,.int .i64 0,.int .i64 0,.int .i64 0,.int .i64 0,.slice none 0 0,.int .i64 0,.int .i64 0] ?aCn ?aCo ?aFO ?aFP ?_;(case aFM=>rfl);(case aFN=>rfl);(case aCn=>exact HG.o);(case aCo=>kernel_rfl);(case aFO=>kernel_rfl);(case aFP=>kernel_rfl)))
  refine bodyPost_ret (v:=.agg #[.int .i64 rs,.int .i64 sJ,.int .i64 qV,.int .i64 qW,.int .i64 rC,.int .i64 rD,.slice v.a v.len v.cap,.int .i64 pM,.int .i64 sV]) ?aFQ rfl ⟨v,rfl,vW BH.o (fun b h1 h2=>setRow_other _ _ _ _ (by omega)) (by simp) (by omega),pK HB.o (Nat.le_refl _) _⟩;refine results_cell_row Tryz.results63 _ _ w.heap.size 121 #[.int .i64 rs,.int .i64 sJ,.int .i64 qV,.int .i64 qW,.int .i64 rC,.int .i64 rD,.slice v.a v.len v.cap,.int .i64 pM,.int .i64 sV] (0,0) _ ?aFR ?aCn Tryz.underlying121 ?aFS ?aCo
  case aFR=>rfl
  case aCn=>exact setRow_heap _ _ _ _ _ _ HG.o
  case aFS=>rfl
  case aCo=>kernel_rfl
 by_cases c2:k<=16
 ·go_enter Tryz.func63,Tryz.ntmps63;go_wp2_with (first|(go_at_call 94;refine (HD.o ⟨by omega,c2⟩ _).mono ?_;rintro e u1 ⟨v,rfl,hrow,hb⟩;have HG:Hid (u1.heap[w.heap.size]?=some (.cells #[.int .i64 0,.int .i64 0,.int .i64 0,.int .i64 0,.int .i64 0,.int .i64 0,.slice none 0 0,.int .i64 0,.int .i64 0] 121 (0,0))):=(hb.block _ (by simp)).trans (heap_alloc_new w _);have BH:Hid (Row .i64 (w.heap.size+1) u1 v.a v.len v.cap rk):=hrow.lower (by simp);have HB:Hid (Bw w u1):=(aA _ _).trans (hb.mono (by simp));clear hrow hb)|(refine wpList_store_row rfl 121 _ _ rfl w.heap.size #[.int .i64 rs,.int .i64 sJ,.int .i64 qV,.int .i64 qW,.int .i64 rC,.int .i64 rD,.slice v.a v.len v.cap,.int .i64 pM,.int .i64 sV] ?aFT ?aFU 121 #[.int .i64 0,.int .i64 0,.int .i64 0,.int .i64 0,.int .i64 0,.int .i64 0,.slice none 0 0,.int .i64 0,.int .i64 0] ?aCp ?aCq ?aFV ?aFW ?_;(case aFT=>rfl);(case aFU=>rfl);(case aCp=>exact HG.o);(case aCq=>kernel_rfl);(case aFV=>kernel_rfl);(case aFW=>kernel_rfl)))
  refine bodyPost_ret (v:=.agg #[.int .i64 rs,.int .i64 sJ,.int .i64 qV,.int .i64 qW,.int .i64 rC,.int .i64 rD,.slice v.a v.len v.cap,.int .i64 pM,.int .i64 sV]) ?aFX rfl ⟨v,rfl,vW BH.o (fun b h1 h2=>setRow_other _ _ _ _ (by omega)) (by simp) (by omega),pK HB.o (Nat.le_refl _) _⟩;refine results_cell_row Tryz.results63 _ _ w.heap.size 121 #[.int .i64 rs,.int .i64 sJ,.int .i64 qV,.int .i64 qW,.int .i64 rC,.int .i64 rD,.slice v.a v.len v.cap,.int .i64 pM,.int .i64 sV] (0,0) _ ?aFY ?aCp Tryz.underlying121 ?aFZ ?aCq
  case aFY=>rfl
  case aCp=>exact setRow_heap _ _ _ _ _ _ HG.o
  case aFZ=>rfl
  case aCq=>kernel_rfl
 by_cases c3:k<=32
 ·go_enter Tryz.func63,Tryz.ntmps63;go_wp2_with (first|(go_at_call 95;refine (HS.o ⟨by omega,c3⟩ _).mono ?_;rintro e u1 ⟨v,rfl,hrow,hb⟩;have HG:Hid (u1.heap[w.heap.size]?=some (.cells #[.int .i64 0,.int .i64 0,.int .i64 0,.int .i64 0,.int .i64 0,.int .i64 0,.slice none 0 0,.int .i64 0,.int .i64 0] 121 (0,0))):=(hb.block _ (by simp)).trans (heap_alloc_new w _);have BH:Hid (Row .i64 (w.heap.size+1) u1 v.a v.len v.cap rk):=hrow.lower (by simp);have HB:Hid (Bw w u1):=(aA _ _).trans (hb.mono (by simp));clear hrow hb)|(refine wpList_store_row rfl 121 _ _ rfl w.heap.size #[.int .i64 rs,.int .i64 sJ,.int .i64 qV,.int .i64 qW,.int .i64 rC,.int .i64 rD,.slice v.a v.len v.cap,.int .i64 pM,.int .i64 sV] ?aF0 ?aF1 121 #[.int .i64 0,.int .i64 0,.int .i64 0,.int .i64 0,.int .i64 0,.int .i64 0,.slice none 0 0,.int .i64 0,.int .i64 0] ?aCr ?aCs ?aF2 ?aF3 ?_;(case aF0=>rfl);(case aF1=>rfl);(case aCr=>exact HG.o);(case aCs=>kernel_rfl);(case aF2=>kernel_rfl);(case aF3=>kernel_rfl)))
  refine bodyPost_ret (v:=.agg #[.int .i64 rs,.int .i64 sJ,.int .i64 qV,.int .i64 qW,.int .i64 rC,.int .i64 rD,.slice v.a v.len v.cap,.int .i64 pM,.int .i64 sV]) ?aF4 rfl ⟨v,rfl,vW BH.o (fun b h1 h2=>setRow_other _ _ _ _ (by omega)) (by simp) (by omega),pK HB.o (Nat.le_refl _) _⟩;refine results_cell_row Tryz.results63 _ _ w.heap.size 121 #[.int .i64 rs,.int .i64 sJ,.int .i64 qV,.int .i64 qW,.int .i64 rC,.int .i64 rD,.slice v.a v.len v.cap,.int .i64 pM,.int .i64 sV] (0,0) _ ?aF5 ?aCr Tryz.underlying121 ?aF6 ?aCs
  case aF5=>rfl
  case aCr=>exact setRow_heap _ _ _ _ _ _ HG.o
  case aF6=>rfl
  case aCs=>kernel_rfl
 go_enter Tryz.func63,Tryz.ntmps63;go_wp2_with (first|(go_at_call 96;refine (HE.o (by omega) _).mono ?_;rintro e u1 ⟨v,rfl,hrow,hb⟩;have HG:Hid (u1.heap[w.heap.size]?=some (.cells #[.int .i64 0,.int .i64 0,.int .i64 0,.int .i64 0,.int .i64 0,.int .i64 0,.slice none 0 0,.int .i64 0,.int .i64 0] 121 (0,0))):=(hb.block _ (by simp)).trans (heap_alloc_new w _);have BH:Hid (Row .i64 (w.heap.size+1) u1 v.a v.len v.cap rk):=hrow.lower (by simp);have HB:Hid (Bw w u1):=(aA _ _).trans (hb.mono (by simp));clear hrow hb)|(refine wpList_store_row rfl 121 _ _ rfl w.heap.size #[.int .i64 rs,.int .i64 sJ,.int .i64 qV,.int .i64 qW,.int .i64 rC,.int .i64 rD,.slice v.a v.len v.cap,.int .i64 pM,.int .i64 sV] ?aF7 ?aF8 121 #[.int .i64 0,.int .i64 0,.int .i64 0,.int .i64 0,.int .i64 0,.int .i64 0,.slice none 0 0,.int .i64 0,.int .i64 0] ?aCt ?aCu ?aF9 ?aGa ?_;(case aF7=>rfl);(case aF8=>rfl);(case aCt=>exact HG.o);(case aCu=>kernel_rfl);(case aF9=>kernel_rfl);(case aGa=>kernel_rfl)))
 refine bodyPost_ret (v:=.agg #[.int .i64 rs,.int .i64 sJ,.int .i64 qV,.int .i64 qW,.int .i64 rC,.int .i64 rD,.slice v.a v.len v.cap,.int .i64 pM,.int .i64 sV]) ?aGb rfl ⟨v,rfl,vW BH.o (fun b h1 h2=>setRow_other _ _ _ _ (by omega)) (by simp) (by omega),pK HB.o (Nat.le_refl _) _⟩;refine results_cell_row Tryz.results63 _ _ w.heap.size 121 #[.int .i64 rs,.int .i64 sJ,.int .i64 qV,.int .i64 qW,.int .i64 rC,.int .i64 rD,.slice v.a v.len v.cap,.int .i64 pM,.int .i64 sV] (0,0) _ ?aGc ?aCt Tryz.underlying121 ?aGd ?aCu
 case aGc=>rfl
 case aCt=>exact setRow_heap _ _ _ _ _ _ HG.o
 case aGd=>rfl
 case aCu=>kernel_rfl
end W
end Go.Proofs.YtjcdiegfnoaedaaGreatDoor
