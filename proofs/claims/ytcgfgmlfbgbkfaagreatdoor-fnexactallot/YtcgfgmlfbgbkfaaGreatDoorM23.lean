import Derived.Test.YtcgfgmlfbgbkfaaGreatDoorM22
import Derived.Test.YtcgfgmlfbgbkfaaGreatDoorM04
import Derived.Test.YtcgfgmlfbgbkfaaGreatDoorM05
import Derived.Test.YtcgfgmlfbgbkfaaGreatDoorM12
import Derived.Test.YtcgfgmlfbgbkfaaGreatDoorM11
set_option linter.unusedVariables false
set_option linter.unusedSimpArgs false
set_option maxHeartbeats 16000000
namespace Go.Proofs.YtcgfgmlfbgbkfaaGreatDoor.W
open Go.RowKit
def orV (p q:Int):Int:=if p=0 then q else p
theorem or_is (g:Nat) (p q:Int) (w:World) (h0:w.cell? ⟨g,0,none⟩=some (.int .i64 p)) (h1:w.cell? ⟨g,1,none⟩=some (.int .i64 q)):Calls Tryz.prog 124 #[.slice (some ⟨g,0,none⟩) 2 2] w fun e w'=>e=.returned (.int .i64 (orV p q))/\w'=w:=by
 unfold orV
 by_cases hp:p=0
 ·subst hp
  rw[if_pos rfl]
  by_cases hq:q=0
  ·subst hq
   go_enter Tryz.func124,Tryz.ntmps124
   go_wp2_with fail
   refine wp_loop_rounds 3 ?_
   rw[rounds_succ]
   go_wp2_with fail
   rw[rounds_succ]
   go_wp2_with fail
   rw[rounds_succ]
   go_wp2_with fail
   go_ret
   exact⟨rfl,rfl⟩
  ·have hb:(q != 0)=true:=by simp[hq]
   have hb2:¬ q=0:=hq
   go_enter Tryz.func124,Tryz.ntmps124
   go_wp2_with fail
   refine wp_loop_rounds 3 ?_
   rw[rounds_succ]
   go_wp2_with fail
   rw[rounds_succ]
   go_wp2_with fail
   go_ret
   exact⟨rfl,rfl⟩
 ·rw[if_neg hp]
  have hb:(p != 0)=true:=by simp[hp]
  go_enter Tryz.func124,Tryz.ntmps124
  go_wp2_with fail
  refine wp_loop_rounds 3 ?_
  rw[rounds_succ]
  go_wp2_with fail
  go_ret
  exact⟨rfl,rfl⟩
def LgMk (ga gs N cs x y:Nat) (tx ty:Int) (H:Nat) (c1 c2 c3 c4 c5 c6 c9 c10 c11 c12 c13 c14 c15 c16 c17 c18 c19 c20 c21 c22 c23 c24 c25 c26 c27 c51 c52 c53 d28 d29 d30 d31 d32 d33 d34 d35 d36 d37 d38 d39 d40 d41 d42 d43 d44 d45 d46 d47 d48 d49 d50:Value)  (L:Array Bool):Act:={ tmps:=#[.pointer (some ⟨ga,0,none⟩),c1,c2,c3,c4,c5,c6,.int .i64 ((x:Int)),.int .i64 ((y:Int)),c9,c10,c11,c12,c13,c14,c15,c16,c17,c18,c19,c20,c21,c22,c23,c24,c25,c26,c27,sld d28 L 0 (.pointer (some ⟨ga,0,none⟩)),sld d29 L 1 (.pointer (some ⟨ga,0,none⟩)),sld d30 L 2 (.pointer (some ⟨ga,0,none⟩)),sld d31 L 3 (.slice (some ⟨gs,0,none⟩) N cs),sld d32 L 4 (.int .i64 ((x:Int))),sld d33 L 5 (.pointer (some ⟨gs,x*3,none⟩)),sld d34 L 6 (.pointer (some ⟨gs,x*3+1,none⟩)),sld d35 L 7 (.int .i64 (tx)),sld d36 L 8 (.pointer (some ⟨ga,0,none⟩)),sld d37 L 9 (.pointer (some ⟨ga,0,none⟩)),sld d38 L 10 (.pointer (some ⟨ga,0,none⟩)),sld d39 L 11 (.slice (some ⟨gs,0,none⟩) N cs),sld d40 L 12 (.int .i64 ((y:Int))),sld d41 L 13 (.pointer (some ⟨gs,y*3,none⟩)),sld d42 L 14 (.pointer (some ⟨gs,y*3+1,none⟩)),sld d43 L 15 (.int .i64 (ty)),sld d44 L 16 (.int .i64 (cmpV tx ty)),sld d45 L 17 (.int .i64 ((x:Int))),sld d46 L 18 (.int .i64 ((y:Int))),sld d47 L 19 (.int .i64 (cmpV (x:Int) (y:Int))),sld d48 L 20 (.slice (some ⟨H,0,none⟩) 2 2),sld d49 L 21 (.int .i64 (orV (cmpV tx ty) (cmpV (x:Int) (y:Int)))),sld d50 L 22 (.bool (decide (0<orV (cmpV tx ty) (cmpV (x:Int) (y:Int))))),c51,c52,c53],defers:=[] }
def LgW (u:World) (p q:Int) (L:Array Bool) (w:World):Prop:=(up L 20=false->w=u)/\(up L 20=true->w=u.alloc (.cells #[.int .i64 p,.int .i64 q] 3))
theorem LgW.keep {u:World} {p q:Int} {L:Array Bool} {w:World} (h:LgW u p q L w) {i:Nat} (hi:i<L.size) (n:i≠20):LgW u p q (L.setIfInBounds i true) w:=by
 unfold LgW at h ⊢
 rw[up_set hi,if_neg n]
 exact h
theorem LgW.cell {u:World} {p q:Int} {L:Array Bool} {w:World} (h:LgW u p q L w) {a:Addr} {z:Value} (hc:u.cell? a=some z):w.cell? a=some z:=by
 cases e:up L 20
 ·rw[h.1 e];exact hc
 ·rw[h.2 e];exact alloc_cellA hc _
noncomputable def lgC (n:Nat):Code:=((Tryz.f111.body.bind (codeAt n)).getD .skip)
set_option maxRecDepth 100000 in
theorem lg7 (ga gs N cs x y:Nat) (tx ty:Int) (c1 c2 c3 c4 c5 c6 c9 c10 c11 c12 c13 c14 c15 c16 c17 c18 c19 c20 c21 c22 c23 c24 c25 c26 c27 c51 c52 c53 d28 d29 d30 d31 d32 d33 d34 d35 d36 d37 d38 d39 d40 d41 d42 d43 d44 d45 d46 d47 d48 d49 d50:Value) (Y:World) (hS:Y.cell? ⟨ga,0,none⟩=some (.slice (some ⟨gs,0,none⟩) N cs)) (hx:Y.cell? ⟨gs,x*3+1,none⟩=some (.int .i64 tx)) (hy:Y.cell? ⟨gs,y*3+1,none⟩=some (.int .i64 ty)) (hxN:x<N) (hyN:y<N) (hN:N<=4000) (Q:Exit->Act->World->Prop)
  (hK:Q .normal { tmps:=#[.pointer (some ⟨ga,0,none⟩),c1,c2,c3,c4,c5,c6,.int .i64 ((x:Int)),.int .i64 ((y:Int)),c9,c10,c11,c12,c13,c14,c15,c16,c17,c18,c19,c20,c21,c22,c23,c24,c25,c26,c27,.pointer (some ⟨ga,0,none⟩),.pointer (some ⟨ga,0,none⟩),.pointer (some ⟨ga,0,none⟩),.slice (some ⟨gs,0,none⟩) N cs,.int .i64 ((x:Int)),.pointer (some ⟨gs,x*3,none⟩),.pointer (some ⟨gs,x*3+1,none⟩),.int .i64 (tx),.pointer (some ⟨ga,0,none⟩),.pointer (some ⟨ga,0,none⟩),.pointer (some ⟨ga,0,none⟩),.slice (some ⟨gs,0,none⟩) N cs,.int .i64 ((y:Int)),.pointer (some ⟨gs,y*3,none⟩),.pointer (some ⟨gs,y*3+1,none⟩),.int .i64 (ty),.int .i64 (cmpV tx ty),.int .i64 ((x:Int)),.int .i64 ((y:Int)),.int .i64 (cmpV (x:Int) (y:Int)),.slice (some ⟨Y.heap.size,0,none⟩) 2 2,.int .i64 (orV (cmpV tx ty) (cmpV (x:Int) (y:Int))),.bool (decide (0<orV (cmpV tx ty) (cmpV (x:Int) (y:Int)))),c51,c52,c53],defers:=[] } (Y.drew.alloc (.cells #[.int .i64 (cmpV tx ty),.int .i64 (cmpV (x:Int) (y:Int))] 3))) :
  (lgC 7).wp Tryz.prog Q { tmps:=#[.pointer (some ⟨ga,0,none⟩),c1,c2,c3,c4,c5,c6,.int .i64 ((x:Int)),.int .i64 ((y:Int)),c9,c10,c11,c12,c13,c14,c15,c16,c17,c18,c19,c20,c21,c22,c23,c24,c25,c26,c27,d28,d29,d30,d31,d32,d33,d34,d35,d36,d37,d38,d39,d40,d41,d42,d43,d44,d45,d46,d47,d48,d49,d50,c51,c52,c53],defers:=[] } Y:=by
 have HKt:Hid _:=hK
 have hxi:(x:Int)<(N:Int):=by omega
 have hyi:(y:Int)<(N:Int):=by omega
 have hNi:(N:Int)<=4000:=by omega
 have dS:Y.drew.cell? ⟨ga,0,none⟩=some (.slice (some ⟨gs,0,none⟩) N cs):=hS
 have dx:Y.drew.cell? ⟨gs,x*3+1,none⟩=some (.int .i64 tx):=hx
 have dy:Y.drew.cell? ⟨gs,y*3+1,none⟩=some (.int .i64 ty):=hy
 clear hK hS hx hy
 conv=>arg 2;whnf
 refine wp_region_any (by kernel_rfl) ?_
 change wpAny _ _ _ _ _ _ _ (World.drew _)
 refine wpAny_inw (fun L a w=>a=LgMk ga gs N cs x y tx ty Y.drew.heap.size c1 c2 c3 c4 c5 c6 c9 c10 c11 c12 c13 c14 c15 c16 c17 c18 c19 c20 c21 c22 c23 c24 c25 c26 c27 c51 c52 c53 d28 d29 d30 d31 d32 d33 d34 d35 d36 d37 d38 d39 d40 d41 d42 d43 d44 d45 d46 d47 d48 d49 d50 L/\LgW Y.drew (cmpV tx ty) (cmpV (x:Int) (y:Int)) L w) ?done (by kernel_rfl) ?step _ 23 _ _ (by kernel_rfl) ?init (by decide)
 case init=>exact⟨by simp only[LgMk,sld_no (up_init _ _)],fun _=>rfl,fun q=>absurd (q.symm.trans (up_init _ _)) (by decide)⟩
 case step=>
  intro L act w i o hI hlt hs nl hC hd ho K hK
  obtain⟨rfl,hW⟩:=hI
  have hi_lt:i<23:=(Array.getElem?_eq_some_iff.1 ho).1
  rcases (show i=0\/i=1\/i=2\/i=3\/i=4\/i=5\/i=6\/i=7\/i=8\/i=9\/i=10\/i=11\/i=12\/i=13\/i=14\/i=15\/i=16\/i=17\/i=18\/i=19\/i=20\/i=21\/i=22 by omega) with rfl | rfl | rfl | rfl | rfl | rfl | rfl | rfl | rfl | rfl | rfl | rfl | rfl | rfl | rfl | rfl | rfl | rfl | rfl | rfl | rfl | rfl | rfl
  ·change some _=some o at ho
   cases ho
   simp only[LgMk]
   go_simp
   exact hK _ _ ⟨by simp only[LgMk,sld_set hlt,reduceIte,Nat.reduceEqDiff];try rfl,(hW.keep hlt (by decide))⟩
  ·change some _=some o at ho
   cases ho
   have q0:up L 0=true:=hd { on:=0,ground:=.data } (by simp) rfl
   simp only[LgMk,sld_yes q0]
   go_simp
   exact hK _ _ ⟨by simp only[LgMk,sld_set hlt,sld_yes q0,reduceIte,Nat.reduceEqDiff];try rfl,(hW.keep hlt (by decide))⟩
  ·change some _=some o at ho
   cases ho
   have q1:up L 1=true:=hd { on:=1,ground:=.data } (by simp) rfl
   simp only[LgMk,sld_yes q1]
   go_simp
   exact hK _ _ ⟨by simp only[LgMk,sld_set hlt,sld_yes q1,reduceIte,Nat.reduceEqDiff];try rfl,(hW.keep hlt (by decide))⟩
  ·change some _=some o at ho
   cases ho
   have q2:up L 2=true:=hd { on:=2,ground:=.data } (by simp) rfl
   have cx:=hW.cell dS
   simp only[LgMk,sld_yes q2]
   go_simp
   exact hK _ _ ⟨by simp only[LgMk,sld_set hlt,sld_yes q2,reduceIte,Nat.reduceEqDiff];try rfl,(hW.keep hlt (by decide))⟩
  ·change some _=some o at ho
   cases ho
   simp only[LgMk]
   go_simp
   exact hK _ _ ⟨by simp only[LgMk,sld_set hlt,reduceIte,Nat.reduceEqDiff];try rfl,(hW.keep hlt (by decide))⟩
  ·change some _=some o at ho
   cases ho
   have q3:up L 3=true:=hd { on:=3,ground:=.data } (by simp) rfl
   have q4:up L 4=true:=hd { on:=4,ground:=.data } (by simp) rfl
   simp only[LgMk,sld_yes q3,sld_yes q4]
   go_simp
   exact hK _ _ ⟨by simp only[LgMk,sld_set hlt,sld_yes q3,sld_yes q4,reduceIte,Nat.reduceEqDiff];try rfl,(hW.keep hlt (by decide))⟩
  ·change some _=some o at ho
   cases ho
   have q5:up L 5=true:=hd { on:=5,ground:=.data } (by simp) rfl
   simp only[LgMk,sld_yes q5]
   go_simp
   exact hK _ _ ⟨by simp only[LgMk,sld_set hlt,sld_yes q5,reduceIte,Nat.reduceEqDiff];try rfl,(hW.keep hlt (by decide))⟩
  ·change some _=some o at ho
   cases ho
   have q6:up L 6=true:=hd { on:=6,ground:=.data } (by simp) rfl
   have cx:=hW.cell dx
   simp only[LgMk,sld_yes q6]
   go_simp
   exact hK _ _ ⟨by simp only[LgMk,sld_set hlt,sld_yes q6,reduceIte,Nat.reduceEqDiff];try rfl,(hW.keep hlt (by decide))⟩
  ·change some _=some o at ho
   cases ho
   simp only[LgMk]
   go_simp
   exact hK _ _ ⟨by simp only[LgMk,sld_set hlt,reduceIte,Nat.reduceEqDiff];try rfl,(hW.keep hlt (by decide))⟩
  ·change some _=some o at ho
   cases ho
   have q8:up L 8=true:=hd { on:=8,ground:=.data } (by simp) rfl
   simp only[LgMk,sld_yes q8]
   go_simp
   exact hK _ _ ⟨by simp only[LgMk,sld_set hlt,sld_yes q8,reduceIte,Nat.reduceEqDiff];try rfl,(hW.keep hlt (by decide))⟩
  ·change some _=some o at ho
   cases ho
   have q9:up L 9=true:=hd { on:=9,ground:=.data } (by simp) rfl
   simp only[LgMk,sld_yes q9]
   go_simp
   exact hK _ _ ⟨by simp only[LgMk,sld_set hlt,sld_yes q9,reduceIte,Nat.reduceEqDiff];try rfl,(hW.keep hlt (by decide))⟩
  ·change some _=some o at ho
   cases ho
   have q10:up L 10=true:=hd { on:=10,ground:=.data } (by simp) rfl
   have cx:=hW.cell dS
   simp only[LgMk,sld_yes q10]
   go_simp
   exact hK _ _ ⟨by simp only[LgMk,sld_set hlt,sld_yes q10,reduceIte,Nat.reduceEqDiff];try rfl,(hW.keep hlt (by decide))⟩
  ·change some _=some o at ho
   cases ho
   simp only[LgMk]
   go_simp
   exact hK _ _ ⟨by simp only[LgMk,sld_set hlt,reduceIte,Nat.reduceEqDiff];try rfl,(hW.keep hlt (by decide))⟩
  ·change some _=some o at ho
   cases ho
   have q11:up L 11=true:=hd { on:=11,ground:=.data } (by simp) rfl
   have q12:up L 12=true:=hd { on:=12,ground:=.data } (by simp) rfl
   simp only[LgMk,sld_yes q11,sld_yes q12]
   go_simp
   exact hK _ _ ⟨by simp only[LgMk,sld_set hlt,sld_yes q11,sld_yes q12,reduceIte,Nat.reduceEqDiff];try rfl,(hW.keep hlt (by decide))⟩
  ·change some _=some o at ho
   cases ho
   have q13:up L 13=true:=hd { on:=13,ground:=.data } (by simp) rfl
   simp only[LgMk,sld_yes q13]
   go_simp
   exact hK _ _ ⟨by simp only[LgMk,sld_set hlt,sld_yes q13,reduceIte,Nat.reduceEqDiff];try rfl,(hW.keep hlt (by decide))⟩
  ·change some _=some o at ho
   cases ho
   have q14:up L 14=true:=hd { on:=14,ground:=.data } (by simp) rfl
   have cx:=hW.cell dy
   simp only[LgMk,sld_yes q14]
   go_simp
   exact hK _ _ ⟨by simp only[LgMk,sld_set hlt,sld_yes q14,reduceIte,Nat.reduceEqDiff];try rfl,(hW.keep hlt (by decide))⟩
  ·change some _=some o at ho
   cases ho
   have q7:up L 7=true:=hd { on:=7,ground:=.data } (by simp) rfl
   have q15:up L 15=true:=hd { on:=15,ground:=.data } (by simp) rfl
   simp only[LgMk,sld_yes q7,sld_yes q15]
   go_simp
   go_at_call 107
   refine (compare_is _ _ _).mono ?_
   rintro e u9 ⟨rfl,rfl⟩
   exact hK _ _ ⟨by simp only[LgMk,sld_set hlt,sld_yes q7,sld_yes q15,reduceIte,Nat.reduceEqDiff];try rfl,(hW.keep hlt (by decide))⟩
  ·change some _=some o at ho
   cases ho
   simp only[LgMk]
   go_simp
   exact hK _ _ ⟨by simp only[LgMk,sld_set hlt,reduceIte,Nat.reduceEqDiff];try rfl,(hW.keep hlt (by decide))⟩
  ·change some _=some o at ho
   cases ho
   simp only[LgMk]
   go_simp
   exact hK _ _ ⟨by simp only[LgMk,sld_set hlt,reduceIte,Nat.reduceEqDiff];try rfl,(hW.keep hlt (by decide))⟩
  ·change some _=some o at ho
   cases ho
   have q17:up L 17=true:=hd { on:=17,ground:=.data } (by simp) rfl
   have q18:up L 18=true:=hd { on:=18,ground:=.data } (by simp) rfl
   simp only[LgMk,sld_yes q17,sld_yes q18]
   go_simp
   go_at_call 107
   refine (compare_is _ _ _).mono ?_
   rintro e u9 ⟨rfl,rfl⟩
   exact hK _ _ ⟨by simp only[LgMk,sld_set hlt,sld_yes q17,sld_yes q18,reduceIte,Nat.reduceEqDiff];try rfl,(hW.keep hlt (by decide))⟩
  ·change some _=some o at ho
   cases ho
   have q16:up L 16=true:=hd { on:=16,ground:=.data } (by simp) rfl
   have q19:up L 19=true:=hd { on:=19,ground:=.data } (by simp) rfl
   obtain rfl:=hW.1 nl
   simp only[LgMk,sld_yes q16,sld_yes q19]
   go_simp
   exact hK _ _ ⟨by simp only[LgMk,sld_set hlt,sld_yes q16,sld_yes q19,reduceIte,Nat.reduceEqDiff];try rfl,⟨fun q=>absurd (q.symm.trans ((up_set hlt _).trans (if_pos rfl))) (by decide),fun _=>rfl⟩⟩
  ·change some _=some o at ho
   cases ho
   have q20:up L 20=true:=hd { on:=20,ground:=.data } (by simp) rfl
   have cy:=hW.2 q20
   subst cy
   simp only[LgMk,sld_yes q20]
   go_simp
   go_at_call 124
   refine (or_is _ (cmpV tx ty) (cmpV (x:Int) (y:Int)) _ (by simp) (by simp)).mono ?_
   rintro e u9 ⟨rfl,rfl⟩
   exact hK _ _ ⟨by simp only[LgMk,sld_set hlt,sld_yes q20,reduceIte,Nat.reduceEqDiff];try rfl,(hW.keep hlt (by decide))⟩
  ·change some _=some o at ho
   cases ho
   have q21:up L 21=true:=hd { on:=21,ground:=.data } (by simp) rfl
   simp only[LgMk,sld_yes q21]
   go_simp
   exact hK _ _ ⟨by simp only[LgMk,sld_set hlt,sld_yes q21,reduceIte,Nat.reduceEqDiff];try rfl,(hW.keep hlt (by decide))⟩
 case done=>
  rintro L a w ⟨rfl,hW⟩ hall
  obtain rfl:=hW.2 (hall 20 (by decide))
  simp only[LgMk,sld_yes (hall 0 (by decide)),sld_yes (hall 1 (by decide)),sld_yes (hall 2 (by decide)),sld_yes (hall 3 (by decide)),sld_yes (hall 4 (by decide)),sld_yes (hall 5 (by decide)),sld_yes (hall 6 (by decide)),sld_yes (hall 7 (by decide)),sld_yes (hall 8 (by decide)),sld_yes (hall 9 (by decide)),sld_yes (hall 10 (by decide)),sld_yes (hall 11 (by decide)),sld_yes (hall 12 (by decide)),sld_yes (hall 13 (by decide)),sld_yes (hall 14 (by decide)),sld_yes (hall 15 (by decide)),sld_yes (hall 16 (by decide)),sld_yes (hall 17 (by decide)),sld_yes (hall 18 (by decide)),sld_yes (hall 19 (by decide)),sld_yes (hall 20 (by decide)),sld_yes (hall 21 (by decide)),sld_yes (hall 22 (by decide))]
  exact HKt.out
theorem or_pos {tx ty x y:Int}:0<orV (cmpV tx ty) (cmpV x y)↔ty<tx\/(tx=ty/\y<x):=by
 unfold orV cmpV
 by_cases h1:tx<ty
 ·rw[if_pos h1,if_neg (by decide)];constructor <;> intro h <;> omega
 ·rw[if_neg h1]
  by_cases h2:ty<tx
  ·rw[if_pos h2,if_neg (by decide)];constructor <;> intro h <;> omega
  ·rw[if_neg h2,if_pos rfl]
   by_cases h3:x<y
   ·rw[if_pos h3];constructor <;> intro h <;> omega
   ·rw[if_neg h3]
    by_cases h4:y<x
    ·rw[if_pos h4];constructor <;> intro h <;> omega
    ·rw[if_neg h4];constructor <;> intro h <;> omega
def Bst (S:Nat->Pl.Sp) (lo:Nat) (ow:Nat->Int) (k b:Nat):Prop:=lo<=b/\b<16/\∀ j,lo<=j->(j<k\/j=4)->j≠b->Pl.Ls S (ow j).toNat (ow b).toNat
def LgSaid (S:Nat->Pl.Sp) (lo:Nat) (ow:Nat->Int) (w:World) (e:Ending) (w':World):Prop:=(∃ k:Nat,e=.returned (.int .i64 (k:Int))/\Pl.Lng S lo ow k)/\Below w.heap.size w w'
set_option maxRecDepth 100000 in
theorem longest_is {lo:Nat} {B:World} {X:Nat->Prop} {B2:World} {ga:Nat} {sa:Option Addr} {N cs gp cp:Nat} {S:Nat->Pl.Sp} {pl:Nat->Pl.Pc} {ow:Nat->Int} {sp:Int} (cr:Bool) (w:World) (h:As1 lo B X B2 ga sa N cs gp cp S (pl) (ow) (sp) w) (hN:N<=4000) (hS:RS B sa N S) (ho:∀ k,Pl.lo4 cr<=k->k<16->∃ q:Nat,q<N/\ow k=q) (hinj:∀ j k,j<16->k<16->ow j=ow k->ow j≠-1->j=k) :
  Calls Tryz.prog 111 #[.pointer (some ⟨ga,0,none⟩),.bool cr] w fun e w'=>LgSaid S (Pl.lo4 cr) ow w e w':=by
 have H0:Hid ((As1 lo B X B2 ga sa N cs gp cp S (pl) (ow) (sp) w)/\RS B sa N S/\(∀ k,Pl.lo4 cr<=k->k<16->∃ q:Nat,q<N/\ow k=q)/\(∀ j k,j<16->k<16->ow j=ow k->ow j≠-1->j=k)):=⟨h,hS,ho,hinj⟩
 obtain⟨C,P,ua,ul,uc,hu,ka,kl,kc,hk,hA⟩:=h
 have c0:w.cell? ⟨ga,4,none⟩=some (.int .i64 (ow 0)):=hA.cell (hA.c4 0 (by decide))
 have c1:w.cell? ⟨ga,5,none⟩=some (.int .i64 (ow 1)):=hA.cell (hA.c4 1 (by decide))
 have c2:w.cell? ⟨ga,6,none⟩=some (.int .i64 (ow 2)):=hA.cell (hA.c4 2 (by decide))
 have c3:w.cell? ⟨ga,7,none⟩=some (.int .i64 (ow 3)):=hA.cell (hA.c4 3 (by decide))
 have c4:w.cell? ⟨ga,8,none⟩=some (.int .i64 (ow 4)):=hA.cell (hA.c4 4 (by decide))
 have c5:w.cell? ⟨ga,9,none⟩=some (.int .i64 (ow 5)):=hA.cell (hA.c4 5 (by decide))
 have c6:w.cell? ⟨ga,10,none⟩=some (.int .i64 (ow 6)):=hA.cell (hA.c4 6 (by decide))
 have c7:w.cell? ⟨ga,11,none⟩=some (.int .i64 (ow 7)):=hA.cell (hA.c4 7 (by decide))
 have c8:w.cell? ⟨ga,12,none⟩=some (.int .i64 (ow 8)):=hA.cell (hA.c4 8 (by decide))
 have c9:w.cell? ⟨ga,13,none⟩=some (.int .i64 (ow 9)):=hA.cell (hA.c4 9 (by decide))
 have c10:w.cell? ⟨ga,14,none⟩=some (.int .i64 (ow 10)):=hA.cell (hA.c4 10 (by decide))
 have c11:w.cell? ⟨ga,15,none⟩=some (.int .i64 (ow 11)):=hA.cell (hA.c4 11 (by decide))
 have c12:w.cell? ⟨ga,16,none⟩=some (.int .i64 (ow 12)):=hA.cell (hA.c4 12 (by decide))
 have c13:w.cell? ⟨ga,17,none⟩=some (.int .i64 (ow 13)):=hA.cell (hA.c4 13 (by decide))
 have c14:w.cell? ⟨ga,18,none⟩=some (.int .i64 (ow 14)):=hA.cell (hA.c4 14 (by decide))
 have c15:w.cell? ⟨ga,19,none⟩=some (.int .i64 (ow 15)):=hA.cell (hA.c4 15 (by decide))
 have hgl:=hA.gal
 have HC:Hid (∀ u,Below w.heap.size w u->(∀ k,k<16->u.cell? ⟨ga,4+k,none⟩=some (.int .i64 (ow k)))/\ga<u.heap.size/\∃ gs,(∀ q,q<N->u.cell? ⟨gs,q*3+1,none⟩=some (.int .i64 (S q).tt))/\(0<N->u.cell? ⟨ga,0,none⟩=some (.slice (some ⟨gs,0,none⟩) N cs))):=fun u hu=>by
  refine⟨fun k hk=>(hu.cell (p:=⟨ga,4+k,none⟩) hgl).trans (hA.cell (hA.c4 k hk)),Nat.lt_of_lt_of_le hgl hu.size,?_⟩
  have hb:=hA.bel
  have hl:=hA.loB
  have hsz:B.heap.size<=w.heap.size:=hb.size
  have hb2:Below B.heap.size B u:=(show Below B.heap.size B w from hl ▸ hb).trans (hu.mono hsz)
  by_cases hN0:N=0
  ·exact⟨0,fun q hq=>by omega,fun c=>by omega⟩
  ·obtain⟨gs,hsa,hgs,hcell⟩:=(H0.out.2.1.keep hb2).2.resolve_left hN0
   refine⟨gs,fun q hq=>hcell q hq 1 (by omega),fun _=>?_⟩
   have c0:=hA.cell hA.c0
   rw[hsa]at c0
   exact (hu.cell (p:=⟨ga,0,none⟩) hgl).trans c0
 clear hA hS ho hinj
 obtain⟨arr,harr⟩:∃ arr:Array Value,arr=#[.int .i64 (ow 0),.int .i64 (ow 1),.int .i64 (ow 2),.int .i64 (ow 3),.int .i64 (ow 4),.int .i64 (ow 5),.int .i64 (ow 6),.int .i64 (ow 7),.int .i64 (ow 8),.int .i64 (ow 9),.int .i64 (ow 10),.int .i64 (ow 11),.int .i64 (ow 12),.int .i64 (ow 13),.int .i64 (ow 14),.int .i64 (ow 15)]:=⟨_,rfl⟩
 have HARR:Hid (∀ k,k<16->arr[k]?=some (.int .i64 (ow k))):=by
  rw[harr]
  refine fun k hk=>?_
  rcases (show k=0\/k=1\/k=2\/k=3\/k=4\/k=5\/k=6\/k=7\/k=8\/k=9\/k=10\/k=11\/k=12\/k=13\/k=14\/k=15 by omega) with rfl | rfl | rfl | rfl | rfl | rfl | rfl | rfl | rfl | rfl | rfl | rfl | rfl | rfl | rfl | rfl <;> rfl
 go_enter Tryz.func111,Tryz.ntmps111
 go_wp2_with fail
 rw[<- harr]
 clear harr c0 c1 c2 c3 c4 c5 c6 c7 c8 c9 c10 c11 c12 c13 c14 c15
 go_loopw [5,13] (fun s t W=>∃ b k:Nat,k<=16/\b<16/\s=.int .i64 (b:Int)/\t=.int .i64 (k:Int)/\Hid (Bst S (Pl.lo4 cr) ow k b/\Below w.heap.size w W)) (fun _ t _=>16-(intOf t).toNat)
 case atStart=>exact⟨4,0,by omega,by omega,by go_num,rfl,⟨Pl.lo4_le cr,by omega,fun j h1 h2 h3=>by omega⟩,Below.refl _ _⟩
 case round=>
  obtain⟨b,k,hk16,hb16,rfl,rfl,HX⟩:=hrel
  by_cases hlt:k<16
  rotate_left
  ·have hki:¬ (k:Int)<16:=by omega
   have HE:Hid (LgSaid S (Pl.lo4 cr) ow w (.returned (.int .i64 (b:Int))) wr):=⟨⟨b,rfl,HX.out.1.1,HX.out.1.2.1,fun j h1 h2 h3=>HX.out.1.2.2 j h1 (.inl (by omega)) h3⟩,HX.out.2⟩
   go_wp2_with fail
   go_ret
   exact HE.out
  have hki:(k:Int)<16:=by omega
  have ha:=HARR.out k hlt
  have hidx:=fun u=>run_idx16 arr k _ hlt ha u
  clear ha
  by_cases hsk:cr=true/\k<4
  ·obtain⟨hcr,hk4⟩:=hsk
   have hk4i:(k:Int)<4:=by omega
   have HN:Hid (Bst S (Pl.lo4 cr) ow (k+1) b/\Below w.heap.size w wr):=⟨⟨HX.out.1.1,HX.out.1.2.1,fun j h1 h2 h3=>HX.out.1.2.2 j h1 (by subst hcr;have:Pl.lo4 true=4:=rfl;omega) h3⟩,HX.out.2⟩
   subst hcr
   go_wp2_with fail
   exact⟨⟨b,k+1,by omega,hb16,rfl,by go_num,HN⟩,by simp[intOf];omega⟩
  have hlo:Pl.lo4 cr<=k:=by
   cases hcr:cr
   ·exact Nat.zero_le _
   ·show 4<=k
    have:¬ k<4:=fun c=>hsk ⟨hcr,c⟩
    omega
  obtain⟨x,hxN,hox⟩:=H0.out.2.2.1 k hlo hlt
  obtain⟨y,hyN,hoy⟩:=H0.out.2.2.1 b HX.out.1.1 hb16
  obtain⟨hc4,hgl2,gs,hct,hcs⟩:=HC.out wr HX.out.2
  have hb1:=hc4 b hb16
  have hcs0:=hcs (by omega)
  have hcx:=hct x hxN
  have hcy:=hct y hyN
  rw[hoy]at hb1
  rw[hox]at hidx
  have hbi:(b:Int)<16:=by omega
  have HOX:Hid (ow k=(x:Int)/\ow b=(y:Int)):=⟨hox,hoy⟩
  obtain⟨tx,htx⟩:∃ tx,tx=(S x).tt:=⟨_,rfl⟩
  obtain⟨ty,hty⟩:∃ ty,ty=(S y).tt:=⟨_,rfl⟩
  rw[<- htx]at hcx
  rw[<- hty]at hcy
  have HT:Hid (tx=(S x).tt/\ty=(S y).tt):=⟨htx,hty⟩
  have HW:Hid (∀ o:Obj,Below w.heap.size w (wr.drew.alloc o)):=fun o=>HX.out.2.trans ((Below.drew (Below.refl w.heap.size wr)).alloc (show w.heap.size<=wr.heap.size from HX.out.2.size) o)
  have HST:Hid (if 0<orV (cmpV tx ty) (cmpV (x:Int) (y:Int)) then Bst S (Pl.lo4 cr) ow (k+1) k else Bst S (Pl.lo4 cr) ow (k+1) b):=by
   show ite _ _ _
   have ex:(ow k).toNat=x:=by rw[hox];rfl
   have ey:(ow b).toNat=y:=by rw[hoy];rfl
   split
   ·rename_i hp
    rw[or_pos]at hp
    have hl:Pl.Ls S (ow b).toNat (ow k).toNat:=by rw[ex,ey];unfold Pl.Ls;omega
    refine⟨hlo,hlt,fun j h1 h2 h3=>?_⟩
    by_cases c:j=b
    ·rw[c];exact hl
    ·exact (HX.out.1.2.2 j h1 (by omega) c).trans hl
   ·rename_i hp
    rw[or_pos]at hp
    refine⟨HX.out.1.1,hb16,fun j h1 h2 h3=>?_⟩
    by_cases c:j=k
    ·subst c
     have hxy:x≠y:=fun e=>h3 (H0.out.2.2.2 j b hlt hb16 (by rw[hox,hoy,e]) (by rw[hox];omega))
     rw[ex,ey];unfold Pl.Ls;omega
    ·exact HX.out.1.2.2 j h1 (by omega) h3
  clear hct hc4 hcs htx hty hox hoy
  have hsk2:¬ (cr=true/\k<4):=hsk
  cases hcr:cr
  case' false=>clear hsk hsk2
  case' true=>
   have hk4:¬ (k:Int)<4:=by have:¬ k<4:=fun c=>hsk ⟨hcr,c⟩; omega
   clear hsk hsk2
  all_goals (
   rw[hcr]at HST HX
   clear hcr
   go_upto_region 7 with fail
   refine lg7 ga gs N cs x y tx ty _ _ _ _ _ _ _ _ _ _ _ _ _ _ _ _ _ _ _ _ _ _ _ _ _ _ _ _ _ _ _ _ _ _ _ _ _ _ _ _ _ _ _ _ _ _ _ _ _ _ _ wr hcs0 hcx hcy hxN hyN hN _ ?_
   dsimp only
   by_cases hp:0<orV (cmpV tx ty) (cmpV (x:Int) (y:Int))
   ·have hd:decide (0<orV (cmpV tx ty) (cmpV (x:Int) (y:Int)))=true:=by simp[hp]
    have HN:=HST.out
    rw[if_pos hp]at HN
    have HN2:Hid (Bst S _ ow (k+1) k):=HN
    clear HN hp
    rw[hd]
    go_wp2_with fail
    exact⟨⟨k,k+1,by omega,hlt,rfl,by go_num,HN2.out,HW.out _⟩,by simp[intOf];omega⟩
   ·have hd:decide (0<orV (cmpV tx ty) (cmpV (x:Int) (y:Int)))=false:=by simp;omega
    have HN:=HST.out
    rw[if_neg hp]at HN
    have HN2:Hid (Bst S _ ow (k+1) b):=HN
    clear HN hp
    rw[hd]
    go_wp2_with fail
    exact⟨⟨b,k+1,by omega,hb16,rfl,by go_num,HN2.out,HW.out _⟩,by simp[intOf];omega⟩)
theorem own_some {lo:Nat} {w:World} {a:Option Addr} {l c:Nat} {xs:List Value} (h:w.ownsRow lo 3 1 (.slice a l c) l xs) (hl:0<l):∃ g,a=some ⟨g,0,none⟩:=by
 rcases h.2 with ⟨_,e⟩ | ⟨g,c',cur,e,_⟩
 ·omega
 ·injection e with e1;exact⟨g,e1⟩
def TknU (lo:Nat) (B:World) (X:Nat->Prop) (B2:World) (ga:Nat) (sa:Option Addr) (N cs gp cp:Nat) (S:Nat->Pl.Sp) (pl:Nat->Pl.Pc) (ow:Nat->Int) (sp:Int) (e:Ending) (w':World):Prop:=∃ x:Nat,e=.returned (.iface 3 (.int .i64 (x:Int)))/\((x<4/\ow x=-1)/\∀ y,(y<4/\ow y=-1)->x<=y)/\As lo B X B2 ga sa N cs gp cp S pl ow sp (fun y=>(y<4/\ow y=-1)/\y≠x) (fun x=>4<=x/\x<16/\ow x=-1) w'
theorem popU_is {lo:Nat} {B:World} {X:Nat->Prop} {B2:World} {ga:Nat} {sa:Option Addr} {N cs gp cp:Nat} {S:Nat->Pl.Sp} {pl:Nat->Pl.Pc} {ow:Nat->Int} {sp:Int} (w:World) (h:As1 lo B X B2 ga sa N cs gp cp S (pl) (ow) (sp) w) (hx:∃ x,x<4/\ow x=-1) :
  Calls Tryz.prog 110 #[.iface 195 (.pointer (some ⟨ga,2,none⟩))] w fun e w'=>TknU lo B X B2 ga sa N cs gp cp S pl ow sp e w':=by
 obtain⟨C,P,ua,ul,uc,hu,ka,kl,kc,hk,hA⟩:=h
 have hpos:0<ul:=by
  obtain⟨x,hx⟩:=hx
  obtain⟨i,hi,_⟩:=(hA.uh.mem x).1 hx
  omega
 obtain⟨g,rfl⟩:=own_some hA.uo hpos
 obtain⟨m,rfl⟩:∃ m,ul=m+1:=⟨ul-1,by omega⟩
 have hbd:m+1<=16:=hA.uh.bound (fun x hx=>by omega)
 have hgg:ga≠g:=fun e=>hA.una g rfl e.symm
 refine (heapPop_is ga 2 g m uc hu _ C w (by omega) hA.cb hA.c2 hA.uo hA.uh hgg).mono fun e w' q=>?_
 obtain⟨rfl,h',q1,q2,q3⟩:=q
 obtain⟨p1,p2,_⟩:=hA.uh.pop
 refine⟨hu 0,rfl,⟨p1,fun y hy=>p2 y hy⟩,?_⟩
 have r:=hA.heapU q3 q1 q2 (fun y hy=>by cases hy;exact .inl rfl)
 exact⟨_,_,_,_,_,_,_,_,_,_,r⟩
def TknK (lo:Nat) (B:World) (X:Nat->Prop) (B2:World) (ga:Nat) (sa:Option Addr) (N cs gp cp:Nat) (S:Nat->Pl.Sp) (pl:Nat->Pl.Pc) (ow:Nat->Int) (sp:Int) (e:Ending) (w':World):Prop:=∃ x:Nat,e=.returned (.iface 3 (.int .i64 (x:Int)))/\((4<=x/\x<16/\ow x=-1)/\∀ y,(4<=y/\y<16/\ow y=-1)->x<=y)/\As lo B X B2 ga sa N cs gp cp S pl ow sp (fun x=>x<4/\ow x=-1) (fun y=>(4<=y/\y<16/\ow y=-1)/\y≠x) w'
theorem popK_is {lo:Nat} {B:World} {X:Nat->Prop} {B2:World} {ga:Nat} {sa:Option Addr} {N cs gp cp:Nat} {S:Nat->Pl.Sp} {pl:Nat->Pl.Pc} {ow:Nat->Int} {sp:Int} (w:World) (h:As1 lo B X B2 ga sa N cs gp cp S (pl) (ow) (sp) w) (hx:∃ x,4<=x/\x<16/\ow x=-1) :
  Calls Tryz.prog 110 #[.iface 195 (.pointer (some ⟨ga,3,none⟩))] w fun e w'=>TknK lo B X B2 ga sa N cs gp cp S pl ow sp e w':=by
 obtain⟨C,P,ua,ul,uc,hu,ka,kl,kc,hk,hA⟩:=h
 have hpos:0<kl:=by
  obtain⟨x,hx⟩:=hx
  obtain⟨i,hi,_⟩:=(hA.kh.mem x).1 hx
  omega
 obtain⟨g,rfl⟩:=own_some hA.ko hpos
 obtain⟨m,rfl⟩:∃ m,kl=m+1:=⟨kl-1,by omega⟩
 have hbd:m+1<=16:=hA.kh.bound (fun x hx=>by omega)
 have hgg:ga≠g:=fun e=>hA.kna g rfl e.symm
 refine (heapPop_is ga 3 g m kc hk _ C w (by omega) hA.cb hA.c3 hA.ko hA.kh hgg).mono fun e w' q=>?_
 obtain⟨rfl,h',q1,q2,q3⟩:=q
 obtain⟨p1,p2,_⟩:=hA.kh.pop
 refine⟨hk 0,rfl,⟨p1,fun y hy=>p2 y hy⟩,?_⟩
 have r:=hA.heapK q3 q1 q2 (fun y hy=>by cases hy;exact .inl rfl)
 exact⟨_,_,_,_,_,_,_,_,_,_,r⟩
theorem As.hand {lo:Nat} {B:World} {X:Nat->Prop} {B2:World} {ga:Nat} {sa:Option Addr} {N cs gp cp:Nat} {S:Nat->Pl.Sp} {ow:Nat->Int} {sp:Int} {w:World} {pl':Nat->Pl.Pc} {r x:Nat} {Su Sk:Nat->Prop} (h:As lo B X B2 ga sa N cs gp cp S pl' (Pl.up ow x (r:Int)) sp Su Sk w) (hu:∀ y,Su y↔((y<4/\ow y=-1)/\y≠x)) (hk:∀ y,Sk y↔((4<=y/\y<16/\ow y=-1)/\y≠x)):As1 lo B X B2 ga sa N cs gp cp S (pl') (Pl.up ow x (r:Int)) (sp) w:=by
 refine h.sets (fun y=>?_) (fun y=>?_)
 ·rw[hu y]
  by_cases c:y=x
  ·subst c;rw[Pl.up_i];exact⟨fun q=>by omega,fun q=>absurd rfl q.2⟩
  ·rw[Pl.up_o _ _ c];exact⟨fun q=>⟨q,c⟩,fun q=>q.1⟩
 ·rw[hk y]
  by_cases c:y=x
  ·subst c;rw[Pl.up_i];exact⟨fun q=>by omega,fun q=>absurd rfl q.2⟩
  ·rw[Pl.up_o _ _ c];exact⟨fun q=>⟨q,c⟩,fun q=>q.1⟩
theorem ta_int (x:Int) (w:World):(Instr.typeAssert (.iface 3 (.int .i64 x)) 20 3 false).run Tryz.prog w=.ok (.int .i64 x) w:=by kernel_rfl
def GvSaid (lo:Nat) (B:World) (X:Nat->Prop) (B2:World) (ga:Nat) (sa:Option Addr) (N cs gp cp:Nat) (S:Nat->Pl.Sp) (a:Pl.Al) (r:Nat) (e:Ending) (w':World):Prop:=e=.returned (.tuple #[])/\∃ b,Pl.Gvn S a r b/\As1 lo B X B2 ga sa N cs gp cp S b.pl b.ow b.sp w'
set_option maxRecDepth 100000 in
theorem give_is {lo:Nat} {B:World} {X:Nat->Prop} {B2:World} {ga:Nat} {sa:Option Addr} {N cs gp cp:Nat} {S:Nat->Pl.Sp} {pl:Nat->Pl.Pc} {ow:Nat->Int} {sp:Int} {f:Int} {R:Nat->Prop} (r:Nat) (w:World) (h:As1 lo B X B2 ga sa N cs gp cp S (pl) (ow) (sp) w) (hN:N<=4000) (hS:RS B sa N S) (hG:GvT B) (hO:Pl.Ok S N ⟨pl,ow,sp⟩ f R) (hr:r<N) (hsp:sp<=100000) :
  Calls Tryz.prog 85 #[.pointer (some ⟨ga,0,none⟩),.int .i64 (r:Int)] w fun e w'=>GvSaid lo B X B2 ga sa N cs gp cp S ⟨pl,ow,sp⟩ r e w':=by
 obtain⟨fr,tt,cr,hSr⟩:∃ fr tt cr,S r=⟨fr,tt,cr⟩:=⟨_,_,_,rfl⟩
 have HSR:Hid (S r=⟨fr,tt,cr⟩):=hSr
 obtain⟨b1,b2,b3,b4⟩:=h.bel
 obtain⟨gs,hsa,hgs,hcell⟩:=(hS.keep (show Below B.heap.size B w from b2 ▸ b1)).2.resolve_left (by omega)
 have hsa0:=hsa
 have d0:w.cell? ⟨gs,r*3,none⟩=some (.int .i64 fr):=by have:=hcell r hr 0 (by omega);rw[hSr]at this;exact this
 have d1:w.cell? ⟨gs,r*3+1,none⟩=some (.int .i64 tt):=by have:=hcell r hr 1 (by omega);rw[hSr]at this;exact this
 have d2:w.cell? ⟨gs,r*3+2,none⟩=some (.bool cr):=by have:=hcell r hr 2 (by omega);rw[hSr]at this;exact this
 obtain⟨U,hU⟩:∃ U,U=w.alloc (.cells #[.int .i64 fr,.int .i64 tt,.bool cr] 73):=⟨_,rfl⟩
 have hbU:Below w.heap.size w U:=by rw[hU];exact below_alloc w _
 have hUb:U.heap[w.heap.size]?=some (.cells #[.int .i64 fr,.int .i64 tt,.bool cr] 73 (0,0)):=by rw[hU];exact heap_alloc_new w _
 have hA1:=As1.later h hbU
 have H1:Hid (As1 lo B X B2 ga sa N cs gp cp S (pl) (ow) (sp) U):=hA1
 have HB:Hid (RS B sa N S/\GvT B/\Pl.Ok S N ⟨pl,ow,sp⟩ f R/\U.heap[w.heap.size]?=some (.cells #[.int .i64 fr,.int .i64 tt,.bool cr] 73 (0,0))/\gs<w.heap.size):=⟨hS,hG,hO,hUb,hgs⟩
 have s1:U.cell? ⟨w.heap.size,1,none⟩=some (.int .i64 tt):=by rw[cell_of_row U _ 1 _ _ (0,0) hUb];rfl
 have s2:U.cell? ⟨w.heap.size,2,none⟩=some (.bool cr):=by rw[cell_of_row U _ 2 _ _ (0,0) hUb];rfl
 have hri:(r:Int)<(N:Int):=by omega
 have hNi:(N:Int)<=4000:=by omega
 have e0:w.cell? ⟨ga,0,none⟩=some (.slice (some ⟨gs,0,none⟩) N cs):=by obtain⟨C,P,ua,ul,uc,hu,ka,kl,kc,hk,hA⟩:=h;rw[<- hsa];exact hA.cell hA.c0
 obtain⟨C,P,ua,ul,uc,hu,ka,kl,kc,hk,hA⟩:=hA1
 have c2:=hA.cell hA.c2
 have c3:=hA.cell hA.c3
 have hgl:=hA.gal
 have HU0:Hid (ul=0↔∀ x,¬ (x<4/\ow x=-1)):=hA.uh.zero
 have HK0:Hid (kl=0↔∀ x,¬ (4<=x/\x<16/\ow x=-1)):=hA.kh.zero
 have hul:ul<=16:=hA.uh.bound (fun x hx=>by omega)
 have hkl:kl<=16:=hA.kh.bound (fun x hx=>hx.2.1)
 have hz16:(ul:Int)<=16/\(kl:Int)<=16:=by omega
 clear hA hcell b1 b2 b3 b4 hSr hS hG hO hbU hUb h hsa
 have HSA:Hid (sa=some ⟨gs,0,none⟩):=hsa0
 clear hsa0
 have hta:=fun (x:Nat) (u:World)=>ta_int (x:Int) u
 by_cases hA0:cr=false/\0<ul
 ·obtain⟨rfl,hu0⟩:=hA0
  have hui:(0:Int)<(ul:Int):=by omega
  have HP:Hid (Calls _ _ _ _ _):=popU_is U H1.out (Classical.byContradiction fun c=>by have:=HU0.out.2 (fun x hx=>c ⟨x,hx⟩);omega)
  go_enter Tryz.func85,Tryz.ntmps85
  go_upto_region 7 with fail
  rw[<- hU]
  clear hU d0 d1 d2 e0
  go_wp2_with (first | (go_at_call 108;refine (len_is _ _ ul _ rfl (by omega) _).mono ?_;rintro e u9 ⟨rfl,h9⟩; rw[h9];clear h9) | (go_at_call 110;refine HP.out.mono ?_;rintro e u2 ⟨x,rfl,hx1,hx2⟩; have HX:Hid (((x<4/\ow x=-1)/\∀ y,(y<4/\ow y=-1)->x<=y)/\As lo B X B2 ga sa N cs gp cp S pl ow sp (fun y=>(y<4/\ow y=-1)/\y≠x) (fun x=>4<=x/\x<16/\ow x=-1) u2):=⟨hx1,hx2⟩; clear hx1 hx2))
  have HH:Hid (Calls _ _ _ _ _):=hand_is r x u2 HX.out.2 hr (by have:=HX.out.1.1.1;omega) hN HB.out.2.1
  refine HH.out.mono ?_
  rintro e u3 ⟨rfl,hx3⟩
  have HY:Hid (As1 lo B X B2 ga sa N cs gp cp S (Pl.up pl r ⟨Pl.gv x,-1⟩) (Pl.up ow x (r:Int)) (sp) u3):=hx3.hand (fun y=>Iff.rfl) (fun y=>⟨fun q=>⟨q,fun e=>by have:=HX.out.1.1.1;omega⟩,fun q=>q.1⟩)
  clear hx3
  go_wp2_with fail
  go_end0
  refine⟨rfl,_,.inl ⟨x,⟨?_,by have:=HX.out.1.1.1;omega,HX.out.1.1.2,fun j h1 h2 c=>?_⟩,rfl⟩,HY.out⟩
  ·rw[HSR.out];exact Nat.zero_le _
  ·have:=HX.out.1.2 j ⟨by have:=HX.out.1.1.1;omega,c⟩; omega
 by_cases hB0:0<kl
 ·have hki:(0:Int)<(kl:Int):=by omega
  have HP:Hid (Calls _ _ _ _ _):=popK_is U H1.out (Classical.byContradiction fun c=>by have:=HK0.out.2 (fun x hx=>c ⟨x,hx⟩);omega)
  have HFST:Hid (∀ x:Nat,((4<=x/\x<16/\ow x=-1)/\∀ y,(4<=y/\y<16/\ow y=-1)->x<=y)->Pl.Fst (Pl.lo4 (S r).cr) ow x):=fun x hx=>by
   rw[HSR.out]
   refine⟨Nat.le_trans (Pl.lo4_le _) hx.1.1,hx.1.2.1,hx.1.2.2,fun j h1 h2 c=>?_⟩
   by_cases d:4<=j
   ·have:=hx.2 j ⟨d,by omega,c⟩; omega
   ·cases hcr:cr
    ·have hu0:ul=0:=by
      have:¬ 0<ul:=fun q=>hA0 ⟨hcr,q⟩
      omega
     exact HU0.out.1 hu0 j ⟨by omega,c⟩
    ·rw[hcr]at h1;have h1':4<=j:=h1;omega
  cases hcr:cr
  case' false=>
   have hui:¬ (0:Int)<(ul:Int):=by have:¬ 0<ul:=fun q=>hA0 ⟨hcr,q⟩; omega
  all_goals (
   rw[hcr]at hU s2 d2
   clear hcr hA0
   go_enter Tryz.func85,Tryz.ntmps85
   go_upto_region 7 with fail
   rw[<- hU]
   clear hU d0 d1 d2 e0
   go_wp2_with (first | (go_at_call 108;refine (len_is _ _ _ _ rfl (by omega) _).mono ?_;rintro e u9 ⟨rfl,h9⟩; rw[h9];clear h9) | (go_at_call 110;refine HP.out.mono ?_;rintro e u2 ⟨x,rfl,hx1,hx2⟩; have HX:Hid (((4<=x/\x<16/\ow x=-1)/\∀ y,(4<=y/\y<16/\ow y=-1)->x<=y)/\As lo B X B2 ga sa N cs gp cp S pl ow sp (fun x=>x<4/\ow x=-1) (fun y=>(4<=y/\y<16/\ow y=-1)/\y≠x) u2):=⟨hx1,hx2⟩; clear hx1 hx2))
   have HH:Hid (Calls _ _ _ _ _):=hand_is r x u2 HX.out.2 hr HX.out.1.1.2.1 hN HB.out.2.1
   refine HH.out.mono ?_
   rintro e u3 ⟨rfl,hx3⟩
   have HY:Hid (As1 lo B X B2 ga sa N cs gp cp S (Pl.up pl r ⟨Pl.gv x,-1⟩) (Pl.up ow x (r:Int)) (sp) u3):=hx3.hand (fun y=>⟨fun q=>⟨q,fun e=>by have:=HX.out.1.1.1;omega⟩,fun q=>q.1⟩) (fun y=>Iff.rfl)
   clear hx3
   go_wp2_with fail
   go_end0
   exact⟨rfl,_,.inl ⟨x,HFST.out x HX.out.1,rfl⟩,HY.out⟩)
 -- nothing is free
 have HFUL:Hid (Pl.Ful (Pl.lo4 cr) ow):=fun j h1 h2 c=>by
  by_cases d:4<=j
  ·exact HK0.out.1 (by omega) j ⟨d,h2,c⟩
  ·cases hcr:cr
   ·have hu0:ul=0:=by
     have:¬ 0<ul:=fun q=>hA0 ⟨hcr,q⟩
     omega
    exact HU0.out.1 hu0 j ⟨by omega,c⟩
   ·rw[hcr]at h1;have h1':4<=j:=h1;omega
 have HLG:Hid (Calls _ _ _ _ _):=longest_is cr U H1.out hN HB.out.1 (fun k h1 h2=>by obtain⟨q,q1,q2,_⟩:=(HB.out.2.2.1.o1 k h2).resolve_left (HFUL.out k h1 h2);exact⟨q,q1,q2⟩) (fun j k hj hk e hne=>by
  obtain⟨q,q1,q2,_⟩:=(HB.out.2.2.1.o1 j hj).resolve_left hne
  exact HB.out.2.2.1.oneRank hj hk q2 (e.symm.trans q2))
 have hki:¬ (0:Int)<(kl:Int):=by omega
 have HFINY:Hid (∀ (k:Nat) (W:World),Pl.Lng S (Pl.lo4 cr) ow k->tt<(S (ow k).toNat).tt->As1 lo B X B2 ga sa N cs gp cp S (Pl.up (Pl.up pl (ow k).toNat ⟨0,sp⟩) r ⟨Pl.gv k,-1⟩) (Pl.up ow k (r:Int)) (sp+1) W->GvSaid lo B X B2 ga sa N cs gp cp S ⟨pl,ow,sp⟩ r (.returned (.tuple #[])) W):=fun k W hl ht hW=>by
  refine⟨rfl,_,.inr ⟨?_,k,?_,.inl ⟨?_,rfl⟩⟩,hW⟩
  ·rw[HSR.out];exact HFUL.out
  ·rw[HSR.out];exact hl
  ·rw[HSR.out];exact ht
 have HFINN:Hid (∀ (k:Nat) (W:World),Pl.Lng S (Pl.lo4 cr) ow k->¬ tt<(S (ow k).toNat).tt->As1 lo B X B2 ga sa N cs gp cp S (Pl.up pl r ⟨0,sp⟩) ow (sp+1) W->GvSaid lo B X B2 ga sa N cs gp cp S ⟨pl,ow,sp⟩ r (.returned (.tuple #[])) W):=fun k W hl ht hW=>by
  refine⟨rfl,_,.inr ⟨?_,k,?_,.inr ⟨?_,rfl⟩⟩,hW⟩
  ·rw[HSR.out];exact HFUL.out
  ·rw[HSR.out];exact hl
  ·rw[HSR.out];exact ht
 have HLN:Hid (∀ k,Pl.Lng S (Pl.lo4 cr) ow k->∃ q:Nat,q<N/\ow k=(q:Int)/\(ow k).toNat=q/\k<16):=fun k hl=>by
  obtain⟨q,q1,q2,q3,q4⟩:=HB.out.2.2.1.own hl.2.1 (HFUL.out k hl.1 hl.2.1)
  exact⟨q,q1,q2,q3,hl.2.1⟩
 cases hcr:cr
 case' false=>
  have hui:¬ (0:Int)<(ul:Int):=by have:¬ 0<ul:=fun q=>hA0 ⟨hcr,q⟩; omega
 all_goals (
  rw[hcr]at hU s2 d2 HLG HFINY HFINN HLN
  clear hcr hA0
  go_enter Tryz.func85,Tryz.ntmps85
  go_upto_region 7 with fail
  rw[<- hU]
  clear hU d0 d1 d2 e0
  go_wp2_with (go_at_call 108;refine (len_is _ _ _ _ rfl (by omega) _).mono ?_;rintro e u9 ⟨rfl,h9⟩; rw[h9];clear h9)
  refine HLG.out.mono ?_
  rintro e u2 ⟨⟨k,rfl,hlg⟩,d2⟩
  obtain⟨q,hqN,hoq,hoq2,hk16⟩:=HLN.out k hlg
  have hAs2:=As1.later H1.out d2
  have HA2:Hid (As1 lo B X B2 ga sa N cs gp cp S (pl) (ow) (sp) u2):=hAs2
  obtain⟨C2,P2,ua2,ul2,uc2,hu2,ka2,kl2,kc2,hk2,hA2⟩:=hAs2
  have cok:=hA2.cell (hA2.c4 k hk16)
  rw[hoq]at cok
  have hki16:(k:Int)<16:=by omega
  have csp:u2.cell? ⟨ga,0,none⟩=some (.slice (some ⟨gs,0,none⟩) N cs):=by rw[<- HSA.out];exact hA2.cell hA2.c0
  have hgl2:=hA2.gal
  obtain⟨b1,b2,b3,b4⟩:=HA2.out.bel
  obtain⟨gs',hsa',hgs',hcell'⟩:=(HB.out.1.keep (show Below B.heap.size B u2 from b2 ▸ b1)).2.resolve_left (by omega)
  rw[HSA.out]at hsa'
  injection hsa' with hsa'
  injection hsa' with hsa'
  subst hsa'
  have cto:u2.cell? ⟨gs,q*3+1,none⟩=some (.int .i64 (S q).tt):=hcell' q hqN 1 (by omega)
  have ct1:u2.cell? ⟨w.heap.size,1,none⟩=some (.int .i64 tt):=(d2.cell (p:=⟨w.heap.size,1,none⟩) (block_lt_of_cell s1)).trans s1
  have hwl2:w.heap.size<u2.heap.size:=block_lt_of_cell ct1
  obtain⟨T,hT⟩:∃ T,T=(S q).tt:=⟨_,rfl⟩
  rw[<- hT]at cto
  have HQ:Hid (ow k=(q:Int)/\(ow k).toNat=q/\T=(S q).tt):=⟨hoq,hoq2,hT⟩
  have HLK:Hid (Pl.Lng S _ ow k):=hlg
  have hqi:(q:Int)<(N:Int):=by omega
  clear hA2 d2 hoq hoq2 hlg hcell' b1 b2 b3 b4 hT hgs' c2 c3 s1 s2
  by_cases hT2:tt<T
  ·have hd:decide (tt<T)=true:=by simp[hT2]
   have HSP:Hid (∀ n,Calls Tryz.prog 112 #[.pointer (some ⟨ga,0,none⟩),.int .i64 (q:Int)] (u2.drewN n) fun e w'=>e=.returned (.tuple #[])/\As lo B X B2 ga sa N cs gp cp S (Pl.up pl q ⟨0,sp⟩) ow (sp+1) (fun x=>x<4/\ow x=-1) (fun x=>4<=x/\x<16/\ow x=-1) w'):=fun n=>spill_is q _ (HA2.out.drewN n) hqN hN ⟨HB.out.2.2.1.o5,by omega⟩
   go_upto_region 3 with fail
   go_quiet (fail)
   go_wp2_with fail
   refine (HSP.out _).mono ?_
   rintro e u3 ⟨rfl,hs3⟩
   have HH:Hid (Calls _ _ _ _ _):=hand_is r k u3 hs3 hr hk16 hN HB.out.2.1
   clear hs3
   go_wp2_with fail
   refine HH.out.mono ?_
   rintro e u4 ⟨rfl,hs4⟩
   have HY:Hid (As1 lo B X B2 ga sa N cs gp cp S (Pl.up (Pl.up pl q ⟨0,sp⟩) r ⟨Pl.gv k,-1⟩) (Pl.up ow k (r:Int)) (sp+1) u4):=hs4.hand (fun y=>⟨fun c=>⟨c,fun e=>by subst e;have:=c.2;have:=HQ.out.1;omega⟩,fun c=>c.1⟩) (fun y=>⟨fun c=>⟨c,fun e=>by subst e;have:=c.2.2;have:=HQ.out.1;omega⟩,fun c=>c.1⟩)
   clear hs4
   go_wp2_with fail
   go_end0
   have hq:=HQ.out
   exact HFINY.out k u4 HLK.out (by rw[hq.2.1];omega) (by rw[hq.2.1];exact HY.out)
  ·have hd:decide (tt<T)=false:=by simp;omega
   have HSP:Hid (∀ n,Calls Tryz.prog 112 #[.pointer (some ⟨ga,0,none⟩),.int .i64 (r:Int)] (u2.drewN n) fun e w'=>e=.returned (.tuple #[])/\As lo B X B2 ga sa N cs gp cp S (Pl.up pl r ⟨0,sp⟩) ow (sp+1) (fun x=>x<4/\ow x=-1) (fun x=>4<=x/\x<16/\ow x=-1) w'):=fun n=>spill_is r _ (HA2.out.drewN n) hr hN ⟨HB.out.2.2.1.o5,by omega⟩
   go_upto_region 3 with fail
   go_quiet (fail)
   go_wp2_with fail
   refine (HSP.out _).mono ?_
   rintro e u3 ⟨rfl,hs3⟩
   have HY:Hid (As1 lo B X B2 ga sa N cs gp cp S (Pl.up pl r ⟨0,sp⟩) ow (sp+1) u3):=hs3
   clear hs3
   go_wp2_with fail
   go_end0
   have hq:=HQ.out
   exact HFINN.out k u3 HLK.out (by rw[hq.2.1];omega) HY.out)
end Go.Proofs.YtcgfgmlfbgbkfaaGreatDoor.W
namespace Go.Proofs.YtcgfgmlfbgbkfaaGreatDoor.Pl
def stL (S:Nat->Sp) (k:Nat):List Nat:=(List.range k).filter fun r=>decide ((S r).tt≠-1)
theorem stL_yes {S:Nat->Sp} {k:Nat} (h:(S k).tt≠-1):stL S (k+1)=stL S k ++ [k]:=by unfold stL;rw[List.range_succ,List.filter_append];simp[h]
theorem stL_no {S:Nat->Sp} {k:Nat} (h:(S k).tt=-1):stL S (k+1)=stL S k:=by unfold stL;rw[List.range_succ,List.filter_append];simp[h]
theorem stL_mem {S:Nat->Sp} {k r:Nat}:r∈stL S k↔r<k/\(S r).tt≠-1:=by unfold stL;rw[List.mem_filter];simp
theorem stL_asc (S:Nat->Sp) (k:Nat):∀ i j,i<j->j<(stL S k).length->(stL S k).getD i 0<(stL S k).getD j 0:=by
 intro i j hij hj
 have hp:(stL S k).Pairwise (· < ·):=by unfold stL;exact List.Pairwise.filter _ List.pairwise_lt_range
 rw[List.getD_eq_getElem?_getD,List.getD_eq_getElem?_getD,List.getElem?_eq_getElem (by omega),List.getElem?_eq_getElem hj]
 exact List.pairwise_iff_getElem.1 hp i j (by omega) hj hij
theorem stL_getD (S:Nat->Sp) (k i:Nat) (hi:i<(stL S k).length):(stL S k).getD i 0∈stL S k:=by
 rw[List.getD_eq_getElem?_getD,List.getElem?_eq_getElem hi];exact List.getElem_mem _
theorem ord_of_sort {S:Nat->Sp} {N m:Nat} {d d':Nat->Nat} (hm:m=(stL S N).length) (hd:∀ i,i<m->d i=(stL S N).getD i 0) (hs:Sam 0 m d d') (ht:Srt (fun r=>(S r).fr) d' 0 m):Ord S N ((List.range m).map d'):=by
 refine⟨?_,fun r=>?_⟩
 ·rw[List.pairwise_map]
  exact List.Pairwise.imp_of_mem (fun {a b} ha hb hab=>ht a b (Nat.zero_le _) hab (List.mem_range.1 hb)) List.pairwise_lt_range
 ·rw[<- stL_mem,List.mem_map]
  constructor
  ·rintro⟨i,hi,rfl⟩
   obtain⟨j,_,hj,e⟩:=hs.to_ i (Nat.zero_le _) (List.mem_range.1 hi)
   rw[e,hd j hj]
   exact stL_getD S N j (by omega)
  ·intro hr
   obtain⟨i,hi,e⟩:=List.getElem_of_mem hr
   obtain⟨j,_,hj,e2⟩:=hs.from_ i (Nat.zero_le _) (by omega)
   refine⟨j,List.mem_range.2 hj,?_⟩
   rw[<- e2,hd i (by omega),List.getD_eq_getElem?_getD,List.getElem?_eq_getElem hi]
   exact e
end Go.Proofs.YtcgfgmlfbgbkfaaGreatDoor.Pl
namespace Go.Proofs.YtcgfgmlfbgbkfaaGreatDoor.W
open Go.RowKit
def nV (l:List Nat):List Value:=l.map fun r=>Value.int .i64 ((r:Nat):Int)
def OrSaid (S:Nat->Pl.Sp) (N:Nat) (w:World) (e:Ending) (w':World):Prop:=∃ (o:List Nat) (go c:Nat),e=.returned (.slice (some ⟨go,0,none⟩) o.length c)/\Pl.Ord S N o/\o.length<=N/\w.heap.size<=go/\go<w'.heap.size/\(∀ i,i<o.length->w'.cell? ⟨go,i,none⟩=some (.int .i64 ((o.getD i 0:Nat):Int)))/\Below w.heap.size w w'/\∃ cu,w'.heap[go]?=some (.cells cu 3 (0,0))
theorem IR.of_own {lo:Nat} {w:World} {g m c:Nat} {l:List Nat} (h:w.ownsRow lo 3 1 (.slice (some ⟨g,0,none⟩) m c) m (nV l)) (hl:l.length=m):IR g m (fun i=>l.getD i 0) w:=by
 rcases h.2 with ⟨e,_⟩ | ⟨g',c',cur,e,_,hb,h1,_,h3,h4⟩
 ·cases e
 ·injection e with e1 _ e3
  injection e1 with e1
  injection e1 with e1
  subst e1 e3
  refine⟨cur,hb,by omega,fun i hi=>?_⟩
  have:=congrArg (fun x=>x[i]?) h4
  rw[List.getElem?_take_of_lt (by omega)]at this
  simp only[Array.getElem?_toList]at this
  rw[this]
  unfold nV
  show _=some (Value.int .i64 ((l.getD i 0:Nat):Int))
  rw[List.getElem?_map,List.getD_eq_getElem?_getD,List.getElem?_eq_getElem (by omega)]
  rfl
set_option maxRecDepth 100000 in
theorem order_is {lo:Nat} {B:World} {X:Nat->Prop} {B2:World} {ga:Nat} {sa:Option Addr} {N cs gp cp:Nat} {S:Nat->Pl.Sp} {pl:Nat->Pl.Pc} {ow:Nat->Int} {sp:Int} (w:World) (h:As1 lo B X B2 ga sa N cs gp cp S (pl) (ow) (sp) w) (hN:N<=4000) (hS:RS B sa N S) :
  Calls Tryz.prog 83 #[.pointer (some ⟨ga,0,none⟩)] w fun e w'=>OrSaid S N w e w':=by
 obtain⟨gs,HR⟩:∃ gs,Hid (gs<w.heap.size/\(0<N->sa=some ⟨gs,0,none⟩)/\∀ u,Below w.heap.size w u->∀ r,r<N->∀ j,j<3->u.cell? ⟨gs,r*3+j,none⟩=(S r).cells[j]?):=by
  obtain⟨b1,b2,b3,b4⟩:=h.bel
  have hb:Below B.heap.size B w:=b2 ▸ b1
  by_cases hN0:N=0
  ·exact⟨0,by omega,fun c=>by omega,fun u _ r hr=>by omega⟩
  ·obtain⟨gs,hsa,hgs,hcell⟩:=(hS.keep hb).2.resolve_left hN0
   exact⟨gs,hgs,fun _=>hsa,fun u hu r hr j hj=>(hu.cell (p:=⟨gs,r*3+j,none⟩) hgs).trans (hcell r hr j hj)⟩
 obtain⟨C,P,ua,ul,uc,hu,ka,kl,kc,hk,hA⟩:=h
 have e0:=hA.cell hA.c0
 have hgl:=hA.gal
 have HC:Hid (∀ u,Below w.heap.size w u->u.cell? ⟨ga,0,none⟩=some (.slice sa N cs)):=fun u hu=>(hu.cell (p:=⟨ga,0,none⟩) hgl).trans e0
 obtain⟨i0,hi0,hz0,hz1,hz2⟩:=info_parts Tryz.infoi64
 have HI:Hid (_/\_/\_/\_):=⟨hi0,hz0,hz1,hz2⟩
 have hNi:(N:Int)<=4000:=by omega
 clear hi0 hz0 hz1 hz2 hA hS
 go_enter Tryz.func83,Tryz.ntmps83
 go_wp2_with fail
 go_loopw [3,12] (fun o t wr=>∃ (i gq m cq:Nat),i<=N/\t=.int .i64 (i:Int)/\o=.slice (some ⟨gq,0,none⟩) m cq/\m<=i/\Hid (m=(Pl.stL S i).length/\wr.ownsRow (w.heap.size+1) 3 1 (.slice (some ⟨gq,0,none⟩) m cq) m (nV (Pl.stL S i))/\Below w.heap.size w wr/\wr.cell? ⟨w.heap.size,0,none⟩=some (.pointer (some ⟨ga,0,none⟩)))) (fun _ t _=>N-(intOf t).toNat)
 case atStart=>
  refine⟨0,_,_,_,Nat.zero_le _,rfl,rfl,Nat.zero_le _,rfl,?_,(below_alloc w _).alloc (by simp) _,?_⟩
  ·have:=World.ownsRow_lit (w.alloc (.cells #[.pointer (some ⟨ga,0,none⟩)] 129)) #[] 0 (base:=w.heap.size+1) (e:=3) (size:=1) (by simp) (Nat.zero_le _) rfl
   simpa [nV,Pl.stL] using this
  ·rw[(below_alloc (w.alloc (.cells #[.pointer (some ⟨ga,0,none⟩)] 129)) _).cell (p:=⟨w.heap.size,0,none⟩) (by simp)]
   exact (cell_of_row _ w.heap.size 0 _ _ (0,0) (heap_alloc_new w _)).trans rfl
 case round=>
  obtain⟨i,gq,m,cq,hiN,rfl,rfl,hmi,HX⟩:=hrel
  have hwz:=HX.out.2.2.1.size
  have hwb:=block_lt_of_cell HX.out.2.2.2
  by_cases hlt:i<N
  rotate_left
  ·have hni:¬ (i:Int)<(N:Int):=by omega
   have hie:i=N:=by omega
   have HY:Hid (m=(Pl.stL S N).length/\wr.ownsRow (w.heap.size+1) 3 1 (.slice (some ⟨gq,0,none⟩) m cq) m (nV (Pl.stL S N))/\Below w.heap.size w wr/\wr.cell? ⟨w.heap.size,0,none⟩=some (.pointer (some ⟨ga,0,none⟩))):=hie ▸ HX.out
   have HST:Hid (Calls Tryz.prog 105 #[.slice (some ⟨gq,0,none⟩) m cq,.func (.func 106) #[] #[.pointer (some ⟨w.heap.size,0,none⟩)]] wr fun e w'=>SrtSaid (fun r=>(S r).fr) gq m 0 m (fun i=>(Pl.stL S N).getD i 0) wr e w'):=by
    obtain⟨q1,q2,q3,q4⟩:=HY.out
    have hlo:=q2.lt gq rfl
    refine sortStable_is (gx:=w.heap.size) (ga:=ga) (gs:=gs) (N:=N) (cs:=cs) _ wr ⟨IR.of_own q2 q1.symm,⟨q4,fun h0=>?_,fun x hx=>?_⟩,by omega,by omega,by have:=HR.out.1;omega,fun i hi=>(Pl.stL_mem.1 (Pl.stL_getD S N i (by omega))).1,hN,by omega⟩ (fun i j hij hj=>Pl.stL_asc S N i j hij (by omega))
    ·rw[<- HR.out.2.1 h0];exact HC.out wr q3
    ·exact HR.out.2.2 wr q3 x hx 0 (by omega)
   clear HX hie
   go_wp2_with fail
   refine HST.out.mono ?_
   rintro e u2 ⟨rfl,d',r1,r2,r3,r4⟩
   have HE:Hid (OrSaid S N w (.returned (.slice (some ⟨gq,0,none⟩) m cq)) u2):=by
    obtain⟨q1,q2,q3,q4⟩:=HY.out
    have hlo:=q2.lt gq rfl
    have r1':=r1
    obtain⟨cu,hcu,_⟩:=r1'
    refine⟨(List.range m).map d',gq,cq,by simp,Pl.ord_of_sort q1 (fun i hi=>rfl) r3 r4,by simp;omega,by omega,by rw[r2.size];exact hlo.2,fun i hi=>?_,q3.trans (r2.below (by omega)),cu,hcu⟩
    have hi':i<m:=by simpa using hi
    rw[r1.at_ hi',List.getD_eq_getElem?_getD,List.getElem?_map,List.getElem?_range hi']
    rfl
   clear r1 r2 r3 r4 HST HY
   go_wp2_with fail
   go_ret
   exact HE.out
  have hni:(i:Int)<(N:Int):=by omega
  obtain⟨fr,tt,cr,hSr⟩:∃ fr tt cr,S i=⟨fr,tt,cr⟩:=⟨_,_,_,rfl⟩
  have hcell:=HR.out.2.2 wr HX.out.2.2.1 i hlt
  have hsa:=HR.out.2.1 (by omega)
  have d0:wr.cell? ⟨gs,i*3,none⟩=some (.int .i64 fr):=by have:=hcell 0 (by omega);rw[hSr]at this;exact this
  have d1:wr.cell? ⟨gs,i*3+1,none⟩=some (.int .i64 tt):=by have:=hcell 1 (by omega);rw[hSr]at this;exact this
  have d2:wr.cell? ⟨gs,i*3+2,none⟩=some (.bool cr):=by have:=hcell 2 (by omega);rw[hSr]at this;exact this
  have HSR:Hid (S i=⟨fr,tt,cr⟩):=hSr
  have hgs:gs<wr.heap.size:=block_lt_of_cell d0
  subst hsa
  clear hcell hSr
  obtain⟨U,hU⟩:∃ U,U=wr.alloc (.cells #[.int .i64 fr,.int .i64 tt,.bool cr] 73):=⟨_,rfl⟩
  have HU:Hid (Below wr.heap.size wr U):=by show Below _ _ _;rw[hU];exact below_alloc wr _
  have s1:U.cell? ⟨wr.heap.size,1,none⟩=some (.int .i64 tt):=by rw[hU,cell_of_row _ _ 1 _ _ (0,0) (heap_alloc_new wr _)];rfl
  have hUz:wr.heap.size<U.heap.size:=by rw[hU];simp
  by_cases ht:tt=-1
  ·subst ht
   have HN:Hid (m=(Pl.stL S (i+1)).length/\U.ownsRow (w.heap.size+1) 3 1 (.slice (some ⟨gq,0,none⟩) m cq) m (nV (Pl.stL S (i+1)))/\Below w.heap.size w U/\U.cell? ⟨w.heap.size,0,none⟩=some (.pointer (some ⟨ga,0,none⟩))):=by
    rw[Pl.stL_no (by rw[HSR.out])]
    exact⟨HX.out.1,own_eqL HX.out.2.1 (fun g hg=>HU.out.block g (HX.out.2.1.lt g hg).2),HX.out.2.2.1.trans (HU.out.mono hwz),(HU.out.cell (p:=⟨w.heap.size,0,none⟩) hwb).trans HX.out.2.2.2⟩
   go_wp2_with fail
   rw[<- hU]
   exact⟨⟨i+1,gq,m,cq,by omega,by go_num,rfl,by omega,HN⟩,by simp[intOf];omega⟩
  have hb1:(tt != -1)=true:=by simp[ht]
  have HO:Hid (U.ownsRow (w.heap.size+1) 3 1 (.slice (some ⟨gq,0,none⟩) m cq) m (nV (Pl.stL S i))):=own_eqL HX.out.2.1 (fun g hg=>HU.out.block g (HX.out.2.1.lt g hg).2)
  have HN:Hid (∀ g4 c4 y4,y4.ownsRow (w.heap.size+1) 3 1 (.slice (some ⟨g4,0,none⟩) (m+1) c4) (m+1) (nV (Pl.stL S i) ++ [.int .i64 (i:Int)])->(U.alloc (.cells #[.int .i64 (i:Int)] 3)).grownBy y4 (some gq)->(m+1=(Pl.stL S (i+1)).length/\y4.ownsRow (w.heap.size+1) 3 1 (.slice (some ⟨g4,0,none⟩) ((m+1:Nat)) c4) (m+1) (nV (Pl.stL S (i+1)))/\Below w.heap.size w y4/\y4.cell? ⟨w.heap.size,0,none⟩=some (.pointer (some ⟨ga,0,none⟩)))):=fun g4 c4 y4 o4 g5=>by
   rw[Pl.stL_yes (by rw[HSR.out];exact ht)]
   have hlo:=HX.out.2.1.lt gq rfl
   have hb9:Below wr.heap.size wr (U.alloc (.cells #[.int .i64 (i:Int)] 3)):=HU.out.trans ((below_alloc U _).mono (by omega))
   have hb8:Below w.heap.size w (U.alloc (.cells #[.int .i64 (i:Int)] 3)):=HX.out.2.2.1.trans (hb9.mono hwz)
   refine⟨by simp;exact HX.out.1,by unfold nV at *; rw[List.map_append];exact o4,hb8.grown g5 hb8.size (fun k hk=>by cases hk;omega),?_⟩
   exact g5.cell ((hb9.cell (p:=⟨w.heap.size,0,none⟩) hwb).trans HX.out.2.2.2) (fun e=>by injection e with e;simp only at e;omega)
  go_upto_region 6 with fail
  rw[<- hU]
  clear hU d0 d1 d2 s1
  go_wp2_with (at_builtin;refine wpList_append_lies _ rfl (.tmp 20) (.tmp 22) 22 rfl (w.heap.size+1) 3 i0 (.int .i64 0) 1 8 Tryz.underlying22 HI.out.1 HI.out.2.1 HI.out.2.2.1 HI.out.2.2.2 rfl (by decide) (.slice (some ⟨gq,0,none⟩) m cq) m (nV (Pl.stL S i)) rfl (World.ownsRow.alloc HO.out _) ⟨U.heap.size,0,none⟩ 1 1 [.int .i64 (i:Int)] rfl rfl (int_cellA U (i:Int)) (by intro z hz;simp at hz;subst hz;rfl) (by decide) (by unfold maxLen;omega) (by omega) (by simp;omega) (U.heap.size+1) (by simp) ?_;intro g4 c4 y4 hown hgr hli hlt2;have H5:Hid (m+1=(Pl.stL S (i+1)).length/\y4.ownsRow (w.heap.size+1) 3 1 (.slice (some ⟨g4,0,none⟩) ((m+1:Nat)) c4) (m+1) (nV (Pl.stL S (i+1)))/\Below w.heap.size w y4/\y4.cell? ⟨w.heap.size,0,none⟩=some (.pointer (some ⟨ga,0,none⟩))):=HN.out g4 c4 y4 hown hgr;clear hown hgr hli hlt2)
  exact⟨⟨i+1,g4,m+1,c4,by omega,by go_num,by go_num,by omega,H5⟩,by simp[intOf];omega⟩
end Go.Proofs.YtcgfgmlfbgbkfaaGreatDoor.W
namespace Go.Proofs.YtcgfgmlfbgbkfaaGreatDoor.Pl
def AlIs (S:Nat->Sp) (N:Nat) (pl:Nat->Pc):Prop:=∃ o st,Ord S N o/\Rn S al0 o st/\pl=st.pl
theorem AlIs.fn {S:Nat->Sp} {N:Nat} {pl pl':Nat->Pc} (h:AlIs S N pl) (h':AlIs S N pl'):pl=pl':=by
 obtain⟨o,st,h1,h2,h3⟩:=h
 obtain⟨o',st',g1,g2,g3⟩:=h'
 have:=h1.fn g1
 subst this
 have:=h2.fn g2
 subst this
 rw[h3,g3]
structure Wk (S:Nat->Sp) (N:Nat) (o:List Nat) (i:Nat) (st:Al):Prop where
 rn:Rn S al0 (o.take i) st
 ok:∃ fr,Ok S N st fr (fun q=>q∈o.drop i)/\∀ q,q∈o.drop i->fr<=(S q).fr
 sp:st.sp<=i
theorem Wk.start (S:Nat->Sp) (N:Nat) (o:List Nat):Wk S N o 0 al0:=by
 refine⟨by rw[List.take_zero];exact .nil _,?_,by decide⟩
 cases o with
 | nil=>exact⟨0,Ok.start S N 0 _,fun q hq=>by simp at hq⟩
 | cons r o=>
  -- the least of them all
  have:∃ m:Int,∀ q,q∈r :: o->m<=(S q).fr:=by
   generalize r :: o=l
   induction l with
   | nil=>exact⟨0,fun q hq=>by simp at hq⟩
   | cons a l ih=>
    obtain⟨m,hm⟩:=ih
    refine⟨min m (S a).fr,fun q hq=>?_⟩
    rcases List.mem_cons.1 hq with e | e
    ·subst e;exact Int.min_le_right _ _
    ·exact Int.le_trans (Int.min_le_left _ _) (hm q e)
  obtain⟨m,hm⟩:=this
  exact⟨m,Ok.start S N m _,fun q hq=>hm q (by simpa using hq)⟩
theorem Wk.next {S:Nat->Sp} {N:Nat} {o:List Nat} {i:Nat} {st st':Al} (h:Wk S N o i st) (hO:Ord S N o) (hi:i<o.length) (hg:Gvn S ⟨st.pl,bk S (S (o.getD i 0)).fr st.ow,st.sp⟩ (o.getD i 0) st'):Wk S N o (i+1) st':=by
 obtain⟨fr,hk,hf⟩:=h.ok
 have hoi:o.getD i 0=o[i]:=by rw[List.getD_eq_getElem?_getD,List.getElem?_eq_getElem hi];rfl
 have hdr:o.drop i=o[i] :: o.drop (i+1):=List.drop_eq_getElem_cons hi
 rw[hoi]at hg
 have hmem:o[i]∈o.drop i:=by rw[hdr];exact List.mem_cons_self
 have hpw:(o.drop i).Pairwise (Lx fun r=>(S r).fr):=List.Pairwise.sublist (List.drop_sublist _ _) hO.1
 rw[hdr]at hpw
 have hlx:=(List.pairwise_cons.1 hpw).1
 obtain⟨hb,_⟩:=hk.back (hf _ hmem)
 have hrN:=((hO.2 o[i]).1 (List.getElem_mem _)).1
 refine⟨?_,⟨(S o[i]).fr,hb.give (R':=fun q=>q∈o.drop (i+1)) hmem hrN hg rfl (fun q hq=>⟨by rw[hdr];exact List.mem_cons_of_mem _ hq,fun e=>by have:=hlx q hq;rw[e]at this;exact this.irrefl⟩),fun q hq=>?_⟩,?_⟩
 ·rw[List.take_succ_eq_append_getElem hi];exact .snoc h.rn hg
 ·have:=hlx q hq;simp only[Lx]at this;omega
 ·have:=h.sp
  rcases hg with ⟨k,_,rfl⟩ | ⟨_,k,_,⟨_,rfl⟩ | ⟨_,rfl⟩⟩ <;> simp only <;> omega
end Go.Proofs.YtcgfgmlfbgbkfaaGreatDoor.Pl
namespace Go.Proofs.YtcgfgmlfbgbkfaaGreatDoor.W
open Go.RowKit
theorem As1.fresh {lo:Nat} {B:World} {X:Nat->Prop} {B2:World} {ga:Nat} {sa:Option Addr} {N cs gp cp:Nat} {S:Nat->Pl.Sp} {pl:Nat->Pl.Pc} {ow:Nat->Int} {sp:Int} {w0 w:World} (h:As1 lo B X B2 ga sa N cs gp cp S (pl) (ow) (sp) w0) (hb:Below w0.heap.size w0 w):As1 lo B (fun b=>w0.heap.size<=b/\b<w.heap.size) w ga sa N cs gp cp S pl ow sp w:=by
 obtain⟨C,P,ua,ul,uc,h1,ka,kl,kc,h2,hA⟩:=h
 have hA':=hA.later hb
 refine⟨_,_,_,_,_,_,_,_,_,_,{ hA' with xs:=fun b hx=>⟨hx.2,rfl,by have:=hA.gal;omega,by have:=hA.gpl;omega,fun e=>by have:=(hA.uo.lt b e).2;omega,fun e=>by have:=(hA.ko.lt b e).2;omega⟩ }⟩
theorem As1.x {lo:Nat} {B:World} {X:Nat->Prop} {B2:World} {ga:Nat} {sa:Option Addr} {N cs gp cp:Nat} {S:Nat->Pl.Sp} {pl:Nat->Pl.Pc} {ow:Nat->Int} {sp:Int} {w:World} (h:As1 lo B X B2 ga sa N cs gp cp S (pl) (ow) (sp) w) {b:Nat} (hb:X b):b<w.heap.size/\w.heap[b]?=B2.heap[b]?:=by
 obtain⟨C,P,ua,ul,uc,h1,ka,kl,kc,h2,hA⟩:=h
 exact⟨(hA.xs b hb).1,(hA.xs b hb).2.1⟩
def RPl (w:World) (gp N:Nat) (pl:Nat->Pl.Pc):Prop:=∃ P,w.heap[gp]?=some (.cells P 77 (0,0))/\N*2<=P.size/\(∀ r,r<N->P[r*2]?=some (.int .i64 (pl r).reg))/\∀ r,r<N->P[r*2+1]?=some (.int .i64 (pl r).spill)
def AlSaid (S:Nat->Pl.Sp) (N:Nat) (w:World) (e:Ending) (w':World):Prop:=∃ gp c pl,e=.returned (.slice (some ⟨gp,0,none⟩) N c)/\w.heap.size<=gp/\RPl w' gp N pl/\Pl.AlIs S N pl/\Below w.heap.size w w'
set_option maxRecDepth 100000 in
theorem allotted_is (sa:Option Addr) (N cs:Nat) (S:Nat->Pl.Sp) (w:World) (hN:N<=4000) (hS:RS w sa N S) (hG:GvT w) :
  Calls Tryz.prog 44 #[.slice sa N cs] w fun e w'=>AlSaid S N w e w':=by
 have H0:Hid (RS w sa N S/\GvT w):=⟨hS,hG⟩
 have hNi:(N:Int)<=4000:=by omega
 obtain⟨V,hV⟩:∃ V,V=w.alloc (.cells #[.int .i64 0,.int .i64 (-1)] 77):=⟨_,rfl⟩
 have hVb:V.heap[w.heap.size]?=some (.cells #[.int .i64 0,.int .i64 (-1)] 77 (0,0)):=by rw[hV];exact heap_alloc_new w _
 have HV:Hid (Below w.heap.size w V/\w.heap.size<V.heap.size):=⟨by rw[hV];exact below_alloc w _,by rw[hV];simp⟩
 have HRP:Hid (Calls Tryz.prog 81 #[.slice (some ⟨w.heap.size,0,none⟩) 1 1,.int .i64 (N:Int)] V fun e w'=>RpSaid N V e w'):=repeatP_is w.heap.size N (by omega) V (by rw[cell_of_row V _ 0 _ _ (0,0) hVb];rfl) (by rw[cell_of_row V _ 1 _ _ (0,0) hVb];rfl)
 clear hS hG hVb
 go_enter Tryz.func44,Tryz.ntmps44
 go_wp2_with fail
 rw[<- hV]
 clear hV
 refine HRP.out.mono ?_
 rintro e u1 ⟨rfl,hb1,d1⟩
 obtain⟨gp,hgp⟩:∃ gp,gp=V.heap.size:=⟨_,rfl⟩
 rw[<- hgp]at hb1 ⊢
 obtain⟨ga,hga⟩:∃ ga,ga=u1.heap.size:=⟨_,rfl⟩
 obtain⟨U1,hU1⟩:∃ U1,U1=u1.alloc (.cells #[.slice sa N cs,.slice (some ⟨gp,0,none⟩) N N,.slice none 0 0,.slice none 0 0,.int .i64 0,.int .i64 0,.int .i64 0,.int .i64 0,.int .i64 0,.int .i64 0,.int .i64 0,.int .i64 0,.int .i64 0,.int .i64 0,.int .i64 0,.int .i64 0,.int .i64 0,.int .i64 0,.int .i64 0,.int .i64 0,.int .i64 0] 136):=⟨_,rfl⟩
 have HA1:Hid (As1 w.heap.size w (fun _=>False) w ga sa N cs gp N S Pl.al0.pl (fun _=>0) 0 U1):=by
  have hbw:Below w.heap.size w u1:=HV.out.1.trans (d1.mono (by have:=HV.out.2;omega))
  have hbU:Below u1.heap.size u1 U1:=by rw[hU1];exact below_alloc u1 _
  have hgl:gp<u1.heap.size:=(Array.getElem?_eq_some_iff.1 hb1).1
  have hpz:(plc N).toArray.size=N*2:=by simp[plc_len]
  refine⟨#[.slice sa N cs,.slice (some ⟨gp,0,none⟩) N N,.slice none 0 0,.slice none 0 0,.int .i64 0,.int .i64 0,.int .i64 0,.int .i64 0,.int .i64 0,.int .i64 0,.int .i64 0,.int .i64 0,.int .i64 0,.int .i64 0,.int .i64 0,.int .i64 0,.int .i64 0,.int .i64 0,.int .i64 0,.int .i64 0,.int .i64 0],(plc N).toArray,none,0,0,fun _=>0,none,0,0,fun _=>0,hbw.trans (hbU.mono hbw.size),rfl,by rw[hga];exact hbw.size,by rw[hgp];exact Nat.le_of_lt HV.out.2,by rw[hU1,hga];exact heap_alloc_new u1 _,rfl,rfl,rfl,rfl,rfl,fun k hk=>?_,rfl,(hbU.block gp hgl).trans hb1,by rw[hpz];exact Nat.le_refl _,fun r hr=>?_,fun r hr=>?_,World.ownsRow_nil _ _ _ _,(Pl.Hp.nil _).set (fun x=>⟨fun c=>by simp at c,fun c=>c.elim⟩),World.ownsRow_nil _ _ _ _,(Pl.Hp.nil _).set (fun x=>⟨fun c=>by simp at c,fun c=>c.elim⟩),fun y hy=>(by cases hy),fun b hb=>hb.elim⟩
  ·rcases (show k=0\/k=1\/k=2\/k=3\/k=4\/k=5\/k=6\/k=7\/k=8\/k=9\/k=10\/k=11\/k=12\/k=13\/k=14\/k=15 by omega) with rfl | rfl | rfl | rfl | rfl | rfl | rfl | rfl | rfl | rfl | rfl | rfl | rfl | rfl | rfl | rfl <;> rfl
  ·rw[List.getElem?_toArray,plc_at (by omega),if_pos (by omega)];rfl
  ·rw[List.getElem?_toArray,plc_at (by omega),if_neg (by omega)];rfl
 clear hb1 d1 hgp
 go_wp2_with fail
 rw[<- hga,<- hU1]
 clear hU1 hga
 go_loopw [15] (fun t W=>∃ k:Nat,k<=16/\t=.int .i64 (k:Int)/\Hid (As1 w.heap.size w (fun _=>False) w ga sa N cs gp N S Pl.al0.pl (fun j=>if j<k then -1 else 0) 0 W)) (fun t _=>16-(intOf t).toNat)
 case atStart=>exact⟨0,Nat.zero_le _,rfl,HA1.out.congr fun k hk=>if_neg (Nat.not_lt_zero _)⟩
 case round=>
  obtain⟨k,hk16,rfl,HX⟩:=hrel
  by_cases hlt:k<16
  ·have hki:(k:Int)<16:=by omega
   have HF:Hid (Calls _ _ _ _ _):=free1_is k wr HX.out hlt (by simp only[if_neg (Nat.lt_irrefl k)];decide)
   go_wp2_with fail
   refine HF.out.mono ?_
   rintro e u ⟨rfl,hq⟩
   have HN:Hid (As1 w.heap.size w (fun _=>False) w ga sa N cs gp N S Pl.al0.pl (fun j=>if j<k+1 then -1 else 0) 0 u):=hq.congr fun j hj=>by
    by_cases c:j=k
    ·subst c;rw[Pl.up_i];exact if_pos (by omega)
    ·rw[Pl.up_o _ _ c]
     by_cases d:j<k
     ·simp only[if_pos d,if_pos (show j<k+1 by omega)]
     ·simp only[if_neg d,if_neg (show ¬ j<k+1 by omega)]
   clear hq HF
   go_wp2_with fail
   exact⟨⟨k+1,by omega,by go_num,HN⟩,by simp[intOf];omega⟩
  have hki:¬ (k:Int)<16:=by omega
  rename World=>U0
  have HA2:Hid (As1 w.heap.size w (fun _=>False) w ga sa N cs gp N S Pl.al0.pl Pl.al0.ow 0 U0):=HX.out.congr fun j hj=>(if_pos (by omega)).symm
  have HOR:Hid (Calls _ _ _ _ _):=order_is U0 HA2.out hN H0.out.1
  clear HX HA1
  go_wp2_with fail
  refine HOR.out.mono ?_
  rintro e U ⟨o,go,c,rfl,ho1,ho2,ho3,ho4,ho5,ho6,ho7⟩
  have HA3:Hid (As1 w.heap.size w (fun b=>U0.heap.size<=b/\b<U.heap.size) U ga sa N cs gp N S Pl.al0.pl Pl.al0.ow Pl.al0.sp U):=HA2.out.fresh ho6
  have HO:Hid (Pl.Ord S N o/\∀ W,(∃ pl ow sp,As1 w.heap.size w (fun b=>U0.heap.size<=b/\b<U.heap.size) U ga sa N cs gp N S pl ow sp W)->∀ i,i<o.length->W.cell? ⟨go,i,none⟩=some (.int .i64 ((o.getD i 0:Nat):Int))):=⟨ho1,fun W hW i hi=>by
   obtain⟨pl,ow,sp,hW⟩:=hW
   obtain⟨x1,x2⟩:=hW.x (b:=go) ⟨ho3,ho4⟩
   exact (World.cell?_of_block (a:=⟨go,i,none⟩) x2).trans (ho5 i hi)⟩
  have hol:o.length<=4000:=by omega
  clear ho1 ho2 ho3 ho4 ho5 ho6 ho7 HOR HA2
  go_wp2_with fail
  go_loopw [25] (fun t W=>∃ i:Nat,i<=o.length/\t=.int .i64 (i:Int)/\Hid (∃ st,Pl.Wk S N o i st/\As1 w.heap.size w (fun b=>U0.heap.size<=b/\b<U.heap.size) U ga sa N cs gp N S st.pl st.ow st.sp W)) (fun t _=>o.length-(intOf t).toNat)
  case atStart=>exact⟨0,Nat.zero_le _,rfl,Pl.al0,Pl.Wk.start S N o,HA3.out⟩
  case round=>
   obtain⟨i,hio,rfl,HX⟩:=hrel
   obtain⟨st,x1,x2⟩:=HX.out
   have HW:Hid (Pl.Wk S N o i st/\As1 w.heap.size w (fun b=>U0.heap.size<=b/\b<U.heap.size) U ga sa N cs gp N S st.pl st.ow st.sp wr):=⟨x1,x2⟩
   obtain⟨b1,b2,b3,b4⟩:=x2.bel
   have HBW:Hid (Below w.heap.size w wr):=b1
   clear HX x1 x2 b1 b2 b4
   by_cases hlt:i<o.length
   rotate_left
   ·have hli:¬ (i:Int)<(o.length:Int):=by omega
    have hie:i=o.length:=by omega
    obtain⟨C,P,ua,ul,uc,h1,ka,kl,kc,h2,hA⟩:=HW.out.2
    have c1:=hA.cell hA.c1
    have HE:Hid (AlSaid S N w (.returned (.slice (some ⟨gp,0,none⟩) N N)) wr):=⟨gp,N,st.pl,rfl,hA.gp0,⟨P,hA.pb,hA.pz,hA.p0,hA.p1⟩,⟨o,st,HO.out.1,by have:=HW.out.1.rn;rw[hie,List.take_length]at this;exact this,rfl⟩,HBW.out⟩
    clear hA hie
    go_wp2_with fail
    go_ret
    exact HE.out
   have hli:(i:Int)<(o.length:Int):=by omega
   obtain⟨r,hr⟩:∃ r,r=o.getD i 0:=⟨_,rfl⟩
   have cr:=HO.out.2 wr ⟨_,_,_,HW.out.2⟩ i hlt
   rw[<- hr]at cr
   have hrN:r<N:=by
    have hoi:o.getD i 0=o[i]:=by rw[List.getD_eq_getElem?_getD,List.getElem?_eq_getElem hlt];rfl
    rw[hr,hoi]
    exact ((HO.out.1.2 _).1 (List.getElem_mem _)).1
   obtain⟨gs,hsa,hgs,hcell⟩:=(H0.out.1.keep HBW.out).2.resolve_left (by omega)
   obtain⟨f,hf⟩:∃ f,f=(S r).fr:=⟨_,rfl⟩
   have cf:wr.cell? ⟨gs,r*3,none⟩=some (.int .i64 f):=by rw[hf];exact hcell r hrN 0 (by omega)
   have hri:(r:Int)<(N:Int):=by omega
   have HR:Hid (r=o.getD i 0/\f=(S r).fr):=⟨hr,hf⟩
   have HGB:Hid (Calls _ _ _ _ _):=giveBack_is f wr HW.out.2 hN H0.out.1 (fun k hk=>by
    obtain⟨fr,hk1,_⟩:=HW.out.1.ok
    rcases hk1.o1 k hk with e | ⟨q,q1,q2,_⟩
    ·exact .inl e
    ·exact .inr ⟨q,q1,q2⟩)
   have HGV:Hid (∀ u,As1 w.heap.size w (fun b=>U0.heap.size<=b/\b<U.heap.size) U ga sa N cs gp N S st.pl (Pl.bk S f st.ow) st.sp u->Calls Tryz.prog 85 #[.pointer (some ⟨ga,0,none⟩),.int .i64 (r:Int)] u fun e w'=>GvSaid w.heap.size w (fun b=>U0.heap.size<=b/\b<U.heap.size) U ga sa N cs gp N S ⟨st.pl,Pl.bk S f st.ow,st.sp⟩ r e w'):=fun u hu=>by
    obtain⟨fr,hk1,hk2⟩:=HW.out.1.ok
    have hmem:r∈o.drop i:=by rw[hr,List.getD_eq_getElem?_getD,List.getElem?_eq_getElem hlt,List.drop_eq_getElem_cons hlt];exact List.mem_cons_self
    have hsp:=HW.out.1.sp
    exact give_is r u hu hN H0.out.1 H0.out.2 (hk1.back (f:=f) (by rw[hf];exact hk2 r hmem)).1 hrN (by omega)
   subst hsa
   clear hcell hf hr
   go_wp2_with fail
   refine HGB.out.mono ?_
   rintro e u2 ⟨rfl,hq2⟩
   have HG2:Hid (Calls _ _ _ _ _):=HGV.out u2 hq2
   clear hq2 HGB HGV cf cr
   go_wp2_with fail
   refine HG2.out.mono ?_
   rintro e u3 ⟨rfl,st',hg,hA3⟩
   have HN:Hid (∃ st,Pl.Wk S N o (i+1) st/\As1 w.heap.size w (fun b=>U0.heap.size<=b/\b<U.heap.size) U ga (some ⟨gs,0,none⟩) N cs gp N S st.pl st.ow st.sp u3):=by
    refine⟨st',HW.out.1.next HO.out.1 hlt ?_,hA3⟩
    obtain⟨e1,e2⟩:=HR.out
    rw[<- e1,<- e2]
    exact hg
   clear hg hA3 HG2
   go_wp2_with fail
   exact⟨⟨i+1,by omega,by go_num,HN⟩,by simp[intOf];omega⟩
end Go.Proofs.YtcgfgmlfbgbkfaaGreatDoor.W
