import Derived.Test.YtlbomnnldkeocaaGreatA39
set_option linter.unusedVariables false
set_option linter.unusedSimpArgs false
set_option maxHeartbeats 16000000
namespace Go.Proofs.YtlbomnnldkeocaaGreat.W
open Go.RowKit Go.Shelf Go.Maps Go.WideMaps Go.Sort
noncomputable def valC (n:Nat):Code:=((Tryz.f120.body.bind (codeR n)).getD .skip)
noncomputable def insRC (n:Nat):Code:=((Tryz.f85.body.bind (codeR n)).getD .skip)
def val3Mk (ga gm h3 q:Nat) (s:ByteArray) (z n:Int)  (c1 c2 c5 c6 c7 c8 c9 d4 d10 d11 d12 d13 d14 d15 d16 d17 d18 d19 d20 d21 d22 d23:Value)  (L:Array Bool):Act:={ tmps:=#[.pointer (some ⟨ga,0,none⟩),c1,c2,.pointer (some ⟨h3,0,none⟩),sld d4 L 14 (.int .i64 (Pl.wd (z+n))),c5,c6,c7,c8,c9,sld d10 L 0 (.pointer (some ⟨ga,0,none⟩)),sld d11 L 1 (.pointer (some ⟨ga,0,none⟩)),sld d12 L 2 (.pointer (some ⟨ga,2,none⟩)),sld d13 L 3 (.map (some gm)),sld d14 L 4 (.pointer (some ⟨h3,6,none⟩)),sld d15 L 5 (.string s),sld d16 L 6 (.pointer (some ⟨q,0,none⟩)),sld d17 L 7 (.pointer (some ⟨q,0,none⟩)),sld d18 L 8 (.pointer (some ⟨q,2,none⟩)),sld d19 L 9 (.int .i64 z),sld d20 L 10 (.pointer (some ⟨h3,7,none⟩)),sld d21 L 11 (.int .i64 n),sld d22 L 12 (.int .i64 (z+n)),sld d23 L 13 (.int .i64 (Pl.wd (z+n)))],defers:=[] }
set_option maxRecDepth 100000 in
theorem val3 (ga gm h3 q:Nat) (s:ByteArray) (z n:Int) {c1 c2 c5 c6 c7 c8 c9 d4 d10 d11 d12 d13 d14 d15 d16 d17 d18 d19 d20 d21 d22 d23:Value} (Y:World) (m2:Y.cell? ⟨ga,2,none⟩=some (.map (some gm))) (m6:Y.cell? ⟨h3,6,none⟩=some (.string s)) (m7:Y.cell? ⟨h3,7,none⟩=some (.int .i64 n)) (mq:Y.cell? ⟨q,2,none⟩=some (.int .i64 z)) (hlk:(Instr.lookup 67 (.map (some gm)) (.string s) false).run Tryz.prog Y.drew=.ok (.pointer (some ⟨q,0,none⟩)) Y.drew) (hz : -1099511627776<=z+n/\z+n<=1099511627776) {Q:Exit->Act->World->Prop}
  (hK:Q .normal { tmps:=#[.pointer (some ⟨ga,0,none⟩),c1,c2,.pointer (some ⟨h3,0,none⟩),.int .i64 (Pl.wd (z+n)),c5,c6,c7,c8,c9,.pointer (some ⟨ga,0,none⟩),.pointer (some ⟨ga,0,none⟩),.pointer (some ⟨ga,2,none⟩),.map (some gm),.pointer (some ⟨h3,6,none⟩),.string s,.pointer (some ⟨q,0,none⟩),.pointer (some ⟨q,0,none⟩),.pointer (some ⟨q,2,none⟩),.int .i64 z,.pointer (some ⟨h3,7,none⟩),.int .i64 n,.int .i64 (z+n),.int .i64 (Pl.wd (z+n))],defers:=[] } Y.drew) :
  (valC 3).wp Tryz.prog Q { tmps:=#[.pointer (some ⟨ga,0,none⟩),c1,c2,.pointer (some ⟨h3,0,none⟩),d4,c5,c6,c7,c8,c9,d10,d11,d12,d13,d14,d15,d16,d17,d18,d19,d20,d21,d22,d23],defers:=[] } Y:=by
 have HKt:Hid _:=hK
 clear hK
 have j2:Y.drew.cell? ⟨ga,2,none⟩=some (.map (some gm)):=m2
 have j6:Y.drew.cell? ⟨h3,6,none⟩=some (.string s):=m6
 have j7:Y.drew.cell? ⟨h3,7,none⟩=some (.int .i64 n):=m7
 have jq:Y.drew.cell? ⟨q,2,none⟩=some (.int .i64 z):=mq
 have hw:wrap64 (z+n)=z+n:=by unfold wrap64;omega
 have hw1:IntKind.i64.wrap (z+n)=z+n:=by rw[IntKind.wrap_i64];omega
 have HWo:Hid (∀ (n:Int) (u:World),Calls Tryz.prog 133 #[.int .i64 n] u fun e w'=>e=.returned (.int .i64 (Pl.wd n))/\w'=u):=implWord_any
 clear m2 m6 mq m7
 conv=>arg 2;whnf
 refine wp_region_any (by kernel_rfl) ?_
 change wpAny _ _ _ _ _ _ _ (World.drew _)
 refine wpAny_inw (fun L act0 u=>act0=val3Mk ga gm h3 q s z n  c1 c2 c5 c6 c7 c8 c9 d4 d10 d11 d12 d13 d14 d15 d16 d17 d18 d19 d20 d21 d22 d23  L/\u=Y.drew) ?done (by kernel_rfl) ?step _ 15 _ _ (by kernel_rfl) ?init (by decide)
 case init=>exact⟨by simp only[val3Mk,sld_no (up_init _ _)],rfl⟩
 case step=>
  intro L act w i o hI hlt hs nl hC hd ho K hK
  obtain⟨rfl,hW⟩:=hI
  have hi_lt:i<15:=(Array.getElem?_eq_some_iff.1 ho).1
  rcases (show i=0\/i=1\/i=2\/i=3\/i=4\/i=5\/i=6\/i=7\/i=8\/i=9\/i=10\/i=11\/i=12\/i=13\/i=14 by omega) with rfl | rfl | rfl | rfl | rfl | rfl | rfl | rfl | rfl | rfl | rfl | rfl | rfl | rfl | rfl
  ·change some _=some o at ho
   cases ho
   subst hW
   simp only[val3Mk]
   go_simp
   exact hK _ _ ⟨by simp only[val3Mk,sld_set hlt,reduceIte,Nat.reduceEqDiff];try rfl,rfl⟩
  ·change some _=some o at ho
   cases ho
   have q0:up L 0=true:=hd { on:=0,ground:=.data } (by simp) rfl
   subst hW
   simp only[val3Mk,sld_yes q0]
   go_simp
   exact hK _ _ ⟨by simp only[val3Mk,sld_set hlt,sld_yes q0,reduceIte,Nat.reduceEqDiff];try rfl,rfl⟩
  ·change some _=some o at ho
   cases ho
   have q1:up L 1=true:=hd { on:=1,ground:=.data } (by simp) rfl
   subst hW
   simp only[val3Mk,sld_yes q1]
   go_simp
   exact hK _ _ ⟨by simp only[val3Mk,sld_set hlt,sld_yes q1,reduceIte,Nat.reduceEqDiff];try rfl,rfl⟩
  ·change some _=some o at ho
   cases ho
   have q2:up L 2=true:=hd { on:=2,ground:=.data } (by simp) rfl
   subst hW
   simp only[val3Mk,sld_yes q2]
   go_simp
   exact hK _ _ ⟨by simp only[val3Mk,sld_set hlt,sld_yes q2,reduceIte,Nat.reduceEqDiff];try rfl,rfl⟩
  ·change some _=some o at ho
   cases ho
   subst hW
   simp only[val3Mk]
   go_simp
   exact hK _ _ ⟨by simp only[val3Mk,sld_set hlt,reduceIte,Nat.reduceEqDiff];try rfl,rfl⟩
  ·change some _=some o at ho
   cases ho
   have q4:up L 4=true:=hd { on:=4,ground:=.data } (by simp) rfl
   subst hW
   simp only[val3Mk,sld_yes q4]
   go_simp
   exact hK _ _ ⟨by simp only[val3Mk,sld_set hlt,sld_yes q4,reduceIte,Nat.reduceEqDiff];try rfl,rfl⟩
  ·change some _=some o at ho
   cases ho
   have q3:up L 3=true:=hd { on:=3,ground:=.data } (by simp) rfl
   have q5:up L 5=true:=hd { on:=5,ground:=.data } (by simp) rfl
   subst hW
   simp only[val3Mk,sld_yes q3,sld_yes q5]
   go_simp
   exact hK _ _ ⟨by simp only[val3Mk,sld_set hlt,sld_yes q3,sld_yes q5,reduceIte,Nat.reduceEqDiff];try rfl,rfl⟩
  ·change some _=some o at ho
   cases ho
   have q6:up L 6=true:=hd { on:=6,ground:=.data } (by simp) rfl
   subst hW
   simp only[val3Mk,sld_yes q6]
   go_simp
   exact hK _ _ ⟨by simp only[val3Mk,sld_set hlt,sld_yes q6,reduceIte,Nat.reduceEqDiff];try rfl,rfl⟩
  ·change some _=some o at ho
   cases ho
   have q7:up L 7=true:=hd { on:=7,ground:=.data } (by simp) rfl
   subst hW
   simp only[val3Mk,sld_yes q7]
   go_simp
   exact hK _ _ ⟨by simp only[val3Mk,sld_set hlt,sld_yes q7,reduceIte,Nat.reduceEqDiff];try rfl,rfl⟩
  ·change some _=some o at ho
   cases ho
   have q8:up L 8=true:=hd { on:=8,ground:=.data } (by simp) rfl
   subst hW
   simp only[val3Mk,sld_yes q8]
   go_simp
   exact hK _ _ ⟨by simp only[val3Mk,sld_set hlt,sld_yes q8,reduceIte,Nat.reduceEqDiff];try rfl,rfl⟩
  ·change some _=some o at ho
   cases ho
   subst hW
   simp only[val3Mk]
   go_simp
   exact hK _ _ ⟨by simp only[val3Mk,sld_set hlt,reduceIte,Nat.reduceEqDiff];try rfl,rfl⟩
  ·change some _=some o at ho
   cases ho
   have q10:up L 10=true:=hd { on:=10,ground:=.data } (by simp) rfl
   subst hW
   simp only[val3Mk,sld_yes q10]
   go_simp
   exact hK _ _ ⟨by simp only[val3Mk,sld_set hlt,sld_yes q10,reduceIte,Nat.reduceEqDiff];try rfl,rfl⟩
  ·change some _=some o at ho
   cases ho
   have q9:up L 9=true:=hd { on:=9,ground:=.data } (by simp) rfl
   have q11:up L 11=true:=hd { on:=11,ground:=.data } (by simp) rfl
   subst hW
   simp only[val3Mk,sld_yes q9,sld_yes q11]
   go_simp
   exact hK _ _ ⟨by simp only[val3Mk,sld_set hlt,sld_yes q9,sld_yes q11,reduceIte,Nat.reduceEqDiff];try rfl,rfl⟩
  ·change some _=some o at ho
   cases ho
   have q12:up L 12=true:=hd { on:=12,ground:=.data } (by simp) rfl
   subst hW
   simp only[val3Mk,sld_yes q12]
   go_simp
   refine (HWo.out _ _).mono ?_
   rintro e w3 ⟨rfl,rfl⟩
   go_simp
   exact hK _ _ ⟨by simp only[val3Mk,sld_set hlt,sld_yes q12,reduceIte,Nat.reduceEqDiff];try rfl,rfl⟩
  ·change some _=some o at ho
   cases ho
   have q13:up L 13=true:=hd { on:=13,ground:=.data } (by simp) rfl
   subst hW
   simp only[val3Mk,sld_yes q13]
   go_simp
   exact hK _ _ ⟨by simp only[val3Mk,sld_set hlt,sld_yes q13,reduceIte,Nat.reduceEqDiff];try rfl,rfl⟩
 case done=>
  rintro L a u ⟨rfl,hW⟩ hall
  simp only[val3Mk,sld_yes (hall 0 (by decide)),sld_yes (hall 1 (by decide)),sld_yes (hall 2 (by decide)),sld_yes (hall 3 (by decide)),sld_yes (hall 4 (by decide)),sld_yes (hall 5 (by decide)),sld_yes (hall 6 (by decide)),sld_yes (hall 7 (by decide)),sld_yes (hall 8 (by decide)),sld_yes (hall 9 (by decide)),sld_yes (hall 10 (by decide)),sld_yes (hall 11 (by decide)),sld_yes (hall 12 (by decide)),sld_yes (hall 13 (by decide)),sld_yes (hall 14 (by decide))]
  subst hW
  exact HKt.out
def ins7Mk (h4 hz:Nat) (x:Pl.Ln)  (c0 c1 c2 c3 c5 c7 c8 c9 c10 c11 c12 c13 c14 c15 c16 c17 c18 c19 c20 c21 c22 c23 c24 c25 c34 c35 c36 c37 c38 c39 c40 c41 c42 c43 c44 c45 c46 c47 c48 c49 c50 c51 c52 c53 c54 c55 c56 c57 c58 c59 c60 c61 c62 c63 c64 c65 d6 d26 d27 d28 d29 d30 d31 d32 d33:Value)  (L:Array Bool):Act:={ tmps:=#[c0,c1,c2,c3,.pointer (some ⟨h4,0,none⟩),c5,sld d6 L 8 (.slice (some ⟨hz,0,none⟩) 1 1),c7,c8,c9,c10,c11,c12,c13,c14,c15,c16,c17,c18,c19,c20,c21,c22,c23,c24,c25,sld d26 L 0 (.pointer (some ⟨h4,1,none⟩)),sld d27 L 1 (.pointer (some ⟨h4,2,none⟩)),sld d28 L 2 (.int .i64 x.rd),sld d29 L 3 (.pointer (some ⟨h4,7,none⟩)),sld d30 L 4 (.int .i64 x.n),sld d31 L 5 (.int .i64 (Pl.sg x.n)),sld d32 L 6 (.agg #[.int .i64 19,.int .i64 x.rd,.int .i64 0,.int .i64 0,.int .i64 (Pl.sg x.n)]),sld d33 L 7 (.slice (some ⟨hz,0,none⟩) 1 1),c34,c35,c36,c37,c38,c39,c40,c41,c42,c43,c44,c45,c46,c47,c48,c49,c50,c51,c52,c53,c54,c55,c56,c57,c58,c59,c60,c61,c62,c63,c64,c65],defers:=[] }
set_option maxRecDepth 100000 in
theorem ins7 (h4 hz:Nat) (x:Pl.Ln) {c0 c1 c2 c3 c5 c7 c8 c9 c10 c11 c12 c13 c14 c15 c16 c17 c18 c19 c20 c21 c22 c23 c24 c25 c34 c35 c36 c37 c38 c39 c40 c41 c42 c43 c44 c45 c46 c47 c48 c49 c50 c51 c52 c53 c54 c55 c56 c57 c58 c59 c60 c61 c62 c63 c64 c65 d6 d26 d27 d28 d29 d30 d31 d32 d33:Value} (Y:World) (hh:hz=Y.heap.size) (r4:Y.heap[h4]?=some (.cells #[.int .i64 x.k,.int .i64 x.op,.int .i64 x.rd,.int .i64 x.r1,.int .i64 x.r2,.int .i64 x.im,.string x.s,.int .i64 x.n] 51 (0,0))) {Q:Exit->Act->World->Prop}
  (hK:∀ ty:TypeId,ty≠3/\ty≠5->Q .normal { tmps:=#[c0,c1,c2,c3,.pointer (some ⟨h4,0,none⟩),c5,.slice (some ⟨hz,0,none⟩) 1 1,c7,c8,c9,c10,c11,c12,c13,c14,c15,c16,c17,c18,c19,c20,c21,c22,c23,c24,c25,.pointer (some ⟨h4,1,none⟩),.pointer (some ⟨h4,2,none⟩),.int .i64 x.rd,.pointer (some ⟨h4,7,none⟩),.int .i64 x.n,.int .i64 (Pl.sg x.n),.agg #[.int .i64 19,.int .i64 x.rd,.int .i64 0,.int .i64 0,.int .i64 (Pl.sg x.n)],.slice (some ⟨hz,0,none⟩) 1 1,c34,c35,c36,c37,c38,c39,c40,c41,c42,c43,c44,c45,c46,c47,c48,c49,c50,c51,c52,c53,c54,c55,c56,c57,c58,c59,c60,c61,c62,c63,c64,c65],defers:=[] } (Y.drew.alloc (.cells #[.int .i64 19,.int .i64 x.rd,.int .i64 0,.int .i64 0,.int .i64 (Pl.sg x.n)] ty))) :
  (insRC 7).wp Tryz.prog Q { tmps:=#[c0,c1,c2,c3,.pointer (some ⟨h4,0,none⟩),c5,d6,c7,c8,c9,c10,c11,c12,c13,c14,c15,c16,c17,c18,c19,c20,c21,c22,c23,c24,c25,d26,d27,d28,d29,d30,d31,d32,d33,c34,c35,c36,c37,c38,c39,c40,c41,c42,c43,c44,c45,c46,c47,c48,c49,c50,c51,c52,c53,c54,c55,c56,c57,c58,c59,c60,c61,c62,c63,c64,c65],defers:=[] } Y:=by
 have HKt:Hid _:=hK
 clear hK
 have j2:Y.drew.cell? ⟨h4,2,none⟩=some (.int .i64 x.rd):=cell_of_row Y.drew h4 2 _ 51 (0,0) r4
 have j7:Y.drew.cell? ⟨h4,7,none⟩=some (.int .i64 x.n):=cell_of_row Y.drew h4 7 _ 51 (0,0) r4
 have HSg:Hid (∀ (n:Int) (u:World),Calls Tryz.prog 118 #[.int .i64 n] u fun e w'=>e=.returned (.int .i64 (Pl.sg n))/\w'=u):=implSigned_any
 subst hh
 clear r4
 conv=>arg 2;whnf
 dsimp only
 refine wp_region_any (by kernel_rfl) ?_
 change wpAny _ _ _ _ _ _ _ (World.drew _)
 refine wpAny_inw (fun L act0 u=>act0=ins7Mk h4 Y.heap.size x  c0 c1 c2 c3 c5 c7 c8 c9 c10 c11 c12 c13 c14 c15 c16 c17 c18 c19 c20 c21 c22 c23 c24 c25 c34 c35 c36 c37 c38 c39 c40 c41 c42 c43 c44 c45 c46 c47 c48 c49 c50 c51 c52 c53 c54 c55 c56 c57 c58 c59 c60 c61 c62 c63 c64 c65 d6 d26 d27 d28 d29 d30 d31 d32 d33  L/\OneW Y.drew (fun u=>∃ ty:TypeId,(ty≠3/\ty≠5)/\u=Y.drew.alloc (.cells #[.int .i64 19,.int .i64 x.rd,.int .i64 0,.int .i64 0,.int .i64 (Pl.sg x.n)] ty)) 7 L u) ?done (by kernel_rfl) ?step _ 9 _ _ (by kernel_rfl) ?init (by decide)
 case init=>exact⟨by simp only[ins7Mk,sld_no (up_init _ _)],OneW.init⟩
 case step=>
  intro L act w i o hI hlt hs nl hC hd ho K hK
  obtain⟨rfl,hW⟩:=hI
  have hi_lt:i<9:=(Array.getElem?_eq_some_iff.1 ho).1
  rcases (show i=0\/i=1\/i=2\/i=3\/i=4\/i=5\/i=6\/i=7\/i=8 by omega) with rfl | rfl | rfl | rfl | rfl | rfl | rfl | rfl | rfl
  ·change some _=some o at ho
   cases ho
   simp only[ins7Mk]
   go_simp
   exact hK _ _ ⟨by simp only[ins7Mk,sld_set hlt,reduceIte,Nat.reduceEqDiff];try rfl,(hW.keep hlt (by decide))⟩
  ·change some _=some o at ho
   cases ho
   have q0:up L 0=true:=hd { on:=0,ground:=.data } (by simp) rfl
   simp only[ins7Mk,sld_yes q0]
   go_simp
   exact hK _ _ ⟨by simp only[ins7Mk,sld_set hlt,sld_yes q0,reduceIte,Nat.reduceEqDiff];try rfl,(hW.keep hlt (by decide))⟩
  ·change some _=some o at ho
   cases ho
   have q1:up L 1=true:=hd { on:=1,ground:=.data } (by simp) rfl
   have n6:up L 6=false:=hC.no nl 6 rfl (by kernel_rfl)
   have n7:up L 7=false:=hC.no n6 7 rfl (by kernel_rfl)
   obtain rfl:=hW.1 n7
   simp only[ins7Mk,sld_yes q1]
   go_simp
   exact hK _ _ ⟨by simp only[ins7Mk,sld_set hlt,sld_yes q1,reduceIte,Nat.reduceEqDiff];try rfl,(hW.keep hlt (by decide))⟩
  ·change some _=some o at ho
   cases ho
   simp only[ins7Mk]
   go_simp
   exact hK _ _ ⟨by simp only[ins7Mk,sld_set hlt,reduceIte,Nat.reduceEqDiff];try rfl,(hW.keep hlt (by decide))⟩
  ·change some _=some o at ho
   cases ho
   have q3:up L 3=true:=hd { on:=3,ground:=.data } (by simp) rfl
   have n5:up L 5=false:=hC.no nl 5 rfl (by kernel_rfl)
   have n6:up L 6=false:=hC.no n5 6 rfl (by kernel_rfl)
   have n7:up L 7=false:=hC.no n6 7 rfl (by kernel_rfl)
   obtain rfl:=hW.1 n7
   simp only[ins7Mk,sld_yes q3]
   go_simp
   exact hK _ _ ⟨by simp only[ins7Mk,sld_set hlt,sld_yes q3,reduceIte,Nat.reduceEqDiff];try rfl,(hW.keep hlt (by decide))⟩
  ·change some _=some o at ho
   cases ho
   have q4:up L 4=true:=hd { on:=4,ground:=.data } (by simp) rfl
   have n6:up L 6=false:=hC.no nl 6 rfl (by kernel_rfl)
   have n7:up L 7=false:=hC.no n6 7 rfl (by kernel_rfl)
   obtain rfl:=hW.1 n7
   simp only[ins7Mk,sld_yes q4]
   go_simp
   refine (HSg.out _ _).mono ?_
   rintro e w3 ⟨rfl,rfl⟩
   go_simp
   exact hK _ _ ⟨by simp only[ins7Mk,sld_set hlt,sld_yes q4,reduceIte,Nat.reduceEqDiff];try rfl,(hW.keep hlt (by decide))⟩
  ·change some _=some o at ho
   cases ho
   have q2:up L 2=true:=hd { on:=2,ground:=.data } (by simp) rfl
   have q5:up L 5=true:=hd { on:=5,ground:=.data } (by simp) rfl
   simp only[ins7Mk,sld_yes q2,sld_yes q5]
   go_simp
   exact hK _ _ ⟨by simp only[ins7Mk,sld_set hlt,sld_yes q2,sld_yes q5,reduceIte,Nat.reduceEqDiff];try rfl,(hW.keep hlt (by decide))⟩
  ·change some _=some o at ho
   cases ho
   have q6:up L 6=true:=hd { on:=6,ground:=.data } (by simp) rfl
   obtain rfl:=hW.1 nl
   simp only[ins7Mk,sld_yes q6]
   go_simp
   exact hK _ _ ⟨by simp only[ins7Mk,sld_set hlt,sld_yes q6,reduceIte,Nat.reduceEqDiff];try rfl,OneW.first hlt ⟨_,by decide,rfl⟩⟩
  ·change some _=some o at ho
   cases ho
   have q7:up L 7=true:=hd { on:=7,ground:=.data } (by simp) rfl
   simp only[ins7Mk,sld_yes q7]
   go_simp
   exact hK _ _ ⟨by simp only[ins7Mk,sld_set hlt,sld_yes q7,reduceIte,Nat.reduceEqDiff];try rfl,(hW.keep hlt (by decide))⟩
 case done=>
  rintro L a u ⟨rfl,hW⟩ hall
  simp only[ins7Mk,sld_yes (hall 0 (by decide)),sld_yes (hall 1 (by decide)),sld_yes (hall 2 (by decide)),sld_yes (hall 3 (by decide)),sld_yes (hall 4 (by decide)),sld_yes (hall 5 (by decide)),sld_yes (hall 6 (by decide)),sld_yes (hall 7 (by decide)),sld_yes (hall 8 (by decide))]
  obtain⟨ty,ht,rfl⟩:=hW.2 (hall 7 (by decide))
  exact HKt.out ty ht
def ins10Mk (ga h4:Nat) (x:Pl.Ln) (v:Int)  (c1 c2 c3 c5 c7 c8 c9 c10 c11 c12 c13 c14 c15 c16 c17 c18 c19 c20 c21 c22 c23 c24 c25 c26 c27 c28 c29 c30 c31 c32 c33 c34 c35 c36 c37 c38 c39 c40 c41 c49 c50 c51 c52 c53 c54 c55 c56 c57 c58 c59 c60 c61 c62 c63 c64 c65 d6 d42 d43 d44 d45 d46 d47 d48:Value) (a2:Option Addr) (L:Array Bool):Act:={ tmps:=#[.pointer (some ⟨ga,0,none⟩),c1,c2,c3,.pointer (some ⟨h4,0,none⟩),c5,sld d6 L 7 (.slice a2 2 2),c7,c8,c9,c10,c11,c12,c13,c14,c15,c16,c17,c18,c19,c20,c21,c22,c23,c24,c25,c26,c27,c28,c29,c30,c31,c32,c33,c34,c35,c36,c37,c38,c39,c40,c41,sld d42 L 0 (.pointer (some ⟨h4,1,none⟩)),sld d43 L 1 (.pointer (some ⟨h4,2,none⟩)),sld d44 L 2 (.int .i64 x.rd),sld d45 L 3 (.pointer (some ⟨ga,0,none⟩)),sld d46 L 4 (.agg #[.int .i64 x.k,.int .i64 x.op,.int .i64 x.rd,.int .i64 x.r1,.int .i64 x.r2,.int .i64 x.im,.string x.s,.int .i64 x.n]),sld d47 L 5 (.int .i64 v),sld d48 L 6 (.slice a2 2 2),c49,c50,c51,c52,c53,c54,c55,c56,c57,c58,c59,c60,c61,c62,c63,c64,c65],defers:=[] }
set_option maxRecDepth 100000 in
theorem ins10 (ga h4:Nat) (x:Pl.Ln) (v:Int) {c1 c2 c3 c5 c7 c8 c9 c10 c11 c12 c13 c14 c15 c16 c17 c18 c19 c20 c21 c22 c23 c24 c25 c26 c27 c28 c29 c30 c31 c32 c33 c34 c35 c36 c37 c38 c39 c40 c41 c49 c50 c51 c52 c53 c54 c55 c56 c57 c58 c59 c60 c61 c62 c63 c64 c65 d6 d42 d43 d44 d45 d46 d47 d48:Value} (Y:World) (r4:Y.heap[h4]?=some (.cells #[.int .i64 x.k,.int .i64 x.op,.int .i64 x.rd,.int .i64 x.r1,.int .i64 x.r2,.int .i64 x.im,.string x.s,.int .i64 x.n] 51 (0,0))) (hv:0<=v/\v<=4294967295) (hVO:Calls Tryz.prog 120 #[.pointer (some ⟨ga,0,none⟩),.agg #[.int .i64 x.k,.int .i64 x.op,.int .i64 x.rd,.int .i64 x.r1,.int .i64 x.r2,.int .i64 x.im,.string x.s,.int .i64 x.n]] Y.drew fun e w'=>e=.returned (.int .i64 v)/\Below Y.drew.heap.size Y.drew w') {Q:Exit->Act->World->Prop}
  (hK:∀ (a2:Option Addr) (w1:World),InsRow Y.heap.size w1 a2 2 (Pl.pair x.rd v)->Below Y.heap.size Y w1->Q .normal { tmps:=#[.pointer (some ⟨ga,0,none⟩),c1,c2,c3,.pointer (some ⟨h4,0,none⟩),c5,.slice a2 2 2,c7,c8,c9,c10,c11,c12,c13,c14,c15,c16,c17,c18,c19,c20,c21,c22,c23,c24,c25,c26,c27,c28,c29,c30,c31,c32,c33,c34,c35,c36,c37,c38,c39,c40,c41,.pointer (some ⟨h4,1,none⟩),.pointer (some ⟨h4,2,none⟩),.int .i64 x.rd,.pointer (some ⟨ga,0,none⟩),.agg #[.int .i64 x.k,.int .i64 x.op,.int .i64 x.rd,.int .i64 x.r1,.int .i64 x.r2,.int .i64 x.im,.string x.s,.int .i64 x.n],.int .i64 v,.slice a2 2 2,c49,c50,c51,c52,c53,c54,c55,c56,c57,c58,c59,c60,c61,c62,c63,c64,c65],defers:=[] } w1) :
  (insRC 10).wp Tryz.prog Q { tmps:=#[.pointer (some ⟨ga,0,none⟩),c1,c2,c3,.pointer (some ⟨h4,0,none⟩),c5,d6,c7,c8,c9,c10,c11,c12,c13,c14,c15,c16,c17,c18,c19,c20,c21,c22,c23,c24,c25,c26,c27,c28,c29,c30,c31,c32,c33,c34,c35,c36,c37,c38,c39,c40,c41,d42,d43,d44,d45,d46,d47,d48,c49,c50,c51,c52,c53,c54,c55,c56,c57,c58,c59,c60,c61,c62,c63,c64,c65],defers:=[] } Y:=by
 have HKt:Hid _:=hK
 clear hK
 have l0:Y.drew.cell? ⟨h4,0,none⟩=some (.int .i64 x.k):=cell_of_row Y.drew h4 0 _ 51 (0,0) r4
 have l1:Y.drew.cell? ⟨h4,1,none⟩=some (.int .i64 x.op):=cell_of_row Y.drew h4 1 _ 51 (0,0) r4
 have l2:Y.drew.cell? ⟨h4,2,none⟩=some (.int .i64 x.rd):=cell_of_row Y.drew h4 2 _ 51 (0,0) r4
 have l3:Y.drew.cell? ⟨h4,3,none⟩=some (.int .i64 x.r1):=cell_of_row Y.drew h4 3 _ 51 (0,0) r4
 have l4:Y.drew.cell? ⟨h4,4,none⟩=some (.int .i64 x.r2):=cell_of_row Y.drew h4 4 _ 51 (0,0) r4
 have l5:Y.drew.cell? ⟨h4,5,none⟩=some (.int .i64 x.im):=cell_of_row Y.drew h4 5 _ 51 (0,0) r4
 have l6:Y.drew.cell? ⟨h4,6,none⟩=some (.string x.s):=cell_of_row Y.drew h4 6 _ 51 (0,0) r4
 have l7:Y.drew.cell? ⟨h4,7,none⟩=some (.int .i64 x.n):=cell_of_row Y.drew h4 7 _ 51 (0,0) r4
 have HVO:Hid _:=hVO
 have HTW:Hid (∀ u:World,Calls Tryz.prog 119 #[.int .i64 x.rd,.int .i64 v] u fun e w'=>∃ a,e=.returned (.slice a 2 2)/\InsRow u.heap.size w' a 2 (Pl.pair x.rd v)/\Below u.heap.size u w'):=fun u=>twoInsts_is x.rd v hv u
 clear hVO r4
 conv=>arg 2;whnf
 dsimp only
 refine wp_region_any (by kernel_rfl) ?_
 change wpAny _ _ _ _ _ _ _ (World.drew _)
 refine wpAny_inw (fun L act0 u=>∃ a2 w1,act0=ins10Mk ga h4 x v  c1 c2 c3 c5 c7 c8 c9 c10 c11 c12 c13 c14 c15 c16 c17 c18 c19 c20 c21 c22 c23 c24 c25 c26 c27 c28 c29 c30 c31 c32 c33 c34 c35 c36 c37 c38 c39 c40 c41 c49 c50 c51 c52 c53 c54 c55 c56 c57 c58 c59 c60 c61 c62 c63 c64 c65 d6 d42 d43 d44 d45 d46 d47 d48 a2 L/\TwoW Y.drew (fun u=>Below Y.drew.heap.size Y.drew u) (fun u=>InsRow w1.heap.size u a2 2 (Pl.pair x.rd v)/\Below w1.heap.size w1 u) 5 6 w1 L u) ?done (by kernel_rfl) ?step _ 8 _ _ (by kernel_rfl) ?init (by decide)
 case init=>exact⟨none,Y,by simp only[ins10Mk,sld_no (up_init _ _)],TwoW.init⟩
 case step=>
  intro L act w i o hI hlt hs nl hC hd ho K hK
  obtain⟨a2,w1,rfl,hW⟩:=hI
  have hi_lt:i<8:=(Array.getElem?_eq_some_iff.1 ho).1
  rcases (show i=0\/i=1\/i=2\/i=3\/i=4\/i=5\/i=6\/i=7 by omega) with rfl | rfl | rfl | rfl | rfl | rfl | rfl | rfl
  ·change some _=some o at ho
   cases ho
   simp only[ins10Mk]
   go_simp
   exact hK _ _ ⟨a2,w1,by simp only[ins10Mk,sld_set hlt,reduceIte,Nat.reduceEqDiff];try rfl,(hW.keep hlt (by decide) (by decide))⟩
  ·change some _=some o at ho
   cases ho
   have q0:up L 0=true:=hd { on:=0,ground:=.data } (by simp) rfl
   simp only[ins10Mk,sld_yes q0]
   go_simp
   exact hK _ _ ⟨a2,w1,by simp only[ins10Mk,sld_set hlt,sld_yes q0,reduceIte,Nat.reduceEqDiff];try rfl,(hW.keep hlt (by decide) (by decide))⟩
  ·change some _=some o at ho
   cases ho
   have q1:up L 1=true:=hd { on:=1,ground:=.data } (by simp) rfl
   have n6:up L 6=false:=hC.no nl 6 rfl (by kernel_rfl)
   have xo:=hW.cell n6 l2 (fun q=>below_cell q l2)
   simp only[ins10Mk,sld_yes q1]
   go_simp
   exact hK _ _ ⟨a2,w1,by simp only[ins10Mk,sld_set hlt,sld_yes q1,reduceIte,Nat.reduceEqDiff];try rfl,(hW.keep hlt (by decide) (by decide))⟩
  ·change some _=some o at ho
   cases ho
   simp only[ins10Mk]
   go_simp
   exact hK _ _ ⟨a2,w1,by simp only[ins10Mk,sld_set hlt,reduceIte,Nat.reduceEqDiff];try rfl,(hW.keep hlt (by decide) (by decide))⟩
  ·change some _=some o at ho
   cases ho
   have n5:up L 5=false:=hC.no nl 5 rfl (by kernel_rfl)
   obtain rfl:=hW.1 n5
   simp only[ins10Mk]
   go_simp
   exact hK _ _ ⟨a2,w1,by simp only[ins10Mk,sld_set hlt,reduceIte,Nat.reduceEqDiff];try rfl,(hW.keep hlt (by decide) (by decide))⟩
  ·change some _=some o at ho
   cases ho
   have q3:up L 3=true:=hd { on:=3,ground:=.data } (by simp) rfl
   have q4:up L 4=true:=hd { on:=4,ground:=.data } (by simp) rfl
   have n6:up L 6=false:=hC.no nl 6 rfl (by kernel_rfl)
   obtain rfl:=hW.1 nl
   simp only[ins10Mk,sld_yes q3,sld_yes q4]
   go_simp
   refine Calls.mono HVO.out ?_
   rintro e w3 ⟨rfl,hb3⟩
   go_simp
   exact hK _ _ ⟨a2,w3,by simp only[ins10Mk,sld_set hlt,sld_yes q3,sld_yes q4,reduceIte,Nat.reduceEqDiff];try rfl,TwoW.first hlt (by decide) n6 hb3⟩
  ·change some _=some o at ho
   cases ho
   have q2:up L 2=true:=hd { on:=2,ground:=.data } (by simp) rfl
   have q5:up L 5=true:=hd { on:=5,ground:=.data } (by simp) rfl
   have n7:up L 7=false:=hC.no nl 7 rfl (by kernel_rfl)
   obtain⟨d1,y4,_⟩:=hW.2 q5
   obtain rfl:=y4 nl
   have D1:Hid _:=d1
   clear d1
   simp only[ins10Mk,sld_yes q2,sld_yes q5]
   go_simp
   refine (HTW.out _).mono ?_
   rintro e w3 ⟨a3,rfl,hr3,hb3⟩
   go_simp
   exact hK _ _ ⟨a3,w,by simp only[ins10Mk,sld_set hlt,sld_yes q2,sld_yes q5,sld_no n7,reduceIte,Nat.reduceEqDiff];try rfl,⟨fun z=>absurd (z.symm.trans ((up_set hlt 5).trans ((if_neg (by decide)).trans q5))) (by decide),fun _=>⟨D1.out,fun z=>absurd (z.symm.trans ((up_set hlt _).trans (if_pos rfl))) (by decide),fun _=>⟨hr3,hb3⟩⟩⟩⟩
  ·change some _=some o at ho
   cases ho
   have q6:up L 6=true:=hd { on:=6,ground:=.data } (by simp) rfl
   simp only[ins10Mk,sld_yes q6]
   go_simp
   exact hK _ _ ⟨a2,w1,by simp only[ins10Mk,sld_set hlt,sld_yes q6,reduceIte,Nat.reduceEqDiff];try rfl,(hW.keep hlt (by decide) (by decide))⟩
 case done=>
  rintro L a u ⟨a2,w1,rfl,hW⟩ hall
  simp only[ins10Mk,sld_yes (hall 0 (by decide)),sld_yes (hall 1 (by decide)),sld_yes (hall 2 (by decide)),sld_yes (hall 3 (by decide)),sld_yes (hall 4 (by decide)),sld_yes (hall 5 (by decide)),sld_yes (hall 6 (by decide)),sld_yes (hall 7 (by decide))]
  obtain⟨d1,_,hB⟩:=hW.2 (hall 5 (by decide))
  obtain⟨hr,hb⟩:=hB (hall 6 (by decide))
  exact HKt.out a2 u (hr.mono d1.size) (Below.trans (Below.drew (Below.refl _ _)) (d1.trans (hb.mono d1.size)))
variable {lo:Nat} {xs:List Pl.Ln} {w u u':World} {ga gm:Nat} {a:Option Addr} {len cap:Nat} {stack:Int} {B:Nat} {mb:Nat->Nat}
theorem nil_of:∀ s:ByteArray,s.size=0->s=⟨#[]⟩:=fun ⟨⟨l⟩⟩ e=>by
 have h:l.length=0:=e
 rw[List.length_eq_zero_iff.1 h]
theorem valueOf_is (x:Pl.Ln) (h:Amz lo xs w u ga gm a len cap stack B mb) (hs:x.s.size<=maxLen) (hl:¬ x.s.size=0->∃ j,Pl.lb xs x.s=some j/\-1099511627776<=(Pl.cu xs j).at+x.n/\(Pl.cu xs j).at+x.n<=1099511627776):Calls Tryz.prog 120 #[.pointer (some ⟨ga,0,none⟩),.agg #[.int .i64 x.k,.int .i64 x.op,.int .i64 x.rd,.int .i64 x.r1,.int .i64 x.r2,.int .i64 x.im,.string x.s,.int .i64 x.n]] u fun e u'=>e=.returned (.int .i64 (Pl.valL xs x))/\Below u.heap.size u u':=by
 have HSN:Hid (decide (x.s=⟨#[]⟩)=x.s.toList.isEmpty):=Pl.str_nil x.s
 obtain⟨V,hV⟩:∃ V,V=u.alloc (.cells #[.int .i64 x.k,.int .i64 x.op,.int .i64 x.rd,.int .i64 x.r1,.int .i64 x.r2,.int .i64 x.im,.string x.s,.int .i64 x.n] 51):=⟨_,rfl⟩
 have hBV:Below u.heap.size u V:=by rw[hV];exact below_alloc u _
 have HBV:Hid _:=hBV
 have HR3:Hid (V.heap[u.heap.size]?=some (.cells #[.int .i64 x.k,.int .i64 x.op,.int .i64 x.rd,.int .i64 x.r1,.int .i64 x.r2,.int .i64 x.im,.string x.s,.int .i64 x.n] 51 (0,0))):=by show _=_;rw[hV];exact heap_alloc_new u _
 have HV:Hid _:=hV.symm
 have HA:Hid _:=h.keep hBV
 have HL:Hid _:=hl
 have HS:Hid _:=hs
 clear h hl hs hV hBV
 cases se:x.s.toList.isEmpty
 ·have hne:¬ x.s=⟨#[]⟩:=of_decide_eq_false (HSN.out.trans se)
  have hsz:¬ x.s.size=0:=fun e=>hne (nil_of _ e)
  obtain⟨j,hlb,hb1,hb2⟩:=HL.out hsz
  have HVL:Hid (Pl.valL xs x=Pl.wd ((Pl.cu xs j).at+x.n)):=by show _=_;unfold Pl.valL Pl.adr;rw[if_neg hne,hlb]
  have HLK:Hid ((Instr.lookup 67 (.map (some gm)) (.string x.s) false).run Tryz.prog V.drew=.ok (.pointer (some ⟨mb j,0,none⟩)) V.drew):=by
   have:=Aml.look (HA.out.keep (Below.drew (Below.refl _ _))) HS.out
   rw[hlb]at this
   exact this
  have HMK:Hid _:=(HA.out.mark hlb).2.2
  have HBN:Hid (-1099511627776<=(Pl.cu xs j).at+x.n/\(Pl.cu xs j).at+x.n<=1099511627776):=⟨hb1,hb2⟩
  clear hne hsz hlb hb1 hb2
  go_enter Tryz.func120,Tryz.ntmps120
  go_upto_region 3 with fail
  rw[HV.out]
  refine val3 ga gm u.heap.size (mb j) x.s (Pl.cu xs j).at x.n V ((Aml.am HA.out).cell 2) (cell_of_row _ _ 6 _ 51 (0,0) HR3.out) (cell_of_row _ _ 7 _ 51 (0,0) HR3.out) HMK.out HLK.out HBN.out ?_
  go_wp2
  go_ret
  exact⟨ret_int HVL.out.symm,Below.drew HBV.out⟩
 ·have hne:x.s=⟨#[]⟩:=of_decide_eq_true (HSN.out.trans se)
  have HVL:Hid (Pl.valL xs x=x.n):=by show _=_;unfold Pl.valL;rw[if_pos hne]
  clear hne
  go_enter Tryz.func120,Tryz.ntmps120
  go_wp2
  go_ret
  exact⟨ret_int HVL.out.symm,below_alloc _ _⟩
variable {lo:Nat} {xs:List Pl.Ln} {w u u':World} {ga gm:Nat} {a:Option Addr} {len cap:Nat} {stack:Int} {B:Nat} {mb:Nat->Nat}
def InsI (x:Pl.Ln) (la t:Int) (ga:Nat) (u:World):Prop:=
 Calls Tryz.prog 85 #[.pointer (some ⟨ga,0,none⟩),.agg #[.int .i64 x.k,.int .i64 x.op,.int .i64 x.rd,.int .i64 x.r1,.int .i64 x.r2,.int .i64 x.im,.string x.s,.int .i64 x.n],.int .i64 t] u fun e u'=>∃ a n c,e=.returned (.slice a n c)/\InsRow u.heap.size u' a n (Pl.insA x t la)/\Below u.heap.size u u'
theorem from_line {u w1:World} {o:Obj} (h:Below (u.heap.size+1) (u.alloc o) w1):Below u.heap.size u w1:=(below_alloc u o).trans (h.mono (by omega))
theorem insts_j (x:Pl.Ln) (t la:Int) (ga:Nat) (u:World) (hj:Pl.isJ x.k=true) (y:Pl.Ins) (hy:y=Pl.jin x (la-t)) (hJP:Calls Tryz.prog 82 #[.pointer (some ⟨ga,0,none⟩),.agg #[.int .i64 x.k,.int .i64 x.op,.int .i64 x.rd,.int .i64 x.r1,.int .i64 x.r2,.int .i64 x.im,.string x.s,.int .i64 x.n],.int .i64 t] (u.alloc (.cells #[.int .i64 x.k,.int .i64 x.op,.int .i64 x.rd,.int .i64 x.r1,.int .i64 x.r2,.int .i64 x.im,.string x.s,.int .i64 x.n] 51)) fun e w'=>e=.returned (.tuple #[.agg #[.int .i64 y.op,.int .i64 y.rd,.int .i64 y.r1,.int .i64 y.r2,.int .i64 y.im],.bool true])/\Below (u.alloc (.cells #[.int .i64 x.k,.int .i64 x.op,.int .i64 x.rd,.int .i64 x.r1,.int .i64 x.r2,.int .i64 x.im,.string x.s,.int .i64 x.n] 51)).heap.size (u.alloc (.cells #[.int .i64 x.k,.int .i64 x.op,.int .i64 x.rd,.int .i64 x.r1,.int .i64 x.r2,.int .i64 x.im,.string x.s,.int .i64 x.n] 51)) w'):InsI x la t ga u:=by
 have HI:Hid (Pl.insA x t la=[y]):=by show _=_;unfold Pl.insA;rw[if_pos hj,hy]
 have HJP:Hid _:=hJP
 unfold InsI
 clear hj hy hJP
 go_enter Tryz.func85,Tryz.ntmps85
 go_wp2_with (go_at_call 82;refine Calls.mono HJP.out ?_;rintro e w1 ⟨rfl,hb1⟩; have HB1:Hid (Below (u.heap.size+1) (u.alloc (.cells #[.int .i64 x.k,.int .i64 x.op,.int .i64 x.rd,.int .i64 x.r1,.int .i64 x.r2,.int .i64 x.im,.string x.s,.int .i64 x.n] 51)) w1):=hb1.mono (by simp);clear hb1)
 go_ret
 have hb:=from_line HB1.out
 rw[HI.out]
 refine⟨_,_,_,rfl,InsRow.one (t:=32) (f:=(0,0)) y ?_ (new_at (by simp)) (by decide),?_⟩
 ·have:=hb.size;simp;omega
 ·exact (hb.trans ((below_alloc _ _).mono hb.size)).trans ((below_alloc _ _).mono (by have:=hb.size;simp;omega))
theorem insts_2 (x:Pl.Ln) (t la:Int) (ga:Nat) (u:World) (hk:x.k=2):InsI x la t ga u:=by
 have HI:Hid (Pl.insA x t la=[⟨x.op,x.rd,x.r1,x.r2,x.im⟩]):=by show _=_;unfold Pl.insA Pl.isJ;simp[hk]
 have HJP:Hid (Calls Tryz.prog 82 #[.pointer (some ⟨ga,0,none⟩),.agg #[.int .i64 x.k,.int .i64 x.op,.int .i64 x.rd,.int .i64 x.r1,.int .i64 x.r2,.int .i64 x.im,.string x.s,.int .i64 x.n],.int .i64 t] (u.alloc (.cells #[.int .i64 x.k,.int .i64 x.op,.int .i64 x.rd,.int .i64 x.r1,.int .i64 x.r2,.int .i64 x.im,.string x.s,.int .i64 x.n] 51)) fun e w'=>e=.returned (.tuple #[.agg #[.int .i64 0,.int .i64 0,.int .i64 0,.int .i64 0,.int .i64 0],.bool false])/\Below (u.alloc (.cells #[.int .i64 x.k,.int .i64 x.op,.int .i64 x.rd,.int .i64 x.r1,.int .i64 x.r2,.int .i64 x.im,.string x.s,.int .i64 x.n] 51)).heap.size (u.alloc (.cells #[.int .i64 x.k,.int .i64 x.op,.int .i64 x.rd,.int .i64 x.r1,.int .i64 x.r2,.int .i64 x.im,.string x.s,.int .i64 x.n] 51)) w'):=jump_no x t (by unfold Pl.isJ;simp[hk]) ga _
 have q4:(x.k == 4)=false:=by simp[hk]
 have q5:(x.k == 5)=false:=by simp[hk]
 have q6:(x.k == 6)=false:=by simp[hk]
 have q9:(x.k == 9)=false:=by simp[hk]
 unfold InsI
 clear hk
 go_enter Tryz.func85,Tryz.ntmps85
 go_wp2_with (go_at_call 82;refine Calls.mono HJP.out ?_;rintro e w1 ⟨rfl,hb1⟩; have HB1:Hid (Below (u.heap.size+1) (u.alloc (.cells #[.int .i64 x.k,.int .i64 x.op,.int .i64 x.rd,.int .i64 x.r1,.int .i64 x.r2,.int .i64 x.im,.string x.s,.int .i64 x.n] 51)) w1):=hb1.mono (by simp);clear hb1;have HR4:Hid ((w1.alloc (.cells #[.int .i64 0,.int .i64 0,.int .i64 0,.int .i64 0,.int .i64 0] 32)).heap[u.heap.size]?=some (.cells #[.int .i64 x.k,.int .i64 x.op,.int .i64 x.rd,.int .i64 x.r1,.int .i64 x.r2,.int .i64 x.im,.string x.s,.int .i64 x.n] 51 (0,0))):=(Below.heap_alloc _ _ _ (by have:=HB1.out.size;simp at this;omega)).trans ((HB1.out.block _ (by omega)).trans (heap_alloc_new u _));have k0:=cell_of_row (w1.alloc (.cells #[.int .i64 0,.int .i64 0,.int .i64 0,.int .i64 0,.int .i64 0] 32)) u.heap.size 0 _ 51 (0,0) HR4.out;have k1:=cell_of_row (w1.alloc (.cells #[.int .i64 0,.int .i64 0,.int .i64 0,.int .i64 0,.int .i64 0] 32)) u.heap.size 1 _ 51 (0,0) HR4.out;have k2:=cell_of_row (w1.alloc (.cells #[.int .i64 0,.int .i64 0,.int .i64 0,.int .i64 0,.int .i64 0] 32)) u.heap.size 2 _ 51 (0,0) HR4.out;have k3:=cell_of_row (w1.alloc (.cells #[.int .i64 0,.int .i64 0,.int .i64 0,.int .i64 0,.int .i64 0] 32)) u.heap.size 3 _ 51 (0,0) HR4.out;have k4:=cell_of_row (w1.alloc (.cells #[.int .i64 0,.int .i64 0,.int .i64 0,.int .i64 0,.int .i64 0] 32)) u.heap.size 4 _ 51 (0,0) HR4.out;have k5:=cell_of_row (w1.alloc (.cells #[.int .i64 0,.int .i64 0,.int .i64 0,.int .i64 0,.int .i64 0] 32)) u.heap.size 5 _ 51 (0,0) HR4.out;have k6:=cell_of_row (w1.alloc (.cells #[.int .i64 0,.int .i64 0,.int .i64 0,.int .i64 0,.int .i64 0] 32)) u.heap.size 6 _ 51 (0,0) HR4.out;have k7:=cell_of_row (w1.alloc (.cells #[.int .i64 0,.int .i64 0,.int .i64 0,.int .i64 0,.int .i64 0] 32)) u.heap.size 7 _ 51 (0,0) HR4.out;simp only[List.getElem?_toArray,List.getElem?_cons_zero,List.getElem?_cons_succ]at k0 k1 k2 k3 k4 k5 k6 k7)
 go_ret
 have hb:=from_line HB1.out
 rw[HI.out]
 refine⟨_,_,_,rfl,InsRow.one (t:=32) (f:=(0,0)) ⟨x.op,x.rd,x.r1,x.r2,x.im⟩ ?_ (new_at (by simp)) (by decide),?_⟩
 ·have:=hb.size;simp;omega
 ·exact (hb.trans ((below_alloc _ _).mono hb.size)).trans ((below_alloc _ _).mono (by have:=hb.size;simp;omega))
theorem insts_6 (x:Pl.Ln) (t la:Int) (ga:Nat) (u:World) (hk:x.k=6):InsI x la t ga u:=by
 have HI:Hid (Pl.insA x t la=[⟨19,x.rd,x.r1,0,0⟩]):=by show _=_;unfold Pl.insA Pl.isJ;simp[hk]
 have HJP:Hid (Calls Tryz.prog 82 #[.pointer (some ⟨ga,0,none⟩),.agg #[.int .i64 x.k,.int .i64 x.op,.int .i64 x.rd,.int .i64 x.r1,.int .i64 x.r2,.int .i64 x.im,.string x.s,.int .i64 x.n],.int .i64 t] (u.alloc (.cells #[.int .i64 x.k,.int .i64 x.op,.int .i64 x.rd,.int .i64 x.r1,.int .i64 x.r2,.int .i64 x.im,.string x.s,.int .i64 x.n] 51)) fun e w'=>e=.returned (.tuple #[.agg #[.int .i64 0,.int .i64 0,.int .i64 0,.int .i64 0,.int .i64 0],.bool false])/\Below (u.alloc (.cells #[.int .i64 x.k,.int .i64 x.op,.int .i64 x.rd,.int .i64 x.r1,.int .i64 x.r2,.int .i64 x.im,.string x.s,.int .i64 x.n] 51)).heap.size (u.alloc (.cells #[.int .i64 x.k,.int .i64 x.op,.int .i64 x.rd,.int .i64 x.r1,.int .i64 x.r2,.int .i64 x.im,.string x.s,.int .i64 x.n] 51)) w'):=jump_no x t (by unfold Pl.isJ;simp[hk]) ga _
 have q4:(x.k == 4)=false:=by simp[hk]
 have q5:(x.k == 5)=false:=by simp[hk]
 have q6:(x.k == 6)=true:=by simp[hk]
 have q9:(x.k == 9)=false:=by simp[hk]
 unfold InsI
 clear hk
 go_enter Tryz.func85,Tryz.ntmps85
 go_wp2_with (go_at_call 82;refine Calls.mono HJP.out ?_;rintro e w1 ⟨rfl,hb1⟩; have HB1:Hid (Below (u.heap.size+1) (u.alloc (.cells #[.int .i64 x.k,.int .i64 x.op,.int .i64 x.rd,.int .i64 x.r1,.int .i64 x.r2,.int .i64 x.im,.string x.s,.int .i64 x.n] 51)) w1):=hb1.mono (by simp);clear hb1;have HR4:Hid ((w1.alloc (.cells #[.int .i64 0,.int .i64 0,.int .i64 0,.int .i64 0,.int .i64 0] 32)).heap[u.heap.size]?=some (.cells #[.int .i64 x.k,.int .i64 x.op,.int .i64 x.rd,.int .i64 x.r1,.int .i64 x.r2,.int .i64 x.im,.string x.s,.int .i64 x.n] 51 (0,0))):=(Below.heap_alloc _ _ _ (by have:=HB1.out.size;simp at this;omega)).trans ((HB1.out.block _ (by omega)).trans (heap_alloc_new u _));have k0:=cell_of_row (w1.alloc (.cells #[.int .i64 0,.int .i64 0,.int .i64 0,.int .i64 0,.int .i64 0] 32)) u.heap.size 0 _ 51 (0,0) HR4.out;have k1:=cell_of_row (w1.alloc (.cells #[.int .i64 0,.int .i64 0,.int .i64 0,.int .i64 0,.int .i64 0] 32)) u.heap.size 1 _ 51 (0,0) HR4.out;have k2:=cell_of_row (w1.alloc (.cells #[.int .i64 0,.int .i64 0,.int .i64 0,.int .i64 0,.int .i64 0] 32)) u.heap.size 2 _ 51 (0,0) HR4.out;have k3:=cell_of_row (w1.alloc (.cells #[.int .i64 0,.int .i64 0,.int .i64 0,.int .i64 0,.int .i64 0] 32)) u.heap.size 3 _ 51 (0,0) HR4.out;have k4:=cell_of_row (w1.alloc (.cells #[.int .i64 0,.int .i64 0,.int .i64 0,.int .i64 0,.int .i64 0] 32)) u.heap.size 4 _ 51 (0,0) HR4.out;have k5:=cell_of_row (w1.alloc (.cells #[.int .i64 0,.int .i64 0,.int .i64 0,.int .i64 0,.int .i64 0] 32)) u.heap.size 5 _ 51 (0,0) HR4.out;have k6:=cell_of_row (w1.alloc (.cells #[.int .i64 0,.int .i64 0,.int .i64 0,.int .i64 0,.int .i64 0] 32)) u.heap.size 6 _ 51 (0,0) HR4.out;have k7:=cell_of_row (w1.alloc (.cells #[.int .i64 0,.int .i64 0,.int .i64 0,.int .i64 0,.int .i64 0] 32)) u.heap.size 7 _ 51 (0,0) HR4.out;simp only[List.getElem?_toArray,List.getElem?_cons_zero,List.getElem?_cons_succ]at k0 k1 k2 k3 k4 k5 k6 k7)
 go_ret
 have hb:=from_line HB1.out
 rw[HI.out]
 refine⟨_,_,_,rfl,InsRow.one (t:=32) (f:=(0,0)) ⟨19,x.rd,x.r1,0,0⟩ ?_ (new_at (by simp)) (by decide),?_⟩
 ·have:=hb.size;simp;omega
 ·exact (hb.trans ((below_alloc _ _).mono hb.size)).trans ((below_alloc _ _).mono (by have:=hb.size;simp;omega))
theorem insts_9 (x:Pl.Ln) (t la:Int) (ga:Nat) (u:World) (hk:x.k=9):InsI x la t ga u:=by
 have HI:Hid (Pl.insA x t la=[⟨33,0,1,0,0⟩]):=by show _=_;unfold Pl.insA Pl.isJ;simp[hk]
 have HJP:Hid (Calls Tryz.prog 82 #[.pointer (some ⟨ga,0,none⟩),.agg #[.int .i64 x.k,.int .i64 x.op,.int .i64 x.rd,.int .i64 x.r1,.int .i64 x.r2,.int .i64 x.im,.string x.s,.int .i64 x.n],.int .i64 t] (u.alloc (.cells #[.int .i64 x.k,.int .i64 x.op,.int .i64 x.rd,.int .i64 x.r1,.int .i64 x.r2,.int .i64 x.im,.string x.s,.int .i64 x.n] 51)) fun e w'=>e=.returned (.tuple #[.agg #[.int .i64 0,.int .i64 0,.int .i64 0,.int .i64 0,.int .i64 0],.bool false])/\Below (u.alloc (.cells #[.int .i64 x.k,.int .i64 x.op,.int .i64 x.rd,.int .i64 x.r1,.int .i64 x.r2,.int .i64 x.im,.string x.s,.int .i64 x.n] 51)).heap.size (u.alloc (.cells #[.int .i64 x.k,.int .i64 x.op,.int .i64 x.rd,.int .i64 x.r1,.int .i64 x.r2,.int .i64 x.im,.string x.s,.int .i64 x.n] 51)) w'):=jump_no x t (by unfold Pl.isJ;simp[hk]) ga _
 have q4:(x.k == 4)=false:=by simp[hk]
 have q5:(x.k == 5)=false:=by simp[hk]
 have q6:(x.k == 6)=false:=by simp[hk]
 have q9:(x.k == 9)=true:=by simp[hk]
 unfold InsI
 clear hk
 go_enter Tryz.func85,Tryz.ntmps85
 go_wp2_with (go_at_call 82;refine Calls.mono HJP.out ?_;rintro e w1 ⟨rfl,hb1⟩; have HB1:Hid (Below (u.heap.size+1) (u.alloc (.cells #[.int .i64 x.k,.int .i64 x.op,.int .i64 x.rd,.int .i64 x.r1,.int .i64 x.r2,.int .i64 x.im,.string x.s,.int .i64 x.n] 51)) w1):=hb1.mono (by simp);clear hb1;have HR4:Hid ((w1.alloc (.cells #[.int .i64 0,.int .i64 0,.int .i64 0,.int .i64 0,.int .i64 0] 32)).heap[u.heap.size]?=some (.cells #[.int .i64 x.k,.int .i64 x.op,.int .i64 x.rd,.int .i64 x.r1,.int .i64 x.r2,.int .i64 x.im,.string x.s,.int .i64 x.n] 51 (0,0))):=(Below.heap_alloc _ _ _ (by have:=HB1.out.size;simp at this;omega)).trans ((HB1.out.block _ (by omega)).trans (heap_alloc_new u _));have k0:=cell_of_row (w1.alloc (.cells #[.int .i64 0,.int .i64 0,.int .i64 0,.int .i64 0,.int .i64 0] 32)) u.heap.size 0 _ 51 (0,0) HR4.out;have k1:=cell_of_row (w1.alloc (.cells #[.int .i64 0,.int .i64 0,.int .i64 0,.int .i64 0,.int .i64 0] 32)) u.heap.size 1 _ 51 (0,0) HR4.out;have k2:=cell_of_row (w1.alloc (.cells #[.int .i64 0,.int .i64 0,.int .i64 0,.int .i64 0,.int .i64 0] 32)) u.heap.size 2 _ 51 (0,0) HR4.out;have k3:=cell_of_row (w1.alloc (.cells #[.int .i64 0,.int .i64 0,.int .i64 0,.int .i64 0,.int .i64 0] 32)) u.heap.size 3 _ 51 (0,0) HR4.out;have k4:=cell_of_row (w1.alloc (.cells #[.int .i64 0,.int .i64 0,.int .i64 0,.int .i64 0,.int .i64 0] 32)) u.heap.size 4 _ 51 (0,0) HR4.out;have k5:=cell_of_row (w1.alloc (.cells #[.int .i64 0,.int .i64 0,.int .i64 0,.int .i64 0,.int .i64 0] 32)) u.heap.size 5 _ 51 (0,0) HR4.out;have k6:=cell_of_row (w1.alloc (.cells #[.int .i64 0,.int .i64 0,.int .i64 0,.int .i64 0,.int .i64 0] 32)) u.heap.size 6 _ 51 (0,0) HR4.out;have k7:=cell_of_row (w1.alloc (.cells #[.int .i64 0,.int .i64 0,.int .i64 0,.int .i64 0,.int .i64 0] 32)) u.heap.size 7 _ 51 (0,0) HR4.out;simp only[List.getElem?_toArray,List.getElem?_cons_zero,List.getElem?_cons_succ]at k0 k1 k2 k3 k4 k5 k6 k7)
 go_ret
 have hb:=from_line HB1.out
 rw[HI.out]
 refine⟨_,_,_,rfl,InsRow.one (t:=32) (f:=(0,0)) ⟨33,0,1,0,0⟩ ?_ (new_at (by simp)) (by decide),?_⟩
 ·have:=hb.size;simp;omega
 ·exact (hb.trans ((below_alloc _ _).mono hb.size)).trans ((below_alloc _ _).mono (by have:=hb.size;simp;omega))
theorem insts_4s (x:Pl.Ln) (t la:Int) (ga:Nat) (u:World) (hk:x.k=4) (hsr:Pl.shr x.n=true):InsI x la t ga u:=by
 have HI:Hid (Pl.insA x t la=[⟨19,x.rd,0,0,Pl.sg x.n⟩]):=by show _=_;unfold Pl.insA Pl.isJ;simp[hk,hsr]
 have HJP:Hid (Calls Tryz.prog 82 #[.pointer (some ⟨ga,0,none⟩),.agg #[.int .i64 x.k,.int .i64 x.op,.int .i64 x.rd,.int .i64 x.r1,.int .i64 x.r2,.int .i64 x.im,.string x.s,.int .i64 x.n],.int .i64 t] (u.alloc (.cells #[.int .i64 x.k,.int .i64 x.op,.int .i64 x.rd,.int .i64 x.r1,.int .i64 x.r2,.int .i64 x.im,.string x.s,.int .i64 x.n] 51)) fun e w'=>e=.returned (.tuple #[.agg #[.int .i64 0,.int .i64 0,.int .i64 0,.int .i64 0,.int .i64 0],.bool false])/\Below (u.alloc (.cells #[.int .i64 x.k,.int .i64 x.op,.int .i64 x.rd,.int .i64 x.r1,.int .i64 x.r2,.int .i64 x.im,.string x.s,.int .i64 x.n] 51)).heap.size (u.alloc (.cells #[.int .i64 x.k,.int .i64 x.op,.int .i64 x.rd,.int .i64 x.r1,.int .i64 x.r2,.int .i64 x.im,.string x.s,.int .i64 x.n] 51)) w'):=jump_no x t (by unfold Pl.isJ;simp[hk]) ga _
 have q4:(x.k == 4)=true:=by simp[hk]
 have q5:(x.k == 5)=false:=by simp[hk]
 have q6:(x.k == 6)=false:=by simp[hk]
 have q9:(x.k == 9)=false:=by simp[hk]
 have HSR:Hid _:=hsr
 clear hsr
 unfold InsI
 clear hk
 go_enter Tryz.func85,Tryz.ntmps85
 go_upto_region 7 with (first | (go_at_call 82;refine Calls.mono HJP.out ?_;rintro e w1 ⟨rfl,hb1⟩; have HB1:Hid (Below (u.heap.size+1) (u.alloc (.cells #[.int .i64 x.k,.int .i64 x.op,.int .i64 x.rd,.int .i64 x.r1,.int .i64 x.r2,.int .i64 x.im,.string x.s,.int .i64 x.n] 51)) w1):=hb1.mono (by simp);clear hb1;have HR4:Hid ((w1.alloc (.cells #[.int .i64 0,.int .i64 0,.int .i64 0,.int .i64 0,.int .i64 0] 32)).heap[u.heap.size]?=some (.cells #[.int .i64 x.k,.int .i64 x.op,.int .i64 x.rd,.int .i64 x.r1,.int .i64 x.r2,.int .i64 x.im,.string x.s,.int .i64 x.n] 51 (0,0))):=(Below.heap_alloc _ _ _ (by have:=HB1.out.size;simp at this;omega)).trans ((HB1.out.block _ (by omega)).trans (heap_alloc_new u _));have k0:=cell_of_row (w1.alloc (.cells #[.int .i64 0,.int .i64 0,.int .i64 0,.int .i64 0,.int .i64 0] 32)) u.heap.size 0 _ 51 (0,0) HR4.out;have k1:=cell_of_row (w1.alloc (.cells #[.int .i64 0,.int .i64 0,.int .i64 0,.int .i64 0,.int .i64 0] 32)) u.heap.size 1 _ 51 (0,0) HR4.out;have k2:=cell_of_row (w1.alloc (.cells #[.int .i64 0,.int .i64 0,.int .i64 0,.int .i64 0,.int .i64 0] 32)) u.heap.size 2 _ 51 (0,0) HR4.out;have k3:=cell_of_row (w1.alloc (.cells #[.int .i64 0,.int .i64 0,.int .i64 0,.int .i64 0,.int .i64 0] 32)) u.heap.size 3 _ 51 (0,0) HR4.out;have k4:=cell_of_row (w1.alloc (.cells #[.int .i64 0,.int .i64 0,.int .i64 0,.int .i64 0,.int .i64 0] 32)) u.heap.size 4 _ 51 (0,0) HR4.out;have k5:=cell_of_row (w1.alloc (.cells #[.int .i64 0,.int .i64 0,.int .i64 0,.int .i64 0,.int .i64 0] 32)) u.heap.size 5 _ 51 (0,0) HR4.out;have k6:=cell_of_row (w1.alloc (.cells #[.int .i64 0,.int .i64 0,.int .i64 0,.int .i64 0,.int .i64 0] 32)) u.heap.size 6 _ 51 (0,0) HR4.out;have k7:=cell_of_row (w1.alloc (.cells #[.int .i64 0,.int .i64 0,.int .i64 0,.int .i64 0,.int .i64 0] 32)) u.heap.size 7 _ 51 (0,0) HR4.out;simp only[List.getElem?_toArray,List.getElem?_cons_zero,List.getElem?_cons_succ]at k0 k1 k2 k3 k4 k5 k6 k7) | (go_at_call 117;refine (isShort_is _ _).mono ?_;rintro e u1 ⟨rfl,rfl⟩; rw[HSR.out]))
 refine ins7 u.heap.size (w1.alloc (.cells #[.int .i64 0,.int .i64 0,.int .i64 0,.int .i64 0,.int .i64 0] 32)).heap.size x (w1.alloc (.cells #[.int .i64 0,.int .i64 0,.int .i64 0,.int .i64 0,.int .i64 0] 32)) rfl HR4.out ?_
 intro ty hty
 clear k0 k1 k2 k3 k4 k5 k6 k7
 go_wp2
 go_ret
 have hb:=from_line HB1.out
 rw[HI.out]
 refine⟨_,_,_,rfl,InsRow.one (t:=ty) (f:=(0,0)) ⟨19,x.rd,0,0,Pl.sg x.n⟩ ?_ (new_at (by simp)) hty,?_⟩
 ·have:=hb.size;simp;omega
 ·exact Below.trans (Below.drew (hb.trans ((below_alloc _ _).mono hb.size))) ((below_alloc _ _).mono (by have:=hb.size;simp;omega))
theorem insts_4l (x:Pl.Ln) (t la:Int) (ga:Nat) (u:World) (hk:x.k=4) (hsr:Pl.shr x.n=false) (hv:0<=x.n/\x.n<=4294967295):InsI x la t ga u:=by
 have HI:Hid (Pl.insA x t la=Pl.pair x.rd x.n):=by show _=_;unfold Pl.insA Pl.isJ;simp[hk,hsr]
 have HJP:Hid (Calls Tryz.prog 82 #[.pointer (some ⟨ga,0,none⟩),.agg #[.int .i64 x.k,.int .i64 x.op,.int .i64 x.rd,.int .i64 x.r1,.int .i64 x.r2,.int .i64 x.im,.string x.s,.int .i64 x.n],.int .i64 t] (u.alloc (.cells #[.int .i64 x.k,.int .i64 x.op,.int .i64 x.rd,.int .i64 x.r1,.int .i64 x.r2,.int .i64 x.im,.string x.s,.int .i64 x.n] 51)) fun e w'=>e=.returned (.tuple #[.agg #[.int .i64 0,.int .i64 0,.int .i64 0,.int .i64 0,.int .i64 0],.bool false])/\Below (u.alloc (.cells #[.int .i64 x.k,.int .i64 x.op,.int .i64 x.rd,.int .i64 x.r1,.int .i64 x.r2,.int .i64 x.im,.string x.s,.int .i64 x.n] 51)).heap.size (u.alloc (.cells #[.int .i64 x.k,.int .i64 x.op,.int .i64 x.rd,.int .i64 x.r1,.int .i64 x.r2,.int .i64 x.im,.string x.s,.int .i64 x.n] 51)) w'):=jump_no x t (by unfold Pl.isJ;simp[hk]) ga _
 have q4:(x.k == 4)=true:=by simp[hk]
 have q5:(x.k == 5)=false:=by simp[hk]
 have q6:(x.k == 6)=false:=by simp[hk]
 have q9:(x.k == 9)=false:=by simp[hk]
 have HSR:Hid _:=hsr
 have HTW:Hid (∀ v:World,Calls Tryz.prog 119 #[.int .i64 x.rd,.int .i64 x.n] v fun e w'=>∃ a,e=.returned (.slice a 2 2)/\InsRow v.heap.size w' a 2 (Pl.pair x.rd x.n)/\Below v.heap.size v w'):=fun v=>twoInsts_is x.rd x.n hv v
 clear hsr hv
 unfold InsI
 clear hk
 go_enter Tryz.func85,Tryz.ntmps85
 go_wp2_with (first | (go_at_call 82;refine Calls.mono HJP.out ?_;rintro e w1 ⟨rfl,hb1⟩; have HB1:Hid (Below (u.heap.size+1) (u.alloc (.cells #[.int .i64 x.k,.int .i64 x.op,.int .i64 x.rd,.int .i64 x.r1,.int .i64 x.r2,.int .i64 x.im,.string x.s,.int .i64 x.n] 51)) w1):=hb1.mono (by simp);clear hb1;have HR4:Hid ((w1.alloc (.cells #[.int .i64 0,.int .i64 0,.int .i64 0,.int .i64 0,.int .i64 0] 32)).heap[u.heap.size]?=some (.cells #[.int .i64 x.k,.int .i64 x.op,.int .i64 x.rd,.int .i64 x.r1,.int .i64 x.r2,.int .i64 x.im,.string x.s,.int .i64 x.n] 51 (0,0))):=(Below.heap_alloc _ _ _ (by have:=HB1.out.size;simp at this;omega)).trans ((HB1.out.block _ (by omega)).trans (heap_alloc_new u _));have k0:=cell_of_row (w1.alloc (.cells #[.int .i64 0,.int .i64 0,.int .i64 0,.int .i64 0,.int .i64 0] 32)) u.heap.size 0 _ 51 (0,0) HR4.out;have k1:=cell_of_row (w1.alloc (.cells #[.int .i64 0,.int .i64 0,.int .i64 0,.int .i64 0,.int .i64 0] 32)) u.heap.size 1 _ 51 (0,0) HR4.out;have k2:=cell_of_row (w1.alloc (.cells #[.int .i64 0,.int .i64 0,.int .i64 0,.int .i64 0,.int .i64 0] 32)) u.heap.size 2 _ 51 (0,0) HR4.out;have k3:=cell_of_row (w1.alloc (.cells #[.int .i64 0,.int .i64 0,.int .i64 0,.int .i64 0,.int .i64 0] 32)) u.heap.size 3 _ 51 (0,0) HR4.out;have k4:=cell_of_row (w1.alloc (.cells #[.int .i64 0,.int .i64 0,.int .i64 0,.int .i64 0,.int .i64 0] 32)) u.heap.size 4 _ 51 (0,0) HR4.out;have k5:=cell_of_row (w1.alloc (.cells #[.int .i64 0,.int .i64 0,.int .i64 0,.int .i64 0,.int .i64 0] 32)) u.heap.size 5 _ 51 (0,0) HR4.out;have k6:=cell_of_row (w1.alloc (.cells #[.int .i64 0,.int .i64 0,.int .i64 0,.int .i64 0,.int .i64 0] 32)) u.heap.size 6 _ 51 (0,0) HR4.out;have k7:=cell_of_row (w1.alloc (.cells #[.int .i64 0,.int .i64 0,.int .i64 0,.int .i64 0,.int .i64 0] 32)) u.heap.size 7 _ 51 (0,0) HR4.out;simp only[List.getElem?_toArray,List.getElem?_cons_zero,List.getElem?_cons_succ]at k0 k1 k2 k3 k4 k5 k6 k7) | (go_at_call 117;refine (isShort_is _ _).mono ?_;rintro e u1 ⟨rfl,rfl⟩; rw[HSR.out]) | (go_at_call 119;refine (HTW.out _).mono ?_;rintro e u2 ⟨a2,rfl,hr2,hb2⟩))
 go_ret
 have hb:=from_line HB1.out
 rw[HI.out]
 have hb3:Below u.heap.size u (w1.alloc (.cells #[.int .i64 0,.int .i64 0,.int .i64 0,.int .i64 0,.int .i64 0] 32)):=hb.trans ((below_alloc _ _).mono hb.size)
 exact⟨_,_,_,rfl,hr2.mono hb3.size,hb3.trans (hb2.mono hb3.size)⟩
theorem insts_5 (x:Pl.Ln) (t la:Int) (ga:Nat) (u:World) (hk:x.k=5) (v:Int) (hv:0<=v/\v<=4294967295) (hvl:v=Pl.wd (la+x.n)) (hVO:∀ W,Below u.heap.size u W->Calls Tryz.prog 120 #[.pointer (some ⟨ga,0,none⟩),.agg #[.int .i64 x.k,.int .i64 x.op,.int .i64 x.rd,.int .i64 x.r1,.int .i64 x.r2,.int .i64 x.im,.string x.s,.int .i64 x.n]] W fun e w'=>e=.returned (.int .i64 v)/\Below W.heap.size W w'):InsI x la t ga u:=by
 have HI:Hid (Pl.insA x t la=Pl.pair x.rd (Pl.wd (la+x.n))):=by show _=_;unfold Pl.insA Pl.isJ;simp[hk]
 have HJP:Hid (Calls Tryz.prog 82 #[.pointer (some ⟨ga,0,none⟩),.agg #[.int .i64 x.k,.int .i64 x.op,.int .i64 x.rd,.int .i64 x.r1,.int .i64 x.r2,.int .i64 x.im,.string x.s,.int .i64 x.n],.int .i64 t] (u.alloc (.cells #[.int .i64 x.k,.int .i64 x.op,.int .i64 x.rd,.int .i64 x.r1,.int .i64 x.r2,.int .i64 x.im,.string x.s,.int .i64 x.n] 51)) fun e w'=>e=.returned (.tuple #[.agg #[.int .i64 0,.int .i64 0,.int .i64 0,.int .i64 0,.int .i64 0],.bool false])/\Below (u.alloc (.cells #[.int .i64 x.k,.int .i64 x.op,.int .i64 x.rd,.int .i64 x.r1,.int .i64 x.r2,.int .i64 x.im,.string x.s,.int .i64 x.n] 51)).heap.size (u.alloc (.cells #[.int .i64 x.k,.int .i64 x.op,.int .i64 x.rd,.int .i64 x.r1,.int .i64 x.r2,.int .i64 x.im,.string x.s,.int .i64 x.n] 51)) w'):=jump_no x t (by unfold Pl.isJ;simp[hk]) ga _
 have q4:(x.k == 4)=false:=by simp[hk]
 have q5:(x.k == 5)=true:=by simp[hk]
 have q6:(x.k == 6)=false:=by simp[hk]
 have q9:(x.k == 9)=false:=by simp[hk]
 have HVO:Hid _:=hVO
 have HVB:Hid _:=hv
 have HI:Hid (Pl.insA x t la=Pl.pair x.rd v):=by show _=_;rw[HI.out,hvl]
 clear hVO hv hvl
 unfold InsI
 clear hk
 go_enter Tryz.func85,Tryz.ntmps85
 go_upto_region 10 with (go_at_call 82;refine Calls.mono HJP.out ?_;rintro e w1 ⟨rfl,hb1⟩; have HB1:Hid (Below (u.heap.size+1) (u.alloc (.cells #[.int .i64 x.k,.int .i64 x.op,.int .i64 x.rd,.int .i64 x.r1,.int .i64 x.r2,.int .i64 x.im,.string x.s,.int .i64 x.n] 51)) w1):=hb1.mono (by simp);clear hb1;have HR4:Hid ((w1.alloc (.cells #[.int .i64 0,.int .i64 0,.int .i64 0,.int .i64 0,.int .i64 0] 32)).heap[u.heap.size]?=some (.cells #[.int .i64 x.k,.int .i64 x.op,.int .i64 x.rd,.int .i64 x.r1,.int .i64 x.r2,.int .i64 x.im,.string x.s,.int .i64 x.n] 51 (0,0))):=(Below.heap_alloc _ _ _ (by have:=HB1.out.size;simp at this;omega)).trans ((HB1.out.block _ (by omega)).trans (heap_alloc_new u _));have k0:=cell_of_row (w1.alloc (.cells #[.int .i64 0,.int .i64 0,.int .i64 0,.int .i64 0,.int .i64 0] 32)) u.heap.size 0 _ 51 (0,0) HR4.out;have k1:=cell_of_row (w1.alloc (.cells #[.int .i64 0,.int .i64 0,.int .i64 0,.int .i64 0,.int .i64 0] 32)) u.heap.size 1 _ 51 (0,0) HR4.out;have k2:=cell_of_row (w1.alloc (.cells #[.int .i64 0,.int .i64 0,.int .i64 0,.int .i64 0,.int .i64 0] 32)) u.heap.size 2 _ 51 (0,0) HR4.out;have k3:=cell_of_row (w1.alloc (.cells #[.int .i64 0,.int .i64 0,.int .i64 0,.int .i64 0,.int .i64 0] 32)) u.heap.size 3 _ 51 (0,0) HR4.out;have k4:=cell_of_row (w1.alloc (.cells #[.int .i64 0,.int .i64 0,.int .i64 0,.int .i64 0,.int .i64 0] 32)) u.heap.size 4 _ 51 (0,0) HR4.out;have k5:=cell_of_row (w1.alloc (.cells #[.int .i64 0,.int .i64 0,.int .i64 0,.int .i64 0,.int .i64 0] 32)) u.heap.size 5 _ 51 (0,0) HR4.out;have k6:=cell_of_row (w1.alloc (.cells #[.int .i64 0,.int .i64 0,.int .i64 0,.int .i64 0,.int .i64 0] 32)) u.heap.size 6 _ 51 (0,0) HR4.out;have k7:=cell_of_row (w1.alloc (.cells #[.int .i64 0,.int .i64 0,.int .i64 0,.int .i64 0,.int .i64 0] 32)) u.heap.size 7 _ 51 (0,0) HR4.out;simp only[List.getElem?_toArray,List.getElem?_cons_zero,List.getElem?_cons_succ]at k0 k1 k2 k3 k4 k5 k6 k7)
 have HB3:Hid (Below u.heap.size u (w1.alloc (.cells #[.int .i64 0,.int .i64 0,.int .i64 0,.int .i64 0,.int .i64 0] 32))):=(from_line HB1.out).trans ((below_alloc _ _).mono (from_line HB1.out).size)
 refine ins10 ga u.heap.size x v (w1.alloc (.cells #[.int .i64 0,.int .i64 0,.int .i64 0,.int .i64 0,.int .i64 0] 32)) HR4.out HVB.out (HVO.out _ (Below.drew HB3.out)) ?_
 intro a2 w3 hr3 hb3
 clear k0 k1 k2 k3 k4 k5 k6 k7
 go_wp2
 go_ret
 rw[HI.out]
 exact⟨_,_,_,rfl,hr3.mono HB3.out.size,HB3.out.trans (hb3.mono HB3.out.size)⟩
def ByR (lo:Nat) (w:World) (a:Option Addr) (n:Nat) (vs:List Int):Prop:=vs.length=n/\∃ b,a=some ⟨b,0,none⟩/\lo<=b/\w.heap[b]?=some (.cells (vs.map (Value.int .u8)).toArray 5 (0,0))
def BytI (x:Pl.Ln) (b:Int) (vs:List Int) (ga:Nat) (u:World):Prop:=
 Calls Tryz.prog 86 #[.pointer (some ⟨ga,0,none⟩),.agg #[.int .i64 x.k,.int .i64 x.op,.int .i64 x.rd,.int .i64 x.r1,.int .i64 x.r2,.int .i64 x.im,.string x.s,.int .i64 x.n],.int .i64 b] u fun e u'=>∃ a n c,e=.returned (.slice a n c)/\n<=c/\c<=65536/\ByR u.heap.size u' a n vs/\Below u.heap.size u u'
theorem info8B:(Tryz.prog.info? 5).map (fun i=>(i.zero,i.size,i.bytes))=some (some (.int .u8 0),1,1):=by kernel_rfl
theorem made_cells (n:Nat):madeCells (Value.int .u8 0).cells n=((List.replicate n (0:Int)).map (Value.int .u8)).toArray:=by
 apply Array.ext'
 refine (toList_madeCells_one (Value.int .u8 0) n).trans ?_
 simp
theorem mk_bytes (n:Nat) (hn:n<=65536) (u:World):(Instr.makeSlice 22 (.int .i64 (n:Int)) (.int .i64 (n:Int))).run Tryz.prog u=.ok (.slice (some ⟨u.heap.size,0,none⟩) n n) (u.alloc (.cells ((List.replicate n (0:Int)).map (Value.int .u8)).toArray 5)):=by
 obtain⟨i0,hi0,hz0,hz1,hz2⟩:=info_parts info8B
 have:=run_makeSlice u 22 5 i0 _ Tryz.underlying22 hi0 hz0 .i64 .i64 (n:Int) (n:Int) (by omega) (by omega) (by rw[hz1];simp;omega) (by rw[hz2];omega) (by omega)
 rw[hz1]at this
 rw[<- made_cells]
 simpa using this
theorem bytes_z (x:Pl.Ln) (b:Int) (ga:Nat) (u:World) (n:Nat) (hn:n<=65536) (hk:x.k=15\/x.k=16) (hDS:Calls Tryz.prog 113 #[.agg #[.int .i64 x.k,.int .i64 x.op,.int .i64 x.rd,.int .i64 x.r1,.int .i64 x.r2,.int .i64 x.im,.string x.s,.int .i64 x.n],.int .i64 b] (u.alloc (.cells #[.int .i64 x.k,.int .i64 x.op,.int .i64 x.rd,.int .i64 x.r1,.int .i64 x.r2,.int .i64 x.im,.string x.s,.int .i64 x.n] 51)) fun e w'=>e=.returned (.int .i64 (n:Int))/\Below (u.alloc (.cells #[.int .i64 x.k,.int .i64 x.op,.int .i64 x.rd,.int .i64 x.r1,.int .i64 x.r2,.int .i64 x.im,.string x.s,.int .i64 x.n] 51)).heap.size (u.alloc (.cells #[.int .i64 x.k,.int .i64 x.op,.int .i64 x.rd,.int .i64 x.r1,.int .i64 x.r2,.int .i64 x.im,.string x.s,.int .i64 x.n] 51)) w'):BytI x b (List.replicate n 0) ga u:=by
 have HDS:Hid _:=hDS
 have hmk:=mk_bytes n hn
 obtain⟨cs,hcs⟩:∃ cs,cs=((List.replicate n (0:Int)).map (Value.int .u8)).toArray:=⟨_,rfl⟩
 have HCS:Hid _:=hcs
 rw[<- hcs]at hmk
 have HN:Hid _:=hn
 clear hDS hcs hn
 unfold BytI
 rcases hk with hk | hk
 ·have q15:(x.k == 15)=true:=by simp[hk]
  clear hk
  go_enter Tryz.func86,Tryz.ntmps86
  go_wp2_with (go_at_call 113;refine Calls.mono HDS.out ?_;rintro e w1 ⟨rfl,hb1⟩; have HB1:Hid (Below (u.heap.size+1) (u.alloc (.cells #[.int .i64 x.k,.int .i64 x.op,.int .i64 x.rd,.int .i64 x.r1,.int .i64 x.r2,.int .i64 x.im,.string x.s,.int .i64 x.n] 51)) w1):=hb1.mono (by simp);clear hb1;have k0:(w1.alloc (.cells cs 5)).cell? ⟨u.heap.size,0,none⟩=some (.int .i64 x.k):=below_cell (below_alloc w1 _) (cell_of_row w1 u.heap.size 0 #[.int .i64 x.k,.int .i64 x.op,.int .i64 x.rd,.int .i64 x.r1,.int .i64 x.r2,.int .i64 x.im,.string x.s,.int .i64 x.n] 51 (0,0) ((HB1.out.block _ (by omega)).trans (heap_alloc_new u _))))
  go_ret
  have hb:=from_line HB1.out
  exact⟨_,_,_,rfl,Nat.le_refl _,HN.out,⟨by simp,w1.heap.size,rfl,hb.size,by rw[<- HCS.out];exact heap_alloc_new w1 _⟩,hb.trans ((below_alloc _ _).mono hb.size)⟩
 ·have q15:(x.k == 15)=false:=by simp[hk]
  have q16:(x.k == 16)=true:=by simp[hk]
  clear hk
  go_enter Tryz.func86,Tryz.ntmps86
  go_wp2_with (go_at_call 113;refine Calls.mono HDS.out ?_;rintro e w1 ⟨rfl,hb1⟩; have HB1:Hid (Below (u.heap.size+1) (u.alloc (.cells #[.int .i64 x.k,.int .i64 x.op,.int .i64 x.rd,.int .i64 x.r1,.int .i64 x.r2,.int .i64 x.im,.string x.s,.int .i64 x.n] 51)) w1):=hb1.mono (by simp);clear hb1;have k0:(w1.alloc (.cells cs 5)).cell? ⟨u.heap.size,0,none⟩=some (.int .i64 x.k):=below_cell (below_alloc w1 _) (cell_of_row w1 u.heap.size 0 #[.int .i64 x.k,.int .i64 x.op,.int .i64 x.rd,.int .i64 x.r1,.int .i64 x.r2,.int .i64 x.im,.string x.s,.int .i64 x.n] 51 (0,0) ((HB1.out.block _ (by omega)).trans (heap_alloc_new u _))))
  go_ret
  have hb:=from_line HB1.out
  exact⟨_,_,_,rfl,Nat.le_refl _,HN.out,⟨by simp,w1.heap.size,rfl,hb.size,by rw[<- HCS.out];exact heap_alloc_new w1 _⟩,hb.trans ((below_alloc _ _).mono hb.size)⟩
theorem bytes_1 (x:Pl.Ln) (b v:Int) (ga:Nat) (u:World) (hv:0<=v/\v<=4294967295) (hk:x.k≠15/\x.k≠16) (hDS:Calls Tryz.prog 113 #[.agg #[.int .i64 x.k,.int .i64 x.op,.int .i64 x.rd,.int .i64 x.r1,.int .i64 x.r2,.int .i64 x.im,.string x.s,.int .i64 x.n],.int .i64 b] (u.alloc (.cells #[.int .i64 x.k,.int .i64 x.op,.int .i64 x.rd,.int .i64 x.r1,.int .i64 x.r2,.int .i64 x.im,.string x.s,.int .i64 x.n] 51)) fun e w'=>e=.returned (.int .i64 1)/\Below (u.alloc (.cells #[.int .i64 x.k,.int .i64 x.op,.int .i64 x.rd,.int .i64 x.r1,.int .i64 x.r2,.int .i64 x.im,.string x.s,.int .i64 x.n] 51)).heap.size (u.alloc (.cells #[.int .i64 x.k,.int .i64 x.op,.int .i64 x.rd,.int .i64 x.r1,.int .i64 x.r2,.int .i64 x.im,.string x.s,.int .i64 x.n] 51)) w')
  (hVO:∀ W,Below u.heap.size u W->Calls Tryz.prog 120 #[.pointer (some ⟨ga,0,none⟩),.agg #[.int .i64 x.k,.int .i64 x.op,.int .i64 x.rd,.int .i64 x.r1,.int .i64 x.r2,.int .i64 x.im,.string x.s,.int .i64 x.n]] W fun e w'=>e=.returned (.int .i64 v)/\Below W.heap.size W w'):BytI x b (Pl.bys v 1) ga u:=by
 have HDS:Hid _:=hDS
 have HVO:Hid _:=hVO
 have hmk:∀ u:World,(Instr.makeSlice 22 (.int .i64 1) (.int .i64 1)).run Tryz.prog u=.ok (.slice (some ⟨u.heap.size,0,none⟩) 1 1) (u.alloc (.cells #[.int .u8 0] 5)):=fun u=>mk_bytes 1 (by decide) u
 have q15:(x.k == 15)=false:=by simp[hk.1]
 have q16:(x.k == 16)=false:=by simp[hk.2]
 clear hDS hVO hk
 unfold BytI
 go_enter Tryz.func86,Tryz.ntmps86
 go_wp2_with (first | (go_at_call 113;refine Calls.mono HDS.out ?_;rintro e w1 ⟨rfl,hb1⟩; have HB1:Hid (Below (u.heap.size+1) (u.alloc (.cells #[.int .i64 x.k,.int .i64 x.op,.int .i64 x.rd,.int .i64 x.r1,.int .i64 x.r2,.int .i64 x.im,.string x.s,.int .i64 x.n] 51)) w1):=hb1.mono (by simp);clear hb1;have HR4:Hid ((w1.alloc (.cells #[.int .u8 0] 5)).heap[u.heap.size]?=some (.cells #[.int .i64 x.k,.int .i64 x.op,.int .i64 x.rd,.int .i64 x.r1,.int .i64 x.r2,.int .i64 x.im,.string x.s,.int .i64 x.n] 51 (0,0))):=(Below.heap_alloc _ _ _ (by have:=HB1.out.size;simp at this;omega)).trans ((HB1.out.block _ (by omega)).trans (heap_alloc_new u _));have k0:=cell_of_row (w1.alloc (.cells #[.int .u8 0] 5)) u.heap.size 0 _ 51 (0,0) HR4.out;have k1:=cell_of_row (w1.alloc (.cells #[.int .u8 0] 5)) u.heap.size 1 _ 51 (0,0) HR4.out;have k2:=cell_of_row (w1.alloc (.cells #[.int .u8 0] 5)) u.heap.size 2 _ 51 (0,0) HR4.out;have k3:=cell_of_row (w1.alloc (.cells #[.int .u8 0] 5)) u.heap.size 3 _ 51 (0,0) HR4.out;have k4:=cell_of_row (w1.alloc (.cells #[.int .u8 0] 5)) u.heap.size 4 _ 51 (0,0) HR4.out;have k5:=cell_of_row (w1.alloc (.cells #[.int .u8 0] 5)) u.heap.size 5 _ 51 (0,0) HR4.out;have k6:=cell_of_row (w1.alloc (.cells #[.int .u8 0] 5)) u.heap.size 6 _ 51 (0,0) HR4.out;have k7:=cell_of_row (w1.alloc (.cells #[.int .u8 0] 5)) u.heap.size 7 _ 51 (0,0) HR4.out;simp only[List.getElem?_toArray,List.getElem?_cons_zero,List.getElem?_cons_succ]at k0 k1 k2 k3 k4 k5 k6 k7) | (go_at_call 120;have HB3:Hid (Below u.heap.size u (w1.alloc (.cells #[.int .u8 0] 5))):=(from_line HB1.out).trans ((below_alloc _ _).mono (from_line HB1.out).size);refine Calls.mono (HVO.out _ HB3.out) ?_;rintro e w2 ⟨rfl,hb2⟩; have HB2:Hid (Below u.heap.size u w2):=HB3.out.trans (hb2.mono HB3.out.size);have HRW:Hid (w2.heap[w1.heap.size]?=some (.cells #[.int .u8 0] 5 (0,0))):=(hb2.block _ (by simp)).trans (heap_alloc_new w1 _);clear hb2 k0 k1 k2 k3 k4 k5 k6 k7;have c0:w2.cell? ⟨w1.heap.size,0,none⟩=some (.int .u8 0):=cell_of_row w2 w1.heap.size 0 _ 5 (0,0) HRW.out;have cf:=fun i=>frozen_of_row w2 w1.heap.size i _ 5 HRW.out))
 refine wp_loop_rounds 2 ?_
 rw[rounds_succ]
 go_wp2_with fail
 rw[rounds_succ]
 go_wp2_with fail
 go_ret
 have g1:=heap_setCell_same w2 w1.heap.size 0 _ _ (.int .u8 (v % 256)) HRW.out
 refine⟨_,_,_,rfl,by decide,by decide,⟨by simp[Pl.bys],w1.heap.size,rfl,(from_line HB1.out).size,?_⟩,?_⟩
 ·have e:Pl.bys v 1=[v % 256]:=by
   have e0:v / 1=v:=Int.ediv_one v
   show [v / 256 ^ 0 % 256]=_
   simp only[Int.reducePow,e0]
  rw[e]
  exact g1
 ·exact (HB2.out).setCell (p:=⟨w1.heap.size,0,none⟩) (from_line HB1.out).size _
theorem bytes_2 (x:Pl.Ln) (b v:Int) (ga:Nat) (u:World) (hv:0<=v/\v<=4294967295) (hk:x.k≠15/\x.k≠16) (hDS:Calls Tryz.prog 113 #[.agg #[.int .i64 x.k,.int .i64 x.op,.int .i64 x.rd,.int .i64 x.r1,.int .i64 x.r2,.int .i64 x.im,.string x.s,.int .i64 x.n],.int .i64 b] (u.alloc (.cells #[.int .i64 x.k,.int .i64 x.op,.int .i64 x.rd,.int .i64 x.r1,.int .i64 x.r2,.int .i64 x.im,.string x.s,.int .i64 x.n] 51)) fun e w'=>e=.returned (.int .i64 2)/\Below (u.alloc (.cells #[.int .i64 x.k,.int .i64 x.op,.int .i64 x.rd,.int .i64 x.r1,.int .i64 x.r2,.int .i64 x.im,.string x.s,.int .i64 x.n] 51)).heap.size (u.alloc (.cells #[.int .i64 x.k,.int .i64 x.op,.int .i64 x.rd,.int .i64 x.r1,.int .i64 x.r2,.int .i64 x.im,.string x.s,.int .i64 x.n] 51)) w')
  (hVO:∀ W,Below u.heap.size u W->Calls Tryz.prog 120 #[.pointer (some ⟨ga,0,none⟩),.agg #[.int .i64 x.k,.int .i64 x.op,.int .i64 x.rd,.int .i64 x.r1,.int .i64 x.r2,.int .i64 x.im,.string x.s,.int .i64 x.n]] W fun e w'=>e=.returned (.int .i64 v)/\Below W.heap.size W w'):BytI x b (Pl.bys v 2) ga u:=by
 have HDS:Hid _:=hDS
 have HVO:Hid _:=hVO
 have hmk:∀ u:World,(Instr.makeSlice 22 (.int .i64 2) (.int .i64 2)).run Tryz.prog u=.ok (.slice (some ⟨u.heap.size,0,none⟩) 2 2) (u.alloc (.cells #[.int .u8 0,.int .u8 0] 5)):=fun u=>mk_bytes 2 (by decide) u
 have q15:(x.k == 15)=false:=by simp[hk.1]
 have q16:(x.k == 16)=false:=by simp[hk.2]
 clear hDS hVO hk
 unfold BytI
 go_enter Tryz.func86,Tryz.ntmps86
 go_wp2_with (first | (go_at_call 113;refine Calls.mono HDS.out ?_;rintro e w1 ⟨rfl,hb1⟩; have HB1:Hid (Below (u.heap.size+1) (u.alloc (.cells #[.int .i64 x.k,.int .i64 x.op,.int .i64 x.rd,.int .i64 x.r1,.int .i64 x.r2,.int .i64 x.im,.string x.s,.int .i64 x.n] 51)) w1):=hb1.mono (by simp);clear hb1;have HR4:Hid ((w1.alloc (.cells #[.int .u8 0,.int .u8 0] 5)).heap[u.heap.size]?=some (.cells #[.int .i64 x.k,.int .i64 x.op,.int .i64 x.rd,.int .i64 x.r1,.int .i64 x.r2,.int .i64 x.im,.string x.s,.int .i64 x.n] 51 (0,0))):=(Below.heap_alloc _ _ _ (by have:=HB1.out.size;simp at this;omega)).trans ((HB1.out.block _ (by omega)).trans (heap_alloc_new u _));have k0:=cell_of_row (w1.alloc (.cells #[.int .u8 0,.int .u8 0] 5)) u.heap.size 0 _ 51 (0,0) HR4.out;have k1:=cell_of_row (w1.alloc (.cells #[.int .u8 0,.int .u8 0] 5)) u.heap.size 1 _ 51 (0,0) HR4.out;have k2:=cell_of_row (w1.alloc (.cells #[.int .u8 0,.int .u8 0] 5)) u.heap.size 2 _ 51 (0,0) HR4.out;have k3:=cell_of_row (w1.alloc (.cells #[.int .u8 0,.int .u8 0] 5)) u.heap.size 3 _ 51 (0,0) HR4.out;have k4:=cell_of_row (w1.alloc (.cells #[.int .u8 0,.int .u8 0] 5)) u.heap.size 4 _ 51 (0,0) HR4.out;have k5:=cell_of_row (w1.alloc (.cells #[.int .u8 0,.int .u8 0] 5)) u.heap.size 5 _ 51 (0,0) HR4.out;have k6:=cell_of_row (w1.alloc (.cells #[.int .u8 0,.int .u8 0] 5)) u.heap.size 6 _ 51 (0,0) HR4.out;have k7:=cell_of_row (w1.alloc (.cells #[.int .u8 0,.int .u8 0] 5)) u.heap.size 7 _ 51 (0,0) HR4.out;simp only[List.getElem?_toArray,List.getElem?_cons_zero,List.getElem?_cons_succ]at k0 k1 k2 k3 k4 k5 k6 k7) | (go_at_call 120;have HB3:Hid (Below u.heap.size u (w1.alloc (.cells #[.int .u8 0,.int .u8 0] 5))):=(from_line HB1.out).trans ((below_alloc _ _).mono (from_line HB1.out).size);refine Calls.mono (HVO.out _ HB3.out) ?_;rintro e w2 ⟨rfl,hb2⟩; have HB2:Hid (Below u.heap.size u w2):=HB3.out.trans (hb2.mono HB3.out.size);have HRW:Hid (w2.heap[w1.heap.size]?=some (.cells #[.int .u8 0,.int .u8 0] 5 (0,0))):=(hb2.block _ (by simp)).trans (heap_alloc_new w1 _);clear hb2 k0 k1 k2 k3 k4 k5 k6 k7;have c0:w2.cell? ⟨w1.heap.size,0,none⟩=some (.int .u8 0):=cell_of_row w2 w1.heap.size 0 _ 5 (0,0) HRW.out;have c1:w2.cell? ⟨w1.heap.size,1,none⟩=some (.int .u8 0):=cell_of_row w2 w1.heap.size 1 _ 5 (0,0) HRW.out;have cf:=fun i=>frozen_of_row w2 w1.heap.size i _ 5 HRW.out))
 refine wp_loop_rounds 3 ?_
 rw[rounds_succ]
 go_wp2_with fail
 rw[rounds_succ]
 go_wp2_with fail
 rw[rounds_succ]
 go_wp2_with fail
 go_ret
 have g1:=heap_setCell_same w2 w1.heap.size 0 _ _ (.int .u8 (v % 256)) HRW.out
 have g2:=heap_setCell_same _ w1.heap.size 1 _ _ (.int .u8 (v / 256 % 256)) g1
 refine⟨_,_,_,rfl,by decide,by decide,⟨by simp[Pl.bys],w1.heap.size,rfl,(from_line HB1.out).size,?_⟩,?_⟩
 ·have e:Pl.bys v 2=[v % 256,v / 256 % 256]:=by
   have e0:v / 1=v:=Int.ediv_one v
   show [v / 256 ^ 0 % 256,v / 256 ^ 1 % 256]=_
   simp only[Int.reducePow,e0]
  rw[e]
  exact g2
 ·exact ((HB2.out).setCell (p:=⟨w1.heap.size,0,none⟩) (from_line HB1.out).size _).setCell (p:=⟨w1.heap.size,1,none⟩) (from_line HB1.out).size _
theorem bytes_4 (x:Pl.Ln) (b v:Int) (ga:Nat) (u:World) (hv:0<=v/\v<=4294967295) (hk:x.k≠15/\x.k≠16) (hDS:Calls Tryz.prog 113 #[.agg #[.int .i64 x.k,.int .i64 x.op,.int .i64 x.rd,.int .i64 x.r1,.int .i64 x.r2,.int .i64 x.im,.string x.s,.int .i64 x.n],.int .i64 b] (u.alloc (.cells #[.int .i64 x.k,.int .i64 x.op,.int .i64 x.rd,.int .i64 x.r1,.int .i64 x.r2,.int .i64 x.im,.string x.s,.int .i64 x.n] 51)) fun e w'=>e=.returned (.int .i64 4)/\Below (u.alloc (.cells #[.int .i64 x.k,.int .i64 x.op,.int .i64 x.rd,.int .i64 x.r1,.int .i64 x.r2,.int .i64 x.im,.string x.s,.int .i64 x.n] 51)).heap.size (u.alloc (.cells #[.int .i64 x.k,.int .i64 x.op,.int .i64 x.rd,.int .i64 x.r1,.int .i64 x.r2,.int .i64 x.im,.string x.s,.int .i64 x.n] 51)) w')
  (hVO:∀ W,Below u.heap.size u W->Calls Tryz.prog 120 #[.pointer (some ⟨ga,0,none⟩),.agg #[.int .i64 x.k,.int .i64 x.op,.int .i64 x.rd,.int .i64 x.r1,.int .i64 x.r2,.int .i64 x.im,.string x.s,.int .i64 x.n]] W fun e w'=>e=.returned (.int .i64 v)/\Below W.heap.size W w'):BytI x b (Pl.bys v 4) ga u:=by
 have HDS:Hid _:=hDS
 have HVO:Hid _:=hVO
 have hmk:∀ u:World,(Instr.makeSlice 22 (.int .i64 4) (.int .i64 4)).run Tryz.prog u=.ok (.slice (some ⟨u.heap.size,0,none⟩) 4 4) (u.alloc (.cells #[.int .u8 0,.int .u8 0,.int .u8 0,.int .u8 0] 5)):=fun u=>mk_bytes 4 (by decide) u
 have q15:(x.k == 15)=false:=by simp[hk.1]
 have q16:(x.k == 16)=false:=by simp[hk.2]
 clear hDS hVO hk
 unfold BytI
 go_enter Tryz.func86,Tryz.ntmps86
 go_wp2_with (first | (go_at_call 113;refine Calls.mono HDS.out ?_;rintro e w1 ⟨rfl,hb1⟩; have HB1:Hid (Below (u.heap.size+1) (u.alloc (.cells #[.int .i64 x.k,.int .i64 x.op,.int .i64 x.rd,.int .i64 x.r1,.int .i64 x.r2,.int .i64 x.im,.string x.s,.int .i64 x.n] 51)) w1):=hb1.mono (by simp);clear hb1;have HR4:Hid ((w1.alloc (.cells #[.int .u8 0,.int .u8 0,.int .u8 0,.int .u8 0] 5)).heap[u.heap.size]?=some (.cells #[.int .i64 x.k,.int .i64 x.op,.int .i64 x.rd,.int .i64 x.r1,.int .i64 x.r2,.int .i64 x.im,.string x.s,.int .i64 x.n] 51 (0,0))):=(Below.heap_alloc _ _ _ (by have:=HB1.out.size;simp at this;omega)).trans ((HB1.out.block _ (by omega)).trans (heap_alloc_new u _));have k0:=cell_of_row (w1.alloc (.cells #[.int .u8 0,.int .u8 0,.int .u8 0,.int .u8 0] 5)) u.heap.size 0 _ 51 (0,0) HR4.out;have k1:=cell_of_row (w1.alloc (.cells #[.int .u8 0,.int .u8 0,.int .u8 0,.int .u8 0] 5)) u.heap.size 1 _ 51 (0,0) HR4.out;have k2:=cell_of_row (w1.alloc (.cells #[.int .u8 0,.int .u8 0,.int .u8 0,.int .u8 0] 5)) u.heap.size 2 _ 51 (0,0) HR4.out;have k3:=cell_of_row (w1.alloc (.cells #[.int .u8 0,.int .u8 0,.int .u8 0,.int .u8 0] 5)) u.heap.size 3 _ 51 (0,0) HR4.out;have k4:=cell_of_row (w1.alloc (.cells #[.int .u8 0,.int .u8 0,.int .u8 0,.int .u8 0] 5)) u.heap.size 4 _ 51 (0,0) HR4.out;have k5:=cell_of_row (w1.alloc (.cells #[.int .u8 0,.int .u8 0,.int .u8 0,.int .u8 0] 5)) u.heap.size 5 _ 51 (0,0) HR4.out;have k6:=cell_of_row (w1.alloc (.cells #[.int .u8 0,.int .u8 0,.int .u8 0,.int .u8 0] 5)) u.heap.size 6 _ 51 (0,0) HR4.out;have k7:=cell_of_row (w1.alloc (.cells #[.int .u8 0,.int .u8 0,.int .u8 0,.int .u8 0] 5)) u.heap.size 7 _ 51 (0,0) HR4.out;simp only[List.getElem?_toArray,List.getElem?_cons_zero,List.getElem?_cons_succ]at k0 k1 k2 k3 k4 k5 k6 k7) | (go_at_call 120;have HB3:Hid (Below u.heap.size u (w1.alloc (.cells #[.int .u8 0,.int .u8 0,.int .u8 0,.int .u8 0] 5))):=(from_line HB1.out).trans ((below_alloc _ _).mono (from_line HB1.out).size);refine Calls.mono (HVO.out _ HB3.out) ?_;rintro e w2 ⟨rfl,hb2⟩; have HB2:Hid (Below u.heap.size u w2):=HB3.out.trans (hb2.mono HB3.out.size);have HRW:Hid (w2.heap[w1.heap.size]?=some (.cells #[.int .u8 0,.int .u8 0,.int .u8 0,.int .u8 0] 5 (0,0))):=(hb2.block _ (by simp)).trans (heap_alloc_new w1 _);clear hb2 k0 k1 k2 k3 k4 k5 k6 k7;have c0:w2.cell? ⟨w1.heap.size,0,none⟩=some (.int .u8 0):=cell_of_row w2 w1.heap.size 0 _ 5 (0,0) HRW.out;have c1:w2.cell? ⟨w1.heap.size,1,none⟩=some (.int .u8 0):=cell_of_row w2 w1.heap.size 1 _ 5 (0,0) HRW.out;have c2:w2.cell? ⟨w1.heap.size,2,none⟩=some (.int .u8 0):=cell_of_row w2 w1.heap.size 2 _ 5 (0,0) HRW.out;have c3:w2.cell? ⟨w1.heap.size,3,none⟩=some (.int .u8 0):=cell_of_row w2 w1.heap.size 3 _ 5 (0,0) HRW.out;have cf:=fun i=>frozen_of_row w2 w1.heap.size i _ 5 HRW.out))
 refine wp_loop_rounds 5 ?_
 rw[rounds_succ]
 go_wp2_with fail
 rw[rounds_succ]
 go_wp2_with fail
 rw[rounds_succ]
 go_wp2_with fail
 rw[rounds_succ]
 go_wp2_with fail
 rw[rounds_succ]
 go_wp2_with fail
 go_ret
 have g1:=heap_setCell_same w2 w1.heap.size 0 _ _ (.int .u8 (v % 256)) HRW.out
 have g2:=heap_setCell_same _ w1.heap.size 1 _ _ (.int .u8 (v / 256 % 256)) g1
 have g3:=heap_setCell_same _ w1.heap.size 2 _ _ (.int .u8 (v / 65536 % 256)) g2
 have g4:=heap_setCell_same _ w1.heap.size 3 _ _ (.int .u8 (v / 16777216)) g3
 refine⟨_,_,_,rfl,by decide,by decide,⟨by simp[Pl.bys],w1.heap.size,rfl,(from_line HB1.out).size,?_⟩,?_⟩
 ·have e:Pl.bys v 4=[v % 256,v / 256 % 256,v / 65536 % 256,v / 16777216]:=by
   have e0:v / 1=v:=Int.ediv_one v
   show [v / 256 ^ 0 % 256,v / 256 ^ 1 % 256,v / 256 ^ 2 % 256,v / 256 ^ 3 % 256]=_
   simp only[Int.reducePow,e0]
   rw[show v / 16777216 % 256=v / 16777216 by omega]
  rw[e]
  exact g4
 ·exact ((((HB2.out).setCell (p:=⟨w1.heap.size,0,none⟩) (from_line HB1.out).size _).setCell (p:=⟨w1.heap.size,1,none⟩) (from_line HB1.out).size _).setCell (p:=⟨w1.heap.size,2,none⟩) (from_line HB1.out).size _).setCell (p:=⟨w1.heap.size,3,none⟩) (from_line HB1.out).size _
noncomputable def imgC (n:Nat):Code:=((Tryz.f38.body.bind (codeR n)).getD .skip)
structure ImS (w0 u:World) (g:Nat) (en sk:Int) (vc vd:Value) (cs ds:List Int):Prop where
 row:u.heap[g]?=some (.cells #[vc,vd,.int .i64 en,.int .i64 sk] 28 (0,0))
 oc:u.ownsRow w0.heap.size 3 1 vc cs.length (Pl.ics cs)
 od:u.ownsRow w0.heap.size 5 1 vd ds.length (Pl.bcs ds)
 bel:Below w0.heap.size w0 u
 hg:w0.heap.size<=g
section
variable {w0 u u':World} {g:Nat} {en sk:Int} {vc vd:Value} {cs ds:List Int}
theorem ImS.lt (h:ImS w0 u g en sk vc vd cs ds):g<u.heap.size:=(Array.getElem?_eq_some_iff.1 h.row).1
theorem ImS.size (h:ImS w0 u g en sk vc vd cs ds):w0.heap.size<=u.heap.size:=h.bel.size
theorem ImS.fz (h:ImS w0 u g en sk vc vd cs ds) (j:Nat):u.frozen? ⟨g,j,none⟩=false:=frozen_of_row _ _ j _ 28 h.row
theorem ImS.keep (h:ImS w0 u g en sk vc vd cs ds) (hb:Below u.heap.size u u'):ImS w0 u' g en sk vc vd cs ds:=
 ⟨(hb.block g h.lt).trans h.row,owns_keep h.oc hb,owns_keep h.od hb,h.bel.trans (hb.mono h.size),h.hg⟩
theorem ImS.appC (h:ImS w0 u g en sk vc vd cs ds) {v':Value} {cs':List Int} (ho:u'.ownsRow w0.heap.size 3 1 v' cs'.length (Pl.ics cs')) (hy:ByF 3 u u') (hb:Below w0.heap.size u u'):ImS w0 (u'.setCell ⟨g,0,none⟩ v') g en sk v' vd cs' ds:=by
 have hr:=hy.block g _ h.row (fun c q=>by injection q with _ q2 _;exact absurd q2 (by decide))
 exact⟨heap_setCell_same _ _ _ _ _ _ hr,owns_setT ho hr (by decide),owns_setT (hy.owns (by decide) h.od) hr (by decide),(h.bel.trans hb).setCell (p:=⟨g,0,none⟩) h.hg _,h.hg⟩
theorem ImS.appD (h:ImS w0 u g en sk vc vd cs ds) {v':Value} {ds':List Int} (ho:u'.ownsRow w0.heap.size 5 1 v' ds'.length (Pl.bcs ds')) (hy:ByF 5 u u') (hb:Below w0.heap.size u u'):ImS w0 (u'.setCell ⟨g,1,none⟩ v') g en sk vc v' cs ds':=by
 have hr:=hy.block g _ h.row (fun c q=>by injection q with _ q2 _;exact absurd q2 (by decide))
 exact⟨heap_setCell_same _ _ _ _ _ _ hr,owns_setT (hy.owns (by decide) h.oc) hr (by decide),owns_setT ho hr (by decide),(h.bel.trans hb).setCell (p:=⟨g,1,none⟩) h.hg _,h.hg⟩
theorem CurAt.byX {e:TypeId} {gc:Nat} {c:Pl.Cur} (h:CurAt u gc c) (hb:ByX e g u u') (he:e≠69) (hg:gc≠g):CurAt u' gc c:=by
 obtain⟨cur,hr⟩:=h.row
 have hr':=hb.block gc _ hg hr (fun c q=>by injection q with _ q2 _;exact he q2.symm)
 exact h.block (hr'.trans hr.symm) (Array.getElem?_eq_some_iff.1 hr').1
end
def img1Mk (ga gm q h3:Nat) (z sk:Int)  (c1 c2 c4 c5 c6 c7 c8 c9 c10 c24 c25 c26 c27 c28 c29 c30 c31 c32 c33 c34 c35 c36 c37 c38 c39 c40 c41 c42 c43 c44 c45 c46 c47 c48 c49 c50 c51 c52 c53 c54 c55 c56 c57 c58 c59 c60 c61 c62 c63 c64 c65 c66 c67 c68 c69 c70 c71 c72 c73 c74 c75 d3 d11 d12 d13 d14 d15 d16 d17 d18 d19 d20 d21 d22 d23:Value)  (L:Array Bool):Act:={ tmps:=#[.pointer (some ⟨ga,0,none⟩),c1,c2,sld d3 L 13 (.pointer (some ⟨h3,0,none⟩)),c4,c5,c6,c7,c8,c9,c10,sld d11 L 0 (.pointer (some ⟨ga,0,none⟩)),sld d12 L 1 (.pointer (some ⟨ga,0,none⟩)),sld d13 L 2 (.pointer (some ⟨ga,2,none⟩)),sld d14 L 3 (.map (some gm)),sld d15 L 4 (.pointer (some ⟨q,0,none⟩)),sld d16 L 5 (.pointer (some ⟨q,0,none⟩)),sld d17 L 6 (.pointer (some ⟨q,2,none⟩)),sld d18 L 7 (.int .i64 z),sld d19 L 8 (.pointer (some ⟨ga,0,none⟩)),sld d20 L 9 (.pointer (some ⟨ga,0,none⟩)),sld d21 L 10 (.pointer (some ⟨ga,1,none⟩)),sld d22 L 11 (.int .i64 sk),sld d23 L 12 (.agg #[.slice none 0 0,.slice none 0 0,.int .i64 z,.int .i64 sk]),c24,c25,c26,c27,c28,c29,c30,c31,c32,c33,c34,c35,c36,c37,c38,c39,c40,c41,c42,c43,c44,c45,c46,c47,c48,c49,c50,c51,c52,c53,c54,c55,c56,c57,c58,c59,c60,c61,c62,c63,c64,c65,c66,c67,c68,c69,c70,c71,c72,c73,c74,c75],defers:=[] }
set_option maxRecDepth 100000 in
theorem img1 (ga gm q h3:Nat) (z sk:Int) {c1 c2 c4 c5 c6 c7 c8 c9 c10 c24 c25 c26 c27 c28 c29 c30 c31 c32 c33 c34 c35 c36 c37 c38 c39 c40 c41 c42 c43 c44 c45 c46 c47 c48 c49 c50 c51 c52 c53 c54 c55 c56 c57 c58 c59 c60 c61 c62 c63 c64 c65 c66 c67 c68 c69 c70 c71 c72 c73 c74 c75 d3 d11 d12 d13 d14 d15 d16 d17 d18 d19 d20 d21 d22 d23:Value} (Y:World) (hh:h3=Y.heap.size) (m1:Y.cell? ⟨ga,1,none⟩=some (.int .i64 sk)) (m2:Y.cell? ⟨ga,2,none⟩=some (.map (some gm))) (mq:Y.cell? ⟨q,2,none⟩=some (.int .i64 z)) (hLK:∀ v:World,Below Y.drew.heap.size Y.drew v->(Instr.lookup 67 (.map (some gm)) (.string ⟨#[95,115,116,97,114,116]⟩) false).run Tryz.prog v=.ok (.pointer (some ⟨q,0,none⟩)) v) {Q:Exit->Act->World->Prop}
  (hK:Q .normal { tmps:=#[.pointer (some ⟨ga,0,none⟩),c1,c2,.pointer (some ⟨h3,0,none⟩),c4,c5,c6,c7,c8,c9,c10,.pointer (some ⟨ga,0,none⟩),.pointer (some ⟨ga,0,none⟩),.pointer (some ⟨ga,2,none⟩),.map (some gm),.pointer (some ⟨q,0,none⟩),.pointer (some ⟨q,0,none⟩),.pointer (some ⟨q,2,none⟩),.int .i64 z,.pointer (some ⟨ga,0,none⟩),.pointer (some ⟨ga,0,none⟩),.pointer (some ⟨ga,1,none⟩),.int .i64 sk,.agg #[.slice none 0 0,.slice none 0 0,.int .i64 z,.int .i64 sk],c24,c25,c26,c27,c28,c29,c30,c31,c32,c33,c34,c35,c36,c37,c38,c39,c40,c41,c42,c43,c44,c45,c46,c47,c48,c49,c50,c51,c52,c53,c54,c55,c56,c57,c58,c59,c60,c61,c62,c63,c64,c65,c66,c67,c68,c69,c70,c71,c72,c73,c74,c75],defers:=[] } (Y.drew.alloc (.cells #[.slice none 0 0,.slice none 0 0,.int .i64 z,.int .i64 sk] 28))) :
  (imgC 1).wp Tryz.prog Q { tmps:=#[.pointer (some ⟨ga,0,none⟩),c1,c2,d3,c4,c5,c6,c7,c8,c9,c10,d11,d12,d13,d14,d15,d16,d17,d18,d19,d20,d21,d22,d23,c24,c25,c26,c27,c28,c29,c30,c31,c32,c33,c34,c35,c36,c37,c38,c39,c40,c41,c42,c43,c44,c45,c46,c47,c48,c49,c50,c51,c52,c53,c54,c55,c56,c57,c58,c59,c60,c61,c62,c63,c64,c65,c66,c67,c68,c69,c70,c71,c72,c73,c74,c75],defers:=[] } Y:=by
 have HKt:Hid _:=hK
 clear hK
 have HLK:Hid _:=hLK
 have j1:Y.drew.cell? ⟨ga,1,none⟩=some (.int .i64 sk):=m1
 have j2:Y.drew.cell? ⟨ga,2,none⟩=some (.map (some gm)):=m2
 have jq:Y.drew.cell? ⟨q,2,none⟩=some (.int .i64 z):=mq
 subst hh
 clear hLK m1 m2 mq
 conv=>arg 2;whnf
 dsimp only
 refine wp_region_any (by kernel_rfl) ?_
 change wpAny _ _ _ _ _ _ _ (World.drew _)
 refine wpAny_inw (fun L act0 u=>∃ w1,act0=img1Mk ga gm q Y.heap.size z sk  c1 c2 c4 c5 c6 c7 c8 c9 c10 c24 c25 c26 c27 c28 c29 c30 c31 c32 c33 c34 c35 c36 c37 c38 c39 c40 c41 c42 c43 c44 c45 c46 c47 c48 c49 c50 c51 c52 c53 c54 c55 c56 c57 c58 c59 c60 c61 c62 c63 c64 c65 c66 c67 c68 c69 c70 c71 c72 c73 c74 c75 d3 d11 d12 d13 d14 d15 d16 d17 d18 d19 d20 d21 d22 d23  L/\TwoW Y.drew (fun u=>u=Y.drew.alloc (.cells #[.slice none 0 0,.slice none 0 0,.int .i64 0,.int .i64 0] 28)) (fun u=>u=Y.drew.alloc (.cells #[.slice none 0 0,.slice none 0 0,.int .i64 z,.int .i64 sk] 28)) 13 14 w1 L u) ?done (by kernel_rfl) ?step _ 15 _ _ (by kernel_rfl) ?init (by decide)
 case init=>exact⟨Y,by simp only[img1Mk,sld_no (up_init _ _)],TwoW.init⟩
 case step=>
  intro L act w i o hI hlt hs nl hC hd ho K hK
  obtain⟨w1,rfl,hW⟩:=hI
  have hi_lt:i<15:=(Array.getElem?_eq_some_iff.1 ho).1
  rcases (show i=0\/i=1\/i=2\/i=3\/i=4\/i=5\/i=6\/i=7\/i=8\/i=9\/i=10\/i=11\/i=12\/i=13\/i=14 by omega) with rfl | rfl | rfl | rfl | rfl | rfl | rfl | rfl | rfl | rfl | rfl | rfl | rfl | rfl | rfl
  ·change some _=some o at ho
   cases ho
   simp only[img1Mk]
   go_simp
   exact hK _ _ ⟨w1,by simp only[img1Mk,sld_set hlt,reduceIte,Nat.reduceEqDiff];try rfl,(hW.keep hlt (by decide) (by decide))⟩
  ·change some _=some o at ho
   cases ho
   have q0:up L 0=true:=hd { on:=0,ground:=.data } (by simp) rfl
   simp only[img1Mk,sld_yes q0]
   go_simp
   exact hK _ _ ⟨w1,by simp only[img1Mk,sld_set hlt,sld_yes q0,reduceIte,Nat.reduceEqDiff];try rfl,(hW.keep hlt (by decide) (by decide))⟩
  ·change some _=some o at ho
   cases ho
   have q1:up L 1=true:=hd { on:=1,ground:=.data } (by simp) rfl
   simp only[img1Mk,sld_yes q1]
   go_simp
   exact hK _ _ ⟨w1,by simp only[img1Mk,sld_set hlt,sld_yes q1,reduceIte,Nat.reduceEqDiff];try rfl,(hW.keep hlt (by decide) (by decide))⟩
  ·change some _=some o at ho
   cases ho
   have q2:up L 2=true:=hd { on:=2,ground:=.data } (by simp) rfl
   have n14:up L 14=false:=hC.no nl 14 rfl (by kernel_rfl)
   have xo:=hW.cell n14 j2 (fun q=>by rw[q];exact below_cell (below_alloc _ _) j2)
   simp only[img1Mk,sld_yes q2]
   go_simp
   exact hK _ _ ⟨w1,by simp only[img1Mk,sld_set hlt,sld_yes q2,reduceIte,Nat.reduceEqDiff];try rfl,(hW.keep hlt (by decide) (by decide))⟩
  ·change some _=some o at ho
   cases ho
   have q3:up L 3=true:=hd { on:=3,ground:=.data } (by simp) rfl
   have n14:up L 14=false:=hC.no nl 14 rfl (by kernel_rfl)
   have kb:Below Y.drew.heap.size Y.drew w:=by
    cases q:up L 13
    ·rw[hW.1 q];exact Below.refl _ _
    ·obtain⟨d1,y4,_⟩:=hW.2 q;rw[y4 n14,d1];exact below_alloc _ _
   have klk:=HLK.out w kb
   clear kb
   simp only[img1Mk,sld_yes q3]
   go_simp
   exact hK _ _ ⟨w1,by simp only[img1Mk,sld_set hlt,sld_yes q3,reduceIte,Nat.reduceEqDiff];try rfl,(hW.keep hlt (by decide) (by decide))⟩
  ·change some _=some o at ho
   cases ho
   have q4:up L 4=true:=hd { on:=4,ground:=.data } (by simp) rfl
   simp only[img1Mk,sld_yes q4]
   go_simp
   exact hK _ _ ⟨w1,by simp only[img1Mk,sld_set hlt,sld_yes q4,reduceIte,Nat.reduceEqDiff];try rfl,(hW.keep hlt (by decide) (by decide))⟩
  ·change some _=some o at ho
   cases ho
   have q5:up L 5=true:=hd { on:=5,ground:=.data } (by simp) rfl
   simp only[img1Mk,sld_yes q5]
   go_simp
   exact hK _ _ ⟨w1,by simp only[img1Mk,sld_set hlt,sld_yes q5,reduceIte,Nat.reduceEqDiff];try rfl,(hW.keep hlt (by decide) (by decide))⟩
  ·change some _=some o at ho
   cases ho
   have q6:up L 6=true:=hd { on:=6,ground:=.data } (by simp) rfl
   have n14:up L 14=false:=hC.no nl 14 rfl (by kernel_rfl)
   have xo:=hW.cell n14 jq (fun q=>by rw[q];exact below_cell (below_alloc _ _) jq)
   simp only[img1Mk,sld_yes q6]
   go_simp
   exact hK _ _ ⟨w1,by simp only[img1Mk,sld_set hlt,sld_yes q6,reduceIte,Nat.reduceEqDiff];try rfl,(hW.keep hlt (by decide) (by decide))⟩
  ·change some _=some o at ho
   cases ho
   simp only[img1Mk]
   go_simp
   exact hK _ _ ⟨w1,by simp only[img1Mk,sld_set hlt,reduceIte,Nat.reduceEqDiff];try rfl,(hW.keep hlt (by decide) (by decide))⟩
  ·change some _=some o at ho
   cases ho
   have q8:up L 8=true:=hd { on:=8,ground:=.data } (by simp) rfl
   simp only[img1Mk,sld_yes q8]
   go_simp
   exact hK _ _ ⟨w1,by simp only[img1Mk,sld_set hlt,sld_yes q8,reduceIte,Nat.reduceEqDiff];try rfl,(hW.keep hlt (by decide) (by decide))⟩
  ·change some _=some o at ho
   cases ho
   have q9:up L 9=true:=hd { on:=9,ground:=.data } (by simp) rfl
   simp only[img1Mk,sld_yes q9]
   go_simp
   exact hK _ _ ⟨w1,by simp only[img1Mk,sld_set hlt,sld_yes q9,reduceIte,Nat.reduceEqDiff];try rfl,(hW.keep hlt (by decide) (by decide))⟩
  ·change some _=some o at ho
   cases ho
   have q10:up L 10=true:=hd { on:=10,ground:=.data } (by simp) rfl
   have n14:up L 14=false:=hC.no nl 14 rfl (by kernel_rfl)
   have xo:=hW.cell n14 j1 (fun q=>by rw[q];exact below_cell (below_alloc _ _) j1)
   simp only[img1Mk,sld_yes q10]
   go_simp
   exact hK _ _ ⟨w1,by simp only[img1Mk,sld_set hlt,sld_yes q10,reduceIte,Nat.reduceEqDiff];try rfl,(hW.keep hlt (by decide) (by decide))⟩
  ·change some _=some o at ho
   cases ho
   have q7:up L 7=true:=hd { on:=7,ground:=.data } (by simp) rfl
   have q11:up L 11=true:=hd { on:=11,ground:=.data } (by simp) rfl
   simp only[img1Mk,sld_yes q7,sld_yes q11]
   go_simp
   exact hK _ _ ⟨w1,by simp only[img1Mk,sld_set hlt,sld_yes q7,sld_yes q11,reduceIte,Nat.reduceEqDiff];try rfl,(hW.keep hlt (by decide) (by decide))⟩
  ·change some _=some o at ho
   cases ho
   have n14:up L 14=false:=hC.no nl 14 rfl (by kernel_rfl)
   obtain rfl:=hW.1 nl
   simp only[img1Mk]
   go_simp
   exact hK _ _ ⟨_,by simp only[img1Mk,sld_set hlt,reduceIte,Nat.reduceEqDiff];try rfl,TwoW.first hlt (by decide) n14 rfl⟩
  ·change some _=some o at ho
   cases ho
   have q12:up L 12=true:=hd { on:=12,ground:=.data } (by simp) rfl
   have q13:up L 13=true:=hd { on:=13,ground:=.data } (by simp) rfl
   obtain⟨d1,y4,_⟩:=hW.2 q13
   obtain rfl:=y4 nl
   subst d1
   simp only[img1Mk,sld_yes q12,sld_yes q13]
   go_simp
   exact hK _ _ ⟨_,by simp only[img1Mk,sld_set hlt,sld_yes q12,sld_yes q13,reduceIte,Nat.reduceEqDiff];try rfl,hW.second hlt q13 rfl⟩
 case done=>
  rintro L a u ⟨w1,rfl,hW⟩ hall
  simp only[img1Mk,sld_yes (hall 0 (by decide)),sld_yes (hall 1 (by decide)),sld_yes (hall 2 (by decide)),sld_yes (hall 3 (by decide)),sld_yes (hall 4 (by decide)),sld_yes (hall 5 (by decide)),sld_yes (hall 6 (by decide)),sld_yes (hall 7 (by decide)),sld_yes (hall 8 (by decide)),sld_yes (hall 9 (by decide)),sld_yes (hall 10 (by decide)),sld_yes (hall 11 (by decide)),sld_yes (hall 12 (by decide)),sld_yes (hall 13 (by decide)),sld_yes (hall 14 (by decide))]
  obtain⟨d1,_,hB⟩:=hW.2 (hall 13 (by decide))
  obtain rfl:=hB (hall 14 (by decide))
  exact HKt.out
def img7Mk (ga h4 h6:Nat) (x:Pl.Ln) (t la:Int)  (c1 c2 c3 c5 c7 c8 c9 c10 c11 c12 c13 c14 c15 c16 c17 c18 c19 c20 c21 c22 c23 c24 c25 c26 c27 c28 c29 c30 c31 c32 c33 c34 c35 c36 c37 c44 c45 c46 c47 c48 c49 c50 c51 c52 c53 c54 c55 c56 c57 c58 c59 c60 c61 c62 c63 c64 c65 c66 c67 c68 c69 c70 c71 c72 c73 c74 c75 d38 d39 d40 d41 d42 d43:Value) (a2:Option Addr) (n2 y2:Nat) (L:Array Bool):Act:={ tmps:=#[.pointer (some ⟨ga,0,none⟩),c1,c2,c3,.pointer (some ⟨h4,0,none⟩),c5,.pointer (some ⟨h6,0,none⟩),c7,c8,c9,c10,c11,c12,c13,c14,c15,c16,c17,c18,c19,c20,c21,c22,c23,c24,c25,c26,c27,c28,c29,c30,c31,c32,c33,c34,c35,c36,c37,sld d38 L 0 (.pointer (some ⟨ga,0,none⟩)),sld d39 L 1 (.agg #[.int .i64 x.k,.int .i64 x.op,.int .i64 x.rd,.int .i64 x.r1,.int .i64 x.r2,.int .i64 x.im,.string x.s,.int .i64 x.n]),sld d40 L 2 (.int .i64 t),sld d41 L 3 (.slice a2 n2 y2),sld d42 L 4 (.int .i64 (n2:Nat)),sld d43 L 5 (.int .i64 0),c44,c45,c46,c47,c48,c49,c50,c51,c52,c53,c54,c55,c56,c57,c58,c59,c60,c61,c62,c63,c64,c65,c66,c67,c68,c69,c70,c71,c72,c73,c74,c75],defers:=[] }
set_option maxRecDepth 100000 in
theorem img7 (ga h4 h6:Nat) (x:Pl.Ln) (t la:Int) {c1 c2 c3 c5 c7 c8 c9 c10 c11 c12 c13 c14 c15 c16 c17 c18 c19 c20 c21 c22 c23 c24 c25 c26 c27 c28 c29 c30 c31 c32 c33 c34 c35 c36 c37 c44 c45 c46 c47 c48 c49 c50 c51 c52 c53 c54 c55 c56 c57 c58 c59 c60 c61 c62 c63 c64 c65 c66 c67 c68 c69 c70 c71 c72 c73 c74 c75 d38 d39 d40 d41 d42 d43:Value} (Y:World) (r6:Y.heap[h6]?=some (.cells #[.int .i64 x.k,.int .i64 x.op,.int .i64 x.rd,.int .i64 x.r1,.int .i64 x.r2,.int .i64 x.im,.string x.s,.int .i64 x.n] 51 (0,0))) (hAD:Calls Tryz.prog 83 #[.pointer (some ⟨h4,0,none⟩)] Y.drew fun e w'=>e=.returned (.int .i64 t)/\w'=Y.drew) (hT:InsI x la t ga Y.drew) {Q:Exit->Act->World->Prop}
  (hK:∀ (a2:Option Addr) (n2 y2:Nat) (w1:World),InsRow Y.heap.size w1 a2 n2 (Pl.insA x t la)->Below Y.heap.size Y w1->Q .normal { tmps:=#[.pointer (some ⟨ga,0,none⟩),c1,c2,c3,.pointer (some ⟨h4,0,none⟩),c5,.pointer (some ⟨h6,0,none⟩),c7,c8,c9,c10,c11,c12,c13,c14,c15,c16,c17,c18,c19,c20,c21,c22,c23,c24,c25,c26,c27,c28,c29,c30,c31,c32,c33,c34,c35,c36,c37,.pointer (some ⟨ga,0,none⟩),.agg #[.int .i64 x.k,.int .i64 x.op,.int .i64 x.rd,.int .i64 x.r1,.int .i64 x.r2,.int .i64 x.im,.string x.s,.int .i64 x.n],.int .i64 t,.slice a2 n2 y2,.int .i64 (n2:Nat),.int .i64 0,c44,c45,c46,c47,c48,c49,c50,c51,c52,c53,c54,c55,c56,c57,c58,c59,c60,c61,c62,c63,c64,c65,c66,c67,c68,c69,c70,c71,c72,c73,c74,c75],defers:=[] } w1) :
  (imgC 7).wp Tryz.prog Q { tmps:=#[.pointer (some ⟨ga,0,none⟩),c1,c2,c3,.pointer (some ⟨h4,0,none⟩),c5,.pointer (some ⟨h6,0,none⟩),c7,c8,c9,c10,c11,c12,c13,c14,c15,c16,c17,c18,c19,c20,c21,c22,c23,c24,c25,c26,c27,c28,c29,c30,c31,c32,c33,c34,c35,c36,c37,d38,d39,d40,d41,d42,d43,c44,c45,c46,c47,c48,c49,c50,c51,c52,c53,c54,c55,c56,c57,c58,c59,c60,c61,c62,c63,c64,c65,c66,c67,c68,c69,c70,c71,c72,c73,c74,c75],defers:=[] } Y:=by
 have HKt:Hid _:=hK
 clear hK
 have HAD:Hid _:=hAD
 unfold InsI at hT
 have HT:Hid _:=hT
 have l0:Y.drew.cell? ⟨h6,0,none⟩=some (.int .i64 x.k):=cell_of_row Y.drew h6 0 _ 51 (0,0) r6
 have l1:Y.drew.cell? ⟨h6,1,none⟩=some (.int .i64 x.op):=cell_of_row Y.drew h6 1 _ 51 (0,0) r6
 have l2:Y.drew.cell? ⟨h6,2,none⟩=some (.int .i64 x.rd):=cell_of_row Y.drew h6 2 _ 51 (0,0) r6
 have l3:Y.drew.cell? ⟨h6,3,none⟩=some (.int .i64 x.r1):=cell_of_row Y.drew h6 3 _ 51 (0,0) r6
 have l4:Y.drew.cell? ⟨h6,4,none⟩=some (.int .i64 x.r2):=cell_of_row Y.drew h6 4 _ 51 (0,0) r6
 have l5:Y.drew.cell? ⟨h6,5,none⟩=some (.int .i64 x.im):=cell_of_row Y.drew h6 5 _ 51 (0,0) r6
 have l6:Y.drew.cell? ⟨h6,6,none⟩=some (.string x.s):=cell_of_row Y.drew h6 6 _ 51 (0,0) r6
 have l7:Y.drew.cell? ⟨h6,7,none⟩=some (.int .i64 x.n):=cell_of_row Y.drew h6 7 _ 51 (0,0) r6
 clear hAD hT r6
 conv=>arg 2;whnf
 dsimp only
 refine wp_region_any (by kernel_rfl) ?_
 change wpAny _ _ _ _ _ _ _ (World.drew _)
 refine wpAny_inw (fun L act0 u=>∃ a2 n2 y2,act0=img7Mk ga h4 h6 x t la  c1 c2 c3 c5 c7 c8 c9 c10 c11 c12 c13 c14 c15 c16 c17 c18 c19 c20 c21 c22 c23 c24 c25 c26 c27 c28 c29 c30 c31 c32 c33 c34 c35 c36 c37 c44 c45 c46 c47 c48 c49 c50 c51 c52 c53 c54 c55 c56 c57 c58 c59 c60 c61 c62 c63 c64 c65 c66 c67 c68 c69 c70 c71 c72 c73 c74 c75 d38 d39 d40 d41 d42 d43 a2 n2 y2 L/\OneW Y.drew (fun u=>InsRow Y.drew.heap.size u a2 n2 (Pl.insA x t la)/\Below Y.drew.heap.size Y.drew u) 3 L u) ?done (by kernel_rfl) ?step _ 6 _ _ (by kernel_rfl) ?init (by decide)
 case init=>exact⟨none,0,0,by simp only[img7Mk,sld_no (up_init _ _)],OneW.init⟩
 case step=>
  intro L act w i o hI hlt hs nl hC hd ho K hK
  obtain⟨a2,n2,y2,rfl,hW⟩:=hI
  have hi_lt:i<6:=(Array.getElem?_eq_some_iff.1 ho).1
  rcases (show i=0\/i=1\/i=2\/i=3\/i=4\/i=5 by omega) with rfl | rfl | rfl | rfl | rfl | rfl
  ·change some _=some o at ho
   cases ho
   simp only[img7Mk]
   go_simp
   exact hK _ _ ⟨a2,n2,y2,by simp only[img7Mk,sld_set hlt,reduceIte,Nat.reduceEqDiff];try rfl,(hW.keep hlt (by decide))⟩
  ·change some _=some o at ho
   cases ho
   have n3:up L 3=false:=hC.no nl 3 rfl (by kernel_rfl)
   obtain rfl:=hW.1 n3
   simp only[img7Mk]
   go_simp
   exact hK _ _ ⟨a2,n2,y2,by simp only[img7Mk,sld_set hlt,reduceIte,Nat.reduceEqDiff];try rfl,(hW.keep hlt (by decide))⟩
  ·change some _=some o at ho
   cases ho
   have n3:up L 3=false:=hC.no nl 3 rfl (by kernel_rfl)
   obtain rfl:=hW.1 n3
   simp only[img7Mk]
   go_simp
   refine Calls.mono HAD.out ?_
   rintro e w3 ⟨rfl,rfl⟩
   go_simp
   exact hK _ _ ⟨a2,n2,y2,by simp only[img7Mk,sld_set hlt,reduceIte,Nat.reduceEqDiff];try rfl,(hW.keep hlt (by decide))⟩
  ·change some _=some o at ho
   cases ho
   have q0:up L 0=true:=hd { on:=0,ground:=.data } (by simp) rfl
   have q1:up L 1=true:=hd { on:=1,ground:=.data } (by simp) rfl
   have q2:up L 2=true:=hd { on:=2,ground:=.data } (by simp) rfl
   have n4:up L 4=false:=hC.no nl 4 rfl (by kernel_rfl)
   obtain rfl:=hW.1 nl
   simp only[img7Mk,sld_yes q0,sld_yes q1,sld_yes q2]
   go_simp
   refine Calls.mono HT.out ?_
   rintro e w2 ⟨a3,n3,y3,rfl,hR,hB⟩
   go_simp
   exact hK _ _ ⟨a3,n3,y3,by simp only[img7Mk,sld_set hlt,sld_yes q0,sld_yes q1,sld_yes q2,sld_no n4,reduceIte,Nat.reduceEqDiff];try rfl,OneW.first hlt ⟨hR,hB⟩⟩
  ·change some _=some o at ho
   cases ho
   have q3:up L 3=true:=hd { on:=3,ground:=.data } (by simp) rfl
   have hR:=(hW.2 q3).1.2.1
   have hR2:(n2:Int)<=2:=by omega
   simp only[img7Mk,sld_yes q3]
   go_simp
   exact hK _ _ ⟨a2,n2,y2,by simp only[img7Mk,sld_set hlt,sld_yes q3,reduceIte,Nat.reduceEqDiff];try rfl,(hW.keep hlt (by decide))⟩
  ·change some _=some o at ho
   cases ho
   simp only[img7Mk]
   go_simp
   exact hK _ _ ⟨a2,n2,y2,by simp only[img7Mk,sld_set hlt,reduceIte,Nat.reduceEqDiff];try rfl,(hW.keep hlt (by decide))⟩
 case done=>
  rintro L a u ⟨a2,n2,y2,rfl,hW⟩ hall
  simp only[img7Mk,sld_yes (hall 0 (by decide)),sld_yes (hall 1 (by decide)),sld_yes (hall 2 (by decide)),sld_yes (hall 3 (by decide)),sld_yes (hall 4 (by decide)),sld_yes (hall 5 (by decide))]
  obtain⟨hR,hB⟩:=hW.2 (hall 3 (by decide))
  exact HKt.out a2 n2 y2 _ hR (Below.trans (Below.drew (Below.refl _ _)) hB)
end Go.Proofs.YtlbomnnldkeocaaGreat.W
