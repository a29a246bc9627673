import Derived.Test.YtcgfgmlfbgbkfaaGreatDoorM18
import Derived.Test.YtcgfgmlfbgbkfaaGreatDoorM16
import Derived.Test.YtcgfgmlfbgbkfaaGreatDoorM17
import Derived.Lib.SlBuf
import Derived.Deep.AppendLies
set_option linter.unusedVariables false
set_option linter.unusedSimpArgs false
set_option maxHeartbeats 16000000
namespace Go.Proofs.YtcgfgmlfbgbkfaaGreatDoor.W
open Go.RowKit
def Na19Mk (gl go k i:Nat) (a:Option Addr) (m c:Nat) (x:Int) (c0 c1 c2 c4 c5 c7 c8 c9 c10 c11 c13 c14 c15 c16 c17 c18 c19 c20 c21 c22 c23 c24 c25 c26 c27 c28 c29 c30 c31 c32 c33 c34 c35 c36 c37 c38 c39 c40 c41 c42 c43 c44 c45 c46 c47 c48 c49 c50 c51 c52 c53 c54 c55 c56 c57 c58 c59 c60 c61 c62 c63 c64 c65 c66 c67 c68 c69 c70 c71 c72 c73 c74 c75 c76 c77 c78 c79 c80 c81 c82 c83 c84 c85 c86 c87 c88 c89 c90 c91 c92 c93 c94 c95 c96 c97 c98 c99 c100 c101 c102 c103 c104 c105 c106 c107 c108 c109 c110 c111 c112 c113 c114 c115 c116 c117 c118 c119 c120 c121 c122 c123 c124 c125 c126 c127 c128 c129 c130 c131 c132:Value) (H G cp:Nat) (L:Array Bool):Act:={ tmps:=#[c0,c1,c2,.pointer (some ⟨gl,0,none⟩),c4,c5,.int .i64 x,c7,c8,c9,c10,c11,.int .i64 (i:Int),c13,c14,c15,c16,c17,c18,c19,c20,c21,c22,c23,c24,c25,c26,c27,c28,c29,c30,c31,c32,c33,c34,c35,c36,c37,c38,c39,c40,c41,c42,c43,c44,c45,c46,c47,c48,c49,c50,c51,c52,c53,c54,c55,c56,c57,c58,c59,c60,c61,c62,c63,c64,c65,c66,c67,c68,c69,c70,c71,c72,c73,c74,c75,c76,c77,c78,c79,c80,c81,c82,c83,c84,c85,c86,c87,c88,c89,c90,c91,c92,c93,c94,c95,c96,c97,c98,c99,c100,c101,c102,c103,c104,c105,c106,sld c107 L 0 (.pointer (some ⟨gl,0,none⟩)),sld c108 L 1 (.pointer (some ⟨gl,0,none⟩)),sld c109 L 2 (.pointer (some ⟨gl,3,none⟩)),sld c110 L 3 (.slice (some ⟨go,0,none⟩) k k),sld c111 L 4 (.int .i64 (i:Int)),sld c112 L 5 (.pointer (some ⟨gl,0,none⟩)),sld c113 L 6 (.pointer (some ⟨gl,0,none⟩)),sld c114 L 7 (.pointer (some ⟨gl,3,none⟩)),sld c115 L 8 (.slice (some ⟨go,0,none⟩) k k),sld c116 L 9 (.int .i64 (i:Int)),sld c117 L 10 (.pointer (some ⟨go,i,none⟩)),sld c118 L 11 (.slice a m c),sld c119 L 12 (.int .i64 x),sld c120 L 13 (.slice (some ⟨H,0,none⟩) 1 1),sld c121 L 14 (.slice (some ⟨G,0,none⟩) (m+1) cp),sld c122 L 15 (.pointer (some ⟨go,i,none⟩)),c123,c124,c125,c126,c127,c128,c129,c130,c131,c132],defers:=[] }
set_option maxRecDepth 100000 in
theorem nl19_is {W0 y:World} {gl gb gs gu gt n R:Nat} {B U S:Gd} {ss:List Int} {T:Nat->Nat} (h:Lv W0 y gl gb gs gu gt n R B U S ss T) (i:Nat) (hi:i<R) (hk8:R<=8000) (x:Int) (hlen:(S.L i).length<=1000000) (c0 c1 c2 c4 c5 c7 c8 c9 c10 c11 c13 c14 c15 c16 c17 c18 c19 c20 c21 c22 c23 c24 c25 c26 c27 c28 c29 c30 c31 c32 c33 c34 c35 c36 c37 c38 c39 c40 c41 c42 c43 c44 c45 c46 c47 c48 c49 c50 c51 c52 c53 c54 c55 c56 c57 c58 c59 c60 c61 c62 c63 c64 c65 c66 c67 c68 c69 c70 c71 c72 c73 c74 c75 c76 c77 c78 c79 c80 c81 c82 c83 c84 c85 c86 c87 c88 c89 c90 c91 c92 c93 c94 c95 c96 c97 c98 c99 c100 c101 c102 c103 c104 c105 c106 c107 c108 c109 c110 c111 c112 c113 c114 c115 c116 c117 c118 c119 c120 c121 c122 c123 c124 c125 c126 c127 c128 c129 c130 c131 c132:Value) (Q:Exit->Act->World->Prop)
  (hK:∀ (s107 s108 s109 s110 s111 s112 s113 s114 s115 s116 s117 s118 s119 s120 s121 s122:Value) (g c:Nat) (T':Nat->Nat) (y':World),Lv W0 y' gl gb gs gu gt n R B U (S.put i g c x) ss T'->Kp T T' y y'->Q .normal { tmps:=#[c0,c1,c2,.pointer (some ⟨gl,0,none⟩),c4,c5,.int .i64 x,c7,c8,c9,c10,c11,.int .i64 (i:Int),c13,c14,c15,c16,c17,c18,c19,c20,c21,c22,c23,c24,c25,c26,c27,c28,c29,c30,c31,c32,c33,c34,c35,c36,c37,c38,c39,c40,c41,c42,c43,c44,c45,c46,c47,c48,c49,c50,c51,c52,c53,c54,c55,c56,c57,c58,c59,c60,c61,c62,c63,c64,c65,c66,c67,c68,c69,c70,c71,c72,c73,c74,c75,c76,c77,c78,c79,c80,c81,c82,c83,c84,c85,c86,c87,c88,c89,c90,c91,c92,c93,c94,c95,c96,c97,c98,c99,c100,c101,c102,c103,c104,c105,c106,s107,s108,s109,s110,s111,s112,s113,s114,s115,s116,s117,s118,s119,s120,s121,s122,c123,c124,c125,c126,c127,c128,c129,c130,c131,c132],defers:=[] } y') :
  (nlC 19).wp Tryz.prog Q { tmps:=#[c0,c1,c2,.pointer (some ⟨gl,0,none⟩),c4,c5,.int .i64 x,c7,c8,c9,c10,c11,.int .i64 (i:Int),c13,c14,c15,c16,c17,c18,c19,c20,c21,c22,c23,c24,c25,c26,c27,c28,c29,c30,c31,c32,c33,c34,c35,c36,c37,c38,c39,c40,c41,c42,c43,c44,c45,c46,c47,c48,c49,c50,c51,c52,c53,c54,c55,c56,c57,c58,c59,c60,c61,c62,c63,c64,c65,c66,c67,c68,c69,c70,c71,c72,c73,c74,c75,c76,c77,c78,c79,c80,c81,c82,c83,c84,c85,c86,c87,c88,c89,c90,c91,c92,c93,c94,c95,c96,c97,c98,c99,c100,c101,c102,c103,c104,c105,c106,c107,c108,c109,c110,c111,c112,c113,c114,c115,c116,c117,c118,c119,c120,c121,c122,c123,c124,c125,c126,c127,c128,c129,c130,c131,c132],defers:=[] } y:=by
 have HKt:Hid _:=hK
 clear hK
 conv=>arg 2;whnf
 dsimp only
 obtain⟨i0,hi0,hz0,hz1,hz2⟩:=info_parts Tryz.infostL
 have hd:=h.later (Below.drew (Below.refl y.heap.size y))
 have HL:Hid (Lv W0 y.drew gl gb gs gu gt n R B U S ss T):=hd
 obtain⟨k,hkk⟩:∃ k,k=R:=⟨_,rfl⟩
 obtain⟨go,hgo⟩:∃ go,go=gt:=⟨_,rfl⟩
 have dF:y.drew.cell? ⟨gl,3,none⟩=some (.slice (some ⟨go,0,none⟩) k k):=by rw[hkk,hgo];exact hd.cell 3
 have hrc:y.drew.cell? ⟨go,i,none⟩=some (S.V i):=by rw[hgo];exact hd.rt.cell hi
 obtain⟨a,ha⟩:∃ a,a=S.A i:=⟨_,rfl⟩
 obtain⟨m,hm⟩:∃ m,m=(S.L i).length:=⟨_,rfl⟩
 obtain⟨c,hc⟩:∃ c,c=S.C i:=⟨_,rfl⟩
 have hV:S.V i=.slice a m c:=by rw[ha,hm,hc];rfl
 have HVV:Hid (S.V i=.slice a m c/\m=(S.L i).length/\go=gt/\k=R):=⟨hV,hm,hgo,hkk⟩
 have dR:y.drew.cell? ⟨go,i,none⟩=some (.slice a m c):=by rw[<- hV];exact hrc
 have dO:=dR
 obtain⟨xs,hxs⟩:∃ xs,xs=S.L i:=⟨_,rfl⟩
 have HXS:Hid (xs=S.L i):=hxs
 have HO:Hid (y.drew.ownsRow W0.heap.size 108 1 (.slice a m c) m xs):=by rw[ha,hm,hc,hxs];exact hd.rt.nr i hi
 have HBL:Hid (Below W0.heap.size W0 y.drew):=hd.bel
 have HNO:Hid ((Value.slice a m c).ownBlock≠some go):=by rw[<- hV,hgo];exact hd.rt.ne hi
 have HNE:Hid ((Value.slice a m c).ownBlock≠some gl):=by
  rw[<- hV]
  intro e
  have e1:=hd.rt.tn i hi gl e
  rw[hd.tb]at e1
  omega
 have HFZ:Hid (∀ w:World,(y.drew.alloc (.cells #[.int .i64 x] 108)).grownBy w (Value.slice a m c).ownBlock->w.frozen? ⟨go,i,none⟩=false):=fun w hg=>by
  have o1:=(hd.rt.oo)
  rw[<- hgo]at o1
  have hgl:=(o1.lt go rfl).2
  have o2:=own_eqL o1 (w':=w) fun g hq=>by
   simp only[Value.ownBlock,Option.some.injEq]at hq
   subst hq
   rw[hg.block go (by simp;exact Nat.lt_succ_of_lt hgl) (fun q=>HNO.out q.symm)]
   exact (below_alloc _ _).block go hgl
  exact o2.frozenAt i
 have him:m<=1000000:=by rw[hm];exact hlen
 have hik:(i:Int)<(k:Int):=by rw[hkk];omega
 have hi8:(i:Int)<=8000:=by omega
 clear hd h hrc hV ha hc hm hxs hgo hkk hlen
 refine wp_region_any (by kernel_rfl) ?_
 change wpAny _ _ _ _ _ _ _ (World.drew _)
 refine wpAny_inw (fun L ac w=>∃ H G cp,ac=Na19Mk gl go k i a m c x c0 c1 c2 c4 c5 c7 c8 c9 c10 c11 c13 c14 c15 c16 c17 c18 c19 c20 c21 c22 c23 c24 c25 c26 c27 c28 c29 c30 c31 c32 c33 c34 c35 c36 c37 c38 c39 c40 c41 c42 c43 c44 c45 c46 c47 c48 c49 c50 c51 c52 c53 c54 c55 c56 c57 c58 c59 c60 c61 c62 c63 c64 c65 c66 c67 c68 c69 c70 c71 c72 c73 c74 c75 c76 c77 c78 c79 c80 c81 c82 c83 c84 c85 c86 c87 c88 c89 c90 c91 c92 c93 c94 c95 c96 c97 c98 c99 c100 c101 c102 c103 c104 c105 c106 c107 c108 c109 c110 c111 c112 c113 c114 c115 c116 c117 c118 c119 c120 c121 c122 c123 c124 c125 c126 c127 c128 c129 c130 c131 c132 H G cp L/\NapW y.drew go i a m c x W0.heap.size xs H G cp L w) ?done (by kernel_rfl) ?step _ 17 _ _ (by kernel_rfl) ?init (by decide)
 case init=>exact⟨0,0,0,by simp only[Na19Mk,sld_no (up_init _ _)],fun _=>rfl,fun z=>absurd (z.symm.trans (up_init _ _)) (by decide),fun z=>absurd (z.symm.trans (up_init _ _)) (by decide)⟩
 case step=>
  intro L act w i o hI hlt hs nl hC hd ho K hK
  obtain⟨H,G,cp,rfl,hW⟩:=hI
  have hi_lt:i<17:=(Array.getElem?_eq_some_iff.1 ho).1
  rcases (show i=0\/i=1\/i=2\/i=3\/i=4\/i=5\/i=6\/i=7\/i=8\/i=9\/i=10\/i=11\/i=12\/i=13\/i=14\/i=15\/i=16 by omega) with rfl | rfl | rfl | rfl | rfl | rfl | rfl | rfl | rfl | rfl | rfl | rfl | rfl | rfl | rfl | rfl | rfl
  ·change some _=some o at ho
   cases ho
   simp only[Na19Mk]
   go_simp
   exact hK _ _ ⟨H,G,cp,by simp only[Na19Mk,sld_set hlt,reduceIte,Nat.reduceEqDiff];try rfl,(hW.keep hlt (by decide) (by decide) (by decide))⟩
  ·change some _=some o at ho
   cases ho
   have q0:up L 0=true:=hd { on:=0,ground:=.data } (by simp) rfl
   simp only[Na19Mk,sld_yes q0]
   go_simp
   exact hK _ _ ⟨H,G,cp,by simp only[Na19Mk,sld_set hlt,sld_yes q0,reduceIte,Nat.reduceEqDiff];try rfl,(hW.keep hlt (by decide) (by decide) (by decide))⟩
  ·change some _=some o at ho
   cases ho
   have q1:up L 1=true:=hd { on:=1,ground:=.data } (by simp) rfl
   simp only[Na19Mk,sld_yes q1]
   go_simp
   exact hK _ _ ⟨H,G,cp,by simp only[Na19Mk,sld_set hlt,sld_yes q1,reduceIte,Nat.reduceEqDiff];try rfl,(hW.keep hlt (by decide) (by decide) (by decide))⟩
  ·change some _=some o at ho
   cases ho
   have q2:up L 2=true:=hd { on:=2,ground:=.data } (by simp) rfl
   have n16:up L 16=false:=hC.no (hC.no nl 15 rfl (by kernel_rfl)) 16 rfl (by kernel_rfl)
   have cx:=hW.any n16 HNE.out dF
   simp only[Na19Mk,sld_yes q2]
   go_simp
   exact hK _ _ ⟨H,G,cp,by simp only[Na19Mk,sld_set hlt,sld_yes q2,reduceIte,Nat.reduceEqDiff];try rfl,(hW.keep hlt (by decide) (by decide) (by decide))⟩
  ·change some _=some o at ho
   cases ho
   simp only[Na19Mk]
   go_simp
   exact hK _ _ ⟨H,G,cp,by simp only[Na19Mk,sld_set hlt,reduceIte,Nat.reduceEqDiff];try rfl,(hW.keep hlt (by decide) (by decide) (by decide))⟩
  ·change some _=some o at ho
   cases ho
   simp only[Na19Mk]
   go_simp
   exact hK _ _ ⟨H,G,cp,by simp only[Na19Mk,sld_set hlt,reduceIte,Nat.reduceEqDiff];try rfl,(hW.keep hlt (by decide) (by decide) (by decide))⟩
  ·change some _=some o at ho
   cases ho
   have q5:up L 5=true:=hd { on:=5,ground:=.data } (by simp) rfl
   simp only[Na19Mk,sld_yes q5]
   go_simp
   exact hK _ _ ⟨H,G,cp,by simp only[Na19Mk,sld_set hlt,sld_yes q5,reduceIte,Nat.reduceEqDiff];try rfl,(hW.keep hlt (by decide) (by decide) (by decide))⟩
  ·change some _=some o at ho
   cases ho
   have q6:up L 6=true:=hd { on:=6,ground:=.data } (by simp) rfl
   simp only[Na19Mk,sld_yes q6]
   go_simp
   exact hK _ _ ⟨H,G,cp,by simp only[Na19Mk,sld_set hlt,sld_yes q6,reduceIte,Nat.reduceEqDiff];try rfl,(hW.keep hlt (by decide) (by decide) (by decide))⟩
  ·change some _=some o at ho
   cases ho
   have q7:up L 7=true:=hd { on:=7,ground:=.data } (by simp) rfl
   have n10:up L 10=false:=hC.no nl 10 rfl (by kernel_rfl)
   have n11:up L 11=false:=hC.no n10 11 rfl (by kernel_rfl)
   have n14:up L 14=false:=hC.no n11 14 rfl (by kernel_rfl)
   have cx:=hW.early n14 dF
   simp only[Na19Mk,sld_yes q7]
   go_simp
   exact hK _ _ ⟨H,G,cp,by simp only[Na19Mk,sld_set hlt,sld_yes q7,reduceIte,Nat.reduceEqDiff];try rfl,(hW.keep hlt (by decide) (by decide) (by decide))⟩
  ·change some _=some o at ho
   cases ho
   simp only[Na19Mk]
   go_simp
   exact hK _ _ ⟨H,G,cp,by simp only[Na19Mk,sld_set hlt,reduceIte,Nat.reduceEqDiff];try rfl,(hW.keep hlt (by decide) (by decide) (by decide))⟩
  ·change some _=some o at ho
   cases ho
   have q8:up L 8=true:=hd { on:=8,ground:=.data } (by simp) rfl
   have q9:up L 9=true:=hd { on:=9,ground:=.data } (by simp) rfl
   simp only[Na19Mk,sld_yes q8,sld_yes q9]
   go_simp
   exact hK _ _ ⟨H,G,cp,by simp only[Na19Mk,sld_set hlt,sld_yes q8,sld_yes q9,reduceIte,Nat.reduceEqDiff];try rfl,(hW.keep hlt (by decide) (by decide) (by decide))⟩
  ·change some _=some o at ho
   cases ho
   have q10:up L 10=true:=hd { on:=10,ground:=.data } (by simp) rfl
   have n14:up L 14=false:=hC.no nl 14 rfl (by kernel_rfl)
   have cx:=hW.early n14 dR
   simp only[Na19Mk,sld_yes q10]
   go_simp
   exact hK _ _ ⟨H,G,cp,by simp only[Na19Mk,sld_set hlt,sld_yes q10,reduceIte,Nat.reduceEqDiff];try rfl,(hW.keep hlt (by decide) (by decide) (by decide))⟩
  ·change some _=some o at ho
   cases ho
   simp only[Na19Mk]
   go_simp
   exact hK _ _ ⟨H,G,cp,by simp only[Na19Mk,sld_set hlt,reduceIte,Nat.reduceEqDiff];try rfl,(hW.keep hlt (by decide) (by decide) (by decide))⟩
  ·change some _=some o at ho
   cases ho
   have q12:up L 12=true:=hd { on:=12,ground:=.data } (by simp) rfl
   have n14:up L 14=false:=hC.no nl 14 rfl (by kernel_rfl)
   obtain rfl:=hW.1 nl
   simp only[Na19Mk,sld_yes q12]
   go_simp
   exact hK _ _ ⟨y.drew.heap.size,G,cp,by simp only[Na19Mk,sld_set hlt,sld_yes q12,reduceIte,Nat.reduceEqDiff];try rfl,⟨fun z=>absurd (z.symm.trans ((up_set hlt _).trans (if_pos rfl))) (by decide),fun _ _=>⟨rfl,rfl⟩,fun z=>absurd (z.symm.trans ((up_set hlt 14).trans n14)) (by decide)⟩⟩
  ·change some _=some o at ho
   cases ho
   have q11:up L 11=true:=hd { on:=11,ground:=.data } (by simp) rfl
   have q13:up L 13=true:=hd { on:=13,ground:=.data } (by simp) rfl
   have n16:up L 16=false:=hC.no nl 16 rfl (by kernel_rfl)
   obtain⟨rfl,rfl⟩:=hW.2.1 q13 nl
   have hown0:=own_keepI HO.out (below_alloc y.drew (.cells #[.int .i64 x] 108))
   simp only[Na19Mk,sld_yes q11,sld_yes q13]
   rw[if_pos (by rfl)]
   refine wp_append_lies _ (.tmp 118) (.tmp 120) 119 (by rfl) W0.heap.size 108 i0 (.int .i64 0) 1 8 Tryz.underlying119 hi0 hz0 hz1 hz2 rfl (by decide) (.slice a m c) m xs (by rfl) hown0 ⟨y.drew.heap.size,0,none⟩ 1 1 [.int .i64 x] (by rfl) rfl (World.news_of_block (heap_alloc_new y.drew (.cells #[.int .i64 x] 108))) (by intro z hz;simp at hz;subst hz;rfl) (by decide) (by unfold maxLen;omega) (by omega) (Nat.le_trans HBL.out.size (below_alloc y.drew _).size) _ rfl ?_
   intro G' cp' w2 hown1 hgrow hat hlt1
   exact hK _ _ ⟨y.drew.heap.size,G',cp',by simp only[Na19Mk,sld_set hlt,sld_yes q11,sld_yes q13,reduceIte,Nat.reduceEqDiff];try rfl,⟨fun z=>absurd (z.symm.trans ((up_set hlt 13).trans q13)) (by decide),fun _ z=>absurd (z.symm.trans ((up_set hlt _).trans (if_pos rfl))) (by decide),fun _=>⟨w2,hown1,hgrow,by (rcases hat with e | e;exact .inl e;exact .inr (by rw[e];simp)),fun _=>rfl,fun z=>absurd (z.symm.trans ((up_set hlt 16).trans n16)) (by decide)⟩⟩⟩
  ·change some _=some o at ho
   cases ho
   have q3:up L 3=true:=hd { on:=3,ground:=.data } (by simp) rfl
   have q4:up L 4=true:=hd { on:=4,ground:=.data } (by simp) rfl
   simp only[Na19Mk,sld_yes q3,sld_yes q4]
   go_simp
   exact hK _ _ ⟨H,G,cp,by simp only[Na19Mk,sld_set hlt,sld_yes q3,sld_yes q4,reduceIte,Nat.reduceEqDiff];try rfl,(hW.keep hlt (by decide) (by decide) (by decide))⟩
  ·change some _=some o at ho
   cases ho
   have q14:up L 14=true:=hd { on:=14,ground:=.data } (by simp) rfl
   have q15:up L 15=true:=hd { on:=15,ground:=.data } (by simp) rfl
   have q13:up L 13=true:=hC 14 _ rfl q14 { on:=13,ground:=.data } (by simp) rfl
   have cx:=hW.any nl HNO.out dO
   obtain⟨w2,y1,y2,y3,y5,_⟩:=hW.2.2 q14
   obtain rfl:=y5 nl
   have fx:=HFZ.out w y2
   simp only[Na19Mk,sld_yes q14,sld_yes q15]
   go_simp
   exact hK _ _ ⟨H,G,cp,by simp only[Na19Mk,sld_set hlt,sld_yes q14,sld_yes q15,reduceIte,Nat.reduceEqDiff];try rfl,⟨fun z=>absurd (z.symm.trans ((up_set hlt 13).trans q13)) (by decide),fun _ z=>absurd (z.symm.trans ((up_set hlt 14).trans q14)) (by decide),fun _=>⟨w,y1,y2,y3,fun z=>absurd (z.symm.trans ((up_set hlt _).trans (if_pos rfl))) (by decide),fun _=>rfl⟩⟩⟩
 case done=>
  rintro L ac w ⟨H,G,cp,rfl,hW⟩ hall
  obtain⟨w2,y1,y2,y3,_,y5⟩:=hW.2.2 (hall 14 (by decide))
  obtain rfl:=y5 (hall 16 (by decide))
  simp only[Na19Mk,sld_yes (hall 0 (by decide)),sld_yes (hall 1 (by decide)),sld_yes (hall 2 (by decide)),sld_yes (hall 3 (by decide)),sld_yes (hall 4 (by decide)),sld_yes (hall 5 (by decide)),sld_yes (hall 6 (by decide)),sld_yes (hall 7 (by decide)),sld_yes (hall 8 (by decide)),sld_yes (hall 9 (by decide)),sld_yes (hall 10 (by decide)),sld_yes (hall 11 (by decide)),sld_yes (hall 12 (by decide)),sld_yes (hall 13 (by decide)),sld_yes (hall 14 (by decide)),sld_yes (hall 15 (by decide))]
  obtain⟨hV,hm,hgo,hkk⟩:=HVV.out
  have hxs:=HXS.out
  subst hxs hm hgo hkk
  rw[<- hV]at y2 y3
  refine HKt.out _ _ _ _ _ _ _ _ _ _ _ _ _ _ _ _ G cp _ _ (HL.out.app_t hi (below_alloc y.drew _) y1 y2 y3) ⟨?_,fun g hg=>⟨newT_old hg,HL.out.far_t hi (below_alloc y.drew _) y2 hg⟩⟩
  have e:=y2.size
  simp at e ⊢
  omega
end Go.Proofs.YtcgfgmlfbgbkfaaGreatDoor.W
namespace Go.Proofs.YtcgfgmlfbgbkfaaGreatDoor.Pl
theorem uniq_labs (code:List IrI):labUniq code↔∀ i,i<code.length->(code.getD i IrI.zero).op=11->LabIs code (code.getD i IrI.zero).n i:=by
 constructor
 ·intro h i hi h11
  exact .inr ⟨i,hi,rfl,⟨h11,rfl⟩,fun j hj q=>by have:=h j i _ (by omega) hi q ⟨h11,rfl⟩; omega⟩
 ·intro h i j n hi hj qi qj
  have h1:=h i hi qi.1
  have h2:=h j hj qj.1
  rw[qi.2]at h1
  rw[qj.2]at h2
  have:=LabIs.fn h1 h2
  omega
theorem has_lab (code:List IrI) (n:Int):(∃ i,i<code.length/\isLab code n i)↔¬ LabIs code n (-1):=by
 constructor
 ·rintro⟨i,hi,q⟩ (⟨_,h⟩ | ⟨j,_,h,_⟩)
  ·exact h i hi q
  ·omega
 ·intro h
  apply Classical.byContradiction
  intro hn
  exact h (.inl ⟨rfl,fun i hi q=>hn ⟨i,hi,q⟩⟩)
theorem regsOk_nil (r:Int):regsOk r []↔True:=⟨fun _=>trivial,fun _ i hi=>absurd hi (Nat.not_lt_zero _)⟩
theorem regsOk_cons (r x:Int) (l:List Int):regsOk r (x :: l)↔(0<=x/\x<=r-1)/\regsOk r l:=by
 constructor
 ·intro h
  exact⟨h 0 (by simp),fun i hi=>h (i+1) (by simp;omega)⟩
 ·rintro⟨h1,h2⟩ i hi
  cases i with
  | zero=>exact h1
  | succ i=>exact h2 i (by simpa using hi)
theorem regsOk_app (r:Int) (l m:List Int):regsOk r (l ++ m)↔regsOk r l/\regsOk r m:=by
 induction l with
 | nil=>simp[regsOk_nil]
 | cons x l ih=>rw[List.cons_append,regsOk_cons,regsOk_cons,ih];exact and_assoc.symm
theorem sameI_iff (x z:IrI):SameI x z↔x.op=z.op/\x.d=z.d/\x.a=z.a/\x.b=z.b/\x.n=z.n/\x.sym.toList=z.sym.toList/\x.args=z.args:=⟨fun ⟨a,b,c,d,e,f,g⟩=>⟨a,b,c,d,e,f,g⟩,fun ⟨a,b,c,d,e,f,g⟩=>⟨a,b,c,d,e,f,g⟩⟩
theorem regOk_0 (regs r:Int):regOk regs r 0=true↔r=0:=by simp[regOk]
theorem regOk_1 (regs r:Int):regOk regs r 1=true↔0<=r/\r<=regs-1:=by simp[regOk];omega
theorem regOk_2 (regs r:Int) (h:0<=regs):regOk regs r 2=true↔r=-1\/(0<=r/\r<=regs-1):=by simp[regOk];omega
theorem args_ok (regs:Int) (args:List Int):(∀ k,k<args.length->regOk regs (args.getD k 0) 1=true)↔regsOk regs args:=by
 unfold regsOk
 exact forall_congr' fun k=>imp_congr_right fun _=>regOk_1 _ _
theorem opt_reg (regs r:Int):regsOk regs (if r=-1 then [] else [r])↔r=-1\/(0<=r/\r<=regs-1):=by
 by_cases h:r=-1
 ·simp[h,regsOk_nil]
 ·rw[if_neg h,regsOk_cons,regsOk_nil];simp[h]
theorem args_nil (args:List Int):([]:List Int)=args↔args.length=0:=by
 rw[List.length_eq_zero_iff];exact eq_comm
theorem regsOk_simp (r:Int) (l:List Int):regsOk r l↔∀ k,k<l.length->0<=l[k]?.getD 0/\l[k]?.getD 0<=r-1:=by simp[regsOk]
def StepSame (sl:Nat) (regs:Int) (P:Int->Prop) (k:Nat) (x:IrI):Prop:=(SameI (wrI k x) x/\regsOk regs (usesL k x ++ setsL k x)/\fitsP sl P k x)↔(insOk sl regs x/\symOk0 x/\(x.op=11->0<=x.n)/\(x.op=12\/x.op=13->P x.n))
theorem step_same_1 (sl:Nat) (regs:Int) (hr:0<=regs) (P:Int->Prop) (x:IrI) (hx:x.op=1):StepSame sl regs P 1 x:=by
 obtain⟨op,d,a,b,n,sym,args⟩:=x
 simp only at hx
 subst hx
 unfold StepSame
 simp only[insOk,symOk0,fitsP,wrI,usesL,setsL,sameI_iff,regsOk_app,regsOk_cons,regsOk_nil,opt_reg,args_ok,show irTab.getD (Int.toNat 1) 0=33 from rfl,show (33:Int) % 4=1 from rfl,show (33:Int) / 4 % 4=0 from rfl,show (33:Int) / 16 % 2=0 from rfl,regOk_0,regOk_1,regOk_2 regs _ hr,numOk,args_nil]
 simp
 skip
 constructor
 ·intro h
  simp_all
  try omega
 ·intro h
  simp_all
  try omega
theorem step_same_2 (sl:Nat) (regs:Int) (hr:0<=regs) (P:Int->Prop) (x:IrI) (hx:x.op=2):StepSame sl regs P 2 x:=by
 obtain⟨op,d,a,b,n,sym,args⟩:=x
 simp only at hx
 subst hx
 unfold StepSame
 simp only[insOk,symOk0,fitsP,wrI,usesL,setsL,sameI_iff,regsOk_app,regsOk_cons,regsOk_nil,opt_reg,args_ok,show irTab.getD (Int.toNat 2) 0=5 from rfl,show (5:Int) % 4=1 from rfl,show (5:Int) / 4 % 4=1 from rfl,show (5:Int) / 16 % 2=0 from rfl,regOk_0,regOk_1,regOk_2 regs _ hr,numOk,args_nil]
 simp
 skip
 constructor
 ·intro h
  simp_all
  try omega
 ·intro h
  simp_all
  try omega
theorem step_same_3 (sl:Nat) (regs:Int) (hr:0<=regs) (P:Int->Prop) (x:IrI) (hx:x.op=3):StepSame sl regs P 3 x:=by
 obtain⟨op,d,a,b,n,sym,args⟩:=x
 simp only at hx
 subst hx
 unfold StepSame
 simp only[insOk,symOk0,fitsP,wrI,usesL,setsL,sameI_iff,regsOk_app,regsOk_cons,regsOk_nil,opt_reg,args_ok,show irTab.getD (Int.toNat 3) 0=53 from rfl,show (53:Int) % 4=1 from rfl,show (53:Int) / 4 % 4=1 from rfl,show (53:Int) / 16 % 2=1 from rfl,regOk_0,regOk_1,regOk_2 regs _ hr,numOk,args_nil]
 simp
 skip
 constructor
 ·intro h
  simp_all
  try omega
 ·intro h
  simp_all
  try omega
theorem step_same_4 (sl:Nat) (regs:Int) (hr:0<=regs) (P:Int->Prop) (x:IrI) (hx:x.op=4):StepSame sl regs P 4 x:=by
 obtain⟨op,d,a,b,n,sym,args⟩:=x
 simp only at hx
 subst hx
 unfold StepSame
 simp only[insOk,symOk0,fitsP,wrI,usesL,setsL,sameI_iff,regsOk_app,regsOk_cons,regsOk_nil,opt_reg,args_ok,show irTab.getD (Int.toNat 4) 0=37 from rfl,show (37:Int) % 4=1 from rfl,show (37:Int) / 4 % 4=1 from rfl,show (37:Int) / 16 % 2=0 from rfl,regOk_0,regOk_1,regOk_2 regs _ hr,numOk,args_nil]
 simp
 skip
 constructor
 ·intro h
  simp_all
  try omega
 ·intro h
  simp_all
  try omega
theorem step_same_5 (sl:Nat) (regs:Int) (hr:0<=regs) (P:Int->Prop) (x:IrI) (hx:x.op=5):StepSame sl regs P 5 x:=by
 obtain⟨op,d,a,b,n,sym,args⟩:=x
 simp only at hx
 subst hx
 unfold StepSame
 simp only[insOk,symOk0,fitsP,wrI,usesL,setsL,sameI_iff,regsOk_app,regsOk_cons,regsOk_nil,opt_reg,args_ok,show irTab.getD (Int.toNat 5) 0=37 from rfl,show (37:Int) % 4=1 from rfl,show (37:Int) / 4 % 4=1 from rfl,show (37:Int) / 16 % 2=0 from rfl,regOk_0,regOk_1,regOk_2 regs _ hr,numOk,args_nil]
 simp
 skip
 constructor
 ·intro h
  simp_all
  try omega
 ·intro h
  simp_all
  try omega
theorem step_same_6 (sl:Nat) (regs:Int) (hr:0<=regs) (P:Int->Prop) (x:IrI) (hx:x.op=6):StepSame sl regs P 6 x:=by
 obtain⟨op,d,a,b,n,sym,args⟩:=x
 simp only at hx
 subst hx
 unfold StepSame
 simp only[insOk,symOk0,fitsP,wrI,usesL,setsL,sameI_iff,regsOk_app,regsOk_cons,regsOk_nil,opt_reg,args_ok,show irTab.getD (Int.toNat 6) 0=52 from rfl,show (52:Int) % 4=0 from rfl,show (52:Int) / 4 % 4=1 from rfl,show (52:Int) / 16 % 2=1 from rfl,regOk_0,regOk_1,regOk_2 regs _ hr,numOk,args_nil]
 simp
 skip
 constructor
 ·intro h
  simp_all
  try omega
 ·intro h
  simp_all
  try omega
theorem step_same_7 (sl:Nat) (regs:Int) (hr:0<=regs) (P:Int->Prop) (x:IrI) (hx:x.op=7):StepSame sl regs P 7 x:=by
 obtain⟨op,d,a,b,n,sym,args⟩:=x
 simp only at hx
 subst hx
 unfold StepSame
 simp only[insOk,symOk0,fitsP,wrI,usesL,setsL,sameI_iff,regsOk_app,regsOk_cons,regsOk_nil,opt_reg,args_ok,show irTab.getD (Int.toNat 7) 0=97 from rfl,show (97:Int) % 4=1 from rfl,show (97:Int) / 4 % 4=0 from rfl,show (97:Int) / 16 % 2=0 from rfl,regOk_0,regOk_1,regOk_2 regs _ hr,numOk,args_nil]
 simp
 skip
 constructor
 ·intro h
  simp_all
  try omega
 ·intro h
  simp_all
  try omega
theorem step_same_8 (sl:Nat) (regs:Int) (hr:0<=regs) (P:Int->Prop) (x:IrI) (hx:x.op=8):StepSame sl regs P 8 x:=by
 obtain⟨op,d,a,b,n,sym,args⟩:=x
 simp only at hx
 subst hx
 unfold StepSame
 simp only[insOk,symOk0,fitsP,wrI,usesL,setsL,sameI_iff,regsOk_app,regsOk_cons,regsOk_nil,opt_reg,args_ok,show irTab.getD (Int.toNat 8) 0=33 from rfl,show (33:Int) % 4=1 from rfl,show (33:Int) / 4 % 4=0 from rfl,show (33:Int) / 16 % 2=0 from rfl,regOk_0,regOk_1,regOk_2 regs _ hr,numOk,args_nil]
 simp
 skip
 constructor
 ·intro h
  simp_all
  try omega
 ·intro h
  simp_all
  try omega
theorem step_same_9 (sl:Nat) (regs:Int) (hr:0<=regs) (P:Int->Prop) (x:IrI) (hx:x.op=9):StepSame sl regs P 9 x:=by
 obtain⟨op,d,a,b,n,sym,args⟩:=x
 simp only at hx
 subst hx
 unfold StepSame
 simp only[insOk,symOk0,fitsP,wrI,usesL,setsL,sameI_iff,regsOk_app,regsOk_cons,regsOk_nil,opt_reg,args_ok,show irTab.getD (Int.toNat 9) 0=194 from rfl,show (194:Int) % 4=2 from rfl,show (194:Int) / 4 % 4=0 from rfl,show (194:Int) / 16 % 2=0 from rfl,regOk_0,regOk_1,regOk_2 regs _ hr,numOk,args_nil]
 simp
 simp only[regsOk_simp]
 constructor
 ·intro h
  grind
  try omega
 ·intro h
  simp_all
  try omega
theorem step_same_10 (sl:Nat) (regs:Int) (hr:0<=regs) (P:Int->Prop) (x:IrI) (hx:x.op=10):StepSame sl regs P 10 x:=by
 obtain⟨op,d,a,b,n,sym,args⟩:=x
 simp only at hx
 subst hx
 unfold StepSame
 simp only[insOk,symOk0,fitsP,wrI,usesL,setsL,sameI_iff,regsOk_app,regsOk_cons,regsOk_nil,opt_reg,args_ok,show irTab.getD (Int.toNat 10) 0=134 from rfl,show (134:Int) % 4=2 from rfl,show (134:Int) / 4 % 4=1 from rfl,show (134:Int) / 16 % 2=0 from rfl,regOk_0,regOk_1,regOk_2 regs _ hr,numOk,args_nil]
 simp
 simp only[regsOk_simp]
 constructor
 ·intro h
  grind
  try omega
 ·intro h
  simp_all
  try omega
theorem step_same_11 (sl:Nat) (regs:Int) (hr:0<=regs) (P:Int->Prop) (x:IrI) (hx:x.op=11):StepSame sl regs P 11 x:=by
 obtain⟨op,d,a,b,n,sym,args⟩:=x
 simp only at hx
 subst hx
 unfold StepSame
 simp only[insOk,symOk0,fitsP,wrI,usesL,setsL,sameI_iff,regsOk_app,regsOk_cons,regsOk_nil,opt_reg,args_ok,show irTab.getD (Int.toNat 11) 0=32 from rfl,show (32:Int) % 4=0 from rfl,show (32:Int) / 4 % 4=0 from rfl,show (32:Int) / 16 % 2=0 from rfl,regOk_0,regOk_1,regOk_2 regs _ hr,numOk,args_nil]
 simp
 skip
 constructor
 ·intro h
  simp_all
  try omega
 ·intro h
  simp_all
  try omega
theorem step_same_12 (sl:Nat) (regs:Int) (hr:0<=regs) (P:Int->Prop) (x:IrI) (hx:x.op=12):StepSame sl regs P 12 x:=by
 obtain⟨op,d,a,b,n,sym,args⟩:=x
 simp only at hx
 subst hx
 unfold StepSame
 simp only[insOk,symOk0,fitsP,wrI,usesL,setsL,sameI_iff,regsOk_app,regsOk_cons,regsOk_nil,opt_reg,args_ok,show irTab.getD (Int.toNat 12) 0=32 from rfl,show (32:Int) % 4=0 from rfl,show (32:Int) / 4 % 4=0 from rfl,show (32:Int) / 16 % 2=0 from rfl,regOk_0,regOk_1,regOk_2 regs _ hr,numOk,args_nil]
 simp
 skip
 constructor
 ·intro h
  simp_all
  try omega
 ·intro h
  simp_all
  try omega
theorem step_same_13 (sl:Nat) (regs:Int) (hr:0<=regs) (P:Int->Prop) (x:IrI) (hx:x.op=13):StepSame sl regs P 13 x:=by
 obtain⟨op,d,a,b,n,sym,args⟩:=x
 simp only at hx
 subst hx
 unfold StepSame
 simp only[insOk,symOk0,fitsP,wrI,usesL,setsL,sameI_iff,regsOk_app,regsOk_cons,regsOk_nil,opt_reg,args_ok,show irTab.getD (Int.toNat 13) 0=116 from rfl,show (116:Int) % 4=0 from rfl,show (116:Int) / 4 % 4=1 from rfl,show (116:Int) / 16 % 2=1 from rfl,regOk_0,regOk_1,regOk_2 regs _ hr,numOk,args_nil]
 simp
 skip
 constructor
 ·intro h
  simp_all
  try omega
 ·intro h
  simp_all
  try omega
theorem step_same_14 (sl:Nat) (regs:Int) (hr:0<=regs) (P:Int->Prop) (x:IrI) (hx:x.op=14):StepSame sl regs P 14 x:=by
 obtain⟨op,d,a,b,n,sym,args⟩:=x
 simp only at hx
 subst hx
 unfold StepSame
 simp only[insOk,symOk0,fitsP,wrI,usesL,setsL,sameI_iff,regsOk_app,regsOk_cons,regsOk_nil,opt_reg,args_ok,show irTab.getD (Int.toNat 14) 0=8 from rfl,show (8:Int) % 4=0 from rfl,show (8:Int) / 4 % 4=2 from rfl,show (8:Int) / 16 % 2=0 from rfl,regOk_0,regOk_1,regOk_2 regs _ hr,numOk,args_nil]
 simp
 skip
 constructor
 ·intro h
  simp_all
  try omega
 ·intro h
  simp_all
  try omega
theorem step_same_15 (sl:Nat) (regs:Int) (hr:0<=regs) (P:Int->Prop) (x:IrI) (hx:x.op=15):StepSame sl regs P 15 x:=by
 obtain⟨op,d,a,b,n,sym,args⟩:=x
 simp only at hx
 subst hx
 unfold StepSame
 simp only[insOk,symOk0,fitsP,wrI,usesL,setsL,sameI_iff,regsOk_app,regsOk_cons,regsOk_nil,opt_reg,args_ok,show irTab.getD (Int.toNat 15) 0=52 from rfl,show (52:Int) % 4=0 from rfl,show (52:Int) / 4 % 4=1 from rfl,show (52:Int) / 16 % 2=1 from rfl,regOk_0,regOk_1,regOk_2 regs _ hr,numOk,args_nil]
 simp
 skip
 constructor
 ·intro h
  simp_all
  try omega
 ·intro h
  simp_all
  try omega
theorem step_same_16 (sl:Nat) (regs:Int) (hr:0<=regs) (P:Int->Prop) (x:IrI) (hx:x.op=16):StepSame sl regs P 16 x:=by
 obtain⟨op,d,a,b,n,sym,args⟩:=x
 simp only at hx
 subst hx
 unfold StepSame
 simp only[insOk,symOk0,fitsP,wrI,usesL,setsL,sameI_iff,regsOk_app,regsOk_cons,regsOk_nil,opt_reg,args_ok,show irTab.getD (Int.toNat 16) 0=36 from rfl,show (36:Int) % 4=0 from rfl,show (36:Int) / 4 % 4=1 from rfl,show (36:Int) / 16 % 2=0 from rfl,regOk_0,regOk_1,regOk_2 regs _ hr,numOk,args_nil]
 simp
 skip
 constructor
 ·intro h
  simp_all
  try omega
 ·intro h
  simp_all
  try omega
theorem step_same (sl:Nat) (regs:Int) (hr:0<=regs) (P:Int->Prop) (x:IrI) (hx:1<=x.op/\x.op<=16):StepSame sl regs P x.op.toNat x:=by
 have h:x.op=1\/x.op=2\/x.op=3\/x.op=4\/x.op=5\/x.op=6\/x.op=7\/x.op=8\/x.op=9\/x.op=10\/x.op=11\/x.op=12\/x.op=13\/x.op=14\/x.op=15\/x.op=16:=by omega
 rcases h with h | h | h | h | h | h | h | h | h | h | h | h | h | h | h | h
 ·have e:x.op.toNat=1:=by rw[h];rfl
  rw[e];exact step_same_1 sl regs hr P x h
 ·have e:x.op.toNat=2:=by rw[h];rfl
  rw[e];exact step_same_2 sl regs hr P x h
 ·have e:x.op.toNat=3:=by rw[h];rfl
  rw[e];exact step_same_3 sl regs hr P x h
 ·have e:x.op.toNat=4:=by rw[h];rfl
  rw[e];exact step_same_4 sl regs hr P x h
 ·have e:x.op.toNat=5:=by rw[h];rfl
  rw[e];exact step_same_5 sl regs hr P x h
 ·have e:x.op.toNat=6:=by rw[h];rfl
  rw[e];exact step_same_6 sl regs hr P x h
 ·have e:x.op.toNat=7:=by rw[h];rfl
  rw[e];exact step_same_7 sl regs hr P x h
 ·have e:x.op.toNat=8:=by rw[h];rfl
  rw[e];exact step_same_8 sl regs hr P x h
 ·have e:x.op.toNat=9:=by rw[h];rfl
  rw[e];exact step_same_9 sl regs hr P x h
 ·have e:x.op.toNat=10:=by rw[h];rfl
  rw[e];exact step_same_10 sl regs hr P x h
 ·have e:x.op.toNat=11:=by rw[h];rfl
  rw[e];exact step_same_11 sl regs hr P x h
 ·have e:x.op.toNat=12:=by rw[h];rfl
  rw[e];exact step_same_12 sl regs hr P x h
 ·have e:x.op.toNat=13:=by rw[h];rfl
  rw[e];exact step_same_13 sl regs hr P x h
 ·have e:x.op.toNat=14:=by rw[h];rfl
  rw[e];exact step_same_14 sl regs hr P x h
 ·have e:x.op.toNat=15:=by rw[h];rfl
  rw[e];exact step_same_15 sl regs hr P x h
 ·have e:x.op.toNat=16:=by rw[h];rfl
  rw[e];exact step_same_16 sl regs hr P x h
theorem step_ok (f:IrF) (hr:0<=f.regs) (x:IrI):StepOk f x↔(insOk f.slots.length f.regs x/\symOk0 x/\(x.op=11->0<=x.n)/\(x.op=12\/x.op=13->∃ i,i<f.code.length/\isLab f.code x.n i)):=by
 constructor
 ·rintro⟨h1,h2,h3,h4⟩
  exact (step_same _ _ hr _ x h1).1 ⟨h2,h3,h4⟩
 ·intro h
  have:=(step_same _ _ hr (fun n=>∃ i,i<f.code.length/\isLab f.code n i) x h.1.1).2 h
  exact⟨h.1.1,this.1,this.2.1,this.2.2⟩
theorem rr_fun (f:IrF):rrOk f↔funOk f:=by
 unfold rrOk funOk slotsOk
 refine and_congr_right fun hh=>and_congr_right fun _=>?_
 have hr:0<=f.regs:=by have:=hh.1;have:=hh.2.1;omega
 rw[uniq_labs]
 constructor
 ·rintro⟨h1,h2⟩
  refine⟨fun i hi=>?_,fun i hi=>?_⟩
  ·have:=(step_ok f hr _).1 (h2 i hi)
   exact⟨this.1,this.2.1⟩
  ·have:=(step_ok f hr _).1 (h2 i hi)
   exact⟨fun e=>⟨this.2.2.1 e,h1 i hi e⟩,fun e=>(has_lab _ _).1 (this.2.2.2 e)⟩
 ·rintro⟨h1,h2⟩
  exact⟨fun i hi e=>((h2 i hi).1 e).2,fun i hi=>(step_ok f hr _).2 ⟨(h1 i hi).1,(h1 i hi).2,fun e=>((h2 i hi).1 e).1,fun e=>(has_lab _ _).2 ((h2 i hi).2 e)⟩⟩
theorem setsL_len (k:Nat) (x:IrI):(setsL k x).length<=1:=by
 unfold setsL
 split <;> first | simp | (split <;> simp)
theorem usesL_len (k:Nat) (x:IrI) (h:x.args.length<=8):(usesL k x).length<=10:=by
 unfold usesL
 split <;> first | (simp;done) | (simp;omega) | (split <;> simp) | omega
def Cont (N:Nat->List Int) (P:Nat->Nat->Prop) (i:Nat) (q:List Int) (b:Nat):Prop:=∀ j:Nat,(N j).length<=b/\∀ x:Int,x∈N j↔(∃ p:Nat,x=(p:Int)/\p<i/\P p j)\/(x=(i:Int)/\(j:Int)∈q)
theorem Cont.nil (P:Nat->Nat->Prop):Cont (fun _=>[]) P 0 [] 0:=fun j=>⟨Nat.le_refl _,fun x=>by simp⟩
theorem Cont.put {N:Nat->List Int} {P:Nat->Nat->Prop} {i:Nat} {q:List Int} {b:Nat} (h:Cont N P i q b) (j0:Nat):Cont (W.upd N j0 (N j0 ++ [(i:Int)])) P i (q ++ [(j0:Int)]) (b+1):=by
 intro j
 obtain⟨h1,h2⟩:=h j
 by_cases e:j=j0
 ·subst e
  rw[W.upd_at]
  refine⟨by simp;exact h1,fun x=>?_⟩
  rw[List.mem_append,h2,List.mem_singleton,List.mem_append,List.mem_singleton]
  constructor
  ·rintro ((a | ⟨a,b⟩) | a)
   ·exact .inl a
   ·exact .inr ⟨a,.inl b⟩
   ·exact .inr ⟨a,.inr rfl⟩
  ·rintro (a | ⟨a,_⟩)
   ·exact .inl (.inl a)
   ·exact .inr a
 ·rw[W.upd_ne e]
  refine⟨by omega,fun x=>?_⟩
  rw[h2,List.mem_append,List.mem_singleton]
  have:¬ (j:Int)=(j0:Int):=by omega
  simp[this]
theorem Cont.next {N:Nat->List Int} {P:Nat->Nat->Prop} {i:Nat} {q:List Int} {b b':Nat} (h:Cont N P i q b) (hq:∀ j:Nat,(j:Int)∈q↔P i j) (hb:b<=b'):Cont N P (i+1) [] b':=by
 intro j
 obtain⟨h1,h2⟩:=h j
 refine⟨by omega,fun x=>?_⟩
 rw[h2]
 constructor
 ·rintro (⟨p,a,b,c⟩ | ⟨a,b⟩)
  ·exact .inl ⟨p,a,by omega,c⟩
  ·exact .inl ⟨i,a,by omega,(hq j).1 b⟩
 ·rintro (⟨p,a,b,c⟩ | ⟨_,b⟩)
  ·by_cases e:p=i
   ·subst e;exact .inr ⟨a,(hq j).2 c⟩
   ·exact .inl ⟨p,a,by omega,c⟩
  ·cases b
def Sets (ss:List Int) (P:Nat->Int->Prop) (i:Nat) (q:List Int):Prop:=(∀ p,p<i->∀ r:Nat,ss.getD p (-1)=(r:Int)↔P p (r:Int))/\(∀ p,i<p->ss.getD p (-1)=-1)/\∀ r:Nat,ss.getD i (-1)=(r:Int)↔(r:Int)∈q
theorem Sets.nil (n:Nat) (P:Nat->Int->Prop):Sets (List.replicate n (-1)) P 0 []:=by
 have e:∀ p:Nat,(List.replicate n (-1:Int)).getD p (-1)=-1:=fun p=>by rw[List.getD_eq_getElem?_getD,List.getElem?_replicate];split <;> rfl
 refine⟨fun p hp=>absurd hp (Nat.not_lt_zero _),fun p _=>e p,fun r=>?_⟩
 rw[e];simp
theorem Sets.next {ss:List Int} {P:Nat->Int->Prop} {i:Nat} {q:List Int} (h:Sets ss P i q) (hq:∀ r:Nat,(r:Int)∈q↔P i (r:Int)):Sets ss P (i+1) []:=by
 refine⟨fun p hp r=>?_,fun p hp=>h.2.1 p (by omega),fun r=>?_⟩
 ·by_cases e:p=i
  ·subst e;rw[h.2.2,hq]
  ·exact h.1 p (by omega) r
 ·rw[h.2.1 (i+1) (by omega)];simp
theorem Sets.put {ss:List Int} {P:Nat->Int->Prop} {i:Nat} (h:Sets ss P i []) (hi:i<ss.length) (d:Int):Sets (ss.set i d) P i [d]:=by
 have e:∀ p,p≠i->(ss.set i d).getD p (-1)=ss.getD p (-1):=fun p hp=>by rw[List.getD_eq_getElem?_getD,List.getElem?_set_ne (fun q=>hp q.symm),List.getD_eq_getElem?_getD]
 refine⟨fun p hp r=>by rw[e p (by omega)];exact h.1 p hp r,fun p hp=>by rw[e p (by omega)];exact h.2.1 p hp,fun r=>?_⟩
 rw[List.getD_eq_getElem?_getD,List.getElem?_set_self hi,List.mem_singleton]
 exact⟨fun q=>q.symm,fun q=>q.symm⟩
end Go.Proofs.YtcgfgmlfbgbkfaaGreatDoor.Pl
namespace Go.Proofs.YtcgfgmlfbgbkfaaGreatDoor.W
open Go.RowKit
structure LvF (code:List Pl.IrI) (i:Nat) (B U S:Gd) (ss:List Int):Prop where
 b:Pl.Cont B.N (Pl.Nx code) i [] (2*i)
 u:Pl.Cont U.N (fun p r=>Pl.Us code p (r:Int)) i [] (10*i)
 s:Pl.Cont S.N (fun p r=>Pl.Se code p (r:Int)) i [] i
 z:Pl.Sets ss (Pl.Se code) i []
def NlSaid (w:World) (f:Pl.IrF) (R:Nat) (e:Ending) (w':World):Prop:=∃ (gl gb gs gu gt:Nat) (B U S:Gd) (ss:List Int) (T:Nat->Nat),e=.returned (.pointer (some ⟨gl,0,none⟩))/\Lv w w' gl gb gs gu gt f.code.length R B U S ss T/\LvF f.code f.code.length B U S ss
theorem Gd.len_L (d:Gd) (i:Nat):(d.L i).length=(d.N i).length:=by simp[Gd.L]
theorem take_succ_getD {l:List Int} {k:Nat} (h:k<l.length):l.take (k+1)=l.take k ++ [l.getD k 0]:=by
 rw[List.take_add_one,List.getElem?_eq_getElem h,List.getD_eq_getElem?_getD,List.getElem?_eq_getElem h];rfl
theorem own_nx {lo:Nat} {e:TypeId} {w:World} {g n c:Nat} {zs:List Int} (h:w.ownsRow lo e 1 (.slice (some ⟨g,0,none⟩) n c) n (zs.map (Value.int .i64))) {k:Nat} (hk:k<n) (hz:zs.length=n):w.cell? ⟨g,k,none⟩=some (.int .i64 (zs.getD k 0)):=by
 rw[h.cellAt k (by omega),List.getElem?_map,List.getD_eq_getElem?_getD,List.getElem?_eq_getElem (by omega)];rfl
set_option maxRecDepth 100000 in
theorem newLiveness_is {W0:World} {gr gm nm:Nat} {f:Pl.IrF} {v s:SV} {S0:Value} {Y:Nat->SV} {lab:Int->Option Int} {P:Value} {ps:List Int} {room:Int} (w:World) (h:Rt W0 gr gm nm f v s S0 (stepsV f Y f.code.length) lab P ps room w) (hf:Pl.funOk f) (hl:Pl.LabK f.code f.code.length lab) (hwf:∀ i,i<f.code.length->(Lit.int .i64 (f.code.getD i Pl.IrI.zero).n).wf=true) (hal:∀ i,i<f.code.length->Row .i64 0 w (Y i).a (Y i).len (Y i).cap (f.code.getD i Pl.IrI.zero).args) (R:Nat) (hR:f.regs=R):Calls Tryz.prog 62 #[.pointer (some ⟨gr,0,none⟩)] w fun e w'=>NlSaid w f R e w':=by
 obtain⟨n,hn⟩:∃ n,n=f.code.length:=⟨_,rfl⟩
 have hn8:1<=n/\n<=8000:=by rw[hn];exact hf.1.2.2.2.1
 have hR2:R<=2000:=by have:=hf.1.2.1.2;omega
 have hsl:(stepsV f Y f.code.length).length=n:=by rw[hn];simp[stepsV]
 have hst:=h.st
 rw[hsl]at hst
 obtain⟨g,c,rfl,hlg,hgl⟩:=hst.form (by omega)
 have c5:w.cell? ⟨gr,5,none⟩=some (.slice (some ⟨g,0,none⟩) n c):=h.cell 5
 have c2:w.cell? ⟨gr,2,none⟩=some (.int .i64 (R:Int)):=by rw[<- hR];exact h.cell 2
 have hgr:=block_lt_of_cell c5
 have HST:Hid (∀ u:World,Below w.heap.size w u->u.cell? ⟨gr,5,none⟩=some (.slice (some ⟨g,0,none⟩) n c)/\∀ i,i<n->u.cell? ⟨g,i,none⟩=some (stV (f.code.getD i Pl.IrI.zero).op.toNat (f.code.getD i Pl.IrI.zero) (Y i))):=fun u hu=>by
  refine⟨(hu.cell (p:=⟨gr,5,none⟩) hgr).trans c5,fun i hi=>?_⟩
  rw[hu.cell (p:=⟨g,i,none⟩) hgl,hst.cellAt i (by omega)]
  unfold stepsV
  rw[List.getElem?_map,List.getElem?_range (by omega)];rfl
 have HNX:Hid (∀ (u:World) (i:Nat),Below w.heap.size w u->i<n->Calls Tryz.prog 94 #[.pointer (some ⟨gr,0,none⟩),.int .i64 (i:Int)] u fun e w'=>NxSaid u f.code i e w'):=fun u i hu hi=>nextOf_is (h.keep hu) hf hl hwf i (by omega)
 have hrr:=(Pl.rr_fun f).2 hf
 have HSO:Hid (∀ i,i<n->Pl.StepOk f (f.code.getD i Pl.IrI.zero)):=fun i hi=>hrr.2.2.2 i (by omega)
 have HAR:Hid (∀ i,i<n->(f.code.getD i Pl.IrI.zero).args.length<=8/\Row .i64 0 w (Y i).a (Y i).len (Y i).cap (f.code.getD i Pl.IrI.zero).args):=fun i hi=>⟨(hf.2.2.1 i (by omega)).1.2.2.2.2.2.1,hal i (by omega)⟩
 have HF:Hid (Pl.funOk f/\n=f.code.length/\f.regs=R):=⟨hf,hn,hR⟩
 clear h hf hl hwf hal hst hsl hrr hlg
 go_enter Tryz.func62,Tryz.ntmps62
 go_upto_region 1 with fail
 refine nl1_is gr g n c R w c5 c2 hn8 hR2 _ ?_
 intro s13 s14 s15 s16 s17 s18 s19 s20 s21 s22 s23 s24 s25 s26 s27 s28 s29 s30 s31 s32 s33 s34 s35 s36 s37 s38 s39 gl gb gs gu gt T1 y1 hL1
 have HL1:Hid (Lv w y1 gl gb gs gu gt n R Gd.nil Gd.nil Gd.nil (List.replicate n (-1)) T1):=hL1
 have d5:=(HST.out y1 hL1.bel).1
 clear hL1 c5 c2 hgr hgl
 go_wp2_with fail
 go_loopw [45] (fun t wr=>∃ (i:Nat),i<=n/\t=.int .i64 (i:Int)/\Hid (∃ B U S ss T,Lv w wr gl gb gs gu gt n R B U S ss T/\LvF f.code i B U S ss)) (fun t _=>n-(intOf t).toNat)
 case atStart=>exact⟨0,Nat.zero_le _,rfl,Gd.nil,Gd.nil,Gd.nil,_,T1,HL1.out,⟨Pl.Cont.nil _,Pl.Cont.nil _,Pl.Cont.nil _,Pl.Sets.nil _ _⟩⟩
 case round=>
  obtain⟨i,hi,rfl,HX⟩:=hrel
  obtain⟨B,U,S,ss,T,hLv,hLF⟩:=HX.out
  have HV:Hid (Lv w wr gl gb gs gu gt n R B U S ss T/\LvF f.code i B U S ss):=⟨hLv,hLF⟩
  clear HX hLv hLF
  by_cases hlt:i<n
  rotate_left
  ·have hii:¬ ((i:Int)<(n:Int)):=by omega
   have hie:i=f.code.length:=by have:=HF.out.2.1;omega
   have HE:Hid (NlSaid w f R (.returned (.pointer (some ⟨gl,0,none⟩))) wr):=by
    obtain⟨h1,h2⟩:=HV.out
    have e:=HF.out.2.1
    rw[e]at h1
    rw[hie]at h2
    exact⟨gl,gb,gs,gu,gt,B,U,S,ss,T,rfl,h1,h2⟩
   clear hie
   go_wp2_with fail
   go_ret
   exact HE.out
  have hii:(i:Int)<(n:Int):=by omega
  have hi8:(i:Int)<=8000:=by omega
  obtain⟨x,hx⟩:∃ x,x=f.code.getD i Pl.IrI.zero:=⟨_,rfl⟩
  have cz:=(HST.out wr HV.out.1.bel).2 i hlt
  rw[<- hx]at cz
  have hop:=(HSO.out i hlt).op
  rw[<- hx]at hop
  have hrow:=(HAR.out i hlt).2
  have har8:=(HAR.out i hlt).1
  rw[<- hx]at hrow har8
  have hylen:(Y i).len<=1048576:=by have:=hrow.1;omega
  obtain⟨TT,cc,FU,rU,hvU,hmU,hfU,hcU⟩:=says_uses (x.op.toNat) (by omega) x (Y i) w hrow hylen
  obtain⟨T',c',FSq,rS,hvS,hmS,hfS,hcS⟩:=says_sets (x.op.toNat) (by omega) x (Y i) w hrow hylen
  rw[hvU]at hvS
  cases hvS
  rw[hvU]at cz
  obtain⟨ul,hul⟩:∃ ul,ul=Pl.usesL x.op.toNat x:=⟨_,rfl⟩
  obtain⟨sl,hsl⟩:∃ sl,sl=Pl.setsL x.op.toNat x:=⟨_,rfl⟩
  have hul10:ul.length<=10:=by rw[hul];exact Pl.usesL_len _ _ har8
  have hsl1:sl.length<=1:=by rw[hsl];exact Pl.setsL_len _ _
  have HRG:Hid (∀ r∈ul ++ sl,0<=r/\r<(R:Int)):=fun r hr=>by
   have h1:=(HSO.out i hlt).regs
   rw[<- hx,<- hul,<- hsl]at h1
   obtain⟨q,hq,rfl⟩:=List.getElem_of_mem hr
   have h2:=h1 q hq
   rw[List.getD_eq_getElem?_getD,List.getElem?_eq_getElem hq]at h2
   have:=HF.out.2.2
   simp only[Option.getD_some]at h2
   omega
  have HUS:Hid ((∀ r:Nat,(r:Int)∈ul↔Pl.Us f.code i (r:Int))/\∀ r:Nat,(r:Int)∈sl↔Pl.Se f.code i (r:Int)):=by
   rw[hul,hsl,hx];exact⟨fun r=>Iff.rfl,fun r=>Iff.rfl⟩
  have HCU:Hid (∀ u:World,Below w.heap.size w u->Calls Tryz.prog FU #[rU] u fun e u'=>Ints u.heap.size ul e u'/\Below u.heap.size u u'):=fun u hu=>by rw[hul];exact hcU u hu
  have HCS:Hid (∀ u:World,Below w.heap.size w u->Calls Tryz.prog FSq #[rS] u fun e u'=>Ints u.heap.size sl e u'/\Below u.heap.size u u'):=fun u hu=>by rw[hsl];exact hcS u hu
  clear hcU hcS hrow har8 hylen hop hul hsl hvU hx
  go_wp2_with fail
  refine (HNX.out wr i HV.out.1.bel hlt).mono ?_
  rintro e u1 ⟨⟨ns,hns,a1,c1,rfl,o1⟩,e1⟩
  have HNS:Hid (Pl.NxL f.code i ns):=hns
  have hns2:ns.length<=2:=hns.1
  have H1:Hid (Lv w u1 gl gb gs gu gt n R B U S ss (newT T wr.heap.size 9)/\u1.ownsRow w.heap.size 108 1 (.slice a1 ns.length c1) ns.length (ns.map (Value.int .i64))/\∀ q,(Value.slice a1 ns.length c1).ownBlock=some q->newT T wr.heap.size 9 q=9):=⟨(HV.out.1.tag fun q hq=>newT_old hq).later e1,own_lowL o1 HV.out.1.bel.size,fun q hq=>newT_new (o1.lt q hq).1⟩
  clear hns o1 e1
  go_wp2_with fail
  go_loopw [55] (fun t wr=>∃ (k:Nat),k<=ns.length/\t=.int .i64 (k:Int)/\Hid (∃ B2 T2,Lv w wr gl gb gs gu gt n R B2 U S ss T2/\Pl.Cont B2.N (Pl.Nx f.code) i (ns.take k) (2*i+k)/\wr.ownsRow w.heap.size 108 1 (.slice a1 ns.length c1) ns.length (ns.map (Value.int .i64))/\∀ q,(Value.slice a1 ns.length c1).ownBlock=some q->T2 q=9)) (fun t _=>ns.length-(intOf t).toNat)
  case atStart=>exact⟨0,Nat.zero_le _,rfl,B,_,H1.out.1,HV.out.2.b,H1.out.2⟩
  case round=>
   obtain⟨k,hk,rfl,HK⟩:=hrel
   obtain⟨B2,T2,hL2,hC2,hO2,hT2⟩:=HK.out
   have HK2:Hid (Lv w wr gl gb gs gu gt n R B2 U S ss T2/\Pl.Cont B2.N (Pl.Nx f.code) i (ns.take k) (2*i+k)/\wr.ownsRow w.heap.size 108 1 (.slice a1 ns.length c1) ns.length (ns.map (Value.int .i64))/\∀ q,(Value.slice a1 ns.length c1).ownBlock=some q->T2 q=9):=⟨hL2,hC2,hO2,hT2⟩
   clear hL2 hC2 hT2 HK
   by_cases hkl:k<ns.length
   ·have hki:(k:Int)<(ns.length:Int):=by omega
    obtain⟨gx,cx,hv,_,hgx⟩:=hO2.form (by omega)
    injection hv with hv1 hv2 hv3
    subst hv1 hv3
    have cn:=own_nx hO2 hkl rfl
    obtain⟨j,hj0,hjx⟩:=(HNS.out.2 (ns.getD k 0)).1 (by rw[List.getD_eq_getElem?_getD,List.getElem?_eq_getElem hkl];exact List.getElem_mem _)
    have hj:j<n:=by have:=Pl.nx_lt HF.out.1 (by have:=HF.out.2.1;omega) hjx;have:=HF.out.2.1;omega
    have HTK:Hid (ns.take (k+1)=ns.take k ++ [(j:Int)]):=by rw[<- hj0];exact take_succ_getD hkl
    rw[hj0]at cn
    clear hj0 hjx hO2
    go_upto_region 9 with fail
    refine nl9_is HK2.out.1 j hj (by omega) (i:Int) (by rw[Gd.len_L];have:=(HK2.out.2.1 j).1;omega) _ _ _ _ _ _ _ _ _ _ _ _ _ _ _ _ _ _ _ _ _ _ _ _ _ _ _ _ _ _ _ _ _ _ _ _ _ _ _ _ _ _ _ _ _ _ _ _ _ _ _ _ _ _ _ _ _ _ _ _ _ _ _ _ _ _ _ _ _ _ _ _ _ _ _ _ _ _ _ _ _ _ _ _ _ _ _ _ _ _ _ _ _ _ _ _ _ _ _ _ _ _ _ _ _ _ _ _ _ _ _ _ _ _ _ _ _ _ _ _ _ _ _ _ _ _ _ _ _ _ _ ?_
    intro s59 s60 s61 s62 s63 s64 s65 s66 s67 s68 s69 s70 s71 s72 s73 s74 g' c' T3 y3 hL3 hKp
    have HN:Hid (∃ B2 T2,Lv w y3 gl gb gs gu gt n R B2 U S ss T2/\Pl.Cont B2.N (Pl.Nx f.code) i (ns.take (k+1)) (2*i+(k+1))/\y3.ownsRow w.heap.size 108 1 (.slice (some ⟨gx,0,none⟩) ns.length c1) ns.length (ns.map (Value.int .i64))/\∀ q,(Value.slice (some ⟨gx,0,none⟩) ns.length c1).ownBlock=some q->T2 q=9):=by
     refine⟨_,T3,hL3,?_,own_eqL HK2.out.2.2.1 fun q hq=>?_,fun q hq=>?_⟩
     ·rw[HTK.out];exact HK2.out.2.1.put j
     ·exact (hKp.2 q (HK2.out.2.2.1.lt q hq).2).2 (HK2.out.2.2.2 q hq)
     ·rw[(hKp.2 q (HK2.out.2.2.1.lt q hq).2).1];exact HK2.out.2.2.2 q hq
    clear hL3 hKp HTK HK2
    go_wp2_with fail
    go_roundw
    case rel=>exact⟨k+1,by omega,by go_num,HN⟩
    case measure=>simp[intOf];omega
   have hki:¬ ((k:Int)<(ns.length:Int)):=by omega
   have hke:k=ns.length:=by omega
   have H2:Hid (Lv w wr gl gb gs gu gt n R B2 U S ss T2/\Pl.Cont B2.N (Pl.Nx f.code) (i+1) [] (2*(i+1))):=by
    refine⟨HK2.out.1,HK2.out.2.1.next (fun j=>?_) (by omega)⟩
    rw[hke,List.take_length,HNS.out.2]
    exact⟨fun ⟨q,a,b⟩=>by rw[show j=q by omega];exact b,fun q=>⟨j,rfl,q⟩⟩
   have hbw:=HK2.out.1.bel
   have HBW:Hid (Below w.heap.size w wr):=hbw
   clear hke HK2 hO2 hbw
   go_wp2_with fail
   refine (HCU.out wr HBW.out).mono ?_
   rintro e u2 ⟨⟨a2,c2,rfl,o2⟩,e2⟩
   have H3:Hid (Lv w u2 gl gb gs gu gt n R B2 U S ss (newT T2 wr.heap.size 9)/\u2.ownsRow w.heap.size 3 1 (.slice a2 ul.length c2) ul.length (ul.map (Value.int .i64))/\∀ q,(Value.slice a2 ul.length c2).ownBlock=some q->newT T2 wr.heap.size 9 q=9):=⟨(H2.out.1.tag fun q hq=>newT_old hq).later e2,own_lowL o2 HBW.out.size,fun q hq=>newT_new (o2.lt q hq).1⟩
   clear o2 e2 HBW
   go_wp2_with fail
   go_loopw [79] (fun t wr=>∃ (k:Nat),k<=ul.length/\t=.int .i64 (k:Int)/\Hid (∃ U2 T3,Lv w wr gl gb gs gu gt n R B2 U2 S ss T3/\Pl.Cont U2.N (fun p r=>Pl.Us f.code p (r:Int)) i (ul.take k) (10*i+k)/\wr.ownsRow w.heap.size 3 1 (.slice a2 ul.length c2) ul.length (ul.map (Value.int .i64))/\∀ q,(Value.ownBlock (.slice a2 ul.length c2))=some q->T3 q=9)) (fun t _=>ul.length-(intOf t).toNat)
   case atStart=>exact⟨0,Nat.zero_le _,rfl,U,_,H3.out.1,HV.out.2.u,H3.out.2⟩
   case round=>
    obtain⟨k,hk,rfl,HK⟩:=hrel
    obtain⟨U2,T3,hL2,hC2,hO2,hT2⟩:=HK.out
    have HK2:Hid (Lv w wr gl gb gs gu gt n R B2 U2 S ss T3/\Pl.Cont U2.N (fun p r=>Pl.Us f.code p (r:Int)) i (ul.take k) (10*i+k)/\wr.ownsRow w.heap.size 3 1 (.slice a2 ul.length c2) ul.length (ul.map (Value.int .i64))/\∀ q,(Value.ownBlock (.slice a2 ul.length c2))=some q->T3 q=9):=⟨hL2,hC2,hO2,hT2⟩
    clear hL2 hC2 hT2 HK
    by_cases hkl:k<ul.length
    ·have hki:(k:Int)<(ul.length:Int):=by omega
     obtain⟨gx,cx,hv,_,hgx⟩:=hO2.form (by omega)
     injection hv with hv1 hv2 hv3
     subst hv1 hv3
     have cn:=own_nx hO2 hkl rfl
     have hrg:=HRG.out (ul.getD k 0) (List.mem_append_left _ (by rw[List.getD_eq_getElem?_getD,List.getElem?_eq_getElem hkl];exact List.getElem_mem _))
     obtain⟨j,hj0⟩:∃ j:Nat,ul.getD k 0=(j:Int):=⟨(ul.getD k 0).toNat,by omega⟩
     have hj:j<R:=by omega
     have HTK:Hid (ul.take (k+1)=ul.take k ++ [(j:Int)]):=by rw[<- hj0];exact take_succ_getD hkl
     rw[hj0]at cn
     clear hj0 hrg hO2
     go_upto_region 14 with fail
     refine nl14_is HK2.out.1 j hj (by omega) (i:Int) (by rw[Gd.len_L];have:=(HK2.out.2.1 j).1;omega) _ _ _ _ _ _ _ _ _ _ _ _ _ _ _ _ _ _ _ _ _ _ _ _ _ _ _ _ _ _ _ _ _ _ _ _ _ _ _ _ _ _ _ _ _ _ _ _ _ _ _ _ _ _ _ _ _ _ _ _ _ _ _ _ _ _ _ _ _ _ _ _ _ _ _ _ _ _ _ _ _ _ _ _ _ _ _ _ _ _ _ _ _ _ _ _ _ _ _ _ _ _ _ _ _ _ _ _ _ _ _ _ _ _ _ _ _ _ _ _ _ _ _ _ _ _ _ _ _ _ _ ?_
     intro s83 s84 s85 s86 s87 s88 s89 s90 s91 s92 s93 s94 s95 s96 s97 s98 g' c' T4 y3 hL3 hKp
     have HN:Hid (∃ U2 T3,Lv w y3 gl gb gs gu gt n R B2 U2 S ss T3/\Pl.Cont U2.N (fun p r=>Pl.Us f.code p (r:Int)) i (ul.take (k+1)) (10*i+(k+1))/\y3.ownsRow w.heap.size 3 1 (.slice (some ⟨gx,0,none⟩) ul.length c2) ul.length (ul.map (Value.int .i64))/\∀ q,(Value.ownBlock (.slice (some ⟨gx,0,none⟩) ul.length c2))=some q->T3 q=9):=by
      refine⟨_,T4,hL3,?_,own_eqL HK2.out.2.2.1 fun q hq=>?_,fun q hq=>?_⟩
      ·rw[HTK.out];exact HK2.out.2.1.put j
      ·exact (hKp.2 q (HK2.out.2.2.1.lt q hq).2).2 (HK2.out.2.2.2 q hq)
      ·rw[(hKp.2 q (HK2.out.2.2.1.lt q hq).2).1];exact HK2.out.2.2.2 q hq
     clear hL3 hKp HTK HK2
     go_wp2_with fail
     go_roundw
     case rel=>exact⟨k+1,by omega,by go_num,HN⟩
     case measure=>simp[intOf];omega
    have hki:¬ ((k:Int)<(ul.length:Int)):=by omega
    have hke:k=ul.length:=by omega
    have H4:Hid (Lv w wr gl gb gs gu gt n R B2 U2 S ss T3/\Pl.Cont U2.N (fun p r=>Pl.Us f.code p (r:Int)) (i+1) [] (10*(i+1))):=by
     refine⟨HK2.out.1,HK2.out.2.1.next (fun j=>?_) (by omega)⟩
     rw[hke,List.take_length]
     exact HUS.out.1 j
    have HBW:Hid (Below w.heap.size w wr):=HK2.out.1.bel
    clear hke HK2 hO2 H3
    go_wp2_with fail
    refine (HCS.out wr HBW.out).mono ?_
    rintro e u3 ⟨⟨a3,c3,rfl,o3⟩,e3⟩
    have H5:Hid (Lv w u3 gl gb gs gu gt n R B2 U2 S ss (newT T3 wr.heap.size 9)/\u3.ownsRow w.heap.size 3 1 (.slice a3 sl.length c3) sl.length (sl.map (Value.int .i64))/\∀ q,(Value.slice a3 sl.length c3).ownBlock=some q->newT T3 wr.heap.size 9 q=9):=⟨(H4.out.1.tag fun q hq=>newT_old hq).later e3,own_lowL o3 HBW.out.size,fun q hq=>newT_new (o3.lt q hq).1⟩
    clear o3 e3 HBW
    go_wp2_with fail
    go_loopw [103] (fun t wr=>∃ (k:Nat),k<=sl.length/\t=.int .i64 (k:Int)/\Hid (∃ S2 s2 T4,Lv w wr gl gb gs gu gt n R B2 U2 S2 s2 T4/\Pl.Cont S2.N (fun p r=>Pl.Se f.code p (r:Int)) i (sl.take k) (i+k)/\Pl.Sets s2 (Pl.Se f.code) i (sl.take k)/\wr.ownsRow w.heap.size 3 1 (.slice a3 sl.length c3) sl.length (sl.map (Value.int .i64))/\∀ q,(Value.slice a3 sl.length c3).ownBlock=some q->T4 q=9)) (fun t _=>sl.length-(intOf t).toNat)
    case atStart=>exact⟨0,Nat.zero_le _,rfl,S,ss,_,H5.out.1,HV.out.2.s,HV.out.2.z,H5.out.2⟩
    case round=>
     obtain⟨k,hk,rfl,HK⟩:=hrel
     obtain⟨S2,s2,T4,hL2,hC2,hZ2,hO2,hT2⟩:=HK.out
     have HK2:Hid (Lv w wr gl gb gs gu gt n R B2 U2 S2 s2 T4/\Pl.Cont S2.N (fun p r=>Pl.Se f.code p (r:Int)) i (sl.take k) (i+k)/\Pl.Sets s2 (Pl.Se f.code) i (sl.take k)/\wr.ownsRow w.heap.size 3 1 (.slice a3 sl.length c3) sl.length (sl.map (Value.int .i64))/\∀ q,(Value.slice a3 sl.length c3).ownBlock=some q->T4 q=9):=⟨hL2,hC2,hZ2,hO2,hT2⟩
     clear hL2 hC2 hT2 hZ2 HK
     by_cases hkl:k<sl.length
     ·have hki:(k:Int)<(sl.length:Int):=by omega
      have hk0:k=0:=by omega
      obtain⟨gx,cx,hv,_,hgx⟩:=hO2.form (by omega)
      injection hv with hv1 hv2 hv3
      subst hv1 hv3
      have cn:=own_nx hO2 hkl rfl
      have hrg:=HRG.out (sl.getD k 0) (List.mem_append_right _ (by rw[List.getD_eq_getElem?_getD,List.getElem?_eq_getElem hkl];exact List.getElem_mem _))
      obtain⟨j,hj0⟩:∃ j:Nat,sl.getD k 0=(j:Int):=⟨(sl.getD k 0).toNat,by omega⟩
      have hj:j<R:=by omega
      have HTK:Hid (sl.take (k+1)=sl.take k ++ [(j:Int)]/\sl.take k=[]/\k+1=sl.length):=⟨by rw[<- hj0];exact take_succ_getD hkl,by rw[hk0];rfl,by omega⟩
      rw[hj0]at cn
      clear hj0 hrg hO2 hk0
      go_upto_region 19 with fail
      refine nl19_is HK2.out.1 j hj (by omega) (i:Int) (by rw[Gd.len_L];have:=(HK2.out.2.1 j).1;omega) _ _ _ _ _ _ _ _ _ _ _ _ _ _ _ _ _ _ _ _ _ _ _ _ _ _ _ _ _ _ _ _ _ _ _ _ _ _ _ _ _ _ _ _ _ _ _ _ _ _ _ _ _ _ _ _ _ _ _ _ _ _ _ _ _ _ _ _ _ _ _ _ _ _ _ _ _ _ _ _ _ _ _ _ _ _ _ _ _ _ _ _ _ _ _ _ _ _ _ _ _ _ _ _ _ _ _ _ _ _ _ _ _ _ _ _ _ _ _ _ _ _ _ _ _ _ _ _ _ _ _ ?_
      intro s107 s108 s109 s110 s111 s112 s113 s114 s115 s116 s117 s118 s119 s120 s121 s122 g' c' T5 y3 hL3 hKp
      have hin3:i<s2.length:=by rw[hL3.sn];exact hlt
      have HN:Hid (∃ S2 s2 T4,Lv w (y3.setCell ⟨gs,i,none⟩ (.int .i64 (j:Int))) gl gb gs gu gt n R B2 U2 S2 s2 T4/\Pl.Cont S2.N (fun p r=>Pl.Se f.code p (r:Int)) i (sl.take (k+1)) (i+(k+1))/\Pl.Sets s2 (Pl.Se f.code) i (sl.take (k+1))/\(y3.setCell ⟨gs,i,none⟩ (.int .i64 (j:Int))).ownsRow w.heap.size 3 1 (.slice (some ⟨gx,0,none⟩) sl.length c3) sl.length (sl.map (Value.int .i64))/\∀ q,(Value.slice (some ⟨gx,0,none⟩) sl.length c3).ownBlock=some q->T4 q=9):=by
       have e0:=HTK.out.2.1
       refine⟨_,_,T5,hL3.setS hlt (j:Int),?_,?_,own_eqL HK2.out.2.2.2.1 fun q hq=>?_,fun q hq=>?_⟩
       ·rw[HTK.out.1];exact HK2.out.2.1.put j
       ·rw[HTK.out.1,e0]
        have h0:=HK2.out.2.2.1
        rw[e0]at h0
        exact h0.put hin3 (j:Int)
       ·have h1:=hKp.2 q (HK2.out.2.2.2.1.lt q hq).2
        have h9:=HK2.out.2.2.2.2 q hq
        rw[heap_setCell_other y3 ⟨gs,i,none⟩ q _ (fun e=>by
         have e:q=gs:=e
         have:=hL3.ts
         rw[<- e,h1.1,h9]at this
         omega)]
        exact h1.2 h9
       ·rw[(hKp.2 q (HK2.out.2.2.2.1.lt q hq).2).1];exact HK2.out.2.2.2.2 q hq
      have c1:y3.cell? ⟨gl,1,none⟩=some (.slice (some ⟨gs,0,none⟩) n n):=hL3.cell 1
      have cs:y3.cell? ⟨gs,i,none⟩=some (.int .i64 (s2.getD i 0)):=own_nx hL3.sl hlt hL3.sn
      have fs:y3.frozen? ⟨gs,i,none⟩=false:=hL3.sl.frozenAt i
      clear hL3 hKp HTK HK2 hin3
      go_wp2_with fail
      go_roundw
      case rel=>exact⟨k+1,by omega,by go_num,HN⟩
      case measure=>simp[intOf];omega
     have hki:¬ ((k:Int)<(sl.length:Int)):=by omega
     have hke:k=sl.length:=by omega
     have HN:Hid (∃ B U S ss T,Lv w wr gl gb gs gu gt n R B U S ss T/\LvF f.code (i+1) B U S ss):=by
      refine⟨B2,U2,S2,s2,T4,HK2.out.1,H2.out.2,H4.out.2,HK2.out.2.1.next (fun r=>?_) (by omega),HK2.out.2.2.1.next fun r=>?_⟩
      ·rw[hke,List.take_length];exact HUS.out.2 r
      ·rw[hke,List.take_length];exact HUS.out.2 r
     clear hke HK2 hO2
     go_wp2_with fail
     go_roundw
     case rel=>exact⟨i+1,by omega,by go_num,HN⟩
     case measure=>simp[intOf];omega
end Go.Proofs.YtcgfgmlfbgbkfaaGreatDoor.W
namespace Go.Proofs.YtcgfgmlfbgbkfaaGreatDoor.Pl
def mu (c:Nat->Nat) (p:Nat->Bool):Nat->Nat
 | 0=>0
 | n+1=>mu c p n+(if p n=true then 0 else c n+1)
theorem mu_le (c:Nat->Nat) (p:Nat->Bool) (K:Nat) (h:∀ j,c j<=K):∀ n,mu c p n<=n*(K+1)
 | 0=>by simp[mu]
 | n+1=>by
  have h1:=mu_le c p K h n
  have h2:=h n
  unfold mu
  rw[Nat.succ_mul]
  split <;> omega
theorem mu_same (c:Nat->Nat) (p p':Nat->Bool):∀ n,(∀ j,j<n->p' j=p j)->mu c p' n=mu c p n
 | 0,_=>rfl
 | n+1,h=>by unfold mu;rw[mu_same c p p' n (fun j hj=>h j (by omega)),h n (by omega)]
theorem mu_mark (c:Nat->Nat) (p p':Nat->Bool) (a:Nat) (ha:p a=false) (h:∀ j,p' j=(p j || decide (j=a))):∀ n,a<n->mu c p' n+(c a+1)=mu c p n
  | 0,h0=>absurd h0 (Nat.not_lt_zero _)
  | n+1,h0=>by
    unfold mu
    by_cases e:a=n
    · subst e
      rw[mu_same c p p' a (fun j hj=>by rw[h];have:¬ j=a:=(by omega);simp[this]),h,ha]
      simp
    · have:=mu_mark c p p' a ha h n (by omega)
      have e2:p' n=p n:=by rw[h];have:¬ n=a:=(fun q=>e q.symm);simp[this]
      rw[e2]
      omega
structure LaI (code:List IrI) (r:Int) (ws:List Nat) (wl:List Int) (at0:Option Nat) (done:List Int):Prop where
 mw:∀ i,inW ws i=true->Live code r i
 wt:∀ x∈wl,∃ i:Nat,x=(i:Int)/\Live code r i
 us:∀ i,i<code.length->Us code i r->inW ws i=true\/(i:Int)∈wl\/at0=some i
 go:∀ i j,i<code.length->j<code.length->inW ws j=true->Nx code i j->¬ Se code i r->(at0=some j->(i:Int)∈done)->inW ws i=true\/(i:Int)∈wl
theorem LaI.done {code:List IrI} {r:Int} {ws:List Nat} (h:LaI code r ws [] none []) (i:Nat):inW ws i=true↔Live code r i:=by
 refine⟨h.mw i,fun hl=>?_⟩
 refine live_least (fun i=>inW ws i=true) (fun i h1 h2=>?_) (fun i j h1 h2 h3 h4 h5=>?_) hl
 ·rcases h.us i h1 h2 with q | q | q
  ·exact q
  ·cases q
  ·cases q
 ·rcases h.go i j h1 h2 h5 h3 h4 (fun q=>by cases q) with q | q
  ·exact q
  ·cases q
theorem LaI.skip {code:List IrI} {r:Int} {ws:List Nat} {wl:List Int} {a:Nat} (h:LaI code r ws (wl ++ [(a:Int)]) none []) (ha:inW ws a=true):LaI code r ws wl none []:=by
 refine⟨h.mw,fun x hx=>h.wt x (List.mem_append_left _ hx),fun i h1 h2=>?_,fun i j h1 h2 h3 h4 h5 h6=>?_⟩
 ·rcases h.us i h1 h2 with q | q | q
  ·exact .inl q
  ·rcases List.mem_append.1 q with q | q
   ·exact .inr (.inl q)
   ·rw[List.mem_singleton]at q;rw[show i=a by omega];exact .inl ha
  ·exact .inr (.inr q)
 ·rcases h.go i j h1 h2 h3 h4 h5 h6 with q | q
  ·exact .inl q
  ·rcases List.mem_append.1 q with q | q
   ·exact .inr q
   ·rw[List.mem_singleton]at q;rw[show i=a by omega];exact .inl ha
theorem LaI.mark {code:List IrI} {r:Int} {ws ws':List Nat} {wl:List Int} {a:Nat} (h:LaI code r ws (wl ++ [(a:Int)]) none []) (hw:∀ m,inW ws' m=true↔inW ws m=true\/m=a) (ha:inW ws a=false):LaI code r ws' wl (some a) []:=by
 have hla:Live code r a:=by
  obtain⟨i,e,hl⟩:=h.wt (a:Int) (List.mem_append_right _ (List.mem_singleton.2 rfl))
  rw[show a=i by omega];exact hl
 refine⟨fun i hi=>?_,fun x hx=>h.wt x (List.mem_append_left _ hx),fun i h1 h2=>?_,fun i j h1 h2 h3 h4 h5 h6=>?_⟩
 ·rcases (hw i).1 hi with q | q
  ·exact h.mw i q
  ·rw[q];exact hla
 ·rcases h.us i h1 h2 with q | q | q
  ·exact .inl ((hw i).2 (.inl q))
  ·rcases List.mem_append.1 q with q | q
   ·exact .inr (.inl q)
   ·rw[List.mem_singleton]at q;exact .inl ((hw i).2 (.inr (by omega)))
  ·cases q
 ·by_cases e:j=a
  ·exact absurd (h6 (by rw[e])) (by simp)
  ·rcases (hw j).1 h3 with q | q
   ·rcases h.go i j h1 h2 q h4 h5 (fun z=>by cases z) with q | q
    ·exact .inl ((hw i).2 (.inl q))
    ·rcases List.mem_append.1 q with q | q
     ·exact .inr q
     ·rw[List.mem_singleton]at q;exact .inl ((hw i).2 (.inr (by omega)))
   ·exact absurd q e
theorem LaI.pass {code:List IrI} {r:Int} {ws:List Nat} {wl done:List Int} {a b:Nat} (h:LaI code r ws wl (some a) done) (hse:Se code b r):LaI code r ws wl (some a) (done ++ [(b:Int)]):=by
 refine⟨h.mw,h.wt,h.us,fun i j h1 h2 h3 h4 h5 h6=>h.go i j h1 h2 h3 h4 h5 fun q=>?_⟩
 rcases List.mem_append.1 (h6 q) with z | z
 ·exact z
 ·rw[List.mem_singleton]at z;rw[show i=b by omega]at h5;exact absurd hse h5
theorem LaI.push {code:List IrI} {r:Int} {ws:List Nat} {wl done:List Int} {a b:Nat} (h:LaI code r ws wl (some a) done) (hb:b<code.length) (ha:Live code r a) (hnx:Nx code b a) (hse:¬ Se code b r):LaI code r ws (wl ++ [(b:Int)]) (some a) (done ++ [(b:Int)]):=by
 refine⟨h.mw,fun x hx=>?_,fun i h1 h2=>?_,fun i j h1 h2 h3 h4 h5 h6=>?_⟩
 ·rcases List.mem_append.1 hx with q | q
  ·exact h.wt x q
  ·rw[List.mem_singleton]at q;exact⟨b,q,Live.go hb ha.lt hnx hse ha⟩
 ·rcases h.us i h1 h2 with q | q | q
  ·exact .inl q
  ·exact .inr (.inl (List.mem_append_left _ q))
  ·exact .inr (.inr q)
 ·by_cases e:i=b
  ·exact .inr (List.mem_append_right _ (by rw[e];exact List.mem_singleton.2 rfl))
  ·rcases h.go i j h1 h2 h3 h4 h5 (fun q=>by
    rcases List.mem_append.1 (h6 q) with z | z
    ·exact z
    ·rw[List.mem_singleton]at z;omega) with q | q
   ·exact .inl q
   ·exact .inr (List.mem_append_left _ q)
theorem LaI.all {code:List IrI} {r:Int} {ws:List Nat} {wl done:List Int} {a:Nat} (h:LaI code r ws wl (some a) done) (ha:inW ws a=true) (hd:∀ i,i<code.length->Nx code i a->(i:Int)∈done):LaI code r ws wl none []:=by
 refine⟨h.mw,h.wt,fun i h1 h2=>?_,fun i j h1 h2 h3 h4 h5 _=>h.go i j h1 h2 h3 h4 h5 fun q=>?_⟩
 ·rcases h.us i h1 h2 with q | q | q
  ·exact .inl q
  ·exact .inr (.inl q)
  ·injection q with q;rw[<- q];exact .inl ha
 ·injection q with q;subst q;exact hd i h1 h4
end Go.Proofs.YtcgfgmlfbgbkfaaGreatDoor.Pl
namespace Go.Proofs.YtcgfgmlfbgbkfaaGreatDoor.W
open Go.RowKit
theorem own_pop {lo:Nat} {e:TypeId} {w:World} {g n c:Nat} {zs:List Int} {z:Int} (h:w.ownsRow lo e 1 (.slice (some ⟨g,0,none⟩) (n+1) c) (n+1) ((zs ++ [z]).map (Value.int .i64))) (hz:zs.length=n):w.ownsRow lo e 1 (.slice (some ⟨g,0,none⟩) n c) n (zs.map (Value.int .i64)):=by
 refine⟨by simp[hz],.inr ?_⟩
 rcases h.2 with ⟨q,_⟩ | ⟨g',cap,cur,h0,hlo,hg,hc,hm,hs,ht⟩
 ·cases q
 ·simp only[Value.slice.injEq,Option.some.injEq,Addr.mk.injEq,and_true,true_and]at h0
  obtain⟨rfl,rfl⟩:=h0
  refine⟨g,c,cur,rfl,hlo,hg,by omega,hm,hs,?_⟩
  have e:List.take (n*1) cur.toList=List.take n (List.take ((n+1)*1) cur.toList):=by rw[List.take_take];congr 1;omega
  rw[e,ht,List.map_append,List.take_append_of_le_length (by simp[hz]),List.take_of_length_le (by simp[hz])]
set_option maxRecDepth 100000 in
theorem cloneSt_is {lo:Nat} (a:Option Addr) (len cap:Nat) (zs:List Int) (w:World) (h:w.ownsRow lo 108 1 (.slice a len cap) len (zs.map (Value.int .i64))) (hl:zs.length=len) (hsz:len<=1048576) :
  Calls Tryz.prog 96 #[.slice a len cap] w fun e w'=>StepsA w.heap.size zs e w'/\Below w.heap.size w w':=by
 obtain⟨i0,hi,hz0,hz1,hz2⟩:=info_parts Tryz.infostL
 have hq:∀ (w:World) (a:Option Addr) (n c n' c':Nat),(binOp .eql 119 (.slice a n c) (.slice none n' c')).run Tryz.prog w=.ok (.bool a.isNone) w:=fun w a n c n' c'=>Lib.run_eql_slice_nil w _ _ a n c n' c' Tryz.underlying119
 have hE:(w.alloc (.cells #[] 108)).ownsRow w.heap.size 108 1 (.slice (some ⟨w.heap.size,0,none⟩) 0 0) 0 []:=World.ownsRow_lit w #[] 0 (Nat.le_refl _) (Nat.zero_le _) rfl
 have HE:Hid _:=hE
 have HI:Hid (Tryz.prog.info? 108=some i0/\i0.zero=some (.int .i64 0)/\i0.size=1/\i0.bytes=8):=⟨hi,hz0,hz1,hz2⟩
 clear hi hz0 hz1 hz2 hE
 cases a with
 | none=>
  have h0:len=0:=by
   rcases h.2 with ⟨_,q⟩ | ⟨g',cap,cur,q,_⟩
   ·exact q
   ·cases q
  subst h0
  have hz:zs=[]:=List.eq_nil_of_length_eq_zero hl
  subst hz
  clear h hl
  go_enter Tryz.func96,Tryz.ntmps96
  go_wp2
  go_ret
  exact⟨⟨none,0,rfl,World.ownsRow_nil _ _ _ _⟩,Below.refl _ _⟩
 | some ad=>
  have had:∃ g,ad=⟨g,0,none⟩:=by
   rcases h.2 with ⟨q,_⟩ | ⟨g',cap,cur,q,_⟩
   ·cases q
   ·injection q with q;injection q with q;exact⟨g',q⟩
  obtain⟨g,rfl⟩:=had
  have HN:Hid (∀ j u,(zs.map (Value.int .i64))[j]?=some u->(w.alloc (.cells #[] 108)).cell? ((⟨g,0,none⟩:Addr).add j)=some u):=fun j u hj=>by
   have hjl:j<len:=by
    have:=(List.getElem?_eq_some_iff.1 hj).1
    rw[List.length_map]at this
    omega
   have e1:(⟨g,0,none⟩:Addr).add j=⟨g,j,none⟩:=by unfold Addr.add;split <;> simp_all
   rw[e1,(below_alloc w _).cell (p:=⟨g,j,none⟩) (h.lt g rfl).2,h.cellAt j (by omega)]
   exact hj
  have hll:(len:Int)<=9223372036854775807:=by omega
  have HL:Hid (zs.length=len):=hl
  clear h hl
  go_enter Tryz.func96,Tryz.ntmps96
  go_wp2_with (at_builtin;refine wpList_append_own _ rfl (.tmp 5) (.tmp 6) 119 rfl w.heap.size 108 i0 (.int .i64 0) 1 8 Tryz.underlying119 HI.out.1 HI.out.2.1 HI.out.2.2.1 HI.out.2.2.2 rfl (by decide) _ 0 [] rfl HE.out ⟨g,0,none⟩ len cap (zs.map (Value.int .i64)) rfl (by rw[List.length_map,HL.out,Nat.mul_one]) HN.out (by intro u hu;obtain⟨n,_,rfl⟩:=List.mem_map.1 hu;rfl) (by unfold maxLen;omega) (by omega) (by simp) ?_)
  intro v' u1 hown' hgr _
  have HO':Hid (u1.ownsRow w.heap.size 108 1 v' len (zs.map (Value.int .i64))):=by show u1.ownsRow _ _ _ _ _ _;simpa using hown'
  have HB:Hid (Below w.heap.size w u1):=(below_alloc w _).grown hgr (by simp) (fun k hk=>by simp[Value.ownBlock]at hk;omega)
  clear hown' hgr HE HN
  obtain⟨a',c',hv⟩:∃ a' c',v'=.slice a' len c':=by
   rcases HO'.out.2 with ⟨q0,q1⟩ | ⟨g',c',_,q0,_⟩
   ·subst q1;exact⟨none,0,q0⟩
   ·exact⟨_,c',q0⟩
  subst hv
  go_wp2
  go_ret
  have hl:=HL.out
  subst hl
  exact⟨⟨a',c',rfl,HO'.out⟩,HB.out⟩
def wsOf (w:World) (g k:Nat):List Nat:=(List.range k).map fun i=>match w.cell? ⟨g,i,none⟩ with | some (.int _ z)=>z.toNat | _=>0
theorem wsOf_eq {lo:Nat} {w:World} {g k c:Nat} {ws:List Nat} (h:w.ownsRow lo 110 1 (.slice (some ⟨g,0,none⟩) k c) k (Pl.wsV ws)) (hk:ws.length=k):wsOf w g k=ws:=by
 apply List.ext_getElem?
 intro i
 unfold wsOf
 by_cases hi:i<k
 ·rw[List.getElem?_map,List.getElem?_range hi]
  simp only[Option.map_some]
  rw[h.cellAt i (by omega),Pl.wsV_at ws i (by omega)]
  rw[List.getElem?_eq_getElem (by omega),List.getD_eq_getElem?_getD,List.getElem?_eq_getElem (by omega)]
  simp
 ·rw[List.getElem?_eq_none (by simp;omega),List.getElem?_eq_none (by omega)]
def lenOf:Value->Nat
 | .slice _ n _=>n
 | _=>0
structure LaW (w:World) (k:Nat) (wr:World) (ws:List Nat) (wl:List Int) (aw:Option Addr) (cw:Nat):Prop where
 bel:Below w.heap.size w wr
 lv:wr.ownsRow w.heap.size 110 1 (.slice (some ⟨w.heap.size,0,none⟩) k k) k (Pl.wsV ws)
 sm:Pl.smallW ws
 ln:ws.length=k
 wt:wr.ownsRow w.heap.size 108 1 (.slice aw wl.length cw) wl.length (wl.map (Value.int .i64))
 ne:∀ q,(Value.slice aw wl.length cw).ownBlock=some q->q≠w.heap.size
section
variable {w wr wr' y:World} {k:Nat} {ws:List Nat} {wl:List Int} {aw:Option Addr} {cw:Nat}
theorem LaW.later (h:LaW w k wr ws wl aw cw) (hb:Below wr.heap.size wr wr'):LaW w k wr' ws wl aw cw:=
 ⟨h.bel.trans (hb.mono h.bel.size),own_eqL h.lv fun g hg=>hb.block g (h.lv.lt g hg).2,h.sm,h.ln,own_eqL h.wt fun g hg=>hb.block g (h.wt.lt g hg).2,h.ne⟩
theorem LaW.put {ns:List Nat} (h:LaW w k wr ws wl aw cw) (ho:wr'.ownsRow w.heap.size 110 1 (.slice (some ⟨w.heap.size,0,none⟩) k k) k (Pl.wsV (Pl.putsW ws ns))) (hO:OnlyG w.heap.size wr wr'):LaW w k wr' (Pl.putsW ws ns) wl aw cw:=
 ⟨h.bel.trans (hO.below (Nat.le_refl _)),ho,h.sm.puts ns,(Pl.putsW_len _ _).trans h.ln,hO.own h.wt (fun e=>h.ne _ e rfl),h.ne⟩
theorem LaW.pop {g:Nat} {z:Int} (h:LaW w k wr ws (wl ++ [z]) (some ⟨g,0,none⟩) cw):LaW w k wr ws wl (some ⟨g,0,none⟩) cw:=by
 have e:(wl ++ [z]).length=wl.length+1:=by simp
 have hw:=h.wt
 rw[e]at hw
 exact⟨h.bel,h.lv,h.sm,h.ln,own_pop hw rfl,fun q hq=>h.ne q hq⟩
theorem LaW.push {w1:World} {z:Int} {g2 c2:Nat} (h:LaW w k wr ws wl aw cw) (hb:Below wr.heap.size wr w1) (hown:y.ownsRow w.heap.size 108 1 (.slice (some ⟨g2,0,none⟩) (wl.length+1) c2) (wl.length+1) (wl.map (Value.int .i64) ++ [.int .i64 z])) (hgr:w1.grownBy y (Value.slice aw wl.length cw).ownBlock) (hli:(Value.slice aw wl.length cw).ownBlock=some g2\/g2=w1.heap.size):LaW w k y ws (wl ++ [z]) (some ⟨g2,0,none⟩) c2:=by
 have h1:=h.later hb
 have hgL:=(h1.lv.lt w.heap.size rfl).2
 have e:(wl ++ [z]).length=wl.length+1:=by simp
 refine⟨h1.bel.grown hgr h1.bel.size (fun q hq=>(h1.wt.lt q hq).1),own_eqL h1.lv fun g hg=>?_,h1.sm,h1.ln,?_,fun q hq=>?_⟩
 ·simp only[Value.ownBlock,Option.some.injEq]at hg
  subst hg
  exact hgr.block _ hgL (fun q=>h.ne _ q.symm rfl)
 ·rw[e,List.map_append];exact hown
 ·have e2:g2=q:=by simpa [Value.ownBlock] using hq
  subst e2
  rcases hli with z | z
  ·exact h.ne _ z
  ·omega
end
def LaSaid (w:World) (code:List Pl.IrI) (r n:Nat) (e:Ending) (w':World):Prop:=∃ (ws:List Nat),e=.returned (.slice (some ⟨w.heap.size,0,none⟩) ((n+63) / 64) ((n+63) / 64))/\w'.ownsRow w.heap.size 110 1 (.slice (some ⟨w.heap.size,0,none⟩) ((n+63) / 64) ((n+63) / 64)) ((n+63) / 64) (Pl.wsV ws)/\Pl.smallW ws/\ws.length=(n+63) / 64/\(∀ i,Pl.inW ws i=true↔Pl.Live code (r:Int) i)/\Below w.heap.size w w'
theorem row_one (u:World) (z:Nat) (hz:z<=100000) (b:Nat) (hb:b=u.heap.size):Row .i64 0 (u.alloc (.cells #[.int .i64 (z:Int)] 108)) (some ⟨b,0,none⟩) 1 1 (([z]:List Nat).map fun n:Nat=>(n:Int)):=by
 subst hb
 refine⟨rfl,Nat.le_refl _,by decide,fun n hn=>?_,.inr ⟨u.heap.size,0,rfl,Nat.zero_le _,by simp,fun i hi=>?_⟩⟩
 ·simp at hn;subst hn;simp[Lit.wf,IntKind.min,IntKind.max,IntKind.signed,IntKind.bits];omega
 ·obtain rfl:i=0:=by omega
  exact cell_of_row _ u.heap.size 0 _ 108 (0,0) (heap_alloc_new u _)
set_option maxRecDepth 100000 in
theorem liveAt_is {W0 w:World} {gl gb gs gu gt n R:Nat} {B U S:Gd} {ss:List Int} {T:Nat->Nat} (h:Lv W0 w gl gb gs gu gt n R B U S ss T) (code:List Pl.IrI) (hlen:code.length=n) (hF:LvF code n B U S ss) (hn:1<=n/\n<=8000) (r:Nat) (hr:r<R) (hR:R<=2000):Calls Tryz.prog 63 #[.pointer (some ⟨gl,0,none⟩),.int .i64 (r:Int)] w fun e w'=>LaSaid w code r n e w':=by
 have HL:Hid (∀ u:World,Below w.heap.size w u->Lv W0 u gl gb gs gu gt n R B U S ss T):=fun u hu=>h.later hu
 have HF:Hid (LvF code n B U S ss/\code.length=n):=⟨hF,hlen⟩
 have d0:w.cell? ⟨gl,0,none⟩=some (.slice (some ⟨gb,0,none⟩) n n):=h.cell 0
 obtain⟨k,hk⟩:∃ k,k=(n+63) / 64:=⟨_,rfl⟩
 have hk2:k<=200:=by omega
 have HK:Hid (k=(n+63) / 64):=hk
 have hrR:(r:Int)<(R:Int):=by omega
 have hr2:(r:Int)<=2000:=by omega
 have HNS:Hid (∀ u:World,Calls Tryz.prog 95 #[.int .i64 (n:Int)] u fun e w'=>e=.returned (.slice (some ⟨u.heap.size,0,none⟩) k k)/\w'.ownsRow u.heap.size 110 1 (.slice (some ⟨u.heap.size,0,none⟩) k k) k (Pl.wsV (List.replicate k 0))/\Below u.heap.size u w'):=fun u=>by rw[hk];exact newSetS_is n (by omega) u
 clear hk h hF hlen
 obtain⟨i0,hi0,hz0,hz1,hz2⟩:=info_parts Tryz.infostL
 have HI:Hid (Tryz.prog.info? 108=some i0/\i0.zero=some (.int .i64 0)/\i0.size=1/\i0.bytes=8):=⟨hi0,hz0,hz1,hz2⟩
 clear hi0 hz0 hz1 hz2
 go_enter Tryz.func63,Tryz.ntmps63
 go_wp2_with fail
 refine (HNS.out w).mono ?_
 rintro e u1 ⟨rfl,o1,b1⟩
 have hL1:=HL.out u1 b1
 have d2:u1.cell? ⟨gl,2,none⟩=some (.slice (some ⟨gu,0,none⟩) R R):=hL1.cell 2
 obtain⟨wl0,hwl0⟩:∃ wl,wl=U.N r:=⟨_,rfl⟩
 obtain⟨a0,ha0⟩:∃ a,a=U.A r:=⟨_,rfl⟩
 obtain⟨c0,hc0⟩:∃ c,c=U.C r:=⟨_,rfl⟩
 have du:u1.cell? ⟨gu,r,none⟩=some (.slice a0 wl0.length c0):=by rw[hwl0,ha0,hc0,<- Gd.len_L];exact hL1.ru.cell hr
 have hwlen:wl0.length<=80000:=by rw[hwl0];have:=(HF.out.1.u r).1;omega
 have HCL:Hid (Calls Tryz.prog 96 #[.slice a0 wl0.length c0] u1 fun e w'=>StepsA u1.heap.size wl0 e w'/\Below u1.heap.size u1 w'):=by
  refine cloneSt_is (lo:=W0.heap.size) a0 wl0.length c0 wl0 u1 ?_ rfl (by omega)
  have:=hL1.ru.nr r hr
  rw[Gd.len_L,<- ha0,<- hc0,<- hwl0]at this
  rw[hwl0]
  rw[hwl0]at this
  exact this
 have H1:Hid (u1.ownsRow w.heap.size 110 1 (.slice (some ⟨w.heap.size,0,none⟩) k k) k (Pl.wsV (List.replicate k 0))/\Below w.heap.size w u1/\wl0=U.N r):=⟨o1,b1,hwl0⟩
 clear o1 b1 hL1 hwl0 ha0 hc0 d0 HNS
 go_wp2_with fail
 refine (HCL.out).mono ?_
 rintro e u2 ⟨⟨a1,c1,rfl,o2⟩,b2⟩
 have H2:Hid (LaW w k u2 (List.replicate k 0) wl0 a1 c1):=by
  have hz:=(H1.out.1.lt w.heap.size rfl).2
  refine⟨H1.out.2.1.trans (b2.mono H1.out.2.1.size),own_eqL H1.out.1 fun g hg=>b2.block g (H1.out.1.lt g hg).2,Pl.smallW_nil k,by simp,own_lowL o2 H1.out.2.1.size,fun q hq=>?_⟩
  have:=(o2.lt q hq).1
  omega
 have HI0:Hid (Pl.LaI code (r:Int) (List.replicate k 0) wl0 none []):=by
  refine⟨fun i hi=>(by rw[Pl.inW_nil]at hi;exact absurd hi (by decide)),fun x hx=>?_,fun i h1 h2=>?_,fun i j h1 h2 h3=>(by rw[Pl.inW_nil]at h3;exact absurd h3 (by decide))⟩
  ·rw[H1.out.2.2,(HF.out.1.u r).2]at hx
   rcases hx with ⟨p,e,hp,hu⟩ | ⟨_,q⟩
   ·exact⟨p,e,Pl.Live.use (by have:=HF.out.2;omega) hu⟩
   ·cases q
  ·refine .inr (.inl ?_)
   rw[H1.out.2.2,(HF.out.1.u r).2]
   exact .inl ⟨i,rfl,by have:=HF.out.2;omega,h2⟩
 have HM0:Hid (wl0.length+Pl.mu (fun j=>(B.N j).length) (Pl.inW (List.replicate k 0)) n<=200000000):=by
  have:=Pl.mu_le (fun j=>(B.N j).length) (Pl.inW (List.replicate k 0)) 16000 (fun j=>by have:=(HF.out.1.b j).1;show (B.N j).length<=_;omega) n
  have h3:n*(16000+1)<=8000*16001:=Nat.mul_le_mul hn.2 (Nat.le_refl _)
  show _+_<=_
  omega
 clear o2 b2 d2 du HCL H1
 go_wp2_with fail
 go_loopw [6] (fun v wr=>∃ (ws:List Nat) (wl:List Int) (aw:Option Addr) (cw:Nat),v=.slice aw wl.length cw/\Hid (LaW w k wr ws wl aw cw/\Pl.LaI code (r:Int) ws wl none []/\wl.length+Pl.mu (fun j=>(B.N j).length) (Pl.inW ws) n<=200000000)) (fun v wr=>lenOf v+Pl.mu (fun j=>(B.N j).length) (Pl.inW (wsOf wr w.heap.size k)) n)
 case atStart=>exact⟨_,wl0,a1,c1,rfl,H2.out,HI0.out,HM0.out⟩
 case round=>
  obtain⟨ws,wl,aw,cw,rfl,HS⟩:=hrel
  have hws:wsOf wr w.heap.size k=ws:=wsOf_eq HS.out.1.lv HS.out.1.ln
  have HWS:Hid (wsOf wr w.heap.size k=ws):=hws
  clear hws
  rcases List.eq_nil_or_concat wl with hnil | ⟨wl1,z,hz⟩
  ·subst hnil
   have HE:Hid (LaSaid w code r n (.returned (.slice (some ⟨w.heap.size,0,none⟩) k k)) wr):=by
    have hk:=HK.out
    obtain⟨h1,h2,_⟩:=HS.out
    subst hk
    exact⟨ws,rfl,h1.lv,h1.sm,h1.ln,fun i=>h2.done i,h1.bel⟩
   clear HS
   go_wp2_with fail
   go_ret
   exact HE.out
  rw[List.concat_eq_append]at hz
  subst hz
  obtain⟨m,hm⟩:∃ m,m=wl1.length:=⟨_,rfl⟩
  have hm1:(wl1 ++ [z]).length=m+1:=by simp[hm]
  obtain⟨a,hza,hLa⟩:=HS.out.2.1.wt z (List.mem_append_right _ (List.mem_singleton.2 rfl))
  subst hza
  have han:a<n:=by have:=hLa.lt;have:=HF.out.2;omega
  have HLA:Hid (Pl.Live code (r:Int) a):=hLa
  have how:=HS.out.1.wt
  rw[hm1]at how
  obtain⟨gw,cw',hv,_,hgw⟩:=how.form (by omega)
  injection hv with hv1 hv2 hv3
  subst hv1 hv3
  have ca:wr.cell? ⟨gw,m,none⟩=some (.int .i64 (a:Int)):=by
   rw[how.cellAt m (by omega),List.getElem?_map,List.getElem?_append_right (by omega),hm]
   simp
  have hmb:m<=200000000:=by have:=HS.out.2.2;omega
  have HP:Hid (LaW w k wr ws wl1 (some ⟨gw,0,none⟩) cw):=HS.out.1.pop
  have HM:Hid (m=wl1.length):=hm
  have HLI:Hid (Pl.LaI code (r:Int) ws (wl1 ++ [(a:Int)]) none []/\m+1+Pl.mu (fun j=>(B.N j).length) (Pl.inW ws) n<=200000000):=⟨HS.out.2.1,by have:=HS.out.2.2;omega⟩
  rw[hm1]
  have hcap:m<=cw:=by
   rcases how.2 with ⟨q,_⟩ | ⟨g',cap,cur,q,_,_,hc,_⟩
   ·cases q
   ·injection q with q1 q2 q3;omega
  clear how hLa HS hm1 hm hgw
  have hai:(a:Int)<(n:Int):=by omega
  have hHA:∀ b:Bool,Pl.inW ws a=b->Hid (Calls Tryz.prog 72 #[(.slice (some ⟨w.heap.size,0,none⟩) k k),.int .i64 (a:Int)] wr fun e w'=>e=.returned (.bool b)/\w'=wr):=fun b hb=>by
   have:=hasS_is w.heap.size k k a ws wr HP.out.lv HP.out.sm HP.out.ln (by have:=HK.out;omega) (by omega)
   rw[hb]at this
   exact this
  by_cases hin:Pl.inW ws a=true
  ·have HHA:=hHA true hin
   have HN:Hid (LaW w k wr ws wl1 (some ⟨gw,0,none⟩) cw/\Pl.LaI code (r:Int) ws wl1 none []/\wl1.length+Pl.mu (fun j=>(B.N j).length) (Pl.inW ws) n<=200000000):=⟨HP.out,HLI.out.1.skip hin,by have:=HLI.out.2;have:=HM.out;omega⟩
   clear hHA hin
   go_wp2_with fail
   refine (HHA.out).mono ?_
   rintro e z1 ⟨rfl,g1⟩
   rw[g1]
   clear g1 z1
   go_wp2_with fail
   refine⟨⟨ws,wl1,_,cw,by rw[HM.out],HN⟩,by simp[lenOf]⟩
  have hinf:Pl.inW ws a=false:=by simpa using hin
  have HHA:=hHA false hinf
  have HPU:Hid (∀ (u:World) (b:Nat),Below wr.heap.size wr u->b=u.heap.size->Calls Tryz.prog 73 #[(.slice (some ⟨w.heap.size,0,none⟩) k k),.slice (some ⟨b,0,none⟩) 1 1] (u.alloc (.cells #[.int .i64 (a:Int)] 108)) fun e w'=>(∃ v,e=.returned v)/\LaW w k w' (Pl.putsW ws [a]) wl1 (some ⟨gw,0,none⟩) cw):=fun u b hu hb=>by
   have h1:=(HP.out.later hu).later (below_alloc u (.cells #[.int .i64 (a:Int)] 108))
   have hz2:=((HP.out.later hu).lv.lt w.heap.size rfl).2
   refine (putS_is w.heap.size k k ws (some ⟨b,0,none⟩) 1 1 [a] _ h1.lv h1.sm h1.ln (fun q hq=>by simp at hq;subst hq;have:=HK.out;omega) (by omega) (row_one u a (by omega) b hb) (fun b' off e=>?_)).mono fun e w' q=>⟨q.1,h1.put q.2.1 q.2.2⟩
   injection e with e
   injection e with e1 e2
   omega
  obtain⟨W2,hW2⟩:∃ W2,W2=Pl.putsW ws [a]:=⟨_,rfl⟩
  have hkl:a / 64<ws.length:=by have:=HP.out.ln;have:=HK.out;omega
  have HW2:Hid ((∀ q,Pl.inW W2 q=(Pl.inW ws q || decide (q=a)))/\Pl.mu (fun j=>(B.N j).length) (Pl.inW W2) n+((B.N a).length+1)=Pl.mu (fun j=>(B.N j).length) (Pl.inW ws) n):=by
   have e:∀ q,Pl.inW W2 q=(Pl.inW ws q || decide (q=a)):=fun q=>by rw[hW2];exact Pl.inW_put ws a q hkl
   exact⟨e,Pl.mu_mark (fun j=>(B.N j).length) (Pl.inW ws) (Pl.inW W2) a hinf e n han⟩
  rw[<- hW2]at HPU
  have HLJ:Hid (Pl.LaI code (r:Int) W2 wl1 (some a) []):=HLI.out.1.mark (fun q=>by rw[HW2.out.1 q];simp) hinf
  clear hW2 hkl hHA hin hinf
  go_wp2_with fail
  refine (HHA.out).mono ?_
  rintro e z1 ⟨rfl,g1⟩
  rw[g1]
  clear g1 z1 HHA
  go_wp2_with fail
  refine (HPU.out wr _ (Below.refl _ _) rfl).mono ?_
  rintro e u3 ⟨⟨v3,rfl⟩,hla3⟩
  have H3:Hid (LaW w k u3 W2 wl1 (some ⟨gw,0,none⟩) cw):=hla3
  have hL3:=HL.out u3 hla3.bel
  have e0:u3.cell? ⟨gl,0,none⟩=some (.slice (some ⟨gb,0,none⟩) n n):=hL3.cell 0
  obtain⟨bl,hbl⟩:∃ bl,bl=B.N a:=⟨_,rfl⟩
  obtain⟨ab,hab⟩:∃ q,q=B.A a:=⟨_,rfl⟩
  obtain⟨cb,hcb⟩:∃ q,q=B.C a:=⟨_,rfl⟩
  have eb:u3.cell? ⟨gb,a,none⟩=some (.slice ab bl.length cb):=by rw[hbl,hab,hcb,<- Gd.len_L];exact hL3.rb.cell han
  have HBL:Hid (bl=B.N a/\∀ u:World,Below w.heap.size w u->u.ownsRow W0.heap.size 108 1 (.slice ab bl.length cb) bl.length (bl.map (Value.int .i64))):=⟨hbl,fun u hu=>by
   have:=(HL.out u hu).rb.nr a han
   rw[Gd.len_L]at this
   rw[hbl,hab,hcb];exact this⟩
  have hbl16:bl.length<=16000:=by rw[hbl];have:=(HF.out.1.b a).1;omega
  clear hla3 hL3 hbl hab hcb HPU
  go_wp2_with fail
  go_loopw [6,53] (fun v t wr=>∃ (j:Nat) (wl:List Int) (aw:Option Addr) (cw:Nat),j<=bl.length/\t=.int .i64 (j:Int)/\v=.slice aw wl.length cw/\Hid (LaW w k wr W2 wl aw cw/\Pl.LaI code (r:Int) W2 wl (some a) (bl.take j)/\wl.length<=m+j)) (fun _ t _=>bl.length-(intOf t).toNat)
  case atStart=>exact⟨0,wl1,_,cw,Nat.zero_le _,rfl,by rw[HM.out],H3.out,HLJ.out,by have:=HM.out;omega⟩
  case round=>
   obtain⟨j,wl,aw,cw2,hj,rfl,rfl,HS⟩:=hrel
   by_cases hjl:j<bl.length
   rotate_left
   ·have hji:¬ ((j:Int)<(bl.length:Int)):=by omega
    have hje:j=bl.length:=by omega
    have HN:Hid ((LaW w k wr W2 wl aw cw2/\Pl.LaI code (r:Int) W2 wl none []/\wl.length+Pl.mu (fun j=>(B.N j).length) (Pl.inW W2) n<=200000000)/\wl.length+Pl.mu (fun j=>(B.N j).length) (Pl.inW W2) n<m+1+Pl.mu (fun j=>(B.N j).length) (Pl.inW ws) n):=by
     have h1:=HW2.out.2
     have h2:=HLI.out.2
     have h3:=HBL.out.1
     have h4:bl.length=(B.N a).length:=by rw[h3]
     have h5:=HS.out.2.2
     refine⟨⟨HS.out.1,HS.out.2.1.all ?_ fun i h1 h2=>?_,by omega⟩,by omega⟩
     ·rw[HW2.out.1];simp
     ·rw[hje,List.take_length,h3,(HF.out.1.b a).2]
      exact .inl ⟨i,rfl,by have:=HF.out.2;omega,h2⟩
    have HW3:Hid (wsOf wr w.heap.size k=W2):=wsOf_eq HS.out.1.lv HS.out.1.ln
    clear hje HS
    go_wp2_with fail
    refine⟨⟨W2,wl,aw,cw2,rfl,HN.out.1⟩,?_⟩
    rw[HW3.out,HWS.out]
    exact HN.out.2
   have hji:(j:Int)<(bl.length:Int):=by omega
   have hrow:=HBL.out.2 wr HS.out.1.bel
   obtain⟨gx,cx,hv,_,hgx⟩:=hrow.form (by omega)
   injection hv with hv1 hv2 hv3
   subst hv1 hv3
   have cn:=own_nx hrow hjl rfl
   obtain⟨p,hp0,hpn,hpx⟩:∃ p:Nat,bl.getD j 0=(p:Int)/\p<n/\Pl.Nx code p a:=by
    have hmem:bl.getD j 0∈B.N a:=by rw[<- HBL.out.1,List.getD_eq_getElem?_getD,List.getElem?_eq_getElem hjl];exact List.getElem_mem _
    rw[(HF.out.1.b a).2]at hmem
    rcases hmem with q | ⟨_,q⟩
    ·exact q
    ·cases q
   have HTK:Hid (bl.take (j+1)=bl.take j ++ [(p:Int)]):=by rw[<- hp0];exact take_succ_getD hjl
   rw[hp0]at cn
   have hL4:=HL.out wr HS.out.1.bel
   have f1:wr.cell? ⟨gl,1,none⟩=some (.slice (some ⟨gs,0,none⟩) n n):=hL4.cell 1
   have fs:wr.cell? ⟨gs,p,none⟩=some (.int .i64 (ss.getD p 0)):=own_nx hL4.sl hpn hL4.sn
   have hsp:=(HF.out.1.z.1 p hpn r)
   rw[show ss.getD p (-1)=ss.getD p 0 from by rw[List.getD_eq_getElem?_getD,List.getD_eq_getElem?_getD,List.getElem?_eq_getElem (by have:=hL4.sn;omega)];rfl]at hsp
   have hpi:(p:Int)<(n:Int):=by omega
   have HNX:Hid (Pl.Nx code p a/\p<code.length):=⟨hpx,by have:=HF.out.2;omega⟩
   have HB8:Hid (w.heap.size<=wr.heap.size):=HS.out.1.bel.size
   obtain⟨sp,hspe⟩:∃ sp,sp=ss.getD p 0:=⟨_,rfl⟩
   rw[<- hspe]at fs hsp
   have hwl8:wl.length<=300000000:=by have:=HS.out.2.2;omega
   clear hrow hp0 hpx hL4 hspe hgx
   by_cases hse:sp=(r:Int)
   ·have hb:(sp != (r:Int))=false:=by simp[hse]
    have HN:Hid (LaW w k wr W2 wl aw cw2/\Pl.LaI code (r:Int) W2 wl (some a) (bl.take (j+1))/\wl.length<=m+(j+1)):=by
     refine⟨HS.out.1,?_,by have:=HS.out.2.2;omega⟩
     rw[HTK.out];exact HS.out.2.1.pass (hsp.1 hse)
    clear hse hsp HS
    go_wp2_with fail
    go_roundw
    case rel=>exact⟨j+1,wl,aw,cw2,by omega,by go_num,rfl,HN⟩
    case measure=>simp[intOf];omega
   ·have hb:(sp != (r:Int))=true:=by simpa using hse
    have HSE:Hid (¬ Pl.Se code p (r:Int)):=fun q=>hse (hsp.2 q)
    obtain⟨M,hM⟩:∃ M,M=wl.length:=⟨_,rfl⟩
    have HMM:Hid (M=wl.length):=hM
    have HOW:Hid (wr.ownsRow w.heap.size 108 1 (.slice aw M cw2) M (wl.map (Value.int .i64))):=by rw[hM];exact HS.out.1.wt
    rw[<- hM]at hwl8 ⊢
    clear hse hsp hM
    go_wp2_with (at_builtin;refine wpList_append_lies _ rfl (.tmp 66) (.tmp 68) 119 rfl w.heap.size 108 i0 (.int .i64 0) 1 8 Tryz.underlying119 HI.out.1 HI.out.2.1 HI.out.2.2.1 HI.out.2.2.2 rfl (by decide) (.slice aw M cw2) M (wl.map (Value.int .i64)) rfl (World.ownsRow.alloc HOW.out _) ⟨wr.heap.size,0,none⟩ 1 1 [.int .i64 (p:Int)] rfl rfl (World.news_of_block (heap_alloc_new wr (.cells #[.int .i64 (p:Int)] 108))) (by intro u hu;simp at hu;subst hu;rfl) (by decide) (by unfold maxLen;omega) (by omega) (by have:=HB8.out;simp;omega) (wr.heap.size+1) (by simp) ?_;intro g2 c2 y2 hown hgr hli hlt2;have H5:Hid (y2.ownsRow w.heap.size 108 1 (.slice (some ⟨g2,0,none⟩) (M+1) c2) (M+1) (wl.map (Value.int .i64) ++ [.int .i64 (p:Int)])/\(wr.alloc (.cells #[.int .i64 (p:Int)] 108)).grownBy y2 (Value.slice aw M cw2).ownBlock/\((Value.slice aw M cw2).ownBlock=some g2\/g2=wr.heap.size+1)):=⟨hown,hgr,hli⟩; clear hown hgr hli hlt2)
    have HN:Hid (LaW w k y2 W2 (wl ++ [(p:Int)]) (some ⟨g2,0,none⟩) c2/\Pl.LaI code (r:Int) W2 (wl ++ [(p:Int)]) (some a) (bl.take (j+1))/\(wl ++ [(p:Int)]).length<=m+(j+1)):=by
     have e:=HMM.out
     have h5:=H5.out
     rw[e]at h5
     refine⟨HS.out.1.push (below_alloc wr _) h5.1 h5.2.1 (by rcases h5.2.2 with q | q;exact .inl q;exact .inr (by rw[q];simp)),?_,by have:=HS.out.2.2;simp;omega⟩
     rw[HTK.out];exact HS.out.2.1.push HNX.out.2 HLA.out HNX.out.1 HSE.out
    have HLN:Hid (M+1=(wl ++ [(p:Int)]).length):=by have:=HMM.out;show _=_;simp;omega
    clear HS H5 HMM HOW
    refine⟨⟨j+1,wl ++ [(p:Int)],_,c2,by omega,by go_num,by rw[<- HLN.out],HN⟩,by simp[intOf];omega⟩
end Go.Proofs.YtcgfgmlfbgbkfaaGreatDoor.W
