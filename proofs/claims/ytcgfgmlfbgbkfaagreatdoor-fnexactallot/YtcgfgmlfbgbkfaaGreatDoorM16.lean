import Derived.Test.YtcgfgmlfbgbkfaaGreatDoorM15
import Derived.Test.YtcgfgmlfbgbkfaaGreatDoorM11
import Derived.BigQuiet
set_option linter.unusedVariables false
set_option linter.unusedSimpArgs false
set_option maxHeartbeats 16000000
namespace Go.Proofs.YtcgfgmlfbgbkfaaGreatDoor.W
open Go.RowKit
noncomputable def rrC3 (n:Nat):Code:=((Tryz.f32.body.bind (codeAtR n)).getD .skip)
def Rr3Mk (gr g6:Nat) (x wx:Pl.IrI) (y2:SV) (T:TypeId) (c:Value) (c0 c1 c2 c3 c5 c9 c10 c11 c12 c13 c14 c15 c16 c17 c18 c19 c20 c21 c22 c23 c24 c25 c26 c27 c28 c29 c30 c31 c32 c33 c34 c35 c36 c37 c38 c39 c40 c41 c42 c43 c44 c45 c46 c47 c48 c49 c50 c51 c52 c53 c54 c55 c56 c57 c58 c59 c60 c61 c62 c63 c64 c65 c66 c67 c68 c69 c70 c71 c72 c73 c74 c75 c76 c77 c78 c79 c80 c81 c82 c83 c84 c85 c86 c87 c88 c89 c90 c91 c92 c93 c94 c95 c96 c97 c98 c99 c100 c101 c102:Value) (v2:SV) (L:Array Bool):Act:={ tmps:=#[c0,c1,c2,c3,.pointer (some ⟨gr,0,none⟩),c5,.pointer (some ⟨g6,0,none⟩),.iface T c,.bool true,c9,c10,c11,c12,c13,c14,c15,c16,c17,c18,c19,c20,c21,c22,c23,c24,c25,c26,c27,c28,c29,c30,c31,c32,c33,c34,c35,c36,c37,c38,c39,c40,c41,c42,c43,c44,c45,c46,c47,c48,c49,c50,c51,c52,c53,c54,c55,c56,c57,c58,c59,c60,c61,c62,c63,c64,c65,c66,c67,c68,c69,sld c70 L 0 (.bool true),sld c71 L 1 (.bool false),sld c72 L 2 (.bool false),sld c73 L 3 (.iface T c),sld c74 L 4 (.agg #[.int .i64 wx.op,.int .i64 wx.d,.int .i64 wx.a,.int .i64 wx.b,.int .i64 wx.n,.string wx.sym,.slice v2.a v2.len v2.cap]),sld c75 L 5 (.agg #[.int .i64 x.op,.int .i64 x.d,.int .i64 x.a,.int .i64 x.b,.int .i64 x.n,.string x.sym,.slice y2.a y2.len y2.cap]),sld c76 L 6 (.bool true),sld c77 L 7 (.bool false),sld c78 L 8 (.bool false),sld c79 L 9 (.bool false),sld c80 L 10 (.pointer (some ⟨gr,0,none⟩)),sld c81 L 11 (.iface T c),sld c82 L 12 (.bool true),sld c83 L 13 (.bool false),sld c84 L 14 (.bool false),sld c85 L 15 (.bool false),sld c86 L 16 (.iface T c),sld c87 L 17 (.pointer (some ⟨gr,0,none⟩)),sld c88 L 18 (.bool false),sld c89 L 19 (.bool true),sld c90 L 20 (.bool true),c91,c92,c93,c94,c95,c96,c97,c98,c99,c100,c101,c102],defers:=[] }
def Rr3W (y:World) (wx:Pl.IrI) (v2:SV) (L:Array Bool) (w:World):Prop:=Below y.heap.size y w/\(up L 4=true->Row .i64 0 w v2.a v2.len v2.cap wx.args)
theorem Rr3W.keep {y:World} {wx:Pl.IrI} {v2:SV} {L:Array Bool} {w:World} (h:Rr3W y wx v2 L w) {i:Nat} (hi:i<L.size) (n:i≠4) {w':World} (hB:Below w.heap.size w w'):Rr3W y wx v2 (L.setIfInBounds i true) w':=
 ⟨h.1.trans (hB.mono h.1.size),fun q=>by rw[up_set hi,if_neg n]at q;exact (h.2 q).keep hB⟩
set_option maxRecDepth 100000 in
theorem rr10_3 {y:World} {gr g6:Nat} {x wx:Pl.IrI} {y2:SV} {T:TypeId} {c:Value} {F1 F4:Nat} {r1 r4:Value} (hbx:y.heap[g6]?=some (.cells #[.int .i64 x.op,.int .i64 x.d,.int .i64 x.a,.int .i64 x.b,.int .i64 x.n,.string x.sym,.slice y2.a y2.len y2.cap] 81 (0,0))) (hm1:∀ u:World,(method 365 T c "loop.example/s01681/impl.written").run Tryz.prog u=.ok (F1,r1) u) (hf1:∀ (vs:Array Value) (u:World),(callFunc F1 vs).run Tryz.prog u=.ok (.enter F1 vs) u) (hWR:∀ u:World,Below y.heap.size y u->Calls Tryz.prog F1 #[r1] u fun e u'=>∃ v2:SV,e=.returned (.agg #[.int .i64 wx.op,.int .i64 wx.d,.int .i64 wx.a,.int .i64 wx.b,.int .i64 wx.n,.string wx.sym,.slice v2.a v2.len v2.cap])/\Row .i64 0 u' v2.a v2.len v2.cap wx.args/\Below u.heap.size u u') (hSM:∀ (u:World) (v2:SV),Below y.heap.size y u->Row .i64 0 u v2.a v2.len v2.cap wx.args->Calls Tryz.prog 59 #[.agg #[.int .i64 wx.op,.int .i64 wx.d,.int .i64 wx.a,.int .i64 wx.b,.int .i64 wx.n,.string wx.sym,.slice v2.a v2.len v2.cap],.agg #[.int .i64 x.op,.int .i64 x.d,.int .i64 x.a,.int .i64 x.b,.int .i64 x.n,.string x.sym,.slice y2.a y2.len y2.cap]] u fun e u'=>e=.returned (.bool true)/\Below u.heap.size u u') (hRG:∀ u:World,Below y.heap.size y u->Calls Tryz.prog 60 #[.pointer (some ⟨gr,0,none⟩),.iface T c] u fun e u'=>e=.returned (.bool true)/\Below u.heap.size u u') (hm4:∀ u:World,(method 365 T c "loop.example/s01681/impl.fits").run Tryz.prog u=.ok (F4,r4) u) (hf4:∀ (vs:Array Value) (u:World),(callFunc F4 vs).run Tryz.prog u=.ok (.enter F4 vs) u) (hFT:∀ u:World,Below y.heap.size y u->Calls Tryz.prog F4 #[r4,.pointer (some ⟨gr,0,none⟩)] u fun e u'=>e=.returned (.bool false)/\Below u.heap.size u u') (c0 c1 c2 c3 c5 c9 c10 c11 c12 c13 c14 c15 c16 c17 c18 c19 c20 c21 c22 c23 c24 c25 c26 c27 c28 c29 c30 c31 c32 c33 c34 c35 c36 c37 c38 c39 c40 c41 c42 c43 c44 c45 c46 c47 c48 c49 c50 c51 c52 c53 c54 c55 c56 c57 c58 c59 c60 c61 c62 c63 c64 c65 c66 c67 c68 c69 c70 c71 c72 c73 c74 c75 c76 c77 c78 c79 c80 c81 c82 c83 c84 c85 c86 c87 c88 c89 c90 c91 c92 c93 c94 c95 c96 c97 c98 c99 c100 c101 c102:Value) (Q:Exit->Act->World->Prop)
  (hK:∀ (s70 s71 s72 s73 s74 s75 s76 s77 s78 s79 s80 s81 s82 s83 s84 s85 s86 s87 s88 s89:Value) (y':World),Below y.heap.size y y'->Q .normal { tmps:=#[c0,c1,c2,c3,.pointer (some ⟨gr,0,none⟩),c5,.pointer (some ⟨g6,0,none⟩),.iface T c,.bool true,c9,c10,c11,c12,c13,c14,c15,c16,c17,c18,c19,c20,c21,c22,c23,c24,c25,c26,c27,c28,c29,c30,c31,c32,c33,c34,c35,c36,c37,c38,c39,c40,c41,c42,c43,c44,c45,c46,c47,c48,c49,c50,c51,c52,c53,c54,c55,c56,c57,c58,c59,c60,c61,c62,c63,c64,c65,c66,c67,c68,c69,s70,s71,s72,s73,s74,s75,s76,s77,s78,s79,s80,s81,s82,s83,s84,s85,s86,s87,s88,s89,.bool true,c91,c92,c93,c94,c95,c96,c97,c98,c99,c100,c101,c102],defers:=[] } y') :
  (rrC3 10).wp Tryz.prog Q { tmps:=#[c0,c1,c2,c3,.pointer (some ⟨gr,0,none⟩),c5,.pointer (some ⟨g6,0,none⟩),.iface T c,.bool true,c9,c10,c11,c12,c13,c14,c15,c16,c17,c18,c19,c20,c21,c22,c23,c24,c25,c26,c27,c28,c29,c30,c31,c32,c33,c34,c35,c36,c37,c38,c39,c40,c41,c42,c43,c44,c45,c46,c47,c48,c49,c50,c51,c52,c53,c54,c55,c56,c57,c58,c59,c60,c61,c62,c63,c64,c65,c66,c67,c68,c69,c70,c71,c72,c73,c74,c75,c76,c77,c78,c79,c80,c81,c82,c83,c84,c85,c86,c87,c88,c89,c90,c91,c92,c93,c94,c95,c96,c97,c98,c99,c100,c101,c102],defers:=[] } y:=by
 have HKt:Hid _:=hK
 clear hK
 have HWR:Hid _:=hWR
 have HSM:Hid _:=hSM
 clear hWR hSM
 have HRG:Hid _:=hRG
 clear hRG
 have HFT:Hid _:=hFT
 clear hFT
 conv=>arg 2;whnf
 have d0:=cell_of_row y g6 0 _ 81 (0,0) hbx
 have d1:=cell_of_row y g6 1 _ 81 (0,0) hbx
 have d2:=cell_of_row y g6 2 _ 81 (0,0) hbx
 have d3:=cell_of_row y g6 3 _ 81 (0,0) hbx
 have d4:=cell_of_row y g6 4 _ 81 (0,0) hbx
 have d5:=cell_of_row y g6 5 _ 81 (0,0) hbx
 have d6:=cell_of_row y g6 6 _ 81 (0,0) hbx
 simp only[List.getElem?_toArray,List.getElem?_cons_zero,List.getElem?_cons_succ]at d0 d1 d2 d3 d4 d5 d6
 clear hbx
 refine wp_region_any (by kernel_rfl) ?_
 change wpAny _ _ _ _ _ _ _ (World.drew _)
 refine wpAny_inw (fun L a w=>∃ v2,a=Rr3Mk gr g6 x wx y2 T c c0 c1 c2 c3 c5 c9 c10 c11 c12 c13 c14 c15 c16 c17 c18 c19 c20 c21 c22 c23 c24 c25 c26 c27 c28 c29 c30 c31 c32 c33 c34 c35 c36 c37 c38 c39 c40 c41 c42 c43 c44 c45 c46 c47 c48 c49 c50 c51 c52 c53 c54 c55 c56 c57 c58 c59 c60 c61 c62 c63 c64 c65 c66 c67 c68 c69 c70 c71 c72 c73 c74 c75 c76 c77 c78 c79 c80 c81 c82 c83 c84 c85 c86 c87 c88 c89 c90 c91 c92 c93 c94 c95 c96 c97 c98 c99 c100 c101 c102 v2 L/\Rr3W y wx v2 L w) ?done (by kernel_rfl) ?step _ 21 _ _ (by kernel_rfl) ?init (by decide)
 case init=>exact⟨⟨none,0,0⟩,by simp only[Rr3Mk,sld_no (up_init _ _)],Below.drew (Below.refl _ _),fun q=>absurd (q.symm.trans (up_init _ _)) (by decide)⟩
 case step=>
  intro L act w i o hI hlt hs nl hC hd ho K hK
  obtain⟨v2,rfl,hW⟩:=hI
  have hi_lt:i<21:=(Array.getElem?_eq_some_iff.1 ho).1
  rcases (show i=0\/i=1\/i=2\/i=3\/i=4\/i=5\/i=6\/i=7\/i=8\/i=9\/i=10\/i=11\/i=12\/i=13\/i=14\/i=15\/i=16\/i=17\/i=18\/i=19\/i=20 by omega) with rfl | rfl | rfl | rfl | rfl | rfl | rfl | rfl | rfl | rfl | rfl | rfl | rfl | rfl | rfl | rfl | rfl | rfl | rfl | rfl | rfl
  ·change some _=some o at ho
   cases ho
   simp only[Rr3Mk]
   go_simp
   exact hK _ _ ⟨v2,by simp only[Rr3Mk,sld_set hlt,reduceIte,Nat.reduceEqDiff];try rfl,(hW.keep hlt (by decide) (Below.refl _ _))⟩
  ·change some _=some o at ho
   cases ho
   have q0:up L 0=true:=hd { on:=0,ground:=.data } (by simp) rfl
   simp only[Rr3Mk,sld_yes q0]
   go_simp
   exact hK _ _ ⟨v2,by simp only[Rr3Mk,sld_set hlt,sld_yes q0,reduceIte,Nat.reduceEqDiff];try rfl,(hW.keep hlt (by decide) (Below.refl _ _))⟩
  ·change some _=some o at ho
   cases ho
   have q1:up L 1=true:=hd { on:=1,ground:=.data } (by simp) rfl
   simp only[Rr3Mk,sld_yes q1]
   go_simp
   exact hK _ _ ⟨v2,by simp only[Rr3Mk,sld_set hlt,sld_yes q1,reduceIte,Nat.reduceEqDiff];try rfl,(hW.keep hlt (by decide) (Below.refl _ _))⟩
  ·change some _=some o at ho
   cases ho
   have q2:up L 2=true:=(hd { on:=2,ground:=.guard } (by simp) rfl)
   simp only[Rr3Mk,sld_yes q2]
   go_simp
   exact hK _ _ ⟨v2,by simp only[Rr3Mk,sld_set hlt,sld_yes q2,reduceIte,Nat.reduceEqDiff];try rfl,(hW.keep hlt (by decide) (Below.refl _ _))⟩
  ·change some _=some o at ho
   cases ho
   have q2:up L 2=true:=(hd { on:=2,ground:=.guard } (by simp) rfl)
   have q3:up L 3=true:=hd { on:=3,ground:=.data } (by simp) rfl
   have n6:up L 6=false:=hC.no nl 6 rfl (by kernel_rfl)
   simp only[Rr3Mk,sld_yes q2,sld_yes q3]
   go_simp
   refine (HWR.out w hW.1).mono ?_
   rintro e z ⟨v2',rfl,oz,dz⟩
   go_simp
   exact hK _ _ ⟨v2',by simp only[Rr3Mk,sld_set hlt,sld_yes q2,sld_yes q3,reduceIte,Nat.reduceEqDiff];try rfl,⟨hW.1.trans (dz.mono hW.1.size),fun _=>oz⟩⟩
  ·change some _=some o at ho
   cases ho
   have q2:up L 2=true:=(hd { on:=2,ground:=.guard } (by simp) rfl)
   have k0:=below_cell hW.1 d0
   have k1:=below_cell hW.1 d1
   have k2:=below_cell hW.1 d2
   have k3:=below_cell hW.1 d3
   have k4:=below_cell hW.1 d4
   have k5:=below_cell hW.1 d5
   have k6:=below_cell hW.1 d6
   simp only[Rr3Mk,sld_yes q2]
   go_simp
   exact hK _ _ ⟨v2,by simp only[Rr3Mk,sld_set hlt,sld_yes q2,reduceIte,Nat.reduceEqDiff];try rfl,(hW.keep hlt (by decide) (Below.refl _ _))⟩
  ·change some _=some o at ho
   cases ho
   have q2:up L 2=true:=(hd { on:=2,ground:=.guard } (by simp) rfl)
   have q4:up L 4=true:=hd { on:=4,ground:=.data } (by simp) rfl
   have q5:up L 5=true:=hd { on:=5,ground:=.data } (by simp) rfl
   simp only[Rr3Mk,sld_yes q2,sld_yes q4,sld_yes q5]
   go_simp
   refine (HSM.out w v2 hW.1 (hW.2 q4)).mono ?_
   rintro e z ⟨rfl,dz⟩
   go_simp
   exact hK _ _ ⟨v2,by simp only[Rr3Mk,sld_set hlt,sld_yes q2,sld_yes q4,sld_yes q5,reduceIte,Nat.reduceEqDiff];try rfl,(hW.keep hlt (by decide) dz)⟩
  ·change some _=some o at ho
   cases ho
   have q2:up L 2=true:=(hd { on:=2,ground:=.guard } (by simp) rfl)
   have q6:up L 6=true:=hd { on:=6,ground:=.data } (by simp) rfl
   simp only[Rr3Mk,sld_yes q2,sld_yes q6]
   go_simp
   exact hK _ _ ⟨v2,by simp only[Rr3Mk,sld_set hlt,sld_yes q2,sld_yes q6,reduceIte,Nat.reduceEqDiff];try rfl,(hW.keep hlt (by decide) (Below.refl _ _))⟩
  ·change some _=some o at ho
   cases ho
   have q2:up L 2=true:=hd { on:=2,ground:=.data } (by simp) rfl
   have q7:up L 7=true:=hd { on:=7,ground:=.data } (by simp) rfl
   simp only[Rr3Mk,sld_yes q2,sld_yes q7]
   go_simp
   exact hK _ _ ⟨v2,by simp only[Rr3Mk,sld_set hlt,sld_yes q2,sld_yes q7,reduceIte,Nat.reduceEqDiff];try rfl,(hW.keep hlt (by decide) (Below.refl _ _))⟩
  ·change some _=some o at ho
   cases ho
   have q8:up L 8=true:=hd { on:=8,ground:=.data } (by simp) rfl
   simp only[Rr3Mk,sld_yes q8]
   go_simp
   exact hK _ _ ⟨v2,by simp only[Rr3Mk,sld_set hlt,sld_yes q8,reduceIte,Nat.reduceEqDiff];try rfl,(hW.keep hlt (by decide) (Below.refl _ _))⟩
  ·change some _=some o at ho
   cases ho
   have q9:up L 9=true:=(hd { on:=9,ground:=.guard } (by simp) rfl)
   simp only[Rr3Mk,sld_yes q9]
   go_simp
   exact hK _ _ ⟨v2,by simp only[Rr3Mk,sld_set hlt,sld_yes q9,reduceIte,Nat.reduceEqDiff];try rfl,(hW.keep hlt (by decide) (Below.refl _ _))⟩
  ·change some _=some o at ho
   cases ho
   have q9:up L 9=true:=(hd { on:=9,ground:=.guard } (by simp) rfl)
   simp only[Rr3Mk,sld_yes q9]
   go_simp
   exact hK _ _ ⟨v2,by simp only[Rr3Mk,sld_set hlt,sld_yes q9,reduceIte,Nat.reduceEqDiff];try rfl,(hW.keep hlt (by decide) (Below.refl _ _))⟩
  ·change some _=some o at ho
   cases ho
   have q9:up L 9=true:=(hd { on:=9,ground:=.guard } (by simp) rfl)
   have q10:up L 10=true:=hd { on:=10,ground:=.data } (by simp) rfl
   have q11:up L 11=true:=hd { on:=11,ground:=.data } (by simp) rfl
   simp only[Rr3Mk,sld_yes q9,sld_yes q10,sld_yes q11]
   go_simp
   refine (HRG.out w hW.1).mono ?_
   rintro e z ⟨rfl,dz⟩
   go_simp
   exact hK _ _ ⟨v2,by simp only[Rr3Mk,sld_set hlt,sld_yes q9,sld_yes q10,sld_yes q11,reduceIte,Nat.reduceEqDiff];try rfl,(hW.keep hlt (by decide) dz)⟩
  ·change some _=some o at ho
   cases ho
   have q9:up L 9=true:=(hd { on:=9,ground:=.guard } (by simp) rfl)
   have q12:up L 12=true:=hd { on:=12,ground:=.data } (by simp) rfl
   simp only[Rr3Mk,sld_yes q9,sld_yes q12]
   go_simp
   exact hK _ _ ⟨v2,by simp only[Rr3Mk,sld_set hlt,sld_yes q9,sld_yes q12,reduceIte,Nat.reduceEqDiff];try rfl,(hW.keep hlt (by decide) (Below.refl _ _))⟩
  ·change some _=some o at ho
   cases ho
   have q9:up L 9=true:=hd { on:=9,ground:=.data } (by simp) rfl
   have q13:up L 13=true:=hd { on:=13,ground:=.data } (by simp) rfl
   simp only[Rr3Mk,sld_yes q9,sld_yes q13]
   go_simp
   exact hK _ _ ⟨v2,by simp only[Rr3Mk,sld_set hlt,sld_yes q9,sld_yes q13,reduceIte,Nat.reduceEqDiff];try rfl,(hW.keep hlt (by decide) (Below.refl _ _))⟩
  ·change some _=some o at ho
   cases ho
   have q14:up L 14=true:=hd { on:=14,ground:=.data } (by simp) rfl
   simp only[Rr3Mk,sld_yes q14]
   go_simp
   exact hK _ _ ⟨v2,by simp only[Rr3Mk,sld_set hlt,sld_yes q14,reduceIte,Nat.reduceEqDiff];try rfl,(hW.keep hlt (by decide) (Below.refl _ _))⟩
  ·change some _=some o at ho
   cases ho
   have q15:up L 15=true:=(hd { on:=15,ground:=.guard } (by simp) rfl)
   simp only[Rr3Mk,sld_yes q15]
   go_simp
   exact hK _ _ ⟨v2,by simp only[Rr3Mk,sld_set hlt,sld_yes q15,reduceIte,Nat.reduceEqDiff];try rfl,(hW.keep hlt (by decide) (Below.refl _ _))⟩
  ·change some _=some o at ho
   cases ho
   have q15:up L 15=true:=(hd { on:=15,ground:=.guard } (by simp) rfl)
   simp only[Rr3Mk,sld_yes q15]
   go_simp
   exact hK _ _ ⟨v2,by simp only[Rr3Mk,sld_set hlt,sld_yes q15,reduceIte,Nat.reduceEqDiff];try rfl,(hW.keep hlt (by decide) (Below.refl _ _))⟩
  ·change some _=some o at ho
   cases ho
   have q15:up L 15=true:=(hd { on:=15,ground:=.guard } (by simp) rfl)
   have q16:up L 16=true:=hd { on:=16,ground:=.data } (by simp) rfl
   have q17:up L 17=true:=hd { on:=17,ground:=.data } (by simp) rfl
   simp only[Rr3Mk,sld_yes q15,sld_yes q16,sld_yes q17]
   go_simp
   refine (HFT.out w hW.1).mono ?_
   rintro e z ⟨rfl,dz⟩
   go_simp
   exact hK _ _ ⟨v2,by simp only[Rr3Mk,sld_set hlt,sld_yes q15,sld_yes q16,sld_yes q17,reduceIte,Nat.reduceEqDiff];try rfl,(hW.keep hlt (by decide) dz)⟩
  ·change some _=some o at ho
   cases ho
   have q15:up L 15=true:=(hd { on:=15,ground:=.guard } (by simp) rfl)
   have q18:up L 18=true:=hd { on:=18,ground:=.data } (by simp) rfl
   simp only[Rr3Mk,sld_yes q15,sld_yes q18]
   go_simp
   exact hK _ _ ⟨v2,by simp only[Rr3Mk,sld_set hlt,sld_yes q15,sld_yes q18,reduceIte,Nat.reduceEqDiff];try rfl,(hW.keep hlt (by decide) (Below.refl _ _))⟩
  ·change some _=some o at ho
   cases ho
   have q15:up L 15=true:=hd { on:=15,ground:=.data } (by simp) rfl
   have q19:up L 19=true:=hd { on:=19,ground:=.data } (by simp) rfl
   simp only[Rr3Mk,sld_yes q15,sld_yes q19]
   go_simp
   exact hK _ _ ⟨v2,by simp only[Rr3Mk,sld_set hlt,sld_yes q15,sld_yes q19,reduceIte,Nat.reduceEqDiff];try rfl,(hW.keep hlt (by decide) (Below.refl _ _))⟩
 case done=>
  rintro L a w ⟨v2,rfl,hW⟩ hall
  simp only[Rr3Mk,sld_yes (hall 0 (by decide)),sld_yes (hall 1 (by decide)),sld_yes (hall 2 (by decide)),sld_yes (hall 3 (by decide)),sld_yes (hall 4 (by decide)),sld_yes (hall 5 (by decide)),sld_yes (hall 6 (by decide)),sld_yes (hall 7 (by decide)),sld_yes (hall 8 (by decide)),sld_yes (hall 9 (by decide)),sld_yes (hall 10 (by decide)),sld_yes (hall 11 (by decide)),sld_yes (hall 12 (by decide)),sld_yes (hall 13 (by decide)),sld_yes (hall 14 (by decide)),sld_yes (hall 15 (by decide)),sld_yes (hall 16 (by decide)),sld_yes (hall 17 (by decide)),sld_yes (hall 18 (by decide)),sld_yes (hall 19 (by decide)),sld_yes (hall 20 (by decide))]
  exact HKt.out _ _ _ _ _ _ _ _ _ _ _ _ _ _ _ _ _ _ _ _ w hW.1
noncomputable def rrC4 (n:Nat):Code:=((Tryz.f32.body.bind (codeAtR n)).getD .skip)
def Rr4Mk (gr g6:Nat) (x wx:Pl.IrI) (y2:SV) (T:TypeId) (c:Value) (c0 c1 c2 c3 c5 c9 c10 c11 c12 c13 c14 c15 c16 c17 c18 c19 c20 c21 c22 c23 c24 c25 c26 c27 c28 c29 c30 c31 c32 c33 c34 c35 c36 c37 c38 c39 c40 c41 c42 c43 c44 c45 c46 c47 c48 c49 c50 c51 c52 c53 c54 c55 c56 c57 c58 c59 c60 c61 c62 c63 c64 c65 c66 c67 c68 c69 c70 c71 c72 c73 c74 c75 c76 c77 c78 c79 c80 c81 c82 c83 c84 c85 c86 c87 c88 c89 c90 c91 c92 c93 c94 c95 c96 c97 c98 c99 c100 c101 c102:Value) (v2:SV) (L:Array Bool):Act:={ tmps:=#[c0,c1,c2,c3,.pointer (some ⟨gr,0,none⟩),c5,.pointer (some ⟨g6,0,none⟩),.iface T c,.bool true,c9,c10,c11,c12,c13,c14,c15,c16,c17,c18,c19,c20,c21,c22,c23,c24,c25,c26,c27,c28,c29,c30,c31,c32,c33,c34,c35,c36,c37,c38,c39,c40,c41,c42,c43,c44,c45,c46,c47,c48,c49,c50,c51,c52,c53,c54,c55,c56,c57,c58,c59,c60,c61,c62,c63,c64,c65,c66,c67,c68,c69,sld c70 L 0 (.bool true),sld c71 L 1 (.bool false),sld c72 L 2 (.bool false),sld c73 L 3 (.iface T c),sld c74 L 4 (.agg #[.int .i64 wx.op,.int .i64 wx.d,.int .i64 wx.a,.int .i64 wx.b,.int .i64 wx.n,.string wx.sym,.slice v2.a v2.len v2.cap]),sld c75 L 5 (.agg #[.int .i64 x.op,.int .i64 x.d,.int .i64 x.a,.int .i64 x.b,.int .i64 x.n,.string x.sym,.slice y2.a y2.len y2.cap]),sld c76 L 6 (.bool true),sld c77 L 7 (.bool false),sld c78 L 8 (.bool false),sld c79 L 9 (.bool false),sld c80 L 10 (.pointer (some ⟨gr,0,none⟩)),sld c81 L 11 (.iface T c),sld c82 L 12 (.bool true),sld c83 L 13 (.bool false),sld c84 L 14 (.bool false),sld c85 L 15 (.bool false),sld c86 L 16 (.iface T c),sld c87 L 17 (.pointer (some ⟨gr,0,none⟩)),sld c88 L 18 (.bool true),sld c89 L 19 (.bool false),sld c90 L 20 (.bool false),c91,c92,c93,c94,c95,c96,c97,c98,c99,c100,c101,c102],defers:=[] }
def Rr4W (y:World) (wx:Pl.IrI) (v2:SV) (L:Array Bool) (w:World):Prop:=Below y.heap.size y w/\(up L 4=true->Row .i64 0 w v2.a v2.len v2.cap wx.args)
theorem Rr4W.keep {y:World} {wx:Pl.IrI} {v2:SV} {L:Array Bool} {w:World} (h:Rr4W y wx v2 L w) {i:Nat} (hi:i<L.size) (n:i≠4) {w':World} (hB:Below w.heap.size w w'):Rr4W y wx v2 (L.setIfInBounds i true) w':=
 ⟨h.1.trans (hB.mono h.1.size),fun q=>by rw[up_set hi,if_neg n]at q;exact (h.2 q).keep hB⟩
set_option maxRecDepth 100000 in
theorem rr10_4 {y:World} {gr g6:Nat} {x wx:Pl.IrI} {y2:SV} {T:TypeId} {c:Value} {F1 F4:Nat} {r1 r4:Value} (hbx:y.heap[g6]?=some (.cells #[.int .i64 x.op,.int .i64 x.d,.int .i64 x.a,.int .i64 x.b,.int .i64 x.n,.string x.sym,.slice y2.a y2.len y2.cap] 81 (0,0))) (hm1:∀ u:World,(method 365 T c "loop.example/s01681/impl.written").run Tryz.prog u=.ok (F1,r1) u) (hf1:∀ (vs:Array Value) (u:World),(callFunc F1 vs).run Tryz.prog u=.ok (.enter F1 vs) u) (hWR:∀ u:World,Below y.heap.size y u->Calls Tryz.prog F1 #[r1] u fun e u'=>∃ v2:SV,e=.returned (.agg #[.int .i64 wx.op,.int .i64 wx.d,.int .i64 wx.a,.int .i64 wx.b,.int .i64 wx.n,.string wx.sym,.slice v2.a v2.len v2.cap])/\Row .i64 0 u' v2.a v2.len v2.cap wx.args/\Below u.heap.size u u') (hSM:∀ (u:World) (v2:SV),Below y.heap.size y u->Row .i64 0 u v2.a v2.len v2.cap wx.args->Calls Tryz.prog 59 #[.agg #[.int .i64 wx.op,.int .i64 wx.d,.int .i64 wx.a,.int .i64 wx.b,.int .i64 wx.n,.string wx.sym,.slice v2.a v2.len v2.cap],.agg #[.int .i64 x.op,.int .i64 x.d,.int .i64 x.a,.int .i64 x.b,.int .i64 x.n,.string x.sym,.slice y2.a y2.len y2.cap]] u fun e u'=>e=.returned (.bool true)/\Below u.heap.size u u') (hRG:∀ u:World,Below y.heap.size y u->Calls Tryz.prog 60 #[.pointer (some ⟨gr,0,none⟩),.iface T c] u fun e u'=>e=.returned (.bool true)/\Below u.heap.size u u') (hm4:∀ u:World,(method 365 T c "loop.example/s01681/impl.fits").run Tryz.prog u=.ok (F4,r4) u) (hf4:∀ (vs:Array Value) (u:World),(callFunc F4 vs).run Tryz.prog u=.ok (.enter F4 vs) u) (hFT:∀ u:World,Below y.heap.size y u->Calls Tryz.prog F4 #[r4,.pointer (some ⟨gr,0,none⟩)] u fun e u'=>e=.returned (.bool true)/\Below u.heap.size u u') (c0 c1 c2 c3 c5 c9 c10 c11 c12 c13 c14 c15 c16 c17 c18 c19 c20 c21 c22 c23 c24 c25 c26 c27 c28 c29 c30 c31 c32 c33 c34 c35 c36 c37 c38 c39 c40 c41 c42 c43 c44 c45 c46 c47 c48 c49 c50 c51 c52 c53 c54 c55 c56 c57 c58 c59 c60 c61 c62 c63 c64 c65 c66 c67 c68 c69 c70 c71 c72 c73 c74 c75 c76 c77 c78 c79 c80 c81 c82 c83 c84 c85 c86 c87 c88 c89 c90 c91 c92 c93 c94 c95 c96 c97 c98 c99 c100 c101 c102:Value) (Q:Exit->Act->World->Prop)
  (hK:∀ (s70 s71 s72 s73 s74 s75 s76 s77 s78 s79 s80 s81 s82 s83 s84 s85 s86 s87 s88 s89:Value) (y':World),Below y.heap.size y y'->Q .normal { tmps:=#[c0,c1,c2,c3,.pointer (some ⟨gr,0,none⟩),c5,.pointer (some ⟨g6,0,none⟩),.iface T c,.bool true,c9,c10,c11,c12,c13,c14,c15,c16,c17,c18,c19,c20,c21,c22,c23,c24,c25,c26,c27,c28,c29,c30,c31,c32,c33,c34,c35,c36,c37,c38,c39,c40,c41,c42,c43,c44,c45,c46,c47,c48,c49,c50,c51,c52,c53,c54,c55,c56,c57,c58,c59,c60,c61,c62,c63,c64,c65,c66,c67,c68,c69,s70,s71,s72,s73,s74,s75,s76,s77,s78,s79,s80,s81,s82,s83,s84,s85,s86,s87,s88,s89,.bool false,c91,c92,c93,c94,c95,c96,c97,c98,c99,c100,c101,c102],defers:=[] } y') :
  (rrC4 10).wp Tryz.prog Q { tmps:=#[c0,c1,c2,c3,.pointer (some ⟨gr,0,none⟩),c5,.pointer (some ⟨g6,0,none⟩),.iface T c,.bool true,c9,c10,c11,c12,c13,c14,c15,c16,c17,c18,c19,c20,c21,c22,c23,c24,c25,c26,c27,c28,c29,c30,c31,c32,c33,c34,c35,c36,c37,c38,c39,c40,c41,c42,c43,c44,c45,c46,c47,c48,c49,c50,c51,c52,c53,c54,c55,c56,c57,c58,c59,c60,c61,c62,c63,c64,c65,c66,c67,c68,c69,c70,c71,c72,c73,c74,c75,c76,c77,c78,c79,c80,c81,c82,c83,c84,c85,c86,c87,c88,c89,c90,c91,c92,c93,c94,c95,c96,c97,c98,c99,c100,c101,c102],defers:=[] } y:=by
 have HKt:Hid _:=hK
 clear hK
 have HWR:Hid _:=hWR
 have HSM:Hid _:=hSM
 clear hWR hSM
 have HRG:Hid _:=hRG
 clear hRG
 have HFT:Hid _:=hFT
 clear hFT
 conv=>arg 2;whnf
 have d0:=cell_of_row y g6 0 _ 81 (0,0) hbx
 have d1:=cell_of_row y g6 1 _ 81 (0,0) hbx
 have d2:=cell_of_row y g6 2 _ 81 (0,0) hbx
 have d3:=cell_of_row y g6 3 _ 81 (0,0) hbx
 have d4:=cell_of_row y g6 4 _ 81 (0,0) hbx
 have d5:=cell_of_row y g6 5 _ 81 (0,0) hbx
 have d6:=cell_of_row y g6 6 _ 81 (0,0) hbx
 simp only[List.getElem?_toArray,List.getElem?_cons_zero,List.getElem?_cons_succ]at d0 d1 d2 d3 d4 d5 d6
 clear hbx
 refine wp_region_any (by kernel_rfl) ?_
 change wpAny _ _ _ _ _ _ _ (World.drew _)
 refine wpAny_inw (fun L a w=>∃ v2,a=Rr4Mk gr g6 x wx y2 T c c0 c1 c2 c3 c5 c9 c10 c11 c12 c13 c14 c15 c16 c17 c18 c19 c20 c21 c22 c23 c24 c25 c26 c27 c28 c29 c30 c31 c32 c33 c34 c35 c36 c37 c38 c39 c40 c41 c42 c43 c44 c45 c46 c47 c48 c49 c50 c51 c52 c53 c54 c55 c56 c57 c58 c59 c60 c61 c62 c63 c64 c65 c66 c67 c68 c69 c70 c71 c72 c73 c74 c75 c76 c77 c78 c79 c80 c81 c82 c83 c84 c85 c86 c87 c88 c89 c90 c91 c92 c93 c94 c95 c96 c97 c98 c99 c100 c101 c102 v2 L/\Rr4W y wx v2 L w) ?done (by kernel_rfl) ?step _ 21 _ _ (by kernel_rfl) ?init (by decide)
 case init=>exact⟨⟨none,0,0⟩,by simp only[Rr4Mk,sld_no (up_init _ _)],Below.drew (Below.refl _ _),fun q=>absurd (q.symm.trans (up_init _ _)) (by decide)⟩
 case step=>
  intro L act w i o hI hlt hs nl hC hd ho K hK
  obtain⟨v2,rfl,hW⟩:=hI
  have hi_lt:i<21:=(Array.getElem?_eq_some_iff.1 ho).1
  rcases (show i=0\/i=1\/i=2\/i=3\/i=4\/i=5\/i=6\/i=7\/i=8\/i=9\/i=10\/i=11\/i=12\/i=13\/i=14\/i=15\/i=16\/i=17\/i=18\/i=19\/i=20 by omega) with rfl | rfl | rfl | rfl | rfl | rfl | rfl | rfl | rfl | rfl | rfl | rfl | rfl | rfl | rfl | rfl | rfl | rfl | rfl | rfl | rfl
  ·change some _=some o at ho
   cases ho
   simp only[Rr4Mk]
   go_simp
   exact hK _ _ ⟨v2,by simp only[Rr4Mk,sld_set hlt,reduceIte,Nat.reduceEqDiff];try rfl,(hW.keep hlt (by decide) (Below.refl _ _))⟩
  ·change some _=some o at ho
   cases ho
   have q0:up L 0=true:=hd { on:=0,ground:=.data } (by simp) rfl
   simp only[Rr4Mk,sld_yes q0]
   go_simp
   exact hK _ _ ⟨v2,by simp only[Rr4Mk,sld_set hlt,sld_yes q0,reduceIte,Nat.reduceEqDiff];try rfl,(hW.keep hlt (by decide) (Below.refl _ _))⟩
  ·change some _=some o at ho
   cases ho
   have q1:up L 1=true:=hd { on:=1,ground:=.data } (by simp) rfl
   simp only[Rr4Mk,sld_yes q1]
   go_simp
   exact hK _ _ ⟨v2,by simp only[Rr4Mk,sld_set hlt,sld_yes q1,reduceIte,Nat.reduceEqDiff];try rfl,(hW.keep hlt (by decide) (Below.refl _ _))⟩
  ·change some _=some o at ho
   cases ho
   have q2:up L 2=true:=(hd { on:=2,ground:=.guard } (by simp) rfl)
   simp only[Rr4Mk,sld_yes q2]
   go_simp
   exact hK _ _ ⟨v2,by simp only[Rr4Mk,sld_set hlt,sld_yes q2,reduceIte,Nat.reduceEqDiff];try rfl,(hW.keep hlt (by decide) (Below.refl _ _))⟩
  ·change some _=some o at ho
   cases ho
   have q2:up L 2=true:=(hd { on:=2,ground:=.guard } (by simp) rfl)
   have q3:up L 3=true:=hd { on:=3,ground:=.data } (by simp) rfl
   have n6:up L 6=false:=hC.no nl 6 rfl (by kernel_rfl)
   simp only[Rr4Mk,sld_yes q2,sld_yes q3]
   go_simp
   refine (HWR.out w hW.1).mono ?_
   rintro e z ⟨v2',rfl,oz,dz⟩
   go_simp
   exact hK _ _ ⟨v2',by simp only[Rr4Mk,sld_set hlt,sld_yes q2,sld_yes q3,reduceIte,Nat.reduceEqDiff];try rfl,⟨hW.1.trans (dz.mono hW.1.size),fun _=>oz⟩⟩
  ·change some _=some o at ho
   cases ho
   have q2:up L 2=true:=(hd { on:=2,ground:=.guard } (by simp) rfl)
   have k0:=below_cell hW.1 d0
   have k1:=below_cell hW.1 d1
   have k2:=below_cell hW.1 d2
   have k3:=below_cell hW.1 d3
   have k4:=below_cell hW.1 d4
   have k5:=below_cell hW.1 d5
   have k6:=below_cell hW.1 d6
   simp only[Rr4Mk,sld_yes q2]
   go_simp
   exact hK _ _ ⟨v2,by simp only[Rr4Mk,sld_set hlt,sld_yes q2,reduceIte,Nat.reduceEqDiff];try rfl,(hW.keep hlt (by decide) (Below.refl _ _))⟩
  ·change some _=some o at ho
   cases ho
   have q2:up L 2=true:=(hd { on:=2,ground:=.guard } (by simp) rfl)
   have q4:up L 4=true:=hd { on:=4,ground:=.data } (by simp) rfl
   have q5:up L 5=true:=hd { on:=5,ground:=.data } (by simp) rfl
   simp only[Rr4Mk,sld_yes q2,sld_yes q4,sld_yes q5]
   go_simp
   refine (HSM.out w v2 hW.1 (hW.2 q4)).mono ?_
   rintro e z ⟨rfl,dz⟩
   go_simp
   exact hK _ _ ⟨v2,by simp only[Rr4Mk,sld_set hlt,sld_yes q2,sld_yes q4,sld_yes q5,reduceIte,Nat.reduceEqDiff];try rfl,(hW.keep hlt (by decide) dz)⟩
  ·change some _=some o at ho
   cases ho
   have q2:up L 2=true:=(hd { on:=2,ground:=.guard } (by simp) rfl)
   have q6:up L 6=true:=hd { on:=6,ground:=.data } (by simp) rfl
   simp only[Rr4Mk,sld_yes q2,sld_yes q6]
   go_simp
   exact hK _ _ ⟨v2,by simp only[Rr4Mk,sld_set hlt,sld_yes q2,sld_yes q6,reduceIte,Nat.reduceEqDiff];try rfl,(hW.keep hlt (by decide) (Below.refl _ _))⟩
  ·change some _=some o at ho
   cases ho
   have q2:up L 2=true:=hd { on:=2,ground:=.data } (by simp) rfl
   have q7:up L 7=true:=hd { on:=7,ground:=.data } (by simp) rfl
   simp only[Rr4Mk,sld_yes q2,sld_yes q7]
   go_simp
   exact hK _ _ ⟨v2,by simp only[Rr4Mk,sld_set hlt,sld_yes q2,sld_yes q7,reduceIte,Nat.reduceEqDiff];try rfl,(hW.keep hlt (by decide) (Below.refl _ _))⟩
  ·change some _=some o at ho
   cases ho
   have q8:up L 8=true:=hd { on:=8,ground:=.data } (by simp) rfl
   simp only[Rr4Mk,sld_yes q8]
   go_simp
   exact hK _ _ ⟨v2,by simp only[Rr4Mk,sld_set hlt,sld_yes q8,reduceIte,Nat.reduceEqDiff];try rfl,(hW.keep hlt (by decide) (Below.refl _ _))⟩
  ·change some _=some o at ho
   cases ho
   have q9:up L 9=true:=(hd { on:=9,ground:=.guard } (by simp) rfl)
   simp only[Rr4Mk,sld_yes q9]
   go_simp
   exact hK _ _ ⟨v2,by simp only[Rr4Mk,sld_set hlt,sld_yes q9,reduceIte,Nat.reduceEqDiff];try rfl,(hW.keep hlt (by decide) (Below.refl _ _))⟩
  ·change some _=some o at ho
   cases ho
   have q9:up L 9=true:=(hd { on:=9,ground:=.guard } (by simp) rfl)
   simp only[Rr4Mk,sld_yes q9]
   go_simp
   exact hK _ _ ⟨v2,by simp only[Rr4Mk,sld_set hlt,sld_yes q9,reduceIte,Nat.reduceEqDiff];try rfl,(hW.keep hlt (by decide) (Below.refl _ _))⟩
  ·change some _=some o at ho
   cases ho
   have q9:up L 9=true:=(hd { on:=9,ground:=.guard } (by simp) rfl)
   have q10:up L 10=true:=hd { on:=10,ground:=.data } (by simp) rfl
   have q11:up L 11=true:=hd { on:=11,ground:=.data } (by simp) rfl
   simp only[Rr4Mk,sld_yes q9,sld_yes q10,sld_yes q11]
   go_simp
   refine (HRG.out w hW.1).mono ?_
   rintro e z ⟨rfl,dz⟩
   go_simp
   exact hK _ _ ⟨v2,by simp only[Rr4Mk,sld_set hlt,sld_yes q9,sld_yes q10,sld_yes q11,reduceIte,Nat.reduceEqDiff];try rfl,(hW.keep hlt (by decide) dz)⟩
  ·change some _=some o at ho
   cases ho
   have q9:up L 9=true:=(hd { on:=9,ground:=.guard } (by simp) rfl)
   have q12:up L 12=true:=hd { on:=12,ground:=.data } (by simp) rfl
   simp only[Rr4Mk,sld_yes q9,sld_yes q12]
   go_simp
   exact hK _ _ ⟨v2,by simp only[Rr4Mk,sld_set hlt,sld_yes q9,sld_yes q12,reduceIte,Nat.reduceEqDiff];try rfl,(hW.keep hlt (by decide) (Below.refl _ _))⟩
  ·change some _=some o at ho
   cases ho
   have q9:up L 9=true:=hd { on:=9,ground:=.data } (by simp) rfl
   have q13:up L 13=true:=hd { on:=13,ground:=.data } (by simp) rfl
   simp only[Rr4Mk,sld_yes q9,sld_yes q13]
   go_simp
   exact hK _ _ ⟨v2,by simp only[Rr4Mk,sld_set hlt,sld_yes q9,sld_yes q13,reduceIte,Nat.reduceEqDiff];try rfl,(hW.keep hlt (by decide) (Below.refl _ _))⟩
  ·change some _=some o at ho
   cases ho
   have q14:up L 14=true:=hd { on:=14,ground:=.data } (by simp) rfl
   simp only[Rr4Mk,sld_yes q14]
   go_simp
   exact hK _ _ ⟨v2,by simp only[Rr4Mk,sld_set hlt,sld_yes q14,reduceIte,Nat.reduceEqDiff];try rfl,(hW.keep hlt (by decide) (Below.refl _ _))⟩
  ·change some _=some o at ho
   cases ho
   have q15:up L 15=true:=(hd { on:=15,ground:=.guard } (by simp) rfl)
   simp only[Rr4Mk,sld_yes q15]
   go_simp
   exact hK _ _ ⟨v2,by simp only[Rr4Mk,sld_set hlt,sld_yes q15,reduceIte,Nat.reduceEqDiff];try rfl,(hW.keep hlt (by decide) (Below.refl _ _))⟩
  ·change some _=some o at ho
   cases ho
   have q15:up L 15=true:=(hd { on:=15,ground:=.guard } (by simp) rfl)
   simp only[Rr4Mk,sld_yes q15]
   go_simp
   exact hK _ _ ⟨v2,by simp only[Rr4Mk,sld_set hlt,sld_yes q15,reduceIte,Nat.reduceEqDiff];try rfl,(hW.keep hlt (by decide) (Below.refl _ _))⟩
  ·change some _=some o at ho
   cases ho
   have q15:up L 15=true:=(hd { on:=15,ground:=.guard } (by simp) rfl)
   have q16:up L 16=true:=hd { on:=16,ground:=.data } (by simp) rfl
   have q17:up L 17=true:=hd { on:=17,ground:=.data } (by simp) rfl
   simp only[Rr4Mk,sld_yes q15,sld_yes q16,sld_yes q17]
   go_simp
   refine (HFT.out w hW.1).mono ?_
   rintro e z ⟨rfl,dz⟩
   go_simp
   exact hK _ _ ⟨v2,by simp only[Rr4Mk,sld_set hlt,sld_yes q15,sld_yes q16,sld_yes q17,reduceIte,Nat.reduceEqDiff];try rfl,(hW.keep hlt (by decide) dz)⟩
  ·change some _=some o at ho
   cases ho
   have q15:up L 15=true:=(hd { on:=15,ground:=.guard } (by simp) rfl)
   have q18:up L 18=true:=hd { on:=18,ground:=.data } (by simp) rfl
   simp only[Rr4Mk,sld_yes q15,sld_yes q18]
   go_simp
   exact hK _ _ ⟨v2,by simp only[Rr4Mk,sld_set hlt,sld_yes q15,sld_yes q18,reduceIte,Nat.reduceEqDiff];try rfl,(hW.keep hlt (by decide) (Below.refl _ _))⟩
  ·change some _=some o at ho
   cases ho
   have q15:up L 15=true:=hd { on:=15,ground:=.data } (by simp) rfl
   have q19:up L 19=true:=hd { on:=19,ground:=.data } (by simp) rfl
   simp only[Rr4Mk,sld_yes q15,sld_yes q19]
   go_simp
   exact hK _ _ ⟨v2,by simp only[Rr4Mk,sld_set hlt,sld_yes q15,sld_yes q19,reduceIte,Nat.reduceEqDiff];try rfl,(hW.keep hlt (by decide) (Below.refl _ _))⟩
 case done=>
  rintro L a w ⟨v2,rfl,hW⟩ hall
  simp only[Rr4Mk,sld_yes (hall 0 (by decide)),sld_yes (hall 1 (by decide)),sld_yes (hall 2 (by decide)),sld_yes (hall 3 (by decide)),sld_yes (hall 4 (by decide)),sld_yes (hall 5 (by decide)),sld_yes (hall 6 (by decide)),sld_yes (hall 7 (by decide)),sld_yes (hall 8 (by decide)),sld_yes (hall 9 (by decide)),sld_yes (hall 10 (by decide)),sld_yes (hall 11 (by decide)),sld_yes (hall 12 (by decide)),sld_yes (hall 13 (by decide)),sld_yes (hall 14 (by decide)),sld_yes (hall 15 (by decide)),sld_yes (hall 16 (by decide)),sld_yes (hall 17 (by decide)),sld_yes (hall 18 (by decide)),sld_yes (hall 19 (by decide)),sld_yes (hall 20 (by decide))]
  exact HKt.out _ _ _ _ _ _ _ _ _ _ _ _ _ _ _ _ _ _ _ _ w hW.1
end Go.Proofs.YtcgfgmlfbgbkfaaGreatDoor.W
namespace Go.Proofs.YtcgfgmlfbgbkfaaGreatDoor.Pl
structure StepOk (f:IrF) (x:IrI):Prop where
 op:1<=x.op/\x.op<=16
 same:SameI (wrI x.op.toNat x) x
 regs:regsOk f.regs (usesL x.op.toNat x ++ setsL x.op.toNat x)
 fits:fitsP f.slots.length (fun n=>∃ i,i<f.code.length/\isLab f.code n i) x.op.toNat x
def rrOk (f:IrF):Prop:=funHead f/\slotsOk f.slots/\labUniq f.code/\∀ i,i<f.code.length->StepOk f (f.code.getD i IrI.zero)
end Go.Proofs.YtcgfgmlfbgbkfaaGreatDoor.Pl
namespace Go.Proofs.YtcgfgmlfbgbkfaaGreatDoor.W
open Go.RowKit Go.Maps Go.WideMaps
def stepsV (f:Pl.IrF) (Y:Nat->SV) (k:Nat):List Value:=(List.range k).map fun i=>stV (f.code.getD i Pl.IrI.zero).op.toNat (f.code.getD i Pl.IrI.zero) (Y i)
def RrSaid (w:World) (f:Pl.IrF) (v s:SV) (e:Ending) (w':World):Prop:=
 Below w.heap.size w w'/\((¬ Pl.rrOk f/\e=.returned (.tuple #[.pointer none,.bool false]))\/(Pl.rrOk f/\∃ (gr gm nm:Nat) (S P:Value) (lab:Int->Option Int) (Y:Nat->SV),e=.returned (.tuple #[.pointer (some ⟨gr,0,none⟩),.bool true])/\Pl.LabK f.code f.code.length lab/\(∀ i,i<f.code.length->Row .i64 0 w (Y i).a (Y i).len (Y i).cap (f.code.getD i Pl.IrI.zero).args)/\Rt w gr gm nm f v s S (stepsV f Y f.code.length) lab P ((List.range f.slots.length).map (Pl.rooms f.slots)) (Pl.upM (Pl.rooms f.slots f.slots.length) 16) w'))
theorem Rt.low {W1:World} {W0:World} {gr gm nm:Nat} {f:Pl.IrF} {v s:SV} {S:Value} {sv:List Value} {lab:Int->Option Int} {P:Value} {ps:List Int} {room:Int} {w:World} (h:Rt W0 gr gm nm f v s S sv lab P ps room w) (hb:Below W1.heap.size W1 W0):Rt W1 gr gm nm f v s S sv lab P ps room w:=by
 have lo:∀ {e:TypeId} {k:Nat} {x:Value} {n:Nat} {xs:List Value},w.ownsRow W0.heap.size e k x n xs->w.ownsRow W1.heap.size e k x n xs:=fun {e k x n xs} ho=>by
  refine⟨ho.1,?_⟩
  rcases ho.2 with q | ⟨g,cp,cur,h0,hlo,r⟩
  ·exact .inl q
  ·exact .inr ⟨g,cp,cur,h0,Nat.le_trans hb.size hlo,r⟩
 exact⟨hb.trans (h.bel.mono hb.size),Nat.le_trans hb.size h.grb,Nat.le_trans hb.size h.gmb,h.blk,h.map,lo h.st,lo h.pl⟩
theorem Rt.boxS {W0:World} {gr gm nm:Nat} {f:Pl.IrF} {v s:SV} {S:Value} {sv:List Value} {lab:Int->Option Int} {P:Value} {ps:List Int} {room:Int} {w w2:World} (h:Rt W0 gr gm nm f v s S sv lab P ps room w) (hg:w.grownBy w2 S.ownBlock):w2.heap[gr]?=some (.cells (RtC f v s S gm P room) 61 (0,0)):=far_row h.st hg h.blk (fun cs e=>by simp only[Obj.cells.injEq]at e;exact absurd e.2.1 (by decide))
theorem Rt.stepped {W0:World} {gr gm nm:Nat} {f:Pl.IrF} {v s:SV} {S:Value} {sv:List Value} {lab:Int->Option Int} {P:Value} {ps:List Int} {room:Int} {w w2:World} {G cp:Nat} {r:Value} (h:Rt W0 gr gm nm f v s S sv lab P ps room w) (hg:w.grownBy w2 S.ownBlock) (hown:w2.ownsRow W0.heap.size 93 1 (.slice (some ⟨G,0,none⟩) (sv.length+1) cp) (sv.length+1) (sv ++ [r])):Rt W0 gr gm nm f v s (.slice (some ⟨G,0,none⟩) (sv.length+1) cp) (sv ++ [r]) lab P ps room (w2.setCell ⟨gr,5,none⟩ (.slice (some ⟨G,0,none⟩) (sv.length+1) cp)):=by
 have hbx:=h.boxS hg
 obtain⟨D,⟨es,cl,q1,q2⟩,hK⟩:=h.map
 have hgm:=far_row h.st hg q1 (fun cs e=>by cases e)
 have hmc:gm≠gr:=fun e=>by rw[e,hbx]at hgm;cases hgm
 have hsc:∀ {g:Nat} {cs:Array Value} {e:TypeId},e≠61->w2.heap[g]?=some (.cells cs e (0,0))->(w2.setCell ⟨gr,5,none⟩ (.slice (some ⟨G,0,none⟩) (sv.length+1) cp)).heap[g]?=some (.cells cs e (0,0)):=fun {g cs e} he hq=>by
  rw[heap_setCell_other w2 ⟨gr,5,none⟩ g _ (by
   rintro rfl
   rw[hbx]at hq
   simp only[Option.some.injEq,Obj.cells.injEq]at hq
   exact he hq.2.1.symm)]
  exact hq
 refine⟨(h.bel.grown hg h.bel.size (fun k hk=>(h.st.lt k hk).1)).setCell h.grb _,h.grb,h.gmb,?_,⟨D,⟨es,cl,?_,q2⟩,hK⟩,?_,?_⟩
 ·rw[heap_setCell_same w2 gr 5 _ 61 _ hbx];rfl
 ·rw[heap_setCell_other w2 ⟨gr,5,none⟩ _ _ hmc];exact hgm
 ·have e:(sv ++ [r]).length=sv.length+1:=by simp
  rw[e]
  exact own_far hown fun g cur hq=>hsc (by decide) hq
 ·exact own_far h.pl fun g cur hq=>hsc (by decide) (far_row h.st hg hq (fun cs e=>by simp only[Obj.cells.injEq]at e;exact absurd e.2.1 (by decide)))
theorem uses_len (k:Nat) (x:Pl.IrI):(Pl.usesL k x).length<=x.args.length+1\/(Pl.usesL k x).length<=2:=by
 unfold Pl.usesL
 split <;> first | (right;simp;done) | (left;simp;done) | (left;simp;omega) | (right;split <;> simp)
theorem sets_len (k:Nat) (x:Pl.IrI):(Pl.setsL k x).length<=1:=by
 unfold Pl.setsL
 split <;> first | (simp;done) | (split <;> simp)
theorem rr_no {w w':World} {f:Pl.IrF} {v s:SV} (h:¬ Pl.rrOk f) (hb:Below w.heap.size w w'):RrSaid w f v s (.returned (.tuple #[.pointer none,.bool false])) w':=⟨hb,.inl ⟨h,rfl⟩⟩
set_option maxRecDepth 100000 in
theorem readRoutine_is {lo:Nat} (f:Pl.IrF) (v s:SV) (w:World) (h:FIs lo w v s f) (hal:∀ i,i<f.code.length->(f.code.getD i Pl.IrI.zero).args.length<=1048576) (hwf:∀ i,i<f.code.length->(Lit.int .i64 (f.code.getD i Pl.IrI.zero).n).wf=true):Calls Tryz.prog 32 #[.agg #[.string f.name,.int .i64 f.params,.int .i64 f.regs,.slice v.a v.len v.cap,.slice s.a s.len s.cap]] w fun e w'=>RrSaid w f v s e w':=by
 obtain⟨va,vl,vc⟩:=v
 obtain⟨sa,sl,sc⟩:=s
 obtain⟨hV,hS,_⟩:=h
 simp only at hV hS ⊢
 have hvl:(vl:Int)<=9223372036854775807:=by have:=hV.small;omega
 have hsl:(sl:Int)<=9223372036854775807:=by have:=hS.small;omega
 have HV:Hid (Row .i64 lo w va vl vc f.slots/\f.slots.length=vl):=⟨hV,hV.1⟩
 have HS:Hid (IRow lo w sa sl sc f.code/\f.code.length=sl):=⟨hS,hS.1⟩
 have HAL:Hid (∀ i,i<f.code.length->(f.code.getD i Pl.IrI.zero).args.length<=1048576):=hal
 have HWF:Hid (∀ i,i<f.code.length->(Lit.int .i64 (f.code.getD i Pl.IrI.zero).n).wf=true):=hwf
 have HWI:Hid (∀ (n a b:Int) (u:World),Calls Tryz.prog 55 #[.int .i64 n,.int .i64 a,.int .i64 b] u fun e w'=>e=.returned (.bool (decide (a<=n/\n<=b)))/\w'=u):=fun n a b u=>isWithin_ir n a b u
 have HB0:Hid (Below w.heap.size w (w.alloc (.cells #[.string f.name,.int .i64 f.params,.int .i64 f.regs,.slice va vl vc,.slice sa sl sc] 31))):=below_alloc _ _
 clear hV hS hal hwf
 by_cases p1:0<=f.params/\f.params<=8
 rotate_left
 ·have E1:Hid (decide (0<=f.params/\f.params<=8)=false):=decide_eq_false p1
  have E2:=E1
  have E4:=E1
  have HN:Hid (¬ Pl.rrOk f):=fun q=>p1 q.1.1
  clear p1
  go_enter Tryz.func32,Tryz.ntmps32
  go_wp2_with (go_at_call 55;refine (HWI.out _ _ _ _).mono ?_;rintro e z1 ⟨rfl,g1⟩; rw[g1];clear g1 z1; (first | rw[E1.out] | rw[E2.out] | rw[E4.out]))
  go_ret2
  exact rr_no HN.out HB0.out
 have E1:Hid (decide (0<=f.params/\f.params<=8)=true):=decide_eq_true p1
 by_cases p2:f.params<=f.regs/\f.regs<=2000
 rotate_left
 ·have E2:Hid (decide (f.params<=f.regs/\f.regs<=2000)=false):=decide_eq_false p2
  have E4:=E1
  have HN:Hid (¬ Pl.rrOk f):=fun q=>p2 q.1.2.1
  clear p1 p2
  go_enter Tryz.func32,Tryz.ntmps32
  go_wp2_with (go_at_call 55;refine (HWI.out _ _ _ _).mono ?_;rintro e z1 ⟨rfl,g1⟩; rw[g1];clear g1 z1; (first | rw[E1.out] | rw[E2.out] | rw[E4.out]))
  go_ret2
  exact rr_no HN.out HB0.out
 have E2:Hid (decide (f.params<=f.regs/\f.regs<=2000)=true):=decide_eq_true p2
 by_cases p3:200<(vl:Int)
 ·have E4:=E1
  have HN:Hid (¬ Pl.rrOk f):=fun q=>by have:=q.1.2.2.1;have:=HV.out.2;omega
  clear p1 p2
  go_enter Tryz.func32,Tryz.ntmps32
  go_wp2_with (go_at_call 55;refine (HWI.out _ _ _ _).mono ?_;rintro e z1 ⟨rfl,g1⟩; rw[g1];clear g1 z1; (first | rw[E1.out] | rw[E2.out] | rw[E4.out]))
  go_ret2
  exact rr_no HN.out HB0.out
 by_cases p4:1<=(sl:Int)/\(sl:Int)<=8000
 rotate_left
 ·have E4:Hid (decide (1<=(sl:Int)/\(sl:Int)<=8000)=false):=decide_eq_false p4
  have HN:Hid (¬ Pl.rrOk f):=fun q=>by have:=q.1.2.2.2.1;have:=HS.out.2;omega
  clear p1 p2 p4
  go_enter Tryz.func32,Tryz.ntmps32
  go_wp2_with (go_at_call 55;refine (HWI.out _ _ _ _).mono ?_;rintro e z1 ⟨rfl,g1⟩; rw[g1];clear g1 z1; (first | rw[E1.out] | rw[E2.out] | rw[E4.out]))
  go_ret2
  exact rr_no HN.out HB0.out
 have E4:Hid (decide (1<=(sl:Int)/\(sl:Int)<=8000)=true):=decide_eq_true p4
 obtain⟨m,hm,hml⟩:∃ m:Nat,(sl:Int)-1=(m:Int)/\m<sl:=⟨sl-1,by omega,by omega⟩
 have hmi:(m:Int)<(sl:Int):=by omega
 have hwm:IntKind.i64.wrap ((sl:Int)-1)=(m:Int):=by rw[IntKind.wrap_i64];omega
 obtain⟨sb,so,y0,rfl,hslo,hsb,hc0,_,_⟩:=HS.out.1.at (k:=m) hml
 have HL:Hid ((f.code.getD (f.code.length-1) Pl.IrI.zero).op=(f.code.getD m Pl.IrI.zero).op):=by
  show (f.code.getD (f.code.length-1) Pl.IrI.zero).op=_
  rw[HS.out.2,show sl-1=m by omega]
 obtain⟨l0,hl0⟩:∃ l0,l0=(f.code.getD m Pl.IrI.zero).op:=⟨_,rfl⟩
 have cl:=(iri_cells hc0).1
 rw[<- hl0]at cl
 clear hc0
 by_cases p7:l0=14
 rotate_left
 ·have e7:(l0 == 14)=false:=by rw[beq_eq_false_iff_ne];exact p7
  have e8:(l0 != 14)=true:=by rw[bne,e7];rfl
  have HN:Hid (¬ Pl.rrOk f):=fun c=>p7 (hl0.trans (HL.out.symm.trans c.1.2.2.2.2))
  clear hl0 p7 p1 p2 p4
  go_enter Tryz.func32,Tryz.ntmps32
  go_wp2_with (go_at_call 55;refine (HWI.out _ _ _ _).mono ?_;rintro e z1 ⟨rfl,g1⟩; rw[g1];clear g1 z1; (first | rw[E1.out] | rw[E2.out] | rw[E4.out]))
  go_ret2
  exact rr_no HN.out HB0.out
 have e7:(l0 == 14)=true:=by simpa using p7
 have e8:(l0 != 14)=false:=by simpa using p7
 have HH:Hid (Pl.funHead f):=⟨p1,p2,by have:=HV.out.2;omega,by have:=HS.out.2;omega,HL.out.trans (hl0.symm.trans p7)⟩
 have hs8:sl<=8000:=by omega
 have hrg:0<=f.regs/\f.regs<=2000:=by omega
 clear hl0 p7 p1 p2 p4 HL
 have hmm:=@run_makeMap Tryz.prog
 go_enter Tryz.func32,Tryz.ntmps32
 obtain⟨w0,hw0⟩:∃ w0:World,w0=w.alloc (.cells #[.string f.name,.int .i64 f.params,.int .i64 f.regs,.slice va vl vc,.slice (some ⟨sb,so,none⟩) sl sc] 31):=⟨_,rfl⟩
 have hz0:w0.heap.size=w.heap.size+1:=by rw[hw0];simp
 have q0:w0.heap[w.heap.size]?=some (.cells #[.string f.name,.int .i64 f.params,.int .i64 f.regs,.slice va vl vc,.slice (some ⟨sb,so,none⟩) sl sc] 31 (0,0)):=by rw[hw0];exact heap_alloc_new w _
 have HW0:Hid (Below w.heap.size w w0):=by rw[hw0];exact below_alloc _ _
 have K4:Hid (∀ u:World,Below w0.heap.size w0 u->u.cell? ⟨w.heap.size,4,none⟩=some (.slice (some ⟨sb,so,none⟩) sl sc)):=fun u hu=>cell_of_row u w.heap.size 4 _ 31 (0,0) ((hu.block _ (by omega)).trans q0)
 have HR3:Hid (Rt w0 (w.heap.size+1+1) (w.heap.size+1) 0 f ⟨va,vl,vc⟩ ⟨some ⟨sb,so,none⟩,sl,sc⟩ (.slice none 0 0) [] (fun _=>none) (.slice none 0 0) [] 0 ((w0.alloc (.map #[] 0)).alloc (.cells #[.string f.name,.int .i64 f.params,.int .i64 f.regs,.slice va vl vc,.slice (some ⟨sb,so,none⟩) sl sc,.slice none 0 0,.map (some (w.heap.size+1)),.slice none 0 0,.int .i64 0] 61))):=by
  have hmp:(w0.alloc (.map #[] 0)).ownsMap Tryz.prog 3 (plainElem (H:=Unit) Tryz.prog 3) w0.heap.size 0 (.map []):=World.ownsMap_made _ _ _ _
  rw[hz0]at hmp
  refine⟨Below.alloc (below_alloc _ _) (by simp) _,by omega,by omega,?_,⟨.map [],ownsMap_keepR hmp (below_alloc _ _) (by simp[hz0]),LabM.nil⟩,World.ownsRow_nil _ _ _ _,World.ownsRow_nil _ _ _ _⟩
  have e:=heap_alloc_new (w0.alloc (.map #[] 0)) (.cells #[.string f.name,.int .i64 f.params,.int .i64 f.regs,.slice va vl vc,.slice (some ⟨sb,so,none⟩) sl sc,.slice none 0 0,.map (some (w.heap.size+1)),.slice none 0 0,.int .i64 0] 61)
  rw[show (w0.alloc (.map #[] 0)).heap.size=w.heap.size+1+1 by simp[hz0]]at e
  exact e
 clear q0
 go_upto_region 4 with (go_at_call 55;refine (HWI.out _ _ _ _).mono ?_;rintro e z1 ⟨rfl,g1⟩; rw[g1];clear g1 z1; (first | rw[E1.out] | rw[E2.out] | rw[E4.out]))
 rw[<- hw0]
 generalize (w0.alloc (.map #[] 0)).alloc (.cells #[.string f.name,.int .i64 f.params,.int .i64 f.regs,.slice va vl vc,.slice (some ⟨sb,so,none⟩) sl sc,.slice none 0 0,.map (some (w.heap.size+1)),.slice none 0 0,.int .i64 0] 61)=W3 at *
 generalize hgr:w.heap.size+1+1=gr at *
 generalize hgm:w.heap.size+1=gm at *
 clear hgr hgm hw0
 have HPL:Hid (Calls Tryz.prog 56 #[.pointer (some ⟨gr,0,none⟩)] W3 fun e w'=>PlSaid w0 gr gm f ⟨va,vl,vc⟩ ⟨some ⟨sb,so,none⟩,sl,sc⟩ (.slice none 0 0) [] e w'):=placeSlots_is HR3.out (HV.out.1.keep HW0.out) (by have:=HH.out.2.2.1;omega)
 have HBB:Hid (∀ u:World,Below w0.heap.size w0 u->Below w.heap.size w u):=fun u hu=>HW0.out.trans (hu.mono HW0.out.size)
 by_cases hso:Pl.slotsOk f.slots
 rotate_left
 ·have HN:Hid (¬ Pl.rrOk f):=fun q=>hso q.2.1
  have HP2:Hid (Calls Tryz.prog 56 #[.pointer (some ⟨gr,0,none⟩)] W3 fun e w'=>e=.returned (.bool false)/\Below w0.heap.size w0 w'):=HPL.out.mono fun e w' ⟨⟨b,he,hb⟩,hbl,_⟩=>⟨by rw[he];cases b with | false=>rfl | true=>exact absurd (hb.1 rfl) hso,hbl⟩
  clear hso HPL
  go_wp2_with (go_at_call 56;refine HP2.out.mono ?_;rintro e u1 ⟨rfl,d1⟩; have D1:Hid (Below w0.heap.size w0 u1):=d1;clear d1)
  go_ret2
  exact rr_no HN.out (HBB.out _ D1.out)
 have HSO:Hid (Pl.slotsOk f.slots):=hso
 have HP2:Hid (Calls Tryz.prog 56 #[.pointer (some ⟨gr,0,none⟩)] W3 fun e w'=>e=.returned (.bool true)/\∃ P:Value,Hid (Rt w0 gr gm 0 f ⟨va,vl,vc⟩ ⟨some ⟨sb,so,none⟩,sl,sc⟩ (.slice none 0 0) [] (fun _=>none) P ((List.range f.slots.length).map (Pl.rooms f.slots)) (Pl.upM (Pl.rooms f.slots f.slots.length) 16) w')):=HPL.out.mono fun e w' ⟨⟨b,he,hb⟩,hbl,hx⟩=>⟨by rw[he,hb.2 hso],hx hso⟩
 clear hso HPL HR3
 generalize hrm:Pl.upM (Pl.rooms f.slots f.slots.length) 16=room at HP2 ⊢
 generalize hpp:(List.range f.slots.length).map (Pl.rooms f.slots)=pps at HP2 ⊢
 have HRM:Hid (Pl.upM (Pl.rooms f.slots f.slots.length) 16=room/\(List.range f.slots.length).map (Pl.rooms f.slots)=pps):=⟨hrm,hpp⟩
 clear hrm hpp
 have HFL:Hid (∀ (u:World) (P:Value),Rt w0 gr gm 0 f ⟨va,vl,vc⟩ ⟨some ⟨sb,so,none⟩,sl,sc⟩ (.slice none 0 0) [] (fun _=>none) P pps room u->Calls Tryz.prog 57 #[.pointer (some ⟨gr,0,none⟩)] u fun e w'=>FlSaid w0 gr gm f ⟨va,vl,vc⟩ ⟨some ⟨sb,so,none⟩,sl,sc⟩ (.slice none 0 0) [] P pps room e w'):=fun u P hu=>findLabels_is hu (HS.out.1.keep HW0.out) (by have:=HH.out.2.2.2.1;omega) HWF.out
 by_cases hlu:Pl.labUniq f.code
 rotate_left
 ·have HN:Hid (¬ Pl.rrOk f):=fun q=>hlu q.2.2.1
  have HF2:Hid (∀ (u:World) (P:Value),Rt w0 gr gm 0 f ⟨va,vl,vc⟩ ⟨some ⟨sb,so,none⟩,sl,sc⟩ (.slice none 0 0) [] (fun _=>none) P pps room u->Calls Tryz.prog 57 #[.pointer (some ⟨gr,0,none⟩)] u fun e w'=>e=.returned (.bool false)/\Below w0.heap.size w0 w'):=fun u P hu=>(HFL.out u P hu).mono fun e w' ⟨⟨b,he,hb⟩,hbl,_⟩=>⟨by rw[he];cases b with | false=>rfl | true=>exact absurd (hb.1 rfl) hlu,hbl⟩
  clear hlu HFL
  go_wp2_with (first | (go_at_call 56;refine HP2.out.mono ?_;rintro e u1 ⟨rfl,P,HR1⟩) | (go_at_call 57;refine (HF2.out _ P HR1.out).mono ?_;rintro e u2 ⟨rfl,d2⟩; have D2:Hid (Below w0.heap.size w0 u2):=d2;clear d2))
  go_ret2
  exact rr_no HN.out (HBB.out _ D2.out)
 have HLU:Hid (Pl.labUniq f.code):=hlu
 have HF2:Hid (∀ (u:World) (P:Value),Rt w0 gr gm 0 f ⟨va,vl,vc⟩ ⟨some ⟨sb,so,none⟩,sl,sc⟩ (.slice none 0 0) [] (fun _=>none) P pps room u->Calls Tryz.prog 57 #[.pointer (some ⟨gr,0,none⟩)] u fun e w'=>e=.returned (.bool true)/\∃ (nm:Nat) (lab:Int->Option Int),Hid (Pl.LabK f.code f.code.length lab)/\Hid (Rt w0 gr gm nm f ⟨va,vl,vc⟩ ⟨some ⟨sb,so,none⟩,sl,sc⟩ (.slice none 0 0) [] lab P pps room w')):=fun u P hu=>(HFL.out u P hu).mono fun e w' ⟨⟨b,he,hb⟩,hbl,hx⟩=>by
  obtain⟨nm,lab,_,h1,h2⟩:=hx hlu
  exact⟨by rw[he,hb.2 hlu],nm,lab,h1,h2⟩
 clear hlu HFL
 go_wp2_with (first | (go_at_call 56;refine HP2.out.mono ?_;rintro e u1 ⟨rfl,P,HR1⟩) | (go_at_call 57;refine (HF2.out _ P HR1.out).mono ?_;rintro e u2 ⟨rfl,nm,lab,HLK,HR2⟩; have k4:=K4.out u2 HR2.out.bel))
 have hYex:∀ i,i<sl->∃ y:SV,(∀ j,j<7->w.cell? ⟨sb,so+i*7+j,none⟩=((f.code.getD i Pl.IrI.zero).cells y)[j]?)/\Row .i64 lo w y.a y.len y.cap (f.code.getD i Pl.IrI.zero).args:=fun i hi=>by
  obtain⟨b',o',y,eb,_,_,h1,h2,_⟩:=HS.out.1.at hi
  simp only[Option.some.injEq,Addr.mk.injEq,and_true]at eb
  obtain⟨rfl,rfl⟩:=eb
  exact⟨y,h1,h2⟩
 obtain⟨Y,HY⟩:∃ Y:Nat->SV,Hid (∀ i,i<sl->(∀ j,j<7->w.cell? ⟨sb,so+i*7+j,none⟩=((f.code.getD i Pl.IrI.zero).cells (Y i))[j]?)/\Row .i64 lo w (Y i).a (Y i).len (Y i).cap (f.code.getD i Pl.IrI.zero).args):=
  ⟨fun i=>if h:i<sl then Classical.choose (hYex i h) else ⟨none,0,0⟩,fun i h=>by simp only[dif_pos h];exact Classical.choose_spec (hYex i h)⟩
 clear hYex k4
 have HSZ:Hid (hsb=hsb):=rfl
 go_loopw [61] (fun t wr=>∃ (k:Nat) (S:Value),k<=sl/\t=.int .i64 (k:Int)/\Hid (∀ i,i<k->Pl.StepOk f (f.code.getD i Pl.IrI.zero))/\Hid (Rt w0 gr gm nm f ⟨va,vl,vc⟩ ⟨some ⟨sb,so,none⟩,sl,sc⟩ S (stepsV f Y k) lab P pps room wr)) (fun t _=>sl-(intOf t).toNat)
 case atStart=>exact⟨0,.slice none 0 0,Nat.zero_le _,rfl,fun i hi=>absurd hi (Nat.not_lt_zero _),HR2⟩
 case round=>
  obtain⟨k,S,hk,rfl,HK,HR⟩:=hrel
  by_cases hlt:k<sl
  rotate_left
  ·have hki:¬ ((k:Int)<(sl:Int)):=by omega
   have HE:Hid (RrSaid w f ⟨va,vl,vc⟩ ⟨some ⟨sb,so,none⟩,sl,sc⟩ (.returned (.tuple #[.pointer (some ⟨gr,0,none⟩),.bool true])) wr):=by
    have e:=HS.out.2
    have ek:f.code.length=k:=by omega
    have ok:Pl.rrOk f:=⟨HH.out,HSO.out,HLU.out,fun i hi=>HK.out i (by omega)⟩
    refine⟨HBB.out _ HR.out.bel,.inr ⟨ok,gr,gm,nm,S,P,lab,Y,rfl,HLK.out,fun i hi=>((HY.out i (by omega)).2).lower (Nat.zero_le _),?_⟩⟩
    rw[HRM.out.1,HRM.out.2,ek]
    exact HR.out.low HW0.out
   go_wp2_with fail
   go_ret2
   exact HE.out
  have hki:(k:Int)<(sl:Int):=by omega
  obtain⟨x,hx⟩:∃ x,x=f.code.getD k Pl.IrI.zero:=⟨_,rfl⟩
  obtain⟨y2,hy2⟩:∃ y2,y2=Y k:=⟨_,rfl⟩
  have HX:Hid (x=f.code.getD k Pl.IrI.zero/\y2=Y k):=⟨hx,hy2⟩
  obtain⟨hc,hrow⟩:=HY.out k hlt
  rw[<- hx,<- hy2]at hc hrow
  have hbw:=HBB.out _ HR.out.bel
  obtain⟨b0,b1,b2,b3,b4,b5,b6⟩:=iri_cells (u:=wr) (fun j hj=>(hbw.cell (p:=⟨sb,so+k*7+j,none⟩) hsb).trans (hc j hj))
  have hal:x.args.length<=1048576:=by rw[hx];exact HAL.out k (by rw[HS.out.2];exact hlt)
  have hyl:y2.len<=1048576:=by rw[<- hrow.1];exact hal
  have hyl2:(y2.len:Int)<=9223372036854775807:=by omega
  have hxn:(Lit.int .i64 x.n).wf=true:=by rw[hx];exact HWF.out k (by rw[HS.out.2];exact hlt)
  have HROW:Hid (∀ u:World,Below wr.heap.size wr u->Row .i64 lo u y2.a y2.len y2.cap x.args):=fun u hu=>hrow.keep (hbw.trans (hu.mono hbw.size))
  have HAY:Hid (x.args.length=y2.len):=hrow.1
  have HNS:Hid (¬ Pl.StepOk f x->¬ Pl.rrOk f):=fun q r=>q (by rw[hx];exact r.2.2.2 k (by rw[HS.out.2];exact hlt))
  obtain⟨y0,hy0⟩:∃ y0:World,y0=wr.alloc (.cells #[.int .i64 x.op,.int .i64 x.d,.int .i64 x.a,.int .i64 x.b,.int .i64 x.n,.string x.sym,.slice y2.a y2.len y2.cap] 81):=⟨_,rfl⟩
  have hbx:y0.heap[wr.heap.size]?=some (.cells #[.int .i64 x.op,.int .i64 x.d,.int .i64 x.a,.int .i64 x.b,.int .i64 x.n,.string x.sym,.slice y2.a y2.len y2.cap] 81 (0,0)):=by rw[hy0];exact heap_alloc_new wr _
  have HY0:Hid (Below wr.heap.size wr y0):=by rw[hy0];exact below_alloc _ _
  have HBX:Hid (∀ u:World,Below y0.heap.size y0 u->u.heap[wr.heap.size]?=some (.cells #[.int .i64 x.op,.int .i64 x.d,.int .i64 x.a,.int .i64 x.b,.int .i64 x.n,.string x.sym,.slice y2.a y2.len y2.cap] 81 (0,0))):=fun u hu=>(hu.block _ (Array.getElem?_eq_some_iff.1 hbx).1).trans hbx
  have z0:=cell_of_row y0 wr.heap.size 0 _ 81 (0,0) hbx
  have z1:=cell_of_row y0 wr.heap.size 1 _ 81 (0,0) hbx
  have z2:=cell_of_row y0 wr.heap.size 2 _ 81 (0,0) hbx
  have z3:=cell_of_row y0 wr.heap.size 3 _ 81 (0,0) hbx
  have z4:=cell_of_row y0 wr.heap.size 4 _ 81 (0,0) hbx
  have z5:=cell_of_row y0 wr.heap.size 5 _ 81 (0,0) hbx
  have z6:=cell_of_row y0 wr.heap.size 6 _ 81 (0,0) hbx
  simp only[List.getElem?_toArray,List.getElem?_cons_zero,List.getElem?_cons_succ]at z0 z1 z2 z3 z4 z5 z6
  clear hx hy2 hc hrow hbw hbx
  by_cases hop:1<=x.op/\x.op<=16
  rotate_left
  ·have HN:Hid (¬ Pl.rrOk f):=HNS.out fun q=>hop q.op
   have HRS:Hid (∀ u:World,Calls Tryz.prog 58 #[.agg #[.int .i64 x.op,.int .i64 x.d,.int .i64 x.a,.int .i64 x.b,.int .i64 x.n,.string x.sym,.slice y2.a y2.len y2.cap]] u fun e w'=>e=.returned (.tuple #[.nilIface,.bool false])/\Below u.heap.size u w'):=fun u=>readStep_0 x y2 u (by omega)
   clear hop
   go_upto_region 9 with fail
   rw[<- hy0]
   clear hy0
   go_upto_region 10 with (go_at_call 58;refine (HRS.out _).mono ?_;rintro e u1 ⟨rfl,d1⟩; have D1:Hid (Below y0.heap.size y0 u1):=d1;clear d1)
   refine rr10_0 (x:=x) (wx:=x) (y2:=y2) (T:=0) (c:=.nilIface) (F1:=0) (F4:=0) (r1:=.nilIface) (r4:=.nilIface) (HBX.out _ D1.out) _ _ _ _ _ _ _ _ _ _ _ _ _ _ _ _ _ _ _ _ _ _ _ _ _ _ _ _ _ _ _ _ _ _ _ _ _ _ _ _ _ _ _ _ _ _ _ _ _ _ _ _ _ _ _ _ _ _ _ _ _ _ _ _ _ _ _ _ _ _ _ _ _ _ _ _ _ _ _ _ _ _ _ _ _ _ _ _ _ _ _ _ _ _ _ _ _ _ _ _ ?_
   intro s70 s71 s72 s73 s74 s75 s76 s77 s78 s79 s80 s81 s82 s83 s84 s85 s86 s87 s88 s89 y3 hb3
   have HB3:Hid (Below w.heap.size w y3):=HBB.out _ (HR.out.bel.trans (Below.mono (HY0.out.trans (Below.mono (D1.out.trans (hb3.mono D1.out.size)) HY0.out.size)) HR.out.bel.size))
   clear hb3
   go_wp2_with fail
   go_ret2
   exact rr_no HN.out HB3.out
  obtain⟨kk,hkk⟩:∃ kk:Nat,x.op=(kk:Int):=⟨x.op.toNat,by omega⟩
  have hk16:1<=kk/\kk<=16:=by omega
  have HOP:Hid ((1<=x.op/\x.op<=16)/\x.op.toNat=kk):=⟨hop,by omega⟩
  have hRS0:=fun u:World=>readStep_is kk hk16 x hkk y2 u
  obtain⟨T,c,F1,r1,hv,hm1,hf1,hc1⟩:=says_written (lo:=lo) kk hk16 x y2 wr (HROW.out wr (Below.refl _ _)) hyl
  obtain⟨T',c',F4,r4,hv',hm4,hf4,hc4⟩:=says_fits kk hk16 gr gm nm vl lab x y2 HAY.out hyl2 (by omega) hxn wr HR.out.fit
  have HRGx:Hid (∀ u:World,Below wr.heap.size wr u->Calls Tryz.prog 60 #[.pointer (some ⟨gr,0,none⟩),stV kk x y2] u fun e w'=>IsB (Pl.regsOk f.regs (Pl.usesL kk x ++ Pl.setsL kk x)) e/\Below u.heap.size u w'):=fun u hu=>hasRegs_is gr f.regs hrg (stV kk x y2) _ _ (by have:=uses_len kk x;omega) (sets_len kk x) u ((HR.out.keep hu).cell 2) (says_uses (lo:=lo) kk hk16 x y2 u (HROW.out u hu) hyl) (says_sets (lo:=lo) kk hk16 x y2 u (HROW.out u hu) hyl)
  rw[hv]at hRS0 HRGx hv'
  simp only[Value.iface.injEq]at hv'
  obtain⟨rfl,rfl⟩:=hv'
  have HVV:Hid (stV kk x y2=.iface T c):=hv
  have HRS:Hid (∀ u:World,Calls Tryz.prog 58 #[.agg #[.int .i64 x.op,.int .i64 x.d,.int .i64 x.a,.int .i64 x.b,.int .i64 x.n,.string x.sym,.slice y2.a y2.len y2.cap]] u fun e w'=>e=.returned (.tuple #[.iface T c,.bool true])/\Below u.heap.size u w'):=hRS0
  have HSX:Hid (Pl.StepOk f x↔(Pl.SameI (Pl.wrI kk x) x/\Pl.regsOk f.regs (Pl.usesL kk x ++ Pl.setsL kk x)/\Pl.fitsP vl (fun n=>(lab n).isSome=true) kk x)):=by
   have el:(fun n=>(lab n).isSome=true)=(fun n=>∃ i,i<f.code.length/\Pl.isLab f.code n i):=funext fun n=>propext (HLK.out.1 n)
   show Pl.StepOk f x↔_
   rw[el,<- HV.out.2]
   exact⟨fun q=>⟨by have:=q.same;rw[HOP.out.2]at this;exact this,by have:=q.regs;rw[HOP.out.2]at this;exact this,by have:=q.fits;rw[HOP.out.2]at this;exact this⟩,fun q=>⟨HOP.out.1,by rw[HOP.out.2];exact q.1,by rw[HOP.out.2];exact q.2.1,by rw[HOP.out.2];exact q.2.2⟩⟩
  have HFTx:Hid (∀ u:World,Below wr.heap.size wr u->Calls Tryz.prog F4 #[r4,.pointer (some ⟨gr,0,none⟩)] u fun e u'=>IsB (Pl.fitsP vl (fun n=>(lab n).isSome=true) kk x) e/\Below u.heap.size u u'):=fun u hu=>hc4 u hu
  obtain⟨wx,hwx⟩:∃ wx,wx=Pl.wrI kk x:=⟨_,rfl⟩
  have HWRx:Hid (∀ u:World,Below wr.heap.size wr u->Calls Tryz.prog F1 #[r1] u fun e u'=>∃ v2:SV,e=.returned (.agg #[.int .i64 wx.op,.int .i64 wx.d,.int .i64 wx.a,.int .i64 wx.b,.int .i64 wx.n,.string wx.sym,.slice v2.a v2.len v2.cap])/\Row .i64 0 u' v2.a v2.len v2.cap wx.args/\Below u.heap.size u u'):=fun u hu=>(hc1 u hu).mono fun e u' ⟨⟨v2,he,hr⟩,hb⟩=>⟨v2,by rw[he,hwx];rfl,by rw[hwx];exact hr.lower (Nat.zero_le _),hb⟩
  have HSMx:Hid (∀ (u:World) (v2:SV),Below wr.heap.size wr u->Row .i64 0 u v2.a v2.len v2.cap wx.args->Calls Tryz.prog 59 #[.agg #[.int .i64 wx.op,.int .i64 wx.d,.int .i64 wx.a,.int .i64 wx.b,.int .i64 wx.n,.string wx.sym,.slice v2.a v2.len v2.cap],.agg #[.int .i64 x.op,.int .i64 x.d,.int .i64 x.a,.int .i64 x.b,.int .i64 x.n,.string x.sym,.slice y2.a y2.len y2.cap]] u fun e u'=>IsB (Pl.SameI wx x) e/\Below u.heap.size u u'):=fun u v2 hu hr=>sameIns_is wx x v2 y2 u hr (HROW.out u hu)
  rw[<- hwx]at HSX
  clear hRS0 hc1 hc4 hop hkk hk16 hwx hv
  have isF:∀ {p:Prop} {e:Ending},¬ p->IsB p e->e=.returned (.bool false):=fun hp ⟨b,he,hb⟩=>by rw[he];cases b with | false=>rfl | true=>exact absurd (hb.1 rfl) hp
  have isT:∀ {p:Prop} {e:Ending},p->IsB p e->e=.returned (.bool true):=fun hp ⟨b,he,hb⟩=>by rw[he,hb.2 hp]
  have HIF:Hid (∀ {p:Prop} {e:Ending},¬ p->IsB p e->e=.returned (.bool false)):=isF
  have HIT:Hid (∀ {p:Prop} {e:Ending},p->IsB p e->e=.returned (.bool true)):=isT
  clear isF isT
  go_upto_region 9 with fail
  rw[<- hy0]
  clear hy0
  go_upto_region 10 with (go_at_call 58;refine (HRS.out _).mono ?_;rintro e u1 ⟨rfl,d1⟩; have D1:Hid (Below y0.heap.size y0 u1):=d1;clear d1)
  have HBU:Hid (∀ u:World,Below u1.heap.size u1 u->Below wr.heap.size wr u):=fun u hu=>HY0.out.trans (Below.mono (D1.out.trans (hu.mono D1.out.size)) HY0.out.size)
  by_cases c1:Pl.SameI wx x
  rotate_left
  ·have HN:Hid (¬ Pl.rrOk f):=HNS.out fun q=>c1 (HSX.out.1 q).1
   refine rr10_1 (wx:=wx) (HBX.out _ D1.out) hm1 hf1 (fun u hu=>HWRx.out u (HBU.out u hu)) (fun u v2 hu hr=>(HSMx.out u v2 (HBU.out u hu) hr).mono fun e u' ⟨h1,h2⟩=>⟨HIF.out c1 h1,h2⟩) (F4:=0) (r4:=.nilIface) _ _ _ _ _ _ _ _ _ _ _ _ _ _ _ _ _ _ _ _ _ _ _ _ _ _ _ _ _ _ _ _ _ _ _ _ _ _ _ _ _ _ _ _ _ _ _ _ _ _ _ _ _ _ _ _ _ _ _ _ _ _ _ _ _ _ _ _ _ _ _ _ _ _ _ _ _ _ _ _ _ _ _ _ _ _ _ _ _ _ _ _ _ _ _ _ _ _ _ _ ?_
   intro s70 s71 s72 s73 s74 s75 s76 s77 s78 s79 s80 s81 s82 s83 s84 s85 s86 s87 s88 s89 y3 hb3
   have HB3:Hid (Below w.heap.size w y3):=HBB.out _ (HR.out.bel.trans (Below.mono (HY0.out.trans (Below.mono (D1.out.trans (hb3.mono D1.out.size)) HY0.out.size)) HR.out.bel.size))
   clear hb3
   go_wp2_with fail
   go_ret2
   exact rr_no HN.out HB3.out
  by_cases c2:Pl.regsOk f.regs (Pl.usesL kk x ++ Pl.setsL kk x)
  rotate_left
  ·have HN:Hid (¬ Pl.rrOk f):=HNS.out fun q=>c2 (HSX.out.1 q).2.1
   refine rr10_2 (wx:=wx) (HBX.out _ D1.out) hm1 hf1 (fun u hu=>HWRx.out u (HBU.out u hu)) (fun u v2 hu hr=>(HSMx.out u v2 (HBU.out u hu) hr).mono fun e u' ⟨h1,h2⟩=>⟨HIT.out c1 h1,h2⟩) (fun u hu=>(HRGx.out u (HBU.out u hu)).mono fun e u' ⟨h1,h2⟩=>⟨HIF.out c2 h1,h2⟩) (F4:=0) (r4:=.nilIface) _ _ _ _ _ _ _ _ _ _ _ _ _ _ _ _ _ _ _ _ _ _ _ _ _ _ _ _ _ _ _ _ _ _ _ _ _ _ _ _ _ _ _ _ _ _ _ _ _ _ _ _ _ _ _ _ _ _ _ _ _ _ _ _ _ _ _ _ _ _ _ _ _ _ _ _ _ _ _ _ _ _ _ _ _ _ _ _ _ _ _ _ _ _ _ _ _ _ _ _ ?_
   intro s70 s71 s72 s73 s74 s75 s76 s77 s78 s79 s80 s81 s82 s83 s84 s85 s86 s87 s88 s89 y3 hb3
   have HB3:Hid (Below w.heap.size w y3):=HBB.out _ (HR.out.bel.trans (Below.mono (HY0.out.trans (Below.mono (D1.out.trans (hb3.mono D1.out.size)) HY0.out.size)) HR.out.bel.size))
   clear hb3
   go_wp2_with fail
   go_ret2
   exact rr_no HN.out HB3.out
  by_cases c3:Pl.fitsP vl (fun n=>(lab n).isSome=true) kk x
  rotate_left
  ·have HN:Hid (¬ Pl.rrOk f):=HNS.out fun q=>c3 (HSX.out.1 q).2.2
   refine rr10_3 (wx:=wx) (HBX.out _ D1.out) hm1 hf1 (fun u hu=>HWRx.out u (HBU.out u hu)) (fun u v2 hu hr=>(HSMx.out u v2 (HBU.out u hu) hr).mono fun e u' ⟨h1,h2⟩=>⟨HIT.out c1 h1,h2⟩) (fun u hu=>(HRGx.out u (HBU.out u hu)).mono fun e u' ⟨h1,h2⟩=>⟨HIT.out c2 h1,h2⟩) hm4 hf4 (fun u hu=>(HFTx.out u (HBU.out u hu)).mono fun e u' ⟨h1,h2⟩=>⟨HIF.out c3 h1,h2⟩) _ _ _ _ _ _ _ _ _ _ _ _ _ _ _ _ _ _ _ _ _ _ _ _ _ _ _ _ _ _ _ _ _ _ _ _ _ _ _ _ _ _ _ _ _ _ _ _ _ _ _ _ _ _ _ _ _ _ _ _ _ _ _ _ _ _ _ _ _ _ _ _ _ _ _ _ _ _ _ _ _ _ _ _ _ _ _ _ _ _ _ _ _ _ _ _ _ _ _ _ ?_
   intro s70 s71 s72 s73 s74 s75 s76 s77 s78 s79 s80 s81 s82 s83 s84 s85 s86 s87 s88 s89 y3 hb3
   have HB3:Hid (Below w.heap.size w y3):=HBB.out _ (HR.out.bel.trans (Below.mono (HY0.out.trans (Below.mono (D1.out.trans (hb3.mono D1.out.size)) HY0.out.size)) HR.out.bel.size))
   clear hb3
   go_wp2_with fail
   go_ret2
   exact rr_no HN.out HB3.out
  have HOK:Hid (Pl.StepOk f x):=HSX.out.2 ⟨c1,c2,c3⟩
  refine rr10_4 (wx:=wx) (HBX.out _ D1.out) hm1 hf1 (fun u hu=>HWRx.out u (HBU.out u hu)) (fun u v2 hu hr=>(HSMx.out u v2 (HBU.out u hu) hr).mono fun e u' ⟨h1,h2⟩=>⟨HIT.out c1 h1,h2⟩) (fun u hu=>(HRGx.out u (HBU.out u hu)).mono fun e u' ⟨h1,h2⟩=>⟨HIT.out c2 h1,h2⟩) hm4 hf4 (fun u hu=>(HFTx.out u (HBU.out u hu)).mono fun e u' ⟨h1,h2⟩=>⟨HIT.out c3 h1,h2⟩) _ _ _ _ _ _ _ _ _ _ _ _ _ _ _ _ _ _ _ _ _ _ _ _ _ _ _ _ _ _ _ _ _ _ _ _ _ _ _ _ _ _ _ _ _ _ _ _ _ _ _ _ _ _ _ _ _ _ _ _ _ _ _ _ _ _ _ _ _ _ _ _ _ _ _ _ _ _ _ _ _ _ _ _ _ _ _ _ _ _ _ _ _ _ _ _ _ _ _ _ ?_
  intro s70 s71 s72 s73 s74 s75 s76 s77 s78 s79 s80 s81 s82 s83 s84 s85 s86 s87 s88 s89 y3 hb3
  have HR3:Hid (Rt w0 gr gm nm f ⟨va,vl,vc⟩ ⟨some ⟨sb,so,none⟩,sl,sc⟩ S (stepsV f Y k) lab P pps room y3):=HR.out.keep (HBU.out y3 hb3)
  have hln:(stepsV f Y k).length=k:=by unfold stepsV;simp
  have HST:Hid (stepsV f Y (k+1)=stepsV f Y k ++ [.iface T c]):=by
   show stepsV f Y (k+1)=_
   unfold stepsV
   rw[List.range_succ,List.map_append]
   simp only[List.map_cons,List.map_nil]
   rw[<- HX.out.1,<- HX.out.2,HOP.out.2,HVV.out]
  have r5:y3.cell? ⟨gr,5,none⟩=some S:=HR3.out.cell 5
  have hgl:gr<y3.heap.size:=HR3.out.lt
  have hwz:w0.heap.size<=y3.heap.size:=HR3.out.bel.size
  have HO5:Hid (y3.ownsRow w0.heap.size 93 1 S k (stepsV f Y k)):=by have:=HR3.out.st;rw[hln]at this;exact this
  obtain⟨i0,hi0,hz0',hz1,hz2⟩:=info_parts (P:=Tryz.prog) (e:=93) (z:=.nilIface) (size:=1) (bytes:=16) (by kernel_rfl)
  have HI:Hid (Tryz.prog.info? 93=some i0/\i0.zero=some .nilIface/\i0.size=1/\i0.bytes=16):=⟨hi0,hz0',hz1,hz2⟩
  clear hb3 c1 c2 c3 z0 z1 z2 z3 z4 z5 z6 hm1 hf1 hm4 hf4 hi0 hz0' hz1 hz2
  go_wp2_with (at_builtin;refine wpList_append_lies _ rfl (.tmp 95) (.tmp 97) 58 rfl w0.heap.size 93 i0 .nilIface 1 16 Tryz.underlying58 HI.out.1 HI.out.2.1 HI.out.2.2.1 HI.out.2.2.2 rfl (by decide) S k (stepsV f Y k) rfl (own_keepI HO5.out (below_alloc y3 (.cells #[.iface T c] 93))) ⟨y3.heap.size,0,none⟩ 1 1 [.iface T c] rfl rfl (World.news_of_block (heap_alloc_new y3 (.cells #[.iface T c] 93))) (by intro z hz;simp at hz;subst hz;rfl) (by decide) (by unfold maxLen;omega) (by omega) (Nat.le_trans hwz (below_alloc y3 _).size) _ rfl ?_;intro G cp w2 hown1 hgrow hat hlt1;have HGR:Hid (y3.grownBy w2 S.ownBlock):=grown_throughI (below_alloc _ _) hgrow;have HOW:Hid (w2.ownsRow w0.heap.size 93 1 (.slice (some ⟨G,0,none⟩) (k+1) cp) (k+1) (stepsV f Y k ++ [.iface T c])):=hown1;have g5:w2.cell? ⟨gr,5,none⟩=some S:=cell_of_row w2 gr 5 _ 61 (0,0) (HR3.out.boxS HGR.out);have h5:w2.frozen? ⟨gr,5,none⟩=false:=frozen_of_row w2 gr 5 _ 61 (HR3.out.boxS HGR.out);clear hown1 hgrow hat)
  have HFN:Hid (Rt w0 gr gm nm f ⟨va,vl,vc⟩ ⟨some ⟨sb,so,none⟩,sl,sc⟩ (.slice (some ⟨G,0,none⟩) (k+1) cp) (stepsV f Y (k+1)) lab P pps room (w2.setCell ⟨gr,5,none⟩ (.slice (some ⟨G,0,none⟩) (k+1) cp))):=by
   have q:=HR3.out.stepped (r:=.iface T c) (G:=G) (cp:=cp) HGR.out (by rw[hln];exact HOW.out)
   rw[hln]at q
   show Rt _ _ _ _ _ _ _ _ _ _ _ _ _ _
   rw[HST.out]
   exact q
  have HK2:Hid (∀ i,i<k+1->Pl.StepOk f (f.code.getD i Pl.IrI.zero)):=fun i hi=>by
   by_cases e:i=k
   ·rw[e,<- HX.out.1];exact HOK.out
   ·exact HK.out i (by omega)
  go_roundw
  case rel=>exact⟨k+1,_,by omega,by go_num,HK2,HFN⟩
  case measure=>simp[intOf];omega
end Go.Proofs.YtcgfgmlfbgbkfaaGreatDoor.W
namespace Go.Proofs.YtcgfgmlfbgbkfaaGreatDoor.Pl
structure CallL (code:List IrI) (xs:List Int):Prop where
 asc:∀ i j,i<j->j<xs.length->xs.getD i 0<xs.getD j 0
 all:∀ p:Int,p∈xs↔∃ k:Nat,p=(k:Int)/\k<code.length/\isCall code k
theorem CallL.crs {code:List IrI} {xs:List Int} (h:CallL code xs) {fr tt:Int} {k:Nat} (hk:k<=xs.length) (htt:tt<=code.length) (h1:∀ i,i<k->xs.getD i 0<fr+1) (h2:∀ i,k<=i->i<xs.length->fr+1<=xs.getD i 0) (b:Bool) (hb:b=true↔k<xs.length/\xs.getD k 0<tt):Crs code fr tt b:=by
 unfold Crs
 rw[hb]
 constructor
 ·rintro⟨hl,hlt⟩
  have hm:xs.getD k 0∈xs:=by rw[List.getD_eq_getElem?_getD,List.getElem?_eq_getElem hl];exact List.getElem_mem _
  obtain⟨q,e,hq,hc⟩:=(h.all _).1 hm
  have:=h2 k (Nat.le_refl _) hl
  exact⟨q,by omega,by omega,hc⟩
 ·rintro⟨q,hq1,hq2,hc⟩
  have hm:=(h.all (q:Int)).2 ⟨q,rfl,by omega,hc⟩
  obtain⟨j,hj,e⟩:=List.getElem_of_mem hm
  have ej:xs.getD j 0=(q:Int):=by rw[List.getD_eq_getElem?_getD,List.getElem?_eq_getElem hj,e];rfl
  have hkj:k<=j:=Nat.le_of_not_lt fun c=>by have:=h1 j c;omega
  refine⟨by omega,?_⟩
  by_cases e2:k=j
  ·subst e2;omega
  ·have:=h.asc k j (by omega) hj;omega
end Go.Proofs.YtcgfgmlfbgbkfaaGreatDoor.Pl
namespace Go.Proofs.YtcgfgmlfbgbkfaaGreatDoor.W
open Go.RowKit
def CrossI (xs:List Int) (n:Nat) (fr tt:Int) (e:Ending):Prop:=∃ (k:Nat) (b:Bool),e=.returned (.bool b)/\k<=n/\(∀ i,i<k->xs.getD i 0<fr+1)/\(∀ i,k<=i->i<n->fr+1<=xs.getD i 0)/\(b=true↔k<n/\xs.getD k 0<tt)
set_option maxRecDepth 100000 in
theorem crosses_is (g n c:Nat) (xs:List Int) (fr tt:Int) (cr:Bool) (w:World) (hn:n=xs.length) (hb:n<=10000) (hc:∀ i,i<n->w.cell? ⟨g,i,none⟩=some (.int .i64 (xs.getD i 0))) (hg:g<w.heap.size) (hs:∀ i j,i<j->j<n->xs.getD i 0<xs.getD j 0) (hf : -1<=fr/\fr<=10000) (ht : -1<=tt/\tt<=10000) :
  Calls Tryz.prog 76 #[.agg #[.int .i64 fr,.int .i64 tt,.bool cr],.slice (some ⟨g,0,none⟩) n c] w fun e w'=>CrossI xs n fr tt e/\Below w.heap.size w w':=by
 have HSE:Hid (∀ u:World,Below w.heap.size w u->Calls Tryz.prog 102 #[.slice (some ⟨g,0,none⟩) n c,.int .i64 (fr+1)] u fun e w'=>Found xs n (fr+1) e/\w'=u):=fun u hu=>search_is g n c xs (fr+1) u hn hb (fun i hi=>(hu.cell (p:=⟨g,i,none⟩) hg).trans (hc i hi)) (fun i j hij hj=>if e:i=j then by rw[e];exact Int.le_refl _ else Int.le_of_lt (hs i j (by omega) hj))
 have HC:Hid (∀ u:World,Below w.heap.size w u->∀ i,i<n->u.cell? ⟨g,i,none⟩=some (.int .i64 (xs.getD i 0))):=fun u hu i hi=>(hu.cell (p:=⟨g,i,none⟩) hg).trans (hc i hi)
 clear hn hc hs
 go_enter Tryz.func76,Tryz.ntmps76
 go_wp2_with fail
 refine ty_at fun u0 hu0=>?_
 have H0:Hid (Below w.heap.size w u0/\u0.heap[w.heap.size]?=some (.cells #[.int .i64 fr,.int .i64 tt,.bool cr] 73 (0,0))):=by
  rw[hu0]
  exact⟨below_alloc w _,heap_alloc_new w _⟩
 clear hu0
 refine (HSE.out u0 H0.out.1).mono ?_
 rintro e u1 ⟨⟨k,b,rfl,hk,h1,h2⟩,rfl⟩
 have HK:Hid (k<=n/\(∀ i,i<k->xs.getD i 0<fr+1)/\∀ i,k<=i->i<n->fr+1<=xs.getD i 0):=⟨hk,h1,h2⟩
 have s1:u1.cell? ⟨w.heap.size,1,none⟩=some (.int .i64 tt):=by rw[cell_of_row u1 _ 1 _ _ (0,0) H0.out.2];rfl
 clear h1 h2 HSE
 by_cases hkn:k<n
 ·have hki:(k:Int)<(n:Int):=by omega
  have hkd:decide ((k:Int)<(n:Int))=true:=by simp;omega
  have c1:=HC.out u1 H0.out.1 k hkn
  obtain⟨x,hx⟩:∃ x,x=xs.getD k 0:=⟨_,rfl⟩
  rw[<- hx]at c1
  have HE:Hid (x=xs.getD k 0):=hx
  clear hx
  by_cases hxt:x<tt
  ·have hxd:decide (x<tt)=true:=by simp[hxt]
   go_wp2_with fail
   go_quiet (fail)
   go_wp2_with fail
   go_ret
   exact⟨⟨k,true,rfl,HK.out.1,HK.out.2.1,HK.out.2.2,⟨fun _=>⟨by omega,by have:=HE.out;omega⟩,fun _=>rfl⟩⟩,by repeat (first | exact H0.out.1 | refine below_drewN ?_ _)⟩
  ·have hxd:decide (x<tt)=false:=by simp;omega
   go_wp2_with fail
   go_quiet (fail)
   go_wp2_with fail
   go_ret
   exact⟨⟨k,false,rfl,HK.out.1,HK.out.2.1,HK.out.2.2,⟨(fun c=>(by cases c)),fun c=>absurd c.2 (by have:=HE.out;omega)⟩⟩,by repeat (first | exact H0.out.1 | refine below_drewN ?_ _)⟩
 ·have hki:¬ (k:Int)<(n:Int):=by omega
  have hkd:decide ((k:Int)<(n:Int))=false:=by simp;omega
  go_wp2_with fail
  go_quiet (fail)
  go_wp2_with fail
  go_ret
  exact⟨⟨k,false,rfl,HK.out.1,HK.out.2.1,HK.out.2.2,⟨(fun c=>(by cases c)),fun c=>absurd c.1 (by omega)⟩⟩,by repeat (first | exact H0.out.1 | refine below_drewN ?_ _)⟩
end Go.Proofs.YtcgfgmlfbgbkfaaGreatDoor.W
