import Derived.Test.YtlbomnnldkeocaaGreatI44
set_option linter.unusedVariables false
set_option linter.unusedSimpArgs false
set_option maxHeartbeats 16000000
namespace Go.Proofs.YtlbomnnldkeocaaGreat.W
open Go.RowKit Go.Shelf Go.Maps Go.WideMaps Go.Sort
noncomputable def Yj (n:Nat):Code:=((Tryz.f82.body.bind (lG n)).getD .skip)
def dS (ga gm h4 h8 q:Nat) (s:ByteArray) (z t:Int) (v0:Value)  (c1 c3 c5 c6 c7 c9 c10 c11 c12 c13 c14 c15 c16 c17 c18 c19 c20 c21 eX oO oP rP rQ qP oN qF qG qH vF vG vH ZM:Value)  (L:Array Bool):Act:={ tmps:=#[.pointer (some ⟨ga,0,none⟩),c1,.int .i64 t,c3,.pointer (some ⟨h4,0,none⟩),c5,c6,c7,.pointer (some ⟨h8,0,none⟩),c9,c10,c11,c12,c13,c14,c15,c16,c17,c18,c19,c20,c21,aR oO L 0 (.pointer (some ⟨ga,0,none⟩)),aR oP L 1 (.pointer (some ⟨ga,0,none⟩)),aR rP L 2 (.pointer (some ⟨ga,2,none⟩)),aR rQ L 3 (.map (some gm)),aR qP L 4 (.pointer (some ⟨h4,6,none⟩)),aR oN L 5 (.string s),aR qF L 6 (.pointer (some ⟨q,0,none⟩)),aR qG L 7 (.pointer (some ⟨q,0,none⟩)),aR qH L 8 (.pointer (some ⟨q,2,none⟩)),aR vF L 9 (.int .i64 z),aR vG L 10 (.int .i64 t),aR vH L 11 (.int .i64 (z-t)),aR ZM L 12 (.pointer (some ⟨h8,4,none⟩)),eX],defers:=[] }
set_option maxRecDepth 100000 in
theorem Im (ga gm h4 h8 q:Nat) (s:ByteArray) (z t:Int) (v0:Value) {c1 c3 c5 c6 c7 c9 c10 c11 c12 c13 c14 c15 c16 c17 c18 c19 c20 c21 eX oO oP rP rQ qP oN qF qG qH vF vG vH ZM:Value} (Y:World) (m2:Y.cell? ⟨ga,2,none⟩=some (.map (some gm))) (m6:Y.cell? ⟨h4,6,none⟩=some (.string s)) (mq:Y.cell? ⟨q,2,none⟩=some (.int .i64 z)) (m8:Y.cell? ⟨h8,4,none⟩=some v0) (f8:Y.frozen? ⟨h8,4,none⟩=false) (hlk:(Instr.lookup 67 (.map (some gm)) (.string s) false).run Tryz.prog Y.drew=.ok (.pointer (some ⟨q,0,none⟩)) Y.drew) (hz : -1099511627776<=z-t/\z-t<=1099511627776) {Q:Exit->Act->World->Prop}
  (hK:Q .normal { tmps:=#[.pointer (some ⟨ga,0,none⟩),c1,.int .i64 t,c3,.pointer (some ⟨h4,0,none⟩),c5,c6,c7,.pointer (some ⟨h8,0,none⟩),c9,c10,c11,c12,c13,c14,c15,c16,c17,c18,c19,c20,c21,.pointer (some ⟨ga,0,none⟩),.pointer (some ⟨ga,0,none⟩),.pointer (some ⟨ga,2,none⟩),.map (some gm),.pointer (some ⟨h4,6,none⟩),.string s,.pointer (some ⟨q,0,none⟩),.pointer (some ⟨q,0,none⟩),.pointer (some ⟨q,2,none⟩),.int .i64 z,.int .i64 t,.int .i64 (z-t),.pointer (some ⟨h8,4,none⟩),eX],defers:=[] } (Y.drew.setCell ⟨h8,4,none⟩ (.int .i64 (z-t)))) :
  (Yj 9).wp Tryz.prog Q { tmps:=#[.pointer (some ⟨ga,0,none⟩),c1,.int .i64 t,c3,.pointer (some ⟨h4,0,none⟩),c5,c6,c7,.pointer (some ⟨h8,0,none⟩),c9,c10,c11,c12,c13,c14,c15,c16,c17,c18,c19,c20,c21,oO,oP,rP,rQ,qP,oN,qF,qG,qH,vF,vG,vH,ZM,eX],defers:=[] } Y:=by
 have nI:Hid _:=hK
 clear hK
 have j2:Y.drew.cell? ⟨ga,2,none⟩=some (.map (some gm)):=m2
 have j6:Y.drew.cell? ⟨h4,6,none⟩=some (.string s):=m6
 have jq:Y.drew.cell? ⟨q,2,none⟩=some (.int .i64 z):=mq
 have j8:Y.drew.cell? ⟨h8,4,none⟩=some v0:=m8
 have g8:Y.drew.frozen? ⟨h8,4,none⟩=false:=f8
 have hw:wrap64 (z-t)=z-t:=by unfold wrap64;omega
 have hw1:IntKind.i64.wrap (z-t)=z-t:=by rw[IntKind.wrap_i64];omega
 clear m2 m6 mq m8 f8
 conv=>arg 2;whnf
 refine wp_region_any (by kernel_rfl) ?_
 change wpAny _ _ _ _ _ _ _ (World.drew _)
 refine bQ (fun L jD u=>jD=dS ga gm h4 h8 q s z t v0  c1 c3 c5 c6 c7 c9 c10 c11 c12 c13 c14 c15 c16 c17 c18 c19 c20 c21 eX oO oP rP rQ qP oN qF qG qH vF vG vH ZM  L/\nC Y.drew (fun u=>u=Y.drew.setCell ⟨h8,4,none⟩ (.int .i64 (z-t))) 13 L u) ?done (by kernel_rfl) ?step _ 14 _ _ (by kernel_rfl) ?init (by decide)
 case init=>exact⟨by simp only[dS,dG (bR _ _)],nC.init⟩
 case step=>
  intro L act w i o hI hlt hs nl hC hd ho K hK
  obtain⟨rfl,hW⟩:=hI
  have jB:i<14:=(Array.getElem?_eq_some_iff.1 ho).1
  have hD:=fun k m=>hd {on:=k,ground:=.data} m rfl
  rcases (show i=0\/i=1\/i=2\/i=3\/i=4\/i=5\/i=6\/i=7\/i=8\/i=9\/i=10\/i=11\/i=12\/i=13 by omega) with rfl|rfl|rfl|rfl|rfl|rfl|rfl|rfl|rfl|rfl|rfl|rfl|rfl|rfl<;>(change some _=some o at ho;cases ho)
  ·simp only[dS]
   go_simp
   exact hK _ _ ⟨by simp only[dS,aD hlt,reduceIte,Nat.reduceEqDiff];try rfl,(hW.keep hlt (by decide))⟩
  ·have q0:up L 0=true:=hD 0 (by simp)
   simp only[dS,aA q0]
   go_simp
   exact hK _ _ ⟨by simp only[dS,aD hlt,aA q0,reduceIte,Nat.reduceEqDiff];try rfl,(hW.keep hlt (by decide))⟩
  ·have q1:up L 1=true:=hD 1 (by simp)
   simp only[dS,aA q1]
   go_simp
   exact hK _ _ ⟨by simp only[dS,aD hlt,aA q1,reduceIte,Nat.reduceEqDiff];try rfl,(hW.keep hlt (by decide))⟩
  ·have q2:up L 2=true:=hD 2 (by simp)
   have n6:up L 6=false:=hC.no nl 6 rfl (by kernel_rfl)
   have n7:up L 7=false:=hC.no n6 7 rfl (by kernel_rfl)
   have n8:up L 8=false:=hC.no n7 8 rfl (by kernel_rfl)
   have n9:up L 9=false:=hC.no n8 9 rfl (by kernel_rfl)
   have n11:up L 11=false:=hC.no n9 11 rfl (by kernel_rfl)
   have n13:up L 13=false:=hC.no n11 13 rfl (by kernel_rfl)
   obtain rfl:=hW.1 n13
   simp only[dS,aA q2]
   go_simp
   exact hK _ _ ⟨by simp only[dS,aD hlt,aA q2,reduceIte,Nat.reduceEqDiff];try rfl,(hW.keep hlt (by decide))⟩
  ·simp only[dS]
   go_simp
   exact hK _ _ ⟨by simp only[dS,aD hlt,reduceIte,Nat.reduceEqDiff];try rfl,(hW.keep hlt (by decide))⟩
  ·have q4:up L 4=true:=hD 4 (by simp)
   have n6:up L 6=false:=hC.no nl 6 rfl (by kernel_rfl)
   have n7:up L 7=false:=hC.no n6 7 rfl (by kernel_rfl)
   have n8:up L 8=false:=hC.no n7 8 rfl (by kernel_rfl)
   have n9:up L 9=false:=hC.no n8 9 rfl (by kernel_rfl)
   have n11:up L 11=false:=hC.no n9 11 rfl (by kernel_rfl)
   have n13:up L 13=false:=hC.no n11 13 rfl (by kernel_rfl)
   obtain rfl:=hW.1 n13
   simp only[dS,aA q4]
   go_simp
   exact hK _ _ ⟨by simp only[dS,aD hlt,aA q4,reduceIte,Nat.reduceEqDiff];try rfl,(hW.keep hlt (by decide))⟩
  ·have q3:up L 3=true:=hD 3 (by simp)
   have q5:up L 5=true:=hD 5 (by simp)
   have n7:up L 7=false:=hC.no nl 7 rfl (by kernel_rfl)
   have n8:up L 8=false:=hC.no n7 8 rfl (by kernel_rfl)
   have n9:up L 9=false:=hC.no n8 9 rfl (by kernel_rfl)
   have n11:up L 11=false:=hC.no n9 11 rfl (by kernel_rfl)
   have n13:up L 13=false:=hC.no n11 13 rfl (by kernel_rfl)
   obtain rfl:=hW.1 n13
   simp only[dS,aA q3,aA q5]
   go_simp
   exact hK _ _ ⟨by simp only[dS,aD hlt,aA q3,aA q5,reduceIte,Nat.reduceEqDiff];try rfl,(hW.keep hlt (by decide))⟩
  ·have q6:up L 6=true:=hD 6 (by simp)
   simp only[dS,aA q6]
   go_simp
   exact hK _ _ ⟨by simp only[dS,aD hlt,aA q6,reduceIte,Nat.reduceEqDiff];try rfl,(hW.keep hlt (by decide))⟩
  ·have q7:up L 7=true:=hD 7 (by simp)
   simp only[dS,aA q7]
   go_simp
   exact hK _ _ ⟨by simp only[dS,aD hlt,aA q7,reduceIte,Nat.reduceEqDiff];try rfl,(hW.keep hlt (by decide))⟩
  ·have q8:up L 8=true:=hD 8 (by simp)
   have n11:up L 11=false:=hC.no nl 11 rfl (by kernel_rfl)
   have n13:up L 13=false:=hC.no n11 13 rfl (by kernel_rfl)
   obtain rfl:=hW.1 n13
   simp only[dS,aA q8]
   go_simp
   exact hK _ _ ⟨by simp only[dS,aD hlt,aA q8,reduceIte,Nat.reduceEqDiff];try rfl,(hW.keep hlt (by decide))⟩
  ·simp only[dS]
   go_simp
   exact hK _ _ ⟨by simp only[dS,aD hlt,reduceIte,Nat.reduceEqDiff];try rfl,(hW.keep hlt (by decide))⟩
  ·have q9:up L 9=true:=hD 9 (by simp)
   have rZ:up L 10=true:=hD 10 (by simp)
   simp only[dS,aA q9,aA rZ]
   go_simp
   exact hK _ _ ⟨by simp only[dS,aD hlt,aA q9,aA rZ,reduceIte,Nat.reduceEqDiff];try rfl,(hW.keep hlt (by decide))⟩
  ·simp only[dS]
   go_simp
   exact hK _ _ ⟨by simp only[dS,aD hlt,reduceIte,Nat.reduceEqDiff];try rfl,(hW.keep hlt (by decide))⟩
  ·have sH:up L 11=true:=hD 11 (by simp)
   have lV:up L 12=true:=hD 12 (by simp)
   obtain rfl:=hW.1 nl
   simp only[dS,aA sH,aA lV]
   go_simp
   exact hK _ _ ⟨by simp only[dS,aD hlt,aA sH,aA lV,reduceIte,Nat.reduceEqDiff];try rfl,nC.first hlt rfl⟩
 case done=>
  rintro L a u ⟨rfl,hW⟩ hall
  simp only[dS,aA (hall 0 (by decide)),aA (hall 1 (by decide)),aA (hall 2 (by decide)),aA (hall 3 (by decide)),aA (hall 4 (by decide)),aA (hall 5 (by decide)),aA (hall 6 (by decide)),aA (hall 7 (by decide)),aA (hall 8 (by decide)),aA (hall 9 (by decide)),aA (hall 10 (by decide)),aA (hall 11 (by decide)),aA (hall 12 (by decide)),aA (hall 13 (by decide))]
  obtain rfl:=hW.2 (hall 13 (by decide))
  exact nI.out
namespace sZ
end sZ
variable {lo:Nat} {xs:List Pl.Ln} {w u u':World} {ga gm:Nat} {a:Option Addr} {len cap:Nat} {stack:Int} {ec:Pl.kV} {B:Nat} {mb:Nat->Nat} {d:Nat->Bool} {ad:Nat->Int}
def ZZ (y:Pl.Ins):Array Value:=#[.int .i64 y.op,.int .i64 y.rd,.int .i64 y.r1,.int .i64 y.r2,.int .i64 y.im]
theorem Io (x:Pl.Ln) (t:Int) (j:Nat) (h:sZ lo xs w u ga gm a len cap stack B mb) (hs:x.s.size<=maxLen) (hk:x.k=7) (hl:Pl.lb xs x.s=some j) (hz : -1099511627776<=(Pl.cu xs j).at-t/\(Pl.cu xs j).at-t<=1099511627776):Calls Tryz.prog 82 #[.pointer (some ⟨ga,0,none⟩),.agg #[.int .i64 x.k,.int .i64 x.op,.int .i64 x.rd,.int .i64 x.r1,.int .i64 x.r2,.int .i64 x.im,.string x.s,.int .i64 x.n],.int .i64 t] u fun e u'=>e=.returned (.tuple #[.agg (ZZ (Pl.zD x ((Pl.cu xs j).at-t))),.bool true])/\Below u.heap.size u u':=by
 have HJ:Hid (Pl.zD x ((Pl.cu xs j).at-t)=⟨45,0,0,0,(Pl.cu xs j).at-t⟩):=by show _=_;unfold Pl.zD;simp[hk]
 have k7:(x.k == 7)=true:=by simp[hk]
 obtain⟨Y,hY⟩:∃ Y,Y=((u.alloc (.cells #[.int .i64 x.k,.int .i64 x.op,.int .i64 x.rd,.int .i64 x.r1,.int .i64 x.r2,.int .i64 x.im,.string x.s,.int .i64 x.n] 51)).alloc (.cells #[.int .i64 0,.int .i64 0,.int .i64 0,.int .i64 0,.int .i64 0] 32)).alloc (.cells #[.int .i64 45,.int .i64 0,.int .i64 0,.int .i64 0,.int .i64 0] 32):=⟨_,rfl⟩
 have UH:Below u.heap.size u Y:=by rw[hY];exact (aB u _).trans (((aB _ _).mono (by simp)).trans ((aB _ _).mono (by simp;omega)))
 have Oh:Y.heap.size=u.heap.size+3:=by rw[hY];simp
 have r4:Y.heap[u.heap.size]?=some (.cells #[.int .i64 x.k,.int .i64 x.op,.int .i64 x.rd,.int .i64 x.r1,.int .i64 x.r2,.int .i64 x.im,.string x.s,.int .i64 x.n] 51 (0,0)):=by rw[hY,Below.heap_alloc _ _ _ (by simp;omega),Below.heap_alloc _ _ _ (by simp)];exact heap_alloc_new u _
 have r6:Y.heap[u.heap.size+1]?=some (.cells #[.int .i64 0,.int .i64 0,.int .i64 0,.int .i64 0,.int .i64 0] 32 (0,0)):=by rw[hY,Below.heap_alloc _ _ _ (by simp)];exact bL (by simp)
 have r8:Y.heap[u.heap.size+2]?=some (.cells #[.int .i64 45,.int .i64 0,.int .i64 0,.int .i64 0,.int .i64 0] 32 (0,0)):=by rw[hY];exact bL (by simp)
 have hA:=h.keep UH
 have HF:Hid (Y.cell? ⟨ga,2,none⟩=some (.map (some gm))/\Y.cell? ⟨mb j,2,none⟩=some (.int .i64 (Pl.cu xs j).at)/\(Instr.lookup 67 (.map (some gm)) (.string x.s) false).run Tryz.prog Y.drew=.ok (.pointer (some ⟨mb j,0,none⟩)) Y.drew):=by
  refine⟨(kH.am hA).cell 2,(hA.mark hl).2.2,?_⟩
  have hk:=kH.look (hA.keep (Below.drew (Below.refl _ _))) hs
  rw[hl]at hk
  exact hk
 have HR:Hid (Y.cell? ⟨u.heap.size,6,none⟩=some (.string x.s)/\Y.cell? ⟨u.heap.size+2,4,none⟩=some (.int .i64 0)/\Y.frozen? ⟨u.heap.size+2,4,none⟩=false):=⟨cell_of_row _ _ 6 _ 51 (0,0) r4,cell_of_row _ _ 4 _ 32 (0,0) r8,frozen_of_row _ _ 4 _ 32 r8⟩
 obtain⟨Z,hZ⟩:∃ Z,Z=Y.drew.setCell ⟨u.heap.size+2,4,none⟩ (.int .i64 ((Pl.cu xs j).at-t)):=⟨_,rfl⟩
 have o8:OnlyC (u.heap.size+2) Y.drew Z:=by rw[hZ];exact OnlyC.set _ _ _ _
 have z8:Z.heap[u.heap.size+2]?=some (.cells #[.int .i64 45,.int .i64 0,.int .i64 0,.int .i64 0,.int .i64 ((Pl.cu xs j).at-t)] 32 (0,0)):=by rw[hZ];exact heap_setCell_same Y.drew _ 4 _ _ _ r8
 have z6:Z.heap[u.heap.size+1]?=some (.cells #[.int .i64 0,.int .i64 0,.int .i64 0,.int .i64 0,.int .i64 0] 32 (0,0)):=(o8.block _ (by show u.heap.size+1<Y.heap.size;omega) (by omega)).trans r6
 have Oi:Hid (Below u.heap.size u Z):=by
  show Below _ _ _
  rw[hZ]
  exact Below.setCell (Below.drew UH) (p:=⟨u.heap.size+2,4,none⟩) (by show u.heap.size<=u.heap.size+2;omega) _
 have HY:Hid _:=hY.symm
 have HZ:Hid _:=hZ.symm
 have zC:Hid _:=z6
 have GZ:Hid _:=z8
 have Cf:Hid _:=hz
 clear h hA r4 r6 r8 UH Oh hl hs hY hZ o8 z6 z8 hz hk
 go_enter Tryz.func82,Tryz.ntmps82
 go_upto_region 9 with fail
 rw[HY.out]
 refine Im ga gm u.heap.size (u.heap.size+2) (mb j) x.s (Pl.cu xs j).at t _ Y HF.out.1 HR.out.1 HF.out.2.1 HR.out.2.1 HR.out.2.2 HF.out.2.2 Cf.out ?_
 rw[HZ.out]
 clear k7
 have c0:=cell_of_row Z (u.heap.size+2) 0 _ 32 (0,0) GZ.out
 have b0:=cell_of_row Z (u.heap.size+1) 0 _ 32 (0,0) zC.out
 have c1:=cell_of_row Z (u.heap.size+2) 1 _ 32 (0,0) GZ.out
 have b1:=cell_of_row Z (u.heap.size+1) 1 _ 32 (0,0) zC.out
 have c2:=cell_of_row Z (u.heap.size+2) 2 _ 32 (0,0) GZ.out
 have b2:=cell_of_row Z (u.heap.size+1) 2 _ 32 (0,0) zC.out
 have c3:=cell_of_row Z (u.heap.size+2) 3 _ 32 (0,0) GZ.out
 have b3:=cell_of_row Z (u.heap.size+1) 3 _ 32 (0,0) zC.out
 have c4:=cell_of_row Z (u.heap.size+2) 4 _ 32 (0,0) GZ.out
 have b4:=cell_of_row Z (u.heap.size+1) 4 _ 32 (0,0) zC.out
 simp only[List.getElem?_toArray,List.getElem?_cons_zero,List.getElem?_cons_succ]at c0 c1 c2 c3 c4 b0 b1 b2 b3 b4
 have bf:=fun i=>frozen_of_row Z (u.heap.size+1) i _ 32 zC.out
 go_wp2
 have g1:=heap_setCell_same Z (u.heap.size+1) 0 _ _ (.int .i64 45) zC.out
 have g2:=heap_setCell_same _ (u.heap.size+1) 1 _ _ (.int .i64 0) g1
 have g3:=heap_setCell_same _ (u.heap.size+1) 2 _ _ (.int .i64 0) g2
 have g4:=heap_setCell_same _ (u.heap.size+1) 3 _ _ (.int .i64 0) g3
 have g5:=heap_setCell_same _ (u.heap.size+1) 4 _ _ (.int .i64 ((Pl.cu xs j).at-t)) g4
 refine bodyPost_ret (v:=.tuple #[.agg #[.int .i64 45,.int .i64 0,.int .i64 0,.int .i64 0,.int .i64 ((Pl.cu xs j).at-t)],.bool true]) (results_cell_tmp Tryz.results82 _ _ (u.heap.size+1) 32 _ (0,0) _ _ rfl rfl g5 Tryz.underlying32 rfl (by kernel_rfl)) rfl ⟨?_,?_⟩
 ·rw[HJ.out];rfl
 ·exact ((((Oi.out.setCell (p:=⟨u.heap.size+1,0,none⟩) (by show u.heap.size<=u.heap.size+1;omega) _).setCell (p:=⟨u.heap.size+1,1,none⟩) (by show u.heap.size<=u.heap.size+1;omega) _).setCell (p:=⟨u.heap.size+1,2,none⟩) (by show u.heap.size<=u.heap.size+1;omega) _).setCell (p:=⟨u.heap.size+1,3,none⟩) (by show u.heap.size<=u.heap.size+1;omega) _).setCell (p:=⟨u.heap.size+1,4,none⟩) (by show u.heap.size<=u.heap.size+1;omega) _
theorem Ip (x:Pl.Ln) (t:Int) (j:Nat) (h:sZ lo xs w u ga gm a len cap stack B mb) (hs:x.s.size<=maxLen) (hk:x.k=8) (hl:Pl.lb xs x.s=some j) (hz : -1099511627776<=(Pl.cu xs j).at-t/\(Pl.cu xs j).at-t<=1099511627776):Calls Tryz.prog 82 #[.pointer (some ⟨ga,0,none⟩),.agg #[.int .i64 x.k,.int .i64 x.op,.int .i64 x.rd,.int .i64 x.r1,.int .i64 x.r2,.int .i64 x.im,.string x.s,.int .i64 x.n],.int .i64 t] u fun e u'=>e=.returned (.tuple #[.agg (ZZ (Pl.zD x ((Pl.cu xs j).at-t))),.bool true])/\Below u.heap.size u u':=by
 have HJ:Hid (Pl.zD x ((Pl.cu xs j).at-t)=⟨45,1,0,0,(Pl.cu xs j).at-t⟩):=by show _=_;unfold Pl.zD;simp[hk]
 have k7:(x.k == 7)=false:=by simp[hk]
 have k8:(x.k == 8)=true:=by simp[hk]
 obtain⟨Y,hY⟩:∃ Y,Y=((u.alloc (.cells #[.int .i64 x.k,.int .i64 x.op,.int .i64 x.rd,.int .i64 x.r1,.int .i64 x.r2,.int .i64 x.im,.string x.s,.int .i64 x.n] 51)).alloc (.cells #[.int .i64 0,.int .i64 0,.int .i64 0,.int .i64 0,.int .i64 0] 32)).alloc (.cells #[.int .i64 45,.int .i64 1,.int .i64 0,.int .i64 0,.int .i64 0] 32):=⟨_,rfl⟩
 have UH:Below u.heap.size u Y:=by rw[hY];exact (aB u _).trans (((aB _ _).mono (by simp)).trans ((aB _ _).mono (by simp;omega)))
 have Oh:Y.heap.size=u.heap.size+3:=by rw[hY];simp
 have r4:Y.heap[u.heap.size]?=some (.cells #[.int .i64 x.k,.int .i64 x.op,.int .i64 x.rd,.int .i64 x.r1,.int .i64 x.r2,.int .i64 x.im,.string x.s,.int .i64 x.n] 51 (0,0)):=by rw[hY,Below.heap_alloc _ _ _ (by simp;omega),Below.heap_alloc _ _ _ (by simp)];exact heap_alloc_new u _
 have r6:Y.heap[u.heap.size+1]?=some (.cells #[.int .i64 0,.int .i64 0,.int .i64 0,.int .i64 0,.int .i64 0] 32 (0,0)):=by rw[hY,Below.heap_alloc _ _ _ (by simp)];exact bL (by simp)
 have r8:Y.heap[u.heap.size+2]?=some (.cells #[.int .i64 45,.int .i64 1,.int .i64 0,.int .i64 0,.int .i64 0] 32 (0,0)):=by rw[hY];exact bL (by simp)
 have hA:=h.keep UH
 have HF:Hid (Y.cell? ⟨ga,2,none⟩=some (.map (some gm))/\Y.cell? ⟨mb j,2,none⟩=some (.int .i64 (Pl.cu xs j).at)/\(Instr.lookup 67 (.map (some gm)) (.string x.s) false).run Tryz.prog Y.drew=.ok (.pointer (some ⟨mb j,0,none⟩)) Y.drew):=by
  refine⟨(kH.am hA).cell 2,(hA.mark hl).2.2,?_⟩
  have hk:=kH.look (hA.keep (Below.drew (Below.refl _ _))) hs
  rw[hl]at hk
  exact hk
 have HR:Hid (Y.cell? ⟨u.heap.size,6,none⟩=some (.string x.s)/\Y.cell? ⟨u.heap.size+2,4,none⟩=some (.int .i64 0)/\Y.frozen? ⟨u.heap.size+2,4,none⟩=false):=⟨cell_of_row _ _ 6 _ 51 (0,0) r4,cell_of_row _ _ 4 _ 32 (0,0) r8,frozen_of_row _ _ 4 _ 32 r8⟩
 obtain⟨Z,hZ⟩:∃ Z,Z=Y.drew.setCell ⟨u.heap.size+2,4,none⟩ (.int .i64 ((Pl.cu xs j).at-t)):=⟨_,rfl⟩
 have o8:OnlyC (u.heap.size+2) Y.drew Z:=by rw[hZ];exact OnlyC.set _ _ _ _
 have z8:Z.heap[u.heap.size+2]?=some (.cells #[.int .i64 45,.int .i64 1,.int .i64 0,.int .i64 0,.int .i64 ((Pl.cu xs j).at-t)] 32 (0,0)):=by rw[hZ];exact heap_setCell_same Y.drew _ 4 _ _ _ r8
 have z6:Z.heap[u.heap.size+1]?=some (.cells #[.int .i64 0,.int .i64 0,.int .i64 0,.int .i64 0,.int .i64 0] 32 (0,0)):=(o8.block _ (by show u.heap.size+1<Y.heap.size;omega) (by omega)).trans r6
 have Oi:Hid (Below u.heap.size u Z):=by
  show Below _ _ _
  rw[hZ]
  exact Below.setCell (Below.drew UH) (p:=⟨u.heap.size+2,4,none⟩) (by show u.heap.size<=u.heap.size+2;omega) _
 have HY:Hid _:=hY.symm
 have HZ:Hid _:=hZ.symm
 have zC:Hid _:=z6
 have GZ:Hid _:=z8
 have Cf:Hid _:=hz
 clear h hA r4 r6 r8 UH Oh hl hs hY hZ o8 z6 z8 hz hk
 go_enter Tryz.func82,Tryz.ntmps82
 go_upto_region 9 with fail
 rw[HY.out]
 refine Im ga gm u.heap.size (u.heap.size+2) (mb j) x.s (Pl.cu xs j).at t _ Y HF.out.1 HR.out.1 HF.out.2.1 HR.out.2.1 HR.out.2.2 HF.out.2.2 Cf.out ?_
 rw[HZ.out]
 clear k7
 have c0:=cell_of_row Z (u.heap.size+2) 0 _ 32 (0,0) GZ.out
 have b0:=cell_of_row Z (u.heap.size+1) 0 _ 32 (0,0) zC.out
 have c1:=cell_of_row Z (u.heap.size+2) 1 _ 32 (0,0) GZ.out
 have b1:=cell_of_row Z (u.heap.size+1) 1 _ 32 (0,0) zC.out
 have c2:=cell_of_row Z (u.heap.size+2) 2 _ 32 (0,0) GZ.out
 have b2:=cell_of_row Z (u.heap.size+1) 2 _ 32 (0,0) zC.out
 have c3:=cell_of_row Z (u.heap.size+2) 3 _ 32 (0,0) GZ.out
 have b3:=cell_of_row Z (u.heap.size+1) 3 _ 32 (0,0) zC.out
 have c4:=cell_of_row Z (u.heap.size+2) 4 _ 32 (0,0) GZ.out
 have b4:=cell_of_row Z (u.heap.size+1) 4 _ 32 (0,0) zC.out
 simp only[List.getElem?_toArray,List.getElem?_cons_zero,List.getElem?_cons_succ]at c0 c1 c2 c3 c4 b0 b1 b2 b3 b4
 have bf:=fun i=>frozen_of_row Z (u.heap.size+1) i _ 32 zC.out
 go_wp2
 have g1:=heap_setCell_same Z (u.heap.size+1) 0 _ _ (.int .i64 45) zC.out
 have g2:=heap_setCell_same _ (u.heap.size+1) 1 _ _ (.int .i64 1) g1
 have g3:=heap_setCell_same _ (u.heap.size+1) 2 _ _ (.int .i64 0) g2
 have g4:=heap_setCell_same _ (u.heap.size+1) 3 _ _ (.int .i64 0) g3
 have g5:=heap_setCell_same _ (u.heap.size+1) 4 _ _ (.int .i64 ((Pl.cu xs j).at-t)) g4
 refine bodyPost_ret (v:=.tuple #[.agg #[.int .i64 45,.int .i64 1,.int .i64 0,.int .i64 0,.int .i64 ((Pl.cu xs j).at-t)],.bool true]) (results_cell_tmp Tryz.results82 _ _ (u.heap.size+1) 32 _ (0,0) _ _ rfl rfl g5 Tryz.underlying32 rfl (by kernel_rfl)) rfl ⟨?_,?_⟩
 ·rw[HJ.out];rfl
 ·exact ((((Oi.out.setCell (p:=⟨u.heap.size+1,0,none⟩) (by show u.heap.size<=u.heap.size+1;omega) _).setCell (p:=⟨u.heap.size+1,1,none⟩) (by show u.heap.size<=u.heap.size+1;omega) _).setCell (p:=⟨u.heap.size+1,2,none⟩) (by show u.heap.size<=u.heap.size+1;omega) _).setCell (p:=⟨u.heap.size+1,3,none⟩) (by show u.heap.size<=u.heap.size+1;omega) _).setCell (p:=⟨u.heap.size+1,4,none⟩) (by show u.heap.size<=u.heap.size+1;omega) _
theorem Iq (x:Pl.Ln) (t:Int) (j:Nat) (h:sZ lo xs w u ga gm a len cap stack B mb) (hs:x.s.size<=maxLen) (hk:x.k=3) (hl:Pl.lb xs x.s=some j) (hz : -1099511627776<=(Pl.cu xs j).at-t/\(Pl.cu xs j).at-t<=1099511627776):Calls Tryz.prog 82 #[.pointer (some ⟨ga,0,none⟩),.agg #[.int .i64 x.k,.int .i64 x.op,.int .i64 x.rd,.int .i64 x.r1,.int .i64 x.r2,.int .i64 x.im,.string x.s,.int .i64 x.n],.int .i64 t] u fun e u'=>e=.returned (.tuple #[.agg (ZZ (Pl.zD x ((Pl.cu xs j).at-t))),.bool true])/\Below u.heap.size u u':=by
 have HJ:Hid (Pl.zD x ((Pl.cu xs j).at-t)=⟨x.op,x.rd,x.r1,x.r2,(Pl.cu xs j).at-t⟩):=by show _=_;unfold Pl.zD;simp[hk]
 have k7:(x.k == 7)=false:=by simp[hk]
 have k8:(x.k == 8)=false:=by simp[hk]
 have k3:(x.k == 3)=true:=by simp[hk]
 obtain⟨Y,hY⟩:∃ Y,Y=((u.alloc (.cells #[.int .i64 x.k,.int .i64 x.op,.int .i64 x.rd,.int .i64 x.r1,.int .i64 x.r2,.int .i64 x.im,.string x.s,.int .i64 x.n] 51)).alloc (.cells #[.int .i64 0,.int .i64 0,.int .i64 0,.int .i64 0,.int .i64 0] 32)).alloc (.cells #[.int .i64 x.op,.int .i64 x.rd,.int .i64 x.r1,.int .i64 x.r2,.int .i64 x.im] 32):=⟨_,rfl⟩
 have UH:Below u.heap.size u Y:=by rw[hY];exact (aB u _).trans (((aB _ _).mono (by simp)).trans ((aB _ _).mono (by simp;omega)))
 have Oh:Y.heap.size=u.heap.size+3:=by rw[hY];simp
 have r4:Y.heap[u.heap.size]?=some (.cells #[.int .i64 x.k,.int .i64 x.op,.int .i64 x.rd,.int .i64 x.r1,.int .i64 x.r2,.int .i64 x.im,.string x.s,.int .i64 x.n] 51 (0,0)):=by rw[hY,Below.heap_alloc _ _ _ (by simp;omega),Below.heap_alloc _ _ _ (by simp)];exact heap_alloc_new u _
 have r6:Y.heap[u.heap.size+1]?=some (.cells #[.int .i64 0,.int .i64 0,.int .i64 0,.int .i64 0,.int .i64 0] 32 (0,0)):=by rw[hY,Below.heap_alloc _ _ _ (by simp)];exact bL (by simp)
 have r8:Y.heap[u.heap.size+2]?=some (.cells #[.int .i64 x.op,.int .i64 x.rd,.int .i64 x.r1,.int .i64 x.r2,.int .i64 x.im] 32 (0,0)):=by rw[hY];exact bL (by simp)
 have hA:=h.keep UH
 have HF:Hid (Y.cell? ⟨ga,2,none⟩=some (.map (some gm))/\Y.cell? ⟨mb j,2,none⟩=some (.int .i64 (Pl.cu xs j).at)/\(Instr.lookup 67 (.map (some gm)) (.string x.s) false).run Tryz.prog Y.drew=.ok (.pointer (some ⟨mb j,0,none⟩)) Y.drew):=by
  refine⟨(kH.am hA).cell 2,(hA.mark hl).2.2,?_⟩
  have hk:=kH.look (hA.keep (Below.drew (Below.refl _ _))) hs
  rw[hl]at hk
  exact hk
 have HR:Hid (Y.cell? ⟨u.heap.size,6,none⟩=some (.string x.s)/\Y.cell? ⟨u.heap.size+2,4,none⟩=some (.int .i64 x.im)/\Y.frozen? ⟨u.heap.size+2,4,none⟩=false):=⟨cell_of_row _ _ 6 _ 51 (0,0) r4,cell_of_row _ _ 4 _ 32 (0,0) r8,frozen_of_row _ _ 4 _ 32 r8⟩
 obtain⟨Z,hZ⟩:∃ Z,Z=Y.drew.setCell ⟨u.heap.size+2,4,none⟩ (.int .i64 ((Pl.cu xs j).at-t)):=⟨_,rfl⟩
 have o8:OnlyC (u.heap.size+2) Y.drew Z:=by rw[hZ];exact OnlyC.set _ _ _ _
 have z8:Z.heap[u.heap.size+2]?=some (.cells #[.int .i64 x.op,.int .i64 x.rd,.int .i64 x.r1,.int .i64 x.r2,.int .i64 ((Pl.cu xs j).at-t)] 32 (0,0)):=by rw[hZ];exact heap_setCell_same Y.drew _ 4 _ _ _ r8
 have z6:Z.heap[u.heap.size+1]?=some (.cells #[.int .i64 0,.int .i64 0,.int .i64 0,.int .i64 0,.int .i64 0] 32 (0,0)):=(o8.block _ (by show u.heap.size+1<Y.heap.size;omega) (by omega)).trans r6
 have Oi:Hid (Below u.heap.size u Z):=by
  show Below _ _ _
  rw[hZ]
  exact Below.setCell (Below.drew UH) (p:=⟨u.heap.size+2,4,none⟩) (by show u.heap.size<=u.heap.size+2;omega) _
 have HY:Hid _:=hY.symm
 have HZ:Hid _:=hZ.symm
 have zC:Hid _:=z6
 have GZ:Hid _:=z8
 have Cf:Hid _:=hz
 clear h hA r4 r6 r8 UH Oh hl hs hY hZ o8 z6 z8 hz hk
 go_enter Tryz.func82,Tryz.ntmps82
 go_upto_region 9 with fail
 rw[HY.out]
 refine Im ga gm u.heap.size (u.heap.size+2) (mb j) x.s (Pl.cu xs j).at t _ Y HF.out.1 HR.out.1 HF.out.2.1 HR.out.2.1 HR.out.2.2 HF.out.2.2 Cf.out ?_
 rw[HZ.out]
 clear k7
 have c0:=cell_of_row Z (u.heap.size+2) 0 _ 32 (0,0) GZ.out
 have b0:=cell_of_row Z (u.heap.size+1) 0 _ 32 (0,0) zC.out
 have c1:=cell_of_row Z (u.heap.size+2) 1 _ 32 (0,0) GZ.out
 have b1:=cell_of_row Z (u.heap.size+1) 1 _ 32 (0,0) zC.out
 have c2:=cell_of_row Z (u.heap.size+2) 2 _ 32 (0,0) GZ.out
 have b2:=cell_of_row Z (u.heap.size+1) 2 _ 32 (0,0) zC.out
 have c3:=cell_of_row Z (u.heap.size+2) 3 _ 32 (0,0) GZ.out
 have b3:=cell_of_row Z (u.heap.size+1) 3 _ 32 (0,0) zC.out
 have c4:=cell_of_row Z (u.heap.size+2) 4 _ 32 (0,0) GZ.out
 have b4:=cell_of_row Z (u.heap.size+1) 4 _ 32 (0,0) zC.out
 simp only[List.getElem?_toArray,List.getElem?_cons_zero,List.getElem?_cons_succ]at c0 c1 c2 c3 c4 b0 b1 b2 b3 b4
 have bf:=fun i=>frozen_of_row Z (u.heap.size+1) i _ 32 zC.out
 go_wp2
 have g1:=heap_setCell_same Z (u.heap.size+1) 0 _ _ (.int .i64 x.op) zC.out
 have g2:=heap_setCell_same _ (u.heap.size+1) 1 _ _ (.int .i64 x.rd) g1
 have g3:=heap_setCell_same _ (u.heap.size+1) 2 _ _ (.int .i64 x.r1) g2
 have g4:=heap_setCell_same _ (u.heap.size+1) 3 _ _ (.int .i64 x.r2) g3
 have g5:=heap_setCell_same _ (u.heap.size+1) 4 _ _ (.int .i64 ((Pl.cu xs j).at-t)) g4
 refine bodyPost_ret (v:=.tuple #[.agg #[.int .i64 x.op,.int .i64 x.rd,.int .i64 x.r1,.int .i64 x.r2,.int .i64 ((Pl.cu xs j).at-t)],.bool true]) (results_cell_tmp Tryz.results82 _ _ (u.heap.size+1) 32 _ (0,0) _ _ rfl rfl g5 Tryz.underlying32 rfl (by kernel_rfl)) rfl ⟨?_,?_⟩
 ·rw[HJ.out];rfl
 ·exact ((((Oi.out.setCell (p:=⟨u.heap.size+1,0,none⟩) (by show u.heap.size<=u.heap.size+1;omega) _).setCell (p:=⟨u.heap.size+1,1,none⟩) (by show u.heap.size<=u.heap.size+1;omega) _).setCell (p:=⟨u.heap.size+1,2,none⟩) (by show u.heap.size<=u.heap.size+1;omega) _).setCell (p:=⟨u.heap.size+1,3,none⟩) (by show u.heap.size<=u.heap.size+1;omega) _).setCell (p:=⟨u.heap.size+1,4,none⟩) (by show u.heap.size<=u.heap.size+1;omega) _
theorem rR (x:Pl.Ln) (t:Int) (hj:Pl.jT x.k=false) (ga:Nat) (u:World):Calls Tryz.prog 82 #[.pointer (some ⟨ga,0,none⟩),.agg #[.int .i64 x.k,.int .i64 x.op,.int .i64 x.rd,.int .i64 x.r1,.int .i64 x.r2,.int .i64 x.im,.string x.s,.int .i64 x.n],.int .i64 t] u fun e u'=>e=.returned (.tuple #[.agg #[.int .i64 0,.int .i64 0,.int .i64 0,.int .i64 0,.int .i64 0],.bool false])/\Below u.heap.size u u':=by
 unfold Pl.jT at hj
 have hj':=of_decide_eq_false hj
 have k7:(x.k == 7)=false:=by simp;omega
 have k8:(x.k == 8)=false:=by simp;omega
 have k3:(x.k == 3)=false:=by simp;omega
 clear hj hj'
 go_enter Tryz.func82,Tryz.ntmps82
 go_wp2
 have g:(((u.alloc (.cells #[.int .i64 x.k,.int .i64 x.op,.int .i64 x.rd,.int .i64 x.r1,.int .i64 x.r2,.int .i64 x.im,.string x.s,.int .i64 x.n] 51)).alloc (.cells #[.int .i64 0,.int .i64 0,.int .i64 0,.int .i64 0,.int .i64 0] 32)).alloc (.cells #[.int .i64 x.op,.int .i64 x.rd,.int .i64 x.r1,.int .i64 x.r2,.int .i64 x.im] 32)).heap[u.heap.size+1]?=some (.cells #[.int .i64 0,.int .i64 0,.int .i64 0,.int .i64 0,.int .i64 0] 32 (0,0)):=(Below.heap_alloc _ _ _ (by simp)).trans (bL (by simp))
 refine bodyPost_ret (v:=.tuple #[.agg #[.int .i64 0,.int .i64 0,.int .i64 0,.int .i64 0,.int .i64 0],.bool false]) (results_cell_tmp Tryz.results82 _ _ (u.heap.size+1) 32 _ (0,0) _ _ rfl rfl g Tryz.underlying32 rfl (by kernel_rfl)) rfl ⟨rfl,?_⟩
 exact (aB u _).trans (((aB _ _).mono (by simp)).trans ((aB _ _).mono (by simp;omega)))
noncomputable def Rh (n:Nat):Code:=((Tryz.f81.body.bind (lG n)).getD .skip)
def PU (Y:World) (y:Pl.Ins) (h5:Nat) (L:Array Bool) (u:World):Prop:=
 Below Y.heap.size Y u/\(up L 7=true->Y.heap.size<=h5/\u.heap[h5]?=some (.cells (if up L 8 then #[.int .i64 y.op,.int .i64 y.rd,.int .i64 y.r1,.int .i64 y.r2,.int .i64 y.im] else #[.int .i64 0,.int .i64 0,.int .i64 0,.int .i64 0,.int .i64 0]) 32 (0,0)))
theorem PU.init {Y:World} {y:Pl.Ins} {n:Nat}:PU Y y 0 (Array.replicate n false) Y:=⟨Below.refl _ _,fun q=>absurd (q.symm.trans (bR _ _)) (by decide)⟩
theorem PU.keep {Y u u':World} {y:Pl.Ins} {h5:Nat} {L:Array Bool} (h:PU Y y h5 L u) {k:Nat} (hk:k<L.size) (n7:k≠7) (n8:k≠8) (hb:Below u.heap.size u u'):PU Y y h5 (L.setIfInBounds k true) u':=by
 refine⟨h.1.trans (hb.mono h.1.size),fun q=>?_⟩
 rw[dY hk,if_neg n7]at q
 obtain⟨q1,q2⟩:=h.2 q
 refine⟨q1,?_⟩
 rw[dY hk,if_neg n8]
 exact (hb.block _ (Array.getElem?_eq_some_iff.1 q2).1).trans q2
theorem PU.new {Y u:World} {y:Pl.Ins} {h5:Nat} {L:Array Bool} (h:PU Y y h5 L u) (hk:7<L.size) (n8:up L 8=false):PU Y y u.heap.size (L.setIfInBounds 7 true) (u.alloc (.cells #[.int .i64 0,.int .i64 0,.int .i64 0,.int .i64 0,.int .i64 0] 32)):=by
 refine⟨h.1.trans ((aB u _).mono h.1.size),fun _=>⟨h.1.size,?_⟩⟩
 rw[show up (L.setIfInBounds 7 true) 8=false from ((dY hk 8).trans (if_neg (by decide))).trans n8]
 simp only[Bool.false_eq_true,if_false]
 exact heap_alloc_new u _
theorem PU.put {Y u:World} {y:Pl.Ins} {h5:Nat} {L:Array Bool} (h:PU Y y h5 L u) (hk:8<L.size) (q7:up L 7=true):PU Y y h5 (L.setIfInBounds 8 true) (((((u.setCell ⟨h5,0,none⟩ (.int .i64 y.op)).setCell ⟨h5,1,none⟩ (.int .i64 y.rd)).setCell ⟨h5,2,none⟩ (.int .i64 y.r1)).setCell ⟨h5,3,none⟩ (.int .i64 y.r2)).setCell ⟨h5,4,none⟩ (.int .i64 y.im)):=by
 obtain⟨q1,q2⟩:=h.2 q7
 refine⟨((((h.1.setCell (p:=⟨h5,0,none⟩) q1 _).setCell (p:=⟨h5,1,none⟩) q1 _).setCell (p:=⟨h5,2,none⟩) q1 _).setCell (p:=⟨h5,3,none⟩) q1 _).setCell (p:=⟨h5,4,none⟩) q1 _,fun _=>⟨q1,?_⟩⟩
 rw[dY hk,if_pos rfl,if_pos rfl]
 have e:∀ c:Array Value,c.size=5->u.heap[h5]?=some (.cells c 32 (0,0))->(((((u.setCell ⟨h5,0,none⟩ (.int .i64 y.op)).setCell ⟨h5,1,none⟩ (.int .i64 y.rd)).setCell ⟨h5,2,none⟩ (.int .i64 y.r1)).setCell ⟨h5,3,none⟩ (.int .i64 y.r2)).setCell ⟨h5,4,none⟩ (.int .i64 y.im)).heap[h5]?=some (.cells #[.int .i64 y.op,.int .i64 y.rd,.int .i64 y.r1,.int .i64 y.r2,.int .i64 y.im] 32 (0,0)):=fun c hc q=>by
  have g1:=heap_setCell_same u h5 0 _ _ (.int .i64 y.op) q
  have g2:=heap_setCell_same _ h5 1 _ _ (.int .i64 y.rd) g1
  have g3:=heap_setCell_same _ h5 2 _ _ (.int .i64 y.r1) g2
  have g4:=heap_setCell_same _ h5 3 _ _ (.int .i64 y.r2) g3
  have g5:=heap_setCell_same _ h5 4 _ _ (.int .i64 y.im) g4
  rw[g5]
  obtain⟨c⟩:=c
  rcases c with _ | ⟨a1,_ | ⟨a2,_ | ⟨a3,_ | ⟨a4,_ | ⟨a5,_ | ⟨a6,t⟩⟩⟩⟩⟩⟩ <;> simp at hc
  rfl
 refine e _ ?_ q2
 split <;> rfl
def kQ (ga gb gc h3:Nat) (x:Pl.Ln) (y:Pl.Ins) (t:Int) (bj:Bool)  (c0 c4 c14 c15 c16 c17 c18 c19 c20 c21 dW c23 c24 dP eP fO c28 eQ eT c31 c32 eU d5 d6 d7 d8 d9 vK tZ tT vM:Value) (h5:Nat) (L:Array Bool):Act:={ tmps:=#[c0,.pointer (some ⟨gb,0,none⟩),.pointer (some ⟨gc,0,none⟩),.pointer (some ⟨h3,0,none⟩),c4,aR d5 L 7 (.pointer (some ⟨h5,0,none⟩)),aR d6 L 9 (.bool bj),aR d7 L 4 (.tuple #[.agg #[.int .i64 y.op,.int .i64 y.rd,.int .i64 y.r1,.int .i64 y.r2,.int .i64 y.im],.bool bj]),aR d8 L 0 (.pointer (some ⟨ga,0,none⟩)),aR d9 L 1 (.agg #[.int .i64 x.k,.int .i64 x.op,.int .i64 x.rd,.int .i64 x.r1,.int .i64 x.r2,.int .i64 x.im,.string x.s,.int .i64 x.n]),aR vK L 2 (.int .i64 t),aR tZ L 3 (.tuple #[.agg #[.int .i64 y.op,.int .i64 y.rd,.int .i64 y.r1,.int .i64 y.r2,.int .i64 y.im],.bool bj]),aR tT L 5 (.agg #[.int .i64 y.op,.int .i64 y.rd,.int .i64 y.r1,.int .i64 y.r2,.int .i64 y.im]),aR vM L 6 (.bool bj),c14,c15,c16,c17,c18,c19,c20,c21,dW,c23,c24,dP,eP,fO,c28,eQ,eT,c31,c32,eU],defers:=[] }
set_option maxRecDepth 100000 in
theorem Yk (ga gb gc h3:Nat) (x:Pl.Ln) (y:Pl.Ins) (t:Int) (bj:Bool) {c0 c4 c14 c15 c16 c17 c18 c19 c20 c21 dW c23 c24 dP eP fO c28 eQ eT c31 c32 eU d5 d6 d7 d8 d9 vK tZ tT vM:Value} (Y:World) (m1:Y.cell? ⟨gb,0,none⟩=some (.pointer (some ⟨ga,0,none⟩))) (r3:Y.heap[h3]?=some (.cells #[.int .i64 x.k,.int .i64 x.op,.int .i64 x.rd,.int .i64 x.r1,.int .i64 x.r2,.int .i64 x.im,.string x.s,.int .i64 x.n] 51 (0,0))) (Oj:∀ u:World,Below Y.drew.heap.size Y.drew u->Calls Tryz.prog 83 #[.pointer (some ⟨gc,0,none⟩)] u fun e w'=>e=.returned (.int .i64 t)/\w'=u) (Ol:∀ u:World,Below Y.drew.heap.size Y.drew u->Calls Tryz.prog 82 #[.pointer (some ⟨ga,0,none⟩),.agg #[.int .i64 x.k,.int .i64 x.op,.int .i64 x.rd,.int .i64 x.r1,.int .i64 x.r2,.int .i64 x.im,.string x.s,.int .i64 x.n],.int .i64 t] u fun e w'=>e=.returned (.tuple #[.agg #[.int .i64 y.op,.int .i64 y.rd,.int .i64 y.r1,.int .i64 y.r2,.int .i64 y.im],.bool bj])/\Below u.heap.size u w') {Q:Exit->Act->World->Prop}
  (hK:∀ (h5:Nat) (w1:World),Below Y.heap.size Y w1->Y.heap.size<=h5->w1.heap[h5]?=some (.cells #[.int .i64 y.op,.int .i64 y.rd,.int .i64 y.r1,.int .i64 y.r2,.int .i64 y.im] 32 (0,0))->Q .normal { tmps:=#[c0,.pointer (some ⟨gb,0,none⟩),.pointer (some ⟨gc,0,none⟩),.pointer (some ⟨h3,0,none⟩),c4,.pointer (some ⟨h5,0,none⟩),.bool bj,.tuple #[.agg #[.int .i64 y.op,.int .i64 y.rd,.int .i64 y.r1,.int .i64 y.r2,.int .i64 y.im],.bool bj],.pointer (some ⟨ga,0,none⟩),.agg #[.int .i64 x.k,.int .i64 x.op,.int .i64 x.rd,.int .i64 x.r1,.int .i64 x.r2,.int .i64 x.im,.string x.s,.int .i64 x.n],.int .i64 t,.tuple #[.agg #[.int .i64 y.op,.int .i64 y.rd,.int .i64 y.r1,.int .i64 y.r2,.int .i64 y.im],.bool bj],.agg #[.int .i64 y.op,.int .i64 y.rd,.int .i64 y.r1,.int .i64 y.r2,.int .i64 y.im],.bool bj,c14,c15,c16,c17,c18,c19,c20,c21,dW,c23,c24,dP,eP,fO,c28,eQ,eT,c31,c32,eU],defers:=[] } w1) :
  (Rh 1).wp Tryz.prog Q { tmps:=#[c0,.pointer (some ⟨gb,0,none⟩),.pointer (some ⟨gc,0,none⟩),.pointer (some ⟨h3,0,none⟩),c4,d5,d6,d7,d8,d9,vK,tZ,tT,vM,c14,c15,c16,c17,c18,c19,c20,c21,dW,c23,c24,dP,eP,fO,c28,eQ,eT,c31,c32,eU],defers:=[] } Y:=by
 have nI:Hid _:=hK
 clear hK
 have HAD:Hid _:=Oj
 have BA:Hid _:=Ol
 have e1:Y.drew.cell? ⟨gb,0,none⟩=some (.pointer (some ⟨ga,0,none⟩)):=m1
 have l0:Y.drew.cell? ⟨h3,0,none⟩=some (.int .i64 x.k):=cell_of_row Y.drew h3 0 _ 51 (0,0) r3
 have l1:Y.drew.cell? ⟨h3,1,none⟩=some (.int .i64 x.op):=cell_of_row Y.drew h3 1 _ 51 (0,0) r3
 have l2:Y.drew.cell? ⟨h3,2,none⟩=some (.int .i64 x.rd):=cell_of_row Y.drew h3 2 _ 51 (0,0) r3
 have l3:Y.drew.cell? ⟨h3,3,none⟩=some (.int .i64 x.r1):=cell_of_row Y.drew h3 3 _ 51 (0,0) r3
 have l4:Y.drew.cell? ⟨h3,4,none⟩=some (.int .i64 x.r2):=cell_of_row Y.drew h3 4 _ 51 (0,0) r3
 have l5:Y.drew.cell? ⟨h3,5,none⟩=some (.int .i64 x.im):=cell_of_row Y.drew h3 5 _ 51 (0,0) r3
 have l6:Y.drew.cell? ⟨h3,6,none⟩=some (.string x.s):=cell_of_row Y.drew h3 6 _ 51 (0,0) r3
 have l7:Y.drew.cell? ⟨h3,7,none⟩=some (.int .i64 x.n):=cell_of_row Y.drew h3 7 _ 51 (0,0) r3
 clear Oj Ol m1 r3
 conv=>arg 2;whnf
 refine wp_region_any (by kernel_rfl) ?_
 change wpAny _ _ _ _ _ _ _ (World.drew _)
 refine PQ (fun L jD u=>∃ h5,jD=kQ ga gb gc h3 x y t bj  c0 c4 c14 c15 c16 c17 c18 c19 c20 c21 dW c23 c24 dP eP fO c28 eQ eT c31 c32 eU d5 d6 d7 d8 d9 vK tZ tT vM h5 L/\PU Y.drew y h5 L u) ?done (by kernel_rfl) ?step _ 10 _ _ (by kernel_rfl) ?init (by decide)
 case init=>exact⟨0,by simp only[kQ,dG (bR _ _)],PU.init⟩
 case step=>
  intro L act w i o hI hlt hs nl hC hd ho K hK
  obtain⟨h5,rfl,hW⟩:=hI
  have jB:i<10:=(Array.getElem?_eq_some_iff.1 ho).1
  have hD:=fun k m=>hd {on:=k,ground:=.data} m rfl
  rcases (show i=0\/i=1\/i=2\/i=3\/i=4\/i=5\/i=6\/i=7\/i=8\/i=9 by omega) with rfl|rfl|rfl|rfl|rfl|rfl|rfl|rfl|rfl|rfl<;>(change some _=some o at ho;cases ho)
  ·have k1:=aF hW.1 e1
   simp only[kQ]
   go_simp
   exact hK _ _ ⟨h5,by simp only[kQ,aD hlt,reduceIte,Nat.reduceEqDiff];try rfl,(hW.keep hlt (by decide) (by decide) (Below.refl _ _))⟩
  ·have k0:=aF hW.1 l0
   have k1:=aF hW.1 l1
   have k2:=aF hW.1 l2
   have k3:=aF hW.1 l3
   have k4:=aF hW.1 l4
   have k5:=aF hW.1 l5
   have k6:=aF hW.1 l6
   have k7:=aF hW.1 l7
   simp only[kQ]
   go_simp
   exact hK _ _ ⟨h5,by simp only[kQ,aD hlt,reduceIte,Nat.reduceEqDiff];try rfl,(hW.keep hlt (by decide) (by decide) (Below.refl _ _))⟩
  ·simp only[kQ]
   go_simp
   refine (HAD.out _ hW.1).mono ?_
   rintro e w3 ⟨rfl,rfl⟩
   go_simp
   exact hK _ _ ⟨h5,by simp only[kQ,aD hlt,reduceIte,Nat.reduceEqDiff];try rfl,(hW.keep hlt (by decide) (by decide) (Below.refl _ _))⟩
  ·have q0:up L 0=true:=hD 0 (by simp)
   have q1:up L 1=true:=hD 1 (by simp)
   have q2:up L 2=true:=hD 2 (by simp)
   simp only[kQ,aA q0,aA q1,aA q2]
   go_simp
   refine (BA.out _ hW.1).mono ?_
   rintro e w3 ⟨rfl,hb3⟩
   go_simp
   exact hK _ _ ⟨h5,by simp only[kQ,aD hlt,aA q0,aA q1,aA q2,reduceIte,Nat.reduceEqDiff];try rfl,(hW.keep hlt (by decide) (by decide) hb3)⟩
  ·have q3:up L 3=true:=hD 3 (by simp)
   simp only[kQ,aA q3]
   go_simp
   exact hK _ _ ⟨h5,by simp only[kQ,aD hlt,aA q3,reduceIte,Nat.reduceEqDiff];try rfl,(hW.keep hlt (by decide) (by decide) (Below.refl _ _))⟩
  ·have q4:up L 4=true:=hD 4 (by simp)
   simp only[kQ,aA q4]
   go_simp
   exact hK _ _ ⟨h5,by simp only[kQ,aD hlt,aA q4,reduceIte,Nat.reduceEqDiff];try rfl,(hW.keep hlt (by decide) (by decide) (Below.refl _ _))⟩
  ·have q4:up L 4=true:=hD 4 (by simp)
   simp only[kQ,aA q4]
   go_simp
   exact hK _ _ ⟨h5,by simp only[kQ,aD hlt,aA q4,reduceIte,Nat.reduceEqDiff];try rfl,(hW.keep hlt (by decide) (by decide) (Below.refl _ _))⟩
  ·have n8:up L 8=false:=hC.no nl 8 rfl (by kernel_rfl)
   simp only[kQ]
   go_simp
   exact hK _ _ ⟨w.heap.size,by simp only[kQ,aD hlt,dG n8,reduceIte,Nat.reduceEqDiff];try rfl,hW.new hlt n8⟩
  ·have q5:up L 5=true:=hD 5 (by simp)
   have q7:up L 7=true:=hD 7 (by simp)
   obtain⟨q71,Cg⟩:=hW.2 q7
   rw[nl]at Cg
   have b0:=cell_of_row w h5 0 _ 32 (0,0) Cg
   have b1:=cell_of_row w h5 1 _ 32 (0,0) Cg
   have b2:=cell_of_row w h5 2 _ 32 (0,0) Cg
   have b3:=cell_of_row w h5 3 _ 32 (0,0) Cg
   have b4:=cell_of_row w h5 4 _ 32 (0,0) Cg
   have bf:=fun i=>frozen_of_row w h5 i _ 32 Cg
   simp only[Bool.false_eq_true,if_false,List.getElem?_toArray,List.getElem?_cons_zero,List.getElem?_cons_succ]at b0 b1 b2 b3 b4
   clear Cg q71
   simp only[kQ,aA q5,aA q7]
   go_simp
   exact hK _ _ ⟨h5,by simp only[kQ,aD hlt,aA q5,aA q7,reduceIte,Nat.reduceEqDiff];try rfl,hW.put hlt q7⟩
  ·have q6:up L 6=true:=hD 6 (by simp)
   simp only[kQ,aA q6]
   go_simp
   exact hK _ _ ⟨h5,by simp only[kQ,aD hlt,aA q6,reduceIte,Nat.reduceEqDiff];try rfl,(hW.keep hlt (by decide) (by decide) (Below.refl _ _))⟩
 case done=>
  rintro L a u ⟨h5,rfl,hW⟩ hall
  simp only[kQ,aA (hall 0 (by decide)),aA (hall 1 (by decide)),aA (hall 2 (by decide)),aA (hall 3 (by decide)),aA (hall 4 (by decide)),aA (hall 5 (by decide)),aA (hall 6 (by decide)),aA (hall 7 (by decide)),aA (hall 8 (by decide)),aA (hall 9 (by decide))]
  obtain⟨q1,q2⟩:=hW.2 (hall 7 (by decide))
  rw[hall 8 (by decide)]at q2
  exact nI.out h5 u (Below.trans (Below.drew (Below.refl _ _)) hW.1) q1 q2
def cB (ga gb gm h3 h5 q:Nat) (s:ByteArray) (y:Pl.Ins) (ok:Bool)  (c0 c2 c7 c8 c9 c10 c11 c12 c13 c14 c15 d4 qJ qK qL qM qN qO oO oP rP rQ qP oN qF qG qH vF vG vH:Value)  (L:Array Bool):Act:={ tmps:=#[c0,.pointer (some ⟨gb,0,none⟩),c2,.pointer (some ⟨h3,0,none⟩),aR d4 L 18 (.bool false),.pointer (some ⟨h5,0,none⟩),.bool false,c7,c8,c9,c10,c11,c12,c13,c14,c15,aR qJ L 0 (.bool false),aR qK L 1 (.bool false),aR qL L 2 (undef),aR qM L 3 (undef),aR qN L 4 (undef),aR qO L 5 (undef),aR oO L 6 (undef),aR oP L 7 (undef),aR rP L 8 (undef),aR rQ L 9 (undef),aR qP L 10 (undef),aR oN L 11 (undef),aR qF L 12 (undef),aR qG L 13 (undef),aR qH L 14 (undef),aR vF L 15 (undef),aR vG L 16 (undef),aR vH L 17 (.bool false)],defers:=[] }
set_option maxRecDepth 100000 in
theorem Yl (ga gb gm h3 h5 q:Nat) (s:ByteArray) (y:Pl.Ins) (ok:Bool) {c0 c2 c7 c8 c9 c10 c11 c12 c13 c14 c15 d4 qJ qK qL qM qN qO oO oP rP rQ qP oN qF qG qH vF vG vH:Value} (Y:World)  {Q:Exit->Act->World->Prop}
  (hK:∀ w1,Below Y.heap.size Y w1->Q .normal { tmps:=#[c0,.pointer (some ⟨gb,0,none⟩),c2,.pointer (some ⟨h3,0,none⟩),.bool false,.pointer (some ⟨h5,0,none⟩),.bool false,c7,c8,c9,c10,c11,c12,c13,c14,c15,.bool false,.bool false,undef,undef,undef,undef,undef,undef,undef,undef,undef,undef,undef,undef,undef,undef,undef,.bool false],defers:=[] } w1) :
  (Rh 3).wp Tryz.prog Q { tmps:=#[c0,.pointer (some ⟨gb,0,none⟩),c2,.pointer (some ⟨h3,0,none⟩),d4,.pointer (some ⟨h5,0,none⟩),.bool false,c7,c8,c9,c10,c11,c12,c13,c14,c15,qJ,qK,qL,qM,qN,qO,oO,oP,rP,rQ,qP,oN,qF,qG,qH,vF,vG,vH],defers:=[] } Y:=by
 have nI:Hid _:=hK
 clear hK
 have UG:yielded.match_1 (motive:=fun _=>Option Bool) (some undef) (fun b=>some b) (fun _=>none)=none:=rfl
 conv=>arg 2;whnf
 refine wp_region_any (by kernel_rfl) ?_
 change wpAny _ _ _ _ _ _ _ (World.drew _)
 refine bQ (fun L jD u=>jD=cB ga gb gm h3 h5 q s y ok  c0 c2 c7 c8 c9 c10 c11 c12 c13 c14 c15 d4 qJ qK qL qM qN qO oO oP rP rQ qP oN qF qG qH vF vG vH  L/\Below Y.drew.heap.size Y.drew u) ?done (by kernel_rfl) ?step _ 19 _ _ (by kernel_rfl) ?init (by decide)
 case init=>exact⟨by simp only[cB,dG (bR _ _)],Below.refl _ _⟩
 case step=>
  intro L act w i o hI hlt hs nl hC hd ho K hK
  obtain⟨rfl,hW⟩:=hI
  have jB:i<19:=(Array.getElem?_eq_some_iff.1 ho).1
  have hD:=fun k m=>hd {on:=k,ground:=.data} m rfl
  have hG:=fun k m=>hd {on:=k,ground:=.guard} m rfl
  rcases (show i=0\/i=1\/i=2\/i=3\/i=4\/i=5\/i=6\/i=7\/i=8\/i=9\/i=10\/i=11\/i=12\/i=13\/i=14\/i=15\/i=16\/i=17\/i=18 by omega) with rfl|rfl|rfl|rfl|rfl|rfl|rfl|rfl|rfl|rfl|rfl|rfl|rfl|rfl|rfl|rfl|rfl|rfl|rfl<;>(change some _=some o at ho;cases ho)
  ·simp only[cB]
   go_simp
   exact hK _ _ ⟨by simp only[cB,aD hlt,reduceIte,Nat.reduceEqDiff];try rfl,hW⟩
  ·have q0:up L 0=true:=hD 0 (by simp)
   simp only[cB,aA q0]
   go_simp
   exact hK _ _ ⟨by simp only[cB,aD hlt,aA q0,reduceIte,Nat.reduceEqDiff];try rfl,hW⟩
  ·have q1:up L 1=true:=(hG 1 (by simp))
   simp only[cB,aA q1]
   go_simp
   exact hK _ _ ⟨by simp only[cB,aD hlt,aA q1,reduceIte,Nat.reduceEqDiff];try rfl,hW⟩
  ·have q1:up L 1=true:=(hG 1 (by simp))
   have q2:up L 2=true:=hD 2 (by simp)
   simp only[cB,aA q1,aA q2]
   go_simp
   exact hK _ _ ⟨by simp only[cB,aD hlt,aA q1,aA q2,reduceIte,Nat.reduceEqDiff];try rfl,hW⟩
  ·have q1:up L 1=true:=(hG 1 (by simp))
   have q3:up L 3=true:=hD 3 (by simp)
   simp only[cB,aA q1,aA q3]
   go_simp
   exact hK _ _ ⟨by simp only[cB,aD hlt,aA q1,aA q3,reduceIte,Nat.reduceEqDiff];try rfl,hW⟩
  ·have q1:up L 1=true:=(hG 1 (by simp))
   have q4:up L 4=true:=hD 4 (by simp)
   simp only[cB,aA q1,aA q4]
   go_simp
   exact hK _ _ ⟨by simp only[cB,aD hlt,aA q1,aA q4,reduceIte,Nat.reduceEqDiff];try rfl,hW⟩
  ·have q1:up L 1=true:=(hG 1 (by simp))
   simp only[cB,aA q1]
   go_simp
   exact hK _ _ ⟨by simp only[cB,aD hlt,aA q1,reduceIte,Nat.reduceEqDiff];try rfl,hW⟩
  ·have q1:up L 1=true:=(hG 1 (by simp))
   have q6:up L 6=true:=hD 6 (by simp)
   simp only[cB,aA q1,aA q6]
   go_simp
   exact hK _ _ ⟨by simp only[cB,aD hlt,aA q1,aA q6,reduceIte,Nat.reduceEqDiff];try rfl,hW⟩
  ·have q1:up L 1=true:=(hG 1 (by simp))
   have q5:up L 5=true:=hD 5 (by simp)
   have q7:up L 7=true:=hD 7 (by simp)
   simp only[cB,aA q1,aA q5,aA q7]
   go_simp
   exact hK _ _ ⟨by simp only[cB,aD hlt,aA q1,aA q5,aA q7,reduceIte,Nat.reduceEqDiff];try rfl,hW⟩
  ·have q1:up L 1=true:=(hG 1 (by simp))
   have q8:up L 8=true:=hD 8 (by simp)
   simp only[cB,aA q1,aA q8]
   go_simp
   exact hK _ _ ⟨by simp only[cB,aD hlt,aA q1,aA q8,reduceIte,Nat.reduceEqDiff];try rfl,hW⟩
  ·have q1:up L 1=true:=(hG 1 (by simp))
   have q9:up L 9=true:=hD 9 (by simp)
   simp only[cB,aA q1,aA q9]
   go_simp
   exact hK _ _ ⟨by simp only[cB,aD hlt,aA q1,aA q9,reduceIte,Nat.reduceEqDiff];try rfl,hW⟩
  ·have q1:up L 1=true:=(hG 1 (by simp))
   have rZ:up L 10=true:=hD 10 (by simp)
   simp only[cB,aA q1,aA rZ]
   go_simp
   exact hK _ _ ⟨by simp only[cB,aD hlt,aA q1,aA rZ,reduceIte,Nat.reduceEqDiff];try rfl,hW⟩
  ·have q1:up L 1=true:=(hG 1 (by simp))
   have sH:up L 11=true:=hD 11 (by simp)
   simp only[cB,aA q1,aA sH]
   go_simp
   exact hK _ _ ⟨by simp only[cB,aD hlt,aA q1,aA sH,reduceIte,Nat.reduceEqDiff];try rfl,hW⟩
  ·have lV:up L 12=true:=(hG 12 (by simp))
   simp only[cB,aA lV]
   go_simp
   exact hK _ _ ⟨by simp only[cB,aD hlt,aA lV,reduceIte,Nat.reduceEqDiff];try rfl,hW⟩
  ·have lV:up L 12=true:=(hG 12 (by simp))
   have wR:up L 13=true:=hD 13 (by simp)
   simp only[cB,aA lV,aA wR]
   go_simp
   exact hK _ _ ⟨by simp only[cB,aD hlt,aA lV,aA wR,reduceIte,Nat.reduceEqDiff];try rfl,hW⟩
  ·have lV:up L 12=true:=(hG 12 (by simp))
   have DF:up L 14=true:=hD 14 (by simp)
   simp only[cB,aA lV,aA DF]
   go_simp
   exact hK _ _ ⟨by simp only[cB,aD hlt,aA lV,aA DF,reduceIte,Nat.reduceEqDiff];try rfl,hW⟩
  ·have q1:up L 1=true:=(hG 1 (by simp))
   have lV:up L 12=true:=hD 12 (by simp)
   have yI:up L 15=true:=hD 15 (by simp)
   simp only[cB,aA q1,aA lV,aA yI]
   go_simp
   exact hK _ _ ⟨by simp only[cB,aD hlt,aA q1,aA lV,aA yI,reduceIte,Nat.reduceEqDiff];try rfl,hW⟩
  ·have q1:up L 1=true:=hD 1 (by simp)
   have q16:up L 16=true:=hD 16 (by simp)
   simp only[cB,aA q1,aA q16]
   go_simp
   exact hK _ _ ⟨by simp only[cB,aD hlt,aA q1,aA q16,reduceIte,Nat.reduceEqDiff];try rfl,hW⟩
  ·have GX:up L 17=true:=hD 17 (by simp)
   simp only[cB,aA GX]
   go_simp
   exact hK _ _ ⟨by simp only[cB,aD hlt,aA GX,reduceIte,Nat.reduceEqDiff];try rfl,hW⟩
 case done=>
  rintro L a u ⟨rfl,hW⟩ hall
  simp only[cB,aA (hall 0 (by decide)),aA (hall 1 (by decide)),aA (hall 2 (by decide)),aA (hall 3 (by decide)),aA (hall 4 (by decide)),aA (hall 5 (by decide)),aA (hall 6 (by decide)),aA (hall 7 (by decide)),aA (hall 8 (by decide)),aA (hall 9 (by decide)),aA (hall 10 (by decide)),aA (hall 11 (by decide)),aA (hall 12 (by decide)),aA (hall 13 (by decide)),aA (hall 14 (by decide)),aA (hall 15 (by decide)),aA (hall 16 (by decide)),aA (hall 17 (by decide)),aA (hall 18 (by decide))]
  exact nI.out u (Below.trans (Below.drew (Below.refl _ _)) hW)
def cK (ga gb gm h3 h5 q:Nat) (s:ByteArray) (y:Pl.Ins) (ok:Bool)  (c0 c2 c7 c8 c9 c10 c11 c12 c13 c14 c15 d4 qJ qK qL qM qN qO oO oP rP rQ qP oN qF qG qH vF vG vH:Value)  (L:Array Bool):Act:={ tmps:=#[c0,.pointer (some ⟨gb,0,none⟩),c2,.pointer (some ⟨h3,0,none⟩),aR d4 L 18 (.bool true),.pointer (some ⟨h5,0,none⟩),.bool true,c7,c8,c9,c10,c11,c12,c13,c14,c15,aR qJ L 0 (.bool true),aR qK L 1 (.bool true),aR qL L 2 (.pointer (some ⟨ga,0,none⟩)),aR qM L 3 (.pointer (some ⟨ga,0,none⟩)),aR qN L 4 (.pointer (some ⟨ga,2,none⟩)),aR qO L 5 (.map (some gm)),aR oO L 6 (.pointer (some ⟨h3,6,none⟩)),aR oP L 7 (.string s),aR rP L 8 (.pointer (some ⟨q,0,none⟩)),aR rQ L 9 (.pointer (some ⟨q,0,none⟩)),aR qP L 10 (.pointer (some ⟨q,1,none⟩)),aR oN L 11 (.bool true),aR qF L 12 (.bool true),aR qG L 13 (undef),aR qH L 14 (undef),aR vF L 15 (undef),aR vG L 16 (.bool true),aR vH L 17 (.bool true)],defers:=[] }
set_option maxRecDepth 100000 in
theorem Ym (ga gb gm h3 h5 q:Nat) (s:ByteArray) (y:Pl.Ins) (ok:Bool) {c0 c2 c7 c8 c9 c10 c11 c12 c13 c14 c15 d4 qJ qK qL qM qN qO oO oP rP rQ qP oN qF qG qH vF vG vH:Value} (Y:World) (m1:Y.cell? ⟨gb,0,none⟩=some (.pointer (some ⟨ga,0,none⟩))) (m2:Y.cell? ⟨ga,2,none⟩=some (.map (some gm))) (m3:Y.cell? ⟨h3,6,none⟩=some (.string s)) (m5:Y.cell? ⟨q,1,none⟩=some (.bool true)) (Ch:∀ u:World,Below Y.drew.heap.size Y.drew u->(Instr.lookup 67 (.map (some gm)) (.string s) false).run Tryz.prog u=.ok (.pointer (some ⟨q,0,none⟩)) u) {Q:Exit->Act->World->Prop}
  (hK:∀ w1,Below Y.heap.size Y w1->Q .normal { tmps:=#[c0,.pointer (some ⟨gb,0,none⟩),c2,.pointer (some ⟨h3,0,none⟩),.bool true,.pointer (some ⟨h5,0,none⟩),.bool true,c7,c8,c9,c10,c11,c12,c13,c14,c15,.bool true,.bool true,.pointer (some ⟨ga,0,none⟩),.pointer (some ⟨ga,0,none⟩),.pointer (some ⟨ga,2,none⟩),.map (some gm),.pointer (some ⟨h3,6,none⟩),.string s,.pointer (some ⟨q,0,none⟩),.pointer (some ⟨q,0,none⟩),.pointer (some ⟨q,1,none⟩),.bool true,.bool true,undef,undef,undef,.bool true,.bool true],defers:=[] } w1) :
  (Rh 3).wp Tryz.prog Q { tmps:=#[c0,.pointer (some ⟨gb,0,none⟩),c2,.pointer (some ⟨h3,0,none⟩),d4,.pointer (some ⟨h5,0,none⟩),.bool true,c7,c8,c9,c10,c11,c12,c13,c14,c15,qJ,qK,qL,qM,qN,qO,oO,oP,rP,rQ,qP,oN,qF,qG,qH,vF,vG,vH],defers:=[] } Y:=by
 have nI:Hid _:=hK
 clear hK
 have UG:yielded.match_1 (motive:=fun _=>Option Bool) (some undef) (fun b=>some b) (fun _=>none)=none:=rfl
 have Ir:Hid _:=Ch
 have e1:Y.drew.cell? ⟨gb,0,none⟩=some (.pointer (some ⟨ga,0,none⟩)):=m1
 have e2:Y.drew.cell? ⟨ga,2,none⟩=some (.map (some gm)):=m2
 have e3:Y.drew.cell? ⟨h3,6,none⟩=some (.string s):=m3
 have e5:Y.drew.cell? ⟨q,1,none⟩=some (.bool true):=m5
 clear Ch m1 m2 m3 m5
 conv=>arg 2;whnf
 refine wp_region_any (by kernel_rfl) ?_
 change wpAny _ _ _ _ _ _ _ (World.drew _)
 refine bQ (fun L jD u=>jD=cK ga gb gm h3 h5 q s y ok  c0 c2 c7 c8 c9 c10 c11 c12 c13 c14 c15 d4 qJ qK qL qM qN qO oO oP rP rQ qP oN qF qG qH vF vG vH  L/\Below Y.drew.heap.size Y.drew u) ?done (by kernel_rfl) ?step _ 19 _ _ (by kernel_rfl) ?init (by decide)
 case init=>exact⟨by simp only[cK,dG (bR _ _)],Below.refl _ _⟩
 case step=>
  intro L act w i o hI hlt hs nl hC hd ho K hK
  obtain⟨rfl,hW⟩:=hI
  have jB:i<19:=(Array.getElem?_eq_some_iff.1 ho).1
  have hD:=fun k m=>hd {on:=k,ground:=.data} m rfl
  have hG:=fun k m=>hd {on:=k,ground:=.guard} m rfl
  rcases (show i=0\/i=1\/i=2\/i=3\/i=4\/i=5\/i=6\/i=7\/i=8\/i=9\/i=10\/i=11\/i=12\/i=13\/i=14\/i=15\/i=16\/i=17\/i=18 by omega) with rfl|rfl|rfl|rfl|rfl|rfl|rfl|rfl|rfl|rfl|rfl|rfl|rfl|rfl|rfl|rfl|rfl|rfl|rfl<;>(change some _=some o at ho;cases ho)
  ·simp only[cK]
   go_simp
   exact hK _ _ ⟨by simp only[cK,aD hlt,reduceIte,Nat.reduceEqDiff];try rfl,hW⟩
  ·have q0:up L 0=true:=hD 0 (by simp)
   simp only[cK,aA q0]
   go_simp
   exact hK _ _ ⟨by simp only[cK,aD hlt,aA q0,reduceIte,Nat.reduceEqDiff];try rfl,hW⟩
  ·have q1:up L 1=true:=(hG 1 (by simp))
   have k1:=aF hW e1
   simp only[cK,aA q1]
   go_simp
   exact hK _ _ ⟨by simp only[cK,aD hlt,aA q1,reduceIte,Nat.reduceEqDiff];try rfl,hW⟩
  ·have q1:up L 1=true:=(hG 1 (by simp))
   have q2:up L 2=true:=hD 2 (by simp)
   simp only[cK,aA q1,aA q2]
   go_simp
   exact hK _ _ ⟨by simp only[cK,aD hlt,aA q1,aA q2,reduceIte,Nat.reduceEqDiff];try rfl,hW⟩
  ·have q1:up L 1=true:=(hG 1 (by simp))
   have q3:up L 3=true:=hD 3 (by simp)
   simp only[cK,aA q1,aA q3]
   go_simp
   exact hK _ _ ⟨by simp only[cK,aD hlt,aA q1,aA q3,reduceIte,Nat.reduceEqDiff];try rfl,hW⟩
  ·have q1:up L 1=true:=(hG 1 (by simp))
   have q4:up L 4=true:=hD 4 (by simp)
   have k2:=aF hW e2
   simp only[cK,aA q1,aA q4]
   go_simp
   exact hK _ _ ⟨by simp only[cK,aD hlt,aA q1,aA q4,reduceIte,Nat.reduceEqDiff];try rfl,hW⟩
  ·have q1:up L 1=true:=(hG 1 (by simp))
   simp only[cK,aA q1]
   go_simp
   exact hK _ _ ⟨by simp only[cK,aD hlt,aA q1,reduceIte,Nat.reduceEqDiff];try rfl,hW⟩
  ·have q1:up L 1=true:=(hG 1 (by simp))
   have q6:up L 6=true:=hD 6 (by simp)
   have k3:=aF hW e3
   simp only[cK,aA q1,aA q6]
   go_simp
   exact hK _ _ ⟨by simp only[cK,aD hlt,aA q1,aA q6,reduceIte,Nat.reduceEqDiff];try rfl,hW⟩
  ·have q1:up L 1=true:=(hG 1 (by simp))
   have q5:up L 5=true:=hD 5 (by simp)
   have q7:up L 7=true:=hD 7 (by simp)
   have k4:=Ir.out w hW
   simp only[cK,aA q1,aA q5,aA q7]
   go_simp
   exact hK _ _ ⟨by simp only[cK,aD hlt,aA q1,aA q5,aA q7,reduceIte,Nat.reduceEqDiff];try rfl,hW⟩
  ·have q1:up L 1=true:=(hG 1 (by simp))
   have q8:up L 8=true:=hD 8 (by simp)
   simp only[cK,aA q1,aA q8]
   go_simp
   exact hK _ _ ⟨by simp only[cK,aD hlt,aA q1,aA q8,reduceIte,Nat.reduceEqDiff];try rfl,hW⟩
  ·have q1:up L 1=true:=(hG 1 (by simp))
   have q9:up L 9=true:=hD 9 (by simp)
   simp only[cK,aA q1,aA q9]
   go_simp
   exact hK _ _ ⟨by simp only[cK,aD hlt,aA q1,aA q9,reduceIte,Nat.reduceEqDiff];try rfl,hW⟩
  ·have q1:up L 1=true:=(hG 1 (by simp))
   have rZ:up L 10=true:=hD 10 (by simp)
   have k5:=aF hW e5
   simp only[cK,aA q1,aA rZ]
   go_simp
   exact hK _ _ ⟨by simp only[cK,aD hlt,aA q1,aA rZ,reduceIte,Nat.reduceEqDiff];try rfl,hW⟩
  ·have q1:up L 1=true:=(hG 1 (by simp))
   have sH:up L 11=true:=hD 11 (by simp)
   simp only[cK,aA q1,aA sH]
   go_simp
   exact hK _ _ ⟨by simp only[cK,aD hlt,aA q1,aA sH,reduceIte,Nat.reduceEqDiff];try rfl,hW⟩
  ·have lV:up L 12=true:=(hG 12 (by simp))
   simp only[cK,aA lV]
   go_simp
   exact hK _ _ ⟨by simp only[cK,aD hlt,aA lV,reduceIte,Nat.reduceEqDiff];try rfl,hW⟩
  ·have lV:up L 12=true:=(hG 12 (by simp))
   have wR:up L 13=true:=hD 13 (by simp)
   simp only[cK,aA lV,aA wR]
   go_simp
   exact hK _ _ ⟨by simp only[cK,aD hlt,aA lV,aA wR,reduceIte,Nat.reduceEqDiff];try rfl,hW⟩
  ·have lV:up L 12=true:=(hG 12 (by simp))
   have DF:up L 14=true:=hD 14 (by simp)
   simp only[cK,aA lV,aA DF]
   go_simp
   exact hK _ _ ⟨by simp only[cK,aD hlt,aA lV,aA DF,reduceIte,Nat.reduceEqDiff];try rfl,hW⟩
  ·have q1:up L 1=true:=(hG 1 (by simp))
   have lV:up L 12=true:=hD 12 (by simp)
   have yI:up L 15=true:=hD 15 (by simp)
   simp only[cK,aA q1,aA lV,aA yI]
   go_simp
   exact hK _ _ ⟨by simp only[cK,aD hlt,aA q1,aA lV,aA yI,reduceIte,Nat.reduceEqDiff];try rfl,hW⟩
  ·have q1:up L 1=true:=hD 1 (by simp)
   have q16:up L 16=true:=hD 16 (by simp)
   simp only[cK,aA q1,aA q16]
   go_simp
   exact hK _ _ ⟨by simp only[cK,aD hlt,aA q1,aA q16,reduceIte,Nat.reduceEqDiff];try rfl,hW⟩
  ·have GX:up L 17=true:=hD 17 (by simp)
   simp only[cK,aA GX]
   go_simp
   exact hK _ _ ⟨by simp only[cK,aD hlt,aA GX,reduceIte,Nat.reduceEqDiff];try rfl,hW⟩
 case done=>
  rintro L a u ⟨rfl,hW⟩ hall
  simp only[cK,aA (hall 0 (by decide)),aA (hall 1 (by decide)),aA (hall 2 (by decide)),aA (hall 3 (by decide)),aA (hall 4 (by decide)),aA (hall 5 (by decide)),aA (hall 6 (by decide)),aA (hall 7 (by decide)),aA (hall 8 (by decide)),aA (hall 9 (by decide)),aA (hall 10 (by decide)),aA (hall 11 (by decide)),aA (hall 12 (by decide)),aA (hall 13 (by decide)),aA (hall 14 (by decide)),aA (hall 15 (by decide)),aA (hall 16 (by decide)),aA (hall 17 (by decide)),aA (hall 18 (by decide))]
  exact nI.out u (Below.trans (Below.drew (Below.refl _ _)) hW)
def cO (ga gb gm h3 h5 q:Nat) (s:ByteArray) (y:Pl.Ins) (ok:Bool)  (c0 c2 c7 c8 c9 c10 c11 c12 c13 c14 c15 d4 qJ qK qL qM qN qO oO oP rP rQ qP oN qF qG qH vF vG vH:Value)  (L:Array Bool):Act:={ tmps:=#[c0,.pointer (some ⟨gb,0,none⟩),c2,.pointer (some ⟨h3,0,none⟩),aR d4 L 18 (.bool (!ok)),.pointer (some ⟨h5,0,none⟩),.bool true,c7,c8,c9,c10,c11,c12,c13,c14,c15,aR qJ L 0 (.bool true),aR qK L 1 (.bool true),aR qL L 2 (.pointer (some ⟨ga,0,none⟩)),aR qM L 3 (.pointer (some ⟨ga,0,none⟩)),aR qN L 4 (.pointer (some ⟨ga,2,none⟩)),aR qO L 5 (.map (some gm)),aR oO L 6 (.pointer (some ⟨h3,6,none⟩)),aR oP L 7 (.string s),aR rP L 8 (.pointer (some ⟨q,0,none⟩)),aR rQ L 9 (.pointer (some ⟨q,0,none⟩)),aR qP L 10 (.pointer (some ⟨q,1,none⟩)),aR oN L 11 (.bool false),aR qF L 12 (.bool false),aR qG L 13 (.agg #[.int .i64 y.op,.int .i64 y.rd,.int .i64 y.r1,.int .i64 y.r2,.int .i64 y.im]),aR qH L 14 (.bool ok),aR vF L 15 (.bool (!ok)),aR vG L 16 (.bool (!ok)),aR vH L 17 (.bool (!ok))],defers:=[] }
set_option maxRecDepth 100000 in
theorem Yn (ga gb gm h3 h5 q:Nat) (s:ByteArray) (y:Pl.Ins) (ok:Bool) {c0 c2 c7 c8 c9 c10 c11 c12 c13 c14 c15 d4 qJ qK qL qM qN qO oO oP rP rQ qP oN qF qG qH vF vG vH:Value} (Y:World) (m1:Y.cell? ⟨gb,0,none⟩=some (.pointer (some ⟨ga,0,none⟩))) (m2:Y.cell? ⟨ga,2,none⟩=some (.map (some gm))) (m3:Y.cell? ⟨h3,6,none⟩=some (.string s)) (m5:Y.cell? ⟨q,1,none⟩=some (.bool false)) (Ch:∀ u:World,Below Y.drew.heap.size Y.drew u->(Instr.lookup 67 (.map (some gm)) (.string s) false).run Tryz.prog u=.ok (.pointer (some ⟨q,0,none⟩)) u) (r5:Y.heap[h5]?=some (.cells #[.int .i64 y.op,.int .i64 y.rd,.int .i64 y.r1,.int .i64 y.r2,.int .i64 y.im] 32 (0,0))) (K6:∀ u:World,Calls Tryz.prog 84 #[.agg #[.int .i64 y.op,.int .i64 y.rd,.int .i64 y.r1,.int .i64 y.r2,.int .i64 y.im]] u fun e w'=>e=.returned (.bool ok)/\Below u.heap.size u w') {Q:Exit->Act->World->Prop}
  (hK:∀ w1,Below Y.heap.size Y w1->Q .normal { tmps:=#[c0,.pointer (some ⟨gb,0,none⟩),c2,.pointer (some ⟨h3,0,none⟩),.bool (!ok),.pointer (some ⟨h5,0,none⟩),.bool true,c7,c8,c9,c10,c11,c12,c13,c14,c15,.bool true,.bool true,.pointer (some ⟨ga,0,none⟩),.pointer (some ⟨ga,0,none⟩),.pointer (some ⟨ga,2,none⟩),.map (some gm),.pointer (some ⟨h3,6,none⟩),.string s,.pointer (some ⟨q,0,none⟩),.pointer (some ⟨q,0,none⟩),.pointer (some ⟨q,1,none⟩),.bool false,.bool false,.agg #[.int .i64 y.op,.int .i64 y.rd,.int .i64 y.r1,.int .i64 y.r2,.int .i64 y.im],.bool ok,.bool (!ok),.bool (!ok),.bool (!ok)],defers:=[] } w1) :
  (Rh 3).wp Tryz.prog Q { tmps:=#[c0,.pointer (some ⟨gb,0,none⟩),c2,.pointer (some ⟨h3,0,none⟩),d4,.pointer (some ⟨h5,0,none⟩),.bool true,c7,c8,c9,c10,c11,c12,c13,c14,c15,qJ,qK,qL,qM,qN,qO,oO,oP,rP,rQ,qP,oN,qF,qG,qH,vF,vG,vH],defers:=[] } Y:=by
 have nI:Hid _:=hK
 clear hK
 have UG:yielded.match_1 (motive:=fun _=>Option Bool) (some undef) (fun b=>some b) (fun _=>none)=none:=rfl
 have Ir:Hid _:=Ch
 have e1:Y.drew.cell? ⟨gb,0,none⟩=some (.pointer (some ⟨ga,0,none⟩)):=m1
 have e2:Y.drew.cell? ⟨ga,2,none⟩=some (.map (some gm)):=m2
 have e3:Y.drew.cell? ⟨h3,6,none⟩=some (.string s):=m3
 have e5:Y.drew.cell? ⟨q,1,none⟩=some (.bool false):=m5
 clear Ch m1 m2 m3 m5
 have VD:Hid _:=K6
 have b0:Y.drew.cell? ⟨h5,0,none⟩=some (.int .i64 y.op):=cell_of_row Y.drew h5 0 _ 32 (0,0) r5
 have b1:Y.drew.cell? ⟨h5,1,none⟩=some (.int .i64 y.rd):=cell_of_row Y.drew h5 1 _ 32 (0,0) r5
 have b2:Y.drew.cell? ⟨h5,2,none⟩=some (.int .i64 y.r1):=cell_of_row Y.drew h5 2 _ 32 (0,0) r5
 have b3:Y.drew.cell? ⟨h5,3,none⟩=some (.int .i64 y.r2):=cell_of_row Y.drew h5 3 _ 32 (0,0) r5
 have b4:Y.drew.cell? ⟨h5,4,none⟩=some (.int .i64 y.im):=cell_of_row Y.drew h5 4 _ 32 (0,0) r5
 clear K6 r5
 conv=>arg 2;whnf
 refine wp_region_any (by kernel_rfl) ?_
 change wpAny _ _ _ _ _ _ _ (World.drew _)
 refine bQ (fun L jD u=>jD=cO ga gb gm h3 h5 q s y ok  c0 c2 c7 c8 c9 c10 c11 c12 c13 c14 c15 d4 qJ qK qL qM qN qO oO oP rP rQ qP oN qF qG qH vF vG vH  L/\Below Y.drew.heap.size Y.drew u) ?done (by kernel_rfl) ?step _ 19 _ _ (by kernel_rfl) ?init (by decide)
 case init=>exact⟨by simp only[cO,dG (bR _ _)],Below.refl _ _⟩
 case step=>
  intro L act w i o hI hlt hs nl hC hd ho K hK
  obtain⟨rfl,hW⟩:=hI
  have jB:i<19:=(Array.getElem?_eq_some_iff.1 ho).1
  have hD:=fun k m=>hd {on:=k,ground:=.data} m rfl
  have hG:=fun k m=>hd {on:=k,ground:=.guard} m rfl
  rcases (show i=0\/i=1\/i=2\/i=3\/i=4\/i=5\/i=6\/i=7\/i=8\/i=9\/i=10\/i=11\/i=12\/i=13\/i=14\/i=15\/i=16\/i=17\/i=18 by omega) with rfl|rfl|rfl|rfl|rfl|rfl|rfl|rfl|rfl|rfl|rfl|rfl|rfl|rfl|rfl|rfl|rfl|rfl|rfl<;>(change some _=some o at ho;cases ho)
  ·simp only[cO]
   go_simp
   exact hK _ _ ⟨by simp only[cO,aD hlt,reduceIte,Nat.reduceEqDiff];try rfl,hW⟩
  ·have q0:up L 0=true:=hD 0 (by simp)
   simp only[cO,aA q0]
   go_simp
   exact hK _ _ ⟨by simp only[cO,aD hlt,aA q0,reduceIte,Nat.reduceEqDiff];try rfl,hW⟩
  ·have q1:up L 1=true:=(hG 1 (by simp))
   have k1:=aF hW e1
   simp only[cO,aA q1]
   go_simp
   exact hK _ _ ⟨by simp only[cO,aD hlt,aA q1,reduceIte,Nat.reduceEqDiff];try rfl,hW⟩
  ·have q1:up L 1=true:=(hG 1 (by simp))
   have q2:up L 2=true:=hD 2 (by simp)
   simp only[cO,aA q1,aA q2]
   go_simp
   exact hK _ _ ⟨by simp only[cO,aD hlt,aA q1,aA q2,reduceIte,Nat.reduceEqDiff];try rfl,hW⟩
  ·have q1:up L 1=true:=(hG 1 (by simp))
   have q3:up L 3=true:=hD 3 (by simp)
   simp only[cO,aA q1,aA q3]
   go_simp
   exact hK _ _ ⟨by simp only[cO,aD hlt,aA q1,aA q3,reduceIte,Nat.reduceEqDiff];try rfl,hW⟩
  ·have q1:up L 1=true:=(hG 1 (by simp))
   have q4:up L 4=true:=hD 4 (by simp)
   have k2:=aF hW e2
   simp only[cO,aA q1,aA q4]
   go_simp
   exact hK _ _ ⟨by simp only[cO,aD hlt,aA q1,aA q4,reduceIte,Nat.reduceEqDiff];try rfl,hW⟩
  ·have q1:up L 1=true:=(hG 1 (by simp))
   simp only[cO,aA q1]
   go_simp
   exact hK _ _ ⟨by simp only[cO,aD hlt,aA q1,reduceIte,Nat.reduceEqDiff];try rfl,hW⟩
  ·have q1:up L 1=true:=(hG 1 (by simp))
   have q6:up L 6=true:=hD 6 (by simp)
   have k3:=aF hW e3
   simp only[cO,aA q1,aA q6]
   go_simp
   exact hK _ _ ⟨by simp only[cO,aD hlt,aA q1,aA q6,reduceIte,Nat.reduceEqDiff];try rfl,hW⟩
  ·have q1:up L 1=true:=(hG 1 (by simp))
   have q5:up L 5=true:=hD 5 (by simp)
   have q7:up L 7=true:=hD 7 (by simp)
   have k4:=Ir.out w hW
   simp only[cO,aA q1,aA q5,aA q7]
   go_simp
   exact hK _ _ ⟨by simp only[cO,aD hlt,aA q1,aA q5,aA q7,reduceIte,Nat.reduceEqDiff];try rfl,hW⟩
  ·have q1:up L 1=true:=(hG 1 (by simp))
   have q8:up L 8=true:=hD 8 (by simp)
   simp only[cO,aA q1,aA q8]
   go_simp
   exact hK _ _ ⟨by simp only[cO,aD hlt,aA q1,aA q8,reduceIte,Nat.reduceEqDiff];try rfl,hW⟩
  ·have q1:up L 1=true:=(hG 1 (by simp))
   have q9:up L 9=true:=hD 9 (by simp)
   simp only[cO,aA q1,aA q9]
   go_simp
   exact hK _ _ ⟨by simp only[cO,aD hlt,aA q1,aA q9,reduceIte,Nat.reduceEqDiff];try rfl,hW⟩
  ·have q1:up L 1=true:=(hG 1 (by simp))
   have rZ:up L 10=true:=hD 10 (by simp)
   have k5:=aF hW e5
   simp only[cO,aA q1,aA rZ]
   go_simp
   exact hK _ _ ⟨by simp only[cO,aD hlt,aA q1,aA rZ,reduceIte,Nat.reduceEqDiff];try rfl,hW⟩
  ·have q1:up L 1=true:=(hG 1 (by simp))
   have sH:up L 11=true:=hD 11 (by simp)
   simp only[cO,aA q1,aA sH]
   go_simp
   exact hK _ _ ⟨by simp only[cO,aD hlt,aA q1,aA sH,reduceIte,Nat.reduceEqDiff];try rfl,hW⟩
  ·have lV:up L 12=true:=(hG 12 (by simp))
   have k0:=aF hW b0
   have k1:=aF hW b1
   have k2:=aF hW b2
   have k3:=aF hW b3
   have k4:=aF hW b4
   simp only[cO,aA lV]
   go_simp
   exact hK _ _ ⟨by simp only[cO,aD hlt,aA lV,reduceIte,Nat.reduceEqDiff];try rfl,hW⟩
  ·have lV:up L 12=true:=(hG 12 (by simp))
   have wR:up L 13=true:=hD 13 (by simp)
   simp only[cO,aA lV,aA wR]
   go_simp
   refine (VD.out _).mono ?_
   rintro e w3 ⟨rfl,hb3⟩
   go_simp
   exact hK _ _ ⟨by simp only[cO,aD hlt,aA lV,aA wR,reduceIte,Nat.reduceEqDiff];try rfl,hW.trans (hb3.mono hW.size)⟩
  ·have lV:up L 12=true:=(hG 12 (by simp))
   have DF:up L 14=true:=hD 14 (by simp)
   simp only[cO,aA lV,aA DF]
   go_simp
   exact hK _ _ ⟨by simp only[cO,aD hlt,aA lV,aA DF,reduceIte,Nat.reduceEqDiff];try rfl,hW⟩
  ·have q1:up L 1=true:=(hG 1 (by simp))
   have lV:up L 12=true:=hD 12 (by simp)
   have yI:up L 15=true:=hD 15 (by simp)
   simp only[cO,aA q1,aA lV,aA yI]
   go_simp
   exact hK _ _ ⟨by simp only[cO,aD hlt,aA q1,aA lV,aA yI,reduceIte,Nat.reduceEqDiff];try rfl,hW⟩
  ·have q1:up L 1=true:=hD 1 (by simp)
   have q16:up L 16=true:=hD 16 (by simp)
   simp only[cO,aA q1,aA q16]
   go_simp
   exact hK _ _ ⟨by simp only[cO,aD hlt,aA q1,aA q16,reduceIte,Nat.reduceEqDiff];try rfl,hW⟩
  ·have GX:up L 17=true:=hD 17 (by simp)
   simp only[cO,aA GX]
   go_simp
   exact hK _ _ ⟨by simp only[cO,aD hlt,aA GX,reduceIte,Nat.reduceEqDiff];try rfl,hW⟩
 case done=>
  rintro L a u ⟨rfl,hW⟩ hall
  simp only[cO,aA (hall 0 (by decide)),aA (hall 1 (by decide)),aA (hall 2 (by decide)),aA (hall 3 (by decide)),aA (hall 4 (by decide)),aA (hall 5 (by decide)),aA (hall 6 (by decide)),aA (hall 7 (by decide)),aA (hall 8 (by decide)),aA (hall 9 (by decide)),aA (hall 10 (by decide)),aA (hall 11 (by decide)),aA (hall 12 (by decide)),aA (hall 13 (by decide)),aA (hall 14 (by decide)),aA (hall 15 (by decide)),aA (hall 16 (by decide)),aA (hall 17 (by decide)),aA (hall 18 (by decide))]
  exact nI.out u (Below.trans (Below.drew (Below.refl _ _)) hW)
variable {lo:Nat} {xs:List Pl.Ln} {w u u':World} {ga gm:Nat} {a:Option Addr} {len cap:Nat} {stack:Int} {ec:Pl.kV} {B:Nat} {mb:Nat->Nat} {d:Nat->Bool} {ad:Nat->Int}
structure Iu (xs:List Pl.Ln) (w:World) (ga gm len gc:Nat) (mb:Nat->Nat):Prop where
 ga:ga<gc
 gm:gm<gc
 mb:∀ i,i<len->(Pl.gl xs i).k=1->mb i<gc
 w:w.heap.size<=gc
theorem sZ.only {g:Nat} (h:sZ lo xs w u ga gm a len cap stack B mb) (hb:OnlyC g u u') (hs:Iu xs w ga gm len g mb):sZ lo xs w u' ga gm a len cap stack B mb:=
 ⟨(kH.am h).only hb hs.w (by have:=hs.ga;omega),(kH.lm h).only hb (by have:=hs.gm;omega) (fun i hi hk=>by have:=hs.mb i hi hk;omega),kH.hB h,kH.vI h,kH.n h⟩
theorem sZ.beh (h:sZ lo xs w u ga gm a len cap stack B mb):Iu xs w ga gm len u.heap.size mb:=⟨(kH.am h).lt,by obtain⟨D,_,h2,_⟩:=(kH.lm h).map;exact h2.lt,fun i hi hk=>(Array.getElem?_eq_some_iff.1 ((kH.lm h).yU i hi hk).2).1,(kH.am h).low.size⟩
theorem Iu.up {g g':Nat} (h:Iu xs w ga gm len g mb) (hg:g<=g'):Iu xs w ga gm len g' mb:=⟨Nat.lt_of_lt_of_le h.ga hg,Nat.lt_of_lt_of_le h.gm hg,fun i hi hk=>Nat.lt_of_lt_of_le (h.mb i hi hk) hg,Nat.le_trans h.w hg⟩
theorem IA (x:Pl.Ln) (t:Int) (j:Nat) (h:sZ lo xs w u ga gm a len cap stack B mb) (hs:x.s.size<=maxLen) (hj:Pl.jT x.k=true) (hl:Pl.lb xs x.s=some j) (hz : -1099511627776<=(Pl.cu xs j).at-t/\(Pl.cu xs j).at-t<=1099511627776):Calls Tryz.prog 82 #[.pointer (some ⟨ga,0,none⟩),.agg #[.int .i64 x.k,.int .i64 x.op,.int .i64 x.rd,.int .i64 x.r1,.int .i64 x.r2,.int .i64 x.im,.string x.s,.int .i64 x.n],.int .i64 t] u fun e u'=>e=.returned (.tuple #[.agg (ZZ (Pl.zD x ((Pl.cu xs j).at-t))),.bool true])/\Below u.heap.size u u':=by
 unfold Pl.jT at hj
 rcases of_decide_eq_true hj with q | q | q
 ·exact Iq x t j h hs q hl hz
 ·exact Io x t j h hs q hl hz
 ·exact Ip x t j h hs q hl hz
theorem UI (hK:∀ i,i<xs.length->nA (Pl.gl xs i)) (hlo:∀ i,i<xs.length->Pl.lost xs i=false) {k:Nat} (hk:k<xs.length) (hs:¬ (Pl.gl xs k).s.size=0):∃ j,j<xs.length/\Pl.lb xs (Pl.gl xs k).s=some j:=by
 have h1:=hlo k hk
 unfold Pl.lost at h1
 have h2:(Pl.gl xs k).s≠⟨#[]⟩:=fun e=>hs (by rw[e];rfl)
 rw[decide_eq_true h2,Bool.true_and]at h1
 have h3:=of_decide_eq_false h1
 cases hl:Pl.lb xs (Pl.gl xs k).s with
 | none=>exact absurd hl h3
 | some j=>exact⟨j,(Pl.lS.1 hl).1,rfl⟩
set_option maxRecDepth 100000 in
theorem IB (k gb gc:Nat) (h:sZ lo xs w u ga gm a len cap stack B mb) (hbx:KQ u gb ga) (hgb:gb<gc) (hgc:Iu xs w ga gm len gc mb) (hc:bF u gc (Pl.cu xs k)) (hk:k<xs.length) (hK:∀ i,i<xs.length->nA (Pl.gl xs i)) (hlo:∀ i,i<xs.length->Pl.lost xs i=false) (hsz:(Pl.gl xs k).s.size<=maxLen):Calls Tryz.prog 81 #[.agg #[.int .i64 (Pl.gl xs k).k,.int .i64 (Pl.gl xs k).op,.int .i64 (Pl.gl xs k).rd,.int .i64 (Pl.gl xs k).r1,.int .i64 (Pl.gl xs k).r2,.int .i64 (Pl.gl xs k).im,.string (Pl.gl xs k).s,.int .i64 (Pl.gl xs k).n],.pointer (some ⟨gb,0,none⟩),.pointer (some ⟨gc,0,none⟩)] u fun e u'=>e=.returned (.bool (Pl.dQ xs k))/\bF u' gc (Pl.cu xs (k+1))/\OnlyC gc u u':=by
 have hn:xs.length<=20000:=by rw[kH.sD h];exact kH.n h
 have hB:∀ i,i<xs.length->Pl.sG (Pl.gl xs i):=fun i hi=>(hK i hi).b
 have Yo:Hid (Pl.jT (Pl.gl xs k).k=true->∃ j,j<xs.length/\Pl.lb xs (Pl.gl xs k).s=some j):=fun q=>UI hK hlo hk ((hK k hk).sym (by unfold Pl.jT at q;have:=of_decide_eq_true q;omega))
 have Om:Hid (∀ j,j<=xs.length->0<=(Pl.cu xs j).at/\(Pl.cu xs j).at<=1311768576):=fun j hj=>oJ hK hn hj
 have Oo:Hid (∀ W,bF W gc (Pl.cu xs k)->Calls Tryz.prog 75 #[.pointer (some ⟨gc,0,none⟩),.agg #[.int .i64 (Pl.gl xs k).k,.int .i64 (Pl.gl xs k).op,.int .i64 (Pl.gl xs k).rd,.int .i64 (Pl.gl xs k).r1,.int .i64 (Pl.gl xs k).r2,.int .i64 (Pl.gl xs k).im,.string (Pl.gl xs k).s,.int .i64 (Pl.gl xs k).n]] W fun e w'=>e=.returned (.tuple #[])/\bF w' gc (Pl.cu xs (k+1))/\OnlyC gc W w'):=fun W hW=>xQ k hk hB hn gc W hW
 have Aa:Hid (Pl.dQ xs k=(Pl.jT (Pl.gl xs k).k && (Pl.rJ xs (Pl.gl xs k).s || !(Pl.zD (Pl.gl xs k) (Pl.gT xs (Pl.gl xs k).s-(Pl.cu xs k).at)).ok))):=rfl
 have K7:Hid (0<=(Pl.cu xs k).t/\(Pl.cu xs k).t<=1099511627776/\0<=(Pl.cu xs k).b/\(Pl.cu xs k).b<=1099511627776):=by have:=Pl.jO xs hB k (by omega);show _/\_;omega
 have Ab:Hid (k<=xs.length):=by show k<=xs.length;omega
 clear hK hlo hB hn hk
 generalize Pl.gl xs k=x at *
 have VF:Hid _:=hsz
 obtain⟨V,hV⟩:∃ V,V=u.alloc (.cells #[.int .i64 x.k,.int .i64 x.op,.int .i64 x.rd,.int .i64 x.r1,.int .i64 x.r2,.int .i64 x.im,.string x.s,.int .i64 x.n] 51):=⟨_,rfl⟩
 have yZ:Below u.heap.size u V:=by rw[hV];exact aB u _
 have K8:Hid (V.heap.size=u.heap.size+1):=by show _=_;rw[hV];simp
 have HR3:Hid (V.heap[u.heap.size]?=some (.cells #[.int .i64 x.k,.int .i64 x.op,.int .i64 x.rd,.int .i64 x.r1,.int .i64 x.r2,.int .i64 x.im,.string x.s,.int .i64 x.n] 51 (0,0))):=by show _=_;rw[hV];exact heap_alloc_new u _
 have Yp:Hid (V.cell? ⟨gb,0,none⟩=some (.pointer (some ⟨ga,0,none⟩))):=(hbx.keep yZ).c
 have Ri:Hid (gc<u.heap.size):=hc.lt
 have Kk:Hid (gb<u.heap.size/\gb<gc/\u.cell? ⟨gb,0,none⟩=some (.pointer (some ⟨ga,0,none⟩))):=⟨by have:=hc.lt;omega,hgb,hbx.c⟩
 have Yq:Hid (OnlyC gc u V):=OnlyC.of yZ
 have Cf:Hid (∀ v,Below V.drew.heap.size V.drew v->Below u.heap.size u v):=fun v hv=>(Below.drew yZ).trans (hv.mono (by show u.heap.size<=V.heap.size;exact yZ.size))
 have HAD:Hid (∀ v:World,Below V.drew.heap.size V.drew v->Calls Tryz.prog 83 #[.pointer (some ⟨gc,0,none⟩)] v fun e w'=>e=.returned (.int .i64 (Pl.cu xs k).at)/\w'=v):=fun v hv=>uR gc _ v (hc.keep (Cf.out v hv)) K7.out
 have Iw:Hid (∀ v:World,Below V.heap.size V v->Calls Tryz.prog 75 #[.pointer (some ⟨gc,0,none⟩),.agg #[.int .i64 x.k,.int .i64 x.op,.int .i64 x.rd,.int .i64 x.r1,.int .i64 x.r2,.int .i64 x.im,.string x.s,.int .i64 x.n]] v fun e w'=>e=.returned (.tuple #[])/\bF w' gc (Pl.cu xs (k+1))/\OnlyC gc v w'):=fun v hv=>Oo.out v (hc.keep (yZ.trans (hv.mono yZ.size)))
 have ZY:Hid (∀ v,OnlyC gc u v->sZ lo xs w v ga gm a len cap stack B mb):=fun v hv=>h.only hv hgc
 have HAK:Hid (∀ v,Below V.drew.heap.size V.drew v->sZ lo xs w v ga gm a len cap stack B mb):=fun v hv=>h.keep (Cf.out v hv)
 have HV:Hid _:=hV.symm
 clear h hbx hgb hgc hc hsz yZ hV Oo
 cases hj:Pl.jT x.k
 ·obtain⟨y,hy⟩:∃ y:Pl.Ins,y=⟨0,0,0,0,0⟩:=⟨_,rfl⟩
  have BA:Hid (∀ v:World,Below V.drew.heap.size V.drew v->Calls Tryz.prog 82 #[.pointer (some ⟨ga,0,none⟩),.agg #[.int .i64 x.k,.int .i64 x.op,.int .i64 x.rd,.int .i64 x.r1,.int .i64 x.r2,.int .i64 x.im,.string x.s,.int .i64 x.n],.int .i64 (Pl.cu xs k).at] v fun e w'=>e=.returned (.tuple #[.agg #[.int .i64 y.op,.int .i64 y.rd,.int .i64 y.r1,.int .i64 y.r2,.int .i64 y.im],.bool false])/\Below v.heap.size v w'):=fun v _=>by rw[hy];exact rR x _ hj ga v
  have vE:Hid (Pl.dQ xs k=false):=by show _=_;rw[Aa.out,hj];rfl
  clear hy hj Aa
  go_enter Tryz.func81,Tryz.ntmps81
  go_upto_region 1 with fail
  rw[HV.out]
  refine Yk ga gb gc u.heap.size x y (Pl.cu xs k).at false V Yp.out HR3.out HAD.out BA.out ?_
  intro h5 w1 hB1 Ci r5
  have HB1:Hid (Below V.heap.size V w1):=hB1
  have Cj:Hid (V.heap.size<=h5/\w1.heap[h5]?=some (.cells #[.int .i64 y.op,.int .i64 y.rd,.int .i64 y.r1,.int .i64 y.r2,.int .i64 y.im] 32 (0,0))):=⟨Ci,r5⟩
  have hr3:=(hB1.block u.heap.size (Array.getElem?_eq_some_iff.1 HR3.out).1).trans HR3.out
  have l0:=cell_of_row w1 u.heap.size 0 _ 51 (0,0) hr3
  have l1:=cell_of_row w1 u.heap.size 1 _ 51 (0,0) hr3
  have l2:=cell_of_row w1 u.heap.size 2 _ 51 (0,0) hr3
  have l3:=cell_of_row w1 u.heap.size 3 _ 51 (0,0) hr3
  have l4:=cell_of_row w1 u.heap.size 4 _ 51 (0,0) hr3
  have l5:=cell_of_row w1 u.heap.size 5 _ 51 (0,0) hr3
  have l6:=cell_of_row w1 u.heap.size 6 _ 51 (0,0) hr3
  have l7:=cell_of_row w1 u.heap.size 7 _ 51 (0,0) hr3
  simp only[List.getElem?_toArray,List.getElem?_cons_zero,List.getElem?_cons_succ]at l0 l1 l2 l3 l4 l5 l6 l7
  have KU:Hid _:=Iw.out w1 hB1
  clear hB1 Ci r5 hr3
  go_upto_region 3 with (go_at_call 75;refine Calls.mono KU.out ?_;rintro e w2 ⟨rfl,hc2,ho2⟩; have NB:Hid (bF w2 gc (Pl.cu xs (k+1))/\OnlyC gc w1 w2):=⟨hc2,ho2⟩; clear hc2 ho2 l0 l1 l2 l3 l4 l5 l6 l7)
  have Ac:Hid (OnlyC gc u w2):=Yq.out.trans ((OnlyC.of HB1.out).trans NB.out.2)
  refine Yl ga gb gm u.heap.size h5 0 x.s y true w2 ?_
  intro w3 hB3
  have HF:Hid (bF w3 gc (Pl.cu xs (k+1))/\OnlyC gc u w3):=⟨NB.out.1.keep hB3,Ac.out.trans (OnlyC.of hB3)⟩
  clear hB3
  go_wp2
  go_ret
  exact⟨aI vE.out.symm,HF.out⟩
 ·obtain⟨j,hjl,hlb⟩:=Yo.out hj
  have wI:Hid (Pl.lb xs x.s=some j):=hlb
  obtain⟨y,hy⟩:∃ y:Pl.Ins,y=Pl.zD x ((Pl.cu xs j).at-(Pl.cu xs k).at):=⟨_,rfl⟩
  have BA:Hid (∀ v:World,Below V.drew.heap.size V.drew v->Calls Tryz.prog 82 #[.pointer (some ⟨ga,0,none⟩),.agg #[.int .i64 x.k,.int .i64 x.op,.int .i64 x.rd,.int .i64 x.r1,.int .i64 x.r2,.int .i64 x.im,.string x.s,.int .i64 x.n],.int .i64 (Pl.cu xs k).at] v fun e w'=>e=.returned (.tuple #[.agg #[.int .i64 y.op,.int .i64 y.rd,.int .i64 y.r1,.int .i64 y.r2,.int .i64 y.im],.bool true])/\Below v.heap.size v w'):=fun v hv=>by
   have hb1:=Om.out j (by omega)
   have hb2:=Om.out k Ab.out
   have:=IA x (Pl.cu xs k).at j (HAK.out v hv) VF.out hj hlb (by omega)
   rw[<- hy]at this
   exact this
  have Oq:Hid (Pl.dQ xs k=((Pl.cu xs j).d || !y.ok)):=by
   show _=_
   rw[Aa.out,hj,hy]
   unfold Pl.gT Pl.rJ
   rw[hlb]
   rfl
  clear hy hj Aa hlb hjl
  cases hd:(Pl.cu xs j).d
  ·have vE:Hid (Pl.dQ xs k=(!y.ok)):=by show _=_;rw[Oq.out,hd];rfl
   go_enter Tryz.func81,Tryz.ntmps81
   go_upto_region 1 with fail
   rw[HV.out]
   refine Yk ga gb gc u.heap.size x y (Pl.cu xs k).at true V Yp.out HR3.out HAD.out BA.out ?_
   intro h5 w1 hB1 Ci r5
   have HB1:Hid (Below V.heap.size V w1):=hB1
   have Cj:Hid (V.heap.size<=h5/\w1.heap[h5]?=some (.cells #[.int .i64 y.op,.int .i64 y.rd,.int .i64 y.r1,.int .i64 y.r2,.int .i64 y.im] 32 (0,0))):=⟨Ci,r5⟩
   have hr3:=(hB1.block u.heap.size (Array.getElem?_eq_some_iff.1 HR3.out).1).trans HR3.out
   have l0:=cell_of_row w1 u.heap.size 0 _ 51 (0,0) hr3
   have l1:=cell_of_row w1 u.heap.size 1 _ 51 (0,0) hr3
   have l2:=cell_of_row w1 u.heap.size 2 _ 51 (0,0) hr3
   have l3:=cell_of_row w1 u.heap.size 3 _ 51 (0,0) hr3
   have l4:=cell_of_row w1 u.heap.size 4 _ 51 (0,0) hr3
   have l5:=cell_of_row w1 u.heap.size 5 _ 51 (0,0) hr3
   have l6:=cell_of_row w1 u.heap.size 6 _ 51 (0,0) hr3
   have l7:=cell_of_row w1 u.heap.size 7 _ 51 (0,0) hr3
   simp only[List.getElem?_toArray,List.getElem?_cons_zero,List.getElem?_cons_succ]at l0 l1 l2 l3 l4 l5 l6 l7
   have KU:Hid _:=Iw.out w1 hB1
   clear hB1 Ci r5 hr3
   go_upto_region 3 with (go_at_call 75;refine Calls.mono KU.out ?_;rintro e w2 ⟨rfl,hc2,ho2⟩; have NB:Hid (bF w2 gc (Pl.cu xs (k+1))/\OnlyC gc w1 w2):=⟨hc2,ho2⟩; clear hc2 ho2 l0 l1 l2 l3 l4 l5 l6 l7)
   have Ac:Hid (OnlyC gc u w2):=Yq.out.trans ((OnlyC.of HB1.out).trans NB.out.2)
   have G1:Hid (w2.cell? ⟨gb,0,none⟩=some (.pointer (some ⟨ga,0,none⟩))/\w2.cell? ⟨ga,2,none⟩=some (.map (some gm))/\w2.cell? ⟨u.heap.size,6,none⟩=some (.string x.s)/\w2.cell? ⟨mb j,1,none⟩=some (.bool (Pl.cu xs j).d)/\(∀ v:World,Below w2.drew.heap.size w2.drew v->(Instr.lookup 67 (.map (some gm)) (.string x.s) false).run Tryz.prog v=.ok (.pointer (some ⟨mb j,0,none⟩)) v)/\w2.heap[h5]?=some (.cells #[.int .i64 y.op,.int .i64 y.rd,.int .i64 y.r1,.int .i64 y.r2,.int .i64 y.im] 32 (0,0))):=by
    have hA2:=ZY.out w2 Ac.out
    refine⟨?_,(kH.am hA2).cell 2,?_,(hA2.mark wI.out).2.1,fun v hv=>?_,?_⟩
    ·exact (World.cell?_of_block (a:=⟨gb,0,none⟩) (Ac.out.block gb (Kk.out.1) (by have:=Kk.out;show gb≠gc;omega))).trans Kk.out.2.2
    ·have hr3:=(HB1.out.block u.heap.size (Array.getElem?_eq_some_iff.1 HR3.out).1).trans HR3.out
     have hr4:=(NB.out.2.block u.heap.size (Array.getElem?_eq_some_iff.1 hr3).1 (by have:=Ri.out;omega)).trans hr3
     exact cell_of_row w2 u.heap.size 6 _ 51 (0,0) hr4
    ·have:=kH.look ((hA2.keep (Below.drew (Below.refl _ _))).keep hv) VF.out
     rw[wI.out]at this
     exact this
    ·exact (NB.out.2.block h5 (Array.getElem?_eq_some_iff.1 Cj.out.2).1 (by have:=Ri.out;have:=Cj.out.1;have:=K8.out;omega)).trans Cj.out.2
   refine Yn ga gb gm u.heap.size h5 (mb j) x.s y y.ok w2 G1.out.1 G1.out.2.1 G1.out.2.2.1 (by rw[G1.out.2.2.2.1,hd]) G1.out.2.2.2.2.1 G1.out.2.2.2.2.2 (fun v=>kM y.op y.rd y.r1 y.r2 y.im v) ?_
   intro w3 hB3
   have HF:Hid (bF w3 gc (Pl.cu xs (k+1))/\OnlyC gc u w3):=⟨NB.out.1.keep hB3,Ac.out.trans (OnlyC.of hB3)⟩
   clear hB3
   go_wp2
   go_ret
   exact⟨aI vE.out.symm,HF.out⟩
  ·have vE:Hid (Pl.dQ xs k=true):=by show _=_;rw[Oq.out,hd];rfl
   go_enter Tryz.func81,Tryz.ntmps81
   go_upto_region 1 with fail
   rw[HV.out]
   refine Yk ga gb gc u.heap.size x y (Pl.cu xs k).at true V Yp.out HR3.out HAD.out BA.out ?_
   intro h5 w1 hB1 Ci r5
   have HB1:Hid (Below V.heap.size V w1):=hB1
   have Cj:Hid (V.heap.size<=h5/\w1.heap[h5]?=some (.cells #[.int .i64 y.op,.int .i64 y.rd,.int .i64 y.r1,.int .i64 y.r2,.int .i64 y.im] 32 (0,0))):=⟨Ci,r5⟩
   have hr3:=(hB1.block u.heap.size (Array.getElem?_eq_some_iff.1 HR3.out).1).trans HR3.out
   have l0:=cell_of_row w1 u.heap.size 0 _ 51 (0,0) hr3
   have l1:=cell_of_row w1 u.heap.size 1 _ 51 (0,0) hr3
   have l2:=cell_of_row w1 u.heap.size 2 _ 51 (0,0) hr3
   have l3:=cell_of_row w1 u.heap.size 3 _ 51 (0,0) hr3
   have l4:=cell_of_row w1 u.heap.size 4 _ 51 (0,0) hr3
   have l5:=cell_of_row w1 u.heap.size 5 _ 51 (0,0) hr3
   have l6:=cell_of_row w1 u.heap.size 6 _ 51 (0,0) hr3
   have l7:=cell_of_row w1 u.heap.size 7 _ 51 (0,0) hr3
   simp only[List.getElem?_toArray,List.getElem?_cons_zero,List.getElem?_cons_succ]at l0 l1 l2 l3 l4 l5 l6 l7
   have KU:Hid _:=Iw.out w1 hB1
   clear hB1 Ci r5 hr3
   go_upto_region 3 with (go_at_call 75;refine Calls.mono KU.out ?_;rintro e w2 ⟨rfl,hc2,ho2⟩; have NB:Hid (bF w2 gc (Pl.cu xs (k+1))/\OnlyC gc w1 w2):=⟨hc2,ho2⟩; clear hc2 ho2 l0 l1 l2 l3 l4 l5 l6 l7)
   have Ac:Hid (OnlyC gc u w2):=Yq.out.trans ((OnlyC.of HB1.out).trans NB.out.2)
   have G1:Hid (w2.cell? ⟨gb,0,none⟩=some (.pointer (some ⟨ga,0,none⟩))/\w2.cell? ⟨ga,2,none⟩=some (.map (some gm))/\w2.cell? ⟨u.heap.size,6,none⟩=some (.string x.s)/\w2.cell? ⟨mb j,1,none⟩=some (.bool (Pl.cu xs j).d)/\(∀ v:World,Below w2.drew.heap.size w2.drew v->(Instr.lookup 67 (.map (some gm)) (.string x.s) false).run Tryz.prog v=.ok (.pointer (some ⟨mb j,0,none⟩)) v)/\w2.heap[h5]?=some (.cells #[.int .i64 y.op,.int .i64 y.rd,.int .i64 y.r1,.int .i64 y.r2,.int .i64 y.im] 32 (0,0))):=by
    have hA2:=ZY.out w2 Ac.out
    refine⟨?_,(kH.am hA2).cell 2,?_,(hA2.mark wI.out).2.1,fun v hv=>?_,?_⟩
    ·exact (World.cell?_of_block (a:=⟨gb,0,none⟩) (Ac.out.block gb (Kk.out.1) (by have:=Kk.out;show gb≠gc;omega))).trans Kk.out.2.2
    ·have hr3:=(HB1.out.block u.heap.size (Array.getElem?_eq_some_iff.1 HR3.out).1).trans HR3.out
     have hr4:=(NB.out.2.block u.heap.size (Array.getElem?_eq_some_iff.1 hr3).1 (by have:=Ri.out;omega)).trans hr3
     exact cell_of_row w2 u.heap.size 6 _ 51 (0,0) hr4
    ·have:=kH.look ((hA2.keep (Below.drew (Below.refl _ _))).keep hv) VF.out
     rw[wI.out]at this
     exact this
    ·exact (NB.out.2.block h5 (Array.getElem?_eq_some_iff.1 Cj.out.2).1 (by have:=Ri.out;have:=Cj.out.1;have:=K8.out;omega)).trans Cj.out.2
   refine Ym ga gb gm u.heap.size h5 (mb j) x.s y true w2 G1.out.1 G1.out.2.1 G1.out.2.2.1 (by rw[G1.out.2.2.2.1,hd]) G1.out.2.2.2.2.1 ?_
   intro w3 hB3
   have HF:Hid (bF w3 gc (Pl.cu xs (k+1))/\OnlyC gc u w3):=⟨NB.out.1.keep hB3,Ac.out.trans (OnlyC.of hB3)⟩
   clear hB3
   go_wp2
   go_ret
   exact⟨aI vE.out.symm,HF.out⟩
variable {lo:Nat} {xs:List Pl.Ln} {w u u':World} {ga gm:Nat} {a:Option Addr} {len cap:Nat} {stack:Int} {B:Nat} {mb:Nat->Nat}
theorem KW (h:sZ lo xs w u ga gm a len cap stack B mb) (hK:∀ i,i<xs.length->nA (Pl.gl xs i)) (hlo:∀ i,i<xs.length->Pl.lost xs i=false):Calls Tryz.prog 35 #[.pointer (some ⟨ga,0,none⟩)] u fun e u'=>e=.returned (.int .i64 (Pl.aV (Pl.dQ xs) len))/\Below u.heap.size u u':=by
 have hL:xs.length=len:=kH.sD h
 have HX:Hid (∀ V,V=(u.alloc (.cells #[.pointer (some ⟨ga,0,none⟩)] 112)).alloc (.cells #[.bool false,.int .i64 0,.int .i64 0] 69)->Calls Tryz.prog 71 #[.slice a len cap,.func (.func 81) #[] #[.pointer (some ⟨u.heap.size,0,none⟩),.pointer (some ⟨u.heap.size+1,0,none⟩)]] V fun e w'=>e=.returned (.int .i64 (Pl.aV (Pl.dQ xs) len))/\Below u.heap.size u w'):=fun V hV=>by
  have yZ:Below u.heap.size u V:=by rw[hV];exact (aB u _).trans ((aB _ _).mono (by simp))
  have Xz:V.heap.size=u.heap.size+2:=by rw[hV];simp
  have r0:V.heap[u.heap.size]?=some (.cells #[.pointer (some ⟨ga,0,none⟩)] 112 (0,0)):=by rw[hV,Below.heap_alloc _ _ _ (by simp)];exact heap_alloc_new u _
  have r1:V.heap[u.heap.size+1]?=some (.cells #[.bool false,.int .i64 0,.int .i64 0] 69 (0,0)):=by rw[hV];exact bL (by simp)
  have hbx:KQ V u.heap.size ga:=⟨cell_of_row _ _ 0 _ _ (0,0) r0⟩
  have hA:=h.keep yZ
  have Yr:Iu xs w ga gm len (u.heap.size+1) mb:=h.beh.up (by omega)
  refine (zW a len cap xs _ _ V (Pl.dQ xs) (fun k v=>bF v (u.heap.size+1) (Pl.cu xs k)/\OnlyC (u.heap.size+1) V v) (fun k v hv=>(kH.am (hA.only hv.2 Yr)).lines) ⟨⟨cell_of_row _ _ 0 _ 69 (0,0) r1,cell_of_row _ _ 1 _ 69 (0,0) r1,cell_of_row _ _ 2 _ 69 (0,0) r1,fun j=>frozen_of_row _ _ j _ 69 r1,by omega,⟨_,r1⟩⟩,OnlyC.refl _ _⟩ (fun k v hk _ hv=>?_)).mono ?_
  ·have K9:=hA.only hv.2 Yr
   obtain⟨_,_,_,_,_,hsz,_⟩:=(kH.am K9).lines.at k hk
   refine (IB k u.heap.size (u.heap.size+1) K9 ⟨(World.cell?_of_block (a:=⟨u.heap.size,0,none⟩) (hv.2.block u.heap.size (by omega) (by omega))).trans hbx.c⟩ (by omega) Yr hv.1 (by omega) hK hlo hsz).mono ?_
   rintro e v' ⟨rfl,h1,h2⟩
   exact⟨rfl,h1,hv.2.trans h2⟩
  ·rintro e w' ⟨rfl,k,_,hI,_⟩
   exact⟨rfl,yZ.trans (hI.2.low (by omega) (by omega))⟩
 have hm0:∀ o1 o2,((u.alloc o1).alloc o2).cell? ⟨ga,0,none⟩=some (.slice a len cap):=fun o1 o2=>(kH.am ((h.keep (aB u o1)).keep (aB _ o2))).cell 0
 clear h hK hlo
 go_enter Tryz.func35,Tryz.ntmps35
 go_wp2_with (go_at_call 71;refine (HX.out _ rfl).mono ?_;rintro e u1 ⟨rfl,d1⟩)
 go_ret
 exact⟨rfl,d1⟩
end Go.Proofs.YtlbomnnldkeocaaGreat.W
