import Derived.Test.YtlbomnnldkeocaaGreatA02
import Derived.BigRegion
import Derived.Test.YtlbomnnldkeocaaGreatA17
import Derived.Test.YtlbomnnldkeocaaGreatA31
import Derived.Test.YtlbomnnldkeocaaGreatA32
set_option linter.unusedVariables false
set_option linter.unusedSimpArgs false
set_option maxHeartbeats 16000000
namespace Go.Proofs.YtlbomnnldkeocaaGreat.W
open Go.RowKit
def InsSaid (x:Pl.Ln) (at' la:Int) (w:World):Prop:=
 Calls Tryz.prog 67 #[.agg #[.int .i64 x.k,.int .i64 x.op,.int .i64 x.rd,.int .i64 x.r1,.int .i64 x.r2,.int .i64 x.im,.string x.s,.int .i64 x.n],.int .i64 at',.int .i64 la] w fun e w'=>∃ a n c,e=.returned (.slice a n c)/\InsRow w.heap.size w' a n (Pl.insA x at' la)/\Below w.heap.size w w'
theorem new_at {W:World} {o:Obj} {b:Nat} (hb:b=W.heap.size):(W.alloc o).heap[b]?=some o:=by rw[hb];exact heap_alloc_new W o
theorem InsRow.mono {lo lo':Nat} {w:World} {a:Option Addr} {n:Nat} {is:List Pl.Ins} (h:InsRow lo w a n is) (hl:lo'<=lo):InsRow lo' w a n is:=by
 obtain⟨h1,h2,h3⟩:=h
 refine⟨h1,h2,?_⟩
 rcases h3 with h3 | ⟨b,ha,hlo,hr⟩
 ·exact .inl h3
 ·exact .inr ⟨b,ha,Nat.le_trans hl hlo,hr⟩
theorem l4Insts_2 (x:Pl.Ln) (at' la:Int) (w:World) (hk:x.k=2):InsSaid x at' la w:=by
 have HP:Hid (Pl.insA x at' la=[⟨x.op,x.rd,x.r1,x.r2,x.im⟩]):=by show Pl.insA x at' la=_;unfold Pl.insA Pl.isJ;simp[hk]
 unfold InsSaid
 rw[hk]
 go_enter Tryz.func67,Tryz.ntmps67
 go_wp2
 go_ret
 refine⟨_,_,_,rfl,?_,(by repeat (first | with_reducible exact Below.refl _ _ | with_reducible refine below_drewN ?_ _ | with_reducible refine Below.setCell ?_ (by simp <;> omega) _ | with_reducible refine Below.alloc ?_ (by simp <;> omega) _))⟩
 rw[HP.out]
 exact InsRow.one _ (by omega) (new_at (by simp))
theorem l4Insts_6 (x:Pl.Ln) (at' la:Int) (w:World) (hk:x.k=6):InsSaid x at' la w:=by
 have HP:Hid (Pl.insA x at' la=[⟨19,x.rd,x.r1,0,0⟩]):=by show Pl.insA x at' la=_;unfold Pl.insA Pl.isJ;simp[hk]
 unfold InsSaid
 rw[hk]
 go_enter Tryz.func67,Tryz.ntmps67
 go_wp2
 go_ret
 refine⟨_,_,_,rfl,?_,(by repeat (first | with_reducible exact Below.refl _ _ | with_reducible refine below_drewN ?_ _ | with_reducible refine Below.setCell ?_ (by simp <;> omega) _ | with_reducible refine Below.alloc ?_ (by simp <;> omega) _))⟩
 rw[HP.out]
 exact InsRow.one _ (by omega) (new_at (by simp))
theorem l4Insts_9 (x:Pl.Ln) (at' la:Int) (w:World) (hk:x.k=9):InsSaid x at' la w:=by
 have HP:Hid (Pl.insA x at' la=[⟨33,0,1,0,0⟩]):=by show Pl.insA x at' la=_;unfold Pl.insA Pl.isJ;simp[hk]
 unfold InsSaid
 rw[hk]
 go_enter Tryz.func67,Tryz.ntmps67
 go_wp2
 go_ret
 refine⟨_,_,_,rfl,?_,(by repeat (first | with_reducible exact Below.refl _ _ | with_reducible refine below_drewN ?_ _ | with_reducible refine Below.setCell ?_ (by simp <;> omega) _ | with_reducible refine Below.alloc ?_ (by simp <;> omega) _))⟩
 rw[HP.out]
 exact InsRow.one _ (by omega) (new_at (by simp))
theorem l4Insts_no (x:Pl.Ln) (at' la:Int) (w:World) (hk:x.k=1\/10<=x.k):InsSaid x at' la w:=by
 have HP:Hid (Pl.insA x at' la=[]):=by show Pl.insA x at' la=_;unfold Pl.insA Pl.isJ;rw[if_neg (by simp;omega),if_neg (by omega),if_neg (by omega),if_neg (by omega),if_neg (by omega),if_neg (by omega)]
 unfold InsSaid
 have q2:(x.k == 2)=false:=by simp;omega
 have q3:(x.k == 3)=false:=by simp;omega
 have q4:(x.k == 4)=false:=by simp;omega
 have q5:(x.k == 5)=false:=by simp;omega
 have q6:(x.k == 6)=false:=by simp;omega
 have q7:(x.k == 7)=false:=by simp;omega
 have q8:(x.k == 8)=false:=by simp;omega
 have q9:(x.k == 9)=false:=by simp;omega
 clear hk
 go_enter Tryz.func67,Tryz.ntmps67
 go_wp2
 go_ret
 refine⟨_,_,_,rfl,?_,(by repeat (first | with_reducible exact Below.refl _ _ | with_reducible refine below_drewN ?_ _ | with_reducible refine Below.setCell ?_ (by simp <;> omega) _ | with_reducible refine Below.alloc ?_ (by simp <;> omega) _))⟩
 rw[HP.out]
 exact⟨rfl,by decide,.inl rfl⟩
theorem l4Insts_3 (x:Pl.Ln) (at' la:Int) (w:World) (hk:x.k=3) (h1:0<=at'/\at'<=1099511627776) (h2:0<=la/\la<=1099511627776):InsSaid x at' la w:=by
 have HP:Hid (Pl.insA x at' la=[⟨x.op,x.rd,x.r1,x.r2,la-at'⟩]):=by show Pl.insA x at' la=_;unfold Pl.insA Pl.isJ Pl.jin;simp[hk]
 unfold InsSaid
 rw[hk]
 go_enter Tryz.func67,Tryz.ntmps67
 go_wp2
 go_ret
 refine⟨_,_,_,rfl,?_,(by repeat (first | with_reducible exact Below.refl _ _ | with_reducible refine below_drewN ?_ _ | with_reducible refine Below.setCell ?_ (by simp <;> omega) _ | with_reducible refine Below.alloc ?_ (by simp <;> omega) _))⟩
 rw[HP.out]
 exact InsRow.one _ (by omega) (new_at (by simp))
theorem l4Insts_7 (x:Pl.Ln) (at' la:Int) (w:World) (hk:x.k=7) (h1:0<=at'/\at'<=1099511627776) (h2:0<=la/\la<=1099511627776):InsSaid x at' la w:=by
 have HP:Hid (Pl.insA x at' la=[⟨45,0,0,0,la-at'⟩]):=by show Pl.insA x at' la=_;unfold Pl.insA Pl.isJ Pl.jin;simp[hk]
 unfold InsSaid
 rw[hk]
 go_enter Tryz.func67,Tryz.ntmps67
 go_wp2
 go_ret
 refine⟨_,_,_,rfl,?_,(by repeat (first | with_reducible exact Below.refl _ _ | with_reducible refine below_drewN ?_ _ | with_reducible refine Below.setCell ?_ (by simp <;> omega) _ | with_reducible refine Below.alloc ?_ (by simp <;> omega) _))⟩
 rw[HP.out]
 exact InsRow.one _ (by omega) (new_at (by simp))
theorem l4Insts_8 (x:Pl.Ln) (at' la:Int) (w:World) (hk:x.k=8) (h1:0<=at'/\at'<=1099511627776) (h2:0<=la/\la<=1099511627776):InsSaid x at' la w:=by
 have HP:Hid (Pl.insA x at' la=[⟨45,1,0,0,la-at'⟩]):=by show Pl.insA x at' la=_;unfold Pl.insA Pl.isJ Pl.jin;simp[hk]
 unfold InsSaid
 rw[hk]
 go_enter Tryz.func67,Tryz.ntmps67
 go_wp2
 go_ret
 refine⟨_,_,_,rfl,?_,(by repeat (first | with_reducible exact Below.refl _ _ | with_reducible refine below_drewN ?_ _ | with_reducible refine Below.setCell ?_ (by simp <;> omega) _ | with_reducible refine Below.alloc ?_ (by simp <;> omega) _))⟩
 rw[HP.out]
 exact InsRow.one _ (by omega) (new_at (by simp))
def Li14Mk (x:Pl.Ln) (at' la z:Int) (h:Nat) (a2:Option Addr) (L:Array Bool):Act:={ tmps:=#[.agg #[.int .i64 5,.int .i64 x.op,.int .i64 x.rd,.int .i64 x.r1,.int .i64 x.r2,.int .i64 x.im,.string x.s,.int .i64 x.n],.int .i64 at',.int .i64 la,.pointer (some ⟨h,0,none⟩),undef,undef,sld (.slice none 0 0) L 8 (.slice a2 2 2),.pointer (some ⟨(h+1),0,none⟩),.pointer (some ⟨h,1,none⟩),.agg #[.int .i64 x.op,.int .i64 x.rd,.int .i64 x.r1,.int .i64 x.r2,.int .i64 x.im],.pointer (some ⟨h,0,none⟩),.int .i64 5,.bool false,.bool false,.pointer (some ⟨h,0,none⟩),.int .i64 5,.bool false,.bool false,undef,undef,undef,undef,.pointer (some ⟨h,0,none⟩),.int .i64 5,.bool false,.bool false,.pointer (some ⟨h,0,none⟩),.int .i64 5,.bool false,.bool false,.bool false,.pointer (some ⟨h,0,none⟩),.int .i64 5,.bool false,.bool false,undef,undef,undef,undef,undef,undef,.pointer (some ⟨h,0,none⟩),.int .i64 5,.bool false,undef,undef,.pointer (some ⟨h,0,none⟩),.int .i64 5,.bool false,undef,undef,undef,undef,undef,undef,.pointer (some ⟨h,0,none⟩),.int .i64 5,.bool false,undef,undef,.pointer (some ⟨h,0,none⟩),.int .i64 5,.bool true,sld undef L 0 (.pointer (some ⟨(h+1),1,none⟩)),sld undef L 1 (.int .i64 x.rd),sld undef L 2 (.int .i64 la),sld undef L 3 (.pointer (some ⟨h,7,none⟩)),sld undef L 4 (.int .i64 x.n),sld undef L 5 (.int .i64 (la+x.n)),sld undef L 6 (.int .i64 z),sld undef L 7 (.slice a2 2 2),undef,undef,undef,undef,undef,undef,undef,undef,undef,undef,undef,undef,undef,undef,undef,undef,undef,undef,undef,undef,undef,undef,undef,undef],defers:=[] }
set_option maxRecDepth 100000 in
theorem l4Insts_5 (x:Pl.Ln) (at' la:Int) (w:World) (hk:x.k=5) (h2:0<=la/\la<=1099511627776) (h3 : -4294967296<=x.n/\x.n<=4294967296):InsSaid x at' la w:=by
 have HP:Hid (Pl.insA x at' la=Pl.pair x.rd (Pl.wd (la+x.n))):=by show Pl.insA x at' la=_;unfold Pl.insA Pl.isJ;simp[hk]
 have HW:Hid (∀ u:World,Calls Tryz.prog 70 #[.int .i64 (la+x.n)] u fun e w'=>e=.returned (.int .i64 (Pl.wd (la+x.n)))/\w'=u):=fun u=>specWord_any _ u
 have HL:Hid (∀ u:World,Calls Tryz.prog 104 #[.int .i64 x.rd,.int .i64 (Pl.wd (la+x.n))] u fun e w'=>∃ a,e=.returned (.slice a 2 2)/\InsRow u.heap.size w' a 2 (Pl.pair x.rd (Pl.wd (la+x.n)))/\Below u.heap.size u w'):=fun u=>l4Pair_is x.rd _ (Pl.wd_bd _) u
 have HT:Hid (∀ zs:List Pl.Ins,Pl.pair x.rd (Pl.wd (la+x.n))=zs->True):=fun _ _=>trivial
 generalize Pl.wd (la+x.n)=z at *
 unfold InsSaid
 rw[hk]
 have hw1:IntKind.i64.wrap (la+x.n)=la+x.n:=by rw[IntKind.wrap_i64];omega
 have hw2:wrap64 (la+x.n)=la+x.n:=by unfold wrap64;omega
 go_enter Tryz.func67,Tryz.ntmps67
 go_upto_region 14 with fail
 have j1:((w.alloc (.cells #[.int .i64 5,.int .i64 x.op,.int .i64 x.rd,.int .i64 x.r1,.int .i64 x.r2,.int .i64 x.im,.string x.s,.int .i64 x.n] 51)).alloc (.cells #[.int .i64 x.op,.int .i64 x.rd,.int .i64 x.r1,.int .i64 x.r2,.int .i64 x.im] 32)).drew.cell? ⟨w.heap.size+1,1,none⟩=some (.int .i64 x.rd):=cell_of_row _ _ 1 _ 32 (0,0) (new_at (by simp))
 have j7:((w.alloc (.cells #[.int .i64 5,.int .i64 x.op,.int .i64 x.rd,.int .i64 x.r1,.int .i64 x.r2,.int .i64 x.im,.string x.s,.int .i64 x.n] 51)).alloc (.cells #[.int .i64 x.op,.int .i64 x.rd,.int .i64 x.r1,.int .i64 x.r2,.int .i64 x.im] 32)).drew.cell? ⟨w.heap.size,7,none⟩=some (.int .i64 x.n):=by
  refine (Below.cell (below_alloc (w.alloc (.cells #[.int .i64 5,.int .i64 x.op,.int .i64 x.rd,.int .i64 x.r1,.int .i64 x.r2,.int .i64 x.im,.string x.s,.int .i64 x.n] 51)) (.cells #[.int .i64 x.op,.int .i64 x.rd,.int .i64 x.r1,.int .i64 x.r2,.int .i64 x.im] 32)) (p:=⟨w.heap.size,7,none⟩) (by simp)).trans ?_
  exact cell_of_row _ _ 7 _ 51 (0,0) (new_at rfl)
 refine wp_region_any (by kernel_rfl) ?_
 change wpAny _ _ _ _ _ _ _ (World.drew _)
 refine wpAny_inw (fun L a u=>∃ a2,a=Li14Mk x at' la z w.heap.size a2 L/\OneW ((w.alloc (.cells #[.int .i64 5,.int .i64 x.op,.int .i64 x.rd,.int .i64 x.r1,.int .i64 x.r2,.int .i64 x.im,.string x.s,.int .i64 x.n] 51)).alloc (.cells #[.int .i64 x.op,.int .i64 x.rd,.int .i64 x.r1,.int .i64 x.r2,.int .i64 x.im] 32)).drew (fun u=>InsRow ((w.alloc (.cells #[.int .i64 5,.int .i64 x.op,.int .i64 x.rd,.int .i64 x.r1,.int .i64 x.r2,.int .i64 x.im,.string x.s,.int .i64 x.n] 51)).alloc (.cells #[.int .i64 x.op,.int .i64 x.rd,.int .i64 x.r1,.int .i64 x.r2,.int .i64 x.im] 32)).drew.heap.size u a2 2 (Pl.pair x.rd z)/\Below ((w.alloc (.cells #[.int .i64 5,.int .i64 x.op,.int .i64 x.rd,.int .i64 x.r1,.int .i64 x.r2,.int .i64 x.im,.string x.s,.int .i64 x.n] 51)).alloc (.cells #[.int .i64 x.op,.int .i64 x.rd,.int .i64 x.r1,.int .i64 x.r2,.int .i64 x.im] 32)).drew.heap.size ((w.alloc (.cells #[.int .i64 5,.int .i64 x.op,.int .i64 x.rd,.int .i64 x.r1,.int .i64 x.r2,.int .i64 x.im,.string x.s,.int .i64 x.n] 51)).alloc (.cells #[.int .i64 x.op,.int .i64 x.rd,.int .i64 x.r1,.int .i64 x.r2,.int .i64 x.im] 32)).drew u) 7 L u) ?done (by kernel_rfl) ?step _ 9 _ _ (by kernel_rfl) ?init (by decide)
 case init=>exact⟨none,by simp only[Li14Mk,sld_no (up_init _ _)],OneW.init⟩
 case step=>
  intro L act w i o hI hlt hs nl hC hd ho K hK
  obtain⟨a2,rfl,hW⟩:=hI
  have hi_lt:i<9:=(Array.getElem?_eq_some_iff.1 ho).1
  rcases (show i=0\/i=1\/i=2\/i=3\/i=4\/i=5\/i=6\/i=7\/i=8 by omega) with rfl | rfl | rfl | rfl | rfl | rfl | rfl | rfl | rfl
  ·change some _=some o at ho
   cases ho
   simp only[Li14Mk]
   go_simp
   exact hK _ _ ⟨a2,by simp only[Li14Mk,sld_set hlt,reduceIte,Nat.reduceEqDiff];try rfl,(hW.keep hlt (by decide))⟩
  ·change some _=some o at ho
   cases ho
   have q0:up L 0=true:=hd { on:=0,ground:=.data } (by simp) rfl
   have n7:up L 7=false:=hC.no nl 7 rfl (by kernel_rfl)
   obtain rfl:=hW.1 n7
   simp only[Li14Mk,sld_yes q0]
   go_simp
   exact hK _ _ ⟨a2,by simp only[Li14Mk,sld_set hlt,sld_yes q0,reduceIte,Nat.reduceEqDiff];try rfl,(hW.keep hlt (by decide))⟩
  ·change some _=some o at ho
   cases ho
   simp only[Li14Mk]
   go_simp
   exact hK _ _ ⟨a2,by simp only[Li14Mk,sld_set hlt,reduceIte,Nat.reduceEqDiff];try rfl,(hW.keep hlt (by decide))⟩
  ·change some _=some o at ho
   cases ho
   simp only[Li14Mk]
   go_simp
   exact hK _ _ ⟨a2,by simp only[Li14Mk,sld_set hlt,reduceIte,Nat.reduceEqDiff];try rfl,(hW.keep hlt (by decide))⟩
  ·change some _=some o at ho
   cases ho
   have q3:up L 3=true:=hd { on:=3,ground:=.data } (by simp) rfl
   have n5:up L 5=false:=hC.no nl 5 rfl (by kernel_rfl)
   have n6:up L 6=false:=hC.no n5 6 rfl (by kernel_rfl)
   have n7:up L 7=false:=hC.no n6 7 rfl (by kernel_rfl)
   obtain rfl:=hW.1 n7
   simp only[Li14Mk,sld_yes q3]
   go_simp
   exact hK _ _ ⟨a2,by simp only[Li14Mk,sld_set hlt,sld_yes q3,reduceIte,Nat.reduceEqDiff];try rfl,(hW.keep hlt (by decide))⟩
  ·change some _=some o at ho
   cases ho
   have q2:up L 2=true:=hd { on:=2,ground:=.data } (by simp) rfl
   have q4:up L 4=true:=hd { on:=4,ground:=.data } (by simp) rfl
   simp only[Li14Mk,sld_yes q2,sld_yes q4]
   go_simp
   exact hK _ _ ⟨a2,by simp only[Li14Mk,sld_set hlt,sld_yes q2,sld_yes q4,reduceIte,Nat.reduceEqDiff];try rfl,(hW.keep hlt (by decide))⟩
  ·change some _=some o at ho
   cases ho
   have q5:up L 5=true:=hd { on:=5,ground:=.data } (by simp) rfl
   have n7:up L 7=false:=hC.no nl 7 rfl (by kernel_rfl)
   obtain rfl:=hW.1 n7
   simp only[Li14Mk,sld_yes q5]
   go_simp
   refine (HW.out _).mono ?_
   rintro e w2 ⟨rfl,rfl⟩
   go_simp
   exact hK _ _ ⟨a2,by simp only[Li14Mk,sld_set hlt,sld_yes q5,reduceIte,Nat.reduceEqDiff];try rfl,(hW.keep hlt (by decide))⟩
  ·change some _=some o at ho
   cases ho
   have q1:up L 1=true:=hd { on:=1,ground:=.data } (by simp) rfl
   have q6:up L 6=true:=hd { on:=6,ground:=.data } (by simp) rfl
   have n8:up L 8=false:=hC.no nl 8 rfl (by kernel_rfl)
   obtain rfl:=hW.1 nl
   simp only[Li14Mk,sld_yes q1,sld_yes q6]
   go_simp
   refine (HL.out _).mono ?_
   rintro e w2 ⟨a3,rfl,hR,hB⟩
   go_simp
   exact hK _ _ ⟨a3,by simp only[Li14Mk,sld_set hlt,sld_yes q1,sld_yes q6,sld_no n8,reduceIte,Nat.reduceEqDiff];try rfl,OneW.first hlt ⟨hR,hB⟩⟩
  ·change some _=some o at ho
   cases ho
   have q7:up L 7=true:=hd { on:=7,ground:=.data } (by simp) rfl
   simp only[Li14Mk,sld_yes q7]
   go_simp
   exact hK _ _ ⟨a2,by simp only[Li14Mk,sld_set hlt,sld_yes q7,reduceIte,Nat.reduceEqDiff];try rfl,(hW.keep hlt (by decide))⟩
 case done=>
  rintro L a u ⟨a2,rfl,hW⟩ hall
  obtain⟨hR,hB⟩:=hW.2 (hall 7 (by decide))
  have H2:Hid (InsRow w.heap.size u a2 2 (Pl.pair x.rd z)/\Below w.heap.size w u):=⟨hR.mono (by simp[World.drew];omega),Below.trans (by repeat (first | with_reducible exact Below.refl _ _ | with_reducible refine Below.drew ?_ | with_reducible refine below_drewN ?_ _ | with_reducible refine Below.setCell ?_ (by simp <;> omega) _ | with_reducible refine Below.alloc ?_ (by simp <;> omega) _)) (hB.mono (by simp[World.drew];omega))⟩
  clear hR hB hW
  simp only[Li14Mk,sld_yes (hall 0 (by decide)),sld_yes (hall 1 (by decide)),sld_yes (hall 2 (by decide)),sld_yes (hall 3 (by decide)),sld_yes (hall 4 (by decide)),sld_yes (hall 5 (by decide)),sld_yes (hall 6 (by decide)),sld_yes (hall 7 (by decide)),sld_yes (hall 8 (by decide))]
  go_wp2
  go_ret
  exact⟨_,_,_,rfl,by rw[HP.out];exact H2.out.1,H2.out.2⟩
def Li16Mk (x:Pl.Ln) (at' la g:Int) (h h2:Nat)  (L:Array Bool):Act:={ tmps:=#[.agg #[.int .i64 4,.int .i64 x.op,.int .i64 x.rd,.int .i64 x.r1,.int .i64 x.r2,.int .i64 x.im,.string x.s,.int .i64 x.n],.int .i64 at',.int .i64 la,.pointer (some ⟨h,0,none⟩),undef,undef,sld (.slice none 0 0) L 7 (.slice (some ⟨h2,0,none⟩) 1 1),.pointer (some ⟨(h+1),0,none⟩),.pointer (some ⟨h,1,none⟩),.agg #[.int .i64 x.op,.int .i64 x.rd,.int .i64 x.r1,.int .i64 x.r2,.int .i64 x.im],.pointer (some ⟨h,0,none⟩),.int .i64 4,.bool false,.bool false,.pointer (some ⟨h,0,none⟩),.int .i64 4,.bool false,.bool false,undef,undef,undef,undef,.pointer (some ⟨h,0,none⟩),.int .i64 4,.bool false,.bool false,.pointer (some ⟨h,0,none⟩),.int .i64 4,.bool false,.bool false,.bool false,.pointer (some ⟨h,0,none⟩),.int .i64 4,.bool false,.bool false,undef,undef,undef,undef,undef,undef,.pointer (some ⟨h,0,none⟩),.int .i64 4,.bool false,undef,undef,.pointer (some ⟨h,0,none⟩),.int .i64 4,.bool false,undef,undef,undef,undef,undef,undef,.pointer (some ⟨h,0,none⟩),.int .i64 4,.bool false,undef,undef,.pointer (some ⟨h,0,none⟩),.int .i64 4,.bool false,undef,undef,undef,undef,undef,undef,undef,undef,.pointer (some ⟨h,0,none⟩),.int .i64 4,.bool true,.bool true,.agg #[.int .i64 4,.int .i64 x.op,.int .i64 x.rd,.int .i64 x.r1,.int .i64 x.r2,.int .i64 x.im,.string x.s,.int .i64 x.n],.int .i64 1,.bool true,.bool true,sld undef L 0 (.pointer (some ⟨(h+1),1,none⟩)),sld undef L 1 (.int .i64 x.rd),sld undef L 2 (.pointer (some ⟨h,7,none⟩)),sld undef L 3 (.int .i64 x.n),sld undef L 4 (.int .i64 g),sld undef L 5 (.agg #[.int .i64 19,.int .i64 x.rd,.int .i64 0,.int .i64 0,.int .i64 g]),sld undef L 6 (.slice (some ⟨h2,0,none⟩) 1 1),undef,undef,undef,undef,undef,undef,undef,undef,undef],defers:=[] }
theorem l4Insts_4n (x:Pl.Ln) (at' la:Int) (w:World) (hk:x.k=4) (hs:Pl.shr x.n=false) (h3:0<=x.n/\x.n<=4294967295):InsSaid x at' la w:=by
 have HP:Hid (Pl.insA x at' la=Pl.pair x.rd x.n):=by show Pl.insA x at' la=_;unfold Pl.insA Pl.isJ;simp[hk,hs]
 have hwd:Pl.wds x=2:=by unfold Pl.wds;rw[if_pos (.inr ⟨hk,hs⟩)]
 have HL:Hid (∀ u:World,Calls Tryz.prog 104 #[.int .i64 x.rd,.int .i64 x.n] u fun e w'=>∃ a,e=.returned (.slice a 2 2)/\InsRow u.heap.size w' a 2 (Pl.pair x.rd x.n)/\Below u.heap.size u w'):=fun u=>l4Pair_is x.rd _ h3 u
 have HD:Hid (∀ u:World,Calls Tryz.prog 65 #[.agg #[.int .i64 4,.int .i64 x.op,.int .i64 x.rd,.int .i64 x.r1,.int .i64 x.r2,.int .i64 x.im,.string x.s,.int .i64 x.n]] u fun e w'=>e=.returned (.int .i64 (Pl.wds x))/\Below u.heap.size u w'):=fun u=>by have:=l4Words_is x u;rw[hk]at this;exact this
 have HK:Hid (∀ v2:World,Below ((w.alloc (.cells #[.int .i64 4,.int .i64 x.op,.int .i64 x.rd,.int .i64 x.r1,.int .i64 x.r2,.int .i64 x.im,.string x.s,.int .i64 x.n] 51)).alloc (.cells #[.int .i64 x.op,.int .i64 x.rd,.int .i64 x.r1,.int .i64 x.r2,.int .i64 x.im] 32)).heap.size ((w.alloc (.cells #[.int .i64 4,.int .i64 x.op,.int .i64 x.rd,.int .i64 x.r1,.int .i64 x.r2,.int .i64 x.im,.string x.s,.int .i64 x.n] 51)).alloc (.cells #[.int .i64 x.op,.int .i64 x.rd,.int .i64 x.r1,.int .i64 x.r2,.int .i64 x.im] 32)) v2->v2.cell? ⟨w.heap.size+1,1,none⟩=some (.int .i64 x.rd)/\v2.cell? ⟨w.heap.size,7,none⟩=some (.int .i64 x.n)/\v2.cell? ⟨w.heap.size,0,none⟩=some (.int .i64 4)/\Below w.heap.size w v2/\w.heap.size<=v2.heap.size):=fun v2 hb=>by
  have hsz:=hb.size
  refine⟨(hb.cell (p:=⟨w.heap.size+1,1,none⟩) (by simp)).trans ?_,(hb.cell (p:=⟨w.heap.size,7,none⟩) (by simp <;> omega)).trans ?_,(hb.cell (p:=⟨w.heap.size,0,none⟩) (by simp <;> omega)).trans ?_,Below.trans (by repeat (first | with_reducible exact Below.refl _ _ | with_reducible refine below_drewN ?_ _ | with_reducible refine Below.setCell ?_ (by simp <;> omega) _ | with_reducible refine Below.alloc ?_ (by simp <;> omega) _)) (hb.mono (by simp;omega)),by simp at hsz;omega⟩
  ·exact cell_of_row _ _ 1 _ 32 (0,0) (new_at (by simp))
  ·refine (Below.cell (below_alloc (w.alloc (.cells #[.int .i64 4,.int .i64 x.op,.int .i64 x.rd,.int .i64 x.r1,.int .i64 x.r2,.int .i64 x.im,.string x.s,.int .i64 x.n] 51)) (.cells #[.int .i64 x.op,.int .i64 x.rd,.int .i64 x.r1,.int .i64 x.r2,.int .i64 x.im] 32)) (p:=⟨w.heap.size,7,none⟩) (by simp)).trans ?_
   exact cell_of_row _ _ 7 _ 51 (0,0) (new_at rfl)
  ·refine (Below.cell (below_alloc (w.alloc (.cells #[.int .i64 4,.int .i64 x.op,.int .i64 x.rd,.int .i64 x.r1,.int .i64 x.r2,.int .i64 x.im,.string x.s,.int .i64 x.n] 51)) (.cells #[.int .i64 x.op,.int .i64 x.rd,.int .i64 x.r1,.int .i64 x.r2,.int .i64 x.im] 32)) (p:=⟨w.heap.size,0,none⟩) (by simp)).trans ?_
   exact cell_of_row _ _ 0 _ 51 (0,0) (new_at rfl)
 rw[hwd]at HD
 unfold InsSaid
 rw[hk]
 go_enter Tryz.func67,Tryz.ntmps67
 go_wp2_with (first | (go_at_call 65;refine (HD.out _).mono ?_;rintro e u1 ⟨rfl,d1⟩; obtain⟨k1,k7,k0,kb,ks⟩:=HK.out u1 d1;have KB:Hid (Below w.heap.size w u1):=kb;clear kb d1) | (go_at_call 104;refine (HL.out _).mono ?_;rintro e u2 ⟨a2,rfl,hR,hB⟩))
 go_ret
 exact⟨_,_,_,rfl,by rw[HP.out];exact hR.mono (by first | exact ks | omega),KB.out.trans (hB.mono (by first | exact ks | omega))⟩
set_option maxRecDepth 100000 in
theorem l4Insts_4y (x:Pl.Ln) (at' la:Int) (w:World) (hk:x.k=4) (hs:Pl.shr x.n=true):InsSaid x at' la w:=by
 have HP:Hid (Pl.insA x at' la=[⟨19,x.rd,0,0,Pl.sg x.n⟩]):=by show Pl.insA x at' la=_;unfold Pl.insA Pl.isJ;simp[hk,hs]
 have hwd:Pl.wds x=1:=by unfold Pl.wds;rw[if_neg (by simp[hs];omega),if_pos (by omega)]
 have HS:Hid (∀ u:World,Calls Tryz.prog 102 #[.int .i64 x.n] u fun e w'=>e=.returned (.int .i64 (Pl.sg x.n))/\w'=u):=fun u=>specSigned_any x.n u
 have HD:Hid (∀ u:World,Calls Tryz.prog 65 #[.agg #[.int .i64 4,.int .i64 x.op,.int .i64 x.rd,.int .i64 x.r1,.int .i64 x.r2,.int .i64 x.im,.string x.s,.int .i64 x.n]] u fun e w'=>e=.returned (.int .i64 (Pl.wds x))/\Below u.heap.size u w'):=fun u=>by have:=l4Words_is x u;rw[hk]at this;exact this
 have HK:Hid (∀ v2:World,Below ((w.alloc (.cells #[.int .i64 4,.int .i64 x.op,.int .i64 x.rd,.int .i64 x.r1,.int .i64 x.r2,.int .i64 x.im,.string x.s,.int .i64 x.n] 51)).alloc (.cells #[.int .i64 x.op,.int .i64 x.rd,.int .i64 x.r1,.int .i64 x.r2,.int .i64 x.im] 32)).heap.size ((w.alloc (.cells #[.int .i64 4,.int .i64 x.op,.int .i64 x.rd,.int .i64 x.r1,.int .i64 x.r2,.int .i64 x.im,.string x.s,.int .i64 x.n] 51)).alloc (.cells #[.int .i64 x.op,.int .i64 x.rd,.int .i64 x.r1,.int .i64 x.r2,.int .i64 x.im] 32)) v2->v2.cell? ⟨w.heap.size+1,1,none⟩=some (.int .i64 x.rd)/\v2.cell? ⟨w.heap.size,7,none⟩=some (.int .i64 x.n)/\v2.cell? ⟨w.heap.size,0,none⟩=some (.int .i64 4)/\Below w.heap.size w v2/\w.heap.size<=v2.heap.size):=fun v2 hb=>by
  have hsz:=hb.size
  refine⟨(hb.cell (p:=⟨w.heap.size+1,1,none⟩) (by simp)).trans ?_,(hb.cell (p:=⟨w.heap.size,7,none⟩) (by simp <;> omega)).trans ?_,(hb.cell (p:=⟨w.heap.size,0,none⟩) (by simp <;> omega)).trans ?_,Below.trans (by repeat (first | with_reducible exact Below.refl _ _ | with_reducible refine below_drewN ?_ _ | with_reducible refine Below.setCell ?_ (by simp <;> omega) _ | with_reducible refine Below.alloc ?_ (by simp <;> omega) _)) (hb.mono (by simp;omega)),by simp at hsz;omega⟩
  ·exact cell_of_row _ _ 1 _ 32 (0,0) (new_at (by simp))
  ·refine (Below.cell (below_alloc (w.alloc (.cells #[.int .i64 4,.int .i64 x.op,.int .i64 x.rd,.int .i64 x.r1,.int .i64 x.r2,.int .i64 x.im,.string x.s,.int .i64 x.n] 51)) (.cells #[.int .i64 x.op,.int .i64 x.rd,.int .i64 x.r1,.int .i64 x.r2,.int .i64 x.im] 32)) (p:=⟨w.heap.size,7,none⟩) (by simp)).trans ?_
   exact cell_of_row _ _ 7 _ 51 (0,0) (new_at rfl)
  ·refine (Below.cell (below_alloc (w.alloc (.cells #[.int .i64 4,.int .i64 x.op,.int .i64 x.rd,.int .i64 x.r1,.int .i64 x.r2,.int .i64 x.im,.string x.s,.int .i64 x.n] 51)) (.cells #[.int .i64 x.op,.int .i64 x.rd,.int .i64 x.r1,.int .i64 x.r2,.int .i64 x.im] 32)) (p:=⟨w.heap.size,0,none⟩) (by simp)).trans ?_
   exact cell_of_row _ _ 0 _ 51 (0,0) (new_at rfl)
 rw[hwd]at HD
 generalize Pl.sg x.n=g at *
 unfold InsSaid
 rw[hk]
 go_enter Tryz.func67,Tryz.ntmps67
 go_upto_region 16 with (go_at_call 65;refine (HD.out _).mono ?_;rintro e u1 ⟨rfl,d1⟩; obtain⟨k1,k7,k0,kb,ks⟩:=HK.out u1 d1;have KB:Hid (Below w.heap.size w u1):=kb;clear kb d1)
 refine wp_region_any (by kernel_rfl) ?_
 change wpAny _ _ _ _ _ _ _ (World.drew _)
 have j1:u1.drew.cell? ⟨w.heap.size+1,1,none⟩=some (.int .i64 x.rd):=k1
 have j7:u1.drew.cell? ⟨w.heap.size,7,none⟩=some (.int .i64 x.n):=k7
 refine wpAny_inw (fun L a u=>a=Li16Mk x at' la g w.heap.size u1.heap.size L/\OneW u1.drew (fun u=>u=u1.drew.alloc (.cells #[.int .i64 19,.int .i64 x.rd,.int .i64 0,.int .i64 0,.int .i64 g] 32)) 6 L u) ?done (by kernel_rfl) ?step _ 8 _ _ (by kernel_rfl) ?init (by decide)
 case init=>exact⟨by simp only[Li16Mk,sld_no (up_init _ _)],OneW.init⟩
 case step=>
  intro L act w i o hI hlt hs nl hC hd ho K hK
  obtain⟨rfl,hW⟩:=hI
  have hi_lt:i<8:=(Array.getElem?_eq_some_iff.1 ho).1
  rcases (show i=0\/i=1\/i=2\/i=3\/i=4\/i=5\/i=6\/i=7 by omega) with rfl | rfl | rfl | rfl | rfl | rfl | rfl | rfl
  ·change some _=some o at ho
   cases ho
   simp only[Li16Mk]
   go_simp
   exact hK _ _ ⟨by simp only[Li16Mk,sld_set hlt,reduceIte,Nat.reduceEqDiff];try rfl,(hW.keep hlt (by decide))⟩
  ·change some _=some o at ho
   cases ho
   have q0:up L 0=true:=hd { on:=0,ground:=.data } (by simp) rfl
   have n5:up L 5=false:=hC.no nl 5 rfl (by kernel_rfl)
   have n6:up L 6=false:=hC.no n5 6 rfl (by kernel_rfl)
   obtain rfl:=hW.1 n6
   simp only[Li16Mk,sld_yes q0]
   go_simp
   exact hK _ _ ⟨by simp only[Li16Mk,sld_set hlt,sld_yes q0,reduceIte,Nat.reduceEqDiff];try rfl,(hW.keep hlt (by decide))⟩
  ·change some _=some o at ho
   cases ho
   simp only[Li16Mk]
   go_simp
   exact hK _ _ ⟨by simp only[Li16Mk,sld_set hlt,reduceIte,Nat.reduceEqDiff];try rfl,(hW.keep hlt (by decide))⟩
  ·change some _=some o at ho
   cases ho
   have q2:up L 2=true:=hd { on:=2,ground:=.data } (by simp) rfl
   have n4:up L 4=false:=hC.no nl 4 rfl (by kernel_rfl)
   have n5:up L 5=false:=hC.no n4 5 rfl (by kernel_rfl)
   have n6:up L 6=false:=hC.no n5 6 rfl (by kernel_rfl)
   obtain rfl:=hW.1 n6
   simp only[Li16Mk,sld_yes q2]
   go_simp
   exact hK _ _ ⟨by simp only[Li16Mk,sld_set hlt,sld_yes q2,reduceIte,Nat.reduceEqDiff];try rfl,(hW.keep hlt (by decide))⟩
  ·change some _=some o at ho
   cases ho
   have q3:up L 3=true:=hd { on:=3,ground:=.data } (by simp) rfl
   have n5:up L 5=false:=hC.no nl 5 rfl (by kernel_rfl)
   have n6:up L 6=false:=hC.no n5 6 rfl (by kernel_rfl)
   obtain rfl:=hW.1 n6
   simp only[Li16Mk,sld_yes q3]
   go_simp
   refine (HS.out _).mono ?_
   rintro e w2 ⟨rfl,rfl⟩
   go_simp
   exact hK _ _ ⟨by simp only[Li16Mk,sld_set hlt,sld_yes q3,reduceIte,Nat.reduceEqDiff];try rfl,(hW.keep hlt (by decide))⟩
  ·change some _=some o at ho
   cases ho
   have q1:up L 1=true:=hd { on:=1,ground:=.data } (by simp) rfl
   have q4:up L 4=true:=hd { on:=4,ground:=.data } (by simp) rfl
   simp only[Li16Mk,sld_yes q1,sld_yes q4]
   go_simp
   exact hK _ _ ⟨by simp only[Li16Mk,sld_set hlt,sld_yes q1,sld_yes q4,reduceIte,Nat.reduceEqDiff];try rfl,(hW.keep hlt (by decide))⟩
  ·change some _=some o at ho
   cases ho
   have q5:up L 5=true:=hd { on:=5,ground:=.data } (by simp) rfl
   obtain rfl:=hW.1 nl
   simp only[Li16Mk,sld_yes q5]
   go_simp
   exact hK _ _ ⟨by simp only[Li16Mk,sld_set hlt,sld_yes q5,reduceIte,Nat.reduceEqDiff];try rfl,OneW.first hlt rfl⟩
  ·change some _=some o at ho
   cases ho
   have q6:up L 6=true:=hd { on:=6,ground:=.data } (by simp) rfl
   simp only[Li16Mk,sld_yes q6]
   go_simp
   exact hK _ _ ⟨by simp only[Li16Mk,sld_set hlt,sld_yes q6,reduceIte,Nat.reduceEqDiff];try rfl,(hW.keep hlt (by decide))⟩
 case done=>
  rintro L a u ⟨rfl,hW⟩ hall
  obtain rfl:=hW.2 (hall 6 (by decide))
  clear hW
  simp only[Li16Mk,sld_yes (hall 0 (by decide)),sld_yes (hall 1 (by decide)),sld_yes (hall 2 (by decide)),sld_yes (hall 3 (by decide)),sld_yes (hall 4 (by decide)),sld_yes (hall 5 (by decide)),sld_yes (hall 6 (by decide)),sld_yes (hall 7 (by decide))]
  go_wp2
  go_ret
  exact⟨_,_,_,rfl,by rw[HP.out];exact InsRow.one _ ks (new_at rfl),(Below.drew KB.out).alloc ks _⟩
theorem l4Insts_is (x:Pl.Ln) (at' la:Int) (w:World) (hk:1<=x.k/\x.k<=16) (h1:0<=at'/\at'<=1099511627776) (h2:0<=la/\la<=1099511627776) (h4:x.k=4->0<=x.n/\x.n<=4294967295) (h5:x.k=5->-4294967296<=x.n/\x.n<=4294967296):InsSaid x at' la w:=by
 rcases (show x.k=1\/x.k=2\/x.k=3\/x.k=4\/x.k=5\/x.k=6\/x.k=7\/x.k=8\/x.k=9\/10<=x.k by omega) with q | q | q | q | q | q | q | q | q | q
 ·exact l4Insts_no x at' la w (.inl q)
 ·exact l4Insts_2 x at' la w q
 ·exact l4Insts_3 x at' la w q h1 h2
 ·cases hs:Pl.shr x.n
  ·exact l4Insts_4n x at' la w q hs (h4 q)
  ·exact l4Insts_4y x at' la w q hs
 ·exact l4Insts_5 x at' la w q h2 (h5 q)
 ·exact l4Insts_6 x at' la w q
 ·exact l4Insts_7 x at' la w q h1 h2
 ·exact l4Insts_8 x at' la w q h1 h2
 ·exact l4Insts_9 x at' la w q
 ·exact l4Insts_no x at' la w (.inr q)
end Go.Proofs.YtlbomnnldkeocaaGreat.W
namespace Go.Proofs.YtlbomnnldkeocaaGreat.Pl
def ics (l:List Int):List Value:=l.map (Value.int .i64)
theorem ics_app (l m:List Int):ics (l ++ m)=ics l ++ ics m:=by simp[ics]
end Go.Proofs.YtlbomnnldkeocaaGreat.Pl
namespace Go.Proofs.YtlbomnnldkeocaaGreat.W
open Go.RowKit
def ThrW (U0:World) (A B C:World->Prop) (i j k:Nat) (w1 w2:World) (L:Array Bool) (w:World):Prop:=
 (up L i=false->w=U0)/\(up L i=true->A w1/\(up L j=false->w=w1)/\(up L j=true->B w2/\(up L k=false->w=w2)/\(up L k=true->C w)))
section
variable {U0:World} {A B C:World->Prop} {i j k:Nat} {w1 w2:World} {L:Array Bool} {w:World}
theorem ThrW.keep (h:ThrW U0 A B C i j k w1 w2 L w) {m:Nat} (hm:m<L.size) (n1:m≠i) (n2:m≠j) (n3:m≠k):ThrW U0 A B C i j k w1 w2 (L.setIfInBounds m true) w:=by
 unfold ThrW at h ⊢
 rw[up_set hm,up_set hm,up_set hm,if_neg n1,if_neg n2,if_neg n3]
 exact h
theorem ThrW.cell (h:ThrW U0 A B C i j k w1 w2 L w) (n:up L j=false) {a:Addr} {y:Value} (hc:U0.cell? a=some y) (hA:A w1->w1.cell? a=some y):w.cell? a=some y:=by
 cases q:up L i
 ·rw[h.1 q];exact hc
 ·obtain⟨h1,h2,_⟩:=h.2 q
  rw[h2 n];exact hA h1
theorem ThrW.init {n:Nat}:ThrW U0 A B C i j k w1 w2 (Array.replicate n false) U0:=
 ⟨fun _=>rfl,fun q=>absurd (q.symm.trans (up_init _ _)) (by decide)⟩
theorem ThrW.first (hi:i<L.size) (hij:i≠j) (nj:up L j=false) (hA:A w1):ThrW U0 A B C i j k w1 w2 (L.setIfInBounds i true) w1:=
 ⟨fun q=>absurd (q.symm.trans ((up_set hi _).trans (if_pos rfl))) (by decide),fun _=>⟨hA,fun _=>rfl,fun q=>absurd (q.symm.trans ((up_set hi _).trans ((if_neg hij).trans nj))) (by decide)⟩⟩
theorem ThrW.second {B' C':World->Prop} {w2':World} (h:ThrW U0 A B' C' i j k w1 w2' L w) (hj:j<L.size) (hjk:j≠k) (nk:up L k=false) (qi:up L i=true) (hB:B w2):ThrW U0 A B C i j k w1 w2 (L.setIfInBounds j true) w2:=by
 have qi':=up_mono (i:=j) hj qi
 exact⟨fun q=>absurd (q.symm.trans qi') (by decide),fun _=>⟨(h.2 qi).1,fun q=>absurd (q.symm.trans ((up_set hj _).trans (if_pos rfl))) (by decide),fun _=>⟨hB,fun _=>rfl,fun q=>absurd (q.symm.trans ((up_set hj _).trans ((if_neg hjk).trans nk))) (by decide)⟩⟩⟩
theorem ThrW.third {w':World} (h:ThrW U0 A B C i j k w1 w2 L w) (hk:k<L.size) (qi:up L i=true) (qj:up L j=true) (hC:C w'):ThrW U0 A B C i j k w1 w2 (L.setIfInBounds k true) w':=by
 have qi':=up_mono (i:=k) hk qi
 have qj':=up_mono (i:=k) hk qj
 exact⟨fun q=>absurd (q.symm.trans qi') (by decide),fun _=>⟨(h.2 qi).1,fun q=>absurd (q.symm.trans qj') (by decide),fun _=>⟨((h.2 qi).2.2 qj).1,fun q=>absurd (q.symm.trans ((up_set hk _).trans (if_pos rfl))) (by decide),fun _=>hC⟩⟩⟩
end
theorem owns_setT {u:World} {B:Nat} {e t:TypeId} {s n:Nat} {v:Value} {ys:List Value} {g j:Nat} {x:Value} {cur:Array Value} {f:Nat × Nat} (h:u.ownsRow B e s v n ys) (hg:u.heap[g]?=some (.cells cur t f)) (ht:t≠e):(u.setCell ⟨g,j,none⟩ x).ownsRow B e s v n ys:=
 h.kept (OnlyC.set g j u x).grown (by
  rcases h.2 with ⟨rfl,_⟩ | ⟨g',cap,cur',rfl,_,hg',_⟩
  ·exact .inl rfl
  ·right
   intro c
   have:g'=g:=by simpa [Value.ownBlock] using c
   subst this
   rw[hg]at hg'
   injection hg' with q
   injection q with _ q2 _
   exact ht q2)
structure FilS (w0 u:World) (g:Nat) (vc vd:Value) (cs ds:List Int):Prop where
 row:u.heap[g]?=some (.cells #[vc,vd,.int .i64 0,.int .i64 0] 28 (0,0))
 oc:u.ownsRow w0.heap.size 3 1 vc cs.length (Pl.ics cs)
 od:u.ownsRow w0.heap.size 5 1 vd ds.length (Pl.bcs ds)
 bel:Below w0.heap.size w0 u
 hg:w0.heap.size<=g
variable {w0 u u':World} {g:Nat} {vc vd:Value} {cs ds:List Int}
theorem FilS.lt (h:FilS w0 u g vc vd cs ds):g<u.heap.size:=(Array.getElem?_eq_some_iff.1 h.row).1
theorem FilS.size (h:FilS w0 u g vc vd cs ds):w0.heap.size<=u.heap.size:=h.bel.size
theorem FilS.c0 (h:FilS w0 u g vc vd cs ds):u.cell? ⟨g,0,none⟩=some vc:=cell_of_row _ _ 0 _ 28 (0,0) h.row
theorem FilS.c1 (h:FilS w0 u g vc vd cs ds):u.cell? ⟨g,1,none⟩=some vd:=cell_of_row _ _ 1 _ 28 (0,0) h.row
theorem FilS.c2 (h:FilS w0 u g vc vd cs ds):u.cell? ⟨g,2,none⟩=some (.int .i64 0):=cell_of_row _ _ 2 _ 28 (0,0) h.row
theorem FilS.c3 (h:FilS w0 u g vc vd cs ds):u.cell? ⟨g,3,none⟩=some (.int .i64 0):=cell_of_row _ _ 3 _ 28 (0,0) h.row
theorem FilS.fz (h:FilS w0 u g vc vd cs ds) (j:Nat):u.frozen? ⟨g,j,none⟩=false:=frozen_of_row _ _ j _ 28 h.row
theorem FilS.keep (h:FilS w0 u g vc vd cs ds) (hb:Below u.heap.size u u'):FilS w0 u' g vc vd cs ds:=
 ⟨(hb.block g h.lt).trans h.row,owns_keep h.oc hb,owns_keep h.od hb,h.bel.trans (hb.mono h.size),h.hg⟩
theorem FilS.appC (h:FilS w0 u g vc vd cs ds) {v':Value} {cs':List Int} (ho:u'.ownsRow w0.heap.size 3 1 v' cs'.length (Pl.ics cs')) (hy:ByF 3 u u') (hb:Below w0.heap.size u u'):FilS w0 (u'.setCell ⟨g,0,none⟩ v') g v' vd cs' ds:=by
 have hr:=hy.block g _ h.row (fun c q=>by injection q with _ q2 _;exact absurd q2 (by decide))
 exact⟨heap_setCell_same _ _ _ _ _ _ hr,owns_setT ho hr (by decide),owns_setT (hy.owns (by decide) h.od) hr (by decide),(h.bel.trans hb).setCell (p:=⟨g,0,none⟩) h.hg _,h.hg⟩
theorem FilS.appD (h:FilS w0 u g vc vd cs ds) {v':Value} {ds':List Int} (ho:u'.ownsRow w0.heap.size 5 1 v' ds'.length (Pl.bcs ds')) (hy:ByF 5 u u') (hb:Below w0.heap.size u u'):FilS w0 (u'.setCell ⟨g,1,none⟩ v') g vc v' cs ds':=by
 have hr:=hy.block g _ h.row (fun c q=>by injection q with _ q2 _;exact absurd q2 (by decide))
 exact⟨heap_setCell_same _ _ _ _ _ _ hr,owns_setT (hy.owns (by decide) h.oc) hr (by decide),owns_setT ho hr (by decide),(h.bel.trans hb).setCell (p:=⟨g,1,none⟩) h.hg _,h.hg⟩
structure FilE (lo:Nat) (xs:List Pl.Ln) (w:World) (F R:Nat) (a:Option Addr) (len cap:Nat) (la:Option Addr) (ll lc:Nat) (aa:Option Addr) (ac:Nat):Prop where
 ln:LRow lo w a len cap xs
 lb:LbRow w la ll lc xs (Pl.lbs xs xs.length)
 at_:AtRow w aa len ac xs
 f0:w.cell? ⟨F,0,none⟩=some (.slice la ll lc)
 f1:w.cell? ⟨F,1,none⟩=some (.slice aa len ac)
 r:w.heap[R]?=some (.cells #[.slice none 0 0,.slice none 0 0,.int .i64 0,.int .i64 0] 28 (0,0))
variable {lo:Nat} {xs:List Pl.Ln} {w:World} {F R:Nat} {a:Option Addr} {len cap:Nat} {la:Option Addr} {ll lc:Nat} {aa:Option Addr} {ac:Nat}
theorem FilE.keep (h:FilE lo xs w F R a len cap la ll lc aa ac) (hb:Below w.heap.size w u):FilE lo xs u F R a len cap la ll lc aa ac:=
 ⟨h.ln.keep hb,h.lb.keep hb,h.at_.keep hb,below_cell hb h.f0,below_cell hb h.f1,(hb.block R (Array.getElem?_eq_some_iff.1 h.r).1).trans h.r⟩
theorem FilE.sym (h:FilE lo xs w F R a len cap la ll lc aa ac) {s:ByteArray} (hl:Pl.lb xs s≠none):∃ p b off:Nat,la=some ⟨b,off,none⟩/\p<ll/\Pl.whr xs (Pl.lbs xs xs.length) s=(p:Nat)/\w.cell? ⟨b,off+p*4+2,none⟩=some (.int .i64 (Pl.adr xs s))/\w.cell? ⟨b,off+p*4+3,none⟩=some (.bool (!Pl.inD xs s))/\b<w.heap.size:=by
 rcases Pl.whr_lb xs s with ⟨_,h2⟩ | ⟨p,hp,h1,h2⟩
 ·exact absurd h2 hl
 ·obtain⟨e1,e2,e3,e4⟩:=h.lb
  rw[e1]at hp
  obtain⟨b,off,rfl,hb,hc⟩:=e4.resolve_left (by omega)
  obtain⟨d0,d1,d2,d3⟩:=hc p hp
  refine⟨p,b,off,rfl,hp,h1,?_,?_,hb⟩
  ·unfold Pl.adr;rw[h2];exact d2
  ·unfold Pl.inD;rw[h2];exact d3
theorem FilE.ats (h:FilE lo xs w F R a len cap la ll lc aa ac) {k:Nat} (hk:k<len):∃ b off,aa=some ⟨b,off,none⟩/\b<w.heap.size/\w.cell? ⟨b,off+k,none⟩=some (.int .i64 (Pl.cu xs k).at):=by
 obtain⟨_,_,h3⟩:=h.at_
 obtain⟨b,off,rfl,hb,hc⟩:=h3.resolve_left (by omega)
 exact⟨b,off,rfl,hb,hc k hk⟩
theorem lb_empty (h:∀ i,i<xs.length->LnK (Pl.gl xs i)):Pl.lb xs ⟨#[]⟩=none:=by
 rw[Pl.lb_none]
 intro j hj h1 h2
 have:=(h j hj).sym (.inl h1)
 rw[h2]at this
 exact this rfl
theorem adr_empty (h:∀ i,i<xs.length->LnK (Pl.gl xs i)):Pl.adr xs ⟨#[]⟩=0/\Pl.inD xs ⟨#[]⟩=false:=by
 unfold Pl.adr Pl.inD;rw[lb_empty h];exact⟨rfl,rfl⟩
theorem adr_bd (h:∀ i,i<xs.length->LnK (Pl.gl xs i)) (hn:xs.length<=20000) (s:ByteArray):0<=Pl.adr xs s/\Pl.adr xs s<=1311768576:=by
 unfold Pl.adr
 split
 ·rename_i j hj
  have hjl:=(Pl.lb_some.1 hj).1
  have hb:=Pl.cu_bd xs (fun i hi=>(h i hi).b) j (by omega)
  unfold Pl.Cur.at;split <;> omega
 ·omega
theorem at_bd (h:∀ i,i<xs.length->LnK (Pl.gl xs i)) (hn:xs.length<=20000) {k:Nat} (hk:k<=xs.length):0<=(Pl.cu xs k).at/\(Pl.cu xs k).at<=1311768576:=by
 have hb:=Pl.cu_bd xs (fun i hi=>(h i hi).b) k hk
 unfold Pl.Cur.at;split <;> omega
end Go.Proofs.YtlbomnnldkeocaaGreat.W
