import Derived.Test.YtlbomnnldkeocaaGreatI08
import Derived.BigRegion
import Derived.Test.YtlbomnnldkeocaaGreatI23
import Derived.Test.YtlbomnnldkeocaaGreatI37
import Derived.Test.YtlbomnnldkeocaaGreatI38
set_option linter.unusedVariables false
set_option linter.unusedSimpArgs false
set_option maxHeartbeats 16000000
namespace Go.Proofs.YtlbomnnldkeocaaGreat.W
open Go.RowKit
def bV (x:Pl.Ln) (at' la:Int) (w:World):Prop:=
 Calls Tryz.prog 67 #[.agg #[.int .i64 x.k,.int .i64 x.op,.int .i64 x.rd,.int .i64 x.r1,.int .i64 x.r2,.int .i64 x.im,.string x.s,.int .i64 x.n],.int .i64 at',.int .i64 la] w fun e w'=>∃ a n c,e=.returned (.slice a n c)/\aY w.heap.size w' a n (Pl.bM x at' la)/\Below w.heap.size w w'
theorem bL {W:World} {o:Obj} {b:Nat} (hb:b=W.heap.size):(W.alloc o).heap[b]?=some o:=by rw[hb];exact heap_alloc_new W o
theorem aY.mono {lo lo':Nat} {w:World} {a:Option Addr} {n:Nat} {is:List Pl.Ins} (h:aY lo w a n is) (hl:lo'<=lo):aY lo' w a n is:=by
 obtain⟨h1,h2,h3⟩:=h
 refine⟨h1,h2,?_⟩
 rcases h3 with h3 | ⟨b,ha,hlo,hr⟩
 ·exact .inl h3
 ·exact .inr ⟨b,ha,Nat.le_trans hl hlo,hr⟩
theorem OQ (x:Pl.Ln) (at' la:Int) (w:World) (hk:x.k=2):bV x at' la w:=by
 have HP:Hid (Pl.bM x at' la=[⟨x.op,x.rd,x.r1,x.r2,x.im⟩]):=by show Pl.bM x at' la=_;unfold Pl.bM Pl.jT;simp[hk]
 unfold bV
 rw[hk]
 go_enter Tryz.func67,Tryz.ntmps67
 go_wp2
 go_ret
 refine⟨_,_,_,rfl,?_,(by repeat (first | with_reducible exact Below.refl _ _ | with_reducible refine below_drewN ?_ _ | with_reducible refine Below.setCell ?_ (by simp <;> omega) _ | with_reducible refine Below.alloc ?_ (by simp <;> omega) _))⟩
 rw[HP.out]
 exact aY.one _ (by omega) (bL (by simp))
theorem OT (x:Pl.Ln) (at' la:Int) (w:World) (hk:x.k=6):bV x at' la w:=by
 have HP:Hid (Pl.bM x at' la=[⟨19,x.rd,x.r1,0,0⟩]):=by show Pl.bM x at' la=_;unfold Pl.bM Pl.jT;simp[hk]
 unfold bV
 rw[hk]
 go_enter Tryz.func67,Tryz.ntmps67
 go_wp2
 go_ret
 refine⟨_,_,_,rfl,?_,(by repeat (first | with_reducible exact Below.refl _ _ | with_reducible refine below_drewN ?_ _ | with_reducible refine Below.setCell ?_ (by simp <;> omega) _ | with_reducible refine Below.alloc ?_ (by simp <;> omega) _))⟩
 rw[HP.out]
 exact aY.one _ (by omega) (bL (by simp))
theorem OU (x:Pl.Ln) (at' la:Int) (w:World) (hk:x.k=9):bV x at' la w:=by
 have HP:Hid (Pl.bM x at' la=[⟨33,0,1,0,0⟩]):=by show Pl.bM x at' la=_;unfold Pl.bM Pl.jT;simp[hk]
 unfold bV
 rw[hk]
 go_enter Tryz.func67,Tryz.ntmps67
 go_wp2
 go_ret
 refine⟨_,_,_,rfl,?_,(by repeat (first | with_reducible exact Below.refl _ _ | with_reducible refine below_drewN ?_ _ | with_reducible refine Below.setCell ?_ (by simp <;> omega) _ | with_reducible refine Below.alloc ?_ (by simp <;> omega) _))⟩
 rw[HP.out]
 exact aY.one _ (by omega) (bL (by simp))
theorem yO (x:Pl.Ln) (at' la:Int) (w:World) (hk:x.k=1\/10<=x.k):bV x at' la w:=by
 have HP:Hid (Pl.bM x at' la=[]):=by show Pl.bM x at' la=_;unfold Pl.bM Pl.jT;rw[if_neg (by simp;omega),if_neg (by omega),if_neg (by omega),if_neg (by omega),if_neg (by omega),if_neg (by omega)]
 unfold bV
 have q2:(x.k == 2)=false:=by simp;omega
 have q3:(x.k == 3)=false:=by simp;omega
 have q4:(x.k == 4)=false:=by simp;omega
 have q5:(x.k == 5)=false:=by simp;omega
 have q6:(x.k == 6)=false:=by simp;omega
 have q7:(x.k == 7)=false:=by simp;omega
 have q8:(x.k == 8)=false:=by simp;omega
 have q9:(x.k == 9)=false:=by simp;omega
 clear hk
 go_enter Tryz.func67,Tryz.ntmps67
 go_wp2
 go_ret
 refine⟨_,_,_,rfl,?_,(by repeat (first | with_reducible exact Below.refl _ _ | with_reducible refine below_drewN ?_ _ | with_reducible refine Below.setCell ?_ (by simp <;> omega) _ | with_reducible refine Below.alloc ?_ (by simp <;> omega) _))⟩
 rw[HP.out]
 exact⟨rfl,by decide,.inl rfl⟩
theorem OV (x:Pl.Ln) (at' la:Int) (w:World) (hk:x.k=3) (h1:0<=at'/\at'<=1099511627776) (h2:0<=la/\la<=1099511627776):bV x at' la w:=by
 have HP:Hid (Pl.bM x at' la=[⟨x.op,x.rd,x.r1,x.r2,la-at'⟩]):=by show Pl.bM x at' la=_;unfold Pl.bM Pl.jT Pl.zD;simp[hk]
 unfold bV
 rw[hk]
 go_enter Tryz.func67,Tryz.ntmps67
 go_wp2
 go_ret
 refine⟨_,_,_,rfl,?_,(by repeat (first | with_reducible exact Below.refl _ _ | with_reducible refine below_drewN ?_ _ | with_reducible refine Below.setCell ?_ (by simp <;> omega) _ | with_reducible refine Below.alloc ?_ (by simp <;> omega) _))⟩
 rw[HP.out]
 exact aY.one _ (by omega) (bL (by simp))
theorem OW (x:Pl.Ln) (at' la:Int) (w:World) (hk:x.k=7) (h1:0<=at'/\at'<=1099511627776) (h2:0<=la/\la<=1099511627776):bV x at' la w:=by
 have HP:Hid (Pl.bM x at' la=[⟨45,0,0,0,la-at'⟩]):=by show Pl.bM x at' la=_;unfold Pl.bM Pl.jT Pl.zD;simp[hk]
 unfold bV
 rw[hk]
 go_enter Tryz.func67,Tryz.ntmps67
 go_wp2
 go_ret
 refine⟨_,_,_,rfl,?_,(by repeat (first | with_reducible exact Below.refl _ _ | with_reducible refine below_drewN ?_ _ | with_reducible refine Below.setCell ?_ (by simp <;> omega) _ | with_reducible refine Below.alloc ?_ (by simp <;> omega) _))⟩
 rw[HP.out]
 exact aY.one _ (by omega) (bL (by simp))
theorem OX (x:Pl.Ln) (at' la:Int) (w:World) (hk:x.k=8) (h1:0<=at'/\at'<=1099511627776) (h2:0<=la/\la<=1099511627776):bV x at' la w:=by
 have HP:Hid (Pl.bM x at' la=[⟨45,1,0,0,la-at'⟩]):=by show Pl.bM x at' la=_;unfold Pl.bM Pl.jT Pl.zD;simp[hk]
 unfold bV
 rw[hk]
 go_enter Tryz.func67,Tryz.ntmps67
 go_wp2
 go_ret
 refine⟨_,_,_,rfl,?_,(by repeat (first | with_reducible exact Below.refl _ _ | with_reducible refine below_drewN ?_ _ | with_reducible refine Below.setCell ?_ (by simp <;> omega) _ | with_reducible refine Below.alloc ?_ (by simp <;> omega) _))⟩
 rw[HP.out]
 exact aY.one _ (by omega) (bL (by simp))
def jK (x:Pl.Ln) (at' la z:Int) (h:Nat) (a2:Option Addr) (L:Array Bool):Act:={ tmps:=#[.agg #[.int .i64 5,.int .i64 x.op,.int .i64 x.rd,.int .i64 x.r1,.int .i64 x.r2,.int .i64 x.im,.string x.s,.int .i64 x.n],.int .i64 at',.int .i64 la,.pointer (some ⟨h,0,none⟩),undef,undef,aR (.slice none 0 0) L 8 (.slice a2 2 2),.pointer (some ⟨(h+1),0,none⟩),.pointer (some ⟨h,1,none⟩),.agg #[.int .i64 x.op,.int .i64 x.rd,.int .i64 x.r1,.int .i64 x.r2,.int .i64 x.im],.pointer (some ⟨h,0,none⟩),.int .i64 5,.bool false,.bool false,.pointer (some ⟨h,0,none⟩),.int .i64 5,.bool false,.bool false,undef,undef,undef,undef,.pointer (some ⟨h,0,none⟩),.int .i64 5,.bool false,.bool false,.pointer (some ⟨h,0,none⟩),.int .i64 5,.bool false,.bool false,.bool false,.pointer (some ⟨h,0,none⟩),.int .i64 5,.bool false,.bool false,undef,undef,undef,undef,undef,undef,.pointer (some ⟨h,0,none⟩),.int .i64 5,.bool false,undef,undef,.pointer (some ⟨h,0,none⟩),.int .i64 5,.bool false,undef,undef,undef,undef,undef,undef,.pointer (some ⟨h,0,none⟩),.int .i64 5,.bool false,undef,undef,.pointer (some ⟨h,0,none⟩),.int .i64 5,.bool true,aR undef L 0 (.pointer (some ⟨(h+1),1,none⟩)),aR undef L 1 (.int .i64 x.rd),aR undef L 2 (.int .i64 la),aR undef L 3 (.pointer (some ⟨h,7,none⟩)),aR undef L 4 (.int .i64 x.n),aR undef L 5 (.int .i64 (la+x.n)),aR undef L 6 (.int .i64 z),aR undef L 7 (.slice a2 2 2),undef,undef,undef,undef,undef,undef,undef,undef,undef,undef,undef,undef,undef,undef,undef,undef,undef,undef,undef,undef,undef,undef,undef,undef],defers:=[] }
set_option maxRecDepth 100000 in
theorem OY (x:Pl.Ln) (at' la:Int) (w:World) (hk:x.k=5) (h2:0<=la/\la<=1099511627776) (h3 : -4294967296<=x.n/\x.n<=4294967296):bV x at' la w:=by
 have HP:Hid (Pl.bM x at' la=Pl.pair x.rd (Pl.wd (la+x.n))):=by show Pl.bM x at' la=_;unfold Pl.bM Pl.jT;simp[hk]
 have HW:Hid (∀ u:World,Calls Tryz.prog 70 #[.int .i64 (la+x.n)] u fun e w'=>e=.returned (.int .i64 (Pl.wd (la+x.n)))/\w'=u):=fun u=>kR _ u
 have HL:Hid (∀ u:World,Calls Tryz.prog 104 #[.int .i64 x.rd,.int .i64 (Pl.wd (la+x.n))] u fun e w'=>∃ a,e=.returned (.slice a 2 2)/\aY u.heap.size w' a 2 (Pl.pair x.rd (Pl.wd (la+x.n)))/\Below u.heap.size u w'):=fun u=>AQ x.rd _ (Pl.uD _) u
 have HT:Hid (∀ zs:List Pl.Ins,Pl.pair x.rd (Pl.wd (la+x.n))=zs->True):=fun _ _=>trivial
 generalize Pl.wd (la+x.n)=z at *
 unfold bV
 rw[hk]
 have hw1:IntKind.i64.wrap (la+x.n)=la+x.n:=by rw[IntKind.wrap_i64];omega
 have hw2:wrap64 (la+x.n)=la+x.n:=by unfold wrap64;omega
 go_enter Tryz.func67,Tryz.ntmps67
 go_upto_region 14 with fail
 have j1:((w.alloc (.cells #[.int .i64 5,.int .i64 x.op,.int .i64 x.rd,.int .i64 x.r1,.int .i64 x.r2,.int .i64 x.im,.string x.s,.int .i64 x.n] 51)).alloc (.cells #[.int .i64 x.op,.int .i64 x.rd,.int .i64 x.r1,.int .i64 x.r2,.int .i64 x.im] 32)).drew.cell? ⟨w.heap.size+1,1,none⟩=some (.int .i64 x.rd):=cell_of_row _ _ 1 _ 32 (0,0) (bL (by simp))
 have j7:((w.alloc (.cells #[.int .i64 5,.int .i64 x.op,.int .i64 x.rd,.int .i64 x.r1,.int .i64 x.r2,.int .i64 x.im,.string x.s,.int .i64 x.n] 51)).alloc (.cells #[.int .i64 x.op,.int .i64 x.rd,.int .i64 x.r1,.int .i64 x.r2,.int .i64 x.im] 32)).drew.cell? ⟨w.heap.size,7,none⟩=some (.int .i64 x.n):=by
  refine (Below.cell (aB (w.alloc (.cells #[.int .i64 5,.int .i64 x.op,.int .i64 x.rd,.int .i64 x.r1,.int .i64 x.r2,.int .i64 x.im,.string x.s,.int .i64 x.n] 51)) (.cells #[.int .i64 x.op,.int .i64 x.rd,.int .i64 x.r1,.int .i64 x.r2,.int .i64 x.im] 32)) (p:=⟨w.heap.size,7,none⟩) (by simp)).trans ?_
  exact cell_of_row _ _ 7 _ 51 (0,0) (bL rfl)
 refine wp_region_any (by kernel_rfl) ?_
 change wpAny _ _ _ _ _ _ _ (World.drew _)
 refine bQ (fun L a u=>∃ a2,a=jK x at' la z w.heap.size a2 L/\nC ((w.alloc (.cells #[.int .i64 5,.int .i64 x.op,.int .i64 x.rd,.int .i64 x.r1,.int .i64 x.r2,.int .i64 x.im,.string x.s,.int .i64 x.n] 51)).alloc (.cells #[.int .i64 x.op,.int .i64 x.rd,.int .i64 x.r1,.int .i64 x.r2,.int .i64 x.im] 32)).drew (fun u=>aY ((w.alloc (.cells #[.int .i64 5,.int .i64 x.op,.int .i64 x.rd,.int .i64 x.r1,.int .i64 x.r2,.int .i64 x.im,.string x.s,.int .i64 x.n] 51)).alloc (.cells #[.int .i64 x.op,.int .i64 x.rd,.int .i64 x.r1,.int .i64 x.r2,.int .i64 x.im] 32)).drew.heap.size u a2 2 (Pl.pair x.rd z)/\Below ((w.alloc (.cells #[.int .i64 5,.int .i64 x.op,.int .i64 x.rd,.int .i64 x.r1,.int .i64 x.r2,.int .i64 x.im,.string x.s,.int .i64 x.n] 51)).alloc (.cells #[.int .i64 x.op,.int .i64 x.rd,.int .i64 x.r1,.int .i64 x.r2,.int .i64 x.im] 32)).drew.heap.size ((w.alloc (.cells #[.int .i64 5,.int .i64 x.op,.int .i64 x.rd,.int .i64 x.r1,.int .i64 x.r2,.int .i64 x.im,.string x.s,.int .i64 x.n] 51)).alloc (.cells #[.int .i64 x.op,.int .i64 x.rd,.int .i64 x.r1,.int .i64 x.r2,.int .i64 x.im] 32)).drew u) 7 L u) ?done (by kernel_rfl) ?step _ 9 _ _ (by kernel_rfl) ?init (by decide)
 case init=>exact⟨none,by simp only[jK,dG (bR _ _)],nC.init⟩
 case step=>
  intro L act w i o hI hlt hs nl hC hd ho K hK
  obtain⟨a2,rfl,hW⟩:=hI
  have jB:i<9:=(Array.getElem?_eq_some_iff.1 ho).1
  have hD:=fun k m=>hd {on:=k,ground:=.data} m rfl
  rcases (show i=0\/i=1\/i=2\/i=3\/i=4\/i=5\/i=6\/i=7\/i=8 by omega) with rfl|rfl|rfl|rfl|rfl|rfl|rfl|rfl|rfl<;>(change some _=some o at ho;cases ho)
  ·simp only[jK]
   go_simp
   exact hK _ _ ⟨a2,by simp only[jK,aD hlt,reduceIte,Nat.reduceEqDiff];try rfl,(hW.keep hlt (by decide))⟩
  ·have q0:up L 0=true:=hD 0 (by simp)
   have n7:up L 7=false:=hC.no nl 7 rfl (by kernel_rfl)
   obtain rfl:=hW.1 n7
   simp only[jK,aA q0]
   go_simp
   exact hK _ _ ⟨a2,by simp only[jK,aD hlt,aA q0,reduceIte,Nat.reduceEqDiff];try rfl,(hW.keep hlt (by decide))⟩
  ·simp only[jK]
   go_simp
   exact hK _ _ ⟨a2,by simp only[jK,aD hlt,reduceIte,Nat.reduceEqDiff];try rfl,(hW.keep hlt (by decide))⟩
  ·simp only[jK]
   go_simp
   exact hK _ _ ⟨a2,by simp only[jK,aD hlt,reduceIte,Nat.reduceEqDiff];try rfl,(hW.keep hlt (by decide))⟩
  ·have q3:up L 3=true:=hD 3 (by simp)
   have n5:up L 5=false:=hC.no nl 5 rfl (by kernel_rfl)
   have n6:up L 6=false:=hC.no n5 6 rfl (by kernel_rfl)
   have n7:up L 7=false:=hC.no n6 7 rfl (by kernel_rfl)
   obtain rfl:=hW.1 n7
   simp only[jK,aA q3]
   go_simp
   exact hK _ _ ⟨a2,by simp only[jK,aD hlt,aA q3,reduceIte,Nat.reduceEqDiff];try rfl,(hW.keep hlt (by decide))⟩
  ·have q2:up L 2=true:=hD 2 (by simp)
   have q4:up L 4=true:=hD 4 (by simp)
   simp only[jK,aA q2,aA q4]
   go_simp
   exact hK _ _ ⟨a2,by simp only[jK,aD hlt,aA q2,aA q4,reduceIte,Nat.reduceEqDiff];try rfl,(hW.keep hlt (by decide))⟩
  ·have q5:up L 5=true:=hD 5 (by simp)
   have n7:up L 7=false:=hC.no nl 7 rfl (by kernel_rfl)
   obtain rfl:=hW.1 n7
   simp only[jK,aA q5]
   go_simp
   refine (HW.out _).mono ?_
   rintro e w2 ⟨rfl,rfl⟩
   go_simp
   exact hK _ _ ⟨a2,by simp only[jK,aD hlt,aA q5,reduceIte,Nat.reduceEqDiff];try rfl,(hW.keep hlt (by decide))⟩
  ·have q1:up L 1=true:=hD 1 (by simp)
   have q6:up L 6=true:=hD 6 (by simp)
   have n8:up L 8=false:=hC.no nl 8 rfl (by kernel_rfl)
   obtain rfl:=hW.1 nl
   simp only[jK,aA q1,aA q6]
   go_simp
   refine (HL.out _).mono ?_
   rintro e w2 ⟨a3,rfl,hR,hB⟩
   go_simp
   exact hK _ _ ⟨a3,by simp only[jK,aD hlt,aA q1,aA q6,dG n8,reduceIte,Nat.reduceEqDiff];try rfl,nC.first hlt ⟨hR,hB⟩⟩
  ·have q7:up L 7=true:=hD 7 (by simp)
   simp only[jK,aA q7]
   go_simp
   exact hK _ _ ⟨a2,by simp only[jK,aD hlt,aA q7,reduceIte,Nat.reduceEqDiff];try rfl,(hW.keep hlt (by decide))⟩
 case done=>
  rintro L a u ⟨a2,rfl,hW⟩ hall
  obtain⟨hR,hB⟩:=hW.2 (hall 7 (by decide))
  have H2:Hid (aY w.heap.size u a2 2 (Pl.pair x.rd z)/\Below w.heap.size w u):=⟨hR.mono (by simp[World.drew];omega),Below.trans (by repeat (first | with_reducible exact Below.refl _ _ | with_reducible refine Below.drew ?_ | with_reducible refine below_drewN ?_ _ | with_reducible refine Below.setCell ?_ (by simp <;> omega) _ | with_reducible refine Below.alloc ?_ (by simp <;> omega) _)) (hB.mono (by simp[World.drew];omega))⟩
  clear hR hB hW
  simp only[jK,aA (hall 0 (by decide)),aA (hall 1 (by decide)),aA (hall 2 (by decide)),aA (hall 3 (by decide)),aA (hall 4 (by decide)),aA (hall 5 (by decide)),aA (hall 6 (by decide)),aA (hall 7 (by decide)),aA (hall 8 (by decide))]
  go_wp2
  go_ret
  exact⟨_,_,_,rfl,by rw[HP.out];exact H2.out.1,H2.out.2⟩
def kD (x:Pl.Ln) (at' la g:Int) (h h2:Nat)  (L:Array Bool):Act:={ tmps:=#[.agg #[.int .i64 4,.int .i64 x.op,.int .i64 x.rd,.int .i64 x.r1,.int .i64 x.r2,.int .i64 x.im,.string x.s,.int .i64 x.n],.int .i64 at',.int .i64 la,.pointer (some ⟨h,0,none⟩),undef,undef,aR (.slice none 0 0) L 7 (.slice (some ⟨h2,0,none⟩) 1 1),.pointer (some ⟨(h+1),0,none⟩),.pointer (some ⟨h,1,none⟩),.agg #[.int .i64 x.op,.int .i64 x.rd,.int .i64 x.r1,.int .i64 x.r2,.int .i64 x.im],.pointer (some ⟨h,0,none⟩),.int .i64 4,.bool false,.bool false,.pointer (some ⟨h,0,none⟩),.int .i64 4,.bool false,.bool false,undef,undef,undef,undef,.pointer (some ⟨h,0,none⟩),.int .i64 4,.bool false,.bool false,.pointer (some ⟨h,0,none⟩),.int .i64 4,.bool false,.bool false,.bool false,.pointer (some ⟨h,0,none⟩),.int .i64 4,.bool false,.bool false,undef,undef,undef,undef,undef,undef,.pointer (some ⟨h,0,none⟩),.int .i64 4,.bool false,undef,undef,.pointer (some ⟨h,0,none⟩),.int .i64 4,.bool false,undef,undef,undef,undef,undef,undef,.pointer (some ⟨h,0,none⟩),.int .i64 4,.bool false,undef,undef,.pointer (some ⟨h,0,none⟩),.int .i64 4,.bool false,undef,undef,undef,undef,undef,undef,undef,undef,.pointer (some ⟨h,0,none⟩),.int .i64 4,.bool true,.bool true,.agg #[.int .i64 4,.int .i64 x.op,.int .i64 x.rd,.int .i64 x.r1,.int .i64 x.r2,.int .i64 x.im,.string x.s,.int .i64 x.n],.int .i64 1,.bool true,.bool true,aR undef L 0 (.pointer (some ⟨(h+1),1,none⟩)),aR undef L 1 (.int .i64 x.rd),aR undef L 2 (.pointer (some ⟨h,7,none⟩)),aR undef L 3 (.int .i64 x.n),aR undef L 4 (.int .i64 g),aR undef L 5 (.agg #[.int .i64 19,.int .i64 x.rd,.int .i64 0,.int .i64 0,.int .i64 g]),aR undef L 6 (.slice (some ⟨h2,0,none⟩) 1 1),undef,undef,undef,undef,undef,undef,undef,undef,undef],defers:=[] }
theorem KN (x:Pl.Ln) (at' la:Int) (w:World) (hk:x.k=4) (hs:Pl.shr x.n=false) (h3:0<=x.n/\x.n<=4294967295):bV x at' la w:=by
 have HP:Hid (Pl.bM x at' la=Pl.pair x.rd x.n):=by show Pl.bM x at' la=_;unfold Pl.bM Pl.jT;simp[hk,hs]
 have hwd:Pl.xI x=2:=by unfold Pl.xI;rw[if_pos (.inr ⟨hk,hs⟩)]
 have HL:Hid (∀ u:World,Calls Tryz.prog 104 #[.int .i64 x.rd,.int .i64 x.n] u fun e w'=>∃ a,e=.returned (.slice a 2 2)/\aY u.heap.size w' a 2 (Pl.pair x.rd x.n)/\Below u.heap.size u w'):=fun u=>AQ x.rd _ h3 u
 have HD:Hid (∀ u:World,Calls Tryz.prog 65 #[.agg #[.int .i64 4,.int .i64 x.op,.int .i64 x.rd,.int .i64 x.r1,.int .i64 x.r2,.int .i64 x.im,.string x.s,.int .i64 x.n]] u fun e w'=>e=.returned (.int .i64 (Pl.xI x))/\Below u.heap.size u w'):=fun u=>by have:=uP x u;rw[hk]at this;exact this
 have HK:Hid (∀ v2:World,Below ((w.alloc (.cells #[.int .i64 4,.int .i64 x.op,.int .i64 x.rd,.int .i64 x.r1,.int .i64 x.r2,.int .i64 x.im,.string x.s,.int .i64 x.n] 51)).alloc (.cells #[.int .i64 x.op,.int .i64 x.rd,.int .i64 x.r1,.int .i64 x.r2,.int .i64 x.im] 32)).heap.size ((w.alloc (.cells #[.int .i64 4,.int .i64 x.op,.int .i64 x.rd,.int .i64 x.r1,.int .i64 x.r2,.int .i64 x.im,.string x.s,.int .i64 x.n] 51)).alloc (.cells #[.int .i64 x.op,.int .i64 x.rd,.int .i64 x.r1,.int .i64 x.r2,.int .i64 x.im] 32)) v2->v2.cell? ⟨w.heap.size+1,1,none⟩=some (.int .i64 x.rd)/\v2.cell? ⟨w.heap.size,7,none⟩=some (.int .i64 x.n)/\v2.cell? ⟨w.heap.size,0,none⟩=some (.int .i64 4)/\Below w.heap.size w v2/\w.heap.size<=v2.heap.size):=fun v2 hb=>by
  have hsz:=hb.size
  refine⟨(hb.cell (p:=⟨w.heap.size+1,1,none⟩) (by simp)).trans ?_,(hb.cell (p:=⟨w.heap.size,7,none⟩) (by simp <;> omega)).trans ?_,(hb.cell (p:=⟨w.heap.size,0,none⟩) (by simp <;> omega)).trans ?_,Below.trans (by repeat (first | with_reducible exact Below.refl _ _ | with_reducible refine below_drewN ?_ _ | with_reducible refine Below.setCell ?_ (by simp <;> omega) _ | with_reducible refine Below.alloc ?_ (by simp <;> omega) _)) (hb.mono (by simp;omega)),by simp at hsz;omega⟩
  ·exact cell_of_row _ _ 1 _ 32 (0,0) (bL (by simp))
  ·refine (Below.cell (aB (w.alloc (.cells #[.int .i64 4,.int .i64 x.op,.int .i64 x.rd,.int .i64 x.r1,.int .i64 x.r2,.int .i64 x.im,.string x.s,.int .i64 x.n] 51)) (.cells #[.int .i64 x.op,.int .i64 x.rd,.int .i64 x.r1,.int .i64 x.r2,.int .i64 x.im] 32)) (p:=⟨w.heap.size,7,none⟩) (by simp)).trans ?_
   exact cell_of_row _ _ 7 _ 51 (0,0) (bL rfl)
  ·refine (Below.cell (aB (w.alloc (.cells #[.int .i64 4,.int .i64 x.op,.int .i64 x.rd,.int .i64 x.r1,.int .i64 x.r2,.int .i64 x.im,.string x.s,.int .i64 x.n] 51)) (.cells #[.int .i64 x.op,.int .i64 x.rd,.int .i64 x.r1,.int .i64 x.r2,.int .i64 x.im] 32)) (p:=⟨w.heap.size,0,none⟩) (by simp)).trans ?_
   exact cell_of_row _ _ 0 _ 51 (0,0) (bL rfl)
 rw[hwd]at HD
 unfold bV
 rw[hk]
 go_enter Tryz.func67,Tryz.ntmps67
 go_wp2_with (first | (go_at_call 65;refine (HD.out _).mono ?_;rintro e u1 ⟨rfl,d1⟩; obtain⟨k1,k7,k0,kb,ks⟩:=HK.out u1 d1;have KB:Hid (Below w.heap.size w u1):=kb;clear kb d1) | (go_at_call 104;refine (HL.out _).mono ?_;rintro e u2 ⟨a2,rfl,hR,hB⟩))
 go_ret
 exact⟨_,_,_,rfl,by rw[HP.out];exact hR.mono (by first | exact ks | omega),KB.out.trans (hB.mono (by first | exact ks | omega))⟩
set_option maxRecDepth 100000 in
theorem KO (x:Pl.Ln) (at' la:Int) (w:World) (hk:x.k=4) (hs:Pl.shr x.n=true):bV x at' la w:=by
 have HP:Hid (Pl.bM x at' la=[⟨19,x.rd,0,0,Pl.sg x.n⟩]):=by show Pl.bM x at' la=_;unfold Pl.bM Pl.jT;simp[hk,hs]
 have hwd:Pl.xI x=1:=by unfold Pl.xI;rw[if_neg (by simp[hs];omega),if_pos (by omega)]
 have HS:Hid (∀ u:World,Calls Tryz.prog 102 #[.int .i64 x.n] u fun e w'=>e=.returned (.int .i64 (Pl.sg x.n))/\w'=u):=fun u=>sN x.n u
 have HD:Hid (∀ u:World,Calls Tryz.prog 65 #[.agg #[.int .i64 4,.int .i64 x.op,.int .i64 x.rd,.int .i64 x.r1,.int .i64 x.r2,.int .i64 x.im,.string x.s,.int .i64 x.n]] u fun e w'=>e=.returned (.int .i64 (Pl.xI x))/\Below u.heap.size u w'):=fun u=>by have:=uP x u;rw[hk]at this;exact this
 have HK:Hid (∀ v2:World,Below ((w.alloc (.cells #[.int .i64 4,.int .i64 x.op,.int .i64 x.rd,.int .i64 x.r1,.int .i64 x.r2,.int .i64 x.im,.string x.s,.int .i64 x.n] 51)).alloc (.cells #[.int .i64 x.op,.int .i64 x.rd,.int .i64 x.r1,.int .i64 x.r2,.int .i64 x.im] 32)).heap.size ((w.alloc (.cells #[.int .i64 4,.int .i64 x.op,.int .i64 x.rd,.int .i64 x.r1,.int .i64 x.r2,.int .i64 x.im,.string x.s,.int .i64 x.n] 51)).alloc (.cells #[.int .i64 x.op,.int .i64 x.rd,.int .i64 x.r1,.int .i64 x.r2,.int .i64 x.im] 32)) v2->v2.cell? ⟨w.heap.size+1,1,none⟩=some (.int .i64 x.rd)/\v2.cell? ⟨w.heap.size,7,none⟩=some (.int .i64 x.n)/\v2.cell? ⟨w.heap.size,0,none⟩=some (.int .i64 4)/\Below w.heap.size w v2/\w.heap.size<=v2.heap.size):=fun v2 hb=>by
  have hsz:=hb.size
  refine⟨(hb.cell (p:=⟨w.heap.size+1,1,none⟩) (by simp)).trans ?_,(hb.cell (p:=⟨w.heap.size,7,none⟩) (by simp <;> omega)).trans ?_,(hb.cell (p:=⟨w.heap.size,0,none⟩) (by simp <;> omega)).trans ?_,Below.trans (by repeat (first | with_reducible exact Below.refl _ _ | with_reducible refine below_drewN ?_ _ | with_reducible refine Below.setCell ?_ (by simp <;> omega) _ | with_reducible refine Below.alloc ?_ (by simp <;> omega) _)) (hb.mono (by simp;omega)),by simp at hsz;omega⟩
  ·exact cell_of_row _ _ 1 _ 32 (0,0) (bL (by simp))
  ·refine (Below.cell (aB (w.alloc (.cells #[.int .i64 4,.int .i64 x.op,.int .i64 x.rd,.int .i64 x.r1,.int .i64 x.r2,.int .i64 x.im,.string x.s,.int .i64 x.n] 51)) (.cells #[.int .i64 x.op,.int .i64 x.rd,.int .i64 x.r1,.int .i64 x.r2,.int .i64 x.im] 32)) (p:=⟨w.heap.size,7,none⟩) (by simp)).trans ?_
   exact cell_of_row _ _ 7 _ 51 (0,0) (bL rfl)
  ·refine (Below.cell (aB (w.alloc (.cells #[.int .i64 4,.int .i64 x.op,.int .i64 x.rd,.int .i64 x.r1,.int .i64 x.r2,.int .i64 x.im,.string x.s,.int .i64 x.n] 51)) (.cells #[.int .i64 x.op,.int .i64 x.rd,.int .i64 x.r1,.int .i64 x.r2,.int .i64 x.im] 32)) (p:=⟨w.heap.size,0,none⟩) (by simp)).trans ?_
   exact cell_of_row _ _ 0 _ 51 (0,0) (bL rfl)
 rw[hwd]at HD
 generalize Pl.sg x.n=g at *
 unfold bV
 rw[hk]
 go_enter Tryz.func67,Tryz.ntmps67
 go_upto_region 16 with (go_at_call 65;refine (HD.out _).mono ?_;rintro e u1 ⟨rfl,d1⟩; obtain⟨k1,k7,k0,kb,ks⟩:=HK.out u1 d1;have KB:Hid (Below w.heap.size w u1):=kb;clear kb d1)
 refine wp_region_any (by kernel_rfl) ?_
 change wpAny _ _ _ _ _ _ _ (World.drew _)
 have j1:u1.drew.cell? ⟨w.heap.size+1,1,none⟩=some (.int .i64 x.rd):=k1
 have j7:u1.drew.cell? ⟨w.heap.size,7,none⟩=some (.int .i64 x.n):=k7
 refine bQ (fun L a u=>a=kD x at' la g w.heap.size u1.heap.size L/\nC u1.drew (fun u=>u=u1.drew.alloc (.cells #[.int .i64 19,.int .i64 x.rd,.int .i64 0,.int .i64 0,.int .i64 g] 32)) 6 L u) ?done (by kernel_rfl) ?step _ 8 _ _ (by kernel_rfl) ?init (by decide)
 case init=>exact⟨by simp only[kD,dG (bR _ _)],nC.init⟩
 case step=>
  intro L act w i o hI hlt hs nl hC hd ho K hK
  obtain⟨rfl,hW⟩:=hI
  have jB:i<8:=(Array.getElem?_eq_some_iff.1 ho).1
  have hD:=fun k m=>hd {on:=k,ground:=.data} m rfl
  rcases (show i=0\/i=1\/i=2\/i=3\/i=4\/i=5\/i=6\/i=7 by omega) with rfl|rfl|rfl|rfl|rfl|rfl|rfl|rfl<;>(change some _=some o at ho;cases ho)
  ·simp only[kD]
   go_simp
   exact hK _ _ ⟨by simp only[kD,aD hlt,reduceIte,Nat.reduceEqDiff];try rfl,(hW.keep hlt (by decide))⟩
  ·have q0:up L 0=true:=hD 0 (by simp)
   have n5:up L 5=false:=hC.no nl 5 rfl (by kernel_rfl)
   have n6:up L 6=false:=hC.no n5 6 rfl (by kernel_rfl)
   obtain rfl:=hW.1 n6
   simp only[kD,aA q0]
   go_simp
   exact hK _ _ ⟨by simp only[kD,aD hlt,aA q0,reduceIte,Nat.reduceEqDiff];try rfl,(hW.keep hlt (by decide))⟩
  ·simp only[kD]
   go_simp
   exact hK _ _ ⟨by simp only[kD,aD hlt,reduceIte,Nat.reduceEqDiff];try rfl,(hW.keep hlt (by decide))⟩
  ·have q2:up L 2=true:=hD 2 (by simp)
   have n4:up L 4=false:=hC.no nl 4 rfl (by kernel_rfl)
   have n5:up L 5=false:=hC.no n4 5 rfl (by kernel_rfl)
   have n6:up L 6=false:=hC.no n5 6 rfl (by kernel_rfl)
   obtain rfl:=hW.1 n6
   simp only[kD,aA q2]
   go_simp
   exact hK _ _ ⟨by simp only[kD,aD hlt,aA q2,reduceIte,Nat.reduceEqDiff];try rfl,(hW.keep hlt (by decide))⟩
  ·have q3:up L 3=true:=hD 3 (by simp)
   have n5:up L 5=false:=hC.no nl 5 rfl (by kernel_rfl)
   have n6:up L 6=false:=hC.no n5 6 rfl (by kernel_rfl)
   obtain rfl:=hW.1 n6
   simp only[kD,aA q3]
   go_simp
   refine (HS.out _).mono ?_
   rintro e w2 ⟨rfl,rfl⟩
   go_simp
   exact hK _ _ ⟨by simp only[kD,aD hlt,aA q3,reduceIte,Nat.reduceEqDiff];try rfl,(hW.keep hlt (by decide))⟩
  ·have q1:up L 1=true:=hD 1 (by simp)
   have q4:up L 4=true:=hD 4 (by simp)
   simp only[kD,aA q1,aA q4]
   go_simp
   exact hK _ _ ⟨by simp only[kD,aD hlt,aA q1,aA q4,reduceIte,Nat.reduceEqDiff];try rfl,(hW.keep hlt (by decide))⟩
  ·have q5:up L 5=true:=hD 5 (by simp)
   obtain rfl:=hW.1 nl
   simp only[kD,aA q5]
   go_simp
   exact hK _ _ ⟨by simp only[kD,aD hlt,aA q5,reduceIte,Nat.reduceEqDiff];try rfl,nC.first hlt rfl⟩
  ·have q6:up L 6=true:=hD 6 (by simp)
   simp only[kD,aA q6]
   go_simp
   exact hK _ _ ⟨by simp only[kD,aD hlt,aA q6,reduceIte,Nat.reduceEqDiff];try rfl,(hW.keep hlt (by decide))⟩
 case done=>
  rintro L a u ⟨rfl,hW⟩ hall
  obtain rfl:=hW.2 (hall 6 (by decide))
  clear hW
  simp only[kD,aA (hall 0 (by decide)),aA (hall 1 (by decide)),aA (hall 2 (by decide)),aA (hall 3 (by decide)),aA (hall 4 (by decide)),aA (hall 5 (by decide)),aA (hall 6 (by decide)),aA (hall 7 (by decide))]
  go_wp2
  go_ret
  exact⟨_,_,_,rfl,by rw[HP.out];exact aY.one _ ks (bL rfl),(Below.drew KB.out).alloc ks _⟩
theorem gV (x:Pl.Ln) (at' la:Int) (w:World) (hk:1<=x.k/\x.k<=16) (h1:0<=at'/\at'<=1099511627776) (h2:0<=la/\la<=1099511627776) (h4:x.k=4->0<=x.n/\x.n<=4294967295) (h5:x.k=5->-4294967296<=x.n/\x.n<=4294967296):bV x at' la w:=by
 rcases (show x.k=1\/x.k=2\/x.k=3\/x.k=4\/x.k=5\/x.k=6\/x.k=7\/x.k=8\/x.k=9\/10<=x.k by omega) with q | q | q | q | q | q | q | q | q | q
 ·exact yO x at' la w (.inl q)
 ·exact OQ x at' la w q
 ·exact OV x at' la w q h1 h2
 ·cases hs:Pl.shr x.n
  ·exact KN x at' la w q hs (h4 q)
  ·exact KO x at' la w q hs
 ·exact OY x at' la w q h2 (h5 q)
 ·exact OT x at' la w q
 ·exact OW x at' la w q h1 h2
 ·exact OX x at' la w q h1 h2
 ·exact OU x at' la w q
 ·exact yO x at' la w (.inr q)
end Go.Proofs.YtlbomnnldkeocaaGreat.W
namespace Go.Proofs.YtlbomnnldkeocaaGreat.Pl
def IW (l:List Int):List Value:=l.map (Value.int .i64)
theorem CQ (l m:List Int):IW (l ++ m)=IW l ++ IW m:=by simp[IW]
end Go.Proofs.YtlbomnnldkeocaaGreat.Pl
namespace Go.Proofs.YtlbomnnldkeocaaGreat.W
open Go.RowKit
def oH (U0:World) (A B C:World->Prop) (i j k:Nat) (w1 w2:World) (L:Array Bool) (w:World):Prop:=
 (up L i=false->w=U0)/\(up L i=true->A w1/\(up L j=false->w=w1)/\(up L j=true->B w2/\(up L k=false->w=w2)/\(up L k=true->C w)))
section
variable {U0:World} {A B C:World->Prop} {i j k:Nat} {w1 w2:World} {L:Array Bool} {w:World}
theorem oH.keep (h:oH U0 A B C i j k w1 w2 L w) {m:Nat} (hm:m<L.size) (n1:m≠i) (n2:m≠j) (n3:m≠k):oH U0 A B C i j k w1 w2 (L.setIfInBounds m true) w:=by
 unfold oH at h ⊢
 rw[dY hm,dY hm,dY hm,if_neg n1,if_neg n2,if_neg n3]
 exact h
theorem oH.cell (h:oH U0 A B C i j k w1 w2 L w) (n:up L j=false) {a:Addr} {y:Value} (hc:U0.cell? a=some y) (hA:A w1->w1.cell? a=some y):w.cell? a=some y:=by
 cases q:up L i
 ·rw[h.1 q];exact hc
 ·obtain⟨h1,h2,_⟩:=h.2 q
  rw[h2 n];exact hA h1
theorem oH.init {n:Nat}:oH U0 A B C i j k w1 w2 (Array.replicate n false) U0:=
 ⟨fun _=>rfl,fun q=>absurd (q.symm.trans (bR _ _)) (by decide)⟩
theorem oH.first (hi:i<L.size) (hij:i≠j) (nj:up L j=false) (hA:A w1):oH U0 A B C i j k w1 w2 (L.setIfInBounds i true) w1:=
 ⟨fun q=>absurd (q.symm.trans ((dY hi _).trans (if_pos rfl))) (by decide),fun _=>⟨hA,fun _=>rfl,fun q=>absurd (q.symm.trans ((dY hi _).trans ((if_neg hij).trans nj))) (by decide)⟩⟩
theorem oH.second {B' C':World->Prop} {w2':World} (h:oH U0 A B' C' i j k w1 w2' L w) (hj:j<L.size) (hjk:j≠k) (nk:up L k=false) (qi:up L i=true) (hB:B w2):oH U0 A B C i j k w1 w2 (L.setIfInBounds j true) w2:=by
 have Li:=mY (i:=j) hj qi
 exact⟨fun q=>absurd (q.symm.trans Li) (by decide),fun _=>⟨(h.2 qi).1,fun q=>absurd (q.symm.trans ((dY hj _).trans (if_pos rfl))) (by decide),fun _=>⟨hB,fun _=>rfl,fun q=>absurd (q.symm.trans ((dY hj _).trans ((if_neg hjk).trans nk))) (by decide)⟩⟩⟩
theorem oH.third {w':World} (h:oH U0 A B C i j k w1 w2 L w) (hk:k<L.size) (qi:up L i=true) (qj:up L j=true) (hC:C w'):oH U0 A B C i j k w1 w2 (L.setIfInBounds k true) w':=by
 have Li:=mY (i:=k) hk qi
 have qj':=mY (i:=k) hk qj
 exact⟨fun q=>absurd (q.symm.trans Li) (by decide),fun _=>⟨(h.2 qi).1,fun q=>absurd (q.symm.trans qj') (by decide),fun _=>⟨((h.2 qi).2.2 qj).1,fun q=>absurd (q.symm.trans ((dY hk _).trans (if_pos rfl))) (by decide),fun _=>hC⟩⟩⟩
end
theorem dD {u:World} {B:Nat} {e t:TypeId} {s n:Nat} {v:Value} {ys:List Value} {g j:Nat} {x:Value} {cur:Array Value} {f:Nat × Nat} (h:u.ownsRow B e s v n ys) (hg:u.heap[g]?=some (.cells cur t f)) (ht:t≠e):(u.setCell ⟨g,j,none⟩ x).ownsRow B e s v n ys:=
 h.kept (OnlyC.set g j u x).grown (by
  rcases h.2 with ⟨rfl,_⟩ | ⟨g',cap,cur',rfl,_,hg',_⟩
  ·exact .inl rfl
  ·right
   intro c
   have:g'=g:=by simpa [Value.ownBlock] using c
   subst this
   rw[hg]at hg'
   injection hg' with q
   injection q with _ q2 _
   exact ht q2)
structure aZ (w0 u:World) (g:Nat) (vc vd:Value) (cs ds:List Int):Prop where
 row:u.heap[g]?=some (.cells #[vc,vd,.int .i64 0,.int .i64 0] 28 (0,0))
 oc:u.ownsRow w0.heap.size 3 1 vc cs.length (Pl.IW cs)
 od:u.ownsRow w0.heap.size 5 1 vd ds.length (Pl.rY ds)
 gP:Below w0.heap.size w0 u
 hg:w0.heap.size<=g
variable {w0 u u':World} {g:Nat} {vc vd:Value} {cs ds:List Int}
theorem aZ.lt (h:aZ w0 u g vc vd cs ds):g<u.heap.size:=(Array.getElem?_eq_some_iff.1 h.row).1
theorem aZ.size (h:aZ w0 u g vc vd cs ds):w0.heap.size<=u.heap.size:=h.gP.size
theorem aZ.c0 (h:aZ w0 u g vc vd cs ds):u.cell? ⟨g,0,none⟩=some vc:=cell_of_row _ _ 0 _ 28 (0,0) h.row
theorem aZ.c1 (h:aZ w0 u g vc vd cs ds):u.cell? ⟨g,1,none⟩=some vd:=cell_of_row _ _ 1 _ 28 (0,0) h.row
theorem aZ.c2 (h:aZ w0 u g vc vd cs ds):u.cell? ⟨g,2,none⟩=some (.int .i64 0):=cell_of_row _ _ 2 _ 28 (0,0) h.row
theorem aZ.c3 (h:aZ w0 u g vc vd cs ds):u.cell? ⟨g,3,none⟩=some (.int .i64 0):=cell_of_row _ _ 3 _ 28 (0,0) h.row
theorem aZ.fz (h:aZ w0 u g vc vd cs ds) (j:Nat):u.frozen? ⟨g,j,none⟩=false:=frozen_of_row _ _ j _ 28 h.row
theorem aZ.keep (h:aZ w0 u g vc vd cs ds) (hb:Below u.heap.size u u'):aZ w0 u' g vc vd cs ds:=
 ⟨(hb.block g h.lt).trans h.row,pG h.oc hb,pG h.od hb,h.gP.trans (hb.mono h.size),h.hg⟩
theorem aZ.XP (h:aZ w0 u g vc vd cs ds) {v':Value} {cs':List Int} (ho:u'.ownsRow w0.heap.size 3 1 v' cs'.length (Pl.IW cs')) (hy:oZ 3 u u') (hb:Below w0.heap.size u u'):aZ w0 (u'.setCell ⟨g,0,none⟩ v') g v' vd cs' ds:=by
 have hr:=hy.block g _ h.row (fun c q=>by injection q with _ q2 _;exact absurd q2 (by decide))
 exact⟨heap_setCell_same _ _ _ _ _ _ hr,dD ho hr (by decide),dD (hy.owns (by decide) h.od) hr (by decide),(h.gP.trans hb).setCell (p:=⟨g,0,none⟩) h.hg _,h.hg⟩
theorem aZ.Ed (h:aZ w0 u g vc vd cs ds) {v':Value} {ds':List Int} (ho:u'.ownsRow w0.heap.size 5 1 v' ds'.length (Pl.rY ds')) (hy:oZ 5 u u') (hb:Below w0.heap.size u u'):aZ w0 (u'.setCell ⟨g,1,none⟩ v') g vc v' cs ds':=by
 have hr:=hy.block g _ h.row (fun c q=>by injection q with _ q2 _;exact absurd q2 (by decide))
 exact⟨heap_setCell_same _ _ _ _ _ _ hr,dD (hy.owns (by decide) h.oc) hr (by decide),dD ho hr (by decide),(h.gP.trans hb).setCell (p:=⟨g,1,none⟩) h.hg _,h.hg⟩
structure pX (lo:Nat) (xs:List Pl.Ln) (w:World) (F R:Nat) (a:Option Addr) (len cap:Nat) (la:Option Addr) (ll lc:Nat) (aa:Option Addr) (ac:Nat):Prop where
 ln:jE lo w a len cap xs
 lb:nE w la ll lc xs (Pl.cZ xs xs.length)
 at_:wV w aa len ac xs
 f0:w.cell? ⟨F,0,none⟩=some (.slice la ll lc)
 f1:w.cell? ⟨F,1,none⟩=some (.slice aa len ac)
 r:w.heap[R]?=some (.cells #[.slice none 0 0,.slice none 0 0,.int .i64 0,.int .i64 0] 28 (0,0))
variable {lo:Nat} {xs:List Pl.Ln} {w:World} {F R:Nat} {a:Option Addr} {len cap:Nat} {la:Option Addr} {ll lc:Nat} {aa:Option Addr} {ac:Nat}
theorem pX.keep (h:pX lo xs w F R a len cap la ll lc aa ac) (hb:Below w.heap.size w u):pX lo xs u F R a len cap la ll lc aa ac:=
 ⟨h.ln.keep hb,h.lb.keep hb,h.at_.keep hb,aF hb h.f0,aF hb h.f1,(hb.block R (Array.getElem?_eq_some_iff.1 h.r).1).trans h.r⟩
theorem pX.sym (h:pX lo xs w F R a len cap la ll lc aa ac) {s:ByteArray} (hl:Pl.lb xs s≠none):∃ p b off:Nat,la=some ⟨b,off,none⟩/\p<ll/\Pl.IP xs (Pl.cZ xs xs.length) s=(p:Nat)/\w.cell? ⟨b,off+p*4+2,none⟩=some (.int .i64 (Pl.gT xs s))/\w.cell? ⟨b,off+p*4+3,none⟩=some (.bool (!Pl.rJ xs s))/\b<w.heap.size:=by
 rcases Pl.IZ xs s with ⟨_,h2⟩ | ⟨p,hp,h1,h2⟩
 ·exact absurd h2 hl
 ·obtain⟨e1,e2,e3,e4⟩:=h.lb
  rw[e1]at hp
  obtain⟨b,off,rfl,hb,hc⟩:=e4.resolve_left (by omega)
  obtain⟨d0,d1,d2,d3⟩:=hc p hp
  refine⟨p,b,off,rfl,hp,h1,?_,?_,hb⟩
  ·unfold Pl.gT;rw[h2];exact d2
  ·unfold Pl.rJ;rw[h2];exact d3
theorem pX.ats (h:pX lo xs w F R a len cap la ll lc aa ac) {k:Nat} (hk:k<len):∃ b off,aa=some ⟨b,off,none⟩/\b<w.heap.size/\w.cell? ⟨b,off+k,none⟩=some (.int .i64 (Pl.cu xs k).at):=by
 obtain⟨_,_,h3⟩:=h.at_
 obtain⟨b,off,rfl,hb,hc⟩:=h3.resolve_left (by omega)
 exact⟨b,off,rfl,hb,hc k hk⟩
theorem SN (h:∀ i,i<xs.length->nA (Pl.gl xs i)):Pl.lb xs ⟨#[]⟩=none:=by
 rw[Pl.BM]
 intro j hj h1 h2
 have:=(h j hj).sym (.inl h1)
 rw[h2]at this
 exact this rfl
theorem pI (h:∀ i,i<xs.length->nA (Pl.gl xs i)):Pl.gT xs ⟨#[]⟩=0/\Pl.rJ xs ⟨#[]⟩=false:=by
 unfold Pl.gT Pl.rJ;rw[SN h];exact⟨rfl,rfl⟩
theorem oI (h:∀ i,i<xs.length->nA (Pl.gl xs i)) (hn:xs.length<=20000) (s:ByteArray):0<=Pl.gT xs s/\Pl.gT xs s<=1311768576:=by
 unfold Pl.gT
 split
 ·rename_i j hj
  have hjl:=(Pl.lS.1 hj).1
  have hb:=Pl.jO xs (fun i hi=>(h i hi).b) j (by omega)
  unfold Pl.kV.at;split <;> omega
 ·omega
theorem oJ (h:∀ i,i<xs.length->nA (Pl.gl xs i)) (hn:xs.length<=20000) {k:Nat} (hk:k<=xs.length):0<=(Pl.cu xs k).at/\(Pl.cu xs k).at<=1311768576:=by
 have hb:=Pl.jO xs (fun i hi=>(h i hi).b) k hk
 unfold Pl.kV.at;split <;> omega
end Go.Proofs.YtlbomnnldkeocaaGreat.W
