import Derived.Test.YtlbomnnldkeocaaGreatI08
set_option linter.unusedVariables false
set_option linter.unusedSimpArgs false
set_option maxHeartbeats 16000000
namespace Go.Proofs.YtlbomnnldkeocaaGreat.Pl
theorem AR {c:kV} {x:Ln} (h1:(x.k == 10)=false) (h2:(x.k == 11)=false) (hd:c.d=false):c.pass x=⟨c.d,c.t+zJ x,c.b⟩:=by
 have e1:¬ x.k=10:=by simpa using h1
 have e2:¬ x.k=11:=by simpa using h2
 unfold kV.pass;rw[if_neg e1,if_neg e2,hd];rfl
theorem AU {c:kV} {x:Ln} (h1:(x.k == 10)=false) (h2:(x.k == 11)=false) (hd:c.d=true):c.pass x=⟨c.d,c.t,c.b+fK x c.b⟩:=by
 have e1:¬ x.k=10:=by simpa using h1
 have e2:¬ x.k=11:=by simpa using h2
 unfold kV.pass;rw[if_neg e1,if_neg e2,hd];rfl
end Go.Proofs.YtlbomnnldkeocaaGreat.Pl
namespace Go.Proofs.YtlbomnnldkeocaaGreat.W
open Go.RowKit
theorem Jz {g p q:Nat} (h:p≠q):(⟨g,p,none⟩:Addr)≠⟨g,q,none⟩:=fun e=>h (by injection e)
theorem bF.Lp {w:World} {g:Nat} {c:Pl.kV} (h:bF w g c) (d:Bool):bF (w.setCell ⟨g,0,none⟩ (.bool d)) g ⟨d,c.t,c.b⟩:=
 ⟨World.cell?_setCell_same' _ _ _ (by rw[h.d];rfl),(World.cell?_setCell_other _ _ _ _ (Jz (by decide))).trans h.t,(World.cell?_setCell_other _ _ _ _ (Jz (by decide))).trans h.b,fun j=>(World.frozen?_setCell _ _ _ _).trans (h.fz j),Nat.lt_of_lt_of_le h.lt (OnlyC.set g 0 w _).size,by obtain⟨cur,hr⟩:=h.row;exact⟨_,heap_setCell_same _ _ _ _ _ _ hr⟩⟩
theorem bF.Uh {w:World} {g:Nat} {c:Pl.kV} (h:bF w g c) (t:Int):bF (w.setCell ⟨g,1,none⟩ (.int .i64 t)) g ⟨c.d,t,c.b⟩:=
 ⟨(World.cell?_setCell_other _ _ _ _ (Jz (by decide))).trans h.d,World.cell?_setCell_same' _ _ _ (by rw[h.t];rfl),(World.cell?_setCell_other _ _ _ _ (Jz (by decide))).trans h.b,fun j=>(World.frozen?_setCell _ _ _ _).trans (h.fz j),Nat.lt_of_lt_of_le h.lt (OnlyC.set g 1 w _).size,by obtain⟨cur,hr⟩:=h.row;exact⟨_,heap_setCell_same _ _ _ _ _ _ hr⟩⟩
theorem bF.Ui {w:World} {g:Nat} {c:Pl.kV} (h:bF w g c) (b:Int):bF (w.setCell ⟨g,2,none⟩ (.int .i64 b)) g ⟨c.d,c.t,b⟩:=
 ⟨(World.cell?_setCell_other _ _ _ _ (Jz (by decide))).trans h.d,(World.cell?_setCell_other _ _ _ _ (Jz (by decide))).trans h.t,World.cell?_setCell_same' _ _ _ (by rw[h.b];rfl),fun j=>(World.frozen?_setCell _ _ _ _).trans (h.fz j),Nat.lt_of_lt_of_le h.lt (OnlyC.set g 2 w _).size,by obtain⟨cur,hr⟩:=h.row;exact⟨_,heap_setCell_same _ _ _ _ _ _ hr⟩⟩
def qQ (g:Nat) (c:Pl.kV) (x:Pl.Ln) (w:World):Prop:=
 Calls Tryz.prog 75 #[.pointer (some ⟨g,0,none⟩),.agg #[.int .i64 x.k,.int .i64 x.op,.int .i64 x.rd,.int .i64 x.r1,.int .i64 x.r2,.int .i64 x.im,.string x.s,.int .i64 x.n]] w fun e w'=>e=.returned (.tuple #[])/\bF w' g (c.pass x)/\OnlyC g w w'
def iX (x:Pl.Ln) (g h:Nat) (t z:Int)  (L:Array Bool):Act:={ tmps:=#[.pointer (some ⟨g,0,none⟩),.agg #[.int .i64 x.k,.int .i64 x.op,.int .i64 x.rd,.int .i64 x.r1,.int .i64 x.r2,.int .i64 x.im,.string x.s,.int .i64 x.n],undef,.pointer (some ⟨h,0,none⟩),sl L 0 (.pointer (some ⟨g,0,none⟩)),sl L 1 (.pointer (some ⟨g,0,none⟩)),sl L 2 (.pointer (some ⟨g,1,none⟩)),sl L 3 (.int .i64 t),sl L 4 (.agg #[.int .i64 x.k,.int .i64 x.op,.int .i64 x.rd,.int .i64 x.r1,.int .i64 x.r2,.int .i64 x.im,.string x.s,.int .i64 x.n]),sl L 5 (.int .i64 z),sl L 6 (.int .i64 (t+z)),sl L 7 (.pointer (some ⟨g,0,none⟩)),sl L 8 (.pointer (some ⟨g,1,none⟩)),.bool false,.pointer (some ⟨h,0,none⟩),.int .i64 x.k,.bool false,undef,undef,undef,.bool false,.pointer (some ⟨h,0,none⟩),.int .i64 x.k,.bool false,undef,undef,undef,.bool false,.pointer (some ⟨g,0,none⟩),.pointer (some ⟨g,0,none⟩),.pointer (some ⟨g,0,none⟩),.bool false,undef,undef,undef,undef,undef,undef,undef,undef,undef,undef,undef,undef,undef],defers:=[] }
set_option maxRecDepth 100000 in
theorem WR (g:Nat) (c:Pl.kV) (x:Pl.Ln) (w:World) (h:bF w g c) (rZ:(x.k == 10)=false) (sH:(x.k == 11)=false) (hq:c.d=false) (hb:0<=c.t/\c.t<=1099511627776):qQ g c x w:=by
 have hd:∀ o,(w.alloc o).cell? ⟨g,0,none⟩=some (.bool false):=fun o=>by rw[<- hq];exact (h.keep (aB w o)).d
 have HT:Hid (∀ u:World,Calls Tryz.prog 114 #[.agg #[.int .i64 x.k,.int .i64 x.op,.int .i64 x.rd,.int .i64 x.r1,.int .i64 x.r2,.int .i64 x.im,.string x.s,.int .i64 x.n]] u fun e w'=>e=.returned (.int .i64 (Pl.zJ x))/\Below u.heap.size u w'):=fun u=>FH x u
 have hsz:=Pl.QZ x
 have HC:Hid (∀ u,Below (w.alloc (.cells #[.int .i64 x.k,.int .i64 x.op,.int .i64 x.rd,.int .i64 x.r1,.int .i64 x.r2,.int .i64 x.im,.string x.s,.int .i64 x.n] 51)).drew.heap.size (w.alloc (.cells #[.int .i64 x.k,.int .i64 x.op,.int .i64 x.rd,.int .i64 x.r1,.int .i64 x.r2,.int .i64 x.im,.string x.s,.int .i64 x.n] 51)).drew u->bF u g c):=fun u hu=>(h.keep (Below.drew (aB w _))).keep hu
 have HO:Hid (∀ u,Below (w.alloc (.cells #[.int .i64 x.k,.int .i64 x.op,.int .i64 x.rd,.int .i64 x.r1,.int .i64 x.r2,.int .i64 x.im,.string x.s,.int .i64 x.n] 51)).drew.heap.size (w.alloc (.cells #[.int .i64 x.k,.int .i64 x.op,.int .i64 x.rd,.int .i64 x.r1,.int .i64 x.r2,.int .i64 x.im,.string x.s,.int .i64 x.n] 51)).drew u->OnlyC g w u):=fun u hu=>OnlyC.of (Below.trans (Below.drew (aB w _)) (hu.mono (by simp[World.drew])))
 have HP:Hid (c.pass x=_):=Pl.AR rZ sH hq
 have jo:(w.alloc (.cells #[.int .i64 x.k,.int .i64 x.op,.int .i64 x.rd,.int .i64 x.r1,.int .i64 x.r2,.int .i64 x.im,.string x.s,.int .i64 x.n] 51)).drew.cell? ⟨g,1,none⟩=some (.int .i64 c.t):=(h.keep (Below.drew (aB w _))).t
 have b0:(w.alloc (.cells #[.int .i64 x.k,.int .i64 x.op,.int .i64 x.rd,.int .i64 x.r1,.int .i64 x.r2,.int .i64 x.im,.string x.s,.int .i64 x.n] 51)).drew.cell? ⟨w.heap.size,0,none⟩=some (.int .i64 x.k):=cell_of_row _ _ 0 _ 51 (0,0) (heap_alloc_new w _)
 have b1:(w.alloc (.cells #[.int .i64 x.k,.int .i64 x.op,.int .i64 x.rd,.int .i64 x.r1,.int .i64 x.r2,.int .i64 x.im,.string x.s,.int .i64 x.n] 51)).drew.cell? ⟨w.heap.size,1,none⟩=some (.int .i64 x.op):=cell_of_row _ _ 1 _ 51 (0,0) (heap_alloc_new w _)
 have b2:(w.alloc (.cells #[.int .i64 x.k,.int .i64 x.op,.int .i64 x.rd,.int .i64 x.r1,.int .i64 x.r2,.int .i64 x.im,.string x.s,.int .i64 x.n] 51)).drew.cell? ⟨w.heap.size,2,none⟩=some (.int .i64 x.rd):=cell_of_row _ _ 2 _ 51 (0,0) (heap_alloc_new w _)
 have b3:(w.alloc (.cells #[.int .i64 x.k,.int .i64 x.op,.int .i64 x.rd,.int .i64 x.r1,.int .i64 x.r2,.int .i64 x.im,.string x.s,.int .i64 x.n] 51)).drew.cell? ⟨w.heap.size,3,none⟩=some (.int .i64 x.r1):=cell_of_row _ _ 3 _ 51 (0,0) (heap_alloc_new w _)
 have b4:(w.alloc (.cells #[.int .i64 x.k,.int .i64 x.op,.int .i64 x.rd,.int .i64 x.r1,.int .i64 x.r2,.int .i64 x.im,.string x.s,.int .i64 x.n] 51)).drew.cell? ⟨w.heap.size,4,none⟩=some (.int .i64 x.r2):=cell_of_row _ _ 4 _ 51 (0,0) (heap_alloc_new w _)
 have b5:(w.alloc (.cells #[.int .i64 x.k,.int .i64 x.op,.int .i64 x.rd,.int .i64 x.r1,.int .i64 x.r2,.int .i64 x.im,.string x.s,.int .i64 x.n] 51)).drew.cell? ⟨w.heap.size,5,none⟩=some (.int .i64 x.im):=cell_of_row _ _ 5 _ 51 (0,0) (heap_alloc_new w _)
 have b6:(w.alloc (.cells #[.int .i64 x.k,.int .i64 x.op,.int .i64 x.rd,.int .i64 x.r1,.int .i64 x.r2,.int .i64 x.im,.string x.s,.int .i64 x.n] 51)).drew.cell? ⟨w.heap.size,6,none⟩=some (.string x.s):=cell_of_row _ _ 6 _ 51 (0,0) (heap_alloc_new w _)
 have b7:(w.alloc (.cells #[.int .i64 x.k,.int .i64 x.op,.int .i64 x.rd,.int .i64 x.r1,.int .i64 x.r2,.int .i64 x.im,.string x.s,.int .i64 x.n] 51)).drew.cell? ⟨w.heap.size,7,none⟩=some (.int .i64 x.n):=cell_of_row _ _ 7 _ 51 (0,0) (heap_alloc_new w _)
 clear h
 generalize hz:Pl.zJ x=z at *
 generalize ht:c.t=t at *
 have hw1:IntKind.i64.wrap (t+z)=t+z:=by rw[IntKind.wrap_i64];omega
 have hw2:wrap64 (t+z)=t+z:=by unfold wrap64;omega
 unfold qQ
 go_enter Tryz.func75,Tryz.ntmps75
 go_upto_region 1 with fail
 refine wp_region_any (by kernel_rfl) ?_
 change wpAny _ _ _ _ _ _ _ (World.drew _)
 refine bQ (fun L a u=>∃ w1,a=iX x g w.heap.size t z L/\iO (w.alloc (.cells #[.int .i64 x.k,.int .i64 x.op,.int .i64 x.rd,.int .i64 x.r1,.int .i64 x.r2,.int .i64 x.im,.string x.s,.int .i64 x.n] 51)).drew (fun u=>Below (w.alloc (.cells #[.int .i64 x.k,.int .i64 x.op,.int .i64 x.rd,.int .i64 x.r1,.int .i64 x.r2,.int .i64 x.im,.string x.s,.int .i64 x.n] 51)).drew.heap.size (w.alloc (.cells #[.int .i64 x.k,.int .i64 x.op,.int .i64 x.rd,.int .i64 x.r1,.int .i64 x.r2,.int .i64 x.im,.string x.s,.int .i64 x.n] 51)).drew u) (fun u=>u=w1.setCell ⟨g,1,none⟩ (.int .i64 (t+z))) 5 9 w1 L u) ?done (by kernel_rfl) ?step _ 10 _ _ (by kernel_rfl) ?init (by decide)
 case init=>exact⟨w,by simp only[iX,Bf (bR _ _)],iO.init⟩
 case step=>
  intro L act w i o hI hlt hs nl hC hd ho K hK
  obtain⟨w1,rfl,hW⟩:=hI
  have jB:i<10:=(Array.getElem?_eq_some_iff.1 ho).1
  have hD:=fun k m=>hd {on:=k,ground:=.data} m rfl
  rcases (show i=0\/i=1\/i=2\/i=3\/i=4\/i=5\/i=6\/i=7\/i=8\/i=9 by omega) with rfl|rfl|rfl|rfl|rfl|rfl|rfl|rfl|rfl|rfl<;>(change some _=some o at ho;cases ho)
  ·simp only[iX]
   go_simp
   exact hK _ _ ⟨w1,by simp only[iX,iN hlt,reduceIte,Nat.reduceEqDiff];try rfl,(hW.keep hlt (by decide) (by decide))⟩
  ·have q0:up L 0=true:=hD 0 (by simp)
   simp only[iX,aU q0]
   go_simp
   exact hK _ _ ⟨w1,by simp only[iX,iN hlt,aU q0,reduceIte,Nat.reduceEqDiff];try rfl,(hW.keep hlt (by decide) (by decide))⟩
  ·have q1:up L 1=true:=hD 1 (by simp)
   simp only[iX,aU q1]
   go_simp
   exact hK _ _ ⟨w1,by simp only[iX,iN hlt,aU q1,reduceIte,Nat.reduceEqDiff];try rfl,(hW.keep hlt (by decide) (by decide))⟩
  ·have q2:up L 2=true:=hD 2 (by simp)
   have n6:up L 6=false:=hC.no nl 6 rfl (by kernel_rfl)
   have n9:up L 9=false:=hC.no n6 9 rfl (by kernel_rfl)
   have xo:=hW.cell n9 jo (fun q=>aF q jo)
   simp only[iX,aU q2]
   go_simp
   exact hK _ _ ⟨w1,by simp only[iX,iN hlt,aU q2,reduceIte,Nat.reduceEqDiff];try rfl,(hW.keep hlt (by decide) (by decide))⟩
  ·have n5:up L 5=false:=hC.no nl 5 rfl (by kernel_rfl)
   obtain rfl:=hW.1 n5
   simp only[iX]
   go_simp
   exact hK _ _ ⟨w1,by simp only[iX,iN hlt,reduceIte,Nat.reduceEqDiff];try rfl,(hW.keep hlt (by decide) (by decide))⟩
  ·have q4:up L 4=true:=hD 4 (by simp)
   have n6:up L 6=false:=hC.no nl 6 rfl (by kernel_rfl)
   have n9:up L 9=false:=hC.no n6 9 rfl (by kernel_rfl)
   obtain rfl:=hW.1 nl
   simp only[iX,aU q4]
   go_simp
   refine (HT.out _).mono ?_
   rintro e w2 ⟨rfl,d1⟩
   go_simp
   exact hK _ _ ⟨w2,by simp only[iX,iN hlt,aU q4,reduceIte,Nat.reduceEqDiff];try rfl,iO.first hlt (by decide) n9 d1⟩
  ·have q3:up L 3=true:=hD 3 (by simp)
   have q5:up L 5=true:=hD 5 (by simp)
   simp only[iX,aU q3,aU q5]
   go_simp
   exact hK _ _ ⟨w1,by simp only[iX,iN hlt,aU q3,aU q5,reduceIte,Nat.reduceEqDiff];try rfl,(hW.keep hlt (by decide) (by decide))⟩
  ·have q0:up L 0=true:=hD 0 (by simp)
   simp only[iX,aU q0]
   go_simp
   exact hK _ _ ⟨w1,by simp only[iX,iN hlt,aU q0,reduceIte,Nat.reduceEqDiff];try rfl,(hW.keep hlt (by decide) (by decide))⟩
  ·have q7:up L 7=true:=hD 7 (by simp)
   simp only[iX,aU q7]
   go_simp
   exact hK _ _ ⟨w1,by simp only[iX,iN hlt,aU q7,reduceIte,Nat.reduceEqDiff];try rfl,(hW.keep hlt (by decide) (by decide))⟩
  ·have q6:up L 6=true:=hD 6 (by simp)
   have q8:up L 8=true:=hD 8 (by simp)
   have q5:up L 5=true:=hC 6 _ rfl q6 { on:=5,ground:=.data } (by simp) rfl
   obtain⟨d1,y4,_⟩:=hW.2 q5
   obtain rfl:=y4 nl
   have hc:=HC.out _ d1
   have c1:=hc.t
   have f1:=hc.fz 1
   simp only[iX,aU q6,aU q8]
   go_simp
   exact hK _ _ ⟨w,by simp only[iX,iN hlt,aU q6,aU q8,reduceIte,Nat.reduceEqDiff];try rfl,hW.second hlt q5 rfl⟩
 case done=>
  rintro L a u ⟨w1,rfl,hW⟩ hall
  obtain⟨d1,_,hB⟩:=hW.2 (hall 5 (by decide))
  obtain rfl:=hB (hall 9 (by decide))
  have H2:Hid (bF (w1.setCell ⟨g,1,none⟩ (.int .i64 (t+z))) g (c.pass x)/\OnlyC g w (w1.setCell ⟨g,1,none⟩ (.int .i64 (t+z)))):=⟨by rw[HP.out];exact (HC.out _ d1).Uh _,(HO.out _ d1).trans (OnlyC.set _ _ _ _)⟩
  clear hW hB d1
  simp only[iX,aU (hall 0 (by decide)),aU (hall 1 (by decide)),aU (hall 2 (by decide)),aU (hall 3 (by decide)),aU (hall 4 (by decide)),aU (hall 5 (by decide)),aU (hall 6 (by decide)),aU (hall 7 (by decide)),aU (hall 8 (by decide)),aU (hall 9 (by decide))]
  go_wp2
  go_end0
  exact⟨rfl,H2.out.1,H2.out.2⟩
def dR (x:Pl.Ln) (g h:Nat) (t z:Int)  (L:Array Bool):Act:={ tmps:=#[.pointer (some ⟨g,0,none⟩),.agg #[.int .i64 x.k,.int .i64 x.op,.int .i64 x.rd,.int .i64 x.r1,.int .i64 x.r2,.int .i64 x.im,.string x.s,.int .i64 x.n],undef,.pointer (some ⟨h,0,none⟩),undef,undef,undef,undef,undef,undef,undef,undef,undef,.bool false,.pointer (some ⟨h,0,none⟩),.int .i64 x.k,.bool false,undef,undef,undef,.bool false,.pointer (some ⟨h,0,none⟩),.int .i64 x.k,.bool false,undef,undef,undef,.bool true,.pointer (some ⟨g,0,none⟩),.pointer (some ⟨g,0,none⟩),.pointer (some ⟨g,0,none⟩),.bool true,sl L 0 (.pointer (some ⟨g,0,none⟩)),sl L 1 (.pointer (some ⟨g,0,none⟩)),sl L 2 (.pointer (some ⟨g,2,none⟩)),sl L 3 (.int .i64 t),sl L 4 (.agg #[.int .i64 x.k,.int .i64 x.op,.int .i64 x.rd,.int .i64 x.r1,.int .i64 x.r2,.int .i64 x.im,.string x.s,.int .i64 x.n]),sl L 5 (.pointer (some ⟨g,0,none⟩)),sl L 6 (.pointer (some ⟨g,0,none⟩)),sl L 7 (.pointer (some ⟨g,2,none⟩)),sl L 8 (.int .i64 t),sl L 9 (.int .i64 z),sl L 10 (.int .i64 (t+z)),sl L 11 (.pointer (some ⟨g,0,none⟩)),sl L 12 (.pointer (some ⟨g,2,none⟩))],defers:=[] }
set_option maxRecDepth 100000 in
theorem WS (g:Nat) (c:Pl.kV) (x:Pl.Ln) (w:World) (h:bF w g c) (rZ:(x.k == 10)=false) (sH:(x.k == 11)=false) (hq:c.d=true) (hb:0<=c.b/\c.b<=1099511627776) (hx:Pl.sG x):qQ g c x w:=by
 have hd:∀ o,(w.alloc o).cell? ⟨g,0,none⟩=some (.bool true):=fun o=>by rw[<- hq];exact (h.keep (aB w o)).d
 have HT:Hid (∀ u:World,Calls Tryz.prog 113 #[.agg #[.int .i64 x.k,.int .i64 x.op,.int .i64 x.rd,.int .i64 x.r1,.int .i64 x.r2,.int .i64 x.im,.string x.s,.int .i64 x.n],.int .i64 c.b] u fun e w'=>e=.returned (.int .i64 (Pl.fK x c.b))/\Below u.heap.size u w'):=fun u=>wQ x c.b hx (by omega) u
 have hsz:=Pl.uN hx c.b hb.1
 have HC:Hid (∀ u,Below (w.alloc (.cells #[.int .i64 x.k,.int .i64 x.op,.int .i64 x.rd,.int .i64 x.r1,.int .i64 x.r2,.int .i64 x.im,.string x.s,.int .i64 x.n] 51)).drew.heap.size (w.alloc (.cells #[.int .i64 x.k,.int .i64 x.op,.int .i64 x.rd,.int .i64 x.r1,.int .i64 x.r2,.int .i64 x.im,.string x.s,.int .i64 x.n] 51)).drew u->bF u g c):=fun u hu=>(h.keep (Below.drew (aB w _))).keep hu
 have HO:Hid (∀ u,Below (w.alloc (.cells #[.int .i64 x.k,.int .i64 x.op,.int .i64 x.rd,.int .i64 x.r1,.int .i64 x.r2,.int .i64 x.im,.string x.s,.int .i64 x.n] 51)).drew.heap.size (w.alloc (.cells #[.int .i64 x.k,.int .i64 x.op,.int .i64 x.rd,.int .i64 x.r1,.int .i64 x.r2,.int .i64 x.im,.string x.s,.int .i64 x.n] 51)).drew u->OnlyC g w u):=fun u hu=>OnlyC.of (Below.trans (Below.drew (aB w _)) (hu.mono (by simp[World.drew])))
 have HP:Hid (c.pass x=_):=Pl.AU rZ sH hq
 have jo:(w.alloc (.cells #[.int .i64 x.k,.int .i64 x.op,.int .i64 x.rd,.int .i64 x.r1,.int .i64 x.r2,.int .i64 x.im,.string x.s,.int .i64 x.n] 51)).drew.cell? ⟨g,2,none⟩=some (.int .i64 c.b):=(h.keep (Below.drew (aB w _))).b
 have b0:(w.alloc (.cells #[.int .i64 x.k,.int .i64 x.op,.int .i64 x.rd,.int .i64 x.r1,.int .i64 x.r2,.int .i64 x.im,.string x.s,.int .i64 x.n] 51)).drew.cell? ⟨w.heap.size,0,none⟩=some (.int .i64 x.k):=cell_of_row _ _ 0 _ 51 (0,0) (heap_alloc_new w _)
 have b1:(w.alloc (.cells #[.int .i64 x.k,.int .i64 x.op,.int .i64 x.rd,.int .i64 x.r1,.int .i64 x.r2,.int .i64 x.im,.string x.s,.int .i64 x.n] 51)).drew.cell? ⟨w.heap.size,1,none⟩=some (.int .i64 x.op):=cell_of_row _ _ 1 _ 51 (0,0) (heap_alloc_new w _)
 have b2:(w.alloc (.cells #[.int .i64 x.k,.int .i64 x.op,.int .i64 x.rd,.int .i64 x.r1,.int .i64 x.r2,.int .i64 x.im,.string x.s,.int .i64 x.n] 51)).drew.cell? ⟨w.heap.size,2,none⟩=some (.int .i64 x.rd):=cell_of_row _ _ 2 _ 51 (0,0) (heap_alloc_new w _)
 have b3:(w.alloc (.cells #[.int .i64 x.k,.int .i64 x.op,.int .i64 x.rd,.int .i64 x.r1,.int .i64 x.r2,.int .i64 x.im,.string x.s,.int .i64 x.n] 51)).drew.cell? ⟨w.heap.size,3,none⟩=some (.int .i64 x.r1):=cell_of_row _ _ 3 _ 51 (0,0) (heap_alloc_new w _)
 have b4:(w.alloc (.cells #[.int .i64 x.k,.int .i64 x.op,.int .i64 x.rd,.int .i64 x.r1,.int .i64 x.r2,.int .i64 x.im,.string x.s,.int .i64 x.n] 51)).drew.cell? ⟨w.heap.size,4,none⟩=some (.int .i64 x.r2):=cell_of_row _ _ 4 _ 51 (0,0) (heap_alloc_new w _)
 have b5:(w.alloc (.cells #[.int .i64 x.k,.int .i64 x.op,.int .i64 x.rd,.int .i64 x.r1,.int .i64 x.r2,.int .i64 x.im,.string x.s,.int .i64 x.n] 51)).drew.cell? ⟨w.heap.size,5,none⟩=some (.int .i64 x.im):=cell_of_row _ _ 5 _ 51 (0,0) (heap_alloc_new w _)
 have b6:(w.alloc (.cells #[.int .i64 x.k,.int .i64 x.op,.int .i64 x.rd,.int .i64 x.r1,.int .i64 x.r2,.int .i64 x.im,.string x.s,.int .i64 x.n] 51)).drew.cell? ⟨w.heap.size,6,none⟩=some (.string x.s):=cell_of_row _ _ 6 _ 51 (0,0) (heap_alloc_new w _)
 have b7:(w.alloc (.cells #[.int .i64 x.k,.int .i64 x.op,.int .i64 x.rd,.int .i64 x.r1,.int .i64 x.r2,.int .i64 x.im,.string x.s,.int .i64 x.n] 51)).drew.cell? ⟨w.heap.size,7,none⟩=some (.int .i64 x.n):=cell_of_row _ _ 7 _ 51 (0,0) (heap_alloc_new w _)
 clear h
 generalize hz:Pl.fK x c.b=z at *
 generalize ht:c.b=t at *
 have hw1:IntKind.i64.wrap (t+z)=t+z:=by rw[IntKind.wrap_i64];omega
 have hw2:wrap64 (t+z)=t+z:=by unfold wrap64;omega
 unfold qQ
 go_enter Tryz.func75,Tryz.ntmps75
 go_upto_region 7 with fail
 refine wp_region_any (by kernel_rfl) ?_
 change wpAny _ _ _ _ _ _ _ (World.drew _)
 refine bQ (fun L a u=>∃ w1,a=dR x g w.heap.size t z L/\iO (w.alloc (.cells #[.int .i64 x.k,.int .i64 x.op,.int .i64 x.rd,.int .i64 x.r1,.int .i64 x.r2,.int .i64 x.im,.string x.s,.int .i64 x.n] 51)).drew (fun u=>Below (w.alloc (.cells #[.int .i64 x.k,.int .i64 x.op,.int .i64 x.rd,.int .i64 x.r1,.int .i64 x.r2,.int .i64 x.im,.string x.s,.int .i64 x.n] 51)).drew.heap.size (w.alloc (.cells #[.int .i64 x.k,.int .i64 x.op,.int .i64 x.rd,.int .i64 x.r1,.int .i64 x.r2,.int .i64 x.im,.string x.s,.int .i64 x.n] 51)).drew u) (fun u=>u=w1.setCell ⟨g,2,none⟩ (.int .i64 (t+z))) 9 13 w1 L u) ?done (by kernel_rfl) ?step _ 14 _ _ (by kernel_rfl) ?init (by decide)
 case init=>exact⟨w,by simp only[dR,Bf (bR _ _)],iO.init⟩
 case step=>
  intro L act w i o hI hlt hs nl hC hd ho K hK
  obtain⟨w1,rfl,hW⟩:=hI
  have jB:i<14:=(Array.getElem?_eq_some_iff.1 ho).1
  have hD:=fun k m=>hd {on:=k,ground:=.data} m rfl
  rcases (show i=0\/i=1\/i=2\/i=3\/i=4\/i=5\/i=6\/i=7\/i=8\/i=9\/i=10\/i=11\/i=12\/i=13 by omega) with rfl|rfl|rfl|rfl|rfl|rfl|rfl|rfl|rfl|rfl|rfl|rfl|rfl|rfl<;>(change some _=some o at ho;cases ho)
  ·simp only[dR]
   go_simp
   exact hK _ _ ⟨w1,by simp only[dR,iN hlt,reduceIte,Nat.reduceEqDiff];try rfl,(hW.keep hlt (by decide) (by decide))⟩
  ·have q0:up L 0=true:=hD 0 (by simp)
   simp only[dR,aU q0]
   go_simp
   exact hK _ _ ⟨w1,by simp only[dR,iN hlt,aU q0,reduceIte,Nat.reduceEqDiff];try rfl,(hW.keep hlt (by decide) (by decide))⟩
  ·have q1:up L 1=true:=hD 1 (by simp)
   simp only[dR,aU q1]
   go_simp
   exact hK _ _ ⟨w1,by simp only[dR,iN hlt,aU q1,reduceIte,Nat.reduceEqDiff];try rfl,(hW.keep hlt (by decide) (by decide))⟩
  ·have q2:up L 2=true:=hD 2 (by simp)
   have n10:up L 10=false:=hC.no nl 10 rfl (by kernel_rfl)
   have n13:up L 13=false:=hC.no n10 13 rfl (by kernel_rfl)
   have xo:=hW.cell n13 jo (fun q=>aF q jo)
   simp only[dR,aU q2]
   go_simp
   exact hK _ _ ⟨w1,by simp only[dR,iN hlt,aU q2,reduceIte,Nat.reduceEqDiff];try rfl,(hW.keep hlt (by decide) (by decide))⟩
  ·have n9:up L 9=false:=hC.no nl 9 rfl (by kernel_rfl)
   obtain rfl:=hW.1 n9
   simp only[dR]
   go_simp
   exact hK _ _ ⟨w1,by simp only[dR,iN hlt,reduceIte,Nat.reduceEqDiff];try rfl,(hW.keep hlt (by decide) (by decide))⟩
  ·simp only[dR]
   go_simp
   exact hK _ _ ⟨w1,by simp only[dR,iN hlt,reduceIte,Nat.reduceEqDiff];try rfl,(hW.keep hlt (by decide) (by decide))⟩
  ·have q5:up L 5=true:=hD 5 (by simp)
   simp only[dR,aU q5]
   go_simp
   exact hK _ _ ⟨w1,by simp only[dR,iN hlt,aU q5,reduceIte,Nat.reduceEqDiff];try rfl,(hW.keep hlt (by decide) (by decide))⟩
  ·have q6:up L 6=true:=hD 6 (by simp)
   simp only[dR,aU q6]
   go_simp
   exact hK _ _ ⟨w1,by simp only[dR,iN hlt,aU q6,reduceIte,Nat.reduceEqDiff];try rfl,(hW.keep hlt (by decide) (by decide))⟩
  ·have q7:up L 7=true:=hD 7 (by simp)
   have n9:up L 9=false:=hC.no nl 9 rfl (by kernel_rfl)
   obtain rfl:=hW.1 n9
   simp only[dR,aU q7]
   go_simp
   exact hK _ _ ⟨w1,by simp only[dR,iN hlt,aU q7,reduceIte,Nat.reduceEqDiff];try rfl,(hW.keep hlt (by decide) (by decide))⟩
  ·have q4:up L 4=true:=hD 4 (by simp)
   have q8:up L 8=true:=hD 8 (by simp)
   have n10:up L 10=false:=hC.no nl 10 rfl (by kernel_rfl)
   have n13:up L 13=false:=hC.no n10 13 rfl (by kernel_rfl)
   obtain rfl:=hW.1 nl
   simp only[dR,aU q4,aU q8]
   go_simp
   refine (HT.out _).mono ?_
   rintro e w2 ⟨rfl,d1⟩
   go_simp
   exact hK _ _ ⟨w2,by simp only[dR,iN hlt,aU q4,aU q8,reduceIte,Nat.reduceEqDiff];try rfl,iO.first hlt (by decide) n13 d1⟩
  ·have q3:up L 3=true:=hD 3 (by simp)
   have q9:up L 9=true:=hD 9 (by simp)
   simp only[dR,aU q3,aU q9]
   go_simp
   exact hK _ _ ⟨w1,by simp only[dR,iN hlt,aU q3,aU q9,reduceIte,Nat.reduceEqDiff];try rfl,(hW.keep hlt (by decide) (by decide))⟩
  ·have q0:up L 0=true:=hD 0 (by simp)
   simp only[dR,aU q0]
   go_simp
   exact hK _ _ ⟨w1,by simp only[dR,iN hlt,aU q0,reduceIte,Nat.reduceEqDiff];try rfl,(hW.keep hlt (by decide) (by decide))⟩
  ·have sH:up L 11=true:=hD 11 (by simp)
   simp only[dR,aU sH]
   go_simp
   exact hK _ _ ⟨w1,by simp only[dR,iN hlt,aU sH,reduceIte,Nat.reduceEqDiff];try rfl,(hW.keep hlt (by decide) (by decide))⟩
  ·have rZ:up L 10=true:=hD 10 (by simp)
   have lV:up L 12=true:=hD 12 (by simp)
   have q9:up L 9=true:=hC 10 _ rfl rZ { on:=9,ground:=.data } (by simp) rfl
   obtain⟨d1,y4,_⟩:=hW.2 q9
   obtain rfl:=y4 nl
   have hc:=HC.out _ d1
   have c1:=hc.b
   have f1:=hc.fz 2
   simp only[dR,aU rZ,aU lV]
   go_simp
   exact hK _ _ ⟨w,by simp only[dR,iN hlt,aU rZ,aU lV,reduceIte,Nat.reduceEqDiff];try rfl,hW.second hlt q9 rfl⟩
 case done=>
  rintro L a u ⟨w1,rfl,hW⟩ hall
  obtain⟨d1,_,hB⟩:=hW.2 (hall 9 (by decide))
  obtain rfl:=hB (hall 13 (by decide))
  have H2:Hid (bF (w1.setCell ⟨g,2,none⟩ (.int .i64 (t+z))) g (c.pass x)/\OnlyC g w (w1.setCell ⟨g,2,none⟩ (.int .i64 (t+z)))):=⟨by rw[HP.out];exact (HC.out _ d1).Ui _,(HO.out _ d1).trans (OnlyC.set _ _ _ _)⟩
  clear hW hB d1
  simp only[dR,aU (hall 0 (by decide)),aU (hall 1 (by decide)),aU (hall 2 (by decide)),aU (hall 3 (by decide)),aU (hall 4 (by decide)),aU (hall 5 (by decide)),aU (hall 6 (by decide)),aU (hall 7 (by decide)),aU (hall 8 (by decide)),aU (hall 9 (by decide)),aU (hall 10 (by decide)),aU (hall 11 (by decide)),aU (hall 12 (by decide)),aU (hall 13 (by decide))]
  go_wp2
  go_end0
  exact⟨rfl,H2.out.1,H2.out.2⟩
theorem WT (g:Nat) (c:Pl.kV) (x:Pl.Ln) (w:World) (h:bF w g c) (hk:x.k=10):qQ g c x w:=by
 have HP:Hid (c.pass x=⟨false,c.t,c.b⟩):=by show _=_;unfold Pl.kV.pass;simp[hk]
 have HC:Hid (∀ o,bF (w.alloc o) g c):=fun o=>h.keep (aB w o)
 have hd:∀ o,(w.alloc o).cell? ⟨g,0,none⟩=some (.bool c.d):=fun o=>(HC.out o).d
 have hf:∀ o,(w.alloc o).frozen? ⟨g,0,none⟩=false:=fun o=>(HC.out o).fz 0
 clear h
 unfold qQ
 rw[hk]
 go_enter Tryz.func75,Tryz.ntmps75
 go_wp2
 go_end0
 refine⟨rfl,?_,(OnlyC.of (aB w _)).trans (OnlyC.set _ _ _ _)⟩
 rw[HP.out]
 exact (HC.out _).Lp _
theorem WU (g:Nat) (c:Pl.kV) (x:Pl.Ln) (w:World) (h:bF w g c) (hk:x.k=11):qQ g c x w:=by
 have HP:Hid (c.pass x=⟨true,c.t,c.b⟩):=by show _=_;unfold Pl.kV.pass;simp[hk]
 have HC:Hid (∀ o,bF (w.alloc o) g c):=fun o=>h.keep (aB w o)
 have hd:∀ o,(w.alloc o).cell? ⟨g,0,none⟩=some (.bool c.d):=fun o=>(HC.out o).d
 have hf:∀ o,(w.alloc o).frozen? ⟨g,0,none⟩=false:=fun o=>(HC.out o).fz 0
 clear h
 unfold qQ
 rw[hk]
 go_enter Tryz.func75,Tryz.ntmps75
 go_wp2
 go_end0
 refine⟨rfl,?_,(OnlyC.of (aB w _)).trans (OnlyC.set _ _ _ _)⟩
 rw[HP.out]
 exact (HC.out _).Lp _
theorem MO (g:Nat) (c:Pl.kV) (x:Pl.Ln) (w:World) (h:bF w g c) (hx:Pl.sG x) (ht:0<=c.t/\c.t<=1099511627776) (hb:0<=c.b/\c.b<=1099511627776):qQ g c x w:=by
 by_cases e1:x.k=10
 ·exact WT g c x w h e1
 by_cases e2:x.k=11
 ·exact WU g c x w h e2
 have rZ:(x.k == 10)=false:=by simp;omega
 have sH:(x.k == 11)=false:=by simp;omega
 cases hd:c.d
 ·exact WR g c x w h rZ sH hd ht
 ·exact WS g c x w h rZ sH hd hb hx
theorem wS (rd v:Int) (hv:0<=v/\v<=4294967295) (w:World):Calls Tryz.prog 119 #[.int .i64 rd,.int .i64 v] w fun e w'=>∃ a,e=.returned (.slice a 2 2)/\aY w.heap.size w' a 2 (Pl.pair rd v)/\Below w.heap.size w w':=by
 have h1:v.tmod 4096=v % 4096:=Int.tmod_eq_emod_of_nonneg hv.1
 have HX:Hid (∀ (l:Int) (u:World),Calls Tryz.prog 133 #[.int .i64 (v-l)] u fun e w'=>e=.returned (.int .i64 (Pl.wd (v-l)))/\w'=u):=fun l u=>rE _ u
 have HP:Hid (Pl.pair rd v=[⟨43,rd,0,0,Pl.wd (v-Pl.low v) / 4096⟩,⟨19,rd,rd,0,Pl.low v⟩]):=rfl
 by_cases hl:2048<=v % 4096
 ·have hlow:Pl.low v=v % 4096-4096:=by unfold Pl.low;rw[if_pos hl]
  rw[hlow]at HP
  have Lr:=HX.out (v % 4096-4096)
  have HY:Hid (∀ u:World,Calls Tryz.prog 133 #[.int .i64 (v-(v % 4096-4096))] u fun e w'=>e=.returned (.int .i64 (Pl.wd (v-(v % 4096-4096))))/\w'=u):=Lr
  have hD:=Pl.uD (v-(v % 4096-4096))
  clear HX Lr
  generalize Pl.wd (v-(v % 4096-4096))=z at *
  have h2:z.tdiv 4096=z / 4096:=Int.tdiv_eq_ediv_of_nonneg hD.1
  go_enter Tryz.func119,Tryz.ntmps119
  go_wp2_with (go_at_call 133;refine (HY.out _).mono ?_;rintro e u1 ⟨rfl,rfl⟩)
  go_ret
  refine⟨_,rfl,?_,aB _ _⟩
  rw[HP.out]
  exact aY.two _ _ (Nat.le_refl _) (heap_alloc_new _ _)
 ·have hlow:Pl.low v=v % 4096:=by unfold Pl.low;rw[if_neg hl]
  rw[hlow]at HP
  have Lr:=HX.out (v % 4096)
  have HY:Hid (∀ u:World,Calls Tryz.prog 133 #[.int .i64 (v-v % 4096)] u fun e w'=>e=.returned (.int .i64 (Pl.wd (v-v % 4096)))/\w'=u):=Lr
  have hD:=Pl.uD (v-v % 4096)
  clear HX Lr
  generalize Pl.wd (v-v % 4096)=z at *
  have h2:z.tdiv 4096=z / 4096:=Int.tdiv_eq_ediv_of_nonneg hD.1
  go_enter Tryz.func119,Tryz.ntmps119
  go_wp2_with (go_at_call 133;refine (HY.out _).mono ?_;rintro e u1 ⟨rfl,rfl⟩)
  go_ret
  refine⟨_,rfl,?_,aB _ _⟩
  rw[HP.out]
  exact aY.two _ _ (Nat.le_refl _) (heap_alloc_new _ _)
theorem zV {lo:Nat} (a:Option Addr) (len cap:Nat) (xs:List Pl.Ln) (w:World) (p:Nat->Bool) (Inv:Nat->World->Prop) (hr:∀ k u,Inv k u->jE lo u a len cap xs) (h0:Inv 0 w)
  (hs:∀ k u,k<len->(∀ j,j<k->p j=false)->Inv k u->Calls Tryz.prog 72 #[.agg #[.int .i64 (Pl.gl xs k).k,.int .i64 (Pl.gl xs k).op,.int .i64 (Pl.gl xs k).rd,.int .i64 (Pl.gl xs k).r1,.int .i64 (Pl.gl xs k).r2,.int .i64 (Pl.gl xs k).im,.string (Pl.gl xs k).s,.int .i64 (Pl.gl xs k).n]] u fun e u'=>e=.returned (.bool (p k))/\Inv (k+1) u') :
  Calls Tryz.prog 71 #[.slice a len cap,.func (.func 72) #[] #[]] w fun e w'=>e=.returned (.int .i64 (Pl.aV p len))/\∃ k,k<=len/\Inv k w'/\(Pl.aV p len=-1->k=len):=by
 have hm:=((hr 0 w h0).len).2
 have HR:Hid (∀ k u,Inv k u->jE lo u a len cap xs):=hr
 have H0:Hid (Inv 0 w):=h0
 have HS:Hid (∀ k u,k<len->(∀ j,j<k->p j=false)->Inv k u->Calls Tryz.prog 72 #[.agg #[.int .i64 (Pl.gl xs k).k,.int .i64 (Pl.gl xs k).op,.int .i64 (Pl.gl xs k).rd,.int .i64 (Pl.gl xs k).r1,.int .i64 (Pl.gl xs k).r2,.int .i64 (Pl.gl xs k).im,.string (Pl.gl xs k).s,.int .i64 (Pl.gl xs k).n]] u fun e u'=>e=.returned (.bool (p k))/\Inv (k+1) u'):=hs
 clear hr h0 hs
 go_enter Tryz.func71,Tryz.ntmps71
 go_wp2_with fail
 go_loopw [8] (fun i wr=>∃ k:Nat,k<=len/\i=.int .i64 k/\(∀ j,j<k->p j=false)/\Inv k wr) (fun i _=>len-(intOf i).toNat)
 case atStart=>exact⟨0,Nat.zero_le _,rfl,fun j hj=>absurd hj (Nat.not_lt_zero _),H0.out⟩
 case round=>
  obtain⟨k,hk,rfl,hall,hinv⟩:=hrel
  have HA:Hid (∀ j,j<k->p j=false):=hall
  have HI:Hid (Inv k wr):=hinv
  clear hall hinv
  by_cases hlt:k<len
  ·have hi:(k:Int)<(len:Int):=by omega
   obtain⟨b,off,rfl,hlo,hb1,hsz,c0,c1,c2,c3,c4,c5,c6,c7⟩:=(HR.out k wr HI.out).at k hlt
   have HC:Hid (Calls Tryz.prog 72 #[.agg #[.int .i64 (Pl.gl xs k).k,.int .i64 (Pl.gl xs k).op,.int .i64 (Pl.gl xs k).rd,.int .i64 (Pl.gl xs k).r1,.int .i64 (Pl.gl xs k).r2,.int .i64 (Pl.gl xs k).im,.string (Pl.gl xs k).s,.int .i64 (Pl.gl xs k).n]] wr fun e u'=>e=.returned (.bool (p k))/\Inv (k+1) u'):=HS.out k wr hlt HA.out HI.out
   generalize Pl.gl xs k=x at *
   cases hp:p k
   ·rw[hp]at HC
    go_wp2_with (go_at_call 72;refine HC.out.mono ?_;rintro e u1 ⟨rfl,hn⟩)
    exact⟨⟨k+1,by omega,by go_num,Pl.gJ HA.out hp,hn⟩,by simp[intOf];omega⟩
   ·rw[hp]at HC
    go_wp2_with (go_at_call 72;refine HC.out.mono ?_;rintro e u1 ⟨rfl,hn⟩)
    go_ret
    have hf:=Pl.kS p len k hlt hp HA.out
    refine⟨aO hf.symm,k+1,by omega,hn,fun q=>?_⟩
    rw[hf]at q;omega
  ·have hkk:k=len:=by omega
   have hi:¬ ((k:Int)<(len:Int)):=by omega
   go_wp2
   go_ret
   have hf:=Pl.iV p len (fun j hj=>HA.out j (by omega))
   exact⟨aO hf.symm,k,hk,HI.out,fun _=>hkk⟩
theorem xD {lo:Nat} (a:Option Addr) (len cap:Nat) (xs:List Pl.Ln) (v1:Value) (w:World) (p:Nat->Bool) (Inv:Nat->World->Prop) (hr:∀ k u,Inv k u->jE lo u a len cap xs) (h0:Inv 0 w)
  (hs:∀ k u,k<len->(∀ j,j<k->p j=false)->Inv k u->Calls Tryz.prog 74 #[.agg #[.int .i64 (Pl.gl xs k).k,.int .i64 (Pl.gl xs k).op,.int .i64 (Pl.gl xs k).rd,.int .i64 (Pl.gl xs k).r1,.int .i64 (Pl.gl xs k).r2,.int .i64 (Pl.gl xs k).im,.string (Pl.gl xs k).s,.int .i64 (Pl.gl xs k).n],v1] u fun e u'=>e=.returned (.bool (p k))/\Inv (k+1) u') :
  Calls Tryz.prog 71 #[.slice a len cap,.func (.func 74) #[] #[v1]] w fun e w'=>e=.returned (.int .i64 (Pl.aV p len))/\∃ k,k<=len/\Inv k w'/\(Pl.aV p len=-1->k=len):=by
 have hm:=((hr 0 w h0).len).2
 have HR:Hid (∀ k u,Inv k u->jE lo u a len cap xs):=hr
 have H0:Hid (Inv 0 w):=h0
 have HS:Hid (∀ k u,k<len->(∀ j,j<k->p j=false)->Inv k u->Calls Tryz.prog 74 #[.agg #[.int .i64 (Pl.gl xs k).k,.int .i64 (Pl.gl xs k).op,.int .i64 (Pl.gl xs k).rd,.int .i64 (Pl.gl xs k).r1,.int .i64 (Pl.gl xs k).r2,.int .i64 (Pl.gl xs k).im,.string (Pl.gl xs k).s,.int .i64 (Pl.gl xs k).n],v1] u fun e u'=>e=.returned (.bool (p k))/\Inv (k+1) u'):=hs
 clear hr h0 hs
 go_enter Tryz.func71,Tryz.ntmps71
 go_wp2_with fail
 go_loopw [8] (fun i wr=>∃ k:Nat,k<=len/\i=.int .i64 k/\(∀ j,j<k->p j=false)/\Inv k wr) (fun i _=>len-(intOf i).toNat)
 case atStart=>exact⟨0,Nat.zero_le _,rfl,fun j hj=>absurd hj (Nat.not_lt_zero _),H0.out⟩
 case round=>
  obtain⟨k,hk,rfl,hall,hinv⟩:=hrel
  have HA:Hid (∀ j,j<k->p j=false):=hall
  have HI:Hid (Inv k wr):=hinv
  clear hall hinv
  by_cases hlt:k<len
  ·have hi:(k:Int)<(len:Int):=by omega
   obtain⟨b,off,rfl,hlo,hb1,hsz,c0,c1,c2,c3,c4,c5,c6,c7⟩:=(HR.out k wr HI.out).at k hlt
   have HC:Hid (Calls Tryz.prog 74 #[.agg #[.int .i64 (Pl.gl xs k).k,.int .i64 (Pl.gl xs k).op,.int .i64 (Pl.gl xs k).rd,.int .i64 (Pl.gl xs k).r1,.int .i64 (Pl.gl xs k).r2,.int .i64 (Pl.gl xs k).im,.string (Pl.gl xs k).s,.int .i64 (Pl.gl xs k).n],v1] wr fun e u'=>e=.returned (.bool (p k))/\Inv (k+1) u'):=HS.out k wr hlt HA.out HI.out
   generalize Pl.gl xs k=x at *
   cases hp:p k
   ·rw[hp]at HC
    go_wp2_with (go_at_call 74;refine HC.out.mono ?_;rintro e u1 ⟨rfl,hn⟩)
    exact⟨⟨k+1,by omega,by go_num,Pl.gJ HA.out hp,hn⟩,by simp[intOf];omega⟩
   ·rw[hp]at HC
    go_wp2_with (go_at_call 74;refine HC.out.mono ?_;rintro e u1 ⟨rfl,hn⟩)
    go_ret
    have hf:=Pl.kS p len k hlt hp HA.out
    refine⟨aO hf.symm,k+1,by omega,hn,fun q=>?_⟩
    rw[hf]at q;omega
  ·have hkk:k=len:=by omega
   have hi:¬ ((k:Int)<(len:Int)):=by omega
   go_wp2
   go_ret
   have hf:=Pl.iV p len (fun j hj=>HA.out j (by omega))
   exact⟨aO hf.symm,k,hk,HI.out,fun _=>hkk⟩
theorem wB {lo:Nat} (a:Option Addr) (len cap:Nat) (xs:List Pl.Ln) (v1:Value) (w:World) (p:Nat->Bool) (Inv:Nat->World->Prop) (hr:∀ k u,Inv k u->jE lo u a len cap xs) (h0:Inv 0 w)
  (hs:∀ k u,k<len->(∀ j,j<k->p j=false)->Inv k u->Calls Tryz.prog 78 #[.agg #[.int .i64 (Pl.gl xs k).k,.int .i64 (Pl.gl xs k).op,.int .i64 (Pl.gl xs k).rd,.int .i64 (Pl.gl xs k).r1,.int .i64 (Pl.gl xs k).r2,.int .i64 (Pl.gl xs k).im,.string (Pl.gl xs k).s,.int .i64 (Pl.gl xs k).n],v1] u fun e u'=>e=.returned (.bool (p k))/\Inv (k+1) u') :
  Calls Tryz.prog 71 #[.slice a len cap,.func (.func 78) #[] #[v1]] w fun e w'=>e=.returned (.int .i64 (Pl.aV p len))/\∃ k,k<=len/\Inv k w'/\(Pl.aV p len=-1->k=len):=by
 have hm:=((hr 0 w h0).len).2
 have HR:Hid (∀ k u,Inv k u->jE lo u a len cap xs):=hr
 have H0:Hid (Inv 0 w):=h0
 have HS:Hid (∀ k u,k<len->(∀ j,j<k->p j=false)->Inv k u->Calls Tryz.prog 78 #[.agg #[.int .i64 (Pl.gl xs k).k,.int .i64 (Pl.gl xs k).op,.int .i64 (Pl.gl xs k).rd,.int .i64 (Pl.gl xs k).r1,.int .i64 (Pl.gl xs k).r2,.int .i64 (Pl.gl xs k).im,.string (Pl.gl xs k).s,.int .i64 (Pl.gl xs k).n],v1] u fun e u'=>e=.returned (.bool (p k))/\Inv (k+1) u'):=hs
 clear hr h0 hs
 go_enter Tryz.func71,Tryz.ntmps71
 go_wp2_with fail
 go_loopw [8] (fun i wr=>∃ k:Nat,k<=len/\i=.int .i64 k/\(∀ j,j<k->p j=false)/\Inv k wr) (fun i _=>len-(intOf i).toNat)
 case atStart=>exact⟨0,Nat.zero_le _,rfl,fun j hj=>absurd hj (Nat.not_lt_zero _),H0.out⟩
 case round=>
  obtain⟨k,hk,rfl,hall,hinv⟩:=hrel
  have HA:Hid (∀ j,j<k->p j=false):=hall
  have HI:Hid (Inv k wr):=hinv
  clear hall hinv
  by_cases hlt:k<len
  ·have hi:(k:Int)<(len:Int):=by omega
   obtain⟨b,off,rfl,hlo,hb1,hsz,c0,c1,c2,c3,c4,c5,c6,c7⟩:=(HR.out k wr HI.out).at k hlt
   have HC:Hid (Calls Tryz.prog 78 #[.agg #[.int .i64 (Pl.gl xs k).k,.int .i64 (Pl.gl xs k).op,.int .i64 (Pl.gl xs k).rd,.int .i64 (Pl.gl xs k).r1,.int .i64 (Pl.gl xs k).r2,.int .i64 (Pl.gl xs k).im,.string (Pl.gl xs k).s,.int .i64 (Pl.gl xs k).n],v1] wr fun e u'=>e=.returned (.bool (p k))/\Inv (k+1) u'):=HS.out k wr hlt HA.out HI.out
   generalize Pl.gl xs k=x at *
   cases hp:p k
   ·rw[hp]at HC
    go_wp2_with (go_at_call 78;refine HC.out.mono ?_;rintro e u1 ⟨rfl,hn⟩)
    exact⟨⟨k+1,by omega,by go_num,Pl.gJ HA.out hp,hn⟩,by simp[intOf];omega⟩
   ·rw[hp]at HC
    go_wp2_with (go_at_call 78;refine HC.out.mono ?_;rintro e u1 ⟨rfl,hn⟩)
    go_ret
    have hf:=Pl.kS p len k hlt hp HA.out
    refine⟨aO hf.symm,k+1,by omega,hn,fun q=>?_⟩
    rw[hf]at q;omega
  ·have hkk:k=len:=by omega
   have hi:¬ ((k:Int)<(len:Int)):=by omega
   go_wp2
   go_ret
   have hf:=Pl.iV p len (fun j hj=>HA.out j (by omega))
   exact⟨aO hf.symm,k,hk,HI.out,fun _=>hkk⟩
theorem zW {lo:Nat} (a:Option Addr) (len cap:Nat) (xs:List Pl.Ln) (v1 v2:Value) (w:World) (p:Nat->Bool) (Inv:Nat->World->Prop) (hr:∀ k u,Inv k u->jE lo u a len cap xs) (h0:Inv 0 w)
  (hs:∀ k u,k<len->(∀ j,j<k->p j=false)->Inv k u->Calls Tryz.prog 81 #[.agg #[.int .i64 (Pl.gl xs k).k,.int .i64 (Pl.gl xs k).op,.int .i64 (Pl.gl xs k).rd,.int .i64 (Pl.gl xs k).r1,.int .i64 (Pl.gl xs k).r2,.int .i64 (Pl.gl xs k).im,.string (Pl.gl xs k).s,.int .i64 (Pl.gl xs k).n],v1,v2] u fun e u'=>e=.returned (.bool (p k))/\Inv (k+1) u') :
  Calls Tryz.prog 71 #[.slice a len cap,.func (.func 81) #[] #[v1,v2]] w fun e w'=>e=.returned (.int .i64 (Pl.aV p len))/\∃ k,k<=len/\Inv k w'/\(Pl.aV p len=-1->k=len):=by
 have hm:=((hr 0 w h0).len).2
 have HR:Hid (∀ k u,Inv k u->jE lo u a len cap xs):=hr
 have H0:Hid (Inv 0 w):=h0
 have HS:Hid (∀ k u,k<len->(∀ j,j<k->p j=false)->Inv k u->Calls Tryz.prog 81 #[.agg #[.int .i64 (Pl.gl xs k).k,.int .i64 (Pl.gl xs k).op,.int .i64 (Pl.gl xs k).rd,.int .i64 (Pl.gl xs k).r1,.int .i64 (Pl.gl xs k).r2,.int .i64 (Pl.gl xs k).im,.string (Pl.gl xs k).s,.int .i64 (Pl.gl xs k).n],v1,v2] u fun e u'=>e=.returned (.bool (p k))/\Inv (k+1) u'):=hs
 clear hr h0 hs
 go_enter Tryz.func71,Tryz.ntmps71
 go_wp2_with fail
 go_loopw [8] (fun i wr=>∃ k:Nat,k<=len/\i=.int .i64 k/\(∀ j,j<k->p j=false)/\Inv k wr) (fun i _=>len-(intOf i).toNat)
 case atStart=>exact⟨0,Nat.zero_le _,rfl,fun j hj=>absurd hj (Nat.not_lt_zero _),H0.out⟩
 case round=>
  obtain⟨k,hk,rfl,hall,hinv⟩:=hrel
  have HA:Hid (∀ j,j<k->p j=false):=hall
  have HI:Hid (Inv k wr):=hinv
  clear hall hinv
  by_cases hlt:k<len
  ·have hi:(k:Int)<(len:Int):=by omega
   obtain⟨b,off,rfl,hlo,hb1,hsz,c0,c1,c2,c3,c4,c5,c6,c7⟩:=(HR.out k wr HI.out).at k hlt
   have HC:Hid (Calls Tryz.prog 81 #[.agg #[.int .i64 (Pl.gl xs k).k,.int .i64 (Pl.gl xs k).op,.int .i64 (Pl.gl xs k).rd,.int .i64 (Pl.gl xs k).r1,.int .i64 (Pl.gl xs k).r2,.int .i64 (Pl.gl xs k).im,.string (Pl.gl xs k).s,.int .i64 (Pl.gl xs k).n],v1,v2] wr fun e u'=>e=.returned (.bool (p k))/\Inv (k+1) u'):=HS.out k wr hlt HA.out HI.out
   generalize Pl.gl xs k=x at *
   cases hp:p k
   ·rw[hp]at HC
    go_wp2_with (go_at_call 81;refine HC.out.mono ?_;rintro e u1 ⟨rfl,hn⟩)
    exact⟨⟨k+1,by omega,by go_num,Pl.gJ HA.out hp,hn⟩,by simp[intOf];omega⟩
   ·rw[hp]at HC
    go_wp2_with (go_at_call 81;refine HC.out.mono ?_;rintro e u1 ⟨rfl,hn⟩)
    go_ret
    have hf:=Pl.kS p len k hlt hp HA.out
    refine⟨aO hf.symm,k+1,by omega,hn,fun q=>?_⟩
    rw[hf]at q;omega
  ·have hkk:k=len:=by omega
   have hi:¬ ((k:Int)<(len:Int)):=by omega
   go_wp2
   go_ret
   have hf:=Pl.iV p len (fun j hj=>HA.out j (by omega))
   exact⟨aO hf.symm,k,hk,HI.out,fun _=>hkk⟩
end Go.Proofs.YtlbomnnldkeocaaGreat.W
