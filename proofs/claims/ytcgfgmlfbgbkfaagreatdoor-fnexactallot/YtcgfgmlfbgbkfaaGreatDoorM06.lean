import Derived.Test.YtcgfgmlfbgbkfaaGreatDoorM04
import Derived.Test.YtcgfgmlfbgbkfaaGreatDoorM01
import Derived.Laws.AppendOwnNone
import Derived.Lib.SliceRun
import Derived.Deep.AppendLies
set_option linter.unusedVariables false
set_option linter.unusedSimpArgs false
set_option maxHeartbeats 16000000
namespace Go.Proofs.YtcgfgmlfbgbkfaaGreatDoor.W
open Go.RowKit
def stV (k:Nat) (x:Pl.IrI) (y:SV):Value:=match k with
 | 1=>.iface 151 (.agg #[.int .i64 x.d,.int .i64 x.n])
 | 2=>.iface 153 (.agg #[.int .i64 x.a,.int .i64 x.d])
 | 3=>.iface 155 (.agg #[.int .i64 x.a,.int .i64 x.b,.int .i64 x.d,.int .i64 x.n])
 | 4=>.iface 157 (.agg #[.int .i64 x.a,.int .i64 x.d,.int .i64 x.n])
 | 5=>.iface 158 (.agg #[.int .i64 x.a,.int .i64 x.d,.int .i64 x.n])
 | 6=>.iface 161 (.agg #[.int .i64 x.a,.int .i64 x.b,.int .i64 x.n])
 | 7=>.iface 163 (.agg #[.int .i64 x.d,.string x.sym,.int .i64 x.n])
 | 8=>.iface 165 (.agg #[.int .i64 x.d,.int .i64 x.n])
 | 9=>.iface 168 (.agg #[.int .i64 x.d,.string x.sym,.slice y.a y.len y.cap])
 | 10=>.iface 170 (.agg #[.int .i64 x.d,.int .i64 x.a,.slice y.a y.len y.cap])
 | 11=>.iface 172 (.agg #[.int .i64 x.n])
 | 12=>.iface 173 (.agg #[.int .i64 x.n])
 | 13=>.iface 175 (.agg #[.int .i64 x.a,.int .i64 x.b,.string x.sym,.int .i64 x.n])
 | 14=>.iface 177 (.agg #[.int .i64 x.a])
 | 15=>.iface 179 (.agg #[.int .i64 x.a,.int .i64 x.b,.int .i64 x.n])
 | 16=>.iface 181 (.agg #[.int .i64 x.a,.int .i64 x.n])
 | _=>.nilIface
set_option maxRecDepth 100000 in
theorem rs0_is (x:Pl.IrI) (y:SV) (g:Nat) (w:World) (hg:g=w.heap.size) (K:Act->World->Prop) (Q:Exit->Act->World->Prop)
  (hK:K { tmps:=#[.agg #[.int .i64 x.op,.int .i64 x.d,.int .i64 x.a,.int .i64 x.b,.int .i64 x.n,.string x.sym,.slice y.a y.len y.cap],.pointer (some ⟨g,0,none⟩),.nilIface,.bool false,undef,undef,undef,undef,undef,undef,undef,undef,undef,undef,undef,undef,undef,undef,undef,undef,undef,undef,undef,undef,undef,undef,undef,undef,undef,undef,undef,undef,undef,undef,undef,undef,undef,undef,undef,undef,undef,undef,undef,undef,undef,undef,undef,undef,undef,undef,undef,undef,undef,undef,undef,undef,undef,undef,undef,undef,undef,undef,undef,undef,undef,undef,undef,undef,undef,undef,undef,undef,undef,undef,undef,undef,undef,undef,undef,undef,undef,undef,undef,undef,undef,undef,undef,undef,undef,undef,undef,undef,undef,undef,undef,undef,undef,undef,undef,undef,undef,undef,undef,undef,undef,undef,undef,undef,undef,undef,undef,undef,undef,undef,undef,undef,undef,undef,undef,undef,undef,undef,undef,undef,undef,undef,undef,undef,undef,undef,undef,undef,undef,undef,undef,undef,undef,undef,undef,undef,undef,undef,undef],defers:=[] } (w.alloc (.cells #[.int .i64 x.op,.int .i64 x.d,.int .i64 x.a,.int .i64 x.b,.int .i64 x.n,.string x.sym,.slice y.a y.len y.cap] 81))) :
  (rsC 0).wp Tryz.prog (Exit.then K Q) { tmps:=#[.agg #[.int .i64 x.op,.int .i64 x.d,.int .i64 x.a,.int .i64 x.b,.int .i64 x.n,.string x.sym,.slice y.a y.len y.cap],undef,undef,undef,undef,undef,undef,undef,undef,undef,undef,undef,undef,undef,undef,undef,undef,undef,undef,undef,undef,undef,undef,undef,undef,undef,undef,undef,undef,undef,undef,undef,undef,undef,undef,undef,undef,undef,undef,undef,undef,undef,undef,undef,undef,undef,undef,undef,undef,undef,undef,undef,undef,undef,undef,undef,undef,undef,undef,undef,undef,undef,undef,undef,undef,undef,undef,undef,undef,undef,undef,undef,undef,undef,undef,undef,undef,undef,undef,undef,undef,undef,undef,undef,undef,undef,undef,undef,undef,undef,undef,undef,undef,undef,undef,undef,undef,undef,undef,undef,undef,undef,undef,undef,undef,undef,undef,undef,undef,undef,undef,undef,undef,undef,undef,undef,undef,undef,undef,undef,undef,undef,undef,undef,undef,undef,undef,undef,undef,undef,undef,undef,undef,undef,undef,undef,undef,undef,undef,undef,undef,undef,undef],defers:=[] } w:=by
 subst hg
 have HKt:Hid _:=hK
 clear hK
 conv=>arg 2;whnf
 go_wp2_with fail
 exact HKt.out
set_option maxRecDepth 100000 in
theorem readStep_1 (x:Pl.IrI) (y:SV) (w:World) (h:x.op=1):Calls Tryz.prog 58 #[.agg #[.int .i64 x.op,.int .i64 x.d,.int .i64 x.a,.int .i64 x.b,.int .i64 x.n,.string x.sym,.slice y.a y.len y.cap]] w fun e w'=>e=.returned (.tuple #[.iface 151 (.agg #[.int .i64 x.d,.int .i64 x.n]),.bool true])/\Below w.heap.size w w':=by
 have e1:(x.op == 1)=true:=by simp;omega
 clear h
 go_enter Tryz.func58,Tryz.ntmps58
 refine wp_seq ?_
 refine rs0_is x y w.heap.size w rfl _ _ ?_
 have hnb:(w.alloc (.cells #[.int .i64 x.op,.int .i64 x.d,.int .i64 x.a,.int .i64 x.b,.int .i64 x.n,.string x.sym,.slice y.a y.len y.cap] 81)).heap[w.heap.size]?=some (.cells #[.int .i64 x.op,.int .i64 x.d,.int .i64 x.a,.int .i64 x.b,.int .i64 x.n,.string x.sym,.slice y.a y.len y.cap] 81 (0,0)):=heap_alloc_new w _
 have HB0:Hid (Below w.heap.size w (w.alloc (.cells #[.int .i64 x.op,.int .i64 x.d,.int .i64 x.a,.int .i64 x.b,.int .i64 x.n,.string x.sym,.slice y.a y.len y.cap] 81))):=below_alloc _ _
 generalize w.alloc (.cells #[.int .i64 x.op,.int .i64 x.d,.int .i64 x.a,.int .i64 x.b,.int .i64 x.n,.string x.sym,.slice y.a y.len y.cap] 81)=w0 at *
 refine wp_seq ?_
 refine rs1_is x y w.heap.size w0 hnb _ _ ?_
 intro s7 s8 s9 s10 s11 s12 s13 s14 s15 s16 s17 g4 g5 g6 w1 hb1 k4 k5 k6
 have hbx:=(hb1.block _ (Array.getElem?_eq_some_iff.1 hnb).1).trans hnb
 have HB:Hid (Below w.heap.size w w1):=HB0.out.trans (hb1.mono HB0.out.size)
 have b0:=cell_of_row w1 w.heap.size 0 _ 81 (0,0) hbx
 have b1:=cell_of_row w1 w.heap.size 1 _ 81 (0,0) hbx
 have b2:=cell_of_row w1 w.heap.size 2 _ 81 (0,0) hbx
 have b3:=cell_of_row w1 w.heap.size 3 _ 81 (0,0) hbx
 have b4:=cell_of_row w1 w.heap.size 4 _ 81 (0,0) hbx
 have b5:=cell_of_row w1 w.heap.size 5 _ 81 (0,0) hbx
 have b6:=cell_of_row w1 w.heap.size 6 _ 81 (0,0) hbx
 have q4:=cell_of_row w1 g4 0 _ 143 (0,0) k4
 have q5:=cell_of_row w1 g5 0 _ 145 (0,0) k5
 have r5:=cell_of_row w1 g5 1 _ 145 (0,0) k5
 have q6:=cell_of_row w1 g6 0 _ 147 (0,0) k6
 simp only[List.getElem?_toArray,List.getElem?_cons_zero,List.getElem?_cons_succ]at b0 b1 b2 b3 b4 b5 b6 q4 q5 r5 q6
 clear hb1 hnb k4 k5 k6 hbx HB0
 go_wp2_with fail
 go_ret2
 exact⟨rfl,HB.out⟩
set_option maxRecDepth 100000 in
theorem readStep_2 (x:Pl.IrI) (y:SV) (w:World) (h:x.op=2):Calls Tryz.prog 58 #[.agg #[.int .i64 x.op,.int .i64 x.d,.int .i64 x.a,.int .i64 x.b,.int .i64 x.n,.string x.sym,.slice y.a y.len y.cap]] w fun e w'=>e=.returned (.tuple #[.iface 153 (.agg #[.int .i64 x.a,.int .i64 x.d]),.bool true])/\Below w.heap.size w w':=by
 have e1:(x.op == 1)=false:=by simp;omega
 have e2:(x.op == 2)=true:=by simp;omega
 clear h
 go_enter Tryz.func58,Tryz.ntmps58
 refine wp_seq ?_
 refine rs0_is x y w.heap.size w rfl _ _ ?_
 have hnb:(w.alloc (.cells #[.int .i64 x.op,.int .i64 x.d,.int .i64 x.a,.int .i64 x.b,.int .i64 x.n,.string x.sym,.slice y.a y.len y.cap] 81)).heap[w.heap.size]?=some (.cells #[.int .i64 x.op,.int .i64 x.d,.int .i64 x.a,.int .i64 x.b,.int .i64 x.n,.string x.sym,.slice y.a y.len y.cap] 81 (0,0)):=heap_alloc_new w _
 have HB0:Hid (Below w.heap.size w (w.alloc (.cells #[.int .i64 x.op,.int .i64 x.d,.int .i64 x.a,.int .i64 x.b,.int .i64 x.n,.string x.sym,.slice y.a y.len y.cap] 81))):=below_alloc _ _
 generalize w.alloc (.cells #[.int .i64 x.op,.int .i64 x.d,.int .i64 x.a,.int .i64 x.b,.int .i64 x.n,.string x.sym,.slice y.a y.len y.cap] 81)=w0 at *
 refine wp_seq ?_
 refine rs1_is x y w.heap.size w0 hnb _ _ ?_
 intro s7 s8 s9 s10 s11 s12 s13 s14 s15 s16 s17 g4 g5 g6 w1 hb1 k4 k5 k6
 have hbx:=(hb1.block _ (Array.getElem?_eq_some_iff.1 hnb).1).trans hnb
 have HB:Hid (Below w.heap.size w w1):=HB0.out.trans (hb1.mono HB0.out.size)
 have b0:=cell_of_row w1 w.heap.size 0 _ 81 (0,0) hbx
 have b1:=cell_of_row w1 w.heap.size 1 _ 81 (0,0) hbx
 have b2:=cell_of_row w1 w.heap.size 2 _ 81 (0,0) hbx
 have b3:=cell_of_row w1 w.heap.size 3 _ 81 (0,0) hbx
 have b4:=cell_of_row w1 w.heap.size 4 _ 81 (0,0) hbx
 have b5:=cell_of_row w1 w.heap.size 5 _ 81 (0,0) hbx
 have b6:=cell_of_row w1 w.heap.size 6 _ 81 (0,0) hbx
 have q4:=cell_of_row w1 g4 0 _ 143 (0,0) k4
 have q5:=cell_of_row w1 g5 0 _ 145 (0,0) k5
 have r5:=cell_of_row w1 g5 1 _ 145 (0,0) k5
 have q6:=cell_of_row w1 g6 0 _ 147 (0,0) k6
 simp only[List.getElem?_toArray,List.getElem?_cons_zero,List.getElem?_cons_succ]at b0 b1 b2 b3 b4 b5 b6 q4 q5 r5 q6
 clear hb1 hnb k4 k5 k6 hbx HB0
 go_wp2_with fail
 go_ret2
 exact⟨rfl,HB.out⟩
set_option maxRecDepth 100000 in
theorem readStep_3 (x:Pl.IrI) (y:SV) (w:World) (h:x.op=3):Calls Tryz.prog 58 #[.agg #[.int .i64 x.op,.int .i64 x.d,.int .i64 x.a,.int .i64 x.b,.int .i64 x.n,.string x.sym,.slice y.a y.len y.cap]] w fun e w'=>e=.returned (.tuple #[.iface 155 (.agg #[.int .i64 x.a,.int .i64 x.b,.int .i64 x.d,.int .i64 x.n]),.bool true])/\Below w.heap.size w w':=by
 have e1:(x.op == 1)=false:=by simp;omega
 have e2:(x.op == 2)=false:=by simp;omega
 have e3:(x.op == 3)=true:=by simp;omega
 clear h
 go_enter Tryz.func58,Tryz.ntmps58
 refine wp_seq ?_
 refine rs0_is x y w.heap.size w rfl _ _ ?_
 have hnb:(w.alloc (.cells #[.int .i64 x.op,.int .i64 x.d,.int .i64 x.a,.int .i64 x.b,.int .i64 x.n,.string x.sym,.slice y.a y.len y.cap] 81)).heap[w.heap.size]?=some (.cells #[.int .i64 x.op,.int .i64 x.d,.int .i64 x.a,.int .i64 x.b,.int .i64 x.n,.string x.sym,.slice y.a y.len y.cap] 81 (0,0)):=heap_alloc_new w _
 have HB0:Hid (Below w.heap.size w (w.alloc (.cells #[.int .i64 x.op,.int .i64 x.d,.int .i64 x.a,.int .i64 x.b,.int .i64 x.n,.string x.sym,.slice y.a y.len y.cap] 81))):=below_alloc _ _
 generalize w.alloc (.cells #[.int .i64 x.op,.int .i64 x.d,.int .i64 x.a,.int .i64 x.b,.int .i64 x.n,.string x.sym,.slice y.a y.len y.cap] 81)=w0 at *
 refine wp_seq ?_
 refine rs1_is x y w.heap.size w0 hnb _ _ ?_
 intro s7 s8 s9 s10 s11 s12 s13 s14 s15 s16 s17 g4 g5 g6 w1 hb1 k4 k5 k6
 have hbx:=(hb1.block _ (Array.getElem?_eq_some_iff.1 hnb).1).trans hnb
 have HB:Hid (Below w.heap.size w w1):=HB0.out.trans (hb1.mono HB0.out.size)
 have b0:=cell_of_row w1 w.heap.size 0 _ 81 (0,0) hbx
 have b1:=cell_of_row w1 w.heap.size 1 _ 81 (0,0) hbx
 have b2:=cell_of_row w1 w.heap.size 2 _ 81 (0,0) hbx
 have b3:=cell_of_row w1 w.heap.size 3 _ 81 (0,0) hbx
 have b4:=cell_of_row w1 w.heap.size 4 _ 81 (0,0) hbx
 have b5:=cell_of_row w1 w.heap.size 5 _ 81 (0,0) hbx
 have b6:=cell_of_row w1 w.heap.size 6 _ 81 (0,0) hbx
 have q4:=cell_of_row w1 g4 0 _ 143 (0,0) k4
 have q5:=cell_of_row w1 g5 0 _ 145 (0,0) k5
 have r5:=cell_of_row w1 g5 1 _ 145 (0,0) k5
 have q6:=cell_of_row w1 g6 0 _ 147 (0,0) k6
 simp only[List.getElem?_toArray,List.getElem?_cons_zero,List.getElem?_cons_succ]at b0 b1 b2 b3 b4 b5 b6 q4 q5 r5 q6
 clear hb1 hnb k4 k5 k6 hbx HB0
 go_wp2_with fail
 go_ret2
 exact⟨rfl,HB.out⟩
set_option maxRecDepth 100000 in
theorem readStep_4 (x:Pl.IrI) (y:SV) (w:World) (h:x.op=4):Calls Tryz.prog 58 #[.agg #[.int .i64 x.op,.int .i64 x.d,.int .i64 x.a,.int .i64 x.b,.int .i64 x.n,.string x.sym,.slice y.a y.len y.cap]] w fun e w'=>e=.returned (.tuple #[.iface 157 (.agg #[.int .i64 x.a,.int .i64 x.d,.int .i64 x.n]),.bool true])/\Below w.heap.size w w':=by
 have e1:(x.op == 1)=false:=by simp;omega
 have e2:(x.op == 2)=false:=by simp;omega
 have e3:(x.op == 3)=false:=by simp;omega
 have e4:(x.op == 4)=true:=by simp;omega
 clear h
 go_enter Tryz.func58,Tryz.ntmps58
 refine wp_seq ?_
 refine rs0_is x y w.heap.size w rfl _ _ ?_
 have hnb:(w.alloc (.cells #[.int .i64 x.op,.int .i64 x.d,.int .i64 x.a,.int .i64 x.b,.int .i64 x.n,.string x.sym,.slice y.a y.len y.cap] 81)).heap[w.heap.size]?=some (.cells #[.int .i64 x.op,.int .i64 x.d,.int .i64 x.a,.int .i64 x.b,.int .i64 x.n,.string x.sym,.slice y.a y.len y.cap] 81 (0,0)):=heap_alloc_new w _
 have HB0:Hid (Below w.heap.size w (w.alloc (.cells #[.int .i64 x.op,.int .i64 x.d,.int .i64 x.a,.int .i64 x.b,.int .i64 x.n,.string x.sym,.slice y.a y.len y.cap] 81))):=below_alloc _ _
 generalize w.alloc (.cells #[.int .i64 x.op,.int .i64 x.d,.int .i64 x.a,.int .i64 x.b,.int .i64 x.n,.string x.sym,.slice y.a y.len y.cap] 81)=w0 at *
 refine wp_seq ?_
 refine rs1_is x y w.heap.size w0 hnb _ _ ?_
 intro s7 s8 s9 s10 s11 s12 s13 s14 s15 s16 s17 g4 g5 g6 w1 hb1 k4 k5 k6
 have hbx:=(hb1.block _ (Array.getElem?_eq_some_iff.1 hnb).1).trans hnb
 have HB:Hid (Below w.heap.size w w1):=HB0.out.trans (hb1.mono HB0.out.size)
 have b0:=cell_of_row w1 w.heap.size 0 _ 81 (0,0) hbx
 have b1:=cell_of_row w1 w.heap.size 1 _ 81 (0,0) hbx
 have b2:=cell_of_row w1 w.heap.size 2 _ 81 (0,0) hbx
 have b3:=cell_of_row w1 w.heap.size 3 _ 81 (0,0) hbx
 have b4:=cell_of_row w1 w.heap.size 4 _ 81 (0,0) hbx
 have b5:=cell_of_row w1 w.heap.size 5 _ 81 (0,0) hbx
 have b6:=cell_of_row w1 w.heap.size 6 _ 81 (0,0) hbx
 have q4:=cell_of_row w1 g4 0 _ 143 (0,0) k4
 have q5:=cell_of_row w1 g5 0 _ 145 (0,0) k5
 have r5:=cell_of_row w1 g5 1 _ 145 (0,0) k5
 have q6:=cell_of_row w1 g6 0 _ 147 (0,0) k6
 simp only[List.getElem?_toArray,List.getElem?_cons_zero,List.getElem?_cons_succ]at b0 b1 b2 b3 b4 b5 b6 q4 q5 r5 q6
 clear hb1 hnb k4 k5 k6 hbx HB0
 go_wp2_with fail
 go_ret2
 exact⟨rfl,HB.out⟩
set_option maxRecDepth 100000 in
theorem readStep_5 (x:Pl.IrI) (y:SV) (w:World) (h:x.op=5):Calls Tryz.prog 58 #[.agg #[.int .i64 x.op,.int .i64 x.d,.int .i64 x.a,.int .i64 x.b,.int .i64 x.n,.string x.sym,.slice y.a y.len y.cap]] w fun e w'=>e=.returned (.tuple #[.iface 158 (.agg #[.int .i64 x.a,.int .i64 x.d,.int .i64 x.n]),.bool true])/\Below w.heap.size w w':=by
 have e1:(x.op == 1)=false:=by simp;omega
 have e2:(x.op == 2)=false:=by simp;omega
 have e3:(x.op == 3)=false:=by simp;omega
 have e4:(x.op == 4)=false:=by simp;omega
 have e5:(x.op == 5)=true:=by simp;omega
 clear h
 go_enter Tryz.func58,Tryz.ntmps58
 refine wp_seq ?_
 refine rs0_is x y w.heap.size w rfl _ _ ?_
 have hnb:(w.alloc (.cells #[.int .i64 x.op,.int .i64 x.d,.int .i64 x.a,.int .i64 x.b,.int .i64 x.n,.string x.sym,.slice y.a y.len y.cap] 81)).heap[w.heap.size]?=some (.cells #[.int .i64 x.op,.int .i64 x.d,.int .i64 x.a,.int .i64 x.b,.int .i64 x.n,.string x.sym,.slice y.a y.len y.cap] 81 (0,0)):=heap_alloc_new w _
 have HB0:Hid (Below w.heap.size w (w.alloc (.cells #[.int .i64 x.op,.int .i64 x.d,.int .i64 x.a,.int .i64 x.b,.int .i64 x.n,.string x.sym,.slice y.a y.len y.cap] 81))):=below_alloc _ _
 generalize w.alloc (.cells #[.int .i64 x.op,.int .i64 x.d,.int .i64 x.a,.int .i64 x.b,.int .i64 x.n,.string x.sym,.slice y.a y.len y.cap] 81)=w0 at *
 refine wp_seq ?_
 refine rs1_is x y w.heap.size w0 hnb _ _ ?_
 intro s7 s8 s9 s10 s11 s12 s13 s14 s15 s16 s17 g4 g5 g6 w1 hb1 k4 k5 k6
 have hbx:=(hb1.block _ (Array.getElem?_eq_some_iff.1 hnb).1).trans hnb
 have HB:Hid (Below w.heap.size w w1):=HB0.out.trans (hb1.mono HB0.out.size)
 have b0:=cell_of_row w1 w.heap.size 0 _ 81 (0,0) hbx
 have b1:=cell_of_row w1 w.heap.size 1 _ 81 (0,0) hbx
 have b2:=cell_of_row w1 w.heap.size 2 _ 81 (0,0) hbx
 have b3:=cell_of_row w1 w.heap.size 3 _ 81 (0,0) hbx
 have b4:=cell_of_row w1 w.heap.size 4 _ 81 (0,0) hbx
 have b5:=cell_of_row w1 w.heap.size 5 _ 81 (0,0) hbx
 have b6:=cell_of_row w1 w.heap.size 6 _ 81 (0,0) hbx
 have q4:=cell_of_row w1 g4 0 _ 143 (0,0) k4
 have q5:=cell_of_row w1 g5 0 _ 145 (0,0) k5
 have r5:=cell_of_row w1 g5 1 _ 145 (0,0) k5
 have q6:=cell_of_row w1 g6 0 _ 147 (0,0) k6
 simp only[List.getElem?_toArray,List.getElem?_cons_zero,List.getElem?_cons_succ]at b0 b1 b2 b3 b4 b5 b6 q4 q5 r5 q6
 clear hb1 hnb k4 k5 k6 hbx HB0
 go_wp2_with fail
 go_ret2
 exact⟨rfl,HB.out⟩
set_option maxRecDepth 100000 in
theorem readStep_6 (x:Pl.IrI) (y:SV) (w:World) (h:x.op=6):Calls Tryz.prog 58 #[.agg #[.int .i64 x.op,.int .i64 x.d,.int .i64 x.a,.int .i64 x.b,.int .i64 x.n,.string x.sym,.slice y.a y.len y.cap]] w fun e w'=>e=.returned (.tuple #[.iface 161 (.agg #[.int .i64 x.a,.int .i64 x.b,.int .i64 x.n]),.bool true])/\Below w.heap.size w w':=by
 have e1:(x.op == 1)=false:=by simp;omega
 have e2:(x.op == 2)=false:=by simp;omega
 have e3:(x.op == 3)=false:=by simp;omega
 have e4:(x.op == 4)=false:=by simp;omega
 have e5:(x.op == 5)=false:=by simp;omega
 have e6:(x.op == 6)=true:=by simp;omega
 clear h
 go_enter Tryz.func58,Tryz.ntmps58
 refine wp_seq ?_
 refine rs0_is x y w.heap.size w rfl _ _ ?_
 have hnb:(w.alloc (.cells #[.int .i64 x.op,.int .i64 x.d,.int .i64 x.a,.int .i64 x.b,.int .i64 x.n,.string x.sym,.slice y.a y.len y.cap] 81)).heap[w.heap.size]?=some (.cells #[.int .i64 x.op,.int .i64 x.d,.int .i64 x.a,.int .i64 x.b,.int .i64 x.n,.string x.sym,.slice y.a y.len y.cap] 81 (0,0)):=heap_alloc_new w _
 have HB0:Hid (Below w.heap.size w (w.alloc (.cells #[.int .i64 x.op,.int .i64 x.d,.int .i64 x.a,.int .i64 x.b,.int .i64 x.n,.string x.sym,.slice y.a y.len y.cap] 81))):=below_alloc _ _
 generalize w.alloc (.cells #[.int .i64 x.op,.int .i64 x.d,.int .i64 x.a,.int .i64 x.b,.int .i64 x.n,.string x.sym,.slice y.a y.len y.cap] 81)=w0 at *
 refine wp_seq ?_
 refine rs1_is x y w.heap.size w0 hnb _ _ ?_
 intro s7 s8 s9 s10 s11 s12 s13 s14 s15 s16 s17 g4 g5 g6 w1 hb1 k4 k5 k6
 have hbx:=(hb1.block _ (Array.getElem?_eq_some_iff.1 hnb).1).trans hnb
 have HB:Hid (Below w.heap.size w w1):=HB0.out.trans (hb1.mono HB0.out.size)
 have b0:=cell_of_row w1 w.heap.size 0 _ 81 (0,0) hbx
 have b1:=cell_of_row w1 w.heap.size 1 _ 81 (0,0) hbx
 have b2:=cell_of_row w1 w.heap.size 2 _ 81 (0,0) hbx
 have b3:=cell_of_row w1 w.heap.size 3 _ 81 (0,0) hbx
 have b4:=cell_of_row w1 w.heap.size 4 _ 81 (0,0) hbx
 have b5:=cell_of_row w1 w.heap.size 5 _ 81 (0,0) hbx
 have b6:=cell_of_row w1 w.heap.size 6 _ 81 (0,0) hbx
 have q4:=cell_of_row w1 g4 0 _ 143 (0,0) k4
 have q5:=cell_of_row w1 g5 0 _ 145 (0,0) k5
 have r5:=cell_of_row w1 g5 1 _ 145 (0,0) k5
 have q6:=cell_of_row w1 g6 0 _ 147 (0,0) k6
 simp only[List.getElem?_toArray,List.getElem?_cons_zero,List.getElem?_cons_succ]at b0 b1 b2 b3 b4 b5 b6 q4 q5 r5 q6
 clear hb1 hnb k4 k5 k6 hbx HB0
 go_wp2_with fail
 go_ret2
 exact⟨rfl,HB.out⟩
set_option maxRecDepth 100000 in
theorem readStep_7 (x:Pl.IrI) (y:SV) (w:World) (h:x.op=7):Calls Tryz.prog 58 #[.agg #[.int .i64 x.op,.int .i64 x.d,.int .i64 x.a,.int .i64 x.b,.int .i64 x.n,.string x.sym,.slice y.a y.len y.cap]] w fun e w'=>e=.returned (.tuple #[.iface 163 (.agg #[.int .i64 x.d,.string x.sym,.int .i64 x.n]),.bool true])/\Below w.heap.size w w':=by
 have e1:(x.op == 1)=false:=by simp;omega
 have e2:(x.op == 2)=false:=by simp;omega
 have e3:(x.op == 3)=false:=by simp;omega
 have e4:(x.op == 4)=false:=by simp;omega
 have e5:(x.op == 5)=false:=by simp;omega
 have e6:(x.op == 6)=false:=by simp;omega
 have e7:(x.op == 7)=true:=by simp;omega
 clear h
 go_enter Tryz.func58,Tryz.ntmps58
 refine wp_seq ?_
 refine rs0_is x y w.heap.size w rfl _ _ ?_
 have hnb:(w.alloc (.cells #[.int .i64 x.op,.int .i64 x.d,.int .i64 x.a,.int .i64 x.b,.int .i64 x.n,.string x.sym,.slice y.a y.len y.cap] 81)).heap[w.heap.size]?=some (.cells #[.int .i64 x.op,.int .i64 x.d,.int .i64 x.a,.int .i64 x.b,.int .i64 x.n,.string x.sym,.slice y.a y.len y.cap] 81 (0,0)):=heap_alloc_new w _
 have HB0:Hid (Below w.heap.size w (w.alloc (.cells #[.int .i64 x.op,.int .i64 x.d,.int .i64 x.a,.int .i64 x.b,.int .i64 x.n,.string x.sym,.slice y.a y.len y.cap] 81))):=below_alloc _ _
 generalize w.alloc (.cells #[.int .i64 x.op,.int .i64 x.d,.int .i64 x.a,.int .i64 x.b,.int .i64 x.n,.string x.sym,.slice y.a y.len y.cap] 81)=w0 at *
 refine wp_seq ?_
 refine rs1_is x y w.heap.size w0 hnb _ _ ?_
 intro s7 s8 s9 s10 s11 s12 s13 s14 s15 s16 s17 g4 g5 g6 w1 hb1 k4 k5 k6
 have hbx:=(hb1.block _ (Array.getElem?_eq_some_iff.1 hnb).1).trans hnb
 have HB:Hid (Below w.heap.size w w1):=HB0.out.trans (hb1.mono HB0.out.size)
 have b0:=cell_of_row w1 w.heap.size 0 _ 81 (0,0) hbx
 have b1:=cell_of_row w1 w.heap.size 1 _ 81 (0,0) hbx
 have b2:=cell_of_row w1 w.heap.size 2 _ 81 (0,0) hbx
 have b3:=cell_of_row w1 w.heap.size 3 _ 81 (0,0) hbx
 have b4:=cell_of_row w1 w.heap.size 4 _ 81 (0,0) hbx
 have b5:=cell_of_row w1 w.heap.size 5 _ 81 (0,0) hbx
 have b6:=cell_of_row w1 w.heap.size 6 _ 81 (0,0) hbx
 have q4:=cell_of_row w1 g4 0 _ 143 (0,0) k4
 have q5:=cell_of_row w1 g5 0 _ 145 (0,0) k5
 have r5:=cell_of_row w1 g5 1 _ 145 (0,0) k5
 have q6:=cell_of_row w1 g6 0 _ 147 (0,0) k6
 simp only[List.getElem?_toArray,List.getElem?_cons_zero,List.getElem?_cons_succ]at b0 b1 b2 b3 b4 b5 b6 q4 q5 r5 q6
 clear hb1 hnb k4 k5 k6 hbx HB0
 go_wp2_with fail
 go_ret2
 exact⟨rfl,HB.out⟩
set_option maxRecDepth 100000 in
theorem readStep_8 (x:Pl.IrI) (y:SV) (w:World) (h:x.op=8):Calls Tryz.prog 58 #[.agg #[.int .i64 x.op,.int .i64 x.d,.int .i64 x.a,.int .i64 x.b,.int .i64 x.n,.string x.sym,.slice y.a y.len y.cap]] w fun e w'=>e=.returned (.tuple #[.iface 165 (.agg #[.int .i64 x.d,.int .i64 x.n]),.bool true])/\Below w.heap.size w w':=by
 have e1:(x.op == 1)=false:=by simp;omega
 have e2:(x.op == 2)=false:=by simp;omega
 have e3:(x.op == 3)=false:=by simp;omega
 have e4:(x.op == 4)=false:=by simp;omega
 have e5:(x.op == 5)=false:=by simp;omega
 have e6:(x.op == 6)=false:=by simp;omega
 have e7:(x.op == 7)=false:=by simp;omega
 have e8:(x.op == 8)=true:=by simp;omega
 clear h
 go_enter Tryz.func58,Tryz.ntmps58
 refine wp_seq ?_
 refine rs0_is x y w.heap.size w rfl _ _ ?_
 have hnb:(w.alloc (.cells #[.int .i64 x.op,.int .i64 x.d,.int .i64 x.a,.int .i64 x.b,.int .i64 x.n,.string x.sym,.slice y.a y.len y.cap] 81)).heap[w.heap.size]?=some (.cells #[.int .i64 x.op,.int .i64 x.d,.int .i64 x.a,.int .i64 x.b,.int .i64 x.n,.string x.sym,.slice y.a y.len y.cap] 81 (0,0)):=heap_alloc_new w _
 have HB0:Hid (Below w.heap.size w (w.alloc (.cells #[.int .i64 x.op,.int .i64 x.d,.int .i64 x.a,.int .i64 x.b,.int .i64 x.n,.string x.sym,.slice y.a y.len y.cap] 81))):=below_alloc _ _
 generalize w.alloc (.cells #[.int .i64 x.op,.int .i64 x.d,.int .i64 x.a,.int .i64 x.b,.int .i64 x.n,.string x.sym,.slice y.a y.len y.cap] 81)=w0 at *
 refine wp_seq ?_
 refine rs1_is x y w.heap.size w0 hnb _ _ ?_
 intro s7 s8 s9 s10 s11 s12 s13 s14 s15 s16 s17 g4 g5 g6 w1 hb1 k4 k5 k6
 have hbx:=(hb1.block _ (Array.getElem?_eq_some_iff.1 hnb).1).trans hnb
 have HB:Hid (Below w.heap.size w w1):=HB0.out.trans (hb1.mono HB0.out.size)
 have b0:=cell_of_row w1 w.heap.size 0 _ 81 (0,0) hbx
 have b1:=cell_of_row w1 w.heap.size 1 _ 81 (0,0) hbx
 have b2:=cell_of_row w1 w.heap.size 2 _ 81 (0,0) hbx
 have b3:=cell_of_row w1 w.heap.size 3 _ 81 (0,0) hbx
 have b4:=cell_of_row w1 w.heap.size 4 _ 81 (0,0) hbx
 have b5:=cell_of_row w1 w.heap.size 5 _ 81 (0,0) hbx
 have b6:=cell_of_row w1 w.heap.size 6 _ 81 (0,0) hbx
 have q4:=cell_of_row w1 g4 0 _ 143 (0,0) k4
 have q5:=cell_of_row w1 g5 0 _ 145 (0,0) k5
 have r5:=cell_of_row w1 g5 1 _ 145 (0,0) k5
 have q6:=cell_of_row w1 g6 0 _ 147 (0,0) k6
 simp only[List.getElem?_toArray,List.getElem?_cons_zero,List.getElem?_cons_succ]at b0 b1 b2 b3 b4 b5 b6 q4 q5 r5 q6
 clear hb1 hnb k4 k5 k6 hbx HB0
 go_wp2_with fail
 go_ret2
 exact⟨rfl,HB.out⟩
set_option maxRecDepth 100000 in
theorem readStep_9 (x:Pl.IrI) (y:SV) (w:World) (h:x.op=9):Calls Tryz.prog 58 #[.agg #[.int .i64 x.op,.int .i64 x.d,.int .i64 x.a,.int .i64 x.b,.int .i64 x.n,.string x.sym,.slice y.a y.len y.cap]] w fun e w'=>e=.returned (.tuple #[.iface 168 (.agg #[.int .i64 x.d,.string x.sym,.slice y.a y.len y.cap]),.bool true])/\Below w.heap.size w w':=by
 have e1:(x.op == 1)=false:=by simp;omega
 have e2:(x.op == 2)=false:=by simp;omega
 have e3:(x.op == 3)=false:=by simp;omega
 have e4:(x.op == 4)=false:=by simp;omega
 have e5:(x.op == 5)=false:=by simp;omega
 have e6:(x.op == 6)=false:=by simp;omega
 have e7:(x.op == 7)=false:=by simp;omega
 have e8:(x.op == 8)=false:=by simp;omega
 have e9:(x.op == 9)=true:=by simp;omega
 clear h
 go_enter Tryz.func58,Tryz.ntmps58
 refine wp_seq ?_
 refine rs0_is x y w.heap.size w rfl _ _ ?_
 have hnb:(w.alloc (.cells #[.int .i64 x.op,.int .i64 x.d,.int .i64 x.a,.int .i64 x.b,.int .i64 x.n,.string x.sym,.slice y.a y.len y.cap] 81)).heap[w.heap.size]?=some (.cells #[.int .i64 x.op,.int .i64 x.d,.int .i64 x.a,.int .i64 x.b,.int .i64 x.n,.string x.sym,.slice y.a y.len y.cap] 81 (0,0)):=heap_alloc_new w _
 have HB0:Hid (Below w.heap.size w (w.alloc (.cells #[.int .i64 x.op,.int .i64 x.d,.int .i64 x.a,.int .i64 x.b,.int .i64 x.n,.string x.sym,.slice y.a y.len y.cap] 81))):=below_alloc _ _
 generalize w.alloc (.cells #[.int .i64 x.op,.int .i64 x.d,.int .i64 x.a,.int .i64 x.b,.int .i64 x.n,.string x.sym,.slice y.a y.len y.cap] 81)=w0 at *
 refine wp_seq ?_
 refine rs1_is x y w.heap.size w0 hnb _ _ ?_
 intro s7 s8 s9 s10 s11 s12 s13 s14 s15 s16 s17 g4 g5 g6 w1 hb1 k4 k5 k6
 have hbx:=(hb1.block _ (Array.getElem?_eq_some_iff.1 hnb).1).trans hnb
 have HB:Hid (Below w.heap.size w w1):=HB0.out.trans (hb1.mono HB0.out.size)
 have b0:=cell_of_row w1 w.heap.size 0 _ 81 (0,0) hbx
 have b1:=cell_of_row w1 w.heap.size 1 _ 81 (0,0) hbx
 have b2:=cell_of_row w1 w.heap.size 2 _ 81 (0,0) hbx
 have b3:=cell_of_row w1 w.heap.size 3 _ 81 (0,0) hbx
 have b4:=cell_of_row w1 w.heap.size 4 _ 81 (0,0) hbx
 have b5:=cell_of_row w1 w.heap.size 5 _ 81 (0,0) hbx
 have b6:=cell_of_row w1 w.heap.size 6 _ 81 (0,0) hbx
 have q4:=cell_of_row w1 g4 0 _ 143 (0,0) k4
 have q5:=cell_of_row w1 g5 0 _ 145 (0,0) k5
 have r5:=cell_of_row w1 g5 1 _ 145 (0,0) k5
 have q6:=cell_of_row w1 g6 0 _ 147 (0,0) k6
 simp only[List.getElem?_toArray,List.getElem?_cons_zero,List.getElem?_cons_succ]at b0 b1 b2 b3 b4 b5 b6 q4 q5 r5 q6
 clear hb1 hnb k4 k5 k6 hbx HB0
 go_wp2_with fail
 go_ret2
 exact⟨rfl,HB.out⟩
set_option maxRecDepth 100000 in
theorem readStep_10 (x:Pl.IrI) (y:SV) (w:World) (h:x.op=10):Calls Tryz.prog 58 #[.agg #[.int .i64 x.op,.int .i64 x.d,.int .i64 x.a,.int .i64 x.b,.int .i64 x.n,.string x.sym,.slice y.a y.len y.cap]] w fun e w'=>e=.returned (.tuple #[.iface 170 (.agg #[.int .i64 x.d,.int .i64 x.a,.slice y.a y.len y.cap]),.bool true])/\Below w.heap.size w w':=by
 have e1:(x.op == 1)=false:=by simp;omega
 have e2:(x.op == 2)=false:=by simp;omega
 have e3:(x.op == 3)=false:=by simp;omega
 have e4:(x.op == 4)=false:=by simp;omega
 have e5:(x.op == 5)=false:=by simp;omega
 have e6:(x.op == 6)=false:=by simp;omega
 have e7:(x.op == 7)=false:=by simp;omega
 have e8:(x.op == 8)=false:=by simp;omega
 have e9:(x.op == 9)=false:=by simp;omega
 have e10:(x.op == 10)=true:=by simp;omega
 clear h
 go_enter Tryz.func58,Tryz.ntmps58
 refine wp_seq ?_
 refine rs0_is x y w.heap.size w rfl _ _ ?_
 have hnb:(w.alloc (.cells #[.int .i64 x.op,.int .i64 x.d,.int .i64 x.a,.int .i64 x.b,.int .i64 x.n,.string x.sym,.slice y.a y.len y.cap] 81)).heap[w.heap.size]?=some (.cells #[.int .i64 x.op,.int .i64 x.d,.int .i64 x.a,.int .i64 x.b,.int .i64 x.n,.string x.sym,.slice y.a y.len y.cap] 81 (0,0)):=heap_alloc_new w _
 have HB0:Hid (Below w.heap.size w (w.alloc (.cells #[.int .i64 x.op,.int .i64 x.d,.int .i64 x.a,.int .i64 x.b,.int .i64 x.n,.string x.sym,.slice y.a y.len y.cap] 81))):=below_alloc _ _
 generalize w.alloc (.cells #[.int .i64 x.op,.int .i64 x.d,.int .i64 x.a,.int .i64 x.b,.int .i64 x.n,.string x.sym,.slice y.a y.len y.cap] 81)=w0 at *
 refine wp_seq ?_
 refine rs1_is x y w.heap.size w0 hnb _ _ ?_
 intro s7 s8 s9 s10 s11 s12 s13 s14 s15 s16 s17 g4 g5 g6 w1 hb1 k4 k5 k6
 have hbx:=(hb1.block _ (Array.getElem?_eq_some_iff.1 hnb).1).trans hnb
 have HB:Hid (Below w.heap.size w w1):=HB0.out.trans (hb1.mono HB0.out.size)
 have b0:=cell_of_row w1 w.heap.size 0 _ 81 (0,0) hbx
 have b1:=cell_of_row w1 w.heap.size 1 _ 81 (0,0) hbx
 have b2:=cell_of_row w1 w.heap.size 2 _ 81 (0,0) hbx
 have b3:=cell_of_row w1 w.heap.size 3 _ 81 (0,0) hbx
 have b4:=cell_of_row w1 w.heap.size 4 _ 81 (0,0) hbx
 have b5:=cell_of_row w1 w.heap.size 5 _ 81 (0,0) hbx
 have b6:=cell_of_row w1 w.heap.size 6 _ 81 (0,0) hbx
 have q4:=cell_of_row w1 g4 0 _ 143 (0,0) k4
 have q5:=cell_of_row w1 g5 0 _ 145 (0,0) k5
 have r5:=cell_of_row w1 g5 1 _ 145 (0,0) k5
 have q6:=cell_of_row w1 g6 0 _ 147 (0,0) k6
 simp only[List.getElem?_toArray,List.getElem?_cons_zero,List.getElem?_cons_succ]at b0 b1 b2 b3 b4 b5 b6 q4 q5 r5 q6
 clear hb1 hnb k4 k5 k6 hbx HB0
 go_wp2_with fail
 go_ret2
 exact⟨rfl,HB.out⟩
set_option maxRecDepth 100000 in
theorem readStep_11 (x:Pl.IrI) (y:SV) (w:World) (h:x.op=11):Calls Tryz.prog 58 #[.agg #[.int .i64 x.op,.int .i64 x.d,.int .i64 x.a,.int .i64 x.b,.int .i64 x.n,.string x.sym,.slice y.a y.len y.cap]] w fun e w'=>e=.returned (.tuple #[.iface 172 (.agg #[.int .i64 x.n]),.bool true])/\Below w.heap.size w w':=by
 have e1:(x.op == 1)=false:=by simp;omega
 have e2:(x.op == 2)=false:=by simp;omega
 have e3:(x.op == 3)=false:=by simp;omega
 have e4:(x.op == 4)=false:=by simp;omega
 have e5:(x.op == 5)=false:=by simp;omega
 have e6:(x.op == 6)=false:=by simp;omega
 have e7:(x.op == 7)=false:=by simp;omega
 have e8:(x.op == 8)=false:=by simp;omega
 have e9:(x.op == 9)=false:=by simp;omega
 have e10:(x.op == 10)=false:=by simp;omega
 have e11:(x.op == 11)=true:=by simp;omega
 clear h
 go_enter Tryz.func58,Tryz.ntmps58
 refine wp_seq ?_
 refine rs0_is x y w.heap.size w rfl _ _ ?_
 have hnb:(w.alloc (.cells #[.int .i64 x.op,.int .i64 x.d,.int .i64 x.a,.int .i64 x.b,.int .i64 x.n,.string x.sym,.slice y.a y.len y.cap] 81)).heap[w.heap.size]?=some (.cells #[.int .i64 x.op,.int .i64 x.d,.int .i64 x.a,.int .i64 x.b,.int .i64 x.n,.string x.sym,.slice y.a y.len y.cap] 81 (0,0)):=heap_alloc_new w _
 have HB0:Hid (Below w.heap.size w (w.alloc (.cells #[.int .i64 x.op,.int .i64 x.d,.int .i64 x.a,.int .i64 x.b,.int .i64 x.n,.string x.sym,.slice y.a y.len y.cap] 81))):=below_alloc _ _
 generalize w.alloc (.cells #[.int .i64 x.op,.int .i64 x.d,.int .i64 x.a,.int .i64 x.b,.int .i64 x.n,.string x.sym,.slice y.a y.len y.cap] 81)=w0 at *
 refine wp_seq ?_
 refine rs1_is x y w.heap.size w0 hnb _ _ ?_
 intro s7 s8 s9 s10 s11 s12 s13 s14 s15 s16 s17 g4 g5 g6 w1 hb1 k4 k5 k6
 have hbx:=(hb1.block _ (Array.getElem?_eq_some_iff.1 hnb).1).trans hnb
 have HB:Hid (Below w.heap.size w w1):=HB0.out.trans (hb1.mono HB0.out.size)
 have b0:=cell_of_row w1 w.heap.size 0 _ 81 (0,0) hbx
 have b1:=cell_of_row w1 w.heap.size 1 _ 81 (0,0) hbx
 have b2:=cell_of_row w1 w.heap.size 2 _ 81 (0,0) hbx
 have b3:=cell_of_row w1 w.heap.size 3 _ 81 (0,0) hbx
 have b4:=cell_of_row w1 w.heap.size 4 _ 81 (0,0) hbx
 have b5:=cell_of_row w1 w.heap.size 5 _ 81 (0,0) hbx
 have b6:=cell_of_row w1 w.heap.size 6 _ 81 (0,0) hbx
 have q4:=cell_of_row w1 g4 0 _ 143 (0,0) k4
 have q5:=cell_of_row w1 g5 0 _ 145 (0,0) k5
 have r5:=cell_of_row w1 g5 1 _ 145 (0,0) k5
 have q6:=cell_of_row w1 g6 0 _ 147 (0,0) k6
 simp only[List.getElem?_toArray,List.getElem?_cons_zero,List.getElem?_cons_succ]at b0 b1 b2 b3 b4 b5 b6 q4 q5 r5 q6
 clear hb1 hnb k4 k5 k6 hbx HB0
 go_wp2_with fail
 go_ret2
 exact⟨rfl,HB.out⟩
set_option maxRecDepth 100000 in
theorem readStep_12 (x:Pl.IrI) (y:SV) (w:World) (h:x.op=12):Calls Tryz.prog 58 #[.agg #[.int .i64 x.op,.int .i64 x.d,.int .i64 x.a,.int .i64 x.b,.int .i64 x.n,.string x.sym,.slice y.a y.len y.cap]] w fun e w'=>e=.returned (.tuple #[.iface 173 (.agg #[.int .i64 x.n]),.bool true])/\Below w.heap.size w w':=by
 have e1:(x.op == 1)=false:=by simp;omega
 have e2:(x.op == 2)=false:=by simp;omega
 have e3:(x.op == 3)=false:=by simp;omega
 have e4:(x.op == 4)=false:=by simp;omega
 have e5:(x.op == 5)=false:=by simp;omega
 have e6:(x.op == 6)=false:=by simp;omega
 have e7:(x.op == 7)=false:=by simp;omega
 have e8:(x.op == 8)=false:=by simp;omega
 have e9:(x.op == 9)=false:=by simp;omega
 have e10:(x.op == 10)=false:=by simp;omega
 have e11:(x.op == 11)=false:=by simp;omega
 have e12:(x.op == 12)=true:=by simp;omega
 clear h
 go_enter Tryz.func58,Tryz.ntmps58
 refine wp_seq ?_
 refine rs0_is x y w.heap.size w rfl _ _ ?_
 have hnb:(w.alloc (.cells #[.int .i64 x.op,.int .i64 x.d,.int .i64 x.a,.int .i64 x.b,.int .i64 x.n,.string x.sym,.slice y.a y.len y.cap] 81)).heap[w.heap.size]?=some (.cells #[.int .i64 x.op,.int .i64 x.d,.int .i64 x.a,.int .i64 x.b,.int .i64 x.n,.string x.sym,.slice y.a y.len y.cap] 81 (0,0)):=heap_alloc_new w _
 have HB0:Hid (Below w.heap.size w (w.alloc (.cells #[.int .i64 x.op,.int .i64 x.d,.int .i64 x.a,.int .i64 x.b,.int .i64 x.n,.string x.sym,.slice y.a y.len y.cap] 81))):=below_alloc _ _
 generalize w.alloc (.cells #[.int .i64 x.op,.int .i64 x.d,.int .i64 x.a,.int .i64 x.b,.int .i64 x.n,.string x.sym,.slice y.a y.len y.cap] 81)=w0 at *
 refine wp_seq ?_
 refine rs1_is x y w.heap.size w0 hnb _ _ ?_
 intro s7 s8 s9 s10 s11 s12 s13 s14 s15 s16 s17 g4 g5 g6 w1 hb1 k4 k5 k6
 have hbx:=(hb1.block _ (Array.getElem?_eq_some_iff.1 hnb).1).trans hnb
 have HB:Hid (Below w.heap.size w w1):=HB0.out.trans (hb1.mono HB0.out.size)
 have b0:=cell_of_row w1 w.heap.size 0 _ 81 (0,0) hbx
 have b1:=cell_of_row w1 w.heap.size 1 _ 81 (0,0) hbx
 have b2:=cell_of_row w1 w.heap.size 2 _ 81 (0,0) hbx
 have b3:=cell_of_row w1 w.heap.size 3 _ 81 (0,0) hbx
 have b4:=cell_of_row w1 w.heap.size 4 _ 81 (0,0) hbx
 have b5:=cell_of_row w1 w.heap.size 5 _ 81 (0,0) hbx
 have b6:=cell_of_row w1 w.heap.size 6 _ 81 (0,0) hbx
 have q4:=cell_of_row w1 g4 0 _ 143 (0,0) k4
 have q5:=cell_of_row w1 g5 0 _ 145 (0,0) k5
 have r5:=cell_of_row w1 g5 1 _ 145 (0,0) k5
 have q6:=cell_of_row w1 g6 0 _ 147 (0,0) k6
 simp only[List.getElem?_toArray,List.getElem?_cons_zero,List.getElem?_cons_succ]at b0 b1 b2 b3 b4 b5 b6 q4 q5 r5 q6
 clear hb1 hnb k4 k5 k6 hbx HB0
 go_wp2_with fail
 go_ret2
 exact⟨rfl,HB.out⟩
set_option maxRecDepth 100000 in
theorem readStep_13 (x:Pl.IrI) (y:SV) (w:World) (h:x.op=13):Calls Tryz.prog 58 #[.agg #[.int .i64 x.op,.int .i64 x.d,.int .i64 x.a,.int .i64 x.b,.int .i64 x.n,.string x.sym,.slice y.a y.len y.cap]] w fun e w'=>e=.returned (.tuple #[.iface 175 (.agg #[.int .i64 x.a,.int .i64 x.b,.string x.sym,.int .i64 x.n]),.bool true])/\Below w.heap.size w w':=by
 have e1:(x.op == 1)=false:=by simp;omega
 have e2:(x.op == 2)=false:=by simp;omega
 have e3:(x.op == 3)=false:=by simp;omega
 have e4:(x.op == 4)=false:=by simp;omega
 have e5:(x.op == 5)=false:=by simp;omega
 have e6:(x.op == 6)=false:=by simp;omega
 have e7:(x.op == 7)=false:=by simp;omega
 have e8:(x.op == 8)=false:=by simp;omega
 have e9:(x.op == 9)=false:=by simp;omega
 have e10:(x.op == 10)=false:=by simp;omega
 have e11:(x.op == 11)=false:=by simp;omega
 have e12:(x.op == 12)=false:=by simp;omega
 have e13:(x.op == 13)=true:=by simp;omega
 clear h
 go_enter Tryz.func58,Tryz.ntmps58
 refine wp_seq ?_
 refine rs0_is x y w.heap.size w rfl _ _ ?_
 have hnb:(w.alloc (.cells #[.int .i64 x.op,.int .i64 x.d,.int .i64 x.a,.int .i64 x.b,.int .i64 x.n,.string x.sym,.slice y.a y.len y.cap] 81)).heap[w.heap.size]?=some (.cells #[.int .i64 x.op,.int .i64 x.d,.int .i64 x.a,.int .i64 x.b,.int .i64 x.n,.string x.sym,.slice y.a y.len y.cap] 81 (0,0)):=heap_alloc_new w _
 have HB0:Hid (Below w.heap.size w (w.alloc (.cells #[.int .i64 x.op,.int .i64 x.d,.int .i64 x.a,.int .i64 x.b,.int .i64 x.n,.string x.sym,.slice y.a y.len y.cap] 81))):=below_alloc _ _
 generalize w.alloc (.cells #[.int .i64 x.op,.int .i64 x.d,.int .i64 x.a,.int .i64 x.b,.int .i64 x.n,.string x.sym,.slice y.a y.len y.cap] 81)=w0 at *
 refine wp_seq ?_
 refine rs1_is x y w.heap.size w0 hnb _ _ ?_
 intro s7 s8 s9 s10 s11 s12 s13 s14 s15 s16 s17 g4 g5 g6 w1 hb1 k4 k5 k6
 have hbx:=(hb1.block _ (Array.getElem?_eq_some_iff.1 hnb).1).trans hnb
 have HB:Hid (Below w.heap.size w w1):=HB0.out.trans (hb1.mono HB0.out.size)
 have b0:=cell_of_row w1 w.heap.size 0 _ 81 (0,0) hbx
 have b1:=cell_of_row w1 w.heap.size 1 _ 81 (0,0) hbx
 have b2:=cell_of_row w1 w.heap.size 2 _ 81 (0,0) hbx
 have b3:=cell_of_row w1 w.heap.size 3 _ 81 (0,0) hbx
 have b4:=cell_of_row w1 w.heap.size 4 _ 81 (0,0) hbx
 have b5:=cell_of_row w1 w.heap.size 5 _ 81 (0,0) hbx
 have b6:=cell_of_row w1 w.heap.size 6 _ 81 (0,0) hbx
 have q4:=cell_of_row w1 g4 0 _ 143 (0,0) k4
 have q5:=cell_of_row w1 g5 0 _ 145 (0,0) k5
 have r5:=cell_of_row w1 g5 1 _ 145 (0,0) k5
 have q6:=cell_of_row w1 g6 0 _ 147 (0,0) k6
 simp only[List.getElem?_toArray,List.getElem?_cons_zero,List.getElem?_cons_succ]at b0 b1 b2 b3 b4 b5 b6 q4 q5 r5 q6
 clear hb1 hnb k4 k5 k6 hbx HB0
 go_wp2_with fail
 go_ret2
 exact⟨rfl,HB.out⟩
set_option maxRecDepth 100000 in
theorem readStep_14 (x:Pl.IrI) (y:SV) (w:World) (h:x.op=14):Calls Tryz.prog 58 #[.agg #[.int .i64 x.op,.int .i64 x.d,.int .i64 x.a,.int .i64 x.b,.int .i64 x.n,.string x.sym,.slice y.a y.len y.cap]] w fun e w'=>e=.returned (.tuple #[.iface 177 (.agg #[.int .i64 x.a]),.bool true])/\Below w.heap.size w w':=by
 have e1:(x.op == 1)=false:=by simp;omega
 have e2:(x.op == 2)=false:=by simp;omega
 have e3:(x.op == 3)=false:=by simp;omega
 have e4:(x.op == 4)=false:=by simp;omega
 have e5:(x.op == 5)=false:=by simp;omega
 have e6:(x.op == 6)=false:=by simp;omega
 have e7:(x.op == 7)=false:=by simp;omega
 have e8:(x.op == 8)=false:=by simp;omega
 have e9:(x.op == 9)=false:=by simp;omega
 have e10:(x.op == 10)=false:=by simp;omega
 have e11:(x.op == 11)=false:=by simp;omega
 have e12:(x.op == 12)=false:=by simp;omega
 have e13:(x.op == 13)=false:=by simp;omega
 have e14:(x.op == 14)=true:=by simp;omega
 clear h
 go_enter Tryz.func58,Tryz.ntmps58
 refine wp_seq ?_
 refine rs0_is x y w.heap.size w rfl _ _ ?_
 have hnb:(w.alloc (.cells #[.int .i64 x.op,.int .i64 x.d,.int .i64 x.a,.int .i64 x.b,.int .i64 x.n,.string x.sym,.slice y.a y.len y.cap] 81)).heap[w.heap.size]?=some (.cells #[.int .i64 x.op,.int .i64 x.d,.int .i64 x.a,.int .i64 x.b,.int .i64 x.n,.string x.sym,.slice y.a y.len y.cap] 81 (0,0)):=heap_alloc_new w _
 have HB0:Hid (Below w.heap.size w (w.alloc (.cells #[.int .i64 x.op,.int .i64 x.d,.int .i64 x.a,.int .i64 x.b,.int .i64 x.n,.string x.sym,.slice y.a y.len y.cap] 81))):=below_alloc _ _
 generalize w.alloc (.cells #[.int .i64 x.op,.int .i64 x.d,.int .i64 x.a,.int .i64 x.b,.int .i64 x.n,.string x.sym,.slice y.a y.len y.cap] 81)=w0 at *
 refine wp_seq ?_
 refine rs1_is x y w.heap.size w0 hnb _ _ ?_
 intro s7 s8 s9 s10 s11 s12 s13 s14 s15 s16 s17 g4 g5 g6 w1 hb1 k4 k5 k6
 have hbx:=(hb1.block _ (Array.getElem?_eq_some_iff.1 hnb).1).trans hnb
 have HB:Hid (Below w.heap.size w w1):=HB0.out.trans (hb1.mono HB0.out.size)
 have b0:=cell_of_row w1 w.heap.size 0 _ 81 (0,0) hbx
 have b1:=cell_of_row w1 w.heap.size 1 _ 81 (0,0) hbx
 have b2:=cell_of_row w1 w.heap.size 2 _ 81 (0,0) hbx
 have b3:=cell_of_row w1 w.heap.size 3 _ 81 (0,0) hbx
 have b4:=cell_of_row w1 w.heap.size 4 _ 81 (0,0) hbx
 have b5:=cell_of_row w1 w.heap.size 5 _ 81 (0,0) hbx
 have b6:=cell_of_row w1 w.heap.size 6 _ 81 (0,0) hbx
 have q4:=cell_of_row w1 g4 0 _ 143 (0,0) k4
 have q5:=cell_of_row w1 g5 0 _ 145 (0,0) k5
 have r5:=cell_of_row w1 g5 1 _ 145 (0,0) k5
 have q6:=cell_of_row w1 g6 0 _ 147 (0,0) k6
 simp only[List.getElem?_toArray,List.getElem?_cons_zero,List.getElem?_cons_succ]at b0 b1 b2 b3 b4 b5 b6 q4 q5 r5 q6
 clear hb1 hnb k4 k5 k6 hbx HB0
 go_wp2_with fail
 go_ret2
 exact⟨rfl,HB.out⟩
set_option maxRecDepth 100000 in
theorem readStep_15 (x:Pl.IrI) (y:SV) (w:World) (h:x.op=15):Calls Tryz.prog 58 #[.agg #[.int .i64 x.op,.int .i64 x.d,.int .i64 x.a,.int .i64 x.b,.int .i64 x.n,.string x.sym,.slice y.a y.len y.cap]] w fun e w'=>e=.returned (.tuple #[.iface 179 (.agg #[.int .i64 x.a,.int .i64 x.b,.int .i64 x.n]),.bool true])/\Below w.heap.size w w':=by
 have e1:(x.op == 1)=false:=by simp;omega
 have e2:(x.op == 2)=false:=by simp;omega
 have e3:(x.op == 3)=false:=by simp;omega
 have e4:(x.op == 4)=false:=by simp;omega
 have e5:(x.op == 5)=false:=by simp;omega
 have e6:(x.op == 6)=false:=by simp;omega
 have e7:(x.op == 7)=false:=by simp;omega
 have e8:(x.op == 8)=false:=by simp;omega
 have e9:(x.op == 9)=false:=by simp;omega
 have e10:(x.op == 10)=false:=by simp;omega
 have e11:(x.op == 11)=false:=by simp;omega
 have e12:(x.op == 12)=false:=by simp;omega
 have e13:(x.op == 13)=false:=by simp;omega
 have e14:(x.op == 14)=false:=by simp;omega
 have e15:(x.op == 15)=true:=by simp;omega
 clear h
 go_enter Tryz.func58,Tryz.ntmps58
 refine wp_seq ?_
 refine rs0_is x y w.heap.size w rfl _ _ ?_
 have hnb:(w.alloc (.cells #[.int .i64 x.op,.int .i64 x.d,.int .i64 x.a,.int .i64 x.b,.int .i64 x.n,.string x.sym,.slice y.a y.len y.cap] 81)).heap[w.heap.size]?=some (.cells #[.int .i64 x.op,.int .i64 x.d,.int .i64 x.a,.int .i64 x.b,.int .i64 x.n,.string x.sym,.slice y.a y.len y.cap] 81 (0,0)):=heap_alloc_new w _
 have HB0:Hid (Below w.heap.size w (w.alloc (.cells #[.int .i64 x.op,.int .i64 x.d,.int .i64 x.a,.int .i64 x.b,.int .i64 x.n,.string x.sym,.slice y.a y.len y.cap] 81))):=below_alloc _ _
 generalize w.alloc (.cells #[.int .i64 x.op,.int .i64 x.d,.int .i64 x.a,.int .i64 x.b,.int .i64 x.n,.string x.sym,.slice y.a y.len y.cap] 81)=w0 at *
 refine wp_seq ?_
 refine rs1_is x y w.heap.size w0 hnb _ _ ?_
 intro s7 s8 s9 s10 s11 s12 s13 s14 s15 s16 s17 g4 g5 g6 w1 hb1 k4 k5 k6
 have hbx:=(hb1.block _ (Array.getElem?_eq_some_iff.1 hnb).1).trans hnb
 have HB:Hid (Below w.heap.size w w1):=HB0.out.trans (hb1.mono HB0.out.size)
 have b0:=cell_of_row w1 w.heap.size 0 _ 81 (0,0) hbx
 have b1:=cell_of_row w1 w.heap.size 1 _ 81 (0,0) hbx
 have b2:=cell_of_row w1 w.heap.size 2 _ 81 (0,0) hbx
 have b3:=cell_of_row w1 w.heap.size 3 _ 81 (0,0) hbx
 have b4:=cell_of_row w1 w.heap.size 4 _ 81 (0,0) hbx
 have b5:=cell_of_row w1 w.heap.size 5 _ 81 (0,0) hbx
 have b6:=cell_of_row w1 w.heap.size 6 _ 81 (0,0) hbx
 have q4:=cell_of_row w1 g4 0 _ 143 (0,0) k4
 have q5:=cell_of_row w1 g5 0 _ 145 (0,0) k5
 have r5:=cell_of_row w1 g5 1 _ 145 (0,0) k5
 have q6:=cell_of_row w1 g6 0 _ 147 (0,0) k6
 simp only[List.getElem?_toArray,List.getElem?_cons_zero,List.getElem?_cons_succ]at b0 b1 b2 b3 b4 b5 b6 q4 q5 r5 q6
 clear hb1 hnb k4 k5 k6 hbx HB0
 go_wp2_with fail
 go_ret2
 exact⟨rfl,HB.out⟩
set_option maxRecDepth 100000 in
theorem readStep_16 (x:Pl.IrI) (y:SV) (w:World) (h:x.op=16):Calls Tryz.prog 58 #[.agg #[.int .i64 x.op,.int .i64 x.d,.int .i64 x.a,.int .i64 x.b,.int .i64 x.n,.string x.sym,.slice y.a y.len y.cap]] w fun e w'=>e=.returned (.tuple #[.iface 181 (.agg #[.int .i64 x.a,.int .i64 x.n]),.bool true])/\Below w.heap.size w w':=by
 have e1:(x.op == 1)=false:=by simp;omega
 have e2:(x.op == 2)=false:=by simp;omega
 have e3:(x.op == 3)=false:=by simp;omega
 have e4:(x.op == 4)=false:=by simp;omega
 have e5:(x.op == 5)=false:=by simp;omega
 have e6:(x.op == 6)=false:=by simp;omega
 have e7:(x.op == 7)=false:=by simp;omega
 have e8:(x.op == 8)=false:=by simp;omega
 have e9:(x.op == 9)=false:=by simp;omega
 have e10:(x.op == 10)=false:=by simp;omega
 have e11:(x.op == 11)=false:=by simp;omega
 have e12:(x.op == 12)=false:=by simp;omega
 have e13:(x.op == 13)=false:=by simp;omega
 have e14:(x.op == 14)=false:=by simp;omega
 have e15:(x.op == 15)=false:=by simp;omega
 have e16:(x.op == 16)=true:=by simp;omega
 clear h
 go_enter Tryz.func58,Tryz.ntmps58
 refine wp_seq ?_
 refine rs0_is x y w.heap.size w rfl _ _ ?_
 have hnb:(w.alloc (.cells #[.int .i64 x.op,.int .i64 x.d,.int .i64 x.a,.int .i64 x.b,.int .i64 x.n,.string x.sym,.slice y.a y.len y.cap] 81)).heap[w.heap.size]?=some (.cells #[.int .i64 x.op,.int .i64 x.d,.int .i64 x.a,.int .i64 x.b,.int .i64 x.n,.string x.sym,.slice y.a y.len y.cap] 81 (0,0)):=heap_alloc_new w _
 have HB0:Hid (Below w.heap.size w (w.alloc (.cells #[.int .i64 x.op,.int .i64 x.d,.int .i64 x.a,.int .i64 x.b,.int .i64 x.n,.string x.sym,.slice y.a y.len y.cap] 81))):=below_alloc _ _
 generalize w.alloc (.cells #[.int .i64 x.op,.int .i64 x.d,.int .i64 x.a,.int .i64 x.b,.int .i64 x.n,.string x.sym,.slice y.a y.len y.cap] 81)=w0 at *
 refine wp_seq ?_
 refine rs1_is x y w.heap.size w0 hnb _ _ ?_
 intro s7 s8 s9 s10 s11 s12 s13 s14 s15 s16 s17 g4 g5 g6 w1 hb1 k4 k5 k6
 have hbx:=(hb1.block _ (Array.getElem?_eq_some_iff.1 hnb).1).trans hnb
 have HB:Hid (Below w.heap.size w w1):=HB0.out.trans (hb1.mono HB0.out.size)
 have b0:=cell_of_row w1 w.heap.size 0 _ 81 (0,0) hbx
 have b1:=cell_of_row w1 w.heap.size 1 _ 81 (0,0) hbx
 have b2:=cell_of_row w1 w.heap.size 2 _ 81 (0,0) hbx
 have b3:=cell_of_row w1 w.heap.size 3 _ 81 (0,0) hbx
 have b4:=cell_of_row w1 w.heap.size 4 _ 81 (0,0) hbx
 have b5:=cell_of_row w1 w.heap.size 5 _ 81 (0,0) hbx
 have b6:=cell_of_row w1 w.heap.size 6 _ 81 (0,0) hbx
 have q4:=cell_of_row w1 g4 0 _ 143 (0,0) k4
 have q5:=cell_of_row w1 g5 0 _ 145 (0,0) k5
 have r5:=cell_of_row w1 g5 1 _ 145 (0,0) k5
 have q6:=cell_of_row w1 g6 0 _ 147 (0,0) k6
 simp only[List.getElem?_toArray,List.getElem?_cons_zero,List.getElem?_cons_succ]at b0 b1 b2 b3 b4 b5 b6 q4 q5 r5 q6
 clear hb1 hnb k4 k5 k6 hbx HB0
 go_wp2_with fail
 go_ret2
 exact⟨rfl,HB.out⟩
set_option maxRecDepth 100000 in
theorem readStep_0 (x:Pl.IrI) (y:SV) (w:World) (h:x.op<1\/16<x.op):Calls Tryz.prog 58 #[.agg #[.int .i64 x.op,.int .i64 x.d,.int .i64 x.a,.int .i64 x.b,.int .i64 x.n,.string x.sym,.slice y.a y.len y.cap]] w fun e w'=>e=.returned (.tuple #[.nilIface,.bool false])/\Below w.heap.size w w':=by
 have e1:(x.op == 1)=false:=by simp;omega
 have e2:(x.op == 2)=false:=by simp;omega
 have e3:(x.op == 3)=false:=by simp;omega
 have e4:(x.op == 4)=false:=by simp;omega
 have e5:(x.op == 5)=false:=by simp;omega
 have e6:(x.op == 6)=false:=by simp;omega
 have e7:(x.op == 7)=false:=by simp;omega
 have e8:(x.op == 8)=false:=by simp;omega
 have e9:(x.op == 9)=false:=by simp;omega
 have e10:(x.op == 10)=false:=by simp;omega
 have e11:(x.op == 11)=false:=by simp;omega
 have e12:(x.op == 12)=false:=by simp;omega
 have e13:(x.op == 13)=false:=by simp;omega
 have e14:(x.op == 14)=false:=by simp;omega
 have e15:(x.op == 15)=false:=by simp;omega
 have e16:(x.op == 16)=false:=by simp;omega
 clear h
 go_enter Tryz.func58,Tryz.ntmps58
 refine wp_seq ?_
 refine rs0_is x y w.heap.size w rfl _ _ ?_
 have hnb:(w.alloc (.cells #[.int .i64 x.op,.int .i64 x.d,.int .i64 x.a,.int .i64 x.b,.int .i64 x.n,.string x.sym,.slice y.a y.len y.cap] 81)).heap[w.heap.size]?=some (.cells #[.int .i64 x.op,.int .i64 x.d,.int .i64 x.a,.int .i64 x.b,.int .i64 x.n,.string x.sym,.slice y.a y.len y.cap] 81 (0,0)):=heap_alloc_new w _
 have HB0:Hid (Below w.heap.size w (w.alloc (.cells #[.int .i64 x.op,.int .i64 x.d,.int .i64 x.a,.int .i64 x.b,.int .i64 x.n,.string x.sym,.slice y.a y.len y.cap] 81))):=below_alloc _ _
 generalize w.alloc (.cells #[.int .i64 x.op,.int .i64 x.d,.int .i64 x.a,.int .i64 x.b,.int .i64 x.n,.string x.sym,.slice y.a y.len y.cap] 81)=w0 at *
 refine wp_seq ?_
 refine rs1_is x y w.heap.size w0 hnb _ _ ?_
 intro s7 s8 s9 s10 s11 s12 s13 s14 s15 s16 s17 g4 g5 g6 w1 hb1 k4 k5 k6
 have hbx:=(hb1.block _ (Array.getElem?_eq_some_iff.1 hnb).1).trans hnb
 have HB:Hid (Below w.heap.size w w1):=HB0.out.trans (hb1.mono HB0.out.size)
 have b0:=cell_of_row w1 w.heap.size 0 _ 81 (0,0) hbx
 have b1:=cell_of_row w1 w.heap.size 1 _ 81 (0,0) hbx
 have b2:=cell_of_row w1 w.heap.size 2 _ 81 (0,0) hbx
 have b3:=cell_of_row w1 w.heap.size 3 _ 81 (0,0) hbx
 have b4:=cell_of_row w1 w.heap.size 4 _ 81 (0,0) hbx
 have b5:=cell_of_row w1 w.heap.size 5 _ 81 (0,0) hbx
 have b6:=cell_of_row w1 w.heap.size 6 _ 81 (0,0) hbx
 have q4:=cell_of_row w1 g4 0 _ 143 (0,0) k4
 have q5:=cell_of_row w1 g5 0 _ 145 (0,0) k5
 have r5:=cell_of_row w1 g5 1 _ 145 (0,0) k5
 have q6:=cell_of_row w1 g6 0 _ 147 (0,0) k6
 simp only[List.getElem?_toArray,List.getElem?_cons_zero,List.getElem?_cons_succ]at b0 b1 b2 b3 b4 b5 b6 q4 q5 r5 q6
 clear hb1 hnb k4 k5 k6 hbx HB0
 go_wp2_with fail
 go_ret2
 exact⟨rfl,HB.out⟩
theorem readStep_is (k:Nat) (hk:1<=k/\k<=16) (x:Pl.IrI) (hx:x.op=k) (y:SV) (w:World):Calls Tryz.prog 58 #[.agg #[.int .i64 x.op,.int .i64 x.d,.int .i64 x.a,.int .i64 x.b,.int .i64 x.n,.string x.sym,.slice y.a y.len y.cap]] w fun e w'=>e=.returned (.tuple #[stV k x y,.bool true])/\Below w.heap.size w w':=by
 obtain⟨h1,h2⟩:=hk
 rcases (show k=1\/k=2\/k=3\/k=4\/k=5\/k=6\/k=7\/k=8\/k=9\/k=10\/k=11\/k=12\/k=13\/k=14\/k=15\/k=16 by omega) with rfl | rfl | rfl | rfl | rfl | rfl | rfl | rfl | rfl | rfl | rfl | rfl | rfl | rfl | rfl | rfl
 ·exact readStep_1 x y w hx
 ·exact readStep_2 x y w hx
 ·exact readStep_3 x y w hx
 ·exact readStep_4 x y w hx
 ·exact readStep_5 x y w hx
 ·exact readStep_6 x y w hx
 ·exact readStep_7 x y w hx
 ·exact readStep_8 x y w hx
 ·exact readStep_9 x y w hx
 ·exact readStep_10 x y w hx
 ·exact readStep_11 x y w hx
 ·exact readStep_12 x y w hx
 ·exact readStep_13 x y w hx
 ·exact readStep_14 x y w hx
 ·exact readStep_15 x y w hx
 ·exact readStep_16 x y w hx
theorem run_append_noneA {P:Program} {w:World} (base:Nat) (t ty e:TypeId) (i:TypeInfo) (size c:Nat) (ht:P.underlying t=some (.slice e)) (hi:P.info? e=some i)
  (v:Value) (n:Nat) (xs:List Value) (hown:w.ownsRow base e size v n xs) :
  (Builtin.append_ #[t,t] ty #[v,.slice none 0 c]).run P w=.ok v w:=by
 rcases hown.2 with ⟨rfl,rfl⟩ | ⟨g,cap,cur,rfl,_,_,hnc,_⟩
 ·simp[Builtin.append_,run_underlying ht,sizeOf,typeInfo,hi,Builtin.lenOf,Builtin.firstCells]
 ·simp[Builtin.append_,run_underlying ht,sizeOf,typeInfo,hi,Builtin.lenOf,Builtin.firstCells,hnc,storeCells]
theorem wpList_append_noneA {P:Program} {w:World} {ops:Array Oper} {rest:List Oper} {o:Oper} {a:Act} {Q:Exit->Act->World->Prop} (hgd:o.guard=none) (s x:Operand) (t:TypeId)
  (ho:o.op=.call { callee:=.builtin .append,args:=#[s,x],argTypes:=#[t,t] })
  (base:Nat) (e:TypeId) (i:TypeInfo) (size c:Nat) (ht:P.underlying t=some (.slice e)) (hi:P.info? e=some i)
  (v:Value) (n:Nat) (xs:List Value) (hs:a.eval s=v) (hown:w.ownsRow base e size v n xs) (hx:a.eval x=.slice none 0 c)
  (h:wpList P ops Q rest (a.put o.dst v) w):wpList P ops Q (o :: rest) a w:=by
 refine wpList_plain hgd fun K hK=>?_
 have hrun:=run_append_noneA (P:=P) (w:=w) base t o.type e i size c ht hi v n xs hown
 unfold Oper.wp
 simp[execOp,ho,resolve,invoke,builtin,hs,hx,hrun,Result.andThen]
 exact hK _ _ h
theorem cloneInts_rowA {lo:Nat} (a:Option Addr) (len cap:Nat) (zs:List Int) (w:World) (h:Row .i64 lo w a len cap zs) (hsz:len<=1048576) :
  Calls Tryz.prog 190 #[.slice a len cap] w fun e w'=>∃ a' cap',e=.returned (.slice a' len cap')/\Own .i64 3 w.heap.size w' a' len cap' zs/\Below w.heap.size w w':=by
 obtain⟨i0,hi,hz0,hz1,hz2⟩:=info_parts Tryz.infoi64
 have hq:∀ (w:World) (a:Option Addr) (n c n' c':Nat),(binOp .eql 22 (.slice a n c) (.slice none n' c')).run Tryz.prog w=.ok (.bool a.isNone) w:=fun w a n c n' c'=>Lib.run_eql_slice_nil w _ _ a n c n' c' Tryz.underlying22
 obtain⟨hl,hlc,hcm,hwf,h5⟩:=h
 have HW:Hid (∀ n∈zs,(Lit.int .i64 n).wf=true):=hwf
 clear hwf
 have hE:(w.alloc (.cells #[] 3)).ownsRow w.heap.size 3 1 (.slice (some ⟨w.heap.size,0,none⟩) 0 0) 0 []:=World.ownsRow_lit w #[] 0 (Nat.le_refl _) (Nat.zero_le _) rfl
 cases a with
 | none=>
  have h0:len=0:=by rcases h5 with h | ⟨b,off,hb,_⟩; exact h;cases hb
  subst h0
  have hz:zs=[]:=by cases zs with | nil=>rfl | cons=>simp at hl
  subst hz
  clear hl h5
  go_enter Tryz.func190,Tryz.ntmps190
  go_wp2
  go_ret
  exact⟨none,0,rfl,⟨World.ownsRow_nil _ _ _ _,fun n hn=>(by cases hn)⟩,Below.refl _ _⟩
 | some ad=>
  have HN:Hid (∀ j u,(zs.map (Value.int .i64))[j]?=some u->(w.alloc (.cells #[] 3)).cell? (ad.add j)=some u):=fun j u hj=>by
   have hjl:j<len:=by
    have:=(List.getElem?_eq_some_iff.1 hj).1
    rw[List.length_map]at this
    omega
   rcases h5 with h | ⟨b,off,hb,_,hlt,hc⟩
   ·omega
   ·cases hb
    have e1:(⟨b,off,none⟩:Addr).add j=⟨b,off+j,none⟩:=by
     simp only[Addr.add]
     split <;> simp_all
    rw[e1,(below_alloc w _).cell (p:=⟨b,off+j,none⟩) hlt,hc j hjl,<- hj,List.getElem?_map,List.getElem?_eq_getElem (by omega),List.getD_eq_getElem?_getD,List.getElem?_eq_getElem (by omega)]
    rfl
  clear h5
  go_enter Tryz.func190,Tryz.ntmps190
  go_wp2_with (at_builtin;refine wpList_append_own _ rfl (.tmp 5) (.tmp 6) 22 rfl w.heap.size 3 i0 (.int .i64 0) 1 8 Tryz.underlying22 hi hz0 hz1 hz2 rfl (by decide) _ 0 [] rfl hE ad len cap (zs.map (Value.int .i64)) rfl (by rw[List.length_map,hl,Nat.mul_one]) HN.out (by intro u hu;obtain⟨n,_,rfl⟩:=List.mem_map.1 hu;rfl) (by unfold maxLen;omega) (by omega) (by simp) ?_)
  intro v' u1 hown' hgr _
  have HO':Hid (u1.ownsRow w.heap.size 3 1 v' len (zs.map (Value.int .i64))):=by show u1.ownsRow _ _ _ _ _ _;simpa using hown'
  have HB:Hid (Below w.heap.size w u1):=(below_alloc w _).grown hgr (by simp) (fun k hk=>by simp[Value.ownBlock]at hk;omega)
  clear hown' hgr hE HN
  obtain⟨a',c',hv⟩:∃ a' c',v'=.slice a' len c':=by
   rcases HO'.out.2 with ⟨q0,q1⟩ | ⟨g',c',_,q0,_⟩
   ·subst q1;exact⟨none,0,q0⟩
   ·exact⟨_,c',q0⟩
  subst hv
  go_wp2
  go_ret
  exact⟨a',c',rfl,⟨HO'.out,HW.out⟩,HB.out⟩
end Go.Proofs.YtcgfgmlfbgbkfaaGreatDoor.W
namespace Go.Proofs.YtcgfgmlfbgbkfaaGreatDoor.Pl
def usesL (k:Nat) (x:IrI):List Int:=match k with
 | 1=>[]
 | 2=>[x.a]
 | 3=>[x.a,x.b]
 | 4=>[x.a]
 | 5=>[x.a]
 | 6=>[x.a,x.b]
 | 7=>[]
 | 8=>[]
 | 9=>x.args
 | 10=>x.a :: x.args
 | 11=>[]
 | 12=>[]
 | 13=>[x.a,x.b]
 | 14=>if x.a=-1 then [] else [x.a]
 | 15=>[x.a,x.b]
 | 16=>[x.a]
 | _=>[]
def setsL (k:Nat) (x:IrI):List Int:=match k with
 | 1=>[x.d]
 | 2=>[x.d]
 | 3=>[x.d]
 | 4=>[x.d]
 | 5=>[x.d]
 | 6=>[]
 | 7=>[x.d]
 | 8=>[x.d]
 | 9=>if x.d=-1 then [] else [x.d]
 | 10=>if x.d=-1 then [] else [x.d]
 | 11=>[]
 | 12=>[]
 | 13=>[]
 | 14=>[]
 | 15=>[]
 | 16=>[]
 | _=>[]
end Go.Proofs.YtcgfgmlfbgbkfaaGreatDoor.Pl
namespace Go.Proofs.YtcgfgmlfbgbkfaaGreatDoor.W
open Go.RowKit
def Ints (lo:Nat) (us:List Int) (e:Ending) (w':World):Prop:=∃ (a:Option Addr) (cap:Nat),e=.returned (.slice a us.length cap)/\w'.ownsRow lo 3 1 (.slice a us.length cap) us.length (us.map (Value.int .i64))
theorem usesNone_is (w:World):Calls Tryz.prog 155 #[.agg #[]] w fun e w'=>Ints w.heap.size [] e w'/\Below w.heap.size w w':=by
 go_enter Tryz.func155,Tryz.ntmps155
 go_wp2_with fail
 go_ret
 exact⟨⟨none,0,rfl,World.ownsRow_nil _ _ _ _⟩,below_alloc _ _⟩
theorem usesOne_is (a:Int) (w:World):Calls Tryz.prog 152 #[.agg #[.int .i64 a]] w fun e w'=>Ints w.heap.size [a] e w'/\Below w.heap.size w w':=by
 go_enter Tryz.func152,Tryz.ntmps152
 go_wp2_with fail
 go_ret
 refine⟨⟨_,_,rfl,?_⟩,(below_alloc _ _).alloc (by simp) _⟩
 have:=World.ownsRow_lit (w.alloc (.cells #[.int .i64 a] 143)) #[.int .i64 a] 1 (base:=w.heap.size) (e:=3) (size:=1) (by simp) (by unfold maxLen;decide) rfl
 simpa using this
theorem usesTwo_is (a b:Int) (w:World):Calls Tryz.prog 153 #[.agg #[.int .i64 a,.int .i64 b]] w fun e w'=>Ints w.heap.size [a,b] e w'/\Below w.heap.size w w':=by
 go_enter Tryz.func153,Tryz.ntmps153
 go_wp2_with fail
 go_ret
 refine⟨⟨_,_,rfl,?_⟩,(below_alloc _ _).alloc (by simp) _⟩
 have:=World.ownsRow_lit (w.alloc (.cells #[.int .i64 a,.int .i64 b] 145)) #[.int .i64 a,.int .i64 b] 2 (base:=w.heap.size) (e:=3) (size:=1) (by simp) (by unfold maxLen;decide) rfl
 simpa using this
theorem regOrNone_is (r:Int) (w:World):Calls Tryz.prog 185 #[.int .i64 r] w fun e w'=>Ints w.heap.size (if r=-1 then [] else [r]) e w'/\Below w.heap.size w w':=by
 by_cases h:r=-1
 ·rw[if_pos h]
  have hb:(r == -1)=true:=by simpa using h
  clear h
  go_enter Tryz.func185,Tryz.ntmps185
  go_wp2_with fail
  go_ret
  exact⟨⟨none,0,rfl,World.ownsRow_nil _ _ _ _⟩,Below.refl _ _⟩
 ·rw[if_neg h]
  have hb:(r == -1)=false:=by simpa using h
  clear h
  go_enter Tryz.func185,Tryz.ntmps185
  go_wp2_with fail
  go_ret
  refine⟨⟨_,_,rfl,?_⟩,below_alloc _ _⟩
  have:=World.ownsRow_lit w #[.int .i64 r] 1 (base:=w.heap.size) (e:=3) (size:=1) (by simp) (by unfold maxLen;decide) rfl
  simpa using this
theorem ints_lower {lo lo':Nat} {us:List Int} {e:Ending} {w:World} (h:Ints lo us e w) (hl:lo'<=lo):Ints lo' us e w:=by
 obtain⟨a,cap,he,ho⟩:=h
 refine⟨a,cap,he,ho.1,?_⟩
 rcases ho.2 with q | ⟨g,c,cur,h0,hlo,r⟩
 ·exact .inl q
 ·exact .inr ⟨g,c,cur,h0,Nat.le_trans hl hlo,r⟩
theorem setsNone_is (w:World):Calls Tryz.prog 174 #[.agg #[]] w fun e w'=>Ints w.heap.size [] e w'/\Below w.heap.size w w':=by
 go_enter Tryz.func174,Tryz.ntmps174
 go_wp2_with fail
 go_ret
 exact⟨⟨none,0,rfl,World.ownsRow_nil _ _ _ _⟩,below_alloc _ _⟩
theorem setsOne_is (a:Int) (w:World):Calls Tryz.prog 154 #[.agg #[.int .i64 a]] w fun e w'=>Ints w.heap.size [a] e w'/\Below w.heap.size w w':=by
 go_enter Tryz.func154,Tryz.ntmps154
 go_wp2_with fail
 go_ret
 refine⟨⟨_,_,rfl,?_⟩,(below_alloc _ _).alloc (by simp) _⟩
 have:=World.ownsRow_lit (w.alloc (.cells #[.int .i64 a] 147)) #[.int .i64 a] 1 (base:=w.heap.size) (e:=3) (size:=1) (by simp) (by unfold maxLen;decide) rfl
 simpa using this
theorem setsAny_is (d:Int) (w:World):Calls Tryz.prog 184 #[.agg #[.int .i64 d]] w fun e w'=>Ints w.heap.size (if d=-1 then [] else [d]) e w'/\Below w.heap.size w w':=by
 have HR:Hid (∀ u:World,Calls Tryz.prog 185 #[.int .i64 d] u fun e w'=>Ints u.heap.size (if d=-1 then [] else [d]) e w'/\Below u.heap.size u w'):=fun u=>regOrNone_is d u
 generalize (if d=-1 then [] else [d])=us at *
 go_enter Tryz.func184,Tryz.ntmps184
 go_wp2_with (go_at_call 185;refine (HR.out _).mono ?_;rintro e u1 ⟨⟨a,cap,rfl,ho⟩,d1⟩; have HO:Hid _:=ho;have D1:Hid _:=d1;clear ho d1)
 go_ret
 exact⟨ints_lower ⟨a,cap,rfl,HO.out⟩ (by simp),(below_alloc _ _).trans (D1.out.mono (by simp))⟩
theorem retUses_is (r:Int) (w:World):Calls Tryz.prog 207 #[.agg #[.int .i64 r]] w fun e w'=>Ints w.heap.size (if r=-1 then [] else [r]) e w'/\Below w.heap.size w w':=by
 have HR:Hid (∀ u:World,Calls Tryz.prog 185 #[.int .i64 r] u fun e w'=>Ints u.heap.size (if r=-1 then [] else [r]) e w'/\Below u.heap.size u w'):=fun u=>regOrNone_is r u
 generalize (if r=-1 then [] else [r])=us at *
 go_enter Tryz.func207,Tryz.ntmps207
 go_wp2_with (go_at_call 185;refine (HR.out _).mono ?_;rintro e u1 ⟨⟨a,cap,rfl,ho⟩,d1⟩; have HO:Hid _:=ho;have D1:Hid _:=d1;clear ho d1)
 go_ret
 exact⟨ints_lower ⟨a,cap,rfl,HO.out⟩ (by simp),(below_alloc _ _).trans (D1.out.mono (by simp))⟩
theorem callUses_is {lo:Nat} (x:Pl.IrI) (y:SV) (w:World) (hr:Row .i64 lo w y.a y.len y.cap x.args) (hl:y.len<=1048576):Calls Tryz.prog 188 #[.agg #[.int .i64 x.d,.string x.sym,.slice y.a y.len y.cap]] w fun e w'=>Ints w.heap.size x.args e w'/\Below w.heap.size w w':=by
 have HL:Hid (x.args.length=y.len):=hr.1
 have HR:Hid (∀ u:World,Below w.heap.size w u->Calls Tryz.prog 190 #[.slice y.a y.len y.cap] u fun e w'=>∃ a' cap',e=.returned (.slice a' y.len cap')/\Own .i64 3 u.heap.size w' a' y.len cap' x.args/\Below u.heap.size u w'):=fun u hu=>cloneInts_rowA y.a y.len y.cap x.args u (hr.keep hu) hl
 clear hr
 go_enter Tryz.func188,Tryz.ntmps188
 go_wp2_with (go_at_call 190;refine (HR.out _ (below_alloc _ _)).mono ?_;rintro e u1 ⟨a,cap,rfl,ho,d1⟩; have HO:Hid _:=ho;have D1:Hid _:=d1;clear ho d1)
 go_ret
 refine⟨ints_lower (lo:=(w.alloc (.cells #[.int .i64 x.d,.string x.sym,.slice y.a y.len y.cap] 168)).heap.size) ?_ (by simp),(below_alloc _ _).trans (D1.out.mono (by simp))⟩
 refine⟨a,cap,(by rw[HL.out];rfl),?_⟩
 rw[HL.out]
 exact HO.out.1
theorem callAtUses_is {lo:Nat} (x:Pl.IrI) (y:SV) (w:World) (hr:Row .i64 lo w y.a y.len y.cap x.args) (hl:y.len<=1048576):Calls Tryz.prog 193 #[.agg #[.int .i64 x.d,.int .i64 x.a,.slice y.a y.len y.cap]] w fun e w'=>Ints w.heap.size (x.a :: x.args) e w'/\Below w.heap.size w w':=by
 obtain⟨i0,hi,hz0,hz1,hz2⟩:=info_parts Tryz.infoi64
 obtain⟨ya,yl,yc⟩:=y
 simp only at hr hl ⊢
 obtain⟨hl1,hlc,hcm,hwf,h5⟩:=hr
 have hE:((w.alloc (.cells #[.int .i64 x.d,.int .i64 x.a,.slice ya yl yc] 170)).alloc (.cells #[.int .i64 x.a] 3)).ownsRow w.heap.size 3 1 (.slice (some ⟨w.heap.size+1,0,none⟩) 1 1) 1 [.int .i64 x.a]:=by
  have:=World.ownsRow_lit (w.alloc (.cells #[.int .i64 x.d,.int .i64 x.a,.slice ya yl yc] 170)) #[.int .i64 x.a] 1 (base:=w.heap.size) (e:=3) (size:=1) (by simp) (by unfold maxLen;decide) rfl
  simpa using this
 clear hwf
 cases ya with
 | none=>
  have h0:yl=0:=by rcases h5 with h | ⟨b,off,hb,_⟩; exact h;cases hb
  subst h0
  have hz:x.args=[]:=by cases hq:x.args with | nil=>rfl | cons=>rw[hq]at hl1;simp at hl1
  rw[hz]
  clear hl1 h5 hz
  go_enter Tryz.func193,Tryz.ntmps193
  go_wp2_with (at_builtin;refine wpList_append_noneA rfl (.tmp 5) (.tmp 7) 22 rfl w.heap.size 3 i0 1 yc Tryz.underlying22 hi _ 1 [.int .i64 x.a] rfl hE rfl ?_)
  go_ret
  exact⟨⟨_,_,rfl,hE⟩,(below_alloc _ _).alloc (by simp) _⟩
 | some ad=>
  have HN:Hid (∀ j u,(x.args.map (Value.int .i64))[j]?=some u->((w.alloc (.cells #[.int .i64 x.d,.int .i64 x.a,.slice (some ad) yl yc] 170)).alloc (.cells #[.int .i64 x.a] 3)).cell? (ad.add j)=some u):=fun j u hj=>by
   have hjl:j<yl:=by
    have:=(List.getElem?_eq_some_iff.1 hj).1
    rw[List.length_map]at this
    omega
   rcases h5 with h | ⟨b,off,hb,_,hlt,hc⟩
   ·omega
   ·cases hb
    have e1:(⟨b,off,none⟩:Addr).add j=⟨b,off+j,none⟩:=by
     simp only[Addr.add]
     split <;> simp_all
    have hbb:Below w.heap.size w ((w.alloc (.cells #[.int .i64 x.d,.int .i64 x.a,.slice (some ⟨b,off,none⟩) yl yc] 170)).alloc (.cells #[.int .i64 x.a] 3)):=(below_alloc _ _).alloc (by simp) _
    rw[e1,hbb.cell (p:=⟨b,off+j,none⟩) hlt,hc j hjl,<- hj,List.getElem?_map,List.getElem?_eq_getElem (by omega),List.getD_eq_getElem?_getD,List.getElem?_eq_getElem (by omega)]
    rfl
  clear h5
  go_enter Tryz.func193,Tryz.ntmps193
  go_wp2_with (at_builtin;refine wpList_append_own _ rfl (.tmp 5) (.tmp 7) 22 rfl w.heap.size 3 i0 (.int .i64 0) 1 8 Tryz.underlying22 hi hz0 hz1 hz2 rfl (by decide) _ 1 [.int .i64 x.a] rfl hE ad yl yc (x.args.map (Value.int .i64)) rfl (by rw[List.length_map,hl1,Nat.mul_one]) HN.out (by intro u hu;obtain⟨n,_,rfl⟩:=List.mem_map.1 hu;rfl) (by unfold maxLen;omega) (by omega) (by simp;omega) ?_)
  intro v' u1 hown' hgr _
  have HO':Hid (u1.ownsRow w.heap.size 3 1 v' (1+yl) ((x.a :: x.args).map (Value.int .i64))):=hown'
  have HB:Hid (Below w.heap.size w u1):=(Below.alloc (below_alloc w _) (by simp) _).grown hgr (by simp;omega) (fun k hk=>by simp[Value.ownBlock]at hk;omega)
  have HLL:Hid ((x.a :: x.args).length=1+yl):=by show (x.a :: x.args).length=1+yl;rw[List.length_cons,hl1];omega
  clear hown' hgr hE HN
  obtain⟨g',c',hv,_,_⟩:=HO'.out.form (by omega)
  subst hv
  go_wp2
  go_ret
  refine⟨⟨_,c',(by rw[HLL.out];rfl),?_⟩,HB.out⟩
  rw[HLL.out]
  exact HO'.out
theorem meth_uses_1 (x:Pl.IrI) (y:SV) (w:World):(method 365 151 (.agg #[.int .i64 x.d,.int .i64 x.n]) "loop.example/s01681/impl.uses").run Tryz.prog w=.ok (155,.agg #[]) w:=by kernel_rfl
theorem meth_sets_1 (x:Pl.IrI) (y:SV) (w:World):(method 365 151 (.agg #[.int .i64 x.d,.int .i64 x.n]) "loop.example/s01681/impl.sets").run Tryz.prog w=.ok (154,.agg #[.int .i64 x.d]) w:=by kernel_rfl
theorem meth_uses_2 (x:Pl.IrI) (y:SV) (w:World):(method 365 153 (.agg #[.int .i64 x.a,.int .i64 x.d]) "loop.example/s01681/impl.uses").run Tryz.prog w=.ok (152,.agg #[.int .i64 x.a]) w:=by kernel_rfl
theorem meth_sets_2 (x:Pl.IrI) (y:SV) (w:World):(method 365 153 (.agg #[.int .i64 x.a,.int .i64 x.d]) "loop.example/s01681/impl.sets").run Tryz.prog w=.ok (154,.agg #[.int .i64 x.d]) w:=by kernel_rfl
theorem meth_uses_3 (x:Pl.IrI) (y:SV) (w:World):(method 365 155 (.agg #[.int .i64 x.a,.int .i64 x.b,.int .i64 x.d,.int .i64 x.n]) "loop.example/s01681/impl.uses").run Tryz.prog w=.ok (153,.agg #[.int .i64 x.a,.int .i64 x.b]) w:=by kernel_rfl
theorem meth_sets_3 (x:Pl.IrI) (y:SV) (w:World):(method 365 155 (.agg #[.int .i64 x.a,.int .i64 x.b,.int .i64 x.d,.int .i64 x.n]) "loop.example/s01681/impl.sets").run Tryz.prog w=.ok (154,.agg #[.int .i64 x.d]) w:=by kernel_rfl
theorem meth_uses_4 (x:Pl.IrI) (y:SV) (w:World):(method 365 157 (.agg #[.int .i64 x.a,.int .i64 x.d,.int .i64 x.n]) "loop.example/s01681/impl.uses").run Tryz.prog w=.ok (152,.agg #[.int .i64 x.a]) w:=by kernel_rfl
theorem meth_sets_4 (x:Pl.IrI) (y:SV) (w:World):(method 365 157 (.agg #[.int .i64 x.a,.int .i64 x.d,.int .i64 x.n]) "loop.example/s01681/impl.sets").run Tryz.prog w=.ok (154,.agg #[.int .i64 x.d]) w:=by kernel_rfl
theorem meth_uses_5 (x:Pl.IrI) (y:SV) (w:World):(method 365 158 (.agg #[.int .i64 x.a,.int .i64 x.d,.int .i64 x.n]) "loop.example/s01681/impl.uses").run Tryz.prog w=.ok (152,.agg #[.int .i64 x.a]) w:=by kernel_rfl
theorem meth_sets_5 (x:Pl.IrI) (y:SV) (w:World):(method 365 158 (.agg #[.int .i64 x.a,.int .i64 x.d,.int .i64 x.n]) "loop.example/s01681/impl.sets").run Tryz.prog w=.ok (154,.agg #[.int .i64 x.d]) w:=by kernel_rfl
theorem meth_uses_6 (x:Pl.IrI) (y:SV) (w:World):(method 365 161 (.agg #[.int .i64 x.a,.int .i64 x.b,.int .i64 x.n]) "loop.example/s01681/impl.uses").run Tryz.prog w=.ok (153,.agg #[.int .i64 x.a,.int .i64 x.b]) w:=by kernel_rfl
theorem meth_sets_6 (x:Pl.IrI) (y:SV) (w:World):(method 365 161 (.agg #[.int .i64 x.a,.int .i64 x.b,.int .i64 x.n]) "loop.example/s01681/impl.sets").run Tryz.prog w=.ok (174,.agg #[]) w:=by kernel_rfl
theorem meth_uses_7 (x:Pl.IrI) (y:SV) (w:World):(method 365 163 (.agg #[.int .i64 x.d,.string x.sym,.int .i64 x.n]) "loop.example/s01681/impl.uses").run Tryz.prog w=.ok (155,.agg #[]) w:=by kernel_rfl
theorem meth_sets_7 (x:Pl.IrI) (y:SV) (w:World):(method 365 163 (.agg #[.int .i64 x.d,.string x.sym,.int .i64 x.n]) "loop.example/s01681/impl.sets").run Tryz.prog w=.ok (154,.agg #[.int .i64 x.d]) w:=by kernel_rfl
theorem meth_uses_8 (x:Pl.IrI) (y:SV) (w:World):(method 365 165 (.agg #[.int .i64 x.d,.int .i64 x.n]) "loop.example/s01681/impl.uses").run Tryz.prog w=.ok (155,.agg #[]) w:=by kernel_rfl
theorem meth_sets_8 (x:Pl.IrI) (y:SV) (w:World):(method 365 165 (.agg #[.int .i64 x.d,.int .i64 x.n]) "loop.example/s01681/impl.sets").run Tryz.prog w=.ok (154,.agg #[.int .i64 x.d]) w:=by kernel_rfl
theorem meth_uses_9 (x:Pl.IrI) (y:SV) (w:World):(method 365 168 (.agg #[.int .i64 x.d,.string x.sym,.slice y.a y.len y.cap]) "loop.example/s01681/impl.uses").run Tryz.prog w=.ok (188,.agg #[.int .i64 x.d,.string x.sym,.slice y.a y.len y.cap]) w:=by kernel_rfl
theorem meth_sets_9 (x:Pl.IrI) (y:SV) (w:World):(method 365 168 (.agg #[.int .i64 x.d,.string x.sym,.slice y.a y.len y.cap]) "loop.example/s01681/impl.sets").run Tryz.prog w=.ok (184,.agg #[.int .i64 x.d]) w:=by kernel_rfl
theorem meth_uses_10 (x:Pl.IrI) (y:SV) (w:World):(method 365 170 (.agg #[.int .i64 x.d,.int .i64 x.a,.slice y.a y.len y.cap]) "loop.example/s01681/impl.uses").run Tryz.prog w=.ok (193,.agg #[.int .i64 x.d,.int .i64 x.a,.slice y.a y.len y.cap]) w:=by kernel_rfl
theorem meth_sets_10 (x:Pl.IrI) (y:SV) (w:World):(method 365 170 (.agg #[.int .i64 x.d,.int .i64 x.a,.slice y.a y.len y.cap]) "loop.example/s01681/impl.sets").run Tryz.prog w=.ok (184,.agg #[.int .i64 x.d]) w:=by kernel_rfl
theorem meth_uses_11 (x:Pl.IrI) (y:SV) (w:World):(method 365 172 (.agg #[.int .i64 x.n]) "loop.example/s01681/impl.uses").run Tryz.prog w=.ok (155,.agg #[]) w:=by kernel_rfl
theorem meth_sets_11 (x:Pl.IrI) (y:SV) (w:World):(method 365 172 (.agg #[.int .i64 x.n]) "loop.example/s01681/impl.sets").run Tryz.prog w=.ok (174,.agg #[]) w:=by kernel_rfl
theorem meth_uses_12 (x:Pl.IrI) (y:SV) (w:World):(method 365 173 (.agg #[.int .i64 x.n]) "loop.example/s01681/impl.uses").run Tryz.prog w=.ok (155,.agg #[]) w:=by kernel_rfl
theorem meth_sets_12 (x:Pl.IrI) (y:SV) (w:World):(method 365 173 (.agg #[.int .i64 x.n]) "loop.example/s01681/impl.sets").run Tryz.prog w=.ok (174,.agg #[]) w:=by kernel_rfl
theorem meth_uses_13 (x:Pl.IrI) (y:SV) (w:World):(method 365 175 (.agg #[.int .i64 x.a,.int .i64 x.b,.string x.sym,.int .i64 x.n]) "loop.example/s01681/impl.uses").run Tryz.prog w=.ok (153,.agg #[.int .i64 x.a,.int .i64 x.b]) w:=by kernel_rfl
theorem meth_sets_13 (x:Pl.IrI) (y:SV) (w:World):(method 365 175 (.agg #[.int .i64 x.a,.int .i64 x.b,.string x.sym,.int .i64 x.n]) "loop.example/s01681/impl.sets").run Tryz.prog w=.ok (174,.agg #[]) w:=by kernel_rfl
theorem meth_uses_14 (x:Pl.IrI) (y:SV) (w:World):(method 365 177 (.agg #[.int .i64 x.a]) "loop.example/s01681/impl.uses").run Tryz.prog w=.ok (207,.agg #[.int .i64 x.a]) w:=by kernel_rfl
theorem meth_sets_14 (x:Pl.IrI) (y:SV) (w:World):(method 365 177 (.agg #[.int .i64 x.a]) "loop.example/s01681/impl.sets").run Tryz.prog w=.ok (174,.agg #[]) w:=by kernel_rfl
theorem meth_uses_15 (x:Pl.IrI) (y:SV) (w:World):(method 365 179 (.agg #[.int .i64 x.a,.int .i64 x.b,.int .i64 x.n]) "loop.example/s01681/impl.uses").run Tryz.prog w=.ok (153,.agg #[.int .i64 x.a,.int .i64 x.b]) w:=by kernel_rfl
theorem meth_sets_15 (x:Pl.IrI) (y:SV) (w:World):(method 365 179 (.agg #[.int .i64 x.a,.int .i64 x.b,.int .i64 x.n]) "loop.example/s01681/impl.sets").run Tryz.prog w=.ok (174,.agg #[]) w:=by kernel_rfl
theorem meth_uses_16 (x:Pl.IrI) (y:SV) (w:World):(method 365 181 (.agg #[.int .i64 x.a,.int .i64 x.n]) "loop.example/s01681/impl.uses").run Tryz.prog w=.ok (152,.agg #[.int .i64 x.a]) w:=by kernel_rfl
theorem meth_sets_16 (x:Pl.IrI) (y:SV) (w:World):(method 365 181 (.agg #[.int .i64 x.a,.int .i64 x.n]) "loop.example/s01681/impl.sets").run Tryz.prog w=.ok (174,.agg #[]) w:=by kernel_rfl
def Says (v:Value) (name:String) (args:List Value) (w:World) (R:World->Ending->World->Prop):Prop:=∃ (T:TypeId) (c:Value) (F:Nat) (r:Value),v=.iface T c/\(∀ u:World,(method 365 T c name).run Tryz.prog u=.ok (F,r) u)/\(∀ (vs:Array Value) (u:World),(callFunc F vs).run Tryz.prog u=.ok (.enter F vs) u)/\∀ u:World,Below w.heap.size w u->Calls Tryz.prog F (r :: args).toArray u fun e u'=>R u e u'
theorem says_uses {lo:Nat} (k:Nat) (hk:1<=k/\k<=16) (x:Pl.IrI) (y:SV) (w:World) (hr:Row .i64 lo w y.a y.len y.cap x.args) (hl:y.len<=1048576):Says (stV k x y) "loop.example/s01681/impl.uses" [] w fun u e u'=>Ints u.heap.size (Pl.usesL k x) e u'/\Below u.heap.size u u':=by
 obtain⟨h1,h2⟩:=hk
 rcases (show k=1\/k=2\/k=3\/k=4\/k=5\/k=6\/k=7\/k=8\/k=9\/k=10\/k=11\/k=12\/k=13\/k=14\/k=15\/k=16 by omega) with rfl | rfl | rfl | rfl | rfl | rfl | rfl | rfl | rfl | rfl | rfl | rfl | rfl | rfl | rfl | rfl
 ·exact⟨_,_,_,_,rfl,meth_uses_1 x y,fun _ _=>(by kernel_rfl),fun u hu=>usesNone_is u⟩
 ·exact⟨_,_,_,_,rfl,meth_uses_2 x y,fun _ _=>(by kernel_rfl),fun u hu=>usesOne_is x.a u⟩
 ·exact⟨_,_,_,_,rfl,meth_uses_3 x y,fun _ _=>(by kernel_rfl),fun u hu=>usesTwo_is x.a x.b u⟩
 ·exact⟨_,_,_,_,rfl,meth_uses_4 x y,fun _ _=>(by kernel_rfl),fun u hu=>usesOne_is x.a u⟩
 ·exact⟨_,_,_,_,rfl,meth_uses_5 x y,fun _ _=>(by kernel_rfl),fun u hu=>usesOne_is x.a u⟩
 ·exact⟨_,_,_,_,rfl,meth_uses_6 x y,fun _ _=>(by kernel_rfl),fun u hu=>usesTwo_is x.a x.b u⟩
 ·exact⟨_,_,_,_,rfl,meth_uses_7 x y,fun _ _=>(by kernel_rfl),fun u hu=>usesNone_is u⟩
 ·exact⟨_,_,_,_,rfl,meth_uses_8 x y,fun _ _=>(by kernel_rfl),fun u hu=>usesNone_is u⟩
 ·exact⟨_,_,_,_,rfl,meth_uses_9 x y,fun _ _=>(by kernel_rfl),fun u hu=>callUses_is x y u (hr.keep hu) hl⟩
 ·exact⟨_,_,_,_,rfl,meth_uses_10 x y,fun _ _=>(by kernel_rfl),fun u hu=>callAtUses_is x y u (hr.keep hu) hl⟩
 ·exact⟨_,_,_,_,rfl,meth_uses_11 x y,fun _ _=>(by kernel_rfl),fun u hu=>usesNone_is u⟩
 ·exact⟨_,_,_,_,rfl,meth_uses_12 x y,fun _ _=>(by kernel_rfl),fun u hu=>usesNone_is u⟩
 ·exact⟨_,_,_,_,rfl,meth_uses_13 x y,fun _ _=>(by kernel_rfl),fun u hu=>usesTwo_is x.a x.b u⟩
 ·exact⟨_,_,_,_,rfl,meth_uses_14 x y,fun _ _=>(by kernel_rfl),fun u hu=>retUses_is x.a u⟩
 ·exact⟨_,_,_,_,rfl,meth_uses_15 x y,fun _ _=>(by kernel_rfl),fun u hu=>usesTwo_is x.a x.b u⟩
 ·exact⟨_,_,_,_,rfl,meth_uses_16 x y,fun _ _=>(by kernel_rfl),fun u hu=>usesOne_is x.a u⟩
theorem says_sets {lo:Nat} (k:Nat) (hk:1<=k/\k<=16) (x:Pl.IrI) (y:SV) (w:World) (hr:Row .i64 lo w y.a y.len y.cap x.args) (hl:y.len<=1048576):Says (stV k x y) "loop.example/s01681/impl.sets" [] w fun u e u'=>Ints u.heap.size (Pl.setsL k x) e u'/\Below u.heap.size u u':=by
 obtain⟨h1,h2⟩:=hk
 rcases (show k=1\/k=2\/k=3\/k=4\/k=5\/k=6\/k=7\/k=8\/k=9\/k=10\/k=11\/k=12\/k=13\/k=14\/k=15\/k=16 by omega) with rfl | rfl | rfl | rfl | rfl | rfl | rfl | rfl | rfl | rfl | rfl | rfl | rfl | rfl | rfl | rfl
 ·exact⟨_,_,_,_,rfl,meth_sets_1 x y,fun _ _=>(by kernel_rfl),fun u hu=>setsOne_is x.d u⟩
 ·exact⟨_,_,_,_,rfl,meth_sets_2 x y,fun _ _=>(by kernel_rfl),fun u hu=>setsOne_is x.d u⟩
 ·exact⟨_,_,_,_,rfl,meth_sets_3 x y,fun _ _=>(by kernel_rfl),fun u hu=>setsOne_is x.d u⟩
 ·exact⟨_,_,_,_,rfl,meth_sets_4 x y,fun _ _=>(by kernel_rfl),fun u hu=>setsOne_is x.d u⟩
 ·exact⟨_,_,_,_,rfl,meth_sets_5 x y,fun _ _=>(by kernel_rfl),fun u hu=>setsOne_is x.d u⟩
 ·exact⟨_,_,_,_,rfl,meth_sets_6 x y,fun _ _=>(by kernel_rfl),fun u hu=>setsNone_is u⟩
 ·exact⟨_,_,_,_,rfl,meth_sets_7 x y,fun _ _=>(by kernel_rfl),fun u hu=>setsOne_is x.d u⟩
 ·exact⟨_,_,_,_,rfl,meth_sets_8 x y,fun _ _=>(by kernel_rfl),fun u hu=>setsOne_is x.d u⟩
 ·exact⟨_,_,_,_,rfl,meth_sets_9 x y,fun _ _=>(by kernel_rfl),fun u hu=>setsAny_is x.d u⟩
 ·exact⟨_,_,_,_,rfl,meth_sets_10 x y,fun _ _=>(by kernel_rfl),fun u hu=>setsAny_is x.d u⟩
 ·exact⟨_,_,_,_,rfl,meth_sets_11 x y,fun _ _=>(by kernel_rfl),fun u hu=>setsNone_is u⟩
 ·exact⟨_,_,_,_,rfl,meth_sets_12 x y,fun _ _=>(by kernel_rfl),fun u hu=>setsNone_is u⟩
 ·exact⟨_,_,_,_,rfl,meth_sets_13 x y,fun _ _=>(by kernel_rfl),fun u hu=>setsNone_is u⟩
 ·exact⟨_,_,_,_,rfl,meth_sets_14 x y,fun _ _=>(by kernel_rfl),fun u hu=>setsNone_is u⟩
 ·exact⟨_,_,_,_,rfl,meth_sets_15 x y,fun _ _=>(by kernel_rfl),fun u hu=>setsNone_is u⟩
 ·exact⟨_,_,_,_,rfl,meth_sets_16 x y,fun _ _=>(by kernel_rfl),fun u hu=>setsNone_is u⟩
end Go.Proofs.YtcgfgmlfbgbkfaaGreatDoor.W
namespace Go.Proofs.YtcgfgmlfbgbkfaaGreatDoor.Pl
def Nx (code:List IrI) (i j:Nat):Prop:=if (code.getD i IrI.zero).op=14 then False else if (code.getD i IrI.zero).op=12 then isLab code (code.getD i IrI.zero).n j else if (code.getD i IrI.zero).op=13 then j=i+1\/isLab code (code.getD i IrI.zero).n j else j=i+1
def Us (code:List IrI) (i:Nat) (r:Int):Prop:=r∈usesL (code.getD i IrI.zero).op.toNat (code.getD i IrI.zero)
def Se (code:List IrI) (i:Nat) (r:Int):Prop:=r∈setsL (code.getD i IrI.zero).op.toNat (code.getD i IrI.zero)
inductive Live (code:List IrI) (r:Int):Nat->Prop
 | use {i:Nat}:i<code.length->Us code i r->Live code r i
 | go {i j:Nat}:i<code.length->j<code.length->Nx code i j->¬ Se code i r->Live code r j->Live code r i
theorem Live.lt {code:List IrI} {r:Int} {i:Nat} (h:Live code r i):i<code.length:=by cases h <;> assumption
theorem live_least {code:List IrI} {r:Int} (M:Nat->Prop) (hu:∀ i,i<code.length->Us code i r->M i) (hg:∀ i j,i<code.length->j<code.length->Nx code i j->¬ Se code i r->M j->M i) {i:Nat} (h:Live code r i):M i:=by
 induction h with
 | use h1 h2=>exact hu _ h1 h2
 | go h1 h2 h3 h4 _ ih=>exact hg _ _ h1 h2 h3 h4 ih
theorem isLab_lt {code:List IrI} {n:Int} {j:Nat} (h:isLab code n j):j<code.length:=by
 apply Classical.byContradiction
 intro hn
 have:=h.1
 rw[show code.getD j IrI.zero=IrI.zero from by simp[List.getD_eq_getElem?_getD,List.getElem?_eq_none (Nat.le_of_not_lt hn)]]at this
 exact absurd this (by decide)
theorem nx_lt {f:IrF} (hf:funOk f) {i j:Nat} (hi:i<f.code.length) (h:Nx f.code i j):j<f.code.length:=by
 have hl:=hf.1.2.2.2.2
 unfold Nx at h
 split at h
 ·exact h.elim
 split at h
 ·exact isLab_lt h
 have hs:i+1<f.code.length:=by
  apply Classical.byContradiction
  intro hn
  have e:f.code.length-1=i:=by omega
  rw[e]at hl
  contradiction
 split at h
 ·rcases h with rfl | h
  ·exact hs
  ·exact isLab_lt h
 ·rw[h];exact hs
def usesD (x:IrI):List Int:=x.args ++ (if 0<irTab.getD x.op.toNat 0 / 4 % 4/\0<=x.a then [x.a] else []) ++ (if irTab.getD x.op.toNat 0 / 16 % 2=1 then [x.b] else [])
def setsD (x:IrI):Int:=if irTab.getD x.op.toNat 0 % 4=0 then -1 else x.d
def SameUs (x:IrI):Prop:=(∀ r:Int,r∈usesD x↔r∈usesL x.op.toNat x)/\∀ r:Int,0<=r->(r=setsD x↔r∈setsL x.op.toNat x)
theorem same_us_1 (sl:Nat) (regs:Int) (x:IrI) (h:insOk sl regs x) (hx:x.op=1):SameUs x:=by
 obtain⟨op,d,a,b,n,sym,args⟩:=x
 simp only at hx
 subst hx
 simp only[insOk,show irTab.getD (Int.toNat 1) 0=33 from rfl,show (33:Int) % 4=1 from rfl,show (33:Int) / 4 % 4=0 from rfl,show (33:Int) / 16 % 2=0 from rfl]at h
 simp[regOk,numOk,List.length_eq_zero_iff]at h
 simp only[SameUs,usesD,setsD,usesL,setsL,show irTab.getD (Int.toNat 1) 0=33 from rfl,show (33:Int) % 4=1 from rfl,show (33:Int) / 4 % 4=0 from rfl,show (33:Int) / 16 % 2=0 from rfl]
 simp
 first | done | grind
theorem same_us_2 (sl:Nat) (regs:Int) (x:IrI) (h:insOk sl regs x) (hx:x.op=2):SameUs x:=by
 obtain⟨op,d,a,b,n,sym,args⟩:=x
 simp only at hx
 subst hx
 simp only[insOk,show irTab.getD (Int.toNat 2) 0=5 from rfl,show (5:Int) % 4=1 from rfl,show (5:Int) / 4 % 4=1 from rfl,show (5:Int) / 16 % 2=0 from rfl]at h
 simp[regOk,numOk,List.length_eq_zero_iff]at h
 simp only[SameUs,usesD,setsD,usesL,setsL,show irTab.getD (Int.toNat 2) 0=5 from rfl,show (5:Int) % 4=1 from rfl,show (5:Int) / 4 % 4=1 from rfl,show (5:Int) / 16 % 2=0 from rfl]
 simp
 first | done | grind
theorem same_us_3 (sl:Nat) (regs:Int) (x:IrI) (h:insOk sl regs x) (hx:x.op=3):SameUs x:=by
 obtain⟨op,d,a,b,n,sym,args⟩:=x
 simp only at hx
 subst hx
 simp only[insOk,show irTab.getD (Int.toNat 3) 0=53 from rfl,show (53:Int) % 4=1 from rfl,show (53:Int) / 4 % 4=1 from rfl,show (53:Int) / 16 % 2=1 from rfl]at h
 simp[regOk,numOk,List.length_eq_zero_iff]at h
 simp only[SameUs,usesD,setsD,usesL,setsL,show irTab.getD (Int.toNat 3) 0=53 from rfl,show (53:Int) % 4=1 from rfl,show (53:Int) / 4 % 4=1 from rfl,show (53:Int) / 16 % 2=1 from rfl]
 simp
 first | done | grind
theorem same_us_4 (sl:Nat) (regs:Int) (x:IrI) (h:insOk sl regs x) (hx:x.op=4):SameUs x:=by
 obtain⟨op,d,a,b,n,sym,args⟩:=x
 simp only at hx
 subst hx
 simp only[insOk,show irTab.getD (Int.toNat 4) 0=37 from rfl,show (37:Int) % 4=1 from rfl,show (37:Int) / 4 % 4=1 from rfl,show (37:Int) / 16 % 2=0 from rfl]at h
 simp[regOk,numOk,List.length_eq_zero_iff]at h
 simp only[SameUs,usesD,setsD,usesL,setsL,show irTab.getD (Int.toNat 4) 0=37 from rfl,show (37:Int) % 4=1 from rfl,show (37:Int) / 4 % 4=1 from rfl,show (37:Int) / 16 % 2=0 from rfl]
 simp
 first | done | grind
theorem same_us_5 (sl:Nat) (regs:Int) (x:IrI) (h:insOk sl regs x) (hx:x.op=5):SameUs x:=by
 obtain⟨op,d,a,b,n,sym,args⟩:=x
 simp only at hx
 subst hx
 simp only[insOk,show irTab.getD (Int.toNat 5) 0=37 from rfl,show (37:Int) % 4=1 from rfl,show (37:Int) / 4 % 4=1 from rfl,show (37:Int) / 16 % 2=0 from rfl]at h
 simp[regOk,numOk,List.length_eq_zero_iff]at h
 simp only[SameUs,usesD,setsD,usesL,setsL,show irTab.getD (Int.toNat 5) 0=37 from rfl,show (37:Int) % 4=1 from rfl,show (37:Int) / 4 % 4=1 from rfl,show (37:Int) / 16 % 2=0 from rfl]
 simp
 first | done | grind
theorem same_us_6 (sl:Nat) (regs:Int) (x:IrI) (h:insOk sl regs x) (hx:x.op=6):SameUs x:=by
 obtain⟨op,d,a,b,n,sym,args⟩:=x
 simp only at hx
 subst hx
 simp only[insOk,show irTab.getD (Int.toNat 6) 0=52 from rfl,show (52:Int) % 4=0 from rfl,show (52:Int) / 4 % 4=1 from rfl,show (52:Int) / 16 % 2=1 from rfl]at h
 simp[regOk,numOk,List.length_eq_zero_iff]at h
 simp only[SameUs,usesD,setsD,usesL,setsL,show irTab.getD (Int.toNat 6) 0=52 from rfl,show (52:Int) % 4=0 from rfl,show (52:Int) / 4 % 4=1 from rfl,show (52:Int) / 16 % 2=1 from rfl]
 simp
 first | done | grind
theorem same_us_7 (sl:Nat) (regs:Int) (x:IrI) (h:insOk sl regs x) (hx:x.op=7):SameUs x:=by
 obtain⟨op,d,a,b,n,sym,args⟩:=x
 simp only at hx
 subst hx
 simp only[insOk,show irTab.getD (Int.toNat 7) 0=97 from rfl,show (97:Int) % 4=1 from rfl,show (97:Int) / 4 % 4=0 from rfl,show (97:Int) / 16 % 2=0 from rfl]at h
 simp[regOk,numOk,List.length_eq_zero_iff]at h
 simp only[SameUs,usesD,setsD,usesL,setsL,show irTab.getD (Int.toNat 7) 0=97 from rfl,show (97:Int) % 4=1 from rfl,show (97:Int) / 4 % 4=0 from rfl,show (97:Int) / 16 % 2=0 from rfl]
 simp
 first | done | grind
theorem same_us_8 (sl:Nat) (regs:Int) (x:IrI) (h:insOk sl regs x) (hx:x.op=8):SameUs x:=by
 obtain⟨op,d,a,b,n,sym,args⟩:=x
 simp only at hx
 subst hx
 simp only[insOk,show irTab.getD (Int.toNat 8) 0=33 from rfl,show (33:Int) % 4=1 from rfl,show (33:Int) / 4 % 4=0 from rfl,show (33:Int) / 16 % 2=0 from rfl]at h
 simp[regOk,numOk,List.length_eq_zero_iff]at h
 simp only[SameUs,usesD,setsD,usesL,setsL,show irTab.getD (Int.toNat 8) 0=33 from rfl,show (33:Int) % 4=1 from rfl,show (33:Int) / 4 % 4=0 from rfl,show (33:Int) / 16 % 2=0 from rfl]
 simp
 first | done | grind
theorem same_us_9 (sl:Nat) (regs:Int) (x:IrI) (h:insOk sl regs x) (hx:x.op=9):SameUs x:=by
 obtain⟨op,d,a,b,n,sym,args⟩:=x
 simp only at hx
 subst hx
 simp only[insOk,show irTab.getD (Int.toNat 9) 0=194 from rfl,show (194:Int) % 4=2 from rfl,show (194:Int) / 4 % 4=0 from rfl,show (194:Int) / 16 % 2=0 from rfl]at h
 simp[regOk,numOk,List.length_eq_zero_iff]at h
 simp only[SameUs,usesD,setsD,usesL,setsL,show irTab.getD (Int.toNat 9) 0=194 from rfl,show (194:Int) % 4=2 from rfl,show (194:Int) / 4 % 4=0 from rfl,show (194:Int) / 16 % 2=0 from rfl]
 simp
 first | done | grind
theorem same_us_10 (sl:Nat) (regs:Int) (x:IrI) (h:insOk sl regs x) (hx:x.op=10):SameUs x:=by
 obtain⟨op,d,a,b,n,sym,args⟩:=x
 simp only at hx
 subst hx
 simp only[insOk,show irTab.getD (Int.toNat 10) 0=134 from rfl,show (134:Int) % 4=2 from rfl,show (134:Int) / 4 % 4=1 from rfl,show (134:Int) / 16 % 2=0 from rfl]at h
 simp[regOk,numOk,List.length_eq_zero_iff]at h
 simp only[SameUs,usesD,setsD,usesL,setsL,show irTab.getD (Int.toNat 10) 0=134 from rfl,show (134:Int) % 4=2 from rfl,show (134:Int) / 4 % 4=1 from rfl,show (134:Int) / 16 % 2=0 from rfl]
 simp
 first | done | grind
theorem same_us_11 (sl:Nat) (regs:Int) (x:IrI) (h:insOk sl regs x) (hx:x.op=11):SameUs x:=by
 obtain⟨op,d,a,b,n,sym,args⟩:=x
 simp only at hx
 subst hx
 simp only[insOk,show irTab.getD (Int.toNat 11) 0=32 from rfl,show (32:Int) % 4=0 from rfl,show (32:Int) / 4 % 4=0 from rfl,show (32:Int) / 16 % 2=0 from rfl]at h
 simp[regOk,numOk,List.length_eq_zero_iff]at h
 simp only[SameUs,usesD,setsD,usesL,setsL,show irTab.getD (Int.toNat 11) 0=32 from rfl,show (32:Int) % 4=0 from rfl,show (32:Int) / 4 % 4=0 from rfl,show (32:Int) / 16 % 2=0 from rfl]
 simp
 first | done | grind
theorem same_us_12 (sl:Nat) (regs:Int) (x:IrI) (h:insOk sl regs x) (hx:x.op=12):SameUs x:=by
 obtain⟨op,d,a,b,n,sym,args⟩:=x
 simp only at hx
 subst hx
 simp only[insOk,show irTab.getD (Int.toNat 12) 0=32 from rfl,show (32:Int) % 4=0 from rfl,show (32:Int) / 4 % 4=0 from rfl,show (32:Int) / 16 % 2=0 from rfl]at h
 simp[regOk,numOk,List.length_eq_zero_iff]at h
 simp only[SameUs,usesD,setsD,usesL,setsL,show irTab.getD (Int.toNat 12) 0=32 from rfl,show (32:Int) % 4=0 from rfl,show (32:Int) / 4 % 4=0 from rfl,show (32:Int) / 16 % 2=0 from rfl]
 simp
 first | done | grind
theorem same_us_13 (sl:Nat) (regs:Int) (x:IrI) (h:insOk sl regs x) (hx:x.op=13):SameUs x:=by
 obtain⟨op,d,a,b,n,sym,args⟩:=x
 simp only at hx
 subst hx
 simp only[insOk,show irTab.getD (Int.toNat 13) 0=116 from rfl,show (116:Int) % 4=0 from rfl,show (116:Int) / 4 % 4=1 from rfl,show (116:Int) / 16 % 2=1 from rfl]at h
 simp[regOk,numOk,List.length_eq_zero_iff]at h
 simp only[SameUs,usesD,setsD,usesL,setsL,show irTab.getD (Int.toNat 13) 0=116 from rfl,show (116:Int) % 4=0 from rfl,show (116:Int) / 4 % 4=1 from rfl,show (116:Int) / 16 % 2=1 from rfl]
 simp
 first | done | grind
theorem same_us_14 (sl:Nat) (regs:Int) (x:IrI) (h:insOk sl regs x) (hx:x.op=14):SameUs x:=by
 obtain⟨op,d,a,b,n,sym,args⟩:=x
 simp only at hx
 subst hx
 simp only[insOk,show irTab.getD (Int.toNat 14) 0=8 from rfl,show (8:Int) % 4=0 from rfl,show (8:Int) / 4 % 4=2 from rfl,show (8:Int) / 16 % 2=0 from rfl]at h
 simp[regOk,numOk,List.length_eq_zero_iff]at h
 simp only[SameUs,usesD,setsD,usesL,setsL,show irTab.getD (Int.toNat 14) 0=8 from rfl,show (8:Int) % 4=0 from rfl,show (8:Int) / 4 % 4=2 from rfl,show (8:Int) / 16 % 2=0 from rfl]
 simp
 first | done | grind
theorem same_us_15 (sl:Nat) (regs:Int) (x:IrI) (h:insOk sl regs x) (hx:x.op=15):SameUs x:=by
 obtain⟨op,d,a,b,n,sym,args⟩:=x
 simp only at hx
 subst hx
 simp only[insOk,show irTab.getD (Int.toNat 15) 0=52 from rfl,show (52:Int) % 4=0 from rfl,show (52:Int) / 4 % 4=1 from rfl,show (52:Int) / 16 % 2=1 from rfl]at h
 simp[regOk,numOk,List.length_eq_zero_iff]at h
 simp only[SameUs,usesD,setsD,usesL,setsL,show irTab.getD (Int.toNat 15) 0=52 from rfl,show (52:Int) % 4=0 from rfl,show (52:Int) / 4 % 4=1 from rfl,show (52:Int) / 16 % 2=1 from rfl]
 simp
 first | done | grind
theorem same_us_16 (sl:Nat) (regs:Int) (x:IrI) (h:insOk sl regs x) (hx:x.op=16):SameUs x:=by
 obtain⟨op,d,a,b,n,sym,args⟩:=x
 simp only at hx
 subst hx
 simp only[insOk,show irTab.getD (Int.toNat 16) 0=36 from rfl,show (36:Int) % 4=0 from rfl,show (36:Int) / 4 % 4=1 from rfl,show (36:Int) / 16 % 2=0 from rfl]at h
 simp[regOk,numOk,List.length_eq_zero_iff]at h
 simp only[SameUs,usesD,setsD,usesL,setsL,show irTab.getD (Int.toNat 16) 0=36 from rfl,show (36:Int) % 4=0 from rfl,show (36:Int) / 4 % 4=1 from rfl,show (36:Int) / 16 % 2=0 from rfl]
 simp
 first | done | grind
theorem same_us {sl:Nat} {regs:Int} {x:IrI} (h:insOk sl regs x):SameUs x:=by
 have hx:=h.1
 have e:x.op=1\/x.op=2\/x.op=3\/x.op=4\/x.op=5\/x.op=6\/x.op=7\/x.op=8\/x.op=9\/x.op=10\/x.op=11\/x.op=12\/x.op=13\/x.op=14\/x.op=15\/x.op=16:=by omega
 rcases e with e | e | e | e | e | e | e | e | e | e | e | e | e | e | e | e
 ·exact same_us_1 sl regs x h e
 ·exact same_us_2 sl regs x h e
 ·exact same_us_3 sl regs x h e
 ·exact same_us_4 sl regs x h e
 ·exact same_us_5 sl regs x h e
 ·exact same_us_6 sl regs x h e
 ·exact same_us_7 sl regs x h e
 ·exact same_us_8 sl regs x h e
 ·exact same_us_9 sl regs x h e
 ·exact same_us_10 sl regs x h e
 ·exact same_us_11 sl regs x h e
 ·exact same_us_12 sl regs x h e
 ·exact same_us_13 sl regs x h e
 ·exact same_us_14 sl regs x h e
 ·exact same_us_15 sl regs x h e
 ·exact same_us_16 sl regs x h e
end Go.Proofs.YtcgfgmlfbgbkfaaGreatDoor.Pl
