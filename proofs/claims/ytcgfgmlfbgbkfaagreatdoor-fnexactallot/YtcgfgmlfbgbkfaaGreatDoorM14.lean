import Derived.Test.YtcgfgmlfbgbkfaaGreatDoorM13
import Derived.Deep.WholeRow
import Derived.Test.YtcgfgmlfbgbkfaaGreatDoorM05
import Derived.Test.YtcgfgmlfbgbkfaaGreatDoorM04
import Derived.Maps.OwnOps
import Derived.Maps.OwnSet
import Derived.Maps.Views
import Derived.Deep.AppendLies
set_option linter.unusedVariables false
set_option linter.unusedSimpArgs false
set_option maxHeartbeats 16000000
namespace Go.Proofs.YtcgfgmlfbgbkfaaGreatDoor.Pl
def wrI (k:Nat) (x:IrI):IrI:=match k with
 | 1=>⟨1,x.d,0,0,x.n,⟨#[]⟩,[]⟩
 | 2=>⟨2,x.d,x.a,0,0,⟨#[]⟩,[]⟩
 | 3=>⟨3,x.d,x.a,x.b,x.n,⟨#[]⟩,[]⟩
 | 4=>⟨4,x.d,x.a,0,x.n,⟨#[]⟩,[]⟩
 | 5=>⟨5,x.d,x.a,0,x.n,⟨#[]⟩,[]⟩
 | 6=>⟨6,0,x.a,x.b,x.n,⟨#[]⟩,[]⟩
 | 7=>⟨7,x.d,0,0,x.n,x.sym,[]⟩
 | 8=>⟨8,x.d,0,0,x.n,⟨#[]⟩,[]⟩
 | 9=>⟨9,x.d,0,0,0,x.sym,x.args⟩
 | 10=>⟨10,x.d,x.a,0,0,⟨#[]⟩,x.args⟩
 | 11=>⟨11,0,0,0,x.n,⟨#[]⟩,[]⟩
 | 12=>⟨12,0,0,0,x.n,⟨#[]⟩,[]⟩
 | 13=>⟨13,0,x.a,x.b,x.n,x.sym,[]⟩
 | 14=>⟨14,0,x.a,0,0,⟨#[]⟩,[]⟩
 | 15=>⟨15,0,x.a,x.b,x.n,⟨#[]⟩,[]⟩
 | 16=>⟨16,0,x.a,0,x.n,⟨#[]⟩,[]⟩
 | _=>IrI.zero
end Go.Proofs.YtcgfgmlfbgbkfaaGreatDoor.Pl
namespace Go.Proofs.YtcgfgmlfbgbkfaaGreatDoor.W
open Go.RowKit
def Writes (lo:Nat) (x:Pl.IrI) (e:Ending) (w':World):Prop:=∃ v:SV,e=.returned (.agg (x.cells v))/\Row .i64 lo w' v.a v.len v.cap x.args
theorem row_nilN (lo:Nat) (w:World):Row .i64 lo w none 0 0 []:=⟨rfl,Nat.le_refl _,Nat.zero_le _,fun n hn=>(by cases hn),.inl rfl⟩
theorem written_1 (x:Pl.IrI) (w:World):Calls Tryz.prog 158 #[.agg #[.int .i64 x.d,.int .i64 x.n]] w fun e w'=>Writes w.heap.size (Pl.wrI 1 x) e w'/\Below w.heap.size w w':=by
 go_enter Tryz.func158,Tryz.ntmps158
 go_wp2
 exact bodyPost_ret (v:=.agg #[.int .i64 1,.int .i64 x.d,.int .i64 0,.int .i64 0,.int .i64 x.n,.string ⟨#[]⟩,.slice none 0 0]) (by simp[results,Tryz.results158,go_sem]) rfl ⟨⟨⟨none,0,0⟩,rfl,row_nilN _ _⟩,(by repeat (first | exact Below.refl _ _ | refine Below.alloc ?_ (by simp <;> omega) _))⟩
theorem written_2 (x:Pl.IrI) (w:World):Calls Tryz.prog 164 #[.agg #[.int .i64 x.a,.int .i64 x.d]] w fun e w'=>Writes w.heap.size (Pl.wrI 2 x) e w'/\Below w.heap.size w w':=by
 go_enter Tryz.func164,Tryz.ntmps164
 go_wp2
 exact bodyPost_ret (v:=.agg #[.int .i64 2,.int .i64 x.d,.int .i64 x.a,.int .i64 0,.int .i64 0,.string ⟨#[]⟩,.slice none 0 0]) (by simp[results,Tryz.results164,go_sem]) rfl ⟨⟨⟨none,0,0⟩,rfl,row_nilN _ _⟩,(by repeat (first | exact Below.refl _ _ | refine Below.alloc ?_ (by simp <;> omega) _))⟩
theorem written_3 (x:Pl.IrI) (w:World):Calls Tryz.prog 167 #[.agg #[.int .i64 x.a,.int .i64 x.b,.int .i64 x.d,.int .i64 x.n]] w fun e w'=>Writes w.heap.size (Pl.wrI 3 x) e w'/\Below w.heap.size w w':=by
 go_enter Tryz.func167,Tryz.ntmps167
 go_wp2
 exact bodyPost_ret (v:=.agg #[.int .i64 3,.int .i64 x.d,.int .i64 x.a,.int .i64 x.b,.int .i64 x.n,.string ⟨#[]⟩,.slice none 0 0]) (by simp[results,Tryz.results167,go_sem]) rfl ⟨⟨⟨none,0,0⟩,rfl,row_nilN _ _⟩,(by repeat (first | exact Below.refl _ _ | refine Below.alloc ?_ (by simp <;> omega) _))⟩
theorem written_4 (x:Pl.IrI) (w:World):Calls Tryz.prog 170 #[.agg #[.int .i64 x.a,.int .i64 x.d,.int .i64 x.n]] w fun e w'=>Writes w.heap.size (Pl.wrI 4 x) e w'/\Below w.heap.size w w':=by
 go_enter Tryz.func170,Tryz.ntmps170
 go_wp2
 exact bodyPost_ret (v:=.agg #[.int .i64 4,.int .i64 x.d,.int .i64 x.a,.int .i64 0,.int .i64 x.n,.string ⟨#[]⟩,.slice none 0 0]) (by simp[results,Tryz.results170,go_sem]) rfl ⟨⟨⟨none,0,0⟩,rfl,row_nilN _ _⟩,(by repeat (first | exact Below.refl _ _ | refine Below.alloc ?_ (by simp <;> omega) _))⟩
theorem written_5 (x:Pl.IrI) (w:World):Calls Tryz.prog 173 #[.agg #[.int .i64 x.a,.int .i64 x.d,.int .i64 x.n]] w fun e w'=>Writes w.heap.size (Pl.wrI 5 x) e w'/\Below w.heap.size w w':=by
 go_enter Tryz.func173,Tryz.ntmps173
 go_wp2
 exact bodyPost_ret (v:=.agg #[.int .i64 5,.int .i64 x.d,.int .i64 x.a,.int .i64 0,.int .i64 x.n,.string ⟨#[]⟩,.slice none 0 0]) (by simp[results,Tryz.results173,go_sem]) rfl ⟨⟨⟨none,0,0⟩,rfl,row_nilN _ _⟩,(by repeat (first | exact Below.refl _ _ | refine Below.alloc ?_ (by simp <;> omega) _))⟩
theorem written_6 (x:Pl.IrI) (w:World):Calls Tryz.prog 177 #[.agg #[.int .i64 x.a,.int .i64 x.b,.int .i64 x.n]] w fun e w'=>Writes w.heap.size (Pl.wrI 6 x) e w'/\Below w.heap.size w w':=by
 go_enter Tryz.func177,Tryz.ntmps177
 go_wp2
 exact bodyPost_ret (v:=.agg #[.int .i64 6,.int .i64 0,.int .i64 x.a,.int .i64 x.b,.int .i64 x.n,.string ⟨#[]⟩,.slice none 0 0]) (by simp[results,Tryz.results177,go_sem]) rfl ⟨⟨⟨none,0,0⟩,rfl,row_nilN _ _⟩,(by repeat (first | exact Below.refl _ _ | refine Below.alloc ?_ (by simp <;> omega) _))⟩
theorem written_7 (x:Pl.IrI) (w:World):Calls Tryz.prog 180 #[.agg #[.int .i64 x.d,.string x.sym,.int .i64 x.n]] w fun e w'=>Writes w.heap.size (Pl.wrI 7 x) e w'/\Below w.heap.size w w':=by
 go_enter Tryz.func180,Tryz.ntmps180
 go_wp2
 exact bodyPost_ret (v:=.agg #[.int .i64 7,.int .i64 x.d,.int .i64 0,.int .i64 0,.int .i64 x.n,.string x.sym,.slice none 0 0]) (by simp[results,Tryz.results180,go_sem]) rfl ⟨⟨⟨none,0,0⟩,rfl,row_nilN _ _⟩,(by repeat (first | exact Below.refl _ _ | refine Below.alloc ?_ (by simp <;> omega) _))⟩
theorem written_8 (x:Pl.IrI) (w:World):Calls Tryz.prog 183 #[.agg #[.int .i64 x.d,.int .i64 x.n]] w fun e w'=>Writes w.heap.size (Pl.wrI 8 x) e w'/\Below w.heap.size w w':=by
 go_enter Tryz.func183,Tryz.ntmps183
 go_wp2
 exact bodyPost_ret (v:=.agg #[.int .i64 8,.int .i64 x.d,.int .i64 0,.int .i64 0,.int .i64 x.n,.string ⟨#[]⟩,.slice none 0 0]) (by simp[results,Tryz.results183,go_sem]) rfl ⟨⟨⟨none,0,0⟩,rfl,row_nilN _ _⟩,(by repeat (first | exact Below.refl _ _ | refine Below.alloc ?_ (by simp <;> omega) _))⟩
theorem written_11 (x:Pl.IrI) (w:World):Calls Tryz.prog 197 #[.agg #[.int .i64 x.n]] w fun e w'=>Writes w.heap.size (Pl.wrI 11 x) e w'/\Below w.heap.size w w':=by
 go_enter Tryz.func197,Tryz.ntmps197
 go_wp2
 exact bodyPost_ret (v:=.agg #[.int .i64 11,.int .i64 0,.int .i64 0,.int .i64 0,.int .i64 x.n,.string ⟨#[]⟩,.slice none 0 0]) (by simp[results,Tryz.results197,go_sem]) rfl ⟨⟨⟨none,0,0⟩,rfl,row_nilN _ _⟩,(by repeat (first | exact Below.refl _ _ | refine Below.alloc ?_ (by simp <;> omega) _))⟩
theorem written_12 (x:Pl.IrI) (w:World):Calls Tryz.prog 200 #[.agg #[.int .i64 x.n]] w fun e w'=>Writes w.heap.size (Pl.wrI 12 x) e w'/\Below w.heap.size w w':=by
 go_enter Tryz.func200,Tryz.ntmps200
 go_wp2
 exact bodyPost_ret (v:=.agg #[.int .i64 12,.int .i64 0,.int .i64 0,.int .i64 0,.int .i64 x.n,.string ⟨#[]⟩,.slice none 0 0]) (by simp[results,Tryz.results200,go_sem]) rfl ⟨⟨⟨none,0,0⟩,rfl,row_nilN _ _⟩,(by repeat (first | exact Below.refl _ _ | refine Below.alloc ?_ (by simp <;> omega) _))⟩
theorem written_13 (x:Pl.IrI) (w:World):Calls Tryz.prog 203 #[.agg #[.int .i64 x.a,.int .i64 x.b,.string x.sym,.int .i64 x.n]] w fun e w'=>Writes w.heap.size (Pl.wrI 13 x) e w'/\Below w.heap.size w w':=by
 go_enter Tryz.func203,Tryz.ntmps203
 go_wp2
 exact bodyPost_ret (v:=.agg #[.int .i64 13,.int .i64 0,.int .i64 x.a,.int .i64 x.b,.int .i64 x.n,.string x.sym,.slice none 0 0]) (by simp[results,Tryz.results203,go_sem]) rfl ⟨⟨⟨none,0,0⟩,rfl,row_nilN _ _⟩,(by repeat (first | exact Below.refl _ _ | refine Below.alloc ?_ (by simp <;> omega) _))⟩
theorem written_14 (x:Pl.IrI) (w:World):Calls Tryz.prog 208 #[.agg #[.int .i64 x.a]] w fun e w'=>Writes w.heap.size (Pl.wrI 14 x) e w'/\Below w.heap.size w w':=by
 go_enter Tryz.func208,Tryz.ntmps208
 go_wp2
 exact bodyPost_ret (v:=.agg #[.int .i64 14,.int .i64 0,.int .i64 x.a,.int .i64 0,.int .i64 0,.string ⟨#[]⟩,.slice none 0 0]) (by simp[results,Tryz.results208,go_sem]) rfl ⟨⟨⟨none,0,0⟩,rfl,row_nilN _ _⟩,(by repeat (first | exact Below.refl _ _ | refine Below.alloc ?_ (by simp <;> omega) _))⟩
theorem written_15 (x:Pl.IrI) (w:World):Calls Tryz.prog 211 #[.agg #[.int .i64 x.a,.int .i64 x.b,.int .i64 x.n]] w fun e w'=>Writes w.heap.size (Pl.wrI 15 x) e w'/\Below w.heap.size w w':=by
 go_enter Tryz.func211,Tryz.ntmps211
 go_wp2
 exact bodyPost_ret (v:=.agg #[.int .i64 15,.int .i64 0,.int .i64 x.a,.int .i64 x.b,.int .i64 x.n,.string ⟨#[]⟩,.slice none 0 0]) (by simp[results,Tryz.results211,go_sem]) rfl ⟨⟨⟨none,0,0⟩,rfl,row_nilN _ _⟩,(by repeat (first | exact Below.refl _ _ | refine Below.alloc ?_ (by simp <;> omega) _))⟩
theorem written_16 (x:Pl.IrI) (w:World):Calls Tryz.prog 214 #[.agg #[.int .i64 x.a,.int .i64 x.n]] w fun e w'=>Writes w.heap.size (Pl.wrI 16 x) e w'/\Below w.heap.size w w':=by
 go_enter Tryz.func214,Tryz.ntmps214
 go_wp2
 exact bodyPost_ret (v:=.agg #[.int .i64 16,.int .i64 0,.int .i64 x.a,.int .i64 0,.int .i64 x.n,.string ⟨#[]⟩,.slice none 0 0]) (by simp[results,Tryz.results214,go_sem]) rfl ⟨⟨⟨none,0,0⟩,rfl,row_nilN _ _⟩,(by repeat (first | exact Below.refl _ _ | refine Below.alloc ?_ (by simp <;> omega) _))⟩
theorem below_setRowI {B:Nat} {a b:World} (h:Below B a b) {g:Nat} (hp:B<=g) (cs:Array Value):Below B a (b.setRow g cs):=
 ⟨h.os,h.tape,h.output,by simpa [World.setRow] using h.size,fun k hk=>(setRow_other _ _ _ _ (by omega)).trans (h.block k hk)⟩
theorem cell_setRowI (w:World) (g:Nat) (cs:Array Value) (b:Nat) (h:b≠g) {o:Nat}:(w.setRow g cs).cell? ⟨b,o,none⟩=w.cell? ⟨b,o,none⟩:=World.cell?_of_block (setRow_other _ _ _ _ h)
def Wr9Mk (x:Pl.IrI) (y:SV) (g:Nat) (w1:World) (a2:Option Addr) (c2:Nat) (L:Array Bool):Act:={ tmps:=#[.agg #[.int .i64 x.d,.string x.sym,.slice y.a y.len y.cap],.pointer (some ⟨g,0,none⟩),.pointer (some ⟨g+1,0,none⟩),sl L 0 (.pointer (some ⟨g,0,none⟩)),sl L 1 (.pointer (some ⟨g,0,none⟩)),sl L 2 (.int .i64 x.d),sl L 3 (.pointer (some ⟨g,1,none⟩)),sl L 4 (.string x.sym),sl L 5 (.pointer (some ⟨g,2,none⟩)),sl L 6 (.slice y.a y.len y.cap),sl L 7 (.slice a2 y.len c2),sl L 8 (.agg #[.int .i64 9,.int .i64 x.d,.int .i64 0,.int .i64 0,.int .i64 0,.string x.sym,.slice a2 y.len c2])],defers:=[] }
set_option maxRecDepth 100000 in
theorem written_9 {lo:Nat} (x:Pl.IrI) (y:SV) (w0:World) (hr:Row .i64 lo w0 y.a y.len y.cap x.args) (hl:y.len<=1048576):Calls Tryz.prog 189 #[.agg #[.int .i64 x.d,.string x.sym,.slice y.a y.len y.cap]] w0 fun e w'=>Writes w0.heap.size (Pl.wrI 9 x) e w'/\Below w0.heap.size w0 w':=by
 have hb0:Below w0.heap.size w0 ((w0.alloc (.cells #[.int .i64 x.d,.string x.sym,.slice y.a y.len y.cap] 168)).alloc (.cells #[.int .i64 0,.int .i64 0,.int .i64 0,.int .i64 0,.int .i64 0,.string ⟨#[]⟩,.slice none 0 0] 81)).drew:=(Below.alloc (below_alloc _ _) (by simp) _).drew
 have HB0:Hid (Below w0.heap.size w0 ((w0.alloc (.cells #[.int .i64 x.d,.string x.sym,.slice y.a y.len y.cap] 168)).alloc (.cells #[.int .i64 0,.int .i64 0,.int .i64 0,.int .i64 0,.int .i64 0,.string ⟨#[]⟩,.slice none 0 0] 81)).drew):=hb0
 have HCL:Hid (∀ u:World,Below w0.heap.size w0 u->Calls Tryz.prog 190 #[.slice y.a y.len y.cap] u fun e w'=>∃ a' cap',e=.returned (.slice a' y.len cap')/\Own .i64 3 u.heap.size w' a' y.len cap' x.args/\Below u.heap.size u w'):=fun u hu=>cloneInts_rowA y.a y.len y.cap x.args u (hr.keep hu) hl
 have HCL:Hid (∀ u:World,Below w0.heap.size w0 u->Calls Tryz.prog 190 #[.slice y.a y.len y.cap] u fun e w'=>∃ a' cap',e=.returned (.slice a' y.len cap')/\Own .i64 3 u.heap.size w' a' y.len cap' x.args/\Below u.heap.size u w'):=HCL.out
 have HBU:Hid (Below w0.heap.size w0 ((w0.alloc (.cells #[.int .i64 x.d,.string x.sym,.slice y.a y.len y.cap] 168)).alloc (.cells #[.int .i64 0,.int .i64 0,.int .i64 0,.int .i64 0,.int .i64 0,.string ⟨#[]⟩,.slice none 0 0] 81)).drew):=hb0
 have HG2:Hid (((w0.alloc (.cells #[.int .i64 x.d,.string x.sym,.slice y.a y.len y.cap] 168)).alloc (.cells #[.int .i64 0,.int .i64 0,.int .i64 0,.int .i64 0,.int .i64 0,.string ⟨#[]⟩,.slice none 0 0] 81)).drew.heap[w0.heap.size+1]?=some (.cells #[.int .i64 0,.int .i64 0,.int .i64 0,.int .i64 0,.int .i64 0,.string ⟨#[]⟩,.slice none 0 0] 81 (0,0))):=by
  have e:=heap_alloc_new (w0.alloc (.cells #[.int .i64 x.d,.string x.sym,.slice y.a y.len y.cap] 168)) (.cells #[.int .i64 0,.int .i64 0,.int .i64 0,.int .i64 0,.int .i64 0,.string ⟨#[]⟩,.slice none 0 0] 81)
  rw[show (w0.alloc (.cells #[.int .i64 x.d,.string x.sym,.slice y.a y.len y.cap] 168)).heap.size=w0.heap.size+1 by simp]at e
  exact e
 have hg1:((w0.alloc (.cells #[.int .i64 x.d,.string x.sym,.slice y.a y.len y.cap] 168)).alloc (.cells #[.int .i64 0,.int .i64 0,.int .i64 0,.int .i64 0,.int .i64 0,.string ⟨#[]⟩,.slice none 0 0] 81)).drew.heap[w0.heap.size]?=some (.cells #[.int .i64 x.d,.string x.sym,.slice y.a y.len y.cap] 168 (0,0)):=by
  have:=(below_alloc (w0.alloc (.cells #[.int .i64 x.d,.string x.sym,.slice y.a y.len y.cap] 168)) (.cells #[.int .i64 0,.int .i64 0,.int .i64 0,.int .i64 0,.int .i64 0,.string ⟨#[]⟩,.slice none 0 0] 81)).block w0.heap.size (by simp)
  exact this.trans (heap_alloc_new w0 _)
 have d0:((w0.alloc (.cells #[.int .i64 x.d,.string x.sym,.slice y.a y.len y.cap] 168)).alloc (.cells #[.int .i64 0,.int .i64 0,.int .i64 0,.int .i64 0,.int .i64 0,.string ⟨#[]⟩,.slice none 0 0] 81)).drew.cell? ⟨w0.heap.size,0,none⟩=some (.int .i64 x.d):=cell_of_row _ _ 0 _ 168 (0,0) hg1
 have d1:((w0.alloc (.cells #[.int .i64 x.d,.string x.sym,.slice y.a y.len y.cap] 168)).alloc (.cells #[.int .i64 0,.int .i64 0,.int .i64 0,.int .i64 0,.int .i64 0,.string ⟨#[]⟩,.slice none 0 0] 81)).drew.cell? ⟨w0.heap.size,1,none⟩=some (.string x.sym):=cell_of_row _ _ 1 _ 168 (0,0) hg1
 have d2:((w0.alloc (.cells #[.int .i64 x.d,.string x.sym,.slice y.a y.len y.cap] 168)).alloc (.cells #[.int .i64 0,.int .i64 0,.int .i64 0,.int .i64 0,.int .i64 0,.string ⟨#[]⟩,.slice none 0 0] 81)).drew.cell? ⟨w0.heap.size,2,none⟩=some (.slice y.a y.len y.cap):=cell_of_row _ _ 2 _ 168 (0,0) hg1
 clear hb0 hg1 hr
 go_enter Tryz.func189,Tryz.ntmps189
 go_upto_region 1 with fail
 refine wp_region_any (by kernel_rfl) ?_
 change wpAny _ _ _ _ _ _ _ ((w0.alloc (.cells #[.int .i64 x.d,.string x.sym,.slice y.a y.len y.cap] 168)).alloc (.cells #[.int .i64 0,.int .i64 0,.int .i64 0,.int .i64 0,.int .i64 0,.string ⟨#[]⟩,.slice none 0 0] 81)).drew
 refine wpAny_inw (fun L act w=>∃ w1 a2 c2,act=Wr9Mk x y w0.heap.size w1 a2 c2 L/\TwoW ((w0.alloc (.cells #[.int .i64 x.d,.string x.sym,.slice y.a y.len y.cap] 168)).alloc (.cells #[.int .i64 0,.int .i64 0,.int .i64 0,.int .i64 0,.int .i64 0,.string ⟨#[]⟩,.slice none 0 0] 81)).drew (fun v:World=>Below ((w0.alloc (.cells #[.int .i64 x.d,.string x.sym,.slice y.a y.len y.cap] 168)).alloc (.cells #[.int .i64 0,.int .i64 0,.int .i64 0,.int .i64 0,.int .i64 0,.string ⟨#[]⟩,.slice none 0 0] 81)).drew.heap.size ((w0.alloc (.cells #[.int .i64 x.d,.string x.sym,.slice y.a y.len y.cap] 168)).alloc (.cells #[.int .i64 0,.int .i64 0,.int .i64 0,.int .i64 0,.int .i64 0,.string ⟨#[]⟩,.slice none 0 0] 81)).drew v/\Own .i64 3 ((w0.alloc (.cells #[.int .i64 x.d,.string x.sym,.slice y.a y.len y.cap] 168)).alloc (.cells #[.int .i64 0,.int .i64 0,.int .i64 0,.int .i64 0,.int .i64 0,.string ⟨#[]⟩,.slice none 0 0] 81)).drew.heap.size v a2 y.len c2 x.args) (fun v:World=>v=w1.setRow (w0.heap.size+1) #[.int .i64 9,.int .i64 x.d,.int .i64 0,.int .i64 0,.int .i64 0,.string x.sym,.slice a2 y.len c2]) 7 9 w1 L w) ?done (by kernel_rfl) ?step _ 10 _ _ (by kernel_rfl) ?init (by decide)
 case init=>exact⟨w0,none,0,by simp only[Wr9Mk,sl_no (up_init _ _)],TwoW.init⟩
 case step=>
  intro L act w i o hI hlt hs nl hC hd ho K hK
  obtain⟨w1,a2,c2,rfl,hW⟩:=hI
  have hi_lt:i<10:=(Array.getElem?_eq_some_iff.1 ho).1
  rcases (show i=0\/i=1\/i=2\/i=3\/i=4\/i=5\/i=6\/i=7\/i=8\/i=9 by omega) with rfl | rfl | rfl | rfl | rfl | rfl | rfl | rfl | rfl | rfl
  ·change some _=some o at ho
   cases ho
   simp only[Wr9Mk]
   go_simp
   exact hK _ _ ⟨w1,a2,c2,by simp only[Wr9Mk,sl_set hlt,reduceIte,Nat.reduceEqDiff];try rfl,(hW.keep hlt (by decide) (by decide))⟩
  ·change some _=some o at ho
   cases ho
   have q0:up L 0=true:=hd { on:=0,ground:=.data } (by simp) rfl
   simp only[Wr9Mk,sl_yes q0]
   go_simp
   exact hK _ _ ⟨w1,a2,c2,by simp only[Wr9Mk,sl_set hlt,sl_yes q0,reduceIte,Nat.reduceEqDiff];try rfl,(hW.keep hlt (by decide) (by decide))⟩
  ·change some _=some o at ho
   cases ho
   have q1:up L 1=true:=hd { on:=1,ground:=.data } (by simp) rfl
   have n8:up L 8=false:=hC.no nl 8 rfl (by kernel_rfl)
   have n9:up L 9=false:=hC.no n8 9 rfl (by kernel_rfl)
   have cx:=hW.cell n9 d0 (fun q=>below_cell q.1 d0)
   simp only[Wr9Mk,sl_yes q1]
   go_simp
   exact hK _ _ ⟨w1,a2,c2,by simp only[Wr9Mk,sl_set hlt,sl_yes q1,reduceIte,Nat.reduceEqDiff];try rfl,(hW.keep hlt (by decide) (by decide))⟩
  ·change some _=some o at ho
   cases ho
   simp only[Wr9Mk]
   go_simp
   exact hK _ _ ⟨w1,a2,c2,by simp only[Wr9Mk,sl_set hlt,reduceIte,Nat.reduceEqDiff];try rfl,(hW.keep hlt (by decide) (by decide))⟩
  ·change some _=some o at ho
   cases ho
   have q3:up L 3=true:=hd { on:=3,ground:=.data } (by simp) rfl
   have n8:up L 8=false:=hC.no nl 8 rfl (by kernel_rfl)
   have n9:up L 9=false:=hC.no n8 9 rfl (by kernel_rfl)
   have cx:=hW.cell n9 d1 (fun q=>below_cell q.1 d1)
   simp only[Wr9Mk,sl_yes q3]
   go_simp
   exact hK _ _ ⟨w1,a2,c2,by simp only[Wr9Mk,sl_set hlt,sl_yes q3,reduceIte,Nat.reduceEqDiff];try rfl,(hW.keep hlt (by decide) (by decide))⟩
  ·change some _=some o at ho
   cases ho
   simp only[Wr9Mk]
   go_simp
   exact hK _ _ ⟨w1,a2,c2,by simp only[Wr9Mk,sl_set hlt,reduceIte,Nat.reduceEqDiff];try rfl,(hW.keep hlt (by decide) (by decide))⟩
  ·change some _=some o at ho
   cases ho
   have q5:up L 5=true:=hd { on:=5,ground:=.data } (by simp) rfl
   have n7:up L 7=false:=hC.no nl 7 rfl (by kernel_rfl)
   have n8:up L 8=false:=hC.no n7 8 rfl (by kernel_rfl)
   have n9:up L 9=false:=hC.no n8 9 rfl (by kernel_rfl)
   have cx:=hW.cell n9 d2 (fun q=>below_cell q.1 d2)
   simp only[Wr9Mk,sl_yes q5]
   go_simp
   exact hK _ _ ⟨w1,a2,c2,by simp only[Wr9Mk,sl_set hlt,sl_yes q5,reduceIte,Nat.reduceEqDiff];try rfl,(hW.keep hlt (by decide) (by decide))⟩
  ·change some _=some o at ho
   cases ho
   have q6:up L 6=true:=hd { on:=6,ground:=.data } (by simp) rfl
   have n8:up L 8=false:=hC.no nl 8 rfl (by kernel_rfl)
   have n9:up L 9=false:=hC.no n8 9 rfl (by kernel_rfl)
   obtain rfl:=hW.1 nl
   simp only[Wr9Mk,sl_yes q6]
   go_simp
   refine (HCL.out _ HBU.out).mono ?_
   rintro e w2 ⟨a',c',rfl,ho,d1'⟩
   go_simp
   exact hK _ _ ⟨w2,a',c',by simp only[Wr9Mk,sl_set hlt,sl_yes q6,sl_no n8,reduceIte,Nat.reduceEqDiff];try rfl,TwoW.first hlt (by decide) n9 ⟨d1',ho⟩⟩
  ·change some _=some o at ho
   cases ho
   have q2:up L 2=true:=hd { on:=2,ground:=.data } (by simp) rfl
   have q4:up L 4=true:=hd { on:=4,ground:=.data } (by simp) rfl
   have q7:up L 7=true:=hd { on:=7,ground:=.data } (by simp) rfl
   simp only[Wr9Mk,sl_yes q2,sl_yes q4,sl_yes q7]
   go_simp
   exact hK _ _ ⟨w1,a2,c2,by simp only[Wr9Mk,sl_set hlt,sl_yes q2,sl_yes q4,sl_yes q7,reduceIte,Nat.reduceEqDiff];try rfl,(hW.keep hlt (by decide) (by decide))⟩
  ·change some _=some o at ho
   cases ho
   have q8:up L 8=true:=hd { on:=8,ground:=.data } (by simp) rfl
   have q7:up L 7=true:=hC 8 _ rfl q8 { on:=7,ground:=.data } (by simp) rfl
   obtain⟨⟨y1,y2⟩,y3,_⟩:=hW.2 q7
   obtain rfl:=y3 nl
   have hg2:=(y1.block (w0.heap.size+1) (by simp)).trans HG2.out
   simp only[Wr9Mk,sl_yes q8]
   rw[if_pos (by rfl)]
   refine wp_store_row 81 (.tmp 2) (.tmp 11) rfl (w0.heap.size+1) #[.int .i64 9,.int .i64 x.d,.int .i64 0,.int .i64 0,.int .i64 0,.string x.sym,.slice a2 y.len c2] rfl rfl 81 #[.int .i64 0,.int .i64 0,.int .i64 0,.int .i64 0,.int .i64 0,.string ⟨#[]⟩,.slice none 0 0] hg2 (by kernel_rfl) rfl (by kernel_rfl) ?_
   exact hK _ _ ⟨w,a2,c2,by simp only[Wr9Mk,sl_set hlt,sl_yes q8,reduceIte,Nat.reduceEqDiff];try rfl,hW.second hlt q7 rfl⟩
 case done=>
  rintro L act w ⟨w1,a2,c2,rfl,hW⟩ hall
  obtain⟨⟨y1,y2⟩,_,y3⟩:=hW.2 (hall 7 (by decide))
  obtain rfl:=y3 (hall 9 (by decide))
  have hg2:=(y1.block (w0.heap.size+1) (by simp)).trans HG2.out
  have HF:Hid ((w1.setRow (w0.heap.size+1) #[.int .i64 9,.int .i64 x.d,.int .i64 0,.int .i64 0,.int .i64 0,.string x.sym,.slice a2 y.len c2]).heap[w0.heap.size+1]?=some (.cells #[.int .i64 9,.int .i64 x.d,.int .i64 0,.int .i64 0,.int .i64 0,.string x.sym,.slice a2 y.len c2] 81 (0,0))):=setRow_heap _ _ _ _ _ _ hg2
  have HB1:Hid (Below w0.heap.size w0 (w1.setRow (w0.heap.size+1) #[.int .i64 9,.int .i64 x.d,.int .i64 0,.int .i64 0,.int .i64 0,.string x.sym,.slice a2 y.len c2])):=below_setRowI (HB0.out.trans (y1.mono HB0.out.size)) (by omega) _
  have HR:Hid (Row .i64 w0.heap.size (w1.setRow (w0.heap.size+1) #[.int .i64 9,.int .i64 x.d,.int .i64 0,.int .i64 0,.int .i64 0,.string x.sym,.slice a2 y.len c2]) a2 y.len c2 x.args):=by
   have h0:=y2.row
   obtain⟨r1,r2,r3,r4,r5⟩:=h0
   refine⟨r1,r2,r3,r4,?_⟩
   rcases r5 with q | ⟨b,off,q1,q2,q3,q4⟩
   ·exact .inl q
   ·have q5:w0.heap.size+2<=b:=by simpa using q2
    refine .inr ⟨b,off,q1,by omega,by simpa [World.setRow] using q3,fun i hi=>?_⟩
    rw[cell_setRowI w1 _ _ b (by omega)]
    exact q4 i hi
  clear hW y1 y2 y3 hg2
  simp only[Wr9Mk,sl_yes (hall 0 (by decide)),sl_yes (hall 1 (by decide)),sl_yes (hall 2 (by decide)),sl_yes (hall 3 (by decide)),sl_yes (hall 4 (by decide)),sl_yes (hall 5 (by decide)),sl_yes (hall 6 (by decide)),sl_yes (hall 7 (by decide)),sl_yes (hall 8 (by decide))]
  go_wp2_with fail
  refine bodyPost_ret (v:=.agg #[.int .i64 9,.int .i64 x.d,.int .i64 0,.int .i64 0,.int .i64 0,.string x.sym,.slice a2 y.len c2]) ?hres rfl ⟨⟨⟨a2,y.len,c2⟩,rfl,HR.out⟩,HB1.out⟩
  refine results_cell_row Tryz.results189 _ _ (w0.heap.size+1) 81 #[.int .i64 9,.int .i64 x.d,.int .i64 0,.int .i64 0,.int .i64 0,.string x.sym,.slice a2 y.len c2] (0,0) _ ?hp ?hg Tryz.underlying81 ?hd ?hi
  case hp=>rfl
  case hg=>exact HF.out
  case hd=>rfl
  case hi=>kernel_rfl
def Wr10Mk (x:Pl.IrI) (y:SV) (g:Nat) (w1:World) (a2:Option Addr) (c2:Nat) (L:Array Bool):Act:={ tmps:=#[.agg #[.int .i64 x.d,.int .i64 x.a,.slice y.a y.len y.cap],.pointer (some ⟨g,0,none⟩),.pointer (some ⟨g+1,0,none⟩),sl L 0 (.pointer (some ⟨g,0,none⟩)),sl L 1 (.pointer (some ⟨g,0,none⟩)),sl L 2 (.int .i64 x.d),sl L 3 (.pointer (some ⟨g,1,none⟩)),sl L 4 (.int .i64 x.a),sl L 5 (.pointer (some ⟨g,2,none⟩)),sl L 6 (.slice y.a y.len y.cap),sl L 7 (.slice a2 y.len c2),sl L 8 (.agg #[.int .i64 10,.int .i64 x.d,.int .i64 x.a,.int .i64 0,.int .i64 0,.string ⟨#[]⟩,.slice a2 y.len c2])],defers:=[] }
set_option maxRecDepth 100000 in
theorem written_10 {lo:Nat} (x:Pl.IrI) (y:SV) (w0:World) (hr:Row .i64 lo w0 y.a y.len y.cap x.args) (hl:y.len<=1048576):Calls Tryz.prog 194 #[.agg #[.int .i64 x.d,.int .i64 x.a,.slice y.a y.len y.cap]] w0 fun e w'=>Writes w0.heap.size (Pl.wrI 10 x) e w'/\Below w0.heap.size w0 w':=by
 have hb0:Below w0.heap.size w0 ((w0.alloc (.cells #[.int .i64 x.d,.int .i64 x.a,.slice y.a y.len y.cap] 170)).alloc (.cells #[.int .i64 0,.int .i64 0,.int .i64 0,.int .i64 0,.int .i64 0,.string ⟨#[]⟩,.slice none 0 0] 81)).drew:=(Below.alloc (below_alloc _ _) (by simp) _).drew
 have HB0:Hid (Below w0.heap.size w0 ((w0.alloc (.cells #[.int .i64 x.d,.int .i64 x.a,.slice y.a y.len y.cap] 170)).alloc (.cells #[.int .i64 0,.int .i64 0,.int .i64 0,.int .i64 0,.int .i64 0,.string ⟨#[]⟩,.slice none 0 0] 81)).drew):=hb0
 have HCL:Hid (∀ u:World,Below w0.heap.size w0 u->Calls Tryz.prog 190 #[.slice y.a y.len y.cap] u fun e w'=>∃ a' cap',e=.returned (.slice a' y.len cap')/\Own .i64 3 u.heap.size w' a' y.len cap' x.args/\Below u.heap.size u w'):=fun u hu=>cloneInts_rowA y.a y.len y.cap x.args u (hr.keep hu) hl
 have HCL:Hid (∀ u:World,Below w0.heap.size w0 u->Calls Tryz.prog 190 #[.slice y.a y.len y.cap] u fun e w'=>∃ a' cap',e=.returned (.slice a' y.len cap')/\Own .i64 3 u.heap.size w' a' y.len cap' x.args/\Below u.heap.size u w'):=HCL.out
 have HBU:Hid (Below w0.heap.size w0 ((w0.alloc (.cells #[.int .i64 x.d,.int .i64 x.a,.slice y.a y.len y.cap] 170)).alloc (.cells #[.int .i64 0,.int .i64 0,.int .i64 0,.int .i64 0,.int .i64 0,.string ⟨#[]⟩,.slice none 0 0] 81)).drew):=hb0
 have HG2:Hid (((w0.alloc (.cells #[.int .i64 x.d,.int .i64 x.a,.slice y.a y.len y.cap] 170)).alloc (.cells #[.int .i64 0,.int .i64 0,.int .i64 0,.int .i64 0,.int .i64 0,.string ⟨#[]⟩,.slice none 0 0] 81)).drew.heap[w0.heap.size+1]?=some (.cells #[.int .i64 0,.int .i64 0,.int .i64 0,.int .i64 0,.int .i64 0,.string ⟨#[]⟩,.slice none 0 0] 81 (0,0))):=by
  have e:=heap_alloc_new (w0.alloc (.cells #[.int .i64 x.d,.int .i64 x.a,.slice y.a y.len y.cap] 170)) (.cells #[.int .i64 0,.int .i64 0,.int .i64 0,.int .i64 0,.int .i64 0,.string ⟨#[]⟩,.slice none 0 0] 81)
  rw[show (w0.alloc (.cells #[.int .i64 x.d,.int .i64 x.a,.slice y.a y.len y.cap] 170)).heap.size=w0.heap.size+1 by simp]at e
  exact e
 have hg1:((w0.alloc (.cells #[.int .i64 x.d,.int .i64 x.a,.slice y.a y.len y.cap] 170)).alloc (.cells #[.int .i64 0,.int .i64 0,.int .i64 0,.int .i64 0,.int .i64 0,.string ⟨#[]⟩,.slice none 0 0] 81)).drew.heap[w0.heap.size]?=some (.cells #[.int .i64 x.d,.int .i64 x.a,.slice y.a y.len y.cap] 170 (0,0)):=by
  have:=(below_alloc (w0.alloc (.cells #[.int .i64 x.d,.int .i64 x.a,.slice y.a y.len y.cap] 170)) (.cells #[.int .i64 0,.int .i64 0,.int .i64 0,.int .i64 0,.int .i64 0,.string ⟨#[]⟩,.slice none 0 0] 81)).block w0.heap.size (by simp)
  exact this.trans (heap_alloc_new w0 _)
 have d0:((w0.alloc (.cells #[.int .i64 x.d,.int .i64 x.a,.slice y.a y.len y.cap] 170)).alloc (.cells #[.int .i64 0,.int .i64 0,.int .i64 0,.int .i64 0,.int .i64 0,.string ⟨#[]⟩,.slice none 0 0] 81)).drew.cell? ⟨w0.heap.size,0,none⟩=some (.int .i64 x.d):=cell_of_row _ _ 0 _ 170 (0,0) hg1
 have d1:((w0.alloc (.cells #[.int .i64 x.d,.int .i64 x.a,.slice y.a y.len y.cap] 170)).alloc (.cells #[.int .i64 0,.int .i64 0,.int .i64 0,.int .i64 0,.int .i64 0,.string ⟨#[]⟩,.slice none 0 0] 81)).drew.cell? ⟨w0.heap.size,1,none⟩=some (.int .i64 x.a):=cell_of_row _ _ 1 _ 170 (0,0) hg1
 have d2:((w0.alloc (.cells #[.int .i64 x.d,.int .i64 x.a,.slice y.a y.len y.cap] 170)).alloc (.cells #[.int .i64 0,.int .i64 0,.int .i64 0,.int .i64 0,.int .i64 0,.string ⟨#[]⟩,.slice none 0 0] 81)).drew.cell? ⟨w0.heap.size,2,none⟩=some (.slice y.a y.len y.cap):=cell_of_row _ _ 2 _ 170 (0,0) hg1
 clear hb0 hg1 hr
 go_enter Tryz.func194,Tryz.ntmps194
 go_upto_region 1 with fail
 refine wp_region_any (by kernel_rfl) ?_
 change wpAny _ _ _ _ _ _ _ ((w0.alloc (.cells #[.int .i64 x.d,.int .i64 x.a,.slice y.a y.len y.cap] 170)).alloc (.cells #[.int .i64 0,.int .i64 0,.int .i64 0,.int .i64 0,.int .i64 0,.string ⟨#[]⟩,.slice none 0 0] 81)).drew
 refine wpAny_inw (fun L act w=>∃ w1 a2 c2,act=Wr10Mk x y w0.heap.size w1 a2 c2 L/\TwoW ((w0.alloc (.cells #[.int .i64 x.d,.int .i64 x.a,.slice y.a y.len y.cap] 170)).alloc (.cells #[.int .i64 0,.int .i64 0,.int .i64 0,.int .i64 0,.int .i64 0,.string ⟨#[]⟩,.slice none 0 0] 81)).drew (fun v:World=>Below ((w0.alloc (.cells #[.int .i64 x.d,.int .i64 x.a,.slice y.a y.len y.cap] 170)).alloc (.cells #[.int .i64 0,.int .i64 0,.int .i64 0,.int .i64 0,.int .i64 0,.string ⟨#[]⟩,.slice none 0 0] 81)).drew.heap.size ((w0.alloc (.cells #[.int .i64 x.d,.int .i64 x.a,.slice y.a y.len y.cap] 170)).alloc (.cells #[.int .i64 0,.int .i64 0,.int .i64 0,.int .i64 0,.int .i64 0,.string ⟨#[]⟩,.slice none 0 0] 81)).drew v/\Own .i64 3 ((w0.alloc (.cells #[.int .i64 x.d,.int .i64 x.a,.slice y.a y.len y.cap] 170)).alloc (.cells #[.int .i64 0,.int .i64 0,.int .i64 0,.int .i64 0,.int .i64 0,.string ⟨#[]⟩,.slice none 0 0] 81)).drew.heap.size v a2 y.len c2 x.args) (fun v:World=>v=w1.setRow (w0.heap.size+1) #[.int .i64 10,.int .i64 x.d,.int .i64 x.a,.int .i64 0,.int .i64 0,.string ⟨#[]⟩,.slice a2 y.len c2]) 7 9 w1 L w) ?done (by kernel_rfl) ?step _ 10 _ _ (by kernel_rfl) ?init (by decide)
 case init=>exact⟨w0,none,0,by simp only[Wr10Mk,sl_no (up_init _ _)],TwoW.init⟩
 case step=>
  intro L act w i o hI hlt hs nl hC hd ho K hK
  obtain⟨w1,a2,c2,rfl,hW⟩:=hI
  have hi_lt:i<10:=(Array.getElem?_eq_some_iff.1 ho).1
  rcases (show i=0\/i=1\/i=2\/i=3\/i=4\/i=5\/i=6\/i=7\/i=8\/i=9 by omega) with rfl | rfl | rfl | rfl | rfl | rfl | rfl | rfl | rfl | rfl
  ·change some _=some o at ho
   cases ho
   simp only[Wr10Mk]
   go_simp
   exact hK _ _ ⟨w1,a2,c2,by simp only[Wr10Mk,sl_set hlt,reduceIte,Nat.reduceEqDiff];try rfl,(hW.keep hlt (by decide) (by decide))⟩
  ·change some _=some o at ho
   cases ho
   have q0:up L 0=true:=hd { on:=0,ground:=.data } (by simp) rfl
   simp only[Wr10Mk,sl_yes q0]
   go_simp
   exact hK _ _ ⟨w1,a2,c2,by simp only[Wr10Mk,sl_set hlt,sl_yes q0,reduceIte,Nat.reduceEqDiff];try rfl,(hW.keep hlt (by decide) (by decide))⟩
  ·change some _=some o at ho
   cases ho
   have q1:up L 1=true:=hd { on:=1,ground:=.data } (by simp) rfl
   have n8:up L 8=false:=hC.no nl 8 rfl (by kernel_rfl)
   have n9:up L 9=false:=hC.no n8 9 rfl (by kernel_rfl)
   have cx:=hW.cell n9 d0 (fun q=>below_cell q.1 d0)
   simp only[Wr10Mk,sl_yes q1]
   go_simp
   exact hK _ _ ⟨w1,a2,c2,by simp only[Wr10Mk,sl_set hlt,sl_yes q1,reduceIte,Nat.reduceEqDiff];try rfl,(hW.keep hlt (by decide) (by decide))⟩
  ·change some _=some o at ho
   cases ho
   simp only[Wr10Mk]
   go_simp
   exact hK _ _ ⟨w1,a2,c2,by simp only[Wr10Mk,sl_set hlt,reduceIte,Nat.reduceEqDiff];try rfl,(hW.keep hlt (by decide) (by decide))⟩
  ·change some _=some o at ho
   cases ho
   have q3:up L 3=true:=hd { on:=3,ground:=.data } (by simp) rfl
   have n8:up L 8=false:=hC.no nl 8 rfl (by kernel_rfl)
   have n9:up L 9=false:=hC.no n8 9 rfl (by kernel_rfl)
   have cx:=hW.cell n9 d1 (fun q=>below_cell q.1 d1)
   simp only[Wr10Mk,sl_yes q3]
   go_simp
   exact hK _ _ ⟨w1,a2,c2,by simp only[Wr10Mk,sl_set hlt,sl_yes q3,reduceIte,Nat.reduceEqDiff];try rfl,(hW.keep hlt (by decide) (by decide))⟩
  ·change some _=some o at ho
   cases ho
   simp only[Wr10Mk]
   go_simp
   exact hK _ _ ⟨w1,a2,c2,by simp only[Wr10Mk,sl_set hlt,reduceIte,Nat.reduceEqDiff];try rfl,(hW.keep hlt (by decide) (by decide))⟩
  ·change some _=some o at ho
   cases ho
   have q5:up L 5=true:=hd { on:=5,ground:=.data } (by simp) rfl
   have n7:up L 7=false:=hC.no nl 7 rfl (by kernel_rfl)
   have n8:up L 8=false:=hC.no n7 8 rfl (by kernel_rfl)
   have n9:up L 9=false:=hC.no n8 9 rfl (by kernel_rfl)
   have cx:=hW.cell n9 d2 (fun q=>below_cell q.1 d2)
   simp only[Wr10Mk,sl_yes q5]
   go_simp
   exact hK _ _ ⟨w1,a2,c2,by simp only[Wr10Mk,sl_set hlt,sl_yes q5,reduceIte,Nat.reduceEqDiff];try rfl,(hW.keep hlt (by decide) (by decide))⟩
  ·change some _=some o at ho
   cases ho
   have q6:up L 6=true:=hd { on:=6,ground:=.data } (by simp) rfl
   have n8:up L 8=false:=hC.no nl 8 rfl (by kernel_rfl)
   have n9:up L 9=false:=hC.no n8 9 rfl (by kernel_rfl)
   obtain rfl:=hW.1 nl
   simp only[Wr10Mk,sl_yes q6]
   go_simp
   refine (HCL.out _ HBU.out).mono ?_
   rintro e w2 ⟨a',c',rfl,ho,d1'⟩
   go_simp
   exact hK _ _ ⟨w2,a',c',by simp only[Wr10Mk,sl_set hlt,sl_yes q6,sl_no n8,reduceIte,Nat.reduceEqDiff];try rfl,TwoW.first hlt (by decide) n9 ⟨d1',ho⟩⟩
  ·change some _=some o at ho
   cases ho
   have q2:up L 2=true:=hd { on:=2,ground:=.data } (by simp) rfl
   have q4:up L 4=true:=hd { on:=4,ground:=.data } (by simp) rfl
   have q7:up L 7=true:=hd { on:=7,ground:=.data } (by simp) rfl
   simp only[Wr10Mk,sl_yes q2,sl_yes q4,sl_yes q7]
   go_simp
   exact hK _ _ ⟨w1,a2,c2,by simp only[Wr10Mk,sl_set hlt,sl_yes q2,sl_yes q4,sl_yes q7,reduceIte,Nat.reduceEqDiff];try rfl,(hW.keep hlt (by decide) (by decide))⟩
  ·change some _=some o at ho
   cases ho
   have q8:up L 8=true:=hd { on:=8,ground:=.data } (by simp) rfl
   have q7:up L 7=true:=hC 8 _ rfl q8 { on:=7,ground:=.data } (by simp) rfl
   obtain⟨⟨y1,y2⟩,y3,_⟩:=hW.2 q7
   obtain rfl:=y3 nl
   have hg2:=(y1.block (w0.heap.size+1) (by simp)).trans HG2.out
   simp only[Wr10Mk,sl_yes q8]
   rw[if_pos (by rfl)]
   refine wp_store_row 81 (.tmp 2) (.tmp 11) rfl (w0.heap.size+1) #[.int .i64 10,.int .i64 x.d,.int .i64 x.a,.int .i64 0,.int .i64 0,.string ⟨#[]⟩,.slice a2 y.len c2] rfl rfl 81 #[.int .i64 0,.int .i64 0,.int .i64 0,.int .i64 0,.int .i64 0,.string ⟨#[]⟩,.slice none 0 0] hg2 (by kernel_rfl) rfl (by kernel_rfl) ?_
   exact hK _ _ ⟨w,a2,c2,by simp only[Wr10Mk,sl_set hlt,sl_yes q8,reduceIte,Nat.reduceEqDiff];try rfl,hW.second hlt q7 rfl⟩
 case done=>
  rintro L act w ⟨w1,a2,c2,rfl,hW⟩ hall
  obtain⟨⟨y1,y2⟩,_,y3⟩:=hW.2 (hall 7 (by decide))
  obtain rfl:=y3 (hall 9 (by decide))
  have hg2:=(y1.block (w0.heap.size+1) (by simp)).trans HG2.out
  have HF:Hid ((w1.setRow (w0.heap.size+1) #[.int .i64 10,.int .i64 x.d,.int .i64 x.a,.int .i64 0,.int .i64 0,.string ⟨#[]⟩,.slice a2 y.len c2]).heap[w0.heap.size+1]?=some (.cells #[.int .i64 10,.int .i64 x.d,.int .i64 x.a,.int .i64 0,.int .i64 0,.string ⟨#[]⟩,.slice a2 y.len c2] 81 (0,0))):=setRow_heap _ _ _ _ _ _ hg2
  have HB1:Hid (Below w0.heap.size w0 (w1.setRow (w0.heap.size+1) #[.int .i64 10,.int .i64 x.d,.int .i64 x.a,.int .i64 0,.int .i64 0,.string ⟨#[]⟩,.slice a2 y.len c2])):=below_setRowI (HB0.out.trans (y1.mono HB0.out.size)) (by omega) _
  have HR:Hid (Row .i64 w0.heap.size (w1.setRow (w0.heap.size+1) #[.int .i64 10,.int .i64 x.d,.int .i64 x.a,.int .i64 0,.int .i64 0,.string ⟨#[]⟩,.slice a2 y.len c2]) a2 y.len c2 x.args):=by
   have h0:=y2.row
   obtain⟨r1,r2,r3,r4,r5⟩:=h0
   refine⟨r1,r2,r3,r4,?_⟩
   rcases r5 with q | ⟨b,off,q1,q2,q3,q4⟩
   ·exact .inl q
   ·have q5:w0.heap.size+2<=b:=by simpa using q2
    refine .inr ⟨b,off,q1,by omega,by simpa [World.setRow] using q3,fun i hi=>?_⟩
    rw[cell_setRowI w1 _ _ b (by omega)]
    exact q4 i hi
  clear hW y1 y2 y3 hg2
  simp only[Wr10Mk,sl_yes (hall 0 (by decide)),sl_yes (hall 1 (by decide)),sl_yes (hall 2 (by decide)),sl_yes (hall 3 (by decide)),sl_yes (hall 4 (by decide)),sl_yes (hall 5 (by decide)),sl_yes (hall 6 (by decide)),sl_yes (hall 7 (by decide)),sl_yes (hall 8 (by decide))]
  go_wp2_with fail
  refine bodyPost_ret (v:=.agg #[.int .i64 10,.int .i64 x.d,.int .i64 x.a,.int .i64 0,.int .i64 0,.string ⟨#[]⟩,.slice a2 y.len c2]) ?hres rfl ⟨⟨⟨a2,y.len,c2⟩,rfl,HR.out⟩,HB1.out⟩
  refine results_cell_row Tryz.results194 _ _ (w0.heap.size+1) 81 #[.int .i64 10,.int .i64 x.d,.int .i64 x.a,.int .i64 0,.int .i64 0,.string ⟨#[]⟩,.slice a2 y.len c2] (0,0) _ ?hp ?hg Tryz.underlying81 ?hd ?hi
  case hp=>rfl
  case hg=>exact HF.out
  case hd=>rfl
  case hi=>kernel_rfl
theorem meth_written_1 (x:Pl.IrI) (y:SV) (w:World):(method 365 151 (.agg #[.int .i64 x.d,.int .i64 x.n]) "loop.example/s01681/impl.written").run Tryz.prog w=.ok (158,.agg #[.int .i64 x.d,.int .i64 x.n]) w:=by kernel_rfl
theorem meth_written_2 (x:Pl.IrI) (y:SV) (w:World):(method 365 153 (.agg #[.int .i64 x.a,.int .i64 x.d]) "loop.example/s01681/impl.written").run Tryz.prog w=.ok (164,.agg #[.int .i64 x.a,.int .i64 x.d]) w:=by kernel_rfl
theorem meth_written_3 (x:Pl.IrI) (y:SV) (w:World):(method 365 155 (.agg #[.int .i64 x.a,.int .i64 x.b,.int .i64 x.d,.int .i64 x.n]) "loop.example/s01681/impl.written").run Tryz.prog w=.ok (167,.agg #[.int .i64 x.a,.int .i64 x.b,.int .i64 x.d,.int .i64 x.n]) w:=by kernel_rfl
theorem meth_written_4 (x:Pl.IrI) (y:SV) (w:World):(method 365 157 (.agg #[.int .i64 x.a,.int .i64 x.d,.int .i64 x.n]) "loop.example/s01681/impl.written").run Tryz.prog w=.ok (170,.agg #[.int .i64 x.a,.int .i64 x.d,.int .i64 x.n]) w:=by kernel_rfl
theorem meth_written_5 (x:Pl.IrI) (y:SV) (w:World):(method 365 158 (.agg #[.int .i64 x.a,.int .i64 x.d,.int .i64 x.n]) "loop.example/s01681/impl.written").run Tryz.prog w=.ok (173,.agg #[.int .i64 x.a,.int .i64 x.d,.int .i64 x.n]) w:=by kernel_rfl
theorem meth_written_6 (x:Pl.IrI) (y:SV) (w:World):(method 365 161 (.agg #[.int .i64 x.a,.int .i64 x.b,.int .i64 x.n]) "loop.example/s01681/impl.written").run Tryz.prog w=.ok (177,.agg #[.int .i64 x.a,.int .i64 x.b,.int .i64 x.n]) w:=by kernel_rfl
theorem meth_written_7 (x:Pl.IrI) (y:SV) (w:World):(method 365 163 (.agg #[.int .i64 x.d,.string x.sym,.int .i64 x.n]) "loop.example/s01681/impl.written").run Tryz.prog w=.ok (180,.agg #[.int .i64 x.d,.string x.sym,.int .i64 x.n]) w:=by kernel_rfl
theorem meth_written_8 (x:Pl.IrI) (y:SV) (w:World):(method 365 165 (.agg #[.int .i64 x.d,.int .i64 x.n]) "loop.example/s01681/impl.written").run Tryz.prog w=.ok (183,.agg #[.int .i64 x.d,.int .i64 x.n]) w:=by kernel_rfl
theorem meth_written_9 (x:Pl.IrI) (y:SV) (w:World):(method 365 168 (.agg #[.int .i64 x.d,.string x.sym,.slice y.a y.len y.cap]) "loop.example/s01681/impl.written").run Tryz.prog w=.ok (189,.agg #[.int .i64 x.d,.string x.sym,.slice y.a y.len y.cap]) w:=by kernel_rfl
theorem meth_written_10 (x:Pl.IrI) (y:SV) (w:World):(method 365 170 (.agg #[.int .i64 x.d,.int .i64 x.a,.slice y.a y.len y.cap]) "loop.example/s01681/impl.written").run Tryz.prog w=.ok (194,.agg #[.int .i64 x.d,.int .i64 x.a,.slice y.a y.len y.cap]) w:=by kernel_rfl
theorem meth_written_11 (x:Pl.IrI) (y:SV) (w:World):(method 365 172 (.agg #[.int .i64 x.n]) "loop.example/s01681/impl.written").run Tryz.prog w=.ok (197,.agg #[.int .i64 x.n]) w:=by kernel_rfl
theorem meth_written_12 (x:Pl.IrI) (y:SV) (w:World):(method 365 173 (.agg #[.int .i64 x.n]) "loop.example/s01681/impl.written").run Tryz.prog w=.ok (200,.agg #[.int .i64 x.n]) w:=by kernel_rfl
theorem meth_written_13 (x:Pl.IrI) (y:SV) (w:World):(method 365 175 (.agg #[.int .i64 x.a,.int .i64 x.b,.string x.sym,.int .i64 x.n]) "loop.example/s01681/impl.written").run Tryz.prog w=.ok (203,.agg #[.int .i64 x.a,.int .i64 x.b,.string x.sym,.int .i64 x.n]) w:=by kernel_rfl
theorem meth_written_14 (x:Pl.IrI) (y:SV) (w:World):(method 365 177 (.agg #[.int .i64 x.a]) "loop.example/s01681/impl.written").run Tryz.prog w=.ok (208,.agg #[.int .i64 x.a]) w:=by kernel_rfl
theorem meth_written_15 (x:Pl.IrI) (y:SV) (w:World):(method 365 179 (.agg #[.int .i64 x.a,.int .i64 x.b,.int .i64 x.n]) "loop.example/s01681/impl.written").run Tryz.prog w=.ok (211,.agg #[.int .i64 x.a,.int .i64 x.b,.int .i64 x.n]) w:=by kernel_rfl
theorem meth_written_16 (x:Pl.IrI) (y:SV) (w:World):(method 365 181 (.agg #[.int .i64 x.a,.int .i64 x.n]) "loop.example/s01681/impl.written").run Tryz.prog w=.ok (214,.agg #[.int .i64 x.a,.int .i64 x.n]) w:=by kernel_rfl
theorem says_written {lo:Nat} (k:Nat) (hk:1<=k/\k<=16) (x:Pl.IrI) (y:SV) (w:World) (hr:Row .i64 lo w y.a y.len y.cap x.args) (hl:y.len<=1048576):Says (stV k x y) "loop.example/s01681/impl.written" [] w fun u e u'=>Writes u.heap.size (Pl.wrI k x) e u'/\Below u.heap.size u u':=by
 obtain⟨h1,h2⟩:=hk
 rcases (show k=1\/k=2\/k=3\/k=4\/k=5\/k=6\/k=7\/k=8\/k=9\/k=10\/k=11\/k=12\/k=13\/k=14\/k=15\/k=16 by omega) with rfl | rfl | rfl | rfl | rfl | rfl | rfl | rfl | rfl | rfl | rfl | rfl | rfl | rfl | rfl | rfl
 ·exact⟨_,_,_,_,rfl,meth_written_1 x y,fun _ _=>(by kernel_rfl),fun u hu=>written_1 x u⟩
 ·exact⟨_,_,_,_,rfl,meth_written_2 x y,fun _ _=>(by kernel_rfl),fun u hu=>written_2 x u⟩
 ·exact⟨_,_,_,_,rfl,meth_written_3 x y,fun _ _=>(by kernel_rfl),fun u hu=>written_3 x u⟩
 ·exact⟨_,_,_,_,rfl,meth_written_4 x y,fun _ _=>(by kernel_rfl),fun u hu=>written_4 x u⟩
 ·exact⟨_,_,_,_,rfl,meth_written_5 x y,fun _ _=>(by kernel_rfl),fun u hu=>written_5 x u⟩
 ·exact⟨_,_,_,_,rfl,meth_written_6 x y,fun _ _=>(by kernel_rfl),fun u hu=>written_6 x u⟩
 ·exact⟨_,_,_,_,rfl,meth_written_7 x y,fun _ _=>(by kernel_rfl),fun u hu=>written_7 x u⟩
 ·exact⟨_,_,_,_,rfl,meth_written_8 x y,fun _ _=>(by kernel_rfl),fun u hu=>written_8 x u⟩
 ·exact⟨_,_,_,_,rfl,meth_written_9 x y,fun _ _=>(by kernel_rfl),fun u hu=>written_9 x y u (hr.keep hu) hl⟩
 ·exact⟨_,_,_,_,rfl,meth_written_10 x y,fun _ _=>(by kernel_rfl),fun u hu=>written_10 x y u (hr.keep hu) hl⟩
 ·exact⟨_,_,_,_,rfl,meth_written_11 x y,fun _ _=>(by kernel_rfl),fun u hu=>written_11 x u⟩
 ·exact⟨_,_,_,_,rfl,meth_written_12 x y,fun _ _=>(by kernel_rfl),fun u hu=>written_12 x u⟩
 ·exact⟨_,_,_,_,rfl,meth_written_13 x y,fun _ _=>(by kernel_rfl),fun u hu=>written_13 x u⟩
 ·exact⟨_,_,_,_,rfl,meth_written_14 x y,fun _ _=>(by kernel_rfl),fun u hu=>written_14 x u⟩
 ·exact⟨_,_,_,_,rfl,meth_written_15 x y,fun _ _=>(by kernel_rfl),fun u hu=>written_15 x u⟩
 ·exact⟨_,_,_,_,rfl,meth_written_16 x y,fun _ _=>(by kernel_rfl),fun u hu=>written_16 x u⟩
open Go.RowKit Go.Maps Go.WideMaps
theorem ownsMap_keepR {H:Type} {w w':World} {P:Program} {k:TypeId} {R:Value->Option (DataW H × List MemPlace)} {b n c:Nat} {D:DataW H} (h:w.ownsMap P k R b n D) (hb:Below c w w') (hc:b<c):w'.ownsMap P k R b n D:=by
 obtain⟨es,clock,h1,h2⟩:=h
 exact⟨es,clock,(hb.block b hc).trans h1,h2⟩
theorem intLawR:Keyed Tryz.prog 3:=int_keyed Tryz.underlying3
theorem zeroIR (w:World):(zeroValue 3).run Tryz.prog w=.ok (.int .i64 0) w:=by kernel_rfl
def LabM (D:DataW Unit) (lab:Int->Option Int):Prop:=IsMap D/\(∀ n:Int,(Lit.int .i64 n).wf=true->Maps.has D (.int .i64 n)=(lab n).isSome)/\∀ n v:Int,(Lit.int .i64 n).wf=true->lab n=some v->D.atKey (.int .i64 n) (.lit (.int .i64 0))=.lit (.int .i64 v)
theorem isB_dec {P:Prop} {b:Bool} (h:b=true↔P):IsB P (.returned (.bool b)):=⟨b,rfl,h⟩
theorem hasLabel_is (gr gm nm:Nat) (D:DataW Unit) (lab:Int->Option Int) (n:Int) (hn:(Lit.int .i64 n).wf=true) (w:World) (h6:w.cell? ⟨gr,6,none⟩=some (.map (some gm))) (hm:w.ownsMap Tryz.prog 3 (plainElem Tryz.prog 3) gm nm D) (hD:LabM D lab) :
  Calls Tryz.prog 91 #[.pointer (some ⟨gr,0,none⟩),.int .i64 n] w fun e w'=>IsB ((lab n).isSome=true) e/\Below w.heap.size w w':=by
 have HR:Hid (Maps.has D (.int .i64 n)=(lab n).isSome):=hD.2.1 n hn
 have hkey:keyOf Tryz.prog 3 (.int .i64 n)=some (.int .i64 n):=keyOf_int_mk Tryz.underlying3 hn
 have HM:Hid (w.ownsMap Tryz.prog 3 (plainElem Tryz.prog 3) gm nm D):=hm
 generalize (lab n).isSome=B at *
 clear hD hm
 go_enter Tryz.func91,Tryz.ntmps91
 go_wp2_with (at_lookup;refine wpList_lookup_own_ok_int _ rfl _ _ 59 rfl 3 3 .i64 intLawR Tryz.underlying59 Tryz.underlying3 (zeroIR _) gm nm D rfl HM.out _ _ rfl hkey ?_;intro c hat hwc;rw[HR.out];clear hat hwc)
 go_ret
 exact⟨isB_dec Iff.rfl,Below.refl _ _⟩
theorem branchOf_is (s:ByteArray) (w:World):Calls Tryz.prog 204 #[.string s] w fun e w'=>(∃ r:Int,e=.returned (.int .i64 r)/\((r != 0)=Pl.inS Pl.irTests s))/\w'=w:=by
 have HI:Hid (Pl.inS Pl.irTests s=((s.toList == [101,113]) || (s.toList == [110,101]) || (s.toList == [108,116]) || (s.toList == [103,101]) || (s.toList == [108,116,117]) || (s.toList == [103,101,117]))):=by
  show Pl.inS Pl.irTests s=_
  unfold Pl.inS Pl.irTests
  simp only[List.any_cons,List.any_nil,Bool.or_false]
  have c:∀ t:List UInt8,(t == s.toList)=(s.toList == t):=fun t=>BEq.comm
  simp only[c,Bool.or_assoc,(by rw[ByteArray.toList_eq]:(⟨#[101,113]⟩:ByteArray).toList=[101,113]),(by rw[ByteArray.toList_eq]:(⟨#[110,101]⟩:ByteArray).toList=[110,101]),(by rw[ByteArray.toList_eq]:(⟨#[108,116]⟩:ByteArray).toList=[108,116]),(by rw[ByteArray.toList_eq]:(⟨#[103,101]⟩:ByteArray).toList=[103,101]),(by rw[ByteArray.toList_eq]:(⟨#[108,116,117]⟩:ByteArray).toList=[108,116,117]),(by rw[ByteArray.toList_eq]:(⟨#[103,101,117]⟩:ByteArray).toList=[103,101,117])]
 generalize Pl.inS Pl.irTests s=B at *
 cases h0:(s.toList == [101,113])
 rotate_left
 ·have HB:Hid (B=true):=by show B=true;rw[HI.out,h0];simp
  go_enter Tryz.func204,Tryz.ntmps204
  go_wp2_with fail
  go_ret
  exact⟨⟨_,rfl,by rw[HB.out];rfl⟩,rfl⟩
 cases h1:(s.toList == [110,101])
 rotate_left
 ·have HB:Hid (B=true):=by show B=true;rw[HI.out,h1];simp
  go_enter Tryz.func204,Tryz.ntmps204
  go_wp2_with fail
  go_ret
  exact⟨⟨_,rfl,by rw[HB.out];rfl⟩,rfl⟩
 cases h2:(s.toList == [108,116])
 rotate_left
 ·have HB:Hid (B=true):=by show B=true;rw[HI.out,h2];simp
  go_enter Tryz.func204,Tryz.ntmps204
  go_wp2_with fail
  go_ret
  exact⟨⟨_,rfl,by rw[HB.out];rfl⟩,rfl⟩
 cases h3:(s.toList == [103,101])
 rotate_left
 ·have HB:Hid (B=true):=by show B=true;rw[HI.out,h3];simp
  go_enter Tryz.func204,Tryz.ntmps204
  go_wp2_with fail
  go_ret
  exact⟨⟨_,rfl,by rw[HB.out];rfl⟩,rfl⟩
 cases h4:(s.toList == [108,116,117])
 rotate_left
 ·have HB:Hid (B=true):=by show B=true;rw[HI.out,h4];simp
  go_enter Tryz.func204,Tryz.ntmps204
  go_wp2_with fail
  go_ret
  exact⟨⟨_,rfl,by rw[HB.out];rfl⟩,rfl⟩
 cases h5:(s.toList == [103,101,117])
 rotate_left
 ·have HB:Hid (B=true):=by show B=true;rw[HI.out,h5];simp
  go_enter Tryz.func204,Tryz.ntmps204
  go_wp2_with fail
  go_ret
  exact⟨⟨_,rfl,by rw[HB.out];rfl⟩,rfl⟩
 have HB:Hid (B=false):=by show B=false;rw[HI.out,h0,h1,h2,h3,h4,h5];rfl
 go_enter Tryz.func204,Tryz.ntmps204
 go_wp2_with fail
 go_ret
 exact⟨⟨_,rfl,by rw[HB.out];rfl⟩,rfl⟩
theorem isWord_is (n:Int) (w:World):Calls Tryz.prog 159 #[.int .i64 n] w fun e w'=>IsB (0<=n/\n<=4294967295) e/\w'=w:=by
 have HW:Hid (∀ u:World,Calls Tryz.prog 160 #[.int .i64 n] u fun e w'=>e=.returned (.int .i64 (Pl.wd n))/\w'=u):=fun u=>implWord_any n u
 have HE:Hid ((n == Pl.wd n)=true↔(0<=n/\n<=4294967295)):=by show (n == Pl.wd n)=true↔_;rw[Pl.isW_wd];exact Pl.isW_iff n
 generalize Pl.wd n=z at *
 obtain⟨B,hB⟩:∃ B,(n == z)=B:=⟨_,rfl⟩
 rw[hB]at HE
 go_enter Tryz.func159,Tryz.ntmps159
 go_wp2_with (go_at_call 160;refine (HW.out _).mono ?_;rintro e z1 ⟨rfl,g1⟩; rw[g1];clear g1 z1)
 go_ret
 exact⟨isB_dec HE.out,rfl⟩
structure FitW (gr gm nm sl:Nat) (lab:Int->Option Int) (w:World):Prop where
 slots:∃ (sa:Option Addr) (sc:Nat),w.cell? ⟨gr,3,none⟩=some (.slice sa sl sc)
 map:w.cell? ⟨gr,6,none⟩=some (.map (some gm))
 own:∃ D:DataW Unit,w.ownsMap Tryz.prog 3 (plainElem Tryz.prog 3) gm nm D/\LabM D lab
theorem FitW.keep {gr gm nm sl:Nat} {lab:Int->Option Int} {w w':World} (h:FitW gr gm nm sl lab w) (hb:Below w.heap.size w w'):FitW gr gm nm sl lab w':=by
 obtain⟨⟨sa,sc,h1⟩,h2,D,h3,h4⟩:=h
 have hlt:gm<w.heap.size:=by
  obtain⟨es,cl,q1,_⟩:=h3
  exact (Array.getElem?_eq_some_iff.1 q1).1
 exact⟨⟨sa,sc,(hb.cell (p:=⟨gr,3,none⟩) (block_lt_of_cell h1)).trans h1⟩,(hb.cell (p:=⟨gr,6,none⟩) (block_lt_of_cell h2)).trans h2,D,ownsMap_keepR h3 hb hlt,h4⟩
theorem fits_1 (gr gm nm sl:Nat) (lab:Int->Option Int) (x:Pl.IrI) (y:SV) (hy:x.args.length=y.len) (hyl:(y.len:Int)<=9223372036854775807) (hsl:sl<=1048576) (hn:(Lit.int .i64 x.n).wf=true) (w:World) (h:FitW gr gm nm sl lab w):Calls Tryz.prog 157 #[.agg #[.int .i64 x.d,.int .i64 x.n],.pointer (some ⟨gr,0,none⟩)] w fun e w'=>IsB (Pl.fitsP sl (fun n=>(lab n).isSome=true) 1 x) e/\Below w.heap.size w w':=by
 have HW:Hid (∀ u:World,Calls Tryz.prog 159 #[.int .i64 x.n] u fun e w'=>IsB (0<=x.n/\x.n<=4294967295) e/\w'=u):=fun u=>isWord_is x.n u
 clear h hy
 go_enter Tryz.func157,Tryz.ntmps157
 go_wp2_with (go_at_call 159;refine (HW.out _).mono ?_;rintro e z1 ⟨⟨b,rfl,hb⟩,g1⟩; rw[g1];clear g1 z1;have HB:Hid _:=hb;clear hb)
 go_ret
 exact⟨isB_dec HB.out,below_alloc _ _⟩
theorem fits_2 (gr gm nm sl:Nat) (lab:Int->Option Int) (x:Pl.IrI) (y:SV) (hy:x.args.length=y.len) (hyl:(y.len:Int)<=9223372036854775807) (hsl:sl<=1048576) (hn:(Lit.int .i64 x.n).wf=true) (w:World) (h:FitW gr gm nm sl lab w):Calls Tryz.prog 163 #[.agg #[.int .i64 x.a,.int .i64 x.d],.pointer (some ⟨gr,0,none⟩)] w fun e w'=>IsB (Pl.fitsP sl (fun n=>(lab n).isSome=true) 2 x) e/\Below w.heap.size w w':=by
 clear h hy
 go_enter Tryz.func163,Tryz.ntmps163
 go_wp2_with fail
 go_ret
 exact⟨isB_yes trivial,below_alloc _ _⟩
theorem fits_3 (gr gm nm sl:Nat) (lab:Int->Option Int) (x:Pl.IrI) (y:SV) (hy:x.args.length=y.len) (hyl:(y.len:Int)<=9223372036854775807) (hsl:sl<=1048576) (hn:(Lit.int .i64 x.n).wf=true) (w:World) (h:FitW gr gm nm sl lab w):Calls Tryz.prog 166 #[.agg #[.int .i64 x.a,.int .i64 x.b,.int .i64 x.d,.int .i64 x.n],.pointer (some ⟨gr,0,none⟩)] w fun e w'=>IsB (Pl.fitsP sl (fun n=>(lab n).isSome=true) 3 x) e/\Below w.heap.size w w':=by
 have HWI:Hid (∀ (n a b:Int) (u:World),Calls Tryz.prog 55 #[.int .i64 n,.int .i64 a,.int .i64 b] u fun e w'=>e=.returned (.bool (decide (a<=n/\n<=b)))/\w'=u):=fun n a b u=>isWithin_ir n a b u
 have HF:Hid (Pl.fitsP sl (fun n=>(lab n).isSome=true) 3 x↔(1<=x.n/\x.n<=18)):=Iff.rfl
 obtain⟨B,hB⟩:∃ B,decide (1<=x.n/\x.n<=18)=B:=⟨_,rfl⟩
 have HB:Hid (B=true↔(1<=x.n/\x.n<=18)):=by show B=true↔_;rw[<- hB];exact decide_eq_true_iff
 clear h hy
 go_enter Tryz.func166,Tryz.ntmps166
 go_wp2_with (go_at_call 55;refine (HWI.out _ _ _ _).mono ?_;rintro e z1 ⟨rfl,g1⟩; rw[g1,hB];clear g1 z1)
 go_ret
 exact⟨isB_dec (HB.out.trans HF.out.symm),below_alloc _ _⟩
theorem fits_4 (gr gm nm sl:Nat) (lab:Int->Option Int) (x:Pl.IrI) (y:SV) (hy:x.args.length=y.len) (hyl:(y.len:Int)<=9223372036854775807) (hsl:sl<=1048576) (hn:(Lit.int .i64 x.n).wf=true) (w:World) (h:FitW gr gm nm sl lab w):Calls Tryz.prog 169 #[.agg #[.int .i64 x.a,.int .i64 x.d,.int .i64 x.n],.pointer (some ⟨gr,0,none⟩)] w fun e w'=>IsB (Pl.fitsP sl (fun n=>(lab n).isSome=true) 4 x) e/\Below w.heap.size w w':=by
 have HWI:Hid (∀ (n a b:Int) (u:World),Calls Tryz.prog 55 #[.int .i64 n,.int .i64 a,.int .i64 b] u fun e w'=>e=.returned (.bool (decide (a<=n/\n<=b)))/\w'=u):=fun n a b u=>isWithin_ir n a b u
 have HF:Hid (Pl.fitsP sl (fun n=>(lab n).isSome=true) 4 x↔(1<=x.n/\x.n<=4)):=Iff.rfl
 obtain⟨B,hB⟩:∃ B,decide (1<=x.n/\x.n<=4)=B:=⟨_,rfl⟩
 have HB:Hid (B=true↔(1<=x.n/\x.n<=4)):=by show B=true↔_;rw[<- hB];exact decide_eq_true_iff
 clear h hy
 go_enter Tryz.func169,Tryz.ntmps169
 go_wp2_with (go_at_call 55;refine (HWI.out _ _ _ _).mono ?_;rintro e z1 ⟨rfl,g1⟩; rw[g1,hB];clear g1 z1)
 go_ret
 exact⟨isB_dec (HB.out.trans HF.out.symm),below_alloc _ _⟩
theorem fits_5 (gr gm nm sl:Nat) (lab:Int->Option Int) (x:Pl.IrI) (y:SV) (hy:x.args.length=y.len) (hyl:(y.len:Int)<=9223372036854775807) (hsl:sl<=1048576) (hn:(Lit.int .i64 x.n).wf=true) (w:World) (h:FitW gr gm nm sl lab w):Calls Tryz.prog 172 #[.agg #[.int .i64 x.a,.int .i64 x.d,.int .i64 x.n],.pointer (some ⟨gr,0,none⟩)] w fun e w'=>IsB (Pl.fitsP sl (fun n=>(lab n).isSome=true) 5 x) e/\Below w.heap.size w w':=by
 have HWI:Hid (∀ (n a b:Int) (u:World),Calls Tryz.prog 55 #[.int .i64 n,.int .i64 a,.int .i64 b] u fun e w'=>e=.returned (.bool (decide (a<=n/\n<=b)))/\w'=u):=fun n a b u=>isWithin_ir n a b u
 have HF:Hid (Pl.fitsP sl (fun n=>(lab n).isSome=true) 5 x↔(1<=x.n/\x.n<=5)):=Iff.rfl
 obtain⟨B,hB⟩:∃ B,decide (1<=x.n/\x.n<=5)=B:=⟨_,rfl⟩
 have HB:Hid (B=true↔(1<=x.n/\x.n<=5)):=by show B=true↔_;rw[<- hB];exact decide_eq_true_iff
 clear h hy
 go_enter Tryz.func172,Tryz.ntmps172
 go_wp2_with (go_at_call 55;refine (HWI.out _ _ _ _).mono ?_;rintro e z1 ⟨rfl,g1⟩; rw[g1,hB];clear g1 z1)
 go_ret
 exact⟨isB_dec (HB.out.trans HF.out.symm),below_alloc _ _⟩
theorem fits_6 (gr gm nm sl:Nat) (lab:Int->Option Int) (x:Pl.IrI) (y:SV) (hy:x.args.length=y.len) (hyl:(y.len:Int)<=9223372036854775807) (hsl:sl<=1048576) (hn:(Lit.int .i64 x.n).wf=true) (w:World) (h:FitW gr gm nm sl lab w):Calls Tryz.prog 176 #[.agg #[.int .i64 x.a,.int .i64 x.b,.int .i64 x.n],.pointer (some ⟨gr,0,none⟩)] w fun e w'=>IsB (Pl.fitsP sl (fun n=>(lab n).isSome=true) 6 x) e/\Below w.heap.size w w':=by
 have HWI:Hid (∀ (n a b:Int) (u:World),Calls Tryz.prog 55 #[.int .i64 n,.int .i64 a,.int .i64 b] u fun e w'=>e=.returned (.bool (decide (a<=n/\n<=b)))/\w'=u):=fun n a b u=>isWithin_ir n a b u
 have HF:Hid (Pl.fitsP sl (fun n=>(lab n).isSome=true) 6 x↔(1<=x.n/\x.n<=5)):=Iff.rfl
 obtain⟨B,hB⟩:∃ B,decide (1<=x.n/\x.n<=5)=B:=⟨_,rfl⟩
 have HB:Hid (B=true↔(1<=x.n/\x.n<=5)):=by show B=true↔_;rw[<- hB];exact decide_eq_true_iff
 clear h hy
 go_enter Tryz.func176,Tryz.ntmps176
 go_wp2_with (go_at_call 55;refine (HWI.out _ _ _ _).mono ?_;rintro e z1 ⟨rfl,g1⟩; rw[g1,hB];clear g1 z1)
 go_ret
 exact⟨isB_dec (HB.out.trans HF.out.symm),below_alloc _ _⟩
theorem fits_7 (gr gm nm sl:Nat) (lab:Int->Option Int) (x:Pl.IrI) (y:SV) (hy:x.args.length=y.len) (hyl:(y.len:Int)<=9223372036854775807) (hsl:sl<=1048576) (hn:(Lit.int .i64 x.n).wf=true) (w:World) (h:FitW gr gm nm sl lab w):Calls Tryz.prog 179 #[.agg #[.int .i64 x.d,.string x.sym,.int .i64 x.n],.pointer (some ⟨gr,0,none⟩)] w fun e w'=>IsB (Pl.fitsP sl (fun n=>(lab n).isSome=true) 7 x) e/\Below w.heap.size w w':=by
 have HWI:Hid (∀ (n a b:Int) (u:World),Calls Tryz.prog 55 #[.int .i64 n,.int .i64 a,.int .i64 b] u fun e w'=>e=.returned (.bool (decide (a<=n/\n<=b)))/\w'=u):=fun n a b u=>isWithin_ir n a b u
 have HF:Hid (Pl.fitsP sl (fun n=>(lab n).isSome=true) 7 x↔(0<=x.n/\x.n<=60000)):=Iff.rfl
 obtain⟨B,hB⟩:∃ B,decide (0<=x.n/\x.n<=60000)=B:=⟨_,rfl⟩
 have HB:Hid (B=true↔(0<=x.n/\x.n<=60000)):=by show B=true↔_;rw[<- hB];exact decide_eq_true_iff
 clear h hy
 go_enter Tryz.func179,Tryz.ntmps179
 go_wp2_with (go_at_call 55;refine (HWI.out _ _ _ _).mono ?_;rintro e z1 ⟨rfl,g1⟩; rw[g1,hB];clear g1 z1)
 go_ret
 exact⟨isB_dec (HB.out.trans HF.out.symm),below_alloc _ _⟩
theorem fits_8 (gr gm nm sl:Nat) (lab:Int->Option Int) (x:Pl.IrI) (y:SV) (hy:x.args.length=y.len) (hyl:(y.len:Int)<=9223372036854775807) (hsl:sl<=1048576) (hn:(Lit.int .i64 x.n).wf=true) (w:World) (h:FitW gr gm nm sl lab w):Calls Tryz.prog 182 #[.agg #[.int .i64 x.d,.int .i64 x.n],.pointer (some ⟨gr,0,none⟩)] w fun e w'=>IsB (Pl.fitsP sl (fun n=>(lab n).isSome=true) 8 x) e/\Below w.heap.size w w':=by
 have HWI:Hid (∀ (n a b:Int) (u:World),Calls Tryz.prog 55 #[.int .i64 n,.int .i64 a,.int .i64 b] u fun e w'=>e=.returned (.bool (decide (a<=n/\n<=b)))/\w'=u):=fun n a b u=>isWithin_ir n a b u
 obtain⟨⟨sa,sc,h3⟩,_,_⟩:=h
 have hgr:gr<w.heap.size:=block_lt_of_cell h3
 have hww:IntKind.i64.wrap ((sl:Int)-1)=(sl:Int)-1:=by rw[IntKind.wrap_i64];omega
 obtain⟨w1,hw1⟩:∃ w1:World,w1=w.alloc (.cells #[.int .i64 x.d,.int .i64 x.n] 165):=⟨_,rfl⟩
 have HB1:Hid (Below w.heap.size w w1):=by rw[hw1];exact below_alloc _ _
 have x1:w1.heap[w.heap.size]?=some (.cells #[.int .i64 x.d,.int .i64 x.n] 165 (0,0)):=by rw[hw1];exact heap_alloc_new w _
 have c1:w1.cell? ⟨w.heap.size,1,none⟩=some (.int .i64 x.n):=cell_of_row w1 _ 1 _ 165 (0,0) x1
 have c3:w1.cell? ⟨gr,3,none⟩=some (.slice sa sl sc):=(HB1.out.cell (p:=⟨gr,3,none⟩) hgr).trans h3
 obtain⟨B,hB⟩:∃ B,decide (0<=x.n/\x.n<=(sl:Int)-1)=B:=⟨_,rfl⟩
 have HB:Hid (B=true↔(0<=x.n/\x.n<=(sl:Int)-1)):=by show B=true↔_;rw[<- hB];exact decide_eq_true_iff
 have HF:Hid (Pl.fitsP sl (fun n=>(lab n).isSome=true) 8 x↔(0<=x.n/\x.n<=(sl:Int)-1)):=Iff.rfl
 have HDN:Hid (∀ n,Below w.heap.size w (w1.drewN n)):=fun n=>below_drewN HB1.out n
 clear x1 h3 hy
 go_enter Tryz.func182,Tryz.ntmps182
 go_upto_region 1 with fail
 rw[<- hw1]
 clear hw1
 go_region_with (go_at_call 55;refine (HWI.out _ _ _ _).mono ?_;rintro e z1 ⟨rfl,g1⟩; rw[g1,hB];clear g1 z1)
 all_goals
  go_wp2_with fail
  go_ret
  refine⟨isB_dec (HB.out.trans HF.out.symm),?_⟩
  repeat (first | with_reducible exact HB1.out | refine Below.drew ?_ | refine below_drewN ?_ _)
theorem fits_9 (gr gm nm sl:Nat) (lab:Int->Option Int) (x:Pl.IrI) (y:SV) (hy:x.args.length=y.len) (hyl:(y.len:Int)<=9223372036854775807) (hsl:sl<=1048576) (hn:(Lit.int .i64 x.n).wf=true) (w:World) (h:FitW gr gm nm sl lab w):Calls Tryz.prog 187 #[.agg #[.int .i64 x.d,.string x.sym,.slice y.a y.len y.cap],.pointer (some ⟨gr,0,none⟩)] w fun e w'=>IsB (Pl.fitsP sl (fun n=>(lab n).isSome=true) 9 x) e/\Below w.heap.size w w':=by
 have HY:Hid (x.args.length=y.len):=hy
 clear h hy
 by_cases h8:(y.len:Int)<=8
 ·have HF:Hid (Pl.fitsP sl (fun n=>(lab n).isSome=true) 9 x):=by show x.args.length<=8;rw[HY.out];omega
  go_enter Tryz.func187,Tryz.ntmps187
  go_wp2_with fail
  go_ret
  exact⟨isB_yes HF.out,below_alloc _ _⟩
 ·have HF:Hid (¬ Pl.fitsP sl (fun n=>(lab n).isSome=true) 9 x):=by show ¬ x.args.length<=8;rw[HY.out];omega
  go_enter Tryz.func187,Tryz.ntmps187
  go_wp2_with fail
  go_ret
  exact⟨isB_no HF.out,below_alloc _ _⟩
theorem fits_10 (gr gm nm sl:Nat) (lab:Int->Option Int) (x:Pl.IrI) (y:SV) (hy:x.args.length=y.len) (hyl:(y.len:Int)<=9223372036854775807) (hsl:sl<=1048576) (hn:(Lit.int .i64 x.n).wf=true) (w:World) (h:FitW gr gm nm sl lab w):Calls Tryz.prog 192 #[.agg #[.int .i64 x.d,.int .i64 x.a,.slice y.a y.len y.cap],.pointer (some ⟨gr,0,none⟩)] w fun e w'=>IsB (Pl.fitsP sl (fun n=>(lab n).isSome=true) 10 x) e/\Below w.heap.size w w':=by
 have HY:Hid (x.args.length=y.len):=hy
 clear h hy
 by_cases h8:(y.len:Int)<=8
 ·have HF:Hid (Pl.fitsP sl (fun n=>(lab n).isSome=true) 10 x):=by show x.args.length<=8;rw[HY.out];omega
  go_enter Tryz.func192,Tryz.ntmps192
  go_wp2_with fail
  go_ret
  exact⟨isB_yes HF.out,below_alloc _ _⟩
 ·have HF:Hid (¬ Pl.fitsP sl (fun n=>(lab n).isSome=true) 10 x):=by show ¬ x.args.length<=8;rw[HY.out];omega
  go_enter Tryz.func192,Tryz.ntmps192
  go_wp2_with fail
  go_ret
  exact⟨isB_no HF.out,below_alloc _ _⟩
theorem fits_11 (gr gm nm sl:Nat) (lab:Int->Option Int) (x:Pl.IrI) (y:SV) (hy:x.args.length=y.len) (hyl:(y.len:Int)<=9223372036854775807) (hsl:sl<=1048576) (hn:(Lit.int .i64 x.n).wf=true) (w:World) (h:FitW gr gm nm sl lab w):Calls Tryz.prog 196 #[.agg #[.int .i64 x.n],.pointer (some ⟨gr,0,none⟩)] w fun e w'=>IsB (Pl.fitsP sl (fun n=>(lab n).isSome=true) 11 x) e/\Below w.heap.size w w':=by
 clear h hy
 by_cases h8:0<=x.n
 ·have HF:Hid (Pl.fitsP sl (fun n=>(lab n).isSome=true) 11 x):=h8
  go_enter Tryz.func196,Tryz.ntmps196
  go_wp2_with fail
  go_ret
  exact⟨isB_yes HF.out,below_alloc _ _⟩
 ·have HF:Hid (¬ Pl.fitsP sl (fun n=>(lab n).isSome=true) 11 x):=h8
  go_enter Tryz.func196,Tryz.ntmps196
  go_wp2_with fail
  go_ret
  exact⟨isB_no HF.out,below_alloc _ _⟩
theorem fits_12 (gr gm nm sl:Nat) (lab:Int->Option Int) (x:Pl.IrI) (y:SV) (hy:x.args.length=y.len) (hyl:(y.len:Int)<=9223372036854775807) (hsl:sl<=1048576) (hn:(Lit.int .i64 x.n).wf=true) (w:World) (h:FitW gr gm nm sl lab w):Calls Tryz.prog 199 #[.agg #[.int .i64 x.n],.pointer (some ⟨gr,0,none⟩)] w fun e w'=>IsB (Pl.fitsP sl (fun n=>(lab n).isSome=true) 12 x) e/\Below w.heap.size w w':=by
 have HL:Hid (∀ u:World,Below w.heap.size w u->Calls Tryz.prog 91 #[.pointer (some ⟨gr,0,none⟩),.int .i64 x.n] u fun e w'=>IsB ((lab x.n).isSome=true) e/\Below u.heap.size u w'):=fun u hu=>by
  obtain⟨_,h6,D,h7,h8⟩:=h.keep hu
  exact hasLabel_is gr gm nm D lab x.n hn u h6 h7 h8
 clear h hy
 go_enter Tryz.func199,Tryz.ntmps199
 go_wp2_with (go_at_call 91;refine (HL.out _ (below_alloc _ _)).mono ?_;rintro e u1 ⟨⟨b,rfl,hb⟩,d1⟩; have HB:Hid _:=hb;have D1:Hid _:=d1;clear hb d1)
 go_ret
 exact⟨isB_dec HB.out,(below_alloc _ _).trans (D1.out.mono (by simp))⟩
theorem fits_13 (gr gm nm sl:Nat) (lab:Int->Option Int) (x:Pl.IrI) (y:SV) (hy:x.args.length=y.len) (hyl:(y.len:Int)<=9223372036854775807) (hsl:sl<=1048576) (hn:(Lit.int .i64 x.n).wf=true) (w:World) (h:FitW gr gm nm sl lab w):Calls Tryz.prog 202 #[.agg #[.int .i64 x.a,.int .i64 x.b,.string x.sym,.int .i64 x.n],.pointer (some ⟨gr,0,none⟩)] w fun e w'=>IsB (Pl.fitsP sl (fun n=>(lab n).isSome=true) 13 x) e/\Below w.heap.size w w':=by
 have HL:Hid (∀ u:World,Below w.heap.size w u->Calls Tryz.prog 91 #[.pointer (some ⟨gr,0,none⟩),.int .i64 x.n] u fun e w'=>IsB ((lab x.n).isSome=true) e/\Below u.heap.size u w'):=fun u hu=>by
  obtain⟨_,h6,D,h7,h8⟩:=h.keep hu
  exact hasLabel_is gr gm nm D lab x.n hn u h6 h7 h8
 have HBR:Hid (∀ u:World,Calls Tryz.prog 204 #[.string x.sym] u fun e w'=>(∃ r:Int,e=.returned (.int .i64 r)/\((r != 0)=Pl.inS Pl.irTests x.sym))/\w'=u):=fun u=>branchOf_is x.sym u
 have HF:Hid (Pl.fitsP sl (fun n=>(lab n).isSome=true) 13 x↔(Pl.inS Pl.irTests x.sym=true/\(lab x.n).isSome=true)):=Iff.rfl
 clear h hy
 cases hI:Pl.inS Pl.irTests x.sym
 ·have HN:Hid (¬ Pl.fitsP sl (fun n=>(lab n).isSome=true) 13 x):=fun q=>by have:=(HF.out.1 q).1;rw[hI]at this;cases this
  rw[hI]at HBR
  go_enter Tryz.func202,Tryz.ntmps202
  go_wp2_with (go_at_call 204;refine (HBR.out _).mono ?_;rintro e z1 ⟨⟨r,rfl,hr⟩,g1⟩; rw[g1];clear g1 z1)
  go_ret
  exact⟨isB_no HN.out,below_alloc _ _⟩
 ·rw[hI]at HBR HF
  go_enter Tryz.func202,Tryz.ntmps202
  go_wp2_with (first | (go_at_call 204;refine (HBR.out _).mono ?_;rintro e z1 ⟨⟨r,rfl,hr⟩,g1⟩; rw[g1];clear g1 z1) | (go_at_call 91;refine (HL.out _ (below_alloc _ _)).mono ?_;rintro e u1 ⟨⟨b,rfl,hb⟩,d1⟩; have HB:Hid _:=hb;have D1:Hid _:=d1;clear hb d1))
  go_ret
  exact⟨isB_dec (HB.out.trans ⟨fun q=>HF.out.2 ⟨by simp,q⟩,fun q=>(HF.out.1 q).2⟩),(below_alloc _ _).trans (D1.out.mono (by simp))⟩
theorem fits_14 (gr gm nm sl:Nat) (lab:Int->Option Int) (x:Pl.IrI) (y:SV) (hy:x.args.length=y.len) (hyl:(y.len:Int)<=9223372036854775807) (hsl:sl<=1048576) (hn:(Lit.int .i64 x.n).wf=true) (w:World) (h:FitW gr gm nm sl lab w):Calls Tryz.prog 206 #[.agg #[.int .i64 x.a],.pointer (some ⟨gr,0,none⟩)] w fun e w'=>IsB (Pl.fitsP sl (fun n=>(lab n).isSome=true) 14 x) e/\Below w.heap.size w w':=by
 clear h hy
 go_enter Tryz.func206,Tryz.ntmps206
 go_wp2_with fail
 go_ret
 exact⟨isB_yes trivial,below_alloc _ _⟩
theorem fits_15 (gr gm nm sl:Nat) (lab:Int->Option Int) (x:Pl.IrI) (y:SV) (hy:x.args.length=y.len) (hyl:(y.len:Int)<=9223372036854775807) (hsl:sl<=1048576) (hn:(Lit.int .i64 x.n).wf=true) (w:World) (h:FitW gr gm nm sl lab w):Calls Tryz.prog 210 #[.agg #[.int .i64 x.a,.int .i64 x.b,.int .i64 x.n],.pointer (some ⟨gr,0,none⟩)] w fun e w'=>IsB (Pl.fitsP sl (fun n=>(lab n).isSome=true) 15 x) e/\Below w.heap.size w w':=by
 have HWI:Hid (∀ (n a b:Int) (u:World),Calls Tryz.prog 55 #[.int .i64 n,.int .i64 a,.int .i64 b] u fun e w'=>e=.returned (.bool (decide (a<=n/\n<=b)))/\w'=u):=fun n a b u=>isWithin_ir n a b u
 have HF:Hid (Pl.fitsP sl (fun n=>(lab n).isSome=true) 15 x↔(1<=x.n/\x.n<=60000)):=Iff.rfl
 obtain⟨B,hB⟩:∃ B,decide (1<=x.n/\x.n<=60000)=B:=⟨_,rfl⟩
 have HB:Hid (B=true↔(1<=x.n/\x.n<=60000)):=by show B=true↔_;rw[<- hB];exact decide_eq_true_iff
 clear h hy
 go_enter Tryz.func210,Tryz.ntmps210
 go_wp2_with (go_at_call 55;refine (HWI.out _ _ _ _).mono ?_;rintro e z1 ⟨rfl,g1⟩; rw[g1,hB];clear g1 z1)
 go_ret
 exact⟨isB_dec (HB.out.trans HF.out.symm),below_alloc _ _⟩
theorem fits_16 (gr gm nm sl:Nat) (lab:Int->Option Int) (x:Pl.IrI) (y:SV) (hy:x.args.length=y.len) (hyl:(y.len:Int)<=9223372036854775807) (hsl:sl<=1048576) (hn:(Lit.int .i64 x.n).wf=true) (w:World) (h:FitW gr gm nm sl lab w):Calls Tryz.prog 213 #[.agg #[.int .i64 x.a,.int .i64 x.n],.pointer (some ⟨gr,0,none⟩)] w fun e w'=>IsB (Pl.fitsP sl (fun n=>(lab n).isSome=true) 16 x) e/\Below w.heap.size w w':=by
 have HWI:Hid (∀ (n a b:Int) (u:World),Calls Tryz.prog 55 #[.int .i64 n,.int .i64 a,.int .i64 b] u fun e w'=>e=.returned (.bool (decide (a<=n/\n<=b)))/\w'=u):=fun n a b u=>isWithin_ir n a b u
 have HF:Hid (Pl.fitsP sl (fun n=>(lab n).isSome=true) 16 x↔(1<=x.n/\x.n<=60000)):=Iff.rfl
 obtain⟨B,hB⟩:∃ B,decide (1<=x.n/\x.n<=60000)=B:=⟨_,rfl⟩
 have HB:Hid (B=true↔(1<=x.n/\x.n<=60000)):=by show B=true↔_;rw[<- hB];exact decide_eq_true_iff
 clear h hy
 go_enter Tryz.func213,Tryz.ntmps213
 go_wp2_with (go_at_call 55;refine (HWI.out _ _ _ _).mono ?_;rintro e z1 ⟨rfl,g1⟩; rw[g1,hB];clear g1 z1)
 go_ret
 exact⟨isB_dec (HB.out.trans HF.out.symm),below_alloc _ _⟩
theorem meth_fits_1 (x:Pl.IrI) (y:SV) (w:World):(method 365 151 (.agg #[.int .i64 x.d,.int .i64 x.n]) "loop.example/s01681/impl.fits").run Tryz.prog w=.ok (157,.agg #[.int .i64 x.d,.int .i64 x.n]) w:=by kernel_rfl
theorem meth_fits_2 (x:Pl.IrI) (y:SV) (w:World):(method 365 153 (.agg #[.int .i64 x.a,.int .i64 x.d]) "loop.example/s01681/impl.fits").run Tryz.prog w=.ok (163,.agg #[.int .i64 x.a,.int .i64 x.d]) w:=by kernel_rfl
theorem meth_fits_3 (x:Pl.IrI) (y:SV) (w:World):(method 365 155 (.agg #[.int .i64 x.a,.int .i64 x.b,.int .i64 x.d,.int .i64 x.n]) "loop.example/s01681/impl.fits").run Tryz.prog w=.ok (166,.agg #[.int .i64 x.a,.int .i64 x.b,.int .i64 x.d,.int .i64 x.n]) w:=by kernel_rfl
theorem meth_fits_4 (x:Pl.IrI) (y:SV) (w:World):(method 365 157 (.agg #[.int .i64 x.a,.int .i64 x.d,.int .i64 x.n]) "loop.example/s01681/impl.fits").run Tryz.prog w=.ok (169,.agg #[.int .i64 x.a,.int .i64 x.d,.int .i64 x.n]) w:=by kernel_rfl
theorem meth_fits_5 (x:Pl.IrI) (y:SV) (w:World):(method 365 158 (.agg #[.int .i64 x.a,.int .i64 x.d,.int .i64 x.n]) "loop.example/s01681/impl.fits").run Tryz.prog w=.ok (172,.agg #[.int .i64 x.a,.int .i64 x.d,.int .i64 x.n]) w:=by kernel_rfl
theorem meth_fits_6 (x:Pl.IrI) (y:SV) (w:World):(method 365 161 (.agg #[.int .i64 x.a,.int .i64 x.b,.int .i64 x.n]) "loop.example/s01681/impl.fits").run Tryz.prog w=.ok (176,.agg #[.int .i64 x.a,.int .i64 x.b,.int .i64 x.n]) w:=by kernel_rfl
theorem meth_fits_7 (x:Pl.IrI) (y:SV) (w:World):(method 365 163 (.agg #[.int .i64 x.d,.string x.sym,.int .i64 x.n]) "loop.example/s01681/impl.fits").run Tryz.prog w=.ok (179,.agg #[.int .i64 x.d,.string x.sym,.int .i64 x.n]) w:=by kernel_rfl
theorem meth_fits_8 (x:Pl.IrI) (y:SV) (w:World):(method 365 165 (.agg #[.int .i64 x.d,.int .i64 x.n]) "loop.example/s01681/impl.fits").run Tryz.prog w=.ok (182,.agg #[.int .i64 x.d,.int .i64 x.n]) w:=by kernel_rfl
theorem meth_fits_9 (x:Pl.IrI) (y:SV) (w:World):(method 365 168 (.agg #[.int .i64 x.d,.string x.sym,.slice y.a y.len y.cap]) "loop.example/s01681/impl.fits").run Tryz.prog w=.ok (187,.agg #[.int .i64 x.d,.string x.sym,.slice y.a y.len y.cap]) w:=by kernel_rfl
theorem meth_fits_10 (x:Pl.IrI) (y:SV) (w:World):(method 365 170 (.agg #[.int .i64 x.d,.int .i64 x.a,.slice y.a y.len y.cap]) "loop.example/s01681/impl.fits").run Tryz.prog w=.ok (192,.agg #[.int .i64 x.d,.int .i64 x.a,.slice y.a y.len y.cap]) w:=by kernel_rfl
theorem meth_fits_11 (x:Pl.IrI) (y:SV) (w:World):(method 365 172 (.agg #[.int .i64 x.n]) "loop.example/s01681/impl.fits").run Tryz.prog w=.ok (196,.agg #[.int .i64 x.n]) w:=by kernel_rfl
theorem meth_fits_12 (x:Pl.IrI) (y:SV) (w:World):(method 365 173 (.agg #[.int .i64 x.n]) "loop.example/s01681/impl.fits").run Tryz.prog w=.ok (199,.agg #[.int .i64 x.n]) w:=by kernel_rfl
theorem meth_fits_13 (x:Pl.IrI) (y:SV) (w:World):(method 365 175 (.agg #[.int .i64 x.a,.int .i64 x.b,.string x.sym,.int .i64 x.n]) "loop.example/s01681/impl.fits").run Tryz.prog w=.ok (202,.agg #[.int .i64 x.a,.int .i64 x.b,.string x.sym,.int .i64 x.n]) w:=by kernel_rfl
theorem meth_fits_14 (x:Pl.IrI) (y:SV) (w:World):(method 365 177 (.agg #[.int .i64 x.a]) "loop.example/s01681/impl.fits").run Tryz.prog w=.ok (206,.agg #[.int .i64 x.a]) w:=by kernel_rfl
theorem meth_fits_15 (x:Pl.IrI) (y:SV) (w:World):(method 365 179 (.agg #[.int .i64 x.a,.int .i64 x.b,.int .i64 x.n]) "loop.example/s01681/impl.fits").run Tryz.prog w=.ok (210,.agg #[.int .i64 x.a,.int .i64 x.b,.int .i64 x.n]) w:=by kernel_rfl
theorem meth_fits_16 (x:Pl.IrI) (y:SV) (w:World):(method 365 181 (.agg #[.int .i64 x.a,.int .i64 x.n]) "loop.example/s01681/impl.fits").run Tryz.prog w=.ok (213,.agg #[.int .i64 x.a,.int .i64 x.n]) w:=by kernel_rfl
theorem says_fits (k:Nat) (hk:1<=k/\k<=16) (gr gm nm sl:Nat) (lab:Int->Option Int) (x:Pl.IrI) (y:SV) (hy:x.args.length=y.len) (hyl:(y.len:Int)<=9223372036854775807) (hsl:sl<=1048576) (hn:(Lit.int .i64 x.n).wf=true) (w:World) (h:FitW gr gm nm sl lab w):Says (stV k x y) "loop.example/s01681/impl.fits" [.pointer (some ⟨gr,0,none⟩)] w fun u e u'=>IsB (Pl.fitsP sl (fun n=>(lab n).isSome=true) k x) e/\Below u.heap.size u u':=by
 obtain⟨h1,h2⟩:=hk
 rcases (show k=1\/k=2\/k=3\/k=4\/k=5\/k=6\/k=7\/k=8\/k=9\/k=10\/k=11\/k=12\/k=13\/k=14\/k=15\/k=16 by omega) with rfl | rfl | rfl | rfl | rfl | rfl | rfl | rfl | rfl | rfl | rfl | rfl | rfl | rfl | rfl | rfl
 ·exact⟨_,_,_,_,rfl,meth_fits_1 x y,fun _ _=>(by kernel_rfl),fun u hu=>fits_1 gr gm nm sl lab x y hy hyl hsl hn u (h.keep hu)⟩
 ·exact⟨_,_,_,_,rfl,meth_fits_2 x y,fun _ _=>(by kernel_rfl),fun u hu=>fits_2 gr gm nm sl lab x y hy hyl hsl hn u (h.keep hu)⟩
 ·exact⟨_,_,_,_,rfl,meth_fits_3 x y,fun _ _=>(by kernel_rfl),fun u hu=>fits_3 gr gm nm sl lab x y hy hyl hsl hn u (h.keep hu)⟩
 ·exact⟨_,_,_,_,rfl,meth_fits_4 x y,fun _ _=>(by kernel_rfl),fun u hu=>fits_4 gr gm nm sl lab x y hy hyl hsl hn u (h.keep hu)⟩
 ·exact⟨_,_,_,_,rfl,meth_fits_5 x y,fun _ _=>(by kernel_rfl),fun u hu=>fits_5 gr gm nm sl lab x y hy hyl hsl hn u (h.keep hu)⟩
 ·exact⟨_,_,_,_,rfl,meth_fits_6 x y,fun _ _=>(by kernel_rfl),fun u hu=>fits_6 gr gm nm sl lab x y hy hyl hsl hn u (h.keep hu)⟩
 ·exact⟨_,_,_,_,rfl,meth_fits_7 x y,fun _ _=>(by kernel_rfl),fun u hu=>fits_7 gr gm nm sl lab x y hy hyl hsl hn u (h.keep hu)⟩
 ·exact⟨_,_,_,_,rfl,meth_fits_8 x y,fun _ _=>(by kernel_rfl),fun u hu=>fits_8 gr gm nm sl lab x y hy hyl hsl hn u (h.keep hu)⟩
 ·exact⟨_,_,_,_,rfl,meth_fits_9 x y,fun _ _=>(by kernel_rfl),fun u hu=>fits_9 gr gm nm sl lab x y hy hyl hsl hn u (h.keep hu)⟩
 ·exact⟨_,_,_,_,rfl,meth_fits_10 x y,fun _ _=>(by kernel_rfl),fun u hu=>fits_10 gr gm nm sl lab x y hy hyl hsl hn u (h.keep hu)⟩
 ·exact⟨_,_,_,_,rfl,meth_fits_11 x y,fun _ _=>(by kernel_rfl),fun u hu=>fits_11 gr gm nm sl lab x y hy hyl hsl hn u (h.keep hu)⟩
 ·exact⟨_,_,_,_,rfl,meth_fits_12 x y,fun _ _=>(by kernel_rfl),fun u hu=>fits_12 gr gm nm sl lab x y hy hyl hsl hn u (h.keep hu)⟩
 ·exact⟨_,_,_,_,rfl,meth_fits_13 x y,fun _ _=>(by kernel_rfl),fun u hu=>fits_13 gr gm nm sl lab x y hy hyl hsl hn u (h.keep hu)⟩
 ·exact⟨_,_,_,_,rfl,meth_fits_14 x y,fun _ _=>(by kernel_rfl),fun u hu=>fits_14 gr gm nm sl lab x y hy hyl hsl hn u (h.keep hu)⟩
 ·exact⟨_,_,_,_,rfl,meth_fits_15 x y,fun _ _=>(by kernel_rfl),fun u hu=>fits_15 gr gm nm sl lab x y hy hyl hsl hn u (h.keep hu)⟩
 ·exact⟨_,_,_,_,rfl,meth_fits_16 x y,fun _ _=>(by kernel_rfl),fun u hu=>fits_16 gr gm nm sl lab x y hy hyl hsl hn u (h.keep hu)⟩
def RtC (f:Pl.IrF) (v s:SV) (S:Value) (gm:Nat) (P:Value) (room:Int):Array Value:=#[.string f.name,.int .i64 f.params,.int .i64 f.regs,.slice v.a v.len v.cap,.slice s.a s.len s.cap,S,.map (some gm),P,.int .i64 room]
structure Rt (W0:World) (gr gm nm:Nat) (f:Pl.IrF) (v s:SV) (S:Value) (sv:List Value) (lab:Int->Option Int) (P:Value) (ps:List Int) (room:Int) (w:World):Prop where
 bel:Below W0.heap.size W0 w
 grb:W0.heap.size<=gr
 gmb:W0.heap.size<=gm
 blk:w.heap[gr]?=some (.cells (RtC f v s S gm P room) 61 (0,0))
 map:∃ D:DataW Unit,w.ownsMap Tryz.prog 3 (plainElem Tryz.prog 3) gm nm D/\LabM D lab
 st:w.ownsRow W0.heap.size 93 1 S sv.length sv
 pl:w.ownsRow W0.heap.size 3 1 P ps.length (ps.map (Value.int .i64))
theorem Rt.keep {W0:World} {gr gm nm:Nat} {f:Pl.IrF} {v s:SV} {S:Value} {sv:List Value} {lab:Int->Option Int} {P:Value} {ps:List Int} {room:Int} {w:World} {w':World} (h:Rt W0 gr gm nm f v s S sv lab P ps room w) (hb:Below w.heap.size w w'):Rt W0 gr gm nm f v s S sv lab P ps room w':=by
 obtain⟨D,h1,h2⟩:=h.map
 have hlt:gm<w.heap.size:=by
  obtain⟨es,cl,q1,_⟩:=h1
  exact (Array.getElem?_eq_some_iff.1 q1).1
 exact⟨h.bel.trans (hb.mono h.bel.size),h.grb,h.gmb,(hb.block _ (Array.getElem?_eq_some_iff.1 h.blk).1).trans h.blk,⟨D,ownsMap_keepR h1 hb hlt,h2⟩,own_keepI h.st hb,own_keepI h.pl hb⟩
theorem Rt.cell {W0:World} {gr gm nm:Nat} {f:Pl.IrF} {v s:SV} {S:Value} {sv:List Value} {lab:Int->Option Int} {P:Value} {ps:List Int} {room:Int} {w:World} (h:Rt W0 gr gm nm f v s S sv lab P ps room w) (j:Nat):w.cell? ⟨gr,j,none⟩=(RtC f v s S gm P room)[j]?:=cell_of_row w gr j _ 61 (0,0) h.blk
theorem Rt.unfrozen {W0:World} {gr gm nm:Nat} {f:Pl.IrF} {v s:SV} {S:Value} {sv:List Value} {lab:Int->Option Int} {P:Value} {ps:List Int} {room:Int} {w:World} (h:Rt W0 gr gm nm f v s S sv lab P ps room w) (j:Nat):w.frozen? ⟨gr,j,none⟩=false:=frozen_of_row w gr j _ 61 h.blk
theorem Rt.lt {W0:World} {gr gm nm:Nat} {f:Pl.IrF} {v s:SV} {S:Value} {sv:List Value} {lab:Int->Option Int} {P:Value} {ps:List Int} {room:Int} {w:World} (h:Rt W0 gr gm nm f v s S sv lab P ps room w):gr<w.heap.size:=(Array.getElem?_eq_some_iff.1 h.blk).1
theorem Rt.fit {W0:World} {gr gm nm:Nat} {f:Pl.IrF} {v s:SV} {S:Value} {sv:List Value} {lab:Int->Option Int} {P:Value} {ps:List Int} {room:Int} {w:World} (h:Rt W0 gr gm nm f v s S sv lab P ps room w):FitW gr gm nm v.len lab w:=⟨⟨v.a,v.cap,h.cell 3⟩,h.cell 6,h.map⟩
theorem Rt.gm_lt {W0:World} {gr gm nm:Nat} {f:Pl.IrF} {v s:SV} {S:Value} {sv:List Value} {lab:Int->Option Int} {P:Value} {ps:List Int} {room:Int} {w:World} (h:Rt W0 gr gm nm f v s S sv lab P ps room w):gm<w.heap.size:=by
 obtain⟨D,⟨es,cl,q1,_⟩,_⟩:=h.map
 exact (Array.getElem?_eq_some_iff.1 q1).1
theorem Rt.marked {W0:World} {gr gm nm:Nat} {f:Pl.IrF} {v s:SV} {S:Value} {sv:List Value} {lab:Int->Option Int} {P:Value} {ps:List Int} {room:Int} {w:World} {w':World} {nm2:Nat} {lab2:Int->Option Int} {D2:DataW Unit} (h:Rt W0 gr gm nm f v s S sv lab P ps room w) (hg:w.grownBy w' (some gm)) (hm:w'.ownsMap Tryz.prog 3 (plainElem Tryz.prog 3) gm nm2 D2) (hD:LabM D2 lab2):Rt W0 gr gm nm2 f v s S sv lab2 P ps room w':=by
 obtain⟨D0,⟨es,cl,q1,q2⟩,_⟩:=h.map
 have ot:∀ {b:Nat} {cs:Array Value} {t:TypeId} {fr:Nat × Nat},w.heap[b]?=some (.cells cs t fr)->w'.heap[b]?=some (.cells cs t fr):=fun {b cs t fr} hb=>by
  rw[hg.block b (Array.getElem?_eq_some_iff.1 hb).1 (by
   intro e
   simp only[Option.some.injEq]at e
   rw[e,q1]at hb
   cases hb)]
  exact hb
 have ow:∀ {e:TypeId} {k:Nat} {x:Value} {n:Nat} {xs:List Value},w.ownsRow W0.heap.size e k x n xs->w'.ownsRow W0.heap.size e k x n xs:=fun {e k x n xs} ho=>by
  refine⟨ho.1,?_⟩
  rcases ho.2 with q | ⟨g,cp,cur,h0,hlo,hgg,r⟩
  ·exact .inl q
  ·exact .inr ⟨g,cp,cur,h0,hlo,ot hgg,r⟩
 exact⟨h.bel.grown hg h.bel.size (fun k hk=>by cases hk;exact h.gmb),h.grb,h.gmb,ot h.blk,⟨D2,hm,hD⟩,ow h.st,ow h.pl⟩
theorem LabM.nil:LabM (.map []) (fun _=>none):=⟨isMap_empty,fun n hn=>rfl,fun n v hn h=>by cases h⟩
theorem LabM.put {D:DataW Unit} {lab:Int->Option Int} (h:LabM D lab) (n v:Int) (hn:(Lit.int .i64 n).wf=true):LabM (D.put (.int .i64 n) (.lit (.int .i64 v))) (fun m=>if m=n then some v else lab m):=by
 refine⟨h.1.put _ _,fun m hm=>?_,fun m u hm hu=>?_⟩
 ·by_cases e:m=n
  ·rw[e,has_put_same h.1 (by trivial)];simp
  ·rw[has_put_other (fun hc=>e (by injection hc)),h.2.1 m hm];simp only[if_neg e]
 ·by_cases e:m=n
  ·simp only[if_pos e,Option.some.injEq]at hu
   rw[e,atKey_put_same h.1 (by trivial),hu]
  ·simp only[if_neg e]at hu
   rw[atKey_put_other (fun hc=>e (by injection hc)),h.2.2 m u hm hu]
end Go.Proofs.YtcgfgmlfbgbkfaaGreatDoor.W
