import Derived.Test.YtlbomnnldkeocaaGreatI25
set_option linter.unusedVariables false
set_option linter.unusedSimpArgs false
set_option maxHeartbeats 16000000
namespace Go.Proofs.YtlbomnnldkeocaaGreat.W
open Go.RowKit
theorem Dq (op rd r1 r2 im n:Int) (s:ByteArray) (w:World):Calls Tryz.prog 109 #[.agg #[.int .i64 2,.int .i64 op,.int .i64 rd,.int .i64 r1,.int .i64 r2,.int .i64 im,.string s,.int .i64 n]] w fun e w'=>e=.returned (.tuple #[.agg #[.bool false,.bool false,.bool false,.int .i64 0,.int .i64 0],.bool true])/\Below w.heap.size w w':=by
 go_enter Tryz.func109,Tryz.ntmps109
 go_wp2
 exact bodyPost_ret (v:=.tuple #[.agg #[.bool false,.bool false,.bool false,.int .i64 0,.int .i64 0],.bool true]) (by simp[results,Tryz.results109,go_sem]) rfl ⟨rfl,(by repeat (first | exact Below.refl _ _ | refine Below.alloc ?_ (by simp <;> omega) _))⟩
theorem Dr (op rd r1 r2 im n:Int) (s:ByteArray) (w:World):Calls Tryz.prog 109 #[.agg #[.int .i64 9,.int .i64 op,.int .i64 rd,.int .i64 r1,.int .i64 r2,.int .i64 im,.string s,.int .i64 n]] w fun e w'=>e=.returned (.tuple #[.agg #[.bool false,.bool false,.bool false,.int .i64 0,.int .i64 0],.bool true])/\Below w.heap.size w w':=by
 go_enter Tryz.func109,Tryz.ntmps109
 go_wp2
 exact bodyPost_ret (v:=.tuple #[.agg #[.bool false,.bool false,.bool false,.int .i64 0,.int .i64 0],.bool true]) (by simp[results,Tryz.results109,go_sem]) rfl ⟨rfl,(by repeat (first | exact Below.refl _ _ | refine Below.alloc ?_ (by simp <;> omega) _))⟩
theorem WV (op rd r1 r2 im n:Int) (s:ByteArray) (w:World):Calls Tryz.prog 109 #[.agg #[.int .i64 10,.int .i64 op,.int .i64 rd,.int .i64 r1,.int .i64 r2,.int .i64 im,.string s,.int .i64 n]] w fun e w'=>e=.returned (.tuple #[.agg #[.bool false,.bool false,.bool false,.int .i64 0,.int .i64 0],.bool true])/\Below w.heap.size w w':=by
 go_enter Tryz.func109,Tryz.ntmps109
 go_wp2
 exact bodyPost_ret (v:=.tuple #[.agg #[.bool false,.bool false,.bool false,.int .i64 0,.int .i64 0],.bool true]) (by simp[results,Tryz.results109,go_sem]) rfl ⟨rfl,(by repeat (first | exact Below.refl _ _ | refine Below.alloc ?_ (by simp <;> omega) _))⟩
theorem WW (op rd r1 r2 im n:Int) (s:ByteArray) (w:World):Calls Tryz.prog 109 #[.agg #[.int .i64 11,.int .i64 op,.int .i64 rd,.int .i64 r1,.int .i64 r2,.int .i64 im,.string s,.int .i64 n]] w fun e w'=>e=.returned (.tuple #[.agg #[.bool false,.bool false,.bool false,.int .i64 0,.int .i64 0],.bool true])/\Below w.heap.size w w':=by
 go_enter Tryz.func109,Tryz.ntmps109
 go_wp2
 exact bodyPost_ret (v:=.tuple #[.agg #[.bool false,.bool false,.bool false,.int .i64 0,.int .i64 0],.bool true]) (by simp[results,Tryz.results109,go_sem]) rfl ⟨rfl,(by repeat (first | exact Below.refl _ _ | refine Below.alloc ?_ (by simp <;> omega) _))⟩
theorem Dt (op rd r1 r2 im n:Int) (s:ByteArray) (w:World):Calls Tryz.prog 109 #[.agg #[.int .i64 1,.int .i64 op,.int .i64 rd,.int .i64 r1,.int .i64 r2,.int .i64 im,.string s,.int .i64 n]] w fun e w'=>e=.returned (.tuple #[.agg #[.bool false,.bool false,.bool true,.int .i64 0,.int .i64 0],.bool true])/\Below w.heap.size w w':=by
 go_enter Tryz.func109,Tryz.ntmps109
 go_wp2
 exact bodyPost_ret (v:=.tuple #[.agg #[.bool false,.bool false,.bool true,.int .i64 0,.int .i64 0],.bool true]) (by simp[results,Tryz.results109,go_sem]) rfl ⟨rfl,(by repeat (first | exact Below.refl _ _ | refine Below.alloc ?_ (by simp <;> omega) _))⟩
theorem Du (op rd r1 r2 im n:Int) (s:ByteArray) (w:World):Calls Tryz.prog 109 #[.agg #[.int .i64 3,.int .i64 op,.int .i64 rd,.int .i64 r1,.int .i64 r2,.int .i64 im,.string s,.int .i64 n]] w fun e w'=>e=.returned (.tuple #[.agg #[.bool false,.bool false,.bool true,.int .i64 0,.int .i64 0],.bool true])/\Below w.heap.size w w':=by
 go_enter Tryz.func109,Tryz.ntmps109
 go_wp2
 exact bodyPost_ret (v:=.tuple #[.agg #[.bool false,.bool false,.bool true,.int .i64 0,.int .i64 0],.bool true]) (by simp[results,Tryz.results109,go_sem]) rfl ⟨rfl,(by repeat (first | exact Below.refl _ _ | refine Below.alloc ?_ (by simp <;> omega) _))⟩
theorem Dv (op rd r1 r2 im n:Int) (s:ByteArray) (w:World):Calls Tryz.prog 109 #[.agg #[.int .i64 7,.int .i64 op,.int .i64 rd,.int .i64 r1,.int .i64 r2,.int .i64 im,.string s,.int .i64 n]] w fun e w'=>e=.returned (.tuple #[.agg #[.bool false,.bool false,.bool true,.int .i64 0,.int .i64 0],.bool true])/\Below w.heap.size w w':=by
 go_enter Tryz.func109,Tryz.ntmps109
 go_wp2
 exact bodyPost_ret (v:=.tuple #[.agg #[.bool false,.bool false,.bool true,.int .i64 0,.int .i64 0],.bool true]) (by simp[results,Tryz.results109,go_sem]) rfl ⟨rfl,(by repeat (first | exact Below.refl _ _ | refine Below.alloc ?_ (by simp <;> omega) _))⟩
theorem Dw (op rd r1 r2 im n:Int) (s:ByteArray) (w:World):Calls Tryz.prog 109 #[.agg #[.int .i64 8,.int .i64 op,.int .i64 rd,.int .i64 r1,.int .i64 r2,.int .i64 im,.string s,.int .i64 n]] w fun e w'=>e=.returned (.tuple #[.agg #[.bool false,.bool false,.bool true,.int .i64 0,.int .i64 0],.bool true])/\Below w.heap.size w w':=by
 go_enter Tryz.func109,Tryz.ntmps109
 go_wp2
 exact bodyPost_ret (v:=.tuple #[.agg #[.bool false,.bool false,.bool true,.int .i64 0,.int .i64 0],.bool true]) (by simp[results,Tryz.results109,go_sem]) rfl ⟨rfl,(by repeat (first | exact Below.refl _ _ | refine Below.alloc ?_ (by simp <;> omega) _))⟩
theorem Dx (op rd r1 r2 im n:Int) (s:ByteArray) (w:World):Calls Tryz.prog 109 #[.agg #[.int .i64 4,.int .i64 op,.int .i64 rd,.int .i64 r1,.int .i64 r2,.int .i64 im,.string s,.int .i64 n]] w fun e w'=>e=.returned (.tuple #[.agg #[.bool true,.bool false,.bool false,.int .i64 0,.int .i64 4294967295],.bool true])/\Below w.heap.size w w':=by
 go_enter Tryz.func109,Tryz.ntmps109
 go_wp2
 exact bodyPost_ret (v:=.tuple #[.agg #[.bool true,.bool false,.bool false,.int .i64 0,.int .i64 4294967295],.bool true]) (by simp[results,Tryz.results109,go_sem]) rfl ⟨rfl,(by repeat (first | exact Below.refl _ _ | refine Below.alloc ?_ (by simp <;> omega) _))⟩
theorem Dy (op rd r1 r2 im n:Int) (s:ByteArray) (w:World):Calls Tryz.prog 109 #[.agg #[.int .i64 5,.int .i64 op,.int .i64 rd,.int .i64 r1,.int .i64 r2,.int .i64 im,.string s,.int .i64 n]] w fun e w'=>e=.returned (.tuple #[.agg #[.bool true,.bool false,.bool true,.int .i64 (-2147483648),.int .i64 2147483647],.bool true])/\Below w.heap.size w w':=by
 go_enter Tryz.func109,Tryz.ntmps109
 go_wp2
 exact bodyPost_ret (v:=.tuple #[.agg #[.bool true,.bool false,.bool true,.int .i64 (-2147483648),.int .i64 2147483647],.bool true]) (by simp[results,Tryz.results109,go_sem]) rfl ⟨rfl,(by repeat (first | exact Below.refl _ _ | refine Below.alloc ?_ (by simp <;> omega) _))⟩
theorem Dz (op rd r1 r2 im n:Int) (s:ByteArray) (w:World):Calls Tryz.prog 109 #[.agg #[.int .i64 6,.int .i64 op,.int .i64 rd,.int .i64 r1,.int .i64 r2,.int .i64 im,.string s,.int .i64 n]] w fun e w'=>e=.returned (.tuple #[.agg #[.bool true,.bool true,.bool false,.int .i64 0,.int .i64 0],.bool true])/\Below w.heap.size w w':=by
 go_enter Tryz.func109,Tryz.ntmps109
 go_wp2
 exact bodyPost_ret (v:=.tuple #[.agg #[.bool true,.bool true,.bool false,.int .i64 0,.int .i64 0],.bool true]) (by simp[results,Tryz.results109,go_sem]) rfl ⟨rfl,(by repeat (first | exact Below.refl _ _ | refine Below.alloc ?_ (by simp <;> omega) _))⟩
theorem WX (op rd r1 r2 im n:Int) (s:ByteArray) (w:World):Calls Tryz.prog 109 #[.agg #[.int .i64 12,.int .i64 op,.int .i64 rd,.int .i64 r1,.int .i64 r2,.int .i64 im,.string s,.int .i64 n]] w fun e w'=>e=.returned (.tuple #[.agg #[.bool false,.bool false,.bool false,.int .i64 0,.int .i64 255],.bool true])/\Below w.heap.size w w':=by
 go_enter Tryz.func109,Tryz.ntmps109
 go_wp2
 exact bodyPost_ret (v:=.tuple #[.agg #[.bool false,.bool false,.bool false,.int .i64 0,.int .i64 255],.bool true]) (by simp[results,Tryz.results109,go_sem]) rfl ⟨rfl,(by repeat (first | exact Below.refl _ _ | refine Below.alloc ?_ (by simp <;> omega) _))⟩
theorem WY (op rd r1 r2 im n:Int) (s:ByteArray) (w:World):Calls Tryz.prog 109 #[.agg #[.int .i64 13,.int .i64 op,.int .i64 rd,.int .i64 r1,.int .i64 r2,.int .i64 im,.string s,.int .i64 n]] w fun e w'=>e=.returned (.tuple #[.agg #[.bool false,.bool false,.bool false,.int .i64 0,.int .i64 65535],.bool true])/\Below w.heap.size w w':=by
 go_enter Tryz.func109,Tryz.ntmps109
 go_wp2
 exact bodyPost_ret (v:=.tuple #[.agg #[.bool false,.bool false,.bool false,.int .i64 0,.int .i64 65535],.bool true]) (by simp[results,Tryz.results109,go_sem]) rfl ⟨rfl,(by repeat (first | exact Below.refl _ _ | refine Below.alloc ?_ (by simp <;> omega) _))⟩
theorem WZ (op rd r1 r2 im n:Int) (s:ByteArray) (w:World):Calls Tryz.prog 109 #[.agg #[.int .i64 15,.int .i64 op,.int .i64 rd,.int .i64 r1,.int .i64 r2,.int .i64 im,.string s,.int .i64 n]] w fun e w'=>e=.returned (.tuple #[.agg #[.bool false,.bool false,.bool false,.int .i64 0,.int .i64 65536],.bool true])/\Below w.heap.size w w':=by
 go_enter Tryz.func109,Tryz.ntmps109
 go_wp2
 exact bodyPost_ret (v:=.tuple #[.agg #[.bool false,.bool false,.bool false,.int .i64 0,.int .i64 65536],.bool true]) (by simp[results,Tryz.results109,go_sem]) rfl ⟨rfl,(by repeat (first | exact Below.refl _ _ | refine Below.alloc ?_ (by simp <;> omega) _))⟩
theorem XA (op rd r1 r2 im n:Int) (s:ByteArray) (w:World):Calls Tryz.prog 109 #[.agg #[.int .i64 16,.int .i64 op,.int .i64 rd,.int .i64 r1,.int .i64 r2,.int .i64 im,.string s,.int .i64 n]] w fun e w'=>e=.returned (.tuple #[.agg #[.bool false,.bool false,.bool false,.int .i64 1,.int .i64 4],.bool true])/\Below w.heap.size w w':=by
 go_enter Tryz.func109,Tryz.ntmps109
 go_wp2
 exact bodyPost_ret (v:=.tuple #[.agg #[.bool false,.bool false,.bool false,.int .i64 1,.int .i64 4],.bool true]) (by simp[results,Tryz.results109,go_sem]) rfl ⟨rfl,(by repeat (first | exact Below.refl _ _ | refine Below.alloc ?_ (by simp <;> omega) _))⟩
theorem SE (op rd r1 r2 im n:Int) (s:ByteArray) (he:s.size=0) (w:World):Calls Tryz.prog 109 #[.agg #[.int .i64 14,.int .i64 op,.int .i64 rd,.int .i64 r1,.int .i64 r2,.int .i64 im,.string s,.int .i64 n]] w fun e w'=>e=.returned (.tuple #[.agg #[.bool false,.bool false,.bool false,.int .i64 0,.int .i64 4294967295],.bool true])/\Below w.heap.size w w':=by
 have hn:=(Pl.oL s).2 he
 clear he
 go_enter Tryz.func109,Tryz.ntmps109
 go_wp2
 exact bodyPost_ret (v:=.tuple #[.agg #[.bool false,.bool false,.bool false,.int .i64 0,.int .i64 4294967295],.bool true]) (by simp[results,Tryz.results109,go_sem]) rfl ⟨rfl,(by repeat (first | exact Below.refl _ _ | refine Below.alloc ?_ (by simp <;> omega) _))⟩
theorem SF (op rd r1 r2 im n:Int) (s:ByteArray) (he:¬ s.size=0) (w:World):Calls Tryz.prog 109 #[.agg #[.int .i64 14,.int .i64 op,.int .i64 rd,.int .i64 r1,.int .i64 r2,.int .i64 im,.string s,.int .i64 n]] w fun e w'=>e=.returned (.tuple #[.agg #[.bool false,.bool false,.bool true,.int .i64 (-2147483648),.int .i64 2147483647],.bool true])/\Below w.heap.size w w':=by
 have hn:s.toList.isEmpty=false:=by rw[List.isEmpty_eq_false_iff];exact fun h=>he ((Pl.oL s).1 h)
 clear he
 go_enter Tryz.func109,Tryz.ntmps109
 go_wp2
 exact bodyPost_ret (v:=.tuple #[.agg #[.bool false,.bool false,.bool true,.int .i64 (-2147483648),.int .i64 2147483647],.bool true]) (by simp[results,Tryz.results109,go_sem]) rfl ⟨rfl,(by repeat (first | exact Below.refl _ _ | refine Below.alloc ?_ (by simp <;> omega) _))⟩
theorem XB (k:Int) (h:k<1\/16<k) (op rd r1 r2 im n:Int) (s:ByteArray) (w:World):Calls Tryz.prog 109 #[.agg #[.int .i64 k,.int .i64 op,.int .i64 rd,.int .i64 r1,.int .i64 r2,.int .i64 im,.string s,.int .i64 n]] w fun e w'=>e=.returned (.tuple #[.agg #[.bool false,.bool false,.bool false,.int .i64 0,.int .i64 0],.bool false])/\Below w.heap.size w w':=by
 go_enter Tryz.func109,Tryz.ntmps109
 go_wp2
 exact bodyPost_ret (v:=.tuple #[.agg #[.bool false,.bool false,.bool false,.int .i64 0,.int .i64 0],.bool false]) (by simp[results,Tryz.results109,go_sem]) rfl ⟨rfl,(by repeat (first | exact Below.refl _ _ | refine Below.alloc ?_ (by simp <;> omega) _))⟩
end Go.Proofs.YtlbomnnldkeocaaGreat.W
