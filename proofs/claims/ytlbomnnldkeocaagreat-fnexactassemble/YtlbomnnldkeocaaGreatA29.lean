import Derived.Test.YtlbomnnldkeocaaGreatA19
import Derived.Test.YtlbomnnldkeocaaGreatA00
set_option linter.unusedVariables false
set_option linter.unusedSimpArgs false
set_option maxHeartbeats 16000000
namespace Go.Proofs.YtlbomnnldkeocaaGreat.W
open Go.RowKit
theorem toInst_at (op rd r1 r2 im:Int) (w:World):Calls Tryz.prog 94 #[.agg #[.int .i64 op,.int .i64 rd,.int .i64 r1,.int .i64 r2,.int .i64 im]] w fun e w'=>e=.returned (.agg #[.int .i64 op,.int .i64 rd,.int .i64 r1,.int .i64 r2,.int .i64 im])/\w'=((w.alloc (.cells #[.int .i64 op,.int .i64 rd,.int .i64 r1,.int .i64 r2,.int .i64 im] 92)).alloc (.cells #[.int .i64 op,.int .i64 rd,.int .i64 r1,.int .i64 r2,.int .i64 im] 32)).alloc (.cells #[.int .i64 op,.int .i64 rd,.int .i64 r1,.int .i64 r2,.int .i64 im] 32):=by
 go_enter Tryz.func94,Tryz.ntmps94
 go_wp2
 exact bodyPost_ret (v:=.agg #[.int .i64 op,.int .i64 rd,.int .i64 r1,.int .i64 r2,.int .i64 im]) (by simp[results,Tryz.results94,go_sem]) rfl ⟨rfl,rfl⟩
theorem toLine_any (k:Int) (op rd r1 r2 im n:Int) (s:ByteArray) (w:World):Calls Tryz.prog 48 #[.agg #[.int .i64 k,.int .i64 op,.int .i64 rd,.int .i64 r1,.int .i64 r2,.int .i64 im,.string s,.int .i64 n]] w fun e w'=>e=.returned (.agg #[.int .i64 k,.int .i64 op,.int .i64 rd,.int .i64 r1,.int .i64 r2,.int .i64 im,.string s,.int .i64 n])/\Below w.heap.size w w':=by
 go_enter Tryz.func48,Tryz.ntmps48
 go_wp2_with (go_at_call 94;refine (toInst_at _ _ _ _ _ _).mono ?_;rintro e u1 ⟨rfl,rfl⟩)
 exact bodyPost_ret (v:=.agg #[.int .i64 k,.int .i64 op,.int .i64 rd,.int .i64 r1,.int .i64 r2,.int .i64 im,.string s,.int .i64 n]) (by simp[results,Tryz.results48,go_sem]) rfl ⟨rfl,(by repeat (first | exact Below.refl _ _ | refine Below.alloc ?_ (by simp <;> omega) _))⟩
end Go.Proofs.YtlbomnnldkeocaaGreat.W
