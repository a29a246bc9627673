import Derived.Test.YtlbomnnldkeocaaGreatA15
import Derived.Test.YtlbomnnldkeocaaGreatA00
set_option linter.unusedVariables false
set_option maxHeartbeats 16000000
namespace Go.Proofs.YtlbomnnldkeocaaGreat.Pl
end Go.Proofs.YtlbomnnldkeocaaGreat.Pl
namespace Go.Proofs.YtlbomnnldkeocaaGreat.W
open Go.RowKit
end Go.Proofs.YtlbomnnldkeocaaGreat.W
namespace Go.Proofs.YtlbomnnldkeocaaGreat.Pl
end Go.Proofs.YtlbomnnldkeocaaGreat.Pl
namespace Go.Proofs.YtlbomnnldkeocaaGreat.W
open Go.RowKit
theorem results_cell_tmp {P:Program} {fn:Func} {p q:Tmp} {ty:TypeId} (h:fn.results=#[.cell p ty,.tmp q]) (tmps:Array Value) (w:World) (g:Nat) (t:TypeId) (cs:Array Value) (fr:Nat × Nat) (d:TypeDesc) (v:Value)
  (hp:tmps.getD p undef=.pointer (some ⟨g,0,none⟩)) (hq:tmps.getD q undef=v) (hg:w.heap[g]?=some (.cells cs t fr))
  (hu:P.underlying ty=some d) (hd:(match d with | .struct _ | .array _ _=>true | _=>false)=true) (hi:(P.info? ty).map (·.size)=some cs.size) :
  (results fn tmps).run P w=.ok (.tuple #[.agg cs,v]) w:=by
 have hp':tmps[p]?.getD undef=.pointer (some ⟨g,0,none⟩):=by simpa using hp
 have hq':tmps[q]?.getD undef=v:=by simpa using hq
 simp[results,h,hp',hq',asAddr,run_loadVar_row w g t ty cs fr d hg hu hd hi]
end Go.Proofs.YtlbomnnldkeocaaGreat.W
namespace Go.Proofs.YtlbomnnldkeocaaGreat.Pl
def wde (v m:Int):Int:=if pw (m.toNat-1)<=v then v-pw m.toNat else v
end Go.Proofs.YtlbomnnldkeocaaGreat.Pl
namespace Go.Proofs.YtlbomnnldkeocaaGreat.W
open Go.RowKit
theorem power_is (x:Int) (h:0<=x/\x<=32) (w:World):Calls Tryz.prog 98 #[.int .i64 x] w fun e w'=>e=.returned (.int .i64 (Pl.pw x.toNat))/\w'=w:=specPower_any x x.toNat (by omega) (by omega) w
theorem l2Wide_is (v m:Int) (hm:m=12\/m=13\/m=21) (hv:0<=v/\v<=8589934592) (w:World):Calls Tryz.prog 124 #[.int .i64 v,.int .i64 m] w fun e w'=>e=.returned (.int .i64 (Pl.wde v m))/\w'=w:=by
 rcases hm with rfl | rfl | rfl
 ·have e1:Pl.pw 11=2048:=by decide
  have e2:Pl.pw 12=4096:=by decide
  by_cases h:2048<=v
  ·have HP:Hid (Pl.wde v 12=v-4096):=by show Pl.wde v 12=_;unfold Pl.wde;rw[show (Int.toNat 12-1)=11 from rfl,show Int.toNat 12=12 from rfl,e1,e2,if_pos h]
   go_enter Tryz.func124,Tryz.ntmps124
   go_wp2_with (first | (go_at_call 98;refine (power_is _ (by decide) _).mono ?_;rintro e w' ⟨rfl,rfl⟩))
   go_ret
   exact⟨ret_int (HP.out.trans (by first | rfl | simp only[e2])).symm,rfl⟩
  ·have HP:Hid (Pl.wde v 12=v):=by show Pl.wde v 12=_;unfold Pl.wde;rw[show (Int.toNat 12-1)=11 from rfl,e1,if_neg h]
   go_enter Tryz.func124,Tryz.ntmps124
   go_wp2_with (first | (go_at_call 98;refine (power_is _ (by decide) _).mono ?_;rintro e w' ⟨rfl,rfl⟩))
   go_ret
   exact⟨ret_int HP.out.symm,rfl⟩
 ·have e1:Pl.pw 12=4096:=by decide
  have e2:Pl.pw 13=8192:=by decide
  by_cases h:4096<=v
  ·have HP:Hid (Pl.wde v 13=v-8192):=by show Pl.wde v 13=_;unfold Pl.wde;rw[show (Int.toNat 13-1)=12 from rfl,show Int.toNat 13=13 from rfl,e1,e2,if_pos h]
   go_enter Tryz.func124,Tryz.ntmps124
   go_wp2_with (first | (go_at_call 98;refine (power_is _ (by decide) _).mono ?_;rintro e w' ⟨rfl,rfl⟩))
   go_ret
   exact⟨ret_int (HP.out.trans (by first | rfl | simp only[e2])).symm,rfl⟩
  ·have HP:Hid (Pl.wde v 13=v):=by show Pl.wde v 13=_;unfold Pl.wde;rw[show (Int.toNat 13-1)=12 from rfl,e1,if_neg h]
   go_enter Tryz.func124,Tryz.ntmps124
   go_wp2_with (first | (go_at_call 98;refine (power_is _ (by decide) _).mono ?_;rintro e w' ⟨rfl,rfl⟩))
   go_ret
   exact⟨ret_int HP.out.symm,rfl⟩
 ·have e1:Pl.pw 20=1048576:=by decide
  have e2:Pl.pw 21=2097152:=by decide
  by_cases h:1048576<=v
  ·have HP:Hid (Pl.wde v 21=v-2097152):=by show Pl.wde v 21=_;unfold Pl.wde;rw[show (Int.toNat 21-1)=20 from rfl,show Int.toNat 21=21 from rfl,e1,e2,if_pos h]
   go_enter Tryz.func124,Tryz.ntmps124
   go_wp2_with (first | (go_at_call 98;refine (power_is _ (by decide) _).mono ?_;rintro e w' ⟨rfl,rfl⟩))
   go_ret
   exact⟨ret_int (HP.out.trans (by first | rfl | simp only[e2])).symm,rfl⟩
  ·have HP:Hid (Pl.wde v 21=v):=by show Pl.wde v 21=_;unfold Pl.wde;rw[show (Int.toNat 21-1)=20 from rfl,e1,if_neg h]
   go_enter Tryz.func124,Tryz.ntmps124
   go_wp2_with (first | (go_at_call 98;refine (power_is _ (by decide) _).mono ?_;rintro e w' ⟨rfl,rfl⟩))
   go_ret
   exact⟨ret_int HP.out.symm,rfl⟩
end Go.Proofs.YtlbomnnldkeocaaGreat.W
