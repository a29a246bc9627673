import Derived.Test.YtjcdiegfnoaedaaGreatDoorZ20
set_option linter.unusedVariables false
set_option linter.unusedSimpArgs false
set_option maxHeartbeats 16000000
namespace Go.Proofs.YtjcdiegfnoaedaaGreatDoor
namespace W
open Go.RowKit
theorem IK (k:Int) (h:17<=k/\k<=32) (w:World):Calls Tryz.prog 95 #[.int .i64 k] w fun e w'=>zH (Pl.rl k) w e w':=by
 have hk:k=17\/k=18\/k=19\/k=20\/k=21\/k=22\/k=23\/k=24\/k=25\/k=26\/k=27\/k=28\/k=29\/k=30\/k=31\/k=32:=by omega
 rcases hk with rfl|rfl|rfl|rfl|rfl|rfl|rfl|rfl|rfl|rfl|rfl|rfl|rfl|rfl|rfl|rfl;all_goals
  clear h;go_enter Tryz.func95,Tryz.ntmps95;go_wp2;refine bodyPost_ret ?_ rfl (zI rfl ?_ ?_)
  ·simp[results,Tryz.results95,go_sem];rfl
  ·first|exact .inl rfl|exact .inr ⟨MX w _ _,by decide,by decide⟩
  ·repeat (first|exact Below.refl _ _|refine Below.alloc ?_ (by simp <;> omega) _)
end W
end Go.Proofs.YtjcdiegfnoaedaaGreatDoor
