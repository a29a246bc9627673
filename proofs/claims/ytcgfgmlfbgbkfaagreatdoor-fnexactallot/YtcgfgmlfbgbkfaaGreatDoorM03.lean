import Derived.Test.YtcgfgmlfbgbkfaaGreatDoorM02
set_option linter.unusedVariables false
set_option linter.unusedSimpArgs false
set_option maxHeartbeats 16000000
namespace Go.Proofs.YtcgfgmlfbgbkfaaGreatDoor.W
open Go.RowKit
theorem kind_pos (n:Int):decide (0<Pl.ks n)=decide (1<=n/\n<=5):=by
 rw[Bool.eq_iff_iff,decide_eq_true_eq,decide_eq_true_eq]
 unfold Pl.ks
 split <;> (try split) <;> (try split) <;> omega
set_option maxRecDepth 4000 in
theorem l10NumOk_any (f:Pl.IrF) (v s:SV) (x:Pl.IrI) (q:SV) (hv:v.len<=9223372036854775807) (op:Nat) (hop:x.op=op) (h16:op<=16) (w:World):Calls Tryz.prog 88 #[.agg #[.string f.name,.int .i64 f.params,.int .i64 f.regs,.slice v.a v.len v.cap,.slice s.a s.len s.cap],.agg #[.int .i64 x.op,.int .i64 x.d,.int .i64 x.a,.int .i64 x.b,.int .i64 x.n,.string x.sym,.slice q.a q.len q.cap]] w fun e w'=>e=.returned (.bool (Pl.numOk v.len x.op x.n))/\Below w.heap.size w w':=by
 obtain⟨o,d,a,b,n,sym,args⟩:=x
 simp only at hop ⊢
 subst hop
 have hvl:(v.len:Int)<=9223372036854775807:=by omega
 have B2:∀ o1 o2:Obj,Below w.heap.size w ((w.alloc o1).alloc o2):=fun o1 o2=>(below_alloc w o1).trans ((below_alloc _ o2).mono (by simp))
 rcases (show op=0\/op=1\/op=2\/op=3\/op=4\/op=5\/op=6\/op=7\/op=8\/op=9\/op=10\/op=11\/op=12\/op=13\/op=14\/op=15\/op=16 by omega) with rfl | rfl | rfl | rfl | rfl | rfl | rfl | rfl | rfl | rfl | rfl | rfl | rfl | rfl | rfl | rfl | rfl
 ·by_cases h1:n=0
  ·subst h1
   go_enter Tryz.func88,Tryz.ntmps88
   go_wp2_with (go_at_call 86;refine (l10Fields_any 0 (by decide) _).mono ?_;rintro e u1 ⟨rfl,d1⟩; simp only[Pl.irTab])
   go_ret
   exact⟨by rfl,(B2 _ _).trans (d1.mono (B2 _ _).size)⟩
  ·have e1:(n == 0)=false:=by rw[beq_eq_false_iff_ne];exact h1
   go_enter Tryz.func88,Tryz.ntmps88
   go_wp2_with (go_at_call 86;refine (l10Fields_any 0 (by decide) _).mono ?_;rintro e u1 ⟨rfl,d1⟩; simp only[Pl.irTab])
   go_ret
   refine⟨ret_bool ?_,(B2 _ _).trans (d1.mono (B2 _ _).size)⟩
   rw[Bool.eq_iff_iff];simp[Pl.numOk,h1]
 ·go_enter Tryz.func88,Tryz.ntmps88
  go_wp2_with (go_at_call 113;refine (l3WordOk_at n _).mono ?_;rintro e u1 ⟨rfl,rfl⟩)
  go_ret
  refine⟨ret_bool ?_,B2 _ _⟩
  rw[Bool.eq_iff_iff];simp[Pl.numOk]
 ·by_cases h1:n=0
  ·subst h1
   go_enter Tryz.func88,Tryz.ntmps88
   go_wp2_with (go_at_call 86;refine (l10Fields_any 2 (by decide) _).mono ?_;rintro e u1 ⟨rfl,d1⟩; simp only[Pl.irTab])
   go_ret
   exact⟨by rfl,(B2 _ _).trans (d1.mono (B2 _ _).size)⟩
  ·have e1:(n == 0)=false:=by rw[beq_eq_false_iff_ne];exact h1
   go_enter Tryz.func88,Tryz.ntmps88
   go_wp2_with (go_at_call 86;refine (l10Fields_any 2 (by decide) _).mono ?_;rintro e u1 ⟨rfl,d1⟩; simp only[Pl.irTab])
   go_ret
   refine⟨ret_bool ?_,(B2 _ _).trans (d1.mono (B2 _ _).size)⟩
   rw[Bool.eq_iff_iff];simp[Pl.numOk,h1]
 ·by_cases h1:1<=n
  ·by_cases h2:n<=18
   ·go_enter Tryz.func88,Tryz.ntmps88
    go_wp2_with fail
    go_ret
    refine⟨ret_bool ?_,B2 _ _⟩
    rw[Bool.eq_iff_iff];simp[Pl.numOk];omega
   ·go_enter Tryz.func88,Tryz.ntmps88
    go_wp2_with fail
    go_ret
    refine⟨ret_bool ?_,B2 _ _⟩
    rw[Bool.eq_iff_iff];simp[Pl.numOk];omega
  ·go_enter Tryz.func88,Tryz.ntmps88
   go_wp2_with fail
   go_ret
   refine⟨ret_bool ?_,B2 _ _⟩
   rw[Bool.eq_iff_iff];simp[Pl.numOk];omega
 ·by_cases h1:1<=n
  ·by_cases h2:n<=4
   ·go_enter Tryz.func88,Tryz.ntmps88
    go_wp2_with fail
    go_ret
    refine⟨ret_bool ?_,B2 _ _⟩
    rw[Bool.eq_iff_iff];simp[Pl.numOk];omega
   ·go_enter Tryz.func88,Tryz.ntmps88
    go_wp2_with fail
    go_ret
    refine⟨ret_bool ?_,B2 _ _⟩
    rw[Bool.eq_iff_iff];simp[Pl.numOk];omega
  ·go_enter Tryz.func88,Tryz.ntmps88
   go_wp2_with fail
   go_ret
   refine⟨ret_bool ?_,B2 _ _⟩
   rw[Bool.eq_iff_iff];simp[Pl.numOk];omega
 ·by_cases hk:0<Pl.ks n
  ·have HE:Hid (Pl.numOk v.len 5 n=true):=by show Pl.numOk v.len 5 n=true;have:=kind_pos n;rw[decide_eq_true hk]at this;simp[Pl.numOk]at this ⊢; omega
   go_enter Tryz.func88,Tryz.ntmps88
   go_wp2_with (go_at_call 114;refine (specKindSize_any n _).mono ?_;rintro e u1 ⟨rfl,rfl⟩)
   go_ret
   exact⟨by rw[show (((5:Nat):Int))=5 from rfl,HE.out];rfl,B2 _ _⟩
  ·have HE:Hid (Pl.numOk v.len 5 n=false):=by show Pl.numOk v.len 5 n=false;have:=kind_pos n;rw[decide_eq_false hk]at this;simp[Pl.numOk]at this ⊢; omega
   have HK:Hid (¬ 0<Pl.ks n):=hk
   go_enter Tryz.func88,Tryz.ntmps88
   go_wp2_with (go_at_call 114;refine (specKindSize_any n _).mono ?_;rintro e u1 ⟨rfl,rfl⟩)
   go_ret
   exact⟨by rw[show (((5:Nat):Int))=5 from rfl,HE.out];exact congrArg (fun c=>Ending.returned (Value.bool c)) (decide_eq_false (Int.not_lt.2 HK.out)),B2 _ _⟩
 ·by_cases hk:0<Pl.ks n
  ·have HE:Hid (Pl.numOk v.len 6 n=true):=by show Pl.numOk v.len 6 n=true;have:=kind_pos n;rw[decide_eq_true hk]at this;simp[Pl.numOk]at this ⊢; omega
   go_enter Tryz.func88,Tryz.ntmps88
   go_wp2_with (go_at_call 114;refine (specKindSize_any n _).mono ?_;rintro e u1 ⟨rfl,rfl⟩)
   go_ret
   exact⟨by rw[show (((6:Nat):Int))=6 from rfl,HE.out];rfl,B2 _ _⟩
  ·have HE:Hid (Pl.numOk v.len 6 n=false):=by show Pl.numOk v.len 6 n=false;have:=kind_pos n;rw[decide_eq_false hk]at this;simp[Pl.numOk]at this ⊢; omega
   have HK:Hid (¬ 0<Pl.ks n):=hk
   go_enter Tryz.func88,Tryz.ntmps88
   go_wp2_with (go_at_call 114;refine (specKindSize_any n _).mono ?_;rintro e u1 ⟨rfl,rfl⟩)
   go_ret
   exact⟨by rw[show (((6:Nat):Int))=6 from rfl,HE.out];exact congrArg (fun c=>Ending.returned (Value.bool c)) (decide_eq_false (Int.not_lt.2 HK.out)),B2 _ _⟩
 ·by_cases h1:0<=n
  ·by_cases h2:n<=60000
   ·go_enter Tryz.func88,Tryz.ntmps88
    go_wp2_with fail
    go_ret
    refine⟨ret_bool ?_,B2 _ _⟩
    rw[Bool.eq_iff_iff];simp[Pl.numOk];omega
   ·go_enter Tryz.func88,Tryz.ntmps88
    go_wp2_with fail
    go_ret
    refine⟨ret_bool ?_,B2 _ _⟩
    rw[Bool.eq_iff_iff];simp[Pl.numOk];omega
  ·go_enter Tryz.func88,Tryz.ntmps88
   go_wp2_with fail
   go_ret
   refine⟨ret_bool ?_,B2 _ _⟩
   rw[Bool.eq_iff_iff];simp[Pl.numOk];omega
 ·by_cases h1:0<=n
  ·by_cases h2:n<(v.len:Int)
   ·go_enter Tryz.func88,Tryz.ntmps88
    go_wp2_with fail
    go_ret
    refine⟨ret_bool ?_,B2 _ _⟩
    rw[Bool.eq_iff_iff];simp[Pl.numOk];omega
   ·go_enter Tryz.func88,Tryz.ntmps88
    go_wp2_with fail
    go_ret
    refine⟨ret_bool ?_,B2 _ _⟩
    rw[Bool.eq_iff_iff];simp[Pl.numOk];omega
  ·go_enter Tryz.func88,Tryz.ntmps88
   go_wp2_with fail
   go_ret
   refine⟨ret_bool ?_,B2 _ _⟩
   rw[Bool.eq_iff_iff];simp[Pl.numOk];omega
 ·by_cases h1:n=0
  ·subst h1
   go_enter Tryz.func88,Tryz.ntmps88
   go_wp2_with (go_at_call 86;refine (l10Fields_any 9 (by decide) _).mono ?_;rintro e u1 ⟨rfl,d1⟩; simp only[Pl.irTab])
   go_ret
   exact⟨by rfl,(B2 _ _).trans (d1.mono (B2 _ _).size)⟩
  ·have e1:(n == 0)=false:=by rw[beq_eq_false_iff_ne];exact h1
   go_enter Tryz.func88,Tryz.ntmps88
   go_wp2_with (go_at_call 86;refine (l10Fields_any 9 (by decide) _).mono ?_;rintro e u1 ⟨rfl,d1⟩; simp only[Pl.irTab])
   go_ret
   refine⟨ret_bool ?_,(B2 _ _).trans (d1.mono (B2 _ _).size)⟩
   rw[Bool.eq_iff_iff];simp[Pl.numOk,h1]
 ·by_cases h1:n=0
  ·subst h1
   go_enter Tryz.func88,Tryz.ntmps88
   go_wp2_with (go_at_call 86;refine (l10Fields_any 10 (by decide) _).mono ?_;rintro e u1 ⟨rfl,d1⟩; simp only[Pl.irTab])
   go_ret
   exact⟨by rfl,(B2 _ _).trans (d1.mono (B2 _ _).size)⟩
  ·have e1:(n == 0)=false:=by rw[beq_eq_false_iff_ne];exact h1
   go_enter Tryz.func88,Tryz.ntmps88
   go_wp2_with (go_at_call 86;refine (l10Fields_any 10 (by decide) _).mono ?_;rintro e u1 ⟨rfl,d1⟩; simp only[Pl.irTab])
   go_ret
   refine⟨ret_bool ?_,(B2 _ _).trans (d1.mono (B2 _ _).size)⟩
   rw[Bool.eq_iff_iff];simp[Pl.numOk,h1]
 ·by_cases h1:n=0
  ·subst h1
   go_enter Tryz.func88,Tryz.ntmps88
   go_wp2_with (go_at_call 86;refine (l10Fields_any 11 (by decide) _).mono ?_;rintro e u1 ⟨rfl,d1⟩; simp only[Pl.irTab])
   go_ret
   exact⟨by rfl,(B2 _ _).trans (d1.mono (B2 _ _).size)⟩
  ·have e1:(n == 0)=false:=by rw[beq_eq_false_iff_ne];exact h1
   go_enter Tryz.func88,Tryz.ntmps88
   go_wp2_with (go_at_call 86;refine (l10Fields_any 11 (by decide) _).mono ?_;rintro e u1 ⟨rfl,d1⟩; simp only[Pl.irTab])
   go_ret
   refine⟨ret_bool ?_,(B2 _ _).trans (d1.mono (B2 _ _).size)⟩
   rw[Bool.eq_iff_iff];simp[Pl.numOk,h1]
 ·by_cases h1:n=0
  ·subst h1
   go_enter Tryz.func88,Tryz.ntmps88
   go_wp2_with (go_at_call 86;refine (l10Fields_any 12 (by decide) _).mono ?_;rintro e u1 ⟨rfl,d1⟩; simp only[Pl.irTab])
   go_ret
   exact⟨by rfl,(B2 _ _).trans (d1.mono (B2 _ _).size)⟩
  ·have e1:(n == 0)=false:=by rw[beq_eq_false_iff_ne];exact h1
   go_enter Tryz.func88,Tryz.ntmps88
   go_wp2_with (go_at_call 86;refine (l10Fields_any 12 (by decide) _).mono ?_;rintro e u1 ⟨rfl,d1⟩; simp only[Pl.irTab])
   go_ret
   refine⟨ret_bool ?_,(B2 _ _).trans (d1.mono (B2 _ _).size)⟩
   rw[Bool.eq_iff_iff];simp[Pl.numOk,h1]
 ·by_cases h1:n=0
  ·subst h1
   go_enter Tryz.func88,Tryz.ntmps88
   go_wp2_with (go_at_call 86;refine (l10Fields_any 13 (by decide) _).mono ?_;rintro e u1 ⟨rfl,d1⟩; simp only[Pl.irTab])
   go_ret
   exact⟨by rfl,(B2 _ _).trans (d1.mono (B2 _ _).size)⟩
  ·have e1:(n == 0)=false:=by rw[beq_eq_false_iff_ne];exact h1
   go_enter Tryz.func88,Tryz.ntmps88
   go_wp2_with (go_at_call 86;refine (l10Fields_any 13 (by decide) _).mono ?_;rintro e u1 ⟨rfl,d1⟩; simp only[Pl.irTab])
   go_ret
   refine⟨ret_bool ?_,(B2 _ _).trans (d1.mono (B2 _ _).size)⟩
   rw[Bool.eq_iff_iff];simp[Pl.numOk,h1]
 ·by_cases h1:n=0
  ·subst h1
   go_enter Tryz.func88,Tryz.ntmps88
   go_wp2_with (go_at_call 86;refine (l10Fields_any 14 (by decide) _).mono ?_;rintro e u1 ⟨rfl,d1⟩; simp only[Pl.irTab])
   go_ret
   exact⟨by rfl,(B2 _ _).trans (d1.mono (B2 _ _).size)⟩
  ·have e1:(n == 0)=false:=by rw[beq_eq_false_iff_ne];exact h1
   go_enter Tryz.func88,Tryz.ntmps88
   go_wp2_with (go_at_call 86;refine (l10Fields_any 14 (by decide) _).mono ?_;rintro e u1 ⟨rfl,d1⟩; simp only[Pl.irTab])
   go_ret
   refine⟨ret_bool ?_,(B2 _ _).trans (d1.mono (B2 _ _).size)⟩
   rw[Bool.eq_iff_iff];simp[Pl.numOk,h1]
 ·by_cases h1:1<=n
  ·by_cases h2:n<=60000
   ·go_enter Tryz.func88,Tryz.ntmps88
    go_wp2_with fail
    go_ret
    refine⟨ret_bool ?_,B2 _ _⟩
    rw[Bool.eq_iff_iff];simp[Pl.numOk];omega
   ·go_enter Tryz.func88,Tryz.ntmps88
    go_wp2_with fail
    go_ret
    refine⟨ret_bool ?_,B2 _ _⟩
    rw[Bool.eq_iff_iff];simp[Pl.numOk];omega
  ·go_enter Tryz.func88,Tryz.ntmps88
   go_wp2_with fail
   go_ret
   refine⟨ret_bool ?_,B2 _ _⟩
   rw[Bool.eq_iff_iff];simp[Pl.numOk];omega
 ·by_cases h1:1<=n
  ·by_cases h2:n<=60000
   ·go_enter Tryz.func88,Tryz.ntmps88
    go_wp2_with fail
    go_ret
    refine⟨ret_bool ?_,B2 _ _⟩
    rw[Bool.eq_iff_iff];simp[Pl.numOk];omega
   ·go_enter Tryz.func88,Tryz.ntmps88
    go_wp2_with fail
    go_ret
    refine⟨ret_bool ?_,B2 _ _⟩
    rw[Bool.eq_iff_iff];simp[Pl.numOk];omega
  ·go_enter Tryz.func88,Tryz.ntmps88
   go_wp2_with fail
   go_ret
   refine⟨ret_bool ?_,B2 _ _⟩
   rw[Bool.eq_iff_iff];simp[Pl.numOk];omega
end Go.Proofs.YtcgfgmlfbgbkfaaGreatDoor.W
