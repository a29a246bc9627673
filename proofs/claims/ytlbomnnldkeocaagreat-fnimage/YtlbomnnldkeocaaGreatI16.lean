import Derived.Test.YtlbomnnldkeocaaGreatI09
import Derived.Test.YtlbomnnldkeocaaGreatI02
import Derived.Deep.QuietTactic
import Derived.BigQuiet
set_option linter.unusedVariables false
set_option maxHeartbeats 16000000
namespace Go.Proofs.YtlbomnnldkeocaaGreat.Pl
open Go.RowKit
theorem ME (n:Int) (a b:Nat) (hb:b<=31):bits .and .i64 (n / 2 ^ a) (wrap64 (wrap64 (2 ^ b)-1))=n / pw a % pw b:=by
 have p1:=aJ b
 have p2:pw b<=2147483648:=tF hb
 unfold pw at p1 p2
 have e1:wrap64 (2 ^ b)=2 ^ b:=by
  generalize (2:Int) ^ b=x at *
  unfold wrap64;omega
 have e2:wrap64 (2 ^ b-1)=2 ^ b-1:=by
  generalize (2:Int) ^ b=x at *
  unfold wrap64;omega
 rw[e1,e2,Dh _ b (by omega)]
 rfl
end Go.Proofs.YtlbomnnldkeocaaGreat.Pl
namespace Go.Proofs.YtlbomnnldkeocaaGreat.W
open Go.RowKit
theorem aW (n x y:Int) (a b:Nat) (hx:x=a) (hy:y=b) (ha:a<=31) (hb:b<=31) (n1 : -4611686018427387904<=n) (n2:n<=4611686018427387904) (w:World) :
  Calls Tryz.prog 90 #[.int .i64 n,.int .i64 x,.int .i64 y] w fun e w'=>e=.returned (.int .i64 (n / Pl.pw a % Pl.pw b))/\∃ m,w'=w.drewN m:=by
 subst hx hy
 have p1:=Pl.aJ b
 have p2:Pl.pw b<=2147483648:=Pl.tF hb
 go_enter Tryz.func90,Tryz.ntmps90
 go_wp2_with fail
 go_quiet (fail)
 go_wp2
 go_ret
 exact⟨aO (Pl.ME n a b hb),_,rfl⟩
theorem zR (c0 c1 c2 c3:Int) (h0:0<=c0/\c0<=255) (h1:0<=c1/\c1<=255) (h2:0<=c2/\c2<=255) (h3:0<=c3/\c3<=255) (w:World) :
  Calls Tryz.prog 91 #[.agg #[.int .u8 c0,.int .u8 c1,.int .u8 c2,.int .u8 c3]] w fun e w'=>e=.returned (.int .i64 (c0+c1*4096+c2*33554432+c3*1048576))/\w'=w.alloc (.cells #[.int .u8 c0,.int .u8 c1,.int .u8 c2,.int .u8 c3] 76):=by
 go_enter Tryz.func91,Tryz.ntmps91
 go_wp2
 go_ret
 exact⟨rfl,rfl⟩
end Go.Proofs.YtlbomnnldkeocaaGreat.W
namespace Go.Proofs.YtlbomnnldkeocaaGreat.Pl
def uU:Nat->Int->Int
 | 1,im=>(im / Pl.pw 0 % Pl.pw 0*1+im / Pl.pw 0 % Pl.pw 0*1+im / Pl.pw 0 % Pl.pw 0*1+im / Pl.pw 0 % Pl.pw 0*1:Int)
 | 2,im=>(im / Pl.pw 0 % Pl.pw 12*1048576+im / Pl.pw 0 % Pl.pw 0*1+im / Pl.pw 0 % Pl.pw 0*1+im / Pl.pw 0 % Pl.pw 0*1:Int)
 | 3,im=>(im / Pl.pw 0 % Pl.pw 5*1048576+im / Pl.pw 0 % Pl.pw 0*1+im / Pl.pw 0 % Pl.pw 0*1+im / Pl.pw 0 % Pl.pw 0*1:Int)
 | 4,im=>(im / Pl.pw 5 % Pl.pw 7*33554432+im / Pl.pw 0 % Pl.pw 5*128+im / Pl.pw 0 % Pl.pw 0*1+im / Pl.pw 0 % Pl.pw 0*1:Int)
 | 5,im=>(im / Pl.pw 12 % Pl.pw 1*2147483648+im / Pl.pw 5 % Pl.pw 6*33554432+im / Pl.pw 1 % Pl.pw 4*256+im / Pl.pw 11 % Pl.pw 1*128:Int)
 | 6,im=>(im / Pl.pw 0 % Pl.pw 20*4096+im / Pl.pw 0 % Pl.pw 0*1+im / Pl.pw 0 % Pl.pw 0*1+im / Pl.pw 0 % Pl.pw 0*1:Int)
 | 7,im=>(im / Pl.pw 20 % Pl.pw 1*2147483648+im / Pl.pw 1 % Pl.pw 10*2097152+im / Pl.pw 11 % Pl.pw 1*1048576+im / Pl.pw 12 % Pl.pw 8*4096:Int)
 | 8,im=>(im / Pl.pw 0 % Pl.pw 0*1+im / Pl.pw 0 % Pl.pw 0*1+im / Pl.pw 0 % Pl.pw 0*1+im / Pl.pw 0 % Pl.pw 0*1:Int)
 | _,_=>0
end Go.Proofs.YtlbomnnldkeocaaGreat.Pl
namespace Go.Proofs.YtlbomnnldkeocaaGreat.W
open Go.RowKit
theorem below_drewN' {B:Nat} {a w:World} (h:Below B a w) (m:Nat):Below B a (w.drewN m):=⟨h.os,h.tape,h.output,h.size,h.block⟩
theorem dN {k:IntKind} {a b:Int} (h:a=b):Value.int k a=Value.int k b:=by rw[h]
def V9 (im:Int) (v i:Value):Prop:=(i=.int .i64 0/\v=.int .i64 (0:Int))\/(i=.int .i64 1/\v=.int .i64 (im / Pl.pw 0 % Pl.pw 0*1:Int))\/(i=.int .i64 2/\v=.int .i64 (im / Pl.pw 0 % Pl.pw 0*1+im / Pl.pw 0 % Pl.pw 0*1:Int))\/(i=.int .i64 3/\v=.int .i64 (im / Pl.pw 0 % Pl.pw 0*1+im / Pl.pw 0 % Pl.pw 0*1+im / Pl.pw 0 % Pl.pw 0*1:Int))\/(i=.int .i64 4/\v=.int .i64 (im / Pl.pw 0 % Pl.pw 0*1+im / Pl.pw 0 % Pl.pw 0*1+im / Pl.pw 0 % Pl.pw 0*1+im / Pl.pw 0 % Pl.pw 0*1:Int))
theorem JC (im:Int) (n1 : -4611686018427387904<=im) (n2:im<=4611686018427387904) (w:World) :
  Calls Tryz.prog 92 #[.int .i64 im,.agg #[.bool true,.bool true,.bool true,.int .i64 0,.int .i64 0,.int .i64 1,.int .i64 0,.int .i64 0,.int .i64 0,.int .i64 0,.int .i64 0,.int .i64 0,.int .i64 0,.int .i64 0,.int .i64 0,.int .i64 0,.int .i64 0,.int .i64 0]] w fun e w'=>e=.returned (.int .i64 (Pl.uU 1 im))/\Below w.heap.size w w':=by
 have b0:0<=im / Pl.pw 0 % Pl.pw 0/\im / Pl.pw 0 % Pl.pw 0<=0:=by
  have h:=Int.emod_nonneg (im / Pl.pw 0) (Int.ne_of_gt (Pl.aJ 0))
  have h':=Int.emod_lt_of_pos (im / Pl.pw 0) (Pl.aJ 0)
  have e:Pl.pw 0=1:=by decide
  omega
 go_enter Tryz.func92,Tryz.ntmps92
 go_wp2
 go_loopw [5,10] (fun v i wr=>V9 im v i/\Below w.heap.size w wr) (fun _ i _=>4-(intOf i).toNat)
 case atStart=>exact⟨Or.inl ⟨rfl,rfl⟩,(Below.refl _ _).alloc (Nat.le_refl _) _⟩
 case round=>
  obtain⟨hI,hnx⟩:=hrel
  have HX:Hid (Below w.heap.size w wr):=hnx
  clear hnx
  rcases hI with ⟨rfl,rfl⟩ | ⟨rfl,rfl⟩ | ⟨rfl,rfl⟩ | ⟨rfl,rfl⟩ | ⟨rfl,rfl⟩
  ·have hi:∀ w,(Instr.index 84 (.agg #[.int .i64 0,.int .i64 0,.int .i64 0,.int .i64 0,.int .i64 0,.int .i64 0,.int .i64 0,.int .i64 0,.int .i64 0,.int .i64 0,.int .i64 0,.int .i64 0]) (.int .i64 0)).run Tryz.prog w=.ok (.agg #[.int .i64 0,.int .i64 0,.int .i64 0]) w:=fun _=>by kernel_rfl
   go_wp2_with fail
   go_quiet ((go_at_call 90;exact Calls.quiet_of (aW _ _ _ 0 0 rfl rfl (by decide) (by decide) n1 n2 _)))
   go_wp2
   go_roundw
   case rel=>exact⟨Or.inr (Or.inl ⟨rfl,dN (by omega)⟩),below_drewN' (HX.out.alloc HX.out.size _) _⟩
   case measure=>simp[intOf]
  ·have hi:∀ w,(Instr.index 84 (.agg #[.int .i64 0,.int .i64 0,.int .i64 0,.int .i64 0,.int .i64 0,.int .i64 0,.int .i64 0,.int .i64 0,.int .i64 0,.int .i64 0,.int .i64 0,.int .i64 0]) (.int .i64 1)).run Tryz.prog w=.ok (.agg #[.int .i64 0,.int .i64 0,.int .i64 0]) w:=fun _=>by kernel_rfl
   go_wp2_with fail
   go_quiet ((go_at_call 90;exact Calls.quiet_of (aW _ _ _ 0 0 rfl rfl (by decide) (by decide) n1 n2 _)))
   go_wp2
   go_roundw
   case rel=>exact⟨Or.inr (Or.inr (Or.inl ⟨rfl,dN (by omega)⟩)),below_drewN' (HX.out.alloc HX.out.size _) _⟩
   case measure=>simp[intOf]
  ·have hi:∀ w,(Instr.index 84 (.agg #[.int .i64 0,.int .i64 0,.int .i64 0,.int .i64 0,.int .i64 0,.int .i64 0,.int .i64 0,.int .i64 0,.int .i64 0,.int .i64 0,.int .i64 0,.int .i64 0]) (.int .i64 2)).run Tryz.prog w=.ok (.agg #[.int .i64 0,.int .i64 0,.int .i64 0]) w:=fun _=>by kernel_rfl
   go_wp2_with fail
   go_quiet ((go_at_call 90;exact Calls.quiet_of (aW _ _ _ 0 0 rfl rfl (by decide) (by decide) n1 n2 _)))
   go_wp2
   go_roundw
   case rel=>exact⟨Or.inr (Or.inr (Or.inr (Or.inl ⟨rfl,dN (by omega)⟩))),below_drewN' (HX.out.alloc HX.out.size _) _⟩
   case measure=>simp[intOf]
  ·have hi:∀ w,(Instr.index 84 (.agg #[.int .i64 0,.int .i64 0,.int .i64 0,.int .i64 0,.int .i64 0,.int .i64 0,.int .i64 0,.int .i64 0,.int .i64 0,.int .i64 0,.int .i64 0,.int .i64 0]) (.int .i64 3)).run Tryz.prog w=.ok (.agg #[.int .i64 0,.int .i64 0,.int .i64 0]) w:=fun _=>by kernel_rfl
   go_wp2_with fail
   go_quiet ((go_at_call 90;exact Calls.quiet_of (aW _ _ _ 0 0 rfl rfl (by decide) (by decide) n1 n2 _)))
   go_wp2
   go_roundw
   case rel=>exact⟨Or.inr (Or.inr (Or.inr (Or.inr (⟨rfl,dN (by omega)⟩)))),below_drewN' (HX.out.alloc HX.out.size _) _⟩
   case measure=>simp[intOf]
  ·go_wp2
   go_ret
   exact⟨rfl,HX.out⟩
def W9 (im:Int) (v i:Value):Prop:=(i=.int .i64 0/\v=.int .i64 (0:Int))\/(i=.int .i64 1/\v=.int .i64 (im / Pl.pw 0 % Pl.pw 12*1048576:Int))\/(i=.int .i64 2/\v=.int .i64 (im / Pl.pw 0 % Pl.pw 12*1048576+im / Pl.pw 0 % Pl.pw 0*1:Int))\/(i=.int .i64 3/\v=.int .i64 (im / Pl.pw 0 % Pl.pw 12*1048576+im / Pl.pw 0 % Pl.pw 0*1+im / Pl.pw 0 % Pl.pw 0*1:Int))\/(i=.int .i64 4/\v=.int .i64 (im / Pl.pw 0 % Pl.pw 12*1048576+im / Pl.pw 0 % Pl.pw 0*1+im / Pl.pw 0 % Pl.pw 0*1+im / Pl.pw 0 % Pl.pw 0*1:Int))
theorem JD (im:Int) (n1 : -4611686018427387904<=im) (n2:im<=4611686018427387904) (w:World) :
  Calls Tryz.prog 92 #[.int .i64 im,.agg #[.bool true,.bool true,.bool false,.int .i64 (-2048),.int .i64 2047,.int .i64 1,.int .i64 0,.int .i64 12,.int .i64 20,.int .i64 0,.int .i64 0,.int .i64 0,.int .i64 0,.int .i64 0,.int .i64 0,.int .i64 0,.int .i64 0,.int .i64 0]] w fun e w'=>e=.returned (.int .i64 (Pl.uU 2 im))/\Below w.heap.size w w':=by
 have b0:0<=im / Pl.pw 0 % Pl.pw 12/\im / Pl.pw 0 % Pl.pw 12<=4095:=by
  have h:=Int.emod_nonneg (im / Pl.pw 0) (Int.ne_of_gt (Pl.aJ 12))
  have h':=Int.emod_lt_of_pos (im / Pl.pw 0) (Pl.aJ 12)
  have e:Pl.pw 12=4096:=by decide
  omega
 have b1:0<=im / Pl.pw 0 % Pl.pw 0/\im / Pl.pw 0 % Pl.pw 0<=0:=by
  have h:=Int.emod_nonneg (im / Pl.pw 0) (Int.ne_of_gt (Pl.aJ 0))
  have h':=Int.emod_lt_of_pos (im / Pl.pw 0) (Pl.aJ 0)
  have e:Pl.pw 0=1:=by decide
  omega
 go_enter Tryz.func92,Tryz.ntmps92
 go_wp2
 go_loopw [5,10] (fun v i wr=>W9 im v i/\Below w.heap.size w wr) (fun _ i _=>4-(intOf i).toNat)
 case atStart=>exact⟨Or.inl ⟨rfl,rfl⟩,(Below.refl _ _).alloc (Nat.le_refl _) _⟩
 case round=>
  obtain⟨hI,hnx⟩:=hrel
  have HX:Hid (Below w.heap.size w wr):=hnx
  clear hnx
  rcases hI with ⟨rfl,rfl⟩ | ⟨rfl,rfl⟩ | ⟨rfl,rfl⟩ | ⟨rfl,rfl⟩ | ⟨rfl,rfl⟩
  ·have hi:∀ w,(Instr.index 84 (.agg #[.int .i64 0,.int .i64 12,.int .i64 20,.int .i64 0,.int .i64 0,.int .i64 0,.int .i64 0,.int .i64 0,.int .i64 0,.int .i64 0,.int .i64 0,.int .i64 0]) (.int .i64 0)).run Tryz.prog w=.ok (.agg #[.int .i64 0,.int .i64 12,.int .i64 20]) w:=fun _=>by kernel_rfl
   go_wp2_with fail
   go_quiet ((go_at_call 90;exact Calls.quiet_of (aW _ _ _ 0 12 rfl rfl (by decide) (by decide) n1 n2 _)))
   go_wp2
   go_roundw
   case rel=>exact⟨Or.inr (Or.inl ⟨rfl,dN (by omega)⟩),below_drewN' (HX.out.alloc HX.out.size _) _⟩
   case measure=>simp[intOf]
  ·have hi:∀ w,(Instr.index 84 (.agg #[.int .i64 0,.int .i64 12,.int .i64 20,.int .i64 0,.int .i64 0,.int .i64 0,.int .i64 0,.int .i64 0,.int .i64 0,.int .i64 0,.int .i64 0,.int .i64 0]) (.int .i64 1)).run Tryz.prog w=.ok (.agg #[.int .i64 0,.int .i64 0,.int .i64 0]) w:=fun _=>by kernel_rfl
   go_wp2_with fail
   go_quiet ((go_at_call 90;exact Calls.quiet_of (aW _ _ _ 0 0 rfl rfl (by decide) (by decide) n1 n2 _)))
   go_wp2
   go_roundw
   case rel=>exact⟨Or.inr (Or.inr (Or.inl ⟨rfl,dN (by omega)⟩)),below_drewN' (HX.out.alloc HX.out.size _) _⟩
   case measure=>simp[intOf]
  ·have hi:∀ w,(Instr.index 84 (.agg #[.int .i64 0,.int .i64 12,.int .i64 20,.int .i64 0,.int .i64 0,.int .i64 0,.int .i64 0,.int .i64 0,.int .i64 0,.int .i64 0,.int .i64 0,.int .i64 0]) (.int .i64 2)).run Tryz.prog w=.ok (.agg #[.int .i64 0,.int .i64 0,.int .i64 0]) w:=fun _=>by kernel_rfl
   go_wp2_with fail
   go_quiet ((go_at_call 90;exact Calls.quiet_of (aW _ _ _ 0 0 rfl rfl (by decide) (by decide) n1 n2 _)))
   go_wp2
   go_roundw
   case rel=>exact⟨Or.inr (Or.inr (Or.inr (Or.inl ⟨rfl,dN (by omega)⟩))),below_drewN' (HX.out.alloc HX.out.size _) _⟩
   case measure=>simp[intOf]
  ·have hi:∀ w,(Instr.index 84 (.agg #[.int .i64 0,.int .i64 12,.int .i64 20,.int .i64 0,.int .i64 0,.int .i64 0,.int .i64 0,.int .i64 0,.int .i64 0,.int .i64 0,.int .i64 0,.int .i64 0]) (.int .i64 3)).run Tryz.prog w=.ok (.agg #[.int .i64 0,.int .i64 0,.int .i64 0]) w:=fun _=>by kernel_rfl
   go_wp2_with fail
   go_quiet ((go_at_call 90;exact Calls.quiet_of (aW _ _ _ 0 0 rfl rfl (by decide) (by decide) n1 n2 _)))
   go_wp2
   go_roundw
   case rel=>exact⟨Or.inr (Or.inr (Or.inr (Or.inr (⟨rfl,dN (by omega)⟩)))),below_drewN' (HX.out.alloc HX.out.size _) _⟩
   case measure=>simp[intOf]
  ·go_wp2
   go_ret
   exact⟨rfl,HX.out⟩
def X9 (im:Int) (v i:Value):Prop:=(i=.int .i64 0/\v=.int .i64 (0:Int))\/(i=.int .i64 1/\v=.int .i64 (im / Pl.pw 0 % Pl.pw 5*1048576:Int))\/(i=.int .i64 2/\v=.int .i64 (im / Pl.pw 0 % Pl.pw 5*1048576+im / Pl.pw 0 % Pl.pw 0*1:Int))\/(i=.int .i64 3/\v=.int .i64 (im / Pl.pw 0 % Pl.pw 5*1048576+im / Pl.pw 0 % Pl.pw 0*1+im / Pl.pw 0 % Pl.pw 0*1:Int))\/(i=.int .i64 4/\v=.int .i64 (im / Pl.pw 0 % Pl.pw 5*1048576+im / Pl.pw 0 % Pl.pw 0*1+im / Pl.pw 0 % Pl.pw 0*1+im / Pl.pw 0 % Pl.pw 0*1:Int))
theorem JE (im:Int) (n1 : -4611686018427387904<=im) (n2:im<=4611686018427387904) (w:World) :
  Calls Tryz.prog 92 #[.int .i64 im,.agg #[.bool true,.bool true,.bool false,.int .i64 0,.int .i64 31,.int .i64 1,.int .i64 0,.int .i64 5,.int .i64 20,.int .i64 0,.int .i64 0,.int .i64 0,.int .i64 0,.int .i64 0,.int .i64 0,.int .i64 0,.int .i64 0,.int .i64 0]] w fun e w'=>e=.returned (.int .i64 (Pl.uU 3 im))/\Below w.heap.size w w':=by
 have b0:0<=im / Pl.pw 0 % Pl.pw 5/\im / Pl.pw 0 % Pl.pw 5<=31:=by
  have h:=Int.emod_nonneg (im / Pl.pw 0) (Int.ne_of_gt (Pl.aJ 5))
  have h':=Int.emod_lt_of_pos (im / Pl.pw 0) (Pl.aJ 5)
  have e:Pl.pw 5=32:=by decide
  omega
 have b1:0<=im / Pl.pw 0 % Pl.pw 0/\im / Pl.pw 0 % Pl.pw 0<=0:=by
  have h:=Int.emod_nonneg (im / Pl.pw 0) (Int.ne_of_gt (Pl.aJ 0))
  have h':=Int.emod_lt_of_pos (im / Pl.pw 0) (Pl.aJ 0)
  have e:Pl.pw 0=1:=by decide
  omega
 go_enter Tryz.func92,Tryz.ntmps92
 go_wp2
 go_loopw [5,10] (fun v i wr=>X9 im v i/\Below w.heap.size w wr) (fun _ i _=>4-(intOf i).toNat)
 case atStart=>exact⟨Or.inl ⟨rfl,rfl⟩,(Below.refl _ _).alloc (Nat.le_refl _) _⟩
 case round=>
  obtain⟨hI,hnx⟩:=hrel
  have HX:Hid (Below w.heap.size w wr):=hnx
  clear hnx
  rcases hI with ⟨rfl,rfl⟩ | ⟨rfl,rfl⟩ | ⟨rfl,rfl⟩ | ⟨rfl,rfl⟩ | ⟨rfl,rfl⟩
  ·have hi:∀ w,(Instr.index 84 (.agg #[.int .i64 0,.int .i64 5,.int .i64 20,.int .i64 0,.int .i64 0,.int .i64 0,.int .i64 0,.int .i64 0,.int .i64 0,.int .i64 0,.int .i64 0,.int .i64 0]) (.int .i64 0)).run Tryz.prog w=.ok (.agg #[.int .i64 0,.int .i64 5,.int .i64 20]) w:=fun _=>by kernel_rfl
   go_wp2_with fail
   go_quiet ((go_at_call 90;exact Calls.quiet_of (aW _ _ _ 0 5 rfl rfl (by decide) (by decide) n1 n2 _)))
   go_wp2
   go_roundw
   case rel=>exact⟨Or.inr (Or.inl ⟨rfl,dN (by omega)⟩),below_drewN' (HX.out.alloc HX.out.size _) _⟩
   case measure=>simp[intOf]
  ·have hi:∀ w,(Instr.index 84 (.agg #[.int .i64 0,.int .i64 5,.int .i64 20,.int .i64 0,.int .i64 0,.int .i64 0,.int .i64 0,.int .i64 0,.int .i64 0,.int .i64 0,.int .i64 0,.int .i64 0]) (.int .i64 1)).run Tryz.prog w=.ok (.agg #[.int .i64 0,.int .i64 0,.int .i64 0]) w:=fun _=>by kernel_rfl
   go_wp2_with fail
   go_quiet ((go_at_call 90;exact Calls.quiet_of (aW _ _ _ 0 0 rfl rfl (by decide) (by decide) n1 n2 _)))
   go_wp2
   go_roundw
   case rel=>exact⟨Or.inr (Or.inr (Or.inl ⟨rfl,dN (by omega)⟩)),below_drewN' (HX.out.alloc HX.out.size _) _⟩
   case measure=>simp[intOf]
  ·have hi:∀ w,(Instr.index 84 (.agg #[.int .i64 0,.int .i64 5,.int .i64 20,.int .i64 0,.int .i64 0,.int .i64 0,.int .i64 0,.int .i64 0,.int .i64 0,.int .i64 0,.int .i64 0,.int .i64 0]) (.int .i64 2)).run Tryz.prog w=.ok (.agg #[.int .i64 0,.int .i64 0,.int .i64 0]) w:=fun _=>by kernel_rfl
   go_wp2_with fail
   go_quiet ((go_at_call 90;exact Calls.quiet_of (aW _ _ _ 0 0 rfl rfl (by decide) (by decide) n1 n2 _)))
   go_wp2
   go_roundw
   case rel=>exact⟨Or.inr (Or.inr (Or.inr (Or.inl ⟨rfl,dN (by omega)⟩))),below_drewN' (HX.out.alloc HX.out.size _) _⟩
   case measure=>simp[intOf]
  ·have hi:∀ w,(Instr.index 84 (.agg #[.int .i64 0,.int .i64 5,.int .i64 20,.int .i64 0,.int .i64 0,.int .i64 0,.int .i64 0,.int .i64 0,.int .i64 0,.int .i64 0,.int .i64 0,.int .i64 0]) (.int .i64 3)).run Tryz.prog w=.ok (.agg #[.int .i64 0,.int .i64 0,.int .i64 0]) w:=fun _=>by kernel_rfl
   go_wp2_with fail
   go_quiet ((go_at_call 90;exact Calls.quiet_of (aW _ _ _ 0 0 rfl rfl (by decide) (by decide) n1 n2 _)))
   go_wp2
   go_roundw
   case rel=>exact⟨Or.inr (Or.inr (Or.inr (Or.inr (⟨rfl,dN (by omega)⟩)))),below_drewN' (HX.out.alloc HX.out.size _) _⟩
   case measure=>simp[intOf]
  ·go_wp2
   go_ret
   exact⟨rfl,HX.out⟩
def Y0 (im:Int) (v i:Value):Prop:=(i=.int .i64 0/\v=.int .i64 (0:Int))\/(i=.int .i64 1/\v=.int .i64 (im / Pl.pw 5 % Pl.pw 7*33554432:Int))\/(i=.int .i64 2/\v=.int .i64 (im / Pl.pw 5 % Pl.pw 7*33554432+im / Pl.pw 0 % Pl.pw 5*128:Int))\/(i=.int .i64 3/\v=.int .i64 (im / Pl.pw 5 % Pl.pw 7*33554432+im / Pl.pw 0 % Pl.pw 5*128+im / Pl.pw 0 % Pl.pw 0*1:Int))\/(i=.int .i64 4/\v=.int .i64 (im / Pl.pw 5 % Pl.pw 7*33554432+im / Pl.pw 0 % Pl.pw 5*128+im / Pl.pw 0 % Pl.pw 0*1+im / Pl.pw 0 % Pl.pw 0*1:Int))
theorem JF (im:Int) (n1 : -4611686018427387904<=im) (n2:im<=4611686018427387904) (w:World) :
  Calls Tryz.prog 92 #[.int .i64 im,.agg #[.bool false,.bool true,.bool true,.int .i64 (-2048),.int .i64 2047,.int .i64 1,.int .i64 5,.int .i64 7,.int .i64 25,.int .i64 0,.int .i64 5,.int .i64 7,.int .i64 0,.int .i64 0,.int .i64 0,.int .i64 0,.int .i64 0,.int .i64 0]] w fun e w'=>e=.returned (.int .i64 (Pl.uU 4 im))/\Below w.heap.size w w':=by
 have b0:0<=im / Pl.pw 5 % Pl.pw 7/\im / Pl.pw 5 % Pl.pw 7<=127:=by
  have h:=Int.emod_nonneg (im / Pl.pw 5) (Int.ne_of_gt (Pl.aJ 7))
  have h':=Int.emod_lt_of_pos (im / Pl.pw 5) (Pl.aJ 7)
  have e:Pl.pw 7=128:=by decide
  omega
 have b1:0<=im / Pl.pw 0 % Pl.pw 5/\im / Pl.pw 0 % Pl.pw 5<=31:=by
  have h:=Int.emod_nonneg (im / Pl.pw 0) (Int.ne_of_gt (Pl.aJ 5))
  have h':=Int.emod_lt_of_pos (im / Pl.pw 0) (Pl.aJ 5)
  have e:Pl.pw 5=32:=by decide
  omega
 have b2:0<=im / Pl.pw 0 % Pl.pw 0/\im / Pl.pw 0 % Pl.pw 0<=0:=by
  have h:=Int.emod_nonneg (im / Pl.pw 0) (Int.ne_of_gt (Pl.aJ 0))
  have h':=Int.emod_lt_of_pos (im / Pl.pw 0) (Pl.aJ 0)
  have e:Pl.pw 0=1:=by decide
  omega
 go_enter Tryz.func92,Tryz.ntmps92
 go_wp2
 go_loopw [5,10] (fun v i wr=>Y0 im v i/\Below w.heap.size w wr) (fun _ i _=>4-(intOf i).toNat)
 case atStart=>exact⟨Or.inl ⟨rfl,rfl⟩,(Below.refl _ _).alloc (Nat.le_refl _) _⟩
 case round=>
  obtain⟨hI,hnx⟩:=hrel
  have HX:Hid (Below w.heap.size w wr):=hnx
  clear hnx
  rcases hI with ⟨rfl,rfl⟩ | ⟨rfl,rfl⟩ | ⟨rfl,rfl⟩ | ⟨rfl,rfl⟩ | ⟨rfl,rfl⟩
  ·have hi:∀ w,(Instr.index 84 (.agg #[.int .i64 5,.int .i64 7,.int .i64 25,.int .i64 0,.int .i64 5,.int .i64 7,.int .i64 0,.int .i64 0,.int .i64 0,.int .i64 0,.int .i64 0,.int .i64 0]) (.int .i64 0)).run Tryz.prog w=.ok (.agg #[.int .i64 5,.int .i64 7,.int .i64 25]) w:=fun _=>by kernel_rfl
   go_wp2_with fail
   go_quiet ((go_at_call 90;exact Calls.quiet_of (aW _ _ _ 5 7 rfl rfl (by decide) (by decide) n1 n2 _)))
   go_wp2
   go_roundw
   case rel=>exact⟨Or.inr (Or.inl ⟨rfl,dN (by omega)⟩),below_drewN' (HX.out.alloc HX.out.size _) _⟩
   case measure=>simp[intOf]
  ·have hi:∀ w,(Instr.index 84 (.agg #[.int .i64 5,.int .i64 7,.int .i64 25,.int .i64 0,.int .i64 5,.int .i64 7,.int .i64 0,.int .i64 0,.int .i64 0,.int .i64 0,.int .i64 0,.int .i64 0]) (.int .i64 1)).run Tryz.prog w=.ok (.agg #[.int .i64 0,.int .i64 5,.int .i64 7]) w:=fun _=>by kernel_rfl
   go_wp2_with fail
   go_quiet ((go_at_call 90;exact Calls.quiet_of (aW _ _ _ 0 5 rfl rfl (by decide) (by decide) n1 n2 _)))
   go_wp2
   go_roundw
   case rel=>exact⟨Or.inr (Or.inr (Or.inl ⟨rfl,dN (by omega)⟩)),below_drewN' (HX.out.alloc HX.out.size _) _⟩
   case measure=>simp[intOf]
  ·have hi:∀ w,(Instr.index 84 (.agg #[.int .i64 5,.int .i64 7,.int .i64 25,.int .i64 0,.int .i64 5,.int .i64 7,.int .i64 0,.int .i64 0,.int .i64 0,.int .i64 0,.int .i64 0,.int .i64 0]) (.int .i64 2)).run Tryz.prog w=.ok (.agg #[.int .i64 0,.int .i64 0,.int .i64 0]) w:=fun _=>by kernel_rfl
   go_wp2_with fail
   go_quiet ((go_at_call 90;exact Calls.quiet_of (aW _ _ _ 0 0 rfl rfl (by decide) (by decide) n1 n2 _)))
   go_wp2
   go_roundw
   case rel=>exact⟨Or.inr (Or.inr (Or.inr (Or.inl ⟨rfl,dN (by omega)⟩))),below_drewN' (HX.out.alloc HX.out.size _) _⟩
   case measure=>simp[intOf]
  ·have hi:∀ w,(Instr.index 84 (.agg #[.int .i64 5,.int .i64 7,.int .i64 25,.int .i64 0,.int .i64 5,.int .i64 7,.int .i64 0,.int .i64 0,.int .i64 0,.int .i64 0,.int .i64 0,.int .i64 0]) (.int .i64 3)).run Tryz.prog w=.ok (.agg #[.int .i64 0,.int .i64 0,.int .i64 0]) w:=fun _=>by kernel_rfl
   go_wp2_with fail
   go_quiet ((go_at_call 90;exact Calls.quiet_of (aW _ _ _ 0 0 rfl rfl (by decide) (by decide) n1 n2 _)))
   go_wp2
   go_roundw
   case rel=>exact⟨Or.inr (Or.inr (Or.inr (Or.inr (⟨rfl,dN (by omega)⟩)))),below_drewN' (HX.out.alloc HX.out.size _) _⟩
   case measure=>simp[intOf]
  ·go_wp2
   go_ret
   exact⟨rfl,HX.out⟩
end Go.Proofs.YtlbomnnldkeocaaGreat.W
