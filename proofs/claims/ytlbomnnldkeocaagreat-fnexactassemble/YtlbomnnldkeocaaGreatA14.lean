import Derived.Test.YtlbomnnldkeocaaGreatA13
set_option linter.unusedVariables false
set_option maxHeartbeats 16000000
namespace Go.Proofs.YtlbomnnldkeocaaGreat.Pl
def rf (f:Nat) (w:Int):Nat->Int
 | 0=>w % 128
 | 1=>if f=6\/f=7 then 0 else w / 4096 % 8
 | 2=>if f=1\/f=3\/f=8 then w / 33554432 % 128 else 0
 | 3=>if f=8 then w / 1048576 % 32 else 0
 | _=>0
def b1 (f:Nat):Bool:=!(f == 6 || f == 7)
def b2 (f:Nat):Bool:=f == 1 || f == 3 || f == 8
def b3 (f:Nat):Bool:=f == 8
end Go.Proofs.YtlbomnnldkeocaaGreat.Pl
namespace Go.Proofs.YtlbomnnldkeocaaGreat.W
open Go.RowKit
theorem keep_other {U:World} {g b i:Nat} {o:Obj} {v:Value} (h:U.heap[g]?=some o) (hg:g≠b):(U.setCell ⟨b,i,none⟩ v).heap[g]?=some o:=(Below.heap_setCell U ⟨b,i,none⟩ v g hg).trans h
end Go.Proofs.YtlbomnnldkeocaaGreat.W
