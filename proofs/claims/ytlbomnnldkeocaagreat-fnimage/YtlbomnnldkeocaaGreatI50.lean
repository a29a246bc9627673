import Derived.Test.YtlbomnnldkeocaaGreatI04
import Derived.Laws.AppendOwnNone
import Derived.Lib.SliceRun
set_option linter.unusedVariables false
set_option maxHeartbeats 16000000
namespace Go.Proofs.YtlbomnnldkeocaaGreat.W
open Go.RowKit
structure Touch (a:Option Addr) (w w':World):Prop where
 os:w'.os=w.os
 tape:w'.tape=w.tape
 output:w'.output=w.output
 size:w'.heap.size=w.heap.size
 block:∀ k,(∀ ad,a=some ad->k≠ad.block)->w'.heap[k]?=w.heap[k]?
theorem Touch.refl (a:Option Addr) (w:World):Touch a w w:=⟨rfl,rfl,rfl,rfl,fun _ _=>rfl⟩
theorem Touch.setCell {a:Option Addr} {w u:World} (h:Touch a w u) {g:Nat} (hp:a=some ⟨g,0,none⟩) (x:Value) {i:Nat}:Touch a w (u.setCell ⟨g,i,none⟩ x):=
 ⟨h.os,h.tape,h.output,by simpa using h.size,fun k hk=>(Below.heap_setCell u ⟨g,i,none⟩ x k (show k≠g from hk ⟨g,0,none⟩ hp)).trans (h.block k hk)⟩
end Go.Proofs.YtlbomnnldkeocaaGreat.W
