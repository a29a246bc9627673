import Derived.Test.YtlbomnnldkeocaaGreatI11
import Derived.Test.YtlbomnnldkeocaaGreatI12
set_option linter.unusedVariables false
set_option maxHeartbeats 16000000
namespace Go.Proofs.YtlbomnnldkeocaaGreat.W
open Go.RowKit
theorem bH {w u:World} {cs:Array Value} {t:TypeId} (hb:Below (w.alloc (.cells cs t)).heap.size (w.alloc (.cells cs t)) u):u.heap[w.heap.size]?=some (.cells cs t):=by
 rw[hb.block _ (by simp)];exact heap_alloc_new w _
theorem zQ (k:Nat) (h1:1<=k) (h2:k<=47) (rd r1 r2 im:Int) (w:World):Calls Tryz.prog 61 #[.agg #[.int .i64 k,.int .i64 rd,.int .i64 r1,.int .i64 r2,.int .i64 im]] w fun e w'=>e=.returned (.bool (Pl.okF (Pl.dC k) rd r1 r2 im))/\Below w.heap.size w w':=by
 obtain⟨f1,f2,_⟩:=xY k h1 h2
 exact yA k _ h1 h2 f1 f2 (show Pl.dC k=Pl.dC k from rfl) rd r1 r2 im w
def lU (n rd r1 r2 im:Int):Bool:=decide (1<=n/\n<=47) && Pl.okF (Pl.dC n.toNat) rd r1 r2 im
theorem bS (n rd r1 r2 im:Int) (w:World):Calls Tryz.prog 61 #[.agg #[.int .i64 n,.int .i64 rd,.int .i64 r1,.int .i64 r2,.int .i64 im]] w fun e w'=>e=.returned (.bool (lU n rd r1 r2 im))/\Below w.heap.size w w':=by
 by_cases h:1<=n/\n<=47
 ·obtain⟨k,rfl⟩:∃ k:Nat,n=k:=⟨n.toNat,by omega⟩
  have e:lU (k:Int) rd r1 r2 im=Pl.okF (Pl.dC k) rd r1 r2 im:=by simp[lU];intro;omega
  rw[e];exact zQ k (by omega) (by omega) rd r1 r2 im w
 ·have e:lU n rd r1 r2 im=false:=by simp[lU];intro h1 h2;omega
  rw[e];exact zP n (by omega) rd r1 r2 im w
theorem kM (n rd r1 r2 im:Int) (w:World):Calls Tryz.prog 84 #[.agg #[.int .i64 n,.int .i64 rd,.int .i64 r1,.int .i64 r2,.int .i64 im]] w fun e w'=>e=.returned (.bool (lU n rd r1 r2 im))/\Below w.heap.size w w':=by
 by_cases h:1<=n/\n<=47
 ·obtain⟨k,rfl⟩:∃ k:Nat,n=k:=⟨n.toNat,by omega⟩
  have e:lU (k:Int) rd r1 r2 im=Pl.okF (Pl.dC k) rd r1 r2 im:=by simp[lU];intro;omega
  rw[e];exact xZ k (by omega) (by omega) rd r1 r2 im w
 ·have e:lU n rd r1 r2 im=false:=by simp[lU];intro h1 h2;omega
  rw[e];exact zK n (by omega) rd r1 r2 im w
end Go.Proofs.YtlbomnnldkeocaaGreat.W
