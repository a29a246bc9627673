import Derived.Test.YtlbomnnldkeocaaGreatI26
import Derived.Deep.Cut
import Derived.Deep.Light
set_option linter.unusedVariables false
set_option linter.unusedSimpArgs false
set_option maxHeartbeats 16000000
namespace Go.Proofs.YtlbomnnldkeocaaGreat.W
open Go.RowKit
theorem JX (op rd r1 r2 im n:Int) (s:ByteArray) (w:World):Calls Tryz.prog 73 #[.agg #[.int .i64 9,.int .i64 op,.int .i64 rd,.int .i64 r1,.int .i64 r2,.int .i64 im,.string s,.int .i64 n]] w fun e w'=>e=.returned (.bool (Pl.sy s false && decide (0<=n/\n<=0) && (Pl.aG op rd r1 r2 im false false)))/\Below w.heap.size w w':=by
 obtain⟨R,hR⟩:∃ R,R=(Pl.sy s false && decide (0<=n/\n<=0) && (Pl.aG op rd r1 r2 im false false)):=⟨_,rfl⟩
 rw[<- hR]
 have HR:Hid (R=(Pl.sy s false && decide (0<=n/\n<=0) && (Pl.aG op rd r1 r2 im false false))):=hR
 clear hR
 go_enter Tryz.func73,Tryz.ntmps73
 go_wp2_with fail
 refine (Dr op rd r1 r2 im n s _).mono ?_
 rintro e u1 ⟨rfl,d1⟩
 have hr:=bH d1
 have B1:Below w.heap.size w u1:=((Below.refl _ _).alloc (Nat.le_refl _) _).trans (d1.mono (by simp))
 have Z1:w.heap.size<u1.heap.size:=by have:=d1.size;simp at this;omega
 clear d1
 go_upto_region 2 with fail
 obtain⟨u2,hu2⟩:∃ u,u1.alloc (.cells #[.bool false,.bool false,.bool false,.int .i64 0,.int .i64 0] 139)=u:=⟨_,rfl⟩
 rw[hu2]
 have BB:Below u1.heap.size u1 u2:=by rw[<- hu2];exact (Below.refl _ _).alloc (Nat.le_refl _) _
 have kl:∀ j,u2.cell? ⟨w.heap.size,j,none⟩=(#[.int .i64 9,.int .i64 op,.int .i64 rd,.int .i64 r1,.int .i64 r2,.int .i64 im,.string s,.int .i64 n]:Array Value)[j]?:=fun j=>cell_of_row u2 w.heap.size j _ 51 (0,0) ((BB.block _ Z1).trans hr)
 have kr:∀ j,u2.cell? ⟨u1.heap.size,j,none⟩=(#[.bool false,.bool false,.bool false,.int .i64 0,.int .i64 0]:Array Value)[j]?:=fun j=>cell_of_row u2 u1.heap.size j _ 139 (0,0) (by rw[<- hu2];exact heap_alloc_new u1 _)
 have B2:Hid (Below w.heap.size w u2):=B1.trans (BB.mono B1.size)
 have Z2:Hid (w.heap.size<u2.heap.size):=Nat.lt_of_lt_of_le Z1 BB.size
 clear hu2 BB hr B1 Z1
 cases hsy:Pl.sy s false
 all_goals
  go_wp2_with (first | (go_at_call 110;refine (dV _ _ _).mono ?_;rintro e u3 ⟨rfl,h3⟩; rw[h3,hsy];clear h3) | (go_at_call 112;refine (dF _ _ _).mono ?_;rintro e u3 ⟨rfl,h3⟩; rw[h3];clear h3))
  all_goals
   go_ret
   refine⟨aI (Eq.trans ?_ HR.out.symm),B2.out⟩
   go_light
   clear kl kr HR
   first
    | (rw[hsy];rfl)
    | (rw[decide_eq_false (p:=0<=n/\n<=0) (by omega)];simp)
    | (rw[hsy,decide_eq_true (p:=0<=n/\n<=0) (by omega)];simp_all [Pl.aG];done)
    | (rw[hsy,decide_eq_true (p:=0<=n/\n<=0) (by omega)];simp_all [Pl.aG,Pl.rg] <;> omega)
theorem FK (op rd r1 r2 im n:Int) (s:ByteArray) (w:World):Calls Tryz.prog 73 #[.agg #[.int .i64 10,.int .i64 op,.int .i64 rd,.int .i64 r1,.int .i64 r2,.int .i64 im,.string s,.int .i64 n]] w fun e w'=>e=.returned (.bool (Pl.sy s false && decide (0<=n/\n<=0) && (Pl.aG op rd r1 r2 im false false)))/\Below w.heap.size w w':=by
 obtain⟨R,hR⟩:∃ R,R=(Pl.sy s false && decide (0<=n/\n<=0) && (Pl.aG op rd r1 r2 im false false)):=⟨_,rfl⟩
 rw[<- hR]
 have HR:Hid (R=(Pl.sy s false && decide (0<=n/\n<=0) && (Pl.aG op rd r1 r2 im false false))):=hR
 clear hR
 go_enter Tryz.func73,Tryz.ntmps73
 go_wp2_with fail
 refine (WV op rd r1 r2 im n s _).mono ?_
 rintro e u1 ⟨rfl,d1⟩
 have hr:=bH d1
 have B1:Below w.heap.size w u1:=((Below.refl _ _).alloc (Nat.le_refl _) _).trans (d1.mono (by simp))
 have Z1:w.heap.size<u1.heap.size:=by have:=d1.size;simp at this;omega
 clear d1
 go_upto_region 2 with fail
 obtain⟨u2,hu2⟩:∃ u,u1.alloc (.cells #[.bool false,.bool false,.bool false,.int .i64 0,.int .i64 0] 139)=u:=⟨_,rfl⟩
 rw[hu2]
 have BB:Below u1.heap.size u1 u2:=by rw[<- hu2];exact (Below.refl _ _).alloc (Nat.le_refl _) _
 have kl:∀ j,u2.cell? ⟨w.heap.size,j,none⟩=(#[.int .i64 10,.int .i64 op,.int .i64 rd,.int .i64 r1,.int .i64 r2,.int .i64 im,.string s,.int .i64 n]:Array Value)[j]?:=fun j=>cell_of_row u2 w.heap.size j _ 51 (0,0) ((BB.block _ Z1).trans hr)
 have kr:∀ j,u2.cell? ⟨u1.heap.size,j,none⟩=(#[.bool false,.bool false,.bool false,.int .i64 0,.int .i64 0]:Array Value)[j]?:=fun j=>cell_of_row u2 u1.heap.size j _ 139 (0,0) (by rw[<- hu2];exact heap_alloc_new u1 _)
 have B2:Hid (Below w.heap.size w u2):=B1.trans (BB.mono B1.size)
 have Z2:Hid (w.heap.size<u2.heap.size):=Nat.lt_of_lt_of_le Z1 BB.size
 clear hu2 BB hr B1 Z1
 cases hsy:Pl.sy s false
 all_goals
  go_wp2_with (first | (go_at_call 110;refine (dV _ _ _).mono ?_;rintro e u3 ⟨rfl,h3⟩; rw[h3,hsy];clear h3) | (go_at_call 112;refine (dF _ _ _).mono ?_;rintro e u3 ⟨rfl,h3⟩; rw[h3];clear h3))
  all_goals
   go_ret
   refine⟨aI (Eq.trans ?_ HR.out.symm),B2.out⟩
   go_light
   clear kl kr HR
   first
    | (rw[hsy];rfl)
    | (rw[decide_eq_false (p:=0<=n/\n<=0) (by omega)];simp)
    | (rw[hsy,decide_eq_true (p:=0<=n/\n<=0) (by omega)];simp_all [Pl.aG];done)
    | (rw[hsy,decide_eq_true (p:=0<=n/\n<=0) (by omega)];simp_all [Pl.aG,Pl.rg] <;> omega)
theorem FL (op rd r1 r2 im n:Int) (s:ByteArray) (w:World):Calls Tryz.prog 73 #[.agg #[.int .i64 11,.int .i64 op,.int .i64 rd,.int .i64 r1,.int .i64 r2,.int .i64 im,.string s,.int .i64 n]] w fun e w'=>e=.returned (.bool (Pl.sy s false && decide (0<=n/\n<=0) && (Pl.aG op rd r1 r2 im false false)))/\Below w.heap.size w w':=by
 obtain⟨R,hR⟩:∃ R,R=(Pl.sy s false && decide (0<=n/\n<=0) && (Pl.aG op rd r1 r2 im false false)):=⟨_,rfl⟩
 rw[<- hR]
 have HR:Hid (R=(Pl.sy s false && decide (0<=n/\n<=0) && (Pl.aG op rd r1 r2 im false false))):=hR
 clear hR
 go_enter Tryz.func73,Tryz.ntmps73
 go_wp2_with fail
 refine (WW op rd r1 r2 im n s _).mono ?_
 rintro e u1 ⟨rfl,d1⟩
 have hr:=bH d1
 have B1:Below w.heap.size w u1:=((Below.refl _ _).alloc (Nat.le_refl _) _).trans (d1.mono (by simp))
 have Z1:w.heap.size<u1.heap.size:=by have:=d1.size;simp at this;omega
 clear d1
 go_upto_region 2 with fail
 obtain⟨u2,hu2⟩:∃ u,u1.alloc (.cells #[.bool false,.bool false,.bool false,.int .i64 0,.int .i64 0] 139)=u:=⟨_,rfl⟩
 rw[hu2]
 have BB:Below u1.heap.size u1 u2:=by rw[<- hu2];exact (Below.refl _ _).alloc (Nat.le_refl _) _
 have kl:∀ j,u2.cell? ⟨w.heap.size,j,none⟩=(#[.int .i64 11,.int .i64 op,.int .i64 rd,.int .i64 r1,.int .i64 r2,.int .i64 im,.string s,.int .i64 n]:Array Value)[j]?:=fun j=>cell_of_row u2 w.heap.size j _ 51 (0,0) ((BB.block _ Z1).trans hr)
 have kr:∀ j,u2.cell? ⟨u1.heap.size,j,none⟩=(#[.bool false,.bool false,.bool false,.int .i64 0,.int .i64 0]:Array Value)[j]?:=fun j=>cell_of_row u2 u1.heap.size j _ 139 (0,0) (by rw[<- hu2];exact heap_alloc_new u1 _)
 have B2:Hid (Below w.heap.size w u2):=B1.trans (BB.mono B1.size)
 have Z2:Hid (w.heap.size<u2.heap.size):=Nat.lt_of_lt_of_le Z1 BB.size
 clear hu2 BB hr B1 Z1
 cases hsy:Pl.sy s false
 all_goals
  go_wp2_with (first | (go_at_call 110;refine (dV _ _ _).mono ?_;rintro e u3 ⟨rfl,h3⟩; rw[h3,hsy];clear h3) | (go_at_call 112;refine (dF _ _ _).mono ?_;rintro e u3 ⟨rfl,h3⟩; rw[h3];clear h3))
  all_goals
   go_ret
   refine⟨aI (Eq.trans ?_ HR.out.symm),B2.out⟩
   go_light
   clear kl kr HR
   first
    | (rw[hsy];rfl)
    | (rw[decide_eq_false (p:=0<=n/\n<=0) (by omega)];simp)
    | (rw[hsy,decide_eq_true (p:=0<=n/\n<=0) (by omega)];simp_all [Pl.aG];done)
    | (rw[hsy,decide_eq_true (p:=0<=n/\n<=0) (by omega)];simp_all [Pl.aG,Pl.rg] <;> omega)
theorem FM (op rd r1 r2 im n:Int) (s:ByteArray) (w:World):Calls Tryz.prog 73 #[.agg #[.int .i64 12,.int .i64 op,.int .i64 rd,.int .i64 r1,.int .i64 r2,.int .i64 im,.string s,.int .i64 n]] w fun e w'=>e=.returned (.bool (Pl.sy s false && decide (0<=n/\n<=255) && (Pl.aG op rd r1 r2 im false false)))/\Below w.heap.size w w':=by
 obtain⟨R,hR⟩:∃ R,R=(Pl.sy s false && decide (0<=n/\n<=255) && (Pl.aG op rd r1 r2 im false false)):=⟨_,rfl⟩
 rw[<- hR]
 have HR:Hid (R=(Pl.sy s false && decide (0<=n/\n<=255) && (Pl.aG op rd r1 r2 im false false))):=hR
 clear hR
 go_enter Tryz.func73,Tryz.ntmps73
 go_wp2_with fail
 refine (WX op rd r1 r2 im n s _).mono ?_
 rintro e u1 ⟨rfl,d1⟩
 have hr:=bH d1
 have B1:Below w.heap.size w u1:=((Below.refl _ _).alloc (Nat.le_refl _) _).trans (d1.mono (by simp))
 have Z1:w.heap.size<u1.heap.size:=by have:=d1.size;simp at this;omega
 clear d1
 go_upto_region 2 with fail
 obtain⟨u2,hu2⟩:∃ u,u1.alloc (.cells #[.bool false,.bool false,.bool false,.int .i64 0,.int .i64 255] 139)=u:=⟨_,rfl⟩
 rw[hu2]
 have BB:Below u1.heap.size u1 u2:=by rw[<- hu2];exact (Below.refl _ _).alloc (Nat.le_refl _) _
 have kl:∀ j,u2.cell? ⟨w.heap.size,j,none⟩=(#[.int .i64 12,.int .i64 op,.int .i64 rd,.int .i64 r1,.int .i64 r2,.int .i64 im,.string s,.int .i64 n]:Array Value)[j]?:=fun j=>cell_of_row u2 w.heap.size j _ 51 (0,0) ((BB.block _ Z1).trans hr)
 have kr:∀ j,u2.cell? ⟨u1.heap.size,j,none⟩=(#[.bool false,.bool false,.bool false,.int .i64 0,.int .i64 255]:Array Value)[j]?:=fun j=>cell_of_row u2 u1.heap.size j _ 139 (0,0) (by rw[<- hu2];exact heap_alloc_new u1 _)
 have B2:Hid (Below w.heap.size w u2):=B1.trans (BB.mono B1.size)
 have Z2:Hid (w.heap.size<u2.heap.size):=Nat.lt_of_lt_of_le Z1 BB.size
 clear hu2 BB hr B1 Z1
 cases hsy:Pl.sy s false
 all_goals
  go_wp2_with (first | (go_at_call 110;refine (dV _ _ _).mono ?_;rintro e u3 ⟨rfl,h3⟩; rw[h3,hsy];clear h3) | (go_at_call 112;refine (dF _ _ _).mono ?_;rintro e u3 ⟨rfl,h3⟩; rw[h3];clear h3))
  all_goals
   go_ret
   refine⟨aI (Eq.trans ?_ HR.out.symm),B2.out⟩
   go_light
   clear kl kr HR
   first
    | (rw[hsy];rfl)
    | (rw[decide_eq_false (p:=0<=n/\n<=255) (by omega)];simp)
    | (rw[hsy,decide_eq_true (p:=0<=n/\n<=255) (by omega)];simp_all [Pl.aG];done)
    | (rw[hsy,decide_eq_true (p:=0<=n/\n<=255) (by omega)];simp_all [Pl.aG,Pl.rg] <;> omega)
theorem FN (op rd r1 r2 im n:Int) (s:ByteArray) (w:World):Calls Tryz.prog 73 #[.agg #[.int .i64 13,.int .i64 op,.int .i64 rd,.int .i64 r1,.int .i64 r2,.int .i64 im,.string s,.int .i64 n]] w fun e w'=>e=.returned (.bool (Pl.sy s false && decide (0<=n/\n<=65535) && (Pl.aG op rd r1 r2 im false false)))/\Below w.heap.size w w':=by
 obtain⟨R,hR⟩:∃ R,R=(Pl.sy s false && decide (0<=n/\n<=65535) && (Pl.aG op rd r1 r2 im false false)):=⟨_,rfl⟩
 rw[<- hR]
 have HR:Hid (R=(Pl.sy s false && decide (0<=n/\n<=65535) && (Pl.aG op rd r1 r2 im false false))):=hR
 clear hR
 go_enter Tryz.func73,Tryz.ntmps73
 go_wp2_with fail
 refine (WY op rd r1 r2 im n s _).mono ?_
 rintro e u1 ⟨rfl,d1⟩
 have hr:=bH d1
 have B1:Below w.heap.size w u1:=((Below.refl _ _).alloc (Nat.le_refl _) _).trans (d1.mono (by simp))
 have Z1:w.heap.size<u1.heap.size:=by have:=d1.size;simp at this;omega
 clear d1
 go_upto_region 2 with fail
 obtain⟨u2,hu2⟩:∃ u,u1.alloc (.cells #[.bool false,.bool false,.bool false,.int .i64 0,.int .i64 65535] 139)=u:=⟨_,rfl⟩
 rw[hu2]
 have BB:Below u1.heap.size u1 u2:=by rw[<- hu2];exact (Below.refl _ _).alloc (Nat.le_refl _) _
 have kl:∀ j,u2.cell? ⟨w.heap.size,j,none⟩=(#[.int .i64 13,.int .i64 op,.int .i64 rd,.int .i64 r1,.int .i64 r2,.int .i64 im,.string s,.int .i64 n]:Array Value)[j]?:=fun j=>cell_of_row u2 w.heap.size j _ 51 (0,0) ((BB.block _ Z1).trans hr)
 have kr:∀ j,u2.cell? ⟨u1.heap.size,j,none⟩=(#[.bool false,.bool false,.bool false,.int .i64 0,.int .i64 65535]:Array Value)[j]?:=fun j=>cell_of_row u2 u1.heap.size j _ 139 (0,0) (by rw[<- hu2];exact heap_alloc_new u1 _)
 have B2:Hid (Below w.heap.size w u2):=B1.trans (BB.mono B1.size)
 have Z2:Hid (w.heap.size<u2.heap.size):=Nat.lt_of_lt_of_le Z1 BB.size
 clear hu2 BB hr B1 Z1
 cases hsy:Pl.sy s false
 all_goals
  go_wp2_with (first | (go_at_call 110;refine (dV _ _ _).mono ?_;rintro e u3 ⟨rfl,h3⟩; rw[h3,hsy];clear h3) | (go_at_call 112;refine (dF _ _ _).mono ?_;rintro e u3 ⟨rfl,h3⟩; rw[h3];clear h3))
  all_goals
   go_ret
   refine⟨aI (Eq.trans ?_ HR.out.symm),B2.out⟩
   go_light
   clear kl kr HR
   first
    | (rw[hsy];rfl)
    | (rw[decide_eq_false (p:=0<=n/\n<=65535) (by omega)];simp)
    | (rw[hsy,decide_eq_true (p:=0<=n/\n<=65535) (by omega)];simp_all [Pl.aG];done)
    | (rw[hsy,decide_eq_true (p:=0<=n/\n<=65535) (by omega)];simp_all [Pl.aG,Pl.rg] <;> omega)
end Go.Proofs.YtlbomnnldkeocaaGreat.W
