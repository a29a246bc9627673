import Derived.Test.YtlbomnnldkeocaaGreatI26
import Derived.Deep.Cut
import Derived.Deep.Light
import Derived.Test.YtlbomnnldkeocaaGreatI25
import Derived.Test.YtlbomnnldkeocaaGreatI00
import Derived.Deep.RegionWith
import Derived.Deep.QuietTactic
import Derived.BigQuiet
set_option linter.unusedVariables false
set_option linter.unusedSimpArgs false
set_option maxHeartbeats 16000000
namespace Go.Proofs.YtlbomnnldkeocaaGreat.W
open Go.RowKit
theorem CE (op rd r1 r2 im n:Int) (s:ByteArray) (he:s.size=0) (w:World):Calls Tryz.prog 73 #[.agg #[.int .i64 14,.int .i64 op,.int .i64 rd,.int .i64 r1,.int .i64 r2,.int .i64 im,.string s,.int .i64 n]] w fun e w'=>e=.returned (.bool (Pl.sy s false && decide (0<=n/\n<=4294967295) && (Pl.aG op rd r1 r2 im false false)))/\Below w.heap.size w w':=by
 obtain⟨R,hR⟩:∃ R,R=(Pl.sy s false && decide (0<=n/\n<=4294967295) && (Pl.aG op rd r1 r2 im false false)):=⟨_,rfl⟩
 rw[<- hR]
 have HR:Hid (R=(Pl.sy s false && decide (0<=n/\n<=4294967295) && (Pl.aG op rd r1 r2 im false false))):=hR
 clear hR
 go_enter Tryz.func73,Tryz.ntmps73
 go_wp2_with fail
 refine (SE op rd r1 r2 im n s he _).mono ?_
 rintro e u1 ⟨rfl,d1⟩
 have hr:=bH d1
 have B1:Below w.heap.size w u1:=((Below.refl _ _).alloc (Nat.le_refl _) _).trans (d1.mono (by simp))
 have Z1:w.heap.size<u1.heap.size:=by have:=d1.size;simp at this;omega
 clear d1 he
 go_upto_region 2 with fail
 obtain⟨u2,hu2⟩:∃ u,u1.alloc (.cells #[.bool false,.bool false,.bool false,.int .i64 0,.int .i64 4294967295] 139)=u:=⟨_,rfl⟩
 rw[hu2]
 have BB:Below u1.heap.size u1 u2:=by rw[<- hu2];exact (Below.refl _ _).alloc (Nat.le_refl _) _
 have kl:∀ j,u2.cell? ⟨w.heap.size,j,none⟩=(#[.int .i64 14,.int .i64 op,.int .i64 rd,.int .i64 r1,.int .i64 r2,.int .i64 im,.string s,.int .i64 n]:Array Value)[j]?:=fun j=>cell_of_row u2 w.heap.size j _ 51 (0,0) ((BB.block _ Z1).trans hr)
 have kr:∀ j,u2.cell? ⟨u1.heap.size,j,none⟩=(#[.bool false,.bool false,.bool false,.int .i64 0,.int .i64 4294967295]:Array Value)[j]?:=fun j=>cell_of_row u2 u1.heap.size j _ 139 (0,0) (by rw[<- hu2];exact heap_alloc_new u1 _)
 have B2:Hid (Below w.heap.size w u2):=B1.trans (BB.mono B1.size)
 have Z2:Hid (w.heap.size<u2.heap.size):=Nat.lt_of_lt_of_le Z1 BB.size
 clear hu2 BB hr B1 Z1
 cases hsy:Pl.sy s false
 all_goals
  go_wp2_with (first | (go_at_call 110;refine (dV _ _ _).mono ?_;rintro e u3 ⟨rfl,h3⟩; rw[h3,hsy];clear h3) | (go_at_call 112;refine (dF _ _ _).mono ?_;rintro e u3 ⟨rfl,h3⟩; rw[h3];clear h3))
  all_goals
   go_ret
   refine⟨aI (Eq.trans ?_ HR.out.symm),B2.out⟩
   go_light
   clear kl kr HR
   first
    | (rw[hsy];rfl)
    | (rw[decide_eq_false (p:=0<=n/\n<=4294967295) (by omega)];simp)
    | (rw[hsy,decide_eq_true (p:=0<=n/\n<=4294967295) (by omega)];simp_all [Pl.aG];done)
    | (rw[hsy,decide_eq_true (p:=0<=n/\n<=4294967295) (by omega)];simp_all [Pl.aG,Pl.rg] <;> omega)
theorem CF (op rd r1 r2 im n:Int) (s:ByteArray) (he:¬ s.size=0) (w:World):Calls Tryz.prog 73 #[.agg #[.int .i64 14,.int .i64 op,.int .i64 rd,.int .i64 r1,.int .i64 r2,.int .i64 im,.string s,.int .i64 n]] w fun e w'=>e=.returned (.bool (Pl.sy s true && decide ((-2147483648)<=n/\n<=2147483647) && (Pl.aG op rd r1 r2 im false false)))/\Below w.heap.size w w':=by
 obtain⟨R,hR⟩:∃ R,R=(Pl.sy s true && decide ((-2147483648)<=n/\n<=2147483647) && (Pl.aG op rd r1 r2 im false false)):=⟨_,rfl⟩
 rw[<- hR]
 have HR:Hid (R=(Pl.sy s true && decide ((-2147483648)<=n/\n<=2147483647) && (Pl.aG op rd r1 r2 im false false))):=hR
 clear hR
 go_enter Tryz.func73,Tryz.ntmps73
 go_wp2_with fail
 refine (SF op rd r1 r2 im n s he _).mono ?_
 rintro e u1 ⟨rfl,d1⟩
 have hr:=bH d1
 have B1:Below w.heap.size w u1:=((Below.refl _ _).alloc (Nat.le_refl _) _).trans (d1.mono (by simp))
 have Z1:w.heap.size<u1.heap.size:=by have:=d1.size;simp at this;omega
 clear d1 he
 go_upto_region 2 with fail
 obtain⟨u2,hu2⟩:∃ u,u1.alloc (.cells #[.bool false,.bool false,.bool true,.int .i64 (-2147483648),.int .i64 2147483647] 139)=u:=⟨_,rfl⟩
 rw[hu2]
 have BB:Below u1.heap.size u1 u2:=by rw[<- hu2];exact (Below.refl _ _).alloc (Nat.le_refl _) _
 have kl:∀ j,u2.cell? ⟨w.heap.size,j,none⟩=(#[.int .i64 14,.int .i64 op,.int .i64 rd,.int .i64 r1,.int .i64 r2,.int .i64 im,.string s,.int .i64 n]:Array Value)[j]?:=fun j=>cell_of_row u2 w.heap.size j _ 51 (0,0) ((BB.block _ Z1).trans hr)
 have kr:∀ j,u2.cell? ⟨u1.heap.size,j,none⟩=(#[.bool false,.bool false,.bool true,.int .i64 (-2147483648),.int .i64 2147483647]:Array Value)[j]?:=fun j=>cell_of_row u2 u1.heap.size j _ 139 (0,0) (by rw[<- hu2];exact heap_alloc_new u1 _)
 have B2:Hid (Below w.heap.size w u2):=B1.trans (BB.mono B1.size)
 have Z2:Hid (w.heap.size<u2.heap.size):=Nat.lt_of_lt_of_le Z1 BB.size
 clear hu2 BB hr B1 Z1
 cases hsy:Pl.sy s true
 all_goals
  go_wp2_with (first | (go_at_call 110;refine (dV _ _ _).mono ?_;rintro e u3 ⟨rfl,h3⟩; rw[h3,hsy];clear h3) | (go_at_call 112;refine (dF _ _ _).mono ?_;rintro e u3 ⟨rfl,h3⟩; rw[h3];clear h3))
  all_goals
   go_ret
   refine⟨aI (Eq.trans ?_ HR.out.symm),B2.out⟩
   go_light
   clear kl kr HR
   first
    | (rw[hsy];rfl)
    | (rw[decide_eq_false (p:=(-2147483648)<=n/\n<=2147483647) (by omega)];simp)
    | (rw[hsy,decide_eq_true (p:=(-2147483648)<=n/\n<=2147483647) (by omega)];simp_all [Pl.aG];done)
    | (rw[hsy,decide_eq_true (p:=(-2147483648)<=n/\n<=2147483647) (by omega)];simp_all [Pl.aG,Pl.rg] <;> omega)
theorem FO (op rd r1 r2 im n:Int) (s:ByteArray) (w:World):Calls Tryz.prog 73 #[.agg #[.int .i64 15,.int .i64 op,.int .i64 rd,.int .i64 r1,.int .i64 r2,.int .i64 im,.string s,.int .i64 n]] w fun e w'=>e=.returned (.bool (Pl.sy s false && decide (0<=n/\n<=65536) && (Pl.aG op rd r1 r2 im false false)))/\Below w.heap.size w w':=by
 obtain⟨R,hR⟩:∃ R,R=(Pl.sy s false && decide (0<=n/\n<=65536) && (Pl.aG op rd r1 r2 im false false)):=⟨_,rfl⟩
 rw[<- hR]
 have HR:Hid (R=(Pl.sy s false && decide (0<=n/\n<=65536) && (Pl.aG op rd r1 r2 im false false))):=hR
 clear hR
 go_enter Tryz.func73,Tryz.ntmps73
 go_wp2_with fail
 refine (WZ op rd r1 r2 im n s _).mono ?_
 rintro e u1 ⟨rfl,d1⟩
 have hr:=bH d1
 have B1:Below w.heap.size w u1:=((Below.refl _ _).alloc (Nat.le_refl _) _).trans (d1.mono (by simp))
 have Z1:w.heap.size<u1.heap.size:=by have:=d1.size;simp at this;omega
 clear d1
 go_upto_region 2 with fail
 obtain⟨u2,hu2⟩:∃ u,u1.alloc (.cells #[.bool false,.bool false,.bool false,.int .i64 0,.int .i64 65536] 139)=u:=⟨_,rfl⟩
 rw[hu2]
 have BB:Below u1.heap.size u1 u2:=by rw[<- hu2];exact (Below.refl _ _).alloc (Nat.le_refl _) _
 have kl:∀ j,u2.cell? ⟨w.heap.size,j,none⟩=(#[.int .i64 15,.int .i64 op,.int .i64 rd,.int .i64 r1,.int .i64 r2,.int .i64 im,.string s,.int .i64 n]:Array Value)[j]?:=fun j=>cell_of_row u2 w.heap.size j _ 51 (0,0) ((BB.block _ Z1).trans hr)
 have kr:∀ j,u2.cell? ⟨u1.heap.size,j,none⟩=(#[.bool false,.bool false,.bool false,.int .i64 0,.int .i64 65536]:Array Value)[j]?:=fun j=>cell_of_row u2 u1.heap.size j _ 139 (0,0) (by rw[<- hu2];exact heap_alloc_new u1 _)
 have B2:Hid (Below w.heap.size w u2):=B1.trans (BB.mono B1.size)
 have Z2:Hid (w.heap.size<u2.heap.size):=Nat.lt_of_lt_of_le Z1 BB.size
 clear hu2 BB hr B1 Z1
 cases hsy:Pl.sy s false
 all_goals
  go_wp2_with (first | (go_at_call 110;refine (dV _ _ _).mono ?_;rintro e u3 ⟨rfl,h3⟩; rw[h3,hsy];clear h3) | (go_at_call 112;refine (dF _ _ _).mono ?_;rintro e u3 ⟨rfl,h3⟩; rw[h3];clear h3))
  all_goals
   go_ret
   refine⟨aI (Eq.trans ?_ HR.out.symm),B2.out⟩
   go_light
   clear kl kr HR
   first
    | (rw[hsy];rfl)
    | (rw[decide_eq_false (p:=0<=n/\n<=65536) (by omega)];simp)
    | (rw[hsy,decide_eq_true (p:=0<=n/\n<=65536) (by omega)];simp_all [Pl.aG];done)
    | (rw[hsy,decide_eq_true (p:=0<=n/\n<=65536) (by omega)];simp_all [Pl.aG,Pl.rg] <;> omega)
theorem FP (op rd r1 r2 im n:Int) (s:ByteArray) (w:World):Calls Tryz.prog 73 #[.agg #[.int .i64 16,.int .i64 op,.int .i64 rd,.int .i64 r1,.int .i64 r2,.int .i64 im,.string s,.int .i64 n]] w fun e w'=>e=.returned (.bool (Pl.sy s false && decide (1<=n/\n<=4) && (Pl.aG op rd r1 r2 im false false && n != 3)))/\Below w.heap.size w w':=by
 obtain⟨R,hR⟩:∃ R,R=(Pl.sy s false && decide (1<=n/\n<=4) && (Pl.aG op rd r1 r2 im false false && n != 3)):=⟨_,rfl⟩
 rw[<- hR]
 have HR:Hid (R=(Pl.sy s false && decide (1<=n/\n<=4) && (Pl.aG op rd r1 r2 im false false && n != 3))):=hR
 clear hR
 go_enter Tryz.func73,Tryz.ntmps73
 go_wp2_with fail
 refine (XA op rd r1 r2 im n s _).mono ?_
 rintro e u1 ⟨rfl,d1⟩
 have hr:=bH d1
 have B1:Below w.heap.size w u1:=((Below.refl _ _).alloc (Nat.le_refl _) _).trans (d1.mono (by simp))
 have Z1:w.heap.size<u1.heap.size:=by have:=d1.size;simp at this;omega
 clear d1
 go_upto_region 2 with fail
 obtain⟨u2,hu2⟩:∃ u,u1.alloc (.cells #[.bool false,.bool false,.bool false,.int .i64 1,.int .i64 4] 139)=u:=⟨_,rfl⟩
 rw[hu2]
 have BB:Below u1.heap.size u1 u2:=by rw[<- hu2];exact (Below.refl _ _).alloc (Nat.le_refl _) _
 have kl:∀ j,u2.cell? ⟨w.heap.size,j,none⟩=(#[.int .i64 16,.int .i64 op,.int .i64 rd,.int .i64 r1,.int .i64 r2,.int .i64 im,.string s,.int .i64 n]:Array Value)[j]?:=fun j=>cell_of_row u2 w.heap.size j _ 51 (0,0) ((BB.block _ Z1).trans hr)
 have kr:∀ j,u2.cell? ⟨u1.heap.size,j,none⟩=(#[.bool false,.bool false,.bool false,.int .i64 1,.int .i64 4]:Array Value)[j]?:=fun j=>cell_of_row u2 u1.heap.size j _ 139 (0,0) (by rw[<- hu2];exact heap_alloc_new u1 _)
 have B2:Hid (Below w.heap.size w u2):=B1.trans (BB.mono B1.size)
 have Z2:Hid (w.heap.size<u2.heap.size):=Nat.lt_of_lt_of_le Z1 BB.size
 clear hu2 BB hr B1 Z1
 cases hsy:Pl.sy s false
 all_goals
  go_wp2_with (first | (go_at_call 110;refine (dV _ _ _).mono ?_;rintro e u3 ⟨rfl,h3⟩; rw[h3,hsy];clear h3) | (go_at_call 112;refine (dF _ _ _).mono ?_;rintro e u3 ⟨rfl,h3⟩; rw[h3];clear h3))
  all_goals
   go_ret
   refine⟨aI (Eq.trans ?_ HR.out.symm),B2.out⟩
   go_light
   clear kl kr HR
   first
    | (rw[hsy];rfl)
    | (rw[decide_eq_false (p:=1<=n/\n<=4) (by omega)];simp)
    | (rw[hsy,decide_eq_true (p:=1<=n/\n<=4) (by omega)];simp_all [Pl.aG];done)
    | (rw[hsy,decide_eq_true (p:=1<=n/\n<=4) (by omega)];simp_all [Pl.aG,Pl.rg] <;> omega)
theorem FQ (k:Int) (h:k<1\/16<k) (op rd r1 r2 im n:Int) (s:ByteArray) (w:World):Calls Tryz.prog 73 #[.agg #[.int .i64 k,.int .i64 op,.int .i64 rd,.int .i64 r1,.int .i64 r2,.int .i64 im,.string s,.int .i64 n]] w fun e w'=>e=.returned (.bool false)/\Below w.heap.size w w':=by
 go_enter Tryz.func73,Tryz.ntmps73
 go_wp2_with (go_at_call 109;refine (XB k h op rd r1 r2 im n s _).mono ?_;rintro e u1 ⟨rfl,d1⟩)
 go_ret
 exact⟨rfl,((((Below.refl _ _).alloc (Nat.le_refl _) _)).trans (d1.mono (by simp))).alloc (by have:=d1.size;simp at this;omega) _⟩
set_option maxRecDepth 20000 in
theorem JY (op rd r1 r2 im n:Int) (s:ByteArray) (w:World):Calls Tryz.prog 20 #[.agg #[.int .i64 1,.int .i64 op,.int .i64 rd,.int .i64 r1,.int .i64 r2,.int .i64 im,.string s,.int .i64 n]] w fun e w'=>e=.returned (.bool (Pl.sy s true && decide (0<=n/\n<=0) && (Pl.aG op rd r1 r2 im false false)))/\Below w.heap.size w w':=by
 obtain⟨R,hR⟩:∃ R,R=(Pl.sy s true && decide (0<=n/\n<=0) && (Pl.aG op rd r1 r2 im false false)):=⟨_,rfl⟩
 rw[<- hR]
 have HR:Hid (R=(Pl.sy s true && decide (0<=n/\n<=0) && (Pl.aG op rd r1 r2 im false false))):=hR
 clear hR
 go_enter Tryz.func20,Tryz.ntmps20
 go_wp2_with fail
 refine (bW _ _ _ _ _ _ _ _).mono ?_
 rintro e u1 ⟨rfl,d1⟩
 have hr:=bH d1;have lY:∀ j,u1.cell? ⟨w.heap.size,j,none⟩=(#[.int .i64 1,.int .i64 op,.int .i64 rd,.int .i64 r1,.int .i64 r2,.int .i64 im,.string s,.int .i64 n]:Array Value)[j]?:=(fun j=>cell_of_row u1 w.heap.size j _ 51 (0,0) hr);have B1:Hid (Below w.heap.size w u1):=((Below.refl _ _).alloc (Nat.le_refl _) _).trans (d1.mono (by simp));have Z1:Hid (w.heap.size<u1.heap.size):=(by have:=d1.size;simp at this;show w.heap.size<u1.heap.size;omega);clear d1 hr
 obtain⟨z0,hz0⟩:∃ z,z=Pl.aG op rd r1 r2 im false false:=⟨_,rfl⟩
 rw[<- hz0]
 have HZ:Hid (z0=Pl.aG op rd r1 r2 im false false):=hz0
 clear hz0
 cases hl:Pl.lab s <;> cases z0
 all_goals
  go_wp2_with (first | (go_at_call 62;refine (kT _ _).mono ?_;rintro e u3 ⟨rfl,h3⟩; rw[h3,hl];clear h3))
  all_goals
   go_ret
   refine⟨aI (Eq.trans ?_ HR.out.symm),(by first | exact B2.out | exact B1.out)⟩
   have hz0:=HZ.out.symm
   go_light
   clear lY HR HZ
   (try clear tQ)
   first
    | (rw[decide_eq_false (p:=0<=n/\n<=0) (by omega)];simp;done)
    | (rw[decide_eq_true (p:=0<=n/\n<=0) (by omega)];simp_all [Pl.sy];done)
    | (simp_all [Pl.sy];done)
    | (simp_all [Pl.sy] <;> omega)
    | (rw[Bool.eq_iff_iff];simp_all [Pl.sy] <;> omega)
set_option maxRecDepth 20000 in
theorem JZ (op rd r1 r2 im n:Int) (s:ByteArray) (w:World):Calls Tryz.prog 20 #[.agg #[.int .i64 7,.int .i64 op,.int .i64 rd,.int .i64 r1,.int .i64 r2,.int .i64 im,.string s,.int .i64 n]] w fun e w'=>e=.returned (.bool (Pl.sy s true && decide (0<=n/\n<=0) && (Pl.aG op rd r1 r2 im false false)))/\Below w.heap.size w w':=by
 obtain⟨R,hR⟩:∃ R,R=(Pl.sy s true && decide (0<=n/\n<=0) && (Pl.aG op rd r1 r2 im false false)):=⟨_,rfl⟩
 rw[<- hR]
 have HR:Hid (R=(Pl.sy s true && decide (0<=n/\n<=0) && (Pl.aG op rd r1 r2 im false false))):=hR
 clear hR
 go_enter Tryz.func20,Tryz.ntmps20
 go_wp2_with fail
 refine (bW _ _ _ _ _ _ _ _).mono ?_
 rintro e u1 ⟨rfl,d1⟩
 have hr:=bH d1;have lY:∀ j,u1.cell? ⟨w.heap.size,j,none⟩=(#[.int .i64 7,.int .i64 op,.int .i64 rd,.int .i64 r1,.int .i64 r2,.int .i64 im,.string s,.int .i64 n]:Array Value)[j]?:=(fun j=>cell_of_row u1 w.heap.size j _ 51 (0,0) hr);have B1:Hid (Below w.heap.size w u1):=((Below.refl _ _).alloc (Nat.le_refl _) _).trans (d1.mono (by simp));have Z1:Hid (w.heap.size<u1.heap.size):=(by have:=d1.size;simp at this;show w.heap.size<u1.heap.size;omega);clear d1 hr
 obtain⟨z0,hz0⟩:∃ z,z=Pl.aG op rd r1 r2 im false false:=⟨_,rfl⟩
 rw[<- hz0]
 have HZ:Hid (z0=Pl.aG op rd r1 r2 im false false):=hz0
 clear hz0
 cases hl:Pl.lab s <;> cases z0
 all_goals
  go_wp2_with (first | (go_at_call 62;refine (kT _ _).mono ?_;rintro e u3 ⟨rfl,h3⟩; rw[h3,hl];clear h3))
  all_goals
   go_ret
   refine⟨aI (Eq.trans ?_ HR.out.symm),(by first | exact B2.out | exact B1.out)⟩
   have hz0:=HZ.out.symm
   go_light
   clear lY HR HZ
   (try clear tQ)
   first
    | (rw[decide_eq_false (p:=0<=n/\n<=0) (by omega)];simp;done)
    | (rw[decide_eq_true (p:=0<=n/\n<=0) (by omega)];simp_all [Pl.sy];done)
    | (simp_all [Pl.sy];done)
    | (simp_all [Pl.sy] <;> omega)
    | (rw[Bool.eq_iff_iff];simp_all [Pl.sy] <;> omega)
set_option maxRecDepth 20000 in
theorem KA (op rd r1 r2 im n:Int) (s:ByteArray) (w:World):Calls Tryz.prog 20 #[.agg #[.int .i64 8,.int .i64 op,.int .i64 rd,.int .i64 r1,.int .i64 r2,.int .i64 im,.string s,.int .i64 n]] w fun e w'=>e=.returned (.bool (Pl.sy s true && decide (0<=n/\n<=0) && (Pl.aG op rd r1 r2 im false false)))/\Below w.heap.size w w':=by
 obtain⟨R,hR⟩:∃ R,R=(Pl.sy s true && decide (0<=n/\n<=0) && (Pl.aG op rd r1 r2 im false false)):=⟨_,rfl⟩
 rw[<- hR]
 have HR:Hid (R=(Pl.sy s true && decide (0<=n/\n<=0) && (Pl.aG op rd r1 r2 im false false))):=hR
 clear hR
 go_enter Tryz.func20,Tryz.ntmps20
 go_wp2_with fail
 refine (bW _ _ _ _ _ _ _ _).mono ?_
 rintro e u1 ⟨rfl,d1⟩
 have hr:=bH d1;have lY:∀ j,u1.cell? ⟨w.heap.size,j,none⟩=(#[.int .i64 8,.int .i64 op,.int .i64 rd,.int .i64 r1,.int .i64 r2,.int .i64 im,.string s,.int .i64 n]:Array Value)[j]?:=(fun j=>cell_of_row u1 w.heap.size j _ 51 (0,0) hr);have B1:Hid (Below w.heap.size w u1):=((Below.refl _ _).alloc (Nat.le_refl _) _).trans (d1.mono (by simp));have Z1:Hid (w.heap.size<u1.heap.size):=(by have:=d1.size;simp at this;show w.heap.size<u1.heap.size;omega);clear d1 hr
 obtain⟨z0,hz0⟩:∃ z,z=Pl.aG op rd r1 r2 im false false:=⟨_,rfl⟩
 rw[<- hz0]
 have HZ:Hid (z0=Pl.aG op rd r1 r2 im false false):=hz0
 clear hz0
 cases hl:Pl.lab s <;> cases z0
 all_goals
  go_wp2_with (first | (go_at_call 62;refine (kT _ _).mono ?_;rintro e u3 ⟨rfl,h3⟩; rw[h3,hl];clear h3))
  all_goals
   go_ret
   refine⟨aI (Eq.trans ?_ HR.out.symm),(by first | exact B2.out | exact B1.out)⟩
   have hz0:=HZ.out.symm
   go_light
   clear lY HR HZ
   (try clear tQ)
   first
    | (rw[decide_eq_false (p:=0<=n/\n<=0) (by omega)];simp;done)
    | (rw[decide_eq_true (p:=0<=n/\n<=0) (by omega)];simp_all [Pl.sy];done)
    | (simp_all [Pl.sy];done)
    | (simp_all [Pl.sy] <;> omega)
    | (rw[Bool.eq_iff_iff];simp_all [Pl.sy] <;> omega)
set_option maxRecDepth 20000 in
theorem FR (k:Int) (h:k<1\/16<k) (op rd r1 r2 im n:Int) (s:ByteArray) (w:World):Calls Tryz.prog 20 #[.agg #[.int .i64 k,.int .i64 op,.int .i64 rd,.int .i64 r1,.int .i64 r2,.int .i64 im,.string s,.int .i64 n]] w fun e w'=>e=.returned (.bool false)/\Below w.heap.size w w':=by
 go_enter Tryz.func20,Tryz.ntmps20
 go_wp2_with fail
 refine (bW _ _ _ _ _ _ _ _).mono ?_
 rintro e u1 ⟨rfl,d1⟩
 have hr:=bH d1
 have lY:∀ j,u1.cell? ⟨w.heap.size,j,none⟩=(#[.int .i64 k,.int .i64 op,.int .i64 rd,.int .i64 r1,.int .i64 r2,.int .i64 im,.string s,.int .i64 n]:Array Value)[j]?:=fun j=>cell_of_row u1 w.heap.size j _ 51 (0,0) hr
 have B1:Hid (Below w.heap.size w u1):=((Below.refl _ _).alloc (Nat.le_refl _) _).trans (d1.mono (by simp))
 clear d1 hr
 have k1:(k == 1)=false:=by rw[beq_eq_false_iff_ne];omega
 have k2:(k == 2)=false:=by rw[beq_eq_false_iff_ne];omega
 have k3:(k == 3)=false:=by rw[beq_eq_false_iff_ne];omega
 have k4:(k == 4)=false:=by rw[beq_eq_false_iff_ne];omega
 have k5:(k == 5)=false:=by rw[beq_eq_false_iff_ne];omega
 have k6:(k == 6)=false:=by rw[beq_eq_false_iff_ne];omega
 have k7:(k == 7)=false:=by rw[beq_eq_false_iff_ne];omega
 have k8:(k == 8)=false:=by rw[beq_eq_false_iff_ne];omega
 have k9:(k == 9)=false:=by rw[beq_eq_false_iff_ne];omega
 have k10:(k == 10)=false:=by rw[beq_eq_false_iff_ne];omega
 have k11:(k == 11)=false:=by rw[beq_eq_false_iff_ne];omega
 have k12:(k == 12)=false:=by rw[beq_eq_false_iff_ne];omega
 have k13:(k == 13)=false:=by rw[beq_eq_false_iff_ne];omega
 have k14:(k == 14)=false:=by rw[beq_eq_false_iff_ne];omega
 have k15:(k == 15)=false:=by rw[beq_eq_false_iff_ne];omega
 have k16:(k == 16)=false:=by rw[beq_eq_false_iff_ne];omega
 rcases h with h | h
 ·have hA:decide (k<12)=true:=decide_eq_true (by omega)
  clear h
  cases hie:s.toList.isEmpty <;> cases hz:Pl.aG op rd r1 r2 im false false
  all_goals
   go_wp2
   go_ret
   exact⟨rfl,B1.out⟩
 ·have hA:decide (k<12)=false:=decide_eq_false (by omega)
  have hB:decide (15<k)=true:=decide_eq_true (by omega)
  clear h
  cases hie:s.toList.isEmpty <;> cases hz:Pl.aG op rd r1 r2 im false false
  all_goals
   go_wp2
   go_ret
   exact⟨rfl,B1.out⟩
end Go.Proofs.YtlbomnnldkeocaaGreat.W
