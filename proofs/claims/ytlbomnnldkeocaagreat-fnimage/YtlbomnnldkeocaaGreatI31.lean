import Derived.Test.YtlbomnnldkeocaaGreatI25
import Derived.Deep.Cut
import Derived.Deep.Light
import Derived.Test.YtlbomnnldkeocaaGreatI00
import Derived.Deep.RegionWith
import Derived.Deep.QuietTactic
import Derived.BigQuiet
set_option linter.unusedVariables false
set_option linter.unusedSimpArgs false
set_option maxHeartbeats 16000000
namespace Go.Proofs.YtlbomnnldkeocaaGreat.W
open Go.RowKit
set_option maxRecDepth 20000 in
theorem KC (op rd r1 r2 im n:Int) (s:ByteArray) (w:World):Calls Tryz.prog 20 #[.agg #[.int .i64 4,.int .i64 op,.int .i64 rd,.int .i64 r1,.int .i64 r2,.int .i64 im,.string s,.int .i64 n]] w fun e w'=>e=.returned (.bool (Pl.sy s false && decide (0<=n/\n<=4294967295) && (Pl.aG op rd r1 r2 im true false)))/\Below w.heap.size w w':=by
 obtain⟨R,hR⟩:∃ R,R=(Pl.sy s false && decide (0<=n/\n<=4294967295) && (Pl.aG op rd r1 r2 im true false)):=⟨_,rfl⟩
 rw[<- hR]
 have HR:Hid (R=(Pl.sy s false && decide (0<=n/\n<=4294967295) && (Pl.aG op rd r1 r2 im true false))):=hR
 clear hR
 go_enter Tryz.func20,Tryz.ntmps20
 go_wp2_with fail
 refine (bW _ _ _ _ _ _ _ _).mono ?_
 rintro e u1 ⟨rfl,d1⟩
 have hr:=bH d1;have lY:∀ j,u1.cell? ⟨w.heap.size,j,none⟩=(#[.int .i64 4,.int .i64 op,.int .i64 rd,.int .i64 r1,.int .i64 r2,.int .i64 im,.string s,.int .i64 n]:Array Value)[j]?:=(fun j=>cell_of_row u1 w.heap.size j _ 51 (0,0) hr);have B1:Hid (Below w.heap.size w u1):=((Below.refl _ _).alloc (Nat.le_refl _) _).trans (d1.mono (by simp));have Z1:Hid (w.heap.size<u1.heap.size):=(by have:=d1.size;simp at this;show w.heap.size<u1.heap.size;omega);clear d1 hr
 obtain⟨z0,hz0⟩:∃ z,z=Pl.aG op rd r1 r2 im false false:=⟨_,rfl⟩
 rw[<- hz0]
 have HZ:Hid (z0=Pl.aG op rd r1 r2 im false false):=hz0
 clear hz0
 cases hie:s.toList.isEmpty <;> cases hz:Pl.aG op rd r1 r2 im true false
 all_goals
  go_wp2_with (first | (go_at_call 59;refine (bW _ _ _ _ _ _ _ _).mono ?_;rintro e u2 ⟨rfl,d2⟩; rw[hz];have tQ:∀ j,u2.cell? ⟨w.heap.size,j,none⟩=(#[.int .i64 4,.int .i64 op,.int .i64 rd,.int .i64 r1,.int .i64 r2,.int .i64 im,.string s,.int .i64 n]:Array Value)[j]?:=(fun j=>(d2.cell (p:=⟨w.heap.size,j,none⟩) Z1.out).trans (lY j));have B2:Hid (Below w.heap.size w u2):=B1.out.trans (d2.mono B1.out.size);have Z2:Hid (w.heap.size<u2.heap.size):=Nat.lt_of_lt_of_le Z1.out d2.size;clear d2) | (go_at_call 63;refine (FI _ _).mono ?_;rintro e u3 ⟨rfl,h3⟩; rw[h3];clear h3))
  all_goals
   go_ret
   refine⟨aI (Eq.trans ?_ HR.out.symm),(by first | exact B2.out | exact B1.out)⟩
   have hz0:=HZ.out.symm
   go_light
   clear lY HR HZ
   (try clear tQ)
   first
    | (rw[decide_eq_false (p:=0<=n/\n<=4294967295) (by omega)];simp;done)
    | (rw[decide_eq_true (p:=0<=n/\n<=4294967295) (by omega)];simp_all [Pl.sy,Pl.emp];done)
    | (simp_all [Pl.sy,Pl.emp];done)
    | (simp_all [Pl.sy,Pl.emp] <;> omega)
    | (rw[Bool.eq_iff_iff];simp_all [Pl.sy,Pl.emp] <;> omega)
set_option maxRecDepth 20000 in
theorem KD (op rd r1 r2 im n:Int) (s:ByteArray) (w:World):Calls Tryz.prog 20 #[.agg #[.int .i64 5,.int .i64 op,.int .i64 rd,.int .i64 r1,.int .i64 r2,.int .i64 im,.string s,.int .i64 n]] w fun e w'=>e=.returned (.bool (Pl.sy s true && decide ((-2147483648)<=n/\n<=2147483647) && (Pl.aG op rd r1 r2 im true false)))/\Below w.heap.size w w':=by
 obtain⟨R,hR⟩:∃ R,R=(Pl.sy s true && decide ((-2147483648)<=n/\n<=2147483647) && (Pl.aG op rd r1 r2 im true false)):=⟨_,rfl⟩
 rw[<- hR]
 have HR:Hid (R=(Pl.sy s true && decide ((-2147483648)<=n/\n<=2147483647) && (Pl.aG op rd r1 r2 im true false))):=hR
 clear hR
 go_enter Tryz.func20,Tryz.ntmps20
 go_wp2_with fail
 refine (bW _ _ _ _ _ _ _ _).mono ?_
 rintro e u1 ⟨rfl,d1⟩
 have hr:=bH d1;have lY:∀ j,u1.cell? ⟨w.heap.size,j,none⟩=(#[.int .i64 5,.int .i64 op,.int .i64 rd,.int .i64 r1,.int .i64 r2,.int .i64 im,.string s,.int .i64 n]:Array Value)[j]?:=(fun j=>cell_of_row u1 w.heap.size j _ 51 (0,0) hr);have B1:Hid (Below w.heap.size w u1):=((Below.refl _ _).alloc (Nat.le_refl _) _).trans (d1.mono (by simp));have Z1:Hid (w.heap.size<u1.heap.size):=(by have:=d1.size;simp at this;show w.heap.size<u1.heap.size;omega);clear d1 hr
 obtain⟨z0,hz0⟩:∃ z,z=Pl.aG op rd r1 r2 im false false:=⟨_,rfl⟩
 rw[<- hz0]
 have HZ:Hid (z0=Pl.aG op rd r1 r2 im false false):=hz0
 clear hz0
 cases hl:Pl.lab s <;> cases hz:Pl.aG op rd r1 r2 im true false
 all_goals
  go_wp2_with (first | (go_at_call 62;refine (kT _ _).mono ?_;rintro e u3 ⟨rfl,h3⟩; rw[h3,hl];clear h3) | (go_at_call 59;refine (bW _ _ _ _ _ _ _ _).mono ?_;rintro e u2 ⟨rfl,d2⟩; rw[hz];have tQ:∀ j,u2.cell? ⟨w.heap.size,j,none⟩=(#[.int .i64 5,.int .i64 op,.int .i64 rd,.int .i64 r1,.int .i64 r2,.int .i64 im,.string s,.int .i64 n]:Array Value)[j]?:=(fun j=>(d2.cell (p:=⟨w.heap.size,j,none⟩) Z1.out).trans (lY j));have B2:Hid (Below w.heap.size w u2):=B1.out.trans (d2.mono B1.out.size);have Z2:Hid (w.heap.size<u2.heap.size):=Nat.lt_of_lt_of_le Z1.out d2.size;clear d2) | (go_at_call 64;refine (AV _ _).mono ?_;rintro e u3 ⟨rfl,h3⟩; rw[h3];clear h3))
  all_goals
   go_ret
   refine⟨aI (Eq.trans ?_ HR.out.symm),(by first | exact B2.out | exact B1.out)⟩
   have hz0:=HZ.out.symm
   go_light
   clear lY HR HZ
   (try clear tQ)
   first
    | (rw[decide_eq_false (p:=(-2147483648)<=n/\n<=2147483647) (by omega)];simp;done)
    | (rw[decide_eq_true (p:=(-2147483648)<=n/\n<=2147483647) (by omega)];simp_all [Pl.sy];done)
    | (simp_all [Pl.sy];done)
    | (simp_all [Pl.sy] <;> omega)
    | (rw[Bool.eq_iff_iff];simp_all [Pl.sy] <;> omega)
set_option maxRecDepth 20000 in
theorem KE (op rd r1 r2 im n:Int) (s:ByteArray) (w:World):Calls Tryz.prog 20 #[.agg #[.int .i64 6,.int .i64 op,.int .i64 rd,.int .i64 r1,.int .i64 r2,.int .i64 im,.string s,.int .i64 n]] w fun e w'=>e=.returned (.bool (Pl.sy s false && decide (0<=n/\n<=0) && (Pl.aG op rd r1 r2 im true true)))/\Below w.heap.size w w':=by
 obtain⟨R,hR⟩:∃ R,R=(Pl.sy s false && decide (0<=n/\n<=0) && (Pl.aG op rd r1 r2 im true true)):=⟨_,rfl⟩
 rw[<- hR]
 have HR:Hid (R=(Pl.sy s false && decide (0<=n/\n<=0) && (Pl.aG op rd r1 r2 im true true))):=hR
 clear hR
 go_enter Tryz.func20,Tryz.ntmps20
 go_wp2_with fail
 refine (bW _ _ _ _ _ _ _ _).mono ?_
 rintro e u1 ⟨rfl,d1⟩
 have hr:=bH d1;have lY:∀ j,u1.cell? ⟨w.heap.size,j,none⟩=(#[.int .i64 6,.int .i64 op,.int .i64 rd,.int .i64 r1,.int .i64 r2,.int .i64 im,.string s,.int .i64 n]:Array Value)[j]?:=(fun j=>cell_of_row u1 w.heap.size j _ 51 (0,0) hr);have B1:Hid (Below w.heap.size w u1):=((Below.refl _ _).alloc (Nat.le_refl _) _).trans (d1.mono (by simp));have Z1:Hid (w.heap.size<u1.heap.size):=(by have:=d1.size;simp at this;show w.heap.size<u1.heap.size;omega);clear d1 hr
 obtain⟨z0,hz0⟩:∃ z,z=Pl.aG op rd r1 r2 im false false:=⟨_,rfl⟩
 rw[<- hz0]
 have HZ:Hid (z0=Pl.aG op rd r1 r2 im false false):=hz0
 clear hz0
 cases hie:s.toList.isEmpty <;> cases hz:Pl.aG op rd r1 r2 im true true
 all_goals
  go_wp2_with (first | (go_at_call 59;refine (bW _ _ _ _ _ _ _ _).mono ?_;rintro e u2 ⟨rfl,d2⟩; rw[hz];have tQ:∀ j,u2.cell? ⟨w.heap.size,j,none⟩=(#[.int .i64 6,.int .i64 op,.int .i64 rd,.int .i64 r1,.int .i64 r2,.int .i64 im,.string s,.int .i64 n]:Array Value)[j]?:=(fun j=>(d2.cell (p:=⟨w.heap.size,j,none⟩) Z1.out).trans (lY j));have B2:Hid (Below w.heap.size w u2):=B1.out.trans (d2.mono B1.out.size);have Z2:Hid (w.heap.size<u2.heap.size):=Nat.lt_of_lt_of_le Z1.out d2.size;clear d2))
  all_goals
   go_ret
   refine⟨aI (Eq.trans ?_ HR.out.symm),(by first | exact B2.out | exact B1.out)⟩
   have hz0:=HZ.out.symm
   go_light
   clear lY HR HZ
   (try clear tQ)
   first
    | (rw[decide_eq_false (p:=0<=n/\n<=0) (by omega)];simp;done)
    | (rw[decide_eq_true (p:=0<=n/\n<=0) (by omega)];simp_all [Pl.sy,Pl.emp];done)
    | (simp_all [Pl.sy,Pl.emp];done)
    | (simp_all [Pl.sy,Pl.emp] <;> omega)
    | (rw[Bool.eq_iff_iff];simp_all [Pl.sy,Pl.emp] <;> omega)
set_option maxRecDepth 20000 in
theorem KF (op rd r1 r2 im n:Int) (s:ByteArray) (w:World):Calls Tryz.prog 20 #[.agg #[.int .i64 9,.int .i64 op,.int .i64 rd,.int .i64 r1,.int .i64 r2,.int .i64 im,.string s,.int .i64 n]] w fun e w'=>e=.returned (.bool (Pl.sy s false && decide (0<=n/\n<=0) && (Pl.aG op rd r1 r2 im false false)))/\Below w.heap.size w w':=by
 obtain⟨R,hR⟩:∃ R,R=(Pl.sy s false && decide (0<=n/\n<=0) && (Pl.aG op rd r1 r2 im false false)):=⟨_,rfl⟩
 rw[<- hR]
 have HR:Hid (R=(Pl.sy s false && decide (0<=n/\n<=0) && (Pl.aG op rd r1 r2 im false false))):=hR
 clear hR
 go_enter Tryz.func20,Tryz.ntmps20
 go_wp2_with fail
 refine (bW _ _ _ _ _ _ _ _).mono ?_
 rintro e u1 ⟨rfl,d1⟩
 have hr:=bH d1;have lY:∀ j,u1.cell? ⟨w.heap.size,j,none⟩=(#[.int .i64 9,.int .i64 op,.int .i64 rd,.int .i64 r1,.int .i64 r2,.int .i64 im,.string s,.int .i64 n]:Array Value)[j]?:=(fun j=>cell_of_row u1 w.heap.size j _ 51 (0,0) hr);have B1:Hid (Below w.heap.size w u1):=((Below.refl _ _).alloc (Nat.le_refl _) _).trans (d1.mono (by simp));have Z1:Hid (w.heap.size<u1.heap.size):=(by have:=d1.size;simp at this;show w.heap.size<u1.heap.size;omega);clear d1 hr
 obtain⟨z0,hz0⟩:∃ z,z=Pl.aG op rd r1 r2 im false false:=⟨_,rfl⟩
 rw[<- hz0]
 have HZ:Hid (z0=Pl.aG op rd r1 r2 im false false):=hz0
 clear hz0
 cases hie:s.toList.isEmpty <;> cases z0
 all_goals
  go_wp2_with fail
  all_goals
   go_ret
   refine⟨aI (Eq.trans ?_ HR.out.symm),(by first | exact B2.out | exact B1.out)⟩
   have hz0:=HZ.out.symm
   go_light
   clear lY HR HZ
   (try clear tQ)
   first
    | (rw[decide_eq_false (p:=0<=n/\n<=0) (by omega)];simp;done)
    | (rw[decide_eq_true (p:=0<=n/\n<=0) (by omega)];simp_all [Pl.sy,Pl.emp];done)
    | (simp_all [Pl.sy,Pl.emp];done)
    | (simp_all [Pl.sy,Pl.emp] <;> omega)
    | (rw[Bool.eq_iff_iff];simp_all [Pl.sy,Pl.emp] <;> omega)
set_option maxRecDepth 20000 in
theorem FT (op rd r1 r2 im n:Int) (s:ByteArray) (w:World):Calls Tryz.prog 20 #[.agg #[.int .i64 10,.int .i64 op,.int .i64 rd,.int .i64 r1,.int .i64 r2,.int .i64 im,.string s,.int .i64 n]] w fun e w'=>e=.returned (.bool (Pl.sy s false && decide (0<=n/\n<=0) && (Pl.aG op rd r1 r2 im false false)))/\Below w.heap.size w w':=by
 obtain⟨R,hR⟩:∃ R,R=(Pl.sy s false && decide (0<=n/\n<=0) && (Pl.aG op rd r1 r2 im false false)):=⟨_,rfl⟩
 rw[<- hR]
 have HR:Hid (R=(Pl.sy s false && decide (0<=n/\n<=0) && (Pl.aG op rd r1 r2 im false false))):=hR
 clear hR
 go_enter Tryz.func20,Tryz.ntmps20
 go_wp2_with fail
 refine (bW _ _ _ _ _ _ _ _).mono ?_
 rintro e u1 ⟨rfl,d1⟩
 have hr:=bH d1;have lY:∀ j,u1.cell? ⟨w.heap.size,j,none⟩=(#[.int .i64 10,.int .i64 op,.int .i64 rd,.int .i64 r1,.int .i64 r2,.int .i64 im,.string s,.int .i64 n]:Array Value)[j]?:=(fun j=>cell_of_row u1 w.heap.size j _ 51 (0,0) hr);have B1:Hid (Below w.heap.size w u1):=((Below.refl _ _).alloc (Nat.le_refl _) _).trans (d1.mono (by simp));have Z1:Hid (w.heap.size<u1.heap.size):=(by have:=d1.size;simp at this;show w.heap.size<u1.heap.size;omega);clear d1 hr
 obtain⟨z0,hz0⟩:∃ z,z=Pl.aG op rd r1 r2 im false false:=⟨_,rfl⟩
 rw[<- hz0]
 have HZ:Hid (z0=Pl.aG op rd r1 r2 im false false):=hz0
 clear hz0
 cases hie:s.toList.isEmpty <;> cases z0
 all_goals
  go_wp2_with fail
  all_goals
   go_ret
   refine⟨aI (Eq.trans ?_ HR.out.symm),(by first | exact B2.out | exact B1.out)⟩
   have hz0:=HZ.out.symm
   go_light
   clear lY HR HZ
   (try clear tQ)
   first
    | (rw[decide_eq_false (p:=0<=n/\n<=0) (by omega)];simp;done)
    | (rw[decide_eq_true (p:=0<=n/\n<=0) (by omega)];simp_all [Pl.sy,Pl.emp];done)
    | (simp_all [Pl.sy,Pl.emp];done)
    | (simp_all [Pl.sy,Pl.emp] <;> omega)
    | (rw[Bool.eq_iff_iff];simp_all [Pl.sy,Pl.emp] <;> omega)
set_option maxRecDepth 20000 in
theorem FU (op rd r1 r2 im n:Int) (s:ByteArray) (w:World):Calls Tryz.prog 20 #[.agg #[.int .i64 11,.int .i64 op,.int .i64 rd,.int .i64 r1,.int .i64 r2,.int .i64 im,.string s,.int .i64 n]] w fun e w'=>e=.returned (.bool (Pl.sy s false && decide (0<=n/\n<=0) && (Pl.aG op rd r1 r2 im false false)))/\Below w.heap.size w w':=by
 obtain⟨R,hR⟩:∃ R,R=(Pl.sy s false && decide (0<=n/\n<=0) && (Pl.aG op rd r1 r2 im false false)):=⟨_,rfl⟩
 rw[<- hR]
 have HR:Hid (R=(Pl.sy s false && decide (0<=n/\n<=0) && (Pl.aG op rd r1 r2 im false false))):=hR
 clear hR
 go_enter Tryz.func20,Tryz.ntmps20
 go_wp2_with fail
 refine (bW _ _ _ _ _ _ _ _).mono ?_
 rintro e u1 ⟨rfl,d1⟩
 have hr:=bH d1;have lY:∀ j,u1.cell? ⟨w.heap.size,j,none⟩=(#[.int .i64 11,.int .i64 op,.int .i64 rd,.int .i64 r1,.int .i64 r2,.int .i64 im,.string s,.int .i64 n]:Array Value)[j]?:=(fun j=>cell_of_row u1 w.heap.size j _ 51 (0,0) hr);have B1:Hid (Below w.heap.size w u1):=((Below.refl _ _).alloc (Nat.le_refl _) _).trans (d1.mono (by simp));have Z1:Hid (w.heap.size<u1.heap.size):=(by have:=d1.size;simp at this;show w.heap.size<u1.heap.size;omega);clear d1 hr
 obtain⟨z0,hz0⟩:∃ z,z=Pl.aG op rd r1 r2 im false false:=⟨_,rfl⟩
 rw[<- hz0]
 have HZ:Hid (z0=Pl.aG op rd r1 r2 im false false):=hz0
 clear hz0
 cases hie:s.toList.isEmpty <;> cases z0
 all_goals
  go_wp2_with fail
  all_goals
   go_ret
   refine⟨aI (Eq.trans ?_ HR.out.symm),(by first | exact B2.out | exact B1.out)⟩
   have hz0:=HZ.out.symm
   go_light
   clear lY HR HZ
   (try clear tQ)
   first
    | (rw[decide_eq_false (p:=0<=n/\n<=0) (by omega)];simp;done)
    | (rw[decide_eq_true (p:=0<=n/\n<=0) (by omega)];simp_all [Pl.sy,Pl.emp];done)
    | (simp_all [Pl.sy,Pl.emp];done)
    | (simp_all [Pl.sy,Pl.emp] <;> omega)
    | (rw[Bool.eq_iff_iff];simp_all [Pl.sy,Pl.emp] <;> omega)
set_option maxRecDepth 20000 in
theorem FV (op rd r1 r2 im n:Int) (s:ByteArray) (w:World):Calls Tryz.prog 20 #[.agg #[.int .i64 16,.int .i64 op,.int .i64 rd,.int .i64 r1,.int .i64 r2,.int .i64 im,.string s,.int .i64 n]] w fun e w'=>e=.returned (.bool (Pl.sy s false && decide (1<=n/\n<=4) && (Pl.aG op rd r1 r2 im false false && n != 3)))/\Below w.heap.size w w':=by
 obtain⟨R,hR⟩:∃ R,R=(Pl.sy s false && decide (1<=n/\n<=4) && (Pl.aG op rd r1 r2 im false false && n != 3)):=⟨_,rfl⟩
 rw[<- hR]
 have HR:Hid (R=(Pl.sy s false && decide (1<=n/\n<=4) && (Pl.aG op rd r1 r2 im false false && n != 3))):=hR
 clear hR
 go_enter Tryz.func20,Tryz.ntmps20
 go_wp2_with fail
 refine (bW _ _ _ _ _ _ _ _).mono ?_
 rintro e u1 ⟨rfl,d1⟩
 have hr:=bH d1;have lY:∀ j,u1.cell? ⟨w.heap.size,j,none⟩=(#[.int .i64 16,.int .i64 op,.int .i64 rd,.int .i64 r1,.int .i64 r2,.int .i64 im,.string s,.int .i64 n]:Array Value)[j]?:=(fun j=>cell_of_row u1 w.heap.size j _ 51 (0,0) hr);have B1:Hid (Below w.heap.size w u1):=((Below.refl _ _).alloc (Nat.le_refl _) _).trans (d1.mono (by simp));have Z1:Hid (w.heap.size<u1.heap.size):=(by have:=d1.size;simp at this;show w.heap.size<u1.heap.size;omega);clear d1 hr
 obtain⟨z0,hz0⟩:∃ z,z=Pl.aG op rd r1 r2 im false false:=⟨_,rfl⟩
 rw[<- hz0]
 have HZ:Hid (z0=Pl.aG op rd r1 r2 im false false):=hz0
 clear hz0
 cases hie:s.toList.isEmpty <;> cases z0
 all_goals
  go_wp2_with fail
  all_goals
   go_ret
   refine⟨aI (Eq.trans ?_ HR.out.symm),(by first | exact B2.out | exact B1.out)⟩
   have hz0:=HZ.out.symm
   go_light
   clear lY HR HZ
   (try clear tQ)
   first
    | (rw[decide_eq_false (p:=1<=n/\n<=4) (by omega)];simp;done)
    | (rw[decide_eq_true (p:=1<=n/\n<=4) (by omega)];simp_all [Pl.sy,Pl.emp];done)
    | (simp_all [Pl.sy,Pl.emp];done)
    | (simp_all [Pl.sy,Pl.emp] <;> omega)
    | (rw[Bool.eq_iff_iff];simp_all [Pl.sy,Pl.emp] <;> omega)
end Go.Proofs.YtlbomnnldkeocaaGreat.W
