import Derived.Test.YtlbomnnldkeocaaGreatI00
set_option maxHeartbeats 16000000
namespace Go.Proofs.YtlbomnnldkeocaaGreat.Pl
open Go.RowKit
theorem wrap64_in (n:Int) (h1 : -9223372036854775808<=n) (h2:n<=9223372036854775807):IntKind.i64.wrap n=n:=IntWalk.i64_in n ⟨h1,h2⟩
theorem JA (x y:Int):bits .and .i64 x y=IntKind.i64.wrap (((BitVec.ofInt 64 x &&& BitVec.ofInt 64 y).toNat:Nat):Int):=rfl
theorem Dh (x:Int) (i:Nat) (hi:i<=62):bits .and .i64 x (2 ^ i-1)=x % 2 ^ i:=by
 have hpos:0<2 ^ i:=Nat.two_pow_pos i
 have hc:((2:Int) ^ i-1)=((2 ^ i-1:Nat):Int):=by rw[Int.natCast_sub hpos];simp
 have hle:(2:Nat) ^ i<=2 ^ 62:=Nat.pow_le_pow_right (by decide) hi
 have Tt:(2:Nat) ^ i ∣ 2 ^ 64:=Nat.pow_dvd_pow 2 (by omega)
 have h64:(2:Nat) ^ 62=4611686018427387904:=by decide
 have h65:(2:Nat) ^ 64=18446744073709551616:=by decide
 have e1:(2 ^ i-1) % 2 ^ 64=2 ^ i-1:=Nat.mod_eq_of_lt (by omega)
 rw[JA,hc]
 simp only[BitVec.ofInt_natCast,BitVec.toNat_and,BitVec.toNat_ofNat,e1,Nat.and_two_pow_sub_one_eq_mod,BitVec.toNat_ofInt]
 have hm:=Nat.mod_lt (x % ((2 ^ 64:Nat):Int)).toNat hpos
 rw[wrap64_in _ (by omega) (by omega)]
 have hx:0<=x % ((2 ^ 64:Nat):Int):=Int.emod_nonneg _ (by omega)
 rw[Int.natCast_emod,Int.toNat_of_nonneg hx]
 have hd':(((2 ^ i:Nat):Int)) ∣ ((2 ^ 64:Nat):Int):=Int.natCast_dvd_natCast.2 Tt
 rw[Int.emod_emod_of_dvd _ hd']
 simp
end Go.Proofs.YtlbomnnldkeocaaGreat.Pl
