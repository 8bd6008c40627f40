/- Texts of one's own, merged: from: Layer 10 on data: numbers of ticks: the program and the reference. Own work. -/
import Derived.Test.YtnjhelpgohdajaaGreatDoorProg
import Derived.Laws.Bits128
import Derived.Laws.BitsAllLaws
import Derived.Test.YtnjhelpgohdajaaGreatDoorMg17
set_option linter.unusedVariables false
set_option linter.unusedSimpArgs false
namespace Go.Proofs.YtnjhelpgohdajaaGreatDoor
open Go.RowKit IntWalk
theorem ab5 (k:Nat) (M:Int) (hM:(BitVec.ofInt 64 M).toNat=2^k-1) (n:Int) (hk:k<63):bits .and .i64 n M=n%((2^k:Nat):Int):=by
  have key:(BitVec.ofInt 64 n &&& BitVec.ofInt 64 M).toNat=(n%((2^64:Nat):Int)).toNat%2^k:=by
    rw[BitVec.toNat_and,BitVec.toNat_ofInt,hM,Nat.and_two_pow_sub_one_eq_mod]
  show IntKind.i64.wrap ((BitVec.ofInt 64 n &&& BitVec.ofInt 64 M).toNat:Nat)=_
  rw[key,IntKind.wrap_i64];have hd:((2^k:Nat):Int) ∣ ((2^64:Nat):Int):=Int.natCast_dvd_natCast.2 (Nat.pow_dvd_pow 2 (by omega));have hp:0<2^k:=Nat.two_pow_pos k;have hlt:2^k≤2^62:=Nat.pow_le_pow_right (by decide) (by omega);have h0:0≤n%((2^64:Nat):Int):=arN _ (by decide);have e1:(((n%((2^64:Nat):Int)).toNat%2^k:Nat):Int)=n%((2^k:Nat):Int):=by
    rw[Int.natCast_emod,Int.toNat_of_nonneg h0,Int.emod_emod_of_dvd n hd]
  rw[e1];have h1:0≤n%((2^k:Nat):Int):=arN _ (by omega);have h2:n%((2^k:Nat):Int)<((2^k:Nat):Int):=Int.emod_lt_of_pos _ (by omega);have h3:((2^k:Nat):Int)≤4611686018427387904:=by
    have:((2^62:Nat):Int)=4611686018427387904:=by decide
    rw[← this]; exact Int.ofNat_le.2 hlt
  have:=IntWalk.i64_in (n%((2^k:Nat):Int)) (by omega);rw[IntKind.wrap_i64] at this;exact this
theorem Y2 (n:Int):bits .and .i64 n 4294967295=n%4294967296:=ab5 32 4294967295 (by decide) n (by decide)
end Go.Proofs.YtnjhelpgohdajaaGreatDoor
