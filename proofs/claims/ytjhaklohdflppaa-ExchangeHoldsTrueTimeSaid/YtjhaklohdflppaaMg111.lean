/- Texts of one's own, merged: from: Layer 10 on data: numbers of ticks: the program and the reference. Own work. -/
import Derived.Test.YtjhaklohdflppaaProg
import Derived.Laws.Bits128
import Derived.Laws.BitsAllLaws
import Derived.Test.YtjhaklohdflppaaMg17
import Derived.Test.YtjhaklohdflppaaMg110
set_option linter.unusedVariables false
set_option linter.unusedSimpArgs false
namespace Go.Proofs.Ytjhaklohdflppaa
open Go.RowKit IntWalk
theorem Bm (k:Nat) (M:Int) (hM:(BitVec.ofInt 64 M).toNat=2^k-1) (n:Int) (hk:k<63):bits .and .i64 n M=n%((2^k:Nat):Int):=by
  have key:(BitVec.ofInt 64 n &&& BitVec.ofInt 64 M).toNat=(n%((2^64:Nat):Int)).toNat%2^k:=by
    rw[BitVec.toNat_and,BitVec.toNat_ofInt,hM,Nat.and_two_pow_sub_one_eq_mod]
  show IntKind.i64.wrap ((BitVec.ofInt 64 n &&& BitVec.ofInt 64 M).toNat:Nat)=_
  rw[key,IntKind.wrap_i64];have hd:((2^k:Nat):Int) ∣ ((2^64:Nat):Int):=Int.natCast_dvd_natCast.2 (Nat.pow_dvd_pow 2 (by omega));have hp:0<2^k:=Nat.two_pow_pos k;have hlt:2^k≤2^62:=Nat.pow_le_pow_right (by decide) (by omega);have h0:0≤n%((2^64:Nat):Int):=E4 _ (by decide);have e1:(((n%((2^64:Nat):Int)).toNat%2^k:Nat):Int)=n%((2^k:Nat):Int):=by
    rw[Int.natCast_emod,Int.toNat_of_nonneg h0,Int.emod_emod_of_dvd n hd]
  rw[e1];have h1:0≤n%((2^k:Nat):Int):=E4 _ (by omega);have h2:n%((2^k:Nat):Int)<((2^k:Nat):Int):=EZ _ (by omega);have h3:((2^k:Nat):Int)≤4611686018427387904:=by
    have:((2^62:Nat):Int)=4611686018427387904:=by decide
    rw[← this]; exact Int.ofNat_le.2 hlt
  have:=IntWalk.i64_in (n%((2^k:Nat):Int)) (by omega);rw[IntKind.wrap_i64] at this;exact this
theorem yI:IntKind.i64.bits=64:=rfl
theorem ir (a:Int) {b:Int} (h:1≤b):(0≤a.tmod b→a.tdiv b=a / b)∧(a.tmod b<0→a.tdiv b=a / b+1)∧(0<a.tmod b→0≤a.tdiv b∧a.tdiv b<a)∧(a.tmod b<0→a.tdiv b≤0∧a<a.tdiv b)∧(a.tmod b=0→(0≤a→0≤a.tdiv b∧a.tdiv b≤a)∧(a≤0→a.tdiv b≤0∧a≤a.tdiv b)):=by
  have hb:=lr a (show 0<b by omega);unfold iM at hb;have e:=Int.tmod_add_mul_tdiv a b;have up:∀ q:Int,0≤q→q≤b*q:=fun q hq=>by
    have:=Int.mul_le_mul_of_nonneg_right h hq;omega
  have dn:∀ q:Int,q≤0→b*q≤q:=fun q hq=>by
    have:=up (-q) (by omega);rw[Int.mul_neg] at this; omega
  have s1:0≤a→0≤a.tdiv b∧0≤a.tmod b:=fun ha=>⟨Int.tdiv_nonneg ha (by omega),Int.tmod_nonneg b ha⟩
  have s2:a≤0→a.tdiv b≤0∧a.tmod b≤0:=fun ha=>by
    have:=Int.tdiv_nonneg (show 0 ≤ -a by omega) (show 0≤b by omega);have h2:=Int.tmod_nonneg b (show 0 ≤ -a by omega);rw[Int.neg_tdiv] at this;rw[Int.neg_tmod] at h2;omega
  refine⟨fun h0=>?_,fun h0=>?_,fun h0=>?_,fun h0=>?_,fun h0=>⟨fun ha=>?_,fun ha=>?_⟩⟩
  ·rw[if_neg (by omega)] at hb; exact hb
  ·rw[if_pos h0] at hb; omega
  ·have:0≤a:=by
     rcases Int.le_total 0 a with h | h
     ·exact h
     ·have:=(s2 h).2; omega
   have:=s1 this;have:=up _ this.1;omega
  ·have:a≤0:=by
     rcases Int.le_total a 0 with h | h
     ·exact h
     ·have:=(s1 h).2; omega
   have:=s2 this;have:=dn _ this.1;omega
  ·have:=s1 ha;have:=up _ this.1;omega
  ·have:=s2 ha;have:=dn _ this.1;omega
theorem l3 (a:Int) {b:Int} (h:1≤b):cu a b true=if 0<a.tmod b then a.tdiv b+1 else a.tdiv b:=by
  obtain⟨f1,f2,_⟩:=ir a h;unfold cu;by_cases h0:0<a.tmod b
  ·rw[if_pos ⟨rfl,by omega⟩,if_pos h0,f1 (by omega)]
  ·rw[if_neg h0];by_cases h1:a.tmod b=0
   ·rw[if_neg (by intro k; exact k.2 h1),f1 (by omega)]
   ·rw[if_pos ⟨rfl,h1⟩,f2 (by omega)]
theorem l4 (a:Int) {b:Int} (h:1≤b):cu a b false=if a.tmod b<0 then a.tdiv b-1 else a.tdiv b:=by
  have hb:=lr a (show 0<b by omega);unfold iM at hb;unfold cu;rw[if_neg (by intro k; cases k.1)];exact hb.symm
theorem Bn (a:Int) {b:Int} (h:1≤b) (up:Bool) (h1:-9223372036854775808≤a) (h2:a≤9223372036854775807):-9223372036854775808≤cu a b up∧cu a b up≤9223372036854775807:=by
  obtain⟨f1,f2,f3,f4,f5⟩:=ir a h;cases up
  ·rw[l4 a h]; split <;> omega
  ·rw[l3 a h]; split <;> omega
def iN:aV:=⟨3,33,am [aS 6 0] (am [oM 9 0,oM 10 1,aJ .quo 11 9 10,oM 12 0,oM 13 1,aJ .rem 14 12 13,oM 7 11,oM 8 14] (.seq (.block 0 (am [oM 16 2,oM 17 16,aZ 18 8 17 true,db .gtr 19 18 0 17 true,bP 20 17 19,oM 15 20] (bH 15 (am [oM 21 7,aY .add 22 21 1,oM 6 22] .ret) (am [oM 24 2,gd 25 24,oM 26 25,aZ 27 8 26 true,db .lss 28 27 0 26 true,bP 29 26 28,oM 23 29] (bH 23 (am [oM 30 7,aY .sub 31 30 1,oM 6 31] .ret) .skip))))) (am [oM 32 7,oM 6 32] .ret))),[(6,none)]⟩
theorem CV:aR Try.prog {} Try.f40=some iN:=by kernel_rfl
theorem Dx (G:av) (a b:Int) (up:Bool) (h1:-9223372036854775808≤a) (h2:a≤9223372036854775807) (hb:1≤b):bd Try.prog G 40 [.int .i64 a,.int .i64 b,.bool up] (.w (.c (.d (.int .i64 (cu a b up))))):=by
  refine bI Try.func40 CV rfl rfl ?_;obtain⟨f1,f2,f3,f4,f5⟩:=ir a hb;have hb0:b≠0:=by omega
  cases up
  ·rw[l4 a hb];by_cases k:a.tmod b<0
   ·simp only[iN,aw,ah,af,seval,iteOmega,toNatUp,hb0];exact aF
   ·simp only[iN,aw,ah,af,seval,iteOmega,toNatUp,hb0];exact aF
  ·rw[l3 a hb];by_cases k:0<a.tmod b
   ·have hgt:(a.tmod b>0)=True:=eq_true k;simp only[iN,aw,ah,af,seval,iteOmega,toNatUp,hb0,hgt];exact aF
   ·have hgt:(a.tmod b>0)=False:=eq_false k;simp only[iN,aw,ah,af,seval,iteOmega,toNatUp,hb0,hgt];exact aF
def mr:aV:=⟨2,16,am [aS 4 0] (am [oM 6 0,oM 7 1,aJ .quo 8 6 7,oM 5 8] (.seq (am [oM 9 0,oM 10 1,aJ .rem 11 9 10,aY .lss 12 11 0] (bH 12 (.reg [oM 13 5,aY .sub 14 13 1,oM 5 14]) .skip)) (am [oM 15 5,oM 4 15] .ret))),[(4,none)]⟩
theorem B7:aR Try.prog {} Try.f42=some mr:=by kernel_rfl
theorem mL (G:av) (a b:Int) (h1:-9223372036854775808≤a) (h2:a≤9223372036854775807) (hb:1≤b):bd Try.prog G 42 [.int .i64 a,.int .i64 b] (.w (.c (.d (.int .i64 (a / b))))):=by
  refine bI Try.func42 B7 rfl rfl ?_;obtain⟨f1,f2,f3,f4,f5⟩:=ir a hb;have hb0:b≠0:=by omega
  rw[← lr a (by omega)];unfold iM;by_cases k:a.tmod b<0
  ·simp only[mr,aw,ah,af,seval,iteOmega,toNatUp,hb0];exact aF
  ·simp only[mr,aw,ah,af,seval,iteOmega,toNatUp,hb0];exact aF
def jN:aV:=⟨3,21,am [aS 6 0] (am [oM 8 0,oM 9 1,dW 10 42 8 9,oM 7 10] (.seq (am [oM 11 2,oM 12 11,aZ 13 0 12 true,aZ 14 1 12 true,dU .rem 15 13 14 12 true,db .neq 16 15 0 12 true,bP 17 12 16] (bH 17 (.reg [oM 18 7,aY .add 19 18 1,oM 7 19]) .skip)) (am [oM 20 7,oM 6 20] .ret))),[(6,none)]⟩
theorem B8:aR Try.prog {} Try.f41=some jN:=by kernel_rfl
theorem CW (G:av) (a b:Int) (up:Bool) (h1:-9223372036854775808≤a) (h2:a≤9223372036854775807) (hb:1≤b):bd Try.prog G 41 [.int .i64 a,.int .i64 b,.bool up] (.w (.c (.d (.int .i64 (cu a b up))))):=by
  refine bI Try.func41 B8 rfl rfl ?_;have hb0:b≠0:=by omega
  have hl:=Bn a hb up h1 h2;unfold cu at hl ⊢;cases up
  ·simp only[Bool.false_eq_true,false_and,if_false] at hl ⊢;simp only[jN,aw,ah,af,seval,iteOmega,toNatUp];refine sD (mL G a b h1 h2 hb) ?_;exact aF
  ·simp only[true_and] at hl ⊢;by_cases k:a.tmod b=0
   ·rw[if_neg (by omega)];simp only[jN,aw,ah,af,seval,iteOmega,toNatUp];refine sC (mL G a b h1 h2 hb) ?_;simp only[hb0,k,ah,af,seval,iteOmega,toNatUp];exact aF
   ·rw[if_pos k] at hl ⊢;simp only[jN,aw,ah,af,seval,iteOmega,toNatUp];refine sC (mL G a b h1 h2 hb) ?_;simp only[hb0,k,ah,af,seval,iteOmega,toNatUp];exact aF
def aP (t:Int):Bool:=decide (-1152921504606846976≤t∧t≤1152921504606846976)
theorem de {t:Int} (h:-1152921504606846976≤t∧t≤1152921504606846976):aP t=true:=decide_eq_true h
theorem jY {t:Int} (h:¬ (-1152921504606846976≤t∧t≤1152921504606846976)):aP t=false:=decide_eq_false h
def jZ:aV:=⟨1,9,am [dk 2 false] (am [oM 3 0,oO 4 (.bin .geq (.t 3) (.k (.c (.d (.int .i64 (-1152921504606846976)))))),oM 5 4,aZ 6 0 5 true,db .leq 7 6 1152921504606846976 5 true,bP 8 5 7,oM 2 8] .ret),[(2,none)]⟩
theorem CX:aR Try.prog {} Try.f19=some jZ:=by kernel_rfl
theorem d8 (G:av) (t:Int):bd Try.prog G 19 [.int .i64 t] (.w (.c (.d (.bool (aP t))))):=by
  refine bI Try.func19 CX rfl rfl ?_;by_cases h:t ≥ -1152921504606846976
  ·by_cases h2:t≤1152921504606846976
   ·rw[de ⟨h,h2⟩];simp only[jZ,aw,ah,af,seval,iteOmega,toNatUp,eq_true h,eq_true h2];exact aF
   ·rw[jY (by omega)];simp only[jZ,aw,ah,af,seval,iteOmega,toNatUp,eq_true h,eq_false h2];exact aF
  ·rw[jY (by omega)];simp only[jZ,aw,ah,af,seval,iteOmega,toNatUp,eq_false h];exact aF
def jO:aV:=⟨1,9,am [dk 2 false] (am [oM 3 0,oO 4 (.bin .geq (.t 3) (.k (.c (.d (.int .i64 (-1152921504606846976)))))),oM 5 4,aZ 6 0 5 true,db .leq 7 6 1152921504606846976 5 true,bP 8 5 7,oM 2 8] .ret),[(2,none)]⟩
theorem B9:aR Try.prog {} Try.f32=some jO:=by kernel_rfl
theorem gx (G:av) (t:Int):bd Try.prog G 32 [.int .i64 t] (.w (.c (.d (.bool (aP t))))):=by
  refine bI Try.func32 B9 rfl rfl ?_;by_cases h:t ≥ -1152921504606846976
  ·by_cases h2:t≤1152921504606846976
   ·rw[de ⟨h,h2⟩];simp only[jO,aw,ah,af,seval,iteOmega,toNatUp,eq_true h,eq_true h2];exact aF
   ·rw[jY (by omega)];simp only[jO,aw,ah,af,seval,iteOmega,toNatUp,eq_true h,eq_false h2];exact aF
  ·rw[jY (by omega)];simp only[jO,aw,ah,af,seval,iteOmega,toNatUp,eq_false h];exact aF
def ns (a b:Int):Int:=if b<1∨aP a=false then 4 else 0
def nu (a b:Int) (up:Bool):Int:=if b<1∨aP a=false then 0 else cu a b up
def j8:aV:=⟨3,19,am [aS 6 0,aS 7 0] (.seq (am [oM 8 1,aY .lss 9 8 1,oM 10 9,aZ 11 0 10 false,oG 12 (.call 19 [(.t 11)] none) 10 false,jj 13 12 10 false,fm 14 10 13] (bH 14 (am [aS 6 0,aS 7 4] .ret) .skip)) (am [oM 15 0,oM 16 1,oM 17 2,gg 18 40 15 16 17,oM 6 18,aS 7 0] .ret)),[(6,none),(7,none)]⟩
theorem CY:aR Try.prog {} Try.f36=some j8:=by kernel_rfl
theorem xY (G:av) (a b:Int) (up:Bool) (h1:-9223372036854775808≤a) (h2:a≤9223372036854775807):bd Try.prog G 36 [.int .i64 a,.int .i64 b,.bool up] (.tup [.c (.d (.int .i64 (nu a b up))),.c (.d (.int .i64 (ns a b)))]):=by
  refine bI Try.func36 CY rfl rfl ?_;unfold nu ns;by_cases hb:b<1
  ·rw[if_pos (.inl hb),if_pos (.inl hb)];simp only[j8,aw,ah,af,seval,iteOmega,toNatUp];exact dc
  ·cases hv:aP a
   ·rw[if_pos (.inr rfl),if_pos (.inr rfl)];simp only[j8,aw,ah,af,seval,iteOmega,toNatUp];refine sC (d8 G a) ?_;simp only[hv,ah,af,seval,iteOmega,toNatUp];exact dc
   ·rw[if_neg (by simp; omega),if_neg (by simp; omega)];simp only[j8,aw,ah,af,seval,iteOmega,toNatUp];refine sC (d8 G a) ?_;simp only[hv,ah,af,seval,iteOmega,toNatUp];refine sD (Dx G a b up h1 h2 (by omega)) ?_;exact dc
theorem si (a:Int) {b:Int} (h:1≤b) (up:Bool):(0≤a→0≤cu a b up∧cu a b up≤a+1)∧(a≤0→a-1≤cu a b up∧cu a b up≤0):=by
  obtain⟨f1,f2,f3,f4,f5⟩:=ir a h;have s1:0≤a→0≤a.tmod b:=fun ha=>Int.tmod_nonneg b ha
  have s2:a≤0→a.tmod b≤0:=fun ha=>by
    have h2:=Int.tmod_nonneg b (show 0 ≤ -a by omega);rw[Int.neg_tmod] at h2; omega
  cases up
  ·rw[l4 a h]; constructor <;> intro ha <;> split <;> omega
  ·rw[l3 a h]; constructor <;> intro ha <;> split <;> omega
theorem x9 (a b:Int):eP (a,b)=(aP a&&aP b&&decide (a≤b)):=by
  unfold eP aP;rw[← Bool.decide_and,← Bool.decide_and];apply decide_eq_decide.2;omega
theorem Dy {a b:Int} (h:-1152921504606846976≤a∧b≤1152921504606846976∧a≤b):eP (a,b)=true:=decide_eq_true h
def iO:aV:=⟨1,18,am [eM 1 0,dk 2 false] (am [aA 3 0 1,aH 4 3,dV 5 32 4,oM 6 5,cQ 7 1 1 6 true,cP 8 7 6 true,oG 9 (.call 32 [(.t 8)] none) 6 true,bP 10 6 9,oM 11 10,cQ 12 0 1 11 true,cP 13 12 11 true,cQ 14 1 1 11 true,cP 15 14 11 true,dU .leq 16 13 15 11 true,bP 17 11 16,oM 2 17] .ret),[(2,none)]⟩
theorem CZ:aR Try.prog {} Try.f21=some iO:=by kernel_rfl
theorem kj (G:av) (a b:Int):bd Try.prog G 21 [.agg [.int .i64 a,.int .i64 b]] (.w (.c (.d (.bool (eP (a,b)))))):=by
  refine bI Try.func21 CZ rfl rfl ?_;rw[x9];cases h1:aP a
  ·simp only[iO,aw,ah,af,seval,iteOmega,toNatUp];refine sC (gx G a) ?_;simp only[h1,ah,af,seval,iteOmega,toNatUp];exact aF
  ·cases h2:aP b
   ·simp only[iO,aw,ah,af,seval,iteOmega,toNatUp];refine sC (gx G a) ?_;simp only[h1,ah,af,seval,iteOmega,toNatUp];refine sC (gx G b) ?_;simp only[h2,ah,af,seval,iteOmega,toNatUp];exact aF
   ·by_cases h3:a≤b
    ·rw[decide_eq_true h3];simp only[iO,aw,ah,af,seval,iteOmega,toNatUp];refine sC (gx G a) ?_;simp only[h1,ah,af,seval,iteOmega,toNatUp];refine sC (gx G b) ?_;simp only[h2,ah,af,seval,iteOmega,toNatUp];exact aF
    ·rw[decide_eq_false h3];simp only[iO,aw,ah,af,seval,iteOmega,toNatUp];refine sC (gx G a) ?_;simp only[h1,ah,af,seval,iteOmega,toNatUp];refine sC (gx G b) ?_;simp only[h2,ah,af,seval,iteOmega,toNatUp];exact aF
def jf (a b t:Int):Bool:=eP (a,b)&&decide (a≤t∧t≤b)
def iF:aV:=⟨2,19,am [eM 2 0,dk 4 false] (am [da 5 2 2,dV 6 21 5,oM 7 6,cQ 8 0 2 7 true,cP 9 8 7 true,aZ 10 1 7 true,dU .leq 11 9 10 7 true,bP 12 7 11,oM 13 12,aZ 14 1 13 true,cQ 15 1 2 13 true,cP 16 15 13 true,dU .leq 17 14 16 13 true,bP 18 13 17,oM 4 18] .ret),[(4,none)]⟩
theorem Ca:aR Try.prog {} Try.f10=some iF:=by kernel_rfl
theorem C0 (G:av) (a b t:Int):bd Try.prog G 10 [.agg [.int .i64 a,.int .i64 b],.int .i64 t] (.w (.c (.d (.bool (jf a b t))))):=by
  refine bI Try.func10 Ca rfl rfl ?_;unfold jf;cases hv:eP (a,b)
  ·simp only[iF,aw,ah,af,seval,iteOmega,toNatUp];refine sC (kj G a b) ?_;simp only[hv,ah,af,seval,iteOmega,toNatUp];exact aF
  ·by_cases h1:a≤t
   ·by_cases h2:t≤b
    ·rw[decide_eq_true ⟨h1,h2⟩];simp only[iF,aw,ah,af,seval,iteOmega,toNatUp];refine sC (kj G a b) ?_;simp only[hv,ah,af,seval,iteOmega,toNatUp];exact aF
    ·rw[decide_eq_false (by omega)];simp only[iF,aw,ah,af,seval,iteOmega,toNatUp];refine sC (kj G a b) ?_;simp only[hv,ah,af,seval,iteOmega,toNatUp];exact aF
   ·rw[decide_eq_false (by omega)];simp only[iF,aw,ah,af,seval,iteOmega,toNatUp];refine sC (kj G a b) ?_;simp only[hv,ah,af,seval,iteOmega,toNatUp];exact aF
theorem max2 (a c:Int):[c].foldl (fun x y=>if y>x then y else x) a=max a c:=by
  simp only[List.foldl_cons,List.foldl_nil];rw[Int.max_def]; split <;> split <;> omega
theorem min2 (a c:Int):[c].foldl (fun x y=>if y<x then y else x) a=min a c:=by
  simp only[List.foldl_cons,List.foldl_nil];rw[Int.min_def]; split <;> split <;> omega
def cF (k:Bool) (x y:Int):D:=.agg [.int .i64 (if k=true then x else 0),.int .i64 (if k=true then y else 0)]
theorem pY (a:Int) {b:Int}:cu a b false=a / b:=by
  unfold cu; rw[if_neg (by simp)]
theorem Ay (a:Int) {b:Int} (h:0<b):cu a b true=dp a b:=by
  have h5:a.tmod b=0↔a%b=0:=by rw[← Int.dvd_iff_tmod_eq_zero,Int.dvd_iff_emod_eq_zero]
  have e1:=Ft a b;have e2:=E4 a (show b≠0 by omega);have e3:=EZ a h;unfold cu dp;by_cases hz:a%b=0
  ·rw[if_neg (by rw[h5.2 hz]; simp)];have : -a=b * -(a / b):=by rw[Int.mul_neg]; omega
   rw[this,Int.mul_ediv_cancel_left _ (by omega)]; omega
  ·rw[if_pos ⟨rfl,fun e=>hz (h5.1 e)⟩];have key:(b-a%b)+b*(-(a / b)-1) = -a:=by rw[Int.mul_sub,Int.mul_neg]; omega
   have:=(Int.ediv_emod_unique (a := -a) h (r:=b-a%b) (q := -(a / b)-1)).2 ⟨by omega,by omega,by omega⟩;omega
theorem uq (a b:Int) {c:Int} (hc:0<c) (up:Bool):a / c*b+cu ((a-a / c*c)*b) c up=if up=true then dp (a*b) c else a*b / c:=by
  cases up
  ·rw[pY,Bj a b hc]; rfl
  ·rw[Ay _ hc,Bl a b hc]; rfl
theorem sk (a c:Int):a-a / c*c=a%c:=by
  have:=Ft a c;rw[Int.mul_comm] at this; omega
def gE (e d p:Int):Prop:=0≤e∧e≤1152921504606846976∧0≤d∧d≤1152921504606846976∧0≤p∧p≤1000000
instance (e d p:Int):Decidable (gE e d p):=by unfold gE; infer_instance
instance (e d p:Int):Decidable (dS e d p):=by unfold dS; infer_instance
def bA (e d p:Int):Bool:=decide (gE e d p)&&decide (dS e d p)
def cJ (d p:Int):Bool:=decide (0≤d∧d≤576460752303423488∧0≤p∧p≤1000000)
def gF (d p:Int):Int:=if cJ d p=true then 0 else 4
theorem iW {d p:Int} (h:cJ d p=true):0≤d∧d≤576460752303423488∧0≤p∧p≤1000000:=of_decide_eq_true h
theorem mY {d p:Int} (h:0≤d∧d≤576460752303423488∧0≤p∧p≤1000000):cJ d p=true:=decide_eq_true h
theorem hF {d p:Int} (h:¬ (0≤d∧d≤576460752303423488∧0≤p∧p≤1000000)):cJ d p=false:=decide_eq_false h
theorem iP {e d p:Int} (h:bA e d p=true):gE e d p∧dS e d p:=by
  unfold bA at h;rw[Ey] at h;exact⟨of_decide_eq_true h.1,of_decide_eq_true h.2⟩
theorem mM {e d p:Int} (h:gE e d p) (k:dS e d p):bA e d p=true:=by
  unfold bA; rw[decide_eq_true h,decide_eq_true k]; rfl
theorem gX {e d p:Int} (h:¬ gE e d p):bA e d p=false:=by
  unfold bA; rw[decide_eq_false h]; rfl
end Go.Proofs.Ytjhaklohdflppaa
