/- Texts of one's own, merged: from: Layer 10 on data: numbers of ticks: the program and the reference. Own work. -/
import Derived.Test.YtjhaklohdflppaaProg
import Derived.Laws.Bits128
import Derived.Laws.BitsAllLaws
import Derived.Test.YtjhaklohdflppaaMg17
import Derived.Test.YtjhaklohdflppaaMg110
set_option linter.unusedVariables false
set_option linter.unusedSimpArgs false
namespace Go.Proofs.Ytjhaklohdflppaa
open Go.RowKit IntWalk
theorem jj (a:Int) {b:Int} (h:1≤b):(0≤a.tmod b→a.tdiv b=a / b)∧(a.tmod b<0→a.tdiv b=a / b+1)∧(0<a.tmod b→0≤a.tdiv b∧a.tdiv b<a)∧(a.tmod b<0→a.tdiv b≤0∧a<a.tdiv b)∧(a.tmod b=0→(0≤a→0≤a.tdiv b∧a.tdiv b≤a)∧(a≤0→a.tdiv b≤0∧a≤a.tdiv b)):=by
  have hb:=mj a (show 0<b by omega);unfold ii at hb;have e:=Int.tmod_add_mul_tdiv a b;have up:∀ q:Int,0≤q→q≤b*q:=fun q hq=>by
    have:=Int.mul_le_mul_of_nonneg_right h hq;omega
  have dn:∀ q:Int,q≤0→b*q≤q:=fun q hq=>by
    have:=up (-q) (by omega);rw[Int.mul_neg] at this; omega
  have s1:0≤a→0≤a.tdiv b∧0≤a.tmod b:=fun ha=>⟨Int.tdiv_nonneg ha (by omega),Int.tmod_nonneg b ha⟩
  have s2:a≤0→a.tdiv b≤0∧a.tmod b≤0:=fun ha=>by
    have:=Int.tdiv_nonneg (show 0 ≤ -a by omega) (show 0≤b by omega);have h2:=Int.tmod_nonneg b (show 0 ≤ -a by omega);rw[Int.neg_tdiv] at this;rw[Int.neg_tmod] at h2;omega
  refine⟨fun h0=>?_,fun h0=>?_,fun h0=>?_,fun h0=>?_,fun h0=>⟨fun ha=>?_,fun ha=>?_⟩⟩
  ·rw[if_neg (by omega)] at hb; exact hb
  ·rw[if_pos h0] at hb; omega
  ·have:0≤a:=by
     rcases Int.le_total 0 a with h | h
     ·exact h
     ·have:=(s2 h).2; omega
   have:=s1 this;have:=up _ this.1;omega
  ·have:a≤0:=by
     rcases Int.le_total a 0 with h | h
     ·exact h
     ·have:=(s1 h).2; omega
   have:=s2 this;have:=dn _ this.1;omega
  ·have:=s1 ha;have:=up _ this.1;omega
  ·have:=s2 ha;have:=dn _ this.1;omega
theorem pK (a:Int) {b:Int} (h:1≤b):cp a b true=if 0<a.tmod b then a.tdiv b+1 else a.tdiv b:=by
  obtain⟨f1,f2,_⟩:=jj a h;unfold cp;by_cases h0:0<a.tmod b
  ·rw[if_pos ⟨rfl,by omega⟩,if_pos h0,f1 (by omega)]
  ·rw[if_neg h0];by_cases h1:a.tmod b=0
   ·rw[if_neg (by intro k; exact k.2 h1),f1 (by omega)]
   ·rw[if_pos ⟨rfl,h1⟩,f2 (by omega)]
theorem pL (a:Int) {b:Int} (h:1≤b):cp a b false=if a.tmod b<0 then a.tdiv b-1 else a.tdiv b:=by
  have hb:=mj a (show 0<b by omega);unfold ii at hb;unfold cp;rw[if_neg (by intro k; cases k.1)];exact hb.symm
def gm:a6:=⟨3,33,al [aT 6 0] (al [oM 9 0,oM 10 1,aW .quo 11 9 10,oM 12 0,oM 13 1,aW .rem 14 12 13,oM 7 11,oM 8 14] (.seq (.block 0 (al [oM 16 2,oM 17 16,cw 18 8 17 true,en .gtr 19 18 0 17 true,b7 20 17 19,oM 15 20] (bY 15 (al [oM 21 7,bW .add 22 21 1,oM 6 22] .ret) (al [oM 24 2,e9 25 24,oM 26 25,cw 27 8 26 true,en .lss 28 27 0 26 true,b7 29 26 28,oM 23 29] (bY 23 (al [oM 30 7,bW .sub 31 30 1,oM 6 31] .ret) .skip))))) (al [oM 32 7,oM 6 32] .ret))),[(6,none)]⟩
theorem Aa:aU Try.prog {} Try.f40=some gm:=by kernel_rfl
theorem AB (G:am) (a b:Int) (up:Bool) (h1:-9223372036854775808≤a) (h2:a≤9223372036854775807) (hb:1≤b):bc Try.prog G 40 [.int .i64 a,.int .i64 b,.bool up] (.w (.c (.d (.int .i64 (cp a b up))))):=by
  refine bL Try.func40 Aa rfl rfl ?_;obtain⟨f1,f2,f3,f4,f5⟩:=jj a hb;have hb0:b≠0:=by omega
  cases up
  ·rw[pL a hb];by_cases k:a.tmod b<0
   ·simp only[gm,aA,ah,af,seval,iteOmega,toNatUp,hb0];exact aF
   ·simp only[gm,aA,ah,af,seval,iteOmega,toNatUp,hb0];exact aF
  ·rw[pK a hb];by_cases k:0<a.tmod b
   ·have hgt:(a.tmod b>0)=True:=eq_true k;simp only[gm,aA,ah,af,seval,iteOmega,toNatUp,hb0,hgt];exact aF
   ·have hgt:(a.tmod b>0)=False:=eq_false k;simp only[gm,aA,ah,af,seval,iteOmega,toNatUp,hb0,hgt];exact aF
def aE (t:Int):Bool:=decide (-1152921504606846976≤t∧t≤1152921504606846976)
theorem dl {t:Int} (h:-1152921504606846976≤t∧t≤1152921504606846976):aE t=true:=decide_eq_true h
theorem ij {t:Int} (h:¬ (-1152921504606846976≤t∧t≤1152921504606846976)):aE t=false:=decide_eq_false h
def ik:a6:=⟨1,9,al [dc 2 false] (al [oM 3 0,oO 4 (.bin .geq (.t 3) (.k (.c (.d (.int .i64 (-1152921504606846976)))))),oM 5 4,cw 6 0 5 true,en .leq 7 6 1152921504606846976 5 true,b7 8 5 7,oM 2 8] .ret),[(2,none)]⟩
theorem Ab:aU Try.prog {} Try.f19=some ik:=by kernel_rfl
theorem c7 (G:am) (t:Int):bc Try.prog G 19 [.int .i64 t] (.w (.c (.d (.bool (aE t))))):=by
  refine bL Try.func19 Ab rfl rfl ?_;by_cases h:t ≥ -1152921504606846976
  ·by_cases h2:t≤1152921504606846976
   ·rw[dl ⟨h,h2⟩];simp only[ik,aA,ah,af,seval,iteOmega,toNatUp,eq_true h,eq_true h2];exact aF
   ·rw[ij (by omega)];simp only[ik,aA,ah,af,seval,iteOmega,toNatUp,eq_true h,eq_false h2];exact aF
  ·rw[ij (by omega)];simp only[ik,aA,ah,af,seval,iteOmega,toNatUp,eq_false h];exact aF
def hY:a6:=⟨1,9,al [dc 2 false] (al [oM 3 0,oO 4 (.bin .geq (.t 3) (.k (.c (.d (.int .i64 (-1152921504606846976)))))),oM 5 4,cw 6 0 5 true,en .leq 7 6 1152921504606846976 5 true,b7 8 5 7,oM 2 8] .ret),[(2,none)]⟩
theorem zy:aU Try.prog {} Try.f32=some hY:=by kernel_rfl
theorem eV (G:am) (t:Int):bc Try.prog G 32 [.int .i64 t] (.w (.c (.d (.bool (aE t))))):=by
  refine bL Try.func32 zy rfl rfl ?_;by_cases h:t ≥ -1152921504606846976
  ·by_cases h2:t≤1152921504606846976
   ·rw[dl ⟨h,h2⟩];simp only[hY,aA,ah,af,seval,iteOmega,toNatUp,eq_true h,eq_true h2];exact aF
   ·rw[ij (by omega)];simp only[hY,aA,ah,af,seval,iteOmega,toNatUp,eq_true h,eq_false h2];exact aF
  ·rw[ij (by omega)];simp only[hY,aA,ah,af,seval,iteOmega,toNatUp,eq_false h];exact aF
def kZ (a b:Int):Int:=if b<1∨aE a=false then 4 else 0
def k7 (a b:Int) (up:Bool):Int:=if b<1∨aE a=false then 0 else cp a b up
def il:a6:=⟨3,19,al [aT 6 0,aT 7 0] (.seq (al [oM 8 1,bW .lss 9 8 1,oM 10 9,cw 11 0 10 false,oG 12 (.call 19 [(.t 11)] none) 10 false,lh 13 12 10 false,iR 14 10 13] (bY 14 (al [aT 6 0,aT 7 4] .ret) .skip)) (al [oM 15 0,oM 16 1,oM 17 2,li 18 40 15 16 17,oM 6 18,aT 7 0] .ret)),[(6,none),(7,none)]⟩
theorem Ac:aU Try.prog {} Try.f36=some il:=by kernel_rfl
theorem vf (G:am) (a b:Int) (up:Bool) (h1:-9223372036854775808≤a) (h2:a≤9223372036854775807):bc Try.prog G 36 [.int .i64 a,.int .i64 b,.bool up] (.tup [.c (.d (.int .i64 (k7 a b up))),.c (.d (.int .i64 (kZ a b)))]):=by
  refine bL Try.func36 Ac rfl rfl ?_;unfold k7 kZ;by_cases hb:b<1
  ·rw[if_pos (.inl hb),if_pos (.inl hb)];simp only[il,aA,ah,af,seval,iteOmega,toNatUp];exact cF
  ·cases hv:aE a
   ·rw[if_pos (.inr rfl),if_pos (.inr rfl)];simp only[il,aA,ah,af,seval,iteOmega,toNatUp];refine sC (c7 G a) ?_;simp only[hv,ah,af,seval,iteOmega,toNatUp];exact cF
   ·rw[if_neg (by simp; omega),if_neg (by simp; omega)];simp only[il,aA,ah,af,seval,iteOmega,toNatUp];refine sC (c7 G a) ?_;simp only[hv,ah,af,seval,iteOmega,toNatUp];refine sD (AB G a b up h1 h2 (by omega)) ?_;exact cF
theorem yK (a:Int) {b:Int} (h:1≤b) (up:Bool):(0≤a→0≤cp a b up∧cp a b up≤a+1)∧(a≤0→a-1≤cp a b up∧cp a b up≤0):=by
  obtain⟨f1,f2,f3,f4,f5⟩:=jj a h;have s1:0≤a→0≤a.tmod b:=fun ha=>Int.tmod_nonneg b ha
  have s2:a≤0→a.tmod b≤0:=fun ha=>by
    have h2:=Int.tmod_nonneg b (show 0 ≤ -a by omega);rw[Int.neg_tmod] at h2; omega
  cases up
  ·rw[pL a h]; constructor <;> intro ha <;> split <;> omega
  ·rw[pK a h]; constructor <;> intro ha <;> split <;> omega
theorem vh (a b:Int):cQ (a,b)=(aE a&&aE b&&decide (a≤b)):=by
  unfold cQ aE;rw[← Bool.decide_and,← Bool.decide_and];apply decide_eq_decide.2;omega
theorem vi {a b:Int} (h:-1152921504606846976≤a∧b≤1152921504606846976∧a≤b):cQ (a,b)=true:=decide_eq_true h
def gn:a6:=⟨1,18,al [du 1 0,dc 2 false] (al [aN 3 0 1,aR 4 3,cN 5 32 4,oM 6 5,cM 7 1 1 6 true,cL 8 7 6 true,oG 9 (.call 32 [(.t 8)] none) 6 true,b7 10 6 9,oM 11 10,cM 12 0 1 11 true,cL 13 12 11 true,cM 14 1 1 11 true,cL 15 14 11 true,fa .leq 16 13 15 11 true,b7 17 11 16,oM 2 17] .ret),[(2,none)]⟩
theorem Ad:aU Try.prog {} Try.f21=some gn:=by kernel_rfl
theorem d8 (G:am) (a b:Int):bc Try.prog G 21 [.agg [.int .i64 a,.int .i64 b]] (.w (.c (.d (.bool (cQ (a,b)))))):=by
  refine bL Try.func21 Ad rfl rfl ?_;rw[vh];cases h1:aE a
  ·simp only[gn,aA,ah,af,seval,iteOmega,toNatUp];refine sC (eV G a) ?_;simp only[h1,ah,af,seval,iteOmega,toNatUp];exact aF
  ·cases h2:aE b
   ·simp only[gn,aA,ah,af,seval,iteOmega,toNatUp];refine sC (eV G a) ?_;simp only[h1,ah,af,seval,iteOmega,toNatUp];refine sC (eV G b) ?_;simp only[h2,ah,af,seval,iteOmega,toNatUp];exact aF
   ·by_cases h3:a≤b
    ·rw[decide_eq_true h3];simp only[gn,aA,ah,af,seval,iteOmega,toNatUp];refine sC (eV G a) ?_;simp only[h1,ah,af,seval,iteOmega,toNatUp];refine sC (eV G b) ?_;simp only[h2,ah,af,seval,iteOmega,toNatUp];exact aF
    ·rw[decide_eq_false h3];simp only[gn,aA,ah,af,seval,iteOmega,toNatUp];refine sC (eV G a) ?_;simp only[h1,ah,af,seval,iteOmega,toNatUp];refine sC (eV G b) ?_;simp only[h2,ah,af,seval,iteOmega,toNatUp];exact aF
def iM (a b c d:Int):Bool:=cQ (a,b)&&cQ (c,d)&&decide (c≤a∧b≤d)
def fp:a6:=⟨2,25,al [du 2 0,du 3 1,dc 4 false] (al [cK 5 2 2,cN 6 21 5,oM 7 6,oG 8 (.load (.ag 2) (.t 3)) 7 true,oG 9 (.call 21 [(.t 8)] none) 7 true,b7 10 7 9,oM 11 10,cM 12 0 3 11 true,cL 13 12 11 true,cM 14 0 2 11 true,cL 15 14 11 true,fa .leq 16 13 15 11 true,b7 17 11 16,oM 18 17,cM 19 1 2 18 true,cL 20 19 18 true,cM 21 1 3 18 true,cL 22 21 18 true,fa .leq 23 20 22 18 true,b7 24 18 23,oM 4 24] .ret),[(4,none)]⟩
theorem zz:aU Try.prog {} Try.f13=some fp:=by kernel_rfl
theorem Ae (G:am) (a b c d:Int):bc Try.prog G 13 [.agg [.int .i64 a,.int .i64 b],.agg [.int .i64 c,.int .i64 d]] (.w (.c (.d (.bool (iM a b c d))))):=by
  refine bL Try.func13 zz rfl rfl ?_;unfold iM;cases hv:cQ (a,b)
  ·simp only[fp,aA,ah,af,seval,iteOmega,toNatUp];refine sC (d8 G a b) ?_;simp only[hv,ah,af,seval,iteOmega,toNatUp];exact aF
  ·cases hv2:cQ (c,d)
   ·simp only[fp,aA,ah,af,seval,iteOmega,toNatUp];refine sC (d8 G a b) ?_;simp only[hv,ah,af,seval,iteOmega,toNatUp];refine sC (d8 G c d) ?_;simp only[hv2,ah,af,seval,iteOmega,toNatUp];exact aF
   ·by_cases h1:c≤a
    ·by_cases h2:b≤d
     ·rw[decide_eq_true ⟨h1,h2⟩];simp only[fp,aA,ah,af,seval,iteOmega,toNatUp];refine sC (d8 G a b) ?_;simp only[hv,ah,af,seval,iteOmega,toNatUp];refine sC (d8 G c d) ?_;simp only[hv2,ah,af,seval,iteOmega,toNatUp];exact aF
     ·rw[decide_eq_false (by omega)];simp only[fp,aA,ah,af,seval,iteOmega,toNatUp];refine sC (d8 G a b) ?_;simp only[hv,ah,af,seval,iteOmega,toNatUp];refine sC (d8 G c d) ?_;simp only[hv2,ah,af,seval,iteOmega,toNatUp];exact aF
    ·rw[decide_eq_false (by omega)];simp only[fp,aA,ah,af,seval,iteOmega,toNatUp];refine sC (d8 G a b) ?_;simp only[hv,ah,af,seval,iteOmega,toNatUp];refine sC (d8 G c d) ?_;simp only[hv2,ah,af,seval,iteOmega,toNatUp];exact aF
theorem max2 (a c:Int):[c].foldl (fun x y=>if y>x then y else x) a=max a c:=by
  simp only[List.foldl_cons,List.foldl_nil];rw[Int.max_def]; split <;> split <;> omega
theorem min2 (a c:Int):[c].foldl (fun x y=>if y<x then y else x) a=min a c:=by
  simp only[List.foldl_cons,List.foldl_nil];rw[Int.min_def]; split <;> split <;> omega
def bZ (k:Bool) (x y:Int):D:=.agg [.int .i64 (if k=true then x else 0),.int .i64 (if k=true then y else 0)]
theorem nv (a:Int) {b:Int}:cp a b false=a / b:=by
  unfold cp; rw[if_neg (by simp)]
theorem xW (a:Int) {b:Int} (h:0<b):cp a b true=cP a b:=by
  have h5:a.tmod b=0↔a%b=0:=by rw[← Int.dvd_iff_tmod_eq_zero,Int.dvd_iff_emod_eq_zero]
  have e1:=Co a b;have e2:=Cq a (show b≠0 by omega);have e3:=Cg a h;unfold cp cP;by_cases hz:a%b=0
  ·rw[if_neg (by rw[h5.2 hz]; simp)];have : -a=b * -(a / b):=by rw[Int.mul_neg]; omega
   rw[this,Int.mul_ediv_cancel_left _ (by omega)]; omega
  ·rw[if_pos ⟨rfl,fun e=>hz (h5.1 e)⟩];have key:(b-a%b)+b*(-(a / b)-1) = -a:=by rw[Int.mul_sub,Int.mul_neg]; omega
   have:=(Int.ediv_emod_unique (a := -a) h (r:=b-a%b) (q := -(a / b)-1)).2 ⟨by omega,by omega,by omega⟩;omega
theorem zA (a b:Int) {c:Int} (hc:0<c) (up:Bool):a / c*b+cp ((a-a / c*c)*b) c up=if up=true then cP (a*b) c else a*b / c:=by
  cases up
  ·rw[nv,yI a b hc]; rfl
  ·rw[xW _ hc,yJ a b hc]; rfl
theorem yL (a c:Int):a-a / c*c=a%c:=by
  have:=Co a c;rw[Int.mul_comm] at this; omega
def vS (e d p:Int):Prop:=0≤e∧e≤1152921504606846976∧0≤d∧d≤1152921504606846976∧0≤p∧p≤1000000
instance (e d p:Int):Decidable (vS e d p):=by unfold vS; infer_instance
instance (e d p:Int):Decidable (fI e d p):=by unfold fI; infer_instance
def cY (d p:Int):Bool:=decide (0≤d∧d≤576460752303423488∧0≤p∧p≤1000000)
def iN (d p:Int):Int:=if cY d p=true then 0 else 4
theorem vj {d p:Int} (h:cY d p=true):0≤d∧d≤576460752303423488∧0≤p∧p≤1000000:=of_decide_eq_true h
theorem kG {d p:Int} (h:0≤d∧d≤576460752303423488∧0≤p∧p≤1000000):cY d p=true:=decide_eq_true h
theorem vk {d p:Int} (h:¬ (0≤d∧d≤576460752303423488∧0≤p∧p≤1000000)):cY d p=false:=decide_eq_false h
end Go.Proofs.Ytjhaklohdflppaa
