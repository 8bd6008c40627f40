/- Texts of one's own, merged: from: Layer 16 on data: the program: headers. Own work. -/
import Derived.Test.YtofonnokanoflaaProg
import Derived.Test.YtofonnokanoflaaMg37
import Derived.Test.YtofonnokanoflaaMg39
import Derived.Test.YtofonnokanoflaaMg314
import Derived.Test.YtofonnokanoflaaMg310
import Derived.Test.YtofonnokanoflaaMg316
set_option linter.unusedVariables false
set_option linter.unusedSimpArgs false
namespace Go.Proofs.Ytofonnokanoflaa
open Go.RowKit IntWalk
set_option maxHeartbeats 3200000
def gA (h:Hd):D:=.agg [.int .i64 h.lp,.int .i64 h.vr,.int .i64 h.md,.int .i64 h.st,.int .i64 h.pl,.int .i64 h.pr,.int .u32 (h.rd:Int),.int .u32 (h.rp:Int),.int .u32 (h.ri:Int),.int .u64 (h.rf:Int),.int .u64 (h.og:Int),.int .u64 (h.rc:Int),.int .u64 (h.tr:Int)]
def dV (h:Hd):Int:=if iK h then 0 else 4
def qi (h:Hd):List UInt8:=if iK h then fu h else []
def Gi (l:List UInt8):Int:=if l.length<48 then 1 else if 1280<l.length then 2 else if (qu l).vr=3∨(qu l).vr=4 then 0 else 3
def dR (t:Nat):Hd:=⟨0,4,3,0,6,0,0,0,0,0,0,0,t⟩
theorem LP (h:Hd):iK h=(decide (0≤h.lp∧h.lp≤3)&&(decide (3≤h.vr∧h.vr≤4)&&(decide (0≤h.md∧h.md≤7)&&(decide (0≤h.st∧h.st≤255)&&(decide (-128≤h.pl∧h.pl≤127)&&decide (-128≤h.pr∧h.pr≤127)))))):=by
  unfold iK mU;by_cases k:0≤h.lp∧h.lp≤3∧(h.vr=3∨h.vr=4)∧0≤h.md∧h.md≤7∧0≤h.st∧h.st≤255∧-128≤h.pl∧h.pl≤127∧-128≤h.pr∧h.pr≤127
  ·rw[decide_eq_true k];simp only[show (0≤h.lp∧h.lp≤3) from by omega,show (3≤h.vr∧h.vr≤4) from by omega,show (0≤h.md∧h.md≤7) from by omega,show (0≤h.st∧h.st≤255) from by omega,show (-128≤h.pl∧h.pl≤127) from by omega,show (-128≤h.pr∧h.pr≤127) from by omega];decide
  ·rw[decide_eq_false k]
   symm
   rw[← Bool.not_eq_true];intro e;simp only[Rl,decide_eq_true_eq] at e;exact k (by omega)
def oA:aE:=⟨3,15,.seq (.reg [oO 6 (.mv (.k (.c (.d (.bool false)))))]) (.seq (.reg [oM 7 0,oM 8 1,oO 9 (.bin .leq (.t 7) (.t 8)),oM 10 9,oG 11 (.mv (.t 1)) 10 true,oG 12 (.mv (.t 2)) 10 true,oG 13 (.bin .leq (.t 11) (.t 12)) 10 true,oO 14 (.pick (.t 10) (.t 13) (.k (.c (.d (.bool false))))),oM 6 14]) (.ret)),[(6,none)]⟩
theorem LQ:aD Try.prog { own:=[],comp:=[],frz:=[],nils:=[] } Try.f83=some oA:=by kernel_rfl
theorem mi (G:ak) (a n b:Int):ar Try.prog G 83 [.int .i64 a,.int .i64 n,.int .i64 b] (.w (.c (.d (.bool (decide (a≤n∧n≤b)))))):=by
  refine aF Try.func83 LQ rfl rfl ?_;by_cases h1:a≤n
  ·by_cases h2:n≤b
   ·rw[decide_eq_true ⟨h1,h2⟩];simp only[oA,aj,ae,aa,seval,iteOmega,toNatUp];exact aM
   ·rw[decide_eq_false (fun h=>h2 h.2)];simp only[oA,aj,ae,aa,seval,iteOmega,toNatUp];exact aM
  ·rw[decide_eq_false (fun h=>h1 h.1)];simp only[oA,aj,ae,aa,seval,iteOmega,toNatUp];exact aM
def Ce:aE:=⟨1,5,.seq (.reg [oO 2 (.mv (.k (.c (.d (.bool false)))))]) (.seq (.reg [oM 3 0,oO 4 (.call 83 [(kI 3),(.t 3),(kI 4)] none),oM 2 4]) (.ret)),[(2,none)]⟩
theorem LR:aD Try.prog { own:=[],comp:=[],frz:=[],nils:=[] } Try.f73=some Ce:=by kernel_rfl
theorem NS (G:ak) (n:Int):ar Try.prog G 73 [.int .i64 n] (.w (.c (.d (.bool (decide (3≤n∧n≤4)))))):=by
  refine aF Try.func73 LR rfl rfl ?_;have c:=mi G (3) n 4;generalize decide (3≤n∧n≤4)=b at *
  simp only[Ce,aj,ae,aa,seval,iteOmega,toNatUp];refine sD (c) ?_;exact aM
def Cf:aE:=⟨1,5,.seq (.reg [oO 2 (.mv (.k (.c (.d (.bool false)))))]) (.seq (.reg [oM 3 0,oO 4 (.call 83 [(.k (.c (.d (.int .i64 (-128))))),(.t 3),(kI 127)] none),oM 2 4]) (.ret)),[(2,none)]⟩
theorem LS:aD Try.prog { own:=[],comp:=[],frz:=[],nils:=[] } Try.f91=some Cf:=by kernel_rfl
theorem Es (G:ak) (n:Int):ar Try.prog G 91 [.int .i64 n] (.w (.c (.d (.bool (decide (-128≤n∧n≤127)))))):=by
  refine aF Try.func91 LS rfl rfl ?_;have c:=mi G (-128) n 127;generalize decide (-128≤n∧n≤127)=b at *
  simp only[Cf,aj,ae,aa,seval,iteOmega,toNatUp];refine sD (c) ?_;exact aM
def i5:aE:=⟨1,35,.seq (.reg [oO 1 (.box .roBox (.t 0)),oO 2 (.mv (kI 0))]) (.seq (.seq (.reg [oO 3 (.fieldAddr 0 (.t 1)),oO 4 (.load .sc (.t 3)),oO 5 (.call 83 [(kI 0),(.t 4),(kI 3)] none),oO 6 (.un .not (.t 5)),oM 7 6,oG 8 (.fieldAddr 1 (.t 1)) 7 false,oG 9 (.load .sc (.t 8)) 7 false,oG 10 (.call 73 [(.t 9)] none) 7 false,oG 11 (.un .not (.t 10)) 7 false,oO 12 (.pick (.t 7) (.k (.c (.d (.bool true)))) (.t 11)),oM 13 12,oG 14 (.fieldAddr 2 (.t 1)) 13 false,oG 15 (.load .sc (.t 14)) 13 false,oG 16 (.call 83 [(kI 0),(.t 15),(kI 7)] none) 13 false,oG 17 (.un .not (.t 16)) 13 false,oO 18 (.pick (.t 13) (.k (.c (.d (.bool true)))) (.t 17))]) (.cond (.t 18) (.seq (.reg [oO 2 (.mv (kI 4))]) (.ret)) (.skip))) (.seq (.seq (.reg [oO 19 (.fieldAddr 3 (.t 1)),oO 20 (.load .sc (.t 19)),oO 21 (.call 83 [(kI 0),(.t 20),(kI 255)] none),
 oO 22 (.un .not (.t 21)),oM 23 22,oG 24 (.fieldAddr 4 (.t 1)) 23 false,oG 25 (.load .sc (.t 24)) 23 false,oG 26 (.call 91 [(.t 25)] none) 23 false,oG 27 (.un .not (.t 26)) 23 false,oO 28 (.pick (.t 23) (.k (.c (.d (.bool true)))) (.t 27)),oM 29 28,oG 30 (.fieldAddr 5 (.t 1)) 29 false,oG 31 (.load .sc (.t 30)) 29 false,oG 32 (.call 91 [(.t 31)] none) 29 false,oG 33 (.un .not (.t 32)) 29 false,oO 34 (.pick (.t 29) (.k (.c (.d (.bool true)))) (.t 33))]) (.cond (.t 34) (.seq (.reg [oO 2 (.mv (kI 4))]) (.ret)) (.skip))) (.seq (.reg [oO 2 (.mv (kI 0))]) (.ret)))),[(2,none)]⟩
theorem LU:aD Try.prog { own:=[],comp:=[],frz:=[],nils:=[] } Try.f80=some i5:=by kernel_rfl
theorem NT (G:ak) (h:Hd):ar Try.prog G 80 [gA h] (.w (.c (.d (.int .i64 (dV h))))):=by
  refine aF Try.func80 LU rfl rfl ?_;have c1:=mi G 0 h.lp 3;have c2:=NS G h.vr;have c3:=mi G 0 h.md 7;have c4:=mi G 0 h.st 255;have c5:=Es G h.pl;have c6:=Es G h.pr;have he:dV h=if iK h=true then 0 else 4:=rfl
  rw[LP] at he;unfold gA;generalize decide (0≤h.lp∧h.lp≤3)=b1 at *
  generalize decide (3≤h.vr∧h.vr≤4)=b2 at *
  generalize decide (0≤h.md∧h.md≤7)=b3 at *
  generalize decide (0≤h.st∧h.st≤255)=b4 at *
  generalize decide (-128≤h.pl∧h.pl≤127)=b5 at *
  generalize decide (-128≤h.pr∧h.pr≤127)=b6 at *
  cases b1
  ·rw[he];simp only[i5,aj,ae,aa,seval,iteOmega,toNatUp];refine sD (c1) ?_;exact aM
  cases b2
  ·rw[he];simp only[i5,aj,ae,aa,seval,iteOmega,toNatUp];refine sD (c1) ?_;refine sD (c2) ?_;exact aM
  cases b3
  ·rw[he];simp only[i5,aj,ae,aa,seval,iteOmega,toNatUp];refine sD (c1) ?_;refine sD (c2) ?_;refine sD (c3) ?_;exact aM
  cases b4
  ·rw[he];simp only[i5,aj,ae,aa,seval,iteOmega,toNatUp];refine sD (c1) ?_;refine sD (c2) ?_;refine sD (c3) ?_;refine sD (c4) ?_;exact aM
  cases b5
  ·rw[he];simp only[i5,aj,ae,aa,seval,iteOmega,toNatUp];refine sD (c1) ?_;refine sD (c2) ?_;refine sD (c3) ?_;refine sD (c4) ?_;refine sD (c5) ?_;exact aM
  cases b6
  ·rw[he];simp only[i5,aj,ae,aa,seval,iteOmega,toNatUp];refine sD (c1) ?_;refine sD (c2) ?_;refine sD (c3) ?_;refine sD (c4) ?_;refine sD (c5) ?_;refine sD (c6) ?_;exact aM
  ·rw[he];simp only[i5,aj,ae,aa,seval,iteOmega,toNatUp];refine sD (c1) ?_;refine sD (c2) ?_;refine sD (c3) ?_;refine sD (c4) ?_;refine sD (c5) ?_;refine sD (c6) ?_;exact aM
theorem Py:∀ (l:Fin 4) (v:Fin 8) (m:Fin 8),bits .or .i64 (bits .or .i64 ((l.val*64:Nat):Int) ((v.val*8:Nat):Int)) (m.val:Int)=((l.val*64+v.val*8+m.val:Nat):Int):=by decide +kernel
theorem NU {l v m:Int} (l0:0≤l) (l1:l≤3) (v0:0≤v) (v1:v≤7) (m0:0≤m) (m1:m≤7):bits .or .i64 (bits .or .i64 (l*64) (v*8)) m=l*64+v*8+m:=by
  obtain⟨L,rfl⟩:=RR l0;obtain⟨V,rfl⟩:=RR v0;obtain⟨M,rfl⟩:=RR m0;have:=Py ⟨L,by omega⟩ ⟨V,by omega⟩ ⟨M,by omega⟩
  simpa using this
def Cg:aE:=⟨1,5,.seq (.reg [oO 2 (.alloc [(.d (.int .i64 0)),(.d (.int .i64 0)),(.d (.int .i64 0)),(.d (.int .i64 0)),(.d (.int .i64 0)),(.d (.int .i64 0)),(.d (.int .u32 0)),(.d (.int .u32 0)),(.d (.int .u32 0)),(.d (.int .u64 0)),(.d (.int .u64 0)),(.d (.int .u64 0)),(.d (.int .u64 0))])]) (.seq (.reg [oM 3 0,oO 4 (.build [(.d (.int .i64 0)),(.d (.int .i64 0)),(.d (.int .i64 0)),(.d (.int .i64 0)),(.d (.int .i64 0)),(.d (.int .i64 0)),(.d (.int .u32 0)),(.d (.int .u32 0)),(.d (.int .u32 0)),(.d (.int .u64 0)),(.d (.int .u64 0)),(.d (.int .u64 0)),(.d (.int .u64 0))] [(1,1,(kI 4)),(2,1,(kI 3)),(4,1,(kI 6)),(12,1,(.t 3))]),oN (.store (.ag 13) (.t 2) (.t 4))]) (.ret)),[(2,(some (.ag 13)))]⟩
theorem LV:aD Try.prog { own:=[],comp:=[],frz:=[],nils:=[] } Try.f35=some Cg:=by kernel_rfl
theorem NV (G:ak) (t:Nat):ar Try.prog G 35 [.int .u64 (t:Int)] (.w (.c (.d (gA (dR t))))):=by
  refine aF Try.func35 LV rfl rfl ?_;unfold gA dR;simp only[Cg,aj,ae,aa,seval,iteOmega,toNatUp];exact aM
theorem NW (z:Int):IntKind.u64.wrap z=(((z%18446744073709551616).toNat:Nat):Int):=by
  rw[IntKind.wrap_u64,Int.toNat_of_nonneg (Int.emod_nonneg _ (by decide))]
theorem NY (z:Int):au (z%18446744073709551616).toNat 1=[di z]:=by
  have h:=Int.emod_nonneg z (show (18446744073709551616:Int)≠0 by decide);have e:(z%18446744073709551616)%256=z%256:=Int.emod_emod_of_dvd z (by decide);unfold au di;rw[show List.range 1=[0] from rfl,QX,Ro,Nat.pow_zero,Nat.div_one]
  congr 1
  rw[← UInt8.toNat_inj,UInt8.toNat_ofNat',UInt8.toNat_ofNat'];omega
theorem oY (G:ak) (z:Int):ar Try.prog G 71 [.int .u64 (IntKind.u64.wrap z),.int .i64 1] (.w (.c (.fr 1 (([di z]:List UInt8).map bD)))):=by
  have c:=Ft G (z%18446744073709551616).toNat 1;rw[show qb (z%18446744073709551616).toNat 1=[di z] from NY z,← NW] at c;exact c
def tx:aE:=⟨1,62,.seq (.reg [oO 1 (.box .roBox (.t 0)),oO 2 (.mv (.k (.c .nil))),oO 3 (.mv (kI 0))]) (.seq (.seq (.reg [oO 6 (.load (.ag 13) (.t 1)),oO 7 (.call 80 [(.t 6)] none),oM 4 7]) (.seq (.reg [oM 8 4,oO 9 (.bin .neq (.t 8) (kI 0))]) (.cond (.t 9) (.seq (.reg [oM 10 4,oO 2 (.mv (.k (.c .nil))),oM 3 10]) (.ret)) (.skip)))) (.seq (.reg [oO 11 (.fieldAddr 0 (.t 1)),oO 12 (.load .sc (.t 11)),oO 13 (.bin .shl (.t 12) (.k (.c (.d (.int .u64 6))))),oO 14 (.fieldAddr 1 (.t 1)),oO 15 (.load .sc (.t 14)),oO 16 (.bin .shl (.t 15) (.k (.c (.d (.int .u64 3))))),oO 17 (.bin .or (.t 13) (.t 16)),oO 18 (.fieldAddr 2 (.t 1)),oO 19 (.load .sc (.t 18)),oO 20 (.bin .or (.t 17) (.t 19)),oM 5 20]) (.seq (.reg [oM 21 5,oO 22 (.conv .u64 (.t 21)),oO 23 (.call 71 [(.t 22),(kI 1)] none),oO 24 (.fieldAddr 3 (.t 1)),
 oO 25 (.load .sc (.t 24)),oO 26 (.conv .u64 (.t 25)),oO 27 (.call 71 [(.t 26),(kI 1)] none),oO 28 (.fieldAddr 4 (.t 1)),oO 29 (.load .sc (.t 28)),oO 30 (.conv .u64 (.t 29)),oO 31 (.call 71 [(.t 30),(kI 1)] none),oO 32 (.fieldAddr 5 (.t 1)),oO 33 (.load .sc (.t 32)),oO 34 (.conv .u64 (.t 33)),oO 35 (.call 71 [(.t 34),(kI 1)] none),oO 36 (.fieldAddr 6 (.t 1)),oO 37 (.load .sc (.t 36)),oO 38 (.conv .u64 (.t 37)),oO 39 (.call 71 [(.t 38),(kI 4)] none),oO 40 (.fieldAddr 7 (.t 1)),oO 41 (.load .sc (.t 40)),oO 42 (.conv .u64 (.t 41)),oO 43 (.call 71 [(.t 42),(kI 4)] none),oO 44 (.fieldAddr 8 (.t 1)),oO 45 (.load .sc (.t 44)),oO 46 (.conv .u64 (.t 45)),oO 47 (.call 71 [(.t 46),(kI 4)] none),oO 48 (.fieldAddr 9 (.t 1)),oO 49 (.load .sc (.t 48)),oO 50 (.call 71 [(.t 49),(kI 8)] none),oO 51 (.fieldAddr 10 (.t 1)),
 oO 52 (.load .sc (.t 51)),oO 53 (.call 71 [(.t 52),(kI 8)] none),oO 54 (.fieldAddr 11 (.t 1)),oO 55 (.load .sc (.t 54)),oO 56 (.call 71 [(.t 55),(kI 8)] none),oO 57 (.fieldAddr 12 (.t 1)),oO 58 (.load .sc (.t 57)),oO 59 (.call 71 [(.t 58),(kI 8)] none),oO 60 (.bldSl false 11 1 (.sl []) [(0,(.t 23)),(1,(.t 27)),(2,(.t 31)),(3,(.t 35)),(4,(.t 39)),(5,(.t 43)),(6,(.t 47)),(7,(.t 50)),(8,(.t 53)),(9,(.t 56)),(10,(.t 59))]),oO 61 (.call 30 [(.t 60)] (some (0,1))),oM 2 61,oO 3 (.mv (kI 0))]) (.ret)))),[(2,none),(3,none)]⟩
theorem LW:aD Try.prog { own:=[61],comp:=[],frz:=[],nils:=[] } Try.f67=some tx:=by kernel_rfl
theorem NZ (G:ak) (h:Hd) (hf:qq h):ar Try.prog G 67 [gA h] (.tup [.c (.d (.sl ((qi h).map bD))),.c (.d (.int .i64 (dV h)))]):=by
  refine aF Try.func67 LW rfl rfl ?_;have c1:=NT G h;unfold qi dV at *
  by_cases hv:iK h=true
  ·have hr:mU h:=of_decide_eq_true hv;rw[if_pos hv] at c1 ⊢;rw[if_pos hv];obtain⟨o1,o2,o3,o4,o5,o6,o7,o8,o9,o10,o11⟩:=hr;obtain⟨f1,f2,f3,f4,f5,f6,f7⟩:=hf;have p1:=oY G (h.lp*64+h.vr*8+h.md);have p2:=oY G h.st;have p3:=oY G h.pl;have p4:=oY G h.pr;rw[u64_in _ (by omega) (by omega)] at p1 p2;rw[tQ] at p3 p4;have p5:=fH G h.rd 4 (by decide);have p6:=fH G h.rp 4 (by decide);have p7:=fH G h.ri 4 (by decide);have p8:=fH G h.rf 8 (by decide);have p9:=fH G h.og 8 (by decide);have pA:=fH G h.rc 8 (by decide);have pB:=fH G h.tr 8 (by decide);rw[show (4:Int).toNat=4 from rfl] at p5 p6 p7;rw[show (8:Int).toNat=8 from rfl] at p8 p9 pA pB;have cj:=dt G [[di (h.lp*64+h.vr*8+h.md)],[di h.st],[di h.pl],[di h.pr],au h.rd 4,au h.rp 4,au h.ri 4,au h.rf 8,au h.og 8,au h.rc 8,au h.tr 8] (by simp) (by simp[cR]);have ef:([[di (h.lp*64+h.vr*8+h.md)],[di h.st],[di h.pl],[di h.pr],au h.rd 4,au h.rp 4,au h.ri 4,au h.rf 8,au h.og 8,au h.rc 8,au h.tr 8]:List (List UInt8)).flatten=fu h:=by
     unfold fu qt;simp only[Sk,Sd,Rh,RN,R0]
   rw[ef] at cj;have ho:=NU o1 o2 (v:=h.vr) (by omega) (by omega) o4 o5;unfold gA at *
   generalize fu h=B at *
   generalize au h.rd 4=B5 at *
   generalize au h.rp 4=B6 at *
   generalize au h.ri 4=B7 at *
   generalize au h.rf 8=B8 at *
   generalize au h.og 8=B9 at *
   generalize au h.rc 8=BA at *
   generalize au h.tr 8=BB at *
   generalize [di h.st]=B2 at *
   generalize [di h.pl]=B3 at *
   generalize [di h.pr]=B4 at *
   generalize hF:h.lp*64+h.vr*8+h.md=F at *
   generalize [di F]=B1 at *
   simp only[QX,Ro] at cj;simp only[tx,aj,ae,aa,seval,iteOmega,toNatUp];refine sC (c1) ?_;simp only[ho,IntKind.bits,ae,aa,seval,iteOmega,toNatUp];refine sD (p1) ?_;refine sD (p2) ?_;refine sD (p3) ?_;refine sD (p4) ?_;refine sD (p5) ?_;refine sD (p6) ?_;refine sD (p7) ?_;refine sD (p8) ?_;refine sD (p9) ?_;refine sD (pA) ?_;refine sD (pB) ?_;refine sD (cj) ?_;exact fQ
  ·have hv:iK h=false:=by simpa using hv
   rw[hv] at c1 ⊢;rw[if_neg (by decide:¬ false=true)] at c1;rw[if_neg (by decide:¬ false=true),if_neg (by decide:¬ false=true)];unfold gA at *
   simp only[tx,aj,ae,aa,seval,iteOmega,toNatUp];refine sD (c1) ?_;exact tS (by simp only[ae,aa,seval,iteOmega,toNatUp] <;> rfl) (by simp only[ae,aa,seval,iteOmega,toNatUp])
theorem vu {l:List Fd} {i:Nat} (h:i<l.length):l[i]?=some (l.getD i default):=by
  rw[QW,QT h]; rfl
theorem sG {l:List Fd} {i:Nat} (h:i<l.length):l.getD i default∈l:=by
  rw[QW,QT h];exact Rs h
theorem PC (n:Nat):Int.tdiv ((n:Int)+4-1) 4=(((n+3) / 4:Nat):Int):=by
  rw[Int.tdiv_eq_ediv_of_nonneg (by omega)]; omega
theorem N1 {f:Fd} (h:16<(4+f.da.length+3) / 4*4):bd f=(4+f.da.length+3) / 4*4:=by unfold bd; omega
theorem N2 {f:Fd} (h:(4+f.da.length+3) / 4*4≤16):bd f=16:=by unfold bd; omega
theorem EC {f:Fd} (h:f.ty<0∨65535<f.ty):bI f=4∧gB f=0:=by
  have e:bI f=4:=if_pos h;exact⟨e,by unfold gB; rw[e]; rfl⟩
theorem oZ {f:Fd} (h1:0≤f.ty) (h2:f.ty≤65535) (h:bd f≤1232):bI f=0∧gB f=bd f:=by
  have e:bI f=0:=EB h1 h2 h;exact⟨e,by unfold gB; rw[if_pos e]⟩
theorem L2 {f:Fd} (h1:0≤f.ty) (h2:f.ty≤65535) (h:1232<bd f):bI f=2∧gB f=0:=by
  have e:bI f=2:=by unfold bI; rw[if_neg (by omega),if_pos h]
  exact⟨e,by unfold gB; rw[e]; rfl⟩
def Cq:aE:=⟨1,8,.seq (.reg [oO 2 (.mv (kI 0))]) (.seq (.reg [oM 3 0,oO 4 (.bin .add (.t 3) (kI 4)),oO 5 (.bin .sub (.t 4) (kI 1)),oO 6 (.bin .quo (.t 5) (kI 4)),oO 7 (.bin .mul (.t 6) (kI 4)),oM 2 7]) (.ret)),[(2,none)]⟩
theorem L3:aD Try.prog { own:=[],comp:=[],frz:=[],nils:=[] } Try.f81=some Cq:=by kernel_rfl
theorem N3 (G:ak) (n:Nat) (hn:n≤9000000000000000000):ar Try.prog G 81 [.int .i64 (n:Int)] (.w (.c (.d (.int .i64 (((n+3) / 4*4:Nat):Int))))):=by
  refine aF Try.func81 L3 rfl rfl ?_;have e:=PC n;have hq:(n+3) / 4*4≤n+3:=by omega
  generalize (n+3) / 4=q at *
  simp only[Cq,aj,ae,aa,seval,iteOmega,toNatUp,e];exact aM
def kR:aE:=⟨1,22,.seq (.reg [oO 1 (.box .roBox (.t 0)),oO 2 (.mv (kI 0)),oO 3 (.mv (kI 0))]) (.seq (.seq (.reg [oO 5 (.fieldAddr 0 (.t 1)),oO 6 (.load .sc (.t 5)),oO 7 (.bin .lss (.t 6) (kI 0)),oM 8 7,oG 9 (.fieldAddr 0 (.t 1)) 8 false,oG 10 (.load .sc (.t 9)) 8 false,oG 11 (.bin .gtr (.t 10) (kI 65535)) 8 false,oO 12 (.pick (.t 8) (.k (.c (.d (.bool true)))) (.t 11))]) (.cond (.t 12) (.seq (.reg [oO 2 (.mv (kI 0)),oO 3 (.mv (kI 4))]) (.ret)) (.skip))) (.seq (.reg [oO 13 (.fieldAddr 1 (.t 1)),oO 14 (.load .sc (.t 13)),oO 15 (.len (.t 14)),oO 16 (.bin .add (kI 4) (.t 15)),oO 17 (.call 81 [(.t 16)] none),oO 18 (.max [(kI 16),(.t 17)]),oM 4 18]) (.seq (.seq (.reg [oM 19 4,oO 20 (.bin .gtr (.t 19) (kI 1232))]) (.cond (.t 20) (.seq (.reg [oO 2 (.mv (kI 0)),oO 3 (.mv (kI 2))]) (.ret)) (.skip)))
 (.seq (.reg [oM 21 4,oM 2 21,oO 3 (.mv (kI 0))]) (.ret))))),[(2,none),(3,none)]⟩
theorem L4:aD Try.prog { own:=[],comp:=[],frz:=[],nils:=[] } Try.f68=some kR:=by kernel_rfl
theorem ED (G:ak) (f:Fd) (hd:f.da.length≤8000000000000000000):ar Try.prog G 68 [bH f] (.tup [.c (.d (.int .i64 (gB f:Int))),.c (.d (.int .i64 (bI f)))]):=by
  refine aF Try.func68 L4 rfl rfl ?_;unfold bH;rcases Int.lt_or_le f.ty 0 with h1 | h1
  ·obtain⟨e1,e2⟩:=EC (f:=f) (.inl h1);rw[e1,e2];simp only[kR,aj,ae,aa,seval,iteOmega,toNatUp];exact fQ
  ·rcases Int.lt_or_le 65535 f.ty with h2 | h2
   ·obtain⟨e1,e2⟩:=EC (f:=f) (.inr h2);rw[e1,e2];have g:(f.ty>65535)=True:=eq_true h2;simp only[kR,aj,ae,aa,seval,iteOmega,toNatUp,g];exact fQ
   ·have c:=N3 G (4+f.da.length) (by omega);rw[show ((4+f.da.length:Nat):Int)=4+(f.da.length:Int) by omega] at c;have g:(f.ty>65535)=False:=eq_false (by omega);rcases RD 16 ((4+f.da.length+3) / 4*4) with h3 | h3
    ·have hT:=N1 h3;have hb:(4+f.da.length+3) / 4*4≤4+f.da.length+3:=by omega
     rcases RD 1232 (bd f) with h4 | h4
     ·obtain⟨e1,e2⟩:=L2 h1 h2 h4;rw[e1,e2];rw[hT] at h4;generalize (4+f.da.length+3) / 4*4=Y at *
      have g3:((Y:Int)>16)=True:=eq_true (by omega);have g4:((Y:Int)>1232)=True:=eq_true (by omega);simp only[kR,aj,ae,aa,seval,iteOmega,toNatUp,g];refine sC (c) ?_;simp only[g3,g4,R1,SA,ae,aa,seval,iteOmega,toNatUp];exact fQ
     ·obtain⟨e1,e2⟩:=oZ h1 h2 h4;rw[e1,e2,hT];rw[hT] at h4;generalize (4+f.da.length+3) / 4*4=Y at *
      have g3:((Y:Int)>16)=True:=eq_true (by omega);have g4:((Y:Int)>1232)=False:=eq_false (by omega);simp only[kR,aj,ae,aa,seval,iteOmega,toNatUp,g];refine sC (c) ?_;simp only[g3,g4,R1,SA,ae,aa,seval,iteOmega,toNatUp];exact fQ
    ·have hT:=N2 h3;obtain⟨e1,e2⟩:=oZ h1 h2 (by omega);rw[e1,e2,hT];generalize (4+f.da.length+3) / 4*4=Y at *
     have g3:((Y:Int)>16)=False:=eq_false (by omega);simp only[kR,aj,ae,aa,seval,iteOmega,toNatUp,g];refine sC (c) ?_;simp only[g3,R1,SA,ae,aa,seval,iteOmega,toNatUp];exact fQ
theorem L5 (n:Nat):au 0 n=List.replicate n 0:=by
  unfold au;refine List.ext_getElem (by simp) fun i i1 i2=>?_
  simp
def Cr:aE:=⟨1,30,.seq (.reg [oO 1 (.box .roBox (.t 0)),oO 2 (.mv (.k (.c .nil)))]) (.seq (.reg [oO 7 (.load (.ag 2) (.t 1)),oO 8 (.call 68 [(.t 7)] none),oM 6 8,oO 9 (.extract (.t 6) 0),oO 10 (.extract (.t 6) 1),oM 3 9,oM 4 10]) (.seq (.reg [oM 11 3,oO 12 (.bin .sub (.t 11) (kI 4)),oO 13 (.fieldAddr 1 (.t 1)),oO 14 (.load .sc (.t 13)),oO 15 (.len (.t 14)),oO 16 (.bin .sub (.t 12) (.t 15)),oO 17 (.call 71 [(.k (.c (.d (.int .u64 0)))),(.t 16)] none),oM 5 17]) (.seq (.reg [oO 18 (.fieldAddr 0 (.t 1)),oO 19 (.load .sc (.t 18)),oO 20 (.conv .u64 (.t 19)),oO 21 (.call 71 [(.t 20),(kI 2)] none),oM 22 3,oO 23 (.conv .u64 (.t 22)),oO 24 (.call 71 [(.t 23),(kI 2)] none),oO 25 (.fieldAddr 1 (.t 1)),oO 26 (.load .sc (.t 25)),oM 27 5,oO 28 (.bldSl false 4 1 (.sl []) [(0,(.t 21)),(1,(.t 24)),(2,(.t 26)),(3,(.t 27))]),
 oO 29 (.call 30 [(.t 28)] (some (0,1))),oM 2 29]) (.ret)))),[(2,none)]⟩
theorem L6:aD Try.prog { own:=[29],comp:=[],frz:=[],nils:=[] } Try.f69=some Cr:=by kernel_rfl
theorem N4 (G:ak) (f:Fd) (h:bI f=0):ar Try.prog G 69 [bH f] (.w (.c (.fr 1 ((hH f).map bD)))):=by
  refine aF Try.func69 L6 rfl rfl ?_;obtain⟨h1,h2,h3⟩:=pG h;have hl:=Cn f;have hp:=LX f;have c1:=ED G f (by omega);have eN:gB f=bd f:=(oZ h1 h2 h3).2;rw[h,eN] at c1;have c2:=fH G 0 ((bd f:Int)-4-(f.da.length:Int)) (by omega);rw[show ((bd f:Int)-4-(f.da.length:Int)).toNat=bd f-4-f.da.length by omega,L5] at c2;have c3:=fH G f.ty.toNat 2 (by decide);rw[show (2:Int).toNat=2 from rfl,show (f.ty.toNat:Int)=f.ty by omega] at c3;have c4:=fH G (bd f) 2 (by decide);rw[show (2:Int).toNat=2 from rfl] at c4;have cj:=dt G [au f.ty.toNat 2,au (bd f) 2,f.da,List.replicate (bd f-4-f.da.length) 0] (by simp) (by simp[cR]; omega);have ef:([au f.ty.toNat 2,au (bd f) 2,f.da,List.replicate (bd f-4-f.da.length) 0]:List (List UInt8)).flatten=hH f:=by
    unfold hH;simp only[Sk,Sd,Rh]
  rw[ef] at cj;have n0:gB f≤1232:=by omega
  unfold bH at *
  generalize hH f=B at *
  generalize au f.ty.toNat 2=B1 at *
  generalize au (bd f) 2=B2 at *
  generalize List.replicate (bd f-4-f.da.length) (0:UInt8)=B3 at *
  generalize f.da=da at *
  generalize f.ty=ty at *
  generalize bd f=T at *
  simp only[QX,Ro] at cj;simp only[Cr,aj,ae,aa,seval,iteOmega,toNatUp];refine sD (c1) ?_;refine sD (c2) ?_;refine sD (c3) ?_;refine sD (c4) ?_;refine sD (cj) ?_;exact fq
theorem L9 {l:List Fd} (h0:cO l=0) (h:24<l.length):bp l=8∧ek l=[]:=by
  have e:bp l=8:=by unfold bp; rw[if_pos h0,if_pos h]
  exact⟨e,by unfold ek; rw[e]; rfl⟩
theorem Km {l:List Fd} (h0:cO l=0) (h:l.length≤24) (h2:1232<bz l):bp l=2∧ek l=[]:=by
  have e:bp l=2:=by unfold bp; rw[if_pos h0,if_neg (by omega),if_pos h2]
  exact⟨e,by unfold ek; rw[e]; rfl⟩
theorem Cs {l:List Fd} (h0:cO l=0) (h:l.length≤24) (h2:bz l≤1232):bp l=0∧ek l=bn l:=by
  have e:bp l=0:=by unfold bp; rw[if_pos h0,if_neg (by omega),if_neg (by omega)]
  exact⟨e,by unfold ek; rw[if_pos e]⟩
theorem Ma {l:List Fd} {e:Int} (h0:cO l=e) (h:e≠0):bp l=e∧ek l=[]:=by
  have e:bp l=e:=by unfold bp; rw[h0,if_neg h]
  exact⟨e,by unfold ek; rw[e,if_neg h]⟩
theorem Mb {l:List Fd} (h:cO l=0) {i:Nat} (hi:i<l.length):bI (l.getD i default)=0:=pH.1 h _ (sG hi)
def lr (l:List Fd) (i:Nat):St:=⟨aR [(0,.w (.c (.d (.sl (l.map bH))))),(4,.w (.c (.d (.int .i64 (bz (l.take i):Int))))),(12,.w (.c (.d (.sl (l.map bH))))),(13,.w (.c (.d (.int .i64 (l.length:Int))))),(14,.w (.c (.d (.int .i64 (i:Int)))))],hL [],uL []⟩
def uI (l:List Fd) (i:Nat):St:=⟨aR [(9,.w (.c (.own 1 1 0 (bn (l.take i)).length))),(37,.w (.c (.d (.sl (l.map bH))))),(38,.w (.c (.d (.int .i64 (l.length:Int))))),(39,.w (.c (.d (.int .i64 (i:Int)))))],hL [(1,.row 1 ((bn (l.take i)).map bD))],uL [1]⟩
def kz:aI := .seq (.reg [oO 15 (.bin .lss (.t 14) (.t 13))]) (.seq (.cond (.t 15) (.skip) (.exit 0)) (.seq (.block 1 (.seq (.reg [oO 16 (.idxSl 2 (.t 12) (.t 14)),oO 17 (.load (.ag 2) (.t 16)),oO 6 (.alloc [(.d (.int .i64 0)),.nil]),oN (.store (.ag 2) (.t 6) (.t 17))]) (.seq (.reg [oO 19 (.load (.ag 2) (.t 6)),oO 20 (.call 68 [(.t 19)] none),oM 18 20,oO 21 (.extract (.t 18) 0),oO 22 (.extract (.t 18) 1),oM 7 21,oM 8 22]) (.seq (.seq (.reg [oM 23 8,oO 24 (.bin .neq (.t 23) (kI 0))]) (.cond (.t 24) (.seq (.reg [oM 25 8,oO 2 (.mv (.k (.c .nil))),oM 3 25]) (.ret)) (.skip))) (.reg [oM 26 4,oM 27 7,oO 28 (.bin .add (.t 26) (.t 27)),oM 4 28]))))) (.reg [oO 29 (.bin .add (.t 14) (kI 1)),oM 14 29])))
def rG:aI := .seq (.reg [oO 40 (.bin .lss (.t 39) (.t 38))]) (.seq (.cond (.t 40) (.skip) (.exit 2)) (.seq (.block 3 (.seq (.reg [oO 41 (.idxSl 2 (.t 37) (.t 39)),oO 42 (.load (.ag 2) (.t 41)),oO 11 (.alloc [(.d (.int .i64 0)),.nil]),oN (.store (.ag 2) (.t 11) (.t 42))]) (.reg [oM 43 9,oO 44 (.load (.ag 2) (.t 11)),oO 45 (.call 69 [(.t 44)] none),oO 46 (.app false 1 1 (.t 43) (.t 45)),oM 9 46]))) (.reg [oO 47 (.bin .add (.t 39) (kI 1)),oM 39 47])))
def Ct:aE:=⟨1,49,.seq (.reg [oO 2 (.mv (.k (.c .nil))),oO 3 (.mv (kI 0))]) (.seq (.reg [oO 4 (.mv (kI 0))]) (.seq (.seq (.reg [oM 12 0,oO 13 (.len (.t 12)),oO 14 (.mv (kI 0))]) (.block 0 (.loop kz))) (.seq (.seq (.reg [oM 30 0,oO 31 (.len (.t 30)),oO 32 (.bin .gtr (.t 31) (kI 24))]) (.cond (.t 32) (.seq (.reg [oO 2 (.mv (.k (.c .nil))),oO 3 (.mv (kI 8))]) (.ret)) (.skip))) (.seq (.seq (.reg [oM 33 4,oO 34 (.bin .gtr (.t 33) (kI 1232))]) (.cond (.t 34) (.seq (.reg [oO 2 (.mv (.k (.c .nil))),oO 3 (.mv (kI 2))]) (.ret)) (.skip))) (.seq (.reg [oM 35 4,oO 36 (.make true 1 1 (.int .u8 0) (kI 0) (.t 35)),oM 9 36]) (.seq (.seq (.reg [oM 37 0,oO 38 (.len (.t 37)),oO 39 (.mv (kI 0))]) (.block 2 (.loop rG))) (.seq (.reg [oM 48 9,oM 2 48,oO 3 (.mv (kI 0))]) (.ret)))))))),[(2,none),(3,none)]⟩
theorem Mc:aD Try.prog { own:=[],comp:=[],frz:=[],nils:=[] } Try.f51=some Ct:=by kernel_rfl
theorem N5 (G:ak) (l:List Fd) (hl:l.length≤1000000) (hd:∀ f∈l,f.da.length≤8000000000000000000):ar Try.prog G 51 [.sl (l.map bH)] (.tup [.c (.fr 1 ((ek l).map bD)),.c (.d (.int .i64 (bp l)))]):=by
  refine aF Try.func51 Mc rfl rfl ?_;simp only[Ct,aj,ae,aa,seval,iteOmega,toNatUp];refine bi (lr l) (fun i=>l.length-i) (fun i=>i≤l.length∧cO (l.take i)=0) 0 ⟨Q8 _,rfl⟩ ?_ ?_
  ·refine aC (fun i=>i) ?_ ?_ rfl rfl <;> simp only[wx,aA,aJ,aa,seval,iteOmega,toNatUp,Ki]
  ·rintro i ⟨hi,hok⟩;have hb:=L0 (l.take i) (pH.1 hok);rw[QY,Sl hi] at hb;by_cases hlt:i<l.length
   ·have g:=vu hlt;have c:=ED G (l.getD i default) (hd _ (sG hlt));have ht:=IE hlt;have hf:=Al hlt hok;by_cases he:bI (l.getD i default)=0
    ·obtain⟨q1,q2,q3⟩:=pG he;have eN:gB (l.getD i default)=bd (l.getD i default):=(oZ q1 q2 q3).2;rw[he,eN] at c;rw[he] at hf;unfold bH at c;generalize l.getD i default=x at *
     generalize bd x=T at *
     simp only[kz,lr,ae,aa,seval,iteOmega,toNatUp,aU,g,bH];refine sD (c) ?_;refine aZ (i+1) (by omega) ⟨by omega,hf⟩ (aC (fun i=>i) ?_ ?_ rfl rfl) <;> simp only[wx,aA,aJ,aa,seval,iteOmega,toNatUp,ht]
    ·obtain⟨e1,e2⟩:=Ma (Kl hlt hok he) he;have hne:(bI (l.getD i default)=0)=False:=eq_false he;rw[e1,e2];unfold bH at c;generalize bI (l.getD i default)=e at *
     generalize gB (l.getD i default)=n at *
     generalize l.getD i default=x at *
     simp only[kz,lr,ae,aa,seval,iteOmega,toNatUp,aU,g,bH];refine sC (c) ?_;simp only[hne,ae,aa,seval,iteOmega,toNatUp];exact cx
   ·have hil:l.take i=l:=QZ (by omega);rw[hil] at hok;rcases RD 24 l.length with h24 | h24
    ·obtain⟨e1,e2⟩:=L9 hok h24;rw[e1,e2];have g1:((l.length:Int)>24)=True:=eq_true (by omega);simp only[kz,lr,ae,aa,seval,iteOmega,toNatUp,g1];exact cx
    ·have g1:((l.length:Int)>24)=False:=eq_false (by omega);rcases RD 1232 (bz l) with h12 | h12
     ·obtain⟨e1,e2⟩:=Km hok h24 h12;rw[e1,e2];have g2:((bz l:Int)>1232)=True:=eq_true (by omega);simp only[kz,lr,ae,aa,seval,iteOmega,toNatUp,g1,hil,g2];exact cx
     ·obtain⟨e1,e2⟩:=Cs hok h24 h12;rw[e1,e2];have g2:((bz l:Int)>1232)=False:=eq_false (by omega);simp only[kz,lr,ae,aa,seval,iteOmega,toNatUp,g1,hil,g2];refine bi (uI l) (fun i=>l.length-i) (fun i=>i≤l.length) 0 (Q8 _) ?_ ?_
      ·refine aC (fun _=>288) ?_ ?_ rfl rfl <;> simp only[wx,aA,aJ,aa,seval,iteOmega,toNatUp,Kj]
      ·intro i hi;by_cases hlt:i<l.length
       ·have g:=vu hlt;have c:=jG (N4 G (l.getD i default) (Mb hok hlt));have ha:=IF hlt;have h1:=jC (l.take (i+1));have h2:=LZ l (i+1);rw[ha,QV] at h1;unfold bH at c;generalize l.getD i default=x at *
        generalize hH x=B at *
        simp only[rG,uI,ae,aa,seval,iteOmega,toNatUp,aU,g,bH];refine sC (c) ?_;simp only[bT,ae,aa,seval,iteOmega,toNatUp];refine aZ (i+1) (by omega) (by omega) (aC (fun _=>368) ?_ ?_ rfl rfl) <;> simp only[wx,aA,aJ,aa,seval,iteOmega,toNatUp,ha]
       ·have hil:l.take i=l:=QZ (by omega);simp only[rG,uI,ae,aa,seval,iteOmega,toNatUp,hil];exact cx
theorem ue (G:ak) (l:List Fd) (hl:l.length≤1000000) (hd:∀ f∈l,f.da.length≤8000000000000000000):ar Try.prog G 51 [.sl (l.map bH)] (.tup [.c (.d (.sl ((ek l).map bD))),.c (.d (.int .i64 (bp l)))]):=sW (N5 G l hl hd)
def dW (l:List Fd) (k:Int):Nat→List Int
  | 0=>[]
  | n+1=>dW l k n++(if (l.getD n default).ty=k then [(n:Int)] else [])
def dX (l:List Fd) (k:Int):List Int:=dW l k l.length
theorem Cu (l:List Fd) (k:Int):∀ n,(dW l k n).length≤n
  | 0=>Q5 _
  | n+1=>by
    have:=Cu l k n;rw[dW,QV];split <;> simp <;> omega
theorem PD {l:List Fd} {k:Int} {n:Nat} (h:(l.getD n default).ty=k):dW l k (n+1)=dW l k n++[(n:Int)]:=by rw[dW,if_pos h]
theorem FI {l:List Fd} {k:Int} {n:Nat} (h:(l.getD n default).ty≠k):dW l k (n+1)=dW l k n:=by rw[dW,if_neg h,Rh]
def pI (l:List Fd) (k:Int) (i:Nat):St:=⟨aR [(1,.w (.c (.d (.int .i64 k)))),(5,.w (.c (.own 1 1 0 (dW l k i).length))),(8,.w (.c (.d (.sl (l.map bH))))),(9,.w (.c (.d (.int .i64 (l.length:Int))))),(10,.w (.c (.d (.int .i64 (i:Int)))))],hL [(1,.row 1 ((dW l k i).map zD))],uL [1]⟩
def nF:aI := .seq (.reg [oO 11 (.bin .lss (.t 10) (.t 9))]) (.seq (.cond (.t 11) (.skip) (.exit 0)) (.seq (.block 1 (.seq (.reg [oM 12 10,oO 13 (.idxSl 2 (.t 8) (.t 10)),oO 14 (.load (.ag 2) (.t 13)),oO 7 (.alloc [(.d (.int .i64 0)),.nil]),oM 6 12,oN (.store (.ag 2) (.t 7) (.t 14))]) (.seq (.reg [oO 15 (.fieldAddr 0 (.t 7)),oO 16 (.load .sc (.t 15)),oM 17 1,oO 18 (.bin .eql (.t 16) (.t 17))]) (.cond (.t 18) (.reg [oM 19 5,oM 20 6,oO 21 (.bldSl false 1 1 (.int .i64 0) [(0,(.t 20))]),oO 22 (.app false 1 8 (.t 19) (.t 21)),oM 5 22]) (.skip))))) (.reg [oO 23 (.bin .add (.t 10) (kI 1)),oM 10 23])))
def Cv:aE:=⟨2,25,.seq (.reg [oO 4 (.mv (.k (.c .nil)))]) (.seq (.reg [oO 5 (.nilOwn 1)]) (.seq (.seq (.reg [oM 8 0,oO 9 (.len (.t 8)),oO 10 (.mv (kI 0))]) (.block 0 (.loop nF))) (.seq (.reg [oM 24 5,oM 4 24]) (.ret)))),[(4,none)]⟩
theorem Md:aD Try.prog { own:=[5],comp:=[],frz:=[],nils:=[] } Try.f37=some Cv:=by kernel_rfl
set_option maxHeartbeats 1600000 in
theorem N6 (G:ak) (l:List Fd) (k:Int) (hl:l.length≤1000000):ar Try.prog G 37 [.sl (l.map bH),.int .i64 k] (.w (.c (.d (.sl ((dX l k).map zD))))):=by
  refine aF Try.func37 Md rfl rfl ?_;have e0:dW l k 0=[]:=rfl;simp only[Cv,aj,ae,aa,seval,iteOmega,toNatUp];refine bi (pI l k) (fun i=>l.length-i) (fun i=>i≤l.length) 0 (Q8 _) ?_ ?_
  ·refine aC (fun i=>40) ?_ ?_ rfl rfl <;> simp only[wx,aA,aJ,aa,seval,iteOmega,toNatUp,e0]
  ·intro i hi;have hb:=Cu l k i;have az:=Ke (dW l k i);by_cases hlt:i<l.length
   ·have g:=vu hlt;by_cases hk:(l.getD i default).ty=k
    ·have hs:=PD hk;have hk':((l.getD i default).ty=k)=True:=eq_true hk;generalize l.getD i default=x at *
     simp only[nF,pI,ae,aa,seval,iteOmega,toNatUp,aU,g,bH,hk',bT];refine aZ (i+1) (by omega) (by omega) (aC (fun _=>176) ?_ ?_ rfl rfl) <;> simp only[hs,Rx,zD,wx,aA,aJ,aa,seval,iteOmega,toNatUp]
    ·have hs:=FI hk;have hk':((l.getD i default).ty=k)=False:=eq_false hk;generalize l.getD i default=x at *
     simp only[nF,pI,ae,aa,seval,iteOmega,toNatUp,aU,g,bH,hk',bT];refine aZ (i+1) (by omega) (by omega) (aC (fun i=>i) ?_ ?_ rfl rfl) <;> simp only[hs,wx,aA,aJ,aa,seval,iteOmega,toNatUp]
   ·have hil:i=l.length:=by omega
    have e1:dW l k i=dX l k:=by rw[hil]; rfl
    simp only[nF,pI,ae,aa,seval,iteOmega,toNatUp,e1];exact aM




end Go.Proofs.Ytofonnokanoflaa
