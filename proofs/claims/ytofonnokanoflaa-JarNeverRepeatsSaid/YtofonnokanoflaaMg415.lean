/- Texts of one's own, merged: from: Layer 16 on data: the program: headers. Own work. -/
import Derived.Test.YtofonnokanoflaaProg
import Derived.Test.YtofonnokanoflaaMg47
import Derived.Test.YtofonnokanoflaaMg49
import Derived.Test.YtofonnokanoflaaMg414
import Derived.Test.YtofonnokanoflaaMg410
import Derived.Test.YtofonnokanoflaaMg416
set_option linter.unusedVariables false
set_option linter.unusedSimpArgs false
namespace Go.Proofs.Ytofonnokanoflaa
open Go.RowKit IntWalk
set_option maxHeartbeats 3200000
def gI (h:Hd):D:=.agg [.int .i64 h.lp,.int .i64 h.vr,.int .i64 h.md,.int .i64 h.st,.int .i64 h.pl,.int .i64 h.pr,.int .u32 (h.rd:Int),.int .u32 (h.rp:Int),.int .u32 (h.ri:Int),.int .u64 (h.rf:Int),.int .u64 (h.og:Int),.int .u64 (h.rc:Int),.int .u64 (h.tr:Int)]
def ee (h:Hd):Int:=if i6 h then 0 else 4
def qC (h:Hd):List UInt8:=if i6 h then fC h else []
def Gw (l:List UInt8):Int:=if l.length<48 then 1 else if 1280<l.length then 2 else if (qL l).vr=3∨(qL l).vr=4 then 0 else 3
def d7 (t:Nat):Hd:=⟨0,4,3,0,6,0,0,0,0,0,0,0,t⟩
theorem L5 (h:Hd):i6 h=(decide (0≤h.lp∧h.lp≤3)&&(decide (3≤h.vr∧h.vr≤4)&&(decide (0≤h.md∧h.md≤7)&&(decide (0≤h.st∧h.st≤255)&&(decide (-128≤h.pl∧h.pl≤127)&&decide (-128≤h.pr∧h.pr≤127)))))):=by
  unfold i6 ni;by_cases k:0≤h.lp∧h.lp≤3∧(h.vr=3∨h.vr=4)∧0≤h.md∧h.md≤7∧0≤h.st∧h.st≤255∧-128≤h.pl∧h.pl≤127∧-128≤h.pr∧h.pr≤127
  ·rw[decide_eq_true k];simp only[show (0≤h.lp∧h.lp≤3) from by omega,show (3≤h.vr∧h.vr≤4) from by omega,show (0≤h.md∧h.md≤7) from by omega,show (0≤h.st∧h.st≤255) from by omega,show (-128≤h.pl∧h.pl≤127) from by omega,show (-128≤h.pr∧h.pr≤127) from by omega];decide
  ·rw[decide_eq_false k]
   symm
   rw[← Bool.not_eq_true];intro e;simp only[RN,decide_eq_true_eq] at e;exact k (by omega)
def oZ:aG:=⟨3,15,.seq (.reg [oO 6 (.mv (.k (.c (.d (.bool false)))))]) (.seq (.reg [oM 7 0,oM 8 1,oO 9 (.bin .leq (.t 7) (.t 8)),oM 10 9,oG 11 (.mv (.t 1)) 10 true,oG 12 (.mv (.t 2)) 10 true,oG 13 (.bin .leq (.t 11) (.t 12)) 10 true,oO 14 (.pick (.t 10) (.t 13) (.k (.c (.d (.bool false))))),oM 6 14]) (.ret)),[(6,none)]⟩
theorem L6:aD Try.prog { own:=[],comp:=[],frz:=[],nils:=[] } Try.f83=some oZ:=by kernel_rfl
theorem mA (G:ak) (a n b:Int):ap Try.prog G 83 [.int .i64 a,.int .i64 n,.int .i64 b] (.w (.c (.d (.bool (decide (a≤n∧n≤b)))))):=by
  refine aI Try.func83 L6 rfl rfl ?_;by_cases h1:a≤n
  ·by_cases h2:n≤b
   ·rw[decide_eq_true ⟨h1,h2⟩];simp only[oZ,ai,ae,aa,seval,iteOmega,toNatUp];exact aO
   ·rw[decide_eq_false (fun h=>h2 h.2)];simp only[oZ,ai,ae,aa,seval,iteOmega,toNatUp];exact aO
  ·rw[decide_eq_false (fun h=>h1 h.1)];simp only[oZ,ai,ae,aa,seval,iteOmega,toNatUp];exact aO
def Cn:aG:=⟨1,5,.seq (.reg [oO 2 (.mv (.k (.c (.d (.bool false)))))]) (.seq (.reg [oM 3 0,oO 4 (.call 83 [(kI 3),(.t 3),(kI 4)] none),oM 2 4]) (.ret)),[(2,none)]⟩
theorem L9:aD Try.prog { own:=[],comp:=[],frz:=[],nils:=[] } Try.f73=some Cn:=by kernel_rfl
theorem Oc (G:ak) (n:Int):ap Try.prog G 73 [.int .i64 n] (.w (.c (.d (.bool (decide (3≤n∧n≤4)))))):=by
  refine aI Try.func73 L9 rfl rfl ?_;have c:=mA G (3) n 4;generalize decide (3≤n∧n≤4)=b at *
  simp only[Cn,ai,ae,aa,seval,iteOmega,toNatUp];refine sD (c) ?_;exact aO
def Co:aG:=⟨1,5,.seq (.reg [oO 2 (.mv (.k (.c (.d (.bool false)))))]) (.seq (.reg [oM 3 0,oO 4 (.call 83 [(.k (.c (.d (.int .i64 (-128))))),(.t 3),(kI 127)] none),oM 2 4]) (.ret)),[(2,none)]⟩
theorem Ma:aD Try.prog { own:=[],comp:=[],frz:=[],nils:=[] } Try.f91=some Co:=by kernel_rfl
theorem EB (G:ak) (n:Int):ap Try.prog G 91 [.int .i64 n] (.w (.c (.d (.bool (decide (-128≤n∧n≤127)))))):=by
  refine aI Try.func91 Ma rfl rfl ?_;have c:=mA G (-128) n 127;generalize decide (-128≤n∧n≤127)=b at *
  simp only[Co,ai,ae,aa,seval,iteOmega,toNatUp];refine sD (c) ?_;exact aO
def jm:aG:=⟨1,35,.seq (.reg [oO 1 (.box .roBox (.t 0)),oO 2 (.mv (kI 0))]) (.seq (.seq (.reg [oO 3 (.fieldAddr 0 (.t 1)),oO 4 (.load .sc (.t 3)),oO 5 (.call 83 [(kI 0),(.t 4),(kI 3)] none),oO 6 (.un .not (.t 5)),oM 7 6,oG 8 (.fieldAddr 1 (.t 1)) 7 false,oG 9 (.load .sc (.t 8)) 7 false,oG 10 (.call 73 [(.t 9)] none) 7 false,oG 11 (.un .not (.t 10)) 7 false,oO 12 (.pick (.t 7) (.k (.c (.d (.bool true)))) (.t 11)),oM 13 12,oG 14 (.fieldAddr 2 (.t 1)) 13 false,oG 15 (.load .sc (.t 14)) 13 false,oG 16 (.call 83 [(kI 0),(.t 15),(kI 7)] none) 13 false,oG 17 (.un .not (.t 16)) 13 false,oO 18 (.pick (.t 13) (.k (.c (.d (.bool true)))) (.t 17))]) (.cond (.t 18) (.seq (.reg [oO 2 (.mv (kI 4))]) (.ret)) (.skip))) (.seq (.seq (.reg [oO 19 (.fieldAddr 3 (.t 1)),oO 20 (.load .sc (.t 19)),oO 21 (.call 83 [(kI 0),(.t 20),(kI 255)] none),
 oO 22 (.un .not (.t 21)),oM 23 22,oG 24 (.fieldAddr 4 (.t 1)) 23 false,oG 25 (.load .sc (.t 24)) 23 false,oG 26 (.call 91 [(.t 25)] none) 23 false,oG 27 (.un .not (.t 26)) 23 false,oO 28 (.pick (.t 23) (.k (.c (.d (.bool true)))) (.t 27)),oM 29 28,oG 30 (.fieldAddr 5 (.t 1)) 29 false,oG 31 (.load .sc (.t 30)) 29 false,oG 32 (.call 91 [(.t 31)] none) 29 false,oG 33 (.un .not (.t 32)) 29 false,oO 34 (.pick (.t 29) (.k (.c (.d (.bool true)))) (.t 33))]) (.cond (.t 34) (.seq (.reg [oO 2 (.mv (kI 4))]) (.ret)) (.skip))) (.seq (.reg [oO 2 (.mv (kI 0))]) (.ret)))),[(2,none)]⟩
theorem Mb:aD Try.prog { own:=[],comp:=[],frz:=[],nils:=[] } Try.f80=some jm:=by kernel_rfl
theorem Od (G:ak) (h:Hd):ap Try.prog G 80 [gI h] (.w (.c (.d (.int .i64 (ee h))))):=by
  refine aI Try.func80 Mb rfl rfl ?_;have c1:=mA G 0 h.lp 3;have c2:=Oc G h.vr;have c3:=mA G 0 h.md 7;have c4:=mA G 0 h.st 255;have c5:=EB G h.pl;have c6:=EB G h.pr;have he:ee h=if i6 h=true then 0 else 4:=rfl
  rw[L5] at he;unfold gI;generalize decide (0≤h.lp∧h.lp≤3)=b1 at *
  generalize decide (3≤h.vr∧h.vr≤4)=b2 at *
  generalize decide (0≤h.md∧h.md≤7)=b3 at *
  generalize decide (0≤h.st∧h.st≤255)=b4 at *
  generalize decide (-128≤h.pl∧h.pl≤127)=b5 at *
  generalize decide (-128≤h.pr∧h.pr≤127)=b6 at *
  cases b1
  ·rw[he];simp only[jm,ai,ae,aa,seval,iteOmega,toNatUp];refine sD (c1) ?_;exact aO
  cases b2
  ·rw[he];simp only[jm,ai,ae,aa,seval,iteOmega,toNatUp];refine sD (c1) ?_;refine sD (c2) ?_;exact aO
  cases b3
  ·rw[he];simp only[jm,ai,ae,aa,seval,iteOmega,toNatUp];refine sD (c1) ?_;refine sD (c2) ?_;refine sD (c3) ?_;exact aO
  cases b4
  ·rw[he];simp only[jm,ai,ae,aa,seval,iteOmega,toNatUp];refine sD (c1) ?_;refine sD (c2) ?_;refine sD (c3) ?_;refine sD (c4) ?_;exact aO
  cases b5
  ·rw[he];simp only[jm,ai,ae,aa,seval,iteOmega,toNatUp];refine sD (c1) ?_;refine sD (c2) ?_;refine sD (c3) ?_;refine sD (c4) ?_;refine sD (c5) ?_;exact aO
  cases b6
  ·rw[he];simp only[jm,ai,ae,aa,seval,iteOmega,toNatUp];refine sD (c1) ?_;refine sD (c2) ?_;refine sD (c3) ?_;refine sD (c4) ?_;refine sD (c5) ?_;refine sD (c6) ?_;exact aO
  ·rw[he];simp only[jm,ai,ae,aa,seval,iteOmega,toNatUp];refine sD (c1) ?_;refine sD (c2) ?_;refine sD (c3) ?_;refine sD (c4) ?_;refine sD (c5) ?_;refine sD (c6) ?_;exact aO
theorem PR:∀ (l:Fin 4) (v:Fin 8) (m:Fin 8),bits .or .i64 (bits .or .i64 ((l.val*64:Nat):Int) ((v.val*8:Nat):Int)) (m.val:Int)=((l.val*64+v.val*8+m.val:Nat):Int):=by decide +kernel
theorem Oe {l v m:Int} (l0:0≤l) (l1:l≤3) (v0:0≤v) (v1:v≤7) (m0:0≤m) (m1:m≤7):bits .or .i64 (bits .or .i64 (l*64) (v*8)) m=l*64+v*8+m:=by
  obtain⟨L,rfl⟩:=Sm l0;obtain⟨V,rfl⟩:=Sm v0;obtain⟨M,rfl⟩:=Sm m0;have:=PR ⟨L,by omega⟩ ⟨V,by omega⟩ ⟨M,by omega⟩
  simpa using this
def Cq:aG:=⟨1,5,.seq (.reg [oO 2 (.alloc [(.d (.int .i64 0)),(.d (.int .i64 0)),(.d (.int .i64 0)),(.d (.int .i64 0)),(.d (.int .i64 0)),(.d (.int .i64 0)),(.d (.int .u32 0)),(.d (.int .u32 0)),(.d (.int .u32 0)),(.d (.int .u64 0)),(.d (.int .u64 0)),(.d (.int .u64 0)),(.d (.int .u64 0))])]) (.seq (.reg [oM 3 0,oO 4 (.build [(.d (.int .i64 0)),(.d (.int .i64 0)),(.d (.int .i64 0)),(.d (.int .i64 0)),(.d (.int .i64 0)),(.d (.int .i64 0)),(.d (.int .u32 0)),(.d (.int .u32 0)),(.d (.int .u32 0)),(.d (.int .u64 0)),(.d (.int .u64 0)),(.d (.int .u64 0)),(.d (.int .u64 0))] [(1,1,(kI 4)),(2,1,(kI 3)),(4,1,(kI 6)),(12,1,(.t 3))]),oN (.store (.ag 13) (.t 2) (.t 4))]) (.ret)),[(2,(some (.ag 13)))]⟩
theorem Mc:aD Try.prog { own:=[],comp:=[],frz:=[],nils:=[] } Try.f35=some Cq:=by kernel_rfl
theorem Of (G:ak) (t:Nat):ap Try.prog G 35 [.int .u64 (t:Int)] (.w (.c (.d (gI (d7 t))))):=by
  refine aI Try.func35 Mc rfl rfl ?_;unfold gI d7;simp only[Cq,ai,ae,aa,seval,iteOmega,toNatUp];exact aO
theorem Og (z:Int):IntKind.u64.wrap z=(((z%18446744073709551616).toNat:Nat):Int):=by
  rw[IntKind.wrap_u64,Int.toNat_of_nonneg (Int.emod_nonneg _ (by decide))]
theorem Oh (z:Int):aw (z%18446744073709551616).toNat 1=[dt z]:=by
  have h:=Int.emod_nonneg z (show (18446744073709551616:Int)≠0 by decide);have e:(z%18446744073709551616)%256=z%256:=Int.emod_emod_of_dvd z (by decide);unfold aw dt;rw[show List.range 1=[0] from rfl,Rl,RP,Nat.pow_zero,Nat.div_one]
  congr 1
  rw[← UInt8.toNat_inj,UInt8.toNat_ofNat',UInt8.toNat_ofNat'];omega
theorem py (G:ak) (z:Int):ap Try.prog G 71 [.int .u64 (IntKind.u64.wrap z),.int .i64 1] (.w (.c (.fr 1 (([dt z]:List UInt8).map bD)))):=by
  have c:=FD G (z%18446744073709551616).toNat 1;rw[show qv (z%18446744073709551616).toNat 1=[dt z] from Oh z,← Og] at c;exact c
def tN:aG:=⟨1,62,.seq (.reg [oO 1 (.box .roBox (.t 0)),oO 2 (.mv (.k (.c .nil))),oO 3 (.mv (kI 0))]) (.seq (.seq (.reg [oO 6 (.load (.ag 13) (.t 1)),oO 7 (.call 80 [(.t 6)] none),oM 4 7]) (.seq (.reg [oM 8 4,oO 9 (.bin .neq (.t 8) (kI 0))]) (.cond (.t 9) (.seq (.reg [oM 10 4,oO 2 (.mv (.k (.c .nil))),oM 3 10]) (.ret)) (.skip)))) (.seq (.reg [oO 11 (.fieldAddr 0 (.t 1)),oO 12 (.load .sc (.t 11)),oO 13 (.bin .shl (.t 12) (.k (.c (.d (.int .u64 6))))),oO 14 (.fieldAddr 1 (.t 1)),oO 15 (.load .sc (.t 14)),oO 16 (.bin .shl (.t 15) (.k (.c (.d (.int .u64 3))))),oO 17 (.bin .or (.t 13) (.t 16)),oO 18 (.fieldAddr 2 (.t 1)),oO 19 (.load .sc (.t 18)),oO 20 (.bin .or (.t 17) (.t 19)),oM 5 20]) (.seq (.reg [oM 21 5,oO 22 (.conv .u64 (.t 21)),oO 23 (.call 71 [(.t 22),(kI 1)] none),oO 24 (.fieldAddr 3 (.t 1)),
 oO 25 (.load .sc (.t 24)),oO 26 (.conv .u64 (.t 25)),oO 27 (.call 71 [(.t 26),(kI 1)] none),oO 28 (.fieldAddr 4 (.t 1)),oO 29 (.load .sc (.t 28)),oO 30 (.conv .u64 (.t 29)),oO 31 (.call 71 [(.t 30),(kI 1)] none),oO 32 (.fieldAddr 5 (.t 1)),oO 33 (.load .sc (.t 32)),oO 34 (.conv .u64 (.t 33)),oO 35 (.call 71 [(.t 34),(kI 1)] none),oO 36 (.fieldAddr 6 (.t 1)),oO 37 (.load .sc (.t 36)),oO 38 (.conv .u64 (.t 37)),oO 39 (.call 71 [(.t 38),(kI 4)] none),oO 40 (.fieldAddr 7 (.t 1)),oO 41 (.load .sc (.t 40)),oO 42 (.conv .u64 (.t 41)),oO 43 (.call 71 [(.t 42),(kI 4)] none),oO 44 (.fieldAddr 8 (.t 1)),oO 45 (.load .sc (.t 44)),oO 46 (.conv .u64 (.t 45)),oO 47 (.call 71 [(.t 46),(kI 4)] none),oO 48 (.fieldAddr 9 (.t 1)),oO 49 (.load .sc (.t 48)),oO 50 (.call 71 [(.t 49),(kI 8)] none),oO 51 (.fieldAddr 10 (.t 1)),
 oO 52 (.load .sc (.t 51)),oO 53 (.call 71 [(.t 52),(kI 8)] none),oO 54 (.fieldAddr 11 (.t 1)),oO 55 (.load .sc (.t 54)),oO 56 (.call 71 [(.t 55),(kI 8)] none),oO 57 (.fieldAddr 12 (.t 1)),oO 58 (.load .sc (.t 57)),oO 59 (.call 71 [(.t 58),(kI 8)] none),oO 60 (.bldSl false 11 1 (.sl []) [(0,(.t 23)),(1,(.t 27)),(2,(.t 31)),(3,(.t 35)),(4,(.t 39)),(5,(.t 43)),(6,(.t 47)),(7,(.t 50)),(8,(.t 53)),(9,(.t 56)),(10,(.t 59))]),oO 61 (.call 30 [(.t 60)] (some (0,1))),oM 2 61,oO 3 (.mv (kI 0))]) (.ret)))),[(2,none),(3,none)]⟩
theorem Md:aD Try.prog { own:=[61],comp:=[],frz:=[],nils:=[] } Try.f67=some tN:=by kernel_rfl
theorem Oi (G:ak) (h:Hd) (hf:qJ h):ap Try.prog G 67 [gI h] (.tup [.c (.d (.sl ((qC h).map bD))),.c (.d (.int .i64 (ee h)))]):=by
  refine aI Try.func67 Md rfl rfl ?_;have c1:=Od G h;unfold qC ee at *
  by_cases hv:i6 h=true
  ·have hr:ni h:=of_decide_eq_true hv;rw[if_pos hv] at c1 ⊢;rw[if_pos hv];obtain⟨o1,o2,o3,o4,o5,o6,o7,o8,o9,o10,o11⟩:=hr;obtain⟨f1,f2,f3,f4,f5,f6,f7⟩:=hf;have p1:=py G (h.lp*64+h.vr*8+h.md);have p2:=py G h.st;have p3:=py G h.pl;have p4:=py G h.pr;rw[u64_in _ (by omega) (by omega)] at p1 p2;rw[t9] at p3 p4;have p5:=fR G h.rd 4 (by decide);have p6:=fR G h.rp 4 (by decide);have p7:=fR G h.ri 4 (by decide);have p8:=fR G h.rf 8 (by decide);have p9:=fR G h.og 8 (by decide);have pA:=fR G h.rc 8 (by decide);have pB:=fR G h.tr 8 (by decide);rw[show (4:Int).toNat=4 from rfl] at p5 p6 p7;rw[show (8:Int).toNat=8 from rfl] at p8 p9 pA pB;have cj:=dw G [[dt (h.lp*64+h.vr*8+h.md)],[dt h.st],[dt h.pl],[dt h.pr],aw h.rd 4,aw h.rp 4,aw h.ri 4,aw h.rf 8,aw h.og 8,aw h.rc 8,aw h.tr 8] (by simp) (by simp[cX]);have ef:([[dt (h.lp*64+h.vr*8+h.md)],[dt h.st],[dt h.pl],[dt h.pr],aw h.rd 4,aw h.rp 4,aw h.ri 4,aw h.rf 8,aw h.og 8,aw h.rc 8,aw h.tr 8]:List (List UInt8)).flatten=fC h:=by
     unfold fC qK;simp only[Sv,Sr,RG,Rn,Rq]
   rw[ef] at cj;have ho:=Oe o1 o2 (v:=h.vr) (by omega) (by omega) o4 o5;unfold gI at *
   generalize fC h=B at *
   generalize aw h.rd 4=B5 at *
   generalize aw h.rp 4=B6 at *
   generalize aw h.ri 4=B7 at *
   generalize aw h.rf 8=B8 at *
   generalize aw h.og 8=B9 at *
   generalize aw h.rc 8=BA at *
   generalize aw h.tr 8=BB at *
   generalize [dt h.st]=B2 at *
   generalize [dt h.pl]=B3 at *
   generalize [dt h.pr]=B4 at *
   generalize hF:h.lp*64+h.vr*8+h.md=F at *
   generalize [dt F]=B1 at *
   simp only[Rl,RP] at cj;simp only[tN,ai,ae,aa,seval,iteOmega,toNatUp];refine sC (c1) ?_;simp only[ho,IntKind.bits,ae,aa,seval,iteOmega,toNatUp];refine sD (p1) ?_;refine sD (p2) ?_;refine sD (p3) ?_;refine sD (p4) ?_;refine sD (p5) ?_;refine sD (p6) ?_;refine sD (p7) ?_;refine sD (p8) ?_;refine sD (p9) ?_;refine sD (pA) ?_;refine sD (pB) ?_;refine sD (cj) ?_;exact dc
  ·have hv:i6 h=false:=by simpa using hv
   rw[hv] at c1 ⊢;rw[if_neg (by decide:¬ false=true)] at c1;rw[if_neg (by decide:¬ false=true),if_neg (by decide:¬ false=true)];unfold gI at *
   simp only[tN,ai,ae,aa,seval,iteOmega,toNatUp];refine sD (c1) ?_;exact uc (by simp only[ae,aa,seval,iteOmega,toNatUp] <;> rfl) (by simp only[ae,aa,seval,iteOmega,toNatUp])
theorem vF {l:List Fd} {i:Nat} (h:i<l.length):l[i]?=some (l.getD i default):=by
  rw[Rj,Rh h]; rfl
theorem sW {l:List Fd} {i:Nat} (h:i<l.length):l.getD i default∈l:=by
  rw[Rj,Rh h];exact RR h
theorem PT (n:Nat):Int.tdiv ((n:Int)+4-1) 4=(((n+3) / 4:Nat):Int):=by
  rw[Int.tdiv_eq_ediv_of_nonneg (by omega)]; omega
theorem Ol {f:Fd} (h:16<(4+f.da.length+3) / 4*4):be f=(4+f.da.length+3) / 4*4:=by unfold be; omega
theorem Om {f:Fd} (h:(4+f.da.length+3) / 4*4≤16):be f=16:=by unfold be; omega
theorem EL {f:Fd} (h:f.ty<0∨65535<f.ty):bO f=4∧gL f=0:=by
  have e:bO f=4:=if_pos h;exact⟨e,by unfold gL; rw[e]; rfl⟩
theorem pz {f:Fd} (h1:0≤f.ty) (h2:f.ty≤65535) (h:be f≤1232):bO f=0∧gL f=be f:=by
  have e:bO f=0:=EK h1 h2 h;exact⟨e,by unfold gL; rw[if_pos e]⟩
theorem Mi {f:Fd} (h1:0≤f.ty) (h2:f.ty≤65535) (h:1232<be f):bO f=2∧gL f=0:=by
  have e:bO f=2:=by unfold bO; rw[if_neg (by omega),if_pos h]
  exact⟨e,by unfold gL; rw[e]; rfl⟩
def Cz:aG:=⟨1,8,.seq (.reg [oO 2 (.mv (kI 0))]) (.seq (.reg [oM 3 0,oO 4 (.bin .add (.t 3) (kI 4)),oO 5 (.bin .sub (.t 4) (kI 1)),oO 6 (.bin .quo (.t 5) (kI 4)),oO 7 (.bin .mul (.t 6) (kI 4)),oM 2 7]) (.ret)),[(2,none)]⟩
theorem Mj:aD Try.prog { own:=[],comp:=[],frz:=[],nils:=[] } Try.f81=some Cz:=by kernel_rfl
theorem On (G:ak) (n:Nat) (hn:n≤9000000000000000000):ap Try.prog G 81 [.int .i64 (n:Int)] (.w (.c (.d (.int .i64 (((n+3) / 4*4:Nat):Int))))):=by
  refine aI Try.func81 Mj rfl rfl ?_;have e:=PT n;have hq:(n+3) / 4*4≤n+3:=by omega
  generalize (n+3) / 4=q at *
  simp only[Cz,ai,ae,aa,seval,iteOmega,toNatUp,e];exact aO
def kW:aG:=⟨1,22,.seq (.reg [oO 1 (.box .roBox (.t 0)),oO 2 (.mv (kI 0)),oO 3 (.mv (kI 0))]) (.seq (.seq (.reg [oO 5 (.fieldAddr 0 (.t 1)),oO 6 (.load .sc (.t 5)),oO 7 (.bin .lss (.t 6) (kI 0)),oM 8 7,oG 9 (.fieldAddr 0 (.t 1)) 8 false,oG 10 (.load .sc (.t 9)) 8 false,oG 11 (.bin .gtr (.t 10) (kI 65535)) 8 false,oO 12 (.pick (.t 8) (.k (.c (.d (.bool true)))) (.t 11))]) (.cond (.t 12) (.seq (.reg [oO 2 (.mv (kI 0)),oO 3 (.mv (kI 4))]) (.ret)) (.skip))) (.seq (.reg [oO 13 (.fieldAddr 1 (.t 1)),oO 14 (.load .sc (.t 13)),oO 15 (.len (.t 14)),oO 16 (.bin .add (kI 4) (.t 15)),oO 17 (.call 81 [(.t 16)] none),oO 18 (.max [(kI 16),(.t 17)]),oM 4 18]) (.seq (.seq (.reg [oM 19 4,oO 20 (.bin .gtr (.t 19) (kI 1232))]) (.cond (.t 20) (.seq (.reg [oO 2 (.mv (kI 0)),oO 3 (.mv (kI 2))]) (.ret)) (.skip)))
 (.seq (.reg [oM 21 4,oM 2 21,oO 3 (.mv (kI 0))]) (.ret))))),[(2,none),(3,none)]⟩
theorem Mk:aD Try.prog { own:=[],comp:=[],frz:=[],nils:=[] } Try.f68=some kW:=by kernel_rfl
theorem EM (G:ak) (f:Fd) (hd:f.da.length≤8000000000000000000):ap Try.prog G 68 [bN f] (.tup [.c (.d (.int .i64 (gL f:Int))),.c (.d (.int .i64 (bO f)))]):=by
  refine aI Try.func68 Mk rfl rfl ?_;unfold bN;rcases Int.lt_or_le f.ty 0 with h1 | h1
  ·obtain⟨e1,e2⟩:=EL (f:=f) (.inl h1);rw[e1,e2];simp only[kW,ai,ae,aa,seval,iteOmega,toNatUp];exact dc
  ·rcases Int.lt_or_le 65535 f.ty with h2 | h2
   ·obtain⟨e1,e2⟩:=EL (f:=f) (.inr h2);rw[e1,e2];have g:(f.ty>65535)=True:=eq_true h2;simp only[kW,ai,ae,aa,seval,iteOmega,toNatUp,g];exact dc
   ·have c:=On G (4+f.da.length) (by omega);rw[show ((4+f.da.length:Nat):Int)=4+(f.da.length:Int) by omega] at c;have g:(f.ty>65535)=False:=eq_false (by omega);rcases R7 16 ((4+f.da.length+3) / 4*4) with h3 | h3
    ·have hT:=Ol h3;have hb:(4+f.da.length+3) / 4*4≤4+f.da.length+3:=by omega
     rcases R7 1232 (be f) with h4 | h4
     ·obtain⟨e1,e2⟩:=Mi h1 h2 h4;rw[e1,e2];rw[hT] at h4;generalize (4+f.da.length+3) / 4*4=Y at *
      have g3:((Y:Int)>16)=True:=eq_true (by omega);have g4:((Y:Int)>1232)=True:=eq_true (by omega);simp only[kW,ai,ae,aa,seval,iteOmega,toNatUp,g];refine sC (c) ?_;simp only[g3,g4,SG,List.foldl_nil,ae,aa,seval,iteOmega,toNatUp];exact dc
     ·obtain⟨e1,e2⟩:=pz h1 h2 h4;rw[e1,e2,hT];rw[hT] at h4;generalize (4+f.da.length+3) / 4*4=Y at *
      have g3:((Y:Int)>16)=True:=eq_true (by omega);have g4:((Y:Int)>1232)=False:=eq_false (by omega);simp only[kW,ai,ae,aa,seval,iteOmega,toNatUp,g];refine sC (c) ?_;simp only[g3,g4,SG,List.foldl_nil,ae,aa,seval,iteOmega,toNatUp];exact dc
    ·have hT:=Om h3;obtain⟨e1,e2⟩:=pz h1 h2 (by omega);rw[e1,e2,hT];generalize (4+f.da.length+3) / 4*4=Y at *
     have g3:((Y:Int)>16)=False:=eq_false (by omega);simp only[kW,ai,ae,aa,seval,iteOmega,toNatUp,g];refine sC (c) ?_;simp only[g3,SG,List.foldl_nil,ae,aa,seval,iteOmega,toNatUp];exact dc
theorem Ml (n:Nat):aw 0 n=List.replicate n 0:=by
  unfold aw;refine List.ext_getElem (by simp) fun i i1 i2=>?_
  simp
def CB:aG:=⟨1,30,.seq (.reg [oO 1 (.box .roBox (.t 0)),oO 2 (.mv (.k (.c .nil)))]) (.seq (.reg [oO 7 (.load (.ag 2) (.t 1)),oO 8 (.call 68 [(.t 7)] none),oM 6 8,oO 9 (.extract (.t 6) 0),oO 10 (.extract (.t 6) 1),oM 3 9,oM 4 10]) (.seq (.reg [oM 11 3,oO 12 (.bin .sub (.t 11) (kI 4)),oO 13 (.fieldAddr 1 (.t 1)),oO 14 (.load .sc (.t 13)),oO 15 (.len (.t 14)),oO 16 (.bin .sub (.t 12) (.t 15)),oO 17 (.call 71 [(.k (.c (.d (.int .u64 0)))),(.t 16)] none),oM 5 17]) (.seq (.reg [oO 18 (.fieldAddr 0 (.t 1)),oO 19 (.load .sc (.t 18)),oO 20 (.conv .u64 (.t 19)),oO 21 (.call 71 [(.t 20),(kI 2)] none),oM 22 3,oO 23 (.conv .u64 (.t 22)),oO 24 (.call 71 [(.t 23),(kI 2)] none),oO 25 (.fieldAddr 1 (.t 1)),oO 26 (.load .sc (.t 25)),oM 27 5,oO 28 (.bldSl false 4 1 (.sl []) [(0,(.t 21)),(1,(.t 24)),(2,(.t 26)),(3,(.t 27))]),
 oO 29 (.call 30 [(.t 28)] (some (0,1))),oM 2 29]) (.ret)))),[(2,none)]⟩
theorem Mm:aD Try.prog { own:=[29],comp:=[],frz:=[],nils:=[] } Try.f69=some CB:=by kernel_rfl
theorem Oo (G:ak) (f:Fd) (h:bO f=0):ap Try.prog G 69 [bN f] (.w (.c (.fr 1 ((ip f).map bD)))):=by
  refine aI Try.func69 Mm rfl rfl ?_;obtain⟨h1,h2,h3⟩:=pZ h;have hl:=Cx f;have hp:=Me f;have c1:=EM G f (by omega);have eN:gL f=be f:=(pz h1 h2 h3).2;rw[h,eN] at c1;have c2:=fR G 0 ((be f:Int)-4-(f.da.length:Int)) (by omega);rw[show ((be f:Int)-4-(f.da.length:Int)).toNat=be f-4-f.da.length by omega,Ml] at c2;have c3:=fR G f.ty.toNat 2 (by decide);rw[show (2:Int).toNat=2 from rfl,show (f.ty.toNat:Int)=f.ty by omega] at c3;have c4:=fR G (be f) 2 (by decide);rw[show (2:Int).toNat=2 from rfl] at c4;have cj:=dw G [aw f.ty.toNat 2,aw (be f) 2,f.da,List.replicate (be f-4-f.da.length) 0] (by simp) (by simp[cX]; omega);have ef:([aw f.ty.toNat 2,aw (be f) 2,f.da,List.replicate (be f-4-f.da.length) 0]:List (List UInt8)).flatten=ip f:=by
    unfold ip;simp only[Sv,Sr,RG]
  rw[ef] at cj;have n0:gL f≤1232:=by omega
  unfold bN at *
  generalize ip f=B at *
  generalize aw f.ty.toNat 2=B1 at *
  generalize aw (be f) 2=B2 at *
  generalize List.replicate (be f-4-f.da.length) (0:UInt8)=B3 at *
  generalize f.da=da at *
  generalize f.ty=ty at *
  generalize be f=T at *
  simp only[Rl,RP] at cj;simp only[CB,ai,ae,aa,seval,iteOmega,toNatUp];refine sD (c1) ?_;refine sD (c2) ?_;refine sD (c3) ?_;refine sD (c4) ?_;refine sD (cj) ?_;exact fy
theorem Mn {l:List Fd} (h0:cT l=0) (h:24<l.length):bq l=8∧eF l=[]:=by
  have e:bq l=8:=by unfold bq; rw[if_pos h0,if_pos h]
  exact⟨e,by unfold eF; rw[e]; rfl⟩
theorem Kz {l:List Fd} (h0:cT l=0) (h:l.length≤24) (h2:1232<bz l):bq l=2∧eF l=[]:=by
  have e:bq l=2:=by unfold bq; rw[if_pos h0,if_neg (by omega),if_pos h2]
  exact⟨e,by unfold eF; rw[e]; rfl⟩
theorem CC {l:List Fd} (h0:cT l=0) (h:l.length≤24) (h2:bz l≤1232):bq l=0∧eF l=bo l:=by
  have e:bq l=0:=by unfold bq; rw[if_pos h0,if_neg (by omega),if_neg (by omega)]
  exact⟨e,by unfold eF; rw[if_pos e]⟩
theorem Mo {l:List Fd} {e:Int} (h0:cT l=e) (h:e≠0):bq l=e∧eF l=[]:=by
  have e:bq l=e:=by unfold bq; rw[h0,if_neg h]
  exact⟨e,by unfold eF; rw[e,if_neg h]⟩
theorem Mq {l:List Fd} (h:cT l=0) {i:Nat} (hi:i<l.length):bO (l.getD i default)=0:=p0.1 h _ (sW hi)
def lz (l:List Fd) (i:Nat):St:=⟨aV [(0,.w (.c (.d (.sl (l.map bN))))),(4,.w (.c (.d (.int .i64 (bz (l.take i):Int))))),(12,.w (.c (.d (.sl (l.map bN))))),(13,.w (.c (.d (.int .i64 (l.length:Int))))),(14,.w (.c (.d (.int .i64 (i:Int)))))],hL [],uL []⟩
def uY (l:List Fd) (i:Nat):St:=⟨aV [(9,.w (.c (.own 1 1 0 (bo (l.take i)).length))),(37,.w (.c (.d (.sl (l.map bN))))),(38,.w (.c (.d (.int .i64 (l.length:Int))))),(39,.w (.c (.d (.int .i64 (i:Int)))))],hL [(1,.row 1 ((bo (l.take i)).map bD))],uL [1]⟩
def kK:aK := .seq (.reg [oO 15 (.bin .lss (.t 14) (.t 13))]) (.seq (.cond (.t 15) (.skip) (.exit 0)) (.seq (.block 1 (.seq (.reg [oO 16 (.idxSl 2 (.t 12) (.t 14)),oO 17 (.load (.ag 2) (.t 16)),oO 6 (.alloc [(.d (.int .i64 0)),.nil]),oN (.store (.ag 2) (.t 6) (.t 17))]) (.seq (.reg [oO 19 (.load (.ag 2) (.t 6)),oO 20 (.call 68 [(.t 19)] none),oM 18 20,oO 21 (.extract (.t 18) 0),oO 22 (.extract (.t 18) 1),oM 7 21,oM 8 22]) (.seq (.seq (.reg [oM 23 8,oO 24 (.bin .neq (.t 23) (kI 0))]) (.cond (.t 24) (.seq (.reg [oM 25 8,oO 2 (.mv (.k (.c .nil))),oM 3 25]) (.ret)) (.skip))) (.reg [oM 26 4,oM 27 7,oO 28 (.bin .add (.t 26) (.t 27)),oM 4 28]))))) (.reg [oO 29 (.bin .add (.t 14) (kI 1)),oM 14 29])))
def rW:aK := .seq (.reg [oO 40 (.bin .lss (.t 39) (.t 38))]) (.seq (.cond (.t 40) (.skip) (.exit 2)) (.seq (.block 3 (.seq (.reg [oO 41 (.idxSl 2 (.t 37) (.t 39)),oO 42 (.load (.ag 2) (.t 41)),oO 11 (.alloc [(.d (.int .i64 0)),.nil]),oN (.store (.ag 2) (.t 11) (.t 42))]) (.reg [oM 43 9,oO 44 (.load (.ag 2) (.t 11)),oO 45 (.call 69 [(.t 44)] none),oO 46 (.app false 1 1 (.t 43) (.t 45)),oM 9 46]))) (.reg [oO 47 (.bin .add (.t 39) (kI 1)),oM 39 47])))
def CE:aG:=⟨1,49,.seq (.reg [oO 2 (.mv (.k (.c .nil))),oO 3 (.mv (kI 0))]) (.seq (.reg [oO 4 (.mv (kI 0))]) (.seq (.seq (.reg [oM 12 0,oO 13 (.len (.t 12)),oO 14 (.mv (kI 0))]) (.block 0 (.loop kK))) (.seq (.seq (.reg [oM 30 0,oO 31 (.len (.t 30)),oO 32 (.bin .gtr (.t 31) (kI 24))]) (.cond (.t 32) (.seq (.reg [oO 2 (.mv (.k (.c .nil))),oO 3 (.mv (kI 8))]) (.ret)) (.skip))) (.seq (.seq (.reg [oM 33 4,oO 34 (.bin .gtr (.t 33) (kI 1232))]) (.cond (.t 34) (.seq (.reg [oO 2 (.mv (.k (.c .nil))),oO 3 (.mv (kI 2))]) (.ret)) (.skip))) (.seq (.reg [oM 35 4,oO 36 (.make true 1 1 (.int .u8 0) (kI 0) (.t 35)),oM 9 36]) (.seq (.seq (.reg [oM 37 0,oO 38 (.len (.t 37)),oO 39 (.mv (kI 0))]) (.block 2 (.loop rW))) (.seq (.reg [oM 48 9,oM 2 48,oO 3 (.mv (kI 0))]) (.ret)))))))),[(2,none),(3,none)]⟩
theorem Mr:aD Try.prog { own:=[],comp:=[],frz:=[],nils:=[] } Try.f51=some CE:=by kernel_rfl
theorem Oq (G:ak) (l:List Fd) (hl:l.length≤1000000) (hd:∀ f∈l,f.da.length≤8000000000000000000):ap Try.prog G 51 [.sl (l.map bN)] (.tup [.c (.fr 1 ((eF l).map bD)),.c (.d (.int .i64 (bq l)))]):=by
  refine aI Try.func51 Mr rfl rfl ?_;simp only[CE,ai,ae,aa,seval,iteOmega,toNatUp];refine bg (lz l) (fun i=>l.length-i) (fun i=>i≤l.length∧cT (l.take i)=0) 0 ⟨Rx _,rfl⟩ ?_ ?_
  ·refine aA (fun i=>i) ?_ ?_ rfl rfl <;> simp only[wx,au,aH,aa,seval,iteOmega,toNatUp,Kv]
  ·rintro i ⟨hi,hok⟩;have hb:=Mh (l.take i) (p0.1 hok);rw[Rp,SH hi] at hb;by_cases hlt:i<l.length
   ·have g:=vF hlt;have c:=EM G (l.getD i default) (hd _ (sW hlt));have ht:=IU hlt;have hf:=Av hlt hok;by_cases he:bO (l.getD i default)=0
    ·obtain⟨q1,q2,q3⟩:=pZ he;have eN:gL (l.getD i default)=be (l.getD i default):=(pz q1 q2 q3).2;rw[he,eN] at c;rw[he] at hf;unfold bN at c;generalize l.getD i default=x at *
     generalize be x=T at *
     simp only[kK,lz,ae,aa,seval,iteOmega,toNatUp,aR,g,bN];refine sD (c) ?_;refine aX (i+1) (by omega) ⟨by omega,hf⟩ (aA (fun i=>i) ?_ ?_ rfl rfl) <;> simp only[wx,au,aH,aa,seval,iteOmega,toNatUp,ht]
    ·obtain⟨e1,e2⟩:=Mo (Ky hlt hok he) he;have hne:(bO (l.getD i default)=0)=False:=eq_false he;rw[e1,e2];unfold bN at c;generalize bO (l.getD i default)=e at *
     generalize gL (l.getD i default)=n at *
     generalize l.getD i default=x at *
     simp only[kK,lz,ae,aa,seval,iteOmega,toNatUp,aR,g,bN];refine sC (c) ?_;simp only[hne,ae,aa,seval,iteOmega,toNatUp];exact cE
   ·have hil:l.take i=l:=Ro (by omega);rw[hil] at hok;rcases R7 24 l.length with h24 | h24
    ·obtain⟨e1,e2⟩:=Mn hok h24;rw[e1,e2];have g1:((l.length:Int)>24)=True:=eq_true (by omega);simp only[kK,lz,ae,aa,seval,iteOmega,toNatUp,g1];exact cE
    ·have g1:((l.length:Int)>24)=False:=eq_false (by omega);rcases R7 1232 (bz l) with h12 | h12
     ·obtain⟨e1,e2⟩:=Kz hok h24 h12;rw[e1,e2];have g2:((bz l:Int)>1232)=True:=eq_true (by omega);simp only[kK,lz,ae,aa,seval,iteOmega,toNatUp,g1,hil,g2];exact cE
     ·obtain⟨e1,e2⟩:=CC hok h24 h12;rw[e1,e2];have g2:((bz l:Int)>1232)=False:=eq_false (by omega);simp only[kK,lz,ae,aa,seval,iteOmega,toNatUp,g1,hil,g2];refine bg (uY l) (fun i=>l.length-i) (fun i=>i≤l.length) 0 (Rx _) ?_ ?_
      ·refine aA (fun _=>288) ?_ ?_ rfl rfl <;> simp only[wx,au,aH,aa,seval,iteOmega,toNatUp,Kw]
      ·intro i hi;by_cases hlt:i<l.length
       ·have g:=vF hlt;have c:=jZ (Oo G (l.getD i default) (Mq hok hlt));have ha:=IV hlt;have h1:=jU (l.take (i+1));have h2:=Mg l (i+1);rw[ha,Rk] at h1;unfold bN at c;generalize l.getD i default=x at *
        generalize ip x=B at *
        simp only[rW,uY,ae,aa,seval,iteOmega,toNatUp,aR,g,bN];refine sC (c) ?_;simp only[bW,ae,aa,seval,iteOmega,toNatUp];refine aX (i+1) (by omega) (by omega) (aA (fun _=>368) ?_ ?_ rfl rfl) <;> simp only[wx,au,aH,aa,seval,iteOmega,toNatUp,ha]
       ·have hil:l.take i=l:=Ro (by omega);simp only[rW,uY,ae,aa,seval,iteOmega,toNatUp,hil];exact cE
theorem uz (G:ak) (l:List Fd) (hl:l.length≤1000000) (hd:∀ f∈l,f.da.length≤8000000000000000000):ap Try.prog G 51 [.sl (l.map bN)] (.tup [.c (.d (.sl ((eF l).map bD))),.c (.d (.int .i64 (bq l)))]):=tj (Oq G l hl hd)
def eh (l:List Fd) (k:Int):Nat→List Int
  | 0=>[]
  | n+1=>eh l k n++(if (l.getD n default).ty=k then [(n:Int)] else [])
def ei (l:List Fd) (k:Int):List Int:=eh l k l.length
theorem CF (l:List Fd) (k:Int):∀ n,(eh l k n).length≤n
  | 0=>Rt _
  | n+1=>by
    have:=CF l k n;rw[eh,Rk];split <;> simp <;> omega
theorem PU {l:List Fd} {k:Int} {n:Nat} (h:(l.getD n default).ty=k):eh l k (n+1)=eh l k n++[(n:Int)]:=by rw[eh,if_pos h]
theorem FS {l:List Fd} {k:Int} {n:Nat} (h:(l.getD n default).ty≠k):eh l k (n+1)=eh l k n:=by rw[eh,if_neg h,RG]
def qa (l:List Fd) (k:Int) (i:Nat):St:=⟨aV [(1,.w (.c (.d (.int .i64 k)))),(5,.w (.c (.own 1 1 0 (eh l k i).length))),(8,.w (.c (.d (.sl (l.map bN))))),(9,.w (.c (.d (.int .i64 (l.length:Int))))),(10,.w (.c (.d (.int .i64 (i:Int)))))],hL [(1,.row 1 ((eh l k i).map zD))],uL [1]⟩
def nW:aK := .seq (.reg [oO 11 (.bin .lss (.t 10) (.t 9))]) (.seq (.cond (.t 11) (.skip) (.exit 0)) (.seq (.block 1 (.seq (.reg [oM 12 10,oO 13 (.idxSl 2 (.t 8) (.t 10)),oO 14 (.load (.ag 2) (.t 13)),oO 7 (.alloc [(.d (.int .i64 0)),.nil]),oM 6 12,oN (.store (.ag 2) (.t 7) (.t 14))]) (.seq (.reg [oO 15 (.fieldAddr 0 (.t 7)),oO 16 (.load .sc (.t 15)),oM 17 1,oO 18 (.bin .eql (.t 16) (.t 17))]) (.cond (.t 18) (.reg [oM 19 5,oM 20 6,oO 21 (.bldSl false 1 1 (.int .i64 0) [(0,(.t 20))]),oO 22 (.app false 1 8 (.t 19) (.t 21)),oM 5 22]) (.skip))))) (.reg [oO 23 (.bin .add (.t 10) (kI 1)),oM 10 23])))
def CG:aG:=⟨2,25,.seq (.reg [oO 4 (.mv (.k (.c .nil)))]) (.seq (.reg [oO 5 (.nilOwn 1)]) (.seq (.seq (.reg [oM 8 0,oO 9 (.len (.t 8)),oO 10 (.mv (kI 0))]) (.block 0 (.loop nW))) (.seq (.reg [oM 24 5,oM 4 24]) (.ret)))),[(4,none)]⟩
theorem Ms:aD Try.prog { own:=[5],comp:=[],frz:=[],nils:=[] } Try.f37=some CG:=by kernel_rfl
set_option maxHeartbeats 1600000 in
theorem Or (G:ak) (l:List Fd) (k:Int) (hl:l.length≤1000000):ap Try.prog G 37 [.sl (l.map bN),.int .i64 k] (.w (.c (.d (.sl ((ei l k).map zD))))):=by
  refine aI Try.func37 Ms rfl rfl ?_;have e0:eh l k 0=[]:=rfl;simp only[CG,ai,ae,aa,seval,iteOmega,toNatUp];refine bg (qa l k) (fun i=>l.length-i) (fun i=>i≤l.length) 0 (Rx _) ?_ ?_
  ·refine aA (fun i=>40) ?_ ?_ rfl rfl <;> simp only[wx,au,aH,aa,seval,iteOmega,toNatUp,e0]
  ·intro i hi;have hb:=CF l k i;have az:=Kr (eh l k i);by_cases hlt:i<l.length
   ·have g:=vF hlt;by_cases hk:(l.getD i default).ty=k
    ·have hs:=PU hk;have hk':((l.getD i default).ty=k)=True:=eq_true hk;generalize l.getD i default=x at *
     simp only[nW,qa,ae,aa,seval,iteOmega,toNatUp,aR,g,bN,hk',bW];refine aX (i+1) (by omega) (by omega) (aA (fun _=>176) ?_ ?_ rfl rfl) <;> simp only[hs,RU,zD,wx,au,aH,aa,seval,iteOmega,toNatUp]
    ·have hs:=FS hk;have hk':((l.getD i default).ty=k)=False:=eq_false hk;generalize l.getD i default=x at *
     simp only[nW,qa,ae,aa,seval,iteOmega,toNatUp,aR,g,bN,hk',bW];refine aX (i+1) (by omega) (by omega) (aA (fun i=>i) ?_ ?_ rfl rfl) <;> simp only[hs,wx,au,aH,aa,seval,iteOmega,toNatUp]
   ·have hil:i=l.length:=by omega
    have e1:eh l k i=ei l k:=by rw[hil]; rfl
    simp only[nW,qa,ae,aa,seval,iteOmega,toNatUp,e1];exact aO




end Go.Proofs.Ytofonnokanoflaa
