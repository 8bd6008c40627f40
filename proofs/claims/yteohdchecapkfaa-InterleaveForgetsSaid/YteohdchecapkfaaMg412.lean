/- Texts of one's own, merged: from: Layer 16 on data: the program: headers. Own work. -/
import Derived.Test.YteohdchecapkfaaProg
import Derived.Test.YteohdchecapkfaaMg47
import Derived.Test.YteohdchecapkfaaMg49
import Derived.Test.YteohdchecapkfaaMg410
import Derived.Test.YteohdchecapkfaaMg411
set_option linter.unusedVariables false
set_option linter.unusedSimpArgs false
namespace Go.Proofs.Yteohdchecapkfaa
open Go.RowKit IntWalk
set_option maxHeartbeats 1600000
def aP (h:Hd):D:=.agg [.int .i64 h.lp,.int .i64 h.vr,.int .i64 h.md,.int .i64 h.st,.int .i64 h.pl,.int .i64 h.pr,.int .u32 (h.rd:Int),.int .u32 (h.rp:Int),.int .u32 (h.ri:Int),.int .u64 (h.rf:Int),.int .u64 (h.og:Int),.int .u64 (h.rc:Int),.int .u64 (h.tr:Int)]
def kr (h:Hd):Int:=if eh h then 0 else 4
def bf (t:Nat):Hd:=⟨0,4,3,0,6,0,0,0,0,0,0,0,t⟩
def cH (q:Hd) (st:Int):Int:=if eh q then (if q.md=3 then (if 0≤st∧st≤255 then 0 else 4) else 3) else 4
def ir (q:Hd) (st:Int) (rc tr:Nat):Hd:=if cH q st=0 then ⟨0,q.vr,4,st,q.pl,-20,0,0,0,0,q.tr,rc,tr⟩ else Hd.z
theorem xF (h:Hd):eh h=(decide (0≤h.lp∧h.lp≤3)&&(decide (3≤h.vr∧h.vr≤4)&&(decide (0≤h.md∧h.md≤7)&&(decide (0≤h.st∧h.st≤255)&&(decide (-128≤h.pl∧h.pl≤127)&&decide (-128≤h.pr∧h.pr≤127)))))):=by
  unfold eh gu;by_cases k:0≤h.lp∧h.lp≤3∧(h.vr=3∨h.vr=4)∧0≤h.md∧h.md≤7∧0≤h.st∧h.st≤255∧-128≤h.pl∧h.pl≤127∧-128≤h.pr∧h.pr≤127
  ·rw[decide_eq_true k];simp only[show (0≤h.lp∧h.lp≤3) from by omega,show (3≤h.vr∧h.vr≤4) from by omega,show (0≤h.md∧h.md≤7) from by omega,show (0≤h.st∧h.st≤255) from by omega,show (-128≤h.pl∧h.pl≤127) from by omega,show (-128≤h.pr∧h.pr≤127) from by omega];decide
  ·rw[decide_eq_false k]
   symm
   rw[← Bool.not_eq_true];intro e;simp only[zi,decide_eq_true_eq] at e;exact k (by omega)
def gZ:bF:=⟨3,15,ak [bW 6 false] (ak [oM 7 0,oM 8 1,eQ .leq 9 7 8,oM 10 9,cj 11 1 10 true,cj 12 2 10 true,iw .leq 13 11 12 10 true,cu 14 10 13,oM 6 14] .ret),[(6,none)]⟩
theorem xG:bq Try.prog {} Try.f30=some gZ:=by kernel_rfl
theorem fg (G:au) (a n b:Int):a7 Try.prog G 30 [.int .i64 a,.int .i64 n,.int .i64 b] (.w (.c (.d (.bool (decide (a≤n∧n≤b)))))):=by
  refine b8 Try.func30 xG rfl rfl ?_;by_cases h1:a≤n
  ·by_cases h2:n≤b
   ·rw[decide_eq_true ⟨h1,h2⟩];simp only[gZ,aD,ap,am,seval,iteOmega,toNatUp];exact a6
   ·rw[decide_eq_false (fun h=>h2 h.2)];simp only[gZ,aD,ap,am,seval,iteOmega,toNatUp];exact a6
  ·rw[decide_eq_false (fun h=>h1 h.1)];simp only[gZ,aD,ap,am,seval,iteOmega,toNatUp];exact a6
def qu:bF:=⟨1,5,ak [bW 2 false] (ak [oM 3 0,oO 4 (.call 30 [(kI 3),(.t 3),(kI 4)] none),oM 2 4] .ret),[(2,none)]⟩
theorem xH:bq Try.prog {} Try.f33=some qu:=by kernel_rfl
theorem yk (G:au) (n:Int):a7 Try.prog G 33 [.int .i64 n] (.w (.c (.d (.bool (decide (3≤n∧n≤4)))))):=by
  refine b8 Try.func33 xH rfl rfl ?_;have c:=fg G (3) n 4;generalize decide (3≤n∧n≤4)=b at *
  simp only[qu,aD,ap,am,seval,iteOmega,toNatUp];refine sD (c) ?_;exact a6
def qv:bF:=⟨1,5,ak [bW 2 false] (ak [oM 3 0,oO 4 (.call 30 [(.k (.c (.d (.int .i64 (-128))))),(.t 3),(kI 127)] none),oM 2 4] .ret),[(2,none)]⟩
theorem xI:bq Try.prog {} Try.f34=some qv:=by kernel_rfl
theorem sY (G:au) (n:Int):a7 Try.prog G 34 [.int .i64 n] (.w (.c (.d (.bool (decide (-128≤n∧n≤127)))))):=by
  refine b8 Try.func34 xI rfl rfl ?_;have c:=fg G (-128) n 127;generalize decide (-128≤n∧n≤127)=b at *
  simp only[qv,aD,ap,am,seval,iteOmega,toNatUp];refine sD (c) ?_;exact a6
def d4:bF:=⟨1,35,ak [cQ 1 0,a5 2 0] (.seq (ak [aS 3 0 1,bE 4 3,oO 5 (.call 30 [(kI 0),(.t 4),(kI 3)] none),ei 6 5,oM 7 6,cK 8 1 1 7 false,cJ 9 8 7 false,oG 10 (.call 33 [(.t 9)] none) 7 false,eR 11 10 7 false,dk 12 7 11,oM 13 12,cK 14 2 1 13 false,cJ 15 14 13 false,oG 16 (.call 30 [(kI 0),(.t 15),(kI 7)] none) 13 false,eR 17 16 13 false,dk 18 13 17] (bc 18 (ak [a5 2 4] .ret) .skip)) (.seq (ak [aS 19 3 1,bE 20 19,oO 21 (.call 30 [(kI 0),(.t 20),(kI 255)] none),ei 22 21,oM 23 22,cK 24 4 1 23 false,cJ 25 24 23 false,oG 26 (.call 34 [(.t 25)] none) 23 false,eR 27 26 23 false,dk 28 23 27,oM 29 28,cK 30 5 1 29 false,cJ 31 30 29 false,oG 32 (.call 34 [(.t 31)] none) 29 false,eR 33 32 29 false,dk 34 29 33] (bc 34 (ak [a5 2 4] .ret) .skip)) (ak [a5 2 0] .ret))),
 [(2,none)]⟩
theorem xJ:bq Try.prog {} Try.f29=some d4:=by kernel_rfl
theorem yl (G:au) (h:Hd):a7 Try.prog G 29 [aP h] (.w (.c (.d (.int .i64 (kr h))))):=by
  refine b8 Try.func29 xJ rfl rfl ?_;have c1:=fg G 0 h.lp 3;have c2:=yk G h.vr;have c3:=fg G 0 h.md 7;have c4:=fg G 0 h.st 255;have c5:=sY G h.pl;have c6:=sY G h.pr;have he:kr h=if eh h=true then 0 else 4:=rfl
  rw[xF] at he;unfold aP;generalize decide (0≤h.lp∧h.lp≤3)=b1 at *
  generalize decide (3≤h.vr∧h.vr≤4)=b2 at *
  generalize decide (0≤h.md∧h.md≤7)=b3 at *
  generalize decide (0≤h.st∧h.st≤255)=b4 at *
  generalize decide (-128≤h.pl∧h.pl≤127)=b5 at *
  generalize decide (-128≤h.pr∧h.pr≤127)=b6 at *
  cases b1
  ·rw[he];simp only[d4,aD,ap,am,seval,iteOmega,toNatUp];refine sD (c1) ?_;exact a6
  cases b2
  ·rw[he];simp only[d4,aD,ap,am,seval,iteOmega,toNatUp];refine sD (c1) ?_;refine sD (c2) ?_;exact a6
  cases b3
  ·rw[he];simp only[d4,aD,ap,am,seval,iteOmega,toNatUp];refine sD (c1) ?_;refine sD (c2) ?_;refine sD (c3) ?_;exact a6
  cases b4
  ·rw[he];simp only[d4,aD,ap,am,seval,iteOmega,toNatUp];refine sD (c1) ?_;refine sD (c2) ?_;refine sD (c3) ?_;refine sD (c4) ?_;exact a6
  cases b5
  ·rw[he];simp only[d4,aD,ap,am,seval,iteOmega,toNatUp];refine sD (c1) ?_;refine sD (c2) ?_;refine sD (c3) ?_;refine sD (c4) ?_;refine sD (c5) ?_;exact a6
  cases b6
  ·rw[he];simp only[d4,aD,ap,am,seval,iteOmega,toNatUp];refine sD (c1) ?_;refine sD (c2) ?_;refine sD (c3) ?_;refine sD (c4) ?_;refine sD (c5) ?_;refine sD (c6) ?_;exact a6
  ·rw[he];simp only[d4,aD,ap,am,seval,iteOmega,toNatUp];refine sD (c1) ?_;refine sD (c2) ?_;refine sD (c3) ?_;refine sD (c4) ?_;refine sD (c5) ?_;refine sD (c6) ?_;exact a6
def qw:bF:=⟨1,5,ak [oO 2 (.alloc [aa,aa,aa,aa,aa,aa,az,az,az,af,af,af,af])] (ak [oM 3 0,oO 4 (.build [aa,aa,aa,aa,aa,aa,az,az,az,af,af,af,af] [(1,1,(kI 4)),(2,1,(kI 3)),(4,1,(kI 6)),(12,1,(.t 3))]),aH 13 2 4] .ret),[(2,(some (.ag 13)))]⟩
theorem xK:bq Try.prog {} Try.f20=some qw:=by kernel_rfl
theorem ym (G:au) (t:Nat):a7 Try.prog G 20 [.int .u64 (t:Int)] (.w (.c (.d (aP (bf t))))):=by
  refine b8 Try.func20 xK rfl rfl ?_;unfold aP bf;simp only[qw,aD,ap,am,seval,iteOmega,toNatUp];exact a6
def fX:bF:=⟨4,35,ak [cQ 4 0,oO 8 (.alloc [aa,aa,aa,aa,aa,aa,az,az,az,af,af,af,af]),a5 9 0] (.seq (ak [cb 11 13 4,fD 12 29 11,oM 10 12] (ak [oM 13 10,ct .neq 14 13 0] (bc 14 (ak [oO 15 (.build [aa,aa,aa,aa,aa,aa,az,az,az,af,af,af,af] []),oM 16 10,aH 13 8 15,oM 9 16] .ret) .skip))) (.seq (ak [aS 17 2 4,bE 18 17,ct .neq 19 18 3] (bc 19 (ak [oO 20 (.build [aa,aa,aa,aa,aa,aa,az,az,az,af,af,af,af] []),aH 13 8 20,a5 9 3] .ret) .skip)) (.seq (ak [oM 21 1,oO 22 (.call 30 [(kI 0),(.t 21),(kI 255)] none),ei 23 22] (bc 23 (ak [oO 24 (.build [aa,aa,aa,aa,aa,aa,az,az,az,af,af,af,af] []),aH 13 8 24,a5 9 4] .ret) .skip)) (ak [aS 25 1 4,bE 26 25,oM 27 1,aS 28 4 4,bE 29 28,aS 30 12 4,bE 31 30,oM 32 2,oM 33 3,oO 34 (.build [aa,aa,aa,aa,aa,aa,az,az,az,af,af,af,af] [(1,1,(.t 26)),(2,1,(kI 4)),(3,1,(.t 27)),(4,1,(.t 29)),(5,1,(.k (.c (.d (.int .i64 (-20)))))),(10,1,(.t 31)),(11,1,(.t 32)),(12,1,(.t 33))]),
 aH 13 8 34,a5 9 0] .ret)))),[(8,(some (.ag 13))),(9,none)]⟩
theorem xL:bq Try.prog {} Try.f21=some fX:=by kernel_rfl
theorem yn (G:au) (q:Hd) (st:Int) (rc tr:Nat):a7 Try.prog G 21 [aP q,.int .i64 st,.int .u64 (rc:Int),.int .u64 (tr:Int)] (.tup [.c (.d (aP (ir q st rc tr))),.c (.d (.int .i64 (cH q st)))]):=by
  refine b8 Try.func21 xL rfl rfl ?_;have c1:=yl G q;have c2:=fg G 0 st 255;have he:cH q st=if eh q then (if q.md=3 then (if decide (0≤st∧st≤255)=true then 0 else 4) else 3) else 4:=by
    unfold cH; simp only[decide_eq_true_eq]
  unfold ir;rw[he];unfold kr at c1;generalize decide (0≤st∧st≤255)=b at *
  cases hv:eh q
  ·rw[hv] at c1;rw[if_neg (by decide:¬ false=true),if_neg (by decide:¬ (4:Int)=0)];rw[if_neg (by decide:¬ false=true)] at c1;unfold aP Hd.z at *
   simp only[fX,aD,ap,am,seval,iteOmega,toNatUp];refine sD (c1) ?_;exact ej
  ·rw[hv,if_pos rfl] at c1;rw[if_pos rfl];by_cases hm:q.md=3
   ·rw[if_pos hm];cases b
    ·rw[if_neg (by decide:¬ false=true),if_neg (by decide:¬ (4:Int)=0)];unfold aP Hd.z at *
     simp only[fX,aD,ap,am,seval,iteOmega,toNatUp];refine sD (c1) ?_;refine sD (c2) ?_;exact ej
    ·rw[if_pos rfl,if_pos rfl];unfold aP at *
     simp only[fX,aD,ap,am,seval,iteOmega,toNatUp];refine sD (c1) ?_;refine sD (c2) ?_;exact ej
   ·rw[if_neg hm,if_neg (by decide:¬ (3:Int)=0)];unfold aP Hd.z at *
    simp only[fX,aD,ap,am,seval,iteOmega,toNatUp];refine sD (c1) ?_;exact ej
def qx:bF:=⟨1,5,ak [oO 2 (.alloc [aa,aa,aa,aa,aa,aa,az,az,az,af,af,af,af])] (ak [oM 3 0,oO 4 (.build [aa,aa,aa,aa,aa,aa,az,az,az,af,af,af,af] [(1,1,(kI 4)),(2,1,(kI 3)),(4,1,(kI 6)),(12,1,(.t 3))]),aH 13 2 4] .ret),[(2,(some (.ag 13)))]⟩
theorem xQ:bq Try.prog {} Try.f15=some qx:=by kernel_rfl
theorem yE (G:au) (t:Nat):a7 Try.prog G 15 [.int .u64 (t:Int)] (.w (.c (.d (aP (bf t))))):=by
  refine b8 Try.func15 xQ rfl rfl ?_;unfold aP bf;simp only[qx,aD,ap,am,seval,iteOmega,toNatUp];exact a6
end Go.Proofs.Yteohdchecapkfaa
