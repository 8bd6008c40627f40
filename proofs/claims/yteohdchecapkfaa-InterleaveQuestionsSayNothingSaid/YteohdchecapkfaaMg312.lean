/- Texts of one's own, merged: from: Layer 16 on data: the program: headers. Own work. -/
import Derived.Test.YteohdchecapkfaaProg
import Derived.Test.YteohdchecapkfaaMg37
import Derived.Test.YteohdchecapkfaaMg39
import Derived.Test.YteohdchecapkfaaMg310
import Derived.Test.YteohdchecapkfaaMg311
set_option linter.unusedVariables false
set_option linter.unusedSimpArgs false
namespace Go.Proofs.Yteohdchecapkfaa
open Go.RowKit IntWalk
set_option maxHeartbeats 1600000
def aK (h:Hd):D:=.agg [.int .i64 h.lp,.int .i64 h.vr,.int .i64 h.md,.int .i64 h.st,.int .i64 h.pl,.int .i64 h.pr,.int .u32 (h.rd:Int),.int .u32 (h.rp:Int),.int .u32 (h.ri:Int),.int .u64 (h.rf:Int),.int .u64 (h.og:Int),.int .u64 (h.rc:Int),.int .u64 (h.tr:Int)]
def dr (h:Hd):Int:=if c9 h then 0 else 4
def fB (h:Hd):List UInt8:=if c9 h then iO h else []
def bI (t:Nat):Hd:=⟨0,4,3,0,6,0,0,0,0,0,0,0,t⟩
def dA (q:Hd) (st:Int):Int:=if c9 q then (if q.md=3 then (if 0≤st∧st≤255 then 0 else 4) else 3) else 4
def iF (q:Hd) (st:Int) (rc tr:Nat):Hd:=if dA q st=0 then ⟨0,q.vr,4,st,q.pl,-20,0,0,0,0,q.tr,rc,tr⟩ else Hd.z
theorem yD (h:Hd):c9 h=(decide (0≤h.lp∧h.lp≤3)&&(decide (3≤h.vr∧h.vr≤4)&&(decide (0≤h.md∧h.md≤7)&&(decide (0≤h.st∧h.st≤255)&&(decide (-128≤h.pl∧h.pl≤127)&&decide (-128≤h.pr∧h.pr≤127)))))):=by
  unfold c9 eD;by_cases k:0≤h.lp∧h.lp≤3∧(h.vr=3∨h.vr=4)∧0≤h.md∧h.md≤7∧0≤h.st∧h.st≤255∧-128≤h.pl∧h.pl≤127∧-128≤h.pr∧h.pr≤127
  ·rw[decide_eq_true k];simp only[show (0≤h.lp∧h.lp≤3) from by omega,show (3≤h.vr∧h.vr≤4) from by omega,show (0≤h.md∧h.md≤7) from by omega,show (0≤h.st∧h.st≤255) from by omega,show (-128≤h.pl∧h.pl≤127) from by omega,show (-128≤h.pr∧h.pr≤127) from by omega];decide
  ·rw[decide_eq_false k]
   symm
   rw[← Bool.not_eq_true];intro e;simp only[Al,decide_eq_true_eq] at e;exact k (by omega)
def hU:bd:=⟨3,15,ak [ce 6 false] (ak [oM 7 0,oM 8 1,dE .leq 9 7 8,oM 10 9,cA 11 1 10 true,cA 12 2 10 true,iH .leq 13 11 12 10 true,cT 14 10 13,oM 6 14] .ret),[(6,none)]⟩
theorem yE:a7 Try.prog {} Try.f30=some hU:=by kernel_rfl
theorem fk (G:ap) (a n b:Int):aW Try.prog G 30 [.int .i64 a,.int .i64 n,.int .i64 b] (.w (.c (.d (.bool (decide (a≤n∧n≤b)))))):=by
  refine bB Try.func30 yE rfl rfl ?_;by_cases h1:a≤n
  ·by_cases h2:n≤b
   ·rw[decide_eq_true ⟨h1,h2⟩];simp only[hU,ar,am,ai,seval,iteOmega,toNatUp];exact aF
   ·rw[decide_eq_false (fun h=>h2 h.2)];simp only[hU,ar,am,ai,seval,iteOmega,toNatUp];exact aF
  ·rw[decide_eq_false (fun h=>h1 h.1)];simp only[hU,ar,am,ai,seval,iteOmega,toNatUp];exact aF
def rq:bd:=⟨1,5,ak [ce 2 false] (ak [oM 3 0,oO 4 (.call 30 [(kI 3),(.t 3),(kI 4)] none),oM 2 4] .ret),[(2,none)]⟩
theorem yF:a7 Try.prog {} Try.f33=some rq:=by kernel_rfl
theorem zk (G:ap) (n:Int):aW Try.prog G 33 [.int .i64 n] (.w (.c (.d (.bool (decide (3≤n∧n≤4)))))):=by
  refine bB Try.func33 yF rfl rfl ?_;have c:=fk G (3) n 4;generalize decide (3≤n∧n≤4)=b at *
  simp only[rq,ar,am,ai,seval,iteOmega,toNatUp];refine sD (c) ?_;exact aF
def rr:bd:=⟨1,5,ak [ce 2 false] (ak [oM 3 0,oO 4 (.call 30 [(.k (.c (.d (.int .i64 (-128))))),(.t 3),(kI 127)] none),oM 2 4] .ret),[(2,none)]⟩
theorem yG:a7 Try.prog {} Try.f34=some rr:=by kernel_rfl
theorem tR (G:ap) (n:Int):aW Try.prog G 34 [.int .i64 n] (.w (.c (.d (.bool (decide (-128≤n∧n≤127)))))):=by
  refine bB Try.func34 yG rfl rfl ?_;have c:=fk G (-128) n 127;generalize decide (-128≤n∧n≤127)=b at *
  simp only[rr,ar,am,ai,seval,iteOmega,toNatUp];refine sD (c) ?_;exact aF
def ec:bd:=⟨1,35,ak [cz 1 0,aX 2 0] (.seq (ak [aE 3 0 1,aP 4 3,oO 5 (.call 30 [(kI 0),(.t 4),(kI 3)] none),ez 6 5,oM 7 6,bV 8 1 1 7 false,bU 9 8 7 false,oG 10 (.call 33 [(.t 9)] none) 7 false,fG 11 10 7 false,cq 12 7 11,oM 13 12,bV 14 2 1 13 false,bU 15 14 13 false,oG 16 (.call 30 [(kI 0),(.t 15),(kI 7)] none) 13 false,fG 17 16 13 false,cq 18 13 17] (bc 18 (ak [aX 2 4] .ret) .skip)) (.seq (ak [aE 19 3 1,aP 20 19,oO 21 (.call 30 [(kI 0),(.t 20),(kI 255)] none),ez 22 21,oM 23 22,bV 24 4 1 23 false,bU 25 24 23 false,oG 26 (.call 34 [(.t 25)] none) 23 false,fG 27 26 23 false,cq 28 23 27,oM 29 28,bV 30 5 1 29 false,bU 31 30 29 false,oG 32 (.call 34 [(.t 31)] none) 29 false,fG 33 32 29 false,cq 34 29 33] (bc 34 (ak [aX 2 4] .ret) .skip)) (ak [aX 2 0] .ret))),
 [(2,none)]⟩
theorem yH:a7 Try.prog {} Try.f29=some ec:=by kernel_rfl
theorem zl (G:ap) (h:Hd):aW Try.prog G 29 [aK h] (.w (.c (.d (.int .i64 (dr h))))):=by
  refine bB Try.func29 yH rfl rfl ?_;have c1:=fk G 0 h.lp 3;have c2:=zk G h.vr;have c3:=fk G 0 h.md 7;have c4:=fk G 0 h.st 255;have c5:=tR G h.pl;have c6:=tR G h.pr;have he:dr h=if c9 h=true then 0 else 4:=rfl
  rw[yD] at he;unfold aK;generalize decide (0≤h.lp∧h.lp≤3)=b1 at *
  generalize decide (3≤h.vr∧h.vr≤4)=b2 at *
  generalize decide (0≤h.md∧h.md≤7)=b3 at *
  generalize decide (0≤h.st∧h.st≤255)=b4 at *
  generalize decide (-128≤h.pl∧h.pl≤127)=b5 at *
  generalize decide (-128≤h.pr∧h.pr≤127)=b6 at *
  cases b1
  ·rw[he];simp only[ec,ar,am,ai,seval,iteOmega,toNatUp];refine sD (c1) ?_;exact aF
  cases b2
  ·rw[he];simp only[ec,ar,am,ai,seval,iteOmega,toNatUp];refine sD (c1) ?_;refine sD (c2) ?_;exact aF
  cases b3
  ·rw[he];simp only[ec,ar,am,ai,seval,iteOmega,toNatUp];refine sD (c1) ?_;refine sD (c2) ?_;refine sD (c3) ?_;exact aF
  cases b4
  ·rw[he];simp only[ec,ar,am,ai,seval,iteOmega,toNatUp];refine sD (c1) ?_;refine sD (c2) ?_;refine sD (c3) ?_;refine sD (c4) ?_;exact aF
  cases b5
  ·rw[he];simp only[ec,ar,am,ai,seval,iteOmega,toNatUp];refine sD (c1) ?_;refine sD (c2) ?_;refine sD (c3) ?_;refine sD (c4) ?_;refine sD (c5) ?_;exact aF
  cases b6
  ·rw[he];simp only[ec,ar,am,ai,seval,iteOmega,toNatUp];refine sD (c1) ?_;refine sD (c2) ?_;refine sD (c3) ?_;refine sD (c4) ?_;refine sD (c5) ?_;refine sD (c6) ?_;exact aF
  ·rw[he];simp only[ec,ar,am,ai,seval,iteOmega,toNatUp];refine sD (c1) ?_;refine sD (c2) ?_;refine sD (c3) ?_;refine sD (c4) ?_;refine sD (c5) ?_;refine sD (c6) ?_;exact aF
theorem zL:∀ (l:Fin 4) (v:Fin 8) (m:Fin 8),bits .or .i64 (bits .or .i64 ((l.val*64:Nat):Int) ((v.val*8:Nat):Int)) (m.val:Int)=((l.val*64+v.val*8+m.val:Nat):Int):=by decide +kernel
theorem zm {l v m:Int} (l0:0≤l) (l1:l≤3) (v0:0≤v) (v1:v≤7) (m0:0≤m) (m1:m≤7):bits .or .i64 (bits .or .i64 (l*64) (v*8)) m=l*64+v*8+m:=by
  obtain⟨L,rfl⟩:=A4 l0;obtain⟨V,rfl⟩:=A4 v0;obtain⟨M,rfl⟩:=A4 m0;have:=zL ⟨L,by omega⟩ ⟨V,by omega⟩ ⟨M,by omega⟩
  simpa using this
def rt:bd:=⟨1,5,ak [oO 2 (.alloc [ab,ab,ab,ab,ab,ab,aC,aC,aC,ah,ah,ah,ah])] (ak [oM 3 0,oO 4 (.build [ab,ab,ab,ab,ab,ab,aC,aC,aC,ah,ah,ah,ah] [(1,1,(kI 4)),(2,1,(kI 3)),(4,1,(kI 6)),(12,1,(.t 3))]),aV 13 2 4] .ret),[(2,(some (.ag 13)))]⟩
theorem yI:a7 Try.prog {} Try.f20=some rt:=by kernel_rfl
theorem zn (G:ap) (t:Nat):aW Try.prog G 20 [.int .u64 (t:Int)] (.w (.c (.d (aK (bI t))))):=by
  refine bB Try.func20 yI rfl rfl ?_;unfold aK bI;simp only[rt,ar,am,ai,seval,iteOmega,toNatUp];exact aF
def gg:bd:=⟨4,35,ak [cz 4 0,oO 8 (.alloc [ab,ab,ab,ab,ab,ab,aC,aC,aC,ah,ah,ah,ah]),aX 9 0] (.seq (ak [cy 11 13 4,eB 12 29 11,oM 10 12] (ak [oM 13 10,ca .neq 14 13 0] (bc 14 (ak [oO 15 (.build [ab,ab,ab,ab,ab,ab,aC,aC,aC,ah,ah,ah,ah] []),oM 16 10,aV 13 8 15,oM 9 16] .ret) .skip))) (.seq (ak [aE 17 2 4,aP 18 17,ca .neq 19 18 3] (bc 19 (ak [oO 20 (.build [ab,ab,ab,ab,ab,ab,aC,aC,aC,ah,ah,ah,ah] []),aV 13 8 20,aX 9 3] .ret) .skip)) (.seq (ak [oM 21 1,oO 22 (.call 30 [(kI 0),(.t 21),(kI 255)] none),ez 23 22] (bc 23 (ak [oO 24 (.build [ab,ab,ab,ab,ab,ab,aC,aC,aC,ah,ah,ah,ah] []),aV 13 8 24,aX 9 4] .ret) .skip)) (ak [aE 25 1 4,aP 26 25,oM 27 1,aE 28 4 4,aP 29 28,aE 30 12 4,aP 31 30,oM 32 2,oM 33 3,oO 34 (.build [ab,ab,ab,ab,ab,ab,aC,aC,aC,ah,ah,ah,ah] [(1,1,(.t 26)),(2,1,(kI 4)),(3,1,(.t 27)),(4,1,(.t 29)),(5,1,(.k (.c (.d (.int .i64 (-20)))))),(10,1,(.t 31)),(11,1,(.t 32)),(12,1,(.t 33))]),
 aV 13 8 34,aX 9 0] .ret)))),[(8,(some (.ag 13))),(9,none)]⟩
theorem yJ:a7 Try.prog {} Try.f21=some gg:=by kernel_rfl
theorem zo (G:ap) (q:Hd) (st:Int) (rc tr:Nat):aW Try.prog G 21 [aK q,.int .i64 st,.int .u64 (rc:Int),.int .u64 (tr:Int)] (.tup [.c (.d (aK (iF q st rc tr))),.c (.d (.int .i64 (dA q st)))]):=by
  refine bB Try.func21 yJ rfl rfl ?_;have c1:=zl G q;have c2:=fk G 0 st 255;have he:dA q st=if c9 q then (if q.md=3 then (if decide (0≤st∧st≤255)=true then 0 else 4) else 3) else 4:=by
    unfold dA; simp only[decide_eq_true_eq]
  unfold iF;rw[he];unfold dr at c1;generalize decide (0≤st∧st≤255)=b at *
  cases hv:c9 q
  ·rw[hv] at c1;rw[if_neg (by decide:¬ false=true),if_neg (by decide:¬ (4:Int)=0)];rw[if_neg (by decide:¬ false=true)] at c1;unfold aK Hd.z at *
   simp only[gg,ar,am,ai,seval,iteOmega,toNatUp];refine sD (c1) ?_;exact d8
  ·rw[hv,if_pos rfl] at c1;rw[if_pos rfl];by_cases hm:q.md=3
   ·rw[if_pos hm];cases b
    ·rw[if_neg (by decide:¬ false=true),if_neg (by decide:¬ (4:Int)=0)];unfold aK Hd.z at *
     simp only[gg,ar,am,ai,seval,iteOmega,toNatUp];refine sD (c1) ?_;refine sD (c2) ?_;exact d8
    ·rw[if_pos rfl,if_pos rfl];unfold aK at *
     simp only[gg,ar,am,ai,seval,iteOmega,toNatUp];refine sD (c1) ?_;refine sD (c2) ?_;exact d8
   ·rw[if_neg hm,if_neg (by decide:¬ (3:Int)=0)];unfold aK Hd.z at *
    simp only[gg,ar,am,ai,seval,iteOmega,toNatUp];refine sD (c1) ?_;exact d8

set_option maxHeartbeats 3200000
def bM:bd:=⟨1,61,ak [cz 1 0,aX 2 0] (.seq (ak [aE 3 0 1,aP 4 3,ca .lss 5 4 0,oM 6 5,bV 7 0 1 6 false,bU 8 7 6 false,cr .gtr 9 8 3 6 false,cq 10 6 9,oM 11 10,bV 12 1 1 11 false,bU 13 12 11 false,cr .neq 14 13 3 11 false,cA 15 14 11 false,bV 16 1 1 15 true,bU 17 16 15 true,cr .neq 18 17 4 15 true,oG 19 (.pick (.t 15) (.t 18) (.k (.c aY))) 11 false,cq 20 11 19,oM 21 20,bV 22 2 1 21 false,bU 23 22 21 false,cr .lss 24 23 0 21 false,cq 25 21 24,oM 26 25,bV 27 2 1 26 false,bU 28 27 26 false,cr .gtr 29 28 7 26 false,cq 30 26 29,oM 31 30,bV 32 3 1 31 false,bU 33 32 31 false,cr .lss 34 33 0 31 false,cq 35 31 34,oM 36 35,bV 37 3 1 36 false,bU 38 37 36 false,cr .gtr 39 38 255 36 false,cq 40 36 39,oM 41 40,bV 42 4 1 41 false,bU 43 42 41 false,oG 44 (.bin .lss (.t 43) (.k (.c (.d (.int .i64 (-128)))))) 41 false,
 cq 45 41 44,oM 46 45,bV 47 4 1 46 false,bU 48 47 46 false,cr .gtr 49 48 127 46 false,cq 50 46 49,oM 51 50,bV 52 5 1 51 false,bU 53 52 51 false,oG 54 (.bin .lss (.t 53) (.k (.c (.d (.int .i64 (-128)))))) 51 false,cq 55 51 54,oM 56 55,bV 57 5 1 56 false,bU 58 57 56 false,cr .gtr 59 58 127 56 false,cq 60 56 59] (bc 60 (ak [aX 2 4] .ret) .skip)) (ak [aX 2 0] .ret)),[(2,none)]⟩
theorem yO:a7 Try.prog {} Try.f26=some bM:=by kernel_rfl
theorem zE (G:ap) (h:Hd):aW Try.prog G 26 [aK h] (.w (.c (.d (.int .i64 (dr h))))):=by
  refine bB Try.func26 yO rfl rfl ?_;have bad:¬ eD h→dr h=4:=fun k=>by unfold dr c9; rw[decide_eq_false k]; rfl
  have good:eD h→dr h=0:=fun k=>by unfold dr c9; rw[decide_eq_true k]; rfl
  unfold eD at bad good;unfold aK;by_cases h1:h.lp<0
  ·rw[bad (by omega)]; clear bad good
   simp only[bM,ar,am,ai,seval,iteOmega,toNatUp];exact aF
  by_cases h2:h.lp>3
  ·rw[bad (by omega)]; clear bad good
   simp only[bM,ar,am,ai,seval,iteOmega,toNatUp];exact aF
  by_cases h3:h.vr=3
  ·by_cases h4:h.md<0
   ·rw[bad (by omega)]; clear bad good
    simp only[bM,ar,am,ai,seval,iteOmega,toNatUp];exact aF
   by_cases h5:h.md>7
   ·rw[bad (by omega)]; clear bad good
    simp only[bM,ar,am,ai,seval,iteOmega,toNatUp];exact aF
   by_cases h6:h.st<0
   ·rw[bad (by omega)]; clear bad good
    simp only[bM,ar,am,ai,seval,iteOmega,toNatUp];exact aF
   by_cases h7:h.st>255
   ·rw[bad (by omega)]; clear bad good
    simp only[bM,ar,am,ai,seval,iteOmega,toNatUp];exact aF
   by_cases h8:h.pl < -128
   ·rw[bad (by omega)]; clear bad good
    simp only[bM,ar,am,ai,seval,iteOmega,toNatUp];exact aF
   by_cases h9:h.pl>127
   ·rw[bad (by omega)]; clear bad good
    simp only[bM,ar,am,ai,seval,iteOmega,toNatUp];exact aF
   by_cases hA:h.pr < -128
   ·rw[bad (by omega)]; clear bad good
    simp only[bM,ar,am,ai,seval,iteOmega,toNatUp];exact aF
   by_cases hB:h.pr>127
   ·rw[bad (by omega)]; clear bad good
    simp only[bM,ar,am,ai,seval,iteOmega,toNatUp];exact aF
   ·rw[good (by omega)]; clear bad good
    simp only[bM,ar,am,ai,seval,iteOmega,toNatUp];exact aF
  by_cases h3':h.vr=4
  ·obtain⟨lp,vr,md,st,pl,pr,rd,rp,ri,rf,og,rc,tr⟩:=h;simp only at h1 h2 h3 h3' bad good;subst h3';clear h3;dsimp only;by_cases h4:md<0
   ·rw[bad (by omega)]; clear bad good
    simp only[bM,ar,am,ai,seval,iteOmega,toNatUp];exact aF
   by_cases h5:md>7
   ·rw[bad (by omega)]; clear bad good
    simp only[bM,ar,am,ai,seval,iteOmega,toNatUp];exact aF
   by_cases h6:st<0
   ·rw[bad (by omega)]; clear bad good
    simp only[bM,ar,am,ai,seval,iteOmega,toNatUp];exact aF
   by_cases h7:st>255
   ·rw[bad (by omega)]; clear bad good
    simp only[bM,ar,am,ai,seval,iteOmega,toNatUp];exact aF
   by_cases h8:pl < -128
   ·rw[bad (by omega)]; clear bad good
    simp only[bM,ar,am,ai,seval,iteOmega,toNatUp];exact aF
   by_cases h9:pl>127
   ·rw[bad (by omega)]; clear bad good
    simp only[bM,ar,am,ai,seval,iteOmega,toNatUp];exact aF
   by_cases hA:pr < -128
   ·rw[bad (by omega)]; clear bad good
    simp only[bM,ar,am,ai,seval,iteOmega,toNatUp];exact aF
   by_cases hB:pr>127
   ·rw[bad (by omega)]; clear bad good
    simp only[bM,ar,am,ai,seval,iteOmega,toNatUp];exact aF
   ·rw[good (by omega)]; clear bad good
    simp only[bM,ar,am,ai,seval,iteOmega,toNatUp];exact aF
  ·rw[bad (by omega)]; clear bad good
   simp only[bM,ar,am,ai,seval,iteOmega,toNatUp];exact aF
def ru:bd:=⟨1,5,ak [oO 2 (.alloc [ab,ab,ab,ab,ab,ab,aC,aC,aC,ah,ah,ah,ah])] (ak [oM 3 0,oO 4 (.build [ab,ab,ab,ab,ab,ab,aC,aC,aC,ah,ah,ah,ah] [(1,1,(kI 4)),(2,1,(kI 3)),(4,1,(kI 6)),(12,1,(.t 3))]),aV 13 2 4] .ret),[(2,(some (.ag 13)))]⟩
theorem yP:a7 Try.prog {} Try.f15=some ru:=by kernel_rfl
theorem zF (G:ap) (t:Nat):aW Try.prog G 15 [.int .u64 (t:Int)] (.w (.c (.d (aK (bI t))))):=by
  refine bB Try.func15 yP rfl rfl ?_;unfold aK bI;simp only[ru,ar,am,ai,seval,iteOmega,toNatUp];exact aF
theorem ij (z:Int):D.int .u8 (IntKind.u8.wrap z)=bD (cJ z):=by
  unfold bD;rw[yC,IntKind.wrap_u8]
def jZ:bd:=⟨1,57,ak [cz 1 0,dn 2,aX 3 0] (.seq (ak [cy 5 13 1,eB 6 26 5,oM 4 6] (ak [oM 7 4,ca .neq 8 7 0] (bc 8 (ak [oM 9 4,dn 2,oM 3 9] .ret) .skip))) (ak [aE 10 0 1,aP 11 10,oO 12 (.bin .shl (.t 11) (.k (.c (.d (.int .u64 6))))),aE 13 1 1,aP 14 13,oO 15 (.bin .shl (.t 14) (.k (.c (.d (.int .u64 3))))),dE .or 16 12 15,aE 17 2 1,aP 18 17,dE .or 19 16 18,oO 20 (.conv .u8 (.t 19)),aE 21 3 1,aP 22 21,oO 23 (.conv .u8 (.t 22)),aE 24 4 1,aP 25 24,oO 26 (.conv .u8 (.t 25)),aE 27 5 1,aP 28 27,oO 29 (.conv .u8 (.t 28)),oO 30 (.bldSl false 4 1 iJ [(0,(.t 20)),(1,(.t 23)),(2,(.t 26)),(3,(.t 29))]),aE 31 6 1,aP 32 31,oO 33 (.conv .u64 (.t 32)),oO 34 (.call 28 [(.t 33),(kI 4)] none),aE 35 7 1,aP 36 35,oO 37 (.conv .u64 (.t 36)),oO 38 (.call 28 [(.t 37),(kI 4)] none),
 aE 39 8 1,aP 40 39,oO 41 (.conv .u64 (.t 40)),oO 42 (.call 28 [(.t 41),(kI 4)] none),aE 43 9 1,aP 44 43,oO 45 (.call 28 [(.t 44),(kI 8)] none),aE 46 10 1,aP 47 46,oO 48 (.call 28 [(.t 47),(kI 8)] none),aE 49 11 1,aP 50 49,oO 51 (.call 28 [(.t 50),(kI 8)] none),aE 52 12 1,aP 53 52,oO 54 (.call 28 [(.t 53),(kI 8)] none),oO 55 (.bldSl false 8 1 (.sl []) [(0,(.t 30)),(1,(.t 34)),(2,(.t 38)),(3,(.t 42)),(4,(.t 45)),(5,(.t 48)),(6,(.t 51)),(7,(.t 54))]),oO 56 (.call 27 [(.t 55)] (some (0,1))),oM 2 56,aX 3 0] .ret)),[(2,none),(3,none)]⟩
theorem yQ:a7 Try.prog { own:=[56] } Try.f14=some jZ:=by kernel_rfl
theorem zG (G:ap) (h:Hd) (hf:vk h):aW Try.prog G 14 [aK h] (.tup [.c (.d (.sl ((fB h).map bD))),.c (.d (.int .i64 (dr h)))]):=by
  refine bB Try.func14 yQ rfl rfl ?_;have c1:=zE G h;unfold fB dr at *
  by_cases hv:c9 h=true
  ·have hr:eD h:=of_decide_eq_true hv;rw[if_pos hv] at c1 ⊢;rw[if_pos hv];obtain⟨o1,o2,o3,o4,o5,o6,o7,o8,o9,o10,o11⟩:=hr;obtain⟨f1,f2,f3,f4,f5,f6,f7⟩:=hf;have p5:=eM G h.rd 4 (by decide);have p6:=eM G h.rp 4 (by decide);have p7:=eM G h.ri 4 (by decide);have p8:=eM G h.rf 8 (by decide);have p9:=eM G h.og 8 (by decide);have pA:=eM G h.rc 8 (by decide);have pB:=eM G h.tr 8 (by decide);rw[show (4:Int).toNat=4 from rfl] at p5 p6 p7;rw[show (8:Int).toNat=8 from rfl] at p8 p9 pA pB;have cj:=yB G [[cJ (h.lp*64+h.vr*8+h.md),cJ h.st,cJ h.pl,cJ h.pr],aR h.rd 4,aR h.rp 4,aR h.ri 4,aR h.rf 8,aR h.og 8,aR h.rc 8,aR h.tr 8] (by simp) (by simp[fS]);have ef:([[cJ (h.lp*64+h.vr*8+h.md),cJ h.st,cJ h.pl,cJ h.pr],aR h.rd 4,aR h.rp 4,aR h.ri 4,aR h.rf 8,aR h.og 8,aR h.rc 8,aR h.tr 8]:List (List UInt8)).flatten=iO h:=by
     unfold iO vl;simp only[List.flatten_cons,List.flatten_nil,A8]
   rw[ef] at cj;have ho:=zm o1 o2 (v:=h.vr) (by omega) (by omega) o4 o5;unfold aK at *
   have w1:=ij (h.lp*64+h.vr*8+h.md);have w2:=ij h.st;have w3:=ij h.pl;have w4:=ij h.pr;generalize iO h=B at *
   generalize aR h.rd 4=B5 at *
   generalize aR h.rp 4=B6 at *
   generalize aR h.ri 4=B7 at *
   generalize aR h.rf 8=B8 at *
   generalize aR h.og 8=B9 at *
   generalize aR h.rc 8=BA at *
   generalize aR h.tr 8=BB at *
   simp only[z9,A2] at cj;rw[← w1,← w2,← w3,← w4,IntWalk.u8_in (h.lp*64+h.vr*8+h.md) (by omega),IntWalk.u8_in h.st (by omega),iq h.pl,iq h.pr] at cj;generalize hF:h.lp*64+h.vr*8+h.md=F at *
   simp only[jZ,ar,am,ai,seval,iteOmega,toNatUp];refine sC (c1) ?_;simp only[ho,IntKind.bits,am,ai,seval,iteOmega,toNatUp];refine sD (p5) ?_;refine sD (p6) ?_;refine sD (p7) ?_;refine sD (p8) ?_;refine sD (p9) ?_;refine sD (pA) ?_;refine sD (pB) ?_;refine sD (cj) ?_;exact d8
  ·have hv:c9 h=false:=by simpa using hv
   rw[hv] at c1 ⊢;rw[if_neg (by decide:¬ false=true)] at c1;rw[if_neg (by decide:¬ false=true),if_neg (by decide:¬ false=true)];unfold aK at *
   simp only[jZ,ar,am,ai,seval,iteOmega,toNatUp];refine sD (c1) ?_;exact tM (by simp only[am,ai,seval,iteOmega,toNatUp] <;> rfl) (by simp only[am,ai,seval,iteOmega,toNatUp])
end Go.Proofs.Yteohdchecapkfaa
