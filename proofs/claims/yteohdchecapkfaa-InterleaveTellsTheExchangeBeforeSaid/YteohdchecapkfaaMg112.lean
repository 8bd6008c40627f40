/- Texts of one's own, merged: from: Layer 16 on data: the program: headers. Own work. -/
import Derived.Test.YteohdchecapkfaaProg
import Derived.Test.YteohdchecapkfaaMg17
import Derived.Test.YteohdchecapkfaaMg19
import Derived.Test.YteohdchecapkfaaMg110
import Derived.Test.YteohdchecapkfaaMg111
set_option linter.unusedVariables false
set_option linter.unusedSimpArgs false
namespace Go.Proofs.Yteohdchecapkfaa
open Go.RowKit IntWalk
set_option maxHeartbeats 1600000
def aU (h:Hd):D:=.agg [.int .i64 h.lp,.int .i64 h.vr,.int .i64 h.md,.int .i64 h.st,.int .i64 h.pl,.int .i64 h.pr,.int .u32 (h.rd:Int),.int .u32 (h.rp:Int),.int .u32 (h.ri:Int),.int .u64 (h.rf:Int),.int .u64 (h.og:Int),.int .u64 (h.rc:Int),.int .u64 (h.tr:Int)]
def lS (h:Hd):Int:=if e8 h then 0 else 4
def dr (t:Nat):Hd:=⟨0,4,3,0,6,0,0,0,0,0,0,0,t⟩
def dh (q:Hd) (st:Int):Int:=if e8 q then (if q.md=3 then (if 0≤st∧st≤255 then 0 else 4) else 3) else 4
def jt (q:Hd) (st:Int) (rc tr:Nat):Hd:=if dh q st=0 then ⟨0,q.vr,4,st,q.pl,-20,0,0,0,0,q.tr,rc,tr⟩ else Hd.z
theorem z9 (h:Hd):e8 h=(decide (0≤h.lp∧h.lp≤3)&&(decide (3≤h.vr∧h.vr≤4)&&(decide (0≤h.md∧h.md≤7)&&(decide (0≤h.st∧h.st≤255)&&(decide (-128≤h.pl∧h.pl≤127)&&decide (-128≤h.pr∧h.pr≤127)))))):=by
  unfold e8 ie;by_cases k:0≤h.lp∧h.lp≤3∧(h.vr=3∨h.vr=4)∧0≤h.md∧h.md≤7∧0≤h.st∧h.st≤255∧-128≤h.pl∧h.pl≤127∧-128≤h.pr∧h.pr≤127
  ·rw[decide_eq_true k];simp only[show (0≤h.lp∧h.lp≤3) from by omega,show (3≤h.vr∧h.vr≤4) from by omega,show (0≤h.md∧h.md≤7) from by omega,show (0≤h.st∧h.st≤255) from by omega,show (-128≤h.pl∧h.pl≤127) from by omega,show (-128≤h.pr∧h.pr≤127) from by omega];decide
  ·rw[decide_eq_false k]
   symm
   rw[← Bool.not_eq_true];intro e;simp only[B5,decide_eq_true_eq] at e;exact k (by omega)
def iY:bg:=⟨3,15,al [bZ 6 false] (al [oM 7 0,oM 8 1,cS .leq 9 7 8,oM 10 9,cT 11 1 10 true,cT 12 2 10 true,jy .leq 13 11 12 10 true,du 14 10 13,oM 6 14] .ret),[(6,none)]⟩
theorem Aa:a7 Try.prog {} Try.f30=some iY:=by kernel_rfl
theorem fZ (G:ap) (a n b:Int):br Try.prog G 30 [.int .i64 a,.int .i64 n,.int .i64 b] (.w (.c (.d (.bool (decide (a≤n∧n≤b)))))):=by
  refine cq Try.func30 Aa rfl rfl ?_;by_cases h1:a≤n
  ·by_cases h2:n≤b
   ·rw[decide_eq_true ⟨h1,h2⟩];simp only[iY,aE,ae,aa,seval,iteOmega,toNatUp];exact bz
   ·rw[decide_eq_false (fun h=>h2 h.2)];simp only[iY,aE,ae,aa,seval,iteOmega,toNatUp];exact bz
  ·rw[decide_eq_false (fun h=>h1 h.1)];simp only[iY,aE,ae,aa,seval,iteOmega,toNatUp];exact bz
def sA:bg:=⟨1,5,al [bZ 2 false] (al [oM 3 0,oO 4 (.call 30 [(kI 3),(.t 3),(kI 4)] none),oM 2 4] .ret),[(2,none)]⟩
theorem Ab:a7 Try.prog {} Try.f33=some sA:=by kernel_rfl
theorem AU (G:ap) (n:Int):br Try.prog G 33 [.int .i64 n] (.w (.c (.d (.bool (decide (3≤n∧n≤4)))))):=by
  refine cq Try.func33 Ab rfl rfl ?_;have c:=fZ G (3) n 4;generalize decide (3≤n∧n≤4)=b at *
  simp only[sA,aE,ae,aa,seval,iteOmega,toNatUp];refine sD (c) ?_;exact bz
def sE:bg:=⟨1,5,al [bZ 2 false] (al [oM 3 0,oO 4 (.call 30 [(.k (.c (.d (.int .i64 (-128))))),(.t 3),(kI 127)] none),oM 2 4] .ret),[(2,none)]⟩
theorem Ac:a7 Try.prog {} Try.f34=some sE:=by kernel_rfl
theorem u1 (G:ap) (n:Int):br Try.prog G 34 [.int .i64 n] (.w (.c (.d (.bool (decide (-128≤n∧n≤127)))))):=by
  refine cq Try.func34 Ac rfl rfl ?_;have c:=fZ G (-128) n 127;generalize decide (-128≤n∧n≤127)=b at *
  simp only[sE,aE,ae,aa,seval,iteOmega,toNatUp];refine sD (c) ?_;exact bz
def eW:bg:=⟨1,35,al [di 1 0,aX 2 0] (.seq (al [aD 3 0 1,aL 4 3,oO 5 (.call 30 [(kI 0),(.t 4),(kI 3)] none),fe 6 5,oM 7 6,d5 8 1 1 7 false,d4 9 8 7 false,oG 10 (.call 33 [(.t 9)] none) 7 false,gy 11 10 7 false,fc 12 7 11,oM 13 12,d5 14 2 1 13 false,d4 15 14 13 false,oG 16 (.call 30 [(kI 0),(.t 15),(kI 7)] none) 13 false,gy 17 16 13 false,fc 18 13 17] (bf 18 (al [aX 2 4] .ret) .skip)) (.seq (al [aD 19 3 1,aL 20 19,oO 21 (.call 30 [(kI 0),(.t 20),(kI 255)] none),fe 22 21,oM 23 22,d5 24 4 1 23 false,d4 25 24 23 false,oG 26 (.call 34 [(.t 25)] none) 23 false,gy 27 26 23 false,fc 28 23 27,oM 29 28,d5 30 5 1 29 false,d4 31 30 29 false,oG 32 (.call 34 [(.t 31)] none) 29 false,gy 33 32 29 false,fc 34 29 33] (bf 34 (al [aX 2 4] .ret) .skip)) (al [aX 2 0] .ret))),
 [(2,none)]⟩
theorem Ad:a7 Try.prog {} Try.f29=some eW:=by kernel_rfl
theorem AV (G:ap) (h:Hd):br Try.prog G 29 [aU h] (.w (.c (.d (.int .i64 (lS h))))):=by
  refine cq Try.func29 Ad rfl rfl ?_;have c1:=fZ G 0 h.lp 3;have c2:=AU G h.vr;have c3:=fZ G 0 h.md 7;have c4:=fZ G 0 h.st 255;have c5:=u1 G h.pl;have c6:=u1 G h.pr;have he:lS h=if e8 h=true then 0 else 4:=rfl
  rw[z9] at he;unfold aU;generalize decide (0≤h.lp∧h.lp≤3)=b1 at *
  generalize decide (3≤h.vr∧h.vr≤4)=b2 at *
  generalize decide (0≤h.md∧h.md≤7)=b3 at *
  generalize decide (0≤h.st∧h.st≤255)=b4 at *
  generalize decide (-128≤h.pl∧h.pl≤127)=b5 at *
  generalize decide (-128≤h.pr∧h.pr≤127)=b6 at *
  cases b1
  ·rw[he];simp only[eW,aE,ae,aa,seval,iteOmega,toNatUp];refine sD (c1) ?_;exact bz
  cases b2
  ·rw[he];simp only[eW,aE,ae,aa,seval,iteOmega,toNatUp];refine sD (c1) ?_;refine sD (c2) ?_;exact bz
  cases b3
  ·rw[he];simp only[eW,aE,ae,aa,seval,iteOmega,toNatUp];refine sD (c1) ?_;refine sD (c2) ?_;refine sD (c3) ?_;exact bz
  cases b4
  ·rw[he];simp only[eW,aE,ae,aa,seval,iteOmega,toNatUp];refine sD (c1) ?_;refine sD (c2) ?_;refine sD (c3) ?_;refine sD (c4) ?_;exact bz
  cases b5
  ·rw[he];simp only[eW,aE,ae,aa,seval,iteOmega,toNatUp];refine sD (c1) ?_;refine sD (c2) ?_;refine sD (c3) ?_;refine sD (c4) ?_;refine sD (c5) ?_;exact bz
  cases b6
  ·rw[he];simp only[eW,aE,ae,aa,seval,iteOmega,toNatUp];refine sD (c1) ?_;refine sD (c2) ?_;refine sD (c3) ?_;refine sD (c4) ?_;refine sD (c5) ?_;refine sD (c6) ?_;exact bz
  ·rw[he];simp only[eW,aE,ae,aa,seval,iteOmega,toNatUp];refine sD (c1) ?_;refine sD (c2) ?_;refine sD (c3) ?_;refine sD (c4) ?_;refine sD (c5) ?_;refine sD (c6) ?_;exact bz
def sF:bg:=⟨1,5,al [oO 2 (.alloc [af,af,af,af,af,af,aC,aC,aC,aj,aj,aj,aj])] (al [oM 3 0,oO 4 (.build [af,af,af,af,af,af,aC,aC,aC,aj,aj,aj,aj] [(1,1,(kI 4)),(2,1,(kI 3)),(4,1,(kI 6)),(12,1,(.t 3))]),aM 13 2 4] .ret),[(2,(some (.ag 13)))]⟩
theorem Ae:a7 Try.prog {} Try.f20=some sF:=by kernel_rfl
theorem AW (G:ap) (t:Nat):br Try.prog G 20 [.int .u64 (t:Int)] (.w (.c (.d (aU (dr t))))):=by
  refine cq Try.func20 Ae rfl rfl ?_;unfold aU dr;simp only[sF,aE,ae,aa,seval,iteOmega,toNatUp];exact bz
def gR:bg:=⟨4,35,al [di 4 0,oO 8 (.alloc [af,af,af,af,af,af,aC,aC,aC,aj,aj,aj,aj]),aX 9 0] (.seq (al [cm 11 13 4,hZ 12 29 11,oM 10 12] (al [oM 13 10,b9 .neq 14 13 0] (bf 14 (al [oO 15 (.build [af,af,af,af,af,af,aC,aC,aC,aj,aj,aj,aj] []),oM 16 10,aM 13 8 15,oM 9 16] .ret) .skip))) (.seq (al [aD 17 2 4,aL 18 17,b9 .neq 19 18 3] (bf 19 (al [oO 20 (.build [af,af,af,af,af,af,aC,aC,aC,aj,aj,aj,aj] []),aM 13 8 20,aX 9 3] .ret) .skip)) (.seq (al [oM 21 1,oO 22 (.call 30 [(kI 0),(.t 21),(kI 255)] none),fe 23 22] (bf 23 (al [oO 24 (.build [af,af,af,af,af,af,aC,aC,aC,aj,aj,aj,aj] []),aM 13 8 24,aX 9 4] .ret) .skip)) (al [aD 25 1 4,aL 26 25,oM 27 1,aD 28 4 4,aL 29 28,aD 30 12 4,aL 31 30,oM 32 2,oM 33 3,oO 34 (.build [af,af,af,af,af,af,aC,aC,aC,aj,aj,aj,aj] [(1,1,(.t 26)),(2,1,(kI 4)),(3,1,(.t 27)),(4,1,(.t 29)),(5,1,(.k (.c (.d (.int .i64 (-20)))))),(10,1,(.t 31)),(11,1,(.t 32)),(12,1,(.t 33))]),
 aM 13 8 34,aX 9 0] .ret)))),[(8,(some (.ag 13))),(9,none)]⟩
theorem Af:a7 Try.prog {} Try.f21=some gR:=by kernel_rfl
theorem AY (G:ap) (q:Hd) (st:Int) (rc tr:Nat):br Try.prog G 21 [aU q,.int .i64 st,.int .u64 (rc:Int),.int .u64 (tr:Int)] (.tup [.c (.d (aU (jt q st rc tr))),.c (.d (.int .i64 (dh q st)))]):=by
  refine cq Try.func21 Af rfl rfl ?_;have c1:=AV G q;have c2:=fZ G 0 st 255;have he:dh q st=if e8 q then (if q.md=3 then (if decide (0≤st∧st≤255)=true then 0 else 4) else 3) else 4:=by
    unfold dh; simp only[decide_eq_true_eq]
  unfold jt;rw[he];unfold lS at c1;generalize decide (0≤st∧st≤255)=b at *
  cases hv:e8 q
  ·rw[hv] at c1;rw[if_neg (by decide:¬ false=true),if_neg (by decide:¬ (4:Int)=0)];rw[if_neg (by decide:¬ false=true)] at c1;unfold aU Hd.z at *
   simp only[gR,aE,ae,aa,seval,iteOmega,toNatUp];refine sD (c1) ?_;exact fg
  ·rw[hv,if_pos rfl] at c1;rw[if_pos rfl];by_cases hm:q.md=3
   ·rw[if_pos hm];cases b
    ·rw[if_neg (by decide:¬ false=true),if_neg (by decide:¬ (4:Int)=0)];unfold aU Hd.z at *
     simp only[gR,aE,ae,aa,seval,iteOmega,toNatUp];refine sD (c1) ?_;refine sD (c2) ?_;exact fg
    ·rw[if_pos rfl,if_pos rfl];unfold aU at *
     simp only[gR,aE,ae,aa,seval,iteOmega,toNatUp];refine sD (c1) ?_;refine sD (c2) ?_;exact fg
   ·rw[if_neg hm,if_neg (by decide:¬ (3:Int)=0)];unfold aU Hd.z at *
    simp only[gR,aE,ae,aa,seval,iteOmega,toNatUp];refine sD (c1) ?_;exact fg
def cV (l:List Int) (a:Nat):Int:=if l.length≤a then 0 else l.getD a 0
def dN (l:List Int) (a:Nat):Nat:=if l.length≤a then a else a+1
theorem gY {l:List Int} {a:Nat} (h:a≤l.length):dN l a≤l.length:=by
  unfold dN;split <;> omega
theorem eV (g:Nat→Nat) (ds:List D):(ds.map C.d).map (C.ren g)=ds.map C.d:=by
  induction ds with
  | nil=>rfl
  | cons d r ih=>rw[BO,BO,ih]; rfl
def ee (l:List Int) (a:Nat):List D:=[.sl (l.map zD),.int .i64 (a:Int)]
def lh:bg:=⟨2,15,al [aX 4 0] (al [oM 6 0,oM 7 1,cS .rem 8 6 7,oM 5 8] (.seq (al [oM 9 5,b9 .lss 10 9 0] (bf 10 (.reg [oM 11 5,oM 12 1,cS .add 13 11 12,oM 5 13]) .skip)) (al [oM 14 5,oM 4 14] .ret))),[(4,none)]⟩
theorem Be:a7 Try.prog {} Try.f17=some lh:=by kernel_rfl
theorem Bv (G:ap) (v m:Int) (hm:0<m) (h2:m≤9223372036854775807):br Try.prog G 17 [.int .i64 v,.int .i64 m] (.w (.c (.d (.int .i64 (da v m))))):=by
  refine cq Try.func17 Be rfl rfl ?_;unfold da;rw[if_neg (by omega)];have hne:¬ m=0:=by omega
  have h4:=Int.tmod_lt_of_pos v hm;by_cases hn:v.tmod m<0
  ·have e:=zo hm hn;have h3:=Int.emod_lt_of_pos v hm;have h5:=Int.emod_nonneg v (show m≠0 by omega);simp only[lh,aE,ae,aa,seval,iteOmega,toNatUp,hne];exact k9 (by simp only[ae,aa,seval,iteOmega,toNatUp,e])
  ·have e:=zp (v:=v) hm (by omega);simp only[lh,aE,ae,aa,seval,iteOmega,toNatUp,hne];exact k9 (by simp only[ae,aa,seval,iteOmega,toNatUp,e])
def vk:bg:=⟨1,6,al [oO 2 (.mv .u)] (al [oM 3 0,oO 4 (.build [.nil,af] [(0,1,(.t 3))]),oO 5 (.box .ownBox (.t 4)),oM 2 5] .ret),[(2,none)]⟩
theorem Bf:a7 Try.prog { own:=[5] } Try.f7=some vk:=by kernel_rfl
theorem Bw (G:ap) (l:List Int):jv Try.prog G 7 [.c (.d (.sl (l.map zD)))] [] (.w (.c (.ptr 1 1 0 0))) [(1,.box ((ee l 0).map C.d))]:=by
  refine yE Try.func7 Bf [] rfl rfl rfl rfl rfl rfl rfl ?_;simp only[vk,cA,zn,zm,ae,aa,seval,iteOmega,toNatUp];refine Bu [(1,40)] [] (ws:=[.c (.ptr 40 1 0 0)]) ?_ rfl ?_ rfl trivial ⟨by simp,fun id h _=>by cases h⟩
  ·simp only[ar,ae,aa,seval,iteOmega,toNatUp]
  ·simp only[d7,ee,BO,B0,wx,d9,ea,aa,seval,iteOmega,toNatUp,wY] <;> rfl
def li:bg:=⟨1,31,al [aX 2 0] (.seq (al [oM 3 0,oO 4 (.nilChk (.t 3)),aD 5 1 4,aL 6 5,oM 7 0,oO 8 (.nilChk (.t 7)),aD 9 0 8,aL 10 9,gx 11 10,cS .geq 12 6 11] (bf 12 (al [aX 2 0] .ret) .skip)) (al [oM 13 0,oO 14 (.nilChk (.t 13)),aD 15 1 14,aL 16 15,b9 .add 17 16 1,oO 18 (.nilChk (.t 13)),aD 19 1 18,fI 19 17] (al [oM 20 0,oO 21 (.nilChk (.t 20)),aD 22 0 21,aL 23 22,oM 24 0,oO 25 (.nilChk (.t 24)),aD 26 1 25,aL 27 26,b9 .sub 28 27 1,jx 29 1 23 28,aL 30 29,oM 2 30] .ret))),[(2,none)]⟩
theorem Bg:a7 Try.prog {} Try.f18=some li:=by kernel_rfl
theorem Bz (G:ap) (l:List Int) (a:Nat) (hl:l.length≤9223372036854775807) (ha:a≤l.length):eD Try.prog G 18 [.c (.ptr 1 1 0 0)] (bB (ee l a)) [1] (.w (.c (.d (.int .i64 (cV l a))))) (bB (ee l (dN l a))) [1]:=by
  refine j7 Try.func18 Bg 0 rfl rfl rfl rfl rfl rfl ?_;unfold cV dN ee;by_cases h:l.length≤a
  ·have g1:((a:Int)≥(l.length:Int))=True:=eq_true (by omega);rw[if_pos h,if_pos h];simp only[li,cA,bB,aZ,eU,ae,aa,seval,iteOmega,toNatUp,g1];exact g8 (by simp only[ae,aa,seval,iteOmega,toNatUp]) (by simp only[ae,aa,seval,iteOmega,toNatUp]) (by simp only[ae,aa,seval,iteOmega,toNatUp])
  ·have g1:((a:Int)≥(l.length:Int))=False:=eq_false (by omega);rw[if_neg h,if_neg h];have g2:l[a]?=some (l.getD a 0):=by rw[Cj,BP (by omega)]; rfl
   have e1:((a:Int)+1-1)=(a:Int):=by omega
   generalize l.getD a 0=x at *
   simp only[li,cA,bB,aZ,eU,ae,aa,seval,iteOmega,toNatUp,g1,e1,iX,g2,zD];exact g8 (by simp only[ae,aa,seval,iteOmega,toNatUp]) (by simp only[ae,aa,seval,iteOmega,toNatUp]) (by simp only[ae,aa,seval,iteOmega,toNatUp])
def vl:bg:=⟨2,9,al [aX 4 0] (al [oM 5 0,oO 6 (.callM 18 [(.t 5)]),oM 7 1,gz 8 17 6 7,oM 4 8] .ret),[(4,none)]⟩
theorem Bh:a7 Try.prog { mt:=[6] } Try.f8=some vl:=by kernel_rfl
theorem hC (G:ap) (l:List Int) (a:Nat) (m:Int) (hl:l.length≤9223372036854775807) (ha:a≤l.length) (h1:0<m) (h2:m≤9223372036854775807):eD Try.prog G 8 [.c (.ptr 1 1 0 0),.c (.d (.int .i64 m))] (bB (ee l a)) [1] (.w (.c (.d (.int .i64 (da (cV l a) m))))) (bB (ee l (dN l a))) [1]:=by
  refine j7 Try.func8 Bh 0 rfl rfl rfl rfl rfl rfl ?_;have c1:=Bz G l a hl ha;have c2:=Bv G (cV l a) m h1 h2;simp only[vl,cA,bB,aZ,eU,ae,aa,seval,iteOmega,toNatUp];refine bi (id:=1) (ws:=[.c (.ptr 1 1 0 0)]) c1 (by simp only[ae,aa,seval,iteOmega,toNatUp,BO,B0]) rfl (by simp only[ae,aa,seval,iteOmega,toNatUp]) rfl ?_;simp only[bh,aZ,eU,ae,aa,seval,iteOmega,toNatUp];refine sC (c2) ?_;simp only[eU,ae,aa,seval,iteOmega,toNatUp];exact g8 (by simp only[ae,aa,seval,iteOmega,toNatUp]) (by simp only[ae,aa,seval,iteOmega,toNatUp]) (by simp only[ae,aa,seval,iteOmega,toNatUp])
def vm:bg:=⟨2,11,al [bZ 4 false] (al [oM 5 0,oM 6 1,oO 7 (.callM 8 [(.t 5),(.t 6)]),oM 8 1,b9 .sub 9 8 1,cS .eql 10 7 9,oM 4 10] .ret),[(4,none)]⟩
theorem Bi:a7 Try.prog { mt:=[7] } Try.f10=some vm:=by kernel_rfl
theorem BA (G:ap) (l:List Int) (a:Nat) (m:Int) (hl:l.length≤9223372036854775807) (ha:a≤l.length) (h1:0<m) (h2:m≤9223372036854775807):eD Try.prog G 10 [.c (.ptr 1 1 0 0),.c (.d (.int .i64 m))] (bB (ee l a)) [1] (.w (.c (.d (.bool (decide (da (cV l a) m=m-1)))))) (bB (ee l (dN l a))) [1]:=by
  refine j7 Try.func10 Bi 0 rfl rfl rfl rfl rfl rfl ?_;have c1:=hC G l a m hl ha h1 h2;simp only[vm,cA,bB,aZ,eU,ae,aa,seval,iteOmega,toNatUp];refine bi (id:=1) (ws:=[.c (.ptr 1 1 0 0),.c (.d (.int .i64 m))]) c1 (by simp only[ae,aa,seval,iteOmega,toNatUp,BO,B0]) rfl (by simp only[ae,aa,seval,iteOmega,toNatUp]) rfl ?_;generalize da (cV l a) m=x at *
  by_cases h:x=m-1
  ·rw[decide_eq_true h];have g:=eq_true h;simp only[bh,aZ,eU,ae,aa,seval,iteOmega,toNatUp,g];exact g8 (by simp only[ae,aa,seval,iteOmega,toNatUp]) (by simp only[ae,aa,seval,iteOmega,toNatUp]) (by simp only[ae,aa,seval,iteOmega,toNatUp])
  ·rw[decide_eq_false h];have g:=eq_false h;simp only[bh,aZ,eU,ae,aa,seval,iteOmega,toNatUp,g];exact g8 (by simp only[ae,aa,seval,iteOmega,toNatUp]) (by simp only[ae,aa,seval,iteOmega,toNatUp]) (by simp only[ae,aa,seval,iteOmega,toNatUp])
end Go.Proofs.Yteohdchecapkfaa
