/- Texts of one's own, merged: from: Layer 16 on data: the program: headers. Own work. -/
import Derived.Test.YteohdchecapkfaaProg
import Derived.Test.YteohdchecapkfaaMg27
import Derived.Test.YteohdchecapkfaaMg29
import Derived.Test.YteohdchecapkfaaMg210
import Derived.Test.YteohdchecapkfaaMg211
set_option linter.unusedVariables false
set_option linter.unusedSimpArgs false
namespace Go.Proofs.Yteohdchecapkfaa
open Go.RowKit IntWalk
set_option maxHeartbeats 1600000
def aU (h:Hd):D:=.agg [.int .i64 h.lp,.int .i64 h.vr,.int .i64 h.md,.int .i64 h.st,.int .i64 h.pl,.int .i64 h.pr,.int .u32 (h.rd:Int),.int .u32 (h.rp:Int),.int .u32 (h.ri:Int),.int .u64 (h.rf:Int),.int .u64 (h.og:Int),.int .u64 (h.rc:Int),.int .u64 (h.tr:Int)]
def lr (h:Hd):Int:=if eB h then 0 else 4
def bX (t:Nat):Hd:=⟨0,4,3,0,6,0,0,0,0,0,0,0,t⟩
def cS (q:Hd) (st:Int):Int:=if eB q then (if q.md=3 then (if 0≤st∧st≤255 then 0 else 4) else 3) else 4
def iY (q:Hd) (st:Int) (rc tr:Nat):Hd:=if cS q st=0 then ⟨0,q.vr,4,st,q.pl,-20,0,0,0,0,q.tr,rc,tr⟩ else Hd.z
theorem zy (h:Hd):eB h=(decide (0≤h.lp∧h.lp≤3)&&(decide (3≤h.vr∧h.vr≤4)&&(decide (0≤h.md∧h.md≤7)&&(decide (0≤h.st∧h.st≤255)&&(decide (-128≤h.pl∧h.pl≤127)&&decide (-128≤h.pr∧h.pr≤127)))))):=by
  unfold eB gO;by_cases k:0≤h.lp∧h.lp≤3∧(h.vr=3∨h.vr=4)∧0≤h.md∧h.md≤7∧0≤h.st∧h.st≤255∧-128≤h.pl∧h.pl≤127∧-128≤h.pr∧h.pr≤127
  ·rw[decide_eq_true k];simp only[show (0≤h.lp∧h.lp≤3) from by omega,show (3≤h.vr∧h.vr≤4) from by omega,show (0≤h.md∧h.md≤7) from by omega,show (0≤h.st∧h.st≤255) from by omega,show (-128≤h.pl∧h.pl≤127) from by omega,show (-128≤h.pr∧h.pr≤127) from by omega];decide
  ·rw[decide_eq_false k]
   symm
   rw[← Bool.not_eq_true];intro e;simp only[Bm,decide_eq_true_eq] at e;exact k (by omega)
def ix:bc:=⟨3,15,am [cp 6 false] (am [oM 7 0,oM 8 1,ea .leq 9 7 8,oM 10 9,cq 11 1 10 true,cq 12 2 10 true,gJ .leq 13 11 12 10 true,cH 14 10 13,oM 6 14] .ret),[(6,none)]⟩
theorem zz:aX Try.prog {} Try.f30=some ix:=by kernel_rfl
theorem ft (G:ap) (a n b:Int):bh Try.prog G 30 [.int .i64 a,.int .i64 n,.int .i64 b] (.w (.c (.d (.bool (decide (a≤n∧n≤b)))))):=by
  refine b9 Try.func30 zz rfl rfl ?_;by_cases h1:a≤n
  ·by_cases h2:n≤b
   ·rw[decide_eq_true ⟨h1,h2⟩];simp only[ix,aC,ao,aj,seval,iteOmega,toNatUp];exact be
   ·rw[decide_eq_false (fun h=>h2 h.2)];simp only[ix,aC,ao,aj,seval,iteOmega,toNatUp];exact be
  ·rw[decide_eq_false (fun h=>h1 h.1)];simp only[ix,aC,ao,aj,seval,iteOmega,toNatUp];exact be
def rM:bc:=⟨1,5,am [cp 2 false] (am [oM 3 0,oO 4 (.call 30 [(kI 3),(.t 3),(kI 4)] none),oM 2 4] .ret),[(2,none)]⟩
theorem zA:aX Try.prog {} Try.f33=some rM:=by kernel_rfl
theorem Ae (G:ap) (n:Int):bh Try.prog G 33 [.int .i64 n] (.w (.c (.d (.bool (decide (3≤n∧n≤4)))))):=by
  refine b9 Try.func33 zA rfl rfl ?_;have c:=ft G (3) n 4;generalize decide (3≤n∧n≤4)=b at *
  simp only[rM,aC,ao,aj,seval,iteOmega,toNatUp];refine sD (c) ?_;exact be
def rN:bc:=⟨1,5,am [cp 2 false] (am [oM 3 0,oO 4 (.call 30 [(.k (.c (.d (.int .i64 (-128))))),(.t 3),(kI 127)] none),oM 2 4] .ret),[(2,none)]⟩
theorem zB:aX Try.prog {} Try.f34=some rN:=by kernel_rfl
theorem ut (G:ap) (n:Int):bh Try.prog G 34 [.int .i64 n] (.w (.c (.d (.bool (decide (-128≤n∧n≤127)))))):=by
  refine b9 Try.func34 zB rfl rfl ?_;have c:=ft G (-128) n 127;generalize decide (-128≤n∧n≤127)=b at *
  simp only[rN,aC,ao,aj,seval,iteOmega,toNatUp];refine sD (c) ?_;exact be
def ek:bc:=⟨1,35,am [cT 1 0,aV 2 0] (.seq (am [aI 3 0 1,ba 4 3,oO 5 (.call 30 [(kI 0),(.t 4),(kI 3)] none),eD 6 5,oM 7 6,dp 8 1 1 7 false,dn 9 8 7 false,oG 10 (.call 33 [(.t 9)] none) 7 false,fN 11 10 7 false,fM 12 7 11,oM 13 12,dp 14 2 1 13 false,dn 15 14 13 false,oG 16 (.call 30 [(kI 0),(.t 15),(kI 7)] none) 13 false,fN 17 16 13 false,fM 18 13 17] (bC 18 (am [aV 2 4] .ret) .skip)) (.seq (am [aI 19 3 1,ba 20 19,oO 21 (.call 30 [(kI 0),(.t 20),(kI 255)] none),eD 22 21,oM 23 22,dp 24 4 1 23 false,dn 25 24 23 false,oG 26 (.call 34 [(.t 25)] none) 23 false,fN 27 26 23 false,fM 28 23 27,oM 29 28,dp 30 5 1 29 false,dn 31 30 29 false,oG 32 (.call 34 [(.t 31)] none) 29 false,fN 33 32 29 false,fM 34 29 33] (bC 34 (am [aV 2 4] .ret) .skip)) (am [aV 2 0] .ret))),
 [(2,none)]⟩
theorem zE:aX Try.prog {} Try.f29=some ek:=by kernel_rfl
theorem Af (G:ap) (h:Hd):bh Try.prog G 29 [aU h] (.w (.c (.d (.int .i64 (lr h))))):=by
  refine b9 Try.func29 zE rfl rfl ?_;have c1:=ft G 0 h.lp 3;have c2:=Ae G h.vr;have c3:=ft G 0 h.md 7;have c4:=ft G 0 h.st 255;have c5:=ut G h.pl;have c6:=ut G h.pr;have he:lr h=if eB h=true then 0 else 4:=rfl
  rw[zy] at he;unfold aU;generalize decide (0≤h.lp∧h.lp≤3)=b1 at *
  generalize decide (3≤h.vr∧h.vr≤4)=b2 at *
  generalize decide (0≤h.md∧h.md≤7)=b3 at *
  generalize decide (0≤h.st∧h.st≤255)=b4 at *
  generalize decide (-128≤h.pl∧h.pl≤127)=b5 at *
  generalize decide (-128≤h.pr∧h.pr≤127)=b6 at *
  cases b1
  ·rw[he];simp only[ek,aC,ao,aj,seval,iteOmega,toNatUp];refine sD (c1) ?_;exact be
  cases b2
  ·rw[he];simp only[ek,aC,ao,aj,seval,iteOmega,toNatUp];refine sD (c1) ?_;refine sD (c2) ?_;exact be
  cases b3
  ·rw[he];simp only[ek,aC,ao,aj,seval,iteOmega,toNatUp];refine sD (c1) ?_;refine sD (c2) ?_;refine sD (c3) ?_;exact be
  cases b4
  ·rw[he];simp only[ek,aC,ao,aj,seval,iteOmega,toNatUp];refine sD (c1) ?_;refine sD (c2) ?_;refine sD (c3) ?_;refine sD (c4) ?_;exact be
  cases b5
  ·rw[he];simp only[ek,aC,ao,aj,seval,iteOmega,toNatUp];refine sD (c1) ?_;refine sD (c2) ?_;refine sD (c3) ?_;refine sD (c4) ?_;refine sD (c5) ?_;exact be
  cases b6
  ·rw[he];simp only[ek,aC,ao,aj,seval,iteOmega,toNatUp];refine sD (c1) ?_;refine sD (c2) ?_;refine sD (c3) ?_;refine sD (c4) ?_;refine sD (c5) ?_;refine sD (c6) ?_;exact be
  ·rw[he];simp only[ek,aC,ao,aj,seval,iteOmega,toNatUp];refine sD (c1) ?_;refine sD (c2) ?_;refine sD (c3) ?_;refine sD (c4) ?_;refine sD (c5) ?_;refine sD (c6) ?_;exact be
def rO:bc:=⟨1,5,am [oO 2 (.alloc [ab,ab,ab,ab,ab,ab,aB,aB,aB,ah,ah,ah,ah])] (am [oM 3 0,oO 4 (.build [ab,ab,ab,ab,ab,ab,aB,aB,aB,ah,ah,ah,ah] [(1,1,(kI 4)),(2,1,(kI 3)),(4,1,(kI 6)),(12,1,(.t 3))]),aL 13 2 4] .ret),[(2,(some (.ag 13)))]⟩
theorem zF:aX Try.prog {} Try.f20=some rO:=by kernel_rfl
theorem Ag (G:ap) (t:Nat):bh Try.prog G 20 [.int .u64 (t:Int)] (.w (.c (.d (aU (bX t))))):=by
  refine b9 Try.func20 zF rfl rfl ?_;unfold aU bX;simp only[rO,aC,ao,aj,seval,iteOmega,toNatUp];exact be
def gn:bc:=⟨4,35,am [cT 4 0,oO 8 (.alloc [ab,ab,ab,ab,ab,ab,aB,aB,aB,ah,ah,ah,ah]),aV 9 0] (.seq (am [bR 11 13 4,gK 12 29 11,oM 10 12] (am [oM 13 10,cL .neq 14 13 0] (bC 14 (am [oO 15 (.build [ab,ab,ab,ab,ab,ab,aB,aB,aB,ah,ah,ah,ah] []),oM 16 10,aL 13 8 15,oM 9 16] .ret) .skip))) (.seq (am [aI 17 2 4,ba 18 17,cL .neq 19 18 3] (bC 19 (am [oO 20 (.build [ab,ab,ab,ab,ab,ab,aB,aB,aB,ah,ah,ah,ah] []),aL 13 8 20,aV 9 3] .ret) .skip)) (.seq (am [oM 21 1,oO 22 (.call 30 [(kI 0),(.t 21),(kI 255)] none),eD 23 22] (bC 23 (am [oO 24 (.build [ab,ab,ab,ab,ab,ab,aB,aB,aB,ah,ah,ah,ah] []),aL 13 8 24,aV 9 4] .ret) .skip)) (am [aI 25 1 4,ba 26 25,oM 27 1,aI 28 4 4,ba 29 28,aI 30 12 4,ba 31 30,oM 32 2,oM 33 3,oO 34 (.build [ab,ab,ab,ab,ab,ab,aB,aB,aB,ah,ah,ah,ah] [(1,1,(.t 26)),(2,1,(kI 4)),(3,1,(.t 27)),(4,1,(.t 29)),(5,1,(.k (.c (.d (.int .i64 (-20)))))),(10,1,(.t 31)),(11,1,(.t 32)),(12,1,(.t 33))]),
 aL 13 8 34,aV 9 0] .ret)))),[(8,(some (.ag 13))),(9,none)]⟩
theorem zG:aX Try.prog {} Try.f21=some gn:=by kernel_rfl
theorem Ah (G:ap) (q:Hd) (st:Int) (rc tr:Nat):bh Try.prog G 21 [aU q,.int .i64 st,.int .u64 (rc:Int),.int .u64 (tr:Int)] (.tup [.c (.d (aU (iY q st rc tr))),.c (.d (.int .i64 (cS q st)))]):=by
  refine b9 Try.func21 zG rfl rfl ?_;have c1:=Af G q;have c2:=ft G 0 st 255;have he:cS q st=if eB q then (if q.md=3 then (if decide (0≤st∧st≤255)=true then 0 else 4) else 3) else 4:=by
    unfold cS; simp only[decide_eq_true_eq]
  unfold iY;rw[he];unfold lr at c1;generalize decide (0≤st∧st≤255)=b at *
  cases hv:eB q
  ·rw[hv] at c1;rw[if_neg (by decide:¬ false=true),if_neg (by decide:¬ (4:Int)=0)];rw[if_neg (by decide:¬ false=true)] at c1;unfold aU Hd.z at *
   simp only[gn,aC,ao,aj,seval,iteOmega,toNatUp];refine sD (c1) ?_;exact eF
  ·rw[hv,if_pos rfl] at c1;rw[if_pos rfl];by_cases hm:q.md=3
   ·rw[if_pos hm];cases b
    ·rw[if_neg (by decide:¬ false=true),if_neg (by decide:¬ (4:Int)=0)];unfold aU Hd.z at *
     simp only[gn,aC,ao,aj,seval,iteOmega,toNatUp];refine sD (c1) ?_;refine sD (c2) ?_;exact eF
    ·rw[if_pos rfl,if_pos rfl];unfold aU at *
     simp only[gn,aC,ao,aj,seval,iteOmega,toNatUp];refine sD (c1) ?_;refine sD (c2) ?_;exact eF
   ·rw[if_neg hm,if_neg (by decide:¬ (3:Int)=0)];unfold aU Hd.z at *
    simp only[gn,aC,ao,aj,seval,iteOmega,toNatUp];refine sD (c1) ?_;exact eF
def eJ (l:List Int) (a:Nat):Int:=if l.length≤a then 0 else l.getD a 0
def eK (l:List Int) (a:Nat):Nat:=if l.length≤a then a else a+1
theorem Ax {l:List Int} {a:Nat} (h:a≤l.length):eK l a≤l.length:=by
  unfold eK;split <;> omega
theorem yU (g:Nat→Nat) (ds:List D):(ds.map C.d).map (C.ren g)=ds.map C.d:=by
  induction ds with
  | nil=>rfl
  | cons d r ih=>rw[A8,A8,ih]; rfl
def fb (l:List Int) (a:Nat):List D:=[.sl (l.map zD),.int .i64 (a:Int)]
def kC:bc:=⟨2,15,am [aV 4 0] (am [oM 6 0,oM 7 1,ea .rem 8 6 7,oM 5 8] (.seq (am [oM 9 5,cL .lss 10 9 0] (bC 10 (.reg [oM 11 5,oM 12 1,ea .add 13 11 12,oM 5 13]) .skip)) (am [oM 14 5,oM 4 14] .ret))),[(4,none)]⟩
theorem Ay:aX Try.prog {} Try.f17=some kC:=by kernel_rfl
theorem AO (G:ap) (v m:Int) (hm:0<m) (h2:m≤9223372036854775807):bh Try.prog G 17 [.int .i64 v,.int .i64 m] (.w (.c (.d (.int .i64 (em v m))))):=by
  refine b9 Try.func17 Ay rfl rfl ?_;unfold em;rw[if_neg (by omega)];have hne:¬ m=0:=by omega
  have h4:=Int.tmod_lt_of_pos v hm;by_cases hn:v.tmod m<0
  ·have e:=yS hm hn;have h3:=Int.emod_lt_of_pos v hm;have h5:=Int.emod_nonneg v (show m≠0 by omega);simp only[kC,aC,ao,aj,seval,iteOmega,toNatUp,hne];exact kz (by simp only[ao,aj,seval,iteOmega,toNatUp,e])
  ·have e:=yT (v:=v) hm (by omega);simp only[kC,aC,ao,aj,seval,iteOmega,toNatUp,hne];exact kz (by simp only[ao,aj,seval,iteOmega,toNatUp,e])
def uJ:bc:=⟨1,6,am [oO 2 (.mv .u)] (am [oM 3 0,oO 4 (.build [.nil,ab] [(0,1,(.t 3))]),oO 5 (.box .ownBox (.t 4)),oM 2 5] .ret),[(2,none)]⟩
theorem Az:aX Try.prog { own:=[5] } Try.f7=some uJ:=by kernel_rfl
theorem AP (G:ap) (l:List Int):i4 Try.prog G 7 [.c (.d (.sl (l.map zD)))] [] (.w (.c (.ptr 1 1 0 0))) [(1,.box ((fb l 0).map C.d))]:=by
  refine x8 Try.func7 Az [] rfl rfl rfl rfl rfl rfl rfl ?_;simp only[uJ,cw,yR,yQ,ao,aj,seval,iteOmega,toNatUp];refine AM [(1,40)] [] (ws:=[.c (.ptr 40 1 0 0)]) ?_ rfl ?_ rfl trivial ⟨by simp,fun id h _=>by cases h⟩
  ·simp only[ar,ao,aj,seval,iteOmega,toNatUp]
  ·simp only[dJ,fb,A8,BO,wx,lm,ln,aj,seval,iteOmega,toNatUp,wm] <;> rfl
def kD:bc:=⟨1,31,am [aV 2 0] (.seq (am [oM 3 0,oO 4 (.nilChk (.t 3)),aI 5 1 4,ba 6 5,oM 7 0,oO 8 (.nilChk (.t 7)),aI 9 0 8,ba 10 9,gI 11 10,ea .geq 12 6 11] (bC 12 (am [aV 2 0] .ret) .skip)) (am [oM 13 0,oO 14 (.nilChk (.t 13)),aI 15 1 14,ba 16 15,cL .add 17 16 1,oO 18 (.nilChk (.t 13)),aI 19 1 18,fa 19 17] (am [oM 20 0,oO 21 (.nilChk (.t 20)),aI 22 0 21,ba 23 22,oM 24 0,oO 25 (.nilChk (.t 24)),aI 26 1 25,ba 27 26,cL .sub 28 27 1,i6 29 1 23 28,ba 30 29,oM 2 30] .ret))),[(2,none)]⟩
theorem AA:aX Try.prog {} Try.f18=some kD:=by kernel_rfl
theorem AQ (G:ap) (l:List Int) (a:Nat) (hl:l.length≤9223372036854775807) (ha:a≤l.length):eu Try.prog G 18 [.c (.ptr 1 1 0 0)] (bH (fb l a)) [1] (.w (.c (.d (.int .i64 (eJ l a))))) (bH (fb l (eK l a))) [1]:=by
  refine nD Try.func18 AA 0 rfl rfl rfl rfl rfl rfl ?_;unfold eJ eK fb;by_cases h:l.length≤a
  ·have g1:((a:Int)≥(l.length:Int))=True:=eq_true (by omega);rw[if_pos h,if_pos h];simp only[kD,cw,bH,fQ,gi,ao,aj,seval,iteOmega,toNatUp,g1];exact kK (by simp only[ao,aj,seval,iteOmega,toNatUp]) (by simp only[ao,aj,seval,iteOmega,toNatUp]) (by simp only[ao,aj,seval,iteOmega,toNatUp])
  ·have g1:((a:Int)≥(l.length:Int))=False:=eq_false (by omega);rw[if_neg h,if_neg h];have g2:l[a]?=some (l.getD a 0):=by rw[BC,A6 (by omega)]; rfl
   have e1:((a:Int)+1-1)=(a:Int):=by omega
   generalize l.getD a 0=x at *
   simp only[kD,cw,bH,fQ,gi,ao,aj,seval,iteOmega,toNatUp,g1,e1,iw,g2,zD];exact kK (by simp only[ao,aj,seval,iteOmega,toNatUp]) (by simp only[ao,aj,seval,iteOmega,toNatUp]) (by simp only[ao,aj,seval,iteOmega,toNatUp])
def uK:bc:=⟨2,9,am [aV 4 0] (am [oM 5 0,oO 6 (.callM 18 [(.t 5)]),oM 7 1,fO 8 17 6 7,oM 4 8] .ret),[(4,none)]⟩
theorem AB:aX Try.prog { mt:=[6] } Try.f8=some uK:=by kernel_rfl
theorem vK (G:ap) (l:List Int) (a:Nat) (m:Int) (hl:l.length≤9223372036854775807) (ha:a≤l.length) (h1:0<m) (h2:m≤9223372036854775807):eu Try.prog G 8 [.c (.ptr 1 1 0 0),.c (.d (.int .i64 m))] (bH (fb l a)) [1] (.w (.c (.d (.int .i64 (em (eJ l a) m))))) (bH (fb l (eK l a))) [1]:=by
  refine nD Try.func8 AB 0 rfl rfl rfl rfl rfl rfl ?_;have c1:=AQ G l a hl ha;have c2:=AO G (eJ l a) m h1 h2;simp only[uK,cw,bH,fQ,gi,ao,aj,seval,iteOmega,toNatUp];refine kh (id:=1) (ws:=[.c (.ptr 1 1 0 0)]) c1 (by simp only[ao,aj,seval,iteOmega,toNatUp,A8,BO]) rfl (by simp only[ao,aj,seval,iteOmega,toNatUp]) rfl ?_;simp only[lq,fQ,gi,ao,aj,seval,iteOmega,toNatUp];refine sC (c2) ?_;simp only[gi,ao,aj,seval,iteOmega,toNatUp];exact kK (by simp only[ao,aj,seval,iteOmega,toNatUp]) (by simp only[ao,aj,seval,iteOmega,toNatUp]) (by simp only[ao,aj,seval,iteOmega,toNatUp])

end Go.Proofs.Yteohdchecapkfaa
