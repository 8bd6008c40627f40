/- Texts of one's own, merged: from: Layer 24 as functions of numbers: interleaved mode. Pure. Own work. -/
import Derived.Test.YteohdchecapkfaaMg212
import Derived.Test.YteohdchecapkfaaMg213
import Derived.Test.YteohdchecapkfaaMg27
import Derived.Shelf.Abstract
import Derived.Test.YteohdchecapkfaaMg28
import Derived.Test.YteohdchecapkfaaMg29
set_option linter.unusedVariables false
set_option linter.unusedSimpArgs false
namespace Go.Proofs.Yteohdchecapkfaa
open Go.RowKit
structure bn where
  op:Bool
  kn:Bool
  tr:Nat
  sk:Int
  sn:Int
  gt:Int
  rc:Nat
  mr:Nat
def bn.z:bn:=⟨false,false,0,0,0,0,0,0⟩
def b7 (i:bn):D:=.agg [.bool i.op,.bool i.kn,.int .u64 (i.tr:Int),.int .i64 i.sk,.int .i64 i.sn,.int .i64 i.gt,.int .u64 (i.rc:Int),.int .u64 (i.mr:Int)]
structure dL where
  t1:Int
  t4:Int
  t2:Nat
  t3:Nat
  il:Bool
def dL.z:dL:=⟨0,0,0,0,false⟩
def dm (r:dL):D:=.agg [.int .i64 r.t1,.int .i64 r.t4,.int .u64 (r.t2:Int),.int .u64 (r.t3:Int),.bool r.il]
def bI (p:Nat×Nat):D:=.agg [.int .u64 (p.1:Int),.int .u64 (p.2:Int)]
def eH (i:bn) (t:Nat) (a:Int):Int:=if dl a=true then (if t=0∨(i.kn=true∧t=i.mr) then 3 else 0) else 4
def gP (i:bn) (t:Nat) (a:Int):bn:=if eH i t a=0 then ⟨true,i.kn,t,a,i.sn,i.gt,i.rc,i.mr⟩ else .z
def gQ (i:bn) (t:Nat) (a:Int):Hd:=if eH i t a=0 then (if i.kn=true then ⟨0,4,3,0,6,0,0,0,0,0,i.rc,i.mr,t⟩ else bX t) else Hd.z
def ei (m:List (Nat×Nat)) (x:Nat):Option (Nat×Nat):=m.find? fun p=>p.1==x
def eI (m:List (Nat×Nat)) (q:Hd) (st:Int) (rc:Nat):Int:=if cS q st=0 then (if m.length≤8 then (if (ei m rc).isSome=true then 27 else 0) else 8) else cS q st
def fS (m:List (Nat×Nat)) (q:Hd):Option (Nat×Nat):=if q.og=0 then none else ei m q.og
def jd (q:Hd) (st:Int) (rc tr:Nat):Option (Nat×Nat)→Hd
  | some p=>⟨0,q.vr,4,st,q.pl,-20,0,0,0,0,q.rc,rc,p.2⟩
  | none=>⟨0,q.vr,4,st,q.pl,-20,0,0,0,0,q.tr,rc,tr⟩
def gR (m:List (Nat×Nat)) (q:Hd) (st:Int) (rc tr:Nat):Hd:=if eI m q st rc=0 then jd q st rc tr (fS m q) else Hd.z
def gS (m:List (Nat×Nat)) (q:Hd) (st:Int) (rc:Nat):Bool:=if eI m q st rc=0 then (fS m q).isSome else false
def gT (m:List (Nat×Nat)) (q:Hd) (st:Int) (rc tr:Nat):List (Nat×Nat):=if eI m q st rc=0 then ((rc,tr)::m).take 8 else []
def dt (i:bn) (h:Hd) (a:Int):Int:=if i.op=true then (if dl a=true then (if a<i.sk then 12 else if h.md=4 then (if h.og=i.tr then 0 else if i.kn=true∧h.og=i.mr then 0 else 23) else 3) else 4) else 7
def ls (i:bn) (h:Hd) (a:Int):dL:=if dt i h a=0 then (if h.og=i.tr then ⟨i.sk,a,h.rc,h.tr,false⟩ else ⟨i.sn,i.gt,i.rc,h.tr,true⟩) else .z
def gU (i:bn) (h:Hd) (a:Int):bn:=if dt i h a=0 then ⟨false,true,0,0,i.sk,a,h.rc,i.tr⟩ else .z
theorem yM {m:List (Nat×Nat)} {x:Nat}:ei m x=none↔∀ p∈m,p.1≠x:=by
  unfold ei;rw[List.find?_eq_none];simp
theorem Aj {q:Hd} (h0:0≤q.lp) (h1:q.lp≤3) (h2:q.vr=4) (h3:q.md=3) (h4:q.st=0) (h5:q.pl=6) (h6:q.pr=0) {st:Int} (s0:0≤st) (s1:st≤255):cS q st=0:=by
  unfold cS eB;rw[decide_eq_true (show gO q from ⟨h0,h1,.inr h2,by omega,by omega,by omega,by omega,by omega,by omega,by omega,by omega⟩),if_pos rfl,if_pos h3,if_pos ⟨s0,s1⟩]
open IntWalk
set_option maxHeartbeats 3200000
def fu:bc:=⟨3,46,am [oO 3 (.box .ownBox (.t 0)),oO 6 (.alloc [aH,aH,ah,ab,ab,ab,ah,ah]),oO 7 (.alloc [ab,ab,ab,ab,ab,ab,aB,aB,aB,ah,ah,ah,ah]),aV 8 0] (.seq (am [oM 10 2,gK 11 19 10,eD 12 11] (bC 12 (am [oO 13 (.build [aH,aH,ah,ab,ab,ab,ah,ah] []),oO 14 (.build [ab,ab,ab,ab,ab,ab,aB,aB,aB,ah,ah,ah,ah] []),aL 8 6 13,aL 13 7 14,aV 8 4] .ret) .skip)) (.seq (am [oM 15 1,oO 16 (.bin .eql (.t 15) (.k (.c ah))),oM 17 16,dp 18 1 3 17 false,dn 19 18 17 false,cq 20 19 17 false,cq 21 1 20 true,dp 22 7 3 20 true,dn 23 22 20 true,gJ .eql 24 21 23 20 true,oG 25 (.pick (.t 20) (.t 24) (.k (.c aH))) 17 false,fM 26 17 25] (bC 26 (am [oO 27 (.build [aH,aH,ah,ab,ab,ab,ah,ah] []),oO 28 (.build [ab,ab,ab,ab,ab,ab,aB,aB,aB,ah,ah,ah,ah] []),
 aL 8 6 27,aL 13 7 28,aV 8 3] .ret) .skip)) (am [oM 29 1,gK 30 20 29,oO 9 (.alloc [ab,ab,ab,ab,ab,ab,aB,aB,aB,ah,ah,ah,ah]),aL 13 9 30] (.seq (am [aI 31 1 3,ba 32 31] (bC 32 (.reg [aI 33 6 3,oO 34 (.loadX .sc (.t 33) [(.t 9)]),aI 35 7 3,oO 36 (.loadX .sc (.t 35) [(.t 9)]),aI 37 10 9,oN (.storeX .sc (.t 37) (.t 34) (.t 9)),aI 38 11 9,oN (.storeX .sc (.t 38) (.t 36) (.t 9))]) .skip)) (am [oM 39 1,oM 40 2,aI 41 0 3,oN (.store .sc (.t 41) (.k (.c (.d (.bool true))))),aI 42 2 3,fa 42 39,aI 43 3 3,fa 43 40] (am [oO 44 (.loadX (.ag 8) (.t 3) [(.t 6),(.t 7)]),oO 45 (.loadX (.ag 13) (.t 9) [(.t 6),(.t 7)]),aL 8 6 44,aL 13 7 45,aV 8 0] .ret)))))),[(6,(some (.ag 8))),(7,(some (.ag 13))),(8,none)]⟩
theorem Ak:aX Try.prog { own:=[3],lx:=[(34,[9]),(36,[9]),(37,[9]),(38,[9]),(44,[6,7]),(45,[6,7])] } Try.f9=some fu:=by kernel_rfl
theorem vu (G:ap) (i:bn) (t:Nat) (a:Int):bh Try.prog G 9 [b7 i,.int .u64 (t:Int),.int .i64 a] (.tup [.c (.d (b7 (gP i t a))),.c (.d (aU (gQ i t a))),.c (.d (.int .i64 (eH i t a)))]):=by
  refine b9 Try.func9 Ak rfl rfl ?_;have c1:=vt G a;have c2:=Ag G t;have he:eH i t a=if dl a=true then (if t=0∨(i.kn=true∧t=i.mr) then 3 else 0) else 4:=rfl
  unfold gP gQ;obtain⟨op,kn,tr,sk,sn,gt,rc,mr⟩:=i;dsimp only at he ⊢;generalize eH ⟨op,kn,tr,sk,sn,gt,rc,mr⟩ t a=E at *
  cases hv:dl a
  ·rw[hv,if_neg (by decide:¬ false=true)] at he;rw[hv] at c1;rw[he,if_neg (by decide:¬ (4:Int)=0),if_neg (by decide:¬ (4:Int)=0)];unfold b7 bn.z aU Hd.z;simp only[fu,aC,ao,aj,seval,iteOmega,toNatUp];refine sD (c1) ?_;exact eG
  ·rw[hv,if_pos rfl] at he;rw[hv] at c1;by_cases h0:t=0
   ·rw[if_pos (.inl h0)] at he;rw[he,if_neg (by decide:¬ (3:Int)=0),if_neg (by decide:¬ (3:Int)=0)];subst h0;unfold b7 bn.z aU Hd.z;simp only[fu,aC,ao,aj,seval,iteOmega,toNatUp];refine sD (c1) ?_;exact eG
   ·cases kn
    ·rw[if_neg (by simp[h0])] at he;rw[he,if_pos rfl,if_pos rfl,if_neg (by decide:¬ false=true)];unfold b7 aU bX at *
     simp only[fu,aC,ao,aj,seval,iteOmega,toNatUp];refine sD (c1) ?_;refine sD (c2) ?_;exact eG
    ·by_cases hm:t=mr
     ·rw[if_pos (.inr ⟨rfl,hm⟩)] at he;rw[he,if_neg (by decide:¬ (3:Int)=0),if_neg (by decide:¬ (3:Int)=0)];subst hm;unfold b7 bn.z aU Hd.z;simp only[fu,aC,ao,aj,seval,iteOmega,toNatUp];refine sD (c1) ?_;exact eG
     ·rw[if_neg (by simp[h0,hm])] at he;rw[he,if_pos rfl,if_pos rfl,if_pos rfl];unfold b7 aU bX at *
      simp only[fu,aC,ao,aj,seval,iteOmega,toNatUp];refine sD (c1) ?_;refine sD (c2) ?_;exact eG
def e8 (i:bn) (h:Hd) (a:Int):Int:=if i.op=true then (if dl a=true then (if a<i.sk then 12 else if h.md=4 then 0 else 3) else 4) else 7
def d6 (i:bn) (h:Hd):Bool:=decide (h.og=i.tr) || (i.kn&&decide (h.og=i.mr))
def fI (i:bn) (h:Hd) (a:Int):dL:=if h.og=i.tr then ⟨i.sk,a,h.rc,h.tr,false⟩ else if i.kn=true∧h.og=i.mr then ⟨i.sn,i.gt,i.rc,h.tr,true⟩ else .z
def fm:bc:=⟨3,24,am [cT 3 0,cT 4 1,aV 6 0] (.seq (.block 0 (am [aI 8 0 3,ba 9 8,eD 10 9,oM 7 10] (bC 7 (am [aV 6 7] .ret) (am [oM 12 2,gK 13 19 12,eD 14 13,oM 11 14] (bC 11 (am [aV 6 4] .ret) (am [oM 16 2,aI 17 3 3,ba 18 17,ea .lss 19 16 18,oM 15 19] (bC 15 (am [aV 6 12] .ret) (am [aI 21 2 4,ba 22 21,cL .neq 23 22 4,oM 20 23] (bC 20 (am [aV 6 3] .ret) .skip))))))))) (am [aV 6 0] .ret)),[(6,none)]⟩
theorem zH:aX Try.prog {} Try.f24=some fm:=by kernel_rfl
theorem Al (G:ap) (i:bn) (h:Hd) (a:Int):bh Try.prog G 24 [b7 i,aU h,.int .i64 a] (.w (.c (.d (.int .i64 (e8 i h a))))):=by
  refine b9 Try.func24 zH rfl rfl ?_;have c1:=vt G a;obtain⟨op,kn,tr,sk,sn,gt,rc,mr⟩:=i;obtain⟨lp,vr,md,st,pl,pr,rd,rp,ri,rf,og,hrc,htr⟩:=h;unfold e8 b7 aU;dsimp only;cases op
  ·simp only[fm,aC,ao,aj,seval,iteOmega,toNatUp];exact be
  ·cases hv:dl a
   ·rw[hv] at c1;simp only[fm,aC,ao,aj,seval,iteOmega,toNatUp];refine sD (c1) ?_;exact be
   ·rw[hv] at c1;by_cases h1:a<sk
    ·simp only[fm,aC,ao,aj,seval,iteOmega,toNatUp];refine sD (c1) ?_;exact be
    ·by_cases h2:md=4
     ·subst h2;simp only[fm,aC,ao,aj,seval,iteOmega,toNatUp];refine sD (c1) ?_;exact be
     ·simp only[fm,aC,ao,aj,seval,iteOmega,toNatUp];refine sD (c1) ?_;exact be
def gp:bc:=⟨3,42,am [cT 3 0,cT 4 1,oO 6 (.alloc [ab,ab,ah,ah,aH]),cp 7 false] (.seq (.block 0 (am [aI 9 10 4,ba 10 9,aI 11 2 3,ba 12 11,ea .eql 13 10 12,oM 8 13] (bC 8 (am [aI 14 3 3,ba 15 14,aI 16 11 4,ba 17 16,aI 18 12 4,ba 19 18,oM 20 2,oO 21 (.build [ab,ab,ah,ah,aH] [(0,1,(.t 15)),(2,1,(.t 17)),(3,1,(.t 19)),(1,1,(.t 20))]),aL 5 6 21,cp 7 true] .ret) (am [aI 23 1 3,ba 24 23,oM 25 24,dp 26 10 4 25 true,dn 27 26 25 true,dp 28 7 3 25 true,dn 29 28 25 true,gJ .eql 30 27 29 25 true,cH 31 25 30,oM 22 31] (bC 22 (am [aI 32 4 3,ba 33 32,aI 34 6 3,ba 35 34,aI 36 12 4,ba 37 36,aI 38 5 3,ba 39 38,oO 40 (.build [ab,ab,ah,ah,aH] [(0,1,(.t 33)),(2,1,(.t 35)),(3,1,(.t 37)),(1,1,(.t 39)),(4,1,(.k (.c (.d (.bool true)))))]),aL 5 6 40,cp 7 true]
 .ret) .skip))))) (am [oO 41 (.build [ab,ab,ah,ah,aH] []),aL 5 6 41,cp 7 false] .ret)),[(6,(some (.ag 5))),(7,none)]⟩
theorem zI:aX Try.prog {} Try.f25=some gp:=by kernel_rfl
theorem Am (G:ap) (i:bn) (h:Hd) (a:Int):bh Try.prog G 25 [b7 i,aU h,.int .i64 a] (.tup [.c (.d (dm (fI i h a))),.c (.d (.bool (d6 i h)))]):=by
  refine b9 Try.func25 zI rfl rfl ?_;obtain⟨op,kn,tr,sk,sn,gt,rc,mr⟩:=i;obtain⟨lp,vr,md,st,pl,pr,rd,rp,ri,rf,og,hrc,htr⟩:=h;unfold fI d6 b7 aU;dsimp only;by_cases h1:og=tr
  ·subst h1;rw[if_pos rfl,decide_eq_true rfl,Bool.true_or];unfold dm;simp only[gp,aC,ao,aj,seval,iteOmega,toNatUp];exact eF
  ·rw[if_neg h1,decide_eq_false h1,Bool.false_or];cases kn
   ·rw[if_neg (by simp),Bool.false_and];unfold dm dL.z;simp only[gp,aC,ao,aj,seval,iteOmega,toNatUp];exact eF
   ·rw[Bool.true_and];by_cases h2:og=mr
    ·subst h2;rw[if_pos ⟨rfl,rfl⟩,decide_eq_true rfl];unfold dm;simp only[gp,aC,ao,aj,seval,iteOmega,toNatUp];exact eF
    ·rw[if_neg (fun h=>h2 h.2),decide_eq_false h2];unfold dm dL.z;simp only[gp,aC,ao,aj,seval,iteOmega,toNatUp];exact eF
theorem uw {i:bn} {h:Hd} (e:d6 i h=true):h.og=i.tr∨(i.kn=true∧h.og=i.mr):=by
  unfold d6 at e
  simpa using e
theorem An {i:bn} {h:Hd} (e:d6 i h=false):¬ h.og=i.tr∧¬ (i.kn=true∧h.og=i.mr):=by
  unfold d6 at e
  simpa using e
theorem Ao (i:bn) (h:Hd) (a:Int):dt i h a=if e8 i h a=0 then (if d6 i h=true then 0 else 23) else e8 i h a:=by
  unfold dt e8;cases hb:d6 i h
  ·obtain⟨h1,h2⟩:=An hb;rw[if_neg h1,if_neg h2,if_neg (by decide:¬ false=true)];split
   ·split
    ·split
     ·rfl
     ·split <;> rfl
    ·rfl
   ·rfl
  ·have h1:(if h.og=i.tr then (0:Int) else if i.kn=true∧h.og=i.mr then 0 else 23)=0:=by
     rcases uw hb with h1 | h1
     ·rw[if_pos h1]
     ·rw[if_pos h1];split <;> rfl
   rw[h1,if_pos rfl];split
   ·split
    ·split
     ·rfl
     ·split <;> rfl
    ·rfl
   ·rfl
def iF:bc:=⟨3,41,am [cT 3 0,cT 4 1,oO 6 (.alloc [aH,aH,ah,ab,ab,ab,ah,ah]),oO 7 (.alloc [ab,ab,ah,ah,aH]),aV 8 0] (.seq (am [bR 12 8 3,bR 13 13 4,oM 14 2,i7 15 24 12 13 14,oM 9 15] (am [oM 16 9,cL .neq 17 16 0] (bC 17 (am [oO 18 (.build [aH,aH,ah,ab,ab,ab,ah,ah] []),oO 19 (.build [ab,ab,ah,ah,aH] []),oM 20 9,aL 8 6 18,aL 5 7 19,oM 8 20] .ret) .skip))) (am [bR 22 8 3,bR 23 13 4,oM 24 2,i7 25 25 22 23 24,oM 21 25,a7 26 21 0,a7 27 21 1,oO 10 (.alloc [ab,ab,ah,ah,aH]),aL 5 10 26,oM 11 27] (.seq (am [oM 28 11,eD 29 28] (bC 29 (am [oO 30 (.build [aH,aH,ah,ab,ab,ab,ah,ah] []),oO 31 (.build [ab,ab,ah,ah,aH] []),aL 8 6 30,aL 5 7 31,aV 8 23] .ret) .skip)) (am [aI 32 3 3,oO 33 (.loadX .sc (.t 32) []),oM 34 2,aI 35 11 4,oO 36 (.loadX .sc (.t 35) []),
 aI 37 2 3,oO 38 (.loadX .sc (.t 37) []),oO 39 (.build [aH,aH,ah,ab,ab,ab,ah,ah] [(1,1,(.k (.c (.d (.bool true))))),(4,1,(.t 33)),(5,1,(.t 34)),(6,1,(.t 36)),(7,1,(.t 38))]),oO 40 (.loadX (.ag 5) (.t 10) [(.t 6),(.t 7)]),aL 8 6 39,aL 5 7 40,aV 8 0] .ret)))),[(6,(some (.ag 8))),(7,(some (.ag 5))),(8,none)]⟩
theorem Ap:aX Try.prog { lx:=[(33,[]),(36,[]),(38,[]),(40,[6,7])] } Try.f12=some iF:=by kernel_rfl
theorem iL (G:ap) (i:bn) (h:Hd) (a:Int):bh Try.prog G 12 [b7 i,aU h,.int .i64 a] (.tup [.c (.d (b7 (gU i h a))),.c (.d (dm (ls i h a))),.c (.d (.int .i64 (dt i h a)))]):=by
  refine b9 Try.func12 Ap rfl rfl ?_;have c1:=Al G i h a;have c2:=Am G i h a;unfold gU ls;have he:=Ao i h a;by_cases h0:e8 i h a=0
  ·rw[if_pos h0] at he;rw[h0] at c1;cases hb:d6 i h
   ·rw[hb,if_neg (by decide:¬ false=true)] at he;rw[hb] at c2;rw[he,if_neg (by decide:¬ (23:Int)=0),if_neg (by decide:¬ (23:Int)=0)];clear he hb h0;generalize fI i h a=R at *
    obtain⟨op,kn,tr,sk,sn,gt,rc,mr⟩:=i;obtain⟨lp,vr,md,st,pl,pr,rd,rp,ri,rf,og,hrc,htr⟩:=h;unfold b7 aU dm bn.z dL.z at *
    simp only[iF,aC,ao,aj,seval,iteOmega,toNatUp];refine sD (c1) ?_;refine sD (c2) ?_;exact eG
   ·rw[hb,if_pos rfl] at he;rw[hb] at c2;rw[he,if_pos rfl,if_pos rfl];have hR:(if h.og=i.tr then (⟨i.sk,a,h.rc,h.tr,false⟩:dL) else ⟨i.sn,i.gt,i.rc,h.tr,true⟩)=fI i h a:=by
      unfold fI;by_cases h1:h.og=i.tr
      ·rw[if_pos h1,if_pos h1]
      ·rw[if_neg h1,if_neg h1,if_pos ((uw hb).resolve_left h1)]
    rw[hR];clear he hb h0 hR;generalize fI i h a=R at *
    obtain⟨op,kn,tr,sk,sn,gt,rc,mr⟩:=i;obtain⟨lp,vr,md,st,pl,pr,rd,rp,ri,rf,og,hrc,htr⟩:=h;unfold b7 aU dm at *
    simp only[iF,aC,ao,aj,seval,iteOmega,toNatUp];refine sD (c1) ?_;refine sD (c2) ?_;exact eG
  ·rw[if_neg h0] at he;rw[he,if_neg h0,if_neg h0];clear he;generalize e8 i h a=E at *
   obtain⟨op,kn,tr,sk,sn,gt,rc,mr⟩:=i;obtain⟨lp,vr,md,st,pl,pr,rd,rp,ri,rf,og,hrc,htr⟩:=h;unfold b7 aU dm bn.z dL.z at *
   simp only[iF,aC,ao,aj,seval,iteOmega,toNatUp];refine sD (c1) ?_;exact eG
def ej (m:List (Nat×Nat)) (x:Nat):Int:=match m.findIdx? fun p=>p.1==x with | some i=>(i:Int) | none=>-1
theorem v5 {m:List (Nat×Nat)} {i:Nat} (h:i<m.length):m[i]?=some (m.getD i (0,0)):=by
  rw[BC,A6 h]; rfl
theorem zJ {m:List (Nat×Nat)} {x i:Nat} (h:i<m.length) (he:(m.getD i (0,0)).1=x) (hn:∀ j,j<i→(m.getD j (0,0)).1≠x):ej m x=(i:Int):=by
  have:(m.findIdx? fun p=>p.1==x)=some i:=by
    rw[List.findIdx?_eq_some_iff_getElem];have e:∀ k (hk:k<m.length),m[k]=m.getD k (0,0):=fun k hk=>by rw[BC,A6 hk]; rfl
    refine⟨h,by rw[e i h]; simpa using he,fun j hj=>?_⟩;rw[e j (by omega)]
    simpa using hn j hj
  unfold ej;rw[this]
theorem yN {m:List (Nat×Nat)} {x:Nat} (hn:∀ j,j<m.length→(m.getD j (0,0)).1≠x):ej m x=-1:=by
  have:(m.findIdx? fun p=>p.1==x)=none:=by
    rw[List.findIdx?_eq_none_iff];intro y hy;obtain⟨j,hj,rfl⟩:=BB hy;have:=hn j hj;rw[BC,A6 hj] at this
    simpa using this
  unfold ej;rw[this]
theorem vw (m:List (Nat×Nat)) (x:Nat):(ej m x=-1∧ei m x=none)∨∃ i,i<m.length∧ej m x=(i:Int)∧ei m x=some (m.getD i (0,0)):=by
  unfold ej;cases h:m.findIdx? fun p=>p.1==x with
  | none =>
    refine .inl ⟨rfl,?_⟩;rw[List.findIdx?_eq_none_iff] at h;rw[yM];intro p hp
    simpa using h p hp
  | some i =>
    obtain⟨h1,h2,h3⟩:=List.findIdx?_eq_some_iff_getElem.1 h;refine .inr ⟨i,h1,rfl,?_⟩;unfold ei;rw[List.find?_eq_some_iff_getElem];refine⟨?_,i,h1,?_,fun j hj=>?_⟩
    ·rw[BC,A6 h1]; exact h2
    ·rw[BC,A6 h1]; rfl
    ·simpa using h3 j hj
theorem ib (m:List (Nat×Nat)):bM 2 (m.map bI)=true:=by
  unfold bM;rw[Ba];intro x hx;obtain⟨p,_,rfl⟩:=Bg.1 hx;rfl
theorem zK (a b:Nat):List.foldl (fun x y:Int=>if y<x then y else x) (a:Int) [(b:Int)]=((min a b:Nat):Int):=by
  simp only[List.foldl_cons,List.foldl_nil];split <;> omega
def iZ (m:List (Nat×Nat)) (g:Nat) (caps:List D) (i:Nat):St:=⟨ec [(0,.w (.c (.d (.sl (m.map bI))))),(1,.w (.c (.d (.fn g caps)))),(7,.w (.c (.d (.int .i64 (m.length:Int))))),(8,.w (.c (.d (.int .i64 (i:Int)))))],hL [],uL []⟩
def ic:aN := am [ea .lss 9 8 7] (.seq (bC 9 .skip (.exit 0)) (.seq (.block 1 (am [oM 10 8,oM 5 10] (am [oM 11 1,oM 12 0,oM 13 5,i6 14 2 12 13,bR 15 2 14,fO 16 1000000007 11 15] (bC 16 (am [oM 17 5,oM 4 17] .ret) .skip)))) (.reg [cL .add 18 8 1,oM 8 18])))
def ux:bc:=⟨2,19,am [aV 4 0] (.seq (am [oM 6 0,gI 7 6,aV 8 0] (.block 0 (.loop ic))) (am [oO 4 (.mv (.k (.c (.d (.int .i64 (-1))))))] .ret)),[(4,none)]⟩
theorem Aq:aX Try.prog {} Try.f31=some ux:=by kernel_rfl
theorem AH (G:ap) (m:List (Nat×Nat)) (g:Nat) (caps:List D) (x:Nat) (hm:m.length≤9223372036854775807) (hp:∀ p:Nat×Nat,iP Try.prog G g caps [bI p] (.w (.c (.d (.bool (decide (p.1=x))))))):bh Try.prog G 31 [.sl (m.map bI),.fn g caps] (.w (.c (.d (.int .i64 (ej m x))))):=by
  refine b9 Try.func31 Aq rfl rfl ?_;simp only[ux,aC,ao,aj,seval,iteOmega,toNatUp];refine zp (iZ m g caps) (fun i=>m.length-i) (fun i=>i≤m.length∧∀ j,j<i→(m.getD j (0,0)).1≠x) 0 ⟨B8 _,fun j hj=>by omega⟩ ?_ ?_
  ·refine vb (fun i=>0) ?_ ?_ rfl rfl <;> simp only[wx,lm,ln,aj,seval,iteOmega,toNatUp] <;> rfl
  ·rintro i ⟨hi,hn⟩;have haz:=ib m;by_cases hlt:i<m.length
   ·have g1:=v5 hlt;have hd:=hp (m.getD i (0,0));by_cases he:(m.getD i (0,0)).1=x
    ·rw[decide_eq_true he] at hd;rw[zJ hlt he hn];simp only[ic,iZ,ao,aj,seval,iteOmega,toNatUp,iw,g1,haz];generalize m.getD i (0,0)=y at *
     refine oU hd (by simp only[ao,aj,seval,iteOmega,toNatUp,bI]) (.inl rfl) ?_;simp only[ao,aj,seval,iteOmega,toNatUp];exact be
    ·rw[decide_eq_false he] at hd;have hn':∀ j,j<i+1→(m.getD j (0,0)).1≠x:=fun j hj=>by
       rcases B1 j i with h | h
       ·exact hn j h
       ·obtain rfl:j=i:=by omega
        exact he
     simp only[ic,iZ,ao,aj,seval,iteOmega,toNatUp,iw,g1,haz];generalize m.getD i (0,0)=y at *
     refine oU hd (by simp only[ao,aj,seval,iteOmega,toNatUp,bI]) (.inl rfl) ?_;simp only[ao,aj,seval,iteOmega,toNatUp];refine yF (i+1) (by omega) ⟨by omega,hn'⟩ (vb (fun i=>0) ?_ ?_ rfl rfl) <;> simp only[wx,lm,ln,aj,seval,iteOmega,toNatUp]
   ·rw[yN fun j hj=>hn j (by omega)];simp only[ic,iZ,ao,aj,seval,iteOmega,toNatUp];exact be
def kB:bc:=⟨2,8,am [cT 2 0,cp 3 false] (am [aI 4 0 2,ba 5 4,ba 6 1,ea .eql 7 5 6,oM 3 7] .ret),[(3,none)]⟩
theorem Ar:aX Try.prog {} Try.f32=some kB:=by kernel_rfl
theorem AJ (G:ap) (x:Nat) (p:Nat×Nat):iP Try.prog G 32 [.ref [.int .u64 (x:Int)]] [bI p] (.w (.c (.d (.bool (decide (p.1=x)))))):=by
  refine⟨enters_of Try.func32 (by kernel_rfl) rfl,?_⟩;refine x6 Try.func32 Ar rfl rfl ?_;unfold bI;by_cases h:p.1=x
  ·rw[decide_eq_true h];simp only[kB,B3,List.nil_append,A8,BO,D.up,cw,ao,aj,seval,iteOmega,toNatUp,h];exact be
  ·rw[decide_eq_false h];simp only[kB,B3,List.nil_append,A8,BO,D.up,cw,ao,aj,seval,iteOmega,toNatUp];exact be
def uz:bc:=⟨2,8,am [cT 3 1,aV 4 0] (am [oM 5 0,oO 6 (.clos 32 [(.t 3)]),fO 7 31 5 6,oM 4 7] .ret),[(4,none)]⟩
theorem As:aX Try.prog {} Try.f22=some uz:=by kernel_rfl
theorem vx (G:ap) (m:List (Nat×Nat)) (x:Nat) (hm:m.length≤9223372036854775807):bh Try.prog G 22 [.sl (m.map bI),.int .u64 (x:Int)] (.w (.c (.d (.int .i64 (ej m x))))):=by
  refine b9 Try.func22 As rfl rfl ?_;have c1:=AH G m _ [.ref [.int .u64 (x:Int)]] x hm (AJ G x);simp only[uz,aC,ao,aj,seval,iteOmega,toNatUp];refine sD (c1) ?_;exact be
def uA:bc:=⟨2,13,am [cT 3 1,fL 4] (am [bR 5 2 3,oO 6 (.bldSl true 1 2 (.agg [(.int .u64 0),(.int .u64 0)]) [(0,(.t 5))]),oM 7 0,oM 8 0,gI 9 8,oO 10 (.min [(.t 9),(kI 7)]),oO 11 (.slice 2 (.t 7) none (some (.t 10)) none),oO 12 (.app false 2 16 (.t 6) (.t 11)),oM 4 12] .ret),[(4,none)]⟩
theorem Au:aX Try.prog { own:=[6] } Try.f23=some uA:=by kernel_rfl
theorem AK (G:ap) (m:List (Nat×Nat)) (a b:Nat) (hm:m.length≤8):bh Try.prog G 23 [.sl (m.map bI),bI (a,b)] (.w (.c (.fr 2 ((((a,b)::m).take 8).map bI)))):=by
  refine b9 Try.func23 Au rfl rfl ?_;have haz:=ib (m.take 7);have haz2:=ib m;have e:((a,b)::m).take 8=(a,b)::m.take 7:=rfl;have hT:(m.map bI).take (min m.length 7)=(m.take 7).map bI:=by
    rw[← List.map_take,Nat.min_comm]
    congr 1
    rcases Nat.le_total m.length 7 with h | h
    ·rw[Nat.min_eq_right h,B2 (Bh _),B2 h]
    ·rw[Nat.min_eq_left h]
  obtain⟨n3,hn3⟩:∃ n3,n3=min m.length 7:=⟨_,rfl⟩
  have hmin:=zK m.length 7;rw[show ((7:Nat):Int)=7 from rfl] at hmin;rw[← hn3] at hT hmin;have h8:(m.take 7).length≤7:=by simp; omega
  have hL:(m.take 7).length=n3:=by rw[hn3,Bo,Nat.min_comm]
  have h3:n3≤m.length:=by omega
  rw[e];clear hn3 e;generalize m.take 7=M at *
  have hM:(M.map bI).length=n3:=by rw[BA,hL]
  have h0:(0:Nat)≤n3:=B8 _;simp only[uA,aC,ao,aj,seval,iteOmega,toNatUp,hmin,hT,haz,haz2,dj,bI,h3,h0];exact zq (id:=96) (n:=M.length+1) (s:=2) (by simp only[ao,aj,seval,iteOmega,toNatUp]) (by simp only[ao,aj,seval,iteOmega,toNatUp]) (by simp)
def eW:bc:=⟨5,66,am [cT 6 1,fL 10,oO 11 (.alloc [ab,ab,ab,ab,ab,ab,aB,aB,aB,ah,ah,ah,ah]),cp 12 false,aV 13 0] (am [bR 16 13 6,oM 17 2,oM 18 3,oM 19 4,wa 20 21 16 17 18 19,oM 15 20,a7 21 15 0,a7 22 15 1,aL 13 11 21,oM 13 22] (.seq (.block 0 (am [oM 24 13,cL .neq 25 24 0,oM 23 25] (bC 23 (am [oO 26 (.build [ab,ab,ab,ab,ab,ab,aB,aB,aB,ah,ah,ah,ah] []),oM 27 13,fL 10,aL 13 11 26,cp 12 false,oM 13 27] .ret) (am [oM 29 0,gI 30 29,cL .gtr 31 30 8,oM 28 31] (bC 28 (am [oO 32 (.build [ab,ab,ab,ab,ab,ab,aB,aB,aB,ah,ah,ah,ah] []),fL 10,aL 13 11 32,cp 12 false,aV 13 8] .ret) (am [oM 34 0,oM 35 3,fO 36 22 34 35,cL .geq 37 36 0,oM 33 37] (bC 33 (am [oO 38 (.build [ab,ab,ab,ab,ab,ab,aB,aB,aB,ah,ah,ah,ah] []),fL 10,
 aL 13 11 38,cp 12 false,aV 13 27] .ret) .skip))))))) (.seq (am [oM 39 0,aI 40 10 6,ba 41 40,fO 42 22 39 41,oM 14 42] (am [oM 43 14,cL .geq 44 43 0,oM 45 44,dp 46 10 6 45 true,dn 47 46 45 true,oG 48 (.bin .neq (.t 47) (.k (.c ah))) 45 true,cH 49 45 48] (bC 49 (.reg [aI 50 11 6,oO 51 (.loadX .sc (.t 50) []),oM 52 0,oM 53 14,i6 54 2 52 53,aI 55 1 54,oO 56 (.loadX .sc (.t 55) []),aI 57 10 11,fa 57 51,aI 58 12 11,fa 58 56,cp 12 true]) .skip))) (am [oM 59 0,oM 60 3,oM 61 4,oO 62 (.build [ah,ah] [(0,1,(.t 60)),(1,1,(.t 61))]),oO 63 (.call 23 [(.t 59),(.t 62)] (some (0,2))),bR 64 13 11,oM 65 12,oM 10 63,aL 13 11 64,oM 12 65,aV 13 0] .ret)))),[(10,none),(11,(some (.ag 13))),(12,none),(13,none)]⟩
theorem Av:aX Try.prog { own:=[63],lx:=[(51,[]),(56,[])] } Try.f11=some eW:=by kernel_rfl
theorem vz (G:ap) (m:List (Nat×Nat)) (hm:m.length≤9223372036854775807) (q:Hd) (st:Int) (rc tr:Nat):bh Try.prog G 11 [.sl (m.map bI),aU q,.int .i64 st,.int .u64 (rc:Int),.int .u64 (tr:Int)]
    (.tup [.c (.d (.sl ((gT m q st rc tr).map bI))),.c (.d (aU (gR m q st rc tr))),.c (.d (.bool (gS m q st rc))),.c (.d (.int .i64 (eI m q st rc)))]):=by
  refine b9 Try.func11 Av rfl rfl ?_;have c1:=Ah G q st rc tr;have c2:=vx G m rc hm;have he:eI m q st rc=if cS q st=0 then (if m.length≤8 then (if (ei m rc).isSome=true then 27 else 0) else 8) else cS q st:=rfl
  unfold gT gR gS;by_cases h0:cS q st=0
  ·rw[if_pos h0] at he;rw[h0] at c1;have hR:iY q st rc tr=⟨0,q.vr,4,st,q.pl,-20,0,0,0,0,q.tr,rc,tr⟩:=if_pos h0;rw[hR] at c1;by_cases h8:m.length≤8
   ·rw[if_pos h8] at he;rcases vw m rc with ⟨i1,i2⟩ | ⟨i,i1,i2,i3⟩
    ·rw[i2,if_neg (by simp)] at he;rw[i1] at c2;rw[he,if_pos rfl,if_pos rfl,if_pos rfl];have c3:=vx G m q.og hm;have c4:=AK G m rc tr h8;have eA:fS m q=if q.og=0 then none else ei m q.og:=rfl
     have haz:=ib m;rcases vw m q.og with ⟨j1,j2⟩ | ⟨j,j1,j2,j3⟩
     ·have eN:fS m q=none:=by rw[eA,j2,ite_self]
      rw[j1] at c3;rw[eN];clear he i2 h0 hR eA eN j2;generalize ((rc,tr)::m).take 8=T at *
      unfold jd aU at *
      rw[Option.isSome_none];simp only[eW,aC,ao,aj,seval,iteOmega,toNatUp];refine sD (c1) ?_;refine sD (c2) ?_;refine sD (c3) ?_;refine iq c4 (by simp only[ao,aj,seval,iteOmega,toNatUp,bI]) (.inl rfl) ?_;simp only[ao,aj,seval,iteOmega,toNatUp];exact fR
     ·by_cases hg:q.og=0
      ·have eN:fS m q=none:=by rw[eA,if_pos hg]
       rw[j2] at c3;rw[eN];clear he i2 h0 hR eA eN j3;generalize ((rc,tr)::m).take 8=T at *
       unfold jd aU at *
       rw[Option.isSome_none];simp only[eW,aC,ao,aj,seval,iteOmega,toNatUp];refine sD (c1) ?_;refine sD (c2) ?_;refine sD (c3) ?_;refine iq c4 (by simp only[ao,aj,seval,iteOmega,toNatUp,bI]) (.inl rfl) ?_;simp only[ao,aj,seval,iteOmega,toNatUp];exact fR
      ·have eS:fS m q=some (m.getD j (0,0)):=by rw[eA,if_neg hg,j3]
       have g1:=v5 j1;rw[j2] at c3;rw[eS];clear he i2 h0 hR eA eS j3;generalize m.getD j (0,0)=x at *
       generalize ((rc,tr)::m).take 8=T at *
       unfold jd aU at *
       rw[Option.isSome_some];simp only[eW,aC,ao,aj,seval,iteOmega,toNatUp];refine sD (c1) ?_;refine sD (c2) ?_;refine sC (c3) ?_;simp only[iw,g1,haz,bI,ao,aj,seval,iteOmega,toNatUp];refine iq c4 (by simp only[ao,aj,seval,iteOmega,toNatUp,bI]) (.inl rfl) ?_;simp only[ao,aj,seval,iteOmega,toNatUp];exact fR
    ·rw[i3,if_pos (by simp)] at he;rw[i2] at c2;rw[he,if_neg (by decide:¬ (27:Int)=0),if_neg (by decide:¬ (27:Int)=0),if_neg (by decide:¬ (27:Int)=0)];clear he i3 h0 hR;unfold aU Hd.z at *
     simp only[eW,aC,ao,aj,seval,iteOmega,toNatUp];refine sD (c1) ?_;refine sD (c2) ?_;exact fR
   ·rw[if_neg h8] at he;rw[he,if_neg (by decide:¬ (8:Int)=0),if_neg (by decide:¬ (8:Int)=0),if_neg (by decide:¬ (8:Int)=0)];clear he h0 hR;unfold aU Hd.z at *
    simp only[eW,aC,ao,aj,seval,iteOmega,toNatUp];refine sD (c1) ?_;exact fR
  ·rw[if_neg h0] at he;rw[he,if_neg h0,if_neg h0,if_neg h0];clear he;generalize iY q st rc tr=R at *
   generalize cS q st=E at *
   unfold aU Hd.z at *
   simp only[eW,aC,ao,aj,seval,iteOmega,toNatUp];refine sD (c1) ?_;exact fR
def mf:bc:=⟨0,55,am [cp 0 false] (am [oO 12 (.build [aH,aH,ah,ab,ab,ab,ah,ah] []),oO 13 (.call 9 [(.t 12),(.k (.c (.d (.int .u64 77)))),(kI 5)] none),oM 11 13,a7 14 11 0,a7 15 11 1,a7 16 11 2,oO 1 (.alloc [aH,aH,ah,ab,ab,ab,ah,ah]),oO 2 (.alloc [ab,ab,ab,ab,ab,ab,aB,aB,aB,ah,ah,ah,ah]),aL 8 1 14,aL 13 2 15,oM 3 16] (am [bR 18 13 2,oO 19 (.call 11 [(.k (.c .nil)),(.t 18),(kI 2),(.k (.c (.d (.int .u64 1000)))),(.k (.c (.d (.int .u64 1001))))] none),oM 17 19,a7 20 17 0,a7 21 17 1,a7 22 17 2,a7 23 17 3,oO 5 (.alloc [ab,ab,ab,ab,ab,ab,aB,aB,aB,ah,ah,ah,ah]),oM 4 20,aL 13 5 21,oM 6 22,oM 7 23] (am [bR 25 8 1,bR 26 13 5,oO 27 (.call 12 [(.t 25),(.t 26),(kI 9)] none),oM 24 27,a7 28 24 0,a7 29 24 1,a7 30 24 2,oO 8 (.alloc [aH,aH,ah,ab,ab,ab,ah,ah]),
 oO 9 (.alloc [ab,ab,ah,ah,aH]),aL 8 8 28,aL 5 9 29,oM 10 30] (am [oM 31 3,cL .eql 32 31 0,oM 33 32,cq 34 7 33 true,dI .eql 35 34 0 33 true,cH 36 33 35,oM 37 36,cq 38 10 37 true,dI .eql 39 38 0 37 true,cH 40 37 39,oM 41 40,cq 42 6 41 true,fN 43 42 41 true,cH 44 41 43,oM 45 44,cq 46 4 45 true,v9 47 46 45 true,dI .eql 48 47 1 45 true,cH 49 45 48,oM 50 49,oG 51 (.load (.ag 5) (.t 9)) 50 true,oG 52 (.build [ab,ab,ah,ah,aH] [(0,1,(kI 5)),(1,1,(kI 9)),(2,1,(.k (.c (.d (.int .u64 1000))))),(3,1,(.k (.c (.d (.int .u64 1001)))))]) 50 true,oG 53 (.eqA false [0,0,0,0,1] (.t 51) (.t 52)) 50 true,cH 54 50 53,oM 0 54] .ret)))),[(0,none)]⟩
theorem xo:aX Try.prog {} Try.f13=some mf:=by kernel_rfl
set_option maxHeartbeats 1600000 in
theorem x7 (G:ap):bh Try.prog G 13 [] (.w (.c (.d (.bool true)))):=by
  refine b9 Try.func13 xo rfl rfl ?_;have c1:=vu G .z 77 5;rw[show gP .z 77 5=⟨true,false,77,5,0,0,0,0⟩ from rfl,show gQ .z 77 5=bX 77 from rfl,show eH .z 77 5=0 from rfl] at c1;have c2:=vz G [] (by decide) (bX 77) 2 1000 1001;rw[show gT [] (bX 77) 2 1000 1001=[(1000,1001)] from rfl,show gR [] (bX 77) 2 1000 1001=⟨0,4,4,2,6,-20,0,0,0,0,77,1000,1001⟩ from rfl,show gS [] (bX 77) 2 1000=false from rfl,show eI [] (bX 77) 2 1000=0 from rfl] at c2;have c3:=iL G ⟨true,false,77,5,0,0,0,0⟩ ⟨0,4,4,2,6,-20,0,0,0,0,77,1000,1001⟩ 9;rw[show gU ⟨true,false,77,5,0,0,0,0⟩ ⟨0,4,4,2,6,-20,0,0,0,0,77,1000,1001⟩ 9=⟨false,true,0,0,5,9,1000,77⟩ from rfl,show ls ⟨true,false,77,5,0,0,0,0⟩ ⟨0,4,4,2,6,-20,0,0,0,0,77,1000,1001⟩ 9=⟨5,9,1000,1001,false⟩ from rfl,show dt ⟨true,false,77,5,0,0,0,0⟩ ⟨0,4,4,2,6,-20,0,0,0,0,77,1000,1001⟩ 9=0 from rfl] at c3;unfold b7 bn.z at c1;unfold b7 dm at c3;unfold aU bX at *
  simp only[mf,aC,ao,aj,seval,iteOmega,toNatUp];refine sD (c1) ?_;refine sC (c2) ?_;simp only[bI,ao,aj,seval,iteOmega,toNatUp];refine sD (c3) ?_;exact be
def nE:bc:=⟨2,95,am [cp 4 false] (am [oM 23 0,oO 24 (.callM 7 [(.t 23)]),oM 5 24] (am [oO 26 (.build [aH,aH,ah,ab,ab,ab,ah,ah] []),oM 27 5,oO 28 (.callM 8 [(.t 27),(kI 1000)]),oO 29 (.bin .add (kI 1) (.t 28)),oO 30 (.conv .u64 (.t 29)),oM 31 5,oO 32 (.callM 8 [(.t 31),(kI 9)]),i7 33 9 26 30 32,oM 25 33,a7 34 25 0,a7 35 25 1,a7 36 25 2,oO 6 (.alloc [aH,aH,ah,ab,ab,ab,ah,ah]),oO 7 (.alloc [ab,ab,ab,ab,ab,ab,aB,aB,aB,ah,ah,ah,ah]),aL 8 6 34,aL 13 7 35,oM 8 36] (am [bR 38 13 7,oO 39 (.call 11 [(.k (.c .nil)),(.t 38),(kI 1),(.k (.c (.d (.int .u64 50)))),(.k (.c (.d (.int .u64 60))))] none),oM 37 39,a7 40 37 0,a7 41 37 1,a7 42 37 2,a7 43 37 3,oO 10 (.alloc [ab,ab,ab,ab,ab,ab,aB,aB,aB,ah,ah,ah,ah]),oM 9 40,aL 13 10 41,oM 11 42,oM 12 43]
 (am [bR 44 13 10,oO 13 (.alloc [ab,ab,ab,ab,ab,ab,aB,aB,aB,ah,ah,ah,ah]),aL 13 13 44] (am [oM 45 1,aI 46 10 13,fa 46 45] (am [bR 48 8 6,bR 49 13 13,oO 50 (.call 12 [(.t 48),(.t 49),(kI 100)] none),oM 47 50,a7 51 47 0,a7 52 47 1,a7 53 47 2,oO 14 (.alloc [aH,aH,ah,ab,ab,ab,ah,ah]),oO 15 (.alloc [ab,ab,ah,ah,aH]),aL 8 14 51,aL 5 15 52,oM 16 53] (am [bR 55 8 6,bR 56 13 10,oO 57 (.call 12 [(.t 55),(.t 56),(kI 100)] none),oM 54 57,a7 58 54 0,a7 59 54 1,a7 60 54 2,oO 17 (.alloc [aH,aH,ah,ab,ab,ab,ah,ah]),oO 18 (.alloc [ab,ab,ah,ah,aH]),aL 8 17 58,aL 5 18 59,oM 19 60] (am [bR 62 8 17,bR 63 13 10,oO 64 (.call 12 [(.t 62),(.t 63),(kI 100)] none),oM 61 64,a7 65 61 0,a7 66 61 1,a7 67 61 2,oO 20 (.alloc [aH,aH,ah,ab,ab,ab,ah,ah]),
 oO 21 (.alloc [ab,ab,ah,ah,aH]),aL 8 20 65,aL 5 21 66,oM 22 67] (am [oO 68 (.call 13 [] none),oM 69 68,cq 70 8 69 true,dI .eql 71 70 0 69 true,cH 72 69 71,oM 73 72,cq 74 12 73 true,dI .eql 75 74 0 73 true,cH 76 73 75,oM 77 76,cq 78 19 77 true,dI .eql 79 78 0 77 true,cH 80 77 79,oM 81 80,cq 82 22 81 true,dI .eql 83 82 7 81 true,cH 84 81 83,oM 85 84,cq 86 1 85 true,dp 87 12 7 85 true,dn 88 87 85 true,gJ .eql 89 86 88 85 true,cq 90 89 85 true,cq 91 16 90 false,dI .eql 92 91 23 90 false,oG 93 (.pick (.t 90) (.k (.c (.d (.bool true)))) (.t 92)) 85 true,cH 94 85 93,oM 4 94] .ret))))))))),[(4,none)]⟩
theorem x9:aX Try.prog { mt:=[24,28,32] } Try.f4=some nE:=by kernel_rfl
set_option maxHeartbeats 1600000 in
theorem yV (G:ap) (l:List Int) (hl1:l.length≤maxLen) (hl2:∀ n∈l,kY n) (origin:Nat) (horigin:origin<18446744073709551616) :bh Try.prog G 4 [.sl (l.map zD),.int .u64 (origin:Int)] (.w (.c (.d (.bool true)))):=by
  refine b9 Try.func4 x9 rfl rfl ?_;have hl:l.length≤9223372036854775807:=by unfold maxLen at hl1; omega
  have cn:=AP G l;have k1:=vK G l 0 1000 hl (B8 _) (by decide) (by decide);have k2:=vK G l (eK l 0) 9 hl (Ax (B8 _)) (by decide) (by decide);obtain⟨r1,r2⟩:=lB (eJ l 0) 1000 (by decide);obtain⟨r3,r4⟩:=lB (eJ l (eK l 0)) 9 (by decide);generalize em (eJ l 0) 1000=x at *
  generalize em (eJ l (eK l 0)) 9=y at *
  obtain⟨T,hT⟩:∃ T:Nat,1+x=(T:Int):=⟨(1+x).toNat,by omega⟩
  have hT1:1≤T∧T≤1000:=by omega
  have vy:dl y=true:=uu ⟨by omega,by omega⟩;have eE:eH .z T y=0:=by
    unfold eH;rw[if_pos vy,if_neg];rintro (h | ⟨h,_⟩)
    ·omega
    ·cases h
  have c1:=vu G .z T y;rw[eE,show gP .z T y=⟨true,false,T,y,0,0,0,0⟩ by unfold gP; rw[if_pos eE]; rfl,show gQ .z T y=bX T by unfold gQ; rw[if_pos eE]; rfl] at c1;have rE:cS (bX T) 1=0:=Aj (Int.le_refl 0) (show (0:Int)≤3 by decide) rfl rfl rfl rfl rfl (by decide) (by decide);have vE:eI [] (bX T) 1 50=0:=by unfold eI; rw[if_pos rE]; rfl
  have c2:=vz G [] (by decide) (bX T) 1 50 60;rw[vE,show gT [] (bX T) 1 50 60=[(50,60)] by unfold gT; rw[if_pos vE]; rfl,show gR [] (bX T) 1 50 60=⟨0,4,4,1,6,-20,0,0,0,0,T,50,60⟩ by unfold gR; rw[if_pos vE]; rfl,show gS [] (bX T) 1 50=false by unfold gS; rw[if_pos vE]; rfl] at c2;have v100:dl 100=true:=rfl;have c3:=iL G ⟨true,false,T,y,0,0,0,0⟩ ⟨0,4,4,1,6,-20,0,0,0,0,origin,50,60⟩ 100;have e3:dt ⟨true,false,T,y,0,0,0,0⟩ ⟨0,4,4,1,6,-20,0,0,0,0,origin,50,60⟩ 100=if origin=T then 0 else 23:=by
    unfold dt;simp only[if_true,v100];rw[if_neg (by omega)];simp
  rw[e3] at c3;have c4:=iL G ⟨true,false,T,y,0,0,0,0⟩ ⟨0,4,4,1,6,-20,0,0,0,0,T,50,60⟩ 100;have e4:dt ⟨true,false,T,y,0,0,0,0⟩ ⟨0,4,4,1,6,-20,0,0,0,0,T,50,60⟩ 100=0:=by
    unfold dt;simp only[if_true,v100];rw[if_neg (by omega)]
  rw[e4,show gU ⟨true,false,T,y,0,0,0,0⟩ ⟨0,4,4,1,6,-20,0,0,0,0,T,50,60⟩ 100=⟨false,true,0,0,y,100,50,T⟩ by unfold gU; rw[if_pos e4]] at c4;have c5:=iL G ⟨false,true,0,0,y,100,50,T⟩ ⟨0,4,4,1,6,-20,0,0,0,0,T,50,60⟩ 100;rw[show dt ⟨false,true,0,0,y,100,50,T⟩ ⟨0,4,4,1,6,-20,0,0,0,0,T,50,60⟩ 100=7 from rfl] at c5;have ck:=x7 G;clear e3 e4 vE rE eE vy;unfold b7 dm at *
  unfold aU bX at *
  unfold bn.z at *
  simp only[nE,aC,ao,aj,seval,iteOmega,toNatUp];refine AL [.c (.d (.sl (l.map zD)))] [(1,1000)] cn ?_ rfl ?_ rfl rfl ?_
  ·simp only[ao,aj,seval,iteOmega,toNatUp] <;> rfl
  ·trivial
  simp only[wm,ao,aj,seval,iteOmega,toNatUp,A8,BO,yU];refine kh (id:=1000) (ws:=[.c (.ptr 1000 1 0 0),.c (.d (.int .i64 1000))]) k1 (by simp only[ao,aj,seval,iteOmega,toNatUp,A8,BO]) rfl (by simp only[ao,aj,seval,iteOmega,toNatUp]) rfl ?_;simp only[lq,fQ,ao,aj,seval,iteOmega,toNatUp,hT];refine kh (id:=1000) (ws:=[.c (.ptr 1000 1 0 0),.c (.d (.int .i64 9))]) k2 (by simp only[ao,aj,seval,iteOmega,toNatUp,A8,BO]) rfl (by simp only[ao,aj,seval,iteOmega,toNatUp]) rfl ?_;clear cn k1 k2;simp only[lq,fQ,ao,aj,seval,iteOmega,toNatUp];refine sD (c1) ?_;refine sC (c2) ?_;simp only[bI,ao,aj,seval,iteOmega,toNatUp];by_cases hO:origin=T
  ·subst hO;rw[if_pos rfl] at c3;refine sD (c3) ?_;refine sD (c4) ?_;refine sD (c5) ?_;refine sD (ck) ?_;exact be
  ·rw[if_neg hO] at c3;have hO2:((origin:Int)=(T:Int))=False:=eq_false (by omega);refine sD (c3) ?_;refine sD (c4) ?_;refine sD (c5) ?_;refine sC (ck) ?_;simp only[hO2,ao,aj,seval,iteOmega,toNatUp];exact be
end Go.Proofs.Yteohdchecapkfaa
