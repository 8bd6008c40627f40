/- Texts of one's own, merged: from: Layer 24 as functions of numbers: interleaved mode. Pure. Own work. -/
import Derived.Test.YteohdchecapkfaaMg412
import Derived.Test.YteohdchecapkfaaMg413
import Derived.Test.YteohdchecapkfaaMg47
import Derived.Shelf.Abstract
import Derived.Test.YteohdchecapkfaaMg48
import Derived.Test.YteohdchecapkfaaMg49
set_option linter.unusedVariables false
set_option linter.unusedSimpArgs false
namespace Go.Proofs.Yteohdchecapkfaa
open Go.RowKit
structure be where
  op:Bool
  kn:Bool
  tr:Nat
  sk:Int
  sn:Int
  gt:Int
  rc:Nat
  mr:Nat
def be.z:be:=⟨false,false,0,0,0,0,0,0⟩
def bZ (i:be):D:=.agg [.bool i.op,.bool i.kn,.int .u64 (i.tr:Int),.int .i64 i.sk,.int .i64 i.sn,.int .i64 i.gt,.int .u64 (i.rc:Int),.int .u64 (i.mr:Int)]
structure dA where
  t1:Int
  t4:Int
  t2:Nat
  t3:Nat
  il:Bool
def dA.z:dA:=⟨0,0,0,0,false⟩
def dj (r:dA):D:=.agg [.int .i64 r.t1,.int .i64 r.t4,.int .u64 (r.t2:Int),.int .u64 (r.t3:Int),.bool r.il]
def bp (p:Nat×Nat):D:=.agg [.int .u64 (p.1:Int),.int .u64 (p.2:Int)]
def em (i:be) (t:Nat) (a:Int):Int:=if dR a=true then (if t=0∨(i.kn=true∧t=i.mr) then 3 else 0) else 4
def gv (i:be) (t:Nat) (a:Int):be:=if em i t a=0 then ⟨true,i.kn,t,a,i.sn,i.gt,i.rc,i.mr⟩ else .z
def gw (i:be) (t:Nat) (a:Int):Hd:=if em i t a=0 then (if i.kn=true then ⟨0,4,3,0,6,0,0,0,0,0,i.rc,i.mr,t⟩ else bf t) else Hd.z
def cY (m:List (Nat×Nat)) (x:Nat):Option (Nat×Nat):=m.find? fun p=>p.1==x
def dm (m:List (Nat×Nat)) (q:Hd) (st:Int) (rc:Nat):Int:=if cH q st=0 then (if m.length≤8 then (if (cY m rc).isSome=true then 27 else 0) else 8) else cH q st
def dB (m:List (Nat×Nat)) (q:Hd):Option (Nat×Nat):=if q.og=0 then none else cY m q.og
def eT (q:Hd) (st:Int) (rc tr:Nat):Option (Nat×Nat)→Hd
  | some p=>⟨0,q.vr,4,st,q.pl,-20,0,0,0,0,q.rc,rc,p.2⟩
  | none=>⟨0,q.vr,4,st,q.pl,-20,0,0,0,0,q.tr,rc,tr⟩
def fH (m:List (Nat×Nat)) (q:Hd) (st:Int) (rc tr:Nat):Hd:=if dm m q st rc=0 then eT q st rc tr (dB m q) else Hd.z
def en (m:List (Nat×Nat)) (q:Hd) (st:Int) (rc:Nat):Bool:=if dm m q st rc=0 then (dB m q).isSome else false
def fI (m:List (Nat×Nat)) (q:Hd) (st:Int) (rc tr:Nat):List (Nat×Nat):=if dm m q st rc=0 then ((rc,tr)::m).take 8 else []
def eU (i:be) (h:Hd) (a:Int):Int:=if i.op=true then (if dR a=true then (if a<i.sk then 12 else if h.md=4 then (if h.og=i.tr then 0 else if i.kn=true∧h.og=i.mr then 0 else 23) else 3) else 4) else 7
def iD (i:be) (h:Hd) (a:Int):dA:=if eU i h a=0 then (if h.og=i.tr then ⟨i.sk,a,h.rc,h.tr,false⟩ else ⟨i.sn,i.gt,i.rc,h.tr,true⟩) else .z
def iE (i:be) (h:Hd) (a:Int):be:=if eU i h a=0 then ⟨false,true,0,0,i.sk,a,h.rc,i.tr⟩ else .z
theorem wZ {m:List (Nat×Nat)} {x:Nat}:cY m x=none↔∀ p∈m,p.1≠x:=by
  unfold cY;rw[List.find?_eq_none];simp
theorem s4 {q:Hd} (h0:0≤q.lp) (h1:q.lp≤3) (h2:q.vr=4) (h3:q.md=3) (h4:q.st=0) (h5:q.pl=6) (h6:q.pr=0) {st:Int} (s0:0≤st) (s1:st≤255):cH q st=0:=by
  unfold cH eh;rw[decide_eq_true (show gu q from ⟨h0,h1,.inr h2,by omega,by omega,by omega,by omega,by omega,by omega,by omega,by omega⟩),if_pos rfl,if_pos h3,if_pos ⟨s0,s1⟩]
open IntWalk
set_option maxHeartbeats 3200000
def fh:bF:=⟨3,46,ak [oO 3 (.box .ownBox (.t 0)),oO 6 (.alloc [aN,aN,af,aa,aa,aa,af,af]),oO 7 (.alloc [aa,aa,aa,aa,aa,aa,az,az,az,af,af,af,af]),a5 8 0] (.seq (ak [oM 10 2,fD 11 19 10,ei 12 11] (bc 12 (ak [oO 13 (.build [aN,aN,af,aa,aa,aa,af,af] []),oO 14 (.build [aa,aa,aa,aa,aa,aa,az,az,az,af,af,af,af] []),aH 8 6 13,aH 13 7 14,a5 8 4] .ret) .skip)) (.seq (ak [oM 15 1,oO 16 (.bin .eql (.t 15) (.k (.c af))),oM 17 16,cK 18 1 3 17 false,cJ 19 18 17 false,cj 20 19 17 false,cj 21 1 20 true,cK 22 7 3 20 true,cJ 23 22 20 true,iw .eql 24 21 23 20 true,oG 25 (.pick (.t 20) (.t 24) (.k (.c aN))) 17 false,dk 26 17 25] (bc 26 (ak [oO 27 (.build [aN,aN,af,aa,aa,aa,af,af] []),oO 28 (.build [aa,aa,aa,aa,aa,aa,az,az,az,af,af,af,af] []),
 aH 8 6 27,aH 13 7 28,a5 8 3] .ret) .skip)) (ak [oM 29 1,fD 30 20 29,oO 9 (.alloc [aa,aa,aa,aa,aa,aa,az,az,az,af,af,af,af]),aH 13 9 30] (.seq (ak [aS 31 1 3,bE 32 31] (bc 32 (.reg [aS 33 6 3,oO 34 (.loadX .sc (.t 33) [(.t 9)]),aS 35 7 3,oO 36 (.loadX .sc (.t 35) [(.t 9)]),aS 37 10 9,oN (.storeX .sc (.t 37) (.t 34) (.t 9)),aS 38 11 9,oN (.storeX .sc (.t 38) (.t 36) (.t 9))]) .skip)) (ak [oM 39 1,oM 40 2,aS 41 0 3,oN (.store .sc (.t 41) (.k (.c (.d (.bool true))))),aS 42 2 3,gn 42 39,aS 43 3 3,gn 43 40] (ak [oO 44 (.loadX (.ag 8) (.t 3) [(.t 6),(.t 7)]),oO 45 (.loadX (.ag 13) (.t 9) [(.t 6),(.t 7)]),aH 8 6 44,aH 13 7 45,a5 8 0] .ret)))))),[(6,(some (.ag 8))),(7,(some (.ag 13))),(8,none)]⟩
theorem yq:bq Try.prog { own:=[3],lx:=[(34,[9]),(36,[9]),(37,[9]),(38,[9]),(44,[6,7]),(45,[6,7])] } Try.f9=some fh:=by kernel_rfl
theorem jT (G:au) (i:be) (t:Nat) (a:Int):a7 Try.prog G 9 [bZ i,.int .u64 (t:Int),.int .i64 a] (.tup [.c (.d (bZ (gv i t a))),.c (.d (aP (gw i t a))),.c (.d (.int .i64 (em i t a)))]):=by
  refine b8 Try.func9 yq rfl rfl ?_;have c1:=tM G a;have c2:=ym G t;have he:em i t a=if dR a=true then (if t=0∨(i.kn=true∧t=i.mr) then 3 else 0) else 4:=rfl
  unfold gv gw;obtain⟨op,kn,tr,sk,sn,gt,rc,mr⟩:=i;dsimp only at he ⊢;generalize em ⟨op,kn,tr,sk,sn,gt,rc,mr⟩ t a=E at *
  cases hv:dR a
  ·rw[hv,if_neg (by decide:¬ false=true)] at he;rw[hv] at c1;rw[he,if_neg (by decide:¬ (4:Int)=0),if_neg (by decide:¬ (4:Int)=0)];unfold bZ be.z aP Hd.z;simp only[fh,aD,ap,am,seval,iteOmega,toNatUp];refine sD (c1) ?_;exact ek
  ·rw[hv,if_pos rfl] at he;rw[hv] at c1;by_cases h0:t=0
   ·rw[if_pos (.inl h0)] at he;rw[he,if_neg (by decide:¬ (3:Int)=0),if_neg (by decide:¬ (3:Int)=0)];subst h0;unfold bZ be.z aP Hd.z;simp only[fh,aD,ap,am,seval,iteOmega,toNatUp];refine sD (c1) ?_;exact ek
   ·cases kn
    ·rw[if_neg (by simp[h0])] at he;rw[he,if_pos rfl,if_pos rfl,if_neg (by decide:¬ false=true)];unfold bZ aP bf at *
     simp only[fh,aD,ap,am,seval,iteOmega,toNatUp];refine sD (c1) ?_;refine sD (c2) ?_;exact ek
    ·by_cases hm:t=mr
     ·rw[if_pos (.inr ⟨rfl,hm⟩)] at he;rw[he,if_neg (by decide:¬ (3:Int)=0),if_neg (by decide:¬ (3:Int)=0)];subst hm;unfold bZ be.z aP Hd.z;simp only[fh,aD,ap,am,seval,iteOmega,toNatUp];refine sD (c1) ?_;exact ek
     ·rw[if_neg (by simp[h0,hm])] at he;rw[he,if_pos rfl,if_pos rfl,if_pos rfl];unfold bZ aP bf at *
      simp only[fh,aD,ap,am,seval,iteOmega,toNatUp];refine sD (c1) ?_;refine sD (c2) ?_;exact ek
def eO (i:be) (h:Hd) (a:Int):Int:=if i.op=true then (if dR a=true then (if a<i.sk then 12 else if h.md=4 then 0 else 3) else 4) else 7
def dS (i:be) (h:Hd):Bool:=decide (h.og=i.tr) || (i.kn&&decide (h.og=i.mr))
def fy (i:be) (h:Hd) (a:Int):dA:=if h.og=i.tr then ⟨i.sk,a,h.rc,h.tr,false⟩ else if i.kn=true∧h.og=i.mr then ⟨i.sn,i.gt,i.rc,h.tr,true⟩ else .z
def e9:bF:=⟨3,24,ak [cQ 3 0,cQ 4 1,a5 6 0] (.seq (.block 0 (ak [aS 8 0 3,bE 9 8,ei 10 9,oM 7 10] (bc 7 (ak [a5 6 7] .ret) (ak [oM 12 2,fD 13 19 12,ei 14 13,oM 11 14] (bc 11 (ak [a5 6 4] .ret) (ak [oM 16 2,aS 17 3 3,bE 18 17,eQ .lss 19 16 18,oM 15 19] (bc 15 (ak [a5 6 12] .ret) (ak [aS 21 2 4,bE 22 21,ct .neq 23 22 4,oM 20 23] (bc 20 (ak [a5 6 3] .ret) .skip))))))))) (ak [a5 6 0] .ret)),[(6,none)]⟩
theorem xM:bq Try.prog {} Try.f24=some e9:=by kernel_rfl
theorem yr (G:au) (i:be) (h:Hd) (a:Int):a7 Try.prog G 24 [bZ i,aP h,.int .i64 a] (.w (.c (.d (.int .i64 (eO i h a))))):=by
  refine b8 Try.func24 xM rfl rfl ?_;have c1:=tM G a;obtain⟨op,kn,tr,sk,sn,gt,rc,mr⟩:=i;obtain⟨lp,vr,md,st,pl,pr,rd,rp,ri,rf,og,hrc,htr⟩:=h;unfold eO bZ aP;dsimp only;cases op
  ·simp only[e9,aD,ap,am,seval,iteOmega,toNatUp];exact a6
  ·cases hv:dR a
   ·rw[hv] at c1;simp only[e9,aD,ap,am,seval,iteOmega,toNatUp];refine sD (c1) ?_;exact a6
   ·rw[hv] at c1;by_cases h1:a<sk
    ·simp only[e9,aD,ap,am,seval,iteOmega,toNatUp];refine sD (c1) ?_;exact a6
    ·by_cases h2:md=4
     ·subst h2;simp only[e9,aD,ap,am,seval,iteOmega,toNatUp];refine sD (c1) ?_;exact a6
     ·simp only[e9,aD,ap,am,seval,iteOmega,toNatUp];refine sD (c1) ?_;exact a6
def fY:bF:=⟨3,42,ak [cQ 3 0,cQ 4 1,oO 6 (.alloc [aa,aa,af,af,aN]),bW 7 false] (.seq (.block 0 (ak [aS 9 10 4,bE 10 9,aS 11 2 3,bE 12 11,eQ .eql 13 10 12,oM 8 13] (bc 8 (ak [aS 14 3 3,bE 15 14,aS 16 11 4,bE 17 16,aS 18 12 4,bE 19 18,oM 20 2,oO 21 (.build [aa,aa,af,af,aN] [(0,1,(.t 15)),(2,1,(.t 17)),(3,1,(.t 19)),(1,1,(.t 20))]),aH 5 6 21,bW 7 true] .ret) (ak [aS 23 1 3,bE 24 23,oM 25 24,cK 26 10 4 25 true,cJ 27 26 25 true,cK 28 7 3 25 true,cJ 29 28 25 true,iw .eql 30 27 29 25 true,cu 31 25 30,oM 22 31] (bc 22 (ak [aS 32 4 3,bE 33 32,aS 34 6 3,bE 35 34,aS 36 12 4,bE 37 36,aS 38 5 3,bE 39 38,oO 40 (.build [aa,aa,af,af,aN] [(0,1,(.t 33)),(2,1,(.t 35)),(3,1,(.t 37)),(1,1,(.t 39)),(4,1,(.k (.c (.d (.bool true)))))]),aH 5 6 40,bW 7 true]
 .ret) .skip))))) (ak [oO 41 (.build [aa,aa,af,af,aN] []),aH 5 6 41,bW 7 false] .ret)),[(6,(some (.ag 5))),(7,none)]⟩
theorem xN:bq Try.prog {} Try.f25=some fY:=by kernel_rfl
theorem yt (G:au) (i:be) (h:Hd) (a:Int):a7 Try.prog G 25 [bZ i,aP h,.int .i64 a] (.tup [.c (.d (dj (fy i h a))),.c (.d (.bool (dS i h)))]):=by
  refine b8 Try.func25 xN rfl rfl ?_;obtain⟨op,kn,tr,sk,sn,gt,rc,mr⟩:=i;obtain⟨lp,vr,md,st,pl,pr,rd,rp,ri,rf,og,hrc,htr⟩:=h;unfold fy dS bZ aP;dsimp only;by_cases h1:og=tr
  ·subst h1;rw[if_pos rfl,decide_eq_true rfl,Bool.true_or];unfold dj;simp only[fY,aD,ap,am,seval,iteOmega,toNatUp];exact ej
  ·rw[if_neg h1,decide_eq_false h1,Bool.false_or];cases kn
   ·rw[if_neg (by simp),Bool.false_and];unfold dj dA.z;simp only[fY,aD,ap,am,seval,iteOmega,toNatUp];exact ej
   ·rw[Bool.true_and];by_cases h2:og=mr
    ·subst h2;rw[if_pos ⟨rfl,rfl⟩,decide_eq_true rfl];unfold dj;simp only[fY,aD,ap,am,seval,iteOmega,toNatUp];exact ej
    ·rw[if_neg (fun h=>h2 h.2),decide_eq_false h2];unfold dj dA.z;simp only[fY,aD,ap,am,seval,iteOmega,toNatUp];exact ej
theorem s5 {i:be} {h:Hd} (e:dS i h=true):h.og=i.tr∨(i.kn=true∧h.og=i.mr):=by
  unfold dS at e
  simpa using e
theorem yu {i:be} {h:Hd} (e:dS i h=false):¬ h.og=i.tr∧¬ (i.kn=true∧h.og=i.mr):=by
  unfold dS at e
  simpa using e
theorem yx (i:be) (h:Hd) (a:Int):eU i h a=if eO i h a=0 then (if dS i h=true then 0 else 23) else eO i h a:=by
  unfold eU eO;cases hb:dS i h
  ·obtain⟨h1,h2⟩:=yu hb;rw[if_neg h1,if_neg h2,if_neg (by decide:¬ false=true)];split
   ·split
    ·split
     ·rfl
     ·split <;> rfl
    ·rfl
   ·rfl
  ·have h1:(if h.og=i.tr then (0:Int) else if i.kn=true∧h.og=i.mr then 0 else 23)=0:=by
     rcases s5 hb with h1 | h1
     ·rw[if_pos h1]
     ·rw[if_pos h1];split <;> rfl
   rw[h1,if_pos rfl];split
   ·split
    ·split
     ·rfl
     ·split <;> rfl
    ·rfl
   ·rfl
def hH:bF:=⟨3,41,ak [cQ 3 0,cQ 4 1,oO 6 (.alloc [aN,aN,af,aa,aa,aa,af,af]),oO 7 (.alloc [aa,aa,af,af,aN]),a5 8 0] (.seq (ak [cb 12 8 3,cb 13 13 4,oM 14 2,kg 15 24 12 13 14,oM 9 15] (ak [oM 16 9,ct .neq 17 16 0] (bc 17 (ak [oO 18 (.build [aN,aN,af,aa,aa,aa,af,af] []),oO 19 (.build [aa,aa,af,af,aN] []),oM 20 9,aH 8 6 18,aH 5 7 19,oM 8 20] .ret) .skip))) (ak [cb 22 8 3,cb 23 13 4,oM 24 2,kg 25 25 22 23 24,oM 21 25,aU 26 21 0,aU 27 21 1,oO 10 (.alloc [aa,aa,af,af,aN]),aH 5 10 26,oM 11 27] (.seq (ak [oM 28 11,ei 29 28] (bc 29 (ak [oO 30 (.build [aN,aN,af,aa,aa,aa,af,af] []),oO 31 (.build [aa,aa,af,af,aN] []),aH 8 6 30,aH 5 7 31,a5 8 23] .ret) .skip)) (ak [aS 32 3 3,oO 33 (.loadX .sc (.t 32) []),oM 34 2,aS 35 11 4,oO 36 (.loadX .sc (.t 35) []),
 aS 37 2 3,oO 38 (.loadX .sc (.t 37) []),oO 39 (.build [aN,aN,af,aa,aa,aa,af,af] [(1,1,(.k (.c (.d (.bool true))))),(4,1,(.t 33)),(5,1,(.t 34)),(6,1,(.t 36)),(7,1,(.t 38))]),oO 40 (.loadX (.ag 5) (.t 10) [(.t 6),(.t 7)]),aH 8 6 39,aH 5 7 40,a5 8 0] .ret)))),[(6,(some (.ag 8))),(7,(some (.ag 5))),(8,none)]⟩
theorem yy:bq Try.prog { lx:=[(33,[]),(36,[]),(38,[]),(40,[6,7])] } Try.f12=some hH:=by kernel_rfl
theorem tN (G:au) (i:be) (h:Hd) (a:Int):a7 Try.prog G 12 [bZ i,aP h,.int .i64 a] (.tup [.c (.d (bZ (iE i h a))),.c (.d (dj (iD i h a))),.c (.d (.int .i64 (eU i h a)))]):=by
  refine b8 Try.func12 yy rfl rfl ?_;have c1:=yr G i h a;have c2:=yt G i h a;unfold iE iD;have he:=yx i h a;by_cases h0:eO i h a=0
  ·rw[if_pos h0] at he;rw[h0] at c1;cases hb:dS i h
   ·rw[hb,if_neg (by decide:¬ false=true)] at he;rw[hb] at c2;rw[he,if_neg (by decide:¬ (23:Int)=0),if_neg (by decide:¬ (23:Int)=0)];clear he hb h0;generalize fy i h a=R at *
    obtain⟨op,kn,tr,sk,sn,gt,rc,mr⟩:=i;obtain⟨lp,vr,md,st,pl,pr,rd,rp,ri,rf,og,hrc,htr⟩:=h;unfold bZ aP dj be.z dA.z at *
    simp only[hH,aD,ap,am,seval,iteOmega,toNatUp];refine sD (c1) ?_;refine sD (c2) ?_;exact ek
   ·rw[hb,if_pos rfl] at he;rw[hb] at c2;rw[he,if_pos rfl,if_pos rfl];have hR:(if h.og=i.tr then (⟨i.sk,a,h.rc,h.tr,false⟩:dA) else ⟨i.sn,i.gt,i.rc,h.tr,true⟩)=fy i h a:=by
      unfold fy;by_cases h1:h.og=i.tr
      ·rw[if_pos h1,if_pos h1]
      ·rw[if_neg h1,if_neg h1,if_pos ((s5 hb).resolve_left h1)]
    rw[hR];clear he hb h0 hR;generalize fy i h a=R at *
    obtain⟨op,kn,tr,sk,sn,gt,rc,mr⟩:=i;obtain⟨lp,vr,md,st,pl,pr,rd,rp,ri,rf,og,hrc,htr⟩:=h;unfold bZ aP dj at *
    simp only[hH,aD,ap,am,seval,iteOmega,toNatUp];refine sD (c1) ?_;refine sD (c2) ?_;exact ek
  ·rw[if_neg h0] at he;rw[he,if_neg h0,if_neg h0];clear he;generalize eO i h a=E at *
   obtain⟨op,kn,tr,sk,sn,gt,rc,mr⟩:=i;obtain⟨lp,vr,md,st,pl,pr,rd,rp,ri,rf,og,hrc,htr⟩:=h;unfold bZ aP dj be.z dA.z at *
   simp only[hH,aD,ap,am,seval,iteOmega,toNatUp];refine sD (c1) ?_;exact ek
def dZ (m:List (Nat×Nat)) (x:Nat):Int:=match m.findIdx? fun p=>p.1==x with | some i=>(i:Int) | none=>-1
theorem ud {m:List (Nat×Nat)} {i:Nat} (h:i<m.length):m[i]?=some (m.getD i (0,0)):=by
  rw[zu,yZ h]; rfl
theorem xO {m:List (Nat×Nat)} {x i:Nat} (h:i<m.length) (he:(m.getD i (0,0)).1=x) (hn:∀ j,j<i→(m.getD j (0,0)).1≠x):dZ m x=(i:Int):=by
  have:(m.findIdx? fun p=>p.1==x)=some i:=by
    rw[List.findIdx?_eq_some_iff_getElem];have e:∀ k (hk:k<m.length),m[k]=m.getD k (0,0):=fun k hk=>by rw[zu,yZ hk]; rfl
    refine⟨h,by rw[e i h]; simpa using he,fun j hj=>?_⟩;rw[e j (by omega)]
    simpa using hn j hj
  unfold dZ;rw[this]
theorem w5 {m:List (Nat×Nat)} {x:Nat} (hn:∀ j,j<m.length→(m.getD j (0,0)).1≠x):dZ m x=-1:=by
  have:(m.findIdx? fun p=>p.1==x)=none:=by
    rw[List.findIdx?_eq_none_iff];intro y hy;obtain⟨j,hj,rfl⟩:=zr hy;have:=hn j hj;rw[zu,yZ hj] at this
    simpa using this
  unfold dZ;rw[this]
theorem tO (m:List (Nat×Nat)) (x:Nat):(dZ m x=-1∧cY m x=none)∨∃ i,i<m.length∧dZ m x=(i:Int)∧cY m x=some (m.getD i (0,0)):=by
  unfold dZ;cases h:m.findIdx? fun p=>p.1==x with
  | none =>
    refine .inl ⟨rfl,?_⟩;rw[List.findIdx?_eq_none_iff] at h;rw[wZ];intro p hp
    simpa using h p hp
  | some i =>
    obtain⟨h1,h2,h3⟩:=List.findIdx?_eq_some_iff_getElem.1 h;refine .inr ⟨i,h1,rfl,?_⟩;unfold cY;rw[List.find?_eq_some_iff_getElem];refine⟨?_,i,h1,?_,fun j hj=>?_⟩
    ·rw[zu,yZ h1]; exact h2
    ·rw[zu,yZ h1]; rfl
    ·simpa using h3 j hj
theorem gO (m:List (Nat×Nat)):bM 2 (m.map bp)=true:=by
  unfold bM;rw[zf];intro x hx;obtain⟨p,_,rfl⟩:=za.1 hx;rfl
theorem xP (a b:Nat):List.foldl (fun x y:Int=>if y<x then y else x) (a:Int) [(b:Int)]=((min a b:Nat):Int):=by
  simp only[List.foldl_cons,List.foldl_nil];split <;> omega
def iu (m:List (Nat×Nat)) (g:Nat) (caps:List D) (i:Nat):St:=⟨dw [(0,.w (.c (.d (.sl (m.map bp))))),(1,.w (.c (.d (.fn g caps)))),(7,.w (.c (.d (.int .i64 (m.length:Int))))),(8,.w (.c (.d (.int .i64 (i:Int)))))],hL [],uL []⟩
def gP:aK := ak [eQ .lss 9 8 7] (.seq (bc 9 .skip (.exit 0)) (.seq (.block 1 (ak [oM 10 8,oM 5 10] (ak [oM 11 1,oM 12 0,oM 13 5,ke 14 2 12 13,cb 15 2 14,gp 16 1000000007 11 15] (bc 16 (ak [oM 17 5,oM 4 17] .ret) .skip)))) (.reg [ct .add 18 8 1,oM 8 18])))
def s6:bF:=⟨2,19,ak [a5 4 0] (.seq (ak [oM 6 0,iv 7 6,a5 8 0] (.block 0 (.loop gP))) (ak [oO 4 (.mv (.k (.c (.d (.int .i64 (-1))))))] .ret)),[(4,none)]⟩
theorem yz:bq Try.prog {} Try.f31=some s6:=by kernel_rfl
theorem yJ (G:au) (m:List (Nat×Nat)) (g:Nat) (caps:List D) (x:Nat) (hm:m.length≤9223372036854775807) (hp:∀ p:Nat×Nat,ig Try.prog G g caps [bp p] (.w (.c (.d (.bool (decide (p.1=x))))))):a7 Try.prog G 31 [.sl (m.map bp),.fn g caps] (.w (.c (.d (.int .i64 (dZ m x))))):=by
  refine b8 Try.func31 yz rfl rfl ?_;simp only[s6,aD,ap,am,seval,iteOmega,toNatUp];refine p6 (iu m g caps) (fun i=>m.length-i) (fun i=>i≤m.length∧∀ j,j<i→(m.getD j (0,0)).1≠x) 0 ⟨z0 _,fun j hj=>by omega⟩ ?_ ?_
  ·refine hX (fun i=>0) ?_ ?_ rfl rfl <;> simp only[wx,iB,iC,am,seval,iteOmega,toNatUp] <;> rfl
  ·rintro i ⟨hi,hn⟩;have haz:=gO m;by_cases hlt:i<m.length
   ·have g1:=ud hlt;have hd:=hp (m.getD i (0,0));by_cases he:(m.getD i (0,0)).1=x
    ·rw[decide_eq_true he] at hd;rw[xO hlt he hn];simp only[gP,iu,ap,am,seval,iteOmega,toNatUp,jB,g1,haz];generalize m.getD i (0,0)=y at *
     refine nF hd (by simp only[ap,am,seval,iteOmega,toNatUp,bp]) (.inl rfl) ?_;simp only[ap,am,seval,iteOmega,toNatUp];exact a6
    ·rw[decide_eq_false he] at hd;have hn':∀ j,j<i+1→(m.getD j (0,0)).1≠x:=fun j hj=>by
       rcases zP j i with h | h
       ·exact hn j h
       ·obtain rfl:j=i:=by omega
        exact he
     simp only[gP,iu,ap,am,seval,iteOmega,toNatUp,jB,g1,haz];generalize m.getD i (0,0)=y at *
     refine nF hd (by simp only[ap,am,seval,iteOmega,toNatUp,bp]) (.inl rfl) ?_;simp only[ap,am,seval,iteOmega,toNatUp];refine nX (i+1) (by omega) ⟨by omega,hn'⟩ (hX (fun i=>0) ?_ ?_ rfl rfl) <;> simp only[wx,iB,iC,am,seval,iteOmega,toNatUp]
   ·rw[w5 fun j hj=>hn j (by omega)];simp only[gP,iu,ap,am,seval,iteOmega,toNatUp];exact a6
def jN:bF:=⟨2,8,ak [cQ 2 0,bW 3 false] (ak [aS 4 0 2,bE 5 4,bE 6 1,eQ .eql 7 5 6,oM 3 7] .ret),[(3,none)]⟩
theorem yA:bq Try.prog {} Try.f32=some jN:=by kernel_rfl
theorem yK (G:au) (x:Nat) (p:Nat×Nat):ig Try.prog G 32 [.ref [.int .u64 (x:Int)]] [bp p] (.w (.c (.d (.bool (decide (p.1=x)))))):=by
  refine⟨enters_of Try.func32 (by kernel_rfl) rfl,?_⟩;refine wb Try.func32 yA rfl rfl ?_;unfold bp;by_cases h:p.1=x
  ·rw[decide_eq_true h];simp only[jN,zS,List.nil_append,y5,zX,D.up,ee,ap,am,seval,iteOmega,toNatUp,h];exact a6
  ·rw[decide_eq_false h];simp only[jN,zS,List.nil_append,y5,zX,D.up,ee,ap,am,seval,iteOmega,toNatUp];exact a6
def s7:bF:=⟨2,8,ak [cQ 3 1,a5 4 0] (ak [oM 5 0,oO 6 (.clos 32 [(.t 3)]),gp 7 31 5 6,oM 4 7] .ret),[(4,none)]⟩
theorem yB:bq Try.prog {} Try.f22=some s7:=by kernel_rfl
theorem tP (G:au) (m:List (Nat×Nat)) (x:Nat) (hm:m.length≤9223372036854775807):a7 Try.prog G 22 [.sl (m.map bp),.int .u64 (x:Int)] (.w (.c (.d (.int .i64 (dZ m x))))):=by
  refine b8 Try.func22 yB rfl rfl ?_;have c1:=yJ G m _ [.ref [.int .u64 (x:Int)]] x hm (yK G x);simp only[s7,aD,ap,am,seval,iteOmega,toNatUp];refine sD (c1) ?_;exact a6
def s8:bF:=⟨2,13,ak [cQ 3 1,fC 4] (ak [cb 5 2 3,oO 6 (.bldSl true 1 2 (.agg [(.int .u64 0),(.int .u64 0)]) [(0,(.t 5))]),oM 7 0,oM 8 0,iv 9 8,oO 10 (.min [(.t 9),(kI 7)]),oO 11 (.slice 2 (.t 7) none (some (.t 10)) none),oO 12 (.app false 2 16 (.t 6) (.t 11)),oM 4 12] .ret),[(4,none)]⟩
theorem yC:bq Try.prog { own:=[6] } Try.f23=some s8:=by kernel_rfl
theorem yL (G:au) (m:List (Nat×Nat)) (a b:Nat) (hm:m.length≤8):a7 Try.prog G 23 [.sl (m.map bp),bp (a,b)] (.w (.c (.fr 2 ((((a,b)::m).take 8).map bp)))):=by
  refine b8 Try.func23 yC rfl rfl ?_;have haz:=gO (m.take 7);have haz2:=gO m;have e:((a,b)::m).take 8=(a,b)::m.take 7:=rfl;have hT:(m.map bp).take (min m.length 7)=(m.take 7).map bp:=by
    rw[← List.map_take,Nat.min_comm]
    congr 1
    rcases Nat.le_total m.length 7 with h | h
    ·rw[Nat.min_eq_right h,zQ (y8 _),zQ h]
    ·rw[Nat.min_eq_left h]
  obtain⟨n3,hn3⟩:∃ n3,n3=min m.length 7:=⟨_,rfl⟩
  have hmin:=xP m.length 7;rw[show ((7:Nat):Int)=7 from rfl] at hmin;rw[← hn3] at hT hmin;have h8:(m.take 7).length≤7:=by simp; omega
  have hL:(m.take 7).length=n3:=by rw[hn3,zg,Nat.min_comm]
  have h3:n3≤m.length:=by omega
  rw[e];clear hn3 e;generalize m.take 7=M at *
  have hM:(M.map bp).length=n3:=by rw[zq,hL]
  have h0:(0:Nat)≤n3:=z0 _;simp only[s8,aD,ap,am,seval,iteOmega,toNatUp,hmin,hT,haz,haz2,dh,bp,h3,h0];exact xA (id:=96) (n:=M.length+1) (s:=2) (by simp only[ap,am,seval,iteOmega,toNatUp]) (by simp only[ap,am,seval,iteOmega,toNatUp]) (by simp)
def eF:bF:=⟨5,66,ak [cQ 6 1,fC 10,oO 11 (.alloc [aa,aa,aa,aa,aa,aa,az,az,az,af,af,af,af]),bW 12 false,a5 13 0] (ak [cb 16 13 6,oM 17 2,oM 18 3,oM 19 4,ug 20 21 16 17 18 19,oM 15 20,aU 21 15 0,aU 22 15 1,aH 13 11 21,oM 13 22] (.seq (.block 0 (ak [oM 24 13,ct .neq 25 24 0,oM 23 25] (bc 23 (ak [oO 26 (.build [aa,aa,aa,aa,aa,aa,az,az,az,af,af,af,af] []),oM 27 13,fC 10,aH 13 11 26,bW 12 false,oM 13 27] .ret) (ak [oM 29 0,iv 30 29,ct .gtr 31 30 8,oM 28 31] (bc 28 (ak [oO 32 (.build [aa,aa,aa,aa,aa,aa,az,az,az,af,af,af,af] []),fC 10,aH 13 11 32,bW 12 false,a5 13 8] .ret) (ak [oM 34 0,oM 35 3,gp 36 22 34 35,ct .geq 37 36 0,oM 33 37] (bc 33 (ak [oO 38 (.build [aa,aa,aa,aa,aa,aa,az,az,az,af,af,af,af] []),fC 10,
 aH 13 11 38,bW 12 false,a5 13 27] .ret) .skip))))))) (.seq (ak [oM 39 0,aS 40 10 6,bE 41 40,gp 42 22 39 41,oM 14 42] (ak [oM 43 14,ct .geq 44 43 0,oM 45 44,cK 46 10 6 45 true,cJ 47 46 45 true,oG 48 (.bin .neq (.t 47) (.k (.c af))) 45 true,cu 49 45 48] (bc 49 (.reg [aS 50 11 6,oO 51 (.loadX .sc (.t 50) []),oM 52 0,oM 53 14,ke 54 2 52 53,aS 55 1 54,oO 56 (.loadX .sc (.t 55) []),aS 57 10 11,gn 57 51,aS 58 12 11,gn 58 56,bW 12 true]) .skip))) (ak [oM 59 0,oM 60 3,oM 61 4,oO 62 (.build [af,af] [(0,1,(.t 60)),(1,1,(.t 61))]),oO 63 (.call 23 [(.t 59),(.t 62)] (some (0,2))),cb 64 13 11,oM 65 12,oM 10 63,aH 13 11 64,oM 12 65,a5 13 0] .ret)))),[(10,none),(11,(some (.ag 13))),(12,none),(13,none)]⟩
theorem yD:bq Try.prog { own:=[63],lx:=[(51,[]),(56,[])] } Try.f11=some eF:=by kernel_rfl
theorem ia (G:au) (m:List (Nat×Nat)) (hm:m.length≤9223372036854775807) (q:Hd) (st:Int) (rc tr:Nat):a7 Try.prog G 11 [.sl (m.map bp),aP q,.int .i64 st,.int .u64 (rc:Int),.int .u64 (tr:Int)]
    (.tup [.c (.d (.sl ((fI m q st rc tr).map bp))),.c (.d (aP (fH m q st rc tr))),.c (.d (.bool (en m q st rc))),.c (.d (.int .i64 (dm m q st rc)))]):=by
  refine b8 Try.func11 yD rfl rfl ?_;have c1:=yn G q st rc tr;have c2:=tP G m rc hm;have he:dm m q st rc=if cH q st=0 then (if m.length≤8 then (if (cY m rc).isSome=true then 27 else 0) else 8) else cH q st:=rfl
  unfold fI fH en;by_cases h0:cH q st=0
  ·rw[if_pos h0] at he;rw[h0] at c1;have hR:ir q st rc tr=⟨0,q.vr,4,st,q.pl,-20,0,0,0,0,q.tr,rc,tr⟩:=if_pos h0;rw[hR] at c1;by_cases h8:m.length≤8
   ·rw[if_pos h8] at he;rcases tO m rc with ⟨i1,i2⟩ | ⟨i,i1,i2,i3⟩
    ·rw[i2,if_neg (by simp)] at he;rw[i1] at c2;rw[he,if_pos rfl,if_pos rfl,if_pos rfl];have c3:=tP G m q.og hm;have c4:=yL G m rc tr h8;have eA:dB m q=if q.og=0 then none else cY m q.og:=rfl
     have haz:=gO m;rcases tO m q.og with ⟨j1,j2⟩ | ⟨j,j1,j2,j3⟩
     ·have eN:dB m q=none:=by rw[eA,j2,ite_self]
      rw[j1] at c3;rw[eN];clear he i2 h0 hR eA eN j2;generalize ((rc,tr)::m).take 8=T at *
      unfold eT aP at *
      rw[Option.isSome_none];simp only[eF,aD,ap,am,seval,iteOmega,toNatUp];refine sD (c1) ?_;refine sD (c2) ?_;refine sD (c3) ?_;refine gX c4 (by simp only[ap,am,seval,iteOmega,toNatUp,bp]) (.inl rfl) ?_;simp only[ap,am,seval,iteOmega,toNatUp];exact fG
     ·by_cases hg:q.og=0
      ·have eN:dB m q=none:=by rw[eA,if_pos hg]
       rw[j2] at c3;rw[eN];clear he i2 h0 hR eA eN j3;generalize ((rc,tr)::m).take 8=T at *
       unfold eT aP at *
       rw[Option.isSome_none];simp only[eF,aD,ap,am,seval,iteOmega,toNatUp];refine sD (c1) ?_;refine sD (c2) ?_;refine sD (c3) ?_;refine gX c4 (by simp only[ap,am,seval,iteOmega,toNatUp,bp]) (.inl rfl) ?_;simp only[ap,am,seval,iteOmega,toNatUp];exact fG
      ·have eS:dB m q=some (m.getD j (0,0)):=by rw[eA,if_neg hg,j3]
       have g1:=ud j1;rw[j2] at c3;rw[eS];clear he i2 h0 hR eA eS j3;generalize m.getD j (0,0)=x at *
       generalize ((rc,tr)::m).take 8=T at *
       unfold eT aP at *
       rw[Option.isSome_some];simp only[eF,aD,ap,am,seval,iteOmega,toNatUp];refine sD (c1) ?_;refine sD (c2) ?_;refine sC (c3) ?_;simp only[jB,g1,haz,bp,ap,am,seval,iteOmega,toNatUp];refine gX c4 (by simp only[ap,am,seval,iteOmega,toNatUp,bp]) (.inl rfl) ?_;simp only[ap,am,seval,iteOmega,toNatUp];exact fG
    ·rw[i3,if_pos (by simp)] at he;rw[i2] at c2;rw[he,if_neg (by decide:¬ (27:Int)=0),if_neg (by decide:¬ (27:Int)=0),if_neg (by decide:¬ (27:Int)=0)];clear he i3 h0 hR;unfold aP Hd.z at *
     simp only[eF,aD,ap,am,seval,iteOmega,toNatUp];refine sD (c1) ?_;refine sD (c2) ?_;exact fG
   ·rw[if_neg h8] at he;rw[he,if_neg (by decide:¬ (8:Int)=0),if_neg (by decide:¬ (8:Int)=0),if_neg (by decide:¬ (8:Int)=0)];clear he h0 hR;unfold aP Hd.z at *
    simp only[eF,aD,ap,am,seval,iteOmega,toNatUp];refine sD (c1) ?_;exact fG
  ·rw[if_neg h0] at he;rw[he,if_neg h0,if_neg h0,if_neg h0];clear he;generalize ir q st rc tr=R at *
   generalize cH q st=E at *
   unfold aP Hd.z at *
   simp only[eF,aD,ap,am,seval,iteOmega,toNatUp];refine sD (c1) ?_;exact fG
def lq:bF:=⟨0,55,ak [bW 0 false] (ak [oO 12 (.build [aN,aN,af,aa,aa,aa,af,af] []),oO 13 (.call 9 [(.t 12),(.k (.c (.d (.int .u64 77)))),(kI 5)] none),oM 11 13,aU 14 11 0,aU 15 11 1,aU 16 11 2,oO 1 (.alloc [aN,aN,af,aa,aa,aa,af,af]),oO 2 (.alloc [aa,aa,aa,aa,aa,aa,az,az,az,af,af,af,af]),aH 8 1 14,aH 13 2 15,oM 3 16] (ak [cb 18 13 2,oO 19 (.call 11 [(.k (.c .nil)),(.t 18),(kI 2),(.k (.c (.d (.int .u64 1000)))),(.k (.c (.d (.int .u64 1001))))] none),oM 17 19,aU 20 17 0,aU 21 17 1,aU 22 17 2,aU 23 17 3,oO 5 (.alloc [aa,aa,aa,aa,aa,aa,az,az,az,af,af,af,af]),oM 4 20,aH 13 5 21,oM 6 22,oM 7 23] (ak [cb 25 8 1,cb 26 13 5,oO 27 (.call 12 [(.t 25),(.t 26),(kI 9)] none),oM 24 27,aU 28 24 0,aU 29 24 1,aU 30 24 2,oO 8 (.alloc [aN,aN,af,aa,aa,aa,af,af]),
 oO 9 (.alloc [aa,aa,af,af,aN]),aH 8 8 28,aH 5 9 29,oM 10 30] (ak [oM 31 3,ct .eql 32 31 0,oM 33 32,cj 34 7 33 true,dU .eql 35 34 0 33 true,cu 36 33 35,oM 37 36,cj 38 10 37 true,dU .eql 39 38 0 37 true,cu 40 37 39,oM 41 40,cj 42 6 41 true,eR 43 42 41 true,cu 44 41 43,oM 45 44,cj 46 4 45 true,kf 47 46 45 true,dU .eql 48 47 1 45 true,cu 49 45 48,oM 50 49,oG 51 (.load (.ag 5) (.t 9)) 50 true,oG 52 (.build [aa,aa,af,af,aN] [(0,1,(kI 5)),(1,1,(kI 9)),(2,1,(.k (.c (.d (.int .u64 1000))))),(3,1,(.k (.c (.d (.int .u64 1001)))))]) 50 true,oG 53 (.eqA false [0,0,0,0,1] (.t 51) (.t 52)) 50 true,cu 54 50 53,oM 0 54] .ret)))),[(0,none)]⟩
theorem vo:bq Try.prog {} Try.f13=some lq:=by kernel_rfl
set_option maxHeartbeats 1600000 in
theorem wc (G:au):a7 Try.prog G 13 [] (.w (.c (.d (.bool true)))):=by
  refine b8 Try.func13 vo rfl rfl ?_;have c1:=jT G .z 77 5;rw[show gv .z 77 5=⟨true,false,77,5,0,0,0,0⟩ from rfl,show gw .z 77 5=bf 77 from rfl,show em .z 77 5=0 from rfl] at c1;have c2:=ia G [] (by decide) (bf 77) 2 1000 1001;rw[show fI [] (bf 77) 2 1000 1001=[(1000,1001)] from rfl,show fH [] (bf 77) 2 1000 1001=⟨0,4,4,2,6,-20,0,0,0,0,77,1000,1001⟩ from rfl,show en [] (bf 77) 2 1000=false from rfl,show dm [] (bf 77) 2 1000=0 from rfl] at c2;have c3:=tN G ⟨true,false,77,5,0,0,0,0⟩ ⟨0,4,4,2,6,-20,0,0,0,0,77,1000,1001⟩ 9;rw[show iE ⟨true,false,77,5,0,0,0,0⟩ ⟨0,4,4,2,6,-20,0,0,0,0,77,1000,1001⟩ 9=⟨false,true,0,0,5,9,1000,77⟩ from rfl,show iD ⟨true,false,77,5,0,0,0,0⟩ ⟨0,4,4,2,6,-20,0,0,0,0,77,1000,1001⟩ 9=⟨5,9,1000,1001,false⟩ from rfl,show eU ⟨true,false,77,5,0,0,0,0⟩ ⟨0,4,4,2,6,-20,0,0,0,0,77,1000,1001⟩ 9=0 from rfl] at c3;unfold bZ be.z at c1;unfold bZ dj at c3;unfold aP bf at *
  simp only[lq,aD,ap,am,seval,iteOmega,toNatUp];refine sD (c1) ?_;refine sC (c2) ?_;simp only[bp,ap,am,seval,iteOmega,toNatUp];refine sD (c3) ?_;exact a6
def bL:Nat→List (Nat×Nat)
  | 0=>[(100,101)]
  | k+1=>((200+k,300+k)::bL k).take 8
theorem fi:∀ k,k<12→(bL k).length≤8∧(cY (bL k) (200+k)).isSome=false∧(cY (bL k) 900).isSome=false∧cY (bL k) 100=if k<8 then some (100,101) else none:=by decide +kernel
def gx:List C:=[.d (.bool false),.d (.bool true),.d (.int .u64 0),.d (.int .i64 0),.d (.int .i64 0),.d (.int .i64 9),.d (.int .u64 100),.d (.int .u64 5)]
def kb (t n k:Nat):St:=⟨dw [(1,.w (.c (.d (.int .u64 (t:Int))))),(5,.w (.c (.d (.int .i64 (n:Int))))),(6,.w (.c (.ptr 48 1 0 0))),(9,.w (.c (.d (.sl ((bL k).map bp))))),(15,.w (.c (.d (.int .i64 (k:Int)))))],hL [(48,.box gx)],uL [48]⟩
def iN:aK := .seq (ak [oM 60 15,oM 61 5,eQ .lss 62 60 61] (bc 62 .skip (.exit 0))) (.seq (.block 1 (ak [oM 66 9,oM 67 1,fD 68 15 67,oM 69 15,oO 70 (.bin .add (kI 200) (.t 69)),oO 71 (.conv .u64 (.t 70)),oM 72 15,oO 73 (.bin .add (kI 300) (.t 72)),oO 74 (.conv .u64 (.t 73)),oO 75 (.call 11 [(.t 66),(.t 68),(kI 2),(.t 71),(.t 74)] none),oM 65 75,aU 76 65 0,aU 77 65 1,aU 78 65 2,aU 79 65 3,oO 17 (.alloc [aa,aa,aa,aa,aa,aa,az,az,az,af,af,af,af]),oM 16 76,aH 13 17 77,oM 18 78,oM 19 79] (.seq (ak [oM 80 19,ct .neq 81 80 0,oM 82 81,cj 83 18 82 false,dk 84 82 83,oM 85 84,cj 86 16 85 false,kf 87 86 85 false,dU .gtr 88 87 8 85 false,dk 89 85 88] (bc 89 (ak [bW 4 false] .ret) .skip)) (.reg [oM 90 16,oM 9 90])))) (.reg [oM 63 15,ct .add 64 63 1,oM 15 64]))
def mD:bF:=⟨2,142,ak [bW 4 false] (ak [oM 27 0,oO 28 (.bin .rem (.t 27) (.k (.c (.d (.int .u8 12))))),oO 29 (.conv .i64 (.t 28)),oM 5 29] (ak [oO 31 (.build [aN,aN,af,aa,aa,aa,af,af] []),oO 32 (.call 9 [(.t 31),(.k (.c (.d (.int .u64 5)))),(kI 0)] none),oM 30 32,aU 33 30 0,aU 34 30 1,aU 35 30 2,oO 6 (.alloc [aN,aN,af,aa,aa,aa,af,af]),oO 7 (.alloc [aa,aa,aa,aa,aa,aa,az,az,az,af,af,af,af]),aH 8 6 33,aH 13 7 34,oM 8 35] (ak [cb 37 13 7,oO 38 (.call 11 [(.k (.c .nil)),(.t 37),(kI 2),(.k (.c (.d (.int .u64 100)))),(.k (.c (.d (.int .u64 101))))] none),oM 36 38,aU 39 36 0,aU 40 36 1,aU 41 36 2,aU 42 36 3,oO 10 (.alloc [aa,aa,aa,aa,aa,aa,az,az,az,af,af,af,af]),oM 9 39,aH 13 10 40,oM 11 41,oM 12 42] (ak [cb 44 8 6,cb 45 13 10,oO 46 (.call 12 [(.t 44),(.t 45),(kI 9)] none),
 oM 43 46,aU 47 43 0,aU 48 43 1,aU 49 43 2,oO 13 (.alloc [aa,aa,af,af,aN]),aH 8 6 47,aH 5 13 48,oM 14 49] (.seq (ak [oM 50 8,ct .neq 51 50 0,oM 52 51,cj 53 12 52 false,dU .neq 54 53 0 52 false,dk 55 52 54,oM 56 55,cj 57 14 56 false,dU .neq 58 57 0 56 false,dk 59 56 58] (bc 59 (ak [bW 4 false] .ret) .skip)) (.seq (ak [a5 15 0] (.block 0 (.loop iN))) (ak [cb 92 8 6,oO 93 (.call 9 [(.t 92),(.k (.c (.d (.int .u64 6)))),(kI 10)] none),oM 91 93,aU 94 91 0,aU 95 91 1,aU 96 91 2,oO 20 (.alloc [aN,aN,af,aa,aa,aa,af,af]),oO 21 (.alloc [aa,aa,aa,aa,aa,aa,az,az,az,af,af,af,af]),aH 8 20 94,aH 13 21 95,oM 22 96] (ak [oM 98 9,cb 99 13 21,oO 100 (.call 11 [(.t 98),(.t 99),(kI 2),(.k (.c (.d (.int .u64 900)))),(.k (.c (.d (.int .u64 901))))] none),
 oM 97 100,aU 101 97 0,aU 102 97 1,aU 103 97 2,aU 104 97 3,oO 24 (.alloc [aa,aa,aa,aa,aa,aa,az,az,az,af,af,af,af]),oM 23 101,aH 13 24 102,oM 25 103,oM 26 104] (.seq (ak [oM 105 22,ct .neq 106 105 0,oM 107 106,cj 108 26 107 false,dU .neq 109 108 0 107 false,dk 110 107 109] (bc 110 (ak [bW 4 false] .ret) .skip)) (.seq (ak [oM 111 5,ct .lss 112 111 8] (bc 112 (ak [oO 113 (.call 13 [] none),oM 114 113,cj 115 25 114 true,cu 116 114 115,oM 117 116,cK 118 12 24 117 true,cJ 119 118 117 true,oG 120 (.bin .eql (.t 119) (.k (.c (.d (.int .u64 101))))) 117 true,cu 121 117 120,oM 122 121,cK 123 10 24 122 true,cJ 124 123 122 true,oG 125 (.bin .eql (.t 124) (.k (.c (.d (.int .u64 5))))) 122 true,cu 126 122 125,oM 4 126] .ret) .skip)) (ak [oO 127 (.call 13 [] none),oM 128 127,
 cj 129 25 128 true,eR 130 129 128 true,cu 131 128 130,oM 132 131,cK 133 12 24 132 true,cJ 134 133 132 true,oG 135 (.bin .eql (.t 134) (.k (.c (.d (.int .u64 901))))) 132 true,cu 136 132 135,oM 137 136,cK 138 10 24 137 true,cJ 139 138 137 true,oG 140 (.bin .eql (.t 139) (.k (.c (.d (.int .u64 6))))) 137 true,cu 141 137 140,oM 4 141] .ret))))))))))),[(4,none)]⟩
theorem wd:bq Try.prog {} Try.f6=some mD:=by kernel_rfl
set_option maxHeartbeats 1600000 in
theorem w6 (G:au) (bt:UInt8) (transmit:Nat) (htransmit:transmit<18446744073709551616) :a7 Try.prog G 6 [bD bt,.int .u64 (transmit:Int)] (.w (.c (.d (.bool true)))):=by
  refine b8 Try.func6 wd rfl rfl ?_;have hb:=bt.toNat_lt;have c1:=jT G .z 5 0;rw[show gv .z 5 0=⟨true,false,5,0,0,0,0,0⟩ from rfl,show gw .z 5 0=bf 5 from rfl,show em .z 5 0=0 from rfl] at c1;have c2:=ia G [] (by decide) (bf 5) 2 100 101;rw[show fI [] (bf 5) 2 100 101=bL 0 from rfl,show fH [] (bf 5) 2 100 101=⟨0,4,4,2,6,-20,0,0,0,0,5,100,101⟩ from rfl,show en [] (bf 5) 2 100=false from rfl,show dm [] (bf 5) 2 100=0 from rfl] at c2;have c3:=tN G ⟨true,false,5,0,0,0,0,0⟩ ⟨0,4,4,2,6,-20,0,0,0,0,5,100,101⟩ 9;rw[show iE ⟨true,false,5,0,0,0,0,0⟩ ⟨0,4,4,2,6,-20,0,0,0,0,5,100,101⟩ 9=⟨false,true,0,0,0,9,100,5⟩ from rfl,show iD ⟨true,false,5,0,0,0,0,0⟩ ⟨0,4,4,2,6,-20,0,0,0,0,5,100,101⟩ 9=⟨0,9,100,101,false⟩ from rfl,show eU ⟨true,false,5,0,0,0,0,0⟩ ⟨0,4,4,2,6,-20,0,0,0,0,5,100,101⟩ 9=0 from rfl] at c3;have c4:=jT G ⟨false,true,0,0,0,9,100,5⟩ 6 10;rw[show gv ⟨false,true,0,0,0,9,100,5⟩ 6 10=⟨true,true,6,10,0,9,100,5⟩ from rfl,show gw ⟨false,true,0,0,0,9,100,5⟩ 6 10=⟨0,4,3,0,6,0,0,0,0,0,100,5,6⟩ from rfl,show em ⟨false,true,0,0,0,9,100,5⟩ 6 10=0 from rfl] at c4;have ck:=wc G;have cq:=yE G transmit;obtain⟨n,hn⟩:∃ n,bt.toNat%12=n:=⟨_,rfl⟩
  have hn12:n<12:=by omega
  have ht:Int.tmod (bt.toNat:Int) 12=(n:Int):=by rw[← hn]; rfl
  have c5:∀ k,k<12→∃ H,a7 Try.prog G 11 [.sl ((bL k).map bp),aP (bf transmit),.int .i64 2,.int .u64 (200+(k:Int)),.int .u64 (300+(k:Int))]
      (.tup [.c (.d (.sl ((bL (k+1)).map bp))),.c (.d (aP H)),.c (.d (.bool false)),.c (.d (.int .i64 0))]):=by
    intro k hk;obtain⟨f1,f2,f3,f4⟩:=fi k hk;have c:=ia G (bL k) (by omega) (bf transmit) 2 (200+k) (300+k);have rE:cH (bf transmit) 2=0:=s4 (Int.le_refl 0) (show (0:Int)≤3 by decide) rfl rfl rfl rfl rfl (by decide) (by decide);have vE:dm (bL k) (bf transmit) 2 (200+k)=0:=by unfold dm; rw[if_pos rE,if_pos f1,f2]; rfl
    rw[vE,show fI (bL k) (bf transmit) 2 (200+k) (300+k)=bL (k+1) by unfold fI; rw[if_pos vE]; rfl,show en (bL k) (bf transmit) 2 (200+k)=false by unfold en; rw[if_pos vE]; rfl] at c;exact⟨_,c⟩
  have c6:=ia G (bL n) (by have:=(fi n hn12).1; omega) ⟨0,4,3,0,6,0,0,0,0,0,100,5,6⟩ 2 900 901;have rE:cH ⟨0,4,3,0,6,0,0,0,0,0,100,5,6⟩ 2=0:=s4 (Int.le_refl 0) (show (0:Int)≤3 by decide) rfl rfl rfl rfl rfl (by decide) (by decide);have vE:dm (bL n) ⟨0,4,3,0,6,0,0,0,0,0,100,5,6⟩ 2 900=0:=by unfold dm; rw[if_pos rE,if_pos (fi n hn12).1,(fi n hn12).2.2.1]; rfl
  have vA:dB (bL n) ⟨0,4,3,0,6,0,0,0,0,0,100,5,6⟩=if n<8 then some (100,101) else none:=by unfold dB; rw[if_neg (by decide)]; exact (fi n hn12).2.2.2
  rw[vE,show en (bL n) ⟨0,4,3,0,6,0,0,0,0,0,100,5,6⟩ 2 900=(dB (bL n) ⟨0,4,3,0,6,0,0,0,0,0,100,5,6⟩).isSome by unfold en; rw[if_pos vE],show fH (bL n) ⟨0,4,3,0,6,0,0,0,0,0,100,5,6⟩ 2 900 901=eT ⟨0,4,3,0,6,0,0,0,0,0,100,5,6⟩ 2 900 901 (dB (bL n) ⟨0,4,3,0,6,0,0,0,0,0,100,5,6⟩) by unfold fH; rw[if_pos vE],vA] at c6;clear vA vE rE;have hL8:=fun k hk=>(fi k hk).1
  unfold be.z at *
  unfold bZ at *
  unfold dj at *
  unfold aP bf at *
  simp only[mD,aD,bD,ap,am,seval,iteOmega,toNatUp,ht];refine sD (c1) ?_;refine sD (c2) ?_;refine sD (c3) ?_;refine p6 (kb transmit n) (fun k=>n-k) (fun k=>k≤n) 0 (z0 _) ?_ ?_
  ·refine hX (fun i=>i) ?_ ?_ rfl rfl <;> simp only[gx,wx,iB,iC,am,seval,iteOmega,toNatUp] <;> first | rfl | exact⟨rfl,rfl⟩ | skip
  ·intro k hk;by_cases hlt:k<n
   ·obtain⟨H,c5⟩:=c5 k (by omega);have h8:=hL8 (k+1);have h8:k+1<12→(bL (k+1)).length≤8:=h8;have h9:=eq_false (show ¬ ((bL (k+1)).length:Int)>8 by have:=h8 (by omega); omega);simp only[iN,kb,gx,ap,am,seval,iteOmega,toNatUp];refine sD (cq) ?_;refine sC (c5) ?_;simp only[h9,ap,am,seval,iteOmega,toNatUp];refine nX (k+1) (by omega) (by omega) (hX (fun i=>i) ?_ ?_ rfl rfl) <;> simp only[gx,wx,iB,iC,am,seval,iteOmega,toNatUp] <;> first | rfl | exact⟨rfl,rfl⟩ | skip
   ·obtain rfl:k=n:=by omega
    clear c5 hL8;simp only[iN,kb,gx,ap,am,seval,iteOmega,toNatUp];refine sD (c4) ?_;by_cases h8:k<8
    ·rw[if_pos h8] at c6;simp only[eT,Option.isSome_some] at c6;refine sD (c6) ?_;refine sD (ck) ?_;exact a6
    ·rw[if_neg h8] at c6;simp only[eT,Option.isSome_none] at c6;refine sD (c6) ?_;refine sD (ck) ?_;exact a6
end Go.Proofs.Yteohdchecapkfaa
