/- Texts of one's own, merged: from: Layer 24 as functions of numbers: interleaved mode. Pure. Own work. -/
import Derived.Test.YteohdchecapkfaaMg312
import Derived.Test.YteohdchecapkfaaMg313
import Derived.Test.YteohdchecapkfaaMg37
import Derived.Shelf.Abstract
import Derived.Test.YteohdchecapkfaaMg38
import Derived.Test.YteohdchecapkfaaMg39
set_option linter.unusedVariables false
set_option linter.unusedSimpArgs false
namespace Go.Proofs.Yteohdchecapkfaa
open Go.RowKit
structure bn where
  op:Bool
  kn:Bool
  tr:Nat
  sk:Int
  sn:Int
  gt:Int
  rc:Nat
  mr:Nat
def bn.z:bn:=⟨false,false,0,0,0,0,0,0⟩
def b8 (i:bn):D:=.agg [.bool i.op,.bool i.kn,.int .u64 (i.tr:Int),.int .i64 i.sk,.int .i64 i.sn,.int .i64 i.gt,.int .u64 (i.rc:Int),.int .u64 (i.mr:Int)]
structure dG where
  t1:Int
  t4:Int
  t2:Nat
  t3:Nat
  il:Bool
def dG.z:dG:=⟨0,0,0,0,false⟩
def dB (r:dG):D:=.agg [.int .i64 r.t1,.int .i64 r.t4,.int .u64 (r.t2:Int),.int .u64 (r.t3:Int),.bool r.il]
def bL (p:Nat×Nat):D:=.agg [.int .u64 (p.1:Int),.int .u64 (p.2:Int)]
def eE (i:bn) (t:Nat) (a:Int):Int:=if dW a=true then (if t=0∨(i.kn=true∧t=i.mr) then 3 else 0) else 4
def kR (i:bn) (t:Nat) (a:Int):bn:=if eE i t a=0 then ⟨true,i.kn,t,a,i.sn,i.gt,i.rc,i.mr⟩ else .z
def gD (i:bn) (t:Nat) (a:Int):Hd:=if eE i t a=0 then (if i.kn=true then ⟨0,4,3,0,6,0,0,0,0,0,i.rc,i.mr,t⟩ else bI t) else Hd.z
def d9 (m:List (Nat×Nat)) (x:Nat):Option (Nat×Nat):=m.find? fun p=>p.1==x
def fL (m:List (Nat×Nat)) (q:Hd) (st:Int) (rc:Nat):Int:=if dA q st=0 then (if m.length≤8 then (if (d9 m rc).isSome=true then 27 else 0) else 8) else dA q st
def fM (m:List (Nat×Nat)) (q:Hd):Option (Nat×Nat):=if q.og=0 then none else d9 m q.og
def iP (q:Hd) (st:Int) (rc tr:Nat):Option (Nat×Nat)→Hd
  | some p=>⟨0,q.vr,4,st,q.pl,-20,0,0,0,0,q.rc,rc,p.2⟩
  | none=>⟨0,q.vr,4,st,q.pl,-20,0,0,0,0,q.tr,rc,tr⟩
def kS (m:List (Nat×Nat)) (q:Hd) (st:Int) (rc tr:Nat):Hd:=if fL m q st rc=0 then iP q st rc tr (fM m q) else Hd.z
def kT (m:List (Nat×Nat)) (q:Hd) (st:Int) (rc:Nat):Bool:=if fL m q st rc=0 then (fM m q).isSome else false
def kU (m:List (Nat×Nat)) (q:Hd) (st:Int) (rc tr:Nat):List (Nat×Nat):=if fL m q st rc=0 then ((rc,tr)::m).take 8 else []
def fN (i:bn) (h:Hd) (a:Int):Int:=if i.op=true then (if dW a=true then (if a<i.sk then 12 else if h.md=4 then (if h.og=i.tr then 0 else if i.kn=true∧h.og=i.mr then 0 else 23) else 3) else 4) else 7
def kV (i:bn) (h:Hd) (a:Int):dG:=if fN i h a=0 then (if h.og=i.tr then ⟨i.sk,a,h.rc,h.tr,false⟩ else ⟨i.sn,i.gt,i.rc,h.tr,true⟩) else .z
def kW (i:bn) (h:Hd) (a:Int):bn:=if fN i h a=0 then ⟨false,true,0,0,i.sk,a,h.rc,i.tr⟩ else .z
theorem xR {m:List (Nat×Nat)} {x:Nat}:d9 m x=none↔∀ p∈m,p.1≠x:=by
  unfold d9;rw[List.find?_eq_none];simp
open IntWalk
set_option maxHeartbeats 3200000
def fm:bd:=⟨3,46,ak [oO 3 (.box .ownBox (.t 0)),oO 6 (.alloc [aY,aY,ah,ab,ab,ab,ah,ah]),oO 7 (.alloc [ab,ab,ab,ab,ab,ab,aC,aC,aC,ah,ah,ah,ah]),aX 8 0] (.seq (ak [oM 10 2,eB 11 19 10,ez 12 11] (bc 12 (ak [oO 13 (.build [aY,aY,ah,ab,ab,ab,ah,ah] []),oO 14 (.build [ab,ab,ab,ab,ab,ab,aC,aC,aC,ah,ah,ah,ah] []),aV 8 6 13,aV 13 7 14,aX 8 4] .ret) .skip)) (.seq (ak [oM 15 1,oO 16 (.bin .eql (.t 15) (.k (.c ah))),oM 17 16,bV 18 1 3 17 false,bU 19 18 17 false,cA 20 19 17 false,cA 21 1 20 true,bV 22 7 3 20 true,bU 23 22 20 true,iH .eql 24 21 23 20 true,oG 25 (.pick (.t 20) (.t 24) (.k (.c aY))) 17 false,cq 26 17 25] (bc 26 (ak [oO 27 (.build [aY,aY,ah,ab,ab,ab,ah,ah] []),oO 28 (.build [ab,ab,ab,ab,ab,ab,aC,aC,aC,ah,ah,ah,ah] []),
 aV 8 6 27,aV 13 7 28,aX 8 3] .ret) .skip)) (ak [oM 29 1,eB 30 20 29,oO 9 (.alloc [ab,ab,ab,ab,ab,ab,aC,aC,aC,ah,ah,ah,ah]),aV 13 9 30] (.seq (ak [aE 31 1 3,aP 32 31] (bc 32 (.reg [aE 33 6 3,oO 34 (.loadX .sc (.t 33) [(.t 9)]),aE 35 7 3,oO 36 (.loadX .sc (.t 35) [(.t 9)]),aE 37 10 9,oN (.storeX .sc (.t 37) (.t 34) (.t 9)),aE 38 11 9,oN (.storeX .sc (.t 38) (.t 36) (.t 9))]) .skip)) (ak [oM 39 1,oM 40 2,aE 41 0 3,oN (.store .sc (.t 41) (.k (.c (.d (.bool true))))),aE 42 2 3,fF 42 39,aE 43 3 3,fF 43 40] (ak [oO 44 (.loadX (.ag 8) (.t 3) [(.t 6),(.t 7)]),oO 45 (.loadX (.ag 13) (.t 9) [(.t 6),(.t 7)]),aV 8 6 44,aV 13 7 45,aX 8 0] .ret)))))),[(6,(some (.ag 8))),(7,(some (.ag 13))),(8,none)]⟩
theorem zr:a7 Try.prog { own:=[3],lx:=[(34,[9]),(36,[9]),(37,[9]),(38,[9]),(44,[6,7]),(45,[6,7])] } Try.f9=some fm:=by kernel_rfl
theorem uD (G:ap) (i:bn) (t:Nat) (a:Int):aW Try.prog G 9 [b8 i,.int .u64 (t:Int),.int .i64 a] (.tup [.c (.d (b8 (kR i t a))),.c (.d (aK (gD i t a))),.c (.d (.int .i64 (eE i t a)))]):=by
  refine bB Try.func9 zr rfl rfl ?_;have c1:=uC G a;have c2:=zn G t;have he:eE i t a=if dW a=true then (if t=0∨(i.kn=true∧t=i.mr) then 3 else 0) else 4:=rfl
  unfold kR gD;obtain⟨op,kn,tr,sk,sn,gt,rc,mr⟩:=i;dsimp only at he ⊢;generalize eE ⟨op,kn,tr,sk,sn,gt,rc,mr⟩ t a=E at *
  cases hv:dW a
  ·rw[hv,if_neg (by decide:¬ false=true)] at he;rw[hv] at c1;rw[he,if_neg (by decide:¬ (4:Int)=0),if_neg (by decide:¬ (4:Int)=0)];unfold b8 bn.z aK Hd.z;simp only[fm,ar,am,ai,seval,iteOmega,toNatUp];refine sD (c1) ?_;exact eC
  ·rw[hv,if_pos rfl] at he;rw[hv] at c1;by_cases h0:t=0
   ·rw[if_pos (.inl h0)] at he;rw[he,if_neg (by decide:¬ (3:Int)=0),if_neg (by decide:¬ (3:Int)=0)];subst h0;unfold b8 bn.z aK Hd.z;simp only[fm,ar,am,ai,seval,iteOmega,toNatUp];refine sD (c1) ?_;exact eC
   ·cases kn
    ·rw[if_neg (by simp[h0])] at he;rw[he,if_pos rfl,if_pos rfl,if_neg (by decide:¬ false=true)];unfold b8 aK bI at *
     simp only[fm,ar,am,ai,seval,iteOmega,toNatUp];refine sD (c1) ?_;refine sD (c2) ?_;exact eC
    ·by_cases hm:t=mr
     ·rw[if_pos (.inr ⟨rfl,hm⟩)] at he;rw[he,if_neg (by decide:¬ (3:Int)=0),if_neg (by decide:¬ (3:Int)=0)];subst hm;unfold b8 bn.z aK Hd.z;simp only[fm,ar,am,ai,seval,iteOmega,toNatUp];refine sD (c1) ?_;exact eC
     ·rw[if_neg (by simp[h0,hm])] at he;rw[he,if_pos rfl,if_pos rfl,if_pos rfl];unfold b8 aK bI at *
      simp only[fm,ar,am,ai,seval,iteOmega,toNatUp];refine sD (c1) ?_;refine sD (c2) ?_;exact eC
def eZ (i:bn) (h:Hd) (a:Int):Int:=if i.op=true then (if dW a=true then (if a<i.sk then 12 else if h.md=4 then 0 else 3) else 4) else 7
def dX (i:bn) (h:Hd):Bool:=decide (h.og=i.tr) || (i.kn&&decide (h.og=i.mr))
def fC (i:bn) (h:Hd) (a:Int):dG:=if h.og=i.tr then ⟨i.sk,a,h.rc,h.tr,false⟩ else if i.kn=true∧h.og=i.mr then ⟨i.sn,i.gt,i.rc,h.tr,true⟩ else .z
def fg:bd:=⟨3,24,ak [cz 3 0,cz 4 1,aX 6 0] (.seq (.block 0 (ak [aE 8 0 3,aP 9 8,ez 10 9,oM 7 10] (bc 7 (ak [aX 6 7] .ret) (ak [oM 12 2,eB 13 19 12,ez 14 13,oM 11 14] (bc 11 (ak [aX 6 4] .ret) (ak [oM 16 2,aE 17 3 3,aP 18 17,dE .lss 19 16 18,oM 15 19] (bc 15 (ak [aX 6 12] .ret) (ak [aE 21 2 4,aP 22 21,ca .neq 23 22 4,oM 20 23] (bc 20 (ak [aX 6 3] .ret) .skip))))))))) (ak [aX 6 0] .ret)),[(6,none)]⟩
theorem yK:a7 Try.prog {} Try.f24=some fg:=by kernel_rfl
theorem zs (G:ap) (i:bn) (h:Hd) (a:Int):aW Try.prog G 24 [b8 i,aK h,.int .i64 a] (.w (.c (.d (.int .i64 (eZ i h a))))):=by
  refine bB Try.func24 yK rfl rfl ?_;have c1:=uC G a;obtain⟨op,kn,tr,sk,sn,gt,rc,mr⟩:=i;obtain⟨lp,vr,md,st,pl,pr,rd,rp,ri,rf,og,hrc,htr⟩:=h;unfold eZ b8 aK;dsimp only;cases op
  ·simp only[fg,ar,am,ai,seval,iteOmega,toNatUp];exact aF
  ·cases hv:dW a
   ·rw[hv] at c1;simp only[fg,ar,am,ai,seval,iteOmega,toNatUp];refine sD (c1) ?_;exact aF
   ·rw[hv] at c1;by_cases h1:a<sk
    ·simp only[fg,ar,am,ai,seval,iteOmega,toNatUp];refine sD (c1) ?_;exact aF
    ·by_cases h2:md=4
     ·subst h2;simp only[fg,ar,am,ai,seval,iteOmega,toNatUp];refine sD (c1) ?_;exact aF
     ·simp only[fg,ar,am,ai,seval,iteOmega,toNatUp];refine sD (c1) ?_;exact aF
def gi:bd:=⟨3,42,ak [cz 3 0,cz 4 1,oO 6 (.alloc [ab,ab,ah,ah,aY]),ce 7 false] (.seq (.block 0 (ak [aE 9 10 4,aP 10 9,aE 11 2 3,aP 12 11,dE .eql 13 10 12,oM 8 13] (bc 8 (ak [aE 14 3 3,aP 15 14,aE 16 11 4,aP 17 16,aE 18 12 4,aP 19 18,oM 20 2,oO 21 (.build [ab,ab,ah,ah,aY] [(0,1,(.t 15)),(2,1,(.t 17)),(3,1,(.t 19)),(1,1,(.t 20))]),aV 5 6 21,ce 7 true] .ret) (ak [aE 23 1 3,aP 24 23,oM 25 24,bV 26 10 4 25 true,bU 27 26 25 true,bV 28 7 3 25 true,bU 29 28 25 true,iH .eql 30 27 29 25 true,cT 31 25 30,oM 22 31] (bc 22 (ak [aE 32 4 3,aP 33 32,aE 34 6 3,aP 35 34,aE 36 12 4,aP 37 36,aE 38 5 3,aP 39 38,oO 40 (.build [ab,ab,ah,ah,aY] [(0,1,(.t 33)),(2,1,(.t 35)),(3,1,(.t 37)),(1,1,(.t 39)),(4,1,(.k (.c (.d (.bool true)))))]),aV 5 6 40,ce 7 true]
 .ret) .skip))))) (ak [oO 41 (.build [ab,ab,ah,ah,aY] []),aV 5 6 41,ce 7 false] .ret)),[(6,(some (.ag 5))),(7,none)]⟩
theorem yL:a7 Try.prog {} Try.f25=some gi:=by kernel_rfl
theorem zt (G:ap) (i:bn) (h:Hd) (a:Int):aW Try.prog G 25 [b8 i,aK h,.int .i64 a] (.tup [.c (.d (dB (fC i h a))),.c (.d (.bool (dX i h)))]):=by
  refine bB Try.func25 yL rfl rfl ?_;obtain⟨op,kn,tr,sk,sn,gt,rc,mr⟩:=i;obtain⟨lp,vr,md,st,pl,pr,rd,rp,ri,rf,og,hrc,htr⟩:=h;unfold fC dX b8 aK;dsimp only;by_cases h1:og=tr
  ·subst h1;rw[if_pos rfl,decide_eq_true rfl,Bool.true_or];unfold dB;simp only[gi,ar,am,ai,seval,iteOmega,toNatUp];exact d8
  ·rw[if_neg h1,decide_eq_false h1,Bool.false_or];cases kn
   ·rw[if_neg (by simp),Bool.false_and];unfold dB dG.z;simp only[gi,ar,am,ai,seval,iteOmega,toNatUp];exact d8
   ·rw[Bool.true_and];by_cases h2:og=mr
    ·subst h2;rw[if_pos ⟨rfl,rfl⟩,decide_eq_true rfl];unfold dB;simp only[gi,ar,am,ai,seval,iteOmega,toNatUp];exact d8
    ·rw[if_neg (fun h=>h2 h.2),decide_eq_false h2];unfold dB dG.z;simp only[gi,ar,am,ai,seval,iteOmega,toNatUp];exact d8
theorem tT {i:bn} {h:Hd} (e:dX i h=true):h.og=i.tr∨(i.kn=true∧h.og=i.mr):=by
  unfold dX at e
  simpa using e
theorem zu {i:bn} {h:Hd} (e:dX i h=false):¬ h.og=i.tr∧¬ (i.kn=true∧h.og=i.mr):=by
  unfold dX at e
  simpa using e
theorem zw (i:bn) (h:Hd) (a:Int):fN i h a=if eZ i h a=0 then (if dX i h=true then 0 else 23) else eZ i h a:=by
  unfold fN eZ;cases hb:dX i h
  ·obtain⟨h1,h2⟩:=zu hb;rw[if_neg h1,if_neg h2,if_neg (by decide:¬ false=true)];split
   ·split
    ·split
     ·rfl
     ·split <;> rfl
    ·rfl
   ·rfl
  ·have h1:(if h.og=i.tr then (0:Int) else if i.kn=true∧h.og=i.mr then 0 else 23)=0:=by
     rcases tT hb with h1 | h1
     ·rw[if_pos h1]
     ·rw[if_pos h1];split <;> rfl
   rw[h1,if_pos rfl];split
   ·split
    ·split
     ·rfl
     ·split <;> rfl
    ·rfl
   ·rfl
def ii:bd:=⟨3,41,ak [cz 3 0,cz 4 1,oO 6 (.alloc [aY,aY,ah,ab,ab,ab,ah,ah]),oO 7 (.alloc [ab,ab,ah,ah,aY]),aX 8 0] (.seq (ak [cy 12 8 3,cy 13 13 4,oM 14 2,iI 15 24 12 13 14,oM 9 15] (ak [oM 16 9,ca .neq 17 16 0] (bc 17 (ak [oO 18 (.build [aY,aY,ah,ab,ab,ab,ah,ah] []),oO 19 (.build [ab,ab,ah,ah,aY] []),oM 20 9,aV 8 6 18,aV 5 7 19,oM 8 20] .ret) .skip))) (ak [cy 22 8 3,cy 23 13 4,oM 24 2,iI 25 25 22 23 24,oM 21 25,bQ 26 21 0,bQ 27 21 1,oO 10 (.alloc [ab,ab,ah,ah,aY]),aV 5 10 26,oM 11 27] (.seq (ak [oM 28 11,ez 29 28] (bc 29 (ak [oO 30 (.build [aY,aY,ah,ab,ab,ab,ah,ah] []),oO 31 (.build [ab,ab,ah,ah,aY] []),aV 8 6 30,aV 5 7 31,aX 8 23] .ret) .skip)) (ak [aE 32 3 3,oO 33 (.loadX .sc (.t 32) []),oM 34 2,aE 35 11 4,oO 36 (.loadX .sc (.t 35) []),
 aE 37 2 3,oO 38 (.loadX .sc (.t 37) []),oO 39 (.build [aY,aY,ah,ab,ab,ab,ah,ah] [(1,1,(.k (.c (.d (.bool true))))),(4,1,(.t 33)),(5,1,(.t 34)),(6,1,(.t 36)),(7,1,(.t 38))]),oO 40 (.loadX (.ag 5) (.t 10) [(.t 6),(.t 7)]),aV 8 6 39,aV 5 7 40,aX 8 0] .ret)))),[(6,(some (.ag 8))),(7,(some (.ag 5))),(8,none)]⟩
theorem zx:a7 Try.prog { lx:=[(33,[]),(36,[]),(38,[]),(40,[6,7])] } Try.f12=some ii:=by kernel_rfl
theorem zN (G:ap) (i:bn) (h:Hd) (a:Int):aW Try.prog G 12 [b8 i,aK h,.int .i64 a] (.tup [.c (.d (b8 (kW i h a))),.c (.d (dB (kV i h a))),.c (.d (.int .i64 (fN i h a)))]):=by
  refine bB Try.func12 zx rfl rfl ?_;have c1:=zs G i h a;have c2:=zt G i h a;unfold kW kV;have he:=zw i h a;by_cases h0:eZ i h a=0
  ·rw[if_pos h0] at he;rw[h0] at c1;cases hb:dX i h
   ·rw[hb,if_neg (by decide:¬ false=true)] at he;rw[hb] at c2;rw[he,if_neg (by decide:¬ (23:Int)=0),if_neg (by decide:¬ (23:Int)=0)];clear he hb h0;generalize fC i h a=R at *
    obtain⟨op,kn,tr,sk,sn,gt,rc,mr⟩:=i;obtain⟨lp,vr,md,st,pl,pr,rd,rp,ri,rf,og,hrc,htr⟩:=h;unfold b8 aK dB bn.z dG.z at *
    simp only[ii,ar,am,ai,seval,iteOmega,toNatUp];refine sD (c1) ?_;refine sD (c2) ?_;exact eC
   ·rw[hb,if_pos rfl] at he;rw[hb] at c2;rw[he,if_pos rfl,if_pos rfl];have hR:(if h.og=i.tr then (⟨i.sk,a,h.rc,h.tr,false⟩:dG) else ⟨i.sn,i.gt,i.rc,h.tr,true⟩)=fC i h a:=by
      unfold fC;by_cases h1:h.og=i.tr
      ·rw[if_pos h1,if_pos h1]
      ·rw[if_neg h1,if_neg h1,if_pos ((tT hb).resolve_left h1)]
    rw[hR];clear he hb h0 hR;generalize fC i h a=R at *
    obtain⟨op,kn,tr,sk,sn,gt,rc,mr⟩:=i;obtain⟨lp,vr,md,st,pl,pr,rd,rp,ri,rf,og,hrc,htr⟩:=h;unfold b8 aK dB at *
    simp only[ii,ar,am,ai,seval,iteOmega,toNatUp];refine sD (c1) ?_;refine sD (c2) ?_;exact eC
  ·rw[if_neg h0] at he;rw[he,if_neg h0,if_neg h0];clear he;generalize eZ i h a=E at *
   obtain⟨op,kn,tr,sk,sn,gt,rc,mr⟩:=i;obtain⟨lp,vr,md,st,pl,pr,rd,rp,ri,rf,og,hrc,htr⟩:=h;unfold b8 aK dB bn.z dG.z at *
   simp only[ii,ar,am,ai,seval,iteOmega,toNatUp];refine sD (c1) ?_;exact eC
def ea (m:List (Nat×Nat)) (x:Nat):Int:=match m.findIdx? fun p=>p.1==x with | some i=>(i:Int) | none=>-1
theorem u1 {m:List (Nat×Nat)} {i:Nat} (h:i<m.length):m[i]?=some (m.getD i (0,0)):=by
  rw[Ay,z4 h]; rfl
theorem yM {m:List (Nat×Nat)} {x i:Nat} (h:i<m.length) (he:(m.getD i (0,0)).1=x) (hn:∀ j,j<i→(m.getD j (0,0)).1≠x):ea m x=(i:Int):=by
  have:(m.findIdx? fun p=>p.1==x)=some i:=by
    rw[List.findIdx?_eq_some_iff_getElem];have e:∀ k (hk:k<m.length),m[k]=m.getD k (0,0):=fun k hk=>by rw[Ay,z4 hk]; rfl
    refine⟨h,by rw[e i h]; simpa using he,fun j hj=>?_⟩;rw[e j (by omega)]
    simpa using hn j hj
  unfold ea;rw[this]
theorem xS {m:List (Nat×Nat)} {x:Nat} (hn:∀ j,j<m.length→(m.getD j (0,0)).1≠x):ea m x=-1:=by
  have:(m.findIdx? fun p=>p.1==x)=none:=by
    rw[List.findIdx?_eq_none_iff];intro y hy;obtain⟨j,hj,rfl⟩:=Aw hy;have:=hn j hj;rw[Ay,z4 hj] at this
    simpa using this
  unfold ea;rw[this]
theorem uE (m:List (Nat×Nat)) (x:Nat):(ea m x=-1∧d9 m x=none)∨∃ i,i<m.length∧ea m x=(i:Int)∧d9 m x=some (m.getD i (0,0)):=by
  unfold ea;cases h:m.findIdx? fun p=>p.1==x with
  | none =>
    refine .inl ⟨rfl,?_⟩;rw[List.findIdx?_eq_none_iff] at h;rw[xR];intro p hp
    simpa using h p hp
  | some i =>
    obtain⟨h1,h2,h3⟩:=List.findIdx?_eq_some_iff_getElem.1 h;refine .inr ⟨i,h1,rfl,?_⟩;unfold d9;rw[List.find?_eq_some_iff_getElem];refine⟨?_,i,h1,?_,fun j hj=>?_⟩
    ·rw[Ay,z4 h1]; exact h2
    ·rw[Ay,z4 h1]; rfl
    ·simpa using h3 j hj
theorem gV (m:List (Nat×Nat)):bN 2 (m.map bL)=true:=by
  unfold bN;rw[Ai];intro x hx;obtain⟨p,_,rfl⟩:=Ae.1 hx;rfl
theorem yN (a b:Nat):List.foldl (fun x y:Int=>if y<x then y else x) (a:Int) [(b:Int)]=((min a b:Nat):Int):=by
  simp only[List.foldl_cons,List.foldl_nil];split <;> omega
def iG (m:List (Nat×Nat)) (g:Nat) (caps:List D) (i:Nat):St:=⟨dq [(0,.w (.c (.d (.sl (m.map bL))))),(1,.w (.c (.d (.fn g caps)))),(7,.w (.c (.d (.int .i64 (m.length:Int))))),(8,.w (.c (.d (.int .i64 (i:Int)))))],hL [],uL []⟩
def gW:aL := ak [dE .lss 9 8 7] (.seq (bc 9 .skip (.exit 0)) (.seq (.block 1 (ak [oM 10 8,oM 5 10] (ak [oM 11 1,oM 12 0,oM 13 5,gz 14 2 12 13,cy 15 2 14,gA 16 1000000007 11 15] (bc 16 (ak [oM 17 5,oM 4 17] .ret) .skip)))) (.reg [ca .add 18 8 1,oM 8 18])))
def tU:bd:=⟨2,19,ak [aX 4 0] (.seq (ak [oM 6 0,gy 7 6,aX 8 0] (.block 0 (.loop gW))) (ak [oO 4 (.mv (.k (.c (.d (.int .i64 (-1))))))] .ret)),[(4,none)]⟩
theorem zy:a7 Try.prog {} Try.f31=some tU:=by kernel_rfl
theorem zO (G:ap) (m:List (Nat×Nat)) (g:Nat) (caps:List D) (x:Nat) (hm:m.length≤9223372036854775807) (hp:∀ p:Nat×Nat,ix Try.prog G g caps [bL p] (.w (.c (.d (.bool (decide (p.1=x))))))):aW Try.prog G 31 [.sl (m.map bL),.fn g caps] (.w (.c (.d (.int .i64 (ea m x))))):=by
  refine bB Try.func31 zy rfl rfl ?_;simp only[tU,ar,am,ai,seval,iteOmega,toNatUp];refine jU (iG m g caps) (fun i=>m.length-i) (fun i=>i≤m.length∧∀ j,j<i→(m.getD j (0,0)).1≠x) 0 ⟨A9 _,fun j hj=>by omega⟩ ?_ ?_
  ·refine fv (fun i=>0) ?_ ?_ rfl rfl <;> simp only[wx,fJ,vj,ai,seval,iteOmega,toNatUp] <;> rfl
  ·rintro i ⟨hi,hn⟩;have haz:=gV m;by_cases hlt:i<m.length
   ·have g1:=u1 hlt;have hd:=hp (m.getD i (0,0));by_cases he:(m.getD i (0,0)).1=x
    ·rw[decide_eq_true he] at hd;rw[yM hlt he hn];simp only[gW,iG,am,ai,seval,iteOmega,toNatUp,gd,g1,haz];generalize m.getD i (0,0)=y at *
     refine ol hd (by simp only[am,ai,seval,iteOmega,toNatUp,bL]) (.inl rfl) ?_;simp only[am,ai,seval,iteOmega,toNatUp];exact aF
    ·rw[decide_eq_false he] at hd;have hn':∀ j,j<i+1→(m.getD j (0,0)).1≠x:=fun j hj=>by
       rcases AW j i with h | h
       ·exact hn j h
       ·obtain rfl:j=i:=by omega
        exact he
     simp only[gW,iG,am,ai,seval,iteOmega,toNatUp,gd,g1,haz];generalize m.getD i (0,0)=y at *
     refine ol hd (by simp only[am,ai,seval,iteOmega,toNatUp,bL]) (.inl rfl) ?_;simp only[am,ai,seval,iteOmega,toNatUp];refine jE (i+1) (by omega) ⟨by omega,hn'⟩ (fv (fun i=>0) ?_ ?_ rfl rfl) <;> simp only[wx,fJ,vj,ai,seval,iteOmega,toNatUp]
   ·rw[xS fun j hj=>hn j (by omega)];simp only[gW,iG,am,ai,seval,iteOmega,toNatUp];exact aF
def kf:bd:=⟨2,8,ak [cz 2 0,ce 3 false] (ak [aE 4 0 2,aP 5 4,aP 6 1,dE .eql 7 5 6,oM 3 7] .ret),[(3,none)]⟩
theorem zz:a7 Try.prog {} Try.f32=some kf:=by kernel_rfl
theorem zP (G:ap) (x:Nat) (p:Nat×Nat):ix Try.prog G 32 [.ref [.int .u64 (x:Int)]] [bL p] (.w (.c (.d (.bool (decide (p.1=x)))))):=by
  refine⟨enters_of Try.func32 (by kernel_rfl) rfl,?_⟩;refine w8 Try.func32 zz rfl rfl ?_;unfold bL;by_cases h:p.1=x
  ·rw[decide_eq_true h];simp only[kf,AZ,List.nil_append,z9,A2,D.up,ew,am,ai,seval,iteOmega,toNatUp,h];exact aF
  ·rw[decide_eq_false h];simp only[kf,AZ,List.nil_append,z9,A2,D.up,ew,am,ai,seval,iteOmega,toNatUp];exact aF
def tV:bd:=⟨2,8,ak [cz 3 1,aX 4 0] (ak [oM 5 0,oO 6 (.clos 32 [(.t 3)]),gA 7 31 5 6,oM 4 7] .ret),[(4,none)]⟩
theorem zA:a7 Try.prog {} Try.f22=some tV:=by kernel_rfl
theorem uF (G:ap) (m:List (Nat×Nat)) (x:Nat) (hm:m.length≤9223372036854775807):aW Try.prog G 22 [.sl (m.map bL),.int .u64 (x:Int)] (.w (.c (.d (.int .i64 (ea m x))))):=by
  refine bB Try.func22 zA rfl rfl ?_;have c1:=zO G m _ [.ref [.int .u64 (x:Int)]] x hm (zP G x);simp only[tV,ar,am,ai,seval,iteOmega,toNatUp];refine sD (c1) ?_;exact aF
def tW:bd:=⟨2,13,ak [cz 3 1,dn 4] (ak [cy 5 2 3,oO 6 (.bldSl true 1 2 (.agg [(.int .u64 0),(.int .u64 0)]) [(0,(.t 5))]),oM 7 0,oM 8 0,gy 9 8,oO 10 (.min [(.t 9),(kI 7)]),oO 11 (.slice 2 (.t 7) none (some (.t 10)) none),oO 12 (.app false 2 16 (.t 6) (.t 11)),oM 4 12] .ret),[(4,none)]⟩
theorem zB:a7 Try.prog { own:=[6] } Try.f23=some tW:=by kernel_rfl
theorem zQ (G:ap) (m:List (Nat×Nat)) (a b:Nat) (hm:m.length≤8):aW Try.prog G 23 [.sl (m.map bL),bL (a,b)] (.w (.c (.fr 2 ((((a,b)::m).take 8).map bL)))):=by
  refine bB Try.func23 zB rfl rfl ?_;have haz:=gV (m.take 7);have haz2:=gV m;have e:((a,b)::m).take 8=(a,b)::m.take 7:=rfl;have hT:(m.map bL).take (min m.length 7)=(m.take 7).map bL:=by
    rw[← List.map_take,Nat.min_comm]
    congr 1
    rcases Nat.le_total m.length 7 with h | h
    ·rw[Nat.min_eq_right h,AM (Ac _),AM h]
    ·rw[Nat.min_eq_left h]
  obtain⟨n3,hn3⟩:∃ n3,n3=min m.length 7:=⟨_,rfl⟩
  have hmin:=yN m.length 7;rw[show ((7:Nat):Int)=7 from rfl] at hmin;rw[← hn3] at hT hmin;have h8:(m.take 7).length≤7:=by simp; omega
  have hL:(m.take 7).length=n3:=by rw[hn3,Aj,Nat.min_comm]
  have h3:n3≤m.length:=by omega
  rw[e];clear hn3 e;generalize m.take 7=M at *
  have hM:(M.map bL).length=n3:=by rw[Au,hL]
  have h0:(0:Nat)≤n3:=A9 _;simp only[tW,ar,am,ai,seval,iteOmega,toNatUp,hmin,hT,haz,haz2,cY,bL,h3,h0];exact jV (id:=96) (n:=M.length+1) (s:=2) (by simp only[am,ai,seval,iteOmega,toNatUp]) (by simp only[am,ai,seval,iteOmega,toNatUp]) (by simp)
def eQ:bd:=⟨5,66,ak [cz 6 1,dn 10,oO 11 (.alloc [ab,ab,ab,ab,ab,ab,aC,aC,aC,ah,ah,ah,ah]),ce 12 false,aX 13 0] (ak [cy 16 13 6,oM 17 2,oM 18 3,oM 19 4,u5 20 21 16 17 18 19,oM 15 20,bQ 21 15 0,bQ 22 15 1,aV 13 11 21,oM 13 22] (.seq (.block 0 (ak [oM 24 13,ca .neq 25 24 0,oM 23 25] (bc 23 (ak [oO 26 (.build [ab,ab,ab,ab,ab,ab,aC,aC,aC,ah,ah,ah,ah] []),oM 27 13,dn 10,aV 13 11 26,ce 12 false,oM 13 27] .ret) (ak [oM 29 0,gy 30 29,ca .gtr 31 30 8,oM 28 31] (bc 28 (ak [oO 32 (.build [ab,ab,ab,ab,ab,ab,aC,aC,aC,ah,ah,ah,ah] []),dn 10,aV 13 11 32,ce 12 false,aX 13 8] .ret) (ak [oM 34 0,oM 35 3,gA 36 22 34 35,ca .geq 37 36 0,oM 33 37] (bc 33 (ak [oO 38 (.build [ab,ab,ab,ab,ab,ab,aC,aC,aC,ah,ah,ah,ah] []),dn 10,
 aV 13 11 38,ce 12 false,aX 13 27] .ret) .skip))))))) (.seq (ak [oM 39 0,aE 40 10 6,aP 41 40,gA 42 22 39 41,oM 14 42] (ak [oM 43 14,ca .geq 44 43 0,oM 45 44,bV 46 10 6 45 true,bU 47 46 45 true,oG 48 (.bin .neq (.t 47) (.k (.c ah))) 45 true,cT 49 45 48] (bc 49 (.reg [aE 50 11 6,oO 51 (.loadX .sc (.t 50) []),oM 52 0,oM 53 14,gz 54 2 52 53,aE 55 1 54,oO 56 (.loadX .sc (.t 55) []),aE 57 10 11,fF 57 51,aE 58 12 11,fF 58 56,ce 12 true]) .skip))) (ak [oM 59 0,oM 60 3,oM 61 4,oO 62 (.build [ah,ah] [(0,1,(.t 60)),(1,1,(.t 61))]),oO 63 (.call 23 [(.t 59),(.t 62)] (some (0,2))),cy 64 13 11,oM 65 12,oM 10 63,aV 13 11 64,oM 12 65,aX 13 0] .ret)))),[(10,none),(11,(some (.ag 13))),(12,none),(13,none)]⟩
theorem zD:a7 Try.prog { own:=[63],lx:=[(51,[]),(56,[])] } Try.f11=some eQ:=by kernel_rfl
theorem zR (G:ap) (m:List (Nat×Nat)) (hm:m.length≤9223372036854775807) (q:Hd) (st:Int) (rc tr:Nat):aW Try.prog G 11 [.sl (m.map bL),aK q,.int .i64 st,.int .u64 (rc:Int),.int .u64 (tr:Int)]
    (.tup [.c (.d (.sl ((kU m q st rc tr).map bL))),.c (.d (aK (kS m q st rc tr))),.c (.d (.bool (kT m q st rc))),.c (.d (.int .i64 (fL m q st rc)))]):=by
  refine bB Try.func11 zD rfl rfl ?_;have c1:=zo G q st rc tr;have c2:=uF G m rc hm;have he:fL m q st rc=if dA q st=0 then (if m.length≤8 then (if (d9 m rc).isSome=true then 27 else 0) else 8) else dA q st:=rfl
  unfold kU kS kT;by_cases h0:dA q st=0
  ·rw[if_pos h0] at he;rw[h0] at c1;have hR:iF q st rc tr=⟨0,q.vr,4,st,q.pl,-20,0,0,0,0,q.tr,rc,tr⟩:=if_pos h0;rw[hR] at c1;by_cases h8:m.length≤8
   ·rw[if_pos h8] at he;rcases uE m rc with ⟨i1,i2⟩ | ⟨i,i1,i2,i3⟩
    ·rw[i2,if_neg (by simp)] at he;rw[i1] at c2;rw[he,if_pos rfl,if_pos rfl,if_pos rfl];have c3:=uF G m q.og hm;have c4:=zQ G m rc tr h8;have eA:fM m q=if q.og=0 then none else d9 m q.og:=rfl
     have haz:=gV m;rcases uE m q.og with ⟨j1,j2⟩ | ⟨j,j1,j2,j3⟩
     ·have eN:fM m q=none:=by rw[eA,j2,ite_self]
      rw[j1] at c3;rw[eN];clear he i2 h0 hR eA eN j2;generalize ((rc,tr)::m).take 8=T at *
      unfold iP aK at *
      rw[Option.isSome_none];simp only[eQ,ar,am,ai,seval,iteOmega,toNatUp];refine sD (c1) ?_;refine sD (c2) ?_;refine sD (c3) ?_;refine hC c4 (by simp only[am,ai,seval,iteOmega,toNatUp,bL]) (.inl rfl) ?_;simp only[am,ai,seval,iteOmega,toNatUp];exact fK
     ·by_cases hg:q.og=0
      ·have eN:fM m q=none:=by rw[eA,if_pos hg]
       rw[j2] at c3;rw[eN];clear he i2 h0 hR eA eN j3;generalize ((rc,tr)::m).take 8=T at *
       unfold iP aK at *
       rw[Option.isSome_none];simp only[eQ,ar,am,ai,seval,iteOmega,toNatUp];refine sD (c1) ?_;refine sD (c2) ?_;refine sD (c3) ?_;refine hC c4 (by simp only[am,ai,seval,iteOmega,toNatUp,bL]) (.inl rfl) ?_;simp only[am,ai,seval,iteOmega,toNatUp];exact fK
      ·have eS:fM m q=some (m.getD j (0,0)):=by rw[eA,if_neg hg,j3]
       have g1:=u1 j1;rw[j2] at c3;rw[eS];clear he i2 h0 hR eA eS j3;generalize m.getD j (0,0)=x at *
       generalize ((rc,tr)::m).take 8=T at *
       unfold iP aK at *
       rw[Option.isSome_some];simp only[eQ,ar,am,ai,seval,iteOmega,toNatUp];refine sD (c1) ?_;refine sD (c2) ?_;refine sC (c3) ?_;simp only[gd,g1,haz,bL,am,ai,seval,iteOmega,toNatUp];refine hC c4 (by simp only[am,ai,seval,iteOmega,toNatUp,bL]) (.inl rfl) ?_;simp only[am,ai,seval,iteOmega,toNatUp];exact fK
    ·rw[i3,if_pos (by simp)] at he;rw[i2] at c2;rw[he,if_neg (by decide:¬ (27:Int)=0),if_neg (by decide:¬ (27:Int)=0),if_neg (by decide:¬ (27:Int)=0)];clear he i3 h0 hR;unfold aK Hd.z at *
     simp only[eQ,ar,am,ai,seval,iteOmega,toNatUp];refine sD (c1) ?_;refine sD (c2) ?_;exact fK
   ·rw[if_neg h8] at he;rw[he,if_neg (by decide:¬ (8:Int)=0),if_neg (by decide:¬ (8:Int)=0),if_neg (by decide:¬ (8:Int)=0)];clear he h0 hR;unfold aK Hd.z at *
    simp only[eQ,ar,am,ai,seval,iteOmega,toNatUp];refine sD (c1) ?_;exact fK
  ·rw[if_neg h0] at he;rw[he,if_neg h0,if_neg h0,if_neg h0];clear he;generalize iF q st rc tr=R at *
   generalize dA q st=E at *
   unfold aK Hd.z at *
   simp only[eQ,ar,am,ai,seval,iteOmega,toNatUp];refine sD (c1) ?_;exact fK
def lT:bd:=⟨0,55,ak [ce 0 false] (ak [oO 12 (.build [aY,aY,ah,ab,ab,ab,ah,ah] []),oO 13 (.call 9 [(.t 12),(.k (.c (.d (.int .u64 77)))),(kI 5)] none),oM 11 13,bQ 14 11 0,bQ 15 11 1,bQ 16 11 2,oO 1 (.alloc [aY,aY,ah,ab,ab,ab,ah,ah]),oO 2 (.alloc [ab,ab,ab,ab,ab,ab,aC,aC,aC,ah,ah,ah,ah]),aV 8 1 14,aV 13 2 15,oM 3 16] (ak [cy 18 13 2,oO 19 (.call 11 [(.k (.c .nil)),(.t 18),(kI 2),(.k (.c (.d (.int .u64 1000)))),(.k (.c (.d (.int .u64 1001))))] none),oM 17 19,bQ 20 17 0,bQ 21 17 1,bQ 22 17 2,bQ 23 17 3,oO 5 (.alloc [ab,ab,ab,ab,ab,ab,aC,aC,aC,ah,ah,ah,ah]),oM 4 20,aV 13 5 21,oM 6 22,oM 7 23] (ak [cy 25 8 1,cy 26 13 5,oO 27 (.call 12 [(.t 25),(.t 26),(kI 9)] none),oM 24 27,bQ 28 24 0,bQ 29 24 1,bQ 30 24 2,oO 8 (.alloc [aY,aY,ah,ab,ab,ab,ah,ah]),
 oO 9 (.alloc [ab,ab,ah,ah,aY]),aV 8 8 28,aV 5 9 29,oM 10 30] (ak [oM 31 3,ca .eql 32 31 0,oM 33 32,cA 34 7 33 true,cr .eql 35 34 0 33 true,cT 36 33 35,oM 37 36,cA 38 10 37 true,cr .eql 39 38 0 37 true,cT 40 37 39,oM 41 40,cA 42 6 41 true,fG 43 42 41 true,cT 44 41 43,oM 45 44,cA 46 4 45 true,u4 47 46 45 true,cr .eql 48 47 1 45 true,cT 49 45 48,oM 50 49,oG 51 (.load (.ag 5) (.t 9)) 50 true,oG 52 (.build [ab,ab,ah,ah,aY] [(0,1,(kI 5)),(1,1,(kI 9)),(2,1,(.k (.c (.d (.int .u64 1000))))),(3,1,(.k (.c (.d (.int .u64 1001)))))]) 50 true,oG 53 (.eqA false [0,0,0,0,1] (.t 51) (.t 52)) 50 true,cT 54 50 53,oM 0 54] .ret)))),[(0,none)]⟩
theorem wb:a7 Try.prog {} Try.f13=some lT:=by kernel_rfl
set_option maxHeartbeats 1600000 in
theorem xe (G:ap):aW Try.prog G 13 [] (.w (.c (.d (.bool true)))):=by
  refine bB Try.func13 wb rfl rfl ?_;have c1:=uD G .z 77 5;rw[show kR .z 77 5=⟨true,false,77,5,0,0,0,0⟩ from rfl,show gD .z 77 5=bI 77 from rfl,show eE .z 77 5=0 from rfl] at c1;have c2:=zR G [] (by decide) (bI 77) 2 1000 1001;rw[show kU [] (bI 77) 2 1000 1001=[(1000,1001)] from rfl,show kS [] (bI 77) 2 1000 1001=⟨0,4,4,2,6,-20,0,0,0,0,77,1000,1001⟩ from rfl,show kT [] (bI 77) 2 1000=false from rfl,show fL [] (bI 77) 2 1000=0 from rfl] at c2;have c3:=zN G ⟨true,false,77,5,0,0,0,0⟩ ⟨0,4,4,2,6,-20,0,0,0,0,77,1000,1001⟩ 9;rw[show kW ⟨true,false,77,5,0,0,0,0⟩ ⟨0,4,4,2,6,-20,0,0,0,0,77,1000,1001⟩ 9=⟨false,true,0,0,5,9,1000,77⟩ from rfl,show kV ⟨true,false,77,5,0,0,0,0⟩ ⟨0,4,4,2,6,-20,0,0,0,0,77,1000,1001⟩ 9=⟨5,9,1000,1001,false⟩ from rfl,show fN ⟨true,false,77,5,0,0,0,0⟩ ⟨0,4,4,2,6,-20,0,0,0,0,77,1000,1001⟩ 9=0 from rfl] at c3;unfold b8 bn.z at c1;unfold b8 dB at c3;unfold aK bI at *
  simp only[lT,ar,am,ai,seval,iteOmega,toNatUp];refine sD (c1) ?_;refine sC (c2) ?_;simp only[bL,am,ai,seval,iteOmega,toNatUp];refine sD (c3) ?_;exact aF
def gO:bd:=⟨3,52,ak [cz 3 0,ce 6 false] (ak [cy 15 8 3,oM 16 1,oM 17 2,iI 18 9 15 16 17,oM 14 18,bQ 19 14 0,bQ 20 14 1,bQ 21 14 2,oO 7 (.alloc [aY,aY,ah,ab,ab,ab,ah,ah]),oO 8 (.alloc [ab,ab,ab,ab,ab,ab,aC,aC,aC,ah,ah,ah,ah]),aV 8 7 19,aV 13 8 20,oM 9 21] (.seq (ak [oM 22 9,ca .neq 23 22 0] (bc 23 (ak [oO 24 (.call 13 [] none),oM 6 24] .ret) .skip)) (ak [aE 25 12 8,oN (.store .sc (.t 25) (.k (.c ah))),aE 26 10 8,oN (.store .sc (.t 26) (.k (.c ah))),aE 27 11 8,oN (.store .sc (.t 27) (.k (.c ah)))] (ak [cy 29 13 8,eB 30 14 29,oM 28 30,bQ 31 28 0,bQ 32 28 1,oM 10 31,oM 11 32] (ak [oO 34 (.call 15 [(.k (.c ah))] none),eB 35 14 34,oM 33 35,bQ 36 33 0,bQ 37 33 1,oM 12 36,oM 13 37] (ak [oO 38 (.call 13 [] none),oM 39 38,cA 40 11 39 true,
 cr .eql 41 40 0 39 true,cT 42 39 41,oM 43 42,cA 44 13 43 true,cr .eql 45 44 0 43 true,cT 46 43 45,oM 47 46,cA 48 10 47 true,cA 49 12 47 true,oG 50 (.call 16 [(.t 48),(.t 49)] none) 47 true,cT 51 47 50,oM 6 51] .ret)))))),[(6,none)]⟩
theorem xf:a7 Try.prog {} Try.f5=some gO:=by kernel_rfl
set_option maxHeartbeats 1600000 in
theorem xT (G:ap) (i0:Bool) (i1:Bool) (i2:Nat) (hi2:i2<18446744073709551616) (i3:Int) (hi31:-9223372036854775808≤i3) (hi32:i3≤9223372036854775807) (i4:Int) (hi41:-9223372036854775808≤i4) (hi42:i4≤9223372036854775807) (i5:Int) (hi51:-9223372036854775808≤i5) (hi52:i5≤9223372036854775807) (i6:Nat) (hi6:i6<18446744073709551616) (i7:Nat) (hi7:i7<18446744073709551616) (transmit:Nat) (htransmit:transmit<18446744073709551616) (tt:Int) (htt1:-9223372036854775808≤tt) (htt2:tt≤9223372036854775807) :aW Try.prog G 5 [.agg [.bool i0,.bool i1,.int .u64 (i2:Int),.int .i64 i3,.int .i64 i4,.int .i64 i5,.int .u64 (i6:Int),.int .u64 (i7:Int)],.int .u64 (transmit:Int),.int .i64 tt] (.w (.c (.d (.bool true)))):=by
  refine bB Try.func5 xf rfl rfl ?_;have c1:=uD G ⟨i0,i1,i2,i3,i4,i5,i6,i7⟩ transmit tt;have c2:=zG G (bI 0) (by unfold vk bI; decide);have c3:=zF G 0;have c4:=xe G;have c5:=yz G (fB (bI 0)) (fB (bI 0));have e2:dr (bI 0)=0:=by decide +kernel
  have hB:(fB (bI 0)).length≤9223372036854775807:=by decide +kernel
  rw[beq_self_eq_true] at c5;rw[e2] at c2;generalize fB (bI 0)=B at *
  by_cases hE:eE ⟨i0,i1,i2,i3,i4,i5,i6,i7⟩ transmit tt=0
  ·have hH:gD ⟨i0,i1,i2,i3,i4,i5,i6,i7⟩ transmit tt=if i1=true then ⟨0,4,3,0,6,0,0,0,0,0,i6,i7,transmit⟩ else bI transmit:=by unfold gD; rw[if_pos hE]
   rw[hE,hH] at c1;unfold b8 at c1;unfold aK bI at *
   cases i1
   ·simp only[Bool.false_eq_true,if_false] at c1;simp only[gO,ar,am,ai,seval,iteOmega,toNatUp];refine sD (c1) ?_;refine sD (c2) ?_;refine sD (c3) ?_;refine sD (c2) ?_;refine sD (c4) ?_;refine sD (c5) ?_;exact aF
   ·simp only[if_true] at c1;simp only[gO,ar,am,ai,seval,iteOmega,toNatUp];refine sD (c1) ?_;refine sD (c2) ?_;refine sD (c3) ?_;refine sD (c2) ?_;refine sD (c4) ?_;refine sD (c5) ?_;exact aF
  ·generalize eE ⟨i0,i1,i2,i3,i4,i5,i6,i7⟩ transmit tt=E at *
   unfold b8 at c1;unfold aK at c1;simp only[gO,ar,am,ai,seval,iteOmega,toNatUp];refine sC (c1) ?_;simp only[hE,am,ai,seval,iteOmega,toNatUp];refine sD (c4) ?_;exact aF
end Go.Proofs.Yteohdchecapkfaa
