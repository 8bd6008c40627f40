/- Texts of one's own, merged: from: Layer 24 as functions of numbers: interleaved mode. Pure. Own work. -/
import Derived.Test.YteohdchecapkfaaMg112
import Derived.Test.YteohdchecapkfaaMg113
import Derived.Test.YteohdchecapkfaaMg17
import Derived.Shelf.Abstract
import Derived.Test.YteohdchecapkfaaMg18
import Derived.Test.YteohdchecapkfaaMg19
set_option linter.unusedVariables false
set_option linter.unusedSimpArgs false
namespace Go.Proofs.Yteohdchecapkfaa
open Go.RowKit
structure aV where
  op:Bool
  kn:Bool
  tr:Nat
  sk:Int
  sn:Int
  gt:Int
  rc:Nat
  mr:Nat
def aV.z:aV:=⟨false,false,0,0,0,0,0,0⟩
def bW (i:aV):D:=.agg [.bool i.op,.bool i.kn,.int .u64 (i.tr:Int),.int .i64 i.sk,.int .i64 i.sn,.int .i64 i.gt,.int .u64 (i.rc:Int),.int .u64 (i.mr:Int)]
structure eb where
  t1:Int
  t4:Int
  t2:Nat
  t3:Nat
  il:Bool
def eb.z:eb:=⟨0,0,0,0,false⟩
def dt (r:eb):D:=.agg [.int .i64 r.t1,.int .i64 r.t4,.int .u64 (r.t2:Int),.int .u64 (r.t3:Int),.bool r.il]
def bG (p:Nat×Nat):D:=.agg [.int .u64 (p.1:Int),.int .u64 (p.2:Int)]
def dw (i:aV) (t:Nat) (a:Int):Int:=if cP a=true then (if t=0∨(i.kn=true∧t=i.mr) then 3 else 0) else 4
def fK (i:aV) (t:Nat) (a:Int):aV:=if dw i t a=0 then ⟨true,i.kn,t,a,i.sn,i.gt,i.rc,i.mr⟩ else .z
def fL (i:aV) (t:Nat) (a:Int):Hd:=if dw i t a=0 then (if i.kn=true then ⟨0,4,3,0,6,0,0,0,0,0,i.rc,i.mr,t⟩ else dr t) else Hd.z
def ec (m:List (Nat×Nat)) (x:Nat):Option (Nat×Nat):=m.find? fun p=>p.1==x
def eQ (m:List (Nat×Nat)) (q:Hd) (st:Int) (rc:Nat):Int:=if dh q st=0 then (if m.length≤8 then (if (ec m rc).isSome=true then 27 else 0) else 8) else dh q st
def cU (m:List (Nat×Nat)) (q:Hd):Option (Nat×Nat):=if q.og=0 then none else ec m q.og
def fi (q:Hd) (st:Int) (rc tr:Nat):Option (Nat×Nat)→Hd
  | some p=>⟨0,q.vr,4,st,q.pl,-20,0,0,0,0,q.rc,rc,p.2⟩
  | none=>⟨0,q.vr,4,st,q.pl,-20,0,0,0,0,q.tr,rc,tr⟩
def ig (m:List (Nat×Nat)) (q:Hd) (st:Int) (rc tr:Nat):Hd:=if eQ m q st rc=0 then fi q st rc tr (cU m q) else Hd.z
def ii (m:List (Nat×Nat)) (q:Hd) (st:Int) (rc:Nat):Bool:=if eQ m q st rc=0 then (cU m q).isSome else false
def ij (m:List (Nat×Nat)) (q:Hd) (st:Int) (rc tr:Nat):List (Nat×Nat):=if eQ m q st rc=0 then ((rc,tr)::m).take 8 else []
def dz (i:aV) (h:Hd) (a:Int):Int:=if i.op=true then (if cP a=true then (if a<i.sk then 12 else if h.md=4 then (if h.og=i.tr then 0 else if i.kn=true∧h.og=i.mr then 0 else 23) else 3) else 4) else 7
def fM (i:aV) (h:Hd) (a:Int):eb:=if dz i h a=0 then (if h.og=i.tr then ⟨i.sk,a,h.rc,h.tr,false⟩ else ⟨i.sn,i.gt,i.rc,h.tr,true⟩) else .z
def fN (i:aV) (h:Hd) (a:Int):aV:=if dz i h a=0 then ⟨false,true,0,0,i.sk,a,h.rc,i.tr⟩ else .z
theorem qo {m:List (Nat×Nat)} {x:Nat}:ec m x=none↔∀ p∈m,p.1≠x:=by
  unfold ec;rw[List.find?_eq_none];simp
theorem A0 {q:Hd} (h0:0≤q.lp) (h1:q.lp≤3) (h2:q.vr=4) (h3:q.md=3) (h4:q.st=0) (h5:q.pl=6) (h6:q.pr=0) {st:Int} (s0:0≤st) (s1:st≤255):dh q st=0:=by
  unfold dh e8;rw[decide_eq_true (show ie q from ⟨h0,h1,.inr h2,by omega,by omega,by omega,by omega,by omega,by omega,by omega,by omega⟩),if_pos rfl,if_pos h3,if_pos ⟨s0,s1⟩]
open IntWalk
set_option maxHeartbeats 3200000
def ga:bg:=⟨3,46,al [oO 3 (.box .ownBox (.t 0)),oO 6 (.alloc [aN,aN,aj,af,af,af,aj,aj]),oO 7 (.alloc [af,af,af,af,af,af,aC,aC,aC,aj,aj,aj,aj]),aX 8 0] (.seq (al [oM 10 2,hZ 11 19 10,fe 12 11] (bf 12 (al [oO 13 (.build [aN,aN,aj,af,af,af,aj,aj] []),oO 14 (.build [af,af,af,af,af,af,aC,aC,aC,aj,aj,aj,aj] []),aM 8 6 13,aM 13 7 14,aX 8 4] .ret) .skip)) (.seq (al [oM 15 1,oO 16 (.bin .eql (.t 15) (.k (.c aj))),oM 17 16,d5 18 1 3 17 false,d4 19 18 17 false,cT 20 19 17 false,cT 21 1 20 true,d5 22 7 3 20 true,d4 23 22 20 true,jy .eql 24 21 23 20 true,oG 25 (.pick (.t 20) (.t 24) (.k (.c aN))) 17 false,fc 26 17 25] (bf 26 (al [oO 27 (.build [aN,aN,aj,af,af,af,aj,aj] []),oO 28 (.build [af,af,af,af,af,af,aC,aC,aC,aj,aj,aj,aj] []),
 aM 8 6 27,aM 13 7 28,aX 8 3] .ret) .skip)) (al [oM 29 1,hZ 30 20 29,oO 9 (.alloc [af,af,af,af,af,af,aC,aC,aC,aj,aj,aj,aj]),aM 13 9 30] (.seq (al [aD 31 1 3,aL 32 31] (bf 32 (.reg [aD 33 6 3,oO 34 (.loadX .sc (.t 33) [(.t 9)]),aD 35 7 3,oO 36 (.loadX .sc (.t 35) [(.t 9)]),aD 37 10 9,oN (.storeX .sc (.t 37) (.t 34) (.t 9)),aD 38 11 9,oN (.storeX .sc (.t 38) (.t 36) (.t 9))]) .skip)) (al [oM 39 1,oM 40 2,aD 41 0 3,oN (.store .sc (.t 41) (.k (.c (.d (.bool true))))),aD 42 2 3,fI 42 39,aD 43 3 3,fI 43 40] (al [oO 44 (.loadX (.ag 8) (.t 3) [(.t 6),(.t 7)]),oO 45 (.loadX (.ag 13) (.t 9) [(.t 6),(.t 7)]),aM 8 6 44,aM 13 7 45,aX 8 0] .ret)))))),[(6,(some (.ag 8))),(7,(some (.ag 13))),(8,none)]⟩
theorem A1:a7 Try.prog { own:=[3],lx:=[(34,[9]),(36,[9]),(37,[9]),(38,[9]),(44,[6,7]),(45,[6,7])] } Try.f9=some ga:=by kernel_rfl
theorem lq (G:ap) (i:aV) (t:Nat) (a:Int):br Try.prog G 9 [bW i,.int .u64 (t:Int),.int .i64 a] (.tup [.c (.d (bW (fK i t a))),.c (.d (aU (fL i t a))),.c (.d (.int .i64 (dw i t a)))]):=by
  refine cq Try.func9 A1 rfl rfl ?_;have c1:=vX G a;have c2:=AW G t;have he:dw i t a=if cP a=true then (if t=0∨(i.kn=true∧t=i.mr) then 3 else 0) else 4:=rfl
  unfold fK fL;obtain⟨op,kn,tr,sk,sn,gt,rc,mr⟩:=i;dsimp only at he ⊢;generalize dw ⟨op,kn,tr,sk,sn,gt,rc,mr⟩ t a=E at *
  cases hv:cP a
  ·rw[hv,if_neg (by decide:¬ false=true)] at he;rw[hv] at c1;rw[he,if_neg (by decide:¬ (4:Int)=0),if_neg (by decide:¬ (4:Int)=0)];unfold bW aV.z aU Hd.z;simp only[ga,aE,ae,aa,seval,iteOmega,toNatUp];refine sD (c1) ?_;exact fh
  ·rw[hv,if_pos rfl] at he;rw[hv] at c1;by_cases h0:t=0
   ·rw[if_pos (.inl h0)] at he;rw[he,if_neg (by decide:¬ (3:Int)=0),if_neg (by decide:¬ (3:Int)=0)];subst h0;unfold bW aV.z aU Hd.z;simp only[ga,aE,ae,aa,seval,iteOmega,toNatUp];refine sD (c1) ?_;exact fh
   ·cases kn
    ·rw[if_neg (by simp[h0])] at he;rw[he,if_pos rfl,if_pos rfl,if_neg (by decide:¬ false=true)];unfold bW aU dr at *
     simp only[ga,aE,ae,aa,seval,iteOmega,toNatUp];refine sD (c1) ?_;refine sD (c2) ?_;exact fh
    ·by_cases hm:t=mr
     ·rw[if_pos (.inr ⟨rfl,hm⟩)] at he;rw[he,if_neg (by decide:¬ (3:Int)=0),if_neg (by decide:¬ (3:Int)=0)];subst hm;unfold bW aV.z aU Hd.z;simp only[ga,aE,ae,aa,seval,iteOmega,toNatUp];refine sD (c1) ?_;exact fh
     ·rw[if_neg (by simp[h0,hm])] at he;rw[he,if_pos rfl,if_pos rfl,if_pos rfl];unfold bW aU dr at *
      simp only[ga,aE,ae,aa,seval,iteOmega,toNatUp];refine sD (c1) ?_;refine sD (c2) ?_;exact fh
def fG (i:aV) (h:Hd) (a:Int):Int:=if i.op=true then (if cP a=true then (if a<i.sk then 12 else if h.md=4 then 0 else 3) else 4) else 7
def eI (i:aV) (h:Hd):Bool:=decide (h.og=i.tr) || (i.kn&&decide (h.og=i.mr))
def gu (i:aV) (h:Hd) (a:Int):eb:=if h.og=i.tr then ⟨i.sk,a,h.rc,h.tr,false⟩ else if i.kn=true∧h.og=i.mr then ⟨i.sn,i.gt,i.rc,h.tr,true⟩ else .z
def fV:bg:=⟨3,24,al [di 3 0,di 4 1,aX 6 0] (.seq (.block 0 (al [aD 8 0 3,aL 9 8,fe 10 9,oM 7 10] (bf 7 (al [aX 6 7] .ret) (al [oM 12 2,hZ 13 19 12,fe 14 13,oM 11 14] (bf 11 (al [aX 6 4] .ret) (al [oM 16 2,aD 17 3 3,aL 18 17,cS .lss 19 16 18,oM 15 19] (bf 15 (al [aX 6 12] .ret) (al [aD 21 2 4,aL 22 21,b9 .neq 23 22 4,oM 20 23] (bf 20 (al [aX 6 3] .ret) .skip))))))))) (al [aX 6 0] .ret)),[(6,none)]⟩
theorem Ag:a7 Try.prog {} Try.f24=some fV:=by kernel_rfl
theorem A2 (G:ap) (i:aV) (h:Hd) (a:Int):br Try.prog G 24 [bW i,aU h,.int .i64 a] (.w (.c (.d (.int .i64 (fG i h a))))):=by
  refine cq Try.func24 Ag rfl rfl ?_;have c1:=vX G a;obtain⟨op,kn,tr,sk,sn,gt,rc,mr⟩:=i;obtain⟨lp,vr,md,st,pl,pr,rd,rp,ri,rf,og,hrc,htr⟩:=h;unfold fG bW aU;dsimp only;cases op
  ·simp only[fV,aE,ae,aa,seval,iteOmega,toNatUp];exact bz
  ·cases hv:cP a
   ·rw[hv] at c1;simp only[fV,aE,ae,aa,seval,iteOmega,toNatUp];refine sD (c1) ?_;exact bz
   ·rw[hv] at c1;by_cases h1:a<sk
    ·simp only[fV,aE,ae,aa,seval,iteOmega,toNatUp];refine sD (c1) ?_;exact bz
    ·by_cases h2:md=4
     ·subst h2;simp only[fV,aE,ae,aa,seval,iteOmega,toNatUp];refine sD (c1) ?_;exact bz
     ·simp only[fV,aE,ae,aa,seval,iteOmega,toNatUp];refine sD (c1) ?_;exact bz
def gS:bg:=⟨3,42,al [di 3 0,di 4 1,oO 6 (.alloc [af,af,aj,aj,aN]),bZ 7 false] (.seq (.block 0 (al [aD 9 10 4,aL 10 9,aD 11 2 3,aL 12 11,cS .eql 13 10 12,oM 8 13] (bf 8 (al [aD 14 3 3,aL 15 14,aD 16 11 4,aL 17 16,aD 18 12 4,aL 19 18,oM 20 2,oO 21 (.build [af,af,aj,aj,aN] [(0,1,(.t 15)),(2,1,(.t 17)),(3,1,(.t 19)),(1,1,(.t 20))]),aM 5 6 21,bZ 7 true] .ret) (al [aD 23 1 3,aL 24 23,oM 25 24,d5 26 10 4 25 true,d4 27 26 25 true,d5 28 7 3 25 true,d4 29 28 25 true,jy .eql 30 27 29 25 true,du 31 25 30,oM 22 31] (bf 22 (al [aD 32 4 3,aL 33 32,aD 34 6 3,aL 35 34,aD 36 12 4,aL 37 36,aD 38 5 3,aL 39 38,oO 40 (.build [af,af,aj,aj,aN] [(0,1,(.t 33)),(2,1,(.t 35)),(3,1,(.t 37)),(1,1,(.t 39)),(4,1,(.k (.c (.d (.bool true)))))]),aM 5 6 40,bZ 7 true]
 .ret) .skip))))) (al [oO 41 (.build [af,af,aj,aj,aN] []),aM 5 6 41,bZ 7 false] .ret)),[(6,(some (.ag 5))),(7,none)]⟩
theorem Ah:a7 Try.prog {} Try.f25=some gS:=by kernel_rfl
theorem A3 (G:ap) (i:aV) (h:Hd) (a:Int):br Try.prog G 25 [bW i,aU h,.int .i64 a] (.tup [.c (.d (dt (gu i h a))),.c (.d (.bool (eI i h)))]):=by
  refine cq Try.func25 Ah rfl rfl ?_;obtain⟨op,kn,tr,sk,sn,gt,rc,mr⟩:=i;obtain⟨lp,vr,md,st,pl,pr,rd,rp,ri,rf,og,hrc,htr⟩:=h;unfold gu eI bW aU;dsimp only;by_cases h1:og=tr
  ·subst h1;rw[if_pos rfl,decide_eq_true rfl,Bool.true_or];unfold dt;simp only[gS,aE,ae,aa,seval,iteOmega,toNatUp];exact fg
  ·rw[if_neg h1,decide_eq_false h1,Bool.false_or];cases kn
   ·rw[if_neg (by simp),Bool.false_and];unfold dt eb.z;simp only[gS,aE,ae,aa,seval,iteOmega,toNatUp];exact fg
   ·rw[Bool.true_and];by_cases h2:og=mr
    ·subst h2;rw[if_pos ⟨rfl,rfl⟩,decide_eq_true rfl];unfold dt;simp only[gS,aE,ae,aa,seval,iteOmega,toNatUp];exact fg
    ·rw[if_neg (fun h=>h2 h.2),decide_eq_false h2];unfold dt eb.z;simp only[gS,aE,ae,aa,seval,iteOmega,toNatUp];exact fg
theorem u5 {i:aV} {h:Hd} (e:eI i h=true):h.og=i.tr∨(i.kn=true∧h.og=i.mr):=by
  unfold eI at e
  simpa using e
theorem A4 {i:aV} {h:Hd} (e:eI i h=false):¬ h.og=i.tr∧¬ (i.kn=true∧h.og=i.mr):=by
  unfold eI at e
  simpa using e
theorem A5 (i:aV) (h:Hd) (a:Int):dz i h a=if fG i h a=0 then (if eI i h=true then 0 else 23) else fG i h a:=by
  unfold dz fG;cases hb:eI i h
  ·obtain⟨h1,h2⟩:=A4 hb;rw[if_neg h1,if_neg h2,if_neg (by decide:¬ false=true)];split
   ·split
    ·split
     ·rfl
     ·split <;> rfl
    ·rfl
   ·rfl
  ·have h1:(if h.og=i.tr then (0:Int) else if i.kn=true∧h.og=i.mr then 0 else 23)=0:=by
     rcases u5 hb with h1 | h1
     ·rw[if_pos h1]
     ·rw[if_pos h1];split <;> rfl
   rw[h1,if_pos rfl];split
   ·split
    ·split
     ·rfl
     ·split <;> rfl
    ·rfl
   ·rfl
def ja:bg:=⟨3,41,al [di 3 0,di 4 1,oO 6 (.alloc [aN,aN,aj,af,af,af,aj,aj]),oO 7 (.alloc [af,af,aj,aj,aN]),aX 8 0] (.seq (al [cm 12 8 3,cm 13 13 4,oM 14 2,ia 15 24 12 13 14,oM 9 15] (al [oM 16 9,b9 .neq 17 16 0] (bf 17 (al [oO 18 (.build [aN,aN,aj,af,af,af,aj,aj] []),oO 19 (.build [af,af,aj,aj,aN] []),oM 20 9,aM 8 6 18,aM 5 7 19,oM 8 20] .ret) .skip))) (al [cm 22 8 3,cm 23 13 4,oM 24 2,ia 25 25 22 23 24,oM 21 25,bM 26 21 0,bM 27 21 1,oO 10 (.alloc [af,af,aj,aj,aN]),aM 5 10 26,oM 11 27] (.seq (al [oM 28 11,fe 29 28] (bf 29 (al [oO 30 (.build [aN,aN,aj,af,af,af,aj,aj] []),oO 31 (.build [af,af,aj,aj,aN] []),aM 8 6 30,aM 5 7 31,aX 8 23] .ret) .skip)) (al [aD 32 3 3,oO 33 (.loadX .sc (.t 32) []),oM 34 2,aD 35 11 4,oO 36 (.loadX .sc (.t 35) []),
 aD 37 2 3,oO 38 (.loadX .sc (.t 37) []),oO 39 (.build [aN,aN,aj,af,af,af,aj,aj] [(1,1,(.k (.c (.d (.bool true))))),(4,1,(.t 33)),(5,1,(.t 34)),(6,1,(.t 36)),(7,1,(.t 38))]),oO 40 (.loadX (.ag 5) (.t 10) [(.t 6),(.t 7)]),aM 8 6 39,aM 5 7 40,aX 8 0] .ret)))),[(6,(some (.ag 8))),(7,(some (.ag 5))),(8,none)]⟩
theorem A6:a7 Try.prog { lx:=[(33,[]),(36,[]),(38,[]),(40,[6,7])] } Try.f12=some ja:=by kernel_rfl
theorem jg (G:ap) (i:aV) (h:Hd) (a:Int):br Try.prog G 12 [bW i,aU h,.int .i64 a] (.tup [.c (.d (bW (fN i h a))),.c (.d (dt (fM i h a))),.c (.d (.int .i64 (dz i h a)))]):=by
  refine cq Try.func12 A6 rfl rfl ?_;have c1:=A2 G i h a;have c2:=A3 G i h a;unfold fN fM;have he:=A5 i h a;by_cases h0:fG i h a=0
  ·rw[if_pos h0] at he;rw[h0] at c1;cases hb:eI i h
   ·rw[hb,if_neg (by decide:¬ false=true)] at he;rw[hb] at c2;rw[he,if_neg (by decide:¬ (23:Int)=0),if_neg (by decide:¬ (23:Int)=0)];clear he hb h0;generalize gu i h a=R at *
    obtain⟨op,kn,tr,sk,sn,gt,rc,mr⟩:=i;obtain⟨lp,vr,md,st,pl,pr,rd,rp,ri,rf,og,hrc,htr⟩:=h;unfold bW aU dt aV.z eb.z at *
    simp only[ja,aE,ae,aa,seval,iteOmega,toNatUp];refine sD (c1) ?_;refine sD (c2) ?_;exact fh
   ·rw[hb,if_pos rfl] at he;rw[hb] at c2;rw[he,if_pos rfl,if_pos rfl];have hR:(if h.og=i.tr then (⟨i.sk,a,h.rc,h.tr,false⟩:eb) else ⟨i.sn,i.gt,i.rc,h.tr,true⟩)=gu i h a:=by
      unfold gu;by_cases h1:h.og=i.tr
      ·rw[if_pos h1,if_pos h1]
      ·rw[if_neg h1,if_neg h1,if_pos ((u5 hb).resolve_left h1)]
    rw[hR];clear he hb h0 hR;generalize gu i h a=R at *
    obtain⟨op,kn,tr,sk,sn,gt,rc,mr⟩:=i;obtain⟨lp,vr,md,st,pl,pr,rd,rp,ri,rf,og,hrc,htr⟩:=h;unfold bW aU dt at *
    simp only[ja,aE,ae,aa,seval,iteOmega,toNatUp];refine sD (c1) ?_;refine sD (c2) ?_;exact fh
  ·rw[if_neg h0] at he;rw[he,if_neg h0,if_neg h0];clear he;generalize fG i h a=E at *
   obtain⟨op,kn,tr,sk,sn,gt,rc,mr⟩:=i;obtain⟨lp,vr,md,st,pl,pr,rd,rp,ri,rf,og,hrc,htr⟩:=h;unfold bW aU dt aV.z eb.z at *
   simp only[ja,aE,ae,aa,seval,iteOmega,toNatUp];refine sD (c1) ?_;exact fh
def eR (m:List (Nat×Nat)) (x:Nat):Int:=match m.findIdx? fun p=>p.1==x with | some i=>(i:Int) | none=>-1
theorem wI {m:List (Nat×Nat)} {i:Nat} (h:i<m.length):m[i]?=some (m.getD i (0,0)):=by
  rw[Cj,BP h]; rfl
theorem Ai {m:List (Nat×Nat)} {x i:Nat} (h:i<m.length) (he:(m.getD i (0,0)).1=x) (hn:∀ j,j<i→(m.getD j (0,0)).1≠x):eR m x=(i:Int):=by
  have:(m.findIdx? fun p=>p.1==x)=some i:=by
    rw[List.findIdx?_eq_some_iff_getElem];have e:∀ k (hk:k<m.length),m[k]=m.getD k (0,0):=fun k hk=>by rw[Cj,BP hk]; rfl
    refine⟨h,by rw[e i h]; simpa using he,fun j hj=>?_⟩;rw[e j (by omega)]
    simpa using hn j hj
  unfold eR;rw[this]
theorem zj {m:List (Nat×Nat)} {x:Nat} (hn:∀ j,j<m.length→(m.getD j (0,0)).1≠x):eR m x=-1:=by
  have:(m.findIdx? fun p=>p.1==x)=none:=by
    rw[List.findIdx?_eq_none_iff];intro y hy;obtain⟨j,hj,rfl⟩:=Ci hy;have:=hn j hj;rw[Cj,BP hj] at this
    simpa using this
  unfold eR;rw[this]
theorem vY (m:List (Nat×Nat)) (x:Nat):(eR m x=-1∧ec m x=none)∨∃ i,i<m.length∧eR m x=(i:Int)∧ec m x=some (m.getD i (0,0)):=by
  unfold eR;cases h:m.findIdx? fun p=>p.1==x with
  | none =>
    refine .inl ⟨rfl,?_⟩;rw[List.findIdx?_eq_none_iff] at h;rw[qo];intro p hp
    simpa using h p hp
  | some i =>
    obtain⟨h1,h2,h3⟩:=List.findIdx?_eq_some_iff_getElem.1 h;refine .inr ⟨i,h1,rfl,?_⟩;unfold ec;rw[List.find?_eq_some_iff_getElem];refine⟨?_,i,h1,?_,fun j hj=>?_⟩
    ·rw[Cj,BP h1]; exact h2
    ·rw[Cj,BP h1]; rfl
    ·simpa using h3 j hj
theorem iJ (m:List (Nat×Nat)):bT 2 (m.map bG)=true:=by
  unfold bT;rw[BS];intro x hx;obtain⟨p,_,rfl⟩:=BZ.1 hx;rfl
theorem Aj (a b:Nat):List.foldl (fun x y:Int=>if y<x then y else x) (a:Int) [(b:Int)]=((min a b:Nat):Int):=by
  simp only[List.foldl_cons,List.foldl_nil];split <;> omega
def ju (m:List (Nat×Nat)) (g:Nat) (caps:List D) (i:Nat):St:=⟨d6 [(0,.w (.c (.d (.sl (m.map bG))))),(1,.w (.c (.d (.fn g caps)))),(7,.w (.c (.d (.int .i64 (m.length:Int))))),(8,.w (.c (.d (.int .i64 (i:Int)))))],hL [],uL []⟩
def iK:aO := al [cS .lss 9 8 7] (.seq (bf 9 .skip (.exit 0)) (.seq (.block 1 (al [oM 10 8,oM 5 10] (al [oM 11 1,oM 12 0,oM 13 5,jx 14 2 12 13,cm 15 2 14,gz 16 1000000007 11 15] (bf 16 (al [oM 17 5,oM 4 17] .ret) .skip)))) (.reg [b9 .add 18 8 1,oM 8 18])))
def u6:bg:=⟨2,19,al [aX 4 0] (.seq (al [oM 6 0,gx 7 6,aX 8 0] (.block 0 (.loop iK))) (al [oO 4 (.mv (.k (.c (.d (.int .i64 (-1))))))] .ret)),[(4,none)]⟩
theorem A7:a7 Try.prog {} Try.f31=some u6:=by kernel_rfl
theorem Bq (G:ap) (m:List (Nat×Nat)) (g:Nat) (caps:List D) (x:Nat) (hm:m.length≤9223372036854775807) (hp:∀ p:Nat×Nat,jk Try.prog G g caps [bG p] (.w (.c (.d (.bool (decide (p.1=x))))))):br Try.prog G 31 [.sl (m.map bG),.fn g caps] (.w (.c (.d (.int .i64 (eR m x))))):=by
  refine cq Try.func31 A7 rfl rfl ?_;simp only[u6,aE,ae,aa,seval,iteOmega,toNatUp];refine rR (ju m g caps) (fun i=>m.length-i) (fun i=>i≤m.length∧∀ j,j<i→(m.getD j (0,0)).1≠x) 0 ⟨CC _,fun j hj=>by omega⟩ ?_ ?_
  ·refine eu (fun i=>0) ?_ ?_ rfl rfl <;> simp only[wx,d9,ea,aa,seval,iteOmega,toNatUp] <;> rfl
  ·rintro i ⟨hi,hn⟩;have haz:=iJ m;by_cases hlt:i<m.length
   ·have g1:=wI hlt;have hd:=hp (m.getD i (0,0));by_cases he:(m.getD i (0,0)).1=x
    ·rw[decide_eq_true he] at hd;rw[Ai hlt he hn];simp only[iK,ju,ae,aa,seval,iteOmega,toNatUp,iX,g1,haz];generalize m.getD i (0,0)=y at *
     refine po hd (by simp only[ae,aa,seval,iteOmega,toNatUp,bG]) (.inl rfl) ?_;simp only[ae,aa,seval,iteOmega,toNatUp];exact bz
    ·rw[decide_eq_false he] at hd;have hn':∀ j,j<i+1→(m.getD j (0,0)).1≠x:=fun j hj=>by
       rcases CJ j i with h | h
       ·exact hn j h
       ·obtain rfl:j=i:=by omega
        exact he
     simp only[iK,ju,ae,aa,seval,iteOmega,toNatUp,iX,g1,haz];generalize m.getD i (0,0)=y at *
     refine po hd (by simp only[ae,aa,seval,iteOmega,toNatUp,bG]) (.inl rfl) ?_;simp only[ae,aa,seval,iteOmega,toNatUp];refine ft (i+1) (by omega) ⟨by omega,hn'⟩ (eu (fun i=>0) ?_ ?_ rfl rfl) <;> simp only[wx,d9,ea,aa,seval,iteOmega,toNatUp]
   ·rw[zj fun j hj=>hn j (by omega)];simp only[iK,ju,ae,aa,seval,iteOmega,toNatUp];exact bz
def lg:bg:=⟨2,8,al [di 2 0,bZ 3 false] (al [aD 4 0 2,aL 5 4,aL 6 1,cS .eql 7 5 6,oM 3 7] .ret),[(3,none)]⟩
theorem A8:a7 Try.prog {} Try.f32=some lg:=by kernel_rfl
theorem Br (G:ap) (x:Nat) (p:Nat×Nat):jk Try.prog G 32 [.ref [.int .u64 (x:Int)]] [bG p] (.w (.c (.d (.bool (decide (p.1=x)))))):=by
  refine⟨enters_of Try.func32 (by kernel_rfl) rfl,?_⟩;refine yC Try.func32 A8 rfl rfl ?_;unfold bG;by_cases h:p.1=x
  ·rw[decide_eq_true h];simp only[lg,CL,List.nil_append,BO,B0,D.up,cA,ae,aa,seval,iteOmega,toNatUp,h];exact bz
  ·rw[decide_eq_false h];simp only[lg,CL,List.nil_append,BO,B0,D.up,cA,ae,aa,seval,iteOmega,toNatUp];exact bz
def u7:bg:=⟨2,8,al [di 3 1,aX 4 0] (al [oM 5 0,oO 6 (.clos 32 [(.t 3)]),gz 7 31 5 6,oM 4 7] .ret),[(4,none)]⟩
theorem A9:a7 Try.prog {} Try.f22=some u7:=by kernel_rfl
theorem vZ (G:ap) (m:List (Nat×Nat)) (x:Nat) (hm:m.length≤9223372036854775807):br Try.prog G 22 [.sl (m.map bG),.int .u64 (x:Int)] (.w (.c (.d (.int .i64 (eR m x))))):=by
  refine cq Try.func22 A9 rfl rfl ?_;have c1:=Bq G m _ [.ref [.int .u64 (x:Int)]] x hm (Br G x);simp only[u7,aE,ae,aa,seval,iteOmega,toNatUp];refine sD (c1) ?_;exact bz
def u9:bg:=⟨2,13,al [di 3 1,fb 4] (al [cm 5 2 3,oO 6 (.bldSl true 1 2 (.agg [(.int .u64 0),(.int .u64 0)]) [(0,(.t 5))]),oM 7 0,oM 8 0,gx 9 8,oO 10 (.min [(.t 9),(kI 7)]),oO 11 (.slice 2 (.t 7) none (some (.t 10)) none),oO 12 (.app false 2 16 (.t 6) (.t 11)),oM 4 12] .ret),[(4,none)]⟩
theorem Ba:a7 Try.prog { own:=[6] } Try.f23=some u9:=by kernel_rfl
theorem Bs (G:ap) (m:List (Nat×Nat)) (a b:Nat) (hm:m.length≤8):br Try.prog G 23 [.sl (m.map bG),bG (a,b)] (.w (.c (.fr 2 ((((a,b)::m).take 8).map bG)))):=by
  refine cq Try.func23 Ba rfl rfl ?_;have haz:=iJ (m.take 7);have haz2:=iJ m;have e:((a,b)::m).take 8=(a,b)::m.take 7:=rfl;have hT:(m.map bG).take (min m.length 7)=(m.take 7).map bG:=by
    rw[← List.map_take,Nat.min_comm]
    congr 1
    rcases Nat.le_total m.length 7 with h | h
    ·rw[Nat.min_eq_right h,CK (B1 _),CK h]
    ·rw[Nat.min_eq_left h]
  obtain⟨n3,hn3⟩:∃ n3,n3=min m.length 7:=⟨_,rfl⟩
  have hmin:=Aj m.length 7;rw[show ((7:Nat):Int)=7 from rfl] at hmin;rw[← hn3] at hT hmin;have h8:(m.take 7).length≤7:=by simp; omega
  have hL:(m.take 7).length=n3:=by rw[hn3,B6,Nat.min_comm]
  have h3:n3≤m.length:=by omega
  rw[e];clear hn3 e;generalize m.take 7=M at *
  have hM:(M.map bG).length=n3:=by rw[Ch,hL]
  have h0:(0:Nat)≤n3:=CC _;simp only[u9,aE,ae,aa,seval,iteOmega,toNatUp,hmin,hT,haz,haz2,dJ,bG,h3,h0];exact zV (id:=96) (n:=M.length+1) (s:=2) (by simp only[ae,aa,seval,iteOmega,toNatUp]) (by simp only[ae,aa,seval,iteOmega,toNatUp]) (by simp)
def fA:bg:=⟨5,66,al [di 6 1,fb 10,oO 11 (.alloc [af,af,af,af,af,af,aC,aC,aC,aj,aj,aj,aj]),bZ 12 false,aX 13 0] (al [cm 16 13 6,oM 17 2,oM 18 3,oM 19 4,wN 20 21 16 17 18 19,oM 15 20,bM 21 15 0,bM 22 15 1,aM 13 11 21,oM 13 22] (.seq (.block 0 (al [oM 24 13,b9 .neq 25 24 0,oM 23 25] (bf 23 (al [oO 26 (.build [af,af,af,af,af,af,aC,aC,aC,aj,aj,aj,aj] []),oM 27 13,fb 10,aM 13 11 26,bZ 12 false,oM 13 27] .ret) (al [oM 29 0,gx 30 29,b9 .gtr 31 30 8,oM 28 31] (bf 28 (al [oO 32 (.build [af,af,af,af,af,af,aC,aC,aC,aj,aj,aj,aj] []),fb 10,aM 13 11 32,bZ 12 false,aX 13 8] .ret) (al [oM 34 0,oM 35 3,gz 36 22 34 35,b9 .geq 37 36 0,oM 33 37] (bf 33 (al [oO 38 (.build [af,af,af,af,af,af,aC,aC,aC,aj,aj,aj,aj] []),fb 10,
 aM 13 11 38,bZ 12 false,aX 13 27] .ret) .skip))))))) (.seq (al [oM 39 0,aD 40 10 6,aL 41 40,gz 42 22 39 41,oM 14 42] (al [oM 43 14,b9 .geq 44 43 0,oM 45 44,d5 46 10 6 45 true,d4 47 46 45 true,oG 48 (.bin .neq (.t 47) (.k (.c aj))) 45 true,du 49 45 48] (bf 49 (.reg [aD 50 11 6,oO 51 (.loadX .sc (.t 50) []),oM 52 0,oM 53 14,jx 54 2 52 53,aD 55 1 54,oO 56 (.loadX .sc (.t 55) []),aD 57 10 11,fI 57 51,aD 58 12 11,fI 58 56,bZ 12 true]) .skip))) (al [oM 59 0,oM 60 3,oM 61 4,oO 62 (.build [aj,aj] [(0,1,(.t 60)),(1,1,(.t 61))]),oO 63 (.call 23 [(.t 59),(.t 62)] (some (0,2))),cm 64 13 11,oM 65 12,oM 10 63,aM 13 11 64,oM 12 65,aX 13 0] .ret)))),[(10,none),(11,(some (.ag 13))),(12,none),(13,none)]⟩
theorem Bb:a7 Try.prog { own:=[63],lx:=[(51,[]),(56,[])] } Try.f11=some fA:=by kernel_rfl
theorem v3 (G:ap) (m:List (Nat×Nat)) (hm:m.length≤9223372036854775807) (q:Hd) (st:Int) (rc tr:Nat):br Try.prog G 11 [.sl (m.map bG),aU q,.int .i64 st,.int .u64 (rc:Int),.int .u64 (tr:Int)]
    (.tup [.c (.d (.sl ((ij m q st rc tr).map bG))),.c (.d (aU (ig m q st rc tr))),.c (.d (.bool (ii m q st rc))),.c (.d (.int .i64 (eQ m q st rc)))]):=by
  refine cq Try.func11 Bb rfl rfl ?_;have c1:=AY G q st rc tr;have c2:=vZ G m rc hm;have he:eQ m q st rc=if dh q st=0 then (if m.length≤8 then (if (ec m rc).isSome=true then 27 else 0) else 8) else dh q st:=rfl
  unfold ij ig ii;by_cases h0:dh q st=0
  ·rw[if_pos h0] at he;rw[h0] at c1;have hR:jt q st rc tr=⟨0,q.vr,4,st,q.pl,-20,0,0,0,0,q.tr,rc,tr⟩:=if_pos h0;rw[hR] at c1;by_cases h8:m.length≤8
   ·rw[if_pos h8] at he;rcases vY m rc with ⟨i1,i2⟩ | ⟨i,i1,i2,i3⟩
    ·rw[i2,if_neg (by simp)] at he;rw[i1] at c2;rw[he,if_pos rfl,if_pos rfl,if_pos rfl];have c3:=vZ G m q.og hm;have c4:=Bs G m rc tr h8;have eA:cU m q=if q.og=0 then none else ec m q.og:=rfl
     have haz:=iJ m;rcases vY m q.og with ⟨j1,j2⟩ | ⟨j,j1,j2,j3⟩
     ·have eN:cU m q=none:=by rw[eA,j2,ite_self]
      rw[j1] at c3;rw[eN];clear he i2 h0 hR eA eN j2;generalize ((rc,tr)::m).take 8=T at *
      unfold fi aU at *
      rw[Option.isSome_none];simp only[fA,aE,ae,aa,seval,iteOmega,toNatUp];refine sD (c1) ?_;refine sD (c2) ?_;refine sD (c3) ?_;refine iT c4 (by simp only[ae,aa,seval,iteOmega,toNatUp,bG]) (.inl rfl) ?_;simp only[ae,aa,seval,iteOmega,toNatUp];exact gB
     ·by_cases hg:q.og=0
      ·have eN:cU m q=none:=by rw[eA,if_pos hg]
       rw[j2] at c3;rw[eN];clear he i2 h0 hR eA eN j3;generalize ((rc,tr)::m).take 8=T at *
       unfold fi aU at *
       rw[Option.isSome_none];simp only[fA,aE,ae,aa,seval,iteOmega,toNatUp];refine sD (c1) ?_;refine sD (c2) ?_;refine sD (c3) ?_;refine iT c4 (by simp only[ae,aa,seval,iteOmega,toNatUp,bG]) (.inl rfl) ?_;simp only[ae,aa,seval,iteOmega,toNatUp];exact gB
      ·have eS:cU m q=some (m.getD j (0,0)):=by rw[eA,if_neg hg,j3]
       have g1:=wI j1;rw[j2] at c3;rw[eS];clear he i2 h0 hR eA eS j3;generalize m.getD j (0,0)=x at *
       generalize ((rc,tr)::m).take 8=T at *
       unfold fi aU at *
       rw[Option.isSome_some];simp only[fA,aE,ae,aa,seval,iteOmega,toNatUp];refine sD (c1) ?_;refine sD (c2) ?_;refine sC (c3) ?_;simp only[iX,g1,haz,bG,ae,aa,seval,iteOmega,toNatUp];refine iT c4 (by simp only[ae,aa,seval,iteOmega,toNatUp,bG]) (.inl rfl) ?_;simp only[ae,aa,seval,iteOmega,toNatUp];exact gB
    ·rw[i3,if_pos (by simp)] at he;rw[i2] at c2;rw[he,if_neg (by decide:¬ (27:Int)=0),if_neg (by decide:¬ (27:Int)=0),if_neg (by decide:¬ (27:Int)=0)];clear he i3 h0 hR;unfold aU Hd.z at *
     simp only[fA,aE,ae,aa,seval,iteOmega,toNatUp];refine sD (c1) ?_;refine sD (c2) ?_;exact gB
   ·rw[if_neg h8] at he;rw[he,if_neg (by decide:¬ (8:Int)=0),if_neg (by decide:¬ (8:Int)=0),if_neg (by decide:¬ (8:Int)=0)];clear he h0 hR;unfold aU Hd.z at *
    simp only[fA,aE,ae,aa,seval,iteOmega,toNatUp];refine sD (c1) ?_;exact gB
  ·rw[if_neg h0] at he;rw[he,if_neg h0,if_neg h0,if_neg h0];clear he;generalize jt q st rc tr=R at *
   generalize dh q st=E at *
   unfold aU Hd.z at *
   simp only[fA,aE,ae,aa,seval,iteOmega,toNatUp];refine sD (c1) ?_;exact gB
def mK:bg:=⟨0,55,al [bZ 0 false] (al [oO 12 (.build [aN,aN,aj,af,af,af,aj,aj] []),oO 13 (.call 9 [(.t 12),(.k (.c (.d (.int .u64 77)))),(kI 5)] none),oM 11 13,bM 14 11 0,bM 15 11 1,bM 16 11 2,oO 1 (.alloc [aN,aN,aj,af,af,af,aj,aj]),oO 2 (.alloc [af,af,af,af,af,af,aC,aC,aC,aj,aj,aj,aj]),aM 8 1 14,aM 13 2 15,oM 3 16] (al [cm 18 13 2,oO 19 (.call 11 [(.k (.c .nil)),(.t 18),(kI 2),(.k (.c (.d (.int .u64 1000)))),(.k (.c (.d (.int .u64 1001))))] none),oM 17 19,bM 20 17 0,bM 21 17 1,bM 22 17 2,bM 23 17 3,oO 5 (.alloc [af,af,af,af,af,af,aC,aC,aC,aj,aj,aj,aj]),oM 4 20,aM 13 5 21,oM 6 22,oM 7 23] (al [cm 25 8 1,cm 26 13 5,oO 27 (.call 12 [(.t 25),(.t 26),(kI 9)] none),oM 24 27,bM 28 24 0,bM 29 24 1,bM 30 24 2,oO 8 (.alloc [aN,aN,aj,af,af,af,aj,aj]),
 oO 9 (.alloc [af,af,aj,aj,aN]),aM 8 8 28,aM 5 9 29,oM 10 30] (al [oM 31 3,b9 .eql 32 31 0,oM 33 32,cT 34 7 33 true,fJ .eql 35 34 0 33 true,du 36 33 35,oM 37 36,cT 38 10 37 true,fJ .eql 39 38 0 37 true,du 40 37 39,oM 41 40,cT 42 6 41 true,gy 43 42 41 true,du 44 41 43,oM 45 44,cT 46 4 45 true,lK 47 46 45 true,fJ .eql 48 47 1 45 true,du 49 45 48,oM 50 49,oG 51 (.load (.ag 5) (.t 9)) 50 true,oG 52 (.build [af,af,aj,aj,aN] [(0,1,(kI 5)),(1,1,(kI 9)),(2,1,(.k (.c (.d (.int .u64 1000))))),(3,1,(.k (.c (.d (.int .u64 1001)))))]) 50 true,oG 53 (.eqA false [0,0,0,0,1] (.t 51) (.t 52)) 50 true,du 54 50 53,oM 0 54] .ret)))),[(0,none)]⟩
theorem xQ:a7 Try.prog {} Try.f13=some mK:=by kernel_rfl
set_option maxHeartbeats 1600000 in
theorem yD (G:ap):br Try.prog G 13 [] (.w (.c (.d (.bool true)))):=by
  refine cq Try.func13 xQ rfl rfl ?_;have c1:=lq G .z 77 5;rw[show fK .z 77 5=⟨true,false,77,5,0,0,0,0⟩ from rfl,show fL .z 77 5=dr 77 from rfl,show dw .z 77 5=0 from rfl] at c1;have c2:=v3 G [] (by decide) (dr 77) 2 1000 1001;rw[show ij [] (dr 77) 2 1000 1001=[(1000,1001)] from rfl,show ig [] (dr 77) 2 1000 1001=⟨0,4,4,2,6,-20,0,0,0,0,77,1000,1001⟩ from rfl,show ii [] (dr 77) 2 1000=false from rfl,show eQ [] (dr 77) 2 1000=0 from rfl] at c2;have c3:=jg G ⟨true,false,77,5,0,0,0,0⟩ ⟨0,4,4,2,6,-20,0,0,0,0,77,1000,1001⟩ 9;rw[show fN ⟨true,false,77,5,0,0,0,0⟩ ⟨0,4,4,2,6,-20,0,0,0,0,77,1000,1001⟩ 9=⟨false,true,0,0,5,9,1000,77⟩ from rfl,show fM ⟨true,false,77,5,0,0,0,0⟩ ⟨0,4,4,2,6,-20,0,0,0,0,77,1000,1001⟩ 9=⟨5,9,1000,1001,false⟩ from rfl,show dz ⟨true,false,77,5,0,0,0,0⟩ ⟨0,4,4,2,6,-20,0,0,0,0,77,1000,1001⟩ 9=0 from rfl] at c3;unfold bW aV.z at c1;unfold bW dt at c3;unfold aU dr at *
  simp only[mK,aE,ae,aa,seval,iteOmega,toNatUp];refine sD (c1) ?_;refine sC (c2) ?_;simp only[bG,ae,aa,seval,iteOmega,toNatUp];refine sD (c3) ?_;exact bz
structure wZ where
  n:Nat
  C:Int
  Sv:Nat
  b1:Int
  b4:Int
  b2:Nat
  b3:Nat
  m:List (Nat×Nat)
  a:Nat
def c8 (i:aV):List C:=[.d (.bool i.op),.d (.bool i.kn),.d (.int .u64 (i.tr:Int)),.d (.int .i64 i.sk),.d (.int .i64 i.sn),.d (.int .i64 i.gt),.d (.int .u64 (i.rc:Int)),.d (.int .u64 (i.mr:Int))]
def c9 (n:Nat) (b1 b4:Int) (b2:Nat):aV:=match n with | 0=>.z | n+1=>⟨false,true,0,0,b1,b4,b2,(n+1)*1000003⟩
def cZ:List (Nat×Nat)→V | []=>.w (.c .nil) | p::m=>.w (.c (.d (.sl ((p::m).map bG))))
def fa (l:List Int) (fo:Bool) (s:wZ):St :=
  ⟨d6 [(0,.w (.c (.d (.sl (l.map zD))))),(1,.w (.c (.d (.bool fo)))),(5,.w (.c (.ptr 1000 1 0 0))),(6,.w (.c (.ptr 48 1 0 0))),(7,cZ s.m),(8,.w (.c (.ptr 64 1 0 0))),(9,.w (.c (.d (.int .i64 s.C)))),(10,.w (.c (.d (.int .u64 (s.Sv:Int))))),(11,.w (.c (.d (.int .i64 (s.n:Int)))))],
    hL [(1000,.box ((ee l s.a).map C.d)),(48,.box (c8 (c9 s.n s.b1 s.b4 s.b2))),(64,.box [.d (.int .i64 s.b1),.d (.int .i64 s.b4),.d (.int .u64 (s.b2:Int)),.d (.int .u64 (s.b3:Int))])],uL [1000,48,64]⟩
def wL (l:List Int) (N:Nat) (s:wZ):Prop :=
  s.n≤N∧s.a≤l.length∧(0≤s.C∧s.C≤50*s.n)∧(1000≤s.Sv∧s.Sv≤1000+25*s.n)∧(∀ p∈s.m,p.1≤s.Sv)∧s.m.length≤s.n ∧
    (s.n=0→s.b1=0∧s.b4=0∧s.b2=0∧s.b3=0)∧(0<s.n→(0≤s.b1∧s.b1≤s.b4∧s.b4≤s.C)∧1000≤s.b2∧∃ r,s.m=(s.b2,s.b3)::r)
theorem Al {T:Nat} {t:Int} (hT:T≠0) (ht:cP t=true):dw .z T t=0∧fK .z T t=⟨true,false,T,t,0,0,0,0⟩∧fL .z T t=⟨0,4,3,0,6,0,0,0,0,0,0,0,T⟩:=by
  have e:dw .z T t=0:=by
    unfold dw;rw[if_pos ht,if_neg];rintro (h | ⟨h,_⟩)
    ·exact hT h
    ·cases h
  refine⟨e,?_,?_⟩
  ·unfold fK; rw[if_pos e]; rfl
  ·unfold fL; rw[if_pos e]; rfl
theorem Am {T M:Nat} {t b1 b4:Int} {b2:Nat} (hT:T≠0) (hM:T≠M) (ht:cP t=true):dw ⟨false,true,0,0,b1,b4,b2,M⟩ T t=0∧fK ⟨false,true,0,0,b1,b4,b2,M⟩ T t=⟨true,true,T,t,b1,b4,b2,M⟩∧fL ⟨false,true,0,0,b1,b4,b2,M⟩ T t=⟨0,4,3,0,6,0,0,0,0,0,b2,M,T⟩:=by
  have e:dw ⟨false,true,0,0,b1,b4,b2,M⟩ T t=0:=by
    unfold dw;rw[if_pos ht,if_neg];rintro (h | ⟨_,h⟩)
    ·exact hT h
    ·exact hM h
  refine⟨e,?_,?_⟩
  ·unfold fK; rw[if_pos e]
  ·unfold fL; rw[if_pos e]; rfl
theorem Bj {m:List (Nat×Nat)} {o r T t2 t3:Nat} (hl:m.length≤8) (hn:∀ p∈m,p.1≠t2):eQ m ⟨0,4,3,0,6,0,0,0,0,0,o,r,T⟩ 2 t2=0∧ij m ⟨0,4,3,0,6,0,0,0,0,0,o,r,T⟩ 2 t2 t3=(t2,t3)::m.take 7 ∧
    ii m ⟨0,4,3,0,6,0,0,0,0,0,o,r,T⟩ 2 t2=(cU m ⟨0,4,3,0,6,0,0,0,0,0,o,r,T⟩).isSome∧ig m ⟨0,4,3,0,6,0,0,0,0,0,o,r,T⟩ 2 t2 t3=fi ⟨0,4,3,0,6,0,0,0,0,0,o,r,T⟩ 2 t2 t3 (cU m ⟨0,4,3,0,6,0,0,0,0,0,o,r,T⟩):=by
  have rE:dh ⟨0,4,3,0,6,0,0,0,0,0,o,r,T⟩ 2=0:=A0 (Int.le_refl 0) (show (0:Int)≤3 by decide) rfl rfl rfl rfl rfl (by decide) (by decide);have e:eQ m ⟨0,4,3,0,6,0,0,0,0,0,o,r,T⟩ 2 t2=0:=by
    unfold eQ;rw[if_pos rE,if_pos hl,qo.2 hn]; rfl
  refine⟨e,?_,?_,?_⟩
  ·unfold ij; rw[if_pos e]; rfl
  ·unfold ii; rw[if_pos e]
  ·unfold ig; rw[if_pos e]
theorem sN {k:Bool} {T M t2 t3:Nat} {t1 t4 s g:Int} {b2:Nat} (h4:cP t4=true) (h:t1≤t4):dz ⟨true,k,T,t1,s,g,b2,M⟩ ⟨0,4,4,2,6,-20,0,0,0,0,T,t2,t3⟩ t4=0∧fM ⟨true,k,T,t1,s,g,b2,M⟩ ⟨0,4,4,2,6,-20,0,0,0,0,T,t2,t3⟩ t4=⟨t1,t4,t2,t3,false⟩ ∧
    fN ⟨true,k,T,t1,s,g,b2,M⟩ ⟨0,4,4,2,6,-20,0,0,0,0,T,t2,t3⟩ t4=⟨false,true,0,0,t1,t4,t2,T⟩:=by
  have e:dz ⟨true,k,T,t1,s,g,b2,M⟩ ⟨0,4,4,2,6,-20,0,0,0,0,T,t2,t3⟩ t4=0:=by
    unfold dz;simp only[if_true,h4];rw[if_neg (by omega)]
  refine⟨e,?_,?_⟩
  ·unfold fM; rw[if_pos e]; exact if_pos rfl
  ·unfold fN; rw[if_pos e]
theorem An {T M t2 t3:Nat} {t1 t4 s g:Int} {b2:Nat} (h4:cP t4=true) (h:t1≤t4) (hM:M≠T):dz ⟨true,true,T,t1,s,g,b2,M⟩ ⟨0,4,4,2,6,-20,0,0,0,0,M,t2,t3⟩ t4=0∧fM ⟨true,true,T,t1,s,g,b2,M⟩ ⟨0,4,4,2,6,-20,0,0,0,0,M,t2,t3⟩ t4=⟨s,g,b2,t3,true⟩ ∧
    fN ⟨true,true,T,t1,s,g,b2,M⟩ ⟨0,4,4,2,6,-20,0,0,0,0,M,t2,t3⟩ t4=⟨false,true,0,0,t1,t4,t2,T⟩:=by
  have e:dz ⟨true,true,T,t1,s,g,b2,M⟩ ⟨0,4,4,2,6,-20,0,0,0,0,M,t2,t3⟩ t4=0:=by
    unfold dz;simp only[if_true,h4];rw[if_neg (by omega),if_neg hM];simp
  refine⟨e,?_,?_⟩
  ·unfold fM; rw[if_pos e]; exact if_neg hM
  ·unfold fN; rw[if_pos e]
def eT:aO := .seq (al [oM 27 11,oM 28 0,gx 29 28,b9 .rem 30 29 8,oO 31 (.bin .add (kI 1) (.t 30)),cS .lss 32 27 31] (bf 32 .skip (.exit 0))) (.seq (.block 1 (al [oM 35 9,oM 36 5,oO 37 (.callM 8 [(.t 36),(kI 20)]),cS .add 38 35 37,oM 9 38] (al [oM 39 10,oM 40 5,oO 41 (.callM 8 [(.t 40),(kI 20)]),oO 42 (.bin .add (kI 1) (.t 41)),oO 43 (.conv .u64 (.t 42)),cS .add 44 39 43,oM 10 44] (al [oM 45 9,oM 46 10,oM 47 9,oM 48 5,oO 49 (.callM 8 [(.t 48),(kI 30)]),cS .add 50 47 49,oO 51 (.build [af,af,aj,aj] [(0,1,(.t 45)),(2,1,(.t 46)),(1,1,(.t 50))]),oO 12 (.alloc [af,af,aj,aj]),aM 4 12 51] (al [oM 52 10,oM 53 5,oO 54 (.callM 8 [(.t 53),(kI 5)]),oO 55 (.conv .u64 (.t 54)),cS .add 56 52 55,oM 10 56] (al [oM 57 10,aD 58 3 12,fI 58 57] (al [aD 59 1 12,aL 60 59,oM 9 60]
 (al [cm 62 8 6,oM 63 11,b9 .add 64 63 1,oO 65 (.conv .u64 (.t 64)),oO 66 (.bin .mul (.t 65) (.k (.c (.d (.int .u64 1000003))))),aD 67 0 12,aL 68 67,ia 69 9 62 66 68,oM 61 69,bM 70 61 0,bM 71 61 1,bM 72 61 2,oO 13 (.alloc [aN,aN,aj,af,af,af,aj,aj]),oO 14 (.alloc [af,af,af,af,af,af,aC,aC,aC,aj,aj,aj,aj]),aM 8 13 70,aM 13 14 71,oM 15 72] (.seq (al [oM 73 15,b9 .neq 74 73 0] (bf 74 (al [bZ 4 false] .ret) .skip)) (.seq (al [oM 75 1,oM 76 75,cT 77 5 76 true,oG 78 (.callM 10 [(.t 77),(kI 2)]) 76 true,du 79 76 78] (bf 79 (.reg [fb 7]) .skip)) (al [oM 80 11,b9 .gtr 81 80 0,oM 82 81,cT 83 7 82 true,lK 84 83 82 true,fJ .gtr 85 84 0 82 true,du 86 82 85,oM 16 86] (al [oM 88 7,cm 89 13 14,aD 90 2 12,aL 91 90,aD 92 3 12,aL 93 92,oO 94 (.call 11 [(.t 88),(.t 89),(kI 2),(.t 91),(.t 93)] none),
 oM 87 94,bM 95 87 0,bM 96 87 1,bM 97 87 2,bM 98 87 3,oO 18 (.alloc [af,af,af,af,af,af,aC,aC,aC,aj,aj,aj,aj]),oM 17 95,aM 13 18 96,oM 19 97,oM 20 98] (al [cm 100 8 13,cm 101 13 18,aD 102 1 12,aL 103 102,ia 104 12 100 101 103,oM 99 104,bM 105 99 0,bM 106 99 1,bM 107 99 2,oO 21 (.alloc [aN,aN,aj,af,af,af,aj,aj]),oO 22 (.alloc [af,af,aj,aj,aN]),aM 8 21 105,aM 5 22 106,oM 23 107] (.seq (al [oM 108 20,b9 .neq 109 108 0,oM 110 109,cT 111 23 110 false,fJ .neq 112 111 0 110 false,fc 113 110 112,oM 114 113,cT 115 19 114 false,cT 116 16 114 false,oG 117 (.eqB true (.t 115) (.t 116)) 114 false,fc 118 114 117] (bf 118 (al [bZ 4 false] .ret) .skip)) (al [aD 119 0 12,aL 120 119,aD 121 2 12,aL 122 121,aD 123 3 12,aL 124 123,aD 125 1 12,aL 126 125,
 oO 127 (.build [af,af,aj,aj,aN] [(0,1,(.t 120)),(2,1,(.t 122)),(3,1,(.t 124)),(1,1,(.t 126))]),oO 24 (.alloc [af,af,aj,aj,aN]),aM 5 24 127] (.seq (al [oM 128 16] (bf 128 (.reg [aD 129 0 8,aL 130 129,aD 131 2 8,aL 132 131,aD 133 3 8,aL 134 133,aD 135 1 8,aL 136 135,oO 137 (.build [af,af,aj,aj,aN] [(0,1,(.t 130)),(2,1,(.t 132)),(3,1,(.t 134)),(1,1,(.t 136)),(4,1,(.k (.c (.d (.bool true)))))]),aM 5 24 137]) .skip)) (.seq (al [cm 138 5 22,cm 139 5 24,oO 140 (.eqA true [0,0,0,0,1] (.t 138) (.t 139))] (bf 140 (al [bZ 4 false] .ret) .skip)) (.reg [oO 141 (.loadX (.ag 8) (.t 21) [(.t 6),(.t 8)]),oM 142 17,oO 143 (.loadX (.ag 4) (.t 12) [(.t 6),(.t 8)]),aM 8 6 141,oM 7 142,aM 4 8 143])))))))))))))))))) (.reg [oM 33 11,b9 .add 34 33 1,oM 11 34]))
def oc:bg:=⟨2,145,al [bZ 4 false] (al [oM 25 0,oO 26 (.callM 7 [(.t 25)]),oM 5 26] (al [oO 6 (.alloc [aN,aN,aj,af,af,af,aj,aj])] (al [fb 7] (al [oO 8 (.alloc [af,af,aj,aj])] (al [aX 9 0,oO 10 (.mv (.k (.c (.d (.int .u64 1000)))))] (.seq (al [aX 11 0] (.block 0 (.loop eT))) (al [oO 144 (.call 13 [] none),oM 4 144] .ret))))))),[(4,none)]⟩
theorem yF:a7 Try.prog { lx:=[(141,[6,8]),(143,[6,8])],mt:=[26,37,41,49,54,78] } Try.f3=some oc:=by kernel_rfl
set_option maxHeartbeats 1600000 in
theorem zq (G:ap) (l:List Int) (hl1:l.length≤maxLen) (hl2:∀ n∈l,lG n) (fo:Bool) :br Try.prog G 3 [.sl (l.map zD),.bool fo] (.w (.c (.d (.bool true)))):=by
  refine cq Try.func3 yF rfl rfl ?_;have hl:l.length≤9223372036854775807:=by unfold maxLen at hl1; omega
  have cn:=Bw G l;have ck:=yD G;obtain⟨N,hN⟩:∃ N,1+l.length%8=N:=⟨_,rfl⟩
  have hN8:N≤8:=by omega
  have hm:Int.tmod (l.length:Int) 8=((l.length%8:Nat):Int):=rfl;have hNi:1+((l.length%8:Nat):Int)=(N:Int):=by omega
  simp only[oc,aE,ae,aa,seval,iteOmega,toNatUp];refine Bt [.c (.d (.sl (l.map zD)))] [(1,1000)] cn ?_ rfl ?_ rfl rfl ?_
  ·simp only[ae,aa,seval,iteOmega,toNatUp] <;> rfl
  ·trivial
  simp only[wY,ae,aa,seval,iteOmega,toNatUp,BO,B0,eV];refine rR (fa l fo) (fun s=>N-s.n) (wL l N) ⟨0,0,1000,0,0,0,0,[],0⟩ ?_ ?_ ?_
  ·exact⟨CC _,CC _,⟨by decide,by decide⟩,⟨by decide,by decide⟩,fun p hp=>(by cases hp),CC _,fun _=>⟨rfl,rfl,rfl,rfl⟩,fun h=>absurd h (by decide)⟩
  ·refine eu (fun i=>i) ?_ ?_ rfl rfl <;> simp only[cZ,c9,c8,aV.z,wx,d9,ea,aa,seval,iteOmega,toNatUp,eV] <;> first | rfl | exact⟨rfl,rfl⟩ | skip
  ·rintro⟨n,C,Sv,b1,b4,b2,b3,m,a⟩ ⟨q1,q2,⟨q3,q4⟩,⟨q5,q6⟩,q7,q8,q9,q10⟩;simp only at q1 q2 q3 q4 q5 q6 q7 q8 q9 q10;by_cases hlt:n<N
   ·have k1:=hC G l a 20 hl q2 (by decide) (by decide);have w1:=ik (cV l a) 20 (by decide);obtain⟨a1,h1,e1⟩:∃ y,y≤l.length∧dN l a=y:=⟨_,gY q2,rfl⟩
    have k2:=hC G l a1 20 hl h1 (by decide) (by decide);have w2:=ik (cV l a1) 20 (by decide);obtain⟨a2,h2,e2⟩:∃ y,y≤l.length∧dN l a1=y:=⟨_,gY h1,rfl⟩
    have k3:=hC G l a2 30 hl h2 (by decide) (by decide);have w3:=ik (cV l a2) 30 (by decide);obtain⟨a3,h3,e3⟩:∃ y,y≤l.length∧dN l a2=y:=⟨_,gY h2,rfl⟩
    have k4:=hC G l a3 5 hl h3 (by decide) (by decide);have w4:=ik (cV l a3) 5 (by decide);obtain⟨a4,h4,e4⟩:∃ y,y≤l.length∧dN l a3=y:=⟨_,gY h3,rfl⟩
    have k5:=BA G l a4 2 hl h4 (by decide) (by decide);obtain⟨a5,h5,e5⟩:∃ y,y≤l.length∧dN l a4=y:=⟨_,gY h4,rfl⟩
    obtain⟨bo,hbo⟩:∃ b,decide (da (cV l a4) 2=2-1)=b:=⟨_,rfl⟩
    rw[e1] at k1;rw[e2] at k2;rw[e3] at k3;rw[e4] at k4;rw[e5,hbo] at k5;clear hbo e1 e2 e3 e4 e5;generalize da (cV l a) 20=x1 at *
    generalize da (cV l a1) 20=x2 at *
    generalize da (cV l a2) 30=x3 at *
    generalize da (cV l a3) 5=x4 at *
    obtain⟨t2,ht2⟩:∃ t2:Nat,(Sv:Int)+(1+x2)=(t2:Int):=⟨((Sv:Int)+(1+x2)).toNat,by omega⟩
    obtain⟨t3,ht3⟩:∃ t3:Nat,(t2:Int)+x4=(t3:Int):=⟨((t2:Int)+x4).toNat,by omega⟩
    obtain⟨T,hT⟩:∃ T,(n+1)*1000003=T:=⟨_,rfl⟩
    obtain⟨t1,ht1⟩:∃ t1,C+x1=t1:=⟨_,rfl⟩
    obtain⟨t4,ht4⟩:∃ t4,t1+x3=t4:=⟨_,rfl⟩
    have v1:cP t1=true:=lf ⟨by omega,by omega⟩;have v4:cP t4=true:=lf ⟨by omega,by omega⟩;have hT0:T≠0:=by omega
    have ltT:(n:Int)+1<10:=by omega
    have aY:∀ (mm:List (Nat×Nat)) (az:Nat),(mm=[]∨mm=m)→az≤l.length→wL l N ⟨n+1,t4,t3,t1,t4,t2,t3,(t2,t3)::mm.take 7,az⟩:=by
      intro mm az hmm haz;have hm7:∀ p∈mm,p.1≤Sv:=by
        rcases hmm with rfl | rfl
        ·intro p hp; cases hp
        ·exact q7
      refine⟨by simp only; omega,haz,⟨by simp only; omega,by simp only; omega⟩,⟨by simp only; omega,by simp only; omega⟩,?_,?_,fun h=>absurd h (by simp),fun _=>⟨⟨by simp only; omega,by simp only; omega,by simp only; omega⟩,by simp only; omega,_,rfl⟩⟩
      ·intro p hp;rcases Ce.1 hp with rfl | hp
       ·simp only; omega
       ·have:=hm7 p (Cv hp);simp only; omega
      ·have:mm.length≤n:=by
         rcases hmm with rfl | rfl
         ·exact CC _
         ·exact q8
       simp only[List.length_cons,B6]; omega
    have srv:∀ (mm:List (Nat×Nat)) (o r:Nat),(mm=[]∨mm=m)→br Try.prog G 11 [.sl (mm.map bG),aU ⟨0,4,3,0,6,0,0,0,0,0,o,r,T⟩,.int .i64 2,.int .u64 (t2:Int),.int .u64 (t3:Int)] (.tup [.c (.d (.sl (((t2,t3)::mm.take 7).map bG))),.c (.d (aU (fi ⟨0,4,3,0,6,0,0,0,0,0,o,r,T⟩ 2 t2 t3 (cU mm ⟨0,4,3,0,6,0,0,0,0,0,o,r,T⟩)))),.c (.d (.bool (cU mm ⟨0,4,3,0,6,0,0,0,0,0,o,r,T⟩).isSome)),.c (.d (.int .i64 0))]):=fun mm o r hmm=>by
      have hl8:mm.length≤8:=by
        rcases hmm with rfl | rfl
        ·exact CC _
        ·omega
      have hne:∀ p∈mm,p.1≠t2:=by
        rcases hmm with rfl | rfl
        ·intro p hp; cases hp
        ·intro p hp; have:=q7 p hp; omega
      obtain⟨y1,y2,y3,y4⟩:=Bj (m:=mm) (o:=o) (r:=r) (T:=T) (t2:=t2) (t3:=t3) hl8 hne;have c:=v3 G mm (by omega) ⟨0,4,3,0,6,0,0,0,0,0,o,r,T⟩ 2 t2 t3;rw[y1,y2,y3,y4] at c;exact c
    cases n with
    | zero =>
      obtain⟨rfl,rfl,rfl,rfl⟩:=q9 rfl;obtain rfl:m=[]:=Co (by omega);have hTi:(1000003:Int)=(T:Int):=by omega
      have hTm:(0+1)*1000003=T:=hT;obtain⟨y1,y2,y3⟩:=Al hT0 v1;have c1:=lq G .z T t1;rw[y1,y2,y3] at c1;have c2:=srv [] 0 0 (.inl rfl);have c3:=jg G ⟨true,false,T,t1,0,0,0,0⟩ ⟨0,4,4,2,6,-20,0,0,0,0,T,t2,t3⟩ t4;obtain⟨z1,z2,z3⟩:=sN (k:=false) (T:=T) (M:=0) (t2:=t2) (t3:=t3) (s:=0) (g:=0) (b2:=0) v4 (show t1≤t4 by omega);rw[z1,z2,z3] at c3;rw[show cU [] ⟨0,4,3,0,6,0,0,0,0,0,0,0,T⟩=none from rfl] at c2;simp only[fi,Option.isSome_none] at c2;clear y1 y2 y3 z1 z2 z3 srv v1 v4 q7 q10 hT;unfold bW aV.z at c1;unfold bW dt at c3;unfold aU at *
      cases fo
      ·simp only[eT,fa,cZ,c9,c8,aV.z,ae,aa,seval,iteOmega,toNatUp,hm,hNi];refine bi (id:=1000) (ws:=[.c (.ptr 1000 1 0 0),.c (.d (.int .i64 20))]) k1 (by simp only[ae,aa,seval,iteOmega,toNatUp,BO,B0]) rfl (by simp only[ae,aa,seval,iteOmega,toNatUp]) rfl ?_;simp only[bh,aZ,ae,aa,seval,iteOmega,toNatUp,ht1];refine bi (id:=1000) (ws:=[.c (.ptr 1000 1 0 0),.c (.d (.int .i64 20))]) k2 (by simp only[ae,aa,seval,iteOmega,toNatUp,BO,B0]) rfl (by simp only[ae,aa,seval,iteOmega,toNatUp]) rfl ?_;simp only[bh,aZ,ae,aa,seval,iteOmega,toNatUp,ht2];refine bi (id:=1000) (ws:=[.c (.ptr 1000 1 0 0),.c (.d (.int .i64 30))]) k3 (by simp only[ae,aa,seval,iteOmega,toNatUp,BO,B0]) rfl (by simp only[ae,aa,seval,iteOmega,toNatUp]) rfl ?_;simp only[bh,aZ,ae,aa,seval,iteOmega,toNatUp,ht4];refine bi (id:=1000) (ws:=[.c (.ptr 1000 1 0 0),.c (.d (.int .i64 5))]) k4 (by simp only[ae,aa,seval,iteOmega,toNatUp,BO,B0]) rfl (by simp only[ae,aa,seval,iteOmega,toNatUp]) rfl ?_;simp only[bh,aZ,ae,aa,seval,iteOmega,toNatUp,ht3,hTi,Int.one_mul];refine sD (c1) ?_;refine sC (c2) ?_;simp only[BO,ae,aa,seval,iteOmega,toNatUp];refine sD (c3) ?_;refine ft ⟨0+1,t4,t3,t1,t4,t2,t3,(t2,t3)::([]).take 7,a4⟩ (by simp only; omega) (aY [] a4 (.inl rfl) h4) (eu (fun i=>i) ?_ ?_ rfl rfl) <;> simp only[cZ,c9,c8,hTm,wx,d9,ea,aa,seval,iteOmega,toNatUp,eV,BO] <;> first | rfl | exact⟨rfl,rfl⟩ | skip
      ·cases bo
       ·simp only[eT,fa,cZ,c9,c8,aV.z,ae,aa,seval,iteOmega,toNatUp,hm,hNi];refine bi (id:=1000) (ws:=[.c (.ptr 1000 1 0 0),.c (.d (.int .i64 20))]) k1 (by simp only[ae,aa,seval,iteOmega,toNatUp,BO,B0]) rfl (by simp only[ae,aa,seval,iteOmega,toNatUp]) rfl ?_;simp only[bh,aZ,ae,aa,seval,iteOmega,toNatUp,ht1];refine bi (id:=1000) (ws:=[.c (.ptr 1000 1 0 0),.c (.d (.int .i64 20))]) k2 (by simp only[ae,aa,seval,iteOmega,toNatUp,BO,B0]) rfl (by simp only[ae,aa,seval,iteOmega,toNatUp]) rfl ?_;simp only[bh,aZ,ae,aa,seval,iteOmega,toNatUp,ht2];refine bi (id:=1000) (ws:=[.c (.ptr 1000 1 0 0),.c (.d (.int .i64 30))]) k3 (by simp only[ae,aa,seval,iteOmega,toNatUp,BO,B0]) rfl (by simp only[ae,aa,seval,iteOmega,toNatUp]) rfl ?_;simp only[bh,aZ,ae,aa,seval,iteOmega,toNatUp,ht4];refine bi (id:=1000) (ws:=[.c (.ptr 1000 1 0 0),.c (.d (.int .i64 5))]) k4 (by simp only[ae,aa,seval,iteOmega,toNatUp,BO,B0]) rfl (by simp only[ae,aa,seval,iteOmega,toNatUp]) rfl ?_;simp only[bh,aZ,ae,aa,seval,iteOmega,toNatUp,ht3,hTi,Int.one_mul];refine sD (c1) ?_;refine bi (id:=1000) (ws:=[.c (.ptr 1000 1 0 0),.c (.d (.int .i64 2))]) k5 (by simp only[ae,aa,seval,iteOmega,toNatUp,BO,B0]) rfl (by simp only[ae,aa,seval,iteOmega,toNatUp]) rfl ?_;simp only[bh,aZ,ae,aa,seval,iteOmega,toNatUp];refine sC (c2) ?_;simp only[BO,ae,aa,seval,iteOmega,toNatUp];refine sD (c3) ?_;refine ft ⟨0+1,t4,t3,t1,t4,t2,t3,(t2,t3)::([]).take 7,a5⟩ (by simp only; omega) (aY [] a5 (.inl rfl) h5) (eu (fun i=>i) ?_ ?_ rfl rfl) <;> simp only[cZ,c9,c8,hTm,wx,d9,ea,aa,seval,iteOmega,toNatUp,eV,BO] <;> first | rfl | exact⟨rfl,rfl⟩ | skip
       ·simp only[eT,fa,cZ,c9,c8,aV.z,ae,aa,seval,iteOmega,toNatUp,hm,hNi];refine bi (id:=1000) (ws:=[.c (.ptr 1000 1 0 0),.c (.d (.int .i64 20))]) k1 (by simp only[ae,aa,seval,iteOmega,toNatUp,BO,B0]) rfl (by simp only[ae,aa,seval,iteOmega,toNatUp]) rfl ?_;simp only[bh,aZ,ae,aa,seval,iteOmega,toNatUp,ht1];refine bi (id:=1000) (ws:=[.c (.ptr 1000 1 0 0),.c (.d (.int .i64 20))]) k2 (by simp only[ae,aa,seval,iteOmega,toNatUp,BO,B0]) rfl (by simp only[ae,aa,seval,iteOmega,toNatUp]) rfl ?_;simp only[bh,aZ,ae,aa,seval,iteOmega,toNatUp,ht2];refine bi (id:=1000) (ws:=[.c (.ptr 1000 1 0 0),.c (.d (.int .i64 30))]) k3 (by simp only[ae,aa,seval,iteOmega,toNatUp,BO,B0]) rfl (by simp only[ae,aa,seval,iteOmega,toNatUp]) rfl ?_;simp only[bh,aZ,ae,aa,seval,iteOmega,toNatUp,ht4];refine bi (id:=1000) (ws:=[.c (.ptr 1000 1 0 0),.c (.d (.int .i64 5))]) k4 (by simp only[ae,aa,seval,iteOmega,toNatUp,BO,B0]) rfl (by simp only[ae,aa,seval,iteOmega,toNatUp]) rfl ?_;simp only[bh,aZ,ae,aa,seval,iteOmega,toNatUp,ht3,hTi,Int.one_mul];refine sD (c1) ?_;refine bi (id:=1000) (ws:=[.c (.ptr 1000 1 0 0),.c (.d (.int .i64 2))]) k5 (by simp only[ae,aa,seval,iteOmega,toNatUp,BO,B0]) rfl (by simp only[ae,aa,seval,iteOmega,toNatUp]) rfl ?_;simp only[bh,aZ,ae,aa,seval,iteOmega,toNatUp];refine sC (c2) ?_;simp only[BO,ae,aa,seval,iteOmega,toNatUp];refine sD (c3) ?_;refine ft ⟨0+1,t4,t3,t1,t4,t2,t3,(t2,t3)::([]).take 7,a5⟩ (by simp only; omega) (aY [] a5 (.inl rfl) h5) (eu (fun i=>i) ?_ ?_ rfl rfl) <;> simp only[cZ,c9,c8,hTm,wx,d9,ea,aa,seval,iteOmega,toNatUp,eV,BO] <;> first | rfl | exact⟨rfl,rfl⟩ | skip
    | succ n =>
      obtain⟨⟨b5,b6,b7⟩,b8,r,hr⟩:=q10 (by omega);have hmm:m=(b2,b3)::r:=hr;subst hmm;clear hr;have hr:(b2,b3)::r=(b2,b3)::r:=rfl;obtain⟨M,hM⟩:∃ M,(n+1)*1000003=M:=⟨_,rfl⟩
      have hMi:((n+1)*1000003:Nat)=M:=hM;have hTi:((n:Int)+1+1)*1000003=(T:Int):=by omega
      have hTm:(n+1+1)*1000003=T:=hT;have hMT:M≠T:=by omega
      obtain⟨y1,y2,y3⟩:=Am (b1:=b1) (b4:=b4) (b2:=b2) (M:=M) hT0 (fun e=>hMT e.symm) v1;have c1:=lq G ⟨false,true,0,0,b1,b4,b2,M⟩ T t1;rw[y1,y2,y3] at c1;unfold bW at c1;have cs:=fun mm h=>srv mm b2 M h
      have iA:cU ((b2,b3)::r) ⟨0,4,3,0,6,0,0,0,0,0,b2,M,T⟩=some (b2,b3):=by
        unfold cU;rw[if_neg (by simp only; omega)];unfold ec;rw[List.find?_cons_of_pos (by simp)]
      have iB:cU [] ⟨0,4,3,0,6,0,0,0,0,0,b2,M,T⟩=none:=by
        unfold cU;rw[if_neg (by simp only; omega)]; rfl
      obtain⟨z1,z2,z3⟩:=An (T:=T) (M:=M) (t2:=t2) (t3:=b3) (s:=b1) (g:=b4) (b2:=b2) v4 (show t1≤t4 by omega) hMT;obtain⟨z4,z5,z6⟩:=sN (k:=true) (T:=T) (M:=M) (t2:=t2) (t3:=t3) (s:=b1) (g:=b4) (b2:=b2) v4 (show t1≤t4 by omega);have cI:=jg G ⟨true,true,T,t1,b1,b4,b2,M⟩ ⟨0,4,4,2,6,-20,0,0,0,0,M,t2,b3⟩ t4;have cB:=jg G ⟨true,true,T,t1,b1,b4,b2,M⟩ ⟨0,4,4,2,6,-20,0,0,0,0,T,t2,t3⟩ t4;rw[z1,z2,z3] at cI;rw[z4,z5,z6] at cB;have sI:=cs ((b2,b3)::r) (.inr rfl);have sB:=cs [] (.inl rfl);rw[iA] at sI;rw[iB] at sB;simp only[fi,Option.isSome_none,Option.isSome_some] at sI sB;clear y1 y2 y3 z1 z2 z3 z4 z5 z6 srv cs v1 v4 q7 q10 q9 hT hMT iA iB;unfold bW dt at cI cB;unfold aU at *
      have c3:=cI;have c2:=sI;cases fo
      ·simp only[eT,fa,cZ,c9,c8,aV.z,ae,aa,seval,iteOmega,toNatUp,hm,hNi,hMi];refine bi (id:=1000) (ws:=[.c (.ptr 1000 1 0 0),.c (.d (.int .i64 20))]) k1 (by simp only[ae,aa,seval,iteOmega,toNatUp,BO,B0]) rfl (by simp only[ae,aa,seval,iteOmega,toNatUp]) rfl ?_;simp only[bh,aZ,ae,aa,seval,iteOmega,toNatUp,ht1];refine bi (id:=1000) (ws:=[.c (.ptr 1000 1 0 0),.c (.d (.int .i64 20))]) k2 (by simp only[ae,aa,seval,iteOmega,toNatUp,BO,B0]) rfl (by simp only[ae,aa,seval,iteOmega,toNatUp]) rfl ?_;simp only[bh,aZ,ae,aa,seval,iteOmega,toNatUp,ht2];refine bi (id:=1000) (ws:=[.c (.ptr 1000 1 0 0),.c (.d (.int .i64 30))]) k3 (by simp only[ae,aa,seval,iteOmega,toNatUp,BO,B0]) rfl (by simp only[ae,aa,seval,iteOmega,toNatUp]) rfl ?_;simp only[bh,aZ,ae,aa,seval,iteOmega,toNatUp,ht4];refine bi (id:=1000) (ws:=[.c (.ptr 1000 1 0 0),.c (.d (.int .i64 5))]) k4 (by simp only[ae,aa,seval,iteOmega,toNatUp,BO,B0]) rfl (by simp only[ae,aa,seval,iteOmega,toNatUp]) rfl ?_;simp only[bh,aZ,ae,aa,seval,iteOmega,toNatUp,ht3,hTi];refine sD (c1) ?_;refine sC (c2) ?_;simp only[BO,ae,aa,seval,iteOmega,toNatUp];refine sD (c3) ?_;refine ft ⟨n+1+1,t4,t3,t1,t4,t2,t3,(t2,t3)::(((b2,b3)::r)).take 7,a4⟩ (by simp only; omega) (aY ((b2,b3)::r) a4 (.inr hr) h4) (eu (fun i=>i) ?_ ?_ rfl rfl) <;> simp only[cZ,c9,c8,hTm,wx,d9,ea,aa,seval,iteOmega,toNatUp,eV,BO] <;> first | rfl | exact⟨rfl,rfl⟩ | skip
      ·cases bo
       ·simp only[eT,fa,cZ,c9,c8,aV.z,ae,aa,seval,iteOmega,toNatUp,hm,hNi,hMi];refine bi (id:=1000) (ws:=[.c (.ptr 1000 1 0 0),.c (.d (.int .i64 20))]) k1 (by simp only[ae,aa,seval,iteOmega,toNatUp,BO,B0]) rfl (by simp only[ae,aa,seval,iteOmega,toNatUp]) rfl ?_;simp only[bh,aZ,ae,aa,seval,iteOmega,toNatUp,ht1];refine bi (id:=1000) (ws:=[.c (.ptr 1000 1 0 0),.c (.d (.int .i64 20))]) k2 (by simp only[ae,aa,seval,iteOmega,toNatUp,BO,B0]) rfl (by simp only[ae,aa,seval,iteOmega,toNatUp]) rfl ?_;simp only[bh,aZ,ae,aa,seval,iteOmega,toNatUp,ht2];refine bi (id:=1000) (ws:=[.c (.ptr 1000 1 0 0),.c (.d (.int .i64 30))]) k3 (by simp only[ae,aa,seval,iteOmega,toNatUp,BO,B0]) rfl (by simp only[ae,aa,seval,iteOmega,toNatUp]) rfl ?_;simp only[bh,aZ,ae,aa,seval,iteOmega,toNatUp,ht4];refine bi (id:=1000) (ws:=[.c (.ptr 1000 1 0 0),.c (.d (.int .i64 5))]) k4 (by simp only[ae,aa,seval,iteOmega,toNatUp,BO,B0]) rfl (by simp only[ae,aa,seval,iteOmega,toNatUp]) rfl ?_;simp only[bh,aZ,ae,aa,seval,iteOmega,toNatUp,ht3,hTi];refine sD (c1) ?_;refine bi (id:=1000) (ws:=[.c (.ptr 1000 1 0 0),.c (.d (.int .i64 2))]) k5 (by simp only[ae,aa,seval,iteOmega,toNatUp,BO,B0]) rfl (by simp only[ae,aa,seval,iteOmega,toNatUp]) rfl ?_;simp only[bh,aZ,ae,aa,seval,iteOmega,toNatUp];refine sC (c2) ?_;simp only[BO,ae,aa,seval,iteOmega,toNatUp];refine sD (c3) ?_;refine ft ⟨n+1+1,t4,t3,t1,t4,t2,t3,(t2,t3)::(((b2,b3)::r)).take 7,a5⟩ (by simp only; omega) (aY ((b2,b3)::r) a5 (.inr hr) h5) (eu (fun i=>i) ?_ ?_ rfl rfl) <;> simp only[cZ,c9,c8,hTm,wx,d9,ea,aa,seval,iteOmega,toNatUp,eV,BO] <;> first | rfl | exact⟨rfl,rfl⟩ | skip
       ·clear c2 c3;have c2:=sB;have c3:=cB;simp only[eT,fa,cZ,c9,c8,aV.z,ae,aa,seval,iteOmega,toNatUp,hm,hNi,hMi];refine bi (id:=1000) (ws:=[.c (.ptr 1000 1 0 0),.c (.d (.int .i64 20))]) k1 (by simp only[ae,aa,seval,iteOmega,toNatUp,BO,B0]) rfl (by simp only[ae,aa,seval,iteOmega,toNatUp]) rfl ?_;simp only[bh,aZ,ae,aa,seval,iteOmega,toNatUp,ht1];refine bi (id:=1000) (ws:=[.c (.ptr 1000 1 0 0),.c (.d (.int .i64 20))]) k2 (by simp only[ae,aa,seval,iteOmega,toNatUp,BO,B0]) rfl (by simp only[ae,aa,seval,iteOmega,toNatUp]) rfl ?_;simp only[bh,aZ,ae,aa,seval,iteOmega,toNatUp,ht2];refine bi (id:=1000) (ws:=[.c (.ptr 1000 1 0 0),.c (.d (.int .i64 30))]) k3 (by simp only[ae,aa,seval,iteOmega,toNatUp,BO,B0]) rfl (by simp only[ae,aa,seval,iteOmega,toNatUp]) rfl ?_;simp only[bh,aZ,ae,aa,seval,iteOmega,toNatUp,ht4];refine bi (id:=1000) (ws:=[.c (.ptr 1000 1 0 0),.c (.d (.int .i64 5))]) k4 (by simp only[ae,aa,seval,iteOmega,toNatUp,BO,B0]) rfl (by simp only[ae,aa,seval,iteOmega,toNatUp]) rfl ?_;simp only[bh,aZ,ae,aa,seval,iteOmega,toNatUp,ht3,hTi];refine sD (c1) ?_;refine bi (id:=1000) (ws:=[.c (.ptr 1000 1 0 0),.c (.d (.int .i64 2))]) k5 (by simp only[ae,aa,seval,iteOmega,toNatUp,BO,B0]) rfl (by simp only[ae,aa,seval,iteOmega,toNatUp]) rfl ?_;simp only[bh,aZ,ae,aa,seval,iteOmega,toNatUp];refine sC (c2) ?_;simp only[BO,ae,aa,seval,iteOmega,toNatUp];refine sD (c3) ?_;refine ft ⟨n+1+1,t4,t3,t1,t4,t2,t3,(t2,t3)::([]).take 7,a5⟩ (by simp only; omega) (aY [] a5 (.inl rfl) h5) (eu (fun i=>i) ?_ ?_ rfl rfl) <;> simp only[cZ,c9,c8,hTm,wx,d9,ea,aa,seval,iteOmega,toNatUp,eV,BO] <;> first | rfl | exact⟨rfl,rfl⟩ | skip
   ·obtain rfl:n=N:=by omega
    simp only[eT,fa,ae,aa,seval,iteOmega,toNatUp,hm,hNi];refine sD (ck) ?_;exact bz
end Go.Proofs.Yteohdchecapkfaa
