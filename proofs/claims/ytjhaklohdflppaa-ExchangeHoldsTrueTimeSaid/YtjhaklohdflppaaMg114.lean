/- Texts of one's own, merged: from: Layer 11 on data: the program: results made by function literals; Common. Own work. -/
import Derived.Shelf.Abstract
import Derived.Test.YtjhaklohdflppaaMg18
import Derived.Test.YtjhaklohdflppaaMg113
import Derived.Test.YtjhaklohdflppaaMg111
import Derived.Test.YtjhaklohdflppaaMg115
import Derived.Test.YtjhaklohdflppaaMg17
import Derived.Test.YtjhaklohdflppaaMg112
import Derived.Test.YtjhaklohdflppaaMg19
set_option linter.unusedVariables false
set_option linter.unusedSimpArgs false
namespace Go.Proofs.Ytjhaklohdflppaa
open Go.RowKit
open IntWalk
def nI (n m:Int):Bool:=decide (0≤n∧n≤m)
theorem mZ {n m:Int} (h:0≤n∧n≤m):nI n m=true:=decide_eq_true h
theorem kk {n m:Int} (h:¬ (0≤n∧n≤m)):nI n m=false:=decide_eq_false h
def j9:aV:=⟨2,12,am [dk 4 false] (am [oM 5 0,aY .geq 6 5 0,oM 7 6,aZ 8 0 7 true,aZ 9 1 7 true,dU .leq 10 8 9 7 true,bP 11 7 10,oM 4 11] .ret),[(4,none)]⟩
theorem C2:aR Try.prog {} Try.f35=some j9:=by kernel_rfl
theorem ya (G:av) (n m:Int):bd Try.prog G 35 [.int .i64 n,.int .i64 m] (.w (.c (.d (.bool (nI n m))))):=by
  refine bI Try.func35 C2 rfl rfl ?_;by_cases h:n≥0
  ·by_cases h2:n≤m
   ·rw[mZ ⟨h,h2⟩];simp only[j9,aw,ah,af,seval,iteOmega,toNatUp,eq_true h,eq_true h2];exact aF
   ·rw[kk (by omega)];simp only[j9,aw,ah,af,seval,iteOmega,toNatUp,eq_true h,eq_false h2];exact aF
  ·rw[kk (by omega)];simp only[j9,aw,ah,af,seval,iteOmega,toNatUp,eq_false h];exact aF
def jP:aV:=⟨2,11,am [dk 4 false] (am [oM 5 0,oO 6 (.call 35 [(.t 5),(kI 576460752303423488)] none),oM 7 6,aZ 8 1 7 true,oG 9 (.call 35 [(.t 8),(kI 1000000)] none) 7 true,bP 10 7 9,oM 4 10] .ret),[(4,none)]⟩
theorem Cb:aR Try.prog {} Try.f28=some jP:=by kernel_rfl
theorem C3 (G:av) (d p:Int):bd Try.prog G 28 [.int .i64 d,.int .i64 p] (.w (.c (.d (.bool (cJ d p))))):=by
  refine bI Try.func28 Cb rfl rfl ?_;have c1:=ya G d 576460752303423488;have c2:=ya G p 1000000;by_cases h1:0≤d∧d≤576460752303423488
  ·rw[mZ h1] at c1;by_cases h2:0≤p∧p≤1000000
   ·rw[mZ h2] at c2;rw[mY ⟨h1.1,h1.2,h2⟩];simp only[jP,aw,ah,af,seval,iteOmega,toNatUp];refine sD (c1) ?_;refine sD (c2) ?_;exact aF
   ·rw[kk h2] at c2;rw[hF (fun h=>h2 h.2.2)];simp only[jP,aw,ah,af,seval,iteOmega,toNatUp];refine sD (c1) ?_;refine sD (c2) ?_;exact aF
  ·rw[kk h1] at c1;rw[hF (fun h=>h1 ⟨h.1,h.2.1⟩)];simp only[jP,aw,ah,af,seval,iteOmega,toNatUp];refine sD (c1) ?_;exact aF
theorem C4 {d r:Int} (h:999000000≤r) (h2:r≤1001000000):0≤(d-d / r*r)∧(d-d / r*r)≤1001000000∧0≤(d-d / r*r)*1000000000∧(d-d / r*r)*1000000000≤1001000000000000000:=by
  rw[sk];have e2:=E4 d (show r≠0 by omega);have e3:=EZ d (show 0<r by omega);generalize d%r=x at *
  omega
def ut:aV:=⟨3,33,am [aS 6 0] (am [oM 12 0,oM 13 1,oO 14 (.call 36 [(.t 12),(.t 13),(.k (.c ij))] none),oM 11 14,cH 15 11 0,cH 16 11 1,oM 7 15,oM 8 16] (am [oM 18 0,oM 19 7,oM 20 1,aJ .mul 21 19 20,aJ .sub 22 18 21,aY .mul 23 22 1000000000,oM 24 1,oM 25 2,gg 26 36 23 24 25,oM 17 26,cH 27 17 0,cH 28 17 1,oM 9 27,oM 10 28] (am [oM 29 7,aY .mul 30 29 1000000000,oM 31 9,aJ .add 32 30 31,oM 6 32] .ret))),[(6,none)]⟩
theorem Cc:aR Try.prog {} Try.f29=some ut:=by kernel_rfl
theorem wV (G:av) (d r:Int) (up:Bool) (h1:0≤d) (h2:d≤576460752303423488) (r1:999000000≤r) (r2:r≤1001000000):bd Try.prog G 29 [.int .i64 d,.int .i64 r,.bool up] (.w (.c (.d (.int .i64 (if up=true then dp (d*1000000000) r else d*1000000000 / r))))):=by
  refine bI Try.func29 Cc rfl rfl ?_;obtain⟨m1,m2,m3,m4⟩:=C4 (d:=d) r1 r2;have ck:=uq d 1000000000 (c:=r) (by omega) up;have q1:0≤d / r:=Int.ediv_nonneg h1 (by omega);have q2:d / r≤577037790:=by
    have:d / r≤d / 999000000:=by
      rw[Int.le_ediv_iff_mul_le (by decide)];have a:=ER r1 q1;have b:=Int.ediv_mul_le d (show r≠0 by omega);omega
    omega
  have c1:=xY G d r false (by omega) (by omega);have c2:=xY G ((d-d / r*r)*1000000000) r up (by omega) (by omega);unfold nu ns at c1 c2;rw[de (by omega),if_neg (by simp; omega),if_neg (by simp; omega),pY] at c1;rw[de (by omega),if_neg (by simp; omega),if_neg (by simp; omega)] at c2;have q3:=(si ((d-d / r*r)*1000000000) (show 1≤r by omega) up).1 m3;rw[← ck];have qr:d / r*r≤d:=Int.ediv_mul_le d (by omega);have qr0:0≤d / r*r:=Int.mul_nonneg q1 (by omega);clear ck;generalize cu ((d-d / r*r)*1000000000) r up=R at *
  generalize hX:d / r*r=X at *
  generalize d / r=Q at *
  simp only[ut,aw,ah,af,seval,iteOmega,toNatUp];refine sC (c1) ?_;simp only[hX,ah,af,seval,iteOmega,toNatUp];refine sD (c2) ?_;exact aF
def mu:aV:=⟨2,20,am [oO 4 (.alloc [ao,ao]),aS 5 0] (.seq (am [oM 6 0,oM 7 1,dW 8 28 6 7,gd 9 8] (bH 9 (am [oO 10 (.build [ao,ao] []),bO 2 4 10,aS 5 4] .ret) .skip)) (am [oM 11 0,oM 12 1,oO 13 (.bin .add (kI 1000000000) (.t 12)),oO 14 (.call 29 [(.t 11),(.t 13),(.k (.c ij))] none),oM 15 0,oM 16 1,oO 17 (.bin .sub (kI 1000000000) (.t 16)),oO 18 (.call 29 [(.t 15),(.t 17),(.k (.c (.d (.bool true))))] none),oO 19 (.build [ao,ao] [(0,1,(.t 14)),(1,1,(.t 18))]),bO 2 4 19,aS 5 0] .ret)),[(4,(some (.ag 2))),(5,none)]⟩
theorem Cd:aR Try.prog {} Try.f18=some mu:=by kernel_rfl
theorem C5 (G:av) (d p:Int):bd Try.prog G 18 [.int .i64 d,.int .i64 p] (.tup [.c (.d (cF (cJ d p) (fR d p) (cI d p))),.c (.d (.int .i64 (gF d p)))]):=by
  refine bI Try.func18 Cd rfl rfl ?_;have c1:=C3 G d p;unfold cF gF;cases hv:cJ d p
  ·rw[hv] at c1;simp only[mu,aw,ah,af,seval,iteOmega,toNatUp];refine sD (c1) ?_;exact dc
  ·rw[hv] at c1;obtain⟨h1,h2,h3,h4⟩:=iW hv;have c2:=wV G d (1000000000+p) false h1 h2 (by omega) (by omega);have c3:=wV G d (1000000000-p) true h1 h2 (by omega) (by omega);rw[if_pos rfl] at c3;rw[if_neg (by decide)] at c2;rw[if_pos rfl,if_pos rfl,if_pos rfl];unfold fR cI;generalize d*1000000000 / (1000000000+p)=A at *
   generalize dp (d*1000000000) (1000000000-p)=B at *
   simp only[mu,aw,ah,af,seval,iteOmega,toNatUp];refine sD (c1) ?_;refine sD (c2) ?_;refine sD (c3) ?_;exact dc
set_option maxHeartbeats 1600000
def bN (a b c d e:Int):D:=.agg [.int .i64 a,.int .i64 b,.int .i64 c,.int .i64 d,.int .i64 e]
def dF (a b c d e:Int):Bool:=aP a&&aP b&&aP c&&aP d&&aP e&&decide (0≤e)
def cq (a b c d e:Int):Int:=if dF a b c d e=true then (if d<a∨c<b then 12 else 0) else 4
def fZ (a b c d e:Int):Int:=if cq a b c d e=0 then (if d-a-(c-b)<0 then 20 else 0) else cq a b c d e
def jg (a b c d e:Int):Int:=if fZ a b c d e=0 then (if eP (c-d,b-a)=true then 0 else 4) else fZ a b c d e
def nv (a b c d e:Int):Bool:=decide (jg a b c d e=0)
def eQ (a b c d e p:Int):Int:=if cq a b c d e=0 then (if cJ (d-a) p=true then (if (aP (c-e)&&aP (b+e+cI (d-a) p))=true then (if b+e+cI (d-a) p<c-e then 20 else 0) else 4) else 4) else cq a b c d e
def kT (a b c d e p:Int):Bool:=decide (eQ a b c d e p=0)
theorem dM {t:Int} (h:aP t=true):-1152921504606846976≤t∧t≤1152921504606846976:=of_decide_eq_true h
theorem mN {a b c d e:Int} (h:dF a b c d e=true):aP a=true∧aP b=true∧aP c=true∧aP d=true∧aP e=true∧0≤e:=by
  simp only[dF,Ey,decide_eq_true_eq] at h;obtain⟨⟨⟨⟨⟨h1,h2⟩,h3⟩,h4⟩,h5⟩,h6⟩:=h;exact⟨h1,h2,h3,h4,h5,h6⟩
theorem mO {a b c d e:Int} (h:cq a b c d e=0):dF a b c d e=true∧a≤d∧b≤c:=by
  unfold cq at h;split at h
  ·rename_i hr;split at h
   ·cases h
   ·exact⟨hr,by omega,by omega⟩
  ·cases h
def iX (a b c d e:Int) (i:Nat):St:=⟨em [(1,.w (.c (.rp [.int .i64 a,.int .i64 b,.int .i64 c,.int .i64 d,.int .i64 e]))),(15,.w (.c (.d (bN a b c d e)))),(16,.w (.c (.d (.int .i64 (i:Int)))))],hL [],uL []⟩
def ic (a b c d e:Int) (i:Nat):Int:=[a,b,c,d,e].getD i 0
def iA:aN := am [aY .lss 17 16 5] (.seq (bH 17 .skip (.exit 0)) (.seq (.block 1 (am [oO 18 (.idxArr 1 5 .sc (.t 15) (.t 16)),oM 4 18] (am [oM 19 4,dV 20 19 19,gd 21 20] (bH 21 (am [dk 2 false] .ret) .skip)))) (.reg [aY .add 22 16 1,oM 16 22])))
def wW:aV:=⟨1,26,am [eM 1 0,dk 2 false] (.seq (am [aA 5 0 1,aH 6 5,aA 7 1 1,aH 8 7,aA 9 2 1,aH 10 9,aA 11 3 1,aH 12 11,aA 13 4 1,aH 14 13,oO 15 (.build [ao,ao,ao,ao,ao] [(0,1,(.t 6)),(1,1,(.t 8)),(2,1,(.t 10)),(3,1,(.t 12)),(4,1,(.t 14))]),aS 16 0] (.block 0 (.loop iA))) (am [aA 23 4 1,aH 24 23,aY .geq 25 24 0,oM 2 25] .ret)),[(2,none)]⟩
theorem C6:aR Try.prog {} Try.f27=some wW:=by kernel_rfl
theorem DC (G:av) (a b c d e:Int):bd Try.prog G 27 [bN a b c d e] (.w (.c (.d (.bool (dF a b c d e))))):=by
  refine bI Try.func27 C6 rfl rfl ?_;unfold bN;simp only[wW,aw,ah,af,seval,iteOmega,toNatUp];refine gR (iX a b c d e) (fun i=>5-i) (fun i=>i≤5∧∀ j,j<i→aP (ic a b c d e j)=true) 0 ⟨by omega,fun j hj=>by omega⟩ ?_ ?_
  ·refine dQ (fun i=>i) ?_ ?_ rfl rfl <;> simp only[bN,wx,dK,dL,af,seval,iteOmega,toNatUp] <;> first | rfl | exact⟨rfl,rfl⟩ | skip
  ·rintro i ⟨hi,hok⟩;have no:i<5→aP (ic a b c d e i)=false→dF a b c d e=false:=by
     intro hlt hv;unfold dF;have:i=0∨i=1∨i=2∨i=3∨i=4:=by omega
     rcases this with rfl | rfl | rfl | rfl | rfl
     ·rw[show aP a=false from hv]; rfl
     ·rw[show aP b=false from hv]; simp
     ·rw[show aP c=false from hv]; simp
     ·rw[show aP d=false from hv]; simp
     ·rw[show aP e=false from hv]; simp
   have cv:=d8 G (ic a b c d e i);obtain⟨k,hk⟩:∃ k,k=i+1:=⟨_,rfl⟩
   have:i=0∨i=1∨i=2∨i=3∨i=4∨i=5:=by omega
   rcases this with rfl | rfl | rfl | rfl | rfl | rfl
   case inr.inr.inr.inr.inr =>
     have hr:dF a b c d e=decide (e≥0):=by
       unfold dF;rw[show aP a=true from hok 0 (by omega),show aP b=true from hok 1 (by omega),show aP c=true from hok 2 (by omega),show aP d=true from hok 3 (by omega),show aP e=true from hok 4 (by omega)];rfl
     rw[hr];by_cases h0:e≥0
     ·rw[decide_eq_true h0];simp only[iA,iX,bN,ah,af,seval,iteOmega,toNatUp,eq_true h0];exact aF
     ·rw[decide_eq_false h0];simp only[iA,iX,bN,ah,af,seval,iteOmega,toNatUp,eq_false h0];exact aF
   all_goals
     cases hv:aP (ic a b c d e _)
     ·rw[no (by omega) hv];rw[hv] at cv;simp only[ic,List.getD_cons_zero,List.getD_cons_succ] at cv;simp only[iA,iX,bN,ah,af,seval,iteOmega,toNatUp];refine sD (cv) ?_;exact aF
     ·rw[hv] at cv;simp only[ic,List.getD_cons_zero,List.getD_cons_succ] at cv;simp only[iA,iX,bN,ah,af,seval,iteOmega,toNatUp];refine sD (cv) ?_;refine gq k (by omega) ⟨by omega,fun j hj=>?_⟩ (dQ (fun i=>i) ?_ ?_ rfl rfl)
      ·rw[hk] at hj;rcases Nat.lt_succ_iff_lt_or_eq.1 hj with h | h
       ·exact hok j h
       ·rw[h]; exact hv
      all_goals simp only[hk,bN,wx,dK,dL,af,seval,iteOmega,toNatUp] <;> first | rfl | exact⟨rfl,rfl⟩ | skip
def iR:aV:=⟨1,20,am [eM 1 0,aS 2 0] (.seq (.block 0 (am [da 4 5 1,dV 5 27 4,gd 6 5,oM 3 6] (bH 3 (am [aS 2 4] .ret) (am [aA 8 3 1,aH 9 8,aA 10 0 1,aH 11 10,aJ .lss 12 9 11,oM 13 12,cQ 14 2 1 13 false,cP 15 14 13 false,cQ 16 1 1 13 false,cP 17 16 13 false,dU .lss 18 15 17 13 false,fm 19 13 18,oM 7 19] (bH 7 (am [aS 2 12] .ret) .skip))))) (am [aS 2 0] .ret)),[(2,none)]⟩
theorem C7:aR Try.prog {} Try.f17=some iR:=by kernel_rfl
theorem yb (G:av) (a b c d e:Int):bd Try.prog G 17 [bN a b c d e] (.w (.c (.d (.int .i64 (cq a b c d e))))):=by
  refine bI Try.func17 C7 rfl rfl ?_;have c1:=DC G a b c d e;unfold cq;unfold bN at *
  cases hr:dF a b c d e
  ·rw[hr] at c1;simp only[iR,aw,ah,af,seval,iteOmega,toNatUp];refine sD (c1) ?_;exact aF
  ·rw[hr] at c1;rw[if_pos rfl];by_cases h1:d<a
   ·rw[if_pos (.inl h1)];simp only[iR,aw,ah,af,seval,iteOmega,toNatUp,eq_true h1];refine sC (c1) ?_;simp only[eq_true h1,ah,af,seval,iteOmega,toNatUp];exact aF
   ·by_cases h2:c<b
    ·rw[if_pos (.inr h2)];simp only[iR,aw,ah,af,seval,iteOmega,toNatUp];refine sC (c1) ?_;simp only[eq_false h1,eq_true h2,ah,af,seval,iteOmega,toNatUp];exact aF
    ·rw[if_neg (by omega)];simp only[iR,aw,ah,af,seval,iteOmega,toNatUp];refine sC (c1) ?_;simp only[eq_false h1,eq_false h2,ah,af,seval,iteOmega,toNatUp];exact aF
def wX:aV:=⟨1,14,am [eM 1 0,aS 2 0] (am [aA 3 3 1,aH 4 3,aA 5 0 1,aH 6 5,aJ .sub 7 4 6,aA 8 2 1,aH 9 8,aA 10 1 1,aH 11 10,aJ .sub 12 9 11,aJ .sub 13 7 12,oM 2 13] .ret),[(2,none)]⟩
theorem C8:aR Try.prog {} Try.f37=some wX:=by kernel_rfl
theorem DD (G:av) (a b c d e:Int) (h:cq a b c d e=0):bd Try.prog G 37 [bN a b c d e] (.w (.c (.d (.int .i64 (d-a-(c-b)))))):=by
  refine bI Try.func37 C8 rfl rfl ?_;obtain⟨h1,h2,h3⟩:=mO h;obtain⟨a1,b1,c1,d1,e1,e2⟩:=mN h1
  replace a1:=dM a1
  replace b1:=dM b1
  replace c1:=dM c1
  replace d1:=dM d1
  unfold bN;simp only[wX,aw,ah,af,seval,iteOmega,toNatUp];exact aF
def ka:aV:=⟨1,12,am [eM 1 0,aS 2 0] (.seq (am [da 4 5 1,dV 5 17 4,oM 3 5] (am [oM 6 3,aY .neq 7 6 0] (bH 7 (am [oM 8 3,oM 2 8] .ret) .skip))) (.seq (am [da 9 5 1,dV 10 37 9,aY .lss 11 10 0] (bH 11 (am [aS 2 20] .ret) .skip)) (am [aS 2 0] .ret))),[(2,none)]⟩
theorem C9:aR Try.prog {} Try.f30=some ka:=by kernel_rfl
theorem DF (G:av) (a b c d e:Int):bd Try.prog G 30 [bN a b c d e] (.w (.c (.d (.int .i64 (fZ a b c d e))))):=by
  refine bI Try.func30 C9 rfl rfl ?_;have c1:=yb G a b c d e;unfold fZ;by_cases h:cq a b c d e=0
  ·have c2:=DD G a b c d e h;rw[h] at c1;rw[if_pos h];generalize d-a-(c-b)=z at *
   unfold bN at *
   by_cases h1:z<0
   ·rw[if_pos h1];simp only[ka,aw,ah,af,seval,iteOmega,toNatUp];refine sD (c1) ?_;refine sC (c2) ?_;simp only[eq_true h1,ah,af,seval,iteOmega,toNatUp];exact aF
   ·rw[if_neg h1];simp only[ka,aw,ah,af,seval,iteOmega,toNatUp];refine sD (c1) ?_;refine sC (c2) ?_;simp only[eq_false h1,ah,af,seval,iteOmega,toNatUp];exact aF
  ·rw[if_neg h];generalize cq a b c d e=z at *
   unfold bN at *
   simp only[ka,aw,ah,af,seval,iteOmega,toNatUp];refine sC (c1) ?_;simp only[h,ah,af,seval,iteOmega,toNatUp];exact aF
def kb:aV:=⟨1,28,am [eM 1 0,oO 2 (.alloc [ao,ao]),aS 3 0] (.seq (am [da 6 5 1,dV 7 30 6,oM 4 7] (am [oM 8 4,aY .neq 9 8 0] (bH 9 (am [oO 10 (.build [ao,ao] []),oM 11 4,bO 2 2 10,oM 3 11] .ret) .skip))) (am [aA 12 2 1,aH 13 12,aA 14 3 1,aH 15 14,aJ .sub 16 13 15,aA 17 1 1,aH 18 17,aA 19 0 1,aH 20 19,aJ .sub 21 18 20,oO 22 (.build [ao,ao] [(0,1,(.t 16)),(1,1,(.t 21))]),oO 5 (.alloc [ao,ao]),bO 2 5 22] (.seq (am [da 23 2 5,dV 24 31 23,gd 25 24] (bH 25 (am [oO 26 (.build [ao,ao] []),bO 2 2 26,aS 3 4] .ret) .skip)) (am [da 27 2 5,bO 2 2 27,aS 3 0] .ret)))),[(2,(some (.ag 2))),(3,none)]⟩
theorem Da:aR Try.prog {} Try.f20=some kb:=by kernel_rfl
theorem DG (G:av) (a b c d e:Int):bd Try.prog G 20 [bN a b c d e] (.tup [.c (.d (cF (nv a b c d e) (c-d) (b-a))),.c (.d (.int .i64 (jg a b c d e)))]):=by
  refine bI Try.func20 Da rfl rfl ?_;have c1:=DF G a b c d e;unfold nv;by_cases h:fZ a b c d e=0
  ·have k:cq a b c d e=0:=by
     unfold fZ at h;split at h
     ·assumption
     ·exact h
   obtain⟨h1,h2,h3⟩:=mO k;obtain⟨a1,b1,d1,e1,f1,f2⟩:=mN h1
   replace a1:=dM a1
   replace b1:=dM b1
   replace d1:=dM d1
   replace e1:=dM e1
   have c2:=Dz G (c-d) (b-a);have eo:jg a b c d e=if eP (c-d,b-a)=true then 0 else 4:=if_pos h
   rw[h] at c1;rw[eo];unfold bN at *
   cases ho:eP (c-d,b-a)
   ·rw[ho] at c2;rw[if_neg (by simp)];simp only[kb,aw,ah,af,seval,iteOmega,toNatUp];refine sD (c1) ?_;refine sC (c2) ?_;simp only[cF,ah,af,seval,iteOmega,toNatUp];exact dc
   ·rw[ho] at c2;rw[if_pos rfl];simp only[kb,aw,ah,af,seval,iteOmega,toNatUp];refine sD (c1) ?_;refine sC (c2) ?_;simp only[cF,ah,af,seval,iteOmega,toNatUp];exact dc
  ·have eo:jg a b c d e=fZ a b c d e:=if_neg h;rw[eo,decide_eq_false h];generalize fZ a b c d e=z at *
   unfold bN at *
   simp only[kb,aw,ah,af,seval,iteOmega,toNatUp];refine sC (c1) ?_;simp only[h,cF,ah,af,seval,iteOmega,toNatUp];exact dc
def gy:aV:=⟨2,64,am [eM 2 0,oO 4 (.alloc [ao,ao]),aS 5 0] (.seq (am [da 10 5 2,dV 11 17 10,oM 6 11] (am [oM 12 6,aY .neq 13 12 0] (bH 13 (am [oO 14 (.build [ao,ao] []),oM 15 6,bO 2 4 14,oM 5 15] .ret) .skip))) (am [aA 17 3 2,aH 18 17,aA 19 0 2,aH 20 19,aJ .sub 21 18 20,oM 22 1,dW 23 18 21 22,oM 16 23,cH 24 16 0,cH 25 16 1,oO 7 (.alloc [ao,ao]),bO 2 7 24,oM 8 25] (.seq (am [oM 26 8,aY .neq 27 26 0] (bH 27 (am [oO 28 (.build [ao,ao] []),oM 29 8,bO 2 4 28,oM 5 29] .ret) .skip)) (am [aA 30 2 2,aH 31 30,aA 32 4 2,aH 33 32,aJ .sub 34 31 33,aA 35 1 2,aH 36 35,aA 37 4 2,aH 38 37,aJ .add 39 36 38,aA 40 1 7,aH 41 40,aJ .add 42 39 41,oO 43 (.build [ao,ao] [(0,1,(.t 34)),(1,1,(.t 42))]),oO 9 (.alloc [ao,ao]),bO 2 9 43] (.seq (.block 0 (am [aA 45 0 9,
 aH 46 45,dV 47 19 46,gd 48 47,oM 49 48,cQ 50 1 9 49 false,cP 51 50 49 false,oG 52 (.call 19 [(.t 51)] none) 49 false,jj 53 52 49 false,fm 54 49 53,oM 44 54] (bH 44 (am [oO 55 (.build [ao,ao] []),bO 2 4 55,aS 5 4] .ret) (am [aA 57 0 9,aH 58 57,aA 59 1 9,aH 60 59,aJ .gtr 61 58 60,oM 56 61] (bH 56 (am [oO 62 (.build [ao,ao] []),bO 2 4 62,aS 5 20] .ret) .skip))))) (am [da 63 2 9,bO 2 4 63,aS 5 0] .ret)))))),[(4,(some (.ag 2))),(5,none)]⟩
theorem Db:aR Try.prog {} Try.f8=some gy:=by kernel_rfl
theorem yc (G:av) (a b c d e p:Int):bd Try.prog G 8 [bN a b c d e,.int .i64 p] (.tup [.c (.d (cF (kT a b c d e p) (c-e) (b+e+cI (d-a) p))),.c (.d (.int .i64 (eQ a b c d e p)))]):=by
  refine bI Try.func8 Db rfl rfl ?_;have c1:=yb G a b c d e;unfold kT;by_cases h:cq a b c d e=0
  ·obtain⟨h1,h2,h3⟩:=mO h;obtain⟨a1,b1,d1,e1,f1,f2⟩:=mN h1
   replace a1:=dM a1
   replace b1:=dM b1
   replace d1:=dM d1
   replace e1:=dM e1
   replace f1:=dM f1
   have c2:=C5 G (d-a) p;rw[h] at c1;have eo:eQ a b c d e p=if cJ (d-a) p=true then (if (aP (c-e)&&aP (b+e+cI (d-a) p))=true then (if b+e+cI (d-a) p<c-e then 20 else 0) else 4) else 4:=if_pos h
   cases hi:cJ (d-a) p
   ·rw[eo,hi,if_neg (by simp)];have eE:gF (d-a) p=4:=if_neg (by rw[hi]; simp);rw[hi,eE] at c2;unfold bN at *
    simp only[gy,aw,ah,af,seval,iteOmega,toNatUp];refine sD (c1) ?_;refine sC (c2) ?_;simp only[cF,ah,af,seval,iteOmega,toNatUp];exact dc
   ·rw[hi,if_pos rfl] at eo;obtain⟨i1,i2,i3,i4⟩:=iW hi;have eE:gF (d-a) p=0:=if_pos hi;rw[hi,eE] at c2;have bl:=wT (d-a) p i1 i3 i4;have bo:=se (d-a) p i1 i3 i4;generalize cI (d-a) p=B at *
    generalize fR (d-a) p=A at *
    have c3:=d8 G (c-e);have c4:=d8 G (b+e+B);rw[eo];clear eo;cases g1:aP (c-e)
    ·rw[g1] at c3;unfold bN at *
     simp only[gy,aw,ah,af,seval,iteOmega,toNatUp];refine sD (c1) ?_;refine sC (c2) ?_;simp only[cF,ah,af,seval,iteOmega,toNatUp];refine sD (c3) ?_;exact dc
    ·cases g2:aP (b+e+B)
     ·rw[g1] at c3;rw[g2] at c4;unfold bN at *
      simp only[gy,aw,ah,af,seval,iteOmega,toNatUp];refine sD (c1) ?_;refine sC (c2) ?_;simp only[cF,ah,af,seval,iteOmega,toNatUp];refine sD (c3) ?_;refine sD (c4) ?_;exact dc
     ·rw[g1] at c3;rw[g2] at c4;by_cases g3:b+e+B<c-e
      ·have g4:(c-e>b+e+B)=True:=eq_true g3;rw[Bool.and_self,if_pos rfl,if_pos g3];unfold bN at *
       simp only[gy,aw,ah,af,seval,iteOmega,toNatUp];refine sD (c1) ?_;refine sC (c2) ?_;simp only[cF,ah,af,seval,iteOmega,toNatUp];refine sD (c3) ?_;refine sC (c4) ?_;simp only[g4,ah,af,seval,iteOmega,toNatUp];exact dc
      ·have g4:(c-e>b+e+B)=False:=eq_false g3;rw[Bool.and_self,if_pos rfl,if_neg g3];unfold bN at *
       simp only[gy,aw,ah,af,seval,iteOmega,toNatUp];refine sD (c1) ?_;refine sC (c2) ?_;simp only[cF,ah,af,seval,iteOmega,toNatUp];refine sD (c3) ?_;refine sC (c4) ?_;simp only[g4,ah,af,seval,iteOmega,toNatUp];exact dc
  ·have eo:eQ a b c d e p=cq a b c d e:=if_neg h;rw[eo,decide_eq_false h];generalize cq a b c d e=z at *
   unfold bN at *
   simp only[gy,aw,ah,af,seval,iteOmega,toNatUp];refine sC (c1) ?_;simp only[h,cF,ah,af,seval,iteOmega,toNatUp];exact dc
theorem qd (n:Int):bits .and .i64 n 2147483647=n%2147483648:=Bm 31 2147483647 (by decide) n (by decide)
theorem Cg (s p:Int) (h1:0≤s) (h2:s<2147483648) (h3:0≤p) (h4:p<2147483648):bits .or .i64 (s*2147483648) p=s*2147483648+p:=by
  obtain⟨S,rfl⟩:=EP h1;obtain⟨Q,rfl⟩:=EP h3;have e1:(BitVec.ofInt 64 ((S:Int)*2147483648)).toNat=S*2147483648:=by rw[BitVec.toNat_ofInt]; omega
  have e2:(BitVec.ofInt 64 (Q:Int)).toNat=Q:=by rw[BitVec.toNat_ofInt]; omega
  have e:S*2147483648 ||| Q=S*2147483648+Q:=by
    have:=Nat.two_pow_add_eq_or_of_lt (i:=31) (b:=Q) (by omega) S;rw[Nat.mul_comm] at this;exact this.symm
  show IntKind.i64.wrap ((BitVec.ofInt 64 ((S:Int)*2147483648) ||| BitVec.ofInt 64 (Q:Int)).toNat:Nat)=_
  rw[BitVec.toNat_or,e1,e2,e,IntKind.wrap_i64];omega
theorem mulN {a b A B:Int} (h1:0≤a) (h2:a≤A) (h3:0≤b) (h4:b≤B):0≤a*b∧a*b≤A*B :=
  ⟨Int.mul_nonneg h1 h3,Int.mul_le_mul h2 h4 h3 (Int.le_trans h1 h2)⟩
def uD:aV:=⟨2,51,am [aS 4 0,aS 5 0] (am [oM 13 0,oO 14 (.bin .shr (.t 13) (.k (.c (.d (.int .u64 31))))),oM 15 0,aY .and 16 15 2147483647,oM 17 1,oO 18 (.bin .shr (.t 17) (.k (.c (.d (.int .u64 31))))),oM 19 1,aY .and 20 19 2147483647,oM 6 14,oM 7 16,oM 8 18,oM 9 20] (am [oM 21 7,oM 22 9,aJ .mul 23 21 22,oM 10 23] (am [oM 24 6,oM 25 9,aJ .mul 26 24 25,oM 27 10,oO 28 (.bin .shr (.t 27) (.k (.c (.d (.int .u64 31))))),aJ .add 29 26 28,oM 11 29] (am [oM 30 7,oM 31 8,aJ .mul 32 30 31,oM 33 11,aY .and 34 33 2147483647,aJ .add 35 32 34,oM 12 35] (am [oM 36 6,oM 37 8,aJ .mul 38 36 37,oM 39 11,oO 40 (.bin .shr (.t 39) (.k (.c (.d (.int .u64 31))))),aJ .add 41 38 40,oM 42 12,oO 43 (.bin .shr (.t 42) (.k (.c (.d (.int .u64 31))))),aJ .add 44 41 43,oM 45 12,aY .and 46 45 2147483647,
 oO 47 (.bin .shl (.t 46) (.k (.c (.d (.int .u64 31))))),oM 48 10,aY .and 49 48 2147483647,aJ .or 50 47 49,oM 4 44,oM 5 50] .ret))))),[(4,none),(5,none)]⟩
theorem Ch:aR Try.prog {} Try.f33=some uD:=by kernel_rfl
theorem xh (G:av) (a b:Int) (h1:0≤a) (h2:a≤2305843009213693952) (h3:0≤b) (h4:b≤2305843009213693952):bd Try.prog G 33 [.int .i64 a,.int .i64 b] (.tup [.c (.d (.int .i64 (d6 a b))),.c (.d (.int .i64 (d7 a b)))]):=by
  refine bI Try.func33 Ch rfl rfl ?_;have a1:0≤a / 2147483648∧a / 2147483648≤1073741824:=by omega
  have a0:0≤a%2147483648∧a%2147483648≤2147483647:=by omega
  have b1:0≤b / 2147483648∧b / 2147483648≤1073741824:=by omega
  have b0:0≤b%2147483648∧b%2147483648≤2147483647:=by omega
  unfold d6 d7;simp only[uD,aw,ah,af,seval,iteOmega,toNatUp,yI,qd];generalize a / 2147483648=x at *
  generalize a%2147483648=y at *
  generalize b / 2147483648=z at *
  generalize b%2147483648=w at *
  have p1:=mulN a0.1 a0.2 b0.1 b0.2;have p2:=mulN a1.1 a1.2 b0.1 b0.2;have p3:=mulN a0.1 a0.2 b1.1 b1.2;have p4:=mulN a1.1 a1.2 b1.1 b1.2;generalize y*w=P at *
  generalize x*w=Q at *
  generalize y*z=R at *
  generalize x*z=T at *
  have o:=Cg ((R+(Q+P / 2147483648)%2147483648)%2147483648) (P%2147483648) (by omega) (by omega) (by omega) (by omega);simp only[ah,af,seval,iteOmega,toNatUp,yI,qd,o];exact dc
def iG:aV:=⟨4,38,am [dk 8 false] (am [oM 14 0,oM 15 1,dW 16 33 14 15,oM 13 16,cH 17 13 0,cH 18 13 1,oM 9 17,oM 10 18] (am [oM 20 2,oM 21 3,dW 22 33 20 21,oM 19 22,cH 23 19 0,cH 24 19 1,oM 11 23,oM 12 24] (am [oM 25 9,oM 26 11,aJ .lss 27 25 26,oM 28 27,aZ 29 9 28 false,aZ 30 11 28 false,dU .eql 31 29 30 28 false,aZ 32 31 28 false,aZ 33 10 32 true,aZ 34 12 32 true,dU .leq 35 33 34 32 true,oG 36 (.pick (.t 32) (.t 35) (.k (.c ij))) 28 false,fm 37 28 36,oM 8 37] .ret))),[(8,none)]⟩
theorem Ci:aR Try.prog {} Try.f22=some iG:=by kernel_rfl
theorem xi (G:av) (a b c d:Int) (a1:0≤a) (a2:a≤2305843009213693952) (b1:0≤b) (b2:b≤2305843009213693952) (c1:0≤c) (c2:c≤2305843009213693952) (d1:0≤d) (d2:d≤2305843009213693952):bd Try.prog G 22 [.int .i64 a,.int .i64 b,.int .i64 c,.int .i64 d] (.w (.c (.d (.bool (decide (a*b≤c*d)))))):=by
  refine bI Try.func22 Ci rfl rfl ?_;have k1:=xh G a b a1 a2 b1 b2;have k2:=xh G c d c1 c2 d1 d2;have hl:=B6 a b c d;generalize d6 a b=A at *
  generalize d7 a b=B at *
  generalize d6 c d=C at *
  generalize d7 c d=E at *
  by_cases h:A<C
  ·rw[decide_eq_true (hl.1 (.inl h))];simp only[iG,aw,ah,af,seval,iteOmega,toNatUp];refine sD (k1) ?_;refine sD (k2) ?_;exact aF
  ·by_cases h2:A=C
   ·by_cases h3:B≤E
    ·rw[decide_eq_true (hl.1 (.inr ⟨h2,h3⟩))];simp only[iG,aw,ah,af,seval,iteOmega,toNatUp];refine sD (k1) ?_;refine sC (k2) ?_;simp only[h,h2,h3,ah,af,seval,iteOmega,toNatUp];exact aF
    ·rw[decide_eq_false (fun k=>by have:=hl.2 k; omega)];simp only[iG,aw,ah,af,seval,iteOmega,toNatUp];refine sD (k1) ?_;refine sC (k2) ?_;simp only[h,h2,h3,ah,af,seval,iteOmega,toNatUp];exact aF
   ·rw[decide_eq_false (fun k=>by have:=hl.2 k; omega)];simp only[iG,aw,ah,af,seval,iteOmega,toNatUp];refine sD (k1) ?_;refine sC (k2) ?_;simp only[h,h2,ah,af,seval,iteOmega,toNatUp];exact aF
def fw:aV:=⟨3,41,am [dk 6 false] (.seq (am [oM 7 0,aY .lss 8 7 0,oM 9 8,aZ 10 0 9 false,db .gtr 11 10 1152921504606846976 9 false,fm 12 9 11,oM 13 12,aZ 14 1 13 false,db .lss 15 14 0 13 false,fm 16 13 15,oM 17 16,aZ 18 1 17 false,db .gtr 19 18 1152921504606846976 17 false,fm 20 17 19,oM 21 20,aZ 22 2 21 false,db .lss 23 22 0 21 false,fm 24 21 23,oM 25 24,aZ 26 2 25 false,db .gtr 27 26 1000000 25 false,fm 28 25 27] (bH 28 (am [dk 6 false] .ret) .skip)) (am [oM 29 0,oM 30 2,oO 31 (.bin .sub (kI 1000000000) (.t 30)),oM 32 1,oO 33 (.call 22 [(.t 29),(.t 31),(.t 32),(kI 1000000000)] none),oM 34 33,aZ 35 1 34 true,aZ 36 0 34 true,aZ 37 2 34 true,oG 38 (.bin .add (kI 1000000000) (.t 37)) 34 true,oG 39 (.call 22 [(.t 35),(kI 1000000000),(.t 36),(.t 38)] none) 34 true,
 bP 40 34 39,oM 6 40] .ret)),[(6,none)]⟩
theorem Cj:aR Try.prog {} Try.f11=some fw:=by kernel_rfl
theorem mQ (G:av) (e d p:Int):bd Try.prog G 11 [.int .i64 e,.int .i64 d,.int .i64 p] (.w (.c (.d (.bool (bA e d p))))):=by
  refine bI Try.func11 Cj rfl rfl ?_;by_cases h1:e<0
  ·rw[gX (fun h=>by have:=h.1; omega)];simp only[fw,aw,ah,af,seval,iteOmega,toNatUp];exact aF
  by_cases h2:e>1152921504606846976
  ·rw[gX (fun h=>by have:=h.2.1; omega)];simp only[fw,aw,ah,af,seval,iteOmega,toNatUp,eq_true h2];exact aF
  have g2:=eq_false h2;by_cases h3:d<0
  ·rw[gX (fun h=>by have:=h.2.2.1; omega)];simp only[fw,aw,ah,af,seval,iteOmega,toNatUp,g2];exact aF
  by_cases h4:d>1152921504606846976
  ·rw[gX (fun h=>by have:=h.2.2.2.1; omega)];simp only[fw,aw,ah,af,seval,iteOmega,toNatUp,g2,eq_true h4];exact aF
  have g4:=eq_false h4;by_cases h5:p<0
  ·rw[gX (fun h=>by have:=h.2.2.2.2.1; omega)];simp only[fw,aw,ah,af,seval,iteOmega,toNatUp,g2,g4];exact aF
  by_cases h6:p>1000000
  ·rw[gX (fun h=>by have:=h.2.2.2.2.2; omega)];simp only[fw,aw,ah,af,seval,iteOmega,toNatUp,g2,g4,eq_true h6];exact aF
  have g6:=eq_false h6;have c1:=xi G e (1000000000-p) d 1000000000 (by omega) (by omega) (by omega) (by omega) (by omega) (by omega) (by omega) (by omega);have c2:=xi G d 1000000000 e (1000000000+p) (by omega) (by omega) (by omega) (by omega) (by omega) (by omega) (by omega) (by omega);have hb:bA e d p=(decide (e*(1000000000-p)≤d*1000000000)&&decide (d*1000000000≤e*(1000000000+p))):=by
    have key:∀ (A B:Prop) [Decidable A] [Decidable B] (i:Decidable (A∧B)),@decide (A∧B) i=(decide A&&decide B):=fun A B _ _ i=>by
      by_cases a:A <;> by_cases b:B <;> simp[a,b]
    unfold bA;rw[decide_eq_true (show gE e d p from ⟨by omega,by omega,by omega,by omega,by omega,by omega⟩),Bool.true_and];exact key _ _ _
  rw[hb];clear hb;generalize decide (e*(1000000000-p)≤d*1000000000)=A at *
  generalize decide (d*1000000000≤e*(1000000000+p))=B at *
  cases A
  ·simp only[fw,aw,ah,af,seval,iteOmega,toNatUp,g2,g4,g6];refine sD (c1) ?_;exact aF
  ·simp only[fw,aw,ah,af,seval,iteOmega,toNatUp,g2,g4,g6];refine sD (c1) ?_;refine sD (c2) ?_;exact aF
def uE:aV:=⟨4,27,am [aS 8 0] (am [oM 10 0,oM 11 2,aJ .quo 12 10 11,oM 9 12] (am [oM 13 9,oM 14 1,aJ .mul 15 13 14,oM 16 0,oM 17 9,oM 18 2,aJ .mul 19 17 18,aJ .sub 20 16 19,oM 21 1,aJ .mul 22 20 21,oM 23 2,oM 24 3,gg 25 41 22 23 24,aJ .add 26 15 25,oM 8 26] .ret)),[(8,none)]⟩
theorem Ck:aR Try.prog {} Try.f39=some uE:=by kernel_rfl
theorem xj (G:av) (a b c:Int) (up:Bool) (a1:0≤a) (a2:a≤576460752303423488) (b1:998000000≤b) (b2:b≤1002000000) (c1:998000000≤c) (c2:c≤1002000000):bd Try.prog G 39 [.int .i64 a,.int .i64 b,.int .i64 c,.bool up] (.w (.c (.d (.int .i64 (if up=true then dp (a*b) c else a*b / c))))):=by
  refine bI Try.func39 Ck rfl rfl ?_;have ck:=uq a b (c:=c) (by omega) up;have q1:0≤a / c:=Int.ediv_nonneg a1 (by omega);have q2:a / c≤577615984:=by
    have:a / c≤a / 998000000:=by
      rw[Int.le_ediv_iff_mul_le (by decide)];have x:=ER c1 q1;have y:=Int.ediv_mul_le a (show c≠0 by omega);omega
    omega
  have e3:=E4 a (show c≠0 by omega);have e4:=EZ a (show 0<c by omega);have e5:=mulN e3 (show a%c≤1002000000 by omega) (show 0≤b by omega) b2;have e6:=mulN q1 q2 (show 0≤b by omega) b2;have qr:a / c*c≤a:=Int.ediv_mul_le a (by omega);have qr0:0≤a / c*c:=Int.mul_nonneg q1 (by omega);have es:=sk a c;have hq:a.tdiv c=a / c:=Int.tdiv_eq_ediv_of_nonneg a1;have cr:=CW G ((a-a / c*c)*b) c up (by rw[es]; omega) (by rw[es]; omega) (by omega);have q3:=(si ((a-a / c*c)*b) (show 1≤c by omega) up).1 (by rw[es]; omega);rw[es] at q3;rw[← ck];rw[es] at cr ⊢;clear ck;generalize cu (a%c*b) c up=R at *
  generalize hX:a / c*c=X at *
  generalize hY:a / c*b=Y at *
  generalize hM:a%c=M at *
  have hZ:(a-X)*b=M*b:=by rw[es]
  generalize hQ:a / c=Q at *
  generalize hZ2:M*b=Z at *
  have hc0:¬ c=0:=by omega
  simp only[uE,aw,ah,af,seval,iteOmega,toNatUp,hq,hQ,hX,hY,es,hZ2,hc0];refine sD (cr) ?_;exact aF
def gT:aV:=⟨2,19,am [dk 4 false] (am [oM 5 0,aY .geq 6 5 0,oM 7 6,aZ 8 0 7 true,db .leq 9 8 576460752303423488 7 true,bP 10 7 9,oM 11 10,aZ 12 1 11 true,db .geq 13 12 0 11 true,bP 14 11 13,oM 15 14,aZ 16 1 15 true,db .leq 17 16 1000000 15 true,bP 18 15 17,oM 4 18] .ret),[(4,none)]⟩
theorem Cl:aR Try.prog {} Try.f38=some gT:=by kernel_rfl
theorem Dd (G:av) (d p:Int):bd Try.prog G 38 [.int .i64 d,.int .i64 p] (.w (.c (.d (.bool (cJ d p))))):=by
  refine bI Try.func38 Cl rfl rfl ?_;by_cases h1:d≥0
  ·by_cases h2:d≤576460752303423488
   ·by_cases h3:p≥0
    ·by_cases h4:p≤1000000
     ·rw[mY ⟨h1,h2,h3,h4⟩];simp only[gT,aw,ah,af,seval,iteOmega,toNatUp,eq_true h1,eq_true h2,eq_true h3,eq_true h4];exact aF
     ·rw[hF (by omega)];simp only[gT,aw,ah,af,seval,iteOmega,toNatUp,eq_true h1,eq_true h2,eq_true h3,eq_false h4];exact aF
    ·rw[hF (by omega)];simp only[gT,aw,ah,af,seval,iteOmega,toNatUp,eq_true h1,eq_true h2,eq_false h3];exact aF
   ·rw[hF (by omega)];simp only[gT,aw,ah,af,seval,iteOmega,toNatUp,eq_true h1,eq_false h2];exact aF
  ·rw[hF (by omega)];simp only[gT,aw,ah,af,seval,iteOmega,toNatUp,eq_false h1];exact aF
def my:aV:=⟨2,20,am [oO 4 (.alloc [ao,ao]),aS 5 0] (.seq (am [oM 6 0,oM 7 1,dW 8 38 6 7,gd 9 8] (bH 9 (am [oO 10 (.build [ao,ao] []),bO 2 4 10,aS 5 4] .ret) .skip)) (am [oM 11 0,oM 12 1,oO 13 (.bin .sub (kI 1000000000) (.t 12)),oO 14 (.call 39 [(.t 11),(.t 13),(kI 1000000000),(.k (.c ij))] none),oM 15 0,oM 16 1,oO 17 (.bin .add (kI 1000000000) (.t 16)),oO 18 (.call 39 [(.t 15),(.t 17),(kI 1000000000),(.k (.c (.d (.bool true))))] none),oO 19 (.build [ao,ao] [(0,1,(.t 14)),(1,1,(.t 18))]),bO 2 4 19,aS 5 0] .ret)),[(4,(some (.ag 2))),(5,none)]⟩
theorem Cm:aR Try.prog {} Try.f34=some my:=by kernel_rfl
theorem De (G:av) (e p:Int):bd Try.prog G 34 [.int .i64 e,.int .i64 p] (.tup [.c (.d (cF (cJ e p) (bp e p) (aT e p))),.c (.d (.int .i64 (gF e p)))]):=by
  refine bI Try.func34 Cm rfl rfl ?_;have c1:=Dd G e p;unfold cF gF;cases hv:cJ e p
  ·rw[hv] at c1;simp only[my,aw,ah,af,seval,iteOmega,toNatUp];refine sD (c1) ?_;exact dc
  ·rw[hv] at c1;obtain⟨h1,h2,h3,h4⟩:=iW hv;have c2:=xj G e (1000000000-p) 1000000000 false h1 h2 (by omega) (by omega) (by decide) (by decide);have c3:=xj G e (1000000000+p) 1000000000 true h1 h2 (by omega) (by omega) (by decide) (by decide);rw[if_pos rfl] at c3;rw[if_neg (by decide)] at c2;rw[if_pos rfl,if_pos rfl,if_pos rfl];unfold bp aT;generalize e*(1000000000-p) / 1000000000=A at *
   generalize dp (e*(1000000000+p)) 1000000000=B at *
   simp only[my,aw,ah,af,seval,iteOmega,toNatUp];refine sD (c1) ?_;refine sD (c2) ?_;refine sD (c3) ?_;exact dc
def aM (l:List Int) (a:Nat):Int:=if l.length≤a then 0 else l.getD a 0
def eR (l:List Int) (a:Nat):Nat:=if l.length≤a then a else a+1
theorem mR {l:List Int} {a:Nat} (h:a≤l.length):eR l a≤l.length:=by
  unfold eR;split <;> omega
theorem iB (g:Nat→Nat) (ds:List D):(ds.map C.d).map (C.ren g)=ds.map C.d:=by
  induction ds with
  | nil=>rfl
  | cons d r ih=>rw[El,El,ih]; rfl
def ct (l:List Int) (a:Nat):List D:=[.sl (l.map zD),.int .i64 (a:Int)]
def mS:aV:=⟨2,15,am [aS 4 0] (am [oM 6 0,oM 7 1,aJ .rem 8 6 7,oM 5 8] (.seq (am [oM 9 5,aY .lss 10 9 0] (bH 10 (.reg [oM 11 5,oM 12 1,aJ .add 13 11 12,oM 5 13]) .skip)) (am [oM 14 5,oM 4 14] .ret))),[(4,none)]⟩
theorem Df:aR Try.prog {} Try.f7=some mS:=by kernel_rfl
theorem km (G:av) (v m:Int) (hm:0<m) (h2:m≤9223372036854775807):bd Try.prog G 7 [.int .i64 v,.int .i64 m] (.w (.c (.d (.int .i64 (bL v m))))):=by
  refine bI Try.func7 Df rfl rfl ?_;unfold bL;rw[if_neg (by omega)];have hne:¬ m=0:=by omega
  have h4:=Int.tmod_lt_of_pos v hm;by_cases hn:v.tmod m<0
  ·have e:=Bo hm hn;have h3:=EZ v hm;have h5:=E4 v (show m≠0 by omega);simp only[mS,aw,ah,af,seval,iteOmega,toNatUp,hne];exact mJ (by simp only[ah,af,seval,iteOmega,toNatUp,e])
  ·have e:=Bp (v:=v) hm (by omega);simp only[mS,aw,ah,af,seval,iteOmega,toNatUp,hne];exact mJ (by simp only[ah,af,seval,iteOmega,toNatUp,e])
def xk:aV:=⟨1,6,am [oO 2 (.mv .u)] (am [oM 3 0,oO 4 (.build [.nil,ao] [(0,1,(.t 3))]),oO 5 (.box .ownBox (.t 4)),oM 2 5] .ret),[(2,none)]⟩
theorem Dh:aR Try.prog { own:=[5] } Try.f5=some xk:=by kernel_rfl
theorem DK (G:av) (l:List Int):kK Try.prog G 5 [.c (.d (.sl (l.map zD)))] [] (.w (.c (.ptr 1 1 0 0))) [(1,.box ((ct l 0).map C.d))]:=by
  refine Az Try.func5 Dh [] rfl rfl rfl rfl rfl rfl rfl ?_;simp only[xk,cY,Bt,Bs,ah,af,seval,iteOmega,toNatUp];refine DJ [(1,40)] [] (ws:=[.c (.ptr 40 1 0 0)]) ?_ rfl ?_ rfl trivial ⟨by simp,fun id h _=>by cases h⟩
  ·simp only[az,ah,af,seval,iteOmega,toNatUp]
  ·simp only[fo,ct,El,Eu,wx,dK,dL,af,seval,iteOmega,toNatUp,yW] <;> rfl
def mT:aV:=⟨1,31,am [aS 2 0] (.seq (am [oM 3 0,oO 4 (.nilChk (.t 3)),aA 5 1 4,aH 6 5,oM 7 0,oO 8 (.nilChk (.t 7)),aA 9 0 8,aH 10 9,nA 11 10,aJ .geq 12 6 11] (bH 12 (am [aS 2 0] .ret) .skip)) (am [oM 13 0,oO 14 (.nilChk (.t 13)),aA 15 1 14,aH 16 15,aY .add 17 16 1,oO 18 (.nilChk (.t 13)),aA 19 1 18,dl 19 17] (am [oM 20 0,oO 21 (.nilChk (.t 20)),aA 22 0 21,aH 23 22,oM 24 0,oO 25 (.nilChk (.t 24)),aA 26 1 25,aH 27 26,aY .sub 28 27 1,fN 29 1 23 28,aH 30 29,oM 2 30] .ret))),[(2,none)]⟩
theorem Di:aR Try.prog {} Try.f23=some mT:=by kernel_rfl
theorem i8 (G:av) (l:List Int) (a:Nat) (hl:l.length≤9223372036854775807) (ha:a≤l.length):dA Try.prog G 23 [.c (.ptr 1 1 0 0)] (bf (ct l a)) [1] (.w (.c (.d (.int .i64 (aM l a))))) (bf (ct l (eR l a))) [1]:=by
  refine gM Try.func23 Di 0 rfl rfl rfl rfl rfl rfl ?_;unfold aM eR ct;by_cases h:l.length≤a
  ·have g1:((a:Int)≥(l.length:Int))=True:=eq_true (by omega);rw[if_pos h,if_pos h];simp only[mT,cY,bf,bu,bg,ah,af,seval,iteOmega,toNatUp,g1];exact iY (by simp only[ah,af,seval,iteOmega,toNatUp]) (by simp only[ah,af,seval,iteOmega,toNatUp]) (by simp only[ah,af,seval,iteOmega,toNatUp])
  ·have g1:((a:Int)≥(l.length:Int))=False:=eq_false (by omega);rw[if_neg h,if_neg h];have g2:l[a]?=some (l.getD a 0):=by rw[Fe,Ek (by omega)]; rfl
   have e1:((a:Int)+1-1)=(a:Int):=by omega
   generalize l.getD a 0=x at *
   simp only[mT,cY,bf,bu,bg,ah,af,seval,iteOmega,toNatUp,g1,e1,mo,g2,zD];exact iY (by simp only[ah,af,seval,iteOmega,toNatUp]) (by simp only[ah,af,seval,iteOmega,toNatUp]) (by simp only[ah,af,seval,iteOmega,toNatUp])
def xl:aV:=⟨2,9,am [aS 4 0] (am [oM 5 0,oO 6 (.callM 23 [(.t 5)]),oM 7 1,dW 8 7 6 7,oM 4 8] .ret),[(4,none)]⟩
theorem Dj:aR Try.prog { mt:=[6] } Try.f15=some xl:=by kernel_rfl
theorem fg (G:av) (l:List Int) (a:Nat) (m:Int) (hl:l.length≤9223372036854775807) (ha:a≤l.length) (h1:0<m) (h2:m≤9223372036854775807):dA Try.prog G 15 [.c (.ptr 1 1 0 0),.c (.d (.int .i64 m))] (bf (ct l a)) [1] (.w (.c (.d (.int .i64 (bL (aM l a) m))))) (bf (ct l (eR l a))) [1]:=by
  refine gM Try.func15 Dj 0 rfl rfl rfl rfl rfl rfl ?_;have c1:=i8 G l a hl ha;have c2:=km G (aM l a) m h1 h2;simp only[xl,cY,bf,bu,bg,ah,af,seval,iteOmega,toNatUp];refine bW (id:=1) (ws:=[.c (.ptr 1 1 0 0)]) c1 (by simp only[ah,af,seval,iteOmega,toNatUp,El,Eu]) rfl (by simp only[ah,af,seval,iteOmega,toNatUp]) rfl ?_;simp only[bV,bu,bg,ah,af,seval,iteOmega,toNatUp];refine sC (c2) ?_;simp only[bg,ah,af,seval,iteOmega,toNatUp];exact iY (by simp only[ah,af,seval,iteOmega,toNatUp]) (by simp only[ah,af,seval,iteOmega,toNatUp]) (by simp only[ah,af,seval,iteOmega,toNatUp])
def xm:aV:=⟨3,15,am [aS 6 0] (am [oM 7 1,oM 8 0,oM 9 2,oM 10 1,aJ .sub 11 9 10,aY .add 12 11 1,oO 13 (.callM 15 [(.t 8),(.t 12)]),aJ .add 14 7 13,oM 6 14] .ret),[(6,none)]⟩
theorem Dk:aR Try.prog { mt:=[13] } Try.f14=some xm:=by kernel_rfl
theorem kn (G:av) (l:List Int) (a:Nat) (lo hi:Int) (hl:l.length≤9223372036854775807) (ha:a≤l.length) (h1:-1000000000000≤lo) (h2:lo≤hi) (h3:hi≤1000000000000):dA Try.prog G 14 [.c (.ptr 1 1 0 0),.c (.d (.int .i64 lo)),.c (.d (.int .i64 hi))] (bf (ct l a)) [1] (.w (.c (.d (.int .i64 (lo+bL (aM l a) (hi-lo+1)))))) (bf (ct l (eR l a))) [1]:=by
  refine gM Try.func14 Dk 0 rfl rfl rfl rfl rfl rfl ?_;have c1:=fg G l a (hi-lo+1) hl ha (by omega) (by omega);have hr:=cK (aM l a) (hi-lo+1) (by omega);simp only[xm,cY,bf,bu,bg,ah,af,seval,iteOmega,toNatUp];refine bW (id:=1) (ws:=[.c (.ptr 1 1 0 0),.c (.d (.int .i64 (hi-lo+1)))]) c1 (by simp only[ah,af,seval,iteOmega,toNatUp,El,Eu]) rfl (by simp only[ah,af,seval,iteOmega,toNatUp]) rfl ?_;generalize bL (aM l a) (hi-lo+1)=x at *
  simp only[bV,bu,bg,ah,af,seval,iteOmega,toNatUp];exact iY (by simp only[ah,af,seval,iteOmega,toNatUp]) (by simp only[ah,af,seval,iteOmega,toNatUp]) (by simp only[ah,af,seval,iteOmega,toNatUp])
def Ed:List Int:=[0,1,7,100,5000,3000000]
def gi (l:List Int) (a:Nat):Int:=Ed.getD (bL (aM l a) 6).toNat 0
theorem lD (l:List Int) (a:Nat):0≤gi l a∧gi l a≤3000000:=by
  obtain⟨r0,r1⟩:=cK (aM l a) 6 (by decide);unfold gi;obtain⟨i,hi⟩:=EP r0;rw[hi] at r1 ⊢;have:i=0∨i=1∨i=2∨i=3∨i=4∨i=5:=by omega
  rcases this with rfl | rfl | rfl | rfl | rfl | rfl <;> decide
def xn:aV:=⟨1,8,am [aS 2 0] (am [oO 3 (.bldSl false 6 1 cR [(0,(kI 0)),(1,(kI 1)),(2,(kI 7)),(3,(kI 100)),(4,(kI 5000)),(5,(kI 3000000))]),oM 4 0,oO 5 (.callM 15 [(.t 4),(kI 6)]),fN 6 1 3 5,aH 7 6,oM 2 7] .ret),[(2,none)]⟩
theorem Dl:aR Try.prog { mt:=[5] } Try.f24=some xn:=by kernel_rfl
theorem m9 (G:av) (l:List Int) (a:Nat) (hl:l.length≤9223372036854775807) (ha:a≤l.length):dA Try.prog G 24 [.c (.ptr 1 1 0 0)] (bf (ct l a)) [1] (.w (.c (.d (.int .i64 (gi l a))))) (bf (ct l (eR l a))) [1]:=by
  refine gM Try.func24 Dl 0 rfl rfl rfl rfl rfl rfl ?_;have c1:=fg G l a 6 hl ha (by decide) (by decide);obtain⟨r0,r1⟩:=cK (aM l a) 6 (by decide);unfold gi;obtain⟨i,hi⟩:=EP r0;rw[hi] at c1 r1 ⊢;simp only[xn,cY,bf,bu,bg,ah,af,seval,iteOmega,toNatUp];refine bW (id:=1) (ws:=[.c (.ptr 1 1 0 0),.c (.d (.int .i64 6))]) c1 (by simp only[ah,af,seval,iteOmega,toNatUp,El,Eu]) rfl (by simp only[ah,af,seval,iteOmega,toNatUp]) rfl ?_;have:i=0∨i=1∨i=2∨i=3∨i=4∨i=5:=by omega
  rcases this with rfl | rfl | rfl | rfl | rfl | rfl
  all_goals
    simp only[bV,bu,bg,ah,af,seval,iteOmega,toNatUp];exact iY (by simp only[ah,af,seval,iteOmega,toNatUp] <;> rfl) (by simp only[ah,af,seval,iteOmega,toNatUp]) (by simp only[ah,af,seval,iteOmega,toNatUp])
def oR:aV:=⟨0,33,am [dk 0 false] (am [oO 6 (.build [ao,ao,ao,ao,ao] [(0,1,(kI 100)),(1,1,(kI 160)),(2,1,(kI 170)),(3,1,(kI 130))]),oO 1 (.alloc [ao,ao,ao,ao,ao]),bO 5 1 6] (am [da 8 5 1,dV 9 20 8,oM 7 9,cH 10 7 0,cH 11 7 1,oO 2 (.alloc [ao,ao]),bO 2 2 10,oM 3 11] (am [da 13 5 1,oO 14 (.call 8 [(.t 13),(kI 0)] none),oM 12 14,cH 15 12 0,cH 16 12 1,oO 4 (.alloc [ao,ao]),bO 2 4 15,oM 5 16] (am [oM 17 3,aY .eql 18 17 0,oM 19 18,aZ 20 5 19 true,db .eql 21 20 0 19 true,bP 22 19 21,oM 23 22,oG 24 (.load (.ag 2) (.t 2)) 23 true,oG 25 (.build [ao,ao] [(0,1,(kI 40)),(1,1,(kI 60))]) 23 true,oG 26 (.eqA false [0,0] (.t 24) (.t 25)) 23 true,bP 27 23 26,oM 28 27,oG 29 (.load (.ag 2) (.t 4)) 28 true,oG 30 (.build [ao,ao] [(0,1,(kI 170)),(1,1,(kI 190))]) 28 true,
 oG 31 (.eqA false [0,0] (.t 29) (.t 30)) 28 true,bP 32 28 31,oM 0 32] .ret)))),[(0,none)]⟩
theorem zL:aR Try.prog {} Try.f9=some oR:=by kernel_rfl
set_option maxHeartbeats 800000 in
theorem AA (G:av):bd Try.prog G 9 [] (.w (.c (.d (.bool true)))):=by
  refine bI Try.func9 zL rfl rfl ?_;have c1:=DG G 100 160 170 130 0;rw[show nv 100 160 170 130 0=true by decide +kernel,show jg 100 160 170 130 0=0 by decide +kernel] at c1;have c2:=yc G 100 160 170 130 0 0;rw[show kT 100 160 170 130 0 0=true by decide +kernel,show eQ 100 160 170 130 0 0=0 by decide +kernel,show cI (130-100) 0=30 by decide +kernel] at c2;unfold bN at *
  simp only[oR,aw,ah,af,seval,iteOmega,toNatUp];refine sC (c1) ?_;simp only[cF,ah,af,seval,iteOmega,toNatUp];refine sC (c2) ?_;simp only[cF,ah,af,seval,iteOmega,toNatUp];exact aF
theorem mU (e p:Int) (he:0≤e) (h0:0≤p) (hp:p≤1000000):1000*aT e p≤1001*e+1000:=by
  have h2:e*p≤e*1000000:=ER hp he;have:aT e p≤(1001*e+1000) / 1000:=by
    unfold aT;rw[iL (by decide),Int.mul_add];omega
  omega
theorem DL {a b t:Int} (h:eP (a,b)=true) (h1:a≤t) (h2:t≤b):jf a b t=true:=by
  unfold jf;rw[h,decide_eq_true ⟨h1,h2⟩]; rfl
theorem Cn {a b c d e:Int} (ha:-1152921504606846976≤a) (ha2:a≤d) (hd:d≤1152921504606846976) (hb:-1152921504606846976≤b) (hb2:b≤c) (hc:c≤1152921504606846976) (he:0≤e) (he2:e≤1152921504606846976):cq a b c d e=0:=by
  unfold cq;have:dF a b c d e=true:=by
    unfold dF;rw[de ⟨ha,by omega⟩,de ⟨hb,by omega⟩,de ⟨by omega,hc⟩,de ⟨by omega,hd⟩,de ⟨by omega,he2⟩,decide_eq_true he]; rfl
  rw[if_pos this,if_neg (by omega)]
theorem Dm {a b c d e p:Int} (h:cq a b c d e=0) (hi:cJ (d-a) p=true) (h1:-1152921504606846976≤c-e) (h2:c-e≤1152921504606846976) (h3:-1152921504606846976≤b+e+cI (d-a) p) (h4:b+e+cI (d-a) p≤1152921504606846976) :
    eQ a b c d e p=if b+e+cI (d-a) p<c-e then 20 else 0:=by
  unfold eQ;rw[if_pos h,if_pos hi,de ⟨h1,h2⟩,de ⟨h3,h4⟩]; rfl
theorem Dn {e p:Int} (h:cJ e p=true):∃ a b:Nat,(∀ k,k<a→bA e (bp e p+k) p=false)∧bA e (bp e p+a) p=true∧(∀ k,k<b→bA e (aT e p-k) p=false)∧bA e (aT e p-b) p=true∧bp e p+a≤e∧e≤aT e p-b:=by
  obtain⟨e0,e1,p0,p1⟩:=iW h;obtain⟨o1,o2,o3,o4⟩:=sg e p e0 p0 p1;have fe:bA e e p=true:=mM ⟨e0,by omega,e0,by omega,p0,p1⟩ (lZ e0 p0);obtain⟨n,hn⟩:=EP (show 0≤e-bp e p by omega);obtain⟨m,hm⟩:=EP (show 0≤aT e p-e by omega);obtain⟨a,ha,ha2⟩:=lS (p:=fun k:Nat=>bA e (bp e p+k) p=true) ⟨n,by show bA e (bp e p+(n:Int)) p=true; rw[← hn]; rw[show bp e p+(e-bp e p)=e by omega]; exact fe⟩;obtain⟨b,hb,hb2⟩:=lS (p:=fun k:Nat=>bA e (aT e p-k) p=true) ⟨m,by show bA e (aT e p-(m:Int)) p=true; rw[← hm]; rw[show aT e p-(aT e p-e)=e by omega]; exact fe⟩;have an:=ha2 n (by show bA e (bp e p+(n:Int)) p=true; rw[← hn]; rw[show bp e p+(e-bp e p)=e by omega]; exact fe);have bm:=hb2 m (by show bA e (aT e p-(m:Int)) p=true; rw[← hm]; rw[show aT e p-(aT e p-e)=e by omega]; exact fe);refine⟨a,b,fun k hk=>?_,ha,fun k hk=>?_,hb,by omega,by omega⟩
  ·cases hf:bA e (bp e p+k) p
   ·rfl
   ·have:=ha2 k hf; omega
  ·cases hf:bA e (aT e p-k) p
   ·rfl
   ·have:=hb2 k hf; omega
theorem Co {e x y z p:Int} (h1:bA e x p=true) (h2:bA e z p=true) (h3:x≤y) (h4:y≤z):bA e y p=true:=by
  obtain⟨⟨a1,a2,a3,a4,a5,a6⟩,k1,k2⟩:=iP h1;obtain⟨⟨b1,b2,b3,b4,b5,b6⟩,l1,l2⟩:=iP h2;refine mM ⟨a1,a2,by omega,by omega,a5,a6⟩ ⟨?_,?_⟩
  ·have:=Int.mul_le_mul_of_nonneg_right h3 (show (0:Int)≤1000000000 by decide); omega
  ·have:=Int.mul_le_mul_of_nonneg_right h4 (show (0:Int)≤1000000000 by decide); omega
def eK (e p v lo hi:Int):St:=⟨em [(0,.w (.c (.d (.int .i64 e)))),(1,.w (.c (.d (.int .i64 p)))),(2,.w (.c (.d (.int .i64 v)))),(9,.w (.c (.d (.int .i64 lo)))),(10,.w (.c (.d (.int .i64 hi))))],hL [],uL []⟩
def kM (e p v:Int) (i:Nat):St:=eK e p v (bp e p+i) (aT e p)
def gb (e p v lo:Int) (i:Nat):St:=eK e p v lo (aT e p-i)
def jC:aN := .seq (am [oM 21 9,oM 22 10,aJ .lss 23 21 22,oM 24 23,aZ 25 0 24 true,aZ 26 9 24 true,aZ 27 1 24 true,oG 28 (.call 11 [(.t 25),(.t 26),(.t 27)] none) 24 true,jj 29 28 24 true,bP 30 24 29] (bH 30 .skip (.exit 0))) (.block 1 (.reg [oM 31 9,aY .add 32 31 1,oM 9 32]))
def gr:aN := .seq (am [oM 33 10,oM 34 9,aJ .gtr 35 33 34,oM 36 35,aZ 37 0 36 true,aZ 38 10 36 true,aZ 39 1 36 true,oG 40 (.call 11 [(.t 37),(.t 38),(.t 39)] none) 36 true,jj 41 40 36 true,bP 42 36 41] (bH 42 .skip (.exit 2))) (.block 3 (.reg [oM 43 10,aY .sub 44 43 1,oM 10 44]))
def xo:aV:=⟨3,53,am [aS 6 0] (am [oM 12 0,oM 13 1,dW 14 34 12 13,oM 11 14,cH 15 11 0,cH 16 11 1,oO 7 (.alloc [ao,ao]),bO 2 7 15,oM 8 16] (am [aA 17 0 7,aH 18 17,aA 19 1 7,aH 20 19,oM 9 18,oM 10 20] (.seq (.block 0 (.loop jC)) (.seq (.block 2 (.loop gr)) (am [oM 45 9,oM 46 2,oM 47 10,oM 48 9,aJ .sub 49 47 48,aY .add 50 49 1,dW 51 7 46 50,aJ .add 52 45 51,oM 6 52] .ret))))),[(6,none)]⟩
theorem Do:aR Try.prog {} Try.f25=some xo:=by kernel_rfl
set_option maxHeartbeats 3200000 in
theorem kq (G:av) (e p v:Int) (h:cJ e p=true):∃ d,bA e d p=true∧bd Try.prog G 25 [.int .i64 e,.int .i64 p,.int .i64 v] (.w (.c (.d (.int .i64 d)))):=by
  obtain⟨a,b,a1,a2,b1,b2,ae,be⟩:=Dn h;obtain⟨e0,e1,p0,p1⟩:=iW h;obtain⟨o1,o2,o3,o4⟩:=sg e p e0 p0 p1;obtain⟨w0,w1⟩:=cK v (aT e p-b-(bp e p+a)+1) (by omega);refine⟨bp e p+a+bL v (aT e p-b-(bp e p+a)+1),Co a2 b2 (by omega) (by omega),?_⟩;have c1:=De G e p;rw[h,show gF e p=0 from if_pos h] at c1;have c3:=km G v (aT e p-b-(bp e p+a)+1) (by omega) (by omega);have cf:=fun x=>mQ G e x p
  have cg:=fun x=>mQ G e x p
  generalize bL v (aT e p-b-(bp e p+a)+1)=W at *
  unfold cF at c1;rw[if_pos rfl] at c1;refine bI Try.func25 Do rfl rfl ?_;simp only[xo,aw,ah,af,seval,iteOmega,toNatUp];refine sD (c1) ?_;refine gR (kM e p v) (fun i=>a-i) (fun i=>i≤a) 0 (E6 _) ?_ ?_
  ·refine dQ (fun _=>0) ?_ ?_ rfl rfl <;> simp only[Fj,Int.add_zero,wx,dK,dL,af,seval,iteOmega,toNatUp] <;> first | rfl | exact⟨rfl,rfl⟩ | skip
  ·intro i hi;clear c1;have cf:=cf (bp e p+i);by_cases hlt:i<a
   ·rw[a1 i hlt] at cf;have g1:(bp e p+(i:Int)<aT e p)=True:=eq_true (by omega);have e2:bp e p+(i:Int)+1=bp e p+((i+1:Nat):Int):=by omega
    simp only[jC,kM,eK,ah,af,seval,iteOmega,toNatUp,g1];refine sD (cf) ?_;refine gq (i+1) (by omega) (by omega) (dQ (fun _=>0) ?_ ?_ rfl rfl) <;> simp only[e2,wx,dK,dL,af,seval,iteOmega,toNatUp] <;> first | rfl | exact⟨rfl,rfl⟩ | (refine⟨?_,rfl⟩; congr 4; omega) | skip
   ·obtain rfl:i=a:=by omega
    rw[a2] at cf;by_cases g0:bp e p+(i:Int)<aT e p
    ·have g1:=eq_true g0;simp only[jC,kM,eK,ah,af,seval,iteOmega,toNatUp,g1];refine sD (cf) ?_;clear cf;refine gR (gb e p v (bp e p+i)) (fun k=>b-k) (fun k=>k≤b) 0 (E6 _) ?_ ?_
     ·refine dQ (fun _=>0) ?_ ?_ rfl rfl <;> simp only[Fj,Int.sub_zero,wx,dK,dL,af,seval,iteOmega,toNatUp] <;> first | rfl | exact⟨rfl,rfl⟩ | skip
     ·intro k hk;have cf:=cg (aT e p-k);by_cases hlk:k<b
      ·rw[b1 k hlk] at cf;have g2:(aT e p-(k:Int)>bp e p+(i:Int))=True:=eq_true (by omega);have e2:aT e p-(k:Int)-1=aT e p-((k+1:Nat):Int):=by omega
       simp only[gr,gb,eK,ah,af,seval,iteOmega,toNatUp,g2];refine sD (cf) ?_;refine gq (k+1) (by omega) (by omega) (dQ (fun _=>0) ?_ ?_ rfl rfl) <;> simp only[e2,wx,dK,dL,af,seval,iteOmega,toNatUp] <;> first | rfl | exact⟨rfl,rfl⟩ | (refine⟨?_,rfl⟩; congr 4; omega) | skip
      ·obtain rfl:k=b:=by omega
       rw[b2] at cf;by_cases h0:aT e p-(k:Int)>bp e p+(i:Int)
       ·have g2:=eq_true h0;simp only[gr,gb,eK,ah,af,seval,iteOmega,toNatUp,g2];refine sD (cf) ?_;refine sD (c3) ?_;exact aF
       ·have g2:=eq_false h0;simp only[gr,gb,eK,ah,af,seval,iteOmega,toNatUp,g2];refine sD (c3) ?_;exact aF
    ·have g1:=eq_false g0;simp only[jC,kM,eK,ah,af,seval,iteOmega,toNatUp,g1];clear cf;refine gR (gb e p v (bp e p+i)) (fun k=>b-k) (fun k=>k≤b) 0 (E6 _) ?_ ?_
     ·refine dQ (fun _=>0) ?_ ?_ rfl rfl <;> simp only[Fj,Int.sub_zero,wx,dK,dL,af,seval,iteOmega,toNatUp] <;> first | rfl | exact⟨rfl,rfl⟩ | skip
     ·intro k hk;have cf:=cg (aT e p-k);by_cases hlk:k<b
      ·rw[b1 k hlk] at cf;have g2:(aT e p-(k:Int)>bp e p+(i:Int))=True:=eq_true (by omega);have e2:aT e p-(k:Int)-1=aT e p-((k+1:Nat):Int):=by omega
       simp only[gr,gb,eK,ah,af,seval,iteOmega,toNatUp,g2];refine sD (cf) ?_;refine gq (k+1) (by omega) (by omega) (dQ (fun _=>0) ?_ ?_ rfl rfl) <;> simp only[e2,wx,dK,dL,af,seval,iteOmega,toNatUp] <;> first | rfl | exact⟨rfl,rfl⟩ | (refine⟨?_,rfl⟩; congr 4; omega) | skip
      ·obtain rfl:k=b:=by omega
       rw[b2] at cf;by_cases h0:aT e p-(k:Int)>bp e p+(i:Int)
       ·have g2:=eq_true h0;simp only[gr,gb,eK,ah,af,seval,iteOmega,toNatUp,g2];refine sD (cf) ?_;refine sD (c3) ?_;exact aF
       ·have g2:=eq_false h0;simp only[gr,gb,eK,ah,af,seval,iteOmega,toNatUp,g2];refine sD (c3) ?_;exact aF
def jh (st lo p li ai:Int) (er:List Int) (sp:List D):D:=.agg [.int .i64 st,.int .i64 lo,.int .i64 p,.int .i64 li,.int .i64 ai,.sl (er.map zD),.sl sp]
def ig (so tr lc ou ol ho hb ba bl w2 w3:Int):D:=.agg [.int .i64 so,.int .i64 tr,.int .i64 lc,.int .i64 ou,.int .i64 ol,.int .i64 ho,.int .i64 hb,.int .i64 ba,.int .i64 bl,.int .i64 w2,.int .i64 w3]
theorem kr {e p:Int} (e0:0≤e) (e1:e≤3000000) (p0:0≤p) (p1:p≤1000000):cJ e p=true:=by
  simp[cJ];omega
def nK:List Int:=[0,2,50]
theorem Dp {i:Int} (r0:0≤i) (r1:i<3):0≤nK.getD i.toNat 0∧nK.getD i.toNat 0≤50:=by
  have:i=0∨i=1∨i=2:=by omega
  rcases this with rfl | rfl | rfl <;> decide
theorem fU (h:ak) (k:Kd) (y:V) (i a b c:Nat):cj h k [.undef,y] (.w (.c (.ptr i a b c)))=cond (dI i y) (cond (br (h i)) (aW h k (.w (.c (.ptr i a b c)))) none) none:=by
  have e1:eH [.undef,y] (.w (.c (.ptr i a b c)))=dI i y:=by simp[eH,dI,V.ids,W.ids,C.ids]
  have e2:(!([.undef,y]:List V).any dz || fF h (.w (.c (.ptr i a b c))))=br (h i):=by simp[dz,fF]
  unfold cj;rw[e1,e2];cases dI i y <;> cases br (h i) <;> rfl
def xp:aV:=⟨3,96,am [eM 4 1,oO 6 (.alloc [ao,ao,ao,ao,ao,ao,ao,ao,ao,ao,ao])] (am [oM 9 0,aA 10 5 4,oO 11 (.loadX .sc (.t 10) []),nA 12 11,oO 13 (.callM 15 [(.t 9),(.t 12),.u,(.t 0)]),oM 14 0,oO 15 (.callM 24 [(.t 14),.u,(.t 0)]),oM 16 0,oO 17 (.callM 24 [(.t 16),.u,(.t 0)]),oO 18 (.bldSl false 3 1 cR [(0,(kI 0)),(1,(kI 2)),(2,(kI 50))]),oM 19 0,oO 20 (.callM 15 [(.t 19),(kI 3),.u,(.t 0)]),fN 21 1 18 20,oO 22 (.loadX .sc (.t 21) []),oM 23 0,oO 24 (.callM 24 [(.t 23),.u,(.t 0)]),oO 25 (.build [ao,ao,ao,ao,ao,ao,ao,ao,ao,ao,ao] [(0,1,(.t 13)),(1,1,(.t 15)),(3,1,(.t 17)),(5,1,(.t 22)),(7,1,(.t 24))]),oO 7 (.alloc [ao,ao,ao,ao,ao,ao,ao,ao,ao,ao,ao]),bO 11 7 25] (am [aA 26 1 7,oO 27 (.loadX .sc (.t 26) [.u,(.t 0)]),aA 28 2 4,oO 29 (.loadX .sc (.t 28) []),
 oM 30 0,oO 31 (.callM 23 [(.t 30),.u,(.t 0)]),gg 32 25 27 29 31,aA 33 3 7,oO 34 (.loadX .sc (.t 33) [.u,(.t 0)]),aA 35 2 4,oO 36 (.loadX .sc (.t 35) []),oM 37 0,oO 38 (.callM 23 [(.t 37),.u,(.t 0)]),gg 39 25 34 36 38,aA 40 5 7,oO 41 (.loadX .sc (.t 40) [.u,(.t 0)]),aA 42 2 4,oO 43 (.loadX .sc (.t 42) []),oM 44 0,oO 45 (.callM 23 [(.t 44),.u,(.t 0)]),gg 46 25 41 43 45,aA 47 7 7,oO 48 (.loadX .sc (.t 47) [.u,(.t 0)]),aA 49 2 4,oO 50 (.loadX .sc (.t 49) []),oM 51 0,oO 52 (.callM 23 [(.t 51),.u,(.t 0)]),gg 53 25 48 50 52,aA 54 2 7,dl 54 32,aA 55 4 7,dl 55 39,aA 56 6 7,dl 56 46,aA 57 8 7,dl 57 53] (am [aA 58 5 4,aH 59 58,aA 60 0 7,aH 61 60,fN 62 1 59 61,aH 63 62,oM 8 63] (am [oM 64 0,oM 65 8,oO 66 (.un .neg (.t 65)),oM 67 8,oO 68 (.callM 14 [(.t 64),(.t 66),(.t 67),.u,(.t 0)]),
 oM 69 0,oM 70 8,oO 71 (.un .neg (.t 70)),oM 72 8,oO 73 (.callM 14 [(.t 69),(.t 71),(.t 72),.u,(.t 0)]),aA 74 9 7,dl 74 68,aA 75 10 7,dl 75 73] (.seq (am [oM 76 2,oM 77 76,cQ 78 0 7 77 true,cP 79 78 77 true,cQ 80 3 4 77 true,cP 81 80 77 true,dU .lss 82 79 81 77 true,bP 83 77 82] (bH 83 (am [oM 84 0,oO 85 (.callM 14 [(.t 84),(.k (.c (.d (.int .i64 (-4000))))),(kI 4000),.u,(.t 0)]),oM 86 0,oO 87 (.callM 14 [(.t 86),(.k (.c (.d (.int .i64 (-4000))))),(kI 4000),.u,(.t 0)]),aA 88 9 7,dl 88 85,aA 89 10 7,dl 89 87] (am [oM 90 0,oO 91 (.callM 26 [(.t 90),(kI 2),.u,(.t 0)])] (bH 91 (.reg [aA 92 9 7,aH 93 92,aA 94 10 7,dl 94 93]) .skip))) .skip)) (am [da 95 11 7,bO 11 6 95] .ret)))))),[(6,(some (.ag 11)))]⟩
theorem Dq:aR Try.prog { lx:=[(11,[]),(22,[]),(29,[]),(36,[]),(43,[]),(50,[]),(27,[999999,0]),(34,[999999,0]),(41,[999999,0]),(48,[999999,0])],mt:=[13,15,17,20,24,31,38,45,52,68,73,85,87,91],md:=[(13,[0]),(15,[0]),(17,[0]),(20,[0]),(24,[0]),(31,[0]),(38,[0]),(45,[0]),(52,[0]),(68,[0]),(73,[0]),(85,[0]),(87,[0]),(91,[0])] } Try.f16=some xp:=by kernel_rfl
set_option maxHeartbeats 6400000 in
theorem DN (G:av) (l:List Int) (a:Nat) (st lo p li ai:Int) (er:List Int) (sp:List D) (hl:l.length≤9223372036854775807) (ha:a≤l.length) (he:0<er.length) (he5:er.length≤5) (hr:∀ e∈er,0≤e∧e≤20) (p0:0≤p) (p1:p≤1000000) :
    ∃ (k:Nat) (tr lc ou ol ho hb ba bl w2 w3:Int) (b:Nat),b≤l.length∧k<er.length∧(0≤ou∧ou≤3000000)∧(0≤ho∧ho≤50)∧(0≤ba∧ba≤3000000)∧bA ou ol p=true∧bA ho hb p=true∧bA ba bl p=true ∧
      dA Try.prog G 16 [.c (.ptr 1 1 0 0),.c (.d (jh st lo p li ai er sp)),.c (.d (.bool false))] (bf (ct l a)) [1] (.w (.c (.d (ig k tr lc ou ol ho hb ba bl w2 w3)))) (bf (ct l b)) [1]:=by
  have key:∀ x:Nat,x≤l.length→∃ y:Nat,y≤l.length∧eR l x=y:=fun x hx=>⟨_,mR hx,rfl⟩
  have c1:=fg G l a er.length hl ha (by omega) (by omega);obtain⟨s0,s1⟩:=cK (aM l a) er.length (by omega);obtain⟨a1,h1,e1⟩:=key a ha;have c2:=m9 G l a1 hl h1;obtain⟨t0,t1⟩:=lD l a1;obtain⟨a2,h2,e2⟩:=key a1 h1;have c3:=m9 G l a2 hl h2;obtain⟨o0,o1⟩:=lD l a2;obtain⟨a3,h3,e3⟩:=key a2 h2;have c4:=fg G l a3 3 hl h3 (by omega) (by omega);obtain⟨i0,i1⟩:=cK (aM l a3) 3 (by omega);obtain⟨a4,h4,e4⟩:=key a3 h3;have c5:=m9 G l a4 hl h4;obtain⟨b0,b1⟩:=lD l a4;obtain⟨a5,h5,e5⟩:=key a4 h4;have c6:=i8 G l a5 hl h5;obtain⟨a6,h6,e6⟩:=key a5 h5;have c7:=i8 G l a6 hl h6;obtain⟨a7,h7,e7⟩:=key a6 h6;have c8:=i8 G l a7 hl h7;obtain⟨a8,h8,e8⟩:=key a7 h7;have c9:=i8 G l a8 hl h8;obtain⟨a9,h9,e9⟩:=key a8 h8;rw[e1] at c1;rw[e2] at c2;rw[e3] at c3;rw[e4] at c4;rw[e5] at c5;rw[e6] at c6;rw[e7] at c7;rw[e8] at c8;rw[e9] at c9;obtain⟨k,hk⟩:=EP s0;rw[hk] at c1 s1;generalize gi l a1=tr at *
  generalize gi l a2=ou at *
  generalize gi l a4=ba at *
  generalize bL (aM l a3) 3=i at *
  obtain⟨q0,q1⟩:=Dp i0 i1;have hg:∃ ho,nK.getD i.toNat 0=ho:=⟨_,rfl⟩
  obtain⟨ho,eh⟩:=hg;rw[eh] at q0 q1;obtain⟨lc,f1,d1⟩:=kq G tr p (aM l a5) (kr t0 t1 p0 p1);obtain⟨ol,f2,d2⟩:=kq G ou p (aM l a6) (kr o0 o1 p0 p1);obtain⟨hb,f3,d3⟩:=kq G ho p (aM l a7) (kr q0 (by omega) p0 p1);obtain⟨bl,f4,d4⟩:=kq G ba p (aM l a8) (kr b0 b1 p0 p1);have hkl:k<er.length:=by omega
  have hz:er[k]?=some er[k]:=Ek hkl;obtain⟨z0,z1⟩:=hr er[k] (EL hkl);generalize er[k]=z at *
  have ca:=kn G l a9 (0-z) z hl h9 (by omega) (by omega) (by omega);obtain⟨aa,ha1,ea⟩:=key a9 h9;have cb:=kn G l aa (0-z) z hl ha1 (by omega) (by omega) (by omega);obtain⟨ab,hb1,eb⟩:=key aa ha1;rw[ea] at ca;rw[eb] at cb;generalize aM l a5=x5 at *
  generalize aM l a6=x6 at *
  generalize aM l a7=x7 at *
  generalize aM l a8=x8 at *
  have w0:=cK (aM l a9) (z-(0-z)+1) (by omega);have w1:=cK (aM l aa) (z-(0-z)+1) (by omega);generalize bL (aM l a9) (z-(0-z)+1)=w2 at *
  generalize bL (aM l aa) (z-(0-z)+1)=w3 at *
  refine⟨k,tr,lc,ou,ol,ho,hb,ba,bl,0-z+w2,0-z+w3,ab,hb1,hkl,⟨o0,o1⟩,⟨q0,q1⟩,⟨b0,b1⟩,f2,f3,f4,?_⟩;clear key e1 e2 e3 e4 e5 e6 e7 e8 e9 ea eb f1 f2 f3 f4 hr;refine gM Try.func16 Dq 0 rfl rfl rfl rfl rfl rfl ?_;unfold jh ig;have:i=0∨i=1∨i=2:=by omega
  rcases this with rfl | rfl | rfl
  all_goals
    first | (obtain rfl:(0:Int)=ho:=eh) | (obtain rfl:(2:Int)=ho:=eh) | (obtain rfl:(50:Int)=ho:=eh)
    simp only[xp,cY,bf,bu,bg,ah,af,seval,iteOmega,toNatUp];refine bW (id:=1) (ws:=[.c (.ptr 1 1 0 0),.c (.d (.int .i64 er.length))]) c1 (by simp only[ah,af,seval,iteOmega,toNatUp,El,Eu]) rfl (by simp only[ah,af,seval,iteOmega,toNatUp]) rfl ?_;simp only[bV,bu,bg,ah,af,seval,iteOmega,toNatUp];refine bW (id:=1) (ws:=[.c (.ptr 1 1 0 0)]) c2 (by simp only[ah,af,seval,iteOmega,toNatUp,El,Eu]) rfl (by simp only[ah,af,seval,iteOmega,toNatUp]) rfl ?_;simp only[bV,bu,bg,ah,af,seval,iteOmega,toNatUp];refine bW (id:=1) (ws:=[.c (.ptr 1 1 0 0)]) c3 (by simp only[ah,af,seval,iteOmega,toNatUp,El,Eu]) rfl (by simp only[ah,af,seval,iteOmega,toNatUp]) rfl ?_;simp only[bV,bu,bg,ah,af,seval,iteOmega,toNatUp];refine bW (id:=1) (ws:=[.c (.ptr 1 1 0 0),.c (.d (.int .i64 3))]) c4 (by simp only[ah,af,seval,iteOmega,toNatUp,El,Eu]) rfl (by simp only[ah,af,seval,iteOmega,toNatUp]) rfl ?_;simp only[bV,bu,bg,ah,af,seval,iteOmega,toNatUp];refine bW (id:=1) (ws:=[.c (.ptr 1 1 0 0)]) c5 (by simp only[ah,af,seval,iteOmega,toNatUp,El,Eu]) rfl (by simp only[ah,af,seval,iteOmega,toNatUp]) rfl ?_;simp only[fU,bV,bu,bg,ah,af,seval,iteOmega,toNatUp];refine bW (id:=1) (ws:=[.c (.ptr 1 1 0 0)]) c6 (by simp only[ah,af,seval,iteOmega,toNatUp,El,Eu]) rfl (by simp only[ah,af,seval,iteOmega,toNatUp]) rfl ?_;simp only[bV,bu,bg,ah,af,seval,iteOmega,toNatUp];refine sC (d1) ?_;simp only[fU,bg,ah,af,seval,iteOmega,toNatUp];refine bW (id:=1) (ws:=[.c (.ptr 1 1 0 0)]) c7 (by simp only[ah,af,seval,iteOmega,toNatUp,El,Eu]) rfl (by simp only[ah,af,seval,iteOmega,toNatUp]) rfl ?_;simp only[bV,bu,bg,ah,af,seval,iteOmega,toNatUp];refine sC (d2) ?_;simp only[fU,bg,ah,af,seval,iteOmega,toNatUp];refine bW (id:=1) (ws:=[.c (.ptr 1 1 0 0)]) c8 (by simp only[ah,af,seval,iteOmega,toNatUp,El,Eu]) rfl (by simp only[ah,af,seval,iteOmega,toNatUp]) rfl ?_;simp only[bV,bu,bg,ah,af,seval,iteOmega,toNatUp];refine sC (d3) ?_;simp only[fU,bg,ah,af,seval,iteOmega,toNatUp];refine bW (id:=1) (ws:=[.c (.ptr 1 1 0 0)]) c9 (by simp only[ah,af,seval,iteOmega,toNatUp,El,Eu]) rfl (by simp only[ah,af,seval,iteOmega,toNatUp]) rfl ?_;simp only[bV,bu,bg,ah,af,seval,iteOmega,toNatUp];refine sC (d4) ?_;simp only[mo,hz,zD,bg,ah,af,seval,iteOmega,toNatUp];refine bW (id:=1) (ws:=[.c (.ptr 1 1 0 0),.c (.d (.int .i64 (0-z))),.c (.d (.int .i64 z))]) ca (by simp only[ah,af,seval,iteOmega,toNatUp,El,Eu]) rfl (by simp only[ah,af,seval,iteOmega,toNatUp]) rfl ?_;simp only[bV,bu,bg,ah,af,seval,iteOmega,toNatUp];refine bW (id:=1) (ws:=[.c (.ptr 1 1 0 0),.c (.d (.int .i64 (0-z))),.c (.d (.int .i64 z))]) cb (by simp only[ah,af,seval,iteOmega,toNatUp,El,Eu]) rfl (by simp only[ah,af,seval,iteOmega,toNatUp]) rfl ?_;simp only[bV,bu,bg,ah,af,seval,iteOmega,toNatUp];exact wZ (by simp only[ah,af,seval,iteOmega,toNatUp]) (by simp only[ah,af,seval,iteOmega,toNatUp]) (by simp only[ah,af,seval,iteOmega,toNatUp])
theorem qe {α β γ:Type} {R:α→β→Prop} {Q:β→γ→Prop} {T:α→γ→Prop} (h:∀ a b c,R a b→Q b c→T a c):∀ {la:List α} {lb:List β} {lc:List γ},aj R la lb→aj Q lb lc→aj T la lc
  | _,_,_,.nil,.nil=>.nil
  | _,_,_,.cons h1 h2,.cons k1 k2=>.cons (h _ _ _ h1 k1) (qe h h2 k2)
theorem AB {P:Program} {G:av} {f:FuncId} {args args':List W} {h0 h1:ak} {L L1:List Nat} {res:V} (h:dA P G f args h0 L res h1 L1) (hw:aj (fun x' x:W=>∀ m S w v,RW m S w v x'→RW m S w v x) args' args) (hi:∀ x∈args',∀ i∈x.ids,i∈L):dA P G f args' h0 L res h1 L1:=by
  obtain⟨⟨p1,p2,p3,p4⟩,H⟩:=h;exact⟨⟨p1,p2,hi,p4⟩,fun w S vs m a b c d e=>H w S vs m a b c d (qe (fun _ _ _ h k=>k _ _ _ _ h) e hw)⟩
def gB:List C→Option (List D)
  | []=>some []
  | .nil::r=>(gB r).map (.sl []::·)
  | .d x::r=>(gB r).map (x::·)
  | _=>none
theorem l6 {m:Mp} {S:al} {w:World}:∀ {cs:List C} {ds:List D} {us:List Value},gB cs=some ds→aj (RC m S w) us cs→aj (Reads S w) us ds
  | [],_,_,e,h=>by cases h; simp only[gB,Ej] at e; subst e; exact .nil
  | .nil::r,_,_,e,h=>by
    simp only[gB,Ei] at e;obtain⟨l,hl,rfl⟩:=e;cases h with
    | cons h1 h2 =>
      obtain⟨ad,rfl⟩:=h1;exact .cons (Reads.zero ad) (l6 hl h2)
  | .d x::r,_,_,e,h=>by
    simp only[gB,Ei] at e;obtain⟨l,hl,rfl⟩:=e;cases h with
    | cons h1 h2=>exact .cons h1 (l6 hl h2)
  | .own ..::_,_,_,e,_ | .ptr ..::_,_,_,e,_ | .pa ..::_,_,_,e,_ | .rp ..::_,_,_,e,_ | .ra ..::_,_,_,e,_ | .fr ..::_,_,_,e,_ | .cf ..::_,_,_,e,_ | .mp ..::_,_,_,e,_=>by cases e
theorem Bu {cs:List C} {ds:List D} (h:gB cs=some ds):∀ m S w v,RW m S w v (.mix cs)→RW m S w v (.c (.d (.agg ds))) :=
  fun _ _ _ _ ⟨us,e,k⟩=>⟨us,e,l6 h k⟩
def kN (st lo p li ai:Int) (er:List Int):List C:=[.d (.int .i64 st),.d (.int .i64 lo),.d (.int .i64 p),.d (.int .i64 li),.d (.int .i64 ai),.d (.sl (er.map zD)),.nil]
def kU:List Int:=[0,3,20]
def nL:List Int:=[0,50000,1000000,200]
def Ee:List Int:=[0,500,1000]
theorem Dr {i:Int} (r0:0≤i) (r1:i<3):0≤kU.getD i.toNat 0∧kU.getD i.toNat 0≤20:=by
  have:i=0∨i=1∨i=2:=by omega
  rcases this with rfl | rfl | rfl <;> decide
theorem Ds {i:Int} (r0:0≤i) (r1:i<4):0≤nL.getD i.toNat 0∧nL.getD i.toNat 0≤1000000:=by
  have:i=0∨i=1∨i=2∨i=3:=by omega
  rcases this with rfl | rfl | rfl | rfl <;> decide
def cZ (l:List Int) (a:Nat):Nat→Nat
  | 0=>a
  | i+1=>eR l (cZ l a i)
def gG (l:List Int) (a:Nat) (j:Nat):Int:=kU.getD (bL (aM l (cZ l a j)) 3).toNat 0
def ej (l:List Int) (a:Nat) (i:Nat):List Int:=(List.range i).map (gG l a)
theorem uG {l:List Int} {a:Nat} (h:a≤l.length):∀ i,cZ l a i≤l.length
  | 0=>h
  | i+1=>mR (uG h i)
theorem l7 (l:List Int) (a i:Nat):(ej l a i).length=i:=by unfold ej; rw[EK,List.length_range]
theorem AC (l:List Int) (a i:Nat):ej l a (i+1)=ej l a i++[gG l a i]:=by unfold ej; rw[List.range_succ,List.map_append]; rfl
theorem Cq (l:List Int) (a j:Nat):0≤gG l a j∧gG l a j≤20:=by
  obtain⟨r0,r1⟩:=cK (aM l (cZ l a j)) 3 (by decide);exact Dr r0 r1
theorem Cr (l:List Int) (a i:Nat):∀ e∈ej l a i,0≤e∧e≤20:=by
  intro e he;unfold ej at he;obtain⟨j,_,rfl⟩:=Es.1 he;exact Cq l a j
def dG (st lo p li ai:Int) (e s:C):Ob:=.box [.d (.int .i64 st),.d (.int .i64 lo),.d (.int .i64 p),.d (.int .i64 li),.d (.int .i64 ai),e,s]
def dH:Ob:=.box [.d (.int .i64 0),.d (.int .i64 0),.d (.int .i64 0),.d (.int .i64 0),.d (.int .i64 0),.nil,.nil]
def gH (l:List Int) (a:Nat) (st lo p li ai:Int):Nat→List (Nat×Ob)
  | 0=>[(1,.box ((ct l a).map C.d)),(48,dH),(56,dG st lo p li ai .nil .nil)]
  | i+1=>[(1,.box ((ct l (cZ l a (i+1))).map C.d)),(48,dH),(56,dG st lo p li ai (.own 2 1 0 (i+1)) .nil),(2,.row 1 ((ej l a (i+1)).map zD))]
def ku (l:List Int) (a:Nat) (st lo p li ai:Int) (k i:Nat):St :=
  ⟨em [(0,.w (.c (.ptr 1 1 0 0))),(1,.w (.c (.d (.int .i64 1)))),(2,.w (.c (.d (.bool false)))),(6,.w (.c (.ptr 48 1 0 0))),(7,.w (.c (.ptr 56 1 0 0))),(8,.w (.c (.d (.int .i64 (k:Int))))),(9,.w (.c (.d (.int .i64 (i:Int)))))],hL (gH l a st lo p li ai i),uL [1,48,56,2]⟩
def i9 (l:List Int) (b1 b2:Nat) (st lo p li ai:Int) (er:List Int) (x:D):Nat→List (Nat×Ob)
  | 0=>[(1,.box ((ct l b1).map C.d)),(48,dH),(56,dG st lo p li ai (.d (.sl (er.map zD))) .nil)]
  | _+1=>[(1,.box ((ct l b2).map C.d)),(48,dH),(56,dG st lo p li ai (.d (.sl (er.map zD))) (.own 2 11 0 1)),(2,.row 11 [x])]
def na (l:List Int) (b1 b2:Nat) (st lo p li ai:Int) (er:List Int) (x:D) (i:Nat):St :=
  ⟨em [(0,.w (.c (.ptr 1 1 0 0))),(2,.w (.c (.d (.bool false)))),(6,.w (.c (.ptr 48 1 0 0))),(7,.w (.c (.ptr 56 1 0 0))),(10,.w (.c (.d (.int .i64 (1-(i:Int))))))],hL (i9 l b1 b2 st lo p li ai er x i),uL [1,48,56,2]⟩
def jD:aN := .seq (am [oM 35 9,oM 36 8,aJ .lss 37 35 36] (bH 37 .skip (.exit 0))) (.seq (.block 1 (.reg [aA 40 5 7,oO 41 (.loadX .sc (.t 40) [.u,(.t 0)]),oO 42 (.bldSl false 3 1 cR [(0,(kI 0)),(1,(kI 3)),(2,(kI 20))]),oM 43 0,oO 44 (.callM 15 [(.t 43),(kI 3),.u,(.t 0)]),fN 45 1 42 44,oO 46 (.loadX .sc (.t 45) []),oO 47 (.bldSl false 1 1 cR [(0,(.t 46))]),oO 48 (.app false 1 8 (.t 41) (.t 47)),aA 49 5 7,dl 49 48])) (.reg [oM 38 9,aY .add 39 38 1,oM 9 39]))
def l8:aN := .seq (am [oM 54 10,aY .gtr 55 54 0] (bH 55 .skip (.exit 2))) (.seq (.block 3 (.reg [aA 58 6 7,oO 59 (.loadX .sc (.t 58) [.u,(.t 0)]),oM 60 0,da 61 7 7,oM 62 2,oO 63 (.callM 16 [(.t 60),(.t 61),(.t 62),.u,(.t 0)]),oO 64 (.bldSl false 1 11 (.agg [cR,cR,cR,cR,cR,cR,cR,cR,cR,cR,cR]) [(0,(.t 63))]),oO 65 (.app false 11 88 (.t 59) (.t 64)),aA 66 6 7,dl 66 65])) (.reg [oM 56 10,aY .sub 57 56 1,oM 10 57]))
def xq:aV:=⟨3,68,am [oO 6 (.alloc [ao,ao,ao,ao,ao,.nil,.nil])] (am [oM 11 0,oO 12 (.callM 14 [(.t 11),(.k (.c (.d (.int .i64 (-1000))))),(kI 1000),.u,(.t 0)]),oM 13 0,oO 14 (.callM 14 [(.t 13),(.k (.c (.d (.int .i64 (-500))))),(kI 500),.u,(.t 0)]),oO 15 (.bldSl false 4 1 cR [(0,(kI 0)),(1,(kI 50000)),(2,(kI 1000000)),(3,(kI 200))]),oM 16 0,oO 17 (.callM 15 [(.t 16),(kI 4),.u,(.t 0)]),fN 18 1 15 17,oO 19 (.loadX .sc (.t 18) []),oO 20 (.bldSl false 3 1 cR [(0,(kI 0)),(1,(kI 500)),(2,(kI 1000))]),oM 21 0,oO 22 (.callM 15 [(.t 21),(kI 3),.u,(.t 0)]),fN 23 1 20 22,oO 24 (.loadX .sc (.t 23) []),oO 25 (.build [ao,ao,ao,ao,ao,.nil,.nil] [(0,1,(.t 12)),(1,1,(.t 14)),(2,1,(.t 19)),(4,1,(.t 24))]),oO 7 (.alloc [ao,ao,ao,ao,ao,.nil,.nil]),bO 7 7 25] (am [oM 26 0,oO 27 (.callM 15 [(.t 26),(kI 5),.u,(.t 0)]),
 oO 28 (.bin .add (kI 1) (.t 27)),oM 8 28] (am [oM 29 0,oM 30 8,aY .add 31 30 1,aY .quo 32 31 2,oO 33 (.callM 15 [(.t 29),(.t 32),.u,(.t 0)]),aA 34 3 7,dl 34 33] (.seq (am [aS 9 0] (.block 0 (.loop jD))) (.seq (.seq (.ghost 7 (.reg [oM 50 0,oM 51 1,oO 52 (.callM 15 [(.t 50),(.t 51),.u,(.t 0)]),oO 53 (.bin .add (kI 1) (.t 52)),oM 10 53])) (.block 2 (.loop l8))) (.seq (.ghost 7 (.reg [da 67 7 7,bO 7 6 67])) .ret)))))),[(6,(some (.ag 7)))]⟩
theorem Dt:aR Try.prog { lx:=[(19,[]),(24,[]),(46,[]),(41,[999999,0]),(59,[999999,0])],mt:=[12,14,17,22,27,33,44,52,63],gh:=[(8,7),(12,7)],md:=[(12,[0]),(14,[0]),(17,[0]),(22,[0]),(27,[0]),(33,[0]),(44,[0]),(52,[0]),(63,[0])] } Try.f6=some xq:=by kernel_rfl
set_option maxHeartbeats 6400000 in
theorem DO (G:av) (l:List Int) (hl:l.length≤9223372036854775807) :
    ∃ (st lo p li ai:Int) (er:List Int) (k:Nat) (tr lc ou ol ho hb ba bl w2 w3:Int) (b:Nat),b≤l.length∧(-1000≤st∧st≤1000)∧(-500≤lo∧lo≤500)∧(0≤p∧p≤1000000)∧(0<er.length∧er.length≤5)∧(∀ e∈er,0≤e∧e≤20) ∧
      k<er.length∧(0≤ou∧ou≤3000000)∧(0≤ho∧ho≤50)∧(0≤ba∧ba≤3000000)∧bA ou ol p=true∧bA ho hb p=true∧bA ba bl p=true ∧
      dA Try.prog G 6 [.c (.ptr 1 1 0 0),.c (.d (.int .i64 1)),.c (.d (.bool false))] (bf (ct l 0)) [1] (.w (.c (.d (jh st lo p li ai er [ig k tr lc ou ol ho hb ba bl w2 w3])))) (bf (ct l b)) [1]:=by
  have key:∀ x:Nat,x≤l.length→∃ y:Nat,y≤l.length∧eR l x=y:=fun x hx=>⟨_,mR hx,rfl⟩
  have c1:=kn G l 0 (0-1000) 1000 hl (E6 _) (by omega) (by omega) (by omega);have w1:=cK (aM l 0) (1000-(0-1000)+1) (by omega);obtain⟨a1,h1,e1⟩:=key 0 (E6 _);have c2:=kn G l a1 (0-500) 500 hl h1 (by omega) (by omega) (by omega);have w2:=cK (aM l a1) (500-(0-500)+1) (by omega);obtain⟨a2,h2,e2⟩:=key a1 h1;have c3:=fg G l a2 4 hl h2 (by omega) (by omega);have w3:=cK (aM l a2) 4 (by omega);obtain⟨a3,h3,e3⟩:=key a2 h2;have c4:=fg G l a3 3 hl h3 (by omega) (by omega);have w4:=cK (aM l a3) 3 (by omega);obtain⟨a4,h4,e4⟩:=key a3 h3;have c5:=fg G l a4 5 hl h4 (by omega) (by omega);have w5:=cK (aM l a4) 5 (by omega);obtain⟨a5,h5,e5⟩:=key a4 h4;rw[e1] at c1;rw[e2] at c2;rw[e3] at c3;rw[e4] at c4;rw[e5] at c5;obtain⟨st,hst⟩:∃ x,0-1000+bL (aM l 0) (1000-(0-1000)+1)=x:=⟨_,rfl⟩
  obtain⟨lo,hlo⟩:∃ x,0-500+bL (aM l a1) (500-(0-500)+1)=x:=⟨_,rfl⟩
  rw[hst] at c1;rw[hlo] at c2;generalize bL (aM l a2) 4=x3 at *
  generalize bL (aM l a3) 3=x4 at *
  obtain⟨k,hk⟩:∃ k:Nat,1+bL (aM l a4) 5=(k:Int):=⟨(1+bL (aM l a4) 5).toNat,by omega⟩
  have k1:1≤k∧k≤5:=by omega
  generalize bL (aM l a4) 5=x5 at *
  obtain⟨q0,q1⟩:=Ds w3.1 w3.2;obtain⟨p,hp⟩:∃ p,nL.getD x3.toNat 0=p:=⟨_,rfl⟩
  obtain⟨ai,ha⟩:∃ p,Ee.getD x4.toNat 0=p:=⟨_,rfl⟩
  rw[hp] at q0 q1;have c6:=fg G l a5 ((k+1) / 2:Nat) hl h5 (by omega) (by omega);obtain⟨a6,h6,e6⟩:=key a5 h5;rw[e6] at c6;generalize bL (aM l a5) ((k+1) / 2:Nat)=li at *
  have hA:=fun i=>uG (l:=l) (a:=a6) h6 i
  have c7:=fun i=>fg G l (cZ l a6 i) 3 hl (hA i) (by omega) (by omega)
  obtain⟨b0,g0,e0⟩:∃ b,b≤l.length∧cZ l a6 k=b:=⟨_,hA k,rfl⟩
  have c8:=fg G l b0 1 hl g0 (by omega) (by omega);have w8:=cK (aM l b0) 1 (by omega);rw[show bL (aM l b0) 1=0 by omega] at c8;obtain⟨b1,g1,e8⟩:=key b0 g0;rw[e8] at c8;obtain⟨er,her⟩:∃ er,ej l a6 k=er:=⟨_,rfl⟩
  have eL:er.length=k:=by rw[← her,l7]
  have eI:∀ e∈er,0≤e∧e≤20:=by rw[← her]; exact Cr l a6 k
  obtain⟨j,tr,lc,ou,ol,ho,hb,ba,bl,v2,v3,b2,hb2,hj,o1,o2,o3,f1,f2,f3,d9⟩:=DN G l b1 st lo p li ai er [] hl g1 (by omega) (by omega) eI q0 q1;refine⟨st,lo,p,li,ai,er,j,tr,lc,ou,ol,ho,hb,ba,bl,v2,v3,b2,hb2,⟨by omega,by omega⟩,⟨by omega,by omega⟩,⟨q0,q1⟩,⟨by omega,by omega⟩,eI,hj,o1,o2,o3,f1,f2,f3,?_⟩;have c9:dA Try.prog G 16 [.c (.ptr 1 1 0 0),.mix (kN st lo p li ai er),.c (.d (.bool false))] (bf (ct l b1)) [1] (.w (.c (.d (ig j tr lc ou ol ho hb ba bl v2 v3)))) (bf (ct l b2)) [1] :=
    AB d9 (.cons (fun _ _ _ _ h=>h) (.cons (Bu rfl) (.cons (fun _ _ _ _ h=>h) .nil))) (by simp[kN,W.ids,C.ids])
  clear d9 f1 f2 f3 o1 o2 o3 key e1 e2 e3 e4 e5 e6 e8 hst hlo w1 w2 w8 eI;obtain⟨xr,hxr⟩:∃ xr,ig j tr lc ou ol ho hb ba bl v2 v3=xr:=⟨_,rfl⟩
  have hcx:xr.cells.length=11:=by rw[← hxr]; rfl
  rw[hxr] at c9 ⊢;clear hxr hj;obtain⟨n3,rfl⟩:=EP w3.1;obtain⟨n4,rfl⟩:=EP w4.1;have z3:([.int .i64 0,.int .i64 50000,.int .i64 1000000,.int .i64 200]:List D)[n3]?=some (.int .i64 p):=by
    have:n3=0∨n3=1∨n3=2∨n3=3:=by omega
    rcases this with rfl | rfl | rfl | rfl <;> (rw[← hp]; rfl)
  have z4:([.int .i64 0,.int .i64 500,.int .i64 1000]:List D)[n4]?=some (.int .i64 ai):=by
    have:n4=0∨n4=1∨n4=2:=by omega
    rcases this with rfl | rfl | rfl <;> (rw[← ha]; rfl)
  have hq:Int.tdiv ((k:Int)+1) 2=(((k+1) / 2:Nat):Int):=by
    rw[Int.tdiv_eq_ediv_of_nonneg (by omega)]; omega
  clear hp ha q0 q1;refine gM Try.func6 Dt 0 rfl rfl rfl rfl rfl rfl ?_;unfold jh;simp only[xq,cY,bf,bu,bg,ah,af,seval,iteOmega,toNatUp];refine bW (id:=1) (ws:=[.c (.ptr 1 1 0 0),.c (.d (.int .i64 (0-1000))),.c (.d (.int .i64 1000))]) c1 (by simp only[ah,af,seval,iteOmega,toNatUp,El,Eu] <;> rfl) rfl (by simp only[ah,af,seval,iteOmega,toNatUp]) rfl ?_;simp only[bV,bu,bg,ah,af,seval,iteOmega,toNatUp];refine bW (id:=1) (ws:=[.c (.ptr 1 1 0 0),.c (.d (.int .i64 (0-500))),.c (.d (.int .i64 500))]) c2 (by simp only[ah,af,seval,iteOmega,toNatUp,El,Eu] <;> rfl) rfl (by simp only[ah,af,seval,iteOmega,toNatUp]) rfl ?_;simp only[bV,bu,bg,ah,af,seval,iteOmega,toNatUp];refine bW (id:=1) (ws:=[.c (.ptr 1 1 0 0),.c (.d (.int .i64 4))]) c3 (by simp only[ah,af,seval,iteOmega,toNatUp,El,Eu]) rfl (by simp only[ah,af,seval,iteOmega,toNatUp]) rfl ?_;simp only[bV,bu,bg,ah,af,seval,iteOmega,toNatUp,z3];refine bW (id:=1) (ws:=[.c (.ptr 1 1 0 0),.c (.d (.int .i64 3))]) c4 (by simp only[ah,af,seval,iteOmega,toNatUp,El,Eu]) rfl (by simp only[ah,af,seval,iteOmega,toNatUp]) rfl ?_;simp only[bV,bu,bg,ah,af,seval,iteOmega,toNatUp,z4];refine bW (id:=1) (ws:=[.c (.ptr 1 1 0 0),.c (.d (.int .i64 5))]) c5 (by simp only[ah,af,seval,iteOmega,toNatUp,El,Eu]) rfl (by simp only[ah,af,seval,iteOmega,toNatUp]) rfl ?_;simp only[bV,bu,bg,ah,af,seval,iteOmega,toNatUp,hk,hq];refine bW (id:=1) (ws:=[.c (.ptr 1 1 0 0),.c (.d (.int .i64 (((k+1) / 2:Nat):Int)))]) c6 (by simp only[ah,af,seval,iteOmega,toNatUp,El,Eu]) rfl (by simp only[ah,af,seval,iteOmega,toNatUp]) rfl ?_;simp only[bV,bu,bg,ah,af,seval,iteOmega,toNatUp];clear c1 c2 c3 c4 c5 c6 z3 z4 hq;refine gR (ku l a6 st lo p li ai k) (fun i=>k-i) (fun i=>i≤k) 0 (E6 _) ?_ ?_
  ·refine dQ (fun i=>i) ?_ ?_ rfl rfl <;> simp only[gH,dG,dH,ct,cZ,El,Eu,wx,dK,dL,af,seval,iteOmega,toNatUp] <;> first | rfl | exact⟨rfl,rfl⟩ | skip
  ·intro i hi;by_cases hlt:i<k
   ·have c7:=c7 i;have es:=AC l a6 i;have eln:=l7 l a6 i;obtain⟨r0,r1⟩:=cK (aM l (cZ l a6 i)) 3 (by decide);have hx:kU.getD (bL (aM l (cZ l a6 i)) 3).toNat 0=gG l a6 i:=rfl;have hs1:eR l (cZ l a6 i)=cZ l a6 (i+1):=rfl;rw[hs1] at c7;generalize bL (aM l (cZ l a6 i)) 3=x7 at *
    obtain⟨n7,rfl⟩:=EP r0;have z7:([.int .i64 0,.int .i64 3,.int .i64 20]:List D)[n7]?=some (.int .i64 (gG l a6 i)):=by
      rw[← hx];have:n7=0∨n7=1∨n7=2:=by omega
      rcases this with rfl | rfl | rfl <;> rfl
    clear hx;generalize gG l a6 i=xe at *
    rcases i with _ | i
    ·have hs2:[D.int .i64 xe]=(ej l a6 (0+1)).map zD:=by rw[es]; rfl
     simp only[jD,ku,gH,dG,dH,cZ,fU,ah,af,seval,iteOmega,toNatUp];refine bW (id:=1) (ws:=[.c (.ptr 1 1 0 0),.c (.d (.int .i64 3))]) c7 (by simp only[ah,af,seval,iteOmega,toNatUp,El,Eu]) rfl (by simp only[cZ,ah,af,seval,iteOmega,toNatUp]) rfl ?_;simp only[bV,bu,bg,ah,af,seval,iteOmega,toNatUp,z7,dR];refine gq (0+1) (by omega) (by omega) (dQ (fun i=>if i=2 then 384 else i) ?_ ?_ rfl rfl) <;> simp only[gH,dG,dH,cZ,El,Eu,iB,hs2,wx,dK,dL,af,seval,iteOmega,toNatUp] <;> first | rfl | exact⟨rfl,rfl⟩ | skip
    ·have hs2:(ej l a6 (i+1)).map zD++[D.int .i64 xe]=(ej l a6 (i+1+1)).map zD:=by rw[es,List.map_append]; rfl
     have eln2:=l7 l a6 (i+1+1);simp only[jD,ku,gH,dG,dH,fU,ah,af,seval,iteOmega,toNatUp];refine bW (id:=1) (ws:=[.c (.ptr 1 1 0 0),.c (.d (.int .i64 3))]) c7 (by simp only[ah,af,seval,iteOmega,toNatUp,El,Eu]) rfl (by simp only[ah,af,seval,iteOmega,toNatUp]) rfl ?_;simp only[bV,bu,bg,ah,af,seval,iteOmega,toNatUp,z7,dR,hs2];refine gq (i+1+1) (by omega) (by omega) (dQ (fun i=>if i=2 then 384 else i) ?_ ?_ rfl rfl) <;> simp only[eln2,gH,dG,dH,cZ,El,Eu,iB,wx,dK,dL,af,seval,iteOmega,toNatUp] <;> first | rfl | exact⟨rfl,rfl⟩ | skip
   ·obtain rfl:i=k:=by omega
    rcases i with _ | i
    ·omega
    simp only[jD,ku,gH,dG,dH,ah,af,seval,iteOmega,toNatUp,e0,her];have hob:ce (.row 1 (er.map zD)) 0 (i+1)=some (er.map zD):=by
      have ht:List.take (i+1) (List.map zD er)=List.map zD er:=Fl (by rw[EK]; omega);simp[ce,eL,ht]
    refine uF (id:=56) (sz:=1) (cs:=[.d (.int .i64 st),.d (.int .i64 lo),.d (.int .i64 p),.d (.int .i64 li),.d (.int .i64 ai),.own 2 1 0 (i+1),.nil]) (cs':=[.d (.int .i64 st),.d (.int .i64 lo),.d (.int .i64 p),.d (.int .i64 li),.d (.int .i64 ai),.d (.sl (er.map zD)),.nil]) (by simp only[ah,af,seval,iteOmega,toNatUp] <;> rfl) (by simp only[ah,af,seval,iteOmega,toNatUp] <;> rfl) rfl (by simp only[cB,bK,hob,ah,af,seval,iteOmega,toNatUp] <;> rfl) (by simp only[killAll,ah,af,seval,iteOmega,toNatUp] <;> rfl) ?_;simp only[killAll,ah,af,seval,iteOmega,toNatUp];refine bW (id:=1) (ws:=[.c (.ptr 1 1 0 0),.c (.d (.int .i64 1))]) c8 (by simp only[ah,af,seval,iteOmega,toNatUp,El,Eu]) rfl (by simp only[ah,af,seval,iteOmega,toNatUp]) rfl ?_;simp only[bV,bu,bg,ah,af,seval,iteOmega,toNatUp];clear c7 c8 hA;refine gR (na l b1 b2 st lo p li ai er xr) (fun i=>1-i) (fun i=>i≤1) 0 (E6 _) ?_ ?_
    ·refine dQ (fun i=>i) ?_ ?_ rfl rfl <;> simp only[i9,dG,dH,El,Eu,iB,wx,dK,dL,af,seval,iteOmega,toNatUp] <;> first | rfl | exact⟨rfl,rfl⟩ | skip
    ·intro i2 hi2;have:i2=0∨i2=1:=by omega
     rcases this with rfl | rfl
     ·simp only[l8,na,i9,dG,dH,fU,ah,af,seval,iteOmega,toNatUp];refine bW (id:=1) (ws:=[.c (.ptr 1 1 0 0),.mix (kN st lo p li ai er),.c (.d (.bool false))]) c9 (by simp only[kN,ah,af,seval,iteOmega,toNatUp,El,Eu]) rfl (by simp only[ah,af,seval,iteOmega,toNatUp]) rfl ?_;simp only[bV,bu,bg,ah,af,seval,iteOmega,toNatUp,dR,hcx];refine gq 1 (by omega) (by omega) (dQ (fun i=>if i=2 then 520 else i) ?_ ?_ rfl rfl) <;> simp only[i9,dG,dH,El,Eu,iB,wx,dK,dL,af,seval,iteOmega,toNatUp] <;> first | rfl | exact⟨rfl,rfl⟩ | skip
     ·simp only[l8,na,i9,dG,dH,fU,ah,af,seval,iteOmega,toNatUp];refine uF (id:=56) (sz:=1) (cs:=[.d (.int .i64 st),.d (.int .i64 lo),.d (.int .i64 p),.d (.int .i64 li),.d (.int .i64 ai),.d (.sl (er.map zD)),.own 2 11 0 1]) (cs':=[.d (.int .i64 st),.d (.int .i64 lo),.d (.int .i64 p),.d (.int .i64 li),.d (.int .i64 ai),.d (.sl (er.map zD)),.d (.sl [xr])]) (by simp only[ah,af,seval,iteOmega,toNatUp] <;> rfl) (by simp only[ah,af,seval,iteOmega,toNatUp] <;> rfl) rfl (by simp only[cB,bK,ah,af,seval,iteOmega,toNatUp] <;> rfl) (by simp only[killAll,ah,af,seval,iteOmega,toNatUp] <;> rfl) ?_;simp only[killAll,bV,bu,bg,ah,af,seval,iteOmega,toNatUp];exact wZ (by simp only[ah,af,seval,iteOmega,toNatUp]) (by simp only[ah,af,seval,iteOmega,toNatUp]) (by simp only[ah,af,seval,iteOmega,toNatUp])
theorem Du {a b c d e:Int} (ha:-1152921504606846976≤a) (ha2:a≤d) (hd:d≤1152921504606846976) (hb:b≤1152921504606846976) (hb2:c<b) (hc:-1152921504606846976≤c) (he:0≤e) (he2:e≤1152921504606846976):cq a b c d e=12:=by
  unfold cq;have:dF a b c d e=true:=by
    unfold dF;rw[de ⟨ha,by omega⟩,de ⟨by omega,hb⟩,de ⟨hc,by omega⟩,de ⟨by omega,hd⟩,de ⟨by omega,he2⟩,decide_eq_true he]; rfl
  rw[if_pos this,if_pos (.inr hb2)]
def qf:aV:=⟨3,124,am [dk 6 false] (am [oM 17 0,oO 18 (.callM 5 [(.t 17)]),oM 7 18] (am [oM 19 7,oO 20 (.callM 6 [(.t 19),(kI 1),(.k (.c ij))]),oO 8 (.alloc [ao,ao,ao,ao,ao,.nil,.nil]),bO 7 8 20] (am [aA 21 6 8,aH 22 21,oO 23 (.idxSl 11 (.t 22) (kI 0)),da 24 11 23,oO 9 (.alloc [ao,ao,ao,ao,ao,ao,ao,ao,ao,ao,ao]),bO 11 9 24] (am [aA 25 5 8,aH 26 25,aA 27 0 9,aH 28 27,fN 29 1 26 28,aH 30 29,oM 10 30] (am [oM 31 1,oM 32 10,oO 33 (.bin .mul (kI 2) (.t 32)),aY .add 34 33 1,dW 35 7 31 34,oM 36 10,aJ .sub 37 35 36,oM 38 2,oM 39 10,oO 40 (.bin .mul (kI 2) (.t 39)),aY .add 41 40 1,dW 42 7 38 41,oM 43 10,aJ .sub 44 42 43,aA 45 9 9,dl 45 37,aA 46 10 9,dl 46 44] (am [aA 47 0 8,aH 48 47,aA 49 3 9,aH 50 49,aJ .add 51 48 50,oM 11 51] (am [oM 52 11,
 aA 53 5 9,aH 54 53,aJ .add 55 52 54,oM 12 55] (am [oM 56 12,aA 57 7 9,aH 58 57,aJ .add 59 56 58,oM 13 59] (am [aA 60 1 8,aH 61 60,oM 62 11,aA 63 9 9,aH 64 63,aJ .add 65 62 64,oM 66 12,aA 67 10 9,aH 68 67,aJ .add 69 66 68,aA 70 1 8,aH 71 70,aA 72 4 9,aH 73 72,aJ .add 74 71 73,aA 75 6 9,aH 76 75,aJ .add 77 74 76,aA 78 8 9,aH 79 78,aJ .add 80 77 79,oM 81 10,oO 82 (.build [ao,ao,ao,ao,ao] [(0,1,(.t 61)),(1,1,(.t 65)),(2,1,(.t 69)),(3,1,(.t 80)),(4,1,(.t 81))]),oO 14 (.alloc [ao,ao,ao,ao,ao]),bO 5 14 82] (am [da 84 5 14,aA 85 2 8,aH 86 85,dW 87 8 84 86,oM 83 87,cH 88 83 0,cH 89 83 1,oO 15 (.alloc [ao,ao]),bO 2 15 88,oM 16 89] (.seq (am [aA 90 2 14,aH 91 90,aA 92 1 14,aH 93 92,aJ .lss 94 91 93] (bH 94 (am [oO 95 (.call 9 [] none),oM 96 95,
 aZ 97 16 96 true,db .eql 98 97 12 96 true,bP 99 96 98,oM 6 99] .ret) .skip)) (am [oO 100 (.call 9 [] none),oM 101 100,aZ 102 16 101 true,db .eql 103 102 0 101 true,bP 104 101 103,oM 105 104,oG 106 (.load (.ag 2) (.t 15)) 105 true,aZ 107 13 105 true,oG 108 (.call 10 [(.t 106),(.t 107)] none) 105 true,bP 109 105 108,oM 110 109,aZ 111 13 110 true,cQ 112 0 8 110 true,cP 113 112 110 true,dU .sub 114 111 113 110 true,cQ 115 3 14 110 true,cP 116 115 110 true,cQ 117 0 14 110 true,cP 118 117 110 true,dU .sub 119 116 118 110 true,cQ 120 2 8 110 true,cP 121 120 110 true,oG 122 (.call 11 [(.t 114),(.t 119),(.t 121)] none) 110 true,bP 123 110 122,oM 6 123] .ret)))))))))))),[(6,none)]⟩
theorem AD:aR Try.prog { mt:=[18,20] } Try.f3=some qf:=by kernel_rfl
set_option maxHeartbeats 1600000 in
theorem Bv (G:av) (l:List Int) (hl1:l.length≤maxLen) (hl2:∀ n∈l,nr n) (ea:Int) (hea1:-9223372036854775808≤ea) (hea2:ea≤9223372036854775807) (eb:Int) (heb1:-9223372036854775808≤eb) (heb2:eb≤9223372036854775807) :bd Try.prog G 3 [.sl (l.map zD),.int .i64 ea,.int .i64 eb] (.w (.c (.d (.bool true)))):=by
  refine bI Try.func3 AD rfl rfl ?_;have hl:l.length≤9223372036854775807:=by unfold maxLen at hl1; omega
  have cn:=DK G l;obtain⟨st,lo,p,li,ai,er,k,tr,lc,ou,ol,ho,hb,ba,bl,v2,v3,bz,hbz,⟨s1,s2⟩,⟨l1,l2⟩,⟨p1,p2⟩,⟨n1,n2⟩,hE,hk,⟨o1,o2⟩,⟨h1,h2⟩,⟨b1,b2⟩,f1,f2,f3,cs⟩:=DO G l hl;have hz:er[k]?=some er[k]:=Ek hk;obtain⟨z0,z1⟩:=hE er[k] (EL hk);generalize er[k]=z at *
  have r1:=cK ea (2*z+1) (by omega);have r2:=cK eb (2*z+1) (by omega);have k1:=km G ea (2*z+1) (by omega) (by omega);have k2:=km G eb (2*z+1) (by omega) (by omega);generalize bL ea (2*z+1)=W2 at *
  generalize bL eb (2*z+1)=W3 at *
  obtain⟨⟨i1,i2,i3,i4,i5,i6⟩,i7⟩:=iP f1;obtain⟨⟨j1,j2,j3,j4,j5,j6⟩,j7⟩:=iP f2;obtain⟨⟨m1,m2,m3,m4,m5,m6⟩,m7⟩:=iP f3;have g1:=(jX i7).2;have g2:=(jX j7).2;have g3:=(jX m7).2;have a1:=mU ou p o1 p1 p2;have a2:=mU ho p h1 p1 p2;have a3:=mU ba p b1 p1 p2;have ff:=uo (uo i7 j7) m7;clear f1 f2 f3 i7 j7 m7 hE;generalize aT ou p=A1 at *
  generalize aT ho p=A2 at *
  generalize aT ba p=A3 at *
  obtain⟨D,hD⟩:∃ D,ol+hb+bl=D:=⟨_,rfl⟩
  obtain⟨T,hT⟩:∃ T,ou+ho+ba=T:=⟨_,rfl⟩
  rw[hD,hT] at ff;have hB:=se D p (by omega) p1 p2;have hC:=wS p2 p1 ff;have hM:=wT D p (by omega) p1 p2;have i1:cJ (lo+ol+hb+bl-lo) p=true:=mY ⟨by omega,by omega,by omega,by omega⟩;have eD:lo+ol+hb+bl-lo=D:=by omega
  have c1:=yc G lo (st+ou+(W2-z)) (st+ou+ho+(W3-z)) (lo+ol+hb+bl) z p;have ck:=AA G;have cf:=mQ G (st+ou+ho+ba-st) (lo+ol+hb+bl-lo) p;rw[eD,show st+ou+ho+ba-st=T by omega,mM ⟨by omega,by omega,by omega,by omega,p1,p2⟩ ff] at cf;unfold kT at c1;have hatE:(st+ou+ho+(W3-z)<st+ou+(W2-z)→eQ lo (st+ou+(W2-z)) (st+ou+ho+(W3-z)) (lo+ol+hb+bl) z p=12)∧(¬ st+ou+ho+(W3-z)<st+ou+(W2-z)→eQ lo (st+ou+(W2-z)) (st+ou+ho+(W3-z)) (lo+ol+hb+bl) z p=0):=by
    constructor
    ·intro hlt;have e12:cq lo (st+ou+(W2-z)) (st+ou+ho+(W3-z)) (lo+ol+hb+bl) z=12:=Du (by omega) (by omega) (by omega) (by omega) hlt (by omega) (by omega) (by omega);unfold eQ;rw[e12]; rfl
    ·intro hlt;have e0:cq lo (st+ou+(W2-z)) (st+ou+ho+(W3-z)) (lo+ol+hb+bl) z=0:=Cn (by omega) (by omega) (by omega) (by omega) (by omega) (by omega) (by omega) (by omega);rw[Dm e0 i1 (by omega) (by omega) (by rw[eD]; omega) (by rw[eD]; omega),eD,if_neg (by omega)]
  obtain⟨t1,t2⟩:=hatE;rw[eD] at c1;generalize eQ lo (st+ou+(W2-z)) (st+ou+ho+(W3-z)) (lo+ol+hb+bl) z p=E at *
  have c3:=C0 G (st+ou+ho+(W3-z)-z) (st+ou+(W2-z)+z+cI D p) (st+ou+ho+ba);generalize cI D p=B at *
  generalize fR D p=A at *
  unfold bN at *
  have eT:st+ou+ho+ba-st=T:=by omega
  unfold jh ig at cs;have t3:¬ st+ou+ho+(W3-z)<st+ou+(W2-z)→jf (st+ou+ho+(W3-z)-z) (st+ou+(W2-z)+z+B) (st+ou+ho+ba)=true:=fun hlt=>DL (Dy ⟨by omega,by omega,by omega⟩) (by omega) (by omega)
  clear i1 i2 i3 i4 i5 i6 j1 j2 j3 j4 j5 j6 m1 m2 m3 m4 m5 m6 hM;simp only[qf,aw,ah,af,seval,iteOmega,toNatUp];refine DI [.c (.d (.sl (l.map zD)))] [(1,1000)] cn ?_ rfl ?_ rfl rfl ?_
  ·simp only[ah,af,seval,iteOmega,toNatUp] <;> rfl
  ·trivial
  simp only[yW,ah,af,seval,iteOmega,toNatUp,El,Eu,iB];refine bW (id:=1000) (ws:=[.c (.ptr 1000 1 0 0),.c (.d (.int .i64 1)),.c (.d (.bool false))]) cs (by simp only[ah,af,seval,iteOmega,toNatUp,El,Eu]) rfl (by simp only[ah,af,seval,iteOmega,toNatUp]) rfl ?_;clear cn cs;simp only[bV,bu,ah,af,seval,iteOmega,toNatUp,mo,hz,zD];refine sD (k1) ?_;refine sD (k2) ?_;by_cases hlt:st+ou+ho+(W3-z)<st+ou+(W2-z)
  ·rw[t1 hlt] at c1;refine sC (c1) ?_;simp only[cF,eq_true hlt,ah,af,seval,iteOmega,toNatUp];refine sD (ck) ?_;exact aF
  ·rw[t2 hlt] at c1;rw[t3 hlt] at c3;refine sC (c1) ?_;simp only[cF,eq_false hlt,ah,af,seval,iteOmega,toNatUp];refine sD (ck) ?_;refine sC (c3) ?_;simp only[eD,eT,ah,af,seval,iteOmega,toNatUp];refine sD (cf) ?_;exact aF
end Go.Proofs.Ytjhaklohdflppaa
