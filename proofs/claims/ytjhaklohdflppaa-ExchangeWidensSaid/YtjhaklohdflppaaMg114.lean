/- Texts of one's own, merged: from: Layer 11 on data: the program: results made by function literals; Common. Own work. -/
import Derived.Shelf.Abstract
import Derived.Test.YtjhaklohdflppaaMg18
import Derived.Test.YtjhaklohdflppaaMg113
import Derived.Test.YtjhaklohdflppaaMg111
import Derived.Test.YtjhaklohdflppaaMg115
import Derived.Test.YtjhaklohdflppaaMg17
import Derived.Test.YtjhaklohdflppaaMg112
import Derived.Test.YtjhaklohdflppaaMg19
set_option linter.unusedVariables false
set_option linter.unusedSimpArgs false
namespace Go.Proofs.Ytjhaklohdflppaa
open Go.RowKit
open IntWalk
def lv (n m:Int):Bool:=decide (0≤n∧n≤m)
theorem kH {n m:Int} (h:0≤n∧n≤m):lv n m=true:=decide_eq_true h
theorem ix {n m:Int} (h:¬ (0≤n∧n≤m)):lv n m=false:=decide_eq_false h
def im:a6:=⟨2,12,al [dc 4 false] (al [oM 5 0,bW .geq 6 5 0,oM 7 6,cw 8 0 7 true,cw 9 1 7 true,fa .leq 10 8 9 7 true,b7 11 7 10,oM 4 11] .ret),[(4,none)]⟩
theorem Ag:aU Try.prog {} Try.f35=some im:=by kernel_rfl
theorem vl (G:am) (n m:Int):bc Try.prog G 35 [.int .i64 n,.int .i64 m] (.w (.c (.d (.bool (lv n m))))):=by
  refine bL Try.func35 Ag rfl rfl ?_;by_cases h:n≥0
  ·by_cases h2:n≤m
   ·rw[kH ⟨h,h2⟩];simp only[im,aA,ah,af,seval,iteOmega,toNatUp,eq_true h,eq_true h2];exact aF
   ·rw[ix (by omega)];simp only[im,aA,ah,af,seval,iteOmega,toNatUp,eq_true h,eq_false h2];exact aF
  ·rw[ix (by omega)];simp only[im,aA,ah,af,seval,iteOmega,toNatUp,eq_false h];exact aF
def hZ:a6:=⟨2,11,al [dc 4 false] (al [oM 5 0,oO 6 (.call 35 [(.t 5),(kI 576460752303423488)] none),oM 7 6,cw 8 1 7 true,oG 9 (.call 35 [(.t 8),(kI 1000000)] none) 7 true,b7 10 7 9,oM 4 10] .ret),[(4,none)]⟩
theorem zB:aU Try.prog {} Try.f28=some hZ:=by kernel_rfl
theorem Ah (G:am) (d p:Int):bc Try.prog G 28 [.int .i64 d,.int .i64 p] (.w (.c (.d (.bool (cY d p))))):=by
  refine bL Try.func28 zB rfl rfl ?_;have c1:=vl G d 576460752303423488;have c2:=vl G p 1000000;by_cases h1:0≤d∧d≤576460752303423488
  ·rw[kH h1] at c1;by_cases h2:0≤p∧p≤1000000
   ·rw[kH h2] at c2;rw[kG ⟨h1.1,h1.2,h2⟩];simp only[hZ,aA,ah,af,seval,iteOmega,toNatUp];refine sD (c1) ?_;refine sD (c2) ?_;exact aF
   ·rw[ix h2] at c2;rw[vk (fun h=>h2 h.2.2)];simp only[hZ,aA,ah,af,seval,iteOmega,toNatUp];refine sD (c1) ?_;refine sD (c2) ?_;exact aF
  ·rw[ix h1] at c1;rw[vk (fun h=>h1 ⟨h.1,h.2.1⟩)];simp only[hZ,aA,ah,af,seval,iteOmega,toNatUp];refine sD (c1) ?_;exact aF
theorem Ai {d r:Int} (h:999000000≤r) (h2:r≤1001000000):0≤(d-d / r*r)∧(d-d / r*r)≤1001000000∧0≤(d-d / r*r)*1000000000∧(d-d / r*r)*1000000000≤1001000000000000000:=by
  rw[yL];have e2:=Cq d (show r≠0 by omega);have e3:=Cg d (show 0<r by omega);generalize d%r=x at *
  omega
def rF:a6:=⟨3,33,al [aT 6 0] (al [oM 12 0,oM 13 1,oO 14 (.call 36 [(.t 12),(.t 13),(.k (.c gH))] none),oM 11 14,ci 15 11 0,ci 16 11 1,oM 7 15,oM 8 16] (al [oM 18 0,oM 19 7,oM 20 1,aW .mul 21 19 20,aW .sub 22 18 21,bW .mul 23 22 1000000000,oM 24 1,oM 25 2,li 26 36 23 24 25,oM 17 26,ci 27 17 0,ci 28 17 1,oM 9 27,oM 10 28] (al [oM 29 7,bW .mul 30 29 1000000000,oM 31 9,aW .add 32 30 31,oM 6 32] .ret))),[(6,none)]⟩
theorem zE:aU Try.prog {} Try.f29=some rF:=by kernel_rfl
theorem ud (G:am) (d r:Int) (up:Bool) (h1:0≤d) (h2:d≤576460752303423488) (r1:999000000≤r) (r2:r≤1001000000):bc Try.prog G 29 [.int .i64 d,.int .i64 r,.bool up] (.w (.c (.d (.int .i64 (if up=true then cP (d*1000000000) r else d*1000000000 / r))))):=by
  refine bL Try.func29 zE rfl rfl ?_;obtain⟨m1,m2,m3,m4⟩:=Ai (d:=d) r1 r2;have ck:=zA d 1000000000 (c:=r) (by omega) up;have q1:0≤d / r:=Int.ediv_nonneg h1 (by omega);have q2:d / r≤577037790:=by
    have:d / r≤d / 999000000:=by
      rw[Int.le_ediv_iff_mul_le (by decide)];have a:=BX r1 q1;have b:=Int.ediv_mul_le d (show r≠0 by omega);omega
    omega
  have c1:=vf G d r false (by omega) (by omega);have c2:=vf G ((d-d / r*r)*1000000000) r up (by omega) (by omega);unfold k7 kZ at c1 c2;rw[dl (by omega),if_neg (by simp; omega),if_neg (by simp; omega),nv] at c1;rw[dl (by omega),if_neg (by simp; omega),if_neg (by simp; omega)] at c2;have q3:=(yK ((d-d / r*r)*1000000000) (show 1≤r by omega) up).1 m3;rw[← ck];have qr:d / r*r≤d:=Int.ediv_mul_le d (by omega);have qr0:0≤d / r*r:=Int.mul_nonneg q1 (by omega);clear ck;generalize cp ((d-d / r*r)*1000000000) r up=R at *
  generalize hX:d / r*r=X at *
  generalize d / r=Q at *
  simp only[rF,aA,ah,af,seval,iteOmega,toNatUp];refine sC (c1) ?_;simp only[hX,ah,af,seval,iteOmega,toNatUp];refine sD (c2) ?_;exact aF
def kb:a6:=⟨2,20,al [oO 4 (.alloc [ar,ar]),aT 5 0] (.seq (al [oM 6 0,oM 7 1,fL 8 28 6 7,e9 9 8] (bY 9 (al [oO 10 (.build [ar,ar] []),bO 2 4 10,aT 5 4] .ret) .skip)) (al [oM 11 0,oM 12 1,oO 13 (.bin .add (kI 1000000000) (.t 12)),oO 14 (.call 29 [(.t 11),(.t 13),(.k (.c gH))] none),oM 15 0,oM 16 1,oO 17 (.bin .sub (kI 1000000000) (.t 16)),oO 18 (.call 29 [(.t 15),(.t 17),(.k (.c (.d (.bool true))))] none),oO 19 (.build [ar,ar] [(0,1,(.t 14)),(1,1,(.t 18))]),bO 2 4 19,aT 5 0] .ret)),[(4,(some (.ag 2))),(5,none)]⟩
theorem zF:aU Try.prog {} Try.f18=some kb:=by kernel_rfl
theorem Aj (G:am) (d p:Int):bc Try.prog G 18 [.int .i64 d,.int .i64 p] (.tup [.c (.d (bZ (cY d p) (eK d p) (bH d p))),.c (.d (.int .i64 (iN d p)))]):=by
  refine bL Try.func18 zF rfl rfl ?_;have c1:=Ah G d p;unfold bZ iN;cases hv:cY d p
  ·rw[hv] at c1;simp only[kb,aA,ah,af,seval,iteOmega,toNatUp];refine sD (c1) ?_;exact cF
  ·rw[hv] at c1;obtain⟨h1,h2,h3,h4⟩:=vj hv;have c2:=ud G d (1000000000+p) false h1 h2 (by omega) (by omega);have c3:=ud G d (1000000000-p) true h1 h2 (by omega) (by omega);rw[if_pos rfl] at c3;rw[if_neg (by decide)] at c2;rw[if_pos rfl,if_pos rfl,if_pos rfl];unfold eK bH;generalize d*1000000000 / (1000000000+p)=A at *
   generalize cP (d*1000000000) (1000000000-p)=B at *
   simp only[kb,aA,ah,af,seval,iteOmega,toNatUp];refine sD (c1) ?_;refine sD (c2) ?_;refine sD (c3) ?_;exact cF
set_option maxHeartbeats 1600000
def a9 (a b c d e:Int):D:=.agg [.int .i64 a,.int .i64 b,.int .i64 c,.int .i64 d,.int .i64 e]
def db (a b c d e:Int):Bool:=aE a&&aE b&&aE c&&aE d&&aE e&&decide (0≤e)
def bV (a b c d e:Int):Int:=if db a b c d e=true then (if d<a∨c<b then 12 else 0) else 4
def eI (a b c d e:Int):Int:=if bV a b c d e=0 then (if d-a-(c-b)<0 then 20 else 0) else bV a b c d e
def gE (a b c d e:Int):Int:=if eI a b c d e=0 then (if cQ (c-d,b-a)=true then 0 else 4) else eI a b c d e
def k9 (a b c d e:Int):Bool:=decide (gE a b c d e=0)
def fb (a b c d e p:Int):Int:=if bV a b c d e=0 then (if cY (d-a) p=true then (if (aE (c-e)&&aE (b+e+bH (d-a) p))=true then (if b+e+bH (d-a) p<c-e then 20 else 0) else 4) else 4) else bV a b c d e
def iX (a b c d e p:Int):Bool:=decide (fb a b c d e p=0)
theorem cR {t:Int} (h:aE t=true):-1152921504606846976≤t∧t≤1152921504606846976:=of_decide_eq_true h
theorem kv {a b c d e:Int} (h:db a b c d e=true):aE a=true∧aE b=true∧aE c=true∧aE d=true∧aE e=true∧0≤e:=by
  simp only[db,Bw,decide_eq_true_eq] at h;obtain⟨⟨⟨⟨⟨h1,h2⟩,h3⟩,h4⟩,h5⟩,h6⟩:=h;exact⟨h1,h2,h3,h4,h5,h6⟩
theorem kw {a b c d e:Int} (h:bV a b c d e=0):db a b c d e=true∧a≤d∧b≤c:=by
  unfold bV at h;split at h
  ·rename_i hr;split at h
   ·cases h
   ·exact⟨hr,by omega,by omega⟩
  ·cases h
def gx (a b c d e:Int) (i:Nat):St:=⟨eu [(1,.w (.c (.rp [.int .i64 a,.int .i64 b,.int .i64 c,.int .i64 d,.int .i64 e]))),(15,.w (.c (.d (a9 a b c d e)))),(16,.w (.c (.d (.int .i64 (i:Int)))))],hL [],uL []⟩
def fJ (a b c d e:Int) (i:Nat):Int:=[a,b,c,d,e].getD i 0
def fZ:aK := al [bW .lss 17 16 5] (.seq (bY 17 .skip (.exit 0)) (.seq (.block 1 (al [oO 18 (.idxArr 1 5 .sc (.t 15) (.t 16)),oM 4 18] (al [oM 19 4,cN 20 19 19,e9 21 20] (bY 21 (al [dc 2 false] .ret) .skip)))) (.reg [bW .add 22 16 1,oM 16 22])))
def ue:a6:=⟨1,26,al [du 1 0,dc 2 false] (.seq (al [aN 5 0 1,aR 6 5,aN 7 1 1,aR 8 7,aN 9 2 1,aR 10 9,aN 11 3 1,aR 12 11,aN 13 4 1,aR 14 13,oO 15 (.build [ar,ar,ar,ar,ar] [(0,1,(.t 6)),(1,1,(.t 8)),(2,1,(.t 10)),(3,1,(.t 12)),(4,1,(.t 14))]),aT 16 0] (.block 0 (.loop fZ))) (al [aN 23 4 1,aR 24 23,bW .geq 25 24 0,oM 2 25] .ret)),[(2,none)]⟩
theorem Ak:aU Try.prog {} Try.f27=some ue:=by kernel_rfl
theorem AD (G:am) (a b c d e:Int):bc Try.prog G 27 [a9 a b c d e] (.w (.c (.d (.bool (db a b c d e))))):=by
  refine bL Try.func27 Ak rfl rfl ?_;unfold a9;simp only[ue,aA,ah,af,seval,iteOmega,toNatUp];refine zq (gx a b c d e) (fun i=>5-i) (fun i=>i≤5∧∀ j,j<i→aE (fJ a b c d e j)=true) 0 ⟨by omega,fun j hj=>by omega⟩ ?_ ?_
  ·refine uW (fun i=>i) ?_ ?_ rfl rfl <;> simp only[a9,wx,ls,lu,af,seval,iteOmega,toNatUp] <;> first | rfl | exact⟨rfl,rfl⟩ | skip
  ·rintro i ⟨hi,hok⟩;have no:i<5→aE (fJ a b c d e i)=false→db a b c d e=false:=by
     intro hlt hv;unfold db;have:i=0∨i=1∨i=2∨i=3∨i=4:=by omega
     rcases this with rfl | rfl | rfl | rfl | rfl
     ·rw[show aE a=false from hv]; rfl
     ·rw[show aE b=false from hv]; simp
     ·rw[show aE c=false from hv]; simp
     ·rw[show aE d=false from hv]; simp
     ·rw[show aE e=false from hv]; simp
   have cv:=c7 G (fJ a b c d e i);obtain⟨k,hk⟩:∃ k,k=i+1:=⟨_,rfl⟩
   have:i=0∨i=1∨i=2∨i=3∨i=4∨i=5:=by omega
   rcases this with rfl | rfl | rfl | rfl | rfl | rfl
   case inr.inr.inr.inr.inr =>
     have hr:db a b c d e=decide (e≥0):=by
       unfold db;rw[show aE a=true from hok 0 (by omega),show aE b=true from hok 1 (by omega),show aE c=true from hok 2 (by omega),show aE d=true from hok 3 (by omega),show aE e=true from hok 4 (by omega)];rfl
     rw[hr];by_cases h0:e≥0
     ·rw[decide_eq_true h0];simp only[fZ,gx,a9,ah,af,seval,iteOmega,toNatUp,eq_true h0];exact aF
     ·rw[decide_eq_false h0];simp only[fZ,gx,a9,ah,af,seval,iteOmega,toNatUp,eq_false h0];exact aF
   all_goals
     cases hv:aE (fJ a b c d e _)
     ·rw[no (by omega) hv];rw[hv] at cv;simp only[fJ,List.getD_cons_zero,List.getD_cons_succ] at cv;simp only[fZ,gx,a9,ah,af,seval,iteOmega,toNatUp];refine sD (cv) ?_;exact aF
     ·rw[hv] at cv;simp only[fJ,List.getD_cons_zero,List.getD_cons_succ] at cv;simp only[fZ,gx,a9,ah,af,seval,iteOmega,toNatUp];refine sD (cv) ?_;refine yA k (by omega) ⟨by omega,fun j hj=>?_⟩ (uW (fun i=>i) ?_ ?_ rfl rfl)
      ·rw[hk] at hj;rcases Nat.lt_succ_iff_lt_or_eq.1 hj with h | h
       ·exact hok j h
       ·rw[h]; exact hv
      all_goals simp only[hk,a9,wx,ls,lu,af,seval,iteOmega,toNatUp] <;> first | rfl | exact⟨rfl,rfl⟩ | skip
def gq:a6:=⟨1,20,al [du 1 0,aT 2 0] (.seq (.block 0 (al [cK 4 5 1,cN 5 27 4,e9 6 5,oM 3 6] (bY 3 (al [aT 2 4] .ret) (al [aN 8 3 1,aR 9 8,aN 10 0 1,aR 11 10,aW .lss 12 9 11,oM 13 12,cM 14 2 1 13 false,cL 15 14 13 false,cM 16 1 1 13 false,cL 17 16 13 false,fa .lss 18 15 17 13 false,iR 19 13 18,oM 7 19] (bY 7 (al [aT 2 12] .ret) .skip))))) (al [aT 2 0] .ret)),[(2,none)]⟩
theorem Al:aU Try.prog {} Try.f17=some gq:=by kernel_rfl
theorem vm (G:am) (a b c d e:Int):bc Try.prog G 17 [a9 a b c d e] (.w (.c (.d (.int .i64 (bV a b c d e))))):=by
  refine bL Try.func17 Al rfl rfl ?_;have c1:=AD G a b c d e;unfold bV;unfold a9 at *
  cases hr:db a b c d e
  ·rw[hr] at c1;simp only[gq,aA,ah,af,seval,iteOmega,toNatUp];refine sD (c1) ?_;exact aF
  ·rw[hr] at c1;rw[if_pos rfl];by_cases h1:d<a
   ·rw[if_pos (.inl h1)];simp only[gq,aA,ah,af,seval,iteOmega,toNatUp,eq_true h1];refine sC (c1) ?_;simp only[eq_true h1,ah,af,seval,iteOmega,toNatUp];exact aF
   ·by_cases h2:c<b
    ·rw[if_pos (.inr h2)];simp only[gq,aA,ah,af,seval,iteOmega,toNatUp];refine sC (c1) ?_;simp only[eq_false h1,eq_true h2,ah,af,seval,iteOmega,toNatUp];exact aF
    ·rw[if_neg (by omega)];simp only[gq,aA,ah,af,seval,iteOmega,toNatUp];refine sC (c1) ?_;simp only[eq_false h1,eq_false h2,ah,af,seval,iteOmega,toNatUp];exact aF
def ug:a6:=⟨1,14,al [du 1 0,aT 2 0] (al [aN 3 3 1,aR 4 3,aN 5 0 1,aR 6 5,aW .sub 7 4 6,aN 8 2 1,aR 9 8,aN 10 1 1,aR 11 10,aW .sub 12 9 11,aW .sub 13 7 12,oM 2 13] .ret),[(2,none)]⟩
theorem Am:aU Try.prog {} Try.f37=some ug:=by kernel_rfl
theorem AE (G:am) (a b c d e:Int) (h:bV a b c d e=0):bc Try.prog G 37 [a9 a b c d e] (.w (.c (.d (.int .i64 (d-a-(c-b)))))):=by
  refine bL Try.func37 Am rfl rfl ?_;obtain⟨h1,h2,h3⟩:=kw h;obtain⟨a1,b1,c1,d1,e1,e2⟩:=kv h1
  replace a1:=cR a1
  replace b1:=cR b1
  replace c1:=cR c1
  replace d1:=cR d1
  unfold a9;simp only[ug,aA,ah,af,seval,iteOmega,toNatUp];exact aF
def io:a6:=⟨1,12,al [du 1 0,aT 2 0] (.seq (al [cK 4 5 1,cN 5 17 4,oM 3 5] (al [oM 6 3,bW .neq 7 6 0] (bY 7 (al [oM 8 3,oM 2 8] .ret) .skip))) (.seq (al [cK 9 5 1,cN 10 37 9,bW .lss 11 10 0] (bY 11 (al [aT 2 20] .ret) .skip)) (al [aT 2 0] .ret))),[(2,none)]⟩
theorem An:aU Try.prog {} Try.f30=some io:=by kernel_rfl
theorem AF (G:am) (a b c d e:Int):bc Try.prog G 30 [a9 a b c d e] (.w (.c (.d (.int .i64 (eI a b c d e))))):=by
  refine bL Try.func30 An rfl rfl ?_;have c1:=vm G a b c d e;unfold eI;by_cases h:bV a b c d e=0
  ·have c2:=AE G a b c d e h;rw[h] at c1;rw[if_pos h];generalize d-a-(c-b)=z at *
   unfold a9 at *
   by_cases h1:z<0
   ·rw[if_pos h1];simp only[io,aA,ah,af,seval,iteOmega,toNatUp];refine sD (c1) ?_;refine sC (c2) ?_;simp only[eq_true h1,ah,af,seval,iteOmega,toNatUp];exact aF
   ·rw[if_neg h1];simp only[io,aA,ah,af,seval,iteOmega,toNatUp];refine sD (c1) ?_;refine sC (c2) ?_;simp only[eq_false h1,ah,af,seval,iteOmega,toNatUp];exact aF
  ·rw[if_neg h];generalize bV a b c d e=z at *
   unfold a9 at *
   simp only[io,aA,ah,af,seval,iteOmega,toNatUp];refine sC (c1) ?_;simp only[h,ah,af,seval,iteOmega,toNatUp];exact aF
def ip:a6:=⟨1,28,al [du 1 0,oO 2 (.alloc [ar,ar]),aT 3 0] (.seq (al [cK 6 5 1,cN 7 30 6,oM 4 7] (al [oM 8 4,bW .neq 9 8 0] (bY 9 (al [oO 10 (.build [ar,ar] []),oM 11 4,bO 2 2 10,oM 3 11] .ret) .skip))) (al [aN 12 2 1,aR 13 12,aN 14 3 1,aR 15 14,aW .sub 16 13 15,aN 17 1 1,aR 18 17,aN 19 0 1,aR 20 19,aW .sub 21 18 20,oO 22 (.build [ar,ar] [(0,1,(.t 16)),(1,1,(.t 21))]),oO 5 (.alloc [ar,ar]),bO 2 5 22] (.seq (al [cK 23 2 5,cN 24 31 23,e9 25 24] (bY 25 (al [oO 26 (.build [ar,ar] []),bO 2 2 26,aT 3 4] .ret) .skip)) (al [cK 27 2 5,bO 2 2 27,aT 3 0] .ret)))),[(2,(some (.ag 2))),(3,none)]⟩
theorem Ao:aU Try.prog {} Try.f20=some ip:=by kernel_rfl
theorem AG (G:am) (a b c d e:Int):bc Try.prog G 20 [a9 a b c d e] (.tup [.c (.d (bZ (k9 a b c d e) (c-d) (b-a))),.c (.d (.int .i64 (gE a b c d e)))]):=by
  refine bL Try.func20 Ao rfl rfl ?_;have c1:=AF G a b c d e;unfold k9;by_cases h:eI a b c d e=0
  ·have k:bV a b c d e=0:=by
     unfold eI at h;split at h
     ·assumption
     ·exact h
   obtain⟨h1,h2,h3⟩:=kw k;obtain⟨a1,b1,d1,e1,f1,f2⟩:=kv h1
   replace a1:=cR a1
   replace b1:=cR b1
   replace d1:=cR d1
   replace e1:=cR e1
   have c2:=AC G (c-d) (b-a);have eo:gE a b c d e=if cQ (c-d,b-a)=true then 0 else 4:=if_pos h
   rw[h] at c1;rw[eo];unfold a9 at *
   cases ho:cQ (c-d,b-a)
   ·rw[ho] at c2;rw[if_neg (by simp)];simp only[ip,aA,ah,af,seval,iteOmega,toNatUp];refine sD (c1) ?_;refine sC (c2) ?_;simp only[bZ,ah,af,seval,iteOmega,toNatUp];exact cF
   ·rw[ho] at c2;rw[if_pos rfl];simp only[ip,aA,ah,af,seval,iteOmega,toNatUp];refine sD (c1) ?_;refine sC (c2) ?_;simp only[bZ,ah,af,seval,iteOmega,toNatUp];exact cF
  ·have eo:gE a b c d e=eI a b c d e:=if_neg h;rw[eo,decide_eq_false h];generalize eI a b c d e=z at *
   unfold a9 at *
   simp only[ip,aA,ah,af,seval,iteOmega,toNatUp];refine sC (c1) ?_;simp only[h,bZ,ah,af,seval,iteOmega,toNatUp];exact cF
def eW:a6:=⟨2,64,al [du 2 0,oO 4 (.alloc [ar,ar]),aT 5 0] (.seq (al [cK 10 5 2,cN 11 17 10,oM 6 11] (al [oM 12 6,bW .neq 13 12 0] (bY 13 (al [oO 14 (.build [ar,ar] []),oM 15 6,bO 2 4 14,oM 5 15] .ret) .skip))) (al [aN 17 3 2,aR 18 17,aN 19 0 2,aR 20 19,aW .sub 21 18 20,oM 22 1,fL 23 18 21 22,oM 16 23,ci 24 16 0,ci 25 16 1,oO 7 (.alloc [ar,ar]),bO 2 7 24,oM 8 25] (.seq (al [oM 26 8,bW .neq 27 26 0] (bY 27 (al [oO 28 (.build [ar,ar] []),oM 29 8,bO 2 4 28,oM 5 29] .ret) .skip)) (al [aN 30 2 2,aR 31 30,aN 32 4 2,aR 33 32,aW .sub 34 31 33,aN 35 1 2,aR 36 35,aN 37 4 2,aR 38 37,aW .add 39 36 38,aN 40 1 7,aR 41 40,aW .add 42 39 41,oO 43 (.build [ar,ar] [(0,1,(.t 34)),(1,1,(.t 42))]),oO 9 (.alloc [ar,ar]),bO 2 9 43] (.seq (.block 0 (al [aN 45 0 9,
 aR 46 45,cN 47 19 46,e9 48 47,oM 49 48,cM 50 1 9 49 false,cL 51 50 49 false,oG 52 (.call 19 [(.t 51)] none) 49 false,lh 53 52 49 false,iR 54 49 53,oM 44 54] (bY 44 (al [oO 55 (.build [ar,ar] []),bO 2 4 55,aT 5 4] .ret) (al [aN 57 0 9,aR 58 57,aN 59 1 9,aR 60 59,aW .gtr 61 58 60,oM 56 61] (bY 56 (al [oO 62 (.build [ar,ar] []),bO 2 4 62,aT 5 20] .ret) .skip))))) (al [cK 63 2 9,bO 2 4 63,aT 5 0] .ret)))))),[(4,(some (.ag 2))),(5,none)]⟩
theorem Ap:aU Try.prog {} Try.f8=some eW:=by kernel_rfl
theorem kJ (G:am) (a b c d e p:Int):bc Try.prog G 8 [a9 a b c d e,.int .i64 p] (.tup [.c (.d (bZ (iX a b c d e p) (c-e) (b+e+bH (d-a) p))),.c (.d (.int .i64 (fb a b c d e p)))]):=by
  refine bL Try.func8 Ap rfl rfl ?_;have c1:=vm G a b c d e;unfold iX;by_cases h:bV a b c d e=0
  ·obtain⟨h1,h2,h3⟩:=kw h;obtain⟨a1,b1,d1,e1,f1,f2⟩:=kv h1
   replace a1:=cR a1
   replace b1:=cR b1
   replace d1:=cR d1
   replace e1:=cR e1
   replace f1:=cR f1
   have c2:=Aj G (d-a) p;rw[h] at c1;have eo:fb a b c d e p=if cY (d-a) p=true then (if (aE (c-e)&&aE (b+e+bH (d-a) p))=true then (if b+e+bH (d-a) p<c-e then 20 else 0) else 4) else 4:=if_pos h
   cases hi:cY (d-a) p
   ·rw[eo,hi,if_neg (by simp)];have eE:iN (d-a) p=4:=if_neg (by rw[hi]; simp);rw[hi,eE] at c2;unfold a9 at *
    simp only[eW,aA,ah,af,seval,iteOmega,toNatUp];refine sD (c1) ?_;refine sC (c2) ?_;simp only[bZ,ah,af,seval,iteOmega,toNatUp];exact cF
   ·rw[hi,if_pos rfl] at eo;obtain⟨i1,i2,i3,i4⟩:=vj hi;have eE:iN (d-a) p=0:=if_pos hi;rw[hi,eE] at c2;have bl:=ub (d-a) p i1 i3 i4;have bo:=jO (d-a) p i1 i3 i4;generalize bH (d-a) p=B at *
    generalize eK (d-a) p=A at *
    have c3:=c7 G (c-e);have c4:=c7 G (b+e+B);rw[eo];clear eo;cases g1:aE (c-e)
    ·rw[g1] at c3;unfold a9 at *
     simp only[eW,aA,ah,af,seval,iteOmega,toNatUp];refine sD (c1) ?_;refine sC (c2) ?_;simp only[bZ,ah,af,seval,iteOmega,toNatUp];refine sD (c3) ?_;exact cF
    ·cases g2:aE (b+e+B)
     ·rw[g1] at c3;rw[g2] at c4;unfold a9 at *
      simp only[eW,aA,ah,af,seval,iteOmega,toNatUp];refine sD (c1) ?_;refine sC (c2) ?_;simp only[bZ,ah,af,seval,iteOmega,toNatUp];refine sD (c3) ?_;refine sD (c4) ?_;exact cF
     ·rw[g1] at c3;rw[g2] at c4;by_cases g3:b+e+B<c-e
      ·have g4:(c-e>b+e+B)=True:=eq_true g3;rw[Bool.and_self,if_pos rfl,if_pos g3];unfold a9 at *
       simp only[eW,aA,ah,af,seval,iteOmega,toNatUp];refine sD (c1) ?_;refine sC (c2) ?_;simp only[bZ,ah,af,seval,iteOmega,toNatUp];refine sD (c3) ?_;refine sC (c4) ?_;simp only[g4,ah,af,seval,iteOmega,toNatUp];exact cF
      ·have g4:(c-e>b+e+B)=False:=eq_false g3;rw[Bool.and_self,if_pos rfl,if_neg g3];unfold a9 at *
       simp only[eW,aA,ah,af,seval,iteOmega,toNatUp];refine sD (c1) ?_;refine sC (c2) ?_;simp only[bZ,ah,af,seval,iteOmega,toNatUp];refine sD (c3) ?_;refine sC (c4) ?_;simp only[g4,ah,af,seval,iteOmega,toNatUp];exact cF
  ·have eo:fb a b c d e p=bV a b c d e:=if_neg h;rw[eo,decide_eq_false h];generalize bV a b c d e=z at *
   unfold a9 at *
   simp only[eW,aA,ah,af,seval,iteOmega,toNatUp];refine sC (c1) ?_;simp only[h,bZ,ah,af,seval,iteOmega,toNatUp];exact cF

def cj (l:List Int) (a:Nat):Int:=if l.length≤a then 0 else l.getD a 0
def fe (l:List Int) (a:Nat):Nat:=if l.length≤a then a else a+1
theorem Ar {l:List Int} {a:Nat} (h:a≤l.length):fe l a≤l.length:=by
  unfold fe;split <;> omega
def eB (l:List Int) (a:Nat):List D:=[.sl (l.map zD),.int .i64 (a:Int)]
def kA:a6:=⟨2,15,al [aT 4 0] (al [oM 6 0,oM 7 1,aW .rem 8 6 7,oM 5 8] (.seq (al [oM 9 5,bW .lss 10 9 0] (bY 10 (.reg [oM 11 5,oM 12 1,aW .add 13 11 12,oM 5 13]) .skip)) (al [oM 14 5,oM 4 14] .ret))),[(4,none)]⟩
theorem As:aU Try.prog {} Try.f7=some kA:=by kernel_rfl
theorem gz (G:am) (v m:Int) (hm:0<m) (h2:m≤9223372036854775807):bc Try.prog G 7 [.int .i64 v,.int .i64 m] (.w (.c (.d (.int .i64 (b8 v m))))):=by
  refine bL Try.func7 As rfl rfl ?_;unfold b8;rw[if_neg (by omega)];have hne:¬ m=0:=by omega
  have h4:=Int.tmod_lt_of_pos v hm;by_cases hn:v.tmod m<0
  ·have e:=yM hm hn;have h3:=Cg v hm;have h5:=Cq v (show m≠0 by omega);simp only[kA,aA,ah,af,seval,iteOmega,toNatUp,hne];exact ku (by simp only[ah,af,seval,iteOmega,toNatUp,e])
  ·have e:=yN (v:=v) hm (by omega);simp only[kA,aA,ah,af,seval,iteOmega,toNatUp,hne];exact ku (by simp only[ah,af,seval,iteOmega,toNatUp,e])
def uv:a6:=⟨1,6,al [oO 2 (.mv .u)] (al [oM 3 0,oO 4 (.build [.nil,ar] [(0,1,(.t 3))]),oO 5 (.box .ownBox (.t 4)),oM 2 5] .ret),[(2,none)]⟩
theorem Au:aU Try.prog { own:=[5] } Try.f5=some uv:=by kernel_rfl
theorem AK (G:am) (l:List Int):iO Try.prog G 5 [.c (.d (.sl (l.map zD)))] [] (.w (.c (.ptr 1 1 0 0))) [(1,.box ((eB l 0).map C.d))]:=by
  refine xX Try.func5 Au [] rfl rfl rfl rfl rfl rfl rfl ?_;simp only[uv,cJ,yR,yQ,ah,af,seval,iteOmega,toNatUp];refine AJ [(1,40)] [] (ws:=[.c (.ptr 40 1 0 0)]) ?_ rfl ?_ rfl trivial ⟨by simp,fun id h _=>by cases h⟩
  ·simp only[ao,ah,af,seval,iteOmega,toNatUp]
  ·simp only[dQ,eB,Bj,BR,wx,ls,lu,af,seval,iteOmega,toNatUp,wb] <;> rfl
def kB:a6:=⟨1,31,al [aT 2 0] (.seq (al [oM 3 0,oO 4 (.nilChk (.t 3)),aN 5 1 4,aR 6 5,oM 7 0,oO 8 (.nilChk (.t 7)),aN 9 0 8,aR 10 9,vW 11 10,aW .geq 12 6 11] (bY 12 (al [aT 2 0] .ret) .skip)) (al [oM 13 0,oO 14 (.nilChk (.t 13)),aN 15 1 14,aR 16 15,bW .add 17 16 1,oO 18 (.nilChk (.t 13)),aN 19 1 18,iQ 19 17] (al [oM 20 0,oO 21 (.nilChk (.t 20)),aN 22 0 21,aR 23 22,oM 24 0,oO 25 (.nilChk (.t 24)),aN 26 1 25,aR 27 26,bW .sub 28 27 1,vX 29 1 23 28,aR 30 29,oM 2 30] .ret))),[(2,none)]⟩
theorem Av:aU Try.prog {} Try.f23=some kB:=by kernel_rfl
theorem AL (G:am) (l:List Int) (a:Nat) (hl:l.length≤9223372036854775807) (ha:a≤l.length):eb Try.prog G 23 [.c (.ptr 1 1 0 0)] (bh (eB l a)) [1] (.w (.c (.d (.int .i64 (cj l a))))) (bh (eB l (fe l a))) [1]:=by
  refine jq Try.func23 Av 0 rfl rfl rfl rfl rfl rfl ?_;unfold cj fe eB;by_cases h:l.length≤a
  ·have g1:((a:Int)≥(l.length:Int))=True:=eq_true (by omega);rw[if_pos h,if_pos h];simp only[kB,cJ,bh,dz,eQ,ah,af,seval,iteOmega,toNatUp,g1];exact iz (by simp only[ah,af,seval,iteOmega,toNatUp]) (by simp only[ah,af,seval,iteOmega,toNatUp]) (by simp only[ah,af,seval,iteOmega,toNatUp])
  ·have g1:((a:Int)≥(l.length:Int))=False:=eq_false (by omega);rw[if_neg h,if_neg h];have g2:l[a]?=some (l.getD a 0):=by rw[Ce,Bh (by omega)]; rfl
   have e1:((a:Int)+1-1)=(a:Int):=by omega
   generalize l.getD a 0=x at *
   simp only[kB,cJ,bh,dz,eQ,ah,af,seval,iteOmega,toNatUp,g1,e1,zr,g2,zD];exact iz (by simp only[ah,af,seval,iteOmega,toNatUp]) (by simp only[ah,af,seval,iteOmega,toNatUp]) (by simp only[ah,af,seval,iteOmega,toNatUp])
def uw:a6:=⟨2,9,al [aT 4 0] (al [oM 5 0,oO 6 (.callM 23 [(.t 5)]),oM 7 1,fL 8 7 6 7,oM 4 8] .ret),[(4,none)]⟩
theorem Aw:aU Try.prog { mt:=[6] } Try.f15=some uw:=by kernel_rfl
theorem iA (G:am) (l:List Int) (a:Nat) (m:Int) (hl:l.length≤9223372036854775807) (ha:a≤l.length) (h1:0<m) (h2:m≤9223372036854775807):eb Try.prog G 15 [.c (.ptr 1 1 0 0),.c (.d (.int .i64 m))] (bh (eB l a)) [1] (.w (.c (.d (.int .i64 (b8 (cj l a) m))))) (bh (eB l (fe l a))) [1]:=by
  refine jq Try.func15 Aw 0 rfl rfl rfl rfl rfl rfl ?_;have c1:=AL G l a hl ha;have c2:=gz G (cj l a) m h1 h2;simp only[uw,cJ,bh,dz,eQ,ah,af,seval,iteOmega,toNatUp];refine eT (id:=1) (ws:=[.c (.ptr 1 1 0 0)]) c1 (by simp only[ah,af,seval,iteOmega,toNatUp,Bj,BR]) rfl (by simp only[ah,af,seval,iteOmega,toNatUp]) rfl ?_;simp only[fc,dz,eQ,ah,af,seval,iteOmega,toNatUp];refine sC (c2) ?_;simp only[eQ,ah,af,seval,iteOmega,toNatUp];exact iz (by simp only[ah,af,seval,iteOmega,toNatUp]) (by simp only[ah,af,seval,iteOmega,toNatUp]) (by simp only[ah,af,seval,iteOmega,toNatUp])
def ux:a6:=⟨3,15,al [aT 6 0] (al [oM 7 1,oM 8 0,oM 9 2,oM 10 1,aW .sub 11 9 10,bW .add 12 11 1,oO 13 (.callM 15 [(.t 8),(.t 12)]),aW .add 14 7 13,oM 6 14] .ret),[(6,none)]⟩
theorem Ax:aU Try.prog { mt:=[13] } Try.f14=some ux:=by kernel_rfl
theorem vA (G:am) (l:List Int) (a:Nat) (lo hi:Int) (hl:l.length≤9223372036854775807) (ha:a≤l.length) (h1:-1000000000000≤lo) (h2:lo≤hi) (h3:hi≤1000000000000):eb Try.prog G 14 [.c (.ptr 1 1 0 0),.c (.d (.int .i64 lo)),.c (.d (.int .i64 hi))] (bh (eB l a)) [1] (.w (.c (.d (.int .i64 (lo+b8 (cj l a) (hi-lo+1)))))) (bh (eB l (fe l a))) [1]:=by
  refine jq Try.func14 Ax 0 rfl rfl rfl rfl rfl rfl ?_;have c1:=iA G l a (hi-lo+1) hl ha (by omega) (by omega);have hr:=dA (cj l a) (hi-lo+1) (by omega);simp only[ux,cJ,bh,dz,eQ,ah,af,seval,iteOmega,toNatUp];refine eT (id:=1) (ws:=[.c (.ptr 1 1 0 0),.c (.d (.int .i64 (hi-lo+1)))]) c1 (by simp only[ah,af,seval,iteOmega,toNatUp,Bj,BR]) rfl (by simp only[ah,af,seval,iteOmega,toNatUp]) rfl ?_;generalize b8 (cj l a) (hi-lo+1)=x at *
  simp only[fc,dz,eQ,ah,af,seval,iteOmega,toNatUp];exact iz (by simp only[ah,af,seval,iteOmega,toNatUp]) (by simp only[ah,af,seval,iteOmega,toNatUp]) (by simp only[ah,af,seval,iteOmega,toNatUp])
def ml:a6:=⟨0,33,al [dc 0 false] (al [oO 6 (.build [ar,ar,ar,ar,ar] [(0,1,(kI 100)),(1,1,(kI 160)),(2,1,(kI 170)),(3,1,(kI 130))]),oO 1 (.alloc [ar,ar,ar,ar,ar]),bO 5 1 6] (al [cK 8 5 1,cN 9 20 8,oM 7 9,ci 10 7 0,ci 11 7 1,oO 2 (.alloc [ar,ar]),bO 2 2 10,oM 3 11] (al [cK 13 5 1,oO 14 (.call 8 [(.t 13),(kI 0)] none),oM 12 14,ci 15 12 0,ci 16 12 1,oO 4 (.alloc [ar,ar]),bO 2 4 15,oM 5 16] (al [oM 17 3,bW .eql 18 17 0,oM 19 18,cw 20 5 19 true,en .eql 21 20 0 19 true,b7 22 19 21,oM 23 22,oG 24 (.load (.ag 2) (.t 2)) 23 true,oG 25 (.build [ar,ar] [(0,1,(kI 40)),(1,1,(kI 60))]) 23 true,oG 26 (.eqA false [0,0] (.t 24) (.t 25)) 23 true,b7 27 23 26,oM 28 27,oG 29 (.load (.ag 2) (.t 4)) 28 true,oG 30 (.build [ar,ar] [(0,1,(kI 170)),(1,1,(kI 190))]) 28 true,
 oG 31 (.eqA false [0,0] (.t 29) (.t 30)) 28 true,b7 32 28 31,oM 0 32] .ret)))),[(0,none)]⟩
theorem xe:aU Try.prog {} Try.f9=some ml:=by kernel_rfl
theorem xY (G:am):bc Try.prog G 9 [] (.w (.c (.d (.bool true)))):=by
  refine bL Try.func9 xe rfl rfl ?_;have c1:=AG G 100 160 170 130 0;rw[show k9 100 160 170 130 0=true by decide +kernel,show gE 100 160 170 130 0=0 by decide +kernel] at c1;have c2:=kJ G 100 160 170 130 0 0;rw[show iX 100 160 170 130 0 0=true by decide +kernel,show fb 100 160 170 130 0 0=0 by decide +kernel,show bH (130-100) 0=30 by decide +kernel] at c2;unfold a9 at *
  simp only[ml,aA,ah,af,seval,iteOmega,toNatUp];refine sC (c1) ?_;simp only[bZ,ah,af,seval,iteOmega,toNatUp];refine sC (c2) ?_;simp only[bZ,ah,af,seval,iteOmega,toNatUp];exact aF
theorem yS (g:Nat→Nat) (ds:List D):(ds.map C.d).map (C.ren g)=ds.map C.d:=by
  induction ds with
  | nil=>rfl
  | cons d r ih=>rw[Bj,Bj,ih]; rfl
def pY:a6:=⟨1,44,al [oO 2 (.alloc [ar,ar,ar,ar,ar]),aT 3 0] (al [oM 10 0,oO 11 (.callM 5 [(.t 10)]),oM 4 11] (al [oM 12 4,oO 13 (.callM 14 [(.t 12),(.k (.c (.d (.int .i64 (-5000))))),(kI 5000)]),oM 14 4,oO 15 (.callM 14 [(.t 14),(.k (.c (.d (.int .i64 (-5000))))),(kI 5000)]),oM 5 13,oM 6 15] (al [oM 16 4,oO 17 (.callM 15 [(.t 16),(kI 3000)]),oM 18 4,oO 19 (.callM 15 [(.t 18),(kI 100)]),oM 20 4,oO 21 (.callM 15 [(.t 20),(kI 3000)]),oM 7 17,oM 8 19,oM 9 21] (al [oM 22 6,oM 23 6,oM 24 7,aW .add 25 23 24,oM 26 5,aW .add 27 25 26,oM 28 6,oM 29 7,aW .add 30 28 29,oM 31 8,aW .add 32 30 31,oM 33 5,aW .add 34 32 33,oM 35 6,oM 36 7,aW .add 37 35 36,oM 38 8,aW .add 39 37 38,oM 40 9,aW .add 41 39 40,oO 42 (.build [ar,ar,ar,ar,ar] [(0,1,(.t 22)),(1,1,(.t 27)),(2,1,(.t 34)),(3,1,(.t 41))]),
 oM 43 5,bO 5 2 42,oM 3 43] .ret)))),[(2,(some (.ag 5))),(3,none)]⟩
theorem yT:aU Try.prog { mt:=[11,13,15,17,19,21] } Try.f12=some pY:=by kernel_rfl
theorem zI (G:am) (l:List Int) (hl:l.length≤9223372036854775807):∃ o s u h b:Int,(-5000≤o∧o≤5000)∧(-5000≤s∧s≤5000)∧(0≤u∧u<3000)∧(0≤h∧h<100)∧(0≤b∧b<3000) ∧
    bc Try.prog G 12 [.sl (l.map zD)] (.tup [.c (.d (a9 s (s+u+o) (s+u+h+o) (s+u+h+b) 0)),.c (.d (.int .i64 o))]):=by
  have key:∀ x:Nat,x≤l.length→∃ y:Nat,y≤l.length∧fe l x=y:=fun x hx=>⟨_,Ar hx,rfl⟩
  have cn:=AK G l;have c1:=vA G l 0 (-5000) 5000 hl (Nat.zero_le _) (by omega) (by omega) (by omega);have w1:=dA (cj l 0) (5000 - -5000+1) (by omega);obtain⟨a1,h1,e1⟩:=key 0 (Nat.zero_le _);have c2:=vA G l a1 (-5000) 5000 hl h1 (by omega) (by omega) (by omega);have w2:=dA (cj l a1) (5000 - -5000+1) (by omega);obtain⟨a2,h2,e2⟩:=key a1 h1;have c3:=iA G l a2 3000 hl h2 (by omega) (by omega);have w3:=dA (cj l a2) 3000 (by omega);obtain⟨a3,h3,e3⟩:=key a2 h2;have c4:=iA G l a3 100 hl h3 (by omega) (by omega);have w4:=dA (cj l a3) 100 (by omega);obtain⟨a4,h4,e4⟩:=key a3 h3;have c5:=iA G l a4 3000 hl h4 (by omega) (by omega);have w5:=dA (cj l a4) 3000 (by omega);obtain⟨a5,h5,e5⟩:=key a4 h4;rw[e1] at c1;rw[e2] at c2;rw[e3] at c3;rw[e4] at c4;rw[e5] at c5;obtain⟨x1,hx1⟩:∃ x,-5000+b8 (cj l 0) (5000 - -5000+1)=x:=⟨_,rfl⟩
  obtain⟨x2,hx2⟩:∃ x,-5000+b8 (cj l a1) (5000 - -5000+1)=x:=⟨_,rfl⟩
  rw[hx1] at c1;rw[hx2] at c2;generalize b8 (cj l a2) 3000=x3 at *
  generalize b8 (cj l a3) 100=x4 at *
  generalize b8 (cj l a4) 3000=x5 at *
  refine⟨x1,x2,x3,x4,x5,⟨by omega,by omega⟩,⟨by omega,by omega⟩,⟨by omega,by omega⟩,⟨by omega,by omega⟩,⟨by omega,by omega⟩,?_⟩;have y1:-5000≤x1∧x1≤5000:=by omega
  have y2:-5000≤x2∧x2≤5000:=by omega
  clear key hx1 hx2 w1 w2 e1 e2 e3 e4 e5;refine bL Try.func12 yT rfl rfl ?_;unfold a9;simp only[pY,aA,ah,af,seval,iteOmega,toNatUp];refine AH [.c (.d (.sl (l.map zD)))] [(1,1000)] cn ?_ rfl ?_ rfl rfl ?_
  ·simp only[ah,af,seval,iteOmega,toNatUp] <;> rfl
  ·trivial
  simp only[wb,ah,af,seval,iteOmega,toNatUp,Bj,BR,yS];refine eT (id:=1000) (ws:=[.c (.ptr 1000 1 0 0),.c (.d (.int .i64 (-5000))),.c (.d (.int .i64 5000))]) c1 (by simp only[ah,af,seval,iteOmega,toNatUp,Bj,BR]) rfl (by simp only[ah,af,seval,iteOmega,toNatUp]) rfl ?_;simp only[fc,dz,ah,af,seval,iteOmega,toNatUp];refine eT (id:=1000) (ws:=[.c (.ptr 1000 1 0 0),.c (.d (.int .i64 (-5000))),.c (.d (.int .i64 5000))]) c2 (by simp only[ah,af,seval,iteOmega,toNatUp,Bj,BR]) rfl (by simp only[ah,af,seval,iteOmega,toNatUp]) rfl ?_;simp only[fc,dz,ah,af,seval,iteOmega,toNatUp];refine eT (id:=1000) (ws:=[.c (.ptr 1000 1 0 0),.c (.d (.int .i64 3000))]) c3 (by simp only[ah,af,seval,iteOmega,toNatUp,Bj,BR]) rfl (by simp only[ah,af,seval,iteOmega,toNatUp]) rfl ?_;simp only[fc,dz,ah,af,seval,iteOmega,toNatUp];refine eT (id:=1000) (ws:=[.c (.ptr 1000 1 0 0),.c (.d (.int .i64 100))]) c4 (by simp only[ah,af,seval,iteOmega,toNatUp,Bj,BR]) rfl (by simp only[ah,af,seval,iteOmega,toNatUp]) rfl ?_;simp only[fc,dz,ah,af,seval,iteOmega,toNatUp];refine eT (id:=1000) (ws:=[.c (.ptr 1000 1 0 0),.c (.d (.int .i64 3000))]) c5 (by simp only[ah,af,seval,iteOmega,toNatUp,Bj,BR]) rfl (by simp only[ah,af,seval,iteOmega,toNatUp]) rfl ?_;simp only[fc,dz,ah,af,seval,iteOmega,toNatUp];exact cF
theorem AM {a b c d:Int} (h:cQ (a,b)=true) (h2:cQ (c,d)=true) (h3:c≤a) (h4:b≤d):iM a b c d=true:=by
  unfold iM;rw[h,h2,decide_eq_true ⟨h3,h4⟩]; rfl
theorem Ay {d p q:Int} (hd:0≤d) (h0:0≤p) (h:p≤q) (hq:q≤1000000):bH d p≤bH d q:=by
  unfold bH;rw[ig (by omega)];have h1:=(ig (x:=d*1000000000) (c:=1000000000-q) (y:=cP (d*1000000000) (1000000000-q)) (by omega)).1 (Int.le_refl _);have h2:0≤cP (d*1000000000) (1000000000-q):=by
    have:=jO d q hd (by omega) hq;unfold bH at this;omega
  have h3:=BX (show 1000000000-q≤1000000000-p by omega) h2;omega
theorem rO {a b c d e:Int} (ha:-1152921504606846976≤a) (ha2:a≤d) (hd:d≤1152921504606846976) (hb:-1152921504606846976≤b) (hb2:b≤c) (hc:c≤1152921504606846976) (he:0≤e) (he2:e≤1152921504606846976):bV a b c d e=0:=by
  unfold bV;have:db a b c d e=true:=by
    unfold db;rw[dl ⟨ha,by omega⟩,dl ⟨hb,by omega⟩,dl ⟨by omega,hc⟩,dl ⟨by omega,hd⟩,dl ⟨by omega,he2⟩,decide_eq_true he]; rfl
  rw[if_pos this,if_neg (by omega)]
theorem uz {a b c d e p:Int} (h:bV a b c d e=0) (hi:cY (d-a) p=true) (h1:-1152921504606846976≤c-e) (h2:c-e≤1152921504606846976) (h3:-1152921504606846976≤b+e+bH (d-a) p) (h4:b+e+bH (d-a) p≤1152921504606846976) :
    fb a b c d e p=if b+e+bH (d-a) p<c-e then 20 else 0:=by
  unfold fb;rw[if_pos h,if_pos hi,dl ⟨h1,h2⟩,dl ⟨h3,h4⟩]; rfl
def jt:a6:=⟨5,67,al [dc 10 false] (al [oM 19 0,cN 20 12 19,oM 18 20,ci 21 18 0,ci 22 18 1,oO 11 (.alloc [ar,ar,ar,ar,ar]),bO 5 11 21,oM 12 22] (al [oM 23 1,oO 24 (.call 7 [(.t 23),(kI 1000)] none),aN 25 4 11,iQ 25 24] (al [oM 26 3,oO 27 (.call 7 [(.t 26),(kI 1000)] none),oM 13 27] (al [cK 29 5 11,oM 30 13,fL 31 8 29 30,oM 28 31,ci 32 28 0,ci 33 28 1,oO 14 (.alloc [ar,ar]),bO 2 14 32,oM 15 33] (al [aN 34 4 11,aR 35 34,oM 36 2,oO 37 (.call 7 [(.t 36),(kI 1000)] none),aW .add 38 35 37,aN 39 4 11,iQ 39 38] (al [cK 41 5 11,oM 42 13,oM 43 4,oO 44 (.call 7 [(.t 43),(kI 1000)] none),aW .add 45 42 44,fL 46 8 41 45,oM 40 46,ci 47 40 0,ci 48 40 1,oO 16 (.alloc [ar,ar]),bO 2 16 47,oM 17 48] (al [oO 49 (.call 9 [] none),oM 50 49,cw 51 15 50 true,en .eql 52 51 20 50 true,
 cw 53 52 50 true,cw 54 15 53 false,en .eql 55 54 0 53 false,cw 56 55 53 false,cw 57 17 56 true,en .eql 58 57 0 56 true,oG 59 (.pick (.t 56) (.t 58) (.k (.c gH))) 53 false,cw 60 59 53 false,oG 61 (.load (.ag 2) (.t 14)) 60 true,oG 62 (.load (.ag 2) (.t 16)) 60 true,oG 63 (.call 13 [(.t 61),(.t 62)] none) 60 true,oG 64 (.pick (.t 60) (.t 63) (.k (.c gH))) 53 false,oG 65 (.pick (.t 53) (.k (.c (.d (.bool true)))) (.t 64)) 50 true,b7 66 50 65,oM 10 66] .ret))))))),[(10,none)]⟩
theorem xZ:aU Try.prog {} Try.f4=some jt:=by kernel_rfl
set_option maxHeartbeats 1600000 in
theorem yU (G:am) (l:List Int) (hl1:l.length≤maxLen) (hl2:∀ n∈l,kY n) (err:Int) (herr1:-9223372036854775808≤err) (herr2:err≤9223372036854775807) (more:Int) (hmore1:-9223372036854775808≤more) (hmore2:more≤9223372036854775807) (ppb:Int) (hppb1:-9223372036854775808≤ppb) (hppb2:ppb≤9223372036854775807) (faster:Int) (hfaster1:-9223372036854775808≤faster) (hfaster2:faster≤9223372036854775807) :bc Try.prog G 4 [.sl (l.map zD),.int .i64 err,.int .i64 more,.int .i64 ppb,.int .i64 faster] (.w (.c (.d (.bool true)))):=by
  refine bL Try.func4 xZ rfl rfl ?_;have hl:l.length≤9223372036854775807:=by unfold maxLen at hl1; omega
  obtain⟨o,s,u,h,b,⟨o1,o2⟩,⟨s1,s2⟩,⟨u1,u2⟩,⟨h1,h2⟩,⟨b1,b2⟩,c0⟩:=zI G l hl;have r1:=dA err 1000 (by decide);have r2:=dA ppb 1000 (by decide);have r3:=dA more 1000 (by decide);have r4:=dA faster 1000 (by decide);have k1:=gz G err 1000 (by decide) (by decide);have k2:=gz G ppb 1000 (by decide) (by decide);have k3:=gz G more 1000 (by decide) (by decide);have k4:=gz G faster 1000 (by decide) (by decide);generalize b8 err 1000=E at *
  generalize b8 ppb 1000=p at *
  generalize b8 more 1000=M at *
  generalize b8 faster 1000=Q at *
  obtain⟨x,hx⟩:∃ x,s+u+o=x:=⟨_,rfl⟩
  obtain⟨y,hy⟩:∃ y,s+u+h+o=y:=⟨_,rfl⟩
  obtain⟨z,hz⟩:∃ z,s+u+h+b=z:=⟨_,rfl⟩
  rw[hx,hy,hz] at c0;have i1:cY (z-s) p=true:=kG ⟨by omega,by omega,by omega,by omega⟩;have i2:cY (z-s) (p+Q)=true:=kG ⟨by omega,by omega,by omega,by omega⟩;have B1:=jO (z-s) p (by omega) (by omega) (by omega);have B2:=ub (z-s) (p+Q) (by omega) (by omega) (by omega);have B3:=Ay (d:=z-s) (p:=p) (q:=p+Q) (by omega) (by omega) (by omega) (by omega);have m1:bV s x y z E=0:=rO (by omega) (by omega) (by omega) (by omega) (by omega) (by omega) (by omega) (by omega);have m2:bV s x y z (E+M)=0:=rO (by omega) (by omega) (by omega) (by omega) (by omega) (by omega) (by omega) (by omega);have c1:=kJ G s x y z E p;have c2:=kJ G s x y z (E+M) (p+Q);have e1:=uz m1 i1 (by omega) (by omega) (by omega) (by omega);have e2:=uz m2 i2 (by omega) (by omega) (by omega) (by omega);have ck:=xY G;unfold iX at c1 c2;rw[e1] at c1;rw[e2] at c2;clear e1 e2 m1 m2;generalize bH (z-s) p=B at *
  generalize bH (z-s) (p+Q)=C at *
  have c3:=Ae G (y-E) (x+E+B) (y-(E+M)) (x+(E+M)+C);obtain⟨EM,hEM⟩:∃ EM,E+M=EM:=⟨_,rfl⟩
  obtain⟨PQ,hPQ⟩:∃ PQ,p+Q=PQ:=⟨_,rfl⟩
  unfold a9 at *
  by_cases g:x+E+B<y-E
  ·rw[if_pos g] at c1;simp only[jt,aA,ah,af,seval,iteOmega,toNatUp];refine sD (c0) ?_;refine sD (k1) ?_;refine sD (k2) ?_;refine sC (c1) ?_;simp only[bZ,ah,af,seval,iteOmega,toNatUp];refine sD (k3) ?_;refine sD (k4) ?_;refine sC (c2) ?_;simp only[bZ,ah,af,seval,iteOmega,toNatUp];refine sD (ck) ?_;exact aF
  ·rw[if_neg g] at c1;rw[if_neg (by omega)] at c2;rw[AM (vi ⟨by omega,by omega,by omega⟩) (vi ⟨by omega,by omega,by omega⟩) (by omega) (by omega)] at c3;simp only[jt,aA,ah,af,seval,iteOmega,toNatUp];refine sD (c0) ?_;refine sD (k1) ?_;refine sD (k2) ?_;refine sC (c1) ?_;simp only[bZ,ah,af,seval,iteOmega,toNatUp];refine sD (k3) ?_;refine sD (k4) ?_;refine sC (c2) ?_;simp only[bZ,ah,af,seval,iteOmega,toNatUp];refine sD (ck) ?_;refine sD (c3) ?_;exact aF
end Go.Proofs.Ytjhaklohdflppaa
