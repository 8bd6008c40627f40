/- Texts of one's own, merged: from: Layer 17 on data: the program: sizes,bytes. Own work. -/
import Derived.Test.YtnjhelpgohdajaaGreatDoorProg
import Derived.Test.YtnjhelpgohdajaaGreatDoorMg17
import Derived.Test.YtnjhelpgohdajaaGreatDoorMg115
import Derived.Test.YtnjhelpgohdajaaGreatDoorMg110
import Derived.Test.YtnjhelpgohdajaaGreatDoorMg111
import Derived.Test.YtnjhelpgohdajaaGreatDoorMg19
import Derived.Shelf.Abstract
set_option linter.unusedVariables false
set_option linter.unusedSimpArgs false
namespace Go.Proofs.YtnjhelpgohdajaaGreatDoor
open Go.RowKit IntWalk
set_option maxHeartbeats 3200000
theorem kM {l:List Fd} {i:Nat} (h:i<l.length):l[i]?=some (l.getD i default):=by
  rw[apT,apR h]; rfl
theorem va {l:List Fd} {i:Nat} (h:i<l.length):l.getD i default∈l:=by
  rw[apT,apR h];exact aqr h
theorem anL (n:Nat):Int.tdiv ((n:Int)+4-1) 4=(((n+3) / 4:Nat):Int):=by
  rw[Int.tdiv_eq_ediv_of_nonneg (by omega)]; omega
theorem ajX {f:Fd} (h:16<(4+f.da.length+3) / 4*4):cx f=(4+f.da.length+3) / 4*4:=by unfold cx; omega
theorem ajY {f:Fd} (h:(4+f.da.length+3) / 4*4≤16):cx f=16:=by unfold cx; omega
theorem SL {f:Fd} (h:f.ty<0∨65535<f.ty):dA f=4∧oE f=0:=by
  have e:dA f=4:=if_pos h;exact⟨e,by unfold oE; rw[e]; rfl⟩
theorem Cr {f:Fd} (h1:0≤f.ty) (h2:f.ty≤65535) (h:cx f≤1232):dA f=0∧oE f=cx f:=by
  have e:dA f=0:=RS h1 h2 h;exact⟨e,by unfold oE; rw[if_pos e]⟩
theorem ae4 {f:Fd} (h1:0≤f.ty) (h2:f.ty≤65535) (h:1232<cx f):dA f=2∧oE f=0:=by
  have e:dA f=2:=by unfold dA; rw[if_neg (by omega),if_pos h]
  exact⟨e,by unfold oE; rw[e]; rfl⟩
def QJ:aO:=⟨1,8,ae [am 2 0] (ae [oM 3 0,ak .add 4 3 4,ak .sub 5 4 1,ak .quo 6 5 4,ak .mul 7 6 4,oM 2 7] .ret),[(2,none)]⟩
theorem ae5:aM Tryz.prog {} Tryz.f154=some QJ:=by kernel_rfl
theorem ajZ (G:au) (n:Nat) (hn:n≤9000000000000000000):aF Tryz.prog G 154 [.int .i64 (n:Int)] (.w (.c (.d (.int .i64 (((n+3) / 4*4:Nat):Int))))):=by
  refine aX Tryz.func154 ae5 rfl rfl ?_;have e:=anL n;have hq:(n+3) / 4*4≤n+3:=by omega
  generalize (n+3) / 4=q at *
  simp only[QJ,ai,af,seval,iteOmega,e];exact aZ
def vy:aO:=⟨1,22,ae [cX 1 0,am 2 0,am 3 0] (.seq (ae [aL 5 0 1,aA 6 5,ak .lss 7 6 0,oM 8 7,dF 9 0 1 8 false,dt 10 9 8 false,cC .gtr 11 10 65535 8 false,cv 12 8 11] (ar 12 (ae [am 2 0,am 3 4] .ret) .skip)) (ae [aL 13 1 1,aA 14 13,bd 15 14,oO 16 (.bin .add (kI 4) (.t 15)),aY 17 154 16,oO 18 (.max [(kI 16),(.t 17)]),oM 4 18] (.seq (ae [oM 19 4,ak .gtr 20 19 1232] (ar 20 (ae [am 2 0,am 3 2] .ret) .skip)) (ae [oM 21 4,oM 2 21,am 3 0] .ret)))),[(2,none),(3,none)]⟩
theorem ae6:aM Tryz.prog {} Tryz.f129=some vy:=by kernel_rfl
theorem SN (G:au) (f:Fd) (hd:f.da.length≤8000000000000000000):aF Tryz.prog G 129 [bf f] (.tup [.c (.d (.int .i64 (oE f:Int))),.c (.d (.int .i64 (dA f)))]):=by
  refine aX Tryz.func129 ae6 rfl rfl ?_;unfold bf;rcases arX f.ty 0 with h1 | h1
  ·obtain⟨e1,e2⟩:=SL (f:=f) (.inl h1);rw[e1,e2];simp only[vy,ai,af,seval,iteOmega];exact bz
  ·rcases arX 65535 f.ty with h2 | h2
   ·obtain⟨e1,e2⟩:=SL (f:=f) (.inr h2);rw[e1,e2];have g:(f.ty>65535)=True:=eq_true h2;simp only[vy,ai,af,seval,iteOmega,g];exact bz
   ·have c:=ajZ G (4+f.da.length) (by omega);rw[show ((4+f.da.length:Nat):Int)=4+(f.da.length:Int) by omega] at c;have g:(f.ty>65535)=False:=eq_false (by omega);rcases aqk 16 ((4+f.da.length+3) / 4*4) with h3 | h3
    ·have hT:=ajX h3;have hb:(4+f.da.length+3) / 4*4≤4+f.da.length+3:=by omega
     rcases aqk 1232 (cx f) with h4 | h4
     ·obtain⟨e1,e2⟩:=ae4 h1 h2 h4;rw[e1,e2];rw[hT] at h4;generalize (4+f.da.length+3) / 4*4=Y at *
      have g3:((Y:Int)>16)=True:=eq_true (by omega);have g4:((Y:Int)>1232)=True:=eq_true (by omega);simp only[vy,ai,af,seval,iteOmega,g];refine sC (c) ?_;simp only[g3,g4,aq6,arz,af,seval];exact bz
     ·obtain⟨e1,e2⟩:=Cr h1 h2 h4;rw[e1,e2,hT];rw[hT] at h4;generalize (4+f.da.length+3) / 4*4=Y at *
      have g3:((Y:Int)>16)=True:=eq_true (by omega);have g4:((Y:Int)>1232)=False:=eq_false (by omega);simp only[vy,ai,af,seval,iteOmega,g];refine sC (c) ?_;simp only[g3,g4,aq6,arz,af,seval];exact bz
    ·have hT:=ajY h3;obtain⟨e1,e2⟩:=Cr h1 h2 (by omega);rw[e1,e2,hT];generalize (4+f.da.length+3) / 4*4=Y at *
     have g3:((Y:Int)>16)=False:=eq_false (by omega);simp only[vy,ai,af,seval,iteOmega,g];refine sC (c) ?_;simp only[g3,aq6,arz,af,seval];exact bz
theorem ae7 (n:Nat):aG 0 n=List.replicate n 0:=by
  unfold aG;refine List.ext_getElem (by simp) fun i i1 i2=>?_
  simp
def QK:aO:=⟨1,30,ae [cX 1 0,aQ 2] (ae [bn 7 2 1,aY 8 129 7,oM 6 8,aC 9 6 0,aC 10 6 1,oM 3 9,oM 4 10] (ae [oM 11 3,ak .sub 12 11 4,aL 13 1 1,aA 14 13,bd 15 14,aU .sub 16 12 15,oO 17 (.call 62 [(.k (.c aW)),(.t 16)] none),oM 5 17] (ae [aL 18 0 1,aA 19 18,oO 20 (.conv .u64 (.t 19)),oO 21 (.call 62 [(.t 20),(kI 2)] none),oM 22 3,oO 23 (.conv .u64 (.t 22)),oO 24 (.call 62 [(.t 23),(kI 2)] none),aL 25 1 1,aA 26 25,oM 27 5,oO 28 (.bldSl false 4 1 (.sl []) [(0,(.t 21)),(1,(.t 24)),(2,(.t 26)),(3,(.t 27))]),oO 29 (.call 35 [(.t 28)] (some (0,1))),oM 2 29] .ret))),[(2,none)]⟩
theorem ae8:aM Tryz.prog { own:=[29] } Tryz.f130=some QK:=by kernel_rfl
theorem aj0 (G:au) (f:Fd) (h:dA f=0):aF Tryz.prog G 130 [bf f] (.w (.c (.fr 1 ((jt f).map bD)))):=by
  refine aX Tryz.func130 ae8 rfl rfl ?_;obtain⟨h1,h2,h3⟩:=we h;have hl:=Hj f;have hp:=adT f;have c1:=SN G f (by omega);have eN:oE f=cx f:=(Cr h1 h2 h3).2;rw[h,eN] at c1;have c2:=iJ G 0 ((cx f:Int)-4-(f.da.length:Int)) (by omega);rw[show ((cx f:Int)-4-(f.da.length:Int)).toNat=cx f-4-f.da.length by omega,ae7] at c2;have c3:=iJ G f.ty.toNat 2 (by decide);rw[show (2:Int).toNat=2 from rfl,show (f.ty.toNat:Int)=f.ty by omega] at c3;have c4:=iJ G (cx f) 2 (by decide);rw[show (2:Int).toNat=2 from rfl] at c4;have cj:=dT G [aG f.ty.toNat 2,aG (cx f) 2,f.da,List.replicate (cx f-4-f.da.length) 0] (by simp) (by simp[bS]; omega);have ef:([aG f.ty.toNat 2,aG (cx f) 2,f.da,List.replicate (cx f-4-f.da.length) 0]:List (List UInt8)).flatten=jt f:=by
    unfold jt;simp only[aqD,aqF,ap7]
  rw[ef] at cj;have n0:oE f≤1232:=by omega
  unfold bf at *
  generalize jt f=B at *
  generalize aG f.ty.toNat 2=B1 at *
  generalize aG (cx f) 2=B2 at *
  generalize List.replicate (cx f-4-f.da.length) (0:UInt8)=B3 at *
  generalize f.da=da at *
  generalize f.ty=ty at *
  generalize cx f=T at *
  simp only[apW,ap4] at cj;simp only[QK,ai,af,seval];refine sD (c1) ?_;refine sD (c2) ?_;refine sD (c3) ?_;refine sD (c4) ?_;refine sD (cj) ?_;exact iP
theorem ae9 {l:List Fd} (h0:ia l=0) (h:24<l.length):dh l=8∧lD l=[]:=by
  have e:dh l=8:=by unfold dh; rw[if_pos h0,if_pos h]
  exact⟨e,by unfold lD; rw[e]; rfl⟩
theorem abY {l:List Fd} (h0:ia l=0) (h:l.length≤24) (h2:1232<cT l):dh l=2∧lD l=[]:=by
  have e:dh l=2:=by unfold dh; rw[if_pos h0,if_neg (by omega),if_pos h2]
  exact⟨e,by unfold lD; rw[e]; rfl⟩
theorem QL {l:List Fd} (h0:ia l=0) (h:l.length≤24) (h2:cT l≤1232):dh l=0∧lD l=bQ l:=by
  have e:dh l=0:=by unfold dh; rw[if_pos h0,if_neg (by omega),if_neg (by omega)]
  exact⟨e,by unfold lD; rw[if_pos e]⟩
theorem afa {l:List Fd} {e:Int} (h0:ia l=e) (h:e≠0):dh l=e∧lD l=[]:=by
  have e:dh l=e:=by unfold dh; rw[h0,if_neg h]
  exact⟨e,by unfold lD; rw[e,if_neg h]⟩
theorem afb {l:List Fd} (h:ia l=0) {i:Nat} (hi:i<l.length):dA (l.getD i default)=0:=zh.1 h _ (va hi)
def wk (l:List Fd) (i:Nat):St:=⟨bw [(0,.w (.c (.d (.sl (l.map bf))))),(4,.w (.c (.d (.int .i64 (cT (l.take i):Int))))),(12,.w (.c (.d (.sl (l.map bf))))),(13,.w (.c (.d (.int .i64 (l.length:Int))))),(14,.w (.c (.d (.int .i64 (i:Int)))))],hL [],uL []⟩
def J6 (l:List Fd) (i:Nat):St:=⟨bw [(9,.w (.c (.own 1 1 0 (bQ (l.take i)).length))),(37,.w (.c (.d (.sl (l.map bf))))),(38,.w (.c (.d (.int .i64 (l.length:Int))))),(39,.w (.c (.d (.int .i64 (i:Int)))))],hL [(1,.row 1 ((bQ (l.take i)).map bD))],uL [1]⟩
def uR:bp := ae [aU .lss 15 14 13] (.seq (ar 15 .skip (.exit 0)) (.seq (.block 1 (ae [bU 16 2 12 14,bn 17 2 16,oO 6 (.alloc [ah,.nil]),aS 2 6 17] (ae [bn 19 2 6,aY 20 129 19,oM 18 20,aC 21 18 0,aC 22 18 1,oM 7 21,oM 8 22] (.seq (ae [oM 23 8,ak .neq 24 23 0] (ar 24 (ae [oM 25 8,aQ 2,oM 3 25] .ret) .skip)) (.reg [oM 26 4,oM 27 7,aU .add 28 26 27,oM 4 28]))))) (.reg [ak .add 29 14 1,oM 14 29])))
def FQ:bp := ae [aU .lss 40 39 38] (.seq (ar 40 .skip (.exit 2)) (.seq (.block 3 (ae [bU 41 2 37 39,bn 42 2 41,oO 11 (.alloc [ah,.nil]),aS 2 11 42] (.reg [oM 43 9,bn 44 2 11,aY 45 130 44,oO 46 (.app false 1 1 (.t 43) (.t 45)),oM 9 46]))) (.reg [ak .add 47 39 1,oM 39 47])))
def QM:aO:=⟨1,49,ae [aQ 2,am 3 0] (ae [am 4 0] (.seq (ae [oM 12 0,bd 13 12,am 14 0] (.block 0 (.loop uR))) (.seq (ae [oM 30 0,bd 31 30,ak .gtr 32 31 24] (ar 32 (ae [aQ 2,am 3 8] .ret) .skip)) (.seq (ae [oM 33 4,ak .gtr 34 33 1232] (ar 34 (ae [aQ 2,am 3 2] .ret) .skip)) (ae [oM 35 4,oO 36 (.make true 1 1 aj (kI 0) (.t 35)),oM 9 36] (.seq (ae [oM 37 0,bd 38 37,am 39 0] (.block 2 (.loop FQ))) (ae [oM 48 9,oM 2 48,am 3 0] .ret))))))),[(2,none),(3,none)]⟩
theorem afc:aM Tryz.prog {} Tryz.f90=some QM:=by kernel_rfl
theorem aj1 (G:au) (l:List Fd) (hl:l.length≤1000000) (hd:∀ f∈l,f.da.length≤8000000000000000000):aF Tryz.prog G 90 [.sl (l.map bf)] (.tup [.c (.fr 1 ((lD l).map bD)),.c (.d (.int .i64 (dh l)))]):=by
  refine aX Tryz.func90 afc rfl rfl ?_;simp only[QM,ai,af,seval];refine bO (wk l) (fun i=>l.length-i) (fun i=>i≤l.length∧ia (l.take i)=0) 0 ⟨apZ _,rfl⟩ ?_ ?_
  ·refine aR (fun i=>i) ?_ ?_ rfl rfl <;> simp only[wx,aH,seval,aaV]
  ·rintro i ⟨hi,hok⟩;have hb:=adV (l.take i) (zh.1 hok);rw[ap0,aq0 hi] at hb;by_cases hlt:i<l.length
   ·have g:=kM hlt;have c:=SN G (l.getD i default) (hd _ (va hlt));have ht:=Ay hlt;have hf:=Oc hlt hok;by_cases he:dA (l.getD i default)=0
    ·obtain⟨q1,q2,q3⟩:=we he;have eN:oE (l.getD i default)=cx (l.getD i default):=(Cr q1 q2 q3).2;rw[he,eN] at c;rw[he] at hf;unfold bf at c;generalize l.getD i default=x at *
     generalize cx x=T at *
     simp only[uR,wk,af,aa,seval,iteOmega,toNatUp,bc,g,bf];refine sD (c) ?_;refine bA (i+1) (by omega) ⟨by omega,hf⟩ (aR (fun i=>i) ?_ ?_ rfl rfl) <;> simp only[wx,aH,aV,seval,ht]
    ·obtain⟨e1,e2⟩:=afa (aaX hlt hok he) he;have hne:(dA (l.getD i default)=0)=False:=eq_false he;rw[e1,e2];unfold bf at c;generalize dA (l.getD i default)=e at *
     generalize oE (l.getD i default)=n at *
     generalize l.getD i default=x at *
     simp only[uR,wk,af,aa,seval,iteOmega,toNatUp,bc,g,bf];refine sC (c) ?_;simp only[hne,af,seval];exact d7
   ·have hil:l.take i=l:=apX (by omega);rw[hil] at hok;rcases aqk 24 l.length with h24 | h24
    ·obtain⟨e1,e2⟩:=ae9 hok h24;rw[e1,e2];have g1:((l.length:Int)>24)=True:=eq_true (by omega);simp only[uR,wk,af,seval,iteOmega,g1];exact d7
    ·have g1:((l.length:Int)>24)=False:=eq_false (by omega);rcases aqk 1232 (cT l) with h12 | h12
     ·obtain⟨e1,e2⟩:=abY hok h24 h12;rw[e1,e2];have g2:((cT l:Int)>1232)=True:=eq_true (by omega);simp only[uR,wk,af,seval,iteOmega,g1,hil,g2];exact d7
     ·obtain⟨e1,e2⟩:=QL hok h24 h12;rw[e1,e2];have g2:((cT l:Int)>1232)=False:=eq_false (by omega);simp only[uR,wk,af,seval,iteOmega,toNatUp,g1,hil,g2];refine bO (J6 l) (fun i=>l.length-i) (fun i=>i≤l.length) 0 (apZ _) ?_ ?_
      ·refine aR (fun _=>288) ?_ ?_ rfl rfl <;> simp only[wx,aH,seval,aaW]
      ·intro i hi;by_cases hlt:i<l.length
       ·have g:=kM hlt;have c:=qw (aj0 G (l.getD i default) (afb hok hlt));have ha:=Fy hlt;have h1:=jz (l.take (i+1));have h2:=PY l (i+1);rw[ha,apS] at h1;unfold bf at c;generalize l.getD i default=x at *
        generalize jt x=B at *
        simp only[FQ,J6,af,aa,seval,iteOmega,toNatUp,bc,g,bf];refine sC (c) ?_;simp only[cg,af,seval,iteOmega];refine bA (i+1) (by omega) (by omega) (aR (fun _=>368) ?_ ?_ rfl rfl) <;> simp only[wx,aH,aV,seval,ha]
       ·have hil:l.take i=l:=apX (by omega);simp only[FQ,J6,af,seval,iteOmega,hil];exact d7
theorem IR (G:au) (l:List Fd) (hl:l.length≤1000000) (hd:∀ f∈l,f.da.length≤8000000000000000000):aF Tryz.prog G 90 [.sl (l.map bf)] (.tup [.c (.d (.sl ((lD l).map bD))),.c (.d (.int .i64 (dh l)))]):=vn (aj1 G l hl hd)
set_option maxHeartbeats 6400000
def fC (h:Hd):D:=.agg [.int .i64 h.lp,.int .i64 h.vr,.int .i64 h.md,.int .i64 h.st,.int .i64 h.pl,.int .i64 h.pr,.int .u32 (h.rd:Int),.int .u32 (h.rp:Int),.int .u32 (h.ri:Int),.int .u64 (h.rf:Int),.int .u64 (h.og:Int),.int .u64 (h.rc:Int),.int .u64 (h.tr:Int)]
def jw (h:Hd):Int:=if mK h then 0 else 4
def Eb (h:Hd):List UInt8:=if mK h then fg h else []
def ix (l:List UInt8):Int:=if l.length<48 then 1 else if 1280<l.length then 2 else if (d8 l).vr=3∨(d8 l).vr=4 then 0 else 3
def Ec (l:List UInt8):Hd:=if ix l=0 then d8 l else Hd.z
def Ed (l:List UInt8):List UInt8:=if ix l=0 then l.drop 48 else []
def ft (t:Nat):Hd:=⟨0,4,3,0,6,0,0,0,0,0,0,0,t⟩
def wX (q:Hd) (st:Int):Int:=if mK q then (if q.md=3 then (if 0≤st∧st≤255 then 0 else 4) else 3) else 4
def KW (q:Hd) (st:Int) (rc tr:Nat):Hd:=if wX q st=0 then ⟨0,q.vr,4,st,q.pl,-20,0,0,0,0,q.tr,rc,tr⟩ else Hd.z
theorem aft (h:Hd):mK h=(decide (0≤h.lp∧h.lp≤3)&&(decide (3≤h.vr∧h.vr≤4)&&(decide (0≤h.md∧h.md≤7)&&(decide (0≤h.st∧h.st≤255)&&(decide (-128≤h.pl∧h.pl≤127)&&decide (-128≤h.pr∧h.pr≤127)))))):=by
  unfold mK ut;by_cases k:0≤h.lp∧h.lp≤3∧(h.vr=3∨h.vr=4)∧0≤h.md∧h.md≤7∧0≤h.st∧h.st≤255∧-128≤h.pl∧h.pl≤127∧-128≤h.pr∧h.pr≤127
  ·rw[decide_eq_true k];simp only[show (0≤h.lp∧h.lp≤3) from by omega,show (3≤h.vr∧h.vr≤4) from by omega,show (0≤h.md∧h.md≤7) from by omega,show (0≤h.st∧h.st≤255) from by omega,show (-128≤h.pl∧h.pl≤127) from by omega,show (-128≤h.pr∧h.pr≤127) from by omega];decide
  ·rw[decide_eq_false k]
   symm
   rw[← Bool.not_eq_true];intro e;simp only[aqm,decide_eq_true_eq] at e;exact k (by omega)
def BI:aO:=⟨3,15,ae [bG 6 false] (ae [oM 7 0,oM 8 1,aU .leq 9 7 8,oM 10 9,bJ 11 1 10 true,bJ 12 2 10 true,rh .leq 13 11 12 10 true,ek 14 10 13,oM 6 14] .ret),[(6,none)]⟩
theorem afu:aM Tryz.prog {} Tryz.f101=some BI:=by kernel_rfl
theorem vT (G:au) (a n b:Int):aF Tryz.prog G 101 [.int .i64 a,.int .i64 n,.int .i64 b] (.w (.c (.d (.bool (decide (a≤n∧n≤b)))))):=by
  refine aX Tryz.func101 afu rfl rfl ?_;by_cases h1:a≤n
  ·by_cases h2:n≤b
   ·rw[decide_eq_true ⟨h1,h2⟩];simp only[BI,ai,af,seval,iteOmega];exact aZ
   ·rw[decide_eq_false (fun h=>h2 h.2)];simp only[BI,ai,af,seval,iteOmega];exact aZ
  ·rw[decide_eq_false (fun h=>h1 h.1)];simp only[BI,ai,af,seval,iteOmega];exact aZ
def QU:aO:=⟨1,5,ae [bG 2 false] (ae [oM 3 0,oO 4 (.call 101 [(kI 3),(.t 3),(kI 4)] none),oM 2 4] .ret),[(2,none)]⟩
theorem afv:aM Tryz.prog {} Tryz.f133=some QU:=by kernel_rfl
theorem S8 (G:au) (n:Int):aF Tryz.prog G 133 [.int .i64 n] (.w (.c (.d (.bool (decide (3≤n∧n≤4)))))):=by
  refine aX Tryz.func133 afv rfl rfl ?_;have c:=vT G (3) n 4;generalize decide (3≤n∧n≤4)=b at *
  simp only[QU,ai,af,seval];refine sD (c) ?_;exact aZ
def QV:aO:=⟨1,5,ae [bG 2 false] (ae [oM 3 0,oO 4 (.call 101 [(.k (.c (.d (.int .i64 (-128))))),(.t 3),(kI 127)] none),oM 2 4] .ret),[(2,none)]⟩
theorem afw:aM Tryz.prog {} Tryz.f137=some QV:=by kernel_rfl
theorem S9 (G:au) (n:Int):aF Tryz.prog G 137 [.int .i64 n] (.w (.c (.d (.bool (decide (-128≤n∧n≤127)))))):=by
  refine aX Tryz.func137 afw rfl rfl ?_;have c:=vT G (-128) n 127;generalize decide (-128≤n∧n≤127)=b at *
  simp only[QV,ai,af,seval];refine sD (c) ?_;exact aZ
def rP:aO:=⟨1,35,ae [cX 1 0,am 2 0] (.seq (ae [aL 3 0 1,aA 4 3,oO 5 (.call 101 [(kI 0),(.t 4),(kI 3)] none),cW 6 5,oM 7 6,dF 8 1 1 7 false,dt 9 8 7 false,oG 10 (.call 133 [(.t 9)] none) 7 false,gn 11 10 7 false,cv 12 7 11,oM 13 12,dF 14 2 1 13 false,dt 15 14 13 false,oG 16 (.call 101 [(kI 0),(.t 15),(kI 7)] none) 13 false,gn 17 16 13 false,cv 18 13 17] (ar 18 (ae [am 2 4] .ret) .skip)) (.seq (ae [aL 19 3 1,aA 20 19,oO 21 (.call 101 [(kI 0),(.t 20),(kI 255)] none),cW 22 21,oM 23 22,dF 24 4 1 23 false,dt 25 24 23 false,oG 26 (.call 137 [(.t 25)] none) 23 false,gn 27 26 23 false,cv 28 23 27,oM 29 28,dF 30 5 1 29 false,dt 31 30 29 false,oG 32 (.call 137 [(.t 31)] none) 29 false,gn 33 32 29 false,cv 34 29 33] (ar 34 (ae [am 2 4] .ret) .skip)) (ae [am 2 0]
 .ret))),[(2,none)]⟩
theorem afx:aM Tryz.prog {} Tryz.f100=some rP:=by kernel_rfl
theorem Ta (G:au) (h:Hd):aF Tryz.prog G 100 [fC h] (.w (.c (.d (.int .i64 (jw h))))):=by
  refine aX Tryz.func100 afx rfl rfl ?_;have c1:=vT G 0 h.lp 3;have c2:=S8 G h.vr;have c3:=vT G 0 h.md 7;have c4:=vT G 0 h.st 255;have c5:=S9 G h.pl;have c6:=S9 G h.pr;have he:jw h=if mK h=true then 0 else 4:=rfl
  rw[aft] at he;unfold fC;generalize decide (0≤h.lp∧h.lp≤3)=b1 at *
  generalize decide (3≤h.vr∧h.vr≤4)=b2 at *
  generalize decide (0≤h.md∧h.md≤7)=b3 at *
  generalize decide (0≤h.st∧h.st≤255)=b4 at *
  generalize decide (-128≤h.pl∧h.pl≤127)=b5 at *
  generalize decide (-128≤h.pr∧h.pr≤127)=b6 at *
  cases b1
  ·rw[he];simp only[rP,ai,af,seval];refine sD (c1) ?_;exact aZ
  cases b2
  ·rw[he];simp only[rP,ai,af,seval];refine sD (c1) ?_;refine sD (c2) ?_;exact aZ
  cases b3
  ·rw[he];simp only[rP,ai,af,seval];refine sD (c1) ?_;refine sD (c2) ?_;refine sD (c3) ?_;exact aZ
  cases b4
  ·rw[he];simp only[rP,ai,af,seval];refine sD (c1) ?_;refine sD (c2) ?_;refine sD (c3) ?_;refine sD (c4) ?_;exact aZ
  cases b5
  ·rw[he];simp only[rP,ai,af,seval];refine sD (c1) ?_;refine sD (c2) ?_;refine sD (c3) ?_;refine sD (c4) ?_;refine sD (c5) ?_;exact aZ
  cases b6
  ·rw[he];simp only[rP,ai,af,seval];refine sD (c1) ?_;refine sD (c2) ?_;refine sD (c3) ?_;refine sD (c4) ?_;refine sD (c5) ?_;refine sD (c6) ?_;exact aZ
  ·rw[he];simp only[rP,ai,af,seval];refine sD (c1) ?_;refine sD (c2) ?_;refine sD (c3) ?_;refine sD (c4) ?_;refine sD (c5) ?_;refine sD (c6) ?_;exact aZ
def QW:aO:=⟨2,23,ae [oO 4 (.mv (.k (.c aW)))] (ae [oM 6 0,oO 7 (.nilChk (.t 6)),aL 8 0 7,aA 9 8,oM 10 1,oO 11 (.slice 1 (.t 9) none (some (.t 10)) none),aY 12 68 11,oM 5 12] (ae [oM 13 0,oM 14 0,oO 15 (.nilChk (.t 14)),aL 16 0 15,aA 17 16,oM 18 1,oO 19 (.slice 1 (.t 17) (some (.t 18)) none none),oO 20 (.nilChk (.t 13)),aL 21 0 20,d6 21 19] (ae [oM 22 5,oM 4 22] .ret))),[(4,none)]⟩
theorem afy:aM Tryz.prog {} Tryz.f155=some QW:=by kernel_rfl
theorem aku (G:au) (l:List UInt8) (k:Nat) (hk:k≤l.length) (hl:l.length≤9223372036854775807):sB Tryz.prog G 155 [.c (.ptr 1 1 0 0),.c (.d (.int .i64 (k:Int)))] (iD [.sl (l.map bD)]) [1] (.w (.c (.d (.int .u64 (bq (l.take k)))))) (iD [.sl ((l.drop k).map bD)]) [1]:=by
  have c:=kH G (l.take k) (by simp; omega);have e:(l.drop k).take (l.length-k)=l.drop k:=apX (by simp);refine Y0 Tryz.func155 afy 0 rfl rfl rfl rfl rfl rfl ?_;simp only[QW,iM,iD,iC,af,seval,iteOmega,toNatUp];refine bM c rfl (.inl rfl) ?_;simp only[iC,abV,af,aa,seval,iteOmega,toNatUp];refine anK (by simp only[af,seval]) ?_ (by simp only[af,seval]);simp only[af,seval,e]
theorem nX (G:au) (l:List UInt8) (a k c:Nat) (K:Int) (hK:(k:Int)=K) (hc:a+k=c) (hk:c≤l.length) (hl:l.length≤9223372036854775807):sB Tryz.prog G 155 [.c (.ptr 1 1 0 0),.c (.d (.int .i64 K))] (iD [.sl ((l.drop a).map bD)]) [1] (.w (.c (.d (.int .u64 (bq (aK l a k)))))) (iD [.sl ((l.drop c).map bD)]) [1]:=by
  have h:=aku G (l.drop a) k (by simp; omega) (by simp; omega);rw[arx,hc,hK] at h;exact h
theorem od:∀ (args:Array Value) (w:World),(callFunc 155 args).run Tryz.prog w=.ok (.enter 155 args) w:=enters_of Tryz.func155 (by kernel_rfl) rfl
theorem and7:∀ m:Fin 256,bits .and .i64 (m.val:Int) 7=((m.val%8:Nat):Int):=by decide +kernel
theorem Tb {m:Nat} (h:m<256):bits .and .i64 (m:Int) 7=((m%8:Nat):Int):=and7 ⟨m,h⟩
theorem anX:∀ (l:Fin 4) (v:Fin 8) (m:Fin 8),bits .or .i64 (bits .or .i64 ((l.val*64:Nat):Int) ((v.val*8:Nat):Int)) (m.val:Int)=((l.val*64+v.val*8+m.val:Nat):Int):=by decide +kernel
theorem akv {l v m:Int} (l0:0≤l) (l1:l≤3) (v0:0≤v) (v1:v≤7) (m0:0≤m) (m1:m≤7):bits .or .i64 (bits .or .i64 (l*64) (v*8)) m=l*64+v*8+m:=by
  obtain⟨L,rfl⟩:=aqB l0;obtain⟨V,rfl⟩:=aqB v0;obtain⟨M,rfl⟩:=aqB m0;have:=anX ⟨L,by omega⟩ ⟨V,by omega⟩ ⟨M,by omega⟩
  simpa using this
theorem akw {l:List UInt8} {a:Nat} (h:a<l.length):bq (aK l a 1)=(l.getD a 0).toNat:=by
  have e:aK l a 1=[l.getD a 0]:=by
    unfold aK;rw[ars h,List.take_succ_cons,arb,apT,apR h];rfl
  rw[e];have:=(l.getD a 0).toNat_lt;simp[bq]
theorem akx:∀ b:Fin 256,IntKind.i8.wrap (b.val:Int)=if b.val>127 then (b.val:Int)-256 else (b.val:Int):=by decide +kernel
theorem QX (b:UInt8):IntKind.i8.wrap (b.toNat:Int)=pL b:=akx ⟨b.toNat,b.toNat_lt⟩
theorem ab8 (l:List UInt8) (h:48≤l.length):d8 (l.take 48)=d8 l:=by
  have c:∀ a n,a+n≤48→aK (l.take 48) a n=aK l a n:=by
    intro a n hn;unfold aK;rw[List.drop_take,arU,aq0 (by omega)]
  have g:∀ i,i<48→(l.take 48).getD i 0=l.getD i 0:=by
    intro i hi;rw[apT,apT,List.getElem?_take_of_lt hi]
  unfold d8;rw[c 4 4 (by omega),c 8 4 (by omega),c 12 4 (by omega),c 16 8 (by omega),c 24 8 (by omega),c 32 8 (by omega),c 40 8 (by omega),g 0 (by omega),g 1 (by omega),g 2 (by omega),g 3 (by omega)]
def Tc:aO:=⟨1,48,ae [oO 2 (.alloc [ah,ah,ah,ah,ah,ah,bh,bh,bh,aW,aW,aW,aW])] (ae [oM 6 0,oO 7 (.build [.nil] [(0,1,(.t 6))]),oO 3 (.alloc [.nil]),aS 1 3 7] (ae [oO 8 (.closM 155 [(.t 3)] []),oM 4 8] (ae [oM 9 4,oO 10 (.callM 1000000007 [(.t 9),(kI 1)]),oO 11 (.conv .i64 (.t 10)),oM 5 11] (ae [oM 12 5,oO 13 (.bin .shr (.t 12) (.k (.c (.d (.int .u64 6))))),oM 14 5,oO 15 (.bin .shr (.t 14) (.k (.c (.d (.int .u64 3))))),ak .and 16 15 7,oM 17 5,ak .and 18 17 7,oM 19 4,oO 20 (.callM 1000000007 [(.t 19),(kI 1)]),oO 21 (.conv .i64 (.t 20)),oM 22 4,oO 23 (.callM 1000000007 [(.t 22),(kI 1)]),oO 24 (.conv .i8 (.t 23)),oO 25 (.conv .i64 (.t 24)),oM 26 4,oO 27 (.callM 1000000007 [(.t 26),(kI 1)]),oO 28 (.conv .i8 (.t 27)),oO 29 (.conv .i64 (.t 28)),oM 30 4,oO 31 (.callM 1000000007 [(.t 30),(kI 4)]),
 oO 32 (.conv .u32 (.t 31)),oM 33 4,oO 34 (.callM 1000000007 [(.t 33),(kI 4)]),oO 35 (.conv .u32 (.t 34)),oM 36 4,oO 37 (.callM 1000000007 [(.t 36),(kI 4)]),oO 38 (.conv .u32 (.t 37)),oM 39 4,oO 40 (.callM 1000000007 [(.t 39),(kI 8)]),oM 41 4,oO 42 (.callM 1000000007 [(.t 41),(kI 8)]),oM 43 4,oO 44 (.callM 1000000007 [(.t 43),(kI 8)]),oM 45 4,oO 46 (.callM 1000000007 [(.t 45),(kI 8)]),oO 47 (.build [ah,ah,ah,ah,ah,ah,bh,bh,bh,aW,aW,aW,aW] [(0,1,(.t 13)),(1,1,(.t 16)),(2,1,(.t 18)),(3,1,(.t 21)),(4,1,(.t 25)),(5,1,(.t 29)),(6,1,(.t 32)),(7,1,(.t 35)),(8,1,(.t 38)),(9,1,(.t 40)),(10,1,(.t 42)),(11,1,(.t 44)),(12,1,(.t 46))]),aS 13 2 47] .ret)))),[(2,(some (.ag 13)))]⟩
theorem aky:aM Tryz.prog { mt:=[8,10,20,23,27,31,34,37,40,42,44,46] } Tryz.f132=some Tc:=by kernel_rfl
theorem anY (G:au) (l:List UInt8) (hl:l.length=48):aF Tryz.prog G 132 [.sl (l.map bD)] (.w (.c (.d (fC (d8 l))))):=by
  refine aX Tryz.func132 aky rfl rfl ?_;have hb:=by exact (show l.length≤9223372036854775807 by omega)
  have c0:=nX G l 0 1 1 1 rfl rfl (by omega) hb;have c1:=nX G l 1 1 2 1 rfl rfl (by omega) hb;have c2:=nX G l 2 1 3 1 rfl rfl (by omega) hb;have c3:=nX G l 3 1 4 1 rfl rfl (by omega) hb;have c4:=nX G l 4 4 8 4 rfl rfl (by omega) hb;have c5:=nX G l 8 4 12 4 rfl rfl (by omega) hb;have c6:=nX G l 12 4 16 4 rfl rfl (by omega) hb;have c7:=nX G l 16 8 24 8 rfl rfl (by omega) hb;have c8:=nX G l 24 8 32 8 rfl rfl (by omega) hb;have c9:=nX G l 32 8 40 8 rfl rfl (by omega) hb;have cA:=nX G l 40 8 48 8 rfl rfl (by omega) hb;rw[akw (by omega)] at c0 c1 c2 c3;have q4:=(jk 4 (aK l 4 4) (fp (by omega)) (by decide)).1;have q5:=(jk 4 (aK l 8 4) (fp (by omega)) (by decide)).1;have q6:=(jk 4 (aK l 12 4) (fp (by omega)) (by decide)).1;have b0:=(l.getD 0 0).toNat_lt;have b1:=(l.getD 1 0).toNat_lt;have s2:=QX (l.getD 2 0);have s3:=QX (l.getD 3 0);have i2:=PW (l.getD 2 0);have i3:=PW (l.getD 3 0);unfold d8 fC;dsimp only;rw[arm] at c0;generalize l.drop 1=L1 at *
  generalize l.drop 2=L2 at *
  generalize l.drop 3=L3 at *
  generalize l.drop 4=L4 at *
  generalize l.drop 8=L5 at *
  generalize l.drop 12=L6 at *
  generalize l.drop 16=L7 at *
  generalize l.drop 24=L8 at *
  generalize l.drop 32=L9 at *
  generalize l.drop 40=LA at *
  generalize l.drop 48=LB at *
  generalize pL (l.getD 2 0)=S2 at *
  generalize pL (l.getD 3 0)=S3 at *
  generalize (l.getD 0 0).toNat=N0 at *
  generalize (l.getD 1 0).toNat=N1 at *
  generalize (l.getD 2 0).toNat=N2 at *
  generalize (l.getD 3 0).toNat=N3 at *
  generalize bq (aK l 4 4)=N4 at *
  generalize bq (aK l 8 4)=N5 at *
  generalize bq (aK l 12 4)=N6 at *
  generalize bq (aK l 16 8)=N7 at *
  generalize bq (aK l 24 8)=N8 at *
  generalize bq (aK l 32 8)=N9 at *
  generalize bq (aK l 40 8)=NA at *
  have a1:=Tb (m:=N0 / 8) (by omega);have a2:=Tb b0;have d1:(N0:Int) / 64=((N0 / 64:Nat):Int):=(Int.natCast_ediv N0 64).symm;have d2:(N0:Int) / 8=((N0 / 8:Nat):Int):=(Int.natCast_ediv N0 8).symm;simp only[Tc,ai,gR,af,aa,seval];refine nW (id:=24) (pre:=[.p 24 1 0 0]) (post:=[]) (ws:=[.c (.d (.int .i64 1))]) c0 od rfl rfl (by simp only[af,seval]) rfl ?_;simp only[af,seval,iteOmega,toNatUp,IntKind.bits,d1,d2,a1,a2];refine nW (id:=24) (pre:=[.p 24 1 0 0]) (post:=[]) (ws:=[.c (.d (.int .i64 1))]) c1 od rfl rfl (by simp only[af,seval]) rfl ?_;simp only[af,seval,iteOmega];refine nW (id:=24) (pre:=[.p 24 1 0 0]) (post:=[]) (ws:=[.c (.d (.int .i64 1))]) c2 od rfl rfl (by simp only[af,seval]) rfl ?_;simp only[af,seval,iteOmega,s2];refine nW (id:=24) (pre:=[.p 24 1 0 0]) (post:=[]) (ws:=[.c (.d (.int .i64 1))]) c3 od rfl rfl (by simp only[af,seval]) rfl ?_;simp only[af,seval,iteOmega,s3];refine nW (id:=24) (pre:=[.p 24 1 0 0]) (post:=[]) (ws:=[.c (.d (.int .i64 4))]) c4 od rfl rfl (by simp only[af,seval]) rfl ?_;simp only[af,seval,iteOmega];refine nW (id:=24) (pre:=[.p 24 1 0 0]) (post:=[]) (ws:=[.c (.d (.int .i64 4))]) c5 od rfl rfl (by simp only[af,seval]) rfl ?_;simp only[af,seval,iteOmega];refine nW (id:=24) (pre:=[.p 24 1 0 0]) (post:=[]) (ws:=[.c (.d (.int .i64 4))]) c6 od rfl rfl (by simp only[af,seval]) rfl ?_;simp only[af,seval,iteOmega];refine nW (id:=24) (pre:=[.p 24 1 0 0]) (post:=[]) (ws:=[.c (.d (.int .i64 8))]) c7 od rfl rfl (by simp only[af,seval]) rfl ?_;simp only[af,seval];refine nW (id:=24) (pre:=[.p 24 1 0 0]) (post:=[]) (ws:=[.c (.d (.int .i64 8))]) c8 od rfl rfl (by simp only[af,seval]) rfl ?_;simp only[af,seval];refine nW (id:=24) (pre:=[.p 24 1 0 0]) (post:=[]) (ws:=[.c (.d (.int .i64 8))]) c9 od rfl rfl (by simp only[af,seval]) rfl ?_;simp only[af,seval];refine nW (id:=24) (pre:=[.p 24 1 0 0]) (post:=[]) (ws:=[.c (.d (.int .i64 8))]) cA od rfl rfl (by simp only[af,seval]) rfl ?_;simp only[af,aa,seval];exact aZ
def QY:aO:=⟨1,5,ae [oO 2 (.alloc [ah,ah,ah,ah,ah,ah,bh,bh,bh,aW,aW,aW,aW])] (ae [oM 3 0,oO 4 (.build [ah,ah,ah,ah,ah,ah,bh,bh,bh,aW,aW,aW,aW] [(1,1,(kI 4)),(2,1,(kI 3)),(4,1,(kI 6)),(12,1,(.t 3))]),aS 13 2 4] .ret),[(2,(some (.ag 13)))]⟩
theorem afz:aM Tryz.prog {} Tryz.f43=some QY:=by kernel_rfl
theorem akz (G:au) (t:Nat):aF Tryz.prog G 43 [.int .u64 (t:Int)] (.w (.c (.d (fC (ft t))))):=by
  refine aX Tryz.func43 afz rfl rfl ?_;unfold fC ft;simp only[QY,ai,af,aa,seval];exact aZ
def yp:aO:=⟨4,35,ae [cX 4 0,oO 8 (.alloc [ah,ah,ah,ah,ah,ah,bh,bh,bh,aW,aW,aW,aW]),am 9 0] (.seq (ae [bn 11 13 4,aY 12 100 11,oM 10 12] (ae [oM 13 10,ak .neq 14 13 0] (ar 14 (ae [oO 15 (.build [ah,ah,ah,ah,ah,ah,bh,bh,bh,aW,aW,aW,aW] []),oM 16 10,aS 13 8 15,oM 9 16] .ret) .skip))) (.seq (ae [aL 17 2 4,aA 18 17,ak .neq 19 18 3] (ar 19 (ae [oO 20 (.build [ah,ah,ah,ah,ah,ah,bh,bh,bh,aW,aW,aW,aW] []),aS 13 8 20,am 9 3] .ret) .skip)) (.seq (ae [oM 21 1,oO 22 (.call 101 [(kI 0),(.t 21),(kI 255)] none),cW 23 22] (ar 23 (ae [oO 24 (.build [ah,ah,ah,ah,ah,ah,bh,bh,bh,aW,aW,aW,aW] []),aS 13 8 24,am 9 4] .ret) .skip)) (ae [aL 25 1 4,aA 26 25,oM 27 1,aL 28 4 4,aA 29 28,aL 30 12 4,aA 31 30,oM 32 2,oM 33 3,oO 34 (.build [ah,ah,ah,ah,ah,ah,bh,bh,bh,aW,aW,aW,aW] [(1,1,(.t 26)),(2,1,(kI 4)),(3,1,(.t 27)),(4,1,(.t 29)),(5,1,(.k (.c (.d (.int .i64 (-20)))))),(10,1,(.t 31)),(11,1,(.t 32)),(12,1,(.t 33))]),
 aS 13 8 34,am 9 0] .ret)))),[(8,(some (.ag 13))),(9,none)]⟩
theorem afA:aM Tryz.prog {} Tryz.f49=some yp:=by kernel_rfl
theorem akA (G:au) (q:Hd) (st:Int) (rc tr:Nat):aF Tryz.prog G 49 [fC q,.int .i64 st,.int .u64 (rc:Int),.int .u64 (tr:Int)] (.tup [.c (.d (fC (KW q st rc tr))),.c (.d (.int .i64 (wX q st)))]):=by
  refine aX Tryz.func49 afA rfl rfl ?_;have c1:=Ta G q;have c2:=vT G 0 st 255;have he:wX q st=if mK q then (if q.md=3 then (if decide (0≤st∧st≤255)=true then 0 else 4) else 3) else 4:=by
    unfold wX; simp only[decide_eq_true_eq]
  unfold KW;rw[he];unfold jw at c1;generalize decide (0≤st∧st≤255)=b at *
  cases hv:mK q
  ·rw[hv] at c1;rw[if_neg (by decide:¬ false=true),if_neg (by decide:¬ (4:Int)=0)];rw[if_neg (by decide:¬ false=true)] at c1;unfold fC Hd.z at *
   simp only[yp,ai,af,seval];refine sD (c1) ?_;exact bz
  ·rw[hv,if_pos rfl] at c1;rw[if_pos rfl];by_cases hm:q.md=3
   ·rw[if_pos hm];cases b
    ·rw[if_neg (by decide:¬ false=true),if_neg (by decide:¬ (4:Int)=0)];unfold fC Hd.z at *
     simp only[yp,ai,af,seval];refine sD (c1) ?_;refine sD (c2) ?_;exact bz
    ·rw[if_pos rfl,if_pos rfl];unfold fC at *
     simp only[yp,ai,af,seval];refine sD (c1) ?_;refine sD (c2) ?_;exact bz
   ·rw[if_neg hm,if_neg (by decide:¬ (3:Int)=0)];unfold fC Hd.z at *
    simp only[yp,ai,af,seval];refine sD (c1) ?_;exact bz
def yq:aO:=⟨1,26,ae [oO 2 (.alloc [ah,ah,ah,ah,ah,ah,bh,bh,bh,aW,aW,aW,aW]),aQ 3,am 4 0] (.seq (ae [oM 5 0,bd 6 5,ak .lss 7 6 48] (ar 7 (ae [oO 8 (.build [ah,ah,ah,ah,ah,ah,bh,bh,bh,aW,aW,aW,aW] []),aS 13 2 8,aQ 3,am 4 1] .ret) .skip)) (.seq (ae [oM 9 0,bd 10 9,ak .gtr 11 10 1280] (ar 11 (ae [oO 12 (.build [ah,ah,ah,ah,ah,ah,bh,bh,bh,aW,aW,aW,aW] []),aS 13 2 12,aQ 3,am 4 2] .ret) .skip)) (ae [oM 13 0,oO 14 (.slice 1 (.t 13) none (some (kI 48)) none),aY 15 132 14,aS 13 2 15] (.seq (ae [aL 16 1 2,aA 17 16,aY 18 133 17,cW 19 18] (ar 19 (ae [oO 20 (.build [ah,ah,ah,ah,ah,ah,bh,bh,bh,aW,aW,aW,aW] []),aS 13 2 20,aQ 3,am 4 3] .ret) .skip)) (ae [bn 21 13 2,oM 22 0,oO 23 (.slice 1 (.t 22) (some (kI 48)) none none),
 oO 24 (.bldSl false 1 1 (.sl []) [(0,(.t 23))]),oO 25 (.call 35 [(.t 24)] (some (0,1))),aS 13 2 21,oM 3 25,am 4 0] .ret))))),[(2,(some (.ag 13))),(3,none),(4,none)]⟩
theorem afB:aM Tryz.prog { own:=[25] } Tryz.f92=some yq:=by kernel_rfl
theorem akB (G:au) (l:List UInt8) (hl:l.length≤9223372036854775807):aF Tryz.prog G 92 [.sl (l.map bD)] (.tup [.c (.d (fC (Ec l))),.c (.d (.sl ((Ed l).map bD))),.c (.d (.int .i64 (ix l)))]):=by
  refine aX Tryz.func92 afB rfl rfl ?_;unfold Ec Ed;by_cases h1:l.length<48
  ·rw[show ix l=1 from if_pos h1,if_neg (by decide),if_neg (by decide)];unfold fC Hd.z;simp only[yq,ai,af,aa,seval,iteOmega];exact lS (by simp only[af,seval]) (by simp only[af,seval] <;> rfl) (by simp only[af,seval])
  ·by_cases h2:1280<l.length
   ·rw[show ix l=2 from (if_neg h1).trans (if_pos h2),if_neg (by decide),if_neg (by decide)];unfold fC Hd.z;simp only[yq,ai,af,aa,seval,iteOmega];exact lS (by simp only[af,seval]) (by simp only[af,seval] <;> rfl) (by simp only[af,seval])
   ·have c1:=anY G (l.take 48) (by simp; omega);have e48:d8 (l.take 48)=d8 l:=by
      exact ab8 l (by omega)
    rw[e48] at c1;have c2:=S8 G (d8 l).vr;have cj:=dT G [l.drop 48] (by simp) (by simp; omega);simp only[apW,ap4,aqD,aqF,ap7] at cj;have et:(l.drop 48).take (l.length-48)=l.drop 48:=apX (by simp);have hv:decide (3≤(d8 l).vr∧(d8 l).vr≤4)=decide ((d8 l).vr=3∨(d8 l).vr=4):=by
      congr 1
      exact propext (by omega)
    rw[hv] at c2;have he:ix l=if decide ((d8 l).vr=3∨(d8 l).vr=4)=true then 0 else 3:=by
      unfold ix;rw[if_neg h1,if_neg h2];simp only[decide_eq_true_eq]
    rw[he];generalize decide ((d8 l).vr=3∨(d8 l).vr=4)=b at *
    generalize d8 l=q at *
    generalize hR:l.drop 48=R at *
    cases b
    ·rw[if_neg (by decide:¬ false=true),if_neg (by decide),if_neg (by decide)];unfold fC Hd.z at *
     simp only[yq,ai,af,seval,iteOmega,toNatUp];refine sD (c1) ?_;refine sD (c2) ?_;exact lS (by simp only[af,seval]) (by simp only[af,seval] <;> rfl) (by simp only[af,seval])
    ·rw[if_pos rfl,if_pos rfl,if_pos rfl];unfold fC at *
     simp only[yq,ai,af,seval,iteOmega,toNatUp];refine sD (c1) ?_;refine sC (c2) ?_;simp only[hR,et,af,seval,iteOmega,toNatUp];refine sD (cj) ?_;exact fj
theorem akC (z:Int):IntKind.u64.wrap z=(((z%18446744073709551616).toNat:Nat):Int):=by
  rw[IntKind.wrap_u64,Int.toNat_of_nonneg (arN _ (by decide))]
theorem akD (z:Int):aG (z%18446744073709551616).toNat 1=[eH z]:=by
  have h:=arN z (show (18446744073709551616:Int)≠0 by decide);have e:(z%18446744073709551616)%256=z%256:=Int.emod_emod_of_dvd z (by decide);unfold aG eH;rw[show List.range 1=[0] from rfl,apW,ap4,Nat.pow_zero,Nat.div_one]
  congr 1
  rw[← UInt8.toNat_inj,UInt8.toNat_ofNat',UInt8.toNat_ofNat'];omega
theorem Cy (G:au) (z:Int):aF Tryz.prog G 62 [.int .u64 (IntKind.u64.wrap z),.int .i64 1] (.w (.c (.fr 1 (([eH z]:List UInt8).map bD)))):=by
  have c:=Uc G (z%18446744073709551616).toNat 1;rw[show DY (z%18446744073709551616).toNat 1=[eH z] from akD z,← akC] at c;exact c
def HG:aO:=⟨1,62,ae [cX 1 0,aQ 2,am 3 0] (.seq (ae [bn 6 13 1,aY 7 100 6,oM 4 7] (ae [oM 8 4,ak .neq 9 8 0] (ar 9 (ae [oM 10 4,aQ 2,oM 3 10] .ret) .skip))) (ae [aL 11 0 1,aA 12 11,oO 13 (.bin .shl (.t 12) (.k (.c (.d (.int .u64 6))))),aL 14 1 1,aA 15 14,oO 16 (.bin .shl (.t 15) (.k (.c (.d (.int .u64 3))))),aU .or 17 13 16,aL 18 2 1,aA 19 18,aU .or 20 17 19,oM 5 20] (ae [oM 21 5,oO 22 (.conv .u64 (.t 21)),oO 23 (.call 62 [(.t 22),(kI 1)] none),aL 24 3 1,aA 25 24,oO 26 (.conv .u64 (.t 25)),oO 27 (.call 62 [(.t 26),(kI 1)] none),aL 28 4 1,aA 29 28,oO 30 (.conv .u64 (.t 29)),oO 31 (.call 62 [(.t 30),(kI 1)] none),aL 32 5 1,aA 33 32,oO 34 (.conv .u64 (.t 33)),oO 35 (.call 62 [(.t 34),(kI 1)] none),aL 36 6 1,aA 37 36,oO 38 (.conv .u64 (.t 37)),oO 39 (.call 62 [(.t 38),(kI 4)] none),
 aL 40 7 1,aA 41 40,oO 42 (.conv .u64 (.t 41)),oO 43 (.call 62 [(.t 42),(kI 4)] none),aL 44 8 1,aA 45 44,oO 46 (.conv .u64 (.t 45)),oO 47 (.call 62 [(.t 46),(kI 4)] none),aL 48 9 1,aA 49 48,oO 50 (.call 62 [(.t 49),(kI 8)] none),aL 51 10 1,aA 52 51,oO 53 (.call 62 [(.t 52),(kI 8)] none),aL 54 11 1,aA 55 54,oO 56 (.call 62 [(.t 55),(kI 8)] none),aL 57 12 1,aA 58 57,oO 59 (.call 62 [(.t 58),(kI 8)] none),oO 60 (.bldSl false 11 1 (.sl []) [(0,(.t 23)),(1,(.t 27)),(2,(.t 31)),(3,(.t 35)),(4,(.t 39)),(5,(.t 43)),(6,(.t 47)),(7,(.t 50)),(8,(.t 53)),(9,(.t 56)),(10,(.t 59))]),oO 61 (.call 35 [(.t 60)] (some (0,1))),oM 2 61,am 3 0] .ret))),[(2,none),(3,none)]⟩
theorem afC:aM Tryz.prog { own:=[61] } Tryz.f128=some HG:=by kernel_rfl
theorem akE (G:au) (h:Hd) (hf:sW h):aF Tryz.prog G 128 [fC h] (.tup [.c (.d (.sl ((Eb h).map bD))),.c (.d (.int .i64 (jw h)))]):=by
  refine aX Tryz.func128 afC rfl rfl ?_;have c1:=Ta G h;unfold Eb jw at *
  by_cases hv:mK h=true
  ·have hr:ut h:=of_decide_eq_true hv;rw[if_pos hv] at c1 ⊢;rw[if_pos hv];obtain⟨o1,o2,o3,o4,o5,o6,o7,o8,o9,o10,o11⟩:=hr;obtain⟨f1,f2,f3,f4,f5,f6,f7⟩:=hf;have p1:=Cy G (h.lp*64+h.vr*8+h.md);have p2:=Cy G h.st;have p3:=Cy G h.pl;have p4:=Cy G h.pr;rw[u64_in _ (by omega) (by omega)] at p1 p2;rw[RF] at p3 p4;have p5:=iJ G h.rd 4 (by decide);have p6:=iJ G h.rp 4 (by decide);have p7:=iJ G h.ri 4 (by decide);have p8:=iJ G h.rf 8 (by decide);have p9:=iJ G h.og 8 (by decide);have pA:=iJ G h.rc 8 (by decide);have pB:=iJ G h.tr 8 (by decide);rw[show (4:Int).toNat=4 from rfl] at p5 p6 p7;rw[show (8:Int).toNat=8 from rfl] at p8 p9 pA pB;have cj:=dT G [[eH (h.lp*64+h.vr*8+h.md)],[eH h.st],[eH h.pl],[eH h.pr],aG h.rd 4,aG h.rp 4,aG h.ri 4,aG h.rf 8,aG h.og 8,aG h.rc 8,aG h.tr 8] (by simp) (by simp[bS]);have ef:([[eH (h.lp*64+h.vr*8+h.md)],[eH h.st],[eH h.pl],[eH h.pr],aG h.rd 4,aG h.rp 4,aG h.ri 4,aG h.rf 8,aG h.og 8,aG h.rc 8,aG h.tr 8]:List (List UInt8)).flatten=fg h:=by
     unfold fg zT;simp only[aqD,aqF,ap7,aqE,aqz]
   rw[ef] at cj;have ho:=akv o1 o2 (v:=h.vr) (by omega) (by omega) o4 o5;unfold fC at *
   generalize fg h=B at *
   generalize aG h.rd 4=B5 at *
   generalize aG h.rp 4=B6 at *
   generalize aG h.ri 4=B7 at *
   generalize aG h.rf 8=B8 at *
   generalize aG h.og 8=B9 at *
   generalize aG h.rc 8=BA at *
   generalize aG h.tr 8=BB at *
   generalize [eH h.st]=B2 at *
   generalize [eH h.pl]=B3 at *
   generalize [eH h.pr]=B4 at *
   generalize hF:h.lp*64+h.vr*8+h.md=F at *
   generalize [eH F]=B1 at *
   simp only[apW,ap4] at cj;simp only[HG,ai,af,seval];refine sC (c1) ?_;simp only[ho,IntKind.bits,af,seval,iteOmega,toNatUp];refine sD (p1) ?_;refine sD (p2) ?_;refine sD (p3) ?_;refine sD (p4) ?_;refine sD (p5) ?_;refine sD (p6) ?_;refine sD (p7) ?_;refine sD (p8) ?_;refine sD (p9) ?_;refine sD (pA) ?_;refine sD (pB) ?_;refine sD (cj) ?_;exact bz
  ·have hv:mK h=false:=by simpa using hv
   rw[hv] at c1 ⊢;rw[if_neg (by decide:¬ false=true)] at c1;rw[if_neg (by decide:¬ false=true),if_neg (by decide:¬ false=true)];unfold fC at *
   simp only[HG,ai,af,seval];refine sD (c1) ?_;exact eM (by simp only[af,seval] <;> rfl) (by simp only[af,seval])
def fw (l:List Fd) (k:Int):Nat→List Int
  | 0=>[]
  | n+1=>fw l k n++(if (l.getD n default).ty=k then [(n:Int)] else [])
def bP (l:List Fd) (k:Int):List Int:=fw l k l.length
theorem HH (l:List Fd) (k:Int):∀ n,(fw l k n).length≤n
  | 0=>ap3 _
  | n+1=>by
    have:=HH l k n;rw[fw,apS];split <;> simp <;> omega
theorem Dm {l:List Fd} {k:Int} {n:Nat} (h:(l.getD n default).ty=k):fw l k (n+1)=fw l k n++[(n:Int)]:=by rw[fw,if_pos h]
theorem Dn {l:List Fd} {k:Int} {n:Nat} (h:(l.getD n default).ty≠k):fw l k (n+1)=fw l k n:=by rw[fw,if_neg h,ap7]
def Do (l:List Fd) (k:Int) (i:Nat):St:=⟨bw [(1,.w (.c (.d (.int .i64 k)))),(5,.w (.c (.own 1 1 0 (fw l k i).length))),(8,.w (.c (.d (.sl (l.map bf))))),(9,.w (.c (.d (.int .i64 (l.length:Int))))),(10,.w (.c (.d (.int .i64 (i:Int)))))],hL [(1,.row 1 ((fw l k i).map zD))],uL [1]⟩
def AH:bp := ae [aU .lss 11 10 9] (.seq (ar 11 .skip (.exit 0)) (.seq (.block 1 (ae [oM 12 10,bU 13 2 8 10,bn 14 2 13,oO 7 (.alloc [ah,.nil]),oM 6 12,aS 2 7 14] (ae [aL 15 0 7,aA 16 15,oM 17 1,aU .eql 18 16 17] (ar 18 (.reg [oM 19 5,oM 20 6,oO 21 (.bldSl false 1 1 dH [(0,(.t 20))]),oO 22 (.app false 1 8 (.t 19) (.t 21)),oM 5 22]) .skip)))) (.reg [ak .add 23 10 1,oM 10 23])))
def QZ:aO:=⟨2,25,ae [aQ 4] (ae [oO 5 (.nilOwn 1)] (.seq (ae [oM 8 0,bd 9 8,am 10 0] (.block 0 (.loop AH))) (ae [oM 24 5,oM 4 24] .ret))),[(4,none)]⟩
theorem afD:aM Tryz.prog { own:=[5] } Tryz.f45=some QZ:=by kernel_rfl
set_option maxHeartbeats 1600000 in
theorem rX (G:au) (l:List Fd) (k:Int) (hl:l.length≤1000000):aF Tryz.prog G 45 [.sl (l.map bf),.int .i64 k] (.w (.c (.d (.sl ((bP l k).map zD))))):=by
  refine aX Tryz.func45 afD rfl rfl ?_;have e0:fw l k 0=[]:=rfl;simp only[QZ,ai,af,seval];refine bO (Do l k) (fun i=>l.length-i) (fun i=>i≤l.length) 0 (apZ _) ?_ ?_
  ·refine aR (fun i=>40) ?_ ?_ rfl rfl <;> simp only[wx,aH,seval,e0]
  ·intro i hi;have hb:=HH l k i;have az:=Oa (fw l k i);by_cases hlt:i<l.length
   ·have g:=kM hlt;by_cases hk:(l.getD i default).ty=k
    ·have hs:=Dm hk;have hk':((l.getD i default).ty=k)=True:=eq_true hk;generalize l.getD i default=x at *
     simp only[AH,Do,af,aa,seval,iteOmega,toNatUp,bc,g,bf,hk',cg];refine bA (i+1) (by omega) (by omega) (aR (fun _=>176) ?_ ?_ rfl rfl) <;> simp only[hs,ap8,zD,wx,aH,aV,seval]
    ·have hs:=Dn hk;have hk':((l.getD i default).ty=k)=False:=eq_false hk;generalize l.getD i default=x at *
     simp only[AH,Do,af,aa,seval,iteOmega,toNatUp,bc,g,bf,hk'];refine bA (i+1) (by omega) (by omega) (aR (fun i=>i) ?_ ?_ rfl rfl) <;> simp only[hs,wx,aH,aV,seval]
   ·have hil:i=l.length:=by omega
    have e1:fw l k i=bP l k:=by rw[hil]; rfl
    simp only[AH,Do,af,seval,iteOmega,e1];exact aZ
theorem anZ (z:Nat):Int.tmod (z:Int) 4=((z%4:Nat):Int):=by
  rfl
theorem ab9 (l:List UInt8) (p:Nat):dO (l.drop p) 0=dO l p:=by
  unfold dO aK;rw[arx,aqO]
def mZ (rest z:Nat):Nat:=if jH rest z=0 then z else 0
def vD:aO:=⟨1,24,ae [am 2 0,am 3 0] (.seq (ae [oM 5 0,bd 6 5,ak .lss 7 6 4] (ar 7 (ae [am 2 0,am 3 1] .ret) .skip)) (ae [oM 8 0,oO 9 (.slice 1 (.t 8) (some (kI 2)) (some (kI 4)) none),aY 10 68 9,oO 11 (.conv .i64 (.t 10)),oM 4 11] (.seq (ae [oM 12 4,ak .rem 13 12 4,ak .neq 14 13 0,oM 15 14,bJ 16 4 15 false,cC .lss 17 16 16 15 false,cv 18 15 17] (ar 18 (ae [am 2 0,am 3 3] .ret) .skip)) (.seq (ae [oM 19 0,bd 20 19,oM 21 4,aU .lss 22 20 21] (ar 22 (ae [am 2 0,am 3 1] .ret) .skip)) (ae [oM 23 4,oM 2 23,am 3 0] .ret))))),[(2,none),(3,none)]⟩
theorem afE:aM Tryz.prog {} Tryz.f156=some vD:=by kernel_rfl
theorem akF (G:au) (l:List UInt8) (hl:l.length≤9000000000000000000):aF Tryz.prog G 156 [.sl (l.map bD)] (.tup [.c (.d (.int .i64 (mZ l.length (dO l 0):Int))),.c (.d (.int .i64 (jH l.length (dO l 0))))]):=by
  refine aX Tryz.func156 afE rfl rfl ?_;rcases aqk l.length 4 with h1 | h1
  ·have e:jH l.length (dO l 0)=1:=if_pos h1;have e2:mZ l.length (dO l 0)=0:=by unfold mZ; rw[e]; rfl
   rw[e,e2];simp only[vD,ai,af,seval,iteOmega];exact bz
  ·have c:=kH G (aK l 2 2) (by rw[fp (by omega)]; decide);have e0:dO l 0=bq (aK l 2 2):=rfl;have hz:=aiX l 0 (by omega);rw[← e0] at c;have ed:(l.drop 2).take (4-2)=aK l 2 2:=rfl;have hm:=anZ (dO l 0);generalize dO l 0=z at *
   have ef:jH l.length z=if z%4≠0∨z<16 then 3 else if l.length<z then 1 else 0:=if_neg (by omega)
   by_cases h2:z%4=0
   ·have g2:(((z%4:Nat):Int)=0)=True:=eq_true (by omega);rcases aqk z 16 with h3 | h3
    ·have e:jH l.length z=3:=by rw[ef,if_pos (.inr h3)]
     have e2:mZ l.length z=0:=by unfold mZ; rw[e]; rfl
     rw[e,e2];simp only[vD,ai,af,seval,iteOmega,toNatUp];refine bM c rfl (.inl rfl) ?_;simp only[af,seval,iteOmega,hm,g2];exact bz
    ·rcases aqk l.length z with h4 | h4
     ·have e:jH l.length z=1:=by rw[ef,if_neg (by omega),if_pos h4]
      have e2:mZ l.length z=0:=by unfold mZ; rw[e]; rfl
      rw[e,e2];simp only[vD,ai,af,seval,iteOmega,toNatUp];refine bM c rfl (.inl rfl) ?_;simp only[af,seval,iteOmega,hm,g2];exact bz
     ·have e:jH l.length z=0:=by rw[ef,if_neg (by omega),if_neg (by omega)]
      have e2:mZ l.length z=z:=if_pos e;rw[e,e2];simp only[vD,ai,af,seval,iteOmega,toNatUp];refine bM c rfl (.inl rfl) ?_;simp only[af,seval,iteOmega,hm,g2];exact bz
   ·have e:jH l.length z=3:=by rw[ef,if_pos (.inl h2)]
    have e2:mZ l.length z=0:=by unfold mZ; rw[e]; rfl
    have g2:(((z%4:Nat):Int)=0)=False:=eq_false (by omega);rw[e,e2];simp only[vD,ai,af,seval,iteOmega,toNatUp];refine bM c rfl (.inl rfl) ?_;simp only[af,seval,iteOmega,hm,g2];exact bz
def uB (sz:Nat):Nat→List D→List (Nat×Ob)
  | 0,_=>[(1,.box [.nil])]
  | _+1,es=>[(1,.box [.own 3 sz 0 es.length]),(3,.row sz es)]
theorem afF (sz n:Nat) (es:List D):((uB sz n es).all fun p=>p.2.ids.all fun j=>((uB sz n es).map (·.1)).contains j)=true:=by
  cases n <;> rfl
def wY (sz:Nat) (E:Nat→List D):Nat→aI
  | 0=>hL [(1,.box [.nil])]
  | k+1=>hL [(1,.box [.own 2 sz 0 (E (k+1)).length]),(2,.row sz (E (k+1)))]
def KX:Nat→Nat→Bool
  | 0=>uL [1]
  | _+1=>uL [1,2]
def wn (l:List UInt8) (F:Nat) (cs:List D) (sz:Nat) (E:Nat→List D) (k:Nat):St :=
  ⟨bw [(0,.w (.c (.d (.sl (l.map bD))))),(1,.w (.c (.cf F [] (cs.map Cp.d++[.p 1 1 0 0])))),(5,.w (.c (.d (.int .i64 (bN l k:Int))))),(6,.w (.c (.d (.int .i64 (k:Int)))))],wY sz E k,KX k⟩
theorem Q0 (F:Nat) (cs:List D) (m1:List (Nat×Ob)):KV [1] [(1,.box [.nil])] m1 [(1,.c (.cf F [] (cs.map Cp.d++[.p 1 1 0 0])))] :=
  ⟨by simp,fun id h _=>⟨_,apY.2 rfl,by simp at h; subst h; simp[W.lnk,Cp.ids,vx]⟩⟩
theorem BJ {σ:St} {x0:W} {x:Int} {F:Nat} {cs:List D} {sz:Nat} {E:Nat→List D} (k:Nat) (h1:σ.f 1=.w (.c (.cf F [] (cs.map Cp.d++[.p 1 1 0 0])))) (h4:σ.f 4=.w (.c (.d (.int .i64 x)))) (hh:σ.h=wY sz E k) :
    wj σ [(4,none)] [1] [x0,.c (.cf F [] (cs.map Cp.d++[.p 1 1 0 0]))] [(1,.box [.nil])] (.w (.c (.d (.int .i64 x)))) (uB sz k (E k)):=by
  cases k with
  | zero =>
    refine si [] [(1,.c (.cf F [] (cs.map Cp.d++[.p 1 1 0 0])))] (ws:=[.c (.d (.int .i64 x))]) ?_ rfl ?_ rfl ?_ (Q0 F cs _)
    ·simp only[bE,dd,h4,j9]
    ·rw[hh]; simp only[wY,kQ,uB,wx,aH,seval,dc]
    ·simp only[ru,h1,wx,seval,dc,ap8]
  | succ k =>
    refine si [(3,2)] [(1,.c (.cf F [] (cs.map Cp.d++[.p 1 1 0 0])))] (ws:=[.c (.d (.int .i64 x))]) ?_ rfl ?_ rfl ?_ (Q0 F cs _)
    ·simp only[bE,dd,h4,j9]
    ·rw[hh]; simp only[wY,kQ,uB,wx,aH,seval,dc]
    ·simp only[ru,h1,wx,seval,dc,ap8]
def kW (p z:Nat) (cs:List D):List W:=.c (.d (.int .i64 (p:Int)))::.c (.d (.int .i64 (z:Int)))::(cs.map (fun x=>W.c (.d x))++[.c (.ptr 1 1 0 0)])
theorem afG {p z:Nat} {cs:List D} {a b c:Ob}:sP (kW p z cs) [(1,a)] [(1,b),(3,c)]=true:=by simp[sP,kW,W.ids,C.ids]
theorem aca {p z sz:Nat} {cs e:List D} {a b c:Ob}:sP (kW p z cs) [(1,a),(2,.row sz e)] [(1,b),(3,c)]=true:=by simp[sP,kW,fe,W.ids,C.ids]
def uT:bp := .seq (ae [oM 12 5,oM 13 0,bd 14 13,aU .lss 15 12 14] (ar 15 .skip (.exit 0))) (.seq (.block 1 (ae [oM 19 0,oM 20 5,oO 21 (.slice 1 (.t 19) (some (.t 20)) none none),aY 22 156 21,oM 18 22,aC 23 18 0,aC 24 18 1,oM 7 23,oM 8 24] (.seq (ae [oM 25 8,ak .neq 26 25 0] (ar 26 (ae [oM 27 8,oM 4 27] .ret) .skip)) (.seq (ae [oM 28 6,ak .eql 29 28 24] (ar 29 (ae [am 4 8] .ret) .skip)) (ae [oM 30 1,oM 31 5,oM 32 7,oO 33 (.callM 1000000007 [(.t 30),(.t 31),(.t 32)])] (.reg [oM 34 5,oM 35 7,aU .add 36 34 35,oM 5 36])))))) (.reg [oM 16 6,ak .add 17 16 1,oM 6 17]))
def HI:aO:=⟨2,37,ae [am 4 0] (.seq (ae [oM 9 0,bd 10 9,ak .gtr 11 10 1232] (ar 11 (ae [am 4 2] .ret) .skip)) (ae [am 5 0] (.seq (ae [am 6 0] (.block 0 (.loop uT))) (ae [am 4 0] .ret)))),[(4,none)]⟩
theorem afH:aM Tryz.prog { mt:=[33],mv:=true } Tryz.f134=some HI:=by kernel_rfl
theorem Td (G:au) (l:List UInt8) (hl:l.length≤9000000000000000000) (F:FuncId) (cs:List D) (sz:Nat) (E:Nat→List D) (he:∀ (args:Array Value) (w:World),(callFunc F args).run Tryz.prog w=.ok (.enter F args) w)
    (h0:0<ju l→kL Tryz.prog G F (kW (bN l 0) (dO l (bN l 0)) cs) [(1,.box [.nil])] (.tup []) [(1,.box [.own 3 sz 0 (E 1).length]),(3,.row sz (E 1))])
    (hs:∀ k,k+1<ju l→kL Tryz.prog G F (kW (bN l (k+1)) (dO l (bN l (k+1))) cs) [(1,.box [.own 2 sz 0 (E (k+1)).length]),(2,.row sz (E (k+1)))] (.tup []) [(1,.box [.own 3 sz 0 (E (k+2)).length]),(3,.row sz (E (k+2)))]) :
    kL Tryz.prog G 134 [.c (.d (.sl (l.map bD))),.c (.cf F [] (cs.map Cp.d++[.p 1 1 0 0]))] [(1,.box [.nil])] (.w (.c (.d (.int .i64 (fk l))))) (uB sz (ju l) (E (ju l))):=by
  refine uQ Tryz.func134 afH [1] rfl rfl rfl (by simp[W.ids,C.ids,Cp.ids,vx]) (afF _ _ _) rfl rfl ?_;have hlnk:∀ m1,KV [1] [(1,.box [.nil])] m1 [(1,.c (.cf F [] (cs.map Cp.d++[.p 1 1 0 0])))]:=fun m1=>⟨by simp,fun id h _=>⟨_,apY.2 rfl,by simp at h; subst h; simp[W.lnk,Cp.ids,vx]⟩⟩
  rcases aqk 1232 l.length with h1 | h1
  ·have e1:fk l=2:=if_pos h1;have e2:ju l=0:=if_pos h1;rw[e1,e2];have g1:((l.length:Int)>1232)=True:=eq_true (by omega);simp only[HI,iM,uB,lg,af,seval,g1];exact BJ (E:=E) (sz:=sz) 0 (by simp only[af,seval]) (by simp only[af,seval]) rfl
  ·have eN:ju l=fT l:=if_neg (by omega);have eE:fk l=(fN l (fT l)).getD 0:=if_neg (by omega);obtain⟨c1,c2,c3⟩:=vq l;rw[eN] at h0 hs ⊢;have g1:((l.length:Int)>1232)=False:=eq_false (by omega);simp only[HI,iM,af,seval,g1];refine bO (wn l F cs sz E) (fun k=>fT l-k) (fun k=>k≤fT l) 0 (apZ _) ?_ ?_
   ·refine aR (fun i=>i) ?_ ?_ rfl (by simp[V.ids,W.ids,C.ids,Ob.ids,Cp.ids,vx]) <;> simp only[bN,wx,aH,seval,dc,ap8]
   ·intro k hk;have hp:=Iv l k hk;have cf:=akF G (l.drop (bN l k)) (by simp; omega);rw[ab9,ap5] at cf;have et:(l.drop (bN l k)).take (l.length-bN l k)=l.drop (bN l k):=apX (by simp);have hend:∀ x,fN l k=some x→fT l=k∧fk l=x:=fun x hx=>by
      have e:fT l=k:=by
        rcases aqk k (fT l) with h | h
        ·rw[c3 k h] at hx; cases hx
        ·omega
      exact⟨e,by rw[eE,e,hx]; rfl⟩
    cases hst:fN l k with
    | some x =>
      obtain⟨e1,e2⟩:=hend x hst;rw[e1,e2];clear hend e1 e2 hs h0 c3 c2 eE eN;unfold fN at hst;split at hst
      ·rename_i q1;obtain rfl:=Option.some.inj hst;simp only[uT,wn,lg,af,seval,iteOmega];exact BJ k (by simp only[af,seval]) (by simp only[af,seval]) rfl
      ·rename_i q1;have q1':(bN l k:Int)<(l.length:Int):=by omega
       split at hst
       ·rename_i q2;obtain rfl:=Option.some.inj hst;have q3:(jH (l.length-bN l k) (dO l (bN l k))=0)=False:=eq_false q2;generalize jH (l.length-bN l k) (dO l (bN l k))=e at *
        generalize mZ (l.length-bN l k) (dO l (bN l k))=z at *
        simp only[uT,wn,af,seval,iteOmega,toNatUp,et];refine sC (cf) ?_;simp only[q3,lg,af,seval];exact BJ k (by simp only[af,seval]) (by simp only[af,seval]) rfl
       ·rename_i q2;have q2:jH (l.length-bN l k) (dO l (bN l k))=0:=by simpa using q2
        rw[q2] at cf;split at hst
        ·rename_i q3;obtain rfl:=Option.some.inj hst;have q4:((k:Int)=24)=True:=eq_true (by omega);generalize mZ (l.length-bN l k) (dO l (bN l k))=z at *
         simp only[uT,wn,af,seval,iteOmega,toNatUp,et];refine sC (cf) ?_;simp only[q4,lg,af,seval];exact BJ k (by simp only[af,seval]) (by simp only[af,seval]) rfl
        ·cases hst
    | none =>
      obtain⟨q1,q2,q3⟩:=Od hst;obtain⟨q4,q5,q6,_⟩:=Iu hst;have hkc:k<fT l:=by
        rcases aqk k (fT l) with h | h
        ·exact h
        ·have:fT l=k:=by omega
         rw[this,hst] at c2; cases c2
      have ez:mZ (l.length-bN l k) (dO l (bN l k))=dO l (bN l k):=if_pos q2;rw[q2,ez] at cf;have q1':(bN l k:Int)<(l.length:Int):=by omega
      have hpl:bN l (k+1)=bN l k+dO l (bN l k):=rfl;have q7:((k:Int)=24)=False:=eq_false (by omega);rcases k with _ | k
      ·have hc:=h0 (by omega);clear hend hs h0 c3 c2 eE eN hst;generalize dO l (bN l 0)=z at *
       simp only[uT,wn,wY,KX,af,seval,iteOmega,toNatUp,et];refine sC (cf) ?_;simp only[af,seval];refine Ux (pre:=[]) (post:=cs.map Cp.d++[.p 1 1 0 0]) [.c (.d (.int .i64 (bN l 0:Int))),.c (.d (.int .i64 (z:Int)))] [(3,1000)] hc he ?_ ?_ ?_ rfl rfl ?_ (hdir:=afG)
       ·simp only[af,seval]
       ·simp only[kW,af,seval,dc,ap8]
       ·simp only[wx,aH,seval,dc]
       ·simp only[af,seval,iteOmega,dc];refine bA 1 (by omega) (by omega) (aR (fun i=>if i=2 then 1000 else i) ?_ ?_ rfl (by simp[V.ids,W.ids,C.ids,Ob.ids,Cp.ids,vx])) <;> simp only[hpl,wx,aH,aV,seval,dc,ap8]
      ·have hc:=hs k (by omega);clear hend hs h0 c3 c2 eE eN hst;have q8:((k:Int)+1=24)=False:=eq_false (by omega);generalize dO l (bN l (k+1))=z at *
       simp only[uT,wn,wY,KX,af,seval,iteOmega,toNatUp,et];refine sC (cf) ?_;simp only[q8,af,seval];refine Ux (pre:=[]) (post:=cs.map Cp.d++[.p 1 1 0 0]) [.c (.d (.int .i64 (bN l (k+1):Int))),.c (.d (.int .i64 (z:Int)))] [(3,1000)] hc he ?_ ?_ ?_ rfl rfl ?_ (hdir:=aca)
       ·simp only[af,seval]
       ·simp only[kW,af,seval,dc,ap8]
       ·simp only[wx,aH,seval,dc]
       ·simp only[af,seval,iteOmega,dc];refine bA (k+1+1) (by omega) (by omega) (aR (fun i=>if i=2 then 1000 else i) ?_ ?_ rfl (by simp[V.ids,W.ids,C.ids,Ob.ids,Cp.ids,vx])) <;> simp only[hpl,wx,aH,aV,seval,dc,ap8]
def sR (l:List UInt8) (p z:Nat):Fd:=⟨(bq (aK l p 2):Int),aK l (p+4) (z-4)⟩
theorem Te {l:List UInt8} {p z:Nat} (h4:4≤z) (hz:p+z≤l.length):((l.drop p).take (p+z-p)).length=z∧((l.drop p).take (p+z-p)).take 2=aK l p 2∧(((l.drop p).take (p+z-p)).drop 4).take (z-4)=aK l (p+4) (z-4):=by
  rw[arA];refine⟨by simp; omega,?_,?_⟩
  ·rw[arU,aq0 (by omega)]; rfl
  ·rw[List.drop_take,arU,Nat.min_self,arx]; rfl
def HJ:aO:=⟨4,25,ae [aA 7 2,oM 8 0,oM 9 0,oM 10 1,aU .add 11 9 10,oO 12 (.slice 1 (.t 7) (some (.t 8)) (some (.t 11)) none),oM 6 12] (.reg [aA 13 3,oM 14 6,oO 15 (.slice 1 (.t 14) none (some (kI 2)) none),aY 16 68 15,oO 17 (.conv .i64 (.t 16)),oM 18 6,oO 19 (.slice 1 (.t 18) (some (kI 4)) none none),oO 20 (.bldSl false 1 1 (.sl []) [(0,(.t 19))]),aY 21 35 20,oO 22 (.build [ah,.nil] [(0,1,(.t 17)),(1,1,(.t 21))]),oO 23 (.bldSl false 1 2 (.agg [dH,(.sl [])]) [(0,(.t 22))]),oO 24 (.app false 2 32 (.t 13) (.t 23)),d6 3 24]),[]⟩
theorem Q1:aM Tryz.prog {} Tryz.f135=some HJ:=by kernel_rfl
theorem akG (G:au) (l:List UInt8) (p z:Nat) (h4:4≤z) (hz:p+z≤l.length) (hl:l.length≤1232):kL Tryz.prog G 135 (kW p z [.ref [.sl (l.map bD)]]) [(1,.box [.nil])] (.tup []) [(1,.box [.own 3 2 0 1]),(3,.row 2 [bf (sR l p z)])]:=by
  unfold kW;refine uQ Tryz.func135 Q1 [3] rfl rfl rfl rfl rfl rfl rfl ?_;have c1:=kH G (aK l p 2) (by rw[fp (by omega)]; decide);have hty:=(jk 2 (aK l p 2) (fp (by omega)) (by decide)).1;have cj:=dT G [aK l (p+4) (z-4)] (by simp) (by simp[fp (show p+4+(z-4)≤l.length by omega)]; omega);simp only[apW,ap4,aqD,aqF,ap7] at cj;obtain⟨q0,q1,q2⟩:=Te h4 hz;unfold sR bf;generalize bq (aK l p 2)=ty at *
  generalize aK l p 2=B1 at *
  generalize aK l (p+4) (z-4)=B2 at *
  simp only[HJ,iM,af,seval,iteOmega,toNatUp,q0,q1];refine sC (c1) ?_;simp only[q0,q2,af,seval,iteOmega,toNatUp];refine sC (cj) ?_;simp only[cg,nj,af,aa,seval];refine si [(3,192)] [(3,.c (.ptr 1 1 0 0))] (ws:=[]) rfl rfl ?_ rfl ?_ ⟨by simp,fun id h _=>⟨_,apY.2 rfl,by simp at h; subst h; simp[W.lnk]⟩⟩ <;> simp only[ru,wx,aH,seval,dc]
theorem akH (G:au) (l:List UInt8) (p z:Nat) (h4:4≤z) (hz:p+z≤l.length) (hl:l.length≤1232) (es:List Fd) (he:es.length≤24):kL Tryz.prog G 135 (kW p z [.ref [.sl (l.map bD)]]) [(1,.box [.own 2 2 0 (es.map bf).length]),(2,.row 2 (es.map bf))] (.tup []) [(1,.box [.own 3 2 0 ((es++[sR l p z]).map bf).length]),(3,.row 2 ((es++[sR l p z]).map bf))]:=by
  unfold kW;refine uQ Tryz.func135 Q1 [3] rfl rfl rfl rfl rfl rfl rfl ?_;have c1:=kH G (aK l p 2) (by rw[fp (by omega)]; decide);have hty:=(jk 2 (aK l p 2) (fp (by omega)) (by decide)).1;have cj:=dT G [aK l (p+4) (z-4)] (by simp) (by simp[fp (show p+4+(z-4)≤l.length by omega)]; omega);simp only[apW,ap4,aqD,aqF,ap7] at cj;obtain⟨q0,q1,q2⟩:=Te h4 hz;rw[show (es++[sR l p z]).map bf=es.map bf++[bf (sR l p z)] by simp];unfold sR;rw[show bf ⟨(bq (aK l p 2):Int),aK l (p+4) (z-4)⟩=.agg [.int .i64 (bq (aK l p 2):Int),.sl ((aK l (p+4) (z-4)).map bD)] from rfl];generalize bq (aK l p 2)=ty at *
  generalize aK l p 2=B1 at *
  generalize aK l (p+4) (z-4)=B2 at *
  have hel:(es.map bf).length≤24:=by simpa using he
  generalize es.map bf=E at *
  simp only[HJ,iM,af,seval,iteOmega,toNatUp,q0,q1];refine sC (c1) ?_;simp only[q0,q2,af,seval,iteOmega,toNatUp];refine sC (cj) ?_;simp only[cg,nj,af,aa,seval,iteOmega];refine si [(3,192)] [(3,.c (.ptr 1 1 0 0))] (ws:=[]) rfl rfl ?_ rfl ?_ ⟨by simp,fun id h _=>⟨_,apY.2 rfl,by simp at h; rcases h with rfl | rfl <;> simp[W.lnk] at *⟩⟩ <;> simp only[ru,wx,aH,seval,dc]
theorem akI:∀ (args:Array Value) (w:World),(callFunc 135 args).run Tryz.prog w=.ok (.enter 135 args) w:=enters_of Tryz.func135 (by kernel_rfl) rfl
def HK:aO:=⟨3,9,.reg [aA 5 2,oM 6 0,oO 7 (.bldSl false 1 1 dH [(0,(.t 6))]),oO 8 (.app false 1 8 (.t 5) (.t 7)),d6 2 8],[]⟩
theorem Q2:aM Tryz.prog {} Tryz.f136=some HK:=by kernel_rfl
theorem akJ (G:au) (p z:Nat):kL Tryz.prog G 136 (kW p z []) [(1,.box [.nil])] (.tup []) [(1,.box [.own 3 1 0 1]),(3,.row 1 [.int .i64 (p:Int)])]:=by
  unfold kW;refine uQ Tryz.func136 Q2 [2] rfl rfl rfl rfl rfl rfl rfl ?_;simp only[HK,iM,nj,cg,af,aa,seval];refine si [(3,64)] [(2,.c (.ptr 1 1 0 0))] (ws:=[]) rfl rfl ?_ rfl ?_ ⟨by simp,fun id h _=>⟨_,apY.2 rfl,by simp at h; subst h; simp[W.lnk]⟩⟩ <;> simp only[ru,wx,aH,seval,dc]
theorem akK (G:au) (p z:Nat) (es:List Int) (he:es.length≤24):kL Tryz.prog G 136 (kW p z []) [(1,.box [.own 2 1 0 (es.map zD).length]),(2,.row 1 (es.map zD))] (.tup []) [(1,.box [.own 3 1 0 ((es++[(p:Int)]).map zD).length]),(3,.row 1 ((es++[(p:Int)]).map zD))]:=by
  unfold kW;refine uQ Tryz.func136 Q2 [2] rfl rfl rfl rfl rfl rfl rfl ?_;rw[show (es++[(p:Int)]).map zD=es.map zD++[zD (p:Int)] by simp];have hel:(es.map zD).length≤24:=by simpa using he
  generalize es.map zD=E at *
  unfold zD;simp only[HK,iM,nj,cg,af,aa,seval,iteOmega];refine si [(3,64)] [(2,.c (.ptr 1 1 0 0))] (ws:=[]) rfl rfl ?_ rfl ?_ ⟨by simp,fun id h _=>⟨_,apY.2 rfl,by simp at h; rcases h with rfl | rfl <;> simp[W.lnk] at *⟩⟩ <;> simp only[ru,wx,aH,seval,dc]
theorem akL:∀ (args:Array Value) (w:World),(callFunc 136 args).run Tryz.prog w=.ok (.enter 136 args) w:=enters_of Tryz.func136 (by kernel_rfl) rfl
theorem Cz (l:List UInt8):ju l≤24∧∀ k,k<ju l→l.length≤1232∧k<fT l:=by
  have h:=(vq l).1;unfold ju;split
  ·exact⟨by omega,fun k hk=>by omega⟩
  ·exact⟨h,fun k hk=>⟨by omega,hk⟩⟩
theorem Tf {l:List UInt8} {k:Nat} (hk:k<ju l):l.length≤1232∧4≤dO l (bN l k)∧bN l k+dO l (bN l k)≤l.length:=by
  obtain⟨h1,h2⟩:=(Cz l).2 k hk;have:=Iu ((vq l).2.2 k h2);omega
def yr:aO:=⟨1,13,ae [cX 1 0,aQ 2,am 3 0] (ae [oO 4 (.alloc [.nil])] (ae [aA 6 1,oO 7 (.closM 135 [] [(.t 1),(.t 4)]),oO 8 (.callM 134 [(.t 6),(.t 7)]),oM 5 8] (.seq (ae [oM 9 5,ak .neq 10 9 0] (ar 10 (ae [oM 11 5,aQ 2,oM 3 11] .ret) .skip)) (ae [aA 12 4,oM 2 12,am 3 0] .ret)))),[(2,none),(3,none)]⟩
theorem afI:aM Tryz.prog { mt:=[7,8] } Tryz.f93=some yr:=by kernel_rfl
theorem Tg (G:au) (l:List UInt8) (hl:l.length≤9000000000000000000):aF Tryz.prog G 93 [.sl (l.map bD)] (.tup [.c (.d (.sl ((cK l).map bf))),.c (.d (.int .i64 (fk l)))]):=by
  refine aX Tryz.func93 afI rfl rfl ?_;have c:=Td G l hl _ [.ref [.sl (l.map bD)]] 2 (fun k=>(kR l k).map bf) akI (fun h=>by
    obtain⟨h1,h2,h3⟩:=Tf h;exact akG G l (bN l 0) (dO l (bN l 0)) h2 h3 h1) (fun k h=>by
    obtain⟨h1,h2,h3⟩:=Tf h;have h4:=(Cz l).1;have:=akH G l (bN l (k+1)) (dO l (bN l (k+1))) h2 h3 h1 (kR l (k+1)) (by rw[Hk]; omega);rw[show kR l (k+1)++[sR l (bN l (k+1)) (dO l (bN l (k+1)))]=kR l (k+2) from (aaY l (k+1)).symm] at this;exact this)
  have hx:cK l=if fk l=0 then kR l (ju l) else []:=rfl
  rw[hx];generalize fk l=e at *
  cases hn:ju l with
  | zero =>
    rw[hn] at c;have c:kL Tryz.prog G _ [.c (.d (.sl (l.map bD))),.c (.cf 135 [] [.d (.ref [.sl (l.map bD)]),.p 1 1 0 0])] [(1,.box [.nil])] (.w (.c (.d (.int .i64 e)))) [(1,.box [.nil])]:=c;have hr:kR l 0=[]:=rfl;rw[hr,show (if e=0 then ([]:List Fd) else [])=[] by split <;> rfl];by_cases he:e=0
    ·have he':(e=0)=True:=eq_true he;simp only[yr,ai,gR,af,seval];refine pD [.c (.d (.sl (l.map bD))),.c (.cf 135 [] [.d (.ref [.sl (l.map bD)]),.p 32 1 0 0])] [(1,32)] c ?_ ?_ ?_ rfl rfl ?_
     ·simp only[af,seval]
     ·simp only[af,seval,dc]
     ·simp only[wx,aH,seval,dc]
     ·simp only[dc,af,seval,he'];rw[he];exact eM (by simp only[af,seval]; try rfl) (by simp only[af,seval])
    ·have he':(e=0)=False:=eq_false he;simp only[yr,ai,gR,af,seval];refine pD [.c (.d (.sl (l.map bD))),.c (.cf 135 [] [.d (.ref [.sl (l.map bD)]),.p 32 1 0 0])] [(1,32)] c ?_ ?_ ?_ rfl rfl ?_
     ·simp only[af,seval]
     ·simp only[af,seval,dc]
     ·simp only[wx,aH,seval,dc]
     ·simp only[dc,af,seval,he'];exact eM (by simp only[af,seval]; try rfl) (by simp only[af,seval])
  | succ n =>
    rw[hn] at c;have c:kL Tryz.prog G _ [.c (.d (.sl (l.map bD))),.c (.cf 135 [] [.d (.ref [.sl (l.map bD)]),.p 1 1 0 0])] [(1,.box [.nil])] (.w (.c (.d (.int .i64 e)))) [(1,.box [.own 3 2 0 ((kR l (n+1)).map bf).length]),(3,.row 2 ((kR l (n+1)).map bf))]:=c;by_cases he:e=0
    ·rw[if_pos he];have he':(e=0)=True:=eq_true he;simp only[yr,ai,gR,af,seval];refine pD [.c (.d (.sl (l.map bD))),.c (.cf 135 [] [.d (.ref [.sl (l.map bD)]),.p 32 1 0 0])] [(1,32),(3,1000)] c ?_ ?_ ?_ rfl rfl ?_
     ·simp only[af,seval]
     ·simp only[af,seval,dc]
     ·simp only[wx,aH,seval,dc]
     ·simp only[dc,af,seval,he'];rw[he];exact eM (by simp only[af,seval,iteOmega]; try rfl) (by simp only[af,seval])
    ·rw[if_neg he];have he':(e=0)=False:=eq_false he;simp only[yr,ai,gR,af,seval];refine pD [.c (.d (.sl (l.map bD))),.c (.cf 135 [] [.d (.ref [.sl (l.map bD)]),.p 32 1 0 0])] [(1,32),(3,1000)] c ?_ ?_ ?_ rfl rfl ?_
     ·simp only[af,seval]
     ·simp only[af,seval,dc]
     ·simp only[wx,aH,seval,dc]
     ·simp only[dc,af,seval,he'];exact eM (by simp only[af,seval]; try rfl) (by simp only[af,seval])
def yt:aO:=⟨1,13,ae [aQ 2,am 3 0] (ae [oO 4 (.alloc [.nil])] (ae [oM 6 0,oO 7 (.closM 136 [] [(.t 4)]),oO 8 (.callM 134 [(.t 6),(.t 7)]),oM 5 8] (.seq (ae [oM 9 5,ak .neq 10 9 0] (ar 10 (ae [oM 11 5,aQ 2,oM 3 11] .ret) .skip)) (ae [aA 12 4,oM 2 12,am 3 0] .ret)))),[(2,none),(3,none)]⟩
theorem afJ:aM Tryz.prog { mt:=[7,8] } Tryz.f99=some yt:=by kernel_rfl
theorem akM (G:au) (l:List UInt8) (hl:l.length≤9000000000000000000):aF Tryz.prog G 99 [.sl (l.map bD)] (.tup [.c (.d (.sl ((oF l).map zD))),.c (.d (.int .i64 (fk l)))]):=by
  refine aX Tryz.func99 afJ rfl rfl ?_;have c:=Td G l hl _ [] 1 (fun k=>(ka l k).map zD) akL (fun h=>akJ G (bN l 0) (dO l (bN l 0))) (fun k h=>by
    have h4:=(Cz l).1;have:=akK G (bN l (k+1)) (dO l (bN l (k+1))) (ka l (k+1)) (by rw[adW]; omega);rw[show ka l (k+1)++[(bN l (k+1):Int)]=ka l (k+2) from (aaZ l (k+1)).symm] at this;exact this)
  have hx:oF l=if fk l=0 then ka l (ju l) else []:=rfl
  rw[hx];generalize fk l=e at *
  cases hn:ju l with
  | zero =>
    rw[hn] at c;have c:kL Tryz.prog G _ [.c (.d (.sl (l.map bD))),.c (.cf 136 [] [.p 1 1 0 0])] [(1,.box [.nil])] (.w (.c (.d (.int .i64 e)))) [(1,.box [.nil])]:=c;have hr:ka l 0=[]:=rfl;rw[hr,show (if e=0 then ([]:List Int) else [])=[] by split <;> rfl];by_cases he:e=0
    ·have he':(e=0)=True:=eq_true he;simp only[yt,ai,gR,af,seval];refine pD [.c (.d (.sl (l.map bD))),.c (.cf 136 [] [.p 32 1 0 0])] [(1,32)] c ?_ ?_ ?_ rfl rfl ?_
     ·simp only[af,seval]
     ·simp only[af,seval,dc]
     ·simp only[wx,aH,seval,dc]
     ·simp only[dc,af,seval,he'];rw[he];exact eM (by simp only[af,seval]; try rfl) (by simp only[af,seval])
    ·have he':(e=0)=False:=eq_false he;simp only[yt,ai,gR,af,seval];refine pD [.c (.d (.sl (l.map bD))),.c (.cf 136 [] [.p 32 1 0 0])] [(1,32)] c ?_ ?_ ?_ rfl rfl ?_
     ·simp only[af,seval]
     ·simp only[af,seval,dc]
     ·simp only[wx,aH,seval,dc]
     ·simp only[dc,af,seval,he'];exact eM (by simp only[af,seval]; try rfl) (by simp only[af,seval])
  | succ n =>
    rw[hn] at c;have c:kL Tryz.prog G _ [.c (.d (.sl (l.map bD))),.c (.cf 136 [] [.p 1 1 0 0])] [(1,.box [.nil])] (.w (.c (.d (.int .i64 e)))) [(1,.box [.own 3 1 0 ((ka l (n+1)).map zD).length]),(3,.row 1 ((ka l (n+1)).map zD))]:=c;by_cases he:e=0
    ·rw[if_pos he];have he':(e=0)=True:=eq_true he;simp only[yt,ai,gR,af,seval];refine pD [.c (.d (.sl (l.map bD))),.c (.cf 136 [] [.p 32 1 0 0])] [(1,32),(3,1000)] c ?_ ?_ ?_ rfl rfl ?_
     ·simp only[af,seval]
     ·simp only[af,seval,dc]
     ·simp only[wx,aH,seval,dc]
     ·simp only[dc,af,seval,he'];rw[he];exact eM (by simp only[af,seval,iteOmega]; try rfl) (by simp only[af,seval])
    ·rw[if_neg he];have he':(e=0)=False:=eq_false he;simp only[yt,ai,gR,af,seval];refine pD [.c (.d (.sl (l.map bD))),.c (.cf 136 [] [.p 32 1 0 0])] [(1,32),(3,1000)] c ?_ ?_ ?_ rfl rfl ?_
     ·simp only[af,seval]
     ·simp only[af,seval,dc]
     ·simp only[wx,aH,seval,dc]
     ·simp only[dc,af,seval,he'];exact eM (by simp only[af,seval]; try rfl) (by simp only[af,seval])



theorem apF {l:List Int} {i:Nat} (h:i<l.length):l[i]?=some (l.getD i 0):=by
  rw[apT,apR h]; rfl
end Go.Proofs.YtnjhelpgohdajaaGreatDoor
