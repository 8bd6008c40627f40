/- Texts of one's own, merged: from: Layer 17 on data: the program: sizes,bytes. Own work. -/
import Derived.Test.YtofonnokanoflaaGreatDoorProg
import Derived.Test.YtofonnokanoflaaGreatDoorMt17
import Derived.Test.YtofonnokanoflaaGreatDoorMt115
import Derived.Test.YtofonnokanoflaaGreatDoorMt110
import Derived.Test.YtofonnokanoflaaGreatDoorMt111
import Derived.Test.YtofonnokanoflaaGreatDoorMt19
set_option linter.unusedVariables false
set_option linter.unusedSimpArgs false
namespace Go.Proofs.YtofonnokanoflaaGreatDoor
open Go.RowKit IntWalk
set_option maxHeartbeats 3200000
theorem lU {l:List Fd} {i:Nat} (h:i<l.length):l[i]?=some (l.getD i default):=by
  rw[aor,aon h]; rfl
theorem uO {l:List Fd} {i:Nat} (h:i<l.length):l.getD i default∈l:=by
  rw[aor,aon h];exact aoS h
theorem amu (n:Nat):Int.tdiv ((n:Int)+4-1) 4=(((n+3) / 4:Nat):Int):=by
  rw[Int.tdiv_eq_ediv_of_nonneg (by omega)]; omega
theorem ajf {f:Fd} (h:16<(4+f.da.length+3) / 4*4):ct f=(4+f.da.length+3) / 4*4:=by unfold ct; omega
theorem ajg {f:Fd} (h:(4+f.da.length+3) / 4*4≤16):ct f=16:=by unfold ct; omega
theorem VW {f:Fd} (h:f.ty<0∨65535<f.ty):dA f=4∧ow f=0:=by
  have e:dA f=4:=if_pos h;exact⟨e,by unfold ow; rw[e]; rfl⟩
theorem Cj {f:Fd} (h1:0≤f.ty) (h2:f.ty≤65535) (h:ct f≤1232):dA f=0∧ow f=ct f:=by
  have e:dA f=0:=Va h1 h2 h;exact⟨e,by unfold ow; rw[if_pos e]⟩
theorem afJ {f:Fd} (h1:0≤f.ty) (h2:f.ty≤65535) (h:1232<ct f):dA f=2∧ow f=0:=by
  have e:dA f=2:=by unfold dA; rw[if_neg (by omega),if_pos h]
  exact⟨e,by unfold ow; rw[e]; rfl⟩
def SC:aK:=⟨1,8,ae [ak 2 0] (ae [oM 3 0,am .add 4 3 4,am .sub 5 4 1,am .quo 6 5 4,am .mul 7 6 4,oM 2 7] .ret),[(2,none)]⟩
theorem afK:aI Tryz.prog {} Tryz.f165=some SC:=by kernel_rfl
theorem ajh (G:au) (n:Nat) (hn:n≤9000000000000000000):aF Tryz.prog G 165 [.int .i64 (n:Int)] (.w (.c (.d (.int .i64 (((n+3) / 4*4:Nat):Int))))):=by
  refine aT Tryz.func165 afK rfl rfl ?_;have e:=amu n;have hq:(n+3) / 4*4≤n+3:=by omega
  generalize (n+3) / 4=q at *
  simp only[SC,ai,af,seval,iteOmega,e];exact aZ
def u6:aK:=⟨1,22,ae [cW 1 0,ak 2 0,ak 3 0] (.seq (ae [aO 5 0 1,aA 6 5,am .lss 7 6 0,oM 8 7,dN 9 0 1 8 false,dz 10 9 8 false,cu .gtr 11 10 65535 8 false,cC 12 8 11] (aw 12 (ae [ak 2 0,ak 3 4] .ret) .skip)) (ae [aO 13 1 1,aA 14 13,bc 15 14,oO 16 (.bin .add (kI 4) (.t 15)),aW 17 165 16,oO 18 (.max [(kI 16),(.t 17)]),oM 4 18] (.seq (ae [oM 19 4,am .gtr 20 19 1232] (aw 20 (ae [ak 2 0,ak 3 2] .ret) .skip)) (ae [oM 21 4,oM 2 21,ak 3 0] .ret)))),[(2,none),(3,none)]⟩
theorem afL:aI Tryz.prog {} Tryz.f143=some u6:=by kernel_rfl
theorem VX (G:au) (f:Fd) (hd:f.da.length≤8000000000000000000):aF Tryz.prog G 143 [bg f] (.tup [.c (.d (.int .i64 (ow f:Int))),.c (.d (.int .i64 (dA f)))]):=by
  refine aT Tryz.func143 afL rfl rfl ?_;unfold bg;rcases aqo f.ty 0 with h1 | h1
  ·obtain⟨e1,e2⟩:=VW (f:=f) (.inl h1);rw[e1,e2];simp only[u6,ai,af,seval,iteOmega];exact bu
  ·rcases aqo 65535 f.ty with h2 | h2
   ·obtain⟨e1,e2⟩:=VW (f:=f) (.inr h2);rw[e1,e2];have g:(f.ty>65535)=True:=eq_true h2;simp only[u6,ai,af,seval,iteOmega,g];exact bu
   ·have c:=ajh G (4+f.da.length) (by omega);rw[show ((4+f.da.length:Nat):Int)=4+(f.da.length:Int) by omega] at c;have g:(f.ty>65535)=False:=eq_false (by omega);rcases aoP 16 ((4+f.da.length+3) / 4*4) with h3 | h3
    ·have hT:=ajf h3;have hb:(4+f.da.length+3) / 4*4≤4+f.da.length+3:=by omega
     rcases aoP 1232 (ct f) with h4 | h4
     ·obtain⟨e1,e2⟩:=afJ h1 h2 h4;rw[e1,e2];rw[hT] at h4;generalize (4+f.da.length+3) / 4*4=Y at *
      have g3:((Y:Int)>16)=True:=eq_true (by omega);have g4:((Y:Int)>1232)=True:=eq_true (by omega);simp only[u6,ai,af,seval,iteOmega,g];refine sC (c) ?_;simp only[g3,g4,apB,ap9,af,seval];exact bu
     ·obtain⟨e1,e2⟩:=Cj h1 h2 h4;rw[e1,e2,hT];rw[hT] at h4;generalize (4+f.da.length+3) / 4*4=Y at *
      have g3:((Y:Int)>16)=True:=eq_true (by omega);have g4:((Y:Int)>1232)=False:=eq_false (by omega);simp only[u6,ai,af,seval,iteOmega,g];refine sC (c) ?_;simp only[g3,g4,apB,ap9,af,seval];exact bu
    ·have hT:=ajg h3;obtain⟨e1,e2⟩:=Cj h1 h2 (by omega);rw[e1,e2,hT];generalize (4+f.da.length+3) / 4*4=Y at *
     have g3:((Y:Int)>16)=False:=eq_false (by omega);simp only[u6,ai,af,seval,iteOmega,g];refine sC (c) ?_;simp only[g3,apB,ap9,af,seval];exact bu
theorem afM (n:Nat):aC 0 n=List.replicate n 0:=by
  unfold aC;refine List.ext_getElem (by simp) fun i i1 i2=>?_
  simp
def SD:aK:=⟨1,30,ae [cW 1 0,aM 2] (ae [bn 7 2 1,aW 8 143 7,oM 6 8,aB 9 6 0,aB 10 6 1,oM 3 9,oM 4 10] (ae [oM 11 3,am .sub 12 11 4,aO 13 1 1,aA 14 13,bc 15 14,aU .sub 16 12 15,oO 17 (.call 76 [(.k (.c aQ)),(.t 16)] none),oM 5 17] (ae [aO 18 0 1,aA 19 18,oO 20 (.conv .u64 (.t 19)),oO 21 (.call 76 [(.t 20),(kI 2)] none),oM 22 3,oO 23 (.conv .u64 (.t 22)),oO 24 (.call 76 [(.t 23),(kI 2)] none),aO 25 1 1,aA 26 25,oM 27 5,oO 28 (.bldSl false 4 1 (.sl []) [(0,(.t 21)),(1,(.t 24)),(2,(.t 26)),(3,(.t 27))]),oO 29 (.call 44 [(.t 28)] (some (0,1))),oM 2 29] .ret))),[(2,none)]⟩
theorem afN:aI Tryz.prog { own:=[29] } Tryz.f144=some SD:=by kernel_rfl
theorem aji (G:au) (f:Fd) (h:dA f=0):aF Tryz.prog G 144 [bg f] (.w (.c (.fr 1 ((jk f).map bD)))):=by
  refine aT Tryz.func144 afN rfl rfl ?_;obtain⟨h1,h2,h3⟩:=vT h;have hl:=GU f;have hp:=aeB f;have c1:=VX G f (by omega);have eN:ow f=ct f:=(Cj h1 h2 h3).2;rw[h,eN] at c1;have c2:=iD G 0 ((ct f:Int)-4-(f.da.length:Int)) (by omega);rw[show ((ct f:Int)-4-(f.da.length:Int)).toNat=ct f-4-f.da.length by omega,afM] at c2;have c3:=iD G f.ty.toNat 2 (by decide);rw[show (2:Int).toNat=2 from rfl,show (f.ty.toNat:Int)=f.ty by omega] at c3;have c4:=iD G (ct f) 2 (by decide);rw[show (2:Int).toNat=2 from rfl] at c4;have cj:=dV G [aC f.ty.toNat 2,aC (ct f) 2,f.da,List.replicate (ct f-4-f.da.length) 0] (by simp) (by simp[bO]; omega);have ef:([aC f.ty.toNat 2,aC (ct f) 2,f.da,List.replicate (ct f-4-f.da.length) 0]:List (List UInt8)).flatten=jk f:=by
    unfold jk;simp only[apd,apf,aoF]
  rw[ef] at cj;have n0:ow f≤1232:=by omega
  unfold bg at *
  generalize jk f=B at *
  generalize aC f.ty.toNat 2=B1 at *
  generalize aC (ct f) 2=B2 at *
  generalize List.replicate (ct f-4-f.da.length) (0:UInt8)=B3 at *
  generalize f.da=da at *
  generalize f.ty=ty at *
  generalize ct f=T at *
  simp only[aos,aoA] at cj;simp only[SD,ai,af,seval];refine sD (c1) ?_;refine sD (c2) ?_;refine sD (c3) ?_;refine sD (c4) ?_;refine sD (cj) ?_;exact iJ
theorem afO {l:List Fd} (h0:gZ l=0) (h:24<l.length):di l=8∧lr l=[]:=by
  have e:di l=8:=by unfold di; rw[if_pos h0,if_pos h]
  exact⟨e,by unfold lr; rw[e]; rfl⟩
theorem adw {l:List Fd} (h0:gZ l=0) (h:l.length≤24) (h2:1232<cQ l):di l=2∧lr l=[]:=by
  have e:di l=2:=by unfold di; rw[if_pos h0,if_neg (by omega),if_pos h2]
  exact⟨e,by unfold lr; rw[e]; rfl⟩
theorem SE {l:List Fd} (h0:gZ l=0) (h:l.length≤24) (h2:cQ l≤1232):di l=0∧lr l=bN l:=by
  have e:di l=0:=by unfold di; rw[if_pos h0,if_neg (by omega),if_neg (by omega)]
  exact⟨e,by unfold lr; rw[if_pos e]⟩
theorem afP {l:List Fd} {e:Int} (h0:gZ l=e) (h:e≠0):di l=e∧lr l=[]:=by
  have e:di l=e:=by unfold di; rw[h0,if_neg h]
  exact⟨e,by unfold lr; rw[e,if_neg h]⟩
theorem afQ {l:List Fd} (h:gZ l=0) {i:Nat} (hi:i<l.length):dA (l.getD i default)=0:=yH.1 h _ (uO hi)
def vY (l:List Fd) (i:Nat):St:=⟨bz [(0,.w (.c (.d (.sl (l.map bg))))),(4,.w (.c (.d (.int .i64 (cQ (l.take i):Int))))),(12,.w (.c (.d (.sl (l.map bg))))),(13,.w (.c (.d (.int .i64 (l.length:Int))))),(14,.w (.c (.d (.int .i64 (i:Int)))))],hL [],uL []⟩
def Jp (l:List Fd) (i:Nat):St:=⟨bz [(9,.w (.c (.own 1 1 0 (bN (l.take i)).length))),(37,.w (.c (.d (.sl (l.map bg))))),(38,.w (.c (.d (.int .i64 (l.length:Int))))),(39,.w (.c (.d (.int .i64 (i:Int)))))],hL [(1,.row 1 ((bN (l.take i)).map bD))],uL [1]⟩
def uw:bq := ae [aU .lss 15 14 13] (.seq (aw 15 .skip (.exit 0)) (.seq (.block 1 (ae [bW 16 2 12 14,bn 17 2 16,oO 6 (.alloc [ah,.nil]),aS 2 6 17] (ae [bn 19 2 6,aW 20 143 19,oM 18 20,aB 21 18 0,aB 22 18 1,oM 7 21,oM 8 22] (.seq (ae [oM 23 8,am .neq 24 23 0] (aw 24 (ae [oM 25 8,aM 2,oM 3 25] .ret) .skip)) (.reg [oM 26 4,oM 27 7,aU .add 28 26 27,oM 4 28]))))) (.reg [am .add 29 14 1,oM 14 29])))
def FH:bq := ae [aU .lss 40 39 38] (.seq (aw 40 .skip (.exit 2)) (.seq (.block 3 (ae [bW 41 2 37 39,bn 42 2 41,oO 11 (.alloc [ah,.nil]),aS 2 11 42] (.reg [oM 43 9,bn 44 2 11,aW 45 144 44,oO 46 (.app false 1 1 (.t 43) (.t 45)),oM 9 46]))) (.reg [am .add 47 39 1,oM 39 47])))
def SF:aK:=⟨1,49,ae [aM 2,ak 3 0] (ae [ak 4 0] (.seq (ae [oM 12 0,bc 13 12,ak 14 0] (.block 0 (.loop uw))) (.seq (ae [oM 30 0,bc 31 30,am .gtr 32 31 24] (aw 32 (ae [aM 2,ak 3 8] .ret) .skip)) (.seq (ae [oM 33 4,am .gtr 34 33 1232] (aw 34 (ae [aM 2,ak 3 2] .ret) .skip)) (ae [oM 35 4,oO 36 (.make true 1 1 aj (kI 0) (.t 35)),oM 9 36] (.seq (ae [oM 37 0,bc 38 37,ak 39 0] (.block 2 (.loop FH))) (ae [oM 48 9,oM 2 48,ak 3 0] .ret))))))),[(2,none),(3,none)]⟩
theorem afR:aI Tryz.prog {} Tryz.f103=some SF:=by kernel_rfl
theorem ajj (G:au) (l:List Fd) (hl:l.length≤1000000) (hd:∀ f∈l,f.da.length≤8000000000000000000):aF Tryz.prog G 103 [.sl (l.map bg)] (.tup [.c (.fr 1 ((lr l).map bD)),.c (.d (.int .i64 (di l)))]):=by
  refine aT Tryz.func103 afR rfl rfl ?_;simp only[SF,ai,af,seval];refine bQ (vY l) (fun i=>l.length-i) (fun i=>i≤l.length∧gZ (l.take i)=0) 0 ⟨aoy _,rfl⟩ ?_ ?_
  ·refine aV (fun i=>i) ?_ ?_ rfl rfl <;> simp only[wx,aH,seval,acs]
  ·rintro i ⟨hi,hok⟩;have hb:=aeD (l.take i) (yH.1 hok);rw[aow,apM hi] at hb;by_cases hlt:i<l.length
   ·have g:=lU hlt;have c:=VX G (l.getD i default) (hd _ (uO hlt));have ht:=z0 hlt;have hf:=Pj hlt hok;by_cases he:dA (l.getD i default)=0
    ·obtain⟨q1,q2,q3⟩:=vT he;have eN:ow (l.getD i default)=ct (l.getD i default):=(Cj q1 q2 q3).2;rw[he,eN] at c;rw[he] at hf;unfold bg at c;generalize l.getD i default=x at *
     generalize ct x=T at *
     simp only[uw,vY,af,aa,seval,iteOmega,toNatUp,ba,g,bg];refine sD (c) ?_;refine bA (i+1) (by omega) ⟨by omega,hf⟩ (aV (fun i=>i) ?_ ?_ rfl rfl) <;> simp only[wx,aH,aY,seval,ht]
    ·obtain⟨e1,e2⟩:=afP (acv hlt hok he) he;have hne:(dA (l.getD i default)=0)=False:=eq_false he;rw[e1,e2];unfold bg at c;generalize dA (l.getD i default)=e at *
     generalize ow (l.getD i default)=n at *
     generalize l.getD i default=x at *
     simp only[uw,vY,af,aa,seval,iteOmega,toNatUp,ba,g,bg];refine sC (c) ?_;simp only[hne,af,seval];exact dZ
   ·have hil:l.take i=l:=aot (by omega);rw[hil] at hok;rcases aoP 24 l.length with h24 | h24
    ·obtain⟨e1,e2⟩:=afO hok h24;rw[e1,e2];have g1:((l.length:Int)>24)=True:=eq_true (by omega);simp only[uw,vY,af,seval,iteOmega,g1];exact dZ
    ·have g1:((l.length:Int)>24)=False:=eq_false (by omega);rcases aoP 1232 (cQ l) with h12 | h12
     ·obtain⟨e1,e2⟩:=adw hok h24 h12;rw[e1,e2];have g2:((cQ l:Int)>1232)=True:=eq_true (by omega);simp only[uw,vY,af,seval,iteOmega,g1,hil,g2];exact dZ
     ·obtain⟨e1,e2⟩:=SE hok h24 h12;rw[e1,e2];have g2:((cQ l:Int)>1232)=False:=eq_false (by omega);simp only[uw,vY,af,seval,iteOmega,toNatUp,g1,hil,g2];refine bQ (Jp l) (fun i=>l.length-i) (fun i=>i≤l.length) 0 (aoy _) ?_ ?_
      ·refine aV (fun _=>288) ?_ ?_ rfl rfl <;> simp only[wx,aH,seval,acu]
      ·intro i hi;by_cases hlt:i<l.length
       ·have g:=lU hlt;have c:=qg (aji G (l.getD i default) (afQ hok hlt));have ha:=Fl hlt;have h1:=jp (l.take (i+1));have h2:=RN l (i+1);rw[ha,aoq] at h1;unfold bg at c;generalize l.getD i default=x at *
        generalize jk x=B at *
        simp only[FH,Jp,af,aa,seval,iteOmega,toNatUp,ba,g,bg];refine sC (c) ?_;simp only[cG,af,seval,iteOmega];refine bA (i+1) (by omega) (by omega) (aV (fun _=>368) ?_ ?_ rfl rfl) <;> simp only[wx,aH,aY,seval,ha]
       ·have hil:l.take i=l:=aot (by omega);simp only[FH,Jp,af,seval,iteOmega,hil];exact dZ
theorem Ii (G:au) (l:List Fd) (hl:l.length≤1000000) (hd:∀ f∈l,f.da.length≤8000000000000000000):aF Tryz.prog G 103 [.sl (l.map bg)] (.tup [.c (.d (.sl ((lr l).map bD))),.c (.d (.int .i64 (di l)))]):=uV (ajj G l hl hd)
set_option maxHeartbeats 6400000
def fD (h:Hd):D:=.agg [.int .i64 h.lp,.int .i64 h.vr,.int .i64 h.md,.int .i64 h.st,.int .i64 h.pl,.int .i64 h.pr,.int .u32 (h.rd:Int),.int .u32 (h.rp:Int),.int .u32 (h.ri:Int),.int .u64 (h.rf:Int),.int .u64 (h.og:Int),.int .u64 (h.rc:Int),.int .u64 (h.tr:Int)]
def jn (h:Hd):Int:=if mm h then 0 else 4
def D3 (h:Hd):List UInt8:=if mm h then eZ h else []
def ir (l:List UInt8):Int:=if l.length<48 then 1 else if 1280<l.length then 2 else if (d6 l).vr=3∨(d6 l).vr=4 then 0 else 3
def D4 (l:List UInt8):Hd:=if ir l=0 then d6 l else Hd.z
def D5 (l:List UInt8):List UInt8:=if ir l=0 then l.drop 48 else []
def fp (t:Nat):Hd:=⟨0,4,3,0,6,0,0,0,0,0,0,0,t⟩
def wG (q:Hd) (st:Int):Int:=if mm q then (if q.md=3 then (if 0≤st∧st≤255 then 0 else 4) else 3) else 4
def Kn (q:Hd) (st:Int) (rc tr:Nat):Hd:=if wG q st=0 then ⟨0,q.vr,4,st,q.pl,-20,0,0,0,0,q.tr,rc,tr⟩ else Hd.z
theorem af8 (h:Hd):mm h=(decide (0≤h.lp∧h.lp≤3)&&(decide (3≤h.vr∧h.vr≤4)&&(decide (0≤h.md∧h.md≤7)&&(decide (0≤h.st∧h.st≤255)&&(decide (-128≤h.pl∧h.pl≤127)&&decide (-128≤h.pr∧h.pr≤127)))))):=by
  unfold mm tX;by_cases k:0≤h.lp∧h.lp≤3∧(h.vr=3∨h.vr=4)∧0≤h.md∧h.md≤7∧0≤h.st∧h.st≤255∧-128≤h.pl∧h.pl≤127∧-128≤h.pr∧h.pr≤127
  ·rw[decide_eq_true k];simp only[show (0≤h.lp∧h.lp≤3) from by omega,show (3≤h.vr∧h.vr≤4) from by omega,show (0≤h.md∧h.md≤7) from by omega,show (0≤h.st∧h.st≤255) from by omega,show (-128≤h.pl∧h.pl≤127) from by omega,show (-128≤h.pr∧h.pr≤127) from by omega];decide
  ·rw[decide_eq_false k]
   symm
   rw[← Bool.not_eq_true];intro e;simp only[aoU,decide_eq_true_eq] at e;exact k (by omega)
def Bi:aK:=⟨3,15,ae [bH 6 false] (ae [oM 7 0,oM 8 1,aU .leq 9 7 8,oM 10 9,bE 11 1 10 true,bE 12 2 10 true,sE .leq 13 11 12 10 true,dh 14 10 13,oM 6 14] .ret),[(6,none)]⟩
theorem af9:aI Tryz.prog {} Tryz.f111=some Bi:=by kernel_rfl
theorem vy (G:au) (a n b:Int):aF Tryz.prog G 111 [.int .i64 a,.int .i64 n,.int .i64 b] (.w (.c (.d (.bool (decide (a≤n∧n≤b)))))):=by
  refine aT Tryz.func111 af9 rfl rfl ?_;by_cases h1:a≤n
  ·by_cases h2:n≤b
   ·rw[decide_eq_true ⟨h1,h2⟩];simp only[Bi,ai,af,seval,iteOmega];exact aZ
   ·rw[decide_eq_false (fun h=>h2 h.2)];simp only[Bi,ai,af,seval,iteOmega];exact aZ
  ·rw[decide_eq_false (fun h=>h1 h.1)];simp only[Bi,ai,af,seval,iteOmega];exact aZ
def SO:aK:=⟨1,5,ae [bH 2 false] (ae [oM 3 0,oO 4 (.call 111 [(kI 3),(.t 3),(kI 4)] none),oM 2 4] .ret),[(2,none)]⟩
theorem aga:aI Tryz.prog {} Tryz.f146=some SO:=by kernel_rfl
theorem Wd (G:au) (n:Int):aF Tryz.prog G 146 [.int .i64 n] (.w (.c (.d (.bool (decide (3≤n∧n≤4)))))):=by
  refine aT Tryz.func146 aga rfl rfl ?_;have c:=vy G (3) n 4;generalize decide (3≤n∧n≤4)=b at *
  simp only[SO,ai,af,seval];refine sD (c) ?_;exact aZ
def SP:aK:=⟨1,5,ae [bH 2 false] (ae [oM 3 0,oO 4 (.call 111 [(.k (.c (.d (.int .i64 (-128))))),(.t 3),(kI 127)] none),oM 2 4] .ret),[(2,none)]⟩
theorem agb:aI Tryz.prog {} Tryz.f147=some SP:=by kernel_rfl
theorem We (G:au) (n:Int):aF Tryz.prog G 147 [.int .i64 n] (.w (.c (.d (.bool (decide (-128≤n∧n≤127)))))):=by
  refine aT Tryz.func147 agb rfl rfl ?_;have c:=vy G (-128) n 127;generalize decide (-128≤n∧n≤127)=b at *
  simp only[SP,ai,af,seval];refine sD (c) ?_;exact aZ
def rv:aK:=⟨1,35,ae [cW 1 0,ak 2 0] (.seq (ae [aO 3 0 1,aA 4 3,oO 5 (.call 111 [(kI 0),(.t 4),(kI 3)] none),dd 6 5,oM 7 6,dN 8 1 1 7 false,dz 9 8 7 false,oG 10 (.call 146 [(.t 9)] none) 7 false,fY 11 10 7 false,cC 12 7 11,oM 13 12,dN 14 2 1 13 false,dz 15 14 13 false,oG 16 (.call 111 [(kI 0),(.t 15),(kI 7)] none) 13 false,fY 17 16 13 false,cC 18 13 17] (aw 18 (ae [ak 2 4] .ret) .skip)) (.seq (ae [aO 19 3 1,aA 20 19,oO 21 (.call 111 [(kI 0),(.t 20),(kI 255)] none),dd 22 21,oM 23 22,dN 24 4 1 23 false,dz 25 24 23 false,oG 26 (.call 147 [(.t 25)] none) 23 false,fY 27 26 23 false,cC 28 23 27,oM 29 28,dN 30 5 1 29 false,dz 31 30 29 false,oG 32 (.call 147 [(.t 31)] none) 29 false,fY 33 32 29 false,cC 34 29 33] (aw 34 (ae [ak 2 4] .ret) .skip)) (ae [ak 2 0]
 .ret))),[(2,none)]⟩
theorem agc:aI Tryz.prog {} Tryz.f110=some rv:=by kernel_rfl
theorem Wg (G:au) (h:Hd):aF Tryz.prog G 110 [fD h] (.w (.c (.d (.int .i64 (jn h))))):=by
  refine aT Tryz.func110 agc rfl rfl ?_;have c1:=vy G 0 h.lp 3;have c2:=Wd G h.vr;have c3:=vy G 0 h.md 7;have c4:=vy G 0 h.st 255;have c5:=We G h.pl;have c6:=We G h.pr;have he:jn h=if mm h=true then 0 else 4:=rfl
  rw[af8] at he;unfold fD;generalize decide (0≤h.lp∧h.lp≤3)=b1 at *
  generalize decide (3≤h.vr∧h.vr≤4)=b2 at *
  generalize decide (0≤h.md∧h.md≤7)=b3 at *
  generalize decide (0≤h.st∧h.st≤255)=b4 at *
  generalize decide (-128≤h.pl∧h.pl≤127)=b5 at *
  generalize decide (-128≤h.pr∧h.pr≤127)=b6 at *
  cases b1
  ·rw[he];simp only[rv,ai,af,seval];refine sD (c1) ?_;exact aZ
  cases b2
  ·rw[he];simp only[rv,ai,af,seval];refine sD (c1) ?_;refine sD (c2) ?_;exact aZ
  cases b3
  ·rw[he];simp only[rv,ai,af,seval];refine sD (c1) ?_;refine sD (c2) ?_;refine sD (c3) ?_;exact aZ
  cases b4
  ·rw[he];simp only[rv,ai,af,seval];refine sD (c1) ?_;refine sD (c2) ?_;refine sD (c3) ?_;refine sD (c4) ?_;exact aZ
  cases b5
  ·rw[he];simp only[rv,ai,af,seval];refine sD (c1) ?_;refine sD (c2) ?_;refine sD (c3) ?_;refine sD (c4) ?_;refine sD (c5) ?_;exact aZ
  cases b6
  ·rw[he];simp only[rv,ai,af,seval];refine sD (c1) ?_;refine sD (c2) ?_;refine sD (c3) ?_;refine sD (c4) ?_;refine sD (c5) ?_;refine sD (c6) ?_;exact aZ
  ·rw[he];simp only[rv,ai,af,seval];refine sD (c1) ?_;refine sD (c2) ?_;refine sD (c3) ?_;refine sD (c4) ?_;refine sD (c5) ?_;refine sD (c6) ?_;exact aZ
def SQ:aK:=⟨2,23,ae [oO 4 (.mv (.k (.c aQ)))] (ae [oM 6 0,oO 7 (.nilChk (.t 6)),aO 8 0 7,aA 9 8,oM 10 1,oO 11 (.slice 1 (.t 9) none (some (.t 10)) none),aW 12 81 11,oM 5 12] (ae [oM 13 0,oM 14 0,oO 15 (.nilChk (.t 14)),aO 16 0 15,aA 17 16,oM 18 1,oO 19 (.slice 1 (.t 17) (some (.t 18)) none none),oO 20 (.nilChk (.t 13)),aO 21 0 20,ei 21 19] (ae [oM 22 5,oM 4 22] .ret))),[(4,none)]⟩
theorem agd:aI Tryz.prog {} Tryz.f166=some SQ:=by kernel_rfl
theorem ajP (G:au) (l:List UInt8) (k:Nat) (hk:k≤l.length) (hl:l.length≤9223372036854775807):rV Tryz.prog G 166 [.c (.ptr 1 1 0 0),.c (.d (.int .i64 (k:Int)))] (iy [.sl (l.map bD)]) [1] (.w (.c (.d (.int .u64 (bi (l.take k)))))) (iy [.sl ((l.drop k).map bD)]) [1]:=by
  have c:=ku G (l.take k) (by simp; omega);have e:(l.drop k).take (l.length-k)=l.drop k:=aot (by simp);refine abE Tryz.func166 agd 0 rfl rfl rfl rfl rfl rfl ?_;simp only[SQ,iH,iy,ix,af,seval,iteOmega,toNatUp];refine bK c rfl (.inl rfl) ?_;simp only[ix,adt,af,aa,seval,iteOmega,toNatUp];refine amt (by simp only[af,seval]) ?_ (by simp only[af,seval]);simp only[af,seval,e]
theorem nQ (G:au) (l:List UInt8) (a k c:Nat) (K:Int) (hK:(k:Int)=K) (hc:a+k=c) (hk:c≤l.length) (hl:l.length≤9223372036854775807):rV Tryz.prog G 166 [.c (.ptr 1 1 0 0),.c (.d (.int .i64 K))] (iy [.sl ((l.drop a).map bD)]) [1] (.w (.c (.d (.int .u64 (bi (aG l a k)))))) (iy [.sl ((l.drop c).map bD)]) [1]:=by
  have h:=ajP G (l.drop a) k (by simp; omega) (by simp; omega);rw[ap8,hc,hK] at h;exact h
theorem nW:∀ (args:Array Value) (w:World),(callFunc 166 args).run Tryz.prog w=.ok (.enter 166 args) w:=enters_of Tryz.func166 (by kernel_rfl) rfl
theorem and7:∀ m:Fin 256,bits .and .i64 (m.val:Int) 7=((m.val%8:Nat):Int):=by decide +kernel
theorem Wh {m:Nat} (h:m<256):bits .and .i64 (m:Int) 7=((m%8:Nat):Int):=and7 ⟨m,h⟩
theorem amE:∀ (l:Fin 4) (v:Fin 8) (m:Fin 8),bits .or .i64 (bits .or .i64 ((l.val*64:Nat):Int) ((v.val*8:Nat):Int)) (m.val:Int)=((l.val*64+v.val*8+m.val:Nat):Int):=by decide +kernel
theorem ajQ {l v m:Int} (l0:0≤l) (l1:l≤3) (v0:0≤v) (v1:v≤7) (m0:0≤m) (m1:m≤7):bits .or .i64 (bits .or .i64 (l*64) (v*8)) m=l*64+v*8+m:=by
  obtain⟨L,rfl⟩:=ao5 l0;obtain⟨V,rfl⟩:=ao5 v0;obtain⟨M,rfl⟩:=ao5 m0;have:=amE ⟨L,by omega⟩ ⟨V,by omega⟩ ⟨M,by omega⟩
  simpa using this
theorem ajR {l:List UInt8} {a:Nat} (h:a<l.length):bi (aG l a 1)=(l.getD a 0).toNat:=by
  have e:aG l a 1=[l.getD a 0]:=by
    unfold aG;rw[aqh h,List.take_succ_cons,apJ,aor,aon h];rfl
  rw[e];have:=(l.getD a 0).toNat_lt;simp[bi]
theorem ajS:∀ b:Fin 256,IntKind.i8.wrap (b.val:Int)=if b.val>127 then (b.val:Int)-256 else (b.val:Int):=by decide +kernel
theorem SR (b:UInt8):IntKind.i8.wrap (b.toNat:Int)=pv b:=ajS ⟨b.toNat,b.toNat_lt⟩
theorem adH (l:List UInt8) (h:48≤l.length):d6 (l.take 48)=d6 l:=by
  have c:∀ a n,a+n≤48→aG (l.take 48) a n=aG l a n:=by
    intro a n hn;unfold aG;rw[List.drop_take,aqe,apM (by omega)]
  have g:∀ i,i<48→(l.take 48).getD i 0=l.getD i 0:=by
    intro i hi;rw[aor,aor,List.getElem?_take_of_lt hi]
  unfold d6;rw[c 4 4 (by omega),c 8 4 (by omega),c 12 4 (by omega),c 16 8 (by omega),c 24 8 (by omega),c 32 8 (by omega),c 40 8 (by omega),g 0 (by omega),g 1 (by omega),g 2 (by omega),g 3 (by omega)]
def Wi:aK:=⟨1,48,ae [oO 2 (.alloc [ah,ah,ah,ah,ah,ah,be,be,be,aQ,aQ,aQ,aQ])] (ae [oM 6 0,oO 7 (.build [.nil] [(0,1,(.t 6))]),oO 3 (.alloc [.nil]),aS 1 3 7] (ae [oO 8 (.closM 166 [(.t 3)] []),oM 4 8] (ae [oM 9 4,oO 10 (.callM 1000000007 [(.t 9),(kI 1)]),oO 11 (.conv .i64 (.t 10)),oM 5 11] (ae [oM 12 5,oO 13 (.bin .shr (.t 12) (.k (.c (.d (.int .u64 6))))),oM 14 5,oO 15 (.bin .shr (.t 14) (.k (.c (.d (.int .u64 3))))),am .and 16 15 7,oM 17 5,am .and 18 17 7,oM 19 4,oO 20 (.callM 1000000007 [(.t 19),(kI 1)]),oO 21 (.conv .i64 (.t 20)),oM 22 4,oO 23 (.callM 1000000007 [(.t 22),(kI 1)]),oO 24 (.conv .i8 (.t 23)),oO 25 (.conv .i64 (.t 24)),oM 26 4,oO 27 (.callM 1000000007 [(.t 26),(kI 1)]),oO 28 (.conv .i8 (.t 27)),oO 29 (.conv .i64 (.t 28)),oM 30 4,oO 31 (.callM 1000000007 [(.t 30),(kI 4)]),
 oO 32 (.conv .u32 (.t 31)),oM 33 4,oO 34 (.callM 1000000007 [(.t 33),(kI 4)]),oO 35 (.conv .u32 (.t 34)),oM 36 4,oO 37 (.callM 1000000007 [(.t 36),(kI 4)]),oO 38 (.conv .u32 (.t 37)),oM 39 4,oO 40 (.callM 1000000007 [(.t 39),(kI 8)]),oM 41 4,oO 42 (.callM 1000000007 [(.t 41),(kI 8)]),oM 43 4,oO 44 (.callM 1000000007 [(.t 43),(kI 8)]),oM 45 4,oO 46 (.callM 1000000007 [(.t 45),(kI 8)]),oO 47 (.build [ah,ah,ah,ah,ah,ah,be,be,be,aQ,aQ,aQ,aQ] [(0,1,(.t 13)),(1,1,(.t 16)),(2,1,(.t 18)),(3,1,(.t 21)),(4,1,(.t 25)),(5,1,(.t 29)),(6,1,(.t 32)),(7,1,(.t 35)),(8,1,(.t 38)),(9,1,(.t 40)),(10,1,(.t 42)),(11,1,(.t 44)),(12,1,(.t 46))]),aS 13 2 47] .ret)))),[(2,(some (.ag 13)))]⟩
theorem ajT:aI Tryz.prog { mt:=[8,10,20,23,27,31,34,37,40,42,44,46] } Tryz.f145=some Wi:=by kernel_rfl
theorem amF (G:au) (l:List UInt8) (hl:l.length=48):aF Tryz.prog G 145 [.sl (l.map bD)] (.w (.c (.d (fD (d6 l))))):=by
  refine aT Tryz.func145 ajT rfl rfl ?_;have hb:=by exact (show l.length≤9223372036854775807 by omega)
  have c0:=nQ G l 0 1 1 1 rfl rfl (by omega) hb;have c1:=nQ G l 1 1 2 1 rfl rfl (by omega) hb;have c2:=nQ G l 2 1 3 1 rfl rfl (by omega) hb;have c3:=nQ G l 3 1 4 1 rfl rfl (by omega) hb;have c4:=nQ G l 4 4 8 4 rfl rfl (by omega) hb;have c5:=nQ G l 8 4 12 4 rfl rfl (by omega) hb;have c6:=nQ G l 12 4 16 4 rfl rfl (by omega) hb;have c7:=nQ G l 16 8 24 8 rfl rfl (by omega) hb;have c8:=nQ G l 24 8 32 8 rfl rfl (by omega) hb;have c9:=nQ G l 32 8 40 8 rfl rfl (by omega) hb;have cA:=nQ G l 40 8 48 8 rfl rfl (by omega) hb;rw[ajR (by omega)] at c0 c1 c2 c3;have q4:=(jc 4 (aG l 4 4) (fj (by omega)) (by decide)).1;have q5:=(jc 4 (aG l 8 4) (fj (by omega)) (by decide)).1;have q6:=(jc 4 (aG l 12 4) (fj (by omega)) (by decide)).1;have b0:=(l.getD 0 0).toNat_lt;have b1:=(l.getD 1 0).toNat_lt;have s2:=SR (l.getD 2 0);have s3:=SR (l.getD 3 0);have i2:=RJ (l.getD 2 0);have i3:=RJ (l.getD 3 0);unfold d6 fD;dsimp only;rw[apS] at c0;generalize l.drop 1=L1 at *
  generalize l.drop 2=L2 at *
  generalize l.drop 3=L3 at *
  generalize l.drop 4=L4 at *
  generalize l.drop 8=L5 at *
  generalize l.drop 12=L6 at *
  generalize l.drop 16=L7 at *
  generalize l.drop 24=L8 at *
  generalize l.drop 32=L9 at *
  generalize l.drop 40=LA at *
  generalize l.drop 48=LB at *
  generalize pv (l.getD 2 0)=S2 at *
  generalize pv (l.getD 3 0)=S3 at *
  generalize (l.getD 0 0).toNat=N0 at *
  generalize (l.getD 1 0).toNat=N1 at *
  generalize (l.getD 2 0).toNat=N2 at *
  generalize (l.getD 3 0).toNat=N3 at *
  generalize bi (aG l 4 4)=N4 at *
  generalize bi (aG l 8 4)=N5 at *
  generalize bi (aG l 12 4)=N6 at *
  generalize bi (aG l 16 8)=N7 at *
  generalize bi (aG l 24 8)=N8 at *
  generalize bi (aG l 32 8)=N9 at *
  generalize bi (aG l 40 8)=NA at *
  have a1:=Wh (m:=N0 / 8) (by omega);have a2:=Wh b0;have d1:(N0:Int) / 64=((N0 / 64:Nat):Int):=(Int.natCast_ediv N0 64).symm;have d2:(N0:Int) / 8=((N0 / 8:Nat):Int):=(Int.natCast_ediv N0 8).symm;simp only[Wi,ai,gR,af,aa,seval];refine nP (id:=24) (pre:=[.p 24 1 0 0]) (post:=[]) (ws:=[.c (.d (.int .i64 1))]) c0 nW rfl rfl (by simp only[af,seval]) rfl ?_;simp only[af,seval,iteOmega,toNatUp,IntKind.bits,d1,d2,a1,a2];refine nP (id:=24) (pre:=[.p 24 1 0 0]) (post:=[]) (ws:=[.c (.d (.int .i64 1))]) c1 nW rfl rfl (by simp only[af,seval]) rfl ?_;simp only[af,seval,iteOmega];refine nP (id:=24) (pre:=[.p 24 1 0 0]) (post:=[]) (ws:=[.c (.d (.int .i64 1))]) c2 nW rfl rfl (by simp only[af,seval]) rfl ?_;simp only[af,seval,iteOmega,s2];refine nP (id:=24) (pre:=[.p 24 1 0 0]) (post:=[]) (ws:=[.c (.d (.int .i64 1))]) c3 nW rfl rfl (by simp only[af,seval]) rfl ?_;simp only[af,seval,iteOmega,s3];refine nP (id:=24) (pre:=[.p 24 1 0 0]) (post:=[]) (ws:=[.c (.d (.int .i64 4))]) c4 nW rfl rfl (by simp only[af,seval]) rfl ?_;simp only[af,seval,iteOmega];refine nP (id:=24) (pre:=[.p 24 1 0 0]) (post:=[]) (ws:=[.c (.d (.int .i64 4))]) c5 nW rfl rfl (by simp only[af,seval]) rfl ?_;simp only[af,seval,iteOmega];refine nP (id:=24) (pre:=[.p 24 1 0 0]) (post:=[]) (ws:=[.c (.d (.int .i64 4))]) c6 nW rfl rfl (by simp only[af,seval]) rfl ?_;simp only[af,seval,iteOmega];refine nP (id:=24) (pre:=[.p 24 1 0 0]) (post:=[]) (ws:=[.c (.d (.int .i64 8))]) c7 nW rfl rfl (by simp only[af,seval]) rfl ?_;simp only[af,seval];refine nP (id:=24) (pre:=[.p 24 1 0 0]) (post:=[]) (ws:=[.c (.d (.int .i64 8))]) c8 nW rfl rfl (by simp only[af,seval]) rfl ?_;simp only[af,seval];refine nP (id:=24) (pre:=[.p 24 1 0 0]) (post:=[]) (ws:=[.c (.d (.int .i64 8))]) c9 nW rfl rfl (by simp only[af,seval]) rfl ?_;simp only[af,seval];refine nP (id:=24) (pre:=[.p 24 1 0 0]) (post:=[]) (ws:=[.c (.d (.int .i64 8))]) cA nW rfl rfl (by simp only[af,seval]) rfl ?_;simp only[af,aa,seval];exact aZ
def SS:aK:=⟨1,5,ae [oO 2 (.alloc [ah,ah,ah,ah,ah,ah,be,be,be,aQ,aQ,aQ,aQ])] (ae [oM 3 0,oO 4 (.build [ah,ah,ah,ah,ah,ah,be,be,be,aQ,aQ,aQ,aQ] [(1,1,(kI 4)),(2,1,(kI 3)),(4,1,(kI 6)),(12,1,(.t 3))]),aS 13 2 4] .ret),[(2,(some (.ag 13)))]⟩
theorem age:aI Tryz.prog {} Tryz.f51=some SS:=by kernel_rfl
theorem ajU (G:au) (t:Nat):aF Tryz.prog G 51 [.int .u64 (t:Int)] (.w (.c (.d (fD (fp t))))):=by
  refine aT Tryz.func51 age rfl rfl ?_;unfold fD fp;simp only[SS,ai,af,aa,seval];exact aZ
def xR:aK:=⟨4,35,ae [cW 4 0,oO 8 (.alloc [ah,ah,ah,ah,ah,ah,be,be,be,aQ,aQ,aQ,aQ]),ak 9 0] (.seq (ae [bn 11 13 4,aW 12 110 11,oM 10 12] (ae [oM 13 10,am .neq 14 13 0] (aw 14 (ae [oO 15 (.build [ah,ah,ah,ah,ah,ah,be,be,be,aQ,aQ,aQ,aQ] []),oM 16 10,aS 13 8 15,oM 9 16] .ret) .skip))) (.seq (ae [aO 17 2 4,aA 18 17,am .neq 19 18 3] (aw 19 (ae [oO 20 (.build [ah,ah,ah,ah,ah,ah,be,be,be,aQ,aQ,aQ,aQ] []),aS 13 8 20,ak 9 3] .ret) .skip)) (.seq (ae [oM 21 1,oO 22 (.call 111 [(kI 0),(.t 21),(kI 255)] none),dd 23 22] (aw 23 (ae [oO 24 (.build [ah,ah,ah,ah,ah,ah,be,be,be,aQ,aQ,aQ,aQ] []),aS 13 8 24,ak 9 4] .ret) .skip)) (ae [aO 25 1 4,aA 26 25,oM 27 1,aO 28 4 4,aA 29 28,aO 30 12 4,aA 31 30,oM 32 2,oM 33 3,oO 34 (.build [ah,ah,ah,ah,ah,ah,be,be,be,aQ,aQ,aQ,aQ] [(1,1,(.t 26)),(2,1,(kI 4)),(3,1,(.t 27)),(4,1,(.t 29)),(5,1,(.k (.c (.d (.int .i64 (-20)))))),(10,1,(.t 31)),(11,1,(.t 32)),(12,1,(.t 33))]),
 aS 13 8 34,ak 9 0] .ret)))),[(8,(some (.ag 13))),(9,none)]⟩
theorem agf:aI Tryz.prog {} Tryz.f56=some xR:=by kernel_rfl
theorem ajV (G:au) (q:Hd) (st:Int) (rc tr:Nat):aF Tryz.prog G 56 [fD q,.int .i64 st,.int .u64 (rc:Int),.int .u64 (tr:Int)] (.tup [.c (.d (fD (Kn q st rc tr))),.c (.d (.int .i64 (wG q st)))]):=by
  refine aT Tryz.func56 agf rfl rfl ?_;have c1:=Wg G q;have c2:=vy G 0 st 255;have he:wG q st=if mm q then (if q.md=3 then (if decide (0≤st∧st≤255)=true then 0 else 4) else 3) else 4:=by
    unfold wG; simp only[decide_eq_true_eq]
  unfold Kn;rw[he];unfold jn at c1;generalize decide (0≤st∧st≤255)=b at *
  cases hv:mm q
  ·rw[hv] at c1;rw[if_neg (by decide:¬ false=true),if_neg (by decide:¬ (4:Int)=0)];rw[if_neg (by decide:¬ false=true)] at c1;unfold fD Hd.z at *
   simp only[xR,ai,af,seval];refine sD (c1) ?_;exact bu
  ·rw[hv,if_pos rfl] at c1;rw[if_pos rfl];by_cases hm:q.md=3
   ·rw[if_pos hm];cases b
    ·rw[if_neg (by decide:¬ false=true),if_neg (by decide:¬ (4:Int)=0)];unfold fD Hd.z at *
     simp only[xR,ai,af,seval];refine sD (c1) ?_;refine sD (c2) ?_;exact bu
    ·rw[if_pos rfl,if_pos rfl];unfold fD at *
     simp only[xR,ai,af,seval];refine sD (c1) ?_;refine sD (c2) ?_;exact bu
   ·rw[if_neg hm,if_neg (by decide:¬ (3:Int)=0)];unfold fD Hd.z at *
    simp only[xR,ai,af,seval];refine sD (c1) ?_;exact bu
def xS:aK:=⟨1,26,ae [oO 2 (.alloc [ah,ah,ah,ah,ah,ah,be,be,be,aQ,aQ,aQ,aQ]),aM 3,ak 4 0] (.seq (ae [oM 5 0,bc 6 5,am .lss 7 6 48] (aw 7 (ae [oO 8 (.build [ah,ah,ah,ah,ah,ah,be,be,be,aQ,aQ,aQ,aQ] []),aS 13 2 8,aM 3,ak 4 1] .ret) .skip)) (.seq (ae [oM 9 0,bc 10 9,am .gtr 11 10 1280] (aw 11 (ae [oO 12 (.build [ah,ah,ah,ah,ah,ah,be,be,be,aQ,aQ,aQ,aQ] []),aS 13 2 12,aM 3,ak 4 2] .ret) .skip)) (ae [oM 13 0,oO 14 (.slice 1 (.t 13) none (some (kI 48)) none),aW 15 145 14,aS 13 2 15] (.seq (ae [aO 16 1 2,aA 17 16,aW 18 146 17,dd 19 18] (aw 19 (ae [oO 20 (.build [ah,ah,ah,ah,ah,ah,be,be,be,aQ,aQ,aQ,aQ] []),aS 13 2 20,aM 3,ak 4 3] .ret) .skip)) (ae [bn 21 13 2,oM 22 0,oO 23 (.slice 1 (.t 22) (some (kI 48)) none none),
 oO 24 (.bldSl false 1 1 (.sl []) [(0,(.t 23))]),oO 25 (.call 44 [(.t 24)] (some (0,1))),aS 13 2 21,oM 3 25,ak 4 0] .ret))))),[(2,(some (.ag 13))),(3,none),(4,none)]⟩
theorem agh:aI Tryz.prog { own:=[25] } Tryz.f105=some xS:=by kernel_rfl
theorem ajW (G:au) (l:List UInt8) (hl:l.length≤9223372036854775807):aF Tryz.prog G 105 [.sl (l.map bD)] (.tup [.c (.d (fD (D4 l))),.c (.d (.sl ((D5 l).map bD))),.c (.d (.int .i64 (ir l)))]):=by
  refine aT Tryz.func105 agh rfl rfl ?_;unfold D4 D5;by_cases h1:l.length<48
  ·rw[show ir l=1 from if_pos h1,if_neg (by decide),if_neg (by decide)];unfold fD Hd.z;simp only[xS,ai,af,aa,seval,iteOmega];exact lG (by simp only[af,seval]) (by simp only[af,seval] <;> rfl) (by simp only[af,seval])
  ·by_cases h2:1280<l.length
   ·rw[show ir l=2 from (if_neg h1).trans (if_pos h2),if_neg (by decide),if_neg (by decide)];unfold fD Hd.z;simp only[xS,ai,af,aa,seval,iteOmega];exact lG (by simp only[af,seval]) (by simp only[af,seval] <;> rfl) (by simp only[af,seval])
   ·have c1:=amF G (l.take 48) (by simp; omega);have e48:d6 (l.take 48)=d6 l:=by
      exact adH l (by omega)
    rw[e48] at c1;have c2:=Wd G (d6 l).vr;have cj:=dV G [l.drop 48] (by simp) (by simp; omega);simp only[aos,aoA,apd,apf,aoF] at cj;have et:(l.drop 48).take (l.length-48)=l.drop 48:=aot (by simp);have hv:decide (3≤(d6 l).vr∧(d6 l).vr≤4)=decide ((d6 l).vr=3∨(d6 l).vr=4):=by
      congr 1
      exact propext (by omega)
    rw[hv] at c2;have he:ir l=if decide ((d6 l).vr=3∨(d6 l).vr=4)=true then 0 else 3:=by
      unfold ir;rw[if_neg h1,if_neg h2];simp only[decide_eq_true_eq]
    rw[he];generalize decide ((d6 l).vr=3∨(d6 l).vr=4)=b at *
    generalize d6 l=q at *
    generalize hR:l.drop 48=R at *
    cases b
    ·rw[if_neg (by decide:¬ false=true),if_neg (by decide),if_neg (by decide)];unfold fD Hd.z at *
     simp only[xS,ai,af,seval,iteOmega,toNatUp];refine sD (c1) ?_;refine sD (c2) ?_;exact lG (by simp only[af,seval]) (by simp only[af,seval] <;> rfl) (by simp only[af,seval])
    ·rw[if_pos rfl,if_pos rfl,if_pos rfl];unfold fD at *
     simp only[xS,ai,af,seval,iteOmega,toNatUp];refine sD (c1) ?_;refine sC (c2) ?_;simp only[hR,et,af,seval,iteOmega,toNatUp];refine sD (cj) ?_;exact fg
theorem ajX (z:Int):IntKind.u64.wrap z=(((z%18446744073709551616).toNat:Nat):Int):=by
  rw[IntKind.wrap_u64,Int.toNat_of_nonneg (aqn _ (by decide))]
theorem ajY (z:Int):aC (z%18446744073709551616).toNat 1=[eI z]:=by
  have h:=aqn z (show (18446744073709551616:Int)≠0 by decide);have e:(z%18446744073709551616)%256=z%256:=Int.emod_emod_of_dvd z (by decide);unfold aC eI;rw[show List.range 1=[0] from rfl,aos,aoA,Nat.pow_zero,Nat.div_one]
  congr 1
  rw[← UInt8.toNat_inj,UInt8.toNat_ofNat',UInt8.toNat_ofNat'];omega
theorem Cq (G:au) (z:Int):aF Tryz.prog G 76 [.int .u64 (IntKind.u64.wrap z),.int .i64 1] (.w (.c (.fr 1 (([eI z]:List UInt8).map bD)))):=by
  have c:=XO G (z%18446744073709551616).toNat 1;rw[show DN (z%18446744073709551616).toNat 1=[eI z] from ajY z,← ajX] at c;exact c
def Hj:aK:=⟨1,62,ae [cW 1 0,aM 2,ak 3 0] (.seq (ae [bn 6 13 1,aW 7 110 6,oM 4 7] (ae [oM 8 4,am .neq 9 8 0] (aw 9 (ae [oM 10 4,aM 2,oM 3 10] .ret) .skip))) (ae [aO 11 0 1,aA 12 11,oO 13 (.bin .shl (.t 12) (.k (.c (.d (.int .u64 6))))),aO 14 1 1,aA 15 14,oO 16 (.bin .shl (.t 15) (.k (.c (.d (.int .u64 3))))),aU .or 17 13 16,aO 18 2 1,aA 19 18,aU .or 20 17 19,oM 5 20] (ae [oM 21 5,oO 22 (.conv .u64 (.t 21)),oO 23 (.call 76 [(.t 22),(kI 1)] none),aO 24 3 1,aA 25 24,oO 26 (.conv .u64 (.t 25)),oO 27 (.call 76 [(.t 26),(kI 1)] none),aO 28 4 1,aA 29 28,oO 30 (.conv .u64 (.t 29)),oO 31 (.call 76 [(.t 30),(kI 1)] none),aO 32 5 1,aA 33 32,oO 34 (.conv .u64 (.t 33)),oO 35 (.call 76 [(.t 34),(kI 1)] none),aO 36 6 1,aA 37 36,oO 38 (.conv .u64 (.t 37)),oO 39 (.call 76 [(.t 38),(kI 4)] none),
 aO 40 7 1,aA 41 40,oO 42 (.conv .u64 (.t 41)),oO 43 (.call 76 [(.t 42),(kI 4)] none),aO 44 8 1,aA 45 44,oO 46 (.conv .u64 (.t 45)),oO 47 (.call 76 [(.t 46),(kI 4)] none),aO 48 9 1,aA 49 48,oO 50 (.call 76 [(.t 49),(kI 8)] none),aO 51 10 1,aA 52 51,oO 53 (.call 76 [(.t 52),(kI 8)] none),aO 54 11 1,aA 55 54,oO 56 (.call 76 [(.t 55),(kI 8)] none),aO 57 12 1,aA 58 57,oO 59 (.call 76 [(.t 58),(kI 8)] none),oO 60 (.bldSl false 11 1 (.sl []) [(0,(.t 23)),(1,(.t 27)),(2,(.t 31)),(3,(.t 35)),(4,(.t 39)),(5,(.t 43)),(6,(.t 47)),(7,(.t 50)),(8,(.t 53)),(9,(.t 56)),(10,(.t 59))]),oO 61 (.call 44 [(.t 60)] (some (0,1))),oM 2 61,ak 3 0] .ret))),[(2,none),(3,none)]⟩
theorem agi:aI Tryz.prog { own:=[61] } Tryz.f142=some Hj:=by kernel_rfl
theorem ajZ (G:au) (h:Hd) (hf:sF h):aF Tryz.prog G 142 [fD h] (.tup [.c (.d (.sl ((D3 h).map bD))),.c (.d (.int .i64 (jn h)))]):=by
  refine aT Tryz.func142 agi rfl rfl ?_;have c1:=Wg G h;unfold D3 jn at *
  by_cases hv:mm h=true
  ·have hr:tX h:=of_decide_eq_true hv;rw[if_pos hv] at c1 ⊢;rw[if_pos hv];obtain⟨o1,o2,o3,o4,o5,o6,o7,o8,o9,o10,o11⟩:=hr;obtain⟨f1,f2,f3,f4,f5,f6,f7⟩:=hf;have p1:=Cq G (h.lp*64+h.vr*8+h.md);have p2:=Cq G h.st;have p3:=Cq G h.pl;have p4:=Cq G h.pr;rw[u64_in _ (by omega) (by omega)] at p1 p2;rw[HP] at p3 p4;have p5:=iD G h.rd 4 (by decide);have p6:=iD G h.rp 4 (by decide);have p7:=iD G h.ri 4 (by decide);have p8:=iD G h.rf 8 (by decide);have p9:=iD G h.og 8 (by decide);have pA:=iD G h.rc 8 (by decide);have pB:=iD G h.tr 8 (by decide);rw[show (4:Int).toNat=4 from rfl] at p5 p6 p7;rw[show (8:Int).toNat=8 from rfl] at p8 p9 pA pB;have cj:=dV G [[eI (h.lp*64+h.vr*8+h.md)],[eI h.st],[eI h.pl],[eI h.pr],aC h.rd 4,aC h.rp 4,aC h.ri 4,aC h.rf 8,aC h.og 8,aC h.rc 8,aC h.tr 8] (by simp) (by simp[bO]);have ef:([[eI (h.lp*64+h.vr*8+h.md)],[eI h.st],[eI h.pl],[eI h.pr],aC h.rd 4,aC h.rp 4,aC h.ri 4,aC h.rf 8,aC h.og 8,aC h.rc 8,aC h.tr 8]:List (List UInt8)).flatten=eZ h:=by
     unfold eZ zp;simp only[apd,apf,aoF,ape,apa]
   rw[ef] at cj;have ho:=ajQ o1 o2 (v:=h.vr) (by omega) (by omega) o4 o5;unfold fD at *
   generalize eZ h=B at *
   generalize aC h.rd 4=B5 at *
   generalize aC h.rp 4=B6 at *
   generalize aC h.ri 4=B7 at *
   generalize aC h.rf 8=B8 at *
   generalize aC h.og 8=B9 at *
   generalize aC h.rc 8=BA at *
   generalize aC h.tr 8=BB at *
   generalize [eI h.st]=B2 at *
   generalize [eI h.pl]=B3 at *
   generalize [eI h.pr]=B4 at *
   generalize hF:h.lp*64+h.vr*8+h.md=F at *
   generalize [eI F]=B1 at *
   simp only[aos,aoA] at cj;simp only[Hj,ai,af,seval];refine sC (c1) ?_;simp only[ho,IntKind.bits,af,seval,iteOmega,toNatUp];refine sD (p1) ?_;refine sD (p2) ?_;refine sD (p3) ?_;refine sD (p4) ?_;refine sD (p5) ?_;refine sD (p6) ?_;refine sD (p7) ?_;refine sD (p8) ?_;refine sD (p9) ?_;refine sD (pA) ?_;refine sD (pB) ?_;refine sD (cj) ?_;exact bu
  ·have hv:mm h=false:=by simpa using hv
   rw[hv] at c1 ⊢;rw[if_neg (by decide:¬ false=true)] at c1;rw[if_neg (by decide:¬ false=true),if_neg (by decide:¬ false=true)];unfold fD at *
   simp only[Hj,ai,af,seval];refine sD (c1) ?_;exact eW (by simp only[af,seval] <;> rfl) (by simp only[af,seval])
def fu (l:List Fd) (k:Int):Nat→List Int
  | 0=>[]
  | n+1=>fu l k n++(if (l.getD n default).ty=k then [(n:Int)] else [])
def bM (l:List Fd) (k:Int):List Int:=fu l k l.length
theorem Hk (l:List Fd) (k:Int):∀ n,(fu l k n).length≤n
  | 0=>aoz _
  | n+1=>by
    have:=Hk l k n;rw[fu,aoq];split <;> simp <;> omega
theorem Dd {l:List Fd} {k:Int} {n:Nat} (h:(l.getD n default).ty=k):fu l k (n+1)=fu l k n++[(n:Int)]:=by rw[fu,if_pos h]
theorem De {l:List Fd} {k:Int} {n:Nat} (h:(l.getD n default).ty≠k):fu l k (n+1)=fu l k n:=by rw[fu,if_neg h,aoF]
def Df (l:List Fd) (k:Int) (i:Nat):St:=⟨bz [(1,.w (.c (.d (.int .i64 k)))),(5,.w (.c (.own 1 1 0 (fu l k i).length))),(8,.w (.c (.d (.sl (l.map bg))))),(9,.w (.c (.d (.int .i64 (l.length:Int))))),(10,.w (.c (.d (.int .i64 (i:Int)))))],hL [(1,.row 1 ((fu l k i).map zD))],uL [1]⟩
def Ad:bq := ae [aU .lss 11 10 9] (.seq (aw 11 .skip (.exit 0)) (.seq (.block 1 (ae [oM 12 10,bW 13 2 8 10,bn 14 2 13,oO 7 (.alloc [ah,.nil]),oM 6 12,aS 2 7 14] (ae [aO 15 0 7,aA 16 15,oM 17 1,aU .eql 18 16 17] (aw 18 (.reg [oM 19 5,oM 20 6,oO 21 (.bldSl false 1 1 ej [(0,(.t 20))]),oO 22 (.app false 1 8 (.t 19) (.t 21)),oM 5 22]) .skip)))) (.reg [am .add 23 10 1,oM 10 23])))
def SU:aK:=⟨2,25,ae [aM 4] (ae [oO 5 (.nilOwn 1)] (.seq (ae [oM 8 0,bc 9 8,ak 10 0] (.block 0 (.loop Ad))) (ae [oM 24 5,oM 4 24] .ret))),[(4,none)]⟩
theorem agj:aI Tryz.prog { own:=[5] } Tryz.f53=some SU:=by kernel_rfl
set_option maxHeartbeats 1600000 in
theorem rG (G:au) (l:List Fd) (k:Int) (hl:l.length≤1000000):aF Tryz.prog G 53 [.sl (l.map bg),.int .i64 k] (.w (.c (.d (.sl ((bM l k).map zD))))):=by
  refine aT Tryz.func53 agj rfl rfl ?_;have e0:fu l k 0=[]:=rfl;simp only[SU,ai,af,seval];refine bQ (Df l k) (fun i=>l.length-i) (fun i=>i≤l.length) 0 (aoy _) ?_ ?_
  ·refine aV (fun i=>40) ?_ ?_ rfl rfl <;> simp only[wx,aH,seval,e0]
  ·intro i hi;have hb:=Hk l k i;have az:=Pi (fu l k i);by_cases hlt:i<l.length
   ·have g:=lU hlt;by_cases hk:(l.getD i default).ty=k
    ·have hs:=Dd hk;have hk':((l.getD i default).ty=k)=True:=eq_true hk;generalize l.getD i default=x at *
     simp only[Ad,Df,af,aa,seval,iteOmega,toNatUp,ba,g,bg,hk',cG];refine bA (i+1) (by omega) (by omega) (aV (fun _=>176) ?_ ?_ rfl rfl) <;> simp only[hs,aoH,zD,wx,aH,aY,seval]
    ·have hs:=De hk;have hk':((l.getD i default).ty=k)=False:=eq_false hk;generalize l.getD i default=x at *
     simp only[Ad,Df,af,aa,seval,iteOmega,toNatUp,ba,g,bg,hk'];refine bA (i+1) (by omega) (by omega) (aV (fun i=>i) ?_ ?_ rfl rfl) <;> simp only[hs,wx,aH,aY,seval]
   ·have hil:i=l.length:=by omega
    have e1:fu l k i=bM l k:=by rw[hil]; rfl
    simp only[Ad,Df,af,seval,iteOmega,e1];exact aZ
theorem amG (z:Nat):Int.tmod (z:Int) 4=((z%4:Nat):Int):=by
  rfl
theorem adI (l:List UInt8) (p:Nat):dO (l.drop p) 0=dO l p:=by
  unfold dO aG;rw[ap8,aph]
def mI (rest z:Nat):Nat:=if jx rest z=0 then z else 0
def u9:aK:=⟨1,24,ae [ak 2 0,ak 3 0] (.seq (ae [oM 5 0,bc 6 5,am .lss 7 6 4] (aw 7 (ae [ak 2 0,ak 3 1] .ret) .skip)) (ae [oM 8 0,oO 9 (.slice 1 (.t 8) (some (kI 2)) (some (kI 4)) none),aW 10 81 9,oO 11 (.conv .i64 (.t 10)),oM 4 11] (.seq (ae [oM 12 4,am .rem 13 12 4,am .neq 14 13 0,oM 15 14,bE 16 4 15 false,cu .lss 17 16 16 15 false,cC 18 15 17] (aw 18 (ae [ak 2 0,ak 3 3] .ret) .skip)) (.seq (ae [oM 19 0,bc 20 19,oM 21 4,aU .lss 22 20 21] (aw 22 (ae [ak 2 0,ak 3 1] .ret) .skip)) (ae [oM 23 4,oM 2 23,ak 3 0] .ret))))),[(2,none),(3,none)]⟩
theorem agk:aI Tryz.prog {} Tryz.f152=some u9:=by kernel_rfl
theorem aj0 (G:au) (l:List UInt8) (hl:l.length≤9000000000000000000):aF Tryz.prog G 152 [.sl (l.map bD)] (.tup [.c (.d (.int .i64 (mI l.length (dO l 0):Int))),.c (.d (.int .i64 (jx l.length (dO l 0))))]):=by
  refine aT Tryz.func152 agk rfl rfl ?_;rcases aoP l.length 4 with h1 | h1
  ·have e:jx l.length (dO l 0)=1:=if_pos h1;have e2:mI l.length (dO l 0)=0:=by unfold mI; rw[e]; rfl
   rw[e,e2];simp only[u9,ai,af,seval,iteOmega];exact bu
  ·have c:=ku G (aG l 2 2) (by rw[fj (by omega)]; decide);have e0:dO l 0=bi (aG l 2 2):=rfl;have hz:=aif l 0 (by omega);rw[← e0] at c;have ed:(l.drop 2).take (4-2)=aG l 2 2:=rfl;have hm:=amG (dO l 0);generalize dO l 0=z at *
   have ef:jx l.length z=if z%4≠0∨z<16 then 3 else if l.length<z then 1 else 0:=if_neg (by omega)
   by_cases h2:z%4=0
   ·have g2:(((z%4:Nat):Int)=0)=True:=eq_true (by omega);rcases aoP z 16 with h3 | h3
    ·have e:jx l.length z=3:=by rw[ef,if_pos (.inr h3)]
     have e2:mI l.length z=0:=by unfold mI; rw[e]; rfl
     rw[e,e2];simp only[u9,ai,af,seval,iteOmega,toNatUp];refine bK c rfl (.inl rfl) ?_;simp only[af,seval,iteOmega,hm,g2];exact bu
    ·rcases aoP l.length z with h4 | h4
     ·have e:jx l.length z=1:=by rw[ef,if_neg (by omega),if_pos h4]
      have e2:mI l.length z=0:=by unfold mI; rw[e]; rfl
      rw[e,e2];simp only[u9,ai,af,seval,iteOmega,toNatUp];refine bK c rfl (.inl rfl) ?_;simp only[af,seval,iteOmega,hm,g2];exact bu
     ·have e:jx l.length z=0:=by rw[ef,if_neg (by omega),if_neg (by omega)]
      have e2:mI l.length z=z:=if_pos e;rw[e,e2];simp only[u9,ai,af,seval,iteOmega,toNatUp];refine bK c rfl (.inl rfl) ?_;simp only[af,seval,iteOmega,hm,g2];exact bu
   ·have e:jx l.length z=3:=by rw[ef,if_pos (.inl h2)]
    have e2:mI l.length z=0:=by unfold mI; rw[e]; rfl
    have g2:(((z%4:Nat):Int)=0)=False:=eq_false (by omega);rw[e,e2];simp only[u9,ai,af,seval,iteOmega,toNatUp];refine bK c rfl (.inl rfl) ?_;simp only[af,seval,iteOmega,hm,g2];exact bu
def uc (sz:Nat):Nat→List D→List (Nat×Ob)
  | 0,_=>[(1,.box [.nil])]
  | _+1,es=>[(1,.box [.own 3 sz 0 es.length]),(3,.row sz es)]
theorem agl (sz n:Nat) (es:List D):((uc sz n es).all fun p=>p.2.ids.all fun j=>((uc sz n es).map (·.1)).contains j)=true:=by
  cases n <;> rfl
def wH (sz:Nat) (E:Nat→List D):Nat→aL
  | 0=>hL [(1,.box [.nil])]
  | k+1=>hL [(1,.box [.own 2 sz 0 (E (k+1)).length]),(2,.row sz (E (k+1)))]
def Ko:Nat→Nat→Bool
  | 0=>uL [1]
  | _+1=>uL [1,2]
def v6 (l:List UInt8) (F:Nat) (cs:List D) (sz:Nat) (E:Nat→List D) (k:Nat):St :=
  ⟨bz [(0,.w (.c (.d (.sl (l.map bD))))),(1,.w (.c (.cf F [] (cs.map Cp.d++[.p 1 1 0 0])))),(5,.w (.c (.d (.int .i64 (bL l k:Int))))),(6,.w (.c (.d (.int .i64 (k:Int)))))],wH sz E k,Ko k⟩
theorem SV (F:Nat) (cs:List D) (m1:List (Nat×Ob)):Km [1] [(1,.box [.nil])] m1 [(1,.c (.cf F [] (cs.map Cp.d++[.p 1 1 0 0])))] :=
  ⟨by simp,fun id h _=>⟨_,aou.2 rfl,by simp at h; subst h; simp[W.lnk,Cp.ids,u5]⟩⟩
theorem Bj {σ:St} {x0:W} {x:Int} {F:Nat} {cs:List D} {sz:Nat} {E:Nat→List D} (k:Nat) (h1:σ.f 1=.w (.c (.cf F [] (cs.map Cp.d++[.p 1 1 0 0])))) (h4:σ.f 4=.w (.c (.d (.int .i64 x)))) (hh:σ.h=wH sz E k) :
    vX σ [(4,none)] [1] [x0,.c (.cf F [] (cs.map Cp.d++[.p 1 1 0 0]))] [(1,.box [.nil])] (.w (.c (.d (.int .i64 x)))) (uc sz k (E k)):=by
  cases k with
  | zero =>
    refine rP [] [(1,.c (.cf F [] (cs.map Cp.d++[.p 1 1 0 0])))] (ws:=[.c (.d (.int .i64 x))]) ?_ rfl ?_ rfl ?_ (SV F cs _)
    ·simp only[bB,cV,h4,lj]
    ·rw[hh]; simp only[wH,kD,uc,wx,aH,seval,de]
    ·simp only[qR,h1,wx,seval,de,aoH]
  | succ k =>
    refine rP [(3,2)] [(1,.c (.cf F [] (cs.map Cp.d++[.p 1 1 0 0])))] (ws:=[.c (.d (.int .i64 x))]) ?_ rfl ?_ rfl ?_ (SV F cs _)
    ·simp only[bB,cV,h4,lj]
    ·rw[hh]; simp only[wH,kD,uc,wx,aH,seval,de]
    ·simp only[qR,h1,wx,seval,de,aoH]
def nD (p z:Nat) (cs:List D):List W:=.c (.d (.int .i64 (p:Int)))::.c (.d (.int .i64 (z:Int)))::(cs.map (fun x=>W.c (.d x))++[.c (.ptr 1 1 0 0)])
def uz:bq := .seq (ae [oM 12 5,oM 13 0,bc 14 13,aU .lss 15 12 14] (aw 15 .skip (.exit 0))) (.seq (.block 1 (ae [oM 19 0,oM 20 5,oO 21 (.slice 1 (.t 19) (some (.t 20)) none none),aW 22 152 21,oM 18 22,aB 23 18 0,aB 24 18 1,oM 7 23,oM 8 24] (.seq (ae [oM 25 8,am .neq 26 25 0] (aw 26 (ae [oM 27 8,oM 4 27] .ret) .skip)) (.seq (ae [oM 28 6,am .eql 29 28 24] (aw 29 (ae [ak 4 8] .ret) .skip)) (ae [oM 30 1,oM 31 5,oM 32 7,oO 33 (.callM 1000000007 [(.t 30),(.t 31),(.t 32)])] (.reg [oM 34 5,oM 35 7,aU .add 36 34 35,oM 5 36])))))) (.reg [oM 16 6,am .add 17 16 1,oM 6 17]))
def Hl:aK:=⟨2,37,ae [ak 4 0] (.seq (ae [oM 9 0,bc 10 9,am .gtr 11 10 1232] (aw 11 (ae [ak 4 2] .ret) .skip)) (ae [ak 5 0] (.seq (ae [ak 6 0] (.block 0 (.loop uz))) (ae [ak 4 0] .ret)))),[(4,none)]⟩
theorem agm:aI Tryz.prog { mt:=[33],mv:=true } Tryz.f120=some Hl:=by kernel_rfl
theorem Wj (G:au) (l:List UInt8) (hl:l.length≤9000000000000000000) (F:FuncId) (cs:List D) (sz:Nat) (E:Nat→List D) (he:∀ (args:Array Value) (w:World),(callFunc F args).run Tryz.prog w=.ok (.enter F args) w)
    (h0:0<jl l→kx Tryz.prog G F (nD (bL l 0) (dO l (bL l 0)) cs) [(1,.box [.nil])] (.tup []) [(1,.box [.own 3 sz 0 (E 1).length]),(3,.row sz (E 1))])
    (hs:∀ k,k+1<jl l→kx Tryz.prog G F (nD (bL l (k+1)) (dO l (bL l (k+1))) cs) [(1,.box [.own 2 sz 0 (E (k+1)).length]),(2,.row sz (E (k+1)))] (.tup []) [(1,.box [.own 3 sz 0 (E (k+2)).length]),(3,.row sz (E (k+2)))]) :
    kx Tryz.prog G 120 [.c (.d (.sl (l.map bD))),.c (.cf F [] (cs.map Cp.d++[.p 1 1 0 0]))] [(1,.box [.nil])] (.w (.c (.d (.int .i64 (fh l))))) (uc sz (jl l) (E (jl l))):=by
  refine uv Tryz.func120 agm [1] rfl rfl rfl (by simp[W.ids,C.ids,Cp.ids,u5]) (agl _ _ _) rfl rfl ?_;have hlnk:∀ m1,Km [1] [(1,.box [.nil])] m1 [(1,.c (.cf F [] (cs.map Cp.d++[.p 1 1 0 0])))]:=fun m1=>⟨by simp,fun id h _=>⟨_,aou.2 rfl,by simp at h; subst h; simp[W.lnk,Cp.ids,u5]⟩⟩
  rcases aoP 1232 l.length with h1 | h1
  ·have e1:fh l=2:=if_pos h1;have e2:jl l=0:=if_pos h1;rw[e1,e2];have g1:((l.length:Int)>1232)=True:=eq_true (by omega);simp only[Hl,iH,uc,kS,af,seval,g1];exact Bj (E:=E) (sz:=sz) 0 (by simp only[af,seval]) (by simp only[af,seval]) rfl
  ·have eN:jl l=fU l:=if_neg (by omega);have eE:fh l=(fP l (fU l)).getD 0:=if_neg (by omega);obtain⟨c1,c2,c3⟩:=uX l;rw[eN] at h0 hs ⊢;have g1:((l.length:Int)>1232)=False:=eq_false (by omega);simp only[Hl,iH,af,seval,g1];refine bQ (v6 l F cs sz E) (fun k=>fU l-k) (fun k=>k≤fU l) 0 (aoy _) ?_ ?_
   ·refine aV (fun i=>i) ?_ ?_ rfl (by simp[V.ids,W.ids,C.ids,Ob.ids,Cp.ids,u5]) <;> simp only[bL,wx,aH,seval,de,aoH]
   ·intro k hk;have hp:=HV l k hk;have cf:=aj0 G (l.drop (bL l k)) (by simp; omega);rw[adI,aoB] at cf;have et:(l.drop (bL l k)).take (l.length-bL l k)=l.drop (bL l k):=aot (by simp);have hend:∀ x,fP l k=some x→fU l=k∧fh l=x:=fun x hx=>by
      have e:fU l=k:=by
        rcases aoP k (fU l) with h | h
        ·rw[c3 k h] at hx; cases hx
        ·omega
      exact⟨e,by rw[eE,e,hx]; rfl⟩
    cases hst:fP l k with
    | some x =>
      obtain⟨e1,e2⟩:=hend x hst;rw[e1,e2];clear hend e1 e2 hs h0 c3 c2 eE eN;unfold fP at hst;split at hst
      ·rename_i q1;obtain rfl:=Option.some.inj hst;simp only[uz,v6,kS,af,seval,iteOmega];exact Bj k (by simp only[af,seval]) (by simp only[af,seval]) rfl
      ·rename_i q1;have q1':(bL l k:Int)<(l.length:Int):=by omega
       split at hst
       ·rename_i q2;obtain rfl:=Option.some.inj hst;have q3:(jx (l.length-bL l k) (dO l (bL l k))=0)=False:=eq_false q2;generalize jx (l.length-bL l k) (dO l (bL l k))=e at *
        generalize mI (l.length-bL l k) (dO l (bL l k))=z at *
        simp only[uz,v6,af,seval,iteOmega,toNatUp,et];refine sC (cf) ?_;simp only[q3,kS,af,seval];exact Bj k (by simp only[af,seval]) (by simp only[af,seval]) rfl
       ·rename_i q2;have q2:jx (l.length-bL l k) (dO l (bL l k))=0:=by simpa using q2
        rw[q2] at cf;split at hst
        ·rename_i q3;obtain rfl:=Option.some.inj hst;have q4:((k:Int)=24)=True:=eq_true (by omega);generalize mI (l.length-bL l k) (dO l (bL l k))=z at *
         simp only[uz,v6,af,seval,iteOmega,toNatUp,et];refine sC (cf) ?_;simp only[q4,kS,af,seval];exact Bj k (by simp only[af,seval]) (by simp only[af,seval]) rfl
        ·cases hst
    | none =>
      obtain⟨q1,q2,q3⟩:=Pk hst;obtain⟨q4,q5,q6,_⟩:=HU hst;have hkc:k<fU l:=by
        rcases aoP k (fU l) with h | h
        ·exact h
        ·have:fU l=k:=by omega
         rw[this,hst] at c2; cases c2
      have ez:mI (l.length-bL l k) (dO l (bL l k))=dO l (bL l k):=if_pos q2;rw[q2,ez] at cf;have q1':(bL l k:Int)<(l.length:Int):=by omega
      have hpl:bL l (k+1)=bL l k+dO l (bL l k):=rfl;have q7:((k:Int)=24)=False:=eq_false (by omega);rcases k with _ | k
      ·have hc:=h0 (by omega);clear hend hs h0 c3 c2 eE eN hst;generalize dO l (bL l 0)=z at *
       simp only[uz,v6,wH,Ko,af,seval,iteOmega,toNatUp,et];refine sC (cf) ?_;simp only[af,seval];refine X9 (pre:=[]) (post:=cs.map Cp.d++[.p 1 1 0 0]) [.c (.d (.int .i64 (bL l 0:Int))),.c (.d (.int .i64 (z:Int)))] [(3,1000)] hc he ?_ ?_ ?_ rfl rfl ?_
       ·simp only[af,seval]
       ·simp only[nD,af,seval,de,aoH]
       ·simp only[wx,aH,seval,de]
       ·simp only[af,seval,iteOmega,de];refine bA 1 (by omega) (by omega) (aV (fun i=>if i=2 then 1000 else i) ?_ ?_ rfl (by simp[V.ids,W.ids,C.ids,Ob.ids,Cp.ids,u5])) <;> simp only[hpl,wx,aH,aY,seval,de,aoH]
      ·have hc:=hs k (by omega);clear hend hs h0 c3 c2 eE eN hst;have q8:((k:Int)+1=24)=False:=eq_false (by omega);generalize dO l (bL l (k+1))=z at *
       simp only[uz,v6,wH,Ko,af,seval,iteOmega,toNatUp,et];refine sC (cf) ?_;simp only[q8,af,seval];refine X9 (pre:=[]) (post:=cs.map Cp.d++[.p 1 1 0 0]) [.c (.d (.int .i64 (bL l (k+1):Int))),.c (.d (.int .i64 (z:Int)))] [(3,1000)] hc he ?_ ?_ ?_ rfl rfl ?_
       ·simp only[af,seval]
       ·simp only[nD,af,seval,de,aoH]
       ·simp only[wx,aH,seval,de]
       ·simp only[af,seval,iteOmega,de];refine bA (k+1+1) (by omega) (by omega) (aV (fun i=>if i=2 then 1000 else i) ?_ ?_ rfl (by simp[V.ids,W.ids,C.ids,Ob.ids,Cp.ids,u5])) <;> simp only[hpl,wx,aH,aY,seval,de,aoH]
def sq (l:List UInt8) (p z:Nat):Fd:=⟨(bi (aG l p 2):Int),aG l (p+4) (z-4)⟩
theorem Wl {l:List UInt8} {p z:Nat} (h4:4≤z) (hz:p+z≤l.length):((l.drop p).take (p+z-p)).length=z∧((l.drop p).take (p+z-p)).take 2=aG l p 2∧(((l.drop p).take (p+z-p)).drop 4).take (z-4)=aG l (p+4) (z-4):=by
  rw[aqa];refine⟨by simp; omega,?_,?_⟩
  ·rw[aqe,apM (by omega)]; rfl
  ·rw[List.drop_take,aqe,Nat.min_self,ap8]; rfl
def Hm:aK:=⟨4,25,ae [aA 7 2,oM 8 0,oM 9 0,oM 10 1,aU .add 11 9 10,oO 12 (.slice 1 (.t 7) (some (.t 8)) (some (.t 11)) none),oM 6 12] (.reg [aA 13 3,oM 14 6,oO 15 (.slice 1 (.t 14) none (some (kI 2)) none),aW 16 81 15,oO 17 (.conv .i64 (.t 16)),oM 18 6,oO 19 (.slice 1 (.t 18) (some (kI 4)) none none),oO 20 (.bldSl false 1 1 (.sl []) [(0,(.t 19))]),aW 21 44 20,oO 22 (.build [ah,.nil] [(0,1,(.t 17)),(1,1,(.t 21))]),oO 23 (.bldSl false 1 2 (.agg [ej,(.sl [])]) [(0,(.t 22))]),oO 24 (.app false 2 32 (.t 13) (.t 23)),ei 3 24]),[]⟩
theorem SY:aI Tryz.prog {} Tryz.f125=some Hm:=by kernel_rfl
theorem aj1 (G:au) (l:List UInt8) (p z:Nat) (h4:4≤z) (hz:p+z≤l.length) (hl:l.length≤1232):kx Tryz.prog G 125 (nD p z [.ref [.sl (l.map bD)]]) [(1,.box [.nil])] (.tup []) [(1,.box [.own 3 2 0 1]),(3,.row 2 [bg (sq l p z)])]:=by
  unfold nD;refine uv Tryz.func125 SY [3] rfl rfl rfl rfl rfl rfl rfl ?_;have c1:=ku G (aG l p 2) (by rw[fj (by omega)]; decide);have hty:=(jc 2 (aG l p 2) (fj (by omega)) (by decide)).1;have cj:=dV G [aG l (p+4) (z-4)] (by simp) (by simp[fj (show p+4+(z-4)≤l.length by omega)]; omega);simp only[aos,aoA,apd,apf,aoF] at cj;obtain⟨q0,q1,q2⟩:=Wl h4 hz;unfold sq bg;generalize bi (aG l p 2)=ty at *
  generalize aG l p 2=B1 at *
  generalize aG l (p+4) (z-4)=B2 at *
  simp only[Hm,iH,af,seval,iteOmega,toNatUp,q0,q1];refine sC (c1) ?_;simp only[q0,q2,af,seval,iteOmega,toNatUp];refine sC (cj) ?_;simp only[cG,mQ,af,aa,seval];refine rP [(3,192)] [(3,.c (.ptr 1 1 0 0))] (ws:=[]) rfl rfl ?_ rfl ?_ ⟨by simp,fun id h _=>⟨_,aou.2 rfl,by simp at h; subst h; simp[W.lnk]⟩⟩ <;> simp only[qR,wx,aH,seval,de]
theorem aj2 (G:au) (l:List UInt8) (p z:Nat) (h4:4≤z) (hz:p+z≤l.length) (hl:l.length≤1232) (es:List Fd) (he:es.length≤24):kx Tryz.prog G 125 (nD p z [.ref [.sl (l.map bD)]]) [(1,.box [.own 2 2 0 (es.map bg).length]),(2,.row 2 (es.map bg))] (.tup []) [(1,.box [.own 3 2 0 ((es++[sq l p z]).map bg).length]),(3,.row 2 ((es++[sq l p z]).map bg))]:=by
  unfold nD;refine uv Tryz.func125 SY [3] rfl rfl rfl rfl rfl rfl rfl ?_;have c1:=ku G (aG l p 2) (by rw[fj (by omega)]; decide);have hty:=(jc 2 (aG l p 2) (fj (by omega)) (by decide)).1;have cj:=dV G [aG l (p+4) (z-4)] (by simp) (by simp[fj (show p+4+(z-4)≤l.length by omega)]; omega);simp only[aos,aoA,apd,apf,aoF] at cj;obtain⟨q0,q1,q2⟩:=Wl h4 hz;rw[show (es++[sq l p z]).map bg=es.map bg++[bg (sq l p z)] by simp];unfold sq;rw[show bg ⟨(bi (aG l p 2):Int),aG l (p+4) (z-4)⟩=.agg [.int .i64 (bi (aG l p 2):Int),.sl ((aG l (p+4) (z-4)).map bD)] from rfl];generalize bi (aG l p 2)=ty at *
  generalize aG l p 2=B1 at *
  generalize aG l (p+4) (z-4)=B2 at *
  have hel:(es.map bg).length≤24:=by simpa using he
  generalize es.map bg=E at *
  simp only[Hm,iH,af,seval,iteOmega,toNatUp,q0,q1];refine sC (c1) ?_;simp only[q0,q2,af,seval,iteOmega,toNatUp];refine sC (cj) ?_;simp only[cG,mQ,af,aa,seval,iteOmega];refine rP [(3,192)] [(3,.c (.ptr 1 1 0 0))] (ws:=[]) rfl rfl ?_ rfl ?_ ⟨by simp,fun id h _=>⟨_,aou.2 rfl,by simp at h; rcases h with rfl | rfl <;> simp[W.lnk] at *⟩⟩ <;> simp only[qR,wx,aH,seval,de]
theorem aj3:∀ (args:Array Value) (w:World),(callFunc 125 args).run Tryz.prog w=.ok (.enter 125 args) w:=enters_of Tryz.func125 (by kernel_rfl) rfl
def Hn:aK:=⟨3,9,.reg [aA 5 2,oM 6 0,oO 7 (.bldSl false 1 1 ej [(0,(.t 6))]),oO 8 (.app false 1 8 (.t 5) (.t 7)),ei 2 8],[]⟩
theorem SZ:aI Tryz.prog {} Tryz.f121=some Hn:=by kernel_rfl
theorem aj4 (G:au) (p z:Nat):kx Tryz.prog G 121 (nD p z []) [(1,.box [.nil])] (.tup []) [(1,.box [.own 3 1 0 1]),(3,.row 1 [.int .i64 (p:Int)])]:=by
  unfold nD;refine uv Tryz.func121 SZ [2] rfl rfl rfl rfl rfl rfl rfl ?_;simp only[Hn,iH,mQ,cG,af,aa,seval];refine rP [(3,64)] [(2,.c (.ptr 1 1 0 0))] (ws:=[]) rfl rfl ?_ rfl ?_ ⟨by simp,fun id h _=>⟨_,aou.2 rfl,by simp at h; subst h; simp[W.lnk]⟩⟩ <;> simp only[qR,wx,aH,seval,de]
theorem aj5 (G:au) (p z:Nat) (es:List Int) (he:es.length≤24):kx Tryz.prog G 121 (nD p z []) [(1,.box [.own 2 1 0 (es.map zD).length]),(2,.row 1 (es.map zD))] (.tup []) [(1,.box [.own 3 1 0 ((es++[(p:Int)]).map zD).length]),(3,.row 1 ((es++[(p:Int)]).map zD))]:=by
  unfold nD;refine uv Tryz.func121 SZ [2] rfl rfl rfl rfl rfl rfl rfl ?_;rw[show (es++[(p:Int)]).map zD=es.map zD++[zD (p:Int)] by simp];have hel:(es.map zD).length≤24:=by simpa using he
  generalize es.map zD=E at *
  unfold zD;simp only[Hn,iH,mQ,cG,af,aa,seval,iteOmega];refine rP [(3,64)] [(2,.c (.ptr 1 1 0 0))] (ws:=[]) rfl rfl ?_ rfl ?_ ⟨by simp,fun id h _=>⟨_,aou.2 rfl,by simp at h; rcases h with rfl | rfl <;> simp[W.lnk] at *⟩⟩ <;> simp only[qR,wx,aH,seval,de]
theorem aj6:∀ (args:Array Value) (w:World),(callFunc 121 args).run Tryz.prog w=.ok (.enter 121 args) w:=enters_of Tryz.func121 (by kernel_rfl) rfl
theorem Cr (l:List UInt8):jl l≤24∧∀ k,k<jl l→l.length≤1232∧k<fU l:=by
  have h:=(uX l).1;unfold jl;split
  ·exact⟨by omega,fun k hk=>by omega⟩
  ·exact⟨h,fun k hk=>⟨by omega,hk⟩⟩
theorem Wm {l:List UInt8} {k:Nat} (hk:k<jl l):l.length≤1232∧4≤dO l (bL l k)∧bL l k+dO l (bL l k)≤l.length:=by
  obtain⟨h1,h2⟩:=(Cr l).2 k hk;have:=HU ((uX l).2.2 k h2);omega
def xT:aK:=⟨1,13,ae [cW 1 0,aM 2,ak 3 0] (ae [oO 4 (.alloc [.nil])] (ae [aA 6 1,oO 7 (.closM 125 [] [(.t 1),(.t 4)]),oO 8 (.callM 120 [(.t 6),(.t 7)]),oM 5 8] (.seq (ae [oM 9 5,am .neq 10 9 0] (aw 10 (ae [oM 11 5,aM 2,oM 3 11] .ret) .skip)) (ae [aA 12 4,oM 2 12,ak 3 0] .ret)))),[(2,none),(3,none)]⟩
theorem agn:aI Tryz.prog { mt:=[7,8] } Tryz.f70=some xT:=by kernel_rfl
theorem Wn (G:au) (l:List UInt8) (hl:l.length≤9000000000000000000):aF Tryz.prog G 70 [.sl (l.map bD)] (.tup [.c (.d (.sl ((cH l).map bg))),.c (.d (.int .i64 (fh l)))]):=by
  refine aT Tryz.func70 agn rfl rfl ?_;have c:=Wj G l hl _ [.ref [.sl (l.map bD)]] 2 (fun k=>(kF l k).map bg) aj3 (fun h=>by
    obtain⟨h1,h2,h3⟩:=Wm h;exact aj1 G l (bL l 0) (dO l (bL l 0)) h2 h3 h1) (fun k h=>by
    obtain⟨h1,h2,h3⟩:=Wm h;have h4:=(Cr l).1;have:=aj2 G l (bL l (k+1)) (dO l (bL l (k+1))) h2 h3 h1 (kF l (k+1)) (by rw[GV]; omega);rw[show kF l (k+1)++[sq l (bL l (k+1)) (dO l (bL l (k+1)))]=kF l (k+2) from (acw l (k+1)).symm] at this;exact this)
  have hx:cH l=if fh l=0 then kF l (jl l) else []:=rfl
  rw[hx];generalize fh l=e at *
  cases hn:jl l with
  | zero =>
    rw[hn] at c;have c:kx Tryz.prog G _ [.c (.d (.sl (l.map bD))),.c (.cf 125 [] [.d (.ref [.sl (l.map bD)]),.p 1 1 0 0])] [(1,.box [.nil])] (.w (.c (.d (.int .i64 e)))) [(1,.box [.nil])]:=c;have hr:kF l 0=[]:=rfl;rw[hr,show (if e=0 then ([]:List Fd) else [])=[] by split <;> rfl];by_cases he:e=0
    ·have he':(e=0)=True:=eq_true he;simp only[xT,ai,gR,af,seval];refine pi [.c (.d (.sl (l.map bD))),.c (.cf 125 [] [.d (.ref [.sl (l.map bD)]),.p 32 1 0 0])] [(1,32)] c ?_ ?_ ?_ rfl rfl ?_
     ·simp only[af,seval]
     ·simp only[af,seval,de]
     ·simp only[wx,aH,seval,de]
     ·simp only[de,af,seval,he'];rw[he];exact eW (by simp only[af,seval]; try rfl) (by simp only[af,seval])
    ·have he':(e=0)=False:=eq_false he;simp only[xT,ai,gR,af,seval];refine pi [.c (.d (.sl (l.map bD))),.c (.cf 125 [] [.d (.ref [.sl (l.map bD)]),.p 32 1 0 0])] [(1,32)] c ?_ ?_ ?_ rfl rfl ?_
     ·simp only[af,seval]
     ·simp only[af,seval,de]
     ·simp only[wx,aH,seval,de]
     ·simp only[de,af,seval,he'];exact eW (by simp only[af,seval]; try rfl) (by simp only[af,seval])
  | succ n =>
    rw[hn] at c;have c:kx Tryz.prog G _ [.c (.d (.sl (l.map bD))),.c (.cf 125 [] [.d (.ref [.sl (l.map bD)]),.p 1 1 0 0])] [(1,.box [.nil])] (.w (.c (.d (.int .i64 e)))) [(1,.box [.own 3 2 0 ((kF l (n+1)).map bg).length]),(3,.row 2 ((kF l (n+1)).map bg))]:=c;by_cases he:e=0
    ·rw[if_pos he];have he':(e=0)=True:=eq_true he;simp only[xT,ai,gR,af,seval];refine pi [.c (.d (.sl (l.map bD))),.c (.cf 125 [] [.d (.ref [.sl (l.map bD)]),.p 32 1 0 0])] [(1,32),(3,1000)] c ?_ ?_ ?_ rfl rfl ?_
     ·simp only[af,seval]
     ·simp only[af,seval,de]
     ·simp only[wx,aH,seval,de]
     ·simp only[de,af,seval,he'];rw[he];exact eW (by simp only[af,seval,iteOmega]; try rfl) (by simp only[af,seval])
    ·rw[if_neg he];have he':(e=0)=False:=eq_false he;simp only[xT,ai,gR,af,seval];refine pi [.c (.d (.sl (l.map bD))),.c (.cf 125 [] [.d (.ref [.sl (l.map bD)]),.p 32 1 0 0])] [(1,32),(3,1000)] c ?_ ?_ ?_ rfl rfl ?_
     ·simp only[af,seval]
     ·simp only[af,seval,de]
     ·simp only[wx,aH,seval,de]
     ·simp only[de,af,seval,he'];exact eW (by simp only[af,seval]; try rfl) (by simp only[af,seval])
def xU:aK:=⟨1,13,ae [aM 2,ak 3 0] (ae [oO 4 (.alloc [.nil])] (ae [oM 6 0,oO 7 (.closM 121 [] [(.t 4)]),oO 8 (.callM 120 [(.t 6),(.t 7)]),oM 5 8] (.seq (ae [oM 9 5,am .neq 10 9 0] (aw 10 (ae [oM 11 5,aM 2,oM 3 11] .ret) .skip)) (ae [aA 12 4,oM 2 12,ak 3 0] .ret)))),[(2,none),(3,none)]⟩
theorem ago:aI Tryz.prog { mt:=[7,8] } Tryz.f68=some xU:=by kernel_rfl
theorem aj7 (G:au) (l:List UInt8) (hl:l.length≤9000000000000000000):aF Tryz.prog G 68 [.sl (l.map bD)] (.tup [.c (.d (.sl ((ox l).map zD))),.c (.d (.int .i64 (fh l)))]):=by
  refine aT Tryz.func68 ago rfl rfl ?_;have c:=Wj G l hl _ [] 1 (fun k=>(jT l k).map zD) aj6 (fun h=>aj4 G (bL l 0) (dO l (bL l 0))) (fun k h=>by
    have h4:=(Cr l).1;have:=aj5 G (bL l (k+1)) (dO l (bL l (k+1))) (jT l (k+1)) (by rw[aeF]; omega);rw[show jT l (k+1)++[(bL l (k+1):Int)]=jT l (k+2) from (acx l (k+1)).symm] at this;exact this)
  have hx:ox l=if fh l=0 then jT l (jl l) else []:=rfl
  rw[hx];generalize fh l=e at *
  cases hn:jl l with
  | zero =>
    rw[hn] at c;have c:kx Tryz.prog G _ [.c (.d (.sl (l.map bD))),.c (.cf 121 [] [.p 1 1 0 0])] [(1,.box [.nil])] (.w (.c (.d (.int .i64 e)))) [(1,.box [.nil])]:=c;have hr:jT l 0=[]:=rfl;rw[hr,show (if e=0 then ([]:List Int) else [])=[] by split <;> rfl];by_cases he:e=0
    ·have he':(e=0)=True:=eq_true he;simp only[xU,ai,gR,af,seval];refine pi [.c (.d (.sl (l.map bD))),.c (.cf 121 [] [.p 32 1 0 0])] [(1,32)] c ?_ ?_ ?_ rfl rfl ?_
     ·simp only[af,seval]
     ·simp only[af,seval,de]
     ·simp only[wx,aH,seval,de]
     ·simp only[de,af,seval,he'];rw[he];exact eW (by simp only[af,seval]; try rfl) (by simp only[af,seval])
    ·have he':(e=0)=False:=eq_false he;simp only[xU,ai,gR,af,seval];refine pi [.c (.d (.sl (l.map bD))),.c (.cf 121 [] [.p 32 1 0 0])] [(1,32)] c ?_ ?_ ?_ rfl rfl ?_
     ·simp only[af,seval]
     ·simp only[af,seval,de]
     ·simp only[wx,aH,seval,de]
     ·simp only[de,af,seval,he'];exact eW (by simp only[af,seval]; try rfl) (by simp only[af,seval])
  | succ n =>
    rw[hn] at c;have c:kx Tryz.prog G _ [.c (.d (.sl (l.map bD))),.c (.cf 121 [] [.p 1 1 0 0])] [(1,.box [.nil])] (.w (.c (.d (.int .i64 e)))) [(1,.box [.own 3 1 0 ((jT l (n+1)).map zD).length]),(3,.row 1 ((jT l (n+1)).map zD))]:=c;by_cases he:e=0
    ·rw[if_pos he];have he':(e=0)=True:=eq_true he;simp only[xU,ai,gR,af,seval];refine pi [.c (.d (.sl (l.map bD))),.c (.cf 121 [] [.p 32 1 0 0])] [(1,32),(3,1000)] c ?_ ?_ ?_ rfl rfl ?_
     ·simp only[af,seval]
     ·simp only[af,seval,de]
     ·simp only[wx,aH,seval,de]
     ·simp only[de,af,seval,he'];rw[he];exact eW (by simp only[af,seval,iteOmega]; try rfl) (by simp only[af,seval])
    ·rw[if_neg he];have he':(e=0)=False:=eq_false he;simp only[xU,ai,gR,af,seval];refine pi [.c (.d (.sl (l.map bD))),.c (.cf 121 [] [.p 32 1 0 0])] [(1,32),(3,1000)] c ?_ ?_ ?_ rfl rfl ?_
     ·simp only[af,seval]
     ·simp only[af,seval,de]
     ·simp only[wx,aH,seval,de]
     ·simp only[de,af,seval,he'];exact eW (by simp only[af,seval]; try rfl) (by simp only[af,seval])



end Go.Proofs.YtofonnokanoflaaGreatDoor
