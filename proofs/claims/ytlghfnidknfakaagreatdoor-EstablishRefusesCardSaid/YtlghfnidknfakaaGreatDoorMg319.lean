/- Texts of one's own, merged: from: Layer 21 on data: the reference: Encode,body,short,Numbers,all,Request,has,Choose,strange. Own work. -/
import Derived.Test.YtlghfnidknfakaaGreatDoorMg317
import Derived.Test.YtlghfnidknfakaaGreatDoorMg310
import Derived.Test.YtlghfnidknfakaaGreatDoorMg318
import Derived.Test.YtlghfnidknfakaaGreatDoorMg316
import Derived.Test.YtlghfnidknfakaaGreatDoorMg37
import Derived.Test.YtlghfnidknfakaaGreatDoorMg314
import Derived.Shelf.Abstract
import Derived.Test.YtlghfnidknfakaaGreatDoorMg39
set_option linter.unusedVariables false
set_option linter.unusedSimpArgs false
namespace Go.Proofs.YtlghfnidknfakaaGreatDoor
open Go.RowKit IntWalk
theorem Pq (a:Nat) (h:a<32768):bits .or .u64 (a:Int) 32768=((a+32768:Nat):Int):=by
  have e1:(BitVec.ofInt 64 (a:Int)).toNat=a:=by rw[BitVec.toNat_ofInt]; omega
  have e2:(BitVec.ofInt 64 (32768:Int)).toNat=32768:=by decide
  have e:32768 ||| a=a+32768:=by
    have:=Nat.two_pow_add_eq_or_of_lt (i:=15) (b:=a) (by omega) 1;rw[show 2^15*1=32768 from rfl] at this;rw[← this]; omega
  show IntKind.u64.wrap ((BitVec.ofInt 64 (a:Int) ||| BitVec.ofInt 64 (32768:Int)).toNat:Nat)=_
  rw[BitVec.toNat_or,e1,e2,Nat.or_comm,e,IntKind.wrap_u64];omega
theorem Nw (n:Int):bits .and .i64 n 32767=n%32768:=Ev 15 32767 (by decide) n (by decide)
def iU (l:List Ek) (i:Nat):St:=⟨aV [(0,.w (.c (.d (.sl (l.map aH))))),(4,.w (.c (.own 1 1 0 (dL l i).length))),(5,.w (.c (.d (.int .i64 (i:Int)))))],hL [(1,.row 1 ((dL l i).map bD))],uL [1]⟩
def iJ:aN := .seq (.seq (.reg [oM 8 5,oM 9 0,oO 10 (.len (.t 9)),oO 11 (.bin .lss (.t 8) (.t 10))]) (.cond (.t 11) (.skip) (.exit 0))) (.seq (.block 1 (.seq (.seq (.reg [oM 14 0,oM 15 5,oO 16 (.idxSl 3 (.t 14) (.t 15)),oO 17 (.fieldAddr 1 (.t 16)),oO 18 (.load .sc (.t 17)),oO 19 (.bin .lss (.t 18) (kI 0)),oM 20 19,oG 21 (.mv (.t 0)) 20 false,oG 22 (.mv (.t 5)) 20 false,oG 23 (.idxSl 3 (.t 21) (.t 22)) 20 false,oG 24 (.fieldAddr 1 (.t 23)) 20 false,oG 25 (.load .sc (.t 24)) 20 false,oG 26 (.bin .gtr (.t 25) (kI 32767)) 20 false,oO 27 (.pick (.t 20) (.k (.c (.d (.bool true)))) (.t 26))]) (.cond (.t 27) (.seq (.reg [oO 2 (.mv (.k (.c .nil))),oO 3 (.mv (kI 4))]) (.ret)) (.skip))) (.seq (.seq (.reg [oM 28 0,oM 29 5,oO 30 (.idxSl 3 (.t 28) (.t 29)),oO 31 (.fieldAddr 2 (.t 30)),oO 32 (.load .sc (.t 31)),
 oO 33 (.len (.t 32)),oO 34 (.bin .gtr (.t 33) (kI 65535))]) (.cond (.t 34) (.seq (.reg [oO 2 (.mv (.k (.c .nil))),oO 3 (.mv (kI 2))]) (.ret)) (.skip))) (.seq (.reg [oM 35 0,oM 36 5,oO 37 (.idxSl 3 (.t 35) (.t 36)),oO 38 (.fieldAddr 1 (.t 37)),oO 39 (.load .sc (.t 38)),oO 40 (.conv .u64 (.t 39)),oM 6 40]) (.seq (.seq (.reg [oM 41 0,oM 42 5,oO 43 (.idxSl 3 (.t 41) (.t 42)),oO 44 (.fieldAddr 0 (.t 43)),oO 45 (.load .sc (.t 44))]) (.cond (.t 45) (.reg [oM 46 6,oO 47 (.bin .or (.t 46) (.k (.c (.d (.int .u64 32768))))),oM 6 47]) (.skip))) (.seq (.reg [oM 48 4,oO 49 (.len (.t 48)),oO 50 (.bin .leq (.t 49) (kI 65535))]) (.cond (.t 50) (.reg [oM 51 4,oM 52 6,oO 53 (.call 44 [(.t 52),(kI 2)] none),oM 54 0,oM 55 5,oO 56 (.idxSl 3 (.t 54) (.t 55)),oO 57 (.fieldAddr 2 (.t 56)),oO 58 (.load .sc (.t 57)),
 oO 59 (.len (.t 58)),oO 60 (.conv .u64 (.t 59)),oO 61 (.call 44 [(.t 60),(kI 2)] none),oM 62 0,oM 63 5,oO 64 (.idxSl 3 (.t 62) (.t 63)),oO 65 (.fieldAddr 2 (.t 64)),oO 66 (.load .sc (.t 65)),oO 67 (.bldSl false 3 1 (.sl []) [(0,(.t 53)),(1,(.t 61)),(2,(.t 66))]),oO 68 (.call 43 [(.t 67)] none),oO 69 (.app false 1 1 (.t 51) (.t 68)),oM 4 69]) (.skip)))))))) (.reg [oM 12 5,oO 13 (.bin .add (.t 12) (kI 1)),oM 5 13]))
def I5:aF:=⟨1,77,.seq (.reg [oO 2 (.mv (.k (.c .nil))),oO 3 (.mv (kI 0))]) (.seq (.reg [oO 7 (.bldSl true 0 1 (.int .u8 0) []),oM 4 7]) (.seq (.seq (.reg [oO 5 (.mv (kI 0))]) (.block 0 (.loop iJ))) (.seq (.seq (.reg [oM 70 0,oO 71 (.len (.t 70)),oO 72 (.bin .gtr (.t 71) (kI 64))]) (.cond (.t 72) (.seq (.reg [oO 2 (.mv (.k (.c .nil))),oO 3 (.mv (kI 8))]) (.ret)) (.skip))) (.seq (.seq (.reg [oM 73 4,oO 74 (.len (.t 73)),oO 75 (.bin .gtr (.t 74) (kI 65535))]) (.cond (.t 75) (.seq (.reg [oO 2 (.mv (.k (.c .nil))),oO 3 (.mv (kI 2))]) (.ret)) (.skip))) (.seq (.reg [oM 76 4,oM 2 76,oO 3 (.mv (kI 0))]) (.ret)))))),[(2,none),(3,none)]⟩
theorem Tu:aE Tryz.prog { own:=[7],comp:=[],frz:=[],nils:=[] } Tryz.f11=some I5:=by kernel_rfl
set_option maxHeartbeats 3200000 in
theorem U2 (G:ai) (l:List Ek) (hl:l.length≤9000000000000000000) (hb:∀ r∈l,r.bo.length≤9223372036854775807):au Tryz.prog G 11 [.sl (l.map aH)] (.tup [.c (.fr 1 ((fc l).map bD)),.c (.d (.int .i64 (bT l)))]):=by
  refine aG Tryz.func11 Tu rfl rfl ?_;simp only[I5,ah,af,aa,seval,iteOmega,toNatUp];refine bd (iU l) (fun i=>l.length-i) (fun i=>i≤l.length∧ea (l.take i)=0) 0 ⟨VY _,by rw[WU]; rfl⟩ ?_ ?_
  ·refine aB (fun _=>56) ?_ ?_ rfl rfl <;> simp only[wx,aA,aK,aa,seval,iteOmega,toNatUp] <;> first | rfl | exact⟨rfl,rfl⟩ | skip
  ·rintro i ⟨hi,hW⟩;have hO:=F6 l i hi fun r hr=>(ij (pO.1 hW r hr)).2.2
   by_cases hlt:i<l.length
   ·have g:=jq hlt;have hm:=hb _ (iH hlt);have hst:=D1 hlt hW;have hnx:=vH hlt hW;have hno:∀ e,cx (l.getD i default)=e→e≠0→bT l=e∧fc l=[]:=fun e h1 h2=>by
      have h3:=hst (by rw[h1]; exact h2);have h4:bT l=e:=by unfold bT; rw[if_neg (by rw[h3,h1]; exact h2),h3,h1]
      exact⟨h4,if_neg (by rw[h4]; exact h2)⟩
    have eO:dL l (i+1)=if (dL l i).length≤65535 then dL l i++de (l.getD i default) else dL l i:=rfl
    have hF:cx (l.getD i default)=if (l.getD i default).ty<0∨32767<(l.getD i default).ty then 4 else if 65535<(l.getD i default).bo.length then 2 else 0:=rfl
    have hB:de (l.getD i default)=aQ (fV (l.getD i default)) 2++(aQ (l.getD i default).bo.length 2++(l.getD i default).bo):=rfl;have hT:fV (l.getD i default)=(l.getD i default).ty.toNat+if (l.getD i default).cr=true then 32768 else 0:=rfl
    generalize hx:l.getD i default=x at *
    generalize cx x=f at *
    generalize de x=B at *
    generalize fV x=T at *
    obtain⟨cr,ty,bo⟩:=x;dsimp only at *
    by_cases h1:ty<0
    ·have g1:=eq_true h1;obtain⟨q1,q2⟩:=hno 4 (by rw[hF,if_pos (.inl h1)]) (by decide);rw[q1,q2];clear hst hnx hno eO hB hT;simp only[iJ,iU,af,aa,seval,iteOmega,toNatUp,aM,g,aH,g1];exact du
    ·have g1:=eq_false h1;by_cases h2:ty>32767
     ·have g2:=eq_true h2;obtain⟨q1,q2⟩:=hno 4 (by rw[hF,if_pos (.inr h2)]) (by decide);rw[q1,q2];clear hst hnx hno eO hB hT;simp only[iJ,iU,af,aa,seval,iteOmega,toNatUp,aM,g,aH,g1,g2];exact du
     ·have g2:=eq_false h2;rw[if_neg (by omega)] at hF;by_cases h3:65535<bo.length
      ·have g3:((bo.length:Int)>65535)=True:=eq_true (by omega);obtain⟨q1,q2⟩:=hno 2 (by rw[hF,if_pos h3]) (by decide);rw[q1,q2];clear hst hnx hno eO hB hT;simp only[iJ,iU,af,aa,seval,iteOmega,toNatUp,aM,g,aH,g1,g2,g3];exact du
      ·have g3:((bo.length:Int)>65535)=False:=eq_false (by omega);rw[if_neg h3] at hF;subst hF;obtain⟨a,rfl⟩:=W4 (show 0≤ty by omega);rw[show ((a:Nat):Int).toNat=a from rfl] at hT;have hor:=Pq a (by omega);by_cases hs:(dL l i).length≤65535
       ·rw[if_pos hs] at eO;have gs:(((dL l i).length:Int)≤65535)=True:=eq_true (by omega);have c1:=GC G T 2 (by decide);have c2:=GC G bo.length 2 (by decide);rw[show (2:Int).toNat=2 from rfl] at c1 c2;have c3:=kD G [aQ T 2,aQ bo.length 2,bo] (by simp) (by simp[ch]; omega);rw[show [aQ T 2,aQ bo.length 2,bo].flatten=B from by rw[hB]; simp] at c3;simp only[VX,Wl] at c3;have hBl:B.length≤70000:=by rw[hB]; simp[ch]; omega
        clear hst hno hB;generalize aQ T 2=P1 at *
        generalize aQ bo.length 2=P2 at *
        generalize hOO:dL l i=O at *
        cases cr
        ·rw[if_neg Bool.false_ne_true,W8] at hT;subst hT;simp only[iJ,iU,af,aa,seval,iteOmega,toNatUp,aM,g,aH,g1,g2,g3,hOO,gs];refine sC (c1) ?_;simp only[aM,g,aH,af,aa,seval,iteOmega,toNatUp];refine sC (c2) ?_;simp only[aM,g,aH,af,aa,seval,iteOmega,toNatUp];refine sC (c3) ?_;simp only[bK,af,aa,seval,iteOmega,toNatUp];refine aX (i+1) (by omega) ⟨by omega,by rw[hnx]⟩ (aB (fun _=>552) ?_ ?_ rfl rfl) <;> simp only[eO,wx,aA,aK,aa,seval,iteOmega,toNatUp] <;> first | rfl | exact⟨rfl,rfl⟩ | skip
        ·rw[if_pos rfl] at hT;subst hT;simp only[iJ,iU,af,aa,seval,iteOmega,toNatUp,aM,g,aH,g1,g2,g3,hOO,gs,hor];refine sC (c1) ?_;simp only[aM,g,aH,af,aa,seval,iteOmega,toNatUp];refine sC (c2) ?_;simp only[aM,g,aH,af,aa,seval,iteOmega,toNatUp];refine sC (c3) ?_;simp only[bK,af,aa,seval,iteOmega,toNatUp];refine aX (i+1) (by omega) ⟨by omega,by rw[hnx]⟩ (aB (fun _=>552) ?_ ?_ rfl rfl) <;> simp only[eO,wx,aA,aK,aa,seval,iteOmega,toNatUp] <;> first | rfl | exact⟨rfl,rfl⟩ | skip
       ·rw[if_neg hs] at eO;have gs:(((dL l i).length:Int)≤65535)=False:=eq_false (by omega);clear hst hno hB;generalize hOO:dL l i=O at *
        cases cr
        ·simp only[iJ,iU,af,aa,seval,iteOmega,toNatUp,aM,g,aH,g1,g2,g3,hOO,gs];refine aX (i+1) (by omega) ⟨by omega,by rw[hnx]⟩ (aB (fun i=>i) ?_ ?_ rfl rfl) <;> simp only[eO,wx,aA,aK,aa,seval,iteOmega,toNatUp] <;> first | rfl | exact⟨rfl,rfl⟩ | skip
        ·simp only[iJ,iU,af,aa,seval,iteOmega,toNatUp,aM,g,aH,g1,g2,g3,hOO,gs,hor];refine aX (i+1) (by omega) ⟨by omega,by rw[hnx]⟩ (aB (fun i=>i) ?_ ?_ rfl rfl) <;> simp only[eO,wx,aA,aK,aa,seval,iteOmega,toNatUp] <;> first | rfl | exact⟨rfl,rfl⟩ | skip
   ·obtain rfl:i=l.length:=by omega
    rw[WP] at hW;obtain⟨a1,a2⟩:=Qa l;by_cases h4:64<l.length
    ·have e:bT l=8:=by unfold bT; rw[if_pos hW,if_pos h4]
     rw[show fc l=[] from if_neg (by rw[e]; decide),e];have g4:((l.length:Int)>64)=True:=eq_true (by omega);simp only[iJ,iU,af,aa,seval,iteOmega,toNatUp,g4];exact du
    ·have g4:((l.length:Int)>64)=False:=eq_false (by omega);by_cases h5:(aO l).length≤65535
     ·have e:bT l=0:=by unfold bT; rw[if_pos hW,if_neg h4,if_neg (by omega)]
      rw[show fc l=aO l from if_pos e,e];have e5:=a1 h5;simp only[iJ,iU,af,aa,seval,iteOmega,toNatUp,g4];rw[e5];have g5:(((aO l).length:Int)>65535)=False:=eq_false (by omega);simp only[af,aa,seval,iteOmega,toNatUp,g5];exact du
     ·have e:bT l=2:=by unfold bT; rw[if_pos hW,if_neg h4,if_pos (by omega)]
      rw[show fc l=[] from if_neg (by rw[e]; decide),e];have e5:=a2 h5;have g5:(((dL l l.length).length:Int)>65535)=True:=eq_true (by omega);simp only[iJ,iU,af,aa,seval,iteOmega,toNatUp,g4,g5];exact du
theorem yI (G:ai) (l:List Ek) (hl:l.length≤9000000000000000000) (hb:∀ r∈l,r.bo.length≤9223372036854775807):au Tryz.prog G 11 [.sl (l.map aH)] (.tup [.c (.d (.sl ((fc l).map bD))),.c (.d (.int .i64 (bT l)))]):=pf (U2 G l hl hb)
theorem nZ {l:List Int} {i:Nat} (h:i<l.length):l[i]?=some (l.getD i 0):=by
  rw[VS,VQ h]; rfl
theorem v5 {l:List Int} {i:Nat} (h:i<l.length):l.getD i 0∈l:=by
  rw[VS,VQ h];exact Wq h
theorem oH {l:List Int} {i:Nat} (h:i<l.length):l.take (i+1)=l.take i++[l.getD i 0]:=by
  rw[XC,nZ h]; rfl
theorem Tv {x y:List Int} {i:Nat} (hi:i<x.length) (hn:∀ v∈x.take i,v∉y) (h:x.getD i 0∈y):dO x y=some (x.getD i 0):=by
  have e:x=x.take i++x.getD i 0::x.drop (i+1):=by
    have:=(Wy (i+1) x).symm;rw[oH hi,Wp] at this;exact this
  have:dO (x.take i++x.getD i 0::x.drop (i+1)) y=some (x.getD i 0):=by
    unfold dO;rw[List.find?_append,List.find?_eq_none.2 (fun v hv q=>hn v hv (of_decide_eq_true q)),List.find?_cons_of_pos (p:=fun v=>decide (v∈y)) (decide_eq_true h)];rfl
  rw[← e] at this;exact this
set_option maxHeartbeats 3200000
theorem U3 (n:Nat):Int.tmod (n:Int) 2=((n%2:Nat):Int):=rfl
structure Fw where
  p:Nat
  o:List Fd
def pU (b:List UInt8) (t:Fw):St:=⟨aV [(0,.w (.c (.d (.sl (b.map bD))))),(4,.w (.c (.own 1 2 0 t.o.length))),(5,.w (.c (.d (.int .i64 (t.p:Int)))))],hL [(1,.row 2 (t.o.map cw))],uL [1]⟩
def o8:aN := .seq (.seq (.reg [oM 10 5,oM 11 0,oO 12 (.len (.t 11)),oO 13 (.bin .lss (.t 10) (.t 12))]) (.cond (.t 13) (.skip) (.exit 0))) (.block 1 (.seq (.seq (.reg [oM 14 0,oO 15 (.len (.t 14)),oM 16 5,oO 17 (.bin .sub (.t 15) (.t 16)),oO 18 (.bin .lss (.t 17) (kI 4))]) (.cond (.t 18) (.seq (.reg [oO 2 (.mv (.k (.c .nil))),oO 3 (.mv (kI 1))]) (.ret)) (.skip))) (.seq (.reg [oM 19 0,oM 20 5,oO 21 (.bin .add (.t 20) (kI 2)),oM 22 5,oO 23 (.bin .add (.t 22) (kI 4)),oO 24 (.slice 1 (.t 19) (some (.t 21)) (some (.t 23)) none),oO 25 (.call 49 [(.t 24)] none),oO 26 (.conv .i64 (.t 25)),oM 6 26]) (.seq (.seq (.reg [oM 27 0,oO 28 (.len (.t 27)),oM 29 5,oO 30 (.bin .sub (.t 28) (.t 29)),oO 31 (.bin .sub (.t 30) (kI 4)),oM 32 6,oO 33 (.bin .lss (.t 31) (.t 32))]) (.cond (.t 33) (.seq (.reg [oO 2 (.mv (.k (.c .nil))),
 oO 3 (.mv (kI 1))]) (.ret)) (.skip))) (.seq (.reg [oM 34 4,oM 35 0,oM 36 5,oM 37 5,oO 38 (.bin .add (.t 37) (kI 2)),oO 39 (.slice 1 (.t 35) (some (.t 36)) (some (.t 38)) none),oO 40 (.call 49 [(.t 39)] none),oO 41 (.conv .i64 (.t 40)),oM 42 0,oM 43 5,oO 44 (.bin .add (.t 43) (kI 4)),oM 45 5,oO 46 (.bin .add (.t 45) (kI 4)),oM 47 6,oO 48 (.bin .add (.t 46) (.t 47)),oO 49 (.slice 1 (.t 42) (some (.t 44)) (some (.t 48)) none),oO 50 (.bldSl false 1 1 (.sl []) [(0,(.t 49))]),oO 51 (.call 43 [(.t 50)] none),oO 52 (.build [(.d (.int .i64 0)),.nil] [(0,1,(.t 41)),(1,1,(.t 51))]),oO 53 (.bldSl false 1 2 (.agg [(.int .i64 0),(.sl [])]) [(0,(.t 52))]),oO 54 (.app false 2 32 (.t 34) (.t 53)),oM 4 54]) (.reg [oM 55 5,oO 56 (.bin .add (.t 55) (kI 4)),oM 57 6,oO 58 (.bin .add (.t 56) (.t 57)),oM 5 58]))))))
def xN:aF:=⟨1,60,.seq (.reg [oO 2 (.mv (.k (.c .nil))),oO 3 (.mv (kI 0))]) (.seq (.seq (.reg [oM 7 0,oO 8 (.len (.t 7)),oO 9 (.bin .gtr (.t 8) (kI 65535))]) (.cond (.t 9) (.seq (.reg [oO 2 (.mv (.k (.c .nil))),oO 3 (.mv (kI 2))]) (.ret)) (.skip))) (.seq (.reg [oO 4 (.nilOwn 2)]) (.seq (.seq (.reg [oO 5 (.mv (kI 0))]) (.block 0 (.loop o8))) (.seq (.reg [oM 59 4,oM 2 59,oO 3 (.mv (kI 0))]) (.ret))))),[(2,none),(3,none)]⟩
theorem Tw:aE Tryz.prog { own:=[4],comp:=[],frz:=[],nils:=[] } Tryz.f47=some xN:=by kernel_rfl
theorem U4 (G:ai) (b:List UInt8) (hb:b.length≤9000000000000000000):au Tryz.prog G 47 [.sl (b.map bD)] (.tup [.c (.d (.sl ((eU b).map cw))),.c (.d (.int .i64 (dU b)))]):=by
  refine aG Tryz.func47 Tw rfl rfl ?_;by_cases h0:65535<b.length
  ·have g0:((b.length:Int)>65535)=True:=eq_true (by omega);rw[show dU b=2 from if_pos h0,show eU b=[] from if_pos h0];simp only[xN,ah,af,aa,seval,iteOmega,toNatUp,g0];exact aW
  ·have g0:((b.length:Int)>65535)=False:=eq_false (by omega);simp only[xN,ah,af,aa,seval,iteOmega,toNatUp,g0];refine bd (pU b) (fun t=>b.length-t.p) (fun t=>t.p≤b.length∧t.o.length≤t.p∧cK b=(cK (b.drop t.p)).map (t.o++·)) ⟨0,[]⟩ ⟨VY _,VY _,by rw[Xt]; cases cK b <;> rfl⟩ ?_ ?_
   ·refine aB (fun _=>32) ?_ ?_ rfl rfl <;> simp only[wx,aA,aK,aa,seval,iteOmega,toNatUp] <;> first | rfl | exact⟨rfl,rfl⟩ | skip
   ·rintro⟨p,o⟩ ⟨hp,hol,hd⟩;dsimp only at hp hol hd;have az:=vG o;have hdl:(b.drop p).length=b.length-p:=V5;by_cases hlt:p<b.length
    ·have g1:((p:Int)<(b.length:Int))=True:=eq_true (by omega);by_cases h1:b.length-p<4
     ·have e:cK b=none:=by rw[hd,wK (by omega) (by omega)]; rfl
      rw[show dU b=1 by unfold dU; rw[if_neg h0,e]; rfl,show eU b=[] by unfold eU; rw[if_neg h0,e]; rfl];have g2:((b.length:Int)-(p:Int)<4)=True:=eq_true (by omega);simp only[o8,pU,af,aa,seval,iteOmega,toNatUp,g1,g2];exact aW
     ·have g2:((b.length:Int)-(p:Int)<4)=False:=eq_false (by omega);have l1:(a6 (b.drop p) 2 2).length=2:=lv (by omega);have l2:((b.drop p).take 2).length=2:=by rw[VW]; omega
      have c1:=I4 G (a6 (b.drop p) 2 2) (by omega);have c2:=I4 G ((b.drop p).take 2) (by omega);have b1:=(jb 2 (a6 (b.drop p) 2 2) l1 (by decide)).1;have b2:=(jb 2 ((b.drop p).take 2) l2 (by decide)).1;have t1:(b.drop (p+2)).take (p+2-p)=a6 (b.drop p) 2 2:=by
        unfold a6;rw[XQ,W5]
      have t2:(b.drop p).take (p+2-p)=(b.drop p).take 2:=by rw[W5]
      have hN:cd (b.drop p)=aY (a6 (b.drop p) 2 2):=rfl;by_cases h2:b.length-p-4<cd (b.drop p)
      ·have e:cK b=none:=by rw[hd,uY (by omega) (by omega)]; rfl
       rw[show dU b=1 by unfold dU; rw[if_neg h0,e]; rfl,show eU b=[] by unfold eU; rw[if_neg h0,e]; rfl];rw[hN] at h2;generalize aY (a6 (b.drop p) 2 2)=N at *
       have g3:((b.length:Int)-(p:Int)-4<(N:Int))=True:=eq_true (by omega);simp only[o8,pU,af,aa,seval,iteOmega,toNatUp,g1,g2,t1];refine sC (c1) ?_;simp only[g3,af,aa,seval,iteOmega,toNatUp];exact aW
      ·have e:=r6 (r:=b.drop p) (by omega) (by omega);rw[XQ] at e;have hR:fo (b.drop p)=⟨(aY ((b.drop p).take 2):Int),a6 (b.drop p) 4 (cd (b.drop p))⟩:=rfl;rw[hN] at h2 hR e;have t3:∀ N,(b.drop (p+4)).take (p+4+N-(p+4))=a6 (b.drop p) 4 N:=fun N=>by
         unfold a6;rw[XQ,W5]
       have t3:=t3 (aY (a6 (b.drop p) 2 2));have lX:(a6 (b.drop p) 4 (aY (a6 (b.drop p) 2 2))).length=aY (a6 (b.drop p) 2 2):=lv (by omega);have c3:=kD G [a6 (b.drop p) 4 (aY (a6 (b.drop p) 2 2))] (by simp) (by simp; omega);simp only[VX,Wl,XP,Xs,Wc] at c3;generalize a6 (b.drop p) 4 (aY (a6 (b.drop p) 2 2))=X at *
       generalize aY (a6 (b.drop p) 2 2)=N at *
       generalize aY ((b.drop p).take 2)=M at *
       have g3:((b.length:Int)-(p:Int)-4<(N:Int))=False:=eq_false (by omega);have hd2:cK b=(cK (b.drop (p+4+N))).map ((o++[⟨(M:Int),X⟩])++·):=by
         rw[hd,e,Option.map_map,hR,show p+(4+N)=p+4+N by omega]
         congr 1
         funext r
         simp
       simp only[o8,pU,af,aa,seval,iteOmega,toNatUp,g1,g2,t1];refine sC (c1) ?_;simp only[g3,t2,af,aa,seval,iteOmega,toNatUp];refine sC (c2) ?_;simp only[t3,af,aa,seval,iteOmega,toNatUp];refine sC (c3) ?_;simp only[bK,af,aa,seval,iteOmega,toNatUp];refine aX (⟨p+4+N,o++[⟨(M:Int),X⟩]⟩:Fw) (by show b.length-(p+4+N)<b.length-p; omega) ⟨by show p+4+N≤_; omega,by show (o++[_]).length≤p+4+N; rw[VR]; show _+1≤_; omega,hd2⟩ (aB (fun _=>432) ?_ ?_ rfl rfl) <;> simp only[Wu,cw,wx,aA,aK,aa,seval,iteOmega,toNatUp] <;> first | rfl | exact⟨rfl,rfl⟩ | skip
    ·have hpb:p=b.length:=by omega
     have e:cK b=some o:=by rw[hd,hpb,List.drop_length,pk,WV,Wc]
     rw[show dU b=0 by unfold dU; rw[if_neg h0,e]; rfl,show eU b=o by unfold eU; rw[if_neg h0,e]; rfl];have g1:((p:Int)<(b.length:Int))=False:=eq_false (by omega);simp only[o8,pU,af,aa,seval,iteOmega,toNatUp,g1];exact aW
def yJ (L:List Fd) (i:Nat):St:=⟨aV [(4,.w (.c (.d (.sl (L.map cw))))),(6,.w (.c (.own 1 3 0 i))),(7,.w (.c (.d (.int .i64 (i:Int)))))],hL [(1,.row 3 (((L.take i).map dr).map aH))],uL [1]⟩
def v6:aN := .seq (.seq (.reg [oM 19 7,oM 20 4,oO 21 (.len (.t 20)),oO 22 (.bin .lss (.t 19) (.t 21))]) (.cond (.t 22) (.skip) (.exit 0))) (.seq (.block 1 (.reg [oM 25 6,oM 26 4,oM 27 7,oO 28 (.idxSl 2 (.t 26) (.t 27)),oO 29 (.fieldAddr 0 (.t 28)),oO 30 (.load .sc (.t 29)),oO 31 (.bin .geq (.t 30) (kI 32768)),oM 32 4,oM 33 7,oO 34 (.idxSl 2 (.t 32) (.t 33)),oO 35 (.fieldAddr 0 (.t 34)),oO 36 (.load .sc (.t 35)),oO 37 (.bin .and (.t 36) (kI 32767)),oM 38 4,oM 39 7,oO 40 (.idxSl 2 (.t 38) (.t 39)),oO 41 (.fieldAddr 1 (.t 40)),oO 42 (.load .sc (.t 41)),oO 43 (.build [(.d (.bool false)),(.d (.int .i64 0)),.nil] [(0,1,(.t 31)),(1,1,(.t 37)),(2,1,(.t 42))]),oO 44 (.bldSl false 1 3 (.agg [(.bool false),(.int .i64 0),(.sl [])]) [(0,(.t 43))]),oO 45 (.app false 3 40 (.t 25) (.t 44)),oM 6 45]))
 (.reg [oM 23 7,oO 24 (.bin .add (.t 23) (kI 1)),oM 7 24]))
def sr:aF:=⟨1,47,.seq (.reg [oO 2 (.mv (.k (.c .nil))),oO 3 (.mv (kI 0))]) (.seq (.reg [oM 9 0,oO 10 (.call 47 [(.t 9)] none),oM 8 10,oO 11 (.extract (.t 8) 0),oO 12 (.extract (.t 8) 1),oM 4 11,oM 5 12]) (.seq (.seq (.reg [oM 13 5,oO 14 (.bin .neq (.t 13) (kI 0))]) (.cond (.t 14) (.seq (.reg [oM 15 5,oO 2 (.mv (.k (.c .nil))),oM 3 15]) (.ret)) (.skip))) (.seq (.seq (.reg [oM 16 4,oO 17 (.len (.t 16)),oO 18 (.bin .gtr (.t 17) (kI 64))]) (.cond (.t 18) (.seq (.reg [oO 2 (.mv (.k (.c .nil))),oO 3 (.mv (kI 8))]) (.ret)) (.skip))) (.seq (.reg [oO 6 (.nilOwn 3)]) (.seq (.seq (.reg [oO 7 (.mv (kI 0))]) (.block 0 (.loop v6))) (.seq (.reg [oM 46 6,oM 2 46,oO 3 (.mv (kI 0))]) (.ret))))))),[(2,none),(3,none)]⟩
theorem Tx:aE Tryz.prog { own:=[6],comp:=[],frz:=[],nils:=[] } Tryz.f13=some sr:=by kernel_rfl
theorem U5 (G:ai) (b:List UInt8) (hb:b.length≤9000000000000000000):au Tryz.prog G 13 [.sl (b.map bD)] (.tup [.c (.d (.sl ((aD b).map aH))),.c (.d (.int .i64 (cN b)))]):=by
  refine aG Tryz.func13 Tx rfl rfl ?_;have c:=U4 G b hb;have hE:cN b=if dU b=0 then (if 64<(eU b).length then 8 else 0) else dU b:=rfl
  have hL:aD b=if cN b=0 then (eU b).map dr else []:=rfl
  generalize cN b=E at *
  generalize aD b=R at *
  generalize dU b=e at *
  generalize eU b=L at *
  by_cases h0:e=0
  ·rw[if_pos h0] at hE;subst h0;by_cases h1:64<L.length
   ·rw[if_pos h1] at hE;subst hE;rw[if_neg (by decide)] at hL;subst hL;have g1:((L.length:Int)>64)=True:=eq_true (by omega);simp only[sr,ah,af,aa,seval,iteOmega,toNatUp];refine sC (c) ?_;simp only[g1,af,aa,seval,iteOmega,toNatUp];exact aW
   ·rw[if_neg h1] at hE;subst hE;rw[if_pos rfl] at hL;subst hL;have g1:((L.length:Int)>64)=False:=eq_false (by omega);simp only[sr,ah,af,aa,seval,iteOmega,toNatUp];refine sC (c) ?_;simp only[g1,af,aa,seval,iteOmega,toNatUp];refine bd (yJ L) (fun i=>L.length-i) (fun i=>i≤L.length) 0 (VY _) ?_ ?_
    ·refine aB (fun _=>48) ?_ ?_ rfl rfl <;> simp only[wx,aA,aK,aa,seval,iteOmega,toNatUp] <;> first | rfl | exact⟨rfl,rfl⟩ | skip
    ·intro i hi;have az:=lw ((L.take i).map dr);have ll:((L.take i).map dr).length=i:=by rw[VZ,VW]; omega
     by_cases hlt:i<L.length
     ·have g:=me hlt;have hs:L.take (i+1)=L.take i++[L.getD i default]:=BE hlt;have ha:=Nw (L.getD i default).ty;have hO:dr (L.getD i default)=⟨decide ((L.getD i default).ty≥32768),(L.getD i default).ty%32768,(L.getD i default).da⟩:=rfl;generalize L.getD i default=x at *
      simp only[v6,yJ,af,aa,seval,iteOmega,toNatUp,aM,g,cw,ha,ll,bK];refine aX (i+1) (by omega) (by omega) (aB (fun _=>360) ?_ ?_ rfl rfl) <;> simp only[hs,Wu,hO,aH,wx,aA,aK,aa,seval,iteOmega,toNatUp] <;> first | rfl | exact⟨rfl,rfl⟩ | skip
     ·obtain rfl:i=L.length:=by omega
      simp only[v6,yJ,af,aa,seval,iteOmega,toNatUp,ll];exact aW
  ·rw[if_neg h0] at hE;subst hE;rw[if_neg h0] at hL;subst hL;have g0:=eq_false h0;simp only[sr,ah,af,aa,seval,iteOmega,toNatUp];refine sC (c) ?_;simp only[g0,af,aa,seval,iteOmega,toNatUp];exact aW
theorem rL (key info:List UInt8):iv key info 32=gI key info 32∧lf 32=0:=⟨kF key info (by decide),lC (by decide)⟩
def pm:aF:=⟨2,31,.seq (.reg [oO 4 (.alloc [.nil]),oO 5 (.mv (kI 0))]) (.seq (.seq (.reg [oM 8 0,oO 9 (.bin .lss (.t 8) (kI 0)),oM 10 9,oG 11 (.mv (.t 0)) 10 false,oG 12 (.bin .gtr (.t 11) (kI 4294967295)) 10 false,oO 13 (.pick (.t 10) (.k (.c (.d (.bool true)))) (.t 12))]) (.cond (.t 13) (.seq (.reg [oO 14 (.build [.nil] []),oN (.store (.ag 1) (.t 4) (.t 14)),oO 5 (.mv (kI 4))]) (.ret)) (.skip))) (.seq (.seq (.reg [oM 15 1,oO 16 (.len (.t 15)),oO 17 (.bin .neq (.t 16) (kI 32))]) (.cond (.t 17) (.seq (.reg [oO 18 (.build [.nil] []),oN (.store (.ag 1) (.t 4) (.t 18)),oO 5 (.mv (kI 5))]) (.ret)) (.skip))) (.seq (.reg [oM 20 1,oO 21 (.bldSl true 13 1 (.int .u8 0) [(0,(.k (.c (.d (.int .u8 115))))),(1,(.k (.c (.d (.int .u8 101))))),(2,(.k (.c (.d (.int .u8 99))))),(3,(.k (.c (.d (.int .u8 116))))),(4,(.k (.c (.d (.int .u8 105))))),(5,(.k (.c (.d (.int .u8 109))))),(6,(.k (.c (.d (.int .u8 101))))),(7,(.k (.c (.d (.int .u8 32))))),(8,(.k (.c (.d (.int .u8 115))))),(9,(.k (.c (.d (.int .u8 116))))),(10,(.k (.c (.d (.int .u8 97))))),(11,(.k (.c (.d (.int .u8 114))))),(12,(.k (.c (.d (.int .u8 116)))))]),
 oO 22 (.markF (.t 21)),oO 23 (.call 101 [(.t 20),(.t 22),(kI 32)] none),oM 19 23,oO 24 (.extract (.t 19) 0),oO 25 (.extract (.t 19) 1),oM 6 24,oM 7 25]) (.seq (.reg [oM 26 0,oM 27 6,oO 28 (.build [(.d (.int .i64 0)),.nil] [(0,1,(.t 26)),(1,1,(.t 27))]),oO 29 (.bldSl false 1 2 (.agg [(.int .i64 0),(.sl [])]) [(0,(.t 28))]),oO 30 (.build [.nil] [(0,1,(.t 29))]),oN (.store (.ag 1) (.t 4) (.t 30)),oO 5 (.mv (kI 0))]) (.ret))))),[(4,(some (.ag 1))),(5,none)]⟩
theorem Rm:aE Tryz.prog { own:=[21],comp:=[],frz:=[22],nils:=[] } Tryz.f60=some pm:=by kernel_rfl
theorem TI (G:ai) (id:Int) (seed:List UInt8) (hs:seed.length≤9223372036854775807):au Tryz.prog G 60 [.int .i64 id,.sl (seed.map bD)] (.tup [.c (.d (bM (mf id seed))),.c (.d (.int .i64 (iZ id seed)))]):=by
  refine aG Tryz.func60 Rm rfl rfl ?_;rcases Int.lt_or_le id 0 with h1 | h1
  ·have e:iZ id seed=4:=if_pos (.inl h1);have e2:mf id seed=[]:=if_neg (by rw[e]; decide);rw[e,e2];unfold bM;simp only[pm,ah,af,aa,seval,iteOmega,toNatUp];exact iR (by simp only[af,aa,seval,iteOmega,toNatUp] <;> rfl) (by simp only[af,aa,seval,iteOmega,toNatUp])
  ·rcases Int.lt_or_le 4294967295 id with h2 | h2
   ·have e:iZ id seed=4:=if_pos (.inr h2);have e2:mf id seed=[]:=if_neg (by rw[e]; decide);have g:(id>4294967295)=True:=eq_true h2;rw[e,e2];unfold bM;simp only[pm,ah,af,aa,seval,iteOmega,toNatUp,g];exact iR (by simp only[af,aa,seval,iteOmega,toNatUp] <;> rfl) (by simp only[af,aa,seval,iteOmega,toNatUp])
   ·have g:(id>4294967295)=False:=eq_false (by omega);by_cases h3:seed.length=32
    ·have e:iZ id seed=0:=by unfold iZ; rw[if_neg (by omega),if_neg (by omega)]
     have e2:mf id seed=[⟨id,nX seed⟩]:=if_pos e;rw[e,e2];have c:=sq G seed o7 (by omega) (by decide) 32 (by decide) (by decide);rw[(rL seed o7).1,(rL seed o7).2,show gI seed o7 32=nX seed from rfl] at c;generalize nX seed=K at *
     unfold bM;simp only[pm,ah,af,aa,seval,iteOmega,toNatUp,g,h3];refine bh c (by simp only[af,aa,seval,iteOmega,toNatUp] <;> rfl) (.inl rfl) ?_;simp only[af,aa,seval,iteOmega,toNatUp];exact iR (by simp only[af,aa,seval,iteOmega,toNatUp] <;> rfl) (by simp only[af,aa,seval,iteOmega,toNatUp])
    ·have e:iZ id seed=5:=by unfold iZ; rw[if_neg (by omega),if_pos h3]
     have e2:mf id seed=[]:=if_neg (by rw[e]; decide);rw[e,e2];unfold bM;simp only[pm,ah,af,aa,seval,iteOmega,toNatUp,g];exact iR (by simp only[af,aa,seval,iteOmega,toNatUp] <;> rfl) (by simp only[af,aa,seval,iteOmega,toNatUp])
theorem TJ {l:List Fd} (h:¬ cQ l):gY l=3∧kr l=[]:=by
  have e:gY l=3:=if_neg h;exact⟨e,if_neg (by rw[e]; decide)⟩
theorem TK {l:List Fd} (h:cQ l) {i:Nat} (hi:i<l.length) (h3:i<3) (e:(l.getD i default).ty=fI l):gY l=7∧kr l=[]:=by
  have hc:clash l=true:=by
    unfold clash;rw[W9];refine⟨l.getD i default,?_,decide_eq_true e⟩;rw[VS,VQ hi];exact List.mem_take_iff_getElem.2 ⟨i,by omega,rfl⟩
  have e7:gY l=7:=by unfold gY; rw[if_pos h,if_pos hc]
  exact⟨e7,if_neg (by rw[e7]; decide)⟩
theorem Jb {l:List Fd} (h:cQ l) {i:Nat} (hi:i≤l.length) (hend:l.length≤i∨3≤i) (hd:∀ j,j<i→(l.getD j default).ty≠fI l) (h3:i≤3):gY l=0∧kr l=kq l::l.take i:=by
  have ht:l.take 3=l.take i:=by
    rcases hend with h | h
    ·rw[VV h,VV (by omega)]
    ·rw[show i=3 by omega]
  have hc:clash l=false:=by
    unfold clash;rw[ht,WS];intro f hf;obtain⟨j,hj,rfl⟩:=List.mem_take_iff_getElem.1 hf;have:=hd j (by omega);rw[VS,VQ (by omega)] at this
    simpa using this
  have e:gY l=0:=by unfold gY; rw[if_pos h,if_neg (by rw[hc]; decide)]
  refine⟨e,?_⟩;unfold kr;rw[if_pos e,ht]
def fa (l:List Fd) (i:Nat):List Fd:=kq l::l.take i
theorem TL {l:List Fd} {i:Nat} (h:i<l.length):fa l (i+1)=fa l i++[l.getD i default]:=by
  unfold fa;rw[BE h]; rfl
def Kh (l:List Fd) (i:Nat):St:=⟨aV [(1,.w (.c (.rp [.sl (l.map cw)]))),(2,.w (.c (.ptr 3 1 0 0))),(6,.w (.c (.ptr 1 1 0 0))),(7,.w (.c (.d (.int .i64 (i:Int)))))],hL [(1,.box [.own 2 2 0 (fa l i).length]),(2,.row 2 ((fa l i).map cw)),(3,.box [.nil])],uL [1,2,3]⟩
def oP:aN := .seq (.seq (.reg [oM 34 7,oO 35 (.fieldAddr 0 (.t 1)),oO 36 (.load .sc (.t 35)),oO 37 (.len (.t 36)),oO 38 (.bin .lss (.t 34) (.t 37)),oM 39 38,oG 40 (.mv (.t 7)) 39 true,oG 41 (.bin .lss (.t 40) (kI 3)) 39 true,oO 42 (.pick (.t 39) (.t 41) (.k (.c (.d (.bool false)))))]) (.cond (.t 42) (.skip) (.exit 0))) (.seq (.block 1 (.seq (.seq (.reg [oO 45 (.fieldAddr 0 (.t 1)),oO 46 (.load .sc (.t 45)),oM 47 7,oO 48 (.idxSl 2 (.t 46) (.t 47)),oO 49 (.fieldAddr 0 (.t 48)),oO 50 (.load .sc (.t 49)),oO 51 (.fieldAddr 0 (.t 6)),oO 52 (.load .sc (.t 51)),oO 53 (.idxSl 2 (.t 52) (kI 0)),oO 54 (.fieldAddr 0 (.t 53)),oO 55 (.load .sc (.t 54)),oO 56 (.bin .eql (.t 50) (.t 55))]) (.cond (.t 56) (.seq (.reg [oO 57 (.build [.nil] []),oN (.store (.ag 1) (.t 2) (.t 57)),oO 3 (.mv (kI 7))])
 (.ret)) (.skip))) (.reg [oO 58 (.fieldAddr 0 (.t 6)),oO 59 (.load .sc (.t 58)),oO 60 (.fieldAddr 0 (.t 1)),oO 61 (.load .sc (.t 60)),oM 62 7,oO 63 (.idxSl 2 (.t 61) (.t 62)),oO 64 (.fieldAddr 0 (.t 63)),oO 65 (.load .sc (.t 64)),oO 66 (.fieldAddr 0 (.t 1)),oO 67 (.load .sc (.t 66)),oM 68 7,oO 69 (.idxSl 2 (.t 67) (.t 68)),oO 70 (.fieldAddr 1 (.t 69)),oO 71 (.load .sc (.t 70)),oO 72 (.bldSl false 1 1 (.sl []) [(0,(.t 71))]),oO 73 (.call 43 [(.t 72)] none),oO 74 (.build [(.d (.int .i64 0)),.nil] [(0,1,(.t 65)),(1,1,(.t 73))]),oO 75 (.bldSl false 1 2 (.agg [(.int .i64 0),(.sl [])]) [(0,(.t 74))]),oO 76 (.app false 2 32 (.t 59) (.t 75)),oO 77 (.fieldAddr 0 (.t 6)),oN (.store .sc (.t 77) (.t 76))]))) (.reg [oM 43 7,oO 44 (.bin .add (.t 43) (kI 1)),oM 7 44]))
def w5:aF:=⟨1,79,.seq (.reg [oO 1 (.box .roBox (.t 0)),oO 2 (.alloc [.nil]),oO 3 (.mv (kI 0))]) (.seq (.seq (.reg [oO 8 (.load (.ag 1) (.t 1)),oO 9 (.call 73 [(.t 8)] none),oO 10 (.un .not (.t 9))]) (.cond (.t 10) (.seq (.reg [oO 11 (.build [.nil] []),oN (.store (.ag 1) (.t 2) (.t 11)),oO 3 (.mv (kI 3))]) (.ret)) (.skip))) (.seq (.reg [oO 13 (.fieldAddr 0 (.t 1)),oO 14 (.load .sc (.t 13)),oO 15 (.idxSl 2 (.t 14) (kI 0)),oO 16 (.fieldAddr 1 (.t 15)),oO 17 (.load .sc (.t 16)),oO 18 (.bldSl true 12 1 (.int .u8 0) [(0,(.k (.c (.d (.int .u8 115))))),(1,(.k (.c (.d (.int .u8 101))))),(2,(.k (.c (.d (.int .u8 99))))),(3,(.k (.c (.d (.int .u8 116))))),(4,(.k (.c (.d (.int .u8 105))))),(5,(.k (.c (.d (.int .u8 109))))),(6,(.k (.c (.d (.int .u8 101))))),(7,(.k (.c (.d (.int .u8 32))))),(8,(.k (.c (.d (.int .u8 110))))),(9,(.k (.c (.d (.int .u8 101))))),(10,(.k (.c (.d (.int .u8 120))))),(11,(.k (.c (.d (.int .u8 116)))))]),
 oO 19 (.markF (.t 18)),oO 20 (.call 101 [(.t 17),(.t 19),(kI 32)] none),oM 12 20,oO 21 (.extract (.t 12) 0),oO 22 (.extract (.t 12) 1),oM 4 21,oM 5 22]) (.seq (.reg [oO 23 (.fieldAddr 0 (.t 1)),oO 24 (.load .sc (.t 23)),oO 25 (.idxSl 2 (.t 24) (kI 0)),oO 26 (.fieldAddr 0 (.t 25)),oO 27 (.load .sc (.t 26)),oO 28 (.bin .add (.t 27) (kI 1)),oO 29 (.bin .and (.t 28) (kI 4294967295)),oM 30 4,oO 31 (.build [(.d (.int .i64 0)),.nil] [(0,1,(.t 29)),(1,1,(.t 30))]),oO 32 (.bldSl true 1 2 (.agg [(.int .i64 0),(.sl [])]) [(0,(.t 31))]),oO 33 (.build [.nil] [(0,1,(.t 32))]),oO 6 (.alloc [.nil]),oN (.store (.ag 1) (.t 6) (.t 33))]) (.seq (.seq (.reg [oO 7 (.mv (kI 0))]) (.block 0 (.loop oP))) (.seq (.reg [oO 78 (.load (.ag 1) (.t 6)),oN (.store (.ag 1) (.t 2) (.t 78)),oO 3 (.mv (kI 0))]) (.ret)))))),
 [(2,(some (.ag 1))),(3,none)]⟩
theorem Rn:aE Tryz.prog { own:=[18,32],comp:=[],frz:=[19],nils:=[] } Tryz.f61=some w5:=by kernel_rfl
theorem TM (G:ai) (l:List Fd) (hl:l.length≤9223372036854775807):au Tryz.prog G 61 [bM l] (.tup [.c (.d (bM (kr l))),.c (.d (.int .i64 (gY l)))]):=by
  refine aG Tryz.func61 Rn rfl rfl ?_;have c1:=TH G l hl;by_cases hr:cQ l
  ·rw[decide_eq_true hr] at c1;have r1:=hr.1;have r2:=hr.2.1;have g0:=me (l:=l) (i:=0) (by omega);obtain⟨⟨m1,m2,m3⟩,_⟩:=lM hr (i:=0) (by omega);have c2:=sq G (l.getD 0 default).da rJ (by omega) (by decide) 32 (by decide) (by decide);rw[(rL _ rJ).1,(rL [] []).2,show gI (l.getD 0 default).da rJ 32=nY (l.getD 0 default).da from rfl] at c2;have ha:=Nv ((l.getD 0 default).ty+1);rw[show ((l.getD 0 default).ty+1)%4294967296=fI l from rfl] at ha;have hO0:fa l 0=[⟨fI l,nY (l.getD 0 default).da⟩]:=rfl;have hOh:∀ i,(fa l i).map cw=.agg [.int .i64 (fI l),.sl ((nY (l.getD 0 default).da).map bD)]::(l.take i).map cw:=fun i=>rfl
   unfold bM at *
   generalize hk0:l.getD 0 default=k0 at *
   simp only[w5,ah,af,aa,seval,iteOmega,toNatUp];refine sC (c1) ?_;simp only[aM,g0,cw,ha,af,aa,seval,iteOmega,toNatUp];refine sC c2 ?_;simp only[aM,g0,cw,ha,af,aa,seval,iteOmega,toNatUp];refine bd (Kh l) (fun i=>4-i) (fun i=>i≤l.length∧i≤3∧∀ j,j<i→(l.getD j default).ty≠fI l) 0 ⟨VY _,VY _,fun j hj=>by omega⟩ ?_ ?_
   ·refine aB (fun i=>if i=1 then 48 else if i=2 then 256 else 16) ?_ ?_ rfl rfl <;> simp only[wx,aA,aK,aa,seval,iteOmega,toNatUp,hO0] <;> first | exact⟨rfl,rfl⟩ | rfl | skip
   ·rintro i ⟨hi,hi3,hd⟩;clear c1 c2;have hOl:(fa l i).length=i+1:=by simp[fa]; omega
    have az:=vG (fa l i);have hhd:(fa l i)[0]?=some (kq l):=rfl;have hty:(kq l).ty=fI l:=rfl;have est:Kh l i=⟨aV [(1,.w (.c (.rp [.sl (l.map cw)]))),(2,.w (.c (.ptr 3 1 0 0))),(6,.w (.c (.ptr 1 1 0 0))),(7,.w (.c (.d (.int .i64 (i:Int)))))],hL [(1,.box [.own 2 2 0 (fa l i).length]),(2,.row 2 ((fa l i).map cw)),(3,.box [.nil])],uL [1,2,3]⟩:=rfl;by_cases hlt:i<l.length
    ·by_cases h3:i<3
     ·have g:=me hlt;have hs:=TL hlt;obtain⟨⟨_,_,x3⟩,_⟩:=lM hr hlt;have cj:=kD G [(l.getD i default).da] (by simp) (by rw[XP,Xs,Wc,x3]; decide);simp only[VX,Wl,XP,Xs,Wc] at cj;by_cases he:(l.getD i default).ty=fI l
      ·obtain⟨e1,e2⟩:=TK hr hlt h3 he;have ge:((l.getD i default).ty=fI l)=True:=eq_true he;rw[e1,e2,est];clear hd hs hOh hO0 est;generalize fa l i=O at *
       generalize l.getD i default=x at *
       generalize kq l=nf at *
       generalize fI l=ni at *
       simp only[oP,af,aa,seval,iteOmega,toNatUp,aM,g,hhd,cw,hty,ge];exact iR (by simp only[af,aa,seval,iteOmega,toNatUp] <;> rfl) (by simp only[af,aa,seval,iteOmega,toNatUp])
      ·have ge:((l.getD i default).ty=fI l)=False:=eq_false he;have hd':∀ j,j<i+1→(l.getD j default).ty≠fI l:=fun j hj=>by
         rcases Wv j i with h | h
         ·exact hd j h
         ·obtain rfl:j=i:=by omega
          exact he
       rw[est];clear hd hOh hO0 est;generalize hO:fa l i=O at *
       generalize l.getD i default=x at *
       generalize hnf:kq l=nf at *
       generalize hni:fI l=ni at *
       simp only[oP,af,aa,seval,iteOmega,toNatUp,aM,g,hhd,cw,hty,ge];refine sC (cj) ?_;simp only[bK,MX,cw,af,aa,seval,iteOmega,toNatUp];refine aX (i+1) (by omega) ⟨by omega,by omega,hd'⟩ (aB (fun i=>if i=1 then 1 else if i=2 then 608 else 3) ?_ ?_ rfl rfl) <;> simp only[hs,Wu,cw,wx,aA,aK,aa,seval,iteOmega,toNatUp]
     ·obtain⟨e1,e2⟩:=Jb hr hi (.inr (by omega)) hd hi3;have e2:kr l=fa l i:=e2;have g3:((i:Int)<3)=False:=eq_false (by omega);rw[e1,e2,est];clear hd hOh hO0 est;generalize fa l i=O at *
      simp only[oP,af,aa,seval,iteOmega,toNatUp,g3];exact iR (by simp only[af,aa,seval,iteOmega,toNatUp] <;> rfl) (by simp only[af,aa,seval,iteOmega,toNatUp])
    ·obtain⟨e1,e2⟩:=Jb hr hi (.inl (by omega)) hd hi3;have e2:kr l=fa l i:=e2;rw[e1,e2,est];clear hd hOh hO0 est;generalize fa l i=O at *
     simp only[oP,af,aa,seval,iteOmega,toNatUp];exact iR (by simp only[af,aa,seval,iteOmega,toNatUp] <;> rfl) (by simp only[af,aa,seval,iteOmega,toNatUp])
  ·rw[decide_eq_false hr] at c1;obtain⟨e1,e2⟩:=TJ hr;rw[e1,e2];unfold bM at *
   simp only[w5,ah,af,aa,seval,iteOmega,toNatUp];refine sD (c1) ?_;exact iR (by simp only[af,aa,seval,iteOmega,toNatUp] <;> rfl) (by simp only[af,aa,seval,iteOmega,toNatUp])
def gL (a b:List UInt8):D:=.agg [.sl (a.map bD),.sl (b.map bD)]
theorem Ro (m:Fd) (algo:Int) (up dn nonce:List UInt8):[eF m,nonce,gO m.da [eF m,nonce] (fp algo up dn)].flatten=dN m algo up dn nonce:=by
  unfold dN;simp only[XP,Xs,Wc]
theorem Ex (algo:Int) (up dn:List UInt8):[aQ algo.toNat 2,[0,0],up,dn].flatten=fp algo up dn:=by
  unfold fp;simp only[XP,Xs,Wc]
theorem nk {l:List Fd} {algo:Int} {up dn nonce:List UInt8} {e:Int} (h:iz l algo up dn nonce=e) (he:e≠0):mh l algo up dn nonce=[]:=if_neg (by rw[h]; exact he)
def yK (t:Int) (s:Nat) (K:List UInt8) (i:Nat):St:=⟨aV [(1,.w (.c (.d (.int .i64 t)))),(4,.w (.c (.ptr 2 1 0 0))),(5,.w (.c (.ptr 1 1 0 0))),(7,.w (.c (.d (.int .i64 (i:Int)))))],hL [(1,.box [.d (.sl ((bP s K i).map cw))]),(2,.box [.nil])],uL [1,2]⟩
def v7:aN := .seq (.seq (.reg [oM 16 7,oM 17 1,oO 18 (.call 24 [(.t 17),(kI 6)] none),oO 19 (.bin .lss (.t 16) (.t 18))]) (.cond (.t 19) (.skip) (.exit 0))) (.seq (.block 1 (.reg [oO 23 (.load (.ag 1) (.t 5)),oO 24 (.call 61 [(.t 23)] none),oM 22 24,oO 25 (.extract (.t 22) 0),oO 26 (.extract (.t 22) 1),oN (.store (.ag 1) (.t 5) (.t 25))])) (.reg [oM 20 7,oO 21 (.bin .add (.t 20) (kI 1)),oM 7 21]))
def Jc:aF:=⟨2,28,.seq (.reg [oO 4 (.alloc [.nil])]) (.seq (.reg [oM 9 0,oO 10 (.call 24 [(.t 9),(kI 4294967296)] none),oM 11 0,oO 12 (.call 59 [(.t 11)] none),oO 13 (.call 60 [(.t 10),(.t 12)] none),oM 8 13,oO 14 (.extract (.t 8) 0),oO 15 (.extract (.t 8) 1),oO 5 (.alloc [.nil]),oN (.store (.ag 1) (.t 5) (.t 14)),oM 6 15]) (.seq (.seq (.reg [oO 7 (.mv (kI 0))]) (.block 0 (.loop v7))) (.seq (.reg [oO 27 (.load (.ag 1) (.t 5)),oN (.store (.ag 1) (.t 4) (.t 27))]) (.ret)))),[(4,(some (.ag 1)))]⟩
theorem TN:aE Tryz.prog { own:=[],comp:=[],frz:=[],nils:=[] } Tryz.f25=some Jc:=by kernel_rfl
set_option maxHeartbeats 1600000 in
theorem Ki (G:ai) (s:Nat) (t:Int) (hs:s≤1000000):au Tryz.prog G 25 [.int .i64 (s:Int),.int .i64 t] (.w (.c (.d (bM (bP s (aR s 32) (bi t 6).toNat))))):=by
  refine aG Tryz.func25 TN rfl rfl ?_;have c1:=o5 G (s:Int) 4294967296 (by decide);have e1:bi (s:Int) 4294967296=(s:Int):=by unfold bi; rw[if_neg (by decide)]; omega
  rw[e1] at c1;have c2:=I8 G (s:Int);have kl:(aR s 32).length=32:=mD _ _;have c3:=TI G (s:Int) (aR s 32) (by omega);obtain⟨q1,q2⟩:=Nu s (aR s 32) (by omega) kl;rw[q1,q2] at c3;have c4:=o5 G t 6 (by decide);obtain⟨r1,r2⟩:=ud t 6 (by decide);have hstep:∀ i,i<6→au Tryz.prog G _ [bM (bP s (aR s 32) i)] (.tup [.c (.d (bM (bP s (aR s 32) (i+1)))),.c (.d (.int .i64 0))]):=fun i hi=>by
    have c:=TM G (bP s (aR s 32) i) (by rw[lD]; omega);obtain⟨a,b⟩:=Pm (s:=s) (seed:=aR s 32) (t:=i) (by omega);rw[a,b] at c;exact c
  generalize aR s 32=K at *
  generalize bi t 6=n at *
  unfold bM at *
  simp only[Jc,ah,af,aa,seval,iteOmega,toNatUp];refine sD (c1) ?_;refine sD (c2) ?_;refine sD (c3) ?_;refine bd (yK t s K) (fun i=>n.toNat-i) (fun i=>i≤n.toNat) 0 (VY _) ?_ ?_
  ·refine aB (fun i=>if i=1 then 40 else 32) ?_ ?_ rfl rfl <;> simp only[wx,aA,aK,aa,seval,iteOmega,toNatUp]
  ·intro i hi;by_cases hlt:i<n.toNat
   ·have c:=hstep i (by omega);have g:(i:Int)<n:=by omega
    simp only[v7,yK,af,aa,seval,iteOmega,toNatUp];refine sC (c4) ?_;simp only[g,af,aa,seval,iteOmega,toNatUp];refine sD (c) ?_;refine aX (i+1) (by omega) (by omega) (aB (fun i=>i) ?_ ?_ rfl rfl) <;> simp only[wx,aA,aK,aa,seval,iteOmega,toNatUp] <;> try rfl
   ·have g:((i:Int)<n)=False:=eq_false (by omega);have e:n.toNat=i:=by omega
    rw[e];simp only[v7,yK,af,aa,seval,iteOmega,toNatUp];refine sC (c4) ?_;simp only[g,af,aa,seval,iteOmega,toNatUp];exact aJ
def zB:ByteArray:=⟨#[115,101,99,116,105,109,101,32,107,101,121,115]⟩
def yL (l:List Int) (i:Nat):St:=⟨aV [(3,.w (.c (.own 1 1 0 (aI (l.take i)).length))),(6,.w (.c (.d (.sl (l.map zD))))),(7,.w (.c (.d (.int .i64 (l.length:Int))))),(8,.w (.c (.d (.int .i64 (i:Int)))))],hL [(1,.row 1 ((aI (l.take i)).map bD))],uL [1]⟩
def v8:aN := .seq (.reg [oO 9 (.bin .lss (.t 8) (.t 7))]) (.seq (.cond (.t 9) (.skip) (.exit 0)) (.seq (.block 1 (.seq (.reg [oO 10 (.idxSl 1 (.t 6) (.t 8)),oO 11 (.load .sc (.t 10)),oM 5 11]) (.reg [oM 12 3,oM 13 5,oO 14 (.conv .u64 (.t 13)),oO 15 (.call 91 [(.t 14),(kI 2)] none),oO 16 (.app false 1 1 (.t 12) (.t 15)),oM 3 16]))) (.reg [oO 17 (.bin .add (.t 8) (kI 1)),oM 8 17])))
def Jd:aF:=⟨1,19,.seq (.reg [oO 2 (.mv (.k (.c .nil)))]) (.seq (.reg [oO 3 (.nilOwn 1)]) (.seq (.seq (.reg [oM 6 0,oO 7 (.len (.t 6)),oO 8 (.mv (kI 0))]) (.block 0 (.loop v8))) (.seq (.reg [oM 18 3,oM 2 18]) (.ret)))),[(2,none)]⟩
theorem TO:aE Tryz.prog { own:=[3],comp:=[],frz:=[],nils:=[] } Tryz.f53=some Jd:=by kernel_rfl
theorem U9 (G:ai) (l:List Int) (hl:l.length≤1000000000) (hs:bH l):au Tryz.prog G 53 [.sl (l.map zD)] (.w (.c (.fr 1 ((aI l).map bD)))):=by
  refine aG Tryz.func53 TO rfl rfl ?_;simp only[Jd,ah,af,aa,seval,iteOmega,toNatUp];refine bd (yL l) (fun i=>l.length-i) (fun i=>i≤l.length) 0 (VY _) ?_ ?_
  ·refine aB (fun _=>24) ?_ ?_ rfl rfl <;> simp only[wx,aA,aK,aa,seval,iteOmega,toNatUp] <;> first | rfl | exact⟨rfl,rfl⟩ | skip
  ·intro i hi;by_cases hlt:i<l.length
   ·have g:=nZ hlt;obtain⟨n1,n2⟩:=hs _ (v5 hlt);have e:aI (l.take (i+1))=aI (l.take i)++aQ (l.getD i 0).toNat 2:=by
      rw[oH hlt,Ra,v4]
      show _++(_++[])=_
      rw[Wc]
    have hb:(aI (l.take i)).length≤2000000000:=by rw[eW,VW]; omega
    generalize l.getD i 0=v at *
    obtain⟨a,rfl⟩:=W4 n1;rw[show ((a:Nat):Int).toNat=a from rfl] at e;have c:=ng G a 2 (by decide);rw[show (2:Int).toNat=2 from rfl] at c;have pl:=ch a 2;generalize aQ a 2=P at *
    simp only[v8,yL,af,aa,seval,iteOmega,toNatUp,aM,g,zD];refine sC (c) ?_;simp only[pl,bK,af,aa,seval,iteOmega,toNatUp];refine aX (i+1) (by omega) (by omega) (aB (fun _=>128) ?_ ?_ rfl rfl) <;> simp only[e,pl,wx,aA,aK,aa,seval,iteOmega,toNatUp] <;> first | rfl | exact⟨rfl,rfl⟩ | skip
   ·have:l.take i=l:=VV (by omega);simp only[v8,yL,af,aa,seval,iteOmega,toNatUp,this];exact eT
theorem lV (G:ai) (l:List Int) (hl:l.length≤1000000000) (hs:bH l):au Tryz.prog G 53 [.sl (l.map zD)] (.w (.c (.d (.sl ((aI l).map bD))))):=lF (U9 G l hl hs)
def pV (l:List Int) (i:Nat):St:=⟨aV [(5,.w (.c (.d (.sl (l.map zD))))),(6,.w (.c (.d (.int .i64 (l.length:Int))))),(7,.w (.c (.d (.int .i64 (i:Int)))))],hL [],uL []⟩
def pb:aN := .seq (.reg [oO 8 (.bin .lss (.t 7) (.t 6))]) (.seq (.cond (.t 8) (.skip) (.exit 0)) (.seq (.block 1 (.seq (.reg [oO 9 (.idxSl 1 (.t 5) (.t 7)),oO 10 (.load .sc (.t 9)),oM 4 10]) (.seq (.reg [oM 11 4,oO 12 (.bin .lss (.t 11) (kI 0)),oM 13 12,oG 14 (.mv (.t 4)) 13 false,oG 15 (.bin .geq (.t 14) (kI 65536)) 13 false,oO 16 (.pick (.t 13) (.k (.c (.d (.bool true)))) (.t 15))]) (.cond (.t 16) (.seq (.reg [oO 2 (.mv (.k (.c (.d (.bool false)))))]) (.ret)) (.skip))))) (.reg [oO 17 (.bin .add (.t 7) (kI 1)),oM 7 17])))
def Je:aF:=⟨1,18,.seq (.reg [oO 2 (.mv (.k (.c (.d (.bool false)))))]) (.seq (.seq (.reg [oM 5 0,oO 6 (.len (.t 5)),oO 7 (.mv (kI 0))]) (.block 0 (.loop pb))) (.seq (.reg [oO 2 (.mv (.k (.c (.d (.bool true)))))]) (.ret))),[(2,none)]⟩
theorem TP:aE Tryz.prog { own:=[],comp:=[],frz:=[],nils:=[] } Tryz.f50=some Je:=by kernel_rfl
theorem nH (G:ai) (l:List Int) (hl:l.length≤9000000000000000000):au Tryz.prog G 50 [.sl (l.map zD)] (.w (.c (.d (.bool (decide (bH l)))))):=by
  refine aG Tryz.func50 TP rfl rfl ?_;simp only[Je,ah,af,aa,seval,iteOmega,toNatUp];refine bd (pV l) (fun i=>l.length-i) (fun i=>i≤l.length∧bH (l.take i)) 0 ⟨VY _,by rw[WU]; exact fun n hn=>by cases hn⟩ ?_ ?_
  ·refine aB (fun _=>0) ?_ ?_ rfl rfl <;> simp only[wx,aA,aK,aa,seval,iteOmega,toNatUp] <;> first | rfl | exact⟨rfl,rfl⟩ | skip
  ·rintro i ⟨hi,hp⟩;by_cases hlt:i<l.length
   ·have g:=nZ hlt;have hm:=v5 hlt;have hs:=oH hlt;generalize l.getD i 0=v at *
    by_cases h1:v<0
    ·rw[decide_eq_false (fun q:bH l=>by have:=q v hm; omega)];have g1:=eq_true h1;simp only[pb,pV,af,aa,seval,iteOmega,toNatUp,aM,g,zD,g1];exact aJ
    ·have g1:=eq_false h1;by_cases h2:v≥65536
     ·rw[decide_eq_false (fun q:bH l=>by have:=q v hm; omega)];have g2:=eq_true h2;simp only[pb,pV,af,aa,seval,iteOmega,toNatUp,aM,g,zD,g1,g2];exact aJ
     ·have g2:=eq_false h2;have hn:bH (l.take (i+1)):=by
        rw[hs];intro n hn;rcases V8.1 hn with hn | hn
        ·exact hp n hn
        ·rw[VU.1 hn]; omega
      simp only[pb,pV,af,aa,seval,iteOmega,toNatUp,aM,g,zD,g1,g2];refine aX (i+1) (by omega) ⟨by omega,hn⟩ (aB (fun i=>i) ?_ ?_ rfl rfl) <;> simp only[wx,aA,aK,aa,seval,iteOmega,toNatUp] <;> first | rfl | exact⟨rfl,rfl⟩ | skip
   ·rw[VV (by omega)] at hp;rw[decide_eq_true hp];simp only[pb,pV,af,aa,seval,iteOmega,toNatUp];exact aJ
def yM (b:List UInt8) (k:Nat):St:=⟨aV [(0,.w (.c (.d (.sl (b.map bD))))),(4,.w (.c (.own 1 1 0 (i8 b k).length))),(5,.w (.c (.d (.int .i64 ((2*k:Nat):Int)))))],hL [(1,.row 1 ((i8 b k).map zD))],uL [1]⟩
theorem Va (n:Nat):Int.tdiv (n:Int) 2=((n / 2:Nat):Int):=rfl
def v9:aN := .seq (.seq (.reg [oM 14 5,oM 15 0,oO 16 (.len (.t 15)),oO 17 (.bin .lss (.t 14) (.t 16))]) (.cond (.t 17) (.skip) (.exit 0))) (.seq (.block 1 (.reg [oM 20 4,oM 21 0,oM 22 5,oM 23 5,oO 24 (.bin .add (.t 23) (kI 2)),oO 25 (.slice 1 (.t 21) (some (.t 22)) (some (.t 24)) none),oO 26 (.call 48 [(.t 25)] none),oO 27 (.conv .i64 (.t 26)),oO 28 (.bldSl false 1 1 (.int .i64 0) [(0,(.t 27))]),oO 29 (.app false 1 8 (.t 20) (.t 28)),oM 4 29])) (.reg [oM 18 5,oO 19 (.bin .add (.t 18) (kI 2)),oM 5 19]))
def xR:aF:=⟨1,31,.seq (.reg [oO 2 (.mv (.k (.c .nil))),oO 3 (.mv (.k (.c (.d (.bool false)))))]) (.seq (.seq (.reg [oM 6 0,oO 7 (.len (.t 6)),oO 8 (.bin .rem (.t 7) (kI 2)),oO 9 (.bin .neq (.t 8) (kI 0))]) (.cond (.t 9) (.seq (.reg [oO 2 (.mv (.k (.c .nil))),oO 3 (.mv (.k (.c (.d (.bool false)))))]) (.ret)) (.skip))) (.seq (.reg [oM 10 0,oO 11 (.len (.t 10)),oO 12 (.bin .quo (.t 11) (kI 2)),oO 13 (.make true 1 8 (.int .i64 0) (kI 0) (.t 12)),oM 4 13]) (.seq (.seq (.reg [oO 5 (.mv (kI 0))]) (.block 0 (.loop v9))) (.seq (.reg [oM 30 4,oM 2 30,oO 3 (.mv (.k (.c (.d (.bool true)))))]) (.ret))))),[(2,none),(3,none)]⟩
theorem TQ:aE Tryz.prog { own:=[],comp:=[],frz:=[],nils:=[] } Tryz.f14=some xR:=by kernel_rfl
theorem Kj (G:ai) (b:List UInt8) (hb:b.length≤1000000000):au Tryz.prog G 14 [.sl (b.map bD)] (.tup [.c (.d (.sl ((eG b).map zD))),.c (.d (.bool (decide (b.length%2=0))))]):=by
  refine aG Tryz.func14 TQ rfl rfl ?_;have t2:=U3 b.length;have t5:=Va b.length;have t6:b.length / 2≤500000000:=by omega
  by_cases he:b.length%2=0
  ·have g0:(((b.length%2:Nat):Int)=0)=True:=eq_true (by omega);rw[decide_eq_true he,show eG b=ku b from if_pos he];have r0:List.replicate (Int.toNat 0) (D.int .i64 0)=([]:List D):=rfl;simp only[xR,ah,af,aa,seval,iteOmega,toNatUp,t2,g0,t5];refine bd (yM b) (fun k=>b.length / 2-k) (fun k=>2*k≤b.length) 0 (VY _) ?_ ?_
   ·refine aB (fun _=>104) ?_ ?_ rfl rfl <;> simp only[wx,aA,aK,aa,seval,iteOmega,toNatUp] <;> first | rfl | exact⟨rfl,rfl⟩ | skip
   ·intro k hk;have az:=Oi (i8 b k);have nl:=GE b k;by_cases hlt:2*k<b.length
    ·have l1:(a6 b (2*k) 2).length=2:=lv (by omega);have c:=pN G (a6 b (2*k) 2) (by omega);have b2:=(jb 2 (a6 b (2*k) 2) l1 (by decide)).1;have hs:=Pn b k;have hA:mj b k=(aY (a6 b (2*k) 2):Int):=rfl;have t1:(b.drop (2*k)).take 2=a6 b (2*k) 2:=rfl;have t3:(b.drop (2*k)).take (2*k+2-2*k)=a6 b (2*k) 2:=by rw[W5]; rfl
     have e5:2*((k:Int)+1)=2*(k:Int)+2:=by omega
     have g1:(((2*k:Nat):Int)<(b.length:Int))=True:=eq_true (by omega);generalize aY (a6 b (2*k) 2)=N at *
     rw[hA] at hs;simp only[v9,yM,af,aa,seval,iteOmega,toNatUp,g1,t1,t3];refine sC (c) ?_;simp only[bK,af,aa,seval,iteOmega,toNatUp];refine aX (k+1) (by omega) (by omega) (aB (fun _=>232) ?_ ?_ rfl rfl) <;> simp only[hs,Wu,zD,e5,wx,aA,aK,aa,seval,iteOmega,toNatUp] <;> first | rfl | exact⟨rfl,rfl⟩ | skip
    ·have hk2:k=b.length / 2:=by omega
     have g1:(((2*k:Nat):Int)<(b.length:Int))=False:=eq_false (by omega);subst hk2;unfold ku;simp only[v9,yM,af,aa,seval,iteOmega,toNatUp,g1];exact aW
  ·have g0:(((b.length%2:Nat):Int)=0)=False:=eq_false (by omega);rw[decide_eq_false he,show eG b=[] from if_neg he];simp only[xR,ah,af,aa,seval,iteOmega,toNatUp,t2,g0];exact aW
def Jf:aF:=⟨2,8,.seq (.reg [oO 4 (.alloc [(.d (.bool false)),(.d (.int .i64 0)),.nil])]) (.seq (.reg [oM 5 0,oM 6 1,oO 7 (.build [(.d (.bool false)),(.d (.int .i64 0)),.nil] [(0,1,(.k (.c (.d (.bool true))))),(1,1,(.t 5)),(2,1,(.t 6))]),oN (.store (.ag 3) (.t 4) (.t 7))]) (.ret)),[(4,(some (.ag 3)))]⟩
theorem TR:aE Tryz.prog { own:=[],comp:=[],frz:=[],nils:=[] } Tryz.f52=some Jf:=by kernel_rfl
theorem im (G:ai) (k:Int) (b:List UInt8):au Tryz.prog G 52 [.int .i64 k,.sl (b.map bD)] (.w (.c (.d (.agg [.bool true,.int .i64 k,.sl (b.map bD)])))):=by
  refine aG Tryz.func52 TR rfl rfl ?_;simp only[Jf,ah,af,aa,seval,iteOmega,toNatUp];exact aJ
def xS:aF:=⟨1,22,.seq (.reg [oO 1 (.box .roBox (.t 0)),oO 2 (.mv (.k (.c .nil)))]) (.seq (.reg [oO 4 (.fieldAddr 1 (.t 1)),oO 5 (.load .sc (.t 4)),oM 3 5]) (.seq (.seq (.reg [oO 6 (.fieldAddr 0 (.t 1)),oO 7 (.load .sc (.t 6))]) (.cond (.t 7) (.reg [oM 8 3,oO 9 (.bin .add (.t 8) (kI 32768)),oM 3 9]) (.skip))) (.seq (.reg [oM 10 3,oO 11 (.conv .u64 (.t 10)),oO 12 (.call 91 [(.t 11),(kI 2)] none),oO 13 (.fieldAddr 2 (.t 1)),oO 14 (.load .sc (.t 13)),oO 15 (.len (.t 14)),oO 16 (.conv .u64 (.t 15)),oO 17 (.call 91 [(.t 16),(kI 2)] none),oO 18 (.fieldAddr 2 (.t 1)),oO 19 (.load .sc (.t 18)),oO 20 (.bldSl false 3 1 (.sl []) [(0,(.t 12)),(1,(.t 17)),(2,(.t 19))]),oO 21 (.call 90 [(.t 20)] none),oM 2 21]) (.ret)))),[(2,none)]⟩
theorem TS:aE Tryz.prog { own:=[],comp:=[],frz:=[],nils:=[] } Tryz.f42=some xS:=by kernel_rfl
theorem Vb (G:ai) (r:Ek) (h:cx r=0):au Tryz.prog G 42 [aH r] (.w (.c (.d (.sl ((de r).map bD))))):=by
  refine aG Tryz.func42 TS rfl rfl ?_;obtain⟨h1,h2,h3⟩:=ij h;have hT:fV r=r.ty.toNat+if r.cr=true then 32768 else 0:=rfl
  have hB:de r=aQ (fV r) 2++(aQ r.bo.length 2++r.bo):=rfl;generalize de r=B at *
  generalize fV r=T at *
  obtain⟨cr,ty,bo⟩:=r;dsimp only at *
  obtain⟨a,rfl⟩:=W4 h1;rw[show ((a:Nat):Int).toNat=a from rfl] at hT;have c2:=ng G bo.length 2 (by decide);have c1:=ng G T 2 (by decide);rw[show (2:Int).toNat=2 from rfl] at c1 c2;have c3:=fC G [aQ T 2,aQ bo.length 2,bo] (by simp) (by simp[ch]; omega);rw[show [aQ T 2,aQ bo.length 2,bo].flatten=B from by rw[hB]; simp] at c3;simp only[VX,Wl] at c3;have hBl:B.length≤70000:=by rw[hB]; simp[ch]; omega
  clear hB;generalize aQ T 2=P1 at *
  generalize aQ bo.length 2=P2 at *
  unfold aH;cases cr
  ·rw[if_neg Bool.false_ne_true,W8] at hT;subst hT;simp only[xS,ah,af,aa,seval,iteOmega,toNatUp];refine sD (c1) ?_;refine sD (c2) ?_;refine sD (c3) ?_;exact aJ
  ·rw[if_pos rfl] at hT;subst hT;simp only[Xz,Xn] at c1;simp only[xS,ah,af,aa,seval,iteOmega,toNatUp];refine sD (c1) ?_;refine sD (c2) ?_;refine sD (c3) ?_;exact aJ
def lg (l:List Ek) (i:Nat):St:=⟨aV [(0,.w (.c (.d (.sl (l.map aH))))),(4,.w (.c (.d (.int .i64 ((aO (l.take i)).length:Int))))),(10,.w (.c (.d (.sl (l.map aH))))),(11,.w (.c (.d (.int .i64 (l.length:Int))))),(12,.w (.c (.d (.int .i64 (i:Int)))))],hL [],uL []⟩
def zo (l:List Ek) (i:Nat):St:=⟨aV [(7,.w (.c (.own 1 1 0 (aO (l.take i)).length))),(42,.w (.c (.d (.sl (l.map aH))))),(43,.w (.c (.d (.int .i64 (l.length:Int))))),(44,.w (.c (.d (.int .i64 (i:Int)))))],hL [(1,.row 1 ((aO (l.take i)).map bD))],uL [1]⟩
theorem Ey {l:List Ek} {i:Nat} (h:i<l.length):aO (l.take (i+1))=aO (l.take i)++de (l.getD i default):=by
  rw[my h,wJ,ly,wI,Wc]
theorem TT (l:List Ek) (h:∀ r∈l,r.bo.length≤65535):(aO l).length≤65539*l.length:=by
  induction l with
  | nil=>exact V0 _
  | cons r l ih =>
    have:=ih fun x hx=>h x (Wg _ hx)
    have:=h r Wt;rw[ly,VR,lA,WO];omega
theorem Rp (l:List Ek) (i:Nat):(aO (l.take i)).length≤(aO l).length:=by
  have:=congrArg List.length (show aO (l.take i++l.drop i)=_ from wJ _ _);rw[Wy,VR] at this;omega
def kA:aN := .seq (.reg [oO 13 (.bin .lss (.t 12) (.t 11))]) (.seq (.cond (.t 13) (.skip) (.exit 0)) (.seq (.block 1 (.seq (.reg [oO 14 (.idxSl 3 (.t 10) (.t 12)),oO 15 (.load (.ag 3) (.t 14)),oO 6 (.alloc [(.d (.bool false)),(.d (.int .i64 0)),.nil]),oN (.store (.ag 3) (.t 6) (.t 15))]) (.seq (.seq (.reg [oO 16 (.fieldAddr 1 (.t 6)),oO 17 (.load .sc (.t 16)),oO 18 (.bin .lss (.t 17) (kI 0)),oM 19 18,oG 20 (.fieldAddr 1 (.t 6)) 19 false,oG 21 (.load .sc (.t 20)) 19 false,oG 22 (.bin .geq (.t 21) (kI 32768)) 19 false,oO 23 (.pick (.t 19) (.k (.c (.d (.bool true)))) (.t 22))]) (.cond (.t 23) (.seq (.reg [oO 2 (.mv (.k (.c .nil))),oO 3 (.mv (kI 4))]) (.ret)) (.skip))) (.seq (.seq (.reg [oO 24 (.fieldAddr 2 (.t 6)),oO 25 (.load .sc (.t 24)),oO 26 (.len (.t 25)),oO 27 (.bin .gtr (.t 26) (kI 65535))])
 (.cond (.t 27) (.seq (.reg [oO 2 (.mv (.k (.c .nil))),oO 3 (.mv (kI 2))]) (.ret)) (.skip))) (.reg [oM 28 4,oO 29 (.fieldAddr 2 (.t 6)),oO 30 (.load .sc (.t 29)),oO 31 (.len (.t 30)),oO 32 (.bin .add (kI 4) (.t 31)),oO 33 (.bin .add (.t 28) (.t 32)),oM 4 33]))))) (.reg [oO 34 (.bin .add (.t 12) (kI 1)),oM 12 34])))
def wa:aN := .seq (.reg [oO 45 (.bin .lss (.t 44) (.t 43))]) (.seq (.cond (.t 45) (.skip) (.exit 2)) (.seq (.block 3 (.seq (.reg [oO 46 (.idxSl 3 (.t 42) (.t 44)),oO 47 (.load (.ag 3) (.t 46)),oO 9 (.alloc [(.d (.bool false)),(.d (.int .i64 0)),.nil]),oN (.store (.ag 3) (.t 9) (.t 47))]) (.reg [oM 48 7,oO 49 (.load (.ag 3) (.t 9)),oO 50 (.call 42 [(.t 49)] none),oO 51 (.app false 1 1 (.t 48) (.t 50)),oM 7 51]))) (.reg [oO 52 (.bin .add (.t 44) (kI 1)),oM 44 52])))
def Jg:aF:=⟨1,54,.seq (.reg [oO 2 (.mv (.k (.c .nil))),oO 3 (.mv (kI 0))]) (.seq (.reg [oO 4 (.mv (kI 0))]) (.seq (.seq (.reg [oM 10 0,oO 11 (.len (.t 10)),oO 12 (.mv (kI 0))]) (.block 0 (.loop kA))) (.seq (.seq (.reg [oM 35 0,oO 36 (.len (.t 35)),oO 37 (.bin .gtr (.t 36) (kI 64))]) (.cond (.t 37) (.seq (.reg [oO 2 (.mv (.k (.c .nil))),oO 3 (.mv (kI 8))]) (.ret)) (.skip))) (.seq (.seq (.reg [oM 38 4,oO 39 (.bin .gtr (.t 38) (kI 65535))]) (.cond (.t 39) (.seq (.reg [oO 2 (.mv (.k (.c .nil))),oO 3 (.mv (kI 2))]) (.ret)) (.skip))) (.seq (.reg [oM 40 4,oO 41 (.make true 1 1 (.int .u8 0) (kI 0) (.t 40)),oM 7 41]) (.seq (.seq (.reg [oM 42 0,oO 43 (.len (.t 42)),oO 44 (.mv (kI 0))]) (.block 2 (.loop wa))) (.seq (.reg [oM 53 7,oM 2 53,oO 3 (.mv (kI 0))]) (.ret)))))))),[(2,none),(3,none)]⟩
theorem TU:aE Tryz.prog { own:=[],comp:=[],frz:=[],nils:=[] } Tryz.f10=some Jg:=by kernel_rfl
theorem Kk (G:ai) (l:List Ek) (hl:l.length≤1000000) (hb:∀ r∈l,r.bo.length≤1000000000000):au Tryz.prog G 10 [.sl (l.map aH)] (.tup [.c (.fr 1 ((fc l).map bD)),.c (.d (.int .i64 (bT l)))]):=by
  refine aG Tryz.func10 TU rfl rfl ?_;simp only[Jg,ah,af,aa,seval,iteOmega,toNatUp];refine bd (lg l) (fun i=>l.length-i) (fun i=>i≤l.length∧ea (l.take i)=0) 0 ⟨VY _,by rw[WU]; rfl⟩ ?_ ?_
  ·refine aB (fun _=>0) ?_ ?_ rfl rfl <;> simp only[wx,aA,aK,aa,seval,iteOmega,toNatUp] <;> first | rfl | exact⟨rfl,rfl⟩ | skip
  ·rintro i ⟨hi,hW⟩;have hA:=TT (l.take i) fun r hr=>(ij (pO.1 hW r hr)).2.2
   rw[VW,Nat.min_eq_left hi] at hA;by_cases hlt:i<l.length
   ·have g:=jq hlt;have hm:=hb _ (iH hlt);have hst:=D1 hlt hW;have hnx:=vH hlt hW;have hno:∀ e,cx (l.getD i default)=e→e≠0→bT l=e∧fc l=[]:=fun e h1 h2=>by
      have h3:=hst (by rw[h1]; exact h2);have h4:bT l=e:=by unfold bT; rw[if_neg (by rw[h3,h1]; exact h2),h3,h1]
      exact⟨h4,if_neg (by rw[h4]; exact h2)⟩
    have hF:cx (l.getD i default)=if (l.getD i default).ty<0∨32767<(l.getD i default).ty then 4 else if 65535<(l.getD i default).bo.length then 2 else 0:=rfl
    have eA:((aO (l.take (i+1))).length:Int)=((aO (l.take i)).length:Int)+(4+((l.getD i default).bo.length:Int)):=by
      rw[Ey hlt,VR,lA]; omega
    generalize hx:l.getD i default=x at *
    generalize cx x=f at *
    generalize hAq:(aO (l.take i)).length=A at *
    obtain⟨cr,ty,bo⟩:=x;dsimp only at *
    by_cases h1:ty<0
    ·have g1:=eq_true h1;obtain⟨q1,q2⟩:=hno 4 (by rw[hF,if_pos (.inl h1)]) (by decide);rw[q1,q2];clear hst hnx hno eA;simp only[kA,lg,hAq,af,aa,seval,iteOmega,toNatUp,aM,g,aH,g1];exact du
    ·have g1:=eq_false h1;by_cases h2:ty≥32768
     ·have g2:=eq_true h2;obtain⟨q1,q2⟩:=hno 4 (by rw[hF,if_pos (.inr (by omega))]) (by decide);rw[q1,q2];clear hst hnx hno eA;simp only[kA,lg,hAq,af,aa,seval,iteOmega,toNatUp,aM,g,aH,g1,g2];exact du
     ·have g2:=eq_false h2;rw[if_neg (by omega)] at hF;by_cases h3:65535<bo.length
      ·have g3:((bo.length:Int)>65535)=True:=eq_true (by omega);obtain⟨q1,q2⟩:=hno 2 (by rw[hF,if_pos h3]) (by decide);rw[q1,q2];clear hst hnx hno eA;simp only[kA,lg,hAq,af,aa,seval,iteOmega,toNatUp,aM,g,aH,g1,g2,g3];exact du
      ·have g3:((bo.length:Int)>65535)=False:=eq_false (by omega);rw[if_neg h3] at hF;subst hF;clear hst hno;simp only[kA,lg,hAq,af,aa,seval,iteOmega,toNatUp,aM,g,aH,g1,g2,g3];refine aX (i+1) (by omega) ⟨by omega,by rw[hnx]⟩ (aB (fun i=>i) ?_ ?_ rfl rfl) <;> simp only[eA,wx,aA,aK,aa,seval,iteOmega,toNatUp] <;> first | rfl | exact⟨rfl,rfl⟩ | skip
   ·obtain rfl:i=l.length:=by omega
    rw[WP] at hW hA;by_cases h4:64<l.length
    ·have e:bT l=8:=by unfold bT; rw[if_pos hW,if_pos h4]
     rw[show fc l=[] from if_neg (by rw[e]; decide),e];have g4:((l.length:Int)>64)=True:=eq_true (by omega);simp only[kA,lg,af,aa,seval,iteOmega,toNatUp,g4];exact du
    ·have g4:((l.length:Int)>64)=False:=eq_false (by omega);by_cases h5:(aO l).length≤65535
     ·have e:bT l=0:=by unfold bT; rw[if_pos hW,if_neg h4,if_neg (by omega)]
      rw[show fc l=aO l from if_pos e,e];have g5:(((aO l).length:Int)>65535)=False:=eq_false (by omega);have r0:List.replicate (Int.toNat 0) (D.int .u8 0)=([]:List D):=rfl;simp only[kA,lg,af,aa,seval,iteOmega,toNatUp,g4,g5,r0];refine bd (zo l) (fun i=>l.length-i) (fun i=>i≤l.length) 0 (VY _) ?_ ?_
      ·refine aB (fun _=>328) ?_ ?_ rfl rfl <;> simp only[wx,aA,aK,aa,seval,iteOmega,toNatUp] <;> first | rfl | exact⟨rfl,rfl⟩ | skip
      ·intro i hi;by_cases hlt:i<l.length
       ·have g:=jq hlt;have c:=Vb G (l.getD i default) (pO.1 hW _ (iH hlt));have ha:=Ey hlt;have h1:=Rp l (i+1);rw[ha,VR] at h1;unfold aH at c;generalize l.getD i default=x at *
        generalize de x=B at *
        generalize hAq:aO (l.take i)=A at *
        simp only[wa,zo,hAq,af,aa,seval,iteOmega,toNatUp,aM,g,aH];refine sC (c) ?_;simp only[bK,af,aa,seval,iteOmega,toNatUp];refine aX (i+1) (by omega) (by omega) (aB (fun _=>408) ?_ ?_ rfl rfl) <;> simp only[ha,wx,aA,aK,aa,seval,iteOmega,toNatUp] <;> first | rfl | exact⟨rfl,rfl⟩ | skip
       ·have hil:l.take i=l:=VV (by omega);simp only[wa,zo,af,aa,seval,iteOmega,toNatUp,hil];exact du
     ·have e:bT l=2:=by unfold bT; rw[if_pos hW,if_neg h4,if_pos (by omega)]
      rw[show fc l=[] from if_neg (by rw[e]; decide),e];have g5:(((aO l).length:Int)>65535)=True:=eq_true (by omega);simp only[kA,lg,af,aa,seval,iteOmega,toNatUp,g4,g5];exact du
theorem Kl (G:ai) (l:List Ek) (hl:l.length≤1000000) (hb:∀ r∈l,r.bo.length≤1000000000000):au Tryz.prog G 10 [.sl (l.map aH)] (.tup [.c (.d (.sl ((fc l).map bD))),.c (.d (.int .i64 (bT l)))]):=pf (Kk G l hl hb)
def sB:aF:=⟨1,18,.seq (.reg [oO 2 (.mv (kI 0)),oO 3 (.mv (.k (.c (.d (.bool false)))))]) (.seq (.seq (.reg [oM 5 0,oO 6 (.len (.t 5)),oO 7 (.bin .lss (.t 6) (kI 4))]) (.cond (.t 7) (.seq (.reg [oO 2 (.mv (kI 0)),oO 3 (.mv (.k (.c (.d (.bool false)))))]) (.ret)) (.skip))) (.seq (.reg [oM 8 0,oO 9 (.slice 1 (.t 8) (some (kI 2)) (some (kI 4)) none),oO 10 (.call 48 [(.t 9)] none),oO 11 (.conv .i64 (.t 10)),oO 12 (.bin .add (kI 4) (.t 11)),oM 4 12]) (.seq (.reg [oM 13 4,oM 14 4,oM 15 0,oO 16 (.len (.t 15)),oO 17 (.bin .leq (.t 14) (.t 16)),oM 2 13,oM 3 17]) (.ret)))),[(2,none),(3,none)]⟩
theorem TV:aE Tryz.prog { own:=[],comp:=[],frz:=[],nils:=[] } Tryz.f45=some sB:=by kernel_rfl
theorem Vd (G:ai) (b:List UInt8) (hb:b.length≤1000000000000):au Tryz.prog G 45 [.sl (b.map bD)] (.tup [.c (.d (.int .i64 (if b.length<4 then 0 else ((4+cd b:Nat):Int)))),.c (.d (.bool (decide (4≤b.length∧4+cd b≤b.length))))]):=by
  refine aG Tryz.func45 TV rfl rfl ?_;by_cases h:b.length<4
  ·rw[if_pos h,decide_eq_false (by omega)];have g:((b.length:Int)<4)=True:=eq_true (by omega);simp only[sB,ah,af,aa,seval,iteOmega,toNatUp,g];exact aW
  ·rw[if_neg h];have g:((b.length:Int)<4)=False:=eq_false (by omega);have l3:(a6 b 2 2).length=2:=lv (by omega);have b3:=(jb 2 (a6 b 2 2) l3 (by decide)).1;have c:=pN G (a6 b 2 2) (by omega);have hN:cd b=aY (a6 b 2 2):=rfl;have t1:(b.drop 2).take 2=a6 b 2 2:=rfl;have t2:(b.drop 2).take (4-2)=a6 b 2 2:=rfl;generalize aY (a6 b 2 2)=N at *
   rw[hN];by_cases h2:4+N≤b.length
   ·rw[decide_eq_true (by omega)];have g2:((4:Int)+(N:Int)≤(b.length:Int))=True:=eq_true (by omega);simp only[sB,ah,af,aa,seval,iteOmega,toNatUp,g,t1,t2];refine sC (c) ?_;simp only[g2,af,aa,seval,iteOmega,toNatUp];exact aW
   ·rw[decide_eq_false (by omega)];have g2:((4:Int)+(N:Int)≤(b.length:Int))=False:=eq_false (by omega);simp only[sB,ah,af,aa,seval,iteOmega,toNatUp,g,t1,t2];refine sC (c) ?_;simp only[g2,af,aa,seval,iteOmega,toNatUp];exact aW
def t8 (b:List UInt8):Ek:=⟨decide (32768≤(aY (b.take 2):Int)),(aY (b.take 2):Int)%32768,b.drop 4⟩
theorem Ve (n:Nat):Int.tmod (n:Int) 32768=(n:Int)%32768:=rfl
def xT:aF:=⟨1,17,.seq (.reg [oO 2 (.alloc [(.d (.bool false)),(.d (.int .i64 0)),.nil])]) (.seq (.reg [oM 4 0,oO 5 (.slice 1 (.t 4) none (some (kI 2)) none),oO 6 (.call 48 [(.t 5)] none),oO 7 (.conv .i64 (.t 6)),oM 3 7]) (.seq (.reg [oM 8 3,oO 9 (.bin .geq (.t 8) (kI 32768)),oM 10 3,oO 11 (.bin .rem (.t 10) (kI 32768)),oM 12 0,oO 13 (.slice 1 (.t 12) (some (kI 4)) none none),oO 14 (.bldSl false 1 1 (.sl []) [(0,(.t 13))]),oO 15 (.call 90 [(.t 14)] none),oO 16 (.build [(.d (.bool false)),(.d (.int .i64 0)),.nil] [(0,1,(.t 9)),(1,1,(.t 11)),(2,1,(.t 15))]),oN (.store (.ag 3) (.t 2) (.t 16))]) (.ret))),[(2,(some (.ag 3)))]⟩
theorem TW:aE Tryz.prog { own:=[],comp:=[],frz:=[],nils:=[] } Tryz.f46=some xT:=by kernel_rfl
theorem Vf (G:ai) (b:List UInt8) (hb:b.length≤1000000000000) (h4:4≤b.length):au Tryz.prog G 46 [.sl (b.map bD)] (.w (.c (.d (aH (t8 b))))):=by
  refine aG Tryz.func46 TW rfl rfl ?_;have l3:(b.take 2).length=2:=by rw[VW]; omega
  have b3:=(jb 2 (b.take 2) l3 (by decide)).1;have c:=pN G (b.take 2) (by omega);have cj:=fC G [b.drop 4] (by simp) (by simp; omega);rw[show [b.drop 4].flatten=b.drop 4 from by simp] at cj;simp only[VX,Wl] at cj;have dl:(b.drop 4).length=b.length-4:=V5;have t1:(b.drop 4).take (b.length-4)=b.drop 4:=VV (by omega);unfold t8 aH;generalize aY (b.take 2)=K at *
  have hm:=Ve K;generalize hB:b.drop 4=B at *
  generalize hA:b.take 2=A at *
  by_cases hk:(K:Int)≥32768
  ·have gk:=eq_true hk;rw[decide_eq_true (show (32768:Int)≤K from hk)];simp only[xT,ah,af,aa,seval,iteOmega,toNatUp,hA];refine sC (c) ?_;simp only[hm,hB,t1,gk,af,aa,seval,iteOmega,toNatUp];refine sC (cj) ?_;simp only[hm,hB,t1,gk,af,aa,seval,iteOmega,toNatUp];exact aJ
  ·have gk:=eq_false hk;rw[decide_eq_false (show ¬ (32768:Int)≤K from hk)];simp only[xT,ah,af,aa,seval,iteOmega,toNatUp,hA];refine sC (c) ?_;simp only[hm,hB,t1,gk,af,aa,seval,iteOmega,toNatUp];refine sC (cj) ?_;simp only[hm,hB,t1,gk,af,aa,seval,iteOmega,toNatUp];exact aJ
structure Dw where
  r:List UInt8
  o:List Fd
def nI (t:Dw):St:=⟨aV [(0,.w (.c (.d (.sl (t.r.map bD))))),(4,.w (.c (.own 1 3 0 t.o.length)))],hL [(1,.row 3 ((t.o.map dr).map aH))],uL [1]⟩
theorem TX {r:List UInt8} (h1:¬ r.length<4) (h2:¬ r.length-4<cd r):t8 (r.take (4+cd r))=dr (fo r):=by
  have e1:(r.take (4+cd r)).take 2=r.take 2:=by rw[List.take_take,Nat.min_eq_left (by omega)]
  have e2:(r.take (4+cd r)).drop 4=a6 r 4 (cd r):=by rw[List.drop_take,W5]; rfl
  unfold t8 dr fo;rw[e1,e2]
theorem Rq {b r:List UInt8} {o:List Fd} (hd:cK b=(cK r).map (o++·)) (h1:¬ r.length<4) (h2:¬ r.length-4<cd r):cK b=(cK (r.drop (4+cd r))).map ((o++[fo r])++·):=by
  rw[hd,r6 h1 h2,Option.map_map]
  congr 1
  funext x
  simp
def mN:aN := .seq (.seq (.reg [oM 10 0,oO 11 (.len (.t 10)),oO 12 (.bin .gtr (.t 11) (kI 0))]) (.cond (.t 12) (.skip) (.exit 0))) (.block 1 (.seq (.reg [oM 14 0,oO 15 (.call 45 [(.t 14)] none),oM 13 15,oO 16 (.extract (.t 13) 0),oO 17 (.extract (.t 13) 1),oM 5 16,oM 6 17]) (.seq (.seq (.reg [oM 18 6,oO 19 (.un .not (.t 18))]) (.cond (.t 19) (.seq (.reg [oO 2 (.mv (.k (.c .nil))),oO 3 (.mv (kI 1))]) (.ret)) (.skip))) (.seq (.reg [oM 20 4,oM 21 0,oM 22 5,oO 23 (.slice 1 (.t 21) none (some (.t 22)) none),oO 24 (.call 46 [(.t 23)] none),oO 25 (.bldSl false 1 3 (.agg [(.bool false),(.int .i64 0),(.sl [])]) [(0,(.t 24))]),oO 26 (.app false 3 40 (.t 20) (.t 25)),oM 4 26]) (.reg [oM 27 0,oM 28 5,oO 29 (.slice 1 (.t 27) (some (.t 28)) none none),oM 0 29])))))
def xU:aF:=⟨1,34,.seq (.reg [oO 2 (.mv (.k (.c .nil))),oO 3 (.mv (kI 0))]) (.seq (.seq (.reg [oM 7 0,oO 8 (.len (.t 7)),oO 9 (.bin .gtr (.t 8) (kI 65535))]) (.cond (.t 9) (.seq (.reg [oO 2 (.mv (.k (.c .nil))),oO 3 (.mv (kI 2))]) (.ret)) (.skip))) (.seq (.reg [oO 4 (.nilOwn 3)]) (.seq (.block 0 (.loop mN)) (.seq (.seq (.reg [oM 30 4,oO 31 (.len (.t 30)),oO 32 (.bin .gtr (.t 31) (kI 64))]) (.cond (.t 32) (.seq (.reg [oO 2 (.mv (.k (.c .nil))),oO 3 (.mv (kI 8))]) (.ret)) (.skip))) (.seq (.reg [oM 33 4,oM 2 33,oO 3 (.mv (kI 0))]) (.ret)))))),[(2,none),(3,none)]⟩
theorem TY:aE Tryz.prog { own:=[4],comp:=[],frz:=[],nils:=[] } Tryz.f12=some xU:=by kernel_rfl
theorem yN (G:ai) (b:List UInt8) (hb:b.length≤1000000000):au Tryz.prog G 12 [.sl (b.map bD)] (.tup [.c (.d (.sl ((aD b).map aH))),.c (.d (.int .i64 (cN b)))]):=by
  refine aG Tryz.func12 TY rfl rfl ?_;by_cases h0:65535<b.length
  ·have g0:((b.length:Int)>65535)=True:=eq_true (by omega);have e1:dU b=2:=if_pos h0;have e2:cN b=2:=by unfold cN; rw[e1]; rfl
   rw[e2,show aD b=[] from if_neg (by rw[e2]; decide)];simp only[xU,ah,af,aa,seval,iteOmega,toNatUp,g0];exact aW
  ·have g0:((b.length:Int)>65535)=False:=eq_false (by omega);simp only[xU,ah,af,aa,seval,iteOmega,toNatUp,g0];refine bd nI (fun t=>t.r.length) (fun t=>t.r.length+t.o.length≤b.length∧cK b=(cK t.r).map (t.o++·)) ⟨b,[]⟩ ⟨V0 _,by cases cK b <;> rfl⟩ ?_ ?_
   ·refine aB (fun _=>32) ?_ ?_ rfl rfl <;> simp only[wx,aA,aK,aa,seval,iteOmega,toNatUp] <;> first | rfl | exact⟨rfl,rfl⟩ | skip
   ·rintro⟨r,o⟩ ⟨hol,hd⟩;dsimp only at hol hd;have az:=lw (o.map dr);have ol:(o.map dr).length=o.length:=VZ ..;by_cases hlt:0<r.length
    ·have g1:((r.length:Int)>0)=True:=eq_true (by omega);have c:=Vd G r (by omega);by_cases h1:r.length<4
     ·rw[if_pos h1,decide_eq_false (by omega)] at c;rw[wK (by omega) h1] at hd;have e1:dU b=1:=by unfold dU; rw[if_neg h0,hd]; rfl
      have e2:cN b=1:=by unfold cN; rw[e1]; rfl
      rw[e2,show aD b=[] from if_neg (by rw[e2]; decide)];simp only[mN,nI,af,aa,seval,iteOmega,toNatUp,g1];refine sD (c) ?_;exact aW
     ·rw[if_neg h1] at c;by_cases h2:r.length-4<cd r
      ·rw[decide_eq_false (by omega)] at c;rw[uY h1 h2] at hd;have e1:dU b=1:=by unfold dU; rw[if_neg h0,hd]; rfl
       have e2:cN b=1:=by unfold cN; rw[e1]; rfl
       rw[e2,show aD b=[] from if_neg (by rw[e2]; decide)];simp only[mN,nI,af,aa,seval,iteOmega,toNatUp,g1];refine sD (c) ?_;exact aW
      ·rw[decide_eq_true (by omega)] at c;have hd2:=Rq hd h1 h2;have hr:=TX h1 h2;have tl:(r.take (4+cd r)).length=4+cd r:=by rw[VW]; omega
       have dl:(r.drop (4+cd r)).length=r.length-(4+cd r):=V5;have c2:=Vf G (r.take (4+cd r)) (by omega) (by omega);rw[hr] at c2;have eo:((o++[fo r]).map dr).map aH=(o.map dr).map aH++[aH (dr (fo r))]:=by simp
       have lo:(o++[fo r]).length=o.length+1:=by simp
       have cz:(aH (dr (fo r))).cells.length=3:=rfl;have t3:(r.drop (4+cd r)).take (r.length-(4+cd r))=r.drop (4+cd r):=VV (by omega);generalize hR:o++[fo r]=O at *
       generalize aH (dr (fo r))=E at *
       generalize hK:4+cd r=K at *
       simp only[mN,nI,af,aa,seval,iteOmega,toNatUp,g1];refine sC (c) ?_;simp only[bK,af,aa,seval,iteOmega,toNatUp];refine sC (c2) ?_;simp only[bK,cz,t3,af,aa,seval,iteOmega,toNatUp];refine aX (⟨r.drop K,O⟩:Dw) (by dsimp only; omega) ⟨by dsimp only; omega,by dsimp only; exact hd2⟩ (aB (fun _=>208) ?_ ?_ rfl rfl) <;> simp only[eo,lo,wx,aA,aK,aa,seval,iteOmega,toNatUp] <;> first | rfl | exact⟨rfl,rfl⟩ | skip
    ·have g1:((r.length:Int)>0)=False:=eq_false (by omega);obtain rfl:r=[]:=Wr.1 (by omega);rw[pk] at hd;have hd:cK b=some o:=by rw[hd]; simp
     have e1:dU b=0:=by unfold dU; rw[if_neg h0,hd]; rfl
     have e2:eU b=o:=by unfold eU; rw[if_neg h0,hd]; rfl
     by_cases h64:64<o.length
     ·have e3:cN b=8:=by unfold cN; rw[if_pos e1,e2,if_pos h64]
      rw[e3,show aD b=[] from if_neg (by rw[e3]; decide)];have g2:((o.length:Int)>64)=True:=eq_true (by omega);simp only[mN,nI,af,aa,seval,iteOmega,toNatUp,g1,g2,ol];exact aW
     ·have e3:cN b=0:=by unfold cN; rw[if_pos e1,e2,if_neg h64]
      rw[e3,show aD b=o.map dr from by unfold aD; rw[if_pos e3,e2]];have g2:((o.length:Int)>64)=False:=eq_false (by omega);simp only[mN,nI,af,aa,seval,iteOmega,toNatUp,g1,g2,ol];exact aW
def sE:aF:=⟨1,11,.seq (.reg [oO 2 (.mv (.k (.c (.d (.bool false)))))]) (.seq (.reg [oM 3 0,oO 4 (.len (.t 3)),oO 5 (.bin .geq (.t 4) (kI 1)),oM 6 5,oG 7 (.mv (.t 0)) 6 true,oG 8 (.len (.t 7)) 6 true,oG 9 (.bin .leq (.t 8) (kI 16)) 6 true,oO 10 (.pick (.t 6) (.t 9) (.k (.c (.d (.bool false))))),oM 2 10]) (.ret)),[(2,none)]⟩
theorem TZ:aE Tryz.prog { own:=[],comp:=[],frz:=[],nils:=[] } Tryz.f51=some sE:=by kernel_rfl
theorem Km (G:ai) (l:List Int) (hl:l.length≤9000000000000000000):au Tryz.prog G 51 [.sl (l.map zD)] (.w (.c (.d (.bool (decide (1≤l.length∧l.length≤16)))))):=by
  refine aG Tryz.func51 TZ rfl rfl ?_;by_cases h1:1≤l.length
  ·have g1:((l.length:Int)≥1)=True:=eq_true (by omega);by_cases h2:l.length≤16
   ·have g2:((l.length:Int)≤16)=True:=eq_true (by omega);rw[decide_eq_true ⟨h1,h2⟩];simp only[sE,ah,af,aa,seval,iteOmega,toNatUp,g1,g2];exact aJ
   ·have g2:((l.length:Int)≤16)=False:=eq_false (by omega);rw[decide_eq_false (by omega)];simp only[sE,ah,af,aa,seval,iteOmega,toNatUp,g1,g2];exact aJ
  ·have g1:((l.length:Int)≥1)=False:=eq_false (by omega);rw[decide_eq_false (by omega)];simp only[sE,ah,af,aa,seval,iteOmega,toNatUp,g1];exact aJ
def nm:aF:=⟨2,33,.seq (.reg [oO 4 (.mv (.k (.c .nil))),oO 5 (.mv (kI 0))]) (.seq (.seq (.reg [oM 6 0,oO 7 (.call 50 [(.t 6)] none),oO 8 (.un .not (.t 7)),oM 9 8,oG 10 (.mv (.t 1)) 9 false,oG 11 (.call 50 [(.t 10)] none) 9 false,oG 12 (.un .not (.t 11)) 9 false,oO 13 (.pick (.t 9) (.k (.c (.d (.bool true)))) (.t 12))]) (.cond (.t 13) (.seq (.reg [oO 4 (.mv (.k (.c .nil))),oO 5 (.mv (kI 4))]) (.ret)) (.skip))) (.seq (.seq (.reg [oM 14 0,oO 15 (.call 51 [(.t 14)] none),oO 16 (.un .not (.t 15)),oM 17 16,oG 18 (.mv (.t 1)) 17 false,oG 19 (.call 51 [(.t 18)] none) 17 false,oG 20 (.un .not (.t 19)) 17 false,oO 21 (.pick (.t 17) (.k (.c (.d (.bool true)))) (.t 20))]) (.cond (.t 21) (.seq (.reg [oO 4 (.mv (.k (.c .nil))),oO 5 (.mv (kI 8))]) (.ret)) (.skip))) (.seq (.reg [oM 22 0,oO 23 (.call 53 [(.t 22)] none),
 oO 24 (.call 52 [(kI 1),(.t 23)] none),oM 25 1,oO 26 (.call 53 [(.t 25)] none),oO 27 (.call 52 [(kI 4),(.t 26)] none),oO 28 (.call 52 [(kI 0),(.k (.c .nil))] none),oO 29 (.bldSl false 3 3 (.agg [(.bool false),(.int .i64 0),(.sl [])]) [(0,(.t 24)),(1,(.t 27)),(2,(.t 28))]),oO 30 (.call 10 [(.t 29)] none),oO 31 (.extract (.t 30) 0),oO 32 (.extract (.t 30) 1),oM 4 31,oM 5 32]) (.ret)))),[(4,none),(5,none)]⟩
theorem T1:aE Tryz.prog { own:=[],comp:=[],frz:=[],nils:=[] } Tryz.f16=some nm:=by kernel_rfl
theorem yO (G:ai) (x y:List Int) (hx:x.length≤1000000) (hy:y.length≤1000000):au Tryz.prog G 16 [.sl (x.map zD),.sl (y.map zD)] (.tup [.c (.d (.sl ((bc x y).map bD))),.c (.d (.int .i64 (dh x y)))]):=by
  refine aG Tryz.func16 T1 rfl rfl ?_;have c1:=nH G x (by omega);have c2:=nH G y (by omega);have c3:=Km G x (by omega);have c4:=Km G y (by omega);by_cases h1:bH x
  ·rw[decide_eq_true h1] at c1;by_cases h2:bH y
   ·rw[decide_eq_true h2] at c2;by_cases h3:1≤x.length∧x.length≤16
    ·rw[decide_eq_true h3] at c3;by_cases h4:1≤y.length∧y.length≤16
     ·rw[decide_eq_true h4] at c4;have e:dh x y=0:=by unfold dh; rw[if_neg (not_not_intro ⟨h1,h2⟩),if_neg (by omega)]
      have c5:=lV G x (by omega) h1;have c6:=lV G y (by omega) h2;have c7:=im G 1 (aI x);have c8:=im G 4 (aI y);have c9:=im G 0 [];have l1:=eW x;have l2:=eW y;have hf:∀ r∈dC x y,cx r=0:=by
        intro r hr;simp only[dC,V6,XT,or_false] at hr;rcases hr with rfl | rfl | rfl <;> exact rY (by dsimp only; omega) (by dsimp only; omega) (by first | (dsimp only; omega) | simp)
      have ht:(aO (dC x y)).length≤65535:=by
        simp only[dC,ly,wI,VR,lA,Xj]; omega
      obtain⟨q1,q2⟩:=rZ hf (by simp[dC]) ht;have c10:=Kl G (dC x y) (by simp[dC]) (fun r hr=>by have:=(ij (hf r hr)).2.2; omega);rw[q1,q2] at c10;rw[e,show bc x y=aO (dC x y) from if_pos e];have hL:(dC x y).map aH=[D.agg [.bool true,.int .i64 1,.sl ((aI x).map bD)],D.agg [.bool true,.int .i64 4,.sl ((aI y).map bD)],D.agg [.bool true,.int .i64 0,.sl []]]:=rfl;rw[hL] at c10;generalize aO (dC x y)=R at *
      clear hf ht q1 q2 hL;simp only[Wl] at c9;generalize aI x=X at *
      generalize aI y=Y at *
      simp only[nm,ah,af,aa,seval,iteOmega,toNatUp];refine sD (c1) ?_;refine sD (c2) ?_;refine sD (c3) ?_;refine sD (c4) ?_;refine sD (c5) ?_;refine sD (c7) ?_;refine sD (c6) ?_;refine sD (c8) ?_;refine sD (c9) ?_;refine sD (c10) ?_;exact aW
     ·rw[decide_eq_false h4] at c4;have e:dh x y=8:=by unfold dh; rw[if_neg (not_not_intro ⟨h1,h2⟩),if_pos (by omega)]
      rw[e,show bc x y=[] from if_neg (by rw[e]; decide)];simp only[nm,ah,af,aa,seval,iteOmega,toNatUp];refine sD (c1) ?_;refine sD (c2) ?_;refine sD (c3) ?_;refine sD (c4) ?_;exact aW
    ·rw[decide_eq_false h3] at c3;have e:dh x y=8:=by unfold dh; rw[if_neg (not_not_intro ⟨h1,h2⟩),if_pos (by omega)]
     rw[e,show bc x y=[] from if_neg (by rw[e]; decide)];simp only[nm,ah,af,aa,seval,iteOmega,toNatUp];refine sD (c1) ?_;refine sD (c2) ?_;refine sD (c3) ?_;exact aW
   ·rw[decide_eq_false h2] at c2;have e:dh x y=4:=by unfold dh; rw[if_pos (fun h=>h2 h.2)]
    rw[e,show bc x y=[] from if_neg (by rw[e]; decide)];simp only[nm,ah,af,aa,seval,iteOmega,toNatUp];refine sD (c1) ?_;refine sD (c2) ?_;exact aW
  ·rw[decide_eq_false h1] at c1;have e:dh x y=4:=by unfold dh; rw[if_pos (fun h=>h1 h.1)]
   rw[e,show bc x y=[] from if_neg (by rw[e]; decide)];simp only[nm,ah,af,aa,seval,iteOmega,toNatUp];refine sD (c1) ?_;exact aW
def tj (l:List Int) (v:Int) (i:Nat):St:=⟨aV [(0,.w (.c (.d (.sl (l.map zD))))),(1,.w (.c (.d (.int .i64 v)))),(7,.w (.c (.d (.int .i64 (l.length:Int))))),(8,.w (.c (.d (.int .i64 (i:Int)))))],hL [],uL []⟩
def VL (l:List Int) (v n:Int):Prop:=(v∈l∧0≤n)∨(v∉l∧n=-1)
def rm:aN := .seq (.reg [oO 9 (.bin .lss (.t 8) (.t 7))]) (.seq (.cond (.t 9) (.skip) (.exit 0)) (.seq (.block 1 (.seq (.reg [oM 10 8,oM 5 10]) (.seq (.reg [oM 11 1,oM 12 0,oM 13 5,oO 14 (.idxSl 1 (.t 12) (.t 13)),oO 15 (.load .sc (.t 14)),oO 16 (.bin .eql (.t 11) (.t 15))]) (.cond (.t 16) (.seq (.reg [oM 17 5,oM 4 17]) (.ret)) (.skip))))) (.reg [oO 18 (.bin .add (.t 8) (kI 1)),oM 8 18])))
def Jh:aF:=⟨2,19,.seq (.reg [oO 4 (.mv (kI 0))]) (.seq (.seq (.reg [oM 6 0,oO 7 (.len (.t 6)),oO 8 (.mv (kI 0))]) (.block 0 (.loop rm))) (.seq (.reg [oO 4 (.mv (.k (.c (.d (.int .i64 (-1))))))]) (.ret))),[(4,none)]⟩
theorem T2:aE Tryz.prog { own:=[],comp:=[],frz:=[],nils:=[] } Tryz.f99=some Jh:=by kernel_rfl
theorem Vg (G:ai) (l:List Int) (v:Int) (hl:l.length≤9000000000000000000):∃ n,VL l v n∧au Tryz.prog G 99 [.sl (l.map zD),.int .i64 v] (.w (.c (.d (.int .i64 n)))):=by
  have key:∀ n,(∀ k,n=((l.idxOf v:Nat):Int)∧v∈l∨n=-1∧v∉l→k=n→k=n)→(n=((l.idxOf v:Nat):Int)∧v∈l∨n=-1∧v∉l)→au Tryz.prog G 99 [.sl (l.map zD),.int .i64 v] (.w (.c (.d (.int .i64 n)))):=by
    intro n _ hn;refine aG Tryz.func99 T2 rfl rfl ?_;simp only[Jh,ah,af,aa,seval,iteOmega,toNatUp];refine bd (tj l v) (fun i=>l.length-i) (fun i=>i≤l.length∧v∉l.take i) 0 ⟨VY _,by rw[WU]; exact XT⟩ ?_ ?_
    ·refine aB (fun _=>0) ?_ ?_ rfl rfl <;> simp only[wx,aA,aK,aa,seval,iteOmega,toNatUp] <;> first | rfl | exact⟨rfl,rfl⟩ | skip
    ·rintro i ⟨hi,hp⟩;by_cases hlt:i<l.length
     ·have g:=nZ hlt;have hm:=v5 hlt;have hs:=oH hlt;by_cases h1:v=l.getD i 0
      ·have hv:v∈l:=h1 ▸ hm;have hi2:l.idxOf v=i:=by
         have e:l=l.take i++l.getD i 0::l.drop (i+1):=by
           have:=(Wy (i+1) l).symm;rw[hs,Wp] at this;exact this
         have:(l.take i++l.getD i 0::l.drop (i+1)).idxOf v=i:=by
           rw[List.idxOf_append,if_neg hp,← h1,List.idxOf_cons_self,VW]; omega
         rw[← e] at this;exact this
       obtain⟨rfl,_⟩:=hn.resolve_right fun h=>h.2 hv
       rw[hi2];have g1:(v=l.getD i 0)=True:=eq_true h1;generalize l.getD i 0=w at *
       simp only[rm,tj,af,aa,seval,iteOmega,toNatUp,aM,g,zD,g1];exact aJ
      ·have g1:(v=l.getD i 0)=False:=eq_false h1;have hn:v∉l.take (i+1):=by
         rw[hs];intro q;rcases V8.1 q with q | q
         ·exact hp q
         ·exact h1 (VU.1 q)
       generalize l.getD i 0=w at *
       simp only[rm,tj,af,aa,seval,iteOmega,toNatUp,aM,g,zD,g1];refine aX (i+1) (by omega) ⟨by omega,hn⟩ (aB (fun i=>i) ?_ ?_ rfl rfl) <;> simp only[wx,aA,aK,aa,seval,iteOmega,toNatUp] <;> first | rfl | exact⟨rfl,rfl⟩ | skip
     ·rw[VV (by omega)] at hp;obtain⟨rfl,_⟩:=hn.resolve_left fun h=>hp h.2
      simp only[rm,tj,af,aa,seval,iteOmega,toNatUp];exact aJ
  by_cases hv:v∈l
  ·exact⟨_,.inl ⟨hv,XG _⟩,key _ (fun _ _ h=>h) (.inl ⟨rfl,hv⟩)⟩
  ·exact⟨_,.inr ⟨hv,rfl⟩,key _ (fun _ _ h=>h) (.inr ⟨rfl,hv⟩)⟩
def xV:aF:=⟨2,9,.seq (.reg [oO 4 (.mv (.k (.c (.d (.bool false)))))]) (.seq (.reg [oM 5 0,oM 6 1,oO 7 (.call 99 [(.t 5),(.t 6)] none),oO 8 (.bin .geq (.t 7) (kI 0)),oM 4 8]) (.ret)),[(4,none)]⟩
theorem T3:aE Tryz.prog { own:=[],comp:=[],frz:=[],nils:=[] } Tryz.f56=some xV:=by kernel_rfl
theorem Kn (G:ai) (l:List Int) (v:Int) (hl:l.length≤9000000000000000000):au Tryz.prog G 56 [.sl (l.map zD),.int .i64 v] (.w (.c (.d (.bool (decide (v∈l)))))):=by
  refine aG Tryz.func56 T3 rfl rfl ?_;obtain⟨n,hn,c⟩:=Vg G l v hl;rcases hn with ⟨h1,h2⟩ | ⟨h1,rfl⟩
  ·rw[decide_eq_true h1];have g:(n≥0)=True:=eq_true h2;simp only[xV,ah,af,aa,seval,iteOmega,toNatUp];refine sC (c) ?_;simp only[g,af,aa,seval,iteOmega,toNatUp];exact aJ
  ·rw[decide_eq_false h1];simp only[xV,ah,af,aa,seval,iteOmega,toNatUp];refine sD (c) ?_;exact aJ
def tn (x y:List Int) (i:Nat):St:=⟨aV [(1,.w (.c (.d (.sl (y.map zD))))),(8,.w (.c (.d (.sl (x.map zD))))),(9,.w (.c (.d (.int .i64 (x.length:Int))))),(10,.w (.c (.d (.int .i64 (i:Int)))))],hL [],uL []⟩
def rn:aN := .seq (.reg [oO 11 (.bin .lss (.t 10) (.t 9))]) (.seq (.cond (.t 11) (.skip) (.exit 0)) (.seq (.block 1 (.seq (.reg [oO 12 (.idxSl 1 (.t 8) (.t 10)),oO 13 (.load .sc (.t 12)),oM 7 13]) (.seq (.reg [oM 14 1,oM 15 7,oO 16 (.call 56 [(.t 14),(.t 15)] none)]) (.cond (.t 16) (.seq (.reg [oM 17 7,oM 4 17,oO 5 (.mv (.k (.c (.d (.bool true)))))]) (.ret)) (.skip))))) (.reg [oO 18 (.bin .add (.t 10) (kI 1)),oM 10 18])))
def Ji:aF:=⟨2,19,.seq (.reg [oO 4 (.mv (kI 0)),oO 5 (.mv (.k (.c (.d (.bool false)))))]) (.seq (.seq (.reg [oM 8 0,oO 9 (.len (.t 8)),oO 10 (.mv (kI 0))]) (.block 0 (.loop rn))) (.seq (.reg [oO 4 (.mv (kI 0)),oO 5 (.mv (.k (.c (.d (.bool false)))))]) (.ret))),[(4,none),(5,none)]⟩
theorem T4:aE Tryz.prog { own:=[],comp:=[],frz:=[],nils:=[] } Tryz.f18=some Ji:=by kernel_rfl
theorem Ko (G:ai) (x y:List Int) (hx:x.length≤1000000) (hy:y.length≤1000000):au Tryz.prog G 18 [.sl (x.map zD),.sl (y.map zD)] (.tup [.c (.d (.int .i64 ((dO x y).getD 0))),.c (.d (.bool (dO x y).isSome))]):=by
  refine aG Tryz.func18 T4 rfl rfl ?_;simp only[Ji,ah,af,aa,seval,iteOmega,toNatUp];refine bd (tn x y) (fun i=>x.length-i) (fun i=>i≤x.length∧∀ v∈x.take i,v∉y) 0 ⟨VY _,by rw[WU]; exact fun v hv=>by cases hv⟩ ?_ ?_
  ·refine aB (fun _=>0) ?_ ?_ rfl rfl <;> simp only[wx,aA,aK,aa,seval,iteOmega,toNatUp] <;> first | rfl | exact⟨rfl,rfl⟩ | skip
  ·rintro i ⟨hi,hp⟩;by_cases hlt:i<x.length
   ·have g:=nZ hlt;have hs:=oH hlt;have hat:=Tv hlt hp;have c:=Kn G y (x.getD i 0) (by omega);generalize x.getD i 0=w at *
    by_cases h1:w∈y
    ·rw[hat h1,WQ,Xl];rw[decide_eq_true h1] at c;simp only[rn,tn,af,aa,seval,iteOmega,toNatUp,aM,g,zD];refine sD (c) ?_;exact aW
    ·rw[decide_eq_false h1] at c;have hn:∀ v∈x.take (i+1),v∉y:=by
       rw[hs];intro v q;rcases V8.1 q with q | q
       ·exact hp v q
       ·rw[VU.1 q]; exact h1
     clear hat;simp only[rn,tn,af,aa,seval,iteOmega,toNatUp,aM,g,zD];refine sD (c) ?_;refine aX (i+1) (by omega) ⟨by omega,hn⟩ (aB (fun i=>i) ?_ ?_ rfl rfl) <;> simp only[wx,aA,aK,aa,seval,iteOmega,toNatUp] <;> first | rfl | exact⟨rfl,rfl⟩ | skip
   ·rw[VV (by omega)] at hp;have:dO x y=none:=List.find?_eq_none.2 fun v hv q=>hp v hv (of_decide_eq_true q)
    rw[this,Xa,Xv];simp only[rn,tn,af,aa,seval,iteOmega,toNatUp];exact aW
def Jj:aF:=⟨3,20,.seq (.reg [oO 3 (.box .roBox (.t 0)),oO 6 (.mv (.k (.c .nil)))]) (.seq (.reg [oO 10 (.load (.ag 6) (.t 3)),oM 11 1,oM 12 2,oO 13 (.bldSl false 1 1 (.int .u8 0) [(0,(.t 12))]),oO 14 (.bldSl false 2 1 (.sl []) [(0,(.t 11)),(1,(.t 13))]),oO 15 (.call 90 [(.t 14)] none),oO 16 (.call 105 [(.t 10),(.k (.c (.d (.str ⟨#[115,101,99,116,105,109,101,32,107,101,121,115]⟩)))),(.t 15),(kI 32)] none),oM 9 16,oO 17 (.extract (.t 9) 0),oO 18 (.extract (.t 9) 1),oM 7 17,oM 8 18]) (.seq (.reg [oM 19 7,oM 6 19]) (.ret))),[(6,none)]⟩
theorem T5:aE Tryz.prog { own:=[],comp:=[],frz:=[],nils:=[] } Tryz.f63=some Jj:=by kernel_rfl
theorem Kp (G:ai) (hF:G.at 0=some (.ra (cX.map wD))) (hG:G.at 1=some (.ra (bB.map wD))) (c:Ch) (p a:Int) (z:UInt8) (h:gp c p a=0):au Tryz.prog G 63 [bp c,.sl ((aI [p,a]).map bD),bD z] (.w (.c (.d (.sl ((bu c p a z).map bD))))):=by
  refine aG Tryz.func63 T5 rfl rfl ?_;have hv:dv c:=by
    unfold gp at h;by_cases g:dv c
    ·exact g
    ·rw[if_pos g] at h; exact absurd h (by decide)
  have bl:(aI [p,a]).length=4:=eW _;have cj:=fC G [aI [p,a],[z]] (by simp) (by simp[bl]);rw[show [aI [p,a],[z]].flatten=li p a z from by unfold li; simp] at cj;simp only[VX,Wl] at cj;have hl:(li p a z).length=5:=by unfold li; rw[VR,bl]; rfl
  have c4:=U7 G hF hG c zB (li p a z) 32 (by decide) (by omega) (by decide) (by decide);have hX:tQ c zB.data.toList (li p a z) 32=bu c p a z:=by
    unfold tQ bu;rw[if_pos hv,if_pos h,kF _ _ (by decide)];rfl
  rw[hX] at c4;unfold zB at c4;unfold bp at *
  generalize li p a z=X at *
  generalize bu c p a z=K at *
  generalize aI [p,a]=B at *
  simp only[Jj,ah,af,aa,seval,iteOmega,toNatUp];refine sD (cj) ?_;refine sD (c4) ?_;exact aJ
def sF:aF:=⟨3,30,.seq (.reg [oO 3 (.box .roBox (.t 0)),oO 6 (.alloc [.nil,.nil]),oO 7 (.mv (kI 0))]) (.seq (.seq (.reg [oO 9 (.load (.ag 6) (.t 3)),oO 10 (.call 62 [(.t 9)] none),oO 11 (.un .not (.t 10))]) (.cond (.t 11) (.seq (.reg [oO 12 (.build [.nil,.nil] []),oN (.store (.ag 2) (.t 6) (.t 12)),oO 7 (.mv (kI 3))]) (.ret)) (.skip))) (.seq (.seq (.reg [oM 13 1,oM 14 2,oO 15 (.bldSl false 2 1 (.int .i64 0) [(0,(.t 13)),(1,(.t 14))]),oO 16 (.call 50 [(.t 15)] none),oO 17 (.un .not (.t 16))]) (.cond (.t 17) (.seq (.reg [oO 18 (.build [.nil,.nil] []),oN (.store (.ag 2) (.t 6) (.t 18)),oO 7 (.mv (kI 4))]) (.ret)) (.skip))) (.seq (.reg [oM 19 1,oM 20 2,oO 21 (.bldSl false 2 1 (.int .i64 0) [(0,(.t 19)),(1,(.t 20))]),oO 22 (.call 53 [(.t 21)] none),oM 8 22]) (.seq (.reg [oO 23 (.load (.ag 6) (.t 3)),
 oM 24 8,oO 25 (.call 63 [(.t 23),(.t 24),(.k (.c (.d (.int .u8 0))))] none),oO 26 (.load (.ag 6) (.t 3)),oM 27 8,oO 28 (.call 63 [(.t 26),(.t 27),(.k (.c (.d (.int .u8 1))))] none),oO 29 (.build [.nil,.nil] [(0,1,(.t 25)),(1,1,(.t 28))]),oN (.store (.ag 2) (.t 6) (.t 29)),oO 7 (.mv (kI 0))]) (.ret))))),[(6,(some (.ag 2))),(7,none)]⟩
theorem T6:aE Tryz.prog { own:=[],comp:=[],frz:=[],nils:=[] } Tryz.f26=some sF:=by kernel_rfl
theorem Kq (G:ai) (hF:G.at 0=some (.ra (cX.map wD))) (hG:G.at 1=some (.ra (bB.map wD))) (c:Ch) (p a:Int):au Tryz.prog G 26 [bp c,.int .i64 p,.int .i64 a] (.tup [.c (.d (gL (bu c p a 0) (bu c p a 1))),.c (.d (.int .i64 (gp c p a)))]):=by
  refine aG Tryz.func26 T6 rfl rfl ?_;have c1:=ti G hF hG c;have c2:=nH G [p,a] (by simp);by_cases h:dv c
  ·rw[decide_eq_true h] at c1;by_cases hs:bH [p,a]
   ·rw[decide_eq_true hs] at c2;have e:gp c p a=0:=by unfold gp; rw[if_neg (not_not_intro h),if_neg (not_not_intro hs)]
    have c3:=lV G [p,a] (by simp) hs;have c4:=Kp G hF hG c p a 0 e;have c5:=Kp G hF hG c p a 1 e;rw[e];unfold bp gL at *
    simp only[VX,Wl,zD] at c2 c3 c4 c5;generalize aI [p,a]=B at *
    generalize bu c p a 0=U at *
    generalize bu c p a 1=W at *
    simp only[sF,ah,af,aa,seval,iteOmega,toNatUp];refine sD (c1) ?_;refine sD (c2) ?_;refine sD (c3) ?_;refine sD (c4) ?_;refine sD (c5) ?_;exact aW
   ·rw[decide_eq_false hs] at c2;have e:gp c p a=4:=by unfold gp; rw[if_neg (not_not_intro h),if_pos hs]
    rw[e,show bu c p a 0=[] from if_neg (by rw[e]; decide),show bu c p a 1=[] from if_neg (by rw[e]; decide)];unfold bp gL at *
    simp only[VX,Wl,zD] at c2;simp only[sF,ah,af,aa,seval,iteOmega,toNatUp];refine sD (c1) ?_;refine sD (c2) ?_;exact aW
  ·rw[decide_eq_false h] at c1;have e:gp c p a=3:=by unfold gp; rw[if_pos h]
   rw[e,show bu c p a 0=[] from if_neg (by rw[e]; decide),show bu c p a 1=[] from if_neg (by rw[e]; decide)];unfold bp gL at *
   simp only[sF,ah,af,aa,seval,iteOmega,toNatUp];refine sD (c1) ?_;exact aW
def tu (l:List Ek) (g:Nat) (caps:List D) (i:Nat):St:=⟨aV [(0,.w (.c (.d (.sl (l.map aH))))),(1,.w (.c (.d (.fn g caps)))),(7,.w (.c (.d (.int .i64 (l.length:Int))))),(8,.w (.c (.d (.int .i64 (i:Int)))))],hL [],uL []⟩
def VM (p:Ek→Bool) (l:List Ek) (n:Int):Prop:=(l.any p=true∧0≤n)∨(l.any p=false∧n=-1)
def rq:aN := .seq (.reg [oO 9 (.bin .lss (.t 8) (.t 7))]) (.seq (.cond (.t 9) (.skip) (.exit 0)) (.seq (.block 1 (.seq (.reg [oM 10 8,oM 5 10]) (.seq (.reg [oM 11 1,oM 12 0,oM 13 5,oO 14 (.idxSl 3 (.t 12) (.t 13)),oO 15 (.load (.ag 3) (.t 14)),oO 16 (.call 1000000007 [(.t 11),(.t 15)] none)]) (.cond (.t 16) (.seq (.reg [oM 17 5,oM 4 17]) (.ret)) (.skip))))) (.reg [oO 18 (.bin .add (.t 8) (kI 1)),oM 8 18])))
def Jy:aF:=⟨2,19,.seq (.reg [oO 4 (.mv (kI 0))]) (.seq (.seq (.reg [oM 6 0,oO 7 (.len (.t 6)),oO 8 (.mv (kI 0))]) (.block 0 (.loop rq))) (.seq (.reg [oO 4 (.mv (.k (.c (.d (.int .i64 (-1))))))]) (.ret))),[(4,none)]⟩
theorem T9:aE Tryz.prog { own:=[],comp:=[],frz:=[],nils:=[] } Tryz.f131=some Jy:=by kernel_rfl
theorem Vh (G:ai) (l:List Ek) (g:Nat) (caps:List D) (p:Ek→Bool) (hl:l.length≤9223372036854775807) (hp:∀ x∈l,kT Tryz.prog G g caps [aH x] (.w (.c (.d (.bool (p x)))))):∃ n,VM p l n∧au Tryz.prog G 131 [.sl (l.map aH),.fn g caps] (.w (.c (.d (.int .i64 n)))):=by
  have key:∀ n:Int,(l.any p=true∧(∃ i:Nat,n=(i:Int)∧i<l.length∧p (l.getD i default)=true∧∀ j,j<i→p (l.getD j default)=false))∨(l.any p=false∧n=-1)→au Tryz.prog G 131 [.sl (l.map aH),.fn g caps] (.w (.c (.d (.int .i64 n)))):=by
    intro n hn;refine aG Tryz.func131 T9 rfl rfl ?_;simp only[Jy,ah,af,aa,seval,iteOmega,toNatUp];refine bd (tu l g caps) (fun i=>l.length-i) (fun i=>i≤l.length∧∀ j,j<i→p (l.getD j default)=false) 0 ⟨VY _,fun j hj=>by omega⟩ ?_ ?_
    ·refine aB (fun i=>0) ?_ ?_ rfl rfl <;> simp only[wx,aA,aK,aa,seval,iteOmega,toNatUp] <;> rfl
    ·rintro i ⟨hi,hno⟩;by_cases hlt:i<l.length
     ·have g1:=jq hlt;have hd:=hp _ (iH hlt);unfold aH at hd;cases hpi:p (l.getD i default)
      ·rw[hpi] at hd;simp only[rq,tu,af,aa,seval,iteOmega,toNatUp,aM,g1,aH];refine qL hd rfl (.inl rfl) ?_;simp only[af,aa,seval,iteOmega,toNatUp];refine aX (i+1) (by omega) ⟨by omega,fun j hj=>?_⟩ (aB (fun i=>0) ?_ ?_ rfl rfl)
       ·rcases Wv j i with h | h
        ·exact hno j h
        ·obtain rfl:j=i:=by omega
         exact hpi
       all_goals simp only[wx,aA,aK,aa,seval,iteOmega,toNatUp]
      ·rw[hpi] at hd;have hni:n=(i:Int):=by
         rcases hn with ⟨_,k,rfl,hk,h1,h2⟩ | ⟨h1,_⟩
         ·rcases Nat.lt_trichotomy k i with h | h | h
          ·rw[hno k h] at h1; cases h1
          ·rw[h]
          ·rw[h2 i h] at hpi; cases hpi
         ·have:=W9.2 ⟨_,iH hlt,hpi⟩;rw[h1] at this; cases this
       subst hni;simp only[rq,tu,af,aa,seval,iteOmega,toNatUp,aM,g1,aH];refine qL hd rfl (.inl rfl) ?_;simp only[af,aa,seval,iteOmega,toNatUp];exact aJ
     ·have hni:n=-1:=by
        rcases hn with ⟨_,k,rfl,hk,h1,h2⟩ | ⟨_,h⟩
        ·rw[hno k (by omega)] at h1; cases h1
        ·exact h
      subst hni;simp only[rq,tu,af,aa,seval,iteOmega,toNatUp];exact aJ
  cases ha:l.any p
  ·exact⟨_,.inr ⟨ha,rfl⟩,key _ (.inr ⟨ha,rfl⟩)⟩
  ·have:∃ i,i<l.length∧p (l.getD i default)=true:=by
     obtain⟨x,hx,h1⟩:=W9.1 ha;obtain⟨i,hi,rfl⟩:=WA hx;exact⟨i,hi,by rw[VS,VQ hi]; exact h1⟩
   obtain⟨i,⟨h1,h2⟩,h3⟩:=Cw this;exact⟨_,.inl ⟨ha,XG _⟩,key (i:Int) (.inl ⟨ha,i,rfl,h1,h2,fun j hj=>by
     cases hq:p (l.getD j default)
     ·rfl
     ·have:=h3 j ⟨by omega,hq⟩; omega⟩)⟩
def x8:aF:=⟨2,9,.seq (.reg [oO 4 (.mv (.k (.c (.d (.bool false)))))]) (.seq (.reg [oM 5 0,oM 6 1,oO 7 (.call 131 [(.t 5),(.t 6)] none),oO 8 (.bin .geq (.t 7) (kI 0)),oM 4 8]) (.ret)),[(4,none)]⟩
theorem Ua:aE Tryz.prog { own:=[],comp:=[],frz:=[],nils:=[] } Tryz.f109=some x8:=by kernel_rfl
theorem Vi (G:ai) (l:List Ek) (g:Nat) (caps:List D) (p:Ek→Bool) (hl:l.length≤9223372036854775807) (hp:∀ x∈l,kT Tryz.prog G g caps [aH x] (.w (.c (.d (.bool (p x)))))):au Tryz.prog G 109 [.sl (l.map aH),.fn g caps] (.w (.c (.d (.bool (l.any p))))):=by
  refine aG Tryz.func109 Ua rfl rfl ?_;obtain⟨n,hn,c⟩:=Vh G l g caps p hl hp;rcases hn with ⟨h1,h2⟩ | ⟨h1,rfl⟩
  ·rw[h1];have g1:(n≥0)=True:=eq_true h2;simp only[x8,ah,af,aa,seval,iteOmega,toNatUp];refine sC (c) ?_;simp only[g1,af,aa,seval,iteOmega,toNatUp];exact aJ
  ·rw[h1];simp only[x8,ah,af,aa,seval,iteOmega,toNatUp];refine sD (c) ?_;exact aJ
def Jz:aF:=⟨1,5,.seq (.reg [oO 1 (.box .roBox (.t 0)),oO 2 (.mv (.k (.c (.d (.bool false)))))]) (.seq (.reg [oO 3 (.fieldAddr 0 (.t 1)),oO 4 (.load .sc (.t 3)),oM 2 4]) (.ret)),[(2,none)]⟩
theorem Ub:aE Tryz.prog { own:=[],comp:=[],frz:=[],nils:=[] } Tryz.f110=some Jz:=by kernel_rfl
theorem Vj (G:ai) (r:Ek):kT Tryz.prog G 110 [] [aH r] (.w (.c (.d (.bool r.cr)))):=by
  refine⟨enters_of Tryz.func110 (by kernel_rfl) rfl,?_⟩;refine aG Tryz.func110 Ub rfl rfl ?_;obtain⟨cr,ty,bo⟩:=r;unfold aH;simp only[Jz,ah,af,aa,seval,iteOmega,toNatUp];exact aJ
def x9:aF:=⟨2,10,.seq (.reg [oO 4 (.mv (.k (.c (.d (.bool false)))))]) (.seq (.reg [oM 5 0,oM 6 1,oO 7 (.mpGet .i64 (.sl []) false (.t 5) (.t 6)),oO 8 (.len (.t 7)),oO 9 (.bin .gtr (.t 8) (kI 0)),oM 4 9]) (.ret)),[(4,none)]⟩
theorem Uc:aE Tryz.prog { own:=[],comp:=[],frz:=[],nils:=[] } Tryz.f80=some x9:=by kernel_rfl
theorem kP (G:ai) (l:List Ek) (k:Int):au Tryz.prog G 80 [cg l,.int .i64 k] (.w (.c (.d (.bool (decide (0<(am l k).length)))))):=by
  refine aG Tryz.func80 Uc rfl rfl ?_;have hk:=xY l k;unfold cg;generalize cG l=E at *
  generalize am l k=x at *
  by_cases h:0<x.length
  ·rw[decide_eq_true h];have g1:((x.length:Int)>0)=True:=eq_true (by omega);simp only[x9,ah,af,aa,seval,iteOmega,toNatUp,cS,hk,g1];exact aJ
  ·rw[decide_eq_false h];have g1:((x.length:Int)>0)=False:=eq_false (by omega);simp only[x9,ah,af,aa,seval,iteOmega,toNatUp,cS,hk,g1];exact aJ
def di (l:List Ek) (k:Int):List UInt8:=((am l k).getD 0 default).bo
def bg (l:List Ek) (k:Int):List Int:=eG (di l k)
def ya:aF:=⟨2,15,.seq (.reg [oO 4 (.mv (.k (.c .nil)))]) (.seq (.seq (.reg [oM 5 0,oM 6 1,oO 7 (.call 80 [(.t 5),(.t 6)] none),oO 8 (.un .not (.t 7))]) (.cond (.t 8) (.seq (.reg [oO 4 (.mv (.k (.c .nil)))]) (.ret)) (.skip))) (.seq (.reg [oM 9 0,oM 10 1,oO 11 (.mpGet .i64 (.sl []) false (.t 9) (.t 10)),oO 12 (.idxSl 3 (.t 11) (kI 0)),oO 13 (.fieldAddr 2 (.t 12)),oO 14 (.load .sc (.t 13)),oM 4 14]) (.ret))),[(4,none)]⟩
theorem Ud:aE Tryz.prog { own:=[],comp:=[],frz:=[],nils:=[] } Tryz.f116=some ya:=by kernel_rfl
theorem yP (G:ai) (l:List Ek) (k:Int):au Tryz.prog G 116 [cg l,.int .i64 k] (.w (.c (.d (.sl ((di l k).map bD))))):=by
  refine aG Tryz.func116 Ud rfl rfl ?_;have c:=kP G l k;have hk:=xY l k;unfold cg di at *
  generalize cG l=E at *
  generalize am l k=x at *
  by_cases h:0<x.length
  ·rw[decide_eq_true h] at c;have g:=jq h;generalize x.getD 0 default=r at *
   simp only[ya,ah,af,aa,seval,iteOmega,toNatUp,cS,hk,aM];refine sC (c) ?_;simp only[cS,hk,aM,g,aH,af,aa,seval,iteOmega,toNatUp];exact aJ
  ·rw[decide_eq_false h] at c;obtain rfl:x=[]:=Wr.1 (by omega);rw[show (([]:List Ek).getD 0 default).bo=[] from rfl];simp only[ya,ah,af,aa,seval,iteOmega,toNatUp];refine sD (c) ?_;exact aJ
theorem mV {l:List Ek} {n:Nat} (h:∀ r∈l,r.bo.length≤n) (k:Int):(di l k).length≤n:=by
  unfold di;rcases Wv 0 (am l k).length with h1 | h1
  ·exact h _ (Xk.1 (iH h1)).1
  ·obtain h2:am l k=[]:=Wr.1 (by omega);rw[h2]; exact VY _
def JA:aF:=⟨2,15,.seq (.reg [oO 4 (.mv (.k (.c .nil)))]) (.seq (.reg [oM 8 0,oM 9 1,oO 10 (.call 116 [(.t 8),(.t 9)] none),oO 11 (.call 14 [(.t 10)] none),oM 7 11,oO 12 (.extract (.t 7) 0),oO 13 (.extract (.t 7) 1),oM 5 12,oM 6 13]) (.seq (.reg [oM 14 5,oM 4 14]) (.ret))),[(4,none)]⟩
theorem Ue:aE Tryz.prog { own:=[],comp:=[],frz:=[],nils:=[] } Tryz.f111=some JA:=by kernel_rfl
theorem nJ (G:ai) (l:List Ek) (k:Int) (h:∀ r∈l,r.bo.length≤1000000000):au Tryz.prog G 111 [cg l,.int .i64 k] (.w (.c (.d (.sl ((bg l k).map zD))))):=by
  refine aG Tryz.func111 Ue rfl rfl ?_;have c1:=yP G l k;have c2:=Kj G (di l k) (mV h k);unfold bg cg at *
  generalize cG l=E at *
  generalize di l k=B at *
  generalize eG B=N at *
  simp only[JA,ah,af,aa,seval,iteOmega,toNatUp];refine sD (c1) ?_;refine sD (c2) ?_;exact aJ
def mn (l:List Ek):Bool:=decide (0<(am l 1).length)&&(decide (0<(am l 4).length)&&(!decide (0<(am l 2).length)&&(!decide (0<(am l 3).length)&&!decide (0<(am l 5).length))))
def nq:aF:=⟨1,24,.seq (.reg [oO 2 (.mv (.k (.c (.d (.bool false)))))]) (.seq (.reg [oM 3 0,oO 4 (.call 80 [(.t 3),(kI 1)] none),oM 5 4,oG 6 (.mv (.t 0)) 5 true,oG 7 (.call 80 [(.t 6),(kI 4)] none) 5 true,oO 8 (.pick (.t 5) (.t 7) (.k (.c (.d (.bool false))))),oM 9 8,oG 10 (.mv (.t 0)) 9 true,oG 11 (.call 80 [(.t 10),(kI 2)] none) 9 true,oG 12 (.un .not (.t 11)) 9 true,oO 13 (.pick (.t 9) (.t 12) (.k (.c (.d (.bool false))))),oM 14 13,oG 15 (.mv (.t 0)) 14 true,oG 16 (.call 80 [(.t 15),(kI 3)] none) 14 true,oG 17 (.un .not (.t 16)) 14 true,oO 18 (.pick (.t 14) (.t 17) (.k (.c (.d (.bool false))))),oM 19 18,oG 20 (.mv (.t 0)) 19 true,oG 21 (.call 80 [(.t 20),(kI 5)] none) 19 true,oG 22 (.un .not (.t 21)) 19 true,oO 23 (.pick (.t 19) (.t 22) (.k (.c (.d (.bool false))))),oM 2 23]) (.ret)),
 [(2,none)]⟩
theorem Uf:aE Tryz.prog { own:=[],comp:=[],frz:=[],nils:=[] } Tryz.f67=some nq:=by kernel_rfl
theorem Vk (G:ai) (l:List Ek):au Tryz.prog G 67 [cg l] (.w (.c (.d (.bool (mn l))))):=by
  refine aG Tryz.func67 Uf rfl rfl ?_;have c1:=kP G l 1;have c4:=kP G l 4;have c2:=kP G l 2;have c3:=kP G l 3;have c5:=kP G l 5;unfold mn;unfold cg at *
  generalize cG l=E at *
  generalize decide (0<(am l 1).length)=b1 at *
  generalize decide (0<(am l 4).length)=b4 at *
  generalize decide (0<(am l 2).length)=b2 at *
  generalize decide (0<(am l 3).length)=b3 at *
  generalize decide (0<(am l 5).length)=b5 at *
  cases b1
  ·simp only[nq,ah,af,aa,seval,iteOmega,toNatUp];refine sD (c1) ?_;exact aJ
  cases b4
  ·simp only[nq,ah,af,aa,seval,iteOmega,toNatUp];refine sD (c1) ?_;refine sD (c4) ?_;exact aJ
  cases b2
  case true =>
    simp only[nq,ah,af,aa,seval,iteOmega,toNatUp];refine sD (c1) ?_;refine sD (c4) ?_;refine sD (c2) ?_;exact aJ
  cases b3
  case true =>
    simp only[nq,ah,af,aa,seval,iteOmega,toNatUp];refine sD (c1) ?_;refine sD (c4) ?_;refine sD (c2) ?_;refine sD (c3) ?_;exact aJ
  cases b5 <;> (
    simp only[nq,ah,af,aa,seval,iteOmega,toNatUp];refine sD (c1) ?_;refine sD (c4) ?_;refine sD (c2) ?_;refine sD (c3) ?_;refine sD (c5) ?_;exact aJ
    skip)
def mo (k:Int) (x:List Ek):Bool :=
  if k=0 then decide (x.length=1∧(x.getD 0 default).bo.length=0)
  else if k=1∨k=4 then decide (x.length=1∧(x.getD 0 default).bo.length%2=0)
  else if k=6 then decide (x.length=1)
  else if k=7 then decide (x.length=1∧(x.getD 0 default).bo.length=2)
  else true
def fN:aF:=⟨2,52,.seq (.reg [oO 4 (.mv (.k (.c (.d (.bool false)))))]) (.seq (.reg [oM 8 1,oO 9 (.idxSl 3 (.t 8) (kI 0)),oO 10 (.fieldAddr 2 (.t 9)),oO 11 (.load .sc (.t 10)),oM 5 11]) (.seq (.seq (.reg [oM 12 0]) (.block 0 (.seq (.reg [oO 14 (.bin .eql (.t 12) (kI 0)),oM 13 14]) (.cond (.t 13) (.seq (.reg [oM 15 1,oO 16 (.len (.t 15)),oO 17 (.bin .eql (.t 16) (kI 1)),oM 18 17,oG 19 (.mv (.t 5)) 18 true,oG 20 (.len (.t 19)) 18 true,oG 21 (.bin .eql (.t 20) (kI 0)) 18 true,oO 22 (.pick (.t 18) (.t 21) (.k (.c (.d (.bool false))))),oM 4 22]) (.ret)) (.seq (.seq (.reg [oO 24 (.bin .eql (.t 12) (kI 1)),oM 23 24]) (.cond (.t 23) (.skip) (.reg [oO 25 (.bin .eql (.t 12) (kI 4)),oM 23 25]))) (.cond (.t 23) (.seq (.reg [oM 27 5,oO 28 (.call 14 [(.t 27)] none),oM 26 28,oO 29 (.extract (.t 26) 0),
 oO 30 (.extract (.t 26) 1),oM 6 29,oM 7 30]) (.seq (.reg [oM 31 1,oO 32 (.len (.t 31)),oO 33 (.bin .eql (.t 32) (kI 1)),oM 34 33,oG 35 (.mv (.t 7)) 34 true,oO 36 (.pick (.t 34) (.t 35) (.k (.c (.d (.bool false))))),oM 4 36]) (.ret))) (.seq (.reg [oO 38 (.bin .eql (.t 12) (kI 6)),oM 37 38]) (.cond (.t 37) (.seq (.reg [oM 39 1,oO 40 (.len (.t 39)),oO 41 (.bin .eql (.t 40) (kI 1)),oM 4 41]) (.ret)) (.seq (.reg [oO 43 (.bin .eql (.t 12) (kI 7)),oM 42 43]) (.cond (.t 42) (.seq (.reg [oM 44 1,oO 45 (.len (.t 44)),oO 46 (.bin .eql (.t 45) (kI 1)),oM 47 46,oG 48 (.mv (.t 5)) 47 true,oG 49 (.len (.t 48)) 47 true,oG 50 (.bin .eql (.t 49) (kI 2)) 47 true,oO 51 (.pick (.t 47) (.t 50) (.k (.c (.d (.bool false))))),oM 4 51]) (.ret)) (.skip))))))))))) (.seq (.reg [oO 4 (.mv (.k (.c (.d (.bool true)))))])
 (.ret)))),[(4,none)]⟩
theorem Ug:aE Tryz.prog { own:=[],comp:=[],frz:=[],nils:=[] } Tryz.f108=some fN:=by kernel_rfl
theorem Vl (G:ai) (k:Int) (x:List Ek) (hx:0<x.length) (hl:x.length≤1000000) (hb:(x.getD 0 default).bo.length≤1000000000):au Tryz.prog G 108 [.int .i64 k,.sl (x.map aH)] (.w (.c (.d (.bool (mo k x))))):=by
  refine aG Tryz.func108 Ug rfl rfl ?_;have g:=jq hx;have c:=Kj G (x.getD 0 default).bo hb;unfold mo;generalize x.getD 0 default=r at *
  obtain⟨cr,ty,bo⟩:=r;dsimp only at *
  generalize eG bo=nn at *
  by_cases k0:k=0
  ·rw[if_pos k0];subst k0;by_cases h1:x.length=1
   ·have g1:((x.length:Int)=1)=True:=eq_true (by omega);by_cases h2:bo.length=0
    ·rw[decide_eq_true ⟨h1,h2⟩];have g2:((bo.length:Int)=0)=True:=eq_true (by omega);simp only[fN,ah,af,aa,seval,iteOmega,toNatUp,aM,g,aH,g1,g2];exact aJ
    ·rw[decide_eq_false (fun h=>h2 h.2)];have g2:((bo.length:Int)=0)=False:=eq_false (by omega);simp only[fN,ah,af,aa,seval,iteOmega,toNatUp,aM,g,aH,g1,g2];exact aJ
   ·have g1:((x.length:Int)=1)=False:=eq_false (by omega);rw[decide_eq_false (fun h=>h1 h.1)];simp only[fN,ah,af,aa,seval,iteOmega,toNatUp,aM,g,aH,g1];exact aJ
  ·rw[if_neg k0];have g0:=eq_false k0;by_cases k1:k=1
   ·rw[if_pos (.inl k1)];subst k1;by_cases h1:x.length=1
    ·have g1:((x.length:Int)=1)=True:=eq_true (by omega);by_cases h2:bo.length%2=0
     ·rw[decide_eq_true ⟨h1,h2⟩];rw[decide_eq_true h2] at c;simp only[fN,ah,af,aa,seval,iteOmega,toNatUp,aM,g,aH];refine sC (c) ?_;simp only[g1,af,aa,seval,iteOmega,toNatUp];exact aJ
     ·rw[decide_eq_false (fun h=>h2 h.2)];rw[decide_eq_false h2] at c;simp only[fN,ah,af,aa,seval,iteOmega,toNatUp,aM,g,aH];refine sC (c) ?_;simp only[g1,af,aa,seval,iteOmega,toNatUp];exact aJ
    ·have g1:((x.length:Int)=1)=False:=eq_false (by omega);rw[decide_eq_false (fun h=>h1 h.1)];generalize decide (bo.length%2=0)=d at *
     simp only[fN,ah,af,aa,seval,iteOmega,toNatUp,aM,g,aH];refine sC (c) ?_;simp only[g1,af,aa,seval,iteOmega,toNatUp];exact aJ
   ·have g1':=eq_false k1;by_cases k4:k=4
    ·rw[if_pos (.inr k4)];subst k4;by_cases h1:x.length=1
     ·have g1:((x.length:Int)=1)=True:=eq_true (by omega);by_cases h2:bo.length%2=0
      ·rw[decide_eq_true ⟨h1,h2⟩];rw[decide_eq_true h2] at c;simp only[fN,ah,af,aa,seval,iteOmega,toNatUp,aM,g,aH];refine sC (c) ?_;simp only[g1,af,aa,seval,iteOmega,toNatUp];exact aJ
      ·rw[decide_eq_false (fun h=>h2 h.2)];rw[decide_eq_false h2] at c;simp only[fN,ah,af,aa,seval,iteOmega,toNatUp,aM,g,aH];refine sC (c) ?_;simp only[g1,af,aa,seval,iteOmega,toNatUp];exact aJ
     ·have g1:((x.length:Int)=1)=False:=eq_false (by omega);rw[decide_eq_false (fun h=>h1 h.1)];generalize decide (bo.length%2=0)=d at *
      simp only[fN,ah,af,aa,seval,iteOmega,toNatUp,aM,g,aH];refine sC (c) ?_;simp only[g1,af,aa,seval,iteOmega,toNatUp];exact aJ
    ·have g4':=eq_false k4;rw[if_neg (fun h=>h.elim k1 k4)];by_cases k6:k=6
     ·rw[if_pos k6];subst k6;by_cases h1:x.length=1
      ·have g1:((x.length:Int)=1)=True:=eq_true (by omega);rw[decide_eq_true h1];simp only[fN,ah,af,aa,seval,iteOmega,toNatUp,aM,g,aH,g1];exact aJ
      ·have g1:((x.length:Int)=1)=False:=eq_false (by omega);rw[decide_eq_false h1];simp only[fN,ah,af,aa,seval,iteOmega,toNatUp,aM,g,aH,g1];exact aJ
     ·have g6':=eq_false k6;rw[if_neg k6];by_cases k7:k=7
      ·rw[if_pos k7];subst k7;by_cases h1:x.length=1
       ·have g1:((x.length:Int)=1)=True:=eq_true (by omega);by_cases h2:bo.length=2
        ·rw[decide_eq_true ⟨h1,h2⟩];have g2:((bo.length:Int)=2)=True:=eq_true (by omega);simp only[fN,ah,af,aa,seval,iteOmega,toNatUp,aM,g,aH,g1,g2];exact aJ
        ·rw[decide_eq_false (fun h=>h2 h.2)];have g2:((bo.length:Int)=2)=False:=eq_false (by omega);simp only[fN,ah,af,aa,seval,iteOmega,toNatUp,aM,g,aH,g1,g2];exact aJ
       ·have g1:((x.length:Int)=1)=False:=eq_false (by omega);rw[decide_eq_false (fun h=>h1 h.1)];simp only[fN,ah,af,aa,seval,iteOmega,toNatUp,aM,g,aH,g1];exact aJ
      ·have g7':=eq_false k7;rw[if_neg k7];simp only[fN,ah,af,aa,seval,iteOmega,toNatUp,aM,g,aH,g0,g1',g4',g6',g7'];exact aJ
structure Wk where
  left:List (Int×D)
  last:Option (Int×D)
theorem zP {α:Type}:∀ (l:List α) (j:Nat) (p:α),l[j]?=some p→∀ x∈l,x∈l.eraseIdx j∨x=p
  | [],_,_,h,_,_=>by simp at h
  | a::l,0,p,h,x,hx=>by
    simp only[Xe,VT] at h;subst h;rcases V6.1 hx with rfl | hx
    ·exact .inr rfl
    ·exact .inl hx
  | a::l,j+1,p,h,x,hx=>by
    rw[WC] at h;rw[List.eraseIdx_cons_succ];rcases V6.1 hx with rfl | hx
    ·exact .inl Wt
    ·rcases zP l j p h x hx with h | h
     ·exact .inl (Wg _ h)
     ·exact .inr h
theorem EG {α:Type} {l:List α} {j:Nat} {p:α} (h:l[j]?=some p):(l.eraseIdx j).length<l.length:=by
  obtain⟨h1,_⟩:=V9.1 h;rw[List.length_eraseIdx,if_pos h1]; omega
def i3 (l:List Ek) (P:Int→Prop) (t:Wk):Prop:=(∀ p∈t.left,p∈cG l)∧∀ p∈cG l,p∈t.left∨P p.1
theorem i3.start (l:List Ek) (P:Int→Prop):i3 l P ⟨cG l,none⟩:=⟨fun _ h=>h,fun _ h=>.inl h⟩
theorem i3.next {l:List Ek} {P:Int→Prop} {t:Wk} (h:i3 l P t) {j:Nat} {p:Int×D} (hj:t.left[j]?=some p) (hP:P p.1):i3 l P ⟨t.left.eraseIdx j,some p⟩ :=
  ⟨fun x hx=>h.1 x (List.mem_of_mem_eraseIdx hx),fun x hx=>(h.2 x hx).elim (fun h1=>(zP _ _ _ hj x h1).imp id (fun e:x=p=>by rw[e]; exact hP)) .inr⟩
theorem i3.done {l:List Ek} {P:Int→Prop} {t:Wk} (h:i3 l P t) (he:t.left=[]) {k:Int} (hk:am l k≠[]):P k:=by
  rcases h.2 _ (Rv hk) with h1 | h1
  ·rw[he] at h1; cases h1
  ·exact h1
theorem Ry {l:List Ek} {k:Int} (h:7<k) (ha:(am l k).any (fun r=>r.cr)=true):fq l=true:=by
  obtain⟨r,h1,h2⟩:=W9.1 ha;obtain⟨h3,h4⟩:=Xk.1 h1;have h4:r.ty=k:=of_decide_eq_true h4;exact W9.2 ⟨r,h3,by rw[h2,Bool.true_and,h4]; exact decide_eq_true h⟩
theorem Uh {l:List Ek} (h:∀ k,am l k≠[]→¬ (7<k∧(am l k).any (fun r=>r.cr)=true)):fq l=false:=by
  refine WS.2 fun r hr hq=>?_
  rw[Wh,decide_eq_true_eq] at hq;have hm:r∈am l r.ty:=Xk.2 ⟨hr,decide_eq_true rfl⟩;exact h r.ty (fun e=>by rw[e] at hm; cases hm) ⟨hq.2,W9.2 ⟨r,hm,hq.1⟩⟩
def Kr (t:Wk):St:=⟨aV [(6,.w (.c (.ptr 1 1 0 0)))],hL [(1,.it .i64 t.left t.last)],uL [1]⟩
def EH:aN := .seq (.nextM 7 (.t 6) [oO 8 (.extract (.t 7) 0)]) (.seq (.cond (.t 8) (.skip) (.exit 0)) (.block 1 (.seq (.reg [oO 9 (.mpEnt (.t 6)),oO 10 (.extract (.t 9) 0),oO 11 (.extract (.t 9) 1),oM 3 10,oM 4 11]) (.seq (.reg [oM 12 3,oO 13 (.bin .gtr (.t 12) (kI 7)),oM 14 13,oG 15 (.mv (.t 4)) 14 true,oG 16 (.call 109 [(.t 15),(.k (.c (.d (.fn 110 []))))] none) 14 true,oO 17 (.pick (.t 14) (.t 16) (.k (.c (.d (.bool false)))))]) (.cond (.t 17) (.seq (.reg [oO 2 (.mv (.k (.c (.d (.bool true)))))]) (.ret)) (.skip))))))
def JB:aF:=⟨1,18,.seq (.reg [oO 2 (.mv (.k (.c (.d (.bool false)))))]) (.seq (.seq (.reg [oM 5 0,oO 6 (.mpIter (.t 5))]) (.block 0 (.loop EH))) (.seq (.reg [oO 2 (.mv (.k (.c (.d (.bool false)))))]) (.ret))),[(2,none)]⟩
theorem Ui:aE Tryz.prog { own:=[],comp:=[],frz:=[],nils:=[] } Tryz.f69=some JB:=by kernel_rfl
theorem Ks (G:ai) (l:List Ek) (hl:l.length≤1000000):au Tryz.prog G 69 [cg l] (.w (.c (.d (.bool (fq l))))):=by
  refine aG Tryz.func69 Ui rfl rfl ?_;unfold cg;have hst:=i3.start l fun k=>¬ (7<k∧(am l k).any (fun r=>r.cr)=true)
  simp only[JB,ah,af,aa,seval,iteOmega,toNatUp,cS];refine bd Kr (fun t=>t.left.length) (i3 l fun k=>¬ (7<k∧(am l k).any (fun r=>r.cr)=true)) ⟨cG l,none⟩ hst ?_ ?_
  ·refine aB (fun _=>48) ?_ ?_ rfl rfl <;> simp only[wx,aA,aK,aa,seval,iteOmega,toNatUp] <;> first | rfl | exact⟨rfl,rfl⟩ | skip
  ·rintro⟨left,last⟩ hI;simp only[EH,Kr,af,aa,seval,iteOmega,toNatUp];refine Jt (id:=1) (s:=1) (q:=.i64) (left:=left) (last:=last) rfl rfl ?_ ?_
   ·intro he;rw[Uh fun k hk=>hI.done he hk];simp only[af,aa,seval,iteOmega,toNatUp];exact aJ
   ·intro j p hj;obtain⟨e1,e2⟩:=G3 (hI.1 p (W6 hj));have hnx:=fun h=>hI.next hj h
    have hlt:=EG hj;generalize left.eraseIdx j=left' at *
    clear hj hI;obtain⟨k,d⟩:=p;dsimp only at *
    obtain rfl:d=D.sl ((am l k).map aH):=congrArg Prod.snd e1;clear e1;have c:=Vi G (am l k) 110 [] (fun r=>r.cr) (by have:=List.length_filter_le (fun r:Ek=>decide (r.ty=k)) l; unfold am; omega) fun x _=>Vj G x
    by_cases hk:k>7
    ·have g1:=eq_true hk;cases hc:(am l k).any fun r=>r.cr
     ·rw[hc] at c;have hn:=hnx (fun h=>by rw[hc] at h; cases h.2);simp only[af,aa,seval,iteOmega,toNatUp,cS,g1];refine sD (c) ?_;refine aX (⟨left',some (k,D.sl ((am l k).map aH))⟩:Wk) hlt hn (aB (fun _=>1) ?_ ?_ rfl rfl) <;> simp only[wx,aA,aK,aa,seval,iteOmega,toNatUp] <;> first | rfl | exact⟨rfl,rfl⟩ | skip
     ·rw[Ry hk hc];rw[hc] at c;simp only[af,aa,seval,iteOmega,toNatUp,cS,g1];refine sD (c) ?_;exact aJ
    ·have g1:=eq_false hk;have hn:=hnx (fun h=>hk h.1);simp only[af,aa,seval,iteOmega,toNatUp,cS,g1];refine aX (⟨left',some (k,D.sl ((am l k).map aH))⟩:Wk) hlt hn (aB (fun _=>1) ?_ ?_ rfl rfl) <;> simp only[wx,aA,aK,aa,seval,iteOmega,toNatUp] <;> first | rfl | exact⟨rfl,rfl⟩ | skip
theorem G5 {l:List Ek} {k:Int} (h:(am l k).length=1) {r:Ek} (hr:r∈l) (hk:r.ty=k):(am l k).getD 0 default=r:=by
  have hm:r∈am l k:=Xk.2 ⟨hr,decide_eq_true hk⟩
  match hx:am l k,h with
  | [x],_ =>
    rw[hx] at hm;rw[VU.1 hm]; rfl
theorem yb {l:List Ek} {r:Ek} (hr:r∈l):am l r.ty≠[]:=fun e=>by
  have hm:r∈am l r.ty:=Xk.2 ⟨hr,decide_eq_true rfl⟩;rw[e] at hm; cases hm
theorem G6 {l:List Ek} {k:Int} (h:am l k≠[]):0<(am l k).length:=Nat.pos_of_ne_zero fun e=>h (Wr.1 e)
theorem Uj (l:List Ek):iA l↔(0<l.length∧(l.getD (l.length-1) default).ty=0∧∀ k,am l k≠[]→mo k (am l k)=true):=by
  constructor
  ·rintro⟨⟨h1,h2,h3,h4,h5,h6,h7⟩,hb⟩;obtain⟨i1,i2⟩:=Tt (l:=l) (k:=0) (j:=0) (by omega);have hg:=kG (l:=l) (k:=0) (j:=0) (by omega);rw[h2] at i1 i2;refine⟨by omega,i2,fun k hk=>?_⟩;have hp:=G6 hk;have hm:=Xk.1 (iH hp);have hty:((am l k).getD 0 default).ty=k:=of_decide_eq_true hm.2;have hb1:om ((am l k).getD 0 default):=hb _ hm.1;unfold mo;split
   ·rename_i e;subst e;rw[← bJ,← hg];exact decide_eq_true ⟨h1,h3⟩
   ·split
    ·rename_i e;refine decide_eq_true ⟨?_,hb1.1 (by rw[hty]; exact e)⟩;rw[bJ] at h4 h5;rcases e with rfl | rfl <;> omega
    ·split
     ·rename_i e;subst e;rw[bJ] at h6;exact decide_eq_true (by omega)
     ·split
      ·rename_i e;subst e;rw[bJ] at h7;exact decide_eq_true ⟨by omega,hb1.2 hty⟩
      ·rfl
  ·rintro⟨hl,h0,hf⟩;have hlast:l.getD (l.length-1) default∈l:=iH (by omega);have f0:=hf 0 (h0 ▸ yb hlast);have f0:(am l 0).length=1∧((am l 0).getD 0 default).bo.length=0:=of_decide_eq_true f0;have few:∀ k,(k=1∨k=4∨k=6∨k=7)→(bI l k).length≤1:=by
     intro k hk;rw[bJ];by_cases he:am l k=[]
     ·rw[he]; exact VY _
     ·have:=hf k he;rcases hk with rfl | rfl | rfl | rfl
      ·exact Nat.le_of_eq (of_decide_eq_true this:_∧_).1
      ·exact Nat.le_of_eq (of_decide_eq_true this:_∧_).1
      ·exact Nat.le_of_eq (of_decide_eq_true this:_=1)
      ·exact Nat.le_of_eq (of_decide_eq_true this:_∧_).1
   have n0:(bI l 0).length=1:=by rw[bJ]; exact f0.1
   have hidx:(bI l 0).getD 0 0=l.length-1:=by
     have hm:l.length-1∈bI l 0:=Xk.2 ⟨Xu.2 (by omega),decide_eq_true h0⟩
     match hx:bI l 0,n0 with
     | [x],_ =>
       rw[hx] at hm;rw[VU.1 hm]; rfl
   refine⟨⟨n0,hidx,?_,few 1 (by simp),few 4 (by simp),few 6 (by simp),few 7 (by simp)⟩,fun r hr=>⟨fun hk=>?_,fun hk=>?_⟩⟩
   ·rw[kG (by omega)]; exact f0.2
   ·have h1:=hf r.ty (yb hr);have h2:(am l r.ty).length=1∧((am l r.ty).getD 0 default).bo.length%2=0:=by
      rcases hk with hk | hk <;> (rw[hk] at h1 ⊢; exact of_decide_eq_true h1)
    rw[G5 h2.1 hr rfl] at h2;exact h2.2
   ·have h1:=hf r.ty (yb hr);have h2:(am l r.ty).length=1∧((am l r.ty).getD 0 default).bo.length=2:=by
      rw[hk] at h1 ⊢; exact of_decide_eq_true h1
    rw[G5 h2.1 hr rfl] at h2;exact h2.2
theorem Ps {es:List (Int×List Ek)} {g:Nat→Nat} (h:∀ j,j<es.length→g (8*j+3)=8*j+3):(cy es 0).map (fun p=>(p.1,p.2.ren g))=cy es 0:=by
  refine WZ fun j=>?_
  rw[WM,po];cases hj:es[j]? with
  | none=>rfl
  | some p =>
    have:=h j (V9.1 hj).1;simp only[WV,C.ren,WJ,this]
theorem Pt (es:List (Int×List Ek)) (p:Int×List Ek):cy (es++[p]) 0=cy es 0++[(p.1,.own (8*es.length+3) 3 0 p.2.length)]:=by
  have key:∀ (es:List (Int×List Ek)) (b:Nat),cy (es++[p]) b=cy es b++[(p.1,.own (8*(b+es.length)+3) 3 0 p.2.length)]:=by
    intro es
    induction es with
    | nil=>intro b; rfl
    | cons q r ih=>intro b; rw[WW,cy,ih,cy,WO,show b+1+r.length=b+(r.length+1) by omega,WW]
  rw[key,WJ]
theorem Rz {es:List (Int×List Ek)} {j k:Nat} (hj:j<es.length) (p:Int×List Ek) {g:Nat→Nat} (h:∀ i,i≠j→g (8*i+3)=8*i+3) (hk:g (8*j+3)=k):(cy (es.set j p) 0).map (fun q=>(q.1,q.2.ren g))=(cy es 0).set j (p.1,.own k 3 0 p.2.length):=by
  refine WZ fun i=>?_
  rw[WM,po,XO,XO,G4];by_cases e:j=i
  ·subst e;rw[if_pos rfl,if_pos rfl,if_pos hj,if_pos hj];simp only[WV,C.ren,WJ,hk]
  ·rw[if_neg e,if_neg e,po];cases hi:es[i]? with
   | none=>rfl
   | some q=>simp only[WV,C.ren,WJ,h i (fun q=>e q.symm)]
def i5 (n:Nat):Nat→Nat:=fun i=>if i=8*n+3 then 392 else i
theorem pD (n:Nat):i5 n 1=1:=if_neg (by omega)
theorem lN (n:Nat):i5 n (8*n+3)=392:=if_pos rfl
theorem jN {n j:Nat} (h:j≠n):i5 n (8*j+3)=8*j+3:=if_neg (by omega)
theorem G7 (n j:Nat):i5 n 1≠i5 n (8*j+3):=by
  rw[pD];by_cases h:j=n
  ·rw[h,lN]; decide
  ·rw[jN h]; omega
theorem EI {n i j:Nat} (h:i5 n (8*i+3)=i5 n (8*j+3)):i=j:=by
  by_cases h1:i=n <;> by_cases h2:j=n
  ·omega
  ·rw[h1,lN,jN h2] at h; omega
  ·rw[h2,lN,jN h1] at h; omega
  ·rw[jN h1,jN h2] at h; omega
theorem RA {σ:St} {fl:List (Nat×V)} {es:List (Int×List Ek)} {k:Int} {x:Ek} (h1:kj σ.f (i5 es.length) fl) (hm:σ.h 1=some (.mp .i64 (cy es 0++[(k,.own 392 3 0 1)]))) (hw:σ.h 392=some (.row 3 [aH x]))
    (hr:∀ j,σ.h (8*j+3)=fb es (8*j+3)) (hf:(fl.flatMap fun p=>p.2.ids).all (fun i=>fS i)=true):dK σ ⟨aV fl,fb (es++[(k,[x])]),fS⟩:=by
  refine w8 (i5 es.length) h1 ?_ (fun j p hp=>?_) (G7 _) (fun i j _ _=>EI) hf
  ·rw[pD,hm,Pt,Wu,Ps fun j hj=>jN (by omega)];simp only[VX,Wl,C.ren,lN,XH]
  ·by_cases h:j=es.length
   ·subst h;rw[Ws (V0 _),XU] at hp;cases hp;rw[lN,hw]; rfl
   ·rw[jN h,hr,sG];rcases Wv j es.length with h2 | h2
    ·rw[WE h2] at hp;rw[hp]; rfl
    ·rw[Ws h2,WF (by simp; omega)] at hp;cases hp
theorem RB {σ:St} {fl:List (Nat×V)} {es:List (Int×List Ek)} {j0:Nat} {k:Int} {y:List Ek} {x:Ek} (hj:es[j0]?=some (k,y)) (h1:kj σ.f (i5 j0) fl) (hm:σ.h 1=some (.mp .i64 ((cy es 0).set j0 (k,.own 392 3 0 (y.length+1))))) (hw:σ.h 392=some (.row 3 (y.map aH++[aH x])))
    (hr:∀ j,j≠j0→σ.h (8*j+3)=fb es (8*j+3)) (hf:(fl.flatMap fun p=>p.2.ids).all (fun i=>fS i)=true):dK σ ⟨aV fl,fb (es.set j0 (k,y++[x])),fS⟩:=by
  have hlt:=(V9.1 hj).1;refine w8 (i5 j0) h1 ?_ (fun j p hp=>?_) (G7 _) (fun i j _ _=>EI) hf
  ·rw[pD,hm,Rz hlt (k,y++[x]) (k:=392) (fun i hi=>jN hi) (lN _),VR]; rfl
  ·rw[XO] at hp;by_cases h:j0=j
   ·subst h;rw[if_pos rfl,if_pos hlt] at hp;cases hp;rw[lN,hw,Wu]; rfl
   ·rw[if_neg h] at hp;rw[jN fun e=>h e.symm,hr _ fun e=>h e.symm,sG,hp]; rfl
def tv (l:List Ek) (i:Nat):St:=⟨aV [(4,.w (.c (.d (.sl (l.map aH))))),(6,.w (.c (.mp 1))),(34,.w (.c (.d (.sl (l.map aH))))),(35,.w (.c (.d (.int .i64 (l.length:Int))))),(36,.w (.c (.d (.int .i64 (i:Int)))))],fb (eI l i),fS⟩
def KX (l:List Ek) (t:Wk):St:=⟨aV [(6,.w (.c (.d (cg l)))),(52,.w (.c (.ptr 1 1 0 0)))],hL [(1,.it .i64 t.left t.last)],uL [1]⟩
theorem RD (l:List Ek) (i:Nat) (hi:i≤l.length):∀ (j:Nat) (p:Int×List Ek),(eI l i)[j]?=some p→p.2.length≤l.length:=by
  intro j p hp;have hm:=W6 hp;have h1:=w7 (vm l i) (show (p.1,p.2)∈eI l i from hm);rw[xW l i hi] at h1;split at h1
  ·cases h1
  ·rw[← Option.some.inj h1];have:=List.length_filter_le (fun r:Ek=>decide (r.ty=p.1)) (l.take i);rw[VW] at this;unfold am;omega
def rr:aN := .seq (.reg [oO 37 (.bin .lss (.t 36) (.t 35))]) (.seq (.cond (.t 37) (.skip) (.exit 0)) (.seq (.block 1 (.seq (.reg [oO 38 (.idxSl 3 (.t 34) (.t 36)),oO 39 (.load (.ag 3) (.t 38)),oO 8 (.alloc [(.d (.bool false)),(.d (.int .i64 0)),.nil]),oN (.store (.ag 3) (.t 8) (.t 39))]) (.reg [oM 40 6,oO 41 (.fieldAddr 1 (.t 8)),oO 42 (.loadB .sc (.t 41)),oM 43 6,oO 44 (.fieldAddr 1 (.t 8)),oO 45 (.loadB .sc (.t 44)),oO 46 (.mpGet .i64 (.sl []) false (.t 43) (.t 45)),oO 47 (.loadB (.ag 3) (.t 8)),oO 48 (.bldSl false 1 3 (.agg [(.bool false),(.int .i64 0),(.sl [])]) [(0,(.t 47))]),oO 49 (.app false 3 40 (.t 46) (.t 48)),oN (.mpSet .i64 (.t 40) (.t 42) (.t 49))]))) (.reg [oO 50 (.bin .add (.t 36) (kI 1)),oM 36 50])))
def EJ:aN := .seq (.nextM 53 (.t 52) [oO 54 (.extract (.t 53) 0)]) (.seq (.cond (.t 54) (.skip) (.exit 2)) (.block 3 (.seq (.reg [oO 55 (.mpEnt (.t 52)),oO 56 (.extract (.t 55) 0),oO 57 (.extract (.t 55) 1),oM 9 56,oM 10 57]) (.seq (.reg [oM 58 9,oM 59 10,oO 60 (.call 108 [(.t 58),(.t 59)] none),oO 61 (.un .not (.t 60))]) (.cond (.t 61) (.seq (.reg [oO 2 (.mv (.k (.c (.d (.mp .i64 []))))),oO 3 (.mv (.k (.c (.d (.bool false)))))]) (.ret)) (.skip))))))
def pE:aF:=⟨1,63,.seq (.reg [oO 2 (.mv (.k (.c (.d (.mp .i64 []))))),oO 3 (.mv (.k (.c (.d (.bool false)))))]) (.seq (.reg [oM 12 0,oO 13 (.call 12 [(.t 12)] none),oM 11 13,oO 14 (.extract (.t 11) 0),oO 15 (.extract (.t 11) 1),oM 4 14,oM 5 15]) (.seq (.seq (.reg [oM 16 5,oO 17 (.bin .neq (.t 16) (kI 0)),oM 18 17,oG 19 (.mv (.t 4)) 18 false,oG 20 (.len (.t 19)) 18 false,oG 21 (.bin .eql (.t 20) (kI 0)) 18 false,oO 22 (.pick (.t 18) (.k (.c (.d (.bool true)))) (.t 21)),oM 23 22,oG 24 (.mv (.t 4)) 23 false,oG 25 (.mv (.t 4)) 23 false,oG 26 (.len (.t 25)) 23 false,oG 27 (.bin .sub (.t 26) (kI 1)) 23 false,oG 28 (.idxSl 3 (.t 24) (.t 27)) 23 false,oG 29 (.fieldAddr 1 (.t 28)) 23 false,oG 30 (.load .sc (.t 29)) 23 false,oG 31 (.bin .neq (.t 30) (kI 0)) 23 false,oO 32 (.pick (.t 23) (.k (.c (.d (.bool true)))) (.t 31))])
 (.cond (.t 32) (.seq (.reg [oO 2 (.mv (.k (.c (.d (.mp .i64 []))))),oO 3 (.mv (.k (.c (.d (.bool false)))))]) (.ret)) (.skip))) (.seq (.reg [oO 33 (.mkMp .i64 none),oM 6 33]) (.seq (.seq (.reg [oM 34 4,oO 35 (.len (.t 34)),oO 36 (.mv (kI 0))]) (.block 0 (.loop rr))) (.seq (.seq (.ghost 6 (.reg [oM 51 6,oO 52 (.mpIter (.t 51))])) (.block 2 (.loop EJ))) (.seq (.reg [oM 62 6,oM 2 62,oO 3 (.mv (.k (.c (.d (.bool true)))))]) (.ret))))))),[(2,none),(3,none)]⟩
theorem Uk:aE Tryz.prog { own:=[],comp:=[],frz:=[],nils:=[],bx:=[42,45,47],gh:=[(10,6)] } Tryz.f66=some pE:=by kernel_rfl
theorem yQ (G:ai) (b:List UInt8) (hb:b.length≤1000000000):au Tryz.prog G 66 [.sl (b.map bD)] (.tup [.c (.d (cg (gZ b))),.c (.d (.bool (decide (dV b))))]):=by
  refine aG Tryz.func66 Uk rfl rfl ?_;have c:=yN G b hb;have hno:¬ dV b→gZ b=[]∧decide (dV b)=false:=fun h=>⟨if_neg h,decide_eq_false h⟩
  by_cases he:cN b=0
  ·obtain⟨q1,q2,q3,q4⟩:=J7 he;have hyes:iA (aD b)→gZ b=aD b∧decide (dV b)=true:=fun h=>⟨if_pos ⟨he,h⟩,decide_eq_true ⟨he,h⟩⟩
   have hno:¬ iA (aD b)→gZ b=[]∧decide (dV b)=false:=fun h=>hno fun h2=>h h2.2
   have h64:=(gA q1).2.1;have hbo:∀ r∈aD b,r.bo.length≤65535:=fun r hr=>(ij (q4 r hr)).2.2
   have hfm:=Uj (aD b);rw[he] at c;generalize aD b=l at *
   by_cases h0:0<l.length
   ·have g:=jq (l:=l) (i:=l.length-1) (by omega);have gl:((l.length:Int)=0)=False:=eq_false (by omega);have gt:((l.length:Int)-1).toNat=l.length-1:=by omega
    by_cases h1:(l.getD (l.length-1) default).ty=0
    ·have gty:=eq_true h1;have az:=lw l;obtain⟨R,hR⟩:∃ R,R=l.getD (l.length-1) default:=⟨_,rfl⟩
     rw[← hR] at g gty;have hfm2:iA l↔∀ k,am l k≠[]→mo k (am l k)=true:=⟨fun h=>(hfm.1 h).2.2,fun h=>hfm.2 ⟨h0,h1,h⟩⟩
     clear hfm q1 q2 q3 q4 hR h1;obtain⟨Rc,Rt,Rb⟩:=R;dsimp only at gty;simp only[pE,ah,af,aa,seval,iteOmega,toNatUp];refine sC (c) ?_;simp only[gl,gt,aM,g,aH,gty,cS,af,aa,seval,iteOmega,toNatUp];refine bd (tv l) (fun i=>l.length-i) (fun i=>i≤l.length) 0 (VY _) ?_ ?_
     ·refine w8 (fun i=>if i=1 then 264 else 0) ?_ ?_ (fun j p hp=>by cases hp) (fun j=>?_) (fun i j hi=>by cases hi) rfl
      ·simp only[wx,aA,aK,aa,seval,iteOmega,toNatUp,cS,if_true]
      ·simp only[if_true,af,aa,seval,iteOmega,toNatUp]; rfl
      ·rw[if_pos rfl,if_neg (by omega)]; decide
     ·intro i hi;have u64:fS 64=false:=xZ 8;have u392:fS 392=false:=xZ 49;have h1r:=T8 (eI l i);by_cases hlt:i<l.length
      ·have g:=jq hlt;have hst:eI l (i+1)=bR (eI l i) (l.getD i default).ty ((aU (eI l i) (l.getD i default).ty).getD []++[l.getD i default]):=rfl;have hln:=RD l i hi;generalize l.getD i default=x at *
       obtain⟨es,hes⟩:∃ es,es=eI l i:=⟨_,rfl⟩
       rw[← hes] at hst h1r hln;obtain⟨X,hX⟩:∃ X,X=x:=⟨_,rfl⟩
       rcases Jv es 0 x.ty with ⟨m1,m2⟩ | ⟨j,y,m1,m2,m3,m4⟩
       ·rw[m2] at hst;rw[Xa,Xb,wb _ m2,← hX] at hst;have p1:=fun c=>wb (es:=cy es 0) (k:=x.ty) c m1
        obtain⟨xc,xt,xb⟩:=x;dsimp only at *
        simp only[rr,tv,← hes,af,aa,seval,iteOmega,toNatUp,aM,g,aH,cS,u64,u392,h1r,m1,p1,bK];refine aX (i+1) (by omega) (by omega) ?_
        show dK _ ⟨aV _,fb (eI l (i+1)),fS⟩
        rw[hst,hX];refine RA ?_ ?_ ?_ (fun j=>by dsimp only; rw[upd_ne _ _ (by omega),upd_ne _ _ (by omega),upd_ne _ _ (by omega),upd_ne _ _ (by omega)]) rfl
        ·simp only[wx,aA,aK,aa,seval,iteOmega,toNatUp,cS,pD] <;> first | rfl | exact⟨rfl,rfl⟩ | skip
        ·simp only[af,aa,seval,iteOmega,toNatUp]
        ·simp only[af,aa,seval,iteOmega,toNatUp,aH]
       ·rw[m1] at hst;rw[WQ,(m4 .nil).2,← hX] at hst;rw[WJ] at m3;have p1:=fun c=>(m4 c).1
        have hyl:=hln j _ m2;dsimp only at hyl;have hrow:fb es (8*j+3)=some (.row 3 (y.map aH)):=by rw[sG,m2]; rfl
        have n1:(8*j+3==64)=false:=by rw[beq_eq_false_iff_ne]; omega
        have n2:(1==8*j+3)=false:=by rw[beq_eq_false_iff_ne]; omega
        have az2:=lw y;obtain⟨xc,xt,xb⟩:=x;dsimp only at *
        simp only[rr,tv,← hes,af,aa,seval,iteOmega,toNatUp,aM,g,aH,cS,u64,u392,h1r,m3,p1,bK,n1,n2,hrow];refine aX (i+1) (by omega) (by omega) ?_
        show dK _ ⟨aV _,fb (eI l (i+1)),fS⟩
        rw[hst,hX];refine RB m2 ?_ ?_ ?_ (fun i hi=>by dsimp only; rw[upd_ne _ _ (by omega),upd_ne _ _ (by omega),upd_ne _ _ (by omega),upd_ne _ _ (by omega),upd_ne _ _ (by omega)]) rfl
        ·simp only[wx,aA,aK,aa,seval,iteOmega,toNatUp,cS,pD] <;> first | rfl | exact⟨rfl,rfl⟩ | skip
        ·simp only[af,aa,seval,iteOmega,toNatUp]
        ·simp only[af,aa,seval,iteOmega,toNatUp,aH]
      ·obtain rfl:i=l.length:=by omega
       have u416:fS 416=false:=xZ 52;simp only[rr,tv,af,aa,seval,iteOmega,toNatUp];refine T7 (id:=1) (q:=.i64) (es:=cy (eI l l.length) 0) (ds:=cG l) rfl h1r (Ny _) ?_;generalize upd (killAll (fb (eI l l.length)) ((cy (eI l l.length) 0).map (·.2))) 1 none=K;simp only[af,aa,seval,iteOmega,toNatUp,cS,u416];refine bd (KX l) (fun t=>t.left.length) (i3 l fun k=>mo k (am l k)=true) ⟨cG l,none⟩ (i3.start l _) ?_ ?_
       ·refine aB (fun _=>416) ?_ ?_ rfl rfl <;> simp only[wx,aA,aK,aa,seval,iteOmega,toNatUp,cg] <;> first | rfl | exact⟨rfl,rfl⟩ | skip
       ·rintro⟨left,last⟩ hI;simp only[EJ,KX,cg,af,aa,seval,iteOmega,toNatUp];refine Jt (id:=1) (s:=1) (q:=.i64) (left:=left) (last:=last) rfl rfl ?_ ?_
        ·intro hle;obtain⟨e1,e2⟩:=hyes (hfm2.2 fun k hk=>hI.done hle hk);rw[e1,e2];simp only[af,aa,seval,iteOmega,toNatUp];exact aW
        ·intro j p hj;obtain⟨e1,e2⟩:=G3 (hI.1 p (W6 hj));have hnx:=fun h=>hI.next hj h
         have hle:=EG hj;generalize left.eraseIdx j=left' at *
         clear hj hI;obtain⟨k,d⟩:=p;dsimp only at *
         obtain rfl:d=D.sl ((am l k).map aH):=congrArg Prod.snd e1;clear e1;have hp:=G6 e2;have c2:=Vl G k (am l k) hp (by have:=List.length_filter_le (fun r:Ek=>decide (r.ty=k)) l; unfold am; omega) (by have:=hbo _ (Xk.1 (iH hp)).1; unfold am; omega);cases hc:mo k (am l k)
         ·rw[hc] at c2;obtain⟨e1,e3⟩:=hno fun h=>by have:=hfm2.1 h k e2; rw[hc] at this; cases this
          rw[e1,e3,show cG []=[] from rfl];simp only[af,aa,seval,iteOmega,toNatUp,cS];refine sD (c2) ?_;exact aW
         ·rw[hc] at c2;have hn:=hnx hc;simp only[af,aa,seval,iteOmega,toNatUp,cS];refine sD (c2) ?_;refine aX (⟨left',some (k,D.sl ((am l k).map aH))⟩:Wk) hle hn (aB (fun _=>1) ?_ ?_ rfl rfl) <;> simp only[wx,aA,aK,aa,seval,iteOmega,toNatUp,cg] <;> first | rfl | exact⟨rfl,rfl⟩ | skip
    ·obtain⟨e1,e2⟩:=hno fun h=>h1 (hfm.1 h).2.1
     rw[e1,e2,pn];have gty:=eq_false h1;generalize l.getD (l.length-1) default=R at *
     obtain⟨Rc,Rt,Rb⟩:=R;dsimp only at gty;simp only[pE,ah,af,aa,seval,iteOmega,toNatUp];refine sC (c) ?_;simp only[gl,gt,aM,g,aH,gty,af,aa,seval,iteOmega,toNatUp];exact aW
   ·obtain⟨e1,e2⟩:=hno fun h=>h0 (hfm.1 h).1
    rw[e1,e2,pn];have gl:((l.length:Int)=0)=True:=eq_true (by omega);simp only[pE,ah,af,aa,seval,iteOmega,toNatUp];refine sC (c) ?_;simp only[gl,af,aa,seval,iteOmega,toNatUp];exact aW
  ·obtain⟨e1,e2⟩:=hno fun h=>he h.1
   rw[e1,e2,pn];have g1:(cN b=0)=False:=eq_false he;generalize cN b=e at *
   generalize aD b=l at *
   simp only[pE,ah,af,aa,seval,iteOmega,toNatUp];refine sC (c) ?_;simp only[g1,af,aa,seval,iteOmega,toNatUp];exact aW
theorem sH {b:List UInt8}:(∀ r∈aD b,r.bo.length≤65535)∧(aD b).length≤64:=by
  by_cases h:cN b=0
  ·obtain⟨h1,h2,h3,h4⟩:=J7 h;exact⟨fun r hr=>(ij (h4 r hr)).2.2,(gA h1).2.1⟩
  ·rw[show aD b=[] from if_neg h];exact⟨fun r hr=>(by cases hr),VY _⟩
def fi (r:List Fd) (c:Ch) (v a:Int) (ns:List (List UInt8)) (i:Nat):List Ek:=⟨true,1,aI [v]⟩::⟨true,4,aI [a]⟩::ft r c v a (ns.take i)
theorem w9 {l:List (List UInt8)} {i:Nat} (h:i<l.length):l[i]?=some (l.getD i []):=by
  rw[VS,VQ h]; rfl
theorem Aw {l:List (List UInt8)} {i:Nat} (h:i<l.length):l.take (i+1)=l.take i++[l.getD i []]:=by
  rw[XC,w9 h]; rfl
theorem Pu {r:List Fd} {c:Ch} {v a:Int} {ns:List (List UInt8)} {i:Nat} (h:i<ns.length):fi r c v a ns (i+1)=fi r c v a ns i++[⟨false,5,mh r a (bu c v a 0) (bu c v a 1) (ns.getD i [])⟩]:=by
  unfold fi ft;rw[Aw h,Wu]; rfl
theorem xa (r:List Fd) (c:Ch) (v a:Int) (ns:List (List UInt8)) (i:Nat):(fi r c v a ns i).length≤ns.length+2:=by
  unfold fi ft;simp only[WO,VZ,VW]; omega
theorem tw (x:ByteArray):x.toList=x.data.toList:=by
  have:=toList_mk x.data.toList
  rwa [Xf] at this
theorem RE {x:ByteArray} (h:x.size=0):jn .neq x ⟨#[]⟩=some (.bool false):=by
  show some (D.bool (!(x.toList==(⟨#[]⟩:ByteArray).toList)))=_
  rw[tw,tw,Wr.1 (show x.data.toList.length=0 from h)];rfl
theorem RF {x:ByteArray} (h:¬ x.size=0):jn .neq x ⟨#[]⟩=some (.bool true):=by
  show some (D.bool (!(x.toList==(⟨#[]⟩:ByteArray).toList)))=_
  rw[tw,tw,beq_eq_false_iff_ne.2 (fun q:x.data.toList=[]=>h (show x.data.toList.length=0 by rw[q]; rfl))];rfl
theorem pF (b:List UInt8):(eG b).length≤b.length:=by
  unfold eG;split
  ·rw[Q9]; omega
  ·exact VY _
theorem xe (p:dP):(gq p).length≤3:=by
  unfold gq;simp only[VR];split <;> split <;> simp
theorem yc {p:dP} (h:p.ho.size≤255):∀ e∈gq p,0≤e.ty∧e.ty≤7∧e.bo.length≤255:=by
  intro e he;unfold gq at he;rcases V8.1 he with he | he
  ·split at he
   ·cases he
   ·rw[VU.1 he]; exact dR (by decide) h
  ·rcases V8.1 he with he | he
   ·split at he
    ·cases he
    ·rw[VU.1 he]; exact dR (by decide) (by rw[eW]; exact (show 2*1≤255 by decide))
   ·rw[VU.1 he]; exact dR (by decide) (by decide)
theorem Vm {p:dP} {l:List Ek} (h:p.ho.size≤255) (ok:∀ e∈l,0≤e.ty∧e.ty≤7∧e.bo.length≤255) (hl:l.length≤10):bT (l++gq p)=0∧fc (l++gq p)=aO (l++gq p) :=
  nG (fun e he=>(V8.1 he).elim (ok e) (yc h e)) (by have:=xe p; rw[VR]; omega)
theorem nK {c:Ch} {v a:Int} (h:dv c) (hv:0≤v∧v≤65535) (ha:0≤a∧a≤65535):gp c v a=0:=by
  have hs:bH [v,a]:=fun n hn=>by
    rcases V6.1 hn with rfl | hn
    ·exact hv
    ·rw[VU.1 hn]; exact ha
  unfold gp;rw[if_neg (not_not_intro h),if_neg (not_not_intro hs)]
theorem yR {r:List Fd} {a:Int} {U W n:List UInt8} (vR:cQ r) (ha:0≤a∧a≤65535) (hU:U.length=32) (hW:W.length=32) (h:n.length=16):mh r a U W n=dN (r.getD 0 default) a U W n∧(dN (r.getD 0 default) a U W n).length=104:=by
  have h0:0<r.length:=vR.1;obtain⟨q1,q2,q3⟩:=vR.2.2.1 _ (Eu h0);have e:iz r a U W n=0:=by
    unfold iz;rw[if_pos vR,if_neg (by omega),if_neg (by omega),if_neg (by omega)]
  exact⟨if_pos e,(Pl q3 q1 q2 ha.1 ha.2 hU hW h).1⟩
theorem JC {r:List Fd} {c:Ch} {v a:Int} {ns:List (List UInt8)} (vR:cQ r) (hk:gp c v a=0) (ha:0≤a∧a≤65535) (h16:∀ n∈ns,n.length=16):∀ e∈fi r c v a ns ns.length,0≤e.ty∧e.ty≤7∧e.bo.length≤255:=by
  intro e he;unfold fi at he;rcases V6.1 he with rfl | he
  ·exact dR (by decide) (by rw[eW]; exact (show 2*1≤255 by decide))
  ·rcases V6.1 he with rfl | he
   ·exact dR (by decide) (by rw[eW]; exact (show 2*1≤255 by decide))
   ·rw[WP] at he;obtain⟨n,hn,rfl⟩:=Wm.1 he;obtain⟨q1,q2⟩:=yR (U:=bu c v a 0) (W:=bu c v a 1) vR ha (mT hk) (mT hk) (h16 n hn);refine dR (by decide) ?_;rw[q1,q2]; decide
def ub (id:Int):Bool:=decide (0≤id∧id≤4294967295)
def rM:aF:=⟨1,9,.seq (.reg [oO 2 (.mv (.k (.c (.d (.bool false)))))]) (.seq (.reg [oM 3 0,oO 4 (.bin .leq (kI 0) (.t 3)),oM 5 4,oG 6 (.mv (.t 0)) 5 true,oG 7 (.bin .lss (.t 6) (kI 4294967296)) 5 true,oO 8 (.pick (.t 5) (.t 7) (.k (.c (.d (.bool false))))),oM 2 8]) (.ret)),[(2,none)]⟩
theorem RG:aE Tryz.prog { own:=[],comp:=[],frz:=[],nils:=[] } Tryz.f107=some rM:=by kernel_rfl
theorem Ul (G:ai) (id:Int):au Tryz.prog G 107 [.int .i64 id] (.w (.c (.d (.bool (ub id))))):=by
  refine aG Tryz.func107 RG rfl rfl ?_;unfold ub;by_cases h1:0≤id
  ·by_cases h2:id<4294967296
   ·have g1:(0≤id)=True:=eq_true h1;have g2:(id<4294967296)=True:=eq_true h2;rw[decide_eq_true (show 0≤id∧id≤4294967295 by omega)];simp only[rM,ah,af,aa,seval,iteOmega,toNatUp,g1,g2];exact aJ
   ·have g1:(0≤id)=True:=eq_true h1;have g2:(id<4294967296)=False:=eq_false h2;rw[decide_eq_false (show ¬ (0≤id∧id≤4294967295) by omega)];simp only[rM,ah,af,aa,seval,iteOmega,toNatUp,g1,g2];exact aJ
  ·have g1:(0≤id)=False:=eq_false h1;rw[decide_eq_false (show ¬ (0≤id∧id≤4294967295) by omega)];simp only[rM,ah,af,aa,seval,iteOmega,toNatUp,g1];exact aJ
def kv (l:List Fd):Nat→List (Int×D)
  | 0=>[]
  | i+1=>bR (kv l i) (l.getD i default).ty (.bool true)
theorem Kt (l:List Fd) (y:Int):∀ i,aU (kv l i) y=if ∃ k,k<i∧(l.getD k default).ty=y then some (.bool true) else none
  | 0=>by simp[kv,Rr]
  | i+1=>by
    simp only[kv,G1,Kt l y i];by_cases h:y=(l.getD i default).ty
    ·rw[if_pos h,if_pos ⟨i,by omega,h.symm⟩]
    ·rw[if_neg h];by_cases h2:∃ k,k<i∧(l.getD k default).ty=y
     ·obtain⟨k,h3,h4⟩:=h2;rw[if_pos ⟨k,h3,h4⟩,if_pos ⟨k,by omega,h4⟩]
     ·have h5:¬ ∃ k,k<i+1∧(l.getD k default).ty=y:=by
        rintro⟨k,h3,h4⟩;rcases Wv k i with g | g
        ·exact h2 ⟨k,g,h4⟩
        ·obtain rfl:k=i:=by omega
         exact h h4.symm
      rw[if_neg h2,if_neg h5]
def mG:aN := .seq (.reg [oO 21 (.bin .lss (.t 20) (.t 19))]) (.seq (.cond (.t 21) (.skip) (.exit 0)) (.seq (.block 1 (.seq (.reg [oO 22 (.idxSl 2 (.t 18) (.t 20)),oO 23 (.load (.ag 2) (.t 22)),oO 5 (.alloc [(.d (.int .i64 0)),.nil]),oN (.store (.ag 2) (.t 5) (.t 23))]) (.seq (.seq (.reg [oO 24 (.fieldAddr 0 (.t 5)),oO 25 (.load .sc (.t 24)),oO 26 (.call 107 [(.t 25)] none),oO 27 (.un .not (.t 26)),oM 28 27,oG 29 (.mv (.t 3)) 28 false,oG 30 (.fieldAddr 0 (.t 5)) 28 false,oG 31 (.load .sc (.t 30)) 28 false,oG 32 (.mpGet .i64 (.bool false) false (.t 29) (.t 31)) 28 false,oO 33 (.pick (.t 28) (.k (.c (.d (.bool true)))) (.t 32)),oM 34 33,oG 35 (.fieldAddr 1 (.t 5)) 34 false,oG 36 (.load .sc (.t 35)) 34 false,oG 37 (.len (.t 36)) 34 false,oG 38 (.bin .neq (.t 37) (kI 32)) 34 false,oO 39 (.pick (.t 34) (.k (.c (.d (.bool true)))) (.t 38))])
 (.cond (.t 39) (.seq (.reg [oO 2 (.mv (.k (.c (.d (.bool false)))))]) (.ret)) (.skip))) (.reg [oM 40 3,oO 41 (.fieldAddr 0 (.t 5)),oO 42 (.load .sc (.t 41)),oN (.mpSet .i64 (.t 40) (.t 42) (.k (.c (.d (.bool true)))))])))) (.reg [oO 43 (.bin .add (.t 20) (kI 1)),oM 20 43])))
def rN:aF:=⟨1,44,.seq (.reg [oO 1 (.box .roBox (.t 0)),oO 2 (.mv (.k (.c (.d (.bool false)))))]) (.seq (.seq (.reg [oO 6 (.fieldAddr 0 (.t 1)),oO 7 (.load .sc (.t 6)),oO 8 (.len (.t 7)),oO 9 (.bin .lss (.t 8) (kI 1)),oM 10 9,oG 11 (.fieldAddr 0 (.t 1)) 10 false,oG 12 (.load .sc (.t 11)) 10 false,oG 13 (.len (.t 12)) 10 false,oG 14 (.bin .gtr (.t 13) (kI 4)) 10 false,oO 15 (.pick (.t 10) (.k (.c (.d (.bool true)))) (.t 14))]) (.cond (.t 15) (.seq (.reg [oO 2 (.mv (.k (.c (.d (.bool false)))))]) (.ret)) (.skip))) (.seq (.reg [oO 16 (.mkMp .i64 none),oM 3 16]) (.seq (.seq (.reg [oO 17 (.fieldAddr 0 (.t 1)),oO 18 (.load .sc (.t 17)),oO 19 (.len (.t 18)),oO 20 (.mv (kI 0))]) (.block 0 (.loop mG))) (.seq (.reg [oO 2 (.mv (.k (.c (.d (.bool true)))))]) (.ret))))),[(2,none)]⟩
theorem RH:aE Tryz.prog { own:=[],comp:=[],frz:=[],nils:=[] } Tryz.f65=some rN:=by kernel_rfl
def ov (l:List Fd) (i:Nat):St:=⟨aV [(3,.w (.c (.mp 1))),(18,.w (.c (.d (.sl (l.map cw))))),(19,.w (.c (.d (.int .i64 (l.length:Int))))),(20,.w (.c (.d (.int .i64 (i:Int)))))],hL [(1,.mp .i64 (gr (kv l i)))],uL [1]⟩
set_option maxHeartbeats 3200000 in
theorem JD (G:ai) (l:List Fd) (hl:l.length≤9223372036854775807):au Tryz.prog G 65 [bM l] (.w (.c (.d (.bool (decide (cQ l)))))):=by
  refine aG Tryz.func65 RH rfl rfl ?_;unfold bM;rcases Wv l.length 1 with h1 | h1
  ·have hno:¬ cQ l:=fun h=>by have:=h.1; omega
   rw[decide_eq_false hno];simp only[rN,ah,af,aa,seval,iteOmega,toNatUp];exact aJ
  ·rcases Wv 4 l.length with h4 | h4
   ·have hno:¬ cQ l:=fun h=>by have:=h.2.1; omega
    have g4:((l.length:Int)>4)=True:=eq_true (by omega);rw[decide_eq_false hno];simp only[rN,ah,af,aa,seval,iteOmega,toNatUp,g4];exact aJ
   ·have g4:((l.length:Int)>4)=False:=eq_false (by omega);simp only[rN,ah,af,aa,seval,iteOmega,toNatUp,cS,g4];refine bd (ov l) (fun i=>l.length-i) (fun i=>i≤l.length∧∀ j,j<i→il (l.getD j default)∧∀ k,k<j→(l.getD k default).ty≠(l.getD j default).ty) 0 ⟨VY _,fun j hj=>by omega⟩ ?_ ?_
    ·refine aB (fun i=>128) ?_ ?_ rfl rfl <;> simp only[wx,aA,aK,aa,seval,iteOmega,toNatUp,kv,cS]
    ·rintro i ⟨hi,hok⟩;by_cases hlt:i<l.length
     ·have g:=me hlt;have hno:¬ il (l.getD i default)→¬ cQ l:=fun h hr=>h (lM hr hlt).1
      have hno2:∀ k,k<i→(l.getD k default).ty=(l.getD i default).ty→¬ cQ l:=fun k hk e hr=>(lM hr hlt).2 k hk e
      have hgo:il (l.getD i default)→(∀ k,k<i→(l.getD k default).ty≠(l.getD i default).ty)→∀ j,j<i+1→il (l.getD j default)∧∀ k,k<j→(l.getD k default).ty≠(l.getD j default).ty:=fun a b j hj=>by
        rcases Wv j i with h | h
        ·exact hok j h
        ·obtain rfl:j=i:=by omega
         exact⟨a,b⟩
      have hms:=Kt l (l.getD i default).ty i;have hst:kv l (i+1)=bR (kv l i) (l.getD i default).ty (.bool true):=rfl;have ci:=Ul G (l.getD i default).ty;by_cases h0:0≤(l.getD i default).ty∧(l.getD i default).ty≤4294967295
      ·rw[show ub (l.getD i default).ty=true from decide_eq_true h0] at ci;by_cases h5:∃ k,k<i∧(l.getD k default).ty=(l.getD i default).ty
       ·obtain⟨k,h6,h7⟩:=h5;rw[if_pos ⟨k,h6,h7⟩] at hms;rw[decide_eq_false (hno2 k h6 h7)];simp only[mG,ov,af,aa,seval,iteOmega,toNatUp,cS,aM,g,cw];refine sC (ci) ?_;simp only[cS,hms,af,aa,seval,iteOmega,toNatUp];exact aJ
       ·rw[if_neg h5] at hms;by_cases h3:(l.getD i default).da.length=32
        ·simp only[mG,ov,af,aa,seval,iteOmega,toNatUp,cS,aM,g,cw];refine sC (ci) ?_;simp only[cS,hms,h3,af,aa,seval,iteOmega,toNatUp];refine aX (i+1) (by omega) ⟨by omega,hgo ⟨by omega,by omega,h3⟩ fun k hk e=>h5 ⟨k,hk,e⟩⟩ (aB (fun _=>1) ?_ ?_ rfl (by simp only[Wa,XS,Ob.ids,w6]; rfl)) <;> simp only[wx,aA,aK,aa,seval,iteOmega,toNatUp,cS,kv]
        ·rw[decide_eq_false (hno fun h=>h3 h.2.2)];have h4':(((l.getD i default).da.length:Int)=32)=False:=eq_false (by omega);simp only[mG,ov,af,aa,seval,iteOmega,toNatUp,cS,aM,g,cw];refine sC (ci) ?_;simp only[cS,hms,h4',af,aa,seval,iteOmega,toNatUp];exact aJ
      ·rw[show ub (l.getD i default).ty=false from decide_eq_false h0] at ci;rw[decide_eq_false (hno fun h=>h0 ⟨h.1,h.2.1⟩)];simp only[mG,ov,af,aa,seval,iteOmega,toNatUp,cS,aM,g,cw];refine sD (ci) ?_;exact aJ
     ·obtain rfl:i=l.length:=by omega
      rw[decide_eq_true (Ja (by omega) (by omega) hok)];simp only[mG,ov,af,aa,seval,iteOmega,toNatUp,cS];exact aJ
def kH:aF:=⟨4,71,.seq (.reg [oO 4 (.box .roBox (.t 0)),oO 6 (.box .roBox (.t 2)),oO 8 (.mv (.k (.c .nil))),oO 9 (.mv (kI 0))]) (.seq (.seq (.reg [oO 14 (.load (.ag 1) (.t 4)),oO 15 (.call 65 [(.t 14)] none),oO 16 (.un .not (.t 15))]) (.cond (.t 16) (.seq (.reg [oO 8 (.mv (.k (.c .nil))),oO 9 (.mv (kI 3))]) (.ret)) (.skip))) (.seq (.seq (.reg [oM 17 1,oO 18 (.bin .lss (.t 17) (kI 0)),oM 19 18,oG 20 (.mv (.t 1)) 19 false,oG 21 (.bin .geq (.t 20) (kI 65536)) 19 false,oO 22 (.pick (.t 19) (.k (.c (.d (.bool true)))) (.t 21))]) (.cond (.t 22) (.seq (.reg [oO 8 (.mv (.k (.c .nil))),oO 9 (.mv (kI 4))]) (.ret)) (.skip))) (.seq (.seq (.reg [oO 23 (.fieldAddr 0 (.t 6)),oO 24 (.load .sc (.t 23)),oO 25 (.len (.t 24)),oO 26 (.bin .neq (.t 25) (kI 32)),oM 27 26,oG 28 (.fieldAddr 1 (.t 6)) 27 false,
 oG 29 (.load .sc (.t 28)) 27 false,oG 30 (.len (.t 29)) 27 false,oG 31 (.bin .neq (.t 30) (kI 32)) 27 false,oO 32 (.pick (.t 27) (.k (.c (.d (.bool true)))) (.t 31))]) (.cond (.t 32) (.seq (.reg [oO 8 (.mv (.k (.c .nil))),oO 9 (.mv (kI 5))]) (.ret)) (.skip))) (.seq (.seq (.reg [oM 33 3,oO 34 (.len (.t 33)),oO 35 (.bin .neq (.t 34) (kI 16))]) (.cond (.t 35) (.seq (.reg [oO 8 (.mv (.k (.c .nil))),oO 9 (.mv (kI 3))]) (.ret)) (.skip))) (.seq (.reg [oO 36 (.fieldAddr 0 (.t 4)),oO 37 (.load .sc (.t 36)),oO 38 (.idxSl 2 (.t 37) (kI 0)),oO 39 (.fieldAddr 0 (.t 38)),oO 40 (.load .sc (.t 39)),oO 41 (.conv .u64 (.t 40)),oO 42 (.call 91 [(.t 41),(kI 4)] none),oM 10 42]) (.seq (.reg [oM 43 1,oO 44 (.conv .u64 (.t 43)),oO 45 (.call 91 [(.t 44),(kI 2)] none),oO 46 (.call 91 [(.k (.c (.d (.int .u64 0)))),(kI 2)] none),
 oO 47 (.fieldAddr 0 (.t 6)),oO 48 (.load .sc (.t 47)),oO 49 (.fieldAddr 1 (.t 6)),oO 50 (.load .sc (.t 49)),oO 51 (.bldSl false 4 1 (.sl []) [(0,(.t 45)),(1,(.t 46)),(2,(.t 48)),(3,(.t 50))]),oO 52 (.call 90 [(.t 51)] none),oM 11 52]) (.seq (.reg [oO 54 (.fieldAddr 0 (.t 4)),oO 55 (.load .sc (.t 54)),oO 56 (.idxSl 2 (.t 55) (kI 0)),oO 57 (.fieldAddr 1 (.t 56)),oO 58 (.load .sc (.t 57)),oM 59 10,oM 60 3,oO 61 (.bldSl false 2 1 (.sl []) [(0,(.t 59)),(1,(.t 60))]),oM 62 11,oO 63 (.call 92 [(.t 58),(.t 61),(.t 62)] none),oM 53 63,oO 64 (.extract (.t 53) 0),oO 65 (.extract (.t 53) 1),oM 12 64,oM 13 65]) (.seq (.reg [oM 66 10,oM 67 3,oM 68 12,oO 69 (.bldSl false 3 1 (.sl []) [(0,(.t 66)),(1,(.t 67)),(2,(.t 68))]),oO 70 (.call 90 [(.t 69)] none),oM 8 70,oO 9 (.mv (kI 0))]) (.ret))))))))),[(8,none),(9,none)]⟩
theorem RI:aE Tryz.prog { own:=[],comp:=[],frz:=[],nils:=[] } Tryz.f112=some kH:=by kernel_rfl
set_option maxHeartbeats 3200000 in
theorem Um (G:ai) (l:List Fd) (algo:Int) (up dn nonce:List UInt8) (hl:l.length≤9223372036854775807):au Tryz.prog G 112 [bM l,.int .i64 algo,gL up dn,.sl (nonce.map bD)] (.tup [.c (.d (.sl ((mh l algo up dn nonce).map bD))),.c (.d (.int .i64 (iz l algo up dn nonce)))]):=by
  refine aG Tryz.func112 RI rfl rfl ?_;have c1:=JD G l hl;by_cases hr:cQ l
  ·rw[decide_eq_true hr] at c1;have e0:iz l algo up dn nonce=if algo<0∨65535<algo then 4 else if up.length≠32∨dn.length≠32 then 5 else if nonce.length≠16 then 3 else 0:=if_pos hr
   rcases Int.lt_or_le algo 0 with h1 | h1
   ·have e:iz l algo up dn nonce=4:=by rw[e0,if_pos (.inl h1)]
    rw[nk e (by decide),e];unfold bM gL at *
    simp only[kH,ah,af,aa,seval,iteOmega,toNatUp];refine sD (c1) ?_;exact aW
   ·rcases Int.lt_or_le 65535 algo with h2 | h2
    ·have e:iz l algo up dn nonce=4:=by rw[e0,if_pos (.inr h2)]
     have g2:(algo≥65536)=True:=eq_true (by omega);rw[nk e (by decide),e];unfold bM gL at *
     simp only[kH,ah,af,aa,seval,iteOmega,toNatUp];refine sC (c1) ?_;simp only[g2,af,aa,seval,iteOmega,toNatUp];exact aW
    ·have g2:(algo≥65536)=False:=eq_false (by omega);rw[if_neg (by omega)] at e0;by_cases h3:up.length=32
     ·by_cases h4:dn.length=32
      ·rw[if_neg (by omega)] at e0;by_cases h5:nonce.length=16
       ·rw[if_neg (by omega)] at e0;have eB:mh l algo up dn nonce=dN (l.getD 0 default) algo up dn nonce:=if_pos e0;rw[e0,eB];have g0:=me (l:=l) (i:=0) (by have:=hr.1; omega);obtain⟨⟨m1,m2,m3⟩,_⟩:=lM hr (i:=0) (by have:=hr.1; omega);have r1:=hr.1;clear e0 eB;generalize l.getD 0 default=m at *
        have hp:=GD algo h3 h4;have hi:(eF m).length=4:=ch _ _;have ha:df m.da [eF m,nonce] ((fp algo up dn).length:Int)=0:=Eh m3 (by simp) (fun x hx=>by simp at hx; rcases hx with rfl | rfl <;> omega) (by omega);have hs:(gO m.da [eF m,nonce] (fp algo up dn)).length=84:=by rw[vV ha,VR,kx,q9,hp]
        have d1:=ng G m.ty.toNat 4 (by decide);rw[show (4:Int).toNat=4 from rfl,show aQ m.ty.toNat 4=eF m from rfl,show ((m.ty.toNat:Nat):Int)=m.ty by omega] at d1;have d2:=ng G algo.toNat 2 (by decide);rw[show (2:Int).toNat=2 from rfl,show ((algo.toNat:Nat):Int)=algo by omega] at d2;have d0:=ng G 0 2 (by decide);rw[show aQ 0 (2:Int).toNat=[0,0] from by decide] at d0;have d3:=fC G [aQ algo.toNat 2,[0,0],up,dn] (by simp) (by rw[Ex]; omega);rw[Ex] at d3;have d4:=Te G m.da [eF m,nonce] (fp algo up dn) (by omega) (by simp) (fun x hx=>by simp at hx; rcases hx with rfl | rfl <;> omega) (by omega);rw[ha] at d4;have d5:=fC G [eF m,nonce,gO m.da [eF m,nonce] (fp algo up dn)] (by simp) (by simp only[XP,Xs,VR,Xj,hi,h5,hs]; omega);rw[Ro] at d5;unfold cW at d4;generalize dN m algo up dn nonce=B at *
        generalize gO m.da [eF m,nonce] (fp algo up dn)=S at *
        generalize fp algo up dn=P at *
        generalize eF m=I at *
        generalize aQ algo.toNat 2=A at *
        simp only[VX,Wl] at d0 d3 d4 d5;have haz:=vG l;unfold bM gL at *
        simp only[kH,ah,af,aa,seval,iteOmega,toNatUp];refine sC (c1) ?_;simp only[g2,h3,h4,h5,aM,g0,haz,cw,af,aa,seval,iteOmega,toNatUp];refine sD (d1) ?_;refine sD (d2) ?_;refine sD (d0) ?_;refine bh d3 (by simp only[af,aa,seval,iteOmega,toNatUp] <;> rfl) (.inl rfl) ?_;simp only[af,aa,seval,iteOmega,toNatUp,aM,g0,haz,cw];refine sD (d4) ?_;refine sD (d5) ?_;exact aW
       ·rw[if_pos h5] at e0;rw[nk e0 (by decide),e0];unfold bM gL at *
        simp only[kH,ah,af,aa,seval,iteOmega,toNatUp];refine sC (c1) ?_;simp only[g2,h3,h4,af,aa,seval,iteOmega,toNatUp];exact aW
      ·have e:iz l algo up dn nonce=5:=by rw[e0,if_pos (.inr h4)]
       rw[nk e (by decide),e];unfold bM gL at *
       simp only[kH,ah,af,aa,seval,iteOmega,toNatUp];refine sC (c1) ?_;simp only[g2,h3,af,aa,seval,iteOmega,toNatUp];exact aW
     ·have e:iz l algo up dn nonce=5:=by rw[e0,if_pos (.inl h3)]
      rw[nk e (by decide),e];unfold bM gL at *
      simp only[kH,ah,af,aa,seval,iteOmega,toNatUp];refine sC (c1) ?_;simp only[g2,af,aa,seval,iteOmega,toNatUp];exact aW
  ·rw[decide_eq_false hr] at c1;have e:iz l algo up dn nonce=3:=if_neg hr;rw[nk e (by decide),e];unfold bM gL at *
   simp only[kH,ah,af,aa,seval,iteOmega,toNatUp];refine sD (c1) ?_;exact aW
set_option maxHeartbeats 6400000
def JE:aF:=⟨1,13,.seq (.reg [oO 2 (.mv (.k (.c .nil))),oO 3 (.mv (kI 0))]) (.seq (.reg [oM 4 0,oO 5 (.bldSl false 1 1 (.int .i64 0) [(0,(.t 4))]),oO 6 (.call 53 [(.t 5)] none),oO 7 (.call 52 [(kI 2),(.t 6)] none),oO 8 (.call 52 [(kI 0),(.k (.c .nil))] none),oO 9 (.bldSl false 2 3 (.agg [(.bool false),(.int .i64 0),(.sl [])]) [(0,(.t 7)),(1,(.t 8))]),oO 10 (.call 10 [(.t 9)] none),oO 11 (.extract (.t 10) 0),oO 12 (.extract (.t 10) 1),oM 2 11,oM 3 12]) (.ret)),[(2,none),(3,none)]⟩
theorem Un:aE Tryz.prog { own:=[],comp:=[],frz:=[],nils:=[] } Tryz.f68=some JE:=by kernel_rfl
theorem yS (G:ai) (k:Int) (hk:0≤k∧k≤65535):au Tryz.prog G 68 [.int .i64 k] (.tup [.c (.d (.sl ((cC k).map bD))),.c (.d (.int .i64 0))]):=by
  refine aG Tryz.func68 Un rfl rfl ?_;have hs:bH [k]:=fun n hn=>by rw[VU.1 hn]; exact hk
  have c1:=lV G [k] (by simp) hs;simp only[VX,Wl,zD] at c1;have c2:=im G 2 (aI [k]);have c3:=im G 0 [];have bl:(aI [k]).length=2:=eW _;obtain⟨q1,q2⟩:=nG (l:=[⟨true,2,aI [k]⟩,⟨true,0,[]⟩]) (by
    intro r hr;simp only[V6,XT,or_false] at hr;rcases hr with rfl | rfl
    ·exact dR (by decide) (by omega)
    ·exact dR (by decide) (by decide)) (by simp)
  have c4:=Kl G [⟨true,2,aI [k]⟩,⟨true,0,[]⟩] (by simp) (by
    intro r hr;simp only[V6,XT,or_false] at hr;rcases hr with rfl | rfl
    ·dsimp only; omega
    ·simp)
  rw[q1,q2] at c4;have hR:cC k=aO [⟨true,2,aI [k]⟩,⟨true,0,[]⟩]:=rfl;rw[← hR] at c4;simp only[VX,Wl,aH] at c4 c3;clear q1 q2 hR;generalize cC k=R at *
  generalize aI [k]=B at *
  simp only[JE,ah,af,aa,seval,iteOmega,toNatUp];refine sD (c1) ?_;refine sD (c2) ?_;refine sD (c3) ?_;refine sD (c4) ?_;exact aW
def jA (ns:List (List UInt8)):Prop:=(∀ n∈ns,n.length=16)∧1≤ns.length∧ns.length≤8
instance (ns:List (List UInt8)):Decidable (jA ns):=by unfold jA; infer_instance
def nL (ns:List (List UInt8)) (i:Nat):St:=⟨aV [(0,.w (.c (.d (cW ns)))),(5,.w (.c (.d (cW ns)))),(6,.w (.c (.d (.int .i64 (ns.length:Int))))),(7,.w (.c (.d (.int .i64 (i:Int)))))],hL [],uL []⟩
def mO:aN := .seq (.reg [oO 8 (.bin .lss (.t 7) (.t 6))]) (.seq (.cond (.t 8) (.skip) (.exit 0)) (.seq (.block 1 (.seq (.reg [oO 9 (.idxSl 1 (.t 5) (.t 7)),oO 10 (.load .sc (.t 9)),oM 4 10]) (.seq (.reg [oM 11 4,oO 12 (.len (.t 11)),oO 13 (.bin .neq (.t 12) (kI 16))]) (.cond (.t 13) (.seq (.reg [oO 2 (.mv (.k (.c (.d (.bool false)))))]) (.ret)) (.skip))))) (.reg [oO 14 (.bin .add (.t 7) (kI 1)),oM 7 14])))
def JF:aF:=⟨1,23,.seq (.reg [oO 2 (.mv (.k (.c (.d (.bool false)))))]) (.seq (.seq (.reg [oM 5 0,oO 6 (.len (.t 5)),oO 7 (.mv (kI 0))]) (.block 0 (.loop mO))) (.seq (.reg [oM 15 0,oO 16 (.len (.t 15)),oO 17 (.bin .geq (.t 16) (kI 1)),oM 18 17,oG 19 (.mv (.t 0)) 18 true,oG 20 (.len (.t 19)) 18 true,oG 21 (.bin .leq (.t 20) (kI 8)) 18 true,oO 22 (.pick (.t 18) (.t 21) (.k (.c (.d (.bool false))))),oM 2 22]) (.ret))),[(2,none)]⟩
theorem Uo:aE Tryz.prog { own:=[],comp:=[],frz:=[],nils:=[] } Tryz.f70=some JF:=by kernel_rfl
theorem Vn (G:ai) (ns:List (List UInt8)) (hn:ns.length≤1000000):au Tryz.prog G 70 [cW ns] (.w (.c (.d (.bool (decide (jA ns)))))):=by
  refine aG Tryz.func70 Uo rfl rfl ?_;simp only[JF,ah,af,aa,seval,iteOmega,toNatUp];refine bd (nL ns) (fun i=>ns.length-i) (fun i=>i≤ns.length∧∀ n∈ns.take i,n.length=16) 0 ⟨VY _,by rw[WU]; exact fun n h=>by cases h⟩ ?_ ?_
  ·refine aB (fun _=>0) ?_ ?_ rfl rfl <;> simp only[wx,aA,aK,aa,seval,iteOmega,toNatUp] <;> first | rfl | exact⟨rfl,rfl⟩ | skip
  ·rintro i ⟨hi,hp⟩;by_cases hlt:i<ns.length
   ·have g:=w9 hlt;have hm:ns.getD i []∈ns:=by rw[VS,VQ hlt]; exact Wq hlt
    have hs:=Aw hlt;generalize ns.getD i []=x at *
    by_cases h1:x.length=16
    ·have g1:((x.length:Int)=16)=True:=eq_true (by omega);have hn:∀ n∈ns.take (i+1),n.length=16:=by
       rw[hs];intro n q;rcases V8.1 q with q | q
       ·exact hp n q
       ·rw[VU.1 q]; exact h1
     simp only[mO,nL,af,aa,seval,iteOmega,toNatUp,aM,g,g1];refine aX (i+1) (by omega) ⟨by omega,hn⟩ (aB (fun i=>i) ?_ ?_ rfl rfl) <;> simp only[wx,aA,aK,aa,seval,iteOmega,toNatUp] <;> first | rfl | exact⟨rfl,rfl⟩ | skip
    ·have g1:((x.length:Int)=16)=False:=eq_false (by omega);rw[decide_eq_false (fun q:jA ns=>h1 (q.1 x hm))];simp only[mO,nL,af,aa,seval,iteOmega,toNatUp,aM,g,g1];exact aJ
   ·rw[VV (by omega)] at hp;by_cases h1:1≤ns.length
    ·have g1:((ns.length:Int)≥1)=True:=eq_true (by omega);by_cases h2:ns.length≤8
     ·have g2:((ns.length:Int)≤8)=True:=eq_true (by omega);rw[decide_eq_true (show jA ns from ⟨hp,h1,h2⟩)];simp only[mO,nL,af,aa,seval,iteOmega,toNatUp,g1,g2];exact aJ
     ·have g2:((ns.length:Int)≤8)=False:=eq_false (by omega);rw[decide_eq_false (fun q:jA ns=>h2 q.2.2)];simp only[mO,nL,af,aa,seval,iteOmega,toNatUp,g1,g2];exact aJ
    ·have g1:((ns.length:Int)≥1)=False:=eq_false (by omega);rw[decide_eq_false (fun q:jA ns=>h1 q.2.1)];simp only[mO,nL,af,aa,seval,iteOmega,toNatUp,g1];exact aJ
def lj (p:dP):List Ek:=(if p.ho.size=0 then [] else [⟨true,6,p.ho.data.toList⟩])++(if p.pt=0 then [] else [⟨true,7,aI [p.pt]⟩])
theorem yT (p:dP):lj p++[⟨true,0,[]⟩]=gq p:=by unfold lj gq; rw[Wp]
def pG:aF:=⟨1,26,.seq (.reg [oO 1 (.box .roBox (.t 0)),oO 2 (.mv (.k (.c .nil)))]) (.seq (.reg [oO 3 (.mv (.k (.c .nil)))]) (.seq (.seq (.reg [oO 4 (.fieldAddr 2 (.t 1)),oO 5 (.load .sc (.t 4)),oO 6 (.bin .neq (.t 5) (.k (.c (.d (.str ⟨#[]⟩)))))]) (.cond (.t 6) (.reg [oM 7 3,oO 8 (.fieldAddr 2 (.t 1)),oO 9 (.load .sc (.t 8)),oO 10 (.s2b false (.t 9)),oO 11 (.call 52 [(kI 6),(.t 10)] none),oO 12 (.bldSl false 1 3 (.agg [(.bool false),(.int .i64 0),(.sl [])]) [(0,(.t 11))]),oO 13 (.app false 3 40 (.t 7) (.t 12)),oM 3 13]) (.skip))) (.seq (.seq (.reg [oO 14 (.fieldAddr 3 (.t 1)),oO 15 (.load .sc (.t 14)),oO 16 (.bin .neq (.t 15) (kI 0))]) (.cond (.t 16) (.reg [oM 17 3,oO 18 (.fieldAddr 3 (.t 1)),oO 19 (.load .sc (.t 18)),oO 20 (.bldSl false 1 1 (.int .i64 0) [(0,(.t 19))]),oO 21 (.call 53 [(.t 20)] none),
 oO 22 (.call 52 [(kI 7),(.t 21)] none),oO 23 (.bldSl false 1 3 (.agg [(.bool false),(.int .i64 0),(.sl [])]) [(0,(.t 22))]),oO 24 (.app false 3 40 (.t 17) (.t 23)),oM 3 24]) (.skip))) (.seq (.reg [oM 25 3,oM 2 25]) (.ret))))),[(2,none)]⟩
theorem Up:aE Tryz.prog { own:=[],comp:=[],frz:=[],nils:=[] } Tryz.f72=some pG:=by kernel_rfl
theorem Vo (G:ai) (p:dP) (h:p.ho.size≤1000000) (hs:bH [p.pt]):au Tryz.prog G 72 [dZ p] (.w (.c (.d (.sl ((lj p).map aH))))):=by
  refine aG Tryz.func72 Up rfl rfl ?_;have c1:=im G 6 p.ho.data.toList;have c2:=lV G [p.pt] (by simp) hs;simp only[VX,Wl,zD] at c2;have c3:=im G 7 (aI [p.pt]);have sd:p.ho.size≤maxLen:=by unfold maxLen; omega
  unfold dZ lj;by_cases h1:p.ho.size=0
  ·have e1:=RE h1;rw[if_pos h1];by_cases h2:p.pt=0
   ·have g2:=eq_true h2;rw[if_pos h2];simp only[pG,ah,aH,af,aa,seval,iteOmega,toNatUp,e1,g2,sd];exact aJ
   ·have g2:=eq_false h2;rw[if_neg h2];simp only[pG,ah,aH,af,aa,seval,iteOmega,toNatUp,e1,g2,sd];refine sD (c2) ?_;refine sC (c3) ?_;simp only[bK,af,aa,seval,iteOmega,toNatUp];exact aJ
  ·have e1:=RF h1;rw[if_neg h1];by_cases h2:p.pt=0
   ·have g2:=eq_true h2;rw[if_pos h2];simp only[pG,ah,aH,af,aa,seval,iteOmega,toNatUp,e1,g2,sd];refine sC (c1) ?_;simp only[bK,g2,af,aa,seval,iteOmega,toNatUp];exact aJ
   ·have g2:=eq_false h2;rw[if_neg h2];simp only[pG,ah,aH,af,aa,seval,iteOmega,toNatUp,e1,g2,sd];refine sC (c1) ?_;simp only[bK,g2,af,aa,seval,iteOmega,toNatUp];refine sD (c2) ?_;refine sC (c3) ?_;simp only[bK,af,aa,seval,iteOmega,toNatUp];exact aJ
def yU (r:List Fd) (c:Ch) (v a:Int) (ns:List (List UInt8)) (i:Nat):St:=⟨aV [(6,.w (.c (.rp [.sl (r.map cw)]))),(13,.w (.c (.own 1 3 0 (fi r c v a ns i).length))),(14,.w (.c (.d (.int .i64 a)))),(15,.w (.c (.ptr 2 1 0 0))),(66,.w (.c (.d (cW ns)))),(67,.w (.c (.d (.int .i64 (ns.length:Int))))),(68,.w (.c (.d (.int .i64 (i:Int)))))],
  hL [(1,.row 3 ((fi r c v a ns i).map aH)),(2,.box [.d (.sl ((bu c v a 0).map bD)),.d (.sl ((bu c v a 1).map bD))])],uL [1,2]⟩
def wc:aN := .seq (.reg [oO 69 (.bin .lss (.t 68) (.t 67))]) (.seq (.cond (.t 69) (.skip) (.exit 0)) (.seq (.block 1 (.seq (.reg [oO 70 (.idxSl 1 (.t 66) (.t 68)),oO 71 (.load .sc (.t 70)),oM 18 71]) (.seq (.reg [oO 73 (.load (.ag 1) (.t 6)),oM 74 14,oO 75 (.load (.ag 2) (.t 15)),oM 76 18,oO 77 (.call 112 [(.t 73),(.t 74),(.t 75),(.t 76)] none),oM 72 77,oO 78 (.extract (.t 72) 0),oO 79 (.extract (.t 72) 1),oM 19 78,oM 20 79]) (.reg [oM 80 13,oM 81 19,oO 82 (.build [(.d (.bool false)),(.d (.int .i64 0)),.nil] [(1,1,(kI 5)),(2,1,(.t 81))]),oO 83 (.bldSl false 1 3 (.agg [(.bool false),(.int .i64 0),(.sl [])]) [(0,(.t 82))]),oO 84 (.app false 3 40 (.t 80) (.t 83)),oM 13 84])))) (.reg [oO 85 (.bin .add (.t 68) (kI 1)),oM 68 85])))
def sI:aF:=⟨5,87,.seq (.reg [oO 5 (.box .roBox (.t 0)),oO 6 (.box .roBox (.t 1)),oO 7 (.box .roBox (.t 2)),oO 10 (.mv (.k (.c .nil)))]) (.seq (.reg [oM 22 3,oO 23 (.call 111 [(.t 22),(kI 1)] none),oO 24 (.fieldAddr 0 (.t 5)),oO 25 (.load .sc (.t 24)),oO 26 (.call 18 [(.t 23),(.t 25)] none),oM 21 26,oO 27 (.extract (.t 21) 0),oO 28 (.extract (.t 21) 1),oM 11 27,oM 12 28]) (.seq (.seq (.reg [oM 29 12,oO 30 (.un .not (.t 29))]) (.cond (.t 30) (.seq (.reg [oO 31 (.call 52 [(kI 1),(.k (.c .nil))] none),oO 32 (.bldSl true 1 3 (.agg [(.bool false),(.int .i64 0),(.sl [])]) [(0,(.t 31))]),oM 10 32]) (.ret)) (.skip))) (.seq (.reg [oM 33 11,oO 34 (.bldSl false 1 1 (.int .i64 0) [(0,(.t 33))]),oO 35 (.call 53 [(.t 34)] none),oO 36 (.call 52 [(kI 1),(.t 35)] none),oO 37 (.bldSl true 1 3 (.agg [(.bool false),(.int .i64 0),(.sl [])]) [(0,(.t 36))]),
 oM 13 37]) (.seq (.reg [oM 39 3,oO 40 (.call 111 [(.t 39),(kI 4)] none),oO 41 (.fieldAddr 1 (.t 5)),oO 42 (.load .sc (.t 41)),oO 43 (.call 18 [(.t 40),(.t 42)] none),oM 38 43,oO 44 (.extract (.t 38) 0),oO 45 (.extract (.t 38) 1),oM 14 44,oM 12 45]) (.seq (.seq (.reg [oM 46 12,oO 47 (.un .not (.t 46))]) (.cond (.t 47) (.seq (.reg [oM 48 13,oO 49 (.call 52 [(kI 4),(.k (.c .nil))] none),oO 50 (.bldSl false 1 3 (.agg [(.bool false),(.int .i64 0),(.sl [])]) [(0,(.t 49))]),oO 51 (.app false 3 40 (.t 48) (.t 50)),oM 10 51]) (.ret)) (.skip))) (.seq (.reg [oM 52 13,oM 53 14,oO 54 (.bldSl false 1 1 (.int .i64 0) [(0,(.t 53))]),oO 55 (.call 53 [(.t 54)] none),oO 56 (.call 52 [(kI 4),(.t 55)] none),oO 57 (.bldSl false 1 3 (.agg [(.bool false),(.int .i64 0),(.sl [])]) [(0,(.t 56))]),oO 58 (.app false 3 40 (.t 52) (.t 57)),
 oM 13 58]) (.seq (.reg [oO 60 (.load (.ag 6) (.t 7)),oM 61 11,oM 62 14,oO 63 (.call 26 [(.t 60),(.t 61),(.t 62)] none),oM 59 63,oO 64 (.extract (.t 59) 0),oO 65 (.extract (.t 59) 1),oO 15 (.alloc [.nil,.nil]),oN (.store (.ag 2) (.t 15) (.t 64)),oM 16 65]) (.seq (.seq (.reg [oM 66 4,oO 67 (.len (.t 66)),oO 68 (.mv (kI 0))]) (.block 0 (.loop wc))) (.seq (.reg [oM 86 13,oM 10 86]) (.ret)))))))))),[(10,none)]⟩
theorem Uq:aE Tryz.prog { own:=[32,37],comp:=[],frz:=[],nils:=[] } Tryz.f71=some sI:=by kernel_rfl
theorem Vp (G:ai) (hF:G.at 0=some (.ra (cX.map wD))) (hG:G.at 1=some (.ra (bB.map wD))) (p:dP) (r:List Fd) (c:Ch) (l:List Ek) (ns:List (List UInt8)) (h1:p.pr.length≤1000000) (h2:p.al.length≤1000000) (hr:r.length≤1000000) (hb:∀ r∈l,r.bo.length≤65535) (hn:ns.length≤8)
    (vC:dv c) (s1:bH p.pr) (s2:bH p.al):au Tryz.prog G 71 [dZ p,bM r,bp c,cg l,cW ns] (.w (.c (.fr 3 ((ew p r c (bg l 1) (bg l 4) ns).map aH)))):=by
  refine aG Tryz.func71 Uq rfl rfl ?_;have d1:=nJ G l 1 fun r hr=>by have:=hb r hr; omega
  have d4:=nJ G l 4 fun r hr=>by have:=hb r hr; omega
  have n1:(bg l 1).length≤65535:=Wz (pF _) (mV hb 1);have n4:(bg l 4).length≤65535:=Wz (pF _) (mV hb 4);have c1:=Ko G (bg l 1) p.pr (by omega) h1;have c4:=Ko G (bg l 4) p.al (by omega) h2;have k1:=im G 1 [];have k4:=im G 4 [];simp only[Wl] at k1 k4
  have hA:ew p r c (bg l 1) (bg l 4) ns=match dO (bg l 1) p.pr with
    | none=>[⟨true,1,[]⟩]
    | some v=>⟨true,1,aI [v]⟩::match dO (bg l 4) p.al with
      | none=>[⟨true,4,[]⟩]
      | some a=>⟨true,4,aI [a]⟩::ft r c v a ns:=rfl
  have i1:∀ v,dO (bg l 1) p.pr=some v→0≤v∧v≤65535:=fun v h=>s1 v (kL h).2
  have i4:∀ v,dO (bg l 4) p.al=some v→0≤v∧v≤65535:=fun v h=>s2 v (kL h).2
  generalize bg l 1=N1 at *
  generalize bg l 4=N4 at *
  rw[hA];clear hA;unfold dZ bM cg at *
  generalize cG l=E at *
  rcases hv:dO N1 p.pr with _ | v
  ·rw[hv] at c1;simp only[Xa,Xv] at c1;unfold bp;simp only[sI,ah,aH,af,aa,seval,iteOmega,toNatUp];refine sD (d1) ?_;refine sD (c1) ?_;refine sD (k1) ?_;exact eT
  ·rw[hv] at c1;simp only[WQ,Xl] at c1;have j1:=i1 v hv;have b1:=lV G [v] (by simp) (fun n hn=>by rw[VU.1 hn]; exact j1);simp only[VX,Wl,zD] at b1;have q1:=im G 1 (aI [v]);rcases ha:dO N4 p.al with _ | a
   ·rw[ha] at c4;simp only[Xa,Xv] at c4;dsimp only;generalize aI [v]=B1 at *
    unfold bp;simp only[sI,ah,aH,af,aa,seval,iteOmega,toNatUp];refine sD (d1) ?_;refine sD (c1) ?_;refine sD (b1) ?_;refine sD (q1) ?_;refine sD (d4) ?_;refine sD (c4) ?_;refine sC (k4) ?_;simp only[bK,af,aa,seval,iteOmega,toNatUp];exact eT
   ·rw[ha] at c4;simp only[WQ,Xl] at c4;have j4:=i4 a ha;have b4:=lV G [a] (by simp) (fun n hn=>by rw[VU.1 hn]; exact j4);simp only[VX,Wl,zD] at b4;have q4:=im G 4 (aI [a]);have kz:=Kq G hF hG c v a;rw[nK vC j1 j4] at kz;have cm:=fun n:List UInt8=>Um G r a (bu c v a 0) (bu c v a 1) n (by omega)
    have y0:fi r c v a ns 0=[⟨true,1,aI [v]⟩,⟨true,4,aI [a]⟩]:=rfl;have ye:(⟨true,1,aI [v]⟩::⟨true,4,aI [a]⟩::ft r c v a ns:List Ek)=fi r c v a ns ns.length:=by unfold fi; rw[WP]
    dsimp only;rw[ye];clear ye;unfold bp gL bM at *
    simp only[sI,ah,aH,af,aa,seval,iteOmega,toNatUp];refine sD (d1) ?_;refine sD (c1) ?_;refine sD (b1) ?_;refine sD (q1) ?_;refine sD (d4) ?_;refine sD (c4) ?_;refine sD (b4) ?_;refine sC (q4) ?_;simp only[bK,af,aa,seval,iteOmega,toNatUp];refine sD (kz) ?_;refine bd (yU r c v a ns) (fun i=>ns.length-i) (fun i=>i≤ns.length) 0 (VY _) ?_ ?_
    ·refine aB (fun i=>if i=1 then 464 else 120) ?_ ?_ rfl rfl <;> simp only[y0,aH,wx,aA,aK,aa,seval,iteOmega,toNatUp] <;> first | rfl | exact⟨rfl,rfl⟩ | skip
    ·intro i hi;have az:=lw (fi r c v a ns i);have yl:=xa r c v a ns i;by_cases hlt:i<ns.length
     ·have g:=w9 hlt;have cm:=cm (ns.getD i []);have hs:=Pu (r:=r) (c:=c) (v:=v) (a:=a) hlt;generalize ns.getD i []=x at *
      generalize hR:fi r c v a ns i=Rw at *
      generalize iz r a (bu c v a 0) (bu c v a 1) x=e at *
      simp only[wc,yU,hR,af,aa,seval,iteOmega,toNatUp,aM,g];refine sC (cm) ?_;simp only[bK,az,af,aa,seval,iteOmega,toNatUp];refine aX (i+1) (by omega) (by omega) (aB (fun i=>if i=1 then 672 else 2) ?_ ?_ rfl rfl) <;> simp only[hs,Wu,aH,wx,aA,aK,aa,seval,iteOmega,toNatUp] <;> first | rfl | exact⟨rfl,rfl⟩ | skip
     ·obtain rfl:i=ns.length:=by omega
      simp only[wc,yU,af,aa,seval,iteOmega,toNatUp];exact eT
theorem RJ {b:List UInt8} (hF:dV b):iB b↔mn (aD b)=true:=by
  unfold iB mn;rw[bJ,bJ,bJ,bJ,bJ];simp only[Wh,XN,decide_eq_true_eq,decide_eq_false_iff_not];constructor
  ·rintro⟨_,h1,h2,h3⟩;omega
  ·rintro⟨h1,h2,h3,h4,h5⟩;exact⟨hF,by omega,by omega,by omega⟩
theorem yV {l:List Ek} {k:Int} (h:0<(am l k).length):eb l k=bg l k:=by
  unfold eb bg di;rw[kG (by rw[bJ]; exact h)]
theorem Ur {l:List Ek} (h:mn l=true):0<(am l 1).length∧0<(am l 4).length:=by
  unfold mn at h;simp only[Wh,decide_eq_true_eq] at h;exact⟨h.1,h.2.1⟩
theorem yd (ns:List (List UInt8)) (ho:ByteArray):jy ns ho↔jA ns∧ho.size≤255:=⟨fun ⟨a,b,c,d⟩=>⟨⟨d,a,b⟩,c⟩,fun ⟨⟨d,a,b⟩,c⟩=>⟨a,b,c,d⟩⟩
theorem Us {p:dP} {r:List Fd} {c:Ch} {x y:List Int} {ns:List (List UInt8)} (vC:dv c) (vR:cQ r) (s1:bH p.pr) (s2:bH p.al) (hn:jA ns):(∀ e∈ew p r c x y ns,0≤e.ty∧e.ty≤7∧e.bo.length≤255)∧(ew p r c x y ns).length≤10:=by
  have l2:∀ v:Int,(aI [v]).length≤255:=fun v=>by rw[eW]; exact (show 2*1≤255 by decide)
  have nl:=hn.2.2;unfold ew;rcases hv:dO x p.pr with _ | v
  ·refine⟨fun e he=>?_,by simp⟩;rw[VU.1 he];exact dR (by decide) (by decide)
  ·have j1:=s1 v (kL hv).2;rcases ha:dO y p.al with _ | a
   ·refine⟨fun e he=>?_,by simp⟩;simp only[V6,XT,or_false] at he;rcases he with rfl | rfl
    ·exact dR (by decide) (l2 v)
    ·exact dR (by decide) (by decide)
   ·have j4:=s2 a (kL ha).2;have e:(⟨true,1,aI [v]⟩::⟨true,4,aI [a]⟩::ft r c v a ns:List Ek)=fi r c v a ns ns.length:=by unfold fi; rw[WP]
    dsimp only;rw[e];have yl:=xa r c v a ns ns.length;exact⟨JC vR (nK vC j1 j4) j4 hn.1,by omega⟩
def ii:aF:=⟨5,91,.seq (.reg [oO 5 (.box .roBox (.t 0)),oO 6 (.box .roBox (.t 1)),oO 7 (.box .roBox (.t 2)),oO 10 (.mv (.k (.c .nil))),oO 11 (.mv (kI 0))]) (.seq (.seq (.reg [oO 15 (.load (.ag 6) (.t 7)),oO 16 (.call 62 [(.t 15)] none),oO 17 (.un .not (.t 16)),oM 18 17,oG 19 (.load (.ag 1) (.t 6)) 18 false,oG 20 (.call 65 [(.t 19)] none) 18 false,oG 21 (.un .not (.t 20)) 18 false,oO 22 (.pick (.t 18) (.k (.c (.d (.bool true)))) (.t 21))]) (.cond (.t 22) (.seq (.reg [oO 10 (.mv (.k (.c .nil))),oO 11 (.mv (kI 3))]) (.ret)) (.skip))) (.seq (.seq (.reg [oO 23 (.fieldAddr 0 (.t 5)),oO 24 (.load .sc (.t 23)),oO 25 (.call 50 [(.t 24)] none),oO 26 (.un .not (.t 25)),oM 27 26,oG 28 (.fieldAddr 1 (.t 5)) 27 false,oG 29 (.load .sc (.t 28)) 27 false,oG 30 (.call 50 [(.t 29)] none) 27 false,oG 31 (.un .not (.t 30)) 27 false,
 oO 32 (.pick (.t 27) (.k (.c (.d (.bool true)))) (.t 31)),oM 33 32,oG 34 (.fieldAddr 3 (.t 5)) 33 false,oG 35 (.load .sc (.t 34)) 33 false,oG 36 (.bldSl false 1 1 (.int .i64 0) [(0,(.t 35))]) 33 false,oG 37 (.call 50 [(.t 36)] none) 33 false,oG 38 (.un .not (.t 37)) 33 false,oO 39 (.pick (.t 33) (.k (.c (.d (.bool true)))) (.t 38))]) (.cond (.t 39) (.seq (.reg [oO 10 (.mv (.k (.c .nil))),oO 11 (.mv (kI 4))]) (.ret)) (.skip))) (.seq (.reg [oM 41 3,oO 42 (.call 66 [(.t 41)] none),oM 40 42,oO 43 (.extract (.t 40) 0),oO 44 (.extract (.t 40) 1),oM 12 43,oM 13 44]) (.seq (.block 0 (.seq (.reg [oM 46 13,oO 47 (.un .not (.t 46)),oM 48 47,oG 49 (.mv (.t 12)) 48 false,oG 50 (.call 67 [(.t 49)] none) 48 false,oG 51 (.un .not (.t 50)) 48 false,oO 52 (.pick (.t 48) (.k (.c (.d (.bool true)))) (.t 51)),
 oM 45 52]) (.cond (.t 45) (.seq (.reg [oO 53 (.call 68 [(kI 1)] none),oO 54 (.extract (.t 53) 0),oO 55 (.extract (.t 53) 1),oM 10 54,oM 11 55]) (.ret)) (.seq (.reg [oM 57 12,oO 58 (.call 69 [(.t 57)] none),oM 56 58]) (.cond (.t 56) (.seq (.reg [oO 59 (.call 68 [(kI 0)] none),oO 60 (.extract (.t 59) 0),oO 61 (.extract (.t 59) 1),oM 10 60,oM 11 61]) (.ret)) (.seq (.reg [oM 63 4,oO 64 (.call 70 [(.t 63)] none),oO 65 (.un .not (.t 64)),oM 66 65,oG 67 (.fieldAddr 2 (.t 5)) 66 false,oG 68 (.load .sc (.t 67)) 66 false,oG 69 (.lenStr (.t 68)) 66 false,oG 70 (.bin .gtr (.t 69) (kI 255)) 66 false,oO 71 (.pick (.t 66) (.k (.c (.d (.bool true)))) (.t 70)),oM 62 71]) (.cond (.t 62) (.seq (.reg [oO 72 (.call 68 [(kI 2)] none),oO 73 (.extract (.t 72) 0),oO 74 (.extract (.t 72) 1),oM 10 73,oM 11 74]) (.ret))
 (.skip)))))))) (.seq (.reg [oO 75 (.load (.ag 4) (.t 5)),oO 76 (.load (.ag 1) (.t 6)),oO 77 (.load (.ag 6) (.t 7)),oM 78 12,oM 79 4,oO 80 (.call 71 [(.t 75),(.t 76),(.t 77),(.t 78),(.t 79)] (some (0,3))),oO 81 (.load (.ag 4) (.t 5)),oO 82 (.call 72 [(.t 81)] none),oO 83 (.app false 3 40 (.t 80) (.t 82)),oM 14 83]) (.seq (.reg [oM 84 14,oO 85 (.call 52 [(kI 0),(.k (.c .nil))] none),oO 86 (.bldSl false 1 3 (.agg [(.bool false),(.int .i64 0),(.sl [])]) [(0,(.t 85))]),oO 87 (.app false 3 40 (.t 84) (.t 86)),oO 88 (.call 10 [(.t 87)] none),oO 89 (.extract (.t 88) 0),oO 90 (.extract (.t 88) 1),oM 10 89,oM 11 90]) (.ret))))))),[(10,none),(11,none)]⟩
theorem Ut:aE Tryz.prog { own:=[80],comp:=[],frz:=[],nils:=[] } Tryz.f28=some ii:=by kernel_rfl
theorem Ku (G:ai) (hF:G.at 0=some (.ra (cX.map wD))) (hG:G.at 1=some (.ra (bB.map wD))) (p:dP) (r:List Fd) (c:Ch) (b:List UInt8) (ns:List (List UInt8)) (h1:p.pr.length≤1000000) (h2:p.al.length≤1000000) (h3:p.ho.size≤1000000) (hr:r.length≤1000000) (hb:b.length≤1000000000) (hn:ns.length≤1000000) (hm:∀ n∈ns,n.length≤1000000):au Tryz.prog G 28 [dZ p,bM r,bp c,.sl (b.map bD),.sl (ns.map fun l=>D.sl (l.map bD))] (.tup [.c (.d (.sl ((dD p r c b ns).map bD))),.c (.d (.int .i64 (eH p r c)))]):=by
  refine aG Tryz.func28 Ut rfl rfl ?_;have c1:=ti G hF hG c;have c2:=JD G r (by omega);have hno:∀ e,eH p r c=e→e≠0→dD p r c b ns=[]:=fun e q1 q2=>if_pos (by rw[q1]; exact q2)
  by_cases vC:dv c
  case neg =>
    rw[decide_eq_false vC] at c1;have E:eH p r c=3:=by unfold eH; rw[if_pos fun h=>vC h.1]
    rw[hno 3 E (by decide),E];unfold dZ bM bp at *
    simp only[ii,ah,af,aa,seval,iteOmega,toNatUp];refine sD (c1) ?_;exact aW
  rw[decide_eq_true vC] at c1;by_cases vR:cQ r
  case neg =>
    rw[decide_eq_false vR] at c2;have E:eH p r c=3:=by unfold eH; rw[if_pos fun h=>vR h.2]
    rw[hno 3 E (by decide),E];unfold dZ bM bp at *
    simp only[ii,ah,af,aa,seval,iteOmega,toNatUp];refine sD (c1) ?_;refine sD (c2) ?_;exact aW
  rw[decide_eq_true vR] at c2;have c3:=nH G p.pr (by omega);have c4:=nH G p.al (by omega);have c5:=nH G [p.pt] (by simp);simp only[VX,Wl,zD] at c5;by_cases s1:bH p.pr
  case neg =>
    rw[decide_eq_false s1] at c3;have E:eH p r c=4:=by unfold eH; rw[if_neg (not_not_intro ⟨vC,vR⟩),if_pos fun h=>s1 h.1]
    rw[hno 4 E (by decide),E];unfold dZ bM bp at *
    simp only[ii,ah,af,aa,seval,iteOmega,toNatUp];refine sD (c1) ?_;refine sD (c2) ?_;refine sD (c3) ?_;exact aW
  rw[decide_eq_true s1] at c3;by_cases s2:bH p.al
  case neg =>
    rw[decide_eq_false s2] at c4;have E:eH p r c=4:=by unfold eH; rw[if_neg (not_not_intro ⟨vC,vR⟩),if_pos fun h=>s2 h.2.1]
    rw[hno 4 E (by decide),E];unfold dZ bM bp at *
    simp only[ii,ah,af,aa,seval,iteOmega,toNatUp];refine sD (c1) ?_;refine sD (c2) ?_;refine sD (c3) ?_;refine sD (c4) ?_;exact aW
  rw[decide_eq_true s2] at c4;by_cases s3:bH [p.pt]
  case neg =>
    rw[decide_eq_false s3] at c5;have E:eH p r c=4:=by unfold eH; rw[if_neg (not_not_intro ⟨vC,vR⟩),if_pos fun h=>s3 h.2.2]
    rw[hno 4 E (by decide),E];unfold dZ bM bp at *
    simp only[ii,ah,af,aa,seval,iteOmega,toNatUp];refine sD (c1) ?_;refine sD (c2) ?_;refine sD (c3) ?_;refine sD (c4) ?_;refine sD (c5) ?_;exact aW
  rw[decide_eq_true s3] at c5;have E:eH p r c=0:=by unfold eH; rw[if_neg (not_not_intro ⟨vC,vR⟩),if_neg (not_not_intro ⟨s1,s2,s3⟩)]
  have B0:dD p r c b ns=if ¬ iB b then cC 1 else if fq (aD b)=true then cC 0 else if ¬ jy ns p.ho then cC 2 else aO (ew p r c (eb (aD b) 1) (eb (aD b) 4) ns++gq p):=if_neg (not_not_intro E)
  rw[E];clear hno E;have c6:=yQ G b hb;have r1:=yS G 1 (by decide);have r0:=yS G 0 (by decide);have r2:=yS G 2 (by decide);by_cases hFm:dV b
  case neg =>
    rw[decide_eq_false hFm,show gZ b=[] from if_neg hFm] at c6;rw[B0,if_pos fun q=>hFm q.1];generalize cC 1=R at *
    generalize cg []=M at *
    clear B0 r0 r2;unfold dZ bM bp at *
    simp only[ii,ah,af,aa,seval,iteOmega,toNatUp];refine sD (c1) ?_;refine sD (c2) ?_;refine sD (c3) ?_;refine sD (c4) ?_;refine sD (c5) ?_;refine sD (c6) ?_;refine sD (r1) ?_;exact aW
  rw[decide_eq_true hFm,show gZ b=aD b from if_pos hFm] at c6;obtain⟨hbo,hl⟩:=sH (b:=b);have hQ:=RJ hFm;generalize aD b=L at *
  have c7:=Vk G L;rcases hq:mn L with _ | _
  ·rw[hq] at c7;rw[B0,if_pos fun q=>by rw[hQ.1 q] at hq; cases hq];generalize cC 1=R at *
   clear B0 r0 r2;unfold dZ bM bp cg at *
   generalize cG L=M at *
   simp only[ii,ah,af,aa,seval,iteOmega,toNatUp];refine sD (c1) ?_;refine sD (c2) ?_;refine sD (c3) ?_;refine sD (c4) ?_;refine sD (c5) ?_;refine sD (c6) ?_;refine sD (c7) ?_;refine sD (r1) ?_;exact aW
  obtain⟨a1,a4⟩:=Ur hq;rw[hq] at c7;rw[if_neg (not_not_intro (hQ.2 hq)),yV a1,yV a4] at B0;have c8:=Ks G L (by omega);rcases hS:fq L with _ | _
  case true =>
    rw[hS] at c8;rw[B0,if_pos hS];generalize cC 0=R at *
    clear B0 r1 r2;unfold dZ bM bp cg at *
    generalize cG L=M at *
    simp only[ii,ah,af,aa,seval,iteOmega,toNatUp];refine sD (c1) ?_;refine sD (c2) ?_;refine sD (c3) ?_;refine sD (c4) ?_;refine sD (c5) ?_;refine sD (c6) ?_;refine sD (c7) ?_;refine sD (c8) ?_;refine sD (r0) ?_;exact aW
  rw[hS] at c8;rw[if_neg (by rw[hS]; decide)] at B0;have c9:=Vn G ns hn;by_cases hN:jA ns
  case neg =>
    rw[decide_eq_false hN] at c9;rw[B0,if_pos fun q=>hN ((yd _ _).1 q).1];generalize cC 2=R at *
    clear B0 r0 r1;unfold dZ bM bp cg at *
    generalize cG L=M at *
    simp only[ii,ah,af,aa,seval,iteOmega,toNatUp];refine sD (c1) ?_;refine sD (c2) ?_;refine sD (c3) ?_;refine sD (c4) ?_;refine sD (c5) ?_;refine sD (c6) ?_;refine sD (c7) ?_;refine sD (c8) ?_;refine sD (c9) ?_;refine sD (r2) ?_;exact aW
  rw[decide_eq_true hN] at c9;by_cases hH:p.ho.size≤255
  case neg =>
    have gH:((p.ho.size:Int)>255)=True:=eq_true (by omega);rw[B0,if_pos fun q=>hH ((yd _ _).1 q).2];generalize cC 2=R at *
    clear B0 r0 r1;unfold dZ bM bp cg at *
    generalize cG L=M at *
    simp only[ii,ah,af,aa,seval,iteOmega,toNatUp];refine sD (c1) ?_;refine sD (c2) ?_;refine sD (c3) ?_;refine sD (c4) ?_;refine sD (c5) ?_;refine sD (c6) ?_;refine sD (c7) ?_;refine sD (c8) ?_;refine sC (c9) ?_;simp only[gH,af,aa,seval,iteOmega,toNatUp];refine sD (r2) ?_;exact aW
  have gH:((p.ho.size:Int)>255)=False:=eq_false (by omega);rw[if_neg (not_not_intro ((yd _ _).2 ⟨hN,hH⟩))] at B0;have ca:=Vp G hF hG p r c L ns h1 h2 hr hbo hN.2.2 vC s1 s2;have cp:=Vo G p h3 s3;have ce:=im G 0 [];obtain⟨ok,ol⟩:=Us (x:=bg L 1) (y:=bg L 4) vC vR s1 s2 hN;obtain⟨q1,q2⟩:=Vm hH ok ol;have hl3:=xe p;have cn:=Kk G (ew p r c (bg L 1) (bg L 4) ns++gq p) (by rw[VR]; omega) (fun e he=>by
    have:e.bo.length≤255:=((V8.1 he).elim (ok e) (yc hH e)).2.2;omega)
  rw[q1,q2,← yT] at cn;rw[B0,← yT];have ap:=lw (lj p);have aq:=lw (ew p r c (bg L 1) (bg L 4) ns);have pl:(lj p).length≤3:=by have:=congrArg List.length (yT p); rw[VR] at this; omega
  clear B0 r0 r1 r2 ok q1 q2;generalize aO (ew p r c (bg L 1) (bg L 4) ns++(lj p++[⟨true,0,[]⟩]))=R at *
  generalize ew p r c (bg L 1) (bg L 4) ns=X at *
  generalize lj p=Y at *
  simp only[Wu,VX,Wl,aH] at cn ce;unfold dZ bM bp cg cW at *
  generalize cG L=M at *
  have tk:∀ a:D,((X++Y).map aH++[a]).take (X.length+Y.length+1)=X.map aH++(Y.map aH++[a]):=fun a=>by rw[VV (by simp; omega),Wu,Wp]
  simp only[ii,ah,af,aa,seval,iteOmega,toNatUp];refine sD (c1) ?_;refine sD (c2) ?_;refine sD (c3) ?_;refine sD (c4) ?_;refine sD (c5) ?_;refine sD (c6) ?_;refine sD (c7) ?_;refine sD (c8) ?_;refine sC (c9) ?_;simp only[gH,af,aa,seval,iteOmega,toNatUp];refine sD (ca) ?_;refine sC (cp) ?_;simp only[bK,ap,af,aa,seval,iteOmega,toNatUp];refine sC (ce) ?_;simp only[bK,af,aa,seval,iteOmega,toNatUp];refine bh cn (by simp only[af,aa,seval,iteOmega,toNatUp,tk] <;> rfl) (.inr (yu _ _ _ _)) ?_;simp only[af,aa,seval,iteOmega,toNatUp];exact aW
def jB (l:List Ek):Int:=if 8<(am l 5).length then 8 else if ¬ ∀ x∈i9 l,x.length=104 then 3 else 0
def qk (l:List Ek):List (List UInt8):=if jB l=0 then i9 l else []
def gm (x:List Ek):List (List UInt8):=x.map (·.bo)
def tx (x:List Ek) (i:Nat):St:=⟨aV [(4,.w (.c (.own 1 1 0 (gm (x.take i)).length))),(12,.w (.c (.d (.sl (x.map aH))))),(13,.w (.c (.d (.int .i64 (x.length:Int))))),(14,.w (.c (.d (.int .i64 (i:Int)))))],hL [(1,.row 1 ((gm (x.take i)).map fun l=>D.sl (l.map bD)))],uL [1]⟩
theorem Nz (l:List (List UInt8)):dp 1 (l.map fun l=>D.sl (l.map bD))=true:=oK _ (fun _=>rfl) l
def ru:aN := .seq (.reg [oO 15 (.bin .lss (.t 14) (.t 13))]) (.seq (.cond (.t 15) (.skip) (.exit 0)) (.seq (.block 1 (.seq (.reg [oO 16 (.idxSl 3 (.t 12) (.t 14)),oO 17 (.load (.ag 3) (.t 16)),oO 6 (.alloc [(.d (.bool false)),(.d (.int .i64 0)),.nil]),oN (.store (.ag 3) (.t 6) (.t 17))]) (.seq (.seq (.reg [oO 18 (.fieldAddr 2 (.t 6)),oO 19 (.load .sc (.t 18)),oO 20 (.len (.t 19)),oO 21 (.bin .neq (.t 20) (kI 104))]) (.cond (.t 21) (.seq (.reg [oO 2 (.mv (.k (.c .nil))),oO 3 (.mv (kI 3))]) (.ret)) (.skip))) (.reg [oM 22 4,oO 23 (.fieldAddr 2 (.t 6)),oO 24 (.load .sc (.t 23)),oO 25 (.bldSl false 1 1 (.sl []) [(0,(.t 24))]),oO 26 (.app false 1 24 (.t 22) (.t 25)),oM 4 26])))) (.reg [oO 27 (.bin .add (.t 14) (kI 1)),oM 14 27])))
def yf:aF:=⟨1,29,.seq (.reg [oO 2 (.mv (.k (.c .nil))),oO 3 (.mv (kI 0))]) (.seq (.seq (.reg [oM 7 0,oO 8 (.mpGet .i64 (.sl []) false (.t 7) (kI 5)),oO 9 (.len (.t 8)),oO 10 (.bin .gtr (.t 9) (kI 8))]) (.cond (.t 10) (.seq (.reg [oO 2 (.mv (.k (.c .nil))),oO 3 (.mv (kI 8))]) (.ret)) (.skip))) (.seq (.reg [oO 4 (.nilOwn 1)]) (.seq (.seq (.reg [oM 11 0,oO 12 (.mpGet .i64 (.sl []) false (.t 11) (kI 5)),oO 13 (.len (.t 12)),oO 14 (.mv (kI 0))]) (.block 0 (.loop ru))) (.seq (.reg [oM 28 4,oM 2 28,oO 3 (.mv (kI 0))]) (.ret))))),[(2,none),(3,none)]⟩
theorem Uu:aE Tryz.prog { own:=[4],comp:=[],frz:=[],nils:=[] } Tryz.f115=some yf:=by kernel_rfl
theorem Vq (G:ai) (l:List Ek) (hl:l.length≤1000000):au Tryz.prog G 115 [cg l] (.tup [.c (.d (cW (qk l))),.c (.d (.int .i64 (jB l)))]):=by
  refine aG Tryz.func115 Uu rfl rfl ?_;have hk:=xY l 5;have hE:jB l=if 8<(am l 5).length then 8 else if ¬ ∀ x∈gm (am l 5),x.length=104 then 3 else 0:=rfl
  have hR:qk l=if jB l=0 then gm (am l 5) else []:=rfl
  generalize jB l=e at *
  generalize qk l=R at *
  unfold cg;generalize cG l=E at *
  generalize am l 5=x at *
  by_cases h8:8<x.length
  ·rw[if_pos h8] at hE;subst hE;rw[if_neg (by decide)] at hR;subst hR;have g1:((x.length:Int)>8)=True:=eq_true (by omega);simp only[yf,ah,cW,af,aa,seval,iteOmega,toNatUp,cS,hk,g1];exact aW
  ·rw[if_neg h8] at hE;have g1:((x.length:Int)>8)=False:=eq_false (by omega);simp only[yf,ah,cW,af,aa,seval,iteOmega,toNatUp,cS,hk,g1];refine bd (tx x) (fun i=>x.length-i) (fun i=>i≤x.length∧∀ b∈gm (x.take i),b.length=104) 0 ⟨VY _,by rw[WU]; exact fun n h=>by cases h⟩ ?_ ?_
   ·refine aB (fun _=>32) ?_ ?_ rfl rfl <;> simp only[wx,aA,aK,aa,seval,iteOmega,toNatUp] <;> first | rfl | exact⟨rfl,rfl⟩ | skip
   ·rintro i ⟨hi,hp⟩;have az:=Nz (gm (x.take i));have bl:(gm (x.take i)).length=i:=by unfold gm; rw[VZ,VW]; omega
    by_cases hlt:i<x.length
    ·have g:=jq hlt;have hm:(x.getD i default).bo∈gm x:=Wm.2 ⟨_,iH hlt,rfl⟩;have hs:gm (x.take (i+1))=gm (x.take i)++[(x.getD i default).bo]:=by unfold gm; rw[my hlt,Wu]; rfl
     generalize x.getD i default=r at *
     obtain⟨rc,rt,rb⟩:=r;dsimp only at *
     by_cases h1:rb.length=104
     ·have g2:((rb.length:Int)=104)=True:=eq_true (by omega);have hn:∀ b∈gm (x.take (i+1)),b.length=104:=by
        rw[hs];intro n q;rcases V8.1 q with q | q
        ·exact hp n q
        ·rw[VU.1 q]; exact h1
      generalize hB:gm (x.take i)=B at *
      simp only[ru,tx,cW,hB,af,aa,seval,iteOmega,toNatUp,aM,g,aH,g2,bK];refine aX (i+1) (by omega) ⟨by omega,hn⟩ (aB (fun _=>208) ?_ ?_ rfl rfl) <;> simp only[hs,Wu,wx,aA,aK,aa,seval,iteOmega,toNatUp] <;> first | rfl | exact⟨rfl,rfl⟩ | skip
     ·rw[if_pos fun q=>h1 (q rb hm)] at hE;subst hE;rw[if_neg (by decide)] at hR;subst hR;have g2:((rb.length:Int)=104)=False:=eq_false (by omega);generalize hB:gm (x.take i)=B at *
      simp only[ru,tx,cW,hB,af,aa,seval,iteOmega,toNatUp,aM,g,aH,g2];exact aW
    ·obtain rfl:i=x.length:=by omega
     rw[WP] at hp az bl;rw[if_neg (not_not_intro hp)] at hE;subst hE;rw[if_pos rfl] at hR;subst hR;simp only[ru,tx,cW,WP,af,aa,seval,iteOmega,toNatUp];exact aW
def dj (lo lm:List Ek) (k:Int):Option Int:=if (bg lm k).length=1∧(bg lm k).getD 0 0∈bg lo k then some ((bg lm k).getD 0 0) else none
def sJ:aF:=⟨3,28,.seq (.reg [oO 6 (.mv (kI 0)),oO 7 (.mv (.k (.c (.d (.bool false)))))]) (.seq (.reg [oM 9 1,oM 10 2,oO 11 (.call 111 [(.t 9),(.t 10)] none),oM 8 11]) (.seq (.seq (.reg [oM 12 8,oO 13 (.len (.t 12)),oO 14 (.bin .neq (.t 13) (kI 1)),oM 15 14,oG 16 (.mv (.t 0)) 15 false,oG 17 (.mv (.t 2)) 15 false,oG 18 (.call 111 [(.t 16),(.t 17)] none) 15 false,oG 19 (.mv (.t 8)) 15 false,oG 20 (.idxSl 1 (.t 19) (kI 0)) 15 false,oG 21 (.load .sc (.t 20)) 15 false,oG 22 (.call 56 [(.t 18),(.t 21)] none) 15 false,oG 23 (.un .not (.t 22)) 15 false,oO 24 (.pick (.t 15) (.k (.c (.d (.bool true)))) (.t 23))]) (.cond (.t 24) (.seq (.reg [oO 6 (.mv (kI 0)),oO 7 (.mv (.k (.c (.d (.bool false)))))]) (.ret)) (.skip))) (.seq (.reg [oM 25 8,oO 26 (.idxSl 1 (.t 25) (kI 0)),oO 27 (.load .sc (.t 26)),
 oM 6 27,oO 7 (.mv (.k (.c (.d (.bool true)))))]) (.ret)))),[(6,none),(7,none)]⟩
theorem Uv:aE Tryz.prog { own:=[],comp:=[],frz:=[],nils:=[] } Tryz.f114=some sJ:=by kernel_rfl
theorem Kv (G:ai) (lo lm:List Ek) (k:Int) (ho:∀ r∈lo,r.bo.length≤65535) (hm:∀ r∈lm,r.bo.length≤65535):au Tryz.prog G 114 [cg lo,cg lm,.int .i64 k] (.tup [.c (.d (.int .i64 ((dj lo lm k).getD 0))),.c (.d (.bool (dj lo lm k).isSome))]):=by
  refine aG Tryz.func114 Uv rfl rfl ?_;have c1:=nJ G lm k fun r hr=>by have:=hm r hr; omega
  have c2:=nJ G lo k fun r hr=>by have:=ho r hr; omega
  have n2:(bg lo k).length≤65535:=Wz (pF _) (mV ho k);have c3:=Kn G (bg lo k) ((bg lm k).getD 0 0) (by omega);have hT:dj lo lm k=if (bg lm k).length=1∧(bg lm k).getD 0 0∈bg lo k then some ((bg lm k).getD 0 0) else none:=rfl
  unfold cg at *
  generalize dj lo lm k=T at *
  generalize bg lo k=O at *
  generalize hN:bg lm k=N at *
  generalize cG lo=E1 at *
  generalize cG lm=E2 at *
  by_cases h1:N.length=1
  ·have g1:((N.length:Int)=1)=True:=eq_true (by omega);have g:=nZ (l:=N) (i:=0) (by omega);generalize N.getD 0 0=v at *
   by_cases h2:v∈O
   ·rw[if_pos ⟨h1,h2⟩] at hT;rw[decide_eq_true h2] at c3;subst hT;rw[WQ,Xl];simp only[sJ,ah,af,aa,seval,iteOmega,toNatUp];refine sC (c1) ?_;simp only[g1,af,aa,seval,iteOmega,toNatUp];refine sC (c2) ?_;simp only[aM,g,zD,af,aa,seval,iteOmega,toNatUp];refine sC (c3) ?_;simp only[aM,g,zD,af,aa,seval,iteOmega,toNatUp];exact aW
   ·rw[if_neg fun q=>h2 q.2] at hT;rw[decide_eq_false h2] at c3;subst hT;rw[Xa,Xv];simp only[sJ,ah,af,aa,seval,iteOmega,toNatUp];refine sC (c1) ?_;simp only[g1,af,aa,seval,iteOmega,toNatUp];refine sC (c2) ?_;simp only[aM,g,zD,af,aa,seval,iteOmega,toNatUp];refine sD (c3) ?_;exact aW
  ·have g1:((N.length:Int)=1)=False:=eq_false (by omega);rw[if_neg fun q=>h1 q.1] at hT;subst hT;rw[Xa,Xv];simp only[sJ,ah,af,aa,seval,iteOmega,toNatUp];refine sC (c1) ?_;simp only[g1,af,aa,seval,iteOmega,toNatUp];exact aW
theorem Vr {b:List UInt8} {v:Int} (h:v∈eG b):0≤v∧v≤65535:=by
  unfold eG at h;split at h
  ·rename_i he;unfold ku i8 at h;obtain⟨i,hi,rfl⟩:=Wm.1 h;have:=Xu.1 hi;exact Ts (by omega)
  ·cases h
theorem Kw {lo lm:List Ek} {k v:Int} (h:dj lo lm k=some v):0≤v∧v≤65535:=by
  unfold dj at h;split at h
  ·rename_i q;cases h;exact Vr q.2
  ·cases h
def kw (lo lm:List Ek):Int:=if ¬ ((dj lo lm 1).isSome=true∧(dj lo lm 4).isSome=true∧0<(am lm 5).length) then 10 else jB lm
def ow (c:Ch) (lo lm:List Ek):tY:=if kw lo lm=0 then ⟨(dj lo lm 1).getD 0,(dj lo lm 4).getD 0,bu c ((dj lo lm 1).getD 0) ((dj lo lm 4).getD 0) 0,bu c ((dj lo lm 1).getD 0) ((dj lo lm 4).getD 0) 1,i9 lm,di lm 6,(aY (di lm 7):Int)⟩ else oo
theorem jY:jz oo=.agg [.int .i64 0,.int .i64 0,.sl [],.sl [],.sl [],.str ⟨#[]⟩,.int .i64 0]:=rfl
def nr:aF:=⟨3,68,.seq (.reg [oO 3 (.box .roBox (.t 0)),oO 6 (.alloc [(.d (.int .i64 0)),(.d (.int .i64 0)),.nil,.nil,.nil,(.d (.str ⟨#[]⟩)),(.d (.int .i64 0))]),oO 7 (.mv (kI 0))]) (.seq (.reg [oM 17 1,oM 18 2,oO 19 (.call 114 [(.t 17),(.t 18),(kI 1)] none),oM 16 19,oO 20 (.extract (.t 16) 0),oO 21 (.extract (.t 16) 1),oM 8 20,oM 9 21]) (.seq (.reg [oM 23 1,oM 24 2,oO 25 (.call 114 [(.t 23),(.t 24),(kI 4)] none),oM 22 25,oO 26 (.extract (.t 22) 0),oO 27 (.extract (.t 22) 1),oM 10 26,oM 11 27]) (.seq (.seq (.reg [oM 28 9,oO 29 (.un .not (.t 28)),oM 30 29,oG 31 (.mv (.t 11)) 30 false,oG 32 (.un .not (.t 31)) 30 false,oO 33 (.pick (.t 30) (.k (.c (.d (.bool true)))) (.t 32)),oM 34 33,oG 35 (.mv (.t 2)) 34 false,oG 36 (.call 80 [(.t 35),(kI 5)] none) 34 false,oG 37 (.un .not (.t 36)) 34 false,
 oO 38 (.pick (.t 34) (.k (.c (.d (.bool true)))) (.t 37))]) (.cond (.t 38) (.seq (.reg [oO 39 (.build [(.d (.int .i64 0)),(.d (.int .i64 0)),.nil,.nil,.nil,(.d (.str ⟨#[]⟩)),(.d (.int .i64 0))] []),oN (.store (.ag 7) (.t 6) (.t 39)),oO 7 (.mv (kI 10))]) (.ret)) (.skip))) (.seq (.reg [oM 41 2,oO 42 (.call 115 [(.t 41)] none),oM 40 42,oO 43 (.extract (.t 40) 0),oO 44 (.extract (.t 40) 1),oM 12 43,oM 13 44]) (.seq (.seq (.reg [oM 45 13,oO 46 (.bin .neq (.t 45) (kI 0))]) (.cond (.t 46) (.seq (.reg [oO 47 (.build [(.d (.int .i64 0)),(.d (.int .i64 0)),.nil,.nil,.nil,(.d (.str ⟨#[]⟩)),(.d (.int .i64 0))] []),oM 48 13,oN (.store (.ag 7) (.t 6) (.t 47)),oM 7 48]) (.ret)) (.skip))) (.seq (.reg [oO 50 (.load (.ag 6) (.t 3)),oM 51 8,oM 52 10,oO 53 (.call 26 [(.t 50),(.t 51),(.t 52)] none),oM 49 53,oO 54 (.extract (.t 49) 0),
 oO 55 (.extract (.t 49) 1),oO 14 (.alloc [.nil,.nil]),oN (.store (.ag 2) (.t 14) (.t 54)),oM 15 55]) (.seq (.reg [oM 56 8,oM 57 10,oO 58 (.load (.ag 2) (.t 14)),oM 59 12,oM 60 2,oO 61 (.call 116 [(.t 60),(kI 6)] none),oO 62 (.b2s (.t 61)),oM 63 2,oO 64 (.call 116 [(.t 63),(kI 7)] none),oO 65 (.call 48 [(.t 64)] none),oO 66 (.conv .i64 (.t 65)),oO 67 (.build [(.d (.int .i64 0)),(.d (.int .i64 0)),.nil,.nil,.nil,(.d (.str ⟨#[]⟩)),(.d (.int .i64 0))] [(0,1,(.t 56)),(1,1,(.t 57)),(2,2,(.t 58)),(4,1,(.t 59)),(5,1,(.t 62)),(6,1,(.t 66))]),oN (.store (.ag 7) (.t 6) (.t 67)),oO 7 (.mv (kI 0))]) (.ret)))))))),[(6,(some (.ag 7))),(7,none)]⟩
theorem Uw:aE Tryz.prog { own:=[],comp:=[],frz:=[],nils:=[] } Tryz.f81=some nr:=by kernel_rfl
theorem Vs (G:ai) (hF:G.at 0=some (.ra (cX.map wD))) (hG:G.at 1=some (.ra (bB.map wD))) (c:Ch) (lo lm:List Ek) (vC:dv c) (ho:∀ r∈lo,r.bo.length≤65535) (hm:∀ r∈lm,r.bo.length≤65535) (hl:lm.length≤1000000) (h7:(di lm 7).length≤2):au Tryz.prog G 81 [bp c,cg lo,cg lm] (.tup [.c (.d (jz (ow c lo lm))),.c (.d (.int .i64 (kw lo lm)))]):=by
  refine aG Tryz.func81 Uw rfl rfl ?_;have c1:=Kv G lo lm 1 ho hm;have c4:=Kv G lo lm 4 ho hm;have c5:=kP G lm 5;have c6:=Vq G lm hl;have b6:=yP G lm 6;have b7:=yP G lm 7;have hE:kw lo lm=if ¬ ((dj lo lm 1).isSome=true∧(dj lo lm 4).isSome=true∧0<(am lm 5).length) then 10 else jB lm:=rfl
  have hT:ow c lo lm=if kw lo lm=0 then ⟨(dj lo lm 1).getD 0,(dj lo lm 4).getD 0,bu c ((dj lo lm 1).getD 0) ((dj lo lm 4).getD 0) 0,bu c ((dj lo lm 1).getD 0) ((dj lo lm 4).getD 0) 1,i9 lm,di lm 6,(aY (di lm 7):Int)⟩ else oo:=rfl
  have hCR:jB lm=0→qk lm=i9 lm:=fun h=>if_pos h
  have j1:=fun v=>Kw (lo:=lo) (lm:=lm) (k:=1) (v:=v)
  have j4:=fun v=>Kw (lo:=lo) (lm:=lm) (k:=4) (v:=v)
  have gt:=pN G (di lm 7) (by omega);have gb:aY (di lm 7)<65536:=by
    rcases Wv (di lm 7).length 2 with h | h
    ·match hx:di lm 7,h with
     | [],_=>decide
     | [x],_=>have:=(jb 1 [x] rfl (by decide)).1; omega
    ·exact (jb 2 (di lm 7) (by omega) (by decide)).1
  unfold cg at *
  generalize ow c lo lm=T at *
  generalize kw lo lm=e at *
  generalize dj lo lm 1=t1 at *
  generalize dj lo lm 4=t4 at *
  generalize (am lm 5).length=n5 at *
  generalize jB lm=ce at *
  generalize qk lm=cR at *
  generalize i9 lm=cL at *
  generalize aY (di lm 7)=P7 at *
  generalize di lm 6=B6 at *
  generalize di lm 7=B7 at *
  generalize cG lo=E1 at *
  generalize cG lm=E2 at *
  have bad:e=10→T=oo:=fun h=>by rw[hT,if_neg (by rw[h]; decide)]
  rcases t1 with _ | v
  ·rw[if_pos (fun q=>by cases q.1)] at hE;rw[bad hE,hE,jY];simp only[Xa,Xv] at c1;unfold bp;generalize t4.getD 0=w4 at *
   generalize t4.isSome=s4 at *
   simp only[nr,ah,af,aa,seval,iteOmega,toNatUp];refine sD (c1) ?_;refine sD (c4) ?_;exact aW
  ·simp only[WQ,Xl] at c1;rcases t4 with _ | a
   ·rw[if_pos (fun q=>by cases q.2.1)] at hE;rw[bad hE,hE,jY];simp only[Xa,Xv] at c4;unfold bp;simp only[nr,ah,af,aa,seval,iteOmega,toNatUp];refine sD (c1) ?_;refine sD (c4) ?_;exact aW
   ·simp only[WQ,Xl] at c4;by_cases h5:0<n5
    ·rw[decide_eq_true h5] at c5;rw[if_neg (not_not_intro ⟨rfl,rfl,h5⟩)] at hE;subst hE;by_cases h0:e=0
     ·subst h0;rw[if_pos rfl] at hT;subst hT;rw[hCR rfl] at c6;have kz:=Kq G hF hG c v a;rw[nK vC (j1 v rfl) (j4 a rfl)] at kz;simp only[WQ];unfold jz cW bp gL at *
      generalize bu c v a 0=U at *
      generalize bu c v a 1=W at *
      simp only[nr,ah,af,aa,seval,iteOmega,toNatUp];refine sD (c1) ?_;refine sD (c4) ?_;refine sD (c5) ?_;refine sD (c6) ?_;refine sD (kz) ?_;refine sC (b6) ?_;simp only[qU,af,aa,seval,iteOmega,toNatUp];refine sD (b7) ?_;refine sD (gt) ?_;exact aW
     ·have g0:=eq_false h0;rw[if_neg h0] at hT;subst hT;rw[jY];unfold cW bp at *
      generalize (cR.map fun l=>D.sl (l.map bD))=cc at *
      simp only[nr,ah,af,aa,seval,iteOmega,toNatUp];refine sD (c1) ?_;refine sD (c4) ?_;refine sD (c5) ?_;refine sC (c6) ?_;simp only[g0,af,aa,seval,iteOmega,toNatUp];exact aW
    ·rw[decide_eq_false h5] at c5;rw[if_pos (fun q=>h5 q.2.2)] at hE;rw[bad hE,hE,jY];unfold bp;simp only[nr,ah,af,aa,seval,iteOmega,toNatUp];refine sD (c1) ?_;refine sD (c4) ?_;refine sD (c5) ?_;exact aW
theorem Ux {x y:List Int} (h:dh x y=0):bg (dC x y) 1=x∧bg (dC x y) 4=y:=by
  obtain⟨h1,h2,_⟩:=qb h;obtain⟨a1,a4,_⟩:=Kc x y;unfold bg di;rw[a1,a4];exact⟨jg h1,jg h2⟩
theorem JG {q:List UInt8} (h:hC q):bg (aD q) 1=g8 q∧bg (aD q) 4=g9 q:=by
  obtain⟨_,_,h3,h4⟩:=h;have h5:=(tg h3).2.1;rw[h4] at h5;have:=Ux h3;rw[← h5] at this;exact this
theorem RL {q:List UInt8} (hF:dV q):hC q↔(dh (bg (aD q) 1) (bg (aD q) 4)=0∧bc (bg (aD q) 1) (bg (aD q) 4)=q):=by
  constructor
  ·intro h;obtain⟨e1,e2⟩:=JG h;rw[e1,e2];exact⟨h.2.2.1,h.2.2.2⟩
  ·rintro⟨h1,h2⟩;have:=(zn h1).1;rw[h2] at this;exact this
def sK:aF:=⟨1,31,.seq (.reg [oO 2 (.mv (.k (.c (.d (.mp .i64 []))))),oO 3 (.mv (.k (.c (.d (.bool false)))))]) (.seq (.reg [oM 9 0,oO 10 (.call 66 [(.t 9)] none),oM 8 10,oO 11 (.extract (.t 8) 0),oO 12 (.extract (.t 8) 1),oM 4 11,oM 5 12]) (.seq (.seq (.reg [oM 13 5,oO 14 (.un .not (.t 13))]) (.cond (.t 14) (.seq (.reg [oO 2 (.mv (.k (.c (.d (.mp .i64 []))))),oO 3 (.mv (.k (.c (.d (.bool false)))))]) (.ret)) (.skip))) (.seq (.reg [oM 16 4,oO 17 (.call 111 [(.t 16),(kI 1)] none),oM 18 4,oO 19 (.call 111 [(.t 18),(kI 4)] none),oO 20 (.call 16 [(.t 17),(.t 19)] none),oM 15 20,oO 21 (.extract (.t 15) 0),oO 22 (.extract (.t 15) 1),oM 6 21,oM 7 22]) (.seq (.reg [oM 23 4,oM 24 7,oO 25 (.bin .eql (.t 24) (kI 0)),oM 26 25,oG 27 (.mv (.t 6)) 26 true,oG 28 (.mv (.t 0)) 26 true,oG 29 (.call 104 [(.t 27),(.t 28)] none) 26 true,
 oO 30 (.pick (.t 26) (.t 29) (.k (.c (.d (.bool false))))),oM 2 23,oM 3 30]) (.ret))))),[(2,none),(3,none)]⟩
theorem Uy:aE Tryz.prog { own:=[],comp:=[],frz:=[],nils:=[] } Tryz.f79=some sK:=by kernel_rfl
theorem Vt (G:ai) (b:List UInt8) (hb:b.length≤1000000000):au Tryz.prog G 79 [.sl (b.map bD)] (.tup [.c (.d (cg (gZ b))),.c (.d (.bool (decide (hC b))))]):=by
  refine aG Tryz.func79 Uy rfl rfl ?_;have c:=yQ G b hb;by_cases hF:dV b
  ·have hQ:=RL hF;rw[decide_eq_true hF,show gZ b=aD b from if_pos hF] at c;rw[show gZ b=aD b from if_pos hF];obtain⟨hbo,hl⟩:=sH (b:=b);generalize aD b=L at *
   have d1:=nJ G L 1 fun r hr=>by have:=hbo r hr; omega
   have d4:=nJ G L 4 fun r hr=>by have:=hbo r hr; omega
   have n1:(bg L 1).length≤65535:=Wz (pF _) (mV hbo 1);have n4:(bg L 4).length≤65535:=Wz (pF _) (mV hbo 4);have cq:=yO G (bg L 1) (bg L 4) (by omega) (by omega);have cs:=xF G (bc (bg L 1) (bg L 4)) b;unfold cg at *
   generalize bg L 1=N1 at *
   generalize bg L 4=N4 at *
   generalize cG L=E at *
   by_cases h0:dh N1 N4=0
   ·rw[h0] at cq;have hd:decide (hC b)=(bc N1 N4==b):=by
      by_cases h1:bc N1 N4=b
      ·rw[decide_eq_true (hQ.2 ⟨h0,h1⟩),h1]; simp
      ·rw[decide_eq_false fun q=>h1 (hQ.1 q).2]; simp[h1]
    rw[hd];generalize (bc N1 N4==b)=d at *
    generalize bc N1 N4=R at *
    clear hQ hd;simp only[sK,ah,af,aa,seval,iteOmega,toNatUp];refine sD (c) ?_;refine sD (d1) ?_;refine sD (d4) ?_;refine sD (cq) ?_;refine sD (cs) ?_;exact aW
   ·have g0:=eq_false h0;rw[decide_eq_false fun q=>h0 (hQ.1 q).1];generalize dh N1 N4=e at *
    generalize bc N1 N4=R at *
    clear hQ;simp only[sK,ah,af,aa,seval,iteOmega,toNatUp];refine sD (c) ?_;refine sD (d1) ?_;refine sD (d4) ?_;refine sC (cq) ?_;simp only[g0,af,aa,seval,iteOmega,toNatUp];exact aW
  ·rw[decide_eq_false hF,show gZ b=[] from if_neg hF,pn] at c;rw[decide_eq_false fun q:hC b=>hF q.1,show gZ b=[] from if_neg hF,pn];simp only[sK,ah,af,aa,seval,iteOmega,toNatUp];refine sD (c) ?_;exact aW
theorem JH {b:List UInt8} (h:dV b):(am (aD b) 1).length≤1∧(am (aD b) 4).length≤1∧(am (aD b) 6).length≤1∧(am (aD b) 7).length≤1:=by
  obtain⟨_,⟨_,_,_,h4,h5,h6,h7⟩,_⟩:=h;rw[bJ] at h4 h5 h6 h7;exact⟨h4,h5,h6,h7⟩
theorem tS {l:List Ek} {k:Int} (h:am l k=[]):di l k=[]∧bg l k=[]:=by
  have:di l k=[]:=by unfold di; rw[h]; rfl
  exact⟨this,by unfold bg; rw[this]; rfl⟩
theorem Kx {lo lm:List Ek} {k:Int} {x:List Int} (h:(am lm k).length≤1) (hx:bg lo k=x):eV lm k x=dj lo lm k:=by
  unfold eV dj;rw[hx,bJ];by_cases h1:(am lm k).length=1
  ·rw[if_pos h1,yV (by omega)]
  ·have h2:am lm k=[]:=Wr.1 (by omega);rw[if_neg h1,(tS h2).2,if_neg (by simp)]
theorem Uz {l:List Ek} (h:(am l 6).length≤1):ot l=di l 6:=by
  unfold ot;rw[bJ];by_cases h1:(am l 6).length=1
  ·rw[if_pos h1,kG (by rw[bJ]; omega)]; rfl
  ·rw[if_neg h1,(tS (Wr.1 (by omega))).1]
theorem UA {l:List Ek} (h:(am l 7).length≤1):ou l=(aY (di l 7):Int):=by
  unfold ou;rw[bJ];by_cases h1:(am l 7).length=1
  ·rw[if_pos h1,kG (by rw[bJ]; omega)]; rfl
  ·rw[if_neg h1,(tS (Wr.1 (by omega))).1]; rfl
theorem VN {b:List UInt8} (h:dV b):(di (aD b) 7).length≤2:=by
  obtain⟨_,_,_,h7⟩:=JH h;rcases Wv 0 (am (aD b) 7).length with h1 | h1
  ·have hm:=Xk.1 (iH h1);have:=(h.2.2 _ hm.1).2 (of_decide_eq_true hm.2);exact Nat.le_of_eq this
  ·rw[(tS (Wr.1 (by omega))).1]; decide
theorem Vu {c:Ch} {q b:List UInt8} (vC:dv c) (hq:hC q) (hF:dV b) (hS:fq (aD b)=false) (h2:¬ 0<(am (aD b) 2).length):dQ c q b=kw (aD q) (aD b)∧ja c q b=ow c (aD q) (aD b):=by
  obtain⟨k1,k4,k6,k7⟩:=JH hF;obtain⟨x1,x4⟩:=JG hq;have o1:=Kx (lo:=aD q) (lm:=aD b) k1 x1;have o4:=Kx (lo:=aD q) (lm:=aD b) k4 x4;have e:dQ c q b=kw (aD q) (aD b):=by
    unfold dQ kw jB;rw[if_neg (not_not_intro vC),if_neg (not_not_intro hq),if_neg (not_not_intro hF),if_neg (by rw[hS]; decide),bJ,if_neg (by omega),o1,o4,bJ];by_cases h:(dj (aD q) (aD b) 1).isSome=true∧(dj (aD q) (aD b) 4).isSome=true∧0<(am (aD b) 5).length
    ·rw[if_neg (not_not_intro h),if_neg (not_not_intro ⟨h.1,h.2.1,by omega⟩)]
    ·rw[if_pos h,if_pos fun g=>h ⟨g.1,g.2.1,by omega⟩]
  refine⟨e,?_⟩;unfold ja ow;rw[e,o1,o4,Uz k6,UA k7]
def lO:aF:=⟨3,43,.seq (.reg [oO 3 (.box .roBox (.t 0)),oO 6 (.alloc [(.d (.int .i64 0)),(.d (.int .i64 0)),.nil,.nil,.nil,(.d (.str ⟨#[]⟩)),(.d (.int .i64 0))]),oO 7 (.mv (kI 0))]) (.seq (.seq (.reg [oO 11 (.load (.ag 6) (.t 3)),oO 12 (.call 62 [(.t 11)] none),oO 13 (.un .not (.t 12))]) (.cond (.t 13) (.seq (.reg [oO 14 (.build [(.d (.int .i64 0)),(.d (.int .i64 0)),.nil,.nil,.nil,(.d (.str ⟨#[]⟩)),(.d (.int .i64 0))] []),oN (.store (.ag 7) (.t 6) (.t 14)),oO 7 (.mv (kI 3))]) (.ret)) (.skip))) (.seq (.reg [oM 16 1,oO 17 (.call 79 [(.t 16)] none),oM 15 17,oO 18 (.extract (.t 15) 0),oO 19 (.extract (.t 15) 1),oM 8 18,oM 9 19]) (.seq (.seq (.reg [oM 20 9,oO 21 (.un .not (.t 20))]) (.cond (.t 21) (.seq (.reg [oO 22 (.build [(.d (.int .i64 0)),(.d (.int .i64 0)),.nil,.nil,.nil,(.d (.str ⟨#[]⟩)),(.d (.int .i64 0))] []),
 oN (.store (.ag 7) (.t 6) (.t 22)),oO 7 (.mv (kI 3))]) (.ret)) (.skip))) (.seq (.reg [oM 24 2,oO 25 (.call 66 [(.t 24)] none),oM 23 25,oO 26 (.extract (.t 23) 0),oO 27 (.extract (.t 23) 1),oM 10 26,oM 9 27]) (.seq (.seq (.reg [oM 28 9,oO 29 (.un .not (.t 28))]) (.cond (.t 29) (.seq (.reg [oO 30 (.build [(.d (.int .i64 0)),(.d (.int .i64 0)),.nil,.nil,.nil,(.d (.str ⟨#[]⟩)),(.d (.int .i64 0))] []),oN (.store (.ag 7) (.t 6) (.t 30)),oO 7 (.mv (kI 3))]) (.ret)) (.skip))) (.seq (.seq (.reg [oM 31 10,oO 32 (.call 69 [(.t 31)] none)]) (.cond (.t 32) (.seq (.reg [oO 33 (.build [(.d (.int .i64 0)),(.d (.int .i64 0)),.nil,.nil,.nil,(.d (.str ⟨#[]⟩)),(.d (.int .i64 0))] []),oN (.store (.ag 7) (.t 6) (.t 33)),oO 7 (.mv (kI 11))]) (.ret)) (.skip))) (.seq (.seq (.reg [oM 34 10,oO 35 (.call 80 [(.t 34),(kI 2)] none)])
 (.cond (.t 35) (.seq (.reg [oO 36 (.build [(.d (.int .i64 0)),(.d (.int .i64 0)),.nil,.nil,.nil,(.d (.str ⟨#[]⟩)),(.d (.int .i64 0))] []),oN (.store (.ag 7) (.t 6) (.t 36)),oO 7 (.mv (kI 7))]) (.ret)) (.skip))) (.seq (.reg [oO 37 (.load (.ag 6) (.t 3)),oM 38 8,oM 39 10,oO 40 (.call 81 [(.t 37),(.t 38),(.t 39)] none),oO 41 (.extract (.t 40) 0),oO 42 (.extract (.t 40) 1),oN (.store (.ag 7) (.t 6) (.t 41)),oM 7 42]) (.ret))))))))),[(6,(some (.ag 7))),(7,none)]⟩
theorem UB:aE Tryz.prog { own:=[],comp:=[],frz:=[],nils:=[] } Tryz.f30=some lO:=by kernel_rfl
theorem Ky (G:ai) (hF:G.at 0=some (.ra (cX.map wD))) (hG:G.at 1=some (.ra (bB.map wD))) (c:Ch) (q b:List UInt8) (hq:q.length≤1000000000) (hb:b.length≤1000000000):au Tryz.prog G 30 [bp c,.sl (q.map bD),.sl (b.map bD)] (.tup [.c (.d (jz (ja c q b))),.c (.d (.int .i64 (dQ c q b)))]):=by
  refine aG Tryz.func30 UB rfl rfl ?_;have c1:=ti G hF hG c;have hno:∀ e,dQ c q b=e→e≠0→ja c q b=oo:=fun e h1 h2=>if_neg (by rw[h1]; exact h2)
  by_cases vC:dv c
  case neg =>
    rw[decide_eq_false vC] at c1;have E:dQ c q b=3:=if_pos vC;rw[hno 3 E (by decide),E,jY];unfold bp at *
    simp only[lO,ah,af,aa,seval,iteOmega,toNatUp];refine sD (c1) ?_;exact aW
  rw[decide_eq_true vC] at c1;have c2:=Vt G q hq;by_cases hQ:hC q
  case neg =>
    rw[decide_eq_false hQ] at c2;have E:dQ c q b=3:=by unfold dQ; rw[if_neg (not_not_intro vC),if_pos hQ]
    rw[hno 3 E (by decide),E,jY];unfold bp cg at *
    simp only[lO,ah,af,aa,seval,iteOmega,toNatUp];refine sD (c1) ?_;refine sD (c2) ?_;exact aW
  rw[decide_eq_true hQ,show gZ q=aD q from if_pos hQ.1] at c2;have c3:=yQ G b hb;by_cases hFm:dV b
  case neg =>
    rw[decide_eq_false hFm] at c3;have E:dQ c q b=3:=by unfold dQ; rw[if_neg (not_not_intro vC),if_neg (not_not_intro hQ),if_pos hFm]
    rw[hno 3 E (by decide),E,jY];unfold bp cg at *
    simp only[lO,ah,af,aa,seval,iteOmega,toNatUp];refine sD (c1) ?_;refine sD (c2) ?_;refine sD (c3) ?_;exact aW
  rw[decide_eq_true hFm,show gZ b=aD b from if_pos hFm] at c3;obtain⟨hbo,hl⟩:=sH (b:=b);obtain⟨hbq,_⟩:=sH (b:=q);have c4:=Ks G (aD b) (by omega);rcases hS:fq (aD b) with _ | _
  case true =>
    rw[hS] at c4;have E:dQ c q b=11:=by unfold dQ; rw[if_neg (not_not_intro vC),if_neg (not_not_intro hQ),if_neg (not_not_intro hFm),if_pos hS]
    rw[hno 11 E (by decide),E,jY];unfold bp cg at *
    generalize cG (aD q)=E1 at *
    generalize cG (aD b)=E2 at *
    simp only[lO,ah,af,aa,seval,iteOmega,toNatUp];refine sD (c1) ?_;refine sD (c2) ?_;refine sD (c3) ?_;refine sD (c4) ?_;exact aW
  rw[hS] at c4;have c5:=kP G (aD b) 2;by_cases h2:0<(am (aD b) 2).length
  ·rw[decide_eq_true h2] at c5;have E:dQ c q b=7:=by unfold dQ; rw[if_neg (not_not_intro vC),if_neg (not_not_intro hQ),if_neg (not_not_intro hFm),if_neg (by rw[hS]; decide),if_pos (by rw[bJ]; omega)]
   rw[hno 7 E (by decide),E,jY];unfold bp cg at *
   generalize cG (aD q)=E1 at *
   generalize cG (aD b)=E2 at *
   simp only[lO,ah,af,aa,seval,iteOmega,toNatUp];refine sD (c1) ?_;refine sD (c2) ?_;refine sD (c3) ?_;refine sD (c4) ?_;refine sD (c5) ?_;exact aW
  ·rw[decide_eq_false h2] at c5;obtain⟨e1,e2⟩:=Vu vC hQ hFm hS h2;rw[e1,e2];have c6:=Vs G hF hG c (aD q) (aD b) vC hbq hbo (by omega) (VN hFm);generalize ow c (aD q) (aD b)=T at *
   generalize kw (aD q) (aD b)=e at *
   unfold jz at *
   unfold bp cg at *
   generalize cG (aD q)=E1 at *
   generalize cG (aD b)=E2 at *
   simp only[lO,ah,af,aa,seval,iteOmega,toNatUp];refine sD (c1) ?_;refine sD (c2) ?_;refine sD (c3) ?_;refine sD (c4) ?_;refine sD (c5) ?_;refine sD (c6) ?_;exact aW


def iC (p:dP):List Ek:=if p.ho.size=0 then [] else [⟨true,6,p.ho.data.toList⟩]
def iD (p:dP):List Ek:=if p.pt=0 then [] else [⟨true,7,aI [p.pt]⟩]
theorem yh (p:dP):gq p=iC p++(iD p++[bY]):=rfl
theorem UD {p:dP} (h:p.ho.size≤255):(∀ r∈iC p,r.ty=6)∧(iC p).length≤1∧∀ r∈iC p,r.bo.length≤255:=by
  unfold iC;split
  ·exact⟨fun r hr=>(by cases hr),VY _,fun r hr=>(by cases hr)⟩
  ·exact⟨fun r hr=>(by rw[VU.1 hr]),V0 _,fun r hr=>by rw[VU.1 hr]; exact h⟩
theorem UE (p:dP):(∀ r∈iD p,r.ty=7)∧(iD p).length≤1∧∀ r∈iD p,r.bo.length=2:=by
  unfold iD;split
  ·exact⟨fun r hr=>(by cases hr),VY _,fun r hr=>(by cases hr)⟩
  ·exact⟨fun r hr=>(by rw[VU.1 hr]),V0 _,fun r hr=>by rw[VU.1 hr]; exact eW [p.pt]⟩
theorem UF {L:List Ek} {p:dP} (h:am L 6=iC p):ot L=p.ho.data.toList:=by
  unfold ot;by_cases h0:p.ho.size=0
  ·have:am L 6=[]:=by rw[h]; exact if_pos h0
   rw[bJ,this,if_neg (show ¬ ([]:List Ek).length=1 by decide)];exact (Wr.1 (show p.ho.data.toList.length=0 from h0)).symm
  ·have e:am L 6=[⟨true,6,p.ho.data.toList⟩]:=by rw[h]; exact if_neg h0
   have hl:(bI L 6).length=1:=by rw[bJ,e]; rfl
   rw[if_pos hl,kG (by omega),e]; rfl
theorem UG {L:List Ek} {p:dP} (hp:0≤p.pt∧p.pt≤65535) (h:am L 7=iD p):ou L=p.pt:=by
  unfold ou;by_cases h0:p.pt=0
  ·have:am L 7=[]:=by rw[h]; exact if_pos h0
   rw[bJ,this,if_neg (show ¬ ([]:List Ek).length=1 by decide),h0]
  ·have e:am L 7=[⟨true,7,aI [p.pt]⟩]:=by rw[h]; exact if_neg h0
   have hl:(bI L 7).length=1:=by rw[bJ,e]; rfl
   rw[if_pos hl,kG (by omega),e]
   show (aY (aI [p.pt]):Int)=_
   rw[show aI [p.pt]=aQ p.pt.toNat 2 from Wc _,get_put 2 (by decide)];omega
theorem KY {p:dP} {r:List Fd} {c:Ch} (h:eH p r c=0):dv c∧cQ r∧bH p.pr∧bH p.al∧bH [p.pt]:=by
  unfold eH at h;by_cases h1:dv c∧cQ r
  ·rw[if_neg (not_not_intro h1)] at h;by_cases h2:bH p.pr∧bH p.al∧bH [p.pt]
   ·exact⟨h1.1,h1.2,h2⟩
   ·rw[if_pos h2] at h; exact absurd h (by decide)
  ·rw[if_pos h1] at h; exact absurd h (by decide)
theorem agree {p:dP} {r:List Fd} {c c':Ch} {x y:List Int} {ns:List (List UInt8)} (hq:dh x y=0) (hs:eH p r c=0) (hn:jy ns p.ho) (hv:dv c') (hk:c'.se=c.se) :
    (dD p r c (bc x y) ns).length≤65535 ∧
    (dO x p.pr=none∨dO y p.al=none→dQ c' (bc x y) (dD p r c (bc x y) ns)=10) ∧
    (∀ v a,dO x p.pr=some v→dO y p.al=some a→dQ c' (bc x y) (dD p r c (bc x y) ns)=0 ∧
      ja c' (bc x y) (dD p r c (bc x y) ns)=⟨v,a,bu c v a 0,bu c v a 1,ns.map (fun n=>dN (r.getD 0 default) a (bu c v a 0) (bu c v a 1) n),p.ho.data.toList,p.pt⟩∧(0≤v∧v≤65535)∧(0≤a∧a≤65535)∧gp c v a=0):=by
  obtain⟨vC,vR,s1,s2,s3⟩:=KY hs;obtain⟨sx,sy,_⟩:=qb hq;obtain⟨o1,o2,o3,o4⟩:=KW hq;obtain⟨Q,fx,fy⟩:=zn hq;have e:dD p r c (bc x y) ns=aO (ew p r c x y ns++gq p):=by
    unfold dD;rw[if_neg (not_not_intro hs),if_neg (not_not_intro o1),o2,if_neg Bool.false_ne_true,if_neg (not_not_intro hn),o3,o4]
  obtain⟨n1,n2,n3,n4⟩:=hn;obtain⟨h6,l6,b6⟩:=UD (p:=p) n3;obtain⟨h7,l7,b7⟩:=UE p;have pp:=s3 p.pt Wt;have e0:∀ l:List Int,l.length≤16→((aI l).length%2=0∧(aI l).length≤255):=fun l hl=>by rw[eW]; omega
  rw[e];rcases hx:dO x p.pr with _ | v
  ·have eA:ew p r c x y ns=[⟨true,1,[]⟩]:=by unfold ew; rw[hx]
   rw[eA,yh];have em:[(⟨true,1,[]⟩:Ek)]++(iC p++(iD p++[bY]))=bA ⟨true,1,[]⟩ [] [] (iC p) (iD p)++[bY]:=by simp[bA]
   rw[em];obtain⟨m1,m2,m3,m4,m5,m6,m7,m8,m9,mA,mB⟩:=yW (a:=⟨true,1,[]⟩) (b:=[]) (x:=[]) rfl (fun r hr=>by cases hr) (fun r hr=>by cases hr) h6 h7 (by decide) (by decide) l6 l7 (e0 [] (by decide)) (fun r hr=>by cases hr) (fun r hr=>by cases hr) b6 b7;obtain⟨f1,_⟩:=yX (c:=c') hv Q m4 m3 m5 m7 m9 (by decide) (fun r hr=>by cases hr);rw[fx] at f1;exact⟨(gA m1).2.2,fun _=>f1 (.inl (Ew m6)),fun v a q=>(by cases q)⟩
  ·obtain⟨v1,v2⟩:=kL hx;have v3:=sx v v1;rcases hy:dO y p.al with _ | a
   ·have eA:ew p r c x y ns=[⟨true,1,aI [v]⟩,⟨true,4,[]⟩]:=by unfold ew; rw[hx]; dsimp only; rw[hy]
    rw[eA,yh];have em:[(⟨true,1,aI [v]⟩:Ek),⟨true,4,[]⟩]++(iC p++(iD p++[bY]))=bA ⟨true,1,aI [v]⟩ [⟨true,4,[]⟩] [] (iC p) (iD p)++[bY]:=by simp[bA]
    rw[em];obtain⟨m1,m2,m3,m4,m5,m6,m7,m8,m9,mA,mB⟩:=yW (a:=⟨true,1,aI [v]⟩) (b:=[⟨true,4,[]⟩]) (x:=[]) rfl (fun r hr=>by rw[VU.1 hr]) (fun r hr=>by cases hr) h6 h7 (V0 _) (by decide) l6 l7 (e0 [v] (show (1:Nat)≤16 by decide)) (fun r hr=>by rw[VU.1 hr]; exact e0 [] (by decide)) (fun r hr=>by cases hr) b6 b7;obtain⟨f1,_⟩:=yX (c:=c') hv Q m4 m3 m5 m7 m9 (by decide) (fun r hr=>by cases hr);rw[fy] at f1;exact⟨(gA m1).2.2,fun _=>f1 (.inr (Ew m8)),fun v a _ q=>(by cases q)⟩
   ·obtain⟨a1,a2⟩:=kL hy;have a3:=sy a a1;have kz:=nK vC v3 a3;have eA:ew p r c x y ns=⟨true,1,aI [v]⟩::⟨true,4,aI [a]⟩::ft r c v a ns:=by unfold ew; rw[hx]; dsimp only; rw[hy]
    rw[eA,yh];have em:(⟨true,1,aI [v]⟩::⟨true,4,aI [a]⟩::ft r c v a ns)++(iC p++(iD p++[bY]))=bA ⟨true,1,aI [v]⟩ [⟨true,4,aI [a]⟩] (ft r c v a ns) (iC p) (iD p)++[bY]:=by simp[bA]
    rw[em];have xl:(ft r c v a ns).length=ns.length:=by unfold ft; rw[VZ]
    have xb:∀ e∈ft r c v a ns,e.bo.length=104:=fun e he=>by
      obtain⟨n,hn,rfl⟩:=Wm.1 he;obtain⟨q1,q2⟩:=yR (U:=bu c v a 0) (W:=bu c v a 1) vR a3 (mT kz) (mT kz) (n4 n hn)
      show (mh r a _ _ n).length=104
      rw[q1,q2]
    obtain⟨m1,m2,m3,m4,m5,m6,m7,m8,m9,mA,mB⟩:=yW (a:=⟨true,1,aI [v]⟩) (b:=[⟨true,4,aI [a]⟩]) (x:=ft r c v a ns) rfl (fun r hr=>by rw[VU.1 hr]) (fun e he=>(Rj r c v a ns e he).1) h6 h7 (V0 _) (by omega) l6 l7 (e0 [v] (show (1:Nat)≤16 by decide)) (fun r hr=>by rw[VU.1 hr]; exact e0 [a] (show (1:Nat)≤16 by decide)) (fun e he=>by rw[xb e he]; decide) b6 b7;obtain⟨_,f2⟩:=yX (c:=c') hv Q m4 m3 m5 m7 m9 (by omega) xb;rw[fx,fy] at f2;obtain⟨g1,g2⟩:=f2 v a (GH m6 v1 v3) (GH m8 a1 a3) (by omega);refine⟨(gA m1).2.2,fun q=>(by rcases q with q | q <;> cases q),fun v' a' q1 q2=>?_⟩;obtain rfl:=Option.some.inj q1;obtain rfl:=Option.some.inj q2;refine⟨g1,?_,v3,a3,kz⟩;have kk:∀ z,bu c' v a z=bu c v a z:=fun z=>by
      unfold bu;rw[if_pos kz,if_pos (nK hv v3 a3),hk]
    rw[g2,kk,kk,UF mA,UG pp mB]
    congr 1
    unfold ft;rw[List.map_map];refine WB fun n hn=>?_
    exact (yR (U:=bu c v a 0) (W:=bu c v a 1) vR a3 (mT kz) (mT kz) (n4 n hn)).1
def zE:ByteArray:=⟨#[116,105,109,101,46,101,120,97,109,112,108,101]⟩
def bO:dP:=⟨[0],[15],zE,123⟩
def EK:aF:=⟨0,4,.seq (.reg [oO 0 (.alloc [.nil,.nil,(.d (.str ⟨#[]⟩)),(.d (.int .i64 0))])]) (.seq (.reg [oO 1 (.bldSl false 1 1 (.int .i64 0) [(0,(kI 0))]),oO 2 (.bldSl false 1 1 (.int .i64 0) [(0,(kI 15))]),oO 3 (.build [.nil,.nil,(.d (.str ⟨#[]⟩)),(.d (.int .i64 0))] [(0,1,(.t 1)),(1,1,(.t 2)),(2,1,(.k (.c (.d (.str ⟨#[116,105,109,101,46,101,120,97,109,112,108,101]⟩))))),(3,1,(kI 123))]),oN (.store (.ag 4) (.t 0) (.t 3))]) (.ret)),[(0,(some (.ag 4)))]⟩
theorem Pv:aE Tryz.prog { own:=[],comp:=[],frz:=[],nils:=[] } Tryz.f39=some EK:=by kernel_rfl
theorem G8 (G:ai):au Tryz.prog G 39 [] (.w (.c (.d (dZ bO)))):=by
  refine aG Tryz.func39 Pv rfl rfl ?_;unfold dZ bO;simp only[EK,ah,af,aa,seval,iteOmega,toNatUp];exact aJ (h1:=by simp only[af,aa,seval,iteOmega,toNatUp] <;> rfl)
theorem G9 {s:Nat} {K:List UInt8} {t:Nat} (cl:Bool) {S:List UInt8} {n m:Int} (hs:s+t≤4294967295) (hS:S.length=32) (hn:0≤n∧n≤1099511627776:=by decide) (hm:0≤m∧m≤1099511627776:=by decide):eH bO (bP s K t) (bf cl S n m)=0:=by
  have h1:bH bO.pr∧bH bO.al∧bH [bO.pt]:=by decide
  unfold eH;rw[if_neg (not_not_intro ⟨zk hS hn hm,I3 hs⟩),if_neg (not_not_intro h1)]
def Ax:aF:=⟨0,68,.seq (.reg [oO 0 (.mv (.k (.c (.d (.bool false)))))]) (.seq (.reg [oO 10 (.call 23 [(kI 1)] none),oM 9 10,oO 11 (.extract (.t 9) 0),oO 12 (.extract (.t 9) 1),oO 1 (.alloc [(.d (.bool false)),.nil,.nil,.nil,(.d (.int .i64 0)),(.d (.int .i64 0))]),oO 2 (.alloc [(.d (.bool false)),.nil,.nil,.nil,(.d (.int .i64 0)),(.d (.int .i64 0))]),oN (.store (.ag 6) (.t 1) (.t 11)),oN (.store (.ag 6) (.t 2) (.t 12))]) (.seq (.reg [oO 14 (.bldSl false 1 1 (.int .i64 0) [(0,(kI 0))]),oO 15 (.bldSl false 1 1 (.int .i64 0) [(0,(kI 15))]),oO 16 (.call 16 [(.t 14),(.t 15)] none),oM 13 16,oO 17 (.extract (.t 13) 0),oO 18 (.extract (.t 13) 1),oM 3 17,oM 4 18]) (.seq (.reg [oO 20 (.call 39 [] none),oO 21 (.call 25 [(kI 1),(kI 0)] none),oO 22 (.load (.ag 6) (.t 2)),oM 23 3,oO 24 (.call 35 [(kI 1),(kI 16)] none),
 oO 25 (.call 35 [(kI 2),(kI 16)] none),oO 26 (.bldSl false 2 1 (.sl []) [(0,(.t 24)),(1,(.t 25))]),oO 27 (.call 28 [(.t 20),(.t 21),(.t 22),(.t 23),(.t 26)] none),oM 19 27,oO 28 (.extract (.t 19) 0),oO 29 (.extract (.t 19) 1),oM 5 28,oM 6 29]) (.seq (.reg [oO 31 (.load (.ag 6) (.t 1)),oM 32 3,oM 33 5,oO 34 (.call 30 [(.t 31),(.t 32),(.t 33)] none),oM 30 34,oO 35 (.extract (.t 30) 0),oO 36 (.extract (.t 30) 1),oO 7 (.alloc [(.d (.int .i64 0)),(.d (.int .i64 0)),.nil,.nil,.nil,(.d (.str ⟨#[]⟩)),(.d (.int .i64 0))]),oN (.store (.ag 7) (.t 7) (.t 35)),oM 8 36]) (.seq (.reg [oM 37 4,oO 38 (.bin .eql (.t 37) (kI 0)),oM 39 38,oG 40 (.mv (.t 6)) 39 true,oG 41 (.bin .eql (.t 40) (kI 0)) 39 true,oO 42 (.pick (.t 39) (.t 41) (.k (.c (.d (.bool false))))),oM 43 42,oG 44 (.mv (.t 8)) 43 true,oG 45 (.bin .eql (.t 44) (kI 0)) 43 true,
 oO 46 (.pick (.t 43) (.t 45) (.k (.c (.d (.bool false))))),oM 47 46,oG 48 (.fieldAddr 1 (.t 7)) 47 true,oG 49 (.load .sc (.t 48)) 47 true,oG 50 (.bin .eql (.t 49) (kI 15)) 47 true,oO 51 (.pick (.t 47) (.t 50) (.k (.c (.d (.bool false))))),oM 52 51,oG 53 (.fieldAddr 4 (.t 7)) 52 true,oG 54 (.load .sc (.t 53)) 52 true,oG 55 (.len (.t 54)) 52 true,oG 56 (.bin .eql (.t 55) (kI 2)) 52 true,oO 57 (.pick (.t 52) (.t 56) (.k (.c (.d (.bool false))))),oM 58 57,oG 59 (.fieldAddr 5 (.t 7)) 58 true,oG 60 (.load .sc (.t 59)) 58 true,oG 61 (.bin .eql (.t 60) (.k (.c (.d (.str ⟨#[116,105,109,101,46,101,120,97,109,112,108,101]⟩))))) 58 true,oO 62 (.pick (.t 58) (.t 61) (.k (.c (.d (.bool false))))),oM 63 62,oG 64 (.fieldAddr 6 (.t 7)) 63 true,oG 65 (.load .sc (.t 64)) 63 true,oG 66 (.bin .eql (.t 65) (kI 123)) 63 true,
 oO 67 (.pick (.t 63) (.t 66) (.k (.c (.d (.bool false))))),oM 0 67]) (.ret)))))),[(0,none)]⟩
theorem Mc:aE Tryz.prog { own:=[],comp:=[],frz:=[],nils:=[] } Tryz.f9=some Ax:=by kernel_rfl
set_option maxHeartbeats 1600000 in
theorem NA (G:ai) (hF:G.at 0=some (.ra (cX.map wD))) (hG:G.at 1=some (.ra (bB.map wD))):au Tryz.prog G 9 [] (.w (.c (.d (.bool true)))):=by
  refine aG Tryz.func9 Mc rfl rfl ?_;have kl:=GJ 1;have c1:=Kg G 1;have c2:=yO G [0] [15] (show (1:Nat)≤_ by decide) (show (1:Nat)≤_ by decide);have hq:dh [0] [15]=0:=by decide
  have c3:=G8 G;have c4:=Ki G 1 0 (by decide);rw[show (bi 0 6).toNat=0 from by decide] at c4;have c5:=o6 G 1 16 (by decide);have c6:=o6 G 2 16 (by decide);have l5:(aR 1 16).length=16:=mD _ _;have l6:(aR 2 16).length=16:=mD _ _;have hs:=G9 (s:=1) (K:=aR ((1:Nat):Int) 32) (t:=0) (n:=0) (m:=0) false (by decide) kl;have hn:jy [aR 1 16,aR 2 16] bO.ho:=⟨show (1:Nat)≤2 by decide,show (2:Nat)≤8 by decide,by decide,fun n hn=>by
    rcases V6.1 hn with rfl | hn
    ·exact l5
    ·rw[VU.1 hn]; exact l6⟩
  obtain⟨al,_,ag⟩:=agree (c':=bf true (bN 1) 0 0) hq hs hn (zk kl (by decide) (by decide)) rfl;obtain⟨a1,a2,_⟩:=ag 0 15 (by decide) (by decide);have bq:(bc [0] [15]).length≤65535:=by
    have e:bc [0] [15]=aO (dC [0] [15]):=if_pos hq;rw[e];exact (gA (xO hq).1).2.2
  have rl:=lD 1 (aR ((1:Nat):Int) 32) 0;have c7:=Ku G hF hG bO (bP 1 (aR ((1:Nat):Int) 32) 0) (bf false (bN 1) 0 0) (bc [0] [15]) [aR 1 16,aR 2 16] (by decide) (by decide) (by decide) (by omega) (by omega) (show (2:Nat)≤_ by decide) (fun n hn=>by
    rcases V6.1 hn with rfl | hn
    ·omega
    ·rw[VU.1 hn]; omega)
  have c8:=Ky G hF hG (bf true (bN 1) 0 0) (bc [0] [15]) (dD bO (bP 1 (aR ((1:Nat):Int) 32) 0) (bf false (bN 1) 0 0) (bc [0] [15]) [aR 1 16,aR 2 16]) (by omega) (by omega);rw[a1,a2] at c8;rw[hs] at c7;rw[hq] at c2;clear hs hn ag a1 a2 al bq hF hG;have eh:(⟨bO.ho.data.toList.toArray⟩:ByteArray)=zE:=rfl;have ep:bO.pt=123:=rfl;unfold jz at c8;simp only[VX,Wl,eh,ep] at c8;generalize dD bO (bP 1 (aR ((1:Nat):Int) 32) 0) (bf false (bN 1) 0 0) (bc [0] [15]) [aR 1 16,aR 2 16]=R at *
  generalize dN ((bP 1 (aR ((1:Nat):Int) 32) 0).getD 0 default) 15 (bu (bf false (bN 1) 0 0) 0 15 0) (bu (bf false (bN 1) 0 0) 0 15 1) (aR 1 16)=k1 at *
  generalize dN ((bP 1 (aR ((1:Nat):Int) 32) 0).getD 0 default) 15 (bu (bf false (bN 1) 0 0) 0 15 0) (bu (bf false (bN 1) 0 0) 0 15 1) (aR 2 16)=k2 at *
  generalize bu (bf false (bN 1) 0 0) 0 15 0=k3 at *
  generalize bu (bf false (bN 1) 0 0) 0 15 1=k4 at *
  generalize bc [0] [15]=Q at *
  generalize aR 1 16=b1 at *
  generalize aR 2 16=b2 at *
  generalize bP 1 (aR ((1:Nat):Int) 32) 0=ring at *
  generalize bf true (bN 1) 0 0=A1 at *
  generalize bf false (bN 1) 0 0=A2 at *
  unfold bp bM dZ at *
  simp only[VX,Wl,zD] at c2 c7;rw[show ((1:Nat):Int)=1 from rfl] at c4;generalize hP1:bO.pr.map zD=P1 at *
  generalize hP2:bO.al.map zD=P2 at *
  generalize bO.ho=P3 at *
  generalize bO.pt=P4 at *
  simp only[Ax,ah,af,aa,seval,iteOmega,toNatUp];refine sD (c1) ?_;refine sD (c2) ?_;refine sD (c3) ?_;refine sD (c4) ?_;refine sD (c5) ?_;refine sD (c6) ?_;refine sD (c7) ?_;refine sD (c8) ?_;have es:(⟨#[116,105,109,101,46,101,120,97,109,112,108,101]⟩:ByteArray)=zE:=rfl;simp only[af,aa,seval,iteOmega,toNatUp,es];exact aJ
theorem JI {l:List Ek} (h:bT l=0) (hf:iA l):cN (aO l)=0∧aD (aO l)=l∧dV (aO l):=by
  obtain⟨d1,d2⟩:=sW h;exact⟨d1,d2,d1,by rw[d2]; exact hf⟩
theorem mq (k:Int):(aI [k]).length=2:=eW [k]
theorem Kz (k:Int):cN (cC k)=0∧aD (cC k)=[⟨true,2,aI [k]⟩,⟨true,0,[]⟩]∧∀ c q,dv c→hC q→dQ c q (cC k)=7:=by
  have al:∀ n:Int,(2:Int)≠n→am [(⟨true,2,aI [k]⟩:Ek)] n=[]:=fun n hn=>by rw[cE hn,fw]
  have ok:bT [(⟨true,2,aI [k]⟩:Ek),⟨true,0,[]⟩]=0:=(nG (l:=[(⟨true,2,aI [k]⟩:Ek),⟨true,0,[]⟩]) (fun r hr=>by
    rcases V6.1 hr with rfl | hr
    ·exact dR (by decide) (by rw[mq]; decide)
    ·rw[VU.1 hr]; exact dR (by decide) (by decide)) (show 2≤64 by decide)).1
  have hf:iA ([(⟨true,2,aI [k]⟩:Ek)]++[⟨true,0,[]⟩]):=su (al 0 (by decide)) (by rw[al 1 (by decide)]; exact VY _) (by rw[al 4 (by decide)]; exact VY _) (by rw[al 6 (by decide)]; exact VY _) (by rw[al 7 (by decide)]; exact VY _) fun r hr=>by
    rw[VU.1 hr];exact lL (by decide) fun _=>by rw[mq]
  obtain⟨d1,d2,d3⟩:=JI ok hf;have d2:aD (cC k)=[⟨true,2,aI [k]⟩,⟨true,0,[]⟩]:=d2;refine⟨d1,d2,fun c q hv hq=>?_⟩;have d3:dV (cC k):=d3;have a2:(bI [(⟨true,2,aI [k]⟩:Ek),⟨true,0,[]⟩] 2).length≠0:=by
    rw[bJ,iV rfl,cE (by decide),fw];exact Nat.one_ne_zero
  unfold dQ;rw[if_neg (not_not_intro hv),if_neg (not_not_intro hq),if_neg (not_not_intro d3),d2,if_neg (show ¬ fq [(⟨true,2,aI [k]⟩:Ek),⟨true,0,[]⟩]=true from fun q=>Bool.false_ne_true q),if_pos a2]
def cT (e:Ek):List Ek:=[⟨true,1,aI [0]⟩,⟨true,4,aI [15]⟩,e,⟨true,0,[]⟩]
theorem KA {c:Bool} {t:Int} {b:List UInt8} (h1:8≤t) (h2:t≤32767) (h3:b.length≤255):bT (cT ⟨c,t,b⟩)=0∧iB (aO (cT ⟨c,t,b⟩))∧fq (aD (aO (cT ⟨c,t,b⟩)))=c∧eb (aD (aO (cT ⟨c,t,b⟩))) 1=[0]∧eb (aD (aO (cT ⟨c,t,b⟩))) 4=[15]:=by
  have al1:am (cT ⟨c,t,b⟩) 1=[⟨true,1,aI [0]⟩]:=by unfold cT; rw[iV rfl,cE (by decide),cE (by omega),cE (by decide),fw]
  have al4:am (cT ⟨c,t,b⟩) 4=[⟨true,4,aI [15]⟩]:=by unfold cT; rw[cE (by decide),iV rfl,cE (by omega),cE (by decide),fw]
  have an:∀ n:Int,n≤7→(1:Int)≠n→(4:Int)≠n→am [(⟨true,1,aI [0]⟩:Ek),⟨true,4,aI [15]⟩,⟨c,t,b⟩] n=[]:=fun n h q1 q4=>by rw[cE q1,cE q4,cE (by omega),fw]
  have ae:∀ n:Int,n≤7→(1:Int)≠n→(4:Int)≠n→(0:Int)≠n→am (cT ⟨c,t,b⟩) n=[]:=fun n h q1 q4 q0=>by unfold cT; rw[cE q1,cE q4,cE (by omega),cE q0,fw]
  have ok:bT (cT ⟨c,t,b⟩)=0:=by
    have hb:∀ r∈cT ⟨c,t,b⟩,0≤r.ty∧r.ty≤32767∧r.bo.length≤255:=fun r hr=>by
      unfold cT at hr;rcases V6.1 hr with rfl | hr
      ·exact⟨(by show (0:Int)≤1; decide),(by show (1:Int)≤32767; decide),(by show (aI [0]).length≤255; rw[mq]; decide)⟩
      ·rcases V6.1 hr with rfl | hr
       ·exact⟨(by show (0:Int)≤4; decide),(by show (4:Int)≤32767; decide),(by show (aI [15]).length≤255; rw[mq]; decide)⟩
       ·rcases V6.1 hr with rfl | hr
        ·exact⟨(by show (0:Int)≤t; omega),h2,h3⟩
        ·rw[VU.1 hr]; exact⟨(by show (0:Int)≤0; decide),(by show (0:Int)≤32767; decide),VY _⟩
    have hl:=nh (m:=255) fun r hr=>(hb r hr).2.2
    have h4:(cT ⟨c,t,b⟩).length=4:=rfl;exact (rZ (fun r hr=>rY (hb r hr).1 (hb r hr).2.1 (by have:=(hb r hr).2.2; omega)) (by omega) (by omega)).1
  have hf:iA ([(⟨true,1,aI [0]⟩:Ek),⟨true,4,aI [15]⟩,⟨c,t,b⟩]++[⟨true,0,[]⟩]):=by
    refine su (an 0 (by decide) (by decide) (by decide)) ?_ ?_ (by rw[an 6 (by decide) (by decide) (by decide)]; exact VY _) (by rw[an 7 (by decide) (by decide) (by decide)]; exact VY _) ?_
    ·rw[iV rfl,cE (by decide),cE (by omega),fw]; exact V0 _
    ·rw[cE (by decide),iV rfl,cE (by omega),fw]; exact V0 _
    ·intro r hr;rcases V6.1 hr with rfl | hr
     ·exact lL (by decide) fun _=>by rw[mq]
     ·rcases V6.1 hr with rfl | hr
      ·exact lL (by decide) fun _=>by rw[mq]
      ·rw[VU.1 hr]; exact lL (by omega) fun q=>by rcases q with q | q <;> omega
  obtain⟨d1,d2,d3⟩:=JI ok hf;have d2:aD (aO (cT ⟨c,t,b⟩))=cT ⟨c,t,b⟩:=d2;have n0:bH [0]∧bH [15]:=by decide
  refine⟨ok,?_,?_,?_,?_⟩
  ·refine⟨d3,?_,?_,?_⟩
   ·rw[d2,bJ,al1]; exact Nat.one_ne_zero
   ·rw[d2,bJ,al4]; exact Nat.one_ne_zero
   ·rw[d2,bJ,bJ,bJ,ae 2 (by decide) (by decide) (by decide) (by decide),ae 3 (by decide) (by decide) (by decide) (by decide),ae 5 (by decide) (by decide) (by decide) (by decide)]; rfl
  ·rw[d2];unfold fq cT;simp only[List.any_cons,List.any_nil,Bool.true_and,Bool.or_false];rw[decide_eq_false (show ¬ (7:Int)<1 by decide),decide_eq_false (show ¬ (7:Int)<4 by decide),decide_eq_false (show ¬ (7:Int)<0 by decide),decide_eq_true (show 7<t by omega),Bool.false_or,Bool.false_or,Bool.and_true,Bool.or_false]
  ·rw[d2,pC al1,jg n0.1]
  ·rw[d2,pC al4,jg n0.2]
def iE:List Ek:=[⟨true,1,aI [0]⟩,⟨true,1,aI [0]⟩,⟨true,4,aI [15]⟩,⟨true,0,[]⟩]
theorem Vv:bT iE=0∧¬ iB (aO iE):=by
  have ok:bT iE=0:=(nG (l:=iE) (fun r hr=>by
    unfold iE at hr;rcases V6.1 hr with rfl | hr
    ·exact dR (by decide) (by decide)
    ·rcases V6.1 hr with rfl | hr
     ·exact dR (by decide) (by decide)
     ·rcases V6.1 hr with rfl | hr
      ·exact dR (by decide) (by decide)
      ·rw[VU.1 hr]; exact dR (by decide) (by decide)) (show 4≤64 by decide)).1
  refine⟨ok,fun q=>?_⟩;have h:=q.1.2.1.2.2.2.1;obtain⟨_,d2⟩:=sW ok;rw[d2,bJ] at h;unfold iE at h;rw[iV rfl,iV rfl,cE (by decide),cE (by decide),fw] at h;exact absurd h (show ¬ (2:Nat)≤1 by decide)
theorem RN {p:dP} {r:List Fd} {c:Ch} {b:List UInt8} {ns:List (List UInt8)}:(dD p r c b ns).length≤4000:=by
  by_cases h0:eH p r c=0
  ·obtain⟨vC,vR,s1,s2,s3⟩:=KY h0;have rf:∀ k:Int,(cC k).length≤4000:=fun k=>by
     have:(cC k).length≤2*(2+4):=nh (m:=2) fun e he=>by
       rcases V6.1 he with rfl | he
       ·show (aI [k]).length≤2; rw[eW]; exact V0 _
       ·rw[VU.1 he]; exact VY _
     omega
   unfold dD;rw[if_neg (not_not_intro h0)];by_cases h1:iB b
   ·rw[if_neg (not_not_intro h1)];split
    ·exact rf 0
    ·by_cases hn:jy ns p.ho
     ·rw[if_neg (not_not_intro hn)];have ok:(∀ e∈ew p r c (eb (aD b) 1) (eb (aD b) 4) ns,0≤e.ty∧e.ty≤7∧e.bo.length≤255)∧(ew p r c (eb (aD b) 1) (eb (aD b) 4) ns).length≤10:=by
        unfold ew;rcases hx:dO (eb (aD b) 1) p.pr with _ | v
        ·exact⟨fun e he=>(by rw[VU.1 he]; exact dR (by decide) (by decide)),show 1≤10 by decide⟩
        ·rcases hy:dO (eb (aD b) 4) p.al with _ | a
         ·refine⟨fun e he=>?_,show 2≤10 by decide⟩;rcases V6.1 he with rfl | he
          ·exact dR (by decide) (by rw[eW]; exact (show 2*1≤255 by decide))
          ·rw[VU.1 he]; exact dR (by decide) (by decide)
         ·have v2:=s1 _ (kL hx).2;have b2:=s2 _ (kL hy).2;have:=JC (ns:=ns) vR (nK vC v2 b2) b2 hn.2.2.2;have e:fi r c v a ns ns.length=⟨true,1,aI [v]⟩::⟨true,4,aI [a]⟩::ft r c v a ns:=by unfold fi; rw[WP]
          rw[e] at this;refine⟨this,?_⟩;have:=xa r c v a ns ns.length;rw[e] at this;have h8:=hn.2.1
          show (⟨true,1,aI [v]⟩::⟨true,4,aI [a]⟩::ft r c v a ns:List Ek).length≤10
          omega
      have h9:=nh (m:=255) fun e he=>((V8.1 he).elim (ok.1 e) (yc hn.2.2.1 e)).2.2
      have h3:=xe p;have h10:=ok.2;rw[VR] at h9;omega
     ·rw[if_pos hn]; exact rf 2
   ·rw[if_pos h1]; exact rf 1
  ·rw[show dD p r c b ns=[] from if_pos h0]; exact VY _
theorem Vw:dh [0] [15]=0∧bc [0] [15]=aO (dC [0] [15])∧(bc [0] [15]).length≤65535∧cN (bc [0] [15])=0∧aD (bc [0] [15])=[⟨true,1,aI [0]⟩,⟨true,4,aI [15]⟩,⟨true,0,[]⟩]:=by
  have h:dh [0] [15]=0:=by decide
  obtain⟨d1,d2,_⟩:=tg h;have e:bc [0] [15]=aO (dC [0] [15]):=if_pos h;exact⟨h,e,by rw[e]; exact (gA (xO h).1).2.2,d1,d2⟩
def pq:aF:=⟨4,199,.seq (.reg [oO 8 (.mv (.k (.c (.d (.bool false)))))]) (.seq (.seq (.reg [oM 29 2,oO 30 (.len (.t 29)),oO 31 (.bin .gtr (.t 30) (kI 60))]) (.cond (.t 31) (.seq (.reg [oO 32 (.call 9 [] none),oM 8 32]) (.ret)) (.skip))) (.seq (.reg [oM 34 0,oO 35 (.call 24 [(.t 34),(kI 1000)] none),oO 36 (.call 23 [(.t 35)] none),oM 33 36,oO 37 (.extract (.t 33) 0),oO 38 (.extract (.t 33) 1),oO 9 (.alloc [(.d (.bool false)),.nil,.nil,.nil,(.d (.int .i64 0)),(.d (.int .i64 0))]),oO 10 (.alloc [(.d (.bool false)),.nil,.nil,.nil,(.d (.int .i64 0)),(.d (.int .i64 0))]),oN (.store (.ag 6) (.t 9) (.t 37)),oN (.store (.ag 6) (.t 10) (.t 38))]) (.seq (.reg [oO 39 (.call 25 [(kI 1),(kI 0)] none),oO 11 (.alloc [.nil]),oN (.store (.ag 1) (.t 11) (.t 39))]) (.seq (.reg [oO 41 (.bldSl false 1 1 (.int .i64 0) [(0,(kI 0))]),
 oO 42 (.bldSl false 1 1 (.int .i64 0) [(0,(kI 15))]),oO 43 (.call 16 [(.t 41),(.t 42)] none),oM 40 43,oO 44 (.extract (.t 40) 0),oO 45 (.extract (.t 40) 1),oM 12 44,oM 13 45]) (.seq (.reg [oM 47 12,oO 48 (.call 13 [(.t 47)] none),oM 46 48,oO 49 (.extract (.t 46) 0),oO 50 (.extract (.t 46) 1),oM 14 49,oM 15 50]) (.seq (.seq (.reg [oM 51 13,oO 52 (.bin .neq (.t 51) (kI 0)),oM 53 52,oG 54 (.mv (.t 15)) 53 false,oG 55 (.bin .neq (.t 54) (kI 0)) 53 false,oO 56 (.pick (.t 53) (.k (.c (.d (.bool true)))) (.t 55)),oM 57 56,oG 58 (.mv (.t 14)) 57 false,oG 59 (.len (.t 58)) 57 false,oG 60 (.bin .neq (.t 59) (kI 3)) 57 false,oO 61 (.pick (.t 57) (.k (.c (.d (.bool true)))) (.t 60))]) (.cond (.t 61) (.seq (.reg [oO 8 (.mv (.k (.c (.d (.bool false)))))]) (.ret)) (.skip))) (.seq (.reg [oM 62 3,oO 63 (.call 24 [(.t 62),(kI 3)] none),
 oO 64 (.bin .eql (.t 63) (kI 0)),oM 65 1,oO 66 (.call 24 [(.t 65),(kI 30000)] none),oO 67 (.bin .add (kI 8) (.t 66)),oM 68 2,oO 69 (.build [(.d (.bool false)),(.d (.int .i64 0)),.nil] [(0,1,(.t 64)),(1,1,(.t 67)),(2,1,(.t 68))]),oO 16 (.alloc [(.d (.bool false)),(.d (.int .i64 0)),.nil]),oN (.store (.ag 3) (.t 16) (.t 69))]) (.seq (.reg [oM 70 14,oO 71 (.idxSl 3 (.t 70) (kI 0)),oO 72 (.load (.ag 3) (.t 71)),oM 73 14,oO 74 (.idxSl 3 (.t 73) (kI 1)),oO 75 (.load (.ag 3) (.t 74)),oO 76 (.load (.ag 3) (.t 16)),oM 77 14,oO 78 (.idxSl 3 (.t 77) (kI 2)),oO 79 (.load (.ag 3) (.t 78)),oO 80 (.bldSl false 4 3 (.agg [(.bool false),(.int .i64 0),(.sl [])]) [(0,(.t 72)),(1,(.t 75)),(2,(.t 76)),(3,(.t 79))]),oM 17 80]) (.seq (.seq (.reg [oM 81 3,oO 82 (.call 24 [(.t 81),(kI 3)] none),oO 83 (.bin .eql (.t 82) (kI 2))])
 (.cond (.t 83) (.reg [oM 84 14,oO 85 (.idxSl 3 (.t 84) (kI 0)),oO 86 (.load (.ag 3) (.t 85)),oM 87 14,oO 88 (.idxSl 3 (.t 87) (kI 0)),oO 89 (.load (.ag 3) (.t 88)),oM 90 14,oO 91 (.idxSl 3 (.t 90) (kI 1)),oO 92 (.load (.ag 3) (.t 91)),oM 93 14,oO 94 (.idxSl 3 (.t 93) (kI 2)),oO 95 (.load (.ag 3) (.t 94)),oO 96 (.bldSl false 4 3 (.agg [(.bool false),(.int .i64 0),(.sl [])]) [(0,(.t 86)),(1,(.t 89)),(2,(.t 92)),(3,(.t 95))]),oM 17 96]) (.skip))) (.seq (.reg [oM 98 17,oO 99 (.call 11 [(.t 98)] none),oM 97 99,oO 100 (.extract (.t 97) 0),oO 101 (.extract (.t 97) 1),oM 18 100,oM 19 101]) (.seq (.reg [oO 103 (.call 39 [] none),oO 104 (.load (.ag 1) (.t 11)),oO 105 (.load (.ag 6) (.t 10)),oM 106 18,oO 107 (.call 35 [(kI 1),(kI 16)] none),oO 108 (.bldSl false 1 1 (.sl []) [(0,(.t 107))]),oO 109 (.call 28 [(.t 103),(.t 104),(.t 105),(.t 106),(.t 108)] none),
 oM 102 109,oO 110 (.extract (.t 102) 0),oO 111 (.extract (.t 102) 1),oM 20 110,oM 21 111]) (.seq (.reg [oO 113 (.call 39 [] none),oO 114 (.load (.ag 1) (.t 11)),oO 115 (.load (.ag 6) (.t 10)),oM 116 12,oO 117 (.call 35 [(kI 1),(kI 16)] none),oO 118 (.bldSl false 1 1 (.sl []) [(0,(.t 117))]),oO 119 (.call 28 [(.t 113),(.t 114),(.t 115),(.t 116),(.t 118)] none),oM 112 119,oO 120 (.extract (.t 112) 0),oO 121 (.extract (.t 112) 1),oM 22 120,oM 23 121]) (.seq (.seq (.reg [oM 122 19,oO 123 (.bin .neq (.t 122) (kI 0)),oM 124 123,oG 125 (.mv (.t 21)) 124 false,oG 126 (.bin .neq (.t 125) (kI 0)) 124 false,oO 127 (.pick (.t 124) (.k (.c (.d (.bool true)))) (.t 126)),oM 128 127,oG 129 (.mv (.t 23)) 128 false,oG 130 (.bin .neq (.t 129) (kI 0)) 128 false,oO 131 (.pick (.t 128) (.k (.c (.d (.bool true)))) (.t 130))])
 (.cond (.t 131) (.seq (.reg [oO 8 (.mv (.k (.c (.d (.bool false)))))]) (.ret)) (.skip))) (.seq (.reg [oO 133 (.load (.ag 6) (.t 9)),oM 134 12,oM 135 20,oO 136 (.call 30 [(.t 133),(.t 134),(.t 135)] none),oM 132 136,oO 137 (.extract (.t 132) 0),oO 138 (.extract (.t 132) 1),oO 24 (.alloc [(.d (.int .i64 0)),(.d (.int .i64 0)),.nil,.nil,.nil,(.d (.str ⟨#[]⟩)),(.d (.int .i64 0))]),oN (.store (.ag 7) (.t 24) (.t 137)),oM 25 138]) (.seq (.seq (.reg [oM 139 3,oO 140 (.call 24 [(.t 139),(kI 3)] none),oO 141 (.bin .eql (.t 140) (kI 1))]) (.cond (.t 141) (.seq (.reg [oO 142 (.call 9 [] none),oM 143 142,oG 144 (.mv (.t 20)) 143 true,oG 145 (.mv (.t 22)) 143 true,oG 146 (.call 20 [(.t 144),(.t 145)] none) 143 true,oO 147 (.pick (.t 143) (.t 146) (.k (.c (.d (.bool false))))),oM 148 147,oG 149 (.mv (.t 25)) 148 true,
 oG 150 (.bin .eql (.t 149) (kI 0)) 148 true,oO 151 (.pick (.t 148) (.t 150) (.k (.c (.d (.bool false))))),oM 8 151]) (.ret)) (.skip))) (.seq (.reg [oM 153 20,oO 154 (.call 12 [(.t 153)] none),oM 152 154,oO 155 (.extract (.t 152) 0),oO 156 (.extract (.t 152) 1),oM 26 155,oM 27 156]) (.seq (.reg [oO 28 (.mv (.k (.c (.d (.int .u8 0)))))]) (.seq (.seq (.reg [oM 157 3,oO 158 (.call 24 [(.t 157),(kI 3)] none),oO 159 (.bin .eql (.t 158) (kI 2))]) (.cond (.t 159) (.reg [oO 28 (.mv (.k (.c (.d (.int .u8 1)))))]) (.skip))) (.seq (.reg [oO 160 (.call 9 [] none),oM 161 160,oG 162 (.mv (.t 27)) 161 true,oG 163 (.bin .eql (.t 162) (kI 0)) 161 true,oO 164 (.pick (.t 161) (.t 163) (.k (.c (.d (.bool false))))),oM 165 164,oG 166 (.mv (.t 25)) 165 true,oG 167 (.bin .eql (.t 166) (kI 7)) 165 true,oO 168 (.pick (.t 165) (.t 167) (.k (.c (.d (.bool false))))),
 oM 169 168,oG 170 (.mv (.t 26)) 169 true,oG 171 (.len (.t 170)) 169 true,oG 172 (.bin .eql (.t 171) (kI 2)) 169 true,oO 173 (.pick (.t 169) (.t 172) (.k (.c (.d (.bool false))))),oM 174 173,oG 175 (.mv (.t 26)) 174 true,oG 176 (.idxSl 3 (.t 175) (kI 0)) 174 true,oG 177 (.fieldAddr 1 (.t 176)) 174 true,oG 178 (.load .sc (.t 177)) 174 true,oG 179 (.bin .eql (.t 178) (kI 2)) 174 true,oO 180 (.pick (.t 174) (.t 179) (.k (.c (.d (.bool false))))),oM 181 180,oG 182 (.mv (.t 26)) 181 true,oG 183 (.idxSl 3 (.t 182) (kI 0)) 181 true,oG 184 (.fieldAddr 2 (.t 183)) 181 true,oG 185 (.load .sc (.t 184)) 181 true,oG 186 (.len (.t 185)) 181 true,oG 187 (.bin .eql (.t 186) (kI 2)) 181 true,oO 188 (.pick (.t 181) (.t 187) (.k (.c (.d (.bool false))))),oM 189 188,oG 190 (.mv (.t 26)) 189 true,oG 191 (.idxSl 3 (.t 190) (kI 0)) 189 true,
 oG 192 (.fieldAddr 2 (.t 191)) 189 true,oG 193 (.load .sc (.t 192)) 189 true,oG 194 (.idxSl 1 (.t 193) (kI 1)) 189 true,oG 195 (.load .sc (.t 194)) 189 true,oG 196 (.mv (.t 28)) 189 true,oG 197 (.bin .eql (.t 195) (.t 196)) 189 true,oO 198 (.pick (.t 189) (.t 197) (.k (.c (.d (.bool false))))),oM 8 198]) (.ret)))))))))))))))))))),[(8,none)]⟩
theorem RO:aE Tryz.prog { own:=[],comp:=[],frz:=[],nils:=[] } Tryz.f7=some pq:=by kernel_rfl
set_option maxHeartbeats 1600000 in
theorem UH (G:ai) (seed:Int) (hseed1:-9223372036854775808≤seed) (hseed2:seed≤9223372036854775807) (kind:Int) (hkind1:-9223372036854775808≤kind) (hkind2:kind≤9223372036854775807) (body:List UInt8) (hbody:body.length≤maxLen) (what:Int) (hwhat1:-9223372036854775808≤what) (hwhat2:what≤9223372036854775807) (hF:G.at 0=some (.ra (cX.map wD))) (hG:G.at 1=some (.ra (bB.map wD))):au Tryz.prog G 7 [.int .i64 seed,.int .i64 kind,.sl (body.map bD),.int .i64 what] (.w (.c (.d (.bool true)))):=by
  refine aG Tryz.func7 RO rfl rfl ?_;have hmx:maxLen=9223372036854775807:=rfl;have ck:=NA G hF hG;by_cases h1:(body.length:Int)>60
  ·have g1:=eq_true h1;simp only[pq,ah,af,aa,seval,iteOmega,toNatUp,g1];refine sD (ck) ?_;exact aJ
  ·have g1:=eq_false h1;have c0:=o5 G seed 1000 (by decide);have c1:=Kg G (bi seed 1000);have kl:=GJ (bi seed 1000);have c2:=Ki G 1 0 (by decide);rw[show (bi 0 6).toNat=0 from by decide] at c2;obtain⟨q0,q1,q2,q3,q4⟩:=Vw;have c3:=yO G [0] [15] (show (1:Nat)≤_ by decide) (show (1:Nat)≤_ by decide);have c4:=U5 G (bc [0] [15]) (by omega);rw[q3,q4] at c4;rw[q0] at c3;have w3:=o5 G what 3 (by decide);obtain⟨w1,w2⟩:=ud what 3 (by decide);have k3:=o5 G kind 30000 (by decide);obtain⟨k1,k2⟩:=ud kind 30000 (by decide);have cp:=G8 G;have cb:=o6 G 1 16 (by decide);have bl:(aR 1 16).length=16:=mD _ _;have hs:=G9 (s:=1) (K:=aR ((1:Nat):Int) 32) (t:=0) (n:=0) (m:=0) false (by decide) kl;have hn:jy [aR 1 16] bO.ho:=⟨V0 _,show (1:Nat)≤8 by decide,by decide,fun n hn=>by rw[VU.1 hn]; exact bl⟩
   have rl:=lD 1 (aR ((1:Nat):Int) 32) 0;have hv:=zk (cl:=true) (n:=0) (m:=0) kl (by decide) (by decide);obtain⟨_,_,ag⟩:=agree (c':=bf true (bN (bi seed 1000)) 0 0) q0 hs hn hv rfl;obtain⟨a1,a2,_⟩:=ag 0 15 (by decide) (by decide);obtain⟨fQ,_⟩:=zn q0;have hR:∀ b:List UInt8,b.length≤1000000000→au Tryz.prog G _ [dZ bO,bM (bP 1 (aR ((1:Nat):Int) 32) 0),bp (bf false (bN (bi seed 1000)) 0 0),.sl (b.map bD),.sl (([aR 1 16]:List (List UInt8)).map fun l=>D.sl (l.map bD))] (.tup [.c (.d (.sl ((dD bO (bP 1 (aR ((1:Nat):Int) 32) 0) (bf false (bN (bi seed 1000)) 0 0) b [aR 1 16]).map bD))),.c (.d (.int .i64 0))]):=fun b hb=>by
     have:=Ku G hF hG bO (bP 1 (aR ((1:Nat):Int) 32) 0) (bf false (bN (bi seed 1000)) 0 0) b [aR 1 16] (by decide) (by decide) (by decide) (by omega) hb (show (1:Nat)≤_ by decide) (fun n hn=>by rw[VU.1 hn]; omega);rw[hs] at this;exact this
   have hF:∀ b:List UInt8,b.length≤1000000000→au Tryz.prog G _ [bp (bf true (bN (bi seed 1000)) 0 0),.sl ((bc [0] [15]).map bD),.sl (b.map bD)] (.tup [.c (.d (jz (ja (bf true (bN (bi seed 1000)) 0 0) (bc [0] [15]) b))),.c (.d (.int .i64 (dQ (bf true (bN (bi seed 1000)) 0 0) (bc [0] [15]) b)))]):=fun b hb=>Ky G hF hG _ _ b (by omega) hb
   have r1:=hR (bc [0] [15]) (by omega);have hc:(dh [0] [15]=0):=q0;have oq:=KW q0;have rs:∀ b:List UInt8,dD bO (bP 1 (aR ((1:Nat):Int) 32) 0) (bf false (bN (bi seed 1000)) 0 0) b [aR 1 16]=if ¬ iB b then cC 1 else if fq (aD b)=true then cC 0 else if ¬ jy [aR 1 16] bO.ho then cC 2 else aO (ew bO (bP 1 (aR ((1:Nat):Int) 32) 0) (bf false (bN (bi seed 1000)) 0 0) (eb (aD b) 1) (eb (aD b) 4) [aR 1 16]++gq bO):=fun b=>if_neg (not_not_intro hs)
   generalize hw:bi what 3=w at *
   have h3:w=0∨w=1∨w=2:=by omega
   have rfl1:∀ k:Int,(cC k).length≤1000:=fun k=>by
     have:(cC k).length≤2*(2+4):=nh (m:=2) fun e he=>by
       rcases V6.1 he with rfl | he
       ·show (aI [k]).length≤2; rw[mq]; exact V0 _
       ·rw[VU.1 he]; exact VY _
     omega
   have s1:=P6 G (dD bO (bP 1 (aR ((1:Nat):Int) 32) 0) (bf false (bN (bi seed 1000)) 0 0) (bc [0] [15]) [aR 1 16]) (dD bO (bP 1 (aR ((1:Nat):Int) 32) 0) (bf false (bN (bi seed 1000)) 0 0) (bc [0] [15]) [aR 1 16]);rw[beq_self_eq_true] at s1;have tl:=RN (p:=bO) (r:=bP 1 (aR ((1:Nat):Int) 32) 0) (c:=bf false (bN (bi seed 1000)) 0 0) (b:=bc [0] [15]) (ns:=[aR 1 16]);rcases h3 with rfl | rfl | rfl
   ·obtain⟨x1,x2,x3,_,_⟩:=KA (c:=true) (t:=8+bi kind 30000) (b:=body) (by omega) (by omega) (by omega);have x5:dD bO (bP 1 (aR ((1:Nat):Int) 32) 0) (bf false (bN (bi seed 1000)) 0 0) (aO (cT ⟨true,8+bi kind 30000,body⟩)) [aR 1 16]=cC 0:=by rw[rs,if_neg (not_not_intro x2),x3,if_pos rfl]
    have xl:=(gA x1).2.2;have c5:=yI G (cT ⟨true,8+bi kind 30000,body⟩) (show (4:Nat)≤_ by decide) (fun r hr=>by have:=(ij ((gA x1).1 r hr)).2.2; omega);rw[x1,show fc (cT ⟨true,8+bi kind 30000,body⟩)=_ from if_pos x1] at c5;have r2:=hR (aO (cT ⟨true,8+bi kind 30000,body⟩)) (by omega);rw[x5] at r2;obtain⟨d1,d2,d3⟩:=Kz 0;have c6:=hF (cC 0) (by have:=rfl1 0; omega);rw[d3 _ _ hv fQ] at c6;have c7:=yN G (cC 0) (by have:=rfl1 0; omega);rw[d1,d2] at c7;generalize aO (cT ⟨true,8+bi kind 30000,body⟩)=E1 at *
    unfold cT at c5;simp only[VX,Wl,aH,zD] at c3 c4 c5 c7 r1 r2;have bo0:aI [0]=[0,0]:=by decide
    rw[bo0] at c7;clear a1 a2 ag hR hF rs d3 s1 tl hs hn oq x2 x3 x5;generalize ja (bf true (bN (bi seed 1000)) 0 0) (bc [0] [15]) (cC 0)=tm at *
    generalize dD _ _ _ (bc [0] [15]) _=R1 at *
    generalize cC 0=R2 at *
    generalize bc [0] [15]=Q at *
    generalize aI [0]=B0 at *
    generalize aI [15]=B15 at *
    generalize aR 1 16=N at *
    generalize bP 1 (aR ((1:Nat):Int) 32) 0=ring at *
    generalize bf true (bN (bi seed 1000)) 0 0=A1 at *
    generalize bf false (bN (bi seed 1000)) 0 0=A2 at *
    generalize bi seed 1000=sd at *
    generalize bi kind 30000=kk at *
    unfold bp bM dZ jz at *
    generalize bO.pr.map zD=P1 at *
    generalize bO.al.map zD=P2 at *
    generalize bO.ho=P3 at *
    generalize bO.pt=P4 at *
    rw[show ((1:Nat):Int)=1 from rfl] at c2;simp only[pq,ah,af,aa,seval,iteOmega,toNatUp,g1];refine sD (c0) ?_;refine sD (c1) ?_;refine sD (c2) ?_;refine sD (c3) ?_;refine sD (c4) ?_;refine sD (w3) ?_;refine sD (k3) ?_;refine sD (w3) ?_;refine sD (c5) ?_;refine sD (cp) ?_;refine sD (cb) ?_;refine sD (r2) ?_;refine sD (cp) ?_;refine sD (cb) ?_;refine sD (r1) ?_;refine sD (c6) ?_;refine sD (w3) ?_;refine sD (c7) ?_;refine sD (w3) ?_;refine sD (ck) ?_;exact aJ
   ·obtain⟨x1,x2,x3,x6,x7⟩:=KA (c:=false) (t:=8+bi kind 30000) (b:=body) (by omega) (by omega) (by omega);have x5:dD bO (bP 1 (aR ((1:Nat):Int) 32) 0) (bf false (bN (bi seed 1000)) 0 0) (aO (cT ⟨false,8+bi kind 30000,body⟩)) [aR 1 16]=dD bO (bP 1 (aR ((1:Nat):Int) 32) 0) (bf false (bN (bi seed 1000)) 0 0) (bc [0] [15]) [aR 1 16]:=by
      obtain⟨o1,o2,o3,o4⟩:=oq;rw[rs,rs,if_neg (not_not_intro x2),if_neg (not_not_intro o1),x3,o2,x6,x7,o3,o4]
    have xl:=(gA x1).2.2;have c5:=yI G (cT ⟨false,8+bi kind 30000,body⟩) (show (4:Nat)≤_ by decide) (fun r hr=>by have:=(ij ((gA x1).1 r hr)).2.2; omega);rw[x1,show fc (cT ⟨false,8+bi kind 30000,body⟩)=_ from if_pos x1] at c5;have r2:=hR (aO (cT ⟨false,8+bi kind 30000,body⟩)) (by omega);rw[x5] at r2;have c6:=hF _ (Wz tl (by decide));rw[a1] at c6;generalize aO (cT ⟨false,8+bi kind 30000,body⟩)=E1 at *
    unfold cT at c5;simp only[VX,Wl,aH,zD] at c3 c4 c5 r1 r2;clear a1 a2 ag hR hF rs tl hs hn oq x2 x3 x5 x6 x7;generalize ja (bf true (bN (bi seed 1000)) 0 0) (bc [0] [15]) (dD _ _ _ (bc [0] [15]) _)=tm at *
    generalize dD _ _ _ (bc [0] [15]) _=R1 at *
    generalize bc [0] [15]=Q at *
    generalize aI [0]=B0 at *
    generalize aI [15]=B15 at *
    generalize aR 1 16=N at *
    generalize bP 1 (aR ((1:Nat):Int) 32) 0=ring at *
    generalize bf true (bN (bi seed 1000)) 0 0=A1 at *
    generalize bf false (bN (bi seed 1000)) 0 0=A2 at *
    generalize bi seed 1000=sd at *
    generalize bi kind 30000=kk at *
    unfold bp bM dZ jz at *
    generalize bO.pr.map zD=P1 at *
    generalize bO.al.map zD=P2 at *
    generalize bO.ho=P3 at *
    generalize bO.pt=P4 at *
    rw[show ((1:Nat):Int)=1 from rfl] at c2;simp only[pq,ah,af,aa,seval,iteOmega,toNatUp,g1];refine sD (c0) ?_;refine sD (c1) ?_;refine sD (c2) ?_;refine sD (c3) ?_;refine sD (c4) ?_;refine sD (w3) ?_;refine sD (k3) ?_;refine sD (w3) ?_;refine sD (c5) ?_;refine sD (cp) ?_;refine sD (cb) ?_;refine sD (r2) ?_;refine sD (cp) ?_;refine sD (cb) ?_;refine sD (r1) ?_;refine sD (c6) ?_;refine sD (w3) ?_;refine sD (ck) ?_;refine sD (s1) ?_;exact aJ
   ·obtain⟨x1,x2⟩:=Vv;have x5:dD bO (bP 1 (aR ((1:Nat):Int) 32) 0) (bf false (bN (bi seed 1000)) 0 0) (aO iE) [aR 1 16]=cC 1:=by rw[rs,if_pos x2]
    have xl:=(gA x1).2.2;have c5:=yI G iE (show (4:Nat)≤_ by decide) (fun r hr=>by have:=(ij ((gA x1).1 r hr)).2.2; omega);rw[x1,show fc iE=_ from if_pos x1] at c5;have r2:=hR (aO iE) (by omega);rw[x5] at r2;obtain⟨d1,d2,d3⟩:=Kz 1;have c6:=hF (cC 1) (by have:=rfl1 1; omega);rw[d3 _ _ hv fQ] at c6;have c7:=yN G (cC 1) (by have:=rfl1 1; omega);rw[d1,d2] at c7;generalize aO iE=E1 at *
    unfold iE at c5;simp only[VX,Wl,aH,zD] at c3 c4 c5 c7 r1 r2;have bo0:aI [1]=[0,1]:=by decide
    rw[bo0] at c7;clear a1 a2 ag hR hF rs d3 s1 tl hs hn oq x2 x5;generalize ja (bf true (bN (bi seed 1000)) 0 0) (bc [0] [15]) (cC 1)=tm at *
    generalize dD _ _ _ (bc [0] [15]) _=R1 at *
    generalize cC 1=R2 at *
    generalize bc [0] [15]=Q at *
    generalize aI [0]=B0 at *
    generalize aI [15]=B15 at *
    generalize aR 1 16=N at *
    generalize bP 1 (aR ((1:Nat):Int) 32) 0=ring at *
    generalize bf true (bN (bi seed 1000)) 0 0=A1 at *
    generalize bf false (bN (bi seed 1000)) 0 0=A2 at *
    generalize bi seed 1000=sd at *
    generalize bi kind 30000=kk at *
    unfold bp bM dZ jz at *
    generalize bO.pr.map zD=P1 at *
    generalize bO.al.map zD=P2 at *
    generalize bO.ho=P3 at *
    generalize bO.pt=P4 at *
    rw[show ((1:Nat):Int)=1 from rfl] at c2;simp only[pq,ah,af,aa,seval,iteOmega,toNatUp,g1];refine sD (c0) ?_;refine sD (c1) ?_;refine sD (c2) ?_;refine sD (c3) ?_;refine sD (c4) ?_;refine sD (w3) ?_;refine sD (k3) ?_;refine sD (w3) ?_;refine sD (c5) ?_;refine sD (cp) ?_;refine sD (cb) ?_;refine sD (r2) ?_;refine sD (cp) ?_;refine sD (cb) ?_;refine sD (r1) ?_;refine sD (c6) ?_;refine sD (w3) ?_;refine sD (c7) ?_;refine sD (w3) ?_;refine sD (ck) ?_;exact aJ
end Go.Proofs.YtlghfnidknfakaaGreatDoor
