/- Texts of one's own, merged: from: Layer 21 on data: the reference: Encode,body,short,Numbers,all,Request,has,Choose,strange. Own work. -/
import Derived.Test.YtlghfnidknfakaaGreatDoorMg117
import Derived.Test.YtlghfnidknfakaaGreatDoorMg110
import Derived.Test.YtlghfnidknfakaaGreatDoorMg118
import Derived.Test.YtlghfnidknfakaaGreatDoorMg116
import Derived.Test.YtlghfnidknfakaaGreatDoorMg17
import Derived.Test.YtlghfnidknfakaaGreatDoorMg114
import Derived.Shelf.Abstract
import Derived.Test.YtlghfnidknfakaaGreatDoorMg19
set_option linter.unusedVariables false
set_option linter.unusedSimpArgs false
namespace Go.Proofs.YtlghfnidknfakaaGreatDoor
open Go.RowKit IntWalk
theorem PN (a:Nat) (h:a<32768):bits .or .u64 (a:Int) 32768=((a+32768:Nat):Int):=by
  have e1:(BitVec.ofInt 64 (a:Int)).toNat=a:=by rw[BitVec.toNat_ofInt]; omega
  have e2:(BitVec.ofInt 64 (32768:Int)).toNat=32768:=by decide
  have e:32768 ||| a=a+32768:=by
    have:=Nat.two_pow_add_eq_or_of_lt (i:=15) (b:=a) (by omega) 1;rw[show 2^15*1=32768 from rfl] at this;rw[← this]; omega
  show IntKind.u64.wrap ((BitVec.ofInt 64 (a:Int) ||| BitVec.ofInt 64 (32768:Int)).toNat:Nat)=_
  rw[BitVec.toNat_or,e1,e2,Nat.or_comm,e,IntKind.wrap_u64];omega
theorem NU (n:Int):bits .and .i64 n 32767=n%32768:=EO 15 32767 (by decide) n (by decide)
def iR (l:List Ek) (i:Nat):St:=⟨aQ [(0,.w (.c (.d (.sl (l.map aF))))),(4,.w (.c (.own 1 1 0 (dJ l i).length))),(5,.w (.c (.d (.int .i64 (i:Int)))))],hL [(1,.row 1 ((dJ l i).map bD))],uL [1]⟩
def iG:aM := .seq (.seq (.reg [oM 8 5,oM 9 0,oO 10 (.len (.t 9)),oO 11 (.bin .lss (.t 8) (.t 10))]) (.cond (.t 11) (.skip) (.exit 0))) (.seq (.block 1 (.seq (.seq (.reg [oM 14 0,oM 15 5,oO 16 (.idxSl 3 (.t 14) (.t 15)),oO 17 (.fieldAddr 1 (.t 16)),oO 18 (.load .sc (.t 17)),oO 19 (.bin .lss (.t 18) (kI 0)),oM 20 19,oG 21 (.mv (.t 0)) 20 false,oG 22 (.mv (.t 5)) 20 false,oG 23 (.idxSl 3 (.t 21) (.t 22)) 20 false,oG 24 (.fieldAddr 1 (.t 23)) 20 false,oG 25 (.load .sc (.t 24)) 20 false,oG 26 (.bin .gtr (.t 25) (kI 32767)) 20 false,oO 27 (.pick (.t 20) (.k (.c (.d (.bool true)))) (.t 26))]) (.cond (.t 27) (.seq (.reg [oO 2 (.mv (.k (.c .nil))),oO 3 (.mv (kI 4))]) (.ret)) (.skip))) (.seq (.seq (.reg [oM 28 0,oM 29 5,oO 30 (.idxSl 3 (.t 28) (.t 29)),oO 31 (.fieldAddr 2 (.t 30)),oO 32 (.load .sc (.t 31)),
 oO 33 (.len (.t 32)),oO 34 (.bin .gtr (.t 33) (kI 65535))]) (.cond (.t 34) (.seq (.reg [oO 2 (.mv (.k (.c .nil))),oO 3 (.mv (kI 2))]) (.ret)) (.skip))) (.seq (.reg [oM 35 0,oM 36 5,oO 37 (.idxSl 3 (.t 35) (.t 36)),oO 38 (.fieldAddr 1 (.t 37)),oO 39 (.load .sc (.t 38)),oO 40 (.conv .u64 (.t 39)),oM 6 40]) (.seq (.seq (.reg [oM 41 0,oM 42 5,oO 43 (.idxSl 3 (.t 41) (.t 42)),oO 44 (.fieldAddr 0 (.t 43)),oO 45 (.load .sc (.t 44))]) (.cond (.t 45) (.reg [oM 46 6,oO 47 (.bin .or (.t 46) (.k (.c (.d (.int .u64 32768))))),oM 6 47]) (.skip))) (.seq (.reg [oM 48 4,oO 49 (.len (.t 48)),oO 50 (.bin .leq (.t 49) (kI 65535))]) (.cond (.t 50) (.reg [oM 51 4,oM 52 6,oO 53 (.call 44 [(.t 52),(kI 2)] none),oM 54 0,oM 55 5,oO 56 (.idxSl 3 (.t 54) (.t 55)),oO 57 (.fieldAddr 2 (.t 56)),oO 58 (.load .sc (.t 57)),
 oO 59 (.len (.t 58)),oO 60 (.conv .u64 (.t 59)),oO 61 (.call 44 [(.t 60),(kI 2)] none),oM 62 0,oM 63 5,oO 64 (.idxSl 3 (.t 62) (.t 63)),oO 65 (.fieldAddr 2 (.t 64)),oO 66 (.load .sc (.t 65)),oO 67 (.bldSl false 3 1 (.sl []) [(0,(.t 53)),(1,(.t 61)),(2,(.t 66))]),oO 68 (.call 43 [(.t 67)] none),oO 69 (.app false 1 1 (.t 51) (.t 68)),oM 4 69]) (.skip)))))))) (.reg [oM 12 5,oO 13 (.bin .add (.t 12) (kI 1)),oM 5 13]))
def Jp:aE:=⟨1,77,.seq (.reg [oO 2 (.mv (.k (.c .nil))),oO 3 (.mv (kI 0))]) (.seq (.reg [oO 7 (.bldSl true 0 1 (.int .u8 0) []),oM 4 7]) (.seq (.seq (.reg [oO 5 (.mv (kI 0))]) (.block 0 (.loop iG))) (.seq (.seq (.reg [oM 70 0,oO 71 (.len (.t 70)),oO 72 (.bin .gtr (.t 71) (kI 64))]) (.cond (.t 72) (.seq (.reg [oO 2 (.mv (.k (.c .nil))),oO 3 (.mv (kI 8))]) (.ret)) (.skip))) (.seq (.seq (.reg [oM 73 4,oO 74 (.len (.t 73)),oO 75 (.bin .gtr (.t 74) (kI 65535))]) (.cond (.t 75) (.seq (.reg [oO 2 (.mv (.k (.c .nil))),oO 3 (.mv (kI 2))]) (.ret)) (.skip))) (.seq (.reg [oM 76 4,oM 2 76,oO 3 (.mv (kI 0))]) (.ret)))))),[(2,none),(3,none)]⟩
theorem TS:aC Tryz.prog { own:=[7],comp:=[],frz:=[],nils:=[] } Tryz.f11=some Jp:=by kernel_rfl
set_option maxHeartbeats 3200000 in
theorem Vy (G:ah) (l:List Ek) (hl:l.length≤9000000000000000000) (hb:∀ r∈l,r.bo.length≤9223372036854775807):ak Tryz.prog G 11 [.sl (l.map aF)] (.tup [.c (.fr 1 ((dX l).map bD)),.c (.d (.int .i64 (cx l)))]):=by
  refine aG Tryz.func11 TS rfl rfl ?_;simp only[Jp,af,ae,aa,seval,iteOmega,toNatUp];refine ba (iR l) (fun i=>l.length-i) (fun i=>i≤l.length∧dW (l.take i)=0) 0 ⟨WI _,by rw[Xq]; rfl⟩ ?_ ?_
  ·refine aw (fun _=>56) ?_ ?_ rfl rfl <;> simp only[wx,am,aH,aa,seval,iteOmega,toNatUp] <;> first | rfl | exact⟨rfl,rfl⟩ | skip
  ·rintro i ⟨hi,hW⟩;have hO:=Gu l i hi fun r hr=>(jg (pJ.1 hW r hr)).2.2
   by_cases hlt:i<l.length
   ·have g:=io hlt;have hm:=hb _ (hC hlt);have hst:=Ei hlt hW;have hnx:=vO hlt hW;have hno:∀ e,cu (l.getD i default)=e→e≠0→cx l=e∧dX l=[]:=fun e h1 h2=>by
      have h3:=hst (by rw[h1]; exact h2);have h4:cx l=e:=by unfold cx; rw[if_neg (by rw[h3,h1]; exact h2),h3,h1]
      exact⟨h4,if_neg (by rw[h4]; exact h2)⟩
    have eO:dJ l (i+1)=if (dJ l i).length≤65535 then dJ l i++db (l.getD i default) else dJ l i:=rfl
    have hF:cu (l.getD i default)=if (l.getD i default).ty<0∨32767<(l.getD i default).ty then 4 else if 65535<(l.getD i default).bo.length then 2 else 0:=rfl
    have hB:db (l.getD i default)=aN (fO (l.getD i default)) 2++(aN (l.getD i default).bo.length 2++(l.getD i default).bo):=rfl;have hT:fO (l.getD i default)=(l.getD i default).ty.toNat+if (l.getD i default).cr=true then 32768 else 0:=rfl
    generalize hx:l.getD i default=x at *
    generalize cu x=f at *
    generalize db x=B at *
    generalize fO x=T at *
    obtain⟨cr,ty,bo⟩:=x;dsimp only at *
    by_cases h1:ty<0
    ·have g1:=eq_true h1;obtain⟨q1,q2⟩:=hno 4 (by rw[hF,if_pos (.inl h1)]) (by decide);rw[q1,q2];clear hst hnx hno eO hB hT;simp only[iG,iR,ae,aa,seval,iteOmega,toNatUp,aJ,g,aF,g1];exact dr
    ·have g1:=eq_false h1;by_cases h2:ty>32767
     ·have g2:=eq_true h2;obtain⟨q1,q2⟩:=hno 4 (by rw[hF,if_pos (.inr h2)]) (by decide);rw[q1,q2];clear hst hnx hno eO hB hT;simp only[iG,iR,ae,aa,seval,iteOmega,toNatUp,aJ,g,aF,g1,g2];exact dr
     ·have g2:=eq_false h2;rw[if_neg (by omega)] at hF;by_cases h3:65535<bo.length
      ·have g3:((bo.length:Int)>65535)=True:=eq_true (by omega);obtain⟨q1,q2⟩:=hno 2 (by rw[hF,if_pos h3]) (by decide);rw[q1,q2];clear hst hnx hno eO hB hT;simp only[iG,iR,ae,aa,seval,iteOmega,toNatUp,aJ,g,aF,g1,g2,g3];exact dr
      ·have g3:((bo.length:Int)>65535)=False:=eq_false (by omega);rw[if_neg h3] at hF;subst hF;obtain⟨a,rfl⟩:=Xz (show 0≤ty by omega);rw[show ((a:Nat):Int).toNat=a from rfl] at hT;have hor:=PN a (by omega);by_cases hs:(dJ l i).length≤65535
       ·rw[if_pos hs] at eO;have gs:(((dJ l i).length:Int)≤65535)=True:=eq_true (by omega);have c1:=xf G T 2 (by decide);have c2:=xf G bo.length 2 (by decide);rw[show (2:Int).toNat=2 from rfl] at c1 c2;have c3:=kA G [aN T 2,aN bo.length 2,bo] (by simp) (by simp[bW]; omega);rw[show [aN T 2,aN bo.length 2,bo].flatten=B from by rw[hB]; simp] at c3;simp only[WH,W8] at c3;have hBl:B.length≤70000:=by rw[hB]; simp[bW]; omega
        clear hst hno hB;generalize aN T 2=P1 at *
        generalize aN bo.length 2=P2 at *
        generalize hOO:dJ l i=O at *
        cases cr
        ·rw[if_neg Bool.false_ne_true,XN] at hT;subst hT;simp only[iG,iR,ae,aa,seval,iteOmega,toNatUp,aJ,g,aF,g1,g2,g3,hOO,gs];refine sC (c1) ?_;simp only[aJ,g,aF,ae,aa,seval,iteOmega,toNatUp];refine sC (c2) ?_;simp only[aJ,g,aF,ae,aa,seval,iteOmega,toNatUp];refine sC (c3) ?_;simp only[bI,ae,aa,seval,iteOmega,toNatUp];refine aS (i+1) (by omega) ⟨by omega,by rw[hnx]⟩ (aw (fun _=>552) ?_ ?_ rfl rfl) <;> simp only[eO,wx,am,aH,aa,seval,iteOmega,toNatUp] <;> first | rfl | exact⟨rfl,rfl⟩ | skip
        ·rw[if_pos rfl] at hT;subst hT;simp only[iG,iR,ae,aa,seval,iteOmega,toNatUp,aJ,g,aF,g1,g2,g3,hOO,gs,hor];refine sC (c1) ?_;simp only[aJ,g,aF,ae,aa,seval,iteOmega,toNatUp];refine sC (c2) ?_;simp only[aJ,g,aF,ae,aa,seval,iteOmega,toNatUp];refine sC (c3) ?_;simp only[bI,ae,aa,seval,iteOmega,toNatUp];refine aS (i+1) (by omega) ⟨by omega,by rw[hnx]⟩ (aw (fun _=>552) ?_ ?_ rfl rfl) <;> simp only[eO,wx,am,aH,aa,seval,iteOmega,toNatUp] <;> first | rfl | exact⟨rfl,rfl⟩ | skip
       ·rw[if_neg hs] at eO;have gs:(((dJ l i).length:Int)≤65535)=False:=eq_false (by omega);clear hst hno hB;generalize hOO:dJ l i=O at *
        cases cr
        ·simp only[iG,iR,ae,aa,seval,iteOmega,toNatUp,aJ,g,aF,g1,g2,g3,hOO,gs];refine aS (i+1) (by omega) ⟨by omega,by rw[hnx]⟩ (aw (fun i=>i) ?_ ?_ rfl rfl) <;> simp only[eO,wx,am,aH,aa,seval,iteOmega,toNatUp] <;> first | rfl | exact⟨rfl,rfl⟩ | skip
        ·simp only[iG,iR,ae,aa,seval,iteOmega,toNatUp,aJ,g,aF,g1,g2,g3,hOO,gs,hor];refine aS (i+1) (by omega) ⟨by omega,by rw[hnx]⟩ (aw (fun i=>i) ?_ ?_ rfl rfl) <;> simp only[eO,wx,am,aH,aa,seval,iteOmega,toNatUp] <;> first | rfl | exact⟨rfl,rfl⟩ | skip
   ·obtain rfl:i=l.length:=by omega
    rw[XE] at hW;obtain⟨a1,a2⟩:=Qy l;by_cases h4:64<l.length
    ·have e:cx l=8:=by unfold cx; rw[if_pos hW,if_pos h4]
     rw[show dX l=[] from if_neg (by rw[e]; decide),e];have g4:((l.length:Int)>64)=True:=eq_true (by omega);simp only[iG,iR,ae,aa,seval,iteOmega,toNatUp,g4];exact dr
    ·have g4:((l.length:Int)>64)=False:=eq_false (by omega);by_cases h5:(aY l).length≤65535
     ·have e:cx l=0:=by unfold cx; rw[if_pos hW,if_neg h4,if_neg (by omega)]
      rw[show dX l=aY l from if_pos e,e];have e5:=a1 h5;simp only[iG,iR,ae,aa,seval,iteOmega,toNatUp,g4];rw[e5];have g5:(((aY l).length:Int)>65535)=False:=eq_false (by omega);simp only[ae,aa,seval,iteOmega,toNatUp,g5];exact dr
     ·have e:cx l=2:=by unfold cx; rw[if_pos hW,if_neg h4,if_pos (by omega)]
      rw[show dX l=[] from if_neg (by rw[e]; decide),e];have e5:=a2 h5;have g5:(((dJ l l.length).length:Int)>65535)=True:=eq_true (by omega);simp only[iG,iR,ae,aa,seval,iteOmega,toNatUp,g4,g5];exact dr
theorem KD (G:ah) (l:List Ek) (hl:l.length≤9000000000000000000) (hb:∀ r∈l,r.bo.length≤9223372036854775807):ak Tryz.prog G 11 [.sl (l.map aF)] (.tup [.c (.d (.sl ((dX l).map bD))),.c (.d (.int .i64 (cx l)))]):=pb (Vy G l hl hb)
set_option maxHeartbeats 800000
theorem iW {l:List Int} {i:Nat} (h:i<l.length):l[i]?=some (l.getD i 0):=by
  rw[WB,Wz h]; rfl
theorem mL {l:List Int} {i:Nat} (h:i<l.length):l.getD i 0∈l:=by
  rw[WB,Wz h];exact W9 h
theorem jx {l:List Int} {i:Nat} (h:i<l.length):l.take (i+1)=l.take i++[l.getD i 0]:=by
  rw[Yg,iW h]; rfl
def yT (l:List Int) (i:Nat):St:=⟨aQ [(0,.w (.c (.d (.sl (l.map zD))))),(3,.w (.c (.own 1 1 0 (aR (l.take i)).length))),(4,.w (.c (.d (.int .i64 (i:Int)))))],hL [(1,.row 1 ((aR (l.take i)).map bD))],uL [1]⟩
def wb:aM := .seq (.seq (.reg [oM 6 4,oM 7 0,oO 8 (.len (.t 7)),oO 9 (.bin .lss (.t 6) (.t 8))]) (.cond (.t 9) (.skip) (.exit 0))) (.seq (.block 1 (.reg [oM 12 3,oM 13 0,oM 14 4,oO 15 (.idxSl 1 (.t 13) (.t 14)),oO 16 (.load .sc (.t 15)),oO 17 (.conv .u64 (.t 16)),oO 18 (.call 44 [(.t 17),(kI 2)] none),oO 19 (.app false 1 1 (.t 12) (.t 18)),oM 3 19])) (.reg [oM 10 4,oO 11 (.bin .add (.t 10) (kI 1)),oM 4 11]))
def Jq:aE:=⟨1,21,.seq (.reg [oO 2 (.mv (.k (.c .nil)))]) (.seq (.reg [oO 5 (.bldSl true 0 1 (.int .u8 0) []),oM 3 5]) (.seq (.seq (.reg [oO 4 (.mv (kI 0))]) (.block 0 (.loop wb))) (.seq (.reg [oM 20 3,oM 2 20]) (.ret)))),[(2,none)]⟩
theorem TT:aC Tryz.prog { own:=[5],comp:=[],frz:=[],nils:=[] } Tryz.f55=some Jq:=by kernel_rfl
theorem Vz (G:ah) (l:List Int) (hl:l.length≤1000000000) (hs:br l):ak Tryz.prog G 55 [.sl (l.map zD)] (.w (.c (.fr 1 ((aR l).map bD)))):=by
  refine aG Tryz.func55 TT rfl rfl ?_;simp only[Jq,af,ae,aa,seval,iteOmega,toNatUp];refine ba (yT l) (fun i=>l.length-i) (fun i=>i≤l.length) 0 (WI _) ?_ ?_
  ·refine aw (fun _=>40) ?_ ?_ rfl rfl <;> simp only[wx,am,aH,aa,seval,iteOmega,toNatUp] <;> first | rfl | exact⟨rfl,rfl⟩ | skip
  ·intro i hi;by_cases hlt:i<l.length
   ·have g:=iW hlt;obtain⟨n1,n2⟩:=hs _ (mL hlt);have e:aR (l.take (i+1))=aR (l.take i)++aN (l.getD i 0).toNat 2:=by
      rw[jx hlt,G2,rj]
      show _++(_++[])=_
      rw[WS]
    have hb:(aR (l.take i)).length≤2000000000:=by rw[fi,WF]; omega
    generalize l.getD i 0=v at *
    obtain⟨a,rfl⟩:=Xz n1;rw[show ((a:Nat):Int).toNat=a from rfl] at e;have c:=xf G a 2 (by decide);rw[show (2:Int).toNat=2 from rfl] at c;have pl:=bW a 2;generalize aN a 2=P at *
    simp only[wb,yT,ae,aa,seval,iteOmega,toNatUp,aJ,g,zD];refine sC (c) ?_;simp only[pl,bI,ae,aa,seval,iteOmega,toNatUp];refine aS (i+1) (by omega) (by omega) (aw (fun _=>152) ?_ ?_ rfl rfl) <;> simp only[e,pl,wx,am,aH,aa,seval,iteOmega,toNatUp] <;> first | rfl | exact⟨rfl,rfl⟩ | skip
   ·have:l.take i=l:=WE (by omega);simp only[wb,yT,ae,aa,seval,iteOmega,toNatUp,this];exact ew
theorem KE (G:ah) (l:List Int) (hl:l.length≤1000000000) (hs:br l):ak Tryz.prog G 55 [.sl (l.map zD)] (.w (.c (.d (.sl ((aR l).map bD))))):=kH (Vz G l hl hs)
def pP (l:List Int) (i:Nat):St:=⟨aQ [(0,.w (.c (.d (.sl (l.map zD))))),(3,.w (.c (.d (.int .i64 (i:Int)))))],hL [],uL []⟩
def o0:aM := .seq (.seq (.reg [oM 4 3,oM 5 0,oO 6 (.len (.t 5)),oO 7 (.bin .lss (.t 4) (.t 6))]) (.cond (.t 7) (.skip) (.exit 0))) (.seq (.block 1 (.seq (.reg [oM 10 0,oM 11 3,oO 12 (.idxSl 1 (.t 10) (.t 11)),oO 13 (.load .sc (.t 12)),oO 14 (.bin .lss (.t 13) (kI 0)),oM 15 14,oG 16 (.mv (.t 0)) 15 false,oG 17 (.mv (.t 3)) 15 false,oG 18 (.idxSl 1 (.t 16) (.t 17)) 15 false,oG 19 (.load .sc (.t 18)) 15 false,oG 20 (.bin .gtr (.t 19) (kI 65535)) 15 false,oO 21 (.pick (.t 15) (.k (.c (.d (.bool true)))) (.t 20))]) (.cond (.t 21) (.seq (.reg [oO 2 (.mv (.k (.c (.d (.bool false)))))]) (.ret)) (.skip)))) (.reg [oM 8 3,oO 9 (.bin .add (.t 8) (kI 1)),oM 3 9]))
def Jr:aE:=⟨1,22,.seq (.reg [oO 2 (.mv (.k (.c (.d (.bool false)))))]) (.seq (.seq (.reg [oO 3 (.mv (kI 0))]) (.block 0 (.loop o0))) (.seq (.reg [oO 2 (.mv (.k (.c (.d (.bool true)))))]) (.ret))),[(2,none)]⟩
theorem TU:aC Tryz.prog { own:=[],comp:=[],frz:=[],nils:=[] } Tryz.f54=some Jr:=by kernel_rfl
theorem KF (G:ah) (l:List Int) (hl:l.length≤9000000000000000000):ak Tryz.prog G 54 [.sl (l.map zD)] (.w (.c (.d (.bool (decide (br l)))))):=by
  refine aG Tryz.func54 TU rfl rfl ?_;simp only[Jr,af,ae,aa,seval,iteOmega,toNatUp];refine ba (pP l) (fun i=>l.length-i) (fun i=>i≤l.length∧br (l.take i)) 0 ⟨WI _,by rw[Xq]; exact fun n hn=>by cases hn⟩ ?_ ?_
  ·refine aw (fun _=>0) ?_ ?_ rfl rfl <;> simp only[wx,am,aH,aa,seval,iteOmega,toNatUp] <;> first | rfl | exact⟨rfl,rfl⟩ | skip
  ·rintro i ⟨hi,hp⟩;by_cases hlt:i<l.length
   ·have g:=iW hlt;have hm:=mL hlt;have hs:=jx hlt;generalize l.getD i 0=v at *
    by_cases h1:v<0
    ·rw[decide_eq_false (fun q:br l=>by have:=q v hm; omega)];have g1:=eq_true h1;simp only[o0,pP,ae,aa,seval,iteOmega,toNatUp,aJ,g,zD,g1];exact aI
    ·have g1:=eq_false h1;by_cases h2:v>65535
     ·rw[decide_eq_false (fun q:br l=>by have:=q v hm; omega)];have g2:=eq_true h2;simp only[o0,pP,ae,aa,seval,iteOmega,toNatUp,aJ,g,zD,g1,g2];exact aI
     ·have g2:=eq_false h2;have hn:br (l.take (i+1)):=by
        rw[hs];intro n hn;rcases WO.1 hn with hn | hn
        ·exact hp n hn
        ·rw[WG.1 hn]; omega
      simp only[o0,pP,ae,aa,seval,iteOmega,toNatUp,aJ,g,zD,g1,g2];refine aS (i+1) (by omega) ⟨by omega,hn⟩ (aw (fun i=>i) ?_ ?_ rfl rfl) <;> simp only[wx,am,aH,aa,seval,iteOmega,toNatUp] <;> first | rfl | exact⟨rfl,rfl⟩ | skip
   ·rw[WE (by omega)] at hp;rw[decide_eq_true hp];simp only[o0,pP,ae,aa,seval,iteOmega,toNatUp];exact aI
def ti (l:List Int) (v:Int) (i:Nat):St:=⟨aQ [(0,.w (.c (.d (.sl (l.map zD))))),(1,.w (.c (.d (.int .i64 v)))),(5,.w (.c (.d (.int .i64 (i:Int)))))],hL [],uL []⟩
def rm:aM := .seq (.seq (.reg [oM 6 5,oM 7 0,oO 8 (.len (.t 7)),oO 9 (.bin .lss (.t 6) (.t 8))]) (.cond (.t 9) (.skip) (.exit 0))) (.seq (.block 1 (.seq (.reg [oM 12 0,oM 13 5,oO 14 (.idxSl 1 (.t 12) (.t 13)),oO 15 (.load .sc (.t 14)),oM 16 1,oO 17 (.bin .eql (.t 15) (.t 16))]) (.cond (.t 17) (.seq (.reg [oO 4 (.mv (.k (.c (.d (.bool true)))))]) (.ret)) (.skip)))) (.reg [oM 10 5,oO 11 (.bin .add (.t 10) (kI 1)),oM 5 11]))
def Js:aE:=⟨2,18,.seq (.reg [oO 4 (.mv (.k (.c (.d (.bool false)))))]) (.seq (.seq (.reg [oO 5 (.mv (kI 0))]) (.block 0 (.loop rm))) (.seq (.reg [oO 4 (.mv (.k (.c (.d (.bool false)))))]) (.ret))),[(4,none)]⟩
theorem TV:aC Tryz.prog { own:=[],comp:=[],frz:=[],nils:=[] } Tryz.f57=some Js:=by kernel_rfl
theorem VA (G:ah) (l:List Int) (v:Int) (hl:l.length≤9000000000000000000):ak Tryz.prog G 57 [.sl (l.map zD),.int .i64 v] (.w (.c (.d (.bool (decide (v∈l)))))):=by
  refine aG Tryz.func57 TV rfl rfl ?_;simp only[Js,af,ae,aa,seval,iteOmega,toNatUp];refine ba (ti l v) (fun i=>l.length-i) (fun i=>i≤l.length∧v∉l.take i) 0 ⟨WI _,by rw[Xq]; exact Yj⟩ ?_ ?_
  ·refine aw (fun _=>0) ?_ ?_ rfl rfl <;> simp only[wx,am,aH,aa,seval,iteOmega,toNatUp] <;> first | rfl | exact⟨rfl,rfl⟩ | skip
  ·rintro i ⟨hi,hp⟩;by_cases hlt:i<l.length
   ·have g:=iW hlt;have hm:=mL hlt;have hs:=jx hlt;generalize l.getD i 0=w at *
    by_cases h1:w=v
    ·subst h1;rw[decide_eq_true hm];simp only[rm,ti,ae,aa,seval,iteOmega,toNatUp,aJ,g,zD];exact aI
    ·have g1:=eq_false h1;have hn:v∉l.take (i+1):=by
       rw[hs];intro q;rcases WO.1 q with q | q
       ·exact hp q
       ·exact h1 (WG.1 q).symm
     simp only[rm,ti,ae,aa,seval,iteOmega,toNatUp,aJ,g,zD,g1];refine aS (i+1) (by omega) ⟨by omega,hn⟩ (aw (fun i=>i) ?_ ?_ rfl rfl) <;> simp only[wx,am,aH,aa,seval,iteOmega,toNatUp] <;> first | rfl | exact⟨rfl,rfl⟩ | skip
   ·rw[WE (by omega)] at hp;rw[decide_eq_false hp];simp only[rm,ti,ae,aa,seval,iteOmega,toNatUp];exact aI
def tj (x y:List Int) (i:Nat):St:=⟨aQ [(0,.w (.c (.d (.sl (x.map zD))))),(1,.w (.c (.d (.sl (y.map zD))))),(6,.w (.c (.d (.int .i64 (i:Int)))))],hL [],uL []⟩
theorem Jt {x y:List Int} {i:Nat} (hi:i<x.length) (hn:∀ v∈x.take i,v∉y) (h:x.getD i 0∈y):de x y=some (x.getD i 0):=by
  have e:x=x.take i++x.getD i 0::x.drop (i+1):=by
    have:=(Xg (i+1) x).symm;rw[jx hi,W7] at this;exact this
  have:de (x.take i++x.getD i 0::x.drop (i+1)) y=some (x.getD i 0):=by
    unfold de;rw[List.find?_append,List.find?_eq_none.2 (fun v hv q=>hn v hv (of_decide_eq_true q)),List.find?_cons_of_pos (p:=fun v=>decide (v∈y)) (decide_eq_true h)];rfl
  rw[← e] at this;exact this
def rn:aM := .seq (.seq (.reg [oM 7 6,oM 8 0,oO 9 (.len (.t 8)),oO 10 (.bin .lss (.t 7) (.t 9))]) (.cond (.t 10) (.skip) (.exit 0))) (.seq (.block 1 (.seq (.reg [oM 13 1,oM 14 0,oM 15 6,oO 16 (.idxSl 1 (.t 14) (.t 15)),oO 17 (.load .sc (.t 16)),oO 18 (.call 57 [(.t 13),(.t 17)] none)]) (.cond (.t 18) (.seq (.reg [oM 19 0,oM 20 6,oO 21 (.idxSl 1 (.t 19) (.t 20)),oO 22 (.load .sc (.t 21)),oM 4 22,oO 5 (.mv (.k (.c (.d (.bool true)))))]) (.ret)) (.skip)))) (.reg [oM 11 6,oO 12 (.bin .add (.t 11) (kI 1)),oM 6 12]))
def Ju:aE:=⟨2,23,.seq (.reg [oO 4 (.mv (kI 0)),oO 5 (.mv (.k (.c (.d (.bool false)))))]) (.seq (.seq (.reg [oO 6 (.mv (kI 0))]) (.block 0 (.loop rn))) (.seq (.reg [oO 4 (.mv (kI 0)),oO 5 (.mv (.k (.c (.d (.bool false)))))]) (.ret))),[(4,none),(5,none)]⟩
theorem TW:aC Tryz.prog { own:=[],comp:=[],frz:=[],nils:=[] } Tryz.f19=some Ju:=by kernel_rfl
theorem VB (G:ah) (x y:List Int) (hx:x.length≤9000000000000000000) (hy:y.length≤9000000000000000000):ak Tryz.prog G 19 [.sl (x.map zD),.sl (y.map zD)] (.tup [.c (.d (.int .i64 ((de x y).getD 0))),.c (.d (.bool (de x y).isSome))]):=by
  refine aG Tryz.func19 TW rfl rfl ?_;simp only[Ju,af,ae,aa,seval,iteOmega,toNatUp];refine ba (tj x y) (fun i=>x.length-i) (fun i=>i≤x.length∧∀ v∈x.take i,v∉y) 0 ⟨WI _,by rw[Xq]; exact fun v hv=>by cases hv⟩ ?_ ?_
  ·refine aw (fun _=>0) ?_ ?_ rfl rfl <;> simp only[wx,am,aH,aa,seval,iteOmega,toNatUp] <;> first | rfl | exact⟨rfl,rfl⟩ | skip
  ·rintro i ⟨hi,hp⟩;by_cases hlt:i<x.length
   ·have g:=iW hlt;have hs:=jx hlt;have hat:=Jt hlt hp;have c:=VA G y (x.getD i 0) hy;generalize x.getD i 0=w at *
    by_cases h1:w∈y
    ·rw[hat h1,Xu,XR];rw[decide_eq_true h1] at c;simp only[rn,tj,ae,aa,seval,iteOmega,toNatUp,aJ,g,zD];refine sC (c) ?_;simp only[aJ,g,zD,ae,aa,seval,iteOmega,toNatUp];exact aO
    ·rw[decide_eq_false h1] at c;have hn:∀ v∈x.take (i+1),v∉y:=by
       rw[hs];intro v q;rcases WO.1 q with q | q
       ·exact hp v q
       ·rw[WG.1 q]; exact h1
     clear hat;simp only[rn,tj,ae,aa,seval,iteOmega,toNatUp,aJ,g,zD];refine sD (c) ?_;refine aS (i+1) (by omega) ⟨by omega,hn⟩ (aw (fun i=>i) ?_ ?_ rfl rfl) <;> simp only[wx,am,aH,aa,seval,iteOmega,toNatUp] <;> first | rfl | exact⟨rfl,rfl⟩ | skip
   ·rw[WE (by omega)] at hp;have:de x y=none:=List.find?_eq_none.2 fun v hv q=>hp v hv (of_decide_eq_true q)
    rw[this,XG,X2];simp only[rn,tj,ae,aa,seval,iteOmega,toNatUp];exact aO
set_option maxHeartbeats 3200000
def yU (b:List UInt8) (k:Nat):St:=⟨aQ [(0,.w (.c (.d (.sl (b.map bD))))),(4,.w (.c (.own 1 1 0 (gD b k).length))),(5,.w (.c (.d (.int .i64 ((2*k:Nat):Int)))))],hL [(1,.row 1 ((gD b k).map zD))],uL [1]⟩
theorem KG (n:Nat):Int.tmod (n:Int) 2=((n%2:Nat):Int):=rfl
def wc:aM := .seq (.seq (.reg [oM 10 5,oM 11 0,oO 12 (.len (.t 11)),oO 13 (.bin .lss (.t 10) (.t 12))]) (.cond (.t 13) (.skip) (.exit 0))) (.seq (.block 1 (.reg [oM 16 4,oM 17 0,oM 18 5,oM 19 5,oO 20 (.bin .add (.t 19) (kI 2)),oO 21 (.slice 1 (.t 17) (some (.t 18)) (some (.t 20)) none),oO 22 (.call 49 [(.t 21)] none),oO 23 (.conv .i64 (.t 22)),oO 24 (.bldSl false 1 1 (.int .i64 0) [(0,(.t 23))]),oO 25 (.app false 1 8 (.t 16) (.t 24)),oM 4 25])) (.reg [oM 14 5,oO 15 (.bin .add (.t 14) (kI 2)),oM 5 15]))
def xW:aE:=⟨1,27,.seq (.reg [oO 2 (.mv (.k (.c .nil))),oO 3 (.mv (.k (.c (.d (.bool false)))))]) (.seq (.seq (.reg [oM 6 0,oO 7 (.len (.t 6)),oO 8 (.bin .rem (.t 7) (kI 2)),oO 9 (.bin .neq (.t 8) (kI 0))]) (.cond (.t 9) (.seq (.reg [oO 2 (.mv (.k (.c .nil))),oO 3 (.mv (.k (.c (.d (.bool false)))))]) (.ret)) (.skip))) (.seq (.reg [oO 4 (.nilOwn 1)]) (.seq (.seq (.reg [oO 5 (.mv (kI 0))]) (.block 0 (.loop wc))) (.seq (.reg [oM 26 4,oM 2 26,oO 3 (.mv (.k (.c (.d (.bool true)))))]) (.ret))))),[(2,none),(3,none)]⟩
theorem TX:aC Tryz.prog { own:=[4],comp:=[],frz:=[],nils:=[] } Tryz.f15=some xW:=by kernel_rfl
theorem VC (G:ah) (b:List UInt8) (hb:b.length≤1000000000):ak Tryz.prog G 15 [.sl (b.map bD)] (.tup [.c (.d (.sl ((dB b).map zD))),.c (.d (.bool (decide (b.length%2=0))))]):=by
  refine aG Tryz.func15 TX rfl rfl ?_;have t2:=KG b.length;by_cases he:b.length%2=0
  ·have g0:(((b.length%2:Nat):Int)=0)=True:=eq_true (by omega);rw[decide_eq_true he,show dB b=i5 b from if_pos he];simp only[xW,af,ae,aa,seval,iteOmega,toNatUp,t2,g0];refine ba (yU b) (fun k=>b.length / 2-k) (fun k=>2*k≤b.length) 0 (WI _) ?_ ?_
   ·refine aw (fun _=>32) ?_ ?_ rfl rfl <;> simp only[wx,am,aH,aa,seval,iteOmega,toNatUp] <;> first | rfl | exact⟨rfl,rfl⟩ | skip
   ·intro k hk;have az:=Eh (gD b k);have nl:=xg b k;by_cases hlt:2*k<b.length
    ·have l1:(aV b (2*k) 2).length=2:=kr (by omega);have c:=xV G (aV b (2*k) 2) (by omega);have b2:=(iD 2 (aV b (2*k) 2) l1 (by decide)).1;have hs:=EN b k;have hA:li b k=(aX (aV b (2*k) 2):Int):=rfl;have t1:(b.drop (2*k)).take 2=aV b (2*k) 2:=rfl;have t3:(b.drop (2*k)).take (2*k+2-2*k)=aV b (2*k) 2:=by rw[XA]; rfl
     have e5:2*((k:Int)+1)=2*(k:Int)+2:=by omega
     have g1:(((2*k:Nat):Int)<(b.length:Int))=True:=eq_true (by omega);generalize aX (aV b (2*k) 2)=N at *
     rw[hA] at hs;simp only[wc,yU,ae,aa,seval,iteOmega,toNatUp,g1,t1,t3];refine sC (c) ?_;simp only[bI,ae,aa,seval,iteOmega,toNatUp];refine aS (k+1) (by omega) (by omega) (aw (fun _=>200) ?_ ?_ rfl rfl) <;> simp only[hs,Xc,zD,e5,wx,am,aH,aa,seval,iteOmega,toNatUp] <;> first | rfl | exact⟨rfl,rfl⟩ | skip
    ·have hk2:k=b.length / 2:=by omega
     have g1:(((2*k:Nat):Int)<(b.length:Int))=False:=eq_false (by omega);subst hk2;unfold i5;simp only[wc,yU,ae,aa,seval,iteOmega,toNatUp,g1];exact aO
  ·have g0:(((b.length%2:Nat):Int)=0)=False:=eq_false (by omega);rw[decide_eq_false he,show dB b=[] from if_neg he];simp only[xW,af,ae,aa,seval,iteOmega,toNatUp,t2,g0];exact aO
structure Fw where
  p:Nat
  o:List Fd
def pQ (b:List UInt8) (t:Fw):St:=⟨aQ [(0,.w (.c (.d (.sl (b.map bD))))),(4,.w (.c (.own 1 2 0 t.o.length))),(5,.w (.c (.d (.int .i64 (t.p:Int)))))],hL [(1,.row 2 (t.o.map ct))],uL [1]⟩
def o5:aM := .seq (.seq (.reg [oM 10 5,oM 11 0,oO 12 (.len (.t 11)),oO 13 (.bin .lss (.t 10) (.t 12))]) (.cond (.t 13) (.skip) (.exit 0))) (.block 1 (.seq (.seq (.reg [oM 14 0,oO 15 (.len (.t 14)),oM 16 5,oO 17 (.bin .sub (.t 15) (.t 16)),oO 18 (.bin .lss (.t 17) (kI 4))]) (.cond (.t 18) (.seq (.reg [oO 2 (.mv (.k (.c .nil))),oO 3 (.mv (kI 1))]) (.ret)) (.skip))) (.seq (.reg [oM 19 0,oM 20 5,oO 21 (.bin .add (.t 20) (kI 2)),oM 22 5,oO 23 (.bin .add (.t 22) (kI 4)),oO 24 (.slice 1 (.t 19) (some (.t 21)) (some (.t 23)) none),oO 25 (.call 49 [(.t 24)] none),oO 26 (.conv .i64 (.t 25)),oM 6 26]) (.seq (.seq (.reg [oM 27 0,oO 28 (.len (.t 27)),oM 29 5,oO 30 (.bin .sub (.t 28) (.t 29)),oO 31 (.bin .sub (.t 30) (kI 4)),oM 32 6,oO 33 (.bin .lss (.t 31) (.t 32))]) (.cond (.t 33) (.seq (.reg [oO 2 (.mv (.k (.c .nil))),
 oO 3 (.mv (kI 1))]) (.ret)) (.skip))) (.seq (.reg [oM 34 4,oM 35 0,oM 36 5,oM 37 5,oO 38 (.bin .add (.t 37) (kI 2)),oO 39 (.slice 1 (.t 35) (some (.t 36)) (some (.t 38)) none),oO 40 (.call 49 [(.t 39)] none),oO 41 (.conv .i64 (.t 40)),oM 42 0,oM 43 5,oO 44 (.bin .add (.t 43) (kI 4)),oM 45 5,oO 46 (.bin .add (.t 45) (kI 4)),oM 47 6,oO 48 (.bin .add (.t 46) (.t 47)),oO 49 (.slice 1 (.t 42) (some (.t 44)) (some (.t 48)) none),oO 50 (.bldSl false 1 1 (.sl []) [(0,(.t 49))]),oO 51 (.call 43 [(.t 50)] none),oO 52 (.build [(.d (.int .i64 0)),.nil] [(0,1,(.t 41)),(1,1,(.t 51))]),oO 53 (.bldSl false 1 2 (.agg [(.int .i64 0),(.sl [])]) [(0,(.t 52))]),oO 54 (.app false 2 32 (.t 34) (.t 53)),oM 4 54]) (.reg [oM 55 5,oO 56 (.bin .add (.t 55) (kI 4)),oM 57 6,oO 58 (.bin .add (.t 56) (.t 57)),oM 5 58]))))))
def xX:aE:=⟨1,60,.seq (.reg [oO 2 (.mv (.k (.c .nil))),oO 3 (.mv (kI 0))]) (.seq (.seq (.reg [oM 7 0,oO 8 (.len (.t 7)),oO 9 (.bin .gtr (.t 8) (kI 65535))]) (.cond (.t 9) (.seq (.reg [oO 2 (.mv (.k (.c .nil))),oO 3 (.mv (kI 2))]) (.ret)) (.skip))) (.seq (.reg [oO 4 (.nilOwn 2)]) (.seq (.seq (.reg [oO 5 (.mv (kI 0))]) (.block 0 (.loop o5))) (.seq (.reg [oM 59 4,oM 2 59,oO 3 (.mv (kI 0))]) (.ret))))),[(2,none),(3,none)]⟩
theorem TY:aC Tryz.prog { own:=[4],comp:=[],frz:=[],nils:=[] } Tryz.f47=some xX:=by kernel_rfl
theorem VD (G:ah) (b:List UInt8) (hb:b.length≤9000000000000000000):ak Tryz.prog G 47 [.sl (b.map bD)] (.tup [.c (.d (.sl ((eM b).map ct))),.c (.d (.int .i64 (dP b)))]):=by
  refine aG Tryz.func47 TY rfl rfl ?_;by_cases h0:65535<b.length
  ·have g0:((b.length:Int)>65535)=True:=eq_true (by omega);rw[show dP b=2 from if_pos h0,show eM b=[] from if_pos h0];simp only[xX,af,ae,aa,seval,iteOmega,toNatUp,g0];exact aO
  ·have g0:((b.length:Int)>65535)=False:=eq_false (by omega);simp only[xX,af,ae,aa,seval,iteOmega,toNatUp,g0];refine ba (pQ b) (fun t=>b.length-t.p) (fun t=>t.p≤b.length∧t.o.length≤t.p∧cH b=(cH (b.drop t.p)).map (t.o++·)) ⟨0,[]⟩ ⟨WI _,WI _,by rw[X8]; cases cH b <;> rfl⟩ ?_ ?_
   ·refine aw (fun _=>32) ?_ ?_ rfl rfl <;> simp only[wx,am,aH,aa,seval,iteOmega,toNatUp] <;> first | rfl | exact⟨rfl,rfl⟩ | skip
   ·rintro⟨p,o⟩ ⟨hp,hol,hd⟩;dsimp only at hp hol hd;have az:=vN o;have hdl:(b.drop p).length=b.length-p:=WL;by_cases hlt:p<b.length
    ·have g1:((p:Int)<(b.length:Int))=True:=eq_true (by omega);by_cases h1:b.length-p<4
     ·have e:cH b=none:=by rw[hd,wT (by omega) (by omega)]; rfl
      rw[show dP b=1 by unfold dP; rw[if_neg h0,e]; rfl,show eM b=[] by unfold eM; rw[if_neg h0,e]; rfl];have g2:((b.length:Int)-(p:Int)<4)=True:=eq_true (by omega);simp only[o5,pQ,ae,aa,seval,iteOmega,toNatUp,g1,g2];exact aO
     ·have g2:((b.length:Int)-(p:Int)<4)=False:=eq_false (by omega);have l1:(aV (b.drop p) 2 2).length=2:=kr (by omega);have l2:((b.drop p).take 2).length=2:=by rw[WF]; omega
      have c1:=xV G (aV (b.drop p) 2 2) (by omega);have c2:=xV G ((b.drop p).take 2) (by omega);have b1:=(iD 2 (aV (b.drop p) 2 2) l1 (by decide)).1;have b2:=(iD 2 ((b.drop p).take 2) l2 (by decide)).1;have t1:(b.drop (p+2)).take (p+2-p)=aV (b.drop p) 2 2:=by
        unfold aV;rw[Yv,XA]
      have t2:(b.drop p).take (p+2-p)=(b.drop p).take 2:=by rw[XA]
      have hN:bZ (b.drop p)=aX (aV (b.drop p) 2 2):=rfl;by_cases h2:b.length-p-4<bZ (b.drop p)
      ·have e:cH b=none:=by rw[hd,u7 (by omega) (by omega)]; rfl
       rw[show dP b=1 by unfold dP; rw[if_neg h0,e]; rfl,show eM b=[] by unfold eM; rw[if_neg h0,e]; rfl];rw[hN] at h2;generalize aX (aV (b.drop p) 2 2)=N at *
       have g3:((b.length:Int)-(p:Int)-4<(N:Int))=True:=eq_true (by omega);simp only[o5,pQ,ae,aa,seval,iteOmega,toNatUp,g1,g2,t1];refine sC (c1) ?_;simp only[g3,ae,aa,seval,iteOmega,toNatUp];exact aO
      ·have e:=r8 (r:=b.drop p) (by omega) (by omega);rw[Yv] at e;have hR:fb (b.drop p)=⟨(aX ((b.drop p).take 2):Int),aV (b.drop p) 4 (bZ (b.drop p))⟩:=rfl;rw[hN] at h2 hR e;have t3:∀ N,(b.drop (p+4)).take (p+4+N-(p+4))=aV (b.drop p) 4 N:=fun N=>by
         unfold aV;rw[Yv,XA]
       have t3:=t3 (aX (aV (b.drop p) 2 2));have lX:(aV (b.drop p) 4 (aX (aV (b.drop p) 2 2))).length=aX (aV (b.drop p) 2 2):=kr (by omega);have c3:=kA G [aV (b.drop p) 4 (aX (aV (b.drop p) 2 2))] (by simp) (by simp; omega);simp only[WH,W8,Yu,X7,WS] at c3;generalize aV (b.drop p) 4 (aX (aV (b.drop p) 2 2))=X at *
       generalize aX (aV (b.drop p) 2 2)=N at *
       generalize aX ((b.drop p).take 2)=M at *
       have g3:((b.length:Int)-(p:Int)-4<(N:Int))=False:=eq_false (by omega);have hd2:cH b=(cH (b.drop (p+4+N))).map ((o++[⟨(M:Int),X⟩])++·):=by
         rw[hd,e,Option.map_map,hR,show p+(4+N)=p+4+N by omega]
         congr 1
         funext r
         simp
       simp only[o5,pQ,ae,aa,seval,iteOmega,toNatUp,g1,g2,t1];refine sC (c1) ?_;simp only[g3,t2,ae,aa,seval,iteOmega,toNatUp];refine sC (c2) ?_;simp only[t3,ae,aa,seval,iteOmega,toNatUp];refine sC (c3) ?_;simp only[bI,ae,aa,seval,iteOmega,toNatUp];refine aS (⟨p+4+N,o++[⟨(M:Int),X⟩]⟩:Fw) (by show b.length-(p+4+N)<b.length-p; omega) ⟨by show p+4+N≤_; omega,by show (o++[_]).length≤p+4+N; rw[WA]; show _+1≤_; omega,hd2⟩ (aw (fun _=>432) ?_ ?_ rfl rfl) <;> simp only[Xc,ct,wx,am,aH,aa,seval,iteOmega,toNatUp] <;> first | rfl | exact⟨rfl,rfl⟩ | skip
    ·have hpb:p=b.length:=by omega
     have e:cH b=some o:=by rw[hd,hpb,List.drop_length,pg,XD,WS]
     rw[show dP b=0 by unfold dP; rw[if_neg h0,e]; rfl,show eM b=o by unfold eM; rw[if_neg h0,e]; rfl];have g1:((p:Int)<(b.length:Int))=False:=eq_false (by omega);simp only[o5,pQ,ae,aa,seval,iteOmega,toNatUp,g1];exact aO
def yV (L:List Fd) (i:Nat):St:=⟨aQ [(4,.w (.c (.d (.sl (L.map ct))))),(6,.w (.c (.own 1 3 0 i))),(7,.w (.c (.d (.int .i64 (i:Int)))))],hL [(1,.row 3 (((L.take i).map dp).map aF))],uL [1]⟩
def wd:aM := .seq (.seq (.reg [oM 19 7,oM 20 4,oO 21 (.len (.t 20)),oO 22 (.bin .lss (.t 19) (.t 21))]) (.cond (.t 22) (.skip) (.exit 0))) (.seq (.block 1 (.reg [oM 25 6,oM 26 4,oM 27 7,oO 28 (.idxSl 2 (.t 26) (.t 27)),oO 29 (.fieldAddr 0 (.t 28)),oO 30 (.load .sc (.t 29)),oO 31 (.bin .geq (.t 30) (kI 32768)),oM 32 4,oM 33 7,oO 34 (.idxSl 2 (.t 32) (.t 33)),oO 35 (.fieldAddr 0 (.t 34)),oO 36 (.load .sc (.t 35)),oO 37 (.bin .and (.t 36) (kI 32767)),oM 38 4,oM 39 7,oO 40 (.idxSl 2 (.t 38) (.t 39)),oO 41 (.fieldAddr 1 (.t 40)),oO 42 (.load .sc (.t 41)),oO 43 (.build [(.d (.bool false)),(.d (.int .i64 0)),.nil] [(0,1,(.t 31)),(1,1,(.t 37)),(2,1,(.t 42))]),oO 44 (.bldSl false 1 3 (.agg [(.bool false),(.int .i64 0),(.sl [])]) [(0,(.t 43))]),oO 45 (.app false 3 40 (.t 25) (.t 44)),oM 6 45]))
 (.reg [oM 23 7,oO 24 (.bin .add (.t 23) (kI 1)),oM 7 24]))
def sw:aE:=⟨1,47,.seq (.reg [oO 2 (.mv (.k (.c .nil))),oO 3 (.mv (kI 0))]) (.seq (.reg [oM 9 0,oO 10 (.call 47 [(.t 9)] none),oM 8 10,oO 11 (.extract (.t 8) 0),oO 12 (.extract (.t 8) 1),oM 4 11,oM 5 12]) (.seq (.seq (.reg [oM 13 5,oO 14 (.bin .neq (.t 13) (kI 0))]) (.cond (.t 14) (.seq (.reg [oM 15 5,oO 2 (.mv (.k (.c .nil))),oM 3 15]) (.ret)) (.skip))) (.seq (.seq (.reg [oM 16 4,oO 17 (.len (.t 16)),oO 18 (.bin .gtr (.t 17) (kI 64))]) (.cond (.t 18) (.seq (.reg [oO 2 (.mv (.k (.c .nil))),oO 3 (.mv (kI 8))]) (.ret)) (.skip))) (.seq (.reg [oO 6 (.nilOwn 3)]) (.seq (.seq (.reg [oO 7 (.mv (kI 0))]) (.block 0 (.loop wd))) (.seq (.reg [oM 46 6,oM 2 46,oO 3 (.mv (kI 0))]) (.ret))))))),[(2,none),(3,none)]⟩
theorem TZ:aC Tryz.prog { own:=[6],comp:=[],frz:=[],nils:=[] } Tryz.f13=some sw:=by kernel_rfl
theorem VE (G:ah) (b:List UInt8) (hb:b.length≤9000000000000000000):ak Tryz.prog G 13 [.sl (b.map bD)] (.tup [.c (.d (.sl ((aK b).map aF))),.c (.d (.int .i64 (cN b)))]):=by
  refine aG Tryz.func13 TZ rfl rfl ?_;have c:=VD G b hb;have hE:cN b=if dP b=0 then (if 64<(eM b).length then 8 else 0) else dP b:=rfl
  have hL:aK b=if cN b=0 then (eM b).map dp else []:=rfl
  generalize cN b=E at *
  generalize aK b=R at *
  generalize dP b=e at *
  generalize eM b=L at *
  by_cases h0:e=0
  ·rw[if_pos h0] at hE;subst h0;by_cases h1:64<L.length
   ·rw[if_pos h1] at hE;subst hE;rw[if_neg (by decide)] at hL;subst hL;have g1:((L.length:Int)>64)=True:=eq_true (by omega);simp only[sw,af,ae,aa,seval,iteOmega,toNatUp];refine sC (c) ?_;simp only[g1,ae,aa,seval,iteOmega,toNatUp];exact aO
   ·rw[if_neg h1] at hE;subst hE;rw[if_pos rfl] at hL;subst hL;have g1:((L.length:Int)>64)=False:=eq_false (by omega);simp only[sw,af,ae,aa,seval,iteOmega,toNatUp];refine sC (c) ?_;simp only[g1,ae,aa,seval,iteOmega,toNatUp];refine ba (yV L) (fun i=>L.length-i) (fun i=>i≤L.length) 0 (WI _) ?_ ?_
    ·refine aw (fun _=>48) ?_ ?_ rfl rfl <;> simp only[wx,am,aH,aa,seval,iteOmega,toNatUp] <;> first | rfl | exact⟨rfl,rfl⟩ | skip
    ·intro i hi;have az:=lA ((L.take i).map dp);have ll:((L.take i).map dp).length=i:=by rw[WJ,WF]; omega
     by_cases hlt:i<L.length
     ·have g:=me hlt;have hs:L.take (i+1)=L.take i++[L.getD i default]:=BU hlt;have ha:=NU (L.getD i default).ty;have hO:dp (L.getD i default)=⟨decide ((L.getD i default).ty≥32768),(L.getD i default).ty%32768,(L.getD i default).da⟩:=rfl;generalize L.getD i default=x at *
      simp only[wd,yV,ae,aa,seval,iteOmega,toNatUp,aJ,g,ct,ha,ll,bI];refine aS (i+1) (by omega) (by omega) (aw (fun _=>360) ?_ ?_ rfl rfl) <;> simp only[hs,Xc,hO,aF,wx,am,aH,aa,seval,iteOmega,toNatUp] <;> first | rfl | exact⟨rfl,rfl⟩ | skip
     ·obtain rfl:i=L.length:=by omega
      simp only[wd,yV,ae,aa,seval,iteOmega,toNatUp,ll];exact aO
  ·rw[if_neg h0] at hE;subst hE;rw[if_neg h0] at hL;subst hL;have g0:=eq_false h0;simp only[sw,af,ae,aa,seval,iteOmega,toNatUp];refine sC (c) ?_;simp only[g0,ae,aa,seval,iteOmega,toNatUp];exact aO
theorem rP (key info:List UInt8):iu key info 32=gA key info 32∧lf 32=0:=⟨kB key info (by decide),lF (by decide)⟩
def pi:aE:=⟨2,31,.seq (.reg [oO 4 (.alloc [.nil]),oO 5 (.mv (kI 0))]) (.seq (.seq (.reg [oM 8 0,oO 9 (.bin .lss (.t 8) (kI 0)),oM 10 9,oG 11 (.mv (.t 0)) 10 false,oG 12 (.bin .gtr (.t 11) (kI 4294967295)) 10 false,oO 13 (.pick (.t 10) (.k (.c (.d (.bool true)))) (.t 12))]) (.cond (.t 13) (.seq (.reg [oO 14 (.build [.nil] []),oN (.store (.ag 1) (.t 4) (.t 14)),oO 5 (.mv (kI 4))]) (.ret)) (.skip))) (.seq (.seq (.reg [oM 15 1,oO 16 (.len (.t 15)),oO 17 (.bin .neq (.t 16) (kI 32))]) (.cond (.t 17) (.seq (.reg [oO 18 (.build [.nil] []),oN (.store (.ag 1) (.t 4) (.t 18)),oO 5 (.mv (kI 5))]) (.ret)) (.skip))) (.seq (.reg [oM 20 1,oO 21 (.bldSl true 13 1 (.int .u8 0) [(0,(.k (.c (.d (.int .u8 115))))),(1,(.k (.c (.d (.int .u8 101))))),(2,(.k (.c (.d (.int .u8 99))))),(3,(.k (.c (.d (.int .u8 116))))),(4,(.k (.c (.d (.int .u8 105))))),(5,(.k (.c (.d (.int .u8 109))))),(6,(.k (.c (.d (.int .u8 101))))),(7,(.k (.c (.d (.int .u8 32))))),(8,(.k (.c (.d (.int .u8 115))))),(9,(.k (.c (.d (.int .u8 116))))),(10,(.k (.c (.d (.int .u8 97))))),(11,(.k (.c (.d (.int .u8 114))))),(12,(.k (.c (.d (.int .u8 116)))))]),
 oO 22 (.markF (.t 21)),oO 23 (.call 101 [(.t 20),(.t 22),(kI 32)] none),oM 19 23,oO 24 (.extract (.t 19) 0),oO 25 (.extract (.t 19) 1),oM 6 24,oM 7 25]) (.seq (.reg [oM 26 0,oM 27 6,oO 28 (.build [(.d (.int .i64 0)),.nil] [(0,1,(.t 26)),(1,1,(.t 27))]),oO 29 (.bldSl false 1 2 (.agg [(.int .i64 0),(.sl [])]) [(0,(.t 28))]),oO 30 (.build [.nil] [(0,1,(.t 29))]),oN (.store (.ag 1) (.t 4) (.t 30)),oO 5 (.mv (kI 0))]) (.ret))))),[(4,(some (.ag 1))),(5,none)]⟩
theorem RP:aC Tryz.prog { own:=[21],comp:=[],frz:=[22],nils:=[] } Tryz.f60=some pi:=by kernel_rfl
theorem Ub (G:ah) (id:Int) (seed:List UInt8) (hs:seed.length≤9223372036854775807):ak Tryz.prog G 60 [.int .i64 id,.sl (seed.map bD)] (.tup [.c (.d (bR (mf id seed))),.c (.d (.int .i64 (iV id seed)))]):=by
  refine aG Tryz.func60 RP rfl rfl ?_;rcases Int.lt_or_le id 0 with h1 | h1
  ·have e:iV id seed=4:=if_pos (.inl h1);have e2:mf id seed=[]:=if_neg (by rw[e]; decide);rw[e,e2];unfold bR;simp only[pi,af,ae,aa,seval,iteOmega,toNatUp];exact iO (by simp only[ae,aa,seval,iteOmega,toNatUp] <;> rfl) (by simp only[ae,aa,seval,iteOmega,toNatUp])
  ·rcases Int.lt_or_le 4294967295 id with h2 | h2
   ·have e:iV id seed=4:=if_pos (.inr h2);have e2:mf id seed=[]:=if_neg (by rw[e]; decide);have g:(id>4294967295)=True:=eq_true h2;rw[e,e2];unfold bR;simp only[pi,af,ae,aa,seval,iteOmega,toNatUp,g];exact iO (by simp only[ae,aa,seval,iteOmega,toNatUp] <;> rfl) (by simp only[ae,aa,seval,iteOmega,toNatUp])
   ·have g:(id>4294967295)=False:=eq_false (by omega);by_cases h3:seed.length=32
    ·have e:iV id seed=0:=by unfold iV; rw[if_neg (by omega),if_neg (by omega)]
     have e2:mf id seed=[⟨id,nW seed⟩]:=if_pos e;rw[e,e2];have c:=su G seed oZ (by omega) (by decide) 32 (by decide) (by decide);rw[(rP seed oZ).1,(rP seed oZ).2,show gA seed oZ 32=nW seed from rfl] at c;generalize nW seed=K at *
     unfold bR;simp only[pi,af,ae,aa,seval,iteOmega,toNatUp,g,h3];refine bi c (by simp only[ae,aa,seval,iteOmega,toNatUp] <;> rfl) (.inl rfl) ?_;simp only[ae,aa,seval,iteOmega,toNatUp];exact iO (by simp only[ae,aa,seval,iteOmega,toNatUp] <;> rfl) (by simp only[ae,aa,seval,iteOmega,toNatUp])
    ·have e:iV id seed=5:=by unfold iV; rw[if_neg (by omega),if_pos h3]
     have e2:mf id seed=[]:=if_neg (by rw[e]; decide);rw[e,e2];unfold bR;simp only[pi,af,ae,aa,seval,iteOmega,toNatUp,g];exact iO (by simp only[ae,aa,seval,iteOmega,toNatUp] <;> rfl) (by simp only[ae,aa,seval,iteOmega,toNatUp])
theorem Uc {l:List Fd} (h:¬ cO l):gW l=3∧kj l=[]:=by
  have e:gW l=3:=if_neg h;exact⟨e,if_neg (by rw[e]; decide)⟩
theorem Ud {l:List Fd} (h:cO l) {i:Nat} (hi:i<l.length) (h3:i<3) (e:(l.getD i default).ty=fw l):gW l=7∧kj l=[]:=by
  have hc:clash l=true:=by
    unfold clash;rw[XO];refine⟨l.getD i default,?_,decide_eq_true e⟩;rw[WB,Wz hi];exact List.mem_take_iff_getElem.2 ⟨i,by omega,rfl⟩
  have e7:gW l=7:=by unfold gW; rw[if_pos h,if_pos hc]
  exact⟨e7,if_neg (by rw[e7]; decide)⟩
theorem JD {l:List Fd} (h:cO l) {i:Nat} (hi:i≤l.length) (hend:l.length≤i∨3≤i) (hd:∀ j,j<i→(l.getD j default).ty≠fw l) (h3:i≤3):gW l=0∧kj l=ki l::l.take i:=by
  have ht:l.take 3=l.take i:=by
    rcases hend with h | h
    ·rw[WE h,WE (by omega)]
    ·rw[show i=3 by omega]
  have hc:clash l=false:=by
    unfold clash;rw[ht,XB];intro f hf;obtain⟨j,hj,rfl⟩:=List.mem_take_iff_getElem.1 hf;have:=hd j (by omega);rw[WB,Wz (by omega)] at this
    simpa using this
  have e:gW l=0:=by unfold gW; rw[if_pos h,if_neg (by rw[hc]; decide)]
  refine⟨e,?_⟩;unfold kj;rw[if_pos e,ht]
def eW (l:List Fd) (i:Nat):List Fd:=ki l::l.take i
theorem Ue {l:List Fd} {i:Nat} (h:i<l.length):eW l (i+1)=eW l i++[l.getD i default]:=by
  unfold eW;rw[BU h]; rfl
def KL (l:List Fd) (i:Nat):St:=⟨aQ [(1,.w (.c (.rp [.sl (l.map ct)]))),(2,.w (.c (.ptr 3 1 0 0))),(6,.w (.c (.ptr 1 1 0 0))),(7,.w (.c (.d (.int .i64 (i:Int)))))],hL [(1,.box [.own 2 2 0 (eW l i).length]),(2,.row 2 ((eW l i).map ct)),(3,.box [.nil])],uL [1,2,3]⟩
def oK:aM := .seq (.seq (.reg [oM 34 7,oO 35 (.fieldAddr 0 (.t 1)),oO 36 (.load .sc (.t 35)),oO 37 (.len (.t 36)),oO 38 (.bin .lss (.t 34) (.t 37)),oM 39 38,oG 40 (.mv (.t 7)) 39 true,oG 41 (.bin .lss (.t 40) (kI 3)) 39 true,oO 42 (.pick (.t 39) (.t 41) (.k (.c (.d (.bool false)))))]) (.cond (.t 42) (.skip) (.exit 0))) (.seq (.block 1 (.seq (.seq (.reg [oO 45 (.fieldAddr 0 (.t 1)),oO 46 (.load .sc (.t 45)),oM 47 7,oO 48 (.idxSl 2 (.t 46) (.t 47)),oO 49 (.fieldAddr 0 (.t 48)),oO 50 (.load .sc (.t 49)),oO 51 (.fieldAddr 0 (.t 6)),oO 52 (.load .sc (.t 51)),oO 53 (.idxSl 2 (.t 52) (kI 0)),oO 54 (.fieldAddr 0 (.t 53)),oO 55 (.load .sc (.t 54)),oO 56 (.bin .eql (.t 50) (.t 55))]) (.cond (.t 56) (.seq (.reg [oO 57 (.build [.nil] []),oN (.store (.ag 1) (.t 2) (.t 57)),oO 3 (.mv (kI 7))])
 (.ret)) (.skip))) (.reg [oO 58 (.fieldAddr 0 (.t 6)),oO 59 (.load .sc (.t 58)),oO 60 (.fieldAddr 0 (.t 1)),oO 61 (.load .sc (.t 60)),oM 62 7,oO 63 (.idxSl 2 (.t 61) (.t 62)),oO 64 (.fieldAddr 0 (.t 63)),oO 65 (.load .sc (.t 64)),oO 66 (.fieldAddr 0 (.t 1)),oO 67 (.load .sc (.t 66)),oM 68 7,oO 69 (.idxSl 2 (.t 67) (.t 68)),oO 70 (.fieldAddr 1 (.t 69)),oO 71 (.load .sc (.t 70)),oO 72 (.bldSl false 1 1 (.sl []) [(0,(.t 71))]),oO 73 (.call 43 [(.t 72)] none),oO 74 (.build [(.d (.int .i64 0)),.nil] [(0,1,(.t 65)),(1,1,(.t 73))]),oO 75 (.bldSl false 1 2 (.agg [(.int .i64 0),(.sl [])]) [(0,(.t 74))]),oO 76 (.app false 2 32 (.t 59) (.t 75)),oO 77 (.fieldAddr 0 (.t 6)),oN (.store .sc (.t 77) (.t 76))]))) (.reg [oM 43 7,oO 44 (.bin .add (.t 43) (kI 1)),oM 7 44]))
def xh:aE:=⟨1,79,.seq (.reg [oO 1 (.box .roBox (.t 0)),oO 2 (.alloc [.nil]),oO 3 (.mv (kI 0))]) (.seq (.seq (.reg [oO 8 (.load (.ag 1) (.t 1)),oO 9 (.call 73 [(.t 8)] none),oO 10 (.un .not (.t 9))]) (.cond (.t 10) (.seq (.reg [oO 11 (.build [.nil] []),oN (.store (.ag 1) (.t 2) (.t 11)),oO 3 (.mv (kI 3))]) (.ret)) (.skip))) (.seq (.reg [oO 13 (.fieldAddr 0 (.t 1)),oO 14 (.load .sc (.t 13)),oO 15 (.idxSl 2 (.t 14) (kI 0)),oO 16 (.fieldAddr 1 (.t 15)),oO 17 (.load .sc (.t 16)),oO 18 (.bldSl true 12 1 (.int .u8 0) [(0,(.k (.c (.d (.int .u8 115))))),(1,(.k (.c (.d (.int .u8 101))))),(2,(.k (.c (.d (.int .u8 99))))),(3,(.k (.c (.d (.int .u8 116))))),(4,(.k (.c (.d (.int .u8 105))))),(5,(.k (.c (.d (.int .u8 109))))),(6,(.k (.c (.d (.int .u8 101))))),(7,(.k (.c (.d (.int .u8 32))))),(8,(.k (.c (.d (.int .u8 110))))),(9,(.k (.c (.d (.int .u8 101))))),(10,(.k (.c (.d (.int .u8 120))))),(11,(.k (.c (.d (.int .u8 116)))))]),
 oO 19 (.markF (.t 18)),oO 20 (.call 101 [(.t 17),(.t 19),(kI 32)] none),oM 12 20,oO 21 (.extract (.t 12) 0),oO 22 (.extract (.t 12) 1),oM 4 21,oM 5 22]) (.seq (.reg [oO 23 (.fieldAddr 0 (.t 1)),oO 24 (.load .sc (.t 23)),oO 25 (.idxSl 2 (.t 24) (kI 0)),oO 26 (.fieldAddr 0 (.t 25)),oO 27 (.load .sc (.t 26)),oO 28 (.bin .add (.t 27) (kI 1)),oO 29 (.bin .and (.t 28) (kI 4294967295)),oM 30 4,oO 31 (.build [(.d (.int .i64 0)),.nil] [(0,1,(.t 29)),(1,1,(.t 30))]),oO 32 (.bldSl true 1 2 (.agg [(.int .i64 0),(.sl [])]) [(0,(.t 31))]),oO 33 (.build [.nil] [(0,1,(.t 32))]),oO 6 (.alloc [.nil]),oN (.store (.ag 1) (.t 6) (.t 33))]) (.seq (.seq (.reg [oO 7 (.mv (kI 0))]) (.block 0 (.loop oK))) (.seq (.reg [oO 78 (.load (.ag 1) (.t 6)),oN (.store (.ag 1) (.t 2) (.t 78)),oO 3 (.mv (kI 0))]) (.ret)))))),
 [(2,(some (.ag 1))),(3,none)]⟩
theorem RQ:aC Tryz.prog { own:=[18,32],comp:=[],frz:=[19],nils:=[] } Tryz.f61=some xh:=by kernel_rfl
theorem Uf (G:ah) (l:List Fd) (hl:l.length≤9223372036854775807):ak Tryz.prog G 61 [bR l] (.tup [.c (.d (bR (kj l))),.c (.d (.int .i64 (gW l)))]):=by
  refine aG Tryz.func61 RQ rfl rfl ?_;have c1:=Ua G l hl;by_cases hr:cO l
  ·rw[decide_eq_true hr] at c1;have r1:=hr.1;have r2:=hr.2.1;have g0:=me (l:=l) (i:=0) (by omega);obtain⟨⟨m1,m2,m3⟩,_⟩:=lM hr (i:=0) (by omega);have c2:=su G (l.getD 0 default).da rN (by omega) (by decide) 32 (by decide) (by decide);rw[(rP _ rN).1,(rP [] []).2,show gA (l.getD 0 default).da rN 32=nX (l.getD 0 default).da from rfl] at c2;have ha:=NT ((l.getD 0 default).ty+1);rw[show ((l.getD 0 default).ty+1)%4294967296=fw l from rfl] at ha;have hO0:eW l 0=[⟨fw l,nX (l.getD 0 default).da⟩]:=rfl;have hOh:∀ i,(eW l i).map ct=.agg [.int .i64 (fw l),.sl ((nX (l.getD 0 default).da).map bD)]::(l.take i).map ct:=fun i=>rfl
   unfold bR at *
   generalize hk0:l.getD 0 default=k0 at *
   simp only[xh,af,ae,aa,seval,iteOmega,toNatUp];refine sC (c1) ?_;simp only[aJ,g0,ct,ha,ae,aa,seval,iteOmega,toNatUp];refine sC c2 ?_;simp only[aJ,g0,ct,ha,ae,aa,seval,iteOmega,toNatUp];refine ba (KL l) (fun i=>4-i) (fun i=>i≤l.length∧i≤3∧∀ j,j<i→(l.getD j default).ty≠fw l) 0 ⟨WI _,WI _,fun j hj=>by omega⟩ ?_ ?_
   ·refine aw (fun i=>if i=1 then 48 else if i=2 then 256 else 16) ?_ ?_ rfl rfl <;> simp only[wx,am,aH,aa,seval,iteOmega,toNatUp,hO0] <;> first | exact⟨rfl,rfl⟩ | rfl | skip
   ·rintro i ⟨hi,hi3,hd⟩;clear c1 c2;have hOl:(eW l i).length=i+1:=by simp[eW]; omega
    have az:=vN (eW l i);have hhd:(eW l i)[0]?=some (ki l):=rfl;have hty:(ki l).ty=fw l:=rfl;have est:KL l i=⟨aQ [(1,.w (.c (.rp [.sl (l.map ct)]))),(2,.w (.c (.ptr 3 1 0 0))),(6,.w (.c (.ptr 1 1 0 0))),(7,.w (.c (.d (.int .i64 (i:Int)))))],hL [(1,.box [.own 2 2 0 (eW l i).length]),(2,.row 2 ((eW l i).map ct)),(3,.box [.nil])],uL [1,2,3]⟩:=rfl;by_cases hlt:i<l.length
    ·by_cases h3:i<3
     ·have g:=me hlt;have hs:=Ue hlt;obtain⟨⟨_,_,x3⟩,_⟩:=lM hr hlt;have cj:=kA G [(l.getD i default).da] (by simp) (by rw[Yu,X7,WS,x3]; decide);simp only[WH,W8,Yu,X7,WS] at cj;by_cases he:(l.getD i default).ty=fw l
      ·obtain⟨e1,e2⟩:=Ud hr hlt h3 he;have ge:((l.getD i default).ty=fw l)=True:=eq_true he;rw[e1,e2,est];clear hd hs hOh hO0 est;generalize eW l i=O at *
       generalize l.getD i default=x at *
       generalize ki l=nf at *
       generalize fw l=ni at *
       simp only[oK,ae,aa,seval,iteOmega,toNatUp,aJ,g,hhd,ct,hty,ge];exact iO (by simp only[ae,aa,seval,iteOmega,toNatUp] <;> rfl) (by simp only[ae,aa,seval,iteOmega,toNatUp])
      ·have ge:((l.getD i default).ty=fw l)=False:=eq_false he;have hd':∀ j,j<i+1→(l.getD j default).ty≠fw l:=fun j hj=>by
         rcases Xd j i with h | h
         ·exact hd j h
         ·obtain rfl:j=i:=by omega
          exact he
       rw[est];clear hd hOh hO0 est;generalize hO:eW l i=O at *
       generalize l.getD i default=x at *
       generalize hnf:ki l=nf at *
       generalize hni:fw l=ni at *
       simp only[oK,ae,aa,seval,iteOmega,toNatUp,aJ,g,hhd,ct,hty,ge];refine sC (cj) ?_;simp only[bI,Nm,ct,ae,aa,seval,iteOmega,toNatUp];refine aS (i+1) (by omega) ⟨by omega,by omega,hd'⟩ (aw (fun i=>if i=1 then 1 else if i=2 then 608 else 3) ?_ ?_ rfl rfl) <;> simp only[hs,Xc,ct,wx,am,aH,aa,seval,iteOmega,toNatUp]
     ·obtain⟨e1,e2⟩:=JD hr hi (.inr (by omega)) hd hi3;have e2:kj l=eW l i:=e2;have g3:((i:Int)<3)=False:=eq_false (by omega);rw[e1,e2,est];clear hd hOh hO0 est;generalize eW l i=O at *
      simp only[oK,ae,aa,seval,iteOmega,toNatUp,g3];exact iO (by simp only[ae,aa,seval,iteOmega,toNatUp] <;> rfl) (by simp only[ae,aa,seval,iteOmega,toNatUp])
    ·obtain⟨e1,e2⟩:=JD hr hi (.inl (by omega)) hd hi3;have e2:kj l=eW l i:=e2;rw[e1,e2,est];clear hd hOh hO0 est;generalize eW l i=O at *
     simp only[oK,ae,aa,seval,iteOmega,toNatUp];exact iO (by simp only[ae,aa,seval,iteOmega,toNatUp] <;> rfl) (by simp only[ae,aa,seval,iteOmega,toNatUp])
  ·rw[decide_eq_false hr] at c1;obtain⟨e1,e2⟩:=Uc hr;rw[e1,e2];unfold bR at *
   simp only[xh,af,ae,aa,seval,iteOmega,toNatUp];refine sD (c1) ?_;exact iO (by simp only[ae,aa,seval,iteOmega,toNatUp] <;> rfl) (by simp only[ae,aa,seval,iteOmega,toNatUp])
def gI (a b:List UInt8):D:=.agg [.sl (a.map bD),.sl (b.map bD)]
theorem RR (m:Fd) (algo:Int) (up dn nonce:List UInt8):[ez m,nonce,gL m.da [ez m,nonce] (fc algo up dn)].flatten=dL m algo up dn nonce:=by
  unfold dL;simp only[Yu,X7,WS]
theorem EQ (algo:Int) (up dn:List UInt8):[aN algo.toNat 2,[0,0],up,dn].flatten=fc algo up dn:=by
  unfold fc;simp only[Yu,X7,WS]
theorem nk {l:List Fd} {algo:Int} {up dn nonce:List UInt8} {e:Int} (h:iy l algo up dn nonce=e) (he:e≠0):mh l algo up dn nonce=[]:=if_neg (by rw[h]; exact he)
def yX (t:Int) (s:Nat) (K:List UInt8) (i:Nat):St:=⟨aQ [(1,.w (.c (.d (.int .i64 t)))),(4,.w (.c (.ptr 2 1 0 0))),(5,.w (.c (.ptr 1 1 0 0))),(7,.w (.c (.d (.int .i64 (i:Int)))))],hL [(1,.box [.d (.sl ((dt s K i).map ct))]),(2,.box [.nil])],uL [1,2]⟩
def we:aM := .seq (.seq (.reg [oM 16 7,oM 17 1,oO 18 (.call 24 [(.t 17),(kI 6)] none),oO 19 (.bin .lss (.t 16) (.t 18))]) (.cond (.t 19) (.skip) (.exit 0))) (.seq (.block 1 (.reg [oO 23 (.load (.ag 1) (.t 5)),oO 24 (.call 61 [(.t 23)] none),oM 22 24,oO 25 (.extract (.t 22) 0),oO 26 (.extract (.t 22) 1),oN (.store (.ag 1) (.t 5) (.t 25))])) (.reg [oM 20 7,oO 21 (.bin .add (.t 20) (kI 1)),oM 7 21]))
def JE:aE:=⟨2,28,.seq (.reg [oO 4 (.alloc [.nil])]) (.seq (.reg [oM 9 0,oO 10 (.call 24 [(.t 9),(kI 4294967296)] none),oM 11 0,oO 12 (.call 59 [(.t 11)] none),oO 13 (.call 60 [(.t 10),(.t 12)] none),oM 8 13,oO 14 (.extract (.t 8) 0),oO 15 (.extract (.t 8) 1),oO 5 (.alloc [.nil]),oN (.store (.ag 1) (.t 5) (.t 14)),oM 6 15]) (.seq (.seq (.reg [oO 7 (.mv (kI 0))]) (.block 0 (.loop we))) (.seq (.reg [oO 27 (.load (.ag 1) (.t 5)),oN (.store (.ag 1) (.t 4) (.t 27))]) (.ret)))),[(4,(some (.ag 1)))]⟩
theorem Ug:aC Tryz.prog { own:=[],comp:=[],frz:=[],nils:=[] } Tryz.f25=some JE:=by kernel_rfl
set_option maxHeartbeats 1600000 in
theorem VJ (G:ah) (s:Nat) (t:Int) (hs:s≤1000000):ak Tryz.prog G 25 [.int .i64 (s:Int),.int .i64 t] (.w (.c (.d (bR (dt s (bu s 32) (jc t 6).toNat))))):=by
  refine aG Tryz.func25 Ug rfl rfl ?_;have c1:=EG G (s:Int) 4294967296 (by decide);have e1:jc (s:Int) 4294967296=(s:Int):=by unfold jc; rw[if_neg (by decide)]; omega
  rw[e1] at c1;have c2:=JA G (s:Int);have kl:(bu s 32).length=32:=oD _ _;have c3:=Ub G (s:Int) (bu s 32) (by omega);obtain⟨q1,q2⟩:=NS s (bu s 32) (by omega) kl;rw[q1,q2] at c3;have c4:=EG G t 6 (by decide);obtain⟨r1,r2⟩:=LF t 6 (by decide);have hstep:∀ i,i<6→ak Tryz.prog G _ [bR (dt s (bu s 32) i)] (.tup [.c (.d (bR (dt s (bu s 32) (i+1)))),.c (.d (.int .i64 0))]):=fun i hi=>by
    have c:=Uf G (dt s (bu s 32) i) (by rw[mS]; omega);obtain⟨a,b⟩:=PK (s:=s) (seed:=bu s 32) (t:=i) (by omega);rw[a,b] at c;exact c
  generalize bu s 32=K at *
  generalize jc t 6=n at *
  unfold bR at *
  simp only[JE,af,ae,aa,seval,iteOmega,toNatUp];refine sD (c1) ?_;refine sD (c2) ?_;refine sD (c3) ?_;refine ba (yX t s K) (fun i=>n.toNat-i) (fun i=>i≤n.toNat) 0 (WI _) ?_ ?_
  ·refine aw (fun i=>if i=1 then 40 else 32) ?_ ?_ rfl rfl <;> simp only[wx,am,aH,aa,seval,iteOmega,toNatUp]
  ·intro i hi;by_cases hlt:i<n.toNat
   ·have c:=hstep i (by omega);have g:(i:Int)<n:=by omega
    simp only[we,yX,ae,aa,seval,iteOmega,toNatUp];refine sC (c4) ?_;simp only[g,ae,aa,seval,iteOmega,toNatUp];refine sD (c) ?_;refine aS (i+1) (by omega) (by omega) (aw (fun i=>i) ?_ ?_ rfl rfl) <;> simp only[wx,am,aH,aa,seval,iteOmega,toNatUp] <;> try rfl
   ·have g:((i:Int)<n)=False:=eq_false (by omega);have e:n.toNat=i:=by omega
    rw[e];simp only[we,yX,ae,aa,seval,iteOmega,toNatUp];refine sC (c4) ?_;simp only[g,ae,aa,seval,iteOmega,toNatUp];exact aI
def kL:aE:=⟨2,43,.seq (.reg [oO 4 (.mv (.k (.c .nil))),oO 5 (.mv (kI 0))]) (.seq (.seq (.reg [oM 6 0,oO 7 (.call 54 [(.t 6)] none),oO 8 (.un .not (.t 7)),oM 9 8,oG 10 (.mv (.t 1)) 9 false,oG 11 (.call 54 [(.t 10)] none) 9 false,oG 12 (.un .not (.t 11)) 9 false,oO 13 (.pick (.t 9) (.k (.c (.d (.bool true)))) (.t 12))]) (.cond (.t 13) (.seq (.reg [oO 4 (.mv (.k (.c .nil))),oO 5 (.mv (kI 4))]) (.ret)) (.skip))) (.seq (.seq (.reg [oM 14 0,oO 15 (.len (.t 14)),oO 16 (.bin .eql (.t 15) (kI 0)),oM 17 16,oG 18 (.mv (.t 0)) 17 false,oG 19 (.len (.t 18)) 17 false,oG 20 (.bin .gtr (.t 19) (kI 16)) 17 false,oO 21 (.pick (.t 17) (.k (.c (.d (.bool true)))) (.t 20)),oM 22 21,oG 23 (.mv (.t 1)) 22 false,oG 24 (.len (.t 23)) 22 false,oG 25 (.bin .eql (.t 24) (kI 0)) 22 false,oO 26 (.pick (.t 22) (.k (.c (.d (.bool true)))) (.t 25)),
 oM 27 26,oG 28 (.mv (.t 1)) 27 false,oG 29 (.len (.t 28)) 27 false,oG 30 (.bin .gtr (.t 29) (kI 16)) 27 false,oO 31 (.pick (.t 27) (.k (.c (.d (.bool true)))) (.t 30))]) (.cond (.t 31) (.seq (.reg [oO 4 (.mv (.k (.c .nil))),oO 5 (.mv (kI 8))]) (.ret)) (.skip))) (.seq (.reg [oM 32 0,oO 33 (.call 55 [(.t 32)] none),oO 34 (.build [(.d (.bool false)),(.d (.int .i64 0)),.nil] [(0,1,(.k (.c (.d (.bool true))))),(1,1,(kI 1)),(2,1,(.t 33))]),oM 35 1,oO 36 (.call 55 [(.t 35)] none),oO 37 (.build [(.d (.bool false)),(.d (.int .i64 0)),.nil] [(0,1,(.k (.c (.d (.bool true))))),(1,1,(kI 4)),(2,1,(.t 36))]),oO 38 (.build [(.d (.bool false)),(.d (.int .i64 0)),.nil] [(0,1,(.k (.c (.d (.bool true))))),(1,1,(kI 0))]),oO 39 (.bldSl false 3 3 (.agg [(.bool false),(.int .i64 0),(.sl [])]) [(0,(.t 34)),(1,(.t 37)),(2,(.t 38))]),
 oO 40 (.call 11 [(.t 39)] none),oO 41 (.extract (.t 40) 0),oO 42 (.extract (.t 40) 1),oM 4 41,oM 5 42]) (.ret)))),[(4,none),(5,none)]⟩
theorem Uh:aC Tryz.prog { own:=[],comp:=[],frz:=[],nils:=[] } Tryz.f17=some kL:=by kernel_rfl
set_option maxHeartbeats 1600000 in
theorem VK (G:ah) (x y:List Int) (hx:x.length≤9000000000000000000) (hy:y.length≤9000000000000000000):ak Tryz.prog G 17 [.sl (x.map zD),.sl (y.map zD)] (.tup [.c (.d (.sl ((bK x y).map bD))),.c (.d (.int .i64 (cJ x y)))]):=by
  refine aG Tryz.func17 Uh rfl rfl ?_;have c1:=KF G x hx;have c2:=KF G y hy;have hno:∀ e,cJ x y=e→e≠0→bK x y=[]:=fun e h1 h2=>if_neg (by rw[h1]; exact h2)
  by_cases h1:br x
  ·rw[decide_eq_true h1] at c1;by_cases h2:br y
   ·rw[decide_eq_true h2] at c2;have hE:cJ x y=if x.length=0∨16<x.length∨y.length=0∨16<y.length then 8 else 0:=if_neg (not_not_intro ⟨h1,h2⟩)
    by_cases l1:x.length=0
    ·rw[if_pos (.inl l1)] at hE;rw[hno 8 hE (by decide),hE];have g1:((x.length:Int)=0)=True:=eq_true (by omega);simp only[kL,af,ae,aa,seval,iteOmega,toNatUp];refine sD (c1) ?_;refine sC (c2) ?_;simp only[g1,ae,aa,seval,iteOmega,toNatUp];exact aO
    ·have g1:((x.length:Int)=0)=False:=eq_false (by omega);by_cases l2:16<x.length
     ·rw[if_pos (.inr (.inl l2))] at hE;rw[hno 8 hE (by decide),hE];have g2:((x.length:Int)>16)=True:=eq_true (by omega);simp only[kL,af,ae,aa,seval,iteOmega,toNatUp];refine sD (c1) ?_;refine sC (c2) ?_;simp only[g1,g2,ae,aa,seval,iteOmega,toNatUp];exact aO
     ·have g2:((x.length:Int)>16)=False:=eq_false (by omega);by_cases l3:y.length=0
      ·rw[if_pos (.inr (.inr (.inl l3)))] at hE;rw[hno 8 hE (by decide),hE];have g3:((y.length:Int)=0)=True:=eq_true (by omega);simp only[kL,af,ae,aa,seval,iteOmega,toNatUp];refine sD (c1) ?_;refine sC (c2) ?_;simp only[g1,g2,g3,ae,aa,seval,iteOmega,toNatUp];exact aO
      ·have g3:((y.length:Int)=0)=False:=eq_false (by omega);by_cases l4:16<y.length
       ·rw[if_pos (.inr (.inr (.inr l4)))] at hE;rw[hno 8 hE (by decide),hE];have g4:((y.length:Int)>16)=True:=eq_true (by omega);simp only[kL,af,ae,aa,seval,iteOmega,toNatUp];refine sD (c1) ?_;refine sC (c2) ?_;simp only[g1,g2,g3,g4,ae,aa,seval,iteOmega,toNatUp];exact aO
       ·have g4:((y.length:Int)>16)=False:=eq_false (by omega);rw[if_neg (by omega)] at hE;obtain⟨q1,q2⟩:=x5 hE;rw[show bK x y=aY (dd x y) from if_pos hE,hE];have c3:=KE G x (by omega) h1;have c4:=KE G y (by omega) h2;have c5:=KD G (dd x y) (show (3:Nat)≤_ by decide) (fun r hr=>by
          have:r.bo.length≤65535:=by
            have h9:=(jP q1).1 r hr;exact (jg h9).2.2
          omega)
        rw[q1,q2] at c5;generalize aY (dd x y)=Q at *
        simp only[dd,WH,W8,aF] at c5;generalize aR x=X at *
        generalize aR y=Y at *
        clear q1 q2 hE hno;simp only[kL,af,ae,aa,seval,iteOmega,toNatUp];refine sD (c1) ?_;refine sC (c2) ?_;simp only[g1,g2,g3,g4,ae,aa,seval,iteOmega,toNatUp];refine sD (c3) ?_;refine sD (c4) ?_;refine sD (c5) ?_;exact aO
   ·rw[decide_eq_false h2] at c2;have hE:cJ x y=4:=if_pos (fun q=>h2 q.2);rw[hno 4 hE (by decide),hE];simp only[kL,af,ae,aa,seval,iteOmega,toNatUp];refine sD (c1) ?_;refine sD (c2) ?_;exact aO
  ·rw[decide_eq_false h1] at c1;have hE:cJ x y=4:=if_pos (fun q=>h1 q.1);rw[hno 4 hE (by decide),hE];simp only[kL,af,ae,aa,seval,iteOmega,toNatUp];refine sD (c1) ?_;exact aO
def zS:ByteArray:=⟨#[115,101,99,116,105,109,101,32,107,101,121,115]⟩
def yY (l:List Int) (i:Nat):St:=⟨aQ [(3,.w (.c (.own 1 1 0 (aR (l.take i)).length))),(6,.w (.c (.d (.sl (l.map zD))))),(7,.w (.c (.d (.int .i64 (l.length:Int))))),(8,.w (.c (.d (.int .i64 (i:Int)))))],hL [(1,.row 1 ((aR (l.take i)).map bD))],uL [1]⟩
def wg:aM := .seq (.reg [oO 9 (.bin .lss (.t 8) (.t 7))]) (.seq (.cond (.t 9) (.skip) (.exit 0)) (.seq (.block 1 (.seq (.reg [oO 10 (.idxSl 1 (.t 6) (.t 8)),oO 11 (.load .sc (.t 10)),oM 5 11]) (.reg [oM 12 3,oM 13 5,oO 14 (.conv .u64 (.t 13)),oO 15 (.call 91 [(.t 14),(kI 2)] none),oO 16 (.app false 1 1 (.t 12) (.t 15)),oM 3 16]))) (.reg [oO 17 (.bin .add (.t 8) (kI 1)),oM 8 17])))
def JF:aE:=⟨1,19,.seq (.reg [oO 2 (.mv (.k (.c .nil)))]) (.seq (.reg [oO 3 (.nilOwn 1)]) (.seq (.seq (.reg [oM 6 0,oO 7 (.len (.t 6)),oO 8 (.mv (kI 0))]) (.block 0 (.loop wg))) (.seq (.reg [oM 18 3,oM 2 18]) (.ret)))),[(2,none)]⟩
theorem Ui:aC Tryz.prog { own:=[3],comp:=[],frz:=[],nils:=[] } Tryz.f53=some JF:=by kernel_rfl
theorem VL (G:ah) (l:List Int) (hl:l.length≤1000000000) (hs:br l):ak Tryz.prog G 53 [.sl (l.map zD)] (.w (.c (.fr 1 ((aR l).map bD)))):=by
  refine aG Tryz.func53 Ui rfl rfl ?_;simp only[JF,af,ae,aa,seval,iteOmega,toNatUp];refine ba (yY l) (fun i=>l.length-i) (fun i=>i≤l.length) 0 (WI _) ?_ ?_
  ·refine aw (fun _=>24) ?_ ?_ rfl rfl <;> simp only[wx,am,aH,aa,seval,iteOmega,toNatUp] <;> first | rfl | exact⟨rfl,rfl⟩ | skip
  ·intro i hi;by_cases hlt:i<l.length
   ·have g:=iW hlt;obtain⟨n1,n2⟩:=hs _ (mL hlt);have e:aR (l.take (i+1))=aR (l.take i)++aN (l.getD i 0).toNat 2:=by
      rw[jx hlt,G2,rj]
      show _++(_++[])=_
      rw[WS]
    have hb:(aR (l.take i)).length≤2000000000:=by rw[fi,WF]; omega
    generalize l.getD i 0=v at *
    obtain⟨a,rfl⟩:=Xz n1;rw[show ((a:Nat):Int).toNat=a from rfl] at e;have c:=ng G a 2 (by decide);rw[show (2:Int).toNat=2 from rfl] at c;have pl:=bW a 2;generalize aN a 2=P at *
    simp only[wg,yY,ae,aa,seval,iteOmega,toNatUp,aJ,g,zD];refine sC (c) ?_;simp only[pl,bI,ae,aa,seval,iteOmega,toNatUp];refine aS (i+1) (by omega) (by omega) (aw (fun _=>128) ?_ ?_ rfl rfl) <;> simp only[e,pl,wx,am,aH,aa,seval,iteOmega,toNatUp] <;> first | rfl | exact⟨rfl,rfl⟩ | skip
   ·have:l.take i=l:=WE (by omega);simp only[wg,yY,ae,aa,seval,iteOmega,toNatUp,this];exact ew
theorem lV (G:ah) (l:List Int) (hl:l.length≤1000000000) (hs:br l):ak Tryz.prog G 53 [.sl (l.map zD)] (.w (.c (.d (.sl ((aR l).map bD))))):=kH (VL G l hl hs)
def pR (l:List Int) (i:Nat):St:=⟨aQ [(5,.w (.c (.d (.sl (l.map zD))))),(6,.w (.c (.d (.int .i64 (l.length:Int))))),(7,.w (.c (.d (.int .i64 (i:Int)))))],hL [],uL []⟩
def o7:aM := .seq (.reg [oO 8 (.bin .lss (.t 7) (.t 6))]) (.seq (.cond (.t 8) (.skip) (.exit 0)) (.seq (.block 1 (.seq (.reg [oO 9 (.idxSl 1 (.t 5) (.t 7)),oO 10 (.load .sc (.t 9)),oM 4 10]) (.seq (.reg [oM 11 4,oO 12 (.bin .lss (.t 11) (kI 0)),oM 13 12,oG 14 (.mv (.t 4)) 13 false,oG 15 (.bin .geq (.t 14) (kI 65536)) 13 false,oO 16 (.pick (.t 13) (.k (.c (.d (.bool true)))) (.t 15))]) (.cond (.t 16) (.seq (.reg [oO 2 (.mv (.k (.c (.d (.bool false)))))]) (.ret)) (.skip))))) (.reg [oO 17 (.bin .add (.t 7) (kI 1)),oM 7 17])))
def JG:aE:=⟨1,18,.seq (.reg [oO 2 (.mv (.k (.c (.d (.bool false)))))]) (.seq (.seq (.reg [oM 5 0,oO 6 (.len (.t 5)),oO 7 (.mv (kI 0))]) (.block 0 (.loop o7))) (.seq (.reg [oO 2 (.mv (.k (.c (.d (.bool true)))))]) (.ret))),[(2,none)]⟩
theorem Uj:aC Tryz.prog { own:=[],comp:=[],frz:=[],nils:=[] } Tryz.f50=some JG:=by kernel_rfl
theorem nH (G:ah) (l:List Int) (hl:l.length≤9000000000000000000):ak Tryz.prog G 50 [.sl (l.map zD)] (.w (.c (.d (.bool (decide (br l)))))):=by
  refine aG Tryz.func50 Uj rfl rfl ?_;simp only[JG,af,ae,aa,seval,iteOmega,toNatUp];refine ba (pR l) (fun i=>l.length-i) (fun i=>i≤l.length∧br (l.take i)) 0 ⟨WI _,by rw[Xq]; exact fun n hn=>by cases hn⟩ ?_ ?_
  ·refine aw (fun _=>0) ?_ ?_ rfl rfl <;> simp only[wx,am,aH,aa,seval,iteOmega,toNatUp] <;> first | rfl | exact⟨rfl,rfl⟩ | skip
  ·rintro i ⟨hi,hp⟩;by_cases hlt:i<l.length
   ·have g:=iW hlt;have hm:=mL hlt;have hs:=jx hlt;generalize l.getD i 0=v at *
    by_cases h1:v<0
    ·rw[decide_eq_false (fun q:br l=>by have:=q v hm; omega)];have g1:=eq_true h1;simp only[o7,pR,ae,aa,seval,iteOmega,toNatUp,aJ,g,zD,g1];exact aI
    ·have g1:=eq_false h1;by_cases h2:v≥65536
     ·rw[decide_eq_false (fun q:br l=>by have:=q v hm; omega)];have g2:=eq_true h2;simp only[o7,pR,ae,aa,seval,iteOmega,toNatUp,aJ,g,zD,g1,g2];exact aI
     ·have g2:=eq_false h2;have hn:br (l.take (i+1)):=by
        rw[hs];intro n hn;rcases WO.1 hn with hn | hn
        ·exact hp n hn
        ·rw[WG.1 hn]; omega
      simp only[o7,pR,ae,aa,seval,iteOmega,toNatUp,aJ,g,zD,g1,g2];refine aS (i+1) (by omega) ⟨by omega,hn⟩ (aw (fun i=>i) ?_ ?_ rfl rfl) <;> simp only[wx,am,aH,aa,seval,iteOmega,toNatUp] <;> first | rfl | exact⟨rfl,rfl⟩ | skip
   ·rw[WE (by omega)] at hp;rw[decide_eq_true hp];simp only[o7,pR,ae,aa,seval,iteOmega,toNatUp];exact aI
def yZ (b:List UInt8) (k:Nat):St:=⟨aQ [(0,.w (.c (.d (.sl (b.map bD))))),(4,.w (.c (.own 1 1 0 (gD b k).length))),(5,.w (.c (.d (.int .i64 ((2*k:Nat):Int)))))],hL [(1,.row 1 ((gD b k).map zD))],uL [1]⟩
theorem VM (n:Nat):Int.tdiv (n:Int) 2=((n / 2:Nat):Int):=rfl
def wh:aM := .seq (.seq (.reg [oM 14 5,oM 15 0,oO 16 (.len (.t 15)),oO 17 (.bin .lss (.t 14) (.t 16))]) (.cond (.t 17) (.skip) (.exit 0))) (.seq (.block 1 (.reg [oM 20 4,oM 21 0,oM 22 5,oM 23 5,oO 24 (.bin .add (.t 23) (kI 2)),oO 25 (.slice 1 (.t 21) (some (.t 22)) (some (.t 24)) none),oO 26 (.call 48 [(.t 25)] none),oO 27 (.conv .i64 (.t 26)),oO 28 (.bldSl false 1 1 (.int .i64 0) [(0,(.t 27))]),oO 29 (.app false 1 8 (.t 20) (.t 28)),oM 4 29])) (.reg [oM 18 5,oO 19 (.bin .add (.t 18) (kI 2)),oM 5 19]))
def x9:aE:=⟨1,31,.seq (.reg [oO 2 (.mv (.k (.c .nil))),oO 3 (.mv (.k (.c (.d (.bool false)))))]) (.seq (.seq (.reg [oM 6 0,oO 7 (.len (.t 6)),oO 8 (.bin .rem (.t 7) (kI 2)),oO 9 (.bin .neq (.t 8) (kI 0))]) (.cond (.t 9) (.seq (.reg [oO 2 (.mv (.k (.c .nil))),oO 3 (.mv (.k (.c (.d (.bool false)))))]) (.ret)) (.skip))) (.seq (.reg [oM 10 0,oO 11 (.len (.t 10)),oO 12 (.bin .quo (.t 11) (kI 2)),oO 13 (.make true 1 8 (.int .i64 0) (kI 0) (.t 12)),oM 4 13]) (.seq (.seq (.reg [oO 5 (.mv (kI 0))]) (.block 0 (.loop wh))) (.seq (.reg [oM 30 4,oM 2 30,oO 3 (.mv (.k (.c (.d (.bool true)))))]) (.ret))))),[(2,none),(3,none)]⟩
theorem Uk:aC Tryz.prog { own:=[],comp:=[],frz:=[],nils:=[] } Tryz.f14=some x9:=by kernel_rfl
theorem y1 (G:ah) (b:List UInt8) (hb:b.length≤1000000000):ak Tryz.prog G 14 [.sl (b.map bD)] (.tup [.c (.d (.sl ((dB b).map zD))),.c (.d (.bool (decide (b.length%2=0))))]):=by
  refine aG Tryz.func14 Uk rfl rfl ?_;have t2:=KG b.length;have t5:=VM b.length;have t6:b.length / 2≤500000000:=by omega
  by_cases he:b.length%2=0
  ·have g0:(((b.length%2:Nat):Int)=0)=True:=eq_true (by omega);rw[decide_eq_true he,show dB b=i5 b from if_pos he];have r0:List.replicate (Int.toNat 0) (D.int .i64 0)=([]:List D):=rfl;simp only[x9,af,ae,aa,seval,iteOmega,toNatUp,t2,g0,t5];refine ba (yZ b) (fun k=>b.length / 2-k) (fun k=>2*k≤b.length) 0 (WI _) ?_ ?_
   ·refine aw (fun _=>104) ?_ ?_ rfl rfl <;> simp only[wx,am,aH,aa,seval,iteOmega,toNatUp] <;> first | rfl | exact⟨rfl,rfl⟩ | skip
   ·intro k hk;have az:=Eh (gD b k);have nl:=xg b k;by_cases hlt:2*k<b.length
    ·have l1:(aV b (2*k) 2).length=2:=kr (by omega);have c:=pI G (aV b (2*k) 2) (by omega);have b2:=(iD 2 (aV b (2*k) 2) l1 (by decide)).1;have hs:=EN b k;have hA:li b k=(aX (aV b (2*k) 2):Int):=rfl;have t1:(b.drop (2*k)).take 2=aV b (2*k) 2:=rfl;have t3:(b.drop (2*k)).take (2*k+2-2*k)=aV b (2*k) 2:=by rw[XA]; rfl
     have e5:2*((k:Int)+1)=2*(k:Int)+2:=by omega
     have g1:(((2*k:Nat):Int)<(b.length:Int))=True:=eq_true (by omega);generalize aX (aV b (2*k) 2)=N at *
     rw[hA] at hs;simp only[wh,yZ,ae,aa,seval,iteOmega,toNatUp,g1,t1,t3];refine sC (c) ?_;simp only[bI,ae,aa,seval,iteOmega,toNatUp];refine aS (k+1) (by omega) (by omega) (aw (fun _=>232) ?_ ?_ rfl rfl) <;> simp only[hs,Xc,zD,e5,wx,am,aH,aa,seval,iteOmega,toNatUp] <;> first | rfl | exact⟨rfl,rfl⟩ | skip
    ·have hk2:k=b.length / 2:=by omega
     have g1:(((2*k:Nat):Int)<(b.length:Int))=False:=eq_false (by omega);subst hk2;unfold i5;simp only[wh,yZ,ae,aa,seval,iteOmega,toNatUp,g1];exact aO
  ·have g0:(((b.length%2:Nat):Int)=0)=False:=eq_false (by omega);rw[decide_eq_false he,show dB b=[] from if_neg he];simp only[x9,af,ae,aa,seval,iteOmega,toNatUp,t2,g0];exact aO
def JH:aE:=⟨2,8,.seq (.reg [oO 4 (.alloc [(.d (.bool false)),(.d (.int .i64 0)),.nil])]) (.seq (.reg [oM 5 0,oM 6 1,oO 7 (.build [(.d (.bool false)),(.d (.int .i64 0)),.nil] [(0,1,(.k (.c (.d (.bool true))))),(1,1,(.t 5)),(2,1,(.t 6))]),oN (.store (.ag 3) (.t 4) (.t 7))]) (.ret)),[(4,(some (.ag 3)))]⟩
theorem Ul:aC Tryz.prog { own:=[],comp:=[],frz:=[],nils:=[] } Tryz.f52=some JH:=by kernel_rfl
theorem ik (G:ah) (k:Int) (b:List UInt8):ak Tryz.prog G 52 [.int .i64 k,.sl (b.map bD)] (.w (.c (.d (.agg [.bool true,.int .i64 k,.sl (b.map bD)])))):=by
  refine aG Tryz.func52 Ul rfl rfl ?_;simp only[JH,af,ae,aa,seval,iteOmega,toNatUp];exact aI
def ya:aE:=⟨1,22,.seq (.reg [oO 1 (.box .roBox (.t 0)),oO 2 (.mv (.k (.c .nil)))]) (.seq (.reg [oO 4 (.fieldAddr 1 (.t 1)),oO 5 (.load .sc (.t 4)),oM 3 5]) (.seq (.seq (.reg [oO 6 (.fieldAddr 0 (.t 1)),oO 7 (.load .sc (.t 6))]) (.cond (.t 7) (.reg [oM 8 3,oO 9 (.bin .add (.t 8) (kI 32768)),oM 3 9]) (.skip))) (.seq (.reg [oM 10 3,oO 11 (.conv .u64 (.t 10)),oO 12 (.call 91 [(.t 11),(kI 2)] none),oO 13 (.fieldAddr 2 (.t 1)),oO 14 (.load .sc (.t 13)),oO 15 (.len (.t 14)),oO 16 (.conv .u64 (.t 15)),oO 17 (.call 91 [(.t 16),(kI 2)] none),oO 18 (.fieldAddr 2 (.t 1)),oO 19 (.load .sc (.t 18)),oO 20 (.bldSl false 3 1 (.sl []) [(0,(.t 12)),(1,(.t 17)),(2,(.t 19))]),oO 21 (.call 90 [(.t 20)] none),oM 2 21]) (.ret)))),[(2,none)]⟩
theorem Um:aC Tryz.prog { own:=[],comp:=[],frz:=[],nils:=[] } Tryz.f42=some ya:=by kernel_rfl
theorem VN (G:ah) (r:Ek) (h:cu r=0):ak Tryz.prog G 42 [aF r] (.w (.c (.d (.sl ((db r).map bD))))):=by
  refine aG Tryz.func42 Um rfl rfl ?_;obtain⟨h1,h2,h3⟩:=jg h;have hT:fO r=r.ty.toNat+if r.cr=true then 32768 else 0:=rfl
  have hB:db r=aN (fO r) 2++(aN r.bo.length 2++r.bo):=rfl;generalize db r=B at *
  generalize fO r=T at *
  obtain⟨cr,ty,bo⟩:=r;dsimp only at *
  obtain⟨a,rfl⟩:=Xz h1;rw[show ((a:Nat):Int).toNat=a from rfl] at hT;have c2:=ng G bo.length 2 (by decide);have c1:=ng G T 2 (by decide);rw[show (2:Int).toNat=2 from rfl] at c1 c2;have c3:=fo G [aN T 2,aN bo.length 2,bo] (by simp) (by simp[bW]; omega);rw[show [aN T 2,aN bo.length 2,bo].flatten=B from by rw[hB]; simp] at c3;simp only[WH,W8] at c3;have hBl:B.length≤70000:=by rw[hB]; simp[bW]; omega
  clear hB;generalize aN T 2=P1 at *
  generalize aN bo.length 2=P2 at *
  unfold aF;cases cr
  ·rw[if_neg Bool.false_ne_true,XN] at hT;subst hT;simp only[ya,af,ae,aa,seval,iteOmega,toNatUp];refine sD (c1) ?_;refine sD (c2) ?_;refine sD (c3) ?_;exact aI
  ·rw[if_pos rfl] at hT;subst hT;simp only[Yd,X1] at c1;simp only[ya,af,ae,aa,seval,iteOmega,toNatUp];refine sD (c1) ?_;refine sD (c2) ?_;refine sD (c3) ?_;exact aI
def lg (l:List Ek) (i:Nat):St:=⟨aQ [(0,.w (.c (.d (.sl (l.map aF))))),(4,.w (.c (.d (.int .i64 ((aY (l.take i)).length:Int))))),(10,.w (.c (.d (.sl (l.map aF))))),(11,.w (.c (.d (.int .i64 (l.length:Int))))),(12,.w (.c (.d (.int .i64 (i:Int)))))],hL [],uL []⟩
def zF (l:List Ek) (i:Nat):St:=⟨aQ [(7,.w (.c (.own 1 1 0 (aY (l.take i)).length))),(42,.w (.c (.d (.sl (l.map aF))))),(43,.w (.c (.d (.int .i64 (l.length:Int))))),(44,.w (.c (.d (.int .i64 (i:Int)))))],hL [(1,.row 1 ((aY (l.take i)).map bD))],uL [1]⟩
theorem ER {l:List Ek} {i:Nat} (h:i<l.length):aY (l.take (i+1))=aY (l.take i)++db (l.getD i default):=by
  rw[lu h,wS,lB,wR,WS]
theorem Un (l:List Ek) (h:∀ r∈l,r.bo.length≤65535):(aY l).length≤65539*l.length:=by
  induction l with
  | nil=>exact WM _
  | cons r l ih =>
    have:=ih fun x hx=>h x (WW _ hx)
    have:=h r W6;rw[lB,WA,lD,Xx];omega
theorem RS (l:List Ek) (i:Nat):(aY (l.take i)).length≤(aY l).length:=by
  have:=congrArg List.length (show aY (l.take i++l.drop i)=_ from wS _ _);rw[Xg,WA] at this;omega
def kw:aM := .seq (.reg [oO 13 (.bin .lss (.t 12) (.t 11))]) (.seq (.cond (.t 13) (.skip) (.exit 0)) (.seq (.block 1 (.seq (.reg [oO 14 (.idxSl 3 (.t 10) (.t 12)),oO 15 (.load (.ag 3) (.t 14)),oO 6 (.alloc [(.d (.bool false)),(.d (.int .i64 0)),.nil]),oN (.store (.ag 3) (.t 6) (.t 15))]) (.seq (.seq (.reg [oO 16 (.fieldAddr 1 (.t 6)),oO 17 (.load .sc (.t 16)),oO 18 (.bin .lss (.t 17) (kI 0)),oM 19 18,oG 20 (.fieldAddr 1 (.t 6)) 19 false,oG 21 (.load .sc (.t 20)) 19 false,oG 22 (.bin .geq (.t 21) (kI 32768)) 19 false,oO 23 (.pick (.t 19) (.k (.c (.d (.bool true)))) (.t 22))]) (.cond (.t 23) (.seq (.reg [oO 2 (.mv (.k (.c .nil))),oO 3 (.mv (kI 4))]) (.ret)) (.skip))) (.seq (.seq (.reg [oO 24 (.fieldAddr 2 (.t 6)),oO 25 (.load .sc (.t 24)),oO 26 (.len (.t 25)),oO 27 (.bin .gtr (.t 26) (kI 65535))])
 (.cond (.t 27) (.seq (.reg [oO 2 (.mv (.k (.c .nil))),oO 3 (.mv (kI 2))]) (.ret)) (.skip))) (.reg [oM 28 4,oO 29 (.fieldAddr 2 (.t 6)),oO 30 (.load .sc (.t 29)),oO 31 (.len (.t 30)),oO 32 (.bin .add (kI 4) (.t 31)),oO 33 (.bin .add (.t 28) (.t 32)),oM 4 33]))))) (.reg [oO 34 (.bin .add (.t 12) (kI 1)),oM 12 34])))
def wi:aM := .seq (.reg [oO 45 (.bin .lss (.t 44) (.t 43))]) (.seq (.cond (.t 45) (.skip) (.exit 2)) (.seq (.block 3 (.seq (.reg [oO 46 (.idxSl 3 (.t 42) (.t 44)),oO 47 (.load (.ag 3) (.t 46)),oO 9 (.alloc [(.d (.bool false)),(.d (.int .i64 0)),.nil]),oN (.store (.ag 3) (.t 9) (.t 47))]) (.reg [oM 48 7,oO 49 (.load (.ag 3) (.t 9)),oO 50 (.call 42 [(.t 49)] none),oO 51 (.app false 1 1 (.t 48) (.t 50)),oM 7 51]))) (.reg [oO 52 (.bin .add (.t 44) (kI 1)),oM 44 52])))
def JI:aE:=⟨1,54,.seq (.reg [oO 2 (.mv (.k (.c .nil))),oO 3 (.mv (kI 0))]) (.seq (.reg [oO 4 (.mv (kI 0))]) (.seq (.seq (.reg [oM 10 0,oO 11 (.len (.t 10)),oO 12 (.mv (kI 0))]) (.block 0 (.loop kw))) (.seq (.seq (.reg [oM 35 0,oO 36 (.len (.t 35)),oO 37 (.bin .gtr (.t 36) (kI 64))]) (.cond (.t 37) (.seq (.reg [oO 2 (.mv (.k (.c .nil))),oO 3 (.mv (kI 8))]) (.ret)) (.skip))) (.seq (.seq (.reg [oM 38 4,oO 39 (.bin .gtr (.t 38) (kI 65535))]) (.cond (.t 39) (.seq (.reg [oO 2 (.mv (.k (.c .nil))),oO 3 (.mv (kI 2))]) (.ret)) (.skip))) (.seq (.reg [oM 40 4,oO 41 (.make true 1 1 (.int .u8 0) (kI 0) (.t 40)),oM 7 41]) (.seq (.seq (.reg [oM 42 0,oO 43 (.len (.t 42)),oO 44 (.mv (kI 0))]) (.block 2 (.loop wi))) (.seq (.reg [oM 53 7,oM 2 53,oO 3 (.mv (kI 0))]) (.ret)))))))),[(2,none),(3,none)]⟩
theorem Uo:aC Tryz.prog { own:=[],comp:=[],frz:=[],nils:=[] } Tryz.f10=some JI:=by kernel_rfl
theorem KM (G:ah) (l:List Ek) (hl:l.length≤1000000) (hb:∀ r∈l,r.bo.length≤1000000000000):ak Tryz.prog G 10 [.sl (l.map aF)] (.tup [.c (.fr 1 ((dX l).map bD)),.c (.d (.int .i64 (cx l)))]):=by
  refine aG Tryz.func10 Uo rfl rfl ?_;simp only[JI,af,ae,aa,seval,iteOmega,toNatUp];refine ba (lg l) (fun i=>l.length-i) (fun i=>i≤l.length∧dW (l.take i)=0) 0 ⟨WI _,by rw[Xq]; rfl⟩ ?_ ?_
  ·refine aw (fun _=>0) ?_ ?_ rfl rfl <;> simp only[wx,am,aH,aa,seval,iteOmega,toNatUp] <;> first | rfl | exact⟨rfl,rfl⟩ | skip
  ·rintro i ⟨hi,hW⟩;have hA:=Un (l.take i) fun r hr=>(jg (pJ.1 hW r hr)).2.2
   rw[WF,Nat.min_eq_left hi] at hA;by_cases hlt:i<l.length
   ·have g:=io hlt;have hm:=hb _ (hC hlt);have hst:=Ei hlt hW;have hnx:=vO hlt hW;have hno:∀ e,cu (l.getD i default)=e→e≠0→cx l=e∧dX l=[]:=fun e h1 h2=>by
      have h3:=hst (by rw[h1]; exact h2);have h4:cx l=e:=by unfold cx; rw[if_neg (by rw[h3,h1]; exact h2),h3,h1]
      exact⟨h4,if_neg (by rw[h4]; exact h2)⟩
    have hF:cu (l.getD i default)=if (l.getD i default).ty<0∨32767<(l.getD i default).ty then 4 else if 65535<(l.getD i default).bo.length then 2 else 0:=rfl
    have eA:((aY (l.take (i+1))).length:Int)=((aY (l.take i)).length:Int)+(4+((l.getD i default).bo.length:Int)):=by
      rw[ER hlt,WA,lD]; omega
    generalize hx:l.getD i default=x at *
    generalize cu x=f at *
    generalize hAq:(aY (l.take i)).length=A at *
    obtain⟨cr,ty,bo⟩:=x;dsimp only at *
    by_cases h1:ty<0
    ·have g1:=eq_true h1;obtain⟨q1,q2⟩:=hno 4 (by rw[hF,if_pos (.inl h1)]) (by decide);rw[q1,q2];clear hst hnx hno eA;simp only[kw,lg,hAq,ae,aa,seval,iteOmega,toNatUp,aJ,g,aF,g1];exact dr
    ·have g1:=eq_false h1;by_cases h2:ty≥32768
     ·have g2:=eq_true h2;obtain⟨q1,q2⟩:=hno 4 (by rw[hF,if_pos (.inr (by omega))]) (by decide);rw[q1,q2];clear hst hnx hno eA;simp only[kw,lg,hAq,ae,aa,seval,iteOmega,toNatUp,aJ,g,aF,g1,g2];exact dr
     ·have g2:=eq_false h2;rw[if_neg (by omega)] at hF;by_cases h3:65535<bo.length
      ·have g3:((bo.length:Int)>65535)=True:=eq_true (by omega);obtain⟨q1,q2⟩:=hno 2 (by rw[hF,if_pos h3]) (by decide);rw[q1,q2];clear hst hnx hno eA;simp only[kw,lg,hAq,ae,aa,seval,iteOmega,toNatUp,aJ,g,aF,g1,g2,g3];exact dr
      ·have g3:((bo.length:Int)>65535)=False:=eq_false (by omega);rw[if_neg h3] at hF;subst hF;clear hst hno;simp only[kw,lg,hAq,ae,aa,seval,iteOmega,toNatUp,aJ,g,aF,g1,g2,g3];refine aS (i+1) (by omega) ⟨by omega,by rw[hnx]⟩ (aw (fun i=>i) ?_ ?_ rfl rfl) <;> simp only[eA,wx,am,aH,aa,seval,iteOmega,toNatUp] <;> first | rfl | exact⟨rfl,rfl⟩ | skip
   ·obtain rfl:i=l.length:=by omega
    rw[XE] at hW hA;by_cases h4:64<l.length
    ·have e:cx l=8:=by unfold cx; rw[if_pos hW,if_pos h4]
     rw[show dX l=[] from if_neg (by rw[e]; decide),e];have g4:((l.length:Int)>64)=True:=eq_true (by omega);simp only[kw,lg,ae,aa,seval,iteOmega,toNatUp,g4];exact dr
    ·have g4:((l.length:Int)>64)=False:=eq_false (by omega);by_cases h5:(aY l).length≤65535
     ·have e:cx l=0:=by unfold cx; rw[if_pos hW,if_neg h4,if_neg (by omega)]
      rw[show dX l=aY l from if_pos e,e];have g5:(((aY l).length:Int)>65535)=False:=eq_false (by omega);have r0:List.replicate (Int.toNat 0) (D.int .u8 0)=([]:List D):=rfl;simp only[kw,lg,ae,aa,seval,iteOmega,toNatUp,g4,g5,r0];refine ba (zF l) (fun i=>l.length-i) (fun i=>i≤l.length) 0 (WI _) ?_ ?_
      ·refine aw (fun _=>328) ?_ ?_ rfl rfl <;> simp only[wx,am,aH,aa,seval,iteOmega,toNatUp] <;> first | rfl | exact⟨rfl,rfl⟩ | skip
      ·intro i hi;by_cases hlt:i<l.length
       ·have g:=io hlt;have c:=VN G (l.getD i default) (pJ.1 hW _ (hC hlt));have ha:=ER hlt;have h1:=RS l (i+1);rw[ha,WA] at h1;unfold aF at c;generalize l.getD i default=x at *
        generalize db x=B at *
        generalize hAq:aY (l.take i)=A at *
        simp only[wi,zF,hAq,ae,aa,seval,iteOmega,toNatUp,aJ,g,aF];refine sC (c) ?_;simp only[bI,ae,aa,seval,iteOmega,toNatUp];refine aS (i+1) (by omega) (by omega) (aw (fun _=>408) ?_ ?_ rfl rfl) <;> simp only[ha,wx,am,aH,aa,seval,iteOmega,toNatUp] <;> first | rfl | exact⟨rfl,rfl⟩ | skip
       ·have hil:l.take i=l:=WE (by omega);simp only[wi,zF,ae,aa,seval,iteOmega,toNatUp,hil];exact dr
     ·have e:cx l=2:=by unfold cx; rw[if_pos hW,if_neg h4,if_pos (by omega)]
      rw[show dX l=[] from if_neg (by rw[e]; decide),e];have g5:(((aY l).length:Int)>65535)=True:=eq_true (by omega);simp only[kw,lg,ae,aa,seval,iteOmega,toNatUp,g4,g5];exact dr
theorem tq (G:ah) (l:List Ek) (hl:l.length≤1000000) (hb:∀ r∈l,r.bo.length≤1000000000000):ak Tryz.prog G 10 [.sl (l.map aF)] (.tup [.c (.d (.sl ((dX l).map bD))),.c (.d (.int .i64 (cx l)))]):=pb (KM G l hl hb)
def sE:aE:=⟨1,18,.seq (.reg [oO 2 (.mv (kI 0)),oO 3 (.mv (.k (.c (.d (.bool false)))))]) (.seq (.seq (.reg [oM 5 0,oO 6 (.len (.t 5)),oO 7 (.bin .lss (.t 6) (kI 4))]) (.cond (.t 7) (.seq (.reg [oO 2 (.mv (kI 0)),oO 3 (.mv (.k (.c (.d (.bool false)))))]) (.ret)) (.skip))) (.seq (.reg [oM 8 0,oO 9 (.slice 1 (.t 8) (some (kI 2)) (some (kI 4)) none),oO 10 (.call 48 [(.t 9)] none),oO 11 (.conv .i64 (.t 10)),oO 12 (.bin .add (kI 4) (.t 11)),oM 4 12]) (.seq (.reg [oM 13 4,oM 14 4,oM 15 0,oO 16 (.len (.t 15)),oO 17 (.bin .leq (.t 14) (.t 16)),oM 2 13,oM 3 17]) (.ret)))),[(2,none),(3,none)]⟩
theorem Up:aC Tryz.prog { own:=[],comp:=[],frz:=[],nils:=[] } Tryz.f45=some sE:=by kernel_rfl
theorem VO (G:ah) (b:List UInt8) (hb:b.length≤1000000000000):ak Tryz.prog G 45 [.sl (b.map bD)] (.tup [.c (.d (.int .i64 (if b.length<4 then 0 else ((4+bZ b:Nat):Int)))),.c (.d (.bool (decide (4≤b.length∧4+bZ b≤b.length))))]):=by
  refine aG Tryz.func45 Up rfl rfl ?_;by_cases h:b.length<4
  ·rw[if_pos h,decide_eq_false (by omega)];have g:((b.length:Int)<4)=True:=eq_true (by omega);simp only[sE,af,ae,aa,seval,iteOmega,toNatUp,g];exact aO
  ·rw[if_neg h];have g:((b.length:Int)<4)=False:=eq_false (by omega);have l3:(aV b 2 2).length=2:=kr (by omega);have b3:=(iD 2 (aV b 2 2) l3 (by decide)).1;have c:=pI G (aV b 2 2) (by omega);have hN:bZ b=aX (aV b 2 2):=rfl;have t1:(b.drop 2).take 2=aV b 2 2:=rfl;have t2:(b.drop 2).take (4-2)=aV b 2 2:=rfl;generalize aX (aV b 2 2)=N at *
   rw[hN];by_cases h2:4+N≤b.length
   ·rw[decide_eq_true (by omega)];have g2:((4:Int)+(N:Int)≤(b.length:Int))=True:=eq_true (by omega);simp only[sE,af,ae,aa,seval,iteOmega,toNatUp,g,t1,t2];refine sC (c) ?_;simp only[g2,ae,aa,seval,iteOmega,toNatUp];exact aO
   ·rw[decide_eq_false (by omega)];have g2:((4:Int)+(N:Int)≤(b.length:Int))=False:=eq_false (by omega);simp only[sE,af,ae,aa,seval,iteOmega,toNatUp,g,t1,t2];refine sC (c) ?_;simp only[g2,ae,aa,seval,iteOmega,toNatUp];exact aO
def ug (b:List UInt8):Ek:=⟨decide (32768≤(aX (b.take 2):Int)),(aX (b.take 2):Int)%32768,b.drop 4⟩
theorem VP (n:Nat):Int.tmod (n:Int) 32768=(n:Int)%32768:=rfl
def yb:aE:=⟨1,17,.seq (.reg [oO 2 (.alloc [(.d (.bool false)),(.d (.int .i64 0)),.nil])]) (.seq (.reg [oM 4 0,oO 5 (.slice 1 (.t 4) none (some (kI 2)) none),oO 6 (.call 48 [(.t 5)] none),oO 7 (.conv .i64 (.t 6)),oM 3 7]) (.seq (.reg [oM 8 3,oO 9 (.bin .geq (.t 8) (kI 32768)),oM 10 3,oO 11 (.bin .rem (.t 10) (kI 32768)),oM 12 0,oO 13 (.slice 1 (.t 12) (some (kI 4)) none none),oO 14 (.bldSl false 1 1 (.sl []) [(0,(.t 13))]),oO 15 (.call 90 [(.t 14)] none),oO 16 (.build [(.d (.bool false)),(.d (.int .i64 0)),.nil] [(0,1,(.t 9)),(1,1,(.t 11)),(2,1,(.t 15))]),oN (.store (.ag 3) (.t 2) (.t 16))]) (.ret))),[(2,(some (.ag 3)))]⟩
theorem Uq:aC Tryz.prog { own:=[],comp:=[],frz:=[],nils:=[] } Tryz.f46=some yb:=by kernel_rfl
theorem VQ (G:ah) (b:List UInt8) (hb:b.length≤1000000000000) (h4:4≤b.length):ak Tryz.prog G 46 [.sl (b.map bD)] (.w (.c (.d (aF (ug b))))):=by
  refine aG Tryz.func46 Uq rfl rfl ?_;have l3:(b.take 2).length=2:=by rw[WF]; omega
  have b3:=(iD 2 (b.take 2) l3 (by decide)).1;have c:=pI G (b.take 2) (by omega);have cj:=fo G [b.drop 4] (by simp) (by simp; omega);rw[show [b.drop 4].flatten=b.drop 4 from by simp] at cj;simp only[WH,W8] at cj;have dl:(b.drop 4).length=b.length-4:=WL;have t1:(b.drop 4).take (b.length-4)=b.drop 4:=WE (by omega);unfold ug aF;generalize aX (b.take 2)=K at *
  have hm:=VP K;generalize hB:b.drop 4=B at *
  generalize hA:b.take 2=A at *
  by_cases hk:(K:Int)≥32768
  ·have gk:=eq_true hk;rw[decide_eq_true (show (32768:Int)≤K from hk)];simp only[yb,af,ae,aa,seval,iteOmega,toNatUp,hA];refine sC (c) ?_;simp only[hm,hB,t1,gk,ae,aa,seval,iteOmega,toNatUp];refine sC (cj) ?_;simp only[hm,hB,t1,gk,ae,aa,seval,iteOmega,toNatUp];exact aI
  ·have gk:=eq_false hk;rw[decide_eq_false (show ¬ (32768:Int)≤K from hk)];simp only[yb,af,ae,aa,seval,iteOmega,toNatUp,hA];refine sC (c) ?_;simp only[hm,hB,t1,gk,ae,aa,seval,iteOmega,toNatUp];refine sC (cj) ?_;simp only[hm,hB,t1,gk,ae,aa,seval,iteOmega,toNatUp];exact aI
structure Dw where
  r:List UInt8
  o:List Fd
def nI (t:Dw):St:=⟨aQ [(0,.w (.c (.d (.sl (t.r.map bD))))),(4,.w (.c (.own 1 3 0 t.o.length)))],hL [(1,.row 3 ((t.o.map dp).map aF))],uL [1]⟩
theorem Ur {r:List UInt8} (h1:¬ r.length<4) (h2:¬ r.length-4<bZ r):ug (r.take (4+bZ r))=dp (fb r):=by
  have e1:(r.take (4+bZ r)).take 2=r.take 2:=by rw[List.take_take,Nat.min_eq_left (by omega)]
  have e2:(r.take (4+bZ r)).drop 4=aV r 4 (bZ r):=by rw[List.drop_take,XA]; rfl
  unfold ug dp fb;rw[e1,e2]
theorem RU {b r:List UInt8} {o:List Fd} (hd:cH b=(cH r).map (o++·)) (h1:¬ r.length<4) (h2:¬ r.length-4<bZ r):cH b=(cH (r.drop (4+bZ r))).map ((o++[fb r])++·):=by
  rw[hd,r8 h1 h2,Option.map_map]
  congr 1
  funext x
  simp
def mM:aM := .seq (.seq (.reg [oM 10 0,oO 11 (.len (.t 10)),oO 12 (.bin .gtr (.t 11) (kI 0))]) (.cond (.t 12) (.skip) (.exit 0))) (.block 1 (.seq (.reg [oM 14 0,oO 15 (.call 45 [(.t 14)] none),oM 13 15,oO 16 (.extract (.t 13) 0),oO 17 (.extract (.t 13) 1),oM 5 16,oM 6 17]) (.seq (.seq (.reg [oM 18 6,oO 19 (.un .not (.t 18))]) (.cond (.t 19) (.seq (.reg [oO 2 (.mv (.k (.c .nil))),oO 3 (.mv (kI 1))]) (.ret)) (.skip))) (.seq (.reg [oM 20 4,oM 21 0,oM 22 5,oO 23 (.slice 1 (.t 21) none (some (.t 22)) none),oO 24 (.call 46 [(.t 23)] none),oO 25 (.bldSl false 1 3 (.agg [(.bool false),(.int .i64 0),(.sl [])]) [(0,(.t 24))]),oO 26 (.app false 3 40 (.t 20) (.t 25)),oM 4 26]) (.reg [oM 27 0,oM 28 5,oO 29 (.slice 1 (.t 27) (some (.t 28)) none none),oM 0 29])))))
def yc:aE:=⟨1,34,.seq (.reg [oO 2 (.mv (.k (.c .nil))),oO 3 (.mv (kI 0))]) (.seq (.seq (.reg [oM 7 0,oO 8 (.len (.t 7)),oO 9 (.bin .gtr (.t 8) (kI 65535))]) (.cond (.t 9) (.seq (.reg [oO 2 (.mv (.k (.c .nil))),oO 3 (.mv (kI 2))]) (.ret)) (.skip))) (.seq (.reg [oO 4 (.nilOwn 3)]) (.seq (.block 0 (.loop mM)) (.seq (.seq (.reg [oM 30 4,oO 31 (.len (.t 30)),oO 32 (.bin .gtr (.t 31) (kI 64))]) (.cond (.t 32) (.seq (.reg [oO 2 (.mv (.k (.c .nil))),oO 3 (.mv (kI 8))]) (.ret)) (.skip))) (.seq (.reg [oM 33 4,oM 2 33,oO 3 (.mv (kI 0))]) (.ret)))))),[(2,none),(3,none)]⟩
theorem Us:aC Tryz.prog { own:=[4],comp:=[],frz:=[],nils:=[] } Tryz.f12=some yc:=by kernel_rfl
theorem y3 (G:ah) (b:List UInt8) (hb:b.length≤1000000000):ak Tryz.prog G 12 [.sl (b.map bD)] (.tup [.c (.d (.sl ((aK b).map aF))),.c (.d (.int .i64 (cN b)))]):=by
  refine aG Tryz.func12 Us rfl rfl ?_;by_cases h0:65535<b.length
  ·have g0:((b.length:Int)>65535)=True:=eq_true (by omega);have e1:dP b=2:=if_pos h0;have e2:cN b=2:=by unfold cN; rw[e1]; rfl
   rw[e2,show aK b=[] from if_neg (by rw[e2]; decide)];simp only[yc,af,ae,aa,seval,iteOmega,toNatUp,g0];exact aO
  ·have g0:((b.length:Int)>65535)=False:=eq_false (by omega);simp only[yc,af,ae,aa,seval,iteOmega,toNatUp,g0];refine ba nI (fun t=>t.r.length) (fun t=>t.r.length+t.o.length≤b.length∧cH b=(cH t.r).map (t.o++·)) ⟨b,[]⟩ ⟨WM _,by cases cH b <;> rfl⟩ ?_ ?_
   ·refine aw (fun _=>32) ?_ ?_ rfl rfl <;> simp only[wx,am,aH,aa,seval,iteOmega,toNatUp] <;> first | rfl | exact⟨rfl,rfl⟩ | skip
   ·rintro⟨r,o⟩ ⟨hol,hd⟩;dsimp only at hol hd;have az:=lA (o.map dp);have ol:(o.map dp).length=o.length:=WJ ..;by_cases hlt:0<r.length
    ·have g1:((r.length:Int)>0)=True:=eq_true (by omega);have c:=VO G r (by omega);by_cases h1:r.length<4
     ·rw[if_pos h1,decide_eq_false (by omega)] at c;rw[wT (by omega) h1] at hd;have e1:dP b=1:=by unfold dP; rw[if_neg h0,hd]; rfl
      have e2:cN b=1:=by unfold cN; rw[e1]; rfl
      rw[e2,show aK b=[] from if_neg (by rw[e2]; decide)];simp only[mM,nI,ae,aa,seval,iteOmega,toNatUp,g1];refine sD (c) ?_;exact aO
     ·rw[if_neg h1] at c;by_cases h2:r.length-4<bZ r
      ·rw[decide_eq_false (by omega)] at c;rw[u7 h1 h2] at hd;have e1:dP b=1:=by unfold dP; rw[if_neg h0,hd]; rfl
       have e2:cN b=1:=by unfold cN; rw[e1]; rfl
       rw[e2,show aK b=[] from if_neg (by rw[e2]; decide)];simp only[mM,nI,ae,aa,seval,iteOmega,toNatUp,g1];refine sD (c) ?_;exact aO
      ·rw[decide_eq_true (by omega)] at c;have hd2:=RU hd h1 h2;have hr:=Ur h1 h2;have tl:(r.take (4+bZ r)).length=4+bZ r:=by rw[WF]; omega
       have dl:(r.drop (4+bZ r)).length=r.length-(4+bZ r):=WL;have c2:=VQ G (r.take (4+bZ r)) (by omega) (by omega);rw[hr] at c2;have eo:((o++[fb r]).map dp).map aF=(o.map dp).map aF++[aF (dp (fb r))]:=by simp
       have lo:(o++[fb r]).length=o.length+1:=by simp
       have cz:(aF (dp (fb r))).cells.length=3:=rfl;have t3:(r.drop (4+bZ r)).take (r.length-(4+bZ r))=r.drop (4+bZ r):=WE (by omega);generalize hR:o++[fb r]=O at *
       generalize aF (dp (fb r))=E at *
       generalize hK:4+bZ r=K at *
       simp only[mM,nI,ae,aa,seval,iteOmega,toNatUp,g1];refine sC (c) ?_;simp only[bI,ae,aa,seval,iteOmega,toNatUp];refine sC (c2) ?_;simp only[bI,cz,t3,ae,aa,seval,iteOmega,toNatUp];refine aS (⟨r.drop K,O⟩:Dw) (by dsimp only; omega) ⟨by dsimp only; omega,by dsimp only; exact hd2⟩ (aw (fun _=>208) ?_ ?_ rfl rfl) <;> simp only[eo,lo,wx,am,aH,aa,seval,iteOmega,toNatUp] <;> first | rfl | exact⟨rfl,rfl⟩ | skip
    ·have g1:((r.length:Int)>0)=False:=eq_false (by omega);obtain rfl:r=[]:=Xa.1 (by omega);rw[pg] at hd;have hd:cH b=some o:=by rw[hd]; simp
     have e1:dP b=0:=by unfold dP; rw[if_neg h0,hd]; rfl
     have e2:eM b=o:=by unfold eM; rw[if_neg h0,hd]; rfl
     by_cases h64:64<o.length
     ·have e3:cN b=8:=by unfold cN; rw[if_pos e1,e2,if_pos h64]
      rw[e3,show aK b=[] from if_neg (by rw[e3]; decide)];have g2:((o.length:Int)>64)=True:=eq_true (by omega);simp only[mM,nI,ae,aa,seval,iteOmega,toNatUp,g1,g2,ol];exact aO
     ·have e3:cN b=0:=by unfold cN; rw[if_pos e1,e2,if_neg h64]
      rw[e3,show aK b=o.map dp from by unfold aK; rw[if_pos e3,e2]];have g2:((o.length:Int)>64)=False:=eq_false (by omega);simp only[mM,nI,ae,aa,seval,iteOmega,toNatUp,g1,g2,ol];exact aO
def sF:aE:=⟨1,11,.seq (.reg [oO 2 (.mv (.k (.c (.d (.bool false)))))]) (.seq (.reg [oM 3 0,oO 4 (.len (.t 3)),oO 5 (.bin .geq (.t 4) (kI 1)),oM 6 5,oG 7 (.mv (.t 0)) 6 true,oG 8 (.len (.t 7)) 6 true,oG 9 (.bin .leq (.t 8) (kI 16)) 6 true,oO 10 (.pick (.t 6) (.t 9) (.k (.c (.d (.bool false))))),oM 2 10]) (.ret)),[(2,none)]⟩
theorem Ut:aC Tryz.prog { own:=[],comp:=[],frz:=[],nils:=[] } Tryz.f51=some sF:=by kernel_rfl
theorem KN (G:ah) (l:List Int) (hl:l.length≤9000000000000000000):ak Tryz.prog G 51 [.sl (l.map zD)] (.w (.c (.d (.bool (decide (1≤l.length∧l.length≤16)))))):=by
  refine aG Tryz.func51 Ut rfl rfl ?_;by_cases h1:1≤l.length
  ·have g1:((l.length:Int)≥1)=True:=eq_true (by omega);by_cases h2:l.length≤16
   ·have g2:((l.length:Int)≤16)=True:=eq_true (by omega);rw[decide_eq_true ⟨h1,h2⟩];simp only[sF,af,ae,aa,seval,iteOmega,toNatUp,g1,g2];exact aI
   ·have g2:((l.length:Int)≤16)=False:=eq_false (by omega);rw[decide_eq_false (by omega)];simp only[sF,af,ae,aa,seval,iteOmega,toNatUp,g1,g2];exact aI
  ·have g1:((l.length:Int)≥1)=False:=eq_false (by omega);rw[decide_eq_false (by omega)];simp only[sF,af,ae,aa,seval,iteOmega,toNatUp,g1];exact aI
def nm:aE:=⟨2,33,.seq (.reg [oO 4 (.mv (.k (.c .nil))),oO 5 (.mv (kI 0))]) (.seq (.seq (.reg [oM 6 0,oO 7 (.call 50 [(.t 6)] none),oO 8 (.un .not (.t 7)),oM 9 8,oG 10 (.mv (.t 1)) 9 false,oG 11 (.call 50 [(.t 10)] none) 9 false,oG 12 (.un .not (.t 11)) 9 false,oO 13 (.pick (.t 9) (.k (.c (.d (.bool true)))) (.t 12))]) (.cond (.t 13) (.seq (.reg [oO 4 (.mv (.k (.c .nil))),oO 5 (.mv (kI 4))]) (.ret)) (.skip))) (.seq (.seq (.reg [oM 14 0,oO 15 (.call 51 [(.t 14)] none),oO 16 (.un .not (.t 15)),oM 17 16,oG 18 (.mv (.t 1)) 17 false,oG 19 (.call 51 [(.t 18)] none) 17 false,oG 20 (.un .not (.t 19)) 17 false,oO 21 (.pick (.t 17) (.k (.c (.d (.bool true)))) (.t 20))]) (.cond (.t 21) (.seq (.reg [oO 4 (.mv (.k (.c .nil))),oO 5 (.mv (kI 8))]) (.ret)) (.skip))) (.seq (.reg [oM 22 0,oO 23 (.call 53 [(.t 22)] none),
 oO 24 (.call 52 [(kI 1),(.t 23)] none),oM 25 1,oO 26 (.call 53 [(.t 25)] none),oO 27 (.call 52 [(kI 4),(.t 26)] none),oO 28 (.call 52 [(kI 0),(.k (.c .nil))] none),oO 29 (.bldSl false 3 3 (.agg [(.bool false),(.int .i64 0),(.sl [])]) [(0,(.t 24)),(1,(.t 27)),(2,(.t 28))]),oO 30 (.call 10 [(.t 29)] none),oO 31 (.extract (.t 30) 0),oO 32 (.extract (.t 30) 1),oM 4 31,oM 5 32]) (.ret)))),[(4,none),(5,none)]⟩
theorem Uu:aC Tryz.prog { own:=[],comp:=[],frz:=[],nils:=[] } Tryz.f16=some nm:=by kernel_rfl
theorem y4 (G:ah) (x y:List Int) (hx:x.length≤1000000) (hy:y.length≤1000000):ak Tryz.prog G 16 [.sl (x.map zD),.sl (y.map zD)] (.tup [.c (.d (.sl ((bK x y).map bD))),.c (.d (.int .i64 (cJ x y)))]):=by
  refine aG Tryz.func16 Uu rfl rfl ?_;have c1:=nH G x (by omega);have c2:=nH G y (by omega);have c3:=KN G x (by omega);have c4:=KN G y (by omega);by_cases h1:br x
  ·rw[decide_eq_true h1] at c1;by_cases h2:br y
   ·rw[decide_eq_true h2] at c2;by_cases h3:1≤x.length∧x.length≤16
    ·rw[decide_eq_true h3] at c3;by_cases h4:1≤y.length∧y.length≤16
     ·rw[decide_eq_true h4] at c4;have e:cJ x y=0:=by unfold cJ; rw[if_neg (not_not_intro ⟨h1,h2⟩),if_neg (by omega)]
      have c5:=lV G x (by omega) h1;have c6:=lV G y (by omega) h2;have c7:=ik G 1 (aR x);have c8:=ik G 4 (aR y);have c9:=ik G 0 [];have l1:=fi x;have l2:=fi y;have hf:∀ r∈dd x y,cu r=0:=by
        intro r hr;simp only[dd,WR,Yj,or_false] at hr;rcases hr with rfl | rfl | rfl <;> exact xB (by dsimp only; omega) (by dsimp only; omega) (by first | (dsimp only; omega) | simp)
      have ht:(aY (dd x y)).length≤65535:=by
        simp only[dd,lB,wR,WA,lD,XY]; omega
      obtain⟨q1,q2⟩:=xC hf (by simp[dd]) ht;have c10:=tq G (dd x y) (by simp[dd]) (fun r hr=>by have:=(jg (hf r hr)).2.2; omega);rw[q1,q2] at c10;rw[e,show bK x y=aY (dd x y) from if_pos e];have hL:(dd x y).map aF=[D.agg [.bool true,.int .i64 1,.sl ((aR x).map bD)],D.agg [.bool true,.int .i64 4,.sl ((aR y).map bD)],D.agg [.bool true,.int .i64 0,.sl []]]:=rfl;rw[hL] at c10;generalize aY (dd x y)=R at *
      clear hf ht q1 q2 hL;simp only[W8] at c9;generalize aR x=X at *
      generalize aR y=Y at *
      simp only[nm,af,ae,aa,seval,iteOmega,toNatUp];refine sD (c1) ?_;refine sD (c2) ?_;refine sD (c3) ?_;refine sD (c4) ?_;refine sD (c5) ?_;refine sD (c7) ?_;refine sD (c6) ?_;refine sD (c8) ?_;refine sD (c9) ?_;refine sD (c10) ?_;exact aO
     ·rw[decide_eq_false h4] at c4;have e:cJ x y=8:=by unfold cJ; rw[if_neg (not_not_intro ⟨h1,h2⟩),if_pos (by omega)]
      rw[e,show bK x y=[] from if_neg (by rw[e]; decide)];simp only[nm,af,ae,aa,seval,iteOmega,toNatUp];refine sD (c1) ?_;refine sD (c2) ?_;refine sD (c3) ?_;refine sD (c4) ?_;exact aO
    ·rw[decide_eq_false h3] at c3;have e:cJ x y=8:=by unfold cJ; rw[if_neg (not_not_intro ⟨h1,h2⟩),if_pos (by omega)]
     rw[e,show bK x y=[] from if_neg (by rw[e]; decide)];simp only[nm,af,ae,aa,seval,iteOmega,toNatUp];refine sD (c1) ?_;refine sD (c2) ?_;refine sD (c3) ?_;exact aO
   ·rw[decide_eq_false h2] at c2;have e:cJ x y=4:=by unfold cJ; rw[if_pos (fun h=>h2 h.2)]
    rw[e,show bK x y=[] from if_neg (by rw[e]; decide)];simp only[nm,af,ae,aa,seval,iteOmega,toNatUp];refine sD (c1) ?_;refine sD (c2) ?_;exact aO
  ·rw[decide_eq_false h1] at c1;have e:cJ x y=4:=by unfold cJ; rw[if_pos (fun h=>h1 h.1)]
   rw[e,show bK x y=[] from if_neg (by rw[e]; decide)];simp only[nm,af,ae,aa,seval,iteOmega,toNatUp];refine sD (c1) ?_;exact aO
def tu (l:List Int) (v:Int) (i:Nat):St:=⟨aQ [(0,.w (.c (.d (.sl (l.map zD))))),(1,.w (.c (.d (.int .i64 v)))),(7,.w (.c (.d (.int .i64 (l.length:Int))))),(8,.w (.c (.d (.int .i64 (i:Int)))))],hL [],uL []⟩
def Wu (l:List Int) (v n:Int):Prop:=(v∈l∧0≤n)∨(v∉l∧n=-1)
def rq:aM := .seq (.reg [oO 9 (.bin .lss (.t 8) (.t 7))]) (.seq (.cond (.t 9) (.skip) (.exit 0)) (.seq (.block 1 (.seq (.reg [oM 10 8,oM 5 10]) (.seq (.reg [oM 11 1,oM 12 0,oM 13 5,oO 14 (.idxSl 1 (.t 12) (.t 13)),oO 15 (.load .sc (.t 14)),oO 16 (.bin .eql (.t 11) (.t 15))]) (.cond (.t 16) (.seq (.reg [oM 17 5,oM 4 17]) (.ret)) (.skip))))) (.reg [oO 18 (.bin .add (.t 8) (kI 1)),oM 8 18])))
def JJ:aE:=⟨2,19,.seq (.reg [oO 4 (.mv (kI 0))]) (.seq (.seq (.reg [oM 6 0,oO 7 (.len (.t 6)),oO 8 (.mv (kI 0))]) (.block 0 (.loop rq))) (.seq (.reg [oO 4 (.mv (.k (.c (.d (.int .i64 (-1))))))]) (.ret))),[(4,none)]⟩
theorem Uv:aC Tryz.prog { own:=[],comp:=[],frz:=[],nils:=[] } Tryz.f99=some JJ:=by kernel_rfl
theorem VR (G:ah) (l:List Int) (v:Int) (hl:l.length≤9000000000000000000):∃ n,Wu l v n∧ak Tryz.prog G 99 [.sl (l.map zD),.int .i64 v] (.w (.c (.d (.int .i64 n)))):=by
  have key:∀ n,(∀ k,n=((l.idxOf v:Nat):Int)∧v∈l∨n=-1∧v∉l→k=n→k=n)→(n=((l.idxOf v:Nat):Int)∧v∈l∨n=-1∧v∉l)→ak Tryz.prog G 99 [.sl (l.map zD),.int .i64 v] (.w (.c (.d (.int .i64 n)))):=by
    intro n _ hn;refine aG Tryz.func99 Uv rfl rfl ?_;simp only[JJ,af,ae,aa,seval,iteOmega,toNatUp];refine ba (tu l v) (fun i=>l.length-i) (fun i=>i≤l.length∧v∉l.take i) 0 ⟨WI _,by rw[Xq]; exact Yj⟩ ?_ ?_
    ·refine aw (fun _=>0) ?_ ?_ rfl rfl <;> simp only[wx,am,aH,aa,seval,iteOmega,toNatUp] <;> first | rfl | exact⟨rfl,rfl⟩ | skip
    ·rintro i ⟨hi,hp⟩;by_cases hlt:i<l.length
     ·have g:=iW hlt;have hm:=mL hlt;have hs:=jx hlt;by_cases h1:v=l.getD i 0
      ·have hv:v∈l:=h1 ▸ hm;have hi2:l.idxOf v=i:=by
         have e:l=l.take i++l.getD i 0::l.drop (i+1):=by
           have:=(Xg (i+1) l).symm;rw[hs,W7] at this;exact this
         have:(l.take i++l.getD i 0::l.drop (i+1)).idxOf v=i:=by
           rw[List.idxOf_append,if_neg hp,← h1,List.idxOf_cons_self,WF]; omega
         rw[← e] at this;exact this
       obtain⟨rfl,_⟩:=hn.resolve_right fun h=>h.2 hv
       rw[hi2];have g1:(v=l.getD i 0)=True:=eq_true h1;generalize l.getD i 0=w at *
       simp only[rq,tu,ae,aa,seval,iteOmega,toNatUp,aJ,g,zD,g1];exact aI
      ·have g1:(v=l.getD i 0)=False:=eq_false h1;have hn:v∉l.take (i+1):=by
         rw[hs];intro q;rcases WO.1 q with q | q
         ·exact hp q
         ·exact h1 (WG.1 q)
       generalize l.getD i 0=w at *
       simp only[rq,tu,ae,aa,seval,iteOmega,toNatUp,aJ,g,zD,g1];refine aS (i+1) (by omega) ⟨by omega,hn⟩ (aw (fun i=>i) ?_ ?_ rfl rfl) <;> simp only[wx,am,aH,aa,seval,iteOmega,toNatUp] <;> first | rfl | exact⟨rfl,rfl⟩ | skip
     ·rw[WE (by omega)] at hp;obtain⟨rfl,_⟩:=hn.resolve_left fun h=>hp h.2
      simp only[rq,tu,ae,aa,seval,iteOmega,toNatUp];exact aI
  by_cases hv:v∈l
  ·exact⟨_,.inl ⟨hv,Yl _⟩,key _ (fun _ _ h=>h) (.inl ⟨rfl,hv⟩)⟩
  ·exact⟨_,.inr ⟨hv,rfl⟩,key _ (fun _ _ h=>h) (.inr ⟨rfl,hv⟩)⟩
def yd:aE:=⟨2,9,.seq (.reg [oO 4 (.mv (.k (.c (.d (.bool false)))))]) (.seq (.reg [oM 5 0,oM 6 1,oO 7 (.call 99 [(.t 5),(.t 6)] none),oO 8 (.bin .geq (.t 7) (kI 0)),oM 4 8]) (.ret)),[(4,none)]⟩
theorem Uw:aC Tryz.prog { own:=[],comp:=[],frz:=[],nils:=[] } Tryz.f56=some yd:=by kernel_rfl
theorem KO (G:ah) (l:List Int) (v:Int) (hl:l.length≤9000000000000000000):ak Tryz.prog G 56 [.sl (l.map zD),.int .i64 v] (.w (.c (.d (.bool (decide (v∈l)))))):=by
  refine aG Tryz.func56 Uw rfl rfl ?_;obtain⟨n,hn,c⟩:=VR G l v hl;rcases hn with ⟨h1,h2⟩ | ⟨h1,rfl⟩
  ·rw[decide_eq_true h1];have g:(n≥0)=True:=eq_true h2;simp only[yd,af,ae,aa,seval,iteOmega,toNatUp];refine sC (c) ?_;simp only[g,ae,aa,seval,iteOmega,toNatUp];exact aI
  ·rw[decide_eq_false h1];simp only[yd,af,ae,aa,seval,iteOmega,toNatUp];refine sD (c) ?_;exact aI
def tv (x y:List Int) (i:Nat):St:=⟨aQ [(1,.w (.c (.d (.sl (y.map zD))))),(8,.w (.c (.d (.sl (x.map zD))))),(9,.w (.c (.d (.int .i64 (x.length:Int))))),(10,.w (.c (.d (.int .i64 (i:Int)))))],hL [],uL []⟩
def rr:aM := .seq (.reg [oO 11 (.bin .lss (.t 10) (.t 9))]) (.seq (.cond (.t 11) (.skip) (.exit 0)) (.seq (.block 1 (.seq (.reg [oO 12 (.idxSl 1 (.t 8) (.t 10)),oO 13 (.load .sc (.t 12)),oM 7 13]) (.seq (.reg [oM 14 1,oM 15 7,oO 16 (.call 56 [(.t 14),(.t 15)] none)]) (.cond (.t 16) (.seq (.reg [oM 17 7,oM 4 17,oO 5 (.mv (.k (.c (.d (.bool true)))))]) (.ret)) (.skip))))) (.reg [oO 18 (.bin .add (.t 10) (kI 1)),oM 10 18])))
def JK:aE:=⟨2,19,.seq (.reg [oO 4 (.mv (kI 0)),oO 5 (.mv (.k (.c (.d (.bool false)))))]) (.seq (.seq (.reg [oM 8 0,oO 9 (.len (.t 8)),oO 10 (.mv (kI 0))]) (.block 0 (.loop rr))) (.seq (.reg [oO 4 (.mv (kI 0)),oO 5 (.mv (.k (.c (.d (.bool false)))))]) (.ret))),[(4,none),(5,none)]⟩
theorem Ux:aC Tryz.prog { own:=[],comp:=[],frz:=[],nils:=[] } Tryz.f18=some JK:=by kernel_rfl
theorem y5 (G:ah) (x y:List Int) (hx:x.length≤1000000) (hy:y.length≤1000000):ak Tryz.prog G 18 [.sl (x.map zD),.sl (y.map zD)] (.tup [.c (.d (.int .i64 ((de x y).getD 0))),.c (.d (.bool (de x y).isSome))]):=by
  refine aG Tryz.func18 Ux rfl rfl ?_;simp only[JK,af,ae,aa,seval,iteOmega,toNatUp];refine ba (tv x y) (fun i=>x.length-i) (fun i=>i≤x.length∧∀ v∈x.take i,v∉y) 0 ⟨WI _,by rw[Xq]; exact fun v hv=>by cases hv⟩ ?_ ?_
  ·refine aw (fun _=>0) ?_ ?_ rfl rfl <;> simp only[wx,am,aH,aa,seval,iteOmega,toNatUp] <;> first | rfl | exact⟨rfl,rfl⟩ | skip
  ·rintro i ⟨hi,hp⟩;by_cases hlt:i<x.length
   ·have g:=iW hlt;have hs:=jx hlt;have hat:=Jt hlt hp;have c:=KO G y (x.getD i 0) (by omega);generalize x.getD i 0=w at *
    by_cases h1:w∈y
    ·rw[hat h1,Xu,XR];rw[decide_eq_true h1] at c;simp only[rr,tv,ae,aa,seval,iteOmega,toNatUp,aJ,g,zD];refine sD (c) ?_;exact aO
    ·rw[decide_eq_false h1] at c;have hn:∀ v∈x.take (i+1),v∉y:=by
       rw[hs];intro v q;rcases WO.1 q with q | q
       ·exact hp v q
       ·rw[WG.1 q]; exact h1
     clear hat;simp only[rr,tv,ae,aa,seval,iteOmega,toNatUp,aJ,g,zD];refine sD (c) ?_;refine aS (i+1) (by omega) ⟨by omega,hn⟩ (aw (fun i=>i) ?_ ?_ rfl rfl) <;> simp only[wx,am,aH,aa,seval,iteOmega,toNatUp] <;> first | rfl | exact⟨rfl,rfl⟩ | skip
   ·rw[WE (by omega)] at hp;have:de x y=none:=List.find?_eq_none.2 fun v hv q=>hp v hv (of_decide_eq_true q)
    rw[this,XG,X2];simp only[rr,tv,ae,aa,seval,iteOmega,toNatUp];exact aO
def JL:aE:=⟨3,20,.seq (.reg [oO 3 (.box .roBox (.t 0)),oO 6 (.mv (.k (.c .nil)))]) (.seq (.reg [oO 10 (.load (.ag 6) (.t 3)),oM 11 1,oM 12 2,oO 13 (.bldSl false 1 1 (.int .u8 0) [(0,(.t 12))]),oO 14 (.bldSl false 2 1 (.sl []) [(0,(.t 11)),(1,(.t 13))]),oO 15 (.call 90 [(.t 14)] none),oO 16 (.call 105 [(.t 10),(.k (.c (.d (.str ⟨#[115,101,99,116,105,109,101,32,107,101,121,115]⟩)))),(.t 15),(kI 32)] none),oM 9 16,oO 17 (.extract (.t 9) 0),oO 18 (.extract (.t 9) 1),oM 7 17,oM 8 18]) (.seq (.reg [oM 19 7,oM 6 19]) (.ret))),[(6,none)]⟩
theorem Uy:aC Tryz.prog { own:=[],comp:=[],frz:=[],nils:=[] } Tryz.f63=some JL:=by kernel_rfl
theorem KP (G:ah) (hF:G.at 0=some (.ra (cU.map wD))) (hG:G.at 1=some (.ra (bF.map wD))) (c:Ch) (p a:Int) (z:UInt8) (h:gg c p a=0):ak Tryz.prog G 63 [bB c,.sl ((aR [p,a]).map bD),bD z] (.w (.c (.d (.sl ((bw c p a z).map bD))))):=by
  refine aG Tryz.func63 Uy rfl rfl ?_;have hv:dA c:=by
    unfold gg at h;by_cases g:dA c
    ·exact g
    ·rw[if_pos g] at h; exact absurd h (by decide)
  have bl:(aR [p,a]).length=4:=fi _;have cj:=fo G [aR [p,a],[z]] (by simp) (by simp[bl]);rw[show [aR [p,a],[z]].flatten=lj p a z from by unfold lj; simp] at cj;simp only[WH,W8] at cj;have hl:(lj p a z).length=5:=by unfold lj; rw[WA,bl]; rfl
  have c4:=VG G hF hG c zS (lj p a z) 32 (by decide) (by omega) (by decide) (by decide);have hX:tV c zS.data.toList (lj p a z) 32=bw c p a z:=by
    unfold tV bw;rw[if_pos hv,if_pos h,kB _ _ (by decide)];rfl
  rw[hX] at c4;unfold zS at c4;unfold bB at *
  generalize lj p a z=X at *
  generalize bw c p a z=K at *
  generalize aR [p,a]=B at *
  simp only[JL,af,ae,aa,seval,iteOmega,toNatUp];refine sD (cj) ?_;refine sD (c4) ?_;exact aI
def sG:aE:=⟨3,30,.seq (.reg [oO 3 (.box .roBox (.t 0)),oO 6 (.alloc [.nil,.nil]),oO 7 (.mv (kI 0))]) (.seq (.seq (.reg [oO 9 (.load (.ag 6) (.t 3)),oO 10 (.call 62 [(.t 9)] none),oO 11 (.un .not (.t 10))]) (.cond (.t 11) (.seq (.reg [oO 12 (.build [.nil,.nil] []),oN (.store (.ag 2) (.t 6) (.t 12)),oO 7 (.mv (kI 3))]) (.ret)) (.skip))) (.seq (.seq (.reg [oM 13 1,oM 14 2,oO 15 (.bldSl false 2 1 (.int .i64 0) [(0,(.t 13)),(1,(.t 14))]),oO 16 (.call 50 [(.t 15)] none),oO 17 (.un .not (.t 16))]) (.cond (.t 17) (.seq (.reg [oO 18 (.build [.nil,.nil] []),oN (.store (.ag 2) (.t 6) (.t 18)),oO 7 (.mv (kI 4))]) (.ret)) (.skip))) (.seq (.reg [oM 19 1,oM 20 2,oO 21 (.bldSl false 2 1 (.int .i64 0) [(0,(.t 19)),(1,(.t 20))]),oO 22 (.call 53 [(.t 21)] none),oM 8 22]) (.seq (.reg [oO 23 (.load (.ag 6) (.t 3)),
 oM 24 8,oO 25 (.call 63 [(.t 23),(.t 24),(.k (.c (.d (.int .u8 0))))] none),oO 26 (.load (.ag 6) (.t 3)),oM 27 8,oO 28 (.call 63 [(.t 26),(.t 27),(.k (.c (.d (.int .u8 1))))] none),oO 29 (.build [.nil,.nil] [(0,1,(.t 25)),(1,1,(.t 28))]),oN (.store (.ag 2) (.t 6) (.t 29)),oO 7 (.mv (kI 0))]) (.ret))))),[(6,(some (.ag 2))),(7,none)]⟩
theorem Uz:aC Tryz.prog { own:=[],comp:=[],frz:=[],nils:=[] } Tryz.f26=some sG:=by kernel_rfl
theorem KQ (G:ah) (hF:G.at 0=some (.ra (cU.map wD))) (hG:G.at 1=some (.ra (bF.map wD))) (c:Ch) (p a:Int):ak Tryz.prog G 26 [bB c,.int .i64 p,.int .i64 a] (.tup [.c (.d (gI (bw c p a 0) (bw c p a 1))),.c (.d (.int .i64 (gg c p a)))]):=by
  refine aG Tryz.func26 Uz rfl rfl ?_;have c1:=tp G hF hG c;have c2:=nH G [p,a] (by simp);by_cases h:dA c
  ·rw[decide_eq_true h] at c1;by_cases hs:br [p,a]
   ·rw[decide_eq_true hs] at c2;have e:gg c p a=0:=by unfold gg; rw[if_neg (not_not_intro h),if_neg (not_not_intro hs)]
    have c3:=lV G [p,a] (by simp) hs;have c4:=KP G hF hG c p a 0 e;have c5:=KP G hF hG c p a 1 e;rw[e];unfold bB gI at *
    simp only[WH,W8,zD] at c2 c3 c4 c5;generalize aR [p,a]=B at *
    generalize bw c p a 0=U at *
    generalize bw c p a 1=W at *
    simp only[sG,af,ae,aa,seval,iteOmega,toNatUp];refine sD (c1) ?_;refine sD (c2) ?_;refine sD (c3) ?_;refine sD (c4) ?_;refine sD (c5) ?_;exact aO
   ·rw[decide_eq_false hs] at c2;have e:gg c p a=4:=by unfold gg; rw[if_neg (not_not_intro h),if_pos hs]
    rw[e,show bw c p a 0=[] from if_neg (by rw[e]; decide),show bw c p a 1=[] from if_neg (by rw[e]; decide)];unfold bB gI at *
    simp only[WH,W8,zD] at c2;simp only[sG,af,ae,aa,seval,iteOmega,toNatUp];refine sD (c1) ?_;refine sD (c2) ?_;exact aO
  ·rw[decide_eq_false h] at c1;have e:gg c p a=3:=by unfold gg; rw[if_pos h]
   rw[e,show bw c p a 0=[] from if_neg (by rw[e]; decide),show bw c p a 1=[] from if_neg (by rw[e]; decide)];unfold bB gI at *
   simp only[sG,af,ae,aa,seval,iteOmega,toNatUp];refine sD (c1) ?_;exact aO
def tz (l:List Ek) (g:Nat) (caps:List D) (i:Nat):St:=⟨aQ [(0,.w (.c (.d (.sl (l.map aF))))),(1,.w (.c (.d (.fn g caps)))),(7,.w (.c (.d (.int .i64 (l.length:Int))))),(8,.w (.c (.d (.int .i64 (i:Int)))))],hL [],uL []⟩
def Wv (p:Ek→Bool) (l:List Ek) (n:Int):Prop:=(l.any p=true∧0≤n)∨(l.any p=false∧n=-1)
def ru:aM := .seq (.reg [oO 9 (.bin .lss (.t 8) (.t 7))]) (.seq (.cond (.t 9) (.skip) (.exit 0)) (.seq (.block 1 (.seq (.reg [oM 10 8,oM 5 10]) (.seq (.reg [oM 11 1,oM 12 0,oM 13 5,oO 14 (.idxSl 3 (.t 12) (.t 13)),oO 15 (.load (.ag 3) (.t 14)),oO 16 (.call 1000000007 [(.t 11),(.t 15)] none)]) (.cond (.t 16) (.seq (.reg [oM 17 5,oM 4 17]) (.ret)) (.skip))))) (.reg [oO 18 (.bin .add (.t 8) (kI 1)),oM 8 18])))
def J0:aE:=⟨2,19,.seq (.reg [oO 4 (.mv (kI 0))]) (.seq (.seq (.reg [oM 6 0,oO 7 (.len (.t 6)),oO 8 (.mv (kI 0))]) (.block 0 (.loop ru))) (.seq (.reg [oO 4 (.mv (.k (.c (.d (.int .i64 (-1))))))]) (.ret))),[(4,none)]⟩
theorem UC:aC Tryz.prog { own:=[],comp:=[],frz:=[],nils:=[] } Tryz.f131=some J0:=by kernel_rfl
theorem VS (G:ah) (l:List Ek) (g:Nat) (caps:List D) (p:Ek→Bool) (hl:l.length≤9223372036854775807) (hp:∀ x∈l,kT Tryz.prog G g caps [aF x] (.w (.c (.d (.bool (p x)))))):∃ n,Wv p l n∧ak Tryz.prog G 131 [.sl (l.map aF),.fn g caps] (.w (.c (.d (.int .i64 n)))):=by
  have key:∀ n:Int,(l.any p=true∧(∃ i:Nat,n=(i:Int)∧i<l.length∧p (l.getD i default)=true∧∀ j,j<i→p (l.getD j default)=false))∨(l.any p=false∧n=-1)→ak Tryz.prog G 131 [.sl (l.map aF),.fn g caps] (.w (.c (.d (.int .i64 n)))):=by
    intro n hn;refine aG Tryz.func131 UC rfl rfl ?_;simp only[J0,af,ae,aa,seval,iteOmega,toNatUp];refine ba (tz l g caps) (fun i=>l.length-i) (fun i=>i≤l.length∧∀ j,j<i→p (l.getD j default)=false) 0 ⟨WI _,fun j hj=>by omega⟩ ?_ ?_
    ·refine aw (fun i=>0) ?_ ?_ rfl rfl <;> simp only[wx,am,aH,aa,seval,iteOmega,toNatUp] <;> rfl
    ·rintro i ⟨hi,hno⟩;by_cases hlt:i<l.length
     ·have g1:=io hlt;have hd:=hp _ (hC hlt);unfold aF at hd;cases hpi:p (l.getD i default)
      ·rw[hpi] at hd;simp only[ru,tz,ae,aa,seval,iteOmega,toNatUp,aJ,g1,aF];refine qK hd rfl (.inl rfl) ?_;simp only[ae,aa,seval,iteOmega,toNatUp];refine aS (i+1) (by omega) ⟨by omega,fun j hj=>?_⟩ (aw (fun i=>0) ?_ ?_ rfl rfl)
       ·rcases Xd j i with h | h
        ·exact hno j h
        ·obtain rfl:j=i:=by omega
         exact hpi
       all_goals simp only[wx,am,aH,aa,seval,iteOmega,toNatUp]
      ·rw[hpi] at hd;have hni:n=(i:Int):=by
         rcases hn with ⟨_,k,rfl,hk,h1,h2⟩ | ⟨h1,_⟩
         ·rcases Nat.lt_trichotomy k i with h | h | h
          ·rw[hno k h] at h1; cases h1
          ·rw[h]
          ·rw[h2 i h] at hpi; cases hpi
         ·have:=XO.2 ⟨_,hC hlt,hpi⟩;rw[h1] at this; cases this
       subst hni;simp only[ru,tz,ae,aa,seval,iteOmega,toNatUp,aJ,g1,aF];refine qK hd rfl (.inl rfl) ?_;simp only[ae,aa,seval,iteOmega,toNatUp];exact aI
     ·have hni:n=-1:=by
        rcases hn with ⟨_,k,rfl,hk,h1,h2⟩ | ⟨_,h⟩
        ·rw[hno k (by omega)] at h1; cases h1
        ·exact h
      subst hni;simp only[ru,tz,ae,aa,seval,iteOmega,toNatUp];exact aI
  cases ha:l.any p
  ·exact⟨_,.inr ⟨ha,rfl⟩,key _ (.inr ⟨ha,rfl⟩)⟩
  ·have:∃ i,i<l.length∧p (l.getD i default)=true:=by
     obtain⟨x,hx,h1⟩:=XO.1 ha;obtain⟨i,hi,rfl⟩:=Xh hx;exact⟨i,hi,by rw[WB,Wz hi]; exact h1⟩
   obtain⟨i,⟨h1,h2⟩,h3⟩:=CN this;exact⟨_,.inl ⟨ha,Yl _⟩,key (i:Int) (.inl ⟨ha,i,rfl,h1,h2,fun j hj=>by
     cases hq:p (l.getD j default)
     ·rfl
     ·have:=h3 j ⟨by omega,hq⟩; omega⟩)⟩
def yj:aE:=⟨2,9,.seq (.reg [oO 4 (.mv (.k (.c (.d (.bool false)))))]) (.seq (.reg [oM 5 0,oM 6 1,oO 7 (.call 131 [(.t 5),(.t 6)] none),oO 8 (.bin .geq (.t 7) (kI 0)),oM 4 8]) (.ret)),[(4,none)]⟩
theorem UD:aC Tryz.prog { own:=[],comp:=[],frz:=[],nils:=[] } Tryz.f109=some yj:=by kernel_rfl
theorem VT (G:ah) (l:List Ek) (g:Nat) (caps:List D) (p:Ek→Bool) (hl:l.length≤9223372036854775807) (hp:∀ x∈l,kT Tryz.prog G g caps [aF x] (.w (.c (.d (.bool (p x)))))):ak Tryz.prog G 109 [.sl (l.map aF),.fn g caps] (.w (.c (.d (.bool (l.any p))))):=by
  refine aG Tryz.func109 UD rfl rfl ?_;obtain⟨n,hn,c⟩:=VS G l g caps p hl hp;rcases hn with ⟨h1,h2⟩ | ⟨h1,rfl⟩
  ·rw[h1];have g1:(n≥0)=True:=eq_true h2;simp only[yj,af,ae,aa,seval,iteOmega,toNatUp];refine sC (c) ?_;simp only[g1,ae,aa,seval,iteOmega,toNatUp];exact aI
  ·rw[h1];simp only[yj,af,ae,aa,seval,iteOmega,toNatUp];refine sD (c) ?_;exact aI
def J1:aE:=⟨1,5,.seq (.reg [oO 1 (.box .roBox (.t 0)),oO 2 (.mv (.k (.c (.d (.bool false)))))]) (.seq (.reg [oO 3 (.fieldAddr 0 (.t 1)),oO 4 (.load .sc (.t 3)),oM 2 4]) (.ret)),[(2,none)]⟩
theorem UE:aC Tryz.prog { own:=[],comp:=[],frz:=[],nils:=[] } Tryz.f110=some J1:=by kernel_rfl
theorem VU (G:ah) (r:Ek):kT Tryz.prog G 110 [] [aF r] (.w (.c (.d (.bool r.cr)))):=by
  refine⟨enters_of Tryz.func110 (by kernel_rfl) rfl,?_⟩;refine aG Tryz.func110 UE rfl rfl ?_;obtain⟨cr,ty,bo⟩:=r;unfold aF;simp only[J1,af,ae,aa,seval,iteOmega,toNatUp];exact aI
def yk:aE:=⟨2,10,.seq (.reg [oO 4 (.mv (.k (.c (.d (.bool false)))))]) (.seq (.reg [oM 5 0,oM 6 1,oO 7 (.mpGet .i64 (.sl []) false (.t 5) (.t 6)),oO 8 (.len (.t 7)),oO 9 (.bin .gtr (.t 8) (kI 0)),oM 4 9]) (.ret)),[(4,none)]⟩
theorem UF:aC Tryz.prog { own:=[],comp:=[],frz:=[],nils:=[] } Tryz.f80=some yk:=by kernel_rfl
theorem kP (G:ah) (l:List Ek) (k:Int):ak Tryz.prog G 80 [cb l,.int .i64 k] (.w (.c (.d (.bool (decide (0<(au l k).length)))))):=by
  refine aG Tryz.func80 UF rfl rfl ?_;have hk:=yh l k;unfold cb;generalize cD l=E at *
  generalize au l k=x at *
  by_cases h:0<x.length
  ·rw[decide_eq_true h];have g1:((x.length:Int)>0)=True:=eq_true (by omega);simp only[yk,af,ae,aa,seval,iteOmega,toNatUp,cP,hk,g1];exact aI
  ·rw[decide_eq_false h];have g1:((x.length:Int)>0)=False:=eq_false (by omega);simp only[yk,af,ae,aa,seval,iteOmega,toNatUp,cP,hk,g1];exact aI
def df (l:List Ek) (k:Int):List UInt8:=((au l k).getD 0 default).bo
def bh (l:List Ek) (k:Int):List Int:=dB (df l k)
def ym:aE:=⟨2,15,.seq (.reg [oO 4 (.mv (.k (.c .nil)))]) (.seq (.seq (.reg [oM 5 0,oM 6 1,oO 7 (.call 80 [(.t 5),(.t 6)] none),oO 8 (.un .not (.t 7))]) (.cond (.t 8) (.seq (.reg [oO 4 (.mv (.k (.c .nil)))]) (.ret)) (.skip))) (.seq (.reg [oM 9 0,oM 10 1,oO 11 (.mpGet .i64 (.sl []) false (.t 9) (.t 10)),oO 12 (.idxSl 3 (.t 11) (kI 0)),oO 13 (.fieldAddr 2 (.t 12)),oO 14 (.load .sc (.t 13)),oM 4 14]) (.ret))),[(4,none)]⟩
theorem UG:aC Tryz.prog { own:=[],comp:=[],frz:=[],nils:=[] } Tryz.f116=some ym:=by kernel_rfl
theorem y6 (G:ah) (l:List Ek) (k:Int):ak Tryz.prog G 116 [cb l,.int .i64 k] (.w (.c (.d (.sl ((df l k).map bD))))):=by
  refine aG Tryz.func116 UG rfl rfl ?_;have c:=kP G l k;have hk:=yh l k;unfold cb df at *
  generalize cD l=E at *
  generalize au l k=x at *
  by_cases h:0<x.length
  ·rw[decide_eq_true h] at c;have g:=io h;generalize x.getD 0 default=r at *
   simp only[ym,af,ae,aa,seval,iteOmega,toNatUp,cP,hk,aJ];refine sC (c) ?_;simp only[cP,hk,aJ,g,aF,ae,aa,seval,iteOmega,toNatUp];exact aI
  ·rw[decide_eq_false h] at c;obtain rfl:x=[]:=Xa.1 (by omega);rw[show (([]:List Ek).getD 0 default).bo=[] from rfl];simp only[ym,af,ae,aa,seval,iteOmega,toNatUp];refine sD (c) ?_;exact aI
theorem mV {l:List Ek} {n:Nat} (h:∀ r∈l,r.bo.length≤n) (k:Int):(df l k).length≤n:=by
  unfold df;rcases Xd 0 (au l k).length with h1 | h1
  ·exact h _ (XZ.1 (hC h1)).1
  ·obtain h2:au l k=[]:=Xa.1 (by omega);rw[h2]; exact WI _
def J2:aE:=⟨2,15,.seq (.reg [oO 4 (.mv (.k (.c .nil)))]) (.seq (.reg [oM 8 0,oM 9 1,oO 10 (.call 116 [(.t 8),(.t 9)] none),oO 11 (.call 14 [(.t 10)] none),oM 7 11,oO 12 (.extract (.t 7) 0),oO 13 (.extract (.t 7) 1),oM 5 12,oM 6 13]) (.seq (.reg [oM 14 5,oM 4 14]) (.ret))),[(4,none)]⟩
theorem UH:aC Tryz.prog { own:=[],comp:=[],frz:=[],nils:=[] } Tryz.f111=some J2:=by kernel_rfl
theorem nJ (G:ah) (l:List Ek) (k:Int) (h:∀ r∈l,r.bo.length≤1000000000):ak Tryz.prog G 111 [cb l,.int .i64 k] (.w (.c (.d (.sl ((bh l k).map zD))))):=by
  refine aG Tryz.func111 UH rfl rfl ?_;have c1:=y6 G l k;have c2:=y1 G (df l k) (mV h k);unfold bh cb at *
  generalize cD l=E at *
  generalize df l k=B at *
  generalize dB B=N at *
  simp only[J2,af,ae,aa,seval,iteOmega,toNatUp];refine sD (c1) ?_;refine sD (c2) ?_;exact aI
def mo (l:List Ek):Bool:=decide (0<(au l 1).length)&&(decide (0<(au l 4).length)&&(!decide (0<(au l 2).length)&&(!decide (0<(au l 3).length)&&!decide (0<(au l 5).length))))
def nq:aE:=⟨1,24,.seq (.reg [oO 2 (.mv (.k (.c (.d (.bool false)))))]) (.seq (.reg [oM 3 0,oO 4 (.call 80 [(.t 3),(kI 1)] none),oM 5 4,oG 6 (.mv (.t 0)) 5 true,oG 7 (.call 80 [(.t 6),(kI 4)] none) 5 true,oO 8 (.pick (.t 5) (.t 7) (.k (.c (.d (.bool false))))),oM 9 8,oG 10 (.mv (.t 0)) 9 true,oG 11 (.call 80 [(.t 10),(kI 2)] none) 9 true,oG 12 (.un .not (.t 11)) 9 true,oO 13 (.pick (.t 9) (.t 12) (.k (.c (.d (.bool false))))),oM 14 13,oG 15 (.mv (.t 0)) 14 true,oG 16 (.call 80 [(.t 15),(kI 3)] none) 14 true,oG 17 (.un .not (.t 16)) 14 true,oO 18 (.pick (.t 14) (.t 17) (.k (.c (.d (.bool false))))),oM 19 18,oG 20 (.mv (.t 0)) 19 true,oG 21 (.call 80 [(.t 20),(kI 5)] none) 19 true,oG 22 (.un .not (.t 21)) 19 true,oO 23 (.pick (.t 19) (.t 22) (.k (.c (.d (.bool false))))),oM 2 23]) (.ret)),
 [(2,none)]⟩
theorem UI:aC Tryz.prog { own:=[],comp:=[],frz:=[],nils:=[] } Tryz.f67=some nq:=by kernel_rfl
theorem VV (G:ah) (l:List Ek):ak Tryz.prog G 67 [cb l] (.w (.c (.d (.bool (mo l))))):=by
  refine aG Tryz.func67 UI rfl rfl ?_;have c1:=kP G l 1;have c4:=kP G l 4;have c2:=kP G l 2;have c3:=kP G l 3;have c5:=kP G l 5;unfold mo;unfold cb at *
  generalize cD l=E at *
  generalize decide (0<(au l 1).length)=b1 at *
  generalize decide (0<(au l 4).length)=b4 at *
  generalize decide (0<(au l 2).length)=b2 at *
  generalize decide (0<(au l 3).length)=b3 at *
  generalize decide (0<(au l 5).length)=b5 at *
  cases b1
  ·simp only[nq,af,ae,aa,seval,iteOmega,toNatUp];refine sD (c1) ?_;exact aI
  cases b4
  ·simp only[nq,af,ae,aa,seval,iteOmega,toNatUp];refine sD (c1) ?_;refine sD (c4) ?_;exact aI
  cases b2
  case true =>
    simp only[nq,af,ae,aa,seval,iteOmega,toNatUp];refine sD (c1) ?_;refine sD (c4) ?_;refine sD (c2) ?_;exact aI
  cases b3
  case true =>
    simp only[nq,af,ae,aa,seval,iteOmega,toNatUp];refine sD (c1) ?_;refine sD (c4) ?_;refine sD (c2) ?_;refine sD (c3) ?_;exact aI
  cases b5 <;> (
    simp only[nq,af,ae,aa,seval,iteOmega,toNatUp];refine sD (c1) ?_;refine sD (c4) ?_;refine sD (c2) ?_;refine sD (c3) ?_;refine sD (c5) ?_;exact aI
    skip)
def mq (k:Int) (x:List Ek):Bool :=
  if k=0 then decide (x.length=1∧(x.getD 0 default).bo.length=0)
  else if k=1∨k=4 then decide (x.length=1∧(x.getD 0 default).bo.length%2=0)
  else if k=6 then decide (x.length=1)
  else if k=7 then decide (x.length=1∧(x.getD 0 default).bo.length=2)
  else true
def fE:aE:=⟨2,52,.seq (.reg [oO 4 (.mv (.k (.c (.d (.bool false)))))]) (.seq (.reg [oM 8 1,oO 9 (.idxSl 3 (.t 8) (kI 0)),oO 10 (.fieldAddr 2 (.t 9)),oO 11 (.load .sc (.t 10)),oM 5 11]) (.seq (.seq (.reg [oM 12 0]) (.block 0 (.seq (.reg [oO 14 (.bin .eql (.t 12) (kI 0)),oM 13 14]) (.cond (.t 13) (.seq (.reg [oM 15 1,oO 16 (.len (.t 15)),oO 17 (.bin .eql (.t 16) (kI 1)),oM 18 17,oG 19 (.mv (.t 5)) 18 true,oG 20 (.len (.t 19)) 18 true,oG 21 (.bin .eql (.t 20) (kI 0)) 18 true,oO 22 (.pick (.t 18) (.t 21) (.k (.c (.d (.bool false))))),oM 4 22]) (.ret)) (.seq (.seq (.reg [oO 24 (.bin .eql (.t 12) (kI 1)),oM 23 24]) (.cond (.t 23) (.skip) (.reg [oO 25 (.bin .eql (.t 12) (kI 4)),oM 23 25]))) (.cond (.t 23) (.seq (.reg [oM 27 5,oO 28 (.call 14 [(.t 27)] none),oM 26 28,oO 29 (.extract (.t 26) 0),
 oO 30 (.extract (.t 26) 1),oM 6 29,oM 7 30]) (.seq (.reg [oM 31 1,oO 32 (.len (.t 31)),oO 33 (.bin .eql (.t 32) (kI 1)),oM 34 33,oG 35 (.mv (.t 7)) 34 true,oO 36 (.pick (.t 34) (.t 35) (.k (.c (.d (.bool false))))),oM 4 36]) (.ret))) (.seq (.reg [oO 38 (.bin .eql (.t 12) (kI 6)),oM 37 38]) (.cond (.t 37) (.seq (.reg [oM 39 1,oO 40 (.len (.t 39)),oO 41 (.bin .eql (.t 40) (kI 1)),oM 4 41]) (.ret)) (.seq (.reg [oO 43 (.bin .eql (.t 12) (kI 7)),oM 42 43]) (.cond (.t 42) (.seq (.reg [oM 44 1,oO 45 (.len (.t 44)),oO 46 (.bin .eql (.t 45) (kI 1)),oM 47 46,oG 48 (.mv (.t 5)) 47 true,oG 49 (.len (.t 48)) 47 true,oG 50 (.bin .eql (.t 49) (kI 2)) 47 true,oO 51 (.pick (.t 47) (.t 50) (.k (.c (.d (.bool false))))),oM 4 51]) (.ret)) (.skip))))))))))) (.seq (.reg [oO 4 (.mv (.k (.c (.d (.bool true)))))])
 (.ret)))),[(4,none)]⟩
theorem UJ:aC Tryz.prog { own:=[],comp:=[],frz:=[],nils:=[] } Tryz.f108=some fE:=by kernel_rfl
theorem VW (G:ah) (k:Int) (x:List Ek) (hx:0<x.length) (hl:x.length≤1000000) (hb:(x.getD 0 default).bo.length≤1000000000):ak Tryz.prog G 108 [.int .i64 k,.sl (x.map aF)] (.w (.c (.d (.bool (mq k x))))):=by
  refine aG Tryz.func108 UJ rfl rfl ?_;have g:=io hx;have c:=y1 G (x.getD 0 default).bo hb;unfold mq;generalize x.getD 0 default=r at *
  obtain⟨cr,ty,bo⟩:=r;dsimp only at *
  generalize dB bo=nn at *
  by_cases k0:k=0
  ·rw[if_pos k0];subst k0;by_cases h1:x.length=1
   ·have g1:((x.length:Int)=1)=True:=eq_true (by omega);by_cases h2:bo.length=0
    ·rw[decide_eq_true ⟨h1,h2⟩];have g2:((bo.length:Int)=0)=True:=eq_true (by omega);simp only[fE,af,ae,aa,seval,iteOmega,toNatUp,aJ,g,aF,g1,g2];exact aI
    ·rw[decide_eq_false (fun h=>h2 h.2)];have g2:((bo.length:Int)=0)=False:=eq_false (by omega);simp only[fE,af,ae,aa,seval,iteOmega,toNatUp,aJ,g,aF,g1,g2];exact aI
   ·have g1:((x.length:Int)=1)=False:=eq_false (by omega);rw[decide_eq_false (fun h=>h1 h.1)];simp only[fE,af,ae,aa,seval,iteOmega,toNatUp,aJ,g,aF,g1];exact aI
  ·rw[if_neg k0];have g0:=eq_false k0;by_cases k1:k=1
   ·rw[if_pos (.inl k1)];subst k1;by_cases h1:x.length=1
    ·have g1:((x.length:Int)=1)=True:=eq_true (by omega);by_cases h2:bo.length%2=0
     ·rw[decide_eq_true ⟨h1,h2⟩];rw[decide_eq_true h2] at c;simp only[fE,af,ae,aa,seval,iteOmega,toNatUp,aJ,g,aF];refine sC (c) ?_;simp only[g1,ae,aa,seval,iteOmega,toNatUp];exact aI
     ·rw[decide_eq_false (fun h=>h2 h.2)];rw[decide_eq_false h2] at c;simp only[fE,af,ae,aa,seval,iteOmega,toNatUp,aJ,g,aF];refine sC (c) ?_;simp only[g1,ae,aa,seval,iteOmega,toNatUp];exact aI
    ·have g1:((x.length:Int)=1)=False:=eq_false (by omega);rw[decide_eq_false (fun h=>h1 h.1)];generalize decide (bo.length%2=0)=d at *
     simp only[fE,af,ae,aa,seval,iteOmega,toNatUp,aJ,g,aF];refine sC (c) ?_;simp only[g1,ae,aa,seval,iteOmega,toNatUp];exact aI
   ·have g1':=eq_false k1;by_cases k4:k=4
    ·rw[if_pos (.inr k4)];subst k4;by_cases h1:x.length=1
     ·have g1:((x.length:Int)=1)=True:=eq_true (by omega);by_cases h2:bo.length%2=0
      ·rw[decide_eq_true ⟨h1,h2⟩];rw[decide_eq_true h2] at c;simp only[fE,af,ae,aa,seval,iteOmega,toNatUp,aJ,g,aF];refine sC (c) ?_;simp only[g1,ae,aa,seval,iteOmega,toNatUp];exact aI
      ·rw[decide_eq_false (fun h=>h2 h.2)];rw[decide_eq_false h2] at c;simp only[fE,af,ae,aa,seval,iteOmega,toNatUp,aJ,g,aF];refine sC (c) ?_;simp only[g1,ae,aa,seval,iteOmega,toNatUp];exact aI
     ·have g1:((x.length:Int)=1)=False:=eq_false (by omega);rw[decide_eq_false (fun h=>h1 h.1)];generalize decide (bo.length%2=0)=d at *
      simp only[fE,af,ae,aa,seval,iteOmega,toNatUp,aJ,g,aF];refine sC (c) ?_;simp only[g1,ae,aa,seval,iteOmega,toNatUp];exact aI
    ·have g4':=eq_false k4;rw[if_neg (fun h=>h.elim k1 k4)];by_cases k6:k=6
     ·rw[if_pos k6];subst k6;by_cases h1:x.length=1
      ·have g1:((x.length:Int)=1)=True:=eq_true (by omega);rw[decide_eq_true h1];simp only[fE,af,ae,aa,seval,iteOmega,toNatUp,aJ,g,aF,g1];exact aI
      ·have g1:((x.length:Int)=1)=False:=eq_false (by omega);rw[decide_eq_false h1];simp only[fE,af,ae,aa,seval,iteOmega,toNatUp,aJ,g,aF,g1];exact aI
     ·have g6':=eq_false k6;rw[if_neg k6];by_cases k7:k=7
      ·rw[if_pos k7];subst k7;by_cases h1:x.length=1
       ·have g1:((x.length:Int)=1)=True:=eq_true (by omega);by_cases h2:bo.length=2
        ·rw[decide_eq_true ⟨h1,h2⟩];have g2:((bo.length:Int)=2)=True:=eq_true (by omega);simp only[fE,af,ae,aa,seval,iteOmega,toNatUp,aJ,g,aF,g1,g2];exact aI
        ·rw[decide_eq_false (fun h=>h2 h.2)];have g2:((bo.length:Int)=2)=False:=eq_false (by omega);simp only[fE,af,ae,aa,seval,iteOmega,toNatUp,aJ,g,aF,g1,g2];exact aI
       ·have g1:((x.length:Int)=1)=False:=eq_false (by omega);rw[decide_eq_false (fun h=>h1 h.1)];simp only[fE,af,ae,aa,seval,iteOmega,toNatUp,aJ,g,aF,g1];exact aI
      ·have g7':=eq_false k7;rw[if_neg k7];simp only[fE,af,ae,aa,seval,iteOmega,toNatUp,aJ,g,aF,g0,g1',g4',g6',g7'];exact aI
structure Wk where
  left:List (Int×D)
  last:Option (Int×D)
theorem z6 {α:Type}:∀ (l:List α) (j:Nat) (p:α),l[j]?=some p→∀ x∈l,x∈l.eraseIdx j∨x=p
  | [],_,_,h,_,_=>by simp at h
  | a::l,0,p,h,x,hx=>by
    simp only[XT,WC] at h;subst h;rcases WR.1 hx with rfl | hx
    ·exact .inr rfl
    ·exact .inl hx
  | a::l,j+1,p,h,x,hx=>by
    rw[Xk] at h;rw[List.eraseIdx_cons_succ];rcases WR.1 hx with rfl | hx
    ·exact .inl W6
    ·rcases z6 l j p h x hx with h | h
     ·exact .inl (WW _ h)
     ·exact .inr h
theorem EZ {α:Type} {l:List α} {j:Nat} {p:α} (h:l[j]?=some p):(l.eraseIdx j).length<l.length:=by
  obtain⟨h1,_⟩:=WP.1 h;rw[List.length_eraseIdx,if_pos h1]; omega
def iX (l:List Ek) (P:Int→Prop) (t:Wk):Prop:=(∀ p∈t.left,p∈cD l)∧∀ p∈cD l,p∈t.left∨P p.1
theorem iX.start (l:List Ek) (P:Int→Prop):iX l P ⟨cD l,none⟩:=⟨fun _ h=>h,fun _ h=>.inl h⟩
theorem iX.next {l:List Ek} {P:Int→Prop} {t:Wk} (h:iX l P t) {j:Nat} {p:Int×D} (hj:t.left[j]?=some p) (hP:P p.1):iX l P ⟨t.left.eraseIdx j,some p⟩ :=
  ⟨fun x hx=>h.1 x (List.mem_of_mem_eraseIdx hx),fun x hx=>(h.2 x hx).elim (fun h1=>(z6 _ _ _ hj x h1).imp id (fun e:x=p=>by rw[e]; exact hP)) .inr⟩
theorem iX.done {l:List Ek} {P:Int→Prop} {t:Wk} (h:iX l P t) (he:t.left=[]) {k:Int} (hk:au l k≠[]):P k:=by
  rcases h.2 _ (R0 hk) with h1 | h1
  ·rw[he] at h1; cases h1
  ·exact h1
theorem R2 {l:List Ek} {k:Int} (h:7<k) (ha:(au l k).any (fun r=>r.cr)=true):gE l=true:=by
  obtain⟨r,h1,h2⟩:=XO.1 ha;obtain⟨h3,h4⟩:=XZ.1 h1;have h4:r.ty=k:=of_decide_eq_true h4;exact XO.2 ⟨r,h3,by rw[h2,Bool.true_and,h4]; exact decide_eq_true h⟩
theorem UK {l:List Ek} (h:∀ k,au l k≠[]→¬ (7<k∧(au l k).any (fun r=>r.cr)=true)):gE l=false:=by
  refine XB.2 fun r hr hq=>?_
  rw[WX,decide_eq_true_eq] at hq;have hm:r∈au l r.ty:=XZ.2 ⟨hr,decide_eq_true rfl⟩;exact h r.ty (fun e=>by rw[e] at hm; cases hm) ⟨hq.2,XO.2 ⟨r,hm,hq.1⟩⟩
def KR (t:Wk):St:=⟨aQ [(6,.w (.c (.ptr 1 1 0 0)))],hL [(1,.it .i64 t.left t.last)],uL [1]⟩
def E0:aM := .seq (.nextM 7 (.t 6) [oO 8 (.extract (.t 7) 0)]) (.seq (.cond (.t 8) (.skip) (.exit 0)) (.block 1 (.seq (.reg [oO 9 (.mpEnt (.t 6)),oO 10 (.extract (.t 9) 0),oO 11 (.extract (.t 9) 1),oM 3 10,oM 4 11]) (.seq (.reg [oM 12 3,oO 13 (.bin .gtr (.t 12) (kI 7)),oM 14 13,oG 15 (.mv (.t 4)) 14 true,oG 16 (.call 109 [(.t 15),(.k (.c (.d (.fn 110 []))))] none) 14 true,oO 17 (.pick (.t 14) (.t 16) (.k (.c (.d (.bool false)))))]) (.cond (.t 17) (.seq (.reg [oO 2 (.mv (.k (.c (.d (.bool true)))))]) (.ret)) (.skip))))))
def J3:aE:=⟨1,18,.seq (.reg [oO 2 (.mv (.k (.c (.d (.bool false)))))]) (.seq (.seq (.reg [oM 5 0,oO 6 (.mpIter (.t 5))]) (.block 0 (.loop E0))) (.seq (.reg [oO 2 (.mv (.k (.c (.d (.bool false)))))]) (.ret))),[(2,none)]⟩
theorem UL:aC Tryz.prog { own:=[],comp:=[],frz:=[],nils:=[] } Tryz.f69=some J3:=by kernel_rfl
theorem KS (G:ah) (l:List Ek) (hl:l.length≤1000000):ak Tryz.prog G 69 [cb l] (.w (.c (.d (.bool (gE l))))):=by
  refine aG Tryz.func69 UL rfl rfl ?_;unfold cb;have hst:=iX.start l fun k=>¬ (7<k∧(au l k).any (fun r=>r.cr)=true)
  simp only[J3,af,ae,aa,seval,iteOmega,toNatUp,cP];refine ba KR (fun t=>t.left.length) (iX l fun k=>¬ (7<k∧(au l k).any (fun r=>r.cr)=true)) ⟨cD l,none⟩ hst ?_ ?_
  ·refine aw (fun _=>48) ?_ ?_ rfl rfl <;> simp only[wx,am,aH,aa,seval,iteOmega,toNatUp] <;> first | rfl | exact⟨rfl,rfl⟩ | skip
  ·rintro⟨left,last⟩ hI;simp only[E0,KR,ae,aa,seval,iteOmega,toNatUp];refine JW (id:=1) (s:=1) (q:=.i64) (left:=left) (last:=last) rfl rfl ?_ ?_
   ·intro he;rw[UK fun k hk=>hI.done he hk];simp only[ae,aa,seval,iteOmega,toNatUp];exact aI
   ·intro j p hj;obtain⟨e1,e2⟩:=Hn (hI.1 p (XL hj));have hnx:=fun h=>hI.next hj h
    have hlt:=EZ hj;generalize left.eraseIdx j=left' at *
    clear hj hI;obtain⟨k,d⟩:=p;dsimp only at *
    obtain rfl:d=D.sl ((au l k).map aF):=congrArg Prod.snd e1;clear e1;have c:=VT G (au l k) 110 [] (fun r=>r.cr) (by have:=List.length_filter_le (fun r:Ek=>decide (r.ty=k)) l; unfold au; omega) fun x _=>VU G x
    by_cases hk:k>7
    ·have g1:=eq_true hk;cases hc:(au l k).any fun r=>r.cr
     ·rw[hc] at c;have hn:=hnx (fun h=>by rw[hc] at h; cases h.2);simp only[ae,aa,seval,iteOmega,toNatUp,cP,g1];refine sD (c) ?_;refine aS (⟨left',some (k,D.sl ((au l k).map aF))⟩:Wk) hlt hn (aw (fun _=>1) ?_ ?_ rfl rfl) <;> simp only[wx,am,aH,aa,seval,iteOmega,toNatUp] <;> first | rfl | exact⟨rfl,rfl⟩ | skip
     ·rw[R2 hk hc];rw[hc] at c;simp only[ae,aa,seval,iteOmega,toNatUp,cP,g1];refine sD (c) ?_;exact aI
    ·have g1:=eq_false hk;have hn:=hnx (fun h=>hk h.1);simp only[ae,aa,seval,iteOmega,toNatUp,cP,g1];refine aS (⟨left',some (k,D.sl ((au l k).map aF))⟩:Wk) hlt hn (aw (fun _=>1) ?_ ?_ rfl rfl) <;> simp only[wx,am,aH,aa,seval,iteOmega,toNatUp] <;> first | rfl | exact⟨rfl,rfl⟩ | skip
theorem Hp {l:List Ek} {k:Int} (h:(au l k).length=1) {r:Ek} (hr:r∈l) (hk:r.ty=k):(au l k).getD 0 default=r:=by
  have hm:r∈au l k:=XZ.2 ⟨hr,decide_eq_true hk⟩
  match hx:au l k,h with
  | [x],_ =>
    rw[hx] at hm;rw[WG.1 hm]; rfl
theorem yn {l:List Ek} {r:Ek} (hr:r∈l):au l r.ty≠[]:=fun e=>by
  have hm:r∈au l r.ty:=XZ.2 ⟨hr,decide_eq_true rfl⟩;rw[e] at hm; cases hm
theorem Hq {l:List Ek} {k:Int} (h:au l k≠[]):0<(au l k).length:=Nat.pos_of_ne_zero fun e=>h (Xa.1 e)
theorem UM (l:List Ek):km l↔(0<l.length∧(l.getD (l.length-1) default).ty=0∧∀ k,au l k≠[]→mq k (au l k)=true):=by
  constructor
  ·rintro⟨⟨h1,h2,h3,h4,h5,h6,h7⟩,hb⟩;obtain⟨i1,i2⟩:=TR (l:=l) (k:=0) (j:=0) (by omega);have hg:=kD (l:=l) (k:=0) (j:=0) (by omega);rw[h2] at i1 i2;refine⟨by omega,i2,fun k hk=>?_⟩;have hp:=Hq hk;have hm:=XZ.1 (hC hp);have hty:((au l k).getD 0 default).ty=k:=of_decide_eq_true hm.2;have hb1:oe ((au l k).getD 0 default):=hb _ hm.1;unfold mq;split
   ·rename_i e;subst e;rw[← bX,← hg];exact decide_eq_true ⟨h1,h3⟩
   ·split
    ·rename_i e;refine decide_eq_true ⟨?_,hb1.1 (by rw[hty]; exact e)⟩;rw[bX] at h4 h5;rcases e with rfl | rfl <;> omega
    ·split
     ·rename_i e;subst e;rw[bX] at h6;exact decide_eq_true (by omega)
     ·split
      ·rename_i e;subst e;rw[bX] at h7;exact decide_eq_true ⟨by omega,hb1.2 hty⟩
      ·rfl
  ·rintro⟨hl,h0,hf⟩;have hlast:l.getD (l.length-1) default∈l:=hC (by omega);have f0:=hf 0 (h0 ▸ yn hlast);have f0:(au l 0).length=1∧((au l 0).getD 0 default).bo.length=0:=of_decide_eq_true f0;have few:∀ k,(k=1∨k=4∨k=6∨k=7)→(bL l k).length≤1:=by
     intro k hk;rw[bX];by_cases he:au l k=[]
     ·rw[he]; exact WI _
     ·have:=hf k he;rcases hk with rfl | rfl | rfl | rfl
      ·exact Nat.le_of_eq (of_decide_eq_true this:_∧_).1
      ·exact Nat.le_of_eq (of_decide_eq_true this:_∧_).1
      ·exact Nat.le_of_eq (of_decide_eq_true this:_=1)
      ·exact Nat.le_of_eq (of_decide_eq_true this:_∧_).1
   have n0:(bL l 0).length=1:=by rw[bX]; exact f0.1
   have hidx:(bL l 0).getD 0 0=l.length-1:=by
     have hm:l.length-1∈bL l 0:=XZ.2 ⟨X9.2 (by omega),decide_eq_true h0⟩
     match hx:bL l 0,n0 with
     | [x],_ =>
       rw[hx] at hm;rw[WG.1 hm]; rfl
   refine⟨⟨n0,hidx,?_,few 1 (by simp),few 4 (by simp),few 6 (by simp),few 7 (by simp)⟩,fun r hr=>⟨fun hk=>?_,fun hk=>?_⟩⟩
   ·rw[kD (by omega)]; exact f0.2
   ·have h1:=hf r.ty (yn hr);have h2:(au l r.ty).length=1∧((au l r.ty).getD 0 default).bo.length%2=0:=by
      rcases hk with hk | hk <;> (rw[hk] at h1 ⊢; exact of_decide_eq_true h1)
    rw[Hp h2.1 hr rfl] at h2;exact h2.2
   ·have h1:=hf r.ty (yn hr);have h2:(au l r.ty).length=1∧((au l r.ty).getD 0 default).bo.length=2:=by
      rw[hk] at h1 ⊢; exact of_decide_eq_true h1
    rw[Hp h2.1 hr rfl] at h2;exact h2.2
theorem PP {es:List (Int×List Ek)} {g:Nat→Nat} (h:∀ j,j<es.length→g (8*j+3)=8*j+3):(cv es 0).map (fun p=>(p.1,p.2.ren g))=cv es 0:=by
  refine XJ fun j=>?_
  rw[Xv,pk];cases hj:es[j]? with
  | none=>rfl
  | some p =>
    have:=h j (WP.1 hj).1;simp only[XD,C.ren,Xr,this]
theorem PQ (es:List (Int×List Ek)) (p:Int×List Ek):cv (es++[p]) 0=cv es 0++[(p.1,.own (8*es.length+3) 3 0 p.2.length)]:=by
  have key:∀ (es:List (Int×List Ek)) (b:Nat),cv (es++[p]) b=cv es b++[(p.1,.own (8*(b+es.length)+3) 3 0 p.2.length)]:=by
    intro es
    induction es with
    | nil=>intro b; rfl
    | cons q r ih=>intro b; rw[XF,cv,ih,cv,Xx,show b+1+r.length=b+(r.length+1) by omega,XF]
  rw[key,Xr]
theorem R3 {es:List (Int×List Ek)} {j k:Nat} (hj:j<es.length) (p:Int×List Ek) {g:Nat→Nat} (h:∀ i,i≠j→g (8*i+3)=8*i+3) (hk:g (8*j+3)=k):(cv (es.set j p) 0).map (fun q=>(q.1,q.2.ren g))=(cv es 0).set j (p.1,.own k 3 0 p.2.length):=by
  refine XJ fun i=>?_
  rw[Xv,pk,Yt,Yt,Ho];by_cases e:j=i
  ·subst e;rw[if_pos rfl,if_pos rfl,if_pos hj,if_pos hj];simp only[XD,C.ren,Xr,hk]
  ·rw[if_neg e,if_neg e,pk];cases hi:es[i]? with
   | none=>rfl
   | some q=>simp only[XD,C.ren,Xr,h i (fun q=>e q.symm)]
def iY (n:Nat):Nat→Nat:=fun i=>if i=8*n+3 then 392 else i
theorem px (n:Nat):iY n 1=1:=if_neg (by omega)
theorem lN (n:Nat):iY n (8*n+3)=392:=if_pos rfl
theorem jI {n j:Nat} (h:j≠n):iY n (8*j+3)=8*j+3:=if_neg (by omega)
theorem Hr (n j:Nat):iY n 1≠iY n (8*j+3):=by
  rw[px];by_cases h:j=n
  ·rw[h,lN]; decide
  ·rw[jI h]; omega
theorem E3 {n i j:Nat} (h:iY n (8*i+3)=iY n (8*j+3)):i=j:=by
  by_cases h1:i=n <;> by_cases h2:j=n
  ·omega
  ·rw[h1,lN,jI h2] at h; omega
  ·rw[h2,lN,jI h1] at h; omega
  ·rw[jI h1,jI h2] at h; omega
theorem R4 {σ:St} {fl:List (Nat×V)} {es:List (Int×List Ek)} {k:Int} {x:Ek} (h1:kf σ.f (iY es.length) fl) (hm:σ.h 1=some (.mp .i64 (cv es 0++[(k,.own 392 3 0 1)]))) (hw:σ.h 392=some (.row 3 [aF x]))
    (hr:∀ j,σ.h (8*j+3)=eX es (8*j+3)) (hf:(fl.flatMap fun p=>p.2.ids).all (fun i=>fJ i)=true):dI σ ⟨aQ fl,eX (es++[(k,[x])]),fJ⟩:=by
  refine xk (iY es.length) h1 ?_ (fun j p hp=>?_) (Hr _) (fun i j _ _=>E3) hf
  ·rw[px,hm,PQ,Xc,PP fun j hj=>jI (by omega)];simp only[WH,W8,C.ren,lN,Ym]
  ·by_cases h:j=es.length
   ·subst h;rw[Xb (WM _),Yz] at hp;cases hp;rw[lN,hw]; rfl
   ·rw[jI h,hr,sH];rcases Xd j es.length with h2 | h2
    ·rw[Xl h2] at hp;rw[hp]; rfl
    ·rw[Xb h2,Xm (by simp; omega)] at hp;cases hp
theorem R5 {σ:St} {fl:List (Nat×V)} {es:List (Int×List Ek)} {j0:Nat} {k:Int} {y:List Ek} {x:Ek} (hj:es[j0]?=some (k,y)) (h1:kf σ.f (iY j0) fl) (hm:σ.h 1=some (.mp .i64 ((cv es 0).set j0 (k,.own 392 3 0 (y.length+1))))) (hw:σ.h 392=some (.row 3 (y.map aF++[aF x])))
    (hr:∀ j,j≠j0→σ.h (8*j+3)=eX es (8*j+3)) (hf:(fl.flatMap fun p=>p.2.ids).all (fun i=>fJ i)=true):dI σ ⟨aQ fl,eX (es.set j0 (k,y++[x])),fJ⟩:=by
  have hlt:=(WP.1 hj).1;refine xk (iY j0) h1 ?_ (fun j p hp=>?_) (Hr _) (fun i j _ _=>E3) hf
  ·rw[px,hm,R3 hlt (k,y++[x]) (k:=392) (fun i hi=>jI hi) (lN _),WA]; rfl
  ·rw[Yt] at hp;by_cases h:j0=j
   ·subst h;rw[if_pos rfl,if_pos hlt] at hp;cases hp;rw[lN,hw,Xc]; rfl
   ·rw[if_neg h] at hp;rw[jI fun e=>h e.symm,hr _ fun e=>h e.symm,sH,hp]; rfl
def tA (l:List Ek) (i:Nat):St:=⟨aQ [(4,.w (.c (.d (.sl (l.map aF))))),(6,.w (.c (.mp 1))),(34,.w (.c (.d (.sl (l.map aF))))),(35,.w (.c (.d (.int .i64 (l.length:Int))))),(36,.w (.c (.d (.int .i64 (i:Int)))))],eX (eC l i),fJ⟩
def Lk (l:List Ek) (t:Wk):St:=⟨aQ [(6,.w (.c (.d (cb l)))),(52,.w (.c (.ptr 1 1 0 0)))],hL [(1,.it .i64 t.left t.last)],uL [1]⟩
theorem R6 (l:List Ek) (i:Nat) (hi:i≤l.length):∀ (j:Nat) (p:Int×List Ek),(eC l i)[j]?=some p→p.2.length≤l.length:=by
  intro j p hp;have hm:=XL hp;have h1:=xj (vw l i) (show (p.1,p.2)∈eC l i from hm);rw[yf l i hi] at h1;split at h1
  ·cases h1
  ·rw[← Option.some.inj h1];have:=List.length_filter_le (fun r:Ek=>decide (r.ty=p.1)) (l.take i);rw[WF] at this;unfold au;omega
def rv:aM := .seq (.reg [oO 37 (.bin .lss (.t 36) (.t 35))]) (.seq (.cond (.t 37) (.skip) (.exit 0)) (.seq (.block 1 (.seq (.reg [oO 38 (.idxSl 3 (.t 34) (.t 36)),oO 39 (.load (.ag 3) (.t 38)),oO 8 (.alloc [(.d (.bool false)),(.d (.int .i64 0)),.nil]),oN (.store (.ag 3) (.t 8) (.t 39))]) (.reg [oM 40 6,oO 41 (.fieldAddr 1 (.t 8)),oO 42 (.loadB .sc (.t 41)),oM 43 6,oO 44 (.fieldAddr 1 (.t 8)),oO 45 (.loadB .sc (.t 44)),oO 46 (.mpGet .i64 (.sl []) false (.t 43) (.t 45)),oO 47 (.loadB (.ag 3) (.t 8)),oO 48 (.bldSl false 1 3 (.agg [(.bool false),(.int .i64 0),(.sl [])]) [(0,(.t 47))]),oO 49 (.app false 3 40 (.t 46) (.t 48)),oN (.mpSet .i64 (.t 40) (.t 42) (.t 49))]))) (.reg [oO 50 (.bin .add (.t 36) (kI 1)),oM 36 50])))
def E4:aM := .seq (.nextM 53 (.t 52) [oO 54 (.extract (.t 53) 0)]) (.seq (.cond (.t 54) (.skip) (.exit 2)) (.block 3 (.seq (.reg [oO 55 (.mpEnt (.t 52)),oO 56 (.extract (.t 55) 0),oO 57 (.extract (.t 55) 1),oM 9 56,oM 10 57]) (.seq (.reg [oM 58 9,oM 59 10,oO 60 (.call 108 [(.t 58),(.t 59)] none),oO 61 (.un .not (.t 60))]) (.cond (.t 61) (.seq (.reg [oO 2 (.mv (.k (.c (.d (.mp .i64 []))))),oO 3 (.mv (.k (.c (.d (.bool false)))))]) (.ret)) (.skip))))))
def pz:aE:=⟨1,63,.seq (.reg [oO 2 (.mv (.k (.c (.d (.mp .i64 []))))),oO 3 (.mv (.k (.c (.d (.bool false)))))]) (.seq (.reg [oM 12 0,oO 13 (.call 12 [(.t 12)] none),oM 11 13,oO 14 (.extract (.t 11) 0),oO 15 (.extract (.t 11) 1),oM 4 14,oM 5 15]) (.seq (.seq (.reg [oM 16 5,oO 17 (.bin .neq (.t 16) (kI 0)),oM 18 17,oG 19 (.mv (.t 4)) 18 false,oG 20 (.len (.t 19)) 18 false,oG 21 (.bin .eql (.t 20) (kI 0)) 18 false,oO 22 (.pick (.t 18) (.k (.c (.d (.bool true)))) (.t 21)),oM 23 22,oG 24 (.mv (.t 4)) 23 false,oG 25 (.mv (.t 4)) 23 false,oG 26 (.len (.t 25)) 23 false,oG 27 (.bin .sub (.t 26) (kI 1)) 23 false,oG 28 (.idxSl 3 (.t 24) (.t 27)) 23 false,oG 29 (.fieldAddr 1 (.t 28)) 23 false,oG 30 (.load .sc (.t 29)) 23 false,oG 31 (.bin .neq (.t 30) (kI 0)) 23 false,oO 32 (.pick (.t 23) (.k (.c (.d (.bool true)))) (.t 31))])
 (.cond (.t 32) (.seq (.reg [oO 2 (.mv (.k (.c (.d (.mp .i64 []))))),oO 3 (.mv (.k (.c (.d (.bool false)))))]) (.ret)) (.skip))) (.seq (.reg [oO 33 (.mkMp .i64 none),oM 6 33]) (.seq (.seq (.reg [oM 34 4,oO 35 (.len (.t 34)),oO 36 (.mv (kI 0))]) (.block 0 (.loop rv))) (.seq (.seq (.ghost 6 (.reg [oM 51 6,oO 52 (.mpIter (.t 51))])) (.block 2 (.loop E4))) (.seq (.reg [oM 62 6,oM 2 62,oO 3 (.mv (.k (.c (.d (.bool true)))))]) (.ret))))))),[(2,none),(3,none)]⟩
theorem UN:aC Tryz.prog { own:=[],comp:=[],frz:=[],nils:=[],bx:=[42,45,47],gh:=[(10,6)] } Tryz.f66=some pz:=by kernel_rfl
theorem y7 (G:ah) (b:List UInt8) (hb:b.length≤1000000000):ak Tryz.prog G 66 [.sl (b.map bD)] (.tup [.c (.d (cb (gX b))),.c (.d (.bool (decide (ec b))))]):=by
  refine aG Tryz.func66 UN rfl rfl ?_;have c:=y3 G b hb;have hno:¬ ec b→gX b=[]∧decide (ec b)=false:=fun h=>⟨if_neg h,decide_eq_false h⟩
  by_cases he:cN b=0
  ·obtain⟨q1,q2,q3,q4⟩:=yz he;have hyes:km (aK b)→gX b=aK b∧decide (ec b)=true:=fun h=>⟨if_pos ⟨he,h⟩,decide_eq_true ⟨he,h⟩⟩
   have hno:¬ km (aK b)→gX b=[]∧decide (ec b)=false:=fun h=>hno fun h2=>h h2.2
   have h64:=(jP q1).2.1;have hbo:∀ r∈aK b,r.bo.length≤65535:=fun r hr=>(jg (q4 r hr)).2.2
   have hfm:=UM (aK b);rw[he] at c;generalize aK b=l at *
   by_cases h0:0<l.length
   ·have g:=io (l:=l) (i:=l.length-1) (by omega);have gl:((l.length:Int)=0)=False:=eq_false (by omega);have gt:((l.length:Int)-1).toNat=l.length-1:=by omega
    by_cases h1:(l.getD (l.length-1) default).ty=0
    ·have gty:=eq_true h1;have az:=lA l;obtain⟨R,hR⟩:∃ R,R=l.getD (l.length-1) default:=⟨_,rfl⟩
     rw[← hR] at g gty;have hfm2:km l↔∀ k,au l k≠[]→mq k (au l k)=true:=⟨fun h=>(hfm.1 h).2.2,fun h=>hfm.2 ⟨h0,h1,h⟩⟩
     clear hfm q1 q2 q3 q4 hR h1;obtain⟨Rc,Rt,Rb⟩:=R;dsimp only at gty;simp only[pz,af,ae,aa,seval,iteOmega,toNatUp];refine sC (c) ?_;simp only[gl,gt,aJ,g,aF,gty,cP,ae,aa,seval,iteOmega,toNatUp];refine ba (tA l) (fun i=>l.length-i) (fun i=>i≤l.length) 0 (WI _) ?_ ?_
     ·refine xk (fun i=>if i=1 then 264 else 0) ?_ ?_ (fun j p hp=>by cases hp) (fun j=>?_) (fun i j hi=>by cases hi) rfl
      ·simp only[wx,am,aH,aa,seval,iteOmega,toNatUp,cP,if_true]
      ·simp only[if_true,ae,aa,seval,iteOmega,toNatUp]; rfl
      ·rw[if_pos rfl,if_neg (by omega)]; decide
     ·intro i hi;have u64:fJ 64=false:=yi 8;have u392:fJ 392=false:=yi 49;have h1r:=UB (eC l i);by_cases hlt:i<l.length
      ·have g:=io hlt;have hst:eC l (i+1)=bO (eC l i) (l.getD i default).ty ((aW (eC l i) (l.getD i default).ty).getD []++[l.getD i default]):=rfl;have hln:=R6 l i hi;generalize l.getD i default=x at *
       obtain⟨es,hes⟩:∃ es,es=eC l i:=⟨_,rfl⟩
       rw[← hes] at hst h1r hln;obtain⟨X,hX⟩:∃ X,X=x:=⟨_,rfl⟩
       rcases JY es 0 x.ty with ⟨m1,m2⟩ | ⟨j,y,m1,m2,m3,m4⟩
       ·rw[m2] at hst;rw[XG,XP,wj _ m2,← hX] at hst;have p1:=fun c=>wj (es:=cv es 0) (k:=x.ty) c m1
        obtain⟨xc,xt,xb⟩:=x;dsimp only at *
        simp only[rv,tA,← hes,ae,aa,seval,iteOmega,toNatUp,aJ,g,aF,cP,u64,u392,h1r,m1,p1,bI];refine aS (i+1) (by omega) (by omega) ?_
        show dI _ ⟨aQ _,eX (eC l (i+1)),fJ⟩
        rw[hst,hX];refine R4 ?_ ?_ ?_ (fun j=>by dsimp only; rw[upd_ne _ _ (by omega),upd_ne _ _ (by omega),upd_ne _ _ (by omega),upd_ne _ _ (by omega)]) rfl
        ·simp only[wx,am,aH,aa,seval,iteOmega,toNatUp,cP,px] <;> first | rfl | exact⟨rfl,rfl⟩ | skip
        ·simp only[ae,aa,seval,iteOmega,toNatUp]
        ·simp only[ae,aa,seval,iteOmega,toNatUp,aF]
       ·rw[m1] at hst;rw[Xu,(m4 .nil).2,← hX] at hst;rw[Xr] at m3;have p1:=fun c=>(m4 c).1
        have hyl:=hln j _ m2;dsimp only at hyl;have hrow:eX es (8*j+3)=some (.row 3 (y.map aF)):=by rw[sH,m2]; rfl
        have n1:(8*j+3==64)=false:=by rw[beq_eq_false_iff_ne]; omega
        have n2:(1==8*j+3)=false:=by rw[beq_eq_false_iff_ne]; omega
        have az2:=lA y;obtain⟨xc,xt,xb⟩:=x;dsimp only at *
        simp only[rv,tA,← hes,ae,aa,seval,iteOmega,toNatUp,aJ,g,aF,cP,u64,u392,h1r,m3,p1,bI,n1,n2,hrow];refine aS (i+1) (by omega) (by omega) ?_
        show dI _ ⟨aQ _,eX (eC l (i+1)),fJ⟩
        rw[hst,hX];refine R5 m2 ?_ ?_ ?_ (fun i hi=>by dsimp only; rw[upd_ne _ _ (by omega),upd_ne _ _ (by omega),upd_ne _ _ (by omega),upd_ne _ _ (by omega),upd_ne _ _ (by omega)]) rfl
        ·simp only[wx,am,aH,aa,seval,iteOmega,toNatUp,cP,px] <;> first | rfl | exact⟨rfl,rfl⟩ | skip
        ·simp only[ae,aa,seval,iteOmega,toNatUp]
        ·simp only[ae,aa,seval,iteOmega,toNatUp,aF]
      ·obtain rfl:i=l.length:=by omega
       have u416:fJ 416=false:=yi 52;simp only[rv,tA,ae,aa,seval,iteOmega,toNatUp];refine UA (id:=1) (q:=.i64) (es:=cv (eC l l.length) 0) (ds:=cD l) rfl h1r (NV _) ?_;generalize upd (killAll (eX (eC l l.length)) ((cv (eC l l.length) 0).map (·.2))) 1 none=K;simp only[ae,aa,seval,iteOmega,toNatUp,cP,u416];refine ba (Lk l) (fun t=>t.left.length) (iX l fun k=>mq k (au l k)=true) ⟨cD l,none⟩ (iX.start l _) ?_ ?_
       ·refine aw (fun _=>416) ?_ ?_ rfl rfl <;> simp only[wx,am,aH,aa,seval,iteOmega,toNatUp,cb] <;> first | rfl | exact⟨rfl,rfl⟩ | skip
       ·rintro⟨left,last⟩ hI;simp only[E4,Lk,cb,ae,aa,seval,iteOmega,toNatUp];refine JW (id:=1) (s:=1) (q:=.i64) (left:=left) (last:=last) rfl rfl ?_ ?_
        ·intro hle;obtain⟨e1,e2⟩:=hyes (hfm2.2 fun k hk=>hI.done hle hk);rw[e1,e2];simp only[ae,aa,seval,iteOmega,toNatUp];exact aO
        ·intro j p hj;obtain⟨e1,e2⟩:=Hn (hI.1 p (XL hj));have hnx:=fun h=>hI.next hj h
         have hle:=EZ hj;generalize left.eraseIdx j=left' at *
         clear hj hI;obtain⟨k,d⟩:=p;dsimp only at *
         obtain rfl:d=D.sl ((au l k).map aF):=congrArg Prod.snd e1;clear e1;have hp:=Hq e2;have c2:=VW G k (au l k) hp (by have:=List.length_filter_le (fun r:Ek=>decide (r.ty=k)) l; unfold au; omega) (by have:=hbo _ (XZ.1 (hC hp)).1; unfold au; omega);cases hc:mq k (au l k)
         ·rw[hc] at c2;obtain⟨e1,e3⟩:=hno fun h=>by have:=hfm2.1 h k e2; rw[hc] at this; cases this
          rw[e1,e3,show cD []=[] from rfl];simp only[ae,aa,seval,iteOmega,toNatUp,cP];refine sD (c2) ?_;exact aO
         ·rw[hc] at c2;have hn:=hnx hc;simp only[ae,aa,seval,iteOmega,toNatUp,cP];refine sD (c2) ?_;refine aS (⟨left',some (k,D.sl ((au l k).map aF))⟩:Wk) hle hn (aw (fun _=>1) ?_ ?_ rfl rfl) <;> simp only[wx,am,aH,aa,seval,iteOmega,toNatUp,cb] <;> first | rfl | exact⟨rfl,rfl⟩ | skip
    ·obtain⟨e1,e2⟩:=hno fun h=>h1 (hfm.1 h).2.1
     rw[e1,e2,pj];have gty:=eq_false h1;generalize l.getD (l.length-1) default=R at *
     obtain⟨Rc,Rt,Rb⟩:=R;dsimp only at gty;simp only[pz,af,ae,aa,seval,iteOmega,toNatUp];refine sC (c) ?_;simp only[gl,gt,aJ,g,aF,gty,ae,aa,seval,iteOmega,toNatUp];exact aO
   ·obtain⟨e1,e2⟩:=hno fun h=>h0 (hfm.1 h).1
    rw[e1,e2,pj];have gl:((l.length:Int)=0)=True:=eq_true (by omega);simp only[pz,af,ae,aa,seval,iteOmega,toNatUp];refine sC (c) ?_;simp only[gl,ae,aa,seval,iteOmega,toNatUp];exact aO
  ·obtain⟨e1,e2⟩:=hno fun h=>he h.1
   rw[e1,e2,pj];have g1:(cN b=0)=False:=eq_false he;generalize cN b=e at *
   generalize aK b=l at *
   simp only[pz,af,ae,aa,seval,iteOmega,toNatUp];refine sC (c) ?_;simp only[g1,ae,aa,seval,iteOmega,toNatUp];exact aO
theorem pA {b:List UInt8}:(∀ r∈aK b,r.bo.length≤65535)∧(aK b).length≤64:=by
  by_cases h:cN b=0
  ·obtain⟨h1,h2,h3,h4⟩:=yz h;exact⟨fun r hr=>(jg (h4 r hr)).2.2,(jP h1).2.1⟩
  ·rw[show aK b=[] from if_neg h];exact⟨fun r hr=>(by cases hr),WI _⟩
def fK (r:List Fd) (c:Ch) (v a:Int) (ns:List (List UInt8)) (i:Nat):List Ek:=⟨true,1,aR [v]⟩::⟨true,4,aR [a]⟩::fQ r c v a (ns.take i)
theorem xm {l:List (List UInt8)} {i:Nat} (h:i<l.length):l[i]?=some (l.getD i []):=by
  rw[WB,Wz h]; rfl
theorem AM {l:List (List UInt8)} {i:Nat} (h:i<l.length):l.take (i+1)=l.take i++[l.getD i []]:=by
  rw[Yg,xm h]; rfl
theorem PR {r:List Fd} {c:Ch} {v a:Int} {ns:List (List UInt8)} {i:Nat} (h:i<ns.length):fK r c v a ns (i+1)=fK r c v a ns i++[⟨false,5,mh r a (bw c v a 0) (bw c v a 1) (ns.getD i [])⟩]:=by
  unfold fK fQ;rw[AM h,Xc]; rfl
theorem Hs (r:List Fd) (c:Ch) (v a:Int) (ns:List (List UInt8)) (i:Nat):(fK r c v a ns i).length≤ns.length+2:=by
  unfold fK fQ;simp only[Xx,WJ,WF]; omega
theorem tB (x:ByteArray):x.toList=x.data.toList:=by
  have:=toList_mk x.data.toList
  rwa [XU] at this
theorem R7 {x:ByteArray} (h:x.size=0):jk .neq x ⟨#[]⟩=some (.bool false):=by
  show some (D.bool (!(x.toList==(⟨#[]⟩:ByteArray).toList)))=_
  rw[tB,tB,Xa.1 (show x.data.toList.length=0 from h)];rfl
theorem R8 {x:ByteArray} (h:¬ x.size=0):jk .neq x ⟨#[]⟩=some (.bool true):=by
  show some (D.bool (!(x.toList==(⟨#[]⟩:ByteArray).toList)))=_
  rw[tB,tB,beq_eq_false_iff_ne.2 (fun q:x.data.toList=[]=>h (show x.data.toList.length=0 by rw[q]; rfl))];rfl
theorem nr (b:List UInt8):(dB b).length≤b.length:=by
  unfold dB;split
  ·rw[RE]; omega
  ·exact WI _
theorem Ht (p:dQ):(gG p).length≤3:=by
  unfold gG;simp only[WA];split <;> split <;> simp
theorem J4 {p:dQ} (h:p.ho.size≤255):∀ e∈gG p,0≤e.ty∧e.ty≤7∧e.bo.length≤255:=by
  intro e he;unfold gG at he;rcases WO.1 he with he | he
  ·split at he
   ·cases he
   ·rw[WG.1 he]; exact fV (by decide) h
  ·rcases WO.1 he with he | he
   ·split at he
    ·cases he
    ·rw[WG.1 he]; exact fV (by decide) (by rw[fi]; exact (show 2*1≤255 by decide))
   ·rw[WG.1 he]; exact fV (by decide) (by decide)
theorem VX {p:dQ} {l:List Ek} (h:p.ho.size≤255) (ok:∀ e∈l,0≤e.ty∧e.ty≤7∧e.bo.length≤255) (hl:l.length≤10):cx (l++gG p)=0∧dX (l++gG p)=aY (l++gG p) :=
  tm (fun e he=>(WO.1 he).elim (ok e) (J4 h e)) (by have:=Ht p; rw[WA]; omega)
theorem pS {c:Ch} {v a:Int} (h:dA c) (hv:0≤v∧v≤65535) (ha:0≤a∧a≤65535):gg c v a=0:=by
  have hs:br [v,a]:=fun n hn=>by
    rcases WR.1 hn with rfl | hn
    ·exact hv
    ·rw[WG.1 hn]; exact ha
  unfold gg;rw[if_neg (not_not_intro h),if_neg (not_not_intro hs)]
theorem y8 {r:List Fd} {a:Int} {U W n:List UInt8} (vR:cO r) (ha:0≤a∧a≤65535) (hU:U.length=32) (hW:W.length=32) (h:n.length=16):mh r a U W n=dL (r.getD 0 default) a U W n∧(dL (r.getD 0 default) a U W n).length=104:=by
  have h0:0<r.length:=vR.1;obtain⟨q1,q2,q3⟩:=vR.2.2.1 _ (EM h0);have e:iy r a U W n=0:=by
    unfold iy;rw[if_pos vR,if_neg (by omega),if_neg (by omega),if_neg (by omega)]
  exact⟨if_pos e,(PI q3 q1 q2 ha.1 ha.2 hU hW h).1⟩
theorem UO {r:List Fd} {c:Ch} {v a:Int} {ns:List (List UInt8)} (vR:cO r) (hk:gg c v a=0) (ha:0≤a∧a≤65535) (h16:∀ n∈ns,n.length=16):∀ e∈fK r c v a ns ns.length,0≤e.ty∧e.ty≤7∧e.bo.length≤255:=by
  intro e he;unfold fK at he;rcases WR.1 he with rfl | he
  ·exact fV (by decide) (by rw[fi]; exact (show 2*1≤255 by decide))
  ·rcases WR.1 he with rfl | he
   ·exact fV (by decide) (by rw[fi]; exact (show 2*1≤255 by decide))
   ·rw[XE] at he;obtain⟨n,hn,rfl⟩:=WZ.1 he;obtain⟨q1,q2⟩:=y8 (U:=bw c v a 0) (W:=bw c v a 1) vR ha (mT hk) (mT hk) (h16 n hn);refine fV (by decide) ?_;rw[q1,q2]; decide
def ui (id:Int):Bool:=decide (0≤id∧id≤4294967295)
def rQ:aE:=⟨1,9,.seq (.reg [oO 2 (.mv (.k (.c (.d (.bool false)))))]) (.seq (.reg [oM 3 0,oO 4 (.bin .leq (kI 0) (.t 3)),oM 5 4,oG 6 (.mv (.t 0)) 5 true,oG 7 (.bin .lss (.t 6) (kI 4294967296)) 5 true,oO 8 (.pick (.t 5) (.t 7) (.k (.c (.d (.bool false))))),oM 2 8]) (.ret)),[(2,none)]⟩
theorem R9:aC Tryz.prog { own:=[],comp:=[],frz:=[],nils:=[] } Tryz.f107=some rQ:=by kernel_rfl
theorem UP (G:ah) (id:Int):ak Tryz.prog G 107 [.int .i64 id] (.w (.c (.d (.bool (ui id))))):=by
  refine aG Tryz.func107 R9 rfl rfl ?_;unfold ui;by_cases h1:0≤id
  ·by_cases h2:id<4294967296
   ·have g1:(0≤id)=True:=eq_true h1;have g2:(id<4294967296)=True:=eq_true h2;rw[decide_eq_true (show 0≤id∧id≤4294967295 by omega)];simp only[rQ,af,ae,aa,seval,iteOmega,toNatUp,g1,g2];exact aI
   ·have g1:(0≤id)=True:=eq_true h1;have g2:(id<4294967296)=False:=eq_false h2;rw[decide_eq_false (show ¬ (0≤id∧id≤4294967295) by omega)];simp only[rQ,af,ae,aa,seval,iteOmega,toNatUp,g1,g2];exact aI
  ·have g1:(0≤id)=False:=eq_false h1;rw[decide_eq_false (show ¬ (0≤id∧id≤4294967295) by omega)];simp only[rQ,af,ae,aa,seval,iteOmega,toNatUp,g1];exact aI
def kn (l:List Fd):Nat→List (Int×D)
  | 0=>[]
  | i+1=>bO (kn l i) (l.getD i default).ty (.bool true)
theorem KT (l:List Fd) (y:Int):∀ i,aW (kn l i) y=if ∃ k,k<i∧(l.getD k default).ty=y then some (.bool true) else none
  | 0=>by simp[kn,RX]
  | i+1=>by
    simp only[kn,Hl,KT l y i];by_cases h:y=(l.getD i default).ty
    ·rw[if_pos h,if_pos ⟨i,by omega,h.symm⟩]
    ·rw[if_neg h];by_cases h2:∃ k,k<i∧(l.getD k default).ty=y
     ·obtain⟨k,h3,h4⟩:=h2;rw[if_pos ⟨k,h3,h4⟩,if_pos ⟨k,by omega,h4⟩]
     ·have h5:¬ ∃ k,k<i+1∧(l.getD k default).ty=y:=by
        rintro⟨k,h3,h4⟩;rcases Xd k i with g | g
        ·exact h2 ⟨k,g,h4⟩
        ·obtain rfl:k=i:=by omega
         exact h h4.symm
      rw[if_neg h2,if_neg h5]
def mE:aM := .seq (.reg [oO 21 (.bin .lss (.t 20) (.t 19))]) (.seq (.cond (.t 21) (.skip) (.exit 0)) (.seq (.block 1 (.seq (.reg [oO 22 (.idxSl 2 (.t 18) (.t 20)),oO 23 (.load (.ag 2) (.t 22)),oO 5 (.alloc [(.d (.int .i64 0)),.nil]),oN (.store (.ag 2) (.t 5) (.t 23))]) (.seq (.seq (.reg [oO 24 (.fieldAddr 0 (.t 5)),oO 25 (.load .sc (.t 24)),oO 26 (.call 107 [(.t 25)] none),oO 27 (.un .not (.t 26)),oM 28 27,oG 29 (.mv (.t 3)) 28 false,oG 30 (.fieldAddr 0 (.t 5)) 28 false,oG 31 (.load .sc (.t 30)) 28 false,oG 32 (.mpGet .i64 (.bool false) false (.t 29) (.t 31)) 28 false,oO 33 (.pick (.t 28) (.k (.c (.d (.bool true)))) (.t 32)),oM 34 33,oG 35 (.fieldAddr 1 (.t 5)) 34 false,oG 36 (.load .sc (.t 35)) 34 false,oG 37 (.len (.t 36)) 34 false,oG 38 (.bin .neq (.t 37) (kI 32)) 34 false,oO 39 (.pick (.t 34) (.k (.c (.d (.bool true)))) (.t 38))])
 (.cond (.t 39) (.seq (.reg [oO 2 (.mv (.k (.c (.d (.bool false)))))]) (.ret)) (.skip))) (.reg [oM 40 3,oO 41 (.fieldAddr 0 (.t 5)),oO 42 (.load .sc (.t 41)),oN (.mpSet .i64 (.t 40) (.t 42) (.k (.c (.d (.bool true)))))])))) (.reg [oO 43 (.bin .add (.t 20) (kI 1)),oM 20 43])))
def rR:aE:=⟨1,44,.seq (.reg [oO 1 (.box .roBox (.t 0)),oO 2 (.mv (.k (.c (.d (.bool false)))))]) (.seq (.seq (.reg [oO 6 (.fieldAddr 0 (.t 1)),oO 7 (.load .sc (.t 6)),oO 8 (.len (.t 7)),oO 9 (.bin .lss (.t 8) (kI 1)),oM 10 9,oG 11 (.fieldAddr 0 (.t 1)) 10 false,oG 12 (.load .sc (.t 11)) 10 false,oG 13 (.len (.t 12)) 10 false,oG 14 (.bin .gtr (.t 13) (kI 4)) 10 false,oO 15 (.pick (.t 10) (.k (.c (.d (.bool true)))) (.t 14))]) (.cond (.t 15) (.seq (.reg [oO 2 (.mv (.k (.c (.d (.bool false)))))]) (.ret)) (.skip))) (.seq (.reg [oO 16 (.mkMp .i64 none),oM 3 16]) (.seq (.seq (.reg [oO 17 (.fieldAddr 0 (.t 1)),oO 18 (.load .sc (.t 17)),oO 19 (.len (.t 18)),oO 20 (.mv (kI 0))]) (.block 0 (.loop mE))) (.seq (.reg [oO 2 (.mv (.k (.c (.d (.bool true)))))]) (.ret))))),[(2,none)]⟩
theorem Sa:aC Tryz.prog { own:=[],comp:=[],frz:=[],nils:=[] } Tryz.f65=some rR:=by kernel_rfl
def ot (l:List Fd) (i:Nat):St:=⟨aQ [(3,.w (.c (.mp 1))),(18,.w (.c (.d (.sl (l.map ct))))),(19,.w (.c (.d (.int .i64 (l.length:Int))))),(20,.w (.c (.d (.int .i64 (i:Int)))))],hL [(1,.mp .i64 (gi (kn l i)))],uL [1]⟩
set_option maxHeartbeats 3200000 in
theorem J5 (G:ah) (l:List Fd) (hl:l.length≤9223372036854775807):ak Tryz.prog G 65 [bR l] (.w (.c (.d (.bool (decide (cO l)))))):=by
  refine aG Tryz.func65 Sa rfl rfl ?_;unfold bR;rcases Xd l.length 1 with h1 | h1
  ·have hno:¬ cO l:=fun h=>by have:=h.1; omega
   rw[decide_eq_false hno];simp only[rR,af,ae,aa,seval,iteOmega,toNatUp];exact aI
  ·rcases Xd 4 l.length with h4 | h4
   ·have hno:¬ cO l:=fun h=>by have:=h.2.1; omega
    have g4:((l.length:Int)>4)=True:=eq_true (by omega);rw[decide_eq_false hno];simp only[rR,af,ae,aa,seval,iteOmega,toNatUp,g4];exact aI
   ·have g4:((l.length:Int)>4)=False:=eq_false (by omega);simp only[rR,af,ae,aa,seval,iteOmega,toNatUp,cP,g4];refine ba (ot l) (fun i=>l.length-i) (fun i=>i≤l.length∧∀ j,j<i→ij (l.getD j default)∧∀ k,k<j→(l.getD k default).ty≠(l.getD j default).ty) 0 ⟨WI _,fun j hj=>by omega⟩ ?_ ?_
    ·refine aw (fun i=>128) ?_ ?_ rfl rfl <;> simp only[wx,am,aH,aa,seval,iteOmega,toNatUp,kn,cP]
    ·rintro i ⟨hi,hok⟩;by_cases hlt:i<l.length
     ·have g:=me hlt;have hno:¬ ij (l.getD i default)→¬ cO l:=fun h hr=>h (lM hr hlt).1
      have hno2:∀ k,k<i→(l.getD k default).ty=(l.getD i default).ty→¬ cO l:=fun k hk e hr=>(lM hr hlt).2 k hk e
      have hgo:ij (l.getD i default)→(∀ k,k<i→(l.getD k default).ty≠(l.getD i default).ty)→∀ j,j<i+1→ij (l.getD j default)∧∀ k,k<j→(l.getD k default).ty≠(l.getD j default).ty:=fun a b j hj=>by
        rcases Xd j i with h | h
        ·exact hok j h
        ·obtain rfl:j=i:=by omega
         exact⟨a,b⟩
      have hms:=KT l (l.getD i default).ty i;have hst:kn l (i+1)=bO (kn l i) (l.getD i default).ty (.bool true):=rfl;have ci:=UP G (l.getD i default).ty;by_cases h0:0≤(l.getD i default).ty∧(l.getD i default).ty≤4294967295
      ·rw[show ui (l.getD i default).ty=true from decide_eq_true h0] at ci;by_cases h5:∃ k,k<i∧(l.getD k default).ty=(l.getD i default).ty
       ·obtain⟨k,h6,h7⟩:=h5;rw[if_pos ⟨k,h6,h7⟩] at hms;rw[decide_eq_false (hno2 k h6 h7)];simp only[mE,ot,ae,aa,seval,iteOmega,toNatUp,cP,aJ,g,ct];refine sC (ci) ?_;simp only[cP,hms,ae,aa,seval,iteOmega,toNatUp];exact aI
       ·rw[if_neg h5] at hms;by_cases h3:(l.getD i default).da.length=32
        ·simp only[mE,ot,ae,aa,seval,iteOmega,toNatUp,cP,aJ,g,ct];refine sC (ci) ?_;simp only[cP,hms,h3,ae,aa,seval,iteOmega,toNatUp];refine aS (i+1) (by omega) ⟨by omega,hgo ⟨by omega,by omega,h3⟩ fun k hk e=>h5 ⟨k,hk,e⟩⟩ (aw (fun _=>1) ?_ ?_ rfl (by simp only[WQ,Yx,Ob.ids,xi]; rfl)) <;> simp only[wx,am,aH,aa,seval,iteOmega,toNatUp,cP,kn]
        ·rw[decide_eq_false (hno fun h=>h3 h.2.2)];have h4':(((l.getD i default).da.length:Int)=32)=False:=eq_false (by omega);simp only[mE,ot,ae,aa,seval,iteOmega,toNatUp,cP,aJ,g,ct];refine sC (ci) ?_;simp only[cP,hms,h4',ae,aa,seval,iteOmega,toNatUp];exact aI
      ·rw[show ui (l.getD i default).ty=false from decide_eq_false h0] at ci;rw[decide_eq_false (hno fun h=>h0 ⟨h.1,h.2.1⟩)];simp only[mE,ot,ae,aa,seval,iteOmega,toNatUp,cP,aJ,g,ct];refine sD (ci) ?_;exact aI
     ·obtain rfl:i=l.length:=by omega
      rw[decide_eq_true (JC (by omega) (by omega) hok)];simp only[mE,ot,ae,aa,seval,iteOmega,toNatUp,cP];exact aI
def kG:aE:=⟨4,71,.seq (.reg [oO 4 (.box .roBox (.t 0)),oO 6 (.box .roBox (.t 2)),oO 8 (.mv (.k (.c .nil))),oO 9 (.mv (kI 0))]) (.seq (.seq (.reg [oO 14 (.load (.ag 1) (.t 4)),oO 15 (.call 65 [(.t 14)] none),oO 16 (.un .not (.t 15))]) (.cond (.t 16) (.seq (.reg [oO 8 (.mv (.k (.c .nil))),oO 9 (.mv (kI 3))]) (.ret)) (.skip))) (.seq (.seq (.reg [oM 17 1,oO 18 (.bin .lss (.t 17) (kI 0)),oM 19 18,oG 20 (.mv (.t 1)) 19 false,oG 21 (.bin .geq (.t 20) (kI 65536)) 19 false,oO 22 (.pick (.t 19) (.k (.c (.d (.bool true)))) (.t 21))]) (.cond (.t 22) (.seq (.reg [oO 8 (.mv (.k (.c .nil))),oO 9 (.mv (kI 4))]) (.ret)) (.skip))) (.seq (.seq (.reg [oO 23 (.fieldAddr 0 (.t 6)),oO 24 (.load .sc (.t 23)),oO 25 (.len (.t 24)),oO 26 (.bin .neq (.t 25) (kI 32)),oM 27 26,oG 28 (.fieldAddr 1 (.t 6)) 27 false,
 oG 29 (.load .sc (.t 28)) 27 false,oG 30 (.len (.t 29)) 27 false,oG 31 (.bin .neq (.t 30) (kI 32)) 27 false,oO 32 (.pick (.t 27) (.k (.c (.d (.bool true)))) (.t 31))]) (.cond (.t 32) (.seq (.reg [oO 8 (.mv (.k (.c .nil))),oO 9 (.mv (kI 5))]) (.ret)) (.skip))) (.seq (.seq (.reg [oM 33 3,oO 34 (.len (.t 33)),oO 35 (.bin .neq (.t 34) (kI 16))]) (.cond (.t 35) (.seq (.reg [oO 8 (.mv (.k (.c .nil))),oO 9 (.mv (kI 3))]) (.ret)) (.skip))) (.seq (.reg [oO 36 (.fieldAddr 0 (.t 4)),oO 37 (.load .sc (.t 36)),oO 38 (.idxSl 2 (.t 37) (kI 0)),oO 39 (.fieldAddr 0 (.t 38)),oO 40 (.load .sc (.t 39)),oO 41 (.conv .u64 (.t 40)),oO 42 (.call 91 [(.t 41),(kI 4)] none),oM 10 42]) (.seq (.reg [oM 43 1,oO 44 (.conv .u64 (.t 43)),oO 45 (.call 91 [(.t 44),(kI 2)] none),oO 46 (.call 91 [(.k (.c (.d (.int .u64 0)))),(kI 2)] none),
 oO 47 (.fieldAddr 0 (.t 6)),oO 48 (.load .sc (.t 47)),oO 49 (.fieldAddr 1 (.t 6)),oO 50 (.load .sc (.t 49)),oO 51 (.bldSl false 4 1 (.sl []) [(0,(.t 45)),(1,(.t 46)),(2,(.t 48)),(3,(.t 50))]),oO 52 (.call 90 [(.t 51)] none),oM 11 52]) (.seq (.reg [oO 54 (.fieldAddr 0 (.t 4)),oO 55 (.load .sc (.t 54)),oO 56 (.idxSl 2 (.t 55) (kI 0)),oO 57 (.fieldAddr 1 (.t 56)),oO 58 (.load .sc (.t 57)),oM 59 10,oM 60 3,oO 61 (.bldSl false 2 1 (.sl []) [(0,(.t 59)),(1,(.t 60))]),oM 62 11,oO 63 (.call 92 [(.t 58),(.t 61),(.t 62)] none),oM 53 63,oO 64 (.extract (.t 53) 0),oO 65 (.extract (.t 53) 1),oM 12 64,oM 13 65]) (.seq (.reg [oM 66 10,oM 67 3,oM 68 12,oO 69 (.bldSl false 3 1 (.sl []) [(0,(.t 66)),(1,(.t 67)),(2,(.t 68))]),oO 70 (.call 90 [(.t 69)] none),oM 8 70,oO 9 (.mv (kI 0))]) (.ret))))))))),[(8,none),(9,none)]⟩
theorem Sb:aC Tryz.prog { own:=[],comp:=[],frz:=[],nils:=[] } Tryz.f112=some kG:=by kernel_rfl
set_option maxHeartbeats 3200000 in
theorem UQ (G:ah) (l:List Fd) (algo:Int) (up dn nonce:List UInt8) (hl:l.length≤9223372036854775807):ak Tryz.prog G 112 [bR l,.int .i64 algo,gI up dn,.sl (nonce.map bD)] (.tup [.c (.d (.sl ((mh l algo up dn nonce).map bD))),.c (.d (.int .i64 (iy l algo up dn nonce)))]):=by
  refine aG Tryz.func112 Sb rfl rfl ?_;have c1:=J5 G l hl;by_cases hr:cO l
  ·rw[decide_eq_true hr] at c1;have e0:iy l algo up dn nonce=if algo<0∨65535<algo then 4 else if up.length≠32∨dn.length≠32 then 5 else if nonce.length≠16 then 3 else 0:=if_pos hr
   rcases Int.lt_or_le algo 0 with h1 | h1
   ·have e:iy l algo up dn nonce=4:=by rw[e0,if_pos (.inl h1)]
    rw[nk e (by decide),e];unfold bR gI at *
    simp only[kG,af,ae,aa,seval,iteOmega,toNatUp];refine sD (c1) ?_;exact aO
   ·rcases Int.lt_or_le 65535 algo with h2 | h2
    ·have e:iy l algo up dn nonce=4:=by rw[e0,if_pos (.inr h2)]
     have g2:(algo≥65536)=True:=eq_true (by omega);rw[nk e (by decide),e];unfold bR gI at *
     simp only[kG,af,ae,aa,seval,iteOmega,toNatUp];refine sC (c1) ?_;simp only[g2,ae,aa,seval,iteOmega,toNatUp];exact aO
    ·have g2:(algo≥65536)=False:=eq_false (by omega);rw[if_neg (by omega)] at e0;by_cases h3:up.length=32
     ·by_cases h4:dn.length=32
      ·rw[if_neg (by omega)] at e0;by_cases h5:nonce.length=16
       ·rw[if_neg (by omega)] at e0;have eB:mh l algo up dn nonce=dL (l.getD 0 default) algo up dn nonce:=if_pos e0;rw[e0,eB];have g0:=me (l:=l) (i:=0) (by have:=hr.1; omega);obtain⟨⟨m1,m2,m3⟩,_⟩:=lM hr (i:=0) (by have:=hr.1; omega);have r1:=hr.1;clear e0 eB;generalize l.getD 0 default=m at *
        have hp:=G1 algo h3 h4;have hi:(ez m).length=4:=bW _ _;have ha:dc m.da [ez m,nonce] ((fc algo up dn).length:Int)=0:=Ez m3 (by simp) (fun x hx=>by simp at hx; rcases hx with rfl | rfl <;> omega) (by omega);have hs:(gL m.da [ez m,nonce] (fc algo up dn)).length=84:=by rw[v6 ha,WA,ku,q7,hp]
        have d1:=ng G m.ty.toNat 4 (by decide);rw[show (4:Int).toNat=4 from rfl,show aN m.ty.toNat 4=ez m from rfl,show ((m.ty.toNat:Nat):Int)=m.ty by omega] at d1;have d2:=ng G algo.toNat 2 (by decide);rw[show (2:Int).toNat=2 from rfl,show ((algo.toNat:Nat):Int)=algo by omega] at d2;have d0:=ng G 0 2 (by decide);rw[show aN 0 (2:Int).toNat=[0,0] from by decide] at d0;have d3:=fo G [aN algo.toNat 2,[0,0],up,dn] (by simp) (by rw[EQ]; omega);rw[EQ] at d3;have d4:=TD G m.da [ez m,nonce] (fc algo up dn) (by omega) (by simp) (fun x hx=>by simp at hx; rcases hx with rfl | rfl <;> omega) (by omega);rw[ha] at d4;have d5:=fo G [ez m,nonce,gL m.da [ez m,nonce] (fc algo up dn)] (by simp) (by simp only[Yu,X7,WA,XY,hi,h5,hs]; omega);rw[RR] at d5;unfold cT at d4;generalize dL m algo up dn nonce=B at *
        generalize gL m.da [ez m,nonce] (fc algo up dn)=S at *
        generalize fc algo up dn=P at *
        generalize ez m=I at *
        generalize aN algo.toNat 2=A at *
        simp only[WH,W8] at d0 d3 d4 d5;have haz:=vN l;unfold bR gI at *
        simp only[kG,af,ae,aa,seval,iteOmega,toNatUp];refine sC (c1) ?_;simp only[g2,h3,h4,h5,aJ,g0,haz,ct,ae,aa,seval,iteOmega,toNatUp];refine sD (d1) ?_;refine sD (d2) ?_;refine sD (d0) ?_;refine bi d3 (by simp only[ae,aa,seval,iteOmega,toNatUp] <;> rfl) (.inl rfl) ?_;simp only[ae,aa,seval,iteOmega,toNatUp,aJ,g0,haz,ct];refine sD (d4) ?_;refine sD (d5) ?_;exact aO
       ·rw[if_pos h5] at e0;rw[nk e0 (by decide),e0];unfold bR gI at *
        simp only[kG,af,ae,aa,seval,iteOmega,toNatUp];refine sC (c1) ?_;simp only[g2,h3,h4,ae,aa,seval,iteOmega,toNatUp];exact aO
      ·have e:iy l algo up dn nonce=5:=by rw[e0,if_pos (.inr h4)]
       rw[nk e (by decide),e];unfold bR gI at *
       simp only[kG,af,ae,aa,seval,iteOmega,toNatUp];refine sC (c1) ?_;simp only[g2,h3,ae,aa,seval,iteOmega,toNatUp];exact aO
     ·have e:iy l algo up dn nonce=5:=by rw[e0,if_pos (.inl h3)]
      rw[nk e (by decide),e];unfold bR gI at *
      simp only[kG,af,ae,aa,seval,iteOmega,toNatUp];refine sC (c1) ?_;simp only[g2,ae,aa,seval,iteOmega,toNatUp];exact aO
  ·rw[decide_eq_false hr] at c1;have e:iy l algo up dn nonce=3:=if_neg hr;rw[nk e (by decide),e];unfold bR gI at *
   simp only[kG,af,ae,aa,seval,iteOmega,toNatUp];refine sD (c1) ?_;exact aO
set_option maxHeartbeats 6400000
def J6:aE:=⟨1,13,.seq (.reg [oO 2 (.mv (.k (.c .nil))),oO 3 (.mv (kI 0))]) (.seq (.reg [oM 4 0,oO 5 (.bldSl false 1 1 (.int .i64 0) [(0,(.t 4))]),oO 6 (.call 53 [(.t 5)] none),oO 7 (.call 52 [(kI 2),(.t 6)] none),oO 8 (.call 52 [(kI 0),(.k (.c .nil))] none),oO 9 (.bldSl false 2 3 (.agg [(.bool false),(.int .i64 0),(.sl [])]) [(0,(.t 7)),(1,(.t 8))]),oO 10 (.call 10 [(.t 9)] none),oO 11 (.extract (.t 10) 0),oO 12 (.extract (.t 10) 1),oM 2 11,oM 3 12]) (.ret)),[(2,none),(3,none)]⟩
theorem UR:aC Tryz.prog { own:=[],comp:=[],frz:=[],nils:=[] } Tryz.f68=some J6:=by kernel_rfl
theorem y9 (G:ah) (k:Int) (hk:0≤k∧k≤65535):ak Tryz.prog G 68 [.int .i64 k] (.tup [.c (.d (.sl ((gF k).map bD))),.c (.d (.int .i64 0))]):=by
  refine aG Tryz.func68 UR rfl rfl ?_;have hs:br [k]:=fun n hn=>by rw[WG.1 hn]; exact hk
  have c1:=lV G [k] (by simp) hs;simp only[WH,W8,zD] at c1;have c2:=ik G 2 (aR [k]);have c3:=ik G 0 [];have bl:(aR [k]).length=2:=fi _;obtain⟨q1,q2⟩:=tm (l:=[⟨true,2,aR [k]⟩,⟨true,0,[]⟩]) (by
    intro r hr;simp only[WR,Yj,or_false] at hr;rcases hr with rfl | rfl
    ·exact fV (by decide) (by omega)
    ·exact fV (by decide) (by decide)) (by simp)
  have c4:=tq G [⟨true,2,aR [k]⟩,⟨true,0,[]⟩] (by simp) (by
    intro r hr;simp only[WR,Yj,or_false] at hr;rcases hr with rfl | rfl
    ·dsimp only; omega
    ·simp)
  rw[q1,q2] at c4;have hR:gF k=aY [⟨true,2,aR [k]⟩,⟨true,0,[]⟩]:=rfl;rw[← hR] at c4;simp only[WH,W8,aF] at c4 c3;clear q1 q2 hR;generalize gF k=R at *
  generalize aR [k]=B at *
  simp only[J6,af,ae,aa,seval,iteOmega,toNatUp];refine sD (c1) ?_;refine sD (c2) ?_;refine sD (c3) ?_;refine sD (c4) ?_;exact aO
def ju (ns:List (List UInt8)):Prop:=(∀ n∈ns,n.length=16)∧1≤ns.length∧ns.length≤8
instance (ns:List (List UInt8)):Decidable (ju ns):=by unfold ju; infer_instance
def nK (ns:List (List UInt8)) (i:Nat):St:=⟨aQ [(0,.w (.c (.d (cT ns)))),(5,.w (.c (.d (cT ns)))),(6,.w (.c (.d (.int .i64 (ns.length:Int))))),(7,.w (.c (.d (.int .i64 (i:Int)))))],hL [],uL []⟩
def mN:aM := .seq (.reg [oO 8 (.bin .lss (.t 7) (.t 6))]) (.seq (.cond (.t 8) (.skip) (.exit 0)) (.seq (.block 1 (.seq (.reg [oO 9 (.idxSl 1 (.t 5) (.t 7)),oO 10 (.load .sc (.t 9)),oM 4 10]) (.seq (.reg [oM 11 4,oO 12 (.len (.t 11)),oO 13 (.bin .neq (.t 12) (kI 16))]) (.cond (.t 13) (.seq (.reg [oO 2 (.mv (.k (.c (.d (.bool false)))))]) (.ret)) (.skip))))) (.reg [oO 14 (.bin .add (.t 7) (kI 1)),oM 7 14])))
def J7:aE:=⟨1,23,.seq (.reg [oO 2 (.mv (.k (.c (.d (.bool false)))))]) (.seq (.seq (.reg [oM 5 0,oO 6 (.len (.t 5)),oO 7 (.mv (kI 0))]) (.block 0 (.loop mN))) (.seq (.reg [oM 15 0,oO 16 (.len (.t 15)),oO 17 (.bin .geq (.t 16) (kI 1)),oM 18 17,oG 19 (.mv (.t 0)) 18 true,oG 20 (.len (.t 19)) 18 true,oG 21 (.bin .leq (.t 20) (kI 8)) 18 true,oO 22 (.pick (.t 18) (.t 21) (.k (.c (.d (.bool false))))),oM 2 22]) (.ret))),[(2,none)]⟩
theorem US:aC Tryz.prog { own:=[],comp:=[],frz:=[],nils:=[] } Tryz.f70=some J7:=by kernel_rfl
theorem VY (G:ah) (ns:List (List UInt8)) (hn:ns.length≤1000000):ak Tryz.prog G 70 [cT ns] (.w (.c (.d (.bool (decide (ju ns)))))):=by
  refine aG Tryz.func70 US rfl rfl ?_;simp only[J7,af,ae,aa,seval,iteOmega,toNatUp];refine ba (nK ns) (fun i=>ns.length-i) (fun i=>i≤ns.length∧∀ n∈ns.take i,n.length=16) 0 ⟨WI _,by rw[Xq]; exact fun n h=>by cases h⟩ ?_ ?_
  ·refine aw (fun _=>0) ?_ ?_ rfl rfl <;> simp only[wx,am,aH,aa,seval,iteOmega,toNatUp] <;> first | rfl | exact⟨rfl,rfl⟩ | skip
  ·rintro i ⟨hi,hp⟩;by_cases hlt:i<ns.length
   ·have g:=xm hlt;have hm:ns.getD i []∈ns:=by rw[WB,Wz hlt]; exact W9 hlt
    have hs:=AM hlt;generalize ns.getD i []=x at *
    by_cases h1:x.length=16
    ·have g1:((x.length:Int)=16)=True:=eq_true (by omega);have hn:∀ n∈ns.take (i+1),n.length=16:=by
       rw[hs];intro n q;rcases WO.1 q with q | q
       ·exact hp n q
       ·rw[WG.1 q]; exact h1
     simp only[mN,nK,ae,aa,seval,iteOmega,toNatUp,aJ,g,g1];refine aS (i+1) (by omega) ⟨by omega,hn⟩ (aw (fun i=>i) ?_ ?_ rfl rfl) <;> simp only[wx,am,aH,aa,seval,iteOmega,toNatUp] <;> first | rfl | exact⟨rfl,rfl⟩ | skip
    ·have g1:((x.length:Int)=16)=False:=eq_false (by omega);rw[decide_eq_false (fun q:ju ns=>h1 (q.1 x hm))];simp only[mN,nK,ae,aa,seval,iteOmega,toNatUp,aJ,g,g1];exact aI
   ·rw[WE (by omega)] at hp;by_cases h1:1≤ns.length
    ·have g1:((ns.length:Int)≥1)=True:=eq_true (by omega);by_cases h2:ns.length≤8
     ·have g2:((ns.length:Int)≤8)=True:=eq_true (by omega);rw[decide_eq_true (show ju ns from ⟨hp,h1,h2⟩)];simp only[mN,nK,ae,aa,seval,iteOmega,toNatUp,g1,g2];exact aI
     ·have g2:((ns.length:Int)≤8)=False:=eq_false (by omega);rw[decide_eq_false (fun q:ju ns=>h2 q.2.2)];simp only[mN,nK,ae,aa,seval,iteOmega,toNatUp,g1,g2];exact aI
    ·have g1:((ns.length:Int)≥1)=False:=eq_false (by omega);rw[decide_eq_false (fun q:ju ns=>h1 q.2.1)];simp only[mN,nK,ae,aa,seval,iteOmega,toNatUp,g1];exact aI
def ln (p:dQ):List Ek:=(if p.ho.size=0 then [] else [⟨true,6,p.ho.data.toList⟩])++(if p.pt=0 then [] else [⟨true,7,aR [p.pt]⟩])
theorem za (p:dQ):ln p++[⟨true,0,[]⟩]=gG p:=by unfold ln gG; rw[W7]
def pB:aE:=⟨1,26,.seq (.reg [oO 1 (.box .roBox (.t 0)),oO 2 (.mv (.k (.c .nil)))]) (.seq (.reg [oO 3 (.mv (.k (.c .nil)))]) (.seq (.seq (.reg [oO 4 (.fieldAddr 2 (.t 1)),oO 5 (.load .sc (.t 4)),oO 6 (.bin .neq (.t 5) (.k (.c (.d (.str ⟨#[]⟩)))))]) (.cond (.t 6) (.reg [oM 7 3,oO 8 (.fieldAddr 2 (.t 1)),oO 9 (.load .sc (.t 8)),oO 10 (.s2b false (.t 9)),oO 11 (.call 52 [(kI 6),(.t 10)] none),oO 12 (.bldSl false 1 3 (.agg [(.bool false),(.int .i64 0),(.sl [])]) [(0,(.t 11))]),oO 13 (.app false 3 40 (.t 7) (.t 12)),oM 3 13]) (.skip))) (.seq (.seq (.reg [oO 14 (.fieldAddr 3 (.t 1)),oO 15 (.load .sc (.t 14)),oO 16 (.bin .neq (.t 15) (kI 0))]) (.cond (.t 16) (.reg [oM 17 3,oO 18 (.fieldAddr 3 (.t 1)),oO 19 (.load .sc (.t 18)),oO 20 (.bldSl false 1 1 (.int .i64 0) [(0,(.t 19))]),oO 21 (.call 53 [(.t 20)] none),
 oO 22 (.call 52 [(kI 7),(.t 21)] none),oO 23 (.bldSl false 1 3 (.agg [(.bool false),(.int .i64 0),(.sl [])]) [(0,(.t 22))]),oO 24 (.app false 3 40 (.t 17) (.t 23)),oM 3 24]) (.skip))) (.seq (.reg [oM 25 3,oM 2 25]) (.ret))))),[(2,none)]⟩
theorem UT:aC Tryz.prog { own:=[],comp:=[],frz:=[],nils:=[] } Tryz.f72=some pB:=by kernel_rfl
theorem VZ (G:ah) (p:dQ) (h:p.ho.size≤1000000) (hs:br [p.pt]):ak Tryz.prog G 72 [eV p] (.w (.c (.d (.sl ((ln p).map aF))))):=by
  refine aG Tryz.func72 UT rfl rfl ?_;have c1:=ik G 6 p.ho.data.toList;have c2:=lV G [p.pt] (by simp) hs;simp only[WH,W8,zD] at c2;have c3:=ik G 7 (aR [p.pt]);have sd:p.ho.size≤maxLen:=by unfold maxLen; omega
  unfold eV ln;by_cases h1:p.ho.size=0
  ·have e1:=R7 h1;rw[if_pos h1];by_cases h2:p.pt=0
   ·have g2:=eq_true h2;rw[if_pos h2];simp only[pB,af,aF,ae,aa,seval,iteOmega,toNatUp,e1,g2,sd];exact aI
   ·have g2:=eq_false h2;rw[if_neg h2];simp only[pB,af,aF,ae,aa,seval,iteOmega,toNatUp,e1,g2,sd];refine sD (c2) ?_;refine sC (c3) ?_;simp only[bI,ae,aa,seval,iteOmega,toNatUp];exact aI
  ·have e1:=R8 h1;rw[if_neg h1];by_cases h2:p.pt=0
   ·have g2:=eq_true h2;rw[if_pos h2];simp only[pB,af,aF,ae,aa,seval,iteOmega,toNatUp,e1,g2,sd];refine sC (c1) ?_;simp only[bI,g2,ae,aa,seval,iteOmega,toNatUp];exact aI
   ·have g2:=eq_false h2;rw[if_neg h2];simp only[pB,af,aF,ae,aa,seval,iteOmega,toNatUp,e1,g2,sd];refine sC (c1) ?_;simp only[bI,g2,ae,aa,seval,iteOmega,toNatUp];refine sD (c2) ?_;refine sC (c3) ?_;simp only[bI,ae,aa,seval,iteOmega,toNatUp];exact aI
def zb (r:List Fd) (c:Ch) (v a:Int) (ns:List (List UInt8)) (i:Nat):St:=⟨aQ [(6,.w (.c (.rp [.sl (r.map ct)]))),(13,.w (.c (.own 1 3 0 (fK r c v a ns i).length))),(14,.w (.c (.d (.int .i64 a)))),(15,.w (.c (.ptr 2 1 0 0))),(66,.w (.c (.d (cT ns)))),(67,.w (.c (.d (.int .i64 (ns.length:Int))))),(68,.w (.c (.d (.int .i64 (i:Int)))))],
  hL [(1,.row 3 ((fK r c v a ns i).map aF)),(2,.box [.d (.sl ((bw c v a 0).map bD)),.d (.sl ((bw c v a 1).map bD))])],uL [1,2]⟩
def wk:aM := .seq (.reg [oO 69 (.bin .lss (.t 68) (.t 67))]) (.seq (.cond (.t 69) (.skip) (.exit 0)) (.seq (.block 1 (.seq (.reg [oO 70 (.idxSl 1 (.t 66) (.t 68)),oO 71 (.load .sc (.t 70)),oM 18 71]) (.seq (.reg [oO 73 (.load (.ag 1) (.t 6)),oM 74 14,oO 75 (.load (.ag 2) (.t 15)),oM 76 18,oO 77 (.call 112 [(.t 73),(.t 74),(.t 75),(.t 76)] none),oM 72 77,oO 78 (.extract (.t 72) 0),oO 79 (.extract (.t 72) 1),oM 19 78,oM 20 79]) (.reg [oM 80 13,oM 81 19,oO 82 (.build [(.d (.bool false)),(.d (.int .i64 0)),.nil] [(1,1,(kI 5)),(2,1,(.t 81))]),oO 83 (.bldSl false 1 3 (.agg [(.bool false),(.int .i64 0),(.sl [])]) [(0,(.t 82))]),oO 84 (.app false 3 40 (.t 80) (.t 83)),oM 13 84])))) (.reg [oO 85 (.bin .add (.t 68) (kI 1)),oM 68 85])))
def sI:aE:=⟨5,87,.seq (.reg [oO 5 (.box .roBox (.t 0)),oO 6 (.box .roBox (.t 1)),oO 7 (.box .roBox (.t 2)),oO 10 (.mv (.k (.c .nil)))]) (.seq (.reg [oM 22 3,oO 23 (.call 111 [(.t 22),(kI 1)] none),oO 24 (.fieldAddr 0 (.t 5)),oO 25 (.load .sc (.t 24)),oO 26 (.call 18 [(.t 23),(.t 25)] none),oM 21 26,oO 27 (.extract (.t 21) 0),oO 28 (.extract (.t 21) 1),oM 11 27,oM 12 28]) (.seq (.seq (.reg [oM 29 12,oO 30 (.un .not (.t 29))]) (.cond (.t 30) (.seq (.reg [oO 31 (.call 52 [(kI 1),(.k (.c .nil))] none),oO 32 (.bldSl true 1 3 (.agg [(.bool false),(.int .i64 0),(.sl [])]) [(0,(.t 31))]),oM 10 32]) (.ret)) (.skip))) (.seq (.reg [oM 33 11,oO 34 (.bldSl false 1 1 (.int .i64 0) [(0,(.t 33))]),oO 35 (.call 53 [(.t 34)] none),oO 36 (.call 52 [(kI 1),(.t 35)] none),oO 37 (.bldSl true 1 3 (.agg [(.bool false),(.int .i64 0),(.sl [])]) [(0,(.t 36))]),
 oM 13 37]) (.seq (.reg [oM 39 3,oO 40 (.call 111 [(.t 39),(kI 4)] none),oO 41 (.fieldAddr 1 (.t 5)),oO 42 (.load .sc (.t 41)),oO 43 (.call 18 [(.t 40),(.t 42)] none),oM 38 43,oO 44 (.extract (.t 38) 0),oO 45 (.extract (.t 38) 1),oM 14 44,oM 12 45]) (.seq (.seq (.reg [oM 46 12,oO 47 (.un .not (.t 46))]) (.cond (.t 47) (.seq (.reg [oM 48 13,oO 49 (.call 52 [(kI 4),(.k (.c .nil))] none),oO 50 (.bldSl false 1 3 (.agg [(.bool false),(.int .i64 0),(.sl [])]) [(0,(.t 49))]),oO 51 (.app false 3 40 (.t 48) (.t 50)),oM 10 51]) (.ret)) (.skip))) (.seq (.reg [oM 52 13,oM 53 14,oO 54 (.bldSl false 1 1 (.int .i64 0) [(0,(.t 53))]),oO 55 (.call 53 [(.t 54)] none),oO 56 (.call 52 [(kI 4),(.t 55)] none),oO 57 (.bldSl false 1 3 (.agg [(.bool false),(.int .i64 0),(.sl [])]) [(0,(.t 56))]),oO 58 (.app false 3 40 (.t 52) (.t 57)),
 oM 13 58]) (.seq (.reg [oO 60 (.load (.ag 6) (.t 7)),oM 61 11,oM 62 14,oO 63 (.call 26 [(.t 60),(.t 61),(.t 62)] none),oM 59 63,oO 64 (.extract (.t 59) 0),oO 65 (.extract (.t 59) 1),oO 15 (.alloc [.nil,.nil]),oN (.store (.ag 2) (.t 15) (.t 64)),oM 16 65]) (.seq (.seq (.reg [oM 66 4,oO 67 (.len (.t 66)),oO 68 (.mv (kI 0))]) (.block 0 (.loop wk))) (.seq (.reg [oM 86 13,oM 10 86]) (.ret)))))))))),[(10,none)]⟩
theorem UU:aC Tryz.prog { own:=[32,37],comp:=[],frz:=[],nils:=[] } Tryz.f71=some sI:=by kernel_rfl
theorem V0 (G:ah) (hF:G.at 0=some (.ra (cU.map wD))) (hG:G.at 1=some (.ra (bF.map wD))) (p:dQ) (r:List Fd) (c:Ch) (l:List Ek) (ns:List (List UInt8)) (h1:p.pr.length≤1000000) (h2:p.al.length≤1000000) (hr:r.length≤1000000) (hb:∀ r∈l,r.bo.length≤65535) (hn:ns.length≤8)
    (vC:dA c) (s1:br p.pr) (s2:br p.al):ak Tryz.prog G 71 [eV p,bR r,bB c,cb l,cT ns] (.w (.c (.fr 3 ((fe p r c (bh l 1) (bh l 4) ns).map aF)))):=by
  refine aG Tryz.func71 UU rfl rfl ?_;have d1:=nJ G l 1 fun r hr=>by have:=hb r hr; omega
  have d4:=nJ G l 4 fun r hr=>by have:=hb r hr; omega
  have n1:(bh l 1).length≤65535:=Xi (nr _) (mV hb 1);have n4:(bh l 4).length≤65535:=Xi (nr _) (mV hb 4);have c1:=y5 G (bh l 1) p.pr (by omega) h1;have c4:=y5 G (bh l 4) p.al (by omega) h2;have k1:=ik G 1 [];have k4:=ik G 4 [];simp only[W8] at k1 k4
  have hA:fe p r c (bh l 1) (bh l 4) ns=match de (bh l 1) p.pr with
    | none=>[⟨true,1,[]⟩]
    | some v=>⟨true,1,aR [v]⟩::match de (bh l 4) p.al with
      | none=>[⟨true,4,[]⟩]
      | some a=>⟨true,4,aR [a]⟩::fQ r c v a ns:=rfl
  have i1:∀ v,de (bh l 1) p.pr=some v→0≤v∧v≤65535:=fun v h=>s1 v (nh h).2
  have i4:∀ v,de (bh l 4) p.al=some v→0≤v∧v≤65535:=fun v h=>s2 v (nh h).2
  generalize bh l 1=N1 at *
  generalize bh l 4=N4 at *
  rw[hA];clear hA;unfold eV bR cb at *
  generalize cD l=E at *
  rcases hv:de N1 p.pr with _ | v
  ·rw[hv] at c1;simp only[XG,X2] at c1;unfold bB;simp only[sI,af,aF,ae,aa,seval,iteOmega,toNatUp];refine sD (d1) ?_;refine sD (c1) ?_;refine sD (k1) ?_;exact ew
  ·rw[hv] at c1;simp only[Xu,XR] at c1;have j1:=i1 v hv;have b1:=lV G [v] (by simp) (fun n hn=>by rw[WG.1 hn]; exact j1);simp only[WH,W8,zD] at b1;have q1:=ik G 1 (aR [v]);rcases ha:de N4 p.al with _ | a
   ·rw[ha] at c4;simp only[XG,X2] at c4;dsimp only;generalize aR [v]=B1 at *
    unfold bB;simp only[sI,af,aF,ae,aa,seval,iteOmega,toNatUp];refine sD (d1) ?_;refine sD (c1) ?_;refine sD (b1) ?_;refine sD (q1) ?_;refine sD (d4) ?_;refine sD (c4) ?_;refine sC (k4) ?_;simp only[bI,ae,aa,seval,iteOmega,toNatUp];exact ew
   ·rw[ha] at c4;simp only[Xu,XR] at c4;have j4:=i4 a ha;have b4:=lV G [a] (by simp) (fun n hn=>by rw[WG.1 hn]; exact j4);simp only[WH,W8,zD] at b4;have q4:=ik G 4 (aR [a]);have kz:=KQ G hF hG c v a;rw[pS vC j1 j4] at kz;have cm:=fun n:List UInt8=>UQ G r a (bw c v a 0) (bw c v a 1) n (by omega)
    have y0:fK r c v a ns 0=[⟨true,1,aR [v]⟩,⟨true,4,aR [a]⟩]:=rfl;have ye:(⟨true,1,aR [v]⟩::⟨true,4,aR [a]⟩::fQ r c v a ns:List Ek)=fK r c v a ns ns.length:=by unfold fK; rw[XE]
    dsimp only;rw[ye];clear ye;unfold bB gI bR at *
    simp only[sI,af,aF,ae,aa,seval,iteOmega,toNatUp];refine sD (d1) ?_;refine sD (c1) ?_;refine sD (b1) ?_;refine sD (q1) ?_;refine sD (d4) ?_;refine sD (c4) ?_;refine sD (b4) ?_;refine sC (q4) ?_;simp only[bI,ae,aa,seval,iteOmega,toNatUp];refine sD (kz) ?_;refine ba (zb r c v a ns) (fun i=>ns.length-i) (fun i=>i≤ns.length) 0 (WI _) ?_ ?_
    ·refine aw (fun i=>if i=1 then 464 else 120) ?_ ?_ rfl rfl <;> simp only[y0,aF,wx,am,aH,aa,seval,iteOmega,toNatUp] <;> first | rfl | exact⟨rfl,rfl⟩ | skip
    ·intro i hi;have az:=lA (fK r c v a ns i);have yl:=Hs r c v a ns i;by_cases hlt:i<ns.length
     ·have g:=xm hlt;have cm:=cm (ns.getD i []);have hs:=PR (r:=r) (c:=c) (v:=v) (a:=a) hlt;generalize ns.getD i []=x at *
      generalize hR:fK r c v a ns i=Rw at *
      generalize iy r a (bw c v a 0) (bw c v a 1) x=e at *
      simp only[wk,zb,hR,ae,aa,seval,iteOmega,toNatUp,aJ,g];refine sC (cm) ?_;simp only[bI,az,ae,aa,seval,iteOmega,toNatUp];refine aS (i+1) (by omega) (by omega) (aw (fun i=>if i=1 then 672 else 2) ?_ ?_ rfl rfl) <;> simp only[hs,Xc,aF,wx,am,aH,aa,seval,iteOmega,toNatUp] <;> first | rfl | exact⟨rfl,rfl⟩ | skip
     ·obtain rfl:i=ns.length:=by omega
      simp only[wk,zb,ae,aa,seval,iteOmega,toNatUp];exact ew
theorem Sc {b:List UInt8} (hF:ec b):lk b↔mo (aK b)=true:=by
  unfold lk mo;rw[bX,bX,bX,bX,bX];simp only[WX,Ys,decide_eq_true_eq,decide_eq_false_iff_not];constructor
  ·rintro⟨_,h1,h2,h3⟩;omega
  ·rintro⟨h1,h2,h3,h4,h5⟩;exact⟨hF,by omega,by omega,by omega⟩
theorem zd {l:List Ek} {k:Int} (h:0<(au l k).length):gY l k=bh l k:=by
  unfold gY bh df;rw[kD (by rw[bX]; exact h)]
theorem UV {l:List Ek} (h:mo l=true):0<(au l 1).length∧0<(au l 4).length:=by
  unfold mo at h;simp only[WX,decide_eq_true_eq] at h;exact⟨h.1,h.2.1⟩
theorem yo (ns:List (List UInt8)) (ho:ByteArray):ml ns ho↔ju ns∧ho.size≤255:=⟨fun ⟨a,b,c,d⟩=>⟨⟨d,a,b⟩,c⟩,fun ⟨⟨d,a,b⟩,c⟩=>⟨a,b,c,d⟩⟩
theorem UW {p:dQ} {r:List Fd} {c:Ch} {x y:List Int} {ns:List (List UInt8)} (vC:dA c) (vR:cO r) (s1:br p.pr) (s2:br p.al) (hn:ju ns):(∀ e∈fe p r c x y ns,0≤e.ty∧e.ty≤7∧e.bo.length≤255)∧(fe p r c x y ns).length≤10:=by
  have l2:∀ v:Int,(aR [v]).length≤255:=fun v=>by rw[fi]; exact (show 2*1≤255 by decide)
  have nl:=hn.2.2;unfold fe;rcases hv:de x p.pr with _ | v
  ·refine⟨fun e he=>?_,by simp⟩;rw[WG.1 he];exact fV (by decide) (by decide)
  ·have j1:=s1 v (nh hv).2;rcases ha:de y p.al with _ | a
   ·refine⟨fun e he=>?_,by simp⟩;simp only[WR,Yj,or_false] at he;rcases he with rfl | rfl
    ·exact fV (by decide) (l2 v)
    ·exact fV (by decide) (by decide)
   ·have j4:=s2 a (nh ha).2;have e:(⟨true,1,aR [v]⟩::⟨true,4,aR [a]⟩::fQ r c v a ns:List Ek)=fK r c v a ns ns.length:=by unfold fK; rw[XE]
    dsimp only;rw[e];have yl:=Hs r c v a ns ns.length;exact⟨UO vR (pS vC j1 j4) j4 hn.1,by omega⟩
def ig:aE:=⟨5,91,.seq (.reg [oO 5 (.box .roBox (.t 0)),oO 6 (.box .roBox (.t 1)),oO 7 (.box .roBox (.t 2)),oO 10 (.mv (.k (.c .nil))),oO 11 (.mv (kI 0))]) (.seq (.seq (.reg [oO 15 (.load (.ag 6) (.t 7)),oO 16 (.call 62 [(.t 15)] none),oO 17 (.un .not (.t 16)),oM 18 17,oG 19 (.load (.ag 1) (.t 6)) 18 false,oG 20 (.call 65 [(.t 19)] none) 18 false,oG 21 (.un .not (.t 20)) 18 false,oO 22 (.pick (.t 18) (.k (.c (.d (.bool true)))) (.t 21))]) (.cond (.t 22) (.seq (.reg [oO 10 (.mv (.k (.c .nil))),oO 11 (.mv (kI 3))]) (.ret)) (.skip))) (.seq (.seq (.reg [oO 23 (.fieldAddr 0 (.t 5)),oO 24 (.load .sc (.t 23)),oO 25 (.call 50 [(.t 24)] none),oO 26 (.un .not (.t 25)),oM 27 26,oG 28 (.fieldAddr 1 (.t 5)) 27 false,oG 29 (.load .sc (.t 28)) 27 false,oG 30 (.call 50 [(.t 29)] none) 27 false,oG 31 (.un .not (.t 30)) 27 false,
 oO 32 (.pick (.t 27) (.k (.c (.d (.bool true)))) (.t 31)),oM 33 32,oG 34 (.fieldAddr 3 (.t 5)) 33 false,oG 35 (.load .sc (.t 34)) 33 false,oG 36 (.bldSl false 1 1 (.int .i64 0) [(0,(.t 35))]) 33 false,oG 37 (.call 50 [(.t 36)] none) 33 false,oG 38 (.un .not (.t 37)) 33 false,oO 39 (.pick (.t 33) (.k (.c (.d (.bool true)))) (.t 38))]) (.cond (.t 39) (.seq (.reg [oO 10 (.mv (.k (.c .nil))),oO 11 (.mv (kI 4))]) (.ret)) (.skip))) (.seq (.reg [oM 41 3,oO 42 (.call 66 [(.t 41)] none),oM 40 42,oO 43 (.extract (.t 40) 0),oO 44 (.extract (.t 40) 1),oM 12 43,oM 13 44]) (.seq (.block 0 (.seq (.reg [oM 46 13,oO 47 (.un .not (.t 46)),oM 48 47,oG 49 (.mv (.t 12)) 48 false,oG 50 (.call 67 [(.t 49)] none) 48 false,oG 51 (.un .not (.t 50)) 48 false,oO 52 (.pick (.t 48) (.k (.c (.d (.bool true)))) (.t 51)),
 oM 45 52]) (.cond (.t 45) (.seq (.reg [oO 53 (.call 68 [(kI 1)] none),oO 54 (.extract (.t 53) 0),oO 55 (.extract (.t 53) 1),oM 10 54,oM 11 55]) (.ret)) (.seq (.reg [oM 57 12,oO 58 (.call 69 [(.t 57)] none),oM 56 58]) (.cond (.t 56) (.seq (.reg [oO 59 (.call 68 [(kI 0)] none),oO 60 (.extract (.t 59) 0),oO 61 (.extract (.t 59) 1),oM 10 60,oM 11 61]) (.ret)) (.seq (.reg [oM 63 4,oO 64 (.call 70 [(.t 63)] none),oO 65 (.un .not (.t 64)),oM 66 65,oG 67 (.fieldAddr 2 (.t 5)) 66 false,oG 68 (.load .sc (.t 67)) 66 false,oG 69 (.lenStr (.t 68)) 66 false,oG 70 (.bin .gtr (.t 69) (kI 255)) 66 false,oO 71 (.pick (.t 66) (.k (.c (.d (.bool true)))) (.t 70)),oM 62 71]) (.cond (.t 62) (.seq (.reg [oO 72 (.call 68 [(kI 2)] none),oO 73 (.extract (.t 72) 0),oO 74 (.extract (.t 72) 1),oM 10 73,oM 11 74]) (.ret))
 (.skip)))))))) (.seq (.reg [oO 75 (.load (.ag 4) (.t 5)),oO 76 (.load (.ag 1) (.t 6)),oO 77 (.load (.ag 6) (.t 7)),oM 78 12,oM 79 4,oO 80 (.call 71 [(.t 75),(.t 76),(.t 77),(.t 78),(.t 79)] (some (0,3))),oO 81 (.load (.ag 4) (.t 5)),oO 82 (.call 72 [(.t 81)] none),oO 83 (.app false 3 40 (.t 80) (.t 82)),oM 14 83]) (.seq (.reg [oM 84 14,oO 85 (.call 52 [(kI 0),(.k (.c .nil))] none),oO 86 (.bldSl false 1 3 (.agg [(.bool false),(.int .i64 0),(.sl [])]) [(0,(.t 85))]),oO 87 (.app false 3 40 (.t 84) (.t 86)),oO 88 (.call 10 [(.t 87)] none),oO 89 (.extract (.t 88) 0),oO 90 (.extract (.t 88) 1),oM 10 89,oM 11 90]) (.ret))))))),[(10,none),(11,none)]⟩
theorem UX:aC Tryz.prog { own:=[80],comp:=[],frz:=[],nils:=[] } Tryz.f28=some ig:=by kernel_rfl
theorem V4 (G:ah) (hF:G.at 0=some (.ra (cU.map wD))) (hG:G.at 1=some (.ra (bF.map wD))) (p:dQ) (r:List Fd) (c:Ch) (b:List UInt8) (ns:List (List UInt8)) (h1:p.pr.length≤1000000) (h2:p.al.length≤1000000) (h3:p.ho.size≤1000000) (hr:r.length≤1000000) (hb:b.length≤1000000000) (hn:ns.length≤1000000) (hm:∀ n∈ns,n.length≤1000000):ak Tryz.prog G 28 [eV p,bR r,bB c,.sl (b.map bD),.sl (ns.map fun l=>D.sl (l.map bD))] (.tup [.c (.d (.sl ((i6 p r c b ns).map bD))),.c (.d (.int .i64 (eN p r c)))]):=by
  refine aG Tryz.func28 UX rfl rfl ?_;have c1:=tp G hF hG c;have c2:=J5 G r (by omega);have hno:∀ e,eN p r c=e→e≠0→i6 p r c b ns=[]:=fun e q1 q2=>if_pos (by rw[q1]; exact q2)
  by_cases vC:dA c
  case neg =>
    rw[decide_eq_false vC] at c1;have E:eN p r c=3:=by unfold eN; rw[if_pos fun h=>vC h.1]
    rw[hno 3 E (by decide),E];unfold eV bR bB at *
    simp only[ig,af,ae,aa,seval,iteOmega,toNatUp];refine sD (c1) ?_;exact aO
  rw[decide_eq_true vC] at c1;by_cases vR:cO r
  case neg =>
    rw[decide_eq_false vR] at c2;have E:eN p r c=3:=by unfold eN; rw[if_pos fun h=>vR h.2]
    rw[hno 3 E (by decide),E];unfold eV bR bB at *
    simp only[ig,af,ae,aa,seval,iteOmega,toNatUp];refine sD (c1) ?_;refine sD (c2) ?_;exact aO
  rw[decide_eq_true vR] at c2;have c3:=nH G p.pr (by omega);have c4:=nH G p.al (by omega);have c5:=nH G [p.pt] (by simp);simp only[WH,W8,zD] at c5;by_cases s1:br p.pr
  case neg =>
    rw[decide_eq_false s1] at c3;have E:eN p r c=4:=by unfold eN; rw[if_neg (not_not_intro ⟨vC,vR⟩),if_pos fun h=>s1 h.1]
    rw[hno 4 E (by decide),E];unfold eV bR bB at *
    simp only[ig,af,ae,aa,seval,iteOmega,toNatUp];refine sD (c1) ?_;refine sD (c2) ?_;refine sD (c3) ?_;exact aO
  rw[decide_eq_true s1] at c3;by_cases s2:br p.al
  case neg =>
    rw[decide_eq_false s2] at c4;have E:eN p r c=4:=by unfold eN; rw[if_neg (not_not_intro ⟨vC,vR⟩),if_pos fun h=>s2 h.2.1]
    rw[hno 4 E (by decide),E];unfold eV bR bB at *
    simp only[ig,af,ae,aa,seval,iteOmega,toNatUp];refine sD (c1) ?_;refine sD (c2) ?_;refine sD (c3) ?_;refine sD (c4) ?_;exact aO
  rw[decide_eq_true s2] at c4;by_cases s3:br [p.pt]
  case neg =>
    rw[decide_eq_false s3] at c5;have E:eN p r c=4:=by unfold eN; rw[if_neg (not_not_intro ⟨vC,vR⟩),if_pos fun h=>s3 h.2.2]
    rw[hno 4 E (by decide),E];unfold eV bR bB at *
    simp only[ig,af,ae,aa,seval,iteOmega,toNatUp];refine sD (c1) ?_;refine sD (c2) ?_;refine sD (c3) ?_;refine sD (c4) ?_;refine sD (c5) ?_;exact aO
  rw[decide_eq_true s3] at c5;have E:eN p r c=0:=by unfold eN; rw[if_neg (not_not_intro ⟨vC,vR⟩),if_neg (not_not_intro ⟨s1,s2,s3⟩)]
  have B0:i6 p r c b ns=if ¬ lk b then gF 1 else if gE (aK b)=true then gF 0 else if ¬ ml ns p.ho then gF 2 else aY (fe p r c (gY (aK b) 1) (gY (aK b) 4) ns++gG p):=if_neg (not_not_intro E)
  rw[E];clear hno E;have c6:=y7 G b hb;have r1:=y9 G 1 (by decide);have r0:=y9 G 0 (by decide);have r2:=y9 G 2 (by decide);by_cases hFm:ec b
  case neg =>
    rw[decide_eq_false hFm,show gX b=[] from if_neg hFm] at c6;rw[B0,if_pos fun q=>hFm q.1];generalize gF 1=R at *
    generalize cb []=M at *
    clear B0 r0 r2;unfold eV bR bB at *
    simp only[ig,af,ae,aa,seval,iteOmega,toNatUp];refine sD (c1) ?_;refine sD (c2) ?_;refine sD (c3) ?_;refine sD (c4) ?_;refine sD (c5) ?_;refine sD (c6) ?_;refine sD (r1) ?_;exact aO
  rw[decide_eq_true hFm,show gX b=aK b from if_pos hFm] at c6;obtain⟨hbo,hl⟩:=pA (b:=b);have hQ:=Sc hFm;generalize aK b=L at *
  have c7:=VV G L;rcases hq:mo L with _ | _
  ·rw[hq] at c7;rw[B0,if_pos fun q=>by rw[hQ.1 q] at hq; cases hq];generalize gF 1=R at *
   clear B0 r0 r2;unfold eV bR bB cb at *
   generalize cD L=M at *
   simp only[ig,af,ae,aa,seval,iteOmega,toNatUp];refine sD (c1) ?_;refine sD (c2) ?_;refine sD (c3) ?_;refine sD (c4) ?_;refine sD (c5) ?_;refine sD (c6) ?_;refine sD (c7) ?_;refine sD (r1) ?_;exact aO
  obtain⟨a1,a4⟩:=UV hq;rw[hq] at c7;rw[if_neg (not_not_intro (hQ.2 hq)),zd a1,zd a4] at B0;have c8:=KS G L (by omega);rcases hS:gE L with _ | _
  case true =>
    rw[hS] at c8;rw[B0,if_pos hS];generalize gF 0=R at *
    clear B0 r1 r2;unfold eV bR bB cb at *
    generalize cD L=M at *
    simp only[ig,af,ae,aa,seval,iteOmega,toNatUp];refine sD (c1) ?_;refine sD (c2) ?_;refine sD (c3) ?_;refine sD (c4) ?_;refine sD (c5) ?_;refine sD (c6) ?_;refine sD (c7) ?_;refine sD (c8) ?_;refine sD (r0) ?_;exact aO
  rw[hS] at c8;rw[if_neg (by rw[hS]; decide)] at B0;have c9:=VY G ns hn;by_cases hN:ju ns
  case neg =>
    rw[decide_eq_false hN] at c9;rw[B0,if_pos fun q=>hN ((yo _ _).1 q).1];generalize gF 2=R at *
    clear B0 r0 r1;unfold eV bR bB cb at *
    generalize cD L=M at *
    simp only[ig,af,ae,aa,seval,iteOmega,toNatUp];refine sD (c1) ?_;refine sD (c2) ?_;refine sD (c3) ?_;refine sD (c4) ?_;refine sD (c5) ?_;refine sD (c6) ?_;refine sD (c7) ?_;refine sD (c8) ?_;refine sD (c9) ?_;refine sD (r2) ?_;exact aO
  rw[decide_eq_true hN] at c9;by_cases hH:p.ho.size≤255
  case neg =>
    have gH:((p.ho.size:Int)>255)=True:=eq_true (by omega);rw[B0,if_pos fun q=>hH ((yo _ _).1 q).2];generalize gF 2=R at *
    clear B0 r0 r1;unfold eV bR bB cb at *
    generalize cD L=M at *
    simp only[ig,af,ae,aa,seval,iteOmega,toNatUp];refine sD (c1) ?_;refine sD (c2) ?_;refine sD (c3) ?_;refine sD (c4) ?_;refine sD (c5) ?_;refine sD (c6) ?_;refine sD (c7) ?_;refine sD (c8) ?_;refine sC (c9) ?_;simp only[gH,ae,aa,seval,iteOmega,toNatUp];refine sD (r2) ?_;exact aO
  have gH:((p.ho.size:Int)>255)=False:=eq_false (by omega);rw[if_neg (not_not_intro ((yo _ _).2 ⟨hN,hH⟩))] at B0;have ca:=V0 G hF hG p r c L ns h1 h2 hr hbo hN.2.2 vC s1 s2;have cp:=VZ G p h3 s3;have ce:=ik G 0 [];obtain⟨ok,ol⟩:=UW (x:=bh L 1) (y:=bh L 4) vC vR s1 s2 hN;obtain⟨q1,q2⟩:=VX hH ok ol;have hl3:=Ht p;have cn:=KM G (fe p r c (bh L 1) (bh L 4) ns++gG p) (by rw[WA]; omega) (fun e he=>by
    have:e.bo.length≤255:=((WO.1 he).elim (ok e) (J4 hH e)).2.2;omega)
  rw[q1,q2,← za] at cn;rw[B0,← za];have ap:=lA (ln p);have aq:=lA (fe p r c (bh L 1) (bh L 4) ns);have pl:(ln p).length≤3:=by have:=congrArg List.length (za p); rw[WA] at this; omega
  clear B0 r0 r1 r2 ok q1 q2;generalize aY (fe p r c (bh L 1) (bh L 4) ns++(ln p++[⟨true,0,[]⟩]))=R at *
  generalize fe p r c (bh L 1) (bh L 4) ns=X at *
  generalize ln p=Y at *
  simp only[Xc,WH,W8,aF] at cn ce;unfold eV bR bB cb cT at *
  generalize cD L=M at *
  have tk:∀ a:D,((X++Y).map aF++[a]).take (X.length+Y.length+1)=X.map aF++(Y.map aF++[a]):=fun a=>by rw[WE (by simp; omega),Xc,W7]
  simp only[ig,af,ae,aa,seval,iteOmega,toNatUp];refine sD (c1) ?_;refine sD (c2) ?_;refine sD (c3) ?_;refine sD (c4) ?_;refine sD (c5) ?_;refine sD (c6) ?_;refine sD (c7) ?_;refine sD (c8) ?_;refine sC (c9) ?_;simp only[gH,ae,aa,seval,iteOmega,toNatUp];refine sD (ca) ?_;refine sC (cp) ?_;simp only[bI,ap,ae,aa,seval,iteOmega,toNatUp];refine sC (ce) ?_;simp only[bI,ae,aa,seval,iteOmega,toNatUp];refine bi cn (by simp only[ae,aa,seval,iteOmega,toNatUp,tk] <;> rfl) (.inr (yH _ _ _ _)) ?_;simp only[ae,aa,seval,iteOmega,toNatUp];exact aO
def jv (l:List Ek):Int:=if 8<(au l 5).length then 8 else if ¬ ∀ x∈i7 l,x.length=104 then 3 else 0
def qi (l:List Ek):List (List UInt8):=if jv l=0 then i7 l else []
def ga (x:List Ek):List (List UInt8):=x.map (·.bo)
def tC (x:List Ek) (i:Nat):St:=⟨aQ [(4,.w (.c (.own 1 1 0 (ga (x.take i)).length))),(12,.w (.c (.d (.sl (x.map aF))))),(13,.w (.c (.d (.int .i64 (x.length:Int))))),(14,.w (.c (.d (.int .i64 (i:Int)))))],hL [(1,.row 1 ((ga (x.take i)).map fun l=>D.sl (l.map bD)))],uL [1]⟩
theorem NW (l:List (List UInt8)):dk 1 (l.map fun l=>D.sl (l.map bD))=true:=oI _ (fun _=>rfl) l
def rx:aM := .seq (.reg [oO 15 (.bin .lss (.t 14) (.t 13))]) (.seq (.cond (.t 15) (.skip) (.exit 0)) (.seq (.block 1 (.seq (.reg [oO 16 (.idxSl 3 (.t 12) (.t 14)),oO 17 (.load (.ag 3) (.t 16)),oO 6 (.alloc [(.d (.bool false)),(.d (.int .i64 0)),.nil]),oN (.store (.ag 3) (.t 6) (.t 17))]) (.seq (.seq (.reg [oO 18 (.fieldAddr 2 (.t 6)),oO 19 (.load .sc (.t 18)),oO 20 (.len (.t 19)),oO 21 (.bin .neq (.t 20) (kI 104))]) (.cond (.t 21) (.seq (.reg [oO 2 (.mv (.k (.c .nil))),oO 3 (.mv (kI 3))]) (.ret)) (.skip))) (.reg [oM 22 4,oO 23 (.fieldAddr 2 (.t 6)),oO 24 (.load .sc (.t 23)),oO 25 (.bldSl false 1 1 (.sl []) [(0,(.t 24))]),oO 26 (.app false 1 24 (.t 22) (.t 25)),oM 4 26])))) (.reg [oO 27 (.bin .add (.t 14) (kI 1)),oM 14 27])))
def yp:aE:=⟨1,29,.seq (.reg [oO 2 (.mv (.k (.c .nil))),oO 3 (.mv (kI 0))]) (.seq (.seq (.reg [oM 7 0,oO 8 (.mpGet .i64 (.sl []) false (.t 7) (kI 5)),oO 9 (.len (.t 8)),oO 10 (.bin .gtr (.t 9) (kI 8))]) (.cond (.t 10) (.seq (.reg [oO 2 (.mv (.k (.c .nil))),oO 3 (.mv (kI 8))]) (.ret)) (.skip))) (.seq (.reg [oO 4 (.nilOwn 1)]) (.seq (.seq (.reg [oM 11 0,oO 12 (.mpGet .i64 (.sl []) false (.t 11) (kI 5)),oO 13 (.len (.t 12)),oO 14 (.mv (kI 0))]) (.block 0 (.loop rx))) (.seq (.reg [oM 28 4,oM 2 28,oO 3 (.mv (kI 0))]) (.ret))))),[(2,none),(3,none)]⟩
theorem UY:aC Tryz.prog { own:=[4],comp:=[],frz:=[],nils:=[] } Tryz.f115=some yp:=by kernel_rfl
theorem V5 (G:ah) (l:List Ek) (hl:l.length≤1000000):ak Tryz.prog G 115 [cb l] (.tup [.c (.d (cT (qi l))),.c (.d (.int .i64 (jv l)))]):=by
  refine aG Tryz.func115 UY rfl rfl ?_;have hk:=yh l 5;have hE:jv l=if 8<(au l 5).length then 8 else if ¬ ∀ x∈ga (au l 5),x.length=104 then 3 else 0:=rfl
  have hR:qi l=if jv l=0 then ga (au l 5) else []:=rfl
  generalize jv l=e at *
  generalize qi l=R at *
  unfold cb;generalize cD l=E at *
  generalize au l 5=x at *
  by_cases h8:8<x.length
  ·rw[if_pos h8] at hE;subst hE;rw[if_neg (by decide)] at hR;subst hR;have g1:((x.length:Int)>8)=True:=eq_true (by omega);simp only[yp,af,cT,ae,aa,seval,iteOmega,toNatUp,cP,hk,g1];exact aO
  ·rw[if_neg h8] at hE;have g1:((x.length:Int)>8)=False:=eq_false (by omega);simp only[yp,af,cT,ae,aa,seval,iteOmega,toNatUp,cP,hk,g1];refine ba (tC x) (fun i=>x.length-i) (fun i=>i≤x.length∧∀ b∈ga (x.take i),b.length=104) 0 ⟨WI _,by rw[Xq]; exact fun n h=>by cases h⟩ ?_ ?_
   ·refine aw (fun _=>32) ?_ ?_ rfl rfl <;> simp only[wx,am,aH,aa,seval,iteOmega,toNatUp] <;> first | rfl | exact⟨rfl,rfl⟩ | skip
   ·rintro i ⟨hi,hp⟩;have az:=NW (ga (x.take i));have bl:(ga (x.take i)).length=i:=by unfold ga; rw[WJ,WF]; omega
    by_cases hlt:i<x.length
    ·have g:=io hlt;have hm:(x.getD i default).bo∈ga x:=WZ.2 ⟨_,hC hlt,rfl⟩;have hs:ga (x.take (i+1))=ga (x.take i)++[(x.getD i default).bo]:=by unfold ga; rw[lu hlt,Xc]; rfl
     generalize x.getD i default=r at *
     obtain⟨rc,rt,rb⟩:=r;dsimp only at *
     by_cases h1:rb.length=104
     ·have g2:((rb.length:Int)=104)=True:=eq_true (by omega);have hn:∀ b∈ga (x.take (i+1)),b.length=104:=by
        rw[hs];intro n q;rcases WO.1 q with q | q
        ·exact hp n q
        ·rw[WG.1 q]; exact h1
      generalize hB:ga (x.take i)=B at *
      simp only[rx,tC,cT,hB,ae,aa,seval,iteOmega,toNatUp,aJ,g,aF,g2,bI];refine aS (i+1) (by omega) ⟨by omega,hn⟩ (aw (fun _=>208) ?_ ?_ rfl rfl) <;> simp only[hs,Xc,wx,am,aH,aa,seval,iteOmega,toNatUp] <;> first | rfl | exact⟨rfl,rfl⟩ | skip
     ·rw[if_pos fun q=>h1 (q rb hm)] at hE;subst hE;rw[if_neg (by decide)] at hR;subst hR;have g2:((rb.length:Int)=104)=False:=eq_false (by omega);generalize hB:ga (x.take i)=B at *
      simp only[rx,tC,cT,hB,ae,aa,seval,iteOmega,toNatUp,aJ,g,aF,g2];exact aO
    ·obtain rfl:i=x.length:=by omega
     rw[XE] at hp az bl;rw[if_neg (not_not_intro hp)] at hE;subst hE;rw[if_pos rfl] at hR;subst hR;simp only[rx,tC,cT,XE,ae,aa,seval,iteOmega,toNatUp];exact aO
def dh (lo lm:List Ek) (k:Int):Option Int:=if (bh lm k).length=1∧(bh lm k).getD 0 0∈bh lo k then some ((bh lm k).getD 0 0) else none
def sJ:aE:=⟨3,28,.seq (.reg [oO 6 (.mv (kI 0)),oO 7 (.mv (.k (.c (.d (.bool false)))))]) (.seq (.reg [oM 9 1,oM 10 2,oO 11 (.call 111 [(.t 9),(.t 10)] none),oM 8 11]) (.seq (.seq (.reg [oM 12 8,oO 13 (.len (.t 12)),oO 14 (.bin .neq (.t 13) (kI 1)),oM 15 14,oG 16 (.mv (.t 0)) 15 false,oG 17 (.mv (.t 2)) 15 false,oG 18 (.call 111 [(.t 16),(.t 17)] none) 15 false,oG 19 (.mv (.t 8)) 15 false,oG 20 (.idxSl 1 (.t 19) (kI 0)) 15 false,oG 21 (.load .sc (.t 20)) 15 false,oG 22 (.call 56 [(.t 18),(.t 21)] none) 15 false,oG 23 (.un .not (.t 22)) 15 false,oO 24 (.pick (.t 15) (.k (.c (.d (.bool true)))) (.t 23))]) (.cond (.t 24) (.seq (.reg [oO 6 (.mv (kI 0)),oO 7 (.mv (.k (.c (.d (.bool false)))))]) (.ret)) (.skip))) (.seq (.reg [oM 25 8,oO 26 (.idxSl 1 (.t 25) (kI 0)),oO 27 (.load .sc (.t 26)),
 oM 6 27,oO 7 (.mv (.k (.c (.d (.bool true)))))]) (.ret)))),[(6,none),(7,none)]⟩
theorem UZ:aC Tryz.prog { own:=[],comp:=[],frz:=[],nils:=[] } Tryz.f114=some sJ:=by kernel_rfl
theorem KU (G:ah) (lo lm:List Ek) (k:Int) (ho:∀ r∈lo,r.bo.length≤65535) (hm:∀ r∈lm,r.bo.length≤65535):ak Tryz.prog G 114 [cb lo,cb lm,.int .i64 k] (.tup [.c (.d (.int .i64 ((dh lo lm k).getD 0))),.c (.d (.bool (dh lo lm k).isSome))]):=by
  refine aG Tryz.func114 UZ rfl rfl ?_;have c1:=nJ G lm k fun r hr=>by have:=hm r hr; omega
  have c2:=nJ G lo k fun r hr=>by have:=ho r hr; omega
  have n2:(bh lo k).length≤65535:=Xi (nr _) (mV ho k);have c3:=KO G (bh lo k) ((bh lm k).getD 0 0) (by omega);have hT:dh lo lm k=if (bh lm k).length=1∧(bh lm k).getD 0 0∈bh lo k then some ((bh lm k).getD 0 0) else none:=rfl
  unfold cb at *
  generalize dh lo lm k=T at *
  generalize bh lo k=O at *
  generalize hN:bh lm k=N at *
  generalize cD lo=E1 at *
  generalize cD lm=E2 at *
  by_cases h1:N.length=1
  ·have g1:((N.length:Int)=1)=True:=eq_true (by omega);have g:=iW (l:=N) (i:=0) (by omega);generalize N.getD 0 0=v at *
   by_cases h2:v∈O
   ·rw[if_pos ⟨h1,h2⟩] at hT;rw[decide_eq_true h2] at c3;subst hT;rw[Xu,XR];simp only[sJ,af,ae,aa,seval,iteOmega,toNatUp];refine sC (c1) ?_;simp only[g1,ae,aa,seval,iteOmega,toNatUp];refine sC (c2) ?_;simp only[aJ,g,zD,ae,aa,seval,iteOmega,toNatUp];refine sC (c3) ?_;simp only[aJ,g,zD,ae,aa,seval,iteOmega,toNatUp];exact aO
   ·rw[if_neg fun q=>h2 q.2] at hT;rw[decide_eq_false h2] at c3;subst hT;rw[XG,X2];simp only[sJ,af,ae,aa,seval,iteOmega,toNatUp];refine sC (c1) ?_;simp only[g1,ae,aa,seval,iteOmega,toNatUp];refine sC (c2) ?_;simp only[aJ,g,zD,ae,aa,seval,iteOmega,toNatUp];refine sD (c3) ?_;exact aO
  ·have g1:((N.length:Int)=1)=False:=eq_false (by omega);rw[if_neg fun q=>h1 q.1] at hT;subst hT;rw[XG,X2];simp only[sJ,af,ae,aa,seval,iteOmega,toNatUp];refine sC (c1) ?_;simp only[g1,ae,aa,seval,iteOmega,toNatUp];exact aO
theorem V6 {b:List UInt8} {v:Int} (h:v∈dB b):0≤v∧v≤65535:=by
  unfold dB at h;split at h
  ·rename_i he;unfold i5 gD at h;obtain⟨i,hi,rfl⟩:=WZ.1 h;have:=X9.1 hi;exact TQ (by omega)
  ·cases h
theorem KV {lo lm:List Ek} {k v:Int} (h:dh lo lm k=some v):0≤v∧v≤65535:=by
  unfold dh at h;split at h
  ·rename_i q;cases h;exact V6 q.2
  ·cases h
def kq (lo lm:List Ek):Int:=if ¬ ((dh lo lm 1).isSome=true∧(dh lo lm 4).isSome=true∧0<(au lm 5).length) then 10 else jv lm
def ou (c:Ch) (lo lm:List Ek):uc:=if kq lo lm=0 then ⟨(dh lo lm 1).getD 0,(dh lo lm 4).getD 0,bw c ((dh lo lm 1).getD 0) ((dh lo lm 4).getD 0) 0,bw c ((dh lo lm 1).getD 0) ((dh lo lm 4).getD 0) 1,i7 lm,df lm 6,(aX (df lm 7):Int)⟩ else om
theorem jT:oh om=.agg [.int .i64 0,.int .i64 0,.sl [],.sl [],.sl [],.str ⟨#[]⟩,.int .i64 0]:=rfl
def nu:aE:=⟨3,68,.seq (.reg [oO 3 (.box .roBox (.t 0)),oO 6 (.alloc [(.d (.int .i64 0)),(.d (.int .i64 0)),.nil,.nil,.nil,(.d (.str ⟨#[]⟩)),(.d (.int .i64 0))]),oO 7 (.mv (kI 0))]) (.seq (.reg [oM 17 1,oM 18 2,oO 19 (.call 114 [(.t 17),(.t 18),(kI 1)] none),oM 16 19,oO 20 (.extract (.t 16) 0),oO 21 (.extract (.t 16) 1),oM 8 20,oM 9 21]) (.seq (.reg [oM 23 1,oM 24 2,oO 25 (.call 114 [(.t 23),(.t 24),(kI 4)] none),oM 22 25,oO 26 (.extract (.t 22) 0),oO 27 (.extract (.t 22) 1),oM 10 26,oM 11 27]) (.seq (.seq (.reg [oM 28 9,oO 29 (.un .not (.t 28)),oM 30 29,oG 31 (.mv (.t 11)) 30 false,oG 32 (.un .not (.t 31)) 30 false,oO 33 (.pick (.t 30) (.k (.c (.d (.bool true)))) (.t 32)),oM 34 33,oG 35 (.mv (.t 2)) 34 false,oG 36 (.call 80 [(.t 35),(kI 5)] none) 34 false,oG 37 (.un .not (.t 36)) 34 false,
 oO 38 (.pick (.t 34) (.k (.c (.d (.bool true)))) (.t 37))]) (.cond (.t 38) (.seq (.reg [oO 39 (.build [(.d (.int .i64 0)),(.d (.int .i64 0)),.nil,.nil,.nil,(.d (.str ⟨#[]⟩)),(.d (.int .i64 0))] []),oN (.store (.ag 7) (.t 6) (.t 39)),oO 7 (.mv (kI 10))]) (.ret)) (.skip))) (.seq (.reg [oM 41 2,oO 42 (.call 115 [(.t 41)] none),oM 40 42,oO 43 (.extract (.t 40) 0),oO 44 (.extract (.t 40) 1),oM 12 43,oM 13 44]) (.seq (.seq (.reg [oM 45 13,oO 46 (.bin .neq (.t 45) (kI 0))]) (.cond (.t 46) (.seq (.reg [oO 47 (.build [(.d (.int .i64 0)),(.d (.int .i64 0)),.nil,.nil,.nil,(.d (.str ⟨#[]⟩)),(.d (.int .i64 0))] []),oM 48 13,oN (.store (.ag 7) (.t 6) (.t 47)),oM 7 48]) (.ret)) (.skip))) (.seq (.reg [oO 50 (.load (.ag 6) (.t 3)),oM 51 8,oM 52 10,oO 53 (.call 26 [(.t 50),(.t 51),(.t 52)] none),oM 49 53,oO 54 (.extract (.t 49) 0),
 oO 55 (.extract (.t 49) 1),oO 14 (.alloc [.nil,.nil]),oN (.store (.ag 2) (.t 14) (.t 54)),oM 15 55]) (.seq (.reg [oM 56 8,oM 57 10,oO 58 (.load (.ag 2) (.t 14)),oM 59 12,oM 60 2,oO 61 (.call 116 [(.t 60),(kI 6)] none),oO 62 (.b2s (.t 61)),oM 63 2,oO 64 (.call 116 [(.t 63),(kI 7)] none),oO 65 (.call 48 [(.t 64)] none),oO 66 (.conv .i64 (.t 65)),oO 67 (.build [(.d (.int .i64 0)),(.d (.int .i64 0)),.nil,.nil,.nil,(.d (.str ⟨#[]⟩)),(.d (.int .i64 0))] [(0,1,(.t 56)),(1,1,(.t 57)),(2,2,(.t 58)),(4,1,(.t 59)),(5,1,(.t 62)),(6,1,(.t 66))]),oN (.store (.ag 7) (.t 6) (.t 67)),oO 7 (.mv (kI 0))]) (.ret)))))))),[(6,(some (.ag 7))),(7,none)]⟩
theorem U0:aC Tryz.prog { own:=[],comp:=[],frz:=[],nils:=[] } Tryz.f81=some nu:=by kernel_rfl
theorem V7 (G:ah) (hF:G.at 0=some (.ra (cU.map wD))) (hG:G.at 1=some (.ra (bF.map wD))) (c:Ch) (lo lm:List Ek) (vC:dA c) (ho:∀ r∈lo,r.bo.length≤65535) (hm:∀ r∈lm,r.bo.length≤65535) (hl:lm.length≤1000000) (h7:(df lm 7).length≤2):ak Tryz.prog G 81 [bB c,cb lo,cb lm] (.tup [.c (.d (oh (ou c lo lm))),.c (.d (.int .i64 (kq lo lm)))]):=by
  refine aG Tryz.func81 U0 rfl rfl ?_;have c1:=KU G lo lm 1 ho hm;have c4:=KU G lo lm 4 ho hm;have c5:=kP G lm 5;have c6:=V5 G lm hl;have b6:=y6 G lm 6;have b7:=y6 G lm 7;have hE:kq lo lm=if ¬ ((dh lo lm 1).isSome=true∧(dh lo lm 4).isSome=true∧0<(au lm 5).length) then 10 else jv lm:=rfl
  have hT:ou c lo lm=if kq lo lm=0 then ⟨(dh lo lm 1).getD 0,(dh lo lm 4).getD 0,bw c ((dh lo lm 1).getD 0) ((dh lo lm 4).getD 0) 0,bw c ((dh lo lm 1).getD 0) ((dh lo lm 4).getD 0) 1,i7 lm,df lm 6,(aX (df lm 7):Int)⟩ else om:=rfl
  have hCR:jv lm=0→qi lm=i7 lm:=fun h=>if_pos h
  have j1:=fun v=>KV (lo:=lo) (lm:=lm) (k:=1) (v:=v)
  have j4:=fun v=>KV (lo:=lo) (lm:=lm) (k:=4) (v:=v)
  have gt:=pI G (df lm 7) (by omega);have gb:aX (df lm 7)<65536:=by
    rcases Xd (df lm 7).length 2 with h | h
    ·match hx:df lm 7,h with
     | [],_=>decide
     | [x],_=>have:=(iD 1 [x] rfl (by decide)).1; omega
    ·exact (iD 2 (df lm 7) (by omega) (by decide)).1
  unfold cb at *
  generalize ou c lo lm=T at *
  generalize kq lo lm=e at *
  generalize dh lo lm 1=t1 at *
  generalize dh lo lm 4=t4 at *
  generalize (au lm 5).length=n5 at *
  generalize jv lm=ce at *
  generalize qi lm=cR at *
  generalize i7 lm=cL at *
  generalize aX (df lm 7)=P7 at *
  generalize df lm 6=B6 at *
  generalize df lm 7=B7 at *
  generalize cD lo=E1 at *
  generalize cD lm=E2 at *
  have bad:e=10→T=om:=fun h=>by rw[hT,if_neg (by rw[h]; decide)]
  rcases t1 with _ | v
  ·rw[if_pos (fun q=>by cases q.1)] at hE;rw[bad hE,hE,jT];simp only[XG,X2] at c1;unfold bB;generalize t4.getD 0=w4 at *
   generalize t4.isSome=s4 at *
   simp only[nu,af,ae,aa,seval,iteOmega,toNatUp];refine sD (c1) ?_;refine sD (c4) ?_;exact aO
  ·simp only[Xu,XR] at c1;rcases t4 with _ | a
   ·rw[if_pos (fun q=>by cases q.2.1)] at hE;rw[bad hE,hE,jT];simp only[XG,X2] at c4;unfold bB;simp only[nu,af,ae,aa,seval,iteOmega,toNatUp];refine sD (c1) ?_;refine sD (c4) ?_;exact aO
   ·simp only[Xu,XR] at c4;by_cases h5:0<n5
    ·rw[decide_eq_true h5] at c5;rw[if_neg (not_not_intro ⟨rfl,rfl,h5⟩)] at hE;subst hE;by_cases h0:e=0
     ·subst h0;rw[if_pos rfl] at hT;subst hT;rw[hCR rfl] at c6;have kz:=KQ G hF hG c v a;rw[pS vC (j1 v rfl) (j4 a rfl)] at kz;simp only[Xu];unfold oh cT bB gI at *
      generalize bw c v a 0=U at *
      generalize bw c v a 1=W at *
      simp only[nu,af,ae,aa,seval,iteOmega,toNatUp];refine sD (c1) ?_;refine sD (c4) ?_;refine sD (c5) ?_;refine sD (c6) ?_;refine sD (kz) ?_;refine sC (b6) ?_;simp only[qT,ae,aa,seval,iteOmega,toNatUp];refine sD (b7) ?_;refine sD (gt) ?_;exact aO
     ·have g0:=eq_false h0;rw[if_neg h0] at hT;subst hT;rw[jT];unfold cT bB at *
      generalize (cR.map fun l=>D.sl (l.map bD))=cc at *
      simp only[nu,af,ae,aa,seval,iteOmega,toNatUp];refine sD (c1) ?_;refine sD (c4) ?_;refine sD (c5) ?_;refine sC (c6) ?_;simp only[g0,ae,aa,seval,iteOmega,toNatUp];exact aO
    ·rw[decide_eq_false h5] at c5;rw[if_pos (fun q=>h5 q.2.2)] at hE;rw[bad hE,hE,jT];unfold bB;simp only[nu,af,ae,aa,seval,iteOmega,toNatUp];refine sD (c1) ?_;refine sD (c4) ?_;refine sD (c5) ?_;exact aO
theorem U1 {x y:List Int} (h:cJ x y=0):bh (dd x y) 1=x∧bh (dd x y) 4=y:=by
  obtain⟨h1,h2,_⟩:=p9 h;obtain⟨a1,a4,_⟩:=KH x y;unfold bh df;rw[a1,a4];exact⟨kC h1,kC h2⟩
theorem J8 {q:List UInt8} (h:iz q):bh (aK q) 1=gZ q∧bh (aK q) 4=g8 q:=by
  obtain⟨_,_,h3,h4⟩:=h;have h5:=(yW h3).2.1;rw[h4] at h5;have:=U1 h3;rw[← h5] at this;exact this
theorem Sd {q:List UInt8} (hF:ec q):iz q↔(cJ (bh (aK q) 1) (bh (aK q) 4)=0∧bK (bh (aK q) 1) (bh (aK q) 4)=q):=by
  constructor
  ·intro h;obtain⟨e1,e2⟩:=J8 h;rw[e1,e2];exact⟨h.2.2.1,h.2.2.2⟩
  ·rintro⟨h1,h2⟩;have:=(Lj h1).1;rw[h2] at this;exact this
def sK:aE:=⟨1,31,.seq (.reg [oO 2 (.mv (.k (.c (.d (.mp .i64 []))))),oO 3 (.mv (.k (.c (.d (.bool false)))))]) (.seq (.reg [oM 9 0,oO 10 (.call 66 [(.t 9)] none),oM 8 10,oO 11 (.extract (.t 8) 0),oO 12 (.extract (.t 8) 1),oM 4 11,oM 5 12]) (.seq (.seq (.reg [oM 13 5,oO 14 (.un .not (.t 13))]) (.cond (.t 14) (.seq (.reg [oO 2 (.mv (.k (.c (.d (.mp .i64 []))))),oO 3 (.mv (.k (.c (.d (.bool false)))))]) (.ret)) (.skip))) (.seq (.reg [oM 16 4,oO 17 (.call 111 [(.t 16),(kI 1)] none),oM 18 4,oO 19 (.call 111 [(.t 18),(kI 4)] none),oO 20 (.call 16 [(.t 17),(.t 19)] none),oM 15 20,oO 21 (.extract (.t 15) 0),oO 22 (.extract (.t 15) 1),oM 6 21,oM 7 22]) (.seq (.reg [oM 23 4,oM 24 7,oO 25 (.bin .eql (.t 24) (kI 0)),oM 26 25,oG 27 (.mv (.t 6)) 26 true,oG 28 (.mv (.t 0)) 26 true,oG 29 (.call 104 [(.t 27),(.t 28)] none) 26 true,
 oO 30 (.pick (.t 26) (.t 29) (.k (.c (.d (.bool false))))),oM 2 23,oM 3 30]) (.ret))))),[(2,none),(3,none)]⟩
theorem U2:aC Tryz.prog { own:=[],comp:=[],frz:=[],nils:=[] } Tryz.f79=some sK:=by kernel_rfl
theorem V8 (G:ah) (b:List UInt8) (hb:b.length≤1000000000):ak Tryz.prog G 79 [.sl (b.map bD)] (.tup [.c (.d (cb (gX b))),.c (.d (.bool (decide (iz b))))]):=by
  refine aG Tryz.func79 U2 rfl rfl ?_;have c:=y7 G b hb;by_cases hF:ec b
  ·have hQ:=Sd hF;rw[decide_eq_true hF,show gX b=aK b from if_pos hF] at c;rw[show gX b=aK b from if_pos hF];obtain⟨hbo,hl⟩:=pA (b:=b);generalize aK b=L at *
   have d1:=nJ G L 1 fun r hr=>by have:=hbo r hr; omega
   have d4:=nJ G L 4 fun r hr=>by have:=hbo r hr; omega
   have n1:(bh L 1).length≤65535:=Xi (nr _) (mV hbo 1);have n4:(bh L 4).length≤65535:=Xi (nr _) (mV hbo 4);have cq:=y4 G (bh L 1) (bh L 4) (by omega) (by omega);have cs:=xN G (bK (bh L 1) (bh L 4)) b;unfold cb at *
   generalize bh L 1=N1 at *
   generalize bh L 4=N4 at *
   generalize cD L=E at *
   by_cases h0:cJ N1 N4=0
   ·rw[h0] at cq;have hd:decide (iz b)=(bK N1 N4==b):=by
      by_cases h1:bK N1 N4=b
      ·rw[decide_eq_true (hQ.2 ⟨h0,h1⟩),h1]; simp
      ·rw[decide_eq_false fun q=>h1 (hQ.1 q).2]; simp[h1]
    rw[hd];generalize (bK N1 N4==b)=d at *
    generalize bK N1 N4=R at *
    clear hQ hd;simp only[sK,af,ae,aa,seval,iteOmega,toNatUp];refine sD (c) ?_;refine sD (d1) ?_;refine sD (d4) ?_;refine sD (cq) ?_;refine sD (cs) ?_;exact aO
   ·have g0:=eq_false h0;rw[decide_eq_false fun q=>h0 (hQ.1 q).1];generalize cJ N1 N4=e at *
    generalize bK N1 N4=R at *
    clear hQ;simp only[sK,af,ae,aa,seval,iteOmega,toNatUp];refine sD (c) ?_;refine sD (d1) ?_;refine sD (d4) ?_;refine sC (cq) ?_;simp only[g0,ae,aa,seval,iteOmega,toNatUp];exact aO
  ·rw[decide_eq_false hF,show gX b=[] from if_neg hF,pj] at c;rw[decide_eq_false fun q:iz b=>hF q.1,show gX b=[] from if_neg hF,pj];simp only[sK,af,ae,aa,seval,iteOmega,toNatUp];refine sD (c) ?_;exact aO
theorem J9 {b:List UInt8} (h:ec b):(au (aK b) 1).length≤1∧(au (aK b) 4).length≤1∧(au (aK b) 6).length≤1∧(au (aK b) 7).length≤1:=by
  obtain⟨_,⟨_,_,_,h4,h5,h6,h7⟩,_⟩:=h;rw[bX] at h4 h5 h6 h7;exact⟨h4,h5,h6,h7⟩
theorem tX {l:List Ek} {k:Int} (h:au l k=[]):df l k=[]∧bh l k=[]:=by
  have:df l k=[]:=by unfold df; rw[h]; rfl
  exact⟨this,by unfold bh; rw[this]; rfl⟩
theorem KW {lo lm:List Ek} {k:Int} {x:List Int} (h:(au lm k).length≤1) (hx:bh lo k=x):eP lm k x=dh lo lm k:=by
  unfold eP dh;rw[hx,bX];by_cases h1:(au lm k).length=1
  ·rw[if_pos h1,zd (by omega)]
  ·have h2:au lm k=[]:=Xa.1 (by omega);rw[if_neg h1,(tX h2).2,if_neg (by simp)]
theorem U3 {l:List Ek} (h:(au l 6).length≤1):oo l=df l 6:=by
  unfold oo;rw[bX];by_cases h1:(au l 6).length=1
  ·rw[if_pos h1,kD (by rw[bX]; omega)]; rfl
  ·rw[if_neg h1,(tX (Xa.1 (by omega))).1]
theorem U4 {l:List Ek} (h:(au l 7).length≤1):oq l=(aX (df l 7):Int):=by
  unfold oq;rw[bX];by_cases h1:(au l 7).length=1
  ·rw[if_pos h1,kD (by rw[bX]; omega)]; rfl
  ·rw[if_neg h1,(tX (Xa.1 (by omega))).1]; rfl
theorem Ww {b:List UInt8} (h:ec b):(df (aK b) 7).length≤2:=by
  obtain⟨_,_,_,h7⟩:=J9 h;rcases Xd 0 (au (aK b) 7).length with h1 | h1
  ·have hm:=XZ.1 (hC h1);have:=(h.2.2 _ hm.1).2 (of_decide_eq_true hm.2);exact Nat.le_of_eq this
  ·rw[(tX (Xa.1 (by omega))).1]; decide
theorem V9 {c:Ch} {q b:List UInt8} (vC:dA c) (hq:iz q) (hF:ec b) (hS:gE (aK b)=false) (h2:¬ 0<(au (aK b) 2).length):ee c q b=kq (aK q) (aK b)∧mm c q b=ou c (aK q) (aK b):=by
  obtain⟨k1,k4,k6,k7⟩:=J9 hF;obtain⟨x1,x4⟩:=J8 hq;have o1:=KW (lo:=aK q) (lm:=aK b) k1 x1;have o4:=KW (lo:=aK q) (lm:=aK b) k4 x4;have e:ee c q b=kq (aK q) (aK b):=by
    unfold ee kq jv;rw[if_neg (not_not_intro vC),if_neg (not_not_intro hq),if_neg (not_not_intro hF),if_neg (by rw[hS]; decide),bX,if_neg (by omega),o1,o4,bX];by_cases h:(dh (aK q) (aK b) 1).isSome=true∧(dh (aK q) (aK b) 4).isSome=true∧0<(au (aK b) 5).length
    ·rw[if_neg (not_not_intro h),if_neg (not_not_intro ⟨h.1,h.2.1,by omega⟩)]
    ·rw[if_pos h,if_pos fun g=>h ⟨g.1,g.2.1,by omega⟩]
  refine⟨e,?_⟩;unfold mm ou;rw[e,o1,o4,U3 k6,U4 k7]
def lO:aE:=⟨3,43,.seq (.reg [oO 3 (.box .roBox (.t 0)),oO 6 (.alloc [(.d (.int .i64 0)),(.d (.int .i64 0)),.nil,.nil,.nil,(.d (.str ⟨#[]⟩)),(.d (.int .i64 0))]),oO 7 (.mv (kI 0))]) (.seq (.seq (.reg [oO 11 (.load (.ag 6) (.t 3)),oO 12 (.call 62 [(.t 11)] none),oO 13 (.un .not (.t 12))]) (.cond (.t 13) (.seq (.reg [oO 14 (.build [(.d (.int .i64 0)),(.d (.int .i64 0)),.nil,.nil,.nil,(.d (.str ⟨#[]⟩)),(.d (.int .i64 0))] []),oN (.store (.ag 7) (.t 6) (.t 14)),oO 7 (.mv (kI 3))]) (.ret)) (.skip))) (.seq (.reg [oM 16 1,oO 17 (.call 79 [(.t 16)] none),oM 15 17,oO 18 (.extract (.t 15) 0),oO 19 (.extract (.t 15) 1),oM 8 18,oM 9 19]) (.seq (.seq (.reg [oM 20 9,oO 21 (.un .not (.t 20))]) (.cond (.t 21) (.seq (.reg [oO 22 (.build [(.d (.int .i64 0)),(.d (.int .i64 0)),.nil,.nil,.nil,(.d (.str ⟨#[]⟩)),(.d (.int .i64 0))] []),
 oN (.store (.ag 7) (.t 6) (.t 22)),oO 7 (.mv (kI 3))]) (.ret)) (.skip))) (.seq (.reg [oM 24 2,oO 25 (.call 66 [(.t 24)] none),oM 23 25,oO 26 (.extract (.t 23) 0),oO 27 (.extract (.t 23) 1),oM 10 26,oM 9 27]) (.seq (.seq (.reg [oM 28 9,oO 29 (.un .not (.t 28))]) (.cond (.t 29) (.seq (.reg [oO 30 (.build [(.d (.int .i64 0)),(.d (.int .i64 0)),.nil,.nil,.nil,(.d (.str ⟨#[]⟩)),(.d (.int .i64 0))] []),oN (.store (.ag 7) (.t 6) (.t 30)),oO 7 (.mv (kI 3))]) (.ret)) (.skip))) (.seq (.seq (.reg [oM 31 10,oO 32 (.call 69 [(.t 31)] none)]) (.cond (.t 32) (.seq (.reg [oO 33 (.build [(.d (.int .i64 0)),(.d (.int .i64 0)),.nil,.nil,.nil,(.d (.str ⟨#[]⟩)),(.d (.int .i64 0))] []),oN (.store (.ag 7) (.t 6) (.t 33)),oO 7 (.mv (kI 11))]) (.ret)) (.skip))) (.seq (.seq (.reg [oM 34 10,oO 35 (.call 80 [(.t 34),(kI 2)] none)])
 (.cond (.t 35) (.seq (.reg [oO 36 (.build [(.d (.int .i64 0)),(.d (.int .i64 0)),.nil,.nil,.nil,(.d (.str ⟨#[]⟩)),(.d (.int .i64 0))] []),oN (.store (.ag 7) (.t 6) (.t 36)),oO 7 (.mv (kI 7))]) (.ret)) (.skip))) (.seq (.reg [oO 37 (.load (.ag 6) (.t 3)),oM 38 8,oM 39 10,oO 40 (.call 81 [(.t 37),(.t 38),(.t 39)] none),oO 41 (.extract (.t 40) 0),oO 42 (.extract (.t 40) 1),oN (.store (.ag 7) (.t 6) (.t 41)),oM 7 42]) (.ret))))))))),[(6,(some (.ag 7))),(7,none)]⟩
theorem U5:aC Tryz.prog { own:=[],comp:=[],frz:=[],nils:=[] } Tryz.f30=some lO:=by kernel_rfl
theorem Wa (G:ah) (hF:G.at 0=some (.ra (cU.map wD))) (hG:G.at 1=some (.ra (bF.map wD))) (c:Ch) (q b:List UInt8) (hq:q.length≤1000000000) (hb:b.length≤1000000000):ak Tryz.prog G 30 [bB c,.sl (q.map bD),.sl (b.map bD)] (.tup [.c (.d (oh (mm c q b))),.c (.d (.int .i64 (ee c q b)))]):=by
  refine aG Tryz.func30 U5 rfl rfl ?_;have c1:=tp G hF hG c;have hno:∀ e,ee c q b=e→e≠0→mm c q b=om:=fun e h1 h2=>if_neg (by rw[h1]; exact h2)
  by_cases vC:dA c
  case neg =>
    rw[decide_eq_false vC] at c1;have E:ee c q b=3:=if_pos vC;rw[hno 3 E (by decide),E,jT];unfold bB at *
    simp only[lO,af,ae,aa,seval,iteOmega,toNatUp];refine sD (c1) ?_;exact aO
  rw[decide_eq_true vC] at c1;have c2:=V8 G q hq;by_cases hQ:iz q
  case neg =>
    rw[decide_eq_false hQ] at c2;have E:ee c q b=3:=by unfold ee; rw[if_neg (not_not_intro vC),if_pos hQ]
    rw[hno 3 E (by decide),E,jT];unfold bB cb at *
    simp only[lO,af,ae,aa,seval,iteOmega,toNatUp];refine sD (c1) ?_;refine sD (c2) ?_;exact aO
  rw[decide_eq_true hQ,show gX q=aK q from if_pos hQ.1] at c2;have c3:=y7 G b hb;by_cases hFm:ec b
  case neg =>
    rw[decide_eq_false hFm] at c3;have E:ee c q b=3:=by unfold ee; rw[if_neg (not_not_intro vC),if_neg (not_not_intro hQ),if_pos hFm]
    rw[hno 3 E (by decide),E,jT];unfold bB cb at *
    simp only[lO,af,ae,aa,seval,iteOmega,toNatUp];refine sD (c1) ?_;refine sD (c2) ?_;refine sD (c3) ?_;exact aO
  rw[decide_eq_true hFm,show gX b=aK b from if_pos hFm] at c3;obtain⟨hbo,hl⟩:=pA (b:=b);obtain⟨hbq,_⟩:=pA (b:=q);have c4:=KS G (aK b) (by omega);rcases hS:gE (aK b) with _ | _
  case true =>
    rw[hS] at c4;have E:ee c q b=11:=by unfold ee; rw[if_neg (not_not_intro vC),if_neg (not_not_intro hQ),if_neg (not_not_intro hFm),if_pos hS]
    rw[hno 11 E (by decide),E,jT];unfold bB cb at *
    generalize cD (aK q)=E1 at *
    generalize cD (aK b)=E2 at *
    simp only[lO,af,ae,aa,seval,iteOmega,toNatUp];refine sD (c1) ?_;refine sD (c2) ?_;refine sD (c3) ?_;refine sD (c4) ?_;exact aO
  rw[hS] at c4;have c5:=kP G (aK b) 2;by_cases h2:0<(au (aK b) 2).length
  ·rw[decide_eq_true h2] at c5;have E:ee c q b=7:=by unfold ee; rw[if_neg (not_not_intro vC),if_neg (not_not_intro hQ),if_neg (not_not_intro hFm),if_neg (by rw[hS]; decide),if_pos (by rw[bX]; omega)]
   rw[hno 7 E (by decide),E,jT];unfold bB cb at *
   generalize cD (aK q)=E1 at *
   generalize cD (aK b)=E2 at *
   simp only[lO,af,ae,aa,seval,iteOmega,toNatUp];refine sD (c1) ?_;refine sD (c2) ?_;refine sD (c3) ?_;refine sD (c4) ?_;refine sD (c5) ?_;exact aO
  ·rw[decide_eq_false h2] at c5;obtain⟨e1,e2⟩:=V9 vC hQ hFm hS h2;rw[e1,e2];have c6:=V7 G hF hG c (aK q) (aK b) vC hbq hbo (by omega) (Ww hFm);generalize ou c (aK q) (aK b)=T at *
   generalize kq (aK q) (aK b)=e at *
   unfold oh at *
   unfold bB cb at *
   generalize cD (aK q)=E1 at *
   generalize cD (aK b)=E2 at *
   simp only[lO,af,ae,aa,seval,iteOmega,toNatUp];refine sD (c1) ?_;refine sD (c2) ?_;refine sD (c3) ?_;refine sD (c4) ?_;refine sD (c5) ?_;refine sD (c6) ?_;exact aO

def tD (l:List Ek) (i:Nat):St:=⟨aQ [(0,.w (.c (.d (.sl (l.map aF))))),(1,.w (.c (.d (.sl (l.map aF))))),(5,.w (.c (.d (.int .i64 (i:Int)))))],hL [],uL []⟩
def ry:aM := .seq (.seq (.reg [oM 11 5,oM 12 0,oO 13 (.len (.t 12)),oO 14 (.bin .lss (.t 11) (.t 13))]) (.cond (.t 14) (.skip) (.exit 0))) (.seq (.block 1 (.seq (.reg [oM 17 0,oM 18 5,oO 19 (.idxSl 3 (.t 17) (.t 18)),oO 20 (.fieldAddr 0 (.t 19)),oO 21 (.load .sc (.t 20)),oM 22 1,oM 23 5,oO 24 (.idxSl 3 (.t 22) (.t 23)),oO 25 (.fieldAddr 0 (.t 24)),oO 26 (.load .sc (.t 25)),oO 27 (.eqB true (.t 21) (.t 26)),oM 28 27,oG 29 (.mv (.t 0)) 28 false,oG 30 (.mv (.t 5)) 28 false,oG 31 (.idxSl 3 (.t 29) (.t 30)) 28 false,oG 32 (.fieldAddr 1 (.t 31)) 28 false,oG 33 (.load .sc (.t 32)) 28 false,oG 34 (.mv (.t 1)) 28 false,oG 35 (.mv (.t 5)) 28 false,oG 36 (.idxSl 3 (.t 34) (.t 35)) 28 false,oG 37 (.fieldAddr 1 (.t 36)) 28 false,oG 38 (.load .sc (.t 37)) 28 false,oG 39 (.bin .neq (.t 33) (.t 38)) 28 false,
 oO 40 (.pick (.t 28) (.k (.c (.d (.bool true)))) (.t 39)),oM 41 40,oG 42 (.mv (.t 0)) 41 false,oG 43 (.mv (.t 5)) 41 false,oG 44 (.idxSl 3 (.t 42) (.t 43)) 41 false,oG 45 (.fieldAddr 2 (.t 44)) 41 false,oG 46 (.load .sc (.t 45)) 41 false,oG 47 (.mv (.t 1)) 41 false,oG 48 (.mv (.t 5)) 41 false,oG 49 (.idxSl 3 (.t 47) (.t 48)) 41 false,oG 50 (.fieldAddr 2 (.t 49)) 41 false,oG 51 (.load .sc (.t 50)) 41 false,oG 52 (.call 20 [(.t 46),(.t 51)] none) 41 false,oG 53 (.un .not (.t 52)) 41 false,oO 54 (.pick (.t 41) (.k (.c (.d (.bool true)))) (.t 53))]) (.cond (.t 54) (.seq (.reg [oO 4 (.mv (.k (.c (.d (.bool false)))))]) (.ret)) (.skip)))) (.reg [oM 15 5,oO 16 (.bin .add (.t 15) (kI 1)),oM 5 16]))
def Ka:aE:=⟨2,55,.seq (.reg [oO 4 (.mv (.k (.c (.d (.bool false)))))]) (.seq (.seq (.reg [oM 6 0,oO 7 (.len (.t 6)),oM 8 1,oO 9 (.len (.t 8)),oO 10 (.bin .neq (.t 7) (.t 9))]) (.cond (.t 10) (.seq (.reg [oO 4 (.mv (.k (.c (.d (.bool false)))))]) (.ret)) (.skip))) (.seq (.seq (.reg [oO 5 (.mv (kI 0))]) (.block 0 (.loop ry))) (.seq (.reg [oO 4 (.mv (.k (.c (.d (.bool true)))))]) (.ret)))),[(4,none)]⟩
theorem U6:aC Tryz.prog { own:=[],comp:=[],frz:=[],nils:=[] } Tryz.f21=some Ka:=by kernel_rfl
set_option maxHeartbeats 800000 in
theorem KX (G:ah) (l:List Ek) (hl:l.length≤9000000000000000000):ak Tryz.prog G 21 [.sl (l.map aF),.sl (l.map aF)] (.w (.c (.d (.bool true)))):=by
  refine aG Tryz.func21 U6 rfl rfl ?_;simp only[Ka,af,ae,aa,seval,iteOmega,toNatUp];refine ba (tD l) (fun i=>l.length-i) (fun i=>i≤l.length) 0 (WI _) ?_ ?_
  ·refine aw (fun _=>0) ?_ ?_ rfl rfl <;> simp only[wx,am,aH,aa,seval,iteOmega,toNatUp] <;> first | rfl | exact⟨rfl,rfl⟩ | skip
  ·intro i hi;by_cases hlt:i<l.length
   ·have g:=io hlt;have c:=rH G (l.getD i default).bo (l.getD i default).bo;rw[beq_self_eq_true] at c;generalize l.getD i default=x at *
    obtain⟨cr,ty,bo⟩:=x;dsimp only at c;cases cr
    ·simp only[ry,tD,ae,aa,seval,iteOmega,toNatUp,aJ,g,aF];refine sD (c) ?_;refine aS (i+1) (by omega) (by omega) (aw (fun i=>i) ?_ ?_ rfl rfl) <;> simp only[wx,am,aH,aa,seval,iteOmega,toNatUp] <;> first | rfl | exact⟨rfl,rfl⟩ | skip
    ·simp only[ry,tD,ae,aa,seval,iteOmega,toNatUp,aJ,g,aF];refine sD (c) ?_;refine aS (i+1) (by omega) (by omega) (aw (fun i=>i) ?_ ?_ rfl rfl) <;> simp only[wx,am,aH,aa,seval,iteOmega,toNatUp] <;> first | rfl | exact⟨rfl,rfl⟩ | skip
   ·simp only[ry,tD,ae,aa,seval,iteOmega,toNatUp];exact aI
def iA (p:dQ):List Ek:=if p.ho.size=0 then [] else [⟨true,6,p.ho.data.toList⟩]
def iB (p:dQ):List Ek:=if p.pt=0 then [] else [⟨true,7,aR [p.pt]⟩]
theorem yr (p:dQ):gG p=iA p++(iB p++[bV]):=rfl
theorem U8 {p:dQ} (h:p.ho.size≤255):(∀ r∈iA p,r.ty=6)∧(iA p).length≤1∧∀ r∈iA p,r.bo.length≤255:=by
  unfold iA;split
  ·exact⟨fun r hr=>(by cases hr),WI _,fun r hr=>(by cases hr)⟩
  ·exact⟨fun r hr=>(by rw[WG.1 hr]),WM _,fun r hr=>by rw[WG.1 hr]; exact h⟩
theorem U9 (p:dQ):(∀ r∈iB p,r.ty=7)∧(iB p).length≤1∧∀ r∈iB p,r.bo.length=2:=by
  unfold iB;split
  ·exact⟨fun r hr=>(by cases hr),WI _,fun r hr=>(by cases hr)⟩
  ·exact⟨fun r hr=>(by rw[WG.1 hr]),WM _,fun r hr=>by rw[WG.1 hr]; exact fi [p.pt]⟩
theorem Va {L:List Ek} {p:dQ} (h:au L 6=iA p):oo L=p.ho.data.toList:=by
  unfold oo;by_cases h0:p.ho.size=0
  ·have:au L 6=[]:=by rw[h]; exact if_pos h0
   rw[bX,this,if_neg (show ¬ ([]:List Ek).length=1 by decide)];exact (Xa.1 (show p.ho.data.toList.length=0 from h0)).symm
  ·have e:au L 6=[⟨true,6,p.ho.data.toList⟩]:=by rw[h]; exact if_neg h0
   have hl:(bL L 6).length=1:=by rw[bX,e]; rfl
   rw[if_pos hl,kD (by omega),e]; rfl
theorem Vb {L:List Ek} {p:dQ} (hp:0≤p.pt∧p.pt≤65535) (h:au L 7=iB p):oq L=p.pt:=by
  unfold oq;by_cases h0:p.pt=0
  ·have:au L 7=[]:=by rw[h]; exact if_pos h0
   rw[bX,this,if_neg (show ¬ ([]:List Ek).length=1 by decide),h0]
  ·have e:au L 7=[⟨true,7,aR [p.pt]⟩]:=by rw[h]; exact if_neg h0
   have hl:(bL L 7).length=1:=by rw[bX,e]; rfl
   rw[if_pos hl,kD (by omega),e]
   show (aX (aR [p.pt]):Int)=_
   rw[show aR [p.pt]=aN p.pt.toNat 2 from WS _,get_put 2 (by decide)];omega
theorem Wo {p:dQ} {r:List Fd} {c:Ch} (h:eN p r c=0):dA c∧cO r∧br p.pr∧br p.al∧br [p.pt]:=by
  unfold eN at h;by_cases h1:dA c∧cO r
  ·rw[if_neg (not_not_intro h1)] at h;by_cases h2:br p.pr∧br p.al∧br [p.pt]
   ·exact⟨h1.1,h1.2,h2⟩
   ·rw[if_pos h2] at h; exact absurd h (by decide)
  ·rw[if_pos h1] at h; exact absurd h (by decide)
theorem agree {p:dQ} {r:List Fd} {c c':Ch} {x y:List Int} {ns:List (List UInt8)} (hq:cJ x y=0) (hs:eN p r c=0) (hn:ml ns p.ho) (hv:dA c') (hk:c'.se=c.se) :
    (i6 p r c (bK x y) ns).length≤65535 ∧
    (de x p.pr=none∨de y p.al=none→ee c' (bK x y) (i6 p r c (bK x y) ns)=10) ∧
    (∀ v a,de x p.pr=some v→de y p.al=some a→ee c' (bK x y) (i6 p r c (bK x y) ns)=0 ∧
      mm c' (bK x y) (i6 p r c (bK x y) ns)=⟨v,a,bw c v a 0,bw c v a 1,ns.map (fun n=>dL (r.getD 0 default) a (bw c v a 0) (bw c v a 1) n),p.ho.data.toList,p.pt⟩∧(0≤v∧v≤65535)∧(0≤a∧a≤65535)∧gg c v a=0):=by
  obtain⟨vC,vR,s1,s2,s3⟩:=Wo hs;obtain⟨sx,sy,_⟩:=p9 hq;obtain⟨o1,o2,o3,o4⟩:=Wn hq;obtain⟨Q,fx,fy⟩:=Lj hq;have e:i6 p r c (bK x y) ns=aY (fe p r c x y ns++gG p):=by
    unfold i6;rw[if_neg (not_not_intro hs),if_neg (not_not_intro o1),o2,if_neg Bool.false_ne_true,if_neg (not_not_intro hn),o3,o4]
  obtain⟨n1,n2,n3,n4⟩:=hn;obtain⟨h6,l6,b6⟩:=U8 (p:=p) n3;obtain⟨h7,l7,b7⟩:=U9 p;have pp:=s3 p.pt W6;have e0:∀ l:List Int,l.length≤16→((aR l).length%2=0∧(aR l).length≤255):=fun l hl=>by rw[fi]; omega
  rw[e];rcases hx:de x p.pr with _ | v
  ·have eA:fe p r c x y ns=[⟨true,1,[]⟩]:=by unfold fe; rw[hx]
   rw[eA,yr];have em:[(⟨true,1,[]⟩:Ek)]++(iA p++(iB p++[bV]))=bE ⟨true,1,[]⟩ [] [] (iA p) (iB p)++[bV]:=by simp[bE]
   rw[em];obtain⟨m1,m2,m3,m4,m5,m6,m7,m8,m9,mA,mB⟩:=ze (a:=⟨true,1,[]⟩) (b:=[]) (x:=[]) rfl (fun r hr=>by cases hr) (fun r hr=>by cases hr) h6 h7 (by decide) (by decide) l6 l7 (e0 [] (by decide)) (fun r hr=>by cases hr) (fun r hr=>by cases hr) b6 b7;obtain⟨f1,_⟩:=zf (c:=c') hv Q m4 m3 m5 m7 m9 (by decide) (fun r hr=>by cases hr);rw[fx] at f1;exact⟨(jP m1).2.2,fun _=>f1 (.inl (EP m6)),fun v a q=>(by cases q)⟩
  ·obtain⟨v1,v2⟩:=nh hx;have v3:=sx v v1;rcases hy:de y p.al with _ | a
   ·have eA:fe p r c x y ns=[⟨true,1,aR [v]⟩,⟨true,4,[]⟩]:=by unfold fe; rw[hx]; dsimp only; rw[hy]
    rw[eA,yr];have em:[(⟨true,1,aR [v]⟩:Ek),⟨true,4,[]⟩]++(iA p++(iB p++[bV]))=bE ⟨true,1,aR [v]⟩ [⟨true,4,[]⟩] [] (iA p) (iB p)++[bV]:=by simp[bE]
    rw[em];obtain⟨m1,m2,m3,m4,m5,m6,m7,m8,m9,mA,mB⟩:=ze (a:=⟨true,1,aR [v]⟩) (b:=[⟨true,4,[]⟩]) (x:=[]) rfl (fun r hr=>by rw[WG.1 hr]) (fun r hr=>by cases hr) h6 h7 (WM _) (by decide) l6 l7 (e0 [v] (show (1:Nat)≤16 by decide)) (fun r hr=>by rw[WG.1 hr]; exact e0 [] (by decide)) (fun r hr=>by cases hr) b6 b7;obtain⟨f1,_⟩:=zf (c:=c') hv Q m4 m3 m5 m7 m9 (by decide) (fun r hr=>by cases hr);rw[fy] at f1;exact⟨(jP m1).2.2,fun _=>f1 (.inr (EP m8)),fun v a _ q=>(by cases q)⟩
   ·obtain⟨a1,a2⟩:=nh hy;have a3:=sy a a1;have kz:=pS vC v3 a3;have eA:fe p r c x y ns=⟨true,1,aR [v]⟩::⟨true,4,aR [a]⟩::fQ r c v a ns:=by unfold fe; rw[hx]; dsimp only; rw[hy]
    rw[eA,yr];have em:(⟨true,1,aR [v]⟩::⟨true,4,aR [a]⟩::fQ r c v a ns)++(iA p++(iB p++[bV]))=bE ⟨true,1,aR [v]⟩ [⟨true,4,aR [a]⟩] (fQ r c v a ns) (iA p) (iB p)++[bV]:=by simp[bE]
    rw[em];have xl:(fQ r c v a ns).length=ns.length:=by unfold fQ; rw[WJ]
    have xb:∀ e∈fQ r c v a ns,e.bo.length=104:=fun e he=>by
      obtain⟨n,hn,rfl⟩:=WZ.1 he;obtain⟨q1,q2⟩:=y8 (U:=bw c v a 0) (W:=bw c v a 1) vR a3 (mT kz) (mT kz) (n4 n hn)
      show (mh r a _ _ n).length=104
      rw[q1,q2]
    obtain⟨m1,m2,m3,m4,m5,m6,m7,m8,m9,mA,mB⟩:=ze (a:=⟨true,1,aR [v]⟩) (b:=[⟨true,4,aR [a]⟩]) (x:=fQ r c v a ns) rfl (fun r hr=>by rw[WG.1 hr]) (fun e he=>(RJ r c v a ns e he).1) h6 h7 (WM _) (by omega) l6 l7 (e0 [v] (show (1:Nat)≤16 by decide)) (fun r hr=>by rw[WG.1 hr]; exact e0 [a] (show (1:Nat)≤16 by decide)) (fun e he=>by rw[xb e he]; decide) b6 b7;obtain⟨_,f2⟩:=zf (c:=c') hv Q m4 m3 m5 m7 m9 (by omega) xb;rw[fx,fy] at f2;obtain⟨g1,g2⟩:=f2 v a (G5 m6 v1 v3) (G5 m8 a1 a3) (by omega);refine⟨(jP m1).2.2,fun q=>(by rcases q with q | q <;> cases q),fun v' a' q1 q2=>?_⟩;obtain rfl:=Option.some.inj q1;obtain rfl:=Option.some.inj q2;refine⟨g1,?_,v3,a3,kz⟩;have kk:∀ z,bw c' v a z=bw c v a z:=fun z=>by
      unfold bw;rw[if_pos kz,if_pos (pS hv v3 a3),hk]
    rw[g2,kk,kk,Va mA,Vb pp mB]
    congr 1
    unfold fQ;rw[Yy];refine Xj fun n hn=>?_
    exact (y8 (U:=bw c v a 0) (W:=bw c v a 1) vR a3 (mT kz) (mT kz) (n4 n hn)).1
def zT:ByteArray:=⟨#[116,105,109,101,46,101,120,97,109,112,108,101]⟩
def fL:dQ:=⟨[0],[15],zT,123⟩
def E5:aE:=⟨0,4,.seq (.reg [oO 0 (.alloc [.nil,.nil,(.d (.str ⟨#[]⟩)),(.d (.int .i64 0))])]) (.seq (.reg [oO 1 (.bldSl false 1 1 (.int .i64 0) [(0,(kI 0))]),oO 2 (.bldSl false 1 1 (.int .i64 0) [(0,(kI 15))]),oO 3 (.build [.nil,.nil,(.d (.str ⟨#[]⟩)),(.d (.int .i64 0))] [(0,1,(.t 1)),(1,1,(.t 2)),(2,1,(.k (.c (.d (.str ⟨#[116,105,109,101,46,101,120,97,109,112,108,101]⟩))))),(3,1,(kI 123))]),oN (.store (.ag 4) (.t 0) (.t 3))]) (.ret)),[(0,(some (.ag 4)))]⟩
theorem PS:aC Tryz.prog { own:=[],comp:=[],frz:=[],nils:=[] } Tryz.f39=some E5:=by kernel_rfl
theorem Se (G:ah):ak Tryz.prog G 39 [] (.w (.c (.d (eV fL)))):=by
  refine aG Tryz.func39 PS rfl rfl ?_;unfold eV fL;simp only[E5,af,ae,aa,seval,iteOmega,toNatUp];exact aI (h1:=by simp only[ae,aa,seval,iteOmega,toNatUp] <;> rfl)
theorem Sf {s:Nat} {K:List UInt8} {t:Nat} (cl:Bool) {S:List UInt8} {n m:Int} (hs:s+t≤4294967295) (hS:S.length=32) (hn:0≤n∧n≤1099511627776:=by decide) (hm:0≤m∧m≤1099511627776:=by decide):eN fL (dt s K t) (cA cl S n m)=0:=by
  have h1:br fL.pr∧br fL.al∧br [fL.pt]:=by decide
  unfold eN;rw[if_neg (not_not_intro ⟨Lh hS hn hm,Jo hs⟩),if_neg (not_not_intro h1)]
def AO:aE:=⟨0,68,.seq (.reg [oO 0 (.mv (.k (.c (.d (.bool false)))))]) (.seq (.reg [oO 10 (.call 23 [(kI 1)] none),oM 9 10,oO 11 (.extract (.t 9) 0),oO 12 (.extract (.t 9) 1),oO 1 (.alloc [(.d (.bool false)),.nil,.nil,.nil,(.d (.int .i64 0)),(.d (.int .i64 0))]),oO 2 (.alloc [(.d (.bool false)),.nil,.nil,.nil,(.d (.int .i64 0)),(.d (.int .i64 0))]),oN (.store (.ag 6) (.t 1) (.t 11)),oN (.store (.ag 6) (.t 2) (.t 12))]) (.seq (.reg [oO 14 (.bldSl false 1 1 (.int .i64 0) [(0,(kI 0))]),oO 15 (.bldSl false 1 1 (.int .i64 0) [(0,(kI 15))]),oO 16 (.call 16 [(.t 14),(.t 15)] none),oM 13 16,oO 17 (.extract (.t 13) 0),oO 18 (.extract (.t 13) 1),oM 3 17,oM 4 18]) (.seq (.reg [oO 20 (.call 39 [] none),oO 21 (.call 25 [(kI 1),(kI 0)] none),oO 22 (.load (.ag 6) (.t 2)),oM 23 3,oO 24 (.call 35 [(kI 1),(kI 16)] none),
 oO 25 (.call 35 [(kI 2),(kI 16)] none),oO 26 (.bldSl false 2 1 (.sl []) [(0,(.t 24)),(1,(.t 25))]),oO 27 (.call 28 [(.t 20),(.t 21),(.t 22),(.t 23),(.t 26)] none),oM 19 27,oO 28 (.extract (.t 19) 0),oO 29 (.extract (.t 19) 1),oM 5 28,oM 6 29]) (.seq (.reg [oO 31 (.load (.ag 6) (.t 1)),oM 32 3,oM 33 5,oO 34 (.call 30 [(.t 31),(.t 32),(.t 33)] none),oM 30 34,oO 35 (.extract (.t 30) 0),oO 36 (.extract (.t 30) 1),oO 7 (.alloc [(.d (.int .i64 0)),(.d (.int .i64 0)),.nil,.nil,.nil,(.d (.str ⟨#[]⟩)),(.d (.int .i64 0))]),oN (.store (.ag 7) (.t 7) (.t 35)),oM 8 36]) (.seq (.reg [oM 37 4,oO 38 (.bin .eql (.t 37) (kI 0)),oM 39 38,oG 40 (.mv (.t 6)) 39 true,oG 41 (.bin .eql (.t 40) (kI 0)) 39 true,oO 42 (.pick (.t 39) (.t 41) (.k (.c (.d (.bool false))))),oM 43 42,oG 44 (.mv (.t 8)) 43 true,oG 45 (.bin .eql (.t 44) (kI 0)) 43 true,
 oO 46 (.pick (.t 43) (.t 45) (.k (.c (.d (.bool false))))),oM 47 46,oG 48 (.fieldAddr 1 (.t 7)) 47 true,oG 49 (.load .sc (.t 48)) 47 true,oG 50 (.bin .eql (.t 49) (kI 15)) 47 true,oO 51 (.pick (.t 47) (.t 50) (.k (.c (.d (.bool false))))),oM 52 51,oG 53 (.fieldAddr 4 (.t 7)) 52 true,oG 54 (.load .sc (.t 53)) 52 true,oG 55 (.len (.t 54)) 52 true,oG 56 (.bin .eql (.t 55) (kI 2)) 52 true,oO 57 (.pick (.t 52) (.t 56) (.k (.c (.d (.bool false))))),oM 58 57,oG 59 (.fieldAddr 5 (.t 7)) 58 true,oG 60 (.load .sc (.t 59)) 58 true,oG 61 (.bin .eql (.t 60) (.k (.c (.d (.str ⟨#[116,105,109,101,46,101,120,97,109,112,108,101]⟩))))) 58 true,oO 62 (.pick (.t 58) (.t 61) (.k (.c (.d (.bool false))))),oM 63 62,oG 64 (.fieldAddr 6 (.t 7)) 63 true,oG 65 (.load .sc (.t 64)) 63 true,oG 66 (.bin .eql (.t 65) (kI 123)) 63 true,
 oO 67 (.pick (.t 63) (.t 66) (.k (.c (.d (.bool false))))),oM 0 67]) (.ret)))))),[(0,none)]⟩
theorem MA:aC Tryz.prog { own:=[],comp:=[],frz:=[],nils:=[] } Tryz.f9=some AO:=by kernel_rfl
theorem NY (G:ah) (hF:G.at 0=some (.ra (cU.map wD))) (hG:G.at 1=some (.ra (bF.map wD))):ak Tryz.prog G 9 [] (.w (.c (.d (.bool true)))):=by
  refine aG Tryz.func9 MA rfl rfl ?_;have kl:=RN 1;have c1:=VI G 1;have c2:=y4 G [0] [15] (show (1:Nat)≤_ by decide) (show (1:Nat)≤_ by decide);have hq:cJ [0] [15]=0:=by decide
  have c3:=Se G;have c4:=VJ G 1 0 (by decide);rw[show (jc 0 6).toNat=0 from by decide] at c4;have c5:=q8 G 1 16 (by decide);have c6:=q8 G 2 16 (by decide);have l5:(bu 1 16).length=16:=oD _ _;have l6:(bu 2 16).length=16:=oD _ _;have hs:=Sf (s:=1) (K:=bu ((1:Nat):Int) 32) (t:=0) (n:=0) (m:=0) false (by decide) kl;have hn:ml [bu 1 16,bu 2 16] fL.ho:=⟨show (1:Nat)≤2 by decide,show (2:Nat)≤8 by decide,by decide,fun n hn=>by
    rcases WR.1 hn with rfl | hn
    ·exact l5
    ·rw[WG.1 hn]; exact l6⟩
  obtain⟨al,_,ag⟩:=agree (c':=cA true (eQ 1) 0 0) hq hs hn (Lh kl (by decide) (by decide)) rfl;obtain⟨a1,a2,_⟩:=ag 0 15 (by decide) (by decide);have bq:(bK [0] [15]).length≤65535:=by
    have e:bK [0] [15]=aY (dd [0] [15]):=if_pos hq;rw[e];exact (jP (x5 hq).1).2.2
  have rl:=mS 1 (bu ((1:Nat):Int) 32) 0;have c7:=V4 G hF hG fL (dt 1 (bu ((1:Nat):Int) 32) 0) (cA false (eQ 1) 0 0) (bK [0] [15]) [bu 1 16,bu 2 16] (by decide) (by decide) (by decide) (by omega) (by omega) (show (2:Nat)≤_ by decide) (fun n hn=>by
    rcases WR.1 hn with rfl | hn
    ·omega
    ·rw[WG.1 hn]; omega)
  have c8:=Wa G hF hG (cA true (eQ 1) 0 0) (bK [0] [15]) (i6 fL (dt 1 (bu ((1:Nat):Int) 32) 0) (cA false (eQ 1) 0 0) (bK [0] [15]) [bu 1 16,bu 2 16]) (by omega) (by omega);rw[a1,a2] at c8;rw[hs] at c7;rw[hq] at c2;clear hs hn ag a1 a2 al bq hF hG;have eh:(⟨fL.ho.data.toList.toArray⟩:ByteArray)=zT:=rfl;have ep:fL.pt=123:=rfl;unfold oh at c8;simp only[WH,W8,eh,ep] at c8;generalize i6 fL (dt 1 (bu ((1:Nat):Int) 32) 0) (cA false (eQ 1) 0 0) (bK [0] [15]) [bu 1 16,bu 2 16]=R at *
  generalize dL ((dt 1 (bu ((1:Nat):Int) 32) 0).getD 0 default) 15 (bw (cA false (eQ 1) 0 0) 0 15 0) (bw (cA false (eQ 1) 0 0) 0 15 1) (bu 1 16)=k1 at *
  generalize dL ((dt 1 (bu ((1:Nat):Int) 32) 0).getD 0 default) 15 (bw (cA false (eQ 1) 0 0) 0 15 0) (bw (cA false (eQ 1) 0 0) 0 15 1) (bu 2 16)=k2 at *
  generalize bw (cA false (eQ 1) 0 0) 0 15 0=k3 at *
  generalize bw (cA false (eQ 1) 0 0) 0 15 1=k4 at *
  generalize bK [0] [15]=Q at *
  generalize bu 1 16=b1 at *
  generalize bu 2 16=b2 at *
  generalize dt 1 (bu ((1:Nat):Int) 32) 0=ring at *
  generalize cA true (eQ 1) 0 0=A1 at *
  generalize cA false (eQ 1) 0 0=A2 at *
  unfold bB bR eV at *
  simp only[WH,W8,zD] at c2 c7;rw[show ((1:Nat):Int)=1 from rfl] at c4;generalize hP1:fL.pr.map zD=P1 at *
  generalize hP2:fL.al.map zD=P2 at *
  generalize fL.ho=P3 at *
  generalize fL.pt=P4 at *
  simp only[AO,af,ae,aa,seval,iteOmega,toNatUp];refine sD (c1) ?_;refine sD (c2) ?_;refine sD (c3) ?_;refine sD (c4) ?_;refine sD (c5) ?_;refine sD (c6) ?_;refine sD (c7) ?_;refine sD (c8) ?_;have es:(⟨#[116,105,109,101,46,101,120,97,109,112,108,101]⟩:ByteArray)=zT:=rfl;simp only[ae,aa,seval,iteOmega,toNatUp,es];exact aI
def lq (l:List Ek):Bool:=decide (l.length≤70)&&l.all fun r=>decide (r.bo.length≤60)
def tY (l:List Ek) (i:Nat):St:=⟨aQ [(0,.w (.c (.d (.sl (l.map aF))))),(3,.w (.c (.d (.int .i64 (i:Int)))))],hL [],uL []⟩
theorem Wb {l:List Ek} (h:lq l=true):l.length≤70∧∀ r∈l,r.bo.length≤60:=by
  unfold lq at h;rw[WX,WU] at h;exact⟨of_decide_eq_true h.1,fun r hr=>of_decide_eq_true (h.2 r hr)⟩
def qq:aM := .seq (.seq (.reg [oM 7 3,oM 8 0,oO 9 (.len (.t 8)),oO 10 (.bin .lss (.t 7) (.t 9))]) (.cond (.t 10) (.skip) (.exit 0))) (.seq (.block 1 (.seq (.reg [oM 13 0,oM 14 3,oO 15 (.idxSl 3 (.t 13) (.t 14)),oO 16 (.fieldAddr 2 (.t 15)),oO 17 (.load .sc (.t 16)),oO 18 (.len (.t 17)),oO 19 (.bin .gtr (.t 18) (kI 60))]) (.cond (.t 19) (.seq (.reg [oO 2 (.mv (.k (.c (.d (.bool false)))))]) (.ret)) (.skip)))) (.reg [oM 11 3,oO 12 (.bin .add (.t 11) (kI 1)),oM 3 12]))
def wm:aE:=⟨1,20,.seq (.reg [oO 2 (.mv (.k (.c (.d (.bool false)))))]) (.seq (.seq (.reg [oM 4 0,oO 5 (.len (.t 4)),oO 6 (.bin .gtr (.t 5) (kI 70))]) (.cond (.t 6) (.seq (.reg [oO 2 (.mv (.k (.c (.d (.bool false)))))]) (.ret)) (.skip))) (.seq (.seq (.reg [oO 3 (.mv (kI 0))]) (.block 0 (.loop qq))) (.seq (.reg [oO 2 (.mv (.k (.c (.d (.bool true)))))]) (.ret)))),[(2,none)]⟩
theorem PT:aC Tryz.prog { own:=[],comp:=[],frz:=[],nils:=[] } Tryz.f8=some wm:=by kernel_rfl
theorem Sg (G:ah) (l:List Ek):ak Tryz.prog G 8 [.sl (l.map aF)] (.w (.c (.d (.bool (lq l))))):=by
  refine aG Tryz.func8 PT rfl rfl ?_;by_cases h1:70<l.length
  ·have g1:((l.length:Int)>70)=True:=eq_true (by omega);rw[show lq l=false by unfold lq; rw[decide_eq_false (by omega),Bool.false_and]];simp only[wm,af,ae,aa,seval,iteOmega,toNatUp,g1];exact aI
  ·have g1:((l.length:Int)>70)=False:=eq_false (by omega);have e:lq l=l.all fun r=>decide (r.bo.length≤60):=by unfold lq; rw[decide_eq_true (by omega),Bool.true_and]
   rw[e];simp only[wm,af,ae,aa,seval,iteOmega,toNatUp,g1];refine ba (tY l) (fun i=>l.length-i) (fun i=>i≤l.length∧∀ r∈l.take i,r.bo.length≤60) 0 ⟨WI _,by rw[Xq]; exact fun r hr=>by cases hr⟩ ?_ ?_
   ·refine aw (fun _=>0) ?_ ?_ rfl rfl <;> simp only[wx,am,aH,aa,seval,iteOmega,toNatUp] <;> first | rfl | exact⟨rfl,rfl⟩ | skip
   ·rintro i ⟨hi,hp⟩;by_cases hlt:i<l.length
    ·have g:=io hlt;have hm:=hC hlt;have hs:=lu hlt;generalize l.getD i default=x at *
     by_cases h2:60<x.bo.length
     ·have g2:((x.bo.length:Int)>60)=True:=eq_true (by omega);rw[show (l.all fun r=>decide (r.bo.length≤60))=false from List.all_eq_false.2 ⟨x,hm,fun q=>by have:=of_decide_eq_true q; omega⟩];simp only[qq,tY,ae,aa,seval,iteOmega,toNatUp,aJ,g,aF,g2];exact aI
     ·have g2:((x.bo.length:Int)>60)=False:=eq_false (by omega);have hn:∀ r∈l.take (i+1),r.bo.length≤60:=by
        rw[hs];intro r hr;rcases WO.1 hr with hr | hr
        ·exact hp r hr
        ·rw[WG.1 hr]; omega
      simp only[qq,tY,ae,aa,seval,iteOmega,toNatUp,aJ,g,aF,g2];refine aS (i+1) (by omega) ⟨by omega,hn⟩ (aw (fun i=>i) ?_ ?_ rfl rfl) <;> simp only[wx,am,aH,aa,seval,iteOmega,toNatUp] <;> first | rfl | exact⟨rfl,rfl⟩ | skip
    ·rw[WE (by omega)] at hp;rw[WU.2 fun r hr=>decide_eq_true (hp r hr)];simp only[qq,tY,ae,aa,seval,iteOmega,toNatUp];exact aI
def zg (l:List Int) (i:Nat):St:=⟨aQ [(0,.w (.c (.d (.sl (l.map zD))))),(1,.w (.c (.d (.sl (l.map zD))))),(5,.w (.c (.d (.int .i64 (i:Int)))))],hL [],uL []⟩
def uS:aM := .seq (.seq (.reg [oM 11 5,oM 12 0,oO 13 (.len (.t 12)),oO 14 (.bin .lss (.t 11) (.t 13))]) (.cond (.t 14) (.skip) (.exit 0))) (.seq (.block 1 (.seq (.reg [oM 17 0,oM 18 5,oO 19 (.idxSl 1 (.t 17) (.t 18)),oO 20 (.load .sc (.t 19)),oM 21 1,oM 22 5,oO 23 (.idxSl 1 (.t 21) (.t 22)),oO 24 (.load .sc (.t 23)),oO 25 (.bin .neq (.t 20) (.t 24))]) (.cond (.t 25) (.seq (.reg [oO 4 (.mv (.k (.c (.d (.bool false)))))]) (.ret)) (.skip)))) (.reg [oM 15 5,oO 16 (.bin .add (.t 15) (kI 1)),oM 5 16]))
def E6:aE:=⟨2,26,.seq (.reg [oO 4 (.mv (.k (.c (.d (.bool false)))))]) (.seq (.seq (.reg [oM 6 0,oO 7 (.len (.t 6)),oM 8 1,oO 9 (.len (.t 8)),oO 10 (.bin .neq (.t 7) (.t 9))]) (.cond (.t 10) (.seq (.reg [oO 4 (.mv (.k (.c (.d (.bool false)))))]) (.ret)) (.skip))) (.seq (.seq (.reg [oO 5 (.mv (kI 0))]) (.block 0 (.loop uS))) (.seq (.reg [oO 4 (.mv (.k (.c (.d (.bool true)))))]) (.ret)))),[(4,none)]⟩
theorem PU:aC Tryz.prog { own:=[],comp:=[],frz:=[],nils:=[] } Tryz.f22=some E6:=by kernel_rfl
theorem Si (G:ah) (l:List Int) (hl:l.length≤9000000000000000000):ak Tryz.prog G 22 [.sl (l.map zD),.sl (l.map zD)] (.w (.c (.d (.bool true)))):=by
  refine aG Tryz.func22 PU rfl rfl ?_;simp only[E6,af,ae,aa,seval,iteOmega,toNatUp];refine ba (zg l) (fun i=>l.length-i) (fun i=>i≤l.length) 0 (WI _) ?_ ?_
  ·refine aw (fun _=>0) ?_ ?_ rfl rfl <;> simp only[wx,am,aH,aa,seval,iteOmega,toNatUp] <;> first | rfl | exact⟨rfl,rfl⟩ | skip
  ·intro i hi;by_cases hlt:i<l.length
   ·have g:=iW hlt;generalize l.getD i 0=x at *
    simp only[uS,zg,ae,aa,seval,iteOmega,toNatUp,aJ,g,zD];refine aS (i+1) (by omega) (by omega) (aw (fun i=>i) ?_ ?_ rfl rfl) <;> simp only[wx,am,aH,aa,seval,iteOmega,toNatUp] <;> first | rfl | exact⟨rfl,rfl⟩ | skip
   ·simp only[uS,zg,ae,aa,seval,iteOmega,toNatUp];exact aI
def jF:aE:=⟨4,191,.seq (.reg [oO 8 (.mv (.k (.c (.d (.bool false)))))]) (.seq (.seq (.reg [oM 33 0,oO 34 (.call 8 [(.t 33)] none),oO 35 (.un .not (.t 34)),oM 36 35,oG 37 (.mv (.t 1)) 36 false,oG 38 (.len (.t 37)) 36 false,oG 39 (.bin .gtr (.t 38) (kI 400)) 36 false,oO 40 (.pick (.t 36) (.k (.c (.d (.bool true)))) (.t 39)),oM 41 40,oG 42 (.mv (.t 2)) 41 false,oG 43 (.len (.t 42)) 41 false,oG 44 (.bin .gtr (.t 43) (kI 20)) 41 false,oO 45 (.pick (.t 41) (.k (.c (.d (.bool true)))) (.t 44)),oM 46 45,oG 47 (.mv (.t 3)) 46 false,oG 48 (.len (.t 47)) 46 false,oG 49 (.bin .gtr (.t 48) (kI 20)) 46 false,oO 50 (.pick (.t 46) (.k (.c (.d (.bool true)))) (.t 49))]) (.cond (.t 50) (.seq (.reg [oO 51 (.call 9 [] none),oM 8 51]) (.ret)) (.skip))) (.seq (.reg [oM 53 0,oO 54 (.call 10 [(.t 53)] none),
 oM 52 54,oO 55 (.extract (.t 52) 0),oO 56 (.extract (.t 52) 1),oM 9 55,oM 10 56]) (.seq (.reg [oM 58 0,oO 59 (.call 11 [(.t 58)] none),oM 57 59,oO 60 (.extract (.t 57) 0),oO 61 (.extract (.t 57) 1),oM 11 60,oM 12 61]) (.seq (.reg [oM 63 1,oO 64 (.call 12 [(.t 63)] none),oM 62 64,oO 65 (.extract (.t 62) 0),oO 66 (.extract (.t 62) 1),oM 13 65,oM 14 66]) (.seq (.reg [oM 68 1,oO 69 (.call 13 [(.t 68)] none),oM 67 69,oO 70 (.extract (.t 67) 0),oO 71 (.extract (.t 67) 1),oM 15 70,oM 16 71]) (.seq (.reg [oM 73 1,oO 74 (.call 14 [(.t 73)] none),oM 72 74,oO 75 (.extract (.t 72) 0),oO 76 (.extract (.t 72) 1),oM 17 75,oM 18 76]) (.seq (.reg [oM 78 1,oO 79 (.call 15 [(.t 78)] none),oM 77 79,oO 80 (.extract (.t 77) 0),oO 81 (.extract (.t 77) 1),oM 19 80,oM 20 81]) (.seq (.reg [oM 83 2,oM 84 3,oO 85 (.call 16 [(.t 83),(.t 84)] none),
 oM 82 85,oO 86 (.extract (.t 82) 0),oO 87 (.extract (.t 82) 1),oM 21 86,oM 22 87]) (.seq (.reg [oM 89 2,oM 90 3,oO 91 (.call 17 [(.t 89),(.t 90)] none),oM 88 91,oO 92 (.extract (.t 88) 0),oO 93 (.extract (.t 88) 1),oM 23 92,oM 24 93]) (.seq (.reg [oM 95 2,oM 96 3,oO 97 (.call 18 [(.t 95),(.t 96)] none),oM 94 97,oO 98 (.extract (.t 94) 0),oO 99 (.extract (.t 94) 1),oM 25 98,oM 26 99]) (.seq (.reg [oM 101 2,oM 102 3,oO 103 (.call 19 [(.t 101),(.t 102)] none),oM 100 103,oO 104 (.extract (.t 100) 0),oO 105 (.extract (.t 100) 1),oM 27 104,oM 28 105]) (.seq (.seq (.reg [oM 106 10,oM 107 12,oO 108 (.bin .neq (.t 106) (.t 107)),oM 109 108,oG 110 (.mv (.t 9)) 109 false,oG 111 (.mv (.t 11)) 109 false,oG 112 (.call 20 [(.t 110),(.t 111)] none) 109 false,oG 113 (.un .not (.t 112)) 109 false,oO 114 (.pick (.t 109) (.k (.c (.d (.bool true)))) (.t 113)),
 oM 115 114,oG 116 (.mv (.t 14)) 115 false,oG 117 (.mv (.t 16)) 115 false,oG 118 (.bin .neq (.t 116) (.t 117)) 115 false,oO 119 (.pick (.t 115) (.k (.c (.d (.bool true)))) (.t 118)),oM 120 119,oG 121 (.mv (.t 13)) 120 false,oG 122 (.mv (.t 15)) 120 false,oG 123 (.call 21 [(.t 121),(.t 122)] none) 120 false,oG 124 (.un .not (.t 123)) 120 false,oO 125 (.pick (.t 120) (.k (.c (.d (.bool true)))) (.t 124)),oM 126 125,oG 127 (.mv (.t 18)) 126 false,oG 128 (.mv (.t 20)) 126 false,oG 129 (.eqB true (.t 127) (.t 128)) 126 false,oO 130 (.pick (.t 126) (.k (.c (.d (.bool true)))) (.t 129)),oM 131 130,oG 132 (.mv (.t 17)) 131 false,oG 133 (.mv (.t 19)) 131 false,oG 134 (.call 22 [(.t 132),(.t 133)] none) 131 false,oG 135 (.un .not (.t 134)) 131 false,oO 136 (.pick (.t 131) (.k (.c (.d (.bool true)))) (.t 135)),
 oM 137 136,oG 138 (.mv (.t 22)) 137 false,oG 139 (.mv (.t 24)) 137 false,oG 140 (.bin .neq (.t 138) (.t 139)) 137 false,oO 141 (.pick (.t 137) (.k (.c (.d (.bool true)))) (.t 140)),oM 142 141,oG 143 (.mv (.t 21)) 142 false,oG 144 (.mv (.t 23)) 142 false,oG 145 (.call 20 [(.t 143),(.t 144)] none) 142 false,oG 146 (.un .not (.t 145)) 142 false,oO 147 (.pick (.t 142) (.k (.c (.d (.bool true)))) (.t 146)),oM 148 147,oG 149 (.mv (.t 26)) 148 false,oG 150 (.mv (.t 28)) 148 false,oG 151 (.eqB true (.t 149) (.t 150)) 148 false,oO 152 (.pick (.t 148) (.k (.c (.d (.bool true)))) (.t 151)),oM 153 152,oG 154 (.mv (.t 25)) 153 false,oG 155 (.mv (.t 27)) 153 false,oG 156 (.bin .neq (.t 154) (.t 155)) 153 false,oO 157 (.pick (.t 153) (.k (.c (.d (.bool true)))) (.t 156))]) (.cond (.t 157) (.seq (.reg [oO 8 (.mv (.k (.c (.d (.bool false)))))])
 (.ret)) (.skip))) (.seq (.seq (.reg [oM 158 10,oO 159 (.bin .eql (.t 158) (kI 0))]) (.cond (.t 159) (.seq (.reg [oM 161 9,oO 162 (.call 12 [(.t 161)] none),oM 160 162,oO 163 (.extract (.t 160) 0),oO 164 (.extract (.t 160) 1),oM 29 163,oM 30 164]) (.seq (.reg [oM 165 30,oO 166 (.bin .neq (.t 165) (kI 0)),oM 167 166,oG 168 (.mv (.t 29)) 167 false,oG 169 (.mv (.t 0)) 167 false,oG 170 (.call 21 [(.t 168),(.t 169)] none) 167 false,oG 171 (.un .not (.t 170)) 167 false,oO 172 (.pick (.t 167) (.k (.c (.d (.bool true)))) (.t 171))]) (.cond (.t 172) (.seq (.reg [oO 8 (.mv (.k (.c (.d (.bool false)))))]) (.ret)) (.skip)))) (.skip))) (.seq (.seq (.reg [oM 173 14,oO 174 (.bin .neq (.t 173) (kI 0))]) (.cond (.t 174) (.seq (.reg [oO 175 (.call 9 [] none),oM 8 175]) (.ret)) (.skip))) (.seq (.reg [oM 177 13,
 oO 178 (.call 10 [(.t 177)] none),oM 176 178,oO 179 (.extract (.t 176) 0),oO 180 (.extract (.t 176) 1),oM 31 179,oM 32 180]) (.seq (.reg [oO 181 (.call 9 [] none),oM 182 181,oG 183 (.mv (.t 32)) 182 true,oG 184 (.bin .eql (.t 183) (kI 0)) 182 true,oO 185 (.pick (.t 182) (.t 184) (.k (.c (.d (.bool false))))),oM 186 185,oG 187 (.mv (.t 31)) 186 true,oG 188 (.mv (.t 1)) 186 true,oG 189 (.call 20 [(.t 187),(.t 188)] none) 186 true,oO 190 (.pick (.t 186) (.t 189) (.k (.c (.d (.bool false))))),oM 8 190]) (.ret))))))))))))))))),[(8,none)]⟩
theorem Sj:aC Tryz.prog { own:=[],comp:=[],frz:=[],nils:=[] } Tryz.f3=some jF:=by kernel_rfl
set_option maxHeartbeats 1600000 in
theorem Vd (G:ah) (l:List Ek) (hl1:l.length≤maxLen) (hl2:∀ f∈l,zM f) (b:List UInt8) (hb:b.length≤maxLen) (x:List Int) (hx1:x.length≤maxLen) (hx2:∀ n∈x,pX n) (y:List Int) (hy1:y.length≤maxLen) (hy2:∀ n∈y,pX n) (hF:G.at 0=some (.ra (cU.map wD))) (hG:G.at 1=some (.ra (bF.map wD))):ak Tryz.prog G 3 [.sl (l.map aF),.sl (b.map bD),.sl (x.map zD),.sl (y.map zD)] (.w (.c (.d (.bool true)))):=by
  refine aG Tryz.func3 Sj rfl rfl ?_;have hmx:maxLen=9223372036854775807:=rfl;rw[hmx] at hl1 hb hx1 hy1;have ck:=NY G hF hG;have cl:=Sg G l;by_cases hl:lq l=true
  ·rw[hl] at cl;obtain⟨l70,l60⟩:=Wb hl;by_cases h1:(b.length:Int)>400
   ·have g1:=eq_true h1;simp only[jF,af,ae,aa,seval,iteOmega,toNatUp];refine sC (cl) ?_;simp only[g1,ae,aa,seval,iteOmega,toNatUp];refine sD (ck) ?_;exact aI
   ·have g1:=eq_false h1;by_cases h2:(x.length:Int)>20
    ·have g2:=eq_true h2;simp only[jF,af,ae,aa,seval,iteOmega,toNatUp];refine sC (cl) ?_;simp only[g1,g2,ae,aa,seval,iteOmega,toNatUp];refine sD (ck) ?_;exact aI
    ·have g2:=eq_false h2;by_cases h3:(y.length:Int)>20
     ·have g3:=eq_true h3;simp only[jF,af,ae,aa,seval,iteOmega,toNatUp];refine sC (cl) ?_;simp only[g1,g2,g3,ae,aa,seval,iteOmega,toNatUp];refine sD (ck) ?_;exact aI
     ·have g3:=eq_false h3;have a1:=tq G l (by omega) (fun r hr=>by have:=l60 r hr; omega);have a2:=KD G l (by omega) (fun r hr=>by have:=l60 r hr; omega);have a3:=y3 G b (by omega);have a4:=VE G b (by omega);have a5:=y1 G b (by omega);have a6:=VC G b (by omega);have a7:=y4 G x y (by omega) (by omega);have a8:=VK G x y (by omega) (by omega);have a9:=y5 G x y (by omega) (by omega);have aA:=VB G x y (by omega) (by omega);obtain⟨dbo,dl⟩:=pA (b:=b);have s1:=rH G (dX l) (dX l);have s2:=KX G (aK b) (by omega);have s3:=Si G (dB b) (by have:=nr b; omega);have s4:=rH G (bK x y) (bK x y);rw[beq_self_eq_true] at s1 s4;have hE:cx l=0→(∀ G,ak Tryz.prog G _ [.sl ((dX l).map bD)] (.tup [.c (.d (.sl (l.map aF))),.c (.d (.int .i64 0))])):=fun q G=>by
        have e:dX l=aY l:=if_pos q;obtain⟨d1,d2⟩:=yy q;have:=y3 G (dX l) (by rw[e]; have:=(jP q).2.2; omega);rw[e,d1,d2] at this;rw[e];exact this
      have s5:=KX G l (by omega);have hD:cN b=0→(∀ G,ak Tryz.prog G _ [.sl ((aK b).map aF)] (.tup [.c (.d (.sl (b.map bD))),.c (.d (.int .i64 0))])):=fun q G=>by
        obtain⟨d1,d2,_,d4⟩:=yz q;have:=tq G (aK b) (by omega) (fun r hr=>by have:=dbo r hr; omega);rw[d1,show dX (aK b)=aY (aK b) from if_pos d1,d2] at this;exact this
      have s6:=rH G b b;rw[beq_self_eq_true] at s6;clear dbo l60;generalize dX l=B at *
      generalize cx l=e1 at *
      generalize aK b=M at *
      generalize cN b=e2 at *
      generalize dB b=U at *
      generalize decide (b.length%2=0)=v at *
      generalize bK x y=R at *
      generalize cJ x y=e3 at *
      generalize (de x y).getD 0=k1 at *
      generalize (de x y).isSome=k2 at *
      by_cases x1:e1=0
      ·have c1:=hE x1 G;have q1:=eq_true x1;by_cases x2:e2=0
       ·have c2:=hD x2 G;have q2:=eq_true x2;clear hE hD;simp only[jF,af,ae,aa,seval,iteOmega,toNatUp];refine sC (cl) ?_;simp only[g1,g2,g3,ae,aa,seval,iteOmega,toNatUp];refine sD (a1) ?_;refine sD (a2) ?_;refine sD (a3) ?_;refine sD (a4) ?_;refine sD (a5) ?_;refine sD (a6) ?_;refine sD (a7) ?_;refine sD (a8) ?_;refine sD (a9) ?_;refine sD (aA) ?_;refine sD (s1) ?_;refine sD (s2) ?_;refine sD (s3) ?_;refine sC (s4) ?_;simp only[q1,ae,aa,seval,iteOmega,toNatUp];refine sD (c1) ?_;refine sC (s5) ?_;simp only[q2,ae,aa,seval,iteOmega,toNatUp];refine sD (c2) ?_;refine sD (ck) ?_;refine sD (s6) ?_;exact aI
       ·have q2:=eq_false x2;clear hE hD;simp only[jF,af,ae,aa,seval,iteOmega,toNatUp];refine sC (cl) ?_;simp only[g1,g2,g3,ae,aa,seval,iteOmega,toNatUp];refine sD (a1) ?_;refine sD (a2) ?_;refine sD (a3) ?_;refine sD (a4) ?_;refine sD (a5) ?_;refine sD (a6) ?_;refine sD (a7) ?_;refine sD (a8) ?_;refine sD (a9) ?_;refine sD (aA) ?_;refine sD (s1) ?_;refine sD (s2) ?_;refine sD (s3) ?_;refine sC (s4) ?_;simp only[q1,ae,aa,seval,iteOmega,toNatUp];refine sD (c1) ?_;refine sC (s5) ?_;simp only[q2,ae,aa,seval,iteOmega,toNatUp];refine sD (ck) ?_;exact aI
      ·have q1:=eq_false x1;by_cases x2:e2=0
       ·have c2:=hD x2 G;have q2:=eq_true x2;clear hE hD;simp only[jF,af,ae,aa,seval,iteOmega,toNatUp];refine sC (cl) ?_;simp only[g1,g2,g3,ae,aa,seval,iteOmega,toNatUp];refine sD (a1) ?_;refine sD (a2) ?_;refine sD (a3) ?_;refine sD (a4) ?_;refine sD (a5) ?_;refine sD (a6) ?_;refine sD (a7) ?_;refine sD (a8) ?_;refine sD (a9) ?_;refine sD (aA) ?_;refine sD (s1) ?_;refine sD (s2) ?_;refine sD (s3) ?_;refine sC (s4) ?_;simp only[q1,q2,ae,aa,seval,iteOmega,toNatUp];refine sD (c2) ?_;refine sD (ck) ?_;refine sD (s6) ?_;exact aI
       ·have q2:=eq_false x2;clear hE hD;simp only[jF,af,ae,aa,seval,iteOmega,toNatUp];refine sC (cl) ?_;simp only[g1,g2,g3,ae,aa,seval,iteOmega,toNatUp];refine sD (a1) ?_;refine sD (a2) ?_;refine sD (a3) ?_;refine sD (a4) ?_;refine sD (a5) ?_;refine sD (a6) ?_;refine sD (a7) ?_;refine sD (a8) ?_;refine sD (a9) ?_;refine sD (aA) ?_;refine sD (s1) ?_;refine sD (s2) ?_;refine sD (s3) ?_;refine sC (s4) ?_;simp only[q1,q2,ae,aa,seval,iteOmega,toNatUp];refine sD (ck) ?_;exact aI
  ·rw[Bool.eq_false_iff.2 hl] at cl;simp only[jF,af,ae,aa,seval,iteOmega,toNatUp];refine sD (cl) ?_;refine sD (ck) ?_;exact aI
end Go.Proofs.YtlghfnidknfakaaGreatDoor
