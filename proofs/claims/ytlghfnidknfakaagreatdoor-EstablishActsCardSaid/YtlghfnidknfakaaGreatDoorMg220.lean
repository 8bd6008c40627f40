/- Texts of one's own, merged: from: Layer 21 on data: the reference: Encode,body,short,Numbers,all,Request,has,Choose,strange. Own work. -/
import Derived.Test.YtlghfnidknfakaaGreatDoorMg218
import Derived.Test.YtlghfnidknfakaaGreatDoorMg215
import Derived.Test.YtlghfnidknfakaaGreatDoorMg219
import Derived.Test.YtlghfnidknfakaaGreatDoorMg217
import Derived.Test.YtlghfnidknfakaaGreatDoorMg27
import Derived.Test.YtlghfnidknfakaaGreatDoorMg214
import Derived.Shelf.Abstract
set_option linter.unusedVariables false
set_option linter.unusedSimpArgs false
namespace Go.Proofs.YtlghfnidknfakaaGreatDoor
open Go.RowKit IntWalk
theorem Uo (a:Nat) (h:a<32768):bits .or .u64 (a:Int) 32768=((a+32768:Nat):Int):=by
  have e1:(BitVec.ofInt 64 (a:Int)).toNat=a:=by rw[BitVec.toNat_ofInt]; omega
  have e2:(BitVec.ofInt 64 (32768:Int)).toNat=32768:=by decide
  have e:32768 ||| a=a+32768:=by
    have:=Nat.two_pow_add_eq_or_of_lt (i:=15) (b:=a) (by omega) 1;rw[show 2^15*1=32768 from rfl] at this;rw[← this]; omega
  show IntKind.u64.wrap ((BitVec.ofInt 64 (a:Int) ||| BitVec.ofInt 64 (32768:Int)).toNat:Nat)=_
  rw[BitVec.toNat_or,e1,e2,Nat.or_comm,e,IntKind.wrap_u64];omega
theorem SB (n:Int):bits .and .i64 n 32767=n%32768:=IX 15 32767 (by decide) n (by decide)
def kH (l:List Ek) (i:Nat):St:=⟨aQ [(0,.w (.c (.d (.sl (l.map ak))))),(4,.w (.c (.own 1 1 0 (eQ l i).length))),(5,.w (.c (.d (.int .i64 (i:Int)))))],hL [(1,.row 1 ((eQ l i).map bD))],uL [1]⟩
def kj:aN := .seq (.seq (.reg [oM 8 5,oM 9 0,oO 10 (.len (.t 9)),oO 11 (.bin .lss (.t 8) (.t 10))]) (.cond (.t 11) (.skip) (.exit 0))) (.seq (.block 1 (.seq (.seq (.reg [oM 14 0,oM 15 5,oO 16 (.idxSl 3 (.t 14) (.t 15)),oO 17 (.fieldAddr 1 (.t 16)),oO 18 (.load .sc (.t 17)),oO 19 (.bin .lss (.t 18) (kI 0)),oM 20 19,oG 21 (.mv (.t 0)) 20 false,oG 22 (.mv (.t 5)) 20 false,oG 23 (.idxSl 3 (.t 21) (.t 22)) 20 false,oG 24 (.fieldAddr 1 (.t 23)) 20 false,oG 25 (.load .sc (.t 24)) 20 false,oG 26 (.bin .gtr (.t 25) (kI 32767)) 20 false,oO 27 (.pick (.t 20) (.k (.c (.d (.bool true)))) (.t 26))]) (.cond (.t 27) (.seq (.reg [oO 2 (.mv (.k (.c .nil))),oO 3 (.mv (kI 4))]) (.ret)) (.skip))) (.seq (.seq (.reg [oM 28 0,oM 29 5,oO 30 (.idxSl 3 (.t 28) (.t 29)),oO 31 (.fieldAddr 2 (.t 30)),oO 32 (.load .sc (.t 31)),
 oO 33 (.len (.t 32)),oO 34 (.bin .gtr (.t 33) (kI 65535))]) (.cond (.t 34) (.seq (.reg [oO 2 (.mv (.k (.c .nil))),oO 3 (.mv (kI 2))]) (.ret)) (.skip))) (.seq (.reg [oM 35 0,oM 36 5,oO 37 (.idxSl 3 (.t 35) (.t 36)),oO 38 (.fieldAddr 1 (.t 37)),oO 39 (.load .sc (.t 38)),oO 40 (.conv .u64 (.t 39)),oM 6 40]) (.seq (.seq (.reg [oM 41 0,oM 42 5,oO 43 (.idxSl 3 (.t 41) (.t 42)),oO 44 (.fieldAddr 0 (.t 43)),oO 45 (.load .sc (.t 44))]) (.cond (.t 45) (.reg [oM 46 6,oO 47 (.bin .or (.t 46) (.k (.c (.d (.int .u64 32768))))),oM 6 47]) (.skip))) (.seq (.reg [oM 48 4,oO 49 (.len (.t 48)),oO 50 (.bin .leq (.t 49) (kI 65535))]) (.cond (.t 50) (.reg [oM 51 4,oM 52 6,oO 53 (.call 44 [(.t 52),(kI 2)] none),oM 54 0,oM 55 5,oO 56 (.idxSl 3 (.t 54) (.t 55)),oO 57 (.fieldAddr 2 (.t 56)),oO 58 (.load .sc (.t 57)),
 oO 59 (.len (.t 58)),oO 60 (.conv .u64 (.t 59)),oO 61 (.call 44 [(.t 60),(kI 2)] none),oM 62 0,oM 63 5,oO 64 (.idxSl 3 (.t 62) (.t 63)),oO 65 (.fieldAddr 2 (.t 64)),oO 66 (.load .sc (.t 65)),oO 67 (.bldSl false 3 1 (.sl []) [(0,(.t 53)),(1,(.t 61)),(2,(.t 66))]),oO 68 (.call 43 [(.t 67)] none),oO 69 (.app false 1 1 (.t 51) (.t 68)),oM 4 69]) (.skip)))))))) (.reg [oM 12 5,oO 13 (.bin .add (.t 12) (kI 1)),oM 5 13]))
def Ny:aH:=⟨1,77,.seq (.reg [oO 2 (.mv (.k (.c .nil))),oO 3 (.mv (kI 0))]) (.seq (.reg [oO 7 (.bldSl true 0 1 (.int .u8 0) []),oM 4 7]) (.seq (.seq (.reg [oO 5 (.mv (kI 0))]) (.block 0 (.loop kj))) (.seq (.seq (.reg [oM 70 0,oO 71 (.len (.t 70)),oO 72 (.bin .gtr (.t 71) (kI 64))]) (.cond (.t 72) (.seq (.reg [oO 2 (.mv (.k (.c .nil))),oO 3 (.mv (kI 8))]) (.ret)) (.skip))) (.seq (.seq (.reg [oM 73 4,oO 74 (.len (.t 73)),oO 75 (.bin .gtr (.t 74) (kI 65535))]) (.cond (.t 75) (.seq (.reg [oO 2 (.mv (.k (.c .nil))),oO 3 (.mv (kI 2))]) (.ret)) (.skip))) (.seq (.reg [oM 76 4,oM 2 76,oO 3 (.mv (kI 0))]) (.ret)))))),[(2,none),(3,none)]⟩
theorem Yy:aG Tryz.prog { own:=[7],comp:=[],frz:=[],nils:=[] } Tryz.f11=some Ny:=by kernel_rfl
set_option maxHeartbeats 3200000 in
theorem OX (G:ah) (l:List Ek) (hl:l.length≤9000000000000000000) (hb:∀ r∈l,r.bo.length≤9223372036854775807):aw Tryz.prog G 11 [.sl (l.map ak)] (.tup [.c (.fr 1 ((ix l).map bD)),.c (.d (.int .i64 (cW l)))]):=by
  refine aI Tryz.func11 Yy rfl rfl ?_;simp only[Ny,af,ae,aa,seval,iteOmega,toNatUp];refine aU (kH l) (fun i=>l.length-i) (fun i=>i≤l.length∧fo (l.take i)=0) 0 ⟨abc _,by rw[abS]; rfl⟩ ?_ ?_
  ·refine aj (fun _=>56) ?_ ?_ rfl rfl <;> simp only[wx,ai,am,aa,seval,iteOmega,toNatUp] <;> first | rfl | exact⟨rfl,rfl⟩ | skip
  ·rintro i ⟨hi,hW⟩;have hO:=Ks l i hi fun r hr=>(kD (sP.1 hW r hr)).2.2
   by_cases hlt:i<l.length
   ·have g:=i8 hlt;have hm:=hb _ (gg hlt);have hst:=Ie hlt hW;have hnx:=zH hlt hW;have hno:∀ e,cM (l.getD i default)=e→e≠0→cW l=e∧ix l=[]:=fun e h1 h2=>by
      have h3:=hst (by rw[h1]; exact h2);have h4:cW l=e:=by unfold cW; rw[if_neg (by rw[h3,h1]; exact h2),h3,h1]
      exact⟨h4,if_neg (by rw[h4]; exact h2)⟩
    have eO:eQ l (i+1)=if (eQ l i).length≤65535 then eQ l i++dY (l.getD i default) else eQ l i:=rfl
    have hF:cM (l.getD i default)=if (l.getD i default).ty<0∨32767<(l.getD i default).ty then 4 else if 65535<(l.getD i default).bo.length then 2 else 0:=rfl
    have hB:dY (l.getD i default)=aV (iw (l.getD i default)) 2++(aV (l.getD i default).bo.length 2++(l.getD i default).bo):=rfl;have hT:iw (l.getD i default)=(l.getD i default).ty.toNat+if (l.getD i default).cr=true then 32768 else 0:=rfl
    generalize hx:l.getD i default=x at *
    generalize cM x=f at *
    generalize dY x=B at *
    generalize iw x=T at *
    obtain⟨cr,ty,bo⟩:=x;dsimp only at *
    by_cases h1:ty<0
    ·have g1:=eq_true h1;obtain⟨q1,q2⟩:=hno 4 (by rw[hF,if_pos (.inl h1)]) (by decide);rw[q1,q2];clear hst hnx hno eO hB hT;simp only[kj,kH,ae,aa,seval,iteOmega,toNatUp,aC,g,ak,g1];exact bY
    ·have g1:=eq_false h1;by_cases h2:ty>32767
     ·have g2:=eq_true h2;obtain⟨q1,q2⟩:=hno 4 (by rw[hF,if_pos (.inr h2)]) (by decide);rw[q1,q2];clear hst hnx hno eO hB hT;simp only[kj,kH,ae,aa,seval,iteOmega,toNatUp,aC,g,ak,g1,g2];exact bY
     ·have g2:=eq_false h2;rw[if_neg (by omega)] at hF;by_cases h3:65535<bo.length
      ·have g3:((bo.length:Int)>65535)=True:=eq_true (by omega);obtain⟨q1,q2⟩:=hno 2 (by rw[hF,if_pos h3]) (by decide);rw[q1,q2];clear hst hnx hno eO hB hT;simp only[kj,kH,ae,aa,seval,iteOmega,toNatUp,aC,g,ak,g1,g2,g3];exact bY
      ·have g3:((bo.length:Int)>65535)=False:=eq_false (by omega);rw[if_neg h3] at hF;subst hF;obtain⟨a,rfl⟩:=ab7 (show 0≤ty by omega);rw[show ((a:Nat):Int).toNat=a from rfl] at hT;have hor:=Uo a (by omega);by_cases hs:(eQ l i).length≤65535
       ·rw[if_pos hs] at eO;have gs:(((eQ l i).length:Int)≤65535)=True:=eq_true (by omega);have c1:=rV G T 2 (by decide);have c2:=rV G bo.length 2 (by decide);rw[show (2:Int).toNat=2 from rfl] at c1 c2;have c3:=fQ G [aV T 2,aV bo.length 2,bo] (by simp) (by simp[bU]; omega);rw[show [aV T 2,aV bo.length 2,bo].flatten=B from by rw[hB]; simp] at c3;simp only[abd,abo] at c3;have hBl:B.length≤70000:=by rw[hB]; simp[bU]; omega
        clear hst hno hB;generalize aV T 2=P1 at *
        generalize aV bo.length 2=P2 at *
        generalize hOO:eQ l i=O at *
        cases cr
        ·rw[if_neg ac6,ab8] at hT;subst hT;simp only[kj,kH,ae,aa,seval,iteOmega,toNatUp,aC,g,ak,g1,g2,g3,hOO,gs];refine sC (c1) ?_;simp only[aC,g,ak,ae,aa,seval,iteOmega,toNatUp];refine sC (c2) ?_;simp only[aC,g,ak,ae,aa,seval,iteOmega,toNatUp];refine sC (c3) ?_;simp only[a7,ae,aa,seval,iteOmega,toNatUp];refine aM (i+1) (by omega) ⟨by omega,by rw[hnx]⟩ (aj (fun _=>552) ?_ ?_ rfl rfl) <;> simp only[eO,wx,ai,am,aa,seval,iteOmega,toNatUp] <;> first | rfl | exact⟨rfl,rfl⟩ | skip
        ·rw[if_pos rfl] at hT;subst hT;simp only[kj,kH,ae,aa,seval,iteOmega,toNatUp,aC,g,ak,g1,g2,g3,hOO,gs,hor];refine sC (c1) ?_;simp only[aC,g,ak,ae,aa,seval,iteOmega,toNatUp];refine sC (c2) ?_;simp only[aC,g,ak,ae,aa,seval,iteOmega,toNatUp];refine sC (c3) ?_;simp only[a7,ae,aa,seval,iteOmega,toNatUp];refine aM (i+1) (by omega) ⟨by omega,by rw[hnx]⟩ (aj (fun _=>552) ?_ ?_ rfl rfl) <;> simp only[eO,wx,ai,am,aa,seval,iteOmega,toNatUp] <;> first | rfl | exact⟨rfl,rfl⟩ | skip
       ·rw[if_neg hs] at eO;have gs:(((eQ l i).length:Int)≤65535)=False:=eq_false (by omega);clear hst hno hB;generalize hOO:eQ l i=O at *
        cases cr
        ·simp only[kj,kH,ae,aa,seval,iteOmega,toNatUp,aC,g,ak,g1,g2,g3,hOO,gs];refine aM (i+1) (by omega) ⟨by omega,by rw[hnx]⟩ (aj (fun i=>i) ?_ ?_ rfl rfl) <;> simp only[eO,wx,ai,am,aa,seval,iteOmega,toNatUp] <;> first | rfl | exact⟨rfl,rfl⟩ | skip
        ·simp only[kj,kH,ae,aa,seval,iteOmega,toNatUp,aC,g,ak,g1,g2,g3,hOO,gs,hor];refine aM (i+1) (by omega) ⟨by omega,by rw[hnx]⟩ (aj (fun i=>i) ?_ ?_ rfl rfl) <;> simp only[eO,wx,ai,am,aa,seval,iteOmega,toNatUp] <;> first | rfl | exact⟨rfl,rfl⟩ | skip
   ·obtain rfl:i=l.length:=by omega
    rw[abv] at hW;obtain⟨a1,a2⟩:=U3 l;by_cases h4:64<l.length
    ·have e:cW l=8:=by unfold cW; rw[if_pos hW,if_pos h4]
     rw[show ix l=[] from if_neg (by rw[e]; decide),e];have g4:((l.length:Int)>64)=True:=eq_true (by omega);simp only[kj,kH,ae,aa,seval,iteOmega,toNatUp,g4];exact bY
    ·have g4:((l.length:Int)>64)=False:=eq_false (by omega);by_cases h5:(bc l).length≤65535
     ·have e:cW l=0:=by unfold cW; rw[if_pos hW,if_neg h4,if_neg (by omega)]
      rw[show ix l=bc l from if_pos e,e];have e5:=a1 h5;simp only[kj,kH,ae,aa,seval,iteOmega,toNatUp,g4];rw[e5];have g5:(((bc l).length:Int)>65535)=False:=eq_false (by omega);simp only[ae,aa,seval,iteOmega,toNatUp,g5];exact bY
     ·have e:cW l=2:=by unfold cW; rw[if_pos hW,if_neg h4,if_pos (by omega)]
      rw[show ix l=[] from if_neg (by rw[e]; decide),e];have e5:=a2 h5;have g5:(((eQ l l.length).length:Int)>65535)=True:=eq_true (by omega);simp only[kj,kH,ae,aa,seval,iteOmega,toNatUp,g4,g5];exact bY
theorem OY (G:ah) (l:List Ek) (hl:l.length≤9000000000000000000) (hb:∀ r∈l,r.bo.length≤9223372036854775807):aw Tryz.prog G 11 [.sl (l.map ak)] (.tup [.c (.d (.sl ((ix l).map bD))),.c (.d (.int .i64 (cW l)))]):=mP (OX G l hl hb)
set_option maxHeartbeats 1600000
def bT (n:Nat):D:=.int .i64 (n:Int)
theorem Up (l:List Nat):dT 1 (l.map bT)=true:=o9 bT (fun _=>rfl) l
theorem kQ {l:List Int} {i:Nat} (h:i<l.length):l[i]?=some (l.getD i 0):=by
  rw[abb,aa7 h]; rfl
theorem pv {l:List Int} {i:Nat} (h:i<l.length):l.getD i 0∈l:=by
  rw[abb,aa7 h];exact abG h
theorem lK {l:List Int} {i:Nat} (h:i<l.length):l.take (i+1)=l.take i++[l.getD i 0]:=by
  rw[aco,kQ h]; rfl
def CQ (l:List Int) (i:Nat):St:=⟨aQ [(0,.w (.c (.d (.sl (l.map zD))))),(3,.w (.c (.own 1 1 0 (aT (l.take i)).length))),(4,.w (.c (.d (.int .i64 (i:Int)))))],hL [(1,.row 1 ((aT (l.take i)).map bD))],uL [1]⟩
def Ab:aN := .seq (.seq (.reg [oM 6 4,oM 7 0,oO 8 (.len (.t 7)),oO 9 (.bin .lss (.t 6) (.t 8))]) (.cond (.t 9) (.skip) (.exit 0))) (.seq (.block 1 (.reg [oM 12 3,oM 13 0,oM 14 4,oO 15 (.idxSl 1 (.t 13) (.t 14)),oO 16 (.load .sc (.t 15)),oO 17 (.conv .u64 (.t 16)),oO 18 (.call 44 [(.t 17),(kI 2)] none),oO 19 (.app false 1 1 (.t 12) (.t 18)),oM 3 19])) (.reg [oM 10 4,oO 11 (.bin .add (.t 10) (kI 1)),oM 4 11]))
def Nz:aH:=⟨1,21,.seq (.reg [oO 2 (.mv (.k (.c .nil)))]) (.seq (.reg [oO 5 (.bldSl true 0 1 (.int .u8 0) []),oM 3 5]) (.seq (.seq (.reg [oO 4 (.mv (kI 0))]) (.block 0 (.loop Ab))) (.seq (.reg [oM 20 3,oM 2 20]) (.ret)))),[(2,none)]⟩
theorem Yz:aG Tryz.prog { own:=[5],comp:=[],frz:=[],nils:=[] } Tryz.f55=some Nz:=by kernel_rfl
theorem OZ (G:ah) (l:List Int) (hl:l.length≤1000000000) (hs:bA l):aw Tryz.prog G 55 [.sl (l.map zD)] (.w (.c (.fr 1 ((aT l).map bD)))):=by
  refine aI Tryz.func55 Yz rfl rfl ?_;simp only[Nz,af,ae,aa,seval,iteOmega,toNatUp];refine aU (CQ l) (fun i=>l.length-i) (fun i=>i≤l.length) 0 (abc _) ?_ ?_
  ·refine aj (fun _=>40) ?_ ?_ rfl rfl <;> simp only[wx,ai,am,aa,seval,iteOmega,toNatUp] <;> first | rfl | exact⟨rfl,rfl⟩ | skip
  ·intro i hi;by_cases hlt:i<l.length
   ·have g:=kQ hlt;obtain⟨n1,n2⟩:=hs _ (pv hlt);have e:aT (l.take (i+1))=aT (l.take i)++aV (l.getD i 0).toNat 2:=by
      rw[lK hlt,Lg,uW]
      show _++(_++[])=_
      rw[abm]
    have hb:(aT (l.take i)).length≤2000000000:=by rw[eU,abg]; omega
    generalize l.getD i 0=v at *
    obtain⟨a,rfl⟩:=ab7 n1;rw[show ((a:Nat):Int).toNat=a from rfl] at e;have c:=rV G a 2 (by decide);rw[show (2:Int).toNat=2 from rfl] at c;have pl:=bU a 2;generalize aV a 2=P at *
    simp only[Ab,CQ,ae,aa,seval,iteOmega,toNatUp,aC,g,zD];refine sC (c) ?_;simp only[pl,a7,ae,aa,seval,iteOmega,toNatUp];refine aM (i+1) (by omega) (by omega) (aj (fun _=>152) ?_ ?_ rfl rfl) <;> simp only[e,pl,wx,ai,am,aa,seval,iteOmega,toNatUp] <;> first | rfl | exact⟨rfl,rfl⟩ | skip
   ·have:l.take i=l:=aa9 (by omega);simp only[Ab,CQ,ae,aa,seval,iteOmega,toNatUp,this];exact dA
theorem qf (G:ah) (l:List Int) (hl:l.length≤1000000000) (hs:bA l):aw Tryz.prog G 55 [.sl (l.map zD)] (.w (.c (.d (.sl ((aT l).map bD))))):=li (OZ G l hl hs)
def sX (l:List Int) (i:Nat):St:=⟨aQ [(0,.w (.c (.d (.sl (l.map zD))))),(3,.w (.c (.d (.int .i64 (i:Int)))))],hL [],uL []⟩
def rF:aN := .seq (.seq (.reg [oM 4 3,oM 5 0,oO 6 (.len (.t 5)),oO 7 (.bin .lss (.t 4) (.t 6))]) (.cond (.t 7) (.skip) (.exit 0))) (.seq (.block 1 (.seq (.reg [oM 10 0,oM 11 3,oO 12 (.idxSl 1 (.t 10) (.t 11)),oO 13 (.load .sc (.t 12)),oO 14 (.bin .lss (.t 13) (kI 0)),oM 15 14,oG 16 (.mv (.t 0)) 15 false,oG 17 (.mv (.t 3)) 15 false,oG 18 (.idxSl 1 (.t 16) (.t 17)) 15 false,oG 19 (.load .sc (.t 18)) 15 false,oG 20 (.bin .gtr (.t 19) (kI 65535)) 15 false,oO 21 (.pick (.t 15) (.k (.c (.d (.bool true)))) (.t 20))]) (.cond (.t 21) (.seq (.reg [oO 2 (.mv (.k (.c (.d (.bool false)))))]) (.ret)) (.skip)))) (.reg [oM 8 3,oO 9 (.bin .add (.t 8) (kI 1)),oM 3 9]))
def NA:aH:=⟨1,22,.seq (.reg [oO 2 (.mv (.k (.c (.d (.bool false)))))]) (.seq (.seq (.reg [oO 3 (.mv (kI 0))]) (.block 0 (.loop rF))) (.seq (.reg [oO 2 (.mv (.k (.c (.d (.bool true)))))]) (.ret))),[(2,none)]⟩
theorem YA:aG Tryz.prog { own:=[],comp:=[],frz:=[],nils:=[] } Tryz.f54=some NA:=by kernel_rfl
theorem qg (G:ah) (l:List Int) (hl:l.length≤9000000000000000000):aw Tryz.prog G 54 [.sl (l.map zD)] (.w (.c (.d (.bool (decide (bA l)))))):=by
  refine aI Tryz.func54 YA rfl rfl ?_;simp only[NA,af,ae,aa,seval,iteOmega,toNatUp];refine aU (sX l) (fun i=>l.length-i) (fun i=>i≤l.length∧bA (l.take i)) 0 ⟨abc _,by rw[abS]; exact fun n hn=>by cases hn⟩ ?_ ?_
  ·refine aj (fun _=>0) ?_ ?_ rfl rfl <;> simp only[wx,ai,am,aa,seval,iteOmega,toNatUp] <;> first | rfl | exact⟨rfl,rfl⟩ | skip
  ·rintro i ⟨hi,hp⟩;by_cases hlt:i<l.length
   ·have g:=kQ hlt;have hm:=pv hlt;have hs:=lK hlt;generalize l.getD i 0=v at *
    by_cases h1:v<0
    ·rw[decide_eq_false (fun q:bA l=>by have:=q v hm; omega)];have g1:=eq_true h1;simp only[rF,sX,ae,aa,seval,iteOmega,toNatUp,aC,g,zD,g1];exact aL
    ·have g1:=eq_false h1;by_cases h2:v>65535
     ·rw[decide_eq_false (fun q:bA l=>by have:=q v hm; omega)];have g2:=eq_true h2;simp only[rF,sX,ae,aa,seval,iteOmega,toNatUp,aC,g,zD,g1,g2];exact aL
     ·have g2:=eq_false h2;have hn:bA (l.take (i+1)):=by
        rw[hs];intro n hn;rcases abn.1 hn with hn | hn
        ·exact hp n hn
        ·rw[abe.1 hn]; omega
      simp only[rF,sX,ae,aa,seval,iteOmega,toNatUp,aC,g,zD,g1,g2];refine aM (i+1) (by omega) ⟨by omega,hn⟩ (aj (fun i=>i) ?_ ?_ rfl rfl) <;> simp only[wx,ai,am,aa,seval,iteOmega,toNatUp] <;> first | rfl | exact⟨rfl,rfl⟩ | skip
   ·rw[aa9 (by omega)] at hp;rw[decide_eq_true hp];simp only[rF,sX,ae,aa,seval,iteOmega,toNatUp];exact aL
def w9 (l:List Ek) (k:Int) (i:Nat):St:=⟨aQ [(0,.w (.c (.d (.sl (l.map ak))))),(1,.w (.c (.d (.int .i64 k)))),(5,.w (.c (.own 1 1 0 (fK l k i).length))),(6,.w (.c (.d (.int .i64 (i:Int)))))],hL [(1,.row 1 ((fK l k i).map bT))],uL [1]⟩
def uX:aN := .seq (.seq (.reg [oM 7 6,oM 8 0,oO 9 (.len (.t 8)),oO 10 (.bin .lss (.t 7) (.t 9))]) (.cond (.t 10) (.skip) (.exit 0))) (.seq (.block 1 (.seq (.reg [oM 13 0,oM 14 6,oO 15 (.idxSl 3 (.t 13) (.t 14)),oO 16 (.fieldAddr 1 (.t 15)),oO 17 (.load .sc (.t 16)),oM 18 1,oO 19 (.bin .eql (.t 17) (.t 18))]) (.cond (.t 19) (.reg [oM 20 5,oM 21 6,oO 22 (.bldSl false 1 1 (.int .i64 0) [(0,(.t 21))]),oO 23 (.app false 1 8 (.t 20) (.t 22)),oM 5 23]) (.skip)))) (.reg [oM 11 6,oO 12 (.bin .add (.t 11) (kI 1)),oM 6 12]))
def NB:aH:=⟨2,25,.seq (.reg [oO 4 (.mv (.k (.c .nil)))]) (.seq (.reg [oO 5 (.nilOwn 1)]) (.seq (.seq (.reg [oO 6 (.mv (kI 0))]) (.block 0 (.loop uX))) (.seq (.reg [oM 24 5,oM 4 24]) (.ret)))),[(4,none)]⟩
theorem YB:aG Tryz.prog { own:=[5],comp:=[],frz:=[],nils:=[] } Tryz.f75=some NB:=by kernel_rfl
theorem iH (G:ah) (l:List Ek) (k:Int) (hl:l.length≤1000000):aw Tryz.prog G 75 [.sl (l.map ak),.int .i64 k] (.w (.c (.d (.sl ((aF l k).map bT))))):=by
  refine aI Tryz.func75 YB rfl rfl ?_;have e0:fK l k 0=[]:=rfl;simp only[NB,af,ae,aa,seval,iteOmega,toNatUp];refine aU (w9 l k) (fun i=>l.length-i) (fun i=>i≤l.length) 0 (abc _) ?_ ?_
  ·refine aj (fun i=>40) ?_ ?_ rfl rfl <;> simp only[wx,ai,am,aa,seval,iteOmega,toNatUp,e0]
  ·intro i hi;have hb:=pS l k i;have az:=Up (fK l k i);by_cases hlt:i<l.length
   ·have g:=i8 hlt;by_cases hk:(l.getD i default).ty=k
    ·have hs:=Lh hk;have hk':((l.getD i default).ty=k)=True:=eq_true hk;generalize l.getD i default=x at *
     simp only[uX,w9,ae,aa,seval,iteOmega,toNatUp,aC,g,ak,hk',a7];refine aM (i+1) (by omega) (by omega) (aj (fun _=>184) ?_ ?_ rfl rfl) <;> simp only[hs,abk,bT,wx,ai,am,aa,seval,iteOmega,toNatUp]
    ·have hs:=Yx hk;have hk':((l.getD i default).ty=k)=False:=eq_false hk;generalize l.getD i default=x at *
     simp only[uX,w9,ae,aa,seval,iteOmega,toNatUp,aC,g,ak,hk',a7];refine aM (i+1) (by omega) (by omega) (aj (fun i=>i) ?_ ?_ rfl rfl) <;> simp only[hs,wx,ai,am,aa,seval,iteOmega,toNatUp]
   ·have hil:i=l.length:=by omega
    have e1:fK l k i=aF l k:=by rw[hil]; rfl
    simp only[uX,w9,ae,aa,seval,iteOmega,toNatUp,e1];exact aL
def xa (l:List Int) (v:Int) (i:Nat):St:=⟨aQ [(0,.w (.c (.d (.sl (l.map zD))))),(1,.w (.c (.d (.int .i64 v)))),(5,.w (.c (.d (.int .i64 (i:Int)))))],hL [],uL []⟩
def uY:aN := .seq (.seq (.reg [oM 6 5,oM 7 0,oO 8 (.len (.t 7)),oO 9 (.bin .lss (.t 6) (.t 8))]) (.cond (.t 9) (.skip) (.exit 0))) (.seq (.block 1 (.seq (.reg [oM 12 0,oM 13 5,oO 14 (.idxSl 1 (.t 12) (.t 13)),oO 15 (.load .sc (.t 14)),oM 16 1,oO 17 (.bin .eql (.t 15) (.t 16))]) (.cond (.t 17) (.seq (.reg [oO 4 (.mv (.k (.c (.d (.bool true)))))]) (.ret)) (.skip)))) (.reg [oM 10 5,oO 11 (.bin .add (.t 10) (kI 1)),oM 5 11]))
def NC:aH:=⟨2,18,.seq (.reg [oO 4 (.mv (.k (.c (.d (.bool false)))))]) (.seq (.seq (.reg [oO 5 (.mv (kI 0))]) (.block 0 (.loop uY))) (.seq (.reg [oO 4 (.mv (.k (.c (.d (.bool false)))))]) (.ret))),[(4,none)]⟩
theorem YC:aG Tryz.prog { own:=[],comp:=[],frz:=[],nils:=[] } Tryz.f57=some NC:=by kernel_rfl
theorem O0 (G:ah) (l:List Int) (v:Int) (hl:l.length≤9000000000000000000):aw Tryz.prog G 57 [.sl (l.map zD),.int .i64 v] (.w (.c (.d (.bool (decide (v∈l)))))):=by
  refine aI Tryz.func57 YC rfl rfl ?_;simp only[NC,af,ae,aa,seval,iteOmega,toNatUp];refine aU (xa l v) (fun i=>l.length-i) (fun i=>i≤l.length∧v∉l.take i) 0 ⟨abc _,by rw[abS]; exact ac0⟩ ?_ ?_
  ·refine aj (fun _=>0) ?_ ?_ rfl rfl <;> simp only[wx,ai,am,aa,seval,iteOmega,toNatUp] <;> first | rfl | exact⟨rfl,rfl⟩ | skip
  ·rintro i ⟨hi,hp⟩;by_cases hlt:i<l.length
   ·have g:=kQ hlt;have hm:=pv hlt;have hs:=lK hlt;generalize l.getD i 0=w at *
    by_cases h1:w=v
    ·subst h1;rw[decide_eq_true hm];simp only[uY,xa,ae,aa,seval,iteOmega,toNatUp,aC,g,zD];exact aL
    ·have g1:=eq_false h1;have hn:v∉l.take (i+1):=by
       rw[hs];intro q;rcases abn.1 q with q | q
       ·exact hp q
       ·exact h1 (abe.1 q).symm
     simp only[uY,xa,ae,aa,seval,iteOmega,toNatUp,aC,g,zD,g1];refine aM (i+1) (by omega) ⟨by omega,hn⟩ (aj (fun i=>i) ?_ ?_ rfl rfl) <;> simp only[wx,ai,am,aa,seval,iteOmega,toNatUp] <;> first | rfl | exact⟨rfl,rfl⟩ | skip
   ·rw[aa9 (by omega)] at hp;rw[decide_eq_false hp];simp only[uY,xa,ae,aa,seval,iteOmega,toNatUp];exact aL
def xe (x y:List Int) (i:Nat):St:=⟨aQ [(0,.w (.c (.d (.sl (x.map zD))))),(1,.w (.c (.d (.sl (y.map zD))))),(6,.w (.c (.d (.int .i64 (i:Int)))))],hL [],uL []⟩
theorem ND {x y:List Int} {i:Nat} (hi:i<x.length) (hn:∀ v∈x.take i,v∉y) (h:x.getD i 0∈y):dC x y=some (x.getD i 0):=by
  have e:x=x.take i++x.getD i 0::x.drop (i+1):=by
    have:=(abP (i+1) x).symm;rw[lK hi,abq] at this;exact this
  have:dC (x.take i++x.getD i 0::x.drop (i+1)) y=some (x.getD i 0):=by
    unfold dC;rw[List.find?_append,List.find?_eq_none.2 (fun v hv q=>hn v hv (of_decide_eq_true q)),List.find?_cons_of_pos (p:=fun v=>decide (v∈y)) (decide_eq_true h)];rfl
  rw[← e] at this;exact this
def uZ:aN := .seq (.seq (.reg [oM 7 6,oM 8 0,oO 9 (.len (.t 8)),oO 10 (.bin .lss (.t 7) (.t 9))]) (.cond (.t 10) (.skip) (.exit 0))) (.seq (.block 1 (.seq (.reg [oM 13 1,oM 14 0,oM 15 6,oO 16 (.idxSl 1 (.t 14) (.t 15)),oO 17 (.load .sc (.t 16)),oO 18 (.call 57 [(.t 13),(.t 17)] none)]) (.cond (.t 18) (.seq (.reg [oM 19 0,oM 20 6,oO 21 (.idxSl 1 (.t 19) (.t 20)),oO 22 (.load .sc (.t 21)),oM 4 22,oO 5 (.mv (.k (.c (.d (.bool true)))))]) (.ret)) (.skip)))) (.reg [oM 11 6,oO 12 (.bin .add (.t 11) (kI 1)),oM 6 12]))
def NE:aH:=⟨2,23,.seq (.reg [oO 4 (.mv (kI 0)),oO 5 (.mv (.k (.c (.d (.bool false)))))]) (.seq (.seq (.reg [oO 6 (.mv (kI 0))]) (.block 0 (.loop uZ))) (.seq (.reg [oO 4 (.mv (kI 0)),oO 5 (.mv (.k (.c (.d (.bool false)))))]) (.ret))),[(4,none),(5,none)]⟩
theorem YD:aG Tryz.prog { own:=[],comp:=[],frz:=[],nils:=[] } Tryz.f19=some NE:=by kernel_rfl
theorem O1 (G:ah) (x y:List Int) (hx:x.length≤9000000000000000000) (hy:y.length≤9000000000000000000):aw Tryz.prog G 19 [.sl (x.map zD),.sl (y.map zD)] (.tup [.c (.d (.int .i64 ((dC x y).getD 0))),.c (.d (.bool (dC x y).isSome))]):=by
  refine aI Tryz.func19 YD rfl rfl ?_;simp only[NE,af,ae,aa,seval,iteOmega,toNatUp];refine aU (xe x y) (fun i=>x.length-i) (fun i=>i≤x.length∧∀ v∈x.take i,v∉y) 0 ⟨abc _,by rw[abS]; exact fun v hv=>by cases hv⟩ ?_ ?_
  ·refine aj (fun _=>0) ?_ ?_ rfl rfl <;> simp only[wx,ai,am,aa,seval,iteOmega,toNatUp] <;> first | rfl | exact⟨rfl,rfl⟩ | skip
  ·rintro i ⟨hi,hp⟩;by_cases hlt:i<x.length
   ·have g:=kQ hlt;have hs:=lK hlt;have hat:=ND hlt hp;have c:=O0 G y (x.getD i 0) hy;generalize x.getD i 0=w at *
    by_cases h1:w∈y
    ·rw[hat h1,abQ,ab9];rw[decide_eq_true h1] at c;simp only[uZ,xe,ae,aa,seval,iteOmega,toNatUp,aC,g,zD];refine sC (c) ?_;simp only[aC,g,zD,ae,aa,seval,iteOmega,toNatUp];exact aE
    ·rw[decide_eq_false h1] at c;have hn:∀ v∈x.take (i+1),v∉y:=by
       rw[hs];intro v q;rcases abn.1 q with q | q
       ·exact hp v q
       ·rw[abe.1 q]; exact h1
     clear hat;simp only[uZ,xe,ae,aa,seval,iteOmega,toNatUp,aC,g,zD];refine sD (c) ?_;refine aM (i+1) (by omega) ⟨by omega,hn⟩ (aj (fun i=>i) ?_ ?_ rfl rfl) <;> simp only[wx,ai,am,aa,seval,iteOmega,toNatUp] <;> first | rfl | exact⟨rfl,rfl⟩ | skip
   ·rw[aa9 (by omega)] at hp;have:dC x y=none:=List.find?_eq_none.2 fun v hv q=>hp v hv (of_decide_eq_true q)
    rw[this,abY,ab4];simp only[uZ,xe,ae,aa,seval,iteOmega,toNatUp];exact aE
def sY (l:List Ek) (i:Nat):St:=⟨aQ [(0,.w (.c (.d (.sl (l.map ak))))),(3,.w (.c (.d (.int .i64 (i:Int)))))],hL [],uL []⟩
def rG:aN := .seq (.seq (.reg [oM 4 3,oM 5 0,oO 6 (.len (.t 5)),oO 7 (.bin .lss (.t 4) (.t 6))]) (.cond (.t 7) (.skip) (.exit 0))) (.seq (.block 1 (.seq (.reg [oM 10 0,oM 11 3,oO 12 (.idxSl 3 (.t 10) (.t 11)),oO 13 (.fieldAddr 0 (.t 12)),oO 14 (.load .sc (.t 13)),oM 15 14,oG 16 (.mv (.t 0)) 15 true,oG 17 (.mv (.t 3)) 15 true,oG 18 (.idxSl 3 (.t 16) (.t 17)) 15 true,oG 19 (.fieldAddr 1 (.t 18)) 15 true,oG 20 (.load .sc (.t 19)) 15 true,oG 21 (.bin .gtr (.t 20) (kI 7)) 15 true,oO 22 (.pick (.t 15) (.t 21) (.k (.c (.d (.bool false)))))]) (.cond (.t 22) (.seq (.reg [oO 2 (.mv (.k (.c (.d (.bool true)))))]) (.ret)) (.skip)))) (.reg [oM 8 3,oO 9 (.bin .add (.t 8) (kI 1)),oM 3 9]))
def NF:aH:=⟨1,23,.seq (.reg [oO 2 (.mv (.k (.c (.d (.bool false)))))]) (.seq (.seq (.reg [oO 3 (.mv (kI 0))]) (.block 0 (.loop rG))) (.seq (.reg [oO 2 (.mv (.k (.c (.d (.bool false)))))]) (.ret))),[(2,none)]⟩
theorem YE:aG Tryz.prog { own:=[],comp:=[],frz:=[],nils:=[] } Tryz.f77=some NF:=by kernel_rfl
theorem O2 (G:ah) (l:List Ek) (hl:l.length≤9000000000000000000):aw Tryz.prog G 77 [.sl (l.map ak)] (.w (.c (.d (.bool (fp l))))):=by
  refine aI Tryz.func77 YE rfl rfl ?_;simp only[NF,af,ae,aa,seval,iteOmega,toNatUp];refine aU (sY l) (fun i=>l.length-i) (fun i=>i≤l.length∧fp (l.take i)=false) 0 ⟨abc _,rfl⟩ ?_ ?_
  ·refine aj (fun _=>0) ?_ ?_ rfl rfl <;> simp only[wx,ai,am,aa,seval,iteOmega,toNatUp] <;> first | rfl | exact⟨rfl,rfl⟩ | skip
  ·rintro i ⟨hi,hp⟩;by_cases hlt:i<l.length
   ·have g:=i8 hlt;have hm:=gg hlt;have hs:=mJ hlt;have hn:((l.getD i default).cr&&decide (7<(l.getD i default).ty))=false→fp (l.take (i+1))=false:=fun q=>by
      unfold fp at *
      rw[hs,List.any_append,hp,List.any_cons,q]; rfl
    have hy:((l.getD i default).cr&&decide (7<(l.getD i default).ty))=true→fp l=true:=fun q=>ace.2 ⟨_,hm,q⟩
    generalize l.getD i default=x at *
    obtain⟨cr,ty,bo⟩:=x;dsimp only at hn hy;cases cr
    ·have hn:=hn (by rw[Bool.false_and]);clear hy;simp only[rG,sY,ae,aa,seval,iteOmega,toNatUp,aC,g,ak];refine aM (i+1) (by omega) ⟨by omega,hn⟩ (aj (fun i=>i) ?_ ?_ rfl rfl) <;> simp only[wx,ai,am,aa,seval,iteOmega,toNatUp] <;> first | rfl | exact⟨rfl,rfl⟩ | skip
    ·by_cases h1:ty>7
     ·rw[hy (by rw[Bool.true_and]; exact decide_eq_true h1)];have g1:=eq_true h1;clear hy hn;simp only[rG,sY,ae,aa,seval,iteOmega,toNatUp,aC,g,ak,g1];exact aL
     ·have g1:=eq_false h1;have hn:=hn (by rw[Bool.true_and]; exact decide_eq_false h1);clear hy;simp only[rG,sY,ae,aa,seval,iteOmega,toNatUp,aC,g,ak,g1];refine aM (i+1) (by omega) ⟨by omega,hn⟩ (aj (fun i=>i) ?_ ?_ rfl rfl) <;> simp only[wx,ai,am,aa,seval,iteOmega,toNatUp] <;> first | rfl | exact⟨rfl,rfl⟩ | skip
   ·rw[aa9 (by omega)] at hp;rw[hp];simp only[rG,sY,ae,aa,seval,iteOmega,toNatUp];exact aL
set_option maxHeartbeats 3200000
def CR (b:List UInt8) (k:Nat):St:=⟨aQ [(0,.w (.c (.d (.sl (b.map bD))))),(4,.w (.c (.own 1 1 0 (jh b k).length))),(5,.w (.c (.d (.int .i64 ((2*k:Nat):Int)))))],hL [(1,.row 1 ((jh b k).map zD))],uL [1]⟩
theorem CS (n:Nat):Int.tmod (n:Int) 2=((n%2:Nat):Int):=rfl
def Ac:aN := .seq (.seq (.reg [oM 10 5,oM 11 0,oO 12 (.len (.t 11)),oO 13 (.bin .lss (.t 10) (.t 12))]) (.cond (.t 13) (.skip) (.exit 0))) (.seq (.block 1 (.reg [oM 16 4,oM 17 0,oM 18 5,oM 19 5,oO 20 (.bin .add (.t 19) (kI 2)),oO 21 (.slice 1 (.t 17) (some (.t 18)) (some (.t 20)) none),oO 22 (.call 49 [(.t 21)] none),oO 23 (.conv .i64 (.t 22)),oO 24 (.bldSl false 1 1 (.int .i64 0) [(0,(.t 23))]),oO 25 (.app false 1 8 (.t 16) (.t 24)),oM 4 25])) (.reg [oM 14 5,oO 15 (.bin .add (.t 14) (kI 2)),oM 5 15]))
def BL:aH:=⟨1,27,.seq (.reg [oO 2 (.mv (.k (.c .nil))),oO 3 (.mv (.k (.c (.d (.bool false)))))]) (.seq (.seq (.reg [oM 6 0,oO 7 (.len (.t 6)),oO 8 (.bin .rem (.t 7) (kI 2)),oO 9 (.bin .neq (.t 8) (kI 0))]) (.cond (.t 9) (.seq (.reg [oO 2 (.mv (.k (.c .nil))),oO 3 (.mv (.k (.c (.d (.bool false)))))]) (.ret)) (.skip))) (.seq (.reg [oO 4 (.nilOwn 1)]) (.seq (.seq (.reg [oO 5 (.mv (kI 0))]) (.block 0 (.loop Ac))) (.seq (.reg [oM 26 4,oM 2 26,oO 3 (.mv (.k (.c (.d (.bool true)))))]) (.ret))))),[(2,none),(3,none)]⟩
theorem YF:aG Tryz.prog { own:=[4],comp:=[],frz:=[],nils:=[] } Tryz.f15=some BL:=by kernel_rfl
theorem sZ (G:ah) (b:List UInt8) (hb:b.length≤1000000000):aw Tryz.prog G 15 [.sl (b.map bD)] (.tup [.c (.d (.sl ((dP b).map zD))),.c (.d (.bool (decide (b.length%2=0))))]):=by
  refine aI Tryz.func15 YF rfl rfl ?_;have t2:=CS b.length;by_cases he:b.length%2=0
  ·have g0:(((b.length%2:Nat):Int)=0)=True:=eq_true (by omega);rw[decide_eq_true he,show dP b=kV b from if_pos he];simp only[BL,af,ae,aa,seval,iteOmega,toNatUp,t2,g0];refine aU (CR b) (fun k=>b.length / 2-k) (fun k=>2*k≤b.length) 0 (abc _) ?_ ?_
   ·refine aj (fun _=>32) ?_ ?_ rfl rfl <;> simp only[wx,ai,am,aa,seval,iteOmega,toNatUp] <;> first | rfl | exact⟨rfl,rfl⟩ | skip
   ·intro k hk;have az:=Ic (jh b k);have nl:=AW b k;by_cases hlt:2*k<b.length
    ·have l1:(a9 b (2*k) 2).length=2:=mK (by omega);have c:=sE G (a9 b (2*k) 2) (by omega);have b2:=(jj 2 (a9 b (2*k) 2) l1 (by decide)).1;have hs:=IW b k;have hA:nJ b k=(aY (a9 b (2*k) 2):Int):=rfl;have t1:(b.drop (2*k)).take 2=a9 b (2*k) 2:=rfl;have t3:(b.drop (2*k)).take (2*k+2-2*k)=a9 b (2*k) 2:=by rw[ab2]; rfl
     have e5:2*((k:Int)+1)=2*(k:Int)+2:=by omega
     have g1:(((2*k:Nat):Int)<(b.length:Int))=True:=eq_true (by omega);generalize aY (a9 b (2*k) 2)=N at *
     rw[hA] at hs;simp only[Ac,CR,ae,aa,seval,iteOmega,toNatUp,g1,t1,t3];refine sC (c) ?_;simp only[a7,ae,aa,seval,iteOmega,toNatUp];refine aM (k+1) (by omega) (by omega) (aj (fun _=>200) ?_ ?_ rfl rfl) <;> simp only[hs,abk,zD,e5,wx,ai,am,aa,seval,iteOmega,toNatUp] <;> first | rfl | exact⟨rfl,rfl⟩ | skip
    ·have hk2:k=b.length / 2:=by omega
     have g1:(((2*k:Nat):Int)<(b.length:Int))=False:=eq_false (by omega);subst hk2;unfold kV;simp only[Ac,CR,ae,aa,seval,iteOmega,toNatUp,g1];exact aE
  ·have g0:(((b.length%2:Nat):Int)=0)=False:=eq_false (by omega);rw[decide_eq_false he,show dP b=[] from if_neg he];simp only[BL,af,ae,aa,seval,iteOmega,toNatUp,t2,g0];exact aE
structure Fw where
  p:Nat
  o:List Fd
def s5 (b:List UInt8) (t:Fw):St:=⟨aQ [(0,.w (.c (.d (.sl (b.map bD))))),(4,.w (.c (.own 1 2 0 t.o.length))),(5,.w (.c (.d (.int .i64 (t.p:Int)))))],hL [(1,.row 2 (t.o.map bV))],uL [1]⟩
def rH:aN := .seq (.seq (.reg [oM 10 5,oM 11 0,oO 12 (.len (.t 11)),oO 13 (.bin .lss (.t 10) (.t 12))]) (.cond (.t 13) (.skip) (.exit 0))) (.block 1 (.seq (.seq (.reg [oM 14 0,oO 15 (.len (.t 14)),oM 16 5,oO 17 (.bin .sub (.t 15) (.t 16)),oO 18 (.bin .lss (.t 17) (kI 4))]) (.cond (.t 18) (.seq (.reg [oO 2 (.mv (.k (.c .nil))),oO 3 (.mv (kI 1))]) (.ret)) (.skip))) (.seq (.reg [oM 19 0,oM 20 5,oO 21 (.bin .add (.t 20) (kI 2)),oM 22 5,oO 23 (.bin .add (.t 22) (kI 4)),oO 24 (.slice 1 (.t 19) (some (.t 21)) (some (.t 23)) none),oO 25 (.call 49 [(.t 24)] none),oO 26 (.conv .i64 (.t 25)),oM 6 26]) (.seq (.seq (.reg [oM 27 0,oO 28 (.len (.t 27)),oM 29 5,oO 30 (.bin .sub (.t 28) (.t 29)),oO 31 (.bin .sub (.t 30) (kI 4)),oM 32 6,oO 33 (.bin .lss (.t 31) (.t 32))]) (.cond (.t 33) (.seq (.reg [oO 2 (.mv (.k (.c .nil))),
 oO 3 (.mv (kI 1))]) (.ret)) (.skip))) (.seq (.reg [oM 34 4,oM 35 0,oM 36 5,oM 37 5,oO 38 (.bin .add (.t 37) (kI 2)),oO 39 (.slice 1 (.t 35) (some (.t 36)) (some (.t 38)) none),oO 40 (.call 49 [(.t 39)] none),oO 41 (.conv .i64 (.t 40)),oM 42 0,oM 43 5,oO 44 (.bin .add (.t 43) (kI 4)),oM 45 5,oO 46 (.bin .add (.t 45) (kI 4)),oM 47 6,oO 48 (.bin .add (.t 46) (.t 47)),oO 49 (.slice 1 (.t 42) (some (.t 44)) (some (.t 48)) none),oO 50 (.bldSl false 1 1 (.sl []) [(0,(.t 49))]),oO 51 (.call 43 [(.t 50)] none),oO 52 (.build [(.d (.int .i64 0)),.nil] [(0,1,(.t 41)),(1,1,(.t 51))]),oO 53 (.bldSl false 1 2 (.agg [(.int .i64 0),(.sl [])]) [(0,(.t 52))]),oO 54 (.app false 2 32 (.t 34) (.t 53)),oM 4 54]) (.reg [oM 55 5,oO 56 (.bin .add (.t 55) (kI 4)),oM 57 6,oO 58 (.bin .add (.t 56) (.t 57)),oM 5 58]))))))
def BM:aH:=⟨1,60,.seq (.reg [oO 2 (.mv (.k (.c .nil))),oO 3 (.mv (kI 0))]) (.seq (.seq (.reg [oM 7 0,oO 8 (.len (.t 7)),oO 9 (.bin .gtr (.t 8) (kI 65535))]) (.cond (.t 9) (.seq (.reg [oO 2 (.mv (.k (.c .nil))),oO 3 (.mv (kI 2))]) (.ret)) (.skip))) (.seq (.reg [oO 4 (.nilOwn 2)]) (.seq (.seq (.reg [oO 5 (.mv (kI 0))]) (.block 0 (.loop rH))) (.seq (.reg [oM 59 4,oM 2 59,oO 3 (.mv (kI 0))]) (.ret))))),[(2,none),(3,none)]⟩
theorem YG:aG Tryz.prog { own:=[4],comp:=[],frz:=[],nils:=[] } Tryz.f47=some BM:=by kernel_rfl
theorem aao (G:ah) (b:List UInt8) (hb:b.length≤9000000000000000000):aw Tryz.prog G 47 [.sl (b.map bD)] (.tup [.c (.d (.sl ((gd b).map bV))),.c (.d (.int .i64 (fa b)))]):=by
  refine aI Tryz.func47 YG rfl rfl ?_;by_cases h0:65535<b.length
  ·have g0:((b.length:Int)>65535)=True:=eq_true (by omega);rw[show fa b=2 from if_pos h0,show gd b=[] from if_pos h0];simp only[BM,af,ae,aa,seval,iteOmega,toNatUp,g0];exact aE
  ·have g0:((b.length:Int)>65535)=False:=eq_false (by omega);simp only[BM,af,ae,aa,seval,iteOmega,toNatUp,g0];refine aU (s5 b) (fun t=>b.length-t.p) (fun t=>t.p≤b.length∧t.o.length≤t.p∧dd b=(dd (b.drop t.p)).map (t.o++·)) ⟨0,[]⟩ ⟨abc _,abc _,by rw[acH]; cases dd b <;> rfl⟩ ?_ ?_
   ·refine aj (fun _=>32) ?_ ?_ rfl rfl <;> simp only[wx,ai,am,aa,seval,iteOmega,toNatUp] <;> first | rfl | exact⟨rfl,rfl⟩ | skip
   ·rintro⟨p,o⟩ ⟨hp,hol,hd⟩;dsimp only at hp hol hd;have az:=zF o;have hdl:(b.drop p).length=b.length-p:=abi;by_cases hlt:p<b.length
    ·have g1:((p:Int)<(b.length:Int))=True:=eq_true (by omega);by_cases h1:b.length-p<4
     ·have e:dd b=none:=by rw[hd,AE (by omega) (by omega)]; rfl
      rw[show fa b=1 by unfold fa; rw[if_neg h0,e]; rfl,show gd b=[] by unfold gd; rw[if_neg h0,e]; rfl];have g2:((b.length:Int)-(p:Int)<4)=True:=eq_true (by omega);simp only[rH,s5,ae,aa,seval,iteOmega,toNatUp,g1,g2];exact aE
     ·have g2:((b.length:Int)-(p:Int)<4)=False:=eq_false (by omega);have l1:(a9 (b.drop p) 2 2).length=2:=mK (by omega);have l2:((b.drop p).take 2).length=2:=by rw[abg]; omega
      have c1:=sE G (a9 (b.drop p) 2 2) (by omega);have c2:=sE G ((b.drop p).take 2) (by omega);have b1:=(jj 2 (a9 (b.drop p) 2 2) l1 (by decide)).1;have b2:=(jj 2 ((b.drop p).take 2) l2 (by decide)).1;have t1:(b.drop (p+2)).take (p+2-p)=a9 (b.drop p) 2 2:=by
        unfold a9;rw[adf,ab2]
      have t2:(b.drop p).take (p+2-p)=(b.drop p).take 2:=by rw[ab2]
      have hN:cH (b.drop p)=aY (a9 (b.drop p) 2 2):=rfl;by_cases h2:b.length-p-4<cH (b.drop p)
      ·have e:dd b=none:=by rw[hd,yN (by omega) (by omega)]; rfl
       rw[show fa b=1 by unfold fa; rw[if_neg h0,e]; rfl,show gd b=[] by unfold gd; rw[if_neg h0,e]; rfl];rw[hN] at h2;generalize aY (a9 (b.drop p) 2 2)=N at *
       have g3:((b.length:Int)-(p:Int)-4<(N:Int))=True:=eq_true (by omega);simp only[rH,s5,ae,aa,seval,iteOmega,toNatUp,g1,g2,t1];refine sC (c1) ?_;simp only[g3,ae,aa,seval,iteOmega,toNatUp];exact aE
      ·have e:=vY (r:=b.drop p) (by omega) (by omega);rw[adf] at e;have hR:gN (b.drop p)=⟨(aY ((b.drop p).take 2):Int),a9 (b.drop p) 4 (cH (b.drop p))⟩:=rfl;rw[hN] at h2 hR e;have t3:∀ N,(b.drop (p+4)).take (p+4+N-(p+4))=a9 (b.drop p) 4 N:=fun N=>by
         unfold a9;rw[adf,ab2]
       have t3:=t3 (aY (a9 (b.drop p) 2 2));have lX:(a9 (b.drop p) 4 (aY (a9 (b.drop p) 2 2))).length=aY (a9 (b.drop p) 2 2):=mK (by omega);have c3:=fQ G [a9 (b.drop p) 4 (aY (a9 (b.drop p) 2 2))] (by simp) (by simp; omega);simp only[abd,abo,acV,acG,abm] at c3;generalize a9 (b.drop p) 4 (aY (a9 (b.drop p) 2 2))=X at *
       generalize aY (a9 (b.drop p) 2 2)=N at *
       generalize aY ((b.drop p).take 2)=M at *
       have g3:((b.length:Int)-(p:Int)-4<(N:Int))=False:=eq_false (by omega);have hd2:dd b=(dd (b.drop (p+4+N))).map ((o++[⟨(M:Int),X⟩])++·):=by
         rw[hd,e,Option.map_map,hR,show p+(4+N)=p+4+N by omega]
         congr 1
         funext r
         simp
       simp only[rH,s5,ae,aa,seval,iteOmega,toNatUp,g1,g2,t1];refine sC (c1) ?_;simp only[g3,t2,ae,aa,seval,iteOmega,toNatUp];refine sC (c2) ?_;simp only[t3,ae,aa,seval,iteOmega,toNatUp];refine sC (c3) ?_;simp only[a7,ae,aa,seval,iteOmega,toNatUp];refine aM (⟨p+4+N,o++[⟨(M:Int),X⟩]⟩:Fw) (by show b.length-(p+4+N)<b.length-p; omega) ⟨by show p+4+N≤_; omega,by show (o++[_]).length≤p+4+N; rw[aba]; show _+1≤_; omega,hd2⟩ (aj (fun _=>432) ?_ ?_ rfl rfl) <;> simp only[abk,bV,wx,ai,am,aa,seval,iteOmega,toNatUp] <;> first | rfl | exact⟨rfl,rfl⟩ | skip
    ·have hpb:p=b.length:=by omega
     have e:dd b=some o:=by rw[hd,hpb,List.drop_length,rP,acl,abm]
     rw[show fa b=0 by unfold fa; rw[if_neg h0,e]; rfl,show gd b=o by unfold gd; rw[if_neg h0,e]; rfl];have g1:((p:Int)<(b.length:Int))=False:=eq_false (by omega);simp only[rH,s5,ae,aa,seval,iteOmega,toNatUp,g1];exact aE
def CU (L:List Fd) (i:Nat):St:=⟨aQ [(4,.w (.c (.d (.sl (L.map bV))))),(6,.w (.c (.own 1 3 0 i))),(7,.w (.c (.d (.int .i64 (i:Int)))))],hL [(1,.row 3 (((L.take i).map ek).map ak))],uL [1]⟩
def Ad:aN := .seq (.seq (.reg [oM 19 7,oM 20 4,oO 21 (.len (.t 20)),oO 22 (.bin .lss (.t 19) (.t 21))]) (.cond (.t 22) (.skip) (.exit 0))) (.seq (.block 1 (.reg [oM 25 6,oM 26 4,oM 27 7,oO 28 (.idxSl 2 (.t 26) (.t 27)),oO 29 (.fieldAddr 0 (.t 28)),oO 30 (.load .sc (.t 29)),oO 31 (.bin .geq (.t 30) (kI 32768)),oM 32 4,oM 33 7,oO 34 (.idxSl 2 (.t 32) (.t 33)),oO 35 (.fieldAddr 0 (.t 34)),oO 36 (.load .sc (.t 35)),oO 37 (.bin .and (.t 36) (kI 32767)),oM 38 4,oM 39 7,oO 40 (.idxSl 2 (.t 38) (.t 39)),oO 41 (.fieldAddr 1 (.t 40)),oO 42 (.load .sc (.t 41)),oO 43 (.build [(.d (.bool false)),(.d (.int .i64 0)),.nil] [(0,1,(.t 31)),(1,1,(.t 37)),(2,1,(.t 42))]),oO 44 (.bldSl false 1 3 (.agg [(.bool false),(.int .i64 0),(.sl [])]) [(0,(.t 43))]),oO 45 (.app false 3 40 (.t 25) (.t 44)),oM 6 45]))
 (.reg [oM 23 7,oO 24 (.bin .add (.t 23) (kI 1)),oM 7 24]))
def wc:aH:=⟨1,47,.seq (.reg [oO 2 (.mv (.k (.c .nil))),oO 3 (.mv (kI 0))]) (.seq (.reg [oM 9 0,oO 10 (.call 47 [(.t 9)] none),oM 8 10,oO 11 (.extract (.t 8) 0),oO 12 (.extract (.t 8) 1),oM 4 11,oM 5 12]) (.seq (.seq (.reg [oM 13 5,oO 14 (.bin .neq (.t 13) (kI 0))]) (.cond (.t 14) (.seq (.reg [oM 15 5,oO 2 (.mv (.k (.c .nil))),oM 3 15]) (.ret)) (.skip))) (.seq (.seq (.reg [oM 16 4,oO 17 (.len (.t 16)),oO 18 (.bin .gtr (.t 17) (kI 64))]) (.cond (.t 18) (.seq (.reg [oO 2 (.mv (.k (.c .nil))),oO 3 (.mv (kI 8))]) (.ret)) (.skip))) (.seq (.reg [oO 6 (.nilOwn 3)]) (.seq (.seq (.reg [oO 7 (.mv (kI 0))]) (.block 0 (.loop Ad))) (.seq (.reg [oM 46 6,oM 2 46,oO 3 (.mv (kI 0))]) (.ret))))))),[(2,none),(3,none)]⟩
theorem YH:aG Tryz.prog { own:=[6],comp:=[],frz:=[],nils:=[] } Tryz.f13=some wc:=by kernel_rfl
theorem aap (G:ah) (b:List UInt8) (hb:b.length≤9000000000000000000):aw Tryz.prog G 13 [.sl (b.map bD)] (.tup [.c (.d (.sl ((aB b).map ak))),.c (.d (.int .i64 (dM b)))]):=by
  refine aI Tryz.func13 YH rfl rfl ?_;have c:=aao G b hb;have hE:dM b=if fa b=0 then (if 64<(gd b).length then 8 else 0) else fa b:=rfl
  have hL:aB b=if dM b=0 then (gd b).map ek else []:=rfl
  generalize dM b=E at *
  generalize aB b=R at *
  generalize fa b=e at *
  generalize gd b=L at *
  by_cases h0:e=0
  ·rw[if_pos h0] at hE;subst h0;by_cases h1:64<L.length
   ·rw[if_pos h1] at hE;subst hE;rw[if_neg (by decide)] at hL;subst hL;have g1:((L.length:Int)>64)=True:=eq_true (by omega);simp only[wc,af,ae,aa,seval,iteOmega,toNatUp];refine sC (c) ?_;simp only[g1,ae,aa,seval,iteOmega,toNatUp];exact aE
   ·rw[if_neg h1] at hE;subst hE;rw[if_pos rfl] at hL;subst hL;have g1:((L.length:Int)>64)=False:=eq_false (by omega);simp only[wc,af,ae,aa,seval,iteOmega,toNatUp];refine sC (c) ?_;simp only[g1,ae,aa,seval,iteOmega,toNatUp];refine aU (CU L) (fun i=>L.length-i) (fun i=>i≤L.length) 0 (abc _) ?_ ?_
    ·refine aj (fun _=>48) ?_ ?_ rfl rfl <;> simp only[wx,ai,am,aa,seval,iteOmega,toNatUp] <;> first | rfl | exact⟨rfl,rfl⟩ | skip
    ·intro i hi;have az:=mL ((L.take i).map ek);have ll:((L.take i).map ek).length=i:=by rw[abh,abg]; omega
     by_cases hlt:i<L.length
     ·have g:=nG hlt;have hs:L.take (i+1)=L.take i++[L.getD i default]:=FV hlt;have ha:=SB (L.getD i default).ty;have hO:ek (L.getD i default)=⟨decide ((L.getD i default).ty≥32768),(L.getD i default).ty%32768,(L.getD i default).da⟩:=rfl;generalize L.getD i default=x at *
      simp only[Ad,CU,ae,aa,seval,iteOmega,toNatUp,aC,g,bV,ha,ll,a7];refine aM (i+1) (by omega) (by omega) (aj (fun _=>360) ?_ ?_ rfl rfl) <;> simp only[hs,abk,hO,ak,wx,ai,am,aa,seval,iteOmega,toNatUp] <;> first | rfl | exact⟨rfl,rfl⟩ | skip
     ·obtain rfl:i=L.length:=by omega
      simp only[Ad,CU,ae,aa,seval,iteOmega,toNatUp,ll];exact aE
  ·rw[if_neg h0] at hE;subst hE;rw[if_neg h0] at hL;subst hL;have g0:=eq_false h0;simp only[wc,af,ae,aa,seval,iteOmega,toNatUp];refine sC (c) ?_;simp only[g0,ae,aa,seval,iteOmega,toNatUp];exact aE
theorem vF (key info:List UInt8):ju key info 32=jd key info 32∧mu 32=0:=⟨lT key info (by decide),mQ (by decide)⟩
def rW:aH:=⟨2,31,.seq (.reg [oO 4 (.alloc [.nil]),oO 5 (.mv (kI 0))]) (.seq (.seq (.reg [oM 8 0,oO 9 (.bin .lss (.t 8) (kI 0)),oM 10 9,oG 11 (.mv (.t 0)) 10 false,oG 12 (.bin .gtr (.t 11) (kI 4294967295)) 10 false,oO 13 (.pick (.t 10) (.k (.c (.d (.bool true)))) (.t 12))]) (.cond (.t 13) (.seq (.reg [oO 14 (.build [.nil] []),oN (.store (.ag 1) (.t 4) (.t 14)),oO 5 (.mv (kI 4))]) (.ret)) (.skip))) (.seq (.seq (.reg [oM 15 1,oO 16 (.len (.t 15)),oO 17 (.bin .neq (.t 16) (kI 32))]) (.cond (.t 17) (.seq (.reg [oO 18 (.build [.nil] []),oN (.store (.ag 1) (.t 4) (.t 18)),oO 5 (.mv (kI 5))]) (.ret)) (.skip))) (.seq (.reg [oM 20 1,oO 21 (.bldSl true 13 1 (.int .u8 0) [(0,(.k (.c (.d (.int .u8 115))))),(1,(.k (.c (.d (.int .u8 101))))),(2,(.k (.c (.d (.int .u8 99))))),(3,(.k (.c (.d (.int .u8 116))))),(4,(.k (.c (.d (.int .u8 105))))),(5,(.k (.c (.d (.int .u8 109))))),(6,(.k (.c (.d (.int .u8 101))))),(7,(.k (.c (.d (.int .u8 32))))),(8,(.k (.c (.d (.int .u8 115))))),(9,(.k (.c (.d (.int .u8 116))))),(10,(.k (.c (.d (.int .u8 97))))),(11,(.k (.c (.d (.int .u8 114))))),(12,(.k (.c (.d (.int .u8 116)))))]),
 oO 22 (.markF (.t 21)),oO 23 (.call 101 [(.t 20),(.t 22),(kI 32)] none),oM 19 23,oO 24 (.extract (.t 19) 0),oO 25 (.extract (.t 19) 1),oM 6 24,oM 7 25]) (.seq (.reg [oM 26 0,oM 27 6,oO 28 (.build [(.d (.int .i64 0)),.nil] [(0,1,(.t 26)),(1,1,(.t 27))]),oO 29 (.bldSl false 1 2 (.agg [(.int .i64 0),(.sl [])]) [(0,(.t 28))]),oO 30 (.build [.nil] [(0,1,(.t 29))]),oN (.store (.ag 1) (.t 4) (.t 30)),oO 5 (.mv (kI 0))]) (.ret))))),[(4,(some (.ag 1))),(5,none)]⟩
theorem Wy:aG Tryz.prog { own:=[21],comp:=[],frz:=[22],nils:=[] } Tryz.f60=some rW:=by kernel_rfl
theorem YU (G:ah) (id:Int) (seed:List UInt8) (hs:seed.length≤9223372036854775807):aw Tryz.prog G 60 [.int .i64 id,.sl (seed.map bD)] (.tup [.c (.d (bp (oQ id seed))),.c (.d (.int .i64 (kP id seed)))]):=by
  refine aI Tryz.func60 Wy rfl rfl ?_;rcases adi id 0 with h1 | h1
  ·have e:kP id seed=4:=if_pos (.inl h1);have e2:oQ id seed=[]:=if_neg (by rw[e]; decide);rw[e,e2];unfold bp;simp only[rW,af,ae,aa,seval,iteOmega,toNatUp];exact kA (by simp only[ae,aa,seval,iteOmega,toNatUp] <;> rfl) (by simp only[ae,aa,seval,iteOmega,toNatUp])
  ·rcases adi 4294967295 id with h2 | h2
   ·have e:kP id seed=4:=if_pos (.inr h2);have e2:oQ id seed=[]:=if_neg (by rw[e]; decide);have g:(id>4294967295)=True:=eq_true h2;rw[e,e2];unfold bp;simp only[rW,af,ae,aa,seval,iteOmega,toNatUp,g];exact kA (by simp only[ae,aa,seval,iteOmega,toNatUp] <;> rfl) (by simp only[ae,aa,seval,iteOmega,toNatUp])
   ·have g:(id>4294967295)=False:=eq_false (by omega);by_cases h3:seed.length=32
    ·have e:kP id seed=0:=by unfold kP; rw[if_neg (by omega),if_neg (by omega)]
     have e2:oQ id seed=[⟨id,qD seed⟩]:=if_pos e;rw[e,e2];have c:=wb G seed rE (by omega) (by decide) 32 (by decide) (by decide);rw[(vF seed rE).1,(vF seed rE).2,show jd seed rE 32=qD seed from rfl] at c;generalize qD seed=K at *
     unfold bp;simp only[rW,af,ae,aa,seval,iteOmega,toNatUp,g,h3];refine aW c (by simp only[ae,aa,seval,iteOmega,toNatUp] <;> rfl) (.inl rfl) ?_;simp only[ae,aa,seval,iteOmega,toNatUp];exact kA (by simp only[ae,aa,seval,iteOmega,toNatUp] <;> rfl) (by simp only[ae,aa,seval,iteOmega,toNatUp])
    ·have e:kP id seed=5:=by unfold kP; rw[if_neg (by omega),if_pos h3]
     have e2:oQ id seed=[]:=if_neg (by rw[e]; decide);rw[e,e2];unfold bp;simp only[rW,af,ae,aa,seval,iteOmega,toNatUp,g];exact kA (by simp only[ae,aa,seval,iteOmega,toNatUp] <;> rfl) (by simp only[ae,aa,seval,iteOmega,toNatUp])
theorem YV {l:List Fd} (h:¬ dj l):jx l=3∧mE l=[]:=by
  have e:jx l=3:=if_neg h;exact⟨e,if_neg (by rw[e]; decide)⟩
theorem YW {l:List Fd} (h:dj l) {i:Nat} (hi:i<l.length) (h3:i<3) (e:(l.getD i default).ty=ia l):jx l=7∧mE l=[]:=by
  have hc:clash l=true:=by
    unfold clash;rw[ace];refine⟨l.getD i default,?_,decide_eq_true e⟩;rw[abb,aa7 hi];exact List.mem_take_iff_getElem.2 ⟨i,by omega,rfl⟩
  have e7:jx l=7:=by unfold jx; rw[if_pos h,if_pos hc]
  exact⟨e7,if_neg (by rw[e7]; decide)⟩
theorem NN {l:List Fd} (h:dj l) {i:Nat} (hi:i≤l.length) (hend:l.length≤i∨3≤i) (hd:∀ j,j<i→(l.getD j default).ty≠ia l) (h3:i≤3):jx l=0∧mE l=mD l::l.take i:=by
  have ht:l.take 3=l.take i:=by
    rcases hend with h | h
    ·rw[aa9 h,aa9 (by omega)]
    ·rw[show i=3 by omega]
  have hc:clash l=false:=by
    unfold clash;rw[ht,aca];intro f hf;obtain⟨j,hj,rfl⟩:=List.mem_take_iff_getElem.1 hf;have:=hd j (by omega);rw[abb,aa7 (by omega)] at this
    simpa using this
  have e:jx l=0:=by unfold jx; rw[if_pos h,if_neg (by rw[hc]; decide)]
  refine⟨e,?_⟩;unfold mE;rw[if_pos e,ht]
def gA (l:List Fd) (i:Nat):List Fd:=mD l::l.take i
theorem YX {l:List Fd} {i:Nat} (h:i<l.length):gA l (i+1)=gA l i++[l.getD i default]:=by
  unfold gA;rw[FV h]; rfl
def Pb (l:List Fd) (i:Nat):St:=⟨aQ [(1,.w (.c (.rp [.sl (l.map bV)]))),(2,.w (.c (.ptr 3 1 0 0))),(6,.w (.c (.ptr 1 1 0 0))),(7,.w (.c (.d (.int .i64 (i:Int)))))],hL [(1,.box [.own 2 2 0 (gA l i).length]),(2,.row 2 ((gA l i).map bV)),(3,.box [.nil])],uL [1,2,3]⟩
def rn:aN := .seq (.seq (.reg [oM 34 7,oO 35 (.fieldAddr 0 (.t 1)),oO 36 (.load .sc (.t 35)),oO 37 (.len (.t 36)),oO 38 (.bin .lss (.t 34) (.t 37)),oM 39 38,oG 40 (.mv (.t 7)) 39 true,oG 41 (.bin .lss (.t 40) (kI 3)) 39 true,oO 42 (.pick (.t 39) (.t 41) (.k (.c (.d (.bool false)))))]) (.cond (.t 42) (.skip) (.exit 0))) (.seq (.block 1 (.seq (.seq (.reg [oO 45 (.fieldAddr 0 (.t 1)),oO 46 (.load .sc (.t 45)),oM 47 7,oO 48 (.idxSl 2 (.t 46) (.t 47)),oO 49 (.fieldAddr 0 (.t 48)),oO 50 (.load .sc (.t 49)),oO 51 (.fieldAddr 0 (.t 6)),oO 52 (.load .sc (.t 51)),oO 53 (.idxSl 2 (.t 52) (kI 0)),oO 54 (.fieldAddr 0 (.t 53)),oO 55 (.load .sc (.t 54)),oO 56 (.bin .eql (.t 50) (.t 55))]) (.cond (.t 56) (.seq (.reg [oO 57 (.build [.nil] []),oN (.store (.ag 1) (.t 2) (.t 57)),oO 3 (.mv (kI 7))])
 (.ret)) (.skip))) (.reg [oO 58 (.fieldAddr 0 (.t 6)),oO 59 (.load .sc (.t 58)),oO 60 (.fieldAddr 0 (.t 1)),oO 61 (.load .sc (.t 60)),oM 62 7,oO 63 (.idxSl 2 (.t 61) (.t 62)),oO 64 (.fieldAddr 0 (.t 63)),oO 65 (.load .sc (.t 64)),oO 66 (.fieldAddr 0 (.t 1)),oO 67 (.load .sc (.t 66)),oM 68 7,oO 69 (.idxSl 2 (.t 67) (.t 68)),oO 70 (.fieldAddr 1 (.t 69)),oO 71 (.load .sc (.t 70)),oO 72 (.bldSl false 1 1 (.sl []) [(0,(.t 71))]),oO 73 (.call 43 [(.t 72)] none),oO 74 (.build [(.d (.int .i64 0)),.nil] [(0,1,(.t 65)),(1,1,(.t 73))]),oO 75 (.bldSl false 1 2 (.agg [(.int .i64 0),(.sl [])]) [(0,(.t 74))]),oO 76 (.app false 2 32 (.t 59) (.t 75)),oO 77 (.fieldAddr 0 (.t 6)),oN (.store .sc (.t 77) (.t 76))]))) (.reg [oM 43 7,oO 44 (.bin .add (.t 43) (kI 1)),oM 7 44]))
def AZ:aH:=⟨1,79,.seq (.reg [oO 1 (.box .roBox (.t 0)),oO 2 (.alloc [.nil]),oO 3 (.mv (kI 0))]) (.seq (.seq (.reg [oO 8 (.load (.ag 1) (.t 1)),oO 9 (.call 73 [(.t 8)] none),oO 10 (.un .not (.t 9))]) (.cond (.t 10) (.seq (.reg [oO 11 (.build [.nil] []),oN (.store (.ag 1) (.t 2) (.t 11)),oO 3 (.mv (kI 3))]) (.ret)) (.skip))) (.seq (.reg [oO 13 (.fieldAddr 0 (.t 1)),oO 14 (.load .sc (.t 13)),oO 15 (.idxSl 2 (.t 14) (kI 0)),oO 16 (.fieldAddr 1 (.t 15)),oO 17 (.load .sc (.t 16)),oO 18 (.bldSl true 12 1 (.int .u8 0) [(0,(.k (.c (.d (.int .u8 115))))),(1,(.k (.c (.d (.int .u8 101))))),(2,(.k (.c (.d (.int .u8 99))))),(3,(.k (.c (.d (.int .u8 116))))),(4,(.k (.c (.d (.int .u8 105))))),(5,(.k (.c (.d (.int .u8 109))))),(6,(.k (.c (.d (.int .u8 101))))),(7,(.k (.c (.d (.int .u8 32))))),(8,(.k (.c (.d (.int .u8 110))))),(9,(.k (.c (.d (.int .u8 101))))),(10,(.k (.c (.d (.int .u8 120))))),(11,(.k (.c (.d (.int .u8 116)))))]),
 oO 19 (.markF (.t 18)),oO 20 (.call 101 [(.t 17),(.t 19),(kI 32)] none),oM 12 20,oO 21 (.extract (.t 12) 0),oO 22 (.extract (.t 12) 1),oM 4 21,oM 5 22]) (.seq (.reg [oO 23 (.fieldAddr 0 (.t 1)),oO 24 (.load .sc (.t 23)),oO 25 (.idxSl 2 (.t 24) (kI 0)),oO 26 (.fieldAddr 0 (.t 25)),oO 27 (.load .sc (.t 26)),oO 28 (.bin .add (.t 27) (kI 1)),oO 29 (.bin .and (.t 28) (kI 4294967295)),oM 30 4,oO 31 (.build [(.d (.int .i64 0)),.nil] [(0,1,(.t 29)),(1,1,(.t 30))]),oO 32 (.bldSl true 1 2 (.agg [(.int .i64 0),(.sl [])]) [(0,(.t 31))]),oO 33 (.build [.nil] [(0,1,(.t 32))]),oO 6 (.alloc [.nil]),oN (.store (.ag 1) (.t 6) (.t 33))]) (.seq (.seq (.reg [oO 7 (.mv (kI 0))]) (.block 0 (.loop rn))) (.seq (.reg [oO 78 (.load (.ag 1) (.t 6)),oN (.store (.ag 1) (.t 2) (.t 78)),oO 3 (.mv (kI 0))]) (.ret)))))),
 [(2,(some (.ag 1))),(3,none)]⟩
theorem Wz:aG Tryz.prog { own:=[18,32],comp:=[],frz:=[19],nils:=[] } Tryz.f61=some AZ:=by kernel_rfl
theorem YY (G:ah) (l:List Fd) (hl:l.length≤9223372036854775807):aw Tryz.prog G 61 [bp l] (.tup [.c (.d (bp (mE l))),.c (.d (.int .i64 (jx l)))]):=by
  refine aI Tryz.func61 Wz rfl rfl ?_;have c1:=BU G l hl;by_cases hr:dj l
  ·rw[decide_eq_true hr] at c1;have r1:=hr.1;have r2:=hr.2.1;have g0:=nG (l:=l) (i:=0) (by omega);obtain⟨⟨m1,m2,m3⟩,_⟩:=nc hr (i:=0) (by omega);have c2:=wb G (l.getD 0 default).da vD (by omega) (by decide) 32 (by decide) (by decide);rw[(vF _ vD).1,(vF [] []).2,show jd (l.getD 0 default).da vD 32=qE (l.getD 0 default).da from rfl] at c2;have ha:=SA ((l.getD 0 default).ty+1);rw[show ((l.getD 0 default).ty+1)%4294967296=ia l from rfl] at ha;have hO0:gA l 0=[⟨ia l,qE (l.getD 0 default).da⟩]:=rfl;have hOh:∀ i,(gA l i).map bV=.agg [.int .i64 (ia l),.sl ((qE (l.getD 0 default).da).map bD)]::(l.take i).map bV:=fun i=>rfl
   unfold bp at *
   generalize hk0:l.getD 0 default=k0 at *
   simp only[AZ,af,ae,aa,seval,iteOmega,toNatUp];refine sC (c1) ?_;simp only[aC,g0,bV,ha,ae,aa,seval,iteOmega,toNatUp];refine sC c2 ?_;simp only[aC,g0,bV,ha,ae,aa,seval,iteOmega,toNatUp];refine aU (Pb l) (fun i=>4-i) (fun i=>i≤l.length∧i≤3∧∀ j,j<i→(l.getD j default).ty≠ia l) 0 ⟨abc _,abc _,fun j hj=>by omega⟩ ?_ ?_
   ·refine aj (fun i=>if i=1 then 48 else if i=2 then 256 else 16) ?_ ?_ rfl rfl <;> simp only[wx,ai,am,aa,seval,iteOmega,toNatUp,hO0] <;> first | exact⟨rfl,rfl⟩ | rfl | skip
   ·rintro i ⟨hi,hi3,hd⟩;clear c1 c2;have hOl:(gA l i).length=i+1:=by simp[gA]; omega
    have az:=zF (gA l i);have hhd:(gA l i)[0]?=some (mD l):=rfl;have hty:(mD l).ty=ia l:=rfl;have est:Pb l i=⟨aQ [(1,.w (.c (.rp [.sl (l.map bV)]))),(2,.w (.c (.ptr 3 1 0 0))),(6,.w (.c (.ptr 1 1 0 0))),(7,.w (.c (.d (.int .i64 (i:Int)))))],hL [(1,.box [.own 2 2 0 (gA l i).length]),(2,.row 2 ((gA l i).map bV)),(3,.box [.nil])],uL [1,2,3]⟩:=rfl;by_cases hlt:i<l.length
    ·by_cases h3:i<3
     ·have g:=nG hlt;have hs:=YX hlt;obtain⟨⟨_,_,x3⟩,_⟩:=nc hr hlt;have cj:=fQ G [(l.getD i default).da] (by simp) (by rw[acV,acG,abm,x3]; decide);simp only[abd,abo,acV,acG,abm] at cj;by_cases he:(l.getD i default).ty=ia l
      ·obtain⟨e1,e2⟩:=YW hr hlt h3 he;have ge:((l.getD i default).ty=ia l)=True:=eq_true he;rw[e1,e2,est];clear hd hs hOh hO0 est;generalize gA l i=O at *
       generalize l.getD i default=x at *
       generalize mD l=nf at *
       generalize ia l=ni at *
       simp only[rn,ae,aa,seval,iteOmega,toNatUp,aC,g,hhd,bV,hty,ge];exact kA (by simp only[ae,aa,seval,iteOmega,toNatUp] <;> rfl) (by simp only[ae,aa,seval,iteOmega,toNatUp])
      ·have ge:((l.getD i default).ty=ia l)=False:=eq_false he;have hd':∀ j,j<i+1→(l.getD j default).ty≠ia l:=fun j hj=>by
         rcases abL j i with h | h
         ·exact hd j h
         ·obtain rfl:j=i:=by omega
          exact he
       rw[est];clear hd hOh hO0 est;generalize hO:gA l i=O at *
       generalize l.getD i default=x at *
       generalize hnf:mD l=nf at *
       generalize hni:ia l=ni at *
       simp only[rn,ae,aa,seval,iteOmega,toNatUp,aC,g,hhd,bV,hty,ge];refine sC (cj) ?_;simp only[a7,R7,bV,ae,aa,seval,iteOmega,toNatUp];refine aM (i+1) (by omega) ⟨by omega,by omega,hd'⟩ (aj (fun i=>if i=1 then 1 else if i=2 then 608 else 3) ?_ ?_ rfl rfl) <;> simp only[hs,abk,bV,wx,ai,am,aa,seval,iteOmega,toNatUp]
     ·obtain⟨e1,e2⟩:=NN hr hi (.inr (by omega)) hd hi3;have e2:mE l=gA l i:=e2;have g3:((i:Int)<3)=False:=eq_false (by omega);rw[e1,e2,est];clear hd hOh hO0 est;generalize gA l i=O at *
      simp only[rn,ae,aa,seval,iteOmega,toNatUp,g3];exact kA (by simp only[ae,aa,seval,iteOmega,toNatUp] <;> rfl) (by simp only[ae,aa,seval,iteOmega,toNatUp])
    ·obtain⟨e1,e2⟩:=NN hr hi (.inl (by omega)) hd hi3;have e2:mE l=gA l i:=e2;rw[e1,e2,est];clear hd hOh hO0 est;generalize gA l i=O at *
     simp only[rn,ae,aa,seval,iteOmega,toNatUp];exact kA (by simp only[ae,aa,seval,iteOmega,toNatUp] <;> rfl) (by simp only[ae,aa,seval,iteOmega,toNatUp])
  ·rw[decide_eq_false hr] at c1;obtain⟨e1,e2⟩:=YV hr;rw[e1,e2];unfold bp at *
   simp only[AZ,af,ae,aa,seval,iteOmega,toNatUp];refine sD (c1) ?_;exact kA (by simp only[ae,aa,seval,iteOmega,toNatUp] <;> rfl) (by simp only[ae,aa,seval,iteOmega,toNatUp])
def df (a b:List UInt8):D:=.agg [.sl (a.map bD),.sl (b.map bD)]
theorem Ll (m:Fd) (algo:Int) (up dn nonce:List UInt8):[dB m,nonce,fU m.da [dB m,nonce] (fb algo up dn)].flatten=dO m algo up dn nonce:=by
  unfold dO;simp only[acV,acG,abm]
theorem u5 (algo:Int) (up dn:List UInt8):[aV algo.toNat 2,[0,0],up,dn].flatten=fb algo up dn:=by
  unfold fb;simp only[acV,acG,abm]
def Lm:aH:=⟨4,40,.seq (.reg [oO 4 (.box .roBox (.t 0)),oO 6 (.box .roBox (.t 2)),oO 8 (.mv (.k (.c .nil)))]) (.seq (.reg [oO 12 (.fieldAddr 0 (.t 4)),oO 13 (.load .sc (.t 12)),oO 14 (.conv .u64 (.t 13)),oO 15 (.call 44 [(.t 14),(kI 4)] none),oM 9 15]) (.seq (.reg [oO 17 (.fieldAddr 1 (.t 4)),oO 18 (.load .sc (.t 17)),oM 19 9,oM 20 3,oO 21 (.bldSl false 2 1 (.sl []) [(0,(.t 19)),(1,(.t 20))]),oM 22 1,oO 23 (.conv .u64 (.t 22)),oO 24 (.call 44 [(.t 23),(kI 2)] none),oO 25 (.bldSl false 2 1 (.int .u8 0) [(0,(.k (.c (.d (.int .u8 0))))),(1,(.k (.c (.d (.int .u8 0)))))]),oO 26 (.fieldAddr 0 (.t 6)),oO 27 (.load .sc (.t 26)),oO 28 (.fieldAddr 1 (.t 6)),oO 29 (.load .sc (.t 28)),oO 30 (.bldSl false 4 1 (.sl []) [(0,(.t 24)),(1,(.t 25)),(2,(.t 27)),(3,(.t 29))]),oO 31 (.call 43 [(.t 30)] none),
 oO 32 (.call 132 [(.t 18),(.t 21),(.t 31)] none),oM 16 32,oO 33 (.extract (.t 16) 0),oO 34 (.extract (.t 16) 1),oM 10 33,oM 11 34]) (.seq (.reg [oM 35 9,oM 36 3,oM 37 10,oO 38 (.bldSl false 3 1 (.sl []) [(0,(.t 35)),(1,(.t 36)),(2,(.t 37))]),oO 39 (.call 43 [(.t 38)] none),oM 8 39]) (.ret)))),[(8,none)]⟩
theorem WA:aG Tryz.prog { own:=[],comp:=[],frz:=[],nils:=[] } Tryz.f113=some Lm:=by kernel_rfl
theorem YZ (G:ah) (m:Fd) (algo:Int) (up dn nonce:List UInt8) (i0:0≤m.ty) (i1:m.ty≤4294967295) (hk:m.da.length=32) (a0:0≤algo) (a1:algo≤65535) (h1:up.length=32) (h2:dn.length=32) (hn:nonce.length=16) :
    aw Tryz.prog G 113 [bV m,.int .i64 algo,df up dn,.sl (nonce.map bD)] (.w (.c (.d (.sl ((dO m algo up dn nonce).map bD))))):=by
  refine aI Tryz.func113 WA rfl rfl ?_;have hp:=AV algo h1 h2;have hi:(dB m).length=4:=bU _ _;have ha:cP m.da [dB m,nonce] ((fb algo up dn).length:Int)=0:=zZ hk (by simp) (fun x hx=>by simp at hx; rcases hx with rfl | rfl <;> omega) (by omega);have hs:(fU m.da [dB m,nonce] (fb algo up dn)).length=84:=by rw[uR ha,aba,jA,po,hp]
  have c1:=rV G m.ty.toNat 4 (by decide);rw[show (4:Int).toNat=4 from rfl,show aV m.ty.toNat 4=dB m from rfl,show ((m.ty.toNat:Nat):Int)=m.ty by omega] at c1;have c2:=rV G algo.toNat 2 (by decide);rw[show (2:Int).toNat=2 from rfl,show ((algo.toNat:Nat):Int)=algo by omega] at c2;have c3:=fQ G [aV algo.toNat 2,[0,0],up,dn] (by simp) (by rw[u5]; omega);rw[u5] at c3;have c4:=V6 G m.da [dB m,nonce] (fb algo up dn) (by omega) (by simp) (fun x hx=>by simp at hx; rcases hx with rfl | rfl <;> omega) (by omega);rw[ha] at c4;have c5:=fQ G [dB m,nonce,fU m.da [dB m,nonce] (fb algo up dn)] (by simp) (by simp only[acV,acG,aba,acs,hi,hn,hs]; omega);rw[Ll] at c5;unfold cT at c4;unfold df bV;generalize dO m algo up dn nonce=B at *
  generalize fU m.da [dB m,nonce] (fb algo up dn)=S at *
  generalize fb algo up dn=P at *
  generalize dB m=I at *
  generalize aV algo.toNat 2=A at *
  simp only[abd,abo] at c3 c4 c5;simp only[Lm,af,ae,aa,seval,iteOmega,toNatUp];refine sD (c1) ?_;refine sD (c2) ?_;refine aW c3 (by simp only[ae,aa,seval,iteOmega,toNatUp] <;> rfl) (.inl rfl) ?_;simp only[ae,aa,seval,iteOmega,toNatUp];refine sD (c4) ?_;refine sD (c5) ?_;exact aL
theorem jF {l:List Fd} {algo:Int} {up dn nonce:List UInt8} {e:Int} (h:gC l algo up dn nonce=e) (he:e≠0):mF l algo up dn nonce=[]:=if_neg (by rw[h]; exact he)
def mU:aH:=⟨4,40,.seq (.reg [oO 4 (.box .roBox (.t 0)),oO 6 (.box .roBox (.t 2)),oO 8 (.mv (.k (.c .nil))),oO 9 (.mv (kI 0))]) (.seq (.seq (.reg [oO 10 (.load (.ag 1) (.t 4)),oO 11 (.call 73 [(.t 10)] none),oO 12 (.un .not (.t 11))]) (.cond (.t 12) (.seq (.reg [oO 8 (.mv (.k (.c .nil))),oO 9 (.mv (kI 3))]) (.ret)) (.skip))) (.seq (.seq (.reg [oM 13 1,oO 14 (.bin .lss (.t 13) (kI 0)),oM 15 14,oG 16 (.mv (.t 1)) 15 false,oG 17 (.bin .gtr (.t 16) (kI 65535)) 15 false,oO 18 (.pick (.t 15) (.k (.c (.d (.bool true)))) (.t 17))]) (.cond (.t 18) (.seq (.reg [oO 8 (.mv (.k (.c .nil))),oO 9 (.mv (kI 4))]) (.ret)) (.skip))) (.seq (.seq (.reg [oO 19 (.fieldAddr 0 (.t 6)),oO 20 (.load .sc (.t 19)),oO 21 (.len (.t 20)),oO 22 (.bin .neq (.t 21) (kI 32)),oM 23 22,oG 24 (.fieldAddr 1 (.t 6)) 23 false,
 oG 25 (.load .sc (.t 24)) 23 false,oG 26 (.len (.t 25)) 23 false,oG 27 (.bin .neq (.t 26) (kI 32)) 23 false,oO 28 (.pick (.t 23) (.k (.c (.d (.bool true)))) (.t 27))]) (.cond (.t 28) (.seq (.reg [oO 8 (.mv (.k (.c .nil))),oO 9 (.mv (kI 5))]) (.ret)) (.skip))) (.seq (.seq (.reg [oM 29 3,oO 30 (.len (.t 29)),oO 31 (.bin .neq (.t 30) (kI 16))]) (.cond (.t 31) (.seq (.reg [oO 8 (.mv (.k (.c .nil))),oO 9 (.mv (kI 3))]) (.ret)) (.skip))) (.seq (.reg [oO 32 (.fieldAddr 0 (.t 4)),oO 33 (.load .sc (.t 32)),oO 34 (.idxSl 2 (.t 33) (kI 0)),oO 35 (.load (.ag 2) (.t 34)),oM 36 1,oO 37 (.load (.ag 2) (.t 6)),oM 38 3,oO 39 (.call 113 [(.t 35),(.t 36),(.t 37),(.t 38)] none),oM 8 39,oO 9 (.mv (kI 0))]) (.ret)))))),[(8,none),(9,none)]⟩
theorem WB:aG Tryz.prog { own:=[],comp:=[],frz:=[],nils:=[] } Tryz.f78=some mU:=by kernel_rfl
theorem Y0 (G:ah) (l:List Fd) (algo:Int) (up dn nonce:List UInt8) (hl:l.length≤9223372036854775807):aw Tryz.prog G 78 [bp l,.int .i64 algo,df up dn,.sl (nonce.map bD)] (.tup [.c (.d (.sl ((mF l algo up dn nonce).map bD))),.c (.d (.int .i64 (gC l algo up dn nonce)))]):=by
  refine aI Tryz.func78 WB rfl rfl ?_;have c1:=BU G l hl;by_cases hr:dj l
  ·rw[decide_eq_true hr] at c1;have e0:gC l algo up dn nonce=if algo<0∨65535<algo then 4 else if up.length≠32∨dn.length≠32 then 5 else if nonce.length≠16 then 3 else 0:=if_pos hr
   rcases adi algo 0 with h1 | h1
   ·have e:gC l algo up dn nonce=4:=by rw[e0,if_pos (.inl h1)]
    rw[jF e (by decide),e];unfold bp df at *
    simp only[mU,af,ae,aa,seval,iteOmega,toNatUp];refine sD (c1) ?_;exact aE
   ·rcases adi 65535 algo with h2 | h2
    ·have e:gC l algo up dn nonce=4:=by rw[e0,if_pos (.inr h2)]
     have g2:(algo>65535)=True:=eq_true h2;rw[jF e (by decide),e];unfold bp df at *
     simp only[mU,af,ae,aa,seval,iteOmega,toNatUp];refine sC (c1) ?_;simp only[g2,ae,aa,seval,iteOmega,toNatUp];exact aE
    ·have g2:(algo>65535)=False:=eq_false (by omega);rw[if_neg (by omega)] at e0;by_cases h3:up.length=32
     ·by_cases h4:dn.length=32
      ·rw[if_neg (by omega)] at e0;by_cases h5:nonce.length=16
       ·rw[if_neg (by omega)] at e0;have eB:mF l algo up dn nonce=dO (l.getD 0 default) algo up dn nonce:=if_pos e0;rw[e0,eB];have g0:=nG (l:=l) (i:=0) (by have:=hr.1; omega);obtain⟨⟨m1,m2,m3⟩,_⟩:=nc hr (i:=0) (by have:=hr.1; omega);have c2:=YZ G (l.getD 0 default) algo up dn nonce m1 m2 m3 h1 h2 h3 h4 h5;have r1:=hr.1;clear e0 eB;generalize dO (l.getD 0 default) algo up dn nonce=B at *
        generalize l.getD 0 default=m at *
        unfold bp df bV at *
        simp only[mU,af,ae,aa,seval,iteOmega,toNatUp];refine sC (c1) ?_;simp only[g2,h3,h4,h5,aC,g0,ae,aa,seval,iteOmega,toNatUp];refine sD (c2) ?_;exact aE
       ·rw[if_pos h5] at e0;rw[jF e0 (by decide),e0];unfold bp df at *
        simp only[mU,af,ae,aa,seval,iteOmega,toNatUp];refine sC (c1) ?_;simp only[g2,h3,h4,ae,aa,seval,iteOmega,toNatUp];exact aE
      ·have e:gC l algo up dn nonce=5:=by rw[e0,if_pos (.inr h4)]
       rw[jF e (by decide),e];unfold bp df at *
       simp only[mU,af,ae,aa,seval,iteOmega,toNatUp];refine sC (c1) ?_;simp only[g2,h3,ae,aa,seval,iteOmega,toNatUp];exact aE
     ·have e:gC l algo up dn nonce=5:=by rw[e0,if_pos (.inl h3)]
      rw[jF e (by decide),e];unfold bp df at *
      simp only[mU,af,ae,aa,seval,iteOmega,toNatUp];refine sC (c1) ?_;simp only[g2,ae,aa,seval,iteOmega,toNatUp];exact aE
  ·rw[decide_eq_false hr] at c1;have e:gC l algo up dn nonce=3:=if_neg hr;rw[jF e (by decide),e];unfold bp df at *
   simp only[mU,af,ae,aa,seval,iteOmega,toNatUp];refine sD (c1) ?_;exact aE
def CW (t:Int) (s:Nat) (K:List UInt8) (i:Nat):St:=⟨aQ [(1,.w (.c (.d (.int .i64 t)))),(4,.w (.c (.ptr 2 1 0 0))),(5,.w (.c (.ptr 1 1 0 0))),(7,.w (.c (.d (.int .i64 (i:Int)))))],hL [(1,.box [.d (.sl ((dZ s K i).map bV))]),(2,.box [.nil])],uL [1,2]⟩
def Ae:aN := .seq (.seq (.reg [oM 16 7,oM 17 1,oO 18 (.call 24 [(.t 17),(kI 6)] none),oO 19 (.bin .lss (.t 16) (.t 18))]) (.cond (.t 19) (.skip) (.exit 0))) (.seq (.block 1 (.reg [oO 23 (.load (.ag 1) (.t 5)),oO 24 (.call 61 [(.t 23)] none),oM 22 24,oO 25 (.extract (.t 22) 0),oO 26 (.extract (.t 22) 1),oN (.store (.ag 1) (.t 5) (.t 25))])) (.reg [oM 20 7,oO 21 (.bin .add (.t 20) (kI 1)),oM 7 21]))
def NO:aH:=⟨2,28,.seq (.reg [oO 4 (.alloc [.nil])]) (.seq (.reg [oM 9 0,oO 10 (.call 24 [(.t 9),(kI 4294967296)] none),oM 11 0,oO 12 (.call 59 [(.t 11)] none),oO 13 (.call 60 [(.t 10),(.t 12)] none),oM 8 13,oO 14 (.extract (.t 8) 0),oO 15 (.extract (.t 8) 1),oO 5 (.alloc [.nil]),oN (.store (.ag 1) (.t 5) (.t 14)),oM 6 15]) (.seq (.seq (.reg [oO 7 (.mv (kI 0))]) (.block 0 (.loop Ae))) (.seq (.reg [oO 27 (.load (.ag 1) (.t 5)),oN (.store (.ag 1) (.t 4) (.t 27))]) (.ret)))),[(4,(some (.ag 1)))]⟩
theorem Y1:aG Tryz.prog { own:=[],comp:=[],frz:=[],nils:=[] } Tryz.f25=some NO:=by kernel_rfl
set_option maxHeartbeats 1600000 in
theorem Pf (G:ah) (s:Nat) (t:Int) (hs:s≤1000000):aw Tryz.prog G 25 [.int .i64 (s:Int),.int .i64 t] (.w (.c (.d (bp (dZ s (bE s 32) (jk t 6).toNat))))):=by
  refine aI Tryz.func25 Y1 rfl rfl ?_;have c1:=z7 G (s:Int) 4294967296 (by decide);have e1:jk (s:Int) 4294967296=(s:Int):=by unfold jk; rw[if_neg (by decide)]; omega
  rw[e1] at c1;have c2:=NJ G (s:Int);have kl:(bE s 32).length=32:=qW _ _;have c3:=YU G (s:Int) (bE s 32) (by omega);obtain⟨q1,q2⟩:=Sz s (bE s 32) (by omega) kl;rw[q1,q2] at c3;have c4:=z7 G t 6 (by decide);obtain⟨r1,r2⟩:=D1 t 6 (by decide);have hstep:∀ i,i<6→aw Tryz.prog G _ [bp (dZ s (bE s 32) i)] (.tup [.c (.d (bp (dZ s (bE s 32) (i+1)))),.c (.d (.int .i64 0))]):=fun i hi=>by
    have c:=YY G (dZ s (bE s 32) i) (by rw[oe]; omega);obtain⟨a,b⟩:=Ul (s:=s) (seed:=bE s 32) (t:=i) (by omega);rw[a,b] at c;exact c
  generalize bE s 32=K at *
  generalize jk t 6=n at *
  unfold bp at *
  simp only[NO,af,ae,aa,seval,iteOmega,toNatUp];refine sD (c1) ?_;refine sD (c2) ?_;refine sD (c3) ?_;refine aU (CW t s K) (fun i=>n.toNat-i) (fun i=>i≤n.toNat) 0 (abc _) ?_ ?_
  ·refine aj (fun i=>if i=1 then 40 else 32) ?_ ?_ rfl rfl <;> simp only[wx,ai,am,aa,seval,iteOmega,toNatUp]
  ·intro i hi;by_cases hlt:i<n.toNat
   ·have c:=hstep i (by omega);have g:(i:Int)<n:=by omega
    simp only[Ae,CW,ae,aa,seval,iteOmega,toNatUp];refine sC (c4) ?_;simp only[g,ae,aa,seval,iteOmega,toNatUp];refine sD (c) ?_;refine aM (i+1) (by omega) (by omega) (aj (fun i=>i) ?_ ?_ rfl rfl) <;> simp only[wx,ai,am,aa,seval,iteOmega,toNatUp] <;> try rfl
   ·have g:((i:Int)<n)=False:=eq_false (by omega);have e:n.toNat=i:=by omega
    rw[e];simp only[Ae,CW,ae,aa,seval,iteOmega,toNatUp];refine sC (c4) ?_;simp only[g,ae,aa,seval,iteOmega,toNatUp];exact aL
theorem nL {l:List Nat} {i:Nat} (h:i<l.length):(l.map bT)[i]?=some (bT (l.getD i 0)):=by
  rw[abX,abb,aa7 h]; rfl
theorem lD {l:List Ek} {i:Nat} (h:i<l.length):(l.map ak)[i]?=some (ak (l.getD i default)):=by
  rw[abX,i8 h]; rfl
theorem zG {l:List Int} {i:Nat} (h:i<l.length):(l.map zD)[i]?=some (zD (l.getD i 0)):=by
  rw[abX,kQ h]; rfl
def ng:aH:=⟨2,43,.seq (.reg [oO 4 (.mv (.k (.c .nil))),oO 5 (.mv (kI 0))]) (.seq (.seq (.reg [oM 6 0,oO 7 (.call 54 [(.t 6)] none),oO 8 (.un .not (.t 7)),oM 9 8,oG 10 (.mv (.t 1)) 9 false,oG 11 (.call 54 [(.t 10)] none) 9 false,oG 12 (.un .not (.t 11)) 9 false,oO 13 (.pick (.t 9) (.k (.c (.d (.bool true)))) (.t 12))]) (.cond (.t 13) (.seq (.reg [oO 4 (.mv (.k (.c .nil))),oO 5 (.mv (kI 4))]) (.ret)) (.skip))) (.seq (.seq (.reg [oM 14 0,oO 15 (.len (.t 14)),oO 16 (.bin .eql (.t 15) (kI 0)),oM 17 16,oG 18 (.mv (.t 0)) 17 false,oG 19 (.len (.t 18)) 17 false,oG 20 (.bin .gtr (.t 19) (kI 16)) 17 false,oO 21 (.pick (.t 17) (.k (.c (.d (.bool true)))) (.t 20)),oM 22 21,oG 23 (.mv (.t 1)) 22 false,oG 24 (.len (.t 23)) 22 false,oG 25 (.bin .eql (.t 24) (kI 0)) 22 false,oO 26 (.pick (.t 22) (.k (.c (.d (.bool true)))) (.t 25)),
 oM 27 26,oG 28 (.mv (.t 1)) 27 false,oG 29 (.len (.t 28)) 27 false,oG 30 (.bin .gtr (.t 29) (kI 16)) 27 false,oO 31 (.pick (.t 27) (.k (.c (.d (.bool true)))) (.t 30))]) (.cond (.t 31) (.seq (.reg [oO 4 (.mv (.k (.c .nil))),oO 5 (.mv (kI 8))]) (.ret)) (.skip))) (.seq (.reg [oM 32 0,oO 33 (.call 55 [(.t 32)] none),oO 34 (.build [(.d (.bool false)),(.d (.int .i64 0)),.nil] [(0,1,(.k (.c (.d (.bool true))))),(1,1,(kI 1)),(2,1,(.t 33))]),oM 35 1,oO 36 (.call 55 [(.t 35)] none),oO 37 (.build [(.d (.bool false)),(.d (.int .i64 0)),.nil] [(0,1,(.k (.c (.d (.bool true))))),(1,1,(kI 4)),(2,1,(.t 36))]),oO 38 (.build [(.d (.bool false)),(.d (.int .i64 0)),.nil] [(0,1,(.k (.c (.d (.bool true))))),(1,1,(kI 0))]),oO 39 (.bldSl false 3 3 (.agg [(.bool false),(.int .i64 0),(.sl [])]) [(0,(.t 34)),(1,(.t 37)),(2,(.t 38))]),
 oO 40 (.call 11 [(.t 39)] none),oO 41 (.extract (.t 40) 0),oO 42 (.extract (.t 40) 1),oM 4 41,oM 5 42]) (.ret)))),[(4,none),(5,none)]⟩
theorem Y2:aG Tryz.prog { own:=[],comp:=[],frz:=[],nils:=[] } Tryz.f17=some ng:=by kernel_rfl
theorem aas (G:ah) (x y:List Int) (hx:x.length≤9000000000000000000) (hy:y.length≤9000000000000000000):aw Tryz.prog G 17 [.sl (x.map zD),.sl (y.map zD)] (.tup [.c (.d (.sl ((bQ x y).map bD))),.c (.d (.int .i64 (dk x y)))]):=by
  refine aI Tryz.func17 Y2 rfl rfl ?_;have c1:=qg G x hx;have c2:=qg G y hy;have hno:∀ e,dk x y=e→e≠0→bQ x y=[]:=fun e h1 h2=>if_neg (by rw[h1]; exact h2)
  by_cases h1:bA x
  ·rw[decide_eq_true h1] at c1;by_cases h2:bA y
   ·rw[decide_eq_true h2] at c2;have hE:dk x y=if x.length=0∨16<x.length∨y.length=0∨16<y.length then 8 else 0:=if_neg (not_not_intro ⟨h1,h2⟩)
    by_cases l1:x.length=0
    ·rw[if_pos (.inl l1)] at hE;rw[hno 8 hE (by decide),hE];have g1:((x.length:Int)=0)=True:=eq_true (by omega);simp only[ng,af,ae,aa,seval,iteOmega,toNatUp];refine sD (c1) ?_;refine sC (c2) ?_;simp only[g1,ae,aa,seval,iteOmega,toNatUp];exact aE
    ·have g1:((x.length:Int)=0)=False:=eq_false (by omega);by_cases l2:16<x.length
     ·rw[if_pos (.inr (.inl l2))] at hE;rw[hno 8 hE (by decide),hE];have g2:((x.length:Int)>16)=True:=eq_true (by omega);simp only[ng,af,ae,aa,seval,iteOmega,toNatUp];refine sD (c1) ?_;refine sC (c2) ?_;simp only[g1,g2,ae,aa,seval,iteOmega,toNatUp];exact aE
     ·have g2:((x.length:Int)>16)=False:=eq_false (by omega);by_cases l3:y.length=0
      ·rw[if_pos (.inr (.inr (.inl l3)))] at hE;rw[hno 8 hE (by decide),hE];have g3:((y.length:Int)=0)=True:=eq_true (by omega);simp only[ng,af,ae,aa,seval,iteOmega,toNatUp];refine sD (c1) ?_;refine sC (c2) ?_;simp only[g1,g2,g3,ae,aa,seval,iteOmega,toNatUp];exact aE
      ·have g3:((y.length:Int)=0)=False:=eq_false (by omega);by_cases l4:16<y.length
       ·rw[if_pos (.inr (.inr (.inr l4)))] at hE;rw[hno 8 hE (by decide),hE];have g4:((y.length:Int)>16)=True:=eq_true (by omega);simp only[ng,af,ae,aa,seval,iteOmega,toNatUp];refine sD (c1) ?_;refine sC (c2) ?_;simp only[g1,g2,g3,g4,ae,aa,seval,iteOmega,toNatUp];exact aE
       ·have g4:((y.length:Int)>16)=False:=eq_false (by omega);rw[if_neg (by omega)] at hE;obtain⟨q1,q2⟩:=BP hE;rw[show bQ x y=bc (d8 x y) from if_pos hE,hE];have c3:=qf G x (by omega) h1;have c4:=qf G y (by omega) h2;have c5:=OY G (d8 x y) (show (3:Nat)≤_ by decide) (fun r hr=>by
          have:r.bo.length≤65535:=by
            have h9:=(mh q1).1 r hr;exact (kD h9).2.2
          omega)
        rw[q1,q2] at c5;generalize bc (d8 x y)=Q at *
        simp only[d8,abd,abo,ak] at c5;generalize aT x=X at *
        generalize aT y=Y at *
        clear q1 q2 hE hno;simp only[ng,af,ae,aa,seval,iteOmega,toNatUp];refine sD (c1) ?_;refine sC (c2) ?_;simp only[g1,g2,g3,g4,ae,aa,seval,iteOmega,toNatUp];refine sD (c3) ?_;refine sD (c4) ?_;refine sD (c5) ?_;exact aE
   ·rw[decide_eq_false h2] at c2;have hE:dk x y=4:=if_pos (fun q=>h2 q.2);rw[hno 4 hE (by decide),hE];simp only[ng,af,ae,aa,seval,iteOmega,toNatUp];refine sD (c1) ?_;refine sD (c2) ?_;exact aE
  ·rw[decide_eq_false h1] at c1;have hE:dk x y=4:=if_pos (fun q=>h1 q.1);rw[hno 4 hE (by decide),hE];simp only[ng,af,ae,aa,seval,iteOmega,toNatUp];refine sD (c1) ?_;exact aE
def NP:aH:=⟨1,16,.seq (.reg [oO 2 (.mv (.k (.c .nil)))]) (.seq (.reg [oM 6 0,oO 7 (.bldSl false 1 1 (.int .i64 0) [(0,(.t 6))]),oO 8 (.call 55 [(.t 7)] none),oO 9 (.build [(.d (.bool false)),(.d (.int .i64 0)),.nil] [(0,1,(.k (.c (.d (.bool true))))),(1,1,(kI 2)),(2,1,(.t 8))]),oO 10 (.build [(.d (.bool false)),(.d (.int .i64 0)),.nil] [(0,1,(.k (.c (.d (.bool true))))),(1,1,(kI 0))]),oO 11 (.bldSl false 2 3 (.agg [(.bool false),(.int .i64 0),(.sl [])]) [(0,(.t 9)),(1,(.t 10))]),oO 12 (.call 11 [(.t 11)] none),oM 5 12,oO 13 (.extract (.t 5) 0),oO 14 (.extract (.t 5) 1),oM 3 13,oM 4 14]) (.seq (.reg [oM 15 3,oM 2 15]) (.ret))),[(2,none)]⟩
theorem Y3:aG Tryz.prog { own:=[],comp:=[],frz:=[],nils:=[] } Tryz.f76=some NP:=by kernel_rfl
theorem CX (G:ah) (k:Int) (hk:0≤k∧k≤65535):aw Tryz.prog G 76 [.int .i64 k] (.w (.c (.d (.sl ((fL k).map bD))))):=by
  refine aI Tryz.func76 Y3 rfl rfl ?_;have hs:bA [k]:=fun n hn=>by rw[abe.1 hn]; exact hk
  have c1:=qf G [k] (show (1:Nat)≤_ by decide) hs;have ok:∀ r∈[(⟨true,2,aT [k]⟩:Ek),⟨true,0,[]⟩],0≤r.ty∧r.ty≤7∧r.bo.length≤255:=fun r hr=>by
    rcases abr.1 hr with rfl | hr
    ·exact fg (by decide) (by rw[eU]; exact (show 2*1≤255 by decide))
    ·rw[abe.1 hr]; exact fg (by decide) (by decide)
  obtain⟨q1,q2⟩:=s6 ok (show (2:Nat)≤64 by decide);have c2:=OY G [⟨true,2,aT [k]⟩,⟨true,0,[]⟩] (show (2:Nat)≤_ by decide) (fun r hr=>by have:=(ok r hr).2.2; omega);rw[q1,q2] at c2;unfold fL;generalize bc [⟨true,2,aT [k]⟩,⟨true,0,[]⟩]=Q at *
  simp only[abd,abo,ak,zD] at c1 c2;generalize aT [k]=X at *
  simp only[NP,af,ae,aa,seval,iteOmega,toNatUp];refine sD (c1) ?_;refine sD (c2) ?_;exact aL
def qM:ByteArray:=⟨#[115,101,99,116,105,109,101,32,107,101,121,115]⟩
def wh:aH:=⟨3,47,.seq (.reg [oO 3 (.box .roBox (.t 0)),oO 6 (.alloc [.nil,.nil]),oO 7 (.mv (kI 0))]) (.seq (.seq (.reg [oO 12 (.loadB (.ag 6) (.t 3)),oO 13 (.call 41 [(.t 12)] none),oO 14 (.un .not (.t 13))]) (.cond (.t 14) (.seq (.reg [oO 15 (.build [.nil,.nil] []),oN (.store (.ag 2) (.t 6) (.t 15)),oO 7 (.mv (kI 3))]) (.ret)) (.skip))) (.seq (.seq (.reg [oM 16 1,oM 17 2,oO 18 (.bldSl false 2 1 (.int .i64 0) [(0,(.t 16)),(1,(.t 17))]),oO 19 (.call 54 [(.t 18)] none),oO 20 (.un .not (.t 19))]) (.cond (.t 20) (.seq (.reg [oO 21 (.build [.nil,.nil] []),oN (.store (.ag 2) (.t 6) (.t 21)),oO 7 (.mv (kI 4))]) (.ret)) (.skip))) (.seq (.reg [oO 23 (.loadB (.ag 6) (.t 3)),oM 24 1,oM 25 2,oO 26 (.bldSl false 2 1 (.int .i64 0) [(0,(.t 24)),(1,(.t 25))]),oO 27 (.call 55 [(.t 26)] (some (0,1))),oO 28 (.bldSl false 1 1 (.int .u8 0) [(0,(.k (.c (.d (.int .u8 0)))))]),
 oO 29 (.app false 1 1 (.t 27) (.t 28)),oO 30 (.call 64 [(.t 23),(.k (.c (.d (.str ⟨#[115,101,99,116,105,109,101,32,107,101,121,115]⟩)))),(.t 29),(kI 32)] none),oM 22 30,oO 31 (.extract (.t 22) 0),oO 32 (.extract (.t 22) 1),oM 8 31,oM 9 32]) (.seq (.reg [oO 34 (.loadB (.ag 6) (.t 3)),oM 35 1,oM 36 2,oO 37 (.bldSl false 2 1 (.int .i64 0) [(0,(.t 35)),(1,(.t 36))]),oO 38 (.call 55 [(.t 37)] (some (0,1))),oO 39 (.bldSl false 1 1 (.int .u8 0) [(0,(.k (.c (.d (.int .u8 1)))))]),oO 40 (.app false 1 1 (.t 38) (.t 39)),oO 41 (.call 64 [(.t 34),(.k (.c (.d (.str ⟨#[115,101,99,116,105,109,101,32,107,101,121,115]⟩)))),(.t 40),(kI 32)] none),oM 33 41,oO 42 (.extract (.t 33) 0),oO 43 (.extract (.t 33) 1),oM 10 42,oM 11 43]) (.seq (.reg [oM 44 8,oM 45 10,oO 46 (.build [.nil,.nil] [(0,1,(.t 44)),(1,1,(.t 45))]),
 oN (.store (.ag 2) (.t 6) (.t 46)),oO 7 (.mv (kI 0))]) (.ret)))))),[(6,(some (.ag 2))),(7,none)]⟩
theorem Y4:aG Tryz.prog { own:=[27,38],comp:=[],frz:=[],nils:=[],bx:=[12,23,34] } Tryz.f27=some wh:=by kernel_rfl
theorem CY (G:ah) (c:Ch) (p a:Int):aw Tryz.prog G 27 [aX c,.int .i64 p,.int .i64 a] (.tup [.c (.d (df (bg c p a 0) (bg c p a 1))),.c (.d (.int .i64 (fD c p a)))]):=by
  refine aI Tryz.func27 Y4 rfl rfl ?_;have c1:=xh G c;have c2:=qg G [p,a] (by simp);by_cases h:dt c
  ·rw[decide_eq_true h] at c1;by_cases hs:bA [p,a]
   ·rw[decide_eq_true hs] at c2;have e:fD c p a=0:=by unfold fD; rw[if_neg (not_not_intro h),if_neg (not_not_intro hs)]
    have c3:=OZ G [p,a] (by simp) hs;have hl:(ib p a 0).length=5:=by unfold ib; rw[aba,eU]; rfl
    have hl1:(ib p a 1).length=5:=by unfold ib; rw[aba,eU]; rfl
    have c4:=O8 G c qM (ib p a 0) 32 (by decide) (by omega) (by decide) (by decide);have c5:=O8 G c qM (ib p a 1) 32 (by decide) (by omega) (by decide) (by decide);have hX:∀ z,nF c qM.data.toList (ib p a z) 32=bg c p a z:=fun z=>by
      unfold nF bg;rw[if_pos h,if_pos e,lT _ _ (by decide)];rfl
    have hE:qL c 32=0:=by unfold qL; rw[if_pos h]; exact mQ (by decide)
    rw[hX,hE] at c4 c5;rw[e];have k0:ib p a 0=aT [p,a]++[0]:=rfl;have k1:ib p a 1=aT [p,a]++[1]:=rfl;rw[k0,abk] at c4;rw[k1,abk] at c5;have bl:(aT [p,a]).length=4:=eU _;unfold aX df at *
    simp only[abd,abo,zD] at c2 c3 c4 c5;generalize aT [p,a]=B at *
    generalize bg c p a 0=U at *
    generalize bg c p a 1=W at *
    clear hX k0 k1;have t0:(B.map bD++[D.int .u8 0]).take 5=B.map bD++[bD 0]:=aa9 (by simp[bl]);have t1:(B.map bD++[D.int .u8 1]).take 5=B.map bD++[bD 1]:=aa9 (by simp[bl]);simp only[wh,af,ae,aa,seval,iteOmega,toNatUp];refine sD (c1) ?_;refine sD (c2) ?_;refine sC (c3) ?_;simp only[bl,ae,aa,seval,iteOmega,toNatUp];refine aW c4 (by simp only[ae,aa,seval,iteOmega,toNatUp,t0] <;> rfl) (.inr (gG _ _ _ _)) ?_;simp only[ae,aa,seval,iteOmega,toNatUp];refine sC (c3) ?_;simp only[bl,ae,aa,seval,iteOmega,toNatUp];refine aW c5 (by simp only[ae,aa,seval,iteOmega,toNatUp,t1] <;> rfl) (.inr (gG _ _ _ _)) ?_;simp only[ae,aa,seval,iteOmega,toNatUp];exact aE
   ·rw[decide_eq_false hs] at c2;have e:fD c p a=4:=by unfold fD; rw[if_neg (not_not_intro h),if_pos hs]
    rw[show bg c p a 0=[] from if_neg (by rw[e]; decide),show bg c p a 1=[] from if_neg (by rw[e]; decide),e];unfold aX df at *
    simp only[abd,abo,zD] at c2;simp only[wh,af,ae,aa,seval,iteOmega,toNatUp];refine sD (c1) ?_;refine sD (c2) ?_;exact aE
  ·rw[decide_eq_false h] at c1;have e:fD c p a=3:=if_pos h;rw[show bg c p a 0=[] from if_neg (by rw[e]; decide),show bg c p a 1=[] from if_neg (by rw[e]; decide),e];unfold aX df at *
   simp only[wh,af,ae,aa,seval,iteOmega,toNatUp];refine sD (c1) ?_;exact aE
def sF:aH:=⟨3,42,.seq (.reg [oO 6 (.mv (kI 0)),oO 7 (.mv (.k (.c (.d (.bool false)))))]) (.seq (.reg [oM 11 0,oM 12 1,oO 13 (.call 75 [(.t 11),(.t 12)] none),oM 8 13]) (.seq (.seq (.reg [oM 14 8,oO 15 (.len (.t 14)),oO 16 (.bin .neq (.t 15) (kI 1))]) (.cond (.t 16) (.seq (.reg [oO 6 (.mv (kI 0)),oO 7 (.mv (.k (.c (.d (.bool false)))))]) (.ret)) (.skip))) (.seq (.reg [oM 18 0,oM 19 8,oO 20 (.idxSl 1 (.t 19) (kI 0)),oO 21 (.load .sc (.t 20)),oO 22 (.idxSl 3 (.t 18) (.t 21)),oO 23 (.fieldAddr 2 (.t 22)),oO 24 (.load .sc (.t 23)),oO 25 (.call 15 [(.t 24)] none),oM 17 25,oO 26 (.extract (.t 17) 0),oO 27 (.extract (.t 17) 1),oM 9 26,oM 10 27]) (.seq (.seq (.reg [oM 28 9,oO 29 (.len (.t 28)),oO 30 (.bin .neq (.t 29) (kI 1)),oM 31 30,oG 32 (.mv (.t 2)) 31 false,oG 33 (.mv (.t 9)) 31 false,oG 34 (.idxSl 1 (.t 33) (kI 0)) 31 false,
 oG 35 (.load .sc (.t 34)) 31 false,oG 36 (.call 57 [(.t 32),(.t 35)] none) 31 false,oG 37 (.un .not (.t 36)) 31 false,oO 38 (.pick (.t 31) (.k (.c (.d (.bool true)))) (.t 37))]) (.cond (.t 38) (.seq (.reg [oO 6 (.mv (kI 0)),oO 7 (.mv (.k (.c (.d (.bool false)))))]) (.ret)) (.skip))) (.seq (.reg [oM 39 9,oO 40 (.idxSl 1 (.t 39) (kI 0)),oO 41 (.load .sc (.t 40)),oM 6 41,oO 7 (.mv (.k (.c (.d (.bool true)))))]) (.ret)))))),[(6,none),(7,none)]⟩
theorem Y5:aG Tryz.prog { own:=[],comp:=[],frz:=[],nils:=[] } Tryz.f82=some sF:=by kernel_rfl
theorem Pg (G:ah) (l:List Ek) (k:Int) (x:List Int) (hl:l.length≤1000000) (hb:∀ r∈l,r.bo.length≤1000000000) (hx:x.length≤9000000000000000000):aw Tryz.prog G 82 [.sl (l.map ak),.int .i64 k,.sl (x.map zD)] (.tup [.c (.d (.int .i64 ((cZ l k x).getD 0))),.c (.d (.bool (cZ l k x).isSome))]):=by
  refine aI Tryz.func82 Y5 rfl rfl ?_;have c1:=iH G l k hl;by_cases h1:(aF l k).length=1
  ·have g1:(((aF l k).length:Int)=1)=True:=eq_true (by omega);have hO:cZ l k x=if (dm l k).length=1∧(dm l k).getD 0 0∈x then some ((dm l k).getD 0 0) else none:=if_pos h1
   obtain⟨i1,i2⟩:=ln (l:=l) (k:=k) (j:=0) (by omega);have f1:=nL (l:=aF l k) (i:=0) (by omega);have f2:=lD i1;have hm:=hb _ (gg i1);have hB:dm l k=dP (l.getD ((aF l k).getD 0 0) default).bo:=rfl;generalize (aF l k).getD 0 0=j at *
   generalize l.getD j default=r at *
   have c2:=sZ G r.bo hm;rw[← hB] at c2;generalize dm l k=B at *
   by_cases h2:B.length=1
   ·have g2:((B.length:Int)=1)=True:=eq_true (by omega);have f3:=zG (l:=B) (i:=0) (by omega);have c3:=O0 G x (B.getD 0 0) hx;generalize B.getD 0 0=v at *
    by_cases h3:v∈x
    ·rw[decide_eq_true h3] at c3;rw[hO,if_pos ⟨h2,h3⟩,abQ,ab9];simp only[sF,af,ae,aa,seval,iteOmega,toNatUp];refine sC (c1) ?_;simp only[g1,f1,bT,f2,ak,ae,aa,seval,iteOmega,toNatUp];refine sC (c2) ?_;simp only[g2,f3,zD,ae,aa,seval,iteOmega,toNatUp];refine sC (c3) ?_;simp only[f3,zD,ae,aa,seval,iteOmega,toNatUp];exact aE
    ·rw[decide_eq_false h3] at c3;rw[hO,if_neg (fun q=>h3 q.2),abY,ab4];simp only[sF,af,ae,aa,seval,iteOmega,toNatUp];refine sC (c1) ?_;simp only[g1,f1,bT,f2,ak,ae,aa,seval,iteOmega,toNatUp];refine sC (c2) ?_;simp only[g2,f3,zD,ae,aa,seval,iteOmega,toNatUp];refine sD (c3) ?_;exact aE
   ·have g2:((B.length:Int)=1)=False:=eq_false (by omega);rw[hO,if_neg (fun q=>h2 q.1),abY,ab4];simp only[sF,af,ae,aa,seval,iteOmega,toNatUp];refine sC (c1) ?_;simp only[g1,f1,bT,f2,ak,ae,aa,seval,iteOmega,toNatUp];refine sC (c2) ?_;simp only[g2,ae,aa,seval,iteOmega,toNatUp];exact aE
  ·have g1:(((aF l k).length:Int)=1)=False:=eq_false (by omega);rw[show cZ l k x=none from if_neg h1,abY,ab4];simp only[sF,af,ae,aa,seval,iteOmega,toNatUp];refine sC (c1) ?_;simp only[g1,ae,aa,seval,iteOmega,toNatUp];exact aE
def CZ (l:List Int) (i:Nat):St:=⟨aQ [(3,.w (.c (.own 1 1 0 (aT (l.take i)).length))),(6,.w (.c (.d (.sl (l.map zD))))),(7,.w (.c (.d (.int .i64 (l.length:Int))))),(8,.w (.c (.d (.int .i64 (i:Int)))))],hL [(1,.row 1 ((aT (l.take i)).map bD))],uL [1]⟩
def Af:aN := .seq (.reg [oO 9 (.bin .lss (.t 8) (.t 7))]) (.seq (.cond (.t 9) (.skip) (.exit 0)) (.seq (.block 1 (.seq (.reg [oO 10 (.idxSl 1 (.t 6) (.t 8)),oO 11 (.load .sc (.t 10)),oM 5 11]) (.reg [oM 12 3,oM 13 5,oO 14 (.conv .u64 (.t 13)),oO 15 (.call 91 [(.t 14),(kI 2)] none),oO 16 (.app false 1 1 (.t 12) (.t 15)),oM 3 16]))) (.reg [oO 17 (.bin .add (.t 8) (kI 1)),oM 8 17])))
def NQ:aH:=⟨1,19,.seq (.reg [oO 2 (.mv (.k (.c .nil)))]) (.seq (.reg [oO 3 (.nilOwn 1)]) (.seq (.seq (.reg [oM 6 0,oO 7 (.len (.t 6)),oO 8 (.mv (kI 0))]) (.block 0 (.loop Af))) (.seq (.reg [oM 18 3,oM 2 18]) (.ret)))),[(2,none)]⟩
theorem Y6:aG Tryz.prog { own:=[3],comp:=[],frz:=[],nils:=[] } Tryz.f53=some NQ:=by kernel_rfl
theorem aat (G:ah) (l:List Int) (hl:l.length≤1000000000) (hs:bA l):aw Tryz.prog G 53 [.sl (l.map zD)] (.w (.c (.fr 1 ((aT l).map bD)))):=by
  refine aI Tryz.func53 Y6 rfl rfl ?_;simp only[NQ,af,ae,aa,seval,iteOmega,toNatUp];refine aU (CZ l) (fun i=>l.length-i) (fun i=>i≤l.length) 0 (abc _) ?_ ?_
  ·refine aj (fun _=>24) ?_ ?_ rfl rfl <;> simp only[wx,ai,am,aa,seval,iteOmega,toNatUp] <;> first | rfl | exact⟨rfl,rfl⟩ | skip
  ·intro i hi;by_cases hlt:i<l.length
   ·have g:=kQ hlt;obtain⟨n1,n2⟩:=hs _ (pv hlt);have e:aT (l.take (i+1))=aT (l.take i)++aV (l.getD i 0).toNat 2:=by
      rw[lK hlt,Lg,uW]
      show _++(_++[])=_
      rw[abm]
    have hb:(aT (l.take i)).length≤2000000000:=by rw[eU,abg]; omega
    generalize l.getD i 0=v at *
    obtain⟨a,rfl⟩:=ab7 n1;rw[show ((a:Nat):Int).toNat=a from rfl] at e;have c:=pR G a 2 (by decide);rw[show (2:Int).toNat=2 from rfl] at c;have pl:=bU a 2;generalize aV a 2=P at *
    simp only[Af,CZ,ae,aa,seval,iteOmega,toNatUp,aC,g,zD];refine sC (c) ?_;simp only[pl,a7,ae,aa,seval,iteOmega,toNatUp];refine aM (i+1) (by omega) (by omega) (aj (fun _=>128) ?_ ?_ rfl rfl) <;> simp only[e,pl,wx,ai,am,aa,seval,iteOmega,toNatUp] <;> first | rfl | exact⟨rfl,rfl⟩ | skip
   ·have:l.take i=l:=aa9 (by omega);simp only[Af,CZ,ae,aa,seval,iteOmega,toNatUp,this];exact dA
theorem oC (G:ah) (l:List Int) (hl:l.length≤1000000000) (hs:bA l):aw Tryz.prog G 53 [.sl (l.map zD)] (.w (.c (.d (.sl ((aT l).map bD))))):=li (aat G l hl hs)
def s8 (l:List Int) (i:Nat):St:=⟨aQ [(5,.w (.c (.d (.sl (l.map zD))))),(6,.w (.c (.d (.int .i64 (l.length:Int))))),(7,.w (.c (.d (.int .i64 (i:Int)))))],hL [],uL []⟩
def rJ:aN := .seq (.reg [oO 8 (.bin .lss (.t 7) (.t 6))]) (.seq (.cond (.t 8) (.skip) (.exit 0)) (.seq (.block 1 (.seq (.reg [oO 9 (.idxSl 1 (.t 5) (.t 7)),oO 10 (.load .sc (.t 9)),oM 4 10]) (.seq (.reg [oM 11 4,oO 12 (.bin .lss (.t 11) (kI 0)),oM 13 12,oG 14 (.mv (.t 4)) 13 false,oG 15 (.bin .geq (.t 14) (kI 65536)) 13 false,oO 16 (.pick (.t 13) (.k (.c (.d (.bool true)))) (.t 15))]) (.cond (.t 16) (.seq (.reg [oO 2 (.mv (.k (.c (.d (.bool false)))))]) (.ret)) (.skip))))) (.reg [oO 17 (.bin .add (.t 7) (kI 1)),oM 7 17])))
def NR:aH:=⟨1,18,.seq (.reg [oO 2 (.mv (.k (.c (.d (.bool false)))))]) (.seq (.seq (.reg [oM 5 0,oO 6 (.len (.t 5)),oO 7 (.mv (kI 0))]) (.block 0 (.loop rJ))) (.seq (.reg [oO 2 (.mv (.k (.c (.d (.bool true)))))]) (.ret))),[(2,none)]⟩
theorem Y7:aG Tryz.prog { own:=[],comp:=[],frz:=[],nils:=[] } Tryz.f50=some NR:=by kernel_rfl
theorem qh (G:ah) (l:List Int) (hl:l.length≤9000000000000000000):aw Tryz.prog G 50 [.sl (l.map zD)] (.w (.c (.d (.bool (decide (bA l)))))):=by
  refine aI Tryz.func50 Y7 rfl rfl ?_;simp only[NR,af,ae,aa,seval,iteOmega,toNatUp];refine aU (s8 l) (fun i=>l.length-i) (fun i=>i≤l.length∧bA (l.take i)) 0 ⟨abc _,by rw[abS]; exact fun n hn=>by cases hn⟩ ?_ ?_
  ·refine aj (fun _=>0) ?_ ?_ rfl rfl <;> simp only[wx,ai,am,aa,seval,iteOmega,toNatUp] <;> first | rfl | exact⟨rfl,rfl⟩ | skip
  ·rintro i ⟨hi,hp⟩;by_cases hlt:i<l.length
   ·have g:=kQ hlt;have hm:=pv hlt;have hs:=lK hlt;generalize l.getD i 0=v at *
    by_cases h1:v<0
    ·rw[decide_eq_false (fun q:bA l=>by have:=q v hm; omega)];have g1:=eq_true h1;simp only[rJ,s8,ae,aa,seval,iteOmega,toNatUp,aC,g,zD,g1];exact aL
    ·have g1:=eq_false h1;by_cases h2:v≥65536
     ·rw[decide_eq_false (fun q:bA l=>by have:=q v hm; omega)];have g2:=eq_true h2;simp only[rJ,s8,ae,aa,seval,iteOmega,toNatUp,aC,g,zD,g1,g2];exact aL
     ·have g2:=eq_false h2;have hn:bA (l.take (i+1)):=by
        rw[hs];intro n hn;rcases abn.1 hn with hn | hn
        ·exact hp n hn
        ·rw[abe.1 hn]; omega
      simp only[rJ,s8,ae,aa,seval,iteOmega,toNatUp,aC,g,zD,g1,g2];refine aM (i+1) (by omega) ⟨by omega,hn⟩ (aj (fun i=>i) ?_ ?_ rfl rfl) <;> simp only[wx,ai,am,aa,seval,iteOmega,toNatUp] <;> first | rfl | exact⟨rfl,rfl⟩ | skip
   ·rw[aa9 (by omega)] at hp;rw[decide_eq_true hp];simp only[rJ,s8,ae,aa,seval,iteOmega,toNatUp];exact aL
def C0 (b:List UInt8) (k:Nat):St:=⟨aQ [(0,.w (.c (.d (.sl (b.map bD))))),(4,.w (.c (.own 1 1 0 (jh b k).length))),(5,.w (.c (.d (.int .i64 ((2*k:Nat):Int)))))],hL [(1,.row 1 ((jh b k).map zD))],uL [1]⟩
theorem aau (n:Nat):Int.tdiv (n:Int) 2=((n / 2:Nat):Int):=rfl
def Ag:aN := .seq (.seq (.reg [oM 14 5,oM 15 0,oO 16 (.len (.t 15)),oO 17 (.bin .lss (.t 14) (.t 16))]) (.cond (.t 17) (.skip) (.exit 0))) (.seq (.block 1 (.reg [oM 20 4,oM 21 0,oM 22 5,oM 23 5,oO 24 (.bin .add (.t 23) (kI 2)),oO 25 (.slice 1 (.t 21) (some (.t 22)) (some (.t 24)) none),oO 26 (.call 48 [(.t 25)] none),oO 27 (.conv .i64 (.t 26)),oO 28 (.bldSl false 1 1 (.int .i64 0) [(0,(.t 27))]),oO 29 (.app false 1 8 (.t 20) (.t 28)),oM 4 29])) (.reg [oM 18 5,oO 19 (.bin .add (.t 18) (kI 2)),oM 5 19]))
def BV:aH:=⟨1,31,.seq (.reg [oO 2 (.mv (.k (.c .nil))),oO 3 (.mv (.k (.c (.d (.bool false)))))]) (.seq (.seq (.reg [oM 6 0,oO 7 (.len (.t 6)),oO 8 (.bin .rem (.t 7) (kI 2)),oO 9 (.bin .neq (.t 8) (kI 0))]) (.cond (.t 9) (.seq (.reg [oO 2 (.mv (.k (.c .nil))),oO 3 (.mv (.k (.c (.d (.bool false)))))]) (.ret)) (.skip))) (.seq (.reg [oM 10 0,oO 11 (.len (.t 10)),oO 12 (.bin .quo (.t 11) (kI 2)),oO 13 (.make true 1 8 (.int .i64 0) (kI 0) (.t 12)),oM 4 13]) (.seq (.seq (.reg [oO 5 (.mv (kI 0))]) (.block 0 (.loop Ag))) (.seq (.reg [oM 30 4,oM 2 30,oO 3 (.mv (.k (.c (.d (.bool true)))))]) (.ret))))),[(2,none),(3,none)]⟩
theorem Y8:aG Tryz.prog { own:=[],comp:=[],frz:=[],nils:=[] } Tryz.f14=some BV:=by kernel_rfl
theorem Ph (G:ah) (b:List UInt8) (hb:b.length≤1000000000):aw Tryz.prog G 14 [.sl (b.map bD)] (.tup [.c (.d (.sl ((dP b).map zD))),.c (.d (.bool (decide (b.length%2=0))))]):=by
  refine aI Tryz.func14 Y8 rfl rfl ?_;have t2:=CS b.length;have t5:=aau b.length;have t6:b.length / 2≤500000000:=by omega
  by_cases he:b.length%2=0
  ·have g0:(((b.length%2:Nat):Int)=0)=True:=eq_true (by omega);rw[decide_eq_true he,show dP b=kV b from if_pos he];have r0:List.replicate (Int.toNat 0) (D.int .i64 0)=([]:List D):=rfl;simp only[BV,af,ae,aa,seval,iteOmega,toNatUp,t2,g0,t5];refine aU (C0 b) (fun k=>b.length / 2-k) (fun k=>2*k≤b.length) 0 (abc _) ?_ ?_
   ·refine aj (fun _=>104) ?_ ?_ rfl rfl <;> simp only[wx,ai,am,aa,seval,iteOmega,toNatUp] <;> first | rfl | exact⟨rfl,rfl⟩ | skip
   ·intro k hk;have az:=Ic (jh b k);have nl:=AW b k;by_cases hlt:2*k<b.length
    ·have l1:(a9 b (2*k) 2).length=2:=mK (by omega);have c:=sO G (a9 b (2*k) 2) (by omega);have b2:=(jj 2 (a9 b (2*k) 2) l1 (by decide)).1;have hs:=IW b k;have hA:nJ b k=(aY (a9 b (2*k) 2):Int):=rfl;have t1:(b.drop (2*k)).take 2=a9 b (2*k) 2:=rfl;have t3:(b.drop (2*k)).take (2*k+2-2*k)=a9 b (2*k) 2:=by rw[ab2]; rfl
     have e5:2*((k:Int)+1)=2*(k:Int)+2:=by omega
     have g1:(((2*k:Nat):Int)<(b.length:Int))=True:=eq_true (by omega);generalize aY (a9 b (2*k) 2)=N at *
     rw[hA] at hs;simp only[Ag,C0,ae,aa,seval,iteOmega,toNatUp,g1,t1,t3];refine sC (c) ?_;simp only[a7,ae,aa,seval,iteOmega,toNatUp];refine aM (k+1) (by omega) (by omega) (aj (fun _=>232) ?_ ?_ rfl rfl) <;> simp only[hs,abk,zD,e5,wx,ai,am,aa,seval,iteOmega,toNatUp] <;> first | rfl | exact⟨rfl,rfl⟩ | skip
    ·have hk2:k=b.length / 2:=by omega
     have g1:(((2*k:Nat):Int)<(b.length:Int))=False:=eq_false (by omega);subst hk2;unfold kV;simp only[Ag,C0,ae,aa,seval,iteOmega,toNatUp,g1];exact aE
  ·have g0:(((b.length%2:Nat):Int)=0)=False:=eq_false (by omega);rw[decide_eq_false he,show dP b=[] from if_neg he];simp only[BV,af,ae,aa,seval,iteOmega,toNatUp,t2,g0];exact aE
def NS:aH:=⟨2,8,.seq (.reg [oO 4 (.alloc [(.d (.bool false)),(.d (.int .i64 0)),.nil])]) (.seq (.reg [oM 5 0,oM 6 1,oO 7 (.build [(.d (.bool false)),(.d (.int .i64 0)),.nil] [(0,1,(.k (.c (.d (.bool true))))),(1,1,(.t 5)),(2,1,(.t 6))]),oN (.store (.ag 3) (.t 4) (.t 7))]) (.ret)),[(4,(some (.ag 3)))]⟩
theorem Y9:aG Tryz.prog { own:=[],comp:=[],frz:=[],nils:=[] } Tryz.f52=some NS:=by kernel_rfl
theorem jO (G:ah) (k:Int) (b:List UInt8):aw Tryz.prog G 52 [.int .i64 k,.sl (b.map bD)] (.w (.c (.d (.agg [.bool true,.int .i64 k,.sl (b.map bD)])))):=by
  refine aI Tryz.func52 Y9 rfl rfl ?_;simp only[NS,af,ae,aa,seval,iteOmega,toNatUp];exact aL
def BW:aH:=⟨1,22,.seq (.reg [oO 1 (.box .roBox (.t 0)),oO 2 (.mv (.k (.c .nil)))]) (.seq (.reg [oO 4 (.fieldAddr 1 (.t 1)),oO 5 (.load .sc (.t 4)),oM 3 5]) (.seq (.seq (.reg [oO 6 (.fieldAddr 0 (.t 1)),oO 7 (.load .sc (.t 6))]) (.cond (.t 7) (.reg [oM 8 3,oO 9 (.bin .add (.t 8) (kI 32768)),oM 3 9]) (.skip))) (.seq (.reg [oM 10 3,oO 11 (.conv .u64 (.t 10)),oO 12 (.call 91 [(.t 11),(kI 2)] none),oO 13 (.fieldAddr 2 (.t 1)),oO 14 (.load .sc (.t 13)),oO 15 (.len (.t 14)),oO 16 (.conv .u64 (.t 15)),oO 17 (.call 91 [(.t 16),(kI 2)] none),oO 18 (.fieldAddr 2 (.t 1)),oO 19 (.load .sc (.t 18)),oO 20 (.bldSl false 3 1 (.sl []) [(0,(.t 12)),(1,(.t 17)),(2,(.t 19))]),oO 21 (.call 90 [(.t 20)] none),oM 2 21]) (.ret)))),[(2,none)]⟩
theorem Za:aG Tryz.prog { own:=[],comp:=[],frz:=[],nils:=[] } Tryz.f42=some BW:=by kernel_rfl
theorem aav (G:ah) (r:Ek) (h:cM r=0):aw Tryz.prog G 42 [ak r] (.w (.c (.d (.sl ((dY r).map bD))))):=by
  refine aI Tryz.func42 Za rfl rfl ?_;obtain⟨h1,h2,h3⟩:=kD h;have hT:iw r=r.ty.toNat+if r.cr=true then 32768 else 0:=rfl
  have hB:dY r=aV (iw r) 2++(aV r.bo.length 2++r.bo):=rfl;generalize dY r=B at *
  generalize iw r=T at *
  obtain⟨cr,ty,bo⟩:=r;dsimp only at *
  obtain⟨a,rfl⟩:=ab7 h1;rw[show ((a:Nat):Int).toNat=a from rfl] at hT;have c2:=pR G bo.length 2 (by decide);have c1:=pR G T 2 (by decide);rw[show (2:Int).toNat=2 from rfl] at c1 c2;have c3:=gV G [aV T 2,aV bo.length 2,bo] (by simp) (by simp[bU]; omega);rw[show [aV T 2,aV bo.length 2,bo].flatten=B from by rw[hB]; simp] at c3;simp only[abd,abo] at c3;have hBl:B.length≤70000:=by rw[hB]; simp[bU]; omega
  clear hB;generalize aV T 2=P1 at *
  generalize aV bo.length 2=P2 at *
  unfold ak;cases cr
  ·rw[if_neg ac6,ab8] at hT;subst hT;simp only[BW,af,ae,aa,seval,iteOmega,toNatUp];refine sD (c1) ?_;refine sD (c2) ?_;refine sD (c3) ?_;exact aL
  ·rw[if_pos rfl] at hT;subst hT;simp only[acT,acx] at c1;simp only[BW,af,ae,aa,seval,iteOmega,toNatUp];refine sD (c1) ?_;refine sD (c2) ?_;refine sD (c3) ?_;exact aL
def nH (l:List Ek) (i:Nat):St:=⟨aQ [(0,.w (.c (.d (.sl (l.map ak))))),(4,.w (.c (.d (.int .i64 ((bc (l.take i)).length:Int))))),(10,.w (.c (.d (.sl (l.map ak))))),(11,.w (.c (.d (.int .i64 (l.length:Int))))),(12,.w (.c (.d (.int .i64 (i:Int)))))],hL [],uL []⟩
def DC (l:List Ek) (i:Nat):St:=⟨aQ [(7,.w (.c (.own 1 1 0 (bc (l.take i)).length))),(42,.w (.c (.d (.sl (l.map ak))))),(43,.w (.c (.d (.int .i64 (l.length:Int))))),(44,.w (.c (.d (.int .i64 (i:Int)))))],hL [(1,.row 1 ((bc (l.take i)).map bD))],uL [1]⟩
theorem IZ {l:List Ek} {i:Nat} (h:i<l.length):bc (l.take (i+1))=bc (l.take i)++dY (l.getD i default):=by
  rw[mJ h,AD,nU,AC,abm]
theorem Zb (l:List Ek) (h:∀ r∈l,r.bo.length≤65535):(bc l).length≤65539*l.length:=by
  induction l with
  | nil=>exact abl _
  | cons r l ih =>
    have:=ih fun x hx=>h x (abD _ hx)
    have:=h r abK;rw[nU,aba,nZ,acj];omega
theorem WC (l:List Ek) (i:Nat):(bc (l.take i)).length≤(bc l).length:=by
  have:=congrArg List.length (show bc (l.take i++l.drop i)=_ from AD _ _);rw[abP,aba] at this;omega
def mN:aN := .seq (.reg [oO 13 (.bin .lss (.t 12) (.t 11))]) (.seq (.cond (.t 13) (.skip) (.exit 0)) (.seq (.block 1 (.seq (.reg [oO 14 (.idxSl 3 (.t 10) (.t 12)),oO 15 (.load (.ag 3) (.t 14)),oO 6 (.alloc [(.d (.bool false)),(.d (.int .i64 0)),.nil]),oN (.store (.ag 3) (.t 6) (.t 15))]) (.seq (.seq (.reg [oO 16 (.fieldAddr 1 (.t 6)),oO 17 (.load .sc (.t 16)),oO 18 (.bin .lss (.t 17) (kI 0)),oM 19 18,oG 20 (.fieldAddr 1 (.t 6)) 19 false,oG 21 (.load .sc (.t 20)) 19 false,oG 22 (.bin .geq (.t 21) (kI 32768)) 19 false,oO 23 (.pick (.t 19) (.k (.c (.d (.bool true)))) (.t 22))]) (.cond (.t 23) (.seq (.reg [oO 2 (.mv (.k (.c .nil))),oO 3 (.mv (kI 4))]) (.ret)) (.skip))) (.seq (.seq (.reg [oO 24 (.fieldAddr 2 (.t 6)),oO 25 (.load .sc (.t 24)),oO 26 (.len (.t 25)),oO 27 (.bin .gtr (.t 26) (kI 65535))])
 (.cond (.t 27) (.seq (.reg [oO 2 (.mv (.k (.c .nil))),oO 3 (.mv (kI 2))]) (.ret)) (.skip))) (.reg [oM 28 4,oO 29 (.fieldAddr 2 (.t 6)),oO 30 (.load .sc (.t 29)),oO 31 (.len (.t 30)),oO 32 (.bin .add (kI 4) (.t 31)),oO 33 (.bin .add (.t 28) (.t 32)),oM 4 33]))))) (.reg [oO 34 (.bin .add (.t 12) (kI 1)),oM 12 34])))
def Ah:aN := .seq (.reg [oO 45 (.bin .lss (.t 44) (.t 43))]) (.seq (.cond (.t 45) (.skip) (.exit 2)) (.seq (.block 3 (.seq (.reg [oO 46 (.idxSl 3 (.t 42) (.t 44)),oO 47 (.load (.ag 3) (.t 46)),oO 9 (.alloc [(.d (.bool false)),(.d (.int .i64 0)),.nil]),oN (.store (.ag 3) (.t 9) (.t 47))]) (.reg [oM 48 7,oO 49 (.load (.ag 3) (.t 9)),oO 50 (.call 42 [(.t 49)] none),oO 51 (.app false 1 1 (.t 48) (.t 50)),oM 7 51]))) (.reg [oO 52 (.bin .add (.t 44) (kI 1)),oM 44 52])))
def NT:aH:=⟨1,54,.seq (.reg [oO 2 (.mv (.k (.c .nil))),oO 3 (.mv (kI 0))]) (.seq (.reg [oO 4 (.mv (kI 0))]) (.seq (.seq (.reg [oM 10 0,oO 11 (.len (.t 10)),oO 12 (.mv (kI 0))]) (.block 0 (.loop mN))) (.seq (.seq (.reg [oM 35 0,oO 36 (.len (.t 35)),oO 37 (.bin .gtr (.t 36) (kI 64))]) (.cond (.t 37) (.seq (.reg [oO 2 (.mv (.k (.c .nil))),oO 3 (.mv (kI 8))]) (.ret)) (.skip))) (.seq (.seq (.reg [oM 38 4,oO 39 (.bin .gtr (.t 38) (kI 65535))]) (.cond (.t 39) (.seq (.reg [oO 2 (.mv (.k (.c .nil))),oO 3 (.mv (kI 2))]) (.ret)) (.skip))) (.seq (.reg [oM 40 4,oO 41 (.make true 1 1 (.int .u8 0) (kI 0) (.t 40)),oM 7 41]) (.seq (.seq (.reg [oM 42 0,oO 43 (.len (.t 42)),oO 44 (.mv (kI 0))]) (.block 2 (.loop Ah))) (.seq (.reg [oM 53 7,oM 2 53,oO 3 (.mv (kI 0))]) (.ret)))))))),[(2,none),(3,none)]⟩
theorem Zc:aG Tryz.prog { own:=[],comp:=[],frz:=[],nils:=[] } Tryz.f10=some NT:=by kernel_rfl
theorem Pi (G:ah) (l:List Ek) (hl:l.length≤1000000) (hb:∀ r∈l,r.bo.length≤1000000000000):aw Tryz.prog G 10 [.sl (l.map ak)] (.tup [.c (.fr 1 ((ix l).map bD)),.c (.d (.int .i64 (cW l)))]):=by
  refine aI Tryz.func10 Zc rfl rfl ?_;simp only[NT,af,ae,aa,seval,iteOmega,toNatUp];refine aU (nH l) (fun i=>l.length-i) (fun i=>i≤l.length∧fo (l.take i)=0) 0 ⟨abc _,by rw[abS]; rfl⟩ ?_ ?_
  ·refine aj (fun _=>0) ?_ ?_ rfl rfl <;> simp only[wx,ai,am,aa,seval,iteOmega,toNatUp] <;> first | rfl | exact⟨rfl,rfl⟩ | skip
  ·rintro i ⟨hi,hW⟩;have hA:=Zb (l.take i) fun r hr=>(kD (sP.1 hW r hr)).2.2
   rw[abg,Nat.min_eq_left hi] at hA;by_cases hlt:i<l.length
   ·have g:=i8 hlt;have hm:=hb _ (gg hlt);have hst:=Ie hlt hW;have hnx:=zH hlt hW;have hno:∀ e,cM (l.getD i default)=e→e≠0→cW l=e∧ix l=[]:=fun e h1 h2=>by
      have h3:=hst (by rw[h1]; exact h2);have h4:cW l=e:=by unfold cW; rw[if_neg (by rw[h3,h1]; exact h2),h3,h1]
      exact⟨h4,if_neg (by rw[h4]; exact h2)⟩
    have hF:cM (l.getD i default)=if (l.getD i default).ty<0∨32767<(l.getD i default).ty then 4 else if 65535<(l.getD i default).bo.length then 2 else 0:=rfl
    have eA:((bc (l.take (i+1))).length:Int)=((bc (l.take i)).length:Int)+(4+((l.getD i default).bo.length:Int)):=by
      rw[IZ hlt,aba,nZ]; omega
    generalize hx:l.getD i default=x at *
    generalize cM x=f at *
    generalize hAq:(bc (l.take i)).length=A at *
    obtain⟨cr,ty,bo⟩:=x;dsimp only at *
    by_cases h1:ty<0
    ·have g1:=eq_true h1;obtain⟨q1,q2⟩:=hno 4 (by rw[hF,if_pos (.inl h1)]) (by decide);rw[q1,q2];clear hst hnx hno eA;simp only[mN,nH,hAq,ae,aa,seval,iteOmega,toNatUp,aC,g,ak,g1];exact bY
    ·have g1:=eq_false h1;by_cases h2:ty≥32768
     ·have g2:=eq_true h2;obtain⟨q1,q2⟩:=hno 4 (by rw[hF,if_pos (.inr (by omega))]) (by decide);rw[q1,q2];clear hst hnx hno eA;simp only[mN,nH,hAq,ae,aa,seval,iteOmega,toNatUp,aC,g,ak,g1,g2];exact bY
     ·have g2:=eq_false h2;rw[if_neg (by omega)] at hF;by_cases h3:65535<bo.length
      ·have g3:((bo.length:Int)>65535)=True:=eq_true (by omega);obtain⟨q1,q2⟩:=hno 2 (by rw[hF,if_pos h3]) (by decide);rw[q1,q2];clear hst hnx hno eA;simp only[mN,nH,hAq,ae,aa,seval,iteOmega,toNatUp,aC,g,ak,g1,g2,g3];exact bY
      ·have g3:((bo.length:Int)>65535)=False:=eq_false (by omega);rw[if_neg h3] at hF;subst hF;clear hst hno;simp only[mN,nH,hAq,ae,aa,seval,iteOmega,toNatUp,aC,g,ak,g1,g2,g3];refine aM (i+1) (by omega) ⟨by omega,by rw[hnx]⟩ (aj (fun i=>i) ?_ ?_ rfl rfl) <;> simp only[eA,wx,ai,am,aa,seval,iteOmega,toNatUp] <;> first | rfl | exact⟨rfl,rfl⟩ | skip
   ·obtain rfl:i=l.length:=by omega
    rw[abv] at hW hA;by_cases h4:64<l.length
    ·have e:cW l=8:=by unfold cW; rw[if_pos hW,if_pos h4]
     rw[show ix l=[] from if_neg (by rw[e]; decide),e];have g4:((l.length:Int)>64)=True:=eq_true (by omega);simp only[mN,nH,ae,aa,seval,iteOmega,toNatUp,g4];exact bY
    ·have g4:((l.length:Int)>64)=False:=eq_false (by omega);by_cases h5:(bc l).length≤65535
     ·have e:cW l=0:=by unfold cW; rw[if_pos hW,if_neg h4,if_neg (by omega)]
      rw[show ix l=bc l from if_pos e,e];have g5:(((bc l).length:Int)>65535)=False:=eq_false (by omega);have r0:List.replicate (Int.toNat 0) (D.int .u8 0)=([]:List D):=rfl;simp only[mN,nH,ae,aa,seval,iteOmega,toNatUp,g4,g5,r0];refine aU (DC l) (fun i=>l.length-i) (fun i=>i≤l.length) 0 (abc _) ?_ ?_
      ·refine aj (fun _=>328) ?_ ?_ rfl rfl <;> simp only[wx,ai,am,aa,seval,iteOmega,toNatUp] <;> first | rfl | exact⟨rfl,rfl⟩ | skip
      ·intro i hi;by_cases hlt:i<l.length
       ·have g:=i8 hlt;have c:=aav G (l.getD i default) (sP.1 hW _ (gg hlt));have ha:=IZ hlt;have h1:=WC l (i+1);rw[ha,aba] at h1;unfold ak at c;generalize l.getD i default=x at *
        generalize dY x=B at *
        generalize hAq:bc (l.take i)=A at *
        simp only[Ah,DC,hAq,ae,aa,seval,iteOmega,toNatUp,aC,g,ak];refine sC (c) ?_;simp only[a7,ae,aa,seval,iteOmega,toNatUp];refine aM (i+1) (by omega) (by omega) (aj (fun _=>408) ?_ ?_ rfl rfl) <;> simp only[ha,wx,ai,am,aa,seval,iteOmega,toNatUp] <;> first | rfl | exact⟨rfl,rfl⟩ | skip
       ·have hil:l.take i=l:=aa9 (by omega);simp only[Ah,DC,ae,aa,seval,iteOmega,toNatUp,hil];exact bY
     ·have e:cW l=2:=by unfold cW; rw[if_pos hW,if_neg h4,if_pos (by omega)]
      rw[show ix l=[] from if_neg (by rw[e]; decide),e];have g5:(((bc l).length:Int)>65535)=True:=eq_true (by omega);simp only[mN,nH,ae,aa,seval,iteOmega,toNatUp,g4,g5];exact bY
theorem Pj (G:ah) (l:List Ek) (hl:l.length≤1000000) (hb:∀ r∈l,r.bo.length≤1000000000000):aw Tryz.prog G 10 [.sl (l.map ak)] (.tup [.c (.d (.sl ((ix l).map bD))),.c (.d (.int .i64 (cW l)))]):=mP (Pi G l hl hb)
def wi:aH:=⟨1,18,.seq (.reg [oO 2 (.mv (kI 0)),oO 3 (.mv (.k (.c (.d (.bool false)))))]) (.seq (.seq (.reg [oM 5 0,oO 6 (.len (.t 5)),oO 7 (.bin .lss (.t 6) (kI 4))]) (.cond (.t 7) (.seq (.reg [oO 2 (.mv (kI 0)),oO 3 (.mv (.k (.c (.d (.bool false)))))]) (.ret)) (.skip))) (.seq (.reg [oM 8 0,oO 9 (.slice 1 (.t 8) (some (kI 2)) (some (kI 4)) none),oO 10 (.call 48 [(.t 9)] none),oO 11 (.conv .i64 (.t 10)),oO 12 (.bin .add (kI 4) (.t 11)),oM 4 12]) (.seq (.reg [oM 13 4,oM 14 4,oM 15 0,oO 16 (.len (.t 15)),oO 17 (.bin .leq (.t 14) (.t 16)),oM 2 13,oM 3 17]) (.ret)))),[(2,none),(3,none)]⟩
theorem Zd:aG Tryz.prog { own:=[],comp:=[],frz:=[],nils:=[] } Tryz.f45=some wi:=by kernel_rfl
theorem aaw (G:ah) (b:List UInt8) (hb:b.length≤1000000000000):aw Tryz.prog G 45 [.sl (b.map bD)] (.tup [.c (.d (.int .i64 (if b.length<4 then 0 else ((4+cH b:Nat):Int)))),.c (.d (.bool (decide (4≤b.length∧4+cH b≤b.length))))]):=by
  refine aI Tryz.func45 Zd rfl rfl ?_;by_cases h:b.length<4
  ·rw[if_pos h,decide_eq_false (by omega)];have g:((b.length:Int)<4)=True:=eq_true (by omega);simp only[wi,af,ae,aa,seval,iteOmega,toNatUp,g];exact aE
  ·rw[if_neg h];have g:((b.length:Int)<4)=False:=eq_false (by omega);have l3:(a9 b 2 2).length=2:=mK (by omega);have b3:=(jj 2 (a9 b 2 2) l3 (by decide)).1;have c:=sO G (a9 b 2 2) (by omega);have hN:cH b=aY (a9 b 2 2):=rfl;have t1:(b.drop 2).take 2=a9 b 2 2:=rfl;have t2:(b.drop 2).take (4-2)=a9 b 2 2:=rfl;generalize aY (a9 b 2 2)=N at *
   rw[hN];by_cases h2:4+N≤b.length
   ·rw[decide_eq_true (by omega)];have g2:((4:Int)+(N:Int)≤(b.length:Int))=True:=eq_true (by omega);simp only[wi,af,ae,aa,seval,iteOmega,toNatUp,g,t1,t2];refine sC (c) ?_;simp only[g2,ae,aa,seval,iteOmega,toNatUp];exact aE
   ·rw[decide_eq_false (by omega)];have g2:((4:Int)+(N:Int)≤(b.length:Int))=False:=eq_false (by omega);simp only[wi,af,ae,aa,seval,iteOmega,toNatUp,g,t1,t2];refine sC (c) ?_;simp only[g2,ae,aa,seval,iteOmega,toNatUp];exact aE
def xT (b:List UInt8):Ek:=⟨decide (32768≤(aY (b.take 2):Int)),(aY (b.take 2):Int)%32768,b.drop 4⟩
theorem aax (n:Nat):Int.tmod (n:Int) 32768=(n:Int)%32768:=rfl
def BX:aH:=⟨1,17,.seq (.reg [oO 2 (.alloc [(.d (.bool false)),(.d (.int .i64 0)),.nil])]) (.seq (.reg [oM 4 0,oO 5 (.slice 1 (.t 4) none (some (kI 2)) none),oO 6 (.call 48 [(.t 5)] none),oO 7 (.conv .i64 (.t 6)),oM 3 7]) (.seq (.reg [oM 8 3,oO 9 (.bin .geq (.t 8) (kI 32768)),oM 10 3,oO 11 (.bin .rem (.t 10) (kI 32768)),oM 12 0,oO 13 (.slice 1 (.t 12) (some (kI 4)) none none),oO 14 (.bldSl false 1 1 (.sl []) [(0,(.t 13))]),oO 15 (.call 90 [(.t 14)] none),oO 16 (.build [(.d (.bool false)),(.d (.int .i64 0)),.nil] [(0,1,(.t 9)),(1,1,(.t 11)),(2,1,(.t 15))]),oN (.store (.ag 3) (.t 2) (.t 16))]) (.ret))),[(2,(some (.ag 3)))]⟩
theorem Ze:aG Tryz.prog { own:=[],comp:=[],frz:=[],nils:=[] } Tryz.f46=some BX:=by kernel_rfl
theorem aay (G:ah) (b:List UInt8) (hb:b.length≤1000000000000) (h4:4≤b.length):aw Tryz.prog G 46 [.sl (b.map bD)] (.w (.c (.d (ak (xT b))))):=by
  refine aI Tryz.func46 Ze rfl rfl ?_;have l3:(b.take 2).length=2:=by rw[abg]; omega
  have b3:=(jj 2 (b.take 2) l3 (by decide)).1;have c:=sO G (b.take 2) (by omega);have cj:=gV G [b.drop 4] (by simp) (by simp; omega);rw[show [b.drop 4].flatten=b.drop 4 from by simp] at cj;simp only[abd,abo] at cj;have dl:(b.drop 4).length=b.length-4:=abi;have t1:(b.drop 4).take (b.length-4)=b.drop 4:=aa9 (by omega);unfold xT ak;generalize aY (b.take 2)=K at *
  have hm:=aax K;generalize hB:b.drop 4=B at *
  generalize hA:b.take 2=A at *
  by_cases hk:(K:Int)≥32768
  ·have gk:=eq_true hk;rw[decide_eq_true (show (32768:Int)≤K from hk)];simp only[BX,af,ae,aa,seval,iteOmega,toNatUp,hA];refine sC (c) ?_;simp only[hm,hB,t1,gk,ae,aa,seval,iteOmega,toNatUp];refine sC (cj) ?_;simp only[hm,hB,t1,gk,ae,aa,seval,iteOmega,toNatUp];exact aL
  ·have gk:=eq_false hk;rw[decide_eq_false (show ¬ (32768:Int)≤K from hk)];simp only[BX,af,ae,aa,seval,iteOmega,toNatUp,hA];refine sC (c) ?_;simp only[hm,hB,t1,gk,ae,aa,seval,iteOmega,toNatUp];refine sC (cj) ?_;simp only[hm,hB,t1,gk,ae,aa,seval,iteOmega,toNatUp];exact aL
structure Dw where
  r:List UInt8
  o:List Fd
def qi (t:Dw):St:=⟨aQ [(0,.w (.c (.d (.sl (t.r.map bD))))),(4,.w (.c (.own 1 3 0 t.o.length)))],hL [(1,.row 3 ((t.o.map ek).map ak))],uL [1]⟩
theorem Zf {r:List UInt8} (h1:¬ r.length<4) (h2:¬ r.length-4<cH r):xT (r.take (4+cH r))=ek (gN r):=by
  have e1:(r.take (4+cH r)).take 2=r.take 2:=by rw[List.take_take,Nat.min_eq_left (by omega)]
  have e2:(r.take (4+cH r)).drop 4=a9 r 4 (cH r):=by rw[List.drop_take,ab2]; rfl
  unfold xT ek gN;rw[e1,e2]
theorem WE {b r:List UInt8} {o:List Fd} (hd:dd b=(dd r).map (o++·)) (h1:¬ r.length<4) (h2:¬ r.length-4<cH r):dd b=(dd (r.drop (4+cH r))).map ((o++[gN r])++·):=by
  rw[hd,vY h1 h2,Option.map_map]
  congr 1
  funext x
  simp
def pw:aN := .seq (.seq (.reg [oM 10 0,oO 11 (.len (.t 10)),oO 12 (.bin .gtr (.t 11) (kI 0))]) (.cond (.t 12) (.skip) (.exit 0))) (.block 1 (.seq (.reg [oM 14 0,oO 15 (.call 45 [(.t 14)] none),oM 13 15,oO 16 (.extract (.t 13) 0),oO 17 (.extract (.t 13) 1),oM 5 16,oM 6 17]) (.seq (.seq (.reg [oM 18 6,oO 19 (.un .not (.t 18))]) (.cond (.t 19) (.seq (.reg [oO 2 (.mv (.k (.c .nil))),oO 3 (.mv (kI 1))]) (.ret)) (.skip))) (.seq (.reg [oM 20 4,oM 21 0,oM 22 5,oO 23 (.slice 1 (.t 21) none (some (.t 22)) none),oO 24 (.call 46 [(.t 23)] none),oO 25 (.bldSl false 1 3 (.agg [(.bool false),(.int .i64 0),(.sl [])]) [(0,(.t 24))]),oO 26 (.app false 3 40 (.t 20) (.t 25)),oM 4 26]) (.reg [oM 27 0,oM 28 5,oO 29 (.slice 1 (.t 27) (some (.t 28)) none none),oM 0 29])))))
def BZ:aH:=⟨1,34,.seq (.reg [oO 2 (.mv (.k (.c .nil))),oO 3 (.mv (kI 0))]) (.seq (.seq (.reg [oM 7 0,oO 8 (.len (.t 7)),oO 9 (.bin .gtr (.t 8) (kI 65535))]) (.cond (.t 9) (.seq (.reg [oO 2 (.mv (.k (.c .nil))),oO 3 (.mv (kI 2))]) (.ret)) (.skip))) (.seq (.reg [oO 4 (.nilOwn 3)]) (.seq (.block 0 (.loop pw)) (.seq (.seq (.reg [oM 30 4,oO 31 (.len (.t 30)),oO 32 (.bin .gtr (.t 31) (kI 64))]) (.cond (.t 32) (.seq (.reg [oO 2 (.mv (.k (.c .nil))),oO 3 (.mv (kI 8))]) (.ret)) (.skip))) (.seq (.reg [oM 33 4,oM 2 33,oO 3 (.mv (kI 0))]) (.ret)))))),[(2,none),(3,none)]⟩
theorem Zg:aG Tryz.prog { own:=[4],comp:=[],frz:=[],nils:=[] } Tryz.f12=some BZ:=by kernel_rfl
theorem aaz (G:ah) (b:List UInt8) (hb:b.length≤1000000000):aw Tryz.prog G 12 [.sl (b.map bD)] (.tup [.c (.d (.sl ((aB b).map ak))),.c (.d (.int .i64 (dM b)))]):=by
  refine aI Tryz.func12 Zg rfl rfl ?_;by_cases h0:65535<b.length
  ·have g0:((b.length:Int)>65535)=True:=eq_true (by omega);have e1:fa b=2:=if_pos h0;have e2:dM b=2:=by unfold dM; rw[e1]; rfl
   rw[e2,show aB b=[] from if_neg (by rw[e2]; decide)];simp only[BZ,af,ae,aa,seval,iteOmega,toNatUp,g0];exact aE
  ·have g0:((b.length:Int)>65535)=False:=eq_false (by omega);simp only[BZ,af,ae,aa,seval,iteOmega,toNatUp,g0];refine aU qi (fun t=>t.r.length) (fun t=>t.r.length+t.o.length≤b.length∧dd b=(dd t.r).map (t.o++·)) ⟨b,[]⟩ ⟨abl _,by cases dd b <;> rfl⟩ ?_ ?_
   ·refine aj (fun _=>32) ?_ ?_ rfl rfl <;> simp only[wx,ai,am,aa,seval,iteOmega,toNatUp] <;> first | rfl | exact⟨rfl,rfl⟩ | skip
   ·rintro⟨r,o⟩ ⟨hol,hd⟩;dsimp only at hol hd;have az:=mL (o.map ek);have ol:(o.map ek).length=o.length:=abh ..;by_cases hlt:0<r.length
    ·have g1:((r.length:Int)>0)=True:=eq_true (by omega);have c:=aaw G r (by omega);by_cases h1:r.length<4
     ·rw[if_pos h1,decide_eq_false (by omega)] at c;rw[AE (by omega) h1] at hd;have e1:fa b=1:=by unfold fa; rw[if_neg h0,hd]; rfl
      have e2:dM b=1:=by unfold dM; rw[e1]; rfl
      rw[e2,show aB b=[] from if_neg (by rw[e2]; decide)];simp only[pw,qi,ae,aa,seval,iteOmega,toNatUp,g1];refine sD (c) ?_;exact aE
     ·rw[if_neg h1] at c;by_cases h2:r.length-4<cH r
      ·rw[decide_eq_false (by omega)] at c;rw[yN h1 h2] at hd;have e1:fa b=1:=by unfold fa; rw[if_neg h0,hd]; rfl
       have e2:dM b=1:=by unfold dM; rw[e1]; rfl
       rw[e2,show aB b=[] from if_neg (by rw[e2]; decide)];simp only[pw,qi,ae,aa,seval,iteOmega,toNatUp,g1];refine sD (c) ?_;exact aE
      ·rw[decide_eq_true (by omega)] at c;have hd2:=WE hd h1 h2;have hr:=Zf h1 h2;have tl:(r.take (4+cH r)).length=4+cH r:=by rw[abg]; omega
       have dl:(r.drop (4+cH r)).length=r.length-(4+cH r):=abi;have c2:=aay G (r.take (4+cH r)) (by omega) (by omega);rw[hr] at c2;have eo:((o++[gN r]).map ek).map ak=(o.map ek).map ak++[ak (ek (gN r))]:=by simp
       have lo:(o++[gN r]).length=o.length+1:=by simp
       have cz:(ak (ek (gN r))).cells.length=3:=rfl;have t3:(r.drop (4+cH r)).take (r.length-(4+cH r))=r.drop (4+cH r):=aa9 (by omega);generalize hR:o++[gN r]=O at *
       generalize ak (ek (gN r))=E at *
       generalize hK:4+cH r=K at *
       simp only[pw,qi,ae,aa,seval,iteOmega,toNatUp,g1];refine sC (c) ?_;simp only[a7,ae,aa,seval,iteOmega,toNatUp];refine sC (c2) ?_;simp only[a7,cz,t3,ae,aa,seval,iteOmega,toNatUp];refine aM (⟨r.drop K,O⟩:Dw) (by dsimp only; omega) ⟨by dsimp only; omega,by dsimp only; exact hd2⟩ (aj (fun _=>208) ?_ ?_ rfl rfl) <;> simp only[eo,lo,wx,ai,am,aa,seval,iteOmega,toNatUp] <;> first | rfl | exact⟨rfl,rfl⟩ | skip
    ·have g1:((r.length:Int)>0)=False:=eq_false (by omega);obtain rfl:r=[]:=abM.1 (by omega);rw[rP] at hd;have hd:dd b=some o:=by rw[hd]; simp
     have e1:fa b=0:=by unfold fa; rw[if_neg h0,hd]; rfl
     have e2:gd b=o:=by unfold gd; rw[if_neg h0,hd]; rfl
     by_cases h64:64<o.length
     ·have e3:dM b=8:=by unfold dM; rw[if_pos e1,e2,if_pos h64]
      rw[e3,show aB b=[] from if_neg (by rw[e3]; decide)];have g2:((o.length:Int)>64)=True:=eq_true (by omega);simp only[pw,qi,ae,aa,seval,iteOmega,toNatUp,g1,g2,ol];exact aE
     ·have e3:dM b=0:=by unfold dM; rw[if_pos e1,e2,if_neg h64]
      rw[e3,show aB b=o.map ek from by unfold aB; rw[if_pos e3,e2]];have g2:((o.length:Int)>64)=False:=eq_false (by omega);simp only[pw,qi,ae,aa,seval,iteOmega,toNatUp,g1,g2,ol];exact aE
def wj:aH:=⟨1,11,.seq (.reg [oO 2 (.mv (.k (.c (.d (.bool false)))))]) (.seq (.reg [oM 3 0,oO 4 (.len (.t 3)),oO 5 (.bin .geq (.t 4) (kI 1)),oM 6 5,oG 7 (.mv (.t 0)) 6 true,oG 8 (.len (.t 7)) 6 true,oG 9 (.bin .leq (.t 8) (kI 16)) 6 true,oO 10 (.pick (.t 6) (.t 9) (.k (.c (.d (.bool false))))),oM 2 10]) (.ret)),[(2,none)]⟩
theorem Zh:aG Tryz.prog { own:=[],comp:=[],frz:=[],nils:=[] } Tryz.f51=some wj:=by kernel_rfl
theorem Pk (G:ah) (l:List Int) (hl:l.length≤9000000000000000000):aw Tryz.prog G 51 [.sl (l.map zD)] (.w (.c (.d (.bool (decide (1≤l.length∧l.length≤16)))))):=by
  refine aI Tryz.func51 Zh rfl rfl ?_;by_cases h1:1≤l.length
  ·have g1:((l.length:Int)≥1)=True:=eq_true (by omega);by_cases h2:l.length≤16
   ·have g2:((l.length:Int)≤16)=True:=eq_true (by omega);rw[decide_eq_true ⟨h1,h2⟩];simp only[wj,af,ae,aa,seval,iteOmega,toNatUp,g1,g2];exact aL
   ·have g2:((l.length:Int)≤16)=False:=eq_false (by omega);rw[decide_eq_false (by omega)];simp only[wj,af,ae,aa,seval,iteOmega,toNatUp,g1,g2];exact aL
  ·have g1:((l.length:Int)≥1)=False:=eq_false (by omega);rw[decide_eq_false (by omega)];simp only[wj,af,ae,aa,seval,iteOmega,toNatUp,g1];exact aL
def pU:aH:=⟨2,33,.seq (.reg [oO 4 (.mv (.k (.c .nil))),oO 5 (.mv (kI 0))]) (.seq (.seq (.reg [oM 6 0,oO 7 (.call 50 [(.t 6)] none),oO 8 (.un .not (.t 7)),oM 9 8,oG 10 (.mv (.t 1)) 9 false,oG 11 (.call 50 [(.t 10)] none) 9 false,oG 12 (.un .not (.t 11)) 9 false,oO 13 (.pick (.t 9) (.k (.c (.d (.bool true)))) (.t 12))]) (.cond (.t 13) (.seq (.reg [oO 4 (.mv (.k (.c .nil))),oO 5 (.mv (kI 4))]) (.ret)) (.skip))) (.seq (.seq (.reg [oM 14 0,oO 15 (.call 51 [(.t 14)] none),oO 16 (.un .not (.t 15)),oM 17 16,oG 18 (.mv (.t 1)) 17 false,oG 19 (.call 51 [(.t 18)] none) 17 false,oG 20 (.un .not (.t 19)) 17 false,oO 21 (.pick (.t 17) (.k (.c (.d (.bool true)))) (.t 20))]) (.cond (.t 21) (.seq (.reg [oO 4 (.mv (.k (.c .nil))),oO 5 (.mv (kI 8))]) (.ret)) (.skip))) (.seq (.reg [oM 22 0,oO 23 (.call 53 [(.t 22)] none),
 oO 24 (.call 52 [(kI 1),(.t 23)] none),oM 25 1,oO 26 (.call 53 [(.t 25)] none),oO 27 (.call 52 [(kI 4),(.t 26)] none),oO 28 (.call 52 [(kI 0),(.k (.c .nil))] none),oO 29 (.bldSl false 3 3 (.agg [(.bool false),(.int .i64 0),(.sl [])]) [(0,(.t 24)),(1,(.t 27)),(2,(.t 28))]),oO 30 (.call 10 [(.t 29)] none),oO 31 (.extract (.t 30) 0),oO 32 (.extract (.t 30) 1),oM 4 31,oM 5 32]) (.ret)))),[(4,none),(5,none)]⟩
theorem Zi:aG Tryz.prog { own:=[],comp:=[],frz:=[],nils:=[] } Tryz.f16=some pU:=by kernel_rfl
theorem Pl (G:ah) (x y:List Int) (hx:x.length≤1000000) (hy:y.length≤1000000):aw Tryz.prog G 16 [.sl (x.map zD),.sl (y.map zD)] (.tup [.c (.d (.sl ((bQ x y).map bD))),.c (.d (.int .i64 (dk x y)))]):=by
  refine aI Tryz.func16 Zi rfl rfl ?_;have c1:=qh G x (by omega);have c2:=qh G y (by omega);have c3:=Pk G x (by omega);have c4:=Pk G y (by omega);by_cases h1:bA x
  ·rw[decide_eq_true h1] at c1;by_cases h2:bA y
   ·rw[decide_eq_true h2] at c2;by_cases h3:1≤x.length∧x.length≤16
    ·rw[decide_eq_true h3] at c3;by_cases h4:1≤y.length∧y.length≤16
     ·rw[decide_eq_true h4] at c4;have e:dk x y=0:=by unfold dk; rw[if_neg (not_not_intro ⟨h1,h2⟩),if_neg (by omega)]
      have c5:=oC G x (by omega) h1;have c6:=oC G y (by omega) h2;have c7:=jO G 1 (aT x);have c8:=jO G 4 (aT y);have c9:=jO G 0 [];have l1:=eU x;have l2:=eU y;have hf:∀ r∈d8 x y,cM r=0:=by
        intro r hr;simp only[d8,abr,ac0,or_false] at hr;rcases hr with rfl | rfl | rfl <;> exact Bm (by dsimp only; omega) (by dsimp only; omega) (by first | (dsimp only; omega) | simp)
      have ht:(bc (d8 x y)).length≤65535:=by
        simp only[d8,nU,AC,aba,nZ,acs]; omega
      obtain⟨q1,q2⟩:=Bn hf (by simp[d8]) ht;have c10:=Pj G (d8 x y) (by simp[d8]) (fun r hr=>by have:=(kD (hf r hr)).2.2; omega);rw[q1,q2] at c10;rw[e,show bQ x y=bc (d8 x y) from if_pos e];have hL:(d8 x y).map ak=[D.agg [.bool true,.int .i64 1,.sl ((aT x).map bD)],D.agg [.bool true,.int .i64 4,.sl ((aT y).map bD)],D.agg [.bool true,.int .i64 0,.sl []]]:=rfl;rw[hL] at c10;generalize bc (d8 x y)=R at *
      clear hf ht q1 q2 hL;simp only[abo] at c9;generalize aT x=X at *
      generalize aT y=Y at *
      simp only[pU,af,ae,aa,seval,iteOmega,toNatUp];refine sD (c1) ?_;refine sD (c2) ?_;refine sD (c3) ?_;refine sD (c4) ?_;refine sD (c5) ?_;refine sD (c7) ?_;refine sD (c6) ?_;refine sD (c8) ?_;refine sD (c9) ?_;refine sD (c10) ?_;exact aE
     ·rw[decide_eq_false h4] at c4;have e:dk x y=8:=by unfold dk; rw[if_neg (not_not_intro ⟨h1,h2⟩),if_pos (by omega)]
      rw[e,show bQ x y=[] from if_neg (by rw[e]; decide)];simp only[pU,af,ae,aa,seval,iteOmega,toNatUp];refine sD (c1) ?_;refine sD (c2) ?_;refine sD (c3) ?_;refine sD (c4) ?_;exact aE
    ·rw[decide_eq_false h3] at c3;have e:dk x y=8:=by unfold dk; rw[if_neg (not_not_intro ⟨h1,h2⟩),if_pos (by omega)]
     rw[e,show bQ x y=[] from if_neg (by rw[e]; decide)];simp only[pU,af,ae,aa,seval,iteOmega,toNatUp];refine sD (c1) ?_;refine sD (c2) ?_;refine sD (c3) ?_;exact aE
   ·rw[decide_eq_false h2] at c2;have e:dk x y=4:=by unfold dk; rw[if_pos (fun h=>h2 h.2)]
    rw[e,show bQ x y=[] from if_neg (by rw[e]; decide)];simp only[pU,af,ae,aa,seval,iteOmega,toNatUp];refine sD (c1) ?_;refine sD (c2) ?_;exact aE
  ·rw[decide_eq_false h1] at c1;have e:dk x y=4:=by unfold dk; rw[if_pos (fun h=>h1 h.1)]
   rw[e,show bQ x y=[] from if_neg (by rw[e]; decide)];simp only[pU,af,ae,aa,seval,iteOmega,toNatUp];refine sD (c1) ?_;exact aE
def xi (l:List Int) (v:Int) (i:Nat):St:=⟨aQ [(0,.w (.c (.d (.sl (l.map zD))))),(1,.w (.c (.d (.int .i64 v)))),(7,.w (.c (.d (.int .i64 (l.length:Int))))),(8,.w (.c (.d (.int .i64 (i:Int)))))],hL [],uL []⟩
def inP (l:List Int) (v n:Int):Prop:=(v∈l∧0≤n)∨(v∉l∧n=-1)
def u9:aN := .seq (.reg [oO 9 (.bin .lss (.t 8) (.t 7))]) (.seq (.cond (.t 9) (.skip) (.exit 0)) (.seq (.block 1 (.seq (.reg [oM 10 8,oM 5 10]) (.seq (.reg [oM 11 1,oM 12 0,oM 13 5,oO 14 (.idxSl 1 (.t 12) (.t 13)),oO 15 (.load .sc (.t 14)),oO 16 (.bin .eql (.t 11) (.t 15))]) (.cond (.t 16) (.seq (.reg [oM 17 5,oM 4 17]) (.ret)) (.skip))))) (.reg [oO 18 (.bin .add (.t 8) (kI 1)),oM 8 18])))
def NU:aH:=⟨2,19,.seq (.reg [oO 4 (.mv (kI 0))]) (.seq (.seq (.reg [oM 6 0,oO 7 (.len (.t 6)),oO 8 (.mv (kI 0))]) (.block 0 (.loop u9))) (.seq (.reg [oO 4 (.mv (.k (.c (.d (.int .i64 (-1))))))]) (.ret))),[(4,none)]⟩
theorem Zj:aG Tryz.prog { own:=[],comp:=[],frz:=[],nils:=[] } Tryz.f99=some NU:=by kernel_rfl
theorem aaA (G:ah) (l:List Int) (v:Int) (hl:l.length≤9000000000000000000):∃ n,inP l v n∧aw Tryz.prog G 99 [.sl (l.map zD),.int .i64 v] (.w (.c (.d (.int .i64 n)))):=by
  have key:∀ n,(∀ k,n=((l.idxOf v:Nat):Int)∧v∈l∨n=-1∧v∉l→k=n→k=n)→(n=((l.idxOf v:Nat):Int)∧v∈l∨n=-1∧v∉l)→aw Tryz.prog G 99 [.sl (l.map zD),.int .i64 v] (.w (.c (.d (.int .i64 n)))):=by
    intro n _ hn;refine aI Tryz.func99 Zj rfl rfl ?_;simp only[NU,af,ae,aa,seval,iteOmega,toNatUp];refine aU (xi l v) (fun i=>l.length-i) (fun i=>i≤l.length∧v∉l.take i) 0 ⟨abc _,by rw[abS]; exact ac0⟩ ?_ ?_
    ·refine aj (fun _=>0) ?_ ?_ rfl rfl <;> simp only[wx,ai,am,aa,seval,iteOmega,toNatUp] <;> first | rfl | exact⟨rfl,rfl⟩ | skip
    ·rintro i ⟨hi,hp⟩;by_cases hlt:i<l.length
     ·have g:=kQ hlt;have hm:=pv hlt;have hs:=lK hlt;by_cases h1:v=l.getD i 0
      ·have hv:v∈l:=h1 ▸ hm;have hi2:l.idxOf v=i:=by
         have e:l=l.take i++l.getD i 0::l.drop (i+1):=by
           have:=(abP (i+1) l).symm;rw[hs,abq] at this;exact this
         have:(l.take i++l.getD i 0::l.drop (i+1)).idxOf v=i:=by
           rw[List.idxOf_append,if_neg hp,← h1,List.idxOf_cons_self,abg]; omega
         rw[← e] at this;exact this
       obtain⟨rfl,_⟩:=hn.resolve_right fun h=>h.2 hv
       rw[hi2];have g1:(v=l.getD i 0)=True:=eq_true h1;generalize l.getD i 0=w at *
       simp only[u9,xi,ae,aa,seval,iteOmega,toNatUp,aC,g,zD,g1];exact aL
      ·have g1:(v=l.getD i 0)=False:=eq_false h1;have hn:v∉l.take (i+1):=by
         rw[hs];intro q;rcases abn.1 q with q | q
         ·exact hp q
         ·exact h1 (abe.1 q)
       generalize l.getD i 0=w at *
       simp only[u9,xi,ae,aa,seval,iteOmega,toNatUp,aC,g,zD,g1];refine aM (i+1) (by omega) ⟨by omega,hn⟩ (aj (fun i=>i) ?_ ?_ rfl rfl) <;> simp only[wx,ai,am,aa,seval,iteOmega,toNatUp] <;> first | rfl | exact⟨rfl,rfl⟩ | skip
     ·rw[aa9 (by omega)] at hp;obtain⟨rfl,_⟩:=hn.resolve_left fun h=>hp h.2
      simp only[u9,xi,ae,aa,seval,iteOmega,toNatUp];exact aL
  by_cases hv:v∈l
  ·exact⟨_,.inl ⟨hv,ac3 _⟩,key _ (fun _ _ h=>h) (.inl ⟨rfl,hv⟩)⟩
  ·exact⟨_,.inr ⟨hv,rfl⟩,key _ (fun _ _ h=>h) (.inr ⟨rfl,hv⟩)⟩
def B3:aH:=⟨2,9,.seq (.reg [oO 4 (.mv (.k (.c (.d (.bool false)))))]) (.seq (.reg [oM 5 0,oM 6 1,oO 7 (.call 99 [(.t 5),(.t 6)] none),oO 8 (.bin .geq (.t 7) (kI 0)),oM 4 8]) (.ret)),[(4,none)]⟩
theorem Zk:aG Tryz.prog { own:=[],comp:=[],frz:=[],nils:=[] } Tryz.f56=some B3:=by kernel_rfl
theorem Pm (G:ah) (l:List Int) (v:Int) (hl:l.length≤9000000000000000000):aw Tryz.prog G 56 [.sl (l.map zD),.int .i64 v] (.w (.c (.d (.bool (decide (v∈l)))))):=by
  refine aI Tryz.func56 Zk rfl rfl ?_;obtain⟨n,hn,c⟩:=aaA G l v hl;rcases hn with ⟨h1,h2⟩ | ⟨h1,rfl⟩
  ·rw[decide_eq_true h1];have g:(n≥0)=True:=eq_true h2;simp only[B3,af,ae,aa,seval,iteOmega,toNatUp];refine sC (c) ?_;simp only[g,ae,aa,seval,iteOmega,toNatUp];exact aL
  ·rw[decide_eq_false h1];simp only[B3,af,ae,aa,seval,iteOmega,toNatUp];refine sD (c) ?_;exact aL
def xj (x y:List Int) (i:Nat):St:=⟨aQ [(1,.w (.c (.d (.sl (y.map zD))))),(8,.w (.c (.d (.sl (x.map zD))))),(9,.w (.c (.d (.int .i64 (x.length:Int))))),(10,.w (.c (.d (.int .i64 (i:Int)))))],hL [],uL []⟩
def va:aN := .seq (.reg [oO 11 (.bin .lss (.t 10) (.t 9))]) (.seq (.cond (.t 11) (.skip) (.exit 0)) (.seq (.block 1 (.seq (.reg [oO 12 (.idxSl 1 (.t 8) (.t 10)),oO 13 (.load .sc (.t 12)),oM 7 13]) (.seq (.reg [oM 14 1,oM 15 7,oO 16 (.call 56 [(.t 14),(.t 15)] none)]) (.cond (.t 16) (.seq (.reg [oM 17 7,oM 4 17,oO 5 (.mv (.k (.c (.d (.bool true)))))]) (.ret)) (.skip))))) (.reg [oO 18 (.bin .add (.t 10) (kI 1)),oM 10 18])))
def NV:aH:=⟨2,19,.seq (.reg [oO 4 (.mv (kI 0)),oO 5 (.mv (.k (.c (.d (.bool false)))))]) (.seq (.seq (.reg [oM 8 0,oO 9 (.len (.t 8)),oO 10 (.mv (kI 0))]) (.block 0 (.loop va))) (.seq (.reg [oO 4 (.mv (kI 0)),oO 5 (.mv (.k (.c (.d (.bool false)))))]) (.ret))),[(4,none),(5,none)]⟩
theorem Zl:aG Tryz.prog { own:=[],comp:=[],frz:=[],nils:=[] } Tryz.f18=some NV:=by kernel_rfl
theorem Pn (G:ah) (x y:List Int) (hx:x.length≤1000000) (hy:y.length≤1000000):aw Tryz.prog G 18 [.sl (x.map zD),.sl (y.map zD)] (.tup [.c (.d (.int .i64 ((dC x y).getD 0))),.c (.d (.bool (dC x y).isSome))]):=by
  refine aI Tryz.func18 Zl rfl rfl ?_;simp only[NV,af,ae,aa,seval,iteOmega,toNatUp];refine aU (xj x y) (fun i=>x.length-i) (fun i=>i≤x.length∧∀ v∈x.take i,v∉y) 0 ⟨abc _,by rw[abS]; exact fun v hv=>by cases hv⟩ ?_ ?_
  ·refine aj (fun _=>0) ?_ ?_ rfl rfl <;> simp only[wx,ai,am,aa,seval,iteOmega,toNatUp] <;> first | rfl | exact⟨rfl,rfl⟩ | skip
  ·rintro i ⟨hi,hp⟩;by_cases hlt:i<x.length
   ·have g:=kQ hlt;have hs:=lK hlt;have hat:=ND hlt hp;have c:=Pm G y (x.getD i 0) (by omega);generalize x.getD i 0=w at *
    by_cases h1:w∈y
    ·rw[hat h1,abQ,ab9];rw[decide_eq_true h1] at c;simp only[va,xj,ae,aa,seval,iteOmega,toNatUp,aC,g,zD];refine sD (c) ?_;exact aE
    ·rw[decide_eq_false h1] at c;have hn:∀ v∈x.take (i+1),v∉y:=by
       rw[hs];intro v q;rcases abn.1 q with q | q
       ·exact hp v q
       ·rw[abe.1 q]; exact h1
     clear hat;simp only[va,xj,ae,aa,seval,iteOmega,toNatUp,aC,g,zD];refine sD (c) ?_;refine aM (i+1) (by omega) ⟨by omega,hn⟩ (aj (fun i=>i) ?_ ?_ rfl rfl) <;> simp only[wx,ai,am,aa,seval,iteOmega,toNatUp] <;> first | rfl | exact⟨rfl,rfl⟩ | skip
   ·rw[aa9 (by omega)] at hp;have:dC x y=none:=List.find?_eq_none.2 fun v hv q=>hp v hv (of_decide_eq_true q)
    rw[this,abY,ab4];simp only[va,xj,ae,aa,seval,iteOmega,toNatUp];exact aE
def NW:aH:=⟨3,20,.seq (.reg [oO 3 (.box .roBox (.t 0)),oO 6 (.mv (.k (.c .nil)))]) (.seq (.reg [oO 10 (.load (.ag 6) (.t 3)),oM 11 1,oM 12 2,oO 13 (.bldSl false 1 1 (.int .u8 0) [(0,(.t 12))]),oO 14 (.bldSl false 2 1 (.sl []) [(0,(.t 11)),(1,(.t 13))]),oO 15 (.call 90 [(.t 14)] none),oO 16 (.call 105 [(.t 10),(.k (.c (.d (.str ⟨#[115,101,99,116,105,109,101,32,107,101,121,115]⟩)))),(.t 15),(kI 32)] none),oM 9 16,oO 17 (.extract (.t 9) 0),oO 18 (.extract (.t 9) 1),oM 7 17,oM 8 18]) (.seq (.reg [oM 19 7,oM 6 19]) (.ret))),[(6,none)]⟩
theorem Zm:aG Tryz.prog { own:=[],comp:=[],frz:=[],nils:=[] } Tryz.f63=some NW:=by kernel_rfl
theorem Po (G:ah) (hF:G.at 0=some (.ra (dR.map wD))) (hG:G.at 1=some (.ra (bK.map wD))) (c:Ch) (p a:Int) (z:UInt8) (h:fD c p a=0):aw Tryz.prog G 63 [aX c,.sl ((aT [p,a]).map bD),bD z] (.w (.c (.d (.sl ((bg c p a z).map bD))))):=by
  refine aI Tryz.func63 Zm rfl rfl ?_;have hv:dt c:=by
    unfold fD at h;by_cases g:dt c
    ·exact g
    ·rw[if_pos g] at h; exact absurd h (by decide)
  have bl:(aT [p,a]).length=4:=eU _;have cj:=gV G [aT [p,a],[z]] (by simp) (by simp[bl]);rw[show [aT [p,a],[z]].flatten=ib p a z from by unfold ib; simp] at cj;simp only[abd,abo] at cj;have hl:(ib p a z).length=5:=by unfold ib; rw[aba,bl]; rfl
  have c4:=aar G hF hG c qM (ib p a z) 32 (by decide) (by omega) (by decide) (by decide);have hX:nF c qM.data.toList (ib p a z) 32=bg c p a z:=by
    unfold nF bg;rw[if_pos hv,if_pos h,lT _ _ (by decide)];rfl
  rw[hX] at c4;unfold qM at c4;unfold aX at *
  generalize ib p a z=X at *
  generalize bg c p a z=K at *
  generalize aT [p,a]=B at *
  simp only[NW,af,ae,aa,seval,iteOmega,toNatUp];refine sD (cj) ?_;refine sD (c4) ?_;exact aL
def wk:aH:=⟨3,30,.seq (.reg [oO 3 (.box .roBox (.t 0)),oO 6 (.alloc [.nil,.nil]),oO 7 (.mv (kI 0))]) (.seq (.seq (.reg [oO 9 (.load (.ag 6) (.t 3)),oO 10 (.call 62 [(.t 9)] none),oO 11 (.un .not (.t 10))]) (.cond (.t 11) (.seq (.reg [oO 12 (.build [.nil,.nil] []),oN (.store (.ag 2) (.t 6) (.t 12)),oO 7 (.mv (kI 3))]) (.ret)) (.skip))) (.seq (.seq (.reg [oM 13 1,oM 14 2,oO 15 (.bldSl false 2 1 (.int .i64 0) [(0,(.t 13)),(1,(.t 14))]),oO 16 (.call 50 [(.t 15)] none),oO 17 (.un .not (.t 16))]) (.cond (.t 17) (.seq (.reg [oO 18 (.build [.nil,.nil] []),oN (.store (.ag 2) (.t 6) (.t 18)),oO 7 (.mv (kI 4))]) (.ret)) (.skip))) (.seq (.reg [oM 19 1,oM 20 2,oO 21 (.bldSl false 2 1 (.int .i64 0) [(0,(.t 19)),(1,(.t 20))]),oO 22 (.call 53 [(.t 21)] none),oM 8 22]) (.seq (.reg [oO 23 (.load (.ag 6) (.t 3)),
 oM 24 8,oO 25 (.call 63 [(.t 23),(.t 24),(.k (.c (.d (.int .u8 0))))] none),oO 26 (.load (.ag 6) (.t 3)),oM 27 8,oO 28 (.call 63 [(.t 26),(.t 27),(.k (.c (.d (.int .u8 1))))] none),oO 29 (.build [.nil,.nil] [(0,1,(.t 25)),(1,1,(.t 28))]),oN (.store (.ag 2) (.t 6) (.t 29)),oO 7 (.mv (kI 0))]) (.ret))))),[(6,(some (.ag 2))),(7,none)]⟩
theorem Zn:aG Tryz.prog { own:=[],comp:=[],frz:=[],nils:=[] } Tryz.f26=some wk:=by kernel_rfl
theorem C1 (G:ah) (hF:G.at 0=some (.ra (dR.map wD))) (hG:G.at 1=some (.ra (bK.map wD))) (c:Ch) (p a:Int):aw Tryz.prog G 26 [aX c,.int .i64 p,.int .i64 a] (.tup [.c (.d (df (bg c p a 0) (bg c p a 1))),.c (.d (.int .i64 (fD c p a)))]):=by
  refine aI Tryz.func26 Zn rfl rfl ?_;have c1:=xg G hF hG c;have c2:=qh G [p,a] (by simp);by_cases h:dt c
  ·rw[decide_eq_true h] at c1;by_cases hs:bA [p,a]
   ·rw[decide_eq_true hs] at c2;have e:fD c p a=0:=by unfold fD; rw[if_neg (not_not_intro h),if_neg (not_not_intro hs)]
    have c3:=oC G [p,a] (by simp) hs;have c4:=Po G hF hG c p a 0 e;have c5:=Po G hF hG c p a 1 e;rw[e];unfold aX df at *
    simp only[abd,abo,zD] at c2 c3 c4 c5;generalize aT [p,a]=B at *
    generalize bg c p a 0=U at *
    generalize bg c p a 1=W at *
    simp only[wk,af,ae,aa,seval,iteOmega,toNatUp];refine sD (c1) ?_;refine sD (c2) ?_;refine sD (c3) ?_;refine sD (c4) ?_;refine sD (c5) ?_;exact aE
   ·rw[decide_eq_false hs] at c2;have e:fD c p a=4:=by unfold fD; rw[if_neg (not_not_intro h),if_pos hs]
    rw[e,show bg c p a 0=[] from if_neg (by rw[e]; decide),show bg c p a 1=[] from if_neg (by rw[e]; decide)];unfold aX df at *
    simp only[abd,abo,zD] at c2;simp only[wk,af,ae,aa,seval,iteOmega,toNatUp];refine sD (c1) ?_;refine sD (c2) ?_;exact aE
  ·rw[decide_eq_false h] at c1;have e:fD c p a=3:=by unfold fD; rw[if_pos h]
   rw[e,show bg c p a 0=[] from if_neg (by rw[e]; decide),show bg c p a 1=[] from if_neg (by rw[e]; decide)];unfold aX df at *
   simp only[wk,af,ae,aa,seval,iteOmega,toNatUp];refine sD (c1) ?_;exact aE
def xn (l:List Ek) (g:Nat) (caps:List D) (i:Nat):St:=⟨aQ [(0,.w (.c (.d (.sl (l.map ak))))),(1,.w (.c (.d (.fn g caps)))),(7,.w (.c (.d (.int .i64 (l.length:Int))))),(8,.w (.c (.d (.int .i64 (i:Int)))))],hL [],uL []⟩
def inK (p:Ek→Bool) (l:List Ek) (n:Int):Prop:=(l.any p=true∧0≤n)∨(l.any p=false∧n=-1)
def ve:aN := .seq (.reg [oO 9 (.bin .lss (.t 8) (.t 7))]) (.seq (.cond (.t 9) (.skip) (.exit 0)) (.seq (.block 1 (.seq (.reg [oM 10 8,oM 5 10]) (.seq (.reg [oM 11 1,oM 12 0,oM 13 5,oO 14 (.idxSl 3 (.t 12) (.t 13)),oO 15 (.load (.ag 3) (.t 14)),oO 16 (.call 1000000007 [(.t 11),(.t 15)] none)]) (.cond (.t 16) (.seq (.reg [oM 17 5,oM 4 17]) (.ret)) (.skip))))) (.reg [oO 18 (.bin .add (.t 8) (kI 1)),oM 8 18])))
def Oe:aH:=⟨2,19,.seq (.reg [oO 4 (.mv (kI 0))]) (.seq (.seq (.reg [oM 6 0,oO 7 (.len (.t 6)),oO 8 (.mv (kI 0))]) (.block 0 (.loop ve))) (.seq (.reg [oO 4 (.mv (.k (.c (.d (.int .i64 (-1))))))]) (.ret))),[(4,none)]⟩
theorem Zq:aG Tryz.prog { own:=[],comp:=[],frz:=[],nils:=[] } Tryz.f131=some Oe:=by kernel_rfl
theorem aaB (G:ah) (l:List Ek) (g:Nat) (caps:List D) (p:Ek→Bool) (hl:l.length≤9223372036854775807) (hp:∀ x∈l,nu Tryz.prog G g caps [ak x] (.w (.c (.d (.bool (p x)))))):∃ n,inK p l n∧aw Tryz.prog G 131 [.sl (l.map ak),.fn g caps] (.w (.c (.d (.int .i64 n)))):=by
  have key:∀ n:Int,(l.any p=true∧(∃ i:Nat,n=(i:Int)∧i<l.length∧p (l.getD i default)=true∧∀ j,j<i→p (l.getD j default)=false))∨(l.any p=false∧n=-1)→aw Tryz.prog G 131 [.sl (l.map ak),.fn g caps] (.w (.c (.d (.int .i64 n)))):=by
    intro n hn;refine aI Tryz.func131 Zq rfl rfl ?_;simp only[Oe,af,ae,aa,seval,iteOmega,toNatUp];refine aU (xn l g caps) (fun i=>l.length-i) (fun i=>i≤l.length∧∀ j,j<i→p (l.getD j default)=false) 0 ⟨abc _,fun j hj=>by omega⟩ ?_ ?_
    ·refine aj (fun i=>0) ?_ ?_ rfl rfl <;> simp only[wx,ai,am,aa,seval,iteOmega,toNatUp] <;> rfl
    ·rintro i ⟨hi,hno⟩;by_cases hlt:i<l.length
     ·have g1:=i8 hlt;have hd:=hp _ (gg hlt);unfold ak at hd;cases hpi:p (l.getD i default)
      ·rw[hpi] at hd;simp only[ve,xn,ae,aa,seval,iteOmega,toNatUp,aC,g1,ak];refine uv hd rfl (.inl rfl) ?_;simp only[ae,aa,seval,iteOmega,toNatUp];refine aM (i+1) (by omega) ⟨by omega,fun j hj=>?_⟩ (aj (fun i=>0) ?_ ?_ rfl rfl)
       ·rcases abL j i with h | h
        ·exact hno j h
        ·obtain rfl:j=i:=by omega
         exact hpi
       all_goals simp only[wx,ai,am,aa,seval,iteOmega,toNatUp]
      ·rw[hpi] at hd;have hni:n=(i:Int):=by
         rcases hn with ⟨_,k,rfl,hk,h1,h2⟩ | ⟨h1,_⟩
         ·rcases Nat.lt_trichotomy k i with h | h | h
          ·rw[hno k h] at h1; cases h1
          ·rw[h]
          ·rw[h2 i h] at hpi; cases hpi
         ·have:=ace.2 ⟨_,gg hlt,hpi⟩;rw[h1] at this; cases this
       subst hni;simp only[ve,xn,ae,aa,seval,iteOmega,toNatUp,aC,g1,ak];refine uv hd rfl (.inl rfl) ?_;simp only[ae,aa,seval,iteOmega,toNatUp];exact aL
     ·have hni:n=-1:=by
        rcases hn with ⟨_,k,rfl,hk,h1,h2⟩ | ⟨_,h⟩
        ·rw[hno k (by omega)] at h1; cases h1
        ·exact h
      subst hni;simp only[ve,xn,ae,aa,seval,iteOmega,toNatUp];exact aL
  cases ha:l.any p
  ·exact⟨_,.inr ⟨ha,rfl⟩,key _ (.inr ⟨ha,rfl⟩)⟩
  ·have:∃ i,i<l.length∧p (l.getD i default)=true:=by
     obtain⟨x,hx,h1⟩:=ace.1 ha;obtain⟨i,hi,rfl⟩:=abR hx;exact⟨i,hi,by rw[abb,aa7 hi]; exact h1⟩
   obtain⟨i,⟨h1,h2⟩,h3⟩:=GR this;exact⟨_,.inl ⟨ha,ac3 _⟩,key (i:Int) (.inl ⟨ha,i,rfl,h1,h2,fun j hj=>by
     cases hq:p (l.getD j default)
     ·rfl
     ·have:=h3 j ⟨by omega,hq⟩; omega⟩)⟩
def Ca:aH:=⟨2,9,.seq (.reg [oO 4 (.mv (.k (.c (.d (.bool false)))))]) (.seq (.reg [oM 5 0,oM 6 1,oO 7 (.call 131 [(.t 5),(.t 6)] none),oO 8 (.bin .geq (.t 7) (kI 0)),oM 4 8]) (.ret)),[(4,none)]⟩
theorem Zr:aG Tryz.prog { own:=[],comp:=[],frz:=[],nils:=[] } Tryz.f109=some Ca:=by kernel_rfl
theorem aaC (G:ah) (l:List Ek) (g:Nat) (caps:List D) (p:Ek→Bool) (hl:l.length≤9223372036854775807) (hp:∀ x∈l,nu Tryz.prog G g caps [ak x] (.w (.c (.d (.bool (p x)))))):aw Tryz.prog G 109 [.sl (l.map ak),.fn g caps] (.w (.c (.d (.bool (l.any p))))):=by
  refine aI Tryz.func109 Zr rfl rfl ?_;obtain⟨n,hn,c⟩:=aaB G l g caps p hl hp;rcases hn with ⟨h1,h2⟩ | ⟨h1,rfl⟩
  ·rw[h1];have g1:(n≥0)=True:=eq_true h2;simp only[Ca,af,ae,aa,seval,iteOmega,toNatUp];refine sC (c) ?_;simp only[g1,ae,aa,seval,iteOmega,toNatUp];exact aL
  ·rw[h1];simp only[Ca,af,ae,aa,seval,iteOmega,toNatUp];refine sD (c) ?_;exact aL
def Of:aH:=⟨1,5,.seq (.reg [oO 1 (.box .roBox (.t 0)),oO 2 (.mv (.k (.c (.d (.bool false)))))]) (.seq (.reg [oO 3 (.fieldAddr 0 (.t 1)),oO 4 (.load .sc (.t 3)),oM 2 4]) (.ret)),[(2,none)]⟩
theorem Zs:aG Tryz.prog { own:=[],comp:=[],frz:=[],nils:=[] } Tryz.f110=some Of:=by kernel_rfl
theorem aaD (G:ah) (r:Ek):nu Tryz.prog G 110 [] [ak r] (.w (.c (.d (.bool r.cr)))):=by
  refine⟨enters_of Tryz.func110 (by kernel_rfl) rfl,?_⟩;refine aI Tryz.func110 Zs rfl rfl ?_;obtain⟨cr,ty,bo⟩:=r;unfold ak;simp only[Of,af,ae,aa,seval,iteOmega,toNatUp];exact aL
def Cb:aH:=⟨2,10,.seq (.reg [oO 4 (.mv (.k (.c (.d (.bool false)))))]) (.seq (.reg [oM 5 0,oM 6 1,oO 7 (.mpGet .i64 (.sl []) false (.t 5) (.t 6)),oO 8 (.len (.t 7)),oO 9 (.bin .gtr (.t 8) (kI 0)),oM 4 9]) (.ret)),[(4,none)]⟩
theorem Zt:aG Tryz.prog { own:=[],comp:=[],frz:=[],nils:=[] } Tryz.f80=some Cb:=by kernel_rfl
theorem nk (G:ah) (l:List Ek) (k:Int):aw Tryz.prog G 80 [cI l,.int .i64 k] (.w (.c (.d (.bool (decide (0<(aJ l k).length)))))):=by
  refine aI Tryz.func80 Zt rfl rfl ?_;have hk:=B8 l k;unfold cI;generalize db l=E at *
  generalize aJ l k=x at *
  by_cases h:0<x.length
  ·rw[decide_eq_true h];have g1:((x.length:Int)>0)=True:=eq_true (by omega);simp only[Cb,af,ae,aa,seval,iteOmega,toNatUp,dD,hk,g1];exact aL
  ·rw[decide_eq_false h];have g1:((x.length:Int)>0)=False:=eq_false (by omega);simp only[Cb,af,ae,aa,seval,iteOmega,toNatUp,dD,hk,g1];exact aL
def ea (l:List Ek) (k:Int):List UInt8:=((aJ l k).getD 0 default).bo
def bz (l:List Ek) (k:Int):List Int:=dP (ea l k)
def Cc:aH:=⟨2,15,.seq (.reg [oO 4 (.mv (.k (.c .nil)))]) (.seq (.seq (.reg [oM 5 0,oM 6 1,oO 7 (.call 80 [(.t 5),(.t 6)] none),oO 8 (.un .not (.t 7))]) (.cond (.t 8) (.seq (.reg [oO 4 (.mv (.k (.c .nil)))]) (.ret)) (.skip))) (.seq (.reg [oM 9 0,oM 10 1,oO 11 (.mpGet .i64 (.sl []) false (.t 9) (.t 10)),oO 12 (.idxSl 3 (.t 11) (kI 0)),oO 13 (.fieldAddr 2 (.t 12)),oO 14 (.load .sc (.t 13)),oM 4 14]) (.ret))),[(4,none)]⟩
theorem Zu:aG Tryz.prog { own:=[],comp:=[],frz:=[],nils:=[] } Tryz.f116=some Cc:=by kernel_rfl
theorem C2 (G:ah) (l:List Ek) (k:Int):aw Tryz.prog G 116 [cI l,.int .i64 k] (.w (.c (.d (.sl ((ea l k).map bD))))):=by
  refine aI Tryz.func116 Zu rfl rfl ?_;have c:=nk G l k;have hk:=B8 l k;unfold cI ea at *
  generalize db l=E at *
  generalize aJ l k=x at *
  by_cases h:0<x.length
  ·rw[decide_eq_true h] at c;have g:=i8 h;generalize x.getD 0 default=r at *
   simp only[Cc,af,ae,aa,seval,iteOmega,toNatUp,dD,hk,aC];refine sC (c) ?_;simp only[dD,hk,aC,g,ak,ae,aa,seval,iteOmega,toNatUp];exact aL
  ·rw[decide_eq_false h] at c;obtain rfl:x=[]:=abM.1 (by omega);rw[show (([]:List Ek).getD 0 default).bo=[] from rfl];simp only[Cc,af,ae,aa,seval,iteOmega,toNatUp];refine sD (c) ?_;exact aL
theorem pG {l:List Ek} {n:Nat} (h:∀ r∈l,r.bo.length≤n) (k:Int):(ea l k).length≤n:=by
  unfold ea;rcases abL 0 (aJ l k).length with h1 | h1
  ·exact h _ (acE.1 (gg h1)).1
  ·obtain h2:aJ l k=[]:=abM.1 (by omega);rw[h2]; exact abc _
def Og:aH:=⟨2,15,.seq (.reg [oO 4 (.mv (.k (.c .nil)))]) (.seq (.reg [oM 8 0,oM 9 1,oO 10 (.call 116 [(.t 8),(.t 9)] none),oO 11 (.call 14 [(.t 10)] none),oM 7 11,oO 12 (.extract (.t 7) 0),oO 13 (.extract (.t 7) 1),oM 5 12,oM 6 13]) (.seq (.reg [oM 14 5,oM 4 14]) (.ret))),[(4,none)]⟩
theorem Zv:aG Tryz.prog { own:=[],comp:=[],frz:=[],nils:=[] } Tryz.f111=some Og:=by kernel_rfl
theorem qj (G:ah) (l:List Ek) (k:Int) (h:∀ r∈l,r.bo.length≤1000000000):aw Tryz.prog G 111 [cI l,.int .i64 k] (.w (.c (.d (.sl ((bz l k).map zD))))):=by
  refine aI Tryz.func111 Zv rfl rfl ?_;have c1:=C2 G l k;have c2:=Ph G (ea l k) (pG h k);unfold bz cI at *
  generalize db l=E at *
  generalize ea l k=B at *
  generalize dP B=N at *
  simp only[Og,af,ae,aa,seval,iteOmega,toNatUp];refine sD (c1) ?_;refine sD (c2) ?_;exact aL
def oU (l:List Ek):Bool:=decide (0<(aJ l 1).length)&&(decide (0<(aJ l 4).length)&&(!decide (0<(aJ l 2).length)&&(!decide (0<(aJ l 3).length)&&!decide (0<(aJ l 5).length))))
def pV:aH:=⟨1,24,.seq (.reg [oO 2 (.mv (.k (.c (.d (.bool false)))))]) (.seq (.reg [oM 3 0,oO 4 (.call 80 [(.t 3),(kI 1)] none),oM 5 4,oG 6 (.mv (.t 0)) 5 true,oG 7 (.call 80 [(.t 6),(kI 4)] none) 5 true,oO 8 (.pick (.t 5) (.t 7) (.k (.c (.d (.bool false))))),oM 9 8,oG 10 (.mv (.t 0)) 9 true,oG 11 (.call 80 [(.t 10),(kI 2)] none) 9 true,oG 12 (.un .not (.t 11)) 9 true,oO 13 (.pick (.t 9) (.t 12) (.k (.c (.d (.bool false))))),oM 14 13,oG 15 (.mv (.t 0)) 14 true,oG 16 (.call 80 [(.t 15),(kI 3)] none) 14 true,oG 17 (.un .not (.t 16)) 14 true,oO 18 (.pick (.t 14) (.t 17) (.k (.c (.d (.bool false))))),oM 19 18,oG 20 (.mv (.t 0)) 19 true,oG 21 (.call 80 [(.t 20),(kI 5)] none) 19 true,oG 22 (.un .not (.t 21)) 19 true,oO 23 (.pick (.t 19) (.t 22) (.k (.c (.d (.bool false))))),oM 2 23]) (.ret)),
 [(2,none)]⟩
theorem Zw:aG Tryz.prog { own:=[],comp:=[],frz:=[],nils:=[] } Tryz.f67=some pV:=by kernel_rfl
theorem aaE (G:ah) (l:List Ek):aw Tryz.prog G 67 [cI l] (.w (.c (.d (.bool (oU l))))):=by
  refine aI Tryz.func67 Zw rfl rfl ?_;have c1:=nk G l 1;have c4:=nk G l 4;have c2:=nk G l 2;have c3:=nk G l 3;have c5:=nk G l 5;unfold oU;unfold cI at *
  generalize db l=E at *
  generalize decide (0<(aJ l 1).length)=b1 at *
  generalize decide (0<(aJ l 4).length)=b4 at *
  generalize decide (0<(aJ l 2).length)=b2 at *
  generalize decide (0<(aJ l 3).length)=b3 at *
  generalize decide (0<(aJ l 5).length)=b5 at *
  cases b1
  ·simp only[pV,af,ae,aa,seval,iteOmega,toNatUp];refine sD (c1) ?_;exact aL
  cases b4
  ·simp only[pV,af,ae,aa,seval,iteOmega,toNatUp];refine sD (c1) ?_;refine sD (c4) ?_;exact aL
  cases b2
  case true =>
    simp only[pV,af,ae,aa,seval,iteOmega,toNatUp];refine sD (c1) ?_;refine sD (c4) ?_;refine sD (c2) ?_;exact aL
  cases b3
  case true =>
    simp only[pV,af,ae,aa,seval,iteOmega,toNatUp];refine sD (c1) ?_;refine sD (c4) ?_;refine sD (c2) ?_;refine sD (c3) ?_;exact aL
  cases b5 <;> (
    simp only[pV,af,ae,aa,seval,iteOmega,toNatUp];refine sD (c1) ?_;refine sD (c4) ?_;refine sD (c2) ?_;refine sD (c3) ?_;refine sD (c5) ?_;exact aL
    skip)
def oV (k:Int) (x:List Ek):Bool :=
  if k=0 then decide (x.length=1∧(x.getD 0 default).bo.length=0)
  else if k=1∨k=4 then decide (x.length=1∧(x.getD 0 default).bo.length%2=0)
  else if k=6 then decide (x.length=1)
  else if k=7 then decide (x.length=1∧(x.getD 0 default).bo.length=2)
  else true
def ii:aH:=⟨2,52,.seq (.reg [oO 4 (.mv (.k (.c (.d (.bool false)))))]) (.seq (.reg [oM 8 1,oO 9 (.idxSl 3 (.t 8) (kI 0)),oO 10 (.fieldAddr 2 (.t 9)),oO 11 (.load .sc (.t 10)),oM 5 11]) (.seq (.seq (.reg [oM 12 0]) (.block 0 (.seq (.reg [oO 14 (.bin .eql (.t 12) (kI 0)),oM 13 14]) (.cond (.t 13) (.seq (.reg [oM 15 1,oO 16 (.len (.t 15)),oO 17 (.bin .eql (.t 16) (kI 1)),oM 18 17,oG 19 (.mv (.t 5)) 18 true,oG 20 (.len (.t 19)) 18 true,oG 21 (.bin .eql (.t 20) (kI 0)) 18 true,oO 22 (.pick (.t 18) (.t 21) (.k (.c (.d (.bool false))))),oM 4 22]) (.ret)) (.seq (.seq (.reg [oO 24 (.bin .eql (.t 12) (kI 1)),oM 23 24]) (.cond (.t 23) (.skip) (.reg [oO 25 (.bin .eql (.t 12) (kI 4)),oM 23 25]))) (.cond (.t 23) (.seq (.reg [oM 27 5,oO 28 (.call 14 [(.t 27)] none),oM 26 28,oO 29 (.extract (.t 26) 0),
 oO 30 (.extract (.t 26) 1),oM 6 29,oM 7 30]) (.seq (.reg [oM 31 1,oO 32 (.len (.t 31)),oO 33 (.bin .eql (.t 32) (kI 1)),oM 34 33,oG 35 (.mv (.t 7)) 34 true,oO 36 (.pick (.t 34) (.t 35) (.k (.c (.d (.bool false))))),oM 4 36]) (.ret))) (.seq (.reg [oO 38 (.bin .eql (.t 12) (kI 6)),oM 37 38]) (.cond (.t 37) (.seq (.reg [oM 39 1,oO 40 (.len (.t 39)),oO 41 (.bin .eql (.t 40) (kI 1)),oM 4 41]) (.ret)) (.seq (.reg [oO 43 (.bin .eql (.t 12) (kI 7)),oM 42 43]) (.cond (.t 42) (.seq (.reg [oM 44 1,oO 45 (.len (.t 44)),oO 46 (.bin .eql (.t 45) (kI 1)),oM 47 46,oG 48 (.mv (.t 5)) 47 true,oG 49 (.len (.t 48)) 47 true,oG 50 (.bin .eql (.t 49) (kI 2)) 47 true,oO 51 (.pick (.t 47) (.t 50) (.k (.c (.d (.bool false))))),oM 4 51]) (.ret)) (.skip))))))))))) (.seq (.reg [oO 4 (.mv (.k (.c (.d (.bool true)))))])
 (.ret)))),[(4,none)]⟩
theorem Zx:aG Tryz.prog { own:=[],comp:=[],frz:=[],nils:=[] } Tryz.f108=some ii:=by kernel_rfl
theorem aaF (G:ah) (k:Int) (x:List Ek) (hx:0<x.length) (hl:x.length≤1000000) (hb:(x.getD 0 default).bo.length≤1000000000):aw Tryz.prog G 108 [.int .i64 k,.sl (x.map ak)] (.w (.c (.d (.bool (oV k x))))):=by
  refine aI Tryz.func108 Zx rfl rfl ?_;have g:=i8 hx;have c:=Ph G (x.getD 0 default).bo hb;unfold oV;generalize x.getD 0 default=r at *
  obtain⟨cr,ty,bo⟩:=r;dsimp only at *
  generalize dP bo=nn at *
  by_cases k0:k=0
  ·rw[if_pos k0];subst k0;by_cases h1:x.length=1
   ·have g1:((x.length:Int)=1)=True:=eq_true (by omega);by_cases h2:bo.length=0
    ·rw[decide_eq_true ⟨h1,h2⟩];have g2:((bo.length:Int)=0)=True:=eq_true (by omega);simp only[ii,af,ae,aa,seval,iteOmega,toNatUp,aC,g,ak,g1,g2];exact aL
    ·rw[decide_eq_false (fun h=>h2 h.2)];have g2:((bo.length:Int)=0)=False:=eq_false (by omega);simp only[ii,af,ae,aa,seval,iteOmega,toNatUp,aC,g,ak,g1,g2];exact aL
   ·have g1:((x.length:Int)=1)=False:=eq_false (by omega);rw[decide_eq_false (fun h=>h1 h.1)];simp only[ii,af,ae,aa,seval,iteOmega,toNatUp,aC,g,ak,g1];exact aL
  ·rw[if_neg k0];have g0:=eq_false k0;by_cases k1:k=1
   ·rw[if_pos (.inl k1)];subst k1;by_cases h1:x.length=1
    ·have g1:((x.length:Int)=1)=True:=eq_true (by omega);by_cases h2:bo.length%2=0
     ·rw[decide_eq_true ⟨h1,h2⟩];rw[decide_eq_true h2] at c;simp only[ii,af,ae,aa,seval,iteOmega,toNatUp,aC,g,ak];refine sC (c) ?_;simp only[g1,ae,aa,seval,iteOmega,toNatUp];exact aL
     ·rw[decide_eq_false (fun h=>h2 h.2)];rw[decide_eq_false h2] at c;simp only[ii,af,ae,aa,seval,iteOmega,toNatUp,aC,g,ak];refine sC (c) ?_;simp only[g1,ae,aa,seval,iteOmega,toNatUp];exact aL
    ·have g1:((x.length:Int)=1)=False:=eq_false (by omega);rw[decide_eq_false (fun h=>h1 h.1)];generalize decide (bo.length%2=0)=d at *
     simp only[ii,af,ae,aa,seval,iteOmega,toNatUp,aC,g,ak];refine sC (c) ?_;simp only[g1,ae,aa,seval,iteOmega,toNatUp];exact aL
   ·have g1':=eq_false k1;by_cases k4:k=4
    ·rw[if_pos (.inr k4)];subst k4;by_cases h1:x.length=1
     ·have g1:((x.length:Int)=1)=True:=eq_true (by omega);by_cases h2:bo.length%2=0
      ·rw[decide_eq_true ⟨h1,h2⟩];rw[decide_eq_true h2] at c;simp only[ii,af,ae,aa,seval,iteOmega,toNatUp,aC,g,ak];refine sC (c) ?_;simp only[g1,ae,aa,seval,iteOmega,toNatUp];exact aL
      ·rw[decide_eq_false (fun h=>h2 h.2)];rw[decide_eq_false h2] at c;simp only[ii,af,ae,aa,seval,iteOmega,toNatUp,aC,g,ak];refine sC (c) ?_;simp only[g1,ae,aa,seval,iteOmega,toNatUp];exact aL
     ·have g1:((x.length:Int)=1)=False:=eq_false (by omega);rw[decide_eq_false (fun h=>h1 h.1)];generalize decide (bo.length%2=0)=d at *
      simp only[ii,af,ae,aa,seval,iteOmega,toNatUp,aC,g,ak];refine sC (c) ?_;simp only[g1,ae,aa,seval,iteOmega,toNatUp];exact aL
    ·have g4':=eq_false k4;rw[if_neg (fun h=>h.elim k1 k4)];by_cases k6:k=6
     ·rw[if_pos k6];subst k6;by_cases h1:x.length=1
      ·have g1:((x.length:Int)=1)=True:=eq_true (by omega);rw[decide_eq_true h1];simp only[ii,af,ae,aa,seval,iteOmega,toNatUp,aC,g,ak,g1];exact aL
      ·have g1:((x.length:Int)=1)=False:=eq_false (by omega);rw[decide_eq_false h1];simp only[ii,af,ae,aa,seval,iteOmega,toNatUp,aC,g,ak,g1];exact aL
     ·have g6':=eq_false k6;rw[if_neg k6];by_cases k7:k=7
      ·rw[if_pos k7];subst k7;by_cases h1:x.length=1
       ·have g1:((x.length:Int)=1)=True:=eq_true (by omega);by_cases h2:bo.length=2
        ·rw[decide_eq_true ⟨h1,h2⟩];have g2:((bo.length:Int)=2)=True:=eq_true (by omega);simp only[ii,af,ae,aa,seval,iteOmega,toNatUp,aC,g,ak,g1,g2];exact aL
        ·rw[decide_eq_false (fun h=>h2 h.2)];have g2:((bo.length:Int)=2)=False:=eq_false (by omega);simp only[ii,af,ae,aa,seval,iteOmega,toNatUp,aC,g,ak,g1,g2];exact aL
       ·have g1:((x.length:Int)=1)=False:=eq_false (by omega);rw[decide_eq_false (fun h=>h1 h.1)];simp only[ii,af,ae,aa,seval,iteOmega,toNatUp,aC,g,ak,g1];exact aL
      ·have g7':=eq_false k7;rw[if_neg k7];simp only[ii,af,ae,aa,seval,iteOmega,toNatUp,aC,g,ak,g0,g1',g4',g6',g7'];exact aL
structure Wk where
  left:List (Int×D)
  last:Option (Int×D)
theorem D7 {α:Type}:∀ (l:List α) (j:Nat) (p:α),l[j]?=some p→∀ x∈l,x∈l.eraseIdx j∨x=p
  | [],_,_,h,_,_=>by simp at h
  | a::l,0,p,h,x,hx=>by
    simp only[acy,abf] at h;subst h;rcases abr.1 hx with rfl | hx
    ·exact .inr rfl
    ·exact .inl hx
  | a::l,j+1,p,h,x,hx=>by
    rw[ab1] at h;rw[List.eraseIdx_cons_succ];rcases abr.1 hx with rfl | hx
    ·exact .inl abK
    ·rcases D7 l j p h x hx with h | h
     ·exact .inl (abD _ h)
     ·exact .inr h
theorem I7 {α:Type} {l:List α} {j:Nat} {p:α} (h:l[j]?=some p):(l.eraseIdx j).length<l.length:=by
  obtain⟨h1,_⟩:=abt.1 h;rw[List.length_eraseIdx,if_pos h1]; omega
def kR (l:List Ek) (P:Int→Prop) (t:Wk):Prop:=(∀ p∈t.left,p∈db l)∧∀ p∈db l,p∈t.left∨P p.1
theorem kR.start (l:List Ek) (P:Int→Prop):kR l P ⟨db l,none⟩:=⟨fun _ h=>h,fun _ h=>.inl h⟩
theorem kR.next {l:List Ek} {P:Int→Prop} {t:Wk} (h:kR l P t) {j:Nat} {p:Int×D} (hj:t.left[j]?=some p) (hP:P p.1):kR l P ⟨t.left.eraseIdx j,some p⟩ :=
  ⟨fun x hx=>h.1 x (List.mem_of_mem_eraseIdx hx),fun x hx=>(h.2 x hx).elim (fun h1=>(D7 _ _ _ hj x h1).imp id (fun e:x=p=>by rw[e]; exact hP)) .inr⟩
theorem kR.done {l:List Ek} {P:Int→Prop} {t:Wk} (h:kR l P t) (he:t.left=[]) {k:Int} (hk:aJ l k≠[]):P k:=by
  rcases h.2 _ (WI hk) with h1 | h1
  ·rw[he] at h1; cases h1
  ·exact h1
theorem WK {l:List Ek} {k:Int} (h:7<k) (ha:(aJ l k).any (fun r=>r.cr)=true):fp l=true:=by
  obtain⟨r,h1,h2⟩:=ace.1 ha;obtain⟨h3,h4⟩:=acE.1 h1;have h4:r.ty=k:=of_decide_eq_true h4;exact ace.2 ⟨r,h3,by rw[h2,Bool.true_and,h4]; exact decide_eq_true h⟩
theorem Zy {l:List Ek} (h:∀ k,aJ l k≠[]→¬ (7<k∧(aJ l k).any (fun r=>r.cr)=true)):fp l=false:=by
  refine aca.2 fun r hr hq=>?_
  rw[abH,decide_eq_true_eq] at hq;have hm:r∈aJ l r.ty:=acE.2 ⟨hr,decide_eq_true rfl⟩;exact h r.ty (fun e=>by rw[e] at hm; cases hm) ⟨hq.2,ace.2 ⟨r,hm,hq.1⟩⟩
def Pp (t:Wk):St:=⟨aQ [(6,.w (.c (.ptr 1 1 0 0)))],hL [(1,.it .i64 t.left t.last)],uL [1]⟩
def I8:aN := .seq (.nextM 7 (.t 6) [oO 8 (.extract (.t 7) 0)]) (.seq (.cond (.t 8) (.skip) (.exit 0)) (.block 1 (.seq (.reg [oO 9 (.mpEnt (.t 6)),oO 10 (.extract (.t 9) 0),oO 11 (.extract (.t 9) 1),oM 3 10,oM 4 11]) (.seq (.reg [oM 12 3,oO 13 (.bin .gtr (.t 12) (kI 7)),oM 14 13,oG 15 (.mv (.t 4)) 14 true,oG 16 (.call 109 [(.t 15),(.k (.c (.d (.fn 110 []))))] none) 14 true,oO 17 (.pick (.t 14) (.t 16) (.k (.c (.d (.bool false)))))]) (.cond (.t 17) (.seq (.reg [oO 2 (.mv (.k (.c (.d (.bool true)))))]) (.ret)) (.skip))))))
def Oh:aH:=⟨1,18,.seq (.reg [oO 2 (.mv (.k (.c (.d (.bool false)))))]) (.seq (.seq (.reg [oM 5 0,oO 6 (.mpIter (.t 5))]) (.block 0 (.loop I8))) (.seq (.reg [oO 2 (.mv (.k (.c (.d (.bool false)))))]) (.ret))),[(2,none)]⟩
theorem Zz:aG Tryz.prog { own:=[],comp:=[],frz:=[],nils:=[] } Tryz.f69=some Oh:=by kernel_rfl
theorem Pq (G:ah) (l:List Ek) (hl:l.length≤1000000):aw Tryz.prog G 69 [cI l] (.w (.c (.d (.bool (fp l))))):=by
  refine aI Tryz.func69 Zz rfl rfl ?_;unfold cI;have hst:=kR.start l fun k=>¬ (7<k∧(aJ l k).any (fun r=>r.cr)=true)
  simp only[Oh,af,ae,aa,seval,iteOmega,toNatUp,dD];refine aU Pp (fun t=>t.left.length) (kR l fun k=>¬ (7<k∧(aJ l k).any (fun r=>r.cr)=true)) ⟨db l,none⟩ hst ?_ ?_
  ·refine aj (fun _=>48) ?_ ?_ rfl rfl <;> simp only[wx,ai,am,aa,seval,iteOmega,toNatUp] <;> first | rfl | exact⟨rfl,rfl⟩ | skip
  ·rintro⟨left,last⟩ hI;simp only[I8,Pp,ae,aa,seval,iteOmega,toNatUp];refine N9 (id:=1) (s:=1) (q:=.i64) (left:=left) (last:=last) rfl rfl ?_ ?_
   ·intro he;rw[Zy fun k hk=>hI.done he hk];simp only[ae,aa,seval,iteOmega,toNatUp];exact aL
   ·intro j p hj;obtain⟨e1,e2⟩:=LD (hI.1 p (acq hj));have hnx:=fun h=>hI.next hj h
    have hlt:=I7 hj;generalize left.eraseIdx j=left' at *
    clear hj hI;obtain⟨k,d⟩:=p;dsimp only at *
    obtain rfl:d=D.sl ((aJ l k).map ak):=congrArg Prod.snd e1;clear e1;have c:=aaC G (aJ l k) 110 [] (fun r=>r.cr) (by have:=ac9 (fun r:Ek=>decide (r.ty=k)) l; unfold aJ; omega) fun x _=>aaD G x
    by_cases hk:k>7
    ·have g1:=eq_true hk;cases hc:(aJ l k).any fun r=>r.cr
     ·rw[hc] at c;have hn:=hnx (fun h=>by rw[hc] at h; cases h.2);simp only[ae,aa,seval,iteOmega,toNatUp,dD,g1];refine sD (c) ?_;refine aM (⟨left',some (k,D.sl ((aJ l k).map ak))⟩:Wk) hlt hn (aj (fun _=>1) ?_ ?_ rfl rfl) <;> simp only[wx,ai,am,aa,seval,iteOmega,toNatUp] <;> first | rfl | exact⟨rfl,rfl⟩ | skip
     ·rw[WK hk hc];rw[hc] at c;simp only[ae,aa,seval,iteOmega,toNatUp,dD,g1];refine sD (c) ?_;exact aL
    ·have g1:=eq_false hk;have hn:=hnx (fun h=>hk h.1);simp only[ae,aa,seval,iteOmega,toNatUp,dD,g1];refine aM (⟨left',some (k,D.sl ((aJ l k).map ak))⟩:Wk) hlt hn (aj (fun _=>1) ?_ ?_ rfl rfl) <;> simp only[wx,ai,am,aa,seval,iteOmega,toNatUp] <;> first | rfl | exact⟨rfl,rfl⟩ | skip
theorem LF {l:List Ek} {k:Int} (h:(aJ l k).length=1) {r:Ek} (hr:r∈l) (hk:r.ty=k):(aJ l k).getD 0 default=r:=by
  have hm:r∈aJ l k:=acE.2 ⟨hr,decide_eq_true hk⟩
  match hx:aJ l k,h with
  | [x],_ =>
    rw[hx] at hm;rw[abe.1 hm]; rfl
theorem Cd {l:List Ek} {r:Ek} (hr:r∈l):aJ l r.ty≠[]:=fun e=>by
  have hm:r∈aJ l r.ty:=acE.2 ⟨hr,decide_eq_true rfl⟩;rw[e] at hm; cases hm
theorem LG {l:List Ek} {k:Int} (h:aJ l k≠[]):0<(aJ l k).length:=Nat.pos_of_ne_zero fun e=>h (abM.1 e)
theorem ZA (l:List Ek):j9 l↔(0<l.length∧(l.getD (l.length-1) default).ty=0∧∀ k,aJ l k≠[]→oV k (aJ l k)=true):=by
  constructor
  ·rintro⟨⟨h1,h2,h3,h4,h5,h6,h7⟩,hb⟩;obtain⟨i1,i2⟩:=ln (l:=l) (k:=0) (j:=0) (by omega);have hg:=mS (l:=l) (k:=0) (j:=0) (by omega);rw[h2] at i1 i2;refine⟨by omega,i2,fun k hk=>?_⟩;have hp:=LG hk;have hm:=acE.1 (gg hp);have hty:((aJ l k).getD 0 default).ty=k:=of_decide_eq_true hm.2;have hb1:j8 ((aJ l k).getD 0 default):=hb _ hm.1;unfold oV;split
   ·rename_i e;subst e;rw[← cF,← hg];exact decide_eq_true ⟨h1,h3⟩
   ·split
    ·rename_i e;refine decide_eq_true ⟨?_,hb1.1 (by rw[hty]; exact e)⟩;rw[cF] at h4 h5;rcases e with rfl | rfl <;> omega
    ·split
     ·rename_i e;subst e;rw[cF] at h6;exact decide_eq_true (by omega)
     ·split
      ·rename_i e;subst e;rw[cF] at h7;exact decide_eq_true ⟨by omega,hb1.2 hty⟩
      ·rfl
  ·rintro⟨hl,h0,hf⟩;have hlast:l.getD (l.length-1) default∈l:=gg (by omega);have f0:=hf 0 (h0 ▸ Cd hlast);have f0:(aJ l 0).length=1∧((aJ l 0).getD 0 default).bo.length=0:=of_decide_eq_true f0;have few:∀ k,(k=1∨k=4∨k=6∨k=7)→(aF l k).length≤1:=by
     intro k hk;rw[cF];by_cases he:aJ l k=[]
     ·rw[he]; exact abc _
     ·have:=hf k he;rcases hk with rfl | rfl | rfl | rfl
      ·exact Nat.le_of_eq (of_decide_eq_true this:_∧_).1
      ·exact Nat.le_of_eq (of_decide_eq_true this:_∧_).1
      ·exact Nat.le_of_eq (of_decide_eq_true this:_=1)
      ·exact Nat.le_of_eq (of_decide_eq_true this:_∧_).1
   have n0:(aF l 0).length=1:=by rw[cF]; exact f0.1
   have hidx:(aF l 0).getD 0 0=l.length-1:=by
     have hm:l.length-1∈aF l 0:=acE.2 ⟨acO.2 (by omega),decide_eq_true h0⟩
     match hx:aF l 0,n0 with
     | [x],_ =>
       rw[hx] at hm;rw[abe.1 hm]; rfl
   refine⟨⟨n0,hidx,?_,few 1 (by simp),few 4 (by simp),few 6 (by simp),few 7 (by simp)⟩,fun r hr=>⟨fun hk=>?_,fun hk=>?_⟩⟩
   ·rw[mS (by omega)]; exact f0.2
   ·have h1:=hf r.ty (Cd hr);have h2:(aJ l r.ty).length=1∧((aJ l r.ty).getD 0 default).bo.length%2=0:=by
      rcases hk with hk | hk <;> (rw[hk] at h1 ⊢; exact of_decide_eq_true h1)
    rw[LF h2.1 hr rfl] at h2;exact h2.2
   ·have h1:=hf r.ty (Cd hr);have h2:(aJ l r.ty).length=1∧((aJ l r.ty).getD 0 default).bo.length=2:=by
      rw[hk] at h1 ⊢; exact of_decide_eq_true h1
    rw[LF h2.1 hr rfl] at h2;exact h2.2
theorem Ur {es:List (Int×List Ek)} {g:Nat→Nat} (h:∀ j,j<es.length→g (8*j+3)=8*j+3):(cN es 0).map (fun p=>(p.1,p.2.ren g))=cN es 0:=by
  refine acf fun j=>?_
  rw[abX,rY];cases hj:es[j]? with
  | none=>rfl
  | some p =>
    have:=h j (abt.1 hj).1;simp only[acl,C.ren,ab5,this]
theorem Us (es:List (Int×List Ek)) (p:Int×List Ek):cN (es++[p]) 0=cN es 0++[(p.1,.own (8*es.length+3) 3 0 p.2.length)]:=by
  have key:∀ (es:List (Int×List Ek)) (b:Nat),cN (es++[p]) b=cN es b++[(p.1,.own (8*(b+es.length)+3) 3 0 p.2.length)]:=by
    intro es
    induction es with
    | nil=>intro b; rfl
    | cons q r ih=>intro b; rw[abz,cN,ih,cN,acj,show b+1+r.length=b+(r.length+1) by omega,abz]
  rw[key,ab5]
theorem WL {es:List (Int×List Ek)} {j k:Nat} (hj:j<es.length) (p:Int×List Ek) {g:Nat→Nat} (h:∀ i,i≠j→g (8*i+3)=8*i+3) (hk:g (8*j+3)=k):(cN (es.set j p) 0).map (fun q=>(q.1,q.2.ren g))=(cN es 0).set j (p.1,.own k 3 0 p.2.length):=by
  refine acf fun i=>?_
  rw[abX,rY,acU,acU,LE];by_cases e:j=i
  ·subst e;rw[if_pos rfl,if_pos rfl,if_pos hj,if_pos hj];simp only[acl,C.ren,ab5,hk]
  ·rw[if_neg e,if_neg e,rY];cases hi:es[i]? with
   | none=>rfl
   | some q=>simp only[acl,C.ren,ab5,h i (fun q=>e q.symm)]
def kS (n:Nat):Nat→Nat:=fun i=>if i=8*n+3 then 392 else i
theorem sG (n:Nat):kS n 1=1:=if_neg (by omega)
theorem ou (n:Nat):kS n (8*n+3)=392:=if_pos rfl
theorem l8 {n j:Nat} (h:j≠n):kS n (8*j+3)=8*j+3:=if_neg (by omega)
theorem LH (n j:Nat):kS n 1≠kS n (8*j+3):=by
  rw[sG];by_cases h:j=n
  ·rw[h,ou]; decide
  ·rw[l8 h]; omega
theorem I9 {n i j:Nat} (h:kS n (8*i+3)=kS n (8*j+3)):i=j:=by
  by_cases h1:i=n <;> by_cases h2:j=n
  ·omega
  ·rw[h1,ou,l8 h2] at h; omega
  ·rw[h2,ou,l8 h1] at h; omega
  ·rw[l8 h1,l8 h2] at h; omega
theorem WM {σ:St} {fl:List (Nat×V)} {es:List (Int×List Ek)} {k:Int} {x:Ek} (h1:my σ.f (kS es.length) fl) (hm:σ.h 1=some (.mp .i64 (cN es 0++[(k,.own 392 3 0 1)]))) (hw:σ.h 392=some (.row 3 [ak x]))
    (hr:∀ j,σ.h (8*j+3)=gB es (8*j+3)) (hf:(fl.flatMap fun p=>p.2.ids).all (fun i=>iq i)=true):eP σ ⟨aQ fl,gB (es++[(k,[x])]),iq⟩:=by
  refine A4 (kS es.length) h1 ?_ (fun j p hp=>?_) (LH _) (fun i j _ _=>I9) hf
  ·rw[sG,hm,Us,abk,Ur fun j hj=>l8 (by omega)];simp only[abd,abo,C.ren,ou,ac7]
  ·by_cases h:j=es.length
   ·subst h;rw[abE (abl _),ac5] at hp;cases hp;rw[ou,hw]; rfl
   ·rw[l8 h,hr,wm];rcases abL j es.length with h2 | h2
    ·rw[abO h2] at hp;rw[hp]; rfl
    ·rw[abE h2,abV (by simp; omega)] at hp;cases hp
theorem WN {σ:St} {fl:List (Nat×V)} {es:List (Int×List Ek)} {j0:Nat} {k:Int} {y:List Ek} {x:Ek} (hj:es[j0]?=some (k,y)) (h1:my σ.f (kS j0) fl) (hm:σ.h 1=some (.mp .i64 ((cN es 0).set j0 (k,.own 392 3 0 (y.length+1))))) (hw:σ.h 392=some (.row 3 (y.map ak++[ak x])))
    (hr:∀ j,j≠j0→σ.h (8*j+3)=gB es (8*j+3)) (hf:(fl.flatMap fun p=>p.2.ids).all (fun i=>iq i)=true):eP σ ⟨aQ fl,gB (es.set j0 (k,y++[x])),iq⟩:=by
  have hlt:=(abt.1 hj).1;refine A4 (kS j0) h1 ?_ (fun j p hp=>?_) (LH _) (fun i j _ _=>I9) hf
  ·rw[sG,hm,WL hlt (k,y++[x]) (k:=392) (fun i hi=>l8 hi) (ou _),aba]; rfl
  ·rw[acU] at hp;by_cases h:j0=j
   ·subst h;rw[if_pos rfl,if_pos hlt] at hp;cases hp;rw[ou,hw,abk]; rfl
   ·rw[if_neg h] at hp;rw[l8 fun e=>h e.symm,hr _ fun e=>h e.symm,wm,hp]; rfl
def xo (l:List Ek) (i:Nat):St:=⟨aQ [(4,.w (.c (.d (.sl (l.map ak))))),(6,.w (.c (.mp 1))),(34,.w (.c (.d (.sl (l.map ak))))),(35,.w (.c (.d (.int .i64 (l.length:Int))))),(36,.w (.c (.d (.int .i64 (i:Int)))))],gB (fN l i),iq⟩
def PZ (l:List Ek) (t:Wk):St:=⟨aQ [(6,.w (.c (.d (cI l)))),(52,.w (.c (.ptr 1 1 0 0)))],hL [(1,.it .i64 t.left t.last)],uL [1]⟩
theorem WO (l:List Ek) (i:Nat) (hi:i≤l.length):∀ (j:Nat) (p:Int×List Ek),(fN l i)[j]?=some p→p.2.length≤l.length:=by
  intro j p hp;have hm:=acq hp;have h1:=A3 (zn l i) (show (p.1,p.2)∈fN l i from hm);rw[B4 l i hi] at h1;split at h1
  ·cases h1
  ·rw[← Option.some.inj h1];have:=ac9 (fun r:Ek=>decide (r.ty=p.1)) (l.take i);rw[abg] at this;unfold aJ;omega
def vf:aN := .seq (.reg [oO 37 (.bin .lss (.t 36) (.t 35))]) (.seq (.cond (.t 37) (.skip) (.exit 0)) (.seq (.block 1 (.seq (.reg [oO 38 (.idxSl 3 (.t 34) (.t 36)),oO 39 (.load (.ag 3) (.t 38)),oO 8 (.alloc [(.d (.bool false)),(.d (.int .i64 0)),.nil]),oN (.store (.ag 3) (.t 8) (.t 39))]) (.reg [oM 40 6,oO 41 (.fieldAddr 1 (.t 8)),oO 42 (.loadB .sc (.t 41)),oM 43 6,oO 44 (.fieldAddr 1 (.t 8)),oO 45 (.loadB .sc (.t 44)),oO 46 (.mpGet .i64 (.sl []) false (.t 43) (.t 45)),oO 47 (.loadB (.ag 3) (.t 8)),oO 48 (.bldSl false 1 3 (.agg [(.bool false),(.int .i64 0),(.sl [])]) [(0,(.t 47))]),oO 49 (.app false 3 40 (.t 46) (.t 48)),oN (.mpSet .i64 (.t 40) (.t 42) (.t 49))]))) (.reg [oO 50 (.bin .add (.t 36) (kI 1)),oM 36 50])))
def Ja:aN := .seq (.nextM 53 (.t 52) [oO 54 (.extract (.t 53) 0)]) (.seq (.cond (.t 54) (.skip) (.exit 2)) (.block 3 (.seq (.reg [oO 55 (.mpEnt (.t 52)),oO 56 (.extract (.t 55) 0),oO 57 (.extract (.t 55) 1),oM 9 56,oM 10 57]) (.seq (.reg [oM 58 9,oM 59 10,oO 60 (.call 108 [(.t 58),(.t 59)] none),oO 61 (.un .not (.t 60))]) (.cond (.t 61) (.seq (.reg [oO 2 (.mv (.k (.c (.d (.mp .i64 []))))),oO 3 (.mv (.k (.c (.d (.bool false)))))]) (.ret)) (.skip))))))
def sH:aH:=⟨1,63,.seq (.reg [oO 2 (.mv (.k (.c (.d (.mp .i64 []))))),oO 3 (.mv (.k (.c (.d (.bool false)))))]) (.seq (.reg [oM 12 0,oO 13 (.call 12 [(.t 12)] none),oM 11 13,oO 14 (.extract (.t 11) 0),oO 15 (.extract (.t 11) 1),oM 4 14,oM 5 15]) (.seq (.seq (.reg [oM 16 5,oO 17 (.bin .neq (.t 16) (kI 0)),oM 18 17,oG 19 (.mv (.t 4)) 18 false,oG 20 (.len (.t 19)) 18 false,oG 21 (.bin .eql (.t 20) (kI 0)) 18 false,oO 22 (.pick (.t 18) (.k (.c (.d (.bool true)))) (.t 21)),oM 23 22,oG 24 (.mv (.t 4)) 23 false,oG 25 (.mv (.t 4)) 23 false,oG 26 (.len (.t 25)) 23 false,oG 27 (.bin .sub (.t 26) (kI 1)) 23 false,oG 28 (.idxSl 3 (.t 24) (.t 27)) 23 false,oG 29 (.fieldAddr 1 (.t 28)) 23 false,oG 30 (.load .sc (.t 29)) 23 false,oG 31 (.bin .neq (.t 30) (kI 0)) 23 false,oO 32 (.pick (.t 23) (.k (.c (.d (.bool true)))) (.t 31))])
 (.cond (.t 32) (.seq (.reg [oO 2 (.mv (.k (.c (.d (.mp .i64 []))))),oO 3 (.mv (.k (.c (.d (.bool false)))))]) (.ret)) (.skip))) (.seq (.reg [oO 33 (.mkMp .i64 none),oM 6 33]) (.seq (.seq (.reg [oM 34 4,oO 35 (.len (.t 34)),oO 36 (.mv (kI 0))]) (.block 0 (.loop vf))) (.seq (.seq (.ghost 6 (.reg [oM 51 6,oO 52 (.mpIter (.t 51))])) (.block 2 (.loop Ja))) (.seq (.reg [oM 62 6,oM 2 62,oO 3 (.mv (.k (.c (.d (.bool true)))))]) (.ret))))))),[(2,none),(3,none)]⟩
theorem ZB:aG Tryz.prog { own:=[],comp:=[],frz:=[],nils:=[],bx:=[42,45,47],gh:=[(10,6)] } Tryz.f66=some sH:=by kernel_rfl
theorem C3 (G:ah) (b:List UInt8) (hb:b.length≤1000000000):aw Tryz.prog G 66 [.sl (b.map bD)] (.tup [.c (.d (cI (fc b))),.c (.d (.bool (decide (de b))))]):=by
  refine aI Tryz.func66 ZB rfl rfl ?_;have c:=aaz G b hb;have hno:¬ de b→fc b=[]∧decide (de b)=false:=fun h=>⟨if_neg h,decide_eq_false h⟩
  by_cases he:dM b=0
  ·obtain⟨q1,q2,q3,q4⟩:=OR he;have hyes:j9 (aB b)→fc b=aB b∧decide (de b)=true:=fun h=>⟨if_pos ⟨he,h⟩,decide_eq_true ⟨he,h⟩⟩
   have hno:¬ j9 (aB b)→fc b=[]∧decide (de b)=false:=fun h=>hno fun h2=>h h2.2
   have h64:=(mh q1).2.1;have hbo:∀ r∈aB b,r.bo.length≤65535:=fun r hr=>(kD (q4 r hr)).2.2
   have hfm:=ZA (aB b);rw[he] at c;generalize aB b=l at *
   by_cases h0:0<l.length
   ·have g:=i8 (l:=l) (i:=l.length-1) (by omega);have gl:((l.length:Int)=0)=False:=eq_false (by omega);have gt:((l.length:Int)-1).toNat=l.length-1:=by omega
    by_cases h1:(l.getD (l.length-1) default).ty=0
    ·have gty:=eq_true h1;have az:=mL l;obtain⟨R,hR⟩:∃ R,R=l.getD (l.length-1) default:=⟨_,rfl⟩
     rw[← hR] at g gty;have hfm2:j9 l↔∀ k,aJ l k≠[]→oV k (aJ l k)=true:=⟨fun h=>(hfm.1 h).2.2,fun h=>hfm.2 ⟨h0,h1,h⟩⟩
     clear hfm q1 q2 q3 q4 hR h1;obtain⟨Rc,Rt,Rb⟩:=R;dsimp only at gty;simp only[sH,af,ae,aa,seval,iteOmega,toNatUp];refine sC (c) ?_;simp only[gl,gt,aC,g,ak,gty,dD,ae,aa,seval,iteOmega,toNatUp];refine aU (xo l) (fun i=>l.length-i) (fun i=>i≤l.length) 0 (abc _) ?_ ?_
     ·refine A4 (fun i=>if i=1 then 264 else 0) ?_ ?_ (fun j p hp=>by cases hp) (fun j=>?_) (fun i j hi=>by cases hi) rfl
      ·simp only[wx,ai,am,aa,seval,iteOmega,toNatUp,dD,if_true]
      ·simp only[if_true,ae,aa,seval,iteOmega,toNatUp]; rfl
      ·rw[if_pos rfl,if_neg (by omega)]; decide
     ·intro i hi;have u64:iq 64=false:=B9 8;have u392:iq 392=false:=B9 49;have h1r:=Zp (fN l i);by_cases hlt:i<l.length
      ·have g:=i8 hlt;have hst:fN l (i+1)=cu (fN l i) (l.getD i default).ty ((ba (fN l i) (l.getD i default).ty).getD []++[l.getD i default]):=rfl;have hln:=WO l i hi;generalize l.getD i default=x at *
       obtain⟨es,hes⟩:∃ es,es=fN l i:=⟨_,rfl⟩
       rw[← hes] at hst h1r hln;obtain⟨X,hX⟩:∃ X,X=x:=⟨_,rfl⟩
       rcases Oc es 0 x.ty with ⟨m1,m2⟩ | ⟨j,y,m1,m2,m3,m4⟩
       ·rw[m2] at hst;rw[abY,abF,Ai _ m2,← hX] at hst;have p1:=fun c=>Ai (es:=cN es 0) (k:=x.ty) c m1
        obtain⟨xc,xt,xb⟩:=x;dsimp only at *
        simp only[vf,xo,← hes,ae,aa,seval,iteOmega,toNatUp,aC,g,ak,dD,u64,u392,h1r,m1,p1,a7];refine aM (i+1) (by omega) (by omega) ?_
        show eP _ ⟨aQ _,gB (fN l (i+1)),iq⟩
        rw[hst,hX];refine WM ?_ ?_ ?_ (fun j=>by dsimp only; rw[upd_ne _ _ (by omega),upd_ne _ _ (by omega),upd_ne _ _ (by omega),upd_ne _ _ (by omega)]) rfl
        ·simp only[wx,ai,am,aa,seval,iteOmega,toNatUp,dD,sG] <;> first | rfl | exact⟨rfl,rfl⟩ | skip
        ·simp only[ae,aa,seval,iteOmega,toNatUp]
        ·simp only[ae,aa,seval,iteOmega,toNatUp,ak]
       ·rw[m1] at hst;rw[abQ,(m4 .nil).2,← hX] at hst;rw[ab5] at m3;have p1:=fun c=>(m4 c).1
        have hyl:=hln j _ m2;dsimp only at hyl;have hrow:gB es (8*j+3)=some (.row 3 (y.map ak)):=by rw[wm,m2]; rfl
        have n1:(8*j+3==64)=false:=by rw[beq_eq_false_iff_ne]; omega
        have n2:(1==8*j+3)=false:=by rw[beq_eq_false_iff_ne]; omega
        have az2:=mL y;obtain⟨xc,xt,xb⟩:=x;dsimp only at *
        simp only[vf,xo,← hes,ae,aa,seval,iteOmega,toNatUp,aC,g,ak,dD,u64,u392,h1r,m3,p1,a7,n1,n2,hrow];refine aM (i+1) (by omega) (by omega) ?_
        show eP _ ⟨aQ _,gB (fN l (i+1)),iq⟩
        rw[hst,hX];refine WN m2 ?_ ?_ ?_ (fun i hi=>by dsimp only; rw[upd_ne _ _ (by omega),upd_ne _ _ (by omega),upd_ne _ _ (by omega),upd_ne _ _ (by omega),upd_ne _ _ (by omega)]) rfl
        ·simp only[wx,ai,am,aa,seval,iteOmega,toNatUp,dD,sG] <;> first | rfl | exact⟨rfl,rfl⟩ | skip
        ·simp only[ae,aa,seval,iteOmega,toNatUp]
        ·simp only[ae,aa,seval,iteOmega,toNatUp,ak]
      ·obtain rfl:i=l.length:=by omega
       have u416:iq 416=false:=B9 52;simp only[vf,xo,ae,aa,seval,iteOmega,toNatUp];refine Zo (id:=1) (q:=.i64) (es:=cN (fN l l.length) 0) (ds:=db l) rfl h1r (SC _) ?_;generalize upd (killAll (gB (fN l l.length)) ((cN (fN l l.length) 0).map (·.2))) 1 none=K;simp only[ae,aa,seval,iteOmega,toNatUp,dD,u416];refine aU (PZ l) (fun t=>t.left.length) (kR l fun k=>oV k (aJ l k)=true) ⟨db l,none⟩ (kR.start l _) ?_ ?_
       ·refine aj (fun _=>416) ?_ ?_ rfl rfl <;> simp only[wx,ai,am,aa,seval,iteOmega,toNatUp,cI] <;> first | rfl | exact⟨rfl,rfl⟩ | skip
       ·rintro⟨left,last⟩ hI;simp only[Ja,PZ,cI,ae,aa,seval,iteOmega,toNatUp];refine N9 (id:=1) (s:=1) (q:=.i64) (left:=left) (last:=last) rfl rfl ?_ ?_
        ·intro hle;obtain⟨e1,e2⟩:=hyes (hfm2.2 fun k hk=>hI.done hle hk);rw[e1,e2];simp only[ae,aa,seval,iteOmega,toNatUp];exact aE
        ·intro j p hj;obtain⟨e1,e2⟩:=LD (hI.1 p (acq hj));have hnx:=fun h=>hI.next hj h
         have hle:=I7 hj;generalize left.eraseIdx j=left' at *
         clear hj hI;obtain⟨k,d⟩:=p;dsimp only at *
         obtain rfl:d=D.sl ((aJ l k).map ak):=congrArg Prod.snd e1;clear e1;have hp:=LG e2;have c2:=aaF G k (aJ l k) hp (by have:=ac9 (fun r:Ek=>decide (r.ty=k)) l; unfold aJ; omega) (by have:=hbo _ (acE.1 (gg hp)).1; unfold aJ; omega);cases hc:oV k (aJ l k)
         ·rw[hc] at c2;obtain⟨e1,e3⟩:=hno fun h=>by have:=hfm2.1 h k e2; rw[hc] at this; cases this
          rw[e1,e3,show db []=[] from rfl];simp only[ae,aa,seval,iteOmega,toNatUp,dD];refine sD (c2) ?_;exact aE
         ·rw[hc] at c2;have hn:=hnx hc;simp only[ae,aa,seval,iteOmega,toNatUp,dD];refine sD (c2) ?_;refine aM (⟨left',some (k,D.sl ((aJ l k).map ak))⟩:Wk) hle hn (aj (fun _=>1) ?_ ?_ rfl rfl) <;> simp only[wx,ai,am,aa,seval,iteOmega,toNatUp,cI] <;> first | rfl | exact⟨rfl,rfl⟩ | skip
    ·obtain⟨e1,e2⟩:=hno fun h=>h1 (hfm.1 h).2.1
     rw[e1,e2,rX];have gty:=eq_false h1;generalize l.getD (l.length-1) default=R at *
     obtain⟨Rc,Rt,Rb⟩:=R;dsimp only at gty;simp only[sH,af,ae,aa,seval,iteOmega,toNatUp];refine sC (c) ?_;simp only[gl,gt,aC,g,ak,gty,ae,aa,seval,iteOmega,toNatUp];exact aE
   ·obtain⟨e1,e2⟩:=hno fun h=>h0 (hfm.1 h).1
    rw[e1,e2,rX];have gl:((l.length:Int)=0)=True:=eq_true (by omega);simp only[sH,af,ae,aa,seval,iteOmega,toNatUp];refine sC (c) ?_;simp only[gl,ae,aa,seval,iteOmega,toNatUp];exact aE
  ·obtain⟨e1,e2⟩:=hno fun h=>he h.1
   rw[e1,e2,rX];have g1:(dM b=0)=False:=eq_false he;generalize dM b=e at *
   generalize aB b=l at *
   simp only[sH,af,ae,aa,seval,iteOmega,toNatUp];refine sC (c) ?_;simp only[g1,ae,aa,seval,iteOmega,toNatUp];exact aE
def kJ (l:List Ek) (i:Nat):St:=⟨aQ [(4,.w (.c (.d (.sl (l.map ak))))),(7,.w (.c (.d (.int .i64 (i:Int)))))],hL [],uL []⟩
theorem l9 {b:List UInt8}:(∀ r∈aB b,r.bo.length≤65535)∧(aB b).length≤64:=by
  by_cases h:dM b=0
  ·obtain⟨h1,h2,h3,h4⟩:=OR h;exact⟨fun r hr=>(kD (h4 r hr)).2.2,(mh h1).2.1⟩
  ·rw[show aB b=[] from if_neg h];exact⟨fun r hr=>(by cases hr),abc _⟩
theorem Oi {b:List UInt8} (h:¬ de b):fc b=[]∧decide (de b)=false:=⟨if_neg h,decide_eq_false h⟩
def kn:aN := .seq (.seq (.reg [oM 64 7,oM 65 4,oO 66 (.len (.t 65)),oO 67 (.bin .lss (.t 64) (.t 66))]) (.cond (.t 67) (.skip) (.exit 0))) (.seq (.block 1 (.seq (.reg [oM 70 4,oM 71 7,oO 72 (.idxSl 3 (.t 70) (.t 71)),oO 73 (.fieldAddr 1 (.t 72)),oO 74 (.load .sc (.t 73)),oO 75 (.bin .eql (.t 74) (kI 1)),oM 76 75,oG 77 (.mv (.t 4)) 76 false,oG 78 (.mv (.t 7)) 76 false,oG 79 (.idxSl 3 (.t 77) (.t 78)) 76 false,oG 80 (.fieldAddr 1 (.t 79)) 76 false,oG 81 (.load .sc (.t 80)) 76 false,oG 82 (.bin .eql (.t 81) (kI 4)) 76 false,oO 83 (.pick (.t 76) (.k (.c (.d (.bool true)))) (.t 82)),oM 84 83,oG 85 (.mv (.t 4)) 84 true,oG 86 (.mv (.t 7)) 84 true,oG 87 (.idxSl 3 (.t 85) (.t 86)) 84 true,oG 88 (.fieldAddr 2 (.t 87)) 84 true,oG 89 (.load .sc (.t 88)) 84 true,oG 90 (.len (.t 89)) 84 true,oG 91 (.bin .rem (.t 90) (kI 2)) 84 true,
 oG 92 (.bin .neq (.t 91) (kI 0)) 84 true,oO 93 (.pick (.t 84) (.t 92) (.k (.c (.d (.bool false))))),oM 94 93,oG 95 (.mv (.t 4)) 94 false,oG 96 (.mv (.t 7)) 94 false,oG 97 (.idxSl 3 (.t 95) (.t 96)) 94 false,oG 98 (.fieldAddr 1 (.t 97)) 94 false,oG 99 (.load .sc (.t 98)) 94 false,oG 100 (.bin .eql (.t 99) (kI 7)) 94 false,oG 101 (.mv (.t 100)) 94 false,oG 102 (.mv (.t 4)) 101 true,oG 103 (.mv (.t 7)) 101 true,oG 104 (.idxSl 3 (.t 102) (.t 103)) 101 true,oG 105 (.fieldAddr 2 (.t 104)) 101 true,oG 106 (.load .sc (.t 105)) 101 true,oG 107 (.len (.t 106)) 101 true,oG 108 (.bin .neq (.t 107) (kI 2)) 101 true,oG 109 (.pick (.t 101) (.t 108) (.k (.c (.d (.bool false))))) 94 false,oO 110 (.pick (.t 94) (.k (.c (.d (.bool true)))) (.t 109))]) (.cond (.t 110) (.seq (.reg [oO 2 (.mv (.k (.c .nil))),oO 3 (.mv (.k (.c (.d (.bool false)))))])
 (.ret)) (.skip)))) (.reg [oM 68 7,oO 69 (.bin .add (.t 68) (kI 1)),oM 7 69]))
def lr:aH:=⟨1,112,.seq (.reg [oO 2 (.mv (.k (.c .nil))),oO 3 (.mv (.k (.c (.d (.bool false)))))]) (.seq (.reg [oM 9 0,oO 10 (.call 13 [(.t 9)] none),oM 8 10,oO 11 (.extract (.t 8) 0),oO 12 (.extract (.t 8) 1),oM 4 11,oM 5 12]) (.seq (.seq (.reg [oM 13 5,oO 14 (.bin .neq (.t 13) (kI 0))]) (.cond (.t 14) (.seq (.reg [oO 2 (.mv (.k (.c .nil))),oO 3 (.mv (.k (.c (.d (.bool false)))))]) (.ret)) (.skip))) (.seq (.reg [oM 15 4,oO 16 (.call 75 [(.t 15),(kI 0)] none),oM 6 16]) (.seq (.seq (.reg [oM 17 6,oO 18 (.len (.t 17)),oO 19 (.bin .neq (.t 18) (kI 1)),oM 20 19,oG 21 (.mv (.t 6)) 20 false,oG 22 (.idxSl 1 (.t 21) (kI 0)) 20 false,oG 23 (.load .sc (.t 22)) 20 false,oG 24 (.mv (.t 4)) 20 false,oG 25 (.len (.t 24)) 20 false,oG 26 (.bin .sub (.t 25) (kI 1)) 20 false,oG 27 (.bin .neq (.t 23) (.t 26)) 20 false,
 oO 28 (.pick (.t 20) (.k (.c (.d (.bool true)))) (.t 27)),oM 29 28,oG 30 (.mv (.t 4)) 29 false,oG 31 (.mv (.t 6)) 29 false,oG 32 (.idxSl 1 (.t 31) (kI 0)) 29 false,oG 33 (.load .sc (.t 32)) 29 false,oG 34 (.idxSl 3 (.t 30) (.t 33)) 29 false,oG 35 (.fieldAddr 2 (.t 34)) 29 false,oG 36 (.load .sc (.t 35)) 29 false,oG 37 (.len (.t 36)) 29 false,oG 38 (.bin .gtr (.t 37) (kI 0)) 29 false,oO 39 (.pick (.t 29) (.k (.c (.d (.bool true)))) (.t 38)),oM 40 39,oG 41 (.mv (.t 4)) 40 false,oG 42 (.call 75 [(.t 41),(kI 1)] none) 40 false,oG 43 (.len (.t 42)) 40 false,oG 44 (.bin .gtr (.t 43) (kI 1)) 40 false,oO 45 (.pick (.t 40) (.k (.c (.d (.bool true)))) (.t 44)),oM 46 45,oG 47 (.mv (.t 4)) 46 false,oG 48 (.call 75 [(.t 47),(kI 4)] none) 46 false,oG 49 (.len (.t 48)) 46 false,oG 50 (.bin .gtr (.t 49) (kI 1)) 46 false,
 oO 51 (.pick (.t 46) (.k (.c (.d (.bool true)))) (.t 50)),oM 52 51,oG 53 (.mv (.t 4)) 52 false,oG 54 (.call 75 [(.t 53),(kI 6)] none) 52 false,oG 55 (.len (.t 54)) 52 false,oG 56 (.bin .gtr (.t 55) (kI 1)) 52 false,oO 57 (.pick (.t 52) (.k (.c (.d (.bool true)))) (.t 56)),oM 58 57,oG 59 (.mv (.t 4)) 58 false,oG 60 (.call 75 [(.t 59),(kI 7)] none) 58 false,oG 61 (.len (.t 60)) 58 false,oG 62 (.bin .gtr (.t 61) (kI 1)) 58 false,oO 63 (.pick (.t 58) (.k (.c (.d (.bool true)))) (.t 62))]) (.cond (.t 63) (.seq (.reg [oO 2 (.mv (.k (.c .nil))),oO 3 (.mv (.k (.c (.d (.bool false)))))]) (.ret)) (.skip))) (.seq (.seq (.reg [oO 7 (.mv (kI 0))]) (.block 0 (.loop kn))) (.seq (.reg [oM 111 4,oM 2 111,oO 3 (.mv (.k (.c (.d (.bool true)))))]) (.ret))))))),[(2,none),(3,none)]⟩
theorem ZC:aG Tryz.prog { own:=[],comp:=[],frz:=[],nils:=[] } Tryz.f74=some lr:=by kernel_rfl
set_option maxHeartbeats 3200000 in
theorem C4 (G:ah) (b:List UInt8) (hb:b.length≤9000000000000000000):aw Tryz.prog G 74 [.sl (b.map bD)] (.tup [.c (.d (.sl ((fc b).map ak))),.c (.d (.bool (decide (de b))))]):=by
  refine aI Tryz.func74 ZC rfl rfl ?_;have c0:=aap G b hb;obtain⟨hbo,hl⟩:=l9 (b:=b);by_cases hE:dM b=0
  ·have hF:de b↔j9 (aB b):=⟨fun q=>q.2,fun q=>⟨hE,q⟩⟩
   have hno:¬ j9 (aB b)→fc b=[]∧decide (de b)=false:=fun q=>Oi fun r=>q (hF.1 r)
   have hyes:j9 (aB b)→fc b=aB b∧decide (de b)=true:=fun q=>⟨if_pos (hF.2 q),decide_eq_true (hF.2 q)⟩
   rw[hE] at c0;clear hF;generalize aB b=L at *
   generalize fc b=R at *
   generalize decide (de b)=q at *
   have e0:=iH G L 0 (by omega);have e1:=iH G L 1 (by omega);have e4:=iH G L 4 (by omega);have e6:=iH G L 6 (by omega);have e7:=iH G L 7 (by omega);by_cases h1:(aF L 0).length=1
   ·have g1:(((aF L 0).length:Int)=1)=True:=eq_true (by omega);obtain⟨i1,i2⟩:=ln (l:=L) (k:=0) (j:=0) (by omega);have f1:=nL (l:=aF L 0) (i:=0) (by omega);have f2:=lD i1;by_cases h2:(aF L 0).getD 0 0=L.length-1
    ·have g2:((((aF L 0).getD 0 0:Nat):Int)=(L.length:Int)-1)=True:=eq_true (by omega);by_cases h3:(L.getD ((aF L 0).getD 0 0) default).bo.length=0
     ·have g3:(((L.getD ((aF L 0).getD 0 0) default).bo.length:Int)>0)=False:=eq_false (by omega);by_cases h4:(aF L 1).length≤1
      ·have g4:(((aF L 1).length:Int)>1)=False:=eq_false (by omega);by_cases h5:(aF L 4).length≤1
       ·have g5:(((aF L 4).length:Int)>1)=False:=eq_false (by omega);by_cases h6:(aF L 6).length≤1
        ·have g6:(((aF L 6).length:Int)>1)=False:=eq_false (by omega);by_cases h7:(aF L 7).length≤1
         ·have g7:(((aF L 7).length:Int)>1)=False:=eq_false (by omega);have hH:xP L:=⟨h1,h2,h3,h4,h5,h6,h7⟩
          have hno2:¬ (∀ r∈L,j8 r)→R=[]∧q=false:=fun x=>hno fun y=>x y.2
          have hyes2:(∀ r∈L,j8 r)→R=L∧q=true:=fun x=>hyes ⟨hH,x⟩
          clear hno hyes;generalize L.getD ((aF L 0).getD 0 0) default=r0 at *
          generalize (aF L 0).getD 0 0=j0 at *
          simp only[lr,af,ae,aa,seval,iteOmega,toNatUp];refine sD (c0) ?_;refine sC (e0) ?_;simp only[g1,f1,bT,g2,f2,ak,g3,ae,aa,seval,iteOmega,toNatUp];refine sC (e1) ?_;simp only[g4,ae,aa,seval,iteOmega,toNatUp];refine sC (e4) ?_;simp only[g5,ae,aa,seval,iteOmega,toNatUp];refine sC (e6) ?_;simp only[g6,ae,aa,seval,iteOmega,toNatUp];refine sC (e7) ?_;simp only[g7,ae,aa,seval,iteOmega,toNatUp];clear c0 e0 e1 e4 e6 e7 g1 g2 g3 g4 g5 g6 g7 f1 f2;refine aU (kJ L) (fun i=>L.length-i) (fun i=>i≤L.length∧∀ r∈L.take i,j8 r) 0 ⟨abc _,by rw[abS]; exact fun r hr=>by cases hr⟩ ?_ ?_
          ·refine aj (fun _=>0) ?_ ?_ rfl rfl <;> simp only[wx,ai,am,aa,seval,iteOmega,toNatUp] <;> first | rfl | exact⟨rfl,rfl⟩ | skip
          ·rintro i ⟨hi,hp⟩;by_cases hlt:i<L.length
           ·have g:=i8 hlt;have hm:=gg hlt;have hs:=mJ hlt;have hn:j8 (L.getD i default)→∀ r∈L.take (i+1),j8 r:=fun x r hr=>by
              rw[hs] at hr;rcases abn.1 hr with hr | hr
              ·exact hp r hr
              ·rw[abe.1 hr]; exact x
            have hx:¬ j8 (L.getD i default)→R=[]∧q=false:=fun x=>hno2 fun y=>x (y _ hm)
            generalize L.getD i default=r at *
            obtain⟨cr,ty,bo⟩:=r;have t2:=CS bo.length;by_cases ev:bo.length%2=0
            ·have gv:(((bo.length%2:Nat):Int)=0)=True:=eq_true (by omega);by_cases y1:ty=1
             ·have q1:=eq_true y1;have q7:=eq_false (show ¬ ty=7 by omega);have hn:=hn ⟨fun _=>ev,fun w=>absurd (show ty=7 from w) (by omega)⟩;clear hx hno2 hyes2;simp only[kn,kJ,ae,aa,seval,iteOmega,toNatUp,aC,g,ak,t2,gv,q1,q7];refine aM (i+1) (by omega) ⟨by omega,hn⟩ (aj (fun i=>i) ?_ ?_ rfl rfl) <;> simp only[wx,ai,am,aa,seval,iteOmega,toNatUp] <;> first | rfl | exact⟨rfl,rfl⟩ | skip
             ·have q1:=eq_false y1;by_cases y4:ty=4
              ·have q4:=eq_true y4;have q7:=eq_false (show ¬ ty=7 by omega);have hn:=hn ⟨fun _=>ev,fun w=>absurd (show ty=7 from w) (by omega)⟩;clear hx hno2 hyes2;simp only[kn,kJ,ae,aa,seval,iteOmega,toNatUp,aC,g,ak,t2,gv,q1,q4,q7];refine aM (i+1) (by omega) ⟨by omega,hn⟩ (aj (fun i=>i) ?_ ?_ rfl rfl) <;> simp only[wx,ai,am,aa,seval,iteOmega,toNatUp] <;> first | rfl | exact⟨rfl,rfl⟩ | skip
              ·have q4:=eq_false y4;by_cases y7:ty=7
               ·have q7:=eq_true y7;by_cases y2:bo.length=2
                ·have q2:((bo.length:Int)=2)=True:=eq_true (by omega);have hn:=hn ⟨fun _=>ev,fun _=>y2⟩;clear hx hno2 hyes2;simp only[kn,kJ,ae,aa,seval,iteOmega,toNatUp,aC,g,ak,t2,gv,q1,q4,q7,q2];refine aM (i+1) (by omega) ⟨by omega,hn⟩ (aj (fun i=>i) ?_ ?_ rfl rfl) <;> simp only[wx,ai,am,aa,seval,iteOmega,toNatUp] <;> first | rfl | exact⟨rfl,rfl⟩ | skip
                ·have q2:((bo.length:Int)=2)=False:=eq_false (by omega);obtain⟨rfl,rfl⟩:=hx fun w=>y2 (w.2 y7)
                 clear hn hno2 hyes2;simp only[kn,kJ,ae,aa,seval,iteOmega,toNatUp,aC,g,ak,t2,gv,q1,q4,q7,q2];exact aE
               ·have q7:=eq_false y7;have hn:=hn ⟨fun _=>ev,fun w=>absurd w y7⟩;clear hx hno2 hyes2;simp only[kn,kJ,ae,aa,seval,iteOmega,toNatUp,aC,g,ak,t2,gv,q1,q4,q7];refine aM (i+1) (by omega) ⟨by omega,hn⟩ (aj (fun i=>i) ?_ ?_ rfl rfl) <;> simp only[wx,ai,am,aa,seval,iteOmega,toNatUp] <;> first | rfl | exact⟨rfl,rfl⟩ | skip
            ·have gv:(((bo.length%2:Nat):Int)=0)=False:=eq_false (by omega);by_cases y1:ty=1
             ·have q1:=eq_true y1;obtain⟨rfl,rfl⟩:=hx fun w=>ev (w.1 (.inl y1))
              clear hn hno2 hyes2;simp only[kn,kJ,ae,aa,seval,iteOmega,toNatUp,aC,g,ak,t2,gv,q1];exact aE
             ·have q1:=eq_false y1;by_cases y4:ty=4
              ·have q4:=eq_true y4;obtain⟨rfl,rfl⟩:=hx fun w=>ev (w.1 (.inr y4))
               clear hn hno2 hyes2;simp only[kn,kJ,ae,aa,seval,iteOmega,toNatUp,aC,g,ak,t2,gv,q1,q4];exact aE
              ·have q4:=eq_false y4;by_cases y7:ty=7
               ·have q7:=eq_true y7;have q2:((bo.length:Int)=2)=False:=eq_false (by omega);obtain⟨rfl,rfl⟩:=hx fun w=>by have:=w.2 y7; dsimp only at this; omega
                clear hn hno2 hyes2;simp only[kn,kJ,ae,aa,seval,iteOmega,toNatUp,aC,g,ak,t2,gv,q1,q4,q7,q2];exact aE
               ·have q7:=eq_false y7;have hn:=hn ⟨fun w=>w.elim (fun w=>absurd w y1) (fun w=>absurd w y4),fun w=>absurd w y7⟩;clear hx hno2 hyes2;simp only[kn,kJ,ae,aa,seval,iteOmega,toNatUp,aC,g,ak,t2,gv,q1,q4,q7];refine aM (i+1) (by omega) ⟨by omega,hn⟩ (aj (fun i=>i) ?_ ?_ rfl rfl) <;> simp only[wx,ai,am,aa,seval,iteOmega,toNatUp] <;> first | rfl | exact⟨rfl,rfl⟩ | skip
           ·rw[aa9 (by omega)] at hp;obtain⟨rfl,rfl⟩:=hyes2 hp;simp only[kn,kJ,ae,aa,seval,iteOmega,toNatUp];exact aE
         ·have g7:(((aF L 7).length:Int)>1)=True:=eq_true (by omega);obtain⟨rfl,rfl⟩:=hno fun w=>h7 w.1.2.2.2.2.2.2
          simp only[lr,af,ae,aa,seval,iteOmega,toNatUp];refine sD (c0) ?_;refine sC (e0) ?_;simp only[g1,f1,bT,g2,f2,ak,g3,ae,aa,seval,iteOmega,toNatUp];refine sC (e1) ?_;simp only[g4,ae,aa,seval,iteOmega,toNatUp];refine sC (e4) ?_;simp only[g5,ae,aa,seval,iteOmega,toNatUp];refine sC (e6) ?_;simp only[g6,ae,aa,seval,iteOmega,toNatUp];refine sC (e7) ?_;simp only[g7,ae,aa,seval,iteOmega,toNatUp];exact aE
        ·have g6:(((aF L 6).length:Int)>1)=True:=eq_true (by omega);obtain⟨rfl,rfl⟩:=hno fun w=>h6 w.1.2.2.2.2.2.1
         simp only[lr,af,ae,aa,seval,iteOmega,toNatUp];refine sD (c0) ?_;refine sC (e0) ?_;simp only[g1,f1,bT,g2,f2,ak,g3,ae,aa,seval,iteOmega,toNatUp];refine sC (e1) ?_;simp only[g4,ae,aa,seval,iteOmega,toNatUp];refine sC (e4) ?_;simp only[g5,ae,aa,seval,iteOmega,toNatUp];refine sC (e6) ?_;simp only[g6,ae,aa,seval,iteOmega,toNatUp];exact aE
       ·have g5:(((aF L 4).length:Int)>1)=True:=eq_true (by omega);obtain⟨rfl,rfl⟩:=hno fun w=>h5 w.1.2.2.2.2.1
        simp only[lr,af,ae,aa,seval,iteOmega,toNatUp];refine sD (c0) ?_;refine sC (e0) ?_;simp only[g1,f1,bT,g2,f2,ak,g3,ae,aa,seval,iteOmega,toNatUp];refine sC (e1) ?_;simp only[g4,ae,aa,seval,iteOmega,toNatUp];refine sC (e4) ?_;simp only[g5,ae,aa,seval,iteOmega,toNatUp];exact aE
      ·have g4:(((aF L 1).length:Int)>1)=True:=eq_true (by omega);obtain⟨rfl,rfl⟩:=hno fun w=>h4 w.1.2.2.2.1
       simp only[lr,af,ae,aa,seval,iteOmega,toNatUp];refine sD (c0) ?_;refine sC (e0) ?_;simp only[g1,f1,bT,g2,f2,ak,g3,ae,aa,seval,iteOmega,toNatUp];refine sC (e1) ?_;simp only[g4,ae,aa,seval,iteOmega,toNatUp];exact aE
     ·have g3:(((L.getD ((aF L 0).getD 0 0) default).bo.length:Int)>0)=True:=eq_true (by omega);obtain⟨rfl,rfl⟩:=hno fun w=>h3 w.1.2.2.1
      simp only[lr,af,ae,aa,seval,iteOmega,toNatUp];refine sD (c0) ?_;refine sC (e0) ?_;simp only[g1,f1,bT,g2,f2,ak,g3,ae,aa,seval,iteOmega,toNatUp];exact aE
    ·have g2:((((aF L 0).getD 0 0:Nat):Int)=(L.length:Int)-1)=False:=eq_false (by omega);obtain⟨rfl,rfl⟩:=hno fun w=>h2 w.1.2.1
     simp only[lr,af,ae,aa,seval,iteOmega,toNatUp];refine sD (c0) ?_;refine sC (e0) ?_;simp only[g1,f1,bT,g2,ae,aa,seval,iteOmega,toNatUp];exact aE
   ·have g1:(((aF L 0).length:Int)=1)=False:=eq_false (by omega);obtain⟨rfl,rfl⟩:=hno fun w=>h1 w.1.1
    simp only[lr,af,ae,aa,seval,iteOmega,toNatUp];refine sD (c0) ?_;refine sC (e0) ?_;simp only[g1,ae,aa,seval,iteOmega,toNatUp];exact aE
  ·have g0:=eq_false hE;obtain⟨q1,q2⟩:=Oi (b:=b) fun w=>hE w.1
   rw[q1,q2];simp only[lr,af,ae,aa,seval,iteOmega,toNatUp];refine sC (c0) ?_;simp only[g0,ae,aa,seval,iteOmega,toNatUp];exact aE
def fh (p:d9) (r:List Fd) (c:Ch) (L:List Ek) (ns:List (List UInt8)) (q:Bool) (i:Nat):St:=⟨aQ [(4,.w (.c (.d (.sl (ns.map fun l=>D.sl (l.map bD)))))),(5,.w (.c (.rp [.sl (p.pr.map zD),.sl (p.al.map zD),.str p.ho,.int .i64 p.pt]))),(6,.w (.c (.rp [.sl (r.map bV)]))),(7,.w (.c (.rp [.bool c.cl,.sl (c.se.map bD),.sl (c.sk.map bD),.sl (c.rk.map bD),.int .i64 c.n,.int .i64 c.m]))),(12,.w (.c (.d (.sl (L.map ak))))),(14,.w (.c (.d (.bool (q || (ns.take i).any fun n=>decide (n.length≠16)))))),(15,.w (.c (.d (.int .i64 (i:Int)))))],hL [],uL []⟩
def eM (r:List Fd) (c:Ch) (v a:Int) (ns:List (List UInt8)) (i:Nat):List Ek:=⟨true,1,aT [v]⟩::⟨true,4,aT [a]⟩::gP r c v a (ns.take i)
def qk (p:d9) (r:List Fd) (c:Ch) (v a:Int) (ns:List (List UInt8)) (i:Nat):St:=⟨aQ [(4,.w (.c (.d (.sl (ns.map fun l=>D.sl (l.map bD)))))),(5,.w (.c (.rp [.sl (p.pr.map zD),.sl (p.al.map zD),.str p.ho,.int .i64 p.pt]))),(6,.w (.c (.rp [.sl (r.map bV)]))),(20,.w (.c (.own 1 3 0 (eM r c v a ns i).length))),(22,.w (.c (.d (.int .i64 a)))),(24,.w (.c (.ptr 2 1 0 0))),(26,.w (.c (.d (.int .i64 (i:Int)))))],
  hL [(1,.row 3 ((eM r c v a ns i).map ak)),(2,.box [.d (.sl ((bg c v a 0).map bD)),.d (.sl ((bg c v a 1).map bD))])],uL [1,2]⟩
theorem lU {l:List (List UInt8)} {i:Nat} (h:i<l.length):l[i]?=some (l.getD i []):=by
  rw[abb,aa7 h]; rfl
theorem nO {l:List (List UInt8)} {i:Nat} (h:i<l.length):l.take (i+1)=l.take i++[l.getD i []]:=by
  rw[aco,lU h]; rfl
theorem Jb {r:List Fd} {c:Ch} {v a:Int} {ns:List (List UInt8)} {i:Nat} (h:i<ns.length):eM r c v a ns (i+1)=eM r c v a ns i++[⟨false,5,mF r a (bg c v a 0) (bg c v a 1) (ns.getD i [])⟩]:=by
  unfold eM gP;rw[nO h,abk]; rfl
theorem rZ (r:List Fd) (c:Ch) (v a:Int) (ns:List (List UInt8)) (i:Nat):(eM r c v a ns i).length≤ns.length+2:=by
  unfold eM gP;simp only[acj,abh,abg]; omega
theorem C5 {ns:List (List UInt8)} {ho:ByteArray} (h:ns.length=0∨8<ns.length∨255<ho.size):¬ ka ns ho:=fun q=>by
  obtain⟨q1,q2,q3,_⟩:=q;omega
theorem xp (x:ByteArray):x.toList=x.data.toList:=by
  have:=toList_mk x.data.toList
  rwa [acz] at this
theorem oh {x:ByteArray} (h:x.size=0):fA .neq x ⟨#[]⟩=some (.bool false):=by
  show some (D.bool (!(x.toList==(⟨#[]⟩:ByteArray).toList)))=_
  rw[xp,xp,abM.1 (show x.data.toList.length=0 from h)];rfl
theorem om {x:ByteArray} (h:¬ x.size=0):fA .neq x ⟨#[]⟩=some (.bool true):=by
  show some (D.bool (!(x.toList==(⟨#[]⟩:ByteArray).toList)))=_
  rw[xp,xp,beq_eq_false_iff_ne.2 (fun q:x.data.toList=[]=>h (show x.data.toList.length=0 by rw[q]; rfl))];rfl
theorem xV (l:List Ek) (a:D):(l.map ak++[a]).take (l.length+1)=l.map ak++[a]:=aa9 (by simp)
theorem xW (l:List Ek) (a b:D):(l.map ak++[a,b]).take (l.length+1+1)=l.map ak++[a,b]:=aa9 (by simp)
theorem xX (l:List Ek) (a b c:D):(l.map ak++[a,b,c]).take (l.length+1+1+1)=l.map ak++[a,b,c]:=aa9 (by simp)
theorem ma (b:List UInt8):(dP b).length≤b.length:=by
  unfold dP;split
  ·rw[Wq]; omega
  ·exact abc _
theorem vG (p:d9):(cd p).length≤3:=by
  unfold cd;simp only[aba];split <;> split <;> simp
theorem Ce {p:d9} (h:p.ho.size≤255):∀ e∈cd p,0≤e.ty∧e.ty≤7∧e.bo.length≤255:=by
  intro e he;unfold cd at he;rcases abn.1 he with he | he
  ·split at he
   ·cases he
   ·rw[abe.1 he]; exact fg (by decide) h
  ·rcases abn.1 he with he | he
   ·split at he
    ·cases he
    ·rw[abe.1 he]; exact fg (by decide) (by rw[eU]; exact (show 2*1≤255 by decide))
   ·rw[abe.1 he]; exact fg (by decide) (by decide)
theorem Pr {p:d9} {l:List Ek} (h:p.ho.size≤255) (ok:∀ e∈l,0≤e.ty∧e.ty≤7∧e.bo.length≤255) (hl:l.length≤10):cW (l++cd p)=0∧ix (l++cd p)=bc (l++cd p) :=
  s6 (fun e he=>(abn.1 he).elim (ok e) (Ce h e)) (by have:=vG p; rw[aba]; omega)
theorem oD {c:Ch} {v a:Int} (h:dt c) (hv:0≤v∧v≤65535) (ha:0≤a∧a≤65535):fD c v a=0:=by
  have hs:bA [v,a]:=fun n hn=>by
    rcases abr.1 hn with rfl | hn
    ·exact hv
    ·rw[abe.1 hn]; exact ha
  unfold fD;rw[if_neg (not_not_intro h),if_neg (not_not_intro hs)]
theorem C6 {r:List Fd} {a:Int} {U W n:List UInt8} (vR:dj r) (ha:0≤a∧a≤65535) (hU:U.length=32) (hW:W.length=32) (h:n.length=16):mF r a U W n=dO (r.getD 0 default) a U W n∧(dO (r.getD 0 default) a U W n).length=104:=by
  have h0:0<r.length:=vR.1;obtain⟨q1,q2,q3⟩:=vR.2.2.1 _ (IV h0);have e:gC r a U W n=0:=by
    unfold gC;rw[if_pos vR,if_neg (by omega),if_neg (by omega),if_neg (by omega)]
  exact⟨if_pos e,(Uk q3 q1 q2 ha.1 ha.2 hU hW h).1⟩
theorem Cf {r:List Fd} {c:Ch} {v a:Int} {ns:List (List UInt8)} (vR:dj r) (hk:fD c v a=0) (ha:0≤a∧a≤65535) (h16:∀ n∈ns,n.length=16):∀ e∈eM r c v a ns ns.length,0≤e.ty∧e.ty≤7∧e.bo.length≤255:=by
  intro e he;unfold eM at he;rcases abr.1 he with rfl | he
  ·exact fg (by decide) (by rw[eU]; exact (show 2*1≤255 by decide))
  ·rcases abr.1 he with rfl | he
   ·exact fg (by decide) (by rw[eU]; exact (show 2*1≤255 by decide))
   ·rw[abv] at he;obtain⟨n,hn,rfl⟩:=abB.1 he;obtain⟨q1,q2⟩:=C6 (U:=bg c v a 0) (W:=bg c v a 1) vR ha (pE hk) (pE hk) (h16 n hn);refine fg (by decide) ?_;rw[q1,q2]; decide
def fP:aN := .seq (.seq (.reg [oM 105 15,oM 106 4,oO 107 (.len (.t 106)),oO 108 (.bin .lss (.t 105) (.t 107))]) (.cond (.t 108) (.skip) (.exit 0))) (.seq (.block 1 (.reg [oM 111 14,oM 112 111,oG 113 (.mv (.t 4)) 112 false,oG 114 (.mv (.t 15)) 112 false,oG 115 (.idxSl 1 (.t 113) (.t 114)) 112 false,oG 116 (.load .sc (.t 115)) 112 false,oG 117 (.len (.t 116)) 112 false,oG 118 (.bin .neq (.t 117) (kI 16)) 112 false,oO 119 (.pick (.t 112) (.k (.c (.d (.bool true)))) (.t 118)),oM 14 119])) (.reg [oM 109 15,oO 110 (.bin .add (.t 109) (kI 1)),oM 15 110]))
def px:aN := .seq (.seq (.reg [oM 193 26,oM 194 4,oO 195 (.len (.t 194)),oO 196 (.bin .lss (.t 193) (.t 195))]) (.cond (.t 196) (.skip) (.exit 2))) (.seq (.block 3 (.seq (.reg [oO 200 (.load (.ag 1) (.t 6)),oM 201 22,oO 202 (.load (.ag 2) (.t 24)),oM 203 4,oM 204 26,oO 205 (.idxSl 1 (.t 203) (.t 204)),oO 206 (.load .sc (.t 205)),oO 207 (.call 78 [(.t 200),(.t 201),(.t 202),(.t 206)] none),oM 199 207,oO 208 (.extract (.t 199) 0),oO 209 (.extract (.t 199) 1),oM 27 208,oM 28 209]) (.reg [oM 210 20,oM 211 27,oO 212 (.build [(.d (.bool false)),(.d (.int .i64 0)),.nil] [(1,1,(kI 5)),(2,1,(.t 211))]),oO 213 (.bldSl false 1 3 (.agg [(.bool false),(.int .i64 0),(.sl [])]) [(0,(.t 212))]),oO 214 (.app false 3 40 (.t 210) (.t 213)),oM 20 214]))) (.reg [oM 197 26,oO 198 (.bin .add (.t 197) (kI 1)),
 oM 26 198]))
def iF:aH:=⟨5,243,.seq (.reg [oO 5 (.box .roBox (.t 0)),oO 6 (.box .roBox (.t 1)),oO 7 (.box .roBox (.t 2)),oO 10 (.mv (.k (.c .nil))),oO 11 (.mv (kI 0))]) (.seq (.seq (.reg [oO 29 (.load (.ag 6) (.t 7)),oO 30 (.call 41 [(.t 29)] none),oO 31 (.un .not (.t 30)),oM 32 31,oG 33 (.load (.ag 1) (.t 6)) 32 false,oG 34 (.call 73 [(.t 33)] none) 32 false,oG 35 (.un .not (.t 34)) 32 false,oO 36 (.pick (.t 32) (.k (.c (.d (.bool true)))) (.t 35))]) (.cond (.t 36) (.seq (.reg [oO 10 (.mv (.k (.c .nil))),oO 11 (.mv (kI 3))]) (.ret)) (.skip))) (.seq (.seq (.reg [oO 37 (.fieldAddr 0 (.t 5)),oO 38 (.load .sc (.t 37)),oO 39 (.call 54 [(.t 38)] none),oO 40 (.un .not (.t 39)),oM 41 40,oG 42 (.fieldAddr 1 (.t 5)) 41 false,oG 43 (.load .sc (.t 42)) 41 false,oG 44 (.call 54 [(.t 43)] none) 41 false,oG 45 (.un .not (.t 44)) 41 false,
 oO 46 (.pick (.t 41) (.k (.c (.d (.bool true)))) (.t 45)),oM 47 46,oG 48 (.fieldAddr 3 (.t 5)) 47 false,oG 49 (.load .sc (.t 48)) 47 false,oG 50 (.bldSl false 1 1 (.int .i64 0) [(0,(.t 49))]) 47 false,oG 51 (.call 54 [(.t 50)] none) 47 false,oG 52 (.un .not (.t 51)) 47 false,oO 53 (.pick (.t 47) (.k (.c (.d (.bool true)))) (.t 52))]) (.cond (.t 53) (.seq (.reg [oO 10 (.mv (.k (.c .nil))),oO 11 (.mv (kI 4))]) (.ret)) (.skip))) (.seq (.reg [oM 55 3,oO 56 (.call 74 [(.t 55)] none),oM 54 56,oO 57 (.extract (.t 54) 0),oO 58 (.extract (.t 54) 1),oM 12 57,oM 13 58]) (.seq (.seq (.reg [oM 59 13,oO 60 (.un .not (.t 59)),oM 61 60,oG 62 (.mv (.t 12)) 61 false,oG 63 (.call 75 [(.t 62),(kI 1)] none) 61 false,oG 64 (.len (.t 63)) 61 false,oG 65 (.bin .eql (.t 64) (kI 0)) 61 false,oO 66 (.pick (.t 61) (.k (.c (.d (.bool true)))) (.t 65)),
 oM 67 66,oG 68 (.mv (.t 12)) 67 false,oG 69 (.call 75 [(.t 68),(kI 4)] none) 67 false,oG 70 (.len (.t 69)) 67 false,oG 71 (.bin .eql (.t 70) (kI 0)) 67 false,oO 72 (.pick (.t 67) (.k (.c (.d (.bool true)))) (.t 71)),oM 73 72,oG 74 (.mv (.t 12)) 73 false,oG 75 (.call 75 [(.t 74),(kI 2)] none) 73 false,oG 76 (.len (.t 75)) 73 false,oG 77 (.mv (.t 12)) 73 false,oG 78 (.call 75 [(.t 77),(kI 3)] none) 73 false,oG 79 (.len (.t 78)) 73 false,oG 80 (.bin .add (.t 76) (.t 79)) 73 false,oG 81 (.mv (.t 12)) 73 false,oG 82 (.call 75 [(.t 81),(kI 5)] none) 73 false,oG 83 (.len (.t 82)) 73 false,oG 84 (.bin .add (.t 80) (.t 83)) 73 false,oG 85 (.bin .gtr (.t 84) (kI 0)) 73 false,oO 86 (.pick (.t 73) (.k (.c (.d (.bool true)))) (.t 85))]) (.cond (.t 86) (.seq (.reg [oO 87 (.call 76 [(kI 1)] none),oM 10 87,
 oO 11 (.mv (kI 0))]) (.ret)) (.skip))) (.seq (.seq (.reg [oM 88 12,oO 89 (.call 77 [(.t 88)] none)]) (.cond (.t 89) (.seq (.reg [oO 90 (.call 76 [(kI 0)] none),oM 10 90,oO 11 (.mv (kI 0))]) (.ret)) (.skip))) (.seq (.reg [oM 91 4,oO 92 (.len (.t 91)),oO 93 (.bin .eql (.t 92) (kI 0)),oM 94 93,oG 95 (.mv (.t 4)) 94 false,oG 96 (.len (.t 95)) 94 false,oG 97 (.bin .gtr (.t 96) (kI 8)) 94 false,oO 98 (.pick (.t 94) (.k (.c (.d (.bool true)))) (.t 97)),oM 99 98,oG 100 (.fieldAddr 2 (.t 5)) 99 false,oG 101 (.load .sc (.t 100)) 99 false,oG 102 (.lenStr (.t 101)) 99 false,oG 103 (.bin .gtr (.t 102) (kI 255)) 99 false,oO 104 (.pick (.t 99) (.k (.c (.d (.bool true)))) (.t 103)),oM 14 104]) (.seq (.seq (.reg [oO 15 (.mv (kI 0))]) (.block 0 (.loop fP))) (.seq (.seq (.reg [oM 120 14]) (.cond (.t 120) (.seq (.reg [oO 121 (.call 76 [(kI 2)] none),
 oM 10 121,oO 11 (.mv (kI 0))]) (.ret)) (.skip))) (.seq (.reg [oM 123 12,oM 124 12,oO 125 (.call 75 [(.t 124),(kI 1)] none),oO 126 (.idxSl 1 (.t 125) (kI 0)),oO 127 (.load .sc (.t 126)),oO 128 (.idxSl 3 (.t 123) (.t 127)),oO 129 (.fieldAddr 2 (.t 128)),oO 130 (.load .sc (.t 129)),oO 131 (.call 15 [(.t 130)] none),oM 122 131,oO 132 (.extract (.t 122) 0),oO 133 (.extract (.t 122) 1),oM 16 132,oM 17 133]) (.seq (.reg [oM 135 12,oM 136 12,oO 137 (.call 75 [(.t 136),(kI 4)] none),oO 138 (.idxSl 1 (.t 137) (kI 0)),oO 139 (.load .sc (.t 138)),oO 140 (.idxSl 3 (.t 135) (.t 139)),oO 141 (.fieldAddr 2 (.t 140)),oO 142 (.load .sc (.t 141)),oO 143 (.call 15 [(.t 142)] none),oM 134 143,oO 144 (.extract (.t 134) 0),oO 145 (.extract (.t 134) 1),oM 18 144,oM 19 145]) (.seq (.reg [oO 20 (.nilOwn 3)]) (.seq (.reg [oM 147 16,
 oO 148 (.fieldAddr 0 (.t 5)),oO 149 (.load .sc (.t 148)),oO 150 (.call 19 [(.t 147),(.t 149)] none),oM 146 150,oO 151 (.extract (.t 146) 0),oO 152 (.extract (.t 146) 1),oM 21 151,oM 13 152]) (.seq (.seq (.reg [oM 153 13,oO 154 (.un .not (.t 153))]) (.cond (.t 154) (.reg [oM 155 20,oO 156 (.build [(.d (.bool false)),(.d (.int .i64 0)),.nil] [(0,1,(.k (.c (.d (.bool true))))),(1,1,(kI 1))]),oO 157 (.bldSl false 1 3 (.agg [(.bool false),(.int .i64 0),(.sl [])]) [(0,(.t 156))]),oO 158 (.app false 3 40 (.t 155) (.t 157)),oM 20 158]) (.seq (.reg [oM 159 20,oM 160 21,oO 161 (.bldSl false 1 1 (.int .i64 0) [(0,(.t 160))]),oO 162 (.call 55 [(.t 161)] none),oO 163 (.build [(.d (.bool false)),(.d (.int .i64 0)),.nil] [(0,1,(.k (.c (.d (.bool true))))),(1,1,(kI 1)),(2,1,(.t 162))]),oO 164 (.bldSl false 1 3 (.agg [(.bool false),(.int .i64 0),(.sl [])]) [(0,(.t 163))]),
 oO 165 (.app false 3 40 (.t 159) (.t 164)),oM 20 165]) (.seq (.reg [oM 167 18,oO 168 (.fieldAddr 1 (.t 5)),oO 169 (.load .sc (.t 168)),oO 170 (.call 19 [(.t 167),(.t 169)] none),oM 166 170,oO 171 (.extract (.t 166) 0),oO 172 (.extract (.t 166) 1),oM 22 171,oM 23 172]) (.seq (.reg [oM 173 23,oO 174 (.un .not (.t 173))]) (.cond (.t 174) (.reg [oM 175 20,oO 176 (.build [(.d (.bool false)),(.d (.int .i64 0)),.nil] [(0,1,(.k (.c (.d (.bool true))))),(1,1,(kI 4))]),oO 177 (.bldSl false 1 3 (.agg [(.bool false),(.int .i64 0),(.sl [])]) [(0,(.t 176))]),oO 178 (.app false 3 40 (.t 175) (.t 177)),oM 20 178]) (.seq (.reg [oM 179 20,oM 180 22,oO 181 (.bldSl false 1 1 (.int .i64 0) [(0,(.t 180))]),oO 182 (.call 55 [(.t 181)] none),oO 183 (.build [(.d (.bool false)),(.d (.int .i64 0)),.nil] [(0,1,(.k (.c (.d (.bool true))))),(1,1,(kI 4)),(2,1,(.t 182))]),
 oO 184 (.bldSl false 1 3 (.agg [(.bool false),(.int .i64 0),(.sl [])]) [(0,(.t 183))]),oO 185 (.app false 3 40 (.t 179) (.t 184)),oM 20 185]) (.seq (.reg [oO 187 (.load (.ag 6) (.t 7)),oM 188 21,oM 189 22,oO 190 (.call 27 [(.t 187),(.t 188),(.t 189)] none),oM 186 190,oO 191 (.extract (.t 186) 0),oO 192 (.extract (.t 186) 1),oO 24 (.alloc [.nil,.nil]),oN (.store (.ag 2) (.t 24) (.t 191)),oM 25 192]) (.seq (.reg [oO 26 (.mv (kI 0))]) (.block 2 (.loop px))))))))))) (.seq (.seq (.reg [oO 215 (.fieldAddr 2 (.t 5)),oO 216 (.load .sc (.t 215)),oO 217 (.bin .neq (.t 216) (.k (.c (.d (.str ⟨#[]⟩)))))]) (.cond (.t 217) (.reg [oM 218 20,oO 219 (.fieldAddr 2 (.t 5)),oO 220 (.load .sc (.t 219)),oO 221 (.s2b false (.t 220)),oO 222 (.build [(.d (.bool false)),(.d (.int .i64 0)),.nil] [(0,1,(.k (.c (.d (.bool true))))),(1,1,(kI 6)),(2,1,(.t 221))]),
 oO 223 (.bldSl false 1 3 (.agg [(.bool false),(.int .i64 0),(.sl [])]) [(0,(.t 222))]),oO 224 (.app false 3 40 (.t 218) (.t 223)),oM 20 224]) (.skip))) (.seq (.seq (.reg [oO 225 (.fieldAddr 3 (.t 5)),oO 226 (.load .sc (.t 225)),oO 227 (.bin .neq (.t 226) (kI 0))]) (.cond (.t 227) (.reg [oM 228 20,oO 229 (.fieldAddr 3 (.t 5)),oO 230 (.load .sc (.t 229)),oO 231 (.bldSl false 1 1 (.int .i64 0) [(0,(.t 230))]),oO 232 (.call 55 [(.t 231)] none),oO 233 (.build [(.d (.bool false)),(.d (.int .i64 0)),.nil] [(0,1,(.k (.c (.d (.bool true))))),(1,1,(kI 7)),(2,1,(.t 232))]),oO 234 (.bldSl false 1 3 (.agg [(.bool false),(.int .i64 0),(.sl [])]) [(0,(.t 233))]),oO 235 (.app false 3 40 (.t 228) (.t 234)),oM 20 235]) (.skip))) (.seq (.reg [oM 236 20,oO 237 (.build [(.d (.bool false)),(.d (.int .i64 0)),.nil] [(0,1,(.k (.c (.d (.bool true))))),(1,1,(kI 0))]),
 oO 238 (.bldSl false 1 3 (.agg [(.bool false),(.int .i64 0),(.sl [])]) [(0,(.t 237))]),oO 239 (.app false 3 40 (.t 236) (.t 238)),oO 240 (.call 11 [(.t 239)] none),oO 241 (.extract (.t 240) 0),oO 242 (.extract (.t 240) 1),oM 10 241,oM 11 242]) (.ret))))))))))))))))),[(10,none),(11,none)]⟩
theorem ZD:aG Tryz.prog { own:=[20],comp:=[],frz:=[],nils:=[] } Tryz.f29=some iF:=by kernel_rfl
set_option maxHeartbeats 6400000 in
theorem aaG (G:ah) (p:d9) (r:List Fd) (c:Ch) (b:List UInt8) (ns:List (List UInt8)) (h1:p.pr.length≤1000000) (h2:p.al.length≤1000000) (h3:p.ho.size≤1000000) (hr:r.length≤1000000) (hb:b.length≤9000000000000000000) (hn:ns.length≤1000000) (hm:∀ n∈ns,n.length≤1000000):aw Tryz.prog G 29 [di p,bp r,aX c,.sl (b.map bD),.sl (ns.map fun l=>D.sl (l.map bD))] (.tup [.c (.d (.sl ((gQ p r c b ns).map bD))),.c (.d (.int .i64 (cU p r c)))]):=by
  refine aI Tryz.func29 ZD rfl rfl ?_;have c1:=xh G c;have c2:=BU G r (by omega);have hno:∀ e,cU p r c=e→e≠0→gQ p r c b ns=[]:=fun e q1 q2=>if_pos (by rw[q1]; exact q2)
  by_cases vC:dt c
  ·rw[decide_eq_true vC] at c1;by_cases vR:dj r
   ·rw[decide_eq_true vR] at c2;have c3:=qg G p.pr (by omega);have c4:=qg G p.al (by omega);have c5:=qg G [p.pt] (by simp);simp only[abd,abo,zD] at c5;by_cases s1:bA p.pr
    ·rw[decide_eq_true s1] at c3;by_cases s2:bA p.al
     ·rw[decide_eq_true s2] at c4;by_cases s3:bA [p.pt]
      ·rw[decide_eq_true s3] at c5;have E:cU p r c=0:=by unfold cU; rw[if_neg (not_not_intro ⟨vC,vR⟩),if_neg (not_not_intro ⟨s1,s2,s3⟩)]
       have B0:gQ p r c b ns=if ¬ kW b then fL 1 else if fp (aB b)=true then fL 0 else if ¬ ka ns p.ho then fL 2 else bc (dQ p r c (dm (aB b) 1) (dm (aB b) 4) ns++cd p):=if_neg (not_not_intro E)
       have c6:=C4 G b hb;have r1:=CX G 1 (by decide);have r0:=CX G 0 (by decide);have r2:=CX G 2 (by decide);rw[E];clear hno;by_cases hF:de b
       ·rw[decide_eq_true hF,show fc b=aB b from if_pos hF] at c6;obtain⟨hbo,hl⟩:=l9 (b:=b);have hQ:kW b↔((aF (aB b) 1).length≠0∧(aF (aB b) 4).length≠0∧(aF (aB b) 2).length+(aF (aB b) 3).length+(aF (aB b) 5).length=0):=⟨fun q=>q.2,fun q=>⟨hF,q⟩⟩
        generalize aB b=L at *
        have d1:=iH G L 1 (by omega);have d4:=iH G L 4 (by omega);have d2:=iH G L 2 (by omega);have d3:=iH G L 3 (by omega);have d5:=iH G L 5 (by omega);have m1:=pS L 1 L.length;rw[show fK L 1 L.length=aF L 1 from rfl] at m1;have m4:=pS L 4 L.length;rw[show fK L 4 L.length=aF L 4 from rfl] at m4;have m2:=pS L 2 L.length;rw[show fK L 2 L.length=aF L 2 from rfl] at m2;have m3:=pS L 3 L.length;rw[show fK L 3 L.length=aF L 3 from rfl] at m3;have m5:=pS L 5 L.length;rw[show fK L 5 L.length=aF L 5 from rfl] at m5;have d6:=O2 G L (by omega);by_cases a1:(aF L 1).length=0
        ·have g1:(((aF L 1).length:Int)=0)=True:=eq_true (by omega);rw[B0,if_pos fun q=>(hQ.1 q).1 a1];unfold di bp aX at *
         simp only[iF,af,ae,aa,seval,iteOmega,toNatUp];refine sD (c1) ?_;refine sD (c2) ?_;refine sD (c3) ?_;refine sD (c4) ?_;refine sD (c5) ?_;refine sD (c6) ?_;refine sC (d1) ?_;simp only[g1,ae,aa,seval,iteOmega,toNatUp];refine sD (r1) ?_;exact aE
        ·have g1:(((aF L 1).length:Int)=0)=False:=eq_false (by omega);by_cases a4:(aF L 4).length=0
         ·have g4:(((aF L 4).length:Int)=0)=True:=eq_true (by omega);rw[B0,if_pos fun q=>(hQ.1 q).2.1 a4];unfold di bp aX at *
          simp only[iF,af,ae,aa,seval,iteOmega,toNatUp];refine sD (c1) ?_;refine sD (c2) ?_;refine sD (c3) ?_;refine sD (c4) ?_;refine sD (c5) ?_;refine sD (c6) ?_;refine sC (d1) ?_;simp only[g1,ae,aa,seval,iteOmega,toNatUp];refine sC (d4) ?_;simp only[g4,ae,aa,seval,iteOmega,toNatUp];refine sD (r1) ?_;exact aE
         ·have g4:(((aF L 4).length:Int)=0)=False:=eq_false (by omega);by_cases a5:(aF L 2).length+(aF L 3).length+(aF L 5).length=0
          ·have g5:(((aF L 2).length:Int)+((aF L 3).length:Int)+((aF L 5).length:Int)>0)=False:=eq_false (by omega);have hQ:=hQ.2 ⟨a1,a4,a5⟩;rw[if_neg (not_not_intro hQ)] at B0;rcases hS:fp L with _ | _
           ·rw[hS] at d6 B0;rw[if_neg ac6] at B0;unfold di bp aX at *
            by_cases i1:ns.length=0
            ·have gi:((ns.length:Int)=0)=True:=eq_true (by omega);rw[if_pos (C5 (.inl i1))] at B0;rw[B0];simp only[iF,af,ae,aa,seval,iteOmega,toNatUp];refine sD (c1) ?_;refine sD (c2) ?_;refine sD (c3) ?_;refine sD (c4) ?_;refine sD (c5) ?_;refine sD (c6) ?_;refine sC (d1) ?_;simp only[g1,ae,aa,seval,iteOmega,toNatUp];refine sC (d4) ?_;simp only[g4,ae,aa,seval,iteOmega,toNatUp];refine sD (d2) ?_;refine sD (d3) ?_;refine sC (d5) ?_;simp only[g5,ae,aa,seval,iteOmega,toNatUp];refine sC (d6) ?_;simp only[gi,ae,aa,seval,iteOmega,toNatUp];refine aU (fh p r c L ns true) (fun i=>ns.length-i) (fun i=>i≤ns.length) 0 (abc _) ?_ ?_
             ·refine aj (fun _=>0) ?_ ?_ rfl rfl <;> simp only[wx,ai,am,aa,seval,iteOmega,toNatUp] <;> first | rfl | exact⟨rfl,rfl⟩ | skip
             ·intro i hi;by_cases hlt:i<ns.length
              ·have g:=lU hlt;have hs:=nO hlt;generalize ns.getD i []=x at *
               have e9:(true || (ns.take i).any fun n=>decide (n.length≠16))=true:=rfl;have e8:(true || (ns.take (i+1)).any fun n=>decide (n.length≠16))=true:=rfl;simp only[fP,fh,e9,ae,aa,seval,iteOmega,toNatUp,aC,g];refine aM (i+1) (by omega) (by omega) (aj (fun i=>i) ?_ ?_ rfl rfl) <;> simp only[e8,wx,ai,am,aa,seval,iteOmega,toNatUp] <;> first | rfl | exact⟨rfl,rfl⟩ | skip
              ·obtain rfl:i=ns.length:=by omega
               have e9:(true || ns.any fun n=>decide (n.length≠16))=true:=rfl;simp only[fP,fh,abv,e9,ae,aa,seval,iteOmega,toNatUp];refine sD (r2) ?_;exact aE
            ·have gi:((ns.length:Int)=0)=False:=eq_false (by omega);by_cases i2:8<ns.length
             ·have gj:((ns.length:Int)>8)=True:=eq_true (by omega);rw[if_pos (C5 (.inr (.inl i2)))] at B0;rw[B0];simp only[iF,af,ae,aa,seval,iteOmega,toNatUp];refine sD (c1) ?_;refine sD (c2) ?_;refine sD (c3) ?_;refine sD (c4) ?_;refine sD (c5) ?_;refine sD (c6) ?_;refine sC (d1) ?_;simp only[g1,ae,aa,seval,iteOmega,toNatUp];refine sC (d4) ?_;simp only[g4,ae,aa,seval,iteOmega,toNatUp];refine sD (d2) ?_;refine sD (d3) ?_;refine sC (d5) ?_;simp only[g5,ae,aa,seval,iteOmega,toNatUp];refine sC (d6) ?_;simp only[gi,gj,ae,aa,seval,iteOmega,toNatUp];refine aU (fh p r c L ns true) (fun i=>ns.length-i) (fun i=>i≤ns.length) 0 (abc _) ?_ ?_
              ·refine aj (fun _=>0) ?_ ?_ rfl rfl <;> simp only[wx,ai,am,aa,seval,iteOmega,toNatUp] <;> first | rfl | exact⟨rfl,rfl⟩ | skip
              ·intro i hi;by_cases hlt:i<ns.length
               ·have g:=lU hlt;have hs:=nO hlt;generalize ns.getD i []=x at *
                have e9:(true || (ns.take i).any fun n=>decide (n.length≠16))=true:=rfl;have e8:(true || (ns.take (i+1)).any fun n=>decide (n.length≠16))=true:=rfl;simp only[fP,fh,e9,ae,aa,seval,iteOmega,toNatUp,aC,g];refine aM (i+1) (by omega) (by omega) (aj (fun i=>i) ?_ ?_ rfl rfl) <;> simp only[e8,wx,ai,am,aa,seval,iteOmega,toNatUp] <;> first | rfl | exact⟨rfl,rfl⟩ | skip
               ·obtain rfl:i=ns.length:=by omega
                have e9:(true || ns.any fun n=>decide (n.length≠16))=true:=rfl;simp only[fP,fh,abv,e9,ae,aa,seval,iteOmega,toNatUp];refine sD (r2) ?_;exact aE
             ·have gj:((ns.length:Int)>8)=False:=eq_false (by omega);by_cases i3:255<p.ho.size
              ·have gk:((p.ho.size:Int)>255)=True:=eq_true (by omega);rw[if_pos (C5 (.inr (.inr i3)))] at B0;rw[B0];simp only[iF,af,ae,aa,seval,iteOmega,toNatUp];refine sD (c1) ?_;refine sD (c2) ?_;refine sD (c3) ?_;refine sD (c4) ?_;refine sD (c5) ?_;refine sD (c6) ?_;refine sC (d1) ?_;simp only[g1,ae,aa,seval,iteOmega,toNatUp];refine sC (d4) ?_;simp only[g4,ae,aa,seval,iteOmega,toNatUp];refine sD (d2) ?_;refine sD (d3) ?_;refine sC (d5) ?_;simp only[g5,ae,aa,seval,iteOmega,toNatUp];refine sC (d6) ?_;simp only[gi,gj,gk,ae,aa,seval,iteOmega,toNatUp];refine aU (fh p r c L ns true) (fun i=>ns.length-i) (fun i=>i≤ns.length) 0 (abc _) ?_ ?_
               ·refine aj (fun _=>0) ?_ ?_ rfl rfl <;> simp only[wx,ai,am,aa,seval,iteOmega,toNatUp] <;> first | rfl | exact⟨rfl,rfl⟩ | skip
               ·intro i hi;by_cases hlt:i<ns.length
                ·have g:=lU hlt;have hs:=nO hlt;generalize ns.getD i []=x at *
                 have e9:(true || (ns.take i).any fun n=>decide (n.length≠16))=true:=rfl;have e8:(true || (ns.take (i+1)).any fun n=>decide (n.length≠16))=true:=rfl;simp only[fP,fh,e9,ae,aa,seval,iteOmega,toNatUp,aC,g];refine aM (i+1) (by omega) (by omega) (aj (fun i=>i) ?_ ?_ rfl rfl) <;> simp only[e8,wx,ai,am,aa,seval,iteOmega,toNatUp] <;> first | rfl | exact⟨rfl,rfl⟩ | skip
                ·obtain rfl:i=ns.length:=by omega
                 have e9:(true || ns.any fun n=>decide (n.length≠16))=true:=rfl;simp only[fP,fh,abv,e9,ae,aa,seval,iteOmega,toNatUp];refine sD (r2) ?_;exact aE
              ·have gk:((p.ho.size:Int)>255)=False:=eq_false (by omega);simp only[iF,af,ae,aa,seval,iteOmega,toNatUp];refine sD (c1) ?_;refine sD (c2) ?_;refine sD (c3) ?_;refine sD (c4) ?_;refine sD (c5) ?_;refine sD (c6) ?_;refine sC (d1) ?_;simp only[g1,ae,aa,seval,iteOmega,toNatUp];refine sC (d4) ?_;simp only[g4,ae,aa,seval,iteOmega,toNatUp];refine sD (d2) ?_;refine sD (d3) ?_;refine sC (d5) ?_;simp only[g5,ae,aa,seval,iteOmega,toNatUp];refine sC (d6) ?_;simp only[gi,gj,gk,ae,aa,seval,iteOmega,toNatUp];refine aU (fh p r c L ns false) (fun i=>ns.length-i) (fun i=>i≤ns.length) 0 (abc _) ?_ ?_
               ·refine aj (fun _=>0) ?_ ?_ rfl rfl <;> simp only[wx,ai,am,aa,seval,iteOmega,toNatUp] <;> first | rfl | exact⟨rfl,rfl⟩ | skip
               ·intro i hi;by_cases hlt:i<ns.length
                ·have g:=lU hlt;have hs:=nO hlt;generalize ns.getD i []=x at *
                 have e8:(false || (ns.take (i+1)).any fun n=>decide (n.length≠16))=((ns.take i).any (fun n=>decide (n.length≠16)) || decide (x.length≠16)):=by rw[hs,List.any_append,Bool.false_or,List.any_cons,List.any_nil,Bool.or_false]
                 rcases e9:(ns.take i).any fun n=>decide (n.length≠16) with _ | _
                 ·rw[e9,Bool.false_or] at e8;have e9:(false || (ns.take i).any fun n=>decide (n.length≠16))=false:=e9;by_cases x16:x.length=16
                  ·have gx:((x.length:Int)=16)=True:=eq_true (by omega);rw[decide_eq_false (not_not_intro x16)] at e8;simp only[fP,fh,e9,ae,aa,seval,iteOmega,toNatUp,aC,g,gx];refine aM (i+1) (by omega) (by omega) (aj (fun i=>i) ?_ ?_ rfl rfl) <;> simp only[e8,wx,ai,am,aa,seval,iteOmega,toNatUp] <;> first | rfl | exact⟨rfl,rfl⟩ | skip
                  ·have gx:((x.length:Int)=16)=False:=eq_false (by omega);rw[decide_eq_true x16] at e8;simp only[fP,fh,e9,ae,aa,seval,iteOmega,toNatUp,aC,g,gx];refine aM (i+1) (by omega) (by omega) (aj (fun i=>i) ?_ ?_ rfl rfl) <;> simp only[e8,wx,ai,am,aa,seval,iteOmega,toNatUp] <;> first | rfl | exact⟨rfl,rfl⟩ | skip
                 ·rw[e9,Bool.true_or] at e8;have e9:(false || (ns.take i).any fun n=>decide (n.length≠16))=true:=e9;simp only[fP,fh,e9,ae,aa,seval,iteOmega,toNatUp,aC,g];refine aM (i+1) (by omega) (by omega) (aj (fun i=>i) ?_ ?_ rfl rfl) <;> simp only[e8,wx,ai,am,aa,seval,iteOmega,toNatUp] <;> first | rfl | exact⟨rfl,rfl⟩ | skip
                ·obtain rfl:i=ns.length:=by omega
                 rcases e9:ns.any fun n=>decide (n.length≠16) with _ | _
                 ·have hN:ka ns p.ho:=⟨by omega,by omega,by omega,fun n hn=>by
                      have:=aca.1 e9 n hn;rw[decide_eq_true_eq] at this;exact Classical.not_not.1 this⟩
                  have e9:(false || ns.any fun n=>decide (n.length≠16))=false:=e9;rw[if_neg (not_not_intro hN)] at B0;rw[B0];obtain⟨i1,_⟩:=ln (l:=L) (k:=1) (j:=0) (by omega);have f1:=nL (l:=aF L 1) (i:=0) (by omega);have u1:=lD i1;have o1:=hbo _ (gg i1);have w1:dm L 1=dP (L.getD ((aF L 1).getD 0 0) default).bo:=rfl;generalize (aF L 1).getD 0 0=j1 at *
                  generalize L.getD j1 default=x1 at *
                  have n1:=sZ G x1.bo (by omega);rw[← w1] at n1;have z1:(dm L 1).length≤70000:=by have:=ma x1.bo; rw[w1]; omega
                  generalize dm L 1=X at *
                  obtain⟨i4,_⟩:=ln (l:=L) (k:=4) (j:=0) (by omega);have f4:=nL (l:=aF L 4) (i:=0) (by omega);have u4:=lD i4;have o4:=hbo _ (gg i4);have w4:dm L 4=dP (L.getD ((aF L 4).getD 0 0) default).bo:=rfl;generalize (aF L 4).getD 0 0=j4 at *
                  generalize L.getD j4 default=x4 at *
                  have n4:=sZ G x4.bo (by omega);rw[← w4] at n4;have z4:(dm L 4).length≤70000:=by have:=ma x4.bo; rw[w4]; omega
                  generalize dm L 4=Y at *
                  have k1:=O1 G X p.pr (by omega) (by omega);have k2:=O1 G Y p.al (by omega) (by omega);have hA:∀ l:List Ek,dQ p r c X Y ns=l→(∀ e∈l,0≤e.ty∧e.ty≤7∧e.bo.length≤255)→l.length≤10→aw Tryz.prog G _ [.sl ((l++cd p).map ak)] (.tup [.c (.fr 1 ((bc (l++cd p)).map bD)),.c (.d (.int .i64 0))]):=fun l _ ok hl=>by
                      obtain⟨q1,q2⟩:=Pr (p:=p) (by omega) ok hl;have:=OX G (l++cd p) (by have:=vG p; rw[aba]; omega) (fun e he=>by have:=(kD ((mh q1).1 e he)).2.2; omega);rw[q1,q2] at this;exact this
                  have pt0:0≤p.pt∧p.pt≤65535:=s3 _ abK;have cp:=qf G [p.pt] (by simp) s3;simp only[abd,abo,zD] at cp;have sd:p.ho.size≤maxLen:=by unfold maxLen; omega
                  rcases hx:dC X p.pr with _ | v
                  ·rw[hx,abY,ab4] at k1;have eA:dQ p r c X Y ns=[⟨true,1,[]⟩]:=by unfold dQ; rw[hx]
                   have ca:=hA _ eA (fun e he=>by rw[abe.1 he]; exact fg (by decide) (by decide)) (show 1≤10 by decide);rw[eA];clear hA B0 hQ;by_cases hh:p.ho.size=0
                   ·skip
                    by_cases hp:p.pt=0
                    ·have gp:(p.pt=0)=True:=eq_true hp;have gh:fA .neq p.ho ⟨#[]⟩=some (.bool false):=oh hh;have eH:cd p=[⟨true,0,[]⟩]:=by unfold cd; rw[if_pos hh,if_pos hp]; rfl
                     rw[eH] at ca ⊢;simp only[abk,abd,abo,abz,abF,ak] at ca;simp only[fP,fh,abv,e9,ae,aa,seval,iteOmega,toNatUp];refine sC (d1) ?_;simp only[f1,bT,u1,ak,ae,aa,seval,iteOmega,toNatUp];refine sD (n1) ?_;refine sC (d4) ?_;simp only[f4,bT,u4,ak,ae,aa,seval,iteOmega,toNatUp];refine sD (n4) ?_;refine sC (k1) ?_;simp only[gh,gp,a7,sd,ae,aa,seval,iteOmega,toNatUp];refine aW ca (by simp only[ae,aa,seval,iteOmega,toNatUp] <;> rfl) (.inr (gG _ _ _ _)) ?_;simp only[ae,aa,seval,iteOmega,toNatUp];exact aE
                    ·have gp:(p.pt=0)=False:=eq_false hp;have gh:fA .neq p.ho ⟨#[]⟩=some (.bool false):=oh hh;have eH:cd p=[⟨true,7,aT [p.pt]⟩,⟨true,0,[]⟩]:=by unfold cd; rw[if_pos hh,if_neg hp]; rfl
                     rw[eH] at ca ⊢;simp only[abk,abd,abo,abz,abF,ak] at ca;simp only[fP,fh,abv,e9,ae,aa,seval,iteOmega,toNatUp];refine sC (d1) ?_;simp only[f1,bT,u1,ak,ae,aa,seval,iteOmega,toNatUp];refine sD (n1) ?_;refine sC (d4) ?_;simp only[f4,bT,u4,ak,ae,aa,seval,iteOmega,toNatUp];refine sD (n4) ?_;refine sC (k1) ?_;simp only[gh,gp,a7,sd,ae,aa,seval,iteOmega,toNatUp];refine sC (cp) ?_;simp only[a7,ae,aa,seval,iteOmega,toNatUp];refine aW ca (by simp only[ae,aa,seval,iteOmega,toNatUp] <;> rfl) (.inr (gG _ _ _ _)) ?_;simp only[ae,aa,seval,iteOmega,toNatUp];exact aE
                   ·skip
                    by_cases hp:p.pt=0
                    ·have gp:(p.pt=0)=True:=eq_true hp;have gh:fA .neq p.ho ⟨#[]⟩=some (.bool true):=om hh;have eH:cd p=[⟨true,6,p.ho.data.toList⟩,⟨true,0,[]⟩]:=by unfold cd; rw[if_neg hh,if_pos hp]; rfl
                     rw[eH] at ca ⊢;simp only[abk,abd,abo,abz,abF,ak] at ca;simp only[fP,fh,abv,e9,ae,aa,seval,iteOmega,toNatUp];refine sC (d1) ?_;simp only[f1,bT,u1,ak,ae,aa,seval,iteOmega,toNatUp];refine sD (n1) ?_;refine sC (d4) ?_;simp only[f4,bT,u4,ak,ae,aa,seval,iteOmega,toNatUp];refine sD (n4) ?_;refine sC (k1) ?_;simp only[gh,gp,a7,sd,ae,aa,seval,iteOmega,toNatUp];refine aW ca (by simp only[ae,aa,seval,iteOmega,toNatUp] <;> rfl) (.inr (gG _ _ _ _)) ?_;simp only[ae,aa,seval,iteOmega,toNatUp];exact aE
                    ·have gp:(p.pt=0)=False:=eq_false hp;have gh:fA .neq p.ho ⟨#[]⟩=some (.bool true):=om hh;have eH:cd p=[⟨true,6,p.ho.data.toList⟩,⟨true,7,aT [p.pt]⟩,⟨true,0,[]⟩]:=by unfold cd; rw[if_neg hh,if_neg hp]; rfl
                     rw[eH] at ca ⊢;simp only[abk,abd,abo,abz,abF,ak] at ca;simp only[fP,fh,abv,e9,ae,aa,seval,iteOmega,toNatUp];refine sC (d1) ?_;simp only[f1,bT,u1,ak,ae,aa,seval,iteOmega,toNatUp];refine sD (n1) ?_;refine sC (d4) ?_;simp only[f4,bT,u4,ak,ae,aa,seval,iteOmega,toNatUp];refine sD (n4) ?_;refine sC (k1) ?_;simp only[gh,gp,a7,sd,ae,aa,seval,iteOmega,toNatUp];refine sC (cp) ?_;simp only[a7,ae,aa,seval,iteOmega,toNatUp];refine aW ca (by simp only[ae,aa,seval,iteOmega,toNatUp] <;> rfl) (.inr (gG _ _ _ _)) ?_;simp only[ae,aa,seval,iteOmega,toNatUp];exact aE
                  ·rw[hx,abQ,ab9] at k1;obtain⟨_,v1⟩:=lq hx;have v2:=s1 _ v1;have cv:=qf G [v] (by simp) (fun n hn=>by rw[abe.1 hn]; exact v2);simp only[abd,abo,zD] at cv;rcases hy:dC Y p.al with _ | a
                   ·rw[hy,abY,ab4] at k2;have eA:dQ p r c X Y ns=[⟨true,1,aT [v]⟩,⟨true,4,[]⟩]:=by unfold dQ; rw[hx]; dsimp only; rw[hy]
                    have ca:=hA _ eA (fun e he=>by
                        rcases abr.1 he with rfl | he
                        ·exact fg (by decide) (by rw[eU]; exact (show 2*1≤255 by decide))
                        ·rw[abe.1 he]; exact fg (by decide) (by decide)) (show 2≤10 by decide)
                    rw[eA];clear hA B0 hQ;by_cases hh:p.ho.size=0
                    ·skip
                     by_cases hp:p.pt=0
                     ·have gp:(p.pt=0)=True:=eq_true hp;have gh:fA .neq p.ho ⟨#[]⟩=some (.bool false):=oh hh;have eH:cd p=[⟨true,0,[]⟩]:=by unfold cd; rw[if_pos hh,if_pos hp]; rfl
                      rw[eH] at ca ⊢;simp only[abk,abd,abo,abz,abF,ak] at ca;simp only[fP,fh,abv,e9,ae,aa,seval,iteOmega,toNatUp];refine sC (d1) ?_;simp only[f1,bT,u1,ak,ae,aa,seval,iteOmega,toNatUp];refine sD (n1) ?_;refine sC (d4) ?_;simp only[f4,bT,u4,ak,ae,aa,seval,iteOmega,toNatUp];refine sD (n4) ?_;refine sD (k1) ?_;refine sC (cv) ?_;simp only[a7,ae,aa,seval,iteOmega,toNatUp];refine sC (k2) ?_;simp only[gh,gp,a7,sd,ae,aa,seval,iteOmega,toNatUp];refine aW ca (by simp only[ae,aa,seval,iteOmega,toNatUp] <;> rfl) (.inr (gG _ _ _ _)) ?_;simp only[ae,aa,seval,iteOmega,toNatUp];exact aE
                     ·have gp:(p.pt=0)=False:=eq_false hp;have gh:fA .neq p.ho ⟨#[]⟩=some (.bool false):=oh hh;have eH:cd p=[⟨true,7,aT [p.pt]⟩,⟨true,0,[]⟩]:=by unfold cd; rw[if_pos hh,if_neg hp]; rfl
                      rw[eH] at ca ⊢;simp only[abk,abd,abo,abz,abF,ak] at ca;simp only[fP,fh,abv,e9,ae,aa,seval,iteOmega,toNatUp];refine sC (d1) ?_;simp only[f1,bT,u1,ak,ae,aa,seval,iteOmega,toNatUp];refine sD (n1) ?_;refine sC (d4) ?_;simp only[f4,bT,u4,ak,ae,aa,seval,iteOmega,toNatUp];refine sD (n4) ?_;refine sD (k1) ?_;refine sC (cv) ?_;simp only[a7,ae,aa,seval,iteOmega,toNatUp];refine sC (k2) ?_;simp only[gh,gp,a7,sd,ae,aa,seval,iteOmega,toNatUp];refine sC (cp) ?_;simp only[a7,ae,aa,seval,iteOmega,toNatUp];refine aW ca (by simp only[ae,aa,seval,iteOmega,toNatUp] <;> rfl) (.inr (gG _ _ _ _)) ?_;simp only[ae,aa,seval,iteOmega,toNatUp];exact aE
                    ·skip
                     by_cases hp:p.pt=0
                     ·have gp:(p.pt=0)=True:=eq_true hp;have gh:fA .neq p.ho ⟨#[]⟩=some (.bool true):=om hh;have eH:cd p=[⟨true,6,p.ho.data.toList⟩,⟨true,0,[]⟩]:=by unfold cd; rw[if_neg hh,if_pos hp]; rfl
                      rw[eH] at ca ⊢;simp only[abk,abd,abo,abz,abF,ak] at ca;simp only[fP,fh,abv,e9,ae,aa,seval,iteOmega,toNatUp];refine sC (d1) ?_;simp only[f1,bT,u1,ak,ae,aa,seval,iteOmega,toNatUp];refine sD (n1) ?_;refine sC (d4) ?_;simp only[f4,bT,u4,ak,ae,aa,seval,iteOmega,toNatUp];refine sD (n4) ?_;refine sD (k1) ?_;refine sC (cv) ?_;simp only[a7,ae,aa,seval,iteOmega,toNatUp];refine sC (k2) ?_;simp only[gh,gp,a7,sd,ae,aa,seval,iteOmega,toNatUp];refine aW ca (by simp only[ae,aa,seval,iteOmega,toNatUp] <;> rfl) (.inr (gG _ _ _ _)) ?_;simp only[ae,aa,seval,iteOmega,toNatUp];exact aE
                     ·have gp:(p.pt=0)=False:=eq_false hp;have gh:fA .neq p.ho ⟨#[]⟩=some (.bool true):=om hh;have eH:cd p=[⟨true,6,p.ho.data.toList⟩,⟨true,7,aT [p.pt]⟩,⟨true,0,[]⟩]:=by unfold cd; rw[if_neg hh,if_neg hp]; rfl
                      rw[eH] at ca ⊢;simp only[abk,abd,abo,abz,abF,ak] at ca;simp only[fP,fh,abv,e9,ae,aa,seval,iteOmega,toNatUp];refine sC (d1) ?_;simp only[f1,bT,u1,ak,ae,aa,seval,iteOmega,toNatUp];refine sD (n1) ?_;refine sC (d4) ?_;simp only[f4,bT,u4,ak,ae,aa,seval,iteOmega,toNatUp];refine sD (n4) ?_;refine sD (k1) ?_;refine sC (cv) ?_;simp only[a7,ae,aa,seval,iteOmega,toNatUp];refine sC (k2) ?_;simp only[gh,gp,a7,sd,ae,aa,seval,iteOmega,toNatUp];refine sC (cp) ?_;simp only[a7,ae,aa,seval,iteOmega,toNatUp];refine aW ca (by simp only[ae,aa,seval,iteOmega,toNatUp] <;> rfl) (.inr (gG _ _ _ _)) ?_;simp only[ae,aa,seval,iteOmega,toNatUp];exact aE
                   ·rw[hy,abQ,ab9] at k2;obtain⟨_,b1⟩:=lq hy;have b2:=s2 _ b1;have cb:=qf G [a] (by simp) (fun n hn=>by rw[abe.1 hn]; exact b2);simp only[abd,abo,zD] at cb;have eA:dQ p r c X Y ns=eM r c v a ns ns.length:=by unfold dQ eM; rw[hx,abv]; dsimp only; rw[hy]
                    have ca:=hA _ eA (Cf vR (oD vC v2 b2) b2 (fun n hn=>hN.2.2.2 n hn)) (by have:=rZ r c v a ns ns.length; omega);rw[eA];clear hA B0 hQ;have ck:=CY G c v a;unfold df at ck;have cm:=fun n (hn:n∈ns)=>Y0 G r a (bg c v a 0) (bg c v a 1) n (by omega)
                    unfold bp df at cm;unfold aX at ck;simp only[fP,fh,abv,e9,ae,aa,seval,iteOmega,toNatUp];refine sC (d1) ?_;simp only[f1,bT,u1,ak,ae,aa,seval,iteOmega,toNatUp];refine sD (n1) ?_;refine sC (d4) ?_;simp only[f4,bT,u4,ak,ae,aa,seval,iteOmega,toNatUp];refine sD (n4) ?_;refine sD (k1) ?_;refine sC (cv) ?_;simp only[a7,ae,aa,seval,iteOmega,toNatUp];refine sD (k2) ?_;refine sC (cb) ?_;simp only[a7,ae,aa,seval,iteOmega,toNatUp];refine sD (ck) ?_;refine aU (qk p r c v a ns) (fun i=>ns.length-i) (fun i=>i≤ns.length) 0 (abc _) ?_ ?_
                    ·refine aj (fun i=>if i=1 then 1480 else 192) ?_ ?_ rfl rfl <;> simp only[wx,ai,am,aa,seval,iteOmega,toNatUp] <;> first | rfl | exact⟨rfl,rfl⟩ | skip
                    ·intro i hi;have az:=mL (eM r c v a ns i);have yl:=rZ r c v a ns i;by_cases hlt:i<ns.length
                     ·have g:=lU hlt;have hm2:ns.getD i []∈ns:=by rw[abb,aa7 hlt]; exact abG hlt
                      have cm:=cm _ hm2;have hs:=Jb (r:=r) (c:=c) (v:=v) (a:=a) hlt;generalize ns.getD i []=x at *
                      generalize hR:eM r c v a ns i=Rw at *
                      simp only[px,qk,hR,ae,aa,seval,iteOmega,toNatUp,aC,g];refine sC (cm) ?_;simp only[a7,az,ae,aa,seval,iteOmega,toNatUp];refine aM (i+1) (by omega) (by omega) (aj (fun i=>if i=1 then 1712 else 2) ?_ ?_ rfl rfl) <;> simp only[hs,abk,ak,wx,ai,am,aa,seval,iteOmega,toNatUp] <;> first | rfl | exact⟨rfl,rfl⟩ | skip
                     ·obtain rfl:i=ns.length:=by omega
                      clear cm k1 k2 cv cb ck n1 n4 d1 d4;generalize hR:eM r c v a ns ns.length=Rw at *
                      by_cases hh:p.ho.size=0
                      ·skip
                       by_cases hp:p.pt=0
                       ·have gp:(p.pt=0)=True:=eq_true hp;have gh:fA .neq p.ho ⟨#[]⟩=some (.bool false):=oh hh;have eH:cd p=[⟨true,0,[]⟩]:=by unfold cd; rw[if_pos hh,if_pos hp]; rfl
                        rw[eH] at ca ⊢;simp only[abk,abd,abo,abz,abF,ak] at ca;simp only[px,qk,hR,ae,aa,seval,iteOmega,toNatUp,gh,gp,a7,sd,az];refine aW ca (by simp only[ae,aa,seval,iteOmega,toNatUp,abq,abz,abF,xV,xW,xX] <;> rfl) (.inr (gG _ _ _ _)) ?_;simp only[ae,aa,seval,iteOmega,toNatUp];exact aE
                       ·have gp:(p.pt=0)=False:=eq_false hp;have gh:fA .neq p.ho ⟨#[]⟩=some (.bool false):=oh hh;have eH:cd p=[⟨true,7,aT [p.pt]⟩,⟨true,0,[]⟩]:=by unfold cd; rw[if_pos hh,if_neg hp]; rfl
                        rw[eH] at ca ⊢;simp only[abk,abd,abo,abz,abF,ak] at ca;simp only[px,qk,hR,ae,aa,seval,iteOmega,toNatUp,gh,gp,a7,sd,az];refine sC (cp) ?_;simp only[a7,az,ae,aa,seval,iteOmega,toNatUp];refine aW ca (by simp only[ae,aa,seval,iteOmega,toNatUp,abq,abz,abF,xV,xW,xX] <;> rfl) (.inr (gG _ _ _ _)) ?_;simp only[ae,aa,seval,iteOmega,toNatUp];exact aE
                      ·skip
                       by_cases hp:p.pt=0
                       ·have gp:(p.pt=0)=True:=eq_true hp;have gh:fA .neq p.ho ⟨#[]⟩=some (.bool true):=om hh;have eH:cd p=[⟨true,6,p.ho.data.toList⟩,⟨true,0,[]⟩]:=by unfold cd; rw[if_neg hh,if_pos hp]; rfl
                        rw[eH] at ca ⊢;simp only[abk,abd,abo,abz,abF,ak] at ca;simp only[px,qk,hR,ae,aa,seval,iteOmega,toNatUp,gh,gp,a7,sd,az];refine aW ca (by simp only[ae,aa,seval,iteOmega,toNatUp,abq,abz,abF,xV,xW,xX] <;> rfl) (.inr (gG _ _ _ _)) ?_;simp only[ae,aa,seval,iteOmega,toNatUp];exact aE
                       ·have gp:(p.pt=0)=False:=eq_false hp;have gh:fA .neq p.ho ⟨#[]⟩=some (.bool true):=om hh;have eH:cd p=[⟨true,6,p.ho.data.toList⟩,⟨true,7,aT [p.pt]⟩,⟨true,0,[]⟩]:=by unfold cd; rw[if_neg hh,if_neg hp]; rfl
                        rw[eH] at ca ⊢;simp only[abk,abd,abo,abz,abF,ak] at ca;simp only[px,qk,hR,ae,aa,seval,iteOmega,toNatUp,gh,gp,a7,sd,az];refine sC (cp) ?_;simp only[a7,az,ae,aa,seval,iteOmega,toNatUp];refine aW ca (by simp only[ae,aa,seval,iteOmega,toNatUp,abq,abz,abF,xV,xW,xX] <;> rfl) (.inr (gG _ _ _ _)) ?_;simp only[ae,aa,seval,iteOmega,toNatUp];exact aE
                 ·have hN:¬ ka ns p.ho:=fun q=>by
                    obtain⟨n,hn,h16⟩:=ace.1 e9;exact (of_decide_eq_true h16) (q.2.2.2 n hn)
                  have e9:(false || ns.any fun n=>decide (n.length≠16))=true:=e9;rw[if_pos hN] at B0;rw[B0];simp only[fP,fh,abv,e9,ae,aa,seval,iteOmega,toNatUp];refine sD (r2) ?_;exact aE
           ·rw[hS] at d6 B0;rw[if_pos rfl] at B0;rw[B0];unfold di bp aX at *
            simp only[iF,af,ae,aa,seval,iteOmega,toNatUp];refine sD (c1) ?_;refine sD (c2) ?_;refine sD (c3) ?_;refine sD (c4) ?_;refine sD (c5) ?_;refine sD (c6) ?_;refine sC (d1) ?_;simp only[g1,ae,aa,seval,iteOmega,toNatUp];refine sC (d4) ?_;simp only[g4,ae,aa,seval,iteOmega,toNatUp];refine sD (d2) ?_;refine sD (d3) ?_;refine sC (d5) ?_;simp only[g5,ae,aa,seval,iteOmega,toNatUp];refine sD (d6) ?_;refine sD (r0) ?_;exact aE
          ·have g5:(((aF L 2).length:Int)+((aF L 3).length:Int)+((aF L 5).length:Int)>0)=True:=eq_true (by omega);rw[B0,if_pos fun q=>a5 (hQ.1 q).2.2];unfold di bp aX at *
           simp only[iF,af,ae,aa,seval,iteOmega,toNatUp];refine sD (c1) ?_;refine sD (c2) ?_;refine sD (c3) ?_;refine sD (c4) ?_;refine sD (c5) ?_;refine sD (c6) ?_;refine sC (d1) ?_;simp only[g1,ae,aa,seval,iteOmega,toNatUp];refine sC (d4) ?_;simp only[g4,ae,aa,seval,iteOmega,toNatUp];refine sD (d2) ?_;refine sD (d3) ?_;refine sC (d5) ?_;simp only[g5,ae,aa,seval,iteOmega,toNatUp];refine sD (r1) ?_;exact aE
       ·rw[decide_eq_false hF,show fc b=[] from if_neg hF] at c6;rw[B0,if_pos fun q=>hF q.1];unfold di bp aX at *
        simp only[iF,af,ae,aa,seval,iteOmega,toNatUp];refine sD (c1) ?_;refine sD (c2) ?_;refine sD (c3) ?_;refine sD (c4) ?_;refine sD (c5) ?_;refine sD (c6) ?_;refine sD (r1) ?_;exact aE
      ·rw[decide_eq_false s3] at c5;have E:cU p r c=4:=by unfold cU; rw[if_neg (not_not_intro ⟨vC,vR⟩),if_pos fun q=>s3 q.2.2]
       rw[hno 4 E (by decide),E];unfold di bp aX at *
       simp only[iF,af,ae,aa,seval,iteOmega,toNatUp];refine sD (c1) ?_;refine sD (c2) ?_;refine sD (c3) ?_;refine sD (c4) ?_;refine sD (c5) ?_;exact aE
     ·rw[decide_eq_false s2] at c4;have E:cU p r c=4:=by unfold cU; rw[if_neg (not_not_intro ⟨vC,vR⟩),if_pos fun q=>s2 q.2.1]
      rw[hno 4 E (by decide),E];unfold di bp aX at *
      simp only[iF,af,ae,aa,seval,iteOmega,toNatUp];refine sD (c1) ?_;refine sD (c2) ?_;refine sD (c3) ?_;refine sD (c4) ?_;exact aE
    ·rw[decide_eq_false s1] at c3;have E:cU p r c=4:=by unfold cU; rw[if_neg (not_not_intro ⟨vC,vR⟩),if_pos fun q=>s1 q.1]
     rw[hno 4 E (by decide),E];unfold di bp aX at *
     simp only[iF,af,ae,aa,seval,iteOmega,toNatUp];refine sD (c1) ?_;refine sD (c2) ?_;refine sD (c3) ?_;exact aE
   ·rw[decide_eq_false vR] at c2;have E:cU p r c=3:=by unfold cU; rw[if_pos fun q=>vR q.2]
    rw[hno 3 E (by decide),E];unfold di bp aX at *
    simp only[iF,af,ae,aa,seval,iteOmega,toNatUp];refine sD (c1) ?_;refine sD (c2) ?_;exact aE
  ·rw[decide_eq_false vC] at c1;have E:cU p r c=3:=by unfold cU; rw[if_pos fun q=>vC q.1]
   rw[hno 3 E (by decide),E];unfold di bp aX at *
   simp only[iF,af,ae,aa,seval,iteOmega,toNatUp];refine sD (c1) ?_;exact aE
def xY (id:Int):Bool:=decide (0≤id∧id≤4294967295)
def vH:aH:=⟨1,9,.seq (.reg [oO 2 (.mv (.k (.c (.d (.bool false)))))]) (.seq (.reg [oM 3 0,oO 4 (.bin .leq (kI 0) (.t 3)),oM 5 4,oG 6 (.mv (.t 0)) 5 true,oG 7 (.bin .lss (.t 6) (kI 4294967296)) 5 true,oO 8 (.pick (.t 5) (.t 7) (.k (.c (.d (.bool false))))),oM 2 8]) (.ret)),[(2,none)]⟩
theorem WP:aG Tryz.prog { own:=[],comp:=[],frz:=[],nils:=[] } Tryz.f107=some vH:=by kernel_rfl
theorem ZE (G:ah) (id:Int):aw Tryz.prog G 107 [.int .i64 id] (.w (.c (.d (.bool (xY id))))):=by
  refine aI Tryz.func107 WP rfl rfl ?_;unfold xY;by_cases h1:0≤id
  ·by_cases h2:id<4294967296
   ·have g1:(0≤id)=True:=eq_true h1;have g2:(id<4294967296)=True:=eq_true h2;rw[decide_eq_true (show 0≤id∧id≤4294967295 by omega)];simp only[vH,af,ae,aa,seval,iteOmega,toNatUp,g1,g2];exact aL
   ·have g1:(0≤id)=True:=eq_true h1;have g2:(id<4294967296)=False:=eq_false h2;rw[decide_eq_false (show ¬ (0≤id∧id≤4294967295) by omega)];simp only[vH,af,ae,aa,seval,iteOmega,toNatUp,g1,g2];exact aL
  ·have g1:(0≤id)=False:=eq_false h1;rw[decide_eq_false (show ¬ (0≤id∧id≤4294967295) by omega)];simp only[vH,af,ae,aa,seval,iteOmega,toNatUp,g1];exact aL
def mH (l:List Fd):Nat→List (Int×D)
  | 0=>[]
  | i+1=>cu (mH l i) (l.getD i default).ty (.bool true)
theorem Ps (l:List Fd) (y:Int):∀ i,ba (mH l i) y=if ∃ k,k<i∧(l.getD k default).ty=y then some (.bool true) else none
  | 0=>by simp[mH,WF]
  | i+1=>by
    simp only[mH,LB,Ps l y i];by_cases h:y=(l.getD i default).ty
    ·rw[if_pos h,if_pos ⟨i,by omega,h.symm⟩]
    ·rw[if_neg h];by_cases h2:∃ k,k<i∧(l.getD k default).ty=y
     ·obtain⟨k,h3,h4⟩:=h2;rw[if_pos ⟨k,h3,h4⟩,if_pos ⟨k,by omega,h4⟩]
     ·have h5:¬ ∃ k,k<i+1∧(l.getD k default).ty=y:=by
        rintro⟨k,h3,h4⟩;rcases abL k i with g | g
        ·exact h2 ⟨k,g,h4⟩
        ·obtain rfl:k=i:=by omega
         exact h h4.symm
      rw[if_neg h2,if_neg h5]
def pf:aN := .seq (.reg [oO 21 (.bin .lss (.t 20) (.t 19))]) (.seq (.cond (.t 21) (.skip) (.exit 0)) (.seq (.block 1 (.seq (.reg [oO 22 (.idxSl 2 (.t 18) (.t 20)),oO 23 (.load (.ag 2) (.t 22)),oO 5 (.alloc [(.d (.int .i64 0)),.nil]),oN (.store (.ag 2) (.t 5) (.t 23))]) (.seq (.seq (.reg [oO 24 (.fieldAddr 0 (.t 5)),oO 25 (.load .sc (.t 24)),oO 26 (.call 107 [(.t 25)] none),oO 27 (.un .not (.t 26)),oM 28 27,oG 29 (.mv (.t 3)) 28 false,oG 30 (.fieldAddr 0 (.t 5)) 28 false,oG 31 (.load .sc (.t 30)) 28 false,oG 32 (.mpGet .i64 (.bool false) false (.t 29) (.t 31)) 28 false,oO 33 (.pick (.t 28) (.k (.c (.d (.bool true)))) (.t 32)),oM 34 33,oG 35 (.fieldAddr 1 (.t 5)) 34 false,oG 36 (.load .sc (.t 35)) 34 false,oG 37 (.len (.t 36)) 34 false,oG 38 (.bin .neq (.t 37) (kI 32)) 34 false,oO 39 (.pick (.t 34) (.k (.c (.d (.bool true)))) (.t 38))])
 (.cond (.t 39) (.seq (.reg [oO 2 (.mv (.k (.c (.d (.bool false)))))]) (.ret)) (.skip))) (.reg [oM 40 3,oO 41 (.fieldAddr 0 (.t 5)),oO 42 (.load .sc (.t 41)),oN (.mpSet .i64 (.t 40) (.t 42) (.k (.c (.d (.bool true)))))])))) (.reg [oO 43 (.bin .add (.t 20) (kI 1)),oM 20 43])))
def vI:aH:=⟨1,44,.seq (.reg [oO 1 (.box .roBox (.t 0)),oO 2 (.mv (.k (.c (.d (.bool false)))))]) (.seq (.seq (.reg [oO 6 (.fieldAddr 0 (.t 1)),oO 7 (.load .sc (.t 6)),oO 8 (.len (.t 7)),oO 9 (.bin .lss (.t 8) (kI 1)),oM 10 9,oG 11 (.fieldAddr 0 (.t 1)) 10 false,oG 12 (.load .sc (.t 11)) 10 false,oG 13 (.len (.t 12)) 10 false,oG 14 (.bin .gtr (.t 13) (kI 4)) 10 false,oO 15 (.pick (.t 10) (.k (.c (.d (.bool true)))) (.t 14))]) (.cond (.t 15) (.seq (.reg [oO 2 (.mv (.k (.c (.d (.bool false)))))]) (.ret)) (.skip))) (.seq (.reg [oO 16 (.mkMp .i64 none),oM 3 16]) (.seq (.seq (.reg [oO 17 (.fieldAddr 0 (.t 1)),oO 18 (.load .sc (.t 17)),oO 19 (.len (.t 18)),oO 20 (.mv (kI 0))]) (.block 0 (.loop pf))) (.seq (.reg [oO 2 (.mv (.k (.c (.d (.bool true)))))]) (.ret))))),[(2,none)]⟩
theorem WQ:aG Tryz.prog { own:=[],comp:=[],frz:=[],nils:=[] } Tryz.f65=some vI:=by kernel_rfl
def qN (l:List Fd) (i:Nat):St:=⟨aQ [(3,.w (.c (.mp 1))),(18,.w (.c (.d (.sl (l.map bV))))),(19,.w (.c (.d (.int .i64 (l.length:Int))))),(20,.w (.c (.d (.int .i64 (i:Int)))))],hL [(1,.mp .i64 (iR (mH l i)))],uL [1]⟩
set_option maxHeartbeats 3200000 in
theorem Oj (G:ah) (l:List Fd) (hl:l.length≤9223372036854775807):aw Tryz.prog G 65 [bp l] (.w (.c (.d (.bool (decide (dj l)))))):=by
  refine aI Tryz.func65 WQ rfl rfl ?_;unfold bp;rcases abL l.length 1 with h1 | h1
  ·have hno:¬ dj l:=fun h=>by have:=h.1; omega
   rw[decide_eq_false hno];simp only[vI,af,ae,aa,seval,iteOmega,toNatUp];exact aL
  ·rcases abL 4 l.length with h4 | h4
   ·have hno:¬ dj l:=fun h=>by have:=h.2.1; omega
    have g4:((l.length:Int)>4)=True:=eq_true (by omega);rw[decide_eq_false hno];simp only[vI,af,ae,aa,seval,iteOmega,toNatUp,g4];exact aL
   ·have g4:((l.length:Int)>4)=False:=eq_false (by omega);simp only[vI,af,ae,aa,seval,iteOmega,toNatUp,dD,g4];refine aU (qN l) (fun i=>l.length-i) (fun i=>i≤l.length∧∀ j,j<i→jN (l.getD j default)∧∀ k,k<j→(l.getD k default).ty≠(l.getD j default).ty) 0 ⟨abc _,fun j hj=>by omega⟩ ?_ ?_
    ·refine aj (fun i=>128) ?_ ?_ rfl rfl <;> simp only[wx,ai,am,aa,seval,iteOmega,toNatUp,mH,dD]
    ·rintro i ⟨hi,hok⟩;by_cases hlt:i<l.length
     ·have g:=nG hlt;have hno:¬ jN (l.getD i default)→¬ dj l:=fun h hr=>h (nc hr hlt).1
      have hno2:∀ k,k<i→(l.getD k default).ty=(l.getD i default).ty→¬ dj l:=fun k hk e hr=>(nc hr hlt).2 k hk e
      have hgo:jN (l.getD i default)→(∀ k,k<i→(l.getD k default).ty≠(l.getD i default).ty)→∀ j,j<i+1→jN (l.getD j default)∧∀ k,k<j→(l.getD k default).ty≠(l.getD j default).ty:=fun a b j hj=>by
        rcases abL j i with h | h
        ·exact hok j h
        ·obtain rfl:j=i:=by omega
         exact⟨a,b⟩
      have hms:=Ps l (l.getD i default).ty i;have hst:mH l (i+1)=cu (mH l i) (l.getD i default).ty (.bool true):=rfl;have ci:=ZE G (l.getD i default).ty;by_cases h0:0≤(l.getD i default).ty∧(l.getD i default).ty≤4294967295
      ·rw[show xY (l.getD i default).ty=true from decide_eq_true h0] at ci;by_cases h5:∃ k,k<i∧(l.getD k default).ty=(l.getD i default).ty
       ·obtain⟨k,h6,h7⟩:=h5;rw[if_pos ⟨k,h6,h7⟩] at hms;rw[decide_eq_false (hno2 k h6 h7)];simp only[pf,qN,ae,aa,seval,iteOmega,toNatUp,dD,aC,g,bV];refine sC (ci) ?_;simp only[dD,hms,ae,aa,seval,iteOmega,toNatUp];exact aL
       ·rw[if_neg h5] at hms;by_cases h3:(l.getD i default).da.length=32
        ·simp only[pf,qN,ae,aa,seval,iteOmega,toNatUp,dD,aC,g,bV];refine sC (ci) ?_;simp only[dD,hms,h3,ae,aa,seval,iteOmega,toNatUp];refine aM (i+1) (by omega) ⟨by omega,hgo ⟨by omega,by omega,h3⟩ fun k hk e=>h5 ⟨k,hk,e⟩⟩ (aj (fun _=>1) ?_ ?_ rfl (by simp only[abu,adh,Ob.ids,A0]; rfl)) <;> simp only[wx,ai,am,aa,seval,iteOmega,toNatUp,dD,mH]
        ·rw[decide_eq_false (hno fun h=>h3 h.2.2)];have h4':(((l.getD i default).da.length:Int)=32)=False:=eq_false (by omega);simp only[pf,qN,ae,aa,seval,iteOmega,toNatUp,dD,aC,g,bV];refine sC (ci) ?_;simp only[dD,hms,h4',ae,aa,seval,iteOmega,toNatUp];exact aL
      ·rw[show xY (l.getD i default).ty=false from decide_eq_false h0] at ci;rw[decide_eq_false (hno fun h=>h0 ⟨h.1,h.2.1⟩)];simp only[pf,qN,ae,aa,seval,iteOmega,toNatUp,dD,aC,g,bV];refine sD (ci) ?_;exact aL
     ·obtain rfl:i=l.length:=by omega
      rw[decide_eq_true (NL (by omega) (by omega) hok)];simp only[pf,qN,ae,aa,seval,iteOmega,toNatUp,dD];exact aL
def mV:aH:=⟨4,71,.seq (.reg [oO 4 (.box .roBox (.t 0)),oO 6 (.box .roBox (.t 2)),oO 8 (.mv (.k (.c .nil))),oO 9 (.mv (kI 0))]) (.seq (.seq (.reg [oO 14 (.load (.ag 1) (.t 4)),oO 15 (.call 65 [(.t 14)] none),oO 16 (.un .not (.t 15))]) (.cond (.t 16) (.seq (.reg [oO 8 (.mv (.k (.c .nil))),oO 9 (.mv (kI 3))]) (.ret)) (.skip))) (.seq (.seq (.reg [oM 17 1,oO 18 (.bin .lss (.t 17) (kI 0)),oM 19 18,oG 20 (.mv (.t 1)) 19 false,oG 21 (.bin .geq (.t 20) (kI 65536)) 19 false,oO 22 (.pick (.t 19) (.k (.c (.d (.bool true)))) (.t 21))]) (.cond (.t 22) (.seq (.reg [oO 8 (.mv (.k (.c .nil))),oO 9 (.mv (kI 4))]) (.ret)) (.skip))) (.seq (.seq (.reg [oO 23 (.fieldAddr 0 (.t 6)),oO 24 (.load .sc (.t 23)),oO 25 (.len (.t 24)),oO 26 (.bin .neq (.t 25) (kI 32)),oM 27 26,oG 28 (.fieldAddr 1 (.t 6)) 27 false,
 oG 29 (.load .sc (.t 28)) 27 false,oG 30 (.len (.t 29)) 27 false,oG 31 (.bin .neq (.t 30) (kI 32)) 27 false,oO 32 (.pick (.t 27) (.k (.c (.d (.bool true)))) (.t 31))]) (.cond (.t 32) (.seq (.reg [oO 8 (.mv (.k (.c .nil))),oO 9 (.mv (kI 5))]) (.ret)) (.skip))) (.seq (.seq (.reg [oM 33 3,oO 34 (.len (.t 33)),oO 35 (.bin .neq (.t 34) (kI 16))]) (.cond (.t 35) (.seq (.reg [oO 8 (.mv (.k (.c .nil))),oO 9 (.mv (kI 3))]) (.ret)) (.skip))) (.seq (.reg [oO 36 (.fieldAddr 0 (.t 4)),oO 37 (.load .sc (.t 36)),oO 38 (.idxSl 2 (.t 37) (kI 0)),oO 39 (.fieldAddr 0 (.t 38)),oO 40 (.load .sc (.t 39)),oO 41 (.conv .u64 (.t 40)),oO 42 (.call 91 [(.t 41),(kI 4)] none),oM 10 42]) (.seq (.reg [oM 43 1,oO 44 (.conv .u64 (.t 43)),oO 45 (.call 91 [(.t 44),(kI 2)] none),oO 46 (.call 91 [(.k (.c (.d (.int .u64 0)))),(kI 2)] none),
 oO 47 (.fieldAddr 0 (.t 6)),oO 48 (.load .sc (.t 47)),oO 49 (.fieldAddr 1 (.t 6)),oO 50 (.load .sc (.t 49)),oO 51 (.bldSl false 4 1 (.sl []) [(0,(.t 45)),(1,(.t 46)),(2,(.t 48)),(3,(.t 50))]),oO 52 (.call 90 [(.t 51)] none),oM 11 52]) (.seq (.reg [oO 54 (.fieldAddr 0 (.t 4)),oO 55 (.load .sc (.t 54)),oO 56 (.idxSl 2 (.t 55) (kI 0)),oO 57 (.fieldAddr 1 (.t 56)),oO 58 (.load .sc (.t 57)),oM 59 10,oM 60 3,oO 61 (.bldSl false 2 1 (.sl []) [(0,(.t 59)),(1,(.t 60))]),oM 62 11,oO 63 (.call 92 [(.t 58),(.t 61),(.t 62)] none),oM 53 63,oO 64 (.extract (.t 53) 0),oO 65 (.extract (.t 53) 1),oM 12 64,oM 13 65]) (.seq (.reg [oM 66 10,oM 67 3,oM 68 12,oO 69 (.bldSl false 3 1 (.sl []) [(0,(.t 66)),(1,(.t 67)),(2,(.t 68))]),oO 70 (.call 90 [(.t 69)] none),oM 8 70,oO 9 (.mv (kI 0))]) (.ret))))))))),[(8,none),(9,none)]⟩
theorem WR:aG Tryz.prog { own:=[],comp:=[],frz:=[],nils:=[] } Tryz.f112=some mV:=by kernel_rfl
set_option maxHeartbeats 3200000 in
theorem ZF (G:ah) (l:List Fd) (algo:Int) (up dn nonce:List UInt8) (hl:l.length≤9223372036854775807):aw Tryz.prog G 112 [bp l,.int .i64 algo,df up dn,.sl (nonce.map bD)] (.tup [.c (.d (.sl ((mF l algo up dn nonce).map bD))),.c (.d (.int .i64 (gC l algo up dn nonce)))]):=by
  refine aI Tryz.func112 WR rfl rfl ?_;have c1:=Oj G l hl;by_cases hr:dj l
  ·rw[decide_eq_true hr] at c1;have e0:gC l algo up dn nonce=if algo<0∨65535<algo then 4 else if up.length≠32∨dn.length≠32 then 5 else if nonce.length≠16 then 3 else 0:=if_pos hr
   rcases adi algo 0 with h1 | h1
   ·have e:gC l algo up dn nonce=4:=by rw[e0,if_pos (.inl h1)]
    rw[jF e (by decide),e];unfold bp df at *
    simp only[mV,af,ae,aa,seval,iteOmega,toNatUp];refine sD (c1) ?_;exact aE
   ·rcases adi 65535 algo with h2 | h2
    ·have e:gC l algo up dn nonce=4:=by rw[e0,if_pos (.inr h2)]
     have g2:(algo≥65536)=True:=eq_true (by omega);rw[jF e (by decide),e];unfold bp df at *
     simp only[mV,af,ae,aa,seval,iteOmega,toNatUp];refine sC (c1) ?_;simp only[g2,ae,aa,seval,iteOmega,toNatUp];exact aE
    ·have g2:(algo≥65536)=False:=eq_false (by omega);rw[if_neg (by omega)] at e0;by_cases h3:up.length=32
     ·by_cases h4:dn.length=32
      ·rw[if_neg (by omega)] at e0;by_cases h5:nonce.length=16
       ·rw[if_neg (by omega)] at e0;have eB:mF l algo up dn nonce=dO (l.getD 0 default) algo up dn nonce:=if_pos e0;rw[e0,eB];have g0:=nG (l:=l) (i:=0) (by have:=hr.1; omega);obtain⟨⟨m1,m2,m3⟩,_⟩:=nc hr (i:=0) (by have:=hr.1; omega);have r1:=hr.1;clear e0 eB;generalize l.getD 0 default=m at *
        have hp:=AV algo h3 h4;have hi:(dB m).length=4:=bU _ _;have ha:cP m.da [dB m,nonce] ((fb algo up dn).length:Int)=0:=zZ m3 (by simp) (fun x hx=>by simp at hx; rcases hx with rfl | rfl <;> omega) (by omega);have hs:(fU m.da [dB m,nonce] (fb algo up dn)).length=84:=by rw[uR ha,aba,jA,po,hp]
        have d1:=pR G m.ty.toNat 4 (by decide);rw[show (4:Int).toNat=4 from rfl,show aV m.ty.toNat 4=dB m from rfl,show ((m.ty.toNat:Nat):Int)=m.ty by omega] at d1;have d2:=pR G algo.toNat 2 (by decide);rw[show (2:Int).toNat=2 from rfl,show ((algo.toNat:Nat):Int)=algo by omega] at d2;have d0:=pR G 0 2 (by decide);rw[show aV 0 (2:Int).toNat=[0,0] from by decide] at d0;have d3:=gV G [aV algo.toNat 2,[0,0],up,dn] (by simp) (by rw[u5]; omega);rw[u5] at d3;have d4:=Yg G m.da [dB m,nonce] (fb algo up dn) (by omega) (by simp) (fun x hx=>by simp at hx; rcases hx with rfl | rfl <;> omega) (by omega);rw[ha] at d4;have d5:=gV G [dB m,nonce,fU m.da [dB m,nonce] (fb algo up dn)] (by simp) (by simp only[acV,acG,aba,acs,hi,h5,hs]; omega);rw[Ll] at d5;unfold cT at d4;generalize dO m algo up dn nonce=B at *
        generalize fU m.da [dB m,nonce] (fb algo up dn)=S at *
        generalize fb algo up dn=P at *
        generalize dB m=I at *
        generalize aV algo.toNat 2=A at *
        simp only[abd,abo] at d0 d3 d4 d5;have haz:=zF l;unfold bp df at *
        simp only[mV,af,ae,aa,seval,iteOmega,toNatUp];refine sC (c1) ?_;simp only[g2,h3,h4,h5,aC,g0,haz,bV,ae,aa,seval,iteOmega,toNatUp];refine sD (d1) ?_;refine sD (d2) ?_;refine sD (d0) ?_;refine aW d3 (by simp only[ae,aa,seval,iteOmega,toNatUp] <;> rfl) (.inl rfl) ?_;simp only[ae,aa,seval,iteOmega,toNatUp,aC,g0,haz,bV];refine sD (d4) ?_;refine sD (d5) ?_;exact aE
       ·rw[if_pos h5] at e0;rw[jF e0 (by decide),e0];unfold bp df at *
        simp only[mV,af,ae,aa,seval,iteOmega,toNatUp];refine sC (c1) ?_;simp only[g2,h3,h4,ae,aa,seval,iteOmega,toNatUp];exact aE
      ·have e:gC l algo up dn nonce=5:=by rw[e0,if_pos (.inr h4)]
       rw[jF e (by decide),e];unfold bp df at *
       simp only[mV,af,ae,aa,seval,iteOmega,toNatUp];refine sC (c1) ?_;simp only[g2,h3,ae,aa,seval,iteOmega,toNatUp];exact aE
     ·have e:gC l algo up dn nonce=5:=by rw[e0,if_pos (.inl h3)]
      rw[jF e (by decide),e];unfold bp df at *
      simp only[mV,af,ae,aa,seval,iteOmega,toNatUp];refine sC (c1) ?_;simp only[g2,ae,aa,seval,iteOmega,toNatUp];exact aE
  ·rw[decide_eq_false hr] at c1;have e:gC l algo up dn nonce=3:=if_neg hr;rw[jF e (by decide),e];unfold bp df at *
   simp only[mV,af,ae,aa,seval,iteOmega,toNatUp];refine sD (c1) ?_;exact aE
set_option maxHeartbeats 6400000
def Ol:aH:=⟨1,13,.seq (.reg [oO 2 (.mv (.k (.c .nil))),oO 3 (.mv (kI 0))]) (.seq (.reg [oM 4 0,oO 5 (.bldSl false 1 1 (.int .i64 0) [(0,(.t 4))]),oO 6 (.call 53 [(.t 5)] none),oO 7 (.call 52 [(kI 2),(.t 6)] none),oO 8 (.call 52 [(kI 0),(.k (.c .nil))] none),oO 9 (.bldSl false 2 3 (.agg [(.bool false),(.int .i64 0),(.sl [])]) [(0,(.t 7)),(1,(.t 8))]),oO 10 (.call 10 [(.t 9)] none),oO 11 (.extract (.t 10) 0),oO 12 (.extract (.t 10) 1),oM 2 11,oM 3 12]) (.ret)),[(2,none),(3,none)]⟩
theorem ZG:aG Tryz.prog { own:=[],comp:=[],frz:=[],nils:=[] } Tryz.f68=some Ol:=by kernel_rfl
theorem C7 (G:ah) (k:Int) (hk:0≤k∧k≤65535):aw Tryz.prog G 68 [.int .i64 k] (.tup [.c (.d (.sl ((fL k).map bD))),.c (.d (.int .i64 0))]):=by
  refine aI Tryz.func68 ZG rfl rfl ?_;have hs:bA [k]:=fun n hn=>by rw[abe.1 hn]; exact hk
  have c1:=oC G [k] (by simp) hs;simp only[abd,abo,zD] at c1;have c2:=jO G 2 (aT [k]);have c3:=jO G 0 [];have bl:(aT [k]).length=2:=eU _;obtain⟨q1,q2⟩:=s6 (l:=[⟨true,2,aT [k]⟩,⟨true,0,[]⟩]) (by
    intro r hr;simp only[abr,ac0,or_false] at hr;rcases hr with rfl | rfl
    ·exact fg (by decide) (by omega)
    ·exact fg (by decide) (by decide)) (by simp)
  have c4:=Pj G [⟨true,2,aT [k]⟩,⟨true,0,[]⟩] (by simp) (by
    intro r hr;simp only[abr,ac0,or_false] at hr;rcases hr with rfl | rfl
    ·dsimp only; omega
    ·simp)
  rw[q1,q2] at c4;have hR:fL k=bc [⟨true,2,aT [k]⟩,⟨true,0,[]⟩]:=rfl;rw[← hR] at c4;simp only[abd,abo,ak] at c4 c3;clear q1 q2 hR;generalize fL k=R at *
  generalize aT [k]=B at *
  simp only[Ol,af,ae,aa,seval,iteOmega,toNatUp];refine sD (c1) ?_;refine sD (c2) ?_;refine sD (c3) ?_;refine sD (c4) ?_;exact aE
def lH (ns:List (List UInt8)):Prop:=(∀ n∈ns,n.length=16)∧1≤ns.length∧ns.length≤8
instance (ns:List (List UInt8)):Decidable (lH ns):=by unfold lH; infer_instance
def ql (ns:List (List UInt8)) (i:Nat):St:=⟨aQ [(0,.w (.c (.d (cT ns)))),(5,.w (.c (.d (cT ns)))),(6,.w (.c (.d (.int .i64 (ns.length:Int))))),(7,.w (.c (.d (.int .i64 (i:Int)))))],hL [],uL []⟩
def pz:aN := .seq (.reg [oO 8 (.bin .lss (.t 7) (.t 6))]) (.seq (.cond (.t 8) (.skip) (.exit 0)) (.seq (.block 1 (.seq (.reg [oO 9 (.idxSl 1 (.t 5) (.t 7)),oO 10 (.load .sc (.t 9)),oM 4 10]) (.seq (.reg [oM 11 4,oO 12 (.len (.t 11)),oO 13 (.bin .neq (.t 12) (kI 16))]) (.cond (.t 13) (.seq (.reg [oO 2 (.mv (.k (.c (.d (.bool false)))))]) (.ret)) (.skip))))) (.reg [oO 14 (.bin .add (.t 7) (kI 1)),oM 7 14])))
def Om:aH:=⟨1,23,.seq (.reg [oO 2 (.mv (.k (.c (.d (.bool false)))))]) (.seq (.seq (.reg [oM 5 0,oO 6 (.len (.t 5)),oO 7 (.mv (kI 0))]) (.block 0 (.loop pz))) (.seq (.reg [oM 15 0,oO 16 (.len (.t 15)),oO 17 (.bin .geq (.t 16) (kI 1)),oM 18 17,oG 19 (.mv (.t 0)) 18 true,oG 20 (.len (.t 19)) 18 true,oG 21 (.bin .leq (.t 20) (kI 8)) 18 true,oO 22 (.pick (.t 18) (.t 21) (.k (.c (.d (.bool false))))),oM 2 22]) (.ret))),[(2,none)]⟩
theorem ZH:aG Tryz.prog { own:=[],comp:=[],frz:=[],nils:=[] } Tryz.f70=some Om:=by kernel_rfl
theorem aaH (G:ah) (ns:List (List UInt8)) (hn:ns.length≤1000000):aw Tryz.prog G 70 [cT ns] (.w (.c (.d (.bool (decide (lH ns)))))):=by
  refine aI Tryz.func70 ZH rfl rfl ?_;simp only[Om,af,ae,aa,seval,iteOmega,toNatUp];refine aU (ql ns) (fun i=>ns.length-i) (fun i=>i≤ns.length∧∀ n∈ns.take i,n.length=16) 0 ⟨abc _,by rw[abS]; exact fun n h=>by cases h⟩ ?_ ?_
  ·refine aj (fun _=>0) ?_ ?_ rfl rfl <;> simp only[wx,ai,am,aa,seval,iteOmega,toNatUp] <;> first | rfl | exact⟨rfl,rfl⟩ | skip
  ·rintro i ⟨hi,hp⟩;by_cases hlt:i<ns.length
   ·have g:=lU hlt;have hm:ns.getD i []∈ns:=by rw[abb,aa7 hlt]; exact abG hlt
    have hs:=nO hlt;generalize ns.getD i []=x at *
    by_cases h1:x.length=16
    ·have g1:((x.length:Int)=16)=True:=eq_true (by omega);have hn:∀ n∈ns.take (i+1),n.length=16:=by
       rw[hs];intro n q;rcases abn.1 q with q | q
       ·exact hp n q
       ·rw[abe.1 q]; exact h1
     simp only[pz,ql,ae,aa,seval,iteOmega,toNatUp,aC,g,g1];refine aM (i+1) (by omega) ⟨by omega,hn⟩ (aj (fun i=>i) ?_ ?_ rfl rfl) <;> simp only[wx,ai,am,aa,seval,iteOmega,toNatUp] <;> first | rfl | exact⟨rfl,rfl⟩ | skip
    ·have g1:((x.length:Int)=16)=False:=eq_false (by omega);rw[decide_eq_false (fun q:lH ns=>h1 (q.1 x hm))];simp only[pz,ql,ae,aa,seval,iteOmega,toNatUp,aC,g,g1];exact aL
   ·rw[aa9 (by omega)] at hp;by_cases h1:1≤ns.length
    ·have g1:((ns.length:Int)≥1)=True:=eq_true (by omega);by_cases h2:ns.length≤8
     ·have g2:((ns.length:Int)≤8)=True:=eq_true (by omega);rw[decide_eq_true (show lH ns from ⟨hp,h1,h2⟩)];simp only[pz,ql,ae,aa,seval,iteOmega,toNatUp,g1,g2];exact aL
     ·have g2:((ns.length:Int)≤8)=False:=eq_false (by omega);rw[decide_eq_false (fun q:lH ns=>h2 q.2.2)];simp only[pz,ql,ae,aa,seval,iteOmega,toNatUp,g1,g2];exact aL
    ·have g1:((ns.length:Int)≥1)=False:=eq_false (by omega);rw[decide_eq_false (fun q:lH ns=>h1 q.2.1)];simp only[pz,ql,ae,aa,seval,iteOmega,toNatUp,g1];exact aL
def nM (p:d9):List Ek:=(if p.ho.size=0 then [] else [⟨true,6,p.ho.data.toList⟩])++(if p.pt=0 then [] else [⟨true,7,aT [p.pt]⟩])
theorem C8 (p:d9):nM p++[⟨true,0,[]⟩]=cd p:=by unfold nM cd; rw[abq]
def sI:aH:=⟨1,26,.seq (.reg [oO 1 (.box .roBox (.t 0)),oO 2 (.mv (.k (.c .nil)))]) (.seq (.reg [oO 3 (.mv (.k (.c .nil)))]) (.seq (.seq (.reg [oO 4 (.fieldAddr 2 (.t 1)),oO 5 (.load .sc (.t 4)),oO 6 (.bin .neq (.t 5) (.k (.c (.d (.str ⟨#[]⟩)))))]) (.cond (.t 6) (.reg [oM 7 3,oO 8 (.fieldAddr 2 (.t 1)),oO 9 (.load .sc (.t 8)),oO 10 (.s2b false (.t 9)),oO 11 (.call 52 [(kI 6),(.t 10)] none),oO 12 (.bldSl false 1 3 (.agg [(.bool false),(.int .i64 0),(.sl [])]) [(0,(.t 11))]),oO 13 (.app false 3 40 (.t 7) (.t 12)),oM 3 13]) (.skip))) (.seq (.seq (.reg [oO 14 (.fieldAddr 3 (.t 1)),oO 15 (.load .sc (.t 14)),oO 16 (.bin .neq (.t 15) (kI 0))]) (.cond (.t 16) (.reg [oM 17 3,oO 18 (.fieldAddr 3 (.t 1)),oO 19 (.load .sc (.t 18)),oO 20 (.bldSl false 1 1 (.int .i64 0) [(0,(.t 19))]),oO 21 (.call 53 [(.t 20)] none),
 oO 22 (.call 52 [(kI 7),(.t 21)] none),oO 23 (.bldSl false 1 3 (.agg [(.bool false),(.int .i64 0),(.sl [])]) [(0,(.t 22))]),oO 24 (.app false 3 40 (.t 17) (.t 23)),oM 3 24]) (.skip))) (.seq (.reg [oM 25 3,oM 2 25]) (.ret))))),[(2,none)]⟩
theorem ZI:aG Tryz.prog { own:=[],comp:=[],frz:=[],nils:=[] } Tryz.f72=some sI:=by kernel_rfl
theorem aaI (G:ah) (p:d9) (h:p.ho.size≤1000000) (hs:bA [p.pt]):aw Tryz.prog G 72 [di p] (.w (.c (.d (.sl ((nM p).map ak))))):=by
  refine aI Tryz.func72 ZI rfl rfl ?_;have c1:=jO G 6 p.ho.data.toList;have c2:=oC G [p.pt] (by simp) hs;simp only[abd,abo,zD] at c2;have c3:=jO G 7 (aT [p.pt]);have sd:p.ho.size≤maxLen:=by unfold maxLen; omega
  unfold di nM;by_cases h1:p.ho.size=0
  ·have e1:=oh h1;rw[if_pos h1];by_cases h2:p.pt=0
   ·have g2:=eq_true h2;rw[if_pos h2];simp only[sI,af,ak,ae,aa,seval,iteOmega,toNatUp,e1,g2,sd];exact aL
   ·have g2:=eq_false h2;rw[if_neg h2];simp only[sI,af,ak,ae,aa,seval,iteOmega,toNatUp,e1,g2,sd];refine sD (c2) ?_;refine sC (c3) ?_;simp only[a7,ae,aa,seval,iteOmega,toNatUp];exact aL
  ·have e1:=om h1;rw[if_neg h1];by_cases h2:p.pt=0
   ·have g2:=eq_true h2;rw[if_pos h2];simp only[sI,af,ak,ae,aa,seval,iteOmega,toNatUp,e1,g2,sd];refine sC (c1) ?_;simp only[a7,g2,ae,aa,seval,iteOmega,toNatUp];exact aL
   ·have g2:=eq_false h2;rw[if_neg h2];simp only[sI,af,ak,ae,aa,seval,iteOmega,toNatUp,e1,g2,sd];refine sC (c1) ?_;simp only[a7,g2,ae,aa,seval,iteOmega,toNatUp];refine sD (c2) ?_;refine sC (c3) ?_;simp only[a7,ae,aa,seval,iteOmega,toNatUp];exact aL
def C9 (r:List Fd) (c:Ch) (v a:Int) (ns:List (List UInt8)) (i:Nat):St:=⟨aQ [(6,.w (.c (.rp [.sl (r.map bV)]))),(13,.w (.c (.own 1 3 0 (eM r c v a ns i).length))),(14,.w (.c (.d (.int .i64 a)))),(15,.w (.c (.ptr 2 1 0 0))),(66,.w (.c (.d (cT ns)))),(67,.w (.c (.d (.int .i64 (ns.length:Int))))),(68,.w (.c (.d (.int .i64 (i:Int)))))],
  hL [(1,.row 3 ((eM r c v a ns i).map ak)),(2,.box [.d (.sl ((bg c v a 0).map bD)),.d (.sl ((bg c v a 1).map bD))])],uL [1,2]⟩
def Aj:aN := .seq (.reg [oO 69 (.bin .lss (.t 68) (.t 67))]) (.seq (.cond (.t 69) (.skip) (.exit 0)) (.seq (.block 1 (.seq (.reg [oO 70 (.idxSl 1 (.t 66) (.t 68)),oO 71 (.load .sc (.t 70)),oM 18 71]) (.seq (.reg [oO 73 (.load (.ag 1) (.t 6)),oM 74 14,oO 75 (.load (.ag 2) (.t 15)),oM 76 18,oO 77 (.call 112 [(.t 73),(.t 74),(.t 75),(.t 76)] none),oM 72 77,oO 78 (.extract (.t 72) 0),oO 79 (.extract (.t 72) 1),oM 19 78,oM 20 79]) (.reg [oM 80 13,oM 81 19,oO 82 (.build [(.d (.bool false)),(.d (.int .i64 0)),.nil] [(1,1,(kI 5)),(2,1,(.t 81))]),oO 83 (.bldSl false 1 3 (.agg [(.bool false),(.int .i64 0),(.sl [])]) [(0,(.t 82))]),oO 84 (.app false 3 40 (.t 80) (.t 83)),oM 13 84])))) (.reg [oO 85 (.bin .add (.t 68) (kI 1)),oM 68 85])))
def wn:aH:=⟨5,87,.seq (.reg [oO 5 (.box .roBox (.t 0)),oO 6 (.box .roBox (.t 1)),oO 7 (.box .roBox (.t 2)),oO 10 (.mv (.k (.c .nil)))]) (.seq (.reg [oM 22 3,oO 23 (.call 111 [(.t 22),(kI 1)] none),oO 24 (.fieldAddr 0 (.t 5)),oO 25 (.load .sc (.t 24)),oO 26 (.call 18 [(.t 23),(.t 25)] none),oM 21 26,oO 27 (.extract (.t 21) 0),oO 28 (.extract (.t 21) 1),oM 11 27,oM 12 28]) (.seq (.seq (.reg [oM 29 12,oO 30 (.un .not (.t 29))]) (.cond (.t 30) (.seq (.reg [oO 31 (.call 52 [(kI 1),(.k (.c .nil))] none),oO 32 (.bldSl true 1 3 (.agg [(.bool false),(.int .i64 0),(.sl [])]) [(0,(.t 31))]),oM 10 32]) (.ret)) (.skip))) (.seq (.reg [oM 33 11,oO 34 (.bldSl false 1 1 (.int .i64 0) [(0,(.t 33))]),oO 35 (.call 53 [(.t 34)] none),oO 36 (.call 52 [(kI 1),(.t 35)] none),oO 37 (.bldSl true 1 3 (.agg [(.bool false),(.int .i64 0),(.sl [])]) [(0,(.t 36))]),
 oM 13 37]) (.seq (.reg [oM 39 3,oO 40 (.call 111 [(.t 39),(kI 4)] none),oO 41 (.fieldAddr 1 (.t 5)),oO 42 (.load .sc (.t 41)),oO 43 (.call 18 [(.t 40),(.t 42)] none),oM 38 43,oO 44 (.extract (.t 38) 0),oO 45 (.extract (.t 38) 1),oM 14 44,oM 12 45]) (.seq (.seq (.reg [oM 46 12,oO 47 (.un .not (.t 46))]) (.cond (.t 47) (.seq (.reg [oM 48 13,oO 49 (.call 52 [(kI 4),(.k (.c .nil))] none),oO 50 (.bldSl false 1 3 (.agg [(.bool false),(.int .i64 0),(.sl [])]) [(0,(.t 49))]),oO 51 (.app false 3 40 (.t 48) (.t 50)),oM 10 51]) (.ret)) (.skip))) (.seq (.reg [oM 52 13,oM 53 14,oO 54 (.bldSl false 1 1 (.int .i64 0) [(0,(.t 53))]),oO 55 (.call 53 [(.t 54)] none),oO 56 (.call 52 [(kI 4),(.t 55)] none),oO 57 (.bldSl false 1 3 (.agg [(.bool false),(.int .i64 0),(.sl [])]) [(0,(.t 56))]),oO 58 (.app false 3 40 (.t 52) (.t 57)),
 oM 13 58]) (.seq (.reg [oO 60 (.load (.ag 6) (.t 7)),oM 61 11,oM 62 14,oO 63 (.call 26 [(.t 60),(.t 61),(.t 62)] none),oM 59 63,oO 64 (.extract (.t 59) 0),oO 65 (.extract (.t 59) 1),oO 15 (.alloc [.nil,.nil]),oN (.store (.ag 2) (.t 15) (.t 64)),oM 16 65]) (.seq (.seq (.reg [oM 66 4,oO 67 (.len (.t 66)),oO 68 (.mv (kI 0))]) (.block 0 (.loop Aj))) (.seq (.reg [oM 86 13,oM 10 86]) (.ret)))))))))),[(10,none)]⟩
theorem ZJ:aG Tryz.prog { own:=[32,37],comp:=[],frz:=[],nils:=[] } Tryz.f71=some wn:=by kernel_rfl
theorem aaJ (G:ah) (hF:G.at 0=some (.ra (dR.map wD))) (hG:G.at 1=some (.ra (bK.map wD))) (p:d9) (r:List Fd) (c:Ch) (l:List Ek) (ns:List (List UInt8)) (h1:p.pr.length≤1000000) (h2:p.al.length≤1000000) (hr:r.length≤1000000) (hb:∀ r∈l,r.bo.length≤65535) (hn:ns.length≤8)
    (vC:dt c) (s1:bA p.pr) (s2:bA p.al):aw Tryz.prog G 71 [di p,bp r,aX c,cI l,cT ns] (.w (.c (.fr 3 ((dQ p r c (bz l 1) (bz l 4) ns).map ak)))):=by
  refine aI Tryz.func71 ZJ rfl rfl ?_;have d1:=qj G l 1 fun r hr=>by have:=hb r hr; omega
  have d4:=qj G l 4 fun r hr=>by have:=hb r hr; omega
  have n1:(bz l 1).length≤65535:=abW (ma _) (pG hb 1);have n4:(bz l 4).length≤65535:=abW (ma _) (pG hb 4);have c1:=Pn G (bz l 1) p.pr (by omega) h1;have c4:=Pn G (bz l 4) p.al (by omega) h2;have k1:=jO G 1 [];have k4:=jO G 4 [];simp only[abo] at k1 k4
  have hA:dQ p r c (bz l 1) (bz l 4) ns=match dC (bz l 1) p.pr with
    | none=>[⟨true,1,[]⟩]
    | some v=>⟨true,1,aT [v]⟩::match dC (bz l 4) p.al with
      | none=>[⟨true,4,[]⟩]
      | some a=>⟨true,4,aT [a]⟩::gP r c v a ns:=rfl
  have i1:∀ v,dC (bz l 1) p.pr=some v→0≤v∧v≤65535:=fun v h=>s1 v (lq h).2
  have i4:∀ v,dC (bz l 4) p.al=some v→0≤v∧v≤65535:=fun v h=>s2 v (lq h).2
  generalize bz l 1=N1 at *
  generalize bz l 4=N4 at *
  rw[hA];clear hA;unfold di bp cI at *
  generalize db l=E at *
  rcases hv:dC N1 p.pr with _ | v
  ·rw[hv] at c1;simp only[abY,ab4] at c1;unfold aX;simp only[wn,af,ak,ae,aa,seval,iteOmega,toNatUp];refine sD (d1) ?_;refine sD (c1) ?_;refine sD (k1) ?_;exact dA
  ·rw[hv] at c1;simp only[abQ,ab9] at c1;have j1:=i1 v hv;have b1:=oC G [v] (by simp) (fun n hn=>by rw[abe.1 hn]; exact j1);simp only[abd,abo,zD] at b1;have q1:=jO G 1 (aT [v]);rcases ha:dC N4 p.al with _ | a
   ·rw[ha] at c4;simp only[abY,ab4] at c4;dsimp only;generalize aT [v]=B1 at *
    unfold aX;simp only[wn,af,ak,ae,aa,seval,iteOmega,toNatUp];refine sD (d1) ?_;refine sD (c1) ?_;refine sD (b1) ?_;refine sD (q1) ?_;refine sD (d4) ?_;refine sD (c4) ?_;refine sC (k4) ?_;simp only[a7,ae,aa,seval,iteOmega,toNatUp];exact dA
   ·rw[ha] at c4;simp only[abQ,ab9] at c4;have j4:=i4 a ha;have b4:=oC G [a] (by simp) (fun n hn=>by rw[abe.1 hn]; exact j4);simp only[abd,abo,zD] at b4;have q4:=jO G 4 (aT [a]);have kz:=C1 G hF hG c v a;rw[oD vC j1 j4] at kz;have cm:=fun n:List UInt8=>ZF G r a (bg c v a 0) (bg c v a 1) n (by omega)
    have y0:eM r c v a ns 0=[⟨true,1,aT [v]⟩,⟨true,4,aT [a]⟩]:=rfl;have ye:(⟨true,1,aT [v]⟩::⟨true,4,aT [a]⟩::gP r c v a ns:List Ek)=eM r c v a ns ns.length:=by unfold eM; rw[abv]
    dsimp only;rw[ye];clear ye;unfold aX df bp at *
    simp only[wn,af,ak,ae,aa,seval,iteOmega,toNatUp];refine sD (d1) ?_;refine sD (c1) ?_;refine sD (b1) ?_;refine sD (q1) ?_;refine sD (d4) ?_;refine sD (c4) ?_;refine sD (b4) ?_;refine sC (q4) ?_;simp only[a7,ae,aa,seval,iteOmega,toNatUp];refine sD (kz) ?_;refine aU (C9 r c v a ns) (fun i=>ns.length-i) (fun i=>i≤ns.length) 0 (abc _) ?_ ?_
    ·refine aj (fun i=>if i=1 then 464 else 120) ?_ ?_ rfl rfl <;> simp only[y0,ak,wx,ai,am,aa,seval,iteOmega,toNatUp] <;> first | rfl | exact⟨rfl,rfl⟩ | skip
    ·intro i hi;have az:=mL (eM r c v a ns i);have yl:=rZ r c v a ns i;by_cases hlt:i<ns.length
     ·have g:=lU hlt;have cm:=cm (ns.getD i []);have hs:=Jb (r:=r) (c:=c) (v:=v) (a:=a) hlt;generalize ns.getD i []=x at *
      generalize hR:eM r c v a ns i=Rw at *
      generalize gC r a (bg c v a 0) (bg c v a 1) x=e at *
      simp only[Aj,C9,hR,ae,aa,seval,iteOmega,toNatUp,aC,g];refine sC (cm) ?_;simp only[a7,az,ae,aa,seval,iteOmega,toNatUp];refine aM (i+1) (by omega) (by omega) (aj (fun i=>if i=1 then 672 else 2) ?_ ?_ rfl rfl) <;> simp only[hs,abk,ak,wx,ai,am,aa,seval,iteOmega,toNatUp] <;> first | rfl | exact⟨rfl,rfl⟩ | skip
     ·obtain rfl:i=ns.length:=by omega
      simp only[Aj,C9,ae,aa,seval,iteOmega,toNatUp];exact dA
theorem WS {b:List UInt8} (hF:de b):kW b↔oU (aB b)=true:=by
  unfold kW oU;rw[cF,cF,cF,cF,cF];simp only[abH,ade,decide_eq_true_eq,decide_eq_false_iff_not];constructor
  ·rintro⟨_,h1,h2,h3⟩;omega
  ·rintro⟨h1,h2,h3,h4,h5⟩;exact⟨hF,by omega,by omega,by omega⟩
theorem Da {l:List Ek} {k:Int} (h:0<(aJ l k).length):dm l k=bz l k:=by
  unfold dm bz ea;rw[mS (by rw[cF]; exact h)]
theorem ZK {l:List Ek} (h:oU l=true):0<(aJ l 1).length∧0<(aJ l 4).length:=by
  unfold oU at h;simp only[abH,decide_eq_true_eq] at h;exact⟨h.1,h.2.1⟩
theorem Cg (ns:List (List UInt8)) (ho:ByteArray):ka ns ho↔lH ns∧ho.size≤255:=⟨fun ⟨a,b,c,d⟩=>⟨⟨d,a,b⟩,c⟩,fun ⟨⟨d,a,b⟩,c⟩=>⟨a,b,c,d⟩⟩
theorem ZL {p:d9} {r:List Fd} {c:Ch} {x y:List Int} {ns:List (List UInt8)} (vC:dt c) (vR:dj r) (s1:bA p.pr) (s2:bA p.al) (hn:lH ns):(∀ e∈dQ p r c x y ns,0≤e.ty∧e.ty≤7∧e.bo.length≤255)∧(dQ p r c x y ns).length≤10:=by
  have l2:∀ v:Int,(aT [v]).length≤255:=fun v=>by rw[eU]; exact (show 2*1≤255 by decide)
  have nl:=hn.2.2;unfold dQ;rcases hv:dC x p.pr with _ | v
  ·refine⟨fun e he=>?_,by simp⟩;rw[abe.1 he];exact fg (by decide) (by decide)
  ·have j1:=s1 v (lq hv).2;rcases ha:dC y p.al with _ | a
   ·refine⟨fun e he=>?_,by simp⟩;simp only[abr,ac0,or_false] at he;rcases he with rfl | rfl
    ·exact fg (by decide) (l2 v)
    ·exact fg (by decide) (by decide)
   ·have j4:=s2 a (lq ha).2;have e:(⟨true,1,aT [v]⟩::⟨true,4,aT [a]⟩::gP r c v a ns:List Ek)=eM r c v a ns ns.length:=by unfold eM; rw[abv]
    dsimp only;rw[e];have yl:=rZ r c v a ns ns.length;exact⟨Cf vR (oD vC j1 j4) j4 hn.1,by omega⟩
def jG:aH:=⟨5,91,.seq (.reg [oO 5 (.box .roBox (.t 0)),oO 6 (.box .roBox (.t 1)),oO 7 (.box .roBox (.t 2)),oO 10 (.mv (.k (.c .nil))),oO 11 (.mv (kI 0))]) (.seq (.seq (.reg [oO 15 (.load (.ag 6) (.t 7)),oO 16 (.call 62 [(.t 15)] none),oO 17 (.un .not (.t 16)),oM 18 17,oG 19 (.load (.ag 1) (.t 6)) 18 false,oG 20 (.call 65 [(.t 19)] none) 18 false,oG 21 (.un .not (.t 20)) 18 false,oO 22 (.pick (.t 18) (.k (.c (.d (.bool true)))) (.t 21))]) (.cond (.t 22) (.seq (.reg [oO 10 (.mv (.k (.c .nil))),oO 11 (.mv (kI 3))]) (.ret)) (.skip))) (.seq (.seq (.reg [oO 23 (.fieldAddr 0 (.t 5)),oO 24 (.load .sc (.t 23)),oO 25 (.call 50 [(.t 24)] none),oO 26 (.un .not (.t 25)),oM 27 26,oG 28 (.fieldAddr 1 (.t 5)) 27 false,oG 29 (.load .sc (.t 28)) 27 false,oG 30 (.call 50 [(.t 29)] none) 27 false,oG 31 (.un .not (.t 30)) 27 false,
 oO 32 (.pick (.t 27) (.k (.c (.d (.bool true)))) (.t 31)),oM 33 32,oG 34 (.fieldAddr 3 (.t 5)) 33 false,oG 35 (.load .sc (.t 34)) 33 false,oG 36 (.bldSl false 1 1 (.int .i64 0) [(0,(.t 35))]) 33 false,oG 37 (.call 50 [(.t 36)] none) 33 false,oG 38 (.un .not (.t 37)) 33 false,oO 39 (.pick (.t 33) (.k (.c (.d (.bool true)))) (.t 38))]) (.cond (.t 39) (.seq (.reg [oO 10 (.mv (.k (.c .nil))),oO 11 (.mv (kI 4))]) (.ret)) (.skip))) (.seq (.reg [oM 41 3,oO 42 (.call 66 [(.t 41)] none),oM 40 42,oO 43 (.extract (.t 40) 0),oO 44 (.extract (.t 40) 1),oM 12 43,oM 13 44]) (.seq (.block 0 (.seq (.reg [oM 46 13,oO 47 (.un .not (.t 46)),oM 48 47,oG 49 (.mv (.t 12)) 48 false,oG 50 (.call 67 [(.t 49)] none) 48 false,oG 51 (.un .not (.t 50)) 48 false,oO 52 (.pick (.t 48) (.k (.c (.d (.bool true)))) (.t 51)),
 oM 45 52]) (.cond (.t 45) (.seq (.reg [oO 53 (.call 68 [(kI 1)] none),oO 54 (.extract (.t 53) 0),oO 55 (.extract (.t 53) 1),oM 10 54,oM 11 55]) (.ret)) (.seq (.reg [oM 57 12,oO 58 (.call 69 [(.t 57)] none),oM 56 58]) (.cond (.t 56) (.seq (.reg [oO 59 (.call 68 [(kI 0)] none),oO 60 (.extract (.t 59) 0),oO 61 (.extract (.t 59) 1),oM 10 60,oM 11 61]) (.ret)) (.seq (.reg [oM 63 4,oO 64 (.call 70 [(.t 63)] none),oO 65 (.un .not (.t 64)),oM 66 65,oG 67 (.fieldAddr 2 (.t 5)) 66 false,oG 68 (.load .sc (.t 67)) 66 false,oG 69 (.lenStr (.t 68)) 66 false,oG 70 (.bin .gtr (.t 69) (kI 255)) 66 false,oO 71 (.pick (.t 66) (.k (.c (.d (.bool true)))) (.t 70)),oM 62 71]) (.cond (.t 62) (.seq (.reg [oO 72 (.call 68 [(kI 2)] none),oO 73 (.extract (.t 72) 0),oO 74 (.extract (.t 72) 1),oM 10 73,oM 11 74]) (.ret))
 (.skip)))))))) (.seq (.reg [oO 75 (.load (.ag 4) (.t 5)),oO 76 (.load (.ag 1) (.t 6)),oO 77 (.load (.ag 6) (.t 7)),oM 78 12,oM 79 4,oO 80 (.call 71 [(.t 75),(.t 76),(.t 77),(.t 78),(.t 79)] (some (0,3))),oO 81 (.load (.ag 4) (.t 5)),oO 82 (.call 72 [(.t 81)] none),oO 83 (.app false 3 40 (.t 80) (.t 82)),oM 14 83]) (.seq (.reg [oM 84 14,oO 85 (.call 52 [(kI 0),(.k (.c .nil))] none),oO 86 (.bldSl false 1 3 (.agg [(.bool false),(.int .i64 0),(.sl [])]) [(0,(.t 85))]),oO 87 (.app false 3 40 (.t 84) (.t 86)),oO 88 (.call 10 [(.t 87)] none),oO 89 (.extract (.t 88) 0),oO 90 (.extract (.t 88) 1),oM 10 89,oM 11 90]) (.ret))))))),[(10,none),(11,none)]⟩
theorem ZM:aG Tryz.prog { own:=[80],comp:=[],frz:=[],nils:=[] } Tryz.f28=some jG:=by kernel_rfl
theorem Pt (G:ah) (hF:G.at 0=some (.ra (dR.map wD))) (hG:G.at 1=some (.ra (bK.map wD))) (p:d9) (r:List Fd) (c:Ch) (b:List UInt8) (ns:List (List UInt8)) (h1:p.pr.length≤1000000) (h2:p.al.length≤1000000) (h3:p.ho.size≤1000000) (hr:r.length≤1000000) (hb:b.length≤1000000000) (hn:ns.length≤1000000) (hm:∀ n∈ns,n.length≤1000000):aw Tryz.prog G 28 [di p,bp r,aX c,.sl (b.map bD),.sl (ns.map fun l=>D.sl (l.map bD))] (.tup [.c (.d (.sl ((gQ p r c b ns).map bD))),.c (.d (.int .i64 (cU p r c)))]):=by
  refine aI Tryz.func28 ZM rfl rfl ?_;have c1:=xg G hF hG c;have c2:=Oj G r (by omega);have hno:∀ e,cU p r c=e→e≠0→gQ p r c b ns=[]:=fun e q1 q2=>if_pos (by rw[q1]; exact q2)
  by_cases vC:dt c
  case neg =>
    rw[decide_eq_false vC] at c1;have E:cU p r c=3:=by unfold cU; rw[if_pos fun h=>vC h.1]
    rw[hno 3 E (by decide),E];unfold di bp aX at *
    simp only[jG,af,ae,aa,seval,iteOmega,toNatUp];refine sD (c1) ?_;exact aE
  rw[decide_eq_true vC] at c1;by_cases vR:dj r
  case neg =>
    rw[decide_eq_false vR] at c2;have E:cU p r c=3:=by unfold cU; rw[if_pos fun h=>vR h.2]
    rw[hno 3 E (by decide),E];unfold di bp aX at *
    simp only[jG,af,ae,aa,seval,iteOmega,toNatUp];refine sD (c1) ?_;refine sD (c2) ?_;exact aE
  rw[decide_eq_true vR] at c2;have c3:=qh G p.pr (by omega);have c4:=qh G p.al (by omega);have c5:=qh G [p.pt] (by simp);simp only[abd,abo,zD] at c5;by_cases s1:bA p.pr
  case neg =>
    rw[decide_eq_false s1] at c3;have E:cU p r c=4:=by unfold cU; rw[if_neg (not_not_intro ⟨vC,vR⟩),if_pos fun h=>s1 h.1]
    rw[hno 4 E (by decide),E];unfold di bp aX at *
    simp only[jG,af,ae,aa,seval,iteOmega,toNatUp];refine sD (c1) ?_;refine sD (c2) ?_;refine sD (c3) ?_;exact aE
  rw[decide_eq_true s1] at c3;by_cases s2:bA p.al
  case neg =>
    rw[decide_eq_false s2] at c4;have E:cU p r c=4:=by unfold cU; rw[if_neg (not_not_intro ⟨vC,vR⟩),if_pos fun h=>s2 h.2.1]
    rw[hno 4 E (by decide),E];unfold di bp aX at *
    simp only[jG,af,ae,aa,seval,iteOmega,toNatUp];refine sD (c1) ?_;refine sD (c2) ?_;refine sD (c3) ?_;refine sD (c4) ?_;exact aE
  rw[decide_eq_true s2] at c4;by_cases s3:bA [p.pt]
  case neg =>
    rw[decide_eq_false s3] at c5;have E:cU p r c=4:=by unfold cU; rw[if_neg (not_not_intro ⟨vC,vR⟩),if_pos fun h=>s3 h.2.2]
    rw[hno 4 E (by decide),E];unfold di bp aX at *
    simp only[jG,af,ae,aa,seval,iteOmega,toNatUp];refine sD (c1) ?_;refine sD (c2) ?_;refine sD (c3) ?_;refine sD (c4) ?_;refine sD (c5) ?_;exact aE
  rw[decide_eq_true s3] at c5;have E:cU p r c=0:=by unfold cU; rw[if_neg (not_not_intro ⟨vC,vR⟩),if_neg (not_not_intro ⟨s1,s2,s3⟩)]
  have B0:gQ p r c b ns=if ¬ kW b then fL 1 else if fp (aB b)=true then fL 0 else if ¬ ka ns p.ho then fL 2 else bc (dQ p r c (dm (aB b) 1) (dm (aB b) 4) ns++cd p):=if_neg (not_not_intro E)
  rw[E];clear hno E;have c6:=C3 G b hb;have r1:=C7 G 1 (by decide);have r0:=C7 G 0 (by decide);have r2:=C7 G 2 (by decide);by_cases hFm:de b
  case neg =>
    rw[decide_eq_false hFm,show fc b=[] from if_neg hFm] at c6;rw[B0,if_pos fun q=>hFm q.1];generalize fL 1=R at *
    generalize cI []=M at *
    clear B0 r0 r2;unfold di bp aX at *
    simp only[jG,af,ae,aa,seval,iteOmega,toNatUp];refine sD (c1) ?_;refine sD (c2) ?_;refine sD (c3) ?_;refine sD (c4) ?_;refine sD (c5) ?_;refine sD (c6) ?_;refine sD (r1) ?_;exact aE
  rw[decide_eq_true hFm,show fc b=aB b from if_pos hFm] at c6;obtain⟨hbo,hl⟩:=l9 (b:=b);have hQ:=WS hFm;generalize aB b=L at *
  have c7:=aaE G L;rcases hq:oU L with _ | _
  ·rw[hq] at c7;rw[B0,if_pos fun q=>by rw[hQ.1 q] at hq; cases hq];generalize fL 1=R at *
   clear B0 r0 r2;unfold di bp aX cI at *
   generalize db L=M at *
   simp only[jG,af,ae,aa,seval,iteOmega,toNatUp];refine sD (c1) ?_;refine sD (c2) ?_;refine sD (c3) ?_;refine sD (c4) ?_;refine sD (c5) ?_;refine sD (c6) ?_;refine sD (c7) ?_;refine sD (r1) ?_;exact aE
  obtain⟨a1,a4⟩:=ZK hq;rw[hq] at c7;rw[if_neg (not_not_intro (hQ.2 hq)),Da a1,Da a4] at B0;have c8:=Pq G L (by omega);rcases hS:fp L with _ | _
  case true =>
    rw[hS] at c8;rw[B0,if_pos hS];generalize fL 0=R at *
    clear B0 r1 r2;unfold di bp aX cI at *
    generalize db L=M at *
    simp only[jG,af,ae,aa,seval,iteOmega,toNatUp];refine sD (c1) ?_;refine sD (c2) ?_;refine sD (c3) ?_;refine sD (c4) ?_;refine sD (c5) ?_;refine sD (c6) ?_;refine sD (c7) ?_;refine sD (c8) ?_;refine sD (r0) ?_;exact aE
  rw[hS] at c8;rw[if_neg (by rw[hS]; decide)] at B0;have c9:=aaH G ns hn;by_cases hN:lH ns
  case neg =>
    rw[decide_eq_false hN] at c9;rw[B0,if_pos fun q=>hN ((Cg _ _).1 q).1];generalize fL 2=R at *
    clear B0 r0 r1;unfold di bp aX cI at *
    generalize db L=M at *
    simp only[jG,af,ae,aa,seval,iteOmega,toNatUp];refine sD (c1) ?_;refine sD (c2) ?_;refine sD (c3) ?_;refine sD (c4) ?_;refine sD (c5) ?_;refine sD (c6) ?_;refine sD (c7) ?_;refine sD (c8) ?_;refine sD (c9) ?_;refine sD (r2) ?_;exact aE
  rw[decide_eq_true hN] at c9;by_cases hH:p.ho.size≤255
  case neg =>
    have gH:((p.ho.size:Int)>255)=True:=eq_true (by omega);rw[B0,if_pos fun q=>hH ((Cg _ _).1 q).2];generalize fL 2=R at *
    clear B0 r0 r1;unfold di bp aX cI at *
    generalize db L=M at *
    simp only[jG,af,ae,aa,seval,iteOmega,toNatUp];refine sD (c1) ?_;refine sD (c2) ?_;refine sD (c3) ?_;refine sD (c4) ?_;refine sD (c5) ?_;refine sD (c6) ?_;refine sD (c7) ?_;refine sD (c8) ?_;refine sC (c9) ?_;simp only[gH,ae,aa,seval,iteOmega,toNatUp];refine sD (r2) ?_;exact aE
  have gH:((p.ho.size:Int)>255)=False:=eq_false (by omega);rw[if_neg (not_not_intro ((Cg _ _).2 ⟨hN,hH⟩))] at B0;have ca:=aaJ G hF hG p r c L ns h1 h2 hr hbo hN.2.2 vC s1 s2;have cp:=aaI G p h3 s3;have ce:=jO G 0 [];obtain⟨ok,ol⟩:=ZL (x:=bz L 1) (y:=bz L 4) vC vR s1 s2 hN;obtain⟨q1,q2⟩:=Pr hH ok ol;have hl3:=vG p;have cn:=Pi G (dQ p r c (bz L 1) (bz L 4) ns++cd p) (by rw[aba]; omega) (fun e he=>by
    have:e.bo.length≤255:=((abn.1 he).elim (ok e) (Ce hH e)).2.2;omega)
  rw[q1,q2,← C8] at cn;rw[B0,← C8];have ap:=mL (nM p);have aq:=mL (dQ p r c (bz L 1) (bz L 4) ns);have pl:(nM p).length≤3:=by have:=congrArg List.length (C8 p); rw[aba] at this; omega
  clear B0 r0 r1 r2 ok q1 q2;generalize bc (dQ p r c (bz L 1) (bz L 4) ns++(nM p++[⟨true,0,[]⟩]))=R at *
  generalize dQ p r c (bz L 1) (bz L 4) ns=X at *
  generalize nM p=Y at *
  simp only[abk,abd,abo,ak] at cn ce;unfold di bp aX cI cT at *
  generalize db L=M at *
  have tk:∀ a:D,((X++Y).map ak++[a]).take (X.length+Y.length+1)=X.map ak++(Y.map ak++[a]):=fun a=>by rw[aa9 (by simp; omega),abk,abq]
  simp only[jG,af,ae,aa,seval,iteOmega,toNatUp];refine sD (c1) ?_;refine sD (c2) ?_;refine sD (c3) ?_;refine sD (c4) ?_;refine sD (c5) ?_;refine sD (c6) ?_;refine sD (c7) ?_;refine sD (c8) ?_;refine sC (c9) ?_;simp only[gH,ae,aa,seval,iteOmega,toNatUp];refine sD (ca) ?_;refine sC (cp) ?_;simp only[a7,ap,ae,aa,seval,iteOmega,toNatUp];refine sC (ce) ?_;simp only[a7,ae,aa,seval,iteOmega,toNatUp];refine aW cn (by simp only[ae,aa,seval,iteOmega,toNatUp,tk] <;> rfl) (.inr (gG _ _ _ _)) ?_;simp only[ae,aa,seval,iteOmega,toNatUp];exact aE
end Go.Proofs.YtlghfnidknfakaaGreatDoor
