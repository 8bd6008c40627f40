/- Texts of one's own, merged: from: Layer 1 on data: Put,Get,Same,Join,Hex: what they return. Own work. -/
import Derived.Test.YtlghfnidknfakaaGreatDoorProg
import Derived.Test.YtlghfnidknfakaaGreatDoorMg57
set_option linter.unusedVariables false
set_option linter.unusedSimpArgs false
namespace Go.Proofs.YtlghfnidknfakaaGreatDoor
open Go.RowKit IntWalk
set_option maxHeartbeats 400000
theorem f7 {l:List UInt8} {i:Nat} {x:D} (hi:i<l.length) (hx:x.one=true):jj .sc (.c (.d x)) i 0 (.row 1 (l.map bD))=some (.row 1 ((l.map bD).set i x)):=by
  simp[jj,aL,X3 hi,bD,fP,hx]
theorem te {l:List UInt32} {i:Nat} {x:D} (hi:i<l.length) (hx:x.one=true):jj .sc (.c (.d x)) i 0 (.row 1 (l.map wD))=some (.row 1 ((l.map wD).set i x)):=by
  simp[jj,aL,X3 hi,wD,fP,hx]
theorem gM (l:List UInt8) (i:Nat) (x:UInt8):(l.map bD).set i (bD x)=(l.set i x).map bD:=xC bD l i x
theorem tg (l:List UInt32) (i:Nat) (x:UInt32):(l.map wD).set i (wD x)=(l.set i x).map wD:=xC wD l i x
theorem zp (n:Nat):List.replicate n (D.int .u8 0)=(List.replicate n (0:UInt8)).map bD:=by simp[bD]
def aP (v n:Nat):List UInt8:=(List.range n).map fun i=>UInt8.ofNat (v / 256^(n-1-i))
def ie (v n m:Nat):List UInt8:=List.replicate m 0++(aP v n).drop m
def oV (v:Nat) (n:Int):List UInt8:=if 0≤n∧n≤64 then aP v n.toNat else []
theorem bN (v n:Nat):(aP v n).length=n:=by simp[aP]
theorem vq (v n m:Nat) (h:m≤n):(ie v n m).length=n:=by simp[ie,bN]; omega
theorem CC (v n:Nat):ie v n 0=aP v n:=by simp[ie]
theorem CE (v n:Nat):ie v n n=List.replicate n 0:=by simp[ie,bN]
theorem CF (v n i:Nat) (h:i+1≤n):ie v n i=(ie v n (i+1)).set i (UInt8.ofNat (v / 256^(n-(i+1)))):=by
  apply Y7;intro j;rw[ZV];have hl:i<(aP v n).length:=by rw[bN]; omega
  by_cases hj:i=j
  ·subst hj;rw[if_pos rfl,if_pos (by rw[vq _ _ _ h]; omega)];simp only[ie,List.getElem?_append,Yt,Nat.lt_irrefl,if_false,ZZ,YS,Ze];rw[X3 hl];simp[aP,Nat.sub_sub,Nat.add_comm 1 i]
  ·rw[if_neg hj];simp only[ie,List.getElem?_append,Yt,List.getElem?_replicate,YS];by_cases h1:j<i
   ·rw[if_pos h1,if_pos h1,if_pos (by omega),if_pos (by omega)]
   ·rw[if_neg h1,if_neg (by omega)]
    congr 1; omega
theorem byte_of (v:Nat):D.int .u8 (IntKind.u8.wrap (v:Int))=bD (UInt8.ofNat v):=by
  rw[IntKind.wrap_u8];simp[bD]
def oA (v n m:Nat):St:=⟨aY [(0,.w (.c (.d (.int .u64 ((v / 256^(n-m):Nat):Int))))),(5,.w (.c (.own 1 1 0 n))),(6,.w (.c (.d (.int .i64 ((m:Int)-1)))))],hL [(1,.row 1 ((ie v n m).map bD))],uL [1]⟩
def wN:aO := .seq (.seq (.reg [oM 17 6,oO 18 (.bin .geq (.t 17) (kI 0))]) (.cond (.t 18) (.skip) (.exit 0))) (.seq (.block 1 (.seq (.reg [oM 21 5,oM 22 6,oM 23 0,oO 24 (.conv .u8 (.t 23)),oO 25 (.idxSl 1 (.t 21) (.t 22)),oN (.store .sc (.t 25) (.t 24))]) (.reg [oM 26 0,oO 27 (.bin .shr (.t 26) (.k (.c (.d (.int .u64 8))))),oM 0 27]))) (.reg [oM 19 6,oO 20 (.bin .sub (.t 19) (kI 1)),oM 6 20]))
def ti:aA:=⟨2,29,.seq (.reg [oO 4 (.mv (.k (.c .nil)))]) (.seq (.seq (.reg [oM 7 1,oO 8 (.bin .lss (.t 7) (kI 0)),oM 9 8,oG 10 (.mv (.t 1)) 9 false,oG 11 (.bin .gtr (.t 10) (kI 64)) 9 false,oO 12 (.pick (.t 9) (.k (.c (.d (.bool true)))) (.t 11))]) (.cond (.t 12) (.seq (.reg [oO 4 (.mv (.k (.c .nil)))]) (.ret)) (.skip))) (.seq (.reg [oM 13 1,oO 14 (.make true 1 1 (.int .u8 0) (.t 13) (.t 13)),oM 5 14]) (.seq (.seq (.reg [oM 15 1,oO 16 (.bin .sub (.t 15) (kI 1)),oM 6 16]) (.block 0 (.loop wN))) (.seq (.reg [oM 28 5,oM 4 28]) (.ret))))),[(4,none)]⟩
theorem JA:aw Tryz.prog { own:=[],comp:=[],frz:=[],nils:=[] } Tryz.f91=some ti:=by kernel_rfl
theorem lu (G:ah) (v n:Nat) (hn:n≤64):aj Tryz.prog G 91 [.int .u64 v,.int .i64 n] (.w (.c (.fr 1 ((aP v n).map bD)))):=by
  refine aB Tryz.func91 JA rfl rfl ?_;have e1:IntKind.i64.wrap ((n:Int)-1)=(n:Int)-1:=IntWalk.i64_in _ (by omega);simp only[ti,af,wx,aa,seval,iteOmega,toNatUp,e1];refine bf (oA v n) (fun m=>m) (fun m=>m≤n) n (Ye _) ?_ ?_
  ·refine aD (fun _=>112) ?_ ?_ rfl rfl <;> simp only[wx,aC,aa,seval,iteOmega,toNatUp,CE,zp,ZZ,Nat.pow_zero,Nat.div_one]
  ·intro m hm;rcases YY m with rfl | hpos
   ·simp only[wN,oA,wx,aa,seval,iteOmega,toNatUp,CC];refine eV (id:=1) (n:=n) (s:=1) ?_ ?_ ?_ <;> simp only[wx,aa,seval,iteOmega,toNatUp,bN]
   ·obtain⟨i,rfl⟩:∃ i,m=i+1:=⟨m-1,by omega⟩
    have e2:((i+1:Nat):Int)-1=(i:Int):=by omega
    have hlt:i<(ie v n (i+1)).length:=by rw[vq _ _ _ hm]; omega
    have e3:IntKind.i64.wrap ((i:Int)-1)=(i:Int)-1:=IntWalk.i64_in _ (by omega);simp only[wN,oA,wx,aa,seval,iteOmega,toNatUp,e2,e3,YT,Ze,byte_of,f7 hlt (fB _),gM,← CF _ _ _ hm,IntKind.bits];refine a6 i (by omega) (by omega) (aD id ?_ ?_ rfl rfl) <;> simp only[wx,aC,aa,seval,iteOmega,toNatUp];have e4:v / 256^(n-(i+1)) / 256=v / 256^(n-i):=by
      rw[show n-i=n-(i+1)+1 by omega,Nat.pow_succ,← Nat.div_div_eq_div_mul]
    simpa using congrArg (Nat.cast:Nat→Int) e4
theorem WX (G:ah) (v:Nat) (n:Int):aj Tryz.prog G 91 [.int .u64 v,.int .i64 n] (.w (.c (.fr 1 ((oV v n).map bD)))):=by
  unfold oV;by_cases h:0≤n∧n≤64
  ·rw[if_pos h];obtain⟨n,rfl⟩:=YR h.1;exact lu G v n (by omega)
  ·rw[if_neg h];refine aB Tryz.func91 JA rfl rfl ?_;by_cases h0:n<0
   ·simp only[ti,af,wx,aa,seval,iteOmega,toNatUp];exact p0 (by simp[wx,aa,seval,iteOmega,toNatUp])
   ·have h1:64<n:=by omega
    simp only[ti,af,wx,aa,seval,iteOmega,toNatUp];exact p0 (by simp[wx,aa,seval,iteOmega,toNatUp])
def vX:aO := .seq (.seq (.reg [oM 17 6,oO 18 (.bin .geq (.t 17) (kI 0))]) (.cond (.t 18) (.skip) (.exit 0))) (.seq (.block 1 (.seq (.reg [oM 21 5,oM 22 6,oM 23 0,oO 24 (.conv .u8 (.t 23)),oO 25 (.idxSl 1 (.t 21) (.t 22)),oN (.store .sc (.t 25) (.t 24))]) (.reg [oM 26 0,oO 27 (.bin .shr (.t 26) (.k (.c (.d (.int .u64 8))))),oM 0 27]))) (.reg [oM 19 6,oO 20 (.bin .sub (.t 19) (kI 1)),oM 6 20]))
def sP:aA:=⟨2,29,.seq (.reg [oO 4 (.mv (.k (.c .nil)))]) (.seq (.seq (.reg [oM 7 1,oO 8 (.bin .lss (.t 7) (kI 0)),oM 9 8,oG 10 (.mv (.t 1)) 9 false,oG 11 (.bin .gtr (.t 10) (kI 64)) 9 false,oO 12 (.pick (.t 9) (.k (.c (.d (.bool true)))) (.t 11))]) (.cond (.t 12) (.seq (.reg [oO 4 (.mv (.k (.c .nil)))]) (.ret)) (.skip))) (.seq (.reg [oM 13 1,oO 14 (.make true 1 1 (.int .u8 0) (.t 13) (.t 13)),oM 5 14]) (.seq (.seq (.reg [oM 15 1,oO 16 (.bin .sub (.t 15) (kI 1)),oM 6 16]) (.block 0 (.loop vX))) (.seq (.reg [oM 28 5,oM 4 28]) (.ret))))),[(4,none)]⟩
theorem Ha:aw Tryz.prog { own:=[],comp:=[],frz:=[],nils:=[] } Tryz.f44=some sP:=by kernel_rfl
theorem p7 (G:ah) (v n:Nat) (hn:n≤64):aj Tryz.prog G 44 [.int .u64 v,.int .i64 n] (.w (.c (.fr 1 ((aP v n).map bD)))):=by
  refine aB Tryz.func44 Ha rfl rfl ?_;have e1:IntKind.i64.wrap ((n:Int)-1)=(n:Int)-1:=IntWalk.i64_in _ (by omega);simp only[sP,af,wx,aa,seval,iteOmega,toNatUp,e1];refine bf (oA v n) (fun m=>m) (fun m=>m≤n) n (Ye _) ?_ ?_
  ·refine aD (fun _=>112) ?_ ?_ rfl rfl <;> simp only[wx,aC,aa,seval,iteOmega,toNatUp,CE,zp,ZZ,Nat.pow_zero,Nat.div_one]
  ·intro m hm;rcases YY m with rfl | hpos
   ·simp only[vX,oA,wx,aa,seval,iteOmega,toNatUp,CC];refine eV (id:=1) (n:=n) (s:=1) ?_ ?_ ?_ <;> simp only[wx,aa,seval,iteOmega,toNatUp,bN]
   ·obtain⟨i,rfl⟩:∃ i,m=i+1:=⟨m-1,by omega⟩
    have e2:((i+1:Nat):Int)-1=(i:Int):=by omega
    have hlt:i<(ie v n (i+1)).length:=by rw[vq _ _ _ hm]; omega
    have e3:IntKind.i64.wrap ((i:Int)-1)=(i:Int)-1:=IntWalk.i64_in _ (by omega);simp only[vX,oA,wx,aa,seval,iteOmega,toNatUp,e2,e3,YT,Ze,byte_of,f7 hlt (fB _),gM,← CF _ _ _ hm,IntKind.bits];refine a6 i (by omega) (by omega) (aD id ?_ ?_ rfl rfl) <;> simp only[wx,aC,aa,seval,iteOmega,toNatUp];have e4:v / 256^(n-(i+1)) / 256=v / 256^(n-i):=by
      rw[show n-i=n-(i+1)+1 by omega,Nat.pow_succ,← Nat.div_div_eq_div_mul]
    simpa using congrArg (Nat.cast:Nat→Int) e4
theorem Uf (G:ah) (v:Nat) (n:Int):aj Tryz.prog G 44 [.int .u64 v,.int .i64 n] (.w (.c (.fr 1 ((oV v n).map bD)))):=by
  unfold oV;by_cases h:0≤n∧n≤64
  ·rw[if_pos h];obtain⟨n,rfl⟩:=YR h.1;exact p7 G v n (by omega)
  ·rw[if_neg h];refine aB Tryz.func44 Ha rfl rfl ?_;by_cases h0:n<0
   ·simp only[sP,af,wx,aa,seval,iteOmega,toNatUp];exact p0 (by simp[wx,aa,seval,iteOmega,toNatUp])
   ·have h1:64<n:=by omega
    simp only[sP,af,wx,aa,seval,iteOmega,toNatUp];exact p0 (by simp[wx,aa,seval,iteOmega,toNatUp])
theorem toList_mk (l:List UInt8):(⟨l.toArray⟩:ByteArray).toList=l:=Go.ByteArray.toList_mk l
theorem CG (l m:List UInt8):jC .eql ⟨l.toArray⟩ ⟨m.toArray⟩=some (.bool (l==m)):=by
  simp only[jC,toList_mk]
def EV:aA:=⟨2,10,.seq (.reg [oO 4 (.mv (.k (.c (.d (.bool false)))))]) (.seq (.reg [oM 5 0,oO 6 (.b2s (.t 5)),oM 7 1,oO 8 (.b2s (.t 7)),oO 9 (.bin .eql (.t 6) (.t 8)),oM 4 9]) (.ret)),[(4,none)]⟩
theorem PX:aw Tryz.prog { own:=[],comp:=[],frz:=[],nils:=[] } Tryz.f20=some EV:=by kernel_rfl
theorem p8 (G:ah) (l m:List UInt8):aj Tryz.prog G 20 [.sl (l.map bD),.sl (m.map bD)] (.w (.c (.d (.bool (l==m))))):=by
  refine aB Tryz.func20 PX rfl rfl ?_;simp only[EV,af,wx,aa,seval,iteOmega,toNatUp,rZ,CG];exact km (by simp only[wx,aa,seval,iteOmega,toNatUp])
theorem EW (ls:List (List UInt8)):dq 1 (ls.map fun l=>D.sl (l.map bD))=true:=pF _ (fun _=>rfl) ls
def xE (ls:List (List UInt8)) (i:Nat):St:=⟨aY [(0,.w (.c (.d (.sl (ls.map fun l=>D.sl (l.map bD)))))),(3,.w (.c (.own 1 1 0 ((ls.take i).flatten).length))),(4,.w (.c (.d (.int .i64 (i:Int)))))],hL [(1,.row 1 (((ls.take i).flatten).map bD))],uL [1]⟩
theorem rG {α:Type} (ls:List (List α)) (i:Nat) (h:i<ls.length):(ls.take (i+1)).flatten=(ls.take i).flatten++ls[i]:=by
  rw[Y5 h,List.flatten_append]; simp
theorem xF {α:Type} (ls:List (List α)) (i:Nat) (h:i<ls.length):(ls.take i).flatten.length+ls[i].length≤ls.flatten.length:=by
  have h1:=rG ls i h;have h2:ls.flatten=(ls.take (i+1)).flatten++(ls.drop (i+1)).flatten:=by rw[← List.flatten_append,YI]
  have h3:=congrArg List.length h2;rw[X5,h1,X5] at h3;omega
def vJ:aO := .seq (.seq (.reg [oM 6 4,oM 7 0,oO 8 (.len (.t 7)),oO 9 (.bin .lss (.t 6) (.t 8))]) (.cond (.t 9) (.skip) (.exit 0))) (.seq (.block 1 (.reg [oM 12 3,oM 13 0,oM 14 4,oO 15 (.idxSl 1 (.t 13) (.t 14)),oO 16 (.load .sc (.t 15)),oO 17 (.app false 1 1 (.t 12) (.t 16)),oM 3 17])) (.reg [oM 10 4,oO 11 (.bin .add (.t 10) (kI 1)),oM 4 11]))
def EX:aA:=⟨1,19,.seq (.reg [oO 2 (.mv (.k (.c .nil)))]) (.seq (.reg [oO 5 (.bldSl true 0 1 (.int .u8 0) []),oM 3 5]) (.seq (.seq (.reg [oO 4 (.mv (kI 0))]) (.block 0 (.loop vJ))) (.seq (.reg [oM 18 3,oM 2 18]) (.ret)))),[(2,none)]⟩
theorem PY:aw Tryz.prog { own:=[5],comp:=[],frz:=[],nils:=[] } Tryz.f43=some EX:=by kernel_rfl
theorem mg (G:ah) (ls:List (List UInt8)) (hl:ls.length≤9223372036854775807) (hf:ls.flatten.length≤140737488355328):aj Tryz.prog G 43 [.sl (ls.map fun l=>D.sl (l.map bD))] (.w (.c (.fr 1 (ls.flatten.map bD)))):=by
  refine aB Tryz.func43 PY rfl rfl ?_;simp only[EX,af,wx,aa,seval,iteOmega,toNatUp];refine bf (xE ls) (fun i=>ls.length-i) (fun i=>i≤ls.length) 0 (Yd _) ?_ ?_
  ·refine aD (fun _=>40) ?_ ?_ rfl rfl <;> simp only[wx,aC,aa,seval,iteOmega,toNatUp]
  ·intro i hi;by_cases hlt:i<ls.length
   ·have e2:ls[i]?=some ls[i]:=X3 hlt;have e4:IntKind.i64.wrap ((i:Int)+1)=((i+1:Nat):Int):=by rw[IntWalk.i64_in _ (by omega)]; rfl
    have h5:=xF ls i hlt;simp only[vJ,xE,wx,aa,seval,iteOmega,toNatUp,aL,e2,e4,Zx,bK];refine a6 (i+1) (by omega) (by omega) (aD (fun _=>136) ?_ ?_ rfl rfl) <;> simp only[wx,aC,aa,seval,iteOmega,toNatUp,rG ls i hlt]
   ·have:ls.take i=ls:=X7 (by omega);simp only[vJ,xE,wx,aa,seval,iteOmega,toNatUp,this];refine eV (id:=1) (n:=ls.flatten.length) (s:=1) ?_ ?_ ?_ <;> simp only[wx,aa,seval,iteOmega,toNatUp]
def xG (ls:List (List UInt8)) (i:Nat):St:=⟨aY [(0,.w (.c (.d (.sl (ls.map fun l=>D.sl (l.map bD)))))),(3,.w (.c (.d (.int .i64 (((ls.take i).flatten).length:Int))))),(9,.w (.c (.d (.sl (ls.map fun l=>D.sl (l.map bD)))))),(10,.w (.c (.d (.int .i64 (ls.length:Int))))),(11,.w (.c (.d (.int .i64 (i:Int)))))],hL [],uL []⟩
def xH (ls:List (List UInt8)) (i:Nat):St:=⟨aY [(6,.w (.c (.own 1 1 0 ((ls.take i).flatten).length))),(22,.w (.c (.d (.sl (ls.map fun l=>D.sl (l.map bD)))))),(23,.w (.c (.d (.int .i64 (ls.length:Int))))),(24,.w (.c (.d (.int .i64 (i:Int)))))],hL [(1,.row 1 (((ls.take i).flatten).map bD))],uL [1]⟩
def vY:aO := .seq (.reg [oO 12 (.bin .lss (.t 11) (.t 10))]) (.seq (.cond (.t 12) (.skip) (.exit 0)) (.seq (.block 1 (.seq (.reg [oO 13 (.idxSl 1 (.t 9) (.t 11)),oO 14 (.load .sc (.t 13)),oM 5 14]) (.reg [oM 15 3,oM 16 5,oO 17 (.len (.t 16)),oO 18 (.bin .add (.t 15) (.t 17)),oM 3 18]))) (.reg [oO 19 (.bin .add (.t 11) (kI 1)),oM 11 19])))
def vZ:aO := .seq (.reg [oO 25 (.bin .lss (.t 24) (.t 23))]) (.seq (.cond (.t 25) (.skip) (.exit 2)) (.seq (.block 3 (.seq (.reg [oO 26 (.idxSl 1 (.t 22) (.t 24)),oO 27 (.load .sc (.t 26)),oM 8 27]) (.reg [oM 28 6,oM 29 8,oO 30 (.app false 1 1 (.t 28) (.t 29)),oM 6 30]))) (.reg [oO 31 (.bin .add (.t 24) (kI 1)),oM 24 31])))
def Hb:aA:=⟨1,33,.seq (.reg [oO 2 (.mv (.k (.c .nil)))]) (.seq (.reg [oO 3 (.mv (kI 0))]) (.seq (.seq (.reg [oM 9 0,oO 10 (.len (.t 9)),oO 11 (.mv (kI 0))]) (.block 0 (.loop vY))) (.seq (.reg [oM 20 3,oO 21 (.make true 1 1 (.int .u8 0) (kI 0) (.t 20)),oM 6 21]) (.seq (.seq (.reg [oM 22 0,oO 23 (.len (.t 22)),oO 24 (.mv (kI 0))]) (.block 2 (.loop vZ))) (.seq (.reg [oM 32 6,oM 2 32]) (.ret)))))),[(2,none)]⟩
theorem RQ:aw Tryz.prog { own:=[],comp:=[],frz:=[],nils:=[] } Tryz.f90=some Hb:=by kernel_rfl
theorem dU (G:ah) (ls:List (List UInt8)) (hl:ls.length≤9223372036854775807) (hf:ls.flatten.length≤140737488355328):aj Tryz.prog G 90 [.sl (ls.map fun l=>D.sl (l.map bD))] (.w (.c (.fr 1 (ls.flatten.map bD)))):=by
  refine aB Tryz.func90 RQ rfl rfl ?_;simp only[Hb,af,wx,aa,seval,iteOmega,toNatUp];refine bf (xG ls) (fun i=>ls.length-i) (fun i=>i≤ls.length) 0 (Yd _) ?_ ?_
  ·refine aD id ?_ ?_ rfl rfl <;> simp only[wx,aC,aa,seval,iteOmega,toNatUp]
  ·intro i hi;by_cases hlt:i<ls.length
   ·have e2:ls[i]?=some ls[i]:=X3 hlt;have e4:IntKind.i64.wrap ((i:Int)+1)=((i+1:Nat):Int):=by rw[IntWalk.i64_in _ (by omega)]; rfl
    have h5:=xF ls i hlt;have e5:IntKind.i64.wrap (((ls.take i).flatten.length:Int)+(ls[i].length:Int))=(((ls.take (i+1)).flatten.length:Nat):Int):=by
      rw[rG ls i hlt,X5,IntWalk.i64_in _ (by omega)]; rfl
    simp only[vY,xG,wx,aa,seval,iteOmega,toNatUp,aL,e2,e4,e5];refine a6 (i+1) (by omega) (by omega) (aD id ?_ ?_ rfl rfl) <;> simp only[wx,aC,aa,seval,iteOmega,toNatUp]
   ·have:ls.take i=ls:=X7 (by omega);simp only[vY,xG,wx,aa,seval,iteOmega,toNatUp,this,Zx];refine bf (xH ls) (fun i=>ls.length-i) (fun i=>i≤ls.length) 0 (Yd _) ?_ ?_
    ·refine aD (fun _=>168) ?_ ?_ rfl rfl <;> simp only[wx,aC,aa,seval,iteOmega,toNatUp]
    ·intro i hi;by_cases hlt:i<ls.length
     ·have e2:ls[i]?=some ls[i]:=X3 hlt;have e4:IntKind.i64.wrap ((i:Int)+1)=((i+1:Nat):Int):=by rw[IntWalk.i64_in _ (by omega)]; rfl
      have h5:=xF ls i hlt;simp only[vZ,xH,wx,aa,seval,iteOmega,toNatUp,aL,e2,e4,Zx,bK];refine a6 (i+1) (by omega) (by omega) (aD (fun _=>240) ?_ ?_ rfl rfl) <;> simp only[wx,aC,aa,seval,iteOmega,toNatUp,rG ls i hlt]
     ·have:ls.take i=ls:=X7 (by omega);simp only[vZ,xH,wx,aa,seval,iteOmega,toNatUp,this];refine eV (id:=1) (n:=ls.flatten.length) (s:=1) ?_ ?_ ?_ <;> simp only[wx,aa,seval,iteOmega,toNatUp]
def aR (l:List UInt8):Nat:=l.foldl (fun a x=>(a*256+x.toNat)%18446744073709551616) 0
theorem Hc (l:List UInt8):aR l<18446744073709551616:=by
  unfold aR;rcases List.eq_nil_or_concat l with rfl | ⟨a,x,rfl⟩
  ·simp
  ·simp only[List.concat_eq_append,List.foldl_append,Zn,List.foldl_nil]; omega
theorem u64_in (n:Int) (h₀:0≤n) (h₁:n<2^64):IntKind.u64.wrap n=n:=by rw[IntKind.wrap_u64]; omega
theorem OA (a:List UInt8) (x:UInt8):bits .or .u64 (IntKind.u64.wrap ((aR a:Int)*256)) (x.toNat:Int)=(aR (a++[x]):Int):=by
  have hx:x.toNat<256:=x.toNat_lt
  have h1:=bits_join .u64 64 (by decide) u64_in 8 (IntKind.u64.wrap ((aR a:Int)*256)) (x.toNat:Int)
    (by rw[IntKind.wrap_u64]; omega) (by rw[IntKind.wrap_u64]; omega) (by rw[IntKind.wrap_u64]; omega) (by omega) (by omega) (by omega)
  rw[h1,IntKind.wrap_u64];simp only[aR,List.foldl_append,Zn,List.foldl_nil];omega
theorem OB (l:List UInt8) (j:Nat) (h:j<l.length):bits .or .u64 (IntKind.u64.wrap ((aR (l.take j):Int)*256)) (l[j].toNat:Int)=(aR (l.take (j+1)):Int):=by
  rw[OA,Y5 h]
theorem PZ (a b:List UInt8):aR (a++b)=(aR a*256^b.length+aR b)%18446744073709551616:=by
  have key:∀ (n:Nat) (b:List UInt8),b.length=n→aR (a++b)=(aR a*256^n+aR b)%18446744073709551616:=by
    intro n
    induction n with
    | zero =>
      intro b hb;have:b=[]:=YU hb;subst this;have h0:aR []=0:=rfl;rw[Ym,Nat.pow_zero,h0];have:=Hc a;omega
    | succ n ih =>
      intro b hb;rcases List.eq_nil_or_concat b with rfl | ⟨c,x,rfl⟩
      ·simp at hb
      ·rw[List.concat_eq_append] at hb ⊢;rw[← Yy];have h1:∀ l:List UInt8,aR (l++[x])=(aR l*256+x.toNat)%18446744073709551616:=fun l=>by simp[aR]
       rw[h1,h1,ih c (by simpa using hb),Nat.pow_succ];generalize aR a=p;generalize aR c=q;generalize 256^n=r;have e:p*(r*256)=p*r*256:=by rw[Nat.mul_assoc]
       rw[e];generalize p*r=z;omega
  exact key _ b rfl
theorem OC (l:List UInt8) (h:8<l.length):aR (l.drop (l.length-8))=aR l:=by
  have h1:=PZ (l.take (l.length-8)) (l.drop (l.length-8));rw[YI] at h1;have h2:(l.drop (l.length-8)).length=8:=by rw[Yg]; omega
  rw[h2] at h1;have h3:=Hc (l.drop (l.length-8));rw[h1];have:(256:Nat)^8=18446744073709551616:=by decide
  rw[this];omega
def tU (l:List UInt8) (i:Nat):St:=⟨aY [(3,.w (.c (.d (.int .u64 (aR (l.take i)))))),(14,.w (.c (.d (.sl (l.map bD))))),(15,.w (.c (.d (.int .i64 (l.length:Int))))),(16,.w (.c (.d (.int .i64 (i:Int)))))],hL [],uL []⟩
def r6:aO := .seq (.reg [oO 17 (.bin .lss (.t 16) (.t 15))]) (.seq (.cond (.t 17) (.skip) (.exit 0)) (.seq (.block 1 (.seq (.reg [oO 18 (.idxSl 1 (.t 14) (.t 16)),oO 19 (.load .sc (.t 18)),oM 5 19]) (.reg [oM 20 3,oO 21 (.bin .shl (.t 20) (.k (.c (.d (.int .u64 8))))),oM 22 5,oO 23 (.conv .u64 (.t 22)),oO 24 (.bin .or (.t 21) (.t 23)),oM 3 24]))) (.reg [oO 25 (.bin .add (.t 16) (kI 1)),oM 16 25])))
def yq:aA:=⟨1,27,.seq (.reg [oO 2 (.mv (.k (.c (.d (.int .u64 0)))))]) (.seq (.seq (.reg [oM 6 0,oO 7 (.len (.t 6)),oO 8 (.bin .gtr (.t 7) (kI 8))]) (.cond (.t 8) (.reg [oM 9 0,oM 10 0,oO 11 (.len (.t 10)),oO 12 (.bin .sub (.t 11) (kI 8)),oO 13 (.slice 1 (.t 9) (some (.t 12)) none none),oM 0 13]) (.skip))) (.seq (.reg [oO 3 (.mv (.k (.c (.d (.int .u64 0)))))]) (.seq (.seq (.reg [oM 14 0,oO 15 (.len (.t 14)),oO 16 (.mv (kI 0))]) (.block 0 (.loop r6))) (.seq (.reg [oM 26 3,oM 2 26]) (.ret))))),[(2,none)]⟩
theorem Ug:aw Tryz.prog { own:=[],comp:=[],frz:=[],nils:=[] } Tryz.f48=some yq:=by kernel_rfl
theorem Ln (G:ah) (Q:AX→St→Prop) (l:List UInt8) (hl:l.length≤8) (σ:St) (he:dN σ (tU l 0)) (hq:∀ f,f 3=.w (.c (.d (.int .u64 (aR l))))→Q (.ex 0) ⟨f,hN,uN⟩):bu Tryz.prog G (.loop r6) Q σ:=by
  refine bf (tU l) (fun i=>l.length-i) (fun i=>i≤l.length) 0 (Yd _) he ?_;intro i hi;by_cases hlt:i<l.length
  ·have hb:=l[i].toNat_lt;have e2:l[i]?=some l[i]:=X3 hlt;have e3:IntKind.u64.wrap (l[i].toNat:Int)=(l[i].toNat:Int):=u64_in _ (by omega) (by omega);have e4:IntKind.i64.wrap ((i:Int)+1)=((i+1:Nat):Int):=by rw[IntWalk.i64_in _ (by omega)]; rfl
   have e5:=OB l i hlt;simp only[r6,tU,wx,aa,seval,iteOmega,toNatUp,aL,e2,IntKind.bits,e3,e4];refine a6 (i+1) (by omega) (by omega) (aD id ?_ ?_ rfl rfl) <;> simp only[wx,aC,aa,seval,iteOmega,toNatUp,← e5]
  ·have:l.take i=l:=X7 (by omega);simp only[r6,tU,wx,aa,seval,iteOmega,toNatUp,this];exact hq _ (by simp only[wx,aa,seval,iteOmega,toNatUp])
theorem jx (G:ah) (l:List UInt8) (hl:l.length≤9223372036854775807):aj Tryz.prog G 48 [.sl (l.map bD)] (.w (.c (.d (.int .u64 (aR l))))):=by
  refine aB Tryz.func48 Ug rfl rfl ?_;by_cases h8:8<l.length
  ·have e0:IntKind.i64.wrap ((l.length:Int)-8)=((l.length-8:Nat):Int):=by rw[IntWalk.i64_in _ (by omega)]; omega
   have e1:(l.drop (l.length-8)).take (l.length-(l.length-8))=l.drop (l.length-8):=X7 (by rw[Yg]; omega);simp only[yq,af,wx,aa,seval,iteOmega,toNatUp,e0,e1];refine Ln G _ (l.drop (l.length-8)) (by rw[Yg]; omega) _ ?_ fun f hf=>?_
   ·refine aD id ?_ ?_ rfl rfl <;> simp only[wx,aC,aa,seval,iteOmega,toNatUp] <;> rfl
   ·rw[OC l h8] at hf;simp only[wx,aa,seval,iteOmega,toNatUp,hf];exact km (by simp only[wx,aa,seval,iteOmega,toNatUp])
  ·simp only[yq,af,wx,aa,seval,iteOmega,toNatUp];refine Ln G _ l (by omega) _ ?_ fun f hf=>?_
   ·refine aD id ?_ ?_ rfl rfl <;> simp only[wx,aC,aa,seval,iteOmega,toNatUp] <;> rfl
   ·simp only[wx,aa,seval,iteOmega,toNatUp,hf];exact km (by simp only[wx,aa,seval,iteOmega,toNatUp])
theorem CH (v k:Nat):aP v (k+1)=aP (v / 256) k++[UInt8.ofNat v]:=by
  unfold aP;rw[ZE,YD]
  congr 1
  ·apply YN;intro i hi;have hi':i<k:=Zy.1 hi;rw[show k+1-1-i=(k-1-i)+1 by omega,Nat.pow_succ,Nat.mul_comm,← Nat.div_div_eq_div_mul]
  ·simp
theorem EY (a:List UInt8) (x:UInt8):aR (a++[x])=(aR a*256+x.toNat)%18446744073709551616:=by simp[aR]
theorem He {k:Nat} (h:k≤8):256^k≤18446744073709551616:=YJ (Nat.pow_le_pow_right (by decide) h) (by decide)
theorem get_put (k:Nat) (h:k≤8):∀ v,aR (aP v k)=v%256^k:=by
  induction k with
  | zero=>intro v; rw[Nat.pow_zero,Nat.mod_one]; rfl
  | succ k ih =>
    intro v;have hp:=He h;have hv:v%256^(k+1)<256^(k+1):=Zu _ (Nat.pow_pos (by decide));have e:v%256^(k+1)=v%256+256*(v / 256%256^k):=by rw[Nat.pow_succ',Nat.mod_mul]
    rw[CH,EY,ih (by omega),UInt8.toNat_ofNat',Nat.mod_eq_of_lt (by omega)];omega
theorem iV:∀ (k:Nat) (l:List UInt8),l.length=k→k≤8→aR l<256^k∧aP (aR l) k=l:=by
  intro k
  induction k with
  | zero=>intro l h _; rw[YU h]; exact⟨by decide,rfl⟩
  | succ k ih =>
    intro l h h8;rcases List.eq_nil_or_concat l with rfl | ⟨a,x,rfl⟩
    ·simp at h
    ·rw[List.concat_eq_append] at *
     obtain⟨a1,a2⟩:=ih a (by simpa using h) (by omega);have hx:x.toNat<256:=x.toNat_lt;have hp:=He h8;have e:aR (a++[x])=aR a*256+x.toNat:=by
       rw[EY,Nat.mod_eq_of_lt];rw[Nat.pow_succ] at hp; omega
     refine⟨by rw[e,Nat.pow_succ]; omega,?_⟩;rw[e,CH,show (aR a*256+x.toNat) / 256=aR a by omega,a2]
     congr 2
     rw[← UInt8.toNat_inj,UInt8.toNat_ofNat'];omega
structure Hd where
  lp:Int
  vr:Int
  md:Int
  st:Int
  pl:Int
  pr:Int
  rd:Nat
  rp:Nat
  ri:Nat
  rf:Nat
  og:Nat
  rc:Nat
  tr:Nat
def Hd.z:Hd:=⟨0,0,0,0,0,0,0,0,0,0,0,0,0⟩
def MD (h:Hd):Prop:=0≤h.lp∧h.lp≤3∧(h.vr=3∨h.vr=4)∧0≤h.md∧h.md≤7∧0≤h.st∧h.st≤255∧-128≤h.pl∧h.pl≤127∧-128≤h.pr∧h.pr≤127
instance (h:Hd):Decidable (MD h):=by unfold MD; infer_instance
def aI (l:List UInt8) (a n:Nat):List UInt8:=(l.drop a).take n
theorem jr {l:List UInt8} {a n:Nat} (h:a+n≤l.length):(aI l a n).length=n:=by
  unfold aI; rw[Yb,Yg]; omega
theorem me (p q r:List UInt8):aI (p++(q++r)) p.length q.length=q:=by
  unfold aI; rw[List.drop_left,List.take_left]
theorem EZ (l:List UInt8) (a n m:Nat):aI l a n++aI l (a+n) m=aI l a (n+m):=by
  unfold aI;rw[List.take_add,List.drop_drop]
theorem Qc (x:UInt8):gW x=if eu x 7==1 then am (ek x 1) 27 else ek x 1:=by
  have:=lD (p:=fun x=>gW x==if eu x 7==1 then am (ek x 1) 27 else ek x 1) (by decide +kernel) x
  simpa using this
theorem JB (x:UInt8):gN x 2=gW x:=by
  have:=lD (p:=fun x=>gN x 2==gW x) (by decide +kernel) x
  simpa using this
def yA:aA:=⟨1,11,.seq (.reg [oO 2 (.mv (.k (.c (.d (.int .u8 0)))))]) (.seq (.seq (.reg [oM 3 0,oO 4 (.bin .shr (.t 3) (.k (.c (.d (.int .u64 7))))),oO 5 (.bin .eql (.t 4) (.k (.c (.d (.int .u8 1)))))]) (.cond (.t 5) (.seq (.reg [oM 6 0,oO 7 (.bin .shl (.t 6) (.k (.c (.d (.int .u64 1))))),oO 8 (.bin .xor (.t 7) (.k (.c (.d (.int .u8 27))))),oM 2 8]) (.ret)) (.skip))) (.seq (.reg [oM 9 0,oO 10 (.bin .shl (.t 9) (.k (.c (.d (.int .u64 1))))),oM 2 10]) (.ret))),[(2,none)]⟩
theorem Ur:aw Tryz.prog { own:=[],comp:=[],frz:=[],nils:=[] } Tryz.f163=some yA:=by kernel_rfl
theorem Ls (G:ah) (x:UInt8):aj Tryz.prog G 163 [bD x] (.w (.c (.d (bD (gW x))))):=by
  refine aB Tryz.func163 Ur rfl rfl ?_;have h1:=Jt x .u64 7 7 rfl (by decide);have h2:=T8 (eu x 7) 1 1 rfl;have h3:=Ju x .u64 1 1 rfl (by decide);have h4:=Ua (ek x 1) 27 27 rfl;rw[Qc];cases h5:eu x 7==1
  ·rw[h5] at h2;simp only[yA,af,h1,h2,h3,h4,ae,aa,seval,iteOmega,toNatUp,if_false,Bool.false_eq_true];exact aF
  ·rw[h5] at h2;simp only[yA,af,h1,h2,h3,h4,ae,aa,seval,iteOmega,toNatUp,if_true];exact aF
def Mj:List UInt8:=[99,124,119,123,242,107,111,197,48,1,103,43,254,215,171,118,202,130,201,125,250,89,71,240,173,212,162,175,156,164,114,192,183,253,147,38,54,63,247,204,52,165,229,241,113,216,49,21,4,199,35,195,24,150,5,154,7,18,128,226,235,39,178,117,9,131,44,26,27,110,90,160,82,59,214,179,41,227,47,132,83,209,0,237,32,252,177,91,106,203,190,57,74,76,88,207,208,239,170,251,67,77,51,133,69,249,2,127,80,60,159,168,81,163,64,143,146,157,56,245,188,182,218,33,16,255,243,210,205,12,19,236,95,151,68,23,196,167,126,61,100,93,25,115,96,129,79,220,34,42,144,136,70,238,184,20,222,94,11,219,224,50,58,10,73,6,36,92,194,211,172,98,145,149,228,121,231,200,55,109,141,213,78,169,108,86,244,234,101,122,174,8,186,120,37,46,28,166,180,198,232,221,116,31,75,189,139,138,112,62,181,102,72,3,246,14,97,53,87,185,134,193,29,158,225,248,152,17,105,217,142,148,155,30,135,233,206,85,40,223,140,161,137,13,191,230,66,104,65,153,45,15,176,84,187,22]
theorem R5:Mj=Ag:=by decide +kernel
set_option maxRecDepth 100000 in
theorem Qd:ByteArray.size ⟨#[99,124,119,123,242,107,111,197,48,1,103,43,254,215,171,118,202,130,201,125,250,89,71,240,173,212,162,175,156,164,114,192,183,253,147,38,54,63,247,204,52,165,229,241,113,216,49,21,4,199,35,195,24,150,5,154,7,18,128,226,235,39,178,117,9,131,44,26,27,110,90,160,82,59,214,179,41,227,47,132,83,209,0,237,32,252,177,91,106,203,190,57,74,76,88,207,208,239,170,251,67,77,51,133,69,249,2,127,80,60,159,168,81,163,64,143,146,157,56,245,188,182,218,33,16,255,243,210,205,12,19,236,95,151,68,23,196,167,126,61,100,93,25,115,96,129,79,220,34,42,144,136,70,238,184,20,222,94,11,219,224,50,58,10,73,6,36,92,194,211,172,98,145,149,228,121,231,200,55,109,141,213,78,169,108,86,244,234,101,122,174,8,186,120,37,46,28,166,180,198,232,221,116,31,75,189,139,138,112,62,181,102,72,3,246,14,97,53,87,185,134,193,29,158,225,248,152,17,105,217,142,148,155,30,135,233,206,85,40,223,140,161,137,13,191,230,66,104,65,153,45,15,176,84,187,22]⟩=256:=rfl
set_option maxRecDepth 100000 in
theorem Us (x:UInt8):(ByteArray.data ⟨#[99,124,119,123,242,107,111,197,48,1,103,43,254,215,171,118,202,130,201,125,250,89,71,240,173,212,162,175,156,164,114,192,183,253,147,38,54,63,247,204,52,165,229,241,113,216,49,21,4,199,35,195,24,150,5,154,7,18,128,226,235,39,178,117,9,131,44,26,27,110,90,160,82,59,214,179,41,227,47,132,83,209,0,237,32,252,177,91,106,203,190,57,74,76,88,207,208,239,170,251,67,77,51,133,69,249,2,127,80,60,159,168,81,163,64,143,146,157,56,245,188,182,218,33,16,255,243,210,205,12,19,236,95,151,68,23,196,167,126,61,100,93,25,115,96,129,79,220,34,42,144,136,70,238,184,20,222,94,11,219,224,50,58,10,73,6,36,92,194,211,172,98,145,149,228,121,231,200,55,109,141,213,78,169,108,86,244,234,101,122,174,8,186,120,37,46,28,166,180,198,232,221,116,31,75,189,139,138,112,62,181,102,72,3,246,14,97,53,87,185,134,193,29,158,225,248,152,17,105,217,142,148,155,30,135,233,206,85,40,223,140,161,137,13,191,230,66,104,65,153,45,15,176,84,187,22]⟩).toList[x.toNat]?=some (d8 x):=by
  have e:(ByteArray.data ⟨#[99,124,119,123,242,107,111,197,48,1,103,43,254,215,171,118,202,130,201,125,250,89,71,240,173,212,162,175,156,164,114,192,183,253,147,38,54,63,247,204,52,165,229,241,113,216,49,21,4,199,35,195,24,150,5,154,7,18,128,226,235,39,178,117,9,131,44,26,27,110,90,160,82,59,214,179,41,227,47,132,83,209,0,237,32,252,177,91,106,203,190,57,74,76,88,207,208,239,170,251,67,77,51,133,69,249,2,127,80,60,159,168,81,163,64,143,146,157,56,245,188,182,218,33,16,255,243,210,205,12,19,236,95,151,68,23,196,167,126,61,100,93,25,115,96,129,79,220,34,42,144,136,70,238,184,20,222,94,11,219,224,50,58,10,73,6,36,92,194,211,172,98,145,149,228,121,231,200,55,109,141,213,78,169,108,86,244,234,101,122,174,8,186,120,37,46,28,166,180,198,232,221,116,31,75,189,139,138,112,62,181,102,72,3,246,14,97,53,87,185,134,193,29,158,225,248,152,17,105,217,142,148,155,30,135,233,206,85,40,223,140,161,137,13,191,230,66,104,65,153,45,15,176,84,187,22]⟩).toList=Mj:=rfl;rw[e,R5]; exact Qb x
set_option maxRecDepth 100000
def CM:ByteArray:=⟨#[99,124,119,123,242,107,111,197,48,1,103,43,254,215,171,118,202,130,201,125,250,89,71,240,173,212,162,175,156,164,114,192,183,253,147,38,54,63,247,204,52,165,229,241,113,216,49,21,4,199,35,195,24,150,5,154,7,18,128,226,235,39,178,117,9,131,44,26,27,110,90,160,82,59,214,179,41,227,47,132,83,209,0,237,32,252,177,91,106,203,190,57,74,76,88,207,208,239,170,251,67,77,51,133,69,249,2,127,80,60,159,168,81,163,64,143,146,157,56,245,188,182,218,33,16,255,243,210,205,12,19,236,95,151,68,23,196,167,126,61,100,93,25,115,96,129,79,220,34,42,144,136,70,238,184,20,222,94,11,219,224,50,58,10,73,6,36,92,194,211,172,98,145,149,228,121,231,200,55,109,141,213,78,169,108,86,244,234,101,122,174,8,186,120,37,46,28,166,180,198,232,221,116,31,75,189,139,138,112,62,181,102,72,3,246,14,97,53,87,185,134,193,29,158,225,248,152,17,105,217,142,148,155,30,135,233,206,85,40,223,140,161,137,13,191,230,66,104,65,153,45,15,176,84,187,22]⟩
def JC:aA:=⟨1,5,.seq (.reg [oO 2 (.mv (.k (.c (.d (.int .u8 0)))))]) (.seq (.reg [oM 3 0,oO 4 (.idxStr (.k (.c (.d (.str CM)))) (.t 3)),oM 2 4]) (.ret)),[(2,none)]⟩
theorem Ut:aw Tryz.prog { own:=[],comp:=[],frz:=[],nils:=[] } Tryz.f180=some JC:=by kernel_rfl
theorem qB (G:ah) (x:UInt8):aj Tryz.prog G 180 [bD x] (.w (.c (.d (bD (d8 x))))):=by
  refine aB Tryz.func180 Ut rfl rfl ?_;have h:=lg x;have e:=Us x;simp only[JC,CM,af,ae,aa,seval,iteOmega,toNatUp,Qd,e];exact aF
def bJ (f:Nat→UInt8) (l:List UInt8) (i:Nat):List UInt8:=(List.range i).map f++l.drop i
theorem nO (f:Nat→UInt8) (l:List UInt8) {i:Nat} (h:i≤l.length):(bJ f l i).length=l.length:=by
  unfold bJ; rw[X5,Yc,ZF,Yg]; omega
theorem pO (f:Nat→UInt8) (l:List UInt8):bJ f l 0=l:=by simp[bJ]
theorem E8 (f:Nat→UInt8) (l:List UInt8) {i:Nat} (h:l.length≤i):bJ f l i=(List.range i).map f:=by
  unfold bJ; rw[Y3 h,Ym]
theorem Hl (f:Nat→UInt8) (l:List UInt8) {i j:Nat} (hj:i≤j):(bJ f l i)[j]?=l[j]?:=by
  unfold bJ;rw[YC (by simpa using hj),YS,Yc,ZF,show i+(j-i)=j by omega]
theorem Qe (f:Nat→UInt8) (l:List UInt8) {i j:Nat} (hj:j<i):(bJ f l i)[j]?=some (f j):=by
  unfold bJ;rw[YO (by simpa using hj)];simp[hj]
theorem pP (f:Nat→UInt8) (l:List UInt8) {i:Nat} (h:i<l.length):(bJ f l i).set i (f i)=bJ f l (i+1):=by
  unfold bJ;rw[ZQ _ _ (by simp),Yc,ZF,ZZ,List.drop_eq_getElem_cons h,List.set_cons_zero,ZE,YD,Yy];rfl
theorem eJ {l:List UInt8} {j:Nat} (h:j<l.length):l[j]?=some (l.getD j 0):=by
  rw[X6,X3 h]; rfl
theorem XW:bD 1=.int .u8 1:=rfl
set_option maxHeartbeats 1600000
def mS (s k:List UInt8):List UInt8:=bS (gS (bd s) (bd k))
def oW (s:List UInt8):List UInt8:=bS (iB (bd s))
def qQ (s:List UInt8):List UInt8:=bS (gT (bd s))
theorem Qf (s k:List UInt8):(mS s k).length=16:=fZ _
theorem wP (s:List UInt8):(oW s).length=16:=fZ _
theorem E9 (s:List UInt8):(qQ s).length=16:=fZ _
theorem mr (f:dH):Lr (bd (bS f)) f:=fun j hj=>by
  unfold bd; rw[X6,sR f hj]; rfl
theorem wQ (f g:dH):mS (bS f) (bS g)=bS (gS f g):=v8 fun j hj=>by
  unfold gS; rw[mr f j hj,mr g j hj]
theorem Fa (f:dH):oW (bS f)=bS (iB f):=v8 fun j hj=>by
  unfold iB; rw[mr f _ (by omega)]
theorem Qg (f:dH):qQ (bS f)=bS (gT f):=v8 fun j hj=>by
  unfold gT; rw[mr f _ (by omega),mr f _ (by omega),mr f _ (by omega),mr f _ (by omega)]
theorem io:[D.int .u8 0,.int .u8 0,.int .u8 0,.int .u8 0,.int .u8 0,.int .u8 0,.int .u8 0,.int .u8 0,.int .u8 0,.int .u8 0,.int .u8 0,.int .u8 0,.int .u8 0,.int .u8 0,.int .u8 0,.int .u8 0]=(bA 16 (0:UInt8)).map bD:=rfl
theorem sS (f:dH) {l:List UInt8} (h:l.length=16):bJ f l 16=bS f:=E8 f l (by omega)
theorem mI (a b:Nat):Int.tmod (a:Int) (b:Int)=((a%b:Nat):Int):=rfl
def zq (s k:List UInt8) (i:Nat):St:=⟨aY [(2,.w (.c (.pa 1 1))),(4,.w (.c (.pa 2 1))),(7,.w (.c (.d (.agg (k.map bD))))),(8,.w (.c (.d (.int .i64 (i:Int)))))],hL [(1,.row 1 ((bJ (gS (bd s) (bd k)) s i).map bD)),(2,.row 1 ((bA 16 (0:UInt8)).map bD))],uL [1,2]⟩
def wR:aO := .seq (.reg [oO 9 (.bin .lss (.t 8) (kI 16))]) (.seq (.cond (.t 9) (.skip) (.exit 0)) (.seq (.block 1 (.seq (.reg [oM 10 8,oO 11 (.idxArr 1 16 .sc (.t 7) (.t 8)),oM 5 10,oM 6 11]) (.reg [oM 12 5,oO 13 (.idxPa 1 16 (.t 2) (.t 12)),oO 14 (.load .sc (.t 13)),oM 15 6,oO 16 (.bin .xor (.t 14) (.t 15)),oO 17 (.idxPa 1 16 (.t 2) (.t 12)),oN (.store .sc (.t 17) (.t 16))]))) (.reg [oO 18 (.bin .add (.t 8) (kI 1)),oM 8 18])))
def JD:aA:=⟨2,20,.seq (.reg [oO 2 (.box .ownArr (.t 0)),oO 3 (.box .roArr (.t 1)),oO 4 (.allocArr [(.int .u8 0),(.int .u8 0),(.int .u8 0),(.int .u8 0),(.int .u8 0),(.int .u8 0),(.int .u8 0),(.int .u8 0),(.int .u8 0),(.int .u8 0),(.int .u8 0),(.int .u8 0),(.int .u8 0),(.int .u8 0),(.int .u8 0),(.int .u8 0)])]) (.seq (.seq (.reg [oO 7 (.load (.ag 16) (.t 3)),oO 8 (.mv (kI 0))]) (.block 0 (.loop wR))) (.seq (.reg [oO 19 (.load (.ag 16) (.t 2)),oN (.store (.ag 16) (.t 4) (.t 19))]) (.ret))),[(4,(some (.ag 16)))]⟩
theorem Uu:aw Tryz.prog { own:=[2],comp:=[],frz:=[],nils:=[] } Tryz.f165=some JD:=by kernel_rfl
theorem zr (G:ah) (s k:List UInt8) (hs:s.length=16) (hk:k.length=16):aj Tryz.prog G 165 [.agg (s.map bD),.agg (k.map bD)] (.w (.c (.d (.agg ((mS s k).map bD))))):=by
  refine aB Tryz.func165 Uu rfl rfl ?_;simp only[JD,af,ae,aa,seval,iteOmega,toNatUp,io,iz,hk];refine bf (zq s k) (fun i=>16-i) (fun i=>i≤16) 0 (Yd _) ?_ ?_
  ·refine aD (fun i=>if i=1 then 16 else 32) ?_ ?_ rfl rfl <;> simp only[wx,aC,aK,aa,seval,iteOmega,toNatUp,pO]
  ·intro i hi;have hl:(bJ (gS (bd s) (bd k)) s i).length=16:=by rw[nO _ _ (by omega)]; exact hs
   by_cases hlt:i<16
   ·have g1:k[i]?=some (k.getD i 0):=eJ (by omega);have g2:(bJ (gS (bd s) (bd k)) s i)[i]?=some (s.getD i 0):=by rw[Hl _ _ (Ye i)]; exact eJ (by omega)
    have h3:i<(bJ (gS (bd s) (bd k)) s i).length:=by omega
    have h4:=gK (s.getD i 0) (k.getD i 0);have h5:(bJ (gS (bd s) (bd k)) s i).set i (am (s.getD i 0) (k.getD i 0))=bJ (gS (bd s) (bd k)) s (i+1):=pP (gS (bd s) (bd k)) s (by omega);simp only[wR,zq,ae,aa,seval,iteOmega,toNatUp,aL,g1,g2,h4,f7 h3 (fB _),gM,h5];refine a6 (i+1) (by omega) (by omega) (aD (fun i=>i) ?_ ?_ rfl rfl) <;> simp only[wx,aC,aK,aa,seval,iteOmega,toNatUp]
   ·obtain rfl:i=16:=by omega
    have e:bJ (gS (bd s) (bd k)) s 16=mS s k:=sS _ hs;have e2:=Qf s k;simp only[wR,zq,e,ae,aa,seval,iteOmega,toNatUp,e2,iz,cP];exact aF
def zs (s:List UInt8) (i:Nat):St:=⟨aY [(1,.w (.c (.ra (s.map bD)))),(2,.w (.c (.pa 2 1))),(3,.w (.c (.pa 1 1))),(6,.w (.c (.d (.int .i64 (i:Int)))))],hL [(1,.row 1 ((bJ (iB (bd s)) (bA 16 (0:UInt8)) i).map bD)),(2,.row 1 ((bA 16 (0:UInt8)).map bD))],uL [1,2]⟩
def v9:aO := .seq (.reg [oO 7 (.bin .lss (.t 6) (kI 16))]) (.seq (.cond (.t 7) (.skip) (.exit 0)) (.seq (.block 1 (.seq (.reg [oM 8 6,oM 4 8]) (.seq (.reg [oM 9 4,oO 10 (.bin .rem (.t 9) (kI 4)),oM 5 10]) (.reg [oM 11 4,oM 12 4,oM 13 5,oO 14 (.bin .mul (.t 13) (kI 4)),oO 15 (.bin .add (.t 12) (.t 14)),oO 16 (.bin .rem (.t 15) (kI 16)),oO 17 (.idxPa 1 16 (.t 1) (.t 16)),oO 18 (.load .sc (.t 17)),oO 19 (.call 180 [(.t 18)] none),oO 20 (.idxPa 1 16 (.t 3) (.t 11)),oN (.store .sc (.t 20) (.t 19))])))) (.reg [oO 21 (.bin .add (.t 6) (kI 1)),oM 6 21])))
def Hm:aA:=⟨1,23,.seq (.reg [oO 1 (.box .roArr (.t 0)),oO 2 (.allocArr [(.int .u8 0),(.int .u8 0),(.int .u8 0),(.int .u8 0),(.int .u8 0),(.int .u8 0),(.int .u8 0),(.int .u8 0),(.int .u8 0),(.int .u8 0),(.int .u8 0),(.int .u8 0),(.int .u8 0),(.int .u8 0),(.int .u8 0),(.int .u8 0)])]) (.seq (.reg [oO 3 (.allocArr [(.int .u8 0),(.int .u8 0),(.int .u8 0),(.int .u8 0),(.int .u8 0),(.int .u8 0),(.int .u8 0),(.int .u8 0),(.int .u8 0),(.int .u8 0),(.int .u8 0),(.int .u8 0),(.int .u8 0),(.int .u8 0),(.int .u8 0),(.int .u8 0)])]) (.seq (.seq (.reg [oO 6 (.mv (kI 0))]) (.block 0 (.loop v9))) (.seq (.reg [oO 22 (.load (.ag 16) (.t 3)),oN (.store (.ag 16) (.t 2) (.t 22))]) (.ret)))),[(2,(some (.ag 16)))]⟩
theorem R6:aw Tryz.prog { own:=[],comp:=[],frz:=[],nils:=[] } Tryz.f167=some Hm:=by kernel_rfl
theorem JE (G:ah) (s:List UInt8) (hs:s.length=16):aj Tryz.prog G 167 [.agg (s.map bD)] (.w (.c (.d (.agg ((oW s).map bD))))):=by
  refine aB Tryz.func167 R6 rfl rfl ?_;simp only[Hm,af,ae,aa,seval,iteOmega,toNatUp,io];refine bf (zs s) (fun i=>16-i) (fun i=>i≤16) 0 (Yd _) ?_ ?_
  ·refine aD (fun i=>if i=1 then 24 else 16) ?_ ?_ rfl rfl <;> simp only[wx,aC,aK,aa,seval,iteOmega,toNatUp,pO]
  ·intro i hi;have hl:(bJ (iB (bd s)) (bA 16 (0:UInt8)) i).length=16:=by rw[nO _ _ (by rw[cP]; omega),cP]
   by_cases hlt:i<16
   ·have hm:(i+i%4*4)%16=i%4+4*((i / 4+i%4)%4):=by omega
    have hm2:(i+i%4*4)%16<16:=by omega
    have g1:s[(i+i%4*4)%16]?=some (bd s (i%4+4*((i / 4+i%4)%4))):=by rw[← hm]; exact eJ (by omega)
    have h3:i<(bJ (iB (bd s)) (bA 16 (0:UInt8)) i).length:=by omega
    have h5:(bJ (iB (bd s)) (bA 16 (0:UInt8)) i).set i (d8 (bd s (i%4+4*((i / 4+i%4)%4))))=bJ (iB (bd s)) (bA 16 (0:UInt8)) (i+1):=pP (iB (bd s)) _ (by rw[cP]; omega);have t1:Int.tmod (i:Int) 4=((i%4:Nat):Int):=mI i 4;have t2:Int.tmod ((i:Int)+((i%4:Nat):Int)*4) 16=(((i+i%4*4)%16:Nat):Int):=mI (i+i%4*4) 16;have hb:(i%4:Nat)<4:=Zu _ (by decide);generalize hq:i%4=q at *
    generalize hp:(i+q*4)%16=p at *
    simp only[v9,zs,ae,aa,seval,iteOmega,toNatUp,aL,t1,t2,g1];refine sC (qB G (bd s (q+4*((i / 4+q)%4)))) ?_;simp only[f7 h3 (fB _),gM,h5,aL,hl,ae,aa,seval,iteOmega,toNatUp];refine a6 (i+1) (by omega) (by omega) (aD (fun i=>i) ?_ ?_ rfl rfl) <;> simp only[wx,aC,aK,aa,seval,iteOmega,toNatUp]
   ·obtain rfl:i=16:=by omega
    have e:bJ (iB (bd s)) (bA 16 (0:UInt8)) 16=oW s:=sS _ (cP _ _);have e2:=wP s;simp only[v9,zs,e,ae,aa,seval,iteOmega,toNatUp,e2,iz,cP];exact aF
theorem Uv (a b c d:UInt8):am (am (am (gW (am a b)) b) c) d=uM a b c d:=by
  unfold uM Aw;rw[R4 a b,JB,JB]
def yB (s:List UInt8) (i:Nat):St:=⟨aY [(1,.w (.c (.ra (s.map bD)))),(2,.w (.c (.pa 2 1))),(3,.w (.c (.pa 1 1))),(8,.w (.c (.d (.int .i64 (i:Int)))))],hL [(1,.row 1 ((bJ (gT (bd s)) (bA 16 (0:UInt8)) i).map bD)),(2,.row 1 ((bA 16 (0:UInt8)).map bD))],uL [1,2]⟩
def wa:aO := .seq (.reg [oO 9 (.bin .lss (.t 8) (kI 16))]) (.seq (.cond (.t 9) (.skip) (.exit 0)) (.seq (.block 1 (.seq (.reg [oM 10 8,oM 4 10]) (.seq (.reg [oM 11 4,oO 12 (.bin .rem (.t 11) (kI 4)),oM 5 12]) (.seq (.reg [oM 13 4,oM 14 5,oO 15 (.bin .sub (.t 13) (.t 14)),oM 16 4,oM 17 5,oO 18 (.bin .sub (.t 16) (.t 17)),oO 19 (.bin .add (.t 18) (kI 4)),oO 20 (.sliceArr 1 16 (.t 1) (some (.t 15)) (some (.t 19))),oM 6 20]) (.seq (.reg [oM 21 6,oM 22 5,oO 23 (.bin .add (.t 22) (kI 1)),oO 24 (.bin .rem (.t 23) (kI 4)),oO 25 (.idxSl 1 (.t 21) (.t 24)),oO 26 (.load .sc (.t 25)),oM 7 26]) (.reg [oM 27 4,oM 28 4,oO 29 (.idxPa 1 16 (.t 1) (.t 28)),oO 30 (.load .sc (.t 29)),oM 31 7,oO 32 (.bin .xor (.t 30) (.t 31)),oO 33 (.call 163 [(.t 32)] none),oM 34 7,oO 35 (.bin .xor (.t 33) (.t 34)),
 oM 36 6,oM 37 5,oO 38 (.bin .add (.t 37) (kI 2)),oO 39 (.bin .rem (.t 38) (kI 4)),oO 40 (.idxSl 1 (.t 36) (.t 39)),oO 41 (.load .sc (.t 40)),oO 42 (.bin .xor (.t 35) (.t 41)),oM 43 6,oM 44 5,oO 45 (.bin .add (.t 44) (kI 3)),oO 46 (.bin .rem (.t 45) (kI 4)),oO 47 (.idxSl 1 (.t 43) (.t 46)),oO 48 (.load .sc (.t 47)),oO 49 (.bin .xor (.t 42) (.t 48)),oO 50 (.idxPa 1 16 (.t 3) (.t 27)),oN (.store .sc (.t 50) (.t 49))])))))) (.reg [oO 51 (.bin .add (.t 8) (kI 1)),oM 8 51])))
def Hn:aA:=⟨1,53,.seq (.reg [oO 1 (.box .roArr (.t 0)),oO 2 (.allocArr [(.int .u8 0),(.int .u8 0),(.int .u8 0),(.int .u8 0),(.int .u8 0),(.int .u8 0),(.int .u8 0),(.int .u8 0),(.int .u8 0),(.int .u8 0),(.int .u8 0),(.int .u8 0),(.int .u8 0),(.int .u8 0),(.int .u8 0),(.int .u8 0)])]) (.seq (.reg [oO 3 (.allocArr [(.int .u8 0),(.int .u8 0),(.int .u8 0),(.int .u8 0),(.int .u8 0),(.int .u8 0),(.int .u8 0),(.int .u8 0),(.int .u8 0),(.int .u8 0),(.int .u8 0),(.int .u8 0),(.int .u8 0),(.int .u8 0),(.int .u8 0),(.int .u8 0)])]) (.seq (.seq (.reg [oO 8 (.mv (kI 0))]) (.block 0 (.loop wa))) (.seq (.reg [oO 52 (.load (.ag 16) (.t 3)),oN (.store (.ag 16) (.t 2) (.t 52))]) (.ret)))),[(2,(some (.ag 16)))]⟩
theorem R7:aw Tryz.prog { own:=[],comp:=[],frz:=[],nils:=[] } Tryz.f166=some Hn:=by kernel_rfl
theorem Uw (G:ah) (s:List UInt8) (hs:s.length=16):aj Tryz.prog G 166 [.agg (s.map bD)] (.w (.c (.d (.agg ((qQ s).map bD))))):=by
  refine aB Tryz.func166 R7 rfl rfl ?_;simp only[Hn,af,ae,aa,seval,iteOmega,toNatUp,io];refine bf (yB s) (fun i=>16-i) (fun i=>i≤16) 0 (Yd _) ?_ ?_
  ·refine aD (fun i=>if i=1 then 24 else 16) ?_ ?_ rfl rfl <;> simp only[wx,aC,aK,aa,seval,iteOmega,toNatUp,pO]
  ·intro i hi;have hl:(bJ (gT (bd s)) (bA 16 (0:UInt8)) i).length=16:=by rw[nO _ _ (by rw[cP]; omega),cP]
   by_cases hlt:i<16
   ·have h3:i<(bJ (gT (bd s)) (bA 16 (0:UInt8)) i).length:=by omega
    have h5:(bJ (gT (bd s)) (bA 16 (0:UInt8)) i).set i (gT (bd s) i)=bJ (gT (bd s)) (bA 16 (0:UInt8)) (i+1):=pP (gT (bd s)) _ (by rw[cP]; omega);have g0:s[i]?=some (bd s i):=eJ (by omega);obtain⟨q,r,hr,rfl⟩:∃ q r,r<4∧i=4*q+r:=⟨i / 4,i%4,Zu _ (by decide),by omega⟩
    have hq:q<4:=by omega
    have col:∀ j,j<4→((s.drop (4*q)).take 4)[j]?=some (bd s (4*q+j)):=fun j hj=>by
      rw[Yv,if_pos hj,YS]; exact eJ (by omega)
    have g1:=col ((r+1)%4) (Zu _ (by decide));have g2:=col ((r+2)%4) (Zu _ (by decide));have g3:=col ((r+3)%4) (Zu _ (by decide));have t0:Int.tmod (4*(q:Int)+(r:Int)) 4=(r:Int):=by
      show Int.tmod ((4*q+r:Nat):Int) ((4:Nat):Int)=_
      rw[mI]; congr 1; omega
    have t1:Int.tmod ((r:Int)+1) 4=(((r+1)%4:Nat):Int):=mI (r+1) 4;have t2:Int.tmod ((r:Int)+2) 4=(((r+2)%4:Nat):Int):=mI (r+2) 4;have t3:Int.tmod ((r:Int)+3) 4=(((r+3)%4:Nat):Int):=mI (r+3) 4;have b1:(r+1)%4<4:=Zu _ (by decide);have b2:(r+2)%4<4:=Zu _ (by decide);have b3:(r+3)%4<4:=Zu _ (by decide);have em:gT (bd s) (4*q+r)=uM (bd s (4*q+r)) (bd s (4*q+(r+1)%4)) (bd s (4*q+(r+2)%4)) (bd s (4*q+(r+3)%4)):=by
      unfold gT;rw[show (4*q+r) / 4=q by omega,show (4*q+r)%4=r by omega]
    rw[em,← Uv] at h5;have s1:4*q+r-r=4*q:=by omega
    have s2:4*q+4-4*q=4:=by omega
    have s3:((s.drop (4*q)).take 4).length=4:=by rw[Yb,Yg]; omega
    generalize (r+1)%4=r1 at *
    generalize (r+2)%4=r2 at *
    generalize (r+3)%4=r3 at *
    generalize bd s (4*q+r)=a at *
    generalize bd s (4*q+r1)=b at *
    generalize bd s (4*q+r2)=c at *
    generalize bd s (4*q+r3)=d at *
    have x1:=gK a b;have x2:=gK (gW (am a b)) b;have x3:=gK (am (gW (am a b)) b) c;have x4:=gK (am (am (gW (am a b)) b) c) d;simp only[wa,yB,ae,aa,seval,iteOmega,toNatUp,aL,t0,t1,t2,t3,g0,g1,g2,g3,s1,s2,s3,x1];refine sC (Ls G (am a b)) ?_;simp only[aL,t0,t1,t2,t3,g0,g1,g2,g3,s1,s2,s3,x2,x3,x4,f7 h3 (fB _),gM,h5,hl,ae,aa,seval,iteOmega,toNatUp];refine a6 (4*q+r+1) (by omega) (by omega) (aD (fun i=>i) ?_ ?_ rfl rfl) <;> simp only[wx,aC,aK,aa,seval,iteOmega,toNatUp]
   ·obtain rfl:i=16:=by omega
    have e:bJ (gT (bd s)) (bA 16 (0:UInt8)) 16=qQ s:=sS _ (cP _ _);have e2:=E9 s;simp only[wa,yB,e,ae,aa,seval,iteOmega,toNatUp,e2,iz,cP];exact aF
def XX (l:List UInt8) (c:UInt8) (j:Nat):UInt8:=if j=0 then am (d8 (l.getD 13 0)) c else if j=1 then d8 (l.getD 14 0) else if j=2 then d8 (l.getD 15 0) else d8 (l.getD 12 0)
def wV (l:List UInt8) (c:UInt8):Nat→Nat→UInt8
  | 0,j=>XX l c j
  | n+1,j=>if j=n%4 then am (l.getD n 0) (wV l c n (n%4)) else wV l c n j
def gA (l:List UInt8) (c:UInt8) (n:Nat):UInt8:=am (l.getD n 0) (wV l c n (n%4))
def lQ (l:List UInt8) (c:UInt8):List UInt8:=bS (gA l c)
theorem r8 (l:List UInt8) (c:UInt8):(lQ l c).length=16:=fZ _
def wL (l:List UInt8) (c:UInt8) (i:Nat):List UInt8:=(List.range 4).map (wV l c i)
theorem nW (l:List UInt8) (c:UInt8) (i:Nat):(wL l c i).length=4:=by simp[wL]
theorem yC (l:List UInt8) (c:UInt8) (i:Nat) {j:Nat} (h:j<4):(wL l c i)[j]?=some (wV l c i j):=by simp[wL,h]
theorem R8 (l:List UInt8) (c:UInt8) (i:Nat):(wL l c i).set (i%4) (gA l c i)=wL l c (i+1):=by
  apply Y7;intro j;by_cases hj:j<4
  ·rw[yC _ _ _ hj,ZV];by_cases e:i%4=j
   ·rw[if_pos e,if_pos (by rw[nW]; omega),wV,if_pos e.symm]; rfl
   ·rw[if_neg e,yC _ _ _ hj,wV,if_neg (fun h=>e h.symm)]
  ·rw[YP (by rw[Zg,nW]; omega),YP (by rw[nW]; omega)]
theorem R9 (l:List UInt8) (c:UInt8):[am (d8 (l.getD 13 0)) c,d8 (l.getD 14 0),d8 (l.getD 15 0),d8 (l.getD 12 0)]=wL l c 0:=rfl
def zt (l:List UInt8) (c:UInt8) (i:Nat):St:=⟨aY [(2,.w (.c (.pa 1 1))),(4,.w (.c (.pa 2 1))),(5,.w (.c (.pa 3 1))),(22,.w (.c (.d (.int .i64 (i:Int)))))],hL [(1,.row 1 ((bJ (gA l c) l i).map bD)),(2,.row 1 ((bA 16 (0:UInt8)).map bD)),(3,.row 1 ((wL l c i).map bD))],uL [1,2,3]⟩
def wS:aO := .seq (.reg [oO 23 (.bin .lss (.t 22) (kI 16))]) (.seq (.cond (.t 23) (.skip) (.exit 0)) (.seq (.block 1 (.seq (.reg [oM 24 22,oM 6 24]) (.seq (.reg [oM 25 6,oO 26 (.idxPa 1 16 (.t 2) (.t 25)),oO 27 (.load .sc (.t 26)),oM 28 6,oO 29 (.bin .rem (.t 28) (kI 4)),oO 30 (.idxPa 1 4 (.t 5) (.t 29)),oO 31 (.load .sc (.t 30)),oO 32 (.bin .xor (.t 27) (.t 31)),oO 33 (.idxPa 1 16 (.t 2) (.t 25)),oN (.store .sc (.t 33) (.t 32))]) (.reg [oM 34 6,oO 35 (.bin .rem (.t 34) (kI 4)),oM 36 6,oO 37 (.idxPa 1 16 (.t 2) (.t 36)),oO 38 (.load .sc (.t 37)),oO 39 (.idxPa 1 4 (.t 5) (.t 35)),oN (.store .sc (.t 39) (.t 38))])))) (.reg [oO 40 (.bin .add (.t 22) (kI 1)),oM 22 40])))
def JF:aA:=⟨2,42,.seq (.reg [oO 2 (.box .ownArr (.t 0)),oO 4 (.allocArr [(.int .u8 0),(.int .u8 0),(.int .u8 0),(.int .u8 0),(.int .u8 0),(.int .u8 0),(.int .u8 0),(.int .u8 0),(.int .u8 0),(.int .u8 0),(.int .u8 0),(.int .u8 0),(.int .u8 0),(.int .u8 0),(.int .u8 0),(.int .u8 0)])]) (.seq (.reg [oO 7 (.idxPa 1 16 (.t 2) (kI 13)),oO 8 (.load .sc (.t 7)),oO 9 (.call 180 [(.t 8)] none),oM 10 1,oO 11 (.bin .xor (.t 9) (.t 10)),oO 12 (.idxPa 1 16 (.t 2) (kI 14)),oO 13 (.load .sc (.t 12)),oO 14 (.call 180 [(.t 13)] none),oO 15 (.idxPa 1 16 (.t 2) (kI 15)),oO 16 (.load .sc (.t 15)),oO 17 (.call 180 [(.t 16)] none),oO 18 (.idxPa 1 16 (.t 2) (kI 12)),oO 19 (.load .sc (.t 18)),oO 20 (.call 180 [(.t 19)] none),oO 21 (.build [(.d (.int .u8 0)),(.d (.int .u8 0)),(.d (.int .u8 0)),(.d (.int .u8 0))] [(0,1,(.t 11)),(1,1,(.t 14)),(2,1,(.t 17)),(3,1,(.t 20))]),
 oO 5 (.allocArr [(.int .u8 0),(.int .u8 0),(.int .u8 0),(.int .u8 0)]),oN (.store (.ag 4) (.t 5) (.t 21))]) (.seq (.seq (.reg [oO 22 (.mv (kI 0))]) (.block 0 (.loop wS))) (.seq (.reg [oO 41 (.load (.ag 16) (.t 2)),oN (.store (.ag 16) (.t 4) (.t 41))]) (.ret)))),[(4,(some (.ag 16)))]⟩
theorem Ux:aw Tryz.prog { own:=[2],comp:=[],frz:=[],nils:=[] } Tryz.f162=some JF:=by kernel_rfl
set_option maxHeartbeats 3200000 in
theorem W0 (G:ah) (l:List UInt8) (c:UInt8) (hl:l.length=16):aj Tryz.prog G 162 [.agg (l.map bD),bD c] (.w (.c (.d (.agg ((lQ l c).map bD))))):=by
  refine aB Tryz.func162 Ux rfl rfl ?_;have a13:l[13]?=some (l.getD 13 0):=eJ (by omega);have a14:l[14]?=some (l.getD 14 0):=eJ (by omega);have a15:l[15]?=some (l.getD 15 0):=eJ (by omega);have a12:l[12]?=some (l.getD 12 0):=eJ (by omega);have x0:=gK (d8 (l.getD 13 0)) c;have w0:=congrArg (List.map bD) (R9 l c);have wl:=nW l c 0;simp only[Ya,Yo] at w0;simp only[JF,af,ae,aa,seval,iteOmega,toNatUp,io,hl,aL,a13];refine sC (qB G (l.getD 13 0)) ?_;simp only[x0,aL,a14,hl,ae,aa,seval,iteOmega,toNatUp];refine sC (qB G (l.getD 14 0)) ?_;simp only[aL,a15,hl,ae,aa,seval,iteOmega,toNatUp];refine sC (qB G (l.getD 15 0)) ?_;simp only[aL,a12,hl,ae,aa,seval,iteOmega,toNatUp];refine sC (qB G (l.getD 12 0)) ?_;simp only[w0,ae,aa,seval,iteOmega,toNatUp];refine bf (zt l c) (fun i=>16-i) (fun i=>i≤16) 0 (Yd _) ?_ ?_
  ·refine aD (fun i=>if i=1 then 16 else if i=2 then 32 else 40) ?_ ?_ rfl rfl <;> simp only[wx,aC,aK,aa,seval,iteOmega,toNatUp,pO]
  ·intro i hi;have hu:(bJ (gA l c) l i).length=16:=by rw[nO _ _ (by omega)]; exact hl
   by_cases hlt:i<16
   ·have hm:i%4<4:=Zu _ (by decide);have t1:Int.tmod (i:Int) 4=((i%4:Nat):Int):=mI i 4;have g1:(bJ (gA l c) l i)[i]?=some (l.getD i 0):=by rw[Hl _ _ (Ye i)]; exact eJ (by omega)
    have g2:=yC l c i hm;have x1:=gK (l.getD i 0) (wV l c i (i%4));have h3:i<(bJ (gA l c) l i).length:=by omega
    have h4:i%4<(wL l c i).length:=by rw[nW]; exact hm
    have h5:(bJ (gA l c) l i).set i (gA l c i)=bJ (gA l c) l (i+1):=pP (gA l c) l (by omega);have h6:=R8 l c i;have g3:(bJ (gA l c) l (i+1))[i]?=some (gA l c i):=Qe _ _ (Nat.lt_succ_self i);have hf:am (l.getD i 0) (wV l c i (i%4))=gA l c i:=rfl;have hwl:=nW l c i;have hu2:(bJ (gA l c) l (i+1)).length=16:=by rw[nO _ _ (by omega)]; exact hl
    generalize hq:i%4=q at *
    simp only[wS,zt,ae,aa,seval,iteOmega,toNatUp,aL,t1,g1,g2,x1,hf,f7 h3 (fB _),f7 h4 (fB _),gM,h5,h6,g3,hu,hu2,hwl];refine a6 (i+1) (by omega) (by omega) (aD (fun i=>i) ?_ ?_ rfl rfl) <;> simp only[wx,aC,aK,aa,seval,iteOmega,toNatUp]
   ·obtain rfl:i=16:=by omega
    have e:bJ (gA l c) l 16=lQ l c:=sS _ hl;have e2:=r8 l c;simp only[wS,zt,e,ae,aa,seval,iteOmega,toNatUp,e2,iz,cP];exact aF
theorem OL {P Q:List UInt8} {k n:Nat} (h:P.length=n):(P++Q).getD (n+k) 0=Q.getD k 0:=by
  rw[X6,X6,YC (by omega),h,ZJ]
theorem Qh {P Q:List UInt8} {k n:Nat} (h:P.length=n):(P++Q).drop (n+k)=Q.drop k:=by
  rw[← h,List.drop_append,Y3 (by omega),Y4,ZJ]
theorem rJ {P Q:List UInt8} {n:Nat} (h:P.length=4*n):ku (P++Q) n=(List.range 4).map fun k=>am (Q.getD k 0) ((oB (Q.drop 12) n).getD k 0):=by
  unfold ku;refine YN fun k _=>?_
  rw[OL h,show 12+4*n=4*n+12 by omega,Qh h]
theorem W4 (b0 b1 b2 b3 b4 b5 b6 b7 b8 b9 b10 b11 b12 b13 b14 b15 c:UInt8):∃ f0 f1 f2 f3,
    f0=am b0 (am (d8 b13) c)∧f1=am b1 (d8 b14)∧f2=am b2 (d8 b15)∧f3=am b3 (d8 b12) ∧
    lQ [b0,b1,b2,b3,b4,b5,b6,b7,b8,b9,b10,b11,b12,b13,b14,b15] c =
      [f0,f1,f2,f3,am b4 f0,am b5 f1,am b6 f2,am b7 f3,am b8 (am b4 f0),am b9 (am b5 f1),am b10 (am b6 f2),am b11 (am b7 f3),
       am b12 (am b8 (am b4 f0)),am b13 (am b9 (am b5 f1)),am b14 (am b10 (am b6 f2)),am b15 (am b11 (am b7 f3))] :=
  ⟨_,_,_,_,rfl,rfl,rfl,rfl,rfl⟩
theorem r9 (f:Nat→UInt8):(List.range 4).map f=[f 0,f 1,f 2,f 3]:=rfl
theorem Qi {P:List UInt8} {r:Nat} (hP:P.length=16*r) (b0 b1 b2 b3 b4 b5 b6 b7 b8 b9 b10 b11 b12 b13 b14 b15:UInt8) (key:List UInt8)
    (h:dQ key (4*r)=P++[b0,b1,b2,b3,b4,b5,b6,b7,b8,b9,b10,b11,b12,b13,b14,b15]) :
    dQ key (4*(r+1))=dQ key (4*r)++lQ [b0,b1,b2,b3,b4,b5,b6,b7,b8,b9,b10,b11,b12,b13,b14,b15] (ig r):=by
  obtain⟨f0,f1,f2,f3,e0,e1,e2,e3,ef⟩:=W4 b0 b1 b2 b3 b4 b5 b6 b7 b8 b9 b10 b11 b12 b13 b14 b15 (ig r);have m0:4*r%4=0:=by omega
  have m1:(4*r+1)%4≠0:=by omega
  have m2:(4*r+2)%4≠0:=by omega
  have m3:(4*r+3)%4≠0:=by omega
  have d0:4*r / 4=r:=by omega
  have n0:ku (dQ key (4*r)) (4*r)=[f0,f1,f2,f3]:=by
    rw[h,rJ (by omega),r9];unfold oB;rw[if_pos m0,d0,e0,e1,e2,e3]; rfl
  have s1:dQ key (4*r+1)=(P++[b0,b1,b2,b3])++[b4,b5,b6,b7,b8,b9,b10,b11,b12,b13,b14,b15,f0,f1,f2,f3]:=by
    rw[dQ,n0,h]; simp
  have n1:ku (dQ key (4*r+1)) (4*r+1)=[am b4 f0,am b5 f1,am b6 f2,am b7 f3]:=by
    rw[s1,rJ (by simp; omega),r9];unfold oB;rw[if_neg m1]; rfl
  have s2:dQ key (4*r+2)=(P++[b0,b1,b2,b3,b4,b5,b6,b7])++[b8,b9,b10,b11,b12,b13,b14,b15,f0,f1,f2,f3,am b4 f0,am b5 f1,am b6 f2,am b7 f3]:=by
    rw[show 4*r+2=(4*r+1)+1 from rfl,dQ,n1,s1]; simp
  have n2:ku (dQ key (4*r+2)) (4*r+2)=[am b8 (am b4 f0),am b9 (am b5 f1),am b10 (am b6 f2),am b11 (am b7 f3)]:=by
    rw[s2,rJ (by simp; omega),r9];unfold oB;rw[if_neg m2]; rfl
  have s3:dQ key (4*r+3)=(P++[b0,b1,b2,b3,b4,b5,b6,b7,b8,b9,b10,b11])++[b12,b13,b14,b15,f0,f1,f2,f3,am b4 f0,am b5 f1,am b6 f2,am b7 f3,am b8 (am b4 f0),am b9 (am b5 f1),am b10 (am b6 f2),am b11 (am b7 f3)]:=by
    rw[show 4*r+3=(4*r+2)+1 from rfl,dQ,n2,s2]; simp
  have n3:ku (dQ key (4*r+3)) (4*r+3)=[am b12 (am b8 (am b4 f0)),am b13 (am b9 (am b5 f1)),am b14 (am b10 (am b6 f2)),am b15 (am b11 (am b7 f3))]:=by
    rw[s3,rJ (by simp; omega),r9];unfold oB;rw[if_neg m3]; rfl
  rw[show 4*(r+1)=(4*r+3)+1 by omega,dQ,n3,s3,ef,h];simp
def kb (key:List UInt8) (r:Nat):List UInt8:=(dQ key (4*r)).drop (16*r)
theorem yD {key:List UInt8} (h:key.length=16) (r:Nat):(kb key r).length=16:=by
  unfold kb; rw[Yg,mh h]; omega
theorem Uy {l:List UInt8} (h:l.length=16):∃ b0 b1 b2 b3 b4 b5 b6 b7 b8 b9 b10 b11 b12 b13 b14 b15,l=[b0,b1,b2,b3,b4,b5,b6,b7,b8,b9,b10,b11,b12,b13,b14,b15]:=by
  rcases l with _ | ⟨b0,l⟩ <;> simp at h
  rcases l with _ | ⟨b1,l⟩ <;> simp at h
  rcases l with _ | ⟨b2,l⟩ <;> simp at h
  rcases l with _ | ⟨b3,l⟩ <;> simp at h
  rcases l with _ | ⟨b4,l⟩ <;> simp at h
  rcases l with _ | ⟨b5,l⟩ <;> simp at h
  rcases l with _ | ⟨b6,l⟩ <;> simp at h
  rcases l with _ | ⟨b7,l⟩ <;> simp at h
  rcases l with _ | ⟨b8,l⟩ <;> simp at h
  rcases l with _ | ⟨b9,l⟩ <;> simp at h
  rcases l with _ | ⟨b10,l⟩ <;> simp at h
  rcases l with _ | ⟨b11,l⟩ <;> simp at h
  rcases l with _ | ⟨b12,l⟩ <;> simp at h
  rcases l with _ | ⟨b13,l⟩ <;> simp at h
  rcases l with _ | ⟨b14,l⟩ <;> simp at h
  rcases l with _ | ⟨b15,l⟩ <;> simp at h
  subst h;exact⟨_,_,_,_,_,_,_,_,_,_,_,_,_,_,_,_,rfl⟩
theorem Sa {key:List UInt8} (h:key.length=16) (r:Nat):dQ key (4*(r+1))=dQ key (4*r)++lQ (kb key r) (ig r):=by
  obtain⟨b0,b1,b2,b3,b4,b5,b6,b7,b8,b9,b10,b11,b12,b13,b14,b15,e⟩:=Uy (yD h r);rw[e];refine Qi (P:=(dQ key (4*r)).take (16*r)) ?_ _ _ _ _ _ _ _ _ _ _ _ _ _ _ _ _ key ?_
  ·rw[Yb,mh h]; omega
  ·rw[← e]; exact (YI _ _).symm
def fU (key:List UInt8) (i:Nat):List UInt8:=dQ key (4*i)++bA (160-16*i) 0
theorem Sb {key:List UInt8} (h:key.length=16) {i:Nat} (hi:i≤10):(fU key i).length=176:=by
  unfold fU; rw[X5,mh h,cP]; omega
theorem Qj {key:List UInt8} (h:key.length=16):cK (bA 176 (0:UInt8)) 0 key=fU key 0:=by
  unfold cK fU bA;rw[Zf,Y4,List.drop_replicate,h]; rfl
theorem Qk {key:List UInt8} (h:key.length=16) {i:Nat} (hi:i≤10):((fU key i).drop (i*16)).take 16=kb key i:=by
  unfold fU;rw[Nat.mul_comm,List.drop_append_of_le_length (by rw[mh h]; omega)];exact List.take_left' (yD h i)
theorem Ql {key:List UInt8} (h:key.length=16) {i:Nat} (hi:i<10):cK (fU key i) ((i+1)*16) (lQ (kb key i) (ig i))=fU key (i+1):=by
  have hl:(dQ key (4*i)).length=(i+1)*16:=by rw[mh h]; omega
  unfold cK fU;rw[Sa h,List.take_append_of_le_length (by omega),X7 (by omega),r8,List.drop_append,Y3 (by omega),Y4,hl]
  congr 1
  unfold bA;rw[List.drop_replicate]
  congr 1
  omega
theorem Qm (key:List UInt8):fU key 10=aQ key:=by
  unfold fU bA aQ; rw[show 160-16*10=0 from rfl,Zm,Ym]
set_option maxHeartbeats 3200000
def yE (key:List UInt8) (i:Nat):St:=⟨aY [(2,.w (.c (.ptr 2 1 0 0))),(3,.w (.c (.ptr 1 1 0 0))),(4,.w (.c (.d (bD (ig i))))),(5,.w (.c (.d (.int .i64 ((i+1:Nat):Int)))))],hL [(1,.box ((fU key i).map bC)),(2,.box ((bA 176 (0:UInt8)).map bC))],uL [1,2]⟩
theorem XS:ig 0=1:=rfl
def wb:aO := .seq (.seq (.reg [oM 10 5,oO 11 (.bin .leq (.t 10) (kI 10))]) (.cond (.t 11) (.skip) (.exit 0))) (.seq (.block 1 (.seq (.reg [oM 14 5,oM 15 5,oO 16 (.bin .sub (.t 15) (kI 1)),oO 17 (.idxPa 16 11 (.t 3) (.t 16)),oO 18 (.load (.ag 16) (.t 17)),oM 19 4,oO 20 (.call 162 [(.t 18),(.t 19)] none),oO 21 (.idxPa 16 11 (.t 3) (.t 14)),oN (.store (.ag 16) (.t 21) (.t 20))]) (.reg [oM 22 4,oO 23 (.call 163 [(.t 22)] none),oM 4 23]))) (.reg [oM 12 5,oO 13 (.bin .add (.t 12) (kI 1)),oM 5 13]))
def Ho:aA:=⟨1,25,.seq (.reg [oO 2 (.alloc (bA 176 (.d (.int .u8 0))))]) (.seq (.reg [oO 3 (.alloc (bA 176 (.d (.int .u8 0))))]) (.seq (.reg [oO 6 (.idxPa 16 11 (.t 3) (kI 0)),oO 7 (.sliceArr 1 16 (.t 6) none none),oM 8 0,oO 9 (.copy 1 (.t 7) (.t 8))]) (.seq (.reg [oO 4 (.mv (.k (.c (.d (.int .u8 1)))))]) (.seq (.seq (.reg [oO 5 (.mv (kI 1))]) (.block 0 (.loop wb))) (.seq (.reg [oO 24 (.load (.ag 176) (.t 3)),oN (.store (.ag 176) (.t 2) (.t 24))]) (.ret)))))),[(2,(some (.ag 176)))]⟩
theorem Sc:aw Tryz.prog { own:=[],comp:=[],frz:=[],nils:=[] } Tryz.f148=some Ho:=by kernel_rfl
theorem JG (G:ah) (key:List UInt8) (h:key.length=16):aj Tryz.prog G 148 [.sl (key.map bD)] (.w (.c (.d (.agg ((aQ key).map bD))))):=by
  refine aB Tryz.func148 Sc rfl rfl ?_;have ht:key.take 16=key:=X7 (by omega);have h0:key++List.drop key.length (bA 176 (0:UInt8))=fU key 0:=by rw[← Qj h]; simp[cK]
  have hid:=gL (fU key 0);have hid2:=gL (bA 176 (0:UInt8));simp only[Ho,af,ae,aa,seval,iteOmega,toNatUp,G6,i5,cP,fK,ht,iz,qz,PU,h0];refine bf (yE key) (fun i=>10-i) (fun i=>i≤10) 0 (Yd _) ?_ ?_
  ·refine aD (fun i=>if i=1 then 24 else 16) ?_ ?_ rfl (by simp[V.ids,W.ids,C.ids,Ob.ids,gL]) <;> simp only[wx,aC,aK,aa,seval,iteOmega,toNatUp,XS,XW,nU,gL]
  ·intro i hi;have hl:=Sb h hi;by_cases hlt:i<10
   ·have g1:=Qk h hi;have h5:List.take ((i+1)*16) (fU key i)++lQ (kb key i) (ig i)++List.drop ((i+1)*16+16) (fU key i)=fU key (i+1):=by
      rw[← Ql h hlt]; unfold cK; rw[r8]
    have hf:=r8 (kb key i) (ig i);have hx:gW (ig i)=ig (i+1):=rfl;have s1:((i:Int)+1-1).toNat=i:=by omega
    simp only[wb,yE,ae,aa,seval,iteOmega,toNatUp,i5,hl,fK,jq,g1,p6];refine sC (W0 G (kb key i) (ig i) (yD h i)) ?_;simp only[i5,hl,qz,hf,fK,jq,j6,h5,ae,aa,seval,iteOmega,toNatUp];refine sC (Ls G (ig i)) ?_;simp only[hx,ae,aa,seval,iteOmega,toNatUp];refine a6 (i+1) (by omega) (by omega) (aD (fun i=>i) ?_ ?_ rfl (by simp[V.ids,W.ids,C.ids,Ob.ids,gL])) <;> simp only[wx,aC,aK,aa,seval,iteOmega,toNatUp,nU,gL]
   ·obtain rfl:i=10:=by omega
    have e:=Qm key;have e2:=xJ h;rw[e] at hl;have t1:(aQ key).take 176=aQ key:=X7 (by omega);have t2:List.drop 176 (bA 176 (0:UInt8))=[]:=Y3 (by rw[cP]; omega);have t3:aQ key++List.drop (aQ key).length (bA 176 (0:UInt8))=aQ key:=by rw[e2,t2,Ym]
    simp only[wb,yE,e,ae,aa,seval,iteOmega,toNatUp,i5,hl,e2,t1,t2,t3,p6,qz,cP,fK,jq,j6,Ym];exact mo (by simp only[ae,aa,seval,iteOmega,toNatUp,i5,hl,e2,t1,t2,t3,p6,qz,cP,fK,jq,j6,Ym])
theorem Qn (l:List UInt8):dI ((l.map bD).map C.d)=some (l.map bD):=by
  induction l with
  | nil=>rfl
  | cons x l ih =>
    show dI (C.d (bD x)::(l.map bD).map C.d)=_
    simp only[dI,ih,Ya,Y9]
theorem Qo (rk b:List UInt8) (hb:b.length=16):mS b (bS (d9 rk 0))=bS (iI (d9 rk) (bd b) 0):=by
  have:=wQ (bd b) (d9 rk 0);rw[Uq hb] at this;exact this
theorem Sd (rk b:List UInt8) {n:Nat} (h:n+1<10):mS (qQ (oW (bS (iI (d9 rk) (bd b) n)))) (bS (d9 rk (n+1)))=bS (iI (d9 rk) (bd b) (n+1)):=by
  rw[Fa,Qg,wQ]
  show _=bS (yz _ _ _)
  unfold yz;rw[if_pos h]
theorem Qp (rk b:List UInt8):mS (oW (bS (iI (d9 rk) (bd b) 9))) (bS (d9 rk 10))=ez rk b:=by
  rw[Fa,wQ];rfl
def zu (rk b:List UInt8) (i:Nat):St:=⟨aY [(2,.w (.c (.rp (rk.map bD)))),(4,.w (.c (.pa 2 1))),(5,.w (.c (.pa 1 1))),(6,.w (.c (.d (.int .i64 ((i+1:Nat):Int)))))],hL [(1,.row 1 ((bS (iI (d9 rk) (bd b) i)).map bD)),(2,.row 1 ((bA 16 (0:UInt8)).map bD))],uL [1,2]⟩
def wc:aO := .seq (.seq (.reg [oM 14 6,oO 15 (.bin .lss (.t 14) (kI 10))]) (.cond (.t 15) (.skip) (.exit 0))) (.seq (.block 1 (.reg [oO 18 (.load (.ag 16) (.t 5)),oO 19 (.call 167 [(.t 18)] none),oO 20 (.call 166 [(.t 19)] none),oM 21 6,oO 22 (.idxPa 16 11 (.t 2) (.t 21)),oO 23 (.load (.ag 16) (.t 22)),oO 24 (.call 165 [(.t 20),(.t 23)] none),oN (.store (.ag 16) (.t 5) (.t 24))])) (.reg [oM 16 6,oO 17 (.bin .add (.t 16) (kI 1)),oM 6 17]))
def Hp:aA:=⟨2,30,.seq (.reg [oO 2 (.box .roBox (.t 0)),oO 4 (.allocArr [(.int .u8 0),(.int .u8 0),(.int .u8 0),(.int .u8 0),(.int .u8 0),(.int .u8 0),(.int .u8 0),(.int .u8 0),(.int .u8 0),(.int .u8 0),(.int .u8 0),(.int .u8 0),(.int .u8 0),(.int .u8 0),(.int .u8 0),(.int .u8 0)])]) (.seq (.reg [oO 5 (.allocArr [(.int .u8 0),(.int .u8 0),(.int .u8 0),(.int .u8 0),(.int .u8 0),(.int .u8 0),(.int .u8 0),(.int .u8 0),(.int .u8 0),(.int .u8 0),(.int .u8 0),(.int .u8 0),(.int .u8 0),(.int .u8 0),(.int .u8 0),(.int .u8 0)])]) (.seq (.reg [oO 7 (.sliceArr 1 16 (.t 5) none none),oM 8 1,oO 9 (.copy 1 (.t 7) (.t 8))]) (.seq (.reg [oO 10 (.load (.ag 16) (.t 5)),oO 11 (.idxPa 16 11 (.t 2) (kI 0)),oO 12 (.load (.ag 16) (.t 11)),oO 13 (.call 165 [(.t 10),(.t 12)] none),oN (.store (.ag 16) (.t 5) (.t 13))])
 (.seq (.seq (.reg [oO 6 (.mv (kI 1))]) (.block 0 (.loop wc))) (.seq (.reg [oO 25 (.load (.ag 16) (.t 5)),oO 26 (.call 167 [(.t 25)] none),oO 27 (.idxPa 16 11 (.t 2) (kI 10)),oO 28 (.load (.ag 16) (.t 27)),oO 29 (.call 165 [(.t 26),(.t 28)] none),oN (.store (.ag 16) (.t 4) (.t 29))]) (.ret)))))),[(4,(some (.ag 16)))]⟩
theorem Se:aw Tryz.prog { own:=[],comp:=[],frz:=[],nils:=[] } Tryz.f150=some Hp:=by kernel_rfl
theorem JH (G:ah) (rk b:List UInt8) (hk:rk.length=176) (hb:b.length=16):aj Tryz.prog G 150 [.agg (rk.map bD),.sl (b.map bD)] (.w (.c (.d (.agg ((ez rk b).map bD))))):=by
  refine aB Tryz.func150 Se rfl rfl ?_;have ht:b.take 16=b:=X7 (by omega);have key:∀ r,r≤10→(rk.drop (16*r)).take 16=bS (d9 rk r):=fun r hr=>by
    apply Y7;intro j;by_cases hj:j<16
    ·rw[sR _ hj,Yv,if_pos hj,YS]; exact eJ (by omega)
    ·rw[YP (by rw[Yb]; omega),YP (by rw[fZ]; omega)]
  have d1:b++List.drop b.length (bA 16 (0:UInt8))=b:=by rw[hb,Y3 (by rw[cP]; omega),Ym]
  have d2:List.drop 16 (bA 16 (0:UInt8))=[]:=Y3 (by rw[cP]; omega);have k0:=key 0 (by decide);have l0:(bS (d9 rk 0)).length=16:=fZ _;have t0:(bS (d9 rk 0)).take 16=bS (d9 rk 0):=X7 (by rw[fZ]; omega);have a0:=Qo rk b hb;have la:=fZ (iI (d9 rk) (bd b) 0);simp only[Nat.mul_zero,ZL] at k0;simp only[Hp,af,ae,aa,seval,iteOmega,toNatUp,io,Qn,cP,fK,ht,jq,j6,d1,d2,k0,iz,hb,l0,t0,Ym,Zo];refine sC (zr G b (bS (d9 rk 0)) hb l0) ?_;simp only[a0,la,cP,ae,aa,seval,iteOmega,toNatUp];refine bf (zu rk b) (fun i=>9-i) (fun i=>i≤9) 0 (Yd _) ?_ ?_
  ·refine aD (fun i=>if i=1 then 40 else 32) ?_ ?_ rfl rfl <;> simp only[wx,aC,aK,aa,seval,iteOmega,toNatUp]
  ·intro i hi;have le:=fZ (iI (d9 rk) (bd b) i);have hr:i+1≤10:=by omega
   have k1:=key (i+1) hr;rw[Nat.mul_comm] at k1;have l1:(bS (d9 rk (i+1))).length=16:=fZ _;have t1:(bS (d9 rk (i+1))).take 16=bS (d9 rk (i+1)):=X7 (by rw[fZ]; omega);by_cases hlt:i<9
   ·have h5:=Sd rk b (n:=i) (by omega);have le2:=fZ (iI (d9 rk) (bd b) (i+1));simp only[wc,zu,ae,aa,seval,iteOmega,toNatUp,le,iz];refine sD (JE G (bS (iI (d9 rk) (bd b) i)) le) ?_;refine sC (Uw G _ (wP _)) ?_;simp only[fK,jq,k1,l1,t1,ae,aa,seval,iteOmega,toNatUp];refine sC (zr G _ _ (E9 _) l1) ?_;simp only[h5,le2,le,ae,aa,seval,iteOmega,toNatUp];refine a6 (i+1) (by omega) (by omega) (aD (fun i=>i) ?_ ?_ rfl rfl) <;> simp only[wx,aC,aK,aa,seval,iteOmega,toNatUp]
   ·obtain rfl:i=9:=by omega
    have h5:=Qp rk b;have le2:=iX rk b;simp only[wc,zu,ae,aa,seval,iteOmega,toNatUp,le,iz];refine sC (JE G (bS (iI (d9 rk) (bd b) 9)) le) ?_;simp only[fK,jq,k1,l1,t1,ae,aa,seval,iteOmega,toNatUp];refine sC (zr G _ _ (wP _) l1) ?_;simp only[h5,le2,cP,ae,aa,seval,iteOmega,toNatUp];exact mo (by simp only[ae,aa,seval,iteOmega,toNatUp,le2,iz])
def mB (a b c:List UInt8):List UInt8:=a++b++c

theorem Fb:∀ a b:List UInt8,df (a++b)=if (df b).2 then ((df a).1++(df b).1,(df a).2) else (a++(df b).1,false)
  | [],b=>by
    show df b=if (df b).2 then ([]++(df b).1,true) else ([]++(df b).1,false)
    rcases df b with ⟨s,_ | _⟩ <;> rfl
  | x::a,b=>by
    have ih:=Fb a b;simp only[YW,df,ih];cases h:(df b).2
    ·simp
    ·simp only[if_true];cases h2:(df a).2 <;> simp
def carry (c:List UInt8) (m:Nat):Prop:=(df (c.drop m)).2=true
def fj (c:List UInt8) (m:Nat):List UInt8:=c.take m++(df (c.drop m)).1
theorem Fc (c:List UInt8) (m:Nat):(fj c m).length=c.length:=by
  unfold fj; rw[X5,wO,← X5,YI]
theorem Ny (c:List UInt8):fj c c.length=c:=by unfold fj; simp[df]
theorem M6 (c:List UInt8):carry c c.length:=by unfold carry; simp[df]
theorem OM (c:List UInt8):fj c 0=kv c:=by unfold fj kv; simp
theorem Sf {c:List UInt8} {m:Nat} (h:m<c.length):(fj c (m+1))[m]?=some (c.getD m 0):=by
  unfold fj;rw[YO (by rw[Yb]; omega),Yv,if_pos (by omega)];exact eJ h
theorem CN {c:List UInt8} {m:Nat} (h:m<c.length):c.drop m=c.getD m 0::c.drop (m+1):=by
  rw[List.drop_eq_getElem_cons h,X6,X3 h]; rfl
theorem Sg {c:List UInt8} {m:Nat} (h:m<c.length) (hc:carry c (m+1)):(fj c (m+1)).set m (c.getD m 0+1)=fj c m:=by
  have e:(df (c.drop m)).1=(c.getD m 0+1)::(df (c.drop (m+1))).1:=by
    rw[CN h];unfold carry at hc;simp only[df,hc,if_true]
  have e2:c.take (m+1)=c.take m++[c.getD m 0]:=by
    rw[ZG,eJ h]; rfl
  unfold fj;rw[e,e2,Yy,ZQ _ _ (by rw[Yb]; omega),Yb,show m-min m c.length=0 by omega];rfl
theorem Nz {c:List UInt8} {m:Nat} (h:m<c.length) (hc:carry c (m+1)):(df (c.drop m)).2=(c.getD m 0+1==0):=by
  rw[CN h];unfold carry at hc;simp only[df,hc,if_true]
theorem Si {c:List UInt8} {m:Nat} (h:(df (c.drop m)).2=false):fj c m=kv c:=by
  have:=Fb (c.take m) (c.drop m);rw[YI,h] at this;unfold kv fj;rw[this]; rfl
theorem Uz (x c:UInt8) (n:Int) (h:n=(c.toNat:Int)):bF .add (.w (.c (.d (bD x)))) (.w (.c (.d (.int .u8 n))))=some (bD (x+c)):=by
  subst h
  show br .add .u8 (x.toNat:Int) .u8 (c.toNat:Int)=_
  rw[rR,IntKind.wrap_u8]
  show some (D.int .u8 (((x.toNat:Int)+(c.toNat:Int))%256))=_
  have:((x.toNat:Int)+(c.toNat:Int))%256=((x+c).toNat:Int):=by
    rw[UInt8.toNat_add]; simp
  rw[this]; rfl
def uO (c:List UInt8):List UInt8:=if c.length=16 then kv c else []
def uP (c:List UInt8) (m:Nat):St:=⟨aY [(3,.w (.c (.own 1 1 0 16))),(4,.w (.c (.d (.int .i64 ((m:Int)-1)))))],hL [(1,.row 1 ((fj c m).map bD))],uL [1]⟩
def sg:aO := .seq (.seq (.reg [oM 14 4,oO 15 (.bin .geq (.t 14) (kI 0))]) (.cond (.t 15) (.skip) (.exit 0))) (.seq (.block 1 (.seq (.reg [oM 18 3,oM 19 4,oO 20 (.idxSl 1 (.t 18) (.t 19)),oO 21 (.load .sc (.t 20)),oO 22 (.bin .add (.t 21) (.k (.c (.d (.int .u8 1))))),oO 23 (.idxSl 1 (.t 18) (.t 19)),oN (.store .sc (.t 23) (.t 22))]) (.seq (.reg [oM 24 3,oM 25 4,oO 26 (.idxSl 1 (.t 24) (.t 25)),oO 27 (.load .sc (.t 26)),oO 28 (.bin .neq (.t 27) (.k (.c (.d (.int .u8 0)))))]) (.cond (.t 28) (.exit 0) (.skip))))) (.reg [oM 16 4,oO 17 (.bin .sub (.t 16) (kI 1)),oM 4 17]))
def yF:aA:=⟨1,30,.seq (.reg [oO 2 (.mv (.k (.c .nil)))]) (.seq (.seq (.reg [oM 5 0,oO 6 (.len (.t 5)),oO 7 (.bin .neq (.t 6) (kI 16))]) (.cond (.t 7) (.seq (.reg [oO 2 (.mv (.k (.c .nil)))]) (.ret)) (.skip))) (.seq (.reg [oM 8 0,oO 9 (.bldSl false 1 1 (.sl []) [(0,(.t 8))]),oO 10 (.call 90 [(.t 9)] (some (0,1))),oM 3 10]) (.seq (.seq (.reg [oM 11 3,oO 12 (.len (.t 11)),oO 13 (.bin .sub (.t 12) (kI 1)),oM 4 13]) (.block 0 (.loop sg))) (.seq (.reg [oM 29 3,oM 2 29]) (.ret))))),[(2,none)]⟩
theorem UA:aw Tryz.prog { own:=[10],comp:=[],frz:=[],nils:=[] } Tryz.f151=some yF:=by kernel_rfl
theorem W5 (G:ah) (c:List UInt8) (hc:c.length≤140737488355328):aj Tryz.prog G 151 [.sl (c.map bD)] (.w (.c (.fr 1 ((uO c).map bD)))):=by
  refine aB Tryz.func151 UA rfl rfl ?_;unfold uO;by_cases h:c.length=16
  ·rw[if_pos h];have hj:=dU G [c] (by simp) (by simp; omega);have hf:[c].flatten=c:=by simp
   rw[hf] at hj;have hs:=Ny c;rw[h] at hs;simp only[yF,af,ae,aa,seval,iteOmega,toNatUp,h];refine sD (hj) ?_;refine bf (uP c) (fun m=>m) (fun m=>m≤16∧carry c m) 16 ⟨Ye _,by have:=M6 c; rwa [h] at this⟩ ?_ ?_
   ·refine aD (fun i=>80) ?_ ?_ rfl rfl <;> simp only[wx,aC,aK,aa,seval,iteOmega,toNatUp,hs,h] <;> rfl
   ·rintro m ⟨hm,hcar⟩;rcases m with _ | q
    ·have e0:=OM c;have hl:(kv c).length=16:=by rw[CL]; exact h
     simp only[sg,uP,e0,Zr,Int.zero_sub,ae,aa,seval,iteOmega,toNatUp];exact eV (id:=1) (n:=16) (s:=1) (by simp only[wx,aa,seval,iteOmega,toNatUp]) (by simp only[wx,aa,seval,iteOmega,toNatUp]) (by simp[hl])
    ·have hq:q<c.length:=by omega
     have hl1:(fj c (q+1)).length=16:=by rw[Fc]; exact h
     have hl0:(fj c q).length=16:=by rw[Fc]; exact h
     have g1:=Sf hq;have h3:q<(fj c (q+1)).length:=by omega
     have h5:=Sg hq hcar;have g2:(fj c q)[q]?=some (c.getD q 0+1):=by
       rw[← h5,List.getElem?_set_self (by omega)]
     have x1:=Uz (c.getD q 0) 1 1 rfl;have x2:=T9 (c.getD q 0+1) 0 0 rfl;have hcs:=Nz hq hcar;have sub:((q:Int)+1-1)=(q:Int):=by omega
     by_cases hz:c.getD q 0+1=0
     ·have hz2:(c.getD q 0+1 != 0)=false:=by rw[hz]; rfl
      rw[hz2] at x2;have hcar2:carry c q:=by unfold carry; rw[hcs,hz]; rfl
      simp only[sg,uP,ae,aa,seval,iteOmega,toNatUp,sub,aL,g1,x1,f7 h3 (fB _),gM,h5,g2,x2,hl1,hl0];refine a6 q (by omega) ⟨by omega,hcar2⟩ (aD (fun i=>i) ?_ ?_ rfl rfl) <;> simp only[wx,aC,aK,aa,seval,iteOmega,toNatUp]
     ·have hz2:(c.getD q 0+1 != 0)=true:=bne_iff_ne.2 hz;rw[hz2] at x2;have e0:fj c q=kv c:=Si (by rw[hcs]; exact beq_eq_false_iff_ne.2 hz);rw[e0] at hl0 g2 h5;simp only[sg,uP,ae,aa,seval,iteOmega,toNatUp,sub,aL,g1,x1,f7 h3 (fB _),gM,h5,g2,x2,hl1,e0];exact eV (id:=1) (n:=16) (s:=1) (by simp only[wx,aa,seval,iteOmega,toNatUp]) (by simp only[wx,aa,seval,iteOmega,toNatUp]) (by simp[hl0])
  ·rw[if_neg h];simp only[yF,af,ae,aa,seval,iteOmega,toNatUp];exact ec
def qR (key b:List UInt8):Int:=if key.length≠16 then 5 else if b.length≠16 then 3 else 0
def uQ (key b:List UInt8):List UInt8:=if key.length=16∧b.length=16 then tj key b else []
def tm:aA:=⟨2,18,.seq (.reg [oO 4 (.mv (.k (.c .nil))),oO 5 (.mv (kI 0))]) (.seq (.seq (.reg [oM 7 0,oO 8 (.len (.t 7)),oO 9 (.bin .neq (.t 8) (kI 16))]) (.cond (.t 9) (.seq (.reg [oO 4 (.mv (.k (.c .nil))),oO 5 (.mv (kI 5))]) (.ret)) (.skip))) (.seq (.seq (.reg [oM 10 1,oO 11 (.len (.t 10)),oO 12 (.bin .neq (.t 11) (kI 16))]) (.cond (.t 12) (.seq (.reg [oO 4 (.mv (.k (.c .nil))),oO 5 (.mv (kI 3))]) (.ret)) (.skip))) (.seq (.reg [oM 13 0,oO 14 (.call 148 [(.t 13)] none),oM 15 1,oO 16 (.call 150 [(.t 14),(.t 15)] none),oO 6 (.allocArr [(.int .u8 0),(.int .u8 0),(.int .u8 0),(.int .u8 0),(.int .u8 0),(.int .u8 0),(.int .u8 0),(.int .u8 0),(.int .u8 0),(.int .u8 0),(.int .u8 0),(.int .u8 0),(.int .u8 0),(.int .u8 0),(.int .u8 0),(.int .u8 0)]),oN (.store (.ag 16) (.t 6) (.t 16))]) (.seq (.reg [oO 17 (.sliceArr 1 16 (.t 6) none none),
 oM 4 17,oO 5 (.mv (kI 0))]) (.ret))))),[(4,none),(5,none)]⟩
theorem UB:aw Tryz.prog { own:=[],comp:=[],frz:=[],nils:=[] } Tryz.f168=some tm:=by kernel_rfl
theorem zw (G:ah) (key b:List UInt8) (hk:key.length≤9223372036854775807) (hb:b.length≤9223372036854775807):aj Tryz.prog G 168 [.sl (key.map bD),.sl (b.map bD)] (.tup [.c (.fr 1 ((uQ key b).map bD)),.c (.d (.int .i64 (qR key b)))]):=by
  refine aB Tryz.func168 UB rfl rfl ?_;unfold uQ qR;by_cases h:key.length=16
  ·by_cases h2:b.length=16
   ·have hr:=xJ h;have hl:(tj key b).length=16:=iX _ _;have ht:(tj key b).take 16=tj key b:=X7 (by omega);rw[if_pos ⟨h,h2⟩,if_neg (by simp[h]),if_neg (by simp[h2])];simp only[tm,af,ae,aa,seval,iteOmega,toNatUp,h,h2,io];refine sD (JG G key h) ?_;refine sC (JH G (aQ key) b hr h2) ?_;simp only[iX,cP,hl,ae,aa,seval,iteOmega,toNatUp];exact yp (by simp only[ae,aa,seval,iteOmega,toNatUp,jF,iX,hl,i5]; rfl) (by simp only[ae,aa,seval,iteOmega,toNatUp])
   ·rw[if_neg (fun k=>h2 k.2),if_neg (by simp[h]),if_pos h2];simp only[tm,af,ae,aa,seval,iteOmega,toNatUp,h];exact dw
  ·rw[if_neg (fun k=>h k.1),if_pos h];simp only[tm,af,ae,aa,seval,iteOmega,toNatUp];exact dw
def mT (key:List UInt8):Int:=if key.length≠16 then 5 else 0
def jy (r n:Nat):Nat:=(n-r%n)%n
def qS (b:List UInt8) (n:Int):List UInt8:=if 1≤n∧n≤64 then b++List.replicate (jy b.length n.toNat) 0 else b
theorem Sj (b:List UInt8) {n:Nat} (h:1≤n∧n≤64):qS b (n:Int)=b++List.replicate (jy b.length n) 0:=by
  unfold qS; rw[if_pos (by omega),ZS]
theorem Qt (b:List UInt8) {n:Int} (h:¬ (1≤n∧n≤64)):qS b n=b:=if_neg h
theorem Qu (r:Nat) {n:Nat} (h:1≤n):jy r n<n:=Zu _ (by omega)
theorem Sk (n:Nat):aP 0 n=List.replicate n 0:=by
  unfold aP;simp only[Nat.zero_div]
  induction n with
  | zero=>rfl
  | succ n ih=>rw[ZE,YD,ih,List.replicate_succ']; rfl
theorem JI (a b:Nat):Int.tmod (a:Int) (b:Int)=((a%b:Nat):Int):=rfl
def tn:aA:=⟨2,28,.seq (.reg [oO 4 (.mv (.k (.c .nil)))]) (.seq (.seq (.reg [oM 6 1,oO 7 (.bin .lss (.t 6) (kI 1)),oM 8 7,oG 9 (.mv (.t 1)) 8 false,oG 10 (.bin .gtr (.t 9) (kI 64)) 8 false,oO 11 (.pick (.t 8) (.k (.c (.d (.bool true)))) (.t 10))]) (.cond (.t 11) (.seq (.reg [oM 12 0,oO 13 (.bldSl false 1 1 (.sl []) [(0,(.t 12))]),oO 14 (.call 90 [(.t 13)] (some (0,1))),oM 4 14]) (.ret)) (.skip))) (.seq (.reg [oM 15 1,oM 16 0,oO 17 (.len (.t 16)),oM 18 1,oO 19 (.bin .rem (.t 17) (.t 18)),oO 20 (.bin .sub (.t 15) (.t 19)),oM 21 1,oO 22 (.bin .rem (.t 20) (.t 21)),oM 5 22]) (.seq (.reg [oM 23 0,oM 24 5,oO 25 (.call 91 [(.k (.c (.d (.int .u64 0)))),(.t 24)] none),oO 26 (.bldSl false 2 1 (.sl []) [(0,(.t 23)),(1,(.t 25))]),oO 27 (.call 90 [(.t 26)] (some (0,1))),oM 4 27]) (.ret)))),[(4,none)]⟩
theorem UD:aw Tryz.prog { own:=[14,27],comp:=[],frz:=[],nils:=[] } Tryz.f187=some tn:=by kernel_rfl
set_option maxHeartbeats 1600000 in
theorem W6 (G:ah) (b:List UInt8) (n:Int) (hb:b.length≤70368744177664):aj Tryz.prog G 187 [.sl (b.map bD),.int .i64 n] (.w (.c (.fr 1 ((qS b n).map bD)))):=by
  refine aB Tryz.func187 UD rfl rfl ?_;by_cases hc:1≤n∧n≤64
  ·obtain⟨m,rfl⟩:=YR (show 0≤n by omega);rw[Sj b (by omega)];have hr:b.length%m<m:=Zu _ (by omega);have hk:jy b.length m=(m-b.length%m)%m:=rfl;have hlt:=Qu b.length (n:=m) (by omega);have e1:=JI b.length m;have e2:Int.tmod ((m:Int)-((b.length%m:Nat):Int)) (m:Int)=((jy b.length m:Nat):Int):=by
     rw[show (m:Int)-((b.length%m:Nat):Int)=((m-b.length%m:Nat):Int) by omega,JI,hk]
   have hm:((m:Int)=0)=False:=eq_false (by omega);have hp:=lu G 0 (jy b.length m) (by omega);have hj:=dU G [b,aP 0 (jy b.length m)] (by simp) (by simp[bN]; omega);have hf:[b,aP 0 (jy b.length m)].flatten=b++List.replicate (jy b.length m) 0:=by rw[Sk]; simp
   rw[hf] at hj;generalize jy b.length m=k at *
   simp only[tn,af,ae,aa,seval,iteOmega,toNatUp,e1,e2,hm];refine sD (hp) ?_;refine sD (hj) ?_;exact ec
  ·rw[Qt b hc];have hj:=dU G [b] (by simp) (by simp; omega);have hf:[b].flatten=b:=by simp
   rw[hf] at hj;by_cases h1:n<1
   ·simp only[tn,af,ae,aa,seval,iteOmega,toNatUp];refine sD (hj) ?_;exact ec
   ·have h2:64<n:=by omega
    simp only[tn,af,ae,aa,seval,iteOmega,toNatUp];refine sD (hj) ?_;exact ec
def dG (b:List UInt8) (j:Nat):UInt8:=if j<15 then jN (ek (b.getD j 0) 1) (eu (b.getD (j+1) 0) 7) else ek (b.getD j 0) 1
def ip (b:List UInt8):List UInt8:=(List.range 16).map (dG b)
theorem xK (b:List UInt8):(ip b).length=16:=by simp[ip]
theorem xL (b:List UInt8) {j:Nat} (h:j<16):(ip b)[j]?=some (dG b j):=by simp[ip,h]
def qT (b:List UInt8):UInt8:=jG (jH (b.getD 0 0) 7) 135
theorem Qv {b:List UInt8} (h:b.length=16):(ip b).set 15 (am (dG b 15) (qT b))=fk b:=by
  unfold fk;rw[if_pos h];apply Y7;intro j;rw[ZV];by_cases hj:j<16
  ·rw[sR _ hj];have hd:∀ k,bd b k=b.getD k 0:=fun _=>rfl
   by_cases h15:15=j
   ·subst h15;rw[if_pos rfl,if_pos (by rw[xK]; decide)];simp only[dG,Ah,hd,qT,Nat.lt_irrefl,if_false,if_true,v7]
   ·rw[if_neg h15,xL _ hj];have:j<15:=by omega
    simp only[dG,Ah,hd,if_pos this,if_neg (show ¬ j=15 by omega),v7,UC]
  ·rw[if_neg (by omega),YP (by rw[xK]; omega),YP (by rw[fZ]; omega)]
theorem Qw (b:List UInt8):bF .mul (.w (.c (.d (bD (eu (b.getD 0 0) 7))))) (.w (.c (.d (.int .u8 135))))=some (bD (qT b)):=by
  have key:=lD (p:=fun x=>(eu x 7).toNat*135%256==(jG (jH x 7) 135).toNat) (by decide +kernel) (b.getD 0 0);rw[beq_iff_eq] at key
  show br .mul .u8 _ .u8 _=_
  rw[wK,IntKind.wrap_u8];unfold qT bD;rw[← key]
  congr 2
theorem Qx (x:UInt8):jN x 0=x:=by
  have key:=lD (p:=fun x=>jN x 0==x) (by decide +kernel) x;rw[beq_iff_eq] at key;exact key
theorem XY:bD 0=.int .u8 0:=rfl
def mX (b:List UInt8) (m:Nat):UInt8:=if m<16 then eu (b.getD m 0) 7 else 0
theorem Qy (b:List UInt8) {q:Nat} (h:q<16):jN (ek (b.getD q 0) 1) (mX b (q+1))=dG b q:=by
  unfold mX dG;by_cases h2:q<15
  ·rw[if_pos (by omega),if_pos h2]
  ·rw[if_neg (by omega),if_neg h2,Qx]
theorem UE (b:List UInt8) {q:Nat} (h:q<16):eu (b.getD q 0) 7=mX b q:=(if_pos h).symm
def iO (l:List UInt8) (m:Nat):List UInt8:=List.replicate m 0++l.drop m
theorem Sl {l:List UInt8} {m:Nat} (h:m≤l.length):(iO l m).length=l.length:=by
  unfold iO; rw[X5,Yt,Yg]; omega
theorem Qz (l:List UInt8):iO l 0=l:=by simp[iO]
theorem QA {l:List UInt8} {m:Nat} (h:l.length=m):iO l m=List.replicate m 0:=by
  unfold iO; rw[Y3 (by omega),Ym]
theorem QB {l:List UInt8} {q:Nat} (h:q<l.length):(iO l (q+1)).set q (l.getD q 0)=iO l q:=by
  unfold iO;rw[List.replicate_succ',Yy,ZQ _ _ (by simp),Yt,ZZ,List.drop_eq_getElem_cons h,X6,X3 h];rfl
def Ai (b:List UInt8) (m:Nat):St:=⟨aY [(0,.w (.c (.d (.sl (b.map bD))))),(3,.w (.c (.own 1 1 0 16))),(4,.w (.c (.d (bD (mX b m))))),(5,.w (.c (.d (.int .i64 ((m:Int)-1)))))],hL [(1,.row 1 ((iO (ip b) m).map bD))],uL [1]⟩
theorem Sm {b:List UInt8} (h:b.length≠16):fk b=[]:=if_neg h
def wU:aO := .seq (.seq (.reg [oM 10 5,oO 11 (.bin .geq (.t 10) (kI 0))]) (.cond (.t 11) (.skip) (.exit 0))) (.seq (.block 1 (.seq (.reg [oM 14 3,oM 15 5,oM 16 0,oM 17 5,oO 18 (.idxSl 1 (.t 16) (.t 17)),oO 19 (.load .sc (.t 18)),oO 20 (.bin .shl (.t 19) (.k (.c (.d (.int .u64 1))))),oM 21 4,oO 22 (.bin .or (.t 20) (.t 21)),oO 23 (.idxSl 1 (.t 14) (.t 15)),oN (.store .sc (.t 23) (.t 22))]) (.reg [oM 24 0,oM 25 5,oO 26 (.idxSl 1 (.t 24) (.t 25)),oO 27 (.load .sc (.t 26)),oO 28 (.bin .shr (.t 27) (.k (.c (.d (.int .u64 7))))),oM 4 28]))) (.reg [oM 12 5,oO 13 (.bin .sub (.t 12) (kI 1)),oM 5 13]))
def yG:aA:=⟨1,37,.seq (.reg [oO 2 (.mv (.k (.c .nil)))]) (.seq (.seq (.reg [oM 6 0,oO 7 (.len (.t 6)),oO 8 (.bin .neq (.t 7) (kI 16))]) (.cond (.t 8) (.seq (.reg [oO 2 (.mv (.k (.c .nil)))]) (.ret)) (.skip))) (.seq (.reg [oO 9 (.make true 1 1 (.int .u8 0) (kI 16) (kI 16)),oM 3 9]) (.seq (.reg [oO 4 (.mv (.k (.c (.d (.int .u8 0)))))]) (.seq (.seq (.reg [oO 5 (.mv (kI 15))]) (.block 0 (.loop wU))) (.seq (.reg [oM 29 3,oO 30 (.idxSl 1 (.t 29) (kI 15)),oO 31 (.load .sc (.t 30)),oM 32 4,oO 33 (.bin .mul (.t 32) (.k (.c (.d (.int .u8 135))))),oO 34 (.bin .xor (.t 31) (.t 33)),oO 35 (.idxSl 1 (.t 29) (kI 15)),oN (.store .sc (.t 35) (.t 34))]) (.seq (.reg [oM 36 3,oM 2 36]) (.ret))))))),[(2,none)]⟩
theorem UF:aw Tryz.prog { own:=[],comp:=[],frz:=[],nils:=[] } Tryz.f169=some yG:=by kernel_rfl
theorem tY (G:ah) (b:List UInt8) (hb:b.length≤9223372036854775807):aj Tryz.prog G 169 [.sl (b.map bD)] (.w (.c (.fr 1 ((fk b).map bD)))):=by
  refine aB Tryz.func169 UF rfl rfl ?_;by_cases h:b.length=16
  ·have hd:=Qv h;have hl:=xK b;simp only[yG,af,ae,aa,seval,iteOmega,toNatUp,h,io];refine bf (Ai b) (fun m=>m) (fun m=>m≤16) 16 (Ye _) ?_ ?_
   ·have e1:iO (ip b) 16=bA 16 0:=QA hl;have e2:mX b 16=0:=rfl;refine aD (fun i=>72) ?_ ?_ rfl rfl <;> simp only[wx,aC,aK,aa,seval,iteOmega,toNatUp,e1,e2,XY]
   ·intro m hm;rcases m with _ | q
    ·have e0:=Qz (ip b);have c0:mX b 0=eu (b.getD 0 0) 7:=rfl;have x1:=Qw b;have g1:=xL b (j:=15) (by decide);have x2:=gK (dG b 15) (qT b);have h3:15<(ip b).length:=by omega
     have hdl:(fk b).length=16:=mf h;simp only[wU,Ai,e0,c0,Zr,Int.zero_sub,ae,aa,seval,iteOmega,toNatUp,aL,g1,x1,x2,f7 h3 (fB _),gM,hd];exact eV (id:=1) (n:=16) (s:=1) (by simp only[wx,aa,seval,iteOmega,toNatUp]) (by simp only[wx,aa,seval,iteOmega,toNatUp]) (by simp[hdl])
    ·have hq:q<16:=by omega
     have g1:b[q]?=some (b.getD q 0):=eJ (by omega);have hl1:=Sl (l:=ip b) (m:=q+1) (by omega);have h3:q<(iO (ip b) (q+1)).length:=by omega
     have x1:=Ju (b.getD q 0) .u64 1 1 rfl (by decide);have x2:=wM (ek (b.getD q 0) 1) (mX b (q+1));have x3:=Jt (b.getD q 0) .u64 7 7 rfl (by decide);have c1:=Qy b hq;have c2:=UE b hq;have hs:=QB (l:=ip b) (q:=q) (by omega);have hg:(ip b).getD q 0=dG b q:=by rw[X6,xL b hq]; rfl
     rw[hg] at hs;have sub:((q:Int)+1-1)=(q:Int):=by omega
     simp only[wU,Ai,ae,aa,seval,iteOmega,toNatUp,sub,aL,g1,x1,x2,x3,c1,c2,h,f7 h3 (fB _),gM,hs];refine a6 q (by omega) (by omega) (aD (fun i=>i) ?_ ?_ rfl rfl) <;> simp only[wx,aC,aK,aa,seval,iteOmega,toNatUp]
  ·rw[Sm h];simp only[yG,af,ae,aa,seval,iteOmega,toNatUp];exact ec
def kQ (a b:List UInt8) (j:Nat):UInt8:=am (a.getD j 0) (b.getD j 0)
theorem Sn {a b:List UInt8} {n:Nat} (ha:a.length=n) (hb:b.length=n):(List.range n).map (kQ a b)=cN a b:=by
  apply Y7;intro j;by_cases hj:j<n
  ·have:=Fe a b j (by omega) (by omega);have hl:j<(cN a b).length:=by rw[ix]; omega
   rw[eJ hl,this];simp[hj,kQ]
  ·rw[YP (by simpa using hj),YP (by rw[ix]; omega)]
def zx (a b:List UInt8) (i:Nat):St:=⟨aY [(0,.w (.c (.d (.sl (a.map bD))))),(1,.w (.c (.d (.sl (b.map bD))))),(5,.w (.c (.own 1 1 0 16))),(9,.w (.c (.d (.int .i64 16)))),(10,.w (.c (.d (.int .i64 (i:Int)))))],hL [(1,.row 1 ((bJ (kQ a b) (bA 16 0) i).map bD))],uL [1]⟩
def wW:aO := .seq (.reg [oO 11 (.bin .lss (.t 10) (.t 9))]) (.seq (.cond (.t 11) (.skip) (.exit 0)) (.seq (.block 1 (.seq (.reg [oM 12 10,oM 6 12]) (.reg [oM 13 5,oM 14 6,oM 15 0,oM 16 6,oO 17 (.idxSl 1 (.t 15) (.t 16)),oO 18 (.load .sc (.t 17)),oM 19 1,oM 20 6,oO 21 (.idxSl 1 (.t 19) (.t 20)),oO 22 (.load .sc (.t 21)),oO 23 (.bin .xor (.t 18) (.t 22)),oO 24 (.idxSl 1 (.t 13) (.t 14)),oN (.store .sc (.t 24) (.t 23))]))) (.reg [oO 25 (.bin .add (.t 10) (kI 1)),oM 10 25])))
def JJ:aA:=⟨2,27,.seq (.reg [oO 4 (.mv (.k (.c .nil)))]) (.seq (.reg [oO 7 (.make true 1 1 (.int .u8 0) (kI 16) (kI 16)),oM 5 7]) (.seq (.seq (.reg [oM 8 5,oO 9 (.len (.t 8)),oO 10 (.mv (kI 0))]) (.block 0 (.loop wW))) (.seq (.reg [oM 26 5,oM 4 26]) (.ret)))),[(4,none)]⟩
theorem UG:aw Tryz.prog { own:=[],comp:=[],frz:=[],nils:=[] } Tryz.f171=some JJ:=by kernel_rfl
theorem mJ (G:ah) (a b:List UInt8) (ha:a.length=16) (hb:b.length=16):aj Tryz.prog G 171 [.sl (a.map bD),.sl (b.map bD)] (.w (.c (.fr 1 ((cN a b).map bD)))):=by
  refine aB Tryz.func171 UG rfl rfl ?_;have zl:(bA 16 (0:UInt8)).length=16:=cP _ _;simp only[JJ,af,ae,aa,seval,iteOmega,toNatUp,io];refine bf (zx a b) (fun i=>16-i) (fun i=>i≤16) 0 (Yd _) ?_ ?_
  ·have e1:=pO (kQ a b) (bA 16 0);refine aD (fun i=>56) ?_ ?_ rfl rfl <;> simp only[wx,aC,aK,aa,seval,iteOmega,toNatUp,e1]
  ·intro i hi;by_cases hlt:i<16
   ·have g1:a[i]?=some (a.getD i 0):=eJ (by omega);have g2:b[i]?=some (b.getD i 0):=eJ (by omega);have hl1:=nO (kQ a b) (bA 16 0) (i:=i) (by omega);have h3:i<(bJ (kQ a b) (bA 16 0) i).length:=by omega
    have x1:=gK (a.getD i 0) (b.getD i 0);have hx:am (a.getD i 0) (b.getD i 0)=kQ a b i:=rfl;have hs:=pP (kQ a b) (bA 16 0) (i:=i) (by omega);simp only[wW,zx,ae,aa,seval,iteOmega,toNatUp,aL,g1,g2,x1,ha,hb,f7 h3 (fB _),gM,hx,hs];refine a6 (i+1) (by omega) (by omega) (aD (fun i=>i) ?_ ?_ rfl rfl) <;> simp only[wx,aC,aK,aa,seval,iteOmega,toNatUp]
   ·obtain rfl:i=16:=by omega
    have e1:bJ (kQ a b) (bA 16 0) 16=cN a b:=by rw[E8 _ _ (by rw[cP]; decide),Sn ha hb]
    have hl:(cN a b).length=16:=by rw[ix]; exact ha
    simp only[wW,zx,e1,ae,aa,seval,iteOmega,toNatUp];exact eV (id:=1) (n:=16) (s:=1) (by simp only[wx,aa,seval,iteOmega,toNatUp]) (by simp only[wx,aa,seval,iteOmega,toNatUp]) (by simp[hl])
theorem Hq {key b:List UInt8} (h:key.length=16) (hb:b.length=16):uQ key b=ez (aQ key) b:=if_pos ⟨h,hb⟩
theorem Hr {key b:List UInt8} (h:key.length=16) (hb:b.length=16):qR key b=0:=by unfold qR; rw[if_neg (by omega),if_neg (by omega)]
theorem Sp (b:List UInt8):qS b 16=iJ b:=rfl
def gq (key:List UInt8):D:=.agg [.sl (key.map bD),.sl ((iK (aQ key)).map bD),.sl ((kG (aQ key)).map bD)]
def q8 (key:List UInt8):D:=if key.length=16 then gq key else .agg [.sl [],.sl [],.sl []]
theorem qC (s:Nat) (l:List UInt8) (k:IntKind) (n:Int):V.flat (.tup [.c (.fr s (l.map bD)),.c (.d (.int k n))])=true:=by
  have:=oS s l;simp only[V.flat,W.flat,List.all_cons,List.all_nil,Bool.and_true] at this ⊢;rw[this]; rfl
def Hs:aA:=⟨2,15,.seq (.reg [oO 2 (.box .roBox (.t 0)),oO 4 (.mv (.k (.c .nil)))]) (.seq (.reg [oO 8 (.fieldAddr 0 (.t 2)),oO 9 (.load .sc (.t 8)),oM 10 1,oO 11 (.call 168 [(.t 9),(.t 10)] (some (0,1))),oM 7 11,oO 12 (.extract (.t 7) 0),oO 13 (.extract (.t 7) 1),oM 5 12,oM 6 13]) (.seq (.reg [oM 14 5,oM 4 14]) (.ret))),[(4,none)]⟩
theorem Sq:aw Tryz.prog { own:=[],comp:=[(11,0)],frz:=[],nils:=[] } Tryz.f181=some Hs:=by kernel_rfl
theorem JK (G:ah) (key b:List UInt8) (h:key.length=16) (hb:b.length=16):aj Tryz.prog G 181 [.agg [.sl (key.map bD)],.sl (b.map bD)] (.w (.c (.fr 1 ((ez (aQ key) b).map bD)))):=by
  refine aB Tryz.func181 Sq rfl rfl ?_;have hx:=zw G key b (by omega) (by omega);rw[Hq h hb,Hr h hb] at hx;simp only[Hs,af,ae,aa,seval,iteOmega,toNatUp];refine sD (hx) ?_;exact ec
theorem UH (G:ah) (key b:List UInt8) (h:key.length=16) (hb:b.length=16):aj Tryz.prog G 181 [.agg [.sl (key.map bD)],.sl (b.map bD)] (.w (.c (.d (.sl ((ez (aQ key) b).map bD))))):=mn (JK G key b h hb)
def xM:aA:=⟨1,25,.seq (.reg [oO 2 (.alloc [.nil,.nil,.nil]),oO 3 (.mv (kI 0))]) (.seq (.reg [oM 8 0,oO 9 (.make true 1 1 (.int .u8 0) (kI 16) (kI 16)),oO 10 (.call 168 [(.t 8),(.t 9)] none),oM 7 10,oO 11 (.extract (.t 7) 0),oO 12 (.extract (.t 7) 1),oM 4 11,oM 5 12]) (.seq (.seq (.reg [oM 13 5,oO 14 (.bin .neq (.t 13) (kI 0))]) (.cond (.t 14) (.seq (.reg [oO 15 (.build [.nil,.nil,.nil] []),oM 16 5,oN (.store (.ag 3) (.t 2) (.t 15)),oM 3 16]) (.ret)) (.skip))) (.seq (.reg [oM 17 4,oO 18 (.call 169 [(.t 17)] none),oM 6 18]) (.seq (.reg [oM 19 0,oO 20 (.build [.nil] [(0,1,(.t 19))]),oM 21 6,oM 22 6,oO 23 (.call 169 [(.t 22)] none),oO 24 (.build [.nil,.nil,.nil] [(0,1,(.t 20)),(1,1,(.t 21)),(2,1,(.t 23))]),oN (.store (.ag 3) (.t 2) (.t 24)),oO 3 (.mv (kI 0))]) (.ret))))),[(2,(some (.ag 3))),(3,none)]⟩
theorem Sr:aw Tryz.prog { own:=[],comp:=[],frz:=[],nils:=[] } Tryz.f153=some xM:=by kernel_rfl
theorem UI (G:ah) (key:List UInt8) (hk:key.length≤9223372036854775807):aj Tryz.prog G 153 [.sl (key.map bD)] (.tup [.c (.d (q8 key)),.c (.d (.int .i64 (mT key)))]):=by
  refine aB Tryz.func153 Sr rfl rfl ?_;have t0:(bA 16 (0:UInt8)).take 16=f8:=rfl;by_cases h:key.length=16
  ·have hx:=zw G key f8 (by omega) (by decide);rw[Hq h (by decide),Hr h (by decide)] at hx;have hv:q8 key=gq key:=if_pos h;have he:mT key=0:=by unfold mT; rw[if_neg (by omega)]
   have h1:=tY G (ez (aQ key) f8) (by rw[iX]; decide);have h2:=tY G (iK (aQ key)) (by rw[wT]; decide);have s1:fk (ez (aQ key) f8)=iK (aQ key):=rfl;have s2:fk (iK (aQ key))=kG (aQ key):=rfl;rw[s1] at h1;rw[s2] at h2;rw[hv,he];simp only[xM,af,ae,aa,seval,iteOmega,toNatUp,io];refine a8 hx (by simp only[ae,aa,seval,iteOmega,toNatUp,fK,t0,cP]) (.inr (qC _ _ _ _)) ?_;simp only[ae,aa,seval,iteOmega,toNatUp];refine sD (h1) ?_;refine sD (h2) ?_;exact ja (by simp only[ae,aa,seval,iteOmega,toNatUp,gq]) (by simp only[ae,aa,seval,iteOmega,toNatUp])
  ·have hv:q8 key=.agg [.sl [],.sl [],.sl []]:=if_neg h;have he:mT key=5:=if_pos h;have hx:=zw G key f8 (by omega) (by decide);have v1:uQ key f8=[]:=if_neg (fun k=>h k.1);have v2:qR key f8=5:=if_pos h;rw[v1,v2] at hx;rw[hv,he];simp only[xM,af,ae,aa,seval,iteOmega,toNatUp,io];refine a8 hx (by simp only[ae,aa,seval,iteOmega,toNatUp,fK,t0,cP]) (.inr (qC _ _ _ _)) ?_;simp only[ae,aa,seval,iteOmega,toNatUp];exact aW
def Ht:aA:=⟨1,8,.seq (.reg [oO 2 (.mv (.k (.c .nil)))]) (.seq (.reg [oM 3 0,oO 4 (.bldSl false 1 1 (.int .u8 0) [(0,(.k (.c (.d (.int .u8 128)))))]),oO 5 (.bldSl false 2 1 (.sl []) [(0,(.t 3)),(1,(.t 4))]),oO 6 (.call 90 [(.t 5)] none),oO 7 (.call 187 [(.t 6),(kI 16)] none),oM 2 7]) (.ret)),[(2,none)]⟩
theorem Ss:aw Tryz.prog { own:=[],comp:=[],frz:=[],nils:=[] } Tryz.f183=some Ht:=by kernel_rfl
theorem JL (G:ah) (b:List UInt8) (hb:b.length≤70000):aj Tryz.prog G 183 [.sl (b.map bD)] (.w (.c (.d (.sl ((iJ (b++[128])).map bD))))):=by
  refine aB Tryz.func183 Ss rfl rfl ?_;have hj:=dU G [b,[128]] (by simp) (by simp; omega);have hf:[b,[128]].flatten=b++[128]:=by simp
  rw[hf] at hj;have hp:=W6 G (b++[128]) 16 (by simp; omega);rw[Sp] at hp;simp only[Ht,af,ae,aa,seval,iteOmega,toNatUp];refine sD (hj) ?_;refine sD (hp) ?_;exact aF
theorem ON (rk:List UInt8) {e:List UInt8} (h:e.length=16):kH rk e=cN e (iK rk):=if_pos h
theorem OO (rk:List UInt8) {e:List UInt8} (h:e.length≠16):kH rk e=cN (iJ (e++[128])) (kG rk):=if_neg h
def wX:aA:=⟨2,17,.seq (.reg [oO 2 (.box .roBox (.t 0)),oO 4 (.mv (.k (.c .nil)))]) (.seq (.seq (.reg [oM 5 1,oO 6 (.len (.t 5)),oO 7 (.bin .eql (.t 6) (kI 16))]) (.cond (.t 7) (.seq (.reg [oM 8 1,oO 9 (.fieldAddr 1 (.t 2)),oO 10 (.load .sc (.t 9)),oO 11 (.call 171 [(.t 8),(.t 10)] none),oM 4 11]) (.ret)) (.skip))) (.seq (.reg [oM 12 1,oO 13 (.call 183 [(.t 12)] none),oO 14 (.fieldAddr 2 (.t 2)),oO 15 (.load .sc (.t 14)),oO 16 (.call 171 [(.t 13),(.t 15)] none),oM 4 16]) (.ret))),[(4,none)]⟩
theorem QC:aw Tryz.prog { own:=[],comp:=[],frz:=[],nils:=[] } Tryz.f182=some wX:=by kernel_rfl
theorem Su (G:ah) (key b:List UInt8) (hb:b.length≤16):aj Tryz.prog G 182 [gq key,.sl (b.map bD)] (.w (.c (.d (.sl ((kH (aQ key) b).map bD))))):=by
  refine aB Tryz.func182 QC rfl rfl ?_;by_cases h:b.length=16
  ·rw[ON _ h];simp only[wX,af,gq,ae,aa,seval,iteOmega,toNatUp,h];refine sD (mJ G b (iK (aQ key)) h (wT _)) ?_;exact aF
  ·rw[OO _ h];simp only[wX,af,gq,ae,aa,seval,iteOmega,toNatUp];refine sD (JL G b (by omega)) ?_;refine sD (mJ G (iJ (b++[128])) (kG (aQ key)) (vL (by omega)) (Qq _)) ?_;exact aF
def lR (key b:List UInt8):Nat→V
  | 0=>.w (.c (.own 1 1 0 16))
  | i+1=>.w (.c (.d (.sl ((gU (aQ key) b (i+1)).map bD))))
def qD (key b:List UInt8) (i:Nat):St:=⟨aY [(1,.w (.c (.d (.sl ((b.drop (16*i)).map bD))))),(2,.w (.c (.rp [.sl (key.map bD),.sl ((iK (aQ key)).map bD),.sl ((kG (aQ key)).map bD)]))),(5,lR key b i)],hL [(1,.row 1 ((bA 16 (0:UInt8)).map bD))],uL [1]⟩
theorem UJ (b:List UInt8) (i:Nat):((b.drop (16*i)).drop 16).take ((b.drop (16*i)).length-16)=b.drop (16*(i+1)):=by
  rw[List.drop_drop,X7 (by simp only[Yg]; omega)]; rfl
def pG:aO := .seq (.seq (.reg [oM 7 1,oO 8 (.len (.t 7)),oO 9 (.bin .gtr (.t 8) (kI 16))]) (.cond (.t 9) (.skip) (.exit 0))) (.block 1 (.seq (.reg [oO 10 (.fieldAddr 0 (.t 2)),oO 11 (.load (.ag 1) (.t 10)),oM 12 5,oM 13 1,oO 14 (.slice 1 (.t 13) none (some (kI 16)) none),oO 15 (.call 171 [(.t 12),(.t 14)] none),oO 16 (.call 181 [(.t 11),(.t 15)] none),oM 5 16]) (.reg [oM 17 1,oO 18 (.slice 1 (.t 17) (some (kI 16)) none none),oM 1 18])))
def Hu:aA:=⟨2,27,.seq (.reg [oO 2 (.box .roBox (.t 0)),oO 4 (.mv (.k (.c .nil)))]) (.seq (.reg [oO 6 (.make true 1 1 (.int .u8 0) (kI 16) (kI 16)),oM 5 6]) (.seq (.block 0 (.loop pG)) (.seq (.reg [oO 19 (.fieldAddr 0 (.t 2)),oO 20 (.load (.ag 1) (.t 19)),oM 21 5,oO 22 (.load (.ag 3) (.t 2)),oM 23 1,oO 24 (.call 182 [(.t 22),(.t 23)] none),oO 25 (.call 171 [(.t 21),(.t 24)] none),oO 26 (.call 181 [(.t 20),(.t 25)] (some (0,1))),oM 4 26]) (.ret)))),[(4,none)]⟩
theorem Sv:aw Tryz.prog { own:=[26],comp:=[],frz:=[],nils:=[] } Tryz.f170=some Hu:=by kernel_rfl
theorem tp (G:ah) (key b:List UInt8) (h:key.length=16) (hb:b.length≤70000):aj Tryz.prog G 170 [gq key,.sl (b.map bD)] (.w (.c (.fr 1 ((ii (aQ key) b).map bD)))):=by
  refine aB Tryz.func170 Sv rfl rfl ?_;have t0:(bA 16 (0:UInt8)).take 16=f8:=rfl;have hah:mu b=(b.length+15) / 16-1:=rfl;have hm:∀ i,i=mu b→ii (aQ key) b=ez (aQ key) (cN (gU (aQ key) b i) (kH (aQ key) (b.drop (16*i)))):=fun i e=>by rw[e]; rfl
  simp only[Hu,af,gq,ae,aa,seval,iteOmega,toNatUp,io];refine bf (qD key b) (fun i=>mu b-i) (fun i=>i≤mu b) 0 (Yd _) ?_ ?_
  ·refine aD (fun i=>48) ?_ ?_ rfl rfl <;> simp only[wx,aC,aK,aa,seval,iteOmega,toNatUp,lR]
  ·intro i hi;have hcl:(b.drop (16*i)).length=b.length-16*i:=Yg;have hdr:=UJ b i;by_cases hlt:i<mu b
   ·have hT:((b.drop (16*i)).take 16).length=16:=by rw[Yb]; omega
    have hstep:ez (aQ key) (cN (gU (aQ key) b i) ((b.drop (16*i)).take 16))=gU (aQ key) b (i+1):=rfl;have h1:=mJ G (gU (aQ key) b i) ((b.drop (16*i)).take 16) (si _ _ _) hT;have h2:=UH G key (cN (gU (aQ key) b i) ((b.drop (16*i)).take 16)) h (by rw[ix,si]);rw[hstep] at h2;rcases i with _ | i
    ·have hz:gU (aQ key) b 0=f8:=rfl;rw[hz] at h1 h2;simp only[Nat.mul_zero,ZL,YT,Zx] at hdr;simp only[pG,qD,lR,ae,aa,seval,iteOmega,toNatUp];refine a8 h1 (by simp only[ae,aa,seval,iteOmega,toNatUp,fK,t0,cP]) (.inr (oS _ _)) ?_;simp only[ae,aa,seval,iteOmega,toNatUp];refine sC (h2) ?_;simp only[hdr,ae,aa,seval,iteOmega,toNatUp];refine a6 (0+1) (by omega) (by omega) (aD (fun i=>i) ?_ ?_ rfl rfl) <;> simp only[wx,aC,aK,aa,seval,iteOmega,toNatUp,lR]
    ·simp only[pG,qD,lR,ae,aa,seval,iteOmega,toNatUp];refine sD (h1) ?_;refine sC (h2) ?_;simp only[hdr,ae,aa,seval,iteOmega,toNatUp];refine a6 (i+1+1) (by omega) (by omega) (aD (fun i=>i) ?_ ?_ rfl rfl) <;> simp only[wx,aC,aK,aa,seval,iteOmega,toNatUp,lR]
   ·rw[hm i (by omega)];have hl16:(b.drop (16*i)).length≤16:=by omega
    have h1:=Su G key (b.drop (16*i)) hl16;have h2:=mJ G (gU (aQ key) b i) (kH (aQ key) (b.drop (16*i))) (si _ _ _) (Qr hl16);have h3:=JK G key (cN (gU (aQ key) b i) (kH (aQ key) (b.drop (16*i)))) h (by rw[ix,si]);rcases i with _ | i
    ·have hz:gU (aQ key) b 0=f8:=rfl;rw[hz] at h2 h3 ⊢;simp only[pG,qD,lR,ae,aa,seval,iteOmega,toNatUp];refine sD (h1) ?_;refine a8 h2 (by simp only[ae,aa,seval,iteOmega,toNatUp,fK,t0,cP]) (.inr (oS _ _)) ?_;simp only[ae,aa,seval,iteOmega,toNatUp];refine sD (h3) ?_;exact ec
    ·simp only[pG,qD,lR,ae,aa,seval,iteOmega,toNatUp];refine sD (h1) ?_;refine sD (h2) ?_;refine sD (h3) ?_;exact ec
theorem UK (G:ah) (key b:List UInt8) (h:key.length=16) (hb:b.length≤70000):aj Tryz.prog G 170 [gq key,.sl (b.map bD)] (.w (.c (.d (.sl ((ii (aQ key) b).map bD))))):=mn (tp G key b h hb)
def xN:aA:=⟨2,26,.seq (.reg [oO 4 (.mv (.k (.c .nil)))]) (.seq (.reg [oM 6 0,oO 7 (.len (.t 6)),oO 8 (.bin .sub (.t 7) (kI 16)),oM 5 8]) (.seq (.seq (.reg [oM 9 5,oO 10 (.bin .lss (.t 9) (kI 0))]) (.cond (.t 10) (.seq (.reg [oM 11 1,oO 12 (.call 169 [(.t 11)] none),oM 13 0,oO 14 (.call 183 [(.t 13)] none),oO 15 (.call 171 [(.t 12),(.t 14)] none),oM 4 15]) (.ret)) (.skip))) (.seq (.reg [oM 16 0,oM 17 5,oO 18 (.slice 1 (.t 16) none (some (.t 17)) none),oM 19 0,oM 20 5,oO 21 (.slice 1 (.t 19) (some (.t 20)) none none),oM 22 1,oO 23 (.call 171 [(.t 21),(.t 22)] none),oO 24 (.bldSl false 2 1 (.sl []) [(0,(.t 18)),(1,(.t 23))]),oO 25 (.call 90 [(.t 24)] none),oM 4 25]) (.ret)))),[(4,none)]⟩
theorem Sw:aw Tryz.prog { own:=[],comp:=[],frz:=[],nils:=[] } Tryz.f172=some xN:=by kernel_rfl
theorem UL (G:ah) (s d:List UInt8) (hs:s.length≤70000) (hd:d.length=16):aj Tryz.prog G 172 [.sl (s.map bD),.sl (d.map bD)] (.w (.c (.d (.sl ((if 16≤s.length then s.take (s.length-16)++cN (s.drop (s.length-16)) d else cN (fk d) (iJ (s++[128]))).map bD))))):=by
  refine aB Tryz.func172 Sw rfl rfl ?_;by_cases h:16≤s.length
  ·rw[if_pos h];have hl:(s.drop (s.length-16)).length=16:=by rw[Yg]; omega
   have ht:(s.drop (s.length-16)).take (s.length-(s.length-16))=s.drop (s.length-16):=X7 (by omega);have hj:=dU G [s.take (s.length-16),cN (s.drop (s.length-16)) d] (by simp) (by simp[ix]; omega);have hf:[s.take (s.length-16),cN (s.drop (s.length-16)) d].flatten=s.take (s.length-16)++cN (s.drop (s.length-16)) d:=by simp
   rw[hf] at hj;have e1:(((s.length:Int)-16).toNat)=s.length-16:=by omega
   simp only[xN,af,ae,aa,seval,iteOmega,toNatUp,e1,ht];refine sD (mJ G (s.drop (s.length-16)) d hl hd) ?_;refine sD (hj) ?_;exact aF
  ·rw[if_neg h];simp only[xN,af,ae,aa,seval,iteOmega,toNatUp];refine sD (tY G d (by omega)) ?_;refine sD (JL G s (by omega)) ?_;refine sD (mJ G (fk d) (iJ (s++[128])) (mf hd) (vL (by omega))) ?_;exact aF
def zy (key:List UInt8) (l:List (List UInt8)) (i:Nat):St:=⟨aY [(1,.w (.c (.d (.sl (l.map fun l=>D.sl (l.map bD)))))),(2,.w (.c (.rp [.sl (key.map bD),.sl ((iK (aQ key)).map bD),.sl ((kG (aQ key)).map bD)]))),(5,.w (.c (.d (.sl ((ij (aQ key) l i).map bD))))),(6,.w (.c (.d (.int .i64 ((l.length:Int)-1))))),(23,.w (.c (.d (.sl ((l.take (l.length-1)).map fun l=>D.sl (l.map bD)))))),(24,.w (.c (.d (.int .i64 ((l.length:Int)-1))))),(25,.w (.c (.d (.int .i64 (i:Int)))))],hL [(1,.row 1 ((bA 16 (0:UInt8)).map bD))],uL [1]⟩
theorem OP (rk:List UInt8) {l:List (List UInt8)} (h:l.length=0):je rk l=ii rk (aP 1 16):=by
  unfold je; rw[if_pos h]; congr 1
theorem OQ (rk:List UInt8) {l:List (List UInt8)} (h:l.length≠0):je rk l=ii rk (if 16≤(l.getD (l.length-1) []).length then (l.getD (l.length-1) []).take ((l.getD (l.length-1) []).length-16)++cN ((l.getD (l.length-1) []).drop ((l.getD (l.length-1) []).length-16)) (ij rk l (l.length-1)) else cN (fk (ij rk l (l.length-1))) (iJ (l.getD (l.length-1) []++[128]))):=by
  unfold je; rw[if_neg h]; dsimp only; split <;> rfl
theorem xO {l:List (List UInt8)} {j:Nat} (h:j<l.length):l[j]?=some (l.getD j []):=by
  rw[X6,X3 h]; rfl
theorem sq {l:List (List UInt8)} {j:Nat} (h:j<l.length):l.getD j []∈l:=by
  rw[X6,X3 h]; exact Yz h
def wd:aO := .seq (.reg [oO 26 (.bin .lss (.t 25) (.t 24))]) (.seq (.cond (.t 26) (.skip) (.exit 0)) (.seq (.block 1 (.seq (.reg [oO 27 (.idxSl 1 (.t 23) (.t 25)),oO 28 (.load .sc (.t 27)),oM 8 28]) (.reg [oM 29 5,oO 30 (.call 169 [(.t 29)] none),oO 31 (.load (.ag 3) (.t 2)),oM 32 8,oO 33 (.call 170 [(.t 31),(.t 32)] none),oO 34 (.call 171 [(.t 30),(.t 33)] none),oM 5 34]))) (.reg [oO 35 (.bin .add (.t 25) (kI 1)),oM 25 35])))
def xP:aA:=⟨2,44,.seq (.reg [oO 2 (.box .roBox (.t 0)),oO 4 (.mv (.k (.c .nil)))]) (.seq (.seq (.reg [oM 9 1,oO 10 (.len (.t 9)),oO 11 (.bin .eql (.t 10) (kI 0))]) (.cond (.t 11) (.seq (.reg [oO 12 (.load (.ag 3) (.t 2)),oO 13 (.call 91 [(.k (.c (.d (.int .u64 1)))),(kI 16)] none),oO 14 (.call 170 [(.t 12),(.t 13)] (some (0,1))),oM 4 14]) (.ret)) (.skip))) (.seq (.reg [oO 15 (.load (.ag 3) (.t 2)),oO 16 (.make true 1 1 (.int .u8 0) (kI 16) (kI 16)),oO 17 (.call 170 [(.t 15),(.t 16)] none),oM 5 17]) (.seq (.reg [oM 18 1,oO 19 (.len (.t 18)),oO 20 (.bin .sub (.t 19) (kI 1)),oM 6 20]) (.seq (.seq (.reg [oM 21 1,oM 22 6,oO 23 (.slice 1 (.t 21) none (some (.t 22)) none),oO 24 (.len (.t 23)),oO 25 (.mv (kI 0))]) (.block 0 (.loop wd))) (.seq (.reg [oO 36 (.load (.ag 3) (.t 2)),oM 37 1,
 oM 38 6,oO 39 (.idxSl 1 (.t 37) (.t 38)),oO 40 (.load .sc (.t 39)),oM 41 5,oO 42 (.call 172 [(.t 40),(.t 41)] none),oO 43 (.call 170 [(.t 36),(.t 42)] (some (0,1))),oM 4 43]) (.ret)))))),[(4,none)]⟩
theorem Sx:aw Tryz.prog { own:=[14,43],comp:=[],frz:=[],nils:=[] } Tryz.f154=some xP:=by kernel_rfl
theorem UM (G:ah) (key:List UInt8) (l:List (List UInt8)) (h:key.length=16) (hl:l.length≤17) (hb:∀ x∈l,x.length≤65535):aj Tryz.prog G 154 [gq key,.sl (l.map fun l=>D.sl (l.map bD))] (.w (.c (.fr 1 ((je (aQ key) l).map bD)))):=by
  refine aB Tryz.func154 Sx rfl rfl ?_;have t0:(bA 16 (0:UInt8)).take 16=f8:=rfl;by_cases h0:l.length=0
  ·rw[OP _ h0];simp only[xP,af,gq,ae,aa,seval,iteOmega,toNatUp,h0];refine sD (lu G 1 16 (by decide)) ?_;refine sD (tp G key (aP 1 16) h (by rw[bN]; decide)) ?_;exact ec
  ·rw[OQ _ h0];have e1:(((l.length:Int)-1).toNat)=l.length-1:=by omega
   have e2:(l.take (l.length-1)).length=l.length-1:=by rw[Yb]; omega
   have e3:((l.length-1:Nat):Int)=(l.length:Int)-1:=by omega
   simp only[xP,af,gq,ae,aa,seval,iteOmega,toNatUp,io];refine a8 (tp G key f8 h (by decide)) (by simp only[ae,aa,seval,iteOmega,toNatUp,fK,t0,cP,gq]) (.inr (oS _ _)) ?_;simp only[ae,aa,seval,iteOmega,toNatUp,e1,e2,e3,EW];refine bf (zy key l) (fun i=>l.length-1-i) (fun i=>i≤l.length-1) 0 (Yd _) ?_ ?_
   ·refine aD (fun i=>128) ?_ ?_ rfl rfl <;> simp only[wx,aC,aK,aa,seval,iteOmega,toNatUp,ij,e2,e3]
   ·intro i hi;have hd:=Ff (aQ key) l i;by_cases hlt:i<l.length-1
    ·have g1:(l.take (l.length-1))[i]?=some (l.getD i []):=by rw[Yv,if_pos hlt,xO (by omega)]
     have hx:=hb _ (sq (l:=l) (j:=i) (by omega));have hs:cN (fk (ij (aQ key) l i)) (ii (aQ key) (l.getD i []))=ij (aQ key) l (i+1):=rfl;have h1:=tY G (ij (aQ key) l i) (by omega);have h2:=UK G key (l.getD i []) h (by omega);have h3:=mJ G (fk (ij (aQ key) l i)) (ii (aQ key) (l.getD i [])) (mf hd) (sn _ _);rw[hs] at h3;simp only[wd,zy,ae,aa,seval,iteOmega,toNatUp,aL,g1,e2,e3];refine sD (h1) ?_;refine sD (h2) ?_;refine sD (h3) ?_;refine a6 (i+1) (by omega) (by omega) (aD (fun i=>i) ?_ ?_ rfl rfl) <;> simp only[wx,aC,aK,aa,seval,iteOmega,toNatUp]
    ·obtain rfl:i=l.length-1:=by omega
     have g1:l[l.length-1]?=some (l.getD (l.length-1) []):=xO (by omega);have hx:=hb _ (sq (l:=l) (j:=l.length-1) (by omega));have h1:=UL G (l.getD (l.length-1) []) (ij (aQ key) l (l.length-1)) (by omega) hd;have hcl:∀ s d:List UInt8,s.length≤65535→d.length=16→(if 16≤s.length then s.take (s.length-16)++cN (s.drop (s.length-16)) d else cN (fk d) (iJ (s++[128]))).length≤70000:=by
       intro s d h1 h2;split
       ·rw[X5,ix,← X5,YI]; omega
       ·rw[ix,mf h2]; decide
     have h2:=tp G key _ h (hcl _ _ hx hd);simp only[wd,zy,ae,aa,seval,iteOmega,toNatUp,aL,g1,e1,e3];refine sD (h1) ?_;refine sD (h2) ?_;exact ec
def jz (l:List (List UInt8)):Bool:=l.any fun x=>decide (65535<x.length)
def uR (key:List UInt8) (l:List (List UInt8)):Int:=if key.length≠16 then 5 else if 17<l.length then 8 else if jz l=true then 2 else 0
def Aj (key:List UInt8) (l:List (List UInt8)):List UInt8:=if key.length=16∧l.length≤17∧jz l=false then je (aQ key) l else []
theorem QD {l:List (List UInt8)} (h:∀ j,j<l.length→(l.getD j []).length≤65535):jz l=false:=by
  unfold jz;rw[Y1];intro x hx;obtain⟨j,hj,rfl⟩:=YE hx;have:=h j hj;rw[X6,X3 hj] at this
  simpa using this
theorem OR {l:List (List UInt8)} {j:Nat} (hj:j<l.length) (h:65535<(l.getD j []).length):jz l=true:=by
  unfold jz;rw[Zc];exact⟨_,sq hj,decide_eq_true h⟩
theorem OS {l:List (List UInt8)} (h:jz l=false):∀ x∈l,x.length≤65535:=by
  unfold jz at h;rw[Y1] at h;intro x hx;have:=h x hx
  simpa using this
def tZ (key:List UInt8) (l:List (List UInt8)) (i:Nat):St:=⟨aY [(1,.w (.c (.d (.sl (l.map fun l=>D.sl (l.map bD)))))),(6,.w (.c (.ptr 1 1 0 0))),(21,.w (.c (.d (.sl (l.map fun l=>D.sl (l.map bD)))))),(22,.w (.c (.d (.int .i64 (l.length:Int))))),(23,.w (.c (.d (.int .i64 (i:Int)))))],hL [(1,.box [.d (.sl (key.map bD)),.d (.sl ((iK (aQ key)).map bD)),.d (.sl ((kG (aQ key)).map bD))])],uL [1]⟩
def rK:aO := .seq (.reg [oO 24 (.bin .lss (.t 23) (.t 22))]) (.seq (.cond (.t 24) (.skip) (.exit 0)) (.seq (.block 1 (.seq (.reg [oO 25 (.idxSl 1 (.t 21) (.t 23)),oO 26 (.load .sc (.t 25)),oM 9 26]) (.seq (.reg [oM 27 9,oO 28 (.len (.t 27)),oO 29 (.bin .gtr (.t 28) (kI 65535))]) (.cond (.t 29) (.seq (.reg [oO 4 (.mv (.k (.c .nil))),oO 5 (.mv (kI 2))]) (.ret)) (.skip))))) (.reg [oO 30 (.bin .add (.t 23) (kI 1)),oM 23 30])))
def sT:aA:=⟨2,34,.seq (.reg [oO 4 (.mv (.k (.c .nil))),oO 5 (.mv (kI 0))]) (.seq (.reg [oM 11 0,oO 12 (.call 153 [(.t 11)] none),oM 10 12,oO 13 (.extract (.t 10) 0),oO 14 (.extract (.t 10) 1),oO 6 (.alloc [.nil,.nil,.nil]),oN (.store (.ag 3) (.t 6) (.t 13)),oM 7 14]) (.seq (.seq (.reg [oM 15 7,oO 16 (.bin .neq (.t 15) (kI 0))]) (.cond (.t 16) (.seq (.reg [oM 17 7,oO 4 (.mv (.k (.c .nil))),oM 5 17]) (.ret)) (.skip))) (.seq (.seq (.reg [oM 18 1,oO 19 (.len (.t 18)),oO 20 (.bin .gtr (.t 19) (kI 17))]) (.cond (.t 20) (.seq (.reg [oO 4 (.mv (.k (.c .nil))),oO 5 (.mv (kI 8))]) (.ret)) (.skip))) (.seq (.seq (.reg [oM 21 1,oO 22 (.len (.t 21)),oO 23 (.mv (kI 0))]) (.block 0 (.loop rK))) (.seq (.reg [oO 31 (.load (.ag 3) (.t 6)),oM 32 1,oO 33 (.call 154 [(.t 31),(.t 32)] (some (0,1))),
 oM 4 33,oO 5 (.mv (kI 0))]) (.ret)))))),[(4,none),(5,none)]⟩
theorem Sy:aw Tryz.prog { own:=[33],comp:=[],frz:=[],nils:=[] } Tryz.f139=some sT:=by kernel_rfl
theorem UN (G:ah) (key:List UInt8) (l:List (List UInt8)) (hk:key.length≤9223372036854775807) (hl:l.length≤9223372036854775807) (hb:∀ x∈l,x.length≤9223372036854775807):aj Tryz.prog G 139 [.sl (key.map bD),.sl (l.map fun l=>D.sl (l.map bD))] (.tup [.c (.fr 1 ((Aj key l).map bD)),.c (.d (.int .i64 (uR key l)))]):=by
  refine aB Tryz.func139 Sy rfl rfl ?_;have hx:=UI G key hk;unfold Aj uR;by_cases h:key.length=16
  ·have hv:q8 key=gq key:=if_pos h;have he:mT key=0:=by unfold mT; rw[if_neg (by omega)]
   rw[hv,he] at hx;by_cases h2:l.length≤17
   ·rw[if_neg (by omega:¬ key.length≠16),if_neg (by omega:¬ 17<l.length)];simp only[sT,af,ae,aa,seval,iteOmega,toNatUp];refine sC (hx) ?_;simp only[gq,ae,aa,seval,iteOmega,toNatUp];refine bf (tZ key l) (fun i=>l.length-i) (fun i=>i≤l.length∧∀ j,j<i→(l.getD j []).length≤65535) 0 ⟨Yd _,fun j hj=>by omega⟩ ?_ ?_
    ·refine aD (fun i=>48) ?_ ?_ rfl rfl <;> simp only[wx,aC,aK,aa,seval,iteOmega,toNatUp]
    ·rintro i ⟨hi,hok⟩;by_cases hlt:i<l.length
     ·have g1:=xO hlt;have hx:=hb _ (sq hlt);by_cases hlong:65535<(l.getD i []).length
      ·have hL:=OR hlt hlong;rw[hL,if_neg (by simp),if_pos rfl];simp only[rK,tZ,ae,aa,seval,iteOmega,toNatUp,aL,g1];exact dw
      ·simp only[rK,tZ,ae,aa,seval,iteOmega,toNatUp,aL,g1];refine a6 (i+1) (by omega) ⟨by omega,fun j hj=>?_⟩ (aD (fun i=>i) ?_ ?_ rfl rfl)
       ·rcases YG j i with h | h
        ·exact hok j h
        ·obtain rfl:j=i:=by omega
         omega
       all_goals simp only[wx,aC,aK,aa,seval,iteOmega,toNatUp]
     ·have hL:=QD (l:=l) (fun j hj=>hok j (by omega));rw[hL,if_pos ⟨h,h2,rfl⟩,if_neg (by simp)];simp only[rK,tZ,ae,aa,seval,iteOmega,toNatUp];refine sD (UM G key l h h2 (OS hL)) ?_;exact dw
   ·rw[if_neg (by omega),if_neg (by omega),if_pos (by omega)];have h3:17<l.length:=by omega
    simp only[sT,af,ae,aa,seval,iteOmega,toNatUp];refine sC (hx) ?_;simp only[gq,ae,aa,seval,iteOmega,toNatUp];exact dw
  ·have hv:q8 key=.agg [.sl [],.sl [],.sl []]:=if_neg h;have he:mT key=5:=if_pos h;rw[hv,he] at hx;rw[if_neg (by omega),if_pos h];simp only[sT,af,ae,aa,seval,iteOmega,toNatUp];refine sD (hx) ?_;exact dw

theorem Fg (rk c:List UInt8) {n k:Nat} (hk:k<16):∀ {m:Nat},n<m→(mR rk c m)[16*n+k]?=(ez rk (fi c n))[k]?
  | 0,h=>by omega
  | m+1,h=>by
    rw[mR];by_cases e:n=m
    ·subst e;rw[YC (by rw[nE]; omega),nE,ZJ]
    ·rw[YO (by rw[nE]; omega)];exact Fg rk c hk (by omega)
theorem QE (rk c b:List UInt8) {n k:Nat} (hk:k<16) (h:16*n+k<b.length):(fQ rk c b)[16*n+k]?=some (am (b.getD (16*n+k) 0) ((ez rk (fi c n)).getD k 0)):=by
  unfold fQ lP;rw[List.getElem?_zipWith,Fg rk c hk (by omega),eJ h,eJ (by rw[iX]; exact hk)]
def oT (rk c b:List UInt8) (j:Nat):List UInt8:=(fQ rk c b).take j
theorem JM (rk c b:List UInt8) (j:Nat):(oT rk c b j).length=min j b.length:=by unfold oT; rw[Yb,rI]
theorem sU (rk c b:List UInt8) {j:Nat} (h:b.length≤j):oT rk c b j=fQ rk c b:=X7 (by rw[rI]; exact h)
theorem Sz (rk c b:List UInt8) {n k:Nat} (hk:k<16) (h:16*n+k<b.length):oT rk c b (16*n+k)++[am (b.getD (16*n+k) 0) ((ez rk (fi c n)).getD k 0)]=oT rk c b (16*n+k+1):=by
  unfold oT; rw[ZG,QE rk c b hk h]; rfl
theorem xQ {c:List UInt8} (h:c.length=16) (n:Nat):(fi c n).length=16:=by rw[E6]; exact h
theorem QF {c:List UInt8} (h:c.length=16) (n:Nat):uO (fi c n)=fi c (n+1):=by unfold uO; rw[if_pos (xQ h n)]; rfl
def jA (key c b:List UInt8):Int:=if key.length≠16 then 5 else if c.length≠16 then 3 else if 65535<b.length then 2 else 0
def t7 (key c b:List UInt8):List UInt8:=if key.length=16∧c.length=16∧b.length≤65535 then fQ (aQ key) c b else []
theorem OT {key:List UInt8} (c b:List UInt8) (h:key.length≠16):jA key c b=5:=if_pos h
theorem OU {key c:List UInt8} (b:List UInt8) (h:key.length=16) (h2:c.length≠16):jA key c b=3:=by unfold jA; rw[if_neg (by simp[h]),if_pos h2]
theorem NA {key c b:List UInt8} (h:key.length=16) (h2:c.length=16) (h3:65535<b.length):jA key c b=2:=by unfold jA; rw[if_neg (by simp[h]),if_neg (by simp[h2]),if_pos h3]
theorem QG {key c b:List UInt8} (h:key.length=16) (h2:c.length=16) (h3:b.length≤65535):jA key c b=0:=by unfold jA; rw[if_neg (by simp[h]),if_neg (by simp[h2]),if_neg (by omega)]
theorem QH {key c b:List UInt8} (h:key.length=16) (h2:c.length=16) (h3:b.length≤65535):t7 key c b=fQ (aQ key) c b:=if_pos ⟨h,h2,h3⟩
theorem wY {key c b:List UInt8} (h:¬ (key.length=16∧c.length=16∧b.length≤65535)):t7 key c b=[]:=if_neg h
theorem XZ (rk c b:List UInt8):oT rk c b 0=[]:=Zf

def JO:aA:=⟨2,10,.seq (.reg [oO 4 (.mv (.k (.c (.d (.bool false)))))]) (.seq (.reg [oM 5 0,oO 6 (.b2s (.t 5)),oM 7 1,oO 8 (.b2s (.t 7)),oO 9 (.bin .eql (.t 6) (.t 8)),oM 4 9]) (.ret)),[(4,none)]⟩
theorem UR:aw Tryz.prog { own:=[],comp:=[],frz:=[],nils:=[] } Tryz.f129=some JO:=by kernel_rfl
theorem W8 (G:ah) (l m:List UInt8):aj Tryz.prog G 129 [.sl (l.map bD),.sl (m.map bD)] (.w (.c (.d (.bool (l==m))))):=by
  refine aB Tryz.func129 UR rfl rfl ?_;simp only[JO,af,wx,aa,seval,iteOmega,toNatUp,rZ,CG];exact km (by simp only[wx,aa,seval,iteOmega,toNatUp])
def Hw:aA:=⟨2,8,.seq (.reg [oO 4 (.mv (.k (.c (.d (.bool false)))))]) (.seq (.reg [oM 5 0,oM 6 1,oO 7 (.call 129 [(.t 5),(.t 6)] none),oM 4 7]) (.ret)),[(4,none)]⟩
theorem SB:aw Tryz.prog { own:=[],comp:=[],frz:=[],nils:=[] } Tryz.f104=some Hw:=by kernel_rfl
theorem tq (G:ah) (l m:List UInt8):aj Tryz.prog G 104 [.sl (l.map bD),.sl (m.map bD)] (.w (.c (.d (.bool (l==m))))):=by
  refine aB Tryz.func104 SB rfl rfl ?_;simp only[Hw,af,ae,aa,seval,iteOmega,toNatUp];refine sD (W8 G l m) ?_;exact aF
def cQ:List UInt32:=[0x6a09e667,0xbb67ae85,0x3c6ef372,0xa54ff53a,0x510e527f,0x9b05688c,0x1f83d9ab,0x5be0cd19]
def bp:List UInt32:=[
  0x428a2f98,0x71374491,0xb5c0fbcf,0xe9b5dba5,0x3956c25b,0x59f111f1,0x923f82a4,0xab1c5ed5,
  0xd807aa98,0x12835b01,0x243185be,0x550c7dc3,0x72be5d74,0x80deb1fe,0x9bdc06a7,0xc19bf174,
  0xe49b69c1,0xefbe4786,0x0fc19dc6,0x240ca1cc,0x2de92c6f,0x4a7484aa,0x5cb0a9dc,0x76f988da,
  0x983e5152,0xa831c66d,0xb00327c8,0xbf597fc7,0xc6e00bf3,0xd5a79147,0x06ca6351,0x14292967,
  0x27b70a85,0x2e1b2138,0x4d2c6dfc,0x53380d13,0x650a7354,0x766a0abb,0x81c2c92e,0x92722c85,
  0xa2bfe8a1,0xa81a664b,0xc24b8b70,0xc76c51a3,0xd192e819,0xd6990624,0xf40e3585,0x106aa070,
  0x19a4c116,0x1e376c08,0x2748774c,0x34b0bcb5,0x391c0cb3,0x4ed8aa4a,0x5b9cca4f,0x682e6ff3,
  0x748f82ee,0x78a5636f,0x84c87814,0x8cc70208,0x90befffa,0xa4506ceb,0xbef9a3f7,0xc67178f2]
theorem pB:cQ.length=8:=rfl
theorem Bw:bp.length=64:=rfl
def ke (b:List UInt8) (t:Nat):UInt32 :=
  jL (jL (jL (kD (kn (b.getD (4*t) 0)) 24) (kD (kn (b.getD (4*t+1) 0)) 16)) (kD (kn (b.getD (4*t+2) 0)) 8)) (kn (b.getD (4*t+3) 0))
def yJ (x:UInt32):UInt32:=gR (gR (ib x 7) (ib x 18)) (oU x 3)
def yK (y:UInt32):UInt32:=gR (gR (ib y 17) (ib y 19)) (oU y 10)
def mK (s:List UInt32) (t:Nat):UInt32 :=
  bH (bH (bH (yK (s.getD (t-2) 0)) (s.getD (t-7) 0)) (yJ (s.getD (t-15) 0))) (s.getD (t-16) 0)
def fL (b:List UInt8) (n:Nat):List UInt32:=(List.range n).map (ke b)
def dc (b:List UInt8):Nat→List UInt32
  | 0=>fL b 16
  | n+1=>dc b n++[mK (dc b n) (16+n)]
def dJ (b:List UInt8):List UInt32:=dc b 48
theorem Fl (b:List UInt8) (m:Nat) (h:m=48):dJ b=dc b m:=by rw[h]; rfl
def Al (e:UInt32):UInt32:=gR (gR (ib e 6) (ib e 11)) (ib e 25)
def Mk (a:UInt32):UInt32:=gR (gR (ib a 2) (ib a 13)) (ib a 22)
def Ax (e f g:UInt32):UInt32:=gR (lL e f) (lL (uJ e) g)
def Ml (a b c:UInt32):UInt32:=gR (gR (lL a b) (lL a c)) (lL b c)
structure bV where
  (a b c d e f g h:UInt32)
def bV.step (s:bV) (k w:UInt32):bV :=
  let t1:=bH (bH (bH (bH s.h (Al s.e)) (Ax s.e s.f s.g)) k) w
  let t2:=bH (Mk s.a) (Ml s.a s.b s.c)
  ⟨bH t1 t2,s.a,s.b,s.c,bH s.d t1,s.e,s.f,s.g⟩
def bV.of (h:List UInt32):bV:=⟨h.getD 0 0,h.getD 1 0,h.getD 2 0,h.getD 3 0,h.getD 4 0,h.getD 5 0,h.getD 6 0,h.getD 7 0⟩
def bV.rounds (s:bV) (k w:List UInt32):Nat→bV
  | 0=>s
  | n+1=>(s.rounds k w n).step (k.getD n 0) (w.getD n 0)
def bV.sum (s:bV) (h:List UInt32):List UInt32 :=
  [bH (h.getD 0 0) s.a,bH (h.getD 1 0) s.b,bH (h.getD 2 0) s.c,bH (h.getD 3 0) s.d,bH (h.getD 4 0) s.e,bH (h.getD 5 0) s.f,bH (h.getD 6 0) s.g,bH (h.getD 7 0) s.h]
def mw (h:List UInt32) (b:List UInt8):List UInt32:=((bV.of h).rounds bp (dJ b) 64).sum h
theorem Bz (h:List UInt32) (b:List UInt8):(mw h b).length=8:=rfl
theorem QK (x y:UInt32):jL x y=jL y x:=UInt32.or_comm x y
def Fo:aA:=⟨2,15,.seq (.reg [oO 4 (.mv (.k (.c (.d (.int .u32 0)))))]) (.seq (.reg [oM 5 0,oM 6 1,oO 7 (.conv .u64 (.t 6)),oO 8 (.bin .shr (.t 5) (.t 7)),oM 9 0,oM 10 1,oO 11 (.bin .sub (kI 32) (.t 10)),oO 12 (.conv .u64 (.t 11)),oO 13 (.bin .shl (.t 9) (.t 12)),oO 14 (.bin .or (.t 8) (.t 13)),oM 4 14]) (.ret)),[(4,none)]⟩
theorem QL:aw Tryz.prog { own:=[],comp:=[],frz:=[],nils:=[] } Tryz.f133=some Fo:=by kernel_rfl
theorem ju (G:ah) (x:UInt32) (n:Nat) (h0:0<n) (hn:n<32):aj Tryz.prog G 133 [wD x,.int .i64 n] (.w (.c (.d (wD (ib x n))))):=by
  refine aB Tryz.func133 QL rfl rfl ?_;have e1:IntKind.u64.wrap (n:Int)=(n:Int):=IntWalk.u64_in _ (by omega);have e2:IntKind.i64.wrap (32-(n:Int))=((32-n:Nat):Int):=by rw[IntWalk.i64_in _ (by omega)]; omega
  have e3:IntKind.u64.wrap ((32-n:Nat):Int)=((32-n:Nat):Int):=IntWalk.u64_in _ (by omega);simp only[Fo,af,wx,aa,seval,iteOmega,toNatUp,e1,e2,e3];exact km (by simp only[wx,aa,seval,iteOmega,toNatUp] <;> rfl)
def HA:aA:=⟨2,17,.seq (.reg [oO 4 (.mv (.k (.c (.d (.int .u32 0)))))]) (.seq (.reg [oM 6 1,oO 7 (.conv .u64 (.t 6)),oO 8 (.bin .and (.t 7) (.k (.c (.d (.int .u64 31))))),oM 5 8]) (.seq (.reg [oM 9 0,oM 10 5,oO 11 (.bin .shl (.t 9) (.t 10)),oM 12 0,oM 13 5,oO 14 (.bin .sub (.k (.c (.d (.int .u64 32)))) (.t 13)),oO 15 (.bin .shr (.t 12) (.t 14)),oO 16 (.bin .or (.t 11) (.t 15)),oM 4 16]) (.ret))),[(4,none)]⟩
theorem SJ:aw Tryz.prog { own:=[],comp:=[],frz:=[],nils:=[] } Tryz.f188=some HA:=by kernel_rfl
theorem UZ (G:ah) (x:UInt32) (n:Nat) (h0:0<n) (hn:n<32):aj Tryz.prog G 188 [wD x,.int .i64 (-(n:Int))] (.w (.c (.d (wD (ib x n))))):=by
  refine aB Tryz.func188 SJ rfl rfl ?_;have e1:bits .and .u64 (IntKind.u64.wrap (-(n:Int))) 31=((32-n:Nat):Int):=by
    have h:=bits_mask .u64 64 (by decide) u64_in 5 (by decide) (IntKind.u64.wrap (-(n:Int))) (by rw[IntKind.wrap_u64]; omega) (by rw[IntKind.wrap_u64]; omega);rw[show (31:Int)=2^5-1 by decide,h,IntKind.wrap_u64];omega
  have e2:IntKind.u64.wrap (32-((32-n:Nat):Int))=((n:Nat):Int):=by rw[IntWalk.u64_in _ (by omega)]; omega
  simp only[HA,af,wx,aa,seval,iteOmega,toNatUp,e1,e2];rw[QK];exact km (by simp only[wx,aa,seval,iteOmega,toNatUp] <;> rfl)
def HB:aA:=⟨2,9,.seq (.reg [oO 4 (.mv (.k (.c (.d (.int .u32 0)))))]) (.seq (.reg [oM 5 0,oM 6 1,oO 7 (.un .neg (.t 6)),oO 8 (.call 188 [(.t 5),(.t 7)] none),oM 4 8]) (.ret)),[(4,none)]⟩
theorem SK:aw Tryz.prog { own:=[],comp:=[],frz:=[],nils:=[] } Tryz.f185=some HB:=by kernel_rfl
theorem jw (G:ah) (x:UInt32) (n:Nat) (h0:0<n) (hn:n<32):aj Tryz.prog G 185 [wD x,.int .i64 n] (.w (.c (.d (wD (ib x n))))):=by
  refine aB Tryz.func185 SK rfl rfl ?_;have e1:IntKind.i64.wrap (0-(n:Int)) = -(n:Int):=by rw[IntWalk.i64_in _ (by omega)]; omega
  simp only[HB,af,wx,aa,seval,iteOmega,toNatUp,e1];refine a8 (UZ G x n h0 hn) rfl (.inr rfl) ?_;simp only[wx,aa,seval,iteOmega,toNatUp];exact km (by simp only[wx,aa,seval,iteOmega,toNatUp])
def HC:aA:=⟨0,2,.seq (.reg [oO 0 (.mv (.k (.c .nil)))]) (.seq (.reg [oO 1 (.bldSl true 8 1 (.int .u32 0) [(0,(.k (.c (.d (.int .u32 1779033703))))),(1,(.k (.c (.d (.int .u32 3144134277))))),(2,(.k (.c (.d (.int .u32 1013904242))))),(3,(.k (.c (.d (.int .u32 2773480762))))),(4,(.k (.c (.d (.int .u32 1359893119))))),(5,(.k (.c (.d (.int .u32 2600822924))))),(6,(.k (.c (.d (.int .u32 528734635))))),(7,(.k (.c (.d (.int .u32 1541459225)))))]),oM 0 1]) (.ret)),[(0,none)]⟩
theorem SL:aw Tryz.prog { own:=[1],comp:=[],frz:=[],nils:=[] } Tryz.f117=some HC:=by kernel_rfl
theorem U0 (G:ah):aj Tryz.prog G 117 [] (.w (.c (.fr 1 (cQ.map wD)))):=by
  refine aB Tryz.func117 SL rfl rfl ?_;simp only[HC,af,tL,tM,tN,tO,tP,sx];refine Gp (.w (.c (.own 8 1 0 8)),upd hN 8 (some (.row 1 (cQ.map wD))),upd uN 8 true) (by kernel_rfl) ?_;simp only[wx,aa,seval,iteOmega,toNatUp];exact eV (id:=8) (n:=8) (s:=1) (by simp only[wx,aa,seval,iteOmega,toNatUp]) (by simp only[wx,aa,seval,iteOmega,toNatUp]) rfl
def HD:aA:=⟨0,2,.seq (.reg [oO 0 (.mv (.k (.c .nil)))]) (.seq (.reg [oO 1 (.bldSl true 64 1 (.int .u32 0) [(0,(.k (.c (.d (.int .u32 1116352408))))),(1,(.k (.c (.d (.int .u32 1899447441))))),(2,(.k (.c (.d (.int .u32 3049323471))))),(3,(.k (.c (.d (.int .u32 3921009573))))),(4,(.k (.c (.d (.int .u32 961987163))))),(5,(.k (.c (.d (.int .u32 1508970993))))),(6,(.k (.c (.d (.int .u32 2453635748))))),(7,(.k (.c (.d (.int .u32 2870763221))))),(8,(.k (.c (.d (.int .u32 3624381080))))),(9,(.k (.c (.d (.int .u32 310598401))))),(10,(.k (.c (.d (.int .u32 607225278))))),(11,(.k (.c (.d (.int .u32 1426881987))))),(12,(.k (.c (.d (.int .u32 1925078388))))),(13,(.k (.c (.d (.int .u32 2162078206))))),(14,(.k (.c (.d (.int .u32 2614888103))))),(15,(.k (.c (.d (.int .u32 3248222580))))),(16,(.k (.c (.d (.int .u32 3835390401))))),(17,(.k (.c (.d (.int .u32 4022224774))))),(18,(.k (.c (.d (.int .u32 264347078))))),(19,(.k (.c (.d (.int .u32 604807628))))),(20,(.k (.c (.d (.int .u32 770255983))))),(21,(.k (.c (.d (.int .u32 1249150122))))),(22,(.k (.c (.d (.int .u32 1555081692))))),(23,(.k (.c (.d (.int .u32 1996064986))))),(24,(.k (.c (.d (.int .u32 2554220882))))),(25,(.k (.c (.d (.int .u32 2821834349))))),(26,(.k (.c (.d (.int .u32 2952996808))))),(27,(.k (.c (.d (.int .u32 3210313671))))),(28,(.k (.c (.d (.int .u32 3336571891))))),(29,(.k (.c (.d (.int .u32 3584528711))))),(30,(.k (.c (.d (.int .u32 113926993))))),(31,(.k (.c (.d (.int .u32 338241895))))),(32,(.k (.c (.d (.int .u32 666307205))))),(33,(.k (.c (.d (.int .u32 773529912))))),(34,(.k (.c (.d (.int .u32 1294757372))))),(35,(.k (.c (.d (.int .u32 1396182291))))),(36,(.k (.c (.d (.int .u32 1695183700))))),(37,(.k (.c (.d (.int .u32 1986661051))))),(38,(.k (.c (.d (.int .u32 2177026350))))),(39,(.k (.c (.d (.int .u32 2456956037))))),(40,(.k (.c (.d (.int .u32 2730485921))))),(41,(.k (.c (.d (.int .u32 2820302411))))),(42,(.k (.c (.d (.int .u32 3259730800))))),(43,(.k (.c (.d (.int .u32 3345764771))))),(44,(.k (.c (.d (.int .u32 3516065817))))),(45,(.k (.c (.d (.int .u32 3600352804))))),(46,(.k (.c (.d (.int .u32 4094571909))))),(47,(.k (.c (.d (.int .u32 275423344))))),(48,(.k (.c (.d (.int .u32 430227734))))),(49,(.k (.c (.d (.int .u32 506948616))))),(50,(.k (.c (.d (.int .u32 659060556))))),(51,(.k (.c (.d (.int .u32 883997877))))),(52,(.k (.c (.d (.int .u32 958139571))))),(53,(.k (.c (.d (.int .u32 1322822218))))),(54,(.k (.c (.d (.int .u32 1537002063))))),(55,(.k (.c (.d (.int .u32 1747873779))))),(56,(.k (.c (.d (.int .u32 1955562222))))),(57,(.k (.c (.d (.int .u32 2024104815))))),(58,(.k (.c (.d (.int .u32 2227730452))))),(59,(.k (.c (.d (.int .u32 2361852424))))),(60,(.k (.c (.d (.int .u32 2428436474))))),(61,(.k (.c (.d (.int .u32 2756734187))))),(62,(.k (.c (.d (.int .u32 3204031479))))),(63,(.k (.c (.d (.int .u32 3329325298)))))]),
 oM 0 1]) (.ret)),[(0,none)]⟩
theorem SN:aw Tryz.prog { own:=[1],comp:=[],frz:=[],nils:=[] } Tryz.f118=some HD:=by kernel_rfl
theorem JW (G:ah):aj Tryz.prog G 118 [] (.w (.c (.fr 1 (bp.map wD)))):=by
  refine aB Tryz.func118 SN rfl rfl ?_;simp only[HD,af,tL,tM,tN,tO,tP,sx];refine Gp (.w (.c (.own 8 1 0 64)),upd hN 8 (some (.row 1 (bp.map wD))),upd uN 8 true) (by kernel_rfl) ?_;simp only[wx,aa,seval,iteOmega,toNatUp];exact eV (id:=8) (n:=64) (s:=1) (by simp only[wx,aa,seval,iteOmega,toNatUp]) (by simp only[wx,aa,seval,iteOmega,toNatUp]) rfl
theorem BA (b:UInt8):(kn b).toNat=b.toNat:=by have:=Cn b; omega
theorem we (b:UInt8) (n:Nat) (hn:n≤24):(kD (kn b) n).toNat=2^n*b.toNat:=by
  have hb:=b.toNat_lt;have h:(2:Nat)^n≤2^24:=Nat.pow_le_pow_right (by decide) hn;have h2:2^n*b.toNat≤2^24*255:=Nat.mul_le_mul h (by omega);unfold kD;rw[BA,UInt32.toNat_ofNat_of_lt' (by rw[Nat.mul_comm]; simp only[UInt32.size]; omega),Nat.mul_comm]
theorem xV (x y:UInt32):(jL x y).toNat=x.toNat ||| y.toNat:=UInt32.toNat_or x y
theorem ND (b:List UInt8) (t:Nat):(ke b t).toNat=((((b.getD (4*t) 0).toNat*256+(b.getD (4*t+1) 0).toNat)*256+(b.getD (4*t+2) 0).toNat)*256+(b.getD (4*t+3) 0).toNat):=by
  unfold ke;generalize b.getD (4*t) 0=p;generalize b.getD (4*t+1) 0=q;generalize b.getD (4*t+2) 0=r;generalize b.getD (4*t+3) 0=s;have hp:=p.toNat_lt;have hq:=q.toNat_lt;have hr:=r.toNat_lt;have hs:=s.toNat_lt;rw[xV,xV,xV,we _ _ (by decide),we _ _ (by decide),we _ _ (by decide),BA];have e1:=Nat.two_pow_add_eq_or_of_lt (i:=24) (b:=2^16*q.toNat) (by omega) p.toNat;rw[← e1];have e2:=Nat.two_pow_add_eq_or_of_lt (i:=16) (b:=2^8*r.toNat) (by omega) (2^8*p.toNat+q.toNat);have e3:2^24*p.toNat+2^16*q.toNat=2^16*(2^8*p.toNat+q.toNat):=by omega
  rw[e3,← e2];have e4:=Nat.two_pow_add_eq_or_of_lt (i:=8) (b:=s.toNat) (by omega) (2^8*(2^8*p.toNat+q.toNat)+r.toNat);have e5:2^16*(2^8*p.toNat+q.toNat)+2^8*r.toNat=2^8*(2^8*(2^8*p.toNat+q.toNat)+r.toNat):=by omega
  rw[e5,← e4];omega
theorem four (b:List UInt8) (t:Nat) (h:4*t+4≤b.length):(b.drop (4*t)).take 4=[b.getD (4*t) 0,b.getD (4*t+1) 0,b.getD (4*t+2) 0,b.getD (4*t+3) 0]:=by
  apply Y7;intro j;rw[Yv,YS];rcases j with _ | _ | _ | _ | j
  ·simp[List.getD,X3 (show 4*t<b.length by omega)]
  ·simp[List.getD,X3 (show 4*t+1<b.length by omega)]
  ·simp[List.getD,X3 (show 4*t+2<b.length by omega)]
  ·simp[List.getD,X3 (show 4*t+3<b.length by omega)]
  ·rw[if_neg (by omega)];rfl
theorem XU (b:List UInt8) (t:Nat) (h:4*t+4≤b.length):D.int .u32 (IntKind.u32.wrap (aR ((b.drop (4*t)).take 4):Int))=wD (ke b t):=by
  have h1:=ND b t;rw[four b t h];unfold wD;rw[h1];generalize b.getD (4*t) 0=p;generalize b.getD (4*t+1) 0=q;generalize b.getD (4*t+2) 0=r;generalize b.getD (4*t+3) 0=s;have hp:=p.toNat_lt;have hq:=q.toNat_lt;have hr:=r.toNat_lt;have hs:=s.toNat_lt;have e:aR [p,q,r,s]=(((p.toNat*256+q.toNat)*256+r.toNat)*256+s.toNat):=by
    simp only[aR,Zn,List.foldl_nil];omega
  rw[e,IntWalk.u32_in _ (by omega)]
theorem pz (b:List UInt8) (n:Nat):(fL b n).length=n:=by simp[fL]
theorem nu (b:List UInt8):∀ n,(dc b n).length=16+n
  | 0=>by simp[dc,pz]
  | n+1=>by rw[dc,X5,nu b n]; simp; omega
theorem pQ {α:Type} (l:List α) (z x:α) (n:Nat) (h:0<n):(l++List.replicate n z).set l.length x=(l++[x])++List.replicate (n-1) z:=by
  obtain⟨k,rfl⟩:∃ k,n=k+1:=⟨n-1,by omega⟩
  rw[ZQ _ _ (Ye _),ZZ,List.replicate_succ,List.set_cons_zero];simp
theorem JX {l:List UInt32} {r:List UInt32} {i:Nat} (h:i<l.length):(l++r)[i]?=some (l.getD i 0):=by
  rw[YO h];simp[h]
def zA (b:List UInt8) (t:Nat):St:=⟨aY [(0,.w (.c (.d (.sl (b.map bD))))),(2,.w (.c (.pa 1 1))),(3,.w (.c (.pa 2 1))),(10,.w (.c (.d (.int .i64 (t:Int)))))],hL [(1,.row 1 ((List.replicate 64 (0:UInt32)).map wD)),(2,.row 1 ((fL b t++List.replicate (64-t) 0).map wD))],uL [1,2]⟩
def zB (b:List UInt8) (n:Nat):St:=⟨aY [(2,.w (.c (.pa 1 1))),(3,.w (.c (.pa 2 1))),(5,.w (.c (.d (.int .i64 ((16+n:Nat):Int)))))],hL [(1,.row 1 ((List.replicate 64 (0:UInt32)).map wD)),(2,.row 1 ((dc b n++List.replicate (48-n) 0).map wD))],uL [1,2]⟩
def vt:aO := .seq (.reg [oO 11 (.bin .lss (.t 10) (kI 16))]) (.seq (.cond (.t 11) (.skip) (.exit 0)) (.seq (.block 1 (.seq (.reg [oM 12 10,oM 4 12]) (.reg [oM 13 4,oM 14 0,oM 15 4,oO 16 (.bin .mul (.t 15) (kI 4)),oM 17 4,oO 18 (.bin .add (.t 17) (kI 1)),oO 19 (.bin .mul (.t 18) (kI 4)),oO 20 (.slice 1 (.t 14) (some (.t 16)) (some (.t 19)) none),oO 21 (.call 48 [(.t 20)] none),oO 22 (.conv .u32 (.t 21)),oO 23 (.idxPa 1 64 (.t 3) (.t 13)),oN (.store .sc (.t 23) (.t 22))]))) (.reg [oO 24 (.bin .add (.t 10) (kI 1)),oM 10 24])))
def vu:aO := .seq (.seq (.reg [oM 25 5,oO 26 (.bin .lss (.t 25) (kI 64))]) (.cond (.t 26) (.skip) (.exit 2))) (.seq (.block 3 (.seq (.reg [oM 29 5,oO 30 (.bin .sub (.t 29) (kI 15)),oO 31 (.idxPa 1 64 (.t 3) (.t 30)),oO 32 (.load .sc (.t 31)),oM 33 5,oO 34 (.bin .sub (.t 33) (kI 2)),oO 35 (.idxPa 1 64 (.t 3) (.t 34)),oO 36 (.load .sc (.t 35)),oM 6 32,oM 7 36]) (.seq (.reg [oM 37 6,oO 38 (.call 185 [(.t 37),(kI 7)] none),oM 39 6,oO 40 (.call 185 [(.t 39),(kI 18)] none),oO 41 (.bin .xor (.t 38) (.t 40)),oM 42 6,oO 43 (.bin .shr (.t 42) (.k (.c (.d (.int .u64 3))))),oO 44 (.bin .xor (.t 41) (.t 43)),oM 8 44]) (.seq (.reg [oM 45 7,oO 46 (.call 185 [(.t 45),(kI 17)] none),oM 47 7,oO 48 (.call 185 [(.t 47),(kI 19)] none),oO 49 (.bin .xor (.t 46) (.t 48)),oM 50 7,oO 51 (.bin .shr (.t 50) (.k (.c (.d (.int .u64 10))))),
 oO 52 (.bin .xor (.t 49) (.t 51)),oM 9 52]) (.reg [oM 53 5,oM 54 9,oM 55 5,oO 56 (.bin .sub (.t 55) (kI 7)),oO 57 (.idxPa 1 64 (.t 3) (.t 56)),oO 58 (.load .sc (.t 57)),oO 59 (.bin .add (.t 54) (.t 58)),oM 60 8,oO 61 (.bin .add (.t 59) (.t 60)),oM 62 5,oO 63 (.bin .sub (.t 62) (kI 16)),oO 64 (.idxPa 1 64 (.t 3) (.t 63)),oO 65 (.load .sc (.t 64)),oO 66 (.bin .add (.t 61) (.t 65)),oO 67 (.idxPa 1 64 (.t 3) (.t 53)),oN (.store .sc (.t 67) (.t 66))]))))) (.reg [oM 27 5,oO 28 (.bin .add (.t 27) (kI 1)),oM 5 28]))
def CR:aA:=⟨1,69,.seq (.reg [oO 2 (.allocArr [(.int .u32 0),(.int .u32 0),(.int .u32 0),(.int .u32 0),(.int .u32 0),(.int .u32 0),(.int .u32 0),(.int .u32 0),(.int .u32 0),(.int .u32 0),(.int .u32 0),(.int .u32 0),(.int .u32 0),(.int .u32 0),(.int .u32 0),(.int .u32 0),(.int .u32 0),(.int .u32 0),(.int .u32 0),(.int .u32 0),(.int .u32 0),(.int .u32 0),(.int .u32 0),(.int .u32 0),(.int .u32 0),(.int .u32 0),(.int .u32 0),(.int .u32 0),(.int .u32 0),(.int .u32 0),(.int .u32 0),(.int .u32 0),(.int .u32 0),(.int .u32 0),(.int .u32 0),(.int .u32 0),(.int .u32 0),(.int .u32 0),(.int .u32 0),(.int .u32 0),(.int .u32 0),(.int .u32 0),(.int .u32 0),(.int .u32 0),(.int .u32 0),(.int .u32 0),(.int .u32 0),(.int .u32 0),(.int .u32 0),(.int .u32 0),(.int .u32 0),(.int .u32 0),(.int .u32 0),(.int .u32 0),(.int .u32 0),(.int .u32 0),(.int .u32 0),(.int .u32 0),(.int .u32 0),(.int .u32 0),(.int .u32 0),(.int .u32 0),(.int .u32 0),(.int .u32 0)])])
 (.seq (.reg [oO 3 (.allocArr [(.int .u32 0),(.int .u32 0),(.int .u32 0),(.int .u32 0),(.int .u32 0),(.int .u32 0),(.int .u32 0),(.int .u32 0),(.int .u32 0),(.int .u32 0),(.int .u32 0),(.int .u32 0),(.int .u32 0),(.int .u32 0),(.int .u32 0),(.int .u32 0),(.int .u32 0),(.int .u32 0),(.int .u32 0),(.int .u32 0),(.int .u32 0),(.int .u32 0),(.int .u32 0),(.int .u32 0),(.int .u32 0),(.int .u32 0),(.int .u32 0),(.int .u32 0),(.int .u32 0),(.int .u32 0),(.int .u32 0),(.int .u32 0),(.int .u32 0),(.int .u32 0),(.int .u32 0),(.int .u32 0),(.int .u32 0),(.int .u32 0),(.int .u32 0),(.int .u32 0),(.int .u32 0),(.int .u32 0),(.int .u32 0),(.int .u32 0),(.int .u32 0),(.int .u32 0),(.int .u32 0),(.int .u32 0),(.int .u32 0),(.int .u32 0),(.int .u32 0),(.int .u32 0),(.int .u32 0),(.int .u32 0),(.int .u32 0),(.int .u32 0),(.int .u32 0),(.int .u32 0),(.int .u32 0),(.int .u32 0),(.int .u32 0),(.int .u32 0),(.int .u32 0),(.int .u32 0)])])
 (.seq (.seq (.reg [oO 10 (.mv (kI 0))]) (.block 0 (.loop vt))) (.seq (.seq (.reg [oO 5 (.mv (kI 16))]) (.block 2 (.loop vu))) (.seq (.reg [oO 68 (.load (.ag 64) (.t 3)),oN (.store (.ag 64) (.t 2) (.t 68))]) (.ret))))),[(2,(some (.ag 64)))]⟩
theorem OY:aw Tryz.prog { own:=[],comp:=[],frz:=[],nils:=[] } Tryz.f184=some CR:=by kernel_rfl
set_option maxHeartbeats 800000 in
theorem QM (G:ah) (b:List UInt8) (hb:b.length=64):aj Tryz.prog G 184 [.sl (b.map bD)] (.w (.c (.d (.agg ((dJ b).map wD))))):=by
  refine aB Tryz.func184 OY rfl rfl ?_;simp only[CR,af,wx,aa,seval,iteOmega,toNatUp];refine bf (zA b) (fun t=>16-t) (fun t=>t≤16) 0 (Yd _) ?_ ?_
  ·refine aD (fun i=>8*(i+1)) ?_ ?_ rfl rfl <;> simp only[wx,aC,aa,seval,iteOmega,toNatUp];exact⟨rfl,rfl⟩
  ·intro t ht;by_cases hlt:t<16
   ·have e1:IntKind.i64.wrap ((t:Int)*4)=((4*t:Nat):Int):=by rw[IntWalk.i64_in _ (by omega)]; omega
    have e2:IntKind.i64.wrap ((t:Int)+1)=((t+1:Nat):Int):=by rw[IntWalk.i64_in _ (by omega)]; rfl
    have e3:IntKind.i64.wrap (((t+1:Nat):Int)*4)=((4*t+4:Nat):Int):=by rw[IntWalk.i64_in _ (by omega)]; omega
    have e4:4*t+4-4*t=4:=by omega
    simp only[vt,zA,wx,aa,seval,iteOmega,toNatUp,e1,e2,e3,e4];refine a8 (jx G _ (by rw[Yb,Yg]; omega)) rfl (.inr rfl) ?_;have h1:t<(fL b t++List.replicate (64-t) 0).length:=by rw[X5,pz,Yt]; omega
    have h2:=pQ (fL b t) 0 (ke b t) (64-t) (by omega);rw[pz] at h2;have h3:fL b t++[ke b t]=fL b (t+1):=by simp[fL,ZE]
    have h4:64-t-1=64-(t+1):=by omega
    rw[h3,h4] at h2;simp only[wx,aa,seval,iteOmega,toNatUp,XU b t (by omega),YT,te h1 (oz _),tg,h2,e2];refine a6 (t+1) (by omega) (by omega) (aD id ?_ ?_ rfl rfl) <;> simp only[wx,aC,aa,seval,iteOmega,toNatUp]
   ·obtain rfl:t=16:=by omega
    simp only[vt,zA,wx,aa,seval,iteOmega,toNatUp];refine bf (zB b) (fun n=>48-n) (fun n=>n≤48) 0 (Yd _) ?_ ?_
    ·have h0:fL b 16=dc b 0:=rfl;refine aD id ?_ ?_ rfl rfl <;> simp only[wx,aC,aa,seval,iteOmega,toNatUp,h0]
    ·intro n hn;by_cases hlt:n<48
     ·have hl:=nu b n;have w1:∀ k:Nat,k≤16→IntKind.i64.wrap (((16+n:Nat):Int)-(k:Int))=((16+n-k:Nat):Int):=fun k hk=>by rw[IntWalk.i64_in _ (by omega)]; omega
      have e15:IntKind.i64.wrap (((16+n:Nat):Int)-15)=((16+n-15:Nat):Int):=w1 15 (by decide);have e2:IntKind.i64.wrap (((16+n:Nat):Int)-2)=((16+n-2:Nat):Int):=w1 2 (by decide);have e7:IntKind.i64.wrap (((16+n:Nat):Int)-7)=((16+n-7:Nat):Int):=w1 7 (by decide);have e16:IntKind.i64.wrap (((16+n:Nat):Int)-16)=((16+n-16:Nat):Int):=w1 16 (by decide);have e0:IntKind.i64.wrap (((16+n:Nat):Int)+1)=((16+(n+1):Nat):Int):=by rw[IntWalk.i64_in _ (by omega)]; omega
      have g:∀ k,k<16+n→((dc b n++List.replicate (48-n) 0).map wD)[k]?=some (wD ((dc b n).getD k 0)):=fun k hk=>by
        rw[YX,JX (by omega)]; rfl
      have g15:=g (16+n-15) (by omega);have g2:=g (16+n-2) (by omega);have g7:=g (16+n-7) (by omega);have g16:=g (16+n-16) (by omega);simp only[vu,zB,wx,aa,seval,iteOmega,toNatUp,e15,e2,e7,e16,e0,g15,g2,g7,g16];refine a8 (jw G _ 7 (by decide) (by decide)) rfl (.inr rfl) ?_;simp only[wx,aa,seval,iteOmega,toNatUp];refine a8 (jw G _ 18 (by decide) (by decide)) rfl (.inr rfl) ?_;simp only[wx,aa,seval,iteOmega,toNatUp];refine a8 (jw G _ 17 (by decide) (by decide)) rfl (.inr rfl) ?_;simp only[wx,aa,seval,iteOmega,toNatUp];refine a8 (jw G _ 19 (by decide) (by decide)) rfl (.inr rfl) ?_;have h1:16+n<(dc b n++List.replicate (48-n) 0).length:=by rw[X5,hl,Yt]; omega
      have h2:=pQ (dc b n) 0 (mK (dc b n) (16+n)) (48-n) (by omega);rw[hl] at h2;have h4:48-n-1=48-(n+1):=by omega
      have h3:dc b n++[mK (dc b n) (16+n)]=dc b (n+1):=rfl;rw[h3,h4] at h2;simp only[mK,yJ,yK] at h2;simp only[wx,aa,seval,iteOmega,toNatUp,e15,e2,e7,e16,e0,g15,g2,g7,g16,te h1 (oz _),tg,h2];refine a6 (n+1) (by omega) (by omega) (aD id ?_ ?_ rfl rfl) <;> simp only[wx,aC,aa,seval,iteOmega,toNatUp]
     ·have hn48:n=48:=by omega
      have hl:(dc b n).length=64:=by rw[nu]; omega
      have h0:48-n=0:=by omega
      simp only[vu,zB,wx,aa,seval,iteOmega,toNatUp,h0,Ym,Zm,hl];refine km ?_;simp only[wx,aa,seval,iteOmega,toNatUp,Fl b n hn48,hl]
theorem Mm {G:ah} {n:Nat} {c:C} (h:G.at n=some c) (f:Nat→V):ev G f (.g n)=.w (.c c):=by simp[ev,h]
theorem getD_some {l:List UInt32} {i:Nat} (h:i<l.length):l[i]?=some (l.getD i 0):=by simp[h]
theorem eight {l:List UInt32} (h:l.length=8):∃ a b c d e f g i,l=[a,b,c,d,e,f,g,i]:=by
  match l,h with
  | [a,b,c,d,e,f,g,i],_=>exact⟨a,b,c,d,e,f,g,i,rfl⟩
def bV.list (s:bV):List UInt32:=[s.a,s.b,s.c,s.d,s.e,s.f,s.g,s.h]
theorem JY (s:bV) (k w:UInt32):(s.step k w).a=bH (bH (bH (bH (bH s.h (Al s.e)) (Ax s.e s.f s.g)) k) w) (bH (Mk s.a) (Ml s.a s.b s.c)):=rfl
theorem JZ (s:bV) (k w:UInt32):(s.step k w).b=s.a:=rfl
theorem J0 (s:bV) (k w:UInt32):(s.step k w).c=s.b:=rfl
theorem J1 (s:bV) (k w:UInt32):(s.step k w).d=s.c:=rfl
theorem J2 (s:bV) (k w:UInt32):(s.step k w).e=bH s.d (bH (bH (bH (bH s.h (Al s.e)) (Ax s.e s.f s.g)) k) w):=rfl
theorem J3 (s:bV) (k w:UInt32):(s.step k w).f=s.e:=rfl
theorem J4 (s:bV) (k w:UInt32):(s.step k w).g=s.f:=rfl
theorem J5 (s:bV) (k w:UInt32):(s.step k w).h=s.g:=rfl
def t8 (h:List UInt32) (b:List UInt8) (s:bV) (n:Nat):St:=⟨aY [(2,.w (.c (.pa 1 1))),(4,.w (.c (.pa 2 1))),(5,.w (.c (.pa 3 1))),(6,.w (.c (.d (wD s.a)))),(7,.w (.c (.d (wD s.b)))),(8,.w (.c (.d (wD s.c)))),(9,.w (.c (.d (wD s.d)))),(10,.w (.c (.d (wD s.e)))),(11,.w (.c (.d (wD s.f)))),(12,.w (.c (.d (wD s.g)))),(13,.w (.c (.d (wD s.h)))),(37,.w (.c (.d (.int .i64 (n:Int)))))],
  hL [(1,.row 1 (h.map wD)),(2,.row 1 ((List.replicate 8 (0:UInt32)).map wD)),(3,.row 1 ((dJ b).map wD))],uL [1,2,3]⟩
def qU (h:List UInt32) (b:List UInt8) (n:Nat):St:=t8 h b ((bV.of h).rounds bp (dJ b) n) n
def sumTo (s:bV) (h:List UInt32) (k:Nat):List UInt32:=(s.sum h).take k++h.drop k
def t9 (h:List UInt32) (s:bV) (n:Nat):St:=⟨aY [(2,.w (.c (.pa 1 1))),(4,.w (.c (.pa 2 1))),(108,.w (.c (.d (.agg (s.list.map wD))))),(109,.w (.c (.d (.int .i64 (n:Int)))))],
  hL [(1,.row 1 ((sumTo s h n).map wD)),(2,.row 1 ((List.replicate 8 (0:UInt32)).map wD))],uL [1,2]⟩
def vM:aO := .seq (.reg [oO 38 (.bin .lss (.t 37) (kI 64))]) (.seq (.cond (.t 38) (.skip) (.exit 0)) (.seq (.block 1 (.seq (.reg [oM 39 37,oM 14 39]) (.seq (.reg [oM 40 13,oM 41 10,oO 42 (.call 185 [(.t 41),(kI 6)] none),oM 43 10,oO 44 (.call 185 [(.t 43),(kI 11)] none),oO 45 (.bin .xor (.t 42) (.t 44)),oM 46 10,oO 47 (.call 185 [(.t 46),(kI 25)] none),oO 48 (.bin .xor (.t 45) (.t 47)),oO 49 (.bin .add (.t 40) (.t 48)),oM 50 10,oM 51 11,oO 52 (.bin .and (.t 50) (.t 51)),oM 53 10,oO 54 (.un .xor (.t 53)),oM 55 12,oO 56 (.bin .and (.t 54) (.t 55)),oO 57 (.bin .xor (.t 52) (.t 56)),oO 58 (.bin .add (.t 49) (.t 57)),oM 59 14,oO 60 (.idxPa 1 64 (.g 1) (.t 59)),oO 61 (.load .sc (.t 60)),oO 62 (.bin .add (.t 58) (.t 61)),oM 63 14,oO 64 (.idxPa 1 64 (.t 5) (.t 63)),oO 65 (.load .sc (.t 64)),
 oO 66 (.bin .add (.t 62) (.t 65)),oM 15 66]) (.seq (.reg [oM 67 6,oO 68 (.call 185 [(.t 67),(kI 2)] none),oM 69 6,oO 70 (.call 185 [(.t 69),(kI 13)] none),oO 71 (.bin .xor (.t 68) (.t 70)),oM 72 6,oO 73 (.call 185 [(.t 72),(kI 22)] none),oO 74 (.bin .xor (.t 71) (.t 73)),oM 75 6,oM 76 7,oO 77 (.bin .and (.t 75) (.t 76)),oM 78 6,oM 79 8,oO 80 (.bin .and (.t 78) (.t 79)),oO 81 (.bin .xor (.t 77) (.t 80)),oM 82 7,oM 83 8,oO 84 (.bin .and (.t 82) (.t 83)),oO 85 (.bin .xor (.t 81) (.t 84)),oO 86 (.bin .add (.t 74) (.t 85)),oM 16 86]) (.reg [oM 87 12,oM 88 11,oM 89 10,oM 90 9,oM 91 15,oO 92 (.bin .add (.t 90) (.t 91)),oM 93 8,oM 94 7,oM 95 6,oM 96 15,oM 97 16,oO 98 (.bin .add (.t 96) (.t 97)),oM 13 87,oM 12 88,oM 11 89,oM 10 92,oM 9 93,oM 8 94,oM 7 95,oM 6 98]))))) (.reg [oO 99 (.bin .add (.t 37) (kI 1)),
 oM 37 99])))
def vN:aO := .seq (.reg [oO 110 (.bin .lss (.t 109) (kI 8))]) (.seq (.cond (.t 110) (.skip) (.exit 2)) (.seq (.block 3 (.seq (.reg [oM 111 109,oO 112 (.idxArr 1 8 .sc (.t 108) (.t 109)),oM 17 111,oM 18 112]) (.reg [oM 113 17,oO 114 (.idxPa 1 8 (.t 2) (.t 113)),oO 115 (.load .sc (.t 114)),oM 116 18,oO 117 (.bin .add (.t 115) (.t 116)),oO 118 (.idxPa 1 8 (.t 2) (.t 113)),oN (.store .sc (.t 118) (.t 117))]))) (.reg [oO 119 (.bin .add (.t 109) (kI 1)),oM 109 119])))
def Fp:aA:=⟨2,121,.seq (.reg [oO 2 (.box .ownArr (.t 0)),oO 4 (.allocArr [(.int .u32 0),(.int .u32 0),(.int .u32 0),(.int .u32 0),(.int .u32 0),(.int .u32 0),(.int .u32 0),(.int .u32 0)])]) (.seq (.reg [oM 19 1,oO 20 (.call 184 [(.t 19)] none),oO 5 (.allocArr [(.int .u32 0),(.int .u32 0),(.int .u32 0),(.int .u32 0),(.int .u32 0),(.int .u32 0),(.int .u32 0),(.int .u32 0),(.int .u32 0),(.int .u32 0),(.int .u32 0),(.int .u32 0),(.int .u32 0),(.int .u32 0),(.int .u32 0),(.int .u32 0),(.int .u32 0),(.int .u32 0),(.int .u32 0),(.int .u32 0),(.int .u32 0),(.int .u32 0),(.int .u32 0),(.int .u32 0),(.int .u32 0),(.int .u32 0),(.int .u32 0),(.int .u32 0),(.int .u32 0),(.int .u32 0),(.int .u32 0),(.int .u32 0),(.int .u32 0),(.int .u32 0),(.int .u32 0),(.int .u32 0),(.int .u32 0),(.int .u32 0),(.int .u32 0),(.int .u32 0),(.int .u32 0),(.int .u32 0),(.int .u32 0),(.int .u32 0),(.int .u32 0),(.int .u32 0),(.int .u32 0),(.int .u32 0),(.int .u32 0),(.int .u32 0),(.int .u32 0),(.int .u32 0),(.int .u32 0),(.int .u32 0),(.int .u32 0),(.int .u32 0),(.int .u32 0),(.int .u32 0),(.int .u32 0),(.int .u32 0),(.int .u32 0),(.int .u32 0),(.int .u32 0),(.int .u32 0)]),
 oN (.store (.ag 64) (.t 5) (.t 20))]) (.seq (.reg [oO 21 (.idxPa 1 8 (.t 2) (kI 0)),oO 22 (.load .sc (.t 21)),oO 23 (.idxPa 1 8 (.t 2) (kI 1)),oO 24 (.load .sc (.t 23)),oO 25 (.idxPa 1 8 (.t 2) (kI 2)),oO 26 (.load .sc (.t 25)),oO 27 (.idxPa 1 8 (.t 2) (kI 3)),oO 28 (.load .sc (.t 27)),oO 29 (.idxPa 1 8 (.t 2) (kI 4)),oO 30 (.load .sc (.t 29)),oO 31 (.idxPa 1 8 (.t 2) (kI 5)),oO 32 (.load .sc (.t 31)),oO 33 (.idxPa 1 8 (.t 2) (kI 6)),oO 34 (.load .sc (.t 33)),oO 35 (.idxPa 1 8 (.t 2) (kI 7)),oO 36 (.load .sc (.t 35)),oM 6 22,oM 7 24,oM 8 26,oM 9 28,oM 10 30,oM 11 32,oM 12 34,oM 13 36]) (.seq (.seq (.reg [oO 37 (.mv (kI 0))]) (.block 0 (.loop vM))) (.seq (.seq (.reg [oM 100 6,oM 101 7,oM 102 8,oM 103 9,oM 104 10,oM 105 11,oM 106 12,oM 107 13,oO 108 (.build [(.d (.int .u32 0)),(.d (.int .u32 0)),(.d (.int .u32 0)),(.d (.int .u32 0)),(.d (.int .u32 0)),(.d (.int .u32 0)),(.d (.int .u32 0)),(.d (.int .u32 0))] [(0,1,(.t 100)),(1,1,(.t 101)),(2,1,(.t 102)),(3,1,(.t 103)),(4,1,(.t 104)),(5,1,(.t 105)),(6,1,(.t 106)),(7,1,(.t 107))]),
 oO 109 (.mv (kI 0))]) (.block 2 (.loop vN))) (.seq (.reg [oO 120 (.load (.ag 8) (.t 2)),oN (.store (.ag 8) (.t 4) (.t 120))]) (.ret)))))),[(4,(some (.ag 8)))]⟩
theorem QN:aw Tryz.prog { own:=[2],comp:=[],frz:=[],nils:=[] } Tryz.f173=some Fp:=by kernel_rfl
theorem SO (G:ah) (hG:G.at 1=some (.ra (bp.map wD))) (h:List UInt32) (b:List UInt8) (hh:h.length=8) (hb:b.length=64):aj Tryz.prog G 173 [.agg (h.map wD),.sl (b.map bD)] (.w (.c (.d (.agg ((mw h b).map wD))))):=by
  refine aB Tryz.func173 QN rfl rfl ?_;have hsl:(dJ b).length=64:=nu b 48;have eg:=@Mm G 1 _ hG;have hcl:bp.length=64:=Bw;obtain⟨h0,h1,h2,h3,h4,h5,h6,h7,rfl⟩:=eight hh;simp only[Fp,af,wx,aa,seval,iteOmega,toNatUp];refine a8 (QM G b hb) rfl (.inl rfl) ?_;simp only[wx,aa,seval,iteOmega,toNatUp,hsl];refine bf (qU [h0,h1,h2,h3,h4,h5,h6,h7] b) (fun n=>64-n) (fun n=>n≤64) 0 (Yd _) ?_ ?_
  ·refine aD (fun i=>match i with | 1=>16 | 2=>32 | _=>40) ?_ ?_ rfl rfl <;> simp only[qU,t8,wx,aC,aa,seval,iteOmega,toNatUp]
   ·exact⟨rfl,rfl,rfl,rfl,rfl,rfl,rfl,rfl⟩
   ·rfl
  ·intro n hn;by_cases hlt:n<64
   ·have e1:IntKind.i64.wrap ((n:Int)+1)=((n+1:Nat):Int):=by rw[IntWalk.i64_in _ (by omega)]; rfl
    have g1:(bp.map wD)[n]?=some (wD (bp.getD n 0)):=by rw[aL,getD_some (by omega)]; rfl
    have g2:((dJ b).map wD)[n]?=some (wD ((dJ b).getD n 0)):=by rw[aL,getD_some (by omega)]; rfl
    have hr:(bV.of [h0,h1,h2,h3,h4,h5,h6,h7]).rounds bp (dJ b) (n+1)=((bV.of [h0,h1,h2,h3,h4,h5,h6,h7]).rounds bp (dJ b) n).step (bp.getD n 0) ((dJ b).getD n 0):=rfl;generalize hs:(bV.of [h0,h1,h2,h3,h4,h5,h6,h7]).rounds bp (dJ b) n=s at hr;simp only[vM,qU,t8,hs,wx,aa,seval,iteOmega,toNatUp,eg,g1,g2,e1];refine a8 (jw G _ 6 (by decide) (by decide)) rfl (.inr rfl) ?_;simp only[wx,aa,seval,iteOmega,toNatUp];refine a8 (jw G _ 11 (by decide) (by decide)) rfl (.inr rfl) ?_;simp only[wx,aa,seval,iteOmega,toNatUp];refine a8 (jw G _ 25 (by decide) (by decide)) rfl (.inr rfl) ?_;simp only[wx,aa,seval,iteOmega,toNatUp,eg,g1,g2,hcl];refine a8 (jw G _ 2 (by decide) (by decide)) rfl (.inr rfl) ?_;simp only[wx,aa,seval,iteOmega,toNatUp];refine a8 (jw G _ 13 (by decide) (by decide)) rfl (.inr rfl) ?_;simp only[wx,aa,seval,iteOmega,toNatUp];refine a8 (jw G _ 22 (by decide) (by decide)) rfl (.inr rfl) ?_;simp only[wx,aa,seval,iteOmega,toNatUp,e1];refine a6 (n+1) (by omega) (by omega) ?_;rw[qU,hr];refine (aD id ?_ ?_ rfl rfl) <;> simp only[wx,aC,aa,seval,iteOmega,toNatUp,JY,JZ,J0,J1,J2,J3,J4,J5];exact⟨rfl,rfl⟩
   ·obtain rfl:n=64:=by omega
    have hK:mw [h0,h1,h2,h3,h4,h5,h6,h7] b=((bV.of [h0,h1,h2,h3,h4,h5,h6,h7]).rounds bp (dJ b) 64).sum [h0,h1,h2,h3,h4,h5,h6,h7]:=rfl;rw[hK];simp only[qU];generalize (bV.of [h0,h1,h2,h3,h4,h5,h6,h7]).rounds bp (dJ b) 64=s;simp only[vM,t8,wx,aa,seval,iteOmega,toNatUp];refine bf (t9 [h0,h1,h2,h3,h4,h5,h6,h7] s) (fun n=>8-n) (fun n=>n≤8) 0 (Yd _) ?_ ?_
    ·refine aD id ?_ ?_ rfl rfl <;> simp only[wx,aC,aa,seval,iteOmega,toNatUp,t9]
     ·rfl
     ·rfl
    ·have e8:s.sum [h0,h1,h2,h3,h4,h5,h6,h7]=[bH h0 s.a,bH h1 s.b,bH h2 s.c,bH h3 s.d,bH h4 s.e,bH h5 s.f,bH h6 s.g,bH h7 s.h]:=rfl;intro n hn;have hc:n=8∨n=0∨n=1∨n=2∨n=3∨n=4∨n=5∨n=6∨n=7:=by omega
     rcases hc with rfl | rfl | rfl | rfl | rfl | rfl | rfl | rfl | rfl
     ·simp only[vN,t9,sumTo,e8,bV.list,wx,aa,seval,iteOmega,toNatUp];exact km (by simp only[wx,aa,seval,iteOmega,toNatUp])
     all_goals
       simp only[vN,t9,sumTo,e8,bV.list,wx,wy,aa,seval,iteOmega,toNatUp]
       first | refine a6 1 (by decide) (by decide) ?_ | refine a6 2 (by decide) (by decide) ?_ | refine a6 3 (by decide) (by decide) ?_ | refine a6 4 (by decide) (by decide) ?_ | refine a6 5 (by decide) (by decide) ?_ | refine a6 6 (by decide) (by decide) ?_ | refine a6 7 (by decide) (by decide) ?_ | refine a6 8 (by decide) (by decide) ?_
       refine aD id ?_ ?_ rfl rfl <;> simp only[wx,aC,aa,seval,iteOmega,toNatUp,sumTo,e8,bV.list] <;> rfl
theorem NE {l:List UInt8} {i:Nat} (h:i<l.length):l[i]?=some (l.getD i 0):=by simp[h]
def zE (h k:List UInt32) (b:List UInt8) (t:Nat):St:=⟨aY [(0,.w (.c (.d (.sl (h.map wD))))),(1,.w (.c (.d (.sl (k.map wD))))),(2,.w (.c (.d (.sl (b.map bD))))),(7,.w (.c (.pa 1 1))),(8,.w (.c (.d (.int .i64 (t:Int)))))],
  hL [(1,.row 1 ((fL b t++List.replicate (64-t) 0).map wD))],uL [1]⟩
def zF (h k:List UInt32) (b:List UInt8) (n:Nat):St:=⟨aY [(0,.w (.c (.d (.sl (h.map wD))))),(1,.w (.c (.d (.sl (k.map wD))))),(7,.w (.c (.pa 1 1))),(9,.w (.c (.d (.int .i64 ((16+n:Nat):Int)))))],
  hL [(1,.row 1 ((dc b n++List.replicate (48-n) 0).map wD))],uL [1]⟩
def ub (h:List UInt32) (b:List UInt8) (s:bV) (n:Nat):St:=⟨aY [(0,.w (.c (.d (.sl (h.map wD))))),(1,.w (.c (.d (.sl (bp.map wD))))),(7,.w (.c (.pa 1 1))),(12,.w (.c (.d (wD s.a)))),(13,.w (.c (.d (wD s.b)))),(14,.w (.c (.d (wD s.c)))),(15,.w (.c (.d (wD s.d)))),(16,.w (.c (.d (wD s.e)))),(17,.w (.c (.d (wD s.f)))),(18,.w (.c (.d (wD s.g)))),(19,.w (.c (.d (wD s.h)))),(20,.w (.c (.d (.int .i64 (n:Int)))))],
  hL [(1,.row 1 ((dJ b).map wD))],uL [1]⟩
def qV (h:List UInt32) (b:List UInt8) (n:Nat):St:=ub h b ((bV.of h).rounds bp (dJ b) n) n
def vw:aO := .seq (.seq (.reg [oM 23 8,oO 24 (.bin .lss (.t 23) (kI 16))]) (.cond (.t 24) (.skip) (.exit 0))) (.seq (.block 1 (.reg [oM 27 8,oM 28 2,oM 29 8,oO 30 (.bin .mul (kI 4) (.t 29)),oO 31 (.idxSl 1 (.t 28) (.t 30)),oO 32 (.load .sc (.t 31)),oO 33 (.conv .u32 (.t 32)),oO 34 (.bin .shl (.t 33) (.k (.c (.d (.int .u64 24))))),oM 35 2,oM 36 8,oO 37 (.bin .mul (kI 4) (.t 36)),oO 38 (.bin .add (.t 37) (kI 1)),oO 39 (.idxSl 1 (.t 35) (.t 38)),oO 40 (.load .sc (.t 39)),oO 41 (.conv .u32 (.t 40)),oO 42 (.bin .shl (.t 41) (.k (.c (.d (.int .u64 16))))),oO 43 (.bin .or (.t 34) (.t 42)),oM 44 2,oM 45 8,oO 46 (.bin .mul (kI 4) (.t 45)),oO 47 (.bin .add (.t 46) (kI 2)),oO 48 (.idxSl 1 (.t 44) (.t 47)),oO 49 (.load .sc (.t 48)),oO 50 (.conv .u32 (.t 49)),oO 51 (.bin .shl (.t 50) (.k (.c (.d (.int .u64 8))))),
 oO 52 (.bin .or (.t 43) (.t 51)),oM 53 2,oM 54 8,oO 55 (.bin .mul (kI 4) (.t 54)),oO 56 (.bin .add (.t 55) (kI 3)),oO 57 (.idxSl 1 (.t 53) (.t 56)),oO 58 (.load .sc (.t 57)),oO 59 (.conv .u32 (.t 58)),oO 60 (.bin .or (.t 52) (.t 59)),oO 61 (.idxPa 1 64 (.t 7) (.t 27)),oN (.store .sc (.t 61) (.t 60))])) (.reg [oM 25 8,oO 26 (.bin .add (.t 25) (kI 1)),oM 8 26]))
def vx:aO := .seq (.seq (.reg [oM 62 9,oO 63 (.bin .lss (.t 62) (kI 64))]) (.cond (.t 63) (.skip) (.exit 2))) (.seq (.block 3 (.seq (.reg [oM 66 9,oO 67 (.bin .sub (.t 66) (kI 15)),oO 68 (.idxPa 1 64 (.t 7) (.t 67)),oO 69 (.load .sc (.t 68)),oM 70 9,oO 71 (.bin .sub (.t 70) (kI 2)),oO 72 (.idxPa 1 64 (.t 7) (.t 71)),oO 73 (.load .sc (.t 72)),oM 10 69,oM 11 73]) (.reg [oM 74 9,oM 75 11,oO 76 (.call 133 [(.t 75),(kI 17)] none),oM 77 11,oO 78 (.call 133 [(.t 77),(kI 19)] none),oO 79 (.bin .xor (.t 76) (.t 78)),oM 80 11,oO 81 (.bin .shr (.t 80) (.k (.c (.d (.int .u64 10))))),oO 82 (.bin .xor (.t 79) (.t 81)),oM 83 9,oO 84 (.bin .sub (.t 83) (kI 7)),oO 85 (.idxPa 1 64 (.t 7) (.t 84)),oO 86 (.load .sc (.t 85)),oO 87 (.bin .add (.t 82) (.t 86)),oM 88 10,oO 89 (.call 133 [(.t 88),(kI 7)] none),
 oM 90 10,oO 91 (.call 133 [(.t 90),(kI 18)] none),oO 92 (.bin .xor (.t 89) (.t 91)),oM 93 10,oO 94 (.bin .shr (.t 93) (.k (.c (.d (.int .u64 3))))),oO 95 (.bin .xor (.t 92) (.t 94)),oO 96 (.bin .add (.t 87) (.t 95)),oM 97 9,oO 98 (.bin .sub (.t 97) (kI 16)),oO 99 (.idxPa 1 64 (.t 7) (.t 98)),oO 100 (.load .sc (.t 99)),oO 101 (.bin .add (.t 96) (.t 100)),oO 102 (.idxPa 1 64 (.t 7) (.t 74)),oN (.store .sc (.t 102) (.t 101))]))) (.reg [oM 64 9,oO 65 (.bin .add (.t 64) (kI 1)),oM 9 65]))
def vy:aO := .seq (.seq (.reg [oM 127 20,oO 128 (.bin .lss (.t 127) (kI 64))]) (.cond (.t 128) (.skip) (.exit 4))) (.seq (.block 5 (.seq (.reg [oM 131 19,oM 132 16,oO 133 (.call 133 [(.t 132),(kI 6)] none),oM 134 16,oO 135 (.call 133 [(.t 134),(kI 11)] none),oO 136 (.bin .xor (.t 133) (.t 135)),oM 137 16,oO 138 (.call 133 [(.t 137),(kI 25)] none),oO 139 (.bin .xor (.t 136) (.t 138)),oO 140 (.bin .add (.t 131) (.t 139)),oM 141 16,oM 142 17,oO 143 (.bin .and (.t 141) (.t 142)),oM 144 16,oO 145 (.un .xor (.t 144)),oM 146 18,oO 147 (.bin .and (.t 145) (.t 146)),oO 148 (.bin .xor (.t 143) (.t 147)),oO 149 (.bin .add (.t 140) (.t 148)),oM 150 1,oM 151 20,oO 152 (.idxSl 1 (.t 150) (.t 151)),oO 153 (.load .sc (.t 152)),oO 154 (.bin .add (.t 149) (.t 153)),oM 155 20,oO 156 (.idxPa 1 64 (.t 7) (.t 155)),
 oO 157 (.load .sc (.t 156)),oO 158 (.bin .add (.t 154) (.t 157)),oM 21 158]) (.seq (.reg [oM 159 12,oO 160 (.call 133 [(.t 159),(kI 2)] none),oM 161 12,oO 162 (.call 133 [(.t 161),(kI 13)] none),oO 163 (.bin .xor (.t 160) (.t 162)),oM 164 12,oO 165 (.call 133 [(.t 164),(kI 22)] none),oO 166 (.bin .xor (.t 163) (.t 165)),oM 167 12,oM 168 13,oO 169 (.bin .and (.t 167) (.t 168)),oM 170 12,oM 171 14,oO 172 (.bin .and (.t 170) (.t 171)),oO 173 (.bin .xor (.t 169) (.t 172)),oM 174 13,oM 175 14,oO 176 (.bin .and (.t 174) (.t 175)),oO 177 (.bin .xor (.t 173) (.t 176)),oO 178 (.bin .add (.t 166) (.t 177)),oM 22 178]) (.reg [oM 179 21,oM 180 22,oO 181 (.bin .add (.t 179) (.t 180)),oM 182 12,oM 183 13,oM 184 14,oM 185 15,oM 186 21,oO 187 (.bin .add (.t 185) (.t 186)),oM 188 16,oM 189 17,oM 190 18,oM 12 181,
 oM 13 182,oM 14 183,oM 15 184,oM 16 187,oM 17 188,oM 18 189,oM 19 190])))) (.reg [oM 129 20,oO 130 (.bin .add (.t 129) (kI 1)),oM 20 130]))
def CS:aA:=⟨3,232,.seq (.reg [oO 6 (.mv (.k (.c .nil)))]) (.seq (.reg [oO 7 (.allocArr [(.int .u32 0),(.int .u32 0),(.int .u32 0),(.int .u32 0),(.int .u32 0),(.int .u32 0),(.int .u32 0),(.int .u32 0),(.int .u32 0),(.int .u32 0),(.int .u32 0),(.int .u32 0),(.int .u32 0),(.int .u32 0),(.int .u32 0),(.int .u32 0),(.int .u32 0),(.int .u32 0),(.int .u32 0),(.int .u32 0),(.int .u32 0),(.int .u32 0),(.int .u32 0),(.int .u32 0),(.int .u32 0),(.int .u32 0),(.int .u32 0),(.int .u32 0),(.int .u32 0),(.int .u32 0),(.int .u32 0),(.int .u32 0),(.int .u32 0),(.int .u32 0),(.int .u32 0),(.int .u32 0),(.int .u32 0),(.int .u32 0),(.int .u32 0),(.int .u32 0),(.int .u32 0),(.int .u32 0),(.int .u32 0),(.int .u32 0),(.int .u32 0),(.int .u32 0),(.int .u32 0),(.int .u32 0),(.int .u32 0),(.int .u32 0),(.int .u32 0),(.int .u32 0),(.int .u32 0),(.int .u32 0),(.int .u32 0),(.int .u32 0),(.int .u32 0),(.int .u32 0),(.int .u32 0),(.int .u32 0),(.int .u32 0),(.int .u32 0),(.int .u32 0),(.int .u32 0)])])
 (.seq (.seq (.reg [oO 8 (.mv (kI 0))]) (.block 0 (.loop vw))) (.seq (.seq (.reg [oO 9 (.mv (kI 16))]) (.block 2 (.loop vx))) (.seq (.reg [oM 103 0,oO 104 (.idxSl 1 (.t 103) (kI 0)),oO 105 (.load .sc (.t 104)),oM 106 0,oO 107 (.idxSl 1 (.t 106) (kI 1)),oO 108 (.load .sc (.t 107)),oM 109 0,oO 110 (.idxSl 1 (.t 109) (kI 2)),oO 111 (.load .sc (.t 110)),oM 112 0,oO 113 (.idxSl 1 (.t 112) (kI 3)),oO 114 (.load .sc (.t 113)),oM 115 0,oO 116 (.idxSl 1 (.t 115) (kI 4)),oO 117 (.load .sc (.t 116)),oM 118 0,oO 119 (.idxSl 1 (.t 118) (kI 5)),oO 120 (.load .sc (.t 119)),oM 121 0,oO 122 (.idxSl 1 (.t 121) (kI 6)),oO 123 (.load .sc (.t 122)),oM 124 0,oO 125 (.idxSl 1 (.t 124) (kI 7)),oO 126 (.load .sc (.t 125)),oM 12 105,oM 13 108,oM 14 111,oM 15 114,oM 16 117,oM 17 120,oM 18 123,oM 19 126])
 (.seq (.seq (.reg [oO 20 (.mv (kI 0))]) (.block 4 (.loop vy))) (.seq (.reg [oM 191 0,oO 192 (.idxSl 1 (.t 191) (kI 0)),oO 193 (.load .sc (.t 192)),oM 194 12,oO 195 (.bin .add (.t 193) (.t 194)),oM 196 0,oO 197 (.idxSl 1 (.t 196) (kI 1)),oO 198 (.load .sc (.t 197)),oM 199 13,oO 200 (.bin .add (.t 198) (.t 199)),oM 201 0,oO 202 (.idxSl 1 (.t 201) (kI 2)),oO 203 (.load .sc (.t 202)),oM 204 14,oO 205 (.bin .add (.t 203) (.t 204)),oM 206 0,oO 207 (.idxSl 1 (.t 206) (kI 3)),oO 208 (.load .sc (.t 207)),oM 209 15,oO 210 (.bin .add (.t 208) (.t 209)),oM 211 0,oO 212 (.idxSl 1 (.t 211) (kI 4)),oO 213 (.load .sc (.t 212)),oM 214 16,oO 215 (.bin .add (.t 213) (.t 214)),oM 216 0,oO 217 (.idxSl 1 (.t 216) (kI 5)),oO 218 (.load .sc (.t 217)),oM 219 17,oO 220 (.bin .add (.t 218) (.t 219)),oM 221 0,
 oO 222 (.idxSl 1 (.t 221) (kI 6)),oO 223 (.load .sc (.t 222)),oM 224 18,oO 225 (.bin .add (.t 223) (.t 224)),oM 226 0,oO 227 (.idxSl 1 (.t 226) (kI 7)),oO 228 (.load .sc (.t 227)),oM 229 19,oO 230 (.bin .add (.t 228) (.t 229)),oO 231 (.bldSl true 8 1 (.int .u32 0) [(0,(.t 195)),(1,(.t 200)),(2,(.t 205)),(3,(.t 210)),(4,(.t 215)),(5,(.t 220)),(6,(.t 225)),(7,(.t 230))]),oM 6 231]) (.ret))))))),[(6,none)]⟩
theorem OZ:aw Tryz.prog { own:=[231],comp:=[],frz:=[],nils:=[] } Tryz.f119=some CS:=by kernel_rfl
theorem Fq (G:ah) (h:List UInt32) (b:List UInt8) (hh:h.length=8) (hb:b.length=64):aj Tryz.prog G 119 [.sl (h.map wD),.sl (bp.map wD),.sl (b.map bD)] (.w (.c (.fr 1 ((mw h b).map wD)))):=by
  refine aB Tryz.func119 OZ rfl rfl ?_;have hsl:(dJ b).length=64:=nu b 48;have hcl:bp.length=64:=Bw;simp only[CS,af,wx,aa,seval,iteOmega,toNatUp];refine bf (zE h bp b) (fun t=>16-t) (fun t=>t≤16) 0 (Yd _) ?_ ?_
  ·refine aD (fun _=>56) ?_ ?_ rfl rfl <;> simp only[wx,aC,aa,seval,iteOmega,toNatUp];rfl
  ·intro t ht;by_cases hlt:t<16
   ·have e0:IntKind.i64.wrap (4*(t:Int))=((4*t:Nat):Int):=by rw[IntWalk.i64_in _ (by omega)]; omega
    have e1:IntKind.i64.wrap (((4*t:Nat):Int)+1)=((4*t+1:Nat):Int):=by rw[IntWalk.i64_in _ (by omega)]; omega
    have e2:IntKind.i64.wrap (((4*t:Nat):Int)+2)=((4*t+2:Nat):Int):=by rw[IntWalk.i64_in _ (by omega)]; omega
    have e3:IntKind.i64.wrap (((4*t:Nat):Int)+3)=((4*t+3:Nat):Int):=by rw[IntWalk.i64_in _ (by omega)]; omega
    have e4:IntKind.i64.wrap ((t:Int)+1)=((t+1:Nat):Int):=by rw[IntWalk.i64_in _ (by omega)]; omega
    have g:∀ k,k<64→(b.map bD)[k]?=some (bD (b.getD k 0)):=fun k hk=>by rw[aL,NE (by omega)]; rfl
    have g0:=g (4*t) (by omega);have g1:=g (4*t+1) (by omega);have g2:=g (4*t+2) (by omega);have g3:=g (4*t+3) (by omega);have h1:t<(fL b t++List.replicate (64-t) 0).length:=by rw[X5,pz,Yt]; omega
    have h2:=pQ (fL b t) 0 (ke b t) (64-t) (by omega);rw[pz] at h2;have h3:fL b t++[ke b t]=fL b (t+1):=by simp[fL,ZE]
    have h4:64-t-1=64-(t+1):=by omega
    rw[h3,h4] at h2;simp only[ke] at h2;have m24:min (24:Int).toNat 32=24:=by decide
    have m16:min (16:Int).toNat 32=16:=by decide
    have m8:min (8:Int).toNat 32=8:=by decide
    simp only[vw,zE,wx,aa,seval,iteOmega,toNatUp,e0,e1,e2,e3,e4,g0,g1,g2,g3,YT,te h1 (oz _),tg,h2];refine a6 (t+1) (by omega) (by omega) (aD id ?_ ?_ rfl rfl) <;> simp only[wx,aC,aa,seval,iteOmega,toNatUp]
   ·obtain rfl:t=16:=by omega
    simp only[vw,zE,wx,aa,seval,iteOmega,toNatUp];refine bf (zF h bp b) (fun n=>48-n) (fun n=>n≤48) 0 (Yd _) ?_ ?_
    ·have h0:fL b 16=dc b 0:=rfl;refine aD id ?_ ?_ rfl rfl <;> simp only[wx,aC,aa,seval,iteOmega,toNatUp,h0]
    ·intro n hn;by_cases hlt:n<48
     ·have hl:=nu b n;have w1:∀ k:Nat,k≤16→IntKind.i64.wrap (((16+n:Nat):Int)-(k:Int))=((16+n-k:Nat):Int):=fun k hk=>by rw[IntWalk.i64_in _ (by omega)]; omega
      have e15:IntKind.i64.wrap (((16+n:Nat):Int)-15)=((16+n-15:Nat):Int):=w1 15 (by decide);have e2:IntKind.i64.wrap (((16+n:Nat):Int)-2)=((16+n-2:Nat):Int):=w1 2 (by decide);have e7:IntKind.i64.wrap (((16+n:Nat):Int)-7)=((16+n-7:Nat):Int):=w1 7 (by decide);have e16:IntKind.i64.wrap (((16+n:Nat):Int)-16)=((16+n-16:Nat):Int):=w1 16 (by decide);have e0:IntKind.i64.wrap (((16+n:Nat):Int)+1)=((16+(n+1):Nat):Int):=by rw[IntWalk.i64_in _ (by omega)]; omega
      have g:∀ k,k<16+n→((dc b n++List.replicate (48-n) 0).map wD)[k]?=some (wD ((dc b n).getD k 0)):=fun k hk=>by
        rw[YX,JX (by omega)]; rfl
      have g15:=g (16+n-15) (by omega);have g2:=g (16+n-2) (by omega);have g7:=g (16+n-7) (by omega);have g16:=g (16+n-16) (by omega);simp only[vx,zF,wx,aa,seval,iteOmega,toNatUp,e15,e2,e7,e16,e0,g15,g2,g7,g16];refine a8 (ju G _ 17 (by decide) (by decide)) rfl (.inr rfl) ?_;simp only[wx,aa,seval,iteOmega,toNatUp];refine a8 (ju G _ 19 (by decide) (by decide)) rfl (.inr rfl) ?_;simp only[wx,aa,seval,iteOmega,toNatUp,e15,e2,e7,e16,e0,g15,g2,g7,g16];refine a8 (ju G _ 7 (by decide) (by decide)) rfl (.inr rfl) ?_;simp only[wx,aa,seval,iteOmega,toNatUp];refine a8 (ju G _ 18 (by decide) (by decide)) rfl (.inr rfl) ?_;have h1:16+n<(dc b n++List.replicate (48-n) 0).length:=by rw[X5,hl,Yt]; omega
      have h2:=pQ (dc b n) 0 (mK (dc b n) (16+n)) (48-n) (by omega);rw[hl] at h2;have h4:48-n-1=48-(n+1):=by omega
      have h3:dc b n++[mK (dc b n) (16+n)]=dc b (n+1):=rfl;rw[h3,h4] at h2;simp only[mK,yJ,yK] at h2;simp only[wx,aa,seval,iteOmega,toNatUp,e15,e2,e7,e16,e0,g15,g2,g7,g16,te h1 (oz _),tg,h2];refine a6 (n+1) (by omega) (by omega) (aD id ?_ ?_ rfl rfl) <;> simp only[wx,aC,aa,seval,iteOmega,toNatUp]
     ·have hn48:n=48:=by omega
      have h0:48-n=0:=by omega
      obtain⟨h0',h1,h2,h3,h4,h5,h6,h7,rfl⟩:=eight hh;simp only[vx,zF,wx,aa,seval,iteOmega,toNatUp,h0,Ym,Zm,← Fl b n hn48];refine bf (qV [h0',h1,h2,h3,h4,h5,h6,h7] b) (fun n=>64-n) (fun n=>n≤64) 0 (Yd _) ?_ ?_
      ·refine aD id ?_ ?_ rfl rfl <;> simp only[qV,ub,wx,aC,aa,seval,iteOmega,toNatUp];exact⟨rfl,rfl,rfl,rfl,rfl,rfl,rfl,rfl⟩
      ·clear hn hlt hn48 h0;intro n hn;by_cases hlt:n<64
       ·have e1:IntKind.i64.wrap ((n:Int)+1)=((n+1:Nat):Int):=by rw[IntWalk.i64_in _ (by omega)]; rfl
        have g1:(bp.map wD)[n]?=some (wD (bp.getD n 0)):=by rw[aL,getD_some (by omega)]; rfl
        have g2:((dJ b).map wD)[n]?=some (wD ((dJ b).getD n 0)):=by rw[aL,getD_some (by omega)]; rfl
        have hr:(bV.of [h0',h1,h2,h3,h4,h5,h6,h7]).rounds bp (dJ b) (n+1)=((bV.of [h0',h1,h2,h3,h4,h5,h6,h7]).rounds bp (dJ b) n).step (bp.getD n 0) ((dJ b).getD n 0):=rfl;generalize hs:(bV.of [h0',h1,h2,h3,h4,h5,h6,h7]).rounds bp (dJ b) n=s at hr;simp only[vy,qV,ub,hs,wx,aa,seval,iteOmega,toNatUp,hcl,hsl,g1,g2,e1];refine a8 (ju G _ 6 (by decide) (by decide)) rfl (.inr rfl) ?_;simp only[wx,aa,seval,iteOmega,toNatUp];refine a8 (ju G _ 11 (by decide) (by decide)) rfl (.inr rfl) ?_;simp only[wx,aa,seval,iteOmega,toNatUp];refine a8 (ju G _ 25 (by decide) (by decide)) rfl (.inr rfl) ?_;simp only[wx,aa,seval,iteOmega,toNatUp,g1,g2,hcl,hsl];refine a8 (ju G _ 2 (by decide) (by decide)) rfl (.inr rfl) ?_;simp only[wx,aa,seval,iteOmega,toNatUp];refine a8 (ju G _ 13 (by decide) (by decide)) rfl (.inr rfl) ?_;simp only[wx,aa,seval,iteOmega,toNatUp];refine a8 (ju G _ 22 (by decide) (by decide)) rfl (.inr rfl) ?_;simp only[wx,aa,seval,iteOmega,toNatUp,e1];refine a6 (n+1) (by omega) (by omega) ?_;rw[qV,hr];refine (aD id ?_ ?_ rfl rfl) <;> simp only[wx,aC,aa,seval,iteOmega,toNatUp,JY,JZ,J0,J1,J2,J3,J4,J5];exact⟨rfl,rfl⟩
       ·obtain rfl:n=64:=by omega
        have hK:mw [h0',h1,h2,h3,h4,h5,h6,h7] b=((bV.of [h0',h1,h2,h3,h4,h5,h6,h7]).rounds bp (dJ b) 64).sum [h0',h1,h2,h3,h4,h5,h6,h7]:=rfl;rw[hK];simp only[qV];generalize (bV.of [h0',h1,h2,h3,h4,h5,h6,h7]).rounds bp (dJ b) 64=s;have e8:s.sum [h0',h1,h2,h3,h4,h5,h6,h7]=[bH h0' s.a,bH h1 s.b,bH h2 s.c,bH h3 s.d,bH h4 s.e,bH h5 s.f,bH h6 s.g,bH h7 s.h]:=rfl;simp only[vy,ub,e8,wx,aa,seval,iteOmega,toNatUp];exact eV (id:=1848) (n:=8) (s:=1) (by simp only[wx,aa,seval,iteOmega,toNatUp]) (by simp only[wx,aa,seval,iteOmega,toNatUp] <;> rfl) rfl
def dt (h:List UInt32) (b:List UInt8):Nat→List UInt32
  | 0=>h
  | n+1=>mw (dt h b n) ((b.drop (64*n)).take 64)
theorem ma {h:List UInt32} (hh:h.length=8) (b:List UInt8):∀ n,(dt h b n).length=8
  | 0=>hh
  | n+1=>Bz _ _
def fa (rest:List UInt8) (count:Nat):List UInt8:=rest++[128]++List.replicate ((119-rest.length)%64) 0++aP (count*8) 8
def fO (ws:List UInt32):List UInt8:=ws.flatMap fun w=>aP w.toNat 4
def jI (s:List UInt32) (rest:List UInt8) (count:Nat):List UInt8:=fO (dt s (fa rest count) ((fa rest count).length / 64))
def bW (b:List UInt8):List UInt8:=jI (dt cQ b (b.length / 64)) (b.drop (64*(b.length / 64))) b.length
theorem ry:∀ ws:List UInt32,(fO ws).length=4*ws.length
  | []=>rfl
  | w::ws=>by
    have:fO (w::ws)=aP w.toNat 4++fO ws:=rfl;rw[this,X5,bN,ry ws,YZ]; omega
theorem QO {s:List UInt32} (hs:s.length=8) (rest:List UInt8) (count:Nat):(jI s rest count).length=32:=by
  unfold jI;rw[ry,ma hs]
theorem fY (b:List UInt8):(bW b).length=32:=QO (ma pB _ _) _ _
theorem O0 (n:Nat):aP 0 n=List.replicate n 0:=by
  unfold aP;apply Y7;intro i;simp only[YX,List.getElem?_replicate,ZK];by_cases h:i<n
  ·simp[h,ZK]
  ·simp[h,ZK]
theorem Fs (rest:List UInt8) (count:Nat) (h:rest.length<64):(fa rest count).length=rest.length+9+(119-rest.length)%64∧(fa rest count).length%64=0:=by
  have:(fa rest count).length=rest.length+9+(119-rest.length)%64:=by simp[fa,bN]; omega
  exact⟨this,by omega⟩
theorem Ba (ws:List UInt32) (k:Nat) (h:k<ws.length):fO (ws.take k)++aP (ws.getD k 0).toNat 4=fO (ws.take (k+1)):=by
  rw[Y5 h];unfold fO;rw[Zl];simp[h]
theorem O1 {ws:List UInt32} {k:Nat} (h:k<ws.length):((ws.map wD).map C.d)[k]?=some (.d (wD (ws.getD k 0))):=by
  simp[h]
theorem MK (b:List UInt8) (n:Nat):(b.drop (64*n)).drop 64=b.drop (64*(n+1)):=by rw[List.drop_drop,Nat.mul_succ]
def uc (s:List UInt32) (b:List UInt8) (n:Nat):St:=⟨aY [(1,.w (.c (.d (.sl ((b.drop (64*n)).map bD))))),(2,.w (.c (.pa 1 1))),(4,.w (.c (.pa 2 1))),(5,.w (.c .nil))],hL [(1,.row 1 ((dt s b n).map wD)),(2,.row 1 ((List.replicate 8 (0:UInt32)).map wD))],uL [1,2]⟩
def vz:aO := .seq (.seq (.reg [oM 6 1,oO 7 (.len (.t 6)),oO 8 (.bin .geq (.t 7) (kI 64))]) (.cond (.t 8) (.skip) (.exit 0))) (.block 1 (.seq (.reg [oO 9 (.load (.ag 8) (.t 2)),oM 10 1,oO 11 (.slice 1 (.t 10) none (some (kI 64)) none),oO 12 (.call 173 [(.t 9),(.t 11)] none),oN (.store (.ag 8) (.t 2) (.t 12))]) (.reg [oM 13 1,oO 14 (.slice 1 (.t 13) (some (kI 64)) none none),oM 1 14])))
def CU:aA:=⟨2,17,.seq (.reg [oO 2 (.box .ownArr (.t 0)),oO 4 (.allocArr [(.int .u32 0),(.int .u32 0),(.int .u32 0),(.int .u32 0),(.int .u32 0),(.int .u32 0),(.int .u32 0),(.int .u32 0)]),oO 5 (.mv (.k (.c .nil)))]) (.seq (.block 0 (.loop vz)) (.seq (.reg [oO 15 (.load (.ag 8) (.t 2)),oM 16 1,oN (.store (.ag 8) (.t 4) (.t 15)),oM 5 16]) (.ret))),[(4,(some (.ag 8))),(5,none)]⟩
theorem O2:aw Tryz.prog { own:=[2],comp:=[],frz:=[],nils:=[] } Tryz.f155=some CU:=by kernel_rfl
theorem Ft (G:ah) (hG:G.at 1=some (.ra (bp.map wD))) (s:List UInt32) (b:List UInt8) (hs:s.length=8) (hb:b.length≤140737488355328):aj Tryz.prog G 155 [.agg (s.map wD),.sl (b.map bD)] (.tup [.c (.d (.agg ((dt s b (b.length / 64)).map wD))),.c (.d (.sl ((b.drop (64*(b.length / 64))).map bD)))]):=by
  refine aB Tryz.func155 O2 rfl rfl ?_;simp only[CU,af,wx,aa,seval,iteOmega,toNatUp];refine bf (uc s b) (fun n=>b.length / 64-n) (fun n=>n≤b.length / 64) 0 (Yd _) ?_ ?_
  ·refine aD (fun i=>match i with | 1=>16 | _=>32) ?_ ?_ rfl rfl <;> simp only[wx,aC,aa,seval,iteOmega,toNatUp,uc,dt];rfl
  ·intro n hn;have hl:=ma hs b n;by_cases hlt:n<b.length / 64
   ·have h1:(64:Int)≤((b.drop (64*n)).length:Int):=by rw[Yg]; omega
    have h2:((b.drop (64*n)).take 64).length=64:=by rw[Yb,Yg]; omega
    have e1:=MK b n;simp only[vz,uc,wx,aa,seval,iteOmega,toNatUp,hl,h1];refine a8 (SO G hG (dt s b n) ((b.drop (64*n)).take 64) hl h2) rfl (.inl rfl) ?_;have e2:(mw (dt s b n) ((b.drop (64*n)).take 64)).length=8:=Bz _ _;have e3:(b.drop (64*n)).length-64=((b.drop (64*(n+1)))).length:=by rw[Yg,Yg]; omega
    simp only[wx,aa,seval,iteOmega,toNatUp,hl,e2,e1,e3];refine a6 (n+1) (by omega) (by omega) (aD id ?_ ?_ rfl rfl) <;> simp only[wx,aC,aa,seval,iteOmega,toNatUp,dt]
   ·obtain rfl:n=b.length / 64:=by omega
    have h1:¬ (64:Int)≤((b.drop (64*(b.length / 64))).length:Int):=by rw[Yg]; omega
    simp only[vz,uc,wx,aa,seval,iteOmega,toNatUp,hl,h1];exact ja (by simp only[wx,aa,seval,iteOmega,toNatUp,hl]) (by simp only[wx,aa,seval,iteOmega,toNatUp])
def zG (ws:List UInt32) (k:Nat):St:=⟨aY [(9,.w (.c (.own 1 1 0 (fO (ws.take k)).length))),(36,.w (.c (.d (.agg (ws.map wD))))),(37,.w (.c (.d (.int .i64 (k:Int)))))],hL [(1,.row 1 ((fO (ws.take k)).map bD))],uL [1]⟩
def w7:aO := .seq (.reg [oO 38 (.bin .lss (.t 37) (kI 8))]) (.seq (.cond (.t 38) (.skip) (.exit 0)) (.seq (.block 1 (.seq (.reg [oO 39 (.idxArr 1 8 .sc (.t 36) (.t 37)),oM 11 39]) (.reg [oM 40 9,oM 41 11,oO 42 (.conv .u64 (.t 41)),oO 43 (.call 91 [(.t 42),(kI 4)] none),oO 44 (.app false 1 1 (.t 40) (.t 43)),oM 9 44]))) (.reg [oO 45 (.bin .add (.t 37) (kI 1)),oM 37 45])))
def J6:aA:=⟨3,47,.seq (.reg [oO 3 (.box .ownArr (.t 0)),oO 6 (.mv (.k (.c .nil)))]) (.seq (.reg [oO 12 (.bldSl false 1 1 (.int .u8 0) [(0,(.k (.c (.d (.int .u8 128)))))]),oM 7 12]) (.seq (.reg [oM 13 7,oO 14 (.len (.t 13)),oO 15 (.bin .sub (kI 120) (.t 14)),oM 16 1,oO 17 (.len (.t 16)),oO 18 (.bin .sub (.t 15) (.t 17)),oO 19 (.bin .rem (.t 18) (kI 64)),oM 8 19]) (.seq (.reg [oO 21 (.load (.ag 8) (.t 3)),oM 22 1,oM 23 7,oM 24 8,oO 25 (.call 91 [(.k (.c (.d (.int .u64 0)))),(.t 24)] none),oM 26 2,oO 27 (.conv .u64 (.t 26)),oO 28 (.bin .mul (.t 27) (.k (.c (.d (.int .u64 8))))),oO 29 (.call 91 [(.t 28),(kI 8)] none),oO 30 (.bldSl false 4 1 (.sl []) [(0,(.t 22)),(1,(.t 23)),(2,(.t 25)),(3,(.t 29))]),oO 31 (.call 90 [(.t 30)] none),oO 32 (.call 155 [(.t 21),(.t 31)] none),oM 20 32,oO 33 (.extract (.t 20) 0),
 oO 34 (.extract (.t 20) 1),oN (.store (.ag 8) (.t 3) (.t 33))]) (.seq (.reg [oO 35 (.make true 1 1 (.int .u8 0) (kI 0) (kI 32)),oM 9 35]) (.seq (.seq (.reg [oO 36 (.load (.ag 8) (.t 3)),oO 37 (.mv (kI 0))]) (.block 0 (.loop w7))) (.seq (.reg [oM 46 9,oM 6 46]) (.ret))))))),[(6,none)]⟩
theorem U3:aw Tryz.prog { own:=[3],comp:=[],frz:=[],nils:=[] } Tryz.f156=some J6:=by kernel_rfl
theorem Xe (G:ah) (hG:G.at 1=some (.ra (bp.map wD))) (s:List UInt32) (rest:List UInt8) (count:Nat) (hs:s.length=8) (hr:rest.length<64) (hc:count≤140737488355328):aj Tryz.prog G 156 [.agg (s.map wD),.sl (rest.map bD),.int .i64 (count:Int)] (.w (.c (.fr 1 ((jI s rest count).map bD)))):=by
  refine aB Tryz.func156 U3 rfl rfl ?_;have e3:(119-(rest.length:Int)).tmod 64=(((119-rest.length)%64:Nat):Int):=by
    rw[show (119-(rest.length:Int))=((119-rest.length:Nat):Int) by omega]; rfl
  simp only[J6,af,ae,aa,seval,iteOmega,toNatUp,hs,e3];have hz:(119-rest.length)%64≤64:=by omega
  refine a8 (lu G 0 ((119-rest.length)%64) hz) rfl (.inl rfl) ?_;simp only[ae,aa,seval,iteOmega,toNatUp];refine a8 (lu G (count*8) 8 (by decide)) ?_ (.inl rfl) ?_
  ·simp only[ae,aa,seval,iteOmega,toNatUp]
  obtain⟨hp1,hp2⟩:=Fs rest count hr;have hp:[rest,[128],aP 0 ((119-rest.length)%64),aP (count*8) 8].flatten=fa rest count:=by
    rw[O0]; simp[fa]
  have hj:=dU G [rest,[128],aP 0 ((119-rest.length)%64),aP (count*8) 8] (by simp) (by rw[hp,hp1]; omega);rw[hp] at hj;simp only[ae,aa,seval,iteOmega,toNatUp];refine a8 hj rfl (.inl rfl) ?_;simp only[ae,aa,seval,iteOmega,toNatUp];refine a8 (Ft G hG s (fa rest count) hs (by rw[hp1]; omega)) rfl (.inl rfl) ?_;have hw:(dt s (fa rest count) ((fa rest count).length / 64)).length=8:=ma hs _ _;have hf:jI s rest count=fO (dt s (fa rest count) ((fa rest count).length / 64)):=rfl;rw[hf];generalize dt s (fa rest count) ((fa rest count).length / 64)=ws at hw;simp only[ae,aa,seval,iteOmega,toNatUp,hs,hw];refine bf (zG ws) (fun k=>8-k) (fun k=>k≤8) 0 (Yd _) ?_ ?_
  ·refine aD (fun _=>280) ?_ ?_ rfl rfl <;> simp only[wx,aC,aK,aa,seval,iteOmega,toNatUp,fO]
  ·intro k hk;by_cases hlt:k<8
   ·have hw1:(ws.getD k 0).toNat<4294967296:=word_lt _;have hwl:=ry (ws.take k);rw[Yb] at hwl;simp only[w7,zG,ae,aa,seval,iteOmega,toNatUp,O1 (show k<ws.length by omega)];refine a8 (lu G (ws.getD k 0).toNat 4 (by decide)) ?_ (.inl rfl) ?_
    ·simp only[ae,aa,seval,iteOmega,toNatUp]
    simp only[ae,aa,seval,iteOmega,toNatUp,bK,Ba ws k (by omega),bN];refine a6 (k+1) (by omega) (by omega) (aD (fun _=>352) ?_ ?_ rfl rfl) <;> simp only[wx,aC,aK,aa,seval,iteOmega,toNatUp]
   ·obtain rfl:k=8:=by omega
    have:ws.take 8=ws:=X7 (by omega);simp only[w7,zG,ae,aa,seval,iteOmega,toNatUp,this];exact eV (id:=1) (n:=(fO ws).length) (s:=1) (by simp only[wx,aa,seval,iteOmega,toNatUp]) (by simp only[wx,aa,seval,iteOmega,toNatUp]) (by rw[Yc])
def J7:aA:=⟨1,16,.seq (.reg [oO 2 (.mv (.k (.c .nil)))]) (.seq (.reg [oO 6 (.load (.ag 8) (.g 0)),oM 7 0,oO 8 (.call 155 [(.t 6),(.t 7)] none),oM 5 8,oO 9 (.extract (.t 5) 0),oO 10 (.extract (.t 5) 1),oO 3 (.allocArr [(.int .u32 0),(.int .u32 0),(.int .u32 0),(.int .u32 0),(.int .u32 0),(.int .u32 0),(.int .u32 0),(.int .u32 0)]),oN (.store (.ag 8) (.t 3) (.t 9)),oM 4 10]) (.seq (.reg [oO 11 (.load (.ag 8) (.t 3)),oM 12 4,oM 13 0,oO 14 (.len (.t 13)),oO 15 (.call 156 [(.t 11),(.t 12),(.t 14)] (some (0,1))),oM 2 15]) (.ret))),[(2,none)]⟩
theorem U4:aw Tryz.prog { own:=[15],comp:=[],frz:=[],nils:=[] } Tryz.f141=some J7:=by kernel_rfl
theorem ud (G:ah) (hF:G.at 0=some (.ra (cQ.map wD))) (hG:G.at 1=some (.ra (bp.map wD))) (b:List UInt8) (hb:b.length≤140737488355328):aj Tryz.prog G 141 [.sl (b.map bD)] (.w (.c (.fr 1 ((bW b).map bD)))):=by
  refine aB Tryz.func141 U4 rfl rfl ?_;have eg:=@Mm G 0 _ hF;have hl:(dt cQ b (b.length / 64)).length=8:=ma pB _ _;have h8:cQ.length=8:=pB;simp only[J7,af,ae,aa,seval,iteOmega,toNatUp,eg,h8];refine a8 (Ft G hG cQ b pB hb) rfl (.inl rfl) ?_;simp only[ae,aa,seval,iteOmega,toNatUp,hl];refine a8 (Xe G hG _ (b.drop (64*(b.length / 64))) b.length hl (by rw[Yg]; omega) hb) ?_ (.inl rfl) ?_
  ·simp only[ae,aa,seval,iteOmega,toNatUp]
  simp only[ae,aa,seval,iteOmega,toNatUp];exact eV (id:=120) (n:=(jI (dt cQ b (b.length / 64)) (b.drop (64*(b.length / 64))) b.length).length) (s:=1) (by simp only[wx,aa,seval,iteOmega,toNatUp]) (by simp only[wx,aa,seval,iteOmega,toNatUp] <;> rfl) (by rw[Yc]; rfl)
theorem QP {α:Type} (a:α) (j:Nat):List.replicate j a++[a]=List.replicate (j+1) a:=by rw[List.replicate_succ']
def zH (h:List UInt32) (rest:List UInt8) (count:Nat) (j:Nat):St:=⟨aY [(0,.w (.c (.d (.sl (h.map wD))))),(2,.w (.c (.d (.int .i64 (count:Int))))),(7,.w (.c (.d (.sl (bp.map wD))))),(8,.w (.c (.own 1 1 0 (rest++[128]++List.replicate j 0).length)))],hL [(1,.row 1 ((rest++[128]++List.replicate j 0).map bD))],uL [1]⟩
def zI (h:List UInt32) (p:List UInt8) (n:Nat):St:=⟨aY [(0,.w (.c (.d (.sl ((dt h p n).map wD))))),(7,.w (.c (.d (.sl (bp.map wD))))),(8,.w (.c (.own 1 1 0 p.length))),(9,.w (.c (.d (.int .i64 ((64*n:Nat):Int)))))],hL [(1,.row 1 (p.map bD))],uL [1]⟩
def zJ (ws:List UInt32) (k:Nat):St:=⟨aY [(0,.w (.c (.d (.sl (ws.map wD))))),(10,.w (.c (.own 1 1 0 (fO (ws.take k)).length))),(11,.w (.c (.d (.int .i64 (k:Int)))))],hL [(1,.row 1 ((fO (ws.take k)).map bD))],uL [1]⟩
theorem U5 {ws:List UInt32} {k:Nat} (h:k<ws.length):(ws.map wD)[k]?=some (wD (ws.getD k 0)):=by
  simp[h]
theorem Xf:D.int .u8 0=bD 0:=rfl
theorem SP:D.int .u8 128=bD 128:=rfl
theorem Lv (l:List UInt8) (a:UInt8):l.map bD++[bD a]=(l++[a]).map bD:=by simp
def wg:aO := .seq (.seq (.reg [oM 18 8,oO 19 (.len (.t 18)),oO 20 (.bin .rem (.t 19) (kI 64)),oO 21 (.bin .neq (.t 20) (kI 56))]) (.cond (.t 21) (.skip) (.exit 0))) (.block 1 (.reg [oM 22 8,oO 23 (.bldSl false 1 1 (.int .u8 0) [(0,(.k (.c (.d (.int .u8 0)))))]),oO 24 (.app false 1 1 (.t 22) (.t 23)),oM 8 24]))
def wh:aO := .seq (.seq (.reg [oM 31 9,oM 32 8,oO 33 (.len (.t 32)),oO 34 (.bin .lss (.t 31) (.t 33))]) (.cond (.t 34) (.skip) (.exit 2))) (.seq (.block 3 (.reg [oM 37 0,oM 38 7,oM 39 8,oM 40 9,oM 41 9,oO 42 (.bin .add (.t 41) (kI 64)),oO 43 (.slice 1 (.t 39) (some (.t 40)) (some (.t 42)) none),oO 44 (.call 119 [(.t 37),(.t 38),(.t 43)] none),oM 0 44])) (.reg [oM 35 9,oO 36 (.bin .add (.t 35) (kI 64)),oM 9 36]))
def wi:aO := .seq (.seq (.reg [oM 46 11,oO 47 (.bin .lss (.t 46) (kI 8))]) (.cond (.t 47) (.skip) (.exit 4))) (.seq (.block 5 (.reg [oM 50 10,oM 51 0,oM 52 11,oO 53 (.idxSl 1 (.t 51) (.t 52)),oO 54 (.load .sc (.t 53)),oO 55 (.conv .u64 (.t 54)),oO 56 (.call 44 [(.t 55),(kI 4)] none),oO 57 (.app false 1 1 (.t 50) (.t 56)),oM 10 57])) (.reg [oM 48 11,oO 49 (.bin .add (.t 48) (kI 1)),oM 11 49]))
def HE:aA:=⟨3,59,.seq (.reg [oO 6 (.mv (.k (.c .nil)))]) (.seq (.reg [oO 12 (.call 118 [] none),oM 7 12]) (.seq (.reg [oM 13 1,oO 14 (.bldSl false 1 1 (.sl []) [(0,(.t 13))]),oO 15 (.call 43 [(.t 14)] (some (0,1))),oO 16 (.bldSl false 1 1 (.int .u8 0) [(0,(.k (.c (.d (.int .u8 128)))))]),oO 17 (.app false 1 1 (.t 15) (.t 16)),oM 8 17]) (.seq (.block 0 (.loop wg)) (.seq (.reg [oM 25 8,oM 26 2,oO 27 (.conv .u64 (.t 26)),oO 28 (.bin .mul (.t 27) (.k (.c (.d (.int .u64 8))))),oO 29 (.call 44 [(.t 28),(kI 8)] none),oO 30 (.app false 1 1 (.t 25) (.t 29)),oM 8 30]) (.seq (.seq (.reg [oO 9 (.mv (kI 0))]) (.block 2 (.loop wh))) (.seq (.reg [oO 45 (.bldSl true 0 1 (.int .u8 0) []),oM 10 45]) (.seq (.seq (.reg [oO 11 (.mv (kI 0))]) (.block 4 (.loop wi))) (.seq (.reg [oM 58 10,
 oM 6 58]) (.ret))))))))),[(6,none)]⟩
theorem SQ:aw Tryz.prog { own:=[15,45],comp:=[],frz:=[],nils:=[] } Tryz.f120=some HE:=by kernel_rfl
theorem U6 (G:ah) (s:List UInt32) (rest:List UInt8) (count:Nat) (hs:s.length=8) (hr:rest.length<64) (hc:count≤140737488355328):aj Tryz.prog G 120 [.sl (s.map wD),.sl (rest.map bD),.int .i64 (count:Int)] (.w (.c (.fr 1 ((jI s rest count).map bD)))):=by
  refine aB Tryz.func120 SQ rfl rfl ?_;have hj:=mg G [rest] (by simp) (by simp; omega);have hf:[rest].flatten=rest:=by simp
  rw[hf] at hj;obtain⟨hp1,hp2⟩:=Fs rest count hr;simp only[HE,af,ae,aa,seval,iteOmega,toNatUp];refine a8 (JW G) rfl (.inl rfl) ?_;simp only[ae,aa,seval,iteOmega,toNatUp];refine a8 hj rfl (.inl rfl) ?_;simp only[ae,aa,seval,iteOmega,toNatUp,bK,SP,Lv];refine bf (zH s rest count) (fun j=>(119-rest.length)%64-j) (fun j=>j≤(119-rest.length)%64) 0 (Yd _) ?_ ?_
  ·refine aD (fun _=>136) ?_ ?_ rfl rfl <;> simp only[wx,aC,aK,aa,seval,iteOmega,toNatUp]
  ·intro j hj;have hl:(rest++[128]++List.replicate j 0).length=rest.length+1+j:=by simp; omega
   have ht:((rest++[128]++List.replicate j 0).length:Int).tmod 64=(((rest.length+1+j)%64:Nat):Int):=by rw[hl]; rfl
   by_cases hlt:j<(119-rest.length)%64
   ·have e1:rest++[128]++List.replicate j 0++[0]=rest++[128]++List.replicate (j+1) 0:=by
      rw[Yy,QP]
    generalize hx:rest++[128]++List.replicate j 0=x at *
    simp only[wg,zH,hx,ae,aa,seval,iteOmega,toNatUp,ht,bK,Xf,Lv,e1];refine a6 (j+1) (by omega) (by omega) (aD (fun _=>192) ?_ ?_ rfl rfl) <;> simp only[wx,aC,aK,aa,seval,iteOmega,toNatUp]
   ·obtain rfl:j=(119-rest.length)%64:=by omega
    generalize hx:rest++[128]++List.replicate ((119-rest.length)%64) 0=x at *
    simp only[wg,zH,hx,ae,aa,seval,iteOmega,toNatUp,ht];refine a8 (p7 G (count*8) 8 (by decide)) ?_ (.inl rfl) ?_
    ·simp only[ae,aa,seval,iteOmega,toNatUp]
    have hx2:x++aP (count*8) 8=fa rest count:=by rw[← hx]; rfl
    simp only[ae,aa,seval,iteOmega,toNatUp,bK,j6,hx2,bN];refine bf (zI s (fa rest count)) (fun n=>(fa rest count).length / 64-n) (fun n=>n≤(fa rest count).length / 64) 0 (Yd _) ?_ ?_
    ·refine aD (fun _=>240) ?_ ?_ rfl rfl <;> simp only[wx,aC,aK,aa,seval,iteOmega,toNatUp,dt]
    ·generalize hpk:fa rest count=p at *
     intro n hn;have hl8:=ma hs p n;by_cases hlt:n<p.length / 64
     ·have h2:((p.drop (64*n)).take 64).length=64:=by rw[Yb,Yg]; omega
      have e1:64*n+64-64*n=64:=by omega
      simp only[wh,zI,ae,aa,seval,iteOmega,toNatUp];refine a8 (Fq G (dt s p n) ((p.drop (64*n)).take 64) hl8 h2) ?_ (.inr (XQ _ _)) ?_
      ·simp only[ae,aa,seval,iteOmega,toNatUp,dd,e1]
      simp only[ae,aa,seval,iteOmega,toNatUp];have e2:64*(n:Int)+64=64*((n:Int)+1):=by omega
      refine a6 (n+1) (by omega) (by omega) (aD id ?_ ?_ rfl rfl) <;> simp only[wx,aC,aK,aa,seval,iteOmega,toNatUp,dt,e2]
     ·obtain rfl:n=p.length / 64:=by omega
      have hfk:jI s rest count=fO (dt s p (p.length / 64)):=by unfold jI; rw[hpk]
      rw[hfk];simp only[zI];generalize dt s p (p.length / 64)=ws at hl8;have h64:¬ ((64*(p.length / 64):Nat):Int)<(p.length:Int):=by omega
      simp only[wh,ae,aa,seval,iteOmega,toNatUp,h64];refine bf (zJ ws) (fun k=>8-k) (fun k=>k≤8) 0 (Yd _) ?_ ?_
      ·refine aD (fun _=>360) ?_ ?_ rfl rfl <;> simp only[wx,aC,aK,aa,seval,iteOmega,toNatUp,fO]
      ·intro k hk;by_cases hlt:k<8
       ·have hw1:(ws.getD k 0).toNat<4294967296:=word_lt _;have hwl:=ry (ws.take k);rw[Yb] at hwl;simp only[wi,zJ,ae,aa,seval,iteOmega,toNatUp,U5 (show k<ws.length by omega)];refine a8 (p7 G (ws.getD k 0).toNat 4 (by decide)) ?_ (.inl rfl) ?_
        ·simp only[ae,aa,seval,iteOmega,toNatUp]
        simp only[ae,aa,seval,iteOmega,toNatUp,bK,Ba ws k (by omega),bN];refine a6 (k+1) (by omega) (by omega) (aD (fun _=>456) ?_ ?_ rfl rfl) <;> simp only[wx,aC,aK,aa,seval,iteOmega,toNatUp]
       ·obtain rfl:k=8:=by omega
        have:ws.take 8=ws:=X7 (by omega);simp only[wi,zJ,ae,aa,seval,iteOmega,toNatUp,this];exact eV (id:=1) (n:=(fO ws).length) (s:=1) (by simp only[wx,aa,seval,iteOmega,toNatUp]) (by simp only[wx,aa,seval,iteOmega,toNatUp]) (by rw[Yc])
def Am (b:List UInt8) (n:Nat):St:=⟨aY [(0,.w (.c (.d (.sl (b.map bD))))),(3,.w (.c (.d (.sl ((dt cQ b n).map wD))))),(4,.w (.c (.d (.sl (bp.map wD))))),(5,.w (.c (.d (.int .i64 ((64*(b.length / 64):Nat):Int))))),(6,.w (.c (.d (.int .i64 ((64*n:Nat):Int)))))],hL [],uL []⟩
def wj:aO := .seq (.seq (.reg [oM 13 6,oM 14 5,oO 15 (.bin .lss (.t 13) (.t 14))]) (.cond (.t 15) (.skip) (.exit 0))) (.seq (.block 1 (.reg [oM 18 3,oM 19 4,oM 20 0,oM 21 6,oM 22 6,oO 23 (.bin .add (.t 22) (kI 64)),oO 24 (.slice 1 (.t 20) (some (.t 21)) (some (.t 23)) none),oO 25 (.call 119 [(.t 18),(.t 19),(.t 24)] none),oM 3 25])) (.reg [oM 16 6,oO 17 (.bin .add (.t 16) (kI 64)),oM 6 17]))
def HF:aA:=⟨1,33,.seq (.reg [oO 2 (.mv (.k (.c .nil)))]) (.seq (.reg [oO 7 (.call 117 [] none),oO 8 (.call 118 [] none),oM 3 7,oM 4 8]) (.seq (.reg [oM 9 0,oO 10 (.len (.t 9)),oO 11 (.bin .quo (.t 10) (kI 64)),oO 12 (.bin .mul (.t 11) (kI 64)),oM 5 12]) (.seq (.seq (.reg [oO 6 (.mv (kI 0))]) (.block 0 (.loop wj))) (.seq (.reg [oM 26 3,oM 27 0,oM 28 5,oO 29 (.slice 1 (.t 27) (some (.t 28)) none none),oM 30 0,oO 31 (.len (.t 30)),oO 32 (.call 120 [(.t 26),(.t 29),(.t 31)] (some (0,1))),oM 2 32]) (.ret))))),[(2,none)]⟩
theorem SR:aw Tryz.prog { own:=[32],comp:=[],frz:=[],nils:=[] } Tryz.f84=some HF:=by kernel_rfl
theorem nY (G:ah) (b:List UInt8) (hb:b.length≤140737488355328):aj Tryz.prog G 84 [.sl (b.map bD)] (.w (.c (.fr 1 ((bW b).map bD)))):=by
  refine aB Tryz.func84 SR rfl rfl ?_;have e1:(b.length:Int).tdiv 64=((b.length / 64:Nat):Int):=rfl;have e2:((b.length / 64:Nat):Int)*64=((64*(b.length / 64):Nat):Int):=by omega
  have e3:IntKind.i64.wrap ((64*(b.length / 64):Nat):Int)=((64*(b.length / 64):Nat):Int):=IntWalk.i64_in _ (by omega);have e4:IntKind.i64.wrap ((b.length / 64:Nat):Int)=((b.length / 64:Nat):Int):=IntWalk.i64_in _ (by omega);simp only[HF,af,wx,wy,aa,seval,iteOmega,toNatUp];refine a8 (U0 G) rfl (.inl rfl) ?_;simp only[wx,wy,aa,seval,iteOmega,toNatUp];refine a8 (JW G) rfl (.inl rfl) ?_;simp only[wx,wy,aa,seval,iteOmega,toNatUp,e1,e2,e3,e4];refine bf (Am b) (fun n=>b.length / 64-n) (fun n=>n≤b.length / 64) 0 (Yd _) ?_ ?_
  ·refine aD id ?_ ?_ rfl rfl <;> simp only[wx,aC,aa,seval,iteOmega,toNatUp,dt]
  ·intro n hn;have hl8:=ma pB b n;by_cases hlt:n<b.length / 64
   ·have h2:((b.drop (64*n)).take 64).length=64:=by rw[Yb,Yg]; omega
    have e1:64*n+64-64*n=64:=by omega
    have e5:IntKind.i64.wrap (((64*n:Nat):Int)+64)=((64*(n+1):Nat):Int):=by rw[IntWalk.i64_in _ (by omega)]; omega
    have e6:64*(n+1)-64*n=64:=by omega
    simp only[wj,Am,wx,wy,aa,seval,iteOmega,toNatUp,e1,e5,e6];refine a8 (Fq G (dt cQ b n) ((b.drop (64*n)).take 64) hl8 h2) ?_ (.inl rfl) ?_
    ·simp only[wx,wy,aa,seval,iteOmega,toNatUp]
    simp only[wx,wy,aa,seval,iteOmega,toNatUp,e5];refine a6 (n+1) (by omega) (by omega) (aD id ?_ ?_ rfl rfl) <;> simp only[wx,aC,aa,seval,iteOmega,toNatUp,dt]
   ·obtain rfl:n=b.length / 64:=by omega
    have e1:List.take (b.length-64*(b.length / 64)) (b.drop (64*(b.length / 64)))=b.drop (64*(b.length / 64)):=X7 (by rw[Yg]; exact Ye _);simp only[wj,Am,wx,wy,aa,seval,iteOmega,toNatUp,e1];refine a8 (U6 G (dt cQ b (b.length / 64)) (b.drop (64*(b.length / 64))) b.length hl8 (by rw[Yg]; omega) hb) ?_ (.inl rfl) ?_
    ·simp only[wx,wy,aa,seval,iteOmega,toNatUp]
    simp only[wx,wy,aa,seval,iteOmega,toNatUp];exact eV (id:=256) (n:=(jI (dt cQ b (b.length / 64)) (b.drop (64*(b.length / 64))) b.length).length) (s:=1) (by simp only[wx,aa,seval,iteOmega,toNatUp]) (by simp only[wx,aa,seval,iteOmega,toNatUp] <;> rfl) (by rw[Yc]; rfl)

def gZ (v m:Int):Int:=if m<1 then 0 else v%m
theorem AG (v m:Int) (h:1≤m):0≤gZ v m∧gZ v m<m:=by
  unfold gZ;rw[if_neg (by omega)];exact⟨Int.emod_nonneg _ (by omega),Int.emod_lt_of_pos _ (by omega)⟩
theorem QQ {v m:Int} (hm:0<m) (h:v.tmod m<0):v.tmod m+m=v%m:=by
  have h1:=Int.emod_add_mul_ediv v m;have h2:=Int.tmod_add_mul_tdiv v m;have h3:=Int.emod_nonneg v (show m≠0 by omega);have h4:=Int.emod_lt_of_pos v hm;have h5:=Int.lt_tmod_of_pos v hm;have e:m*(v.tdiv m-v / m)=v%m-v.tmod m:=by rw[Int.mul_sub]; omega
  have k1:v.tdiv m-v / m=1:=by
    rcases Int.lt_trichotomy (v.tdiv m-v / m) 1 with hlt | heq | hgt
    ·exfalso;have:v.tdiv m-v / m≤0:=by omega
     have:=ZI this (show 0≤m by omega);omega
    ·exact heq
    ·exfalso;have:2≤v.tdiv m-v / m:=by omega
     have:=ZI this (show 0≤m by omega);omega
  rw[k1] at e;omega
theorem QR {v m:Int} (hm:0<m) (h:0≤v.tmod m):v.tmod m=v%m:=by
  have h1:=Int.emod_add_mul_ediv v m;have h2:=Int.tmod_add_mul_tdiv v m;have h3:=Int.emod_nonneg v (show m≠0 by omega);have h4:=Int.emod_lt_of_pos v hm;have h5:=Int.tmod_lt_of_pos v hm;have e:m*(v.tdiv m-v / m)=v%m-v.tmod m:=by rw[Int.mul_sub]; omega
  have k1:v.tdiv m-v / m=0:=by
    rcases Int.lt_trichotomy (v.tdiv m-v / m) 0 with hlt | heq | hgt
    ·exfalso;have:v.tdiv m-v / m ≤ -1:=by omega
     have:=ZI this (show 0≤m by omega);omega
    ·exact heq
    ·exfalso;have:1≤v.tdiv m-v / m:=by omega
     have:=ZI this (show 0≤m by omega);omega
  rw[k1] at e;omega
def rL:aA:=⟨2,16,.seq (.reg [oO 4 (.mv (kI 0))]) (.seq (.seq (.reg [oM 5 1,oO 6 (.bin .lss (.t 5) (kI 1))]) (.cond (.t 6) (.seq (.reg [oO 4 (.mv (kI 0))]) (.ret)) (.skip))) (.seq (.reg [oM 7 0,oM 8 1,oO 9 (.bin .rem (.t 7) (.t 8)),oM 0 9]) (.seq (.seq (.reg [oM 10 0,oO 11 (.bin .lss (.t 10) (kI 0))]) (.cond (.t 11) (.reg [oM 12 0,oM 13 1,oO 14 (.bin .add (.t 12) (.t 13)),oM 0 14]) (.skip))) (.seq (.reg [oM 15 0,oM 4 15]) (.ret))))),[(4,none)]⟩
theorem O3:aw Tryz.prog { own:=[],comp:=[],frz:=[],nils:=[] } Tryz.f24=some rL:=by kernel_rfl
theorem w8 (G:ah) (v m:Int) (hm:m≤9223372036854775807):aj Tryz.prog G 24 [.int .i64 v,.int .i64 m] (.w (.c (.d (.int .i64 (gZ v m))))):=by
  refine aB Tryz.func24 O3 rfl rfl ?_;unfold gZ;by_cases h:m<1
  ·rw[if_pos h];simp only[rL,af,ae,aa,seval,iteOmega,toNatUp];exact aF
  ·rw[if_neg h];have hne:¬ m=0:=by omega
   have h4:=Int.tmod_lt_of_pos v (show 0<m by omega);by_cases hn:v.tmod m<0
   ·have e:=QQ (by omega) hn;have h3:=Int.emod_lt_of_pos v (show 0<m by omega);have h5:=Int.emod_nonneg v (show m≠0 by omega);simp only[rL,af,ae,aa,seval,iteOmega,toNatUp,hne];exact mo (by simp only[ae,aa,seval,iteOmega,toNatUp,e])
   ·have e:=QR (v:=v) (show 0<m by omega) (by omega);simp only[rL,af,ae,aa,seval,iteOmega,toNatUp,hne];exact mo (by simp only[ae,aa,seval,iteOmega,toNatUp,e])
def yL (s i:Nat):List UInt8:=bW (aP s 8++aP i 4)
def iC (s:Nat) (k:Nat):List UInt8:=((List.range k).map (yL s)).flatten
theorem Bb (s k:Nat):iC s k++yL s k=iC s (k+1):=by simp[iC,ZE]
theorem rz (s:Nat):∀ k,(iC s k).length=32*k
  | 0=>rfl
  | k+1=>by rw[← Bb,X5,rz s k]; unfold yL; rw[fY]; omega
def aS (seed n:Int):List UInt8:=(iC (seed%18446744073709551616).toNat ((n.toNat+31) / 32)).take n.toNat
theorem k8 (seed n:Int):(aS seed n).length=n.toNat:=by
  unfold aS; rw[Yb,rz]; omega
def ue (seed n:Int) (s:Nat) (k:Nat):St:=⟨aY [(0,.w (.c (.d (.int .i64 seed)))),(1,.w (.c (.d (.int .i64 n)))),(5,.w (.c (.own 1 1 0 (iC s k).length))),(6,.w (.c (.d (.int .i64 (k:Int)))))],hL [(1,.row 1 ((iC s k).map bD))],uL [1]⟩
def ru:aO := .seq (.seq (.reg [oM 8 5,oO 9 (.len (.t 8)),oM 10 1,oO 11 (.bin .lss (.t 9) (.t 10))]) (.cond (.t 11) (.skip) (.exit 0))) (.seq (.block 1 (.reg [oM 14 5,oM 15 0,oO 16 (.conv .u64 (.t 15)),oO 17 (.call 44 [(.t 16),(kI 8)] none),oM 18 6,oO 19 (.conv .u64 (.t 18)),oO 20 (.call 44 [(.t 19),(kI 4)] none),oO 21 (.bldSl false 2 1 (.sl []) [(0,(.t 17)),(1,(.t 20))]),oO 22 (.call 43 [(.t 21)] none),oO 23 (.call 84 [(.t 22)] none),oO 24 (.app false 1 1 (.t 14) (.t 23)),oM 5 24])) (.reg [oM 12 6,oO 13 (.bin .add (.t 12) (kI 1)),oM 6 13]))
def CV:aA:=⟨2,29,.seq (.reg [oO 4 (.mv (.k (.c .nil)))]) (.seq (.reg [oO 7 (.bldSl true 0 1 (.int .u8 0) []),oM 5 7]) (.seq (.seq (.reg [oO 6 (.mv (kI 0))]) (.block 0 (.loop ru))) (.seq (.reg [oM 25 5,oM 26 1,oO 27 (.max [(.t 26),(kI 0)]),oO 28 (.slice 1 (.t 25) none (some (.t 27)) none),oM 4 28]) (.ret)))),[(4,none)]⟩
theorem O4:aw Tryz.prog { own:=[7],comp:=[],frz:=[],nils:=[] } Tryz.f35=some CV:=by kernel_rfl
set_option maxHeartbeats 1600000 in
theorem QS (G:ah) (seed n:Int) (hn:n≤1099511627776):aj Tryz.prog G 35 [.int .i64 seed,.int .i64 n] (.w (.c (.fr 1 ((aS seed n).map bD)))):=by
  refine aB Tryz.func35 O4 rfl rfl ?_;obtain⟨s,hs⟩:∃ s:Nat,(seed%18446744073709551616).toNat=s:=⟨_,rfl⟩
  have hw:IntKind.u64.wrap seed=(s:Int):=by rw[IntKind.wrap_u64,← hs]; omega
  have hs2:s<18446744073709551616:=by omega
  have hK:aS seed n=(iC s ((n.toNat+31) / 32)).take n.toNat:=by unfold aS; rw[hs]
  rw[hK];simp only[CV,af,ae,aa,seval,iteOmega,toNatUp];refine bf (ue seed n s) (fun k=>(n.toNat+31) / 32-k) (fun k=>k≤(n.toNat+31) / 32) 0 (Yd _) ?_ ?_
  ·refine aD (fun _=>56) ?_ ?_ rfl rfl <;> simp only[wx,aC,aK,aa,seval,iteOmega,toNatUp] <;> rfl
  ·intro k hk;have hl:=rz s k;by_cases hlt:k<(n.toNat+31) / 32
   ·have hc:((iC s k).length:Int)<n:=by omega
    have hj:=mg G [aP s 8,aP k 4] (by simp) (by simp[bN]);have hf:[aP s 8,aP k 4].flatten=aP s 8++aP k 4:=by simp
    rw[hf] at hj;have hb:=Bb s k;have hk2:IntKind.u64.wrap (k:Int)=(k:Int):=u64_in _ (by omega) (by omega);simp only[ru,ue,wx,wy,aa,seval,iteOmega,toNatUp,hw,hk2];refine a8 (p7 G s 8 (by decide)) rfl (.inl rfl) ?_;simp only[wx,wy,aa,seval,iteOmega,toNatUp,hw,hk2];refine a8 (p7 G k 4 (by decide)) rfl (.inl rfl) ?_;simp only[wx,wy,aa,seval,iteOmega,toNatUp];refine a8 hj rfl (.inl rfl) ?_;simp only[wx,wy,aa,seval,iteOmega,toNatUp];refine a8 (nY G (aP s 8++aP k 4) (by simp[bN])) rfl (.inl rfl) ?_;have hh:(bW (aP s 8++aP k 4)).length=32:=fY _;have hb':iC s k++bW (aP s 8++aP k 4)=iC s (k+1):=hb;simp only[ae,aa,seval,iteOmega,toNatUp,bK,j6,hb',hh];refine a6 (k+1) (by omega) (by omega) (aD (fun _=>192) ?_ ?_ rfl rfl) <;> simp only[wx,aC,aK,aa,seval,iteOmega,toNatUp]
   ·obtain rfl:k=(n.toNat+31) / 32:=by omega
    have hc:¬ ((iC s ((n.toNat+31) / 32)).length:Int)<n:=by omega
    by_cases h0:n<0
    ·have e0:n.toNat=0:=by omega
     simp only[ru,ue,ae,aa,seval,iteOmega,toNatUp,hc,Zn,List.foldl_nil];rw[e0,List.map_take];exact EG (id:=1) (s:=1) (by simp only[wx,aa,seval,iteOmega,toNatUp]) (by simp only[wx,aa,seval,iteOmega,toNatUp]) (Yd _)
    ·simp only[ru,ue,ae,aa,seval,iteOmega,toNatUp,hc,Zn,List.foldl_nil];rw[List.map_take];exact EG (id:=1) (s:=1) (by simp only[wx,aa,seval,iteOmega,toNatUp]) (by simp only[wx,aa,seval,iteOmega,toNatUp]) (by rw[Yc,rz]; omega)
theorem nG (G:ah) (seed n:Int) (hn:n≤1099511627776):aj Tryz.prog G 35 [.int .i64 seed,.int .i64 n] (.w (.c (.d (.sl ((aS seed n).map bD))))):=mn (QS G seed n hn)
def mU (key:List UInt8):List UInt8:=if 64<key.length then bW key else key
def eK (k:List UInt8):List UInt8:=k++List.replicate (64-k.length) 0
def jf (key:List UInt8):List UInt8:=eK (mU key)
def bQ (key:List UInt8) (x:UInt8):List UInt8:=(jf key).map fun b=>am b x
def eC (key b:List UInt8):List UInt8:=bW (bQ key 92++bW (bQ key 54++b))
def dW (key info:List UInt8):Nat→List UInt8
  | 0=>[]
  | i+1=>eC key (dW key info i++info++[UInt8.ofNat (i+1)])
def gB (key info:List UInt8):Nat→List UInt8
  | 0=>[]
  | i+1=>gB key info i++dW key info (i+1)
def fp (key info:List UInt8) (n:Nat):List UInt8:=(gB key info ((n+31) / 32)).take n
def fq (p n c:List UInt8):List UInt8:=p++[0]++n++[0]++bW c
theorem QT (key:List UInt8):(mU key).length≤64:=by
  unfold mU; split
  ·rw[fY]; decide
  ·omega
theorem jT {k:List UInt8} (h:k.length≤64):(eK k).length=64:=by
  simp[eK]; omega
theorem Fu (key:List UInt8):(jf key).length=64:=jT (QT key)
theorem k9 (key:List UInt8) (x:UInt8):(bQ key x).length=64:=by
  rw[bQ,Yc,Fu]
theorem lc (key b:List UInt8):(eC key b).length=32:=fY _
theorem CW (key info:List UInt8):∀ i,(dW key info i).length≤32
  | 0=>by simp[dW]
  | i+1=>by rw[dW,lc]; exact Ye _
theorem nH (key info:List UInt8):∀ i,(gB key info i).length=32*i
  | 0=>rfl
  | i+1=>by rw[gB,X5,nH key info i,dW,lc]; omega
theorem pR (key info:List UInt8) (n:Nat):(fp key info n).length=n:=by
  rw[fp,Yb,nH]; omega
theorem Fv (p n c:List UInt8):(fq p n c).length=p.length+n.length+34:=by
  simp[fq,fY]; omega
theorem Fx {k:List UInt8} (l:List D) (hl:l=List.replicate 64 (D.int .u8 0)):k.map bD++l.drop k.length=(eK k).map bD:=by
  subst hl;unfold eK;rw[List.drop_replicate,YD,zp]
theorem Fy {k:List UInt8} (hk:k.length≤64) (l:List D) (hl:l=List.replicate 64 (D.int .u8 0)):k.length+(l.drop k.length).length=64:=by
  subst hl;rw[List.drop_replicate,Yt]; omega
def w9:aA:=⟨1,13,.seq (.reg [oO 2 (.allocArr [(.int .u8 0),(.int .u8 0),(.int .u8 0),(.int .u8 0),(.int .u8 0),(.int .u8 0),(.int .u8 0),(.int .u8 0),(.int .u8 0),(.int .u8 0),(.int .u8 0),(.int .u8 0),(.int .u8 0),(.int .u8 0),(.int .u8 0),(.int .u8 0),(.int .u8 0),(.int .u8 0),(.int .u8 0),(.int .u8 0),(.int .u8 0),(.int .u8 0),(.int .u8 0),(.int .u8 0),(.int .u8 0),(.int .u8 0),(.int .u8 0),(.int .u8 0),(.int .u8 0),(.int .u8 0),(.int .u8 0),(.int .u8 0),(.int .u8 0),(.int .u8 0),(.int .u8 0),(.int .u8 0),(.int .u8 0),(.int .u8 0),(.int .u8 0),(.int .u8 0),(.int .u8 0),(.int .u8 0),(.int .u8 0),(.int .u8 0),(.int .u8 0),(.int .u8 0),(.int .u8 0),(.int .u8 0),(.int .u8 0),(.int .u8 0),(.int .u8 0),(.int .u8 0),(.int .u8 0),(.int .u8 0),(.int .u8 0),(.int .u8 0),(.int .u8 0),(.int .u8 0),(.int .u8 0),(.int .u8 0),(.int .u8 0),(.int .u8 0),(.int .u8 0),(.int .u8 0)])])
 (.seq (.seq (.reg [oM 4 0,oO 5 (.len (.t 4)),oO 6 (.bin .gtr (.t 5) (kI 64))]) (.cond (.t 6) (.reg [oM 7 0,oO 8 (.call 141 [(.t 7)] none),oM 0 8]) (.skip))) (.seq (.reg [oO 3 (.allocArr [(.int .u8 0),(.int .u8 0),(.int .u8 0),(.int .u8 0),(.int .u8 0),(.int .u8 0),(.int .u8 0),(.int .u8 0),(.int .u8 0),(.int .u8 0),(.int .u8 0),(.int .u8 0),(.int .u8 0),(.int .u8 0),(.int .u8 0),(.int .u8 0),(.int .u8 0),(.int .u8 0),(.int .u8 0),(.int .u8 0),(.int .u8 0),(.int .u8 0),(.int .u8 0),(.int .u8 0),(.int .u8 0),(.int .u8 0),(.int .u8 0),(.int .u8 0),(.int .u8 0),(.int .u8 0),(.int .u8 0),(.int .u8 0),(.int .u8 0),(.int .u8 0),(.int .u8 0),(.int .u8 0),(.int .u8 0),(.int .u8 0),(.int .u8 0),(.int .u8 0),(.int .u8 0),(.int .u8 0),(.int .u8 0),(.int .u8 0),(.int .u8 0),(.int .u8 0),(.int .u8 0),(.int .u8 0),(.int .u8 0),(.int .u8 0),(.int .u8 0),(.int .u8 0),(.int .u8 0),(.int .u8 0),(.int .u8 0),(.int .u8 0),(.int .u8 0),(.int .u8 0),(.int .u8 0),(.int .u8 0),(.int .u8 0),(.int .u8 0),(.int .u8 0),(.int .u8 0)])])
 (.seq (.reg [oO 9 (.sliceArr 1 64 (.t 3) none none),oM 10 0,oO 11 (.copy 1 (.t 9) (.t 10))]) (.seq (.reg [oO 12 (.load (.ag 64) (.t 3)),oN (.store (.ag 64) (.t 2) (.t 12))]) (.ret))))),[(2,(some (.ag 64)))]⟩
theorem QU:aw Tryz.prog { own:=[],comp:=[],frz:=[],nils:=[] } Tryz.f140=some w9:=by kernel_rfl
theorem SS (G:ah) (hF:G.at 0=some (.ra (cQ.map wD))) (hG:G.at 1=some (.ra (bp.map wD))) (key:List UInt8) (hb:key.length≤140737488355328):aj Tryz.prog G 140 [.sl (key.map bD)] (.w (.c (.d (.agg ((jf key).map bD))))):=by
  refine aB Tryz.func140 QU rfl rfl ?_;by_cases h:64<key.length
  ·have e:jf key=eK (bW key):=by unfold jf mU; rw[if_pos h]
   have hl:=fY key;rw[e];simp only[w9,af,ae,aa,seval,iteOmega,toNatUp];refine sD (ud G hF hG key hb) ?_;generalize bW key=s at *
   have z:=Fx (k:=s);have z2:=Fy (k:=s) (by omega);have ht:s.take 64=s:=X7 (by omega);have hf:(eK s).length=64:=jT (by omega);simp only[ae,aa,seval,iteOmega,toNatUp,ht,z,z2,hf];exact mo (by simp only[ae,aa,seval,iteOmega,toNatUp,hf])
  ·have e:jf key=eK key:=by unfold jf mU; rw[if_neg h]
   rw[e];have z:=Fx (k:=key);have z2:=Fy (k:=key) (by omega);have ht:key.take 64=key:=X7 (by omega);have hf:(eK key).length=64:=jT (by omega);simp only[w9,af,ae,aa,seval,iteOmega,toNatUp,ht,z,z2,hf];exact mo (by simp only[ae,aa,seval,iteOmega,toNatUp,hf])
def hC (l:List UInt8) (m:UInt8) (i:Nat):List UInt8:=(l.take i).map (fun b=>am b m)++l.drop i
theorem O5 (l:List UInt8) (m:UInt8) (i:Nat):(hC l m i).length=l.length:=by
  unfold hC; rw[X5,Yc,← X5,YI]
theorem O6 (l:List UInt8) (m:UInt8) (i:Nat) (h:i<l.length):(hC l m i)[i]?=some l[i]:=by
  unfold hC;rw[YC (by rw[Yc,Yb]; omega),YS,Yc,Yb];rw[show i+(i-min i l.length)=i by omega,X3 h]
theorem NF (l:List UInt8) (m:UInt8) (i:Nat) (h:i<l.length):(hC l m i).set i (am l[i] m)=hC l m (i+1):=by
  unfold hC;rw[ZQ _ _ (by rw[Yc,Yb]; omega),Yc,Yb,show i-min i l.length=0 by omega,List.drop_eq_getElem_cons h,List.set_cons_zero,Y5 h,YD,Yy];rfl
theorem NG (l:List UInt8) (m:UInt8):hC l m 0=l:=by simp[hC]
theorem NH (l:List UInt8) (m:UInt8) (i:Nat) (h:l.length≤i):hC l m i=l.map fun b=>am b m:=by
  unfold hC;rw[X7 h,Y3 h,Ym]
def yM (l:List UInt8) (m:UInt8) (i:Nat):St:=⟨aY [(1,.w (.c (.d (bD m)))),(2,.w (.c (.pa 1 1))),(6,.w (.c (.d (.int .i64 (i:Int)))))],hL [(1,.row 1 ((hC l m i).map bD))],uL [1]⟩
def vA:aO := .seq (.reg [oO 7 (.bin .lss (.t 6) (kI 64))]) (.seq (.cond (.t 7) (.skip) (.exit 0)) (.seq (.block 1 (.seq (.reg [oM 8 6,oM 5 8]) (.reg [oM 9 5,oO 10 (.idxPa 1 64 (.t 2) (.t 9)),oO 11 (.load .sc (.t 10)),oM 12 1,oO 13 (.bin .xor (.t 11) (.t 12)),oO 14 (.idxPa 1 64 (.t 2) (.t 9)),oN (.store .sc (.t 14) (.t 13))]))) (.reg [oO 15 (.bin .add (.t 6) (kI 1)),oM 6 15])))
def CX:aA:=⟨2,17,.seq (.reg [oO 2 (.box .ownArr (.t 0)),oO 4 (.mv (.k (.c .nil)))]) (.seq (.seq (.reg [oO 6 (.mv (kI 0))]) (.block 0 (.loop vA))) (.seq (.reg [oO 16 (.sliceArr 1 64 (.t 2) none none),oM 4 16]) (.ret))),[(4,none)]⟩
theorem O7:aw Tryz.prog { own:=[2],comp:=[],frz:=[],nils:=[] } Tryz.f142=some CX:=by kernel_rfl
theorem Fz (G:ah) (l:List UInt8) (hl:l.length=64) (m:UInt8):aj Tryz.prog G 142 [.agg (l.map bD),bD m] (.w (.c (.fr 1 ((l.map fun b=>am b m).map bD)))):=by
  refine aB Tryz.func142 O7 rfl rfl ?_;simp only[CX,af,ae,aa,seval,iteOmega,toNatUp];refine bf (yM l m) (fun i=>64-i) (fun i=>i≤64) 0 (Yd _) ?_ ?_
  ·refine aD (fun _=>16) ?_ ?_ rfl rfl <;> simp only[wx,aC,aK,aa,seval,iteOmega,toNatUp,NG]
  ·intro i hi;have hm:=O5 l m i;by_cases hlt:i<64
   ·have h1:=O6 l m i (by omega);have h2:=NF l m i (by omega);have h3:i<(hC l m i).length:=by omega
    simp only[vA,yM,ae,aa,seval,iteOmega,toNatUp,aL,h1,gK,f7 h3 (fB _),gM,h2];refine a6 (i+1) (by omega) (by omega) (aD (fun _=>1) ?_ ?_ rfl rfl) <;> simp only[wx,aC,aK,aa,seval,iteOmega,toNatUp]
   ·obtain rfl:i=64:=by omega
    have h1:=NH l m 64 (by omega);simp only[vA,yM,ae,aa,seval,iteOmega,toNatUp,h1,hl];exact eV (id:=1) (n:=64) (s:=1) (by simp only[wx,aa,seval,iteOmega,toNatUp]) (by simp only[wx,aa,seval,iteOmega,toNatUp]) (by simp[hl])
def J8:aA:=⟨2,21,.seq (.reg [oO 4 (.mv (.k (.c .nil)))]) (.seq (.reg [oM 7 0,oO 8 (.call 140 [(.t 7)] none),oO 5 (.allocArr [(.int .u8 0),(.int .u8 0),(.int .u8 0),(.int .u8 0),(.int .u8 0),(.int .u8 0),(.int .u8 0),(.int .u8 0),(.int .u8 0),(.int .u8 0),(.int .u8 0),(.int .u8 0),(.int .u8 0),(.int .u8 0),(.int .u8 0),(.int .u8 0),(.int .u8 0),(.int .u8 0),(.int .u8 0),(.int .u8 0),(.int .u8 0),(.int .u8 0),(.int .u8 0),(.int .u8 0),(.int .u8 0),(.int .u8 0),(.int .u8 0),(.int .u8 0),(.int .u8 0),(.int .u8 0),(.int .u8 0),(.int .u8 0),(.int .u8 0),(.int .u8 0),(.int .u8 0),(.int .u8 0),(.int .u8 0),(.int .u8 0),(.int .u8 0),(.int .u8 0),(.int .u8 0),(.int .u8 0),(.int .u8 0),(.int .u8 0),(.int .u8 0),(.int .u8 0),(.int .u8 0),(.int .u8 0),(.int .u8 0),(.int .u8 0),(.int .u8 0),(.int .u8 0),(.int .u8 0),(.int .u8 0),(.int .u8 0),(.int .u8 0),(.int .u8 0),(.int .u8 0),(.int .u8 0),(.int .u8 0),(.int .u8 0),(.int .u8 0),(.int .u8 0),(.int .u8 0)]),
 oN (.store (.ag 64) (.t 5) (.t 8))]) (.seq (.reg [oO 9 (.load (.ag 64) (.t 5)),oO 10 (.call 142 [(.t 9),(.k (.c (.d (.int .u8 54))))] none),oM 11 1,oO 12 (.bldSl false 2 1 (.sl []) [(0,(.t 10)),(1,(.t 11))]),oO 13 (.call 90 [(.t 12)] none),oO 14 (.call 141 [(.t 13)] none),oM 6 14]) (.seq (.reg [oO 15 (.load (.ag 64) (.t 5)),oO 16 (.call 142 [(.t 15),(.k (.c (.d (.int .u8 92))))] none),oM 17 6,oO 18 (.bldSl false 2 1 (.sl []) [(0,(.t 16)),(1,(.t 17))]),oO 19 (.call 90 [(.t 18)] none),oO 20 (.call 141 [(.t 19)] (some (0,1))),oM 4 20]) (.ret)))),[(4,none)]⟩
theorem U7:aw Tryz.prog { own:=[20],comp:=[],frz:=[],nils:=[] } Tryz.f126=some J8:=by kernel_rfl
theorem Lw (G:ah) (hF:G.at 0=some (.ra (cQ.map wD))) (hG:G.at 1=some (.ra (bp.map wD))) (key b:List UInt8) (hk:key.length≤140737488355328) (hb:b.length≤70368744177664):aj Tryz.prog G 126 [.sl (key.map bD),.sl (b.map bD)] (.w (.c (.fr 1 ((eC key b).map bD)))):=by
  refine aB Tryz.func126 U7 rfl rfl ?_;have h1:=dU G [bQ key 54,b] (by simp) (by simp[k9]; omega);have h2:=dU G [bQ key 92,bW (bQ key 54++b)] (by simp) (by simp[k9,fY]);have f1:[bQ key 54,b].flatten=bQ key 54++b:=by simp
  have f2:[bQ key 92,bW (bQ key 54++b)].flatten=bQ key 92++bW (bQ key 54++b):=by simp
  rw[f1] at h1;rw[f2] at h2;have hl:=Fu key;have hm1:(bQ key 54++b).length≤140737488355328:=by rw[X5,k9]; omega
  have hm2:(bQ key 92++bW (bQ key 54++b)).length≤140737488355328:=by rw[X5,k9,fY]; decide
  have hs:=fY (bQ key 92++bW (bQ key 54++b));have hmac:eC key b=bW (bQ key 92++bW (bQ key 54++b)):=rfl;rw[hmac];simp only[J8,af,ae,aa,seval,iteOmega,toNatUp];refine sD (SS G hF hG key hk) ?_;refine sD (Fz G (jf key) hl 54) ?_;refine sD (h1) ?_;refine sD (ud G hF hG _ hm1) ?_;refine sD (Fz G (jf key) hl 92) ?_;refine sD (h2) ?_;refine sD (ud G hF hG _ hm2) ?_;exact ec
def gC (k:List UInt8) (x:UInt8) (i:Nat):List UInt8:=((eK k).take i).map (fun b=>am b x)++List.replicate (64-i) 0
theorem QV {k:List UInt8} (hk:k.length≤64) (x:UInt8) (i:Nat) (hi:i≤64):(gC k x i).length=64:=by
  unfold gC;rw[X5,Yc,Yb,jT hk,Yt]; omega
theorem QW {k:List UInt8} (hk:k.length≤64) (x:UInt8) (i:Nat) (hi:i<64):(gC k x i)[i]?=some 0:=by
  unfold gC;rw[YC (by rw[Yc,Yb]; omega),Yc,Yb,jT hk,List.getElem?_replicate,if_pos (by omega)]
theorem CY {k:List UInt8} (hk:k.length≤64) (x a:UInt8) (i:Nat) (hi:i<64) (ha:(eK k)[i]?=some a):(gC k x i).set i (am a x)=gC k x (i+1):=by
  have h:=pQ (((eK k).take i).map (fun b=>am b x)) 0 (am a x) (64-i) (by omega);have hl:(((eK k).take i).map (fun b=>am b x)).length=i:=by rw[Yc,Yb,jT hk]; omega
  rw[hl] at h;unfold gC;rw[h,ZG,ha,YD];rfl
theorem SU (k:List UInt8) (i:Nat) (h:i<k.length):(eK k)[i]?=some k[i]:=by
  unfold eK;rw[YO h,X3 h]
theorem SV (k:List UInt8) (i:Nat) (h:k.length≤i) (h2:i<64):(eK k)[i]?=some 0:=by
  unfold eK;rw[YC h,List.getElem?_replicate,if_pos (by omega)]
theorem CZ (k:List UInt8) (x:UInt8):gC k x 0=List.replicate 64 0:=by simp[gC]
theorem O8 {k:List UInt8} (hk:k.length≤64) (x:UInt8):gC k x 64=(eK k).map fun b=>am b x:=by
  unfold gC;rw[X7 (by rw[jT hk]; exact Ye _),ZZ,Zm,Ym]
def qE (k:List UInt8) (x:UInt8) (i:Nat):St:=⟨aY [(0,.w (.c (.d (.sl (k.map bD))))),(1,.w (.c (.d (bD x)))),(5,.w (.c (.own 1 1 0 64))),(6,.w (.c (.d (.int .i64 (i:Int)))))],hL [(1,.row 1 ((gC k x i).map bD))],uL [1]⟩
def pC:aO := .seq (.seq (.reg [oM 13 6,oO 14 (.bin .lss (.t 13) (kI 64))]) (.cond (.t 14) (.skip) (.exit 0))) (.seq (.block 1 (.seq (.seq (.reg [oM 17 6,oM 18 0,oO 19 (.len (.t 18)),oO 20 (.bin .lss (.t 17) (.t 19))]) (.cond (.t 20) (.reg [oM 21 5,oM 22 6,oM 23 0,oM 24 6,oO 25 (.idxSl 1 (.t 23) (.t 24)),oO 26 (.load .sc (.t 25)),oO 27 (.idxSl 1 (.t 21) (.t 22)),oN (.store .sc (.t 27) (.t 26))]) (.skip))) (.reg [oM 28 5,oM 29 6,oM 30 5,oM 31 6,oO 32 (.idxSl 1 (.t 30) (.t 31)),oO 33 (.load .sc (.t 32)),oM 34 1,oO 35 (.bin .xor (.t 33) (.t 34)),oO 36 (.idxSl 1 (.t 28) (.t 29)),oN (.store .sc (.t 36) (.t 35))]))) (.reg [oM 15 6,oO 16 (.bin .add (.t 15) (kI 1)),oM 6 16]))
def xa:aA:=⟨2,38,.seq (.reg [oO 4 (.mv (.k (.c .nil)))]) (.seq (.seq (.reg [oM 7 0,oO 8 (.len (.t 7)),oO 9 (.bin .gtr (.t 8) (kI 64))]) (.cond (.t 9) (.reg [oM 10 0,oO 11 (.call 84 [(.t 10)] none),oM 0 11]) (.skip))) (.seq (.reg [oO 12 (.make true 1 1 (.int .u8 0) (kI 64) (kI 64)),oM 5 12]) (.seq (.seq (.reg [oO 6 (.mv (kI 0))]) (.block 0 (.loop pC))) (.seq (.reg [oM 37 5,oM 4 37]) (.ret))))),[(4,none)]⟩
theorem QX:aw Tryz.prog { own:=[],comp:=[],frz:=[],nils:=[] } Tryz.f143=some xa:=by kernel_rfl
theorem HG (G:ah) (k:List UInt8) (hk:k.length≤64) (x:UInt8) (Q:AX→St→Prop) (σ:St) (he:dN σ (qE k x 0)) (hq:∀ f,f 5=.w (.c (.own 1 1 0 64))→Q (.ex 0) ⟨f,hL [(1,.row 1 (((eK k).map fun b=>am b x).map bD))],uL [1]⟩):bu Tryz.prog G (.loop pC) Q σ:=by
  refine bf (qE k x) (fun i=>64-i) (fun i=>i≤64) 0 (Yd _) he ?_;intro i hi;have hl:=QV hk x i hi;by_cases hlt:i<64
  ·have h1:=QW hk x i hlt;have h3:i<(gC k x i).length:=by omega
   by_cases hkl:i<k.length
   ·have h2:=CY hk x k[i] i hlt (SU k i hkl);have e2:k[i]?=some k[i]:=X3 hkl;have h4:((gC k x i).set i k[i])[i]?=some k[i]:=by rw[List.getElem?_set_self h3]
    have h5:i<((gC k x i).set i k[i]).length:=by rw[Zg]; exact h3
    simp only[pC,qE,ae,aa,seval,iteOmega,toNatUp,aL,h1,e2,f7 h3 (fB _),gM,h4,f7 h5 (fB _),List.set_set,h2];refine a6 (i+1) (by omega) (by omega) (aD (fun _=>1) ?_ ?_ rfl rfl) <;> simp only[wx,aC,aK,aa,seval,iteOmega,toNatUp]
   ·have h2:=CY hk x 0 i hlt (SV k i (by omega) hlt);simp only[pC,qE,ae,aa,seval,iteOmega,toNatUp,aL,h1,f7 h3 (fB _),gM,h2];refine a6 (i+1) (by omega) (by omega) (aD (fun _=>1) ?_ ?_ rfl rfl) <;> simp only[wx,aC,aK,aa,seval,iteOmega,toNatUp]
  ·obtain rfl:i=64:=by omega
   simp only[pC,qE,ae,aa,seval,iteOmega,toNatUp,O8 hk x];exact hq _ (by simp only[ae,aa,seval,iteOmega,toNatUp])
theorem HH (G:ah) (key:List UInt8) (hb:key.length≤140737488355328) (x:UInt8):aj Tryz.prog G 143 [.sl (key.map bD),bD x] (.w (.c (.fr 1 ((bQ key x).map bD)))):=by
  refine aB Tryz.func143 QX rfl rfl ?_;by_cases h:64<key.length
  ·have e:bQ key x=(eK (bW key)).map fun b=>am b x:=by unfold bQ jf mU; rw[if_pos h]
   have hl:=fY key;rw[e];simp only[xa,af,ae,aa,seval,iteOmega,toNatUp];refine sD (nY G key hb) ?_;generalize bW key=s at *
   refine HG G s (by omega) x _ _ (aD (fun _=>96) ?_ ?_ rfl rfl) fun f hf=>?_
   ·simp only[wx,aC,aK,aa,seval,iteOmega,toNatUp]
   ·simp only[wx,aC,aK,aa,seval,iteOmega,toNatUp,CZ];rfl
   ·simp only[ae,aa,seval,iteOmega,toNatUp,hf];exact eV (id:=1) (n:=64) (s:=1) (by simp only[wx,aa,seval,iteOmega,toNatUp,hf]) (by simp only[wx,aa,seval,iteOmega,toNatUp]) (by rw[Yc,Yc,jT (by omega)])
  ·have e:bQ key x=(eK key).map fun b=>am b x:=by unfold bQ jf mU; rw[if_neg h]
   rw[e];simp only[xa,af,ae,aa,seval,iteOmega,toNatUp];refine HG G key (by omega) x _ _ (aD (fun _=>96) ?_ ?_ rfl rfl) fun f hf=>?_
   ·simp only[wx,aC,aK,aa,seval,iteOmega,toNatUp]
   ·simp only[wx,aC,aK,aa,seval,iteOmega,toNatUp,CZ];rfl
   ·simp only[ae,aa,seval,iteOmega,toNatUp,hf];exact eV (id:=1) (n:=64) (s:=1) (by simp only[wx,aa,seval,iteOmega,toNatUp,hf]) (by simp only[wx,aa,seval,iteOmega,toNatUp]) (by rw[Yc,Yc,jT (by omega)])
def HI:aA:=⟨2,16,.seq (.reg [oO 4 (.mv (.k (.c .nil)))]) (.seq (.reg [oM 5 0,oO 6 (.call 143 [(.t 5),(.k (.c (.d (.int .u8 92))))] none),oM 7 0,oO 8 (.call 143 [(.t 7),(.k (.c (.d (.int .u8 54))))] none),oM 9 1,oO 10 (.bldSl false 2 1 (.sl []) [(0,(.t 8)),(1,(.t 9))]),oO 11 (.call 43 [(.t 10)] none),oO 12 (.call 84 [(.t 11)] none),oO 13 (.bldSl false 2 1 (.sl []) [(0,(.t 6)),(1,(.t 12))]),oO 14 (.call 43 [(.t 13)] none),oO 15 (.call 84 [(.t 14)] (some (0,1))),oM 4 15]) (.ret)),[(4,none)]⟩
theorem SY:aw Tryz.prog { own:=[15],comp:=[],frz:=[],nils:=[] } Tryz.f127=some HI:=by kernel_rfl
theorem J9 (G:ah) (key b:List UInt8) (hk:key.length≤140737488355328) (hb:b.length≤70368744177664):aj Tryz.prog G 127 [.sl (key.map bD),.sl (b.map bD)] (.w (.c (.fr 1 ((eC key b).map bD)))):=by
  refine aB Tryz.func127 SY rfl rfl ?_;have h1:=mg G [bQ key 54,b] (by simp) (by simp[k9]; omega);have h2:=mg G [bQ key 92,bW (bQ key 54++b)] (by simp) (by simp[k9,fY]);have f1:[bQ key 54,b].flatten=bQ key 54++b:=by simp
  have f2:[bQ key 92,bW (bQ key 54++b)].flatten=bQ key 92++bW (bQ key 54++b):=by simp
  rw[f1] at h1;rw[f2] at h2;have hm1:(bQ key 54++b).length≤140737488355328:=by rw[X5,k9]; omega
  have hm2:(bQ key 92++bW (bQ key 54++b)).length≤140737488355328:=by rw[X5,k9,fY]; decide
  have hs:=fY (bQ key 92++bW (bQ key 54++b));have hmac:eC key b=bW (bQ key 92++bW (bQ key 54++b)):=rfl;rw[hmac];simp only[HI,af,ae,aa,seval,iteOmega,toNatUp];refine sD (HH G key hk 92) ?_;refine sD (HH G key hk 54) ?_;refine sD (h1) ?_;refine sD (nY G _ hm1) ?_;refine sD (h2) ?_;refine sD (nY G _ hm2) ?_;exact ec
def Ka:aA:=⟨2,8,.seq (.reg [oO 4 (.mv (.k (.c .nil)))]) (.seq (.reg [oM 5 0,oM 6 1,oO 7 (.call 126 [(.t 5),(.t 6)] (some (0,1))),oM 4 7]) (.ret)),[(4,none)]⟩
theorem U8:aw Tryz.prog { own:=[7],comp:=[],frz:=[],nils:=[] } Tryz.f97=some Ka:=by kernel_rfl
theorem Xg (G:ah) (hF:G.at 0=some (.ra (cQ.map wD))) (hG:G.at 1=some (.ra (bp.map wD))) (key b:List UInt8) (hk:key.length≤140737488355328) (hb:b.length≤70368744177664):aj Tryz.prog G 97 [.sl (key.map bD),.sl (b.map bD)] (.w (.c (.fr 1 ((eC key b).map bD)))):=by
  refine aB Tryz.func97 U8 rfl rfl ?_;simp only[Ka,af,ae,aa,seval,iteOmega,toNatUp];refine sD (Lw G hF hG key b hk hb) ?_;exact ec
def HJ:aA:=⟨2,8,.seq (.reg [oO 4 (.mv (.k (.c .nil)))]) (.seq (.reg [oM 5 0,oM 6 1,oO 7 (.call 127 [(.t 5),(.t 6)] (some (0,1))),oM 4 7]) (.ret)),[(4,none)]⟩
theorem SZ:aw Tryz.prog { own:=[7],comp:=[],frz:=[],nils:=[] } Tryz.f100=some HJ:=by kernel_rfl
theorem U9 (G:ah) (key b:List UInt8) (hk:key.length≤140737488355328) (hb:b.length≤70368744177664):aj Tryz.prog G 100 [.sl (key.map bD),.sl (b.map bD)] (.w (.c (.fr 1 ((eC key b).map bD)))):=by
  refine aB Tryz.func100 SZ rfl rfl ?_;simp only[HJ,af,ae,aa,seval,iteOmega,toNatUp];refine sD (J9 G key b hk hb) ?_;exact ec
def kL (n:Int):Int:=if 0≤n∧n≤8160 then 0 else 4
def ik (key info:List UInt8) (n:Int):List UInt8:=if 0≤n∧n≤8160 then fp key info n.toNat else []
theorem lh {n:Int} (h:0≤n∧n≤8160):kL n=0:=if_pos h
theorem j8 (key info:List UInt8) {n:Int} (h:0≤n∧n≤8160):ik key info n=fp key info n.toNat:=if_pos h
theorem sr {n:Int} (h:¬ (0≤n∧n≤8160)):kL n=4:=if_neg h
theorem su (key info:List UInt8) {n:Int} (h:¬ (0≤n∧n≤8160)):ik key info n=[]:=if_neg h
def gD (key info:List UInt8) (n i:Nat):List UInt8:=(gB key info i).take n
theorem FA (key info:List UInt8) (n i:Nat):(gD key info n i).length=min n (32*i):=by
  unfold gD; rw[Yb,nH]
theorem O9 (key info:List UInt8) (n i:Nat) (h:32*i≤n):gD key info n i++(dW key info (i+1)).take (n-32*i)=gD key info n (i+1):=by
  unfold gD;rw[gB,List.take_append,nH]
theorem C0 (key info:List UInt8) (i:Nat):eC key (dW key info i++info++[UInt8.ofNat (i+1)])=dW key info (i+1):=rfl
theorem Mn (v:Nat):aP v 1=[UInt8.ofNat v]:=by simp[aP]
def iE (key info:List UInt8):Nat→V
  | 0=>.w (.c .nil)
  | i+1=>.w (.c (.d (.sl ((dW key info (i+1)).map bD))))
theorem S0 (a b:Nat):List.foldl (fun x y:Int=>if y<x then y else x) (a:Int) [(b:Int)]=((min a b:Nat):Int):=by
  simp only[Zn,List.foldl_nil];split <;> omega
def ug (key info:List UInt8) (n i:Nat):St:=⟨aY [(0,.w (.c (.d (.sl (key.map bD))))),(1,.w (.c (.d (.sl (info.map bD))))),(2,.w (.c (.d (.int .i64 (n:Int))))),(8,.w (.c (.own 1 1 0 (gD key info n i).length))),(9,iE key info i),(10,.w (.c (.d (.int .u64 ((i+1:Nat):Int)))))],hL [(1,.row 1 ((gD key info n i).map bD))],uL [1]⟩
def sw:aO := .seq (.seq (.reg [oM 19 8,oO 20 (.len (.t 19)),oM 21 2,oO 22 (.bin .lss (.t 20) (.t 21))]) (.cond (.t 22) (.skip) (.exit 0))) (.seq (.block 1 (.seq (.reg [oM 25 0,oM 26 9,oM 27 1,oM 28 10,oO 29 (.call 91 [(.t 28),(kI 1)] none),oO 30 (.bldSl false 3 1 (.sl []) [(0,(.t 26)),(1,(.t 27)),(2,(.t 29))]),oO 31 (.call 90 [(.t 30)] none),oO 32 (.call 126 [(.t 25),(.t 31)] none),oM 9 32]) (.reg [oM 33 8,oM 34 9,oM 35 9,oO 36 (.len (.t 35)),oM 37 2,oM 38 8,oO 39 (.len (.t 38)),oO 40 (.bin .sub (.t 37) (.t 39)),oO 41 (.min [(.t 36),(.t 40)]),oO 42 (.slice 1 (.t 34) none (some (.t 41)) none),oO 43 (.app false 1 1 (.t 33) (.t 42)),oM 8 43]))) (.reg [oM 23 10,oO 24 (.bin .add (.t 23) (.k (.c (.d (.int .u64 1))))),oM 10 24]))
def tu:aA:=⟨3,45,.seq (.reg [oO 6 (.mv (.k (.c .nil))),oO 7 (.mv (kI 0))]) (.seq (.seq (.reg [oM 11 2,oO 12 (.bin .lss (.t 11) (kI 0)),oM 13 12,oG 14 (.mv (.t 2)) 13 false,oG 15 (.bin .gtr (.t 14) (kI 8160)) 13 false,oO 16 (.pick (.t 13) (.k (.c (.d (.bool true)))) (.t 15))]) (.cond (.t 16) (.seq (.reg [oO 6 (.mv (.k (.c .nil))),oO 7 (.mv (kI 4))]) (.ret)) (.skip))) (.seq (.reg [oM 17 2,oO 18 (.make true 1 1 (.int .u8 0) (kI 0) (.t 17)),oM 8 18]) (.seq (.reg [oO 9 (.mv (.k (.c .nil)))]) (.seq (.seq (.reg [oO 10 (.mv (.k (.c (.d (.int .u64 1)))))]) (.block 0 (.loop sw))) (.seq (.reg [oM 44 8,oM 6 44,oO 7 (.mv (kI 0))]) (.ret)))))),[(6,none),(7,none)]⟩
theorem Va:aw Tryz.prog { own:=[],comp:=[],frz:=[],nils:=[] } Tryz.f128=some tu:=by kernel_rfl
theorem zK (G:ah) (hF:G.at 0=some (.ra (cQ.map wD))) (hG:G.at 1=some (.ra (bp.map wD))) (key info:List UInt8) (hk:key.length≤140737488355328) (hb:info.length≤35184372088832) (n:Int) (hn1:-9223372036854775808≤n) (hn2:n≤9223372036854775807):aj Tryz.prog G 128 [.sl (key.map bD),.sl (info.map bD),.int .i64 n] (.tup [.c (.d (.sl ((ik key info n).map bD))),.c (.d (.int .i64 (kL n)))]):=by
  refine aB Tryz.func128 Va rfl rfl ?_;by_cases h0:n<0
  ·have hc:¬ (0≤n∧n≤8160):=by omega
   rw[sr hc,su key info hc];simp only[tu,af,ae,aa,seval,iteOmega,toNatUp];exact aW
  ·by_cases h1:8160<n
   ·have hc:¬ (0≤n∧n≤8160):=by omega
    rw[sr hc,su key info hc];simp only[tu,af,ae,aa,seval,iteOmega,toNatUp];exact aW
   ·have hc:0≤n∧n≤8160:=by omega
    rw[lh hc,j8 key info hc];obtain⟨m,rfl⟩:=YR hc.1;rw[ZS];simp only[tu,af,ae,aa,seval,iteOmega,toNatUp];refine bf (ug key info m) (fun i=>(m+31) / 32-i) (fun i=>i≤(m+31) / 32) 0 (Yd _) ?_ ?_
    ·refine aD (fun _=>144) ?_ ?_ rfl rfl <;> simp only[wx,aC,aK,aa,seval,iteOmega,toNatUp,gD,gB,iE]
    ·intro i hi;have hl:=FA key info m i;have hp:=CW key info i;by_cases hlt:i<(m+31) / 32
     ·have h32:32*i≤m:=by omega
      have hl:(gD key info m i).length=32*i:=by omega
      have hj:=dU G [dW key info i,info,aP (i+1) 1] (by simp) (by simp[bN]; omega);have hf:[dW key info i,info,aP (i+1) 1].flatten=dW key info i++info++[UInt8.ofNat (i+1)]:=by simp[Mn]
      rw[hf] at hj;have hm:=Lw G hF hG key (dW key info i++info++[UInt8.ofNat (i+1)]) hk (by simp; omega);rw[C0] at hm;have hl2:(dW key info (i+1)).length=32:=lc _ _;have hs:=O9 key info m i h32;have hs2:=FA key info m (i+1);have hmin:=S0 32 (m-32*i);rw[show ((m-32*i:Nat):Int)=(m:Int)-32*(i:Int) by omega] at hmin;have hs':gD key info m i++(dW key info (i+1)).take (min 32 (m-32*i))=gD key info m (i+1):=by
        rw[← hs]; congr 1
        rw[Nat.min_comm,← List.take_take,X7 (l:=dW key info (i+1)) (by omega)]
      have hlt2:((gD key info m i).length:Int)<(m:Int):=by omega
      have hmm:min 32 (m-32*i)≤32:=by omega
      have hml:((dW key info (i+1)).take (min 32 (m-32*i))).length=min 32 (m-32*i):=by rw[Yb,hl2]; omega
      have hcl:(gD key info m (i+1)).length=32*i+min 32 (m-32*i):=by omega
      generalize hq:min 32 (m-32*i)=q at *
      rcases i with _ | i
      ·simp only[Zs,ZD,ZP,Zr,Int.mul_zero,Int.sub_zero,Nat.mul_zero,YT] at hmin hl hl2 hs' hml hcl;simp only[sw,ug,iE,ae,aa,seval,iteOmega,toNatUp];refine sD (lu G (0+1) 1 (by decide)) ?_;refine sD (hj) ?_;refine sD (hm) ?_;simp only[ae,aa,seval,iteOmega,toNatUp,hl2,hl,hmin,hml,hs',bK,Int.sub_zero];refine a6 (0+1) (by omega) (by omega) (aD (fun _=>344) ?_ ?_ rfl rfl) <;> simp only[wx,aC,aK,aa,seval,iteOmega,toNatUp,iE,hcl]
      ·simp only[Zs,ZD,ZP,Zr] at hmin;simp only[sw,ug,iE,ae,aa,seval,iteOmega,toNatUp];refine sD (lu G (i+1+1) 1 (by decide)) ?_;refine sD (hj) ?_;refine sD (hm) ?_;simp only[ae,aa,seval,iteOmega,toNatUp,hl2,hl,hmin,hml,hs',bK];refine a6 (i+1+1) (by omega) (by omega) (aD (fun _=>344) ?_ ?_ rfl rfl) <;> simp only[wx,aC,aK,aa,seval,iteOmega,toNatUp,iE,hcl]
     ·obtain rfl:i=(m+31) / 32:=by omega
      have hlt2:¬ ((gD key info m ((m+31) / 32)).length:Int)<(m:Int):=by omega
      have he:gD key info m ((m+31) / 32)=fp key info m:=rfl;rw[he] at hlt2;simp only[sw,ug,ae,aa,seval,iteOmega,toNatUp,he];exact aW
def tv (key info:List UInt8) (n i:Nat):St:=⟨aY [(0,.w (.c (.d (.sl (key.map bD))))),(1,.w (.c (.d (.sl (info.map bD))))),(2,.w (.c (.d (.int .i64 (n:Int))))),(8,.w (.c (.own 1 1 0 (gB key info i).length))),(9,iE key info i),(10,.w (.c (.d (.int .i64 ((i+1:Nat):Int)))))],hL [(1,.row 1 ((gB key info i).map bD))],uL [1]⟩
def rM:aO := .seq (.seq (.reg [oM 19 8,oO 20 (.len (.t 19)),oM 21 2,oO 22 (.bin .lss (.t 20) (.t 21))]) (.cond (.t 22) (.skip) (.exit 0))) (.seq (.block 1 (.seq (.reg [oM 25 0,oM 26 9,oM 27 1,oM 28 10,oO 29 (.conv .u8 (.t 28)),oO 30 (.bldSl false 1 1 (.int .u8 0) [(0,(.t 29))]),oO 31 (.bldSl false 3 1 (.sl []) [(0,(.t 26)),(1,(.t 27)),(2,(.t 30))]),oO 32 (.call 43 [(.t 31)] none),oO 33 (.call 127 [(.t 25),(.t 32)] none),oM 9 33]) (.reg [oM 34 8,oM 35 9,oO 36 (.app false 1 1 (.t 34) (.t 35)),oM 8 36]))) (.reg [oM 23 10,oO 24 (.bin .add (.t 23) (kI 1)),oM 10 24]))
def sV:aA:=⟨3,40,.seq (.reg [oO 6 (.mv (.k (.c .nil))),oO 7 (.mv (kI 0))]) (.seq (.seq (.reg [oM 11 2,oO 12 (.bin .lss (.t 11) (kI 0)),oM 13 12,oG 14 (.mv (.t 2)) 13 false,oG 15 (.bin .gtr (.t 14) (kI 8160)) 13 false,oO 16 (.pick (.t 13) (.k (.c (.d (.bool true)))) (.t 15))]) (.cond (.t 16) (.seq (.reg [oO 6 (.mv (.k (.c .nil))),oO 7 (.mv (kI 4))]) (.ret)) (.skip))) (.seq (.reg [oO 17 (.bldSl true 0 1 (.int .u8 0) []),oO 18 (.bldSl false 0 1 (.int .u8 0) []),oM 8 17,oM 9 18]) (.seq (.seq (.reg [oO 10 (.mv (kI 1))]) (.block 0 (.loop rM))) (.seq (.reg [oM 37 8,oM 38 2,oO 39 (.slice 1 (.t 37) none (some (.t 38)) none),oM 6 39,oO 7 (.mv (kI 0))]) (.ret))))),[(6,none),(7,none)]⟩
theorem S4:aw Tryz.prog { own:=[17],comp:=[],frz:=[],nils:=[] } Tryz.f101=some sV:=by kernel_rfl
theorem Kb (G:ah) (key info:List UInt8) (hk:key.length≤140737488355328) (hb:info.length≤35184372088832) (n:Int) (hn1:-9223372036854775808≤n) (hn2:n≤9223372036854775807):aj Tryz.prog G 101 [.sl (key.map bD),.sl (info.map bD),.int .i64 n] (.tup [.c (.fr 1 ((ik key info n).map bD)),.c (.d (.int .i64 (kL n)))]):=by
  refine aB Tryz.func101 S4 rfl rfl ?_;by_cases h0:n<0
  ·have hc:¬ (0≤n∧n≤8160):=by omega
   rw[sr hc,su key info hc];simp only[sV,af,ae,aa,seval,iteOmega,toNatUp];exact dw
  ·by_cases h1:8160<n
   ·have hc:¬ (0≤n∧n≤8160):=by omega
    rw[sr hc,su key info hc];simp only[sV,af,ae,aa,seval,iteOmega,toNatUp];exact dw
   ·have hc:0≤n∧n≤8160:=by omega
    rw[lh hc,j8 key info hc];obtain⟨m,rfl⟩:=YR hc.1;rw[ZS];simp only[sV,af,ae,aa,seval,iteOmega,toNatUp];refine bf (tv key info m) (fun i=>(m+31) / 32-i) (fun i=>i≤(m+31) / 32) 0 (Yd _) ?_ ?_
    ·refine aD (fun _=>136) ?_ ?_ rfl rfl <;> simp only[wx,aC,aK,aa,seval,iteOmega,toNatUp,gB,iE]
    ·intro i hi;have hl:=nH key info i;have hp:=CW key info i;by_cases hlt:i<(m+31) / 32
     ·have hj:=mg G [dW key info i,info,[UInt8.ofNat (i+1)]] (by simp) (by simp; omega);have hf:[dW key info i,info,[UInt8.ofNat (i+1)]].flatten=dW key info i++info++[UInt8.ofNat (i+1)]:=by simp
      rw[hf] at hj;have hm:=J9 G key (dW key info i++info++[UInt8.ofNat (i+1)]) hk (by simp; omega);rw[C0] at hm;have hl2:(dW key info (i+1)).length=32:=lc _ _;have hs':gB key info i++dW key info (i+1)=gB key info (i+1):=rfl;have hcl:(gB key info (i+1)).length=32*i+32:=by rw[nH]; omega
      rcases i with _ | i
      ·simp only[Zs,ZD,ZP,Zr,Int.mul_zero,Int.sub_zero,Nat.mul_zero,YT] at hl hl2 hs' hcl;simp only[rM,tv,iE,ae,aa,seval,iteOmega,toNatUp];refine sD (hj) ?_;refine sD (hm) ?_;simp only[ae,aa,seval,iteOmega,toNatUp,hl2,hl,hs',bK,Int.sub_zero];refine a6 (0+1) (by omega) (by omega) (aD (fun _=>288) ?_ ?_ rfl rfl) <;> simp only[wx,aC,aK,aa,seval,iteOmega,toNatUp,iE,hcl]
      ·have hby:D.int .u8 ((i:Int)+1+1)=bD (UInt8.ofNat (i+1+1)):=by rw[← byte_of,IntWalk.u8_in _ (by omega)]; rfl
       simp only[rM,tv,iE,ae,aa,seval,iteOmega,toNatUp,hby];refine sD (hj) ?_;refine sD (hm) ?_;simp only[ae,aa,seval,iteOmega,toNatUp,hl2,hl,hs',bK];refine a6 (i+1+1) (by omega) (by omega) (aD (fun _=>288) ?_ ?_ rfl rfl) <;> simp only[wx,aC,aK,aa,seval,iteOmega,toNatUp,iE,hcl]
     ·obtain rfl:i=(m+31) / 32:=by omega
      have he:(gB key info ((m+31) / 32)).take m=fp key info m:=rfl;have hle:m≤(gB key info ((m+31) / 32)).length:=by omega
      simp only[rM,tv,ae,aa,seval,iteOmega,toNatUp];rw[← he,List.map_take];exact NI (id:=1) (s:=1) (by simp only[ae,aa,seval,iteOmega,toNatUp]) (by simp only[ae,aa,seval,iteOmega,toNatUp]) (by rw[Yc]; exact hle) (by simp only[ae,aa,seval,iteOmega,toNatUp])
theorem tw (G:ah) (key info:List UInt8) (hk:key.length≤140737488355328) (hb:info.length≤35184372088832) (n:Int) (hn1:-9223372036854775808≤n) (hn2:n≤9223372036854775807):aj Tryz.prog G 101 [.sl (key.map bD),.sl (info.map bD),.int .i64 n] (.tup [.c (.d (.sl ((ik key info n).map bD))),.c (.d (.int .i64 (kL n)))]):=pZ (Kb G key info hk hb n hn1 hn2)
def Kc:aA:=⟨3,19,.seq (.reg [oO 6 (.mv (.k (.c .nil)))]) (.seq (.reg [oO 8 (.bldSl false 1 1 (.int .u8 0) [(0,(.k (.c (.d (.int .u8 0)))))]),oM 7 8]) (.seq (.reg [oM 9 0,oO 10 (.s2b false (.t 9)),oM 11 7,oM 12 1,oO 13 (.s2b false (.t 12)),oM 14 7,oM 15 2,oO 16 (.call 141 [(.t 15)] none),oO 17 (.bldSl false 5 1 (.sl []) [(0,(.t 10)),(1,(.t 11)),(2,(.t 13)),(3,(.t 14)),(4,(.t 16))]),oO 18 (.call 90 [(.t 17)] (some (0,1))),oM 6 18]) (.ret))),[(6,none)]⟩
theorem Vb:aw Tryz.prog { own:=[18],comp:=[],frz:=[],nils:=[] } Tryz.f130=some Kc:=by kernel_rfl
theorem Xh (G:ah) (hF:G.at 0=some (.ra (cQ.map wD))) (hG:G.at 1=some (.ra (bp.map wD))) (p n:ByteArray) (c:List UInt8) (hp:p.size≤1099511627776) (hn:n.size≤1099511627776) (hc:c.length≤140737488355328):aj Tryz.prog G 130 [.str p,.str n,.sl (c.map bD)] (.w (.c (.fr 1 ((fq p.data.toList n.data.toList c).map bD)))):=by
  refine aB Tryz.func130 Vb rfl rfl ?_;have hp':p.data.toList.length=p.size:=rfl;have hn':n.data.toList.length=n.size:=rfl;have hj:=dU G [p.data.toList,[0],n.data.toList,[0],bW c] (by simp) (by simp[fY]; omega);have hf:[p.data.toList,[0],n.data.toList,[0],bW c].flatten=fq p.data.toList n.data.toList c:=by simp[fq]
  rw[hf] at hj;have hpm:p.size≤maxLen:=by unfold maxLen; omega
  have hnm:n.size≤maxLen:=by unfold maxLen; omega
  simp only[Kc,af,ae,aa,seval,iteOmega,toNatUp,hpm,hnm];refine sD (ud G hF hG c hc) ?_;refine sD (hj) ?_;exact ec
def HK:aA:=⟨3,17,.seq (.reg [oO 6 (.mv (.k (.c .nil)))]) (.seq (.reg [oM 7 0,oO 8 (.s2b false (.t 7)),oO 9 (.bldSl false 1 1 (.int .u8 0) [(0,(.k (.c (.d (.int .u8 0)))))]),oM 10 1,oO 11 (.s2b false (.t 10)),oO 12 (.bldSl false 1 1 (.int .u8 0) [(0,(.k (.c (.d (.int .u8 0)))))]),oM 13 2,oO 14 (.call 84 [(.t 13)] none),oO 15 (.bldSl false 5 1 (.sl []) [(0,(.t 8)),(1,(.t 9)),(2,(.t 11)),(3,(.t 12)),(4,(.t 14))]),oO 16 (.call 43 [(.t 15)] (some (0,1))),oM 6 16]) (.ret)),[(6,none)]⟩
theorem S5:aw Tryz.prog { own:=[16],comp:=[],frz:=[],nils:=[] } Tryz.f106=some HK:=by kernel_rfl
theorem Vd (G:ah) (p n:ByteArray) (c:List UInt8) (hp:p.size≤1099511627776) (hn:n.size≤1099511627776) (hc:c.length≤140737488355328):aj Tryz.prog G 106 [.str p,.str n,.sl (c.map bD)] (.w (.c (.fr 1 ((fq p.data.toList n.data.toList c).map bD)))):=by
  refine aB Tryz.func106 S5 rfl rfl ?_;have hp':p.data.toList.length=p.size:=rfl;have hn':n.data.toList.length=n.size:=rfl;have hj:=mg G [p.data.toList,[0],n.data.toList,[0],bW c] (by simp) (by simp[fY]; omega);have hf:[p.data.toList,[0],n.data.toList,[0],bW c].flatten=fq p.data.toList n.data.toList c:=by simp[fq]
  rw[hf] at hj;have hpm:p.size≤maxLen:=by unfold maxLen; omega
  have hnm:n.size≤maxLen:=by unfold maxLen; omega
  simp only[HK,af,ae,aa,seval,iteOmega,toNatUp,hpm,hnm];refine sD (nY G c hc) ?_;refine sD (hj) ?_;exact ec
theorem kf (G:ah) (v:Nat) (k:Int) (hk:0≤k∧k≤64):aj Tryz.prog G 91 [.int .u64 (v:Int),.int .i64 k] (.w (.c (.fr 1 ((aP v k.toNat).map bD)))):=by
  have c:=WX G v k;rw[show oV v k=aP v k.toNat from if_pos hk] at c;exact c
theorem S9 (G:ah) (v:Nat) (k:Int) (hk:0≤k∧k≤64):aj Tryz.prog G 44 [.int .u64 (v:Int),.int .i64 k] (.w (.c (.fr 1 ((aP v k.toNat).map bD)))):=by
  have c:=Uf G v k;rw[show oV v k=aP v k.toNat from if_pos hk] at c;exact c

def tz:aA:=⟨2,25,.seq (.reg [oO 4 (.mv (.k (.c .nil))),oO 5 (.mv (.k (.c .nil))),oO 6 (.mv (.k (.c (.d (.bool false)))))]) (.seq (.seq (.reg [oM 7 1,oO 8 (.bin .lss (.t 7) (kI 0)),oM 9 8,oG 10 (.mv (.t 1)) 9 false,oG 11 (.mv (.t 0)) 9 false,oG 12 (.len (.t 11)) 9 false,oG 13 (.bin .gtr (.t 10) (.t 12)) 9 false,oO 14 (.pick (.t 9) (.k (.c (.d (.bool true)))) (.t 13))]) (.cond (.t 14) (.seq (.reg [oO 4 (.mv (.k (.c .nil))),oO 5 (.mv (.k (.c .nil))),oO 6 (.mv (.k (.c (.d (.bool false)))))]) (.ret)) (.skip))) (.seq (.reg [oM 15 0,oM 16 1,oO 17 (.slice 1 (.t 15) none (some (.t 16)) none),oO 18 (.bldSl false 1 1 (.sl []) [(0,(.t 17))]),oO 19 (.call 90 [(.t 18)] none),oM 20 0,oM 21 1,oO 22 (.slice 1 (.t 20) (some (.t 21)) none none),oO 23 (.bldSl false 1 1 (.sl []) [(0,(.t 22))]),oO 24 (.call 90 [(.t 23)] none),
 oM 4 19,oM 5 24,oO 6 (.mv (.k (.c (.d (.bool true)))))]) (.ret))),[(4,none),(5,none),(6,none)]⟩
theorem Kk:aw Tryz.prog { own:=[],comp:=[],frz:=[],nils:=[] } Tryz.f124=some tz:=by kernel_rfl
set_option maxHeartbeats 800000 in
theorem yU (G:ah) (b:List UInt8) (n:Nat) (h:n≤b.length) (hb:b.length≤1099511627776):aj Tryz.prog G 124 [.sl (b.map bD),.int .i64 (n:Int)] (.tup [.c (.d (.sl ((b.take n).map bD))),.c (.d (.sl ((b.drop n).map bD))),.c (.d (.bool true))]):=by
  refine aB Tryz.func124 Kk rfl rfl ?_;have c1:=dU G [b.take n] (by simp) (by simp; omega);have c2:=dU G [b.drop n] (by simp) (by simp; omega);simp only[Ya,Yo,ZH,Zt,Ym] at c1 c2;have et:(b.drop n).take (b.length-n)=b.drop n:=X7 (by simp);have g:((n:Int)>(b.length:Int))=False:=eq_false (by omega);simp only[tz,af,ae,aa,seval,iteOmega,toNatUp,g];refine sC (c1) ?_;simp only[et,ae,aa,seval,iteOmega,toNatUp];refine sC (c2) ?_;simp only[et,ae,aa,seval,iteOmega,toNatUp];exact iN
theorem Vt (G:ah) (b:List UInt8) (n:Int) (h:n<0∨(b.length:Int)<n):aj Tryz.prog G 124 [.sl (b.map bD),.int .i64 n] (.tup [.c (.d (.sl [])),.c (.d (.sl [])),.c (.d (.bool false))]):=by
  refine aB Tryz.func124 Kk rfl rfl ?_;rcases Int.lt_or_le n 0 with h1 | h1
  ·simp only[tz,af,ae,aa,seval,iteOmega,toNatUp];exact qg (by simp only[ae,aa,seval,iteOmega,toNatUp] <;> rfl) (by simp only[ae,aa,seval,iteOmega,toNatUp] <;> rfl) (by simp only[ae,aa,seval,iteOmega,toNatUp])
  ·have g:(n>(b.length:Int))=True:=eq_true (by omega);simp only[tz,af,ae,aa,seval,iteOmega,toNatUp,g];exact qg (by simp only[ae,aa,seval,iteOmega,toNatUp] <;> rfl) (by simp only[ae,aa,seval,iteOmega,toNatUp] <;> rfl) (by simp only[ae,aa,seval,iteOmega,toNatUp])
def HR:aA:=⟨1,5,.seq (.reg [oO 2 (.mv (.k (.c .nil)))]) (.seq (.reg [oM 3 0,oO 4 (.call 35 [(.t 3),(kI 32)] none),oM 2 4]) (.ret)),[(2,none)]⟩
theorem Tg:aw Tryz.prog { own:=[],comp:=[],frz:=[],nils:=[] } Tryz.f59=some HR:=by kernel_rfl
theorem Kn (G:ah) (seed:Int):aj Tryz.prog G 59 [.int .i64 seed] (.w (.c (.d (.sl ((aS seed 32).map bD))))):=by
  refine aB Tryz.func59 Tg rfl rfl ?_;simp only[HR,af,ae,aa,seval,iteOmega,toNatUp];refine sD (nG G seed 32 (by decide)) ?_;exact aF
end Go.Proofs.YtlghfnidknfakaaGreatDoor
