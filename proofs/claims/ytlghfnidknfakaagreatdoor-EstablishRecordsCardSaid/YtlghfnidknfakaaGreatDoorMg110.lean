/- Texts of one's own, merged: from: Layer 1 on data: Put,Get,Same,Join,Hex: what they return. Own work. -/
import Derived.Test.YtlghfnidknfakaaGreatDoorProg
import Derived.Test.YtlghfnidknfakaaGreatDoorMg17
set_option linter.unusedVariables false
set_option linter.unusedSimpArgs false
namespace Go.Proofs.YtlghfnidknfakaaGreatDoor
open Go.RowKit IntWalk
set_option maxHeartbeats 400000
theorem fC {l:List UInt8} {i:Nat} {x:D} (hi:i<l.length) (hx:x.one=true):iZ .sc (.c (.d x)) i 0 (.row 1 (l.map bD))=some (.row 1 ((l.map bD).set i x)):=by
  simp[iZ,aJ,Wz hi,bD,fq,hx]
theorem rZ {l:List UInt32} {i:Nat} {x:D} (hi:i<l.length) (hx:x.one=true):iZ .sc (.c (.d x)) i 0 (.row 1 (l.map wD))=some (.row 1 ((l.map wD).set i x)):=by
  simp[iZ,aJ,Wz hi,wD,fq,hx]
theorem gn (l:List UInt8) (i:Nat) (x:UInt8):(l.map bD).set i (bD x)=(l.set i x).map bD:=wK bD l i x
theorem r6 (l:List UInt32) (i:Nat) (x:UInt32):(l.map wD).set i (wD x)=(l.set i x).map wD:=wK wD l i x
theorem yx (n:Nat):List.replicate n (D.int .u8 0)=(List.replicate n (0:UInt8)).map bD:=by simp[bD]
def aN (v n:Nat):List UInt8:=(List.range n).map fun i=>UInt8.ofNat (v / 256^(n-1-i))
def gQ (v n m:Nat):List UInt8:=List.replicate m 0++(aN v n).drop m
def nS (v:Nat) (n:Int):List UInt8:=if 0≤n∧n≤64 then aN v n.toNat else []
theorem bW (v n:Nat):(aN v n).length=n:=by simp[aN]
theorem uv (v n m:Nat) (h:m≤n):(gQ v n m).length=n:=by simp[gQ,bW]; omega
theorem BN (v n:Nat):gQ v n 0=aN v n:=by simp[gQ]
theorem BO (v n:Nat):gQ v n n=List.replicate n 0:=by simp[gQ,bW]
theorem BP (v n i:Nat) (h:i+1≤n):gQ v n i=(gQ v n (i+1)).set i (UInt8.ofNat (v / 256^(n-(i+1)))):=by
  apply XJ;intro j;rw[Yt];have hl:i<(aN v n).length:=by rw[bW]; omega
  by_cases hj:i=j
  ·subst hj;rw[if_pos rfl,if_pos (by rw[uv _ _ _ h]; omega)];simp only[gQ,List.getElem?_append,WY,Nat.lt_irrefl,if_false,Yz,Xp,XN];rw[Wz hl];simp[aN,Nat.sub_sub,Nat.add_comm 1 i]
  ·rw[if_neg hj];simp only[gQ,List.getElem?_append,WY,List.getElem?_replicate,Xp];by_cases h1:j<i
   ·rw[if_pos h1,if_pos h1,if_pos (by omega),if_pos (by omega)]
   ·rw[if_neg h1,if_neg (by omega)]
    congr 1; omega
theorem byte_of (v:Nat):D.int .u8 (IntKind.u8.wrap (v:Int))=bD (UInt8.ofNat v):=by
  rw[IntKind.wrap_u8];simp[bD]
def nE (v n m:Nat):St:=⟨aQ [(0,.w (.c (.d (.int .u64 ((v / 256^(n-m):Nat):Int))))),(5,.w (.c (.own 1 1 0 n))),(6,.w (.c (.d (.int .i64 ((m:Int)-1)))))],hL [(1,.row 1 ((gQ v n m).map bD))],uL [1]⟩
def vM:aM := .seq (.seq (.reg [oM 17 6,oO 18 (.bin .geq (.t 17) (kI 0))]) (.cond (.t 18) (.skip) (.exit 0))) (.seq (.block 1 (.seq (.reg [oM 21 5,oM 22 6,oM 23 0,oO 24 (.conv .u8 (.t 23)),oO 25 (.idxSl 1 (.t 21) (.t 22)),oN (.store .sc (.t 25) (.t 24))]) (.reg [oM 26 0,oO 27 (.bin .shr (.t 26) (.k (.c (.d (.int .u64 8))))),oM 0 27]))) (.reg [oM 19 6,oO 20 (.bin .sub (.t 19) (kI 1)),oM 6 20]))
def r7:aE:=⟨2,29,.seq (.reg [oO 4 (.mv (.k (.c .nil)))]) (.seq (.seq (.reg [oM 7 1,oO 8 (.bin .lss (.t 7) (kI 0)),oM 9 8,oG 10 (.mv (.t 1)) 9 false,oG 11 (.bin .gtr (.t 10) (kI 64)) 9 false,oO 12 (.pick (.t 9) (.k (.c (.d (.bool true)))) (.t 11))]) (.cond (.t 12) (.seq (.reg [oO 4 (.mv (.k (.c .nil)))]) (.ret)) (.skip))) (.seq (.reg [oM 13 1,oO 14 (.make true 1 1 (.int .u8 0) (.t 13) (.t 13)),oM 5 14]) (.seq (.seq (.reg [oM 15 1,oO 16 (.bin .sub (.t 15) (kI 1)),oM 6 16]) (.block 0 (.loop vM))) (.seq (.reg [oM 28 5,oM 4 28]) (.ret))))),[(4,none)]⟩
theorem IM:aC Tryz.prog { own:=[],comp:=[],frz:=[],nils:=[] } Tryz.f91=some r7:=by kernel_rfl
theorem kK (G:ah) (v n:Nat) (hn:n≤64):ak Tryz.prog G 91 [.int .u64 v,.int .i64 n] (.w (.c (.fr 1 ((aN v n).map bD)))):=by
  refine aG Tryz.func91 IM rfl rfl ?_;have e1:IntKind.i64.wrap ((n:Int)-1)=(n:Int)-1:=IntWalk.i64_in _ (by omega);simp only[r7,af,wx,aa,seval,iteOmega,toNatUp,e1];refine ba (nE v n) (fun m=>m) (fun m=>m≤n) n (WM _) ?_ ?_
  ·refine aw (fun _=>112) ?_ ?_ rfl rfl <;> simp only[wx,am,aa,seval,iteOmega,toNatUp,BO,yx,Yz,Nat.pow_zero,Nat.div_one]
  ·intro m hm;rcases Xw m with rfl | hpos
   ·simp only[vM,nE,wx,aa,seval,iteOmega,toNatUp,BN];refine eE (id:=1) (n:=n) (s:=1) ?_ ?_ ?_ <;> simp only[wx,aa,seval,iteOmega,toNatUp,bW]
   ·obtain⟨i,rfl⟩:∃ i,m=i+1:=⟨m-1,by omega⟩
    have e2:((i+1:Nat):Int)-1=(i:Int):=by omega
    have hlt:i<(gQ v n (i+1)).length:=by rw[uv _ _ _ hm]; omega
    have e3:IntKind.i64.wrap ((i:Int)-1)=(i:Int)-1:=IntWalk.i64_in _ (by omega);simp only[vM,nE,wx,aa,seval,iteOmega,toNatUp,e2,e3,Xr,XN,byte_of,fC hlt (eZ _),gn,← BP _ _ _ hm,IntKind.bits];refine aS i (by omega) (by omega) (aw id ?_ ?_ rfl rfl) <;> simp only[wx,am,aa,seval,iteOmega,toNatUp];have e4:v / 256^(n-(i+1)) / 256=v / 256^(n-i):=by
      rw[show n-i=n-(i+1)+1 by omega,Nat.pow_succ,← Nat.div_div_eq_div_mul]
    simpa using congrArg (Nat.cast:Nat→Int) e4
theorem Vf (G:ah) (v:Nat) (n:Int):ak Tryz.prog G 91 [.int .u64 v,.int .i64 n] (.w (.c (.fr 1 ((nS v n).map bD)))):=by
  unfold nS;by_cases h:0≤n∧n≤64
  ·rw[if_pos h];obtain⟨n,rfl⟩:=Xz h.1;exact kK G v n (by omega)
  ·rw[if_neg h];refine aG Tryz.func91 IM rfl rfl ?_;by_cases h0:n<0
   ·simp only[r7,af,wx,aa,seval,iteOmega,toNatUp];exact pc (by simp[wx,aa,seval,iteOmega,toNatUp])
   ·have h1:64<n:=by omega
    simp only[r7,af,wx,aa,seval,iteOmega,toNatUp];exact pc (by simp[wx,aa,seval,iteOmega,toNatUp])
def u4:aM := .seq (.seq (.reg [oM 17 6,oO 18 (.bin .geq (.t 17) (kI 0))]) (.cond (.t 18) (.skip) (.exit 0))) (.seq (.block 1 (.seq (.reg [oM 21 5,oM 22 6,oM 23 0,oO 24 (.conv .u8 (.t 23)),oO 25 (.idxSl 1 (.t 21) (.t 22)),oN (.store .sc (.t 25) (.t 24))]) (.reg [oM 26 0,oO 27 (.bin .shr (.t 26) (.k (.c (.d (.int .u64 8))))),oM 0 27]))) (.reg [oM 19 6,oO 20 (.bin .sub (.t 19) (kI 1)),oM 6 20]))
def rG:aE:=⟨2,29,.seq (.reg [oO 4 (.mv (.k (.c .nil)))]) (.seq (.seq (.reg [oM 7 1,oO 8 (.bin .lss (.t 7) (kI 0)),oM 9 8,oG 10 (.mv (.t 1)) 9 false,oG 11 (.bin .gtr (.t 10) (kI 64)) 9 false,oO 12 (.pick (.t 9) (.k (.c (.d (.bool true)))) (.t 11))]) (.cond (.t 12) (.seq (.reg [oO 4 (.mv (.k (.c .nil)))]) (.ret)) (.skip))) (.seq (.reg [oM 13 1,oO 14 (.make true 1 1 (.int .u8 0) (.t 13) (.t 13)),oM 5 14]) (.seq (.seq (.reg [oM 15 1,oO 16 (.bin .sub (.t 15) (kI 1)),oM 6 16]) (.block 0 (.loop u4))) (.seq (.reg [oM 28 5,oM 4 28]) (.ret))))),[(4,none)]⟩
theorem Gn:aC Tryz.prog { own:=[],comp:=[],frz:=[],nils:=[] } Tryz.f44=some rG:=by kernel_rfl
theorem pf (G:ah) (v n:Nat) (hn:n≤64):ak Tryz.prog G 44 [.int .u64 v,.int .i64 n] (.w (.c (.fr 1 ((aN v n).map bD)))):=by
  refine aG Tryz.func44 Gn rfl rfl ?_;have e1:IntKind.i64.wrap ((n:Int)-1)=(n:Int)-1:=IntWalk.i64_in _ (by omega);simp only[rG,af,wx,aa,seval,iteOmega,toNatUp,e1];refine ba (nE v n) (fun m=>m) (fun m=>m≤n) n (WM _) ?_ ?_
  ·refine aw (fun _=>112) ?_ ?_ rfl rfl <;> simp only[wx,am,aa,seval,iteOmega,toNatUp,BO,yx,Yz,Nat.pow_zero,Nat.div_one]
  ·intro m hm;rcases Xw m with rfl | hpos
   ·simp only[u4,nE,wx,aa,seval,iteOmega,toNatUp,BN];refine eE (id:=1) (n:=n) (s:=1) ?_ ?_ ?_ <;> simp only[wx,aa,seval,iteOmega,toNatUp,bW]
   ·obtain⟨i,rfl⟩:∃ i,m=i+1:=⟨m-1,by omega⟩
    have e2:((i+1:Nat):Int)-1=(i:Int):=by omega
    have hlt:i<(gQ v n (i+1)).length:=by rw[uv _ _ _ hm]; omega
    have e3:IntKind.i64.wrap ((i:Int)-1)=(i:Int)-1:=IntWalk.i64_in _ (by omega);simp only[u4,nE,wx,aa,seval,iteOmega,toNatUp,e2,e3,Xr,XN,byte_of,fC hlt (eZ _),gn,← BP _ _ _ hm,IntKind.bits];refine aS i (by omega) (by omega) (aw id ?_ ?_ rfl rfl) <;> simp only[wx,am,aa,seval,iteOmega,toNatUp];have e4:v / 256^(n-(i+1)) / 256=v / 256^(n-i):=by
      rw[show n-i=n-(i+1)+1 by omega,Nat.pow_succ,← Nat.div_div_eq_div_mul]
    simpa using congrArg (Nat.cast:Nat→Int) e4
theorem SK (G:ah) (v:Nat) (n:Int):ak Tryz.prog G 44 [.int .u64 v,.int .i64 n] (.w (.c (.fr 1 ((nS v n).map bD)))):=by
  unfold nS;by_cases h:0≤n∧n≤64
  ·rw[if_pos h];obtain⟨n,rfl⟩:=Xz h.1;exact pf G v n (by omega)
  ·rw[if_neg h];refine aG Tryz.func44 Gn rfl rfl ?_;by_cases h0:n<0
   ·simp only[rG,af,wx,aa,seval,iteOmega,toNatUp];exact pc (by simp[wx,aa,seval,iteOmega,toNatUp])
   ·have h1:64<n:=by omega
    simp only[rG,af,wx,aa,seval,iteOmega,toNatUp];exact pc (by simp[wx,aa,seval,iteOmega,toNatUp])
theorem toList_mk (l:List UInt8):(⟨l.toArray⟩:ByteArray).toList=l:=Go.ByteArray.toList_mk l
theorem BQ (l m:List UInt8):jk .eql ⟨l.toArray⟩ ⟨m.toArray⟩=some (.bool (l==m)):=by
  simp only[jk,toList_mk]
def Ec:aE:=⟨2,10,.seq (.reg [oO 4 (.mv (.k (.c (.d (.bool false)))))]) (.seq (.reg [oM 5 0,oO 6 (.b2s (.t 5)),oM 7 1,oO 8 (.b2s (.t 7)),oO 9 (.bin .eql (.t 6) (.t 8)),oM 4 9]) (.ret)),[(4,none)]⟩
theorem OE:aC Tryz.prog { own:=[],comp:=[],frz:=[],nils:=[] } Tryz.f20=some Ec:=by kernel_rfl
theorem rH (G:ah) (l m:List UInt8):ak Tryz.prog G 20 [.sl (l.map bD),.sl (m.map bD)] (.w (.c (.d (.bool (l==m))))):=by
  refine aG Tryz.func20 OE rfl rfl ?_;simp only[Ec,af,wx,aa,seval,iteOmega,toNatUp,qT,BQ];exact jf (by simp only[wx,aa,seval,iteOmega,toNatUp])
theorem Ed (ls:List (List UInt8)):dk 1 (ls.map fun l=>D.sl (l.map bD))=true:=oI _ (fun _=>rfl) ls
def wN (ls:List (List UInt8)) (i:Nat):St:=⟨aQ [(0,.w (.c (.d (.sl (ls.map fun l=>D.sl (l.map bD)))))),(3,.w (.c (.own 1 1 0 ((ls.take i).flatten).length))),(4,.w (.c (.d (.int .i64 (i:Int)))))],hL [(1,.row 1 (((ls.take i).flatten).map bD))],uL [1]⟩
theorem qA {α:Type} (ls:List (List α)) (i:Nat) (h:i<ls.length):(ls.take (i+1)).flatten=(ls.take i).flatten++ls[i]:=by
  rw[XH h,List.flatten_append]; simp
theorem wO {α:Type} (ls:List (List α)) (i:Nat) (h:i<ls.length):(ls.take i).flatten.length+ls[i].length≤ls.flatten.length:=by
  have h1:=qA ls i h;have h2:ls.flatten=(ls.take (i+1)).flatten++(ls.drop (i+1)).flatten:=by rw[← List.flatten_append,Xg]
  have h3:=congrArg List.length h2;rw[WA,h1,WA] at h3;omega
def uM:aM := .seq (.seq (.reg [oM 6 4,oM 7 0,oO 8 (.len (.t 7)),oO 9 (.bin .lss (.t 6) (.t 8))]) (.cond (.t 9) (.skip) (.exit 0))) (.seq (.block 1 (.reg [oM 12 3,oM 13 0,oM 14 4,oO 15 (.idxSl 1 (.t 13) (.t 14)),oO 16 (.load .sc (.t 15)),oO 17 (.app false 1 1 (.t 12) (.t 16)),oM 3 17])) (.reg [oM 10 4,oO 11 (.bin .add (.t 10) (kI 1)),oM 4 11]))
def Ee:aE:=⟨1,19,.seq (.reg [oO 2 (.mv (.k (.c .nil)))]) (.seq (.reg [oO 5 (.bldSl true 0 1 (.int .u8 0) []),oM 3 5]) (.seq (.seq (.reg [oO 4 (.mv (kI 0))]) (.block 0 (.loop uM))) (.seq (.reg [oM 18 3,oM 2 18]) (.ret)))),[(2,none)]⟩
theorem OG:aC Tryz.prog { own:=[5],comp:=[],frz:=[],nils:=[] } Tryz.f43=some Ee:=by kernel_rfl
theorem kA (G:ah) (ls:List (List UInt8)) (hl:ls.length≤9223372036854775807) (hf:ls.flatten.length≤140737488355328):ak Tryz.prog G 43 [.sl (ls.map fun l=>D.sl (l.map bD))] (.w (.c (.fr 1 (ls.flatten.map bD)))):=by
  refine aG Tryz.func43 OG rfl rfl ?_;simp only[Ee,af,wx,aa,seval,iteOmega,toNatUp];refine ba (wN ls) (fun i=>ls.length-i) (fun i=>i≤ls.length) 0 (WI _) ?_ ?_
  ·refine aw (fun _=>40) ?_ ?_ rfl rfl <;> simp only[wx,am,aa,seval,iteOmega,toNatUp]
  ·intro i hi;by_cases hlt:i<ls.length
   ·have e2:ls[i]?=some ls[i]:=Wz hlt;have e4:IntKind.i64.wrap ((i:Int)+1)=((i+1:Nat):Int):=by rw[IntWalk.i64_in _ (by omega)]; rfl
    have h5:=wO ls i hlt;simp only[uM,wN,wx,aa,seval,iteOmega,toNatUp,aJ,e2,e4,X6,bI];refine aS (i+1) (by omega) (by omega) (aw (fun _=>136) ?_ ?_ rfl rfl) <;> simp only[wx,am,aa,seval,iteOmega,toNatUp,qA ls i hlt]
   ·have:ls.take i=ls:=WE (by omega);simp only[uM,wN,wx,aa,seval,iteOmega,toNatUp,this];refine eE (id:=1) (n:=ls.flatten.length) (s:=1) ?_ ?_ ?_ <;> simp only[wx,aa,seval,iteOmega,toNatUp]
def wP (ls:List (List UInt8)) (i:Nat):St:=⟨aQ [(0,.w (.c (.d (.sl (ls.map fun l=>D.sl (l.map bD)))))),(3,.w (.c (.d (.int .i64 (((ls.take i).flatten).length:Int))))),(9,.w (.c (.d (.sl (ls.map fun l=>D.sl (l.map bD)))))),(10,.w (.c (.d (.int .i64 (ls.length:Int))))),(11,.w (.c (.d (.int .i64 (i:Int)))))],hL [],uL []⟩
def wQ (ls:List (List UInt8)) (i:Nat):St:=⟨aQ [(6,.w (.c (.own 1 1 0 ((ls.take i).flatten).length))),(22,.w (.c (.d (.sl (ls.map fun l=>D.sl (l.map bD)))))),(23,.w (.c (.d (.int .i64 (ls.length:Int))))),(24,.w (.c (.d (.int .i64 (i:Int)))))],hL [(1,.row 1 (((ls.take i).flatten).map bD))],uL [1]⟩
def u5:aM := .seq (.reg [oO 12 (.bin .lss (.t 11) (.t 10))]) (.seq (.cond (.t 12) (.skip) (.exit 0)) (.seq (.block 1 (.seq (.reg [oO 13 (.idxSl 1 (.t 9) (.t 11)),oO 14 (.load .sc (.t 13)),oM 5 14]) (.reg [oM 15 3,oM 16 5,oO 17 (.len (.t 16)),oO 18 (.bin .add (.t 15) (.t 17)),oM 3 18]))) (.reg [oO 19 (.bin .add (.t 11) (kI 1)),oM 11 19])))
def u6:aM := .seq (.reg [oO 25 (.bin .lss (.t 24) (.t 23))]) (.seq (.cond (.t 25) (.skip) (.exit 2)) (.seq (.block 3 (.seq (.reg [oO 26 (.idxSl 1 (.t 22) (.t 24)),oO 27 (.load .sc (.t 26)),oM 8 27]) (.reg [oM 28 6,oM 29 8,oO 30 (.app false 1 1 (.t 28) (.t 29)),oM 6 30]))) (.reg [oO 31 (.bin .add (.t 24) (kI 1)),oM 24 31])))
def Gp:aE:=⟨1,33,.seq (.reg [oO 2 (.mv (.k (.c .nil)))]) (.seq (.reg [oO 3 (.mv (kI 0))]) (.seq (.seq (.reg [oM 9 0,oO 10 (.len (.t 9)),oO 11 (.mv (kI 0))]) (.block 0 (.loop u5))) (.seq (.reg [oM 20 3,oO 21 (.make true 1 1 (.int .u8 0) (kI 0) (.t 20)),oM 6 21]) (.seq (.seq (.reg [oM 22 0,oO 23 (.len (.t 22)),oO 24 (.mv (kI 0))]) (.block 2 (.loop u6))) (.seq (.reg [oM 32 6,oM 2 32]) (.ret)))))),[(2,none)]⟩
theorem Qv:aC Tryz.prog { own:=[],comp:=[],frz:=[],nils:=[] } Tryz.f90=some Gp:=by kernel_rfl
theorem fo (G:ah) (ls:List (List UInt8)) (hl:ls.length≤9223372036854775807) (hf:ls.flatten.length≤140737488355328):ak Tryz.prog G 90 [.sl (ls.map fun l=>D.sl (l.map bD))] (.w (.c (.fr 1 (ls.flatten.map bD)))):=by
  refine aG Tryz.func90 Qv rfl rfl ?_;simp only[Gp,af,wx,aa,seval,iteOmega,toNatUp];refine ba (wP ls) (fun i=>ls.length-i) (fun i=>i≤ls.length) 0 (WI _) ?_ ?_
  ·refine aw id ?_ ?_ rfl rfl <;> simp only[wx,am,aa,seval,iteOmega,toNatUp]
  ·intro i hi;by_cases hlt:i<ls.length
   ·have e2:ls[i]?=some ls[i]:=Wz hlt;have e4:IntKind.i64.wrap ((i:Int)+1)=((i+1:Nat):Int):=by rw[IntWalk.i64_in _ (by omega)]; rfl
    have h5:=wO ls i hlt;have e5:IntKind.i64.wrap (((ls.take i).flatten.length:Int)+(ls[i].length:Int))=(((ls.take (i+1)).flatten.length:Nat):Int):=by
      rw[qA ls i hlt,WA,IntWalk.i64_in _ (by omega)]; rfl
    simp only[u5,wP,wx,aa,seval,iteOmega,toNatUp,aJ,e2,e4,e5];refine aS (i+1) (by omega) (by omega) (aw id ?_ ?_ rfl rfl) <;> simp only[wx,am,aa,seval,iteOmega,toNatUp]
   ·have:ls.take i=ls:=WE (by omega);simp only[u5,wP,wx,aa,seval,iteOmega,toNatUp,this,X6];refine ba (wQ ls) (fun i=>ls.length-i) (fun i=>i≤ls.length) 0 (WI _) ?_ ?_
    ·refine aw (fun _=>168) ?_ ?_ rfl rfl <;> simp only[wx,am,aa,seval,iteOmega,toNatUp]
    ·intro i hi;by_cases hlt:i<ls.length
     ·have e2:ls[i]?=some ls[i]:=Wz hlt;have e4:IntKind.i64.wrap ((i:Int)+1)=((i+1:Nat):Int):=by rw[IntWalk.i64_in _ (by omega)]; rfl
      have h5:=wO ls i hlt;simp only[u6,wQ,wx,aa,seval,iteOmega,toNatUp,aJ,e2,e4,X6,bI];refine aS (i+1) (by omega) (by omega) (aw (fun _=>240) ?_ ?_ rfl rfl) <;> simp only[wx,am,aa,seval,iteOmega,toNatUp,qA ls i hlt]
     ·have:ls.take i=ls:=WE (by omega);simp only[u6,wQ,wx,aa,seval,iteOmega,toNatUp,this];refine eE (id:=1) (n:=ls.flatten.length) (s:=1) ?_ ?_ ?_ <;> simp only[wx,aa,seval,iteOmega,toNatUp]
def aX (l:List UInt8):Nat:=l.foldl (fun a x=>(a*256+x.toNat)%18446744073709551616) 0
theorem Gq (l:List UInt8):aX l<18446744073709551616:=by
  unfold aX;rcases List.eq_nil_or_concat l with rfl | ⟨a,x,rfl⟩
  ·simp
  ·simp only[List.concat_eq_append,List.foldl_append,XX,List.foldl_nil]; omega
theorem u64_in (n:Int) (h₀:0≤n) (h₁:n<2^64):IntKind.u64.wrap n=n:=by rw[IntKind.wrap_u64]; omega
theorem Nk (a:List UInt8) (x:UInt8):bits .or .u64 (IntKind.u64.wrap ((aX a:Int)*256)) (x.toNat:Int)=(aX (a++[x]):Int):=by
  have hx:x.toNat<256:=x.toNat_lt
  have h1:=bits_join .u64 64 (by decide) u64_in 8 (IntKind.u64.wrap ((aX a:Int)*256)) (x.toNat:Int)
    (by rw[IntKind.wrap_u64]; omega) (by rw[IntKind.wrap_u64]; omega) (by rw[IntKind.wrap_u64]; omega) (by omega) (by omega) (by omega)
  rw[h1,IntKind.wrap_u64];simp only[aX,List.foldl_append,XX,List.foldl_nil];omega
theorem BR (l:List UInt8) (j:Nat) (h:j<l.length):bits .or .u64 (IntKind.u64.wrap ((aX (l.take j):Int)*256)) (l[j].toNat:Int)=(aX (l.take (j+1)):Int):=by
  rw[Nk,XH h]
theorem OH (a b:List UInt8):aX (a++b)=(aX a*256^b.length+aX b)%18446744073709551616:=by
  have key:∀ (n:Nat) (b:List UInt8),b.length=n→aX (a++b)=(aX a*256^n+aX b)%18446744073709551616:=by
    intro n
    induction n with
    | zero =>
      intro b hb;have:b=[]:=Xs hb;subst this;have h0:aX []=0:=rfl;rw[WS,Nat.pow_zero,h0];have:=Gq a;omega
    | succ n ih =>
      intro b hb;rcases List.eq_nil_or_concat b with rfl | ⟨c,x,rfl⟩
      ·simp at hb
      ·rw[List.concat_eq_append] at hb ⊢;rw[← W7];have h1:∀ l:List UInt8,aX (l++[x])=(aX l*256+x.toNat)%18446744073709551616:=fun l=>by simp[aX]
       rw[h1,h1,ih c (by simpa using hb),Nat.pow_succ];generalize aX a=p;generalize aX c=q;generalize 256^n=r;have e:p*(r*256)=p*r*256:=by rw[Nat.mul_assoc]
       rw[e];generalize p*r=z;omega
  exact key _ b rfl
theorem Nl (l:List UInt8) (h:8<l.length):aX (l.drop (l.length-8))=aX l:=by
  have h1:=OH (l.take (l.length-8)) (l.drop (l.length-8));rw[Xg] at h1;have h2:(l.drop (l.length-8)).length=8:=by rw[WL]; omega
  rw[h2] at h1;have h3:=Gq (l.drop (l.length-8));rw[h1];have:(256:Nat)^8=18446744073709551616:=by decide
  rw[this];omega
def sV (l:List UInt8) (i:Nat):St:=⟨aQ [(3,.w (.c (.d (.int .u64 (aX (l.take i)))))),(14,.w (.c (.d (.sl (l.map bD))))),(15,.w (.c (.d (.int .i64 (l.length:Int))))),(16,.w (.c (.d (.int .i64 (i:Int)))))],hL [],uL []⟩
def qU:aM := .seq (.reg [oO 17 (.bin .lss (.t 16) (.t 15))]) (.seq (.cond (.t 17) (.skip) (.exit 0)) (.seq (.block 1 (.seq (.reg [oO 18 (.idxSl 1 (.t 14) (.t 16)),oO 19 (.load .sc (.t 18)),oM 5 19]) (.reg [oM 20 3,oO 21 (.bin .shl (.t 20) (.k (.c (.d (.int .u64 8))))),oM 22 5,oO 23 (.conv .u64 (.t 22)),oO 24 (.bin .or (.t 21) (.t 23)),oM 3 24]))) (.reg [oO 25 (.bin .add (.t 16) (kI 1)),oM 16 25])))
def xA:aE:=⟨1,27,.seq (.reg [oO 2 (.mv (.k (.c (.d (.int .u64 0)))))]) (.seq (.seq (.reg [oM 6 0,oO 7 (.len (.t 6)),oO 8 (.bin .gtr (.t 7) (kI 8))]) (.cond (.t 8) (.reg [oM 9 0,oM 10 0,oO 11 (.len (.t 10)),oO 12 (.bin .sub (.t 11) (kI 8)),oO 13 (.slice 1 (.t 9) (some (.t 12)) none none),oM 0 13]) (.skip))) (.seq (.reg [oO 3 (.mv (.k (.c (.d (.int .u64 0)))))]) (.seq (.seq (.reg [oM 14 0,oO 15 (.len (.t 14)),oO 16 (.mv (kI 0))]) (.block 0 (.loop qU))) (.seq (.reg [oM 26 3,oM 2 26]) (.ret))))),[(2,none)]⟩
theorem SL:aC Tryz.prog { own:=[],comp:=[],frz:=[],nils:=[] } Tryz.f48=some xA:=by kernel_rfl
theorem Ky (G:ah) (Q:AX→St→Prop) (l:List UInt8) (hl:l.length≤8) (σ:St) (he:dI σ (sV l 0)) (hq:∀ f,f 3=.w (.c (.d (.int .u64 (aX l))))→Q (.ex 0) ⟨f,hN,uN⟩):bA Tryz.prog G (.loop qU) Q σ:=by
  refine ba (sV l) (fun i=>l.length-i) (fun i=>i≤l.length) 0 (WI _) he ?_;intro i hi;by_cases hlt:i<l.length
  ·have hb:=l[i].toNat_lt;have e2:l[i]?=some l[i]:=Wz hlt;have e3:IntKind.u64.wrap (l[i].toNat:Int)=(l[i].toNat:Int):=u64_in _ (by omega) (by omega);have e4:IntKind.i64.wrap ((i:Int)+1)=((i+1:Nat):Int):=by rw[IntWalk.i64_in _ (by omega)]; rfl
   have e5:=BR l i hlt;simp only[qU,sV,wx,aa,seval,iteOmega,toNatUp,aJ,e2,IntKind.bits,e3,e4];refine aS (i+1) (by omega) (by omega) (aw id ?_ ?_ rfl rfl) <;> simp only[wx,am,aa,seval,iteOmega,toNatUp,← e5]
  ·have:l.take i=l:=WE (by omega);simp only[qU,sV,wx,aa,seval,iteOmega,toNatUp,this];exact hq _ (by simp only[wx,aa,seval,iteOmega,toNatUp])
theorem pI (G:ah) (l:List UInt8) (hl:l.length≤9223372036854775807):ak Tryz.prog G 48 [.sl (l.map bD)] (.w (.c (.d (.int .u64 (aX l))))):=by
  refine aG Tryz.func48 SL rfl rfl ?_;by_cases h8:8<l.length
  ·have e0:IntKind.i64.wrap ((l.length:Int)-8)=((l.length-8:Nat):Int):=by rw[IntWalk.i64_in _ (by omega)]; omega
   have e1:(l.drop (l.length-8)).take (l.length-(l.length-8))=l.drop (l.length-8):=WE (by rw[WL]; omega);simp only[xA,af,wx,aa,seval,iteOmega,toNatUp,e0,e1];refine Ky G _ (l.drop (l.length-8)) (by rw[WL]; omega) _ ?_ fun f hf=>?_
   ·refine aw id ?_ ?_ rfl rfl <;> simp only[wx,am,aa,seval,iteOmega,toNatUp] <;> rfl
   ·rw[Nl l h8] at hf;simp only[wx,aa,seval,iteOmega,toNatUp,hf];exact jf (by simp only[wx,aa,seval,iteOmega,toNatUp])
  ·simp only[xA,af,wx,aa,seval,iteOmega,toNatUp];refine Ky G _ l (by omega) _ ?_ fun f hf=>?_
   ·refine aw id ?_ ?_ rfl rfl <;> simp only[wx,am,aa,seval,iteOmega,toNatUp] <;> rfl
   ·simp only[wx,aa,seval,iteOmega,toNatUp,hf];exact jf (by simp only[wx,aa,seval,iteOmega,toNatUp])
theorem BS (v k:Nat):aN v (k+1)=aN (v / 256) k++[UInt8.ofNat v]:=by
  unfold aN;rw[Ye,Xc]
  congr 1
  ·apply Xj;intro i hi;have hi':i<k:=X9.1 hi;rw[show k+1-1-i=(k-1-i)+1 by omega,Nat.pow_succ,Nat.mul_comm,← Nat.div_div_eq_div_mul]
  ·simp
theorem Ef (a:List UInt8) (x:UInt8):aX (a++[x])=(aX a*256+x.toNat)%18446744073709551616:=by simp[aX]
theorem Gr {k:Nat} (h:k≤8):256^k≤18446744073709551616:=Xi (Nat.pow_le_pow_right (by decide) h) (by decide)
theorem get_put (k:Nat) (h:k≤8):∀ v,aX (aN v k)=v%256^k:=by
  induction k with
  | zero=>intro v; rw[Nat.pow_zero,Nat.mod_one]; rfl
  | succ k ih =>
    intro v;have hp:=Gr h;have hv:v%256^(k+1)<256^(k+1):=X3 _ (Nat.pow_pos (by decide));have e:v%256^(k+1)=v%256+256*(v / 256%256^k):=by rw[Nat.pow_succ',Nat.mod_mul]
    rw[BS,Ef,ih (by omega),UInt8.toNat_ofNat',Nat.mod_eq_of_lt (by omega)];omega
theorem iD:∀ (k:Nat) (l:List UInt8),l.length=k→k≤8→aX l<256^k∧aN (aX l) k=l:=by
  intro k
  induction k with
  | zero=>intro l h _; rw[Xs h]; exact⟨by decide,rfl⟩
  | succ k ih =>
    intro l h h8;rcases List.eq_nil_or_concat l with rfl | ⟨a,x,rfl⟩
    ·simp at h
    ·rw[List.concat_eq_append] at *
     obtain⟨a1,a2⟩:=ih a (by simpa using h) (by omega);have hx:x.toNat<256:=x.toNat_lt;have hp:=Gr h8;have e:aX (a++[x])=aX a*256+x.toNat:=by
       rw[Ef,Nat.mod_eq_of_lt];rw[Nat.pow_succ] at hp; omega
     refine⟨by rw[e,Nat.pow_succ]; omega,?_⟩;rw[e,BS,show (aX a*256+x.toNat) / 256=aX a by omega,a2]
     congr 2
     rw[← UInt8.toNat_inj,UInt8.toNat_ofNat'];omega
structure Hd where
  lp:Int
  vr:Int
  md:Int
  st:Int
  pl:Int
  pr:Int
  rd:Nat
  rp:Nat
  ri:Nat
  rf:Nat
  og:Nat
  rc:Nat
  tr:Nat
def Hd.z:Hd:=⟨0,0,0,0,0,0,0,0,0,0,0,0,0⟩
def Lu (h:Hd):Prop:=0≤h.lp∧h.lp≤3∧(h.vr=3∨h.vr=4)∧0≤h.md∧h.md≤7∧0≤h.st∧h.st≤255∧-128≤h.pl∧h.pl≤127∧-128≤h.pr∧h.pr≤127
instance (h:Hd):Decidable (Lu h):=by unfold Lu; infer_instance
def aV (l:List UInt8) (a n:Nat):List UInt8:=(l.drop a).take n
theorem kr {l:List UInt8} {a n:Nat} (h:a+n≤l.length):(aV l a n).length=n:=by
  unfold aV; rw[WF,WL]; omega
theorem mH (p q r:List UInt8):aV (p++(q++r)) p.length q.length=q:=by
  unfold aV; rw[List.drop_left,List.take_left]
theorem Eg (l:List UInt8) (a n m:Nat):aV l a n++aV l (a+n) m=aV l a (n+m):=by
  unfold aV;rw[List.take_add,Yv]
theorem ON (x:UInt8):gC x=if ea x 7==1 then ar (d9 x 1) 27 else d9 x 1:=by
  have:=kO (p:=fun x=>gC x==if ea x 7==1 then ar (d9 x 1) 27 else d9 x 1) (by decide +kernel) x
  simpa using this
theorem IQ (x:UInt8):gp x 2=gC x:=by
  have:=kO (p:=fun x=>gp x 2==gC x) (by decide +kernel) x
  simpa using this
def xG:aE:=⟨1,11,.seq (.reg [oO 2 (.mv (.k (.c (.d (.int .u8 0)))))]) (.seq (.seq (.reg [oM 3 0,oO 4 (.bin .shr (.t 3) (.k (.c (.d (.int .u64 7))))),oO 5 (.bin .eql (.t 4) (.k (.c (.d (.int .u8 1)))))]) (.cond (.t 5) (.seq (.reg [oM 6 0,oO 7 (.bin .shl (.t 6) (.k (.c (.d (.int .u64 1))))),oO 8 (.bin .xor (.t 7) (.k (.c (.d (.int .u8 27))))),oM 2 8]) (.ret)) (.skip))) (.seq (.reg [oM 9 0,oO 10 (.bin .shl (.t 9) (.k (.c (.d (.int .u64 1))))),oM 2 10]) (.ret))),[(2,none)]⟩
theorem S0:aC Tryz.prog { own:=[],comp:=[],frz:=[],nils:=[] } Tryz.f163=some xG:=by kernel_rfl
theorem KB (G:ah) (x:UInt8):ak Tryz.prog G 163 [bD x] (.w (.c (.d (bD (gC x))))):=by
  refine aG Tryz.func163 S0 rfl rfl ?_;have h1:=IC x .u64 7 7 rfl (by decide);have h2:=SF (ea x 7) 1 1 rfl;have h3:=ID x .u64 1 1 rfl (by decide);have h4:=SH (d9 x 1) 27 27 rfl;rw[ON];cases h5:ea x 7==1
  ·rw[h5] at h2;simp only[xG,af,h1,h2,h3,h4,ae,aa,seval,iteOmega,toNatUp,if_false,Bool.false_eq_true];exact aI
  ·rw[h5] at h2;simp only[xG,af,h1,h2,h3,h4,ae,aa,seval,iteOmega,toNatUp,if_true];exact aI
def Ld:List UInt8:=[99,124,119,123,242,107,111,197,48,1,103,43,254,215,171,118,202,130,201,125,250,89,71,240,173,212,162,175,156,164,114,192,183,253,147,38,54,63,247,204,52,165,229,241,113,216,49,21,4,199,35,195,24,150,5,154,7,18,128,226,235,39,178,117,9,131,44,26,27,110,90,160,82,59,214,179,41,227,47,132,83,209,0,237,32,252,177,91,106,203,190,57,74,76,88,207,208,239,170,251,67,77,51,133,69,249,2,127,80,60,159,168,81,163,64,143,146,157,56,245,188,182,218,33,16,255,243,210,205,12,19,236,95,151,68,23,196,167,126,61,100,93,25,115,96,129,79,220,34,42,144,136,70,238,184,20,222,94,11,219,224,50,58,10,73,6,36,92,194,211,172,98,145,149,228,121,231,200,55,109,141,213,78,169,108,86,244,234,101,122,174,8,186,120,37,46,28,166,180,198,232,221,116,31,75,189,139,138,112,62,181,102,72,3,246,14,97,53,87,185,134,193,29,158,225,248,152,17,105,217,142,148,155,30,135,233,206,85,40,223,140,161,137,13,191,230,66,104,65,153,45,15,176,84,187,22]
theorem QH:Ld=zt:=by decide +kernel
set_option maxRecDepth 100000 in
theorem OO:ByteArray.size ⟨#[99,124,119,123,242,107,111,197,48,1,103,43,254,215,171,118,202,130,201,125,250,89,71,240,173,212,162,175,156,164,114,192,183,253,147,38,54,63,247,204,52,165,229,241,113,216,49,21,4,199,35,195,24,150,5,154,7,18,128,226,235,39,178,117,9,131,44,26,27,110,90,160,82,59,214,179,41,227,47,132,83,209,0,237,32,252,177,91,106,203,190,57,74,76,88,207,208,239,170,251,67,77,51,133,69,249,2,127,80,60,159,168,81,163,64,143,146,157,56,245,188,182,218,33,16,255,243,210,205,12,19,236,95,151,68,23,196,167,126,61,100,93,25,115,96,129,79,220,34,42,144,136,70,238,184,20,222,94,11,219,224,50,58,10,73,6,36,92,194,211,172,98,145,149,228,121,231,200,55,109,141,213,78,169,108,86,244,234,101,122,174,8,186,120,37,46,28,166,180,198,232,221,116,31,75,189,139,138,112,62,181,102,72,3,246,14,97,53,87,185,134,193,29,158,225,248,152,17,105,217,142,148,155,30,135,233,206,85,40,223,140,161,137,13,191,230,66,104,65,153,45,15,176,84,187,22]⟩=256:=rfl
set_option maxRecDepth 100000 in
theorem S4 (x:UInt8):(ByteArray.data ⟨#[99,124,119,123,242,107,111,197,48,1,103,43,254,215,171,118,202,130,201,125,250,89,71,240,173,212,162,175,156,164,114,192,183,253,147,38,54,63,247,204,52,165,229,241,113,216,49,21,4,199,35,195,24,150,5,154,7,18,128,226,235,39,178,117,9,131,44,26,27,110,90,160,82,59,214,179,41,227,47,132,83,209,0,237,32,252,177,91,106,203,190,57,74,76,88,207,208,239,170,251,67,77,51,133,69,249,2,127,80,60,159,168,81,163,64,143,146,157,56,245,188,182,218,33,16,255,243,210,205,12,19,236,95,151,68,23,196,167,126,61,100,93,25,115,96,129,79,220,34,42,144,136,70,238,184,20,222,94,11,219,224,50,58,10,73,6,36,92,194,211,172,98,145,149,228,121,231,200,55,109,141,213,78,169,108,86,244,234,101,122,174,8,186,120,37,46,28,166,180,198,232,221,116,31,75,189,139,138,112,62,181,102,72,3,246,14,97,53,87,185,134,193,29,158,225,248,152,17,105,217,142,148,155,30,135,233,206,85,40,223,140,161,137,13,191,230,66,104,65,153,45,15,176,84,187,22]⟩).toList[x.toNat]?=some (dS x):=by
  have e:(ByteArray.data ⟨#[99,124,119,123,242,107,111,197,48,1,103,43,254,215,171,118,202,130,201,125,250,89,71,240,173,212,162,175,156,164,114,192,183,253,147,38,54,63,247,204,52,165,229,241,113,216,49,21,4,199,35,195,24,150,5,154,7,18,128,226,235,39,178,117,9,131,44,26,27,110,90,160,82,59,214,179,41,227,47,132,83,209,0,237,32,252,177,91,106,203,190,57,74,76,88,207,208,239,170,251,67,77,51,133,69,249,2,127,80,60,159,168,81,163,64,143,146,157,56,245,188,182,218,33,16,255,243,210,205,12,19,236,95,151,68,23,196,167,126,61,100,93,25,115,96,129,79,220,34,42,144,136,70,238,184,20,222,94,11,219,224,50,58,10,73,6,36,92,194,211,172,98,145,149,228,121,231,200,55,109,141,213,78,169,108,86,244,234,101,122,174,8,186,120,37,46,28,166,180,198,232,221,116,31,75,189,139,138,112,62,181,102,72,3,246,14,97,53,87,185,134,193,29,158,225,248,152,17,105,217,142,148,155,30,135,233,206,85,40,223,140,161,137,13,191,230,66,104,65,153,45,15,176,84,187,22]⟩).toList=Ld:=rfl;rw[e,QH]; exact OM x
set_option maxRecDepth 100000
def BZ:ByteArray:=⟨#[99,124,119,123,242,107,111,197,48,1,103,43,254,215,171,118,202,130,201,125,250,89,71,240,173,212,162,175,156,164,114,192,183,253,147,38,54,63,247,204,52,165,229,241,113,216,49,21,4,199,35,195,24,150,5,154,7,18,128,226,235,39,178,117,9,131,44,26,27,110,90,160,82,59,214,179,41,227,47,132,83,209,0,237,32,252,177,91,106,203,190,57,74,76,88,207,208,239,170,251,67,77,51,133,69,249,2,127,80,60,159,168,81,163,64,143,146,157,56,245,188,182,218,33,16,255,243,210,205,12,19,236,95,151,68,23,196,167,126,61,100,93,25,115,96,129,79,220,34,42,144,136,70,238,184,20,222,94,11,219,224,50,58,10,73,6,36,92,194,211,172,98,145,149,228,121,231,200,55,109,141,213,78,169,108,86,244,234,101,122,174,8,186,120,37,46,28,166,180,198,232,221,116,31,75,189,139,138,112,62,181,102,72,3,246,14,97,53,87,185,134,193,29,158,225,248,152,17,105,217,142,148,155,30,135,233,206,85,40,223,140,161,137,13,191,230,66,104,65,153,45,15,176,84,187,22]⟩
def IR:aE:=⟨1,5,.seq (.reg [oO 2 (.mv (.k (.c (.d (.int .u8 0)))))]) (.seq (.reg [oM 3 0,oO 4 (.idxStr (.k (.c (.d (.str BZ)))) (.t 3)),oM 2 4]) (.ret)),[(2,none)]⟩
theorem S5:aC Tryz.prog { own:=[],comp:=[],frz:=[],nils:=[] } Tryz.f180=some IR:=by kernel_rfl
theorem pK (G:ah) (x:UInt8):ak Tryz.prog G 180 [bD x] (.w (.c (.d (bD (dS x))))):=by
  refine aG Tryz.func180 S5 rfl rfl ?_;have h:=ky x;have e:=S4 x;simp only[IR,BZ,af,ae,aa,seval,iteOmega,toNatUp,OO,e];exact aI
def bM (f:Nat→UInt8) (l:List UInt8) (i:Nat):List UInt8:=(List.range i).map f++l.drop i
theorem mR (f:Nat→UInt8) (l:List UInt8) {i:Nat} (h:i≤l.length):(bM f l i).length=l.length:=by
  unfold bM; rw[WA,WJ,Yf,WL]; omega
theorem oV (f:Nat→UInt8) (l:List UInt8):bM f l 0=l:=by simp[bM]
theorem Ep (f:Nat→UInt8) (l:List UInt8) {i:Nat} (h:l.length≤i):bM f l i=(List.range i).map f:=by
  unfold bM; rw[XC h,WS]
theorem Gx (f:Nat→UInt8) (l:List UInt8) {i j:Nat} (hj:i≤j):(bM f l i)[j]?=l[j]?:=by
  unfold bM;rw[Xb (by simpa using hj),Xp,WJ,Yf,show i+(j-i)=j by omega]
theorem OP (f:Nat→UInt8) (l:List UInt8) {i j:Nat} (hj:j<i):(bM f l i)[j]?=some (f j):=by
  unfold bM;rw[Xl (by simpa using hj)];simp[hj]
theorem oW (f:Nat→UInt8) (l:List UInt8) {i:Nat} (h:i<l.length):(bM f l i).set i (f i)=bM f l (i+1):=by
  unfold bM;rw[Yo _ _ (by simp),WJ,Yf,Yz,List.drop_eq_getElem_cons h,List.set_cons_zero,Ye,Xc,W7];rfl
theorem ei {l:List UInt8} {j:Nat} (h:j<l.length):l[j]?=some (l.getD j 0):=by
  rw[WB,Wz h]; rfl
theorem Wp:bD 1=.int .u8 1:=rfl
set_option maxHeartbeats 1600000
def ma (s k:List UInt8):List UInt8:=bQ (gw (bf s) (bf k))
def nT (s:List UInt8):List UInt8:=bQ (ic (bf s))
def pY (s:List UInt8):List UInt8:=bQ (gx (bf s))
theorem OQ (s k:List UInt8):(ma s k).length=16:=fB _
theorem vQ (s:List UInt8):(nT s).length=16:=fB _
theorem Eq (s:List UInt8):(pY s).length=16:=fB _
theorem lJ (f:dz):KA (bf (bQ f)) f:=fun j hj=>by
  unfold bf; rw[WB,rI f hj]; rfl
theorem vS (f g:dz):ma (bQ f) (bQ g)=bQ (gw f g):=vf fun j hj=>by
  unfold gw; rw[lJ f j hj,lJ g j hj]
theorem Er (f:dz):nT (bQ f)=bQ (ic f):=vf fun j hj=>by
  unfold ic; rw[lJ f _ (by omega)]
theorem OR (f:dz):pY (bQ f)=bQ (gx f):=vf fun j hj=>by
  unfold gx; rw[lJ f _ (by omega),lJ f _ (by omega),lJ f _ (by omega),lJ f _ (by omega)]
theorem gU:[D.int .u8 0,.int .u8 0,.int .u8 0,.int .u8 0,.int .u8 0,.int .u8 0,.int .u8 0,.int .u8 0,.int .u8 0,.int .u8 0,.int .u8 0,.int .u8 0,.int .u8 0,.int .u8 0,.int .u8 0,.int .u8 0]=(bz 16 (0:UInt8)).map bD:=rfl
theorem rJ (f:dz) {l:List UInt8} (h:l.length=16):bM f l 16=bQ f:=Ep f l (by omega)
theorem lS (a b:Nat):Int.tmod (a:Int) (b:Int)=((a%b:Nat):Int):=rfl
def yA (s k:List UInt8) (i:Nat):St:=⟨aQ [(2,.w (.c (.pa 1 1))),(4,.w (.c (.pa 2 1))),(7,.w (.c (.d (.agg (k.map bD))))),(8,.w (.c (.d (.int .i64 (i:Int)))))],hL [(1,.row 1 ((bM (gw (bf s) (bf k)) s i).map bD)),(2,.row 1 ((bz 16 (0:UInt8)).map bD))],uL [1,2]⟩
def vT:aM := .seq (.reg [oO 9 (.bin .lss (.t 8) (kI 16))]) (.seq (.cond (.t 9) (.skip) (.exit 0)) (.seq (.block 1 (.seq (.reg [oM 10 8,oO 11 (.idxArr 1 16 .sc (.t 7) (.t 8)),oM 5 10,oM 6 11]) (.reg [oM 12 5,oO 13 (.idxPa 1 16 (.t 2) (.t 12)),oO 14 (.load .sc (.t 13)),oM 15 6,oO 16 (.bin .xor (.t 14) (.t 15)),oO 17 (.idxPa 1 16 (.t 2) (.t 12)),oN (.store .sc (.t 17) (.t 16))]))) (.reg [oO 18 (.bin .add (.t 8) (kI 1)),oM 8 18])))
def IU:aE:=⟨2,20,.seq (.reg [oO 2 (.box .ownArr (.t 0)),oO 3 (.box .roArr (.t 1)),oO 4 (.allocArr [(.int .u8 0),(.int .u8 0),(.int .u8 0),(.int .u8 0),(.int .u8 0),(.int .u8 0),(.int .u8 0),(.int .u8 0),(.int .u8 0),(.int .u8 0),(.int .u8 0),(.int .u8 0),(.int .u8 0),(.int .u8 0),(.int .u8 0),(.int .u8 0)])]) (.seq (.seq (.reg [oO 7 (.load (.ag 16) (.t 3)),oO 8 (.mv (kI 0))]) (.block 0 (.loop vT))) (.seq (.reg [oO 19 (.load (.ag 16) (.t 2)),oN (.store (.ag 16) (.t 4) (.t 19))]) (.ret))),[(4,(some (.ag 16)))]⟩
theorem S6:aC Tryz.prog { own:=[2],comp:=[],frz:=[],nils:=[] } Tryz.f165=some IU:=by kernel_rfl
theorem yB (G:ah) (s k:List UInt8) (hs:s.length=16) (hk:k.length=16):ak Tryz.prog G 165 [.agg (s.map bD),.agg (k.map bD)] (.w (.c (.d (.agg ((ma s k).map bD))))):=by
  refine aG Tryz.func165 S6 rfl rfl ?_;simp only[IU,af,ae,aa,seval,iteOmega,toNatUp,gU,ia,hk];refine ba (yA s k) (fun i=>16-i) (fun i=>i≤16) 0 (WI _) ?_ ?_
  ·refine aw (fun i=>if i=1 then 16 else 32) ?_ ?_ rfl rfl <;> simp only[wx,am,aH,aa,seval,iteOmega,toNatUp,oV]
  ·intro i hi;have hl:(bM (gw (bf s) (bf k)) s i).length=16:=by rw[mR _ _ (by omega)]; exact hs
   by_cases hlt:i<16
   ·have g1:k[i]?=some (k.getD i 0):=ei (by omega);have g2:(bM (gw (bf s) (bf k)) s i)[i]?=some (s.getD i 0):=by rw[Gx _ _ (WM i)]; exact ei (by omega)
    have h3:i<(bM (gw (bf s) (bf k)) s i).length:=by omega
    have h4:=gj (s.getD i 0) (k.getD i 0);have h5:(bM (gw (bf s) (bf k)) s i).set i (ar (s.getD i 0) (k.getD i 0))=bM (gw (bf s) (bf k)) s (i+1):=oW (gw (bf s) (bf k)) s (by omega);simp only[vT,yA,ae,aa,seval,iteOmega,toNatUp,aJ,g1,g2,h4,fC h3 (eZ _),gn,h5];refine aS (i+1) (by omega) (by omega) (aw (fun i=>i) ?_ ?_ rfl rfl) <;> simp only[wx,am,aH,aa,seval,iteOmega,toNatUp]
   ·obtain rfl:i=16:=by omega
    have e:bM (gw (bf s) (bf k)) s 16=ma s k:=rJ _ hs;have e2:=OQ s k;simp only[vT,yA,e,ae,aa,seval,iteOmega,toNatUp,e2,ia,cE];exact aI
def yC (s:List UInt8) (i:Nat):St:=⟨aQ [(1,.w (.c (.ra (s.map bD)))),(2,.w (.c (.pa 2 1))),(3,.w (.c (.pa 1 1))),(6,.w (.c (.d (.int .i64 (i:Int)))))],hL [(1,.row 1 ((bM (ic (bf s)) (bz 16 (0:UInt8)) i).map bD)),(2,.row 1 ((bz 16 (0:UInt8)).map bD))],uL [1,2]⟩
def vg:aM := .seq (.reg [oO 7 (.bin .lss (.t 6) (kI 16))]) (.seq (.cond (.t 7) (.skip) (.exit 0)) (.seq (.block 1 (.seq (.reg [oM 8 6,oM 4 8]) (.seq (.reg [oM 9 4,oO 10 (.bin .rem (.t 9) (kI 4)),oM 5 10]) (.reg [oM 11 4,oM 12 4,oM 13 5,oO 14 (.bin .mul (.t 13) (kI 4)),oO 15 (.bin .add (.t 12) (.t 14)),oO 16 (.bin .rem (.t 15) (kI 16)),oO 17 (.idxPa 1 16 (.t 1) (.t 16)),oO 18 (.load .sc (.t 17)),oO 19 (.call 180 [(.t 18)] none),oO 20 (.idxPa 1 16 (.t 3) (.t 11)),oN (.store .sc (.t 20) (.t 19))])))) (.reg [oO 21 (.bin .add (.t 6) (kI 1)),oM 6 21])))
def Gy:aE:=⟨1,23,.seq (.reg [oO 1 (.box .roArr (.t 0)),oO 2 (.allocArr [(.int .u8 0),(.int .u8 0),(.int .u8 0),(.int .u8 0),(.int .u8 0),(.int .u8 0),(.int .u8 0),(.int .u8 0),(.int .u8 0),(.int .u8 0),(.int .u8 0),(.int .u8 0),(.int .u8 0),(.int .u8 0),(.int .u8 0),(.int .u8 0)])]) (.seq (.reg [oO 3 (.allocArr [(.int .u8 0),(.int .u8 0),(.int .u8 0),(.int .u8 0),(.int .u8 0),(.int .u8 0),(.int .u8 0),(.int .u8 0),(.int .u8 0),(.int .u8 0),(.int .u8 0),(.int .u8 0),(.int .u8 0),(.int .u8 0),(.int .u8 0),(.int .u8 0)])]) (.seq (.seq (.reg [oO 6 (.mv (kI 0))]) (.block 0 (.loop vg))) (.seq (.reg [oO 22 (.load (.ag 16) (.t 3)),oN (.store (.ag 16) (.t 2) (.t 22))]) (.ret)))),[(2,(some (.ag 16)))]⟩
theorem QI:aC Tryz.prog { own:=[],comp:=[],frz:=[],nils:=[] } Tryz.f167=some Gy:=by kernel_rfl
theorem IV (G:ah) (s:List UInt8) (hs:s.length=16):ak Tryz.prog G 167 [.agg (s.map bD)] (.w (.c (.d (.agg ((nT s).map bD))))):=by
  refine aG Tryz.func167 QI rfl rfl ?_;simp only[Gy,af,ae,aa,seval,iteOmega,toNatUp,gU];refine ba (yC s) (fun i=>16-i) (fun i=>i≤16) 0 (WI _) ?_ ?_
  ·refine aw (fun i=>if i=1 then 24 else 16) ?_ ?_ rfl rfl <;> simp only[wx,am,aH,aa,seval,iteOmega,toNatUp,oV]
  ·intro i hi;have hl:(bM (ic (bf s)) (bz 16 (0:UInt8)) i).length=16:=by rw[mR _ _ (by rw[cE]; omega),cE]
   by_cases hlt:i<16
   ·have hm:(i+i%4*4)%16=i%4+4*((i / 4+i%4)%4):=by omega
    have hm2:(i+i%4*4)%16<16:=by omega
    have g1:s[(i+i%4*4)%16]?=some (bf s (i%4+4*((i / 4+i%4)%4))):=by rw[← hm]; exact ei (by omega)
    have h3:i<(bM (ic (bf s)) (bz 16 (0:UInt8)) i).length:=by omega
    have h5:(bM (ic (bf s)) (bz 16 (0:UInt8)) i).set i (dS (bf s (i%4+4*((i / 4+i%4)%4))))=bM (ic (bf s)) (bz 16 (0:UInt8)) (i+1):=oW (ic (bf s)) _ (by rw[cE]; omega);have t1:Int.tmod (i:Int) 4=((i%4:Nat):Int):=lS i 4;have t2:Int.tmod ((i:Int)+((i%4:Nat):Int)*4) 16=(((i+i%4*4)%16:Nat):Int):=lS (i+i%4*4) 16;have hb:(i%4:Nat)<4:=X3 _ (by decide);generalize hq:i%4=q at *
    generalize hp:(i+q*4)%16=p at *
    simp only[vg,yC,ae,aa,seval,iteOmega,toNatUp,aJ,t1,t2,g1];refine sC (pK G (bf s (q+4*((i / 4+q)%4)))) ?_;simp only[fC h3 (eZ _),gn,h5,aJ,hl,ae,aa,seval,iteOmega,toNatUp];refine aS (i+1) (by omega) (by omega) (aw (fun i=>i) ?_ ?_ rfl rfl) <;> simp only[wx,am,aH,aa,seval,iteOmega,toNatUp]
   ·obtain rfl:i=16:=by omega
    have e:bM (ic (bf s)) (bz 16 (0:UInt8)) 16=nT s:=rJ _ (cE _ _);have e2:=vQ s;simp only[vg,yC,e,ae,aa,seval,iteOmega,toNatUp,e2,ia,cE];exact aI
theorem S7 (a b c d:UInt8):ar (ar (ar (gC (ar a b)) b) c) d=tQ a b c d:=by
  unfold tQ zO;rw[QG a b,IQ,IQ]
def xH (s:List UInt8) (i:Nat):St:=⟨aQ [(1,.w (.c (.ra (s.map bD)))),(2,.w (.c (.pa 2 1))),(3,.w (.c (.pa 1 1))),(8,.w (.c (.d (.int .i64 (i:Int)))))],hL [(1,.row 1 ((bM (gx (bf s)) (bz 16 (0:UInt8)) i).map bD)),(2,.row 1 ((bz 16 (0:UInt8)).map bD))],uL [1,2]⟩
def vh:aM := .seq (.reg [oO 9 (.bin .lss (.t 8) (kI 16))]) (.seq (.cond (.t 9) (.skip) (.exit 0)) (.seq (.block 1 (.seq (.reg [oM 10 8,oM 4 10]) (.seq (.reg [oM 11 4,oO 12 (.bin .rem (.t 11) (kI 4)),oM 5 12]) (.seq (.reg [oM 13 4,oM 14 5,oO 15 (.bin .sub (.t 13) (.t 14)),oM 16 4,oM 17 5,oO 18 (.bin .sub (.t 16) (.t 17)),oO 19 (.bin .add (.t 18) (kI 4)),oO 20 (.sliceArr 1 16 (.t 1) (some (.t 15)) (some (.t 19))),oM 6 20]) (.seq (.reg [oM 21 6,oM 22 5,oO 23 (.bin .add (.t 22) (kI 1)),oO 24 (.bin .rem (.t 23) (kI 4)),oO 25 (.idxSl 1 (.t 21) (.t 24)),oO 26 (.load .sc (.t 25)),oM 7 26]) (.reg [oM 27 4,oM 28 4,oO 29 (.idxPa 1 16 (.t 1) (.t 28)),oO 30 (.load .sc (.t 29)),oM 31 7,oO 32 (.bin .xor (.t 30) (.t 31)),oO 33 (.call 163 [(.t 32)] none),oM 34 7,oO 35 (.bin .xor (.t 33) (.t 34)),
 oM 36 6,oM 37 5,oO 38 (.bin .add (.t 37) (kI 2)),oO 39 (.bin .rem (.t 38) (kI 4)),oO 40 (.idxSl 1 (.t 36) (.t 39)),oO 41 (.load .sc (.t 40)),oO 42 (.bin .xor (.t 35) (.t 41)),oM 43 6,oM 44 5,oO 45 (.bin .add (.t 44) (kI 3)),oO 46 (.bin .rem (.t 45) (kI 4)),oO 47 (.idxSl 1 (.t 43) (.t 46)),oO 48 (.load .sc (.t 47)),oO 49 (.bin .xor (.t 42) (.t 48)),oO 50 (.idxPa 1 16 (.t 3) (.t 27)),oN (.store .sc (.t 50) (.t 49))])))))) (.reg [oO 51 (.bin .add (.t 8) (kI 1)),oM 8 51])))
def Gz:aE:=⟨1,53,.seq (.reg [oO 1 (.box .roArr (.t 0)),oO 2 (.allocArr [(.int .u8 0),(.int .u8 0),(.int .u8 0),(.int .u8 0),(.int .u8 0),(.int .u8 0),(.int .u8 0),(.int .u8 0),(.int .u8 0),(.int .u8 0),(.int .u8 0),(.int .u8 0),(.int .u8 0),(.int .u8 0),(.int .u8 0),(.int .u8 0)])]) (.seq (.reg [oO 3 (.allocArr [(.int .u8 0),(.int .u8 0),(.int .u8 0),(.int .u8 0),(.int .u8 0),(.int .u8 0),(.int .u8 0),(.int .u8 0),(.int .u8 0),(.int .u8 0),(.int .u8 0),(.int .u8 0),(.int .u8 0),(.int .u8 0),(.int .u8 0),(.int .u8 0)])]) (.seq (.seq (.reg [oO 8 (.mv (kI 0))]) (.block 0 (.loop vh))) (.seq (.reg [oO 52 (.load (.ag 16) (.t 3)),oN (.store (.ag 16) (.t 2) (.t 52))]) (.ret)))),[(2,(some (.ag 16)))]⟩
theorem QJ:aC Tryz.prog { own:=[],comp:=[],frz:=[],nils:=[] } Tryz.f166=some Gz:=by kernel_rfl
theorem S8 (G:ah) (s:List UInt8) (hs:s.length=16):ak Tryz.prog G 166 [.agg (s.map bD)] (.w (.c (.d (.agg ((pY s).map bD))))):=by
  refine aG Tryz.func166 QJ rfl rfl ?_;simp only[Gz,af,ae,aa,seval,iteOmega,toNatUp,gU];refine ba (xH s) (fun i=>16-i) (fun i=>i≤16) 0 (WI _) ?_ ?_
  ·refine aw (fun i=>if i=1 then 24 else 16) ?_ ?_ rfl rfl <;> simp only[wx,am,aH,aa,seval,iteOmega,toNatUp,oV]
  ·intro i hi;have hl:(bM (gx (bf s)) (bz 16 (0:UInt8)) i).length=16:=by rw[mR _ _ (by rw[cE]; omega),cE]
   by_cases hlt:i<16
   ·have h3:i<(bM (gx (bf s)) (bz 16 (0:UInt8)) i).length:=by omega
    have h5:(bM (gx (bf s)) (bz 16 (0:UInt8)) i).set i (gx (bf s) i)=bM (gx (bf s)) (bz 16 (0:UInt8)) (i+1):=oW (gx (bf s)) _ (by rw[cE]; omega);have g0:s[i]?=some (bf s i):=ei (by omega);obtain⟨q,r,hr,rfl⟩:∃ q r,r<4∧i=4*q+r:=⟨i / 4,i%4,X3 _ (by decide),by omega⟩
    have hq:q<4:=by omega
    have col:∀ j,j<4→((s.drop (4*q)).take 4)[j]?=some (bf s (4*q+j)):=fun j hj=>by
      rw[W0,if_pos hj,Xp]; exact ei (by omega)
    have g1:=col ((r+1)%4) (X3 _ (by decide));have g2:=col ((r+2)%4) (X3 _ (by decide));have g3:=col ((r+3)%4) (X3 _ (by decide));have t0:Int.tmod (4*(q:Int)+(r:Int)) 4=(r:Int):=by
      show Int.tmod ((4*q+r:Nat):Int) ((4:Nat):Int)=_
      rw[lS]; congr 1; omega
    have t1:Int.tmod ((r:Int)+1) 4=(((r+1)%4:Nat):Int):=lS (r+1) 4;have t2:Int.tmod ((r:Int)+2) 4=(((r+2)%4:Nat):Int):=lS (r+2) 4;have t3:Int.tmod ((r:Int)+3) 4=(((r+3)%4:Nat):Int):=lS (r+3) 4;have b1:(r+1)%4<4:=X3 _ (by decide);have b2:(r+2)%4<4:=X3 _ (by decide);have b3:(r+3)%4<4:=X3 _ (by decide);have em:gx (bf s) (4*q+r)=tQ (bf s (4*q+r)) (bf s (4*q+(r+1)%4)) (bf s (4*q+(r+2)%4)) (bf s (4*q+(r+3)%4)):=by
      unfold gx;rw[show (4*q+r) / 4=q by omega,show (4*q+r)%4=r by omega]
    rw[em,← S7] at h5;have s1:4*q+r-r=4*q:=by omega
    have s2:4*q+4-4*q=4:=by omega
    have s3:((s.drop (4*q)).take 4).length=4:=by rw[WF,WL]; omega
    generalize (r+1)%4=r1 at *
    generalize (r+2)%4=r2 at *
    generalize (r+3)%4=r3 at *
    generalize bf s (4*q+r)=a at *
    generalize bf s (4*q+r1)=b at *
    generalize bf s (4*q+r2)=c at *
    generalize bf s (4*q+r3)=d at *
    have x1:=gj a b;have x2:=gj (gC (ar a b)) b;have x3:=gj (ar (gC (ar a b)) b) c;have x4:=gj (ar (ar (gC (ar a b)) b) c) d;simp only[vh,xH,ae,aa,seval,iteOmega,toNatUp,aJ,t0,t1,t2,t3,g0,g1,g2,g3,s1,s2,s3,x1];refine sC (KB G (ar a b)) ?_;simp only[aJ,t0,t1,t2,t3,g0,g1,g2,g3,s1,s2,s3,x2,x3,x4,fC h3 (eZ _),gn,h5,hl,ae,aa,seval,iteOmega,toNatUp];refine aS (4*q+r+1) (by omega) (by omega) (aw (fun i=>i) ?_ ?_ rfl rfl) <;> simp only[wx,am,aH,aa,seval,iteOmega,toNatUp]
   ·obtain rfl:i=16:=by omega
    have e:bM (gx (bf s)) (bz 16 (0:UInt8)) 16=pY s:=rJ _ (cE _ _);have e2:=Eq s;simp only[vh,xH,e,ae,aa,seval,iteOmega,toNatUp,e2,ia,cE];exact aI
def Wq (l:List UInt8) (c:UInt8) (j:Nat):UInt8:=if j=0 then ar (dS (l.getD 13 0)) c else if j=1 then dS (l.getD 14 0) else if j=2 then dS (l.getD 15 0) else dS (l.getD 12 0)
def wV (l:List UInt8) (c:UInt8):Nat→Nat→UInt8
  | 0,j=>Wq l c j
  | n+1,j=>if j=n%4 then ar (l.getD n 0) (wV l c n (n%4)) else wV l c n j
def fX (l:List UInt8) (c:UInt8) (n:Nat):UInt8:=ar (l.getD n 0) (wV l c n (n%4))
def k9 (l:List UInt8) (c:UInt8):List UInt8:=bQ (fX l c)
theorem qV (l:List UInt8) (c:UInt8):(k9 l c).length=16:=fB _
def wL (l:List UInt8) (c:UInt8) (i:Nat):List UInt8:=(List.range 4).map (wV l c i)
theorem nb (l:List UInt8) (c:UInt8) (i:Nat):(wL l c i).length=4:=by simp[wL]
theorem xI (l:List UInt8) (c:UInt8) (i:Nat) {j:Nat} (h:j<4):(wL l c i)[j]?=some (wV l c i j):=by simp[wL,h]
theorem QK (l:List UInt8) (c:UInt8) (i:Nat):(wL l c i).set (i%4) (fX l c i)=wL l c (i+1):=by
  apply XJ;intro j;by_cases hj:j<4
  ·rw[xI _ _ _ hj,Yt];by_cases e:i%4=j
   ·rw[if_pos e,if_pos (by rw[nb]; omega),wV,if_pos e.symm]; rfl
   ·rw[if_neg e,xI _ _ _ hj,wV,if_neg (fun h=>e h.symm)]
  ·rw[Xm (by rw[XQ,nb]; omega),Xm (by rw[nb]; omega)]
theorem QL (l:List UInt8) (c:UInt8):[ar (dS (l.getD 13 0)) c,dS (l.getD 14 0),dS (l.getD 15 0),dS (l.getD 12 0)]=wL l c 0:=rfl
def yD (l:List UInt8) (c:UInt8) (i:Nat):St:=⟨aQ [(2,.w (.c (.pa 1 1))),(4,.w (.c (.pa 2 1))),(5,.w (.c (.pa 3 1))),(22,.w (.c (.d (.int .i64 (i:Int)))))],hL [(1,.row 1 ((bM (fX l c) l i).map bD)),(2,.row 1 ((bz 16 (0:UInt8)).map bD)),(3,.row 1 ((wL l c i).map bD))],uL [1,2,3]⟩
def vU:aM := .seq (.reg [oO 23 (.bin .lss (.t 22) (kI 16))]) (.seq (.cond (.t 23) (.skip) (.exit 0)) (.seq (.block 1 (.seq (.reg [oM 24 22,oM 6 24]) (.seq (.reg [oM 25 6,oO 26 (.idxPa 1 16 (.t 2) (.t 25)),oO 27 (.load .sc (.t 26)),oM 28 6,oO 29 (.bin .rem (.t 28) (kI 4)),oO 30 (.idxPa 1 4 (.t 5) (.t 29)),oO 31 (.load .sc (.t 30)),oO 32 (.bin .xor (.t 27) (.t 31)),oO 33 (.idxPa 1 16 (.t 2) (.t 25)),oN (.store .sc (.t 33) (.t 32))]) (.reg [oM 34 6,oO 35 (.bin .rem (.t 34) (kI 4)),oM 36 6,oO 37 (.idxPa 1 16 (.t 2) (.t 36)),oO 38 (.load .sc (.t 37)),oO 39 (.idxPa 1 4 (.t 5) (.t 35)),oN (.store .sc (.t 39) (.t 38))])))) (.reg [oO 40 (.bin .add (.t 22) (kI 1)),oM 22 40])))
def IW:aE:=⟨2,42,.seq (.reg [oO 2 (.box .ownArr (.t 0)),oO 4 (.allocArr [(.int .u8 0),(.int .u8 0),(.int .u8 0),(.int .u8 0),(.int .u8 0),(.int .u8 0),(.int .u8 0),(.int .u8 0),(.int .u8 0),(.int .u8 0),(.int .u8 0),(.int .u8 0),(.int .u8 0),(.int .u8 0),(.int .u8 0),(.int .u8 0)])]) (.seq (.reg [oO 7 (.idxPa 1 16 (.t 2) (kI 13)),oO 8 (.load .sc (.t 7)),oO 9 (.call 180 [(.t 8)] none),oM 10 1,oO 11 (.bin .xor (.t 9) (.t 10)),oO 12 (.idxPa 1 16 (.t 2) (kI 14)),oO 13 (.load .sc (.t 12)),oO 14 (.call 180 [(.t 13)] none),oO 15 (.idxPa 1 16 (.t 2) (kI 15)),oO 16 (.load .sc (.t 15)),oO 17 (.call 180 [(.t 16)] none),oO 18 (.idxPa 1 16 (.t 2) (kI 12)),oO 19 (.load .sc (.t 18)),oO 20 (.call 180 [(.t 19)] none),oO 21 (.build [(.d (.int .u8 0)),(.d (.int .u8 0)),(.d (.int .u8 0)),(.d (.int .u8 0))] [(0,1,(.t 11)),(1,1,(.t 14)),(2,1,(.t 17)),(3,1,(.t 20))]),
 oO 5 (.allocArr [(.int .u8 0),(.int .u8 0),(.int .u8 0),(.int .u8 0)]),oN (.store (.ag 4) (.t 5) (.t 21))]) (.seq (.seq (.reg [oO 22 (.mv (kI 0))]) (.block 0 (.loop vU))) (.seq (.reg [oO 41 (.load (.ag 16) (.t 2)),oN (.store (.ag 16) (.t 4) (.t 41))]) (.ret)))),[(4,(some (.ag 16)))]⟩
theorem S9:aC Tryz.prog { own:=[2],comp:=[],frz:=[],nils:=[] } Tryz.f162=some IW:=by kernel_rfl
set_option maxHeartbeats 3200000 in
theorem Vi (G:ah) (l:List UInt8) (c:UInt8) (hl:l.length=16):ak Tryz.prog G 162 [.agg (l.map bD),bD c] (.w (.c (.d (.agg ((k9 l c).map bD))))):=by
  refine aG Tryz.func162 S9 rfl rfl ?_;have a13:l[13]?=some (l.getD 13 0):=ei (by omega);have a14:l[14]?=some (l.getD 14 0):=ei (by omega);have a15:l[15]?=some (l.getD 15 0):=ei (by omega);have a12:l[12]?=some (l.getD 12 0):=ei (by omega);have x0:=gj (dS (l.getD 13 0)) c;have w0:=congrArg (List.map bD) (QL l c);have wl:=nb l c 0;simp only[WH,W8] at w0;simp only[IW,af,ae,aa,seval,iteOmega,toNatUp,gU,hl,aJ,a13];refine sC (pK G (l.getD 13 0)) ?_;simp only[x0,aJ,a14,hl,ae,aa,seval,iteOmega,toNatUp];refine sC (pK G (l.getD 14 0)) ?_;simp only[aJ,a15,hl,ae,aa,seval,iteOmega,toNatUp];refine sC (pK G (l.getD 15 0)) ?_;simp only[aJ,a12,hl,ae,aa,seval,iteOmega,toNatUp];refine sC (pK G (l.getD 12 0)) ?_;simp only[w0,ae,aa,seval,iteOmega,toNatUp];refine ba (yD l c) (fun i=>16-i) (fun i=>i≤16) 0 (WI _) ?_ ?_
  ·refine aw (fun i=>if i=1 then 16 else if i=2 then 32 else 40) ?_ ?_ rfl rfl <;> simp only[wx,am,aH,aa,seval,iteOmega,toNatUp,oV]
  ·intro i hi;have hu:(bM (fX l c) l i).length=16:=by rw[mR _ _ (by omega)]; exact hl
   by_cases hlt:i<16
   ·have hm:i%4<4:=X3 _ (by decide);have t1:Int.tmod (i:Int) 4=((i%4:Nat):Int):=lS i 4;have g1:(bM (fX l c) l i)[i]?=some (l.getD i 0):=by rw[Gx _ _ (WM i)]; exact ei (by omega)
    have g2:=xI l c i hm;have x1:=gj (l.getD i 0) (wV l c i (i%4));have h3:i<(bM (fX l c) l i).length:=by omega
    have h4:i%4<(wL l c i).length:=by rw[nb]; exact hm
    have h5:(bM (fX l c) l i).set i (fX l c i)=bM (fX l c) l (i+1):=oW (fX l c) l (by omega);have h6:=QK l c i;have g3:(bM (fX l c) l (i+1))[i]?=some (fX l c i):=OP _ _ (Nat.lt_succ_self i);have hf:ar (l.getD i 0) (wV l c i (i%4))=fX l c i:=rfl;have hwl:=nb l c i;have hu2:(bM (fX l c) l (i+1)).length=16:=by rw[mR _ _ (by omega)]; exact hl
    generalize hq:i%4=q at *
    simp only[vU,yD,ae,aa,seval,iteOmega,toNatUp,aJ,t1,g1,g2,x1,hf,fC h3 (eZ _),fC h4 (eZ _),gn,h5,h6,g3,hu,hu2,hwl];refine aS (i+1) (by omega) (by omega) (aw (fun i=>i) ?_ ?_ rfl rfl) <;> simp only[wx,am,aH,aa,seval,iteOmega,toNatUp]
   ·obtain rfl:i=16:=by omega
    have e:bM (fX l c) l 16=k9 l c:=rJ _ hl;have e2:=qV l c;simp only[vU,yD,e,ae,aa,seval,iteOmega,toNatUp,e2,ia,cE];exact aI
theorem Nt {P Q:List UInt8} {k n:Nat} (h:P.length=n):(P++Q).getD (n+k) 0=Q.getD k 0:=by
  rw[WB,WB,Xb (by omega),h,XA]
theorem OS {P Q:List UInt8} {k n:Nat} (h:P.length=n):(P++Q).drop (n+k)=Q.drop k:=by
  rw[← h,List.drop_append,XC (by omega),XP,XA]
theorem qD {P Q:List UInt8} {n:Nat} (h:P.length=4*n):jQ (P++Q) n=(List.range 4).map fun k=>ar (Q.getD k 0) ((nF (Q.drop 12) n).getD k 0):=by
  unfold jQ;refine Xj fun k _=>?_
  rw[Nt h,show 12+4*n=4*n+12 by omega,OS h]
theorem Vj (b0 b1 b2 b3 b4 b5 b6 b7 b8 b9 b10 b11 b12 b13 b14 b15 c:UInt8):∃ f0 f1 f2 f3,
    f0=ar b0 (ar (dS b13) c)∧f1=ar b1 (dS b14)∧f2=ar b2 (dS b15)∧f3=ar b3 (dS b12) ∧
    k9 [b0,b1,b2,b3,b4,b5,b6,b7,b8,b9,b10,b11,b12,b13,b14,b15] c =
      [f0,f1,f2,f3,ar b4 f0,ar b5 f1,ar b6 f2,ar b7 f3,ar b8 (ar b4 f0),ar b9 (ar b5 f1),ar b10 (ar b6 f2),ar b11 (ar b7 f3),
       ar b12 (ar b8 (ar b4 f0)),ar b13 (ar b9 (ar b5 f1)),ar b14 (ar b10 (ar b6 f2)),ar b15 (ar b11 (ar b7 f3))] :=
  ⟨_,_,_,_,rfl,rfl,rfl,rfl,rfl⟩
theorem qW (f:Nat→UInt8):(List.range 4).map f=[f 0,f 1,f 2,f 3]:=rfl
theorem OT {P:List UInt8} {r:Nat} (hP:P.length=16*r) (b0 b1 b2 b3 b4 b5 b6 b7 b8 b9 b10 b11 b12 b13 b14 b15:UInt8) (key:List UInt8)
    (h:dK key (4*r)=P++[b0,b1,b2,b3,b4,b5,b6,b7,b8,b9,b10,b11,b12,b13,b14,b15]) :
    dK key (4*(r+1))=dK key (4*r)++k9 [b0,b1,b2,b3,b4,b5,b6,b7,b8,b9,b10,b11,b12,b13,b14,b15] (gR r):=by
  obtain⟨f0,f1,f2,f3,e0,e1,e2,e3,ef⟩:=Vj b0 b1 b2 b3 b4 b5 b6 b7 b8 b9 b10 b11 b12 b13 b14 b15 (gR r);have m0:4*r%4=0:=by omega
  have m1:(4*r+1)%4≠0:=by omega
  have m2:(4*r+2)%4≠0:=by omega
  have m3:(4*r+3)%4≠0:=by omega
  have d0:4*r / 4=r:=by omega
  have n0:jQ (dK key (4*r)) (4*r)=[f0,f1,f2,f3]:=by
    rw[h,qD (by omega),qW];unfold nF;rw[if_pos m0,d0,e0,e1,e2,e3]; rfl
  have s1:dK key (4*r+1)=(P++[b0,b1,b2,b3])++[b4,b5,b6,b7,b8,b9,b10,b11,b12,b13,b14,b15,f0,f1,f2,f3]:=by
    rw[dK,n0,h]; simp
  have n1:jQ (dK key (4*r+1)) (4*r+1)=[ar b4 f0,ar b5 f1,ar b6 f2,ar b7 f3]:=by
    rw[s1,qD (by simp; omega),qW];unfold nF;rw[if_neg m1]; rfl
  have s2:dK key (4*r+2)=(P++[b0,b1,b2,b3,b4,b5,b6,b7])++[b8,b9,b10,b11,b12,b13,b14,b15,f0,f1,f2,f3,ar b4 f0,ar b5 f1,ar b6 f2,ar b7 f3]:=by
    rw[show 4*r+2=(4*r+1)+1 from rfl,dK,n1,s1]; simp
  have n2:jQ (dK key (4*r+2)) (4*r+2)=[ar b8 (ar b4 f0),ar b9 (ar b5 f1),ar b10 (ar b6 f2),ar b11 (ar b7 f3)]:=by
    rw[s2,qD (by simp; omega),qW];unfold nF;rw[if_neg m2]; rfl
  have s3:dK key (4*r+3)=(P++[b0,b1,b2,b3,b4,b5,b6,b7,b8,b9,b10,b11])++[b12,b13,b14,b15,f0,f1,f2,f3,ar b4 f0,ar b5 f1,ar b6 f2,ar b7 f3,ar b8 (ar b4 f0),ar b9 (ar b5 f1),ar b10 (ar b6 f2),ar b11 (ar b7 f3)]:=by
    rw[show 4*r+3=(4*r+2)+1 from rfl,dK,n2,s2]; simp
  have n3:jQ (dK key (4*r+3)) (4*r+3)=[ar b12 (ar b8 (ar b4 f0)),ar b13 (ar b9 (ar b5 f1)),ar b14 (ar b10 (ar b6 f2)),ar b15 (ar b11 (ar b7 f3))]:=by
    rw[s3,qD (by simp; omega),qW];unfold nF;rw[if_neg m3]; rfl
  rw[show 4*(r+1)=(4*r+3)+1 by omega,dK,n3,s3,ef,h];simp
def kb (key:List UInt8) (r:Nat):List UInt8:=(dK key (4*r)).drop (16*r)
theorem xJ {key:List UInt8} (h:key.length=16) (r:Nat):(kb key r).length=16:=by
  unfold kb; rw[WL,lE h]; omega
theorem Ta {l:List UInt8} (h:l.length=16):∃ b0 b1 b2 b3 b4 b5 b6 b7 b8 b9 b10 b11 b12 b13 b14 b15,l=[b0,b1,b2,b3,b4,b5,b6,b7,b8,b9,b10,b11,b12,b13,b14,b15]:=by
  rcases l with _ | ⟨b0,l⟩ <;> simp at h
  rcases l with _ | ⟨b1,l⟩ <;> simp at h
  rcases l with _ | ⟨b2,l⟩ <;> simp at h
  rcases l with _ | ⟨b3,l⟩ <;> simp at h
  rcases l with _ | ⟨b4,l⟩ <;> simp at h
  rcases l with _ | ⟨b5,l⟩ <;> simp at h
  rcases l with _ | ⟨b6,l⟩ <;> simp at h
  rcases l with _ | ⟨b7,l⟩ <;> simp at h
  rcases l with _ | ⟨b8,l⟩ <;> simp at h
  rcases l with _ | ⟨b9,l⟩ <;> simp at h
  rcases l with _ | ⟨b10,l⟩ <;> simp at h
  rcases l with _ | ⟨b11,l⟩ <;> simp at h
  rcases l with _ | ⟨b12,l⟩ <;> simp at h
  rcases l with _ | ⟨b13,l⟩ <;> simp at h
  rcases l with _ | ⟨b14,l⟩ <;> simp at h
  rcases l with _ | ⟨b15,l⟩ <;> simp at h
  subst h;exact⟨_,_,_,_,_,_,_,_,_,_,_,_,_,_,_,_,rfl⟩
theorem QM {key:List UInt8} (h:key.length=16) (r:Nat):dK key (4*(r+1))=dK key (4*r)++k9 (kb key r) (gR r):=by
  obtain⟨b0,b1,b2,b3,b4,b5,b6,b7,b8,b9,b10,b11,b12,b13,b14,b15,e⟩:=Ta (xJ h r);rw[e];refine OT (P:=(dK key (4*r)).take (16*r)) ?_ _ _ _ _ _ _ _ _ _ _ _ _ _ _ _ _ key ?_
  ·rw[WF,lE h]; omega
  ·rw[← e]; exact (Xg _ _).symm
def fv (key:List UInt8) (i:Nat):List UInt8:=dK key (4*i)++bz (160-16*i) 0
theorem QN {key:List UInt8} (h:key.length=16) {i:Nat} (hi:i≤10):(fv key i).length=176:=by
  unfold fv; rw[WA,lE h,cE]; omega
theorem OU {key:List UInt8} (h:key.length=16):cB (bz 176 (0:UInt8)) 0 key=fv key 0:=by
  unfold cB fv bz;rw[Xq,XP,List.drop_replicate,h]; rfl
theorem OV {key:List UInt8} (h:key.length=16) {i:Nat} (hi:i≤10):((fv key i).drop (i*16)).take 16=kb key i:=by
  unfold fv;rw[Nat.mul_comm,List.drop_append_of_le_length (by rw[lE h]; omega)];exact List.take_left' (xJ h i)
theorem OW {key:List UInt8} (h:key.length=16) {i:Nat} (hi:i<10):cB (fv key i) ((i+1)*16) (k9 (kb key i) (gR i))=fv key (i+1):=by
  have hl:(dK key (4*i)).length=(i+1)*16:=by rw[lE h]; omega
  unfold cB fv;rw[QM h,List.take_append_of_le_length (by omega),WE (by omega),qV,List.drop_append,XC (by omega),XP,hl]
  congr 1
  unfold bz;rw[List.drop_replicate]
  congr 1
  omega
theorem OX (key:List UInt8):fv key 10=aP key:=by
  unfold fv bz aP; rw[show 160-16*10=0 from rfl,XW,WS]
set_option maxHeartbeats 3200000
def xK (key:List UInt8) (i:Nat):St:=⟨aQ [(2,.w (.c (.ptr 2 1 0 0))),(3,.w (.c (.ptr 1 1 0 0))),(4,.w (.c (.d (bD (gR i))))),(5,.w (.c (.d (.int .i64 ((i+1:Nat):Int)))))],hL [(1,.box ((fv key i).map bC)),(2,.box ((bz 176 (0:UInt8)).map bC))],uL [1,2]⟩
theorem Wi:gR 0=1:=rfl
def vi:aM := .seq (.seq (.reg [oM 10 5,oO 11 (.bin .leq (.t 10) (kI 10))]) (.cond (.t 11) (.skip) (.exit 0))) (.seq (.block 1 (.seq (.reg [oM 14 5,oM 15 5,oO 16 (.bin .sub (.t 15) (kI 1)),oO 17 (.idxPa 16 11 (.t 3) (.t 16)),oO 18 (.load (.ag 16) (.t 17)),oM 19 4,oO 20 (.call 162 [(.t 18),(.t 19)] none),oO 21 (.idxPa 16 11 (.t 3) (.t 14)),oN (.store (.ag 16) (.t 21) (.t 20))]) (.reg [oM 22 4,oO 23 (.call 163 [(.t 22)] none),oM 4 23]))) (.reg [oM 12 5,oO 13 (.bin .add (.t 12) (kI 1)),oM 5 13]))
def GA:aE:=⟨1,25,.seq (.reg [oO 2 (.alloc (bz 176 (.d (.int .u8 0))))]) (.seq (.reg [oO 3 (.alloc (bz 176 (.d (.int .u8 0))))]) (.seq (.reg [oO 6 (.idxPa 16 11 (.t 3) (kI 0)),oO 7 (.sliceArr 1 16 (.t 6) none none),oM 8 0,oO 9 (.copy 1 (.t 7) (.t 8))]) (.seq (.reg [oO 4 (.mv (.k (.c (.d (.int .u8 1)))))]) (.seq (.seq (.reg [oO 5 (.mv (kI 1))]) (.block 0 (.loop vi))) (.seq (.reg [oO 24 (.load (.ag 176) (.t 3)),oN (.store (.ag 176) (.t 2) (.t 24))]) (.ret)))))),[(2,(some (.ag 176)))]⟩
theorem QO:aC Tryz.prog { own:=[],comp:=[],frz:=[],nils:=[] } Tryz.f148=some GA:=by kernel_rfl
theorem IX (G:ah) (key:List UInt8) (h:key.length=16):ak Tryz.prog G 148 [.sl (key.map bD)] (.w (.c (.d (.agg ((aP key).map bD))))):=by
  refine aG Tryz.func148 QO rfl rfl ?_;have ht:key.take 16=key:=WE (by omega);have h0:key++List.drop key.length (bz 176 (0:UInt8))=fv key 0:=by rw[← OU h]; simp[cB]
  have hid:=gm (fv key 0);have hid2:=gm (bz 176 (0:UInt8));simp only[GA,af,ae,aa,seval,iteOmega,toNatUp,Gj,iJ,cE,fg,ht,ia,pG,OB,h0];refine ba (xK key) (fun i=>10-i) (fun i=>i≤10) 0 (WI _) ?_ ?_
  ·refine aw (fun i=>if i=1 then 24 else 16) ?_ ?_ rfl (by simp[V.ids,W.ids,C.ids,Ob.ids,gm]) <;> simp only[wx,am,aH,aa,seval,iteOmega,toNatUp,Wi,Wp,mZ,gm]
  ·intro i hi;have hl:=QN h hi;by_cases hlt:i<10
   ·have g1:=OV h hi;have h5:List.take ((i+1)*16) (fv key i)++k9 (kb key i) (gR i)++List.drop ((i+1)*16+16) (fv key i)=fv key (i+1):=by
      rw[← OW h hlt]; unfold cB; rw[qV]
    have hf:=qV (kb key i) (gR i);have hx:gC (gR i)=gR (i+1):=rfl;have s1:((i:Int)+1-1).toNat=i:=by omega
    simp only[vi,xK,ae,aa,seval,iteOmega,toNatUp,iJ,hl,fg,i9,g1,pd];refine sC (Vi G (kb key i) (gR i) (xJ h i)) ?_;simp only[iJ,hl,pG,hf,fg,i9,jD,h5,ae,aa,seval,iteOmega,toNatUp];refine sC (KB G (gR i)) ?_;simp only[hx,ae,aa,seval,iteOmega,toNatUp];refine aS (i+1) (by omega) (by omega) (aw (fun i=>i) ?_ ?_ rfl (by simp[V.ids,W.ids,C.ids,Ob.ids,gm])) <;> simp only[wx,am,aH,aa,seval,iteOmega,toNatUp,mZ,gm]
   ·obtain rfl:i=10:=by omega
    have e:=OX key;have e2:=wW h;rw[e] at hl;have t1:(aP key).take 176=aP key:=WE (by omega);have t2:List.drop 176 (bz 176 (0:UInt8))=[]:=XC (by rw[cE]; omega);have t3:aP key++List.drop (aP key).length (bz 176 (0:UInt8))=aP key:=by rw[e2,t2,WS]
    simp only[vi,xK,e,ae,aa,seval,iteOmega,toNatUp,iJ,hl,e2,t1,t2,t3,pd,pG,cE,fg,i9,jD,WS];exact lH (by simp only[ae,aa,seval,iteOmega,toNatUp,iJ,hl,e2,t1,t2,t3,pd,pG,cE,fg,i9,jD,WS])
theorem OY (l:List UInt8):dC ((l.map bD).map C.d)=some (l.map bD):=by
  induction l with
  | nil=>rfl
  | cons x l ih =>
    show dC (C.d (bD x)::(l.map bD).map C.d)=_
    simp only[dC,ih,WH,XD]
theorem OZ (rk b:List UInt8) (hb:b.length=16):ma b (bQ (dT rk 0))=bQ (ip (dT rk) (bf b) 0):=by
  have:=vS (bf b) (dT rk 0);rw[SZ hb] at this;exact this
theorem QP (rk b:List UInt8) {n:Nat} (h:n+1<10):ma (pY (nT (bQ (ip (dT rk) (bf b) n)))) (bQ (dT rk (n+1)))=bQ (ip (dT rk) (bf b) (n+1)):=by
  rw[Er,OR,vS]
  show _=bQ (xF _ _ _)
  unfold xF;rw[if_pos h]
theorem O0 (rk b:List UInt8):ma (nT (bQ (ip (dT rk) (bf b) 9))) (bQ (dT rk 10))=eb rk b:=by
  rw[Er,vS];rfl
def yE (rk b:List UInt8) (i:Nat):St:=⟨aQ [(2,.w (.c (.rp (rk.map bD)))),(4,.w (.c (.pa 2 1))),(5,.w (.c (.pa 1 1))),(6,.w (.c (.d (.int .i64 ((i+1:Nat):Int)))))],hL [(1,.row 1 ((bQ (ip (dT rk) (bf b) i)).map bD)),(2,.row 1 ((bz 16 (0:UInt8)).map bD))],uL [1,2]⟩
def vj:aM := .seq (.seq (.reg [oM 14 6,oO 15 (.bin .lss (.t 14) (kI 10))]) (.cond (.t 15) (.skip) (.exit 0))) (.seq (.block 1 (.reg [oO 18 (.load (.ag 16) (.t 5)),oO 19 (.call 167 [(.t 18)] none),oO 20 (.call 166 [(.t 19)] none),oM 21 6,oO 22 (.idxPa 16 11 (.t 2) (.t 21)),oO 23 (.load (.ag 16) (.t 22)),oO 24 (.call 165 [(.t 20),(.t 23)] none),oN (.store (.ag 16) (.t 5) (.t 24))])) (.reg [oM 16 6,oO 17 (.bin .add (.t 16) (kI 1)),oM 6 17]))
def GC:aE:=⟨2,30,.seq (.reg [oO 2 (.box .roBox (.t 0)),oO 4 (.allocArr [(.int .u8 0),(.int .u8 0),(.int .u8 0),(.int .u8 0),(.int .u8 0),(.int .u8 0),(.int .u8 0),(.int .u8 0),(.int .u8 0),(.int .u8 0),(.int .u8 0),(.int .u8 0),(.int .u8 0),(.int .u8 0),(.int .u8 0),(.int .u8 0)])]) (.seq (.reg [oO 5 (.allocArr [(.int .u8 0),(.int .u8 0),(.int .u8 0),(.int .u8 0),(.int .u8 0),(.int .u8 0),(.int .u8 0),(.int .u8 0),(.int .u8 0),(.int .u8 0),(.int .u8 0),(.int .u8 0),(.int .u8 0),(.int .u8 0),(.int .u8 0),(.int .u8 0)])]) (.seq (.reg [oO 7 (.sliceArr 1 16 (.t 5) none none),oM 8 1,oO 9 (.copy 1 (.t 7) (.t 8))]) (.seq (.reg [oO 10 (.load (.ag 16) (.t 5)),oO 11 (.idxPa 16 11 (.t 2) (kI 0)),oO 12 (.load (.ag 16) (.t 11)),oO 13 (.call 165 [(.t 10),(.t 12)] none),oN (.store (.ag 16) (.t 5) (.t 13))])
 (.seq (.seq (.reg [oO 6 (.mv (kI 1))]) (.block 0 (.loop vj))) (.seq (.reg [oO 25 (.load (.ag 16) (.t 5)),oO 26 (.call 167 [(.t 25)] none),oO 27 (.idxPa 16 11 (.t 2) (kI 10)),oO 28 (.load (.ag 16) (.t 27)),oO 29 (.call 165 [(.t 26),(.t 28)] none),oN (.store (.ag 16) (.t 4) (.t 29))]) (.ret)))))),[(4,(some (.ag 16)))]⟩
theorem QQ:aC Tryz.prog { own:=[],comp:=[],frz:=[],nils:=[] } Tryz.f150=some GC:=by kernel_rfl
theorem IY (G:ah) (rk b:List UInt8) (hk:rk.length=176) (hb:b.length=16):ak Tryz.prog G 150 [.agg (rk.map bD),.sl (b.map bD)] (.w (.c (.d (.agg ((eb rk b).map bD))))):=by
  refine aG Tryz.func150 QQ rfl rfl ?_;have ht:b.take 16=b:=WE (by omega);have key:∀ r,r≤10→(rk.drop (16*r)).take 16=bQ (dT rk r):=fun r hr=>by
    apply XJ;intro j;by_cases hj:j<16
    ·rw[rI _ hj,W0,if_pos hj,Xp]; exact ei (by omega)
    ·rw[Xm (by rw[WF]; omega),Xm (by rw[fB]; omega)]
  have d1:b++List.drop b.length (bz 16 (0:UInt8))=b:=by rw[hb,XC (by rw[cE]; omega),WS]
  have d2:List.drop 16 (bz 16 (0:UInt8))=[]:=XC (by rw[cE]; omega);have k0:=key 0 (by decide);have l0:(bQ (dT rk 0)).length=16:=fB _;have t0:(bQ (dT rk 0)).take 16=bQ (dT rk 0):=WE (by rw[fB]; omega);have a0:=OZ rk b hb;have la:=fB (ip (dT rk) (bf b) 0);simp only[Nat.mul_zero,X8] at k0;simp only[GC,af,ae,aa,seval,iteOmega,toNatUp,gU,OY,cE,fg,ht,i9,jD,d1,d2,k0,ia,hb,l0,t0,WS,XY];refine sC (yB G b (bQ (dT rk 0)) hb l0) ?_;simp only[a0,la,cE,ae,aa,seval,iteOmega,toNatUp];refine ba (yE rk b) (fun i=>9-i) (fun i=>i≤9) 0 (WI _) ?_ ?_
  ·refine aw (fun i=>if i=1 then 40 else 32) ?_ ?_ rfl rfl <;> simp only[wx,am,aH,aa,seval,iteOmega,toNatUp]
  ·intro i hi;have le:=fB (ip (dT rk) (bf b) i);have hr:i+1≤10:=by omega
   have k1:=key (i+1) hr;rw[Nat.mul_comm] at k1;have l1:(bQ (dT rk (i+1))).length=16:=fB _;have t1:(bQ (dT rk (i+1))).take 16=bQ (dT rk (i+1)):=WE (by rw[fB]; omega);by_cases hlt:i<9
   ·have h5:=QP rk b (n:=i) (by omega);have le2:=fB (ip (dT rk) (bf b) (i+1));simp only[vj,yE,ae,aa,seval,iteOmega,toNatUp,le,ia];refine sD (IV G (bQ (ip (dT rk) (bf b) i)) le) ?_;refine sC (S8 G _ (vQ _)) ?_;simp only[fg,i9,k1,l1,t1,ae,aa,seval,iteOmega,toNatUp];refine sC (yB G _ _ (Eq _) l1) ?_;simp only[h5,le2,le,ae,aa,seval,iteOmega,toNatUp];refine aS (i+1) (by omega) (by omega) (aw (fun i=>i) ?_ ?_ rfl rfl) <;> simp only[wx,am,aH,aa,seval,iteOmega,toNatUp]
   ·obtain rfl:i=9:=by omega
    have h5:=O0 rk b;have le2:=iF rk b;simp only[vj,yE,ae,aa,seval,iteOmega,toNatUp,le,ia];refine sC (IV G (bQ (ip (dT rk) (bf b) 9)) le) ?_;simp only[fg,i9,k1,l1,t1,ae,aa,seval,iteOmega,toNatUp];refine sC (yB G _ _ (vQ _) l1) ?_;simp only[h5,le2,cE,ae,aa,seval,iteOmega,toNatUp];exact lH (by simp only[ae,aa,seval,iteOmega,toNatUp,le2,ia])
def mB (a b c:List UInt8):List UInt8:=a++b++c

theorem Es:∀ a b:List UInt8,cY (a++b)=if (cY b).2 then ((cY a).1++(cY b).1,(cY a).2) else (a++(cY b).1,false)
  | [],b=>by
    show cY b=if (cY b).2 then ([]++(cY b).1,true) else ([]++(cY b).1,false)
    rcases cY b with ⟨s,_ | _⟩ <;> rfl
  | x::a,b=>by
    have ih:=Es a b;simp only[XF,cY,ih];cases h:(cY b).2
    ·simp
    ·simp only[if_true];cases h2:(cY a).2 <;> simp
def carry (c:List UInt8) (m:Nat):Prop:=(cY (c.drop m)).2=true
def eT (c:List UInt8) (m:Nat):List UInt8:=c.take m++(cY (c.drop m)).1
theorem Et (c:List UInt8) (m:Nat):(eT c m).length=c.length:=by
  unfold eT; rw[WA,vP,← WA,Xg]
theorem Mm (c:List UInt8):eT c c.length=c:=by unfold eT; simp[cY]
theorem LW (c:List UInt8):carry c c.length:=by unfold carry; simp[cY]
theorem Nu (c:List UInt8):eT c 0=jS c:=by unfold eT jS; simp
theorem QR {c:List UInt8} {m:Nat} (h:m<c.length):(eT c (m+1))[m]?=some (c.getD m 0):=by
  unfold eT;rw[Xl (by rw[WF]; omega),W0,if_pos (by omega)];exact ei h
theorem B3 {c:List UInt8} {m:Nat} (h:m<c.length):c.drop m=c.getD m 0::c.drop (m+1):=by
  rw[List.drop_eq_getElem_cons h,WB,Wz h]; rfl
theorem QS {c:List UInt8} {m:Nat} (h:m<c.length) (hc:carry c (m+1)):(eT c (m+1)).set m (c.getD m 0+1)=eT c m:=by
  have e:(cY (c.drop m)).1=(c.getD m 0+1)::(cY (c.drop (m+1))).1:=by
    rw[B3 h];unfold carry at hc;simp only[cY,hc,if_true]
  have e2:c.take (m+1)=c.take m++[c.getD m 0]:=by
    rw[Yg,ei h]; rfl
  unfold eT;rw[e,e2,W7,Yo _ _ (by rw[WF]; omega),WF,show m-min m c.length=0 by omega];rfl
theorem Mn {c:List UInt8} {m:Nat} (h:m<c.length) (hc:carry c (m+1)):(cY (c.drop m)).2=(c.getD m 0+1==0):=by
  rw[B3 h];unfold carry at hc;simp only[cY,hc,if_true]
theorem QT {c:List UInt8} {m:Nat} (h:(cY (c.drop m)).2=false):eT c m=jS c:=by
  have:=Es (c.take m) (c.drop m);rw[Xg,h] at this;unfold jS eT;rw[this]; rfl
theorem Tb (x c:UInt8) (n:Int) (h:n=(c.toNat:Int)):bH .add (.w (.c (.d (bD x)))) (.w (.c (.d (.int .u8 n))))=some (bD (x+c)):=by
  subst h
  show bp .add .u8 (x.toNat:Int) .u8 (c.toNat:Int)=_
  rw[qL,IntKind.wrap_u8]
  show some (D.int .u8 (((x.toNat:Int)+(c.toNat:Int))%256))=_
  have:((x.toNat:Int)+(c.toNat:Int))%256=((x+c).toNat:Int):=by
    rw[UInt8.toNat_add]; simp
  rw[this]; rfl
def tR (c:List UInt8):List UInt8:=if c.length=16 then jS c else []
def tS (c:List UInt8) (m:Nat):St:=⟨aQ [(3,.w (.c (.own 1 1 0 16))),(4,.w (.c (.d (.int .i64 ((m:Int)-1)))))],hL [(1,.row 1 ((eT c m).map bD))],uL [1]⟩
def qX:aM := .seq (.seq (.reg [oM 14 4,oO 15 (.bin .geq (.t 14) (kI 0))]) (.cond (.t 15) (.skip) (.exit 0))) (.seq (.block 1 (.seq (.reg [oM 18 3,oM 19 4,oO 20 (.idxSl 1 (.t 18) (.t 19)),oO 21 (.load .sc (.t 20)),oO 22 (.bin .add (.t 21) (.k (.c (.d (.int .u8 1))))),oO 23 (.idxSl 1 (.t 18) (.t 19)),oN (.store .sc (.t 23) (.t 22))]) (.seq (.reg [oM 24 3,oM 25 4,oO 26 (.idxSl 1 (.t 24) (.t 25)),oO 27 (.load .sc (.t 26)),oO 28 (.bin .neq (.t 27) (.k (.c (.d (.int .u8 0)))))]) (.cond (.t 28) (.exit 0) (.skip))))) (.reg [oM 16 4,oO 17 (.bin .sub (.t 16) (kI 1)),oM 4 17]))
def xL:aE:=⟨1,30,.seq (.reg [oO 2 (.mv (.k (.c .nil)))]) (.seq (.seq (.reg [oM 5 0,oO 6 (.len (.t 5)),oO 7 (.bin .neq (.t 6) (kI 16))]) (.cond (.t 7) (.seq (.reg [oO 2 (.mv (.k (.c .nil)))]) (.ret)) (.skip))) (.seq (.reg [oM 8 0,oO 9 (.bldSl false 1 1 (.sl []) [(0,(.t 8))]),oO 10 (.call 90 [(.t 9)] (some (0,1))),oM 3 10]) (.seq (.seq (.reg [oM 11 3,oO 12 (.len (.t 11)),oO 13 (.bin .sub (.t 12) (kI 1)),oM 4 13]) (.block 0 (.loop qX))) (.seq (.reg [oM 29 3,oM 2 29]) (.ret))))),[(2,none)]⟩
theorem Tc:aC Tryz.prog { own:=[10],comp:=[],frz:=[],nils:=[] } Tryz.f151=some xL:=by kernel_rfl
theorem Vk (G:ah) (c:List UInt8) (hc:c.length≤140737488355328):ak Tryz.prog G 151 [.sl (c.map bD)] (.w (.c (.fr 1 ((tR c).map bD)))):=by
  refine aG Tryz.func151 Tc rfl rfl ?_;unfold tR;by_cases h:c.length=16
  ·rw[if_pos h];have hj:=fo G [c] (by simp) (by simp; omega);have hf:[c].flatten=c:=by simp
   rw[hf] at hj;have hs:=Mm c;rw[h] at hs;simp only[xL,af,ae,aa,seval,iteOmega,toNatUp,h];refine sD (hj) ?_;refine ba (tS c) (fun m=>m) (fun m=>m≤16∧carry c m) 16 ⟨WM _,by have:=LW c; rwa [h] at this⟩ ?_ ?_
   ·refine aw (fun i=>80) ?_ ?_ rfl rfl <;> simp only[wx,am,aH,aa,seval,iteOmega,toNatUp,hs,h] <;> rfl
   ·rintro m ⟨hm,hcar⟩;rcases m with _ | q
    ·have e0:=Nu c;have hl:(jS c).length=16:=by rw[BX]; exact h
     simp only[qX,tS,e0,X0,Int.zero_sub,ae,aa,seval,iteOmega,toNatUp];exact eE (id:=1) (n:=16) (s:=1) (by simp only[wx,aa,seval,iteOmega,toNatUp]) (by simp only[wx,aa,seval,iteOmega,toNatUp]) (by simp[hl])
    ·have hq:q<c.length:=by omega
     have hl1:(eT c (q+1)).length=16:=by rw[Et]; exact h
     have hl0:(eT c q).length=16:=by rw[Et]; exact h
     have g1:=QR hq;have h3:q<(eT c (q+1)).length:=by omega
     have h5:=QS hq hcar;have g2:(eT c q)[q]?=some (c.getD q 0+1):=by
       rw[← h5,List.getElem?_set_self (by omega)]
     have x1:=Tb (c.getD q 0) 1 1 rfl;have x2:=SG (c.getD q 0+1) 0 0 rfl;have hcs:=Mn hq hcar;have sub:((q:Int)+1-1)=(q:Int):=by omega
     by_cases hz:c.getD q 0+1=0
     ·have hz2:(c.getD q 0+1 != 0)=false:=by rw[hz]; rfl
      rw[hz2] at x2;have hcar2:carry c q:=by unfold carry; rw[hcs,hz]; rfl
      simp only[qX,tS,ae,aa,seval,iteOmega,toNatUp,sub,aJ,g1,x1,fC h3 (eZ _),gn,h5,g2,x2,hl1,hl0];refine aS q (by omega) ⟨by omega,hcar2⟩ (aw (fun i=>i) ?_ ?_ rfl rfl) <;> simp only[wx,am,aH,aa,seval,iteOmega,toNatUp]
     ·have hz2:(c.getD q 0+1 != 0)=true:=bne_iff_ne.2 hz;rw[hz2] at x2;have e0:eT c q=jS c:=QT (by rw[hcs]; exact beq_eq_false_iff_ne.2 hz);rw[e0] at hl0 g2 h5;simp only[qX,tS,ae,aa,seval,iteOmega,toNatUp,sub,aJ,g1,x1,fC h3 (eZ _),gn,h5,g2,x2,hl1,e0];exact eE (id:=1) (n:=16) (s:=1) (by simp only[wx,aa,seval,iteOmega,toNatUp]) (by simp only[wx,aa,seval,iteOmega,toNatUp]) (by simp[hl0])
  ·rw[if_neg h];simp only[xL,af,ae,aa,seval,iteOmega,toNatUp];exact ew
def pZ (key b:List UInt8):Int:=if key.length≠16 then 5 else if b.length≠16 then 3 else 0
def tT (key b:List UInt8):List UInt8:=if key.length=16∧b.length=16 then r9 key b else []
def sg:aE:=⟨2,18,.seq (.reg [oO 4 (.mv (.k (.c .nil))),oO 5 (.mv (kI 0))]) (.seq (.seq (.reg [oM 7 0,oO 8 (.len (.t 7)),oO 9 (.bin .neq (.t 8) (kI 16))]) (.cond (.t 9) (.seq (.reg [oO 4 (.mv (.k (.c .nil))),oO 5 (.mv (kI 5))]) (.ret)) (.skip))) (.seq (.seq (.reg [oM 10 1,oO 11 (.len (.t 10)),oO 12 (.bin .neq (.t 11) (kI 16))]) (.cond (.t 12) (.seq (.reg [oO 4 (.mv (.k (.c .nil))),oO 5 (.mv (kI 3))]) (.ret)) (.skip))) (.seq (.reg [oM 13 0,oO 14 (.call 148 [(.t 13)] none),oM 15 1,oO 16 (.call 150 [(.t 14),(.t 15)] none),oO 6 (.allocArr [(.int .u8 0),(.int .u8 0),(.int .u8 0),(.int .u8 0),(.int .u8 0),(.int .u8 0),(.int .u8 0),(.int .u8 0),(.int .u8 0),(.int .u8 0),(.int .u8 0),(.int .u8 0),(.int .u8 0),(.int .u8 0),(.int .u8 0),(.int .u8 0)]),oN (.store (.ag 16) (.t 6) (.t 16))]) (.seq (.reg [oO 17 (.sliceArr 1 16 (.t 6) none none),
 oM 4 17,oO 5 (.mv (kI 0))]) (.ret))))),[(4,none),(5,none)]⟩
theorem Td:aC Tryz.prog { own:=[],comp:=[],frz:=[],nils:=[] } Tryz.f168=some sg:=by kernel_rfl
theorem yF (G:ah) (key b:List UInt8) (hk:key.length≤9223372036854775807) (hb:b.length≤9223372036854775807):ak Tryz.prog G 168 [.sl (key.map bD),.sl (b.map bD)] (.tup [.c (.fr 1 ((tT key b).map bD)),.c (.d (.int .i64 (pZ key b)))]):=by
  refine aG Tryz.func168 Td rfl rfl ?_;unfold tT pZ;by_cases h:key.length=16
  ·by_cases h2:b.length=16
   ·have hr:=wW h;have hl:(r9 key b).length=16:=iF _ _;have ht:(r9 key b).take 16=r9 key b:=WE (by omega);rw[if_pos ⟨h,h2⟩,if_neg (by simp[h]),if_neg (by simp[h2])];simp only[sg,af,ae,aa,seval,iteOmega,toNatUp,h,h2,gU];refine sD (IX G key h) ?_;refine sC (IY G (aP key) b hr h2) ?_;simp only[iF,cE,hl,ae,aa,seval,iteOmega,toNatUp];exact xz (by simp only[ae,aa,seval,iteOmega,toNatUp,jm,iF,hl,iJ]; rfl) (by simp only[ae,aa,seval,iteOmega,toNatUp])
   ·rw[if_neg (fun k=>h2 k.2),if_neg (by simp[h]),if_pos h2];simp only[sg,af,ae,aa,seval,iteOmega,toNatUp,h];exact dr
  ·rw[if_neg (fun k=>h k.1),if_pos h];simp only[sg,af,ae,aa,seval,iteOmega,toNatUp];exact dr
def mb (key:List UInt8):Int:=if key.length≠16 then 5 else 0
def jh (r n:Nat):Nat:=(n-r%n)%n
def p0 (b:List UInt8) (n:Int):List UInt8:=if 1≤n∧n≤64 then b++List.replicate (jh b.length n.toNat) 0 else b
theorem QU (b:List UInt8) {n:Nat} (h:1≤n∧n≤64):p0 b (n:Int)=b++List.replicate (jh b.length n) 0:=by
  unfold p0; rw[if_pos (by omega),Yq]
theorem O4 (b:List UInt8) {n:Int} (h:¬ (1≤n∧n≤64)):p0 b n=b:=if_neg h
theorem O5 (r:Nat) {n:Nat} (h:1≤n):jh r n<n:=X3 _ (by omega)
theorem QV (n:Nat):aN 0 n=List.replicate n 0:=by
  unfold aN;simp only[Nat.zero_div]
  induction n with
  | zero=>rfl
  | succ n ih=>rw[Ye,Xc,ih,List.replicate_succ']; rfl
theorem IZ (a b:Nat):Int.tmod (a:Int) (b:Int)=((a%b:Nat):Int):=rfl
def si:aE:=⟨2,28,.seq (.reg [oO 4 (.mv (.k (.c .nil)))]) (.seq (.seq (.reg [oM 6 1,oO 7 (.bin .lss (.t 6) (kI 1)),oM 8 7,oG 9 (.mv (.t 1)) 8 false,oG 10 (.bin .gtr (.t 9) (kI 64)) 8 false,oO 11 (.pick (.t 8) (.k (.c (.d (.bool true)))) (.t 10))]) (.cond (.t 11) (.seq (.reg [oM 12 0,oO 13 (.bldSl false 1 1 (.sl []) [(0,(.t 12))]),oO 14 (.call 90 [(.t 13)] (some (0,1))),oM 4 14]) (.ret)) (.skip))) (.seq (.reg [oM 15 1,oM 16 0,oO 17 (.len (.t 16)),oM 18 1,oO 19 (.bin .rem (.t 17) (.t 18)),oO 20 (.bin .sub (.t 15) (.t 19)),oM 21 1,oO 22 (.bin .rem (.t 20) (.t 21)),oM 5 22]) (.seq (.reg [oM 23 0,oM 24 5,oO 25 (.call 91 [(.k (.c (.d (.int .u64 0)))),(.t 24)] none),oO 26 (.bldSl false 2 1 (.sl []) [(0,(.t 23)),(1,(.t 25))]),oO 27 (.call 90 [(.t 26)] (some (0,1))),oM 4 27]) (.ret)))),[(4,none)]⟩
theorem Tf:aC Tryz.prog { own:=[14,27],comp:=[],frz:=[],nils:=[] } Tryz.f187=some si:=by kernel_rfl
set_option maxHeartbeats 1600000 in
theorem Vl (G:ah) (b:List UInt8) (n:Int) (hb:b.length≤70368744177664):ak Tryz.prog G 187 [.sl (b.map bD),.int .i64 n] (.w (.c (.fr 1 ((p0 b n).map bD)))):=by
  refine aG Tryz.func187 Tf rfl rfl ?_;by_cases hc:1≤n∧n≤64
  ·obtain⟨m,rfl⟩:=Xz (show 0≤n by omega);rw[QU b (by omega)];have hr:b.length%m<m:=X3 _ (by omega);have hk:jh b.length m=(m-b.length%m)%m:=rfl;have hlt:=O5 b.length (n:=m) (by omega);have e1:=IZ b.length m;have e2:Int.tmod ((m:Int)-((b.length%m:Nat):Int)) (m:Int)=((jh b.length m:Nat):Int):=by
     rw[show (m:Int)-((b.length%m:Nat):Int)=((m-b.length%m:Nat):Int) by omega,IZ,hk]
   have hm:((m:Int)=0)=False:=eq_false (by omega);have hp:=kK G 0 (jh b.length m) (by omega);have hj:=fo G [b,aN 0 (jh b.length m)] (by simp) (by simp[bW]; omega);have hf:[b,aN 0 (jh b.length m)].flatten=b++List.replicate (jh b.length m) 0:=by rw[QV]; simp
   rw[hf] at hj;generalize jh b.length m=k at *
   simp only[si,af,ae,aa,seval,iteOmega,toNatUp,e1,e2,hm];refine sD (hp) ?_;refine sD (hj) ?_;exact ew
  ·rw[O4 b hc];have hj:=fo G [b] (by simp) (by simp; omega);have hf:[b].flatten=b:=by simp
   rw[hf] at hj;by_cases h1:n<1
   ·simp only[si,af,ae,aa,seval,iteOmega,toNatUp];refine sD (hj) ?_;exact ew
   ·have h2:64<n:=by omega
    simp only[si,af,ae,aa,seval,iteOmega,toNatUp];refine sD (hj) ?_;exact ew
def dG (b:List UInt8) (j:Nat):UInt8:=if j<15 then jt (d9 (b.getD j 0) 1) (ea (b.getD (j+1) 0) 7) else d9 (b.getD j 0) 1
def gV (b:List UInt8):List UInt8:=(List.range 16).map (dG b)
theorem wX (b:List UInt8):(gV b).length=16:=by simp[gV]
theorem wY (b:List UInt8) {j:Nat} (h:j<16):(gV b)[j]?=some (dG b j):=by simp[gV,h]
def p6 (b:List UInt8):UInt8:=jn (jo (b.getD 0 0) 7) 135
theorem O6 {b:List UInt8} (h:b.length=16):(gV b).set 15 (ar (dG b 15) (p6 b))=eU b:=by
  unfold eU;rw[if_pos h];apply XJ;intro j;rw[Yt];by_cases hj:j<16
  ·rw[rI _ hj];have hd:∀ k,bf b k=b.getD k 0:=fun _=>rfl
   by_cases h15:15=j
   ·subst h15;rw[if_pos rfl,if_pos (by rw[wX]; decide)];simp only[dG,zu,hd,p6,Nat.lt_irrefl,if_false,if_true,ve]
   ·rw[if_neg h15,wY _ hj];have:j<15:=by omega
    simp only[dG,zu,hd,if_pos this,if_neg (show ¬ j=15 by omega),ve,Te]
  ·rw[if_neg (by omega),Xm (by rw[wX]; omega),Xm (by rw[fB]; omega)]
theorem O7 (b:List UInt8):bH .mul (.w (.c (.d (bD (ea (b.getD 0 0) 7))))) (.w (.c (.d (.int .u8 135))))=some (bD (p6 b)):=by
  have key:=kO (p:=fun x=>(ea x 7).toNat*135%256==(jn (jo x 7) 135).toNat) (by decide +kernel) (b.getD 0 0);rw[beq_iff_eq] at key
  show bp .mul .u8 _ .u8 _=_
  rw[vJ,IntKind.wrap_u8];unfold p6 bD;rw[← key]
  congr 2
theorem O8 (x:UInt8):jt x 0=x:=by
  have key:=kO (p:=fun x=>jt x 0==x) (by decide +kernel) x;rw[beq_iff_eq] at key;exact key
theorem Wr:bD 0=.int .u8 0:=rfl
def mg (b:List UInt8) (m:Nat):UInt8:=if m<16 then ea (b.getD m 0) 7 else 0
theorem O9 (b:List UInt8) {q:Nat} (h:q<16):jt (d9 (b.getD q 0) 1) (mg b (q+1))=dG b q:=by
  unfold mg dG;by_cases h2:q<15
  ·rw[if_pos (by omega),if_pos h2]
  ·rw[if_neg (by omega),if_neg h2,O8]
theorem Tg (b:List UInt8) {q:Nat} (h:q<16):ea (b.getD q 0) 7=mg b q:=(if_pos h).symm
def ix (l:List UInt8) (m:Nat):List UInt8:=List.replicate m 0++l.drop m
theorem QW {l:List UInt8} {m:Nat} (h:m≤l.length):(ix l m).length=l.length:=by
  unfold ix; rw[WA,WY,WL]; omega
theorem Pb (l:List UInt8):ix l 0=l:=by simp[ix]
theorem Pf {l:List UInt8} {m:Nat} (h:l.length=m):ix l m=List.replicate m 0:=by
  unfold ix; rw[XC (by omega),WS]
theorem Pg {l:List UInt8} {q:Nat} (h:q<l.length):(ix l (q+1)).set q (l.getD q 0)=ix l q:=by
  unfold ix;rw[List.replicate_succ',W7,Yo _ _ (by simp),WY,Yz,List.drop_eq_getElem_cons h,WB,Wz h];rfl
def zw (b:List UInt8) (m:Nat):St:=⟨aQ [(0,.w (.c (.d (.sl (b.map bD))))),(3,.w (.c (.own 1 1 0 16))),(4,.w (.c (.d (bD (mg b m))))),(5,.w (.c (.d (.int .i64 ((m:Int)-1)))))],hL [(1,.row 1 ((ix (gV b) m).map bD))],uL [1]⟩
theorem QX {b:List UInt8} (h:b.length≠16):eU b=[]:=if_neg h
def vW:aM := .seq (.seq (.reg [oM 10 5,oO 11 (.bin .geq (.t 10) (kI 0))]) (.cond (.t 11) (.skip) (.exit 0))) (.seq (.block 1 (.seq (.reg [oM 14 3,oM 15 5,oM 16 0,oM 17 5,oO 18 (.idxSl 1 (.t 16) (.t 17)),oO 19 (.load .sc (.t 18)),oO 20 (.bin .shl (.t 19) (.k (.c (.d (.int .u64 1))))),oM 21 4,oO 22 (.bin .or (.t 20) (.t 21)),oO 23 (.idxSl 1 (.t 14) (.t 15)),oN (.store .sc (.t 23) (.t 22))]) (.reg [oM 24 0,oM 25 5,oO 26 (.idxSl 1 (.t 24) (.t 25)),oO 27 (.load .sc (.t 26)),oO 28 (.bin .shr (.t 27) (.k (.c (.d (.int .u64 7))))),oM 4 28]))) (.reg [oM 12 5,oO 13 (.bin .sub (.t 12) (kI 1)),oM 5 13]))
def xM:aE:=⟨1,37,.seq (.reg [oO 2 (.mv (.k (.c .nil)))]) (.seq (.seq (.reg [oM 6 0,oO 7 (.len (.t 6)),oO 8 (.bin .neq (.t 7) (kI 16))]) (.cond (.t 8) (.seq (.reg [oO 2 (.mv (.k (.c .nil)))]) (.ret)) (.skip))) (.seq (.reg [oO 9 (.make true 1 1 (.int .u8 0) (kI 16) (kI 16)),oM 3 9]) (.seq (.reg [oO 4 (.mv (.k (.c (.d (.int .u8 0)))))]) (.seq (.seq (.reg [oO 5 (.mv (kI 15))]) (.block 0 (.loop vW))) (.seq (.reg [oM 29 3,oO 30 (.idxSl 1 (.t 29) (kI 15)),oO 31 (.load .sc (.t 30)),oM 32 4,oO 33 (.bin .mul (.t 32) (.k (.c (.d (.int .u8 135))))),oO 34 (.bin .xor (.t 31) (.t 33)),oO 35 (.idxSl 1 (.t 29) (kI 15)),oN (.store .sc (.t 35) (.t 34))]) (.seq (.reg [oM 36 3,oM 2 36]) (.ret))))))),[(2,none)]⟩
theorem Ti:aC Tryz.prog { own:=[],comp:=[],frz:=[],nils:=[] } Tryz.f169=some xM:=by kernel_rfl
theorem sY (G:ah) (b:List UInt8) (hb:b.length≤9223372036854775807):ak Tryz.prog G 169 [.sl (b.map bD)] (.w (.c (.fr 1 ((eU b).map bD)))):=by
  refine aG Tryz.func169 Ti rfl rfl ?_;by_cases h:b.length=16
  ·have hd:=O6 h;have hl:=wX b;simp only[xM,af,ae,aa,seval,iteOmega,toNatUp,h,gU];refine ba (zw b) (fun m=>m) (fun m=>m≤16) 16 (WM _) ?_ ?_
   ·have e1:ix (gV b) 16=bz 16 0:=Pf hl;have e2:mg b 16=0:=rfl;refine aw (fun i=>72) ?_ ?_ rfl rfl <;> simp only[wx,am,aH,aa,seval,iteOmega,toNatUp,e1,e2,Wr]
   ·intro m hm;rcases m with _ | q
    ·have e0:=Pb (gV b);have c0:mg b 0=ea (b.getD 0 0) 7:=rfl;have x1:=O7 b;have g1:=wY b (j:=15) (by decide);have x2:=gj (dG b 15) (p6 b);have h3:15<(gV b).length:=by omega
     have hdl:(eU b).length=16:=lC h;simp only[vW,zw,e0,c0,X0,Int.zero_sub,ae,aa,seval,iteOmega,toNatUp,aJ,g1,x1,x2,fC h3 (eZ _),gn,hd];exact eE (id:=1) (n:=16) (s:=1) (by simp only[wx,aa,seval,iteOmega,toNatUp]) (by simp only[wx,aa,seval,iteOmega,toNatUp]) (by simp[hdl])
    ·have hq:q<16:=by omega
     have g1:b[q]?=some (b.getD q 0):=ei (by omega);have hl1:=QW (l:=gV b) (m:=q+1) (by omega);have h3:q<(ix (gV b) (q+1)).length:=by omega
     have x1:=ID (b.getD q 0) .u64 1 1 rfl (by decide);have x2:=vK (d9 (b.getD q 0) 1) (mg b (q+1));have x3:=IC (b.getD q 0) .u64 7 7 rfl (by decide);have c1:=O9 b hq;have c2:=Tg b hq;have hs:=Pg (l:=gV b) (q:=q) (by omega);have hg:(gV b).getD q 0=dG b q:=by rw[WB,wY b hq]; rfl
     rw[hg] at hs;have sub:((q:Int)+1-1)=(q:Int):=by omega
     simp only[vW,zw,ae,aa,seval,iteOmega,toNatUp,sub,aJ,g1,x1,x2,x3,c1,c2,h,fC h3 (eZ _),gn,hs];refine aS q (by omega) (by omega) (aw (fun i=>i) ?_ ?_ rfl rfl) <;> simp only[wx,am,aH,aa,seval,iteOmega,toNatUp]
  ·rw[QX h];simp only[xM,af,ae,aa,seval,iteOmega,toNatUp];exact ew
def kg (a b:List UInt8) (j:Nat):UInt8:=ar (a.getD j 0) (b.getD j 0)
theorem QY {a b:List UInt8} {n:Nat} (ha:a.length=n) (hb:b.length=n):(List.range n).map (kg a b)=cC a b:=by
  apply XJ;intro j;by_cases hj:j<n
  ·have:=Eu a b j (by omega) (by omega);have hl:j<(cC a b).length:=by rw[hY]; omega
   rw[ei hl,this];simp[hj,kg]
  ·rw[Xm (by simpa using hj),Xm (by rw[hY]; omega)]
def yG (a b:List UInt8) (i:Nat):St:=⟨aQ [(0,.w (.c (.d (.sl (a.map bD))))),(1,.w (.c (.d (.sl (b.map bD))))),(5,.w (.c (.own 1 1 0 16))),(9,.w (.c (.d (.int .i64 16)))),(10,.w (.c (.d (.int .i64 (i:Int)))))],hL [(1,.row 1 ((bM (kg a b) (bz 16 0) i).map bD))],uL [1]⟩
def vX:aM := .seq (.reg [oO 11 (.bin .lss (.t 10) (.t 9))]) (.seq (.cond (.t 11) (.skip) (.exit 0)) (.seq (.block 1 (.seq (.reg [oM 12 10,oM 6 12]) (.reg [oM 13 5,oM 14 6,oM 15 0,oM 16 6,oO 17 (.idxSl 1 (.t 15) (.t 16)),oO 18 (.load .sc (.t 17)),oM 19 1,oM 20 6,oO 21 (.idxSl 1 (.t 19) (.t 20)),oO 22 (.load .sc (.t 21)),oO 23 (.bin .xor (.t 18) (.t 22)),oO 24 (.idxSl 1 (.t 13) (.t 14)),oN (.store .sc (.t 24) (.t 23))]))) (.reg [oO 25 (.bin .add (.t 10) (kI 1)),oM 10 25])))
def I0:aE:=⟨2,27,.seq (.reg [oO 4 (.mv (.k (.c .nil)))]) (.seq (.reg [oO 7 (.make true 1 1 (.int .u8 0) (kI 16) (kI 16)),oM 5 7]) (.seq (.seq (.reg [oM 8 5,oO 9 (.len (.t 8)),oO 10 (.mv (kI 0))]) (.block 0 (.loop vX))) (.seq (.reg [oM 26 5,oM 4 26]) (.ret)))),[(4,none)]⟩
theorem Tj:aC Tryz.prog { own:=[],comp:=[],frz:=[],nils:=[] } Tryz.f171=some I0:=by kernel_rfl
theorem lT (G:ah) (a b:List UInt8) (ha:a.length=16) (hb:b.length=16):ak Tryz.prog G 171 [.sl (a.map bD),.sl (b.map bD)] (.w (.c (.fr 1 ((cC a b).map bD)))):=by
  refine aG Tryz.func171 Tj rfl rfl ?_;have zl:(bz 16 (0:UInt8)).length=16:=cE _ _;simp only[I0,af,ae,aa,seval,iteOmega,toNatUp,gU];refine ba (yG a b) (fun i=>16-i) (fun i=>i≤16) 0 (WI _) ?_ ?_
  ·have e1:=oV (kg a b) (bz 16 0);refine aw (fun i=>56) ?_ ?_ rfl rfl <;> simp only[wx,am,aH,aa,seval,iteOmega,toNatUp,e1]
  ·intro i hi;by_cases hlt:i<16
   ·have g1:a[i]?=some (a.getD i 0):=ei (by omega);have g2:b[i]?=some (b.getD i 0):=ei (by omega);have hl1:=mR (kg a b) (bz 16 0) (i:=i) (by omega);have h3:i<(bM (kg a b) (bz 16 0) i).length:=by omega
    have x1:=gj (a.getD i 0) (b.getD i 0);have hx:ar (a.getD i 0) (b.getD i 0)=kg a b i:=rfl;have hs:=oW (kg a b) (bz 16 0) (i:=i) (by omega);simp only[vX,yG,ae,aa,seval,iteOmega,toNatUp,aJ,g1,g2,x1,ha,hb,fC h3 (eZ _),gn,hx,hs];refine aS (i+1) (by omega) (by omega) (aw (fun i=>i) ?_ ?_ rfl rfl) <;> simp only[wx,am,aH,aa,seval,iteOmega,toNatUp]
   ·obtain rfl:i=16:=by omega
    have e1:bM (kg a b) (bz 16 0) 16=cC a b:=by rw[Ep _ _ (by rw[cE]; decide),QY ha hb]
    have hl:(cC a b).length=16:=by rw[hY]; exact ha
    simp only[vX,yG,e1,ae,aa,seval,iteOmega,toNatUp];exact eE (id:=1) (n:=16) (s:=1) (by simp only[wx,aa,seval,iteOmega,toNatUp]) (by simp only[wx,aa,seval,iteOmega,toNatUp]) (by simp[hl])
theorem GD {key b:List UInt8} (h:key.length=16) (hb:b.length=16):tT key b=eb (aP key) b:=if_pos ⟨h,hb⟩
theorem GE {key b:List UInt8} (h:key.length=16) (hb:b.length=16):pZ key b=0:=by unfold pZ; rw[if_neg (by omega),if_neg (by omega)]
theorem QZ (b:List UInt8):p0 b 16=iq b:=rfl
def fP (key:List UInt8):D:=.agg [.sl (key.map bD),.sl ((ir (aP key)).map bD),.sl ((j6 (aP key)).map bD)]
def qe (key:List UInt8):D:=if key.length=16 then fP key else .agg [.sl [],.sl [],.sl []]
theorem yH (s:Nat) (l:List UInt8) (k:IntKind) (n:Int):V.flat (.tup [.c (.fr s (l.map bD)),.c (.d (.int k n))])=true:=by
  have:=tN s l;simp only[V.flat,W.flat,List.all_cons,List.all_nil,Bool.and_true] at this ⊢;rw[this]; rfl
def GF:aE:=⟨2,15,.seq (.reg [oO 2 (.box .roBox (.t 0)),oO 4 (.mv (.k (.c .nil)))]) (.seq (.reg [oO 8 (.fieldAddr 0 (.t 2)),oO 9 (.load .sc (.t 8)),oM 10 1,oO 11 (.call 168 [(.t 9),(.t 10)] (some (0,1))),oM 7 11,oO 12 (.extract (.t 7) 0),oO 13 (.extract (.t 7) 1),oM 5 12,oM 6 13]) (.seq (.reg [oM 14 5,oM 4 14]) (.ret))),[(4,none)]⟩
theorem Q0:aC Tryz.prog { own:=[],comp:=[(11,0)],frz:=[],nils:=[] } Tryz.f181=some GF:=by kernel_rfl
theorem I1 (G:ah) (key b:List UInt8) (h:key.length=16) (hb:b.length=16):ak Tryz.prog G 181 [.agg [.sl (key.map bD)],.sl (b.map bD)] (.w (.c (.fr 1 ((eb (aP key) b).map bD)))):=by
  refine aG Tryz.func181 Q0 rfl rfl ?_;have hx:=yF G key b (by omega) (by omega);rw[GD h hb,GE h hb] at hx;simp only[GF,af,ae,aa,seval,iteOmega,toNatUp];refine sD (hx) ?_;exact ew
theorem Tk (G:ah) (key b:List UInt8) (h:key.length=16) (hb:b.length=16):ak Tryz.prog G 181 [.agg [.sl (key.map bD)],.sl (b.map bD)] (.w (.c (.d (.sl ((eb (aP key) b).map bD))))):=kH (I1 G key b h hb)
def wZ:aE:=⟨1,25,.seq (.reg [oO 2 (.alloc [.nil,.nil,.nil]),oO 3 (.mv (kI 0))]) (.seq (.reg [oM 8 0,oO 9 (.make true 1 1 (.int .u8 0) (kI 16) (kI 16)),oO 10 (.call 168 [(.t 8),(.t 9)] none),oM 7 10,oO 11 (.extract (.t 7) 0),oO 12 (.extract (.t 7) 1),oM 4 11,oM 5 12]) (.seq (.seq (.reg [oM 13 5,oO 14 (.bin .neq (.t 13) (kI 0))]) (.cond (.t 14) (.seq (.reg [oO 15 (.build [.nil,.nil,.nil] []),oM 16 5,oN (.store (.ag 3) (.t 2) (.t 15)),oM 3 16]) (.ret)) (.skip))) (.seq (.reg [oM 17 4,oO 18 (.call 169 [(.t 17)] none),oM 6 18]) (.seq (.reg [oM 19 0,oO 20 (.build [.nil] [(0,1,(.t 19))]),oM 21 6,oM 22 6,oO 23 (.call 169 [(.t 22)] none),oO 24 (.build [.nil,.nil,.nil] [(0,1,(.t 20)),(1,1,(.t 21)),(2,1,(.t 23))]),oN (.store (.ag 3) (.t 2) (.t 24)),oO 3 (.mv (kI 0))]) (.ret))))),[(2,(some (.ag 3))),(3,none)]⟩
theorem Q1:aC Tryz.prog { own:=[],comp:=[],frz:=[],nils:=[] } Tryz.f153=some wZ:=by kernel_rfl
theorem Tl (G:ah) (key:List UInt8) (hk:key.length≤9223372036854775807):ak Tryz.prog G 153 [.sl (key.map bD)] (.tup [.c (.d (qe key)),.c (.d (.int .i64 (mb key)))]):=by
  refine aG Tryz.func153 Q1 rfl rfl ?_;have t0:(bz 16 (0:UInt8)).take 16=fD:=rfl;by_cases h:key.length=16
  ·have hx:=yF G key fD (by omega) (by decide);rw[GD h (by decide),GE h (by decide)] at hx;have hv:qe key=fP key:=if_pos h;have he:mb key=0:=by unfold mb; rw[if_neg (by omega)]
   have h1:=sY G (eb (aP key) fD) (by rw[iF]; decide);have h2:=sY G (ir (aP key)) (by rw[vV]; decide);have s1:eU (eb (aP key) fD)=ir (aP key):=rfl;have s2:eU (ir (aP key))=j6 (aP key):=rfl;rw[s1] at h1;rw[s2] at h2;rw[hv,he];simp only[wZ,af,ae,aa,seval,iteOmega,toNatUp,gU];refine bi hx (by simp only[ae,aa,seval,iteOmega,toNatUp,fg,t0,cE]) (.inr (yH _ _ _ _)) ?_;simp only[ae,aa,seval,iteOmega,toNatUp];refine sD (h1) ?_;refine sD (h2) ?_;exact iO (by simp only[ae,aa,seval,iteOmega,toNatUp,fP]) (by simp only[ae,aa,seval,iteOmega,toNatUp])
  ·have hv:qe key=.agg [.sl [],.sl [],.sl []]:=if_neg h;have he:mb key=5:=if_pos h;have hx:=yF G key fD (by omega) (by decide);have v1:tT key fD=[]:=if_neg (fun k=>h k.1);have v2:pZ key fD=5:=if_pos h;rw[v1,v2] at hx;rw[hv,he];simp only[wZ,af,ae,aa,seval,iteOmega,toNatUp,gU];refine bi hx (by simp only[ae,aa,seval,iteOmega,toNatUp,fg,t0,cE]) (.inr (yH _ _ _ _)) ?_;simp only[ae,aa,seval,iteOmega,toNatUp];exact aO
def GG:aE:=⟨1,8,.seq (.reg [oO 2 (.mv (.k (.c .nil)))]) (.seq (.reg [oM 3 0,oO 4 (.bldSl false 1 1 (.int .u8 0) [(0,(.k (.c (.d (.int .u8 128)))))]),oO 5 (.bldSl false 2 1 (.sl []) [(0,(.t 3)),(1,(.t 4))]),oO 6 (.call 90 [(.t 5)] none),oO 7 (.call 187 [(.t 6),(kI 16)] none),oM 2 7]) (.ret)),[(2,none)]⟩
theorem Q2:aC Tryz.prog { own:=[],comp:=[],frz:=[],nils:=[] } Tryz.f183=some GG:=by kernel_rfl
theorem I2 (G:ah) (b:List UInt8) (hb:b.length≤70000):ak Tryz.prog G 183 [.sl (b.map bD)] (.w (.c (.d (.sl ((iq (b++[128])).map bD))))):=by
  refine aG Tryz.func183 Q2 rfl rfl ?_;have hj:=fo G [b,[128]] (by simp) (by simp; omega);have hf:[b,[128]].flatten=b++[128]:=by simp
  rw[hf] at hj;have hp:=Vl G (b++[128]) 16 (by simp; omega);rw[QZ] at hp;simp only[GG,af,ae,aa,seval,iteOmega,toNatUp];refine sD (hj) ?_;refine sD (hp) ?_;exact aI
theorem Nv (rk:List UInt8) {e:List UInt8} (h:e.length=16):j7 rk e=cC e (ir rk):=if_pos h
theorem Nw (rk:List UInt8) {e:List UInt8} (h:e.length≠16):j7 rk e=cC (iq (e++[128])) (j6 rk):=if_neg h
def vY:aE:=⟨2,17,.seq (.reg [oO 2 (.box .roBox (.t 0)),oO 4 (.mv (.k (.c .nil)))]) (.seq (.seq (.reg [oM 5 1,oO 6 (.len (.t 5)),oO 7 (.bin .eql (.t 6) (kI 16))]) (.cond (.t 7) (.seq (.reg [oM 8 1,oO 9 (.fieldAddr 1 (.t 2)),oO 10 (.load .sc (.t 9)),oO 11 (.call 171 [(.t 8),(.t 10)] none),oM 4 11]) (.ret)) (.skip))) (.seq (.reg [oM 12 1,oO 13 (.call 183 [(.t 12)] none),oO 14 (.fieldAddr 2 (.t 2)),oO 15 (.load .sc (.t 14)),oO 16 (.call 171 [(.t 13),(.t 15)] none),oM 4 16]) (.ret))),[(4,none)]⟩
theorem Ph:aC Tryz.prog { own:=[],comp:=[],frz:=[],nils:=[] } Tryz.f182=some vY:=by kernel_rfl
theorem Q3 (G:ah) (key b:List UInt8) (hb:b.length≤16):ak Tryz.prog G 182 [fP key,.sl (b.map bD)] (.w (.c (.d (.sl ((j7 (aP key) b).map bD))))):=by
  refine aG Tryz.func182 Ph rfl rfl ?_;by_cases h:b.length=16
  ·rw[Nv _ h];simp only[vY,af,fP,ae,aa,seval,iteOmega,toNatUp,h];refine sD (lT G b (ir (aP key)) h (vV _)) ?_;exact aI
  ·rw[Nw _ h];simp only[vY,af,fP,ae,aa,seval,iteOmega,toNatUp];refine sD (I2 G b (by omega)) ?_;refine sD (lT G (iq (b++[128])) (j6 (aP key)) (uP (by omega)) (O1 _)) ?_;exact aI
def lc (key b:List UInt8):Nat→V
  | 0=>.w (.c (.own 1 1 0 16))
  | i+1=>.w (.c (.d (.sl ((gy (aP key) b (i+1)).map bD))))
def pL (key b:List UInt8) (i:Nat):St:=⟨aQ [(1,.w (.c (.d (.sl ((b.drop (16*i)).map bD))))),(2,.w (.c (.rp [.sl (key.map bD),.sl ((ir (aP key)).map bD),.sl ((j6 (aP key)).map bD)]))),(5,lc key b i)],hL [(1,.row 1 ((bz 16 (0:UInt8)).map bD))],uL [1]⟩
theorem Tm (b:List UInt8) (i:Nat):((b.drop (16*i)).drop 16).take ((b.drop (16*i)).length-16)=b.drop (16*(i+1)):=by
  rw[Yv,WE (by simp only[WL]; omega)]; rfl
def oJ:aM := .seq (.seq (.reg [oM 7 1,oO 8 (.len (.t 7)),oO 9 (.bin .gtr (.t 8) (kI 16))]) (.cond (.t 9) (.skip) (.exit 0))) (.block 1 (.seq (.reg [oO 10 (.fieldAddr 0 (.t 2)),oO 11 (.load (.ag 1) (.t 10)),oM 12 5,oM 13 1,oO 14 (.slice 1 (.t 13) none (some (kI 16)) none),oO 15 (.call 171 [(.t 12),(.t 14)] none),oO 16 (.call 181 [(.t 11),(.t 15)] none),oM 5 16]) (.reg [oM 17 1,oO 18 (.slice 1 (.t 17) (some (kI 16)) none none),oM 1 18])))
def GH:aE:=⟨2,27,.seq (.reg [oO 2 (.box .roBox (.t 0)),oO 4 (.mv (.k (.c .nil)))]) (.seq (.reg [oO 6 (.make true 1 1 (.int .u8 0) (kI 16) (kI 16)),oM 5 6]) (.seq (.block 0 (.loop oJ)) (.seq (.reg [oO 19 (.fieldAddr 0 (.t 2)),oO 20 (.load (.ag 1) (.t 19)),oM 21 5,oO 22 (.load (.ag 3) (.t 2)),oM 23 1,oO 24 (.call 182 [(.t 22),(.t 23)] none),oO 25 (.call 171 [(.t 21),(.t 24)] none),oO 26 (.call 181 [(.t 20),(.t 25)] (some (0,1))),oM 4 26]) (.ret)))),[(4,none)]⟩
theorem Q4:aC Tryz.prog { own:=[26],comp:=[],frz:=[],nils:=[] } Tryz.f170=some GH:=by kernel_rfl
theorem sn (G:ah) (key b:List UInt8) (h:key.length=16) (hb:b.length≤70000):ak Tryz.prog G 170 [fP key,.sl (b.map bD)] (.w (.c (.fr 1 ((gS (aP key) b).map bD)))):=by
  refine aG Tryz.func170 Q4 rfl rfl ?_;have t0:(bz 16 (0:UInt8)).take 16=fD:=rfl;have hah:lK b=(b.length+15) / 16-1:=rfl;have hm:∀ i,i=lK b→gS (aP key) b=eb (aP key) (cC (gy (aP key) b i) (j7 (aP key) (b.drop (16*i)))):=fun i e=>by rw[e]; rfl
  simp only[GH,af,fP,ae,aa,seval,iteOmega,toNatUp,gU];refine ba (pL key b) (fun i=>lK b-i) (fun i=>i≤lK b) 0 (WI _) ?_ ?_
  ·refine aw (fun i=>48) ?_ ?_ rfl rfl <;> simp only[wx,am,aH,aa,seval,iteOmega,toNatUp,lc]
  ·intro i hi;have hcl:(b.drop (16*i)).length=b.length-16*i:=WL;have hdr:=Tm b i;by_cases hlt:i<lK b
   ·have hT:((b.drop (16*i)).take 16).length=16:=by rw[WF]; omega
    have hstep:eb (aP key) (cC (gy (aP key) b i) ((b.drop (16*i)).take 16))=gy (aP key) b (i+1):=rfl;have h1:=lT G (gy (aP key) b i) ((b.drop (16*i)).take 16) (qY _ _ _) hT;have h2:=Tk G key (cC (gy (aP key) b i) ((b.drop (16*i)).take 16)) h (by rw[hY,qY]);rw[hstep] at h2;rcases i with _ | i
    ·have hz:gy (aP key) b 0=fD:=rfl;rw[hz] at h1 h2;simp only[Nat.mul_zero,X8,Xr,X6] at hdr;simp only[oJ,pL,lc,ae,aa,seval,iteOmega,toNatUp];refine bi h1 (by simp only[ae,aa,seval,iteOmega,toNatUp,fg,t0,cE]) (.inr (tN _ _)) ?_;simp only[ae,aa,seval,iteOmega,toNatUp];refine sC (h2) ?_;simp only[hdr,ae,aa,seval,iteOmega,toNatUp];refine aS (0+1) (by omega) (by omega) (aw (fun i=>i) ?_ ?_ rfl rfl) <;> simp only[wx,am,aH,aa,seval,iteOmega,toNatUp,lc]
    ·simp only[oJ,pL,lc,ae,aa,seval,iteOmega,toNatUp];refine sD (h1) ?_;refine sC (h2) ?_;simp only[hdr,ae,aa,seval,iteOmega,toNatUp];refine aS (i+1+1) (by omega) (by omega) (aw (fun i=>i) ?_ ?_ rfl rfl) <;> simp only[wx,am,aH,aa,seval,iteOmega,toNatUp,lc]
   ·rw[hm i (by omega)];have hl16:(b.drop (16*i)).length≤16:=by omega
    have h1:=Q3 G key (b.drop (16*i)) hl16;have h2:=lT G (gy (aP key) b i) (j7 (aP key) (b.drop (16*i))) (qY _ _ _) (O2 hl16);have h3:=I1 G key (cC (gy (aP key) b i) (j7 (aP key) (b.drop (16*i)))) h (by rw[hY,qY]);rcases i with _ | i
    ·have hz:gy (aP key) b 0=fD:=rfl;rw[hz] at h2 h3 ⊢;simp only[oJ,pL,lc,ae,aa,seval,iteOmega,toNatUp];refine sD (h1) ?_;refine bi h2 (by simp only[ae,aa,seval,iteOmega,toNatUp,fg,t0,cE]) (.inr (tN _ _)) ?_;simp only[ae,aa,seval,iteOmega,toNatUp];refine sD (h3) ?_;exact ew
    ·simp only[oJ,pL,lc,ae,aa,seval,iteOmega,toNatUp];refine sD (h1) ?_;refine sD (h2) ?_;refine sD (h3) ?_;exact ew
theorem Tn (G:ah) (key b:List UInt8) (h:key.length=16) (hb:b.length≤70000):ak Tryz.prog G 170 [fP key,.sl (b.map bD)] (.w (.c (.d (.sl ((gS (aP key) b).map bD))))):=kH (sn G key b h hb)
def w3:aE:=⟨2,26,.seq (.reg [oO 4 (.mv (.k (.c .nil)))]) (.seq (.reg [oM 6 0,oO 7 (.len (.t 6)),oO 8 (.bin .sub (.t 7) (kI 16)),oM 5 8]) (.seq (.seq (.reg [oM 9 5,oO 10 (.bin .lss (.t 9) (kI 0))]) (.cond (.t 10) (.seq (.reg [oM 11 1,oO 12 (.call 169 [(.t 11)] none),oM 13 0,oO 14 (.call 183 [(.t 13)] none),oO 15 (.call 171 [(.t 12),(.t 14)] none),oM 4 15]) (.ret)) (.skip))) (.seq (.reg [oM 16 0,oM 17 5,oO 18 (.slice 1 (.t 16) none (some (.t 17)) none),oM 19 0,oM 20 5,oO 21 (.slice 1 (.t 19) (some (.t 20)) none none),oM 22 1,oO 23 (.call 171 [(.t 21),(.t 22)] none),oO 24 (.bldSl false 2 1 (.sl []) [(0,(.t 18)),(1,(.t 23))]),oO 25 (.call 90 [(.t 24)] none),oM 4 25]) (.ret)))),[(4,none)]⟩
theorem Q5:aC Tryz.prog { own:=[],comp:=[],frz:=[],nils:=[] } Tryz.f172=some w3:=by kernel_rfl
theorem To (G:ah) (s d:List UInt8) (hs:s.length≤70000) (hd:d.length=16):ak Tryz.prog G 172 [.sl (s.map bD),.sl (d.map bD)] (.w (.c (.d (.sl ((if 16≤s.length then s.take (s.length-16)++cC (s.drop (s.length-16)) d else cC (eU d) (iq (s++[128]))).map bD))))):=by
  refine aG Tryz.func172 Q5 rfl rfl ?_;by_cases h:16≤s.length
  ·rw[if_pos h];have hl:(s.drop (s.length-16)).length=16:=by rw[WL]; omega
   have ht:(s.drop (s.length-16)).take (s.length-(s.length-16))=s.drop (s.length-16):=WE (by omega);have hj:=fo G [s.take (s.length-16),cC (s.drop (s.length-16)) d] (by simp) (by simp[hY]; omega);have hf:[s.take (s.length-16),cC (s.drop (s.length-16)) d].flatten=s.take (s.length-16)++cC (s.drop (s.length-16)) d:=by simp
   rw[hf] at hj;have e1:(((s.length:Int)-16).toNat)=s.length-16:=by omega
   simp only[w3,af,ae,aa,seval,iteOmega,toNatUp,e1,ht];refine sD (lT G (s.drop (s.length-16)) d hl hd) ?_;refine sD (hj) ?_;exact aI
  ·rw[if_neg h];simp only[w3,af,ae,aa,seval,iteOmega,toNatUp];refine sD (sY G d (by omega)) ?_;refine sD (I2 G s (by omega)) ?_;refine sD (lT G (eU d) (iq (s++[128])) (lC hd) (uP (by omega))) ?_;exact aI
def yI (key:List UInt8) (l:List (List UInt8)) (i:Nat):St:=⟨aQ [(1,.w (.c (.d (.sl (l.map fun l=>D.sl (l.map bD)))))),(2,.w (.c (.rp [.sl (key.map bD),.sl ((ir (aP key)).map bD),.sl ((j6 (aP key)).map bD)]))),(5,.w (.c (.d (.sl ((gT (aP key) l i).map bD))))),(6,.w (.c (.d (.int .i64 ((l.length:Int)-1))))),(23,.w (.c (.d (.sl ((l.take (l.length-1)).map fun l=>D.sl (l.map bD)))))),(24,.w (.c (.d (.int .i64 ((l.length:Int)-1))))),(25,.w (.c (.d (.int .i64 (i:Int)))))],hL [(1,.row 1 ((bz 16 (0:UInt8)).map bD))],uL [1]⟩
theorem Ny (rk:List UInt8) {l:List (List UInt8)} (h:l.length=0):iT rk l=gS rk (aN 1 16):=by
  unfold iT; rw[if_pos h]; congr 1
theorem Nz (rk:List UInt8) {l:List (List UInt8)} (h:l.length≠0):iT rk l=gS rk (if 16≤(l.getD (l.length-1) []).length then (l.getD (l.length-1) []).take ((l.getD (l.length-1) []).length-16)++cC ((l.getD (l.length-1) []).drop ((l.getD (l.length-1) []).length-16)) (gT rk l (l.length-1)) else cC (eU (gT rk l (l.length-1))) (iq (l.getD (l.length-1) []++[128]))):=by
  unfold iT; rw[if_neg h]; dsimp only; split <;> rfl
theorem w5 {l:List (List UInt8)} {j:Nat} (h:j<l.length):l[j]?=some (l.getD j []):=by
  rw[WB,Wz h]; rfl
theorem q0 {l:List (List UInt8)} {j:Nat} (h:j<l.length):l.getD j []∈l:=by
  rw[WB,Wz h]; exact W9 h
def vk:aM := .seq (.reg [oO 26 (.bin .lss (.t 25) (.t 24))]) (.seq (.cond (.t 26) (.skip) (.exit 0)) (.seq (.block 1 (.seq (.reg [oO 27 (.idxSl 1 (.t 23) (.t 25)),oO 28 (.load .sc (.t 27)),oM 8 28]) (.reg [oM 29 5,oO 30 (.call 169 [(.t 29)] none),oO 31 (.load (.ag 3) (.t 2)),oM 32 8,oO 33 (.call 170 [(.t 31),(.t 32)] none),oO 34 (.call 171 [(.t 30),(.t 33)] none),oM 5 34]))) (.reg [oO 35 (.bin .add (.t 25) (kI 1)),oM 25 35])))
def w6:aE:=⟨2,44,.seq (.reg [oO 2 (.box .roBox (.t 0)),oO 4 (.mv (.k (.c .nil)))]) (.seq (.seq (.reg [oM 9 1,oO 10 (.len (.t 9)),oO 11 (.bin .eql (.t 10) (kI 0))]) (.cond (.t 11) (.seq (.reg [oO 12 (.load (.ag 3) (.t 2)),oO 13 (.call 91 [(.k (.c (.d (.int .u64 1)))),(kI 16)] none),oO 14 (.call 170 [(.t 12),(.t 13)] (some (0,1))),oM 4 14]) (.ret)) (.skip))) (.seq (.reg [oO 15 (.load (.ag 3) (.t 2)),oO 16 (.make true 1 1 (.int .u8 0) (kI 16) (kI 16)),oO 17 (.call 170 [(.t 15),(.t 16)] none),oM 5 17]) (.seq (.reg [oM 18 1,oO 19 (.len (.t 18)),oO 20 (.bin .sub (.t 19) (kI 1)),oM 6 20]) (.seq (.seq (.reg [oM 21 1,oM 22 6,oO 23 (.slice 1 (.t 21) none (some (.t 22)) none),oO 24 (.len (.t 23)),oO 25 (.mv (kI 0))]) (.block 0 (.loop vk))) (.seq (.reg [oO 36 (.load (.ag 3) (.t 2)),oM 37 1,
 oM 38 6,oO 39 (.idxSl 1 (.t 37) (.t 38)),oO 40 (.load .sc (.t 39)),oM 41 5,oO 42 (.call 172 [(.t 40),(.t 41)] none),oO 43 (.call 170 [(.t 36),(.t 42)] (some (0,1))),oM 4 43]) (.ret)))))),[(4,none)]⟩
theorem Q6:aC Tryz.prog { own:=[14,43],comp:=[],frz:=[],nils:=[] } Tryz.f154=some w6:=by kernel_rfl
theorem Tp (G:ah) (key:List UInt8) (l:List (List UInt8)) (h:key.length=16) (hl:l.length≤17) (hb:∀ x∈l,x.length≤65535):ak Tryz.prog G 154 [fP key,.sl (l.map fun l=>D.sl (l.map bD))] (.w (.c (.fr 1 ((iT (aP key) l).map bD)))):=by
  refine aG Tryz.func154 Q6 rfl rfl ?_;have t0:(bz 16 (0:UInt8)).take 16=fD:=rfl;by_cases h0:l.length=0
  ·rw[Ny _ h0];simp only[w6,af,fP,ae,aa,seval,iteOmega,toNatUp,h0];refine sD (kK G 1 16 (by decide)) ?_;refine sD (sn G key (aN 1 16) h (by rw[bW]; decide)) ?_;exact ew
  ·rw[Nz _ h0];have e1:(((l.length:Int)-1).toNat)=l.length-1:=by omega
   have e2:(l.take (l.length-1)).length=l.length-1:=by rw[WF]; omega
   have e3:((l.length-1:Nat):Int)=(l.length:Int)-1:=by omega
   simp only[w6,af,fP,ae,aa,seval,iteOmega,toNatUp,gU];refine bi (sn G key fD h (by decide)) (by simp only[ae,aa,seval,iteOmega,toNatUp,fg,t0,cE,fP]) (.inr (tN _ _)) ?_;simp only[ae,aa,seval,iteOmega,toNatUp,e1,e2,e3,Ed];refine ba (yI key l) (fun i=>l.length-1-i) (fun i=>i≤l.length-1) 0 (WI _) ?_ ?_
   ·refine aw (fun i=>128) ?_ ?_ rfl rfl <;> simp only[wx,am,aH,aa,seval,iteOmega,toNatUp,gT,e2,e3]
   ·intro i hi;have hd:=Ev (aP key) l i;by_cases hlt:i<l.length-1
    ·have g1:(l.take (l.length-1))[i]?=some (l.getD i []):=by rw[W0,if_pos hlt,w5 (by omega)]
     have hx:=hb _ (q0 (l:=l) (j:=i) (by omega));have hs:cC (eU (gT (aP key) l i)) (gS (aP key) (l.getD i []))=gT (aP key) l (i+1):=rfl;have h1:=sY G (gT (aP key) l i) (by omega);have h2:=Tn G key (l.getD i []) h (by omega);have h3:=lT G (eU (gT (aP key) l i)) (gS (aP key) (l.getD i [])) (lC hd) (qZ _ _);rw[hs] at h3;simp only[vk,yI,ae,aa,seval,iteOmega,toNatUp,aJ,g1,e2,e3];refine sD (h1) ?_;refine sD (h2) ?_;refine sD (h3) ?_;refine aS (i+1) (by omega) (by omega) (aw (fun i=>i) ?_ ?_ rfl rfl) <;> simp only[wx,am,aH,aa,seval,iteOmega,toNatUp]
    ·obtain rfl:i=l.length-1:=by omega
     have g1:l[l.length-1]?=some (l.getD (l.length-1) []):=w5 (by omega);have hx:=hb _ (q0 (l:=l) (j:=l.length-1) (by omega));have h1:=To G (l.getD (l.length-1) []) (gT (aP key) l (l.length-1)) (by omega) hd;have hcl:∀ s d:List UInt8,s.length≤65535→d.length=16→(if 16≤s.length then s.take (s.length-16)++cC (s.drop (s.length-16)) d else cC (eU d) (iq (s++[128]))).length≤70000:=by
       intro s d h1 h2;split
       ·rw[WA,hY,← WA,Xg]; omega
       ·rw[hY,lC h2]; decide
     have h2:=sn G key _ h (hcl _ _ hx hd);simp only[vk,yI,ae,aa,seval,iteOmega,toNatUp,aJ,g1,e1,e3];refine sD (h1) ?_;refine sD (h2) ?_;exact ew
def ji (l:List (List UInt8)):Bool:=l.any fun x=>decide (65535<x.length)
def tU (key:List UInt8) (l:List (List UInt8)):Int:=if key.length≠16 then 5 else if 17<l.length then 8 else if ji l=true then 2 else 0
def zx (key:List UInt8) (l:List (List UInt8)):List UInt8:=if key.length=16∧l.length≤17∧ji l=false then iT (aP key) l else []
theorem Pi {l:List (List UInt8)} (h:∀ j,j<l.length→(l.getD j []).length≤65535):ji l=false:=by
  unfold ji;rw[XB];intro x hx;obtain⟨j,hj,rfl⟩:=Xh hx;have:=h j hj;rw[WB,Wz hj] at this
  simpa using this
theorem NA {l:List (List UInt8)} {j:Nat} (hj:j<l.length) (h:65535<(l.getD j []).length):ji l=true:=by
  unfold ji;rw[XO];exact⟨_,q0 hj,decide_eq_true h⟩
theorem NB {l:List (List UInt8)} (h:ji l=false):∀ x∈l,x.length≤65535:=by
  unfold ji at h;rw[XB] at h;intro x hx;have:=h x hx
  simpa using this
def sZ (key:List UInt8) (l:List (List UInt8)) (i:Nat):St:=⟨aQ [(1,.w (.c (.d (.sl (l.map fun l=>D.sl (l.map bD)))))),(6,.w (.c (.ptr 1 1 0 0))),(21,.w (.c (.d (.sl (l.map fun l=>D.sl (l.map bD)))))),(22,.w (.c (.d (.int .i64 (l.length:Int))))),(23,.w (.c (.d (.int .i64 (i:Int)))))],hL [(1,.box [.d (.sl (key.map bD)),.d (.sl ((ir (aP key)).map bD)),.d (.sl ((j6 (aP key)).map bD))])],uL [1]⟩
def qE:aM := .seq (.reg [oO 24 (.bin .lss (.t 23) (.t 22))]) (.seq (.cond (.t 24) (.skip) (.exit 0)) (.seq (.block 1 (.seq (.reg [oO 25 (.idxSl 1 (.t 21) (.t 23)),oO 26 (.load .sc (.t 25)),oM 9 26]) (.seq (.reg [oM 27 9,oO 28 (.len (.t 27)),oO 29 (.bin .gtr (.t 28) (kI 65535))]) (.cond (.t 29) (.seq (.reg [oO 4 (.mv (.k (.c .nil))),oO 5 (.mv (kI 2))]) (.ret)) (.skip))))) (.reg [oO 30 (.bin .add (.t 23) (kI 1)),oM 23 30])))
def rK:aE:=⟨2,34,.seq (.reg [oO 4 (.mv (.k (.c .nil))),oO 5 (.mv (kI 0))]) (.seq (.reg [oM 11 0,oO 12 (.call 153 [(.t 11)] none),oM 10 12,oO 13 (.extract (.t 10) 0),oO 14 (.extract (.t 10) 1),oO 6 (.alloc [.nil,.nil,.nil]),oN (.store (.ag 3) (.t 6) (.t 13)),oM 7 14]) (.seq (.seq (.reg [oM 15 7,oO 16 (.bin .neq (.t 15) (kI 0))]) (.cond (.t 16) (.seq (.reg [oM 17 7,oO 4 (.mv (.k (.c .nil))),oM 5 17]) (.ret)) (.skip))) (.seq (.seq (.reg [oM 18 1,oO 19 (.len (.t 18)),oO 20 (.bin .gtr (.t 19) (kI 17))]) (.cond (.t 20) (.seq (.reg [oO 4 (.mv (.k (.c .nil))),oO 5 (.mv (kI 8))]) (.ret)) (.skip))) (.seq (.seq (.reg [oM 21 1,oO 22 (.len (.t 21)),oO 23 (.mv (kI 0))]) (.block 0 (.loop qE))) (.seq (.reg [oO 31 (.load (.ag 3) (.t 6)),oM 32 1,oO 33 (.call 154 [(.t 31),(.t 32)] (some (0,1))),
 oM 4 33,oO 5 (.mv (kI 0))]) (.ret)))))),[(4,none),(5,none)]⟩
theorem Q7:aC Tryz.prog { own:=[33],comp:=[],frz:=[],nils:=[] } Tryz.f139=some rK:=by kernel_rfl
theorem Tq (G:ah) (key:List UInt8) (l:List (List UInt8)) (hk:key.length≤9223372036854775807) (hl:l.length≤9223372036854775807) (hb:∀ x∈l,x.length≤9223372036854775807):ak Tryz.prog G 139 [.sl (key.map bD),.sl (l.map fun l=>D.sl (l.map bD))] (.tup [.c (.fr 1 ((zx key l).map bD)),.c (.d (.int .i64 (tU key l)))]):=by
  refine aG Tryz.func139 Q7 rfl rfl ?_;have hx:=Tl G key hk;unfold zx tU;by_cases h:key.length=16
  ·have hv:qe key=fP key:=if_pos h;have he:mb key=0:=by unfold mb; rw[if_neg (by omega)]
   rw[hv,he] at hx;by_cases h2:l.length≤17
   ·rw[if_neg (by omega:¬ key.length≠16),if_neg (by omega:¬ 17<l.length)];simp only[rK,af,ae,aa,seval,iteOmega,toNatUp];refine sC (hx) ?_;simp only[fP,ae,aa,seval,iteOmega,toNatUp];refine ba (sZ key l) (fun i=>l.length-i) (fun i=>i≤l.length∧∀ j,j<i→(l.getD j []).length≤65535) 0 ⟨WI _,fun j hj=>by omega⟩ ?_ ?_
    ·refine aw (fun i=>48) ?_ ?_ rfl rfl <;> simp only[wx,am,aH,aa,seval,iteOmega,toNatUp]
    ·rintro i ⟨hi,hok⟩;by_cases hlt:i<l.length
     ·have g1:=w5 hlt;have hx:=hb _ (q0 hlt);by_cases hlong:65535<(l.getD i []).length
      ·have hL:=NA hlt hlong;rw[hL,if_neg (by simp),if_pos rfl];simp only[qE,sZ,ae,aa,seval,iteOmega,toNatUp,aJ,g1];exact dr
      ·simp only[qE,sZ,ae,aa,seval,iteOmega,toNatUp,aJ,g1];refine aS (i+1) (by omega) ⟨by omega,fun j hj=>?_⟩ (aw (fun i=>i) ?_ ?_ rfl rfl)
       ·rcases Xd j i with h | h
        ·exact hok j h
        ·obtain rfl:j=i:=by omega
         omega
       all_goals simp only[wx,am,aH,aa,seval,iteOmega,toNatUp]
     ·have hL:=Pi (l:=l) (fun j hj=>hok j (by omega));rw[hL,if_pos ⟨h,h2,rfl⟩,if_neg (by simp)];simp only[qE,sZ,ae,aa,seval,iteOmega,toNatUp];refine sD (Tp G key l h h2 (NB hL)) ?_;exact dr
   ·rw[if_neg (by omega),if_neg (by omega),if_pos (by omega)];have h3:17<l.length:=by omega
    simp only[rK,af,ae,aa,seval,iteOmega,toNatUp];refine sC (hx) ?_;simp only[fP,ae,aa,seval,iteOmega,toNatUp];exact dr
  ·have hv:qe key=.agg [.sl [],.sl [],.sl []]:=if_neg h;have he:mb key=5:=if_pos h;rw[hv,he] at hx;rw[if_neg (by omega),if_pos h];simp only[rK,af,ae,aa,seval,iteOmega,toNatUp];refine sD (hx) ?_;exact dr

theorem Ew (rk c:List UInt8) {n k:Nat} (hk:k<16):∀ {m:Nat},n<m→(l9 rk c m)[16*n+k]?=(eb rk (eS c n))[k]?
  | 0,h=>by omega
  | m+1,h=>by
    rw[l9];by_cases e:n=m
    ·subst e;rw[Xb (by rw[mI]; omega),mI,XA]
    ·rw[Xl (by rw[mI]; omega)];exact Ew rk c hk (by omega)
theorem Pj (rk c b:List UInt8) {n k:Nat} (hk:k<16) (h:16*n+k<b.length):(ft rk c b)[16*n+k]?=some (ar (b.getD (16*n+k) 0) ((eb rk (eS c n)).getD k 0)):=by
  unfold ft k8;rw[List.getElem?_zipWith,Ew rk c hk (by omega),ei h,ei (by rw[iF]; exact hk)]
def oT (rk c b:List UInt8) (j:Nat):List UInt8:=(ft rk c b).take j
theorem I3 (rk c b:List UInt8) (j:Nat):(oT rk c b j).length=min j b.length:=by unfold oT; rw[WF,qC]
theorem rL (rk c b:List UInt8) {j:Nat} (h:b.length≤j):oT rk c b j=ft rk c b:=WE (by rw[qC]; exact h)
theorem Q8 (rk c b:List UInt8) {n k:Nat} (hk:k<16) (h:16*n+k<b.length):oT rk c b (16*n+k)++[ar (b.getD (16*n+k) 0) ((eb rk (eS c n)).getD k 0)]=oT rk c b (16*n+k+1):=by
  unfold oT; rw[Yg,Pj rk c b hk h]; rfl
theorem w7 {c:List UInt8} (h:c.length=16) (n:Nat):(eS c n).length=16:=by rw[En]; exact h
theorem Pk {c:List UInt8} (h:c.length=16) (n:Nat):tR (eS c n)=eS c (n+1):=by unfold tR; rw[if_pos (w7 h n)]; rfl
def jj (key c b:List UInt8):Int:=if key.length≠16 then 5 else if c.length≠16 then 3 else if 65535<b.length then 2 else 0
def s7 (key c b:List UInt8):List UInt8:=if key.length=16∧c.length=16∧b.length≤65535 then ft (aP key) c b else []
theorem NC {key:List UInt8} (c b:List UInt8) (h:key.length≠16):jj key c b=5:=if_pos h
theorem ND {key c:List UInt8} (b:List UInt8) (h:key.length=16) (h2:c.length≠16):jj key c b=3:=by unfold jj; rw[if_neg (by simp[h]),if_pos h2]
theorem Mo {key c b:List UInt8} (h:key.length=16) (h2:c.length=16) (h3:65535<b.length):jj key c b=2:=by unfold jj; rw[if_neg (by simp[h]),if_neg (by simp[h2]),if_pos h3]
theorem Pl {key c b:List UInt8} (h:key.length=16) (h2:c.length=16) (h3:b.length≤65535):jj key c b=0:=by unfold jj; rw[if_neg (by simp[h]),if_neg (by simp[h2]),if_neg (by omega)]
theorem Pm {key c b:List UInt8} (h:key.length=16) (h2:c.length=16) (h3:b.length≤65535):s7 key c b=ft (aP key) c b:=if_pos ⟨h,h2,h3⟩
theorem vZ {key c b:List UInt8} (h:¬ (key.length=16∧c.length=16∧b.length≤65535)):s7 key c b=[]:=if_neg h
theorem Ws (rk c b:List UInt8):oT rk c b 0=[]:=Xq

def I5:aE:=⟨2,10,.seq (.reg [oO 4 (.mv (.k (.c (.d (.bool false)))))]) (.seq (.reg [oM 5 0,oO 6 (.b2s (.t 5)),oM 7 1,oO 8 (.b2s (.t 7)),oO 9 (.bin .eql (.t 6) (.t 8)),oM 4 9]) (.ret)),[(4,none)]⟩
theorem Tu:aC Tryz.prog { own:=[],comp:=[],frz:=[],nils:=[] } Tryz.f129=some I5:=by kernel_rfl
theorem Vn (G:ah) (l m:List UInt8):ak Tryz.prog G 129 [.sl (l.map bD),.sl (m.map bD)] (.w (.c (.d (.bool (l==m))))):=by
  refine aG Tryz.func129 Tu rfl rfl ?_;simp only[I5,af,wx,aa,seval,iteOmega,toNatUp,qT,BQ];exact jf (by simp only[wx,aa,seval,iteOmega,toNatUp])
def GJ:aE:=⟨2,8,.seq (.reg [oO 4 (.mv (.k (.c (.d (.bool false)))))]) (.seq (.reg [oM 5 0,oM 6 1,oO 7 (.call 129 [(.t 5),(.t 6)] none),oM 4 7]) (.ret)),[(4,none)]⟩
theorem Ra:aC Tryz.prog { own:=[],comp:=[],frz:=[],nils:=[] } Tryz.f104=some GJ:=by kernel_rfl
theorem xN (G:ah) (l m:List UInt8):ak Tryz.prog G 104 [.sl (l.map bD),.sl (m.map bD)] (.w (.c (.d (.bool (l==m))))):=by
  refine aG Tryz.func104 Ra rfl rfl ?_;simp only[GJ,af,ae,aa,seval,iteOmega,toNatUp];refine sD (Vn G l m) ?_;exact aI
def cU:List UInt32:=[0x6a09e667,0xbb67ae85,0x3c6ef372,0xa54ff53a,0x510e527f,0x9b05688c,0x1f83d9ab,0x5be0cd19]
def bF:List UInt32:=[
  0x428a2f98,0x71374491,0xb5c0fbcf,0xe9b5dba5,0x3956c25b,0x59f111f1,0x923f82a4,0xab1c5ed5,
  0xd807aa98,0x12835b01,0x243185be,0x550c7dc3,0x72be5d74,0x80deb1fe,0x9bdc06a7,0xc19bf174,
  0xe49b69c1,0xefbe4786,0x0fc19dc6,0x240ca1cc,0x2de92c6f,0x4a7484aa,0x5cb0a9dc,0x76f988da,
  0x983e5152,0xa831c66d,0xb00327c8,0xbf597fc7,0xc6e00bf3,0xd5a79147,0x06ca6351,0x14292967,
  0x27b70a85,0x2e1b2138,0x4d2c6dfc,0x53380d13,0x650a7354,0x766a0abb,0x81c2c92e,0x92722c85,
  0xa2bfe8a1,0xa81a664b,0xc24b8b70,0xc76c51a3,0xd192e819,0xd6990624,0xf40e3585,0x106aa070,
  0x19a4c116,0x1e376c08,0x2748774c,0x34b0bcb5,0x391c0cb3,0x4ed8aa4a,0x5b9cca4f,0x682e6ff3,
  0x748f82ee,0x78a5636f,0x84c87814,0x8cc70208,0x90befffa,0xa4506ceb,0xbef9a3f7,0xc67178f2]
theorem oC:cU.length=8:=rfl
theorem AJ:bF.length=64:=rfl
def jH (b:List UInt8) (t:Nat):UInt32 :=
  js (js (js (j5 (jN (b.getD (4*t) 0)) 24) (j5 (jN (b.getD (4*t+1) 0)) 16)) (j5 (jN (b.getD (4*t+2) 0)) 8)) (jN (b.getD (4*t+3) 0))
def xP (x:UInt32):UInt32:=gv (gv (gP x 7) (gP x 18)) (nR x 3)
def xQ (y:UInt32):UInt32:=gv (gv (gP y 17) (gP y 19)) (nR y 10)
def lU (s:List UInt32) (t:Nat):UInt32 :=
  bJ (bJ (bJ (xQ (s.getD (t-2) 0)) (s.getD (t-7) 0)) (xP (s.getD (t-15) 0))) (s.getD (t-16) 0)
def fh (b:List UInt8) (n:Nat):List UInt32:=(List.range n).map (jH b)
def cV (b:List UInt8):Nat→List UInt32
  | 0=>fh b 16
  | n+1=>cV b n++[lU (cV b n) (16+n)]
def dD (b:List UInt8):List UInt32:=cV b 48
theorem EA (b:List UInt8) (m:Nat) (h:m=48):dD b=cV b m:=by rw[h]; rfl
def zA (e:UInt32):UInt32:=gv (gv (gP e 6) (gP e 11)) (gP e 25)
def Le (a:UInt32):UInt32:=gv (gv (gP a 2) (gP a 13)) (gP a 22)
def zP (e f g:UInt32):UInt32:=gv (kW e f) (kW (tO e) g)
def Lf (a b c:UInt32):UInt32:=gv (gv (kW a b) (kW a c)) (kW b c)
structure bT where
  (a b c d e f g h:UInt32)
def bT.step (s:bT) (k w:UInt32):bT :=
  let t1:=bJ (bJ (bJ (bJ s.h (zA s.e)) (zP s.e s.f s.g)) k) w
  let t2:=bJ (Le s.a) (Lf s.a s.b s.c)
  ⟨bJ t1 t2,s.a,s.b,s.c,bJ s.d t1,s.e,s.f,s.g⟩
def bT.of (h:List UInt32):bT:=⟨h.getD 0 0,h.getD 1 0,h.getD 2 0,h.getD 3 0,h.getD 4 0,h.getD 5 0,h.getD 6 0,h.getD 7 0⟩
def bT.rounds (s:bT) (k w:List UInt32):Nat→bT
  | 0=>s
  | n+1=>(s.rounds k w n).step (k.getD n 0) (w.getD n 0)
def bT.sum (s:bT) (h:List UInt32):List UInt32 :=
  [bJ (h.getD 0 0) s.a,bJ (h.getD 1 0) s.b,bJ (h.getD 2 0) s.c,bJ (h.getD 3 0) s.d,bJ (h.getD 4 0) s.e,bJ (h.getD 5 0) s.f,bJ (h.getD 6 0) s.g,bJ (h.getD 7 0) s.h]
def lL (h:List UInt32) (b:List UInt8):List UInt32:=((bT.of h).rounds bF (dD b) 64).sum h
theorem AK (h:List UInt32) (b:List UInt8):(lL h b).length=8:=rfl
theorem Pp (x y:UInt32):js x y=js y x:=UInt32.or_comm x y
def EB:aE:=⟨2,15,.seq (.reg [oO 4 (.mv (.k (.c (.d (.int .u32 0)))))]) (.seq (.reg [oM 5 0,oM 6 1,oO 7 (.conv .u64 (.t 6)),oO 8 (.bin .shr (.t 5) (.t 7)),oM 9 0,oM 10 1,oO 11 (.bin .sub (kI 32) (.t 10)),oO 12 (.conv .u64 (.t 11)),oO 13 (.bin .shl (.t 9) (.t 12)),oO 14 (.bin .or (.t 8) (.t 13)),oM 4 14]) (.ret)),[(4,none)]⟩
theorem Pq:aC Tryz.prog { own:=[],comp:=[],frz:=[],nils:=[] } Tryz.f133=some EB:=by kernel_rfl
theorem jb (G:ah) (x:UInt32) (n:Nat) (h0:0<n) (hn:n<32):ak Tryz.prog G 133 [wD x,.int .i64 n] (.w (.c (.d (wD (gP x n))))):=by
  refine aG Tryz.func133 Pq rfl rfl ?_;have e1:IntKind.u64.wrap (n:Int)=(n:Int):=IntWalk.u64_in _ (by omega);have e2:IntKind.i64.wrap (32-(n:Int))=((32-n:Nat):Int):=by rw[IntWalk.i64_in _ (by omega)]; omega
  have e3:IntKind.u64.wrap ((32-n:Nat):Int)=((32-n:Nat):Int):=IntWalk.u64_in _ (by omega);simp only[EB,af,wx,aa,seval,iteOmega,toNatUp,e1,e2,e3];exact jf (by simp only[wx,aa,seval,iteOmega,toNatUp] <;> rfl)
def GN:aE:=⟨2,17,.seq (.reg [oO 4 (.mv (.k (.c (.d (.int .u32 0)))))]) (.seq (.reg [oM 6 1,oO 7 (.conv .u64 (.t 6)),oO 8 (.bin .and (.t 7) (.k (.c (.d (.int .u64 31))))),oM 5 8]) (.seq (.reg [oM 9 0,oM 10 5,oO 11 (.bin .shl (.t 9) (.t 10)),oM 12 0,oM 13 5,oO 14 (.bin .sub (.k (.c (.d (.int .u64 32)))) (.t 13)),oO 15 (.bin .shr (.t 12) (.t 14)),oO 16 (.bin .or (.t 11) (.t 15)),oM 4 16]) (.ret))),[(4,none)]⟩
theorem Rl:aC Tryz.prog { own:=[],comp:=[],frz:=[],nils:=[] } Tryz.f188=some GN:=by kernel_rfl
theorem TF (G:ah) (x:UInt32) (n:Nat) (h0:0<n) (hn:n<32):ak Tryz.prog G 188 [wD x,.int .i64 (-(n:Int))] (.w (.c (.d (wD (gP x n))))):=by
  refine aG Tryz.func188 Rl rfl rfl ?_;have e1:bits .and .u64 (IntKind.u64.wrap (-(n:Int))) 31=((32-n:Nat):Int):=by
    have h:=bits_mask .u64 64 (by decide) u64_in 5 (by decide) (IntKind.u64.wrap (-(n:Int))) (by rw[IntKind.wrap_u64]; omega) (by rw[IntKind.wrap_u64]; omega);rw[show (31:Int)=2^5-1 by decide,h,IntKind.wrap_u64];omega
  have e2:IntKind.u64.wrap (32-((32-n:Nat):Int))=((n:Nat):Int):=by rw[IntWalk.u64_in _ (by omega)]; omega
  simp only[GN,af,wx,aa,seval,iteOmega,toNatUp,e1,e2];rw[Pp];exact jf (by simp only[wx,aa,seval,iteOmega,toNatUp] <;> rfl)
def GO:aE:=⟨2,9,.seq (.reg [oO 4 (.mv (.k (.c (.d (.int .u32 0)))))]) (.seq (.reg [oM 5 0,oM 6 1,oO 7 (.un .neg (.t 6)),oO 8 (.call 188 [(.t 5),(.t 7)] none),oM 4 8]) (.ret)),[(4,none)]⟩
theorem Rm:aC Tryz.prog { own:=[],comp:=[],frz:=[],nils:=[] } Tryz.f185=some GO:=by kernel_rfl
theorem je (G:ah) (x:UInt32) (n:Nat) (h0:0<n) (hn:n<32):ak Tryz.prog G 185 [wD x,.int .i64 n] (.w (.c (.d (wD (gP x n))))):=by
  refine aG Tryz.func185 Rm rfl rfl ?_;have e1:IntKind.i64.wrap (0-(n:Int)) = -(n:Int):=by rw[IntWalk.i64_in _ (by omega)]; omega
  simp only[GO,af,wx,aa,seval,iteOmega,toNatUp,e1];refine bi (TF G x n h0 hn) rfl (.inr rfl) ?_;simp only[wx,aa,seval,iteOmega,toNatUp];exact jf (by simp only[wx,aa,seval,iteOmega,toNatUp])
def GQ:aE:=⟨0,2,.seq (.reg [oO 0 (.mv (.k (.c .nil)))]) (.seq (.reg [oO 1 (.bldSl true 8 1 (.int .u32 0) [(0,(.k (.c (.d (.int .u32 1779033703))))),(1,(.k (.c (.d (.int .u32 3144134277))))),(2,(.k (.c (.d (.int .u32 1013904242))))),(3,(.k (.c (.d (.int .u32 2773480762))))),(4,(.k (.c (.d (.int .u32 1359893119))))),(5,(.k (.c (.d (.int .u32 2600822924))))),(6,(.k (.c (.d (.int .u32 528734635))))),(7,(.k (.c (.d (.int .u32 1541459225)))))]),oM 0 1]) (.ret)),[(0,none)]⟩
theorem Rn:aC Tryz.prog { own:=[1],comp:=[],frz:=[],nils:=[] } Tryz.f117=some GQ:=by kernel_rfl
theorem TG (G:ah):ak Tryz.prog G 117 [] (.w (.c (.fr 1 (cU.map wD)))):=by
  refine aG Tryz.func117 Rn rfl rfl ?_;simp only[GQ,af,sM,sN,sO,sP,sQ,sx];refine FF (.w (.c (.own 8 1 0 8)),upd hN 8 (some (.row 1 (cU.map wD))),upd uN 8 true) (by kernel_rfl) ?_;simp only[wx,aa,seval,iteOmega,toNatUp];exact eE (id:=8) (n:=8) (s:=1) (by simp only[wx,aa,seval,iteOmega,toNatUp]) (by simp only[wx,aa,seval,iteOmega,toNatUp]) rfl
def GR:aE:=⟨0,2,.seq (.reg [oO 0 (.mv (.k (.c .nil)))]) (.seq (.reg [oO 1 (.bldSl true 64 1 (.int .u32 0) [(0,(.k (.c (.d (.int .u32 1116352408))))),(1,(.k (.c (.d (.int .u32 1899447441))))),(2,(.k (.c (.d (.int .u32 3049323471))))),(3,(.k (.c (.d (.int .u32 3921009573))))),(4,(.k (.c (.d (.int .u32 961987163))))),(5,(.k (.c (.d (.int .u32 1508970993))))),(6,(.k (.c (.d (.int .u32 2453635748))))),(7,(.k (.c (.d (.int .u32 2870763221))))),(8,(.k (.c (.d (.int .u32 3624381080))))),(9,(.k (.c (.d (.int .u32 310598401))))),(10,(.k (.c (.d (.int .u32 607225278))))),(11,(.k (.c (.d (.int .u32 1426881987))))),(12,(.k (.c (.d (.int .u32 1925078388))))),(13,(.k (.c (.d (.int .u32 2162078206))))),(14,(.k (.c (.d (.int .u32 2614888103))))),(15,(.k (.c (.d (.int .u32 3248222580))))),(16,(.k (.c (.d (.int .u32 3835390401))))),(17,(.k (.c (.d (.int .u32 4022224774))))),(18,(.k (.c (.d (.int .u32 264347078))))),(19,(.k (.c (.d (.int .u32 604807628))))),(20,(.k (.c (.d (.int .u32 770255983))))),(21,(.k (.c (.d (.int .u32 1249150122))))),(22,(.k (.c (.d (.int .u32 1555081692))))),(23,(.k (.c (.d (.int .u32 1996064986))))),(24,(.k (.c (.d (.int .u32 2554220882))))),(25,(.k (.c (.d (.int .u32 2821834349))))),(26,(.k (.c (.d (.int .u32 2952996808))))),(27,(.k (.c (.d (.int .u32 3210313671))))),(28,(.k (.c (.d (.int .u32 3336571891))))),(29,(.k (.c (.d (.int .u32 3584528711))))),(30,(.k (.c (.d (.int .u32 113926993))))),(31,(.k (.c (.d (.int .u32 338241895))))),(32,(.k (.c (.d (.int .u32 666307205))))),(33,(.k (.c (.d (.int .u32 773529912))))),(34,(.k (.c (.d (.int .u32 1294757372))))),(35,(.k (.c (.d (.int .u32 1396182291))))),(36,(.k (.c (.d (.int .u32 1695183700))))),(37,(.k (.c (.d (.int .u32 1986661051))))),(38,(.k (.c (.d (.int .u32 2177026350))))),(39,(.k (.c (.d (.int .u32 2456956037))))),(40,(.k (.c (.d (.int .u32 2730485921))))),(41,(.k (.c (.d (.int .u32 2820302411))))),(42,(.k (.c (.d (.int .u32 3259730800))))),(43,(.k (.c (.d (.int .u32 3345764771))))),(44,(.k (.c (.d (.int .u32 3516065817))))),(45,(.k (.c (.d (.int .u32 3600352804))))),(46,(.k (.c (.d (.int .u32 4094571909))))),(47,(.k (.c (.d (.int .u32 275423344))))),(48,(.k (.c (.d (.int .u32 430227734))))),(49,(.k (.c (.d (.int .u32 506948616))))),(50,(.k (.c (.d (.int .u32 659060556))))),(51,(.k (.c (.d (.int .u32 883997877))))),(52,(.k (.c (.d (.int .u32 958139571))))),(53,(.k (.c (.d (.int .u32 1322822218))))),(54,(.k (.c (.d (.int .u32 1537002063))))),(55,(.k (.c (.d (.int .u32 1747873779))))),(56,(.k (.c (.d (.int .u32 1955562222))))),(57,(.k (.c (.d (.int .u32 2024104815))))),(58,(.k (.c (.d (.int .u32 2227730452))))),(59,(.k (.c (.d (.int .u32 2361852424))))),(60,(.k (.c (.d (.int .u32 2428436474))))),(61,(.k (.c (.d (.int .u32 2756734187))))),(62,(.k (.c (.d (.int .u32 3204031479))))),(63,(.k (.c (.d (.int .u32 3329325298)))))]),
 oM 0 1]) (.ret)),[(0,none)]⟩
theorem Ro:aC Tryz.prog { own:=[1],comp:=[],frz:=[],nils:=[] } Tryz.f118=some GR:=by kernel_rfl
theorem I9 (G:ah):ak Tryz.prog G 118 [] (.w (.c (.fr 1 (bF.map wD)))):=by
  refine aG Tryz.func118 Ro rfl rfl ?_;simp only[GR,af,sM,sN,sO,sP,sQ,sx];refine FF (.w (.c (.own 8 1 0 64)),upd hN 8 (some (.row 1 (bF.map wD))),upd uN 8 true) (by kernel_rfl) ?_;simp only[wx,aa,seval,iteOmega,toNatUp];exact eE (id:=8) (n:=64) (s:=1) (by simp only[wx,aa,seval,iteOmega,toNatUp]) (by simp only[wx,aa,seval,iteOmega,toNatUp]) rfl
theorem AL (b:UInt8):(jN b).toNat=b.toNat:=by have:=BA b; omega
theorem vl (b:UInt8) (n:Nat) (hn:n≤24):(j5 (jN b) n).toNat=2^n*b.toNat:=by
  have hb:=b.toNat_lt;have h:(2:Nat)^n≤2^24:=Nat.pow_le_pow_right (by decide) hn;have h2:2^n*b.toNat≤2^24*255:=Nat.mul_le_mul h (by omega);unfold j5;rw[AL,UInt32.toNat_ofNat_of_lt' (by rw[Nat.mul_comm]; simp only[UInt32.size]; omega),Nat.mul_comm]
theorem xe (x y:UInt32):(js x y).toNat=x.toNat ||| y.toNat:=UInt32.toNat_or x y
theorem Ms (b:List UInt8) (t:Nat):(jH b t).toNat=((((b.getD (4*t) 0).toNat*256+(b.getD (4*t+1) 0).toNat)*256+(b.getD (4*t+2) 0).toNat)*256+(b.getD (4*t+3) 0).toNat):=by
  unfold jH;generalize b.getD (4*t) 0=p;generalize b.getD (4*t+1) 0=q;generalize b.getD (4*t+2) 0=r;generalize b.getD (4*t+3) 0=s;have hp:=p.toNat_lt;have hq:=q.toNat_lt;have hr:=r.toNat_lt;have hs:=s.toNat_lt;rw[xe,xe,xe,vl _ _ (by decide),vl _ _ (by decide),vl _ _ (by decide),AL];have e1:=Nat.two_pow_add_eq_or_of_lt (i:=24) (b:=2^16*q.toNat) (by omega) p.toNat;rw[← e1];have e2:=Nat.two_pow_add_eq_or_of_lt (i:=16) (b:=2^8*r.toNat) (by omega) (2^8*p.toNat+q.toNat);have e3:2^24*p.toNat+2^16*q.toNat=2^16*(2^8*p.toNat+q.toNat):=by omega
  rw[e3,← e2];have e4:=Nat.two_pow_add_eq_or_of_lt (i:=8) (b:=s.toNat) (by omega) (2^8*(2^8*p.toNat+q.toNat)+r.toNat);have e5:2^16*(2^8*p.toNat+q.toNat)+2^8*r.toNat=2^8*(2^8*(2^8*p.toNat+q.toNat)+r.toNat):=by omega
  rw[e5,← e4];omega
theorem four (b:List UInt8) (t:Nat) (h:4*t+4≤b.length):(b.drop (4*t)).take 4=[b.getD (4*t) 0,b.getD (4*t+1) 0,b.getD (4*t+2) 0,b.getD (4*t+3) 0]:=by
  apply XJ;intro j;rw[W0,Xp];rcases j with _ | _ | _ | _ | j
  ·simp[List.getD,Wz (show 4*t<b.length by omega)]
  ·simp[List.getD,Wz (show 4*t+1<b.length by omega)]
  ·simp[List.getD,Wz (show 4*t+2<b.length by omega)]
  ·simp[List.getD,Wz (show 4*t+3<b.length by omega)]
  ·rw[if_neg (by omega)];rfl
theorem Wl (b:List UInt8) (t:Nat) (h:4*t+4≤b.length):D.int .u32 (IntKind.u32.wrap (aX ((b.drop (4*t)).take 4):Int))=wD (jH b t):=by
  have h1:=Ms b t;rw[four b t h];unfold wD;rw[h1];generalize b.getD (4*t) 0=p;generalize b.getD (4*t+1) 0=q;generalize b.getD (4*t+2) 0=r;generalize b.getD (4*t+3) 0=s;have hp:=p.toNat_lt;have hq:=q.toNat_lt;have hr:=r.toNat_lt;have hs:=s.toNat_lt;have e:aX [p,q,r,s]=(((p.toNat*256+q.toNat)*256+r.toNat)*256+s.toNat):=by
    simp only[aX,XX,List.foldl_nil];omega
  rw[e,IntWalk.u32_in _ (by omega)]
theorem oA (b:List UInt8) (n:Nat):(fh b n).length=n:=by simp[fh]
theorem mz (b:List UInt8):∀ n,(cV b n).length=16+n
  | 0=>by simp[cV,oA]
  | n+1=>by rw[cV,WA,mz b n]; simp; omega
theorem oY {α:Type} (l:List α) (z x:α) (n:Nat) (h:0<n):(l++List.replicate n z).set l.length x=(l++[x])++List.replicate (n-1) z:=by
  obtain⟨k,rfl⟩:∃ k,n=k+1:=⟨n-1,by omega⟩
  rw[Yo _ _ (WM _),Yz,List.replicate_succ,List.set_cons_zero];simp
theorem Ja {l:List UInt32} {r:List UInt32} {i:Nat} (h:i<l.length):(l++r)[i]?=some (l.getD i 0):=by
  rw[Xl h];simp[h]
def yK (b:List UInt8) (t:Nat):St:=⟨aQ [(0,.w (.c (.d (.sl (b.map bD))))),(2,.w (.c (.pa 1 1))),(3,.w (.c (.pa 2 1))),(10,.w (.c (.d (.int .i64 (t:Int)))))],hL [(1,.row 1 ((List.replicate 64 (0:UInt32)).map wD)),(2,.row 1 ((fh b t++List.replicate (64-t) 0).map wD))],uL [1,2]⟩
def yL (b:List UInt8) (n:Nat):St:=⟨aQ [(2,.w (.c (.pa 1 1))),(3,.w (.c (.pa 2 1))),(5,.w (.c (.d (.int .i64 ((16+n:Nat):Int)))))],hL [(1,.row 1 ((List.replicate 64 (0:UInt32)).map wD)),(2,.row 1 ((cV b n++List.replicate (48-n) 0).map wD))],uL [1,2]⟩
def uw:aM := .seq (.reg [oO 11 (.bin .lss (.t 10) (kI 16))]) (.seq (.cond (.t 11) (.skip) (.exit 0)) (.seq (.block 1 (.seq (.reg [oM 12 10,oM 4 12]) (.reg [oM 13 4,oM 14 0,oM 15 4,oO 16 (.bin .mul (.t 15) (kI 4)),oM 17 4,oO 18 (.bin .add (.t 17) (kI 1)),oO 19 (.bin .mul (.t 18) (kI 4)),oO 20 (.slice 1 (.t 14) (some (.t 16)) (some (.t 19)) none),oO 21 (.call 48 [(.t 20)] none),oO 22 (.conv .u32 (.t 21)),oO 23 (.idxPa 1 64 (.t 3) (.t 13)),oN (.store .sc (.t 23) (.t 22))]))) (.reg [oO 24 (.bin .add (.t 10) (kI 1)),oM 10 24])))
def ux:aM := .seq (.seq (.reg [oM 25 5,oO 26 (.bin .lss (.t 25) (kI 64))]) (.cond (.t 26) (.skip) (.exit 2))) (.seq (.block 3 (.seq (.reg [oM 29 5,oO 30 (.bin .sub (.t 29) (kI 15)),oO 31 (.idxPa 1 64 (.t 3) (.t 30)),oO 32 (.load .sc (.t 31)),oM 33 5,oO 34 (.bin .sub (.t 33) (kI 2)),oO 35 (.idxPa 1 64 (.t 3) (.t 34)),oO 36 (.load .sc (.t 35)),oM 6 32,oM 7 36]) (.seq (.reg [oM 37 6,oO 38 (.call 185 [(.t 37),(kI 7)] none),oM 39 6,oO 40 (.call 185 [(.t 39),(kI 18)] none),oO 41 (.bin .xor (.t 38) (.t 40)),oM 42 6,oO 43 (.bin .shr (.t 42) (.k (.c (.d (.int .u64 3))))),oO 44 (.bin .xor (.t 41) (.t 43)),oM 8 44]) (.seq (.reg [oM 45 7,oO 46 (.call 185 [(.t 45),(kI 17)] none),oM 47 7,oO 48 (.call 185 [(.t 47),(kI 19)] none),oO 49 (.bin .xor (.t 46) (.t 48)),oM 50 7,oO 51 (.bin .shr (.t 50) (.k (.c (.d (.int .u64 10))))),
 oO 52 (.bin .xor (.t 49) (.t 51)),oM 9 52]) (.reg [oM 53 5,oM 54 9,oM 55 5,oO 56 (.bin .sub (.t 55) (kI 7)),oO 57 (.idxPa 1 64 (.t 3) (.t 56)),oO 58 (.load .sc (.t 57)),oO 59 (.bin .add (.t 54) (.t 58)),oM 60 8,oO 61 (.bin .add (.t 59) (.t 60)),oM 62 5,oO 63 (.bin .sub (.t 62) (kI 16)),oO 64 (.idxPa 1 64 (.t 3) (.t 63)),oO 65 (.load .sc (.t 64)),oO 66 (.bin .add (.t 61) (.t 65)),oO 67 (.idxPa 1 64 (.t 3) (.t 53)),oN (.store .sc (.t 67) (.t 66))]))))) (.reg [oM 27 5,oO 28 (.bin .add (.t 27) (kI 1)),oM 5 28]))
def B9:aE:=⟨1,69,.seq (.reg [oO 2 (.allocArr [(.int .u32 0),(.int .u32 0),(.int .u32 0),(.int .u32 0),(.int .u32 0),(.int .u32 0),(.int .u32 0),(.int .u32 0),(.int .u32 0),(.int .u32 0),(.int .u32 0),(.int .u32 0),(.int .u32 0),(.int .u32 0),(.int .u32 0),(.int .u32 0),(.int .u32 0),(.int .u32 0),(.int .u32 0),(.int .u32 0),(.int .u32 0),(.int .u32 0),(.int .u32 0),(.int .u32 0),(.int .u32 0),(.int .u32 0),(.int .u32 0),(.int .u32 0),(.int .u32 0),(.int .u32 0),(.int .u32 0),(.int .u32 0),(.int .u32 0),(.int .u32 0),(.int .u32 0),(.int .u32 0),(.int .u32 0),(.int .u32 0),(.int .u32 0),(.int .u32 0),(.int .u32 0),(.int .u32 0),(.int .u32 0),(.int .u32 0),(.int .u32 0),(.int .u32 0),(.int .u32 0),(.int .u32 0),(.int .u32 0),(.int .u32 0),(.int .u32 0),(.int .u32 0),(.int .u32 0),(.int .u32 0),(.int .u32 0),(.int .u32 0),(.int .u32 0),(.int .u32 0),(.int .u32 0),(.int .u32 0),(.int .u32 0),(.int .u32 0),(.int .u32 0),(.int .u32 0)])])
 (.seq (.reg [oO 3 (.allocArr [(.int .u32 0),(.int .u32 0),(.int .u32 0),(.int .u32 0),(.int .u32 0),(.int .u32 0),(.int .u32 0),(.int .u32 0),(.int .u32 0),(.int .u32 0),(.int .u32 0),(.int .u32 0),(.int .u32 0),(.int .u32 0),(.int .u32 0),(.int .u32 0),(.int .u32 0),(.int .u32 0),(.int .u32 0),(.int .u32 0),(.int .u32 0),(.int .u32 0),(.int .u32 0),(.int .u32 0),(.int .u32 0),(.int .u32 0),(.int .u32 0),(.int .u32 0),(.int .u32 0),(.int .u32 0),(.int .u32 0),(.int .u32 0),(.int .u32 0),(.int .u32 0),(.int .u32 0),(.int .u32 0),(.int .u32 0),(.int .u32 0),(.int .u32 0),(.int .u32 0),(.int .u32 0),(.int .u32 0),(.int .u32 0),(.int .u32 0),(.int .u32 0),(.int .u32 0),(.int .u32 0),(.int .u32 0),(.int .u32 0),(.int .u32 0),(.int .u32 0),(.int .u32 0),(.int .u32 0),(.int .u32 0),(.int .u32 0),(.int .u32 0),(.int .u32 0),(.int .u32 0),(.int .u32 0),(.int .u32 0),(.int .u32 0),(.int .u32 0),(.int .u32 0),(.int .u32 0)])])
 (.seq (.seq (.reg [oO 10 (.mv (kI 0))]) (.block 0 (.loop uw))) (.seq (.seq (.reg [oO 5 (.mv (kI 16))]) (.block 2 (.loop ux))) (.seq (.reg [oO 68 (.load (.ag 64) (.t 3)),oN (.store (.ag 64) (.t 2) (.t 68))]) (.ret))))),[(2,(some (.ag 64)))]⟩
theorem NG:aC Tryz.prog { own:=[],comp:=[],frz:=[],nils:=[] } Tryz.f184=some B9:=by kernel_rfl
set_option maxHeartbeats 800000 in
theorem Pr (G:ah) (b:List UInt8) (hb:b.length=64):ak Tryz.prog G 184 [.sl (b.map bD)] (.w (.c (.d (.agg ((dD b).map wD))))):=by
  refine aG Tryz.func184 NG rfl rfl ?_;simp only[B9,af,wx,aa,seval,iteOmega,toNatUp];refine ba (yK b) (fun t=>16-t) (fun t=>t≤16) 0 (WI _) ?_ ?_
  ·refine aw (fun i=>8*(i+1)) ?_ ?_ rfl rfl <;> simp only[wx,am,aa,seval,iteOmega,toNatUp];exact⟨rfl,rfl⟩
  ·intro t ht;by_cases hlt:t<16
   ·have e1:IntKind.i64.wrap ((t:Int)*4)=((4*t:Nat):Int):=by rw[IntWalk.i64_in _ (by omega)]; omega
    have e2:IntKind.i64.wrap ((t:Int)+1)=((t+1:Nat):Int):=by rw[IntWalk.i64_in _ (by omega)]; rfl
    have e3:IntKind.i64.wrap (((t+1:Nat):Int)*4)=((4*t+4:Nat):Int):=by rw[IntWalk.i64_in _ (by omega)]; omega
    have e4:4*t+4-4*t=4:=by omega
    simp only[uw,yK,wx,aa,seval,iteOmega,toNatUp,e1,e2,e3,e4];refine bi (pI G _ (by rw[WF,WL]; omega)) rfl (.inr rfl) ?_;have h1:t<(fh b t++List.replicate (64-t) 0).length:=by rw[WA,oA,WY]; omega
    have h2:=oY (fh b t) 0 (jH b t) (64-t) (by omega);rw[oA] at h2;have h3:fh b t++[jH b t]=fh b (t+1):=by simp[fh,Ye]
    have h4:64-t-1=64-(t+1):=by omega
    rw[h3,h4] at h2;simp only[wx,aa,seval,iteOmega,toNatUp,Wl b t (by omega),Xr,rZ h1 (nD _),r6,h2,e2];refine aS (t+1) (by omega) (by omega) (aw id ?_ ?_ rfl rfl) <;> simp only[wx,am,aa,seval,iteOmega,toNatUp]
   ·obtain rfl:t=16:=by omega
    simp only[uw,yK,wx,aa,seval,iteOmega,toNatUp];refine ba (yL b) (fun n=>48-n) (fun n=>n≤48) 0 (WI _) ?_ ?_
    ·have h0:fh b 16=cV b 0:=rfl;refine aw id ?_ ?_ rfl rfl <;> simp only[wx,am,aa,seval,iteOmega,toNatUp,h0]
    ·intro n hn;by_cases hlt:n<48
     ·have hl:=mz b n;have w1:∀ k:Nat,k≤16→IntKind.i64.wrap (((16+n:Nat):Int)-(k:Int))=((16+n-k:Nat):Int):=fun k hk=>by rw[IntWalk.i64_in _ (by omega)]; omega
      have e15:IntKind.i64.wrap (((16+n:Nat):Int)-15)=((16+n-15:Nat):Int):=w1 15 (by decide);have e2:IntKind.i64.wrap (((16+n:Nat):Int)-2)=((16+n-2:Nat):Int):=w1 2 (by decide);have e7:IntKind.i64.wrap (((16+n:Nat):Int)-7)=((16+n-7:Nat):Int):=w1 7 (by decide);have e16:IntKind.i64.wrap (((16+n:Nat):Int)-16)=((16+n-16:Nat):Int):=w1 16 (by decide);have e0:IntKind.i64.wrap (((16+n:Nat):Int)+1)=((16+(n+1):Nat):Int):=by rw[IntWalk.i64_in _ (by omega)]; omega
      have g:∀ k,k<16+n→((cV b n++List.replicate (48-n) 0).map wD)[k]?=some (wD ((cV b n).getD k 0)):=fun k hk=>by
        rw[Xv,Ja (by omega)]; rfl
      have g15:=g (16+n-15) (by omega);have g2:=g (16+n-2) (by omega);have g7:=g (16+n-7) (by omega);have g16:=g (16+n-16) (by omega);simp only[ux,yL,wx,aa,seval,iteOmega,toNatUp,e15,e2,e7,e16,e0,g15,g2,g7,g16];refine bi (je G _ 7 (by decide) (by decide)) rfl (.inr rfl) ?_;simp only[wx,aa,seval,iteOmega,toNatUp];refine bi (je G _ 18 (by decide) (by decide)) rfl (.inr rfl) ?_;simp only[wx,aa,seval,iteOmega,toNatUp];refine bi (je G _ 17 (by decide) (by decide)) rfl (.inr rfl) ?_;simp only[wx,aa,seval,iteOmega,toNatUp];refine bi (je G _ 19 (by decide) (by decide)) rfl (.inr rfl) ?_;have h1:16+n<(cV b n++List.replicate (48-n) 0).length:=by rw[WA,hl,WY]; omega
      have h2:=oY (cV b n) 0 (lU (cV b n) (16+n)) (48-n) (by omega);rw[hl] at h2;have h4:48-n-1=48-(n+1):=by omega
      have h3:cV b n++[lU (cV b n) (16+n)]=cV b (n+1):=rfl;rw[h3,h4] at h2;simp only[lU,xP,xQ] at h2;simp only[wx,aa,seval,iteOmega,toNatUp,e15,e2,e7,e16,e0,g15,g2,g7,g16,rZ h1 (nD _),r6,h2];refine aS (n+1) (by omega) (by omega) (aw id ?_ ?_ rfl rfl) <;> simp only[wx,am,aa,seval,iteOmega,toNatUp]
     ·have hn48:n=48:=by omega
      have hl:(cV b n).length=64:=by rw[mz]; omega
      have h0:48-n=0:=by omega
      simp only[ux,yL,wx,aa,seval,iteOmega,toNatUp,h0,WS,XW,hl];refine jf ?_;simp only[wx,aa,seval,iteOmega,toNatUp,EA b n hn48,hl]
theorem Lg {G:ah} {n:Nat} {c:C} (h:G.at n=some c) (f:Nat→V):ev G f (.g n)=.w (.c c):=by simp[ev,h]
theorem getD_some {l:List UInt32} {i:Nat} (h:i<l.length):l[i]?=some (l.getD i 0):=by simp[h]
theorem eight {l:List UInt32} (h:l.length=8):∃ a b c d e f g i,l=[a,b,c,d,e,f,g,i]:=by
  match l,h with
  | [a,b,c,d,e,f,g,i],_=>exact⟨a,b,c,d,e,f,g,i,rfl⟩
def bT.list (s:bT):List UInt32:=[s.a,s.b,s.c,s.d,s.e,s.f,s.g,s.h]
theorem Jb (s:bT) (k w:UInt32):(s.step k w).a=bJ (bJ (bJ (bJ (bJ s.h (zA s.e)) (zP s.e s.f s.g)) k) w) (bJ (Le s.a) (Lf s.a s.b s.c)):=rfl
theorem Jc (s:bT) (k w:UInt32):(s.step k w).b=s.a:=rfl
theorem Jd (s:bT) (k w:UInt32):(s.step k w).c=s.b:=rfl
theorem Je (s:bT) (k w:UInt32):(s.step k w).d=s.c:=rfl
theorem Jf (s:bT) (k w:UInt32):(s.step k w).e=bJ s.d (bJ (bJ (bJ (bJ s.h (zA s.e)) (zP s.e s.f s.g)) k) w):=rfl
theorem Jg (s:bT) (k w:UInt32):(s.step k w).f=s.e:=rfl
theorem Jh (s:bT) (k w:UInt32):(s.step k w).g=s.f:=rfl
theorem Ji (s:bT) (k w:UInt32):(s.step k w).h=s.g:=rfl
def s8 (h:List UInt32) (b:List UInt8) (s:bT) (n:Nat):St:=⟨aQ [(2,.w (.c (.pa 1 1))),(4,.w (.c (.pa 2 1))),(5,.w (.c (.pa 3 1))),(6,.w (.c (.d (wD s.a)))),(7,.w (.c (.d (wD s.b)))),(8,.w (.c (.d (wD s.c)))),(9,.w (.c (.d (wD s.d)))),(10,.w (.c (.d (wD s.e)))),(11,.w (.c (.d (wD s.f)))),(12,.w (.c (.d (wD s.g)))),(13,.w (.c (.d (wD s.h)))),(37,.w (.c (.d (.int .i64 (n:Int)))))],
  hL [(1,.row 1 (h.map wD)),(2,.row 1 ((List.replicate 8 (0:UInt32)).map wD)),(3,.row 1 ((dD b).map wD))],uL [1,2,3]⟩
def p7 (h:List UInt32) (b:List UInt8) (n:Nat):St:=s8 h b ((bT.of h).rounds bF (dD b) n) n
def sumTo (s:bT) (h:List UInt32) (k:Nat):List UInt32:=(s.sum h).take k++h.drop k
def s9 (h:List UInt32) (s:bT) (n:Nat):St:=⟨aQ [(2,.w (.c (.pa 1 1))),(4,.w (.c (.pa 2 1))),(108,.w (.c (.d (.agg (s.list.map wD))))),(109,.w (.c (.d (.int .i64 (n:Int)))))],
  hL [(1,.row 1 ((sumTo s h n).map wD)),(2,.row 1 ((List.replicate 8 (0:UInt32)).map wD))],uL [1,2]⟩
def uQ:aM := .seq (.reg [oO 38 (.bin .lss (.t 37) (kI 64))]) (.seq (.cond (.t 38) (.skip) (.exit 0)) (.seq (.block 1 (.seq (.reg [oM 39 37,oM 14 39]) (.seq (.reg [oM 40 13,oM 41 10,oO 42 (.call 185 [(.t 41),(kI 6)] none),oM 43 10,oO 44 (.call 185 [(.t 43),(kI 11)] none),oO 45 (.bin .xor (.t 42) (.t 44)),oM 46 10,oO 47 (.call 185 [(.t 46),(kI 25)] none),oO 48 (.bin .xor (.t 45) (.t 47)),oO 49 (.bin .add (.t 40) (.t 48)),oM 50 10,oM 51 11,oO 52 (.bin .and (.t 50) (.t 51)),oM 53 10,oO 54 (.un .xor (.t 53)),oM 55 12,oO 56 (.bin .and (.t 54) (.t 55)),oO 57 (.bin .xor (.t 52) (.t 56)),oO 58 (.bin .add (.t 49) (.t 57)),oM 59 14,oO 60 (.idxPa 1 64 (.g 1) (.t 59)),oO 61 (.load .sc (.t 60)),oO 62 (.bin .add (.t 58) (.t 61)),oM 63 14,oO 64 (.idxPa 1 64 (.t 5) (.t 63)),oO 65 (.load .sc (.t 64)),
 oO 66 (.bin .add (.t 62) (.t 65)),oM 15 66]) (.seq (.reg [oM 67 6,oO 68 (.call 185 [(.t 67),(kI 2)] none),oM 69 6,oO 70 (.call 185 [(.t 69),(kI 13)] none),oO 71 (.bin .xor (.t 68) (.t 70)),oM 72 6,oO 73 (.call 185 [(.t 72),(kI 22)] none),oO 74 (.bin .xor (.t 71) (.t 73)),oM 75 6,oM 76 7,oO 77 (.bin .and (.t 75) (.t 76)),oM 78 6,oM 79 8,oO 80 (.bin .and (.t 78) (.t 79)),oO 81 (.bin .xor (.t 77) (.t 80)),oM 82 7,oM 83 8,oO 84 (.bin .and (.t 82) (.t 83)),oO 85 (.bin .xor (.t 81) (.t 84)),oO 86 (.bin .add (.t 74) (.t 85)),oM 16 86]) (.reg [oM 87 12,oM 88 11,oM 89 10,oM 90 9,oM 91 15,oO 92 (.bin .add (.t 90) (.t 91)),oM 93 8,oM 94 7,oM 95 6,oM 96 15,oM 97 16,oO 98 (.bin .add (.t 96) (.t 97)),oM 13 87,oM 12 88,oM 11 89,oM 10 92,oM 9 93,oM 8 94,oM 7 95,oM 6 98]))))) (.reg [oO 99 (.bin .add (.t 37) (kI 1)),
 oM 37 99])))
def uR:aM := .seq (.reg [oO 110 (.bin .lss (.t 109) (kI 8))]) (.seq (.cond (.t 110) (.skip) (.exit 2)) (.seq (.block 3 (.seq (.reg [oM 111 109,oO 112 (.idxArr 1 8 .sc (.t 108) (.t 109)),oM 17 111,oM 18 112]) (.reg [oM 113 17,oO 114 (.idxPa 1 8 (.t 2) (.t 113)),oO 115 (.load .sc (.t 114)),oM 116 18,oO 117 (.bin .add (.t 115) (.t 116)),oO 118 (.idxPa 1 8 (.t 2) (.t 113)),oN (.store .sc (.t 118) (.t 117))]))) (.reg [oO 119 (.bin .add (.t 109) (kI 1)),oM 109 119])))
def EC:aE:=⟨2,121,.seq (.reg [oO 2 (.box .ownArr (.t 0)),oO 4 (.allocArr [(.int .u32 0),(.int .u32 0),(.int .u32 0),(.int .u32 0),(.int .u32 0),(.int .u32 0),(.int .u32 0),(.int .u32 0)])]) (.seq (.reg [oM 19 1,oO 20 (.call 184 [(.t 19)] none),oO 5 (.allocArr [(.int .u32 0),(.int .u32 0),(.int .u32 0),(.int .u32 0),(.int .u32 0),(.int .u32 0),(.int .u32 0),(.int .u32 0),(.int .u32 0),(.int .u32 0),(.int .u32 0),(.int .u32 0),(.int .u32 0),(.int .u32 0),(.int .u32 0),(.int .u32 0),(.int .u32 0),(.int .u32 0),(.int .u32 0),(.int .u32 0),(.int .u32 0),(.int .u32 0),(.int .u32 0),(.int .u32 0),(.int .u32 0),(.int .u32 0),(.int .u32 0),(.int .u32 0),(.int .u32 0),(.int .u32 0),(.int .u32 0),(.int .u32 0),(.int .u32 0),(.int .u32 0),(.int .u32 0),(.int .u32 0),(.int .u32 0),(.int .u32 0),(.int .u32 0),(.int .u32 0),(.int .u32 0),(.int .u32 0),(.int .u32 0),(.int .u32 0),(.int .u32 0),(.int .u32 0),(.int .u32 0),(.int .u32 0),(.int .u32 0),(.int .u32 0),(.int .u32 0),(.int .u32 0),(.int .u32 0),(.int .u32 0),(.int .u32 0),(.int .u32 0),(.int .u32 0),(.int .u32 0),(.int .u32 0),(.int .u32 0),(.int .u32 0),(.int .u32 0),(.int .u32 0),(.int .u32 0)]),
 oN (.store (.ag 64) (.t 5) (.t 20))]) (.seq (.reg [oO 21 (.idxPa 1 8 (.t 2) (kI 0)),oO 22 (.load .sc (.t 21)),oO 23 (.idxPa 1 8 (.t 2) (kI 1)),oO 24 (.load .sc (.t 23)),oO 25 (.idxPa 1 8 (.t 2) (kI 2)),oO 26 (.load .sc (.t 25)),oO 27 (.idxPa 1 8 (.t 2) (kI 3)),oO 28 (.load .sc (.t 27)),oO 29 (.idxPa 1 8 (.t 2) (kI 4)),oO 30 (.load .sc (.t 29)),oO 31 (.idxPa 1 8 (.t 2) (kI 5)),oO 32 (.load .sc (.t 31)),oO 33 (.idxPa 1 8 (.t 2) (kI 6)),oO 34 (.load .sc (.t 33)),oO 35 (.idxPa 1 8 (.t 2) (kI 7)),oO 36 (.load .sc (.t 35)),oM 6 22,oM 7 24,oM 8 26,oM 9 28,oM 10 30,oM 11 32,oM 12 34,oM 13 36]) (.seq (.seq (.reg [oO 37 (.mv (kI 0))]) (.block 0 (.loop uQ))) (.seq (.seq (.reg [oM 100 6,oM 101 7,oM 102 8,oM 103 9,oM 104 10,oM 105 11,oM 106 12,oM 107 13,oO 108 (.build [(.d (.int .u32 0)),(.d (.int .u32 0)),(.d (.int .u32 0)),(.d (.int .u32 0)),(.d (.int .u32 0)),(.d (.int .u32 0)),(.d (.int .u32 0)),(.d (.int .u32 0))] [(0,1,(.t 100)),(1,1,(.t 101)),(2,1,(.t 102)),(3,1,(.t 103)),(4,1,(.t 104)),(5,1,(.t 105)),(6,1,(.t 106)),(7,1,(.t 107))]),
 oO 109 (.mv (kI 0))]) (.block 2 (.loop uR))) (.seq (.reg [oO 120 (.load (.ag 8) (.t 2)),oN (.store (.ag 8) (.t 4) (.t 120))]) (.ret)))))),[(4,(some (.ag 8)))]⟩
theorem Ps:aC Tryz.prog { own:=[2],comp:=[],frz:=[],nils:=[] } Tryz.f173=some EC:=by kernel_rfl
theorem Rp (G:ah) (hG:G.at 1=some (.ra (bF.map wD))) (h:List UInt32) (b:List UInt8) (hh:h.length=8) (hb:b.length=64):ak Tryz.prog G 173 [.agg (h.map wD),.sl (b.map bD)] (.w (.c (.d (.agg ((lL h b).map wD))))):=by
  refine aG Tryz.func173 Ps rfl rfl ?_;have hsl:(dD b).length=64:=mz b 48;have eg:=@Lg G 1 _ hG;have hcl:bF.length=64:=AJ;obtain⟨h0,h1,h2,h3,h4,h5,h6,h7,rfl⟩:=eight hh;simp only[EC,af,wx,aa,seval,iteOmega,toNatUp];refine bi (Pr G b hb) rfl (.inl rfl) ?_;simp only[wx,aa,seval,iteOmega,toNatUp,hsl];refine ba (p7 [h0,h1,h2,h3,h4,h5,h6,h7] b) (fun n=>64-n) (fun n=>n≤64) 0 (WI _) ?_ ?_
  ·refine aw (fun i=>match i with | 1=>16 | 2=>32 | _=>40) ?_ ?_ rfl rfl <;> simp only[p7,s8,wx,am,aa,seval,iteOmega,toNatUp]
   ·exact⟨rfl,rfl,rfl,rfl,rfl,rfl,rfl,rfl⟩
   ·rfl
  ·intro n hn;by_cases hlt:n<64
   ·have e1:IntKind.i64.wrap ((n:Int)+1)=((n+1:Nat):Int):=by rw[IntWalk.i64_in _ (by omega)]; rfl
    have g1:(bF.map wD)[n]?=some (wD (bF.getD n 0)):=by rw[aJ,getD_some (by omega)]; rfl
    have g2:((dD b).map wD)[n]?=some (wD ((dD b).getD n 0)):=by rw[aJ,getD_some (by omega)]; rfl
    have hr:(bT.of [h0,h1,h2,h3,h4,h5,h6,h7]).rounds bF (dD b) (n+1)=((bT.of [h0,h1,h2,h3,h4,h5,h6,h7]).rounds bF (dD b) n).step (bF.getD n 0) ((dD b).getD n 0):=rfl;generalize hs:(bT.of [h0,h1,h2,h3,h4,h5,h6,h7]).rounds bF (dD b) n=s at hr;simp only[uQ,p7,s8,hs,wx,aa,seval,iteOmega,toNatUp,eg,g1,g2,e1];refine bi (je G _ 6 (by decide) (by decide)) rfl (.inr rfl) ?_;simp only[wx,aa,seval,iteOmega,toNatUp];refine bi (je G _ 11 (by decide) (by decide)) rfl (.inr rfl) ?_;simp only[wx,aa,seval,iteOmega,toNatUp];refine bi (je G _ 25 (by decide) (by decide)) rfl (.inr rfl) ?_;simp only[wx,aa,seval,iteOmega,toNatUp,eg,g1,g2,hcl];refine bi (je G _ 2 (by decide) (by decide)) rfl (.inr rfl) ?_;simp only[wx,aa,seval,iteOmega,toNatUp];refine bi (je G _ 13 (by decide) (by decide)) rfl (.inr rfl) ?_;simp only[wx,aa,seval,iteOmega,toNatUp];refine bi (je G _ 22 (by decide) (by decide)) rfl (.inr rfl) ?_;simp only[wx,aa,seval,iteOmega,toNatUp,e1];refine aS (n+1) (by omega) (by omega) ?_;rw[p7,hr];refine (aw id ?_ ?_ rfl rfl) <;> simp only[wx,am,aa,seval,iteOmega,toNatUp,Jb,Jc,Jd,Je,Jf,Jg,Jh,Ji];exact⟨rfl,rfl⟩
   ·obtain rfl:n=64:=by omega
    have hK:lL [h0,h1,h2,h3,h4,h5,h6,h7] b=((bT.of [h0,h1,h2,h3,h4,h5,h6,h7]).rounds bF (dD b) 64).sum [h0,h1,h2,h3,h4,h5,h6,h7]:=rfl;rw[hK];simp only[p7];generalize (bT.of [h0,h1,h2,h3,h4,h5,h6,h7]).rounds bF (dD b) 64=s;simp only[uQ,s8,wx,aa,seval,iteOmega,toNatUp];refine ba (s9 [h0,h1,h2,h3,h4,h5,h6,h7] s) (fun n=>8-n) (fun n=>n≤8) 0 (WI _) ?_ ?_
    ·refine aw id ?_ ?_ rfl rfl <;> simp only[wx,am,aa,seval,iteOmega,toNatUp,s9]
     ·rfl
     ·rfl
    ·have e8:s.sum [h0,h1,h2,h3,h4,h5,h6,h7]=[bJ h0 s.a,bJ h1 s.b,bJ h2 s.c,bJ h3 s.d,bJ h4 s.e,bJ h5 s.f,bJ h6 s.g,bJ h7 s.h]:=rfl;intro n hn;have hc:n=8∨n=0∨n=1∨n=2∨n=3∨n=4∨n=5∨n=6∨n=7:=by omega
     rcases hc with rfl | rfl | rfl | rfl | rfl | rfl | rfl | rfl | rfl
     ·simp only[uR,s9,sumTo,e8,bT.list,wx,aa,seval,iteOmega,toNatUp];exact jf (by simp only[wx,aa,seval,iteOmega,toNatUp])
     all_goals
       simp only[uR,s9,sumTo,e8,bT.list,wx,wy,aa,seval,iteOmega,toNatUp]
       first | refine aS 1 (by decide) (by decide) ?_ | refine aS 2 (by decide) (by decide) ?_ | refine aS 3 (by decide) (by decide) ?_ | refine aS 4 (by decide) (by decide) ?_ | refine aS 5 (by decide) (by decide) ?_ | refine aS 6 (by decide) (by decide) ?_ | refine aS 7 (by decide) (by decide) ?_ | refine aS 8 (by decide) (by decide) ?_
       refine aw id ?_ ?_ rfl rfl <;> simp only[wx,am,aa,seval,iteOmega,toNatUp,sumTo,e8,bT.list] <;> rfl
theorem Mt {l:List UInt8} {i:Nat} (h:i<l.length):l[i]?=some (l.getD i 0):=by simp[h]
def yM (h k:List UInt32) (b:List UInt8) (t:Nat):St:=⟨aQ [(0,.w (.c (.d (.sl (h.map wD))))),(1,.w (.c (.d (.sl (k.map wD))))),(2,.w (.c (.d (.sl (b.map bD))))),(7,.w (.c (.pa 1 1))),(8,.w (.c (.d (.int .i64 (t:Int)))))],
  hL [(1,.row 1 ((fh b t++List.replicate (64-t) 0).map wD))],uL [1]⟩
def yN (h k:List UInt32) (b:List UInt8) (n:Nat):St:=⟨aQ [(0,.w (.c (.d (.sl (h.map wD))))),(1,.w (.c (.d (.sl (k.map wD))))),(7,.w (.c (.pa 1 1))),(9,.w (.c (.d (.int .i64 ((16+n:Nat):Int)))))],
  hL [(1,.row 1 ((cV b n++List.replicate (48-n) 0).map wD))],uL [1]⟩
def ta (h:List UInt32) (b:List UInt8) (s:bT) (n:Nat):St:=⟨aQ [(0,.w (.c (.d (.sl (h.map wD))))),(1,.w (.c (.d (.sl (bF.map wD))))),(7,.w (.c (.pa 1 1))),(12,.w (.c (.d (wD s.a)))),(13,.w (.c (.d (wD s.b)))),(14,.w (.c (.d (wD s.c)))),(15,.w (.c (.d (wD s.d)))),(16,.w (.c (.d (wD s.e)))),(17,.w (.c (.d (wD s.f)))),(18,.w (.c (.d (wD s.g)))),(19,.w (.c (.d (wD s.h)))),(20,.w (.c (.d (.int .i64 (n:Int)))))],
  hL [(1,.row 1 ((dD b).map wD))],uL [1]⟩
def p8 (h:List UInt32) (b:List UInt8) (n:Nat):St:=ta h b ((bT.of h).rounds bF (dD b) n) n
def uz:aM := .seq (.seq (.reg [oM 23 8,oO 24 (.bin .lss (.t 23) (kI 16))]) (.cond (.t 24) (.skip) (.exit 0))) (.seq (.block 1 (.reg [oM 27 8,oM 28 2,oM 29 8,oO 30 (.bin .mul (kI 4) (.t 29)),oO 31 (.idxSl 1 (.t 28) (.t 30)),oO 32 (.load .sc (.t 31)),oO 33 (.conv .u32 (.t 32)),oO 34 (.bin .shl (.t 33) (.k (.c (.d (.int .u64 24))))),oM 35 2,oM 36 8,oO 37 (.bin .mul (kI 4) (.t 36)),oO 38 (.bin .add (.t 37) (kI 1)),oO 39 (.idxSl 1 (.t 35) (.t 38)),oO 40 (.load .sc (.t 39)),oO 41 (.conv .u32 (.t 40)),oO 42 (.bin .shl (.t 41) (.k (.c (.d (.int .u64 16))))),oO 43 (.bin .or (.t 34) (.t 42)),oM 44 2,oM 45 8,oO 46 (.bin .mul (kI 4) (.t 45)),oO 47 (.bin .add (.t 46) (kI 2)),oO 48 (.idxSl 1 (.t 44) (.t 47)),oO 49 (.load .sc (.t 48)),oO 50 (.conv .u32 (.t 49)),oO 51 (.bin .shl (.t 50) (.k (.c (.d (.int .u64 8))))),
 oO 52 (.bin .or (.t 43) (.t 51)),oM 53 2,oM 54 8,oO 55 (.bin .mul (kI 4) (.t 54)),oO 56 (.bin .add (.t 55) (kI 3)),oO 57 (.idxSl 1 (.t 53) (.t 56)),oO 58 (.load .sc (.t 57)),oO 59 (.conv .u32 (.t 58)),oO 60 (.bin .or (.t 52) (.t 59)),oO 61 (.idxPa 1 64 (.t 7) (.t 27)),oN (.store .sc (.t 61) (.t 60))])) (.reg [oM 25 8,oO 26 (.bin .add (.t 25) (kI 1)),oM 8 26]))
def uA:aM := .seq (.seq (.reg [oM 62 9,oO 63 (.bin .lss (.t 62) (kI 64))]) (.cond (.t 63) (.skip) (.exit 2))) (.seq (.block 3 (.seq (.reg [oM 66 9,oO 67 (.bin .sub (.t 66) (kI 15)),oO 68 (.idxPa 1 64 (.t 7) (.t 67)),oO 69 (.load .sc (.t 68)),oM 70 9,oO 71 (.bin .sub (.t 70) (kI 2)),oO 72 (.idxPa 1 64 (.t 7) (.t 71)),oO 73 (.load .sc (.t 72)),oM 10 69,oM 11 73]) (.reg [oM 74 9,oM 75 11,oO 76 (.call 133 [(.t 75),(kI 17)] none),oM 77 11,oO 78 (.call 133 [(.t 77),(kI 19)] none),oO 79 (.bin .xor (.t 76) (.t 78)),oM 80 11,oO 81 (.bin .shr (.t 80) (.k (.c (.d (.int .u64 10))))),oO 82 (.bin .xor (.t 79) (.t 81)),oM 83 9,oO 84 (.bin .sub (.t 83) (kI 7)),oO 85 (.idxPa 1 64 (.t 7) (.t 84)),oO 86 (.load .sc (.t 85)),oO 87 (.bin .add (.t 82) (.t 86)),oM 88 10,oO 89 (.call 133 [(.t 88),(kI 7)] none),
 oM 90 10,oO 91 (.call 133 [(.t 90),(kI 18)] none),oO 92 (.bin .xor (.t 89) (.t 91)),oM 93 10,oO 94 (.bin .shr (.t 93) (.k (.c (.d (.int .u64 3))))),oO 95 (.bin .xor (.t 92) (.t 94)),oO 96 (.bin .add (.t 87) (.t 95)),oM 97 9,oO 98 (.bin .sub (.t 97) (kI 16)),oO 99 (.idxPa 1 64 (.t 7) (.t 98)),oO 100 (.load .sc (.t 99)),oO 101 (.bin .add (.t 96) (.t 100)),oO 102 (.idxPa 1 64 (.t 7) (.t 74)),oN (.store .sc (.t 102) (.t 101))]))) (.reg [oM 64 9,oO 65 (.bin .add (.t 64) (kI 1)),oM 9 65]))
def uB:aM := .seq (.seq (.reg [oM 127 20,oO 128 (.bin .lss (.t 127) (kI 64))]) (.cond (.t 128) (.skip) (.exit 4))) (.seq (.block 5 (.seq (.reg [oM 131 19,oM 132 16,oO 133 (.call 133 [(.t 132),(kI 6)] none),oM 134 16,oO 135 (.call 133 [(.t 134),(kI 11)] none),oO 136 (.bin .xor (.t 133) (.t 135)),oM 137 16,oO 138 (.call 133 [(.t 137),(kI 25)] none),oO 139 (.bin .xor (.t 136) (.t 138)),oO 140 (.bin .add (.t 131) (.t 139)),oM 141 16,oM 142 17,oO 143 (.bin .and (.t 141) (.t 142)),oM 144 16,oO 145 (.un .xor (.t 144)),oM 146 18,oO 147 (.bin .and (.t 145) (.t 146)),oO 148 (.bin .xor (.t 143) (.t 147)),oO 149 (.bin .add (.t 140) (.t 148)),oM 150 1,oM 151 20,oO 152 (.idxSl 1 (.t 150) (.t 151)),oO 153 (.load .sc (.t 152)),oO 154 (.bin .add (.t 149) (.t 153)),oM 155 20,oO 156 (.idxPa 1 64 (.t 7) (.t 155)),
 oO 157 (.load .sc (.t 156)),oO 158 (.bin .add (.t 154) (.t 157)),oM 21 158]) (.seq (.reg [oM 159 12,oO 160 (.call 133 [(.t 159),(kI 2)] none),oM 161 12,oO 162 (.call 133 [(.t 161),(kI 13)] none),oO 163 (.bin .xor (.t 160) (.t 162)),oM 164 12,oO 165 (.call 133 [(.t 164),(kI 22)] none),oO 166 (.bin .xor (.t 163) (.t 165)),oM 167 12,oM 168 13,oO 169 (.bin .and (.t 167) (.t 168)),oM 170 12,oM 171 14,oO 172 (.bin .and (.t 170) (.t 171)),oO 173 (.bin .xor (.t 169) (.t 172)),oM 174 13,oM 175 14,oO 176 (.bin .and (.t 174) (.t 175)),oO 177 (.bin .xor (.t 173) (.t 176)),oO 178 (.bin .add (.t 166) (.t 177)),oM 22 178]) (.reg [oM 179 21,oM 180 22,oO 181 (.bin .add (.t 179) (.t 180)),oM 182 12,oM 183 13,oM 184 14,oM 185 15,oM 186 21,oO 187 (.bin .add (.t 185) (.t 186)),oM 188 16,oM 189 17,oM 190 18,oM 12 181,
 oM 13 182,oM 14 183,oM 15 184,oM 16 187,oM 17 188,oM 18 189,oM 19 190])))) (.reg [oM 129 20,oO 130 (.bin .add (.t 129) (kI 1)),oM 20 130]))
def Ca:aE:=⟨3,232,.seq (.reg [oO 6 (.mv (.k (.c .nil)))]) (.seq (.reg [oO 7 (.allocArr [(.int .u32 0),(.int .u32 0),(.int .u32 0),(.int .u32 0),(.int .u32 0),(.int .u32 0),(.int .u32 0),(.int .u32 0),(.int .u32 0),(.int .u32 0),(.int .u32 0),(.int .u32 0),(.int .u32 0),(.int .u32 0),(.int .u32 0),(.int .u32 0),(.int .u32 0),(.int .u32 0),(.int .u32 0),(.int .u32 0),(.int .u32 0),(.int .u32 0),(.int .u32 0),(.int .u32 0),(.int .u32 0),(.int .u32 0),(.int .u32 0),(.int .u32 0),(.int .u32 0),(.int .u32 0),(.int .u32 0),(.int .u32 0),(.int .u32 0),(.int .u32 0),(.int .u32 0),(.int .u32 0),(.int .u32 0),(.int .u32 0),(.int .u32 0),(.int .u32 0),(.int .u32 0),(.int .u32 0),(.int .u32 0),(.int .u32 0),(.int .u32 0),(.int .u32 0),(.int .u32 0),(.int .u32 0),(.int .u32 0),(.int .u32 0),(.int .u32 0),(.int .u32 0),(.int .u32 0),(.int .u32 0),(.int .u32 0),(.int .u32 0),(.int .u32 0),(.int .u32 0),(.int .u32 0),(.int .u32 0),(.int .u32 0),(.int .u32 0),(.int .u32 0),(.int .u32 0)])])
 (.seq (.seq (.reg [oO 8 (.mv (kI 0))]) (.block 0 (.loop uz))) (.seq (.seq (.reg [oO 9 (.mv (kI 16))]) (.block 2 (.loop uA))) (.seq (.reg [oM 103 0,oO 104 (.idxSl 1 (.t 103) (kI 0)),oO 105 (.load .sc (.t 104)),oM 106 0,oO 107 (.idxSl 1 (.t 106) (kI 1)),oO 108 (.load .sc (.t 107)),oM 109 0,oO 110 (.idxSl 1 (.t 109) (kI 2)),oO 111 (.load .sc (.t 110)),oM 112 0,oO 113 (.idxSl 1 (.t 112) (kI 3)),oO 114 (.load .sc (.t 113)),oM 115 0,oO 116 (.idxSl 1 (.t 115) (kI 4)),oO 117 (.load .sc (.t 116)),oM 118 0,oO 119 (.idxSl 1 (.t 118) (kI 5)),oO 120 (.load .sc (.t 119)),oM 121 0,oO 122 (.idxSl 1 (.t 121) (kI 6)),oO 123 (.load .sc (.t 122)),oM 124 0,oO 125 (.idxSl 1 (.t 124) (kI 7)),oO 126 (.load .sc (.t 125)),oM 12 105,oM 13 108,oM 14 111,oM 15 114,oM 16 117,oM 17 120,oM 18 123,oM 19 126])
 (.seq (.seq (.reg [oO 20 (.mv (kI 0))]) (.block 4 (.loop uB))) (.seq (.reg [oM 191 0,oO 192 (.idxSl 1 (.t 191) (kI 0)),oO 193 (.load .sc (.t 192)),oM 194 12,oO 195 (.bin .add (.t 193) (.t 194)),oM 196 0,oO 197 (.idxSl 1 (.t 196) (kI 1)),oO 198 (.load .sc (.t 197)),oM 199 13,oO 200 (.bin .add (.t 198) (.t 199)),oM 201 0,oO 202 (.idxSl 1 (.t 201) (kI 2)),oO 203 (.load .sc (.t 202)),oM 204 14,oO 205 (.bin .add (.t 203) (.t 204)),oM 206 0,oO 207 (.idxSl 1 (.t 206) (kI 3)),oO 208 (.load .sc (.t 207)),oM 209 15,oO 210 (.bin .add (.t 208) (.t 209)),oM 211 0,oO 212 (.idxSl 1 (.t 211) (kI 4)),oO 213 (.load .sc (.t 212)),oM 214 16,oO 215 (.bin .add (.t 213) (.t 214)),oM 216 0,oO 217 (.idxSl 1 (.t 216) (kI 5)),oO 218 (.load .sc (.t 217)),oM 219 17,oO 220 (.bin .add (.t 218) (.t 219)),oM 221 0,
 oO 222 (.idxSl 1 (.t 221) (kI 6)),oO 223 (.load .sc (.t 222)),oM 224 18,oO 225 (.bin .add (.t 223) (.t 224)),oM 226 0,oO 227 (.idxSl 1 (.t 226) (kI 7)),oO 228 (.load .sc (.t 227)),oM 229 19,oO 230 (.bin .add (.t 228) (.t 229)),oO 231 (.bldSl true 8 1 (.int .u32 0) [(0,(.t 195)),(1,(.t 200)),(2,(.t 205)),(3,(.t 210)),(4,(.t 215)),(5,(.t 220)),(6,(.t 225)),(7,(.t 230))]),oM 6 231]) (.ret))))))),[(6,none)]⟩
theorem NH:aC Tryz.prog { own:=[231],comp:=[],frz:=[],nils:=[] } Tryz.f119=some Ca:=by kernel_rfl
theorem ED (G:ah) (h:List UInt32) (b:List UInt8) (hh:h.length=8) (hb:b.length=64):ak Tryz.prog G 119 [.sl (h.map wD),.sl (bF.map wD),.sl (b.map bD)] (.w (.c (.fr 1 ((lL h b).map wD)))):=by
  refine aG Tryz.func119 NH rfl rfl ?_;have hsl:(dD b).length=64:=mz b 48;have hcl:bF.length=64:=AJ;simp only[Ca,af,wx,aa,seval,iteOmega,toNatUp];refine ba (yM h bF b) (fun t=>16-t) (fun t=>t≤16) 0 (WI _) ?_ ?_
  ·refine aw (fun _=>56) ?_ ?_ rfl rfl <;> simp only[wx,am,aa,seval,iteOmega,toNatUp];rfl
  ·intro t ht;by_cases hlt:t<16
   ·have e0:IntKind.i64.wrap (4*(t:Int))=((4*t:Nat):Int):=by rw[IntWalk.i64_in _ (by omega)]; omega
    have e1:IntKind.i64.wrap (((4*t:Nat):Int)+1)=((4*t+1:Nat):Int):=by rw[IntWalk.i64_in _ (by omega)]; omega
    have e2:IntKind.i64.wrap (((4*t:Nat):Int)+2)=((4*t+2:Nat):Int):=by rw[IntWalk.i64_in _ (by omega)]; omega
    have e3:IntKind.i64.wrap (((4*t:Nat):Int)+3)=((4*t+3:Nat):Int):=by rw[IntWalk.i64_in _ (by omega)]; omega
    have e4:IntKind.i64.wrap ((t:Int)+1)=((t+1:Nat):Int):=by rw[IntWalk.i64_in _ (by omega)]; omega
    have g:∀ k,k<64→(b.map bD)[k]?=some (bD (b.getD k 0)):=fun k hk=>by rw[aJ,Mt (by omega)]; rfl
    have g0:=g (4*t) (by omega);have g1:=g (4*t+1) (by omega);have g2:=g (4*t+2) (by omega);have g3:=g (4*t+3) (by omega);have h1:t<(fh b t++List.replicate (64-t) 0).length:=by rw[WA,oA,WY]; omega
    have h2:=oY (fh b t) 0 (jH b t) (64-t) (by omega);rw[oA] at h2;have h3:fh b t++[jH b t]=fh b (t+1):=by simp[fh,Ye]
    have h4:64-t-1=64-(t+1):=by omega
    rw[h3,h4] at h2;simp only[jH] at h2;have m24:min (24:Int).toNat 32=24:=by decide
    have m16:min (16:Int).toNat 32=16:=by decide
    have m8:min (8:Int).toNat 32=8:=by decide
    simp only[uz,yM,wx,aa,seval,iteOmega,toNatUp,e0,e1,e2,e3,e4,g0,g1,g2,g3,Xr,rZ h1 (nD _),r6,h2];refine aS (t+1) (by omega) (by omega) (aw id ?_ ?_ rfl rfl) <;> simp only[wx,am,aa,seval,iteOmega,toNatUp]
   ·obtain rfl:t=16:=by omega
    simp only[uz,yM,wx,aa,seval,iteOmega,toNatUp];refine ba (yN h bF b) (fun n=>48-n) (fun n=>n≤48) 0 (WI _) ?_ ?_
    ·have h0:fh b 16=cV b 0:=rfl;refine aw id ?_ ?_ rfl rfl <;> simp only[wx,am,aa,seval,iteOmega,toNatUp,h0]
    ·intro n hn;by_cases hlt:n<48
     ·have hl:=mz b n;have w1:∀ k:Nat,k≤16→IntKind.i64.wrap (((16+n:Nat):Int)-(k:Int))=((16+n-k:Nat):Int):=fun k hk=>by rw[IntWalk.i64_in _ (by omega)]; omega
      have e15:IntKind.i64.wrap (((16+n:Nat):Int)-15)=((16+n-15:Nat):Int):=w1 15 (by decide);have e2:IntKind.i64.wrap (((16+n:Nat):Int)-2)=((16+n-2:Nat):Int):=w1 2 (by decide);have e7:IntKind.i64.wrap (((16+n:Nat):Int)-7)=((16+n-7:Nat):Int):=w1 7 (by decide);have e16:IntKind.i64.wrap (((16+n:Nat):Int)-16)=((16+n-16:Nat):Int):=w1 16 (by decide);have e0:IntKind.i64.wrap (((16+n:Nat):Int)+1)=((16+(n+1):Nat):Int):=by rw[IntWalk.i64_in _ (by omega)]; omega
      have g:∀ k,k<16+n→((cV b n++List.replicate (48-n) 0).map wD)[k]?=some (wD ((cV b n).getD k 0)):=fun k hk=>by
        rw[Xv,Ja (by omega)]; rfl
      have g15:=g (16+n-15) (by omega);have g2:=g (16+n-2) (by omega);have g7:=g (16+n-7) (by omega);have g16:=g (16+n-16) (by omega);simp only[uA,yN,wx,aa,seval,iteOmega,toNatUp,e15,e2,e7,e16,e0,g15,g2,g7,g16];refine bi (jb G _ 17 (by decide) (by decide)) rfl (.inr rfl) ?_;simp only[wx,aa,seval,iteOmega,toNatUp];refine bi (jb G _ 19 (by decide) (by decide)) rfl (.inr rfl) ?_;simp only[wx,aa,seval,iteOmega,toNatUp,e15,e2,e7,e16,e0,g15,g2,g7,g16];refine bi (jb G _ 7 (by decide) (by decide)) rfl (.inr rfl) ?_;simp only[wx,aa,seval,iteOmega,toNatUp];refine bi (jb G _ 18 (by decide) (by decide)) rfl (.inr rfl) ?_;have h1:16+n<(cV b n++List.replicate (48-n) 0).length:=by rw[WA,hl,WY]; omega
      have h2:=oY (cV b n) 0 (lU (cV b n) (16+n)) (48-n) (by omega);rw[hl] at h2;have h4:48-n-1=48-(n+1):=by omega
      have h3:cV b n++[lU (cV b n) (16+n)]=cV b (n+1):=rfl;rw[h3,h4] at h2;simp only[lU,xP,xQ] at h2;simp only[wx,aa,seval,iteOmega,toNatUp,e15,e2,e7,e16,e0,g15,g2,g7,g16,rZ h1 (nD _),r6,h2];refine aS (n+1) (by omega) (by omega) (aw id ?_ ?_ rfl rfl) <;> simp only[wx,am,aa,seval,iteOmega,toNatUp]
     ·have hn48:n=48:=by omega
      have h0:48-n=0:=by omega
      obtain⟨h0',h1,h2,h3,h4,h5,h6,h7,rfl⟩:=eight hh;simp only[uA,yN,wx,aa,seval,iteOmega,toNatUp,h0,WS,XW,← EA b n hn48];refine ba (p8 [h0',h1,h2,h3,h4,h5,h6,h7] b) (fun n=>64-n) (fun n=>n≤64) 0 (WI _) ?_ ?_
      ·refine aw id ?_ ?_ rfl rfl <;> simp only[p8,ta,wx,am,aa,seval,iteOmega,toNatUp];exact⟨rfl,rfl,rfl,rfl,rfl,rfl,rfl,rfl⟩
      ·clear hn hlt hn48 h0;intro n hn;by_cases hlt:n<64
       ·have e1:IntKind.i64.wrap ((n:Int)+1)=((n+1:Nat):Int):=by rw[IntWalk.i64_in _ (by omega)]; rfl
        have g1:(bF.map wD)[n]?=some (wD (bF.getD n 0)):=by rw[aJ,getD_some (by omega)]; rfl
        have g2:((dD b).map wD)[n]?=some (wD ((dD b).getD n 0)):=by rw[aJ,getD_some (by omega)]; rfl
        have hr:(bT.of [h0',h1,h2,h3,h4,h5,h6,h7]).rounds bF (dD b) (n+1)=((bT.of [h0',h1,h2,h3,h4,h5,h6,h7]).rounds bF (dD b) n).step (bF.getD n 0) ((dD b).getD n 0):=rfl;generalize hs:(bT.of [h0',h1,h2,h3,h4,h5,h6,h7]).rounds bF (dD b) n=s at hr;simp only[uB,p8,ta,hs,wx,aa,seval,iteOmega,toNatUp,hcl,hsl,g1,g2,e1];refine bi (jb G _ 6 (by decide) (by decide)) rfl (.inr rfl) ?_;simp only[wx,aa,seval,iteOmega,toNatUp];refine bi (jb G _ 11 (by decide) (by decide)) rfl (.inr rfl) ?_;simp only[wx,aa,seval,iteOmega,toNatUp];refine bi (jb G _ 25 (by decide) (by decide)) rfl (.inr rfl) ?_;simp only[wx,aa,seval,iteOmega,toNatUp,g1,g2,hcl,hsl];refine bi (jb G _ 2 (by decide) (by decide)) rfl (.inr rfl) ?_;simp only[wx,aa,seval,iteOmega,toNatUp];refine bi (jb G _ 13 (by decide) (by decide)) rfl (.inr rfl) ?_;simp only[wx,aa,seval,iteOmega,toNatUp];refine bi (jb G _ 22 (by decide) (by decide)) rfl (.inr rfl) ?_;simp only[wx,aa,seval,iteOmega,toNatUp,e1];refine aS (n+1) (by omega) (by omega) ?_;rw[p8,hr];refine (aw id ?_ ?_ rfl rfl) <;> simp only[wx,am,aa,seval,iteOmega,toNatUp,Jb,Jc,Jd,Je,Jf,Jg,Jh,Ji];exact⟨rfl,rfl⟩
       ·obtain rfl:n=64:=by omega
        have hK:lL [h0',h1,h2,h3,h4,h5,h6,h7] b=((bT.of [h0',h1,h2,h3,h4,h5,h6,h7]).rounds bF (dD b) 64).sum [h0',h1,h2,h3,h4,h5,h6,h7]:=rfl;rw[hK];simp only[p8];generalize (bT.of [h0',h1,h2,h3,h4,h5,h6,h7]).rounds bF (dD b) 64=s;have e8:s.sum [h0',h1,h2,h3,h4,h5,h6,h7]=[bJ h0' s.a,bJ h1 s.b,bJ h2 s.c,bJ h3 s.d,bJ h4 s.e,bJ h5 s.f,bJ h6 s.g,bJ h7 s.h]:=rfl;simp only[uB,ta,e8,wx,aa,seval,iteOmega,toNatUp];exact eE (id:=1848) (n:=8) (s:=1) (by simp only[wx,aa,seval,iteOmega,toNatUp]) (by simp only[wx,aa,seval,iteOmega,toNatUp] <;> rfl) rfl
def dm (h:List UInt32) (b:List UInt8):Nat→List UInt32
  | 0=>h
  | n+1=>lL (dm h b n) ((b.drop (64*n)).take 64)
theorem lw {h:List UInt32} (hh:h.length=8) (b:List UInt8):∀ n,(dm h b n).length=8
  | 0=>hh
  | n+1=>AK _ _
def eL (rest:List UInt8) (count:Nat):List UInt8:=rest++[128]++List.replicate ((119-rest.length)%64) 0++aN (count*8) 8
def fp (ws:List UInt32):List UInt8:=ws.flatMap fun w=>aN w.toNat 4
def jp (s:List UInt32) (rest:List UInt8) (count:Nat):List UInt8:=fp (dm s (eL rest count) ((eL rest count).length / 64))
def cg (b:List UInt8):List UInt8:=jp (dm cU b (b.length / 64)) (b.drop (64*(b.length / 64))) b.length
theorem qo:∀ ws:List UInt32,(fp ws).length=4*ws.length
  | []=>rfl
  | w::ws=>by
    have:fp (w::ws)=aN w.toNat 4++fp ws:=rfl;rw[this,WA,bW,qo ws,Xx]; omega
theorem Pt {s:List UInt32} (hs:s.length=8) (rest:List UInt8) (count:Nat):(jp s rest count).length=32:=by
  unfold jp;rw[qo,lw hs]
theorem fT (b:List UInt8):(cg b).length=32:=Pt (lw oC _ _) _ _
theorem NI (n:Nat):aN 0 n=List.replicate n 0:=by
  unfold aN;apply XJ;intro i;simp only[Xv,List.getElem?_replicate,Yi];by_cases h:i<n
  ·simp[h,Yi]
  ·simp[h,Yi]
theorem EE (rest:List UInt8) (count:Nat) (h:rest.length<64):(eL rest count).length=rest.length+9+(119-rest.length)%64∧(eL rest count).length%64=0:=by
  have:(eL rest count).length=rest.length+9+(119-rest.length)%64:=by simp[eL,bW]; omega
  exact⟨this,by omega⟩
theorem An (ws:List UInt32) (k:Nat) (h:k<ws.length):fp (ws.take k)++aN (ws.getD k 0).toNat 4=fp (ws.take (k+1)):=by
  rw[XH h];unfold fp;rw[XV];simp[h]
theorem NJ {ws:List UInt32} {k:Nat} (h:k<ws.length):((ws.map wD).map C.d)[k]?=some (.d (wD (ws.getD k 0))):=by
  simp[h]
theorem LC (b:List UInt8) (n:Nat):(b.drop (64*n)).drop 64=b.drop (64*(n+1)):=by rw[Yv,Nat.mul_succ]
def tc (s:List UInt32) (b:List UInt8) (n:Nat):St:=⟨aQ [(1,.w (.c (.d (.sl ((b.drop (64*n)).map bD))))),(2,.w (.c (.pa 1 1))),(4,.w (.c (.pa 2 1))),(5,.w (.c .nil))],hL [(1,.row 1 ((dm s b n).map wD)),(2,.row 1 ((List.replicate 8 (0:UInt32)).map wD))],uL [1,2]⟩
def uC:aM := .seq (.seq (.reg [oM 6 1,oO 7 (.len (.t 6)),oO 8 (.bin .geq (.t 7) (kI 64))]) (.cond (.t 8) (.skip) (.exit 0))) (.block 1 (.seq (.reg [oO 9 (.load (.ag 8) (.t 2)),oM 10 1,oO 11 (.slice 1 (.t 10) none (some (kI 64)) none),oO 12 (.call 173 [(.t 9),(.t 11)] none),oN (.store (.ag 8) (.t 2) (.t 12))]) (.reg [oM 13 1,oO 14 (.slice 1 (.t 13) (some (kI 64)) none none),oM 1 14])))
def Cb:aE:=⟨2,17,.seq (.reg [oO 2 (.box .ownArr (.t 0)),oO 4 (.allocArr [(.int .u32 0),(.int .u32 0),(.int .u32 0),(.int .u32 0),(.int .u32 0),(.int .u32 0),(.int .u32 0),(.int .u32 0)]),oO 5 (.mv (.k (.c .nil)))]) (.seq (.block 0 (.loop uC)) (.seq (.reg [oO 15 (.load (.ag 8) (.t 2)),oM 16 1,oN (.store (.ag 8) (.t 4) (.t 15)),oM 5 16]) (.ret))),[(4,(some (.ag 8))),(5,none)]⟩
theorem NK:aC Tryz.prog { own:=[2],comp:=[],frz:=[],nils:=[] } Tryz.f155=some Cb:=by kernel_rfl
theorem EF (G:ah) (hG:G.at 1=some (.ra (bF.map wD))) (s:List UInt32) (b:List UInt8) (hs:s.length=8) (hb:b.length≤140737488355328):ak Tryz.prog G 155 [.agg (s.map wD),.sl (b.map bD)] (.tup [.c (.d (.agg ((dm s b (b.length / 64)).map wD))),.c (.d (.sl ((b.drop (64*(b.length / 64))).map bD)))]):=by
  refine aG Tryz.func155 NK rfl rfl ?_;simp only[Cb,af,wx,aa,seval,iteOmega,toNatUp];refine ba (tc s b) (fun n=>b.length / 64-n) (fun n=>n≤b.length / 64) 0 (WI _) ?_ ?_
  ·refine aw (fun i=>match i with | 1=>16 | _=>32) ?_ ?_ rfl rfl <;> simp only[wx,am,aa,seval,iteOmega,toNatUp,tc,dm];rfl
  ·intro n hn;have hl:=lw hs b n;by_cases hlt:n<b.length / 64
   ·have h1:(64:Int)≤((b.drop (64*n)).length:Int):=by rw[WL]; omega
    have h2:((b.drop (64*n)).take 64).length=64:=by rw[WF,WL]; omega
    have e1:=LC b n;simp only[uC,tc,wx,aa,seval,iteOmega,toNatUp,hl,h1];refine bi (Rp G hG (dm s b n) ((b.drop (64*n)).take 64) hl h2) rfl (.inl rfl) ?_;have e2:(lL (dm s b n) ((b.drop (64*n)).take 64)).length=8:=AK _ _;have e3:(b.drop (64*n)).length-64=((b.drop (64*(n+1)))).length:=by rw[WL,WL]; omega
    simp only[wx,aa,seval,iteOmega,toNatUp,hl,e2,e1,e3];refine aS (n+1) (by omega) (by omega) (aw id ?_ ?_ rfl rfl) <;> simp only[wx,am,aa,seval,iteOmega,toNatUp,dm]
   ·obtain rfl:n=b.length / 64:=by omega
    have h1:¬ (64:Int)≤((b.drop (64*(b.length / 64))).length:Int):=by rw[WL]; omega
    simp only[uC,tc,wx,aa,seval,iteOmega,toNatUp,hl,h1];exact iO (by simp only[wx,aa,seval,iteOmega,toNatUp,hl]) (by simp only[wx,aa,seval,iteOmega,toNatUp])
def yO (ws:List UInt32) (k:Nat):St:=⟨aQ [(9,.w (.c (.own 1 1 0 (fp (ws.take k)).length))),(36,.w (.c (.d (.agg (ws.map wD))))),(37,.w (.c (.d (.int .i64 (k:Int)))))],hL [(1,.row 1 ((fp (ws.take k)).map bD))],uL [1]⟩
def v7:aM := .seq (.reg [oO 38 (.bin .lss (.t 37) (kI 8))]) (.seq (.cond (.t 38) (.skip) (.exit 0)) (.seq (.block 1 (.seq (.reg [oO 39 (.idxArr 1 8 .sc (.t 36) (.t 37)),oM 11 39]) (.reg [oM 40 9,oM 41 11,oO 42 (.conv .u64 (.t 41)),oO 43 (.call 91 [(.t 42),(kI 4)] none),oO 44 (.app false 1 1 (.t 40) (.t 43)),oM 9 44]))) (.reg [oO 45 (.bin .add (.t 37) (kI 1)),oM 37 45])))
def Jj:aE:=⟨3,47,.seq (.reg [oO 3 (.box .ownArr (.t 0)),oO 6 (.mv (.k (.c .nil)))]) (.seq (.reg [oO 12 (.bldSl false 1 1 (.int .u8 0) [(0,(.k (.c (.d (.int .u8 128)))))]),oM 7 12]) (.seq (.reg [oM 13 7,oO 14 (.len (.t 13)),oO 15 (.bin .sub (kI 120) (.t 14)),oM 16 1,oO 17 (.len (.t 16)),oO 18 (.bin .sub (.t 15) (.t 17)),oO 19 (.bin .rem (.t 18) (kI 64)),oM 8 19]) (.seq (.reg [oO 21 (.load (.ag 8) (.t 3)),oM 22 1,oM 23 7,oM 24 8,oO 25 (.call 91 [(.k (.c (.d (.int .u64 0)))),(.t 24)] none),oM 26 2,oO 27 (.conv .u64 (.t 26)),oO 28 (.bin .mul (.t 27) (.k (.c (.d (.int .u64 8))))),oO 29 (.call 91 [(.t 28),(kI 8)] none),oO 30 (.bldSl false 4 1 (.sl []) [(0,(.t 22)),(1,(.t 23)),(2,(.t 25)),(3,(.t 29))]),oO 31 (.call 90 [(.t 30)] none),oO 32 (.call 155 [(.t 21),(.t 31)] none),oM 20 32,oO 33 (.extract (.t 20) 0),
 oO 34 (.extract (.t 20) 1),oN (.store (.ag 8) (.t 3) (.t 33))]) (.seq (.reg [oO 35 (.make true 1 1 (.int .u8 0) (kI 0) (kI 32)),oM 9 35]) (.seq (.seq (.reg [oO 36 (.load (.ag 8) (.t 3)),oO 37 (.mv (kI 0))]) (.block 0 (.loop v7))) (.seq (.reg [oM 46 9,oM 6 46]) (.ret))))))),[(6,none)]⟩
theorem TH:aC Tryz.prog { own:=[3],comp:=[],frz:=[],nils:=[] } Tryz.f156=some Jj:=by kernel_rfl
theorem Vt (G:ah) (hG:G.at 1=some (.ra (bF.map wD))) (s:List UInt32) (rest:List UInt8) (count:Nat) (hs:s.length=8) (hr:rest.length<64) (hc:count≤140737488355328):ak Tryz.prog G 156 [.agg (s.map wD),.sl (rest.map bD),.int .i64 (count:Int)] (.w (.c (.fr 1 ((jp s rest count).map bD)))):=by
  refine aG Tryz.func156 TH rfl rfl ?_;have e3:(119-(rest.length:Int)).tmod 64=(((119-rest.length)%64:Nat):Int):=by
    rw[show (119-(rest.length:Int))=((119-rest.length:Nat):Int) by omega]; rfl
  simp only[Jj,af,ae,aa,seval,iteOmega,toNatUp,hs,e3];have hz:(119-rest.length)%64≤64:=by omega
  refine bi (kK G 0 ((119-rest.length)%64) hz) rfl (.inl rfl) ?_;simp only[ae,aa,seval,iteOmega,toNatUp];refine bi (kK G (count*8) 8 (by decide)) ?_ (.inl rfl) ?_
  ·simp only[ae,aa,seval,iteOmega,toNatUp]
  obtain⟨hp1,hp2⟩:=EE rest count hr;have hp:[rest,[128],aN 0 ((119-rest.length)%64),aN (count*8) 8].flatten=eL rest count:=by
    rw[NI]; simp[eL]
  have hj:=fo G [rest,[128],aN 0 ((119-rest.length)%64),aN (count*8) 8] (by simp) (by rw[hp,hp1]; omega);rw[hp] at hj;simp only[ae,aa,seval,iteOmega,toNatUp];refine bi hj rfl (.inl rfl) ?_;simp only[ae,aa,seval,iteOmega,toNatUp];refine bi (EF G hG s (eL rest count) hs (by rw[hp1]; omega)) rfl (.inl rfl) ?_;have hw:(dm s (eL rest count) ((eL rest count).length / 64)).length=8:=lw hs _ _;have hf:jp s rest count=fp (dm s (eL rest count) ((eL rest count).length / 64)):=rfl;rw[hf];generalize dm s (eL rest count) ((eL rest count).length / 64)=ws at hw;simp only[ae,aa,seval,iteOmega,toNatUp,hs,hw];refine ba (yO ws) (fun k=>8-k) (fun k=>k≤8) 0 (WI _) ?_ ?_
  ·refine aw (fun _=>280) ?_ ?_ rfl rfl <;> simp only[wx,am,aH,aa,seval,iteOmega,toNatUp,fp]
  ·intro k hk;by_cases hlt:k<8
   ·have hw1:(ws.getD k 0).toNat<4294967296:=word_lt _;have hwl:=qo (ws.take k);rw[WF] at hwl;simp only[v7,yO,ae,aa,seval,iteOmega,toNatUp,NJ (show k<ws.length by omega)];refine bi (kK G (ws.getD k 0).toNat 4 (by decide)) ?_ (.inl rfl) ?_
    ·simp only[ae,aa,seval,iteOmega,toNatUp]
    simp only[ae,aa,seval,iteOmega,toNatUp,bI,An ws k (by omega),bW];refine aS (k+1) (by omega) (by omega) (aw (fun _=>352) ?_ ?_ rfl rfl) <;> simp only[wx,am,aH,aa,seval,iteOmega,toNatUp]
   ·obtain rfl:k=8:=by omega
    have:ws.take 8=ws:=WE (by omega);simp only[v7,yO,ae,aa,seval,iteOmega,toNatUp,this];exact eE (id:=1) (n:=(fp ws).length) (s:=1) (by simp only[wx,aa,seval,iteOmega,toNatUp]) (by simp only[wx,aa,seval,iteOmega,toNatUp]) (by rw[WJ])
def Jk:aE:=⟨1,16,.seq (.reg [oO 2 (.mv (.k (.c .nil)))]) (.seq (.reg [oO 6 (.load (.ag 8) (.g 0)),oM 7 0,oO 8 (.call 155 [(.t 6),(.t 7)] none),oM 5 8,oO 9 (.extract (.t 5) 0),oO 10 (.extract (.t 5) 1),oO 3 (.allocArr [(.int .u32 0),(.int .u32 0),(.int .u32 0),(.int .u32 0),(.int .u32 0),(.int .u32 0),(.int .u32 0),(.int .u32 0)]),oN (.store (.ag 8) (.t 3) (.t 9)),oM 4 10]) (.seq (.reg [oO 11 (.load (.ag 8) (.t 3)),oM 12 4,oM 13 0,oO 14 (.len (.t 13)),oO 15 (.call 156 [(.t 11),(.t 12),(.t 14)] (some (0,1))),oM 2 15]) (.ret))),[(2,none)]⟩
theorem TI:aC Tryz.prog { own:=[15],comp:=[],frz:=[],nils:=[] } Tryz.f141=some Jk:=by kernel_rfl
theorem td (G:ah) (hF:G.at 0=some (.ra (cU.map wD))) (hG:G.at 1=some (.ra (bF.map wD))) (b:List UInt8) (hb:b.length≤140737488355328):ak Tryz.prog G 141 [.sl (b.map bD)] (.w (.c (.fr 1 ((cg b).map bD)))):=by
  refine aG Tryz.func141 TI rfl rfl ?_;have eg:=@Lg G 0 _ hF;have hl:(dm cU b (b.length / 64)).length=8:=lw oC _ _;have h8:cU.length=8:=oC;simp only[Jk,af,ae,aa,seval,iteOmega,toNatUp,eg,h8];refine bi (EF G hG cU b oC hb) rfl (.inl rfl) ?_;simp only[ae,aa,seval,iteOmega,toNatUp,hl];refine bi (Vt G hG _ (b.drop (64*(b.length / 64))) b.length hl (by rw[WL]; omega) hb) ?_ (.inl rfl) ?_
  ·simp only[ae,aa,seval,iteOmega,toNatUp]
  simp only[ae,aa,seval,iteOmega,toNatUp];exact eE (id:=120) (n:=(jp (dm cU b (b.length / 64)) (b.drop (64*(b.length / 64))) b.length).length) (s:=1) (by simp only[wx,aa,seval,iteOmega,toNatUp]) (by simp only[wx,aa,seval,iteOmega,toNatUp] <;> rfl) (by rw[WJ]; rfl)
theorem Pu {α:Type} (a:α) (j:Nat):List.replicate j a++[a]=List.replicate (j+1) a:=by rw[List.replicate_succ']
def yP (h:List UInt32) (rest:List UInt8) (count:Nat) (j:Nat):St:=⟨aQ [(0,.w (.c (.d (.sl (h.map wD))))),(2,.w (.c (.d (.int .i64 (count:Int))))),(7,.w (.c (.d (.sl (bF.map wD))))),(8,.w (.c (.own 1 1 0 (rest++[128]++List.replicate j 0).length)))],hL [(1,.row 1 ((rest++[128]++List.replicate j 0).map bD))],uL [1]⟩
def yQ (h:List UInt32) (p:List UInt8) (n:Nat):St:=⟨aQ [(0,.w (.c (.d (.sl ((dm h p n).map wD))))),(7,.w (.c (.d (.sl (bF.map wD))))),(8,.w (.c (.own 1 1 0 p.length))),(9,.w (.c (.d (.int .i64 ((64*n:Nat):Int)))))],hL [(1,.row 1 (p.map bD))],uL [1]⟩
def yR (ws:List UInt32) (k:Nat):St:=⟨aQ [(0,.w (.c (.d (.sl (ws.map wD))))),(10,.w (.c (.own 1 1 0 (fp (ws.take k)).length))),(11,.w (.c (.d (.int .i64 (k:Int)))))],hL [(1,.row 1 ((fp (ws.take k)).map bD))],uL [1]⟩
theorem TJ {ws:List UInt32} {k:Nat} (h:k<ws.length):(ws.map wD)[k]?=some (wD (ws.getD k 0)):=by
  simp[h]
theorem Vu:D.int .u8 0=bD 0:=rfl
theorem Rq:D.int .u8 128=bD 128:=rfl
theorem KC (l:List UInt8) (a:UInt8):l.map bD++[bD a]=(l++[a]).map bD:=by simp
def vm:aM := .seq (.seq (.reg [oM 18 8,oO 19 (.len (.t 18)),oO 20 (.bin .rem (.t 19) (kI 64)),oO 21 (.bin .neq (.t 20) (kI 56))]) (.cond (.t 21) (.skip) (.exit 0))) (.block 1 (.reg [oM 22 8,oO 23 (.bldSl false 1 1 (.int .u8 0) [(0,(.k (.c (.d (.int .u8 0)))))]),oO 24 (.app false 1 1 (.t 22) (.t 23)),oM 8 24]))
def vn:aM := .seq (.seq (.reg [oM 31 9,oM 32 8,oO 33 (.len (.t 32)),oO 34 (.bin .lss (.t 31) (.t 33))]) (.cond (.t 34) (.skip) (.exit 2))) (.seq (.block 3 (.reg [oM 37 0,oM 38 7,oM 39 8,oM 40 9,oM 41 9,oO 42 (.bin .add (.t 41) (kI 64)),oO 43 (.slice 1 (.t 39) (some (.t 40)) (some (.t 42)) none),oO 44 (.call 119 [(.t 37),(.t 38),(.t 43)] none),oM 0 44])) (.reg [oM 35 9,oO 36 (.bin .add (.t 35) (kI 64)),oM 9 36]))
def vp:aM := .seq (.seq (.reg [oM 46 11,oO 47 (.bin .lss (.t 46) (kI 8))]) (.cond (.t 47) (.skip) (.exit 4))) (.seq (.block 5 (.reg [oM 50 10,oM 51 0,oM 52 11,oO 53 (.idxSl 1 (.t 51) (.t 52)),oO 54 (.load .sc (.t 53)),oO 55 (.conv .u64 (.t 54)),oO 56 (.call 44 [(.t 55),(kI 4)] none),oO 57 (.app false 1 1 (.t 50) (.t 56)),oM 10 57])) (.reg [oM 48 11,oO 49 (.bin .add (.t 48) (kI 1)),oM 11 49]))
def GT:aE:=⟨3,59,.seq (.reg [oO 6 (.mv (.k (.c .nil)))]) (.seq (.reg [oO 12 (.call 118 [] none),oM 7 12]) (.seq (.reg [oM 13 1,oO 14 (.bldSl false 1 1 (.sl []) [(0,(.t 13))]),oO 15 (.call 43 [(.t 14)] (some (0,1))),oO 16 (.bldSl false 1 1 (.int .u8 0) [(0,(.k (.c (.d (.int .u8 128)))))]),oO 17 (.app false 1 1 (.t 15) (.t 16)),oM 8 17]) (.seq (.block 0 (.loop vm)) (.seq (.reg [oM 25 8,oM 26 2,oO 27 (.conv .u64 (.t 26)),oO 28 (.bin .mul (.t 27) (.k (.c (.d (.int .u64 8))))),oO 29 (.call 44 [(.t 28),(kI 8)] none),oO 30 (.app false 1 1 (.t 25) (.t 29)),oM 8 30]) (.seq (.seq (.reg [oO 9 (.mv (kI 0))]) (.block 2 (.loop vn))) (.seq (.reg [oO 45 (.bldSl true 0 1 (.int .u8 0) []),oM 10 45]) (.seq (.seq (.reg [oO 11 (.mv (kI 0))]) (.block 4 (.loop vp))) (.seq (.reg [oM 58 10,
 oM 6 58]) (.ret))))))))),[(6,none)]⟩
theorem Rr:aC Tryz.prog { own:=[15,45],comp:=[],frz:=[],nils:=[] } Tryz.f120=some GT:=by kernel_rfl
theorem TK (G:ah) (s:List UInt32) (rest:List UInt8) (count:Nat) (hs:s.length=8) (hr:rest.length<64) (hc:count≤140737488355328):ak Tryz.prog G 120 [.sl (s.map wD),.sl (rest.map bD),.int .i64 (count:Int)] (.w (.c (.fr 1 ((jp s rest count).map bD)))):=by
  refine aG Tryz.func120 Rr rfl rfl ?_;have hj:=kA G [rest] (by simp) (by simp; omega);have hf:[rest].flatten=rest:=by simp
  rw[hf] at hj;obtain⟨hp1,hp2⟩:=EE rest count hr;simp only[GT,af,ae,aa,seval,iteOmega,toNatUp];refine bi (I9 G) rfl (.inl rfl) ?_;simp only[ae,aa,seval,iteOmega,toNatUp];refine bi hj rfl (.inl rfl) ?_;simp only[ae,aa,seval,iteOmega,toNatUp,bI,Rq,KC];refine ba (yP s rest count) (fun j=>(119-rest.length)%64-j) (fun j=>j≤(119-rest.length)%64) 0 (WI _) ?_ ?_
  ·refine aw (fun _=>136) ?_ ?_ rfl rfl <;> simp only[wx,am,aH,aa,seval,iteOmega,toNatUp]
  ·intro j hj;have hl:(rest++[128]++List.replicate j 0).length=rest.length+1+j:=by simp; omega
   have ht:((rest++[128]++List.replicate j 0).length:Int).tmod 64=(((rest.length+1+j)%64:Nat):Int):=by rw[hl]; rfl
   by_cases hlt:j<(119-rest.length)%64
   ·have e1:rest++[128]++List.replicate j 0++[0]=rest++[128]++List.replicate (j+1) 0:=by
      rw[W7,Pu]
    generalize hx:rest++[128]++List.replicate j 0=x at *
    simp only[vm,yP,hx,ae,aa,seval,iteOmega,toNatUp,ht,bI,Vu,KC,e1];refine aS (j+1) (by omega) (by omega) (aw (fun _=>192) ?_ ?_ rfl rfl) <;> simp only[wx,am,aH,aa,seval,iteOmega,toNatUp]
   ·obtain rfl:j=(119-rest.length)%64:=by omega
    generalize hx:rest++[128]++List.replicate ((119-rest.length)%64) 0=x at *
    simp only[vm,yP,hx,ae,aa,seval,iteOmega,toNatUp,ht];refine bi (pf G (count*8) 8 (by decide)) ?_ (.inl rfl) ?_
    ·simp only[ae,aa,seval,iteOmega,toNatUp]
    have hx2:x++aN (count*8) 8=eL rest count:=by rw[← hx]; rfl
    simp only[ae,aa,seval,iteOmega,toNatUp,bI,jD,hx2,bW];refine ba (yQ s (eL rest count)) (fun n=>(eL rest count).length / 64-n) (fun n=>n≤(eL rest count).length / 64) 0 (WI _) ?_ ?_
    ·refine aw (fun _=>240) ?_ ?_ rfl rfl <;> simp only[wx,am,aH,aa,seval,iteOmega,toNatUp,dm]
    ·generalize hpk:eL rest count=p at *
     intro n hn;have hl8:=lw hs p n;by_cases hlt:n<p.length / 64
     ·have h2:((p.drop (64*n)).take 64).length=64:=by rw[WF,WL]; omega
      have e1:64*n+64-64*n=64:=by omega
      simp only[vn,yQ,ae,aa,seval,iteOmega,toNatUp];refine bi (ED G (dm s p n) ((p.drop (64*n)).take 64) hl8 h2) ?_ (.inr (Wg _ _)) ?_
      ·simp only[ae,aa,seval,iteOmega,toNatUp,cW,e1]
      simp only[ae,aa,seval,iteOmega,toNatUp];have e2:64*(n:Int)+64=64*((n:Int)+1):=by omega
      refine aS (n+1) (by omega) (by omega) (aw id ?_ ?_ rfl rfl) <;> simp only[wx,am,aH,aa,seval,iteOmega,toNatUp,dm,e2]
     ·obtain rfl:n=p.length / 64:=by omega
      have hfk:jp s rest count=fp (dm s p (p.length / 64)):=by unfold jp; rw[hpk]
      rw[hfk];simp only[yQ];generalize dm s p (p.length / 64)=ws at hl8;have h64:¬ ((64*(p.length / 64):Nat):Int)<(p.length:Int):=by omega
      simp only[vn,ae,aa,seval,iteOmega,toNatUp,h64];refine ba (yR ws) (fun k=>8-k) (fun k=>k≤8) 0 (WI _) ?_ ?_
      ·refine aw (fun _=>360) ?_ ?_ rfl rfl <;> simp only[wx,am,aH,aa,seval,iteOmega,toNatUp,fp]
      ·intro k hk;by_cases hlt:k<8
       ·have hw1:(ws.getD k 0).toNat<4294967296:=word_lt _;have hwl:=qo (ws.take k);rw[WF] at hwl;simp only[vp,yR,ae,aa,seval,iteOmega,toNatUp,TJ (show k<ws.length by omega)];refine bi (pf G (ws.getD k 0).toNat 4 (by decide)) ?_ (.inl rfl) ?_
        ·simp only[ae,aa,seval,iteOmega,toNatUp]
        simp only[ae,aa,seval,iteOmega,toNatUp,bI,An ws k (by omega),bW];refine aS (k+1) (by omega) (by omega) (aw (fun _=>456) ?_ ?_ rfl rfl) <;> simp only[wx,am,aH,aa,seval,iteOmega,toNatUp]
       ·obtain rfl:k=8:=by omega
        have:ws.take 8=ws:=WE (by omega);simp only[vp,yR,ae,aa,seval,iteOmega,toNatUp,this];exact eE (id:=1) (n:=(fp ws).length) (s:=1) (by simp only[wx,aa,seval,iteOmega,toNatUp]) (by simp only[wx,aa,seval,iteOmega,toNatUp]) (by rw[WJ])
def zB (b:List UInt8) (n:Nat):St:=⟨aQ [(0,.w (.c (.d (.sl (b.map bD))))),(3,.w (.c (.d (.sl ((dm cU b n).map wD))))),(4,.w (.c (.d (.sl (bF.map wD))))),(5,.w (.c (.d (.int .i64 ((64*(b.length / 64):Nat):Int))))),(6,.w (.c (.d (.int .i64 ((64*n:Nat):Int)))))],hL [],uL []⟩
def vq:aM := .seq (.seq (.reg [oM 13 6,oM 14 5,oO 15 (.bin .lss (.t 13) (.t 14))]) (.cond (.t 15) (.skip) (.exit 0))) (.seq (.block 1 (.reg [oM 18 3,oM 19 4,oM 20 0,oM 21 6,oM 22 6,oO 23 (.bin .add (.t 22) (kI 64)),oO 24 (.slice 1 (.t 20) (some (.t 21)) (some (.t 23)) none),oO 25 (.call 119 [(.t 18),(.t 19),(.t 24)] none),oM 3 25])) (.reg [oM 16 6,oO 17 (.bin .add (.t 16) (kI 64)),oM 6 17]))
def GU:aE:=⟨1,33,.seq (.reg [oO 2 (.mv (.k (.c .nil)))]) (.seq (.reg [oO 7 (.call 117 [] none),oO 8 (.call 118 [] none),oM 3 7,oM 4 8]) (.seq (.reg [oM 9 0,oO 10 (.len (.t 9)),oO 11 (.bin .quo (.t 10) (kI 64)),oO 12 (.bin .mul (.t 11) (kI 64)),oM 5 12]) (.seq (.seq (.reg [oO 6 (.mv (kI 0))]) (.block 0 (.loop vq))) (.seq (.reg [oM 26 3,oM 27 0,oM 28 5,oO 29 (.slice 1 (.t 27) (some (.t 28)) none none),oM 30 0,oO 31 (.len (.t 30)),oO 32 (.call 120 [(.t 26),(.t 29),(.t 31)] (some (0,1))),oM 2 32]) (.ret))))),[(2,none)]⟩
theorem Rs:aC Tryz.prog { own:=[32],comp:=[],frz:=[],nils:=[] } Tryz.f84=some GU:=by kernel_rfl
theorem pw (G:ah) (b:List UInt8) (hb:b.length≤140737488355328):ak Tryz.prog G 84 [.sl (b.map bD)] (.w (.c (.fr 1 ((cg b).map bD)))):=by
  refine aG Tryz.func84 Rs rfl rfl ?_;have e1:(b.length:Int).tdiv 64=((b.length / 64:Nat):Int):=rfl;have e2:((b.length / 64:Nat):Int)*64=((64*(b.length / 64):Nat):Int):=by omega
  have e3:IntKind.i64.wrap ((64*(b.length / 64):Nat):Int)=((64*(b.length / 64):Nat):Int):=IntWalk.i64_in _ (by omega);have e4:IntKind.i64.wrap ((b.length / 64:Nat):Int)=((b.length / 64:Nat):Int):=IntWalk.i64_in _ (by omega);simp only[GU,af,wx,wy,aa,seval,iteOmega,toNatUp];refine bi (TG G) rfl (.inl rfl) ?_;simp only[wx,wy,aa,seval,iteOmega,toNatUp];refine bi (I9 G) rfl (.inl rfl) ?_;simp only[wx,wy,aa,seval,iteOmega,toNatUp,e1,e2,e3,e4];refine ba (zB b) (fun n=>b.length / 64-n) (fun n=>n≤b.length / 64) 0 (WI _) ?_ ?_
  ·refine aw id ?_ ?_ rfl rfl <;> simp only[wx,am,aa,seval,iteOmega,toNatUp,dm]
  ·intro n hn;have hl8:=lw oC b n;by_cases hlt:n<b.length / 64
   ·have h2:((b.drop (64*n)).take 64).length=64:=by rw[WF,WL]; omega
    have e1:64*n+64-64*n=64:=by omega
    have e5:IntKind.i64.wrap (((64*n:Nat):Int)+64)=((64*(n+1):Nat):Int):=by rw[IntWalk.i64_in _ (by omega)]; omega
    have e6:64*(n+1)-64*n=64:=by omega
    simp only[vq,zB,wx,wy,aa,seval,iteOmega,toNatUp,e1,e5,e6];refine bi (ED G (dm cU b n) ((b.drop (64*n)).take 64) hl8 h2) ?_ (.inl rfl) ?_
    ·simp only[wx,wy,aa,seval,iteOmega,toNatUp]
    simp only[wx,wy,aa,seval,iteOmega,toNatUp,e5];refine aS (n+1) (by omega) (by omega) (aw id ?_ ?_ rfl rfl) <;> simp only[wx,am,aa,seval,iteOmega,toNatUp,dm]
   ·obtain rfl:n=b.length / 64:=by omega
    have e1:List.take (b.length-64*(b.length / 64)) (b.drop (64*(b.length / 64)))=b.drop (64*(b.length / 64)):=WE (by rw[WL]; exact WM _);simp only[vq,zB,wx,wy,aa,seval,iteOmega,toNatUp,e1];refine bi (TK G (dm cU b (b.length / 64)) (b.drop (64*(b.length / 64))) b.length hl8 (by rw[WL]; omega) hb) ?_ (.inl rfl) ?_
    ·simp only[wx,wy,aa,seval,iteOmega,toNatUp]
    simp only[wx,wy,aa,seval,iteOmega,toNatUp];exact eE (id:=256) (n:=(jp (dm cU b (b.length / 64)) (b.drop (64*(b.length / 64))) b.length).length) (s:=1) (by simp only[wx,aa,seval,iteOmega,toNatUp]) (by simp only[wx,aa,seval,iteOmega,toNatUp] <;> rfl) (by rw[WJ]; rfl)

def jc (v m:Int):Int:=if m<1 then 0 else v%m
theorem LF (v m:Int) (h:1≤m):0≤jc v m∧jc v m<m:=by
  unfold jc;rw[if_neg (by omega)];exact⟨Int.emod_nonneg _ (by omega),Int.emod_lt_of_pos _ (by omega)⟩
theorem Pv {v m:Int} (hm:0<m) (h:v.tmod m<0):v.tmod m+m=v%m:=by
  have h1:=Int.emod_add_mul_ediv v m;have h2:=Int.tmod_add_mul_tdiv v m;have h3:=Int.emod_nonneg v (show m≠0 by omega);have h4:=Int.emod_lt_of_pos v hm;have h5:=Int.lt_tmod_of_pos v hm;have e:m*(v.tdiv m-v / m)=v%m-v.tmod m:=by rw[Int.mul_sub]; omega
  have k1:v.tdiv m-v / m=1:=by
    rcases Int.lt_trichotomy (v.tdiv m-v / m) 1 with hlt | heq | hgt
    ·exfalso;have:v.tdiv m-v / m≤0:=by omega
     have:=Yh this (show 0≤m by omega);omega
    ·exact heq
    ·exfalso;have:2≤v.tdiv m-v / m:=by omega
     have:=Yh this (show 0≤m by omega);omega
  rw[k1] at e;omega
theorem Pw {v m:Int} (hm:0<m) (h:0≤v.tmod m):v.tmod m=v%m:=by
  have h1:=Int.emod_add_mul_ediv v m;have h2:=Int.tmod_add_mul_tdiv v m;have h3:=Int.emod_nonneg v (show m≠0 by omega);have h4:=Int.emod_lt_of_pos v hm;have h5:=Int.tmod_lt_of_pos v hm;have e:m*(v.tdiv m-v / m)=v%m-v.tmod m:=by rw[Int.mul_sub]; omega
  have k1:v.tdiv m-v / m=0:=by
    rcases Int.lt_trichotomy (v.tdiv m-v / m) 0 with hlt | heq | hgt
    ·exfalso;have:v.tdiv m-v / m ≤ -1:=by omega
     have:=Yh this (show 0≤m by omega);omega
    ·exact heq
    ·exfalso;have:1≤v.tdiv m-v / m:=by omega
     have:=Yh this (show 0≤m by omega);omega
  rw[k1] at e;omega
def qF:aE:=⟨2,16,.seq (.reg [oO 4 (.mv (kI 0))]) (.seq (.seq (.reg [oM 5 1,oO 6 (.bin .lss (.t 5) (kI 1))]) (.cond (.t 6) (.seq (.reg [oO 4 (.mv (kI 0))]) (.ret)) (.skip))) (.seq (.reg [oM 7 0,oM 8 1,oO 9 (.bin .rem (.t 7) (.t 8)),oM 0 9]) (.seq (.seq (.reg [oM 10 0,oO 11 (.bin .lss (.t 10) (kI 0))]) (.cond (.t 11) (.reg [oM 12 0,oM 13 1,oO 14 (.bin .add (.t 12) (.t 13)),oM 0 14]) (.skip))) (.seq (.reg [oM 15 0,oM 4 15]) (.ret))))),[(4,none)]⟩
theorem NL:aC Tryz.prog { own:=[],comp:=[],frz:=[],nils:=[] } Tryz.f24=some qF:=by kernel_rfl
theorem EG (G:ah) (v m:Int) (hm:m≤9223372036854775807):ak Tryz.prog G 24 [.int .i64 v,.int .i64 m] (.w (.c (.d (.int .i64 (jc v m))))):=by
  refine aG Tryz.func24 NL rfl rfl ?_;unfold jc;by_cases h:m<1
  ·rw[if_pos h];simp only[qF,af,ae,aa,seval,iteOmega,toNatUp];exact aI
  ·rw[if_neg h];have hne:¬ m=0:=by omega
   have h4:=Int.tmod_lt_of_pos v (show 0<m by omega);by_cases hn:v.tmod m<0
   ·have e:=Pv (by omega) hn;have h3:=Int.emod_lt_of_pos v (show 0<m by omega);have h5:=Int.emod_nonneg v (show m≠0 by omega);simp only[qF,af,ae,aa,seval,iteOmega,toNatUp,hne];exact lH (by simp only[ae,aa,seval,iteOmega,toNatUp,e])
   ·have e:=Pw (v:=v) (show 0<m by omega) (by omega);simp only[qF,af,ae,aa,seval,iteOmega,toNatUp,hne];exact lH (by simp only[ae,aa,seval,iteOmega,toNatUp,e])
def xR (s i:Nat):List UInt8:=cg (aN s 8++aN i 4)
def ie (s:Nat) (k:Nat):List UInt8:=((List.range k).map (xR s)).flatten
theorem Ao (s k:Nat):ie s k++xR s k=ie s (k+1):=by simp[ie,Ye]
theorem qp (s:Nat):∀ k,(ie s k).length=32*k
  | 0=>rfl
  | k+1=>by rw[← Ao,WA,qp s k]; unfold xR; rw[fT]; omega
def bu (seed n:Int):List UInt8:=(ie (seed%18446744073709551616).toNat ((n.toNat+31) / 32)).take n.toNat
theorem oD (seed n:Int):(bu seed n).length=n.toNat:=by
  unfold bu; rw[WF,qp]; omega
def te (seed n:Int) (s:Nat) (k:Nat):St:=⟨aQ [(0,.w (.c (.d (.int .i64 seed)))),(1,.w (.c (.d (.int .i64 n)))),(5,.w (.c (.own 1 1 0 (ie s k).length))),(6,.w (.c (.d (.int .i64 (k:Int)))))],hL [(1,.row 1 ((ie s k).map bD))],uL [1]⟩
def qm:aM := .seq (.seq (.reg [oM 8 5,oO 9 (.len (.t 8)),oM 10 1,oO 11 (.bin .lss (.t 9) (.t 10))]) (.cond (.t 11) (.skip) (.exit 0))) (.seq (.block 1 (.reg [oM 14 5,oM 15 0,oO 16 (.conv .u64 (.t 15)),oO 17 (.call 44 [(.t 16),(kI 8)] none),oM 18 6,oO 19 (.conv .u64 (.t 18)),oO 20 (.call 44 [(.t 19),(kI 4)] none),oO 21 (.bldSl false 2 1 (.sl []) [(0,(.t 17)),(1,(.t 20))]),oO 22 (.call 43 [(.t 21)] none),oO 23 (.call 84 [(.t 22)] none),oO 24 (.app false 1 1 (.t 14) (.t 23)),oM 5 24])) (.reg [oM 12 6,oO 13 (.bin .add (.t 12) (kI 1)),oM 6 13]))
def Cc:aE:=⟨2,29,.seq (.reg [oO 4 (.mv (.k (.c .nil)))]) (.seq (.reg [oO 7 (.bldSl true 0 1 (.int .u8 0) []),oM 5 7]) (.seq (.seq (.reg [oO 6 (.mv (kI 0))]) (.block 0 (.loop qm))) (.seq (.reg [oM 25 5,oM 26 1,oO 27 (.max [(.t 26),(kI 0)]),oO 28 (.slice 1 (.t 25) none (some (.t 27)) none),oM 4 28]) (.ret)))),[(4,none)]⟩
theorem NM:aC Tryz.prog { own:=[7],comp:=[],frz:=[],nils:=[] } Tryz.f35=some Cc:=by kernel_rfl
set_option maxHeartbeats 1600000 in
theorem Px (G:ah) (seed n:Int) (hn:n≤1099511627776):ak Tryz.prog G 35 [.int .i64 seed,.int .i64 n] (.w (.c (.fr 1 ((bu seed n).map bD)))):=by
  refine aG Tryz.func35 NM rfl rfl ?_;obtain⟨s,hs⟩:∃ s:Nat,(seed%18446744073709551616).toNat=s:=⟨_,rfl⟩
  have hw:IntKind.u64.wrap seed=(s:Int):=by rw[IntKind.wrap_u64,← hs]; omega
  have hs2:s<18446744073709551616:=by omega
  have hK:bu seed n=(ie s ((n.toNat+31) / 32)).take n.toNat:=by unfold bu; rw[hs]
  rw[hK];simp only[Cc,af,ae,aa,seval,iteOmega,toNatUp];refine ba (te seed n s) (fun k=>(n.toNat+31) / 32-k) (fun k=>k≤(n.toNat+31) / 32) 0 (WI _) ?_ ?_
  ·refine aw (fun _=>56) ?_ ?_ rfl rfl <;> simp only[wx,am,aH,aa,seval,iteOmega,toNatUp] <;> rfl
  ·intro k hk;have hl:=qp s k;by_cases hlt:k<(n.toNat+31) / 32
   ·have hc:((ie s k).length:Int)<n:=by omega
    have hj:=kA G [aN s 8,aN k 4] (by simp) (by simp[bW]);have hf:[aN s 8,aN k 4].flatten=aN s 8++aN k 4:=by simp
    rw[hf] at hj;have hb:=Ao s k;have hk2:IntKind.u64.wrap (k:Int)=(k:Int):=u64_in _ (by omega) (by omega);simp only[qm,te,wx,wy,aa,seval,iteOmega,toNatUp,hw,hk2];refine bi (pf G s 8 (by decide)) rfl (.inl rfl) ?_;simp only[wx,wy,aa,seval,iteOmega,toNatUp,hw,hk2];refine bi (pf G k 4 (by decide)) rfl (.inl rfl) ?_;simp only[wx,wy,aa,seval,iteOmega,toNatUp];refine bi hj rfl (.inl rfl) ?_;simp only[wx,wy,aa,seval,iteOmega,toNatUp];refine bi (pw G (aN s 8++aN k 4) (by simp[bW])) rfl (.inl rfl) ?_;have hh:(cg (aN s 8++aN k 4)).length=32:=fT _;have hb':ie s k++cg (aN s 8++aN k 4)=ie s (k+1):=hb;simp only[ae,aa,seval,iteOmega,toNatUp,bI,jD,hb',hh];refine aS (k+1) (by omega) (by omega) (aw (fun _=>192) ?_ ?_ rfl rfl) <;> simp only[wx,am,aH,aa,seval,iteOmega,toNatUp]
   ·obtain rfl:k=(n.toNat+31) / 32:=by omega
    have hc:¬ ((ie s ((n.toNat+31) / 32)).length:Int)<n:=by omega
    by_cases h0:n<0
    ·have e0:n.toNat=0:=by omega
     simp only[qm,te,ae,aa,seval,iteOmega,toNatUp,hc,XX,List.foldl_nil];rw[e0,List.map_take];exact DV (id:=1) (s:=1) (by simp only[wx,aa,seval,iteOmega,toNatUp]) (by simp only[wx,aa,seval,iteOmega,toNatUp]) (WI _)
    ·simp only[qm,te,ae,aa,seval,iteOmega,toNatUp,hc,XX,List.foldl_nil];rw[List.map_take];exact DV (id:=1) (s:=1) (by simp only[wx,aa,seval,iteOmega,toNatUp]) (by simp only[wx,aa,seval,iteOmega,toNatUp]) (by rw[WJ,qp]; omega)
theorem q8 (G:ah) (seed n:Int) (hn:n≤1099511627776):ak Tryz.prog G 35 [.int .i64 seed,.int .i64 n] (.w (.c (.d (.sl ((bu seed n).map bD))))):=kH (Px G seed n hn)
def mc (key:List UInt8):List UInt8:=if 64<key.length then cg key else key
def ej (k:List UInt8):List UInt8:=k++List.replicate (64-k.length) 0
def iU (key:List UInt8):List UInt8:=ej (mc key)
def bP (key:List UInt8) (x:UInt8):List UInt8:=(iU key).map fun b=>ar b x
def gz (key b:List UInt8):List UInt8:=cg (bP key 92++cg (bP key 54++b))
def dN (key info:List UInt8):Nat→List UInt8
  | 0=>[]
  | i+1=>gz key (dN key info i++info++[UInt8.ofNat (i+1)])
def fY (key info:List UInt8):Nat→List UInt8
  | 0=>[]
  | i+1=>fY key info i++dN key info (i+1)
def gA (key info:List UInt8) (n:Nat):List UInt8:=(fY key info ((n+31) / 32)).take n
def ka (p n c:List UInt8):List UInt8:=p++[0]++n++[0]++cg c
theorem Py (key:List UInt8):(mc key).length≤64:=by
  unfold mc; split
  ·rw[fT]; decide
  ·omega
theorem jy {k:List UInt8} (h:k.length≤64):(ej k).length=64:=by
  simp[ej]; omega
theorem EH (key:List UInt8):(iU key).length=64:=jy (Py key)
theorem kv (key:List UInt8) (x:UInt8):(bP key x).length=64:=by
  rw[bP,WJ,EH]
theorem mJ (key b:List UInt8):(gz key b).length=32:=fT _
theorem Cd (key info:List UInt8):∀ i,(dN key info i).length≤32
  | 0=>by simp[dN]
  | i+1=>by rw[dN,mJ]; exact WM _
theorem mK (key info:List UInt8):∀ i,(fY key info i).length=32*i
  | 0=>rfl
  | i+1=>by rw[fY,WA,mK key info i,dN,mJ]; omega
theorem v8 (key info:List UInt8) (n:Nat):(gA key info n).length=n:=by
  rw[gA,WF,mK]; omega
theorem Pz (p n c:List UInt8):(ka p n c).length=p.length+n.length+34:=by
  simp[ka,fT]; omega
theorem EI {k:List UInt8} (l:List D) (hl:l=List.replicate 64 (D.int .u8 0)):k.map bD++l.drop k.length=(ej k).map bD:=by
  subst hl;unfold ej;rw[List.drop_replicate,Xc,yx]
theorem EJ {k:List UInt8} (hk:k.length≤64) (l:List D) (hl:l=List.replicate 64 (D.int .u8 0)):k.length+(l.drop k.length).length=64:=by
  subst hl;rw[List.drop_replicate,WY]; omega
def v9:aE:=⟨1,13,.seq (.reg [oO 2 (.allocArr [(.int .u8 0),(.int .u8 0),(.int .u8 0),(.int .u8 0),(.int .u8 0),(.int .u8 0),(.int .u8 0),(.int .u8 0),(.int .u8 0),(.int .u8 0),(.int .u8 0),(.int .u8 0),(.int .u8 0),(.int .u8 0),(.int .u8 0),(.int .u8 0),(.int .u8 0),(.int .u8 0),(.int .u8 0),(.int .u8 0),(.int .u8 0),(.int .u8 0),(.int .u8 0),(.int .u8 0),(.int .u8 0),(.int .u8 0),(.int .u8 0),(.int .u8 0),(.int .u8 0),(.int .u8 0),(.int .u8 0),(.int .u8 0),(.int .u8 0),(.int .u8 0),(.int .u8 0),(.int .u8 0),(.int .u8 0),(.int .u8 0),(.int .u8 0),(.int .u8 0),(.int .u8 0),(.int .u8 0),(.int .u8 0),(.int .u8 0),(.int .u8 0),(.int .u8 0),(.int .u8 0),(.int .u8 0),(.int .u8 0),(.int .u8 0),(.int .u8 0),(.int .u8 0),(.int .u8 0),(.int .u8 0),(.int .u8 0),(.int .u8 0),(.int .u8 0),(.int .u8 0),(.int .u8 0),(.int .u8 0),(.int .u8 0),(.int .u8 0),(.int .u8 0),(.int .u8 0)])])
 (.seq (.seq (.reg [oM 4 0,oO 5 (.len (.t 4)),oO 6 (.bin .gtr (.t 5) (kI 64))]) (.cond (.t 6) (.reg [oM 7 0,oO 8 (.call 141 [(.t 7)] none),oM 0 8]) (.skip))) (.seq (.reg [oO 3 (.allocArr [(.int .u8 0),(.int .u8 0),(.int .u8 0),(.int .u8 0),(.int .u8 0),(.int .u8 0),(.int .u8 0),(.int .u8 0),(.int .u8 0),(.int .u8 0),(.int .u8 0),(.int .u8 0),(.int .u8 0),(.int .u8 0),(.int .u8 0),(.int .u8 0),(.int .u8 0),(.int .u8 0),(.int .u8 0),(.int .u8 0),(.int .u8 0),(.int .u8 0),(.int .u8 0),(.int .u8 0),(.int .u8 0),(.int .u8 0),(.int .u8 0),(.int .u8 0),(.int .u8 0),(.int .u8 0),(.int .u8 0),(.int .u8 0),(.int .u8 0),(.int .u8 0),(.int .u8 0),(.int .u8 0),(.int .u8 0),(.int .u8 0),(.int .u8 0),(.int .u8 0),(.int .u8 0),(.int .u8 0),(.int .u8 0),(.int .u8 0),(.int .u8 0),(.int .u8 0),(.int .u8 0),(.int .u8 0),(.int .u8 0),(.int .u8 0),(.int .u8 0),(.int .u8 0),(.int .u8 0),(.int .u8 0),(.int .u8 0),(.int .u8 0),(.int .u8 0),(.int .u8 0),(.int .u8 0),(.int .u8 0),(.int .u8 0),(.int .u8 0),(.int .u8 0),(.int .u8 0)])])
 (.seq (.reg [oO 9 (.sliceArr 1 64 (.t 3) none none),oM 10 0,oO 11 (.copy 1 (.t 9) (.t 10))]) (.seq (.reg [oO 12 (.load (.ag 64) (.t 3)),oN (.store (.ag 64) (.t 2) (.t 12))]) (.ret))))),[(2,(some (.ag 64)))]⟩
theorem PC:aC Tryz.prog { own:=[],comp:=[],frz:=[],nils:=[] } Tryz.f140=some v9:=by kernel_rfl
theorem Ru (G:ah) (hF:G.at 0=some (.ra (cU.map wD))) (hG:G.at 1=some (.ra (bF.map wD))) (key:List UInt8) (hb:key.length≤140737488355328):ak Tryz.prog G 140 [.sl (key.map bD)] (.w (.c (.d (.agg ((iU key).map bD))))):=by
  refine aG Tryz.func140 PC rfl rfl ?_;by_cases h:64<key.length
  ·have e:iU key=ej (cg key):=by unfold iU mc; rw[if_pos h]
   have hl:=fT key;rw[e];simp only[v9,af,ae,aa,seval,iteOmega,toNatUp];refine sD (td G hF hG key hb) ?_;generalize cg key=s at *
   have z:=EI (k:=s);have z2:=EJ (k:=s) (by omega);have ht:s.take 64=s:=WE (by omega);have hf:(ej s).length=64:=jy (by omega);simp only[ae,aa,seval,iteOmega,toNatUp,ht,z,z2,hf];exact lH (by simp only[ae,aa,seval,iteOmega,toNatUp,hf])
  ·have e:iU key=ej key:=by unfold iU mc; rw[if_neg h]
   rw[e];have z:=EI (k:=key);have z2:=EJ (k:=key) (by omega);have ht:key.take 64=key:=WE (by omega);have hf:(ej key).length=64:=jy (by omega);simp only[v9,af,ae,aa,seval,iteOmega,toNatUp,ht,z,z2,hf];exact lH (by simp only[ae,aa,seval,iteOmega,toNatUp,hf])
def gM (l:List UInt8) (m:UInt8) (i:Nat):List UInt8:=(l.take i).map (fun b=>ar b m)++l.drop i
theorem NN (l:List UInt8) (m:UInt8) (i:Nat):(gM l m i).length=l.length:=by
  unfold gM; rw[WA,WJ,← WA,Xg]
theorem NO (l:List UInt8) (m:UInt8) (i:Nat) (h:i<l.length):(gM l m i)[i]?=some l[i]:=by
  unfold gM;rw[Xb (by rw[WJ,WF]; omega),Xp,WJ,WF];rw[show i+(i-min i l.length)=i by omega,Wz h]
theorem Mu (l:List UInt8) (m:UInt8) (i:Nat) (h:i<l.length):(gM l m i).set i (ar l[i] m)=gM l m (i+1):=by
  unfold gM;rw[Yo _ _ (by rw[WJ,WF]; omega),WJ,WF,show i-min i l.length=0 by omega,List.drop_eq_getElem_cons h,List.set_cons_zero,XH h,Xc,W7];rfl
theorem Mv (l:List UInt8) (m:UInt8):gM l m 0=l:=by simp[gM]
theorem Mw (l:List UInt8) (m:UInt8) (i:Nat) (h:l.length≤i):gM l m i=l.map fun b=>ar b m:=by
  unfold gM;rw[WE h,XC h,WS]
def xS (l:List UInt8) (m:UInt8) (i:Nat):St:=⟨aQ [(1,.w (.c (.d (bD m)))),(2,.w (.c (.pa 1 1))),(6,.w (.c (.d (.int .i64 (i:Int)))))],hL [(1,.row 1 ((gM l m i).map bD))],uL [1]⟩
def uD:aM := .seq (.reg [oO 7 (.bin .lss (.t 6) (kI 64))]) (.seq (.cond (.t 7) (.skip) (.exit 0)) (.seq (.block 1 (.seq (.reg [oM 8 6,oM 5 8]) (.reg [oM 9 5,oO 10 (.idxPa 1 64 (.t 2) (.t 9)),oO 11 (.load .sc (.t 10)),oM 12 1,oO 13 (.bin .xor (.t 11) (.t 12)),oO 14 (.idxPa 1 64 (.t 2) (.t 9)),oN (.store .sc (.t 14) (.t 13))]))) (.reg [oO 15 (.bin .add (.t 6) (kI 1)),oM 6 15])))
def Ce:aE:=⟨2,17,.seq (.reg [oO 2 (.box .ownArr (.t 0)),oO 4 (.mv (.k (.c .nil)))]) (.seq (.seq (.reg [oO 6 (.mv (kI 0))]) (.block 0 (.loop uD))) (.seq (.reg [oO 16 (.sliceArr 1 64 (.t 2) none none),oM 4 16]) (.ret))),[(4,none)]⟩
theorem NP:aC Tryz.prog { own:=[2],comp:=[],frz:=[],nils:=[] } Tryz.f142=some Ce:=by kernel_rfl
theorem EK (G:ah) (l:List UInt8) (hl:l.length=64) (m:UInt8):ak Tryz.prog G 142 [.agg (l.map bD),bD m] (.w (.c (.fr 1 ((l.map fun b=>ar b m).map bD)))):=by
  refine aG Tryz.func142 NP rfl rfl ?_;simp only[Ce,af,ae,aa,seval,iteOmega,toNatUp];refine ba (xS l m) (fun i=>64-i) (fun i=>i≤64) 0 (WI _) ?_ ?_
  ·refine aw (fun _=>16) ?_ ?_ rfl rfl <;> simp only[wx,am,aH,aa,seval,iteOmega,toNatUp,Mv]
  ·intro i hi;have hm:=NN l m i;by_cases hlt:i<64
   ·have h1:=NO l m i (by omega);have h2:=Mu l m i (by omega);have h3:i<(gM l m i).length:=by omega
    simp only[uD,xS,ae,aa,seval,iteOmega,toNatUp,aJ,h1,gj,fC h3 (eZ _),gn,h2];refine aS (i+1) (by omega) (by omega) (aw (fun _=>1) ?_ ?_ rfl rfl) <;> simp only[wx,am,aH,aa,seval,iteOmega,toNatUp]
   ·obtain rfl:i=64:=by omega
    have h1:=Mw l m 64 (by omega);simp only[uD,xS,ae,aa,seval,iteOmega,toNatUp,h1,hl];exact eE (id:=1) (n:=64) (s:=1) (by simp only[wx,aa,seval,iteOmega,toNatUp]) (by simp only[wx,aa,seval,iteOmega,toNatUp]) (by simp[hl])
def Jl:aE:=⟨2,21,.seq (.reg [oO 4 (.mv (.k (.c .nil)))]) (.seq (.reg [oM 7 0,oO 8 (.call 140 [(.t 7)] none),oO 5 (.allocArr [(.int .u8 0),(.int .u8 0),(.int .u8 0),(.int .u8 0),(.int .u8 0),(.int .u8 0),(.int .u8 0),(.int .u8 0),(.int .u8 0),(.int .u8 0),(.int .u8 0),(.int .u8 0),(.int .u8 0),(.int .u8 0),(.int .u8 0),(.int .u8 0),(.int .u8 0),(.int .u8 0),(.int .u8 0),(.int .u8 0),(.int .u8 0),(.int .u8 0),(.int .u8 0),(.int .u8 0),(.int .u8 0),(.int .u8 0),(.int .u8 0),(.int .u8 0),(.int .u8 0),(.int .u8 0),(.int .u8 0),(.int .u8 0),(.int .u8 0),(.int .u8 0),(.int .u8 0),(.int .u8 0),(.int .u8 0),(.int .u8 0),(.int .u8 0),(.int .u8 0),(.int .u8 0),(.int .u8 0),(.int .u8 0),(.int .u8 0),(.int .u8 0),(.int .u8 0),(.int .u8 0),(.int .u8 0),(.int .u8 0),(.int .u8 0),(.int .u8 0),(.int .u8 0),(.int .u8 0),(.int .u8 0),(.int .u8 0),(.int .u8 0),(.int .u8 0),(.int .u8 0),(.int .u8 0),(.int .u8 0),(.int .u8 0),(.int .u8 0),(.int .u8 0),(.int .u8 0)]),
 oN (.store (.ag 64) (.t 5) (.t 8))]) (.seq (.reg [oO 9 (.load (.ag 64) (.t 5)),oO 10 (.call 142 [(.t 9),(.k (.c (.d (.int .u8 54))))] none),oM 11 1,oO 12 (.bldSl false 2 1 (.sl []) [(0,(.t 10)),(1,(.t 11))]),oO 13 (.call 90 [(.t 12)] none),oO 14 (.call 141 [(.t 13)] none),oM 6 14]) (.seq (.reg [oO 15 (.load (.ag 64) (.t 5)),oO 16 (.call 142 [(.t 15),(.k (.c (.d (.int .u8 92))))] none),oM 17 6,oO 18 (.bldSl false 2 1 (.sl []) [(0,(.t 16)),(1,(.t 17))]),oO 19 (.call 90 [(.t 18)] none),oO 20 (.call 141 [(.t 19)] (some (0,1))),oM 4 20]) (.ret)))),[(4,none)]⟩
theorem TL:aC Tryz.prog { own:=[20],comp:=[],frz:=[],nils:=[] } Tryz.f126=some Jl:=by kernel_rfl
theorem Vv (G:ah) (hF:G.at 0=some (.ra (cU.map wD))) (hG:G.at 1=some (.ra (bF.map wD))) (key b:List UInt8) (hk:key.length≤140737488355328) (hb:b.length≤70368744177664):ak Tryz.prog G 126 [.sl (key.map bD),.sl (b.map bD)] (.w (.c (.fr 1 ((gz key b).map bD)))):=by
  refine aG Tryz.func126 TL rfl rfl ?_;have h1:=fo G [bP key 54,b] (by simp) (by simp[kv]; omega);have h2:=fo G [bP key 92,cg (bP key 54++b)] (by simp) (by simp[kv,fT]);have f1:[bP key 54,b].flatten=bP key 54++b:=by simp
  have f2:[bP key 92,cg (bP key 54++b)].flatten=bP key 92++cg (bP key 54++b):=by simp
  rw[f1] at h1;rw[f2] at h2;have hl:=EH key;have hm1:(bP key 54++b).length≤140737488355328:=by rw[WA,kv]; omega
  have hm2:(bP key 92++cg (bP key 54++b)).length≤140737488355328:=by rw[WA,kv,fT]; decide
  have hs:=fT (bP key 92++cg (bP key 54++b));have hmac:gz key b=cg (bP key 92++cg (bP key 54++b)):=rfl;rw[hmac];simp only[Jl,af,ae,aa,seval,iteOmega,toNatUp];refine sD (Ru G hF hG key hk) ?_;refine sD (EK G (iU key) hl 54) ?_;refine sD (h1) ?_;refine sD (td G hF hG _ hm1) ?_;refine sD (EK G (iU key) hl 92) ?_;refine sD (h2) ?_;refine sD (td G hF hG _ hm2) ?_;exact ew
def fZ (k:List UInt8) (x:UInt8) (i:Nat):List UInt8:=((ej k).take i).map (fun b=>ar b x)++List.replicate (64-i) 0
theorem PD {k:List UInt8} (hk:k.length≤64) (x:UInt8) (i:Nat) (hi:i≤64):(fZ k x i).length=64:=by
  unfold fZ;rw[WA,WJ,WF,jy hk,WY]; omega
theorem PE {k:List UInt8} (hk:k.length≤64) (x:UInt8) (i:Nat) (hi:i<64):(fZ k x i)[i]?=some 0:=by
  unfold fZ;rw[Xb (by rw[WJ,WF]; omega),WJ,WF,jy hk,List.getElem?_replicate,if_pos (by omega)]
theorem Cf {k:List UInt8} (hk:k.length≤64) (x a:UInt8) (i:Nat) (hi:i<64) (ha:(ej k)[i]?=some a):(fZ k x i).set i (ar a x)=fZ k x (i+1):=by
  have h:=oY (((ej k).take i).map (fun b=>ar b x)) 0 (ar a x) (64-i) (by omega);have hl:(((ej k).take i).map (fun b=>ar b x)).length=i:=by rw[WJ,WF,jy hk]; omega
  rw[hl] at h;unfold fZ;rw[h,Yg,ha,Xc];rfl
theorem Rv (k:List UInt8) (i:Nat) (h:i<k.length):(ej k)[i]?=some k[i]:=by
  unfold ej;rw[Xl h,Wz h]
theorem Rx (k:List UInt8) (i:Nat) (h:k.length≤i) (h2:i<64):(ej k)[i]?=some 0:=by
  unfold ej;rw[Xb h,List.getElem?_replicate,if_pos (by omega)]
theorem Cg (k:List UInt8) (x:UInt8):fZ k x 0=List.replicate 64 0:=by simp[fZ]
theorem NQ {k:List UInt8} (hk:k.length≤64) (x:UInt8):fZ k x 64=(ej k).map fun b=>ar b x:=by
  unfold fZ;rw[WE (by rw[jy hk]; exact WM _),Yz,XW,WS]
def pM (k:List UInt8) (x:UInt8) (i:Nat):St:=⟨aQ [(0,.w (.c (.d (.sl (k.map bD))))),(1,.w (.c (.d (bD x)))),(5,.w (.c (.own 1 1 0 64))),(6,.w (.c (.d (.int .i64 (i:Int)))))],hL [(1,.row 1 ((fZ k x i).map bD))],uL [1]⟩
def oE:aM := .seq (.seq (.reg [oM 13 6,oO 14 (.bin .lss (.t 13) (kI 64))]) (.cond (.t 14) (.skip) (.exit 0))) (.seq (.block 1 (.seq (.seq (.reg [oM 17 6,oM 18 0,oO 19 (.len (.t 18)),oO 20 (.bin .lss (.t 17) (.t 19))]) (.cond (.t 20) (.reg [oM 21 5,oM 22 6,oM 23 0,oM 24 6,oO 25 (.idxSl 1 (.t 23) (.t 24)),oO 26 (.load .sc (.t 25)),oO 27 (.idxSl 1 (.t 21) (.t 22)),oN (.store .sc (.t 27) (.t 26))]) (.skip))) (.reg [oM 28 5,oM 29 6,oM 30 5,oM 31 6,oO 32 (.idxSl 1 (.t 30) (.t 31)),oO 33 (.load .sc (.t 32)),oM 34 1,oO 35 (.bin .xor (.t 33) (.t 34)),oO 36 (.idxSl 1 (.t 28) (.t 29)),oN (.store .sc (.t 36) (.t 35))]))) (.reg [oM 15 6,oO 16 (.bin .add (.t 15) (kI 1)),oM 6 16]))
def wa:aE:=⟨2,38,.seq (.reg [oO 4 (.mv (.k (.c .nil)))]) (.seq (.seq (.reg [oM 7 0,oO 8 (.len (.t 7)),oO 9 (.bin .gtr (.t 8) (kI 64))]) (.cond (.t 9) (.reg [oM 10 0,oO 11 (.call 84 [(.t 10)] none),oM 0 11]) (.skip))) (.seq (.reg [oO 12 (.make true 1 1 (.int .u8 0) (kI 64) (kI 64)),oM 5 12]) (.seq (.seq (.reg [oO 6 (.mv (kI 0))]) (.block 0 (.loop oE))) (.seq (.reg [oM 37 5,oM 4 37]) (.ret))))),[(4,none)]⟩
theorem PF:aC Tryz.prog { own:=[],comp:=[],frz:=[],nils:=[] } Tryz.f143=some wa:=by kernel_rfl
theorem GV (G:ah) (k:List UInt8) (hk:k.length≤64) (x:UInt8) (Q:AX→St→Prop) (σ:St) (he:dI σ (pM k x 0)) (hq:∀ f,f 5=.w (.c (.own 1 1 0 64))→Q (.ex 0) ⟨f,hL [(1,.row 1 (((ej k).map fun b=>ar b x).map bD))],uL [1]⟩):bA Tryz.prog G (.loop oE) Q σ:=by
  refine ba (pM k x) (fun i=>64-i) (fun i=>i≤64) 0 (WI _) he ?_;intro i hi;have hl:=PD hk x i hi;by_cases hlt:i<64
  ·have h1:=PE hk x i hlt;have h3:i<(fZ k x i).length:=by omega
   by_cases hkl:i<k.length
   ·have h2:=Cf hk x k[i] i hlt (Rv k i hkl);have e2:k[i]?=some k[i]:=Wz hkl;have h4:((fZ k x i).set i k[i])[i]?=some k[i]:=by rw[List.getElem?_set_self h3]
    have h5:i<((fZ k x i).set i k[i]).length:=by rw[XQ]; exact h3
    simp only[oE,pM,ae,aa,seval,iteOmega,toNatUp,aJ,h1,e2,fC h3 (eZ _),gn,h4,fC h5 (eZ _),List.set_set,h2];refine aS (i+1) (by omega) (by omega) (aw (fun _=>1) ?_ ?_ rfl rfl) <;> simp only[wx,am,aH,aa,seval,iteOmega,toNatUp]
   ·have h2:=Cf hk x 0 i hlt (Rx k i (by omega) hlt);simp only[oE,pM,ae,aa,seval,iteOmega,toNatUp,aJ,h1,fC h3 (eZ _),gn,h2];refine aS (i+1) (by omega) (by omega) (aw (fun _=>1) ?_ ?_ rfl rfl) <;> simp only[wx,am,aH,aa,seval,iteOmega,toNatUp]
  ·obtain rfl:i=64:=by omega
   simp only[oE,pM,ae,aa,seval,iteOmega,toNatUp,NQ hk x];exact hq _ (by simp only[ae,aa,seval,iteOmega,toNatUp])
theorem GX (G:ah) (key:List UInt8) (hb:key.length≤140737488355328) (x:UInt8):ak Tryz.prog G 143 [.sl (key.map bD),bD x] (.w (.c (.fr 1 ((bP key x).map bD)))):=by
  refine aG Tryz.func143 PF rfl rfl ?_;by_cases h:64<key.length
  ·have e:bP key x=(ej (cg key)).map fun b=>ar b x:=by unfold bP iU mc; rw[if_pos h]
   have hl:=fT key;rw[e];simp only[wa,af,ae,aa,seval,iteOmega,toNatUp];refine sD (pw G key hb) ?_;generalize cg key=s at *
   refine GV G s (by omega) x _ _ (aw (fun _=>96) ?_ ?_ rfl rfl) fun f hf=>?_
   ·simp only[wx,am,aH,aa,seval,iteOmega,toNatUp]
   ·simp only[wx,am,aH,aa,seval,iteOmega,toNatUp,Cg];rfl
   ·simp only[ae,aa,seval,iteOmega,toNatUp,hf];exact eE (id:=1) (n:=64) (s:=1) (by simp only[wx,aa,seval,iteOmega,toNatUp,hf]) (by simp only[wx,aa,seval,iteOmega,toNatUp]) (by rw[WJ,WJ,jy (by omega)])
  ·have e:bP key x=(ej key).map fun b=>ar b x:=by unfold bP iU mc; rw[if_neg h]
   rw[e];simp only[wa,af,ae,aa,seval,iteOmega,toNatUp];refine GV G key (by omega) x _ _ (aw (fun _=>96) ?_ ?_ rfl rfl) fun f hf=>?_
   ·simp only[wx,am,aH,aa,seval,iteOmega,toNatUp]
   ·simp only[wx,am,aH,aa,seval,iteOmega,toNatUp,Cg];rfl
   ·simp only[ae,aa,seval,iteOmega,toNatUp,hf];exact eE (id:=1) (n:=64) (s:=1) (by simp only[wx,aa,seval,iteOmega,toNatUp,hf]) (by simp only[wx,aa,seval,iteOmega,toNatUp]) (by rw[WJ,WJ,jy (by omega)])
def GY:aE:=⟨2,16,.seq (.reg [oO 4 (.mv (.k (.c .nil)))]) (.seq (.reg [oM 5 0,oO 6 (.call 143 [(.t 5),(.k (.c (.d (.int .u8 92))))] none),oM 7 0,oO 8 (.call 143 [(.t 7),(.k (.c (.d (.int .u8 54))))] none),oM 9 1,oO 10 (.bldSl false 2 1 (.sl []) [(0,(.t 8)),(1,(.t 9))]),oO 11 (.call 43 [(.t 10)] none),oO 12 (.call 84 [(.t 11)] none),oO 13 (.bldSl false 2 1 (.sl []) [(0,(.t 6)),(1,(.t 12))]),oO 14 (.call 43 [(.t 13)] none),oO 15 (.call 84 [(.t 14)] (some (0,1))),oM 4 15]) (.ret)),[(4,none)]⟩
theorem Ry:aC Tryz.prog { own:=[15],comp:=[],frz:=[],nils:=[] } Tryz.f127=some GY:=by kernel_rfl
theorem Jm (G:ah) (key b:List UInt8) (hk:key.length≤140737488355328) (hb:b.length≤70368744177664):ak Tryz.prog G 127 [.sl (key.map bD),.sl (b.map bD)] (.w (.c (.fr 1 ((gz key b).map bD)))):=by
  refine aG Tryz.func127 Ry rfl rfl ?_;have h1:=kA G [bP key 54,b] (by simp) (by simp[kv]; omega);have h2:=kA G [bP key 92,cg (bP key 54++b)] (by simp) (by simp[kv,fT]);have f1:[bP key 54,b].flatten=bP key 54++b:=by simp
  have f2:[bP key 92,cg (bP key 54++b)].flatten=bP key 92++cg (bP key 54++b):=by simp
  rw[f1] at h1;rw[f2] at h2;have hm1:(bP key 54++b).length≤140737488355328:=by rw[WA,kv]; omega
  have hm2:(bP key 92++cg (bP key 54++b)).length≤140737488355328:=by rw[WA,kv,fT]; decide
  have hs:=fT (bP key 92++cg (bP key 54++b));have hmac:gz key b=cg (bP key 92++cg (bP key 54++b)):=rfl;rw[hmac];simp only[GY,af,ae,aa,seval,iteOmega,toNatUp];refine sD (GX G key hk 92) ?_;refine sD (GX G key hk 54) ?_;refine sD (h1) ?_;refine sD (pw G _ hm1) ?_;refine sD (h2) ?_;refine sD (pw G _ hm2) ?_;exact ew
def GZ:aE:=⟨2,8,.seq (.reg [oO 4 (.mv (.k (.c .nil)))]) (.seq (.reg [oM 5 0,oM 6 1,oO 7 (.call 127 [(.t 5),(.t 6)] (some (0,1))),oM 4 7]) (.ret)),[(4,none)]⟩
theorem Rz:aC Tryz.prog { own:=[7],comp:=[],frz:=[],nils:=[] } Tryz.f100=some GZ:=by kernel_rfl
theorem TM (G:ah) (key b:List UInt8) (hk:key.length≤140737488355328) (hb:b.length≤70368744177664):ak Tryz.prog G 100 [.sl (key.map bD),.sl (b.map bD)] (.w (.c (.fr 1 ((gz key b).map bD)))):=by
  refine aG Tryz.func100 Rz rfl rfl ?_;simp only[GZ,af,ae,aa,seval,iteOmega,toNatUp];refine sD (Jm G key b hk hb) ?_;exact ew
def lf (n:Int):Int:=if 0≤n∧n≤8160 then 0 else 4
def iu (key info:List UInt8) (n:Int):List UInt8:=if 0≤n∧n≤8160 then gA key info n.toNat else []
theorem lF {n:Int} (h:0≤n∧n≤8160):lf n=0:=if_pos h
theorem kB (key info:List UInt8) {n:Int} (h:0≤n∧n≤8160):iu key info n=gA key info n.toNat:=if_pos h
theorem q9 {n:Int} (h:¬ (0≤n∧n≤8160)):lf n=4:=if_neg h
theorem re (key info:List UInt8) {n:Int} (h:¬ (0≤n∧n≤8160)):iu key info n=[]:=if_neg h
def f7 (key info:List UInt8) (n i:Nat):List UInt8:=(fY key info i).take n
theorem EL (key info:List UInt8) (n i:Nat):(f7 key info n i).length=min n (32*i):=by
  unfold f7; rw[WF,mK]
theorem NR (key info:List UInt8) (n i:Nat) (h:32*i≤n):f7 key info n i++(dN key info (i+1)).take (n-32*i)=f7 key info n (i+1):=by
  unfold f7;rw[fY,List.take_append,mK]
theorem Ci (key info:List UInt8) (i:Nat):gz key (dN key info i++info++[UInt8.ofNat (i+1)])=dN key info (i+1):=rfl
theorem Wm (v:Nat):aN v 1=[UInt8.ofNat v]:=by simp[aN]
def ii (key info:List UInt8):Nat→V
  | 0=>.w (.c .nil)
  | i+1=>.w (.c (.d (.sl ((dN key info (i+1)).map bD))))
theorem RA (a b:Nat):List.foldl (fun x y:Int=>if y<x then y else x) (a:Int) [(b:Int)]=((min a b:Nat):Int):=by
  simp only[XX,List.foldl_nil];split <;> omega
def tg (key info:List UInt8) (n i:Nat):St:=⟨aQ [(0,.w (.c (.d (.sl (key.map bD))))),(1,.w (.c (.d (.sl (info.map bD))))),(2,.w (.c (.d (.int .i64 (n:Int))))),(8,.w (.c (.own 1 1 0 (f7 key info n i).length))),(9,ii key info i),(10,.w (.c (.d (.int .u64 ((i+1:Nat):Int)))))],hL [(1,.row 1 ((f7 key info n i).map bD))],uL [1]⟩
def rh:aM := .seq (.seq (.reg [oM 19 8,oO 20 (.len (.t 19)),oM 21 2,oO 22 (.bin .lss (.t 20) (.t 21))]) (.cond (.t 22) (.skip) (.exit 0))) (.seq (.block 1 (.seq (.reg [oM 25 0,oM 26 9,oM 27 1,oM 28 10,oO 29 (.call 91 [(.t 28),(kI 1)] none),oO 30 (.bldSl false 3 1 (.sl []) [(0,(.t 26)),(1,(.t 27)),(2,(.t 29))]),oO 31 (.call 90 [(.t 30)] none),oO 32 (.call 126 [(.t 25),(.t 31)] none),oM 9 32]) (.reg [oM 33 8,oM 34 9,oM 35 9,oO 36 (.len (.t 35)),oM 37 2,oM 38 8,oO 39 (.len (.t 38)),oO 40 (.bin .sub (.t 37) (.t 39)),oO 41 (.min [(.t 36),(.t 40)]),oO 42 (.slice 1 (.t 34) none (some (.t 41)) none),oO 43 (.app false 1 1 (.t 33) (.t 42)),oM 8 43]))) (.reg [oM 23 10,oO 24 (.bin .add (.t 23) (.k (.c (.d (.int .u64 1))))),oM 10 24]))
def sq:aE:=⟨3,45,.seq (.reg [oO 6 (.mv (.k (.c .nil))),oO 7 (.mv (kI 0))]) (.seq (.seq (.reg [oM 11 2,oO 12 (.bin .lss (.t 11) (kI 0)),oM 13 12,oG 14 (.mv (.t 2)) 13 false,oG 15 (.bin .gtr (.t 14) (kI 8160)) 13 false,oO 16 (.pick (.t 13) (.k (.c (.d (.bool true)))) (.t 15))]) (.cond (.t 16) (.seq (.reg [oO 6 (.mv (.k (.c .nil))),oO 7 (.mv (kI 4))]) (.ret)) (.skip))) (.seq (.reg [oM 17 2,oO 18 (.make true 1 1 (.int .u8 0) (kI 0) (.t 17)),oM 8 18]) (.seq (.reg [oO 9 (.mv (.k (.c .nil)))]) (.seq (.seq (.reg [oO 10 (.mv (.k (.c (.d (.int .u64 1)))))]) (.block 0 (.loop rh))) (.seq (.reg [oM 44 8,oM 6 44,oO 7 (.mv (kI 0))]) (.ret)))))),[(6,none),(7,none)]⟩
theorem TN:aC Tryz.prog { own:=[],comp:=[],frz:=[],nils:=[] } Tryz.f128=some sq:=by kernel_rfl
theorem yS (G:ah) (hF:G.at 0=some (.ra (cU.map wD))) (hG:G.at 1=some (.ra (bF.map wD))) (key info:List UInt8) (hk:key.length≤140737488355328) (hb:info.length≤35184372088832) (n:Int) (hn1:-9223372036854775808≤n) (hn2:n≤9223372036854775807):ak Tryz.prog G 128 [.sl (key.map bD),.sl (info.map bD),.int .i64 n] (.tup [.c (.d (.sl ((iu key info n).map bD))),.c (.d (.int .i64 (lf n)))]):=by
  refine aG Tryz.func128 TN rfl rfl ?_;by_cases h0:n<0
  ·have hc:¬ (0≤n∧n≤8160):=by omega
   rw[q9 hc,re key info hc];simp only[sq,af,ae,aa,seval,iteOmega,toNatUp];exact aO
  ·by_cases h1:8160<n
   ·have hc:¬ (0≤n∧n≤8160):=by omega
    rw[q9 hc,re key info hc];simp only[sq,af,ae,aa,seval,iteOmega,toNatUp];exact aO
   ·have hc:0≤n∧n≤8160:=by omega
    rw[lF hc,kB key info hc];obtain⟨m,rfl⟩:=Xz hc.1;rw[Yq];simp only[sq,af,ae,aa,seval,iteOmega,toNatUp];refine ba (tg key info m) (fun i=>(m+31) / 32-i) (fun i=>i≤(m+31) / 32) 0 (WI _) ?_ ?_
    ·refine aw (fun _=>144) ?_ ?_ rfl rfl <;> simp only[wx,am,aH,aa,seval,iteOmega,toNatUp,f7,fY,ii]
    ·intro i hi;have hl:=EL key info m i;have hp:=Cd key info i;by_cases hlt:i<(m+31) / 32
     ·have h32:32*i≤m:=by omega
      have hl:(f7 key info m i).length=32*i:=by omega
      have hj:=fo G [dN key info i,info,aN (i+1) 1] (by simp) (by simp[bW]; omega);have hf:[dN key info i,info,aN (i+1) 1].flatten=dN key info i++info++[UInt8.ofNat (i+1)]:=by simp[Wm]
      rw[hf] at hj;have hm:=Vv G hF hG key (dN key info i++info++[UInt8.ofNat (i+1)]) hk (by simp; omega);rw[Ci] at hm;have hl2:(dN key info (i+1)).length=32:=mJ _ _;have hs:=NR key info m i h32;have hs2:=EL key info m (i+1);have hmin:=RA 32 (m-32*i);rw[show ((m-32*i:Nat):Int)=(m:Int)-32*(i:Int) by omega] at hmin;have hs':f7 key info m i++(dN key info (i+1)).take (min 32 (m-32*i))=f7 key info m (i+1):=by
        rw[← hs]; congr 1
        rw[Nat.min_comm,← List.take_take,WE (l:=dN key info (i+1)) (by omega)]
      have hlt2:((f7 key info m i).length:Int)<(m:Int):=by omega
      have hmm:min 32 (m-32*i)≤32:=by omega
      have hml:((dN key info (i+1)).take (min 32 (m-32*i))).length=min 32 (m-32*i):=by rw[WF,hl2]; omega
      have hcl:(f7 key info m (i+1)).length=32*i+min 32 (m-32*i):=by omega
      generalize hq:min 32 (m-32*i)=q at *
      rcases i with _ | i
      ·simp only[X1,Yd,Yn,X0,Int.mul_zero,Int.sub_zero,Nat.mul_zero,Xr] at hmin hl hl2 hs' hml hcl;simp only[rh,tg,ii,ae,aa,seval,iteOmega,toNatUp];refine sD (kK G (0+1) 1 (by decide)) ?_;refine sD (hj) ?_;refine sD (hm) ?_;simp only[ae,aa,seval,iteOmega,toNatUp,hl2,hl,hmin,hml,hs',bI,Int.sub_zero];refine aS (0+1) (by omega) (by omega) (aw (fun _=>344) ?_ ?_ rfl rfl) <;> simp only[wx,am,aH,aa,seval,iteOmega,toNatUp,ii,hcl]
      ·simp only[X1,Yd,Yn,X0] at hmin;simp only[rh,tg,ii,ae,aa,seval,iteOmega,toNatUp];refine sD (kK G (i+1+1) 1 (by decide)) ?_;refine sD (hj) ?_;refine sD (hm) ?_;simp only[ae,aa,seval,iteOmega,toNatUp,hl2,hl,hmin,hml,hs',bI];refine aS (i+1+1) (by omega) (by omega) (aw (fun _=>344) ?_ ?_ rfl rfl) <;> simp only[wx,am,aH,aa,seval,iteOmega,toNatUp,ii,hcl]
     ·obtain rfl:i=(m+31) / 32:=by omega
      have hlt2:¬ ((f7 key info m ((m+31) / 32)).length:Int)<(m:Int):=by omega
      have he:f7 key info m ((m+31) / 32)=gA key info m:=rfl;rw[he] at hlt2;simp only[rh,tg,ae,aa,seval,iteOmega,toNatUp,he];exact aO
def sr (key info:List UInt8) (n i:Nat):St:=⟨aQ [(0,.w (.c (.d (.sl (key.map bD))))),(1,.w (.c (.d (.sl (info.map bD))))),(2,.w (.c (.d (.int .i64 (n:Int))))),(8,.w (.c (.own 1 1 0 (fY key info i).length))),(9,ii key info i),(10,.w (.c (.d (.int .i64 ((i+1:Nat):Int)))))],hL [(1,.row 1 ((fY key info i).map bD))],uL [1]⟩
def qG:aM := .seq (.seq (.reg [oM 19 8,oO 20 (.len (.t 19)),oM 21 2,oO 22 (.bin .lss (.t 20) (.t 21))]) (.cond (.t 22) (.skip) (.exit 0))) (.seq (.block 1 (.seq (.reg [oM 25 0,oM 26 9,oM 27 1,oM 28 10,oO 29 (.conv .u8 (.t 28)),oO 30 (.bldSl false 1 1 (.int .u8 0) [(0,(.t 29))]),oO 31 (.bldSl false 3 1 (.sl []) [(0,(.t 26)),(1,(.t 27)),(2,(.t 30))]),oO 32 (.call 43 [(.t 31)] none),oO 33 (.call 127 [(.t 25),(.t 32)] none),oM 9 33]) (.reg [oM 34 8,oM 35 9,oO 36 (.app false 1 1 (.t 34) (.t 35)),oM 8 36]))) (.reg [oM 23 10,oO 24 (.bin .add (.t 23) (kI 1)),oM 10 24]))
def rM:aE:=⟨3,40,.seq (.reg [oO 6 (.mv (.k (.c .nil))),oO 7 (.mv (kI 0))]) (.seq (.seq (.reg [oM 11 2,oO 12 (.bin .lss (.t 11) (kI 0)),oM 13 12,oG 14 (.mv (.t 2)) 13 false,oG 15 (.bin .gtr (.t 14) (kI 8160)) 13 false,oO 16 (.pick (.t 13) (.k (.c (.d (.bool true)))) (.t 15))]) (.cond (.t 16) (.seq (.reg [oO 6 (.mv (.k (.c .nil))),oO 7 (.mv (kI 4))]) (.ret)) (.skip))) (.seq (.reg [oO 17 (.bldSl true 0 1 (.int .u8 0) []),oO 18 (.bldSl false 0 1 (.int .u8 0) []),oM 8 17,oM 9 18]) (.seq (.seq (.reg [oO 10 (.mv (kI 1))]) (.block 0 (.loop qG))) (.seq (.reg [oM 37 8,oM 38 2,oO 39 (.slice 1 (.t 37) none (some (.t 38)) none),oM 6 39,oO 7 (.mv (kI 0))]) (.ret))))),[(6,none),(7,none)]⟩
theorem RB:aC Tryz.prog { own:=[17],comp:=[],frz:=[],nils:=[] } Tryz.f101=some rM:=by kernel_rfl
theorem TO (G:ah) (key info:List UInt8) (hk:key.length≤140737488355328) (hb:info.length≤35184372088832) (n:Int) (hn1:-9223372036854775808≤n) (hn2:n≤9223372036854775807):ak Tryz.prog G 101 [.sl (key.map bD),.sl (info.map bD),.int .i64 n] (.tup [.c (.fr 1 ((iu key info n).map bD)),.c (.d (.int .i64 (lf n)))]):=by
  refine aG Tryz.func101 RB rfl rfl ?_;by_cases h0:n<0
  ·have hc:¬ (0≤n∧n≤8160):=by omega
   rw[q9 hc,re key info hc];simp only[rM,af,ae,aa,seval,iteOmega,toNatUp];exact dr
  ·by_cases h1:8160<n
   ·have hc:¬ (0≤n∧n≤8160):=by omega
    rw[q9 hc,re key info hc];simp only[rM,af,ae,aa,seval,iteOmega,toNatUp];exact dr
   ·have hc:0≤n∧n≤8160:=by omega
    rw[lF hc,kB key info hc];obtain⟨m,rfl⟩:=Xz hc.1;rw[Yq];simp only[rM,af,ae,aa,seval,iteOmega,toNatUp];refine ba (sr key info m) (fun i=>(m+31) / 32-i) (fun i=>i≤(m+31) / 32) 0 (WI _) ?_ ?_
    ·refine aw (fun _=>136) ?_ ?_ rfl rfl <;> simp only[wx,am,aH,aa,seval,iteOmega,toNatUp,fY,ii]
    ·intro i hi;have hl:=mK key info i;have hp:=Cd key info i;by_cases hlt:i<(m+31) / 32
     ·have hj:=kA G [dN key info i,info,[UInt8.ofNat (i+1)]] (by simp) (by simp; omega);have hf:[dN key info i,info,[UInt8.ofNat (i+1)]].flatten=dN key info i++info++[UInt8.ofNat (i+1)]:=by simp
      rw[hf] at hj;have hm:=Jm G key (dN key info i++info++[UInt8.ofNat (i+1)]) hk (by simp; omega);rw[Ci] at hm;have hl2:(dN key info (i+1)).length=32:=mJ _ _;have hs':fY key info i++dN key info (i+1)=fY key info (i+1):=rfl;have hcl:(fY key info (i+1)).length=32*i+32:=by rw[mK]; omega
      rcases i with _ | i
      ·simp only[X1,Yd,Yn,X0,Int.mul_zero,Int.sub_zero,Nat.mul_zero,Xr] at hl hl2 hs' hcl;simp only[qG,sr,ii,ae,aa,seval,iteOmega,toNatUp];refine sD (hj) ?_;refine sD (hm) ?_;simp only[ae,aa,seval,iteOmega,toNatUp,hl2,hl,hs',bI,Int.sub_zero];refine aS (0+1) (by omega) (by omega) (aw (fun _=>288) ?_ ?_ rfl rfl) <;> simp only[wx,am,aH,aa,seval,iteOmega,toNatUp,ii,hcl]
      ·have hby:D.int .u8 ((i:Int)+1+1)=bD (UInt8.ofNat (i+1+1)):=by rw[← byte_of,IntWalk.u8_in _ (by omega)]; rfl
       simp only[qG,sr,ii,ae,aa,seval,iteOmega,toNatUp,hby];refine sD (hj) ?_;refine sD (hm) ?_;simp only[ae,aa,seval,iteOmega,toNatUp,hl2,hl,hs',bI];refine aS (i+1+1) (by omega) (by omega) (aw (fun _=>288) ?_ ?_ rfl rfl) <;> simp only[wx,am,aH,aa,seval,iteOmega,toNatUp,ii,hcl]
     ·obtain rfl:i=(m+31) / 32:=by omega
      have he:(fY key info ((m+31) / 32)).take m=gA key info m:=rfl;have hle:m≤(fY key info ((m+31) / 32)).length:=by omega
      simp only[qG,sr,ae,aa,seval,iteOmega,toNatUp];rw[← he,List.map_take];exact Mx (id:=1) (s:=1) (by simp only[ae,aa,seval,iteOmega,toNatUp]) (by simp only[ae,aa,seval,iteOmega,toNatUp]) (by rw[WJ]; exact hle) (by simp only[ae,aa,seval,iteOmega,toNatUp])
theorem su (G:ah) (key info:List UInt8) (hk:key.length≤140737488355328) (hb:info.length≤35184372088832) (n:Int) (hn1:-9223372036854775808≤n) (hn2:n≤9223372036854775807):ak Tryz.prog G 101 [.sl (key.map bD),.sl (info.map bD),.int .i64 n] (.tup [.c (.d (.sl ((iu key info n).map bD))),.c (.d (.int .i64 (lf n)))]):=pb (TO G key info hk hb n hn1 hn2)
def Jn:aE:=⟨3,19,.seq (.reg [oO 6 (.mv (.k (.c .nil)))]) (.seq (.reg [oO 8 (.bldSl false 1 1 (.int .u8 0) [(0,(.k (.c (.d (.int .u8 0)))))]),oM 7 8]) (.seq (.reg [oM 9 0,oO 10 (.s2b false (.t 9)),oM 11 7,oM 12 1,oO 13 (.s2b false (.t 12)),oM 14 7,oM 15 2,oO 16 (.call 141 [(.t 15)] none),oO 17 (.bldSl false 5 1 (.sl []) [(0,(.t 10)),(1,(.t 11)),(2,(.t 13)),(3,(.t 14)),(4,(.t 16))]),oO 18 (.call 90 [(.t 17)] (some (0,1))),oM 6 18]) (.ret))),[(6,none)]⟩
theorem TP:aC Tryz.prog { own:=[18],comp:=[],frz:=[],nils:=[] } Tryz.f130=some Jn:=by kernel_rfl
theorem Vw (G:ah) (hF:G.at 0=some (.ra (cU.map wD))) (hG:G.at 1=some (.ra (bF.map wD))) (p n:ByteArray) (c:List UInt8) (hp:p.size≤1099511627776) (hn:n.size≤1099511627776) (hc:c.length≤140737488355328):ak Tryz.prog G 130 [.str p,.str n,.sl (c.map bD)] (.w (.c (.fr 1 ((ka p.data.toList n.data.toList c).map bD)))):=by
  refine aG Tryz.func130 TP rfl rfl ?_;have hp':p.data.toList.length=p.size:=rfl;have hn':n.data.toList.length=n.size:=rfl;have hj:=fo G [p.data.toList,[0],n.data.toList,[0],cg c] (by simp) (by simp[fT]; omega);have hf:[p.data.toList,[0],n.data.toList,[0],cg c].flatten=ka p.data.toList n.data.toList c:=by simp[ka]
  rw[hf] at hj;have hpm:p.size≤maxLen:=by unfold maxLen; omega
  have hnm:n.size≤maxLen:=by unfold maxLen; omega
  simp only[Jn,af,ae,aa,seval,iteOmega,toNatUp,hpm,hnm];refine sD (td G hF hG c hc) ?_;refine sD (hj) ?_;exact ew
theorem ng (G:ah) (v:Nat) (k:Int) (hk:0≤k∧k≤64):ak Tryz.prog G 91 [.int .u64 (v:Int),.int .i64 k] (.w (.c (.fr 1 ((aN v k.toNat).map bD)))):=by
  have c:=Vf G v k;rw[show nS v k=aN v k.toNat from if_pos hk] at c;exact c
theorem xf (G:ah) (v:Nat) (k:Int) (hk:0≤k∧k≤64):ak Tryz.prog G 44 [.int .u64 (v:Int),.int .i64 k] (.w (.c (.fr 1 ((aN v k.toNat).map bD)))):=by
  have c:=SK G v k;rw[show nS v k=aN v k.toNat from if_pos hk] at c;exact c
def xU (l:List UInt8) (i:Nat):St:=⟨aQ [(0,.w (.c (.d (.sl (l.map bD))))),(3,.w (.c (.d (.int .u64 (aX (l.take i)))))),(4,.w (.c (.d (.int .i64 (i:Int)))))],hL [],uL []⟩
def vu:aM := .seq (.seq (.reg [oM 5 4,oM 6 0,oO 7 (.len (.t 6)),oO 8 (.bin .lss (.t 5) (.t 7))]) (.cond (.t 8) (.skip) (.exit 0))) (.seq (.block 1 (.reg [oM 11 3,oO 12 (.bin .shl (.t 11) (.k (.c (.d (.int .u64 8))))),oM 13 0,oM 14 4,oO 15 (.idxSl 1 (.t 13) (.t 14)),oO 16 (.load .sc (.t 15)),oO 17 (.conv .u64 (.t 16)),oO 18 (.bin .or (.t 12) (.t 17)),oM 3 18])) (.reg [oM 9 4,oO 10 (.bin .add (.t 9) (kI 1)),oM 4 10]))
def G4:aE:=⟨1,20,.seq (.reg [oO 2 (.mv (.k (.c (.d (.int .u64 0)))))]) (.seq (.reg [oO 3 (.mv (.k (.c (.d (.int .u64 0)))))]) (.seq (.seq (.reg [oO 4 (.mv (kI 0))]) (.block 0 (.loop vu))) (.seq (.reg [oM 19 3,oM 2 19]) (.ret)))),[(2,none)]⟩
theorem RH:aC Tryz.prog { own:=[],comp:=[],frz:=[],nils:=[] } Tryz.f49=some G4:=by kernel_rfl
set_option maxHeartbeats 400000 in
theorem xV (G:ah) (l:List UInt8) (hl:l.length≤9223372036854775807):ak Tryz.prog G 49 [.sl (l.map bD)] (.w (.c (.d (.int .u64 (aX l))))):=by
  refine aG Tryz.func49 RH rfl rfl ?_;simp only[G4,af,ae,aa,seval,iteOmega,toNatUp];refine ba (xU l) (fun i=>l.length-i) (fun i=>i≤l.length) 0 (WI _) ?_ ?_
  ·refine aw (fun i=>i) ?_ ?_ rfl rfl <;> simp only[wx,am,aH,aa,seval,iteOmega,toNatUp] <;> rfl
  ·intro i hi;by_cases hlt:i<l.length
   ·have hb:=l[i].toNat_lt;have e2:l[i]?=some l[i]:=Wz hlt;have e3:IntKind.u64.wrap (l[i].toNat:Int)=(l[i].toNat:Int):=u64_in _ (by omega) (by omega);have e4:IntKind.i64.wrap ((i:Int)+1)=((i+1:Nat):Int):=by rw[IntWalk.i64_in _ (by omega)]; rfl
    have e5:=BR l i hlt;simp only[vu,xU,wx,aa,seval,iteOmega,toNatUp,aJ,e2,IntKind.bits,e3,e4];refine aS (i+1) (by omega) (by omega) (aw id ?_ ?_ rfl rfl) <;> simp only[wx,am,aa,seval,iteOmega,toNatUp,← e5]
   ·have:l.take i=l:=WE (by omega);simp only[vu,xU,wx,aa,seval,iteOmega,toNatUp,this];exact jf (by simp only[wx,aa,seval,iteOmega,toNatUp])

def G6:aE:=⟨1,5,.seq (.reg [oO 2 (.mv (.k (.c .nil)))]) (.seq (.reg [oM 3 0,oO 4 (.call 35 [(.t 3),(kI 32)] none),oM 2 4]) (.ret)),[(2,none)]⟩
theorem RL:aC Tryz.prog { own:=[],comp:=[],frz:=[],nils:=[] } Tryz.f59=some G6:=by kernel_rfl
theorem JA (G:ah) (seed:Int):ak Tryz.prog G 59 [.int .i64 seed] (.w (.c (.d (.sl ((bu seed 32).map bD))))):=by
  refine aG Tryz.func59 RL rfl rfl ?_;simp only[G6,af,ae,aa,seval,iteOmega,toNatUp];refine sD (q8 G seed 32 (by decide)) ?_;exact aI
end Go.Proofs.YtlghfnidknfakaaGreatDoor
