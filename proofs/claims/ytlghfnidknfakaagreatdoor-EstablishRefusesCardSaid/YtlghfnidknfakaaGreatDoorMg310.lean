/- Texts of one's own, merged: from: Layer 1 on data: Put,Get,Same,Join,Hex: what they return. Own work. -/
import Derived.Test.YtlghfnidknfakaaGreatDoorProg
import Derived.Test.YtlghfnidknfakaaGreatDoorMg37
set_option linter.unusedVariables false
set_option linter.unusedSimpArgs false
namespace Go.Proofs.YtlghfnidknfakaaGreatDoor
open Go.RowKit IntWalk
set_option maxHeartbeats 400000
theorem fL {l:List UInt8} {i:Nat} {x:D} (hi:i<l.length) (hx:x.one=true):i6 .sc (.c (.d x)) i 0 (.row 1 (l.map bD))=some (.row 1 ((l.map bD).set i x)):=by
  simp[i6,aM,VQ hi,bD,fE,hx]
theorem rV {l:List UInt32} {i:Nat} {x:D} (hi:i<l.length) (hx:x.one=true):i6 .sc (.c (.d x)) i 0 (.row 1 (l.map wD))=some (.row 1 ((l.map wD).set i x)):=by
  simp[i6,aM,VQ hi,wD,fE,hx]
theorem gw (l:List UInt8) (i:Nat) (x:UInt8):(l.map bD).set i (bD x)=(l.set i x).map bD:=ww bD l i x
theorem rW (l:List UInt32) (i:Nat) (x:UInt32):(l.map wD).set i (wD x)=(l.set i x).map wD:=ww wD l i x
theorem yk (n:Nat):List.replicate n (D.int .u8 0)=(List.replicate n (0:UInt8)).map bD:=by simp[bD]
def aQ (v n:Nat):List UInt8:=(List.range n).map fun i=>UInt8.ofNat (v / 256^(n-1-i))
def gS (v n m:Nat):List UInt8:=List.replicate m 0++(aQ v n).drop m
def nT (v:Nat) (n:Int):List UInt8:=if 0≤n∧n≤64 then aQ v n.toNat else []
theorem ch (v n:Nat):(aQ v n).length=n:=by simp[aQ]
theorem um (v n m:Nat) (h:m≤n):(gS v n m).length=n:=by simp[gS,ch]; omega
theorem Bw (v n:Nat):gS v n 0=aQ v n:=by simp[gS]
theorem Bz (v n:Nat):gS v n n=List.replicate n 0:=by simp[gS,ch]
theorem BA (v n i:Nat) (h:i+1≤n):gS v n i=(gS v n (i+1)).set i (UInt8.ofNat (v / 256^(n-(i+1)))):=by
  apply WZ;intro j;rw[XO];have hl:i<(aQ v n).length:=by rw[ch]; omega
  by_cases hj:i=j
  ·subst hj;rw[if_pos rfl,if_pos (by rw[um _ _ _ h]; omega)];simp only[gS,List.getElem?_append,Wi,Nat.lt_irrefl,if_false,XU,WI,W8];rw[VQ hl];simp[aQ,Nat.sub_sub,Nat.add_comm 1 i]
  ·rw[if_neg hj];simp only[gS,List.getElem?_append,Wi,List.getElem?_replicate,WI];by_cases h1:j<i
   ·rw[if_pos h1,if_pos h1,if_pos (by omega),if_pos (by omega)]
   ·rw[if_neg h1,if_neg (by omega)]
    congr 1; omega
theorem byte_of (v:Nat):D.int .u8 (IntKind.u8.wrap (v:Int))=bD (UInt8.ofNat v):=by
  rw[IntKind.wrap_u8];simp[bD]
def nD (v n m:Nat):St:=⟨aV [(0,.w (.c (.d (.int .u64 ((v / 256^(n-m):Nat):Int))))),(5,.w (.c (.own 1 1 0 n))),(6,.w (.c (.d (.int .i64 ((m:Int)-1)))))],hL [(1,.row 1 ((gS v n m).map bD))],uL [1]⟩
def vF:aN := .seq (.seq (.reg [oM 17 6,oO 18 (.bin .geq (.t 17) (kI 0))]) (.cond (.t 18) (.skip) (.exit 0))) (.seq (.block 1 (.seq (.reg [oM 21 5,oM 22 6,oM 23 0,oO 24 (.conv .u8 (.t 23)),oO 25 (.idxSl 1 (.t 21) (.t 22)),oN (.store .sc (.t 25) (.t 24))]) (.reg [oM 26 0,oO 27 (.bin .shr (.t 26) (.k (.c (.d (.int .u64 8))))),oM 0 27]))) (.reg [oM 19 6,oO 20 (.bin .sub (.t 19) (kI 1)),oM 6 20]))
def rX:aF:=⟨2,29,.seq (.reg [oO 4 (.mv (.k (.c .nil)))]) (.seq (.seq (.reg [oM 7 1,oO 8 (.bin .lss (.t 7) (kI 0)),oM 9 8,oG 10 (.mv (.t 1)) 9 false,oG 11 (.bin .gtr (.t 10) (kI 64)) 9 false,oO 12 (.pick (.t 9) (.k (.c (.d (.bool true)))) (.t 11))]) (.cond (.t 12) (.seq (.reg [oO 4 (.mv (.k (.c .nil)))]) (.ret)) (.skip))) (.seq (.reg [oM 13 1,oO 14 (.make true 1 1 (.int .u8 0) (.t 13) (.t 13)),oM 5 14]) (.seq (.seq (.reg [oM 15 1,oO 16 (.bin .sub (.t 15) (kI 1)),oM 6 16]) (.block 0 (.loop vF))) (.seq (.reg [oM 28 5,oM 4 28]) (.ret))))),[(4,none)]⟩
theorem Ir:aE Tryz.prog { own:=[],comp:=[],frz:=[],nils:=[] } Tryz.f91=some rX:=by kernel_rfl
theorem kK (G:ai) (v n:Nat) (hn:n≤64):au Tryz.prog G 91 [.int .u64 v,.int .i64 n] (.w (.c (.fr 1 ((aQ v n).map bD)))):=by
  refine aG Tryz.func91 Ir rfl rfl ?_;have e1:IntKind.i64.wrap ((n:Int)-1)=(n:Int)-1:=IntWalk.i64_in _ (by omega);simp only[rX,ah,wx,aa,seval,iteOmega,toNatUp,e1];refine bd (nD v n) (fun m=>m) (fun m=>m≤n) n (V0 _) ?_ ?_
  ·refine aB (fun _=>112) ?_ ?_ rfl rfl <;> simp only[wx,aA,aa,seval,iteOmega,toNatUp,Bz,yk,XU,Nat.pow_zero,Nat.div_one]
  ·intro m hm;rcases WN m with rfl | hpos
   ·simp only[vF,nD,wx,aa,seval,iteOmega,toNatUp,Bw];refine eK (id:=1) (n:=n) (s:=1) ?_ ?_ ?_ <;> simp only[wx,aa,seval,iteOmega,toNatUp,ch]
   ·obtain⟨i,rfl⟩:∃ i,m=i+1:=⟨m-1,by omega⟩
    have e2:((i+1:Nat):Int)-1=(i:Int):=by omega
    have hlt:i<(gS v n (i+1)).length:=by rw[um _ _ _ hm]; omega
    have e3:IntKind.i64.wrap ((i:Int)-1)=(i:Int)-1:=IntWalk.i64_in _ (by omega);simp only[vF,nD,wx,aa,seval,iteOmega,toNatUp,e2,e3,WJ,W8,byte_of,fL hlt (fg _),gw,← BA _ _ _ hm,IntKind.bits];refine aX i (by omega) (by omega) (aB id ?_ ?_ rfl rfl) <;> simp only[wx,aA,aa,seval,iteOmega,toNatUp];have e4:v / 256^(n-(i+1)) / 256=v / 256^(n-i):=by
      rw[show n-i=n-(i+1)+1 by omega,Nat.pow_succ,← Nat.div_div_eq_div_mul]
    simpa using congrArg (Nat.cast:Nat→Int) e4
theorem UJ (G:ai) (v:Nat) (n:Int):au Tryz.prog G 91 [.int .u64 v,.int .i64 n] (.w (.c (.fr 1 ((nT v n).map bD)))):=by
  unfold nT;by_cases h:0≤n∧n≤64
  ·rw[if_pos h];obtain⟨n,rfl⟩:=W4 h.1;exact kK G v n (by omega)
  ·rw[if_neg h];refine aG Tryz.func91 Ir rfl rfl ?_;by_cases h0:n<0
   ·simp only[rX,ah,wx,aa,seval,iteOmega,toNatUp];exact pg (by simp[wx,aa,seval,iteOmega,toNatUp])
   ·have h1:64<n:=by omega
    simp only[rX,ah,wx,aa,seval,iteOmega,toNatUp];exact pg (by simp[wx,aa,seval,iteOmega,toNatUp])
def uV:aN := .seq (.seq (.reg [oM 17 6,oO 18 (.bin .geq (.t 17) (kI 0))]) (.cond (.t 18) (.skip) (.exit 0))) (.seq (.block 1 (.seq (.reg [oM 21 5,oM 22 6,oM 23 0,oO 24 (.conv .u8 (.t 23)),oO 25 (.idxSl 1 (.t 21) (.t 22)),oN (.store .sc (.t 25) (.t 24))]) (.reg [oM 26 0,oO 27 (.bin .shr (.t 26) (.k (.c (.d (.int .u64 8))))),oM 0 27]))) (.reg [oM 19 6,oO 20 (.bin .sub (.t 19) (kI 1)),oM 6 20]))
def rD:aF:=⟨2,29,.seq (.reg [oO 4 (.mv (.k (.c .nil)))]) (.seq (.seq (.reg [oM 7 1,oO 8 (.bin .lss (.t 7) (kI 0)),oM 9 8,oG 10 (.mv (.t 1)) 9 false,oG 11 (.bin .gtr (.t 10) (kI 64)) 9 false,oO 12 (.pick (.t 9) (.k (.c (.d (.bool true)))) (.t 11))]) (.cond (.t 12) (.seq (.reg [oO 4 (.mv (.k (.c .nil)))]) (.ret)) (.skip))) (.seq (.reg [oM 13 1,oO 14 (.make true 1 1 (.int .u8 0) (.t 13) (.t 13)),oM 5 14]) (.seq (.seq (.reg [oM 15 1,oO 16 (.bin .sub (.t 15) (kI 1)),oM 6 16]) (.block 0 (.loop uV))) (.seq (.reg [oM 28 5,oM 4 28]) (.ret))))),[(4,none)]⟩
theorem F1:aE Tryz.prog { own:=[],comp:=[],frz:=[],nils:=[] } Tryz.f44=some rD:=by kernel_rfl
theorem pj (G:ai) (v n:Nat) (hn:n≤64):au Tryz.prog G 44 [.int .u64 v,.int .i64 n] (.w (.c (.fr 1 ((aQ v n).map bD)))):=by
  refine aG Tryz.func44 F1 rfl rfl ?_;have e1:IntKind.i64.wrap ((n:Int)-1)=(n:Int)-1:=IntWalk.i64_in _ (by omega);simp only[rD,ah,wx,aa,seval,iteOmega,toNatUp,e1];refine bd (nD v n) (fun m=>m) (fun m=>m≤n) n (V0 _) ?_ ?_
  ·refine aB (fun _=>112) ?_ ?_ rfl rfl <;> simp only[wx,aA,aa,seval,iteOmega,toNatUp,Bz,yk,XU,Nat.pow_zero,Nat.div_one]
  ·intro m hm;rcases WN m with rfl | hpos
   ·simp only[uV,nD,wx,aa,seval,iteOmega,toNatUp,Bw];refine eK (id:=1) (n:=n) (s:=1) ?_ ?_ ?_ <;> simp only[wx,aa,seval,iteOmega,toNatUp,ch]
   ·obtain⟨i,rfl⟩:∃ i,m=i+1:=⟨m-1,by omega⟩
    have e2:((i+1:Nat):Int)-1=(i:Int):=by omega
    have hlt:i<(gS v n (i+1)).length:=by rw[um _ _ _ hm]; omega
    have e3:IntKind.i64.wrap ((i:Int)-1)=(i:Int)-1:=IntWalk.i64_in _ (by omega);simp only[uV,nD,wx,aa,seval,iteOmega,toNatUp,e2,e3,WJ,W8,byte_of,fL hlt (fg _),gw,← BA _ _ _ hm,IntKind.bits];refine aX i (by omega) (by omega) (aB id ?_ ?_ rfl rfl) <;> simp only[wx,aA,aa,seval,iteOmega,toNatUp];have e4:v / 256^(n-(i+1)) / 256=v / 256^(n-i):=by
      rw[show n-i=n-(i+1)+1 by omega,Nat.pow_succ,← Nat.div_div_eq_div_mul]
    simpa using congrArg (Nat.cast:Nat→Int) e4
theorem Sk (G:ai) (v:Nat) (n:Int):au Tryz.prog G 44 [.int .u64 v,.int .i64 n] (.w (.c (.fr 1 ((nT v n).map bD)))):=by
  unfold nT;by_cases h:0≤n∧n≤64
  ·rw[if_pos h];obtain⟨n,rfl⟩:=W4 h.1;exact pj G v n (by omega)
  ·rw[if_neg h];refine aG Tryz.func44 F1 rfl rfl ?_;by_cases h0:n<0
   ·simp only[rD,ah,wx,aa,seval,iteOmega,toNatUp];exact pg (by simp[wx,aa,seval,iteOmega,toNatUp])
   ·have h1:64<n:=by omega
    simp only[rD,ah,wx,aa,seval,iteOmega,toNatUp];exact pg (by simp[wx,aa,seval,iteOmega,toNatUp])
theorem toList_mk (l:List UInt8):(⟨l.toArray⟩:ByteArray).toList=l:=Go.ByteArray.toList_mk l
theorem BB (l m:List UInt8):jn .eql ⟨l.toArray⟩ ⟨m.toArray⟩=some (.bool (l==m)):=by
  simp only[jn,toList_mk]
def DV:aF:=⟨2,10,.seq (.reg [oO 4 (.mv (.k (.c (.d (.bool false)))))]) (.seq (.reg [oM 5 0,oO 6 (.b2s (.t 5)),oM 7 1,oO 8 (.b2s (.t 7)),oO 9 (.bin .eql (.t 6) (.t 8)),oM 4 9]) (.ret)),[(4,none)]⟩
theorem Of:aE Tryz.prog { own:=[],comp:=[],frz:=[],nils:=[] } Tryz.f20=some DV:=by kernel_rfl
theorem P6 (G:ai) (l m:List UInt8):au Tryz.prog G 20 [.sl (l.map bD),.sl (m.map bD)] (.w (.c (.d (.bool (l==m))))):=by
  refine aG Tryz.func20 Of rfl rfl ?_;simp only[DV,ah,wx,aa,seval,iteOmega,toNatUp,qU,BB];exact jj (by simp only[wx,aa,seval,iteOmega,toNatUp])
theorem DW (ls:List (List UInt8)):dp 1 (ls.map fun l=>D.sl (l.map bD))=true:=oK _ (fun _=>rfl) ls
def wE (ls:List (List UInt8)) (i:Nat):St:=⟨aV [(0,.w (.c (.d (.sl (ls.map fun l=>D.sl (l.map bD)))))),(3,.w (.c (.own 1 1 0 ((ls.take i).flatten).length))),(4,.w (.c (.d (.int .i64 (i:Int)))))],hL [(1,.row 1 (((ls.take i).flatten).map bD))],uL [1]⟩
theorem qB {α:Type} (ls:List (List α)) (i:Nat) (h:i<ls.length):(ls.take (i+1)).flatten=(ls.take i).flatten++ls[i]:=by
  rw[WX h,List.flatten_append]; simp
theorem wF {α:Type} (ls:List (List α)) (i:Nat) (h:i<ls.length):(ls.take i).flatten.length+ls[i].length≤ls.flatten.length:=by
  have h1:=qB ls i h;have h2:ls.flatten=(ls.take (i+1)).flatten++(ls.drop (i+1)).flatten:=by rw[← List.flatten_append,Wy]
  have h3:=congrArg List.length h2;rw[VR,h1,VR] at h3;omega
def uG:aN := .seq (.seq (.reg [oM 6 4,oM 7 0,oO 8 (.len (.t 7)),oO 9 (.bin .lss (.t 6) (.t 8))]) (.cond (.t 9) (.skip) (.exit 0))) (.seq (.block 1 (.reg [oM 12 3,oM 13 0,oM 14 4,oO 15 (.idxSl 1 (.t 13) (.t 14)),oO 16 (.load .sc (.t 15)),oO 17 (.app false 1 1 (.t 12) (.t 16)),oM 3 17])) (.reg [oM 10 4,oO 11 (.bin .add (.t 10) (kI 1)),oM 4 11]))
def DX:aF:=⟨1,19,.seq (.reg [oO 2 (.mv (.k (.c .nil)))]) (.seq (.reg [oO 5 (.bldSl true 0 1 (.int .u8 0) []),oM 3 5]) (.seq (.seq (.reg [oO 4 (.mv (kI 0))]) (.block 0 (.loop uG))) (.seq (.reg [oM 18 3,oM 2 18]) (.ret)))),[(2,none)]⟩
theorem Og:aE Tryz.prog { own:=[5],comp:=[],frz:=[],nils:=[] } Tryz.f43=some DX:=by kernel_rfl
theorem kD (G:ai) (ls:List (List UInt8)) (hl:ls.length≤9223372036854775807) (hf:ls.flatten.length≤140737488355328):au Tryz.prog G 43 [.sl (ls.map fun l=>D.sl (l.map bD))] (.w (.c (.fr 1 (ls.flatten.map bD)))):=by
  refine aG Tryz.func43 Og rfl rfl ?_;simp only[DX,ah,wx,aa,seval,iteOmega,toNatUp];refine bd (wE ls) (fun i=>ls.length-i) (fun i=>i≤ls.length) 0 (VY _) ?_ ?_
  ·refine aB (fun _=>40) ?_ ?_ rfl rfl <;> simp only[wx,aA,aa,seval,iteOmega,toNatUp]
  ·intro i hi;by_cases hlt:i<ls.length
   ·have e2:ls[i]?=some ls[i]:=VQ hlt;have e4:IntKind.i64.wrap ((i:Int)+1)=((i+1:Nat):Int):=by rw[IntWalk.i64_in _ (by omega)]; rfl
    have h5:=wF ls i hlt;simp only[uG,wE,wx,aa,seval,iteOmega,toNatUp,aM,e2,e4,Xr,bK];refine aX (i+1) (by omega) (by omega) (aB (fun _=>136) ?_ ?_ rfl rfl) <;> simp only[wx,aA,aa,seval,iteOmega,toNatUp,qB ls i hlt]
   ·have:ls.take i=ls:=VV (by omega);simp only[uG,wE,wx,aa,seval,iteOmega,toNatUp,this];refine eK (id:=1) (n:=ls.flatten.length) (s:=1) ?_ ?_ ?_ <;> simp only[wx,aa,seval,iteOmega,toNatUp]
def wG (ls:List (List UInt8)) (i:Nat):St:=⟨aV [(0,.w (.c (.d (.sl (ls.map fun l=>D.sl (l.map bD)))))),(3,.w (.c (.d (.int .i64 (((ls.take i).flatten).length:Int))))),(9,.w (.c (.d (.sl (ls.map fun l=>D.sl (l.map bD)))))),(10,.w (.c (.d (.int .i64 (ls.length:Int))))),(11,.w (.c (.d (.int .i64 (i:Int)))))],hL [],uL []⟩
def wH (ls:List (List UInt8)) (i:Nat):St:=⟨aV [(6,.w (.c (.own 1 1 0 ((ls.take i).flatten).length))),(22,.w (.c (.d (.sl (ls.map fun l=>D.sl (l.map bD)))))),(23,.w (.c (.d (.int .i64 (ls.length:Int))))),(24,.w (.c (.d (.int .i64 (i:Int)))))],hL [(1,.row 1 (((ls.take i).flatten).map bD))],uL [1]⟩
def uW:aN := .seq (.reg [oO 12 (.bin .lss (.t 11) (.t 10))]) (.seq (.cond (.t 12) (.skip) (.exit 0)) (.seq (.block 1 (.seq (.reg [oO 13 (.idxSl 1 (.t 9) (.t 11)),oO 14 (.load .sc (.t 13)),oM 5 14]) (.reg [oM 15 3,oM 16 5,oO 17 (.len (.t 16)),oO 18 (.bin .add (.t 15) (.t 17)),oM 3 18]))) (.reg [oO 19 (.bin .add (.t 11) (kI 1)),oM 11 19])))
def uX:aN := .seq (.reg [oO 25 (.bin .lss (.t 24) (.t 23))]) (.seq (.cond (.t 25) (.skip) (.exit 2)) (.seq (.block 3 (.seq (.reg [oO 26 (.idxSl 1 (.t 22) (.t 24)),oO 27 (.load .sc (.t 26)),oM 8 27]) (.reg [oM 28 6,oM 29 8,oO 30 (.app false 1 1 (.t 28) (.t 29)),oM 6 30]))) (.reg [oO 31 (.bin .add (.t 24) (kI 1)),oM 24 31])))
def F2:aF:=⟨1,33,.seq (.reg [oO 2 (.mv (.k (.c .nil)))]) (.seq (.reg [oO 3 (.mv (kI 0))]) (.seq (.seq (.reg [oM 9 0,oO 10 (.len (.t 9)),oO 11 (.mv (kI 0))]) (.block 0 (.loop uW))) (.seq (.reg [oM 20 3,oO 21 (.make true 1 1 (.int .u8 0) (kI 0) (.t 20)),oM 6 21]) (.seq (.seq (.reg [oM 22 0,oO 23 (.len (.t 22)),oO 24 (.mv (kI 0))]) (.block 2 (.loop uX))) (.seq (.reg [oM 32 6,oM 2 32]) (.ret)))))),[(2,none)]⟩
theorem P8:aE Tryz.prog { own:=[],comp:=[],frz:=[],nils:=[] } Tryz.f90=some F2:=by kernel_rfl
theorem fC (G:ai) (ls:List (List UInt8)) (hl:ls.length≤9223372036854775807) (hf:ls.flatten.length≤140737488355328):au Tryz.prog G 90 [.sl (ls.map fun l=>D.sl (l.map bD))] (.w (.c (.fr 1 (ls.flatten.map bD)))):=by
  refine aG Tryz.func90 P8 rfl rfl ?_;simp only[F2,ah,wx,aa,seval,iteOmega,toNatUp];refine bd (wG ls) (fun i=>ls.length-i) (fun i=>i≤ls.length) 0 (VY _) ?_ ?_
  ·refine aB id ?_ ?_ rfl rfl <;> simp only[wx,aA,aa,seval,iteOmega,toNatUp]
  ·intro i hi;by_cases hlt:i<ls.length
   ·have e2:ls[i]?=some ls[i]:=VQ hlt;have e4:IntKind.i64.wrap ((i:Int)+1)=((i+1:Nat):Int):=by rw[IntWalk.i64_in _ (by omega)]; rfl
    have h5:=wF ls i hlt;have e5:IntKind.i64.wrap (((ls.take i).flatten.length:Int)+(ls[i].length:Int))=(((ls.take (i+1)).flatten.length:Nat):Int):=by
      rw[qB ls i hlt,VR,IntWalk.i64_in _ (by omega)]; rfl
    simp only[uW,wG,wx,aa,seval,iteOmega,toNatUp,aM,e2,e4,e5];refine aX (i+1) (by omega) (by omega) (aB id ?_ ?_ rfl rfl) <;> simp only[wx,aA,aa,seval,iteOmega,toNatUp]
   ·have:ls.take i=ls:=VV (by omega);simp only[uW,wG,wx,aa,seval,iteOmega,toNatUp,this,Xr];refine bd (wH ls) (fun i=>ls.length-i) (fun i=>i≤ls.length) 0 (VY _) ?_ ?_
    ·refine aB (fun _=>168) ?_ ?_ rfl rfl <;> simp only[wx,aA,aa,seval,iteOmega,toNatUp]
    ·intro i hi;by_cases hlt:i<ls.length
     ·have e2:ls[i]?=some ls[i]:=VQ hlt;have e4:IntKind.i64.wrap ((i:Int)+1)=((i+1:Nat):Int):=by rw[IntWalk.i64_in _ (by omega)]; rfl
      have h5:=wF ls i hlt;simp only[uX,wH,wx,aa,seval,iteOmega,toNatUp,aM,e2,e4,Xr,bK];refine aX (i+1) (by omega) (by omega) (aB (fun _=>240) ?_ ?_ rfl rfl) <;> simp only[wx,aA,aa,seval,iteOmega,toNatUp,qB ls i hlt]
     ·have:ls.take i=ls:=VV (by omega);simp only[uX,wH,wx,aa,seval,iteOmega,toNatUp,this];refine eK (id:=1) (n:=ls.flatten.length) (s:=1) ?_ ?_ ?_ <;> simp only[wx,aa,seval,iteOmega,toNatUp]
def aY (l:List UInt8):Nat:=l.foldl (fun a x=>(a*256+x.toNat)%18446744073709551616) 0
theorem F3 (l:List UInt8):aY l<18446744073709551616:=by
  unfold aY;rcases List.eq_nil_or_concat l with rfl | ⟨a,x,rfl⟩
  ·simp
  ·simp only[List.concat_eq_append,List.foldl_append,Xi,List.foldl_nil]; omega
theorem u64_in (n:Int) (h₀:0≤n) (h₁:n<2^64):IntKind.u64.wrap n=n:=by rw[IntKind.wrap_u64]; omega
theorem MV (a:List UInt8) (x:UInt8):bits .or .u64 (IntKind.u64.wrap ((aY a:Int)*256)) (x.toNat:Int)=(aY (a++[x]):Int):=by
  have hx:x.toNat<256:=x.toNat_lt
  have h1:=bits_join .u64 64 (by decide) u64_in 8 (IntKind.u64.wrap ((aY a:Int)*256)) (x.toNat:Int)
    (by rw[IntKind.wrap_u64]; omega) (by rw[IntKind.wrap_u64]; omega) (by rw[IntKind.wrap_u64]; omega) (by omega) (by omega) (by omega)
  rw[h1,IntKind.wrap_u64];simp only[aY,List.foldl_append,Xi,List.foldl_nil];omega
theorem BC (l:List UInt8) (j:Nat) (h:j<l.length):bits .or .u64 (IntKind.u64.wrap ((aY (l.take j):Int)*256)) (l[j].toNat:Int)=(aY (l.take (j+1)):Int):=by
  rw[MV,WX h]
theorem Oh (a b:List UInt8):aY (a++b)=(aY a*256^b.length+aY b)%18446744073709551616:=by
  have key:∀ (n:Nat) (b:List UInt8),b.length=n→aY (a++b)=(aY a*256^n+aY b)%18446744073709551616:=by
    intro n
    induction n with
    | zero =>
      intro b hb;have:b=[]:=WK hb;subst this;have h0:aY []=0:=rfl;rw[Wc,Nat.pow_zero,h0];have:=F3 a;omega
    | succ n ih =>
      intro b hb;rcases List.eq_nil_or_concat b with rfl | ⟨c,x,rfl⟩
      ·simp at hb
      ·rw[List.concat_eq_append] at hb ⊢;rw[← Wp];have h1:∀ l:List UInt8,aY (l++[x])=(aY l*256+x.toNat)%18446744073709551616:=fun l=>by simp[aY]
       rw[h1,h1,ih c (by simpa using hb),Nat.pow_succ];generalize aY a=p;generalize aY c=q;generalize 256^n=r;have e:p*(r*256)=p*r*256:=by rw[Nat.mul_assoc]
       rw[e];generalize p*r=z;omega
  exact key _ b rfl
theorem MW (l:List UInt8) (h:8<l.length):aY (l.drop (l.length-8))=aY l:=by
  have h1:=Oh (l.take (l.length-8)) (l.drop (l.length-8));rw[Wy] at h1;have h2:(l.drop (l.length-8)).length=8:=by rw[V5]; omega
  rw[h2] at h1;have h3:=F3 (l.drop (l.length-8));rw[h1];have:(256:Nat)^8=18446744073709551616:=by decide
  rw[this];omega
def sV (l:List UInt8) (i:Nat):St:=⟨aV [(3,.w (.c (.d (.int .u64 (aY (l.take i)))))),(14,.w (.c (.d (.sl (l.map bD))))),(15,.w (.c (.d (.int .i64 (l.length:Int))))),(16,.w (.c (.d (.int .i64 (i:Int)))))],hL [],uL []⟩
def qV:aN := .seq (.reg [oO 17 (.bin .lss (.t 16) (.t 15))]) (.seq (.cond (.t 17) (.skip) (.exit 0)) (.seq (.block 1 (.seq (.reg [oO 18 (.idxSl 1 (.t 14) (.t 16)),oO 19 (.load .sc (.t 18)),oM 5 19]) (.reg [oM 20 3,oO 21 (.bin .shl (.t 20) (.k (.c (.d (.int .u64 8))))),oM 22 5,oO 23 (.conv .u64 (.t 22)),oO 24 (.bin .or (.t 21) (.t 23)),oM 3 24]))) (.reg [oO 25 (.bin .add (.t 16) (kI 1)),oM 16 25])))
def xu:aF:=⟨1,27,.seq (.reg [oO 2 (.mv (.k (.c (.d (.int .u64 0)))))]) (.seq (.seq (.reg [oM 6 0,oO 7 (.len (.t 6)),oO 8 (.bin .gtr (.t 7) (kI 8))]) (.cond (.t 8) (.reg [oM 9 0,oM 10 0,oO 11 (.len (.t 10)),oO 12 (.bin .sub (.t 11) (kI 8)),oO 13 (.slice 1 (.t 9) (some (.t 12)) none none),oM 0 13]) (.skip))) (.seq (.reg [oO 3 (.mv (.k (.c (.d (.int .u64 0)))))]) (.seq (.seq (.reg [oM 14 0,oO 15 (.len (.t 14)),oO 16 (.mv (kI 0))]) (.block 0 (.loop qV))) (.seq (.reg [oM 26 3,oM 2 26]) (.ret))))),[(2,none)]⟩
theorem Sl:aE Tryz.prog { own:=[],comp:=[],frz:=[],nils:=[] } Tryz.f48=some xu:=by kernel_rfl
theorem J6 (G:ai) (Q:AX→St→Prop) (l:List UInt8) (hl:l.length≤8) (σ:St) (he:dK σ (sV l 0)) (hq:∀ f,f 3=.w (.c (.d (.int .u64 (aY l))))→Q (.ex 0) ⟨f,hN,uN⟩):bz Tryz.prog G (.loop qV) Q σ:=by
  refine bd (sV l) (fun i=>l.length-i) (fun i=>i≤l.length) 0 (VY _) he ?_;intro i hi;by_cases hlt:i<l.length
  ·have hb:=l[i].toNat_lt;have e2:l[i]?=some l[i]:=VQ hlt;have e3:IntKind.u64.wrap (l[i].toNat:Int)=(l[i].toNat:Int):=u64_in _ (by omega) (by omega);have e4:IntKind.i64.wrap ((i:Int)+1)=((i+1:Nat):Int):=by rw[IntWalk.i64_in _ (by omega)]; rfl
   have e5:=BC l i hlt;simp only[qV,sV,wx,aa,seval,iteOmega,toNatUp,aM,e2,IntKind.bits,e3,e4];refine aX (i+1) (by omega) (by omega) (aB id ?_ ?_ rfl rfl) <;> simp only[wx,aA,aa,seval,iteOmega,toNatUp,← e5]
  ·have:l.take i=l:=VV (by omega);simp only[qV,sV,wx,aa,seval,iteOmega,toNatUp,this];exact hq _ (by simp only[wx,aa,seval,iteOmega,toNatUp])
theorem pN (G:ai) (l:List UInt8) (hl:l.length≤9223372036854775807):au Tryz.prog G 48 [.sl (l.map bD)] (.w (.c (.d (.int .u64 (aY l))))):=by
  refine aG Tryz.func48 Sl rfl rfl ?_;by_cases h8:8<l.length
  ·have e0:IntKind.i64.wrap ((l.length:Int)-8)=((l.length-8:Nat):Int):=by rw[IntWalk.i64_in _ (by omega)]; omega
   have e1:(l.drop (l.length-8)).take (l.length-(l.length-8))=l.drop (l.length-8):=VV (by rw[V5]; omega);simp only[xu,ah,wx,aa,seval,iteOmega,toNatUp,e0,e1];refine J6 G _ (l.drop (l.length-8)) (by rw[V5]; omega) _ ?_ fun f hf=>?_
   ·refine aB id ?_ ?_ rfl rfl <;> simp only[wx,aA,aa,seval,iteOmega,toNatUp] <;> rfl
   ·rw[MW l h8] at hf;simp only[wx,aa,seval,iteOmega,toNatUp,hf];exact jj (by simp only[wx,aa,seval,iteOmega,toNatUp])
  ·simp only[xu,ah,wx,aa,seval,iteOmega,toNatUp];refine J6 G _ l (by omega) _ ?_ fun f hf=>?_
   ·refine aB id ?_ ?_ rfl rfl <;> simp only[wx,aA,aa,seval,iteOmega,toNatUp] <;> rfl
   ·simp only[wx,aa,seval,iteOmega,toNatUp,hf];exact jj (by simp only[wx,aa,seval,iteOmega,toNatUp])
theorem BD (v k:Nat):aQ v (k+1)=aQ (v / 256) k++[UInt8.ofNat v]:=by
  unfold aQ;rw[XA,Wu]
  congr 1
  ·apply WB;intro i hi;have hi':i<k:=Xu.1 hi;rw[show k+1-1-i=(k-1-i)+1 by omega,Nat.pow_succ,Nat.mul_comm,← Nat.div_div_eq_div_mul]
  ·simp
theorem DY (a:List UInt8) (x:UInt8):aY (a++[x])=(aY a*256+x.toNat)%18446744073709551616:=by simp[aY]
theorem F4 {k:Nat} (h:k≤8):256^k≤18446744073709551616:=Wz (Nat.pow_le_pow_right (by decide) h) (by decide)
theorem get_put (k:Nat) (h:k≤8):∀ v,aY (aQ v k)=v%256^k:=by
  induction k with
  | zero=>intro v; rw[Nat.pow_zero,Nat.mod_one]; rfl
  | succ k ih =>
    intro v;have hp:=F4 h;have hv:v%256^(k+1)<256^(k+1):=Xo _ (Nat.pow_pos (by decide));have e:v%256^(k+1)=v%256+256*(v / 256%256^k):=by rw[Nat.pow_succ',Nat.mod_mul]
    rw[BD,DY,ih (by omega),UInt8.toNat_ofNat',Nat.mod_eq_of_lt (by omega)];omega
theorem jb:∀ (k:Nat) (l:List UInt8),l.length=k→k≤8→aY l<256^k∧aQ (aY l) k=l:=by
  intro k
  induction k with
  | zero=>intro l h _; rw[WK h]; exact⟨by decide,rfl⟩
  | succ k ih =>
    intro l h h8;rcases List.eq_nil_or_concat l with rfl | ⟨a,x,rfl⟩
    ·simp at h
    ·rw[List.concat_eq_append] at *
     obtain⟨a1,a2⟩:=ih a (by simpa using h) (by omega);have hx:x.toNat<256:=x.toNat_lt;have hp:=F4 h8;have e:aY (a++[x])=aY a*256+x.toNat:=by
       rw[DY,Nat.mod_eq_of_lt];rw[Nat.pow_succ] at hp; omega
     refine⟨by rw[e,Nat.pow_succ]; omega,?_⟩;rw[e,BD,show (aY a*256+x.toNat) / 256=aY a by omega,a2]
     congr 2
     rw[← UInt8.toNat_inj,UInt8.toNat_ofNat'];omega
structure Hd where
  lp:Int
  vr:Int
  md:Int
  st:Int
  pl:Int
  pr:Int
  rd:Nat
  rp:Nat
  ri:Nat
  rf:Nat
  og:Nat
  rc:Nat
  tr:Nat
def Hd.z:Hd:=⟨0,0,0,0,0,0,0,0,0,0,0,0,0⟩
def K8 (h:Hd):Prop:=0≤h.lp∧h.lp≤3∧(h.vr=3∨h.vr=4)∧0≤h.md∧h.md≤7∧0≤h.st∧h.st≤255∧-128≤h.pl∧h.pl≤127∧-128≤h.pr∧h.pr≤127
instance (h:Hd):Decidable (K8 h):=by unfold K8; infer_instance
def a6 (l:List UInt8) (a n:Nat):List UInt8:=(l.drop a).take n
theorem lv {l:List UInt8} {a n:Nat} (h:a+n≤l.length):(a6 l a n).length=n:=by
  unfold a6; rw[VW,V5]; omega
theorem mJ (p q r:List UInt8):a6 (p++(q++r)) p.length q.length=q:=by
  unfold a6; rw[List.drop_left,List.take_left]
theorem DZ (l:List UInt8) (a n m:Nat):a6 l a n++a6 l (a+n) m=a6 l a (n+m):=by
  unfold a6;rw[List.take_add,XQ]
theorem Oq (x:UInt8):gK x=if ek x 7==1 then ar (ej x 1) 27 else ej x 1:=by
  have:=kO (p:=fun x=>gK x==if ek x 7==1 then ar (ej x 1) 27 else ej x 1) (by decide +kernel) x
  simpa using this
theorem It (x:UInt8):gx x 2=gK x:=by
  have:=kO (p:=fun x=>gx x 2==gK x) (by decide +kernel) x
  simpa using this
def xy:aF:=⟨1,11,.seq (.reg [oO 2 (.mv (.k (.c (.d (.int .u8 0)))))]) (.seq (.seq (.reg [oM 3 0,oO 4 (.bin .shr (.t 3) (.k (.c (.d (.int .u64 7))))),oO 5 (.bin .eql (.t 4) (.k (.c (.d (.int .u8 1)))))]) (.cond (.t 5) (.seq (.reg [oM 6 0,oO 7 (.bin .shl (.t 6) (.k (.c (.d (.int .u64 1))))),oO 8 (.bin .xor (.t 7) (.k (.c (.d (.int .u8 27))))),oM 2 8]) (.ret)) (.skip))) (.seq (.reg [oM 9 0,oO 10 (.bin .shl (.t 9) (.k (.c (.d (.int .u64 1))))),oM 2 10]) (.ret))),[(2,none)]⟩
theorem Sy:aE Tryz.prog { own:=[],comp:=[],frz:=[],nils:=[] } Tryz.f163=some xy:=by kernel_rfl
theorem Ka (G:ai) (x:UInt8):au Tryz.prog G 163 [bD x] (.w (.c (.d (bD (gK x))))):=by
  refine aG Tryz.func163 Sy rfl rfl ?_;have h1:=Ii x .u64 7 7 rfl (by decide);have h2:=Sd (ek x 7) 1 1 rfl;have h3:=Ij x .u64 1 1 rfl (by decide);have h4:=Sf (ej x 1) 27 27 rfl;rw[Oq];cases h5:ek x 7==1
  ·rw[h5] at h2;simp only[xy,ah,h1,h2,h3,h4,af,aa,seval,iteOmega,toNatUp,if_false,Bool.false_eq_true];exact aJ
  ·rw[h5] at h2;simp only[xy,ah,h1,h2,h3,h4,af,aa,seval,iteOmega,toNatUp,if_true];exact aJ
def KR:List UInt8:=[99,124,119,123,242,107,111,197,48,1,103,43,254,215,171,118,202,130,201,125,250,89,71,240,173,212,162,175,156,164,114,192,183,253,147,38,54,63,247,204,52,165,229,241,113,216,49,21,4,199,35,195,24,150,5,154,7,18,128,226,235,39,178,117,9,131,44,26,27,110,90,160,82,59,214,179,41,227,47,132,83,209,0,237,32,252,177,91,106,203,190,57,74,76,88,207,208,239,170,251,67,77,51,133,69,249,2,127,80,60,159,168,81,163,64,143,146,157,56,245,188,182,218,33,16,255,243,210,205,12,19,236,95,151,68,23,196,167,126,61,100,93,25,115,96,129,79,220,34,42,144,136,70,238,184,20,222,94,11,219,224,50,58,10,73,6,36,92,194,211,172,98,145,149,228,121,231,200,55,109,141,213,78,169,108,86,244,234,101,122,174,8,186,120,37,46,28,166,180,198,232,221,116,31,75,189,139,138,112,62,181,102,72,3,246,14,97,53,87,185,134,193,29,158,225,248,152,17,105,217,142,148,155,30,135,233,206,85,40,223,140,161,137,13,191,230,66,104,65,153,45,15,176,84,187,22]
theorem Qj:KR=zb:=by decide +kernel
set_option maxRecDepth 100000 in
theorem Or:ByteArray.size ⟨#[99,124,119,123,242,107,111,197,48,1,103,43,254,215,171,118,202,130,201,125,250,89,71,240,173,212,162,175,156,164,114,192,183,253,147,38,54,63,247,204,52,165,229,241,113,216,49,21,4,199,35,195,24,150,5,154,7,18,128,226,235,39,178,117,9,131,44,26,27,110,90,160,82,59,214,179,41,227,47,132,83,209,0,237,32,252,177,91,106,203,190,57,74,76,88,207,208,239,170,251,67,77,51,133,69,249,2,127,80,60,159,168,81,163,64,143,146,157,56,245,188,182,218,33,16,255,243,210,205,12,19,236,95,151,68,23,196,167,126,61,100,93,25,115,96,129,79,220,34,42,144,136,70,238,184,20,222,94,11,219,224,50,58,10,73,6,36,92,194,211,172,98,145,149,228,121,231,200,55,109,141,213,78,169,108,86,244,234,101,122,174,8,186,120,37,46,28,166,180,198,232,221,116,31,75,189,139,138,112,62,181,102,72,3,246,14,97,53,87,185,134,193,29,158,225,248,152,17,105,217,142,148,155,30,135,233,206,85,40,223,140,161,137,13,191,230,66,104,65,153,45,15,176,84,187,22]⟩=256:=rfl
set_option maxRecDepth 100000 in
theorem Sz (x:UInt8):(ByteArray.data ⟨#[99,124,119,123,242,107,111,197,48,1,103,43,254,215,171,118,202,130,201,125,250,89,71,240,173,212,162,175,156,164,114,192,183,253,147,38,54,63,247,204,52,165,229,241,113,216,49,21,4,199,35,195,24,150,5,154,7,18,128,226,235,39,178,117,9,131,44,26,27,110,90,160,82,59,214,179,41,227,47,132,83,209,0,237,32,252,177,91,106,203,190,57,74,76,88,207,208,239,170,251,67,77,51,133,69,249,2,127,80,60,159,168,81,163,64,143,146,157,56,245,188,182,218,33,16,255,243,210,205,12,19,236,95,151,68,23,196,167,126,61,100,93,25,115,96,129,79,220,34,42,144,136,70,238,184,20,222,94,11,219,224,50,58,10,73,6,36,92,194,211,172,98,145,149,228,121,231,200,55,109,141,213,78,169,108,86,244,234,101,122,174,8,186,120,37,46,28,166,180,198,232,221,116,31,75,189,139,138,112,62,181,102,72,3,246,14,97,53,87,185,134,193,29,158,225,248,152,17,105,217,142,148,155,30,135,233,206,85,40,223,140,161,137,13,191,230,66,104,65,153,45,15,176,84,187,22]⟩).toList[x.toNat]?=some (dX x):=by
  have e:(ByteArray.data ⟨#[99,124,119,123,242,107,111,197,48,1,103,43,254,215,171,118,202,130,201,125,250,89,71,240,173,212,162,175,156,164,114,192,183,253,147,38,54,63,247,204,52,165,229,241,113,216,49,21,4,199,35,195,24,150,5,154,7,18,128,226,235,39,178,117,9,131,44,26,27,110,90,160,82,59,214,179,41,227,47,132,83,209,0,237,32,252,177,91,106,203,190,57,74,76,88,207,208,239,170,251,67,77,51,133,69,249,2,127,80,60,159,168,81,163,64,143,146,157,56,245,188,182,218,33,16,255,243,210,205,12,19,236,95,151,68,23,196,167,126,61,100,93,25,115,96,129,79,220,34,42,144,136,70,238,184,20,222,94,11,219,224,50,58,10,73,6,36,92,194,211,172,98,145,149,228,121,231,200,55,109,141,213,78,169,108,86,244,234,101,122,174,8,186,120,37,46,28,166,180,198,232,221,116,31,75,189,139,138,112,62,181,102,72,3,246,14,97,53,87,185,134,193,29,158,225,248,152,17,105,217,142,148,155,30,135,233,206,85,40,223,140,161,137,13,191,230,66,104,65,153,45,15,176,84,187,22]⟩).toList=KR:=rfl;rw[e,Qj]; exact Oo x
set_option maxRecDepth 100000
def BI:ByteArray:=⟨#[99,124,119,123,242,107,111,197,48,1,103,43,254,215,171,118,202,130,201,125,250,89,71,240,173,212,162,175,156,164,114,192,183,253,147,38,54,63,247,204,52,165,229,241,113,216,49,21,4,199,35,195,24,150,5,154,7,18,128,226,235,39,178,117,9,131,44,26,27,110,90,160,82,59,214,179,41,227,47,132,83,209,0,237,32,252,177,91,106,203,190,57,74,76,88,207,208,239,170,251,67,77,51,133,69,249,2,127,80,60,159,168,81,163,64,143,146,157,56,245,188,182,218,33,16,255,243,210,205,12,19,236,95,151,68,23,196,167,126,61,100,93,25,115,96,129,79,220,34,42,144,136,70,238,184,20,222,94,11,219,224,50,58,10,73,6,36,92,194,211,172,98,145,149,228,121,231,200,55,109,141,213,78,169,108,86,244,234,101,122,174,8,186,120,37,46,28,166,180,198,232,221,116,31,75,189,139,138,112,62,181,102,72,3,246,14,97,53,87,185,134,193,29,158,225,248,152,17,105,217,142,148,155,30,135,233,206,85,40,223,140,161,137,13,191,230,66,104,65,153,45,15,176,84,187,22]⟩
def Iu:aF:=⟨1,5,.seq (.reg [oO 2 (.mv (.k (.c (.d (.int .u8 0)))))]) (.seq (.reg [oM 3 0,oO 4 (.idxStr (.k (.c (.d (.str BI)))) (.t 3)),oM 2 4]) (.ret)),[(2,none)]⟩
theorem SA:aE Tryz.prog { own:=[],comp:=[],frz:=[],nils:=[] } Tryz.f180=some Iu:=by kernel_rfl
theorem pP (G:ai) (x:UInt8):au Tryz.prog G 180 [bD x] (.w (.c (.d (bD (dX x))))):=by
  refine aG Tryz.func180 SA rfl rfl ?_;have h:=kC x;have e:=Sz x;simp only[Iu,BI,ah,af,aa,seval,iteOmega,toNatUp,Or,e];exact aJ
def bL (f:Nat→UInt8) (l:List UInt8) (i:Nat):List UInt8:=(List.range i).map f++l.drop i
theorem mS (f:Nat→UInt8) (l:List UInt8) {i:Nat} (h:i≤l.length):(bL f l i).length=l.length:=by
  unfold bL; rw[VR,VZ,XB,V5]; omega
theorem oY (f:Nat→UInt8) (l:List UInt8):bL f l 0=l:=by simp[bL]
theorem D7 (f:Nat→UInt8) (l:List UInt8) {i:Nat} (h:l.length≤i):bL f l i=(List.range i).map f:=by
  unfold bL; rw[WT h,Wc]
theorem F9 (f:Nat→UInt8) (l:List UInt8) {i j:Nat} (hj:i≤j):(bL f l i)[j]?=l[j]?:=by
  unfold bL;rw[Ws (by simpa using hj),WI,VZ,XB,show i+(j-i)=j by omega]
theorem Ot (f:Nat→UInt8) (l:List UInt8) {i j:Nat} (hj:j<i):(bL f l i)[j]?=some (f j):=by
  unfold bL;rw[WE (by simpa using hj)];simp[hj]
theorem oZ (f:Nat→UInt8) (l:List UInt8) {i:Nat} (h:i<l.length):(bL f l i).set i (f i)=bL f l (i+1):=by
  unfold bL;rw[XJ _ _ (by simp),VZ,XB,XU,List.drop_eq_getElem_cons h,List.set_cons_zero,XA,Wu,Wp];rfl
theorem ez {l:List UInt8} {j:Nat} (h:j<l.length):l[j]?=some (l.getD j 0):=by
  rw[VS,VQ h]; rfl
theorem VG:bD 1=.int .u8 1:=rfl
set_option maxHeartbeats 1600000
def ma (s k:List UInt8):List UInt8:=bU (gD (ba s) (ba k))
def nU (s:List UInt8):List UInt8:=bU (ie (ba s))
def p0 (s:List UInt8):List UInt8:=bU (gE (ba s))
theorem Ou (s k:List UInt8):(ma s k).length=16:=fK _
theorem vJ (s:List UInt8):(nU s).length=16:=fK _
theorem D8 (s:List UInt8):(p0 s).length=16:=fK _
theorem lI (f:dB):J9 (ba (bU f)) f:=fun j hj=>by
  unfold ba; rw[VS,rE f hj]; rfl
theorem vK (f g:dB):ma (bU f) (bU g)=bU (gD f g):=u5 fun j hj=>by
  unfold gD; rw[lI f j hj,lI g j hj]
theorem D9 (f:dB):nU (bU f)=bU (ie f):=u5 fun j hj=>by
  unfold ie; rw[lI f _ (by omega)]
theorem Ov (f:dB):p0 (bU f)=bU (gE f):=u5 fun j hj=>by
  unfold gE; rw[lI f _ (by omega),lI f _ (by omega),lI f _ (by omega),lI f _ (by omega)]
theorem gW:[D.int .u8 0,.int .u8 0,.int .u8 0,.int .u8 0,.int .u8 0,.int .u8 0,.int .u8 0,.int .u8 0,.int .u8 0,.int .u8 0,.int .u8 0,.int .u8 0,.int .u8 0,.int .u8 0,.int .u8 0,.int .u8 0]=(bw 16 (0:UInt8)).map bD:=rfl
theorem rF (f:dB) {l:List UInt8} (h:l.length=16):bL f l 16=bU f:=D7 f l (by omega)
theorem lS (a b:Nat):Int.tmod (a:Int) (b:Int)=((a%b:Nat):Int):=rfl
def ym (s k:List UInt8) (i:Nat):St:=⟨aV [(2,.w (.c (.pa 1 1))),(4,.w (.c (.pa 2 1))),(7,.w (.c (.d (.agg (k.map bD))))),(8,.w (.c (.d (.int .i64 (i:Int)))))],hL [(1,.row 1 ((bL (gD (ba s) (ba k)) s i).map bD)),(2,.row 1 ((bw 16 (0:UInt8)).map bD))],uL [1,2]⟩
def vL:aN := .seq (.reg [oO 9 (.bin .lss (.t 8) (kI 16))]) (.seq (.cond (.t 9) (.skip) (.exit 0)) (.seq (.block 1 (.seq (.reg [oM 10 8,oO 11 (.idxArr 1 16 .sc (.t 7) (.t 8)),oM 5 10,oM 6 11]) (.reg [oM 12 5,oO 13 (.idxPa 1 16 (.t 2) (.t 12)),oO 14 (.load .sc (.t 13)),oM 15 6,oO 16 (.bin .xor (.t 14) (.t 15)),oO 17 (.idxPa 1 16 (.t 2) (.t 12)),oN (.store .sc (.t 17) (.t 16))]))) (.reg [oO 18 (.bin .add (.t 8) (kI 1)),oM 8 18])))
def Iv:aF:=⟨2,20,.seq (.reg [oO 2 (.box .ownArr (.t 0)),oO 3 (.box .roArr (.t 1)),oO 4 (.allocArr [(.int .u8 0),(.int .u8 0),(.int .u8 0),(.int .u8 0),(.int .u8 0),(.int .u8 0),(.int .u8 0),(.int .u8 0),(.int .u8 0),(.int .u8 0),(.int .u8 0),(.int .u8 0),(.int .u8 0),(.int .u8 0),(.int .u8 0),(.int .u8 0)])]) (.seq (.seq (.reg [oO 7 (.load (.ag 16) (.t 3)),oO 8 (.mv (kI 0))]) (.block 0 (.loop vL))) (.seq (.reg [oO 19 (.load (.ag 16) (.t 2)),oN (.store (.ag 16) (.t 4) (.t 19))]) (.ret))),[(4,(some (.ag 16)))]⟩
theorem SB:aE Tryz.prog { own:=[2],comp:=[],frz:=[],nils:=[] } Tryz.f165=some Iv:=by kernel_rfl
theorem yn (G:ai) (s k:List UInt8) (hs:s.length=16) (hk:k.length=16):au Tryz.prog G 165 [.agg (s.map bD),.agg (k.map bD)] (.w (.c (.d (.agg ((ma s k).map bD))))):=by
  refine aG Tryz.func165 SB rfl rfl ?_;simp only[Iv,ah,af,aa,seval,iteOmega,toNatUp,gW,ib,hk];refine bd (ym s k) (fun i=>16-i) (fun i=>i≤16) 0 (VY _) ?_ ?_
  ·refine aB (fun i=>if i=1 then 16 else 32) ?_ ?_ rfl rfl <;> simp only[wx,aA,aK,aa,seval,iteOmega,toNatUp,oY]
  ·intro i hi;have hl:(bL (gD (ba s) (ba k)) s i).length=16:=by rw[mS _ _ (by omega)]; exact hs
   by_cases hlt:i<16
   ·have g1:k[i]?=some (k.getD i 0):=ez (by omega);have g2:(bL (gD (ba s) (ba k)) s i)[i]?=some (s.getD i 0):=by rw[F9 _ _ (V0 i)]; exact ez (by omega)
    have h3:i<(bL (gD (ba s) (ba k)) s i).length:=by omega
    have h4:=gu (s.getD i 0) (k.getD i 0);have h5:(bL (gD (ba s) (ba k)) s i).set i (ar (s.getD i 0) (k.getD i 0))=bL (gD (ba s) (ba k)) s (i+1):=oZ (gD (ba s) (ba k)) s (by omega);simp only[vL,ym,af,aa,seval,iteOmega,toNatUp,aM,g1,g2,h4,fL h3 (fg _),gw,h5];refine aX (i+1) (by omega) (by omega) (aB (fun i=>i) ?_ ?_ rfl rfl) <;> simp only[wx,aA,aK,aa,seval,iteOmega,toNatUp]
   ·obtain rfl:i=16:=by omega
    have e:bL (gD (ba s) (ba k)) s 16=ma s k:=rF _ hs;have e2:=Ou s k;simp only[vL,ym,e,af,aa,seval,iteOmega,toNatUp,e2,ib,cH];exact aJ
def yo (s:List UInt8) (i:Nat):St:=⟨aV [(1,.w (.c (.ra (s.map bD)))),(2,.w (.c (.pa 2 1))),(3,.w (.c (.pa 1 1))),(6,.w (.c (.d (.int .i64 (i:Int)))))],hL [(1,.row 1 ((bL (ie (ba s)) (bw 16 (0:UInt8)) i).map bD)),(2,.row 1 ((bw 16 (0:UInt8)).map bD))],uL [1,2]⟩
def u6:aN := .seq (.reg [oO 7 (.bin .lss (.t 6) (kI 16))]) (.seq (.cond (.t 7) (.skip) (.exit 0)) (.seq (.block 1 (.seq (.reg [oM 8 6,oM 4 8]) (.seq (.reg [oM 9 4,oO 10 (.bin .rem (.t 9) (kI 4)),oM 5 10]) (.reg [oM 11 4,oM 12 4,oM 13 5,oO 14 (.bin .mul (.t 13) (kI 4)),oO 15 (.bin .add (.t 12) (.t 14)),oO 16 (.bin .rem (.t 15) (kI 16)),oO 17 (.idxPa 1 16 (.t 1) (.t 16)),oO 18 (.load .sc (.t 17)),oO 19 (.call 180 [(.t 18)] none),oO 20 (.idxPa 1 16 (.t 3) (.t 11)),oN (.store .sc (.t 20) (.t 19))])))) (.reg [oO 21 (.bin .add (.t 6) (kI 1)),oM 6 21])))
def Ga:aF:=⟨1,23,.seq (.reg [oO 1 (.box .roArr (.t 0)),oO 2 (.allocArr [(.int .u8 0),(.int .u8 0),(.int .u8 0),(.int .u8 0),(.int .u8 0),(.int .u8 0),(.int .u8 0),(.int .u8 0),(.int .u8 0),(.int .u8 0),(.int .u8 0),(.int .u8 0),(.int .u8 0),(.int .u8 0),(.int .u8 0),(.int .u8 0)])]) (.seq (.reg [oO 3 (.allocArr [(.int .u8 0),(.int .u8 0),(.int .u8 0),(.int .u8 0),(.int .u8 0),(.int .u8 0),(.int .u8 0),(.int .u8 0),(.int .u8 0),(.int .u8 0),(.int .u8 0),(.int .u8 0),(.int .u8 0),(.int .u8 0),(.int .u8 0),(.int .u8 0)])]) (.seq (.seq (.reg [oO 6 (.mv (kI 0))]) (.block 0 (.loop u6))) (.seq (.reg [oO 22 (.load (.ag 16) (.t 3)),oN (.store (.ag 16) (.t 2) (.t 22))]) (.ret)))),[(2,(some (.ag 16)))]⟩
theorem Qk:aE Tryz.prog { own:=[],comp:=[],frz:=[],nils:=[] } Tryz.f167=some Ga:=by kernel_rfl
theorem Iw (G:ai) (s:List UInt8) (hs:s.length=16):au Tryz.prog G 167 [.agg (s.map bD)] (.w (.c (.d (.agg ((nU s).map bD))))):=by
  refine aG Tryz.func167 Qk rfl rfl ?_;simp only[Ga,ah,af,aa,seval,iteOmega,toNatUp,gW];refine bd (yo s) (fun i=>16-i) (fun i=>i≤16) 0 (VY _) ?_ ?_
  ·refine aB (fun i=>if i=1 then 24 else 16) ?_ ?_ rfl rfl <;> simp only[wx,aA,aK,aa,seval,iteOmega,toNatUp,oY]
  ·intro i hi;have hl:(bL (ie (ba s)) (bw 16 (0:UInt8)) i).length=16:=by rw[mS _ _ (by rw[cH]; omega),cH]
   by_cases hlt:i<16
   ·have hm:(i+i%4*4)%16=i%4+4*((i / 4+i%4)%4):=by omega
    have hm2:(i+i%4*4)%16<16:=by omega
    have g1:s[(i+i%4*4)%16]?=some (ba s (i%4+4*((i / 4+i%4)%4))):=by rw[← hm]; exact ez (by omega)
    have h3:i<(bL (ie (ba s)) (bw 16 (0:UInt8)) i).length:=by omega
    have h5:(bL (ie (ba s)) (bw 16 (0:UInt8)) i).set i (dX (ba s (i%4+4*((i / 4+i%4)%4))))=bL (ie (ba s)) (bw 16 (0:UInt8)) (i+1):=oZ (ie (ba s)) _ (by rw[cH]; omega);have t1:Int.tmod (i:Int) 4=((i%4:Nat):Int):=lS i 4;have t2:Int.tmod ((i:Int)+((i%4:Nat):Int)*4) 16=(((i+i%4*4)%16:Nat):Int):=lS (i+i%4*4) 16;have hb:(i%4:Nat)<4:=Xo _ (by decide);generalize hq:i%4=q at *
    generalize hp:(i+q*4)%16=p at *
    simp only[u6,yo,af,aa,seval,iteOmega,toNatUp,aM,t1,t2,g1];refine sC (pP G (ba s (q+4*((i / 4+q)%4)))) ?_;simp only[fL h3 (fg _),gw,h5,aM,hl,af,aa,seval,iteOmega,toNatUp];refine aX (i+1) (by omega) (by omega) (aB (fun i=>i) ?_ ?_ rfl rfl) <;> simp only[wx,aA,aK,aa,seval,iteOmega,toNatUp]
   ·obtain rfl:i=16:=by omega
    have e:bL (ie (ba s)) (bw 16 (0:UInt8)) 16=nU s:=rF _ (cH _ _);have e2:=vJ s;simp only[u6,yo,e,af,aa,seval,iteOmega,toNatUp,e2,ib,cH];exact aJ
theorem SC (a b c d:UInt8):ar (ar (ar (gK (ar a b)) b) c) d=tL a b c d:=by
  unfold tL zx;rw[Qi a b,It,It]
def xz (s:List UInt8) (i:Nat):St:=⟨aV [(1,.w (.c (.ra (s.map bD)))),(2,.w (.c (.pa 2 1))),(3,.w (.c (.pa 1 1))),(8,.w (.c (.d (.int .i64 (i:Int)))))],hL [(1,.row 1 ((bL (gE (ba s)) (bw 16 (0:UInt8)) i).map bD)),(2,.row 1 ((bw 16 (0:UInt8)).map bD))],uL [1,2]⟩
def u7:aN := .seq (.reg [oO 9 (.bin .lss (.t 8) (kI 16))]) (.seq (.cond (.t 9) (.skip) (.exit 0)) (.seq (.block 1 (.seq (.reg [oM 10 8,oM 4 10]) (.seq (.reg [oM 11 4,oO 12 (.bin .rem (.t 11) (kI 4)),oM 5 12]) (.seq (.reg [oM 13 4,oM 14 5,oO 15 (.bin .sub (.t 13) (.t 14)),oM 16 4,oM 17 5,oO 18 (.bin .sub (.t 16) (.t 17)),oO 19 (.bin .add (.t 18) (kI 4)),oO 20 (.sliceArr 1 16 (.t 1) (some (.t 15)) (some (.t 19))),oM 6 20]) (.seq (.reg [oM 21 6,oM 22 5,oO 23 (.bin .add (.t 22) (kI 1)),oO 24 (.bin .rem (.t 23) (kI 4)),oO 25 (.idxSl 1 (.t 21) (.t 24)),oO 26 (.load .sc (.t 25)),oM 7 26]) (.reg [oM 27 4,oM 28 4,oO 29 (.idxPa 1 16 (.t 1) (.t 28)),oO 30 (.load .sc (.t 29)),oM 31 7,oO 32 (.bin .xor (.t 30) (.t 31)),oO 33 (.call 163 [(.t 32)] none),oM 34 7,oO 35 (.bin .xor (.t 33) (.t 34)),
 oM 36 6,oM 37 5,oO 38 (.bin .add (.t 37) (kI 2)),oO 39 (.bin .rem (.t 38) (kI 4)),oO 40 (.idxSl 1 (.t 36) (.t 39)),oO 41 (.load .sc (.t 40)),oO 42 (.bin .xor (.t 35) (.t 41)),oM 43 6,oM 44 5,oO 45 (.bin .add (.t 44) (kI 3)),oO 46 (.bin .rem (.t 45) (kI 4)),oO 47 (.idxSl 1 (.t 43) (.t 46)),oO 48 (.load .sc (.t 47)),oO 49 (.bin .xor (.t 42) (.t 48)),oO 50 (.idxPa 1 16 (.t 3) (.t 27)),oN (.store .sc (.t 50) (.t 49))])))))) (.reg [oO 51 (.bin .add (.t 8) (kI 1)),oM 8 51])))
def Gb:aF:=⟨1,53,.seq (.reg [oO 1 (.box .roArr (.t 0)),oO 2 (.allocArr [(.int .u8 0),(.int .u8 0),(.int .u8 0),(.int .u8 0),(.int .u8 0),(.int .u8 0),(.int .u8 0),(.int .u8 0),(.int .u8 0),(.int .u8 0),(.int .u8 0),(.int .u8 0),(.int .u8 0),(.int .u8 0),(.int .u8 0),(.int .u8 0)])]) (.seq (.reg [oO 3 (.allocArr [(.int .u8 0),(.int .u8 0),(.int .u8 0),(.int .u8 0),(.int .u8 0),(.int .u8 0),(.int .u8 0),(.int .u8 0),(.int .u8 0),(.int .u8 0),(.int .u8 0),(.int .u8 0),(.int .u8 0),(.int .u8 0),(.int .u8 0),(.int .u8 0)])]) (.seq (.seq (.reg [oO 8 (.mv (kI 0))]) (.block 0 (.loop u7))) (.seq (.reg [oO 52 (.load (.ag 16) (.t 3)),oN (.store (.ag 16) (.t 2) (.t 52))]) (.ret)))),[(2,(some (.ag 16)))]⟩
theorem Ql:aE Tryz.prog { own:=[],comp:=[],frz:=[],nils:=[] } Tryz.f166=some Gb:=by kernel_rfl
theorem SD (G:ai) (s:List UInt8) (hs:s.length=16):au Tryz.prog G 166 [.agg (s.map bD)] (.w (.c (.d (.agg ((p0 s).map bD))))):=by
  refine aG Tryz.func166 Ql rfl rfl ?_;simp only[Gb,ah,af,aa,seval,iteOmega,toNatUp,gW];refine bd (xz s) (fun i=>16-i) (fun i=>i≤16) 0 (VY _) ?_ ?_
  ·refine aB (fun i=>if i=1 then 24 else 16) ?_ ?_ rfl rfl <;> simp only[wx,aA,aK,aa,seval,iteOmega,toNatUp,oY]
  ·intro i hi;have hl:(bL (gE (ba s)) (bw 16 (0:UInt8)) i).length=16:=by rw[mS _ _ (by rw[cH]; omega),cH]
   by_cases hlt:i<16
   ·have h3:i<(bL (gE (ba s)) (bw 16 (0:UInt8)) i).length:=by omega
    have h5:(bL (gE (ba s)) (bw 16 (0:UInt8)) i).set i (gE (ba s) i)=bL (gE (ba s)) (bw 16 (0:UInt8)) (i+1):=oZ (gE (ba s)) _ (by rw[cH]; omega);have g0:s[i]?=some (ba s i):=ez (by omega);obtain⟨q,r,hr,rfl⟩:∃ q r,r<4∧i=4*q+r:=⟨i / 4,i%4,Xo _ (by decide),by omega⟩
    have hq:q<4:=by omega
    have col:∀ j,j<4→((s.drop (4*q)).take 4)[j]?=some (ba s (4*q+j)):=fun j hj=>by
      rw[Wj,if_pos hj,WI]; exact ez (by omega)
    have g1:=col ((r+1)%4) (Xo _ (by decide));have g2:=col ((r+2)%4) (Xo _ (by decide));have g3:=col ((r+3)%4) (Xo _ (by decide));have t0:Int.tmod (4*(q:Int)+(r:Int)) 4=(r:Int):=by
      show Int.tmod ((4*q+r:Nat):Int) ((4:Nat):Int)=_
      rw[lS]; congr 1; omega
    have t1:Int.tmod ((r:Int)+1) 4=(((r+1)%4:Nat):Int):=lS (r+1) 4;have t2:Int.tmod ((r:Int)+2) 4=(((r+2)%4:Nat):Int):=lS (r+2) 4;have t3:Int.tmod ((r:Int)+3) 4=(((r+3)%4:Nat):Int):=lS (r+3) 4;have b1:(r+1)%4<4:=Xo _ (by decide);have b2:(r+2)%4<4:=Xo _ (by decide);have b3:(r+3)%4<4:=Xo _ (by decide);have em:gE (ba s) (4*q+r)=tL (ba s (4*q+r)) (ba s (4*q+(r+1)%4)) (ba s (4*q+(r+2)%4)) (ba s (4*q+(r+3)%4)):=by
      unfold gE;rw[show (4*q+r) / 4=q by omega,show (4*q+r)%4=r by omega]
    rw[em,← SC] at h5;have s1:4*q+r-r=4*q:=by omega
    have s2:4*q+4-4*q=4:=by omega
    have s3:((s.drop (4*q)).take 4).length=4:=by rw[VW,V5]; omega
    generalize (r+1)%4=r1 at *
    generalize (r+2)%4=r2 at *
    generalize (r+3)%4=r3 at *
    generalize ba s (4*q+r)=a at *
    generalize ba s (4*q+r1)=b at *
    generalize ba s (4*q+r2)=c at *
    generalize ba s (4*q+r3)=d at *
    have x1:=gu a b;have x2:=gu (gK (ar a b)) b;have x3:=gu (ar (gK (ar a b)) b) c;have x4:=gu (ar (ar (gK (ar a b)) b) c) d;simp only[u7,xz,af,aa,seval,iteOmega,toNatUp,aM,t0,t1,t2,t3,g0,g1,g2,g3,s1,s2,s3,x1];refine sC (Ka G (ar a b)) ?_;simp only[aM,t0,t1,t2,t3,g0,g1,g2,g3,s1,s2,s3,x2,x3,x4,fL h3 (fg _),gw,h5,hl,af,aa,seval,iteOmega,toNatUp];refine aX (4*q+r+1) (by omega) (by omega) (aB (fun i=>i) ?_ ?_ rfl rfl) <;> simp only[wx,aA,aK,aa,seval,iteOmega,toNatUp]
   ·obtain rfl:i=16:=by omega
    have e:bL (gE (ba s)) (bw 16 (0:UInt8)) 16=p0 s:=rF _ (cH _ _);have e2:=D8 s;simp only[u7,xz,e,af,aa,seval,iteOmega,toNatUp,e2,ib,cH];exact aJ
def VH (l:List UInt8) (c:UInt8) (j:Nat):UInt8:=if j=0 then ar (dX (l.getD 13 0)) c else if j=1 then dX (l.getD 14 0) else if j=2 then dX (l.getD 15 0) else dX (l.getD 12 0)
def wV (l:List UInt8) (c:UInt8):Nat→Nat→UInt8
  | 0,j=>VH l c j
  | n+1,j=>if j=n%4 then ar (l.getD n 0) (wV l c n (n%4)) else wV l c n j
def gd (l:List UInt8) (c:UInt8) (n:Nat):UInt8:=ar (l.getD n 0) (wV l c n (n%4))
def k9 (l:List UInt8) (c:UInt8):List UInt8:=bU (gd l c)
theorem qW (l:List UInt8) (c:UInt8):(k9 l c).length=16:=fK _
def wL (l:List UInt8) (c:UInt8) (i:Nat):List UInt8:=(List.range 4).map (wV l c i)
theorem nb (l:List UInt8) (c:UInt8) (i:Nat):(wL l c i).length=4:=by simp[wL]
theorem xA (l:List UInt8) (c:UInt8) (i:Nat) {j:Nat} (h:j<4):(wL l c i)[j]?=some (wV l c i j):=by simp[wL,h]
theorem Qm (l:List UInt8) (c:UInt8) (i:Nat):(wL l c i).set (i%4) (gd l c i)=wL l c (i+1):=by
  apply WZ;intro j;by_cases hj:j<4
  ·rw[xA _ _ _ hj,XO];by_cases e:i%4=j
   ·rw[if_pos e,if_pos (by rw[nb]; omega),wV,if_pos e.symm]; rfl
   ·rw[if_neg e,xA _ _ _ hj,wV,if_neg (fun h=>e h.symm)]
  ·rw[WF (by rw[Xc,nb]; omega),WF (by rw[nb]; omega)]
theorem Qn (l:List UInt8) (c:UInt8):[ar (dX (l.getD 13 0)) c,dX (l.getD 14 0),dX (l.getD 15 0),dX (l.getD 12 0)]=wL l c 0:=rfl
def yp (l:List UInt8) (c:UInt8) (i:Nat):St:=⟨aV [(2,.w (.c (.pa 1 1))),(4,.w (.c (.pa 2 1))),(5,.w (.c (.pa 3 1))),(22,.w (.c (.d (.int .i64 (i:Int)))))],hL [(1,.row 1 ((bL (gd l c) l i).map bD)),(2,.row 1 ((bw 16 (0:UInt8)).map bD)),(3,.row 1 ((wL l c i).map bD))],uL [1,2,3]⟩
def vM:aN := .seq (.reg [oO 23 (.bin .lss (.t 22) (kI 16))]) (.seq (.cond (.t 23) (.skip) (.exit 0)) (.seq (.block 1 (.seq (.reg [oM 24 22,oM 6 24]) (.seq (.reg [oM 25 6,oO 26 (.idxPa 1 16 (.t 2) (.t 25)),oO 27 (.load .sc (.t 26)),oM 28 6,oO 29 (.bin .rem (.t 28) (kI 4)),oO 30 (.idxPa 1 4 (.t 5) (.t 29)),oO 31 (.load .sc (.t 30)),oO 32 (.bin .xor (.t 27) (.t 31)),oO 33 (.idxPa 1 16 (.t 2) (.t 25)),oN (.store .sc (.t 33) (.t 32))]) (.reg [oM 34 6,oO 35 (.bin .rem (.t 34) (kI 4)),oM 36 6,oO 37 (.idxPa 1 16 (.t 2) (.t 36)),oO 38 (.load .sc (.t 37)),oO 39 (.idxPa 1 4 (.t 5) (.t 35)),oN (.store .sc (.t 39) (.t 38))])))) (.reg [oO 40 (.bin .add (.t 22) (kI 1)),oM 22 40])))
def Ix:aF:=⟨2,42,.seq (.reg [oO 2 (.box .ownArr (.t 0)),oO 4 (.allocArr [(.int .u8 0),(.int .u8 0),(.int .u8 0),(.int .u8 0),(.int .u8 0),(.int .u8 0),(.int .u8 0),(.int .u8 0),(.int .u8 0),(.int .u8 0),(.int .u8 0),(.int .u8 0),(.int .u8 0),(.int .u8 0),(.int .u8 0),(.int .u8 0)])]) (.seq (.reg [oO 7 (.idxPa 1 16 (.t 2) (kI 13)),oO 8 (.load .sc (.t 7)),oO 9 (.call 180 [(.t 8)] none),oM 10 1,oO 11 (.bin .xor (.t 9) (.t 10)),oO 12 (.idxPa 1 16 (.t 2) (kI 14)),oO 13 (.load .sc (.t 12)),oO 14 (.call 180 [(.t 13)] none),oO 15 (.idxPa 1 16 (.t 2) (kI 15)),oO 16 (.load .sc (.t 15)),oO 17 (.call 180 [(.t 16)] none),oO 18 (.idxPa 1 16 (.t 2) (kI 12)),oO 19 (.load .sc (.t 18)),oO 20 (.call 180 [(.t 19)] none),oO 21 (.build [(.d (.int .u8 0)),(.d (.int .u8 0)),(.d (.int .u8 0)),(.d (.int .u8 0))] [(0,1,(.t 11)),(1,1,(.t 14)),(2,1,(.t 17)),(3,1,(.t 20))]),
 oO 5 (.allocArr [(.int .u8 0),(.int .u8 0),(.int .u8 0),(.int .u8 0)]),oN (.store (.ag 4) (.t 5) (.t 21))]) (.seq (.seq (.reg [oO 22 (.mv (kI 0))]) (.block 0 (.loop vM))) (.seq (.reg [oO 41 (.load (.ag 16) (.t 2)),oN (.store (.ag 16) (.t 4) (.t 41))]) (.ret)))),[(4,(some (.ag 16)))]⟩
theorem SE:aE Tryz.prog { own:=[2],comp:=[],frz:=[],nils:=[] } Tryz.f162=some Ix:=by kernel_rfl
set_option maxHeartbeats 3200000 in
theorem UM (G:ai) (l:List UInt8) (c:UInt8) (hl:l.length=16):au Tryz.prog G 162 [.agg (l.map bD),bD c] (.w (.c (.d (.agg ((k9 l c).map bD))))):=by
  refine aG Tryz.func162 SE rfl rfl ?_;have a13:l[13]?=some (l.getD 13 0):=ez (by omega);have a14:l[14]?=some (l.getD 14 0):=ez (by omega);have a15:l[15]?=some (l.getD 15 0):=ez (by omega);have a12:l[12]?=some (l.getD 12 0):=ez (by omega);have x0:=gu (dX (l.getD 13 0)) c;have w0:=congrArg (List.map bD) (Qn l c);have wl:=nb l c 0;simp only[VX,Wl] at w0;simp only[Ix,ah,af,aa,seval,iteOmega,toNatUp,gW,hl,aM,a13];refine sC (pP G (l.getD 13 0)) ?_;simp only[x0,aM,a14,hl,af,aa,seval,iteOmega,toNatUp];refine sC (pP G (l.getD 14 0)) ?_;simp only[aM,a15,hl,af,aa,seval,iteOmega,toNatUp];refine sC (pP G (l.getD 15 0)) ?_;simp only[aM,a12,hl,af,aa,seval,iteOmega,toNatUp];refine sC (pP G (l.getD 12 0)) ?_;simp only[w0,af,aa,seval,iteOmega,toNatUp];refine bd (yp l c) (fun i=>16-i) (fun i=>i≤16) 0 (VY _) ?_ ?_
  ·refine aB (fun i=>if i=1 then 16 else if i=2 then 32 else 40) ?_ ?_ rfl rfl <;> simp only[wx,aA,aK,aa,seval,iteOmega,toNatUp,oY]
  ·intro i hi;have hu:(bL (gd l c) l i).length=16:=by rw[mS _ _ (by omega)]; exact hl
   by_cases hlt:i<16
   ·have hm:i%4<4:=Xo _ (by decide);have t1:Int.tmod (i:Int) 4=((i%4:Nat):Int):=lS i 4;have g1:(bL (gd l c) l i)[i]?=some (l.getD i 0):=by rw[F9 _ _ (V0 i)]; exact ez (by omega)
    have g2:=xA l c i hm;have x1:=gu (l.getD i 0) (wV l c i (i%4));have h3:i<(bL (gd l c) l i).length:=by omega
    have h4:i%4<(wL l c i).length:=by rw[nb]; exact hm
    have h5:(bL (gd l c) l i).set i (gd l c i)=bL (gd l c) l (i+1):=oZ (gd l c) l (by omega);have h6:=Qm l c i;have g3:(bL (gd l c) l (i+1))[i]?=some (gd l c i):=Ot _ _ (Nat.lt_succ_self i);have hf:ar (l.getD i 0) (wV l c i (i%4))=gd l c i:=rfl;have hwl:=nb l c i;have hu2:(bL (gd l c) l (i+1)).length=16:=by rw[mS _ _ (by omega)]; exact hl
    generalize hq:i%4=q at *
    simp only[vM,yp,af,aa,seval,iteOmega,toNatUp,aM,t1,g1,g2,x1,hf,fL h3 (fg _),fL h4 (fg _),gw,h5,h6,g3,hu,hu2,hwl];refine aX (i+1) (by omega) (by omega) (aB (fun i=>i) ?_ ?_ rfl rfl) <;> simp only[wx,aA,aK,aa,seval,iteOmega,toNatUp]
   ·obtain rfl:i=16:=by omega
    have e:bL (gd l c) l 16=k9 l c:=rF _ hl;have e2:=qW l c;simp only[vM,yp,e,af,aa,seval,iteOmega,toNatUp,e2,ib,cH];exact aJ
theorem M3 {P Q:List UInt8} {k n:Nat} (h:P.length=n):(P++Q).getD (n+k) 0=Q.getD k 0:=by
  rw[VS,VS,Ws (by omega),h,W5]
theorem Ow {P Q:List UInt8} {k n:Nat} (h:P.length=n):(P++Q).drop (n+k)=Q.drop k:=by
  rw[← h,List.drop_append,WT (by omega),Xb,W5]
theorem qE {P Q:List UInt8} {n:Nat} (h:P.length=4*n):jV (P++Q) n=(List.range 4).map fun k=>ar (Q.getD k 0) ((nE (Q.drop 12) n).getD k 0):=by
  unfold jV;refine WB fun k _=>?_
  rw[M3 h,show 12+4*n=4*n+12 by omega,Ow h]
theorem UN (b0 b1 b2 b3 b4 b5 b6 b7 b8 b9 b10 b11 b12 b13 b14 b15 c:UInt8):∃ f0 f1 f2 f3,
    f0=ar b0 (ar (dX b13) c)∧f1=ar b1 (dX b14)∧f2=ar b2 (dX b15)∧f3=ar b3 (dX b12) ∧
    k9 [b0,b1,b2,b3,b4,b5,b6,b7,b8,b9,b10,b11,b12,b13,b14,b15] c =
      [f0,f1,f2,f3,ar b4 f0,ar b5 f1,ar b6 f2,ar b7 f3,ar b8 (ar b4 f0),ar b9 (ar b5 f1),ar b10 (ar b6 f2),ar b11 (ar b7 f3),
       ar b12 (ar b8 (ar b4 f0)),ar b13 (ar b9 (ar b5 f1)),ar b14 (ar b10 (ar b6 f2)),ar b15 (ar b11 (ar b7 f3))] :=
  ⟨_,_,_,_,rfl,rfl,rfl,rfl,rfl⟩
theorem qX (f:Nat→UInt8):(List.range 4).map f=[f 0,f 1,f 2,f 3]:=rfl
theorem Ox {P:List UInt8} {r:Nat} (hP:P.length=16*r) (b0 b1 b2 b3 b4 b5 b6 b7 b8 b9 b10 b11 b12 b13 b14 b15:UInt8) (key:List UInt8)
    (h:dM key (4*r)=P++[b0,b1,b2,b3,b4,b5,b6,b7,b8,b9,b10,b11,b12,b13,b14,b15]) :
    dM key (4*(r+1))=dM key (4*r)++k9 [b0,b1,b2,b3,b4,b5,b6,b7,b8,b9,b10,b11,b12,b13,b14,b15] (gT r):=by
  obtain⟨f0,f1,f2,f3,e0,e1,e2,e3,ef⟩:=UN b0 b1 b2 b3 b4 b5 b6 b7 b8 b9 b10 b11 b12 b13 b14 b15 (gT r);have m0:4*r%4=0:=by omega
  have m1:(4*r+1)%4≠0:=by omega
  have m2:(4*r+2)%4≠0:=by omega
  have m3:(4*r+3)%4≠0:=by omega
  have d0:4*r / 4=r:=by omega
  have n0:jV (dM key (4*r)) (4*r)=[f0,f1,f2,f3]:=by
    rw[h,qE (by omega),qX];unfold nE;rw[if_pos m0,d0,e0,e1,e2,e3]; rfl
  have s1:dM key (4*r+1)=(P++[b0,b1,b2,b3])++[b4,b5,b6,b7,b8,b9,b10,b11,b12,b13,b14,b15,f0,f1,f2,f3]:=by
    rw[dM,n0,h]; simp
  have n1:jV (dM key (4*r+1)) (4*r+1)=[ar b4 f0,ar b5 f1,ar b6 f2,ar b7 f3]:=by
    rw[s1,qE (by simp; omega),qX];unfold nE;rw[if_neg m1]; rfl
  have s2:dM key (4*r+2)=(P++[b0,b1,b2,b3,b4,b5,b6,b7])++[b8,b9,b10,b11,b12,b13,b14,b15,f0,f1,f2,f3,ar b4 f0,ar b5 f1,ar b6 f2,ar b7 f3]:=by
    rw[show 4*r+2=(4*r+1)+1 from rfl,dM,n1,s1]; simp
  have n2:jV (dM key (4*r+2)) (4*r+2)=[ar b8 (ar b4 f0),ar b9 (ar b5 f1),ar b10 (ar b6 f2),ar b11 (ar b7 f3)]:=by
    rw[s2,qE (by simp; omega),qX];unfold nE;rw[if_neg m2]; rfl
  have s3:dM key (4*r+3)=(P++[b0,b1,b2,b3,b4,b5,b6,b7,b8,b9,b10,b11])++[b12,b13,b14,b15,f0,f1,f2,f3,ar b4 f0,ar b5 f1,ar b6 f2,ar b7 f3,ar b8 (ar b4 f0),ar b9 (ar b5 f1),ar b10 (ar b6 f2),ar b11 (ar b7 f3)]:=by
    rw[show 4*r+3=(4*r+2)+1 from rfl,dM,n2,s2]; simp
  have n3:jV (dM key (4*r+3)) (4*r+3)=[ar b12 (ar b8 (ar b4 f0)),ar b13 (ar b9 (ar b5 f1)),ar b14 (ar b10 (ar b6 f2)),ar b15 (ar b11 (ar b7 f3))]:=by
    rw[s3,qE (by simp; omega),qX];unfold nE;rw[if_neg m3]; rfl
  rw[show 4*(r+1)=(4*r+3)+1 by omega,dM,n3,s3,ef,h];simp
def kb (key:List UInt8) (r:Nat):List UInt8:=(dM key (4*r)).drop (16*r)
theorem xB {key:List UInt8} (h:key.length=16) (r:Nat):(kb key r).length=16:=by
  unfold kb; rw[V5,lB h]; omega
theorem SF {l:List UInt8} (h:l.length=16):∃ b0 b1 b2 b3 b4 b5 b6 b7 b8 b9 b10 b11 b12 b13 b14 b15,l=[b0,b1,b2,b3,b4,b5,b6,b7,b8,b9,b10,b11,b12,b13,b14,b15]:=by
  rcases l with _ | ⟨b0,l⟩ <;> simp at h
  rcases l with _ | ⟨b1,l⟩ <;> simp at h
  rcases l with _ | ⟨b2,l⟩ <;> simp at h
  rcases l with _ | ⟨b3,l⟩ <;> simp at h
  rcases l with _ | ⟨b4,l⟩ <;> simp at h
  rcases l with _ | ⟨b5,l⟩ <;> simp at h
  rcases l with _ | ⟨b6,l⟩ <;> simp at h
  rcases l with _ | ⟨b7,l⟩ <;> simp at h
  rcases l with _ | ⟨b8,l⟩ <;> simp at h
  rcases l with _ | ⟨b9,l⟩ <;> simp at h
  rcases l with _ | ⟨b10,l⟩ <;> simp at h
  rcases l with _ | ⟨b11,l⟩ <;> simp at h
  rcases l with _ | ⟨b12,l⟩ <;> simp at h
  rcases l with _ | ⟨b13,l⟩ <;> simp at h
  rcases l with _ | ⟨b14,l⟩ <;> simp at h
  rcases l with _ | ⟨b15,l⟩ <;> simp at h
  subst h;exact⟨_,_,_,_,_,_,_,_,_,_,_,_,_,_,_,_,rfl⟩
theorem Qo {key:List UInt8} (h:key.length=16) (r:Nat):dM key (4*(r+1))=dM key (4*r)++k9 (kb key r) (gT r):=by
  obtain⟨b0,b1,b2,b3,b4,b5,b6,b7,b8,b9,b10,b11,b12,b13,b14,b15,e⟩:=SF (xB h r);rw[e];refine Ox (P:=(dM key (4*r)).take (16*r)) ?_ _ _ _ _ _ _ _ _ _ _ _ _ _ _ _ _ key ?_
  ·rw[VW,lB h]; omega
  ·rw[← e]; exact (Wy _ _).symm
def fH (key:List UInt8) (i:Nat):List UInt8:=dM key (4*i)++bw (160-16*i) 0
theorem Qp {key:List UInt8} (h:key.length=16) {i:Nat} (hi:i≤10):(fH key i).length=176:=by
  unfold fH; rw[VR,lB h,cH]; omega
theorem Oy {key:List UInt8} (h:key.length=16):cD (bw 176 (0:UInt8)) 0 key=fH key 0:=by
  unfold cD fH bw;rw[WU,Xb,List.drop_replicate,h]; rfl
theorem Oz {key:List UInt8} (h:key.length=16) {i:Nat} (hi:i≤10):((fH key i).drop (i*16)).take 16=kb key i:=by
  unfold fH;rw[Nat.mul_comm,List.drop_append_of_le_length (by rw[lB h]; omega)];exact List.take_left' (xB h i)
theorem OA {key:List UInt8} (h:key.length=16) {i:Nat} (hi:i<10):cD (fH key i) ((i+1)*16) (k9 (kb key i) (gT i))=fH key (i+1):=by
  have hl:(dM key (4*i)).length=(i+1)*16:=by rw[lB h]; omega
  unfold cD fH;rw[Qo h,List.take_append_of_le_length (by omega),VV (by omega),qW,List.drop_append,WT (by omega),Xb,hl]
  congr 1
  unfold bw;rw[List.drop_replicate]
  congr 1
  omega
theorem OB (key:List UInt8):fH key 10=aP key:=by
  unfold fH bw aP; rw[show 160-16*10=0 from rfl,Xh,Wc]
set_option maxHeartbeats 3200000
def xC (key:List UInt8) (i:Nat):St:=⟨aV [(2,.w (.c (.ptr 2 1 0 0))),(3,.w (.c (.ptr 1 1 0 0))),(4,.w (.c (.d (bD (gT i))))),(5,.w (.c (.d (.int .i64 ((i+1:Nat):Int)))))],hL [(1,.box ((fH key i).map bC)),(2,.box ((bw 176 (0:UInt8)).map bC))],uL [1,2]⟩
theorem VC:gT 0=1:=rfl
def u9:aN := .seq (.seq (.reg [oM 10 5,oO 11 (.bin .leq (.t 10) (kI 10))]) (.cond (.t 11) (.skip) (.exit 0))) (.seq (.block 1 (.seq (.reg [oM 14 5,oM 15 5,oO 16 (.bin .sub (.t 15) (kI 1)),oO 17 (.idxPa 16 11 (.t 3) (.t 16)),oO 18 (.load (.ag 16) (.t 17)),oM 19 4,oO 20 (.call 162 [(.t 18),(.t 19)] none),oO 21 (.idxPa 16 11 (.t 3) (.t 14)),oN (.store (.ag 16) (.t 21) (.t 20))]) (.reg [oM 22 4,oO 23 (.call 163 [(.t 22)] none),oM 4 23]))) (.reg [oM 12 5,oO 13 (.bin .add (.t 12) (kI 1)),oM 5 13]))
def Gd:aF:=⟨1,25,.seq (.reg [oO 2 (.alloc (bw 176 (.d (.int .u8 0))))]) (.seq (.reg [oO 3 (.alloc (bw 176 (.d (.int .u8 0))))]) (.seq (.reg [oO 6 (.idxPa 16 11 (.t 3) (kI 0)),oO 7 (.sliceArr 1 16 (.t 6) none none),oM 8 0,oO 9 (.copy 1 (.t 7) (.t 8))]) (.seq (.reg [oO 4 (.mv (.k (.c (.d (.int .u8 1)))))]) (.seq (.seq (.reg [oO 5 (.mv (kI 1))]) (.block 0 (.loop u9))) (.seq (.reg [oO 24 (.load (.ag 176) (.t 3)),oN (.store (.ag 176) (.t 2) (.t 24))]) (.ret)))))),[(2,(some (.ag 176)))]⟩
theorem Qq:aE Tryz.prog { own:=[],comp:=[],frz:=[],nils:=[] } Tryz.f148=some Gd:=by kernel_rfl
theorem Iy (G:ai) (key:List UInt8) (h:key.length=16):au Tryz.prog G 148 [.sl (key.map bD)] (.w (.c (.d (.agg ((aP key).map bD))))):=by
  refine aG Tryz.func148 Qq rfl rfl ?_;have ht:key.take 16=key:=VV (by omega);have h0:key++List.drop key.length (bw 176 (0:UInt8))=fH key 0:=by rw[← Oy h]; simp[cD]
  have hid:=gv (fH key 0);have hid2:=gv (bw 176 (0:UInt8));simp only[Gd,ah,af,aa,seval,iteOmega,toNatUp,FX,iM,cH,fu,ht,ib,pL,Oa,h0];refine bd (xC key) (fun i=>10-i) (fun i=>i≤10) 0 (VY _) ?_ ?_
  ·refine aB (fun i=>if i=1 then 24 else 16) ?_ ?_ rfl (by simp[V.ids,W.ids,C.ids,Ob.ids,gv]) <;> simp only[wx,aA,aK,aa,seval,iteOmega,toNatUp,VC,VG,mZ,gv]
  ·intro i hi;have hl:=Qp h hi;by_cases hlt:i<10
   ·have g1:=Oz h hi;have h5:List.take ((i+1)*16) (fH key i)++k9 (kb key i) (gT i)++List.drop ((i+1)*16+16) (fH key i)=fH key (i+1):=by
      rw[← OA h hlt]; unfold cD; rw[qW]
    have hf:=qW (kb key i) (gT i);have hx:gK (gT i)=gT (i+1):=rfl;have s1:((i:Int)+1-1).toNat=i:=by omega
    simp only[u9,xC,af,aa,seval,iteOmega,toNatUp,iM,hl,fu,jd,g1,pi];refine sC (UM G (kb key i) (gT i) (xB h i)) ?_;simp only[iM,hl,pL,hf,fu,jd,jI,h5,af,aa,seval,iteOmega,toNatUp];refine sC (Ka G (gT i)) ?_;simp only[hx,af,aa,seval,iteOmega,toNatUp];refine aX (i+1) (by omega) (by omega) (aB (fun i=>i) ?_ ?_ rfl (by simp[V.ids,W.ids,C.ids,Ob.ids,gv])) <;> simp only[wx,aA,aK,aa,seval,iteOmega,toNatUp,mZ,gv]
   ·obtain rfl:i=10:=by omega
    have e:=OB key;have e2:=wN h;rw[e] at hl;have t1:(aP key).take 176=aP key:=VV (by omega);have t2:List.drop 176 (bw 176 (0:UInt8))=[]:=WT (by rw[cH]; omega);have t3:aP key++List.drop (aP key).length (bw 176 (0:UInt8))=aP key:=by rw[e2,t2,Wc]
    simp only[u9,xC,e,af,aa,seval,iteOmega,toNatUp,iM,hl,e2,t1,t2,t3,pi,pL,cH,fu,jd,jI,Wc];exact lG (by simp only[af,aa,seval,iteOmega,toNatUp,iM,hl,e2,t1,t2,t3,pi,pL,cH,fu,jd,jI,Wc])
theorem OC (l:List UInt8):dE ((l.map bD).map C.d)=some (l.map bD):=by
  induction l with
  | nil=>rfl
  | cons x l ih =>
    show dE (C.d (bD x)::(l.map bD).map C.d)=_
    simp only[dE,ih,VX,WV]
theorem OD (rk b:List UInt8) (hb:b.length=16):ma b (bU (dY rk 0))=bU (iq (dY rk) (ba b) 0):=by
  have:=vK (ba b) (dY rk 0);rw[Sx hb] at this;exact this
theorem Qr (rk b:List UInt8) {n:Nat} (h:n+1<10):ma (p0 (nU (bU (iq (dY rk) (ba b) n)))) (bU (dY rk (n+1)))=bU (iq (dY rk) (ba b) (n+1)):=by
  rw[D9,Ov,vK]
  show _=bU (xx _ _ _)
  unfold xx;rw[if_pos h]
theorem OE (rk b:List UInt8):ma (nU (bU (iq (dY rk) (ba b) 9))) (bU (dY rk 10))=eu rk b:=by
  rw[D9,vK];rfl
def yq (rk b:List UInt8) (i:Nat):St:=⟨aV [(2,.w (.c (.rp (rk.map bD)))),(4,.w (.c (.pa 2 1))),(5,.w (.c (.pa 1 1))),(6,.w (.c (.d (.int .i64 ((i+1:Nat):Int)))))],hL [(1,.row 1 ((bU (iq (dY rk) (ba b) i)).map bD)),(2,.row 1 ((bw 16 (0:UInt8)).map bD))],uL [1,2]⟩
def va:aN := .seq (.seq (.reg [oM 14 6,oO 15 (.bin .lss (.t 14) (kI 10))]) (.cond (.t 15) (.skip) (.exit 0))) (.seq (.block 1 (.reg [oO 18 (.load (.ag 16) (.t 5)),oO 19 (.call 167 [(.t 18)] none),oO 20 (.call 166 [(.t 19)] none),oM 21 6,oO 22 (.idxPa 16 11 (.t 2) (.t 21)),oO 23 (.load (.ag 16) (.t 22)),oO 24 (.call 165 [(.t 20),(.t 23)] none),oN (.store (.ag 16) (.t 5) (.t 24))])) (.reg [oM 16 6,oO 17 (.bin .add (.t 16) (kI 1)),oM 6 17]))
def Ge:aF:=⟨2,30,.seq (.reg [oO 2 (.box .roBox (.t 0)),oO 4 (.allocArr [(.int .u8 0),(.int .u8 0),(.int .u8 0),(.int .u8 0),(.int .u8 0),(.int .u8 0),(.int .u8 0),(.int .u8 0),(.int .u8 0),(.int .u8 0),(.int .u8 0),(.int .u8 0),(.int .u8 0),(.int .u8 0),(.int .u8 0),(.int .u8 0)])]) (.seq (.reg [oO 5 (.allocArr [(.int .u8 0),(.int .u8 0),(.int .u8 0),(.int .u8 0),(.int .u8 0),(.int .u8 0),(.int .u8 0),(.int .u8 0),(.int .u8 0),(.int .u8 0),(.int .u8 0),(.int .u8 0),(.int .u8 0),(.int .u8 0),(.int .u8 0),(.int .u8 0)])]) (.seq (.reg [oO 7 (.sliceArr 1 16 (.t 5) none none),oM 8 1,oO 9 (.copy 1 (.t 7) (.t 8))]) (.seq (.reg [oO 10 (.load (.ag 16) (.t 5)),oO 11 (.idxPa 16 11 (.t 2) (kI 0)),oO 12 (.load (.ag 16) (.t 11)),oO 13 (.call 165 [(.t 10),(.t 12)] none),oN (.store (.ag 16) (.t 5) (.t 13))])
 (.seq (.seq (.reg [oO 6 (.mv (kI 1))]) (.block 0 (.loop va))) (.seq (.reg [oO 25 (.load (.ag 16) (.t 5)),oO 26 (.call 167 [(.t 25)] none),oO 27 (.idxPa 16 11 (.t 2) (kI 10)),oO 28 (.load (.ag 16) (.t 27)),oO 29 (.call 165 [(.t 26),(.t 28)] none),oN (.store (.ag 16) (.t 4) (.t 29))]) (.ret)))))),[(4,(some (.ag 16)))]⟩
theorem Qs:aE Tryz.prog { own:=[],comp:=[],frz:=[],nils:=[] } Tryz.f150=some Ge:=by kernel_rfl
theorem Iz (G:ai) (rk b:List UInt8) (hk:rk.length=176) (hb:b.length=16):au Tryz.prog G 150 [.agg (rk.map bD),.sl (b.map bD)] (.w (.c (.d (.agg ((eu rk b).map bD))))):=by
  refine aG Tryz.func150 Qs rfl rfl ?_;have ht:b.take 16=b:=VV (by omega);have key:∀ r,r≤10→(rk.drop (16*r)).take 16=bU (dY rk r):=fun r hr=>by
    apply WZ;intro j;by_cases hj:j<16
    ·rw[rE _ hj,Wj,if_pos hj,WI]; exact ez (by omega)
    ·rw[WF (by rw[VW]; omega),WF (by rw[fK]; omega)]
  have d1:b++List.drop b.length (bw 16 (0:UInt8))=b:=by rw[hb,WT (by rw[cH]; omega),Wc]
  have d2:List.drop 16 (bw 16 (0:UInt8))=[]:=WT (by rw[cH]; omega);have k0:=key 0 (by decide);have l0:(bU (dY rk 0)).length=16:=fK _;have t0:(bU (dY rk 0)).take 16=bU (dY rk 0):=VV (by rw[fK]; omega);have a0:=OD rk b hb;have la:=fK (iq (dY rk) (ba b) 0);simp only[Nat.mul_zero,Xt] at k0;simp only[Ge,ah,af,aa,seval,iteOmega,toNatUp,gW,OC,cH,fu,ht,jd,jI,d1,d2,k0,ib,hb,l0,t0,Wc,Xj];refine sC (yn G b (bU (dY rk 0)) hb l0) ?_;simp only[a0,la,cH,af,aa,seval,iteOmega,toNatUp];refine bd (yq rk b) (fun i=>9-i) (fun i=>i≤9) 0 (VY _) ?_ ?_
  ·refine aB (fun i=>if i=1 then 40 else 32) ?_ ?_ rfl rfl <;> simp only[wx,aA,aK,aa,seval,iteOmega,toNatUp]
  ·intro i hi;have le:=fK (iq (dY rk) (ba b) i);have hr:i+1≤10:=by omega
   have k1:=key (i+1) hr;rw[Nat.mul_comm] at k1;have l1:(bU (dY rk (i+1))).length=16:=fK _;have t1:(bU (dY rk (i+1))).take 16=bU (dY rk (i+1)):=VV (by rw[fK]; omega);by_cases hlt:i<9
   ·have h5:=Qr rk b (n:=i) (by omega);have le2:=fK (iq (dY rk) (ba b) (i+1));simp only[va,yq,af,aa,seval,iteOmega,toNatUp,le,ib];refine sD (Iw G (bU (iq (dY rk) (ba b) i)) le) ?_;refine sC (SD G _ (vJ _)) ?_;simp only[fu,jd,k1,l1,t1,af,aa,seval,iteOmega,toNatUp];refine sC (yn G _ _ (D8 _) l1) ?_;simp only[h5,le2,le,af,aa,seval,iteOmega,toNatUp];refine aX (i+1) (by omega) (by omega) (aB (fun i=>i) ?_ ?_ rfl rfl) <;> simp only[wx,aA,aK,aa,seval,iteOmega,toNatUp]
   ·obtain rfl:i=9:=by omega
    have h5:=OE rk b;have le2:=iI rk b;simp only[va,yq,af,aa,seval,iteOmega,toNatUp,le,ib];refine sC (Iw G (bU (iq (dY rk) (ba b) 9)) le) ?_;simp only[fu,jd,k1,l1,t1,af,aa,seval,iteOmega,toNatUp];refine sC (yn G _ _ (vJ _) l1) ?_;simp only[h5,le2,cH,af,aa,seval,iteOmega,toNatUp];exact lG (by simp only[af,aa,seval,iteOmega,toNatUp,le2,ib])
def mB (a b c:List UInt8):List UInt8:=a++b++c

theorem Ea:∀ a b:List UInt8,dc (a++b)=if (dc b).2 then ((dc a).1++(dc b).1,(dc a).2) else (a++(dc b).1,false)
  | [],b=>by
    show dc b=if (dc b).2 then ([]++(dc b).1,true) else ([]++(dc b).1,false)
    rcases dc b with ⟨s,_ | _⟩ <;> rfl
  | x::a,b=>by
    have ih:=Ea a b;simp only[WW,dc,ih];cases h:(dc b).2
    ·simp
    ·simp only[if_true];cases h2:(dc a).2 <;> simp
def carry (c:List UInt8) (m:Nat):Prop:=(dc (c.drop m)).2=true
def eZ (c:List UInt8) (m:Nat):List UInt8:=c.take m++(dc (c.drop m)).1
theorem Eb (c:List UInt8) (m:Nat):(eZ c m).length=c.length:=by
  unfold eZ; rw[VR,vI,← VR,Wy]
theorem LX (c:List UInt8):eZ c c.length=c:=by unfold eZ; simp[dc]
theorem Ly (c:List UInt8):carry c c.length:=by unfold carry; simp[dc]
theorem M4 (c:List UInt8):eZ c 0=jX c:=by unfold eZ jX; simp
theorem Qt {c:List UInt8} {m:Nat} (h:m<c.length):(eZ c (m+1))[m]?=some (c.getD m 0):=by
  unfold eZ;rw[WE (by rw[VW]; omega),Wj,if_pos (by omega)];exact ez h
theorem BJ {c:List UInt8} {m:Nat} (h:m<c.length):c.drop m=c.getD m 0::c.drop (m+1):=by
  rw[List.drop_eq_getElem_cons h,VS,VQ h]; rfl
theorem Qu {c:List UInt8} {m:Nat} (h:m<c.length) (hc:carry c (m+1)):(eZ c (m+1)).set m (c.getD m 0+1)=eZ c m:=by
  have e:(dc (c.drop m)).1=(c.getD m 0+1)::(dc (c.drop (m+1))).1:=by
    rw[BJ h];unfold carry at hc;simp only[dc,hc,if_true]
  have e2:c.take (m+1)=c.take m++[c.getD m 0]:=by
    rw[XC,ez h]; rfl
  unfold eZ;rw[e,e2,Wp,XJ _ _ (by rw[VW]; omega),VW,show m-min m c.length=0 by omega];rfl
theorem LY {c:List UInt8} {m:Nat} (h:m<c.length) (hc:carry c (m+1)):(dc (c.drop m)).2=(c.getD m 0+1==0):=by
  rw[BJ h];unfold carry at hc;simp only[dc,hc,if_true]
theorem Qv {c:List UInt8} {m:Nat} (h:(dc (c.drop m)).2=false):eZ c m=jX c:=by
  have:=Ea (c.take m) (c.drop m);rw[Wy,h] at this;unfold jX eZ;rw[this]; rfl
theorem SG (x c:UInt8) (n:Int) (h:n=(c.toNat:Int)):bF .add (.w (.c (.d (bD x)))) (.w (.c (.d (.int .u8 n))))=some (bD (x+c)):=by
  subst h
  show br .add .u8 (x.toNat:Int) .u8 (c.toNat:Int)=_
  rw[qM,IntKind.wrap_u8]
  show some (D.int .u8 (((x.toNat:Int)+(c.toNat:Int))%256))=_
  have:((x.toNat:Int)+(c.toNat:Int))%256=((x+c).toNat:Int):=by
    rw[UInt8.toNat_add]; simp
  rw[this]; rfl
def tM (c:List UInt8):List UInt8:=if c.length=16 then jX c else []
def tN (c:List UInt8) (m:Nat):St:=⟨aV [(3,.w (.c (.own 1 1 0 16))),(4,.w (.c (.d (.int .i64 ((m:Int)-1)))))],hL [(1,.row 1 ((eZ c m).map bD))],uL [1]⟩
def qY:aN := .seq (.seq (.reg [oM 14 4,oO 15 (.bin .geq (.t 14) (kI 0))]) (.cond (.t 15) (.skip) (.exit 0))) (.seq (.block 1 (.seq (.reg [oM 18 3,oM 19 4,oO 20 (.idxSl 1 (.t 18) (.t 19)),oO 21 (.load .sc (.t 20)),oO 22 (.bin .add (.t 21) (.k (.c (.d (.int .u8 1))))),oO 23 (.idxSl 1 (.t 18) (.t 19)),oN (.store .sc (.t 23) (.t 22))]) (.seq (.reg [oM 24 3,oM 25 4,oO 26 (.idxSl 1 (.t 24) (.t 25)),oO 27 (.load .sc (.t 26)),oO 28 (.bin .neq (.t 27) (.k (.c (.d (.int .u8 0)))))]) (.cond (.t 28) (.exit 0) (.skip))))) (.reg [oM 16 4,oO 17 (.bin .sub (.t 16) (kI 1)),oM 4 17]))
def xD:aF:=⟨1,30,.seq (.reg [oO 2 (.mv (.k (.c .nil)))]) (.seq (.seq (.reg [oM 5 0,oO 6 (.len (.t 5)),oO 7 (.bin .neq (.t 6) (kI 16))]) (.cond (.t 7) (.seq (.reg [oO 2 (.mv (.k (.c .nil)))]) (.ret)) (.skip))) (.seq (.reg [oM 8 0,oO 9 (.bldSl false 1 1 (.sl []) [(0,(.t 8))]),oO 10 (.call 90 [(.t 9)] (some (0,1))),oM 3 10]) (.seq (.seq (.reg [oM 11 3,oO 12 (.len (.t 11)),oO 13 (.bin .sub (.t 12) (kI 1)),oM 4 13]) (.block 0 (.loop qY))) (.seq (.reg [oM 29 3,oM 2 29]) (.ret))))),[(2,none)]⟩
theorem SH:aE Tryz.prog { own:=[10],comp:=[],frz:=[],nils:=[] } Tryz.f151=some xD:=by kernel_rfl
theorem UO (G:ai) (c:List UInt8) (hc:c.length≤140737488355328):au Tryz.prog G 151 [.sl (c.map bD)] (.w (.c (.fr 1 ((tM c).map bD)))):=by
  refine aG Tryz.func151 SH rfl rfl ?_;unfold tM;by_cases h:c.length=16
  ·rw[if_pos h];have hj:=fC G [c] (by simp) (by simp; omega);have hf:[c].flatten=c:=by simp
   rw[hf] at hj;have hs:=LX c;rw[h] at hs;simp only[xD,ah,af,aa,seval,iteOmega,toNatUp,h];refine sD (hj) ?_;refine bd (tN c) (fun m=>m) (fun m=>m≤16∧carry c m) 16 ⟨V0 _,by have:=Ly c; rwa [h] at this⟩ ?_ ?_
   ·refine aB (fun i=>80) ?_ ?_ rfl rfl <;> simp only[wx,aA,aK,aa,seval,iteOmega,toNatUp,hs,h] <;> rfl
   ·rintro m ⟨hm,hcar⟩;rcases m with _ | q
    ·have e0:=M4 c;have hl:(jX c).length=16:=by rw[BH]; exact h
     simp only[qY,tN,e0,Xm,Int.zero_sub,af,aa,seval,iteOmega,toNatUp];exact eK (id:=1) (n:=16) (s:=1) (by simp only[wx,aa,seval,iteOmega,toNatUp]) (by simp only[wx,aa,seval,iteOmega,toNatUp]) (by simp[hl])
    ·have hq:q<c.length:=by omega
     have hl1:(eZ c (q+1)).length=16:=by rw[Eb]; exact h
     have hl0:(eZ c q).length=16:=by rw[Eb]; exact h
     have g1:=Qt hq;have h3:q<(eZ c (q+1)).length:=by omega
     have h5:=Qu hq hcar;have g2:(eZ c q)[q]?=some (c.getD q 0+1):=by
       rw[← h5,List.getElem?_set_self (by omega)]
     have x1:=SG (c.getD q 0) 1 1 rfl;have x2:=Se (c.getD q 0+1) 0 0 rfl;have hcs:=LY hq hcar;have sub:((q:Int)+1-1)=(q:Int):=by omega
     by_cases hz:c.getD q 0+1=0
     ·have hz2:(c.getD q 0+1 != 0)=false:=by rw[hz]; rfl
      rw[hz2] at x2;have hcar2:carry c q:=by unfold carry; rw[hcs,hz]; rfl
      simp only[qY,tN,af,aa,seval,iteOmega,toNatUp,sub,aM,g1,x1,fL h3 (fg _),gw,h5,g2,x2,hl1,hl0];refine aX q (by omega) ⟨by omega,hcar2⟩ (aB (fun i=>i) ?_ ?_ rfl rfl) <;> simp only[wx,aA,aK,aa,seval,iteOmega,toNatUp]
     ·have hz2:(c.getD q 0+1 != 0)=true:=bne_iff_ne.2 hz;rw[hz2] at x2;have e0:eZ c q=jX c:=Qv (by rw[hcs]; exact beq_eq_false_iff_ne.2 hz);rw[e0] at hl0 g2 h5;simp only[qY,tN,af,aa,seval,iteOmega,toNatUp,sub,aM,g1,x1,fL h3 (fg _),gw,h5,g2,x2,hl1,e0];exact eK (id:=1) (n:=16) (s:=1) (by simp only[wx,aa,seval,iteOmega,toNatUp]) (by simp only[wx,aa,seval,iteOmega,toNatUp]) (by simp[hl0])
  ·rw[if_neg h];simp only[xD,ah,af,aa,seval,iteOmega,toNatUp];exact eT
def p6 (key b:List UInt8):Int:=if key.length≠16 then 5 else if b.length≠16 then 3 else 0
def tO (key b:List UInt8):List UInt8:=if key.length=16∧b.length=16 then r7 key b else []
def r8:aF:=⟨2,18,.seq (.reg [oO 4 (.mv (.k (.c .nil))),oO 5 (.mv (kI 0))]) (.seq (.seq (.reg [oM 7 0,oO 8 (.len (.t 7)),oO 9 (.bin .neq (.t 8) (kI 16))]) (.cond (.t 9) (.seq (.reg [oO 4 (.mv (.k (.c .nil))),oO 5 (.mv (kI 5))]) (.ret)) (.skip))) (.seq (.seq (.reg [oM 10 1,oO 11 (.len (.t 10)),oO 12 (.bin .neq (.t 11) (kI 16))]) (.cond (.t 12) (.seq (.reg [oO 4 (.mv (.k (.c .nil))),oO 5 (.mv (kI 3))]) (.ret)) (.skip))) (.seq (.reg [oM 13 0,oO 14 (.call 148 [(.t 13)] none),oM 15 1,oO 16 (.call 150 [(.t 14),(.t 15)] none),oO 6 (.allocArr [(.int .u8 0),(.int .u8 0),(.int .u8 0),(.int .u8 0),(.int .u8 0),(.int .u8 0),(.int .u8 0),(.int .u8 0),(.int .u8 0),(.int .u8 0),(.int .u8 0),(.int .u8 0),(.int .u8 0),(.int .u8 0),(.int .u8 0),(.int .u8 0)]),oN (.store (.ag 16) (.t 6) (.t 16))]) (.seq (.reg [oO 17 (.sliceArr 1 16 (.t 6) none none),
 oM 4 17,oO 5 (.mv (kI 0))]) (.ret))))),[(4,none),(5,none)]⟩
theorem SI:aE Tryz.prog { own:=[],comp:=[],frz:=[],nils:=[] } Tryz.f168=some r8:=by kernel_rfl
theorem yr (G:ai) (key b:List UInt8) (hk:key.length≤9223372036854775807) (hb:b.length≤9223372036854775807):au Tryz.prog G 168 [.sl (key.map bD),.sl (b.map bD)] (.tup [.c (.fr 1 ((tO key b).map bD)),.c (.d (.int .i64 (p6 key b)))]):=by
  refine aG Tryz.func168 SI rfl rfl ?_;unfold tO p6;by_cases h:key.length=16
  ·by_cases h2:b.length=16
   ·have hr:=wN h;have hl:(r7 key b).length=16:=iI _ _;have ht:(r7 key b).take 16=r7 key b:=VV (by omega);rw[if_pos ⟨h,h2⟩,if_neg (by simp[h]),if_neg (by simp[h2])];simp only[r8,ah,af,aa,seval,iteOmega,toNatUp,h,h2,gW];refine sD (Iy G key h) ?_;refine sC (Iz G (aP key) b hr h2) ?_;simp only[iI,cH,hl,af,aa,seval,iteOmega,toNatUp];exact xq (by simp only[af,aa,seval,iteOmega,toNatUp,jp,iI,hl,iM]; rfl) (by simp only[af,aa,seval,iteOmega,toNatUp])
   ·rw[if_neg (fun k=>h2 k.2),if_neg (by simp[h]),if_pos h2];simp only[r8,ah,af,aa,seval,iteOmega,toNatUp,h];exact du
  ·rw[if_neg (fun k=>h k.1),if_pos h];simp only[r8,ah,af,aa,seval,iteOmega,toNatUp];exact du
def mb (key:List UInt8):Int:=if key.length≠16 then 5 else 0
def jk (r n:Nat):Nat:=(n-r%n)%n
def p7 (b:List UInt8) (n:Int):List UInt8:=if 1≤n∧n≤64 then b++List.replicate (jk b.length n.toNat) 0 else b
theorem Qw (b:List UInt8) {n:Nat} (h:1≤n∧n≤64):p7 b (n:Int)=b++List.replicate (jk b.length n) 0:=by
  unfold p7; rw[if_pos (by omega),XL]
theorem OJ (b:List UInt8) {n:Int} (h:¬ (1≤n∧n≤64)):p7 b n=b:=if_neg h
theorem OK (r:Nat) {n:Nat} (h:1≤n):jk r n<n:=Xo _ (by omega)
theorem Qx (n:Nat):aQ 0 n=List.replicate n 0:=by
  unfold aQ;simp only[Nat.zero_div]
  induction n with
  | zero=>rfl
  | succ n ih=>rw[XA,Wu,ih,List.replicate_succ']; rfl
theorem IA (a b:Nat):Int.tmod (a:Int) (b:Int)=((a%b:Nat):Int):=rfl
def r9:aF:=⟨2,28,.seq (.reg [oO 4 (.mv (.k (.c .nil)))]) (.seq (.seq (.reg [oM 6 1,oO 7 (.bin .lss (.t 6) (kI 1)),oM 8 7,oG 9 (.mv (.t 1)) 8 false,oG 10 (.bin .gtr (.t 9) (kI 64)) 8 false,oO 11 (.pick (.t 8) (.k (.c (.d (.bool true)))) (.t 10))]) (.cond (.t 11) (.seq (.reg [oM 12 0,oO 13 (.bldSl false 1 1 (.sl []) [(0,(.t 12))]),oO 14 (.call 90 [(.t 13)] (some (0,1))),oM 4 14]) (.ret)) (.skip))) (.seq (.reg [oM 15 1,oM 16 0,oO 17 (.len (.t 16)),oM 18 1,oO 19 (.bin .rem (.t 17) (.t 18)),oO 20 (.bin .sub (.t 15) (.t 19)),oM 21 1,oO 22 (.bin .rem (.t 20) (.t 21)),oM 5 22]) (.seq (.reg [oM 23 0,oM 24 5,oO 25 (.call 91 [(.k (.c (.d (.int .u64 0)))),(.t 24)] none),oO 26 (.bldSl false 2 1 (.sl []) [(0,(.t 23)),(1,(.t 25))]),oO 27 (.call 90 [(.t 26)] (some (0,1))),oM 4 27]) (.ret)))),[(4,none)]⟩
theorem SK:aE Tryz.prog { own:=[14,27],comp:=[],frz:=[],nils:=[] } Tryz.f187=some r9:=by kernel_rfl
set_option maxHeartbeats 1600000 in
theorem UP (G:ai) (b:List UInt8) (n:Int) (hb:b.length≤70368744177664):au Tryz.prog G 187 [.sl (b.map bD),.int .i64 n] (.w (.c (.fr 1 ((p7 b n).map bD)))):=by
  refine aG Tryz.func187 SK rfl rfl ?_;by_cases hc:1≤n∧n≤64
  ·obtain⟨m,rfl⟩:=W4 (show 0≤n by omega);rw[Qw b (by omega)];have hr:b.length%m<m:=Xo _ (by omega);have hk:jk b.length m=(m-b.length%m)%m:=rfl;have hlt:=OK b.length (n:=m) (by omega);have e1:=IA b.length m;have e2:Int.tmod ((m:Int)-((b.length%m:Nat):Int)) (m:Int)=((jk b.length m:Nat):Int):=by
     rw[show (m:Int)-((b.length%m:Nat):Int)=((m-b.length%m:Nat):Int) by omega,IA,hk]
   have hm:((m:Int)=0)=False:=eq_false (by omega);have hp:=kK G 0 (jk b.length m) (by omega);have hj:=fC G [b,aQ 0 (jk b.length m)] (by simp) (by simp[ch]; omega);have hf:[b,aQ 0 (jk b.length m)].flatten=b++List.replicate (jk b.length m) 0:=by rw[Qx]; simp
   rw[hf] at hj;generalize jk b.length m=k at *
   simp only[r9,ah,af,aa,seval,iteOmega,toNatUp,e1,e2,hm];refine sD (hp) ?_;refine sD (hj) ?_;exact eT
  ·rw[OJ b hc];have hj:=fC G [b] (by simp) (by simp; omega);have hf:[b].flatten=b:=by simp
   rw[hf] at hj;by_cases h1:n<1
   ·simp only[r9,ah,af,aa,seval,iteOmega,toNatUp];refine sD (hj) ?_;exact eT
   ·have h2:64<n:=by omega
    simp only[r9,ah,af,aa,seval,iteOmega,toNatUp];refine sD (hj) ?_;exact eT
def dG (b:List UInt8) (j:Nat):UInt8:=if j<15 then jx (ej (b.getD j 0) 1) (ek (b.getD (j+1) 0) 7) else ej (b.getD j 0) 1
def gX (b:List UInt8):List UInt8:=(List.range 16).map (dG b)
theorem wO (b:List UInt8):(gX b).length=16:=by simp[gX]
theorem wP (b:List UInt8) {j:Nat} (h:j<16):(gX b)[j]?=some (dG b j):=by simp[gX,h]
def p8 (b:List UInt8):UInt8:=jr (js (b.getD 0 0) 7) 135
theorem OL {b:List UInt8} (h:b.length=16):(gX b).set 15 (ar (dG b 15) (p8 b))=e9 b:=by
  unfold e9;rw[if_pos h];apply WZ;intro j;rw[XO];by_cases hj:j<16
  ·rw[rE _ hj];have hd:∀ k,ba b k=b.getD k 0:=fun _=>rfl
   by_cases h15:15=j
   ·subst h15;rw[if_pos rfl,if_pos (by rw[wO]; decide)];simp only[dG,zd,hd,p8,Nat.lt_irrefl,if_false,if_true,u4]
   ·rw[if_neg h15,wP _ hj];have:j<15:=by omega
    simp only[dG,zd,hd,if_pos this,if_neg (show ¬ j=15 by omega),u4,SJ]
  ·rw[if_neg (by omega),WF (by rw[wO]; omega),WF (by rw[fK]; omega)]
theorem OM (b:List UInt8):bF .mul (.w (.c (.d (bD (ek (b.getD 0 0) 7))))) (.w (.c (.d (.int .u8 135))))=some (bD (p8 b)):=by
  have key:=kO (p:=fun x=>(ek x 7).toNat*135%256==(jr (js x 7) 135).toNat) (by decide +kernel) (b.getD 0 0);rw[beq_iff_eq] at key
  show br .mul .u8 _ .u8 _=_
  rw[vD,IntKind.wrap_u8];unfold p8 bD;rw[← key]
  congr 2
theorem ON (x:UInt8):jx x 0=x:=by
  have key:=kO (p:=fun x=>jx x 0==x) (by decide +kernel) x;rw[beq_iff_eq] at key;exact key
theorem VI:bD 0=.int .u8 0:=rfl
def mg (b:List UInt8) (m:Nat):UInt8:=if m<16 then ek (b.getD m 0) 7 else 0
theorem OO (b:List UInt8) {q:Nat} (h:q<16):jx (ej (b.getD q 0) 1) (mg b (q+1))=dG b q:=by
  unfold mg dG;by_cases h2:q<15
  ·rw[if_pos (by omega),if_pos h2]
  ·rw[if_neg (by omega),if_neg h2,ON]
theorem SL (b:List UInt8) {q:Nat} (h:q<16):ek (b.getD q 0) 7=mg b q:=(if_pos h).symm
def iy (l:List UInt8) (m:Nat):List UInt8:=List.replicate m 0++l.drop m
theorem Qy {l:List UInt8} {m:Nat} (h:m≤l.length):(iy l m).length=l.length:=by
  unfold iy; rw[VR,Wi,V5]; omega
theorem OP (l:List UInt8):iy l 0=l:=by simp[iy]
theorem OQ {l:List UInt8} {m:Nat} (h:l.length=m):iy l m=List.replicate m 0:=by
  unfold iy; rw[WT (by omega),Wc]
theorem OR {l:List UInt8} {q:Nat} (h:q<l.length):(iy l (q+1)).set q (l.getD q 0)=iy l q:=by
  unfold iy;rw[List.replicate_succ',Wp,XJ _ _ (by simp),Wi,XU,List.drop_eq_getElem_cons h,VS,VQ h];rfl
def ze (b:List UInt8) (m:Nat):St:=⟨aV [(0,.w (.c (.d (.sl (b.map bD))))),(3,.w (.c (.own 1 1 0 16))),(4,.w (.c (.d (bD (mg b m))))),(5,.w (.c (.d (.int .i64 ((m:Int)-1)))))],hL [(1,.row 1 ((iy (gX b) m).map bD))],uL [1]⟩
theorem Qz {b:List UInt8} (h:b.length≠16):e9 b=[]:=if_neg h
def vO:aN := .seq (.seq (.reg [oM 10 5,oO 11 (.bin .geq (.t 10) (kI 0))]) (.cond (.t 11) (.skip) (.exit 0))) (.seq (.block 1 (.seq (.reg [oM 14 3,oM 15 5,oM 16 0,oM 17 5,oO 18 (.idxSl 1 (.t 16) (.t 17)),oO 19 (.load .sc (.t 18)),oO 20 (.bin .shl (.t 19) (.k (.c (.d (.int .u64 1))))),oM 21 4,oO 22 (.bin .or (.t 20) (.t 21)),oO 23 (.idxSl 1 (.t 14) (.t 15)),oN (.store .sc (.t 23) (.t 22))]) (.reg [oM 24 0,oM 25 5,oO 26 (.idxSl 1 (.t 24) (.t 25)),oO 27 (.load .sc (.t 26)),oO 28 (.bin .shr (.t 27) (.k (.c (.d (.int .u64 7))))),oM 4 28]))) (.reg [oM 12 5,oO 13 (.bin .sub (.t 12) (kI 1)),oM 5 13]))
def xE:aF:=⟨1,37,.seq (.reg [oO 2 (.mv (.k (.c .nil)))]) (.seq (.seq (.reg [oM 6 0,oO 7 (.len (.t 6)),oO 8 (.bin .neq (.t 7) (kI 16))]) (.cond (.t 8) (.seq (.reg [oO 2 (.mv (.k (.c .nil)))]) (.ret)) (.skip))) (.seq (.reg [oO 9 (.make true 1 1 (.int .u8 0) (kI 16) (kI 16)),oM 3 9]) (.seq (.reg [oO 4 (.mv (.k (.c (.d (.int .u8 0)))))]) (.seq (.seq (.reg [oO 5 (.mv (kI 15))]) (.block 0 (.loop vO))) (.seq (.reg [oM 29 3,oO 30 (.idxSl 1 (.t 29) (kI 15)),oO 31 (.load .sc (.t 30)),oM 32 4,oO 33 (.bin .mul (.t 32) (.k (.c (.d (.int .u8 135))))),oO 34 (.bin .xor (.t 31) (.t 33)),oO 35 (.idxSl 1 (.t 29) (kI 15)),oN (.store .sc (.t 35) (.t 34))]) (.seq (.reg [oM 36 3,oM 2 36]) (.ret))))))),[(2,none)]⟩
theorem SN:aE Tryz.prog { own:=[],comp:=[],frz:=[],nils:=[] } Tryz.f169=some xE:=by kernel_rfl
theorem sZ (G:ai) (b:List UInt8) (hb:b.length≤9223372036854775807):au Tryz.prog G 169 [.sl (b.map bD)] (.w (.c (.fr 1 ((e9 b).map bD)))):=by
  refine aG Tryz.func169 SN rfl rfl ?_;by_cases h:b.length=16
  ·have hd:=OL h;have hl:=wO b;simp only[xE,ah,af,aa,seval,iteOmega,toNatUp,h,gW];refine bd (ze b) (fun m=>m) (fun m=>m≤16) 16 (V0 _) ?_ ?_
   ·have e1:iy (gX b) 16=bw 16 0:=OQ hl;have e2:mg b 16=0:=rfl;refine aB (fun i=>72) ?_ ?_ rfl rfl <;> simp only[wx,aA,aK,aa,seval,iteOmega,toNatUp,e1,e2,VI]
   ·intro m hm;rcases m with _ | q
    ·have e0:=OP (gX b);have c0:mg b 0=ek (b.getD 0 0) 7:=rfl;have x1:=OM b;have g1:=wP b (j:=15) (by decide);have x2:=gu (dG b 15) (p8 b);have h3:15<(gX b).length:=by omega
     have hdl:(e9 b).length=16:=lz h;simp only[vO,ze,e0,c0,Xm,Int.zero_sub,af,aa,seval,iteOmega,toNatUp,aM,g1,x1,x2,fL h3 (fg _),gw,hd];exact eK (id:=1) (n:=16) (s:=1) (by simp only[wx,aa,seval,iteOmega,toNatUp]) (by simp only[wx,aa,seval,iteOmega,toNatUp]) (by simp[hdl])
    ·have hq:q<16:=by omega
     have g1:b[q]?=some (b.getD q 0):=ez (by omega);have hl1:=Qy (l:=gX b) (m:=q+1) (by omega);have h3:q<(iy (gX b) (q+1)).length:=by omega
     have x1:=Ij (b.getD q 0) .u64 1 1 rfl (by decide);have x2:=vE (ej (b.getD q 0) 1) (mg b (q+1));have x3:=Ii (b.getD q 0) .u64 7 7 rfl (by decide);have c1:=OO b hq;have c2:=SL b hq;have hs:=OR (l:=gX b) (q:=q) (by omega);have hg:(gX b).getD q 0=dG b q:=by rw[VS,wP b hq]; rfl
     rw[hg] at hs;have sub:((q:Int)+1-1)=(q:Int):=by omega
     simp only[vO,ze,af,aa,seval,iteOmega,toNatUp,sub,aM,g1,x1,x2,x3,c1,c2,h,fL h3 (fg _),gw,hs];refine aX q (by omega) (by omega) (aB (fun i=>i) ?_ ?_ rfl rfl) <;> simp only[wx,aA,aK,aa,seval,iteOmega,toNatUp]
  ·rw[Qz h];simp only[xE,ah,af,aa,seval,iteOmega,toNatUp];exact eT
def km (a b:List UInt8) (j:Nat):UInt8:=ar (a.getD j 0) (b.getD j 0)
theorem QA {a b:List UInt8} {n:Nat} (ha:a.length=n) (hb:b.length=n):(List.range n).map (km a b)=cF a b:=by
  apply WZ;intro j;by_cases hj:j<n
  ·have:=Ec a b j (by omega) (by omega);have hl:j<(cF a b).length:=by rw[hZ]; omega
   rw[ez hl,this];simp[hj,km]
  ·rw[WF (by simpa using hj),WF (by rw[hZ]; omega)]
def yt (a b:List UInt8) (i:Nat):St:=⟨aV [(0,.w (.c (.d (.sl (a.map bD))))),(1,.w (.c (.d (.sl (b.map bD))))),(5,.w (.c (.own 1 1 0 16))),(9,.w (.c (.d (.int .i64 16)))),(10,.w (.c (.d (.int .i64 (i:Int)))))],hL [(1,.row 1 ((bL (km a b) (bw 16 0) i).map bD))],uL [1]⟩
def vP:aN := .seq (.reg [oO 11 (.bin .lss (.t 10) (.t 9))]) (.seq (.cond (.t 11) (.skip) (.exit 0)) (.seq (.block 1 (.seq (.reg [oM 12 10,oM 6 12]) (.reg [oM 13 5,oM 14 6,oM 15 0,oM 16 6,oO 17 (.idxSl 1 (.t 15) (.t 16)),oO 18 (.load .sc (.t 17)),oM 19 1,oM 20 6,oO 21 (.idxSl 1 (.t 19) (.t 20)),oO 22 (.load .sc (.t 21)),oO 23 (.bin .xor (.t 18) (.t 22)),oO 24 (.idxSl 1 (.t 13) (.t 14)),oN (.store .sc (.t 24) (.t 23))]))) (.reg [oO 25 (.bin .add (.t 10) (kI 1)),oM 10 25])))
def IB:aF:=⟨2,27,.seq (.reg [oO 4 (.mv (.k (.c .nil)))]) (.seq (.reg [oO 7 (.make true 1 1 (.int .u8 0) (kI 16) (kI 16)),oM 5 7]) (.seq (.seq (.reg [oM 8 5,oO 9 (.len (.t 8)),oO 10 (.mv (kI 0))]) (.block 0 (.loop vP))) (.seq (.reg [oM 26 5,oM 4 26]) (.ret)))),[(4,none)]⟩
theorem SO:aE Tryz.prog { own:=[],comp:=[],frz:=[],nils:=[] } Tryz.f171=some IB:=by kernel_rfl
theorem lT (G:ai) (a b:List UInt8) (ha:a.length=16) (hb:b.length=16):au Tryz.prog G 171 [.sl (a.map bD),.sl (b.map bD)] (.w (.c (.fr 1 ((cF a b).map bD)))):=by
  refine aG Tryz.func171 SO rfl rfl ?_;have zl:(bw 16 (0:UInt8)).length=16:=cH _ _;simp only[IB,ah,af,aa,seval,iteOmega,toNatUp,gW];refine bd (yt a b) (fun i=>16-i) (fun i=>i≤16) 0 (VY _) ?_ ?_
  ·have e1:=oY (km a b) (bw 16 0);refine aB (fun i=>56) ?_ ?_ rfl rfl <;> simp only[wx,aA,aK,aa,seval,iteOmega,toNatUp,e1]
  ·intro i hi;by_cases hlt:i<16
   ·have g1:a[i]?=some (a.getD i 0):=ez (by omega);have g2:b[i]?=some (b.getD i 0):=ez (by omega);have hl1:=mS (km a b) (bw 16 0) (i:=i) (by omega);have h3:i<(bL (km a b) (bw 16 0) i).length:=by omega
    have x1:=gu (a.getD i 0) (b.getD i 0);have hx:ar (a.getD i 0) (b.getD i 0)=km a b i:=rfl;have hs:=oZ (km a b) (bw 16 0) (i:=i) (by omega);simp only[vP,yt,af,aa,seval,iteOmega,toNatUp,aM,g1,g2,x1,ha,hb,fL h3 (fg _),gw,hx,hs];refine aX (i+1) (by omega) (by omega) (aB (fun i=>i) ?_ ?_ rfl rfl) <;> simp only[wx,aA,aK,aa,seval,iteOmega,toNatUp]
   ·obtain rfl:i=16:=by omega
    have e1:bL (km a b) (bw 16 0) 16=cF a b:=by rw[D7 _ _ (by rw[cH]; decide),QA ha hb]
    have hl:(cF a b).length=16:=by rw[hZ]; exact ha
    simp only[vP,yt,e1,af,aa,seval,iteOmega,toNatUp];exact eK (id:=1) (n:=16) (s:=1) (by simp only[wx,aa,seval,iteOmega,toNatUp]) (by simp only[wx,aa,seval,iteOmega,toNatUp]) (by simp[hl])
theorem Gf {key b:List UInt8} (h:key.length=16) (hb:b.length=16):tO key b=eu (aP key) b:=if_pos ⟨h,hb⟩
theorem Gg {key b:List UInt8} (h:key.length=16) (hb:b.length=16):p6 key b=0:=by unfold p6; rw[if_neg (by omega),if_neg (by omega)]
theorem QB (b:List UInt8):p7 b 16=ir b:=rfl
def fW (key:List UInt8):D:=.agg [.sl (key.map bD),.sl ((iu (aP key)).map bD),.sl ((ka (aP key)).map bD)]
def qg (key:List UInt8):D:=if key.length=16 then fW key else .agg [.sl [],.sl [],.sl []]
theorem yu (s:Nat) (l:List UInt8) (k:IntKind) (n:Int):V.flat (.tup [.c (.fr s (l.map bD)),.c (.d (.int k n))])=true:=by
  have:=tI s l;simp only[V.flat,W.flat,List.all_cons,List.all_nil,Bool.and_true] at this ⊢;rw[this]; rfl
def Gi:aF:=⟨2,15,.seq (.reg [oO 2 (.box .roBox (.t 0)),oO 4 (.mv (.k (.c .nil)))]) (.seq (.reg [oO 8 (.fieldAddr 0 (.t 2)),oO 9 (.load .sc (.t 8)),oM 10 1,oO 11 (.call 168 [(.t 9),(.t 10)] (some (0,1))),oM 7 11,oO 12 (.extract (.t 7) 0),oO 13 (.extract (.t 7) 1),oM 5 12,oM 6 13]) (.seq (.reg [oM 14 5,oM 4 14]) (.ret))),[(4,none)]⟩
theorem QC:aE Tryz.prog { own:=[],comp:=[(11,0)],frz:=[],nils:=[] } Tryz.f181=some Gi:=by kernel_rfl
theorem IC (G:ai) (key b:List UInt8) (h:key.length=16) (hb:b.length=16):au Tryz.prog G 181 [.agg [.sl (key.map bD)],.sl (b.map bD)] (.w (.c (.fr 1 ((eu (aP key) b).map bD)))):=by
  refine aG Tryz.func181 QC rfl rfl ?_;have hx:=yr G key b (by omega) (by omega);rw[Gf h hb,Gg h hb] at hx;simp only[Gi,ah,af,aa,seval,iteOmega,toNatUp];refine sD (hx) ?_;exact eT
theorem SP (G:ai) (key b:List UInt8) (h:key.length=16) (hb:b.length=16):au Tryz.prog G 181 [.agg [.sl (key.map bD)],.sl (b.map bD)] (.w (.c (.d (.sl ((eu (aP key) b).map bD))))):=lF (IC G key b h hb)
def wQ:aF:=⟨1,25,.seq (.reg [oO 2 (.alloc [.nil,.nil,.nil]),oO 3 (.mv (kI 0))]) (.seq (.reg [oM 8 0,oO 9 (.make true 1 1 (.int .u8 0) (kI 16) (kI 16)),oO 10 (.call 168 [(.t 8),(.t 9)] none),oM 7 10,oO 11 (.extract (.t 7) 0),oO 12 (.extract (.t 7) 1),oM 4 11,oM 5 12]) (.seq (.seq (.reg [oM 13 5,oO 14 (.bin .neq (.t 13) (kI 0))]) (.cond (.t 14) (.seq (.reg [oO 15 (.build [.nil,.nil,.nil] []),oM 16 5,oN (.store (.ag 3) (.t 2) (.t 15)),oM 3 16]) (.ret)) (.skip))) (.seq (.reg [oM 17 4,oO 18 (.call 169 [(.t 17)] none),oM 6 18]) (.seq (.reg [oM 19 0,oO 20 (.build [.nil] [(0,1,(.t 19))]),oM 21 6,oM 22 6,oO 23 (.call 169 [(.t 22)] none),oO 24 (.build [.nil,.nil,.nil] [(0,1,(.t 20)),(1,1,(.t 21)),(2,1,(.t 23))]),oN (.store (.ag 3) (.t 2) (.t 24)),oO 3 (.mv (kI 0))]) (.ret))))),[(2,(some (.ag 3))),(3,none)]⟩
theorem QD:aE Tryz.prog { own:=[],comp:=[],frz:=[],nils:=[] } Tryz.f153=some wQ:=by kernel_rfl
theorem SQ (G:ai) (key:List UInt8) (hk:key.length≤9223372036854775807):au Tryz.prog G 153 [.sl (key.map bD)] (.tup [.c (.d (qg key)),.c (.d (.int .i64 (mb key)))]):=by
  refine aG Tryz.func153 QD rfl rfl ?_;have t0:(bw 16 (0:UInt8)).take 16=fM:=rfl;by_cases h:key.length=16
  ·have hx:=yr G key fM (by omega) (by decide);rw[Gf h (by decide),Gg h (by decide)] at hx;have hv:qg key=fW key:=if_pos h;have he:mb key=0:=by unfold mb; rw[if_neg (by omega)]
   have h1:=sZ G (eu (aP key) fM) (by rw[iI]; decide);have h2:=sZ G (iu (aP key)) (by rw[vN]; decide);have s1:e9 (eu (aP key) fM)=iu (aP key):=rfl;have s2:e9 (iu (aP key))=ka (aP key):=rfl;rw[s1] at h1;rw[s2] at h2;rw[hv,he];simp only[wQ,ah,af,aa,seval,iteOmega,toNatUp,gW];refine bh hx (by simp only[af,aa,seval,iteOmega,toNatUp,fu,t0,cH]) (.inr (yu _ _ _ _)) ?_;simp only[af,aa,seval,iteOmega,toNatUp];refine sD (h1) ?_;refine sD (h2) ?_;exact iR (by simp only[af,aa,seval,iteOmega,toNatUp,fW]) (by simp only[af,aa,seval,iteOmega,toNatUp])
  ·have hv:qg key=.agg [.sl [],.sl [],.sl []]:=if_neg h;have he:mb key=5:=if_pos h;have hx:=yr G key fM (by omega) (by decide);have v1:tO key fM=[]:=if_neg (fun k=>h k.1);have v2:p6 key fM=5:=if_pos h;rw[v1,v2] at hx;rw[hv,he];simp only[wQ,ah,af,aa,seval,iteOmega,toNatUp,gW];refine bh hx (by simp only[af,aa,seval,iteOmega,toNatUp,fu,t0,cH]) (.inr (yu _ _ _ _)) ?_;simp only[af,aa,seval,iteOmega,toNatUp];exact aW
def Gj:aF:=⟨1,8,.seq (.reg [oO 2 (.mv (.k (.c .nil)))]) (.seq (.reg [oM 3 0,oO 4 (.bldSl false 1 1 (.int .u8 0) [(0,(.k (.c (.d (.int .u8 128)))))]),oO 5 (.bldSl false 2 1 (.sl []) [(0,(.t 3)),(1,(.t 4))]),oO 6 (.call 90 [(.t 5)] none),oO 7 (.call 187 [(.t 6),(kI 16)] none),oM 2 7]) (.ret)),[(2,none)]⟩
theorem QE:aE Tryz.prog { own:=[],comp:=[],frz:=[],nils:=[] } Tryz.f183=some Gj:=by kernel_rfl
theorem ID (G:ai) (b:List UInt8) (hb:b.length≤70000):au Tryz.prog G 183 [.sl (b.map bD)] (.w (.c (.d (.sl ((ir (b++[128])).map bD))))):=by
  refine aG Tryz.func183 QE rfl rfl ?_;have hj:=fC G [b,[128]] (by simp) (by simp; omega);have hf:[b,[128]].flatten=b++[128]:=by simp
  rw[hf] at hj;have hp:=UP G (b++[128]) 16 (by simp; omega);rw[QB] at hp;simp only[Gj,ah,af,aa,seval,iteOmega,toNatUp];refine sD (hj) ?_;refine sD (hp) ?_;exact aJ
theorem M5 (rk:List UInt8) {e:List UInt8} (h:e.length=16):ke rk e=cF e (iu rk):=if_pos h
theorem M6 (rk:List UInt8) {e:List UInt8} (h:e.length≠16):ke rk e=cF (ir (e++[128])) (ka rk):=if_neg h
def vQ:aF:=⟨2,17,.seq (.reg [oO 2 (.box .roBox (.t 0)),oO 4 (.mv (.k (.c .nil)))]) (.seq (.seq (.reg [oM 5 1,oO 6 (.len (.t 5)),oO 7 (.bin .eql (.t 6) (kI 16))]) (.cond (.t 7) (.seq (.reg [oM 8 1,oO 9 (.fieldAddr 1 (.t 2)),oO 10 (.load .sc (.t 9)),oO 11 (.call 171 [(.t 8),(.t 10)] none),oM 4 11]) (.ret)) (.skip))) (.seq (.reg [oM 12 1,oO 13 (.call 183 [(.t 12)] none),oO 14 (.fieldAddr 2 (.t 2)),oO 15 (.load .sc (.t 14)),oO 16 (.call 171 [(.t 13),(.t 15)] none),oM 4 16]) (.ret))),[(4,none)]⟩
theorem OS:aE Tryz.prog { own:=[],comp:=[],frz:=[],nils:=[] } Tryz.f182=some vQ:=by kernel_rfl
theorem QF (G:ai) (key b:List UInt8) (hb:b.length≤16):au Tryz.prog G 182 [fW key,.sl (b.map bD)] (.w (.c (.d (.sl ((ke (aP key) b).map bD))))):=by
  refine aG Tryz.func182 OS rfl rfl ?_;by_cases h:b.length=16
  ·rw[M5 _ h];simp only[vQ,ah,fW,af,aa,seval,iteOmega,toNatUp,h];refine sD (lT G b (iu (aP key)) h (vN _)) ?_;exact aJ
  ·rw[M6 _ h];simp only[vQ,ah,fW,af,aa,seval,iteOmega,toNatUp];refine sD (ID G b (by omega)) ?_;refine sD (lT G (ir (b++[128])) (ka (aP key)) (uI (by omega)) (OG _)) ?_;exact aJ
def lc (key b:List UInt8):Nat→V
  | 0=>.w (.c (.own 1 1 0 16))
  | i+1=>.w (.c (.d (.sl ((gF (aP key) b (i+1)).map bD))))
def pQ (key b:List UInt8) (i:Nat):St:=⟨aV [(1,.w (.c (.d (.sl ((b.drop (16*i)).map bD))))),(2,.w (.c (.rp [.sl (key.map bD),.sl ((iu (aP key)).map bD),.sl ((ka (aP key)).map bD)]))),(5,lc key b i)],hL [(1,.row 1 ((bw 16 (0:UInt8)).map bD))],uL [1]⟩
theorem SR (b:List UInt8) (i:Nat):((b.drop (16*i)).drop 16).take ((b.drop (16*i)).length-16)=b.drop (16*(i+1)):=by
  rw[XQ,VV (by simp only[V5]; omega)]; rfl
def oL:aN := .seq (.seq (.reg [oM 7 1,oO 8 (.len (.t 7)),oO 9 (.bin .gtr (.t 8) (kI 16))]) (.cond (.t 9) (.skip) (.exit 0))) (.block 1 (.seq (.reg [oO 10 (.fieldAddr 0 (.t 2)),oO 11 (.load (.ag 1) (.t 10)),oM 12 5,oM 13 1,oO 14 (.slice 1 (.t 13) none (some (kI 16)) none),oO 15 (.call 171 [(.t 12),(.t 14)] none),oO 16 (.call 181 [(.t 11),(.t 15)] none),oM 5 16]) (.reg [oM 17 1,oO 18 (.slice 1 (.t 17) (some (kI 16)) none none),oM 1 18])))
def Gk:aF:=⟨2,27,.seq (.reg [oO 2 (.box .roBox (.t 0)),oO 4 (.mv (.k (.c .nil)))]) (.seq (.reg [oO 6 (.make true 1 1 (.int .u8 0) (kI 16) (kI 16)),oM 5 6]) (.seq (.block 0 (.loop oL)) (.seq (.reg [oO 19 (.fieldAddr 0 (.t 2)),oO 20 (.load (.ag 1) (.t 19)),oM 21 5,oO 22 (.load (.ag 3) (.t 2)),oM 23 1,oO 24 (.call 182 [(.t 22),(.t 23)] none),oO 25 (.call 171 [(.t 21),(.t 24)] none),oO 26 (.call 181 [(.t 20),(.t 25)] (some (0,1))),oM 4 26]) (.ret)))),[(4,none)]⟩
theorem QG:aE Tryz.prog { own:=[26],comp:=[],frz:=[],nils:=[] } Tryz.f170=some Gk:=by kernel_rfl
theorem sg (G:ai) (key b:List UInt8) (h:key.length=16) (hb:b.length≤70000):au Tryz.prog G 170 [fW key,.sl (b.map bD)] (.w (.c (.fr 1 ((gU (aP key) b).map bD)))):=by
  refine aG Tryz.func170 QG rfl rfl ?_;have t0:(bw 16 (0:UInt8)).take 16=fM:=rfl;have hah:lJ b=(b.length+15) / 16-1:=rfl;have hm:∀ i,i=lJ b→gU (aP key) b=eu (aP key) (cF (gF (aP key) b i) (ke (aP key) (b.drop (16*i)))):=fun i e=>by rw[e]; rfl
  simp only[Gk,ah,fW,af,aa,seval,iteOmega,toNatUp,gW];refine bd (pQ key b) (fun i=>lJ b-i) (fun i=>i≤lJ b) 0 (VY _) ?_ ?_
  ·refine aB (fun i=>48) ?_ ?_ rfl rfl <;> simp only[wx,aA,aK,aa,seval,iteOmega,toNatUp,lc]
  ·intro i hi;have hcl:(b.drop (16*i)).length=b.length-16*i:=V5;have hdr:=SR b i;by_cases hlt:i<lJ b
   ·have hT:((b.drop (16*i)).take 16).length=16:=by rw[VW]; omega
    have hstep:eu (aP key) (cF (gF (aP key) b i) ((b.drop (16*i)).take 16))=gF (aP key) b (i+1):=rfl;have h1:=lT G (gF (aP key) b i) ((b.drop (16*i)).take 16) (qZ _ _ _) hT;have h2:=SP G key (cF (gF (aP key) b i) ((b.drop (16*i)).take 16)) h (by rw[hZ,qZ]);rw[hstep] at h2;rcases i with _ | i
    ·have hz:gF (aP key) b 0=fM:=rfl;rw[hz] at h1 h2;simp only[Nat.mul_zero,Xt,WJ,Xr] at hdr;simp only[oL,pQ,lc,af,aa,seval,iteOmega,toNatUp];refine bh h1 (by simp only[af,aa,seval,iteOmega,toNatUp,fu,t0,cH]) (.inr (tI _ _)) ?_;simp only[af,aa,seval,iteOmega,toNatUp];refine sC (h2) ?_;simp only[hdr,af,aa,seval,iteOmega,toNatUp];refine aX (0+1) (by omega) (by omega) (aB (fun i=>i) ?_ ?_ rfl rfl) <;> simp only[wx,aA,aK,aa,seval,iteOmega,toNatUp,lc]
    ·simp only[oL,pQ,lc,af,aa,seval,iteOmega,toNatUp];refine sD (h1) ?_;refine sC (h2) ?_;simp only[hdr,af,aa,seval,iteOmega,toNatUp];refine aX (i+1+1) (by omega) (by omega) (aB (fun i=>i) ?_ ?_ rfl rfl) <;> simp only[wx,aA,aK,aa,seval,iteOmega,toNatUp,lc]
   ·rw[hm i (by omega)];have hl16:(b.drop (16*i)).length≤16:=by omega
    have h1:=QF G key (b.drop (16*i)) hl16;have h2:=lT G (gF (aP key) b i) (ke (aP key) (b.drop (16*i))) (qZ _ _ _) (OH hl16);have h3:=IC G key (cF (gF (aP key) b i) (ke (aP key) (b.drop (16*i)))) h (by rw[hZ,qZ]);rcases i with _ | i
    ·have hz:gF (aP key) b 0=fM:=rfl;rw[hz] at h2 h3 ⊢;simp only[oL,pQ,lc,af,aa,seval,iteOmega,toNatUp];refine sD (h1) ?_;refine bh h2 (by simp only[af,aa,seval,iteOmega,toNatUp,fu,t0,cH]) (.inr (tI _ _)) ?_;simp only[af,aa,seval,iteOmega,toNatUp];refine sD (h3) ?_;exact eT
    ·simp only[oL,pQ,lc,af,aa,seval,iteOmega,toNatUp];refine sD (h1) ?_;refine sD (h2) ?_;refine sD (h3) ?_;exact eT
theorem SS (G:ai) (key b:List UInt8) (h:key.length=16) (hb:b.length≤70000):au Tryz.prog G 170 [fW key,.sl (b.map bD)] (.w (.c (.d (.sl ((gU (aP key) b).map bD))))):=lF (sg G key b h hb)
def wR:aF:=⟨2,26,.seq (.reg [oO 4 (.mv (.k (.c .nil)))]) (.seq (.reg [oM 6 0,oO 7 (.len (.t 6)),oO 8 (.bin .sub (.t 7) (kI 16)),oM 5 8]) (.seq (.seq (.reg [oM 9 5,oO 10 (.bin .lss (.t 9) (kI 0))]) (.cond (.t 10) (.seq (.reg [oM 11 1,oO 12 (.call 169 [(.t 11)] none),oM 13 0,oO 14 (.call 183 [(.t 13)] none),oO 15 (.call 171 [(.t 12),(.t 14)] none),oM 4 15]) (.ret)) (.skip))) (.seq (.reg [oM 16 0,oM 17 5,oO 18 (.slice 1 (.t 16) none (some (.t 17)) none),oM 19 0,oM 20 5,oO 21 (.slice 1 (.t 19) (some (.t 20)) none none),oM 22 1,oO 23 (.call 171 [(.t 21),(.t 22)] none),oO 24 (.bldSl false 2 1 (.sl []) [(0,(.t 18)),(1,(.t 23))]),oO 25 (.call 90 [(.t 24)] none),oM 4 25]) (.ret)))),[(4,none)]⟩
theorem QH:aE Tryz.prog { own:=[],comp:=[],frz:=[],nils:=[] } Tryz.f172=some wR:=by kernel_rfl
theorem SU (G:ai) (s d:List UInt8) (hs:s.length≤70000) (hd:d.length=16):au Tryz.prog G 172 [.sl (s.map bD),.sl (d.map bD)] (.w (.c (.d (.sl ((if 16≤s.length then s.take (s.length-16)++cF (s.drop (s.length-16)) d else cF (e9 d) (ir (s++[128]))).map bD))))):=by
  refine aG Tryz.func172 QH rfl rfl ?_;by_cases h:16≤s.length
  ·rw[if_pos h];have hl:(s.drop (s.length-16)).length=16:=by rw[V5]; omega
   have ht:(s.drop (s.length-16)).take (s.length-(s.length-16))=s.drop (s.length-16):=VV (by omega);have hj:=fC G [s.take (s.length-16),cF (s.drop (s.length-16)) d] (by simp) (by simp[hZ]; omega);have hf:[s.take (s.length-16),cF (s.drop (s.length-16)) d].flatten=s.take (s.length-16)++cF (s.drop (s.length-16)) d:=by simp
   rw[hf] at hj;have e1:(((s.length:Int)-16).toNat)=s.length-16:=by omega
   simp only[wR,ah,af,aa,seval,iteOmega,toNatUp,e1,ht];refine sD (lT G (s.drop (s.length-16)) d hl hd) ?_;refine sD (hj) ?_;exact aJ
  ·rw[if_neg h];simp only[wR,ah,af,aa,seval,iteOmega,toNatUp];refine sD (sZ G d (by omega)) ?_;refine sD (ID G s (by omega)) ?_;refine sD (lT G (e9 d) (ir (s++[128])) (lz hd) (uI (by omega))) ?_;exact aJ
def yx (key:List UInt8) (l:List (List UInt8)) (i:Nat):St:=⟨aV [(1,.w (.c (.d (.sl (l.map fun l=>D.sl (l.map bD)))))),(2,.w (.c (.rp [.sl (key.map bD),.sl ((iu (aP key)).map bD),.sl ((ka (aP key)).map bD)]))),(5,.w (.c (.d (.sl ((gV (aP key) l i).map bD))))),(6,.w (.c (.d (.int .i64 ((l.length:Int)-1))))),(23,.w (.c (.d (.sl ((l.take (l.length-1)).map fun l=>D.sl (l.map bD)))))),(24,.w (.c (.d (.int .i64 ((l.length:Int)-1))))),(25,.w (.c (.d (.int .i64 (i:Int)))))],hL [(1,.row 1 ((bw 16 (0:UInt8)).map bD))],uL [1]⟩
theorem M7 (rk:List UInt8) {l:List (List UInt8)} (h:l.length=0):iX rk l=gU rk (aQ 1 16):=by
  unfold iX; rw[if_pos h]; congr 1
theorem M8 (rk:List UInt8) {l:List (List UInt8)} (h:l.length≠0):iX rk l=gU rk (if 16≤(l.getD (l.length-1) []).length then (l.getD (l.length-1) []).take ((l.getD (l.length-1) []).length-16)++cF ((l.getD (l.length-1) []).drop ((l.getD (l.length-1) []).length-16)) (gV rk l (l.length-1)) else cF (e9 (gV rk l (l.length-1))) (ir (l.getD (l.length-1) []++[128]))):=by
  unfold iX; rw[if_neg h]; dsimp only; split <;> rfl
theorem wS {l:List (List UInt8)} {j:Nat} (h:j<l.length):l[j]?=some (l.getD j []):=by
  rw[VS,VQ h]; rfl
theorem q8 {l:List (List UInt8)} {j:Nat} (h:j<l.length):l.getD j []∈l:=by
  rw[VS,VQ h]; exact Wq h
def ve:aN := .seq (.reg [oO 26 (.bin .lss (.t 25) (.t 24))]) (.seq (.cond (.t 26) (.skip) (.exit 0)) (.seq (.block 1 (.seq (.reg [oO 27 (.idxSl 1 (.t 23) (.t 25)),oO 28 (.load .sc (.t 27)),oM 8 28]) (.reg [oM 29 5,oO 30 (.call 169 [(.t 29)] none),oO 31 (.load (.ag 3) (.t 2)),oM 32 8,oO 33 (.call 170 [(.t 31),(.t 32)] none),oO 34 (.call 171 [(.t 30),(.t 33)] none),oM 5 34]))) (.reg [oO 35 (.bin .add (.t 25) (kI 1)),oM 25 35])))
def wT:aF:=⟨2,44,.seq (.reg [oO 2 (.box .roBox (.t 0)),oO 4 (.mv (.k (.c .nil)))]) (.seq (.seq (.reg [oM 9 1,oO 10 (.len (.t 9)),oO 11 (.bin .eql (.t 10) (kI 0))]) (.cond (.t 11) (.seq (.reg [oO 12 (.load (.ag 3) (.t 2)),oO 13 (.call 91 [(.k (.c (.d (.int .u64 1)))),(kI 16)] none),oO 14 (.call 170 [(.t 12),(.t 13)] (some (0,1))),oM 4 14]) (.ret)) (.skip))) (.seq (.reg [oO 15 (.load (.ag 3) (.t 2)),oO 16 (.make true 1 1 (.int .u8 0) (kI 16) (kI 16)),oO 17 (.call 170 [(.t 15),(.t 16)] none),oM 5 17]) (.seq (.reg [oM 18 1,oO 19 (.len (.t 18)),oO 20 (.bin .sub (.t 19) (kI 1)),oM 6 20]) (.seq (.seq (.reg [oM 21 1,oM 22 6,oO 23 (.slice 1 (.t 21) none (some (.t 22)) none),oO 24 (.len (.t 23)),oO 25 (.mv (kI 0))]) (.block 0 (.loop ve))) (.seq (.reg [oO 36 (.load (.ag 3) (.t 2)),oM 37 1,
 oM 38 6,oO 39 (.idxSl 1 (.t 37) (.t 38)),oO 40 (.load .sc (.t 39)),oM 41 5,oO 42 (.call 172 [(.t 40),(.t 41)] none),oO 43 (.call 170 [(.t 36),(.t 42)] (some (0,1))),oM 4 43]) (.ret)))))),[(4,none)]⟩
theorem QI:aE Tryz.prog { own:=[14,43],comp:=[],frz:=[],nils:=[] } Tryz.f154=some wT:=by kernel_rfl
theorem SV (G:ai) (key:List UInt8) (l:List (List UInt8)) (h:key.length=16) (hl:l.length≤17) (hb:∀ x∈l,x.length≤65535):au Tryz.prog G 154 [fW key,.sl (l.map fun l=>D.sl (l.map bD))] (.w (.c (.fr 1 ((iX (aP key) l).map bD)))):=by
  refine aG Tryz.func154 QI rfl rfl ?_;have t0:(bw 16 (0:UInt8)).take 16=fM:=rfl;by_cases h0:l.length=0
  ·rw[M7 _ h0];simp only[wT,ah,fW,af,aa,seval,iteOmega,toNatUp,h0];refine sD (kK G 1 16 (by decide)) ?_;refine sD (sg G key (aQ 1 16) h (by rw[ch]; decide)) ?_;exact eT
  ·rw[M8 _ h0];have e1:(((l.length:Int)-1).toNat)=l.length-1:=by omega
   have e2:(l.take (l.length-1)).length=l.length-1:=by rw[VW]; omega
   have e3:((l.length-1:Nat):Int)=(l.length:Int)-1:=by omega
   simp only[wT,ah,fW,af,aa,seval,iteOmega,toNatUp,gW];refine bh (sg G key fM h (by decide)) (by simp only[af,aa,seval,iteOmega,toNatUp,fu,t0,cH,fW]) (.inr (tI _ _)) ?_;simp only[af,aa,seval,iteOmega,toNatUp,e1,e2,e3,DW];refine bd (yx key l) (fun i=>l.length-1-i) (fun i=>i≤l.length-1) 0 (VY _) ?_ ?_
   ·refine aB (fun i=>128) ?_ ?_ rfl rfl <;> simp only[wx,aA,aK,aa,seval,iteOmega,toNatUp,gV,e2,e3]
   ·intro i hi;have hd:=Ed (aP key) l i;by_cases hlt:i<l.length-1
    ·have g1:(l.take (l.length-1))[i]?=some (l.getD i []):=by rw[Wj,if_pos hlt,wS (by omega)]
     have hx:=hb _ (q8 (l:=l) (j:=i) (by omega));have hs:cF (e9 (gV (aP key) l i)) (gU (aP key) (l.getD i []))=gV (aP key) l (i+1):=rfl;have h1:=sZ G (gV (aP key) l i) (by omega);have h2:=SS G key (l.getD i []) h (by omega);have h3:=lT G (e9 (gV (aP key) l i)) (gU (aP key) (l.getD i [])) (lz hd) (q7 _ _);rw[hs] at h3;simp only[ve,yx,af,aa,seval,iteOmega,toNatUp,aM,g1,e2,e3];refine sD (h1) ?_;refine sD (h2) ?_;refine sD (h3) ?_;refine aX (i+1) (by omega) (by omega) (aB (fun i=>i) ?_ ?_ rfl rfl) <;> simp only[wx,aA,aK,aa,seval,iteOmega,toNatUp]
    ·obtain rfl:i=l.length-1:=by omega
     have g1:l[l.length-1]?=some (l.getD (l.length-1) []):=wS (by omega);have hx:=hb _ (q8 (l:=l) (j:=l.length-1) (by omega));have h1:=SU G (l.getD (l.length-1) []) (gV (aP key) l (l.length-1)) (by omega) hd;have hcl:∀ s d:List UInt8,s.length≤65535→d.length=16→(if 16≤s.length then s.take (s.length-16)++cF (s.drop (s.length-16)) d else cF (e9 d) (ir (s++[128]))).length≤70000:=by
       intro s d h1 h2;split
       ·rw[VR,hZ,← VR,Wy]; omega
       ·rw[hZ,lz h2]; decide
     have h2:=sg G key _ h (hcl _ _ hx hd);simp only[ve,yx,af,aa,seval,iteOmega,toNatUp,aM,g1,e1,e3];refine sD (h1) ?_;refine sD (h2) ?_;exact eT
def jl (l:List (List UInt8)):Bool:=l.any fun x=>decide (65535<x.length)
def tP (key:List UInt8) (l:List (List UInt8)):Int:=if key.length≠16 then 5 else if 17<l.length then 8 else if jl l=true then 2 else 0
def zf (key:List UInt8) (l:List (List UInt8)):List UInt8:=if key.length=16∧l.length≤17∧jl l=false then iX (aP key) l else []
theorem OT {l:List (List UInt8)} (h:∀ j,j<l.length→(l.getD j []).length≤65535):jl l=false:=by
  unfold jl;rw[WS];intro x hx;obtain⟨j,hj,rfl⟩:=WA hx;have:=h j hj;rw[VS,VQ hj] at this
  simpa using this
theorem M9 {l:List (List UInt8)} {j:Nat} (hj:j<l.length) (h:65535<(l.getD j []).length):jl l=true:=by
  unfold jl;rw[W9];exact⟨_,q8 hj,decide_eq_true h⟩
theorem Na {l:List (List UInt8)} (h:jl l=false):∀ x∈l,x.length≤65535:=by
  unfold jl at h;rw[WS] at h;intro x hx;have:=h x hx
  simpa using this
def s5 (key:List UInt8) (l:List (List UInt8)) (i:Nat):St:=⟨aV [(1,.w (.c (.d (.sl (l.map fun l=>D.sl (l.map bD)))))),(6,.w (.c (.ptr 1 1 0 0))),(21,.w (.c (.d (.sl (l.map fun l=>D.sl (l.map bD)))))),(22,.w (.c (.d (.int .i64 (l.length:Int))))),(23,.w (.c (.d (.int .i64 (i:Int)))))],hL [(1,.box [.d (.sl (key.map bD)),.d (.sl ((iu (aP key)).map bD)),.d (.sl ((ka (aP key)).map bD))])],uL [1]⟩
def qF:aN := .seq (.reg [oO 24 (.bin .lss (.t 23) (.t 22))]) (.seq (.cond (.t 24) (.skip) (.exit 0)) (.seq (.block 1 (.seq (.reg [oO 25 (.idxSl 1 (.t 21) (.t 23)),oO 26 (.load .sc (.t 25)),oM 9 26]) (.seq (.reg [oM 27 9,oO 28 (.len (.t 27)),oO 29 (.bin .gtr (.t 28) (kI 65535))]) (.cond (.t 29) (.seq (.reg [oO 4 (.mv (.k (.c .nil))),oO 5 (.mv (kI 2))]) (.ret)) (.skip))))) (.reg [oO 30 (.bin .add (.t 23) (kI 1)),oM 23 30])))
def rG:aF:=⟨2,34,.seq (.reg [oO 4 (.mv (.k (.c .nil))),oO 5 (.mv (kI 0))]) (.seq (.reg [oM 11 0,oO 12 (.call 153 [(.t 11)] none),oM 10 12,oO 13 (.extract (.t 10) 0),oO 14 (.extract (.t 10) 1),oO 6 (.alloc [.nil,.nil,.nil]),oN (.store (.ag 3) (.t 6) (.t 13)),oM 7 14]) (.seq (.seq (.reg [oM 15 7,oO 16 (.bin .neq (.t 15) (kI 0))]) (.cond (.t 16) (.seq (.reg [oM 17 7,oO 4 (.mv (.k (.c .nil))),oM 5 17]) (.ret)) (.skip))) (.seq (.seq (.reg [oM 18 1,oO 19 (.len (.t 18)),oO 20 (.bin .gtr (.t 19) (kI 17))]) (.cond (.t 20) (.seq (.reg [oO 4 (.mv (.k (.c .nil))),oO 5 (.mv (kI 8))]) (.ret)) (.skip))) (.seq (.seq (.reg [oM 21 1,oO 22 (.len (.t 21)),oO 23 (.mv (kI 0))]) (.block 0 (.loop qF))) (.seq (.reg [oO 31 (.load (.ag 3) (.t 6)),oM 32 1,oO 33 (.call 154 [(.t 31),(.t 32)] (some (0,1))),
 oM 4 33,oO 5 (.mv (kI 0))]) (.ret)))))),[(4,none),(5,none)]⟩
theorem QJ:aE Tryz.prog { own:=[33],comp:=[],frz:=[],nils:=[] } Tryz.f139=some rG:=by kernel_rfl
theorem SY (G:ai) (key:List UInt8) (l:List (List UInt8)) (hk:key.length≤9223372036854775807) (hl:l.length≤9223372036854775807) (hb:∀ x∈l,x.length≤9223372036854775807):au Tryz.prog G 139 [.sl (key.map bD),.sl (l.map fun l=>D.sl (l.map bD))] (.tup [.c (.fr 1 ((zf key l).map bD)),.c (.d (.int .i64 (tP key l)))]):=by
  refine aG Tryz.func139 QJ rfl rfl ?_;have hx:=SQ G key hk;unfold zf tP;by_cases h:key.length=16
  ·have hv:qg key=fW key:=if_pos h;have he:mb key=0:=by unfold mb; rw[if_neg (by omega)]
   rw[hv,he] at hx;by_cases h2:l.length≤17
   ·rw[if_neg (by omega:¬ key.length≠16),if_neg (by omega:¬ 17<l.length)];simp only[rG,ah,af,aa,seval,iteOmega,toNatUp];refine sC (hx) ?_;simp only[fW,af,aa,seval,iteOmega,toNatUp];refine bd (s5 key l) (fun i=>l.length-i) (fun i=>i≤l.length∧∀ j,j<i→(l.getD j []).length≤65535) 0 ⟨VY _,fun j hj=>by omega⟩ ?_ ?_
    ·refine aB (fun i=>48) ?_ ?_ rfl rfl <;> simp only[wx,aA,aK,aa,seval,iteOmega,toNatUp]
    ·rintro i ⟨hi,hok⟩;by_cases hlt:i<l.length
     ·have g1:=wS hlt;have hx:=hb _ (q8 hlt);by_cases hlong:65535<(l.getD i []).length
      ·have hL:=M9 hlt hlong;rw[hL,if_neg (by simp),if_pos rfl];simp only[qF,s5,af,aa,seval,iteOmega,toNatUp,aM,g1];exact du
      ·simp only[qF,s5,af,aa,seval,iteOmega,toNatUp,aM,g1];refine aX (i+1) (by omega) ⟨by omega,fun j hj=>?_⟩ (aB (fun i=>i) ?_ ?_ rfl rfl)
       ·rcases Wv j i with h | h
        ·exact hok j h
        ·obtain rfl:j=i:=by omega
         omega
       all_goals simp only[wx,aA,aK,aa,seval,iteOmega,toNatUp]
     ·have hL:=OT (l:=l) (fun j hj=>hok j (by omega));rw[hL,if_pos ⟨h,h2,rfl⟩,if_neg (by simp)];simp only[qF,s5,af,aa,seval,iteOmega,toNatUp];refine sD (SV G key l h h2 (Na hL)) ?_;exact du
   ·rw[if_neg (by omega),if_neg (by omega),if_pos (by omega)];have h3:17<l.length:=by omega
    simp only[rG,ah,af,aa,seval,iteOmega,toNatUp];refine sC (hx) ?_;simp only[fW,af,aa,seval,iteOmega,toNatUp];exact du
  ·have hv:qg key=.agg [.sl [],.sl [],.sl []]:=if_neg h;have he:mb key=5:=if_pos h;rw[hv,he] at hx;rw[if_neg (by omega),if_pos h];simp only[rG,ah,af,aa,seval,iteOmega,toNatUp];refine sD (hx) ?_;exact du

theorem Ee (rk c:List UInt8) {n k:Nat} (hk:k<16):∀ {m:Nat},n<m→(l9 rk c m)[16*n+k]?=(eu rk (eY c n))[k]?
  | 0,h=>by omega
  | m+1,h=>by
    rw[l9];by_cases e:n=m
    ·subst e;rw[Ws (by rw[mK]; omega),mK,W5]
    ·rw[WE (by rw[mK]; omega)];exact Ee rk c hk (by omega)
theorem OU (rk c b:List UInt8) {n k:Nat} (hk:k<16) (h:16*n+k<b.length):(fF rk c b)[16*n+k]?=some (ar (b.getD (16*n+k) 0) ((eu rk (eY c n)).getD k 0)):=by
  unfold fF k8;rw[List.getElem?_zipWith,Ee rk c hk (by omega),ez h,ez (by rw[iI]; exact hk)]
def oT (rk c b:List UInt8) (j:Nat):List UInt8:=(fF rk c b).take j
theorem IE (rk c b:List UInt8) (j:Nat):(oT rk c b j).length=min j b.length:=by unfold oT; rw[VW,qD]
theorem rH (rk c b:List UInt8) {j:Nat} (h:b.length≤j):oT rk c b j=fF rk c b:=VV (by rw[qD]; exact h)
theorem QK (rk c b:List UInt8) {n k:Nat} (hk:k<16) (h:16*n+k<b.length):oT rk c b (16*n+k)++[ar (b.getD (16*n+k) 0) ((eu rk (eY c n)).getD k 0)]=oT rk c b (16*n+k+1):=by
  unfold oT; rw[XC,OU rk c b hk h]; rfl
theorem wU {c:List UInt8} (h:c.length=16) (n:Nat):(eY c n).length=16:=by rw[D5]; exact h
theorem OV {c:List UInt8} (h:c.length=16) (n:Nat):tM (eY c n)=eY c (n+1):=by unfold tM; rw[if_pos (wU h n)]; rfl
def jm (key c b:List UInt8):Int:=if key.length≠16 then 5 else if c.length≠16 then 3 else if 65535<b.length then 2 else 0
def s6 (key c b:List UInt8):List UInt8:=if key.length=16∧c.length=16∧b.length≤65535 then fF (aP key) c b else []
theorem Nb {key:List UInt8} (c b:List UInt8) (h:key.length≠16):jm key c b=5:=if_pos h
theorem Nc {key c:List UInt8} (b:List UInt8) (h:key.length=16) (h2:c.length≠16):jm key c b=3:=by unfold jm; rw[if_neg (by simp[h]),if_pos h2]
theorem LZ {key c b:List UInt8} (h:key.length=16) (h2:c.length=16) (h3:65535<b.length):jm key c b=2:=by unfold jm; rw[if_neg (by simp[h]),if_neg (by simp[h2]),if_pos h3]
theorem OW {key c b:List UInt8} (h:key.length=16) (h2:c.length=16) (h3:b.length≤65535):jm key c b=0:=by unfold jm; rw[if_neg (by simp[h]),if_neg (by simp[h2]),if_neg (by omega)]
theorem OX {key c b:List UInt8} (h:key.length=16) (h2:c.length=16) (h3:b.length≤65535):s6 key c b=fF (aP key) c b:=if_pos ⟨h,h2,h3⟩
theorem vS {key c b:List UInt8} (h:¬ (key.length=16∧c.length=16∧b.length≤65535)):s6 key c b=[]:=if_neg h
theorem VJ (rk c b:List UInt8):oT rk c b 0=[]:=WU

def IG:aF:=⟨2,10,.seq (.reg [oO 4 (.mv (.k (.c (.d (.bool false)))))]) (.seq (.reg [oM 5 0,oO 6 (.b2s (.t 5)),oM 7 1,oO 8 (.b2s (.t 7)),oO 9 (.bin .eql (.t 6) (.t 8)),oM 4 9]) (.ret)),[(4,none)]⟩
theorem S5:aE Tryz.prog { own:=[],comp:=[],frz:=[],nils:=[] } Tryz.f129=some IG:=by kernel_rfl
theorem UR (G:ai) (l m:List UInt8):au Tryz.prog G 129 [.sl (l.map bD),.sl (m.map bD)] (.w (.c (.d (.bool (l==m))))):=by
  refine aG Tryz.func129 S5 rfl rfl ?_;simp only[IG,ah,wx,aa,seval,iteOmega,toNatUp,qU,BB];exact jj (by simp only[wx,aa,seval,iteOmega,toNatUp])
def Gm:aF:=⟨2,8,.seq (.reg [oO 4 (.mv (.k (.c (.d (.bool false)))))]) (.seq (.reg [oM 5 0,oM 6 1,oO 7 (.call 129 [(.t 5),(.t 6)] none),oM 4 7]) (.ret)),[(4,none)]⟩
theorem QM:aE Tryz.prog { own:=[],comp:=[],frz:=[],nils:=[] } Tryz.f104=some Gm:=by kernel_rfl
theorem xF (G:ai) (l m:List UInt8):au Tryz.prog G 104 [.sl (l.map bD),.sl (m.map bD)] (.w (.c (.d (.bool (l==m))))):=by
  refine aG Tryz.func104 QM rfl rfl ?_;simp only[Gm,ah,af,aa,seval,iteOmega,toNatUp];refine sD (UR G l m) ?_;exact aJ
def cX:List UInt32:=[0x6a09e667,0xbb67ae85,0x3c6ef372,0xa54ff53a,0x510e527f,0x9b05688c,0x1f83d9ab,0x5be0cd19]
def bB:List UInt32:=[
  0x428a2f98,0x71374491,0xb5c0fbcf,0xe9b5dba5,0x3956c25b,0x59f111f1,0x923f82a4,0xab1c5ed5,
  0xd807aa98,0x12835b01,0x243185be,0x550c7dc3,0x72be5d74,0x80deb1fe,0x9bdc06a7,0xc19bf174,
  0xe49b69c1,0xefbe4786,0x0fc19dc6,0x240ca1cc,0x2de92c6f,0x4a7484aa,0x5cb0a9dc,0x76f988da,
  0x983e5152,0xa831c66d,0xb00327c8,0xbf597fc7,0xc6e00bf3,0xd5a79147,0x06ca6351,0x14292967,
  0x27b70a85,0x2e1b2138,0x4d2c6dfc,0x53380d13,0x650a7354,0x766a0abb,0x81c2c92e,0x92722c85,
  0xa2bfe8a1,0xa81a664b,0xc24b8b70,0xc76c51a3,0xd192e819,0xd6990624,0xf40e3585,0x106aa070,
  0x19a4c116,0x1e376c08,0x2748774c,0x34b0bcb5,0x391c0cb3,0x4ed8aa4a,0x5b9cca4f,0x682e6ff3,
  0x748f82ee,0x78a5636f,0x84c87814,0x8cc70208,0x90befffa,0xa4506ceb,0xbef9a3f7,0xc67178f2]
theorem oE:cX.length=8:=rfl
theorem As:bB.length=64:=rfl
def jL (b:List UInt8) (t:Nat):UInt32 :=
  jw (jw (jw (j9 (jS (b.getD (4*t) 0)) 24) (j9 (jS (b.getD (4*t+1) 0)) 16)) (j9 (jS (b.getD (4*t+2) 0)) 8)) (jS (b.getD (4*t+3) 0))
def xH (x:UInt32):UInt32:=gC (gC (gR x 7) (gR x 18)) (nS x 3)
def xI (y:UInt32):UInt32:=gC (gC (gR y 17) (gR y 19)) (nS y 10)
def lU (s:List UInt32) (t:Nat):UInt32 :=
  bG (bG (bG (xI (s.getD (t-2) 0)) (s.getD (t-7) 0)) (xH (s.getD (t-15) 0))) (s.getD (t-16) 0)
def fv (b:List UInt8) (n:Nat):List UInt32:=(List.range n).map (jL b)
def cY (b:List UInt8):Nat→List UInt32
  | 0=>fv b 16
  | n+1=>cY b n++[lU (cY b n) (16+n)]
def dF (b:List UInt8):List UInt32:=cY b 48
theorem Ei (b:List UInt8) (m:Nat) (h:m=48):dF b=cY b m:=by rw[h]; rfl
def zi (e:UInt32):UInt32:=gC (gC (gR e 6) (gR e 11)) (gR e 25)
def KS (a:UInt32):UInt32:=gC (gC (gR a 2) (gR a 13)) (gR a 22)
def zy (e f g:UInt32):UInt32:=gC (kW e f) (kW (tJ e) g)
def KT (a b c:UInt32):UInt32:=gC (gC (kW a b) (kW a c)) (kW b c)
structure bW where
  (a b c d e f g h:UInt32)
def bW.step (s:bW) (k w:UInt32):bW :=
  let t1:=bG (bG (bG (bG s.h (zi s.e)) (zy s.e s.f s.g)) k) w
  let t2:=bG (KS s.a) (KT s.a s.b s.c)
  ⟨bG t1 t2,s.a,s.b,s.c,bG s.d t1,s.e,s.f,s.g⟩
def bW.of (h:List UInt32):bW:=⟨h.getD 0 0,h.getD 1 0,h.getD 2 0,h.getD 3 0,h.getD 4 0,h.getD 5 0,h.getD 6 0,h.getD 7 0⟩
def bW.rounds (s:bW) (k w:List UInt32):Nat→bW
  | 0=>s
  | n+1=>(s.rounds k w n).step (k.getD n 0) (w.getD n 0)
def bW.sum (s:bW) (h:List UInt32):List UInt32 :=
  [bG (h.getD 0 0) s.a,bG (h.getD 1 0) s.b,bG (h.getD 2 0) s.c,bG (h.getD 3 0) s.d,bG (h.getD 4 0) s.e,bG (h.getD 5 0) s.f,bG (h.getD 6 0) s.g,bG (h.getD 7 0) s.h]
def lK (h:List UInt32) (b:List UInt8):List UInt32:=((bW.of h).rounds bB (dF b) 64).sum h
theorem Au (h:List UInt32) (b:List UInt8):(lK h b).length=8:=rfl
theorem O0 (x y:UInt32):jw x y=jw y x:=UInt32.or_comm x y
def Ej:aF:=⟨2,15,.seq (.reg [oO 4 (.mv (.k (.c (.d (.int .u32 0)))))]) (.seq (.reg [oM 5 0,oM 6 1,oO 7 (.conv .u64 (.t 6)),oO 8 (.bin .shr (.t 5) (.t 7)),oM 9 0,oM 10 1,oO 11 (.bin .sub (kI 32) (.t 10)),oO 12 (.conv .u64 (.t 11)),oO 13 (.bin .shl (.t 9) (.t 12)),oO 14 (.bin .or (.t 8) (.t 13)),oM 4 14]) (.ret)),[(4,none)]⟩
theorem O1:aE Tryz.prog { own:=[],comp:=[],frz:=[],nils:=[] } Tryz.f133=some Ej:=by kernel_rfl
theorem jf (G:ai) (x:UInt32) (n:Nat) (h0:0<n) (hn:n<32):au Tryz.prog G 133 [wD x,.int .i64 n] (.w (.c (.d (wD (gR x n))))):=by
  refine aG Tryz.func133 O1 rfl rfl ?_;have e1:IntKind.u64.wrap (n:Int)=(n:Int):=IntWalk.u64_in _ (by omega);have e2:IntKind.i64.wrap (32-(n:Int))=((32-n:Nat):Int):=by rw[IntWalk.i64_in _ (by omega)]; omega
  have e3:IntKind.u64.wrap ((32-n:Nat):Int)=((32-n:Nat):Int):=IntWalk.u64_in _ (by omega);simp only[Ej,ah,wx,aa,seval,iteOmega,toNatUp,e1,e2,e3];exact jj (by simp only[wx,aa,seval,iteOmega,toNatUp] <;> rfl)
def Gr:aF:=⟨2,17,.seq (.reg [oO 4 (.mv (.k (.c (.d (.int .u32 0)))))]) (.seq (.reg [oM 6 1,oO 7 (.conv .u64 (.t 6)),oO 8 (.bin .and (.t 7) (.k (.c (.d (.int .u64 31))))),oM 5 8]) (.seq (.reg [oM 9 0,oM 10 5,oO 11 (.bin .shl (.t 9) (.t 10)),oM 12 0,oM 13 5,oO 14 (.bin .sub (.k (.c (.d (.int .u64 32)))) (.t 13)),oO 15 (.bin .shr (.t 12) (.t 14)),oO 16 (.bin .or (.t 11) (.t 15)),oM 4 16]) (.ret))),[(4,none)]⟩
theorem QT:aE Tryz.prog { own:=[],comp:=[],frz:=[],nils:=[] } Tryz.f188=some Gr:=by kernel_rfl
theorem Tg (G:ai) (x:UInt32) (n:Nat) (h0:0<n) (hn:n<32):au Tryz.prog G 188 [wD x,.int .i64 (-(n:Int))] (.w (.c (.d (wD (gR x n))))):=by
  refine aG Tryz.func188 QT rfl rfl ?_;have e1:bits .and .u64 (IntKind.u64.wrap (-(n:Int))) 31=((32-n:Nat):Int):=by
    have h:=bits_mask .u64 64 (by decide) u64_in 5 (by decide) (IntKind.u64.wrap (-(n:Int))) (by rw[IntKind.wrap_u64]; omega) (by rw[IntKind.wrap_u64]; omega);rw[show (31:Int)=2^5-1 by decide,h,IntKind.wrap_u64];omega
  have e2:IntKind.u64.wrap (32-((32-n:Nat):Int))=((n:Nat):Int):=by rw[IntWalk.u64_in _ (by omega)]; omega
  simp only[Gr,ah,wx,aa,seval,iteOmega,toNatUp,e1,e2];rw[O0];exact jj (by simp only[wx,aa,seval,iteOmega,toNatUp] <;> rfl)
def Gs:aF:=⟨2,9,.seq (.reg [oO 4 (.mv (.k (.c (.d (.int .u32 0)))))]) (.seq (.reg [oM 5 0,oM 6 1,oO 7 (.un .neg (.t 6)),oO 8 (.call 188 [(.t 5),(.t 7)] none),oM 4 8]) (.ret)),[(4,none)]⟩
theorem QU:aE Tryz.prog { own:=[],comp:=[],frz:=[],nils:=[] } Tryz.f185=some Gs:=by kernel_rfl
theorem ji (G:ai) (x:UInt32) (n:Nat) (h0:0<n) (hn:n<32):au Tryz.prog G 185 [wD x,.int .i64 n] (.w (.c (.d (wD (gR x n))))):=by
  refine aG Tryz.func185 QU rfl rfl ?_;have e1:IntKind.i64.wrap (0-(n:Int)) = -(n:Int):=by rw[IntWalk.i64_in _ (by omega)]; omega
  simp only[Gs,ah,wx,aa,seval,iteOmega,toNatUp,e1];refine bh (Tg G x n h0 hn) rfl (.inr rfl) ?_;simp only[wx,aa,seval,iteOmega,toNatUp];exact jj (by simp only[wx,aa,seval,iteOmega,toNatUp])
def Gt:aF:=⟨0,2,.seq (.reg [oO 0 (.mv (.k (.c .nil)))]) (.seq (.reg [oO 1 (.bldSl true 8 1 (.int .u32 0) [(0,(.k (.c (.d (.int .u32 1779033703))))),(1,(.k (.c (.d (.int .u32 3144134277))))),(2,(.k (.c (.d (.int .u32 1013904242))))),(3,(.k (.c (.d (.int .u32 2773480762))))),(4,(.k (.c (.d (.int .u32 1359893119))))),(5,(.k (.c (.d (.int .u32 2600822924))))),(6,(.k (.c (.d (.int .u32 528734635))))),(7,(.k (.c (.d (.int .u32 1541459225)))))]),oM 0 1]) (.ret)),[(0,none)]⟩
theorem QV:aE Tryz.prog { own:=[1],comp:=[],frz:=[],nils:=[] } Tryz.f117=some Gt:=by kernel_rfl
theorem Ti (G:ai):au Tryz.prog G 117 [] (.w (.c (.fr 1 (cX.map wD)))):=by
  refine aG Tryz.func117 QV rfl rfl ?_;simp only[Gt,ah,sM,sN,sO,sP,sQ,sx];refine Fg (.w (.c (.own 8 1 0 8)),upd hN 8 (some (.row 1 (cX.map wD))),upd uN 8 true) (by kernel_rfl) ?_;simp only[wx,aa,seval,iteOmega,toNatUp];exact eK (id:=8) (n:=8) (s:=1) (by simp only[wx,aa,seval,iteOmega,toNatUp]) (by simp only[wx,aa,seval,iteOmega,toNatUp]) rfl
def Gu:aF:=⟨0,2,.seq (.reg [oO 0 (.mv (.k (.c .nil)))]) (.seq (.reg [oO 1 (.bldSl true 64 1 (.int .u32 0) [(0,(.k (.c (.d (.int .u32 1116352408))))),(1,(.k (.c (.d (.int .u32 1899447441))))),(2,(.k (.c (.d (.int .u32 3049323471))))),(3,(.k (.c (.d (.int .u32 3921009573))))),(4,(.k (.c (.d (.int .u32 961987163))))),(5,(.k (.c (.d (.int .u32 1508970993))))),(6,(.k (.c (.d (.int .u32 2453635748))))),(7,(.k (.c (.d (.int .u32 2870763221))))),(8,(.k (.c (.d (.int .u32 3624381080))))),(9,(.k (.c (.d (.int .u32 310598401))))),(10,(.k (.c (.d (.int .u32 607225278))))),(11,(.k (.c (.d (.int .u32 1426881987))))),(12,(.k (.c (.d (.int .u32 1925078388))))),(13,(.k (.c (.d (.int .u32 2162078206))))),(14,(.k (.c (.d (.int .u32 2614888103))))),(15,(.k (.c (.d (.int .u32 3248222580))))),(16,(.k (.c (.d (.int .u32 3835390401))))),(17,(.k (.c (.d (.int .u32 4022224774))))),(18,(.k (.c (.d (.int .u32 264347078))))),(19,(.k (.c (.d (.int .u32 604807628))))),(20,(.k (.c (.d (.int .u32 770255983))))),(21,(.k (.c (.d (.int .u32 1249150122))))),(22,(.k (.c (.d (.int .u32 1555081692))))),(23,(.k (.c (.d (.int .u32 1996064986))))),(24,(.k (.c (.d (.int .u32 2554220882))))),(25,(.k (.c (.d (.int .u32 2821834349))))),(26,(.k (.c (.d (.int .u32 2952996808))))),(27,(.k (.c (.d (.int .u32 3210313671))))),(28,(.k (.c (.d (.int .u32 3336571891))))),(29,(.k (.c (.d (.int .u32 3584528711))))),(30,(.k (.c (.d (.int .u32 113926993))))),(31,(.k (.c (.d (.int .u32 338241895))))),(32,(.k (.c (.d (.int .u32 666307205))))),(33,(.k (.c (.d (.int .u32 773529912))))),(34,(.k (.c (.d (.int .u32 1294757372))))),(35,(.k (.c (.d (.int .u32 1396182291))))),(36,(.k (.c (.d (.int .u32 1695183700))))),(37,(.k (.c (.d (.int .u32 1986661051))))),(38,(.k (.c (.d (.int .u32 2177026350))))),(39,(.k (.c (.d (.int .u32 2456956037))))),(40,(.k (.c (.d (.int .u32 2730485921))))),(41,(.k (.c (.d (.int .u32 2820302411))))),(42,(.k (.c (.d (.int .u32 3259730800))))),(43,(.k (.c (.d (.int .u32 3345764771))))),(44,(.k (.c (.d (.int .u32 3516065817))))),(45,(.k (.c (.d (.int .u32 3600352804))))),(46,(.k (.c (.d (.int .u32 4094571909))))),(47,(.k (.c (.d (.int .u32 275423344))))),(48,(.k (.c (.d (.int .u32 430227734))))),(49,(.k (.c (.d (.int .u32 506948616))))),(50,(.k (.c (.d (.int .u32 659060556))))),(51,(.k (.c (.d (.int .u32 883997877))))),(52,(.k (.c (.d (.int .u32 958139571))))),(53,(.k (.c (.d (.int .u32 1322822218))))),(54,(.k (.c (.d (.int .u32 1537002063))))),(55,(.k (.c (.d (.int .u32 1747873779))))),(56,(.k (.c (.d (.int .u32 1955562222))))),(57,(.k (.c (.d (.int .u32 2024104815))))),(58,(.k (.c (.d (.int .u32 2227730452))))),(59,(.k (.c (.d (.int .u32 2361852424))))),(60,(.k (.c (.d (.int .u32 2428436474))))),(61,(.k (.c (.d (.int .u32 2756734187))))),(62,(.k (.c (.d (.int .u32 3204031479))))),(63,(.k (.c (.d (.int .u32 3329325298)))))]),
 oM 0 1]) (.ret)),[(0,none)]⟩
theorem QW:aE Tryz.prog { own:=[1],comp:=[],frz:=[],nils:=[] } Tryz.f118=some Gu:=by kernel_rfl
theorem IK (G:ai):au Tryz.prog G 118 [] (.w (.c (.fr 1 (bB.map wD)))):=by
  refine aG Tryz.func118 QW rfl rfl ?_;simp only[Gu,ah,sM,sN,sO,sP,sQ,sx];refine Fg (.w (.c (.own 8 1 0 64)),upd hN 8 (some (.row 1 (bB.map wD))),upd uN 8 true) (by kernel_rfl) ?_;simp only[wx,aa,seval,iteOmega,toNatUp];exact eK (id:=8) (n:=64) (s:=1) (by simp only[wx,aa,seval,iteOmega,toNatUp]) (by simp only[wx,aa,seval,iteOmega,toNatUp]) rfl
theorem Av (b:UInt8):(jS b).toNat=b.toNat:=by have:=Bi b; omega
theorem vf (b:UInt8) (n:Nat) (hn:n≤24):(j9 (jS b) n).toNat=2^n*b.toNat:=by
  have hb:=b.toNat_lt;have h:(2:Nat)^n≤2^24:=Nat.pow_le_pow_right (by decide) hn;have h2:2^n*b.toNat≤2^24*255:=Nat.mul_le_mul h (by omega);unfold j9;rw[Av,UInt32.toNat_ofNat_of_lt' (by rw[Nat.mul_comm]; simp only[UInt32.size]; omega),Nat.mul_comm]
theorem wZ (x y:UInt32):(jw x y).toNat=x.toNat ||| y.toNat:=UInt32.toNat_or x y
theorem L3 (b:List UInt8) (t:Nat):(jL b t).toNat=((((b.getD (4*t) 0).toNat*256+(b.getD (4*t+1) 0).toNat)*256+(b.getD (4*t+2) 0).toNat)*256+(b.getD (4*t+3) 0).toNat):=by
  unfold jL;generalize b.getD (4*t) 0=p;generalize b.getD (4*t+1) 0=q;generalize b.getD (4*t+2) 0=r;generalize b.getD (4*t+3) 0=s;have hp:=p.toNat_lt;have hq:=q.toNat_lt;have hr:=r.toNat_lt;have hs:=s.toNat_lt;rw[wZ,wZ,wZ,vf _ _ (by decide),vf _ _ (by decide),vf _ _ (by decide),Av];have e1:=Nat.two_pow_add_eq_or_of_lt (i:=24) (b:=2^16*q.toNat) (by omega) p.toNat;rw[← e1];have e2:=Nat.two_pow_add_eq_or_of_lt (i:=16) (b:=2^8*r.toNat) (by omega) (2^8*p.toNat+q.toNat);have e3:2^24*p.toNat+2^16*q.toNat=2^16*(2^8*p.toNat+q.toNat):=by omega
  rw[e3,← e2];have e4:=Nat.two_pow_add_eq_or_of_lt (i:=8) (b:=s.toNat) (by omega) (2^8*(2^8*p.toNat+q.toNat)+r.toNat);have e5:2^16*(2^8*p.toNat+q.toNat)+2^8*r.toNat=2^8*(2^8*(2^8*p.toNat+q.toNat)+r.toNat):=by omega
  rw[e5,← e4];omega
theorem four (b:List UInt8) (t:Nat) (h:4*t+4≤b.length):(b.drop (4*t)).take 4=[b.getD (4*t) 0,b.getD (4*t+1) 0,b.getD (4*t+2) 0,b.getD (4*t+3) 0]:=by
  apply WZ;intro j;rw[Wj,WI];rcases j with _ | _ | _ | _ | j
  ·simp[List.getD,VQ (show 4*t<b.length by omega)]
  ·simp[List.getD,VQ (show 4*t+1<b.length by omega)]
  ·simp[List.getD,VQ (show 4*t+2<b.length by omega)]
  ·simp[List.getD,VQ (show 4*t+3<b.length by omega)]
  ·rw[if_neg (by omega)];rfl
theorem VE (b:List UInt8) (t:Nat) (h:4*t+4≤b.length):D.int .u32 (IntKind.u32.wrap (aY ((b.drop (4*t)).take 4):Int))=wD (jL b t):=by
  have h1:=L3 b t;rw[four b t h];unfold wD;rw[h1];generalize b.getD (4*t) 0=p;generalize b.getD (4*t+1) 0=q;generalize b.getD (4*t+2) 0=r;generalize b.getD (4*t+3) 0=s;have hp:=p.toNat_lt;have hq:=q.toNat_lt;have hr:=r.toNat_lt;have hs:=s.toNat_lt;have e:aY [p,q,r,s]=(((p.toNat*256+q.toNat)*256+r.toNat)*256+s.toNat):=by
    simp only[aY,Xi,List.foldl_nil];omega
  rw[e,IntWalk.u32_in _ (by omega)]
theorem oC (b:List UInt8) (n:Nat):(fv b n).length=n:=by simp[fv]
theorem mC (b:List UInt8):∀ n,(cY b n).length=16+n
  | 0=>by simp[cY,oC]
  | n+1=>by rw[cY,VR,mC b n]; simp; omega
theorem o0 {α:Type} (l:List α) (z x:α) (n:Nat) (h:0<n):(l++List.replicate n z).set l.length x=(l++[x])++List.replicate (n-1) z:=by
  obtain⟨k,rfl⟩:∃ k,n=k+1:=⟨n-1,by omega⟩
  rw[XJ _ _ (V0 _),XU,List.replicate_succ,List.set_cons_zero];simp
theorem IL {l:List UInt32} {r:List UInt32} {i:Nat} (h:i<l.length):(l++r)[i]?=some (l.getD i 0):=by
  rw[WE h];simp[h]
def yz (b:List UInt8) (t:Nat):St:=⟨aV [(0,.w (.c (.d (.sl (b.map bD))))),(2,.w (.c (.pa 1 1))),(3,.w (.c (.pa 2 1))),(10,.w (.c (.d (.int .i64 (t:Int)))))],hL [(1,.row 1 ((List.replicate 64 (0:UInt32)).map wD)),(2,.row 1 ((fv b t++List.replicate (64-t) 0).map wD))],uL [1,2]⟩
def yA (b:List UInt8) (n:Nat):St:=⟨aV [(2,.w (.c (.pa 1 1))),(3,.w (.c (.pa 2 1))),(5,.w (.c (.d (.int .i64 ((16+n:Nat):Int)))))],hL [(1,.row 1 ((List.replicate 64 (0:UInt32)).map wD)),(2,.row 1 ((cY b n++List.replicate (48-n) 0).map wD))],uL [1,2]⟩
def uo:aN := .seq (.reg [oO 11 (.bin .lss (.t 10) (kI 16))]) (.seq (.cond (.t 11) (.skip) (.exit 0)) (.seq (.block 1 (.seq (.reg [oM 12 10,oM 4 12]) (.reg [oM 13 4,oM 14 0,oM 15 4,oO 16 (.bin .mul (.t 15) (kI 4)),oM 17 4,oO 18 (.bin .add (.t 17) (kI 1)),oO 19 (.bin .mul (.t 18) (kI 4)),oO 20 (.slice 1 (.t 14) (some (.t 16)) (some (.t 19)) none),oO 21 (.call 48 [(.t 20)] none),oO 22 (.conv .u32 (.t 21)),oO 23 (.idxPa 1 64 (.t 3) (.t 13)),oN (.store .sc (.t 23) (.t 22))]))) (.reg [oO 24 (.bin .add (.t 10) (kI 1)),oM 10 24])))
def uq:aN := .seq (.seq (.reg [oM 25 5,oO 26 (.bin .lss (.t 25) (kI 64))]) (.cond (.t 26) (.skip) (.exit 2))) (.seq (.block 3 (.seq (.reg [oM 29 5,oO 30 (.bin .sub (.t 29) (kI 15)),oO 31 (.idxPa 1 64 (.t 3) (.t 30)),oO 32 (.load .sc (.t 31)),oM 33 5,oO 34 (.bin .sub (.t 33) (kI 2)),oO 35 (.idxPa 1 64 (.t 3) (.t 34)),oO 36 (.load .sc (.t 35)),oM 6 32,oM 7 36]) (.seq (.reg [oM 37 6,oO 38 (.call 185 [(.t 37),(kI 7)] none),oM 39 6,oO 40 (.call 185 [(.t 39),(kI 18)] none),oO 41 (.bin .xor (.t 38) (.t 40)),oM 42 6,oO 43 (.bin .shr (.t 42) (.k (.c (.d (.int .u64 3))))),oO 44 (.bin .xor (.t 41) (.t 43)),oM 8 44]) (.seq (.reg [oM 45 7,oO 46 (.call 185 [(.t 45),(kI 17)] none),oM 47 7,oO 48 (.call 185 [(.t 47),(kI 19)] none),oO 49 (.bin .xor (.t 46) (.t 48)),oM 50 7,oO 51 (.bin .shr (.t 50) (.k (.c (.d (.int .u64 10))))),
 oO 52 (.bin .xor (.t 49) (.t 51)),oM 9 52]) (.reg [oM 53 5,oM 54 9,oM 55 5,oO 56 (.bin .sub (.t 55) (kI 7)),oO 57 (.idxPa 1 64 (.t 3) (.t 56)),oO 58 (.load .sc (.t 57)),oO 59 (.bin .add (.t 54) (.t 58)),oM 60 8,oO 61 (.bin .add (.t 59) (.t 60)),oM 62 5,oO 63 (.bin .sub (.t 62) (kI 16)),oO 64 (.idxPa 1 64 (.t 3) (.t 63)),oO 65 (.load .sc (.t 64)),oO 66 (.bin .add (.t 61) (.t 65)),oO 67 (.idxPa 1 64 (.t 3) (.t 53)),oN (.store .sc (.t 67) (.t 66))]))))) (.reg [oM 27 5,oO 28 (.bin .add (.t 27) (kI 1)),oM 5 28]))
def BN:aF:=⟨1,69,.seq (.reg [oO 2 (.allocArr [(.int .u32 0),(.int .u32 0),(.int .u32 0),(.int .u32 0),(.int .u32 0),(.int .u32 0),(.int .u32 0),(.int .u32 0),(.int .u32 0),(.int .u32 0),(.int .u32 0),(.int .u32 0),(.int .u32 0),(.int .u32 0),(.int .u32 0),(.int .u32 0),(.int .u32 0),(.int .u32 0),(.int .u32 0),(.int .u32 0),(.int .u32 0),(.int .u32 0),(.int .u32 0),(.int .u32 0),(.int .u32 0),(.int .u32 0),(.int .u32 0),(.int .u32 0),(.int .u32 0),(.int .u32 0),(.int .u32 0),(.int .u32 0),(.int .u32 0),(.int .u32 0),(.int .u32 0),(.int .u32 0),(.int .u32 0),(.int .u32 0),(.int .u32 0),(.int .u32 0),(.int .u32 0),(.int .u32 0),(.int .u32 0),(.int .u32 0),(.int .u32 0),(.int .u32 0),(.int .u32 0),(.int .u32 0),(.int .u32 0),(.int .u32 0),(.int .u32 0),(.int .u32 0),(.int .u32 0),(.int .u32 0),(.int .u32 0),(.int .u32 0),(.int .u32 0),(.int .u32 0),(.int .u32 0),(.int .u32 0),(.int .u32 0),(.int .u32 0),(.int .u32 0),(.int .u32 0)])])
 (.seq (.reg [oO 3 (.allocArr [(.int .u32 0),(.int .u32 0),(.int .u32 0),(.int .u32 0),(.int .u32 0),(.int .u32 0),(.int .u32 0),(.int .u32 0),(.int .u32 0),(.int .u32 0),(.int .u32 0),(.int .u32 0),(.int .u32 0),(.int .u32 0),(.int .u32 0),(.int .u32 0),(.int .u32 0),(.int .u32 0),(.int .u32 0),(.int .u32 0),(.int .u32 0),(.int .u32 0),(.int .u32 0),(.int .u32 0),(.int .u32 0),(.int .u32 0),(.int .u32 0),(.int .u32 0),(.int .u32 0),(.int .u32 0),(.int .u32 0),(.int .u32 0),(.int .u32 0),(.int .u32 0),(.int .u32 0),(.int .u32 0),(.int .u32 0),(.int .u32 0),(.int .u32 0),(.int .u32 0),(.int .u32 0),(.int .u32 0),(.int .u32 0),(.int .u32 0),(.int .u32 0),(.int .u32 0),(.int .u32 0),(.int .u32 0),(.int .u32 0),(.int .u32 0),(.int .u32 0),(.int .u32 0),(.int .u32 0),(.int .u32 0),(.int .u32 0),(.int .u32 0),(.int .u32 0),(.int .u32 0),(.int .u32 0),(.int .u32 0),(.int .u32 0),(.int .u32 0),(.int .u32 0),(.int .u32 0)])])
 (.seq (.seq (.reg [oO 10 (.mv (kI 0))]) (.block 0 (.loop uo))) (.seq (.seq (.reg [oO 5 (.mv (kI 16))]) (.block 2 (.loop uq))) (.seq (.reg [oO 68 (.load (.ag 64) (.t 3)),oN (.store (.ag 64) (.t 2) (.t 68))]) (.ret))))),[(2,(some (.ag 64)))]⟩
theorem Nh:aE Tryz.prog { own:=[],comp:=[],frz:=[],nils:=[] } Tryz.f184=some BN:=by kernel_rfl
set_option maxHeartbeats 800000 in
theorem O2 (G:ai) (b:List UInt8) (hb:b.length=64):au Tryz.prog G 184 [.sl (b.map bD)] (.w (.c (.d (.agg ((dF b).map wD))))):=by
  refine aG Tryz.func184 Nh rfl rfl ?_;simp only[BN,ah,wx,aa,seval,iteOmega,toNatUp];refine bd (yz b) (fun t=>16-t) (fun t=>t≤16) 0 (VY _) ?_ ?_
  ·refine aB (fun i=>8*(i+1)) ?_ ?_ rfl rfl <;> simp only[wx,aA,aa,seval,iteOmega,toNatUp];exact⟨rfl,rfl⟩
  ·intro t ht;by_cases hlt:t<16
   ·have e1:IntKind.i64.wrap ((t:Int)*4)=((4*t:Nat):Int):=by rw[IntWalk.i64_in _ (by omega)]; omega
    have e2:IntKind.i64.wrap ((t:Int)+1)=((t+1:Nat):Int):=by rw[IntWalk.i64_in _ (by omega)]; rfl
    have e3:IntKind.i64.wrap (((t+1:Nat):Int)*4)=((4*t+4:Nat):Int):=by rw[IntWalk.i64_in _ (by omega)]; omega
    have e4:4*t+4-4*t=4:=by omega
    simp only[uo,yz,wx,aa,seval,iteOmega,toNatUp,e1,e2,e3,e4];refine bh (pN G _ (by rw[VW,V5]; omega)) rfl (.inr rfl) ?_;have h1:t<(fv b t++List.replicate (64-t) 0).length:=by rw[VR,oC,Wi]; omega
    have h2:=o0 (fv b t) 0 (jL b t) (64-t) (by omega);rw[oC] at h2;have h3:fv b t++[jL b t]=fv b (t+1):=by simp[fv,XA]
    have h4:64-t-1=64-(t+1):=by omega
    rw[h3,h4] at h2;simp only[wx,aa,seval,iteOmega,toNatUp,VE b t (by omega),WJ,rV h1 (nC _),rW,h2,e2];refine aX (t+1) (by omega) (by omega) (aB id ?_ ?_ rfl rfl) <;> simp only[wx,aA,aa,seval,iteOmega,toNatUp]
   ·obtain rfl:t=16:=by omega
    simp only[uo,yz,wx,aa,seval,iteOmega,toNatUp];refine bd (yA b) (fun n=>48-n) (fun n=>n≤48) 0 (VY _) ?_ ?_
    ·have h0:fv b 16=cY b 0:=rfl;refine aB id ?_ ?_ rfl rfl <;> simp only[wx,aA,aa,seval,iteOmega,toNatUp,h0]
    ·intro n hn;by_cases hlt:n<48
     ·have hl:=mC b n;have w1:∀ k:Nat,k≤16→IntKind.i64.wrap (((16+n:Nat):Int)-(k:Int))=((16+n-k:Nat):Int):=fun k hk=>by rw[IntWalk.i64_in _ (by omega)]; omega
      have e15:IntKind.i64.wrap (((16+n:Nat):Int)-15)=((16+n-15:Nat):Int):=w1 15 (by decide);have e2:IntKind.i64.wrap (((16+n:Nat):Int)-2)=((16+n-2:Nat):Int):=w1 2 (by decide);have e7:IntKind.i64.wrap (((16+n:Nat):Int)-7)=((16+n-7:Nat):Int):=w1 7 (by decide);have e16:IntKind.i64.wrap (((16+n:Nat):Int)-16)=((16+n-16:Nat):Int):=w1 16 (by decide);have e0:IntKind.i64.wrap (((16+n:Nat):Int)+1)=((16+(n+1):Nat):Int):=by rw[IntWalk.i64_in _ (by omega)]; omega
      have g:∀ k,k<16+n→((cY b n++List.replicate (48-n) 0).map wD)[k]?=some (wD ((cY b n).getD k 0)):=fun k hk=>by
        rw[WM,IL (by omega)]; rfl
      have g15:=g (16+n-15) (by omega);have g2:=g (16+n-2) (by omega);have g7:=g (16+n-7) (by omega);have g16:=g (16+n-16) (by omega);simp only[uq,yA,wx,aa,seval,iteOmega,toNatUp,e15,e2,e7,e16,e0,g15,g2,g7,g16];refine bh (ji G _ 7 (by decide) (by decide)) rfl (.inr rfl) ?_;simp only[wx,aa,seval,iteOmega,toNatUp];refine bh (ji G _ 18 (by decide) (by decide)) rfl (.inr rfl) ?_;simp only[wx,aa,seval,iteOmega,toNatUp];refine bh (ji G _ 17 (by decide) (by decide)) rfl (.inr rfl) ?_;simp only[wx,aa,seval,iteOmega,toNatUp];refine bh (ji G _ 19 (by decide) (by decide)) rfl (.inr rfl) ?_;have h1:16+n<(cY b n++List.replicate (48-n) 0).length:=by rw[VR,hl,Wi]; omega
      have h2:=o0 (cY b n) 0 (lU (cY b n) (16+n)) (48-n) (by omega);rw[hl] at h2;have h4:48-n-1=48-(n+1):=by omega
      have h3:cY b n++[lU (cY b n) (16+n)]=cY b (n+1):=rfl;rw[h3,h4] at h2;simp only[lU,xH,xI] at h2;simp only[wx,aa,seval,iteOmega,toNatUp,e15,e2,e7,e16,e0,g15,g2,g7,g16,rV h1 (nC _),rW,h2];refine aX (n+1) (by omega) (by omega) (aB id ?_ ?_ rfl rfl) <;> simp only[wx,aA,aa,seval,iteOmega,toNatUp]
     ·have hn48:n=48:=by omega
      have hl:(cY b n).length=64:=by rw[mC]; omega
      have h0:48-n=0:=by omega
      simp only[uq,yA,wx,aa,seval,iteOmega,toNatUp,h0,Wc,Xh,hl];refine jj ?_;simp only[wx,aa,seval,iteOmega,toNatUp,Ei b n hn48,hl]
theorem KU {G:ai} {n:Nat} {c:C} (h:G.at n=some c) (f:Nat→V):ev G f (.g n)=.w (.c c):=by simp[ev,h]
theorem getD_some {l:List UInt32} {i:Nat} (h:i<l.length):l[i]?=some (l.getD i 0):=by simp[h]
theorem eight {l:List UInt32} (h:l.length=8):∃ a b c d e f g i,l=[a,b,c,d,e,f,g,i]:=by
  match l,h with
  | [a,b,c,d,e,f,g,i],_=>exact⟨a,b,c,d,e,f,g,i,rfl⟩
def bW.list (s:bW):List UInt32:=[s.a,s.b,s.c,s.d,s.e,s.f,s.g,s.h]
theorem IM (s:bW) (k w:UInt32):(s.step k w).a=bG (bG (bG (bG (bG s.h (zi s.e)) (zy s.e s.f s.g)) k) w) (bG (KS s.a) (KT s.a s.b s.c)):=rfl
theorem IP (s:bW) (k w:UInt32):(s.step k w).b=s.a:=rfl
theorem IQ (s:bW) (k w:UInt32):(s.step k w).c=s.b:=rfl
theorem IR (s:bW) (k w:UInt32):(s.step k w).d=s.c:=rfl
theorem IU (s:bW) (k w:UInt32):(s.step k w).e=bG s.d (bG (bG (bG (bG s.h (zi s.e)) (zy s.e s.f s.g)) k) w):=rfl
theorem IV (s:bW) (k w:UInt32):(s.step k w).f=s.e:=rfl
theorem IW (s:bW) (k w:UInt32):(s.step k w).g=s.f:=rfl
theorem IX (s:bW) (k w:UInt32):(s.step k w).h=s.g:=rfl
def s7 (h:List UInt32) (b:List UInt8) (s:bW) (n:Nat):St:=⟨aV [(2,.w (.c (.pa 1 1))),(4,.w (.c (.pa 2 1))),(5,.w (.c (.pa 3 1))),(6,.w (.c (.d (wD s.a)))),(7,.w (.c (.d (wD s.b)))),(8,.w (.c (.d (wD s.c)))),(9,.w (.c (.d (wD s.d)))),(10,.w (.c (.d (wD s.e)))),(11,.w (.c (.d (wD s.f)))),(12,.w (.c (.d (wD s.g)))),(13,.w (.c (.d (wD s.h)))),(37,.w (.c (.d (.int .i64 (n:Int)))))],
  hL [(1,.row 1 (h.map wD)),(2,.row 1 ((List.replicate 8 (0:UInt32)).map wD)),(3,.row 1 ((dF b).map wD))],uL [1,2,3]⟩
def p9 (h:List UInt32) (b:List UInt8) (n:Nat):St:=s7 h b ((bW.of h).rounds bB (dF b) n) n
def sumTo (s:bW) (h:List UInt32) (k:Nat):List UInt32:=(s.sum h).take k++h.drop k
def s8 (h:List UInt32) (s:bW) (n:Nat):St:=⟨aV [(2,.w (.c (.pa 1 1))),(4,.w (.c (.pa 2 1))),(108,.w (.c (.d (.agg (s.list.map wD))))),(109,.w (.c (.d (.int .i64 (n:Int)))))],
  hL [(1,.row 1 ((sumTo s h n).map wD)),(2,.row 1 ((List.replicate 8 (0:UInt32)).map wD))],uL [1,2]⟩
def uJ:aN := .seq (.reg [oO 38 (.bin .lss (.t 37) (kI 64))]) (.seq (.cond (.t 38) (.skip) (.exit 0)) (.seq (.block 1 (.seq (.reg [oM 39 37,oM 14 39]) (.seq (.reg [oM 40 13,oM 41 10,oO 42 (.call 185 [(.t 41),(kI 6)] none),oM 43 10,oO 44 (.call 185 [(.t 43),(kI 11)] none),oO 45 (.bin .xor (.t 42) (.t 44)),oM 46 10,oO 47 (.call 185 [(.t 46),(kI 25)] none),oO 48 (.bin .xor (.t 45) (.t 47)),oO 49 (.bin .add (.t 40) (.t 48)),oM 50 10,oM 51 11,oO 52 (.bin .and (.t 50) (.t 51)),oM 53 10,oO 54 (.un .xor (.t 53)),oM 55 12,oO 56 (.bin .and (.t 54) (.t 55)),oO 57 (.bin .xor (.t 52) (.t 56)),oO 58 (.bin .add (.t 49) (.t 57)),oM 59 14,oO 60 (.idxPa 1 64 (.g 1) (.t 59)),oO 61 (.load .sc (.t 60)),oO 62 (.bin .add (.t 58) (.t 61)),oM 63 14,oO 64 (.idxPa 1 64 (.t 5) (.t 63)),oO 65 (.load .sc (.t 64)),
 oO 66 (.bin .add (.t 62) (.t 65)),oM 15 66]) (.seq (.reg [oM 67 6,oO 68 (.call 185 [(.t 67),(kI 2)] none),oM 69 6,oO 70 (.call 185 [(.t 69),(kI 13)] none),oO 71 (.bin .xor (.t 68) (.t 70)),oM 72 6,oO 73 (.call 185 [(.t 72),(kI 22)] none),oO 74 (.bin .xor (.t 71) (.t 73)),oM 75 6,oM 76 7,oO 77 (.bin .and (.t 75) (.t 76)),oM 78 6,oM 79 8,oO 80 (.bin .and (.t 78) (.t 79)),oO 81 (.bin .xor (.t 77) (.t 80)),oM 82 7,oM 83 8,oO 84 (.bin .and (.t 82) (.t 83)),oO 85 (.bin .xor (.t 81) (.t 84)),oO 86 (.bin .add (.t 74) (.t 85)),oM 16 86]) (.reg [oM 87 12,oM 88 11,oM 89 10,oM 90 9,oM 91 15,oO 92 (.bin .add (.t 90) (.t 91)),oM 93 8,oM 94 7,oM 95 6,oM 96 15,oM 97 16,oO 98 (.bin .add (.t 96) (.t 97)),oM 13 87,oM 12 88,oM 11 89,oM 10 92,oM 9 93,oM 8 94,oM 7 95,oM 6 98]))))) (.reg [oO 99 (.bin .add (.t 37) (kI 1)),
 oM 37 99])))
def uK:aN := .seq (.reg [oO 110 (.bin .lss (.t 109) (kI 8))]) (.seq (.cond (.t 110) (.skip) (.exit 2)) (.seq (.block 3 (.seq (.reg [oM 111 109,oO 112 (.idxArr 1 8 .sc (.t 108) (.t 109)),oM 17 111,oM 18 112]) (.reg [oM 113 17,oO 114 (.idxPa 1 8 (.t 2) (.t 113)),oO 115 (.load .sc (.t 114)),oM 116 18,oO 117 (.bin .add (.t 115) (.t 116)),oO 118 (.idxPa 1 8 (.t 2) (.t 113)),oN (.store .sc (.t 118) (.t 117))]))) (.reg [oO 119 (.bin .add (.t 109) (kI 1)),oM 109 119])))
def El:aF:=⟨2,121,.seq (.reg [oO 2 (.box .ownArr (.t 0)),oO 4 (.allocArr [(.int .u32 0),(.int .u32 0),(.int .u32 0),(.int .u32 0),(.int .u32 0),(.int .u32 0),(.int .u32 0),(.int .u32 0)])]) (.seq (.reg [oM 19 1,oO 20 (.call 184 [(.t 19)] none),oO 5 (.allocArr [(.int .u32 0),(.int .u32 0),(.int .u32 0),(.int .u32 0),(.int .u32 0),(.int .u32 0),(.int .u32 0),(.int .u32 0),(.int .u32 0),(.int .u32 0),(.int .u32 0),(.int .u32 0),(.int .u32 0),(.int .u32 0),(.int .u32 0),(.int .u32 0),(.int .u32 0),(.int .u32 0),(.int .u32 0),(.int .u32 0),(.int .u32 0),(.int .u32 0),(.int .u32 0),(.int .u32 0),(.int .u32 0),(.int .u32 0),(.int .u32 0),(.int .u32 0),(.int .u32 0),(.int .u32 0),(.int .u32 0),(.int .u32 0),(.int .u32 0),(.int .u32 0),(.int .u32 0),(.int .u32 0),(.int .u32 0),(.int .u32 0),(.int .u32 0),(.int .u32 0),(.int .u32 0),(.int .u32 0),(.int .u32 0),(.int .u32 0),(.int .u32 0),(.int .u32 0),(.int .u32 0),(.int .u32 0),(.int .u32 0),(.int .u32 0),(.int .u32 0),(.int .u32 0),(.int .u32 0),(.int .u32 0),(.int .u32 0),(.int .u32 0),(.int .u32 0),(.int .u32 0),(.int .u32 0),(.int .u32 0),(.int .u32 0),(.int .u32 0),(.int .u32 0),(.int .u32 0)]),
 oN (.store (.ag 64) (.t 5) (.t 20))]) (.seq (.reg [oO 21 (.idxPa 1 8 (.t 2) (kI 0)),oO 22 (.load .sc (.t 21)),oO 23 (.idxPa 1 8 (.t 2) (kI 1)),oO 24 (.load .sc (.t 23)),oO 25 (.idxPa 1 8 (.t 2) (kI 2)),oO 26 (.load .sc (.t 25)),oO 27 (.idxPa 1 8 (.t 2) (kI 3)),oO 28 (.load .sc (.t 27)),oO 29 (.idxPa 1 8 (.t 2) (kI 4)),oO 30 (.load .sc (.t 29)),oO 31 (.idxPa 1 8 (.t 2) (kI 5)),oO 32 (.load .sc (.t 31)),oO 33 (.idxPa 1 8 (.t 2) (kI 6)),oO 34 (.load .sc (.t 33)),oO 35 (.idxPa 1 8 (.t 2) (kI 7)),oO 36 (.load .sc (.t 35)),oM 6 22,oM 7 24,oM 8 26,oM 9 28,oM 10 30,oM 11 32,oM 12 34,oM 13 36]) (.seq (.seq (.reg [oO 37 (.mv (kI 0))]) (.block 0 (.loop uJ))) (.seq (.seq (.reg [oM 100 6,oM 101 7,oM 102 8,oM 103 9,oM 104 10,oM 105 11,oM 106 12,oM 107 13,oO 108 (.build [(.d (.int .u32 0)),(.d (.int .u32 0)),(.d (.int .u32 0)),(.d (.int .u32 0)),(.d (.int .u32 0)),(.d (.int .u32 0)),(.d (.int .u32 0)),(.d (.int .u32 0))] [(0,1,(.t 100)),(1,1,(.t 101)),(2,1,(.t 102)),(3,1,(.t 103)),(4,1,(.t 104)),(5,1,(.t 105)),(6,1,(.t 106)),(7,1,(.t 107))]),
 oO 109 (.mv (kI 0))]) (.block 2 (.loop uK))) (.seq (.reg [oO 120 (.load (.ag 8) (.t 2)),oN (.store (.ag 8) (.t 4) (.t 120))]) (.ret)))))),[(4,(some (.ag 8)))]⟩
theorem O3:aE Tryz.prog { own:=[2],comp:=[],frz:=[],nils:=[] } Tryz.f173=some El:=by kernel_rfl
theorem QX (G:ai) (hG:G.at 1=some (.ra (bB.map wD))) (h:List UInt32) (b:List UInt8) (hh:h.length=8) (hb:b.length=64):au Tryz.prog G 173 [.agg (h.map wD),.sl (b.map bD)] (.w (.c (.d (.agg ((lK h b).map wD))))):=by
  refine aG Tryz.func173 O3 rfl rfl ?_;have hsl:(dF b).length=64:=mC b 48;have eg:=@KU G 1 _ hG;have hcl:bB.length=64:=As;obtain⟨h0,h1,h2,h3,h4,h5,h6,h7,rfl⟩:=eight hh;simp only[El,ah,wx,aa,seval,iteOmega,toNatUp];refine bh (O2 G b hb) rfl (.inl rfl) ?_;simp only[wx,aa,seval,iteOmega,toNatUp,hsl];refine bd (p9 [h0,h1,h2,h3,h4,h5,h6,h7] b) (fun n=>64-n) (fun n=>n≤64) 0 (VY _) ?_ ?_
  ·refine aB (fun i=>match i with | 1=>16 | 2=>32 | _=>40) ?_ ?_ rfl rfl <;> simp only[p9,s7,wx,aA,aa,seval,iteOmega,toNatUp]
   ·exact⟨rfl,rfl,rfl,rfl,rfl,rfl,rfl,rfl⟩
   ·rfl
  ·intro n hn;by_cases hlt:n<64
   ·have e1:IntKind.i64.wrap ((n:Int)+1)=((n+1:Nat):Int):=by rw[IntWalk.i64_in _ (by omega)]; rfl
    have g1:(bB.map wD)[n]?=some (wD (bB.getD n 0)):=by rw[aM,getD_some (by omega)]; rfl
    have g2:((dF b).map wD)[n]?=some (wD ((dF b).getD n 0)):=by rw[aM,getD_some (by omega)]; rfl
    have hr:(bW.of [h0,h1,h2,h3,h4,h5,h6,h7]).rounds bB (dF b) (n+1)=((bW.of [h0,h1,h2,h3,h4,h5,h6,h7]).rounds bB (dF b) n).step (bB.getD n 0) ((dF b).getD n 0):=rfl;generalize hs:(bW.of [h0,h1,h2,h3,h4,h5,h6,h7]).rounds bB (dF b) n=s at hr;simp only[uJ,p9,s7,hs,wx,aa,seval,iteOmega,toNatUp,eg,g1,g2,e1];refine bh (ji G _ 6 (by decide) (by decide)) rfl (.inr rfl) ?_;simp only[wx,aa,seval,iteOmega,toNatUp];refine bh (ji G _ 11 (by decide) (by decide)) rfl (.inr rfl) ?_;simp only[wx,aa,seval,iteOmega,toNatUp];refine bh (ji G _ 25 (by decide) (by decide)) rfl (.inr rfl) ?_;simp only[wx,aa,seval,iteOmega,toNatUp,eg,g1,g2,hcl];refine bh (ji G _ 2 (by decide) (by decide)) rfl (.inr rfl) ?_;simp only[wx,aa,seval,iteOmega,toNatUp];refine bh (ji G _ 13 (by decide) (by decide)) rfl (.inr rfl) ?_;simp only[wx,aa,seval,iteOmega,toNatUp];refine bh (ji G _ 22 (by decide) (by decide)) rfl (.inr rfl) ?_;simp only[wx,aa,seval,iteOmega,toNatUp,e1];refine aX (n+1) (by omega) (by omega) ?_;rw[p9,hr];refine (aB id ?_ ?_ rfl rfl) <;> simp only[wx,aA,aa,seval,iteOmega,toNatUp,IM,IP,IQ,IR,IU,IV,IW,IX];exact⟨rfl,rfl⟩
   ·obtain rfl:n=64:=by omega
    have hK:lK [h0,h1,h2,h3,h4,h5,h6,h7] b=((bW.of [h0,h1,h2,h3,h4,h5,h6,h7]).rounds bB (dF b) 64).sum [h0,h1,h2,h3,h4,h5,h6,h7]:=rfl;rw[hK];simp only[p9];generalize (bW.of [h0,h1,h2,h3,h4,h5,h6,h7]).rounds bB (dF b) 64=s;simp only[uJ,s7,wx,aa,seval,iteOmega,toNatUp];refine bd (s8 [h0,h1,h2,h3,h4,h5,h6,h7] s) (fun n=>8-n) (fun n=>n≤8) 0 (VY _) ?_ ?_
    ·refine aB id ?_ ?_ rfl rfl <;> simp only[wx,aA,aa,seval,iteOmega,toNatUp,s8]
     ·rfl
     ·rfl
    ·have e8:s.sum [h0,h1,h2,h3,h4,h5,h6,h7]=[bG h0 s.a,bG h1 s.b,bG h2 s.c,bG h3 s.d,bG h4 s.e,bG h5 s.f,bG h6 s.g,bG h7 s.h]:=rfl;intro n hn;have hc:n=8∨n=0∨n=1∨n=2∨n=3∨n=4∨n=5∨n=6∨n=7:=by omega
     rcases hc with rfl | rfl | rfl | rfl | rfl | rfl | rfl | rfl | rfl
     ·simp only[uK,s8,sumTo,e8,bW.list,wx,aa,seval,iteOmega,toNatUp];exact jj (by simp only[wx,aa,seval,iteOmega,toNatUp])
     all_goals
       simp only[uK,s8,sumTo,e8,bW.list,wx,wy,aa,seval,iteOmega,toNatUp]
       first | refine aX 1 (by decide) (by decide) ?_ | refine aX 2 (by decide) (by decide) ?_ | refine aX 3 (by decide) (by decide) ?_ | refine aX 4 (by decide) (by decide) ?_ | refine aX 5 (by decide) (by decide) ?_ | refine aX 6 (by decide) (by decide) ?_ | refine aX 7 (by decide) (by decide) ?_ | refine aX 8 (by decide) (by decide) ?_
       refine aB id ?_ ?_ rfl rfl <;> simp only[wx,aA,aa,seval,iteOmega,toNatUp,sumTo,e8,bW.list] <;> rfl
theorem L4 {l:List UInt8} {i:Nat} (h:i<l.length):l[i]?=some (l.getD i 0):=by simp[h]
def yB (h k:List UInt32) (b:List UInt8) (t:Nat):St:=⟨aV [(0,.w (.c (.d (.sl (h.map wD))))),(1,.w (.c (.d (.sl (k.map wD))))),(2,.w (.c (.d (.sl (b.map bD))))),(7,.w (.c (.pa 1 1))),(8,.w (.c (.d (.int .i64 (t:Int)))))],
  hL [(1,.row 1 ((fv b t++List.replicate (64-t) 0).map wD))],uL [1]⟩
def yC (h k:List UInt32) (b:List UInt8) (n:Nat):St:=⟨aV [(0,.w (.c (.d (.sl (h.map wD))))),(1,.w (.c (.d (.sl (k.map wD))))),(7,.w (.c (.pa 1 1))),(9,.w (.c (.d (.int .i64 ((16+n:Nat):Int)))))],
  hL [(1,.row 1 ((cY b n++List.replicate (48-n) 0).map wD))],uL [1]⟩
def s9 (h:List UInt32) (b:List UInt8) (s:bW) (n:Nat):St:=⟨aV [(0,.w (.c (.d (.sl (h.map wD))))),(1,.w (.c (.d (.sl (bB.map wD))))),(7,.w (.c (.pa 1 1))),(12,.w (.c (.d (wD s.a)))),(13,.w (.c (.d (wD s.b)))),(14,.w (.c (.d (wD s.c)))),(15,.w (.c (.d (wD s.d)))),(16,.w (.c (.d (wD s.e)))),(17,.w (.c (.d (wD s.f)))),(18,.w (.c (.d (wD s.g)))),(19,.w (.c (.d (wD s.h)))),(20,.w (.c (.d (.int .i64 (n:Int)))))],
  hL [(1,.row 1 ((dF b).map wD))],uL [1]⟩
def qa (h:List UInt32) (b:List UInt8) (n:Nat):St:=s9 h b ((bW.of h).rounds bB (dF b) n) n
def ut:aN := .seq (.seq (.reg [oM 23 8,oO 24 (.bin .lss (.t 23) (kI 16))]) (.cond (.t 24) (.skip) (.exit 0))) (.seq (.block 1 (.reg [oM 27 8,oM 28 2,oM 29 8,oO 30 (.bin .mul (kI 4) (.t 29)),oO 31 (.idxSl 1 (.t 28) (.t 30)),oO 32 (.load .sc (.t 31)),oO 33 (.conv .u32 (.t 32)),oO 34 (.bin .shl (.t 33) (.k (.c (.d (.int .u64 24))))),oM 35 2,oM 36 8,oO 37 (.bin .mul (kI 4) (.t 36)),oO 38 (.bin .add (.t 37) (kI 1)),oO 39 (.idxSl 1 (.t 35) (.t 38)),oO 40 (.load .sc (.t 39)),oO 41 (.conv .u32 (.t 40)),oO 42 (.bin .shl (.t 41) (.k (.c (.d (.int .u64 16))))),oO 43 (.bin .or (.t 34) (.t 42)),oM 44 2,oM 45 8,oO 46 (.bin .mul (kI 4) (.t 45)),oO 47 (.bin .add (.t 46) (kI 2)),oO 48 (.idxSl 1 (.t 44) (.t 47)),oO 49 (.load .sc (.t 48)),oO 50 (.conv .u32 (.t 49)),oO 51 (.bin .shl (.t 50) (.k (.c (.d (.int .u64 8))))),
 oO 52 (.bin .or (.t 43) (.t 51)),oM 53 2,oM 54 8,oO 55 (.bin .mul (kI 4) (.t 54)),oO 56 (.bin .add (.t 55) (kI 3)),oO 57 (.idxSl 1 (.t 53) (.t 56)),oO 58 (.load .sc (.t 57)),oO 59 (.conv .u32 (.t 58)),oO 60 (.bin .or (.t 52) (.t 59)),oO 61 (.idxPa 1 64 (.t 7) (.t 27)),oN (.store .sc (.t 61) (.t 60))])) (.reg [oM 25 8,oO 26 (.bin .add (.t 25) (kI 1)),oM 8 26]))
def uu:aN := .seq (.seq (.reg [oM 62 9,oO 63 (.bin .lss (.t 62) (kI 64))]) (.cond (.t 63) (.skip) (.exit 2))) (.seq (.block 3 (.seq (.reg [oM 66 9,oO 67 (.bin .sub (.t 66) (kI 15)),oO 68 (.idxPa 1 64 (.t 7) (.t 67)),oO 69 (.load .sc (.t 68)),oM 70 9,oO 71 (.bin .sub (.t 70) (kI 2)),oO 72 (.idxPa 1 64 (.t 7) (.t 71)),oO 73 (.load .sc (.t 72)),oM 10 69,oM 11 73]) (.reg [oM 74 9,oM 75 11,oO 76 (.call 133 [(.t 75),(kI 17)] none),oM 77 11,oO 78 (.call 133 [(.t 77),(kI 19)] none),oO 79 (.bin .xor (.t 76) (.t 78)),oM 80 11,oO 81 (.bin .shr (.t 80) (.k (.c (.d (.int .u64 10))))),oO 82 (.bin .xor (.t 79) (.t 81)),oM 83 9,oO 84 (.bin .sub (.t 83) (kI 7)),oO 85 (.idxPa 1 64 (.t 7) (.t 84)),oO 86 (.load .sc (.t 85)),oO 87 (.bin .add (.t 82) (.t 86)),oM 88 10,oO 89 (.call 133 [(.t 88),(kI 7)] none),
 oM 90 10,oO 91 (.call 133 [(.t 90),(kI 18)] none),oO 92 (.bin .xor (.t 89) (.t 91)),oM 93 10,oO 94 (.bin .shr (.t 93) (.k (.c (.d (.int .u64 3))))),oO 95 (.bin .xor (.t 92) (.t 94)),oO 96 (.bin .add (.t 87) (.t 95)),oM 97 9,oO 98 (.bin .sub (.t 97) (kI 16)),oO 99 (.idxPa 1 64 (.t 7) (.t 98)),oO 100 (.load .sc (.t 99)),oO 101 (.bin .add (.t 96) (.t 100)),oO 102 (.idxPa 1 64 (.t 7) (.t 74)),oN (.store .sc (.t 102) (.t 101))]))) (.reg [oM 64 9,oO 65 (.bin .add (.t 64) (kI 1)),oM 9 65]))
def uv:aN := .seq (.seq (.reg [oM 127 20,oO 128 (.bin .lss (.t 127) (kI 64))]) (.cond (.t 128) (.skip) (.exit 4))) (.seq (.block 5 (.seq (.reg [oM 131 19,oM 132 16,oO 133 (.call 133 [(.t 132),(kI 6)] none),oM 134 16,oO 135 (.call 133 [(.t 134),(kI 11)] none),oO 136 (.bin .xor (.t 133) (.t 135)),oM 137 16,oO 138 (.call 133 [(.t 137),(kI 25)] none),oO 139 (.bin .xor (.t 136) (.t 138)),oO 140 (.bin .add (.t 131) (.t 139)),oM 141 16,oM 142 17,oO 143 (.bin .and (.t 141) (.t 142)),oM 144 16,oO 145 (.un .xor (.t 144)),oM 146 18,oO 147 (.bin .and (.t 145) (.t 146)),oO 148 (.bin .xor (.t 143) (.t 147)),oO 149 (.bin .add (.t 140) (.t 148)),oM 150 1,oM 151 20,oO 152 (.idxSl 1 (.t 150) (.t 151)),oO 153 (.load .sc (.t 152)),oO 154 (.bin .add (.t 149) (.t 153)),oM 155 20,oO 156 (.idxPa 1 64 (.t 7) (.t 155)),
 oO 157 (.load .sc (.t 156)),oO 158 (.bin .add (.t 154) (.t 157)),oM 21 158]) (.seq (.reg [oM 159 12,oO 160 (.call 133 [(.t 159),(kI 2)] none),oM 161 12,oO 162 (.call 133 [(.t 161),(kI 13)] none),oO 163 (.bin .xor (.t 160) (.t 162)),oM 164 12,oO 165 (.call 133 [(.t 164),(kI 22)] none),oO 166 (.bin .xor (.t 163) (.t 165)),oM 167 12,oM 168 13,oO 169 (.bin .and (.t 167) (.t 168)),oM 170 12,oM 171 14,oO 172 (.bin .and (.t 170) (.t 171)),oO 173 (.bin .xor (.t 169) (.t 172)),oM 174 13,oM 175 14,oO 176 (.bin .and (.t 174) (.t 175)),oO 177 (.bin .xor (.t 173) (.t 176)),oO 178 (.bin .add (.t 166) (.t 177)),oM 22 178]) (.reg [oM 179 21,oM 180 22,oO 181 (.bin .add (.t 179) (.t 180)),oM 182 12,oM 183 13,oM 184 14,oM 185 15,oM 186 21,oO 187 (.bin .add (.t 185) (.t 186)),oM 188 16,oM 189 17,oM 190 18,oM 12 181,
 oM 13 182,oM 14 183,oM 15 184,oM 16 187,oM 17 188,oM 18 189,oM 19 190])))) (.reg [oM 129 20,oO 130 (.bin .add (.t 129) (kI 1)),oM 20 130]))
def BO:aF:=⟨3,232,.seq (.reg [oO 6 (.mv (.k (.c .nil)))]) (.seq (.reg [oO 7 (.allocArr [(.int .u32 0),(.int .u32 0),(.int .u32 0),(.int .u32 0),(.int .u32 0),(.int .u32 0),(.int .u32 0),(.int .u32 0),(.int .u32 0),(.int .u32 0),(.int .u32 0),(.int .u32 0),(.int .u32 0),(.int .u32 0),(.int .u32 0),(.int .u32 0),(.int .u32 0),(.int .u32 0),(.int .u32 0),(.int .u32 0),(.int .u32 0),(.int .u32 0),(.int .u32 0),(.int .u32 0),(.int .u32 0),(.int .u32 0),(.int .u32 0),(.int .u32 0),(.int .u32 0),(.int .u32 0),(.int .u32 0),(.int .u32 0),(.int .u32 0),(.int .u32 0),(.int .u32 0),(.int .u32 0),(.int .u32 0),(.int .u32 0),(.int .u32 0),(.int .u32 0),(.int .u32 0),(.int .u32 0),(.int .u32 0),(.int .u32 0),(.int .u32 0),(.int .u32 0),(.int .u32 0),(.int .u32 0),(.int .u32 0),(.int .u32 0),(.int .u32 0),(.int .u32 0),(.int .u32 0),(.int .u32 0),(.int .u32 0),(.int .u32 0),(.int .u32 0),(.int .u32 0),(.int .u32 0),(.int .u32 0),(.int .u32 0),(.int .u32 0),(.int .u32 0),(.int .u32 0)])])
 (.seq (.seq (.reg [oO 8 (.mv (kI 0))]) (.block 0 (.loop ut))) (.seq (.seq (.reg [oO 9 (.mv (kI 16))]) (.block 2 (.loop uu))) (.seq (.reg [oM 103 0,oO 104 (.idxSl 1 (.t 103) (kI 0)),oO 105 (.load .sc (.t 104)),oM 106 0,oO 107 (.idxSl 1 (.t 106) (kI 1)),oO 108 (.load .sc (.t 107)),oM 109 0,oO 110 (.idxSl 1 (.t 109) (kI 2)),oO 111 (.load .sc (.t 110)),oM 112 0,oO 113 (.idxSl 1 (.t 112) (kI 3)),oO 114 (.load .sc (.t 113)),oM 115 0,oO 116 (.idxSl 1 (.t 115) (kI 4)),oO 117 (.load .sc (.t 116)),oM 118 0,oO 119 (.idxSl 1 (.t 118) (kI 5)),oO 120 (.load .sc (.t 119)),oM 121 0,oO 122 (.idxSl 1 (.t 121) (kI 6)),oO 123 (.load .sc (.t 122)),oM 124 0,oO 125 (.idxSl 1 (.t 124) (kI 7)),oO 126 (.load .sc (.t 125)),oM 12 105,oM 13 108,oM 14 111,oM 15 114,oM 16 117,oM 17 120,oM 18 123,oM 19 126])
 (.seq (.seq (.reg [oO 20 (.mv (kI 0))]) (.block 4 (.loop uv))) (.seq (.reg [oM 191 0,oO 192 (.idxSl 1 (.t 191) (kI 0)),oO 193 (.load .sc (.t 192)),oM 194 12,oO 195 (.bin .add (.t 193) (.t 194)),oM 196 0,oO 197 (.idxSl 1 (.t 196) (kI 1)),oO 198 (.load .sc (.t 197)),oM 199 13,oO 200 (.bin .add (.t 198) (.t 199)),oM 201 0,oO 202 (.idxSl 1 (.t 201) (kI 2)),oO 203 (.load .sc (.t 202)),oM 204 14,oO 205 (.bin .add (.t 203) (.t 204)),oM 206 0,oO 207 (.idxSl 1 (.t 206) (kI 3)),oO 208 (.load .sc (.t 207)),oM 209 15,oO 210 (.bin .add (.t 208) (.t 209)),oM 211 0,oO 212 (.idxSl 1 (.t 211) (kI 4)),oO 213 (.load .sc (.t 212)),oM 214 16,oO 215 (.bin .add (.t 213) (.t 214)),oM 216 0,oO 217 (.idxSl 1 (.t 216) (kI 5)),oO 218 (.load .sc (.t 217)),oM 219 17,oO 220 (.bin .add (.t 218) (.t 219)),oM 221 0,
 oO 222 (.idxSl 1 (.t 221) (kI 6)),oO 223 (.load .sc (.t 222)),oM 224 18,oO 225 (.bin .add (.t 223) (.t 224)),oM 226 0,oO 227 (.idxSl 1 (.t 226) (kI 7)),oO 228 (.load .sc (.t 227)),oM 229 19,oO 230 (.bin .add (.t 228) (.t 229)),oO 231 (.bldSl true 8 1 (.int .u32 0) [(0,(.t 195)),(1,(.t 200)),(2,(.t 205)),(3,(.t 210)),(4,(.t 215)),(5,(.t 220)),(6,(.t 225)),(7,(.t 230))]),oM 6 231]) (.ret))))))),[(6,none)]⟩
theorem Ni:aE Tryz.prog { own:=[231],comp:=[],frz:=[],nils:=[] } Tryz.f119=some BO:=by kernel_rfl
theorem Em (G:ai) (h:List UInt32) (b:List UInt8) (hh:h.length=8) (hb:b.length=64):au Tryz.prog G 119 [.sl (h.map wD),.sl (bB.map wD),.sl (b.map bD)] (.w (.c (.fr 1 ((lK h b).map wD)))):=by
  refine aG Tryz.func119 Ni rfl rfl ?_;have hsl:(dF b).length=64:=mC b 48;have hcl:bB.length=64:=As;simp only[BO,ah,wx,aa,seval,iteOmega,toNatUp];refine bd (yB h bB b) (fun t=>16-t) (fun t=>t≤16) 0 (VY _) ?_ ?_
  ·refine aB (fun _=>56) ?_ ?_ rfl rfl <;> simp only[wx,aA,aa,seval,iteOmega,toNatUp];rfl
  ·intro t ht;by_cases hlt:t<16
   ·have e0:IntKind.i64.wrap (4*(t:Int))=((4*t:Nat):Int):=by rw[IntWalk.i64_in _ (by omega)]; omega
    have e1:IntKind.i64.wrap (((4*t:Nat):Int)+1)=((4*t+1:Nat):Int):=by rw[IntWalk.i64_in _ (by omega)]; omega
    have e2:IntKind.i64.wrap (((4*t:Nat):Int)+2)=((4*t+2:Nat):Int):=by rw[IntWalk.i64_in _ (by omega)]; omega
    have e3:IntKind.i64.wrap (((4*t:Nat):Int)+3)=((4*t+3:Nat):Int):=by rw[IntWalk.i64_in _ (by omega)]; omega
    have e4:IntKind.i64.wrap ((t:Int)+1)=((t+1:Nat):Int):=by rw[IntWalk.i64_in _ (by omega)]; omega
    have g:∀ k,k<64→(b.map bD)[k]?=some (bD (b.getD k 0)):=fun k hk=>by rw[aM,L4 (by omega)]; rfl
    have g0:=g (4*t) (by omega);have g1:=g (4*t+1) (by omega);have g2:=g (4*t+2) (by omega);have g3:=g (4*t+3) (by omega);have h1:t<(fv b t++List.replicate (64-t) 0).length:=by rw[VR,oC,Wi]; omega
    have h2:=o0 (fv b t) 0 (jL b t) (64-t) (by omega);rw[oC] at h2;have h3:fv b t++[jL b t]=fv b (t+1):=by simp[fv,XA]
    have h4:64-t-1=64-(t+1):=by omega
    rw[h3,h4] at h2;simp only[jL] at h2;have m24:min (24:Int).toNat 32=24:=by decide
    have m16:min (16:Int).toNat 32=16:=by decide
    have m8:min (8:Int).toNat 32=8:=by decide
    simp only[ut,yB,wx,aa,seval,iteOmega,toNatUp,e0,e1,e2,e3,e4,g0,g1,g2,g3,WJ,rV h1 (nC _),rW,h2];refine aX (t+1) (by omega) (by omega) (aB id ?_ ?_ rfl rfl) <;> simp only[wx,aA,aa,seval,iteOmega,toNatUp]
   ·obtain rfl:t=16:=by omega
    simp only[ut,yB,wx,aa,seval,iteOmega,toNatUp];refine bd (yC h bB b) (fun n=>48-n) (fun n=>n≤48) 0 (VY _) ?_ ?_
    ·have h0:fv b 16=cY b 0:=rfl;refine aB id ?_ ?_ rfl rfl <;> simp only[wx,aA,aa,seval,iteOmega,toNatUp,h0]
    ·intro n hn;by_cases hlt:n<48
     ·have hl:=mC b n;have w1:∀ k:Nat,k≤16→IntKind.i64.wrap (((16+n:Nat):Int)-(k:Int))=((16+n-k:Nat):Int):=fun k hk=>by rw[IntWalk.i64_in _ (by omega)]; omega
      have e15:IntKind.i64.wrap (((16+n:Nat):Int)-15)=((16+n-15:Nat):Int):=w1 15 (by decide);have e2:IntKind.i64.wrap (((16+n:Nat):Int)-2)=((16+n-2:Nat):Int):=w1 2 (by decide);have e7:IntKind.i64.wrap (((16+n:Nat):Int)-7)=((16+n-7:Nat):Int):=w1 7 (by decide);have e16:IntKind.i64.wrap (((16+n:Nat):Int)-16)=((16+n-16:Nat):Int):=w1 16 (by decide);have e0:IntKind.i64.wrap (((16+n:Nat):Int)+1)=((16+(n+1):Nat):Int):=by rw[IntWalk.i64_in _ (by omega)]; omega
      have g:∀ k,k<16+n→((cY b n++List.replicate (48-n) 0).map wD)[k]?=some (wD ((cY b n).getD k 0)):=fun k hk=>by
        rw[WM,IL (by omega)]; rfl
      have g15:=g (16+n-15) (by omega);have g2:=g (16+n-2) (by omega);have g7:=g (16+n-7) (by omega);have g16:=g (16+n-16) (by omega);simp only[uu,yC,wx,aa,seval,iteOmega,toNatUp,e15,e2,e7,e16,e0,g15,g2,g7,g16];refine bh (jf G _ 17 (by decide) (by decide)) rfl (.inr rfl) ?_;simp only[wx,aa,seval,iteOmega,toNatUp];refine bh (jf G _ 19 (by decide) (by decide)) rfl (.inr rfl) ?_;simp only[wx,aa,seval,iteOmega,toNatUp,e15,e2,e7,e16,e0,g15,g2,g7,g16];refine bh (jf G _ 7 (by decide) (by decide)) rfl (.inr rfl) ?_;simp only[wx,aa,seval,iteOmega,toNatUp];refine bh (jf G _ 18 (by decide) (by decide)) rfl (.inr rfl) ?_;have h1:16+n<(cY b n++List.replicate (48-n) 0).length:=by rw[VR,hl,Wi]; omega
      have h2:=o0 (cY b n) 0 (lU (cY b n) (16+n)) (48-n) (by omega);rw[hl] at h2;have h4:48-n-1=48-(n+1):=by omega
      have h3:cY b n++[lU (cY b n) (16+n)]=cY b (n+1):=rfl;rw[h3,h4] at h2;simp only[lU,xH,xI] at h2;simp only[wx,aa,seval,iteOmega,toNatUp,e15,e2,e7,e16,e0,g15,g2,g7,g16,rV h1 (nC _),rW,h2];refine aX (n+1) (by omega) (by omega) (aB id ?_ ?_ rfl rfl) <;> simp only[wx,aA,aa,seval,iteOmega,toNatUp]
     ·have hn48:n=48:=by omega
      have h0:48-n=0:=by omega
      obtain⟨h0',h1,h2,h3,h4,h5,h6,h7,rfl⟩:=eight hh;simp only[uu,yC,wx,aa,seval,iteOmega,toNatUp,h0,Wc,Xh,← Ei b n hn48];refine bd (qa [h0',h1,h2,h3,h4,h5,h6,h7] b) (fun n=>64-n) (fun n=>n≤64) 0 (VY _) ?_ ?_
      ·refine aB id ?_ ?_ rfl rfl <;> simp only[qa,s9,wx,aA,aa,seval,iteOmega,toNatUp];exact⟨rfl,rfl,rfl,rfl,rfl,rfl,rfl,rfl⟩
      ·clear hn hlt hn48 h0;intro n hn;by_cases hlt:n<64
       ·have e1:IntKind.i64.wrap ((n:Int)+1)=((n+1:Nat):Int):=by rw[IntWalk.i64_in _ (by omega)]; rfl
        have g1:(bB.map wD)[n]?=some (wD (bB.getD n 0)):=by rw[aM,getD_some (by omega)]; rfl
        have g2:((dF b).map wD)[n]?=some (wD ((dF b).getD n 0)):=by rw[aM,getD_some (by omega)]; rfl
        have hr:(bW.of [h0',h1,h2,h3,h4,h5,h6,h7]).rounds bB (dF b) (n+1)=((bW.of [h0',h1,h2,h3,h4,h5,h6,h7]).rounds bB (dF b) n).step (bB.getD n 0) ((dF b).getD n 0):=rfl;generalize hs:(bW.of [h0',h1,h2,h3,h4,h5,h6,h7]).rounds bB (dF b) n=s at hr;simp only[uv,qa,s9,hs,wx,aa,seval,iteOmega,toNatUp,hcl,hsl,g1,g2,e1];refine bh (jf G _ 6 (by decide) (by decide)) rfl (.inr rfl) ?_;simp only[wx,aa,seval,iteOmega,toNatUp];refine bh (jf G _ 11 (by decide) (by decide)) rfl (.inr rfl) ?_;simp only[wx,aa,seval,iteOmega,toNatUp];refine bh (jf G _ 25 (by decide) (by decide)) rfl (.inr rfl) ?_;simp only[wx,aa,seval,iteOmega,toNatUp,g1,g2,hcl,hsl];refine bh (jf G _ 2 (by decide) (by decide)) rfl (.inr rfl) ?_;simp only[wx,aa,seval,iteOmega,toNatUp];refine bh (jf G _ 13 (by decide) (by decide)) rfl (.inr rfl) ?_;simp only[wx,aa,seval,iteOmega,toNatUp];refine bh (jf G _ 22 (by decide) (by decide)) rfl (.inr rfl) ?_;simp only[wx,aa,seval,iteOmega,toNatUp,e1];refine aX (n+1) (by omega) (by omega) ?_;rw[qa,hr];refine (aB id ?_ ?_ rfl rfl) <;> simp only[wx,aA,aa,seval,iteOmega,toNatUp,IM,IP,IQ,IR,IU,IV,IW,IX];exact⟨rfl,rfl⟩
       ·obtain rfl:n=64:=by omega
        have hK:lK [h0',h1,h2,h3,h4,h5,h6,h7] b=((bW.of [h0',h1,h2,h3,h4,h5,h6,h7]).rounds bB (dF b) 64).sum [h0',h1,h2,h3,h4,h5,h6,h7]:=rfl;rw[hK];simp only[qa];generalize (bW.of [h0',h1,h2,h3,h4,h5,h6,h7]).rounds bB (dF b) 64=s;have e8:s.sum [h0',h1,h2,h3,h4,h5,h6,h7]=[bG h0' s.a,bG h1 s.b,bG h2 s.c,bG h3 s.d,bG h4 s.e,bG h5 s.f,bG h6 s.g,bG h7 s.h]:=rfl;simp only[uv,s9,e8,wx,aa,seval,iteOmega,toNatUp];exact eK (id:=1848) (n:=8) (s:=1) (by simp only[wx,aa,seval,iteOmega,toNatUp]) (by simp only[wx,aa,seval,iteOmega,toNatUp] <;> rfl) rfl
def dq (h:List UInt32) (b:List UInt8):Nat→List UInt32
  | 0=>h
  | n+1=>lK (dq h b n) ((b.drop (64*n)).take 64)
theorem lq {h:List UInt32} (hh:h.length=8) (b:List UInt8):∀ n,(dq h b n).length=8
  | 0=>hh
  | n+1=>Au _ _
def eS (rest:List UInt8) (count:Nat):List UInt8:=rest++[128]++List.replicate ((119-rest.length)%64) 0++aQ (count*8) 8
def fD (ws:List UInt32):List UInt8:=ws.flatMap fun w=>aQ w.toNat 4
def jt (s:List UInt32) (rest:List UInt8) (count:Nat):List UInt8:=fD (dq s (eS rest count) ((eS rest count).length / 64))
def cu (b:List UInt8):List UInt8:=jt (dq cX b (b.length / 64)) (b.drop (64*(b.length / 64))) b.length
theorem qq:∀ ws:List UInt32,(fD ws).length=4*ws.length
  | []=>rfl
  | w::ws=>by
    have:fD (w::ws)=aQ w.toNat 4++fD ws:=rfl;rw[this,VR,ch,qq ws,WO]; omega
theorem O4 {s:List UInt32} (hs:s.length=8) (rest:List UInt8) (count:Nat):(jt s rest count).length=32:=by
  unfold jt;rw[qq,lq hs]
theorem fZ (b:List UInt8):(cu b).length=32:=O4 (lq oE _ _) _ _
theorem Nj (n:Nat):aQ 0 n=List.replicate n 0:=by
  unfold aQ;apply WZ;intro i;simp only[WM,List.getElem?_replicate,XE];by_cases h:i<n
  ·simp[h,XE]
  ·simp[h,XE]
theorem En (rest:List UInt8) (count:Nat) (h:rest.length<64):(eS rest count).length=rest.length+9+(119-rest.length)%64∧(eS rest count).length%64=0:=by
  have:(eS rest count).length=rest.length+9+(119-rest.length)%64:=by simp[eS,ch]; omega
  exact⟨this,by omega⟩
theorem z8 (ws:List UInt32) (k:Nat) (h:k<ws.length):fD (ws.take k)++aQ (ws.getD k 0).toNat 4=fD (ws.take (k+1)):=by
  rw[WX h];unfold fD;rw[Xg];simp[h]
theorem Nk {ws:List UInt32} {k:Nat} (h:k<ws.length):((ws.map wD).map C.d)[k]?=some (.d (wD (ws.getD k 0))):=by
  simp[h]
theorem Lg (b:List UInt8) (n:Nat):(b.drop (64*n)).drop 64=b.drop (64*(n+1)):=by rw[XQ,Nat.mul_succ]
def ta (s:List UInt32) (b:List UInt8) (n:Nat):St:=⟨aV [(1,.w (.c (.d (.sl ((b.drop (64*n)).map bD))))),(2,.w (.c (.pa 1 1))),(4,.w (.c (.pa 2 1))),(5,.w (.c .nil))],hL [(1,.row 1 ((dq s b n).map wD)),(2,.row 1 ((List.replicate 8 (0:UInt32)).map wD))],uL [1,2]⟩
def uw:aN := .seq (.seq (.reg [oM 6 1,oO 7 (.len (.t 6)),oO 8 (.bin .geq (.t 7) (kI 64))]) (.cond (.t 8) (.skip) (.exit 0))) (.block 1 (.seq (.reg [oO 9 (.load (.ag 8) (.t 2)),oM 10 1,oO 11 (.slice 1 (.t 10) none (some (kI 64)) none),oO 12 (.call 173 [(.t 9),(.t 11)] none),oN (.store (.ag 8) (.t 2) (.t 12))]) (.reg [oM 13 1,oO 14 (.slice 1 (.t 13) (some (kI 64)) none none),oM 1 14])))
def BP:aF:=⟨2,17,.seq (.reg [oO 2 (.box .ownArr (.t 0)),oO 4 (.allocArr [(.int .u32 0),(.int .u32 0),(.int .u32 0),(.int .u32 0),(.int .u32 0),(.int .u32 0),(.int .u32 0),(.int .u32 0)]),oO 5 (.mv (.k (.c .nil)))]) (.seq (.block 0 (.loop uw)) (.seq (.reg [oO 15 (.load (.ag 8) (.t 2)),oM 16 1,oN (.store (.ag 8) (.t 4) (.t 15)),oM 5 16]) (.ret))),[(4,(some (.ag 8))),(5,none)]⟩
theorem Nl:aE Tryz.prog { own:=[2],comp:=[],frz:=[],nils:=[] } Tryz.f155=some BP:=by kernel_rfl
theorem Eo (G:ai) (hG:G.at 1=some (.ra (bB.map wD))) (s:List UInt32) (b:List UInt8) (hs:s.length=8) (hb:b.length≤140737488355328):au Tryz.prog G 155 [.agg (s.map wD),.sl (b.map bD)] (.tup [.c (.d (.agg ((dq s b (b.length / 64)).map wD))),.c (.d (.sl ((b.drop (64*(b.length / 64))).map bD)))]):=by
  refine aG Tryz.func155 Nl rfl rfl ?_;simp only[BP,ah,wx,aa,seval,iteOmega,toNatUp];refine bd (ta s b) (fun n=>b.length / 64-n) (fun n=>n≤b.length / 64) 0 (VY _) ?_ ?_
  ·refine aB (fun i=>match i with | 1=>16 | _=>32) ?_ ?_ rfl rfl <;> simp only[wx,aA,aa,seval,iteOmega,toNatUp,ta,dq];rfl
  ·intro n hn;have hl:=lq hs b n;by_cases hlt:n<b.length / 64
   ·have h1:(64:Int)≤((b.drop (64*n)).length:Int):=by rw[V5]; omega
    have h2:((b.drop (64*n)).take 64).length=64:=by rw[VW,V5]; omega
    have e1:=Lg b n;simp only[uw,ta,wx,aa,seval,iteOmega,toNatUp,hl,h1];refine bh (QX G hG (dq s b n) ((b.drop (64*n)).take 64) hl h2) rfl (.inl rfl) ?_;have e2:(lK (dq s b n) ((b.drop (64*n)).take 64)).length=8:=Au _ _;have e3:(b.drop (64*n)).length-64=((b.drop (64*(n+1)))).length:=by rw[V5,V5]; omega
    simp only[wx,aa,seval,iteOmega,toNatUp,hl,e2,e1,e3];refine aX (n+1) (by omega) (by omega) (aB id ?_ ?_ rfl rfl) <;> simp only[wx,aA,aa,seval,iteOmega,toNatUp,dq]
   ·obtain rfl:n=b.length / 64:=by omega
    have h1:¬ (64:Int)≤((b.drop (64*(b.length / 64))).length:Int):=by rw[V5]; omega
    simp only[uw,ta,wx,aa,seval,iteOmega,toNatUp,hl,h1];exact iR (by simp only[wx,aa,seval,iteOmega,toNatUp,hl]) (by simp only[wx,aa,seval,iteOmega,toNatUp])
def yD (ws:List UInt32) (k:Nat):St:=⟨aV [(9,.w (.c (.own 1 1 0 (fD (ws.take k)).length))),(36,.w (.c (.d (.agg (ws.map wD))))),(37,.w (.c (.d (.int .i64 (k:Int)))))],hL [(1,.row 1 ((fD (ws.take k)).map bD))],uL [1]⟩
def vW:aN := .seq (.reg [oO 38 (.bin .lss (.t 37) (kI 8))]) (.seq (.cond (.t 38) (.skip) (.exit 0)) (.seq (.block 1 (.seq (.reg [oO 39 (.idxArr 1 8 .sc (.t 36) (.t 37)),oM 11 39]) (.reg [oM 40 9,oM 41 11,oO 42 (.conv .u64 (.t 41)),oO 43 (.call 91 [(.t 42),(kI 4)] none),oO 44 (.app false 1 1 (.t 40) (.t 43)),oM 9 44]))) (.reg [oO 45 (.bin .add (.t 37) (kI 1)),oM 37 45])))
def IY:aF:=⟨3,47,.seq (.reg [oO 3 (.box .ownArr (.t 0)),oO 6 (.mv (.k (.c .nil)))]) (.seq (.reg [oO 12 (.bldSl false 1 1 (.int .u8 0) [(0,(.k (.c (.d (.int .u8 128)))))]),oM 7 12]) (.seq (.reg [oM 13 7,oO 14 (.len (.t 13)),oO 15 (.bin .sub (kI 120) (.t 14)),oM 16 1,oO 17 (.len (.t 16)),oO 18 (.bin .sub (.t 15) (.t 17)),oO 19 (.bin .rem (.t 18) (kI 64)),oM 8 19]) (.seq (.reg [oO 21 (.load (.ag 8) (.t 3)),oM 22 1,oM 23 7,oM 24 8,oO 25 (.call 91 [(.k (.c (.d (.int .u64 0)))),(.t 24)] none),oM 26 2,oO 27 (.conv .u64 (.t 26)),oO 28 (.bin .mul (.t 27) (.k (.c (.d (.int .u64 8))))),oO 29 (.call 91 [(.t 28),(kI 8)] none),oO 30 (.bldSl false 4 1 (.sl []) [(0,(.t 22)),(1,(.t 23)),(2,(.t 25)),(3,(.t 29))]),oO 31 (.call 90 [(.t 30)] none),oO 32 (.call 155 [(.t 21),(.t 31)] none),oM 20 32,oO 33 (.extract (.t 20) 0),
 oO 34 (.extract (.t 20) 1),oN (.store (.ag 8) (.t 3) (.t 33))]) (.seq (.reg [oO 35 (.make true 1 1 (.int .u8 0) (kI 0) (kI 32)),oM 9 35]) (.seq (.seq (.reg [oO 36 (.load (.ag 8) (.t 3)),oO 37 (.mv (kI 0))]) (.block 0 (.loop vW))) (.seq (.reg [oM 46 9,oM 6 46]) (.ret))))))),[(6,none)]⟩
theorem Tj:aE Tryz.prog { own:=[3],comp:=[],frz:=[],nils:=[] } Tryz.f156=some IY:=by kernel_rfl
theorem UX (G:ai) (hG:G.at 1=some (.ra (bB.map wD))) (s:List UInt32) (rest:List UInt8) (count:Nat) (hs:s.length=8) (hr:rest.length<64) (hc:count≤140737488355328):au Tryz.prog G 156 [.agg (s.map wD),.sl (rest.map bD),.int .i64 (count:Int)] (.w (.c (.fr 1 ((jt s rest count).map bD)))):=by
  refine aG Tryz.func156 Tj rfl rfl ?_;have e3:(119-(rest.length:Int)).tmod 64=(((119-rest.length)%64:Nat):Int):=by
    rw[show (119-(rest.length:Int))=((119-rest.length:Nat):Int) by omega]; rfl
  simp only[IY,ah,af,aa,seval,iteOmega,toNatUp,hs,e3];have hz:(119-rest.length)%64≤64:=by omega
  refine bh (kK G 0 ((119-rest.length)%64) hz) rfl (.inl rfl) ?_;simp only[af,aa,seval,iteOmega,toNatUp];refine bh (kK G (count*8) 8 (by decide)) ?_ (.inl rfl) ?_
  ·simp only[af,aa,seval,iteOmega,toNatUp]
  obtain⟨hp1,hp2⟩:=En rest count hr;have hp:[rest,[128],aQ 0 ((119-rest.length)%64),aQ (count*8) 8].flatten=eS rest count:=by
    rw[Nj]; simp[eS]
  have hj:=fC G [rest,[128],aQ 0 ((119-rest.length)%64),aQ (count*8) 8] (by simp) (by rw[hp,hp1]; omega);rw[hp] at hj;simp only[af,aa,seval,iteOmega,toNatUp];refine bh hj rfl (.inl rfl) ?_;simp only[af,aa,seval,iteOmega,toNatUp];refine bh (Eo G hG s (eS rest count) hs (by rw[hp1]; omega)) rfl (.inl rfl) ?_;have hw:(dq s (eS rest count) ((eS rest count).length / 64)).length=8:=lq hs _ _;have hf:jt s rest count=fD (dq s (eS rest count) ((eS rest count).length / 64)):=rfl;rw[hf];generalize dq s (eS rest count) ((eS rest count).length / 64)=ws at hw;simp only[af,aa,seval,iteOmega,toNatUp,hs,hw];refine bd (yD ws) (fun k=>8-k) (fun k=>k≤8) 0 (VY _) ?_ ?_
  ·refine aB (fun _=>280) ?_ ?_ rfl rfl <;> simp only[wx,aA,aK,aa,seval,iteOmega,toNatUp,fD]
  ·intro k hk;by_cases hlt:k<8
   ·have hw1:(ws.getD k 0).toNat<4294967296:=word_lt _;have hwl:=qq (ws.take k);rw[VW] at hwl;simp only[vW,yD,af,aa,seval,iteOmega,toNatUp,Nk (show k<ws.length by omega)];refine bh (kK G (ws.getD k 0).toNat 4 (by decide)) ?_ (.inl rfl) ?_
    ·simp only[af,aa,seval,iteOmega,toNatUp]
    simp only[af,aa,seval,iteOmega,toNatUp,bK,z8 ws k (by omega),ch];refine aX (k+1) (by omega) (by omega) (aB (fun _=>352) ?_ ?_ rfl rfl) <;> simp only[wx,aA,aK,aa,seval,iteOmega,toNatUp]
   ·obtain rfl:k=8:=by omega
    have:ws.take 8=ws:=VV (by omega);simp only[vW,yD,af,aa,seval,iteOmega,toNatUp,this];exact eK (id:=1) (n:=(fD ws).length) (s:=1) (by simp only[wx,aa,seval,iteOmega,toNatUp]) (by simp only[wx,aa,seval,iteOmega,toNatUp]) (by rw[VZ])
def IZ:aF:=⟨1,16,.seq (.reg [oO 2 (.mv (.k (.c .nil)))]) (.seq (.reg [oO 6 (.load (.ag 8) (.g 0)),oM 7 0,oO 8 (.call 155 [(.t 6),(.t 7)] none),oM 5 8,oO 9 (.extract (.t 5) 0),oO 10 (.extract (.t 5) 1),oO 3 (.allocArr [(.int .u32 0),(.int .u32 0),(.int .u32 0),(.int .u32 0),(.int .u32 0),(.int .u32 0),(.int .u32 0),(.int .u32 0)]),oN (.store (.ag 8) (.t 3) (.t 9)),oM 4 10]) (.seq (.reg [oO 11 (.load (.ag 8) (.t 3)),oM 12 4,oM 13 0,oO 14 (.len (.t 13)),oO 15 (.call 156 [(.t 11),(.t 12),(.t 14)] (some (0,1))),oM 2 15]) (.ret))),[(2,none)]⟩
theorem Tk:aE Tryz.prog { own:=[15],comp:=[],frz:=[],nils:=[] } Tryz.f141=some IZ:=by kernel_rfl
theorem tc (G:ai) (hF:G.at 0=some (.ra (cX.map wD))) (hG:G.at 1=some (.ra (bB.map wD))) (b:List UInt8) (hb:b.length≤140737488355328):au Tryz.prog G 141 [.sl (b.map bD)] (.w (.c (.fr 1 ((cu b).map bD)))):=by
  refine aG Tryz.func141 Tk rfl rfl ?_;have eg:=@KU G 0 _ hF;have hl:(dq cX b (b.length / 64)).length=8:=lq oE _ _;have h8:cX.length=8:=oE;simp only[IZ,ah,af,aa,seval,iteOmega,toNatUp,eg,h8];refine bh (Eo G hG cX b oE hb) rfl (.inl rfl) ?_;simp only[af,aa,seval,iteOmega,toNatUp,hl];refine bh (UX G hG _ (b.drop (64*(b.length / 64))) b.length hl (by rw[V5]; omega) hb) ?_ (.inl rfl) ?_
  ·simp only[af,aa,seval,iteOmega,toNatUp]
  simp only[af,aa,seval,iteOmega,toNatUp];exact eK (id:=120) (n:=(jt (dq cX b (b.length / 64)) (b.drop (64*(b.length / 64))) b.length).length) (s:=1) (by simp only[wx,aa,seval,iteOmega,toNatUp]) (by simp only[wx,aa,seval,iteOmega,toNatUp] <;> rfl) (by rw[VZ]; rfl)
theorem O5 {α:Type} (a:α) (j:Nat):List.replicate j a++[a]=List.replicate (j+1) a:=by rw[List.replicate_succ']
def yE (h:List UInt32) (rest:List UInt8) (count:Nat) (j:Nat):St:=⟨aV [(0,.w (.c (.d (.sl (h.map wD))))),(2,.w (.c (.d (.int .i64 (count:Int))))),(7,.w (.c (.d (.sl (bB.map wD))))),(8,.w (.c (.own 1 1 0 (rest++[128]++List.replicate j 0).length)))],hL [(1,.row 1 ((rest++[128]++List.replicate j 0).map bD))],uL [1]⟩
def yF (h:List UInt32) (p:List UInt8) (n:Nat):St:=⟨aV [(0,.w (.c (.d (.sl ((dq h p n).map wD))))),(7,.w (.c (.d (.sl (bB.map wD))))),(8,.w (.c (.own 1 1 0 p.length))),(9,.w (.c (.d (.int .i64 ((64*n:Nat):Int)))))],hL [(1,.row 1 (p.map bD))],uL [1]⟩
def yG (ws:List UInt32) (k:Nat):St:=⟨aV [(0,.w (.c (.d (.sl (ws.map wD))))),(10,.w (.c (.own 1 1 0 (fD (ws.take k)).length))),(11,.w (.c (.d (.int .i64 (k:Int)))))],hL [(1,.row 1 ((fD (ws.take k)).map bD))],uL [1]⟩
theorem Tl {ws:List UInt32} {k:Nat} (h:k<ws.length):(ws.map wD)[k]?=some (wD (ws.getD k 0)):=by
  simp[h]
theorem UY:D.int .u8 0=bD 0:=rfl
theorem QY:D.int .u8 128=bD 128:=rfl
theorem Kb (l:List UInt8) (a:UInt8):l.map bD++[bD a]=(l++[a]).map bD:=by simp
def vg:aN := .seq (.seq (.reg [oM 18 8,oO 19 (.len (.t 18)),oO 20 (.bin .rem (.t 19) (kI 64)),oO 21 (.bin .neq (.t 20) (kI 56))]) (.cond (.t 21) (.skip) (.exit 0))) (.block 1 (.reg [oM 22 8,oO 23 (.bldSl false 1 1 (.int .u8 0) [(0,(.k (.c (.d (.int .u8 0)))))]),oO 24 (.app false 1 1 (.t 22) (.t 23)),oM 8 24]))
def vh:aN := .seq (.seq (.reg [oM 31 9,oM 32 8,oO 33 (.len (.t 32)),oO 34 (.bin .lss (.t 31) (.t 33))]) (.cond (.t 34) (.skip) (.exit 2))) (.seq (.block 3 (.reg [oM 37 0,oM 38 7,oM 39 8,oM 40 9,oM 41 9,oO 42 (.bin .add (.t 41) (kI 64)),oO 43 (.slice 1 (.t 39) (some (.t 40)) (some (.t 42)) none),oO 44 (.call 119 [(.t 37),(.t 38),(.t 43)] none),oM 0 44])) (.reg [oM 35 9,oO 36 (.bin .add (.t 35) (kI 64)),oM 9 36]))
def vi:aN := .seq (.seq (.reg [oM 46 11,oO 47 (.bin .lss (.t 46) (kI 8))]) (.cond (.t 47) (.skip) (.exit 4))) (.seq (.block 5 (.reg [oM 50 10,oM 51 0,oM 52 11,oO 53 (.idxSl 1 (.t 51) (.t 52)),oO 54 (.load .sc (.t 53)),oO 55 (.conv .u64 (.t 54)),oO 56 (.call 44 [(.t 55),(kI 4)] none),oO 57 (.app false 1 1 (.t 50) (.t 56)),oM 10 57])) (.reg [oM 48 11,oO 49 (.bin .add (.t 48) (kI 1)),oM 11 49]))
def Gv:aF:=⟨3,59,.seq (.reg [oO 6 (.mv (.k (.c .nil)))]) (.seq (.reg [oO 12 (.call 118 [] none),oM 7 12]) (.seq (.reg [oM 13 1,oO 14 (.bldSl false 1 1 (.sl []) [(0,(.t 13))]),oO 15 (.call 43 [(.t 14)] (some (0,1))),oO 16 (.bldSl false 1 1 (.int .u8 0) [(0,(.k (.c (.d (.int .u8 128)))))]),oO 17 (.app false 1 1 (.t 15) (.t 16)),oM 8 17]) (.seq (.block 0 (.loop vg)) (.seq (.reg [oM 25 8,oM 26 2,oO 27 (.conv .u64 (.t 26)),oO 28 (.bin .mul (.t 27) (.k (.c (.d (.int .u64 8))))),oO 29 (.call 44 [(.t 28),(kI 8)] none),oO 30 (.app false 1 1 (.t 25) (.t 29)),oM 8 30]) (.seq (.seq (.reg [oO 9 (.mv (kI 0))]) (.block 2 (.loop vh))) (.seq (.reg [oO 45 (.bldSl true 0 1 (.int .u8 0) []),oM 10 45]) (.seq (.seq (.reg [oO 11 (.mv (kI 0))]) (.block 4 (.loop vi))) (.seq (.reg [oM 58 10,
 oM 6 58]) (.ret))))))))),[(6,none)]⟩
theorem QZ:aE Tryz.prog { own:=[15,45],comp:=[],frz:=[],nils:=[] } Tryz.f120=some Gv:=by kernel_rfl
theorem Tm (G:ai) (s:List UInt32) (rest:List UInt8) (count:Nat) (hs:s.length=8) (hr:rest.length<64) (hc:count≤140737488355328):au Tryz.prog G 120 [.sl (s.map wD),.sl (rest.map bD),.int .i64 (count:Int)] (.w (.c (.fr 1 ((jt s rest count).map bD)))):=by
  refine aG Tryz.func120 QZ rfl rfl ?_;have hj:=kD G [rest] (by simp) (by simp; omega);have hf:[rest].flatten=rest:=by simp
  rw[hf] at hj;obtain⟨hp1,hp2⟩:=En rest count hr;simp only[Gv,ah,af,aa,seval,iteOmega,toNatUp];refine bh (IK G) rfl (.inl rfl) ?_;simp only[af,aa,seval,iteOmega,toNatUp];refine bh hj rfl (.inl rfl) ?_;simp only[af,aa,seval,iteOmega,toNatUp,bK,QY,Kb];refine bd (yE s rest count) (fun j=>(119-rest.length)%64-j) (fun j=>j≤(119-rest.length)%64) 0 (VY _) ?_ ?_
  ·refine aB (fun _=>136) ?_ ?_ rfl rfl <;> simp only[wx,aA,aK,aa,seval,iteOmega,toNatUp]
  ·intro j hj;have hl:(rest++[128]++List.replicate j 0).length=rest.length+1+j:=by simp; omega
   have ht:((rest++[128]++List.replicate j 0).length:Int).tmod 64=(((rest.length+1+j)%64:Nat):Int):=by rw[hl]; rfl
   by_cases hlt:j<(119-rest.length)%64
   ·have e1:rest++[128]++List.replicate j 0++[0]=rest++[128]++List.replicate (j+1) 0:=by
      rw[Wp,O5]
    generalize hx:rest++[128]++List.replicate j 0=x at *
    simp only[vg,yE,hx,af,aa,seval,iteOmega,toNatUp,ht,bK,UY,Kb,e1];refine aX (j+1) (by omega) (by omega) (aB (fun _=>192) ?_ ?_ rfl rfl) <;> simp only[wx,aA,aK,aa,seval,iteOmega,toNatUp]
   ·obtain rfl:j=(119-rest.length)%64:=by omega
    generalize hx:rest++[128]++List.replicate ((119-rest.length)%64) 0=x at *
    simp only[vg,yE,hx,af,aa,seval,iteOmega,toNatUp,ht];refine bh (pj G (count*8) 8 (by decide)) ?_ (.inl rfl) ?_
    ·simp only[af,aa,seval,iteOmega,toNatUp]
    have hx2:x++aQ (count*8) 8=eS rest count:=by rw[← hx]; rfl
    simp only[af,aa,seval,iteOmega,toNatUp,bK,jI,hx2,ch];refine bd (yF s (eS rest count)) (fun n=>(eS rest count).length / 64-n) (fun n=>n≤(eS rest count).length / 64) 0 (VY _) ?_ ?_
    ·refine aB (fun _=>240) ?_ ?_ rfl rfl <;> simp only[wx,aA,aK,aa,seval,iteOmega,toNatUp,dq]
    ·generalize hpk:eS rest count=p at *
     intro n hn;have hl8:=lq hs p n;by_cases hlt:n<p.length / 64
     ·have h2:((p.drop (64*n)).take 64).length=64:=by rw[VW,V5]; omega
      have e1:64*n+64-64*n=64:=by omega
      simp only[vh,yF,af,aa,seval,iteOmega,toNatUp];refine bh (Em G (dq s p n) ((p.drop (64*n)).take 64) hl8 h2) ?_ (.inr (VA _ _)) ?_
      ·simp only[af,aa,seval,iteOmega,toNatUp,cZ,e1]
      simp only[af,aa,seval,iteOmega,toNatUp];have e2:64*(n:Int)+64=64*((n:Int)+1):=by omega
      refine aX (n+1) (by omega) (by omega) (aB id ?_ ?_ rfl rfl) <;> simp only[wx,aA,aK,aa,seval,iteOmega,toNatUp,dq,e2]
     ·obtain rfl:n=p.length / 64:=by omega
      have hfk:jt s rest count=fD (dq s p (p.length / 64)):=by unfold jt; rw[hpk]
      rw[hfk];simp only[yF];generalize dq s p (p.length / 64)=ws at hl8;have h64:¬ ((64*(p.length / 64):Nat):Int)<(p.length:Int):=by omega
      simp only[vh,af,aa,seval,iteOmega,toNatUp,h64];refine bd (yG ws) (fun k=>8-k) (fun k=>k≤8) 0 (VY _) ?_ ?_
      ·refine aB (fun _=>360) ?_ ?_ rfl rfl <;> simp only[wx,aA,aK,aa,seval,iteOmega,toNatUp,fD]
      ·intro k hk;by_cases hlt:k<8
       ·have hw1:(ws.getD k 0).toNat<4294967296:=word_lt _;have hwl:=qq (ws.take k);rw[VW] at hwl;simp only[vi,yG,af,aa,seval,iteOmega,toNatUp,Tl (show k<ws.length by omega)];refine bh (pj G (ws.getD k 0).toNat 4 (by decide)) ?_ (.inl rfl) ?_
        ·simp only[af,aa,seval,iteOmega,toNatUp]
        simp only[af,aa,seval,iteOmega,toNatUp,bK,z8 ws k (by omega),ch];refine aX (k+1) (by omega) (by omega) (aB (fun _=>456) ?_ ?_ rfl rfl) <;> simp only[wx,aA,aK,aa,seval,iteOmega,toNatUp]
       ·obtain rfl:k=8:=by omega
        have:ws.take 8=ws:=VV (by omega);simp only[vi,yG,af,aa,seval,iteOmega,toNatUp,this];exact eK (id:=1) (n:=(fD ws).length) (s:=1) (by simp only[wx,aa,seval,iteOmega,toNatUp]) (by simp only[wx,aa,seval,iteOmega,toNatUp]) (by rw[VZ])
def zj (b:List UInt8) (n:Nat):St:=⟨aV [(0,.w (.c (.d (.sl (b.map bD))))),(3,.w (.c (.d (.sl ((dq cX b n).map wD))))),(4,.w (.c (.d (.sl (bB.map wD))))),(5,.w (.c (.d (.int .i64 ((64*(b.length / 64):Nat):Int))))),(6,.w (.c (.d (.int .i64 ((64*n:Nat):Int)))))],hL [],uL []⟩
def vj:aN := .seq (.seq (.reg [oM 13 6,oM 14 5,oO 15 (.bin .lss (.t 13) (.t 14))]) (.cond (.t 15) (.skip) (.exit 0))) (.seq (.block 1 (.reg [oM 18 3,oM 19 4,oM 20 0,oM 21 6,oM 22 6,oO 23 (.bin .add (.t 22) (kI 64)),oO 24 (.slice 1 (.t 20) (some (.t 21)) (some (.t 23)) none),oO 25 (.call 119 [(.t 18),(.t 19),(.t 24)] none),oM 3 25])) (.reg [oM 16 6,oO 17 (.bin .add (.t 16) (kI 64)),oM 6 17]))
def Gw:aF:=⟨1,33,.seq (.reg [oO 2 (.mv (.k (.c .nil)))]) (.seq (.reg [oO 7 (.call 117 [] none),oO 8 (.call 118 [] none),oM 3 7,oM 4 8]) (.seq (.reg [oM 9 0,oO 10 (.len (.t 9)),oO 11 (.bin .quo (.t 10) (kI 64)),oO 12 (.bin .mul (.t 11) (kI 64)),oM 5 12]) (.seq (.seq (.reg [oO 6 (.mv (kI 0))]) (.block 0 (.loop vj))) (.seq (.reg [oM 26 3,oM 27 0,oM 28 5,oO 29 (.slice 1 (.t 27) (some (.t 28)) none none),oM 30 0,oO 31 (.len (.t 30)),oO 32 (.call 120 [(.t 26),(.t 29),(.t 31)] (some (0,1))),oM 2 32]) (.ret))))),[(2,none)]⟩
theorem Q0:aE Tryz.prog { own:=[32],comp:=[],frz:=[],nils:=[] } Tryz.f84=some Gw:=by kernel_rfl
theorem pB (G:ai) (b:List UInt8) (hb:b.length≤140737488355328):au Tryz.prog G 84 [.sl (b.map bD)] (.w (.c (.fr 1 ((cu b).map bD)))):=by
  refine aG Tryz.func84 Q0 rfl rfl ?_;have e1:(b.length:Int).tdiv 64=((b.length / 64:Nat):Int):=rfl;have e2:((b.length / 64:Nat):Int)*64=((64*(b.length / 64):Nat):Int):=by omega
  have e3:IntKind.i64.wrap ((64*(b.length / 64):Nat):Int)=((64*(b.length / 64):Nat):Int):=IntWalk.i64_in _ (by omega);have e4:IntKind.i64.wrap ((b.length / 64:Nat):Int)=((b.length / 64:Nat):Int):=IntWalk.i64_in _ (by omega);simp only[Gw,ah,wx,wy,aa,seval,iteOmega,toNatUp];refine bh (Ti G) rfl (.inl rfl) ?_;simp only[wx,wy,aa,seval,iteOmega,toNatUp];refine bh (IK G) rfl (.inl rfl) ?_;simp only[wx,wy,aa,seval,iteOmega,toNatUp,e1,e2,e3,e4];refine bd (zj b) (fun n=>b.length / 64-n) (fun n=>n≤b.length / 64) 0 (VY _) ?_ ?_
  ·refine aB id ?_ ?_ rfl rfl <;> simp only[wx,aA,aa,seval,iteOmega,toNatUp,dq]
  ·intro n hn;have hl8:=lq oE b n;by_cases hlt:n<b.length / 64
   ·have h2:((b.drop (64*n)).take 64).length=64:=by rw[VW,V5]; omega
    have e1:64*n+64-64*n=64:=by omega
    have e5:IntKind.i64.wrap (((64*n:Nat):Int)+64)=((64*(n+1):Nat):Int):=by rw[IntWalk.i64_in _ (by omega)]; omega
    have e6:64*(n+1)-64*n=64:=by omega
    simp only[vj,zj,wx,wy,aa,seval,iteOmega,toNatUp,e1,e5,e6];refine bh (Em G (dq cX b n) ((b.drop (64*n)).take 64) hl8 h2) ?_ (.inl rfl) ?_
    ·simp only[wx,wy,aa,seval,iteOmega,toNatUp]
    simp only[wx,wy,aa,seval,iteOmega,toNatUp,e5];refine aX (n+1) (by omega) (by omega) (aB id ?_ ?_ rfl rfl) <;> simp only[wx,aA,aa,seval,iteOmega,toNatUp,dq]
   ·obtain rfl:n=b.length / 64:=by omega
    have e1:List.take (b.length-64*(b.length / 64)) (b.drop (64*(b.length / 64)))=b.drop (64*(b.length / 64)):=VV (by rw[V5]; exact V0 _);simp only[vj,zj,wx,wy,aa,seval,iteOmega,toNatUp,e1];refine bh (Tm G (dq cX b (b.length / 64)) (b.drop (64*(b.length / 64))) b.length hl8 (by rw[V5]; omega) hb) ?_ (.inl rfl) ?_
    ·simp only[wx,wy,aa,seval,iteOmega,toNatUp]
    simp only[wx,wy,aa,seval,iteOmega,toNatUp];exact eK (id:=256) (n:=(jt (dq cX b (b.length / 64)) (b.drop (64*(b.length / 64))) b.length).length) (s:=1) (by simp only[wx,aa,seval,iteOmega,toNatUp]) (by simp only[wx,aa,seval,iteOmega,toNatUp] <;> rfl) (by rw[VZ]; rfl)

def bi (v m:Int):Int:=if m<1 then 0 else v%m
theorem ud (v m:Int) (h:1≤m):0≤bi v m∧bi v m<m:=by
  unfold bi;rw[if_neg (by omega)];exact⟨Int.emod_nonneg _ (by omega),Int.emod_lt_of_pos _ (by omega)⟩
theorem O6 {v m:Int} (hm:0<m) (h:v.tmod m<0):v.tmod m+m=v%m:=by
  have h1:=Int.emod_add_mul_ediv v m;have h2:=Int.tmod_add_mul_tdiv v m;have h3:=Int.emod_nonneg v (show m≠0 by omega);have h4:=Int.emod_lt_of_pos v hm;have h5:=Int.lt_tmod_of_pos v hm;have e:m*(v.tdiv m-v / m)=v%m-v.tmod m:=by rw[Int.mul_sub]; omega
  have k1:v.tdiv m-v / m=1:=by
    rcases Int.lt_trichotomy (v.tdiv m-v / m) 1 with hlt | heq | hgt
    ·exfalso;have:v.tdiv m-v / m≤0:=by omega
     have:=XD this (show 0≤m by omega);omega
    ·exact heq
    ·exfalso;have:2≤v.tdiv m-v / m:=by omega
     have:=XD this (show 0≤m by omega);omega
  rw[k1] at e;omega
theorem O7 {v m:Int} (hm:0<m) (h:0≤v.tmod m):v.tmod m=v%m:=by
  have h1:=Int.emod_add_mul_ediv v m;have h2:=Int.tmod_add_mul_tdiv v m;have h3:=Int.emod_nonneg v (show m≠0 by omega);have h4:=Int.emod_lt_of_pos v hm;have h5:=Int.tmod_lt_of_pos v hm;have e:m*(v.tdiv m-v / m)=v%m-v.tmod m:=by rw[Int.mul_sub]; omega
  have k1:v.tdiv m-v / m=0:=by
    rcases Int.lt_trichotomy (v.tdiv m-v / m) 0 with hlt | heq | hgt
    ·exfalso;have:v.tdiv m-v / m ≤ -1:=by omega
     have:=XD this (show 0≤m by omega);omega
    ·exact heq
    ·exfalso;have:1≤v.tdiv m-v / m:=by omega
     have:=XD this (show 0≤m by omega);omega
  rw[k1] at e;omega
def qG:aF:=⟨2,16,.seq (.reg [oO 4 (.mv (kI 0))]) (.seq (.seq (.reg [oM 5 1,oO 6 (.bin .lss (.t 5) (kI 1))]) (.cond (.t 6) (.seq (.reg [oO 4 (.mv (kI 0))]) (.ret)) (.skip))) (.seq (.reg [oM 7 0,oM 8 1,oO 9 (.bin .rem (.t 7) (.t 8)),oM 0 9]) (.seq (.seq (.reg [oM 10 0,oO 11 (.bin .lss (.t 10) (kI 0))]) (.cond (.t 11) (.reg [oM 12 0,oM 13 1,oO 14 (.bin .add (.t 12) (.t 13)),oM 0 14]) (.skip))) (.seq (.reg [oM 15 0,oM 4 15]) (.ret))))),[(4,none)]⟩
theorem Nm:aE Tryz.prog { own:=[],comp:=[],frz:=[],nils:=[] } Tryz.f24=some qG:=by kernel_rfl
theorem o5 (G:ai) (v m:Int) (hm:m≤9223372036854775807):au Tryz.prog G 24 [.int .i64 v,.int .i64 m] (.w (.c (.d (.int .i64 (bi v m))))):=by
  refine aG Tryz.func24 Nm rfl rfl ?_;unfold bi;by_cases h:m<1
  ·rw[if_pos h];simp only[qG,ah,af,aa,seval,iteOmega,toNatUp];exact aJ
  ·rw[if_neg h];have hne:¬ m=0:=by omega
   have h4:=Int.tmod_lt_of_pos v (show 0<m by omega);by_cases hn:v.tmod m<0
   ·have e:=O6 (by omega) hn;have h3:=Int.emod_lt_of_pos v (show 0<m by omega);have h5:=Int.emod_nonneg v (show m≠0 by omega);simp only[qG,ah,af,aa,seval,iteOmega,toNatUp,hne];exact lG (by simp only[af,aa,seval,iteOmega,toNatUp,e])
   ·have e:=O7 (v:=v) (show 0<m by omega) (by omega);simp only[qG,ah,af,aa,seval,iteOmega,toNatUp,hne];exact lG (by simp only[af,aa,seval,iteOmega,toNatUp,e])
def xJ (s i:Nat):List UInt8:=cu (aQ s 8++aQ i 4)
def ig (s:Nat) (k:Nat):List UInt8:=((List.range k).map (xJ s)).flatten
theorem z9 (s k:Nat):ig s k++xJ s k=ig s (k+1):=by simp[ig,XA]
theorem qt (s:Nat):∀ k,(ig s k).length=32*k
  | 0=>rfl
  | k+1=>by rw[← z9,VR,qt s k]; unfold xJ; rw[fZ]; omega
def aR (seed n:Int):List UInt8:=(ig (seed%18446744073709551616).toNat ((n.toNat+31) / 32)).take n.toNat
theorem mD (seed n:Int):(aR seed n).length=n.toNat:=by
  unfold aR; rw[VW,qt]; omega
def td (seed n:Int) (s:Nat) (k:Nat):St:=⟨aV [(0,.w (.c (.d (.int .i64 seed)))),(1,.w (.c (.d (.int .i64 n)))),(5,.w (.c (.own 1 1 0 (ig s k).length))),(6,.w (.c (.d (.int .i64 (k:Int)))))],hL [(1,.row 1 ((ig s k).map bD))],uL [1]⟩
def qo:aN := .seq (.seq (.reg [oM 8 5,oO 9 (.len (.t 8)),oM 10 1,oO 11 (.bin .lss (.t 9) (.t 10))]) (.cond (.t 11) (.skip) (.exit 0))) (.seq (.block 1 (.reg [oM 14 5,oM 15 0,oO 16 (.conv .u64 (.t 15)),oO 17 (.call 44 [(.t 16),(kI 8)] none),oM 18 6,oO 19 (.conv .u64 (.t 18)),oO 20 (.call 44 [(.t 19),(kI 4)] none),oO 21 (.bldSl false 2 1 (.sl []) [(0,(.t 17)),(1,(.t 20))]),oO 22 (.call 43 [(.t 21)] none),oO 23 (.call 84 [(.t 22)] none),oO 24 (.app false 1 1 (.t 14) (.t 23)),oM 5 24])) (.reg [oM 12 6,oO 13 (.bin .add (.t 12) (kI 1)),oM 6 13]))
def BQ:aF:=⟨2,29,.seq (.reg [oO 4 (.mv (.k (.c .nil)))]) (.seq (.reg [oO 7 (.bldSl true 0 1 (.int .u8 0) []),oM 5 7]) (.seq (.seq (.reg [oO 6 (.mv (kI 0))]) (.block 0 (.loop qo))) (.seq (.reg [oM 25 5,oM 26 1,oO 27 (.max [(.t 26),(kI 0)]),oO 28 (.slice 1 (.t 25) none (some (.t 27)) none),oM 4 28]) (.ret)))),[(4,none)]⟩
theorem Nn:aE Tryz.prog { own:=[7],comp:=[],frz:=[],nils:=[] } Tryz.f35=some BQ:=by kernel_rfl
set_option maxHeartbeats 1600000 in
theorem O8 (G:ai) (seed n:Int) (hn:n≤1099511627776):au Tryz.prog G 35 [.int .i64 seed,.int .i64 n] (.w (.c (.fr 1 ((aR seed n).map bD)))):=by
  refine aG Tryz.func35 Nn rfl rfl ?_;obtain⟨s,hs⟩:∃ s:Nat,(seed%18446744073709551616).toNat=s:=⟨_,rfl⟩
  have hw:IntKind.u64.wrap seed=(s:Int):=by rw[IntKind.wrap_u64,← hs]; omega
  have hs2:s<18446744073709551616:=by omega
  have hK:aR seed n=(ig s ((n.toNat+31) / 32)).take n.toNat:=by unfold aR; rw[hs]
  rw[hK];simp only[BQ,ah,af,aa,seval,iteOmega,toNatUp];refine bd (td seed n s) (fun k=>(n.toNat+31) / 32-k) (fun k=>k≤(n.toNat+31) / 32) 0 (VY _) ?_ ?_
  ·refine aB (fun _=>56) ?_ ?_ rfl rfl <;> simp only[wx,aA,aK,aa,seval,iteOmega,toNatUp] <;> rfl
  ·intro k hk;have hl:=qt s k;by_cases hlt:k<(n.toNat+31) / 32
   ·have hc:((ig s k).length:Int)<n:=by omega
    have hj:=kD G [aQ s 8,aQ k 4] (by simp) (by simp[ch]);have hf:[aQ s 8,aQ k 4].flatten=aQ s 8++aQ k 4:=by simp
    rw[hf] at hj;have hb:=z9 s k;have hk2:IntKind.u64.wrap (k:Int)=(k:Int):=u64_in _ (by omega) (by omega);simp only[qo,td,wx,wy,aa,seval,iteOmega,toNatUp,hw,hk2];refine bh (pj G s 8 (by decide)) rfl (.inl rfl) ?_;simp only[wx,wy,aa,seval,iteOmega,toNatUp,hw,hk2];refine bh (pj G k 4 (by decide)) rfl (.inl rfl) ?_;simp only[wx,wy,aa,seval,iteOmega,toNatUp];refine bh hj rfl (.inl rfl) ?_;simp only[wx,wy,aa,seval,iteOmega,toNatUp];refine bh (pB G (aQ s 8++aQ k 4) (by simp[ch])) rfl (.inl rfl) ?_;have hh:(cu (aQ s 8++aQ k 4)).length=32:=fZ _;have hb':ig s k++cu (aQ s 8++aQ k 4)=ig s (k+1):=hb;simp only[af,aa,seval,iteOmega,toNatUp,bK,jI,hb',hh];refine aX (k+1) (by omega) (by omega) (aB (fun _=>192) ?_ ?_ rfl rfl) <;> simp only[wx,aA,aK,aa,seval,iteOmega,toNatUp]
   ·obtain rfl:k=(n.toNat+31) / 32:=by omega
    have hc:¬ ((ig s ((n.toNat+31) / 32)).length:Int)<n:=by omega
    by_cases h0:n<0
    ·have e0:n.toNat=0:=by omega
     simp only[qo,td,af,aa,seval,iteOmega,toNatUp,hc,Xi,List.foldl_nil];rw[e0,List.map_take];exact Dy (id:=1) (s:=1) (by simp only[wx,aa,seval,iteOmega,toNatUp]) (by simp only[wx,aa,seval,iteOmega,toNatUp]) (VY _)
    ·simp only[qo,td,af,aa,seval,iteOmega,toNatUp,hc,Xi,List.foldl_nil];rw[List.map_take];exact Dy (id:=1) (s:=1) (by simp only[wx,aa,seval,iteOmega,toNatUp]) (by simp only[wx,aa,seval,iteOmega,toNatUp]) (by rw[VZ,qt]; omega)
theorem o6 (G:ai) (seed n:Int) (hn:n≤1099511627776):au Tryz.prog G 35 [.int .i64 seed,.int .i64 n] (.w (.c (.d (.sl ((aR seed n).map bD))))):=lF (O8 G seed n hn)
def mc (key:List UInt8):List UInt8:=if 64<key.length then cu key else key
def eC (k:List UInt8):List UInt8:=k++List.replicate (64-k.length) 0
def iY (key:List UInt8):List UInt8:=eC (mc key)
def bS (key:List UInt8) (x:UInt8):List UInt8:=(iY key).map fun b=>ar b x
def gG (key b:List UInt8):List UInt8:=cu (bS key 92++cu (bS key 54++b))
def dT (key info:List UInt8):Nat→List UInt8
  | 0=>[]
  | i+1=>gG key (dT key info i++info++[UInt8.ofNat (i+1)])
def gg (key info:List UInt8):Nat→List UInt8
  | 0=>[]
  | i+1=>gg key info i++dT key info (i+1)
def gI (key info:List UInt8) (n:Nat):List UInt8:=(gg key info ((n+31) / 32)).take n
def kh (p n c:List UInt8):List UInt8:=p++[0]++n++[0]++cu c
theorem O9 (key:List UInt8):(mc key).length≤64:=by
  unfold mc; split
  ·rw[fZ]; decide
  ·omega
theorem jD {k:List UInt8} (h:k.length≤64):(eC k).length=64:=by
  simp[eC]; omega
theorem Ep (key:List UInt8):(iY key).length=64:=jD (O9 key)
theorem ky (key:List UInt8) (x:UInt8):(bS key x).length=64:=by
  rw[bS,VZ,Ep]
theorem mL (key b:List UInt8):(gG key b).length=32:=fZ _
theorem BR (key info:List UInt8):∀ i,(dT key info i).length≤32
  | 0=>by simp[dT]
  | i+1=>by rw[dT,mL]; exact V0 _
theorem mM (key info:List UInt8):∀ i,(gg key info i).length=32*i
  | 0=>rfl
  | i+1=>by rw[gg,VR,mM key info i,dT,mL]; omega
theorem vX (key info:List UInt8) (n:Nat):(gI key info n).length=n:=by
  rw[gI,VW,mM]; omega
theorem Pb (p n c:List UInt8):(kh p n c).length=p.length+n.length+34:=by
  simp[kh,fZ]; omega
theorem Eq {k:List UInt8} (l:List D) (hl:l=List.replicate 64 (D.int .u8 0)):k.map bD++l.drop k.length=(eC k).map bD:=by
  subst hl;unfold eC;rw[List.drop_replicate,Wu,yk]
theorem Er {k:List UInt8} (hk:k.length≤64) (l:List D) (hl:l=List.replicate 64 (D.int .u8 0)):k.length+(l.drop k.length).length=64:=by
  subst hl;rw[List.drop_replicate,Wi]; omega
def vY:aF:=⟨1,13,.seq (.reg [oO 2 (.allocArr [(.int .u8 0),(.int .u8 0),(.int .u8 0),(.int .u8 0),(.int .u8 0),(.int .u8 0),(.int .u8 0),(.int .u8 0),(.int .u8 0),(.int .u8 0),(.int .u8 0),(.int .u8 0),(.int .u8 0),(.int .u8 0),(.int .u8 0),(.int .u8 0),(.int .u8 0),(.int .u8 0),(.int .u8 0),(.int .u8 0),(.int .u8 0),(.int .u8 0),(.int .u8 0),(.int .u8 0),(.int .u8 0),(.int .u8 0),(.int .u8 0),(.int .u8 0),(.int .u8 0),(.int .u8 0),(.int .u8 0),(.int .u8 0),(.int .u8 0),(.int .u8 0),(.int .u8 0),(.int .u8 0),(.int .u8 0),(.int .u8 0),(.int .u8 0),(.int .u8 0),(.int .u8 0),(.int .u8 0),(.int .u8 0),(.int .u8 0),(.int .u8 0),(.int .u8 0),(.int .u8 0),(.int .u8 0),(.int .u8 0),(.int .u8 0),(.int .u8 0),(.int .u8 0),(.int .u8 0),(.int .u8 0),(.int .u8 0),(.int .u8 0),(.int .u8 0),(.int .u8 0),(.int .u8 0),(.int .u8 0),(.int .u8 0),(.int .u8 0),(.int .u8 0),(.int .u8 0)])])
 (.seq (.seq (.reg [oM 4 0,oO 5 (.len (.t 4)),oO 6 (.bin .gtr (.t 5) (kI 64))]) (.cond (.t 6) (.reg [oM 7 0,oO 8 (.call 141 [(.t 7)] none),oM 0 8]) (.skip))) (.seq (.reg [oO 3 (.allocArr [(.int .u8 0),(.int .u8 0),(.int .u8 0),(.int .u8 0),(.int .u8 0),(.int .u8 0),(.int .u8 0),(.int .u8 0),(.int .u8 0),(.int .u8 0),(.int .u8 0),(.int .u8 0),(.int .u8 0),(.int .u8 0),(.int .u8 0),(.int .u8 0),(.int .u8 0),(.int .u8 0),(.int .u8 0),(.int .u8 0),(.int .u8 0),(.int .u8 0),(.int .u8 0),(.int .u8 0),(.int .u8 0),(.int .u8 0),(.int .u8 0),(.int .u8 0),(.int .u8 0),(.int .u8 0),(.int .u8 0),(.int .u8 0),(.int .u8 0),(.int .u8 0),(.int .u8 0),(.int .u8 0),(.int .u8 0),(.int .u8 0),(.int .u8 0),(.int .u8 0),(.int .u8 0),(.int .u8 0),(.int .u8 0),(.int .u8 0),(.int .u8 0),(.int .u8 0),(.int .u8 0),(.int .u8 0),(.int .u8 0),(.int .u8 0),(.int .u8 0),(.int .u8 0),(.int .u8 0),(.int .u8 0),(.int .u8 0),(.int .u8 0),(.int .u8 0),(.int .u8 0),(.int .u8 0),(.int .u8 0),(.int .u8 0),(.int .u8 0),(.int .u8 0),(.int .u8 0)])])
 (.seq (.reg [oO 9 (.sliceArr 1 64 (.t 3) none none),oM 10 0,oO 11 (.copy 1 (.t 9) (.t 10))]) (.seq (.reg [oO 12 (.load (.ag 64) (.t 3)),oN (.store (.ag 64) (.t 2) (.t 12))]) (.ret))))),[(2,(some (.ag 64)))]⟩
theorem Pf:aE Tryz.prog { own:=[],comp:=[],frz:=[],nils:=[] } Tryz.f140=some vY:=by kernel_rfl
theorem Q1 (G:ai) (hF:G.at 0=some (.ra (cX.map wD))) (hG:G.at 1=some (.ra (bB.map wD))) (key:List UInt8) (hb:key.length≤140737488355328):au Tryz.prog G 140 [.sl (key.map bD)] (.w (.c (.d (.agg ((iY key).map bD))))):=by
  refine aG Tryz.func140 Pf rfl rfl ?_;by_cases h:64<key.length
  ·have e:iY key=eC (cu key):=by unfold iY mc; rw[if_pos h]
   have hl:=fZ key;rw[e];simp only[vY,ah,af,aa,seval,iteOmega,toNatUp];refine sD (tc G hF hG key hb) ?_;generalize cu key=s at *
   have z:=Eq (k:=s);have z2:=Er (k:=s) (by omega);have ht:s.take 64=s:=VV (by omega);have hf:(eC s).length=64:=jD (by omega);simp only[af,aa,seval,iteOmega,toNatUp,ht,z,z2,hf];exact lG (by simp only[af,aa,seval,iteOmega,toNatUp,hf])
  ·have e:iY key=eC key:=by unfold iY mc; rw[if_neg h]
   rw[e];have z:=Eq (k:=key);have z2:=Er (k:=key) (by omega);have ht:key.take 64=key:=VV (by omega);have hf:(eC key).length=64:=jD (by omega);simp only[vY,ah,af,aa,seval,iteOmega,toNatUp,ht,z,z2,hf];exact lG (by simp only[af,aa,seval,iteOmega,toNatUp,hf])
def gP (l:List UInt8) (m:UInt8) (i:Nat):List UInt8:=(l.take i).map (fun b=>ar b m)++l.drop i
theorem Np (l:List UInt8) (m:UInt8) (i:Nat):(gP l m i).length=l.length:=by
  unfold gP; rw[VR,VZ,← VR,Wy]
theorem Nq (l:List UInt8) (m:UInt8) (i:Nat) (h:i<l.length):(gP l m i)[i]?=some l[i]:=by
  unfold gP;rw[Ws (by rw[VZ,VW]; omega),WI,VZ,VW];rw[show i+(i-min i l.length)=i by omega,VQ h]
theorem L5 (l:List UInt8) (m:UInt8) (i:Nat) (h:i<l.length):(gP l m i).set i (ar l[i] m)=gP l m (i+1):=by
  unfold gP;rw[XJ _ _ (by rw[VZ,VW]; omega),VZ,VW,show i-min i l.length=0 by omega,List.drop_eq_getElem_cons h,List.set_cons_zero,WX h,Wu,Wp];rfl
theorem L6 (l:List UInt8) (m:UInt8):gP l m 0=l:=by simp[gP]
theorem L8 (l:List UInt8) (m:UInt8) (i:Nat) (h:l.length≤i):gP l m i=l.map fun b=>ar b m:=by
  unfold gP;rw[VV h,WT h,Wc]
def xK (l:List UInt8) (m:UInt8) (i:Nat):St:=⟨aV [(1,.w (.c (.d (bD m)))),(2,.w (.c (.pa 1 1))),(6,.w (.c (.d (.int .i64 (i:Int)))))],hL [(1,.row 1 ((gP l m i).map bD))],uL [1]⟩
def ux:aN := .seq (.reg [oO 7 (.bin .lss (.t 6) (kI 64))]) (.seq (.cond (.t 7) (.skip) (.exit 0)) (.seq (.block 1 (.seq (.reg [oM 8 6,oM 5 8]) (.reg [oM 9 5,oO 10 (.idxPa 1 64 (.t 2) (.t 9)),oO 11 (.load .sc (.t 10)),oM 12 1,oO 13 (.bin .xor (.t 11) (.t 12)),oO 14 (.idxPa 1 64 (.t 2) (.t 9)),oN (.store .sc (.t 14) (.t 13))]))) (.reg [oO 15 (.bin .add (.t 6) (kI 1)),oM 6 15])))
def BS:aF:=⟨2,17,.seq (.reg [oO 2 (.box .ownArr (.t 0)),oO 4 (.mv (.k (.c .nil)))]) (.seq (.seq (.reg [oO 6 (.mv (kI 0))]) (.block 0 (.loop ux))) (.seq (.reg [oO 16 (.sliceArr 1 64 (.t 2) none none),oM 4 16]) (.ret))),[(4,none)]⟩
theorem Nr:aE Tryz.prog { own:=[2],comp:=[],frz:=[],nils:=[] } Tryz.f142=some BS:=by kernel_rfl
theorem Es (G:ai) (l:List UInt8) (hl:l.length=64) (m:UInt8):au Tryz.prog G 142 [.agg (l.map bD),bD m] (.w (.c (.fr 1 ((l.map fun b=>ar b m).map bD)))):=by
  refine aG Tryz.func142 Nr rfl rfl ?_;simp only[BS,ah,af,aa,seval,iteOmega,toNatUp];refine bd (xK l m) (fun i=>64-i) (fun i=>i≤64) 0 (VY _) ?_ ?_
  ·refine aB (fun _=>16) ?_ ?_ rfl rfl <;> simp only[wx,aA,aK,aa,seval,iteOmega,toNatUp,L6]
  ·intro i hi;have hm:=Np l m i;by_cases hlt:i<64
   ·have h1:=Nq l m i (by omega);have h2:=L5 l m i (by omega);have h3:i<(gP l m i).length:=by omega
    simp only[ux,xK,af,aa,seval,iteOmega,toNatUp,aM,h1,gu,fL h3 (fg _),gw,h2];refine aX (i+1) (by omega) (by omega) (aB (fun _=>1) ?_ ?_ rfl rfl) <;> simp only[wx,aA,aK,aa,seval,iteOmega,toNatUp]
   ·obtain rfl:i=64:=by omega
    have h1:=L8 l m 64 (by omega);simp only[ux,xK,af,aa,seval,iteOmega,toNatUp,h1,hl];exact eK (id:=1) (n:=64) (s:=1) (by simp only[wx,aa,seval,iteOmega,toNatUp]) (by simp only[wx,aa,seval,iteOmega,toNatUp]) (by simp[hl])
def I0:aF:=⟨2,21,.seq (.reg [oO 4 (.mv (.k (.c .nil)))]) (.seq (.reg [oM 7 0,oO 8 (.call 140 [(.t 7)] none),oO 5 (.allocArr [(.int .u8 0),(.int .u8 0),(.int .u8 0),(.int .u8 0),(.int .u8 0),(.int .u8 0),(.int .u8 0),(.int .u8 0),(.int .u8 0),(.int .u8 0),(.int .u8 0),(.int .u8 0),(.int .u8 0),(.int .u8 0),(.int .u8 0),(.int .u8 0),(.int .u8 0),(.int .u8 0),(.int .u8 0),(.int .u8 0),(.int .u8 0),(.int .u8 0),(.int .u8 0),(.int .u8 0),(.int .u8 0),(.int .u8 0),(.int .u8 0),(.int .u8 0),(.int .u8 0),(.int .u8 0),(.int .u8 0),(.int .u8 0),(.int .u8 0),(.int .u8 0),(.int .u8 0),(.int .u8 0),(.int .u8 0),(.int .u8 0),(.int .u8 0),(.int .u8 0),(.int .u8 0),(.int .u8 0),(.int .u8 0),(.int .u8 0),(.int .u8 0),(.int .u8 0),(.int .u8 0),(.int .u8 0),(.int .u8 0),(.int .u8 0),(.int .u8 0),(.int .u8 0),(.int .u8 0),(.int .u8 0),(.int .u8 0),(.int .u8 0),(.int .u8 0),(.int .u8 0),(.int .u8 0),(.int .u8 0),(.int .u8 0),(.int .u8 0),(.int .u8 0),(.int .u8 0)]),
 oN (.store (.ag 64) (.t 5) (.t 8))]) (.seq (.reg [oO 9 (.load (.ag 64) (.t 5)),oO 10 (.call 142 [(.t 9),(.k (.c (.d (.int .u8 54))))] none),oM 11 1,oO 12 (.bldSl false 2 1 (.sl []) [(0,(.t 10)),(1,(.t 11))]),oO 13 (.call 90 [(.t 12)] none),oO 14 (.call 141 [(.t 13)] none),oM 6 14]) (.seq (.reg [oO 15 (.load (.ag 64) (.t 5)),oO 16 (.call 142 [(.t 15),(.k (.c (.d (.int .u8 92))))] none),oM 17 6,oO 18 (.bldSl false 2 1 (.sl []) [(0,(.t 16)),(1,(.t 17))]),oO 19 (.call 90 [(.t 18)] none),oO 20 (.call 141 [(.t 19)] (some (0,1))),oM 4 20]) (.ret)))),[(4,none)]⟩
theorem Tn:aE Tryz.prog { own:=[20],comp:=[],frz:=[],nils:=[] } Tryz.f126=some I0:=by kernel_rfl
theorem UZ (G:ai) (hF:G.at 0=some (.ra (cX.map wD))) (hG:G.at 1=some (.ra (bB.map wD))) (key b:List UInt8) (hk:key.length≤140737488355328) (hb:b.length≤70368744177664):au Tryz.prog G 126 [.sl (key.map bD),.sl (b.map bD)] (.w (.c (.fr 1 ((gG key b).map bD)))):=by
  refine aG Tryz.func126 Tn rfl rfl ?_;have h1:=fC G [bS key 54,b] (by simp) (by simp[ky]; omega);have h2:=fC G [bS key 92,cu (bS key 54++b)] (by simp) (by simp[ky,fZ]);have f1:[bS key 54,b].flatten=bS key 54++b:=by simp
  have f2:[bS key 92,cu (bS key 54++b)].flatten=bS key 92++cu (bS key 54++b):=by simp
  rw[f1] at h1;rw[f2] at h2;have hl:=Ep key;have hm1:(bS key 54++b).length≤140737488355328:=by rw[VR,ky]; omega
  have hm2:(bS key 92++cu (bS key 54++b)).length≤140737488355328:=by rw[VR,ky,fZ]; decide
  have hs:=fZ (bS key 92++cu (bS key 54++b));have hmac:gG key b=cu (bS key 92++cu (bS key 54++b)):=rfl;rw[hmac];simp only[I0,ah,af,aa,seval,iteOmega,toNatUp];refine sD (Q1 G hF hG key hk) ?_;refine sD (Es G (iY key) hl 54) ?_;refine sD (h1) ?_;refine sD (tc G hF hG _ hm1) ?_;refine sD (Es G (iY key) hl 92) ?_;refine sD (h2) ?_;refine sD (tc G hF hG _ hm2) ?_;exact eT
def gi (k:List UInt8) (x:UInt8) (i:Nat):List UInt8:=((eC k).take i).map (fun b=>ar b x)++List.replicate (64-i) 0
theorem Pg {k:List UInt8} (hk:k.length≤64) (x:UInt8) (i:Nat) (hi:i≤64):(gi k x i).length=64:=by
  unfold gi;rw[VR,VZ,VW,jD hk,Wi]; omega
theorem Ph {k:List UInt8} (hk:k.length≤64) (x:UInt8) (i:Nat) (hi:i<64):(gi k x i)[i]?=some 0:=by
  unfold gi;rw[Ws (by rw[VZ,VW]; omega),VZ,VW,jD hk,List.getElem?_replicate,if_pos (by omega)]
theorem BU {k:List UInt8} (hk:k.length≤64) (x a:UInt8) (i:Nat) (hi:i<64) (ha:(eC k)[i]?=some a):(gi k x i).set i (ar a x)=gi k x (i+1):=by
  have h:=o0 (((eC k).take i).map (fun b=>ar b x)) 0 (ar a x) (64-i) (by omega);have hl:(((eC k).take i).map (fun b=>ar b x)).length=i:=by rw[VZ,VW,jD hk]; omega
  rw[hl] at h;unfold gi;rw[h,XC,ha,Wu];rfl
theorem Q2 (k:List UInt8) (i:Nat) (h:i<k.length):(eC k)[i]?=some k[i]:=by
  unfold eC;rw[WE h,VQ h]
theorem Q3 (k:List UInt8) (i:Nat) (h:k.length≤i) (h2:i<64):(eC k)[i]?=some 0:=by
  unfold eC;rw[Ws h,List.getElem?_replicate,if_pos (by omega)]
theorem BV (k:List UInt8) (x:UInt8):gi k x 0=List.replicate 64 0:=by simp[gi]
theorem Ns {k:List UInt8} (hk:k.length≤64) (x:UInt8):gi k x 64=(eC k).map fun b=>ar b x:=by
  unfold gi;rw[VV (by rw[jD hk]; exact V0 _),XU,Xh,Wc]
def pR (k:List UInt8) (x:UInt8) (i:Nat):St:=⟨aV [(0,.w (.c (.d (.sl (k.map bD))))),(1,.w (.c (.d (bD x)))),(5,.w (.c (.own 1 1 0 64))),(6,.w (.c (.d (.int .i64 (i:Int)))))],hL [(1,.row 1 ((gi k x i).map bD))],uL [1]⟩
def oF:aN := .seq (.seq (.reg [oM 13 6,oO 14 (.bin .lss (.t 13) (kI 64))]) (.cond (.t 14) (.skip) (.exit 0))) (.seq (.block 1 (.seq (.seq (.reg [oM 17 6,oM 18 0,oO 19 (.len (.t 18)),oO 20 (.bin .lss (.t 17) (.t 19))]) (.cond (.t 20) (.reg [oM 21 5,oM 22 6,oM 23 0,oM 24 6,oO 25 (.idxSl 1 (.t 23) (.t 24)),oO 26 (.load .sc (.t 25)),oO 27 (.idxSl 1 (.t 21) (.t 22)),oN (.store .sc (.t 27) (.t 26))]) (.skip))) (.reg [oM 28 5,oM 29 6,oM 30 5,oM 31 6,oO 32 (.idxSl 1 (.t 30) (.t 31)),oO 33 (.load .sc (.t 32)),oM 34 1,oO 35 (.bin .xor (.t 33) (.t 34)),oO 36 (.idxSl 1 (.t 28) (.t 29)),oN (.store .sc (.t 36) (.t 35))]))) (.reg [oM 15 6,oO 16 (.bin .add (.t 15) (kI 1)),oM 6 16]))
def vZ:aF:=⟨2,38,.seq (.reg [oO 4 (.mv (.k (.c .nil)))]) (.seq (.seq (.reg [oM 7 0,oO 8 (.len (.t 7)),oO 9 (.bin .gtr (.t 8) (kI 64))]) (.cond (.t 9) (.reg [oM 10 0,oO 11 (.call 84 [(.t 10)] none),oM 0 11]) (.skip))) (.seq (.reg [oO 12 (.make true 1 1 (.int .u8 0) (kI 64) (kI 64)),oM 5 12]) (.seq (.seq (.reg [oO 6 (.mv (kI 0))]) (.block 0 (.loop oF))) (.seq (.reg [oM 37 5,oM 4 37]) (.ret))))),[(4,none)]⟩
theorem Pi:aE Tryz.prog { own:=[],comp:=[],frz:=[],nils:=[] } Tryz.f143=some vZ:=by kernel_rfl
theorem Gx (G:ai) (k:List UInt8) (hk:k.length≤64) (x:UInt8) (Q:AX→St→Prop) (σ:St) (he:dK σ (pR k x 0)) (hq:∀ f,f 5=.w (.c (.own 1 1 0 64))→Q (.ex 0) ⟨f,hL [(1,.row 1 (((eC k).map fun b=>ar b x).map bD))],uL [1]⟩):bz Tryz.prog G (.loop oF) Q σ:=by
  refine bd (pR k x) (fun i=>64-i) (fun i=>i≤64) 0 (VY _) he ?_;intro i hi;have hl:=Pg hk x i hi;by_cases hlt:i<64
  ·have h1:=Ph hk x i hlt;have h3:i<(gi k x i).length:=by omega
   by_cases hkl:i<k.length
   ·have h2:=BU hk x k[i] i hlt (Q2 k i hkl);have e2:k[i]?=some k[i]:=VQ hkl;have h4:((gi k x i).set i k[i])[i]?=some k[i]:=by rw[List.getElem?_set_self h3]
    have h5:i<((gi k x i).set i k[i]).length:=by rw[Xc]; exact h3
    simp only[oF,pR,af,aa,seval,iteOmega,toNatUp,aM,h1,e2,fL h3 (fg _),gw,h4,fL h5 (fg _),List.set_set,h2];refine aX (i+1) (by omega) (by omega) (aB (fun _=>1) ?_ ?_ rfl rfl) <;> simp only[wx,aA,aK,aa,seval,iteOmega,toNatUp]
   ·have h2:=BU hk x 0 i hlt (Q3 k i (by omega) hlt);simp only[oF,pR,af,aa,seval,iteOmega,toNatUp,aM,h1,fL h3 (fg _),gw,h2];refine aX (i+1) (by omega) (by omega) (aB (fun _=>1) ?_ ?_ rfl rfl) <;> simp only[wx,aA,aK,aa,seval,iteOmega,toNatUp]
  ·obtain rfl:i=64:=by omega
   simp only[oF,pR,af,aa,seval,iteOmega,toNatUp,Ns hk x];exact hq _ (by simp only[af,aa,seval,iteOmega,toNatUp])
theorem Gy (G:ai) (key:List UInt8) (hb:key.length≤140737488355328) (x:UInt8):au Tryz.prog G 143 [.sl (key.map bD),bD x] (.w (.c (.fr 1 ((bS key x).map bD)))):=by
  refine aG Tryz.func143 Pi rfl rfl ?_;by_cases h:64<key.length
  ·have e:bS key x=(eC (cu key)).map fun b=>ar b x:=by unfold bS iY mc; rw[if_pos h]
   have hl:=fZ key;rw[e];simp only[vZ,ah,af,aa,seval,iteOmega,toNatUp];refine sD (pB G key hb) ?_;generalize cu key=s at *
   refine Gx G s (by omega) x _ _ (aB (fun _=>96) ?_ ?_ rfl rfl) fun f hf=>?_
   ·simp only[wx,aA,aK,aa,seval,iteOmega,toNatUp]
   ·simp only[wx,aA,aK,aa,seval,iteOmega,toNatUp,BV];rfl
   ·simp only[af,aa,seval,iteOmega,toNatUp,hf];exact eK (id:=1) (n:=64) (s:=1) (by simp only[wx,aa,seval,iteOmega,toNatUp,hf]) (by simp only[wx,aa,seval,iteOmega,toNatUp]) (by rw[VZ,VZ,jD (by omega)])
  ·have e:bS key x=(eC key).map fun b=>ar b x:=by unfold bS iY mc; rw[if_neg h]
   rw[e];simp only[vZ,ah,af,aa,seval,iteOmega,toNatUp];refine Gx G key (by omega) x _ _ (aB (fun _=>96) ?_ ?_ rfl rfl) fun f hf=>?_
   ·simp only[wx,aA,aK,aa,seval,iteOmega,toNatUp]
   ·simp only[wx,aA,aK,aa,seval,iteOmega,toNatUp,BV];rfl
   ·simp only[af,aa,seval,iteOmega,toNatUp,hf];exact eK (id:=1) (n:=64) (s:=1) (by simp only[wx,aa,seval,iteOmega,toNatUp,hf]) (by simp only[wx,aa,seval,iteOmega,toNatUp]) (by rw[VZ,VZ,jD (by omega)])
def Gz:aF:=⟨2,16,.seq (.reg [oO 4 (.mv (.k (.c .nil)))]) (.seq (.reg [oM 5 0,oO 6 (.call 143 [(.t 5),(.k (.c (.d (.int .u8 92))))] none),oM 7 0,oO 8 (.call 143 [(.t 7),(.k (.c (.d (.int .u8 54))))] none),oM 9 1,oO 10 (.bldSl false 2 1 (.sl []) [(0,(.t 8)),(1,(.t 9))]),oO 11 (.call 43 [(.t 10)] none),oO 12 (.call 84 [(.t 11)] none),oO 13 (.bldSl false 2 1 (.sl []) [(0,(.t 6)),(1,(.t 12))]),oO 14 (.call 43 [(.t 13)] none),oO 15 (.call 84 [(.t 14)] (some (0,1))),oM 4 15]) (.ret)),[(4,none)]⟩
theorem Q4:aE Tryz.prog { own:=[15],comp:=[],frz:=[],nils:=[] } Tryz.f127=some Gz:=by kernel_rfl
theorem I1 (G:ai) (key b:List UInt8) (hk:key.length≤140737488355328) (hb:b.length≤70368744177664):au Tryz.prog G 127 [.sl (key.map bD),.sl (b.map bD)] (.w (.c (.fr 1 ((gG key b).map bD)))):=by
  refine aG Tryz.func127 Q4 rfl rfl ?_;have h1:=kD G [bS key 54,b] (by simp) (by simp[ky]; omega);have h2:=kD G [bS key 92,cu (bS key 54++b)] (by simp) (by simp[ky,fZ]);have f1:[bS key 54,b].flatten=bS key 54++b:=by simp
  have f2:[bS key 92,cu (bS key 54++b)].flatten=bS key 92++cu (bS key 54++b):=by simp
  rw[f1] at h1;rw[f2] at h2;have hm1:(bS key 54++b).length≤140737488355328:=by rw[VR,ky]; omega
  have hm2:(bS key 92++cu (bS key 54++b)).length≤140737488355328:=by rw[VR,ky,fZ]; decide
  have hs:=fZ (bS key 92++cu (bS key 54++b));have hmac:gG key b=cu (bS key 92++cu (bS key 54++b)):=rfl;rw[hmac];simp only[Gz,ah,af,aa,seval,iteOmega,toNatUp];refine sD (Gy G key hk 92) ?_;refine sD (Gy G key hk 54) ?_;refine sD (h1) ?_;refine sD (pB G _ hm1) ?_;refine sD (h2) ?_;refine sD (pB G _ hm2) ?_;exact eT
def GA:aF:=⟨2,8,.seq (.reg [oO 4 (.mv (.k (.c .nil)))]) (.seq (.reg [oM 5 0,oM 6 1,oO 7 (.call 127 [(.t 5),(.t 6)] (some (0,1))),oM 4 7]) (.ret)),[(4,none)]⟩
theorem Q5:aE Tryz.prog { own:=[7],comp:=[],frz:=[],nils:=[] } Tryz.f100=some GA:=by kernel_rfl
theorem To (G:ai) (key b:List UInt8) (hk:key.length≤140737488355328) (hb:b.length≤70368744177664):au Tryz.prog G 100 [.sl (key.map bD),.sl (b.map bD)] (.w (.c (.fr 1 ((gG key b).map bD)))):=by
  refine aG Tryz.func100 Q5 rfl rfl ?_;simp only[GA,ah,af,aa,seval,iteOmega,toNatUp];refine sD (I1 G key b hk hb) ?_;exact eT
def lf (n:Int):Int:=if 0≤n∧n≤8160 then 0 else 4
def iv (key info:List UInt8) (n:Int):List UInt8:=if 0≤n∧n≤8160 then gI key info n.toNat else []
theorem lC {n:Int} (h:0≤n∧n≤8160):lf n=0:=if_pos h
theorem kF (key info:List UInt8) {n:Int} (h:0≤n∧n≤8160):iv key info n=gI key info n.toNat:=if_pos h
theorem re {n:Int} (h:¬ (0≤n∧n≤8160)):lf n=4:=if_neg h
theorem rh (key info:List UInt8) {n:Int} (h:¬ (0≤n∧n≤8160)):iv key info n=[]:=if_neg h
def gj (key info:List UInt8) (n i:Nat):List UInt8:=(gg key info i).take n
theorem Et (key info:List UInt8) (n i:Nat):(gj key info n i).length=min n (32*i):=by
  unfold gj; rw[VW,mM]
theorem Nt (key info:List UInt8) (n i:Nat) (h:32*i≤n):gj key info n i++(dT key info (i+1)).take (n-32*i)=gj key info n (i+1):=by
  unfold gj;rw[gg,List.take_append,mM]
theorem BW (key info:List UInt8) (i:Nat):gG key (dT key info i++info++[UInt8.ofNat (i+1)])=dT key info (i+1):=rfl
theorem VF (v:Nat):aQ v 1=[UInt8.ofNat v]:=by simp[aQ]
def ik (key info:List UInt8):Nat→V
  | 0=>.w (.c .nil)
  | i+1=>.w (.c (.d (.sl ((dT key info (i+1)).map bD))))
theorem Q6 (a b:Nat):List.foldl (fun x y:Int=>if y<x then y else x) (a:Int) [(b:Int)]=((min a b:Nat):Int):=by
  simp only[Xi,List.foldl_nil];split <;> omega
def te (key info:List UInt8) (n i:Nat):St:=⟨aV [(0,.w (.c (.d (.sl (key.map bD))))),(1,.w (.c (.d (.sl (info.map bD))))),(2,.w (.c (.d (.int .i64 (n:Int))))),(8,.w (.c (.own 1 1 0 (gj key info n i).length))),(9,ik key info i),(10,.w (.c (.d (.int .u64 ((i+1:Nat):Int)))))],hL [(1,.row 1 ((gj key info n i).map bD))],uL [1]⟩
def rj:aN := .seq (.seq (.reg [oM 19 8,oO 20 (.len (.t 19)),oM 21 2,oO 22 (.bin .lss (.t 20) (.t 21))]) (.cond (.t 22) (.skip) (.exit 0))) (.seq (.block 1 (.seq (.reg [oM 25 0,oM 26 9,oM 27 1,oM 28 10,oO 29 (.call 91 [(.t 28),(kI 1)] none),oO 30 (.bldSl false 3 1 (.sl []) [(0,(.t 26)),(1,(.t 27)),(2,(.t 29))]),oO 31 (.call 90 [(.t 30)] none),oO 32 (.call 126 [(.t 25),(.t 31)] none),oM 9 32]) (.reg [oM 33 8,oM 34 9,oM 35 9,oO 36 (.len (.t 35)),oM 37 2,oM 38 8,oO 39 (.len (.t 38)),oO 40 (.bin .sub (.t 37) (.t 39)),oO 41 (.min [(.t 36),(.t 40)]),oO 42 (.slice 1 (.t 34) none (some (.t 41)) none),oO 43 (.app false 1 1 (.t 33) (.t 42)),oM 8 43]))) (.reg [oM 23 10,oO 24 (.bin .add (.t 23) (.k (.c (.d (.int .u64 1))))),oM 10 24]))
def si:aF:=⟨3,45,.seq (.reg [oO 6 (.mv (.k (.c .nil))),oO 7 (.mv (kI 0))]) (.seq (.seq (.reg [oM 11 2,oO 12 (.bin .lss (.t 11) (kI 0)),oM 13 12,oG 14 (.mv (.t 2)) 13 false,oG 15 (.bin .gtr (.t 14) (kI 8160)) 13 false,oO 16 (.pick (.t 13) (.k (.c (.d (.bool true)))) (.t 15))]) (.cond (.t 16) (.seq (.reg [oO 6 (.mv (.k (.c .nil))),oO 7 (.mv (kI 4))]) (.ret)) (.skip))) (.seq (.reg [oM 17 2,oO 18 (.make true 1 1 (.int .u8 0) (kI 0) (.t 17)),oM 8 18]) (.seq (.reg [oO 9 (.mv (.k (.c .nil)))]) (.seq (.seq (.reg [oO 10 (.mv (.k (.c (.d (.int .u64 1)))))]) (.block 0 (.loop rj))) (.seq (.reg [oM 44 8,oM 6 44,oO 7 (.mv (kI 0))]) (.ret)))))),[(6,none),(7,none)]⟩
theorem Tp:aE Tryz.prog { own:=[],comp:=[],frz:=[],nils:=[] } Tryz.f128=some si:=by kernel_rfl
theorem yH (G:ai) (hF:G.at 0=some (.ra (cX.map wD))) (hG:G.at 1=some (.ra (bB.map wD))) (key info:List UInt8) (hk:key.length≤140737488355328) (hb:info.length≤35184372088832) (n:Int) (hn1:-9223372036854775808≤n) (hn2:n≤9223372036854775807):au Tryz.prog G 128 [.sl (key.map bD),.sl (info.map bD),.int .i64 n] (.tup [.c (.d (.sl ((iv key info n).map bD))),.c (.d (.int .i64 (lf n)))]):=by
  refine aG Tryz.func128 Tp rfl rfl ?_;by_cases h0:n<0
  ·have hc:¬ (0≤n∧n≤8160):=by omega
   rw[re hc,rh key info hc];simp only[si,ah,af,aa,seval,iteOmega,toNatUp];exact aW
  ·by_cases h1:8160<n
   ·have hc:¬ (0≤n∧n≤8160):=by omega
    rw[re hc,rh key info hc];simp only[si,ah,af,aa,seval,iteOmega,toNatUp];exact aW
   ·have hc:0≤n∧n≤8160:=by omega
    rw[lC hc,kF key info hc];obtain⟨m,rfl⟩:=W4 hc.1;rw[XL];simp only[si,ah,af,aa,seval,iteOmega,toNatUp];refine bd (te key info m) (fun i=>(m+31) / 32-i) (fun i=>i≤(m+31) / 32) 0 (VY _) ?_ ?_
    ·refine aB (fun _=>144) ?_ ?_ rfl rfl <;> simp only[wx,aA,aK,aa,seval,iteOmega,toNatUp,gj,gg,ik]
    ·intro i hi;have hl:=Et key info m i;have hp:=BR key info i;by_cases hlt:i<(m+31) / 32
     ·have h32:32*i≤m:=by omega
      have hl:(gj key info m i).length=32*i:=by omega
      have hj:=fC G [dT key info i,info,aQ (i+1) 1] (by simp) (by simp[ch]; omega);have hf:[dT key info i,info,aQ (i+1) 1].flatten=dT key info i++info++[UInt8.ofNat (i+1)]:=by simp[VF]
      rw[hf] at hj;have hm:=UZ G hF hG key (dT key info i++info++[UInt8.ofNat (i+1)]) hk (by simp; omega);rw[BW] at hm;have hl2:(dT key info (i+1)).length=32:=mL _ _;have hs:=Nt key info m i h32;have hs2:=Et key info m (i+1);have hmin:=Q6 32 (m-32*i);rw[show ((m-32*i:Nat):Int)=(m:Int)-32*(i:Int) by omega] at hmin;have hs':gj key info m i++(dT key info (i+1)).take (min 32 (m-32*i))=gj key info m (i+1):=by
        rw[← hs]; congr 1
        rw[Nat.min_comm,← List.take_take,VV (l:=dT key info (i+1)) (by omega)]
      have hlt2:((gj key info m i).length:Int)<(m:Int):=by omega
      have hmm:min 32 (m-32*i)≤32:=by omega
      have hml:((dT key info (i+1)).take (min 32 (m-32*i))).length=min 32 (m-32*i):=by rw[VW,hl2]; omega
      have hcl:(gj key info m (i+1)).length=32*i+min 32 (m-32*i):=by omega
      generalize hq:min 32 (m-32*i)=q at *
      rcases i with _ | i
      ·simp only[Xn,Xz,XI,Xm,Int.mul_zero,Int.sub_zero,Nat.mul_zero,WJ] at hmin hl hl2 hs' hml hcl;simp only[rj,te,ik,af,aa,seval,iteOmega,toNatUp];refine sD (kK G (0+1) 1 (by decide)) ?_;refine sD (hj) ?_;refine sD (hm) ?_;simp only[af,aa,seval,iteOmega,toNatUp,hl2,hl,hmin,hml,hs',bK,Int.sub_zero];refine aX (0+1) (by omega) (by omega) (aB (fun _=>344) ?_ ?_ rfl rfl) <;> simp only[wx,aA,aK,aa,seval,iteOmega,toNatUp,ik,hcl]
      ·simp only[Xn,Xz,XI,Xm] at hmin;simp only[rj,te,ik,af,aa,seval,iteOmega,toNatUp];refine sD (kK G (i+1+1) 1 (by decide)) ?_;refine sD (hj) ?_;refine sD (hm) ?_;simp only[af,aa,seval,iteOmega,toNatUp,hl2,hl,hmin,hml,hs',bK];refine aX (i+1+1) (by omega) (by omega) (aB (fun _=>344) ?_ ?_ rfl rfl) <;> simp only[wx,aA,aK,aa,seval,iteOmega,toNatUp,ik,hcl]
     ·obtain rfl:i=(m+31) / 32:=by omega
      have hlt2:¬ ((gj key info m ((m+31) / 32)).length:Int)<(m:Int):=by omega
      have he:gj key info m ((m+31) / 32)=gI key info m:=rfl;rw[he] at hlt2;simp only[rj,te,af,aa,seval,iteOmega,toNatUp,he];exact aW
def sn (key info:List UInt8) (n i:Nat):St:=⟨aV [(0,.w (.c (.d (.sl (key.map bD))))),(1,.w (.c (.d (.sl (info.map bD))))),(2,.w (.c (.d (.int .i64 (n:Int))))),(8,.w (.c (.own 1 1 0 (gg key info i).length))),(9,ik key info i),(10,.w (.c (.d (.int .i64 ((i+1:Nat):Int)))))],hL [(1,.row 1 ((gg key info i).map bD))],uL [1]⟩
def qH:aN := .seq (.seq (.reg [oM 19 8,oO 20 (.len (.t 19)),oM 21 2,oO 22 (.bin .lss (.t 20) (.t 21))]) (.cond (.t 22) (.skip) (.exit 0))) (.seq (.block 1 (.seq (.reg [oM 25 0,oM 26 9,oM 27 1,oM 28 10,oO 29 (.conv .u8 (.t 28)),oO 30 (.bldSl false 1 1 (.int .u8 0) [(0,(.t 29))]),oO 31 (.bldSl false 3 1 (.sl []) [(0,(.t 26)),(1,(.t 27)),(2,(.t 30))]),oO 32 (.call 43 [(.t 31)] none),oO 33 (.call 127 [(.t 25),(.t 32)] none),oM 9 33]) (.reg [oM 34 8,oM 35 9,oO 36 (.app false 1 1 (.t 34) (.t 35)),oM 8 36]))) (.reg [oM 23 10,oO 24 (.bin .add (.t 23) (kI 1)),oM 10 24]))
def rI:aF:=⟨3,40,.seq (.reg [oO 6 (.mv (.k (.c .nil))),oO 7 (.mv (kI 0))]) (.seq (.seq (.reg [oM 11 2,oO 12 (.bin .lss (.t 11) (kI 0)),oM 13 12,oG 14 (.mv (.t 2)) 13 false,oG 15 (.bin .gtr (.t 14) (kI 8160)) 13 false,oO 16 (.pick (.t 13) (.k (.c (.d (.bool true)))) (.t 15))]) (.cond (.t 16) (.seq (.reg [oO 6 (.mv (.k (.c .nil))),oO 7 (.mv (kI 4))]) (.ret)) (.skip))) (.seq (.reg [oO 17 (.bldSl true 0 1 (.int .u8 0) []),oO 18 (.bldSl false 0 1 (.int .u8 0) []),oM 8 17,oM 9 18]) (.seq (.seq (.reg [oO 10 (.mv (kI 1))]) (.block 0 (.loop qH))) (.seq (.reg [oM 37 8,oM 38 2,oO 39 (.slice 1 (.t 37) none (some (.t 38)) none),oM 6 39,oO 7 (.mv (kI 0))]) (.ret))))),[(6,none),(7,none)]⟩
theorem Q7:aE Tryz.prog { own:=[17],comp:=[],frz:=[],nils:=[] } Tryz.f101=some rI:=by kernel_rfl
theorem Tq (G:ai) (key info:List UInt8) (hk:key.length≤140737488355328) (hb:info.length≤35184372088832) (n:Int) (hn1:-9223372036854775808≤n) (hn2:n≤9223372036854775807):au Tryz.prog G 101 [.sl (key.map bD),.sl (info.map bD),.int .i64 n] (.tup [.c (.fr 1 ((iv key info n).map bD)),.c (.d (.int .i64 (lf n)))]):=by
  refine aG Tryz.func101 Q7 rfl rfl ?_;by_cases h0:n<0
  ·have hc:¬ (0≤n∧n≤8160):=by omega
   rw[re hc,rh key info hc];simp only[rI,ah,af,aa,seval,iteOmega,toNatUp];exact du
  ·by_cases h1:8160<n
   ·have hc:¬ (0≤n∧n≤8160):=by omega
    rw[re hc,rh key info hc];simp only[rI,ah,af,aa,seval,iteOmega,toNatUp];exact du
   ·have hc:0≤n∧n≤8160:=by omega
    rw[lC hc,kF key info hc];obtain⟨m,rfl⟩:=W4 hc.1;rw[XL];simp only[rI,ah,af,aa,seval,iteOmega,toNatUp];refine bd (sn key info m) (fun i=>(m+31) / 32-i) (fun i=>i≤(m+31) / 32) 0 (VY _) ?_ ?_
    ·refine aB (fun _=>136) ?_ ?_ rfl rfl <;> simp only[wx,aA,aK,aa,seval,iteOmega,toNatUp,gg,ik]
    ·intro i hi;have hl:=mM key info i;have hp:=BR key info i;by_cases hlt:i<(m+31) / 32
     ·have hj:=kD G [dT key info i,info,[UInt8.ofNat (i+1)]] (by simp) (by simp; omega);have hf:[dT key info i,info,[UInt8.ofNat (i+1)]].flatten=dT key info i++info++[UInt8.ofNat (i+1)]:=by simp
      rw[hf] at hj;have hm:=I1 G key (dT key info i++info++[UInt8.ofNat (i+1)]) hk (by simp; omega);rw[BW] at hm;have hl2:(dT key info (i+1)).length=32:=mL _ _;have hs':gg key info i++dT key info (i+1)=gg key info (i+1):=rfl;have hcl:(gg key info (i+1)).length=32*i+32:=by rw[mM]; omega
      rcases i with _ | i
      ·simp only[Xn,Xz,XI,Xm,Int.mul_zero,Int.sub_zero,Nat.mul_zero,WJ] at hl hl2 hs' hcl;simp only[qH,sn,ik,af,aa,seval,iteOmega,toNatUp];refine sD (hj) ?_;refine sD (hm) ?_;simp only[af,aa,seval,iteOmega,toNatUp,hl2,hl,hs',bK,Int.sub_zero];refine aX (0+1) (by omega) (by omega) (aB (fun _=>288) ?_ ?_ rfl rfl) <;> simp only[wx,aA,aK,aa,seval,iteOmega,toNatUp,ik,hcl]
      ·have hby:D.int .u8 ((i:Int)+1+1)=bD (UInt8.ofNat (i+1+1)):=by rw[← byte_of,IntWalk.u8_in _ (by omega)]; rfl
       simp only[qH,sn,ik,af,aa,seval,iteOmega,toNatUp,hby];refine sD (hj) ?_;refine sD (hm) ?_;simp only[af,aa,seval,iteOmega,toNatUp,hl2,hl,hs',bK];refine aX (i+1+1) (by omega) (by omega) (aB (fun _=>288) ?_ ?_ rfl rfl) <;> simp only[wx,aA,aK,aa,seval,iteOmega,toNatUp,ik,hcl]
     ·obtain rfl:i=(m+31) / 32:=by omega
      have he:(gg key info ((m+31) / 32)).take m=gI key info m:=rfl;have hle:m≤(gg key info ((m+31) / 32)).length:=by omega
      simp only[qH,sn,af,aa,seval,iteOmega,toNatUp];rw[← he,List.map_take];exact L9 (id:=1) (s:=1) (by simp only[af,aa,seval,iteOmega,toNatUp]) (by simp only[af,aa,seval,iteOmega,toNatUp]) (by rw[VZ]; exact hle) (by simp only[af,aa,seval,iteOmega,toNatUp])
theorem sq (G:ai) (key info:List UInt8) (hk:key.length≤140737488355328) (hb:info.length≤35184372088832) (n:Int) (hn1:-9223372036854775808≤n) (hn2:n≤9223372036854775807):au Tryz.prog G 101 [.sl (key.map bD),.sl (info.map bD),.int .i64 n] (.tup [.c (.d (.sl ((iv key info n).map bD))),.c (.d (.int .i64 (lf n)))]):=pf (Tq G key info hk hb n hn1 hn2)
def I2:aF:=⟨3,19,.seq (.reg [oO 6 (.mv (.k (.c .nil)))]) (.seq (.reg [oO 8 (.bldSl false 1 1 (.int .u8 0) [(0,(.k (.c (.d (.int .u8 0)))))]),oM 7 8]) (.seq (.reg [oM 9 0,oO 10 (.s2b false (.t 9)),oM 11 7,oM 12 1,oO 13 (.s2b false (.t 12)),oM 14 7,oM 15 2,oO 16 (.call 141 [(.t 15)] none),oO 17 (.bldSl false 5 1 (.sl []) [(0,(.t 10)),(1,(.t 11)),(2,(.t 13)),(3,(.t 14)),(4,(.t 16))]),oO 18 (.call 90 [(.t 17)] (some (0,1))),oM 6 18]) (.ret))),[(6,none)]⟩
theorem Tr:aE Tryz.prog { own:=[18],comp:=[],frz:=[],nils:=[] } Tryz.f130=some I2:=by kernel_rfl
theorem U0 (G:ai) (hF:G.at 0=some (.ra (cX.map wD))) (hG:G.at 1=some (.ra (bB.map wD))) (p n:ByteArray) (c:List UInt8) (hp:p.size≤1099511627776) (hn:n.size≤1099511627776) (hc:c.length≤140737488355328):au Tryz.prog G 130 [.str p,.str n,.sl (c.map bD)] (.w (.c (.fr 1 ((kh p.data.toList n.data.toList c).map bD)))):=by
  refine aG Tryz.func130 Tr rfl rfl ?_;have hp':p.data.toList.length=p.size:=rfl;have hn':n.data.toList.length=n.size:=rfl;have hj:=fC G [p.data.toList,[0],n.data.toList,[0],cu c] (by simp) (by simp[fZ]; omega);have hf:[p.data.toList,[0],n.data.toList,[0],cu c].flatten=kh p.data.toList n.data.toList c:=by simp[kh]
  rw[hf] at hj;have hpm:p.size≤maxLen:=by unfold maxLen; omega
  have hnm:n.size≤maxLen:=by unfold maxLen; omega
  simp only[I2,ah,af,aa,seval,iteOmega,toNatUp,hpm,hnm];refine sD (tc G hF hG c hc) ?_;refine sD (hj) ?_;exact eT
theorem ng (G:ai) (v:Nat) (k:Int) (hk:0≤k∧k≤64):au Tryz.prog G 91 [.int .u64 (v:Int),.int .i64 k] (.w (.c (.fr 1 ((aQ v k.toNat).map bD)))):=by
  have c:=UJ G v k;rw[show nT v k=aQ v k.toNat from if_pos hk] at c;exact c
theorem GC (G:ai) (v:Nat) (k:Int) (hk:0≤k∧k≤64):au Tryz.prog G 44 [.int .u64 (v:Int),.int .i64 k] (.w (.c (.fr 1 ((aQ v k.toNat).map bD)))):=by
  have c:=Sk G v k;rw[show nT v k=aQ v k.toNat from if_pos hk] at c;exact c
def xM (l:List UInt8) (i:Nat):St:=⟨aV [(0,.w (.c (.d (.sl (l.map bD))))),(3,.w (.c (.d (.int .u64 (aY (l.take i)))))),(4,.w (.c (.d (.int .i64 (i:Int)))))],hL [],uL []⟩
def vl:aN := .seq (.seq (.reg [oM 5 4,oM 6 0,oO 7 (.len (.t 6)),oO 8 (.bin .lss (.t 5) (.t 7))]) (.cond (.t 8) (.skip) (.exit 0))) (.seq (.block 1 (.reg [oM 11 3,oO 12 (.bin .shl (.t 11) (.k (.c (.d (.int .u64 8))))),oM 13 0,oM 14 4,oO 15 (.idxSl 1 (.t 13) (.t 14)),oO 16 (.load .sc (.t 15)),oO 17 (.conv .u64 (.t 16)),oO 18 (.bin .or (.t 12) (.t 17)),oM 3 18])) (.reg [oM 9 4,oO 10 (.bin .add (.t 9) (kI 1)),oM 4 10]))
def GG:aF:=⟨1,20,.seq (.reg [oO 2 (.mv (.k (.c (.d (.int .u64 0)))))]) (.seq (.reg [oO 3 (.mv (.k (.c (.d (.int .u64 0)))))]) (.seq (.seq (.reg [oO 4 (.mv (kI 0))]) (.block 0 (.loop vl))) (.seq (.reg [oM 19 3,oM 2 19]) (.ret)))),[(2,none)]⟩
theorem Rh:aE Tryz.prog { own:=[],comp:=[],frz:=[],nils:=[] } Tryz.f49=some GG:=by kernel_rfl
set_option maxHeartbeats 400000 in
theorem I4 (G:ai) (l:List UInt8) (hl:l.length≤9223372036854775807):au Tryz.prog G 49 [.sl (l.map bD)] (.w (.c (.d (.int .u64 (aY l))))):=by
  refine aG Tryz.func49 Rh rfl rfl ?_;simp only[GG,ah,af,aa,seval,iteOmega,toNatUp];refine bd (xM l) (fun i=>l.length-i) (fun i=>i≤l.length) 0 (VY _) ?_ ?_
  ·refine aB (fun i=>i) ?_ ?_ rfl rfl <;> simp only[wx,aA,aK,aa,seval,iteOmega,toNatUp] <;> rfl
  ·intro i hi;by_cases hlt:i<l.length
   ·have hb:=l[i].toNat_lt;have e2:l[i]?=some l[i]:=VQ hlt;have e3:IntKind.u64.wrap (l[i].toNat:Int)=(l[i].toNat:Int):=u64_in _ (by omega) (by omega);have e4:IntKind.i64.wrap ((i:Int)+1)=((i+1:Nat):Int):=by rw[IntWalk.i64_in _ (by omega)]; rfl
    have e5:=BC l i hlt;simp only[vl,xM,wx,aa,seval,iteOmega,toNatUp,aM,e2,IntKind.bits,e3,e4];refine aX (i+1) (by omega) (by omega) (aB id ?_ ?_ rfl rfl) <;> simp only[wx,aA,aa,seval,iteOmega,toNatUp,← e5]
   ·have:l.take i=l:=VV (by omega);simp only[vl,xM,wx,aa,seval,iteOmega,toNatUp,this];exact jj (by simp only[wx,aa,seval,iteOmega,toNatUp])

def GI:aF:=⟨1,5,.seq (.reg [oO 2 (.mv (.k (.c .nil)))]) (.seq (.reg [oM 3 0,oO 4 (.call 35 [(.t 3),(kI 32)] none),oM 2 4]) (.ret)),[(2,none)]⟩
theorem Rk:aE Tryz.prog { own:=[],comp:=[],frz:=[],nils:=[] } Tryz.f59=some GI:=by kernel_rfl
theorem I8 (G:ai) (seed:Int):au Tryz.prog G 59 [.int .i64 seed] (.w (.c (.d (.sl ((aR seed 32).map bD))))):=by
  refine aG Tryz.func59 Rk rfl rfl ?_;simp only[GI,ah,af,aa,seval,iteOmega,toNatUp];refine sD (o6 G seed 32 (by decide)) ?_;exact aJ
end Go.Proofs.YtlghfnidknfakaaGreatDoor
