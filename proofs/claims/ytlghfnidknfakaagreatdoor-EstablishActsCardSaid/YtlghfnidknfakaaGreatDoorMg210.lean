/- Texts of one's own, merged: from: Layer 1 on data: Put,Get,Same,Join,Hex: what they return. Own work. -/
import Derived.Test.YtlghfnidknfakaaGreatDoorProg
import Derived.Test.YtlghfnidknfakaaGreatDoorMg27
set_option linter.unusedVariables false
set_option linter.unusedSimpArgs false
namespace Go.Proofs.YtlghfnidknfakaaGreatDoor
open Go.RowKit IntWalk
set_option maxHeartbeats 400000
theorem dH {l:List UInt8} {i:Nat} {x:D} (hi:i<l.length) (hx:x.one=true):kT .sc (.c (.d x)) i 0 (.row 1 (l.map bD))=some (.row 1 ((l.map bD).set i x)):=by
  simp[kT,aC,aa7 hi,bD,gX,hx]
theorem vV {l:List UInt32} {i:Nat} {x:D} (hi:i<l.length) (hx:x.one=true):kT .sc (.c (.d x)) i 0 (.row 1 (l.map wD))=some (.row 1 ((l.map wD).set i x)):=by
  simp[kT,aC,aa7 hi,wD,gX,hx]
theorem eV (l:List UInt8) (i:Nat) (x:UInt8):(l.map bD).set i (bD x)=(l.set i x).map bD:=nX bD l i x
theorem vW (l:List UInt32) (i:Nat) (x:UInt32):(l.map wD).set i (wD x)=(l.set i x).map wD:=nX wD l i x
theorem Cn (n:Nat):List.replicate n (D.int .u8 0)=(List.replicate n (0:UInt8)).map bD:=by simp[bD]
def aV (v n:Nat):List UInt8:=(List.range n).map fun i=>UInt8.ofNat (v / 256^(n-1-i))
def js (v n m:Nat):List UInt8:=List.replicate m 0++(aV v n).drop m
def qv (v:Nat) (n:Int):List UInt8:=if 0≤n∧n≤64 then aV v n.toNat else []
theorem bU (v n:Nat):(aV v n).length=n:=by simp[aV]
theorem yf (v n m:Nat) (h:m≤n):(js v n m).length=n:=by simp[js,bU]; omega
theorem FP (v n:Nat):js v n 0=aV v n:=by simp[js]
theorem FQ (v n:Nat):js v n n=List.replicate n 0:=by simp[js,bU]
theorem FR (v n i:Nat) (h:i+1≤n):js v n i=(js v n (i+1)).set i (UInt8.ofNat (v / 256^(n-(i+1)))):=by
  apply acf;intro j;rw[acU];have hl:i<(aV v n).length:=by rw[bU]; omega
  by_cases hj:i=j
  ·subst hj;rw[if_pos rfl,if_pos (by rw[yf _ _ _ h]; omega)];simp only[js,List.getElem?_append,abC,Nat.lt_irrefl,if_false,ac5,abN,ab8];rw[aa7 hl];simp[aV,Nat.sub_sub,Nat.add_comm 1 i]
  ·rw[if_neg hj];simp only[js,List.getElem?_append,abC,acX,abN];by_cases h1:j<i
   ·rw[if_pos h1,if_pos h1,if_pos (by omega),if_pos (by omega)]
   ·rw[if_neg h1,if_neg (by omega)]
    congr 1; omega
theorem byte_of (v:Nat):D.int .u8 (IntKind.u8.wrap (v:Int))=bD (UInt8.ofNat v):=by
  rw[IntKind.wrap_u8];simp[bD]
def qb (v n m:Nat):St:=⟨aQ [(0,.w (.c (.d (.int .u64 ((v / 256^(n-m):Nat):Int))))),(5,.w (.c (.own 1 1 0 n))),(6,.w (.c (.d (.int .i64 ((m:Int)-1)))))],hL [(1,.row 1 ((js v n m).map bD))],uL [1]⟩
def zE:aN := .seq (.seq (.reg [oM 17 6,oO 18 (.bin .geq (.t 17) (kI 0))]) (.cond (.t 18) (.skip) (.exit 0))) (.seq (.block 1 (.seq (.reg [oM 21 5,oM 22 6,oM 23 0,oO 24 (.conv .u8 (.t 23)),oO 25 (.idxSl 1 (.t 21) (.t 22)),oN (.store .sc (.t 25) (.t 24))]) (.reg [oM 26 0,oO 27 (.bin .shr (.t 26) (.k (.c (.d (.int .u64 8))))),oM 0 27]))) (.reg [oM 19 6,oO 20 (.bin .sub (.t 19) (kI 1)),oM 6 20]))
def vX:aH:=⟨2,29,.seq (.reg [oO 4 (.mv (.k (.c .nil)))]) (.seq (.seq (.reg [oM 7 1,oO 8 (.bin .lss (.t 7) (kI 0)),oM 9 8,oG 10 (.mv (.t 1)) 9 false,oG 11 (.bin .gtr (.t 10) (kI 64)) 9 false,oO 12 (.pick (.t 9) (.k (.c (.d (.bool true)))) (.t 11))]) (.cond (.t 12) (.seq (.reg [oO 4 (.mv (.k (.c .nil)))]) (.ret)) (.skip))) (.seq (.reg [oM 13 1,oO 14 (.make true 1 1 (.int .u8 0) (.t 13) (.t 13)),oM 5 14]) (.seq (.seq (.reg [oM 15 1,oO 16 (.bin .sub (.t 15) (kI 1)),oM 6 16]) (.block 0 (.loop zE))) (.seq (.reg [oM 28 5,oM 4 28]) (.ret))))),[(4,none)]⟩
theorem MW:aG Tryz.prog { own:=[],comp:=[],frz:=[],nils:=[] } Tryz.f91=some vX:=by kernel_rfl
theorem na (G:ah) (v n:Nat) (hn:n≤64):aw Tryz.prog G 91 [.int .u64 v,.int .i64 n] (.w (.c (.fr 1 ((aV v n).map bD)))):=by
  refine aI Tryz.func91 MW rfl rfl ?_;have e1:IntKind.i64.wrap ((n:Int)-1)=(n:Int)-1:=IntWalk.i64_in _ (by omega);simp only[vX,af,wx,aa,seval,iteOmega,toNatUp,e1];refine aU (qb v n) (fun m=>m) (fun m=>m≤n) n (abl _) ?_ ?_
  ·refine aj (fun _=>112) ?_ ?_ rfl rfl <;> simp only[wx,ai,aa,seval,iteOmega,toNatUp,FQ,Cn,ac5,Nat.pow_zero,Nat.div_one]
  ·intro m hm;rcases acg m with rfl | hpos
   ·simp only[zE,qb,wx,aa,seval,iteOmega,toNatUp,FP];refine dE (id:=1) (n:=n) (s:=1) ?_ ?_ ?_ <;> simp only[wx,aa,seval,iteOmega,toNatUp,bU]
   ·obtain⟨i,rfl⟩:∃ i,m=i+1:=⟨m-1,by omega⟩
    have e2:((i+1:Nat):Int)-1=(i:Int):=by omega
    have hlt:i<(js v n (i+1)).length:=by rw[yf _ _ _ hm]; omega
    have e3:IntKind.i64.wrap ((i:Int)-1)=(i:Int)-1:=IntWalk.i64_in _ (by omega);simp only[zE,qb,wx,aa,seval,iteOmega,toNatUp,e2,e3,ab5,ab8,byte_of,dH hlt (du _),eV,← FR _ _ _ hm,IntKind.bits];refine aM i (by omega) (by omega) (aj id ?_ ?_ rfl rfl) <;> simp only[wx,ai,aa,seval,iteOmega,toNatUp];have e4:v / 256^(n-(i+1)) / 256=v / 256^(n-i):=by
      rw[show n-i=n-(i+1)+1 by omega,Nat.pow_succ,← Nat.div_div_eq_div_mul]
    simpa using congrArg (Nat.cast:Nat→Int) e4
theorem Z4 (G:ah) (v:Nat) (n:Int):aw Tryz.prog G 91 [.int .u64 v,.int .i64 n] (.w (.c (.fr 1 ((qv v n).map bD)))):=by
  unfold qv;by_cases h:0≤n∧n≤64
  ·rw[if_pos h];obtain⟨n,rfl⟩:=ab7 h.1;exact na G v n (by omega)
  ·rw[if_neg h];refine aI Tryz.func91 MW rfl rfl ?_;by_cases h0:n<0
   ·simp only[vX,af,wx,aa,seval,iteOmega,toNatUp];exact rM (by simp[wx,aa,seval,iteOmega,toNatUp])
   ·have h1:64<n:=by omega
    simp only[vX,af,wx,aa,seval,iteOmega,toNatUp];exact rM (by simp[wx,aa,seval,iteOmega,toNatUp])
def yK:aN := .seq (.seq (.reg [oM 17 6,oO 18 (.bin .geq (.t 17) (kI 0))]) (.cond (.t 18) (.skip) (.exit 0))) (.seq (.block 1 (.seq (.reg [oM 21 5,oM 22 6,oM 23 0,oO 24 (.conv .u8 (.t 23)),oO 25 (.idxSl 1 (.t 21) (.t 22)),oN (.store .sc (.t 25) (.t 24))]) (.reg [oM 26 0,oO 27 (.bin .shr (.t 26) (.k (.c (.d (.int .u64 8))))),oM 0 27]))) (.reg [oM 19 6,oO 20 (.bin .sub (.t 19) (kI 1)),oM 6 20]))
def vp:aH:=⟨2,29,.seq (.reg [oO 4 (.mv (.k (.c .nil)))]) (.seq (.seq (.reg [oM 7 1,oO 8 (.bin .lss (.t 7) (kI 0)),oM 9 8,oG 10 (.mv (.t 1)) 9 false,oG 11 (.bin .gtr (.t 10) (kI 64)) 9 false,oO 12 (.pick (.t 9) (.k (.c (.d (.bool true)))) (.t 11))]) (.cond (.t 12) (.seq (.reg [oO 4 (.mv (.k (.c .nil)))]) (.ret)) (.skip))) (.seq (.reg [oM 13 1,oO 14 (.make true 1 1 (.int .u8 0) (.t 13) (.t 13)),oM 5 14]) (.seq (.seq (.reg [oM 15 1,oO 16 (.bin .sub (.t 15) (kI 1)),oM 6 16]) (.block 0 (.loop yK))) (.seq (.reg [oM 28 5,oM 4 28]) (.ret))))),[(4,none)]⟩
theorem Km:aG Tryz.prog { own:=[],comp:=[],frz:=[],nils:=[] } Tryz.f44=some vp:=by kernel_rfl
theorem rO (G:ah) (v n:Nat) (hn:n≤64):aw Tryz.prog G 44 [.int .u64 v,.int .i64 n] (.w (.c (.fr 1 ((aV v n).map bD)))):=by
  refine aI Tryz.func44 Km rfl rfl ?_;have e1:IntKind.i64.wrap ((n:Int)-1)=(n:Int)-1:=IntWalk.i64_in _ (by omega);simp only[vp,af,wx,aa,seval,iteOmega,toNatUp,e1];refine aU (qb v n) (fun m=>m) (fun m=>m≤n) n (abl _) ?_ ?_
  ·refine aj (fun _=>112) ?_ ?_ rfl rfl <;> simp only[wx,ai,aa,seval,iteOmega,toNatUp,FQ,Cn,ac5,Nat.pow_zero,Nat.div_one]
  ·intro m hm;rcases acg m with rfl | hpos
   ·simp only[yK,qb,wx,aa,seval,iteOmega,toNatUp,FP];refine dE (id:=1) (n:=n) (s:=1) ?_ ?_ ?_ <;> simp only[wx,aa,seval,iteOmega,toNatUp,bU]
   ·obtain⟨i,rfl⟩:∃ i,m=i+1:=⟨m-1,by omega⟩
    have e2:((i+1:Nat):Int)-1=(i:Int):=by omega
    have hlt:i<(js v n (i+1)).length:=by rw[yf _ _ _ hm]; omega
    have e3:IntKind.i64.wrap ((i:Int)-1)=(i:Int)-1:=IntWalk.i64_in _ (by omega);simp only[yK,qb,wx,aa,seval,iteOmega,toNatUp,e2,e3,ab5,ab8,byte_of,dH hlt (du _),eV,← FR _ _ _ hm,IntKind.bits];refine aM i (by omega) (by omega) (aj id ?_ ?_ rfl rfl) <;> simp only[wx,ai,aa,seval,iteOmega,toNatUp];have e4:v / 256^(n-(i+1)) / 256=v / 256^(n-i):=by
      rw[show n-i=n-(i+1)+1 by omega,Nat.pow_succ,← Nat.div_div_eq_div_mul]
    simpa using congrArg (Nat.cast:Nat→Int) e4
theorem Xn (G:ah) (v:Nat) (n:Int):aw Tryz.prog G 44 [.int .u64 v,.int .i64 n] (.w (.c (.fr 1 ((qv v n).map bD)))):=by
  unfold qv;by_cases h:0≤n∧n≤64
  ·rw[if_pos h];obtain⟨n,rfl⟩:=ab7 h.1;exact rO G v n (by omega)
  ·rw[if_neg h];refine aI Tryz.func44 Km rfl rfl ?_;by_cases h0:n<0
   ·simp only[vp,af,wx,aa,seval,iteOmega,toNatUp];exact rM (by simp[wx,aa,seval,iteOmega,toNatUp])
   ·have h1:64<n:=by omega
    simp only[vp,af,wx,aa,seval,iteOmega,toNatUp];exact rM (by simp[wx,aa,seval,iteOmega,toNatUp])
theorem toList_mk (l:List UInt8):(⟨l.toArray⟩:ByteArray).toList=l:=Go.ByteArray.toList_mk l
theorem FS (l m:List UInt8):fA .eql ⟨l.toArray⟩ ⟨m.toArray⟩=some (.bool (l==m)):=by
  simp only[fA,toList_mk]
def H8:aH:=⟨2,10,.seq (.reg [oO 4 (.mv (.k (.c (.d (.bool false)))))]) (.seq (.reg [oM 5 0,oO 6 (.b2s (.t 5)),oM 7 1,oO 8 (.b2s (.t 7)),oO 9 (.bin .eql (.t 6) (.t 8)),oM 4 9]) (.ret)),[(4,none)]⟩
theorem To:aG Tryz.prog { own:=[],comp:=[],frz:=[],nils:=[] } Tryz.f20=some H8:=by kernel_rfl
theorem nY (G:ah) (l m:List UInt8):aw Tryz.prog G 20 [.sl (l.map bD),.sl (m.map bD)] (.w (.c (.d (.bool (l==m))))):=by
  refine aI Tryz.func20 To rfl rfl ?_;simp only[H8,af,wx,aa,seval,iteOmega,toNatUp,pj,FS];exact lu (by simp only[wx,aa,seval,iteOmega,toNatUp])
theorem rA (ls:List (List UInt8)):dT 1 (ls.map fun l=>D.sl (l.map bD))=true:=o9 _ (fun _=>rfl) ls
def Ay (ls:List (List UInt8)) (i:Nat):St:=⟨aQ [(0,.w (.c (.d (.sl (ls.map fun l=>D.sl (l.map bD)))))),(3,.w (.c (.own 1 1 0 ((ls.take i).flatten).length))),(4,.w (.c (.d (.int .i64 (i:Int)))))],hL [(1,.row 1 (((ls.take i).flatten).map bD))],uL [1]⟩
theorem tW {α:Type} (ls:List (List α)) (i:Nat) (h:i<ls.length):(ls.take (i+1)).flatten=(ls.take i).flatten++ls[i]:=by
  rw[acm h,List.flatten_append]; simp
theorem Az {α:Type} (ls:List (List α)) (i:Nat) (h:i<ls.length):(ls.take i).flatten.length+ls[i].length≤ls.flatten.length:=by
  have h1:=tW ls i h;have h2:ls.flatten=(ls.take (i+1)).flatten++(ls.drop (i+1)).flatten:=by rw[← List.flatten_append,abP]
  have h3:=congrArg List.length h2;rw[aba,h1,aba] at h3;omega
def yy:aN := .seq (.seq (.reg [oM 6 4,oM 7 0,oO 8 (.len (.t 7)),oO 9 (.bin .lss (.t 6) (.t 8))]) (.cond (.t 9) (.skip) (.exit 0))) (.seq (.block 1 (.reg [oM 12 3,oM 13 0,oM 14 4,oO 15 (.idxSl 1 (.t 13) (.t 14)),oO 16 (.load .sc (.t 15)),oO 17 (.app false 1 1 (.t 12) (.t 16)),oM 3 17])) (.reg [oM 10 4,oO 11 (.bin .add (.t 10) (kI 1)),oM 4 11]))
def H9:aH:=⟨1,19,.seq (.reg [oO 2 (.mv (.k (.c .nil)))]) (.seq (.reg [oO 5 (.bldSl true 0 1 (.int .u8 0) []),oM 3 5]) (.seq (.seq (.reg [oO 4 (.mv (kI 0))]) (.block 0 (.loop yy))) (.seq (.reg [oM 18 3,oM 2 18]) (.ret)))),[(2,none)]⟩
theorem Tp:aG Tryz.prog { own:=[5],comp:=[],frz:=[],nils:=[] } Tryz.f43=some H9:=by kernel_rfl
theorem fQ (G:ah) (ls:List (List UInt8)) (hl:ls.length≤9223372036854775807) (hf:ls.flatten.length≤140737488355328):aw Tryz.prog G 43 [.sl (ls.map fun l=>D.sl (l.map bD))] (.w (.c (.fr 1 (ls.flatten.map bD)))):=by
  refine aI Tryz.func43 Tp rfl rfl ?_;simp only[H9,af,wx,aa,seval,iteOmega,toNatUp];refine aU (Ay ls) (fun i=>ls.length-i) (fun i=>i≤ls.length) 0 (abc _) ?_ ?_
  ·refine aj (fun _=>40) ?_ ?_ rfl rfl <;> simp only[wx,ai,aa,seval,iteOmega,toNatUp]
  ·intro i hi;by_cases hlt:i<ls.length
   ·have e2:ls[i]?=some ls[i]:=aa7 hlt;have e4:IntKind.i64.wrap ((i:Int)+1)=((i+1:Nat):Int):=by rw[IntWalk.i64_in _ (by omega)]; rfl
    have h5:=Az ls i hlt;simp only[yy,Ay,wx,aa,seval,iteOmega,toNatUp,aC,e2,e4,acL,a7];refine aM (i+1) (by omega) (by omega) (aj (fun _=>136) ?_ ?_ rfl rfl) <;> simp only[wx,ai,aa,seval,iteOmega,toNatUp,tW ls i hlt]
   ·have:ls.take i=ls:=aa9 (by omega);simp only[yy,Ay,wx,aa,seval,iteOmega,toNatUp,this];refine dE (id:=1) (n:=ls.flatten.length) (s:=1) ?_ ?_ ?_ <;> simp only[wx,aa,seval,iteOmega,toNatUp]
def AA (ls:List (List UInt8)) (i:Nat):St:=⟨aQ [(0,.w (.c (.d (.sl (ls.map fun l=>D.sl (l.map bD)))))),(3,.w (.c (.d (.int .i64 (((ls.take i).flatten).length:Int))))),(9,.w (.c (.d (.sl (ls.map fun l=>D.sl (l.map bD)))))),(10,.w (.c (.d (.int .i64 (ls.length:Int))))),(11,.w (.c (.d (.int .i64 (i:Int)))))],hL [],uL []⟩
def AB (ls:List (List UInt8)) (i:Nat):St:=⟨aQ [(6,.w (.c (.own 1 1 0 ((ls.take i).flatten).length))),(22,.w (.c (.d (.sl (ls.map fun l=>D.sl (l.map bD)))))),(23,.w (.c (.d (.int .i64 (ls.length:Int))))),(24,.w (.c (.d (.int .i64 (i:Int)))))],hL [(1,.row 1 (((ls.take i).flatten).map bD))],uL [1]⟩
def yL:aN := .seq (.reg [oO 12 (.bin .lss (.t 11) (.t 10))]) (.seq (.cond (.t 12) (.skip) (.exit 0)) (.seq (.block 1 (.seq (.reg [oO 13 (.idxSl 1 (.t 9) (.t 11)),oO 14 (.load .sc (.t 13)),oM 5 14]) (.reg [oM 15 3,oM 16 5,oO 17 (.len (.t 16)),oO 18 (.bin .add (.t 15) (.t 17)),oM 3 18]))) (.reg [oO 19 (.bin .add (.t 11) (kI 1)),oM 11 19])))
def yM:aN := .seq (.reg [oO 25 (.bin .lss (.t 24) (.t 23))]) (.seq (.cond (.t 25) (.skip) (.exit 2)) (.seq (.block 3 (.seq (.reg [oO 26 (.idxSl 1 (.t 22) (.t 24)),oO 27 (.load .sc (.t 26)),oM 8 27]) (.reg [oM 28 6,oM 29 8,oO 30 (.app false 1 1 (.t 28) (.t 29)),oM 6 30]))) (.reg [oO 31 (.bin .add (.t 24) (kI 1)),oM 24 31])))
def Kn:aH:=⟨1,33,.seq (.reg [oO 2 (.mv (.k (.c .nil)))]) (.seq (.reg [oO 3 (.mv (kI 0))]) (.seq (.seq (.reg [oM 9 0,oO 10 (.len (.t 9)),oO 11 (.mv (kI 0))]) (.block 0 (.loop yL))) (.seq (.reg [oM 20 3,oO 21 (.make true 1 1 (.int .u8 0) (kI 0) (.t 20)),oM 6 21]) (.seq (.seq (.reg [oM 22 0,oO 23 (.len (.t 22)),oO 24 (.mv (kI 0))]) (.block 2 (.loop yM))) (.seq (.reg [oM 32 6,oM 2 32]) (.ret)))))),[(2,none)]⟩
theorem U1:aG Tryz.prog { own:=[],comp:=[],frz:=[],nils:=[] } Tryz.f90=some Kn:=by kernel_rfl
theorem gV (G:ah) (ls:List (List UInt8)) (hl:ls.length≤9223372036854775807) (hf:ls.flatten.length≤140737488355328):aw Tryz.prog G 90 [.sl (ls.map fun l=>D.sl (l.map bD))] (.w (.c (.fr 1 (ls.flatten.map bD)))):=by
  refine aI Tryz.func90 U1 rfl rfl ?_;simp only[Kn,af,wx,aa,seval,iteOmega,toNatUp];refine aU (AA ls) (fun i=>ls.length-i) (fun i=>i≤ls.length) 0 (abc _) ?_ ?_
  ·refine aj id ?_ ?_ rfl rfl <;> simp only[wx,ai,aa,seval,iteOmega,toNatUp]
  ·intro i hi;by_cases hlt:i<ls.length
   ·have e2:ls[i]?=some ls[i]:=aa7 hlt;have e4:IntKind.i64.wrap ((i:Int)+1)=((i+1:Nat):Int):=by rw[IntWalk.i64_in _ (by omega)]; rfl
    have h5:=Az ls i hlt;have e5:IntKind.i64.wrap (((ls.take i).flatten.length:Int)+(ls[i].length:Int))=(((ls.take (i+1)).flatten.length:Nat):Int):=by
      rw[tW ls i hlt,aba,IntWalk.i64_in _ (by omega)]; rfl
    simp only[yL,AA,wx,aa,seval,iteOmega,toNatUp,aC,e2,e4,e5];refine aM (i+1) (by omega) (by omega) (aj id ?_ ?_ rfl rfl) <;> simp only[wx,ai,aa,seval,iteOmega,toNatUp]
   ·have:ls.take i=ls:=aa9 (by omega);simp only[yL,AA,wx,aa,seval,iteOmega,toNatUp,this,acL];refine aU (AB ls) (fun i=>ls.length-i) (fun i=>i≤ls.length) 0 (abc _) ?_ ?_
    ·refine aj (fun _=>168) ?_ ?_ rfl rfl <;> simp only[wx,ai,aa,seval,iteOmega,toNatUp]
    ·intro i hi;by_cases hlt:i<ls.length
     ·have e2:ls[i]?=some ls[i]:=aa7 hlt;have e4:IntKind.i64.wrap ((i:Int)+1)=((i+1:Nat):Int):=by rw[IntWalk.i64_in _ (by omega)]; rfl
      have h5:=Az ls i hlt;simp only[yM,AB,wx,aa,seval,iteOmega,toNatUp,aC,e2,e4,acL,a7];refine aM (i+1) (by omega) (by omega) (aj (fun _=>240) ?_ ?_ rfl rfl) <;> simp only[wx,ai,aa,seval,iteOmega,toNatUp,tW ls i hlt]
     ·have:ls.take i=ls:=aa9 (by omega);simp only[yM,AB,wx,aa,seval,iteOmega,toNatUp,this];refine dE (id:=1) (n:=ls.flatten.length) (s:=1) ?_ ?_ ?_ <;> simp only[wx,aa,seval,iteOmega,toNatUp]
def aY (l:List UInt8):Nat:=l.foldl (fun a x=>(a*256+x.toNat)%18446744073709551616) 0
theorem Ko (l:List UInt8):aY l<18446744073709551616:=by
  unfold aY;rcases List.eq_nil_or_concat l with rfl | ⟨a,x,rfl⟩
  ·simp
  ·simp only[List.concat_eq_append,List.foldl_append,acD,List.foldl_nil]; omega
theorem u64_in (n:Int) (h₀:0≤n) (h₁:n<2^64):IntKind.u64.wrap n=n:=by rw[IntKind.wrap_u64]; omega
theorem R5 (a:List UInt8) (x:UInt8):bits .or .u64 (IntKind.u64.wrap ((aY a:Int)*256)) (x.toNat:Int)=(aY (a++[x]):Int):=by
  have hx:x.toNat<256:=x.toNat_lt
  have h1:=bits_join .u64 64 (by decide) u64_in 8 (IntKind.u64.wrap ((aY a:Int)*256)) (x.toNat:Int)
    (by rw[IntKind.wrap_u64]; omega) (by rw[IntKind.wrap_u64]; omega) (by rw[IntKind.wrap_u64]; omega) (by omega) (by omega) (by omega)
  rw[h1,IntKind.wrap_u64];simp only[aY,List.foldl_append,acD,List.foldl_nil];omega
theorem FT (l:List UInt8) (j:Nat) (h:j<l.length):bits .or .u64 (IntKind.u64.wrap ((aY (l.take j):Int)*256)) (l[j].toNat:Int)=(aY (l.take (j+1)):Int):=by
  rw[R5,acm h]
theorem Tq (a b:List UInt8):aY (a++b)=(aY a*256^b.length+aY b)%18446744073709551616:=by
  have key:∀ (n:Nat) (b:List UInt8),b.length=n→aY (a++b)=(aY a*256^n+aY b)%18446744073709551616:=by
    intro n
    induction n with
    | zero =>
      intro b hb;have:b=[]:=acb hb;subst this;have h0:aY []=0:=rfl;rw[abm,Nat.pow_zero,h0];have:=Ko a;omega
    | succ n ih =>
      intro b hb;rcases List.eq_nil_or_concat b with rfl | ⟨c,x,rfl⟩
      ·simp at hb
      ·rw[List.concat_eq_append] at hb ⊢;rw[← abq];have h1:∀ l:List UInt8,aY (l++[x])=(aY l*256+x.toNat)%18446744073709551616:=fun l=>by simp[aY]
       rw[h1,h1,ih c (by simpa using hb),Nat.pow_succ];generalize aY a=p;generalize aY c=q;generalize 256^n=r;have e:p*(r*256)=p*r*256:=by rw[Nat.mul_assoc]
       rw[e];generalize p*r=z;omega
  exact key _ b rfl
theorem R6 (l:List UInt8) (h:8<l.length):aY (l.drop (l.length-8))=aY l:=by
  have h1:=Tq (l.take (l.length-8)) (l.drop (l.length-8));rw[abP] at h1;have h2:(l.drop (l.length-8)).length=8:=by rw[abi]; omega
  rw[h2] at h1;have h3:=Ko (l.drop (l.length-8));rw[h1];have:(256:Nat)^8=18446744073709551616:=by decide
  rw[this];omega
def wN (l:List UInt8) (i:Nat):St:=⟨aQ [(3,.w (.c (.d (.int .u64 (aY (l.take i)))))),(14,.w (.c (.d (.sl (l.map bD))))),(15,.w (.c (.d (.int .i64 (l.length:Int))))),(16,.w (.c (.d (.int .i64 (i:Int)))))],hL [],uL []⟩
def uG:aN := .seq (.reg [oO 17 (.bin .lss (.t 16) (.t 15))]) (.seq (.cond (.t 17) (.skip) (.exit 0)) (.seq (.block 1 (.seq (.reg [oO 18 (.idxSl 1 (.t 14) (.t 16)),oO 19 (.load .sc (.t 18)),oM 5 19]) (.reg [oM 20 3,oO 21 (.bin .shl (.t 20) (.k (.c (.d (.int .u64 8))))),oM 22 5,oO 23 (.conv .u64 (.t 22)),oO 24 (.bin .or (.t 21) (.t 23)),oM 3 24]))) (.reg [oO 25 (.bin .add (.t 16) (kI 1)),oM 16 25])))
def Bl:aH:=⟨1,27,.seq (.reg [oO 2 (.mv (.k (.c (.d (.int .u64 0)))))]) (.seq (.seq (.reg [oM 6 0,oO 7 (.len (.t 6)),oO 8 (.bin .gtr (.t 7) (kI 8))]) (.cond (.t 8) (.reg [oM 9 0,oM 10 0,oO 11 (.len (.t 10)),oO 12 (.bin .sub (.t 11) (kI 8)),oO 13 (.slice 1 (.t 9) (some (.t 12)) none none),oM 0 13]) (.skip))) (.seq (.reg [oO 3 (.mv (.k (.c (.d (.int .u64 0)))))]) (.seq (.seq (.reg [oM 14 0,oO 15 (.len (.t 14)),oO 16 (.mv (kI 0))]) (.block 0 (.loop uG))) (.seq (.reg [oM 26 3,oM 2 26]) (.ret))))),[(2,none)]⟩
theorem Xo:aG Tryz.prog { own:=[],comp:=[],frz:=[],nils:=[] } Tryz.f48=some Bl:=by kernel_rfl
theorem OP (G:ah) (Q:AX→St→Prop) (l:List UInt8) (hl:l.length≤8) (σ:St) (he:eP σ (wN l 0)) (hq:∀ f,f 3=.w (.c (.d (.int .u64 (aY l))))→Q (.ex 0) ⟨f,hN,uN⟩):bI Tryz.prog G (.loop uG) Q σ:=by
  refine aU (wN l) (fun i=>l.length-i) (fun i=>i≤l.length) 0 (abc _) he ?_;intro i hi;by_cases hlt:i<l.length
  ·have hb:=l[i].toNat_lt;have e2:l[i]?=some l[i]:=aa7 hlt;have e3:IntKind.u64.wrap (l[i].toNat:Int)=(l[i].toNat:Int):=u64_in _ (by omega) (by omega);have e4:IntKind.i64.wrap ((i:Int)+1)=((i+1:Nat):Int):=by rw[IntWalk.i64_in _ (by omega)]; rfl
   have e5:=FT l i hlt;simp only[uG,wN,wx,aa,seval,iteOmega,toNatUp,aC,e2,IntKind.bits,e3,e4];refine aM (i+1) (by omega) (by omega) (aj id ?_ ?_ rfl rfl) <;> simp only[wx,ai,aa,seval,iteOmega,toNatUp,← e5]
  ·have:l.take i=l:=aa9 (by omega);simp only[uG,wN,wx,aa,seval,iteOmega,toNatUp,this];exact hq _ (by simp only[wx,aa,seval,iteOmega,toNatUp])
theorem sO (G:ah) (l:List UInt8) (hl:l.length≤9223372036854775807):aw Tryz.prog G 48 [.sl (l.map bD)] (.w (.c (.d (.int .u64 (aY l))))):=by
  refine aI Tryz.func48 Xo rfl rfl ?_;by_cases h8:8<l.length
  ·have e0:IntKind.i64.wrap ((l.length:Int)-8)=((l.length-8:Nat):Int):=by rw[IntWalk.i64_in _ (by omega)]; omega
   have e1:(l.drop (l.length-8)).take (l.length-(l.length-8))=l.drop (l.length-8):=aa9 (by rw[abi]; omega);simp only[Bl,af,wx,aa,seval,iteOmega,toNatUp,e0,e1];refine OP G _ (l.drop (l.length-8)) (by rw[abi]; omega) _ ?_ fun f hf=>?_
   ·refine aj id ?_ ?_ rfl rfl <;> simp only[wx,ai,aa,seval,iteOmega,toNatUp] <;> rfl
   ·rw[R6 l h8] at hf;simp only[wx,aa,seval,iteOmega,toNatUp,hf];exact lu (by simp only[wx,aa,seval,iteOmega,toNatUp])
  ·simp only[Bl,af,wx,aa,seval,iteOmega,toNatUp];refine OP G _ l (by omega) _ ?_ fun f hf=>?_
   ·refine aj id ?_ ?_ rfl rfl <;> simp only[wx,ai,aa,seval,iteOmega,toNatUp] <;> rfl
   ·simp only[wx,aa,seval,iteOmega,toNatUp,hf];exact lu (by simp only[wx,aa,seval,iteOmega,toNatUp])
theorem FU (v k:Nat):aV v (k+1)=aV (v / 256) k++[UInt8.ofNat v]:=by
  unfold aV;rw[acJ,abk]
  congr 1
  ·apply ab0;intro i hi;have hi':i<k:=acO.1 hi;rw[show k+1-1-i=(k-1-i)+1 by omega,Nat.pow_succ,Nat.mul_comm,← Nat.div_div_eq_div_mul]
  ·simp
theorem Ia (a:List UInt8) (x:UInt8):aY (a++[x])=(aY a*256+x.toNat)%18446744073709551616:=by simp[aY]
theorem Kp {k:Nat} (h:k≤8):256^k≤18446744073709551616:=abW (Nat.pow_le_pow_right (by decide) h) (by decide)
theorem get_put (k:Nat) (h:k≤8):∀ v,aY (aV v k)=v%256^k:=by
  induction k with
  | zero=>intro v; rw[Nat.pow_zero,Nat.mod_one]; rfl
  | succ k ih =>
    intro v;have hp:=Kp h;have hv:v%256^(k+1)<256^(k+1):=ach _ (Nat.pow_pos (by decide));have e:v%256^(k+1)=v%256+256*(v / 256%256^k):=by rw[Nat.pow_succ',Nat.mod_mul]
    rw[FU,Ia,ih (by omega),UInt8.toNat_ofNat',acZ (by omega)];omega
theorem jj:∀ (k:Nat) (l:List UInt8),l.length=k→k≤8→aY l<256^k∧aV (aY l) k=l:=by
  intro k
  induction k with
  | zero=>intro l h _; rw[acb h]; exact⟨by decide,rfl⟩
  | succ k ih =>
    intro l h h8;rcases List.eq_nil_or_concat l with rfl | ⟨a,x,rfl⟩
    ·simp at h
    ·rw[List.concat_eq_append] at *
     obtain⟨a1,a2⟩:=ih a (by simpa using h) (by omega);have hx:x.toNat<256:=x.toNat_lt;have hp:=Kp h8;have e:aY (a++[x])=aY a*256+x.toNat:=by
       rw[Ia,acZ];rw[Nat.pow_succ] at hp; omega
     refine⟨by rw[e,Nat.pow_succ]; omega,?_⟩;rw[e,FU,show (aY a*256+x.toNat) / 256=aY a by omega,a2]
     congr 2
     rw[← UInt8.toNat_inj,UInt8.toNat_ofNat'];omega
structure Hd where
  lp:Int
  vr:Int
  md:Int
  st:Int
  pl:Int
  pr:Int
  rd:Nat
  rp:Nat
  ri:Nat
  rf:Nat
  og:Nat
  rc:Nat
  tr:Nat
def Hd.z:Hd:=⟨0,0,0,0,0,0,0,0,0,0,0,0,0⟩
def Qf (h:Hd):Prop:=0≤h.lp∧h.lp≤3∧(h.vr=3∨h.vr=4)∧0≤h.md∧h.md≤7∧0≤h.st∧h.st≤255∧-128≤h.pl∧h.pl≤127∧-128≤h.pr∧h.pr≤127
instance (h:Hd):Decidable (Qf h):=by unfold Qf; infer_instance
def a9 (l:List UInt8) (a n:Nat):List UInt8:=(l.drop a).take n
theorem mK {l:List UInt8} {a n:Nat} (h:a+n≤l.length):(a9 l a n).length=n:=by
  unfold a9; rw[abg,abi]; omega
theorem pk (p q r:List UInt8):a9 (p++(q++r)) p.length q.length=q:=by
  unfold a9; rw[List.drop_left,List.take_left]
theorem Ib (l:List UInt8) (a n m:Nat):a9 l a n++a9 l (a+n) m=a9 l a (n+m):=by
  unfold a9;rw[List.take_add,adf]
theorem Vd (y:UInt8) (i:Nat):(gw (bX y i) 1==1)=gI y i:=by
  have h:(gw (bX y i) 1).toNat=y.toNat / 2^i%2:=by
    have h2:y.toNat / 2^i<256:=Nat.lt_of_le_of_lt (Nat.div_le_self _ _) (fF y);unfold gw bX;rw[UInt8.toNat_and,UInt8.toNat_ofNat_of_lt' (by simpa [UInt8.size] using h2)];exact Nat.and_one_is_mod _
  unfold gI;rw[Nat.testBit_eq_decide_div_mod_eq,Bool.eq_iff_iff,beq_iff_eq,decide_eq_true_iff,← UInt8.toNat_inj,h];rfl
theorem Sc (y:UInt8) (i:Nat):bX (bX y i) 1=bX y (i+1):=by
  have h2:y.toNat / 2^i<256:=Nat.lt_of_le_of_lt (Nat.div_le_self _ _) (fF y);unfold bX;rw[UInt8.toNat_ofNat_of_lt' (by simpa [UInt8.size] using h2),Nat.div_div_eq_div_mul,Nat.pow_one,Nat.pow_succ]
theorem Sd (y:UInt8):bX y 0=y:=by
  unfold bX; simp
theorem Ve (x y:UInt8) (i:Nat):au (iz x y i) (i9 (gI y i) (iy x i))=iz x y (i+1):=rfl
theorem Tv (x:UInt8):gO x=if bX x 7==1 then au (cQ x 1) 27 else cQ x 1:=by
  have:=kF (p:=fun x=>gO x==if bX x 7==1 then au (cQ x 1) 27 else cQ x 1) (by decide +kernel) x
  simpa using this
theorem MY (x:UInt8):fu x 2=gO x:=by
  have:=kF (p:=fun x=>fu x 2==gO x) (by decide +kernel) x
  simpa using this
def Bq:aH:=⟨1,11,.seq (.reg [oO 2 (.mv (.k (.c (.d (.int .u8 0)))))]) (.seq (.seq (.reg [oM 3 0,oO 4 (.bin .shr (.t 3) (.k (.c (.d (.int .u64 7))))),oO 5 (.bin .eql (.t 4) (.k (.c (.d (.int .u8 1)))))]) (.cond (.t 5) (.seq (.reg [oM 6 0,oO 7 (.bin .shl (.t 6) (.k (.c (.d (.int .u64 1))))),oO 8 (.bin .xor (.t 7) (.k (.c (.d (.int .u8 27))))),oM 2 8]) (.ret)) (.skip))) (.seq (.reg [oM 9 0,oO 10 (.bin .shl (.t 9) (.k (.c (.d (.int .u64 1))))),oM 2 10]) (.ret))),[(2,none)]⟩
theorem Xz:aG Tryz.prog { own:=[],comp:=[],frz:=[],nils:=[] } Tryz.f163=some Bq:=by kernel_rfl
theorem OV (G:ah) (x:UInt8):aw Tryz.prog G 163 [bD x] (.w (.c (.d (bD (gO x))))):=by
  refine aI Tryz.func163 Xz rfl rfl ?_;have h1:=pL x .u64 7 7 rfl (by decide);have h2:=Bh (bX x 7) 1 1 rfl;have h3:=si x .u64 1 1 rfl (by decide);have h4:=vS (cQ x 1) 27 27 rfl;rw[Tv];cases h5:bX x 7==1
  ·rw[h5] at h2;simp only[Bq,af,h1,h2,h3,h4,ae,aa,seval,iteOmega,toNatUp,if_false,ac2];exact aL
  ·rw[h5] at h2;simp only[Bq,af,h1,h2,h3,h4,ae,aa,seval,iteOmega,toNatUp,if_true];exact aL
theorem Tw (x:UInt8):iy x 0=x:=rfl
theorem Tx (x y:UInt8):iz x y 0=0:=rfl
def PR:List UInt8:=[99,124,119,123,242,107,111,197,48,1,103,43,254,215,171,118,202,130,201,125,250,89,71,240,173,212,162,175,156,164,114,192,183,253,147,38,54,63,247,204,52,165,229,241,113,216,49,21,4,199,35,195,24,150,5,154,7,18,128,226,235,39,178,117,9,131,44,26,27,110,90,160,82,59,214,179,41,227,47,132,83,209,0,237,32,252,177,91,106,203,190,57,74,76,88,207,208,239,170,251,67,77,51,133,69,249,2,127,80,60,159,168,81,163,64,143,146,157,56,245,188,182,218,33,16,255,243,210,205,12,19,236,95,151,68,23,196,167,126,61,100,93,25,115,96,129,79,220,34,42,144,136,70,238,184,20,222,94,11,219,224,50,58,10,73,6,36,92,194,211,172,98,145,149,228,121,231,200,55,109,141,213,78,169,108,86,244,234,101,122,174,8,186,120,37,46,28,166,180,198,232,221,116,31,75,189,139,138,112,62,181,102,72,3,246,14,97,53,87,185,134,193,29,158,225,248,152,17,105,217,142,148,155,30,135,233,206,85,40,223,140,161,137,13,191,230,66,104,65,153,45,15,176,84,187,22]
theorem Vf:PR=kN:=by decide +kernel
def qc (x y:UInt8) (i:Nat):St:=⟨aQ [(0,.w (.c (.d (bD (iy x i))))),(1,.w (.c (.d (bD (bX y i))))),(5,.w (.c (.d (bD (iz x y i))))),(6,.w (.c (.d (.int .i64 (i:Int)))))],hL [],uL []⟩
theorem Vg (x:UInt8):gO x=if gw x 128 != 0 then au (cQ x 1) 27 else cQ x 1:=by
  have:=kF (p:=fun x=>gO x==if gw x 128 != 0 then au (cQ x 1) 27 else cQ x 1) (by decide +kernel) x
  simpa using this
def pc:aN := .seq (.seq (.reg [oM 8 6,oO 9 (.bin .lss (.t 8) (kI 8))]) (.cond (.t 9) (.skip) (.exit 0))) (.seq (.block 1 (.seq (.seq (.reg [oM 12 1,oO 13 (.bin .and (.t 12) (.k (.c (.d (.int .u8 1))))),oO 14 (.bin .eql (.t 13) (.k (.c (.d (.int .u8 1)))))]) (.cond (.t 14) (.reg [oM 15 5,oM 16 0,oO 17 (.bin .xor (.t 15) (.t 16)),oM 5 17]) (.skip))) (.seq (.reg [oM 18 0,oO 19 (.bin .and (.t 18) (.k (.c (.d (.int .u8 128))))),oM 7 19]) (.seq (.reg [oM 20 0,oO 21 (.bin .shl (.t 20) (.k (.c (.d (.int .u64 1))))),oM 0 21]) (.seq (.seq (.reg [oM 22 7,oO 23 (.bin .neq (.t 22) (.k (.c (.d (.int .u8 0)))))]) (.cond (.t 23) (.reg [oM 24 0,oO 25 (.bin .xor (.t 24) (.k (.c (.d (.int .u8 27))))),oM 0 25]) (.skip))) (.reg [oM 26 1,oO 27 (.bin .shr (.t 26) (.k (.c (.d (.int .u64 1))))),oM 1 27]))))))
 (.reg [oM 10 6,oO 11 (.bin .add (.t 10) (kI 1)),oM 6 11]))
def Kv:aH:=⟨2,29,.seq (.reg [oO 4 (.mv (.k (.c (.d (.int .u8 0)))))]) (.seq (.reg [oO 5 (.mv (.k (.c (.d (.int .u8 0)))))]) (.seq (.seq (.reg [oO 6 (.mv (kI 0))]) (.block 0 (.loop pc))) (.seq (.reg [oM 28 5,oM 4 28]) (.ret)))),[(4,none)]⟩
theorem Vh:aG Tryz.prog { own:=[],comp:=[],frz:=[],nils:=[] } Tryz.f179=some Kv:=by kernel_rfl
set_option maxHeartbeats 1600000 in
theorem vZ (G:ah) (x y:UInt8):aw Tryz.prog G 179 [bD x,bD y] (.w (.c (.d (bD (fu x y))))):=by
  refine aI Tryz.func179 Vh rfl rfl ?_;simp only[Kv,af,ae,aa,seval,iteOmega,toNatUp];refine aU (qc x y) (fun i=>8-i) (fun i=>i≤8) 0 (abc _) ?_ ?_
  ·refine aj (fun _=>0) ?_ ?_ rfl rfl <;> simp only[wx,ai,am,aa,seval,iteOmega,toNatUp,Sd,Tw,Tx] <;> rfl
  ·intro i hi;by_cases hlt:i<8
   ·have h1:=pK (bX y i) 1 1 rfl;have h2:=Bh (gw (bX y i) 1) 1 1 rfl;have h3:=pL (bX y i) .u64 1 1 rfl (by decide);have h4:=dp (iz x y i) (iy x i);have h5:=Ve x y i;rw[Sc] at h3;rw[Vd] at h2;have h7:gO (iy x i)=iy x (i+1):=rfl;rw[Vg] at h7;have g1:=pK (iy x i) 128 128 rfl;have g2:=Bi (gw (iy x i) 128) 0 0 rfl;have g3:=si (iy x i) .u64 1 1 rfl (by decide);have g4:=vS (cQ (iy x i) 1) 27 27 rfl;cases hb:gI y i <;> cases hh:gw (iy x i) 128 != 0 <;> rw[hb] at h2 h5 <;> rw[hh] at g2 h7
    ·have h8:iz x y i=iz x y (i+1):=by rw[← h5]; exact (pb _).symm
     simp only[if_false,ac2] at h7;simp only[pc,qc,h1,h2,h3,h4,g1,g2,g3,ae,aa,seval,iteOmega,toNatUp,h7];refine aM (i+1) (by omega) (by omega) (aj (fun _=>0) ?_ ?_ rfl rfl) <;> simp only[wx,ai,am,aa,seval,iteOmega,toNatUp,h8]
    ·have h8:iz x y i=iz x y (i+1):=by rw[← h5]; exact (pb _).symm
     simp only[if_true] at h7;simp only[pc,qc,h1,h2,h3,h4,g1,g2,g3,g4,ae,aa,seval,iteOmega,toNatUp,h7];refine aM (i+1) (by omega) (by omega) (aj (fun _=>0) ?_ ?_ rfl rfl) <;> simp only[wx,ai,am,aa,seval,iteOmega,toNatUp,h8]
    ·have h8:au (iz x y i) (iy x i)=iz x y (i+1):=h5;simp only[if_false,ac2] at h7;simp only[pc,qc,h1,h2,h3,h4,g1,g2,g3,ae,aa,seval,iteOmega,toNatUp,h7];refine aM (i+1) (by omega) (by omega) (aj (fun _=>0) ?_ ?_ rfl rfl) <;> simp only[wx,ai,am,aa,seval,iteOmega,toNatUp,h8]
    ·have h8:au (iz x y i) (iy x i)=iz x y (i+1):=h5;simp only[if_true] at h7;simp only[pc,qc,h1,h2,h3,h4,g1,g2,g3,g4,ae,aa,seval,iteOmega,toNatUp,h7];refine aM (i+1) (by omega) (by omega) (aj (fun _=>0) ?_ ?_ rfl rfl) <;> simp only[wx,ai,am,aa,seval,iteOmega,toNatUp,h8]
   ·obtain rfl:i=8:=by omega
    have e:fu x y=iz x y 8:=rfl;simp only[pc,qc,ae,aa,seval,iteOmega,toNatUp,e];exact aL
def Il:aH:=⟨2,15,.seq (.reg [oO 4 (.mv (.k (.c (.d (.int .u8 0)))))]) (.seq (.reg [oM 5 0,oM 6 1,oO 7 (.conv .u64 (.t 6)),oO 8 (.bin .shl (.t 5) (.t 7)),oM 9 0,oM 10 1,oO 11 (.bin .sub (kI 8) (.t 10)),oO 12 (.conv .u64 (.t 11)),oO 13 (.bin .shr (.t 9) (.t 12)),oO 14 (.bin .or (.t 8) (.t 13)),oM 4 14]) (.ret)),[(4,none)]⟩
theorem Ty:aG Tryz.prog { own:=[],comp:=[],frz:=[],nils:=[] } Tryz.f186=some Il:=by kernel_rfl
theorem vq (G:ah) (x:UInt8) (j:Nat) (h1:1≤j) (h2:j≤4):aw Tryz.prog G 186 [bD x,.int .i64 (j:Int)] (.w (.c (.d (bD (eX x j))))):=by
  refine aI Tryz.func186 Ty rfl rfl ?_;have g1:=si x .u64 j (j:Int) rfl (by omega);have g2:=pL x .u64 (8-j) (8-(j:Int)) (by omega) (by omega);have g3:=ry (cQ x j) (bX x (8-j));have e:eX x j=jY (cQ x j) (bX x (8-j)):=rfl;simp only[Il,af,ae,aa,seval,iteOmega,toNatUp,g1,g2,g3,e];exact aL
theorem XA (y:UInt8):au (au (au (au (au y (eX y 1)) (eX y 2)) (eX y 3)) (eX y 4)) 99=qw y:=rfl
set_option maxRecDepth 100000 in
theorem Tz:ByteArray.size ⟨#[99,124,119,123,242,107,111,197,48,1,103,43,254,215,171,118,202,130,201,125,250,89,71,240,173,212,162,175,156,164,114,192,183,253,147,38,54,63,247,204,52,165,229,241,113,216,49,21,4,199,35,195,24,150,5,154,7,18,128,226,235,39,178,117,9,131,44,26,27,110,90,160,82,59,214,179,41,227,47,132,83,209,0,237,32,252,177,91,106,203,190,57,74,76,88,207,208,239,170,251,67,77,51,133,69,249,2,127,80,60,159,168,81,163,64,143,146,157,56,245,188,182,218,33,16,255,243,210,205,12,19,236,95,151,68,23,196,167,126,61,100,93,25,115,96,129,79,220,34,42,144,136,70,238,184,20,222,94,11,219,224,50,58,10,73,6,36,92,194,211,172,98,145,149,228,121,231,200,55,109,141,213,78,169,108,86,244,234,101,122,174,8,186,120,37,46,28,166,180,198,232,221,116,31,75,189,139,138,112,62,181,102,72,3,246,14,97,53,87,185,134,193,29,158,225,248,152,17,105,217,142,148,155,30,135,233,206,85,40,223,140,161,137,13,191,230,66,104,65,153,45,15,176,84,187,22]⟩=256:=rfl
set_option maxRecDepth 100000 in
theorem XB (x:UInt8):(ByteArray.data ⟨#[99,124,119,123,242,107,111,197,48,1,103,43,254,215,171,118,202,130,201,125,250,89,71,240,173,212,162,175,156,164,114,192,183,253,147,38,54,63,247,204,52,165,229,241,113,216,49,21,4,199,35,195,24,150,5,154,7,18,128,226,235,39,178,117,9,131,44,26,27,110,90,160,82,59,214,179,41,227,47,132,83,209,0,237,32,252,177,91,106,203,190,57,74,76,88,207,208,239,170,251,67,77,51,133,69,249,2,127,80,60,159,168,81,163,64,143,146,157,56,245,188,182,218,33,16,255,243,210,205,12,19,236,95,151,68,23,196,167,126,61,100,93,25,115,96,129,79,220,34,42,144,136,70,238,184,20,222,94,11,219,224,50,58,10,73,6,36,92,194,211,172,98,145,149,228,121,231,200,55,109,141,213,78,169,108,86,244,234,101,122,174,8,186,120,37,46,28,166,180,198,232,221,116,31,75,189,139,138,112,62,181,102,72,3,246,14,97,53,87,185,134,193,29,158,225,248,152,17,105,217,142,148,155,30,135,233,206,85,40,223,140,161,137,13,191,230,66,104,65,153,45,15,176,84,187,22]⟩).toList[x.toNat]?=some (dr x):=by
  have e:(ByteArray.data ⟨#[99,124,119,123,242,107,111,197,48,1,103,43,254,215,171,118,202,130,201,125,250,89,71,240,173,212,162,175,156,164,114,192,183,253,147,38,54,63,247,204,52,165,229,241,113,216,49,21,4,199,35,195,24,150,5,154,7,18,128,226,235,39,178,117,9,131,44,26,27,110,90,160,82,59,214,179,41,227,47,132,83,209,0,237,32,252,177,91,106,203,190,57,74,76,88,207,208,239,170,251,67,77,51,133,69,249,2,127,80,60,159,168,81,163,64,143,146,157,56,245,188,182,218,33,16,255,243,210,205,12,19,236,95,151,68,23,196,167,126,61,100,93,25,115,96,129,79,220,34,42,144,136,70,238,184,20,222,94,11,219,224,50,58,10,73,6,36,92,194,211,172,98,145,149,228,121,231,200,55,109,141,213,78,169,108,86,244,234,101,122,174,8,186,120,37,46,28,166,180,198,232,221,116,31,75,189,139,138,112,62,181,102,72,3,246,14,97,53,87,185,134,193,29,158,225,248,152,17,105,217,142,148,155,30,135,233,206,85,40,223,140,161,137,13,191,230,66,104,65,153,45,15,176,84,187,22]⟩).toList=PR:=rfl;rw[e,Vf]; exact zI x
set_option maxRecDepth 100000
def FY:ByteArray:=⟨#[99,124,119,123,242,107,111,197,48,1,103,43,254,215,171,118,202,130,201,125,250,89,71,240,173,212,162,175,156,164,114,192,183,253,147,38,54,63,247,204,52,165,229,241,113,216,49,21,4,199,35,195,24,150,5,154,7,18,128,226,235,39,178,117,9,131,44,26,27,110,90,160,82,59,214,179,41,227,47,132,83,209,0,237,32,252,177,91,106,203,190,57,74,76,88,207,208,239,170,251,67,77,51,133,69,249,2,127,80,60,159,168,81,163,64,143,146,157,56,245,188,182,218,33,16,255,243,210,205,12,19,236,95,151,68,23,196,167,126,61,100,93,25,115,96,129,79,220,34,42,144,136,70,238,184,20,222,94,11,219,224,50,58,10,73,6,36,92,194,211,172,98,145,149,228,121,231,200,55,109,141,213,78,169,108,86,244,234,101,122,174,8,186,120,37,46,28,166,180,198,232,221,116,31,75,189,139,138,112,62,181,102,72,3,246,14,97,53,87,185,134,193,29,158,225,248,152,17,105,217,142,148,155,30,135,233,206,85,40,223,140,161,137,13,191,230,66,104,65,153,45,15,176,84,187,22]⟩
def MZ:aH:=⟨1,5,.seq (.reg [oO 2 (.mv (.k (.c (.d (.int .u8 0)))))]) (.seq (.reg [oM 3 0,oO 4 (.idxStr (.k (.c (.d (.str FY)))) (.t 3)),oM 2 4]) (.ret)),[(2,none)]⟩
theorem XC:aG Tryz.prog { own:=[],comp:=[],frz:=[],nils:=[] } Tryz.f180=some MZ:=by kernel_rfl
theorem sQ (G:ah) (x:UInt8):aw Tryz.prog G 180 [bD x] (.w (.c (.d (bD (dr x))))):=by
  refine aI Tryz.func180 XC rfl rfl ?_;have h:=fF x;have e:=XB x;simp only[MZ,FY,af,ae,aa,seval,iteOmega,toNatUp,Tz,e];exact aL
def bi (f:Nat→UInt8) (l:List UInt8) (i:Nat):List UInt8:=(List.range i).map f++l.drop i
theorem ku (f:Nat→UInt8) (l:List UInt8) {i:Nat} (h:i≤l.length):(bi f l i).length=l.length:=by
  unfold bi; rw[aba,abh,acA,abi]; omega
theorem kZ (f:Nat→UInt8) (l:List UInt8):bi f l 0=l:=by simp[bi]
theorem uH (f:Nat→UInt8) (l:List UInt8) {i:Nat} (h:l.length≤i):bi f l i=(List.range i).map f:=by
  unfold bi; rw[abZ h,abm]
theorem Kw (f:Nat→UInt8) (l:List UInt8) {i j:Nat} (hj:i≤j):(bi f l i)[j]?=l[j]?:=by
  unfold bi;rw[abE (by simpa using hj),abN,abh,acA,show i+(j-i)=j by omega]
theorem TA (f:Nat→UInt8) (l:List UInt8) {i j:Nat} (hj:j<i):(bi f l i)[j]?=some (f j):=by
  unfold bi;rw[abO (by simpa using hj)];simp[hj]
theorem k8 (f:Nat→UInt8) (l:List UInt8) {i:Nat} (h:i<l.length):(bi f l i).set i (f i)=bi f l (i+1):=by
  unfold bi;rw[acF _ _ (by simp),abh,acA,ac5,List.drop_eq_getElem_cons h,ac4,acJ,abk,abq];rfl
theorem cX {l:List UInt8} {j:Nat} (h:j<l.length):l[j]?=some (l.getD j 0):=by
  rw[abb,aa7 h]; rfl
def jS:Nat→List UInt8
  | 0=>(aR 256 0).set 0 99
  | n+1=>(jS n).set (gJ 3 n).toNat (qw (gJ 246 n))
theorem Im:∀ n,(jS n).length=256
  | 0=>by rw[jS,aci,be]
  | n+1=>by rw[jS,aci,Im n]
set_option maxRecDepth 100000 in
theorem Kx:jS 255=kN:=by decide +kernel
theorem aaW (x:UInt8):gJ x 0=1:=rfl
theorem DL:bD 1=.int .u8 1:=rfl
def Co (i:Nat):St:=⟨aQ [(0,.w (.c (.pa 2 1))),(1,.w (.c (.pa 1 1))),(2,.w (.c (.d (bD (gJ 3 i))))),(3,.w (.c (.d (bD (gJ 246 i))))),(4,.w (.c (.d (.int .i64 (i:Int)))))],hL [(1,.row 1 ((jS i).map bD)),(2,.row 1 ((aR 256 (0:UInt8)).map bD))],uL [1,2]⟩
def yS:aN := .seq (.seq (.reg [oM 6 4,oO 7 (.bin .lss (.t 6) (kI 255))]) (.cond (.t 7) (.skip) (.exit 0))) (.seq (.block 1 (.seq (.reg [oM 10 2,oM 11 3,oM 12 3,oO 13 (.call 186 [(.t 12),(kI 1)] none),oO 14 (.bin .xor (.t 11) (.t 13)),oM 15 3,oO 16 (.call 186 [(.t 15),(kI 2)] none),oO 17 (.bin .xor (.t 14) (.t 16)),oM 18 3,oO 19 (.call 186 [(.t 18),(kI 3)] none),oO 20 (.bin .xor (.t 17) (.t 19)),oM 21 3,oO 22 (.call 186 [(.t 21),(kI 4)] none),oO 23 (.bin .xor (.t 20) (.t 22)),oO 24 (.bin .xor (.t 23) (.k (.c (.d (.int .u8 99))))),oO 25 (.idxPa 1 256 (.t 1) (.t 10)),oN (.store .sc (.t 25) (.t 24))]) (.reg [oM 26 2,oO 27 (.call 179 [(.t 26),(.k (.c (.d (.int .u8 3))))] none),oM 28 3,oO 29 (.call 179 [(.t 28),(.k (.c (.d (.int .u8 246))))] none),oM 2 27,oM 3 29]))) (.reg [oM 8 4,oO 9 (.bin .add (.t 8) (kI 1)),
 oM 4 9]))
def Ky:aH:=⟨0,31,.seq (.reg [oO 0 (.allocArr (aR 256 (.int .u8 0)))]) (.seq (.reg [oO 1 (.allocArr (aR 256 (.int .u8 0)))]) (.seq (.reg [oO 5 (.idxPa 1 256 (.t 1) (kI 0)),oN (.store .sc (.t 5) (.k (.c (.d (.int .u8 99)))))]) (.seq (.reg [oO 2 (.mv (.k (.c (.d (.int .u8 1))))),oO 3 (.mv (.k (.c (.d (.int .u8 1)))))]) (.seq (.seq (.reg [oO 4 (.mv (kI 0))]) (.block 0 (.loop yS))) (.seq (.reg [oO 30 (.load (.ag 256) (.t 1)),oN (.store (.ag 256) (.t 0) (.t 30))]) (.ret)))))),[(0,(some (.ag 256)))]⟩
theorem Vi:aG Tryz.prog { own:=[],comp:=[],frz:=[],nils:=[] } Tryz.f178=some Ky:=by kernel_rfl
set_option maxHeartbeats 1600000 in
theorem XD (G:ah):aw Tryz.prog G 178 [] (.w (.c (.d (.agg (kN.map bD))))):=by
  refine aI Tryz.func178 Vi rfl rfl ?_;have e0:((aR 256 (0:UInt8)).map bD).set 0 (.int .u8 99)=(jS 0).map bD:=nX bD _ 0 99;have e1:0<(aR 256 (0:UInt8)).length:=by rw[be]; decide
  have e2:=Tk (n:=256) (i:=0) (0:UInt8) (by decide);simp only[Ky,af,ae,aa,seval,iteOmega,toNatUp,UW,e0,e1,e2,aC,be];refine aU Co (fun i=>255-i) (fun i=>i≤255) 0 (abc _) ?_ ?_
  ·refine aj (fun i=>if i=1 then 8 else 0) ?_ ?_ rfl rfl <;> simp only[wx,ai,am,aa,seval,iteOmega,toNatUp,aaW,DL]
  ·intro i hi;have hl:=Im i;by_cases hlt:i<255
   ·have hp:=fF (gJ 3 i);have h3:(gJ 3 i).toNat<(jS i).length:=by omega
    have hs:(jS i).set (gJ 3 i).toNat (qw (gJ 246 i))=jS (i+1):=rfl;have p3:fu (gJ 3 i) 3=gJ 3 (i+1):=rfl;have p4:fu (gJ 246 i) 246=gJ 246 (i+1):=rfl;have hset:((jS i).map bD).set (gJ 3 i).toNat (bD (qw (gJ 246 i)))=(jS (i+1)).map bD:=by rw[nX,hs]
    simp only[yS,Co,ae,aa,seval,iteOmega,toNatUp];generalize gJ 246 i=y at *
    rw[← XA] at hset;have g1:=dp y (eX y 1);have g2:=dp (au y (eX y 1)) (eX y 2);have g3:=dp (au (au y (eX y 1)) (eX y 2)) (eX y 3);have g4:=dp (au (au (au y (eX y 1)) (eX y 2)) (eX y 3)) (eX y 4);have g5:=vS (au (au (au (au y (eX y 1)) (eX y 2)) (eX y 3)) (eX y 4)) 99 99 rfl;refine sC (vq G y 1 (by decide) (by decide)) ?_;simp only[g1,ae,aa,seval,iteOmega,toNatUp];refine sC (vq G y 2 (by decide) (by decide)) ?_;simp only[g2,ae,aa,seval,iteOmega,toNatUp];refine sC (vq G y 3 (by decide) (by decide)) ?_;simp only[g3,ae,aa,seval,iteOmega,toNatUp];refine sC (vq G y 4 (by decide) (by decide)) ?_;simp only[g4,g5,hl,aC,dH h3 (du _),hset,ae,aa,seval,iteOmega,toNatUp];refine sC (vZ G (gJ 3 i) 3) ?_;simp only[p3,ae,aa,seval,iteOmega,toNatUp];refine sC (vZ G y 246) ?_;simp only[p4,ae,aa,seval,iteOmega,toNatUp];refine aM (i+1) (by omega) (by omega) (aj (fun i=>i) ?_ ?_ rfl rfl) <;> simp only[wx,ai,am,aa,seval,iteOmega,toNatUp]
   ·obtain rfl:i=255:=by omega
    rw[Kx] at hl;simp only[yS,Co,Kx,ae,aa,seval,iteOmega,toNatUp,hl,iV,be];exact aL
set_option maxHeartbeats 1600000
def oK (s k:List UInt8):List UInt8:=bH (eE (aP s) (aP k))
def iJ (s:List UInt8):List UInt8:=bH (bS (aP s))
def ti (s:List UInt8):List UInt8:=bH (io (aP s))
theorem TB (s k:List UInt8):(oK s k).length=16:=gR _
theorem uI (s:List UInt8):(iJ s).length=16:=gR _
theorem Io (s:List UInt8):(ti s).length=16:=gR _
theorem jD (f:dN):OU (aP (bH f)) f:=fun j hj=>by
  unfold aP; rw[abb,rR f hj]; rfl
theorem zK (f g:dN):oK (bH f) (bH g)=bH (eE f g):=tZ fun j hj=>by
  unfold eE; rw[jD f j hj,jD g j hj]
theorem Ip (f:dN):iJ (bH f)=bH (bS f):=tZ fun j hj=>by
  unfold bS; rw[jD f _ (by omega)]
theorem TC (f:dN):ti (bH f)=bH (io f):=tZ fun j hj=>by
  unfold io; rw[jD f _ (by omega),jD f _ (by omega),jD f _ (by omega),jD f _ (by omega)]
theorem fC:[D.int .u8 0,.int .u8 0,.int .u8 0,.int .u8 0,.int .u8 0,.int .u8 0,.int .u8 0,.int .u8 0,.int .u8 0,.int .u8 0,.int .u8 0,.int .u8 0,.int .u8 0,.int .u8 0,.int .u8 0,.int .u8 0]=(aR 16 (0:UInt8)).map bD:=rfl
theorem oa (f:dN) {l:List UInt8} (h:l.length=16):bi f l 16=bH f:=uH f l (by omega)
theorem jJ (a b:Nat):Int.tmod (a:Int) (b:Int)=((a%b:Nat):Int):=rfl
def Cq (s k:List UInt8) (i:Nat):St:=⟨aQ [(2,.w (.c (.pa 1 1))),(4,.w (.c (.pa 2 1))),(7,.w (.c (.d (.agg (k.map bD))))),(8,.w (.c (.d (.int .i64 (i:Int)))))],hL [(1,.row 1 ((bi (eE (aP s) (aP k)) s i).map bD)),(2,.row 1 ((aR 16 (0:UInt8)).map bD))],uL [1,2]⟩
def zL:aN := .seq (.reg [oO 9 (.bin .lss (.t 8) (kI 16))]) (.seq (.cond (.t 9) (.skip) (.exit 0)) (.seq (.block 1 (.seq (.reg [oM 10 8,oO 11 (.idxArr 1 16 .sc (.t 7) (.t 8)),oM 5 10,oM 6 11]) (.reg [oM 12 5,oO 13 (.idxPa 1 16 (.t 2) (.t 12)),oO 14 (.load .sc (.t 13)),oM 15 6,oO 16 (.bin .xor (.t 14) (.t 15)),oO 17 (.idxPa 1 16 (.t 2) (.t 12)),oN (.store .sc (.t 17) (.t 16))]))) (.reg [oO 18 (.bin .add (.t 8) (kI 1)),oM 8 18])))
def M0:aH:=⟨2,20,.seq (.reg [oO 2 (.box .ownArr (.t 0)),oO 3 (.box .roArr (.t 1)),oO 4 (.allocArr [(.int .u8 0),(.int .u8 0),(.int .u8 0),(.int .u8 0),(.int .u8 0),(.int .u8 0),(.int .u8 0),(.int .u8 0),(.int .u8 0),(.int .u8 0),(.int .u8 0),(.int .u8 0),(.int .u8 0),(.int .u8 0),(.int .u8 0),(.int .u8 0)])]) (.seq (.seq (.reg [oO 7 (.load (.ag 16) (.t 3)),oO 8 (.mv (kI 0))]) (.block 0 (.loop zL))) (.seq (.reg [oO 19 (.load (.ag 16) (.t 2)),oN (.store (.ag 16) (.t 4) (.t 19))]) (.ret))),[(4,(some (.ag 16)))]⟩
theorem XE:aG Tryz.prog { own:=[2],comp:=[],frz:=[],nils:=[] } Tryz.f165=some M0:=by kernel_rfl
theorem Cr (G:ah) (s k:List UInt8) (hs:s.length=16) (hk:k.length=16):aw Tryz.prog G 165 [.agg (s.map bD),.agg (k.map bD)] (.w (.c (.d (.agg ((oK s k).map bD))))):=by
  refine aI Tryz.func165 XE rfl rfl ?_;simp only[M0,af,ae,aa,seval,iteOmega,toNatUp,fC,iV,hk];refine aU (Cq s k) (fun i=>16-i) (fun i=>i≤16) 0 (abc _) ?_ ?_
  ·refine aj (fun i=>if i=1 then 16 else 32) ?_ ?_ rfl rfl <;> simp only[wx,ai,am,aa,seval,iteOmega,toNatUp,kZ]
  ·intro i hi;have hl:(bi (eE (aP s) (aP k)) s i).length=16:=by rw[ku _ _ (by omega)]; exact hs
   by_cases hlt:i<16
   ·have g1:k[i]?=some (k.getD i 0):=cX (by omega);have g2:(bi (eE (aP s) (aP k)) s i)[i]?=some (s.getD i 0):=by rw[Kw _ _ (abl i)]; exact cX (by omega)
    have h3:i<(bi (eE (aP s) (aP k)) s i).length:=by omega
    have h4:=dp (s.getD i 0) (k.getD i 0);have h5:(bi (eE (aP s) (aP k)) s i).set i (au (s.getD i 0) (k.getD i 0))=bi (eE (aP s) (aP k)) s (i+1):=k8 (eE (aP s) (aP k)) s (by omega);simp only[zL,Cq,ae,aa,seval,iteOmega,toNatUp,aC,g1,g2,h4,dH h3 (du _),eV,h5];refine aM (i+1) (by omega) (by omega) (aj (fun i=>i) ?_ ?_ rfl rfl) <;> simp only[wx,ai,am,aa,seval,iteOmega,toNatUp]
   ·obtain rfl:i=16:=by omega
    have e:bi (eE (aP s) (aP k)) s 16=oK s k:=oa _ hs;have e2:=TB s k;simp only[zL,Cq,e,ae,aa,seval,iteOmega,toNatUp,e2,iV,be];exact aL
def Cs (s:List UInt8) (i:Nat):St:=⟨aQ [(1,.w (.c (.ra (s.map bD)))),(2,.w (.c (.pa 2 1))),(3,.w (.c (.pa 1 1))),(6,.w (.c (.d (.int .i64 (i:Int)))))],hL [(1,.row 1 ((bi (bS (aP s)) (aR 16 (0:UInt8)) i).map bD)),(2,.row 1 ((aR 16 (0:UInt8)).map bD))],uL [1,2]⟩
def yT:aN := .seq (.reg [oO 7 (.bin .lss (.t 6) (kI 16))]) (.seq (.cond (.t 7) (.skip) (.exit 0)) (.seq (.block 1 (.seq (.reg [oM 8 6,oM 4 8]) (.seq (.reg [oM 9 4,oO 10 (.bin .rem (.t 9) (kI 4)),oM 5 10]) (.reg [oM 11 4,oM 12 4,oM 13 5,oO 14 (.bin .mul (.t 13) (kI 4)),oO 15 (.bin .add (.t 12) (.t 14)),oO 16 (.bin .rem (.t 15) (kI 16)),oO 17 (.idxPa 1 16 (.t 1) (.t 16)),oO 18 (.load .sc (.t 17)),oO 19 (.call 180 [(.t 18)] none),oO 20 (.idxPa 1 16 (.t 3) (.t 11)),oN (.store .sc (.t 20) (.t 19))])))) (.reg [oO 21 (.bin .add (.t 6) (kI 1)),oM 6 21])))
def Kz:aH:=⟨1,23,.seq (.reg [oO 1 (.box .roArr (.t 0)),oO 2 (.allocArr [(.int .u8 0),(.int .u8 0),(.int .u8 0),(.int .u8 0),(.int .u8 0),(.int .u8 0),(.int .u8 0),(.int .u8 0),(.int .u8 0),(.int .u8 0),(.int .u8 0),(.int .u8 0),(.int .u8 0),(.int .u8 0),(.int .u8 0),(.int .u8 0)])]) (.seq (.reg [oO 3 (.allocArr [(.int .u8 0),(.int .u8 0),(.int .u8 0),(.int .u8 0),(.int .u8 0),(.int .u8 0),(.int .u8 0),(.int .u8 0),(.int .u8 0),(.int .u8 0),(.int .u8 0),(.int .u8 0),(.int .u8 0),(.int .u8 0),(.int .u8 0),(.int .u8 0)])]) (.seq (.seq (.reg [oO 6 (.mv (kI 0))]) (.block 0 (.loop yT))) (.seq (.reg [oO 22 (.load (.ag 16) (.t 3)),oN (.store (.ag 16) (.t 2) (.t 22))]) (.ret)))),[(2,(some (.ag 16)))]⟩
theorem Vj:aG Tryz.prog { own:=[],comp:=[],frz:=[],nils:=[] } Tryz.f167=some Kz:=by kernel_rfl
theorem M1 (G:ah) (s:List UInt8) (hs:s.length=16):aw Tryz.prog G 167 [.agg (s.map bD)] (.w (.c (.d (.agg ((iJ s).map bD))))):=by
  refine aI Tryz.func167 Vj rfl rfl ?_;simp only[Kz,af,ae,aa,seval,iteOmega,toNatUp,fC];refine aU (Cs s) (fun i=>16-i) (fun i=>i≤16) 0 (abc _) ?_ ?_
  ·refine aj (fun i=>if i=1 then 24 else 16) ?_ ?_ rfl rfl <;> simp only[wx,ai,am,aa,seval,iteOmega,toNatUp,kZ]
  ·intro i hi;have hl:(bi (bS (aP s)) (aR 16 (0:UInt8)) i).length=16:=by rw[ku _ _ (by rw[be]; omega),be]
   by_cases hlt:i<16
   ·have hm:(i+i%4*4)%16=i%4+4*((i / 4+i%4)%4):=by omega
    have hm2:(i+i%4*4)%16<16:=by omega
    have g1:s[(i+i%4*4)%16]?=some (aP s (i%4+4*((i / 4+i%4)%4))):=by rw[← hm]; exact cX (by omega)
    have h3:i<(bi (bS (aP s)) (aR 16 (0:UInt8)) i).length:=by omega
    have h5:(bi (bS (aP s)) (aR 16 (0:UInt8)) i).set i (dr (aP s (i%4+4*((i / 4+i%4)%4))))=bi (bS (aP s)) (aR 16 (0:UInt8)) (i+1):=k8 (bS (aP s)) _ (by rw[be]; omega);have t1:Int.tmod (i:Int) 4=((i%4:Nat):Int):=jJ i 4;have t2:Int.tmod ((i:Int)+((i%4:Nat):Int)*4) 16=(((i+i%4*4)%16:Nat):Int):=jJ (i+i%4*4) 16;have hb:(i%4:Nat)<4:=ach _ (by decide);generalize hq:i%4=q at *
    generalize hp:(i+q*4)%16=p at *
    simp only[yT,Cs,ae,aa,seval,iteOmega,toNatUp,aC,t1,t2,g1];refine sC (sQ G (aP s (q+4*((i / 4+q)%4)))) ?_;simp only[dH h3 (du _),eV,h5,aC,hl,ae,aa,seval,iteOmega,toNatUp];refine aM (i+1) (by omega) (by omega) (aj (fun i=>i) ?_ ?_ rfl rfl) <;> simp only[wx,ai,am,aa,seval,iteOmega,toNatUp]
   ·obtain rfl:i=16:=by omega
    have e:bi (bS (aP s)) (aR 16 (0:UInt8)) 16=iJ s:=oa _ (be _ _);have e2:=uI s;simp only[yT,Cs,e,ae,aa,seval,iteOmega,toNatUp,e2,iV,be];exact aL
theorem XF (a b c d:UInt8):au (au (au (gO (au a b)) b) c) d=qx a b c d:=by
  unfold qx g9;rw[Vb a b,MY,MY]
def Br (s:List UInt8) (i:Nat):St:=⟨aQ [(1,.w (.c (.ra (s.map bD)))),(2,.w (.c (.pa 2 1))),(3,.w (.c (.pa 1 1))),(8,.w (.c (.d (.int .i64 (i:Int)))))],hL [(1,.row 1 ((bi (io (aP s)) (aR 16 (0:UInt8)) i).map bD)),(2,.row 1 ((aR 16 (0:UInt8)).map bD))],uL [1,2]⟩
def yU:aN := .seq (.reg [oO 9 (.bin .lss (.t 8) (kI 16))]) (.seq (.cond (.t 9) (.skip) (.exit 0)) (.seq (.block 1 (.seq (.reg [oM 10 8,oM 4 10]) (.seq (.reg [oM 11 4,oO 12 (.bin .rem (.t 11) (kI 4)),oM 5 12]) (.seq (.reg [oM 13 4,oM 14 5,oO 15 (.bin .sub (.t 13) (.t 14)),oM 16 4,oM 17 5,oO 18 (.bin .sub (.t 16) (.t 17)),oO 19 (.bin .add (.t 18) (kI 4)),oO 20 (.sliceArr 1 16 (.t 1) (some (.t 15)) (some (.t 19))),oM 6 20]) (.seq (.reg [oM 21 6,oM 22 5,oO 23 (.bin .add (.t 22) (kI 1)),oO 24 (.bin .rem (.t 23) (kI 4)),oO 25 (.idxSl 1 (.t 21) (.t 24)),oO 26 (.load .sc (.t 25)),oM 7 26]) (.reg [oM 27 4,oM 28 4,oO 29 (.idxPa 1 16 (.t 1) (.t 28)),oO 30 (.load .sc (.t 29)),oM 31 7,oO 32 (.bin .xor (.t 30) (.t 31)),oO 33 (.call 163 [(.t 32)] none),oM 34 7,oO 35 (.bin .xor (.t 33) (.t 34)),
 oM 36 6,oM 37 5,oO 38 (.bin .add (.t 37) (kI 2)),oO 39 (.bin .rem (.t 38) (kI 4)),oO 40 (.idxSl 1 (.t 36) (.t 39)),oO 41 (.load .sc (.t 40)),oO 42 (.bin .xor (.t 35) (.t 41)),oM 43 6,oM 44 5,oO 45 (.bin .add (.t 44) (kI 3)),oO 46 (.bin .rem (.t 45) (kI 4)),oO 47 (.idxSl 1 (.t 43) (.t 46)),oO 48 (.load .sc (.t 47)),oO 49 (.bin .xor (.t 42) (.t 48)),oO 50 (.idxPa 1 16 (.t 3) (.t 27)),oN (.store .sc (.t 50) (.t 49))])))))) (.reg [oO 51 (.bin .add (.t 8) (kI 1)),oM 8 51])))
def KA:aH:=⟨1,53,.seq (.reg [oO 1 (.box .roArr (.t 0)),oO 2 (.allocArr [(.int .u8 0),(.int .u8 0),(.int .u8 0),(.int .u8 0),(.int .u8 0),(.int .u8 0),(.int .u8 0),(.int .u8 0),(.int .u8 0),(.int .u8 0),(.int .u8 0),(.int .u8 0),(.int .u8 0),(.int .u8 0),(.int .u8 0),(.int .u8 0)])]) (.seq (.reg [oO 3 (.allocArr [(.int .u8 0),(.int .u8 0),(.int .u8 0),(.int .u8 0),(.int .u8 0),(.int .u8 0),(.int .u8 0),(.int .u8 0),(.int .u8 0),(.int .u8 0),(.int .u8 0),(.int .u8 0),(.int .u8 0),(.int .u8 0),(.int .u8 0),(.int .u8 0)])]) (.seq (.seq (.reg [oO 8 (.mv (kI 0))]) (.block 0 (.loop yU))) (.seq (.reg [oO 52 (.load (.ag 16) (.t 3)),oN (.store (.ag 16) (.t 2) (.t 52))]) (.ret)))),[(2,(some (.ag 16)))]⟩
theorem Vk:aG Tryz.prog { own:=[],comp:=[],frz:=[],nils:=[] } Tryz.f166=some KA:=by kernel_rfl
theorem XG (G:ah) (s:List UInt8) (hs:s.length=16):aw Tryz.prog G 166 [.agg (s.map bD)] (.w (.c (.d (.agg ((ti s).map bD))))):=by
  refine aI Tryz.func166 Vk rfl rfl ?_;simp only[KA,af,ae,aa,seval,iteOmega,toNatUp,fC];refine aU (Br s) (fun i=>16-i) (fun i=>i≤16) 0 (abc _) ?_ ?_
  ·refine aj (fun i=>if i=1 then 24 else 16) ?_ ?_ rfl rfl <;> simp only[wx,ai,am,aa,seval,iteOmega,toNatUp,kZ]
  ·intro i hi;have hl:(bi (io (aP s)) (aR 16 (0:UInt8)) i).length=16:=by rw[ku _ _ (by rw[be]; omega),be]
   by_cases hlt:i<16
   ·have h3:i<(bi (io (aP s)) (aR 16 (0:UInt8)) i).length:=by omega
    have h5:(bi (io (aP s)) (aR 16 (0:UInt8)) i).set i (io (aP s) i)=bi (io (aP s)) (aR 16 (0:UInt8)) (i+1):=k8 (io (aP s)) _ (by rw[be]; omega);have g0:s[i]?=some (aP s i):=cX (by omega);obtain⟨q,r,hr,rfl⟩:∃ q r,r<4∧i=4*q+r:=⟨i / 4,i%4,ach _ (by decide),by omega⟩
    have hq:q<4:=by omega
    have col:∀ j,j<4→((s.drop (4*q)).take 4)[j]?=some (aP s (4*q+j)):=fun j hj=>by
      rw[abx,if_pos hj,abN]; exact cX (by omega)
    have g1:=col ((r+1)%4) (ach _ (by decide));have g2:=col ((r+2)%4) (ach _ (by decide));have g3:=col ((r+3)%4) (ach _ (by decide));have t0:Int.tmod (4*(q:Int)+(r:Int)) 4=(r:Int):=by
      show Int.tmod ((4*q+r:Nat):Int) ((4:Nat):Int)=_
      rw[jJ]; congr 1; omega
    have t1:Int.tmod ((r:Int)+1) 4=(((r+1)%4:Nat):Int):=jJ (r+1) 4;have t2:Int.tmod ((r:Int)+2) 4=(((r+2)%4:Nat):Int):=jJ (r+2) 4;have t3:Int.tmod ((r:Int)+3) 4=(((r+3)%4:Nat):Int):=jJ (r+3) 4;have b1:(r+1)%4<4:=ach _ (by decide);have b2:(r+2)%4<4:=ach _ (by decide);have b3:(r+3)%4<4:=ach _ (by decide);have em:io (aP s) (4*q+r)=qx (aP s (4*q+r)) (aP s (4*q+(r+1)%4)) (aP s (4*q+(r+2)%4)) (aP s (4*q+(r+3)%4)):=by
      unfold io;rw[show (4*q+r) / 4=q by omega,show (4*q+r)%4=r by omega]
    rw[em,← XF] at h5;have s1:4*q+r-r=4*q:=by omega
    have s2:4*q+4-4*q=4:=by omega
    have s3:((s.drop (4*q)).take 4).length=4:=by rw[abg,abi]; omega
    generalize (r+1)%4=r1 at *
    generalize (r+2)%4=r2 at *
    generalize (r+3)%4=r3 at *
    generalize aP s (4*q+r)=a at *
    generalize aP s (4*q+r1)=b at *
    generalize aP s (4*q+r2)=c at *
    generalize aP s (4*q+r3)=d at *
    have x1:=dp a b;have x2:=dp (gO (au a b)) b;have x3:=dp (au (gO (au a b)) b) c;have x4:=dp (au (au (gO (au a b)) b) c) d;simp only[yU,Br,ae,aa,seval,iteOmega,toNatUp,aC,t0,t1,t2,t3,g0,g1,g2,g3,s1,s2,s3,x1];refine sC (OV G (au a b)) ?_;simp only[aC,t0,t1,t2,t3,g0,g1,g2,g3,s1,s2,s3,x2,x3,x4,dH h3 (du _),eV,h5,hl,ae,aa,seval,iteOmega,toNatUp];refine aM (4*q+r+1) (by omega) (by omega) (aj (fun i=>i) ?_ ?_ rfl rfl) <;> simp only[wx,ai,am,aa,seval,iteOmega,toNatUp]
   ·obtain rfl:i=16:=by omega
    have e:bi (io (aP s)) (aR 16 (0:UInt8)) 16=ti s:=oa _ (be _ _);have e2:=Io s;simp only[yU,Br,e,ae,aa,seval,iteOmega,toNatUp,e2,iV,be];exact aL
def wV0 (l:List UInt8) (c:UInt8) (j:Nat):UInt8:=if j=0 then au (dr (l.getD 13 0)) c else if j=1 then dr (l.getD 14 0) else if j=2 then dr (l.getD 15 0) else dr (l.getD 12 0)
def wV (l:List UInt8) (c:UInt8):Nat→Nat→UInt8
  | 0,j=>wV0 l c j
  | n+1,j=>if j=n%4 then au (l.getD n 0) (wV l c n (n%4)) else wV l c n j
def iK (l:List UInt8) (c:UInt8) (n:Nat):UInt8:=au (l.getD n 0) (wV l c n (n%4))
def nC (l:List UInt8) (c:UInt8):List UInt8:=bH (iK l c)
theorem uJ (l:List UInt8) (c:UInt8):(nC l c).length=16:=gR _
def wL (l:List UInt8) (c:UInt8) (i:Nat):List UInt8:=(List.range 4).map (wV l c i)
theorem pM (l:List UInt8) (c:UInt8) (i:Nat):(wL l c i).length=4:=by simp[wL]
theorem Bs (l:List UInt8) (c:UInt8) (i:Nat) {j:Nat} (h:j<4):(wL l c i)[j]?=some (wV l c i j):=by simp[wL,h]
theorem Vl (l:List UInt8) (c:UInt8) (i:Nat):(wL l c i).set (i%4) (iK l c i)=wL l c (i+1):=by
  apply acf;intro j;by_cases hj:j<4
  ·rw[Bs _ _ _ hj,acU];by_cases e:i%4=j
   ·rw[if_pos e,if_pos (by rw[pM]; omega),wV,if_pos e.symm]; rfl
   ·rw[if_neg e,Bs _ _ _ hj,wV,if_neg (fun h=>e h.symm)]
  ·rw[abV (by rw[aci,pM]; omega),abV (by rw[pM]; omega)]
theorem Vm (l:List UInt8) (c:UInt8):[au (dr (l.getD 13 0)) c,dr (l.getD 14 0),dr (l.getD 15 0),dr (l.getD 12 0)]=wL l c 0:=rfl
def Ct (l:List UInt8) (c:UInt8) (i:Nat):St:=⟨aQ [(2,.w (.c (.pa 1 1))),(4,.w (.c (.pa 2 1))),(5,.w (.c (.pa 3 1))),(22,.w (.c (.d (.int .i64 (i:Int)))))],hL [(1,.row 1 ((bi (iK l c) l i).map bD)),(2,.row 1 ((aR 16 (0:UInt8)).map bD)),(3,.row 1 ((wL l c i).map bD))],uL [1,2,3]⟩
def zM:aN := .seq (.reg [oO 23 (.bin .lss (.t 22) (kI 16))]) (.seq (.cond (.t 23) (.skip) (.exit 0)) (.seq (.block 1 (.seq (.reg [oM 24 22,oM 6 24]) (.seq (.reg [oM 25 6,oO 26 (.idxPa 1 16 (.t 2) (.t 25)),oO 27 (.load .sc (.t 26)),oM 28 6,oO 29 (.bin .rem (.t 28) (kI 4)),oO 30 (.idxPa 1 4 (.t 5) (.t 29)),oO 31 (.load .sc (.t 30)),oO 32 (.bin .xor (.t 27) (.t 31)),oO 33 (.idxPa 1 16 (.t 2) (.t 25)),oN (.store .sc (.t 33) (.t 32))]) (.reg [oM 34 6,oO 35 (.bin .rem (.t 34) (kI 4)),oM 36 6,oO 37 (.idxPa 1 16 (.t 2) (.t 36)),oO 38 (.load .sc (.t 37)),oO 39 (.idxPa 1 4 (.t 5) (.t 35)),oN (.store .sc (.t 39) (.t 38))])))) (.reg [oO 40 (.bin .add (.t 22) (kI 1)),oM 22 40])))
def M2:aH:=⟨2,42,.seq (.reg [oO 2 (.box .ownArr (.t 0)),oO 4 (.allocArr [(.int .u8 0),(.int .u8 0),(.int .u8 0),(.int .u8 0),(.int .u8 0),(.int .u8 0),(.int .u8 0),(.int .u8 0),(.int .u8 0),(.int .u8 0),(.int .u8 0),(.int .u8 0),(.int .u8 0),(.int .u8 0),(.int .u8 0),(.int .u8 0)])]) (.seq (.reg [oO 7 (.idxPa 1 16 (.t 2) (kI 13)),oO 8 (.load .sc (.t 7)),oO 9 (.call 180 [(.t 8)] none),oM 10 1,oO 11 (.bin .xor (.t 9) (.t 10)),oO 12 (.idxPa 1 16 (.t 2) (kI 14)),oO 13 (.load .sc (.t 12)),oO 14 (.call 180 [(.t 13)] none),oO 15 (.idxPa 1 16 (.t 2) (kI 15)),oO 16 (.load .sc (.t 15)),oO 17 (.call 180 [(.t 16)] none),oO 18 (.idxPa 1 16 (.t 2) (kI 12)),oO 19 (.load .sc (.t 18)),oO 20 (.call 180 [(.t 19)] none),oO 21 (.build [(.d (.int .u8 0)),(.d (.int .u8 0)),(.d (.int .u8 0)),(.d (.int .u8 0))] [(0,1,(.t 11)),(1,1,(.t 14)),(2,1,(.t 17)),(3,1,(.t 20))]),
 oO 5 (.allocArr [(.int .u8 0),(.int .u8 0),(.int .u8 0),(.int .u8 0)]),oN (.store (.ag 4) (.t 5) (.t 21))]) (.seq (.seq (.reg [oO 22 (.mv (kI 0))]) (.block 0 (.loop zM))) (.seq (.reg [oO 41 (.load (.ag 16) (.t 2)),oN (.store (.ag 16) (.t 4) (.t 41))]) (.ret)))),[(4,(some (.ag 16)))]⟩
theorem XH:aG Tryz.prog { own:=[2],comp:=[],frz:=[],nils:=[] } Tryz.f162=some M2:=by kernel_rfl
set_option maxHeartbeats 3200000 in
theorem Z6 (G:ah) (l:List UInt8) (c:UInt8) (hl:l.length=16):aw Tryz.prog G 162 [.agg (l.map bD),bD c] (.w (.c (.d (.agg ((nC l c).map bD))))):=by
  refine aI Tryz.func162 XH rfl rfl ?_;have a13:l[13]?=some (l.getD 13 0):=cX (by omega);have a14:l[14]?=some (l.getD 14 0):=cX (by omega);have a15:l[15]?=some (l.getD 15 0):=cX (by omega);have a12:l[12]?=some (l.getD 12 0):=cX (by omega);have x0:=dp (dr (l.getD 13 0)) c;have w0:=congrArg (List.map bD) (Vm l c);have wl:=pM l c 0;simp only[abd,abo] at w0;simp only[M2,af,ae,aa,seval,iteOmega,toNatUp,fC,hl,aC,a13];refine sC (sQ G (l.getD 13 0)) ?_;simp only[x0,aC,a14,hl,ae,aa,seval,iteOmega,toNatUp];refine sC (sQ G (l.getD 14 0)) ?_;simp only[aC,a15,hl,ae,aa,seval,iteOmega,toNatUp];refine sC (sQ G (l.getD 15 0)) ?_;simp only[aC,a12,hl,ae,aa,seval,iteOmega,toNatUp];refine sC (sQ G (l.getD 12 0)) ?_;simp only[w0,ae,aa,seval,iteOmega,toNatUp];refine aU (Ct l c) (fun i=>16-i) (fun i=>i≤16) 0 (abc _) ?_ ?_
  ·refine aj (fun i=>if i=1 then 16 else if i=2 then 32 else 40) ?_ ?_ rfl rfl <;> simp only[wx,ai,am,aa,seval,iteOmega,toNatUp,kZ]
  ·intro i hi;have hu:(bi (iK l c) l i).length=16:=by rw[ku _ _ (by omega)]; exact hl
   by_cases hlt:i<16
   ·have hm:i%4<4:=ach _ (by decide);have t1:Int.tmod (i:Int) 4=((i%4:Nat):Int):=jJ i 4;have g1:(bi (iK l c) l i)[i]?=some (l.getD i 0):=by rw[Kw _ _ (abl i)]; exact cX (by omega)
    have g2:=Bs l c i hm;have x1:=dp (l.getD i 0) (wV l c i (i%4));have h3:i<(bi (iK l c) l i).length:=by omega
    have h4:i%4<(wL l c i).length:=by rw[pM]; exact hm
    have h5:(bi (iK l c) l i).set i (iK l c i)=bi (iK l c) l (i+1):=k8 (iK l c) l (by omega);have h6:=Vl l c i;have g3:(bi (iK l c) l (i+1))[i]?=some (iK l c i):=TA _ _ (Nat.lt_succ_self i);have hf:au (l.getD i 0) (wV l c i (i%4))=iK l c i:=rfl;have hwl:=pM l c i;have hu2:(bi (iK l c) l (i+1)).length=16:=by rw[ku _ _ (by omega)]; exact hl
    generalize hq:i%4=q at *
    simp only[zM,Ct,ae,aa,seval,iteOmega,toNatUp,aC,t1,g1,g2,x1,hf,dH h3 (du _),dH h4 (du _),eV,h5,h6,g3,hu,hu2,hwl];refine aM (i+1) (by omega) (by omega) (aj (fun i=>i) ?_ ?_ rfl rfl) <;> simp only[wx,ai,am,aa,seval,iteOmega,toNatUp]
   ·obtain rfl:i=16:=by omega
    have e:bi (iK l c) l 16=nC l c:=oa _ hl;have e2:=uJ l c;simp only[zM,Ct,e,ae,aa,seval,iteOmega,toNatUp,e2,iV,be];exact aL
theorem Se {P Q:List UInt8} {k n:Nat} (h:P.length=n):(P++Q).getD (n+k) 0=Q.getD k 0:=by
  rw[abb,abb,abE (by omega),h,ab2]
theorem TD {P Q:List UInt8} {k n:Nat} (h:P.length=n):(P++Q).drop (n+k)=Q.drop k:=by
  rw[← h,List.drop_append,abZ (by omega),abF,ab2]
theorem t7 {P Q:List UInt8} {n:Nat} (h:P.length=4*n):jn (P++Q) n=(List.range 4).map fun k=>au (Q.getD k 0) ((jI (Q.drop 12) n).getD k 0):=by
  unfold jn;refine ab0 fun k _=>?_
  rw[Se h,show 12+4*n=4*n+12 by omega,TD h]
theorem Z7 (b0 b1 b2 b3 b4 b5 b6 b7 b8 b9 b10 b11 b12 b13 b14 b15 c:UInt8):∃ f0 f1 f2 f3,
    f0=au b0 (au (dr b13) c)∧f1=au b1 (dr b14)∧f2=au b2 (dr b15)∧f3=au b3 (dr b12) ∧
    nC [b0,b1,b2,b3,b4,b5,b6,b7,b8,b9,b10,b11,b12,b13,b14,b15] c =
      [f0,f1,f2,f3,au b4 f0,au b5 f1,au b6 f2,au b7 f3,au b8 (au b4 f0),au b9 (au b5 f1),au b10 (au b6 f2),au b11 (au b7 f3),
       au b12 (au b8 (au b4 f0)),au b13 (au b9 (au b5 f1)),au b14 (au b10 (au b6 f2)),au b15 (au b11 (au b7 f3))] :=
  ⟨_,_,_,_,rfl,rfl,rfl,rfl,rfl⟩
theorem uK (f:Nat→UInt8):(List.range 4).map f=[f 0,f 1,f 2,f 3]:=rfl
theorem TE {P:List UInt8} {r:Nat} (hP:P.length=16*r) (b0 b1 b2 b3 b4 b5 b6 b7 b8 b9 b10 b11 b12 b13 b14 b15:UInt8) (key:List UInt8)
    (h:br key (4*r)=P++[b0,b1,b2,b3,b4,b5,b6,b7,b8,b9,b10,b11,b12,b13,b14,b15]) :
    br key (4*(r+1))=br key (4*r)++nC [b0,b1,b2,b3,b4,b5,b6,b7,b8,b9,b10,b11,b12,b13,b14,b15] (fI r):=by
  obtain⟨f0,f1,f2,f3,e0,e1,e2,e3,ef⟩:=Z7 b0 b1 b2 b3 b4 b5 b6 b7 b8 b9 b10 b11 b12 b13 b14 b15 (fI r);have m0:4*r%4=0:=by omega
  have m1:(4*r+1)%4≠0:=by omega
  have m2:(4*r+2)%4≠0:=by omega
  have m3:(4*r+3)%4≠0:=by omega
  have d0:4*r / 4=r:=by omega
  have n0:jn (br key (4*r)) (4*r)=[f0,f1,f2,f3]:=by
    rw[h,t7 (by omega),uK];unfold jI;rw[if_pos m0,d0,e0,e1,e2,e3]; rfl
  have s1:br key (4*r+1)=(P++[b0,b1,b2,b3])++[b4,b5,b6,b7,b8,b9,b10,b11,b12,b13,b14,b15,f0,f1,f2,f3]:=by
    rw[br,n0,h]; simp
  have n1:jn (br key (4*r+1)) (4*r+1)=[au b4 f0,au b5 f1,au b6 f2,au b7 f3]:=by
    rw[s1,t7 (by simp; omega),uK];unfold jI;rw[if_neg m1]; rfl
  have s2:br key (4*r+2)=(P++[b0,b1,b2,b3,b4,b5,b6,b7])++[b8,b9,b10,b11,b12,b13,b14,b15,f0,f1,f2,f3,au b4 f0,au b5 f1,au b6 f2,au b7 f3]:=by
    rw[show 4*r+2=(4*r+1)+1 from rfl,br,n1,s1]; simp
  have n2:jn (br key (4*r+2)) (4*r+2)=[au b8 (au b4 f0),au b9 (au b5 f1),au b10 (au b6 f2),au b11 (au b7 f3)]:=by
    rw[s2,t7 (by simp; omega),uK];unfold jI;rw[if_neg m2]; rfl
  have s3:br key (4*r+3)=(P++[b0,b1,b2,b3,b4,b5,b6,b7,b8,b9,b10,b11])++[b12,b13,b14,b15,f0,f1,f2,f3,au b4 f0,au b5 f1,au b6 f2,au b7 f3,au b8 (au b4 f0),au b9 (au b5 f1),au b10 (au b6 f2),au b11 (au b7 f3)]:=by
    rw[show 4*r+3=(4*r+2)+1 from rfl,br,n2,s2]; simp
  have n3:jn (br key (4*r+3)) (4*r+3)=[au b12 (au b8 (au b4 f0)),au b13 (au b9 (au b5 f1)),au b14 (au b10 (au b6 f2)),au b15 (au b11 (au b7 f3))]:=by
    rw[s3,t7 (by simp; omega),uK];unfold jI;rw[if_neg m3]; rfl
  rw[show 4*(r+1)=(4*r+3)+1 by omega,br,n3,s3,ef,h];simp
def kb (key:List UInt8) (r:Nat):List UInt8:=(br key (4*r)).drop (16*r)
theorem Bt {key:List UInt8} (h:key.length=16) (r:Nat):(kb key r).length=16:=by
  unfold kb; rw[abi,kr h]; omega
theorem XI {l:List UInt8} (h:l.length=16):∃ b0 b1 b2 b3 b4 b5 b6 b7 b8 b9 b10 b11 b12 b13 b14 b15,l=[b0,b1,b2,b3,b4,b5,b6,b7,b8,b9,b10,b11,b12,b13,b14,b15]:=by
  rcases l with _ | ⟨b0,l⟩ <;> simp at h
  rcases l with _ | ⟨b1,l⟩ <;> simp at h
  rcases l with _ | ⟨b2,l⟩ <;> simp at h
  rcases l with _ | ⟨b3,l⟩ <;> simp at h
  rcases l with _ | ⟨b4,l⟩ <;> simp at h
  rcases l with _ | ⟨b5,l⟩ <;> simp at h
  rcases l with _ | ⟨b6,l⟩ <;> simp at h
  rcases l with _ | ⟨b7,l⟩ <;> simp at h
  rcases l with _ | ⟨b8,l⟩ <;> simp at h
  rcases l with _ | ⟨b9,l⟩ <;> simp at h
  rcases l with _ | ⟨b10,l⟩ <;> simp at h
  rcases l with _ | ⟨b11,l⟩ <;> simp at h
  rcases l with _ | ⟨b12,l⟩ <;> simp at h
  rcases l with _ | ⟨b13,l⟩ <;> simp at h
  rcases l with _ | ⟨b14,l⟩ <;> simp at h
  rcases l with _ | ⟨b15,l⟩ <;> simp at h
  subst h;exact⟨_,_,_,_,_,_,_,_,_,_,_,_,_,_,_,_,rfl⟩
theorem Vn {key:List UInt8} (h:key.length=16) (r:Nat):br key (4*(r+1))=br key (4*r)++nC (kb key r) (fI r):=by
  obtain⟨b0,b1,b2,b3,b4,b5,b6,b7,b8,b9,b10,b11,b12,b13,b14,b15,e⟩:=XI (Bt h r);rw[e];refine TE (P:=(br key (4*r)).take (16*r)) ?_ _ _ _ _ _ _ _ _ _ _ _ _ _ _ _ _ key ?_
  ·rw[abg,kr h]; omega
  ·rw[← e]; exact (abP _ _).symm
def hY (key:List UInt8) (i:Nat):List UInt8:=br key (4*i)++aR (160-16*i) 0
theorem Vo {key:List UInt8} (h:key.length=16) {i:Nat} (hi:i≤10):(hY key i).length=176:=by
  unfold hY; rw[aba,kr h,be]; omega
theorem TF {key:List UInt8} (h:key.length=16):cV (aR 176 (0:UInt8)) 0 key=hY key 0:=by
  unfold cV hY aR;rw[abS,abF,acY,h]; rfl
theorem TG {key:List UInt8} (h:key.length=16) {i:Nat} (hi:i≤10):((hY key i).drop (i*16)).take 16=kb key i:=by
  unfold hY;rw[Nat.mul_comm,List.drop_append_of_le_length (by rw[kr h]; omega)];exact List.take_left' (Bt h i)
theorem TH {key:List UInt8} (h:key.length=16) {i:Nat} (hi:i<10):cV (hY key i) ((i+1)*16) (nC (kb key i) (fI i))=hY key (i+1):=by
  have hl:(br key (4*i)).length=(i+1)*16:=by rw[kr h]; omega
  unfold cV hY;rw[Vn h,List.take_append_of_le_length (by omega),aa9 (by omega),uJ,List.drop_append,abZ (by omega),abF,hl]
  congr 1
  unfold aR;rw[acY]
  congr 1
  omega
theorem TI (key:List UInt8):hY key 10=aA key:=by
  unfold hY aR aA; rw[show 160-16*10=0 from rfl,acv,abm]
set_option maxHeartbeats 3200000
def Bu (key:List UInt8) (i:Nat):St:=⟨aQ [(2,.w (.c (.ptr 2 1 0 0))),(3,.w (.c (.ptr 1 1 0 0))),(4,.w (.c (.d (bD (fI i))))),(5,.w (.c (.d (.int .i64 ((i+1:Nat):Int)))))],hL [(1,.box ((hY key i).map bC)),(2,.box ((aR 176 (0:UInt8)).map bC))],uL [1,2]⟩
theorem PS:fI 0=1:=rfl
def yV:aN := .seq (.seq (.reg [oM 10 5,oO 11 (.bin .leq (.t 10) (kI 10))]) (.cond (.t 11) (.skip) (.exit 0))) (.seq (.block 1 (.seq (.reg [oM 14 5,oM 15 5,oO 16 (.bin .sub (.t 15) (kI 1)),oO 17 (.idxPa 16 11 (.t 3) (.t 16)),oO 18 (.load (.ag 16) (.t 17)),oM 19 4,oO 20 (.call 162 [(.t 18),(.t 19)] none),oO 21 (.idxPa 16 11 (.t 3) (.t 14)),oN (.store (.ag 16) (.t 21) (.t 20))]) (.reg [oM 22 4,oO 23 (.call 163 [(.t 22)] none),oM 4 23]))) (.reg [oM 12 5,oO 13 (.bin .add (.t 12) (kI 1)),oM 5 13]))
def KB:aH:=⟨1,25,.seq (.reg [oO 2 (.alloc (aR 176 (.d (.int .u8 0))))]) (.seq (.reg [oO 3 (.alloc (aR 176 (.d (.int .u8 0))))]) (.seq (.reg [oO 6 (.idxPa 16 11 (.t 3) (kI 0)),oO 7 (.sliceArr 1 16 (.t 6) none none),oM 8 0,oO 9 (.copy 1 (.t 7) (.t 8))]) (.seq (.reg [oO 4 (.mv (.k (.c (.d (.int .u8 1)))))]) (.seq (.seq (.reg [oO 5 (.mv (kI 1))]) (.block 0 (.loop yV))) (.seq (.reg [oO 24 (.load (.ag 176) (.t 3)),oN (.store (.ag 176) (.t 2) (.t 24))]) (.ret)))))),[(2,(some (.ag 176)))]⟩
theorem Vp:aG Tryz.prog { own:=[],comp:=[],frz:=[],nils:=[] } Tryz.f148=some KB:=by kernel_rfl
theorem M3 (G:ah) (key:List UInt8) (h:key.length=16):aw Tryz.prog G 148 [.sl (key.map bD)] (.w (.c (.d (.agg ((aA key).map bD))))):=by
  refine aI Tryz.func148 Vp rfl rfl ?_;have ht:key.take 16=key:=aa9 (by omega);have h0:key++List.drop key.length (aR 176 (0:UInt8))=hY key 0:=by rw[← TF h]; simp[cV]
  have hid:=bR (hY key 0);have hid2:=bR (aR 176 (0:UInt8));simp only[KB,af,ae,aa,seval,iteOmega,toNatUp,rN,ct,be,bu,ht,iV,jH,Tj,h0];refine aU (Bu key) (fun i=>10-i) (fun i=>i≤10) 0 (abc _) ?_ ?_
  ·refine aj (fun i=>if i=1 then 24 else 16) ?_ ?_ rfl (by simp[V.ids,W.ids,C.ids,Ob.ids,bR]) <;> simp only[wx,ai,am,aa,seval,iteOmega,toNatUp,PS,DL,ft,bR]
  ·intro i hi;have hl:=Vo h hi;by_cases hlt:i<10
   ·have g1:=TG h hi;have h5:List.take ((i+1)*16) (hY key i)++nC (kb key i) (fI i)++List.drop ((i+1)*16+16) (hY key i)=hY key (i+1):=by
      rw[← TH h hlt]; unfold cV; rw[uJ]
    have hf:=uJ (kb key i) (fI i);have hx:gO (fI i)=fI (i+1):=rfl;have s1:((i:Int)+1-1).toNat=i:=by omega
    simp only[yV,Bu,ae,aa,seval,iteOmega,toNatUp,ct,hl,bu,eS,g1,iD];refine sC (Z6 G (kb key i) (fI i) (Bt h i)) ?_;simp only[ct,hl,jH,hf,bu,eS,ig,h5,ae,aa,seval,iteOmega,toNatUp];refine sC (OV G (fI i)) ?_;simp only[hx,ae,aa,seval,iteOmega,toNatUp];refine aM (i+1) (by omega) (by omega) (aj (fun i=>i) ?_ ?_ rfl (by simp[V.ids,W.ids,C.ids,Ob.ids,bR])) <;> simp only[wx,ai,am,aa,seval,iteOmega,toNatUp,ft,bR]
   ·obtain rfl:i=10:=by omega
    have e:=TI key;have e2:=rQ h;rw[e] at hl;have t1:(aA key).take 176=aA key:=aa9 (by omega);have t2:List.drop 176 (aR 176 (0:UInt8))=[]:=abZ (by rw[be]; omega);have t3:aA key++List.drop (aA key).length (aR 176 (0:UInt8))=aA key:=by rw[e2,t2,abm]
    simp only[yV,Bu,e,ae,aa,seval,iteOmega,toNatUp,ct,hl,e2,t1,t2,t3,iD,jH,be,bu,eS,ig,abm];exact mX (by simp only[ae,aa,seval,iteOmega,toNatUp,ct,hl,e2,t1,t2,t3,iD,jH,be,bu,eS,ig,abm])
theorem zN (l:List UInt8):eG ((l.map bD).map C.d)=some (l.map bD):=by
  induction l with
  | nil=>rfl
  | cons x l ih =>
    show eG (C.d (bD x)::(l.map bD).map C.d)=_
    simp only[eG,ih,abd,acl]
theorem TJ (rk b:List UInt8) (hb:b.length=16):oK b (bH (cw rk 0))=bH (gy (cw rk) (aP b) 0):=by
  have:=zK (aP b) (cw rk 0);rw[Xy hb] at this;exact this
theorem Vq (rk b:List UInt8) {n:Nat} (h:n+1<10):oK (ti (iJ (bH (gy (cw rk) (aP b) n)))) (bH (cw rk (n+1)))=bH (gy (cw rk) (aP b) (n+1)):=by
  rw[Ip,TC,zK]
  show _=bH (lW _ _ _)
  unfold lW;rw[if_pos h]
theorem TK (rk b:List UInt8):oK (iJ (bH (gy (cw rk) (aP b) 9))) (bH (cw rk 10))=dh rk b:=by
  rw[Ip,zK];rfl
def Cu (rk b:List UInt8) (i:Nat):St:=⟨aQ [(2,.w (.c (.rp (rk.map bD)))),(4,.w (.c (.pa 2 1))),(5,.w (.c (.pa 1 1))),(6,.w (.c (.d (.int .i64 ((i+1:Nat):Int)))))],hL [(1,.row 1 ((bH (gy (cw rk) (aP b) i)).map bD)),(2,.row 1 ((aR 16 (0:UInt8)).map bD))],uL [1,2]⟩
def yW:aN := .seq (.seq (.reg [oM 14 6,oO 15 (.bin .lss (.t 14) (kI 10))]) (.cond (.t 15) (.skip) (.exit 0))) (.seq (.block 1 (.reg [oO 18 (.load (.ag 16) (.t 5)),oO 19 (.call 167 [(.t 18)] none),oO 20 (.call 166 [(.t 19)] none),oM 21 6,oO 22 (.idxPa 16 11 (.t 2) (.t 21)),oO 23 (.load (.ag 16) (.t 22)),oO 24 (.call 165 [(.t 20),(.t 23)] none),oN (.store (.ag 16) (.t 5) (.t 24))])) (.reg [oM 16 6,oO 17 (.bin .add (.t 16) (kI 1)),oM 6 17]))
def KC:aH:=⟨2,30,.seq (.reg [oO 2 (.box .roBox (.t 0)),oO 4 (.allocArr [(.int .u8 0),(.int .u8 0),(.int .u8 0),(.int .u8 0),(.int .u8 0),(.int .u8 0),(.int .u8 0),(.int .u8 0),(.int .u8 0),(.int .u8 0),(.int .u8 0),(.int .u8 0),(.int .u8 0),(.int .u8 0),(.int .u8 0),(.int .u8 0)])]) (.seq (.reg [oO 5 (.allocArr [(.int .u8 0),(.int .u8 0),(.int .u8 0),(.int .u8 0),(.int .u8 0),(.int .u8 0),(.int .u8 0),(.int .u8 0),(.int .u8 0),(.int .u8 0),(.int .u8 0),(.int .u8 0),(.int .u8 0),(.int .u8 0),(.int .u8 0),(.int .u8 0)])]) (.seq (.reg [oO 7 (.sliceArr 1 16 (.t 5) none none),oM 8 1,oO 9 (.copy 1 (.t 7) (.t 8))]) (.seq (.reg [oO 10 (.load (.ag 16) (.t 5)),oO 11 (.idxPa 16 11 (.t 2) (kI 0)),oO 12 (.load (.ag 16) (.t 11)),oO 13 (.call 165 [(.t 10),(.t 12)] none),oN (.store (.ag 16) (.t 5) (.t 13))])
 (.seq (.seq (.reg [oO 6 (.mv (kI 1))]) (.block 0 (.loop yW))) (.seq (.reg [oO 25 (.load (.ag 16) (.t 5)),oO 26 (.call 167 [(.t 25)] none),oO 27 (.idxPa 16 11 (.t 2) (kI 10)),oO 28 (.load (.ag 16) (.t 27)),oO 29 (.call 165 [(.t 26),(.t 28)] none),oN (.store (.ag 16) (.t 4) (.t 29))]) (.ret)))))),[(4,(some (.ag 16)))]⟩
theorem Vr:aG Tryz.prog { own:=[],comp:=[],frz:=[],nils:=[] } Tryz.f150=some KC:=by kernel_rfl
theorem M4 (G:ah) (rk b:List UInt8) (hk:rk.length=176) (hb:b.length=16):aw Tryz.prog G 150 [.agg (rk.map bD),.sl (b.map bD)] (.w (.c (.d (.agg ((dh rk b).map bD))))):=by
  refine aI Tryz.func150 Vr rfl rfl ?_;have ht:b.take 16=b:=aa9 (by omega);have key:∀ r,r≤10→(rk.drop (16*r)).take 16=bH (cw rk r):=fun r hr=>by
    apply acf;intro j;by_cases hj:j<16
    ·rw[rR _ hj,abx,if_pos hj,abN]; exact cX (by omega)
    ·rw[abV (by rw[abg]; omega),abV (by rw[gR]; omega)]
  have d1:b++List.drop b.length (aR 16 (0:UInt8))=b:=by rw[hb,abZ (by rw[be]; omega),abm]
  have d2:List.drop 16 (aR 16 (0:UInt8))=[]:=abZ (by rw[be]; omega);have k0:=key 0 (by decide);have l0:(bH (cw rk 0)).length=16:=gR _;have t0:(bH (cw rk 0)).take 16=bH (cw rk 0):=aa9 (by rw[gR]; omega);have a0:=TJ rk b hb;have la:=gR (gy (cw rk) (aP b) 0);simp only[acM,acH] at k0;simp only[KC,af,ae,aa,seval,iteOmega,toNatUp,fC,zN,be,bu,ht,eS,ig,d1,d2,k0,iV,hb,l0,t0,abm,acs];refine sC (Cr G b (bH (cw rk 0)) hb l0) ?_;simp only[a0,la,be,ae,aa,seval,iteOmega,toNatUp];refine aU (Cu rk b) (fun i=>9-i) (fun i=>i≤9) 0 (abc _) ?_ ?_
  ·refine aj (fun i=>if i=1 then 40 else 32) ?_ ?_ rfl rfl <;> simp only[wx,ai,am,aa,seval,iteOmega,toNatUp]
  ·intro i hi;have le:=gR (gy (cw rk) (aP b) i);have hr:i+1≤10:=by omega
   have k1:=key (i+1) hr;rw[Nat.mul_comm] at k1;have l1:(bH (cw rk (i+1))).length=16:=gR _;have t1:(bH (cw rk (i+1))).take 16=bH (cw rk (i+1)):=aa9 (by rw[gR]; omega);by_cases hlt:i<9
   ·have h5:=Vq rk b (n:=i) (by omega);have le2:=gR (gy (cw rk) (aP b) (i+1));simp only[yW,Cu,ae,aa,seval,iteOmega,toNatUp,le,iV];refine sD (M1 G (bH (gy (cw rk) (aP b) i)) le) ?_;refine sC (XG G _ (uI _)) ?_;simp only[bu,eS,k1,l1,t1,ae,aa,seval,iteOmega,toNatUp];refine sC (Cr G _ _ (Io _) l1) ?_;simp only[h5,le2,le,ae,aa,seval,iteOmega,toNatUp];refine aM (i+1) (by omega) (by omega) (aj (fun i=>i) ?_ ?_ rfl rfl) <;> simp only[wx,ai,am,aa,seval,iteOmega,toNatUp]
   ·obtain rfl:i=9:=by omega
    have h5:=TK rk b;have le2:=iU rk b;simp only[yW,Cu,ae,aa,seval,iteOmega,toNatUp,le,iV];refine sC (M1 G (bH (gy (cw rk) (aP b) 9)) le) ?_;simp only[bu,eS,k1,l1,t1,ae,aa,seval,iteOmega,toNatUp];refine sC (Cr G _ _ (uI _) l1) ?_;simp only[h5,le2,be,ae,aa,seval,iteOmega,toNatUp];exact mX (by simp only[ae,aa,seval,iteOmega,toNatUp,le2,iV])
def mB (a b c:List UInt8):List UInt8:=a++b++c
theorem vt {a b c:List UInt8} (ha:a.length=176) (_:b.length=256) {j:Nat} (h:j<176):(mB a b c)[j]?=a[j]?:=by
  unfold mB; rw[abq,abO (by omega)]
theorem KD {a b c:List UInt8} (ha:a.length=176) (hb:b.length=256) {j:Nat} (h:j<256):(mB a b c)[176+j]?=b[j]?:=by
  unfold mB; rw[abq,abE (by omega),ha,ab2,abO (by omega)]
theorem Vs {a b c:List UInt8} (ha:a.length=176) (hb:b.length=256) (j:Nat):(mB a b c)[432+j]?=c[j]?:=by
  unfold mB; rw[abE (by rw[aba]; omega),aba,ha,hb,ab2]
theorem KE {a b c:List UInt8} (ha:a.length=176) (_:b.length=256) {j:Nat} (h:j<176) (x:UInt8):(mB a b c).set j x=mB (a.set j x) b c:=by
  unfold mB; rw[abq,abq,List.set_append_left _ _ (by omega)]
theorem Vt {a b c:List UInt8} (ha:a.length=176) (hb:b.length=256) (j:Nat) (x:UInt8):(mB a b c).set (432+j) x=mB a b (c.set j x):=by
  unfold mB; rw[acF _ _ (by rw[aba]; omega),aba,ha,hb,ab2]
theorem Bv {a b c:List UInt8} (ha:a.length=176) (hb:b.length=256) (hc:c.length=256):(mB a b c).length=688:=by unfold mB; rw[aba,aba,ha,hb,hc]
def DN (i:Nat):UInt8:=g9 (UInt8.ofNat i)
def qI:List UInt8:=(List.range 256).map DN
theorem KF:qI.length=256:=by unfold qI; rw[abh,acA]
theorem Vu (x:UInt8):qI[x.toNat]?=some (g9 x):=by
  have h:=fF x;unfold qI;rw[abX,acC h]
  show some (g9 (UInt8.ofNat x.toNat))=_
  rw[UInt8.ofNat_toNat]
def cY (key:List UInt8):List UInt8:=mB (aA key) kN qI
theorem Vv {i:Nat} (h:i<256):bD (UInt8.ofNat i)=.int .u8 (i:Int):=by
  unfold bD; rw[UInt8.toNat_ofNat_of_lt' (by simpa [UInt8.size] using h)]
def lv (i:Nat):List UInt8:=mB (aR 176 0) kN (bi DN (aR 256 0) i)
theorem FZ {i:Nat} (h:i≤256):(lv i).length=688:=Bv (be _ _) iT (by rw[ku _ _ (by rw[be]; omega),be])
def jg (key:List UInt8) (n k:Nat):List UInt8:=br key n++(jn (br key n) n).take k++aR (160-4*n-k) 0
def dI (key:List UInt8) (n k:Nat):List UInt8:=mB (jg key n k) kN qI
theorem oc {key:List UInt8} (h:key.length=16) {n k:Nat} (hk:k≤4) (hn:4*n+k≤160):(jg key n k).length=176:=by
  unfold jg; rw[aba,aba,kr h,abg,tY,be]; omega
theorem AG {key:List UInt8} (h:key.length=16) {n k j:Nat} (hj:j<16+4*n):(jg key n k)[j]?=some ((br key n).getD j 0):=by
  unfold jg;rw[abq,abO (by rw[kr h]; exact hj)];exact cX (by rw[kr h]; exact hj)
theorem Sf (l:List UInt8) (n:Nat) {k:Nat} (hk:k<4):(jn l n)[k]?=some (au (l.getD (4*n+k) 0) ((jI (l.drop (12+4*n)) n).getD k 0)):=by
  unfold jn; rw[abX,acC hk]; rfl
theorem Iq {key:List UInt8} (h:key.length=16) {n k:Nat} (hk:k<4) (hn:4*n+k<160) :
    (jg key n k).set (16+4*n+k) (au ((br key n).getD (4*n+k) 0) ((jI ((br key n).drop (12+4*n)) n).getD k 0))=jg key n (k+1):=by
  have hl:(br key n++(jn (br key n) n).take k).length=16+4*n+k:=by rw[aba,kr h,abg,tY]; omega
  unfold jg;rw[acF _ _ (by omega),hl,ac5];obtain⟨m,hm⟩:∃ m,160-4*n-k=m+1:=⟨160-4*n-k-1,by omega⟩
  rw[show 160-4*n-(k+1)=m by omega,hm];unfold aR;rw[List.replicate_succ,ac4,aco,Sf _ _ hk];simp
theorem Ir (key:List UInt8) (n:Nat):jg key n 4=jg key (n+1) 0:=by
  unfold jg;rw[abS,abm,br,aa9 (by rw[tY]; omega),show 160-4*n-4=160-4*(n+1)-0 by omega]
theorem TL (key:List UInt8):jg key 40 0=aA key:=by
  unfold jg aR aA; rw[show 160-4*40-0=0 from rfl,acv,abm,abS,abm]
theorem t8 {key:List UInt8} (h:key.length=16) {n k:Nat} (hk:k≤4) (hn:4*n+k≤160):(dI key n k).length=688:=Bv (oc h hk hn) iT KF
theorem DO {l:List UInt8} {j:Nat} (x:UInt8) (h:j<l.length):List.take j l++[x]++List.drop (j+1) l=l.set j x:=by
  rw[List.set_eq_take_append_cons_drop,if_pos h,abq]; rfl
theorem tj (x:UInt8):bC x=C.d (bD x):=rfl
theorem Dq (a b:List UInt8) (x:UInt8):a.map bC++[C.d (bD x)]++b.map bC=(a++[x]++b).map bC:=by rw[abk,abk]; rfl
def wP (key:List UInt8) (n:Nat):St:=⟨aQ [(2,.w (.c (.ptr 2 1 0 0))),(3,.w (.c (.ptr 1 1 0 0))),(5,.w (.c (.d (bD (fI ((n+3) / 4)))))),(6,.w (.c (.d (.int .i64 ((16+4*n:Nat):Int)))))],hL [(1,.box ((dI key n 0).map bC)),(2,.box ((aR 688 (0:UInt8)).map bC))],uL [1,2]⟩
def iL (key:List UInt8) (n:Nat):List UInt8:=jI ((br key n).drop (12+4*n)) n
theorem zO (key:List UInt8) (n:Nat):(iL key n).length=4:=by unfold iL jI; split <;> rfl
def qd (key:List UInt8) (n k:Nat):St:=⟨aQ [(2,.w (.c (.ptr 2 1 0 0))),(3,.w (.c (.ptr 1 1 0 0))),(5,.w (.c (.d (bD (fI ((n+4) / 4)))))),(6,.w (.c (.d (.int .i64 ((16+4*n:Nat):Int))))),(7,.w (.c (.pa 3 1))),(8,.w (.c (.d (.int .i64 (k:Int)))))],hL [(1,.box ((dI key n k).map bC)),(2,.box ((aR 688 (0:UInt8)).map bC)),(3,.row 1 ((iL key n).map bD))],uL [1,2,3]⟩
def Cv (key:List UInt8) (i:Nat):St:=⟨aQ [(0,.w (.c (.d (.sl (key.map bD))))),(2,.w (.c (.ptr 2 1 0 0))),(3,.w (.c (.ptr 1 1 0 0))),(4,.w (.c (.d (.int .i64 (i:Int)))))],hL [(1,.box ((lv i).map bC)),(2,.box ((aR 688 (0:UInt8)).map bC))],uL [1,2]⟩
def yX:aN := .seq (.seq (.reg [oM 11 4,oO 12 (.bin .lss (.t 11) (kI 256))]) (.cond (.t 12) (.skip) (.exit 0))) (.seq (.block 1 (.reg [oM 15 4,oM 16 4,oO 17 (.conv .u8 (.t 16)),oO 18 (.call 179 [(.t 17),(.k (.c (.d (.int .u8 2))))] none),oO 19 (.fieldAddr 432 (.t 3)),oO 20 (.idxPa 1 256 (.t 19) (.t 15)),oN (.store .sc (.t 20) (.t 18))])) (.reg [oM 13 4,oO 14 (.bin .add (.t 13) (kI 1)),oM 4 14]))
def q9:aN := .seq (.seq (.reg [oM 78 8,oO 79 (.bin .lss (.t 78) (kI 4))]) (.cond (.t 79) (.skip) (.exit 4))) (.seq (.block 5 (.reg [oM 82 6,oM 83 8,oO 84 (.bin .add (.t 82) (.t 83)),oM 85 6,oO 86 (.bin .sub (.t 85) (kI 16)),oM 87 8,oO 88 (.bin .add (.t 86) (.t 87)),oO 89 (.fieldAddr 0 (.t 3)),oO 90 (.idxPa 1 176 (.t 89) (.t 88)),oO 91 (.load .sc (.t 90)),oM 92 8,oO 93 (.idxPa 1 4 (.t 7) (.t 92)),oO 94 (.load .sc (.t 93)),oO 95 (.bin .xor (.t 91) (.t 94)),oO 96 (.fieldAddr 0 (.t 3)),oO 97 (.idxPa 1 176 (.t 96) (.t 84)),oN (.store .sc (.t 97) (.t 95))])) (.reg [oM 80 8,oO 81 (.bin .add (.t 80) (kI 1)),oM 8 81]))
def ub:aN := .seq (.seq (.reg [oM 25 6,oO 26 (.bin .lss (.t 25) (kI 176))]) (.cond (.t 26) (.skip) (.exit 2))) (.seq (.block 3 (.seq (.reg [oM 29 6,oO 30 (.bin .sub (.t 29) (kI 4)),oO 31 (.fieldAddr 0 (.t 3)),oO 32 (.idxPa 1 176 (.t 31) (.t 30)),oO 33 (.load .sc (.t 32)),oM 34 6,oO 35 (.bin .sub (.t 34) (kI 3)),oO 36 (.fieldAddr 0 (.t 3)),oO 37 (.idxPa 1 176 (.t 36) (.t 35)),oO 38 (.load .sc (.t 37)),oM 39 6,oO 40 (.bin .sub (.t 39) (kI 2)),oO 41 (.fieldAddr 0 (.t 3)),oO 42 (.idxPa 1 176 (.t 41) (.t 40)),oO 43 (.load .sc (.t 42)),oM 44 6,oO 45 (.bin .sub (.t 44) (kI 1)),oO 46 (.fieldAddr 0 (.t 3)),oO 47 (.idxPa 1 176 (.t 46) (.t 45)),oO 48 (.load .sc (.t 47)),oO 49 (.build [(.d (.int .u8 0)),(.d (.int .u8 0)),(.d (.int .u8 0)),(.d (.int .u8 0))] [(0,1,(.t 33)),(1,1,(.t 38)),(2,1,(.t 43)),(3,1,(.t 48))]),
 oO 7 (.allocArr [(.int .u8 0),(.int .u8 0),(.int .u8 0),(.int .u8 0)]),oN (.store (.ag 4) (.t 7) (.t 49))]) (.seq (.seq (.reg [oM 50 6,oO 51 (.bin .rem (.t 50) (kI 16)),oO 52 (.bin .eql (.t 51) (kI 0))]) (.cond (.t 52) (.seq (.reg [oO 53 (.idxPa 1 4 (.t 7) (kI 1)),oO 54 (.load .sc (.t 53)),oO 55 (.fieldAddr 176 (.t 3)),oO 56 (.idxPa 1 256 (.t 55) (.t 54)),oO 57 (.load .sc (.t 56)),oM 58 5,oO 59 (.bin .xor (.t 57) (.t 58)),oO 60 (.idxPa 1 4 (.t 7) (kI 2)),oO 61 (.load .sc (.t 60)),oO 62 (.fieldAddr 176 (.t 3)),oO 63 (.idxPa 1 256 (.t 62) (.t 61)),oO 64 (.load .sc (.t 63)),oO 65 (.idxPa 1 4 (.t 7) (kI 3)),oO 66 (.load .sc (.t 65)),oO 67 (.fieldAddr 176 (.t 3)),oO 68 (.idxPa 1 256 (.t 67) (.t 66)),oO 69 (.load .sc (.t 68)),oO 70 (.idxPa 1 4 (.t 7) (kI 0)),oO 71 (.load .sc (.t 70)),oO 72 (.fieldAddr 176 (.t 3)),
 oO 73 (.idxPa 1 256 (.t 72) (.t 71)),oO 74 (.load .sc (.t 73)),oO 75 (.build [(.d (.int .u8 0)),(.d (.int .u8 0)),(.d (.int .u8 0)),(.d (.int .u8 0))] [(0,1,(.t 59)),(1,1,(.t 64)),(2,1,(.t 69)),(3,1,(.t 74))]),oN (.store (.ag 4) (.t 7) (.t 75))]) (.reg [oM 76 5,oO 77 (.call 179 [(.t 76),(.k (.c (.d (.int .u8 2))))] none),oM 5 77])) (.skip))) (.seq (.reg [oO 8 (.mv (kI 0))]) (.block 4 (.loop q9)))))) (.reg [oM 27 6,oO 28 (.bin .add (.t 27) (kI 4)),oM 6 28]))
def KG:aH:=⟨1,99,.seq (.reg [oO 2 (.alloc (aR 688 (.d (.int .u8 0))))]) (.seq (.reg [oO 9 (.call 178 [] none),oO 10 (.build (aR 688 (.d (.int .u8 0))) [(176,256,(.t 9))]),oO 3 (.alloc (aR 688 (.d (.int .u8 0)))),oN (.store (.ag 688) (.t 3) (.t 10))]) (.seq (.seq (.reg [oO 4 (.mv (kI 0))]) (.block 0 (.loop yX))) (.seq (.reg [oO 21 (.fieldAddr 0 (.t 3)),oO 22 (.sliceArr 1 176 (.t 21) none none),oM 23 0,oO 24 (.copy 1 (.t 22) (.t 23))]) (.seq (.reg [oO 5 (.mv (.k (.c (.d (.int .u8 1)))))]) (.seq (.seq (.reg [oO 6 (.mv (kI 16))]) (.block 2 (.loop ub))) (.seq (.reg [oO 98 (.load (.ag 688) (.t 3)),oN (.store (.ag 688) (.t 2) (.t 98))]) (.ret))))))),[(2,(some (.ag 688)))]⟩
theorem Vw:aG Tryz.prog { own:=[],comp:=[],frz:=[],nils:=[] } Tryz.f159=some KG:=by kernel_rfl
set_option maxRecDepth 20000 in
set_option maxHeartbeats 6400000 in
theorem Bw (G:ah) (key:List UInt8) (h:key.length=16):aw Tryz.prog G 159 [.sl (key.map bD)] (.w (.c (.d (.agg ((cY key).map bD))))):=by
  refine aI Tryz.func159 Vw rfl rfl ?_;simp only[KG,af,ae,aa,seval,iteOmega,toNatUp];have q0:List.take 176 (aR 688 (0:UInt8))++kN++List.drop 432 (aR 688 (0:UInt8))=lv 0:=by
    unfold lv mB; rw[kZ]; unfold aR; rw[List.take_replicate,acY]; rfl
  have r1:(List.take 176 (aR 688 (0:UInt8))).length=176:=by rw[abg,be]; rfl
  have r2:(List.drop 432 (aR 688 (0:UInt8))).length=256:=by rw[abi,be]
  have r4:List.drop 688 (aR 688 (0:UInt8))=[]:=abZ (by rw[be]; omega);have q0l:=FZ (abc 256);refine sC (XD G) ?_;simp only[rN,ct,be,iT,bu,eS,jH,ig,iD,r1,r2,r4,q0,q0l,abm,ae,aa,seval,iteOmega,toNatUp];refine aU (Cv key) (fun i=>256-i) (fun i=>i≤256) 0 (abc _) ?_ ?_
  ·refine aj (fun i=>if i=1 then 24 else 16) ?_ ?_ rfl (by simp[V.ids,W.ids,C.ids,Ob.ids,bR]) <;> simp only[wx,ai,am,aa,seval,iteOmega,toNatUp,ft,bR]
  ·intro i hi;have hl:=FZ hi;by_cases hlt:i<256
   ·have h1:UInt8.ofNat i*1=UInt8.ofNat i:=by simp
    have hc:=vZ G (UInt8.ofNat i) 2;rw[Vv hlt] at hc;have hs:List.take (432+i) (lv i)++[fu (UInt8.ofNat i) 2]++List.drop (432+i+1) (lv i)=lv (i+1):=by
      rw[DO _ (by omega)];unfold lv;rw[Vt (be _ _) iT]
      congr 1
      exact k8 DN _ (by rw[be]; exact hlt)
    simp only[yX,Cv,ae,aa,seval,iteOmega,toNatUp];refine sC (hc) ?_;simp only[ct,hl,bu,eS,Dq,hs,ae,aa,seval,iteOmega,toNatUp];refine aM (i+1) (by omega) (by omega) (aj (fun i=>i) ?_ ?_ rfl (by simp[V.ids,W.ids,C.ids,Ob.ids,bR])) <;> simp only[wx,ai,am,aa,seval,iteOmega,toNatUp,ft,bR]
   ·obtain rfl:i=256:=by omega
    have ht:key.take 176=key:=aa9 (by omega);have e0:key++List.drop 16 (lv 256)=dI key 0 0:=by
      unfold lv dI mB jg;rw[uH _ _ (by rw[be]; omega),abq,List.drop_append_of_le_length (by rw[be]; decide)];unfold aR;rw[acY,abS,abm]
      show key++(_++_)=key++_++_++_
      simp only[abq];rfl
    simp only[yX,Cv,ae,aa,seval,iteOmega,toNatUp,ct,hl,h,ht,iV,jH,bu,eS,ig,e0];have hp0:=t8 h (n:=0) (k:=0) (by decide) (by decide);refine aU (wP key) (fun n=>40-n) (fun n=>n≤40) 0 (abc _) ?_ ?_
    ·refine aj (fun i=>i) ?_ ?_ rfl (by simp[V.ids,W.ids,C.ids,Ob.ids,bR]) <;> simp only[wx,ai,am,aa,seval,iteOmega,toNatUp,ft,bR,PS,DL]
    ·intro n hn;have hl2:=t8 h (n:=n) (k:=0) (by decide) (by omega);by_cases hlt2:n<40
     ·have old:∀ j,j<16+4*n→(dI key n 0)[j]?=some ((br key n).getD j 0):=fun j hj=>by
        unfold dI;rw[vt (oc h (by decide) (by omega)) iT (by omega),AG h hj]
      have o0:=old (12+4*n) (by omega);have o1:=old (13+4*n) (by omega);have o2:=old (14+4*n) (by omega);have o3:=old (15+4*n) (by omega);have e0:16+4*n-4=12+4*n:=by omega
      have e1:16+4*n-3=13+4*n:=by omega
      have e2:16+4*n-2=14+4*n:=by omega
      have e3:16+4*n-1=15+4*n:=by omega
      have htl0:=zO key n;have tm:Int.tmod (16+4*(n:Int)) 16=(((16+4*n)%16:Nat):Int):=jJ (16+4*n) 16;by_cases hm:n%4=0
      ·have m16:(16+4*n)%16=0:=by omega
       rw[m16] at tm;have ecn:(n+3) / 4=n / 4:=by omega
       have box:∀ x:UInt8,(dI key n 0)[176+x.toNat]?=some (dr x):=fun x=>by
         unfold dI;rw[KD (oc h (by decide) (by omega)) iT (fF x)]; exact zI x
       have hT:[bD (au (dr ((br key n).getD (13+4*n) 0)) (fI (n / 4))),bD (dr ((br key n).getD (14+4*n) 0)),bD (dr ((br key n).getD (15+4*n) 0)),bD (dr ((br key n).getD (12+4*n) 0))]=(iL key n).map bD:=by
         unfold iL jI;rw[if_pos hm];have g:∀ j,((br key n).drop (12+4*n)).getD j 0=(br key n).getD (12+4*n+j) 0:=fun j=>by simp[abb]
         simp only[g,abd,abo];rw[show 12+4*n+1=13+4*n by omega,show 12+4*n+2=14+4*n by omega,show 12+4*n+3=15+4*n by omega];rfl
       have l0:=fF ((br key n).getD (12+4*n) 0);have l1:=fF ((br key n).getD (13+4*n) 0);have l2:=fF ((br key n).getD (14+4*n) 0);have l3:=fF ((br key n).getD (15+4*n) 0);have b0:=box ((br key n).getD (12+4*n) 0);have b1:=box ((br key n).getD (13+4*n) 0);have b2:=box ((br key n).getD (14+4*n) 0);have b3:=box ((br key n).getD (15+4*n) 0);have x0:=dp (dr ((br key n).getD (13+4*n) 0)) (fI (n / 4));have cs:=Sb (n / 4);have ec4:(n+4) / 4=n / 4+1:=by omega
       simp only[ub,wP,ecn,ae,aa,seval,iteOmega,toNatUp,ct,hl2,aC,e0,e1,e2,e3,o0,o1,o2,o3,tj,tm,b0,b1,b2,b3,x0,hT,htl0];refine sC (vZ G (fI (n / 4)) 2) ?_;simp only[cs,ae,aa,seval,iteOmega,toNatUp];refine aU (qd key n) (fun k=>4-k) (fun k=>k≤4) 0 (abc _) ?_ ?_
       ·refine aj (fun i=>if i=3 then 56 else i) ?_ ?_ rfl (by simp[V.ids,W.ids,C.ids,Ob.ids,bR]) <;> simp only[wx,ai,am,aa,seval,iteOmega,toNatUp,ft,bR,ec4]
       ·intro k hk;have hl3:=t8 h (n:=n) (k:=k) hk (by omega);have htl:=zO key n;by_cases hlt3:k<4
        ·have p1:(dI key n k)[4*n+k]?=some ((br key n).getD (4*n+k) 0):=by
           unfold dI;rw[vt (oc h hk (by omega)) iT (by omega),AG h (by omega)]
         have p2:(iL key n)[k]?=some ((iL key n).getD k 0):=cX (by omega);have x1:=dp ((br key n).getD (4*n+k) 0) ((iL key n).getD k 0);have e4:16+4*n-16+k=4*n+k:=by omega
         have hs:List.take (16+4*n+k) (dI key n k)++[au ((br key n).getD (4*n+k) 0) ((iL key n).getD k 0)]++List.drop (16+4*n+k+1) (dI key n k)=dI key n (k+1):=by
           rw[DO _ (by omega)];unfold dI;rw[KE (oc h hk (by omega)) iT (by omega)]
           congr 1
           exact Iq h hlt3 (by omega)
         simp only[q9,qd,ae,aa,seval,iteOmega,toNatUp,ct,hl3,htl,aC,e4,p1,p2,tj,x1,bu,eS,Dq,hs];refine aM (k+1) (by omega) (by omega) (aj (fun i=>i) ?_ ?_ rfl (by simp[V.ids,W.ids,C.ids,Ob.ids,bR])) <;> simp only[wx,ai,am,aa,seval,iteOmega,toNatUp,ft,bR]
        ·obtain rfl:k=4:=by omega
         have e5:dI key n 4=dI key (n+1) 0:=by unfold dI; rw[Ir]
         have e6:(n+4) / 4=(n+1+3) / 4:=by omega
         simp only[q9,qd,e5,e6,ae,aa,seval,iteOmega,toNatUp];refine aM (n+1) (by omega) (by omega) (aj (fun i=>i) ?_ ?_ rfl (by simp[V.ids,W.ids,C.ids,Ob.ids,bR])) <;> simp only[wx,ai,am,aa,seval,iteOmega,toNatUp,ft,bR]
         all_goals rw[show (16+4*(n:Int)+4)=16+4*((n:Int)+1) by omega]
      ·have m16:(16+4*n)%16≠0:=by omega
       have hb16:(16+4*n)%16<16:=ach _ (by decide);generalize (16+4*n)%16=z at *
       have hT:[bD ((br key n).getD (12+4*n) 0),bD ((br key n).getD (13+4*n) 0),bD ((br key n).getD (14+4*n) 0),bD ((br key n).getD (15+4*n) 0)]=(iL key n).map bD:=by
         unfold iL jI;rw[if_neg hm];have g:∀ j,((br key n).drop (12+4*n)).getD j 0=(br key n).getD (12+4*n+j) 0:=fun j=>by simp[abb]
         simp only[g,abd,abo];rw[show 12+4*n+1=13+4*n by omega,show 12+4*n+2=14+4*n by omega,show 12+4*n+3=15+4*n by omega];rfl
       have ecn:(n+3) / 4=(n+4) / 4:=by omega
       simp only[ub,wP,ecn,ae,aa,seval,iteOmega,toNatUp,ct,hl2,aC,e0,e1,e2,e3,o0,o1,o2,o3,tj,tm,hT,htl0];refine aU (qd key n) (fun k=>4-k) (fun k=>k≤4) 0 (abc _) ?_ ?_
       ·refine aj (fun i=>if i=3 then 56 else i) ?_ ?_ rfl (by simp[V.ids,W.ids,C.ids,Ob.ids,bR]) <;> simp only[wx,ai,am,aa,seval,iteOmega,toNatUp,ft,bR]
       ·intro k hk;have hl3:=t8 h (n:=n) (k:=k) hk (by omega);have htl:=zO key n;by_cases hlt3:k<4
        ·have p1:(dI key n k)[4*n+k]?=some ((br key n).getD (4*n+k) 0):=by
           unfold dI;rw[vt (oc h hk (by omega)) iT (by omega),AG h (by omega)]
         have p2:(iL key n)[k]?=some ((iL key n).getD k 0):=cX (by omega);have x1:=dp ((br key n).getD (4*n+k) 0) ((iL key n).getD k 0);have e4:16+4*n-16+k=4*n+k:=by omega
         have hs:List.take (16+4*n+k) (dI key n k)++[au ((br key n).getD (4*n+k) 0) ((iL key n).getD k 0)]++List.drop (16+4*n+k+1) (dI key n k)=dI key n (k+1):=by
           rw[DO _ (by omega)];unfold dI;rw[KE (oc h hk (by omega)) iT (by omega)]
           congr 1
           exact Iq h hlt3 (by omega)
         simp only[q9,qd,ae,aa,seval,iteOmega,toNatUp,ct,hl3,htl,aC,e4,p1,p2,tj,x1,bu,eS,Dq,hs];refine aM (k+1) (by omega) (by omega) (aj (fun i=>i) ?_ ?_ rfl (by simp[V.ids,W.ids,C.ids,Ob.ids,bR])) <;> simp only[wx,ai,am,aa,seval,iteOmega,toNatUp,ft,bR]
        ·obtain rfl:k=4:=by omega
         have e5:dI key n 4=dI key (n+1) 0:=by unfold dI; rw[Ir]
         have e6:(n+4) / 4=(n+1+3) / 4:=by omega
         simp only[q9,qd,e5,e6,ae,aa,seval,iteOmega,toNatUp];refine aM (n+1) (by omega) (by omega) (aj (fun i=>i) ?_ ?_ rfl (by simp[V.ids,W.ids,C.ids,Ob.ids,bR])) <;> simp only[wx,ai,am,aa,seval,iteOmega,toNatUp,ft,bR]
         all_goals rw[show (16+4*(n:Int)+4)=16+4*((n:Int)+1) by omega]
     ·obtain rfl:n=40:=by omega
      have e:dI key 40 0=cY key:=by unfold dI cY; rw[TL]
      rw[e] at hl2;have u1:List.take 688 (cY key)=cY key:=aa9 (by omega);have r4:List.drop 688 (aR 688 (0:UInt8))=[]:=abZ (by rw[be]; omega);have r5:cY key++List.drop (cY key).length (aR 688 (0:UInt8))=cY key:=by rw[hl2,r4,abm]
      simp only[ub,wP,e,ae,aa,seval,iteOmega,toNatUp,ct,hl2,u1,r4,r5,iD,jH,be,bu,eS,ig,abm];exact mX (by simp only[ae,aa,seval,iteOmega,toNatUp,ct,hl2,u1,r4,r5,iD,jH,be,bu,eS,ig,abm])
theorem uc {key:List UInt8} (h:key.length=16):(cY key).length=688:=Bv (rQ h) iT KF
def Cw (key b:List UInt8) (i:Nat):St:=⟨aQ [(1,.w (.c (.d (.sl (b.map bD))))),(2,.w (.c (.rp ((cY key).map bD)))),(5,.w (.c (.pa 1 1))),(6,.w (.c (.d (.int .i64 (i:Int)))))],hL [(1,.row 1 ((bi (eE (aP b) (cw (aA key) 0)) (aR 16 (0:UInt8)) i).map bD))],uL [1]⟩
def Cx (key b:List UInt8) (n:Nat):St:=⟨aQ [(2,.w (.c (.rp ((cY key).map bD)))),(5,.w (.c (.pa 1 1))),(7,.w (.c (.d (.int .i64 ((n+1:Nat):Int)))))],hL [(1,.row 1 ((bH (gy (cw (aA key)) (aP b) n)).map bD))],uL [1]⟩
def Cy (key s:List UInt8) (n c:Nat):St:=⟨aQ [(2,.w (.c (.rp ((cY key).map bD)))),(5,.w (.c (.pa 1 1))),(7,.w (.c (.d (.int .i64 ((n+1:Nat):Int))))),(8,.w (.c (.pa 2 1))),(9,.w (.c (.d (.int .i64 (c:Int)))))],hL [(1,.row 1 (s.map bD)),(2,.row 1 ((bi (bS (aP s)) (aR 16 (0:UInt8)) (4*c)).map bD))],uL [1,2]⟩
def Cz (key s:List UInt8) (n c r:Nat):St:=⟨aQ [(2,.w (.c (.rp ((cY key).map bD)))),(5,.w (.c (.pa 1 1))),(7,.w (.c (.d (.int .i64 ((n+1:Nat):Int))))),(8,.w (.c (.pa 2 1))),(9,.w (.c (.d (.int .i64 (c:Int))))),(10,.w (.c (.d (.int .i64 (r:Int)))))],hL [(1,.row 1 (s.map bD)),(2,.row 1 ((bi (bS (aP s)) (aR 16 (0:UInt8)) (4*c+r)).map bD))],uL [1,2]⟩
def jT (key s:List UInt8) (n:Nat):dN:=lW (cw (aA key)) (aP s) (n+1)
def CB (key s:List UInt8) (n c:Nat):St:=⟨aQ [(2,.w (.c (.rp ((cY key).map bD)))),(5,.w (.c (.pa 1 1))),(7,.w (.c (.d (.int .i64 ((n+1:Nat):Int))))),(8,.w (.c (.pa 2 1))),(11,.w (.c (.d (.int .i64 (c:Int)))))],hL [(1,.row 1 ((bi (jT key s n) s (4*c)).map bD)),(2,.row 1 ((iJ s).map bD))],uL [1,2]⟩
def wQ (key s:List UInt8) (n c r:Nat):St:=⟨aQ [(2,.w (.c (.rp ((cY key).map bD)))),(5,.w (.c (.pa 1 1))),(7,.w (.c (.d (.int .i64 ((n+1:Nat):Int))))),(8,.w (.c (.pa 2 1))),(11,.w (.c (.d (.int .i64 (c:Int))))),(12,.w (.c (.pa 3 1))),(13,.w (.c (.d (.int .i64 (r:Int)))))],hL [(1,.row 1 ((bi (jT key s n) s (4*c+r)).map bD)),(2,.row 1 ((iJ s).map bD)),(3,.row 1 ((((iJ s).drop (4*c)).take 4).map bD))],uL [1,2,3]⟩
theorem Vx (k:Nat→dN) (f:dN) (n:Nat):bH (lW k (aP (bH f)) (n+1))=bH (lW k f (n+1)):=tZ fun j hj=>by
  unfold lW;split
  ·unfold eE io bS;rw[jD f _ (by omega),jD f _ (by omega),jD f _ (by omega),jD f _ (by omega)]
  ·unfold eE bS;rw[jD f _ (by omega)]
def yY:aN := .seq (.seq (.reg [oM 15 6,oO 16 (.bin .lss (.t 15) (kI 16))]) (.cond (.t 16) (.skip) (.exit 0))) (.seq (.block 1 (.reg [oM 19 6,oM 20 1,oM 21 6,oO 22 (.idxSl 1 (.t 20) (.t 21)),oO 23 (.load .sc (.t 22)),oM 24 6,oO 25 (.fieldAddr 0 (.t 2)),oO 26 (.idxPa 1 176 (.t 25) (.t 24)),oO 27 (.load .sc (.t 26)),oO 28 (.bin .xor (.t 23) (.t 27)),oO 29 (.idxPa 1 16 (.t 5) (.t 19)),oN (.store .sc (.t 29) (.t 28))])) (.reg [oM 17 6,oO 18 (.bin .add (.t 17) (kI 1)),oM 6 18]))
def yZ:aN := .seq (.seq (.reg [oM 38 10,oO 39 (.bin .lss (.t 38) (kI 4))]) (.cond (.t 39) (.skip) (.exit 6))) (.seq (.block 7 (.reg [oM 42 10,oM 43 9,oO 44 (.bin .mul (kI 4) (.t 43)),oO 45 (.bin .add (.t 42) (.t 44)),oM 46 10,oM 47 9,oM 48 10,oO 49 (.bin .add (.t 47) (.t 48)),oO 50 (.bin .rem (.t 49) (kI 4)),oO 51 (.bin .mul (kI 4) (.t 50)),oO 52 (.bin .add (.t 46) (.t 51)),oO 53 (.idxPa 1 16 (.t 5) (.t 52)),oO 54 (.load .sc (.t 53)),oO 55 (.fieldAddr 176 (.t 2)),oO 56 (.idxPa 1 256 (.t 55) (.t 54)),oO 57 (.load .sc (.t 56)),oO 58 (.idxPa 1 16 (.t 8) (.t 45)),oN (.store .sc (.t 58) (.t 57))])) (.reg [oM 40 10,oO 41 (.bin .add (.t 40) (kI 1)),oM 10 41]))
def y5:aN := .seq (.seq (.reg [oM 34 9,oO 35 (.bin .lss (.t 34) (kI 4))]) (.cond (.t 35) (.skip) (.exit 4))) (.seq (.block 5 (.seq (.reg [oO 10 (.mv (kI 0))]) (.block 6 (.loop yZ)))) (.reg [oM 36 9,oO 37 (.bin .add (.t 36) (kI 1)),oM 9 37]))
def ud:aN := .seq (.seq (.reg [oM 83 13,oO 84 (.bin .lss (.t 83) (kI 4))]) (.cond (.t 84) (.skip) (.exit 10))) (.seq (.block 11 (.seq (.reg [oM 87 13,oO 88 (.idxPa 1 4 (.t 12) (.t 87)),oO 89 (.load .sc (.t 88)),oM 14 89]) (.seq (.seq (.reg [oM 90 7,oO 91 (.bin .lss (.t 90) (kI 10))]) (.cond (.t 91) (.reg [oM 92 13,oO 93 (.idxPa 1 4 (.t 12) (.t 92)),oO 94 (.load .sc (.t 93)),oO 95 (.fieldAddr 432 (.t 2)),oO 96 (.idxPa 1 256 (.t 95) (.t 94)),oO 97 (.load .sc (.t 96)),oM 98 13,oO 99 (.bin .add (.t 98) (kI 1)),oO 100 (.bin .rem (.t 99) (kI 4)),oO 101 (.idxPa 1 4 (.t 12) (.t 100)),oO 102 (.load .sc (.t 101)),oO 103 (.fieldAddr 432 (.t 2)),oO 104 (.idxPa 1 256 (.t 103) (.t 102)),oO 105 (.load .sc (.t 104)),oO 106 (.bin .xor (.t 97) (.t 105)),oM 107 13,oO 108 (.bin .add (.t 107) (kI 1)),
 oO 109 (.bin .rem (.t 108) (kI 4)),oO 110 (.idxPa 1 4 (.t 12) (.t 109)),oO 111 (.load .sc (.t 110)),oO 112 (.bin .xor (.t 106) (.t 111)),oM 113 13,oO 114 (.bin .add (.t 113) (kI 2)),oO 115 (.bin .rem (.t 114) (kI 4)),oO 116 (.idxPa 1 4 (.t 12) (.t 115)),oO 117 (.load .sc (.t 116)),oO 118 (.bin .xor (.t 112) (.t 117)),oM 119 13,oO 120 (.bin .add (.t 119) (kI 3)),oO 121 (.bin .rem (.t 120) (kI 4)),oO 122 (.idxPa 1 4 (.t 12) (.t 121)),oO 123 (.load .sc (.t 122)),oO 124 (.bin .xor (.t 118) (.t 123)),oM 14 124]) (.skip))) (.reg [oM 125 13,oM 126 11,oO 127 (.bin .mul (kI 4) (.t 126)),oO 128 (.bin .add (.t 125) (.t 127)),oM 129 14,oM 130 7,oO 131 (.bin .mul (kI 16) (.t 130)),oM 132 13,oO 133 (.bin .add (.t 131) (.t 132)),oM 134 11,oO 135 (.bin .mul (kI 4) (.t 134)),oO 136 (.bin .add (.t 133) (.t 135)),
 oO 137 (.fieldAddr 0 (.t 2)),oO 138 (.idxPa 1 176 (.t 137) (.t 136)),oO 139 (.load .sc (.t 138)),oO 140 (.bin .xor (.t 129) (.t 139)),oO 141 (.idxPa 1 16 (.t 5) (.t 128)),oN (.store .sc (.t 141) (.t 140))])))) (.reg [oM 85 13,oO 86 (.bin .add (.t 85) (kI 1)),oM 13 86]))
def y6:aN := .seq (.seq (.reg [oM 59 11,oO 60 (.bin .lss (.t 59) (kI 4))]) (.cond (.t 60) (.skip) (.exit 8))) (.seq (.block 9 (.seq (.reg [oM 63 11,oO 64 (.bin .mul (kI 4) (.t 63)),oO 65 (.idxPa 1 16 (.t 8) (.t 64)),oO 66 (.load .sc (.t 65)),oM 67 11,oO 68 (.bin .mul (kI 4) (.t 67)),oO 69 (.bin .add (.t 68) (kI 1)),oO 70 (.idxPa 1 16 (.t 8) (.t 69)),oO 71 (.load .sc (.t 70)),oM 72 11,oO 73 (.bin .mul (kI 4) (.t 72)),oO 74 (.bin .add (.t 73) (kI 2)),oO 75 (.idxPa 1 16 (.t 8) (.t 74)),oO 76 (.load .sc (.t 75)),oM 77 11,oO 78 (.bin .mul (kI 4) (.t 77)),oO 79 (.bin .add (.t 78) (kI 3)),oO 80 (.idxPa 1 16 (.t 8) (.t 79)),oO 81 (.load .sc (.t 80)),oO 82 (.build [(.d (.int .u8 0)),(.d (.int .u8 0)),(.d (.int .u8 0)),(.d (.int .u8 0))] [(0,1,(.t 66)),(1,1,(.t 71)),(2,1,(.t 76)),(3,1,(.t 81))]),
 oO 12 (.allocArr [(.int .u8 0),(.int .u8 0),(.int .u8 0),(.int .u8 0)]),oN (.store (.ag 4) (.t 12) (.t 82))]) (.seq (.reg [oO 13 (.mv (kI 0))]) (.block 10 (.loop ud))))) (.reg [oM 61 11,oO 62 (.bin .add (.t 61) (kI 1)),oM 11 62]))
def y8:aN := .seq (.seq (.reg [oM 30 7,oO 31 (.bin .leq (.t 30) (kI 10))]) (.cond (.t 31) (.skip) (.exit 2))) (.seq (.block 3 (.seq (.reg [oO 8 (.allocArr [(.int .u8 0),(.int .u8 0),(.int .u8 0),(.int .u8 0),(.int .u8 0),(.int .u8 0),(.int .u8 0),(.int .u8 0),(.int .u8 0),(.int .u8 0),(.int .u8 0),(.int .u8 0),(.int .u8 0),(.int .u8 0),(.int .u8 0),(.int .u8 0)])]) (.seq (.seq (.reg [oO 9 (.mv (kI 0))]) (.block 4 (.loop y5))) (.seq (.reg [oO 11 (.mv (kI 0))]) (.block 8 (.loop y6)))))) (.reg [oM 32 7,oO 33 (.bin .add (.t 32) (kI 1)),oM 7 33]))
def KH:aH:=⟨2,145,.seq (.reg [oO 2 (.box .roBox (.t 0)),oO 4 (.mv (.k (.c .nil)))]) (.seq (.reg [oO 5 (.allocArr [(.int .u8 0),(.int .u8 0),(.int .u8 0),(.int .u8 0),(.int .u8 0),(.int .u8 0),(.int .u8 0),(.int .u8 0),(.int .u8 0),(.int .u8 0),(.int .u8 0),(.int .u8 0),(.int .u8 0),(.int .u8 0),(.int .u8 0),(.int .u8 0)])]) (.seq (.seq (.reg [oO 6 (.mv (kI 0))]) (.block 0 (.loop yY))) (.seq (.seq (.reg [oO 7 (.mv (kI 1))]) (.block 2 (.loop y8))) (.seq (.reg [oO 142 (.bldSl false 0 1 (.int .u8 0) []),oO 143 (.sliceArr 1 16 (.t 5) none none),oO 144 (.appN false 1 1 (.t 142) (.t 143)),oM 4 144]) (.ret))))),[(4,none)]⟩
theorem Vy:aG Tryz.prog { own:=[],comp:=[],frz:=[],nils:=[144] } Tryz.f160=some KH:=by kernel_rfl
set_option maxRecDepth 20000 in
set_option maxHeartbeats 6400000 in
theorem sr (G:ah) (key b:List UInt8) (h:key.length=16) (hb:b.length=16):aw Tryz.prog G 160 [.agg ((cY key).map bD),.sl (b.map bD)] (.w (.c (.fr 1 ((kB key b).map bD)))):=by
  refine aI Tryz.func160 Vy rfl rfl ?_;have hM:=uc h;have hrk:=rQ h;have kat:∀ j,j<176→(((cY key).drop j).take 1)[0]?=some ((aA key).getD j 0):=fun j hj=>by
    rw[abx,if_pos (by decide),abN];unfold cY;rw[vt hrk iT (by omega),cX (by omega)]; rfl
  have bat:∀ x:UInt8,((((cY key).drop 176).drop x.toNat).take 1)[0]?=some (dr x):=fun x=>by
    rw[abx,if_pos (by decide),abN,abN];unfold cY;rw[ab8,KD hrk iT (fF x)]; exact zI x
  have tat:∀ x:UInt8,((((cY key).drop 432).drop x.toNat).take 1)[0]?=some (g9 x):=fun x=>by
    rw[abx,if_pos (by decide),abN,abN];unfold cY;rw[ab8,Vs hrk iT]; exact Vu x
  simp only[KH,af,ae,aa,seval,iteOmega,toNatUp,fC,zN];refine aU (Cw key b) (fun i=>16-i) (fun i=>i≤16) 0 (abc _) ?_ ?_
  ·refine aj (fun i=>40) ?_ ?_ rfl rfl <;> simp only[wx,ai,am,aa,seval,iteOmega,toNatUp,kZ]
  ·intro i hi;have hl:(bi (eE (aP b) (cw (aA key) 0)) (aR 16 (0:UInt8)) i).length=16:=by rw[ku _ _ (by rw[be]; omega),be]
   by_cases hlt:i<16
   ·have g1:b[i]?=some (b.getD i 0):=cX (by omega);have g2:=kat i (by omega);have x1:=dp (b.getD i 0) ((aA key).getD i 0);have h3:i<(bi (eE (aP b) (cw (aA key) 0)) (aR 16 (0:UInt8)) i).length:=by omega
    have h5:(bi (eE (aP b) (cw (aA key) 0)) (aR 16 (0:UInt8)) i).set i (au (b.getD i 0) ((aA key).getD i 0))=bi (eE (aP b) (cw (aA key) 0)) (aR 16 (0:UInt8)) (i+1):=by
      rw[← k8 (eE (aP b) (cw (aA key) 0)) (aR 16 (0:UInt8)) (by rw[be]; omega)];unfold eE cw aP;rw[acM,ab5]
    simp only[yY,Cw,ae,aa,seval,iteOmega,toNatUp,ct,hM,aC,bu,eS,g1,g2,x1,dH h3 (du _),eV,h5,hl];refine aM (i+1) (by omega) (by omega) (aj (fun i=>i) ?_ ?_ rfl rfl) <;> simp only[wx,ai,am,aa,seval,iteOmega,toNatUp]
   ·obtain rfl:i=16:=by omega
    have e:bi (eE (aP b) (cw (aA key) 0)) (aR 16 (0:UInt8)) 16=bH (gy (cw (aA key)) (aP b) 0):=oa _ (be _ _);simp only[yY,Cw,e,ae,aa,seval,iteOmega,toNatUp];refine aU (Cx key b) (fun n=>10-n) (fun n=>n≤10) 0 (abc _) ?_ ?_
    ·refine aj (fun i=>i) ?_ ?_ rfl rfl <;> simp only[wx,ai,am,aa,seval,iteOmega,toNatUp]
    ·intro n hn;by_cases hlt2:n<10
     ·simp only[y8,Cx,ae,aa,seval,iteOmega,toNatUp,fC];have hs:(bH (gy (cw (aA key)) (aP b) n)).length=16:=gR _;have hnext:bH (jT key (bH (gy (cw (aA key)) (aP b) n)) n)=bH (gy (cw (aA key)) (aP b) (n+1)):=Vx _ _ _;generalize bH (gy (cw (aA key)) (aP b) n)=s at *
      refine aU (Cy key s n) (fun c=>4-c) (fun c=>c≤4) 0 (abc _) ?_ ?_
      ·refine aj (fun i=>if i=1 then 1 else 64) ?_ ?_ rfl rfl <;> simp only[wx,ai,am,aa,seval,iteOmega,toNatUp,kZ]
      ·intro c hc;by_cases hlt3:c<4
       ·simp only[y5,Cy,ae,aa,seval,iteOmega,toNatUp];refine aU (Cz key s n c) (fun r=>4-r) (fun r=>r≤4) 0 (abc _) ?_ ?_
        ·refine aj (fun i=>i) ?_ ?_ rfl rfl <;> simp only[wx,ai,am,aa,seval,iteOmega,toNatUp,ab8]
        ·intro r hr;by_cases hlt4:r<4
         ·have hl:(bi (bS (aP s)) (aR 16 (0:UInt8)) (4*c+r)).length=16:=by rw[ku _ _ (by rw[be]; omega),be]
          have t1:Int.tmod ((c:Int)+(r:Int)) 4=(((c+r)%4:Nat):Int):=jJ (c+r) 4;have hm:(c+r)%4<4:=ach _ (by decide);have g1:s[r+4*((c+r)%4)]?=some (aP s (r+4*((c+r)%4))):=cX (by omega);have eidx:r+4*c=4*c+r:=by omega
          have h3:4*c+r<(bi (bS (aP s)) (aR 16 (0:UInt8)) (4*c+r)).length:=by omega
          have hsh:bS (aP s) (4*c+r)=dr (aP s (r+4*((c+r)%4))):=by
            unfold bS;rw[show (4*c+r)%4=r by omega,show (4*c+r) / 4=c by omega]
          have h5:=k8 (bS (aP s)) (aR 16 (0:UInt8)) (i:=4*c+r) (by rw[be]; omega);rw[hsh] at h5;have b1:=bat (aP s (r+4*((c+r)%4)));have hx:=fF (aP s (r+4*((c+r)%4)));generalize (c+r)%4=q at *
          generalize aP s (r+4*q)=x at *
          simp only[yZ,Cz,ae,aa,seval,iteOmega,toNatUp,t1,hs,aC,g1,bu,eS,b1,eidx,dH h3 (du _),eV,h5,hl];refine aM (r+1) (by omega) (by omega) (aj (fun i=>i) ?_ ?_ rfl rfl) <;> simp only[wx,ai,am,aa,seval,iteOmega,toNatUp,acN]
         ·obtain rfl:r=4:=by omega
          have e4:4*c+4=4*(c+1):=by omega
          simp only[yZ,Cz,e4,ae,aa,seval,iteOmega,toNatUp];refine aM (c+1) (by omega) (by omega) (aj (fun i=>i) ?_ ?_ rfl rfl) <;> simp only[wx,ai,am,aa,seval,iteOmega,toNatUp]
       ·obtain rfl:c=4:=by omega
        have e:bi (bS (aP s)) (aR 16 (0:UInt8)) (4*4)=iJ s:=oa _ (be _ _);simp only[y5,Cy,e,ae,aa,seval,iteOmega,toNatUp];refine aU (CB key s n) (fun c=>4-c) (fun c=>c≤4) 0 (abc _) ?_ ?_
        ·refine aj (fun i=>i) ?_ ?_ rfl rfl <;> simp only[wx,ai,am,aa,seval,iteOmega,toNatUp,kZ,acM]
        ·intro c hc;have hsl:=uI s;have sat:∀ j,j<16→(iJ s)[j]?=some (bS (aP s) j):=fun j hj=>rR _ hj
         by_cases hlt3:c<4
         ·have a0:=sat (4*c) (by omega);have a1:=sat (4*c+1) (by omega);have a2:=sat (4*c+2) (by omega);have a3:=sat (4*c+3) (by omega);have hcol:∀ j,j<4→(((iJ s).drop (4*c)).take 4)[j]?=some (bS (aP s) (4*c+j)):=fun j hj=>by
            rw[abx,if_pos hj,abN]; exact sat _ (by omega)
          have hcl:(((iJ s).drop (4*c)).take 4).length=4:=by rw[abg,abi]; omega
          have hA:[bD (bS (aP s) (4*c)),bD (bS (aP s) (4*c+1)),bD (bS (aP s) (4*c+2)),bD (bS (aP s) (4*c+3))]=(((iJ s).drop (4*c)).take 4).map bD:=by
            have:((iJ s).drop (4*c)).take 4=[bS (aP s) (4*c),bS (aP s) (4*c+1),bS (aP s) (4*c+2),bS (aP s) (4*c+3)]:=by
              apply acf;intro j;rcases abL j 4 with hj | hj
              ·rw[hcol j hj];rcases j with _ | _ | _ | _ | j <;> first | rfl | omega
              ·rw[abV (by omega),abV (by simpa using hj)]
            rw[this]; rfl
          simp only[y6,CB,ae,aa,seval,iteOmega,toNatUp,aC,hsl,a0,a1,a2,a3,tj,hA,hcl];refine aU (wQ key s n c) (fun r=>4-r) (fun r=>r≤4) 0 (abc _) ?_ ?_
          ·refine aj (fun i=>if i=3 then 96 else i) ?_ ?_ rfl rfl <;> simp only[wx,ai,am,aa,seval,iteOmega,toNatUp,ab8]
          ·intro r hr;by_cases hlt4:r<4
           ·have hl:(bi (jT key s n) s (4*c+r)).length=16:=by rw[ku _ _ (by omega)]; exact hs
            have t1:Int.tmod ((r:Int)+1) 4=(((r+1)%4:Nat):Int):=jJ (r+1) 4;have t2:Int.tmod ((r:Int)+2) 4=(((r+2)%4:Nat):Int):=jJ (r+2) 4;have t3:Int.tmod ((r:Int)+3) 4=(((r+3)%4:Nat):Int):=jJ (r+3) 4;have b1:(r+1)%4<4:=ach _ (by decide);have b2:(r+2)%4<4:=ach _ (by decide);have b3:(r+3)%4<4:=ach _ (by decide);have c0:=hcol r hlt4;have c1:=hcol _ b1;have c2:=hcol _ b2;have c3:=hcol _ b3;have hk:=kat (16*(n+1)+r+4*c) (by omega);have eidx:r+4*c=4*c+r:=by omega
            have h3:4*c+r<(bi (jT key s n) s (4*c+r)).length:=by omega
            have h5:=k8 (jT key s n) s (i:=4*c+r) (by omega);by_cases hn9:n+1<10
            ·have hr2:jT key s n (4*c+r)=au (qx (bS (aP s) (4*c+r)) (bS (aP s) (4*c+(r+1)%4)) (bS (aP s) (4*c+(r+2)%4)) (bS (aP s) (4*c+(r+3)%4))) ((aA key).getD (16*(n+1)+r+4*c) 0):=by
               unfold jT lW;rw[if_pos hn9];unfold eE io cw;rw[show (4*c+r) / 4=c by omega,show (4*c+r)%4=r by omega,show 16*(n+1)+(4*c+r)=16*(n+1)+r+4*c by omega]
             rw[hr2] at h5;unfold qx at h5;have w0:=tat (bS (aP s) (4*c+r));have w1:=tat (bS (aP s) (4*c+(r+1)%4));have l0:=fF (bS (aP s) (4*c+r));have l1:=fF (bS (aP s) (4*c+(r+1)%4));generalize (r+1)%4=r1 at *
             generalize (r+2)%4=r2 at *
             generalize (r+3)%4=r3 at *
             generalize bS (aP s) (4*c+r)=y0 at *
             generalize bS (aP s) (4*c+r1)=y1 at *
             generalize bS (aP s) (4*c+r2)=y2 at *
             generalize bS (aP s) (4*c+r3)=y3 at *
             generalize (aA key).getD (16*(n+1)+r+4*c) 0=kk at *
             have x1:=dp (g9 y0) (g9 y1);have x2:=dp (au (g9 y0) (g9 y1)) y1;have x3:=dp (au (au (g9 y0) (g9 y1)) y1) y2;have x4:=dp (au (au (au (g9 y0) (g9 y1)) y1) y2) y3;have x5:=dp (au (au (au (au (g9 y0) (g9 y1)) y1) y2) y3) kk;simp only[ud,wQ,ae,aa,seval,iteOmega,toNatUp,t1,t2,t3,aC,hcl,c0,c1,c2,c3,bu,eS,w0,w1,x1,x2,x3,x4,hk,x5,eidx,dH h3 (du _),eV,h5,hl];refine aM (r+1) (by omega) (by omega) (aj (fun i=>i) ?_ ?_ rfl rfl) <;> simp only[wx,ai,am,aa,seval,iteOmega,toNatUp,acN]
            ·have hr2:jT key s n (4*c+r)=au (bS (aP s) (4*c+r)) ((aA key).getD (16*(n+1)+r+4*c) 0):=by
               unfold jT lW;rw[if_neg hn9];unfold eE cw;rw[show 16*(n+1)+(4*c+r)=16*(n+1)+r+4*c by omega]
             rw[hr2] at h5;generalize bS (aP s) (4*c+r)=y0 at *
             generalize (aA key).getD (16*(n+1)+r+4*c) 0=kk at *
             have x5:=dp y0 kk;simp only[ud,wQ,ae,aa,seval,iteOmega,toNatUp,aC,hcl,c0,bu,eS,hk,x5,eidx,dH h3 (du _),eV,h5,hl];refine aM (r+1) (by omega) (by omega) (aj (fun i=>i) ?_ ?_ rfl rfl) <;> simp only[wx,ai,am,aa,seval,iteOmega,toNatUp,acN]
           ·obtain rfl:r=4:=by omega
            have e4:4*c+4=4*(c+1):=by omega
            simp only[ud,wQ,e4,ae,aa,seval,iteOmega,toNatUp];refine aM (c+1) (by omega) (by omega) (aj (fun i=>i) ?_ ?_ rfl rfl) <;> simp only[wx,ai,am,aa,seval,iteOmega,toNatUp]
         ·obtain rfl:c=4:=by omega
          have e:bi (jT key s n) s (4*4)=bH (jT key s n):=oa _ hs;simp only[y6,CB,e,hnext,ae,aa,seval,iteOmega,toNatUp];refine aM (n+1) (by omega) (by omega) (aj (fun i=>i) ?_ ?_ rfl rfl) <;> simp only[wx,ai,am,aa,seval,iteOmega,toNatUp]
     ·obtain rfl:n=10:=by omega
      have e:bH (gy (cw (aA key)) (aP b) 10)=kB key b:=rfl;have hl:(kB key b).length=16:=iU _ _;have ht:(kB key b).take 16=kB key b:=aa9 (by omega);simp only[y8,Cx,e,ae,aa,seval,iteOmega,toNatUp,hl,ct,bu,ht];exact vO (by simp only[St.put,kM,ae,aa,seval,iteOmega,toNatUp,hl,ht,ct])
theorem Is:∀ a b:List UInt8,dW (a++b)=if (dW b).2 then ((dW a).1++(dW b).1,(dW a).2) else (a++(dW b).1,false)
  | [],b=>by
    show dW b=if (dW b).2 then ([]++(dW b).1,true) else ([]++(dW b).1,false)
    rcases dW b with ⟨s,_ | _⟩ <;> rfl
  | x::a,b=>by
    have ih:=Is a b;simp only[abz,dW,ih];cases h:(dW b).2
    ·simp
    ·simp only[if_true];cases h2:(dW a).2 <;> simp
def carry (c:List UInt8) (m:Nat):Prop:=(dW (c.drop m)).2=true
def eZ (c:List UInt8) (m:Nat):List UInt8:=c.take m++(dW (c.drop m)).1
theorem uM (c:List UInt8) (m:Nat):(eZ c m).length=c.length:=by
  unfold eZ; rw[aba,zJ,← aba,abP]
theorem EK (c:List UInt8):eZ c c.length=c:=by unfold eZ; simp[dW]
theorem Eo (c:List UInt8):carry c c.length:=by unfold carry; simp[dW]
theorem F0 (c:List UInt8):eZ c 0=kG c:=by unfold eZ kG; simp
theorem KI {c:List UInt8} {m:Nat} (h:m<c.length):(eZ c (m+1))[m]?=some (c.getD m 0):=by
  unfold eZ;rw[abO (by rw[abg]; omega),abx,if_pos (by omega)];exact cX h
theorem F1 {c:List UInt8} {m:Nat} (h:m<c.length):c.drop m=c.getD m 0::c.drop (m+1):=by
  rw[List.drop_eq_getElem_cons h,abb,aa7 h]; rfl
theorem KJ {c:List UInt8} {m:Nat} (h:m<c.length) (hc:carry c (m+1)):(eZ c (m+1)).set m (c.getD m 0+1)=eZ c m:=by
  have e:(dW (c.drop m)).1=(c.getD m 0+1)::(dW (c.drop (m+1))).1:=by
    rw[F1 h];unfold carry at hc;simp only[dW,hc,if_true]
  have e2:c.take (m+1)=c.take m++[c.getD m 0]:=by
    rw[aco,cX h]; rfl
  unfold eZ;rw[e,e2,abq,acF _ _ (by rw[abg]; omega),abg,show m-min m c.length=0 by omega];rfl
theorem EL {c:List UInt8} {m:Nat} (h:m<c.length) (hc:carry c (m+1)):(dW (c.drop m)).2=(c.getD m 0+1==0):=by
  rw[F1 h];unfold carry at hc;simp only[dW,hc,if_true]
theorem KL {c:List UInt8} {m:Nat} (h:(dW (c.drop m)).2=false):eZ c m=kG c:=by
  have:=Is (c.take m) (c.drop m);rw[abP,h] at this;unfold kG eZ;rw[this]; rfl
theorem M5 (x c:UInt8) (n:Int) (h:n=(c.toNat:Int)):bO .add (.w (.c (.d (bD x)))) (.w (.c (.d (.int .u8 n))))=some (bD (x+c)):=by
  subst h
  show bF .add .u8 (x.toNat:Int) .u8 (c.toNat:Int)=_
  rw[uw,IntKind.wrap_u8]
  show some (D.int .u8 (((x.toNat:Int)+(c.toNat:Int))%256))=_
  have:((x.toNat:Int)+(c.toNat:Int))%256=((x+c).toNat:Int):=by
    rw[UInt8.toNat_add]; simp
  rw[this]; rfl
def qy (c:List UInt8):List UInt8:=if c.length=16 then kG c else []
def nD (c:List UInt8) (m:Nat):St:=⟨aQ [(3,.w (.c (.own 1 1 0 16))),(4,.w (.c (.d (.int .i64 ((m:Int)-1)))))],hL [(1,.row 1 ((eZ c m).map bD))],uL [1]⟩
def uO:aN := .seq (.seq (.reg [oM 14 4,oO 15 (.bin .geq (.t 14) (kI 0))]) (.cond (.t 15) (.skip) (.exit 0))) (.seq (.block 1 (.seq (.reg [oM 18 3,oM 19 4,oO 20 (.idxSl 1 (.t 18) (.t 19)),oO 21 (.load .sc (.t 20)),oO 22 (.bin .add (.t 21) (.k (.c (.d (.int .u8 1))))),oO 23 (.idxSl 1 (.t 18) (.t 19)),oN (.store .sc (.t 23) (.t 22))]) (.seq (.reg [oM 24 3,oM 25 4,oO 26 (.idxSl 1 (.t 24) (.t 25)),oO 27 (.load .sc (.t 26)),oO 28 (.bin .neq (.t 27) (.k (.c (.d (.int .u8 0)))))]) (.cond (.t 28) (.exit 0) (.skip))))) (.reg [oM 16 4,oO 17 (.bin .sub (.t 16) (kI 1)),oM 4 17]))
def Bz:aH:=⟨1,30,.seq (.reg [oO 2 (.mv (.k (.c .nil)))]) (.seq (.seq (.reg [oM 5 0,oO 6 (.len (.t 5)),oO 7 (.bin .neq (.t 6) (kI 16))]) (.cond (.t 7) (.seq (.reg [oO 2 (.mv (.k (.c .nil)))]) (.ret)) (.skip))) (.seq (.reg [oM 8 0,oO 9 (.bldSl false 1 1 (.sl []) [(0,(.t 8))]),oO 10 (.call 90 [(.t 9)] (some (0,1))),oM 3 10]) (.seq (.seq (.reg [oM 11 3,oO 12 (.len (.t 11)),oO 13 (.bin .sub (.t 12) (kI 1)),oM 4 13]) (.block 0 (.loop uO))) (.seq (.reg [oM 29 3,oM 2 29]) (.ret))))),[(2,none)]⟩
theorem XJ:aG Tryz.prog { own:=[10],comp:=[],frz:=[],nils:=[] } Tryz.f151=some Bz:=by kernel_rfl
theorem Z8 (G:ah) (c:List UInt8) (hc:c.length≤140737488355328):aw Tryz.prog G 151 [.sl (c.map bD)] (.w (.c (.fr 1 ((qy c).map bD)))):=by
  refine aI Tryz.func151 XJ rfl rfl ?_;unfold qy;by_cases h:c.length=16
  ·rw[if_pos h];have hj:=gV G [c] (by simp) (by simp; omega);have hf:[c].flatten=c:=by simp
   rw[hf] at hj;have hs:=EK c;rw[h] at hs;simp only[Bz,af,ae,aa,seval,iteOmega,toNatUp,h];refine sD (hj) ?_;refine aU (nD c) (fun m=>m) (fun m=>m≤16∧carry c m) 16 ⟨abl _,by have:=Eo c; rwa [h] at this⟩ ?_ ?_
   ·refine aj (fun i=>80) ?_ ?_ rfl rfl <;> simp only[wx,ai,am,aa,seval,iteOmega,toNatUp,hs,h] <;> rfl
   ·rintro m ⟨hm,hcar⟩;rcases m with _ | q
    ·have e0:=F0 c;have hl:(kG c).length=16:=by rw[yR]; exact h
     simp only[uO,nD,e0,acu,Int.zero_sub,ae,aa,seval,iteOmega,toNatUp];exact dE (id:=1) (n:=16) (s:=1) (by simp only[wx,aa,seval,iteOmega,toNatUp]) (by simp only[wx,aa,seval,iteOmega,toNatUp]) (by simp[hl])
    ·have hq:q<c.length:=by omega
     have hl1:(eZ c (q+1)).length=16:=by rw[uM]; exact h
     have hl0:(eZ c q).length=16:=by rw[uM]; exact h
     have g1:=KI hq;have h3:q<(eZ c (q+1)).length:=by omega
     have h5:=KJ hq hcar;have g2:(eZ c q)[q]?=some (c.getD q 0+1):=by
       rw[← h5,List.getElem?_set_self (by omega)]
     have x1:=M5 (c.getD q 0) 1 1 rfl;have x2:=Bi (c.getD q 0+1) 0 0 rfl;have hcs:=EL hq hcar;have sub:((q:Int)+1-1)=(q:Int):=by omega
     by_cases hz:c.getD q 0+1=0
     ·have hz2:(c.getD q 0+1 != 0)=false:=by rw[hz]; rfl
      rw[hz2] at x2;have hcar2:carry c q:=by unfold carry; rw[hcs,hz]; rfl
      simp only[uO,nD,ae,aa,seval,iteOmega,toNatUp,sub,aC,g1,x1,dH h3 (du _),eV,h5,g2,x2,hl1,hl0];refine aM q (by omega) ⟨by omega,hcar2⟩ (aj (fun i=>i) ?_ ?_ rfl rfl) <;> simp only[wx,ai,am,aa,seval,iteOmega,toNatUp]
     ·have hz2:(c.getD q 0+1 != 0)=true:=bne_iff_ne.2 hz;rw[hz2] at x2;have e0:eZ c q=kG c:=KL (by rw[hcs]; exact beq_eq_false_iff_ne.2 hz);rw[e0] at hl0 g2 h5;simp only[uO,nD,ae,aa,seval,iteOmega,toNatUp,sub,aC,g1,x1,dH h3 (du _),eV,h5,g2,x2,hl1,e0];exact dE (id:=1) (n:=16) (s:=1) (by simp only[wx,aa,seval,iteOmega,toNatUp]) (by simp only[wx,aa,seval,iteOmega,toNatUp]) (by simp[hl0])
  ·rw[if_neg h];simp only[Bz,af,ae,aa,seval,iteOmega,toNatUp];exact dA
def ue:aN := .seq (.seq (.reg [oM 11 4,oO 12 (.bin .geq (.t 11) (kI 0))]) (.cond (.t 12) (.skip) (.exit 0))) (.seq (.block 1 (.seq (.reg [oM 15 3,oM 16 4,oO 17 (.idxSl 1 (.t 15) (.t 16)),oO 18 (.load .sc (.t 17)),oO 19 (.bin .add (.t 18) (.k (.c (.d (.int .u8 1))))),oO 20 (.idxSl 1 (.t 15) (.t 16)),oN (.store .sc (.t 20) (.t 19))]) (.seq (.reg [oM 21 3,oM 22 4,oO 23 (.idxSl 1 (.t 21) (.t 22)),oO 24 (.load .sc (.t 23)),oO 25 (.bin .neq (.t 24) (.k (.c (.d (.int .u8 0)))))]) (.cond (.t 25) (.exit 0) (.skip))))) (.reg [oM 13 4,oO 14 (.bin .sub (.t 13) (kI 1)),oM 4 14]))
def AH:aH:=⟨1,27,.seq (.reg [oO 2 (.mv (.k (.c .nil)))]) (.seq (.seq (.reg [oM 5 0,oO 6 (.len (.t 5)),oO 7 (.bin .neq (.t 6) (kI 16))]) (.cond (.t 7) (.seq (.reg [oO 2 (.mv (.k (.c .nil)))]) (.ret)) (.skip))) (.seq (.reg [oM 8 0,oO 9 (.bldSl false 1 1 (.sl []) [(0,(.t 8))]),oO 10 (.call 43 [(.t 9)] (some (0,1))),oM 3 10]) (.seq (.seq (.reg [oO 4 (.mv (kI 15))]) (.block 0 (.loop ue))) (.seq (.reg [oM 26 3,oM 2 26]) (.ret))))),[(2,none)]⟩
theorem Vz:aG Tryz.prog { own:=[10],comp:=[],frz:=[],nils:=[] } Tryz.f161=some AH:=by kernel_rfl
theorem XK (G:ah) (c:List UInt8) (hc:c.length≤140737488355328):aw Tryz.prog G 161 [.sl (c.map bD)] (.w (.c (.fr 1 ((qy c).map bD)))):=by
  refine aI Tryz.func161 Vz rfl rfl ?_;unfold qy;by_cases h:c.length=16
  ·rw[if_pos h];have hj:=fQ G [c] (by simp) (by simp; omega);have hf:[c].flatten=c:=by simp
   rw[hf] at hj;have hs:=EK c;rw[h] at hs;simp only[AH,af,ae,aa,seval,iteOmega,toNatUp,h];refine sD (hj) ?_;refine aU (nD c) (fun m=>m) (fun m=>m≤16∧carry c m) 16 ⟨abl _,by have:=Eo c; rwa [h] at this⟩ ?_ ?_
   ·refine aj (fun i=>80) ?_ ?_ rfl rfl <;> simp only[wx,ai,am,aa,seval,iteOmega,toNatUp,hs,h] <;> rfl
   ·rintro m ⟨hm,hcar⟩;rcases m with _ | q
    ·have e0:=F0 c;have hl:(kG c).length=16:=by rw[yR]; exact h
     simp only[ue,nD,e0,acu,Int.zero_sub,ae,aa,seval,iteOmega,toNatUp];exact dE (id:=1) (n:=16) (s:=1) (by simp only[wx,aa,seval,iteOmega,toNatUp]) (by simp only[wx,aa,seval,iteOmega,toNatUp]) (by simp[hl])
    ·have hq:q<c.length:=by omega
     have hl1:(eZ c (q+1)).length=16:=by rw[uM]; exact h
     have hl0:(eZ c q).length=16:=by rw[uM]; exact h
     have g1:=KI hq;have h3:q<(eZ c (q+1)).length:=by omega
     have h5:=KJ hq hcar;have g2:(eZ c q)[q]?=some (c.getD q 0+1):=by
       rw[← h5,List.getElem?_set_self (by omega)]
     have x1:=M5 (c.getD q 0) 1 1 rfl;have x2:=Bi (c.getD q 0+1) 0 0 rfl;have hcs:=EL hq hcar;have sub:((q:Int)+1-1)=(q:Int):=by omega
     by_cases hz:c.getD q 0+1=0
     ·have hz2:(c.getD q 0+1 != 0)=false:=by rw[hz]; rfl
      rw[hz2] at x2;have hcar2:carry c q:=by unfold carry; rw[hcs,hz]; rfl
      simp only[ue,nD,ae,aa,seval,iteOmega,toNatUp,sub,aC,g1,x1,dH h3 (du _),eV,h5,g2,x2,hl1,hl0];refine aM q (by omega) ⟨by omega,hcar2⟩ (aj (fun i=>i) ?_ ?_ rfl rfl) <;> simp only[wx,ai,am,aa,seval,iteOmega,toNatUp]
     ·have hz2:(c.getD q 0+1 != 0)=true:=bne_iff_ne.2 hz;rw[hz2] at x2;have e0:eZ c q=kG c:=KL (by rw[hcs]; exact beq_eq_false_iff_ne.2 hz);rw[e0] at hl0 g2 h5;simp only[ue,nD,ae,aa,seval,iteOmega,toNatUp,sub,aC,g1,x1,dH h3 (du _),eV,h5,g2,x2,hl1,e0];exact dE (id:=1) (n:=16) (s:=1) (by simp only[wx,aa,seval,iteOmega,toNatUp]) (by simp only[wx,aa,seval,iteOmega,toNatUp]) (by simp[hl0])
  ·rw[if_neg h];simp only[AH,af,ae,aa,seval,iteOmega,toNatUp];exact dA
def tn (key b:List UInt8):Int:=if key.length≠16 then 5 else if b.length≠16 then 3 else 0
def xG (key b:List UInt8):List UInt8:=if key.length=16∧b.length=16 then kB key b else []
def v4:aH:=⟨2,18,.seq (.reg [oO 4 (.mv (.k (.c .nil))),oO 5 (.mv (kI 0))]) (.seq (.seq (.reg [oM 7 0,oO 8 (.len (.t 7)),oO 9 (.bin .neq (.t 8) (kI 16))]) (.cond (.t 9) (.seq (.reg [oO 4 (.mv (.k (.c .nil))),oO 5 (.mv (kI 5))]) (.ret)) (.skip))) (.seq (.seq (.reg [oM 10 1,oO 11 (.len (.t 10)),oO 12 (.bin .neq (.t 11) (kI 16))]) (.cond (.t 12) (.seq (.reg [oO 4 (.mv (.k (.c .nil))),oO 5 (.mv (kI 3))]) (.ret)) (.skip))) (.seq (.reg [oM 13 0,oO 14 (.call 148 [(.t 13)] none),oM 15 1,oO 16 (.call 150 [(.t 14),(.t 15)] none),oO 6 (.allocArr [(.int .u8 0),(.int .u8 0),(.int .u8 0),(.int .u8 0),(.int .u8 0),(.int .u8 0),(.int .u8 0),(.int .u8 0),(.int .u8 0),(.int .u8 0),(.int .u8 0),(.int .u8 0),(.int .u8 0),(.int .u8 0),(.int .u8 0),(.int .u8 0)]),oN (.store (.ag 16) (.t 6) (.t 16))]) (.seq (.reg [oO 17 (.sliceArr 1 16 (.t 6) none none),
 oM 4 17,oO 5 (.mv (kI 0))]) (.ret))))),[(4,none),(5,none)]⟩
theorem XL:aG Tryz.prog { own:=[],comp:=[],frz:=[],nils:=[] } Tryz.f168=some v4:=by kernel_rfl
theorem CC (G:ah) (key b:List UInt8) (hk:key.length≤9223372036854775807) (hb:b.length≤9223372036854775807):aw Tryz.prog G 168 [.sl (key.map bD),.sl (b.map bD)] (.tup [.c (.fr 1 ((xG key b).map bD)),.c (.d (.int .i64 (tn key b)))]):=by
  refine aI Tryz.func168 XL rfl rfl ?_;unfold xG tn;by_cases h:key.length=16
  ·by_cases h2:b.length=16
   ·have hr:=rQ h;have hl:(kB key b).length=16:=iU _ _;have ht:(kB key b).take 16=kB key b:=aa9 (by omega);rw[if_pos ⟨h,h2⟩,if_neg (by simp[h]),if_neg (by simp[h2])];simp only[v4,af,ae,aa,seval,iteOmega,toNatUp,h,h2,fC];refine sD (M3 G key h) ?_;refine sC (M4 G (aA key) b hr h2) ?_;simp only[iU,be,hl,ae,aa,seval,iteOmega,toNatUp];exact vP (by simp only[ae,aa,seval,iteOmega,toNatUp,kM,iU,hl,ct]; rfl) (by simp only[ae,aa,seval,iteOmega,toNatUp])
   ·rw[if_neg (fun k=>h2 k.2),if_neg (by simp[h]),if_pos h2];simp only[v4,af,ae,aa,seval,iteOmega,toNatUp,h];exact bY
  ·rw[if_neg (fun k=>h k.1),if_pos h];simp only[v4,af,ae,aa,seval,iteOmega,toNatUp];exact bY
def oL (key:List UInt8):Int:=if key.length≠16 then 5 else 0
def fT (r n:Nat):Nat:=(n-r%n)%n
def qz (b:List UInt8) (n:Int):List UInt8:=if 1≤n∧n≤64 then b++List.replicate (fT b.length n.toNat) 0 else b
theorem KM (b:List UInt8) {n:Nat} (h:1≤n∧n≤64):qz b (n:Int)=b++List.replicate (fT b.length n) 0:=by
  unfold qz; rw[if_pos (by omega),adb]
theorem Iu (b:List UInt8) {n:Int} (h:¬ (1≤n∧n≤64)):qz b n=b:=if_neg h
theorem Iv (r:Nat) {n:Nat} (h:1≤n):fT r n<n:=ach _ (by omega)
theorem VA (n:Nat):aV 0 n=List.replicate n 0:=by
  unfold aV;simp only[Nat.zero_div]
  induction n with
  | zero=>rfl
  | succ n ih=>rw[acJ,abk,ih,List.replicate_succ']; rfl
theorem TN {r n i:Nat} (hn:1≤n) (h:i<fT r n):(r+i)%n≠0:=by
  unfold fT at h;have hr:r%n<n:=ach _ (by omega);have hm:=Nat.mod_le (n-r%n) n;have hz:r%n≠0:=fun e=>by rw[e,Nat.sub_zero,Nat.mod_self] at h; omega
  have e:(r+i)%n=(r%n+i)%n:=by rw[Nat.add_mod,Nat.add_mod (r%n) i,Nat.mod_mod]
  rw[e,acZ (by omega)];omega
theorem TO {r n:Nat} (hn:1≤n):(r+fT r n)%n=0:=by
  unfold fT;have hr:r%n<n:=ach _ (by omega);by_cases hz:r%n=0
  ·rw[hz,Nat.sub_zero,Nat.mod_self,ab8,hz]
  ·rw[acZ (show n-r%n<n by omega),Nat.add_mod,acZ (show n-r%n<n by omega),Nat.add_sub_cancel' (by omega),Nat.mod_self]
theorem M6 (a b:Nat):Int.tmod (a:Int) (b:Int)=((a%b:Nat):Int):=rfl
def v5:aH:=⟨2,28,.seq (.reg [oO 4 (.mv (.k (.c .nil)))]) (.seq (.seq (.reg [oM 6 1,oO 7 (.bin .lss (.t 6) (kI 1)),oM 8 7,oG 9 (.mv (.t 1)) 8 false,oG 10 (.bin .gtr (.t 9) (kI 64)) 8 false,oO 11 (.pick (.t 8) (.k (.c (.d (.bool true)))) (.t 10))]) (.cond (.t 11) (.seq (.reg [oM 12 0,oO 13 (.bldSl false 1 1 (.sl []) [(0,(.t 12))]),oO 14 (.call 90 [(.t 13)] (some (0,1))),oM 4 14]) (.ret)) (.skip))) (.seq (.reg [oM 15 1,oM 16 0,oO 17 (.len (.t 16)),oM 18 1,oO 19 (.bin .rem (.t 17) (.t 18)),oO 20 (.bin .sub (.t 15) (.t 19)),oM 21 1,oO 22 (.bin .rem (.t 20) (.t 21)),oM 5 22]) (.seq (.reg [oM 23 0,oM 24 5,oO 25 (.call 91 [(.k (.c (.d (.int .u64 0)))),(.t 24)] none),oO 26 (.bldSl false 2 1 (.sl []) [(0,(.t 23)),(1,(.t 25))]),oO 27 (.call 90 [(.t 26)] (some (0,1))),oM 4 27]) (.ret)))),[(4,none)]⟩
theorem XN:aG Tryz.prog { own:=[14,27],comp:=[],frz:=[],nils:=[] } Tryz.f187=some v5:=by kernel_rfl
theorem Z9 (G:ah) (b:List UInt8) (n:Int) (hb:b.length≤70368744177664):aw Tryz.prog G 187 [.sl (b.map bD),.int .i64 n] (.w (.c (.fr 1 ((qz b n).map bD)))):=by
  refine aI Tryz.func187 XN rfl rfl ?_;by_cases hc:1≤n∧n≤64
  ·obtain⟨m,rfl⟩:=ab7 (show 0≤n by omega);rw[KM b (by omega)];have hr:b.length%m<m:=ach _ (by omega);have hk:fT b.length m=(m-b.length%m)%m:=rfl;have hlt:=Iv b.length (n:=m) (by omega);have e1:=M6 b.length m;have e2:Int.tmod ((m:Int)-((b.length%m:Nat):Int)) (m:Int)=((fT b.length m:Nat):Int):=by
     rw[show (m:Int)-((b.length%m:Nat):Int)=((m-b.length%m:Nat):Int) by omega,M6,hk]
   have hm:((m:Int)=0)=False:=eq_false (by omega);have hp:=na G 0 (fT b.length m) (by omega);have hj:=gV G [b,aV 0 (fT b.length m)] (by simp) (by simp[bU]; omega);have hf:[b,aV 0 (fT b.length m)].flatten=b++List.replicate (fT b.length m) 0:=by rw[VA]; simp
   rw[hf] at hj;generalize fT b.length m=k at *
   simp only[v5,af,ae,aa,seval,iteOmega,toNatUp,e1,e2,hm];refine sD (hp) ?_;refine sD (hj) ?_;exact dA
  ·rw[Iu b hc];have hj:=gV G [b] (by simp) (by simp; omega);have hf:[b].flatten=b:=by simp
   rw[hf] at hj;by_cases h1:n<1
   ·simp only[v5,af,ae,aa,seval,iteOmega,toNatUp];refine sD (hj) ?_;exact dA
   ·have h2:64<n:=by omega
    simp only[v5,af,ae,aa,seval,iteOmega,toNatUp];refine sD (hj) ?_;exact dA
theorem VB (b:List UInt8) (i:Nat):b++List.replicate i 0++[0]=b++List.replicate (i+1) 0:=by rw[List.replicate_succ',abq]
def lB (b:List UInt8) (i:Nat):List UInt8:=b++List.replicate i 0
theorem Iw (b:List UInt8) (i:Nat):(lB b i).length=b.length+i:=by unfold lB; rw[aba,abC]
theorem Sg (b:List UInt8) (i:Nat):(lB b i).map bD++[D.int .u8 0]=(lB b (i+1)).map bD:=by unfold lB; rw[← VB,abk (l₂:=[0])]; rfl
def pN (b:List UInt8) (n:Int) (i:Nat):St:=⟨aQ [(1,.w (.c (.d (.int .i64 n)))),(5,.w (.c (.own 1 1 0 (lB b i).length)))],hL [(1,.row 1 ((lB b i).map bD))],uL [1]⟩
def re:aN := .seq (.seq (.reg [oM 9 1,oO 10 (.bin .geq (.t 9) (kI 1)),oM 11 10,oG 12 (.mv (.t 1)) 11 true,oG 13 (.bin .leq (.t 12) (kI 64)) 11 true,oO 14 (.pick (.t 11) (.t 13) (.k (.c (.d (.bool false))))),oM 15 14,oG 16 (.mv (.t 5)) 15 true,oG 17 (.len (.t 16)) 15 true,oG 18 (.mv (.t 1)) 15 true,oG 19 (.bin .rem (.t 17) (.t 18)) 15 true,oG 20 (.bin .neq (.t 19) (kI 0)) 15 true,oO 21 (.pick (.t 15) (.t 20) (.k (.c (.d (.bool false)))))]) (.cond (.t 21) (.skip) (.exit 0))) (.block 1 (.reg [oM 22 5,oO 23 (.bldSl false 1 1 (.int .u8 0) [(0,(.k (.c (.d (.int .u8 0)))))]),oO 24 (.app false 1 1 (.t 22) (.t 23)),oM 5 24]))
def AJ:aH:=⟨2,26,.seq (.reg [oO 4 (.mv (.k (.c .nil)))]) (.seq (.reg [oM 6 0,oO 7 (.bldSl false 1 1 (.sl []) [(0,(.t 6))]),oO 8 (.call 43 [(.t 7)] (some (0,1))),oM 5 8]) (.seq (.block 0 (.loop re)) (.seq (.reg [oM 25 5,oM 4 25]) (.ret)))),[(4,none)]⟩
theorem VC:aG Tryz.prog { own:=[8],comp:=[],frz:=[],nils:=[] } Tryz.f177=some AJ:=by kernel_rfl
theorem BA (G:ah) (b:List UInt8) (n:Int) (hb:b.length≤70368744177664):aw Tryz.prog G 177 [.sl (b.map bD),.int .i64 n] (.w (.c (.fr 1 ((qz b n).map bD)))):=by
  refine aI Tryz.func177 VC rfl rfl ?_;have hj:=fQ G [b] (by simp) (by simp; omega);have hf:[b].flatten=b:=by simp
  rw[hf] at hj;have h0:lB b 0=b:=by simp[lB]
  by_cases hc:1≤n∧n≤64
  ·obtain⟨m,rfl⟩:=ab7 (show 0≤n by omega);rw[KM b (by omega)];have hlt:=Iv b.length (n:=m) (by omega);have hm:((m:Int)=0)=False:=eq_false (by omega);have more:∀ i,i<fT b.length m→(b.length+i)%m≠0:=fun i h=>TN (by omega) h
   have done:(b.length+fT b.length m)%m=0:=TO (by omega);simp only[AJ,af,ae,aa,seval,iteOmega,toNatUp];refine sD (hj) ?_;refine aU (pN b m) (fun i=>fT b.length m-i) (fun i=>i≤fT b.length m) 0 (abc _) ?_ ?_
   ·refine aj (fun _=>64) ?_ ?_ rfl rfl <;> simp only[wx,ai,am,aa,seval,iteOmega,toNatUp,h0]
   ·intro i hi;have hl:=Iw b i;have hl1:=Iw b (i+1);have e1:Int.tmod ((b.length:Int)+(i:Int)) (m:Int)=(((b.length+i)%m:Nat):Int):=rfl;have hs:=Sg b i;by_cases hk:i<fT b.length m
    ·have hne:=more i hk;generalize (b.length+i)%m=q at *
     simp only[re,pN,ae,aa,seval,iteOmega,toNatUp,hl,e1,hm,a7,hs];refine aM (i+1) (by omega) (by omega) (aj (fun _=>192) ?_ ?_ rfl rfl) <;> simp only[wx,ai,am,aa,seval,iteOmega,toNatUp,hl1]
    ·have hik:i=fT b.length m:=by omega
     rw[← hik] at done ⊢;simp only[done,acu,acx] at e1;have hd:b++List.replicate i 0=lB b i:=rfl;rw[hd];simp only[re,pN,ae,aa,seval,iteOmega,toNatUp,hl,e1,hm];exact dE (id:=1) (n:=b.length+i) (s:=1) (by simp only[wx,aa,seval,iteOmega,toNatUp]) (by simp only[wx,aa,seval,iteOmega,toNatUp]) (by simp[hl])
  ·rw[Iu b hc];simp only[AJ,af,ae,aa,seval,iteOmega,toNatUp];refine sD (hj) ?_;refine aU (pN b n) (fun i=>0-i) (fun i=>i=0) 0 rfl ?_ ?_
   ·refine aj (fun _=>64) ?_ ?_ rfl rfl <;> simp only[wx,ai,am,aa,seval,iteOmega,toNatUp,h0]
   ·rintro i rfl;by_cases h1:n<1
    ·simp only[re,pN,h0,ae,aa,seval,iteOmega,toNatUp];exact dE (id:=1) (n:=b.length) (s:=1) (by simp only[wx,aa,seval,iteOmega,toNatUp]) (by simp only[wx,aa,seval,iteOmega,toNatUp]) (by simp)
    ·have h2:64<n:=by omega
     simp only[re,pN,h0,ae,aa,seval,iteOmega,toNatUp];exact dE (id:=1) (n:=b.length) (s:=1) (by simp only[wx,aa,seval,iteOmega,toNatUp]) (by simp only[wx,aa,seval,iteOmega,toNatUp]) (by simp)
def dG (b:List UInt8) (j:Nat):UInt8:=if j<15 then jY (cQ (b.getD j 0) 1) (bX (b.getD (j+1) 0) 7) else cQ (b.getD j 0) 1
def hZ (b:List UInt8):List UInt8:=(List.range 16).map (dG b)
theorem vu (b:List UInt8):(hZ b).length=16:=by simp[hZ]
theorem vw (b:List UInt8) {j:Nat} (h:j<16):(hZ b)[j]?=some (dG b j):=by simp[hZ,h]
def qA (b:List UInt8):UInt8:=i9 (gI (b.getD 0 0) 7) 135
theorem Ix {b:List UInt8} (h:b.length=16):(hZ b).set 15 (au (dG b 15) (qA b))=dK b:=by
  unfold dK;rw[if_pos h];apply acf;intro j;rw[acU];by_cases hj:j<16
  ·rw[rR _ hj];have hd:∀ k,aP b k=b.getD k 0:=fun _=>rfl
   by_cases h15:15=j
   ·subst h15;rw[if_pos rfl,if_pos (by rw[vu]; decide)];simp only[dG,Dr,hd,qA,Nat.lt_irrefl,if_false,if_true,pb]
   ·rw[if_neg h15,vw _ hj];have:j<15:=by omega
    simp only[dG,Dr,hd,if_pos this,if_neg (show ¬ j=15 by omega),pb,XM]
  ·rw[if_neg (by omega),abV (by rw[vu]; omega),abV (by rw[gR]; omega)]
theorem TP (b:List UInt8):bO .mul (.w (.c (.d (bD (bX (b.getD 0 0) 7))))) (.w (.c (.d (.int .u8 135))))=some (bD (qA b)):=by
  have key:=kF (p:=fun x=>(bX x 7).toNat*135%256==(i9 (gI x 7) 135).toNat) (by decide +kernel) (b.getD 0 0);rw[beq_iff_eq] at key
  show bF .mul .u8 _ .u8 _=_
  rw[zA,IntKind.wrap_u8];unfold qA bD;rw[← key]
  congr 2
theorem VD (b:List UInt8):(bX (b.getD 0 0) 7==1)=gI (b.getD 0 0) 7:=by
  have key:=kF (p:=fun x=>(bX x 7==1)==gI x 7) (by decide +kernel) (b.getD 0 0);rw[beq_iff_eq] at key;exact key
theorem TQ (x:UInt8):jY x 0=x:=by
  have key:=kF (p:=fun x=>jY x 0==x) (by decide +kernel) x;rw[beq_iff_eq] at key;exact key
theorem bD0:bD 0=.int .u8 0:=rfl
def oR (b:List UInt8) (m:Nat):UInt8:=if m<16 then bX (b.getD m 0) 7 else 0
theorem TR (b:List UInt8) {q:Nat} (h:q<16):jY (cQ (b.getD q 0) 1) (oR b (q+1))=dG b q:=by
  unfold oR dG;by_cases h2:q<15
  ·rw[if_pos (by omega),if_pos h2]
  ·rw[if_neg (by omega),if_neg h2,TQ]
theorem XO (b:List UInt8) {q:Nat} (h:q<16):bX (b.getD q 0) 7=oR b q:=(if_pos h).symm
def jZ (l:List UInt8) (m:Nat):List UInt8:=List.replicate m 0++l.drop m
theorem VE {l:List UInt8} {m:Nat} (h:m≤l.length):(jZ l m).length=l.length:=by
  unfold jZ; rw[aba,abC,abi]; omega
theorem TS (l:List UInt8):jZ l 0=l:=by simp[jZ]
theorem TT {l:List UInt8} {m:Nat} (h:l.length=m):jZ l m=List.replicate m 0:=by
  unfold jZ; rw[abZ (by omega),abm]
theorem TU {l:List UInt8} {q:Nat} (h:q<l.length):(jZ l (q+1)).set q (l.getD q 0)=jZ l q:=by
  unfold jZ;rw[List.replicate_succ',abq,acF _ _ (by simp),abC,ac5,List.drop_eq_getElem_cons h,abb,aa7 h];rfl
def Ds (b:List UInt8) (m:Nat):St:=⟨aQ [(0,.w (.c (.d (.sl (b.map bD))))),(3,.w (.c (.own 1 1 0 16))),(4,.w (.c (.d (bD (oR b m))))),(5,.w (.c (.d (.int .i64 ((m:Int)-1)))))],hL [(1,.row 1 ((jZ (hZ b) m).map bD))],uL [1]⟩
theorem KN {b:List UInt8} (h:b.length≠16):dK b=[]:=if_neg h
def zT:aN := .seq (.seq (.reg [oM 10 5,oO 11 (.bin .geq (.t 10) (kI 0))]) (.cond (.t 11) (.skip) (.exit 0))) (.seq (.block 1 (.seq (.reg [oM 14 3,oM 15 5,oM 16 0,oM 17 5,oO 18 (.idxSl 1 (.t 16) (.t 17)),oO 19 (.load .sc (.t 18)),oO 20 (.bin .shl (.t 19) (.k (.c (.d (.int .u64 1))))),oM 21 4,oO 22 (.bin .or (.t 20) (.t 21)),oO 23 (.idxSl 1 (.t 14) (.t 15)),oN (.store .sc (.t 23) (.t 22))]) (.reg [oM 24 0,oM 25 5,oO 26 (.idxSl 1 (.t 24) (.t 25)),oO 27 (.load .sc (.t 26)),oO 28 (.bin .shr (.t 27) (.k (.c (.d (.int .u64 7))))),oM 4 28]))) (.reg [oM 12 5,oO 13 (.bin .sub (.t 12) (kI 1)),oM 5 13]))
def BB:aH:=⟨1,37,.seq (.reg [oO 2 (.mv (.k (.c .nil)))]) (.seq (.seq (.reg [oM 6 0,oO 7 (.len (.t 6)),oO 8 (.bin .neq (.t 7) (kI 16))]) (.cond (.t 8) (.seq (.reg [oO 2 (.mv (.k (.c .nil)))]) (.ret)) (.skip))) (.seq (.reg [oO 9 (.make true 1 1 (.int .u8 0) (kI 16) (kI 16)),oM 3 9]) (.seq (.reg [oO 4 (.mv (.k (.c (.d (.int .u8 0)))))]) (.seq (.seq (.reg [oO 5 (.mv (kI 15))]) (.block 0 (.loop zT))) (.seq (.reg [oM 29 3,oO 30 (.idxSl 1 (.t 29) (kI 15)),oO 31 (.load .sc (.t 30)),oM 32 4,oO 33 (.bin .mul (.t 32) (.k (.c (.d (.int .u8 135))))),oO 34 (.bin .xor (.t 31) (.t 33)),oO 35 (.idxSl 1 (.t 29) (kI 15)),oN (.store .sc (.t 35) (.t 34))]) (.seq (.reg [oM 36 3,oM 2 36]) (.ret))))))),[(2,none)]⟩
theorem XP:aG Tryz.prog { own:=[],comp:=[],frz:=[],nils:=[] } Tryz.f169=some BB:=by kernel_rfl
theorem wR (G:ah) (b:List UInt8) (hb:b.length≤9223372036854775807):aw Tryz.prog G 169 [.sl (b.map bD)] (.w (.c (.fr 1 ((dK b).map bD)))):=by
  refine aI Tryz.func169 XP rfl rfl ?_;by_cases h:b.length=16
  ·have hd:=Ix h;have hl:=vu b;simp only[BB,af,ae,aa,seval,iteOmega,toNatUp,h,fC];refine aU (Ds b) (fun m=>m) (fun m=>m≤16) 16 (abl _) ?_ ?_
   ·have e1:jZ (hZ b) 16=aR 16 0:=TT hl;have e2:oR b 16=0:=rfl;refine aj (fun i=>72) ?_ ?_ rfl rfl <;> simp only[wx,ai,am,aa,seval,iteOmega,toNatUp,e1,e2,bD0]
   ·intro m hm;rcases m with _ | q
    ·have e0:=TS (hZ b);have c0:oR b 0=bX (b.getD 0 0) 7:=rfl;have x1:=TP b;have g1:=vw b (j:=15) (by decide);have x2:=dp (dG b 15) (qA b);have h3:15<(hZ b).length:=by omega
     have hdl:(dK b).length=16:=ki h;simp only[zT,Ds,e0,c0,acu,Int.zero_sub,ae,aa,seval,iteOmega,toNatUp,aC,g1,x1,x2,dH h3 (du _),eV,hd];exact dE (id:=1) (n:=16) (s:=1) (by simp only[wx,aa,seval,iteOmega,toNatUp]) (by simp only[wx,aa,seval,iteOmega,toNatUp]) (by simp[hdl])
    ·have hq:q<16:=by omega
     have g1:b[q]?=some (b.getD q 0):=cX (by omega);have hl1:=VE (l:=hZ b) (m:=q+1) (by omega);have h3:q<(jZ (hZ b) (q+1)).length:=by omega
     have x1:=si (b.getD q 0) .u64 1 1 rfl (by decide);have x2:=ry (cQ (b.getD q 0) 1) (oR b (q+1));have x3:=pL (b.getD q 0) .u64 7 7 rfl (by decide);have c1:=TR b hq;have c2:=XO b hq;have hs:=TU (l:=hZ b) (q:=q) (by omega);have hg:(hZ b).getD q 0=dG b q:=by rw[abb,vw b hq]; rfl
     rw[hg] at hs;have sub:((q:Int)+1-1)=(q:Int):=by omega
     simp only[zT,Ds,ae,aa,seval,iteOmega,toNatUp,sub,aC,g1,x1,x2,x3,c1,c2,h,dH h3 (du _),eV,hs];refine aM q (by omega) (by omega) (aj (fun i=>i) ?_ ?_ rfl rfl) <;> simp only[wx,ai,am,aa,seval,iteOmega,toNatUp]
  ·rw[KN h];simp only[BB,af,ae,aa,seval,iteOmega,toNatUp];exact dA
def sR (b:List UInt8) (i:Nat):St:=⟨aQ [(0,.w (.c (.d (.sl (b.map bD))))),(3,.w (.c (.own 1 1 0 16))),(4,.w (.c (.d (.int .i64 (i:Int)))))],hL [(1,.row 1 ((bi (dG b) (aR 16 0) i).map bD))],uL [1]⟩
def rh:aN := .seq (.seq (.reg [oM 9 4,oO 10 (.bin .lss (.t 9) (kI 16))]) (.cond (.t 10) (.skip) (.exit 0))) (.seq (.block 1 (.seq (.reg [oM 13 3,oM 14 4,oM 15 0,oM 16 4,oO 17 (.idxSl 1 (.t 15) (.t 16)),oO 18 (.load .sc (.t 17)),oO 19 (.bin .shl (.t 18) (.k (.c (.d (.int .u64 1))))),oO 20 (.idxSl 1 (.t 13) (.t 14)),oN (.store .sc (.t 20) (.t 19))]) (.seq (.reg [oM 21 4,oO 22 (.bin .lss (.t 21) (kI 15))]) (.cond (.t 22) (.reg [oM 23 3,oM 24 4,oM 25 3,oM 26 4,oO 27 (.idxSl 1 (.t 25) (.t 26)),oO 28 (.load .sc (.t 27)),oM 29 0,oM 30 4,oO 31 (.bin .add (.t 30) (kI 1)),oO 32 (.idxSl 1 (.t 29) (.t 31)),oO 33 (.load .sc (.t 32)),oO 34 (.bin .shr (.t 33) (.k (.c (.d (.int .u64 7))))),oO 35 (.bin .or (.t 28) (.t 34)),oO 36 (.idxSl 1 (.t 23) (.t 24)),oN (.store .sc (.t 36) (.t 35))]) (.skip)))))
 (.reg [oM 11 4,oO 12 (.bin .add (.t 11) (kI 1)),oM 4 12]))
def AK:aH:=⟨1,49,.seq (.reg [oO 2 (.mv (.k (.c .nil)))]) (.seq (.seq (.reg [oM 5 0,oO 6 (.len (.t 5)),oO 7 (.bin .neq (.t 6) (kI 16))]) (.cond (.t 7) (.seq (.reg [oO 2 (.mv (.k (.c .nil)))]) (.ret)) (.skip))) (.seq (.reg [oO 8 (.make true 1 1 (.int .u8 0) (kI 16) (kI 16)),oM 3 8]) (.seq (.seq (.reg [oO 4 (.mv (kI 0))]) (.block 0 (.loop rh))) (.seq (.seq (.reg [oM 37 0,oO 38 (.idxSl 1 (.t 37) (kI 0)),oO 39 (.load .sc (.t 38)),oO 40 (.bin .shr (.t 39) (.k (.c (.d (.int .u64 7))))),oO 41 (.bin .eql (.t 40) (.k (.c (.d (.int .u8 1)))))]) (.cond (.t 41) (.reg [oM 42 3,oM 43 3,oO 44 (.idxSl 1 (.t 43) (kI 15)),oO 45 (.load .sc (.t 44)),oO 46 (.bin .xor (.t 45) (.k (.c (.d (.int .u8 135))))),oO 47 (.idxSl 1 (.t 42) (kI 15)),oN (.store .sc (.t 47) (.t 46))]) (.skip))) (.seq (.reg [oM 48 3,
 oM 2 48]) (.ret)))))),[(2,none)]⟩
theorem VF:aG Tryz.prog { own:=[],comp:=[],frz:=[],nils:=[] } Tryz.f176=some AK:=by kernel_rfl
theorem su (G:ah) (b:List UInt8) (hb:b.length≤9223372036854775807):aw Tryz.prog G 176 [.sl (b.map bD)] (.w (.c (.fr 1 ((dK b).map bD)))):=by
  refine aI Tryz.func176 VF rfl rfl ?_;by_cases h:b.length=16
  ·have hd:=Ix h;have hl:=vu b;have zl:(aR 16 (0:UInt8)).length=16:=be _ _;simp only[AK,af,ae,aa,seval,iteOmega,toNatUp,h,fC];refine aU (sR b) (fun i=>16-i) (fun i=>i≤16) 0 (abc _) ?_ ?_
   ·have e1:=kZ (dG b) (aR 16 0);refine aj (fun i=>64) ?_ ?_ rfl rfl <;> simp only[wx,ai,am,aa,seval,iteOmega,toNatUp,e1]
   ·intro i hi;by_cases hlt:i<16
    ·have g1:b[i]?=some (b.getD i 0):=cX (by omega);have hl1:=ku (dG b) (aR 16 0) (i:=i) (by omega);have h3:i<(bi (dG b) (aR 16 0) i).length:=by omega
     have x1:=si (b.getD i 0) .u64 1 1 rfl (by decide);have hs:=k8 (dG b) (aR 16 0) (i:=i) (by omega);by_cases h15:i<15
     ·have g2:b[i+1]?=some (b.getD (i+1) 0):=cX (by omega);have x2:=pL (b.getD (i+1) 0) .u64 7 7 rfl (by decide);have x3:=ry (cQ (b.getD i 0) 1) (bX (b.getD (i+1) 0) 7);have hdg:jY (cQ (b.getD i 0) 1) (bX (b.getD (i+1) 0) 7)=dG b i:=(if_pos h15).symm;have h4:i<((bi (dG b) (aR 16 0) i).set i (cQ (b.getD i 0) 1)).length:=by rw[aci]; omega
      have g3:((bi (dG b) (aR 16 0) i).set i (cQ (b.getD i 0) 1))[i]?=some (cQ (b.getD i 0) 1):=List.getElem?_set_self (by omega);have hs2:((bi (dG b) (aR 16 0) i).set i (cQ (b.getD i 0) 1)).set i (dG b i)=bi (dG b) (aR 16 0) (i+1):=by rw[List.set_set,hs]
      simp only[rh,sR,ae,aa,seval,iteOmega,toNatUp,aC,g1,x1,h,dH h3 (du _),eV,g3,g2,x2,x3,dH h4 (du _),hdg,hs2];refine aM (i+1) (by omega) (by omega) (aj (fun i=>i) ?_ ?_ rfl rfl) <;> simp only[wx,ai,am,aa,seval,iteOmega,toNatUp]
     ·have hdg:cQ (b.getD i 0) 1=dG b i:=(if_neg h15).symm;rw[hdg] at x1;simp only[rh,sR,ae,aa,seval,iteOmega,toNatUp,aC,g1,x1,h,dH h3 (du _),eV,hs];refine aM (i+1) (by omega) (by omega) (aj (fun i=>i) ?_ ?_ rfl rfl) <;> simp only[wx,ai,am,aa,seval,iteOmega,toNatUp]
    ·obtain rfl:i=16:=by omega
     have e1:bi (dG b) (aR 16 0) 16=hZ b:=uH _ _ (by rw[be]; decide);have g0:b[0]?=some (b.getD 0 0):=cX (by omega);have x1:=pL (b.getD 0 0) .u64 7 7 rfl (by decide);have x2:=Bh (bX (b.getD 0 0) 7) 1 1 rfl;have hr:=VD b;rw[hr] at x2;have g1:=vw b (j:=15) (by decide);have h3:15<(hZ b).length:=by omega
     have hdl:(dK b).length=16:=ki h;have hrb:qA b=i9 (gI (b.getD 0 0) 7) 135:=rfl;cases hb7:gI (b.getD 0 0) 7
     ·rw[hb7] at x2 hrb;rw[hrb,show i9 false 135=0 from rfl,pb] at hd;have hs:(hZ b).set 15 (dG b 15)=hZ b:=by
        apply acf;intro j;rw[acU];by_cases hj:15=j
        ·subst hj;rw[if_pos rfl,if_pos h3,g1]
        ·rw[if_neg hj]
      rw[hs] at hd;simp only[rh,sR,e1,ae,aa,seval,iteOmega,toNatUp,aC,g0,x1,x2,h,hd];exact dE (id:=1) (n:=16) (s:=1) (by simp only[wx,aa,seval,iteOmega,toNatUp]) (by simp only[wx,aa,seval,iteOmega,toNatUp]) (by simp[hdl])
     ·rw[hb7] at x2 hrb;rw[hrb,show i9 true 135=135 from rfl] at hd;have x3:=vS (dG b 15) 135 135 rfl;simp only[rh,sR,e1,ae,aa,seval,iteOmega,toNatUp,aC,g0,x1,x2,h,g1,x3,dH h3 (du _),eV,hd];exact dE (id:=1) (n:=16) (s:=1) (by simp only[wx,aa,seval,iteOmega,toNatUp]) (by simp only[wx,aa,seval,iteOmega,toNatUp]) (by simp[hdl])
  ·rw[KN h];simp only[AK,af,ae,aa,seval,iteOmega,toNatUp];exact dA
def mz (a b:List UInt8) (j:Nat):UInt8:=au (a.getD j 0) (b.getD j 0)
theorem VG {a b:List UInt8} {n:Nat} (ha:a.length=n) (hb:b.length=n):(List.range n).map (mz a b)=bG a b:=by
  apply acf;intro j;by_cases hj:j<n
  ·have:=It a b j (by omega) (by omega);have hl:j<(bG a b).length:=by rw[gm]; omega
   rw[cX hl,this];simp[hj,mz]
  ·rw[abV (by simpa using hj),abV (by rw[gm]; omega)]
def CE (a b:List UInt8) (i:Nat):St:=⟨aQ [(0,.w (.c (.d (.sl (a.map bD))))),(1,.w (.c (.d (.sl (b.map bD))))),(5,.w (.c (.own 1 1 0 16))),(9,.w (.c (.d (.int .i64 16)))),(10,.w (.c (.d (.int .i64 (i:Int)))))],hL [(1,.row 1 ((bi (mz a b) (aR 16 0) i).map bD))],uL [1]⟩
def zU:aN := .seq (.reg [oO 11 (.bin .lss (.t 10) (.t 9))]) (.seq (.cond (.t 11) (.skip) (.exit 0)) (.seq (.block 1 (.seq (.reg [oM 12 10,oM 6 12]) (.reg [oM 13 5,oM 14 6,oM 15 0,oM 16 6,oO 17 (.idxSl 1 (.t 15) (.t 16)),oO 18 (.load .sc (.t 17)),oM 19 1,oM 20 6,oO 21 (.idxSl 1 (.t 19) (.t 20)),oO 22 (.load .sc (.t 21)),oO 23 (.bin .xor (.t 18) (.t 22)),oO 24 (.idxSl 1 (.t 13) (.t 14)),oN (.store .sc (.t 24) (.t 23))]))) (.reg [oO 25 (.bin .add (.t 10) (kI 1)),oM 10 25])))
def M7:aH:=⟨2,27,.seq (.reg [oO 4 (.mv (.k (.c .nil)))]) (.seq (.reg [oO 7 (.make true 1 1 (.int .u8 0) (kI 16) (kI 16)),oM 5 7]) (.seq (.seq (.reg [oM 8 5,oO 9 (.len (.t 8)),oO 10 (.mv (kI 0))]) (.block 0 (.loop zU))) (.seq (.reg [oM 26 5,oM 4 26]) (.ret)))),[(4,none)]⟩
theorem XQ:aG Tryz.prog { own:=[],comp:=[],frz:=[],nils:=[] } Tryz.f171=some M7:=by kernel_rfl
theorem oA (G:ah) (a b:List UInt8) (ha:a.length=16) (hb:b.length=16):aw Tryz.prog G 171 [.sl (a.map bD),.sl (b.map bD)] (.w (.c (.fr 1 ((bG a b).map bD)))):=by
  refine aI Tryz.func171 XQ rfl rfl ?_;have zl:(aR 16 (0:UInt8)).length=16:=be _ _;simp only[M7,af,ae,aa,seval,iteOmega,toNatUp,fC];refine aU (CE a b) (fun i=>16-i) (fun i=>i≤16) 0 (abc _) ?_ ?_
  ·have e1:=kZ (mz a b) (aR 16 0);refine aj (fun i=>56) ?_ ?_ rfl rfl <;> simp only[wx,ai,am,aa,seval,iteOmega,toNatUp,e1]
  ·intro i hi;by_cases hlt:i<16
   ·have g1:a[i]?=some (a.getD i 0):=cX (by omega);have g2:b[i]?=some (b.getD i 0):=cX (by omega);have hl1:=ku (mz a b) (aR 16 0) (i:=i) (by omega);have h3:i<(bi (mz a b) (aR 16 0) i).length:=by omega
    have x1:=dp (a.getD i 0) (b.getD i 0);have hx:au (a.getD i 0) (b.getD i 0)=mz a b i:=rfl;have hs:=k8 (mz a b) (aR 16 0) (i:=i) (by omega);simp only[zU,CE,ae,aa,seval,iteOmega,toNatUp,aC,g1,g2,x1,ha,hb,dH h3 (du _),eV,hx,hs];refine aM (i+1) (by omega) (by omega) (aj (fun i=>i) ?_ ?_ rfl rfl) <;> simp only[wx,ai,am,aa,seval,iteOmega,toNatUp]
   ·obtain rfl:i=16:=by omega
    have e1:bi (mz a b) (aR 16 0) 16=bG a b:=by rw[uH _ _ (by rw[be]; decide),VG ha hb]
    have hl:(bG a b).length=16:=by rw[gm]; exact ha
    simp only[zU,CE,e1,ae,aa,seval,iteOmega,toNatUp];exact dE (id:=1) (n:=16) (s:=1) (by simp only[wx,aa,seval,iteOmega,toNatUp]) (by simp only[wx,aa,seval,iteOmega,toNatUp]) (by simp[hl])
def gK (a b:List UInt8) (i:Nat):List UInt8:=bG a (b.take i)
theorem TV (a b:List UInt8) (i:Nat):(gK a b i).length=a.length:=gm _ _
theorem KO:∀ (a b:List UInt8) (i:Nat),i<b.length→(gK a b i)[i]?=a[i]?
  | [],_,_,_=>by simp[gK,bG]
  | x::a,b,0,_=>by simp[gK,zP]
  | x::a,[],i+1,h=>by simp at h
  | x::a,y::b,i+1,h=>by
    show (gK a b i)[i]?=a[i]?
    exact KO a b i (by simpa using h)
theorem F2:∀ (a b:List UInt8) (i:Nat),i<a.length→i<b.length→(gK a b i).set i (au (a.getD i 0) (b.getD i 0))=gK a b (i+1)
  | [],_,_,h,_=>by simp at h
  | x::a,[],_,_,h=>by simp at h
  | x::a,y::b,0,_,_=>by simp[gK,zP,bG]
  | x::a,y::b,i+1,h,g=>by
    show au x y::(gK a b i).set i _=au x y::gK a b (i+1)
    rw[← F2 a b i (by simpa using h) (by simpa using g)];rfl
theorem zV:∀ (a b:List UInt8) (i:Nat),min a.length b.length≤i→gK a b i=bG a b
  | [],_,_,_=>by simp[gK,bG]
  | x::a,[],i,_=>by simp[gK]
  | x::a,y::b,0,h=>by simp at h
  | x::a,y::b,i+1,h=>by
    show au x y::gK a b i=au x y::bG a b
    rw[zV a b i (by simp at h; omega)]
def wS (a b:List UInt8) (i:Nat):St:=⟨aQ [(1,.w (.c (.d (.sl (b.map bD))))),(5,.w (.c (.own 1 1 0 a.length))),(6,.w (.c (.d (.int .i64 (i:Int)))))],hL [(1,.row 1 ((gK a b i).map bD))],uL [1]⟩
def ug:aN := .seq (.seq (.reg [oM 10 6,oM 11 5,oO 12 (.len (.t 11)),oO 13 (.bin .lss (.t 10) (.t 12)),oM 14 13,oG 15 (.mv (.t 6)) 14 true,oG 16 (.mv (.t 1)) 14 true,oG 17 (.len (.t 16)) 14 true,oG 18 (.bin .lss (.t 15) (.t 17)) 14 true,oO 19 (.pick (.t 14) (.t 18) (.k (.c (.d (.bool false)))))]) (.cond (.t 19) (.skip) (.exit 0))) (.seq (.block 1 (.reg [oM 22 5,oM 23 6,oM 24 5,oM 25 6,oO 26 (.idxSl 1 (.t 24) (.t 25)),oO 27 (.load .sc (.t 26)),oM 28 1,oM 29 6,oO 30 (.idxSl 1 (.t 28) (.t 29)),oO 31 (.load .sc (.t 30)),oO 32 (.bin .xor (.t 27) (.t 31)),oO 33 (.idxSl 1 (.t 22) (.t 23)),oN (.store .sc (.t 33) (.t 32))])) (.reg [oM 20 6,oO 21 (.bin .add (.t 20) (kI 1)),oM 6 21]))
def KP:aH:=⟨2,35,.seq (.reg [oO 4 (.mv (.k (.c .nil)))]) (.seq (.reg [oM 7 0,oO 8 (.bldSl false 1 1 (.sl []) [(0,(.t 7))]),oO 9 (.call 43 [(.t 8)] (some (0,1))),oM 5 9]) (.seq (.seq (.reg [oO 6 (.mv (kI 0))]) (.block 0 (.loop ug))) (.seq (.reg [oM 34 5,oM 4 34]) (.ret)))),[(4,none)]⟩
theorem VH:aG Tryz.prog { own:=[9],comp:=[],frz:=[],nils:=[] } Tryz.f175=some KP:=by kernel_rfl
theorem lj (G:ah) (a b:List UInt8) (ha:a.length≤140737488355328) (hb:b.length≤9223372036854775807):aw Tryz.prog G 175 [.sl (a.map bD),.sl (b.map bD)] (.w (.c (.fr 1 ((bG a b).map bD)))):=by
  refine aI Tryz.func175 VH rfl rfl ?_;have hj:=fQ G [a] (by simp) (by simp; omega);have hf:[a].flatten=a:=by simp
  rw[hf] at hj;simp only[KP,af,ae,aa,seval,iteOmega,toNatUp];refine sD (hj) ?_;obtain⟨M,hM⟩:∃ M,M=min a.length b.length:=⟨_,rfl⟩
  refine aU (wS a b) (fun i=>M-i) (fun i=>i≤M) 0 (abc _) ?_ ?_
  ·have e1:gK a b 0=a:=by simp[gK,zP]
   refine aj (fun i=>72) ?_ ?_ rfl rfl <;> simp only[wx,ai,am,aa,seval,iteOmega,toNatUp,e1]
  ·intro i hi;have hl:=TV a b i;by_cases h1:i<a.length
   ·by_cases h2:i<b.length
    ·have g1:a[i]?=some (a.getD i 0):=cX (by omega);have g2:b[i]?=some (b.getD i 0):=cX (by omega);have g3:=KO a b i h2;rw[g1] at g3;have h3:i<(gK a b i).length:=by omega
     have x1:=dp (a.getD i 0) (b.getD i 0);have hs:=F2 a b i h1 h2;simp only[ug,wS,ae,aa,seval,iteOmega,toNatUp,aC,g3,g2,x1,hl,dH h3 (du _),eV,hs];refine aM (i+1) (by omega) (by omega) (aj (fun i=>i) ?_ ?_ rfl rfl) <;> simp only[wx,ai,am,aa,seval,iteOmega,toNatUp]
    ·have e1:=zV a b i (by omega);rw[e1] at hl;simp only[ug,wS,e1,ae,aa,seval,iteOmega,toNatUp];exact dE (id:=1) (n:=a.length) (s:=1) (by simp only[wx,aa,seval,iteOmega,toNatUp]) (by simp only[wx,aa,seval,iteOmega,toNatUp]) (by simp[hl])
   ·have e1:=zV a b i (by omega);rw[e1] at hl;simp only[ug,wS,e1,ae,aa,seval,iteOmega,toNatUp];exact dE (id:=1) (n:=a.length) (s:=1) (by simp only[wx,aa,seval,iteOmega,toNatUp]) (by simp only[wx,aa,seval,iteOmega,toNatUp]) (by simp[hl])
theorem KQ {key b:List UInt8} (h:key.length=16) (hb:b.length=16):xG key b=dh (aA key) b:=if_pos ⟨h,hb⟩
theorem KR {key b:List UInt8} (h:key.length=16) (hb:b.length=16):tn key b=0:=by unfold tn; rw[if_neg (by omega),if_neg (by omega)]
theorem vx (b:List UInt8):qz b 16=gZ b:=rfl
def iA (key:List UInt8):D:=.agg [.sl (key.map bD),.sl ((fZ (aA key)).map bD),.sl ((jt (aA key)).map bD)]
def tB (key:List UInt8):D:=if key.length=16 then iA key else .agg [.sl [],.sl [],.sl []]
theorem gG (s:Nat) (l:List UInt8) (k:IntKind) (n:Int):V.flat (.tup [.c (.fr s (l.map bD)),.c (.d (.int k n))])=true:=by
  have:=gu s l;simp only[V.flat,W.flat,List.all_cons,List.all_nil,Bool.and_true] at this ⊢;rw[this]; rfl
def KS:aH:=⟨2,15,.seq (.reg [oO 2 (.box .roBox (.t 0)),oO 4 (.mv (.k (.c .nil)))]) (.seq (.reg [oO 8 (.fieldAddr 0 (.t 2)),oO 9 (.load .sc (.t 8)),oM 10 1,oO 11 (.call 168 [(.t 9),(.t 10)] (some (0,1))),oM 7 11,oO 12 (.extract (.t 7) 0),oO 13 (.extract (.t 7) 1),oM 5 12,oM 6 13]) (.seq (.reg [oM 14 5,oM 4 14]) (.ret))),[(4,none)]⟩
theorem VI:aG Tryz.prog { own:=[],comp:=[(11,0)],frz:=[],nils:=[] } Tryz.f181=some KS:=by kernel_rfl
theorem M8 (G:ah) (key b:List UInt8) (h:key.length=16) (hb:b.length=16):aw Tryz.prog G 181 [.agg [.sl (key.map bD)],.sl (b.map bD)] (.w (.c (.fr 1 ((dh (aA key) b).map bD)))):=by
  refine aI Tryz.func181 VI rfl rfl ?_;have hx:=CC G key b (by omega) (by omega);rw[KQ h hb,KR h hb] at hx;simp only[KS,af,ae,aa,seval,iteOmega,toNatUp];refine sD (hx) ?_;exact dA
theorem XR (G:ah) (key b:List UInt8) (h:key.length=16) (hb:b.length=16):aw Tryz.prog G 181 [.agg [.sl (key.map bD)],.sl (b.map bD)] (.w (.c (.d (.sl ((dh (aA key) b).map bD))))):=li (M8 G key b h hb)
def AL:aH:=⟨1,25,.seq (.reg [oO 2 (.alloc [.nil,.nil,.nil]),oO 3 (.mv (kI 0))]) (.seq (.reg [oM 8 0,oO 9 (.make true 1 1 (.int .u8 0) (kI 16) (kI 16)),oO 10 (.call 168 [(.t 8),(.t 9)] none),oM 7 10,oO 11 (.extract (.t 7) 0),oO 12 (.extract (.t 7) 1),oM 4 11,oM 5 12]) (.seq (.seq (.reg [oM 13 5,oO 14 (.bin .neq (.t 13) (kI 0))]) (.cond (.t 14) (.seq (.reg [oO 15 (.build [.nil,.nil,.nil] []),oM 16 5,oN (.store (.ag 3) (.t 2) (.t 15)),oM 3 16]) (.ret)) (.skip))) (.seq (.reg [oM 17 4,oO 18 (.call 169 [(.t 17)] none),oM 6 18]) (.seq (.reg [oM 19 0,oO 20 (.build [.nil] [(0,1,(.t 19))]),oM 21 6,oM 22 6,oO 23 (.call 169 [(.t 22)] none),oO 24 (.build [.nil,.nil,.nil] [(0,1,(.t 20)),(1,1,(.t 21)),(2,1,(.t 23))]),oN (.store (.ag 3) (.t 2) (.t 24)),oO 3 (.mv (kI 0))]) (.ret))))),[(2,(some (.ag 3))),(3,none)]⟩
theorem VJ:aG Tryz.prog { own:=[],comp:=[],frz:=[],nils:=[] } Tryz.f153=some AL:=by kernel_rfl
theorem XS (G:ah) (key:List UInt8) (hk:key.length≤9223372036854775807):aw Tryz.prog G 153 [.sl (key.map bD)] (.tup [.c (.d (tB key)),.c (.d (.int .i64 (oL key)))]):=by
  refine aI Tryz.func153 VJ rfl rfl ?_;have t0:(aR 16 (0:UInt8)).take 16=ee:=rfl;by_cases h:key.length=16
  ·have hx:=CC G key ee (by omega) (by decide);rw[KQ h (by decide),KR h (by decide)] at hx;have hv:tB key=iA key:=if_pos h;have he:oL key=0:=by unfold oL; rw[if_neg (by omega)]
   have h1:=wR G (dh (aA key) ee) (by rw[iU]; decide);have h2:=wR G (fZ (aA key)) (by rw[nV]; decide);have s1:dK (dh (aA key) ee)=fZ (aA key):=rfl;have s2:dK (fZ (aA key))=jt (aA key):=rfl;rw[s1] at h1;rw[s2] at h2;rw[hv,he];simp only[AL,af,ae,aa,seval,iteOmega,toNatUp,fC];refine aW hx (by simp only[ae,aa,seval,iteOmega,toNatUp,bu,t0,be]) (.inr (gG _ _ _ _)) ?_;simp only[ae,aa,seval,iteOmega,toNatUp];refine sD (h1) ?_;refine sD (h2) ?_;exact kA (by simp only[ae,aa,seval,iteOmega,toNatUp,iA]) (by simp only[ae,aa,seval,iteOmega,toNatUp])
  ·have hv:tB key=.agg [.sl [],.sl [],.sl []]:=if_neg h;have he:oL key=5:=if_pos h;have hx:=CC G key ee (by omega) (by decide);have v1:xG key ee=[]:=if_neg (fun k=>h k.1);have v2:tn key ee=5:=if_pos h;rw[v1,v2] at hx;rw[hv,he];simp only[AL,af,ae,aa,seval,iteOmega,toNatUp,fC];refine aW hx (by simp only[ae,aa,seval,iteOmega,toNatUp,bu,t0,be]) (.inr (gG _ _ _ _)) ?_;simp only[ae,aa,seval,iteOmega,toNatUp];exact aE
def KT:aH:=⟨1,8,.seq (.reg [oO 2 (.mv (.k (.c .nil)))]) (.seq (.reg [oM 3 0,oO 4 (.bldSl false 1 1 (.int .u8 0) [(0,(.k (.c (.d (.int .u8 128)))))]),oO 5 (.bldSl false 2 1 (.sl []) [(0,(.t 3)),(1,(.t 4))]),oO 6 (.call 90 [(.t 5)] none),oO 7 (.call 187 [(.t 6),(kI 16)] none),oM 2 7]) (.ret)),[(2,none)]⟩
theorem VK:aG Tryz.prog { own:=[],comp:=[],frz:=[],nils:=[] } Tryz.f183=some KT:=by kernel_rfl
theorem M9 (G:ah) (b:List UInt8) (hb:b.length≤70000):aw Tryz.prog G 183 [.sl (b.map bD)] (.w (.c (.d (.sl ((gZ (b++[128])).map bD))))):=by
  refine aI Tryz.func183 VK rfl rfl ?_;have hj:=gV G [b,[128]] (by simp) (by simp; omega);have hf:[b,[128]].flatten=b++[128]:=by simp
  rw[hf] at hj;have hp:=Z9 G (b++[128]) 16 (by simp; omega);rw[vx] at hp;simp only[KT,af,ae,aa,seval,iteOmega,toNatUp];refine sD (hj) ?_;refine sD (hp) ?_;exact aL
theorem y9 (rk:List UInt8) {e:List UInt8} (h:e.length=16):ja rk e=bG e (fZ rk):=if_pos h
theorem za (rk:List UInt8) {e:List UInt8} (h:e.length≠16):ja rk e=bG (gZ (e++[128])) (jt rk):=if_neg h
def zW:aH:=⟨2,17,.seq (.reg [oO 2 (.box .roBox (.t 0)),oO 4 (.mv (.k (.c .nil)))]) (.seq (.seq (.reg [oM 5 1,oO 6 (.len (.t 5)),oO 7 (.bin .eql (.t 6) (kI 16))]) (.cond (.t 7) (.seq (.reg [oM 8 1,oO 9 (.fieldAddr 1 (.t 2)),oO 10 (.load .sc (.t 9)),oO 11 (.call 171 [(.t 8),(.t 10)] none),oM 4 11]) (.ret)) (.skip))) (.seq (.reg [oM 12 1,oO 13 (.call 183 [(.t 12)] none),oO 14 (.fieldAddr 2 (.t 2)),oO 15 (.load .sc (.t 14)),oO 16 (.call 171 [(.t 13),(.t 15)] none),oM 4 16]) (.ret))),[(4,none)]⟩
theorem TW:aG Tryz.prog { own:=[],comp:=[],frz:=[],nils:=[] } Tryz.f182=some zW:=by kernel_rfl
theorem VL (G:ah) (key b:List UInt8) (hb:b.length≤16):aw Tryz.prog G 182 [iA key,.sl (b.map bD)] (.w (.c (.d (.sl ((ja (aA key) b).map bD))))):=by
  refine aI Tryz.func182 TW rfl rfl ?_;by_cases h:b.length=16
  ·rw[y9 _ h];simp only[zW,af,iA,ae,aa,seval,iteOmega,toNatUp,h];refine sD (oA G b (fZ (aA key)) h (nV _)) ?_;exact aL
  ·rw[za _ h];simp only[zW,af,iA,ae,aa,seval,iteOmega,toNatUp];refine sD (M9 G b (by omega)) ?_;refine sD (oA G (gZ (b++[128])) (jt (aA key)) (o6 (by omega)) (zQ _)) ?_;exact aL
def nE (key b:List UInt8):Nat→V
  | 0=>.w (.c (.own 1 1 0 16))
  | i+1=>.w (.c (.d (.sl ((dL (aA key) b (i+1)).map bD))))
def sS (key b:List UInt8) (i:Nat):St:=⟨aQ [(1,.w (.c (.d (.sl ((b.drop (16*i)).map bD))))),(2,.w (.c (.rp [.sl (key.map bD),.sl ((fZ (aA key)).map bD),.sl ((jt (aA key)).map bD)]))),(5,nE key b i)],hL [(1,.row 1 ((aR 16 (0:UInt8)).map bD))],uL [1]⟩
theorem XT (b:List UInt8) (i:Nat):((b.drop (16*i)).drop 16).take ((b.drop (16*i)).length-16)=b.drop (16*(i+1)):=by
  rw[adf,aa9 (by simp only[abi]; omega)]; rfl
def rj:aN := .seq (.seq (.reg [oM 7 1,oO 8 (.len (.t 7)),oO 9 (.bin .gtr (.t 8) (kI 16))]) (.cond (.t 9) (.skip) (.exit 0))) (.block 1 (.seq (.reg [oO 10 (.fieldAddr 0 (.t 2)),oO 11 (.load (.ag 1) (.t 10)),oM 12 5,oM 13 1,oO 14 (.slice 1 (.t 13) none (some (kI 16)) none),oO 15 (.call 171 [(.t 12),(.t 14)] none),oO 16 (.call 181 [(.t 11),(.t 15)] none),oM 5 16]) (.reg [oM 17 1,oO 18 (.slice 1 (.t 17) (some (kI 16)) none none),oM 1 18])))
def KU:aH:=⟨2,27,.seq (.reg [oO 2 (.box .roBox (.t 0)),oO 4 (.mv (.k (.c .nil)))]) (.seq (.reg [oO 6 (.make true 1 1 (.int .u8 0) (kI 16) (kI 16)),oM 5 6]) (.seq (.block 0 (.loop rj)) (.seq (.reg [oO 19 (.fieldAddr 0 (.t 2)),oO 20 (.load (.ag 1) (.t 19)),oM 21 5,oO 22 (.load (.ag 3) (.t 2)),oM 23 1,oO 24 (.call 182 [(.t 22),(.t 23)] none),oO 25 (.call 171 [(.t 21),(.t 24)] none),oO 26 (.call 181 [(.t 20),(.t 25)] (some (0,1))),oM 4 26]) (.ret)))),[(4,none)]⟩
theorem VM:aG Tryz.prog { own:=[26],comp:=[],frz:=[],nils:=[] } Tryz.f170=some KU:=by kernel_rfl
theorem v6 (G:ah) (key b:List UInt8) (h:key.length=16) (hb:b.length≤70000):aw Tryz.prog G 170 [iA key,.sl (b.map bD)] (.w (.c (.fr 1 ((f8 (aA key) b).map bD)))):=by
  refine aI Tryz.func170 VM rfl rfl ?_;have t0:(aR 16 (0:UInt8)).take 16=ee:=rfl;have hah:gq b=(b.length+15) / 16-1:=rfl;have hm:∀ i,i=gq b→f8 (aA key) b=dh (aA key) (bG (dL (aA key) b i) (ja (aA key) (b.drop (16*i)))):=fun i e=>by rw[e]; rfl
  simp only[KU,af,iA,ae,aa,seval,iteOmega,toNatUp,fC];refine aU (sS key b) (fun i=>gq b-i) (fun i=>i≤gq b) 0 (abc _) ?_ ?_
  ·refine aj (fun i=>48) ?_ ?_ rfl rfl <;> simp only[wx,ai,am,aa,seval,iteOmega,toNatUp,nE]
  ·intro i hi;have hcl:(b.drop (16*i)).length=b.length-16*i:=abi;have hdr:=XT b i;by_cases hlt:i<gq b
   ·have hT:((b.drop (16*i)).take 16).length=16:=by rw[abg]; omega
    have hstep:dh (aA key) (bG (dL (aA key) b i) ((b.drop (16*i)).take 16))=dL (aA key) b (i+1):=rfl;have h1:=oA G (dL (aA key) b i) ((b.drop (16*i)).take 16) (k9 _ _ _) hT;have h2:=XR G key (bG (dL (aA key) b i) ((b.drop (16*i)).take 16)) h (by rw[gm,k9]);rw[hstep] at h2;rcases i with _ | i
    ·have hz:dL (aA key) b 0=ee:=rfl;rw[hz] at h1 h2;simp only[acM,acH,ab5,acL] at hdr;simp only[rj,sS,nE,ae,aa,seval,iteOmega,toNatUp];refine aW h1 (by simp only[ae,aa,seval,iteOmega,toNatUp,bu,t0,be]) (.inr (gu _ _)) ?_;simp only[ae,aa,seval,iteOmega,toNatUp];refine sC (h2) ?_;simp only[hdr,ae,aa,seval,iteOmega,toNatUp];refine aM (0+1) (by omega) (by omega) (aj (fun i=>i) ?_ ?_ rfl rfl) <;> simp only[wx,ai,am,aa,seval,iteOmega,toNatUp,nE]
    ·simp only[rj,sS,nE,ae,aa,seval,iteOmega,toNatUp];refine sD (h1) ?_;refine sC (h2) ?_;simp only[hdr,ae,aa,seval,iteOmega,toNatUp];refine aM (i+1+1) (by omega) (by omega) (aj (fun i=>i) ?_ ?_ rfl rfl) <;> simp only[wx,ai,am,aa,seval,iteOmega,toNatUp,nE]
   ·rw[hm i (by omega)];have hl16:(b.drop (16*i)).length≤16:=by omega
    have h1:=VL G key (b.drop (16*i)) hl16;have h2:=oA G (dL (aA key) b i) (ja (aA key) (b.drop (16*i))) (k9 _ _ _) (zR hl16);have h3:=M8 G key (bG (dL (aA key) b i) (ja (aA key) (b.drop (16*i)))) h (by rw[gm,k9]);rcases i with _ | i
    ·have hz:dL (aA key) b 0=ee:=rfl;rw[hz] at h2 h3 ⊢;simp only[rj,sS,nE,ae,aa,seval,iteOmega,toNatUp];refine sD (h1) ?_;refine aW h2 (by simp only[ae,aa,seval,iteOmega,toNatUp,bu,t0,be]) (.inr (gu _ _)) ?_;simp only[ae,aa,seval,iteOmega,toNatUp];refine sD (h3) ?_;exact dA
    ·simp only[rj,sS,nE,ae,aa,seval,iteOmega,toNatUp];refine sD (h1) ?_;refine sD (h2) ?_;refine sD (h3) ?_;exact dA
theorem XU (G:ah) (key b:List UInt8) (h:key.length=16) (hb:b.length≤70000):aw Tryz.prog G 170 [iA key,.sl (b.map bD)] (.w (.c (.d (.sl ((f8 (aA key) b).map bD))))):=li (v6 G key b h hb)
def AM:aH:=⟨2,26,.seq (.reg [oO 4 (.mv (.k (.c .nil)))]) (.seq (.reg [oM 6 0,oO 7 (.len (.t 6)),oO 8 (.bin .sub (.t 7) (kI 16)),oM 5 8]) (.seq (.seq (.reg [oM 9 5,oO 10 (.bin .lss (.t 9) (kI 0))]) (.cond (.t 10) (.seq (.reg [oM 11 1,oO 12 (.call 169 [(.t 11)] none),oM 13 0,oO 14 (.call 183 [(.t 13)] none),oO 15 (.call 171 [(.t 12),(.t 14)] none),oM 4 15]) (.ret)) (.skip))) (.seq (.reg [oM 16 0,oM 17 5,oO 18 (.slice 1 (.t 16) none (some (.t 17)) none),oM 19 0,oM 20 5,oO 21 (.slice 1 (.t 19) (some (.t 20)) none none),oM 22 1,oO 23 (.call 171 [(.t 21),(.t 22)] none),oO 24 (.bldSl false 2 1 (.sl []) [(0,(.t 18)),(1,(.t 23))]),oO 25 (.call 90 [(.t 24)] none),oM 4 25]) (.ret)))),[(4,none)]⟩
theorem VN:aG Tryz.prog { own:=[],comp:=[],frz:=[],nils:=[] } Tryz.f172=some AM:=by kernel_rfl
theorem XV (G:ah) (s d:List UInt8) (hs:s.length≤70000) (hd:d.length=16):aw Tryz.prog G 172 [.sl (s.map bD),.sl (d.map bD)] (.w (.c (.d (.sl ((if 16≤s.length then s.take (s.length-16)++bG (s.drop (s.length-16)) d else bG (dK d) (gZ (s++[128]))).map bD))))):=by
  refine aI Tryz.func172 VN rfl rfl ?_;by_cases h:16≤s.length
  ·rw[if_pos h];have hl:(s.drop (s.length-16)).length=16:=by rw[abi]; omega
   have ht:(s.drop (s.length-16)).take (s.length-(s.length-16))=s.drop (s.length-16):=aa9 (by omega);have hj:=gV G [s.take (s.length-16),bG (s.drop (s.length-16)) d] (by simp) (by simp[gm]; omega);have hf:[s.take (s.length-16),bG (s.drop (s.length-16)) d].flatten=s.take (s.length-16)++bG (s.drop (s.length-16)) d:=by simp
   rw[hf] at hj;have e1:(((s.length:Int)-16).toNat)=s.length-16:=by omega
   simp only[AM,af,ae,aa,seval,iteOmega,toNatUp,e1,ht];refine sD (oA G (s.drop (s.length-16)) d hl hd) ?_;refine sD (hj) ?_;exact aL
  ·rw[if_neg h];simp only[AM,af,ae,aa,seval,iteOmega,toNatUp];refine sD (wR G d (by omega)) ?_;refine sD (M9 G s (by omega)) ?_;refine sD (oA G (dK d) (gZ (s++[128])) (ki hd) (o6 (by omega))) ?_;exact aL
def CF (key:List UInt8) (l:List (List UInt8)) (i:Nat):St:=⟨aQ [(1,.w (.c (.d (.sl (l.map fun l=>D.sl (l.map bD)))))),(2,.w (.c (.rp [.sl (key.map bD),.sl ((fZ (aA key)).map bD),.sl ((jt (aA key)).map bD)]))),(5,.w (.c (.d (.sl ((fB (aA key) l i).map bD))))),(6,.w (.c (.d (.int .i64 ((l.length:Int)-1))))),(23,.w (.c (.d (.sl ((l.take (l.length-1)).map fun l=>D.sl (l.map bD)))))),(24,.w (.c (.d (.int .i64 ((l.length:Int)-1))))),(25,.w (.c (.d (.int .i64 (i:Int)))))],hL [(1,.row 1 ((aR 16 (0:UInt8)).map bD))],uL [1]⟩
theorem F3 (rk:List UInt8) {l:List (List UInt8)} (h:l.length=0):jb rk l=f8 rk (aV 1 16):=by
  unfold jb; rw[if_pos h]; congr 1
theorem zb (rk:List UInt8) {l:List (List UInt8)} (h:l.length≠0):jb rk l=f8 rk (if 16≤(l.getD (l.length-1) []).length then (l.getD (l.length-1) []).take ((l.getD (l.length-1) []).length-16)++bG ((l.getD (l.length-1) []).drop ((l.getD (l.length-1) []).length-16)) (fB rk l (l.length-1)) else bG (dK (fB rk l (l.length-1))) (gZ (l.getD (l.length-1) []++[128]))):=by
  unfold jb; rw[if_neg h]; dsimp only; split <;> rfl
theorem pD {l:List (List UInt8)} {j:Nat} (h:j<l.length):l[j]?=some (l.getD j []):=by
  rw[abb,aa7 h]; rfl
theorem nW {l:List (List UInt8)} {j:Nat} (h:j<l.length):l.getD j []∈l:=by
  rw[abb,aa7 h]; exact abG h
def zd:aN := .seq (.reg [oO 26 (.bin .lss (.t 25) (.t 24))]) (.seq (.cond (.t 26) (.skip) (.exit 0)) (.seq (.block 1 (.seq (.reg [oO 27 (.idxSl 1 (.t 23) (.t 25)),oO 28 (.load .sc (.t 27)),oM 8 28]) (.reg [oM 29 5,oO 30 (.call 169 [(.t 29)] none),oO 31 (.load (.ag 3) (.t 2)),oM 32 8,oO 33 (.call 170 [(.t 31),(.t 32)] none),oO 34 (.call 171 [(.t 30),(.t 33)] none),oM 5 34]))) (.reg [oO 35 (.bin .add (.t 25) (kI 1)),oM 25 35])))
def AO:aH:=⟨2,44,.seq (.reg [oO 2 (.box .roBox (.t 0)),oO 4 (.mv (.k (.c .nil)))]) (.seq (.seq (.reg [oM 9 1,oO 10 (.len (.t 9)),oO 11 (.bin .eql (.t 10) (kI 0))]) (.cond (.t 11) (.seq (.reg [oO 12 (.load (.ag 3) (.t 2)),oO 13 (.call 91 [(.k (.c (.d (.int .u64 1)))),(kI 16)] none),oO 14 (.call 170 [(.t 12),(.t 13)] (some (0,1))),oM 4 14]) (.ret)) (.skip))) (.seq (.reg [oO 15 (.load (.ag 3) (.t 2)),oO 16 (.make true 1 1 (.int .u8 0) (kI 16) (kI 16)),oO 17 (.call 170 [(.t 15),(.t 16)] none),oM 5 17]) (.seq (.reg [oM 18 1,oO 19 (.len (.t 18)),oO 20 (.bin .sub (.t 19) (kI 1)),oM 6 20]) (.seq (.seq (.reg [oM 21 1,oM 22 6,oO 23 (.slice 1 (.t 21) none (some (.t 22)) none),oO 24 (.len (.t 23)),oO 25 (.mv (kI 0))]) (.block 0 (.loop zd))) (.seq (.reg [oO 36 (.load (.ag 3) (.t 2)),oM 37 1,
 oM 38 6,oO 39 (.idxSl 1 (.t 37) (.t 38)),oO 40 (.load .sc (.t 39)),oM 41 5,oO 42 (.call 172 [(.t 40),(.t 41)] none),oO 43 (.call 170 [(.t 36),(.t 42)] (some (0,1))),oM 4 43]) (.ret)))))),[(4,none)]⟩
theorem VO:aG Tryz.prog { own:=[14,43],comp:=[],frz:=[],nils:=[] } Tryz.f154=some AO:=by kernel_rfl
theorem XW (G:ah) (key:List UInt8) (l:List (List UInt8)) (h:key.length=16) (hl:l.length≤17) (hb:∀ x∈l,x.length≤65535):aw Tryz.prog G 154 [iA key,.sl (l.map fun l=>D.sl (l.map bD))] (.w (.c (.fr 1 ((jb (aA key) l).map bD)))):=by
  refine aI Tryz.func154 VO rfl rfl ?_;have t0:(aR 16 (0:UInt8)).take 16=ee:=rfl;by_cases h0:l.length=0
  ·rw[F3 _ h0];simp only[AO,af,iA,ae,aa,seval,iteOmega,toNatUp,h0];refine sD (na G 1 16 (by decide)) ?_;refine sD (v6 G key (aV 1 16) h (by rw[bU]; decide)) ?_;exact dA
  ·rw[zb _ h0];have e1:(((l.length:Int)-1).toNat)=l.length-1:=by omega
   have e2:(l.take (l.length-1)).length=l.length-1:=by rw[abg]; omega
   have e3:((l.length-1:Nat):Int)=(l.length:Int)-1:=by omega
   simp only[AO,af,iA,ae,aa,seval,iteOmega,toNatUp,fC];refine aW (v6 G key ee h (by decide)) (by simp only[ae,aa,seval,iteOmega,toNatUp,bu,t0,be,iA]) (.inr (gu _ _)) ?_;simp only[ae,aa,seval,iteOmega,toNatUp,e1,e2,e3,rA];refine aU (CF key l) (fun i=>l.length-1-i) (fun i=>i≤l.length-1) 0 (abc _) ?_ ?_
   ·refine aj (fun i=>128) ?_ ?_ rfl rfl <;> simp only[wx,ai,am,aa,seval,iteOmega,toNatUp,fB,e2,e3]
   ·intro i hi;have hd:=zS (aA key) l i;by_cases hlt:i<l.length-1
    ·have g1:(l.take (l.length-1))[i]?=some (l.getD i []):=by rw[abx,if_pos hlt,pD (by omega)]
     have hx:=hb _ (nW (l:=l) (j:=i) (by omega));have hs:bG (dK (fB (aA key) l i)) (f8 (aA key) (l.getD i []))=fB (aA key) l (i+1):=rfl;have h1:=wR G (fB (aA key) l i) (by omega);have h2:=XU G key (l.getD i []) h (by omega);have h3:=oA G (dK (fB (aA key) l i)) (f8 (aA key) (l.getD i [])) (ki hd) (rB _ _);rw[hs] at h3;simp only[zd,CF,ae,aa,seval,iteOmega,toNatUp,aC,g1,e2,e3];refine sD (h1) ?_;refine sD (h2) ?_;refine sD (h3) ?_;refine aM (i+1) (by omega) (by omega) (aj (fun i=>i) ?_ ?_ rfl rfl) <;> simp only[wx,ai,am,aa,seval,iteOmega,toNatUp]
    ·obtain rfl:i=l.length-1:=by omega
     have g1:l[l.length-1]?=some (l.getD (l.length-1) []):=pD (by omega);have hx:=hb _ (nW (l:=l) (j:=l.length-1) (by omega));have h1:=XV G (l.getD (l.length-1) []) (fB (aA key) l (l.length-1)) (by omega) hd;have hcl:∀ s d:List UInt8,s.length≤65535→d.length=16→(if 16≤s.length then s.take (s.length-16)++bG (s.drop (s.length-16)) d else bG (dK d) (gZ (s++[128]))).length≤70000:=by
       intro s d h1 h2;split
       ·rw[aba,gm,← aba,abP]; omega
       ·rw[gm,ki h2]; decide
     have h2:=v6 G key _ h (hcl _ _ hx hd);simp only[zd,CF,ae,aa,seval,iteOmega,toNatUp,aC,g1,e1,e3];refine sD (h1) ?_;refine sD (h2) ?_;exact dA
def lw (l:List (List UInt8)):Bool:=l.any fun x=>decide (65535<x.length)
def qB (key:List UInt8) (l:List (List UInt8)):Int:=if key.length≠16 then 5 else if 17<l.length then 8 else if lw l=true then 2 else 0
def tp (key:List UInt8) (l:List (List UInt8)):List UInt8:=if key.length=16∧l.length≤17∧lw l=false then jb (aA key) l else []
theorem Iy {l:List (List UInt8)} (h:∀ j,j<l.length→(l.getD j []).length≤65535):lw l=false:=by
  unfold lw;rw[aca];intro x hx;obtain⟨j,hj,rfl⟩:=abR hx;have:=h j hj;rw[abb,aa7 hj] at this
  simpa using this
theorem F4 {l:List (List UInt8)} {j:Nat} (hj:j<l.length) (h:65535<(l.getD j []).length):lw l=true:=by
  unfold lw;rw[ace];exact⟨_,nW hj,decide_eq_true h⟩
theorem F5 {l:List (List UInt8)} (h:lw l=false):∀ x∈l,x.length≤65535:=by
  unfold lw at h;rw[aca] at h;intro x hx;have:=h x hx
  simpa using this
def wT (key:List UInt8) (l:List (List UInt8)) (i:Nat):St:=⟨aQ [(1,.w (.c (.d (.sl (l.map fun l=>D.sl (l.map bD)))))),(6,.w (.c (.ptr 1 1 0 0))),(21,.w (.c (.d (.sl (l.map fun l=>D.sl (l.map bD)))))),(22,.w (.c (.d (.int .i64 (l.length:Int))))),(23,.w (.c (.d (.int .i64 (i:Int)))))],hL [(1,.box [.d (.sl (key.map bD)),.d (.sl ((fZ (aA key)).map bD)),.d (.sl ((jt (aA key)).map bD))])],uL [1]⟩
def uh:aN := .seq (.reg [oO 24 (.bin .lss (.t 23) (.t 22))]) (.seq (.cond (.t 24) (.skip) (.exit 0)) (.seq (.block 1 (.seq (.reg [oO 25 (.idxSl 1 (.t 21) (.t 23)),oO 26 (.load .sc (.t 25)),oM 9 26]) (.seq (.reg [oM 27 9,oO 28 (.len (.t 27)),oO 29 (.bin .gtr (.t 28) (kI 65535))]) (.cond (.t 29) (.seq (.reg [oO 4 (.mv (.k (.c .nil))),oO 5 (.mv (kI 2))]) (.ret)) (.skip))))) (.reg [oO 30 (.bin .add (.t 23) (kI 1)),oM 23 30])))
def vy:aH:=⟨2,34,.seq (.reg [oO 4 (.mv (.k (.c .nil))),oO 5 (.mv (kI 0))]) (.seq (.reg [oM 11 0,oO 12 (.call 153 [(.t 11)] none),oM 10 12,oO 13 (.extract (.t 10) 0),oO 14 (.extract (.t 10) 1),oO 6 (.alloc [.nil,.nil,.nil]),oN (.store (.ag 3) (.t 6) (.t 13)),oM 7 14]) (.seq (.seq (.reg [oM 15 7,oO 16 (.bin .neq (.t 15) (kI 0))]) (.cond (.t 16) (.seq (.reg [oM 17 7,oO 4 (.mv (.k (.c .nil))),oM 5 17]) (.ret)) (.skip))) (.seq (.seq (.reg [oM 18 1,oO 19 (.len (.t 18)),oO 20 (.bin .gtr (.t 19) (kI 17))]) (.cond (.t 20) (.seq (.reg [oO 4 (.mv (.k (.c .nil))),oO 5 (.mv (kI 8))]) (.ret)) (.skip))) (.seq (.seq (.reg [oM 21 1,oO 22 (.len (.t 21)),oO 23 (.mv (kI 0))]) (.block 0 (.loop uh))) (.seq (.reg [oO 31 (.load (.ag 3) (.t 6)),oM 32 1,oO 33 (.call 154 [(.t 31),(.t 32)] (some (0,1))),
 oM 4 33,oO 5 (.mv (kI 0))]) (.ret)))))),[(4,none),(5,none)]⟩
theorem VP:aG Tryz.prog { own:=[33],comp:=[],frz:=[],nils:=[] } Tryz.f139=some vy:=by kernel_rfl
theorem XX (G:ah) (key:List UInt8) (l:List (List UInt8)) (hk:key.length≤9223372036854775807) (hl:l.length≤9223372036854775807) (hb:∀ x∈l,x.length≤9223372036854775807):aw Tryz.prog G 139 [.sl (key.map bD),.sl (l.map fun l=>D.sl (l.map bD))] (.tup [.c (.fr 1 ((tp key l).map bD)),.c (.d (.int .i64 (qB key l)))]):=by
  refine aI Tryz.func139 VP rfl rfl ?_;have hx:=XS G key hk;unfold tp qB;by_cases h:key.length=16
  ·have hv:tB key=iA key:=if_pos h;have he:oL key=0:=by unfold oL; rw[if_neg (by omega)]
   rw[hv,he] at hx;by_cases h2:l.length≤17
   ·rw[if_neg (by omega:¬ key.length≠16),if_neg (by omega:¬ 17<l.length)];simp only[vy,af,ae,aa,seval,iteOmega,toNatUp];refine sC (hx) ?_;simp only[iA,ae,aa,seval,iteOmega,toNatUp];refine aU (wT key l) (fun i=>l.length-i) (fun i=>i≤l.length∧∀ j,j<i→(l.getD j []).length≤65535) 0 ⟨abc _,fun j hj=>by omega⟩ ?_ ?_
    ·refine aj (fun i=>48) ?_ ?_ rfl rfl <;> simp only[wx,ai,am,aa,seval,iteOmega,toNatUp]
    ·rintro i ⟨hi,hok⟩;by_cases hlt:i<l.length
     ·have g1:=pD hlt;have hx:=hb _ (nW hlt);by_cases hlong:65535<(l.getD i []).length
      ·have hL:=F4 hlt hlong;rw[hL,if_neg (by simp),if_pos rfl];simp only[uh,wT,ae,aa,seval,iteOmega,toNatUp,aC,g1];exact bY
      ·simp only[uh,wT,ae,aa,seval,iteOmega,toNatUp,aC,g1];refine aM (i+1) (by omega) ⟨by omega,fun j hj=>?_⟩ (aj (fun i=>i) ?_ ?_ rfl rfl)
       ·rcases abL j i with h | h
        ·exact hok j h
        ·obtain rfl:j=i:=by omega
         omega
       all_goals simp only[wx,ai,am,aa,seval,iteOmega,toNatUp]
     ·have hL:=Iy (l:=l) (fun j hj=>hok j (by omega));rw[hL,if_pos ⟨h,h2,rfl⟩,if_neg (by simp)];simp only[uh,wT,ae,aa,seval,iteOmega,toNatUp];refine sD (XW G key l h h2 (F5 hL)) ?_;exact bY
   ·rw[if_neg (by omega),if_neg (by omega),if_pos (by omega)];have h3:17<l.length:=by omega
    simp only[vy,af,ae,aa,seval,iteOmega,toNatUp];refine sC (hx) ?_;simp only[iA,ae,aa,seval,iteOmega,toNatUp];exact bY
  ·have hv:tB key=.agg [.sl [],.sl [],.sl []]:=if_neg h;have he:oL key=5:=if_pos h;rw[hv,he] at hx;rw[if_neg (by omega),if_pos h];simp only[vy,af,ae,aa,seval,iteOmega,toNatUp];refine sD (hx) ?_;exact bY
set_option maxHeartbeats 6400000
theorem ui (key b:List UInt8):kB key b=dh (aA key) b:=rfl
def jw (key b:List UInt8):Nat→V
  | 0=>.w (.c (.own 1 1 0 16))
  | i+1=>.w (.c (.d (.sl ((dL (aA key) b (i+1)).map bD))))
def ly (key b:List UInt8) (last:Int) (i:Nat):St:=⟨aQ [(1,.w (.c (.d (.sl (b.map bD))))),(2,.w (.c (.rp ((cY key).map bD)))),(5,.w (.c (.d (.sl ((fZ (aA key)).map bD))))),(6,.w (.c (.d (.int .i64 last)))),(7,jw key b i),(8,.w (.c (.d (.int .i64 ((16*i:Nat):Int)))))],hL [(1,.row 1 ((aR 16 (0:UInt8)).map bD))],uL [1]⟩
theorem KV (b:List UInt8) (i:Nat):(b.drop (16*i)).take (16*i+16-16*i)=(b.drop (16*i)).take 16:=by rw[show 16*i+16-16*i=16 by omega]
def lL:aN := .seq (.seq (.reg [oM 24 8,oM 25 6,oO 26 (.bin .lss (.t 24) (.t 25))]) (.cond (.t 26) (.skip) (.exit 0))) (.seq (.block 1 (.reg [oO 29 (.load (.ag 688) (.t 2)),oM 30 7,oM 31 1,oM 32 8,oM 33 8,oO 34 (.bin .add (.t 33) (kI 16)),oO 35 (.slice 1 (.t 31) (some (.t 32)) (some (.t 34)) none),oO 36 (.call 175 [(.t 30),(.t 35)] none),oO 37 (.call 160 [(.t 29),(.t 36)] none),oM 7 37])) (.reg [oM 27 8,oO 28 (.bin .add (.t 27) (kI 16)),oM 8 28]))
def KW:aH:=⟨2,61,.seq (.reg [oO 2 (.box .roBox (.t 0)),oO 4 (.mv (.k (.c .nil)))]) (.seq (.reg [oO 10 (.load (.ag 688) (.t 2)),oO 11 (.make true 1 1 (.int .u8 0) (kI 16) (kI 16)),oO 12 (.call 160 [(.t 10),(.t 11)] none),oO 13 (.call 176 [(.t 12)] none),oM 5 13]) (.seq (.reg [oM 14 1,oO 15 (.len (.t 14)),oO 16 (.bin .add (.t 15) (kI 15)),oO 17 (.bin .quo (.t 16) (kI 16)),oO 18 (.bin .mul (.t 17) (kI 16)),oO 19 (.bin .sub (.t 18) (kI 16)),oM 6 19]) (.seq (.seq (.reg [oM 20 1,oO 21 (.len (.t 20)),oO 22 (.bin .eql (.t 21) (kI 0))]) (.cond (.t 22) (.reg [oO 6 (.mv (kI 0))]) (.skip))) (.seq (.reg [oO 23 (.make true 1 1 (.int .u8 0) (kI 16) (kI 16)),oM 7 23]) (.seq (.seq (.reg [oO 8 (.mv (kI 0))]) (.block 0 (.loop lL))) (.seq (.reg [oM 38 1,oM 39 6,oO 40 (.slice 1 (.t 38) (some (.t 39)) none none),
 oO 41 (.bldSl false 1 1 (.sl []) [(0,(.t 40))]),oO 42 (.call 43 [(.t 41)] (some (0,1))),oM 9 42]) (.seq (.seq (.reg [oM 43 9,oO 44 (.len (.t 43)),oO 45 (.bin .eql (.t 44) (kI 16))]) (.cond (.t 45) (.reg [oM 46 9,oM 47 5,oO 48 (.call 175 [(.t 46),(.t 47)] none),oM 9 48]) (.reg [oM 49 9,oO 50 (.bldSl false 1 1 (.int .u8 0) [(0,(.k (.c (.d (.int .u8 128)))))]),oO 51 (.app false 1 1 (.t 49) (.t 50)),oO 52 (.call 177 [(.t 51),(kI 16)] none),oM 53 5,oO 54 (.call 176 [(.t 53)] none),oO 55 (.call 175 [(.t 52),(.t 54)] none),oM 9 55]))) (.seq (.reg [oO 56 (.load (.ag 688) (.t 2)),oM 57 7,oM 58 9,oO 59 (.call 175 [(.t 57),(.t 58)] none),oO 60 (.call 160 [(.t 56),(.t 59)] (some (0,1))),oM 4 60]) (.ret))))))))),[(4,none)]⟩
theorem VQ:aG Tryz.prog { own:=[42,60],comp:=[],frz:=[],nils:=[] } Tryz.f174=some KW:=by kernel_rfl
set_option maxRecDepth 20000 in
theorem sw (G:ah) (key b:List UInt8) (h:key.length=16) (hb:b.length≤70000):aw Tryz.prog G 174 [.agg ((cY key).map bD),.sl (b.map bD)] (.w (.c (.fr 1 ((f8 (aA key) b).map bD)))):=by
  refine aI Tryz.func174 VQ rfl rfl ?_;have t0:(aR 16 (0:UInt8)).take 16=ee:=rfl;have hM:=uc h;have t1:(cY key).take 688=cY key:=aa9 (by omega);have hah:gq b=(b.length+15) / 16-1:=rfl;have hm:∀ i,i=gq b→f8 (aA key) b=dh (aA key) (bG (dL (aA key) b i) (ja (aA key) (b.drop (16*i)))):=fun i e=>by rw[e]; rfl
  have hr0:=sr G key ee h (by decide);have h1:=su G (dh (aA key) ee) (by rw[iU]; decide);have s1:dK (dh (aA key) ee)=fZ (aA key):=rfl;rw[s1] at h1;rw[ui] at hr0;have td:Int.tdiv ((b.length:Int)+15) 16=(((b.length+15) / 16:Nat):Int):=rfl;have step:∀ i,i<gq b→((b.drop (16*i)).take 16).length=16:=fun i hi=>by rw[abg,abi]; omega
  simp only[KW,af,ae,aa,seval,iteOmega,toNatUp,fC,zN,ct,hM,bu,t1];refine aW hr0 (by simp only[ae,aa,seval,iteOmega,toNatUp,bu,t0,be]) (.inr (gu _ _)) ?_;simp only[ae,aa,seval,iteOmega,toNatUp];refine sC (h1) ?_;simp only[td,fC,ae,aa,seval,iteOmega,toNatUp];by_cases hb0:b.length=0
  ·have hz0:gq b=0:=by omega
   simp only[ae,aa,seval,iteOmega,toNatUp,fC];refine aU (ly key b (0)) (fun i=>gq b-i) (fun i=>i≤gq b) 0 (abc _) ?_ ?_
   ·refine aj (fun i=>184) ?_ ?_ rfl rfl <;> simp only[wx,ai,am,aa,seval,iteOmega,toNatUp,jw]
   ·intro i hi;have hcl:(b.drop (16*i)).length=b.length-16*i:=abi;have hsl:=KV b i;by_cases hlt:i<gq b
    ·exact absurd hlt (by omega)
    ·rw[hm i (by omega)];have hie:16*(gq b:Int)=16*(i:Int):=by omega
     have hl16:(b.drop (16*i)).length≤16:=by omega
     have ht:(b.drop (16*i)).take (b.length-16*i)=b.drop (16*i):=aa9 (by omega);have toN:(0:Int).toNat=16*i:=by omega
     have e1:=fQ G [b.drop (16*i)] (by simp) (by simp; omega);have hf:[b.drop (16*i)].flatten=b.drop (16*i):=by simp
     rw[hf] at e1;have k1:=lj G (dL (aA key) b i) (ja (aA key) (b.drop (16*i))) (by rw[k9]; decide) (by rw[zR hl16]; decide);have k2:=sr G key (bG (dL (aA key) b i) (ja (aA key) (b.drop (16*i)))) h (by rw[gm,k9]);rw[ui] at k2;have ht2:(b.drop (16*i)).take b.length=b.drop (16*i):=aa9 (by omega);generalize hc:b.drop (16*i)=c at *
     have tc:c.take c.length=c:=abv;by_cases h16:c.length=16
     ·have tc16:c.take 16=c:=by rw[← h16]; exact tc
      have q1:=lj G c (fZ (aA key)) (by omega) (by rw[nV]; decide);rw[y9 _ h16] at k1 k2 ⊢;rcases i with _ | i
      ·have hz:dL (aA key) b 0=ee:=rfl;rw[hz] at k1 k2 ⊢;simp only[lL,ly,jw,ae,aa,seval,iteOmega,toNatUp,toN,hc,ht,ht2];refine sC (e1) ?_;simp only[h16,ae,aa,seval,iteOmega,toNatUp];refine aW q1 (by simp only[ae,aa,seval,iteOmega,toNatUp,bu,tc16,h16]) (.inr (gu _ _)) ?_;simp only[ae,aa,seval,iteOmega,toNatUp,ct,hM,bu,t1];refine aW k1 (by simp only[ae,aa,seval,iteOmega,toNatUp,bu,t0,be]) (.inr (gu _ _)) ?_;simp only[ae,aa,seval,iteOmega,toNatUp];refine sD (k2) ?_;exact dA
      ·exact absurd hi (by omega)
     ·have p1:=BA G (c++[128]) 16 (by simp; omega);rw[vx] at p1;have p2:=su G (fZ (aA key)) (by rw[nV]; decide);have s2:dK (fZ (aA key))=jt (aA key):=rfl;rw[s2] at p2;have p3:=lj G (gZ (c++[128])) (jt (aA key)) (by rw[o6 (by omega)]; decide) (by rw[zQ]; decide);have b128:c.map bD++[D.int .u8 128]=(c++[128]).map bD:=by rw[abk]; rfl
      have tc2:(c++[128]).take (c.length+1)=c++[128]:=aa9 (by simp);rw[za _ h16] at k1 k2 ⊢;have lc:(c++[(128:UInt8)]).length=c.length+1:=by simp
      rcases i with _ | i
      ·have hz:dL (aA key) b 0=ee:=rfl;rw[hz] at k1 k2 ⊢;simp only[lL,ly,jw,ae,aa,seval,iteOmega,toNatUp,toN,hc,ht,ht2];refine sC (e1) ?_;simp only[a7,b128,ae,aa,seval,iteOmega,toNatUp];refine aW p1 (by simp only[ae,aa,seval,iteOmega,toNatUp,bu,tc2,lc]) (.inr (gu _ _)) ?_;simp only[ae,aa,seval,iteOmega,toNatUp];refine sD (p2) ?_;refine sC (p3) ?_;simp only[ct,hM,bu,t1,ae,aa,seval,iteOmega,toNatUp];refine aW k1 (by simp only[ae,aa,seval,iteOmega,toNatUp,bu,t0,be]) (.inr (gu _ _)) ?_;simp only[ae,aa,seval,iteOmega,toNatUp];refine sD (k2) ?_;exact dA
      ·exact absurd hi (by omega)
  ·have hp:0<b.length:=by omega
   simp only[ae,aa,seval,iteOmega,toNatUp,fC];refine aU (ly key b (((((b.length+15) / 16:Nat):Int)*16-16))) (fun i=>gq b-i) (fun i=>i≤gq b) 0 (abc _) ?_ ?_
   ·refine aj (fun i=>184) ?_ ?_ rfl rfl <;> simp only[wx,ai,am,aa,seval,iteOmega,toNatUp,jw]
   ·intro i hi;have hcl:(b.drop (16*i)).length=b.length-16*i:=abi;have hsl:=KV b i;by_cases hlt:i<gq b
    ·have hT:=step i hlt;have hstep:dh (aA key) (bG (dL (aA key) b i) ((b.drop (16*i)).take 16))=dL (aA key) b (i+1):=rfl;have k1:=lj G (dL (aA key) b i) ((b.drop (16*i)).take 16) (by rw[k9]; decide) (by omega);have k2:=sr G key (bG (dL (aA key) b i) ((b.drop (16*i)).take 16)) h (by rw[gm,k9]);rw[ui,hstep] at k2;rcases i with _ | i
     ·have hz:dL (aA key) b 0=ee:=rfl;rw[hz] at k1 k2;simp only[acM,acH,ab5,Nat.sub_zero] at hsl;simp only[lL,ly,jw,ae,aa,seval,iteOmega,toNatUp,ct,hM,bu,t1,hsl];refine aW k1 (by simp only[ae,aa,seval,iteOmega,toNatUp,bu,t0,be]) (.inr (gu _ _)) ?_;simp only[ae,aa,seval,iteOmega,toNatUp];refine sD (k2) ?_;refine aM (0+1) (by omega) (by omega) (aj (fun i=>i) ?_ ?_ rfl rfl) <;> simp only[wx,ai,am,aa,seval,iteOmega,toNatUp,jw]
     ·simp only[lL,ly,jw,ae,aa,seval,iteOmega,toNatUp,ct,hM,bu,t1,hsl];refine sD (k1) ?_;refine sD (k2) ?_;refine aM (i+1+1) (by omega) (by omega) (aj (fun i=>i) ?_ ?_ rfl rfl) <;> simp only[wx,ai,am,aa,seval,iteOmega,toNatUp,jw];rw[show (16*((i:Int)+1)+16)=16*((i:Int)+1+1) by omega]
    ·rw[hm i (by omega)];have hie:16*(gq b:Int)=16*(i:Int):=by omega
     have hl16:(b.drop (16*i)).length≤16:=by omega
     have ht:(b.drop (16*i)).take (b.length-16*i)=b.drop (16*i):=aa9 (by omega);have toN:(((((b.length+15) / 16:Nat):Int)*16-16):Int).toNat=16*i:=by omega
     have e1:=fQ G [b.drop (16*i)] (by simp) (by simp; omega);have hf:[b.drop (16*i)].flatten=b.drop (16*i):=by simp
     rw[hf] at e1;have k1:=lj G (dL (aA key) b i) (ja (aA key) (b.drop (16*i))) (by rw[k9]; decide) (by rw[zR hl16]; decide);have k2:=sr G key (bG (dL (aA key) b i) (ja (aA key) (b.drop (16*i)))) h (by rw[gm,k9]);rw[ui] at k2;have ht2:(b.drop (16*i)).take b.length=b.drop (16*i):=aa9 (by omega);generalize hc:b.drop (16*i)=c at *
     have tc:c.take c.length=c:=abv;by_cases h16:c.length=16
     ·have tc16:c.take 16=c:=by rw[← h16]; exact tc
      have q1:=lj G c (fZ (aA key)) (by omega) (by rw[nV]; decide);rw[y9 _ h16] at k1 k2 ⊢;rcases i with _ | i
      ·have hz:dL (aA key) b 0=ee:=rfl;rw[hz] at k1 k2 ⊢;simp only[lL,ly,jw,ae,aa,seval,iteOmega,toNatUp,toN,hc,ht,ht2];refine sC (e1) ?_;simp only[h16,ae,aa,seval,iteOmega,toNatUp];refine aW q1 (by simp only[ae,aa,seval,iteOmega,toNatUp,bu,tc16,h16]) (.inr (gu _ _)) ?_;simp only[ae,aa,seval,iteOmega,toNatUp,ct,hM,bu,t1];refine aW k1 (by simp only[ae,aa,seval,iteOmega,toNatUp,bu,t0,be]) (.inr (gu _ _)) ?_;simp only[ae,aa,seval,iteOmega,toNatUp];refine sD (k2) ?_;exact dA
      ·simp only[lL,ly,jw,ae,aa,seval,iteOmega,toNatUp,toN,hc,ht,ht2];refine sC (e1) ?_;simp only[h16,ae,aa,seval,iteOmega,toNatUp];refine aW q1 (by simp only[ae,aa,seval,iteOmega,toNatUp,bu,tc16,h16]) (.inr (gu _ _)) ?_;simp only[ae,aa,seval,iteOmega,toNatUp,ct,hM,bu,t1];refine sD (k1) ?_;refine sD (k2) ?_;exact dA
     ·have p1:=BA G (c++[128]) 16 (by simp; omega);rw[vx] at p1;have p2:=su G (fZ (aA key)) (by rw[nV]; decide);have s2:dK (fZ (aA key))=jt (aA key):=rfl;rw[s2] at p2;have p3:=lj G (gZ (c++[128])) (jt (aA key)) (by rw[o6 (by omega)]; decide) (by rw[zQ]; decide);have b128:c.map bD++[D.int .u8 128]=(c++[128]).map bD:=by rw[abk]; rfl
      have tc2:(c++[128]).take (c.length+1)=c++[128]:=aa9 (by simp);rw[za _ h16] at k1 k2 ⊢;have lc:(c++[(128:UInt8)]).length=c.length+1:=by simp
      rcases i with _ | i
      ·have hz:dL (aA key) b 0=ee:=rfl;rw[hz] at k1 k2 ⊢;simp only[lL,ly,jw,ae,aa,seval,iteOmega,toNatUp,toN,hc,ht,ht2];refine sC (e1) ?_;simp only[a7,b128,ae,aa,seval,iteOmega,toNatUp];refine aW p1 (by simp only[ae,aa,seval,iteOmega,toNatUp,bu,tc2,lc]) (.inr (gu _ _)) ?_;simp only[ae,aa,seval,iteOmega,toNatUp];refine sD (p2) ?_;refine sC (p3) ?_;simp only[ct,hM,bu,t1,ae,aa,seval,iteOmega,toNatUp];refine aW k1 (by simp only[ae,aa,seval,iteOmega,toNatUp,bu,t0,be]) (.inr (gu _ _)) ?_;simp only[ae,aa,seval,iteOmega,toNatUp];refine sD (k2) ?_;exact dA
      ·simp only[lL,ly,jw,ae,aa,seval,iteOmega,toNatUp,toN,hc,ht,ht2];refine sC (e1) ?_;simp only[a7,b128,ae,aa,seval,iteOmega,toNatUp];refine aW p1 (by simp only[ae,aa,seval,iteOmega,toNatUp,bu,tc2,lc]) (.inr (gu _ _)) ?_;simp only[ae,aa,seval,iteOmega,toNatUp];refine sD (p2) ?_;refine sC (p3) ?_;simp only[ct,hM,bu,t1,ae,aa,seval,iteOmega,toNatUp];refine sD (k1) ?_;refine sD (k2) ?_;exact dA
theorem XY (G:ah) (key b:List UInt8) (h:key.length=16) (hb:b.length≤70000):aw Tryz.prog G 174 [.agg ((cY key).map bD),.sl (b.map bD)] (.w (.c (.d (.sl ((f8 (aA key) b).map bD))))):=li (sw G key b h hb)
def wU (key:List UInt8) (l:List (List UInt8)) (i:Nat):St:=⟨aQ [(0,.w (.c (.d (.sl (key.map bD))))),(1,.w (.c (.d (.sl (l.map fun l=>D.sl (l.map bD)))))),(6,.w (.c (.d (.int .i64 (i:Int)))))],hL [],uL []⟩
def wW (key:List UInt8) (l:List (List UInt8)) (i:Nat):St:=⟨aQ [(1,.w (.c (.d (.sl (l.map fun l=>D.sl (l.map bD)))))),(7,.w (.c (.ptr 2 1 0 0))),(9,.w (.c (.d (.sl ((fB (aA key) l i).map bD))))),(10,.w (.c (.d (.int .i64 (i:Int)))))],hL [(1,.row 1 ((aR 16 (0:UInt8)).map bD)),(2,.box ((cY key).map bC))],uL [1,2]⟩
theorem aaa:(aR 16 (0:UInt8)).set 15 1=aV 1 16:=by decide
theorem Si (rk:List UInt8) {l:List (List UInt8)} {s d:List UInt8} (h:l.length≠0) (hs:l.getD (l.length-1) []=s) (hd:fB rk l (l.length-1)=d) (h16:16≤s.length):jb rk l=f8 rk (s.take (s.length-16)++bG (s.drop (s.length-16)) d):=by
  rw[zb rk h,hs,hd,if_pos h16]
theorem Q1 (rk:List UInt8) {l:List (List UInt8)} {s d:List UInt8} (h:l.length≠0) (hs:l.getD (l.length-1) []=s) (hd:fB rk l (l.length-1)=d) (h16:s.length<16):jb rk l=f8 rk (bG (dK d) (gZ (s++[128]))):=by
  rw[zb rk h,hs,hd,if_neg (by omega)]
def tM:aN := .seq (.seq (.reg [oM 19 6,oM 20 1,oO 21 (.len (.t 20)),oO 22 (.bin .lss (.t 19) (.t 21))]) (.cond (.t 22) (.skip) (.exit 0))) (.seq (.block 1 (.seq (.reg [oM 25 1,oM 26 6,oO 27 (.idxSl 1 (.t 25) (.t 26)),oO 28 (.load .sc (.t 27)),oO 29 (.len (.t 28)),oO 30 (.bin .gtr (.t 29) (kI 65535))]) (.cond (.t 30) (.seq (.reg [oO 4 (.mv (.k (.c .nil))),oO 5 (.mv (kI 2))]) (.ret)) (.skip)))) (.reg [oM 23 6,oO 24 (.bin .add (.t 23) (kI 1)),oM 6 24]))
def tN:aN := .seq (.seq (.reg [oM 45 10,oM 46 1,oO 47 (.len (.t 46)),oO 48 (.bin .sub (.t 47) (kI 1)),oO 49 (.bin .lss (.t 45) (.t 48))]) (.cond (.t 49) (.skip) (.exit 2))) (.seq (.block 3 (.reg [oM 52 9,oO 53 (.call 176 [(.t 52)] none),oO 54 (.loadB (.ag 688) (.t 7)),oM 55 1,oM 56 10,oO 57 (.idxSl 1 (.t 55) (.t 56)),oO 58 (.load .sc (.t 57)),oO 59 (.call 174 [(.t 54),(.t 58)] none),oO 60 (.call 175 [(.t 53),(.t 59)] none),oM 9 60])) (.reg [oM 50 10,oO 51 (.bin .add (.t 50) (kI 1)),oM 10 51]))
def uP:aH:=⟨2,96,.seq (.reg [oO 4 (.mv (.k (.c .nil))),oO 5 (.mv (kI 0))]) (.seq (.seq (.reg [oM 13 0,oO 14 (.len (.t 13)),oO 15 (.bin .neq (.t 14) (kI 16))]) (.cond (.t 15) (.seq (.reg [oO 4 (.mv (.k (.c .nil))),oO 5 (.mv (kI 5))]) (.ret)) (.skip))) (.seq (.seq (.reg [oM 16 1,oO 17 (.len (.t 16)),oO 18 (.bin .gtr (.t 17) (kI 17))]) (.cond (.t 18) (.seq (.reg [oO 4 (.mv (.k (.c .nil))),oO 5 (.mv (kI 8))]) (.ret)) (.skip))) (.seq (.seq (.reg [oO 6 (.mv (kI 0))]) (.block 0 (.loop tM))) (.seq (.reg [oM 31 0,oO 32 (.call 159 [(.t 31)] none),oO 7 (.alloc (aR 688 (.d (.int .u8 0)))),oN (.store (.ag 688) (.t 7) (.t 32))]) (.seq (.reg [oO 33 (.make true 1 1 (.int .u8 0) (kI 16) (kI 16)),oM 8 33]) (.seq (.seq (.reg [oM 34 1,oO 35 (.len (.t 34)),oO 36 (.bin .eql (.t 35) (kI 0))]) (.cond (.t 36) (.seq (.reg [oM 37 8,
 oO 38 (.idxSl 1 (.t 37) (kI 15)),oN (.store .sc (.t 38) (.k (.c (.d (.int .u8 1)))))]) (.seq (.reg [oO 39 (.loadB (.ag 688) (.t 7)),oM 40 8,oO 41 (.call 174 [(.t 39),(.t 40)] (some (0,1))),oM 4 41,oO 5 (.mv (kI 0))]) (.ret))) (.skip))) (.seq (.reg [oO 42 (.loadB (.ag 688) (.t 7)),oM 43 8,oO 44 (.call 174 [(.t 42),(.t 43)] none),oM 9 44]) (.seq (.seq (.reg [oO 10 (.mv (kI 0))]) (.block 2 (.loop tN))) (.seq (.reg [oM 61 1,oM 62 1,oO 63 (.len (.t 62)),oO 64 (.bin .sub (.t 63) (kI 1)),oO 65 (.idxSl 1 (.t 61) (.t 64)),oO 66 (.load .sc (.t 65)),oM 11 66]) (.seq (.seq (.reg [oM 67 11,oO 68 (.len (.t 67)),oO 69 (.bin .geq (.t 68) (kI 16))]) (.cond (.t 69) (.seq (.reg [oM 70 11,oO 71 (.len (.t 70)),oO 72 (.bin .sub (.t 71) (kI 16)),oM 12 72]) (.seq (.reg [oO 73 (.loadB (.ag 688) (.t 7)),oM 74 11,
 oM 75 12,oO 76 (.slice 1 (.t 74) none (some (.t 75)) none),oM 77 11,oM 78 12,oO 79 (.slice 1 (.t 77) (some (.t 78)) none none),oM 80 9,oO 81 (.call 175 [(.t 79),(.t 80)] none),oO 82 (.bldSl false 2 1 (.sl []) [(0,(.t 76)),(1,(.t 81))]),oO 83 (.call 43 [(.t 82)] none),oO 84 (.call 174 [(.t 73),(.t 83)] (some (0,1))),oM 4 84,oO 5 (.mv (kI 0))]) (.ret))) (.skip))) (.seq (.reg [oO 85 (.loadB (.ag 688) (.t 7)),oM 86 9,oO 87 (.call 176 [(.t 86)] none),oM 88 11,oO 89 (.bldSl false 1 1 (.sl []) [(0,(.t 88))]),oO 90 (.call 43 [(.t 89)] (some (0,1))),oO 91 (.bldSl false 1 1 (.int .u8 0) [(0,(.k (.c (.d (.int .u8 128)))))]),oO 92 (.app false 1 1 (.t 90) (.t 91)),oO 93 (.call 177 [(.t 92),(kI 16)] none),oO 94 (.call 175 [(.t 87),(.t 93)] none),oO 95 (.call 174 [(.t 85),(.t 94)] (some (0,1))),oM 4 95,
 oO 5 (.mv (kI 0))]) (.ret)))))))))))),[(4,none),(5,none)]⟩
theorem TX:aG Tryz.prog { own:=[41,84,90,95],comp:=[],frz:=[],nils:=[],bx:=[39,42,54,73,85] } Tryz.f158=some uP:=by kernel_rfl
set_option maxRecDepth 20000 in
theorem VR (G:ah) (key:List UInt8) (l:List (List UInt8)) (hk:key.length≤9223372036854775807) (hl:l.length≤9223372036854775807) (hb:∀ x∈l,x.length≤9223372036854775807):aw Tryz.prog G 158 [.sl (key.map bD),.sl (l.map fun l=>D.sl (l.map bD))] (.tup [.c (.fr 1 ((tp key l).map bD)),.c (.d (.int .i64 (qB key l)))]):=by
  refine aI Tryz.func158 TX rfl rfl ?_;unfold tp qB;by_cases h:key.length=16
  ·by_cases h2:l.length≤17
   ·rw[if_neg (by omega:¬ key.length≠16),if_neg (by omega:¬ 17<l.length)];simp only[uP,af,ae,aa,seval,iteOmega,toNatUp];refine aU (wU key l) (fun i=>l.length-i) (fun i=>i≤l.length∧∀ j,j<i→(l.getD j []).length≤65535) 0 ⟨abc _,fun j hj=>by omega⟩ ?_ ?_
    ·refine aj (fun i=>0) ?_ ?_ rfl rfl <;> simp only[wx,ai,am,aa,seval,iteOmega,toNatUp] <;> rfl
    ·rintro i ⟨hi,hok⟩;by_cases hlt:i<l.length
     ·have g1:=pD hlt;have hx:=hb _ (nW hlt);by_cases hlong:65535<(l.getD i []).length
      ·have hL:=F4 hlt hlong;rw[hL,if_neg (by simp),if_pos rfl];simp only[tM,wU,ae,aa,seval,iteOmega,toNatUp,aC,g1];exact bY
      ·simp only[tM,wU,ae,aa,seval,iteOmega,toNatUp,aC,g1];refine aM (i+1) (by omega) ⟨by omega,fun j hj=>?_⟩ (aj (fun i=>i) ?_ ?_ rfl rfl)
       ·rcases abL j i with h | h
        ·exact hok j h
        ·obtain rfl:j=i:=by omega
         omega
       all_goals simp only[wx,ai,am,aa,seval,iteOmega,toNatUp]
     ·have hL:=Iy (l:=l) (fun j hj=>hok j (by omega));rw[hL,if_pos ⟨h,h2,rfl⟩,if_neg (by simp)];have hall:=F5 hL;have hM:=uc h;have r4:List.drop 688 (aR 688 (0:UInt8))=[]:=abZ (by rw[be]; omega);have t0:(aR 16 (0:UInt8)).take 16=ee:=rfl;have t1:(cY key).take 688=cY key:=aa9 (by omega);simp only[tM,wU,ae,aa,seval,iteOmega,toNatUp,rN];have k0:=sw G key ee h (by decide);by_cases h0:l.length=0
      ·rw[F3 _ h0];have z3:15<(aR 16 (0:UInt8)).length:=by rw[be]; decide
       have z4:((aR 16 (0:UInt8)).map bD).set 15 (D.int .u8 1)=(aV 1 16).map bD:=by rw[← aaa]; exact nX bD _ 15 1
       have z5:(aV 1 16).take 16=aV 1 16:=aa9 (by rw[bU]; decide);have z6:(aV 1 16).length=16:=bU _ _;refine sC (Bw G key h) ?_;simp only[ct,hM,be,jH,eS,ig,r4,abm,fC,dH z3 (Aw _ _),z4,bu,t1,iD,ae,aa,seval,iteOmega,toNatUp];have k1:=sw G key (aV 1 16) h (by rw[bU]; decide);refine aW k1 (by simp only[ae,aa,seval,iteOmega,toNatUp,bu,z5,be]) (.inr (gu _ _)) ?_;simp only[ae,aa,seval,iteOmega,toNatUp];exact bY
      ·refine sC (Bw G key h) ?_;simp only[ct,hM,be,jH,eS,ig,r4,abm,fC,bu,t1,iD,ae,aa,seval,iteOmega,toNatUp];refine aW k0 (by simp only[ae,aa,seval,iteOmega,toNatUp,bu,t0,be]) (.inr (gu _ _)) ?_;simp only[ae,aa,seval,iteOmega,toNatUp];refine aU (wW key l) (fun i=>l.length-1-i) (fun i=>i≤l.length-1) 0 (abc _) ?_ ?_
       ·refine aj (fun i=>if i=1 then 264 else 56) ?_ ?_ rfl (by simp[V.ids,W.ids,C.ids,Ob.ids,bR]) <;> simp only[wx,ai,am,aa,seval,iteOmega,toNatUp,ft,bR,fB] <;> rfl
       ·intro i hi;have hd:=zS (aA key) l i;by_cases hlt:i<l.length-1
        ·have g1:=pD (l:=l) (j:=i) (by omega);have hx:=hall _ (nW (l:=l) (j:=i) (by omega));have hs:bG (dK (fB (aA key) l i)) (f8 (aA key) (l.getD i []))=fB (aA key) l (i+1):=rfl;have h1:=su G (fB (aA key) l i) (by omega);have h2:=XY G key (l.getD i []) h (by omega);have h3:=lj G (dK (fB (aA key) l i)) (f8 (aA key) (l.getD i [])) (by rw[ki hd]; decide) (by rw[rB]; decide);rw[hs] at h3;simp only[tN,wW,ae,aa,seval,iteOmega,toNatUp,ct,hM,bu,t1,iD,aC,g1];refine sC (h1) ?_;simp only[ct,hM,bu,t1,iD,aC,g1,ae,aa,seval,iteOmega,toNatUp];refine sD (h2) ?_;refine sD (h3) ?_;refine aM (i+1) (by omega) (by omega) (aj (fun i=>i) ?_ ?_ rfl (by simp[V.ids,W.ids,C.ids,Ob.ids,bR])) <;> simp only[wx,ai,am,aa,seval,iteOmega,toNatUp,ft,bR]
        ·obtain rfl:i=l.length-1:=by omega
         have g1:=pD (l:=l) (j:=l.length-1) (by omega);have hx:=hall _ (nW (l:=l) (j:=l.length-1) (by omega));have e1:(((l.length:Int)-1).toNat)=l.length-1:=by omega
         generalize hs:l.getD (l.length-1) []=s at *
         generalize hdd:fB (aA key) l (l.length-1)=d at *
         have e2:(((s.length:Int)-16).toNat)=s.length-16:=by omega
         by_cases h16:16≤s.length
         ·rw[Si _ h0 hs hdd h16];have hl:(s.drop (s.length-16)).length=16:=by rw[abi]; omega
          have ht:(s.drop (s.length-16)).take (s.length-(s.length-16))=s.drop (s.length-16):=aa9 (by omega);have hj:=fQ G [s.take (s.length-16),bG (s.drop (s.length-16)) d] (by simp) (by simp[gm]; omega);have hf:[s.take (s.length-16),bG (s.drop (s.length-16)) d].flatten=s.take (s.length-16)++bG (s.drop (s.length-16)) d:=by simp
          rw[hf] at hj;have k3:=sw G key (s.take (s.length-16)++bG (s.drop (s.length-16)) d) h (by rw[aba,gm,← aba,abP]; omega);simp only[tN,wW,hdd,ae,aa,seval,iteOmega,toNatUp,ct,hM,bu,t1,iD,aC,g1,e1,e2,ht];refine sD (lj G (s.drop (s.length-16)) d (by omega) (by omega)) ?_;refine sD (hj) ?_;refine sD (k3) ?_;exact bY
         ·have h15:s.length<16:=by omega
          rw[Q1 _ h0 hs hdd h15];have hj:=fQ G [s] (by simp) (by simp; omega);have hf:[s].flatten=s:=by simp
          rw[hf] at hj;have p1:=BA G (s++[128]) 16 (by simp; omega);rw[vx] at p1;have b128:s.map bD++[D.int .u8 128]=(s++[128]).map bD:=by rw[abk]; rfl
          have tc2:(s++[128]).take (s.length+1)=s++[128]:=aa9 (by simp);have lc:(s++[(128:UInt8)]).length=s.length+1:=by simp
          have p3:=lj G (dK d) (gZ (s++[128])) (by rw[ki hd]; decide) (by rw[o6 h15]; decide);have k3:=sw G key (bG (dK d) (gZ (s++[128]))) h (by rw[gm,ki hd]; decide);simp only[tN,wW,hdd,ae,aa,seval,iteOmega,toNatUp,ct,hM,bu,t1,iD,aC,g1,e1];refine sD (su G d (by omega)) ?_;refine sC (hj) ?_;simp only[a7,b128,ae,aa,seval,iteOmega,toNatUp];refine aW p1 (by simp only[ae,aa,seval,iteOmega,toNatUp,bu,tc2,lc]) (.inr (gu _ _)) ?_;simp only[ae,aa,seval,iteOmega,toNatUp];refine sD (p3) ?_;refine sD (k3) ?_;exact bY
   ·rw[if_neg (by omega),if_neg (by omega),if_pos (by omega)];have h3:17<l.length:=by omega
    simp only[uP,af,ae,aa,seval,iteOmega,toNatUp];exact bY
  ·rw[if_neg (by omega),if_pos h];simp only[uP,af,ae,aa,seval,iteOmega,toNatUp];exact bY
theorem Iz (rk c:List UInt8) {n k:Nat} (hk:k<16):∀ {m:Nat},n<m→(oJ rk c m)[16*n+k]?=(dh rk (dw c n))[k]?
  | 0,h=>by omega
  | m+1,h=>by
    rw[oJ];by_cases e:n=m
    ·subst e;rw[abE (by rw[pm]; omega),pm,ab2]
    ·rw[abO (by rw[pm]; omega)];exact Iz rk c hk (by omega)
theorem TY (rk c b:List UInt8) {n k:Nat} (hk:k<16) (h:16*n+k<b.length):(fS rk c b)[16*n+k]?=some (au (b.getD (16*n+k) 0) ((dh rk (dw c n)).getD k 0)):=by
  unfold fS nB;rw[List.getElem?_zipWith,Iz rk c hk (by omega),cX h,cX (by rw[iU]; exact hk)]
def oT (rk c b:List UInt8) (j:Nat):List UInt8:=(fS rk c b).take j
theorem sA (rk c b:List UInt8) (j:Nat):(oT rk c b j).length=min j b.length:=by unfold oT; rw[abg,q8]
theorem od (rk c b:List UInt8) {j:Nat} (h:b.length≤j):oT rk c b j=fS rk c b:=aa9 (by rw[q8]; exact h)
theorem KX (rk c b:List UInt8) {n k:Nat} (hk:k<16) (h:16*n+k<b.length):oT rk c b (16*n+k)++[au (b.getD (16*n+k) 0) ((dh rk (dw c n)).getD k 0)]=oT rk c b (16*n+k+1):=by
  unfold oT; rw[aco,TY rk c b hk h]; rfl
theorem rS {c:List UInt8} (h:c.length=16) (n:Nat):(dw c n).length=16:=by rw[Ij]; exact h
theorem IA {c:List UInt8} (h:c.length=16) (n:Nat):qy (dw c n)=dw c (n+1):=by unfold qy; rw[if_pos (rS h n)]; rfl
def jK (key c b:List UInt8):Int:=if key.length≠16 then 5 else if c.length≠16 then 3 else if 65535<b.length then 2 else 0
def qe (key c b:List UInt8):List UInt8:=if key.length=16∧c.length=16∧b.length≤65535 then fS (aA key) c b else []
theorem F6 {key:List UInt8} (c b:List UInt8) (h:key.length≠16):jK key c b=5:=if_pos h
theorem F7 {key c:List UInt8} (b:List UInt8) (h:key.length=16) (h2:c.length≠16):jK key c b=3:=by unfold jK; rw[if_neg (by simp[h]),if_pos h2]
theorem EM {key c b:List UInt8} (h:key.length=16) (h2:c.length=16) (h3:65535<b.length):jK key c b=2:=by unfold jK; rw[if_neg (by simp[h]),if_neg (by simp[h2]),if_pos h3]
theorem IB {key c b:List UInt8} (h:key.length=16) (h2:c.length=16) (h3:b.length≤65535):jK key c b=0:=by unfold jK; rw[if_neg (by simp[h]),if_neg (by simp[h2]),if_neg (by omega)]
theorem IC {key c b:List UInt8} (h:key.length=16) (h2:c.length=16) (h3:b.length≤65535):qe key c b=fS (aA key) c b:=if_pos ⟨h,h2,h3⟩
theorem pn {key c b:List UInt8} (h:¬ (key.length=16∧c.length=16∧b.length≤65535)):qe key c b=[]:=if_neg h
theorem Qg (rk c b:List UInt8):oT rk c b 0=[]:=abS
def Dt (key c b:List UInt8) (n:Nat):St:=⟨aQ [(1,.w (.c (.d (.sl ((dw c n).map bD))))),(2,.w (.c (.d (.sl (b.map bD))))),(8,.w (.c (.ptr 2 1 0 0))),(9,.w (.c (.own 1 1 0 (oT (aA key) c b (16*n)).length))),(10,.w (.c (.d (.int .i64 ((16*n:Nat):Int)))))],hL [(1,.row 1 ((oT (aA key) c b (16*n)).map bD)),(2,.box ((cY key).map bC))],uL [1,2]⟩
def xH (key c b:List UInt8) (n k:Nat):St:=⟨aQ [(1,.w (.c (.d (.sl ((dw c n).map bD))))),(2,.w (.c (.d (.sl (b.map bD))))),(8,.w (.c (.ptr 2 1 0 0))),(9,.w (.c (.own 1 1 0 (oT (aA key) c b (16*n+k)).length))),(10,.w (.c (.d (.int .i64 ((16*n:Nat):Int))))),(11,.w (.c (.d (.sl ((dh (aA key) (dw c n)).map bD))))),(12,.w (.c (.d (.int .i64 (k:Int)))))],hL [(1,.row 1 ((oT (aA key) c b (16*n+k)).map bD)),(2,.box ((cY key).map bC))],uL [1,2]⟩
def uj:aN := .seq (.seq (.reg [oM 34 12,oO 35 (.bin .lss (.t 34) (kI 16)),oM 36 35,oG 37 (.mv (.t 10)) 36 true,oG 38 (.mv (.t 12)) 36 true,oG 39 (.bin .add (.t 37) (.t 38)) 36 true,oG 40 (.mv (.t 2)) 36 true,oG 41 (.len (.t 40)) 36 true,oG 42 (.bin .lss (.t 39) (.t 41)) 36 true,oO 43 (.pick (.t 36) (.t 42) (.k (.c (.d (.bool false)))))]) (.cond (.t 43) (.skip) (.exit 2))) (.seq (.block 3 (.reg [oM 46 9,oM 47 2,oM 48 10,oM 49 12,oO 50 (.bin .add (.t 48) (.t 49)),oO 51 (.idxSl 1 (.t 47) (.t 50)),oO 52 (.load .sc (.t 51)),oM 53 11,oM 54 12,oO 55 (.idxSl 1 (.t 53) (.t 54)),oO 56 (.load .sc (.t 55)),oO 57 (.bin .xor (.t 52) (.t 56)),oO 58 (.bldSl false 1 1 (.int .u8 0) [(0,(.t 57))]),oO 59 (.app false 1 1 (.t 46) (.t 58)),oM 9 59])) (.reg [oM 44 12,oO 45 (.bin .add (.t 44) (kI 1)),oM 12 45]))
def ze:aN := .seq (.seq (.reg [oM 25 10,oM 26 2,oO 27 (.len (.t 26)),oO 28 (.bin .lss (.t 25) (.t 27))]) (.cond (.t 28) (.skip) (.exit 0))) (.seq (.block 1 (.seq (.reg [oO 31 (.load (.ag 688) (.t 8)),oM 32 1,oO 33 (.call 160 [(.t 31),(.t 32)] none),oM 11 33]) (.seq (.seq (.reg [oO 12 (.mv (kI 0))]) (.block 2 (.loop uj))) (.reg [oM 60 1,oO 61 (.call 161 [(.t 60)] none),oM 1 61])))) (.reg [oM 29 10,oO 30 (.bin .add (.t 29) (kI 16)),oM 10 30]))
def rT:aH:=⟨3,63,.seq (.reg [oO 6 (.mv (.k (.c .nil))),oO 7 (.mv (kI 0))]) (.seq (.seq (.reg [oM 13 0,oO 14 (.len (.t 13)),oO 15 (.bin .neq (.t 14) (kI 16))]) (.cond (.t 15) (.seq (.reg [oO 6 (.mv (.k (.c .nil))),oO 7 (.mv (kI 5))]) (.ret)) (.skip))) (.seq (.seq (.reg [oM 16 1,oO 17 (.len (.t 16)),oO 18 (.bin .neq (.t 17) (kI 16))]) (.cond (.t 18) (.seq (.reg [oO 6 (.mv (.k (.c .nil))),oO 7 (.mv (kI 3))]) (.ret)) (.skip))) (.seq (.seq (.reg [oM 19 2,oO 20 (.len (.t 19)),oO 21 (.bin .gtr (.t 20) (kI 65535))]) (.cond (.t 21) (.seq (.reg [oO 6 (.mv (.k (.c .nil))),oO 7 (.mv (kI 2))]) (.ret)) (.skip))) (.seq (.reg [oM 22 0,oO 23 (.call 159 [(.t 22)] none),oO 8 (.alloc (aR 688 (.d (.int .u8 0)))),oN (.store (.ag 688) (.t 8) (.t 23))]) (.seq (.reg [oO 24 (.bldSl true 0 1 (.int .u8 0) []),
 oM 9 24]) (.seq (.seq (.reg [oO 10 (.mv (kI 0))]) (.block 0 (.loop ze))) (.seq (.reg [oM 62 9,oM 6 62,oO 7 (.mv (kI 0))]) (.ret)))))))),[(6,none),(7,none)]⟩
theorem VS:aG Tryz.prog { own:=[24],comp:=[],frz:=[],nils:=[] } Tryz.f145=some rT:=by kernel_rfl
set_option maxRecDepth 20000 in
set_option maxHeartbeats 3200000 in
theorem XZ (G:ah) (key c b:List UInt8) (hk:key.length≤9223372036854775807) (hc:c.length≤9223372036854775807) (hb:b.length≤9223372036854775807):aw Tryz.prog G 145 [.sl (key.map bD),.sl (c.map bD),.sl (b.map bD)] (.tup [.c (.fr 1 ((qe key c b).map bD)),.c (.d (.int .i64 (jK key c b)))]):=by
  refine aI Tryz.func145 VS rfl rfl ?_;by_cases h:key.length=16
  ·by_cases h2:c.length=16
   ·by_cases h3:b.length≤65535
    ·have hM:=uc h;have r4:List.drop 688 (aR 688 (0:UInt8))=[]:=abZ (by rw[be]; omega);rw[IB h h2 h3,IC h h2 h3];simp only[rT,af,ae,aa,seval,iteOmega,toNatUp,h,h2,rN];refine sC (Bw G key h) ?_;simp only[ct,hM,be,jH,eS,ig,r4,abm,ae,aa,seval,iteOmega,toNatUp];refine aU (Dt key c b) (fun n=>(b.length+15) / 16-n) (fun n=>16*n<b.length+16) 0 (by omega) ?_ ?_
     ·refine aj (fun i=>if i=1 then 192 else 64) ?_ ?_ rfl (by simp[V.ids,W.ids,C.ids,Ob.ids,bR]) <;> simp only[wx,ai,am,aa,seval,iteOmega,toNatUp,ft,bR,acM,Qg,acs,abo] <;> rfl
     ·intro n hn;have hT:=sA (aA key) c b (16*n);by_cases hlt:16*n<b.length
      ·have t1:(cY key).take 688=cY key:=aa9 (by omega);simp only[ze,Dt,ae,aa,seval,iteOmega,toNatUp,ct,hM,bu,t1,iD];refine sD (sr G key (dw c n) h (rS h2 n)) ?_;have hen:kB key (dw c n)=dh (aA key) (dw c n):=rfl;rw[hen];refine aU (xH key c b n) (fun k=>16-k) (fun k=>k≤16∧16*n+k≤b.length) 0 ⟨by omega,by omega⟩ ?_ ?_
       ·refine aj (fun i=>i) ?_ ?_ rfl (by simp[V.ids,W.ids,C.ids,Ob.ids,bR]) <;> simp only[wx,ai,am,aa,seval,iteOmega,toNatUp,ft,bR,ab8]
       ·rintro k ⟨hk16,hkb⟩;have hTk:=sA (aA key) c b (16*n+k);have hTk1:=sA (aA key) c b (16*n+k+1);by_cases hgo:k<16∧16*n+k<b.length
        ·obtain⟨hk1,hk2⟩:=hgo;have g1:b[16*n+k]?=some (b.getD (16*n+k) 0):=cX hk2;have hel:=iU (aA key) (dw c n);have g2:(dh (aA key) (dw c n))[k]?=some ((dh (aA key) (dw c n)).getD k 0):=cX (by omega);have x1:=dp (b.getD (16*n+k) 0) ((dh (aA key) (dw c n)).getD k 0);have ho:=KX (aA key) c b hk1 hk2;simp only[uj,xH,ae,aa,seval,iteOmega,toNatUp,aC,g1,g2,x1,hel,a7];refine aM (k+1) (by omega) ⟨by omega,by omega⟩ (aj (fun i=>if i=1 then 472 else i) ?_ ?_ rfl (by simp[V.ids,W.ids,C.ids,Ob.ids,bR])) <;> simp only[wx,ai,am,aa,seval,iteOmega,toNatUp,ft,bR]
         ·rw[show 16*n+(k+1)=16*n+k+1 from rfl,hTk,hTk1,show min (16*n+k) b.length+1=min (16*n+k+1) b.length by omega]
         ·rw[← acN,← ho,abk]; rfl
        ·have e:oT (aA key) c b (16*n+k)=oT (aA key) c b (16*(n+1)):=by
           by_cases h16:k=16
           ·rw[h16,show 16*n+16=16*(n+1) by omega]
           ·rw[od _ _ _ (by omega),od _ _ _ (by omega)]
         have hx:=XK G (dw c n) (by rw[rS h2]; omega);rw[IA h2] at hx;by_cases h16:k<16
         ·have hnl:¬ 16*n+k<b.length:=by omega
          simp only[uj,xH,e,ae,aa,seval,iteOmega,toNatUp];refine sD (hx) ?_;refine aM (n+1) (by omega) (by omega) (aj (fun i=>i) ?_ ?_ rfl (by simp[V.ids,W.ids,C.ids,Ob.ids,bR])) <;> simp only[wx,ai,am,aa,seval,iteOmega,toNatUp,ft,bR];rw[show (16*(n:Int)+16)=16*((n:Int)+1) by omega]
         ·simp only[uj,xH,e,ae,aa,seval,iteOmega,toNatUp];refine sD (hx) ?_;refine aM (n+1) (by omega) (by omega) (aj (fun i=>i) ?_ ?_ rfl (by simp[V.ids,W.ids,C.ids,Ob.ids,bR])) <;> simp only[wx,ai,am,aa,seval,iteOmega,toNatUp,ft,bR];rw[show (16*(n:Int)+16)=16*((n:Int)+1) by omega]
      ·have e:=od (aA key) c b (j:=16*n) (by omega);have hl:=q8 (aA key) c b;simp only[ze,Dt,e,ae,aa,seval,iteOmega,toNatUp,hl];have ht:(fS (aA key) c b).take b.length=fS (aA key) c b:=aa9 (by omega);exact vP (by simp only[ae,aa,seval,iteOmega,toNatUp,ct,hl,bu,ht]) (by simp only[ae,aa,seval,iteOmega,toNatUp])
    ·rw[EM h h2 (by omega),pn (by omega)];simp only[rT,af,ae,aa,seval,iteOmega,toNatUp,h,h2];exact bY
   ·rw[F7 b h h2,pn (by omega)];simp only[rT,af,ae,aa,seval,iteOmega,toNatUp,h];exact bY
  ·rw[F6 c b h,pn (by omega)];simp only[rT,af,ae,aa,seval,iteOmega,toNatUp];exact bY
theorem X0 (G:ah) (key c b:List UInt8) (hk:key.length≤9223372036854775807) (hc:c.length≤9223372036854775807) (hb:b.length≤9223372036854775807):aw Tryz.prog G 145 [.sl (key.map bD),.sl (c.map bD),.sl (b.map bD)] (.tup [.c (.d (.sl ((qe key c b).map bD))),.c (.d (.int .i64 (jK key c b)))]):=mP (XZ G key c b hk hc hb)
def pO (l:List UInt8):D:=.sl (l.map bD)
def wX (a b:List (List UInt8)) (i:Nat):St:=⟨aQ [(0,.w (.c (.d (.sl (a.map pO))))),(1,.w (.c (.d (.sl (b.map pO))))),(5,.w (.c (.d (.int .i64 (i:Int)))))],hL [],uL []⟩
def uQ:aN := .seq (.seq (.reg [oM 11 5,oM 12 0,oO 13 (.len (.t 12)),oO 14 (.bin .lss (.t 11) (.t 13))]) (.cond (.t 14) (.skip) (.exit 0))) (.seq (.block 1 (.seq (.reg [oM 17 0,oM 18 5,oO 19 (.idxSl 1 (.t 17) (.t 18)),oO 20 (.load .sc (.t 19)),oM 21 1,oM 22 5,oO 23 (.idxSl 1 (.t 21) (.t 22)),oO 24 (.load .sc (.t 23)),oO 25 (.call 20 [(.t 20),(.t 24)] none),oO 26 (.un .not (.t 25))]) (.cond (.t 26) (.seq (.reg [oO 4 (.mv (.k (.c (.d (.bool false)))))]) (.ret)) (.skip)))) (.reg [oM 15 5,oO 16 (.bin .add (.t 15) (kI 1)),oM 5 16]))
def BC:aH:=⟨2,27,.seq (.reg [oO 4 (.mv (.k (.c (.d (.bool false)))))]) (.seq (.seq (.reg [oM 6 0,oO 7 (.len (.t 6)),oM 8 1,oO 9 (.len (.t 8)),oO 10 (.bin .neq (.t 7) (.t 9))]) (.cond (.t 10) (.seq (.reg [oO 4 (.mv (.k (.c (.d (.bool false)))))]) (.ret)) (.skip))) (.seq (.seq (.reg [oO 5 (.mv (kI 0))]) (.block 0 (.loop uQ))) (.seq (.reg [oO 4 (.mv (.k (.c (.d (.bool true)))))]) (.ret)))),[(4,none)]⟩
theorem X4:aG Tryz.prog { own:=[],comp:=[],frz:=[],nils:=[] } Tryz.f83=some BC:=by kernel_rfl
set_option maxHeartbeats 1600000 in
theorem aac (G:ah) (a b:List (List UInt8)) (ha:a.length≤140737488355328) (hb:b.length≤140737488355328):aw Tryz.prog G 83 [.sl (a.map pO),.sl (b.map pO)] (.w (.c (.d (.bool (a==b))))):=by
  refine aI Tryz.func83 X4 rfl rfl ?_;by_cases hlen:a.length=b.length
  ·have hz:∀ l:List UInt8,(pO l).cells=[pO l]:=fun _=>rfl
   simp only[BC,af,ae,aa,seval,iteOmega,toNatUp];refine aU (wX a b) (fun i=>a.length-i) (fun i=>i≤a.length∧a.take i=b.take i) 0 ⟨abc _,rfl⟩ ?_ ?_
   ·refine aj (fun i=>0) ?_ ?_ rfl rfl <;> simp only[wx,ai,am,aa,seval,iteOmega,toNatUp] <;> rfl
   ·rintro i ⟨hi,hpre⟩;by_cases hlt:i<a.length
    ·have g1:a[i]?=some a[i]:=aa7 hlt;have g2:b[i]?=some (b[i]'(by omega)):=aa7 (by omega);have hx:∀ x y:List UInt8,a[i]?=some x→b[i]?=some y→(a=b→x=y):=fun x y h1 h2 e=>by subst e; rw[h1] at h2; exact Option.some.inj h2
     have hx1:=hx _ _ g1 g2;have hstep:a[i]=b[i]'(by omega)→a.take (i+1)=b.take (i+1):=fun e=>by
       rw[aco,aco,g1,g2,hpre,e]
     generalize a[i]=x at *
     generalize b[i]'(by omega)=y at *
     have hrs:=nY G x y;cases hxy:x==y
     ·have hne:(a==b)=false:=by
        rw[beq_eq_false_iff_ne]; intro e
        have:=hx1 e;subst this;simp at hxy
      simp only[uQ,wX,ae,aa,seval,iteOmega,toNatUp,aC,g1,g2,hz,hne];refine sC (hrs) ?_;simp only[hxy,ae,aa,seval,iteOmega,toNatUp];exact aL
     ·have hxy':x=y:=by simpa using hxy
      simp only[uQ,wX,ae,aa,seval,iteOmega,toNatUp,aC,g1,g2,hz];refine sC (hrs) ?_;simp only[hxy,ae,aa,seval,iteOmega,toNatUp];refine aM (i+1) (by omega) ⟨by omega,hstep hxy'⟩ (aj (fun _=>0) ?_ ?_ rfl rfl) <;> simp only[wx,ai,am,aa,seval,iteOmega,toNatUp]
    ·obtain rfl:i=a.length:=by omega
     have e:(a==b)=true:=by
       rw[beq_iff_eq];rw[aa9 (abl _),aa9 (by omega)] at hpre;exact hpre
     simp only[uQ,wX,ae,aa,seval,iteOmega,toNatUp,e];exact aL
  ·have hne:(a==b)=false:=by rw[beq_eq_false_iff_ne]; intro e; subst e; exact hlen rfl
   simp only[BC,af,ae,aa,seval,iteOmega,toNatUp,hne];exact aL
def Nb:aH:=⟨2,10,.seq (.reg [oO 4 (.mv (.k (.c (.d (.bool false)))))]) (.seq (.reg [oM 5 0,oO 6 (.b2s (.t 5)),oM 7 1,oO 8 (.b2s (.t 7)),oO 9 (.bin .eql (.t 6) (.t 8)),oM 4 9]) (.ret)),[(4,none)]⟩
theorem X5:aG Tryz.prog { own:=[],comp:=[],frz:=[],nils:=[] } Tryz.f129=some Nb:=by kernel_rfl
theorem aad (G:ah) (l m:List UInt8):aw Tryz.prog G 129 [.sl (l.map bD),.sl (m.map bD)] (.w (.c (.d (.bool (l==m))))):=by
  refine aI Tryz.func129 X5 rfl rfl ?_;simp only[Nb,af,wx,aa,seval,iteOmega,toNatUp,pj,FS];exact lu (by simp only[wx,aa,seval,iteOmega,toNatUp])
def KZ:aH:=⟨2,8,.seq (.reg [oO 4 (.mv (.k (.c (.d (.bool false)))))]) (.seq (.reg [oM 5 0,oM 6 1,oO 7 (.call 129 [(.t 5),(.t 6)] none),oM 4 7]) (.ret)),[(4,none)]⟩
theorem VU:aG Tryz.prog { own:=[],comp:=[],frz:=[],nils:=[] } Tryz.f104=some KZ:=by kernel_rfl
theorem BD (G:ah) (l m:List UInt8):aw Tryz.prog G 104 [.sl (l.map bD),.sl (m.map bD)] (.w (.c (.d (.bool (l==m))))):=by
  refine aI Tryz.func104 VU rfl rfl ?_;simp only[KZ,af,ae,aa,seval,iteOmega,toNatUp];refine sD (aad G l m) ?_;exact aL
def dR:List UInt32:=[0x6a09e667,0xbb67ae85,0x3c6ef372,0xa54ff53a,0x510e527f,0x9b05688c,0x1f83d9ab,0x5be0cd19]
def bK:List UInt32:=[
  0x428a2f98,0x71374491,0xb5c0fbcf,0xe9b5dba5,0x3956c25b,0x59f111f1,0x923f82a4,0xab1c5ed5,
  0xd807aa98,0x12835b01,0x243185be,0x550c7dc3,0x72be5d74,0x80deb1fe,0x9bdc06a7,0xc19bf174,
  0xe49b69c1,0xefbe4786,0x0fc19dc6,0x240ca1cc,0x2de92c6f,0x4a7484aa,0x5cb0a9dc,0x76f988da,
  0x983e5152,0xa831c66d,0xb00327c8,0xbf597fc7,0xc6e00bf3,0xd5a79147,0x06ca6351,0x14292967,
  0x27b70a85,0x2e1b2138,0x4d2c6dfc,0x53380d13,0x650a7354,0x766a0abb,0x81c2c92e,0x92722c85,
  0xa2bfe8a1,0xa81a664b,0xc24b8b70,0xc76c51a3,0xd192e819,0xd6990624,0xf40e3585,0x106aa070,
  0x19a4c116,0x1e376c08,0x2748774c,0x34b0bcb5,0x391c0cb3,0x4ed8aa4a,0x5b9cca4f,0x682e6ff3,
  0x748f82ee,0x78a5636f,0x84c87814,0x8cc70208,0x90befffa,0xa4506ceb,0xbef9a3f7,0xc67178f2]
theorem qV:dR.length=8:=rfl
theorem EO:bK.length=64:=rfl
def lZ (b:List UInt8) (t:Nat):UInt32 :=
  lG (lG (lG (mq (mf (b.getD (4*t) 0)) 24) (mq (mf (b.getD (4*t+1) 0)) 16)) (mq (mf (b.getD (4*t+2) 0)) 8)) (mf (b.getD (4*t+3) 0))
def BF (x:UInt32):UInt32:=i5 (i5 (jr x 7) (jr x 18)) (qu x 3)
def BG (y:UInt32):UInt32:=i5 (i5 (jr y 17) (jr y 19)) (qu y 10)
def oB (s:List UInt32) (t:Nat):UInt32 :=
  bP (bP (bP (BG (s.getD (t-2) 0)) (s.getD (t-7) 0)) (BF (s.getD (t-15) 0))) (s.getD (t-16) 0)
def gS (b:List UInt8) (n:Nat):List UInt32:=(List.range n).map (lZ b)
def dS (b:List UInt8):Nat→List UInt32
  | 0=>gS b 16
  | n+1=>dS b n++[oB (dS b n) (16+n)]
def eI (b:List UInt8):List UInt32:=dS b 48
theorem IF (b:List UInt8) (m:Nat) (h:m=48):eI b=dS b m:=by rw[h]; rfl
def Dx (e:UInt32):UInt32:=i5 (i5 (jr e 6) (jr e 11)) (jr e 25)
def PT (a:UInt32):UInt32:=i5 (i5 (jr a 2) (jr a 13)) (jr a 22)
def DR (e f g:UInt32):UInt32:=i5 (ny e f) (ny (xD e) g)
def PU (a b c:UInt32):UInt32:=i5 (i5 (ny a b) (ny a c)) (ny b c)
structure cB where
  (a b c d e f g h:UInt32)
def cB.step (s:cB) (k w:UInt32):cB :=
  let t1:=bP (bP (bP (bP s.h (Dx s.e)) (DR s.e s.f s.g)) k) w
  let t2:=bP (PT s.a) (PU s.a s.b s.c)
  ⟨bP t1 t2,s.a,s.b,s.c,bP s.d t1,s.e,s.f,s.g⟩
def cB.of (h:List UInt32):cB:=⟨h.getD 0 0,h.getD 1 0,h.getD 2 0,h.getD 3 0,h.getD 4 0,h.getD 5 0,h.getD 6 0,h.getD 7 0⟩
def cB.rounds (s:cB) (k w:List UInt32):Nat→cB
  | 0=>s
  | n+1=>(s.rounds k w n).step (k.getD n 0) (w.getD n 0)
def cB.sum (s:cB) (h:List UInt32):List UInt32 :=
  [bP (h.getD 0 0) s.a,bP (h.getD 1 0) s.b,bP (h.getD 2 0) s.c,bP (h.getD 3 0) s.d,bP (h.getD 4 0) s.e,bP (h.getD 5 0) s.f,bP (h.getD 6 0) s.g,bP (h.getD 7 0) s.h]
def ot (h:List UInt32) (b:List UInt8):List UInt32:=((cB.of h).rounds bK (eI b) 64).sum h
theorem EP (h:List UInt32) (b:List UInt8):(ot h b).length=8:=rfl
theorem T4 (x y:UInt32):lG x y=lG y x:=UInt32.or_comm x y
def IG:aH:=⟨2,15,.seq (.reg [oO 4 (.mv (.k (.c (.d (.int .u32 0)))))]) (.seq (.reg [oM 5 0,oM 6 1,oO 7 (.conv .u64 (.t 6)),oO 8 (.bin .shr (.t 5) (.t 7)),oM 9 0,oM 10 1,oO 11 (.bin .sub (kI 32) (.t 10)),oO 12 (.conv .u64 (.t 11)),oO 13 (.bin .shl (.t 9) (.t 12)),oO 14 (.bin .or (.t 8) (.t 13)),oM 4 14]) (.ret)),[(4,none)]⟩
theorem T5:aG Tryz.prog { own:=[],comp:=[],frz:=[],nils:=[] } Tryz.f133=some IG:=by kernel_rfl
theorem lg (G:ah) (x:UInt32) (n:Nat) (h0:0<n) (hn:n<32):aw Tryz.prog G 133 [wD x,.int .i64 n] (.w (.c (.d (wD (jr x n))))):=by
  refine aI Tryz.func133 T5 rfl rfl ?_;have e1:IntKind.u64.wrap (n:Int)=(n:Int):=IntWalk.u64_in _ (by omega);have e2:IntKind.i64.wrap (32-(n:Int))=((32-n:Nat):Int):=by rw[IntWalk.i64_in _ (by omega)]; omega
  have e3:IntKind.u64.wrap ((32-n:Nat):Int)=((32-n:Nat):Int):=IntWalk.u64_in _ (by omega);simp only[IG,af,wx,aa,seval,iteOmega,toNatUp,e1,e2,e3];exact lu (by simp only[wx,aa,seval,iteOmega,toNatUp] <;> rfl)
def K5:aH:=⟨2,17,.seq (.reg [oO 4 (.mv (.k (.c (.d (.int .u32 0)))))]) (.seq (.reg [oM 6 1,oO 7 (.conv .u64 (.t 6)),oO 8 (.bin .and (.t 7) (.k (.c (.d (.int .u64 31))))),oM 5 8]) (.seq (.reg [oM 9 0,oM 10 5,oO 11 (.bin .shl (.t 9) (.t 10)),oM 12 0,oM 13 5,oO 14 (.bin .sub (.k (.c (.d (.int .u64 32)))) (.t 13)),oO 15 (.bin .shr (.t 12) (.t 14)),oO 16 (.bin .or (.t 11) (.t 15)),oM 4 16]) (.ret))),[(4,none)]⟩
theorem V7:aG Tryz.prog { own:=[],comp:=[],frz:=[],nils:=[] } Tryz.f188=some K5:=by kernel_rfl
theorem Yl (G:ah) (x:UInt32) (n:Nat) (h0:0<n) (hn:n<32):aw Tryz.prog G 188 [wD x,.int .i64 (-(n:Int))] (.w (.c (.d (wD (jr x n))))):=by
  refine aI Tryz.func188 V7 rfl rfl ?_;have e1:bits .and .u64 (IntKind.u64.wrap (-(n:Int))) 31=((32-n:Nat):Int):=by
    have h:=bits_mask .u64 64 (by decide) u64_in 5 (by decide) (IntKind.u64.wrap (-(n:Int))) (by rw[IntKind.wrap_u64]; omega) (by rw[IntKind.wrap_u64]; omega);rw[show (31:Int)=2^5-1 by decide,h,IntKind.wrap_u64];omega
  have e2:IntKind.u64.wrap (32-((32-n:Nat):Int))=((n:Nat):Int):=by rw[IntWalk.u64_in _ (by omega)]; omega
  simp only[K5,af,wx,aa,seval,iteOmega,toNatUp,e1,e2];rw[T4];exact lu (by simp only[wx,aa,seval,iteOmega,toNatUp] <;> rfl)
def K6:aH:=⟨2,9,.seq (.reg [oO 4 (.mv (.k (.c (.d (.int .u32 0)))))]) (.seq (.reg [oM 5 0,oM 6 1,oO 7 (.un .neg (.t 6)),oO 8 (.call 188 [(.t 5),(.t 7)] none),oM 4 8]) (.ret)),[(4,none)]⟩
theorem V8:aG Tryz.prog { own:=[],comp:=[],frz:=[],nils:=[] } Tryz.f185=some K6:=by kernel_rfl
theorem lk (G:ah) (x:UInt32) (n:Nat) (h0:0<n) (hn:n<32):aw Tryz.prog G 185 [wD x,.int .i64 n] (.w (.c (.d (wD (jr x n))))):=by
  refine aI Tryz.func185 V8 rfl rfl ?_;have e1:IntKind.i64.wrap (0-(n:Int)) = -(n:Int):=by rw[IntWalk.i64_in _ (by omega)]; omega
  simp only[K6,af,wx,aa,seval,iteOmega,toNatUp,e1];refine aW (Yl G x n h0 hn) rfl (.inr rfl) ?_;simp only[wx,aa,seval,iteOmega,toNatUp];exact lu (by simp only[wx,aa,seval,iteOmega,toNatUp])
def K7:aH:=⟨0,2,.seq (.reg [oO 0 (.mv (.k (.c .nil)))]) (.seq (.reg [oO 1 (.bldSl true 8 1 (.int .u32 0) [(0,(.k (.c (.d (.int .u32 1779033703))))),(1,(.k (.c (.d (.int .u32 3144134277))))),(2,(.k (.c (.d (.int .u32 1013904242))))),(3,(.k (.c (.d (.int .u32 2773480762))))),(4,(.k (.c (.d (.int .u32 1359893119))))),(5,(.k (.c (.d (.int .u32 2600822924))))),(6,(.k (.c (.d (.int .u32 528734635))))),(7,(.k (.c (.d (.int .u32 1541459225)))))]),oM 0 1]) (.ret)),[(0,none)]⟩
theorem V9:aG Tryz.prog { own:=[1],comp:=[],frz:=[],nils:=[] } Tryz.f117=some K7:=by kernel_rfl
theorem Ym (G:ah):aw Tryz.prog G 117 [] (.w (.c (.fr 1 (dR.map wD)))):=by
  refine aI Tryz.func117 V9 rfl rfl ?_;simp only[K7,af,wC,wE,wF,wG,wH,sx];refine JG (.w (.c (.own 8 1 0 8)),upd hN 8 (some (.row 1 (dR.map wD))),upd uN 8 true) (by kernel_rfl) ?_;simp only[wx,aa,seval,iteOmega,toNatUp];exact dE (id:=8) (n:=8) (s:=1) (by simp only[wx,aa,seval,iteOmega,toNatUp]) (by simp only[wx,aa,seval,iteOmega,toNatUp]) rfl
def K8:aH:=⟨0,2,.seq (.reg [oO 0 (.mv (.k (.c .nil)))]) (.seq (.reg [oO 1 (.bldSl true 64 1 (.int .u32 0) [(0,(.k (.c (.d (.int .u32 1116352408))))),(1,(.k (.c (.d (.int .u32 1899447441))))),(2,(.k (.c (.d (.int .u32 3049323471))))),(3,(.k (.c (.d (.int .u32 3921009573))))),(4,(.k (.c (.d (.int .u32 961987163))))),(5,(.k (.c (.d (.int .u32 1508970993))))),(6,(.k (.c (.d (.int .u32 2453635748))))),(7,(.k (.c (.d (.int .u32 2870763221))))),(8,(.k (.c (.d (.int .u32 3624381080))))),(9,(.k (.c (.d (.int .u32 310598401))))),(10,(.k (.c (.d (.int .u32 607225278))))),(11,(.k (.c (.d (.int .u32 1426881987))))),(12,(.k (.c (.d (.int .u32 1925078388))))),(13,(.k (.c (.d (.int .u32 2162078206))))),(14,(.k (.c (.d (.int .u32 2614888103))))),(15,(.k (.c (.d (.int .u32 3248222580))))),(16,(.k (.c (.d (.int .u32 3835390401))))),(17,(.k (.c (.d (.int .u32 4022224774))))),(18,(.k (.c (.d (.int .u32 264347078))))),(19,(.k (.c (.d (.int .u32 604807628))))),(20,(.k (.c (.d (.int .u32 770255983))))),(21,(.k (.c (.d (.int .u32 1249150122))))),(22,(.k (.c (.d (.int .u32 1555081692))))),(23,(.k (.c (.d (.int .u32 1996064986))))),(24,(.k (.c (.d (.int .u32 2554220882))))),(25,(.k (.c (.d (.int .u32 2821834349))))),(26,(.k (.c (.d (.int .u32 2952996808))))),(27,(.k (.c (.d (.int .u32 3210313671))))),(28,(.k (.c (.d (.int .u32 3336571891))))),(29,(.k (.c (.d (.int .u32 3584528711))))),(30,(.k (.c (.d (.int .u32 113926993))))),(31,(.k (.c (.d (.int .u32 338241895))))),(32,(.k (.c (.d (.int .u32 666307205))))),(33,(.k (.c (.d (.int .u32 773529912))))),(34,(.k (.c (.d (.int .u32 1294757372))))),(35,(.k (.c (.d (.int .u32 1396182291))))),(36,(.k (.c (.d (.int .u32 1695183700))))),(37,(.k (.c (.d (.int .u32 1986661051))))),(38,(.k (.c (.d (.int .u32 2177026350))))),(39,(.k (.c (.d (.int .u32 2456956037))))),(40,(.k (.c (.d (.int .u32 2730485921))))),(41,(.k (.c (.d (.int .u32 2820302411))))),(42,(.k (.c (.d (.int .u32 3259730800))))),(43,(.k (.c (.d (.int .u32 3345764771))))),(44,(.k (.c (.d (.int .u32 3516065817))))),(45,(.k (.c (.d (.int .u32 3600352804))))),(46,(.k (.c (.d (.int .u32 4094571909))))),(47,(.k (.c (.d (.int .u32 275423344))))),(48,(.k (.c (.d (.int .u32 430227734))))),(49,(.k (.c (.d (.int .u32 506948616))))),(50,(.k (.c (.d (.int .u32 659060556))))),(51,(.k (.c (.d (.int .u32 883997877))))),(52,(.k (.c (.d (.int .u32 958139571))))),(53,(.k (.c (.d (.int .u32 1322822218))))),(54,(.k (.c (.d (.int .u32 1537002063))))),(55,(.k (.c (.d (.int .u32 1747873779))))),(56,(.k (.c (.d (.int .u32 1955562222))))),(57,(.k (.c (.d (.int .u32 2024104815))))),(58,(.k (.c (.d (.int .u32 2227730452))))),(59,(.k (.c (.d (.int .u32 2361852424))))),(60,(.k (.c (.d (.int .u32 2428436474))))),(61,(.k (.c (.d (.int .u32 2756734187))))),(62,(.k (.c (.d (.int .u32 3204031479))))),(63,(.k (.c (.d (.int .u32 3329325298)))))]),
 oM 0 1]) (.ret)),[(0,none)]⟩
theorem Wa:aG Tryz.prog { own:=[1],comp:=[],frz:=[],nils:=[] } Tryz.f118=some K8:=by kernel_rfl
theorem Nf (G:ah):aw Tryz.prog G 118 [] (.w (.c (.fr 1 (bK.map wD)))):=by
  refine aI Tryz.func118 Wa rfl rfl ?_;simp only[K8,af,wC,wE,wF,wG,wH,sx];refine JG (.w (.c (.own 8 1 0 64)),upd hN 8 (some (.row 1 (bK.map wD))),upd uN 8 true) (by kernel_rfl) ?_;simp only[wx,aa,seval,iteOmega,toNatUp];exact dE (id:=8) (n:=64) (s:=1) (by simp only[wx,aa,seval,iteOmega,toNatUp]) (by simp only[wx,aa,seval,iteOmega,toNatUp]) rfl
theorem EQ (b:UInt8):(mf b).toNat=b.toNat:=by have:=FC b; omega
theorem zf (b:UInt8) (n:Nat) (hn:n≤24):(mq (mf b) n).toNat=2^n*b.toNat:=by
  have hb:=b.toNat_lt;have h:(2:Nat)^n≤2^24:=Nat.pow_le_pow_right (by decide) hn;have h2:2^n*b.toNat≤2^24*255:=Nat.mul_le_mul h (by omega);unfold mq;rw[EQ,UInt32.toNat_ofNat_of_lt' (by rw[Nat.mul_comm]; simp only[UInt32.size]; omega),Nat.mul_comm]
theorem AU (x y:UInt32):(lG x y).toNat=x.toNat ||| y.toNat:=UInt32.toNat_or x y
theorem Q4 (b:List UInt8) (t:Nat):(lZ b t).toNat=((((b.getD (4*t) 0).toNat*256+(b.getD (4*t+1) 0).toNat)*256+(b.getD (4*t+2) 0).toNat)*256+(b.getD (4*t+3) 0).toNat):=by
  unfold lZ;generalize b.getD (4*t) 0=p;generalize b.getD (4*t+1) 0=q;generalize b.getD (4*t+2) 0=r;generalize b.getD (4*t+3) 0=s;have hp:=p.toNat_lt;have hq:=q.toNat_lt;have hr:=r.toNat_lt;have hs:=s.toNat_lt;rw[AU,AU,AU,zf _ _ (by decide),zf _ _ (by decide),zf _ _ (by decide),EQ];have e1:=Nat.two_pow_add_eq_or_of_lt (i:=24) (b:=2^16*q.toNat) (by omega) p.toNat;rw[← e1];have e2:=Nat.two_pow_add_eq_or_of_lt (i:=16) (b:=2^8*r.toNat) (by omega) (2^8*p.toNat+q.toNat);have e3:2^24*p.toNat+2^16*q.toNat=2^16*(2^8*p.toNat+q.toNat):=by omega
  rw[e3,← e2];have e4:=Nat.two_pow_add_eq_or_of_lt (i:=8) (b:=s.toNat) (by omega) (2^8*(2^8*p.toNat+q.toNat)+r.toNat);have e5:2^16*(2^8*p.toNat+q.toNat)+2^8*r.toNat=2^8*(2^8*(2^8*p.toNat+q.toNat)+r.toNat):=by omega
  rw[e5,← e4];omega
theorem four (b:List UInt8) (t:Nat) (h:4*t+4≤b.length):(b.drop (4*t)).take 4=[b.getD (4*t) 0,b.getD (4*t+1) 0,b.getD (4*t+2) 0,b.getD (4*t+3) 0]:=by
  apply acf;intro j;rw[abx,abN];rcases j with _ | _ | _ | _ | j
  ·simp[List.getD,aa7 (show 4*t<b.length by omega)]
  ·simp[List.getD,aa7 (show 4*t+1<b.length by omega)]
  ·simp[List.getD,aa7 (show 4*t+2<b.length by omega)]
  ·simp[List.getD,aa7 (show 4*t+3<b.length by omega)]
  ·rw[if_neg (by omega)];rfl
theorem aaY (b:List UInt8) (t:Nat) (h:4*t+4≤b.length):D.int .u32 (IntKind.u32.wrap (aY ((b.drop (4*t)).take 4):Int))=wD (lZ b t):=by
  have h1:=Q4 b t;rw[four b t h];unfold wD;rw[h1];generalize b.getD (4*t) 0=p;generalize b.getD (4*t+1) 0=q;generalize b.getD (4*t+2) 0=r;generalize b.getD (4*t+3) 0=s;have hp:=p.toNat_lt;have hq:=q.toNat_lt;have hr:=r.toNat_lt;have hs:=s.toNat_lt;have e:aY [p,q,r,s]=(((p.toNat*256+q.toNat)*256+r.toNat)*256+s.toNat):=by
    simp only[aY,acD,List.foldl_nil];omega
  rw[e,IntWalk.u32_in _ (by omega)]
theorem qT (b:List UInt8) (n:Nat):(gS b n).length=n:=by simp[gS]
theorem o7 (b:List UInt8):∀ n,(dS b n).length=16+n
  | 0=>by simp[dS,qT]
  | n+1=>by rw[dS,aba,o7 b n]; simp; omega
theorem rD {α:Type} (l:List α) (z x:α) (n:Nat) (h:0<n):(l++List.replicate n z).set l.length x=(l++[x])++List.replicate (n-1) z:=by
  obtain⟨k,rfl⟩:∃ k,n=k+1:=⟨n-1,by omega⟩
  rw[acF _ _ (abl _),ac5,List.replicate_succ,ac4];simp
theorem Ng {l:List UInt32} {r:List UInt32} {i:Nat} (h:i<l.length):(l++r)[i]?=some (l.getD i 0):=by
  rw[abO h];simp[h]
def CH (b:List UInt8) (t:Nat):St:=⟨aQ [(0,.w (.c (.d (.sl (b.map bD))))),(2,.w (.c (.pa 1 1))),(3,.w (.c (.pa 2 1))),(10,.w (.c (.d (.int .i64 (t:Int)))))],hL [(1,.row 1 ((List.replicate 64 (0:UInt32)).map wD)),(2,.row 1 ((gS b t++List.replicate (64-t) 0).map wD))],uL [1,2]⟩
def CI (b:List UInt8) (n:Nat):St:=⟨aQ [(2,.w (.c (.pa 1 1))),(3,.w (.c (.pa 2 1))),(5,.w (.c (.d (.int .i64 ((16+n:Nat):Int)))))],hL [(1,.row 1 ((List.replicate 64 (0:UInt32)).map wD)),(2,.row 1 ((dS b n++List.replicate (48-n) 0).map wD))],uL [1,2]⟩
def yg:aN := .seq (.reg [oO 11 (.bin .lss (.t 10) (kI 16))]) (.seq (.cond (.t 11) (.skip) (.exit 0)) (.seq (.block 1 (.seq (.reg [oM 12 10,oM 4 12]) (.reg [oM 13 4,oM 14 0,oM 15 4,oO 16 (.bin .mul (.t 15) (kI 4)),oM 17 4,oO 18 (.bin .add (.t 17) (kI 1)),oO 19 (.bin .mul (.t 18) (kI 4)),oO 20 (.slice 1 (.t 14) (some (.t 16)) (some (.t 19)) none),oO 21 (.call 48 [(.t 20)] none),oO 22 (.conv .u32 (.t 21)),oO 23 (.idxPa 1 64 (.t 3) (.t 13)),oN (.store .sc (.t 23) (.t 22))]))) (.reg [oO 24 (.bin .add (.t 10) (kI 1)),oM 10 24])))
def yh:aN := .seq (.seq (.reg [oM 25 5,oO 26 (.bin .lss (.t 25) (kI 64))]) (.cond (.t 26) (.skip) (.exit 2))) (.seq (.block 3 (.seq (.reg [oM 29 5,oO 30 (.bin .sub (.t 29) (kI 15)),oO 31 (.idxPa 1 64 (.t 3) (.t 30)),oO 32 (.load .sc (.t 31)),oM 33 5,oO 34 (.bin .sub (.t 33) (kI 2)),oO 35 (.idxPa 1 64 (.t 3) (.t 34)),oO 36 (.load .sc (.t 35)),oM 6 32,oM 7 36]) (.seq (.reg [oM 37 6,oO 38 (.call 185 [(.t 37),(kI 7)] none),oM 39 6,oO 40 (.call 185 [(.t 39),(kI 18)] none),oO 41 (.bin .xor (.t 38) (.t 40)),oM 42 6,oO 43 (.bin .shr (.t 42) (.k (.c (.d (.int .u64 3))))),oO 44 (.bin .xor (.t 41) (.t 43)),oM 8 44]) (.seq (.reg [oM 45 7,oO 46 (.call 185 [(.t 45),(kI 17)] none),oM 47 7,oO 48 (.call 185 [(.t 47),(kI 19)] none),oO 49 (.bin .xor (.t 46) (.t 48)),oM 50 7,oO 51 (.bin .shr (.t 50) (.k (.c (.d (.int .u64 10))))),
 oO 52 (.bin .xor (.t 49) (.t 51)),oM 9 52]) (.reg [oM 53 5,oM 54 9,oM 55 5,oO 56 (.bin .sub (.t 55) (kI 7)),oO 57 (.idxPa 1 64 (.t 3) (.t 56)),oO 58 (.load .sc (.t 57)),oO 59 (.bin .add (.t 54) (.t 58)),oM 60 8,oO 61 (.bin .add (.t 59) (.t 60)),oM 62 5,oO 63 (.bin .sub (.t 62) (kI 16)),oO 64 (.idxPa 1 64 (.t 3) (.t 63)),oO 65 (.load .sc (.t 64)),oO 66 (.bin .add (.t 61) (.t 65)),oO 67 (.idxPa 1 64 (.t 3) (.t 53)),oN (.store .sc (.t 67) (.t 66))]))))) (.reg [oM 27 5,oO 28 (.bin .add (.t 27) (kI 1)),oM 5 28]))
def Gd:aH:=⟨1,69,.seq (.reg [oO 2 (.allocArr [(.int .u32 0),(.int .u32 0),(.int .u32 0),(.int .u32 0),(.int .u32 0),(.int .u32 0),(.int .u32 0),(.int .u32 0),(.int .u32 0),(.int .u32 0),(.int .u32 0),(.int .u32 0),(.int .u32 0),(.int .u32 0),(.int .u32 0),(.int .u32 0),(.int .u32 0),(.int .u32 0),(.int .u32 0),(.int .u32 0),(.int .u32 0),(.int .u32 0),(.int .u32 0),(.int .u32 0),(.int .u32 0),(.int .u32 0),(.int .u32 0),(.int .u32 0),(.int .u32 0),(.int .u32 0),(.int .u32 0),(.int .u32 0),(.int .u32 0),(.int .u32 0),(.int .u32 0),(.int .u32 0),(.int .u32 0),(.int .u32 0),(.int .u32 0),(.int .u32 0),(.int .u32 0),(.int .u32 0),(.int .u32 0),(.int .u32 0),(.int .u32 0),(.int .u32 0),(.int .u32 0),(.int .u32 0),(.int .u32 0),(.int .u32 0),(.int .u32 0),(.int .u32 0),(.int .u32 0),(.int .u32 0),(.int .u32 0),(.int .u32 0),(.int .u32 0),(.int .u32 0),(.int .u32 0),(.int .u32 0),(.int .u32 0),(.int .u32 0),(.int .u32 0),(.int .u32 0)])])
 (.seq (.reg [oO 3 (.allocArr [(.int .u32 0),(.int .u32 0),(.int .u32 0),(.int .u32 0),(.int .u32 0),(.int .u32 0),(.int .u32 0),(.int .u32 0),(.int .u32 0),(.int .u32 0),(.int .u32 0),(.int .u32 0),(.int .u32 0),(.int .u32 0),(.int .u32 0),(.int .u32 0),(.int .u32 0),(.int .u32 0),(.int .u32 0),(.int .u32 0),(.int .u32 0),(.int .u32 0),(.int .u32 0),(.int .u32 0),(.int .u32 0),(.int .u32 0),(.int .u32 0),(.int .u32 0),(.int .u32 0),(.int .u32 0),(.int .u32 0),(.int .u32 0),(.int .u32 0),(.int .u32 0),(.int .u32 0),(.int .u32 0),(.int .u32 0),(.int .u32 0),(.int .u32 0),(.int .u32 0),(.int .u32 0),(.int .u32 0),(.int .u32 0),(.int .u32 0),(.int .u32 0),(.int .u32 0),(.int .u32 0),(.int .u32 0),(.int .u32 0),(.int .u32 0),(.int .u32 0),(.int .u32 0),(.int .u32 0),(.int .u32 0),(.int .u32 0),(.int .u32 0),(.int .u32 0),(.int .u32 0),(.int .u32 0),(.int .u32 0),(.int .u32 0),(.int .u32 0),(.int .u32 0),(.int .u32 0)])])
 (.seq (.seq (.reg [oO 10 (.mv (kI 0))]) (.block 0 (.loop yg))) (.seq (.seq (.reg [oO 5 (.mv (kI 16))]) (.block 2 (.loop yh))) (.seq (.reg [oO 68 (.load (.ag 64) (.t 3)),oN (.store (.ag 64) (.t 2) (.t 68))]) (.ret))))),[(2,(some (.ag 64)))]⟩
theorem Sl:aG Tryz.prog { own:=[],comp:=[],frz:=[],nils:=[] } Tryz.f184=some Gd:=by kernel_rfl
set_option maxHeartbeats 800000 in
theorem T6 (G:ah) (b:List UInt8) (hb:b.length=64):aw Tryz.prog G 184 [.sl (b.map bD)] (.w (.c (.d (.agg ((eI b).map wD))))):=by
  refine aI Tryz.func184 Sl rfl rfl ?_;simp only[Gd,af,wx,aa,seval,iteOmega,toNatUp];refine aU (CH b) (fun t=>16-t) (fun t=>t≤16) 0 (abc _) ?_ ?_
  ·refine aj (fun i=>8*(i+1)) ?_ ?_ rfl rfl <;> simp only[wx,ai,aa,seval,iteOmega,toNatUp];exact⟨rfl,rfl⟩
  ·intro t ht;by_cases hlt:t<16
   ·have e1:IntKind.i64.wrap ((t:Int)*4)=((4*t:Nat):Int):=by rw[IntWalk.i64_in _ (by omega)]; omega
    have e2:IntKind.i64.wrap ((t:Int)+1)=((t+1:Nat):Int):=by rw[IntWalk.i64_in _ (by omega)]; rfl
    have e3:IntKind.i64.wrap (((t+1:Nat):Int)*4)=((4*t+4:Nat):Int):=by rw[IntWalk.i64_in _ (by omega)]; omega
    have e4:4*t+4-4*t=4:=by omega
    simp only[yg,CH,wx,aa,seval,iteOmega,toNatUp,e1,e2,e3,e4];refine aW (sO G _ (by rw[abg,abi]; omega)) rfl (.inr rfl) ?_;have h1:t<(gS b t++List.replicate (64-t) 0).length:=by rw[aba,qT,abC]; omega
    have h2:=rD (gS b t) 0 (lZ b t) (64-t) (by omega);rw[qT] at h2;have h3:gS b t++[lZ b t]=gS b (t+1):=by simp[gS,acJ]
    have h4:64-t-1=64-(t+1):=by omega
    rw[h3,h4] at h2;simp only[wx,aa,seval,iteOmega,toNatUp,aaY b t (by omega),ab5,vV h1 (qa _),vW,h2,e2];refine aM (t+1) (by omega) (by omega) (aj id ?_ ?_ rfl rfl) <;> simp only[wx,ai,aa,seval,iteOmega,toNatUp]
   ·obtain rfl:t=16:=by omega
    simp only[yg,CH,wx,aa,seval,iteOmega,toNatUp];refine aU (CI b) (fun n=>48-n) (fun n=>n≤48) 0 (abc _) ?_ ?_
    ·have h0:gS b 16=dS b 0:=rfl;refine aj id ?_ ?_ rfl rfl <;> simp only[wx,ai,aa,seval,iteOmega,toNatUp,h0]
    ·intro n hn;by_cases hlt:n<48
     ·have hl:=o7 b n;have w1:∀ k:Nat,k≤16→IntKind.i64.wrap (((16+n:Nat):Int)-(k:Int))=((16+n-k:Nat):Int):=fun k hk=>by rw[IntWalk.i64_in _ (by omega)]; omega
      have e15:IntKind.i64.wrap (((16+n:Nat):Int)-15)=((16+n-15:Nat):Int):=w1 15 (by decide);have e2:IntKind.i64.wrap (((16+n:Nat):Int)-2)=((16+n-2:Nat):Int):=w1 2 (by decide);have e7:IntKind.i64.wrap (((16+n:Nat):Int)-7)=((16+n-7:Nat):Int):=w1 7 (by decide);have e16:IntKind.i64.wrap (((16+n:Nat):Int)-16)=((16+n-16:Nat):Int):=w1 16 (by decide);have e0:IntKind.i64.wrap (((16+n:Nat):Int)+1)=((16+(n+1):Nat):Int):=by rw[IntWalk.i64_in _ (by omega)]; omega
      have g:∀ k,k<16+n→((dS b n++List.replicate (48-n) 0).map wD)[k]?=some (wD ((dS b n).getD k 0)):=fun k hk=>by
        rw[abX,Ng (by omega)]; rfl
      have g15:=g (16+n-15) (by omega);have g2:=g (16+n-2) (by omega);have g7:=g (16+n-7) (by omega);have g16:=g (16+n-16) (by omega);simp only[yh,CI,wx,aa,seval,iteOmega,toNatUp,e15,e2,e7,e16,e0,g15,g2,g7,g16];refine aW (lk G _ 7 (by decide) (by decide)) rfl (.inr rfl) ?_;simp only[wx,aa,seval,iteOmega,toNatUp];refine aW (lk G _ 18 (by decide) (by decide)) rfl (.inr rfl) ?_;simp only[wx,aa,seval,iteOmega,toNatUp];refine aW (lk G _ 17 (by decide) (by decide)) rfl (.inr rfl) ?_;simp only[wx,aa,seval,iteOmega,toNatUp];refine aW (lk G _ 19 (by decide) (by decide)) rfl (.inr rfl) ?_;have h1:16+n<(dS b n++List.replicate (48-n) 0).length:=by rw[aba,hl,abC]; omega
      have h2:=rD (dS b n) 0 (oB (dS b n) (16+n)) (48-n) (by omega);rw[hl] at h2;have h4:48-n-1=48-(n+1):=by omega
      have h3:dS b n++[oB (dS b n) (16+n)]=dS b (n+1):=rfl;rw[h3,h4] at h2;simp only[oB,BF,BG] at h2;simp only[wx,aa,seval,iteOmega,toNatUp,e15,e2,e7,e16,e0,g15,g2,g7,g16,vV h1 (qa _),vW,h2];refine aM (n+1) (by omega) (by omega) (aj id ?_ ?_ rfl rfl) <;> simp only[wx,ai,aa,seval,iteOmega,toNatUp]
     ·have hn48:n=48:=by omega
      have hl:(dS b n).length=64:=by rw[o7]; omega
      have h0:48-n=0:=by omega
      simp only[yh,CI,wx,aa,seval,iteOmega,toNatUp,h0,abm,acv,hl];refine lu ?_;simp only[wx,aa,seval,iteOmega,toNatUp,IF b n hn48,hl]
theorem PV {G:ah} {n:Nat} {c:C} (h:G.at n=some c) (f:Nat→V):ev G f (.g n)=.w (.c c):=by simp[ev,h]
theorem getD_some {l:List UInt32} {i:Nat} (h:i<l.length):l[i]?=some (l.getD i 0):=by simp[h]
theorem eight {l:List UInt32} (h:l.length=8):∃ a b c d e f g i,l=[a,b,c,d,e,f,g,i]:=by
  match l,h with
  | [a,b,c,d,e,f,g,i],_=>exact⟨a,b,c,d,e,f,g,i,rfl⟩
def cB.list (s:cB):List UInt32:=[s.a,s.b,s.c,s.d,s.e,s.f,s.g,s.h]
theorem Nh (s:cB) (k w:UInt32):(s.step k w).a=bP (bP (bP (bP (bP s.h (Dx s.e)) (DR s.e s.f s.g)) k) w) (bP (PT s.a) (PU s.a s.b s.c)):=rfl
theorem Ni (s:cB) (k w:UInt32):(s.step k w).b=s.a:=rfl
theorem Nj (s:cB) (k w:UInt32):(s.step k w).c=s.b:=rfl
theorem Nk (s:cB) (k w:UInt32):(s.step k w).d=s.c:=rfl
theorem Nl (s:cB) (k w:UInt32):(s.step k w).e=bP s.d (bP (bP (bP (bP s.h (Dx s.e)) (DR s.e s.f s.g)) k) w):=rfl
theorem Nm (s:cB) (k w:UInt32):(s.step k w).f=s.e:=rfl
theorem Nn (s:cB) (k w:UInt32):(s.step k w).g=s.f:=rfl
theorem Np (s:cB) (k w:UInt32):(s.step k w).h=s.g:=rfl
def wY (h:List UInt32) (b:List UInt8) (s:cB) (n:Nat):St:=⟨aQ [(2,.w (.c (.pa 1 1))),(4,.w (.c (.pa 2 1))),(5,.w (.c (.pa 3 1))),(6,.w (.c (.d (wD s.a)))),(7,.w (.c (.d (wD s.b)))),(8,.w (.c (.d (wD s.c)))),(9,.w (.c (.d (wD s.d)))),(10,.w (.c (.d (wD s.e)))),(11,.w (.c (.d (wD s.f)))),(12,.w (.c (.d (wD s.g)))),(13,.w (.c (.d (wD s.h)))),(37,.w (.c (.d (.int .i64 (n:Int)))))],
  hL [(1,.row 1 (h.map wD)),(2,.row 1 ((List.replicate 8 (0:UInt32)).map wD)),(3,.row 1 ((eI b).map wD))],uL [1,2,3]⟩
def tq (h:List UInt32) (b:List UInt8) (n:Nat):St:=wY h b ((cB.of h).rounds bK (eI b) n) n
def sumTo (s:cB) (h:List UInt32) (k:Nat):List UInt32:=(s.sum h).take k++h.drop k
def wZ (h:List UInt32) (s:cB) (n:Nat):St:=⟨aQ [(2,.w (.c (.pa 1 1))),(4,.w (.c (.pa 2 1))),(108,.w (.c (.d (.agg (s.list.map wD))))),(109,.w (.c (.d (.int .i64 (n:Int)))))],
  hL [(1,.row 1 ((sumTo s h n).map wD)),(2,.row 1 ((List.replicate 8 (0:UInt32)).map wD))],uL [1,2]⟩
def yA:aN := .seq (.reg [oO 38 (.bin .lss (.t 37) (kI 64))]) (.seq (.cond (.t 38) (.skip) (.exit 0)) (.seq (.block 1 (.seq (.reg [oM 39 37,oM 14 39]) (.seq (.reg [oM 40 13,oM 41 10,oO 42 (.call 185 [(.t 41),(kI 6)] none),oM 43 10,oO 44 (.call 185 [(.t 43),(kI 11)] none),oO 45 (.bin .xor (.t 42) (.t 44)),oM 46 10,oO 47 (.call 185 [(.t 46),(kI 25)] none),oO 48 (.bin .xor (.t 45) (.t 47)),oO 49 (.bin .add (.t 40) (.t 48)),oM 50 10,oM 51 11,oO 52 (.bin .and (.t 50) (.t 51)),oM 53 10,oO 54 (.un .xor (.t 53)),oM 55 12,oO 56 (.bin .and (.t 54) (.t 55)),oO 57 (.bin .xor (.t 52) (.t 56)),oO 58 (.bin .add (.t 49) (.t 57)),oM 59 14,oO 60 (.idxPa 1 64 (.g 1) (.t 59)),oO 61 (.load .sc (.t 60)),oO 62 (.bin .add (.t 58) (.t 61)),oM 63 14,oO 64 (.idxPa 1 64 (.t 5) (.t 63)),oO 65 (.load .sc (.t 64)),
 oO 66 (.bin .add (.t 62) (.t 65)),oM 15 66]) (.seq (.reg [oM 67 6,oO 68 (.call 185 [(.t 67),(kI 2)] none),oM 69 6,oO 70 (.call 185 [(.t 69),(kI 13)] none),oO 71 (.bin .xor (.t 68) (.t 70)),oM 72 6,oO 73 (.call 185 [(.t 72),(kI 22)] none),oO 74 (.bin .xor (.t 71) (.t 73)),oM 75 6,oM 76 7,oO 77 (.bin .and (.t 75) (.t 76)),oM 78 6,oM 79 8,oO 80 (.bin .and (.t 78) (.t 79)),oO 81 (.bin .xor (.t 77) (.t 80)),oM 82 7,oM 83 8,oO 84 (.bin .and (.t 82) (.t 83)),oO 85 (.bin .xor (.t 81) (.t 84)),oO 86 (.bin .add (.t 74) (.t 85)),oM 16 86]) (.reg [oM 87 12,oM 88 11,oM 89 10,oM 90 9,oM 91 15,oO 92 (.bin .add (.t 90) (.t 91)),oM 93 8,oM 94 7,oM 95 6,oM 96 15,oM 97 16,oO 98 (.bin .add (.t 96) (.t 97)),oM 13 87,oM 12 88,oM 11 89,oM 10 92,oM 9 93,oM 8 94,oM 7 95,oM 6 98]))))) (.reg [oO 99 (.bin .add (.t 37) (kI 1)),
 oM 37 99])))
def yB:aN := .seq (.reg [oO 110 (.bin .lss (.t 109) (kI 8))]) (.seq (.cond (.t 110) (.skip) (.exit 2)) (.seq (.block 3 (.seq (.reg [oM 111 109,oO 112 (.idxArr 1 8 .sc (.t 108) (.t 109)),oM 17 111,oM 18 112]) (.reg [oM 113 17,oO 114 (.idxPa 1 8 (.t 2) (.t 113)),oO 115 (.load .sc (.t 114)),oM 116 18,oO 117 (.bin .add (.t 115) (.t 116)),oO 118 (.idxPa 1 8 (.t 2) (.t 113)),oN (.store .sc (.t 118) (.t 117))]))) (.reg [oO 119 (.bin .add (.t 109) (kI 1)),oM 109 119])))
def IH:aH:=⟨2,121,.seq (.reg [oO 2 (.box .ownArr (.t 0)),oO 4 (.allocArr [(.int .u32 0),(.int .u32 0),(.int .u32 0),(.int .u32 0),(.int .u32 0),(.int .u32 0),(.int .u32 0),(.int .u32 0)])]) (.seq (.reg [oM 19 1,oO 20 (.call 184 [(.t 19)] none),oO 5 (.allocArr [(.int .u32 0),(.int .u32 0),(.int .u32 0),(.int .u32 0),(.int .u32 0),(.int .u32 0),(.int .u32 0),(.int .u32 0),(.int .u32 0),(.int .u32 0),(.int .u32 0),(.int .u32 0),(.int .u32 0),(.int .u32 0),(.int .u32 0),(.int .u32 0),(.int .u32 0),(.int .u32 0),(.int .u32 0),(.int .u32 0),(.int .u32 0),(.int .u32 0),(.int .u32 0),(.int .u32 0),(.int .u32 0),(.int .u32 0),(.int .u32 0),(.int .u32 0),(.int .u32 0),(.int .u32 0),(.int .u32 0),(.int .u32 0),(.int .u32 0),(.int .u32 0),(.int .u32 0),(.int .u32 0),(.int .u32 0),(.int .u32 0),(.int .u32 0),(.int .u32 0),(.int .u32 0),(.int .u32 0),(.int .u32 0),(.int .u32 0),(.int .u32 0),(.int .u32 0),(.int .u32 0),(.int .u32 0),(.int .u32 0),(.int .u32 0),(.int .u32 0),(.int .u32 0),(.int .u32 0),(.int .u32 0),(.int .u32 0),(.int .u32 0),(.int .u32 0),(.int .u32 0),(.int .u32 0),(.int .u32 0),(.int .u32 0),(.int .u32 0),(.int .u32 0),(.int .u32 0)]),
 oN (.store (.ag 64) (.t 5) (.t 20))]) (.seq (.reg [oO 21 (.idxPa 1 8 (.t 2) (kI 0)),oO 22 (.load .sc (.t 21)),oO 23 (.idxPa 1 8 (.t 2) (kI 1)),oO 24 (.load .sc (.t 23)),oO 25 (.idxPa 1 8 (.t 2) (kI 2)),oO 26 (.load .sc (.t 25)),oO 27 (.idxPa 1 8 (.t 2) (kI 3)),oO 28 (.load .sc (.t 27)),oO 29 (.idxPa 1 8 (.t 2) (kI 4)),oO 30 (.load .sc (.t 29)),oO 31 (.idxPa 1 8 (.t 2) (kI 5)),oO 32 (.load .sc (.t 31)),oO 33 (.idxPa 1 8 (.t 2) (kI 6)),oO 34 (.load .sc (.t 33)),oO 35 (.idxPa 1 8 (.t 2) (kI 7)),oO 36 (.load .sc (.t 35)),oM 6 22,oM 7 24,oM 8 26,oM 9 28,oM 10 30,oM 11 32,oM 12 34,oM 13 36]) (.seq (.seq (.reg [oO 37 (.mv (kI 0))]) (.block 0 (.loop yA))) (.seq (.seq (.reg [oM 100 6,oM 101 7,oM 102 8,oM 103 9,oM 104 10,oM 105 11,oM 106 12,oM 107 13,oO 108 (.build [(.d (.int .u32 0)),(.d (.int .u32 0)),(.d (.int .u32 0)),(.d (.int .u32 0)),(.d (.int .u32 0)),(.d (.int .u32 0)),(.d (.int .u32 0)),(.d (.int .u32 0))] [(0,1,(.t 100)),(1,1,(.t 101)),(2,1,(.t 102)),(3,1,(.t 103)),(4,1,(.t 104)),(5,1,(.t 105)),(6,1,(.t 106)),(7,1,(.t 107))]),
 oO 109 (.mv (kI 0))]) (.block 2 (.loop yB))) (.seq (.reg [oO 120 (.load (.ag 8) (.t 2)),oN (.store (.ag 8) (.t 4) (.t 120))]) (.ret)))))),[(4,(some (.ag 8)))]⟩
theorem T7:aG Tryz.prog { own:=[2],comp:=[],frz:=[],nils:=[] } Tryz.f173=some IH:=by kernel_rfl
theorem Wb (G:ah) (hG:G.at 1=some (.ra (bK.map wD))) (h:List UInt32) (b:List UInt8) (hh:h.length=8) (hb:b.length=64):aw Tryz.prog G 173 [.agg (h.map wD),.sl (b.map bD)] (.w (.c (.d (.agg ((ot h b).map wD))))):=by
  refine aI Tryz.func173 T7 rfl rfl ?_;have hsl:(eI b).length=64:=o7 b 48;have eg:=@PV G 1 _ hG;have hcl:bK.length=64:=EO;obtain⟨h0,h1,h2,h3,h4,h5,h6,h7,rfl⟩:=eight hh;simp only[IH,af,wx,aa,seval,iteOmega,toNatUp];refine aW (T6 G b hb) rfl (.inl rfl) ?_;simp only[wx,aa,seval,iteOmega,toNatUp,hsl];refine aU (tq [h0,h1,h2,h3,h4,h5,h6,h7] b) (fun n=>64-n) (fun n=>n≤64) 0 (abc _) ?_ ?_
  ·refine aj (fun i=>match i with | 1=>16 | 2=>32 | _=>40) ?_ ?_ rfl rfl <;> simp only[tq,wY,wx,ai,aa,seval,iteOmega,toNatUp]
   ·exact⟨rfl,rfl,rfl,rfl,rfl,rfl,rfl,rfl⟩
   ·rfl
  ·intro n hn;by_cases hlt:n<64
   ·have e1:IntKind.i64.wrap ((n:Int)+1)=((n+1:Nat):Int):=by rw[IntWalk.i64_in _ (by omega)]; rfl
    have g1:(bK.map wD)[n]?=some (wD (bK.getD n 0)):=by rw[aC,getD_some (by omega)]; rfl
    have g2:((eI b).map wD)[n]?=some (wD ((eI b).getD n 0)):=by rw[aC,getD_some (by omega)]; rfl
    have hr:(cB.of [h0,h1,h2,h3,h4,h5,h6,h7]).rounds bK (eI b) (n+1)=((cB.of [h0,h1,h2,h3,h4,h5,h6,h7]).rounds bK (eI b) n).step (bK.getD n 0) ((eI b).getD n 0):=rfl;generalize hs:(cB.of [h0,h1,h2,h3,h4,h5,h6,h7]).rounds bK (eI b) n=s at hr;simp only[yA,tq,wY,hs,wx,aa,seval,iteOmega,toNatUp,eg,g1,g2,e1];refine aW (lk G _ 6 (by decide) (by decide)) rfl (.inr rfl) ?_;simp only[wx,aa,seval,iteOmega,toNatUp];refine aW (lk G _ 11 (by decide) (by decide)) rfl (.inr rfl) ?_;simp only[wx,aa,seval,iteOmega,toNatUp];refine aW (lk G _ 25 (by decide) (by decide)) rfl (.inr rfl) ?_;simp only[wx,aa,seval,iteOmega,toNatUp,eg,g1,g2,hcl];refine aW (lk G _ 2 (by decide) (by decide)) rfl (.inr rfl) ?_;simp only[wx,aa,seval,iteOmega,toNatUp];refine aW (lk G _ 13 (by decide) (by decide)) rfl (.inr rfl) ?_;simp only[wx,aa,seval,iteOmega,toNatUp];refine aW (lk G _ 22 (by decide) (by decide)) rfl (.inr rfl) ?_;simp only[wx,aa,seval,iteOmega,toNatUp,e1];refine aM (n+1) (by omega) (by omega) ?_;rw[tq,hr];refine (aj id ?_ ?_ rfl rfl) <;> simp only[wx,ai,aa,seval,iteOmega,toNatUp,Nh,Ni,Nj,Nk,Nl,Nm,Nn,Np];exact⟨rfl,rfl⟩
   ·obtain rfl:n=64:=by omega
    have hK:ot [h0,h1,h2,h3,h4,h5,h6,h7] b=((cB.of [h0,h1,h2,h3,h4,h5,h6,h7]).rounds bK (eI b) 64).sum [h0,h1,h2,h3,h4,h5,h6,h7]:=rfl;rw[hK];simp only[tq];generalize (cB.of [h0,h1,h2,h3,h4,h5,h6,h7]).rounds bK (eI b) 64=s;simp only[yA,wY,wx,aa,seval,iteOmega,toNatUp];refine aU (wZ [h0,h1,h2,h3,h4,h5,h6,h7] s) (fun n=>8-n) (fun n=>n≤8) 0 (abc _) ?_ ?_
    ·refine aj id ?_ ?_ rfl rfl <;> simp only[wx,ai,aa,seval,iteOmega,toNatUp,wZ]
     ·rfl
     ·rfl
    ·have e8:s.sum [h0,h1,h2,h3,h4,h5,h6,h7]=[bP h0 s.a,bP h1 s.b,bP h2 s.c,bP h3 s.d,bP h4 s.e,bP h5 s.f,bP h6 s.g,bP h7 s.h]:=rfl;intro n hn;have hc:n=8∨n=0∨n=1∨n=2∨n=3∨n=4∨n=5∨n=6∨n=7:=by omega
     rcases hc with rfl | rfl | rfl | rfl | rfl | rfl | rfl | rfl | rfl
     ·simp only[yB,wZ,sumTo,e8,cB.list,wx,aa,seval,iteOmega,toNatUp];exact lu (by simp only[wx,aa,seval,iteOmega,toNatUp])
     all_goals
       simp only[yB,wZ,sumTo,e8,cB.list,wx,wy,aa,seval,iteOmega,toNatUp]
       first | refine aM 1 (by decide) (by decide) ?_ | refine aM 2 (by decide) (by decide) ?_ | refine aM 3 (by decide) (by decide) ?_ | refine aM 4 (by decide) (by decide) ?_ | refine aM 5 (by decide) (by decide) ?_ | refine aM 6 (by decide) (by decide) ?_ | refine aM 7 (by decide) (by decide) ?_ | refine aM 8 (by decide) (by decide) ?_
       refine aj id ?_ ?_ rfl rfl <;> simp only[wx,ai,aa,seval,iteOmega,toNatUp,sumTo,e8,cB.list] <;> rfl
theorem Q5 {l:List UInt8} {i:Nat} (h:i<l.length):l[i]?=some (l.getD i 0):=by simp[h]
def CJ (h k:List UInt32) (b:List UInt8) (t:Nat):St:=⟨aQ [(0,.w (.c (.d (.sl (h.map wD))))),(1,.w (.c (.d (.sl (k.map wD))))),(2,.w (.c (.d (.sl (b.map bD))))),(7,.w (.c (.pa 1 1))),(8,.w (.c (.d (.int .i64 (t:Int)))))],
  hL [(1,.row 1 ((gS b t++List.replicate (64-t) 0).map wD))],uL [1]⟩
def CK (h k:List UInt32) (b:List UInt8) (n:Nat):St:=⟨aQ [(0,.w (.c (.d (.sl (h.map wD))))),(1,.w (.c (.d (.sl (k.map wD))))),(7,.w (.c (.pa 1 1))),(9,.w (.c (.d (.int .i64 ((16+n:Nat):Int)))))],
  hL [(1,.row 1 ((dS b n++List.replicate (48-n) 0).map wD))],uL [1]⟩
def w3 (h:List UInt32) (b:List UInt8) (s:cB) (n:Nat):St:=⟨aQ [(0,.w (.c (.d (.sl (h.map wD))))),(1,.w (.c (.d (.sl (bK.map wD))))),(7,.w (.c (.pa 1 1))),(12,.w (.c (.d (wD s.a)))),(13,.w (.c (.d (wD s.b)))),(14,.w (.c (.d (wD s.c)))),(15,.w (.c (.d (wD s.d)))),(16,.w (.c (.d (wD s.e)))),(17,.w (.c (.d (wD s.f)))),(18,.w (.c (.d (wD s.g)))),(19,.w (.c (.d (wD s.h)))),(20,.w (.c (.d (.int .i64 (n:Int)))))],
  hL [(1,.row 1 ((eI b).map wD))],uL [1]⟩
def tu (h:List UInt32) (b:List UInt8) (n:Nat):St:=w3 h b ((cB.of h).rounds bK (eI b) n) n
def yi:aN := .seq (.seq (.reg [oM 23 8,oO 24 (.bin .lss (.t 23) (kI 16))]) (.cond (.t 24) (.skip) (.exit 0))) (.seq (.block 1 (.reg [oM 27 8,oM 28 2,oM 29 8,oO 30 (.bin .mul (kI 4) (.t 29)),oO 31 (.idxSl 1 (.t 28) (.t 30)),oO 32 (.load .sc (.t 31)),oO 33 (.conv .u32 (.t 32)),oO 34 (.bin .shl (.t 33) (.k (.c (.d (.int .u64 24))))),oM 35 2,oM 36 8,oO 37 (.bin .mul (kI 4) (.t 36)),oO 38 (.bin .add (.t 37) (kI 1)),oO 39 (.idxSl 1 (.t 35) (.t 38)),oO 40 (.load .sc (.t 39)),oO 41 (.conv .u32 (.t 40)),oO 42 (.bin .shl (.t 41) (.k (.c (.d (.int .u64 16))))),oO 43 (.bin .or (.t 34) (.t 42)),oM 44 2,oM 45 8,oO 46 (.bin .mul (kI 4) (.t 45)),oO 47 (.bin .add (.t 46) (kI 2)),oO 48 (.idxSl 1 (.t 44) (.t 47)),oO 49 (.load .sc (.t 48)),oO 50 (.conv .u32 (.t 49)),oO 51 (.bin .shl (.t 50) (.k (.c (.d (.int .u64 8))))),
 oO 52 (.bin .or (.t 43) (.t 51)),oM 53 2,oM 54 8,oO 55 (.bin .mul (kI 4) (.t 54)),oO 56 (.bin .add (.t 55) (kI 3)),oO 57 (.idxSl 1 (.t 53) (.t 56)),oO 58 (.load .sc (.t 57)),oO 59 (.conv .u32 (.t 58)),oO 60 (.bin .or (.t 52) (.t 59)),oO 61 (.idxPa 1 64 (.t 7) (.t 27)),oN (.store .sc (.t 61) (.t 60))])) (.reg [oM 25 8,oO 26 (.bin .add (.t 25) (kI 1)),oM 8 26]))
def yj:aN := .seq (.seq (.reg [oM 62 9,oO 63 (.bin .lss (.t 62) (kI 64))]) (.cond (.t 63) (.skip) (.exit 2))) (.seq (.block 3 (.seq (.reg [oM 66 9,oO 67 (.bin .sub (.t 66) (kI 15)),oO 68 (.idxPa 1 64 (.t 7) (.t 67)),oO 69 (.load .sc (.t 68)),oM 70 9,oO 71 (.bin .sub (.t 70) (kI 2)),oO 72 (.idxPa 1 64 (.t 7) (.t 71)),oO 73 (.load .sc (.t 72)),oM 10 69,oM 11 73]) (.reg [oM 74 9,oM 75 11,oO 76 (.call 133 [(.t 75),(kI 17)] none),oM 77 11,oO 78 (.call 133 [(.t 77),(kI 19)] none),oO 79 (.bin .xor (.t 76) (.t 78)),oM 80 11,oO 81 (.bin .shr (.t 80) (.k (.c (.d (.int .u64 10))))),oO 82 (.bin .xor (.t 79) (.t 81)),oM 83 9,oO 84 (.bin .sub (.t 83) (kI 7)),oO 85 (.idxPa 1 64 (.t 7) (.t 84)),oO 86 (.load .sc (.t 85)),oO 87 (.bin .add (.t 82) (.t 86)),oM 88 10,oO 89 (.call 133 [(.t 88),(kI 7)] none),
 oM 90 10,oO 91 (.call 133 [(.t 90),(kI 18)] none),oO 92 (.bin .xor (.t 89) (.t 91)),oM 93 10,oO 94 (.bin .shr (.t 93) (.k (.c (.d (.int .u64 3))))),oO 95 (.bin .xor (.t 92) (.t 94)),oO 96 (.bin .add (.t 87) (.t 95)),oM 97 9,oO 98 (.bin .sub (.t 97) (kI 16)),oO 99 (.idxPa 1 64 (.t 7) (.t 98)),oO 100 (.load .sc (.t 99)),oO 101 (.bin .add (.t 96) (.t 100)),oO 102 (.idxPa 1 64 (.t 7) (.t 74)),oN (.store .sc (.t 102) (.t 101))]))) (.reg [oM 64 9,oO 65 (.bin .add (.t 64) (kI 1)),oM 9 65]))
def yk:aN := .seq (.seq (.reg [oM 127 20,oO 128 (.bin .lss (.t 127) (kI 64))]) (.cond (.t 128) (.skip) (.exit 4))) (.seq (.block 5 (.seq (.reg [oM 131 19,oM 132 16,oO 133 (.call 133 [(.t 132),(kI 6)] none),oM 134 16,oO 135 (.call 133 [(.t 134),(kI 11)] none),oO 136 (.bin .xor (.t 133) (.t 135)),oM 137 16,oO 138 (.call 133 [(.t 137),(kI 25)] none),oO 139 (.bin .xor (.t 136) (.t 138)),oO 140 (.bin .add (.t 131) (.t 139)),oM 141 16,oM 142 17,oO 143 (.bin .and (.t 141) (.t 142)),oM 144 16,oO 145 (.un .xor (.t 144)),oM 146 18,oO 147 (.bin .and (.t 145) (.t 146)),oO 148 (.bin .xor (.t 143) (.t 147)),oO 149 (.bin .add (.t 140) (.t 148)),oM 150 1,oM 151 20,oO 152 (.idxSl 1 (.t 150) (.t 151)),oO 153 (.load .sc (.t 152)),oO 154 (.bin .add (.t 149) (.t 153)),oM 155 20,oO 156 (.idxPa 1 64 (.t 7) (.t 155)),
 oO 157 (.load .sc (.t 156)),oO 158 (.bin .add (.t 154) (.t 157)),oM 21 158]) (.seq (.reg [oM 159 12,oO 160 (.call 133 [(.t 159),(kI 2)] none),oM 161 12,oO 162 (.call 133 [(.t 161),(kI 13)] none),oO 163 (.bin .xor (.t 160) (.t 162)),oM 164 12,oO 165 (.call 133 [(.t 164),(kI 22)] none),oO 166 (.bin .xor (.t 163) (.t 165)),oM 167 12,oM 168 13,oO 169 (.bin .and (.t 167) (.t 168)),oM 170 12,oM 171 14,oO 172 (.bin .and (.t 170) (.t 171)),oO 173 (.bin .xor (.t 169) (.t 172)),oM 174 13,oM 175 14,oO 176 (.bin .and (.t 174) (.t 175)),oO 177 (.bin .xor (.t 173) (.t 176)),oO 178 (.bin .add (.t 166) (.t 177)),oM 22 178]) (.reg [oM 179 21,oM 180 22,oO 181 (.bin .add (.t 179) (.t 180)),oM 182 12,oM 183 13,oM 184 14,oM 185 15,oM 186 21,oO 187 (.bin .add (.t 185) (.t 186)),oM 188 16,oM 189 17,oM 190 18,oM 12 181,
 oM 13 182,oM 14 183,oM 15 184,oM 16 187,oM 17 188,oM 18 189,oM 19 190])))) (.reg [oM 129 20,oO 130 (.bin .add (.t 129) (kI 1)),oM 20 130]))
def Ge:aH:=⟨3,232,.seq (.reg [oO 6 (.mv (.k (.c .nil)))]) (.seq (.reg [oO 7 (.allocArr [(.int .u32 0),(.int .u32 0),(.int .u32 0),(.int .u32 0),(.int .u32 0),(.int .u32 0),(.int .u32 0),(.int .u32 0),(.int .u32 0),(.int .u32 0),(.int .u32 0),(.int .u32 0),(.int .u32 0),(.int .u32 0),(.int .u32 0),(.int .u32 0),(.int .u32 0),(.int .u32 0),(.int .u32 0),(.int .u32 0),(.int .u32 0),(.int .u32 0),(.int .u32 0),(.int .u32 0),(.int .u32 0),(.int .u32 0),(.int .u32 0),(.int .u32 0),(.int .u32 0),(.int .u32 0),(.int .u32 0),(.int .u32 0),(.int .u32 0),(.int .u32 0),(.int .u32 0),(.int .u32 0),(.int .u32 0),(.int .u32 0),(.int .u32 0),(.int .u32 0),(.int .u32 0),(.int .u32 0),(.int .u32 0),(.int .u32 0),(.int .u32 0),(.int .u32 0),(.int .u32 0),(.int .u32 0),(.int .u32 0),(.int .u32 0),(.int .u32 0),(.int .u32 0),(.int .u32 0),(.int .u32 0),(.int .u32 0),(.int .u32 0),(.int .u32 0),(.int .u32 0),(.int .u32 0),(.int .u32 0),(.int .u32 0),(.int .u32 0),(.int .u32 0),(.int .u32 0)])])
 (.seq (.seq (.reg [oO 8 (.mv (kI 0))]) (.block 0 (.loop yi))) (.seq (.seq (.reg [oO 9 (.mv (kI 16))]) (.block 2 (.loop yj))) (.seq (.reg [oM 103 0,oO 104 (.idxSl 1 (.t 103) (kI 0)),oO 105 (.load .sc (.t 104)),oM 106 0,oO 107 (.idxSl 1 (.t 106) (kI 1)),oO 108 (.load .sc (.t 107)),oM 109 0,oO 110 (.idxSl 1 (.t 109) (kI 2)),oO 111 (.load .sc (.t 110)),oM 112 0,oO 113 (.idxSl 1 (.t 112) (kI 3)),oO 114 (.load .sc (.t 113)),oM 115 0,oO 116 (.idxSl 1 (.t 115) (kI 4)),oO 117 (.load .sc (.t 116)),oM 118 0,oO 119 (.idxSl 1 (.t 118) (kI 5)),oO 120 (.load .sc (.t 119)),oM 121 0,oO 122 (.idxSl 1 (.t 121) (kI 6)),oO 123 (.load .sc (.t 122)),oM 124 0,oO 125 (.idxSl 1 (.t 124) (kI 7)),oO 126 (.load .sc (.t 125)),oM 12 105,oM 13 108,oM 14 111,oM 15 114,oM 16 117,oM 17 120,oM 18 123,oM 19 126])
 (.seq (.seq (.reg [oO 20 (.mv (kI 0))]) (.block 4 (.loop yk))) (.seq (.reg [oM 191 0,oO 192 (.idxSl 1 (.t 191) (kI 0)),oO 193 (.load .sc (.t 192)),oM 194 12,oO 195 (.bin .add (.t 193) (.t 194)),oM 196 0,oO 197 (.idxSl 1 (.t 196) (kI 1)),oO 198 (.load .sc (.t 197)),oM 199 13,oO 200 (.bin .add (.t 198) (.t 199)),oM 201 0,oO 202 (.idxSl 1 (.t 201) (kI 2)),oO 203 (.load .sc (.t 202)),oM 204 14,oO 205 (.bin .add (.t 203) (.t 204)),oM 206 0,oO 207 (.idxSl 1 (.t 206) (kI 3)),oO 208 (.load .sc (.t 207)),oM 209 15,oO 210 (.bin .add (.t 208) (.t 209)),oM 211 0,oO 212 (.idxSl 1 (.t 211) (kI 4)),oO 213 (.load .sc (.t 212)),oM 214 16,oO 215 (.bin .add (.t 213) (.t 214)),oM 216 0,oO 217 (.idxSl 1 (.t 216) (kI 5)),oO 218 (.load .sc (.t 217)),oM 219 17,oO 220 (.bin .add (.t 218) (.t 219)),oM 221 0,
 oO 222 (.idxSl 1 (.t 221) (kI 6)),oO 223 (.load .sc (.t 222)),oM 224 18,oO 225 (.bin .add (.t 223) (.t 224)),oM 226 0,oO 227 (.idxSl 1 (.t 226) (kI 7)),oO 228 (.load .sc (.t 227)),oM 229 19,oO 230 (.bin .add (.t 228) (.t 229)),oO 231 (.bldSl true 8 1 (.int .u32 0) [(0,(.t 195)),(1,(.t 200)),(2,(.t 205)),(3,(.t 210)),(4,(.t 215)),(5,(.t 220)),(6,(.t 225)),(7,(.t 230))]),oM 6 231]) (.ret))))))),[(6,none)]⟩
theorem Sm:aG Tryz.prog { own:=[231],comp:=[],frz:=[],nils:=[] } Tryz.f119=some Ge:=by kernel_rfl
theorem II (G:ah) (h:List UInt32) (b:List UInt8) (hh:h.length=8) (hb:b.length=64):aw Tryz.prog G 119 [.sl (h.map wD),.sl (bK.map wD),.sl (b.map bD)] (.w (.c (.fr 1 ((ot h b).map wD)))):=by
  refine aI Tryz.func119 Sm rfl rfl ?_;have hsl:(eI b).length=64:=o7 b 48;have hcl:bK.length=64:=EO;simp only[Ge,af,wx,aa,seval,iteOmega,toNatUp];refine aU (CJ h bK b) (fun t=>16-t) (fun t=>t≤16) 0 (abc _) ?_ ?_
  ·refine aj (fun _=>56) ?_ ?_ rfl rfl <;> simp only[wx,ai,aa,seval,iteOmega,toNatUp];rfl
  ·intro t ht;by_cases hlt:t<16
   ·have e0:IntKind.i64.wrap (4*(t:Int))=((4*t:Nat):Int):=by rw[IntWalk.i64_in _ (by omega)]; omega
    have e1:IntKind.i64.wrap (((4*t:Nat):Int)+1)=((4*t+1:Nat):Int):=by rw[IntWalk.i64_in _ (by omega)]; omega
    have e2:IntKind.i64.wrap (((4*t:Nat):Int)+2)=((4*t+2:Nat):Int):=by rw[IntWalk.i64_in _ (by omega)]; omega
    have e3:IntKind.i64.wrap (((4*t:Nat):Int)+3)=((4*t+3:Nat):Int):=by rw[IntWalk.i64_in _ (by omega)]; omega
    have e4:IntKind.i64.wrap ((t:Int)+1)=((t+1:Nat):Int):=by rw[IntWalk.i64_in _ (by omega)]; omega
    have g:∀ k,k<64→(b.map bD)[k]?=some (bD (b.getD k 0)):=fun k hk=>by rw[aC,Q5 (by omega)]; rfl
    have g0:=g (4*t) (by omega);have g1:=g (4*t+1) (by omega);have g2:=g (4*t+2) (by omega);have g3:=g (4*t+3) (by omega);have h1:t<(gS b t++List.replicate (64-t) 0).length:=by rw[aba,qT,abC]; omega
    have h2:=rD (gS b t) 0 (lZ b t) (64-t) (by omega);rw[qT] at h2;have h3:gS b t++[lZ b t]=gS b (t+1):=by simp[gS,acJ]
    have h4:64-t-1=64-(t+1):=by omega
    rw[h3,h4] at h2;simp only[lZ] at h2;have m24:min (24:Int).toNat 32=24:=by decide
    have m16:min (16:Int).toNat 32=16:=by decide
    have m8:min (8:Int).toNat 32=8:=by decide
    simp only[yi,CJ,wx,aa,seval,iteOmega,toNatUp,e0,e1,e2,e3,e4,g0,g1,g2,g3,ab5,vV h1 (qa _),vW,h2];refine aM (t+1) (by omega) (by omega) (aj id ?_ ?_ rfl rfl) <;> simp only[wx,ai,aa,seval,iteOmega,toNatUp]
   ·obtain rfl:t=16:=by omega
    simp only[yi,CJ,wx,aa,seval,iteOmega,toNatUp];refine aU (CK h bK b) (fun n=>48-n) (fun n=>n≤48) 0 (abc _) ?_ ?_
    ·have h0:gS b 16=dS b 0:=rfl;refine aj id ?_ ?_ rfl rfl <;> simp only[wx,ai,aa,seval,iteOmega,toNatUp,h0]
    ·intro n hn;by_cases hlt:n<48
     ·have hl:=o7 b n;have w1:∀ k:Nat,k≤16→IntKind.i64.wrap (((16+n:Nat):Int)-(k:Int))=((16+n-k:Nat):Int):=fun k hk=>by rw[IntWalk.i64_in _ (by omega)]; omega
      have e15:IntKind.i64.wrap (((16+n:Nat):Int)-15)=((16+n-15:Nat):Int):=w1 15 (by decide);have e2:IntKind.i64.wrap (((16+n:Nat):Int)-2)=((16+n-2:Nat):Int):=w1 2 (by decide);have e7:IntKind.i64.wrap (((16+n:Nat):Int)-7)=((16+n-7:Nat):Int):=w1 7 (by decide);have e16:IntKind.i64.wrap (((16+n:Nat):Int)-16)=((16+n-16:Nat):Int):=w1 16 (by decide);have e0:IntKind.i64.wrap (((16+n:Nat):Int)+1)=((16+(n+1):Nat):Int):=by rw[IntWalk.i64_in _ (by omega)]; omega
      have g:∀ k,k<16+n→((dS b n++List.replicate (48-n) 0).map wD)[k]?=some (wD ((dS b n).getD k 0)):=fun k hk=>by
        rw[abX,Ng (by omega)]; rfl
      have g15:=g (16+n-15) (by omega);have g2:=g (16+n-2) (by omega);have g7:=g (16+n-7) (by omega);have g16:=g (16+n-16) (by omega);simp only[yj,CK,wx,aa,seval,iteOmega,toNatUp,e15,e2,e7,e16,e0,g15,g2,g7,g16];refine aW (lg G _ 17 (by decide) (by decide)) rfl (.inr rfl) ?_;simp only[wx,aa,seval,iteOmega,toNatUp];refine aW (lg G _ 19 (by decide) (by decide)) rfl (.inr rfl) ?_;simp only[wx,aa,seval,iteOmega,toNatUp,e15,e2,e7,e16,e0,g15,g2,g7,g16];refine aW (lg G _ 7 (by decide) (by decide)) rfl (.inr rfl) ?_;simp only[wx,aa,seval,iteOmega,toNatUp];refine aW (lg G _ 18 (by decide) (by decide)) rfl (.inr rfl) ?_;have h1:16+n<(dS b n++List.replicate (48-n) 0).length:=by rw[aba,hl,abC]; omega
      have h2:=rD (dS b n) 0 (oB (dS b n) (16+n)) (48-n) (by omega);rw[hl] at h2;have h4:48-n-1=48-(n+1):=by omega
      have h3:dS b n++[oB (dS b n) (16+n)]=dS b (n+1):=rfl;rw[h3,h4] at h2;simp only[oB,BF,BG] at h2;simp only[wx,aa,seval,iteOmega,toNatUp,e15,e2,e7,e16,e0,g15,g2,g7,g16,vV h1 (qa _),vW,h2];refine aM (n+1) (by omega) (by omega) (aj id ?_ ?_ rfl rfl) <;> simp only[wx,ai,aa,seval,iteOmega,toNatUp]
     ·have hn48:n=48:=by omega
      have h0:48-n=0:=by omega
      obtain⟨h0',h1,h2,h3,h4,h5,h6,h7,rfl⟩:=eight hh;simp only[yj,CK,wx,aa,seval,iteOmega,toNatUp,h0,abm,acv,← IF b n hn48];refine aU (tu [h0',h1,h2,h3,h4,h5,h6,h7] b) (fun n=>64-n) (fun n=>n≤64) 0 (abc _) ?_ ?_
      ·refine aj id ?_ ?_ rfl rfl <;> simp only[tu,w3,wx,ai,aa,seval,iteOmega,toNatUp];exact⟨rfl,rfl,rfl,rfl,rfl,rfl,rfl,rfl⟩
      ·clear hn hlt hn48 h0;intro n hn;by_cases hlt:n<64
       ·have e1:IntKind.i64.wrap ((n:Int)+1)=((n+1:Nat):Int):=by rw[IntWalk.i64_in _ (by omega)]; rfl
        have g1:(bK.map wD)[n]?=some (wD (bK.getD n 0)):=by rw[aC,getD_some (by omega)]; rfl
        have g2:((eI b).map wD)[n]?=some (wD ((eI b).getD n 0)):=by rw[aC,getD_some (by omega)]; rfl
        have hr:(cB.of [h0',h1,h2,h3,h4,h5,h6,h7]).rounds bK (eI b) (n+1)=((cB.of [h0',h1,h2,h3,h4,h5,h6,h7]).rounds bK (eI b) n).step (bK.getD n 0) ((eI b).getD n 0):=rfl;generalize hs:(cB.of [h0',h1,h2,h3,h4,h5,h6,h7]).rounds bK (eI b) n=s at hr;simp only[yk,tu,w3,hs,wx,aa,seval,iteOmega,toNatUp,hcl,hsl,g1,g2,e1];refine aW (lg G _ 6 (by decide) (by decide)) rfl (.inr rfl) ?_;simp only[wx,aa,seval,iteOmega,toNatUp];refine aW (lg G _ 11 (by decide) (by decide)) rfl (.inr rfl) ?_;simp only[wx,aa,seval,iteOmega,toNatUp];refine aW (lg G _ 25 (by decide) (by decide)) rfl (.inr rfl) ?_;simp only[wx,aa,seval,iteOmega,toNatUp,g1,g2,hcl,hsl];refine aW (lg G _ 2 (by decide) (by decide)) rfl (.inr rfl) ?_;simp only[wx,aa,seval,iteOmega,toNatUp];refine aW (lg G _ 13 (by decide) (by decide)) rfl (.inr rfl) ?_;simp only[wx,aa,seval,iteOmega,toNatUp];refine aW (lg G _ 22 (by decide) (by decide)) rfl (.inr rfl) ?_;simp only[wx,aa,seval,iteOmega,toNatUp,e1];refine aM (n+1) (by omega) (by omega) ?_;rw[tu,hr];refine (aj id ?_ ?_ rfl rfl) <;> simp only[wx,ai,aa,seval,iteOmega,toNatUp,Nh,Ni,Nj,Nk,Nl,Nm,Nn,Np];exact⟨rfl,rfl⟩
       ·obtain rfl:n=64:=by omega
        have hK:ot [h0',h1,h2,h3,h4,h5,h6,h7] b=((cB.of [h0',h1,h2,h3,h4,h5,h6,h7]).rounds bK (eI b) 64).sum [h0',h1,h2,h3,h4,h5,h6,h7]:=rfl;rw[hK];simp only[tu];generalize (cB.of [h0',h1,h2,h3,h4,h5,h6,h7]).rounds bK (eI b) 64=s;have e8:s.sum [h0',h1,h2,h3,h4,h5,h6,h7]=[bP h0' s.a,bP h1 s.b,bP h2 s.c,bP h3 s.d,bP h4 s.e,bP h5 s.f,bP h6 s.g,bP h7 s.h]:=rfl;simp only[yk,w3,e8,wx,aa,seval,iteOmega,toNatUp];exact dE (id:=1848) (n:=8) (s:=1) (by simp only[wx,aa,seval,iteOmega,toNatUp]) (by simp only[wx,aa,seval,iteOmega,toNatUp] <;> rfl) rfl
def ej (h:List UInt32) (b:List UInt8):Nat→List UInt32
  | 0=>h
  | n+1=>ot (ej h b n) ((b.drop (64*n)).take 64)
theorem nR {h:List UInt32} (hh:h.length=8) (b:List UInt8):∀ n,(ej h b n).length=8
  | 0=>hh
  | n+1=>EP _ _
def ga (rest:List UInt8) (count:Nat):List UInt8:=rest++[128]++List.replicate ((119-rest.length)%64) 0++aV (count*8) 8
def gW (ws:List UInt32):List UInt8:=ws.flatMap fun w=>aV w.toNat 4
def lC (s:List UInt32) (rest:List UInt8) (count:Nat):List UInt8:=gW (ej s (ga rest count) ((ga rest count).length / 64))
def cC (b:List UInt8):List UInt8:=lC (ej dR b (b.length / 64)) (b.drop (64*(b.length / 64))) b.length
theorem tO:∀ ws:List UInt32,(gW ws).length=4*ws.length
  | []=>rfl
  | w::ws=>by
    have:gW (w::ws)=aV w.toNat 4++gW ws:=rfl;rw[this,aba,bU,tO ws,acj]; omega
theorem T8 {s:List UInt32} (hs:s.length=8) (rest:List UInt8) (count:Nat):(lC s rest count).length=32:=by
  unfold lC;rw[tO,nR hs]
theorem ie (b:List UInt8):(cC b).length=32:=T8 (nR qV _ _) _ _
theorem Sn (n:Nat):aV 0 n=List.replicate n 0:=by
  unfold aV;apply acf;intro i;simp only[abX,acX,acC];by_cases h:i<n
  ·simp[h,acC]
  ·simp[h,acC]
theorem IJ (rest:List UInt8) (count:Nat) (h:rest.length<64):(ga rest count).length=rest.length+9+(119-rest.length)%64∧(ga rest count).length%64=0:=by
  have:(ga rest count).length=rest.length+9+(119-rest.length)%64:=by simp[ga,bU]; omega
  exact⟨this,by omega⟩
theorem Er (ws:List UInt32) (k:Nat) (h:k<ws.length):gW (ws.take k)++aV (ws.getD k 0).toNat 4=gW (ws.take (k+1)):=by
  rw[acm h];unfold gW;rw[acB];simp[h]
theorem Sp {ws:List UInt32} {k:Nat} (h:k<ws.length):((ws.map wD).map C.d)[k]?=some (.d (wD (ws.getD k 0))):=by
  simp[h]
theorem Qm (b:List UInt8) (n:Nat):(b.drop (64*n)).drop 64=b.drop (64*(n+1)):=by rw[adf,Nat.mul_succ]
def w5 (s:List UInt32) (b:List UInt8) (n:Nat):St:=⟨aQ [(1,.w (.c (.d (.sl ((b.drop (64*n)).map bD))))),(2,.w (.c (.pa 1 1))),(4,.w (.c (.pa 2 1))),(5,.w (.c .nil))],hL [(1,.row 1 ((ej s b n).map wD)),(2,.row 1 ((List.replicate 8 (0:UInt32)).map wD))],uL [1,2]⟩
def ym:aN := .seq (.seq (.reg [oM 6 1,oO 7 (.len (.t 6)),oO 8 (.bin .geq (.t 7) (kI 64))]) (.cond (.t 8) (.skip) (.exit 0))) (.block 1 (.seq (.reg [oO 9 (.load (.ag 8) (.t 2)),oM 10 1,oO 11 (.slice 1 (.t 10) none (some (kI 64)) none),oO 12 (.call 173 [(.t 9),(.t 11)] none),oN (.store (.ag 8) (.t 2) (.t 12))]) (.reg [oM 13 1,oO 14 (.slice 1 (.t 13) (some (kI 64)) none none),oM 1 14])))
def Gf:aH:=⟨2,17,.seq (.reg [oO 2 (.box .ownArr (.t 0)),oO 4 (.allocArr [(.int .u32 0),(.int .u32 0),(.int .u32 0),(.int .u32 0),(.int .u32 0),(.int .u32 0),(.int .u32 0),(.int .u32 0)]),oO 5 (.mv (.k (.c .nil)))]) (.seq (.block 0 (.loop ym)) (.seq (.reg [oO 15 (.load (.ag 8) (.t 2)),oM 16 1,oN (.store (.ag 8) (.t 4) (.t 15)),oM 5 16]) (.ret))),[(4,(some (.ag 8))),(5,none)]⟩
theorem Sq:aG Tryz.prog { own:=[2],comp:=[],frz:=[],nils:=[] } Tryz.f155=some Gf:=by kernel_rfl
theorem IK (G:ah) (hG:G.at 1=some (.ra (bK.map wD))) (s:List UInt32) (b:List UInt8) (hs:s.length=8) (hb:b.length≤140737488355328):aw Tryz.prog G 155 [.agg (s.map wD),.sl (b.map bD)] (.tup [.c (.d (.agg ((ej s b (b.length / 64)).map wD))),.c (.d (.sl ((b.drop (64*(b.length / 64))).map bD)))]):=by
  refine aI Tryz.func155 Sq rfl rfl ?_;simp only[Gf,af,wx,aa,seval,iteOmega,toNatUp];refine aU (w5 s b) (fun n=>b.length / 64-n) (fun n=>n≤b.length / 64) 0 (abc _) ?_ ?_
  ·refine aj (fun i=>match i with | 1=>16 | _=>32) ?_ ?_ rfl rfl <;> simp only[wx,ai,aa,seval,iteOmega,toNatUp,w5,ej];rfl
  ·intro n hn;have hl:=nR hs b n;by_cases hlt:n<b.length / 64
   ·have h1:(64:Int)≤((b.drop (64*n)).length:Int):=by rw[abi]; omega
    have h2:((b.drop (64*n)).take 64).length=64:=by rw[abg,abi]; omega
    have e1:=Qm b n;simp only[ym,w5,wx,aa,seval,iteOmega,toNatUp,hl,h1];refine aW (Wb G hG (ej s b n) ((b.drop (64*n)).take 64) hl h2) rfl (.inl rfl) ?_;have e2:(ot (ej s b n) ((b.drop (64*n)).take 64)).length=8:=EP _ _;have e3:(b.drop (64*n)).length-64=((b.drop (64*(n+1)))).length:=by rw[abi,abi]; omega
    simp only[wx,aa,seval,iteOmega,toNatUp,hl,e2,e1,e3];refine aM (n+1) (by omega) (by omega) (aj id ?_ ?_ rfl rfl) <;> simp only[wx,ai,aa,seval,iteOmega,toNatUp,ej]
   ·obtain rfl:n=b.length / 64:=by omega
    have h1:¬ (64:Int)≤((b.drop (64*(b.length / 64))).length:Int):=by rw[abi]; omega
    simp only[ym,w5,wx,aa,seval,iteOmega,toNatUp,hl,h1];exact kA (by simp only[wx,aa,seval,iteOmega,toNatUp,hl]) (by simp only[wx,aa,seval,iteOmega,toNatUp])
def CL (ws:List UInt32) (k:Nat):St:=⟨aQ [(9,.w (.c (.own 1 1 0 (gW (ws.take k)).length))),(36,.w (.c (.d (.agg (ws.map wD))))),(37,.w (.c (.d (.int .i64 (k:Int)))))],hL [(1,.row 1 ((gW (ws.take k)).map bD))],uL [1]⟩
def z0:aN := .seq (.reg [oO 38 (.bin .lss (.t 37) (kI 8))]) (.seq (.cond (.t 38) (.skip) (.exit 0)) (.seq (.block 1 (.seq (.reg [oO 39 (.idxArr 1 8 .sc (.t 36) (.t 37)),oM 11 39]) (.reg [oM 40 9,oM 41 11,oO 42 (.conv .u64 (.t 41)),oO 43 (.call 91 [(.t 42),(kI 4)] none),oO 44 (.app false 1 1 (.t 40) (.t 43)),oM 9 44]))) (.reg [oO 45 (.bin .add (.t 37) (kI 1)),oM 37 45])))
def Nq:aH:=⟨3,47,.seq (.reg [oO 3 (.box .ownArr (.t 0)),oO 6 (.mv (.k (.c .nil)))]) (.seq (.reg [oO 12 (.bldSl false 1 1 (.int .u8 0) [(0,(.k (.c (.d (.int .u8 128)))))]),oM 7 12]) (.seq (.reg [oM 13 7,oO 14 (.len (.t 13)),oO 15 (.bin .sub (kI 120) (.t 14)),oM 16 1,oO 17 (.len (.t 16)),oO 18 (.bin .sub (.t 15) (.t 17)),oO 19 (.bin .rem (.t 18) (kI 64)),oM 8 19]) (.seq (.reg [oO 21 (.load (.ag 8) (.t 3)),oM 22 1,oM 23 7,oM 24 8,oO 25 (.call 91 [(.k (.c (.d (.int .u64 0)))),(.t 24)] none),oM 26 2,oO 27 (.conv .u64 (.t 26)),oO 28 (.bin .mul (.t 27) (.k (.c (.d (.int .u64 8))))),oO 29 (.call 91 [(.t 28),(kI 8)] none),oO 30 (.bldSl false 4 1 (.sl []) [(0,(.t 22)),(1,(.t 23)),(2,(.t 25)),(3,(.t 29))]),oO 31 (.call 90 [(.t 30)] none),oO 32 (.call 155 [(.t 21),(.t 31)] none),oM 20 32,oO 33 (.extract (.t 20) 0),
 oO 34 (.extract (.t 20) 1),oN (.store (.ag 8) (.t 3) (.t 33))]) (.seq (.reg [oO 35 (.make true 1 1 (.int .u8 0) (kI 0) (kI 32)),oM 9 35]) (.seq (.seq (.reg [oO 36 (.load (.ag 8) (.t 3)),oO 37 (.mv (kI 0))]) (.block 0 (.loop z0))) (.seq (.reg [oM 46 9,oM 6 46]) (.ret))))))),[(6,none)]⟩
theorem Yn:aG Tryz.prog { own:=[3],comp:=[],frz:=[],nils:=[] } Tryz.f156=some Nq:=by kernel_rfl
theorem aaj (G:ah) (hG:G.at 1=some (.ra (bK.map wD))) (s:List UInt32) (rest:List UInt8) (count:Nat) (hs:s.length=8) (hr:rest.length<64) (hc:count≤140737488355328):aw Tryz.prog G 156 [.agg (s.map wD),.sl (rest.map bD),.int .i64 (count:Int)] (.w (.c (.fr 1 ((lC s rest count).map bD)))):=by
  refine aI Tryz.func156 Yn rfl rfl ?_;have e3:(119-(rest.length:Int)).tmod 64=(((119-rest.length)%64:Nat):Int):=by
    rw[show (119-(rest.length:Int))=((119-rest.length:Nat):Int) by omega]; rfl
  simp only[Nq,af,ae,aa,seval,iteOmega,toNatUp,hs,e3];have hz:(119-rest.length)%64≤64:=by omega
  refine aW (na G 0 ((119-rest.length)%64) hz) rfl (.inl rfl) ?_;simp only[ae,aa,seval,iteOmega,toNatUp];refine aW (na G (count*8) 8 (by decide)) ?_ (.inl rfl) ?_
  ·simp only[ae,aa,seval,iteOmega,toNatUp]
  obtain⟨hp1,hp2⟩:=IJ rest count hr;have hp:[rest,[128],aV 0 ((119-rest.length)%64),aV (count*8) 8].flatten=ga rest count:=by
    rw[Sn]; simp[ga]
  have hj:=gV G [rest,[128],aV 0 ((119-rest.length)%64),aV (count*8) 8] (by simp) (by rw[hp,hp1]; omega);rw[hp] at hj;simp only[ae,aa,seval,iteOmega,toNatUp];refine aW hj rfl (.inl rfl) ?_;simp only[ae,aa,seval,iteOmega,toNatUp];refine aW (IK G hG s (ga rest count) hs (by rw[hp1]; omega)) rfl (.inl rfl) ?_;have hw:(ej s (ga rest count) ((ga rest count).length / 64)).length=8:=nR hs _ _;have hf:lC s rest count=gW (ej s (ga rest count) ((ga rest count).length / 64)):=rfl;rw[hf];generalize ej s (ga rest count) ((ga rest count).length / 64)=ws at hw;simp only[ae,aa,seval,iteOmega,toNatUp,hs,hw];refine aU (CL ws) (fun k=>8-k) (fun k=>k≤8) 0 (abc _) ?_ ?_
  ·refine aj (fun _=>280) ?_ ?_ rfl rfl <;> simp only[wx,ai,am,aa,seval,iteOmega,toNatUp,gW]
  ·intro k hk;by_cases hlt:k<8
   ·have hw1:(ws.getD k 0).toNat<4294967296:=word_lt _;have hwl:=tO (ws.take k);rw[abg] at hwl;simp only[z0,CL,ae,aa,seval,iteOmega,toNatUp,Sp (show k<ws.length by omega)];refine aW (na G (ws.getD k 0).toNat 4 (by decide)) ?_ (.inl rfl) ?_
    ·simp only[ae,aa,seval,iteOmega,toNatUp]
    simp only[ae,aa,seval,iteOmega,toNatUp,a7,Er ws k (by omega),bU];refine aM (k+1) (by omega) (by omega) (aj (fun _=>352) ?_ ?_ rfl rfl) <;> simp only[wx,ai,am,aa,seval,iteOmega,toNatUp]
   ·obtain rfl:k=8:=by omega
    have:ws.take 8=ws:=aa9 (by omega);simp only[z0,CL,ae,aa,seval,iteOmega,toNatUp,this];exact dE (id:=1) (n:=(gW ws).length) (s:=1) (by simp only[wx,aa,seval,iteOmega,toNatUp]) (by simp only[wx,aa,seval,iteOmega,toNatUp]) (by rw[abh])
def Nr:aH:=⟨1,16,.seq (.reg [oO 2 (.mv (.k (.c .nil)))]) (.seq (.reg [oO 6 (.load (.ag 8) (.g 0)),oM 7 0,oO 8 (.call 155 [(.t 6),(.t 7)] none),oM 5 8,oO 9 (.extract (.t 5) 0),oO 10 (.extract (.t 5) 1),oO 3 (.allocArr [(.int .u32 0),(.int .u32 0),(.int .u32 0),(.int .u32 0),(.int .u32 0),(.int .u32 0),(.int .u32 0),(.int .u32 0)]),oN (.store (.ag 8) (.t 3) (.t 9)),oM 4 10]) (.seq (.reg [oO 11 (.load (.ag 8) (.t 3)),oM 12 4,oM 13 0,oO 14 (.len (.t 13)),oO 15 (.call 156 [(.t 11),(.t 12),(.t 14)] (some (0,1))),oM 2 15]) (.ret))),[(2,none)]⟩
theorem Yo:aG Tryz.prog { own:=[15],comp:=[],frz:=[],nils:=[] } Tryz.f141=some Nr:=by kernel_rfl
theorem w6 (G:ah) (hF:G.at 0=some (.ra (dR.map wD))) (hG:G.at 1=some (.ra (bK.map wD))) (b:List UInt8) (hb:b.length≤140737488355328):aw Tryz.prog G 141 [.sl (b.map bD)] (.w (.c (.fr 1 ((cC b).map bD)))):=by
  refine aI Tryz.func141 Yo rfl rfl ?_;have eg:=@PV G 0 _ hF;have hl:(ej dR b (b.length / 64)).length=8:=nR qV _ _;have h8:dR.length=8:=qV;simp only[Nr,af,ae,aa,seval,iteOmega,toNatUp,eg,h8];refine aW (IK G hG dR b qV hb) rfl (.inl rfl) ?_;simp only[ae,aa,seval,iteOmega,toNatUp,hl];refine aW (aaj G hG _ (b.drop (64*(b.length / 64))) b.length hl (by rw[abi]; omega) hb) ?_ (.inl rfl) ?_
  ·simp only[ae,aa,seval,iteOmega,toNatUp]
  simp only[ae,aa,seval,iteOmega,toNatUp];exact dE (id:=120) (n:=(lC (ej dR b (b.length / 64)) (b.drop (64*(b.length / 64))) b.length).length) (s:=1) (by simp only[wx,aa,seval,iteOmega,toNatUp]) (by simp only[wx,aa,seval,iteOmega,toNatUp] <;> rfl) (by rw[abh]; rfl)
theorem T9 {α:Type} (a:α) (j:Nat):List.replicate j a++[a]=List.replicate (j+1) a:=by rw[List.replicate_succ']
def CM (h:List UInt32) (rest:List UInt8) (count:Nat) (j:Nat):St:=⟨aQ [(0,.w (.c (.d (.sl (h.map wD))))),(2,.w (.c (.d (.int .i64 (count:Int))))),(7,.w (.c (.d (.sl (bK.map wD))))),(8,.w (.c (.own 1 1 0 (rest++[128]++List.replicate j 0).length)))],hL [(1,.row 1 ((rest++[128]++List.replicate j 0).map bD))],uL [1]⟩
def CN (h:List UInt32) (p:List UInt8) (n:Nat):St:=⟨aQ [(0,.w (.c (.d (.sl ((ej h p n).map wD))))),(7,.w (.c (.d (.sl (bK.map wD))))),(8,.w (.c (.own 1 1 0 p.length))),(9,.w (.c (.d (.int .i64 ((64*n:Nat):Int)))))],hL [(1,.row 1 (p.map bD))],uL [1]⟩
def CO (ws:List UInt32) (k:Nat):St:=⟨aQ [(0,.w (.c (.d (.sl (ws.map wD))))),(10,.w (.c (.own 1 1 0 (gW (ws.take k)).length))),(11,.w (.c (.d (.int .i64 (k:Int)))))],hL [(1,.row 1 ((gW (ws.take k)).map bD))],uL [1]⟩
theorem Yp {ws:List UInt32} {k:Nat} (h:k<ws.length):(ws.map wD)[k]?=some (wD (ws.getD k 0)):=by
  simp[h]
theorem aak:D.int .u8 0=bD 0:=rfl
theorem Wc:D.int .u8 128=bD 128:=rfl
theorem OW (l:List UInt8) (a:UInt8):l.map bD++[bD a]=(l++[a]).map bD:=by simp
def zg:aN := .seq (.seq (.reg [oM 18 8,oO 19 (.len (.t 18)),oO 20 (.bin .rem (.t 19) (kI 64)),oO 21 (.bin .neq (.t 20) (kI 56))]) (.cond (.t 21) (.skip) (.exit 0))) (.block 1 (.reg [oM 22 8,oO 23 (.bldSl false 1 1 (.int .u8 0) [(0,(.k (.c (.d (.int .u8 0)))))]),oO 24 (.app false 1 1 (.t 22) (.t 23)),oM 8 24]))
def zh:aN := .seq (.seq (.reg [oM 31 9,oM 32 8,oO 33 (.len (.t 32)),oO 34 (.bin .lss (.t 31) (.t 33))]) (.cond (.t 34) (.skip) (.exit 2))) (.seq (.block 3 (.reg [oM 37 0,oM 38 7,oM 39 8,oM 40 9,oM 41 9,oO 42 (.bin .add (.t 41) (kI 64)),oO 43 (.slice 1 (.t 39) (some (.t 40)) (some (.t 42)) none),oO 44 (.call 119 [(.t 37),(.t 38),(.t 43)] none),oM 0 44])) (.reg [oM 35 9,oO 36 (.bin .add (.t 35) (kI 64)),oM 9 36]))
def zi:aN := .seq (.seq (.reg [oM 46 11,oO 47 (.bin .lss (.t 46) (kI 8))]) (.cond (.t 47) (.skip) (.exit 4))) (.seq (.block 5 (.reg [oM 50 10,oM 51 0,oM 52 11,oO 53 (.idxSl 1 (.t 51) (.t 52)),oO 54 (.load .sc (.t 53)),oO 55 (.conv .u64 (.t 54)),oO 56 (.call 44 [(.t 55),(kI 4)] none),oO 57 (.app false 1 1 (.t 50) (.t 56)),oM 10 57])) (.reg [oM 48 11,oO 49 (.bin .add (.t 48) (kI 1)),oM 11 49]))
def K9:aH:=⟨3,59,.seq (.reg [oO 6 (.mv (.k (.c .nil)))]) (.seq (.reg [oO 12 (.call 118 [] none),oM 7 12]) (.seq (.reg [oM 13 1,oO 14 (.bldSl false 1 1 (.sl []) [(0,(.t 13))]),oO 15 (.call 43 [(.t 14)] (some (0,1))),oO 16 (.bldSl false 1 1 (.int .u8 0) [(0,(.k (.c (.d (.int .u8 128)))))]),oO 17 (.app false 1 1 (.t 15) (.t 16)),oM 8 17]) (.seq (.block 0 (.loop zg)) (.seq (.reg [oM 25 8,oM 26 2,oO 27 (.conv .u64 (.t 26)),oO 28 (.bin .mul (.t 27) (.k (.c (.d (.int .u64 8))))),oO 29 (.call 44 [(.t 28),(kI 8)] none),oO 30 (.app false 1 1 (.t 25) (.t 29)),oM 8 30]) (.seq (.seq (.reg [oO 9 (.mv (kI 0))]) (.block 2 (.loop zh))) (.seq (.reg [oO 45 (.bldSl true 0 1 (.int .u8 0) []),oM 10 45]) (.seq (.seq (.reg [oO 11 (.mv (kI 0))]) (.block 4 (.loop zi))) (.seq (.reg [oM 58 10,
 oM 6 58]) (.ret))))))))),[(6,none)]⟩
theorem Wd:aG Tryz.prog { own:=[15,45],comp:=[],frz:=[],nils:=[] } Tryz.f120=some K9:=by kernel_rfl
theorem Yq (G:ah) (s:List UInt32) (rest:List UInt8) (count:Nat) (hs:s.length=8) (hr:rest.length<64) (hc:count≤140737488355328):aw Tryz.prog G 120 [.sl (s.map wD),.sl (rest.map bD),.int .i64 (count:Int)] (.w (.c (.fr 1 ((lC s rest count).map bD)))):=by
  refine aI Tryz.func120 Wd rfl rfl ?_;have hj:=fQ G [rest] (by simp) (by simp; omega);have hf:[rest].flatten=rest:=by simp
  rw[hf] at hj;obtain⟨hp1,hp2⟩:=IJ rest count hr;simp only[K9,af,ae,aa,seval,iteOmega,toNatUp];refine aW (Nf G) rfl (.inl rfl) ?_;simp only[ae,aa,seval,iteOmega,toNatUp];refine aW hj rfl (.inl rfl) ?_;simp only[ae,aa,seval,iteOmega,toNatUp,a7,Wc,OW];refine aU (CM s rest count) (fun j=>(119-rest.length)%64-j) (fun j=>j≤(119-rest.length)%64) 0 (abc _) ?_ ?_
  ·refine aj (fun _=>136) ?_ ?_ rfl rfl <;> simp only[wx,ai,am,aa,seval,iteOmega,toNatUp]
  ·intro j hj;have hl:(rest++[128]++List.replicate j 0).length=rest.length+1+j:=by simp; omega
   have ht:((rest++[128]++List.replicate j 0).length:Int).tmod 64=(((rest.length+1+j)%64:Nat):Int):=by rw[hl]; rfl
   by_cases hlt:j<(119-rest.length)%64
   ·have e1:rest++[128]++List.replicate j 0++[0]=rest++[128]++List.replicate (j+1) 0:=by
      rw[abq,T9]
    generalize hx:rest++[128]++List.replicate j 0=x at *
    simp only[zg,CM,hx,ae,aa,seval,iteOmega,toNatUp,ht,a7,aak,OW,e1];refine aM (j+1) (by omega) (by omega) (aj (fun _=>192) ?_ ?_ rfl rfl) <;> simp only[wx,ai,am,aa,seval,iteOmega,toNatUp]
   ·obtain rfl:j=(119-rest.length)%64:=by omega
    generalize hx:rest++[128]++List.replicate ((119-rest.length)%64) 0=x at *
    simp only[zg,CM,hx,ae,aa,seval,iteOmega,toNatUp,ht];refine aW (rO G (count*8) 8 (by decide)) ?_ (.inl rfl) ?_
    ·simp only[ae,aa,seval,iteOmega,toNatUp]
    have hx2:x++aV (count*8) 8=ga rest count:=by rw[← hx]; rfl
    simp only[ae,aa,seval,iteOmega,toNatUp,a7,ig,hx2,bU];refine aU (CN s (ga rest count)) (fun n=>(ga rest count).length / 64-n) (fun n=>n≤(ga rest count).length / 64) 0 (abc _) ?_ ?_
    ·refine aj (fun _=>240) ?_ ?_ rfl rfl <;> simp only[wx,ai,am,aa,seval,iteOmega,toNatUp,ej]
    ·generalize hpk:ga rest count=p at *
     intro n hn;have hl8:=nR hs p n;by_cases hlt:n<p.length / 64
     ·have h2:((p.drop (64*n)).take 64).length=64:=by rw[abg,abi]; omega
      have e1:64*n+64-64*n=64:=by omega
      simp only[zh,CN,ae,aa,seval,iteOmega,toNatUp];refine aW (II G (ej s p n) ((p.drop (64*n)).take 64) hl8 h2) ?_ (.inr (aaU _ _)) ?_
      ·simp only[ae,aa,seval,iteOmega,toNatUp,dU,e1]
      simp only[ae,aa,seval,iteOmega,toNatUp];have e2:64*(n:Int)+64=64*((n:Int)+1):=by omega
      refine aM (n+1) (by omega) (by omega) (aj id ?_ ?_ rfl rfl) <;> simp only[wx,ai,am,aa,seval,iteOmega,toNatUp,ej,e2]
     ·obtain rfl:n=p.length / 64:=by omega
      have hfk:lC s rest count=gW (ej s p (p.length / 64)):=by unfold lC; rw[hpk]
      rw[hfk];simp only[CN];generalize ej s p (p.length / 64)=ws at hl8;have h64:¬ ((64*(p.length / 64):Nat):Int)<(p.length:Int):=by omega
      simp only[zh,ae,aa,seval,iteOmega,toNatUp,h64];refine aU (CO ws) (fun k=>8-k) (fun k=>k≤8) 0 (abc _) ?_ ?_
      ·refine aj (fun _=>360) ?_ ?_ rfl rfl <;> simp only[wx,ai,am,aa,seval,iteOmega,toNatUp,gW]
      ·intro k hk;by_cases hlt:k<8
       ·have hw1:(ws.getD k 0).toNat<4294967296:=word_lt _;have hwl:=tO (ws.take k);rw[abg] at hwl;simp only[zi,CO,ae,aa,seval,iteOmega,toNatUp,Yp (show k<ws.length by omega)];refine aW (rO G (ws.getD k 0).toNat 4 (by decide)) ?_ (.inl rfl) ?_
        ·simp only[ae,aa,seval,iteOmega,toNatUp]
        simp only[ae,aa,seval,iteOmega,toNatUp,a7,Er ws k (by omega),bU];refine aM (k+1) (by omega) (by omega) (aj (fun _=>456) ?_ ?_ rfl rfl) <;> simp only[wx,ai,am,aa,seval,iteOmega,toNatUp]
       ·obtain rfl:k=8:=by omega
        have:ws.take 8=ws:=aa9 (by omega);simp only[zi,CO,ae,aa,seval,iteOmega,toNatUp,this];exact dE (id:=1) (n:=(gW ws).length) (s:=1) (by simp only[wx,aa,seval,iteOmega,toNatUp]) (by simp only[wx,aa,seval,iteOmega,toNatUp]) (by rw[abh])
def Dy (b:List UInt8) (n:Nat):St:=⟨aQ [(0,.w (.c (.d (.sl (b.map bD))))),(3,.w (.c (.d (.sl ((ej dR b n).map wD))))),(4,.w (.c (.d (.sl (bK.map wD))))),(5,.w (.c (.d (.int .i64 ((64*(b.length / 64):Nat):Int))))),(6,.w (.c (.d (.int .i64 ((64*n:Nat):Int)))))],hL [],uL []⟩
def zj:aN := .seq (.seq (.reg [oM 13 6,oM 14 5,oO 15 (.bin .lss (.t 13) (.t 14))]) (.cond (.t 15) (.skip) (.exit 0))) (.seq (.block 1 (.reg [oM 18 3,oM 19 4,oM 20 0,oM 21 6,oM 22 6,oO 23 (.bin .add (.t 22) (kI 64)),oO 24 (.slice 1 (.t 20) (some (.t 21)) (some (.t 23)) none),oO 25 (.call 119 [(.t 18),(.t 19),(.t 24)] none),oM 3 25])) (.reg [oM 16 6,oO 17 (.bin .add (.t 16) (kI 64)),oM 6 17]))
def La:aH:=⟨1,33,.seq (.reg [oO 2 (.mv (.k (.c .nil)))]) (.seq (.reg [oO 7 (.call 117 [] none),oO 8 (.call 118 [] none),oM 3 7,oM 4 8]) (.seq (.reg [oM 9 0,oO 10 (.len (.t 9)),oO 11 (.bin .quo (.t 10) (kI 64)),oO 12 (.bin .mul (.t 11) (kI 64)),oM 5 12]) (.seq (.seq (.reg [oO 6 (.mv (kI 0))]) (.block 0 (.loop zj))) (.seq (.reg [oM 26 3,oM 27 0,oM 28 5,oO 29 (.slice 1 (.t 27) (some (.t 28)) none none),oM 30 0,oO 31 (.len (.t 30)),oO 32 (.call 120 [(.t 26),(.t 29),(.t 31)] (some (0,1))),oM 2 32]) (.ret))))),[(2,none)]⟩
theorem We:aG Tryz.prog { own:=[32],comp:=[],frz:=[],nils:=[] } Tryz.f84=some La:=by kernel_rfl
theorem pQ (G:ah) (b:List UInt8) (hb:b.length≤140737488355328):aw Tryz.prog G 84 [.sl (b.map bD)] (.w (.c (.fr 1 ((cC b).map bD)))):=by
  refine aI Tryz.func84 We rfl rfl ?_;have e1:(b.length:Int).tdiv 64=((b.length / 64:Nat):Int):=rfl;have e2:((b.length / 64:Nat):Int)*64=((64*(b.length / 64):Nat):Int):=by omega
  have e3:IntKind.i64.wrap ((64*(b.length / 64):Nat):Int)=((64*(b.length / 64):Nat):Int):=IntWalk.i64_in _ (by omega);have e4:IntKind.i64.wrap ((b.length / 64:Nat):Int)=((b.length / 64:Nat):Int):=IntWalk.i64_in _ (by omega);simp only[La,af,wx,wy,aa,seval,iteOmega,toNatUp];refine aW (Ym G) rfl (.inl rfl) ?_;simp only[wx,wy,aa,seval,iteOmega,toNatUp];refine aW (Nf G) rfl (.inl rfl) ?_;simp only[wx,wy,aa,seval,iteOmega,toNatUp,e1,e2,e3,e4];refine aU (Dy b) (fun n=>b.length / 64-n) (fun n=>n≤b.length / 64) 0 (abc _) ?_ ?_
  ·refine aj id ?_ ?_ rfl rfl <;> simp only[wx,ai,aa,seval,iteOmega,toNatUp,ej]
  ·intro n hn;have hl8:=nR qV b n;by_cases hlt:n<b.length / 64
   ·have h2:((b.drop (64*n)).take 64).length=64:=by rw[abg,abi]; omega
    have e1:64*n+64-64*n=64:=by omega
    have e5:IntKind.i64.wrap (((64*n:Nat):Int)+64)=((64*(n+1):Nat):Int):=by rw[IntWalk.i64_in _ (by omega)]; omega
    have e6:64*(n+1)-64*n=64:=by omega
    simp only[zj,Dy,wx,wy,aa,seval,iteOmega,toNatUp,e1,e5,e6];refine aW (II G (ej dR b n) ((b.drop (64*n)).take 64) hl8 h2) ?_ (.inl rfl) ?_
    ·simp only[wx,wy,aa,seval,iteOmega,toNatUp]
    simp only[wx,wy,aa,seval,iteOmega,toNatUp,e5];refine aM (n+1) (by omega) (by omega) (aj id ?_ ?_ rfl rfl) <;> simp only[wx,ai,aa,seval,iteOmega,toNatUp,ej]
   ·obtain rfl:n=b.length / 64:=by omega
    have e1:List.take (b.length-64*(b.length / 64)) (b.drop (64*(b.length / 64)))=b.drop (64*(b.length / 64)):=aa9 (by rw[abi]; exact abl _);simp only[zj,Dy,wx,wy,aa,seval,iteOmega,toNatUp,e1];refine aW (Yq G (ej dR b (b.length / 64)) (b.drop (64*(b.length / 64))) b.length hl8 (by rw[abi]; omega) hb) ?_ (.inl rfl) ?_
    ·simp only[wx,wy,aa,seval,iteOmega,toNatUp]
    simp only[wx,wy,aa,seval,iteOmega,toNatUp];exact dE (id:=256) (n:=(lC (ej dR b (b.length / 64)) (b.drop (64*(b.length / 64))) b.length).length) (s:=1) (by simp only[wx,aa,seval,iteOmega,toNatUp]) (by simp only[wx,aa,seval,iteOmega,toNatUp] <;> rfl) (by rw[abh]; rfl)

end Go.Proofs.YtlghfnidknfakaaGreatDoor
